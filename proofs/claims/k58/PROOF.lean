import PyProof.Rows.All
import Wide.All
import OpenK.AllK
import Wide.FinOn
import Lean
import PyProof.EqAt
import PyProof.EqKinds
import PyProof.TupleCall
import KE.KTupSum
import KE.KSortTup
import PyProof.SetKind
import PyProof.SetRoads
import PyProof.SetNew
import PyProof.DictKinds
import PyProof.NsDelKeeps
import PyProof.StrWalks
import KE.KEqDict
import KE.KDictList
import PyProof.AttrMissSeq
import PyProof.WalksMore
import KE.KDictOf
import PyProof.Rows.Range3
import KE.KItemsList
import PyProof.FactsAll.dict_3
import KE.KMinKey
import PyProof.Rows.CallKwBuiltin
import PyProof.TupleOfSeq
import KE.KLam
import KE.KNestM
import PyProof.Rows.StrNews
import KE.KIntText
import PyProof.TupleKey
import PyProof.DictFindH
import PyProof.DictRoadsH
import PyProof.DictItems
import PyProof.Rows.TupTab
import Wide.Seal
import PyProof.DictValues
import PySem.Challenge.RW_gaugewright_k58_plans_by_anybody
open Array renaming length_toList→fe,getElem?_eq_getElem→ft,toList_append→ic,getElem?_toList→jn,toList_extract→ml
open Bool renaming false_eq_true→dh,false_ne_true→ja,and_eq_true→jr
open False renaming elim→ow
open ForInStep renaming yield→qa
open Int renaming eq_ofNat_of_zero_le→gn,toNat_natCast→iy,emod_lt_of_pos→mn,emod_nonneg→nk
open List renaming mem_of_getElem?→bv,replicate→bx,getElem?_concat_length→ck,length_append→cu,getElem?_eq_getElem→cv,size_toArray→cz,mem_cons_of_mem→fb,length_map→ff,getElem?_append_left→fh,mem_cons_self→fi,getD_eq_getElem?_getD→fj,length_singleton→fk,length_cons→fu,range→gc,mem_append_right→ge,not_mem_nil→gg,eq_nil_of_length_eq_zero→gj,getElem?_map→gu,mem_cons→iq,map_cons→jc,extract_eq_take_drop→jl,map_append→jm,Nodup→jv,length_take→jw,mem_append_left→jz,append_assoc→kc,append_nil→km,toArray→ko,take_append_drop→ky,getElem?_set_self→li,lookup_cons→lu,getElem?_append_right→mq,mem_of_mem_take→ng,replicate_succ→on,all_eq_true→oq,getElem_mem→ot,take_length→ou,foldl→pf,getElem?_cons_zero→ph,getElem?_cons_succ→pi,map_map→pj,map_singleton→pk,getElem?_set_ne→pp,getElem?_take→qk,getElem?_drop→qm,mem_of_mem_drop→qr
open List.Perm renaming refl→oo
open Nat renaming le_refl→cx,ne_of_lt→gh,lt_of_lt_of_le→gq,le_trans→iz,zero_le→ji,le_of_lt→ku,lt_irrefl→ol,add_zero→rb
open Nat.succ renaming inj→rc
open Ne renaming symm→lr
open Option.some renaming inj→gk
open Or renaming inl→gx,inr→qy
open PyProof.Rows renaming wpS_bind→bw,wpS_pure→bz,arrOf→cf,Keyed→cq,pendingOf→cr,SortSt→fy,wpS_forRange→gf,slot_tuple_getitem→im,callWith_type1→jd,seqObj→jy,wpS_mono→ki,wpS_modify→kz,b2i→lg,setArr→mw,failedOf→qo,IntsAre→qp,get?_update_seq→qu,wpS_get→qv,SortKind→ra
open PySem renaming wpAny_bind→bj,Value→bn,PyData→bo,Shared→bp,wpAny_pure→bq,wpAny→cj,sizeLine→dw,Program→fg,starEach→fq,Around→fv,wpAny_newObj_type→fw,World→ga,bootBuiltins→gr,compareOp→io,wpAny_truthy_bool→iu,wpAny_holding→ix,wpAny_callSpecial?_slot→jg,sizeLine_eq→jj,codeAny_builtin→jp,wpAny_call_entry→jq,SetTable→ju,wpAny_rule→kn,mainGlobals→kr,binaryOp→kw,plainId_quiet→lh,Builtin→ls,wpAny_isInstance→lx,wpAny_Call_Name_kw→ly,wpAny_setField_rec→mh,wpAny_passesOwn→nc,wpAny_updateSeq→ni,wpAny_ite_false→nj,NameKind→nn,wpAny_setState_of→nr,sysModules→nu,wpAny_mono→nv,call_meets→ny,argBest→nz,wpAny_setEntries_of→oj,pyNext→ox,codeAny→pb,wpAny_typeOf→pc,FuncData→px,intItems→pz,rawInt→qc,wpAny_pyIter_list→qd,getItem→qq,backTo→qx,sliceBounds→qz,cLine→re
open PySem.Around renaming under_plainId→gy
open PySem.Builtin.List renaming listExtendWith→jf
open PySem.Builtin.Range renaming rangeSize→kh
open PySem.Builtin.Slice renaming slicePlaces→gp,sliceAdjust→kt
open PySem.Builtin.Str renaming occurrences→kf
open PySem.Builtin.Tuple renaming tupleExact→gz
open PySem.F renaming plain_min_loop→lv,plain_extend_loop→oh
open PySem.Heap renaming get?_push_of_some→bu,get?_push_size→df,lt_size→fm,get?_update_other→gw,SameBut→kl,get?_update_self→kx
open PySem.Heap.SameBut renaming update→kq
open PySem.Obj renaming mapSeq→gm
open PySem.PassesOwn renaming never→gl
open PySem.PyData renaming int→dj,eqv→fr,tuple→jb,canLayAll0→je,depthAll→jo,canLay0→jx,str→lq,bool→nq
open PySem.SeqAt renaming shaped→cw,canLay_of_shaped→fx
open PySem.SetTable renaming below→lz,grown→qg
open PySem.Str renaming ofString→qh
open PySem.Value renaming ref→ie,bool→ke,type→nt,none→qw
open PySem.W renaming Frag→cy,mg_none_of→jt,kia_one→qb
open Sum renaming inr→jh
open True renaming intro→oy
def cg:=@if_neg
def ci:=@if_pos
def fc:=@decide_eq_false
def gd:=@decide_eq_true
def nl:=@of_decide_eq_true
theorem yw{p:Prop}(h:p:=by omega):p:=h
theorem yv{p:Prop}(h:p:=by simp):p:=h
open Option (isSome_iff_exists map_eq_some_iff map_some)
open Nat (add_mul add_zero le_of_eq le_of_lt le_refl le_succ le_trans lt_irrefl lt_of_lt_of_le lt_succ_of_lt lt_trans mul_comm ne_of_gt ne_of_lt zero_add zero_le)
open List (all_cons all_eq_true all_map any_cons any_eq_false any_eq_true any_map append_assoc append_nil cons_append eq_nil_of_length_eq_zero extract_eq_take_drop filterMap_cons find?_cons flatten_cons foldl_cons getD_eq_getElem?_getD getElem?_append_left getElem?_append_right getElem?_concat_length getElem?_cons_succ getElem?_cons_zero getElem?_drop getElem?_eq_getElem getElem?_map getElem?_set_ne getElem?_set_self getElem?_take getElem_mem length_append length_cons length_drop length_map length_nil length_range length_set length_singleton length_take lookup_cons map_append map_cons map_map map_nil mem_append mem_append_left mem_append_right mem_cons mem_cons_of_mem mem_cons_self mem_filter mem_iff_getElem? mem_map mem_of_getElem? mem_of_mem_drop mem_of_mem_take mem_range mem_reverse mem_singleton nil_append nodup_append nodup_cons nodup_nil not_mem_nil of_mem_zip pairwise_append pairwise_cons replicate_succ reverse_cons set_cons_succ set_cons_zero size_toArray sum_append sum_cons take_add_one take_append_drop take_length take_zero)
open PySem.Heap (get?_push_of_some get?_push_size get?_update_other get?_update_self lt_size size_push)
open Array (getElem?_toList length_toList toList_append toList_extract toList_push)
theorem dz{p:Prop}[Decidable p](h:decide p=true:=by rfl):p:=nl h
set_option Elab.async false
set_option linter.all false
set_option maxRecDepth 100000
set_option maxHeartbeats 8000000
noncomputable section
namespace L2
open PySem PySem.Spec PyProof.Rows
section
abbrev Key:=Sum Int Str
def i4:Key->bn->Bool
 | .inl k,v=>Value.isInt k v
 | .inr x,v=>Value.isStrOf x v
def HH(w:ga):Key->Int
 | .inl k=>hashInt k
 | .inr x=>hashStr w x
theorem fC:∀{k:Key}{v:bn},i4 k v=true->(∃i t,k=Sum.inl i/\v=Value.int i t)\/(∃x t,k=jh x/\v=Value.str x t)
 | .inl i,v,h=>by
  obtain⟨t,e⟩:=Value.isInt_shape (k:=i) (v:=v) h;exact .inl ⟨i,t,rfl,e⟩
 | .inr x,v,h=>by
  obtain⟨t,e⟩:=Value.isStrOf_shape (x:=x) (v:=v) h;exact .inr ⟨x,t,rfl,e⟩
theorem Ix(i:Int)(t:Tok):i4 (.inl i) (.int i t)=true:=by simp[i4,Value.isInt]
theorem HQ(x:Str)(t:Tok):i4 (.inr x) (.str x t)=true:=by simp[i4,Value.isStrOf]
theorem DU(a b:Int):decide ((Sum.inl a:Key)=Sum.inl b)=(a==b):=by
 by_cases e:a=b
 ·subst e;simp
 ·have h:¬(Sum.inl a:Key)=Sum.inl b:=fun q=>e (Sum.inl.inj q);rw[fc h];exact(beq_eq_false_iff_ne.mpr e).symm
theorem Iv(a b:Str):decide ((jh a:Key)=jh b)=decide (a=b):=by
 by_cases e:a=b
 ·subst e;simp
 ·have h:¬(jh a:Key)=jh b:=fun q=>e (Sum.inr.inj q);rw[fc h,fc e]
theorem GI(a:Int)(b:Str):decide ((Sum.inl a:Key)=jh b)=false:=fc (fun q=>nomatch q)
theorem HU(a:Str)(b:Int):decide ((jh a:Key)=Sum.inl b)=false:=fc (fun q=>nomatch q)
def cI(prog:fg)(w:ga):PySem.KeyKind prog w Key where
 is:=i4
 hash:=HH w
 inj:=fun v a b ha hb=>by
  rcases fC ha with ⟨i,t,rfl,rfl⟩|⟨x,t,rfl,rfl⟩
  ·rcases fC hb with ⟨j,u,rfl,e⟩|⟨y,u,rfl,e⟩
   ·injection e with e1 _;rw[e1]
   ·exact nomatch e
  ·rcases fC hb with ⟨j,u,rfl,e⟩|⟨y,u,rfl,e⟩
   ·exact nomatch e
   ·injection e with e1 _;rw[e1]
 byValue:=fun k v h=>by
  rcases fC h with ⟨i,t,rfl,rfl⟩|⟨x,t,rfl,rfl⟩<;>rfl
 pyHash:=fun hv h=>by
  rcases fC hv with ⟨i,t,rfl,rfl⟩|⟨x,t,rfl,rfl⟩
  ·exact wpAny_pyHash_int h
  ·exact wpAny_pyHash_str h
 eqBool:=fun hu hv h=>by
  rcases fC hu with ⟨i,t,rfl,rfl⟩|⟨x,t,rfl,rfl⟩
  ·rcases fC hv with ⟨j,u,rfl,rfl⟩|⟨y,u,rfl,rfl⟩
   ·rw[DU]at h;exact wpAny_eqBool_int h
   ·rw[GI]at h;exact SeqAt.EqAt.int_str i t y u _ _ _ _ h
  ·rcases fC hv with ⟨j,u,rfl,rfl⟩|⟨y,u,rfl,rfl⟩
   ·rw[HU]at h;exact SeqAt.EqAt.str_int x t j u _ _ _ _ h
   ·rw[Iv]at h;exact wpAny_eqBool_str h
 «strs»:=fun k x t v h=>by
  rcases fC h with ⟨i,u,rfl,e⟩|⟨y,u,rfl,e⟩
  ·exact nomatch e
  ·injection e with e1 _
   subst e1;cases v<;>rfl
theorem Fv(prog:fg)(w:ga)(i:Int)(t:Tok):(cI prog w).is (.inl i) (.int i t)=true:=Ix i t
theorem Ha(prog:fg)(w:ga)(x:Str)(t:Tok):(cI prog w).is (.inr x) (.str x t)=true:=HQ x t
end
section
inductive V where
 |non|bl (b:Bool)|int (i:Int)|str (x:Str)|byt (b:Array UInt8)|flt (b:UInt64)|ref (a:Addr)|ty (n:String)
 deriving DecidableEq
def RelV:V->bn->Prop
 | .non,u=>u=qw
 | .bl b,u=>u=ke b
 | .int i,u=>∃t,u=Value.int i t
 | .str x,u=>∃t,u=Value.str x t
 | .byt b,u=>∃t,u=Value.bytes b t
 | .flt b,u=>∃t,u=Value.float b t
 | .ref a,u=>u=ie a
 | .ty n,u=>u=nt n
abbrev Vals:List V->List bn->Prop:=Paired RelV
theorem Vals.length{xs:List V}{us:List bn}(r:Vals xs us):xs.length=us.length:=Paired.length r
theorem Vals.get:∀{xs:List V}{us:List bn}{i:Nat}{x:V},Vals xs us->xs[i]?=some x->∃u,us[i]?=some u/\RelV x u
 |_,_,_,_,.nil,e=>by simp at e
 |_,_,0,_,.cons r _,e=>by simp at e;subst e;exact⟨_,rfl,r⟩
 |_,_,i+1,x,.cons _ t,e=>by
  obtain⟨u,h1,h2⟩:=Vals.get (i:=i) (x:=x) t (by simpa using e);exact⟨u,by simpa using h1,h2⟩
theorem Vals.set{x:V}{u:bn}(r:RelV x u):∀{xs:List V}{us:List bn} (i:Nat),Vals xs us->Vals (xs.set i x) (us.set i u)
 |_,_,_,.nil=>.nil
 |_,_,0,.cons _ t=>.cons r t
 |_,_,i+1,.cons q t=>.cons q (Vals.set r i t)
theorem Vals.append:∀{xs ys:List V}{us ws:List bn},Vals xs us->Vals ys ws->Vals (xs++ys) (us++ws)
 |_,_,_,_,.nil,s=>s
 |_,_,_,_,.cons r t,s=>.cons r (Vals.append t s)
theorem Vals.take:∀{xs:List V}{us:List bn} (n:Nat),Vals xs us->Vals (xs.take n) (us.take n)
 |_,_,0,_=>.nil
 |_,_,_+1,.nil=>.nil
 |_,_,n+1,.cons r t=>.cons r (Vals.take n t)
theorem Vals.drop:∀{xs:List V}{us:List bn} (n:Nat),Vals xs us->Vals (xs.drop n) (us.drop n)
 |_,_,0,r=>r
 |_,_,_+1,.nil=>.nil
 |_,_,n+1,.cons _ t=>Vals.drop n t
def RelO:Option V->Option bn->Prop
 |some v,some u=>RelV v u
 |none,none=>True
 |_,_=>False
def KV{κ:Type}:List (κ×V)->List (κ×bn)->Prop:=Paired fun(p:κ×V) (q:κ×bn)=>p.1=q.1/\RelV p.2 q.2
def kV:Key->V
 | .inl i=>.int i
 | .inr x=>.str x
inductive HO where
 |lst (xs:List V)
 |tup (xs:List V)
 |dK (kvs:List (Key×V))|dT (kvs:List (List Key×V))
 |set (S:Int->Bool) (n:Nat)
 |ins (C dx:Addr) (fs:List (Str×V))
 |own (x:Addr)
 |xd (fs:List (Str×V))
 |met (f x:Addr)
 |rng (lo hi:Int)
 |frz (o:Obj) (u:HO)
 |tbl (ps:Array bn)
 |ext (φ:Heap->Prop)
abbrev Hp:=Addr->Option HO
def upd(H:Hp)(a:Addr)(o:HO):Hp:=fun b=>if b=a then some o else H b
theorem cU{H:Hp}{a:Addr}{o:HO}:upd H a o a=some o:=by unfold upd;rw[ci rfl]
theorem aX{H:Hp}{a b:Addr}{o:HO}(h:b≠a):upd H a o b=H b:=by unfold upd;rw[cg h]
theorem tM{H:Hp}{a:Addr}{o u:HO}:upd (upd H a o) a u=upd H a u:=by
 funext b;unfold upd;split<;>rfl
theorem zS{H:Hp}{a b:Addr}{o:HO}(h:H a=some o)(h':H b=none):a≠b:=by
 intro e;subst e;rw[h]at h';cases h'
def TblOk(H:Hp)(ps qs:Array bn):Prop:=qs = #[]\/∃(l c:bn) (q:Str) (t:Tok) (k:Addr) (oc:Obj) (vs:Array bn) (t':Tok),ps = #[l,c,.str q t]/\qs = #[l,c,.ref k]/\H k=some (.frz oc (.own 0))/\oc.data=.fields vs/\vs[1]?=some (.str q t')
theorem TblOk.stay{H H':Hp}{ps qs:Array bn}(x:TblOk H ps qs)(hf:∀b o u,H b=some (.frz o u)->H' b=some (.frz o u)):TblOk H' ps qs:=by
 rcases x with x|⟨l,c,q,t,k,oc,vs,t',e1,e2,e3,r⟩
 ·exact .inl x
 ·exact .inr ⟨l,c,q,t,k,oc,vs,t',e1,e2,hf _ _ _ e3,r⟩
section
variable (P:fg) (w:ga)
def ObjOk(H:Hp)(h:Heap)(a:Addr):HO->Prop
 | .lst xs=>xs.length<=dw/\∃(its:List bn) (n:Nat),Vals xs its/\h.get? a=some { cls:=.type "list",data:=.seq its.toArray n }
 | .tup xs=>(xs.length<=dw/\∃o:Obj,h.get? a=some o/\o.dict=none)/\∃its:List bn,Vals xs its/\IsTup h a its.toArray
 | .dK kvs=>kvs.length<=dw/\(a==nu)=false/\∃vs,KV kvs vs/\h.DictOf (cI P w) a vs
 | .dT kvs=>kvs.length<=dw/\(a==nu)=false/\∃xs:List (List Key×Addr×bn),
   Paired (fun(p:List Key×V) (q:List Key×Addr×bn)=>p.1=q.1/\H q.2.1=some (.tup (p.1.map kV))/\RelV p.2 q.2.2) kvs xs /\
   ∃o es ep,h.get? a=some o/\o.ExactDict/\o.data=.dict es ep/\es.toList=xs.map (entryOfKey (tupleKind (cI P w)))/\(xs.map (·.1)).Nodup
 | .set S n=>h.SetOf (intKind P w) a S n
 | .ins C dx fs=>H dx=some (.own a)/\fs.length<=1000/\dx≠a/\h.get? a=some (W.instObj C dx) /\
   ∃mA,h.Ns1 dx mA/\(∀f,RelO (fs.lookup f) (mA f))/\PySem.Within mA (fs.map (·.1))
 | .own _=>∃o,h.get? a=some o
 | .xd fs=>∃mA,h.Ns1 a mA/\∀f,RelO (fs.lookup f) (mA f)
 | .rng lo hi=>∃t u v,h.get? a=some { cls:=.type "range",data:=.fields #[.int lo t,.int hi u,.int 1 v] }
 | .frz o u=>h.get? a=some o/\ObjOk H h a u
 | .tbl ps=>∃qs:Array bn,h.get? a=some { cls:=.none,data:=.fields qs }/\TblOk H ps qs
 | .met f x=>h.get? a=some (W.methodObj (.ref f) (.ref x))
 | .ext φ=>φ h/\(∃o,h.get? a=some o)/\∀h1 h2:Heap,φ h1->(∀o,h1.get? a=some o->h2.get? a=some o)->φ h2
def HOk(H:Hp)(h:Heap):Prop:=∀a o,H a=some o->ObjOk P w H h a o
end
section
variable {P:fg}{w:ga}{H H':Hp}{h h':Heap}{a:Addr}{o:HO}
theorem ObjOk.lt(x:ObjOk P w H h a o):a<h.objs.size:=by
 cases o with
 |lst xs=>obtain⟨_,_,_,_,e⟩:=x;exact fm e
 |tup xs=>obtain⟨_,_,_,p⟩:=x;exact p.lt
 |dK kvs=>obtain⟨_,_,_,_,o,_,_,e,_⟩:=x;exact fm e
 |dT kvs=>obtain⟨_,_,_,_,o,_,_,e,_⟩:=x;exact fm e
 |set S n=>obtain⟨o,_,_,_,e,_⟩:=x;exact fm e
 |ins C dx fs=>obtain⟨_,_,_,e,_⟩:=x;exact fm e
 |own y=>obtain⟨_,e⟩:=x;exact fm e
 |xd fs=>obtain⟨_,⟨_,_,_,e,_⟩,_⟩:=x;exact fm e
 |rng lo hi=>obtain⟨_,_,_,e⟩:=x;exact fm e
 |frz ob u=>obtain⟨e,_⟩:=x;exact fm e
 |tbl ps=>obtain⟨_,e,_⟩:=x;exact fm e
 |met f y=>exact fm (show h.get? a=some _ from x)
 |ext φ=>obtain⟨_,⟨_,e⟩,_⟩:=x;exact fm e
theorem Paired.mapP{α β:Type}{F G:α->β->Prop}:∀{l₁:List α}{l₂:List β},Paired F l₁ l₂->(∀a b,F a b->G a b)->Paired G l₁ l₂
 |_,_,.nil,_=>.nil
 |_,_,.cons r t,f=>.cons (f _ _ r) (Paired.mapP t f)
theorem ObjOk.stay(x:ObjOk P w H h a o)(k:∀b u,(b=a\/H b=some (.own a))->h.get? b=some u->h'.get? b=some u)
  (ho:∀b,H b=some (.own a)->H' b=some (.own a)) (ht:∀b xs,H b=some (.tup xs)->H' b=some (.tup xs))
  (hf:∀b o u,H b=some (.frz o u)->H' b=some (.frz o u):=by first|exact fun _ _ _ q=>q|(intro b o u q;rw[aX (zS q (by assumption))];exact q)):ObjOk P w H' h' a o:=by
 induction o with
 |lst xs=>obtain⟨z,aa,n,r,e⟩:=x;exact⟨z,aa,n,r,k _ _ (.inl rfl) e⟩
 |tup xs=>obtain⟨⟨z,o2,e2,d2⟩,aa,r,ob,e,c⟩:=x;exact⟨⟨z,o2,k _ _ (.inl rfl) e2,d2⟩,aa,r,ob,k _ _ (.inl rfl) e,c⟩
 |dK kvs=>obtain⟨z,y,vs,r,ob,es,ep,e,c⟩:=x;exact⟨z,y,vs,r,ob,es,ep,k _ _ (.inl rfl) e,c⟩
 |dT kvs=>
  obtain⟨z,y,xs,r,ob,es,ep,e,c⟩:=x;exact⟨z,y,xs,Paired.mapP r fun p q z=>⟨z.1,ht _ _ z.2.1,z.2.2⟩,ob,es,ep,k _ _ (.inl rfl) e,c⟩
 |set S n=>obtain⟨ob,es,ep,t,e,c⟩:=x;exact⟨ob,es,ep,t,k _ _ (.inl rfl) e,c⟩
 |ins C dx fs=>
  obtain⟨d,z,ne,e,mA,⟨od,es,ep,e2,c⟩,r⟩:=x;exact⟨ho _ d,z,ne,k _ _ (.inl rfl) e,mA,⟨od,es,ep,k _ _ (.inr d) e2,c⟩,r⟩
 |own y=>obtain⟨ob,e⟩:=x;exact⟨ob,k _ _ (.inl rfl) e⟩
 |xd fs=>obtain⟨mA,⟨od,es,ep,e,c⟩,r⟩:=x;exact⟨mA,⟨od,es,ep,k _ _ (.inl rfl) e,c⟩,r⟩
 |rng lo hi=>obtain⟨t,u,v,e⟩:=x;exact⟨t,u,v,k _ _ (.inl rfl) e⟩
 |frz ob u ih=>obtain⟨e,q⟩:=x;exact⟨k _ _ (.inl rfl) e,ih q⟩
 |tbl ps=>
  obtain⟨qs,e,q⟩:=x;exact⟨qs,k a _ (.inl rfl) e,q.stay hf⟩
 |met f y=>
  have e:h.get? a=some (W.methodObj (.ref f) (.ref y)):=x;show h'.get? a=some (W.methodObj (.ref f) (.ref y));exact k a _ (.inl rfl) e
 |ext φ=>obtain⟨p,⟨o,e⟩,st⟩:=x;exact⟨st _ _ p fun o q=>k _ _ (.inl rfl) q,⟨o,k _ _ (.inl rfl) e⟩,st⟩
theorem HOk.lt(x:HOk P w H h)(e:H a=some o):a<h.objs.size:=(x a o e).lt
theorem HOk.fresh(x:HOk P w H h)(e:h.objs.size<=a):H a=none:=by
 cases q:H a with
 |none=>rfl
 |some u=>exact absurd (gq (x.lt q) e) (ol _)
theorem HOk.kept(x:HOk P w H h)(k:∀b u,h.get? b=some u->h'.get? b=some u):HOk P w H h':=fun a o e=>
 (x a o e).stay (fun b u _ q=>k b u q) (fun _ q=>q) fun _ _ q=>q
theorem HOk.laid(x:HOk P w H h)(k:∀b u,h.get? b=some u->h'.get? b=some u)(hp:h.objs.size<=a)(z:ObjOk P w (upd H a o) h' a o):HOk P w (upd H a o) h':=fun b u e=>by
 have hn:=x.fresh hp;by_cases hb:b=a
 ·subst hb;rw[cU]at e;cases e;exact z
 ·rw[aX hb]at e;exact(x b u e).stay (fun c v _ q=>k c v q) (fun c q=>by rw[aX (zS q hn)];exact q) fun c xs q=>by rw[aX (zS q hn)];exact q
end
def Rd(H:Hp)(a:Addr)(u:HO):Prop:=H a=some u\/∃o,H a=some (.frz o u)
theorem Rd.ok{P:fg}{w:ga}{H:Hp}{h:Heap}{a:Addr}{u:HO}(r:Rd H a u)(x:HOk P w H h):ObjOk P w H h a u:=by
 rcases r with r|⟨o,r⟩
 ·exact x a u r
 ·obtain⟨_,q⟩:=x a _ r;exact q
def Mut:Option HO->Prop
 |some (.lst _)=>True
 |some (.dK _)=>True
 |some (.dT _)=>True
 |some (.set _ _)=>True
 |some (.ins _ _ _)=>True
 |some (.ext _)=>True
 |_=>False
section
variable {P:fg}{w:ga}{H:Hp}{h h':Heap}{x e:Addr}{o':HO}
theorem HOk.write(ok:HOk P w H h)(mu:Mut (H x))(he:e=x\/H e=some (.own x))(k:∀b u,b≠e->h.get? b=some u->h'.get? b=some u)(ae:∃u,h'.get? e=some u)
  (new:ObjOk P w (upd H x o') h' x o'):HOk P w (upd H x o') h':=fun b u q=>by
 have aa:∀c y,H c=some (.own y)->c≠x:=fun c y r z=>by subst z;rw[r]at mu;exact mu
 have ab:∀c xs,H c=some (.tup xs)->c≠x:=fun c xs r z=>by subst z;rw[r]at mu;exact mu
 have ac:∀c o u,H c=some (.frz o u)->c≠x:=fun c o u r z=>by subst z;rw[r]at mu;exact mu
 by_cases hb:b=x
 ·subst hb;rw[cU]at q;cases q;exact new
 ·rw[aX hb]at q;by_cases hbe:b=e
  ·have q':H b=some (.own x):=by
    rcases he with z|z
    ·exact absurd (hbe.trans z) hb
    ·rw[hbe];exact z
   rw[q]at q';cases q';obtain⟨v,hv⟩:=ae;exact⟨v,by rw[hbe];exact hv⟩
  ·refine(ok b u q).stay (fun c v hc r=>k c v ?_ r) (fun c r=>by rw[aX (aa c b r)];exact r) (fun c xs r=>by rw[aX (ab c xs r)];exact r) fun c o u r=>by rw[aX (ac c o u r)];exact r
   rcases hc with rfl|hc
   ·exact hbe
   ·rintro rfl;rcases he with z|z
    ·exact aa c b hc z
    ·rw[hc]at z;cases z;exact hb rfl
end
structure Un(fs ex:List Addr)(H H':Hp)(h h':Heap):Prop where
 keep:∀b o,h.get? b=some o->H b=none->b∉fs->b∉ex->h'.get? b=some o
 slot:∀b o,h.get? b=some o->H b=none->b∈fs->b∉ex->∃sl,h'.get? b=some { o with slots:=sl }
 free:∀b o,h.get? b=some o->H b=none->b∉ex->H' b=none
 there:∀b o,h.get? b=some o->b∉ex->∃o',h'.get? b=some o'
 tups:∀b xs,H b=some (.tup xs)->H' b=some (.tup xs)
 frzs:∀b o u,H b=some (.frz o u)->H' b=some (.frz o u)
 tbls:∀b ps,H b=some (.tbl ps)->H' b=some (.tbl ps)
section
variable {fs fs' ex ex':List Addr}{H H1 H2:Hp}{h h1 h2 h':Heap}{a x e:Addr}{o:HO}
theorem Un.any(u:Un fs ex H H1 h h1){b:Addr}{ob:Obj}(q:h.get? b=some ob)(n:H b=none)(hx:b∉ex):∃sl,h1.get? b=some { ob with slots:=sl }:=by
 by_cases hb:b∈fs
 ·exact u.slot b ob q n hb hx
 ·exact⟨ob.slots,u.keep b ob q n hb hx⟩
theorem Un.trans(a:Un fs ex H H1 h h1)(b:Un fs ex H1 H2 h1 h2):Un fs ex H H2 h h2 where
 keep:=fun c ob q n hc hx=>b.keep c ob (a.keep c ob q n hc hx) (a.free c ob q n hx) hc hx
 slot:=fun c ob q n hc hx=>by
  obtain⟨sl,e1⟩:=a.slot c ob q n hc hx;obtain⟨z,e2⟩:=b.slot c _ e1 (a.free c ob q n hx) hc hx;exact⟨z,e2⟩
 free:=fun c ob q n hx=>by
  obtain⟨o',e1⟩:=a.there c ob q hx;exact b.free c o' e1 (a.free c ob q n hx) hx
 there:=fun c ob q hx=>by
  obtain⟨o',e1⟩:=a.there c ob q hx;exact b.there c o' e1 hx
 tups:=fun c xs q=>b.tups c xs (a.tups c xs q)
 frzs:=fun c ob xs q=>b.frzs c ob xs (a.frzs c ob xs q)
 tbls:=fun c ps q=>b.tbls c _ (a.tbls c ps q)
theorem Un.kept(k:∀b u,h.get? b=some u->h'.get? b=some u):Un fs ex H H h h':=
 ⟨fun b ob q _ _ _=>k b ob q,fun b ob q _ _ _=>⟨ob.slots,k b ob q⟩,fun _ _ _ n _=>n,fun b ob q _=>⟨ob,k b ob q⟩,fun _ _ q=>q,fun _ _ _ q=>q,fun _ _ q=>q⟩
theorem Un.refl:Un fs ex H H h h:=Un.kept fun _ _ q=>q
theorem Un.laid(k:∀b u,h.get? b=some u->h'.get? b=some u)(hp:h.objs.size<=a)(hn:H a=none):Un fs ex H (upd H a o) h h' where
 keep:=fun b u q _ _ _=>k b u q
 slot:=fun b u q _ _ _=>⟨u.slots,k b u q⟩
 free:=fun b u q n _=>by rw[aX (gh (gq (fm q) hp))];exact n
 there:=fun b u q _=>⟨u,k b u q⟩
 tups:=fun b xs q=>by rw[aX (zS q hn)];exact q
 frzs:=fun b u xs q=>by rw[aX (zS q hn)];exact q
 tbls:=fun b ps q=>by rw[aX (zS q hn)];exact q
theorem Un.write(mu:Mut (H x))(he:e=x\/H e=some (.own x))(k:∀b u,b≠e->h.get? b=some u->h'.get? b=some u)(aa:∃u,h'.get? e=some u):Un fs ex H (upd H x o) h h':=by
 have hx:∀b,H b=none->b≠x:=fun b n z=>by subst z;rw[n]at mu;exact mu
 have hb:∀b,H b=none->b≠e:=fun b n z=>by
  subst z;rcases he with r|r
  ·exact hx b n r
  ·rw[n]at r;cases r
 have hm:∀b u,H b=some u->¬ Mut (some u)->b≠x:=fun b u q nm z=>by subst z;rw[q]at mu;exact nm mu
 refine⟨fun b u q n _ _=>k b u (hb b n) q,fun b u q n _ _=>⟨u.slots,k b u (hb b n) q⟩,fun b u q n _=>by rw[aX (hx b n)];exact n,fun b u q _=>?_,
  fun b xs q=>by rw[aX (hm b _ q fun z=>z)];exact q,fun b u xs q=>by rw[aX (hm b _ q fun z=>z)];exact q,fun b ps q=>by rw[aX (hm b _ q fun z=>z)];exact q⟩
 by_cases hbe:b=e
 ·subst hbe;exact aa
 ·exact⟨u,k b u hbe q⟩
theorem Un.mono(u:Un fs ex H H1 h h1)(hs:∀b∈fs,b∈fs')(hx:∀b∈ex,b∈ex'):Un fs' ex' H H1 h h1:=
 ⟨fun b ob q n hb he=>u.keep b ob q n (fun z=>hb (hs b z)) fun z=>he (hx b z),fun _ _ q n _ he=>u.any q n fun z=>he (hx _ z),fun b ob q n he=>u.free b ob q n fun z=>he (hx b z),fun b ob q he=>u.there b ob q fun z=>he (hx b z),u.tups,u.frzs,u.tbls⟩
end
def trk(h:Heap)(H:Hp):List Addr:=(gc h.objs.size).filter fun a=>(H a).isSome
def fE(h:Heap)(H:Hp):Heap:=W.hideAll h (trk h H)
theorem Fd(h:Heap)(H:Hp):(fE h H).objs.size=h.objs.size:=W.hideAll_size _ _
theorem EN{h:Heap}{H:Hp}{b:Addr}{o:Obj}(e:h.get? b=some o)(n:H b=none):(fE h H).get? b=some o:=
 W.hideAll_get _ e fun hm=>by
  have q:(H b).isSome=true:=(mem_filter.mp hm).2;rw[n]at q;simp at q
theorem Ev{h:Heap}{H:Hp}{b:Addr}{o:Obj}(e:(fE h H).get? b=some o):h.get? b=some o/\H b=none:=by
 have e':h.get? b=some o:=W.of_hideAll (trk h H) e;refine⟨e',?_⟩;cases q:H b with
 |none=>rfl
 |some x=>
  have hm:b∈trk h H:=mem_filter.mpr ⟨mem_range.mpr (fm e'),by simp[q]⟩;have z:(fE h H).get? b=none:=W.hideAll_none (trk h H) hm;rw[z]at e;cases e
end
section
def tabsG:List ((Addr×Addr)×Array bn):=[]
def BltAt(base:Heap)(mg:Str->Option bn):Prop:=∃bm ob,mg "__builtins__" = some (.ref bm)/\bm≠builtinsNs/\base.get? bm=some ob/\ob.cls=.type "module"/\ob.dict=some builtinsNs/\ob.data=.plain
structure Frf(fs:List Addr)(H:Hp):Prop where
 free:∀b∈fs,H b=none
 tab:∀q∈tabsG,H q.1.2=some (.tbl q.2)
structure Mod(K:cy)(mg:Str->Option bn)(base:Heap):Prop where
 kin:K.In base
 glob:base.Ns kr mg
 blt:∃mb,base.Ns builtinsNs mb/\∀x:Str,x ≠ "__name__"->mb x=gr x
 nolimit:base.NoLimit
 bm:BltAt base mg
 hd:∀q∈tabsG,W.CodeHd base q.1.1 q.1.2
structure Cx where
 prog:fg
 w:ga
 K:cy
 mg:Str->Option bn
 base:Heap
 A:fv
 N:List Str
 s₀:bp
 H₀:Hp
 env:Env
 outer:List Env
 stack:List Env
 ex:List Addr
 fn:Str->Bool
 calm:Bool
 pn:List (Addr×Obj)
 xe:bn->bp->Prop
def frs(l:List Env):List Addr:=l.filterMap (·.frame)
abbrev Cx.fs (X:Cx):List Addr:=frs X.outer
def Vis(sc:Scope)(x:Str):Prop:=sc.names.lookup x=some .local\/sc.names.lookup x=some .cell\/sc.names.lookup x=some .free
def Loc(sc:Scope)(x:Str):Prop:=sc.names.lookup x=some .local\/sc.names.lookup x=some .cell
def Look(env:Env)(h:Heap)(m:Str->Option bn)(x:Str)(u:bn):Prop:=
 (env.kindOf x=some .local/\m x=some u)\/((env.kindOf x=some .cell\/env.kindOf x=some .free)/\∃c,env.cells.lookup x=some c/\h.IsCell c (some u))
structure Cx.Ok(X:Cx):Prop where
 mod:Mod X.K X.mg X.base
 kind:X.env.scope.kind=.function
 glob:X.env.globals=kr
 blt:X.env.builtins=builtinsNs
 above:X.s₀.heap.objs.size<=X.env.locals
 inj:∀x y c,X.env.cells.lookup x=some c->X.env.cells.lookup y=some c->x=y
 has:∀x,(X.env.kindOf x=some .cell\/X.env.kindOf x=some .free)->∃c,X.env.cells.lookup x=some c
 cab:∀x c,X.fn x=true->X.env.cells.lookup x=some c->X.s₀.heap.objs.size<=c
 hd:X.calm=true->X.A.handled=none
 frames:X.A.frames=some X.stack
 stk:X.stack=X.outer\/(X.stack=X.env::X.outer/\X.env.frame=some X.env.locals)
 exf:∀b∈X.ex,b≠X.env.locals/\∀x c,X.env.cells.lookup x=some c->c≠b
 bs:∀b o,X.base.get? b=some o->X.s₀.heap.get? b=some o/\X.H₀ b=none
 bsz:X.base.objs.size<=X.s₀.heap.objs.size
 noex:∀b o,X.base.get? b=some o->b∉X.ex
 exfs:∀b∈X.ex,b∉X.fs
 funs:X.s₀.heap.FunFrames X.base X.outer
 frf:Frf X.fs X.H₀
structure Inv(X:Cx)(zf:List (Addr×Obj))(σ:List (Option V))(H:Hp)(s:bp):Prop where
 ok:X.Ok
 os:s.os=X.s₀.os
 bare:AllBare s.gens
 base:Un X.fs X.ex X.H₀ H X.s₀.heap s.heap
 loc:∃m,s.heap.Ns X.env.locals m/\∀(i:Nat) (x:Str) (v:V),X.N[i]?=some x->σ[i]?=some (some v)->Vis X.env.scope x->∃u,RelV v u/\Look X.env s.heap m x u
 cell:∀x c,X.env.cells.lookup x=some c->∃v,s.heap.IsCell c v
 free:H X.env.locals=none
 freeC:∀x c,X.env.cells.lookup x=some c->H c=none
 pin:∀p∈X.pn++zf,s.heap.get? p.1=some p.2/\H p.1=none/\p.1≠X.env.locals/\p.1∉X.fs/\∀v,p.2.data≠.cell v
 hok:HOk X.prog X.w H s.heap
 len:σ.length=X.N.length
section
variable {X:Cx}{zf:List (Addr×Obj)}{σ:List (Option V)}{H H':Hp}{s:bp}{h':Heap}
theorem Cx.Ok.nofr(ok:X.Ok){b:Addr}{o:Obj}(e:X.base.get? b=some o):b∉X.fs:=fun hb=>by
 have:=(ok.funs.mem hb).1;rw[e]at this;cases this
theorem Inv.bs(I:Inv X zf σ H s):∀b o,X.base.get? b=some o->s.heap.get? b=some o/\H b=none:=fun b o e=>
 ⟨I.base.keep b o (I.ok.bs b o e).1 (I.ok.bs b o e).2 (I.ok.nofr e) (I.ok.noex b o e),I.base.free b o (I.ok.bs b o e).1 (I.ok.bs b o e).2 (I.ok.noex b o e)⟩
theorem Inv.bk(I:Inv X zf σ H s):∀b o,X.base.get? b=some o->s.heap.get? b=some o:=fun b o e=>(I.bs b o e).1
theorem Inv.mod(I:Inv X zf σ H s):Mod X.K X.mg X.base:=I.ok.mod
theorem Inv.kIn(I:Inv X zf σ H s):X.K.In s.heap:=I.ok.mod.kin.keeps I.bk
theorem Inv.lt(I:Inv X zf σ H s):X.env.locals<s.heap.objs.size:=let ⟨_,hn,_⟩:=I.loc;hn.lt
theorem Inv.sz(I:Inv X zf σ H s):X.s₀.heap.objs.size<=s.heap.objs.size:=iz I.ok.above (ku I.lt)
theorem Inv.nofs(I:Inv X zf σ H s){a:Addr}(h:s.heap.objs.size<=a):a∉X.fs:=fun hb=>by
 obtain⟨_,o,ho,_⟩:=I.ok.funs.mem hb;exact absurd (gq (fm ho) (iz I.sz h)) (ol _)
theorem Inv.cne(I:Inv X zf σ H s):∀x c,X.env.cells.lookup x=some c->c≠X.env.locals:=fun x c e z=>by
 obtain⟨v,o,ho,hd⟩:=I.cell x c e;obtain⟨m,⟨o',es,ep,q,aa,_⟩,_⟩:=I.loc;rw[z,q]at ho;cases ho;rw[aa]at hd;cases hd
theorem Inv.funs(I:Inv X zf σ H s):s.heap.FunFrames X.base X.outer:=by
 have all:∀(l:List Env),(∀b∈frs l,b∈X.fs)->X.s₀.heap.FunFrames X.base l->s.heap.FunFrames X.base l:=by
  intro l;induction l with
  |nil=>intro _ _;trivial
  |cons env r ih=>
   intro hs hl;obtain⟨hk,⟨L,o,hf,hn,ho,hd⟩,hr⟩:=hl;have hL:L∈X.fs:=hs L (by unfold frs;rw[filterMap_cons,hf];exact fi);obtain⟨sl,e⟩:=I.base.slot L o ho (I.ok.frf.free L hL) hL fun z=>I.ok.exfs L z hL;exact⟨hk,⟨L,_,hf,hn,e,hd⟩,ih (fun b hb=>hs b (by unfold frs;rw[filterMap_cons,hf];exact fb _ hb)) hr⟩
 exact all X.outer (fun _ hb=>hb) I.ok.funs
theorem Inv.stack(I:Inv X zf σ H s):s.heap.FunFrames X.base X.stack:=by
 rcases I.ok.stk with e|⟨e,hf⟩
 ·rw[e];exact I.funs
 ·rw[e];obtain⟨m,hn,_⟩:=I.loc;refine .cons (by rw[I.ok.kind];decide) hf hn ?_ I.funs;exact Heap.get?_none_of_le (iz I.ok.bsz I.ok.above)
theorem Inv.stkSub(I:Inv X zf σ H s):∀b∈frs X.stack,b∈X.env.locals::X.fs:=fun b hb=>by
 rcases I.ok.stk with e|⟨e,hf⟩
 ·rw[e]at hb;exact fb _ hb
 ·rw[e]at hb;unfold frs at hb;rw[filterMap_cons,hf]at hb;exact hb
theorem Inv.stkFree(I:Inv X zf σ H s):Frf (frs X.stack) H:=⟨fun b hb=>by
 rcases mem_cons.mp (I.stkSub b hb)with e|hb
 ·rw[e];exact I.free
 ·obtain⟨_,o,ho,_⟩:=I.ok.funs.mem hb;exact I.base.free b o ho (I.ok.frf.free b hb) fun z=>I.ok.exfs b z hb,fun q hq=>I.base.tbls _ _ (I.ok.frf.tab q hq)⟩
theorem Inv.step{g':Array GenState}{t':Nat}{d':Drawn}{ch:List Addr}(I:Inv X zf σ H s)
  (hch:∀b∈ch,(b∈X.ex\/X.s₀.heap.objs.size<=b)/\b≠X.env.locals/\(∀x c,X.env.cells.lookup x=some c->c≠b)/\∀p∈X.pn++zf,p.1≠b)
  (keep:∀b o,b≠X.env.locals->b∉X.fs->b∉ch->s.heap.get? b=some o->H b=none->h'.get? b=some o)
  (slot:∀b o,b≠X.env.locals->b∈X.fs->b∉ch->s.heap.get? b=some o->H b=none->∃sl,h'.get? b=some { o with slots:=sl }) (free:∀b o,b∉ch->s.heap.get? b=some o->H b=none->H' b=none)
  (there:∀b o,b∉ch->s.heap.get? b=some o->∃o',h'.get? b=some o')
  (tups:∀b xs,H b=some (.tup xs)->H' b=some (.tup xs)) (frzs:∀b o u,H b=some (.frz o u)->H' b=some (.frz o u)) (tbls:∀b ps,H b=some (.tbl ps)->H' b=some (.tbl ps))
  (ns:∀m,s.heap.Ns X.env.locals m->h'.Ns X.env.locals m) (hok:HOk X.prog X.w H' h') (hg:AllBare g'):
  Inv X zf σ H' { s with heap:=h',gens:=g',drawn:=d',toks:=t' }:=by
 have ae:∀b o,X.s₀.heap.get? b=some o->b≠X.env.locals:=fun b o e=>gh (gq (fm e) I.ok.above);have ac:∀b o,X.s₀.heap.get? b=some o->b∉X.ex->b∉ch:=fun b o e hx hb=>by
  rcases(hch b hb).1 with z|z
  ·exact hx z
  ·exact absurd (gq (fm e) z) (ol _)
 have aa:∀x c,X.env.cells.lookup x=some c->∀v,s.heap.IsCell c v->h'.IsCell c v:=fun x c e v ⟨o,ho,hd⟩=>by
  have ab:c∉ch:=fun z=>(hch c z).2.2.1 x c e rfl;by_cases hc:c∈X.fs
  ·obtain⟨sl,q⟩:=slot c o (I.cne x c e) hc ab ho (I.freeC x c e);exact⟨_,q,hd⟩
  ·exact⟨o,keep c o (I.cne x c e) hc ab ho (I.freeC x c e),hd⟩
 refine⟨I.ok,I.os,hg,⟨fun b o e n hb hx=>?_,fun b o e n hb hx=>?_,fun b o e n hx=>?_,fun b o e hx=>?_,fun b xs e=>tups b xs (I.base.tups b xs e),fun b o xs e=>frzs b o xs (I.base.frzs b o xs e),fun b ps e=>?_⟩,?_,fun x c e=>?_,?_,fun x c e=>?_,fun p hp=>?_,hok,I.len⟩
 ·exact keep b o (ae b o e) hb (ac b o e hx) (I.base.keep b o e n hb hx) (I.base.free b o e n hx)
 ·obtain⟨sl,e1⟩:=I.base.slot b o e n hb hx;obtain⟨af,e2⟩:=slot b _ (ae b o e) hb (ac b o e hx) e1 (I.base.free b o e n hx);exact⟨af,e2⟩
 ·obtain⟨o',e1⟩:=I.base.there b o e hx;exact free b o' (ac b o e hx) e1 (I.base.free b o e n hx)
 ·obtain⟨o',e1⟩:=I.base.there b o e hx;exact there b o' (ac b o e hx) e1
 ·exact tbls b _ (I.base.tbls b ps e)
 ·obtain⟨m,hn,hl⟩:=I.loc;refine⟨m,ns m hn,fun i x v e1 e2 e3=>?_⟩;obtain⟨u,r,l⟩:=hl i x v e1 e2 e3;refine⟨u,r,?_⟩;rcases l with l|⟨k,c,e,z⟩
  ·exact .inl l
  ·exact .inr ⟨k,c,e,aa x c e _ z⟩
 ·obtain⟨v,z⟩:=I.cell x c e;exact⟨v,aa x c e v z⟩
 ·obtain⟨m,⟨o,_,_,ho,_⟩,_⟩:=I.loc;exact free _ o (fun z=>(hch _ z).2.1 rfl) ho I.free
 ·obtain⟨v,o,ho,hd⟩:=I.cell x c e;exact free c o (fun z=>(hch c z).2.2.1 x c e rfl) ho (I.freeC x c e)
 ·obtain⟨e,n,ne,nf,d⟩:=I.pin p hp;have ab:p.1∉ch:=fun z=>(hch p.1 z).2.2.2 p hp rfl;exact⟨keep p.1 p.2 ne nf ab e n,free p.1 p.2 ab e n,ne,nf,d⟩
theorem Inv.un{t':Nat}(I:Inv X zf σ H s)(u:Un X.fs [] H H' s.heap h')(hok:HOk X.prog X.w H' h'):Inv X zf σ H' { s with heap:=h',toks:=t' }:=by
 obtain⟨m,⟨o,es,ep,ho,r⟩,_⟩:=id I.loc;obtain⟨sl,hL⟩:=u.any ho I.free yv;exact I.step (g':=s.gens) (d':=s.drawn) (ch:=[]) (fun _ z=>nomatch z) (fun b o _ hb _ e n=>u.keep b o e n hb yv) (fun b o _ hb _ e n=>u.slot b o e n hb yv) (fun b o _ e n=>u.free b o e n yv) (fun b o _ e=>u.there b o e yv) u.tups u.frzs u.tbls (fun m' hm=>by
  obtain⟨o',aa,ab,q,r'⟩:=hm;rw[ho]at q;cases q;exact⟨_,aa,ab,hL,r'⟩) hok I.bare
theorem Inv.call{g':Array GenState}{t':Nat}{d':Drawn}{ch:List Addr}(I:Inv X zf σ H s)(u:Un (frs X.stack) ch H H' s.heap h')(hok:HOk X.prog X.w H' h')(hg:AllBare g')
  (hch:∀b∈ch,(b∈X.ex\/X.s₀.heap.objs.size<=b)/\b≠X.env.locals/\(∀x c,X.env.cells.lookup x=some c->c≠b)/\∀p∈X.pn++zf,p.1≠b):
  Inv X zf σ H' { s with heap:=h',gens:=g',drawn:=d',toks:=t' }:=by
 obtain⟨m,⟨o,es,ep,ho,r⟩,_⟩:=id I.loc;obtain⟨sl,hL⟩:=u.any ho I.free fun z=>(hch _ z).2.1 rfl;exact I.step (ch:=ch) hch (fun b o hL hb hc e n=>u.keep b o e n (fun z=>(mem_cons.mp (I.stkSub b z)).elim hL hb) hc) (fun b o _ _ hc e n=>u.any e n hc) (fun b o hc e n=>u.free b o e n hc) (fun b o hc e=>u.there b o e hc) u.tups u.frzs u.tbls (fun m' hm=>by
  obtain⟨o',aa,ab,q,r'⟩:=hm;rw[ho]at q;cases q;exact⟨_,aa,ab,hL,r'⟩) hok hg
theorem Inv.turned{t':Nat}{it:Addr}(I:Inv X zf σ H s)(k:∀b o,b≠it->s.heap.get? b=some o->h'.get? b=some o)(hn:H it=none)(hL:it≠X.env.locals)
  (h1:it∈X.ex\/X.s₀.heap.objs.size<=it) (h2:∀x c,X.env.cells.lookup x=some c->c≠it) (h3:∀p∈X.pn++zf,p.1≠it):Inv X zf σ H { s with heap:=h',toks:=t' }:=by
 have aa:∀b u,H b=some u->b≠it:=fun b u e z=>by rw[z,hn]at e;cases e
 refine I.step (g':=s.gens) (d':=s.drawn) (ch:=[it]) (fun b hb=>?_) (fun b o _ _ hc e _=>k b o (fun z=>hc (by simp[z])) e) (fun b o _ _ hc e _=>⟨o.slots,k b o (fun z=>hc (by simp[z])) e⟩) (fun _ _ _ _ n=>n)
  (fun b o hc e=>⟨o,k b o (fun z=>hc (by simp[z])) e⟩) (fun _ _ e=>e) (fun _ _ _ e=>e) (fun _ _ e=>e) (fun m hm=>?_) (fun b u e=>?_) I.bare
 ·have e:b=it:=by simpa using hb
  subst e;exact⟨h1,hL,h2,h3⟩
 ·obtain⟨o,es,ep,ho,r⟩:=hm;exact⟨o,es,ep,k _ o (lr hL) ho,r⟩
 ·refine(I.hok b u e).stay (fun c v hc q=>k c v ?_ q) (fun _ q=>q) fun _ _ q=>q;rcases hc with z|z
  ·rw[z];exact aa b u e
  ·exact aa c _ z
theorem Inv.tok(I:Inv X zf σ H s)(t:Nat):Inv X zf σ H { s with toks:=t }:=I.un (h':=s.heap) (t':=t) Un.refl I.hok
theorem Inv.kept{t':Nat}(I:Inv X zf σ H s)(k:∀b u,s.heap.get? b=some u->h'.get? b=some u):Inv X zf σ H { s with heap:=h',toks:=t' }:=I.un (Un.kept k) (I.hok.kept k)
theorem Inv.laid{a:Addr}{o:HO}{t':Nat}(I:Inv X zf σ H s)(k:∀b u,s.heap.get? b=some u->h'.get? b=some u)(hp:s.heap.objs.size<=a)(q:ObjOk X.prog X.w (upd H a o) h' a o):
  Inv X zf σ (upd H a o) { s with heap:=h',toks:=t' }:=I.un (Un.laid k hp (I.hok.fresh hp)) (I.hok.laid k hp q)
theorem Inv.write{x e:Addr}{o:HO}{t':Nat}(I:Inv X zf σ H s)(mu:Mut (H x))(he:e=x\/H e=some (.own x))(k:∀b u,b≠e->s.heap.get? b=some u->h'.get? b=some u)(q:∃u,h'.get? e=some u)
  (new:ObjOk X.prog X.w (upd H x o) h' x o):Inv X zf σ (upd H x o) { s with heap:=h',toks:=t' }:=I.un (Un.write mu he k q) (I.hok.write mu he k q new)
theorem Inv.pins_of{q:List (Addr×Obj)}(I:Inv X zf σ H s)(h:∀p∈q,s.heap.get? p.1=some p.2/\H p.1=none/\p.1≠X.env.locals/\p.1∉X.fs/\∀v,p.2.data≠.cell v):Inv X q σ H s:=
 ⟨I.ok,I.os,I.bare,I.base,I.loc,I.cell,I.free,I.freeC,fun p hp=>(mem_append.mp hp).elim (fun z=>I.pin p (jz _ z)) (h p),I.hok,I.len⟩
theorem vN{N:List Str}(hN:N.Nodup){i j:Nat}{x:Str}(a:N[i]?=some x)(b:N[j]?=some x):i=j:=by
 obtain⟨h1,e1⟩:=List.getElem?_eq_some_iff.mp a;obtain⟨h2,e2⟩:=List.getElem?_eq_some_iff.mp b;exact(List.getElem_inj hN).mp (e1.trans e2.symm)
theorem ER{M:Model}{A:fv}{E:bn->bp->Prop}{i:Nat}{x:Str}{v:V}{u:bn}{Q:Unit->bp->Prop}(I:Inv X zf σ H s)(hN:X.N.Nodup)(hi:X.N[i]?=some x)(hx:Loc X.env.scope x)(r:RelV v u)
  (h:∀s',Inv X zf (σ.set i (some v)) H s'->(∃a,kl a s.heap s'.heap/\(a=X.env.locals\/X.env.cells.lookup x=some a))->Q () s') (hf:X.fn x=true\/X.env.scope.names.lookup x=some .local:=by first|exact .inl rfl|exact .inr rfl|assumption):cj M A (storeName X.env x u) Q E s:=by
 obtain⟨m,hn,hl⟩:=id I.loc;have ai:(X.env.scope.kind==.class||(X.env.scope.kind==.module&&X.env.locals != X.env.globals))=false:=by rw[I.ok.kind];rfl
 have aj:i<σ.length:=by rw[I.len];exact(List.getElem?_eq_some_iff.mp hi).1
 have ae:=I.cne;have aa:∀{a:Addr}{h':Heap},(∃o,s.heap.get? a=some o/\H a=none)->kl a s.heap h'->HOk X.prog X.w H h':=fun {a h'} ha hs b ob e=>by
  obtain⟨_,_,ab⟩:=ha;refine(I.hok b ob e).stay (fun c w' hc q=>(hs.2 c ?_).trans q) (fun _ q=>q) fun _ _ q=>q;rintro rfl;rcases hc with rfl|hc
  ·rw[ab]at e;cases e
  ·rw[ab]at hc;cases hc
 rcases hx with hk|hk
 ·refine wpAny_storeName_local hk hn (fun h' ak hs=>?_) ai;obtain⟨oL,_,_,al,_⟩:=id hn;refine h _ ⟨I.ok,I.os,I.bare,⟨fun b o e n hb hx=>?_,fun b o e n hb hx=>?_,I.base.free,fun b o e hx=>?_,I.base.tups,I.base.frzs,I.base.tbls⟩,⟨_,ak,fun j y v' e1 e2 e3=>?_⟩,fun y c e=>?_,I.free,I.freeC,fun p hp=>?_,aa ⟨oL,al,I.free⟩ hs,by simpa using I.len⟩ ⟨_,hs,.inl rfl⟩
  ·exact(hs.2 b (gh (gq (fm e) I.ok.above))).trans (I.base.keep b o e n hb hx)
  ·obtain⟨sl,e1⟩:=I.base.slot b o e n hb hx;exact⟨sl,(hs.2 b (gh (gq (fm e) I.ok.above))).trans e1⟩
  ·obtain⟨o',e1⟩:=I.base.there b o e hx;exact⟨o',(hs.2 b (gh (gq (fm e) I.ok.above))).trans e1⟩
  ·by_cases hj:j=i
   ·subst hj;rw[hi]at e1;cases e1;rw[li aj]at e2;cases e2;exact⟨u,r,.inl ⟨hk,yv⟩⟩
   ·rw[pp (lr hj)]at e2;obtain⟨u',r',q⟩:=hl j y v' e1 e2 e3;refine⟨u',r',?_⟩;rcases q with ⟨k,e⟩|⟨k,c,e,z⟩
    ·refine .inl ⟨k,?_⟩;have:y≠x:=fun e=>hj (vN hN e1 (e▸hi));simp[this,e]
    ·exact .inr ⟨k,c,e,z.sameBut hs (ae y c e)⟩
  ·obtain⟨w',z⟩:=I.cell y c e;exact⟨w',z.sameBut hs (ae y c e)⟩
  ·obtain⟨e,n,ne,nf,d⟩:=I.pin p hp;exact⟨(hs.2 p.1 ne).trans e,n,ne,nf,d⟩
 ·have ac:X.fn x=true:=by
   rcases hf with z|z
   ·exact z
   ·rw[z]at hk;cases hk
  obtain⟨c,hc⟩:=I.ok.has x (.inl hk);obtain⟨w',z⟩:=I.cell x c hc;refine wpAny_storeName_cell I.ok.kind hk hc z (fun h' ah hs=>?_);obtain⟨oc,ag,af⟩:=id z;refine h { s with heap:=h' } ⟨I.ok,I.os,I.bare,⟨fun b o e n hb hx=>?_,fun b o e n hb hx=>?_,I.base.free,fun b o e hx=>?_,I.base.tups,I.base.frzs,I.base.tbls⟩,⟨m,hn.sameBut hs (lr (ae x c hc)),fun j y v' e1 e2 e3=>?_⟩,fun y c' e=>?_,I.free,I.freeC,fun p hp=>?_,aa ⟨oc,ag,I.freeC x c hc⟩ hs,by simpa using I.len⟩ ⟨c,hs,.inr hc⟩
  ·exact(hs.2 b (gh (gq (fm e) (I.ok.cab x c ac hc)))).trans (I.base.keep b o e n hb hx)
  ·obtain⟨sl,e1⟩:=I.base.slot b o e n hb hx;exact⟨sl,(hs.2 b (gh (gq (fm e) (I.ok.cab x c ac hc)))).trans e1⟩
  ·obtain⟨o',e1⟩:=I.base.there b o e hx;exact⟨o',(hs.2 b (gh (gq (fm e) (I.ok.cab x c ac hc)))).trans e1⟩
  ·by_cases hj:j=i
   ·subst hj;rw[hi]at e1;cases e1;rw[li aj]at e2;cases e2;exact⟨u,r,.inr ⟨.inl hk,c,hc,ah⟩⟩
   ·rw[pp (lr hj)]at e2;obtain⟨u',r',q⟩:=hl j y v' e1 e2 e3;refine⟨u',r',?_⟩;rcases q with q|⟨k,c',e,z'⟩
    ·exact .inl q
    ·refine .inr ⟨k,c',e,z'.sameBut hs ?_⟩;rintro rfl;exact hj (vN hN e1 (I.ok.inj _ _ _ e hc▸hi))
  ·by_cases hcc:c'=c
   ·subst hcc;exact⟨_,ah⟩
   ·obtain⟨w2,z2⟩:=I.cell y c' e;exact⟨w2,z2.sameBut hs hcc⟩
  ·obtain⟨e,n,ne,nf,d⟩:=I.pin p hp;refine⟨(hs.2 p.1 ?_).trans e,n,ne,nf,d⟩;intro q;rw[q,ag]at e;have q':oc=p.2:=gk e;exact d w' (by rw[<- q'];exact af)
theorem vB{M:Model}{A:fv}{E:bn->bp->Prop}{i:Nat}{x:Str}{v:V}{u:bn}{Q:Unit->bp->Prop}(I:Inv X zf σ H s)(hN:X.N.Nodup)(hi:X.N[i]?=some x)(hx:Loc X.env.scope x)(r:RelV v u)
  (h:∀s',Inv X zf (σ.set i (some v)) H s'->Q () s') (hf:X.fn x=true\/X.env.scope.names.lookup x=some .local:=by first|exact .inl rfl|exact .inr rfl|assumption):cj M A (storeName X.env x u) Q E s:=
 ER I hN hi hx r (fun s' I' _=>h s' I') hf
theorem Inv.call'{s':bp}{ch:List Addr}(I:Inv X zf σ H s)(ho:s'.os=s.os)(u:Un (frs X.stack) ch H H' s.heap s'.heap)(hok:HOk X.prog X.w H' s'.heap)(hg:AllBare s'.gens)
  (hch:∀b∈ch,(b∈X.ex\/X.s₀.heap.objs.size<=b)/\b≠X.env.locals/\(∀x c,X.env.cells.lookup x=some c->c≠b)/\∀p∈X.pn++zf,p.1≠b):Inv X zf σ H' s':=by
 obtain⟨h',g',d',t',o'⟩:=s';have e:o'=s.os:=ho;subst e;exact I.call (g':=g') (t':=t') (d':=d') u hok hg hch
end
abbrev XK:=bn->Option Addr->Hp->Prop
abbrev St:=List (Option V)
abbrev VK:=V->Hp->Prop
abbrev TE:=St->Hp->VK->Prop
abbrev TT:=St->Hp->(Bool->Hp->Prop)->Prop
abbrev TA:=St->Hp->(List V->Hp->Prop)->Prop
structure Ends where
 nx:St->Hp->Prop
 rt:VK
 bk:St->Hp->Prop:=fun _ _=>False
 ct:St->Hp->Prop:=fun _ _=>False
abbrev TS:=Ends->St->Hp->Prop
def EP(X:Cx)(zf:List (Addr×Obj))(σ:St)(Q:VK)(u:bn)(s':bp):Prop:=∃v H',Inv X zf σ H' s'/\RelV v u/\Q v H'
def TP(X:Cx)(zf:List (Addr×Obj))(σ:St)(Q:Bool->Hp->Prop)(b:Bool)(s':bp):Prop:=∃H',Inv X zf σ H' s'/\Q b H'
def AP(X:Cx)(zf:List (Addr×Obj))(σ:St)(Q:List V->Hp->Prop)(us:List bn)(s':bp):Prop:=∃vs H',Inv X zf σ H' s'/\Vals vs us/\Q vs H'
def SP(X:Cx)(zf:List (Addr×Obj))(D:Ends)(f:Flow)(s':bp):Prop:=
 match f with
 | .next=>∃ σ' H',Inv X zf σ' H' s'/\D.nx σ' H'
 | .brk=>∃ σ' H',Inv X zf σ' H' s'/\D.bk σ' H'
 | .cont=>∃ σ' H',Inv X zf σ' H' s'/\D.ct σ' H'
 | .ret u=>∃v σ' H',Inv X zf σ' H' s'/\RelV v u/\D.rt v H'
def PE(X:Cx)(e:Expr)(t:TE):Prop:=
 ∀(zf:List (Addr×Obj)) (s:bp) (σ:St) (H:Hp) (Q:VK),Inv X zf σ H s->t σ H Q->cj (model X.prog X.w) X.A (eval e X.env) (EP X zf σ Q) X.xe s
def PT(X:Cx)(e:Expr)(t:TT):Prop:=
 ∀(zf:List (Addr×Obj)) (s:bp) (σ:St) (H:Hp) (Q:Bool->Hp->Prop),Inv X zf σ H s->t σ H Q->cj (model X.prog X.w) X.A (isTrue e X.env (eval e X.env)) (TP X zf σ Q) X.xe s
def PW(X:Cx)(e:Expr)(t:TT):Prop:=
 ∀(whole:Sem bn) (zf:List (Addr×Obj)) (s:bp) (σ:St) (H:Hp) (Q:Bool->Hp->Prop),Inv X zf σ H s->t σ H Q->cj (model X.prog X.w) X.A (isTrue e X.env whole) (TP X zf σ Q) X.xe s
theorem PW.pt{X:Cx}{e:Expr}{t:TT}(h:PW X e t):PT X e t:=h _
def PA(X:Cx)(es:List Expr)(t:TA):Prop:=
 ∀(pos:Pos) (zf:List (Addr×Obj)) (s:bp) (σ:St) (H:Hp) (Q:List V->Hp->Prop),Inv X zf σ H s->t σ H Q->cj (model X.prog X.w) X.A (spliced (qx pos (fq es X.env))) (AP X zf σ Q) X.xe s
def PS(X:Cx)(st:Stmt)(t:TS):Prop:=
 ∀(zf:List (Addr×Obj)) (s:bp) (σ:St) (H:Hp) (D:Ends),Inv X zf σ H s->t D σ H->cj (model X.prog X.w) X.A (exec st X.env) (SP X zf D) X.xe s
def PSs(X:Cx)(st:List Stmt)(t:TS):Prop:=
 ∀(zf:List (Addr×Obj)) (s:bp) (σ:St) (H:Hp) (D:Ends),Inv X zf σ H s->t D σ H->cj (model X.prog X.w) X.A (execs st X.env) (SP X zf D) X.xe s
theorem thn{α:Type}{t:Sem α}{Q Q':α->bp->Prop}{M:Model}{A:fv}{E:bn->bp->Prop}{s:bp}(h:cj M A t Q E s)(hQ:∀a s,Q a s->Q' a s):cj M A t Q' E s:=nv h hQ fun _ _ x=>x
end
section
section
variable {X:Cx}
def fI(i:Nat):TE:=fun σ H Q=>∃v,σ[i]?=some (some v)/\Q v H
def tC(v:V):TE:=fun _ H Q=>Q v H
theorem Gi{i:Nat}{x:Str}{pos:Pos}(hN:X.N[i]?=some x)(hv:Vis X.env.scope x)(hd:(x==("__debug__":Str))=false:=by decide)(q:(x==("__classdict__":Str))=false:=by decide):PE X (.Name x pos) (fI i):=by
 intro zf s σ H Q I h;obtain⟨v,e,h⟩:=h;obtain⟨m,hn,hl⟩:=I.loc;obtain⟨u,r,l⟩:=hl i x v hN e hv;have fin:EP X zf σ Q u s:=⟨v,H,I,r,h⟩;rcases l with ⟨hk,hm⟩|⟨hk,c,hc,hcell⟩
 ·exact wpAny_Name (wpAny_loadName_local I.ok.kind hk hn hm fin) hd
 ·rcases hk with hk|hk
  ·exact wpAny_Name (wpAny_loadName_cell I.ok.kind hk hc hcell fin) hd
  ·exact wpAny_Name (wpAny_loadName_free I.ok.kind hk hc hcell fin q) hd
theorem zd{i j pos}:PE X (.Constant (.int i) j pos) (tC (.int i)):=fun _ _ _ H _ I h=>wpAny_Constant_int ⟨.int i,H,I.tok _,⟨_,rfl⟩,h⟩
theorem b6{b j pos}:PE X (.Constant (.bool b) j pos) (tC (.bl b)):=fun _ _ _ H _ I h=>Constant_bool ⟨.bl b,H,I,rfl,h⟩
theorem qF{j pos}:PE X (.Constant .none j pos) (tC .non):=fun _ _ _ H _ I h=>Constant_none ⟨.non,H,I,rfl,h⟩
theorem zY{x j pos}:PE X (.Constant (.str x) j pos) (tC (.str x)):=fun _ _ _ H _ I h=>Calls.Constant_str ⟨.str x,H,I.tok _,⟨_,rfl⟩,h⟩
def Gl(X:Cx)(x:Str):Prop:=X.env.kindOf x=some .globalImplicit
theorem AQ{E:bn->bp->Prop}{zf:List (Addr×Obj)}{s:bp}{σ:St}{H:Hp}{x:Str}{u:bn}{pos:Pos}{Q:bn->bp->Prop}(I:Inv X zf σ H s)(hg:Gl X x)(hm:X.mg x=some u)(h:Q u s)
  (hd:(x==("__debug__":Str))=false:=by decide):cj (model X.prog X.w) X.A (eval (.Name x pos) X.env) Q E s:=
 Calls.Name_function_global I.ok.kind hg (Calls.loadGlobal_global (by rw[I.ok.glob];exact I.mod.glob.keeps I.bk) hm h) hd
theorem fL{E:bn->bp->Prop}{zf:List (Addr×Obj)}{s:bp}{σ:St}{H:Hp}{x:Str}{u:bn}{pos:Pos}{Q:bn->bp->Prop}(I:Inv X zf σ H s)(hg:Gl X x)(hm:X.mg x=none)(hv:gr x=some u)(h:Q u s)
  (hn:x ≠ "__name__":=by decide) (hd:(x==("__debug__":Str))=false:=by decide):cj (model X.prog X.w) X.A (eval (.Name x pos) X.env) Q E s:=by
 obtain⟨mb,h1,h2⟩:=I.mod.blt;exact Calls.Name_function_global I.ok.kind hg (Calls.loadGlobal_builtin (by rw[I.ok.glob];exact I.mod.glob.keeps I.bk) hm (by rw[I.ok.blt];exact h1.keeps I.bk) ((h2 x hn).trans hv) h) hd
theorem sV{x:Str}{v:V}{u:bn}{pos:Pos}(hg:Gl X x)(hm:X.mg x=some u)(r:RelV v u)(hd:(x==("__debug__":Str))=false:=by decide):PE X (.Name x pos) (tC v):=
 fun _ _ _ H _ I h=>AQ I hg hm ⟨v,H,I,r,h⟩ hd
theorem eE{x:Str}{v:V}{u:bn}{pos:Pos}(hg:Gl X x)(hm:X.mg x=none)(hv:gr x=some u)(r:RelV v u)(hn:x ≠ "__name__":=by decide)(hd:(x==("__debug__":Str))=false:=by decide):PE X (.Name x pos) (tC v):=
 fun _ _ _ H _ I h=>fL I hg hm hv ⟨v,H,I,r,h⟩ hn hd
variable {a b:Expr}{ta tb:TE}{pos:Pos}
variable {tA tB':TT}{rest:List Expr}
def AH(t u:TT):TT:=fun σ H Q=>t σ H fun c H1=>if c=true then u σ H1 Q else Q false H1
def tOr(t u:TT):TT:=fun σ H Q=>t σ H fun c H1=>if c=true then Q true H1 else u σ H1 Q
def CO(t:TT):TT:=fun σ H Q=>t σ H fun c H1=>Q (!c) H1
theorem uY(ha:PT X a tA):PW X (.BoolOp .And [a] pos) tA:=by
 intro wh zf s σ H Q I h;refine isTrue_and (thn (ha zf s σ H Q I h) fun c s1 e=>?_);cases c with
 |true=>exact isTrue_and_nil e
 |false=>exact e
theorem iM(ha:PT X a tA):PW X (.BoolOp .Or [a] pos) tA:=by
 intro wh zf s σ H Q I h;refine isTrue_or (thn (ha zf s σ H Q I h) fun c s1 e=>?_);cases c with
 |false=>exact isTrue_or_nil e
 |true=>exact e
theorem tB(ha:PT X a tA)(hb:PW X (.BoolOp .And (b::rest) pos) tB'):PW X (.BoolOp .And (a::b::rest) pos) (AH tA tB'):=by
 intro wh zf s σ H Q I h;refine isTrue_and (thn (ha zf s σ H _ I h) fun c s1 ⟨H1,I1,q1⟩=>?_);cases c with
 |true=>exact hb wh zf s1 σ H1 Q I1 q1
 |false=>exact⟨H1,I1,q1⟩
theorem dY(ha:PT X a tA)(hb:PW X (.BoolOp .Or (b::rest) pos) tB'):PW X (.BoolOp .Or (a::b::rest) pos) (tOr tA tB'):=by
 intro wh zf s σ H Q I h;refine isTrue_or (thn (ha zf s σ H _ I h) fun c s1 ⟨H1,I1,q1⟩=>?_);cases c with
 |true=>exact⟨H1,I1,q1⟩
 |false=>exact hb wh zf s1 σ H1 Q I1 q1
theorem dE(ha:PT X a tA):PT X (.UnaryOp .Not a pos) (CO tA):=by
 intro zf s σ H Q I h;exact isTrue_not (ha zf s σ H (fun c H1=>Q (!c) H1) I h)
def By(ta tb:TE):TE:=fun σ H Q=>ta σ H fun x H1=>∃c,x=.bl c/\if c=true then tb σ H1 Q else Q (.bl false) H1
def C6(ta:TE):TE:=fun σ H Q=>ta σ H fun x H1=>∃c,x=.bl c/\Q (.bl (!c)) H1
theorem oW{op}{t:TE}(h:PE X a t):PE X (.BoolOp op [a] pos) t:=fun zf s σ H Q I hw=>BoolOp_one (h zf s σ H Q I hw)
theorem qK(ha:PE X a ta)(hb:PE X (.BoolOp .And (b::rest) pos) tb):PE X (.BoolOp .And (a::b::rest) pos) (By ta tb):=by
 intro zf s σ H Q I h;refine BoolOp_and (thn (ha zf s σ H _ I h) fun v s1 ⟨x,H1,I1,r1,q1⟩=>?_);obtain⟨c,rfl,q1⟩:=q1;cases r1;refine iu ?_;cases c with
 |true=>exact hb zf s1 σ H1 Q I1 q1
 |false=>exact⟨.bl false,H1,I1,rfl,q1⟩
theorem wF(ha:PE X a ta):PE X (.UnaryOp .Not a pos) (C6 ta):=by
 intro zf s σ H Q I h;refine UnaryOp_ (thn (ha zf s σ H _ I h) fun v s1 ⟨x,H1,I1,r1,q1⟩=>?_);obtain⟨c,rfl,q1⟩:=q1;cases r1;exact not_of (iu ⟨.bl (!c),H1,I1,rfl,q1⟩)
end
end
section
def SqL(K:cy)(H:Hp)(a:Addr)(xs:List V):Prop:=
 Rd H a (.lst xs) \/
  ∃(o:Obj) (its:Array bn) (n:Nat),K.lookup a=some o/\o.cls=.type "list"/\o.dict=none/\o.data=.seq its n/\its.size<=dw/\Vals xs its.toList
def SqT(K:cy)(H:Hp)(a:Addr)(xs:List V):Prop:=
 Rd H a (.tup xs) \/
  ∃(o:Obj) (its:Array bn) (n:Nat),K.lookup a=some o/\o.cls=.type "tuple"/\o.data=.seq its n/\its.size<=dw/\Vals xs its.toList
def E4:bn->Option V
 | .none=>some .non
 | .bool b=>some (.bl b)
 | .int i _=>some (.int i)
 | .str x _=>some (.str x)
 | .bytes b _=>some (.byt b)
 | .float b _=>some (.flt b)
 | .ref a=>some (.ref a)
 | .type n=>some (.ty n)
 |_=>none
theorem RelV.abs{x:V}{u:bn}(r:RelV x u):E4 u=some x:=by
 cases x with
 |non=>cases r;rfl
 |bl _=>cases r;rfl
 |int _=>obtain⟨t,rfl⟩:=r;rfl
 |str _=>obtain⟨t,rfl⟩:=r;rfl
 |byt _=>obtain⟨t,rfl⟩:=r;rfl
 |flt _=>obtain⟨t,rfl⟩:=r;rfl
 |ref _=>cases r;rfl
 |ty _=>cases r;rfl
theorem RelV.inj{x y:V}{u:bn}(r:RelV x u)(q:RelV y u):x=y:=gk (r.abs.symm.trans q.abs)
theorem Vals.inj:∀{xs ys:List V}{us:List bn},Vals xs us->Vals ys us->xs=ys
 |_,_,_,.nil,.nil=>rfl
 |_,_,_,.cons r t,.cons r' t'=>by rw[r.inj r',Vals.inj t t']
section
variable {X:Cx}{zf:List (Addr×Obj)}{σ:St}{H:Hp}{s:bp}{a:Addr}{xs ys:List V}
theorem SqL.of{K:cy}(h:H a=some (.lst xs)):SqL K H a xs:=.inl (.inl h)
theorem SqT.of{K:cy}(h:H a=some (.tup xs)):SqT K H a xs:=.inl (.inl h)
theorem Inv.list(I:Inv X zf σ H s)(h:SqL X.K H a xs):∃q:List bn,Vals xs q/\PlainL s.heap a q.toArray/\xs.length<=dw:=by
 rcases h with h|⟨o,q,n,hk,hc,hd,hs,hz,r⟩
 ·obtain⟨z,q,n,r,e⟩:=h.ok I.hok;exact⟨q,r,⟨_,n,e,rfl,rfl,rfl⟩,z⟩
 ·refine⟨q.toList,r,⟨o,n,I.kIn a o hk,hc,hd,by simpa using hs⟩,?_⟩;have e:=r.length;simp only[fe]at e;omega
theorem Inv.tuple(I:Inv X zf σ H s)(h:SqT X.K H a xs):∃q:List bn,Vals xs q/\IsTup s.heap a q.toArray/\xs.length<=dw:=by
 rcases h with h|⟨o,q,n,hk,hc,hs,hz,r⟩
 ·obtain⟨z,q,r,p⟩:=h.ok I.hok;exact⟨q,r,p,z.1⟩
 ·refine⟨q.toList,r,⟨o,I.kIn a o hk,hc,n,by simpa using hs⟩,?_⟩;have e:=r.length;simp only[fe]at e;omega
theorem Inv.list_inj(I:Inv X zf σ H s)(h:SqL X.K H a xs)(h':SqL X.K H a ys):xs=ys:=by
 obtain⟨q,r,⟨o,n,e,_,_,d⟩,_⟩:=I.list h;obtain⟨its',r',⟨o',n',e',_,_,d'⟩,_⟩:=I.list h';rw[e]at e';cases e';rw[d]at d';injection d' with d1 _
 have:q=its':=by simpa using congrArg Array.toList d1
 subst this;exact r.inj r'
theorem Inv.tuple_inj(I:Inv X zf σ H s)(h:SqT X.K H a xs)(h':SqT X.K H a ys):xs=ys:=by
 obtain⟨q,r,⟨o,e,_,n,d⟩,_⟩:=I.tuple h;obtain⟨its',r',⟨o',e',_,n',d'⟩,_⟩:=I.tuple h';rw[e]at e';cases e';rw[d]at d';injection d' with d1 _
 have:q=its':=by simpa using congrArg Array.toList d1
 subst this;exact r.inj r'
end
abbrev Cx.wish (X:Cx) (E:bn->bp->Prop):Cx:={ X with xe:=E }
abbrev Cx.nox (X:Cx):Cx:=X.wish fun _ _=>False
theorem Cx.Ok.wish{X:Cx}(ok:X.Ok)(E:bn->bp->Prop):(X.wish E).Ok:=
 ⟨ok.mod,ok.kind,ok.glob,ok.blt,ok.above,ok.inj,ok.has,ok.cab,ok.hd,ok.frames,ok.stk,ok.exf,ok.bs,ok.bsz,ok.noex,ok.exfs,ok.funs,ok.frf⟩
theorem Cx.Ok.unwish{X:Cx}{E:bn->bp->Prop}(ok:(X.wish E).Ok):X.Ok:=
 ⟨ok.mod,ok.kind,ok.glob,ok.blt,ok.above,ok.inj,ok.has,ok.cab,ok.hd,ok.frames,ok.stk,ok.exf,ok.bs,ok.bsz,ok.noex,ok.exfs,ok.funs,ok.frf⟩
section
variable {X:Cx}{zf:List (Addr×Obj)}{σ:St}{H:Hp}{s:bp}{E:bn->bp->Prop}
theorem Inv.wish(I:Inv X zf σ H s)(E:bn->bp->Prop):Inv (X.wish E) zf σ H s:=⟨I.ok.wish E,I.os,I.bare,I.base,I.loc,I.cell,I.free,I.freeC,I.pin,I.hok,I.len⟩
theorem Inv.unwish(I:Inv (X.wish E) zf σ H s):Inv X zf σ H s:=⟨I.ok.unwish,I.os,I.bare,I.base,I.loc,I.cell,I.free,I.freeC,I.pin,I.hok,I.len⟩
theorem SP.unwish{D:Ends}{f:Flow}{s':bp}(h:SP (X.wish E) zf D f s'):SP X zf D f s':=by
 cases f with
 |next=>obtain⟨σ',H',I,q⟩:=h;exact⟨σ',H',I.unwish,q⟩
 |brk=>obtain⟨σ',H',I,q⟩:=h;exact⟨σ',H',I.unwish,q⟩
 |cont=>obtain⟨σ',H',I,q⟩:=h;exact⟨σ',H',I.unwish,q⟩
 |ret u=>obtain⟨v,σ',H',I,r,q⟩:=h;exact⟨v,σ',H',I.unwish,r,q⟩
theorem PSs.nox{st:List Stmt}{t:TS}(h:PSs X.nox st t):PSs X st t:=fun zf s σ H D I hw=>
 nv (h zf s σ H D (I.wish _) hw) (fun _ _ q=>q.unwish) fun _ _ z=>ow z
end
section
variable {X:Cx}{st:Stmt}{rest:List Stmt}{t u:TS}{e:Expr}{te:TE}{pos:Pos}
def rX:TS:=fun D σ H=>D.nx σ H
def cJ(t u:TS):TS:=fun D σ H=>t { D with nx:=u D } σ H
theorem zO:PSs X [] rX:=fun _ _ σ H _ I h=>wpAny_execs_nil ⟨σ,H,I,h⟩
theorem ze(h1:PS X st t)(h2:PSs X rest u):PSs X (st::rest) (cJ t u):=by
 intro zf s σ H D I h;refine wpAny_execs_cons (thn (h1 zf s σ H { D with nx:=u D } I h) fun f s1 q=>?_);cases f with
 |next=>
  obtain⟨σ',H',I',q⟩:=q;exact h2 zf s1 σ' H' D I' q
 |ret v=>exact q
 |brk=>exact q
 |cont=>exact q
theorem zj(h1:PS X st t):PSs X [st] t:=by
 intro zf s σ H D I h;refine wpAny_execs_cons (thn (h1 zf s σ H D I h) fun f s1 q=>?_);cases f with
 |next=>exact wpAny_execs_nil q
 |ret v=>exact q
 |brk=>exact q
 |cont=>exact q
theorem Inv.quiet{zf:List (Addr×Obj)}{σ:St}{H:Hp}{s:bp}(I:Inv X zf σ H s):interactive X.env=false:=by simp[interactive,I.ok.kind]
def BW(te:TE):TS:=fun D σ H=>te σ H fun _ H1=>D.nx σ H1
theorem dW(he:PE X e te)(hs:swapsWith e none pos.line X.env=pure false:=by rfl):PS X (.Expr e pos) (BW te):=by
 intro zf s σ H D I h;exact wpAny_Expr_any (thn (he zf s σ H _ I h) fun v s1 ⟨x,H1,I1,r1,q1⟩=>⟨σ,H1,I1,q1⟩) I.quiet hs
def rG(te:TE):TS:=fun D σ H=>te σ H D.rt
theorem zB(he:PE X e te):PS X (.Return (some e) pos) (rG te):=by
 intro zf s σ H D I h;exact wpAny_Return_some (thn (he zf s σ H _ I h) fun v s1 ⟨x,H1,I1,r1,q1⟩=>⟨x,σ,H1,I1,r1,q1⟩)
def uB(c:TT)(t u:TS):TS:=fun D σ H=>c σ H fun b H1=>if b=true then t D σ H1 else u D σ H1
theorem aT{c:Expr}{a b:List Stmt}{tc:TT}(hc:PT X c tc)(ha:PSs X a t)(hb:PSs X b u):PS X (.If c a b pos) (uB tc t u):=by
 intro zf s σ H D I h;refine wpAny_If (thn (hc zf s σ H _ I h) fun d s1 ⟨H1,I1,q1⟩=>?_);cases d with
 |true=>exact ha zf s1 σ H1 D I1 q1
 |false=>exact hb zf s1 σ H1 D I1 q1
def Ai:TS:=fun _ _ _=>False
theorem Fu:PS X st Ai:=fun _ _ _ _ _ _ h=>h.elim
end
abbrev TG:=V->St->Hp->(St->Hp->Prop)->Prop
abbrev TGs:=List V->St->Hp->(St->Hp->Prop)->Prop
def PG(X:Cx)(q:Expr)(t:TG):Prop:=
 ∀(zf:List (Addr×Obj)) (s:bp) (σ:St) (H:Hp) (v:V) (u:bn) (Q:St->Hp->Prop),Inv X zf σ H s->RelV v u->t v σ H Q ->
  cj (model X.prog X.w) X.A (assign q X.env u) (fun _ s'=>∃ σ' H',Inv X zf σ' H' s'/\Q σ' H') X.xe s
def PGs(X:Cx)(ts:List Expr)(t:TGs):Prop:=
 ∀(zf:List (Addr×Obj)) (s:bp) (σ:St) (H:Hp) (vs:List V) (us:List bn) (Q:St->Hp->Prop),Inv X zf σ H s->Vals vs us->t vs σ H Q ->
  cj (model X.prog X.w) X.A (assignInOrder ((assignEach ts X.env).map (·.2)) us) (fun _ s'=>∃ σ' H',Inv X zf σ' H' s'/\Q σ' H') X.xe s
abbrev TSet:=V->V->V->Hp->(Hp->Prop)->Prop
def PSet(X:Cx)(t:TSet):Prop:=
 ∀(zf:List (Addr×Obj)) (s:bp) (σ:St) (H:Hp) (o i v:V) (ov iv u:bn) (Q:Hp->Prop),Inv X zf σ H s->RelV o ov->RelV i iv->RelV v u->t o i v H Q ->
  cj (model X.prog X.w) X.A (setItem ov iv u) (fun _ s'=>∃H',Inv X zf σ H' s'/\Q H') X.xe s
section
variable {X:Cx}{pos:Pos}
def g0(i:Nat):TG:=fun v σ H Q=>Q (σ.set i (some v)) H
theorem zw{i:Nat}{x:Str}(hN:X.N.Nodup)(hi:X.N[i]?=some x)(hx:Loc X.env.scope x)(hf:X.fn x=true\/X.env.scope.names.lookup x=some .local:=by first|exact .inl rfl|exact .inr rfl|assumption):PG X (.Name x pos) (g0 i):=by
 intro zf s σ H v u Q I r h;exact wpAny_assign_Name (vB I hN hi hx r (fun s' I'=>⟨_,H,I',h⟩) hf)
def v6:TGs:=fun vs σ H Q=>vs=[]/\Q σ H
def x4(t:TG)(u:TGs):TGs:=fun vs σ H Q=>∃v r,vs=v::r/\t v σ H fun σ' H'=>u r σ' H' Q
theorem fF:PGs X [] v6:=by
 intro zf s σ H vs us Q I r h;obtain⟨e,h⟩:=h;subst e;cases r;exact assignInOrder_nil ⟨σ,H,I,h⟩
theorem zN{e:Expr}{es:List Expr}{t:TG}{u:TGs}(h1:PG X e t)(h2:PGs X es u)
  (hs:(assignEach (e::es) X.env).map (·.2)=assign e X.env::(assignEach es X.env).map (·.2):=by rfl):PGs X (e::es) (x4 t u):=by
 intro zf s σ H vs us Q I r h;obtain⟨v,vr,e1,h⟩:=h;subst e1;cases r with
 |cons r rr=>
  rw[hs];refine assignInOrder_cons (thn (h1 zf s σ H _ _ _ I r h) fun _ s1 ⟨σ1,H1,I1,q1⟩=>?_);exact h2 zf s1 σ1 H1 _ _ Q I1 rr q1
def CH(K:cy)(n:Nat)(t:TGs):TG:=fun v σ H Q=>∃a xs,v=.ref a/\SqT K H a xs/\xs.length=n/\t xs σ H Q
theorem fJ{es:List Expr}{k:Nat}{t:TGs}{n:Nat}(hc:X.calm=true)(h:PGs X es t)
  (hn:(assignEach es X.env).length=n:=by rfl) (hst:(assignEach es X.env).findIdx? (·.1)=none:=by rfl):PG X (.Tuple es k pos) (CH X.K n t):=by
 intro zf s σ H v u Q I r hw;obtain⟨a,xs,e1,hq,hl,hw⟩:=hw;subst e1;cases r;obtain⟨q,rv,ht,hz⟩:=I.tuple hq;refine assign_Tuple_tuple (I.ok.hd hc) ht (by simp[hn,<- hl,rv.length]) hst fun h' hx=>?_;have I1:Inv X zf σ H { s with heap:=h' }:=I.kept (t':=s.toks) fun b o e=>hx b o (gh (fm e)) e;exact h zf _ σ H xs _ Q I1 (by simpa using rv) hw
def Cb(to ti:TE)(t:TSet):TG:=fun v σ H Q=>to σ H fun o H1=>ti σ H1 fun i H2=>t o i v H2 fun H3=>Q σ H3
theorem Ay{o i:Expr}{to ti:TE}{t:TSet}(ho:PE X o to)(hi:PE X i ti)(hs:PSet X t)
  (ha:∀v,assign (.Subscript o i pos) X.env v=(do
   let ov <- holding [v] (eval o X.env)
   let iv <- holding [v,ov] (eval i X.env)
   standAt pos
   holding [v,ov,iv] (setItem ov iv v)
   release [v,ov,iv] []):=by intro _;rfl):PG X (.Subscript o i pos) (Cb to ti t):=by
 intro zf s σ H v u Q I r h;rw[ha];refine bj (ix (thn (ho zf s σ H _ I h) fun ov s1 ⟨x,H1,I1,r1,q1⟩=>?_));refine bj (ix (thn (hi zf s1 σ H1 _ I1 q1) fun iv s2 ⟨y,H2,I2,r2,q2⟩=>?_));refine bj (wpAny_standAt (bj (ix (thn (hs zf s2 σ H2 x y v ov iv u _ I2 r1 r2 r q2) fun _ s3 ⟨H3,I3,q3⟩=>?_))));exact wpAny_release ⟨σ,H3,I3,q3⟩
def m9(te:TE)(g:TG):TS:=fun D σ H=>te σ H fun x H1=>g x σ H1 D.nx
theorem gT{tg e:Expr}{te:TE}{g:TG}(he:PE X e te)(hg:PG X tg g)(hs:swapsWithSole [tg] e pos.line X.env=pure false:=by rfl)(hw:swappedStores [tg] e X.env=pure none:=by rfl)
  (h1:(assignEach [tg] X.env).map (·.2)=[assign tg X.env]:=by rfl):PS X (.Assign [tg] e pos) (m9 te g):=by
 intro zf s σ H D I h;refine wpAny_Assign_stores (thn (he zf s σ H _ I h) fun v s1 ⟨x,H1,I1,r1,q1⟩=>?_) hs hw;rw[h1];exact thn (hg zf s1 σ H1 x v _ I1 r1 q1) fun _ s2 q=>q
theorem zu{i:Nat}{x:Str}{e:Expr}{te:TE}{pos':Pos}(hN:X.N.Nodup)(hi:X.N[i]?=some x)(hx:Loc X.env.scope x)(he:PE X e te)(hs:swapsWith e (some (.Name x pos')) pos.line X.env=pure false:=by rfl)(hf:X.fn x=true\/X.env.scope.names.lookup x=some .local:=by first|exact .inl rfl|exact .inr rfl|assumption):
  PS X (.Assign [.Name x pos'] e pos) (m9 te (g0 i)):=by
 intro zf s σ H D I h;refine wpAny_Assign_Name (thn (he zf s σ H _ I h) fun v s1 ⟨y,H1,I1,r1,q1⟩=>?_) hs;exact vB I1 hN hi hx r1 (fun s2 I2=>⟨_,H1,I2,q1⟩) hf
end
section
variable {X:Cx}{pos:Pos}
def BX(c:TT)(tb:TS):TS:=fun D σ H=>∃W:Nat->St->Hp->Prop,(∃m,W m σ H)/\∀m σ H,W m σ H ->
 c σ H fun b H1=>if b=true then ∃N:St->Hp->Prop,(∀ σ' H',N σ' H'->∃m',m'<m/\W m' σ' H')/\tb { D with nx:=N,ct:=N,bk:=D.nx } σ H1 else D.nx σ H1
theorem uL{c:Expr}{q:List Stmt}{tc:TT}{tb:TS}(hp:PassesOwn (model X.prog X.w) X.A X.env X.xe)(hc:PT X c tc)(hb:PSs X q tb):PS X (.While c q [] pos) (BX tc tb):=by
 intro zf s σ H D I h;obtain⟨W,⟨m0,w0⟩,z⟩:=h;refine wpAny_While (codeAny_whileLoop (fun n s'=>∃ σ' H',Inv X zf σ' H' s'/\W n σ' H') ?_ m0 ⟨σ,H,I,w0⟩);rintro n s1 ⟨σ1,H1,I1,w1⟩;refine nc hp (thn (hc zf s1 σ1 H1 _ I1 (z n σ1 H1 w1)) fun b s2 ⟨H2,I2,q2⟩=>?_);cases b with
 |true=>
  obtain⟨N,hN,q2⟩:=q2;rw[ci rfl];refine nc hp (thn (hb zf s2 σ1 H2 _ I2 q2) fun f s3 q3=>?_);cases f with
  |next=>
   obtain⟨σ3,H3,I3,n3⟩:=q3;obtain⟨m',hm,w3⟩:=hN σ3 H3 n3;exact⟨m',hm,σ3,H3,I3,w3⟩
  |cont=>
   obtain⟨σ3,H3,I3,n3⟩:=q3;obtain⟨m',hm,w3⟩:=hN σ3 H3 n3;exact⟨m',hm,σ3,H3,I3,w3⟩
  |brk=>exact q3
  |ret v=>exact q3
 |false=>
  rw[cg ja];exact wpAny_execs_nil ⟨σ1,H2,I2,q2⟩
end
structure It where
 go:Nat->Hp->Prop
 yld:Nat->Hp->V->Hp->Prop
 stop:Nat->Hp->Prop
def FpOk(X:Cx)(zf:List (Addr×Obj))(H:Hp)(b:Addr):Prop:=
 H b=none/\b≠X.env.locals/\b∉X.fs/\(b∈X.ex\/X.s₀.heap.objs.size<=b)/\(∀x c,X.env.cells.lookup x=some c->c≠b)/\∀p∈X.pn++zf,p.1≠b
theorem Inv.fpOk{X:Cx}{zf:List (Addr×Obj)}{σ:St}{H H':Hp}{s:bp}{b:Addr}(I:Inv X zf σ H s)(hb:s.heap.objs.size<=b)(hn:H' b=none):FpOk X zf H' b:=by
 refine⟨hn,ne_of_gt (gq I.lt hb),I.nofs hb,.inr (iz I.sz hb),fun x c e z=>?_,fun p hp z=>?_⟩
 ·obtain⟨v,q⟩:=I.cell x c e;exact absurd (gq q.lt (by rw[z];exact hb)) (ol _)
 ·exact absurd (gq (fm (I.pin p hp).1) (by rw[z];exact hb)) (ol _)
structure Turn(P:fg)(w:ga)(K:cy)(tg:Expr)(J:It)(fp:List Addr)(it:Addr)(tn:Nat->Heap->Prop):Prop where
 mem:it∈fp
 obj:∀i h,tn i h->∀b∈fp,∃o,h.get? b=some o/\∀v,o.data≠.cell v
 keep:∀i h h',tn i h->(∀b∈fp,∀o,h.get? b=some o->h'.get? b=some o)->tn i h'
 item:∀(X:Cx),X.prog=P->X.w=w->X.K=K->X.calm=true->∀(i:Nat) (zf:List (Addr×Obj)) (s:bp) (σ:St) (H:Hp) (E:bn->bp->Prop),Inv X zf σ H s->(∀b∈fp,FpOk X zf H b)->tn i s.heap->J.go i H ->
  cj (model P w) X.A (ox (.ref it)) (fun r s1=>∃u,r=some u /\
   cj (model P w) X.A (letOwnedTupleGo tg (.ref it) u) (fun _ s2=>∃x H',Inv X zf σ H' s2/\RelV x u/\J.yld i H x H'/\tn (i+1) s2.heap/\∀b∈fp,H' b=none) E s1) E s
 done:∀(X:Cx),X.prog=P->X.w=w->X.K=K->X.calm=true->∀(i:Nat) (zf:List (Addr×Obj)) (s:bp) (σ:St) (H:Hp) (E:bn->bp->Prop),Inv X zf σ H s->(∀b∈fp,FpOk X zf H b)->tn i s.heap->J.stop i H ->
  cj (model P w) X.A (ox (.ref it)) (fun r s1=>r=none/\Inv X zf σ H s1) E s
 self:∀(A:fv) (i:Nat) (s:bp) (Q:bn->bp->Prop) (E:bn->bp->Prop),tn i s.heap->Q (.ref it) s->cj (model P w) A (pyIter (.ref it)) Q E s
abbrev TI:=St->Hp->(It->Hp->Prop)->Prop
def PIE(X:Cx)(zf:List (Addr×Obj))(σ:St)(tg:Expr)(R:It->Hp->Prop)(q:bn)(s2:bp):Prop:=
 ∃(it:Addr) (fp:List Addr) (tn:Nat->Heap->Prop) (J:It) (H':Hp),q=.ref it/\Inv X zf σ H' s2/\Turn X.prog X.w X.K tg J fp it tn/\tn 0 s2.heap/\(∀b∈fp,FpOk X zf H' b)/\R J H'
def PI(X:Cx)(tg iter:Expr)(wi:TI):Prop:=
 ∀(zf:List (Addr×Obj)) (s:bp) (σ:St) (H:Hp) (R:It->Hp->Prop),Inv X zf σ H s->wi σ H R ->
  cj (model X.prog X.w) X.A (eval iter X.env) (fun v s1=>cj (model X.prog X.w) X.A (pyIter v) (PIE X zf σ tg R) X.xe s1) X.xe s
theorem oV{M:Model}{A:fv}{E:bn->bp->Prop}{s:bp}{tg:Expr}{it:Addr}{u:bn}{o:Obj}{n:String}{vs:Array bn}{Q:Unit->bp->Prop}(ho:s.heap.get? it=some o)(hc:o.cls=.type n)(hd:o.data=.fields vs)
    (hn:["enumerate","zip","dict_itemiterator","dict_reverseitemiterator","odict_iterator","itertools.zip_longest","itertools.pairwise"].contains n=false) (hQ:Q () s):cj M A (letOwnedTupleGo tg (.ref it) u) Q E s:=by
  unfold letOwnedTupleGo;cases tg<;>first
    |exact bq hQ
    | (cases u<;>first
        |exact bq hQ
        | (refine bj (wpAny_load ho ?_)
           rw[hc,hd];show cj M A (if (["enumerate","zip","dict_itemiterator","dict_reverseitemiterator","odict_iterator","itertools.zip_longest","itertools.pairwise"].contains n&&vs[0]?==some (qc _))=true then _ else _) Q E s;rw[cg (by intro h;rw[hn,Bool.false_and]at h;cases h)];exact bq hQ))
def Itl(K:cy)(a:Addr):It:=
 ⟨fun i H=>∃xs x,SqL K H a xs/\xs[i]?=some x,fun i H x H'=>H'=H/\∀xs,SqL K H a xs->xs[i]?=some x,fun i H=>∃xs,SqL K H a xs/\xs.length<=i⟩
def Itt(K:cy)(a:Addr):It:=
 ⟨fun i H=>∃xs x,SqT K H a xs/\xs[i]?=some x,fun i H x H'=>H'=H/\∀xs,SqT K H a xs->xs[i]?=some x,fun i H=>∃xs,SqT K H a xs/\xs.length<=i⟩
def Itr(lo:Int)(n:Nat):It:=⟨fun i _=>i<n,fun i H x H'=>H'=H/\x=.int (lo+i),fun i _=>n<=i⟩
theorem CJ{P:fg}{w:ga}{K:cy}{tg:Expr}(a it:Addr):Turn P w K tg (Itl K a) [it] it (fun i h=>h.IsListIter it a i) where
 mem:=by simp
 obj:=fun i h st b hb=>by
  have e:b=it:=by simpa using hb
  subst e;obtain⟨o,e,c,d⟩:=st;exact⟨o,e,fun v z=>by rw[d]at z;cases z⟩
 keep:=fun i h h' st k=>st.at fun o e=>k it yv o e
 item:=by
  intro X hP hw hK hc i zf s σ H E I hf st hg;subst hP hw hK;obtain⟨xs,x,hq,hx⟩:=hg;obtain⟨q,rv,p,hz⟩:=I.list hq;obtain⟨u,hu,ru⟩:=rv.get hx;obtain⟨f0,f1,f2,f3,f4,f5⟩:=hf it yv;refine wpAny_pyNext_list_item st p.isList (x:=u) (by simpa using hu) fun h' st' sb=>?_;have I1:Inv X zf σ H { s with heap:=h' }:=I.turned (t':=s.toks) (fun b o hb e=>(sb.2 b hb).trans e) f0 f1 f3 f4 f5;obtain⟨o,e,c,d⟩:=id st';exact⟨u,rfl,oV (s:={ s with heap:=h' }) e c d dz ⟨x,H,I1,ru,⟨rfl,fun ys hy=>by rw[I.list_inj hy hq];exact hx⟩,st',fun b hb=>(hf b hb).1⟩⟩
 done:=by
  intro X hP hw hK hc i zf s σ H E I hf st hg;subst hP hw hK;obtain⟨xs,hq,hx⟩:=hg;obtain⟨q,rv,p,hz⟩:=I.list hq;obtain⟨f0,f1,f2,f3,f4,f5⟩:=hf it yv;have hl:=rv.length;exact wpAny_pyNext_list_end (I.ok.hd hc) st p.isList (by simp;omega) fun h' eb=>⟨rfl,I.turned (t':=s.toks) (fun b o hb e=>eb b o hb e) f0 f1 f3 f4 f5⟩
 self:=fun _ _ _ _ _ st h=>wpAny_pyIter_listiter st h
theorem Cg{P:fg}{w:ga}{K:cy}{tg:Expr}(a it:Addr):Turn P w K tg (Itt K a) [it] it (fun i h=>h.IsTupleIter it a i) where
 mem:=by simp
 obj:=fun i h st b hb=>by
  have e:b=it:=by simpa using hb
  subst e;obtain⟨o,e,c,d⟩:=st;exact⟨o,e,fun v z=>by rw[d]at z;cases z⟩
 keep:=fun i h h' st k=>st.at fun o e=>k it yv o e
 item:=by
  intro X hP hw hK hc i zf s σ H E I hf st hg;subst hP hw hK;obtain⟨xs,x,hq,hx⟩:=hg;obtain⟨q,rv,p,hz⟩:=I.tuple hq;obtain⟨u,hu,ru⟩:=rv.get hx;obtain⟨f0,f1,f2,f3,f4,f5⟩:=hf it yv;refine wpAny_pyNext_tuple_item st (show s.heap.IsTuple a q.toArray from p) (x:=u) (by simpa using hu) fun h' st' sb=>?_;have I1:Inv X zf σ H { s with heap:=h' }:=I.turned (t':=s.toks) (fun b o hb e=>(sb.2 b hb).trans e) f0 f1 f3 f4 f5;obtain⟨o,e,c,d⟩:=id st';exact⟨u,rfl,oV (s:={ s with heap:=h' }) e c d dz ⟨x,H,I1,ru,⟨rfl,fun ys hy=>by rw[I.tuple_inj hy hq];exact hx⟩,st',fun b hb=>(hf b hb).1⟩⟩
 done:=by
  intro X hP hw hK hc i zf s σ H E I hf st hg;subst hP hw hK;obtain⟨xs,hq,hx⟩:=hg;obtain⟨q,rv,p,hz⟩:=I.tuple hq;obtain⟨f0,f1,f2,f3,f4,f5⟩:=hf it yv;have hl:=rv.length;exact wpAny_pyNext_tuple_end (I.ok.hd hc) st (show s.heap.IsTuple a q.toArray from p) (by simp;omega) fun h' eb=>⟨rfl,I.turned (t':=s.toks) (fun b o hb e=>eb b o hb e) f0 f1 f3 f4 f5⟩
 self:=fun _ _ _ _ _ st h=>wpAny_pyIter_tupleiter st h
theorem JJ{P:fg}{w:ga}{K:cy}{tg:Expr}(it:Addr)(lo:Int)(n:Nat):Turn P w K tg (Itr lo n) [it] it (fun i h=>IsRangeIter h it (lo+(i:Nat)*1) ((n:Int)-(i:Nat)) 1) where
 mem:=by simp
 obj:=fun i h st b hb=>by
  have e:b=it:=by simpa using hb
  subst e;exact⟨_,st,fun v z=>by
   have z':Data.fields _=Data.cell v:=z;cases z'⟩
 keep:=fun i h h' st k=>k it yv _ st
 item:=by
  intro X hP hw hK hc i zf s σ H E I hf st hg;subst hP hw hK;obtain⟨f0,f1,f2,f3,f4,f5⟩:=hf it yv;have W:=Walks.range (prog:=X.prog) (w:=X.w) (I.ok.hd hc) it lo 1 n;refine W.item i s _ _ hg st fun v h' tk hv st' kk=>?_;obtain⟨t,rfl⟩:=hv;have I1:Inv X zf σ H { s with heap:=h',toks:=tk }:=I.turned (fun b o hb e=>kk b o (by simpa using hb) e) f0 f1 f3 f4 f5;refine⟨_,rfl,oV (s:={ s with heap:=h',toks:=tk }) (n:="range_iterator") st' rfl rfl dz ⟨.int (lo+i),H,I1,⟨t,?_⟩,⟨rfl,rfl⟩,st',fun b hb=>(hf b hb).1⟩⟩;rw[Int.mul_one]
 done:=by
  intro X hP hw hK hc i zf s σ H E I hf st hg;subst hP hw hK;obtain⟨f0,f1,f2,f3,f4,f5⟩:=hf it yv;exact wpAny_pyNext_range_end (I.ok.hd hc) st (by have:n<=i:=hg;omega) fun h' eb=>⟨rfl,I.turned (t':=s.toks) (fun b o hb e=>eb b o hb e) f0 f1 f3 f4 f5⟩
 self:=fun _ _ _ _ _ st h=>wpAny_pyIter_rangeiter st h
end
section
section
variable {X:Cx}{tg:Expr}
def sY(K:cy)(tl:TE):TI:=fun σ H R=>tl σ H fun x H1=>∃a,x=.ref a/\(∃xs,SqL K H1 a xs)/\R (Itl K a) H1
theorem GZ{l:Expr}{tl:TE}(hl:PE X l tl):PI X tg l (sY X.K tl):=by
 intro zf s σ H R I h;refine thn (hl zf s σ H _ I h) fun v s1 ⟨x,H1,I1,r1,q1⟩=>?_;obtain⟨a,e,⟨xs,hq⟩,q⟩:=q1;subst e;cases r1;obtain⟨z,rv,p,hz⟩:=I1.list hq;refine qd p.isList ?_;refine⟨s1.heap.objs.size,[s1.heap.objs.size],_,_,H1,rfl,I1.kept (t':=s1.toks) fun b o e=>bu _ e,CJ a _,⟨_,df _ rfl,rfl,rfl⟩,fun b hb=>?_,q⟩;have e:b=s1.heap.objs.size:=by simpa using hb
 subst e;exact I1.fpOk (cx _) (I1.hok.fresh (cx _))
def pG(wi:TI)(g:TG)(tb:TS):TS:=fun D σ H=>wi σ H fun J H1=>∃W:Nat->Nat->St->Hp->Prop,(∃m,W 0 m σ H1)/\∀i m σ H,W i m σ H ->
 (J.stop i H/\D.nx σ H)\/(J.go i H/\∃N:St->Hp->Prop,(∀ σ' H',N σ' H'->∃m',m'<m/\W (i+1) m' σ' H')/\∀x H',J.yld i H x H'->g x σ H' fun σ2 H2=>tb { D with nx:=N,ct:=N,bk:=D.nx } σ2 H2)
def kM(fp:List Addr)(h:Heap):List (Addr×Obj):=fp.filterMap fun b=>(h.get? b).map fun o=>(b,o)
theorem qW{fp:List Addr}{h:Heap}{b:Addr}{o:Obj}(hb:b∈fp)(e:h.get? b=some o):(b,o)∈kM fp h:=List.mem_filterMap.mpr ⟨b,hb,by rw[e];rfl⟩
theorem Hs{fp:List Addr}{h:Heap}{p:Addr×Obj}(hp:p∈kM fp h):p.1∈fp/\h.get? p.1=some p.2:=by
 obtain⟨b,hb,e⟩:=List.mem_filterMap.mp hp;cases q:h.get? b with
 |none=>rw[q]at e;cases e
 |some o=>
  rw[q]at e;have e':(b,o)=p:=gk e;subst e';exact⟨hb,q⟩
theorem Inv.pinned{zf:List (Addr×Obj)}{σ:St}{H:Hp}{s:bp}{fp:List Addr}(I:Inv X zf σ H s)(hf:∀b∈fp,FpOk X zf H b)(ho:∀b∈fp,∃o,s.heap.get? b=some o/\∀v,o.data≠.cell v):Inv X (zf++kM fp s.heap) σ H s:=
 I.pins_of fun p hp=>(mem_append.mp hp).elim (fun z=>I.pin p (ge _ z)) fun z=>by
  obtain⟨hb,e⟩:=Hs z;obtain⟨f0,f1,f2,_⟩:=hf p.1 hb;obtain⟨o,e',d⟩:=ho p.1 hb;rw[e]at e';cases e';exact⟨e,f0,f1,f2,d⟩
theorem Inv.unpinned{zf pl:List (Addr×Obj)}{σ:St}{H:Hp}{s:bp}(I:Inv X (zf++pl) σ H s):Inv X zf σ H s:=I.pins_of fun p hp=>I.pin p (ge _ (jz _ hp))
theorem dL{iter:Expr}{aa:List Stmt}{wi:TI}{g:TG}{tb:TS}{pos:Pos}(hp:PassesOwn (model X.prog X.w) X.A X.env X.xe)(hc:X.calm=true)(hi:PI X tg iter wi)(hg:PG X tg g)(hb:PSs X aa tb)
  (hs:∀x,foldedSetIterable iter X.env x=pure x:=by intro _;rfl):PS X (.For tg iter aa [] pos) (pG wi g tb):=by
 intro zf s σ H D I h;refine wpAny_For (thn (hi zf s σ H _ I h) fun v s1 h1=>thn h1 fun ai s2 h2=>?_) hs;obtain⟨it,fp,tn,J,H2,e,I2,T,ah,f2,W,⟨m0,w0⟩,ac⟩:=h2;subst e
 have q:∀{H':Hp},(∀b∈fp,H' b=none)->∀b∈fp,FpOk X zf H' b:=fun hn b hb=>⟨hn b hb,(f2 b hb).2⟩;refine codeAny_forLoop_any (fun n s'=>∃i σ' H',Inv X zf σ' H' s'/\tn i s'.heap/\(∀b∈fp,H' b=none)/\W i n σ' H') ?_ m0 ⟨0,σ,H2,I2,ah,fun b hb=>(f2 b hb).1,w0⟩;rintro n s3 ⟨i,σ3,H3,I3,ae,af,w3⟩;rcases ac i n σ3 H3 w3 with ⟨stop,qn⟩|⟨go,N,hN,step⟩
 ·refine nc hp (thn (T.done X rfl rfl rfl hc i zf s3 σ3 H3 X.xe I3 (q af) ae stop) fun r s4 ⟨hr,I4⟩=>?_);subst hr;exact wpAny_execs_nil ⟨σ3,H3,I4,qn⟩
 ·refine nc hp (thn (T.item X rfl rfl rfl hc i zf s3 σ3 H3 X.xe I3 (q af) ae go) fun r s4 ⟨u,hr,h4⟩=>?_);subst hr;refine nc hp (thn h4 fun _ s5 ⟨x,H5,I5,r5,y5,ab,ag⟩=>?_);have I5':=I5.pinned (q ag) (T.obj _ _ ab);refine nc hp (thn (hg _ s5 σ3 H5 x u _ I5' r5 (step x H5 y5)) fun _ s6 ⟨σ6,H6,I6,q6⟩=>?_);refine nc hp (thn (hb _ s6 σ6 H6 _ I6 q6) fun f s7 q7=>?_);have z:∀{σ7:St}{H7:Hp},Inv X (zf++kM fp s5.heap) σ7 H7 s7->N σ7 H7->∃m,m<n/\∃i σ' H',Inv X zf σ' H' s7/\tn i s7.heap/\(∀b∈fp,H' b=none)/\W i m σ' H':=fun {σ7 H7} I7 n7=>by
   obtain⟨m',hm,w7⟩:=hN σ7 H7 n7;refine⟨m',hm,i+1,σ7,H7,I7.unpinned,T.keep _ _ _ ab fun b hb o e=>(I7.pin (b,o) (ge _ (ge _ (qW hb e)))).1,fun b hb=>?_,w7⟩;obtain⟨o,e,d⟩:=T.obj _ _ ab b hb;exact(I7.pin (b,o) (ge _ (ge _ (qW hb e)))).2.1
  cases f with
  |next=>obtain⟨σ7,H7,I7,n7⟩:=q7;exact z I7 n7
  |cont=>obtain⟨σ7,H7,I7,n7⟩:=q7;exact z I7 n7
  |brk=>obtain⟨σ7,H7,I7,q7⟩:=q7;exact⟨σ7,H7,I7.unpinned,q7⟩
  |ret v=>obtain⟨x7,σ7,H7,I7,r7,q7⟩:=q7;exact⟨x7,σ7,H7,I7.unpinned,r7,q7⟩
end
theorem Fl{K:cy}{a:Addr}{xs:List V}{g:TG}{tb:TS}{D:Ends}{σ:St}{H:Hp}(Pv:Nat->St->Hp->Prop)(h0:Pv 0 σ H)(hl:∀i σ H,i<=xs.length->Pv i σ H->SqL K H a xs)
  (hs:∀i x σ H,xs[i]?=some x->Pv i σ H->g x σ H fun σ2 H2=>tb { D with nx:=Pv (i+1),ct:=Pv (i+1),bk:=D.nx } σ2 H2) (hd:∀ σ H,Pv xs.length σ H->D.nx σ H):
  ∃W:Nat->Nat->St->Hp->Prop,(∃m,W 0 m σ H)/\∀i m σ H,W i m σ H ->
   ((Itl K a).stop i H/\D.nx σ H)\/((Itl K a).go i H/\∃N:St->Hp->Prop,(∀ σ' H',N σ' H'->∃m',m'<m/\W (i+1) m' σ' H')/\∀x H',(Itl K a).yld i H x H'->g x σ H' fun σ2 H2=>tb { D with nx:=N,ct:=N,bk:=D.nx } σ2 H2):=by
 refine⟨fun i m σ H=>m=xs.length-i/\i<=xs.length/\Pv i σ H,⟨xs.length,yv,ji _,h0⟩,?_⟩;rintro i m σ H ⟨rfl,hi,p⟩;have q:=hl i σ H hi p;by_cases hlt:i<xs.length
 ·refine .inr ⟨⟨xs,xs[i],q,by simp[hlt]⟩,Pv (i+1),fun σ' H' p'=>⟨xs.length-(i+1),yw,rfl,hlt,p'⟩,fun x H' y=>?_⟩;obtain⟨e,y⟩:=y;subst e;exact hs i x σ _ (y xs q) p
 ·have e:i=xs.length:=yw
  subst e;exact .inl ⟨⟨xs,q,cx _⟩,hd σ H p⟩
end
section
abbrev R2:=V->V->Hp->VK->Prop
def OpR(X:Cx)(f:bn->bn->Sem bn)(r:R2):Prop:=
 ∀(zf:List (Addr×Obj)) (s:bp) (σ:St) (H:Hp) (x y:V) (v u:bn) (Q:VK),Inv X zf σ H s->RelV x v->RelV y u->r x y H Q ->
  cj (model X.prog X.w) X.A (f v u) (EP X zf σ Q) X.xe s
def UnR(X:Cx)(f:bn->Sem bn)(r:V->Hp->VK->Prop):Prop:=
 ∀(zf:List (Addr×Obj)) (s:bp) (σ:St) (H:Hp) (x:V) (v:bn) (Q:VK),Inv X zf σ H s->RelV x v->r x H Q ->
  cj (model X.prog X.w) X.A (f v) (EP X zf σ Q) X.xe s
def CallR(X:Cx)(f:bn)(r:List V->Hp->VK->Prop):Prop:=
 ∀(zf:List (Addr×Obj)) (s:bp) (σ:St) (H:Hp) (xs:List V) (us:List bn) (Q:VK),Inv X zf σ H s->Vals xs us->r xs H Q ->
  cj (model X.prog X.w) X.A (call f us) (EP X zf σ Q) X.xe s
def TruR(X:Cx)(r:V->Hp->(Bool->Hp->Prop)->Prop):Prop:=
 ∀(zf:List (Addr×Obj)) (s:bp) (σ:St) (H:Hp) (x:V) (v:bn) (Q:Bool->Hp->Prop),Inv X zf σ H s->RelV x v->r x H Q ->
  cj (model X.prog X.w) X.A (truthy v) (TP X zf σ Q) X.xe s
def tOp(r:R2)(ta tb:TE):TE:=fun σ H Q=>ta σ H fun x H1=>tb σ H1 fun y H2=>r x y H2 Q
def tUn(r:V->Hp->VK->Prop)(ta:TE):TE:=fun σ H Q=>ta σ H fun x H1=>r x H1 Q
def rI(C:Int->Int->Prop)(g:Int->Int->V):R2:=fun x y H Q=>∃i j,x=.int i/\y=.int j/\C i j/\Q (g i j) H
def rI0(g:Int->Int->V):R2:=fun x y H Q=>∃i j,x=.int i/\y=.int j/\Q (g i j) H
def rU(g:Int->V):V->Hp->VK->Prop:=fun x H Q=>∃i,x=.int i/\Q (g i) H
section
variable {X:Cx}{a b c:Expr}{ta tb tc:TE}{pos:Pos}
theorem sF(ha:PE X a ta)(hb:PE X b tb){zf:List (Addr×Obj)}{s:bp}{σ:St}{H:Hp}{R:V->V->Hp->Prop}(I:Inv X zf σ H s)
  (h:ta σ H fun x H1=>tb σ H1 fun y H2=>R x y H2) {Q:bn->bp->Prop}{f:bn->bn->Sem bn}
  (hf:∀v u s2 x y H2,Inv X zf σ H2 s2->RelV x v->RelV y u->R x y H2->cj (model X.prog X.w) X.A (f v u) Q X.xe s2):
  cj (model X.prog X.w) X.A (eval a X.env) (fun v s₁=>cj (model X.prog X.w) X.A (eval b X.env) (fun u s₂=>cj (model X.prog X.w) X.A (f v u) Q X.xe s₂) X.xe s₁) X.xe s:=by
 refine thn (ha zf s σ H _ I h) fun v s1 ⟨x,H1,I1,r1,q1⟩=>?_;refine thn (hb zf s1 σ H1 _ I1 q1) fun u s2 ⟨y,H2,I2,r2,q2⟩=>?_;exact hf v u s2 x y H2 I2 r1 r2 q2
theorem zz{op:Operator}{r:R2}(ho:OpR X (kw op) r)(ha:PE X a ta)(hb:PE X b tb):PE X (.BinOp a op b pos) (tOp r ta tb):=by
 intro zf s σ H Q I h;exact wpAny_BinOp (sF ha hb I h fun v u s2 x y H2 I2 rx ry q=>ho zf s2 σ H2 x y v u Q I2 rx ry q)
theorem jL{op:UnaryOp}{r:V->Hp->VK->Prop}(ho:UnR X (unaryOp op) r)(ha:PE X a ta):PE X (.UnaryOp op a pos) (tUn r ta):=by
 intro zf s σ H Q I h;exact UnaryOp_ (thn (ha zf s σ H _ I h) fun v s1 ⟨x,H1,I1,r1,q1⟩=>ho zf s1 σ H1 x v Q I1 r1 q1)
theorem opI{f:bn->bn->Sem bn}{C:Int->Int->Prop}{g:Int->Int->Int}
  (rule:∀(i j:Int) (t u:Tok) (s:bp) (Q:bn->bp->Prop) (E:bn->bp->Prop),C i j->Q (.int (g i j) s.toks) { s with toks:=s.toks+1 }->cj (model X.prog X.w) X.A (f (.int i t) (.int j u)) Q E s):
  OpR X f (rI C fun i j=>.int (g i j)):=by
 intro zf s σ H x y v u Q I rx ry h;obtain⟨i,j,rfl,rfl,hc,q⟩:=h;obtain⟨t,rfl⟩:=rx;obtain⟨t',rfl⟩:=ry;exact rule i j t t' s _ _ hc ⟨.int (g i j),H,I.tok _,⟨_,rfl⟩,q⟩
theorem xR{f:bn->bn->Sem bn}{g:Int->Int->Int}
  (rule:∀(i j:Int) (t u:Tok) (s:bp) (Q:bn->bp->Prop) (E:bn->bp->Prop),Q (.int (g i j) s.toks) { s with toks:=s.toks+1 }->cj (model X.prog X.w) X.A (f (.int i t) (.int j u)) Q E s):
  OpR X f (rI0 fun i j=>.int (g i j)):=by
 intro zf s σ H x y v u Q I rx ry h;obtain⟨i,j,rfl,rfl,q⟩:=h;obtain⟨t,rfl⟩:=rx;obtain⟨t',rfl⟩:=ry;exact rule i j t t' s _ _ ⟨.int (g i j),H,I.tok _,⟨_,rfl⟩,q⟩
theorem oX{f:bn->bn->Sem bn}{g:Int->Int->Bool}
  (rule:∀(i j:Int) (t u:Tok) (s:bp) (Q:bn->bp->Prop) (E:bn->bp->Prop),Q (.bool (g i j)) s->cj (model X.prog X.w) X.A (f (.int i t) (.int j u)) Q E s):
  OpR X f (rI0 fun i j=>.bl (g i j)):=by
 intro zf s σ H x y v u Q I rx ry h;obtain⟨i,j,rfl,rfl,q⟩:=h;obtain⟨t,rfl⟩:=rx;obtain⟨t',rfl⟩:=ry;exact rule i j t t' s _ _ ⟨.bl (g i j),H,I,rfl,q⟩
def CDivN(i j:Int):Prop:=j≠0/\j.natAbs<1073741824
def CPow(i j:Int):Prop:=0<=j/\j<=1000000/\i.natAbs<2 ^ 64
theorem FW:OpR X (kw .Add) (rI0 fun i j=>.int (i+j)):=xR fun _ _ _ _ _ _ _ q=>add_int q
theorem cL:OpR X (kw .Sub) (rI0 fun i j=>.int (i-j)):=xR fun _ _ _ _ _ _ _ q=>sub_int q
theorem F5:OpR X (kw .FloorDiv) (rI CDivN fun i j=>.int (i.fdiv j)):=opI fun _ _ _ _ _ _ _ hc q=>floordiv_int hc.1 q (.inl (PyProof.noPylong_small hc.2))
theorem fO:OpR X (kw .Mod) (rI (fun _ j=>0<j) fun i j=>.int (i % j)):=opI fun i j _ _ _ _ _ hc q=>by
 have h1:(0:Int)<j:=hc;exact mod_int' yw (by rw[Int.fmod_eq_emod_of_nonneg i yw];exact q)
theorem mI:OpR X (kw .Pow) (rI CPow fun i j=>.int (i ^ j.toNat)):=opI fun _ _ _ _ _ _ _ hc q=>pow_int_small hc.1 hc.2.1 hc.2.2 q
theorem unI{f:bn->Sem bn}{g:Int->Int}
  (rule:∀(i:Int) (t:Tok) (s:bp) (Q:bn->bp->Prop) (E:bn->bp->Prop),Q (.int (g i) s.toks) { s with toks:=s.toks+1 }->cj (model X.prog X.w) X.A (f (.int i t)) Q E s):
  UnR X f (rU fun i=>.int (g i)):=by
 intro zf s σ H x v Q I rx h;obtain⟨i,rfl,q⟩:=h;obtain⟨t,rfl⟩:=rx;exact rule i t s _ _ ⟨.int (g i),H,I.tok _,⟨_,rfl⟩,q⟩
theorem jF:UnR X (unaryOp .USub) (rU fun i=>.int (-i)):=unI fun _ _ _ _ _ q=>neg_int q
end
section
variable {X:Cx}{a b c:Expr}{ta tb tc:TE}{pos:Pos}
theorem CG{zf:List (Addr×Obj)}{σ:St}{H:Hp}{s:bp}{Q:VK}{k k':Bool}(I:Inv X zf σ H s)(q:Q (.bl k) H)(e:k=k'):EP X zf σ Q (.bool k') s:=by
 subst e;exact⟨.bl k,H,I,rfl,q⟩
theorem lZ:OpR X (io .Lt) (rI0 fun i j=>.bl (decide (i<j))):=oX fun _ _ _ _ _ _ _ q=>lt_int q
theorem nZ:OpR X (io .LtE) (rI0 fun i j=>.bl (decide (i<=j))):=oX fun _ _ _ _ _ _ _ q=>le_int q
theorem xV:OpR X (io .Gt) (rI0 fun i j=>.bl (decide (j<i))):=oX fun _ _ _ _ _ _ _ q=>gt_int q
theorem EM:OpR X (io .GtE) (rI0 fun i j=>.bl (decide (j<=i))):=oX fun _ _ _ _ _ _ _ q=>ge_int q
theorem FV:OpR X (io .In) (fun x y H Q=>∃i j,x=.str i/\y=.str j/\Q (.bl (!(kf j i 0 j.length 1).isEmpty)) H):=by
 intro zf s σ H x y v u Q I rx ry h;obtain⟨i,j,rfl,rfl,q⟩:=h;obtain⟨t,rfl⟩:=rx;obtain⟨t',rfl⟩:=ry;exact in_str (CG I q rfl)
theorem EL:OpR X (io .NotIn) (fun x y H Q=>∃i j,x=.str i/\y=.str j/\Q (.bl (!(!(kf j i 0 j.length 1).isEmpty))) H):=by
 intro zf s σ H x y v u Q I rx ry h;obtain⟨i,j,rfl,rfl,q⟩:=h;obtain⟨t,rfl⟩:=rx;obtain⟨t',rfl⟩:=ry;exact notIn_str (CG I q rfl)
theorem OpR.or{f:bn->bn->Sem bn}{r r':R2}(h:OpR X f r)(h':OpR X f r'):OpR X f (fun x y H Q=>r x y H Q\/r' x y H Q):=by
 intro zf s σ H x y v u Q I rx ry q;rcases q with q|q
 ·exact h zf s σ H x y v u Q I rx ry q
 ·exact h' zf s σ H x y v u Q I rx ry q
theorem nomark(b:Expr){op:CmpOp}(h:op≠.In:=by decide)(h2:op≠.NotIn:=by decide):behindInMarks op b=false:=by
 have e1:(op==CmpOp.In)=false:=by cases op<;>first|rfl|exact absurd rfl h
 have e2:(op==CmpOp.NotIn)=false:=by cases op<;>first|rfl|exact absurd rfl h2
 cases b<;>simp[behindInMarks,e1,e2]
theorem iJ{op:CmpOp}{r:R2}(ho:OpR X (io op) r)(ha:PE X a ta)(hb:PE X b tb)(hm:behindInMarks op b=false):PE X (.Compare a [op] [b] pos) (tOp r ta tb):=by
 intro zf s σ H Q I h;exact wpAny_Compare1 (sF ha hb I h fun v u s2 x y H2 I2 rx ry q=>ho zf s2 σ H2 x y v u Q I2 rx ry q) hm
def nK(t:TE):TT:=fun σ H Q=>t σ H fun x H'=>∃k,x=.bl k/\Q k H'
theorem zI{op:CmpOp}{r:R2}(ho:OpR X (io op) r)(ha:PE X a ta)(hb:PE X b tb)(hm:behindInMarks op b=false):PT X (.Compare a [op] [b] pos) (nK (tOp r ta tb)):=by
 intro zf s σ H Q I h;refine wpAny_isTrue_Compare1 (thn (ha zf s σ H _ I h) fun v s1 ⟨x,H1,I1,r1,q1⟩=>thn (hb zf s1 σ H1 _ I1 q1) fun u s2 ⟨y,H2,I2,r2,q2⟩=>
  thn (ho zf s2 σ H2 x y v u _ I2 r1 r2 q2) fun c s3 ⟨z,H3,I3,r3,k,e,q3⟩=>?_) hm
 subst e;cases r3;exact iu ⟨H3,I3,q3⟩
def sE(r r':R2)(ta tb tc:TE):TE:=fun σ H Q=>ta σ H fun x H1=>tb σ H1 fun y H2=>r x y H2 fun z H3=>∃k,z=.bl k /\
 (if k=true then tc σ H3 fun w' H4=>r' y w' H4 Q else Q (.bl false) H3)
theorem Ab{op q:CmpOp}{r r':R2}(ho:OpR X (io op) r)(aa:OpR X (io q) r')(ha:PE X a ta)(hb:PE X b tb)(hc:PE X c tc)
  (hm:lastMarks [op,q] [b,c]=false:=by with_unfolding_all rfl):PE X (.Compare a [op,q] [b,c] pos) (sE r r' ta tb tc):=by
 intro zf s σ H Q I h;refine Compare_chain (thn (ha zf s σ H _ I h) fun v s1 ⟨x,H1,I1,r1,q1⟩=>chain_link (thn (hb zf s1 σ H1 _ I1 q1) fun u s2 ⟨y,H2,I2,r2,q2⟩=>
  thn (ho zf s2 σ H2 x y v u _ I2 r1 r2 q2) fun d s3 ⟨z,H3,I3,r3,k,e,q3⟩=>?_)) hm
 subst e;cases r3;refine iu ?_;cases k with
 |false=>exact ite_ff ⟨.bl false,H3,I3,rfl,q3⟩
 |true=>exact ite_tt (chain_last (thn (hc zf s3 σ H3 _ I3 q3) fun w' s4 ⟨z',H4,I4,r4,q4⟩=>aa zf s4 σ H4 y z' u w' Q I4 r2 r4 q4))
theorem GX{op q:CmpOp}{r r':R2}(ho:OpR X (io op) r)(aa:OpR X (io q) r')(ha:PE X a ta)(hb:PE X b tb)(hc:PE X c tc)
  (hm:lastMarks [op,q] [b,c]=false:=by with_unfolding_all rfl):PT X (.Compare a [op,q] [b,c] pos) (nK (sE r r' ta tb tc)):=by
 intro zf s σ H Q I h;refine isTrue_chain (thn (ha zf s σ H _ I h) fun v s1 ⟨x,H1,I1,r1,q1⟩=>test_link (thn (hb zf s1 σ H1 _ I1 q1) fun u s2 ⟨y,H2,I2,r2,q2⟩=>
  thn (ho zf s2 σ H2 x y v u _ I2 r1 r2 q2) fun d s3 ⟨z,H3,I3,r3,k,e,q3⟩=>?_)) hm
 subst e;cases r3;refine iu ?_;cases k with
 |false=>
  obtain⟨k',e',q'⟩:=q3;cases e';exact ite_ff ⟨H3,I3,q'⟩
 |true=>
  refine ite_tt (test_last (thn (hc zf s3 σ H3 _ I3 q3) fun w' s4 ⟨z',H4,I4,r4,q4⟩=>thn (aa zf s4 σ H4 y z' u w' _ I4 r2 r4 q4) fun d' s5 ⟨z2,H5,I5,r5,k2,e2,q5⟩=>?_));subst e2;cases r5;exact iu ⟨H5,I5,q5⟩
def TruV(K:cy)(x:V)(H:Hp)(k:Bool):Prop:=
 match x with
 | .non=>k=false
 | .bl b=>k=b
 | .int i=>k=(i != 0)
 | .str y=>y.length<=dw/\k=((y.length:Int) != 0)
 | .byt y=>y.size<=dw/\k=((y.size:Int) != 0)
 | .ref p=>(∃xs,SqL K H p xs/\k=!xs.isEmpty)\/(∃xs,SqT K H p xs/\k=!xs.isEmpty)\/∃kvs,H p=some (.dK kvs)/\k=!kvs.isEmpty
 |_=>False
theorem DF{κ:Type}{q:List (κ×V)}{vs:List (κ×bn)}(r:KV q vs):(!vs.isEmpty)=!q.isEmpty:=by
 cases r<;>rfl
theorem Bv{xs:List V}{q:List bn}(r:Vals xs q):(!q.toArray.isEmpty)=!xs.isEmpty:=by
 cases r<;>simp
theorem line63:(dw:Nat)<2 ^ 63:=by rw[jj];decide
theorem EF:TruR X (fun x H Q=>∃k,TruV X.K x H k/\Q k H):=by
 intro zf s σ H x v Q I rx h;obtain⟨k,e,q⟩:=h;have hl:=line63;have hs:dw=16777216:=jj;cases x with
 |non=>
  cases rx;have e':k=false:=e;subst e';exact truthy_none ⟨H,I,q⟩
 |bl b=>
  cases rx;have e':k=b:=e;subst e';exact iu ⟨H,I,q⟩
 |int i=>
  obtain⟨t,rfl⟩:=rx;have e':k=(i != 0):=e;subst e';exact PySem.P.truthy_int ⟨H,I,q⟩
 |str y=>
  obtain⟨t,rfl⟩:=rx;obtain⟨hy,e'⟩:y.length<=dw/\k=((y.length:Int) != 0):=e;subst e';exact PySem.P.truthy_str yw ⟨H,I.tok _,q⟩
 |byt y=>
  obtain⟨t,rfl⟩:=rx;obtain⟨hy,e'⟩:y.size<=dw/\k=((y.size:Int) != 0):=e;subst e';exact W.truthy_bytes yw ⟨H,I.tok _,q⟩
 |ref p=>
  cases rx;have e':(∃xs,SqL X.K H p xs/\k=!xs.isEmpty)\/(∃xs,SqT X.K H p xs/\k=!xs.isEmpty)\/∃kvs,H p=some (.dK kvs)/\k=!kvs.isEmpty:=e;rcases e' with ⟨xs,hx,e'⟩|⟨xs,hx,e'⟩|⟨kvs,hx,e'⟩
  ·subst e';obtain⟨aa,r,pl,hz⟩:=I.list hx;have z:=r.length;exact wpAny_truthy_list pl.isList (by simp only[cz];omega) ⟨H,I.tok _,by rw[Bv r];exact q⟩
  ·subst e';obtain⟨aa,r,pl,hz⟩:=I.tuple hx;have z:=r.length;exact truthy_tuple pl (by simp only[cz];omega) ⟨H,I.tok _,by rw[Bv r];exact q⟩
  ·subst e';obtain⟨hz,hS,vs,r,m⟩:kvs.length<=dw/\(p==nu)=false/\∃vs,KV kvs vs/\s.heap.DictOf (cI X.prog X.w) p vs:=I.hok p _ hx;have z:kvs.length=vs.length:=Paired.length r;exact wpAny_truthy_dict hS m yw ⟨H,I.tok _,by rw[DF r];exact q⟩
 |_=>exact(show False from e).elim
theorem cR(ha:PE X a ta)(he:∀whole,isTrue a X.env whole=(do let v <- whole;standAt a.pos;holding [v] (truthy v))):
  PT X a (fun σ H Q=>ta σ H fun x H'=>∃k,TruV X.K x H' k/\Q k H'):=by
 intro zf s σ H Q I h;exact isTrue_plain (thn (ha zf s σ H _ I h) fun v s1 ⟨x,H1,I1,r1,q1⟩=>EF zf s1 σ H1 x v Q I1 r1 q1) (he _)
theorem FZ:OpR X (kw .Add) (fun x y H Q=>∃i j,x=.str i/\y=.str j/\i.length+j.length<=dw/\Q (.str (i++j)) H):=by
 intro zf s σ H x y v u Q I rx ry h;obtain⟨i,j,rfl,rfl,hz,q⟩:=h;obtain⟨t,rfl⟩:=rx;obtain⟨t',rfl⟩:=ry;exact add_str (fun t' tk=>⟨.str (i++j),H,I.tok _,⟨_,rfl⟩,q⟩) hz
theorem vals1{x:V}{us:List bn}(r:Vals [x] us):∃u,us=[u]/\RelV x u:=by
 cases r with
 |cons r1 r2=>cases r2;exact⟨_,rfl,r1⟩
theorem vals2{x y:V}{us:List bn}(r:Vals [x,y] us):∃u w',us=[u,w']/\RelV x u/\RelV y w':=by
 cases r with
 |cons r1 r2=>
  cases r2 with
  |cons r3 r4=>cases r4;exact⟨_,_,rfl,r1,r3⟩
theorem Fi(hc:X.calm=true):CallR X (.builtin "max") (fun xs H Q=>∃i j,xs=[.int i,.int j]/\Q (.int (if j>i then j else i)) H):=by
 intro zf s σ H xs us Q I r h;obtain⟨i,j,rfl,q⟩:=h;obtain⟨u,w',rfl,⟨t,rfl⟩,⟨t',rfl⟩⟩:=vals2 r;refine max_two_ints (I.ok.hd hc) fun h' tk k=>⟨_,H,I.kept k,?_,q⟩;by_cases hj:j>i
 ·rw[ci hj,ci hj];exact⟨_,rfl⟩
 ·rw[cg hj,cg hj];exact⟨_,rfl⟩
theorem xC:CallR X (.type "int") (fun xs H Q=>(∃i,xs=[.int i]/\Q (.int i) H)\/∃k,xs=[.bl k]/\Q (.int (if k then 1 else 0)) H):=by
 intro zf s σ H xs us Q I r h;rcases h with ⟨i,rfl,q⟩|⟨k,rfl,q⟩
 ·obtain⟨u,rfl,t,rfl⟩:=vals1 r;exact call_int_int ⟨.int i,H,I,⟨_,rfl⟩,q⟩
 ·obtain⟨u,rfl,r1⟩:=vals1 r;cases r1;exact call_int_bool ⟨.int (if k then 1 else 0),H,I.tok _,⟨_,rfl⟩,q⟩
end
end
section
structure ObjM(h:Heap)(x dx C:Addr)(mA:Str->Option bn):Prop where
 obj:h.get? x=some (W.instObj C dx)
 ns:h.Ns1 dx mA
 ne:dx≠x
theorem Cc{h:Heap}{dx:Addr}{mA:Str->Option bn}(n:h.Ns1 dx mA):∃od,h.get? dx=some od/\∀name,W.lookIn name od=some (mA name):=by
 obtain⟨o,es,ep,ho,hd,hk,_,hm⟩:=n;refine⟨o,ho,fun name=>?_⟩;have e:=hm name;unfold nsFind findBy at e;rw[<- Array.find?_toList]at e;unfold W.lookIn;rw[hd];dsimp only;split
 ·rename_i y q;rw[q]at e;exact congrArg some e
 ·rename_i q;rw[q]at e;have a:es.toList.any (·.refKey)=false:=by
   rw[any_eq_false];intro y hy;obtain⟨z,t,aa⟩:=hk y (Array.mem_toList_iff.mp hy);simp[DictEntry.refKey,aa]
  have a':¬ es.toList.any (·.refKey)=true:=by rw[a];exact ja
  rw[cg a'];exact congrArg some e
theorem ObjM.look{h:Heap}{x dx C:Addr}{mA:Str->Option bn}(I:ObjM h x dx C mA):∃od,W.InstAt h x (W.instObj C dx) C (some od)/\∀name,W.lookIn name od=some (mA name):=
 let ⟨od,ho,hl⟩:=Cc I.ns
 ⟨od,⟨I.obj,rfl,rfl,ho⟩,hl⟩
theorem RelO.some_of{v:V}{o:Option bn}(r:RelO (some v) o):∃u,o=some u/\RelV v u:=by
 cases o with
 |none=>exact(show False from r).elim
 |some u=>exact⟨u,rfl,r⟩
section
variable {P:fg}{w:ga}{H H':Hp}{h h':Heap}{a C dx:Addr}{fs fs':List (Str×V)}
theorem Iw(hok:HOk P w H h)(e:H a=some (.ins C dx fs)):∃mA,ObjM h a dx C mA/\(∀f,RelO (fs.lookup f) (mA f))/\PySem.Within mA (fs.map (·.1))/\fs.length<=1000/\H dx=some (.own a):=by
 obtain⟨d,z,ne,ob,mA,n,r,q⟩:=(show ObjOk P w H h a (.ins C dx fs)from hok a _ e);exact⟨mA,⟨ob,n,ne⟩,r,q,z,d⟩
end
structure Cls(K:cy)(C:Addr):Prop where
 pg:W.plainGet K C Str.empty=true
 hd:W.hasDictIn K C=true
 po:W.plainOver K C=true
 sa:W.findIn K (.ref C) "__setattr__" = some (some (.builtin "object.__setattr__"))
theorem Cls.get{K:cy}{C:Addr}(c:Cls K C)(f:Str):W.plainGet K C f=true:=c.pg
section
variable {X:Cx}{zf:List (Addr×Obj)}{σ:St}{H:Hp}{s:bp}{A:fv}{E:bn->bp->Prop}{Q:bn->bp->Prop}{c:bn}{b:Bool}
inductive TyOf (K:cy) (H:Hp):V->bn->Prop where
 |non:TyOf K H .non (.type "NoneType")
 |bl (x:Bool):TyOf K H (.bl x) (.type "bool")
 |int (i:Int):TyOf K H (.int i) (.type "int")
 |str (x:Str):TyOf K H (.str x) (.type "str")
 |flt (x:UInt64):TyOf K H (.flt x) (.type "float")
 |lst {a:Addr}{xs:List V} (e:H a=some (.lst xs)):TyOf K H (.ref a) (.type "list")
 |frz {a:Addr}{o:Obj}{xs:List V} (e:H a=some (.frz o (.lst xs))):TyOf K H (.ref a) (.type "list")
 |tup {a:Addr}{xs:List V} (e:H a=some (.tup xs)):TyOf K H (.ref a) (.type "tuple")
 |dK {a:Addr}{kvs:List (Key×V)} (e:Rd H a (.dK kvs)):TyOf K H (.ref a) (.type "dict")
 |dT {a:Addr}{kvs:List (List Key×V)} (e:Rd H a (.dT kvs)):TyOf K H (.ref a) (.type "dict")
 |ins {a C dx:Addr}{fs:List (Str×V)} (e:H a=some (.ins C dx fs)) (cl:Cls K C) (ha:W.findIn K (.ref C) "__class__" = some (some (.builtin "object.__class__")))
   (hn:W.specialIn K (.builtin "object.__class__") "__get__" = some (some (.builtin "getset_descriptor.__get__"))) (htk:W.takesIn K (.builtin "object.__class__")=some true)
   (hm:W.mroIn K C (.type "object")=some true):TyOf K H (.ref a) (.ref C)
theorem EZ{x:V}{u t:bn}(I:Inv X zf σ H s)(rx:RelV x u)(ty:TyOf X.K H x t)(e:W.kitOne X.K t c=some b)(h:∀tk,Q (.bool b) { s with toks:=tk }):
  cj (model X.prog X.w) A (call (.builtin "isinstance") [u,c]) Q E s:=by
 cases ty with
 |non=>cases (show u=qw from rx);exact qb W.kitx_none I.kIn oy e (fun z=>nomatch z) h
 |bl y=>cases (show u=ke y from rx);exact qb W.kitx_bool I.kIn oy e (fun z=>nomatch z) h
 |int i=>obtain⟨t,q⟩:=(show ∃t,u=Value.int i t from rx);cases q;exact qb W.kitx_int I.kIn oy e (fun z=>nomatch z) h
 |str y=>obtain⟨t,q⟩:=(show ∃t,u=Value.str y t from rx);cases q;exact qb W.kitx_str I.kIn oy e (fun z=>nomatch z) h
 |flt y=>obtain⟨t,q⟩:=(show ∃t,u=Value.float y t from rx);cases q;exact qb W.kitx_float I.kIn oy e (fun z=>nomatch z) h
 | @lst a xs ea=>
  cases (show u=ie a from rx);obtain⟨_,_,n,_,h1⟩:=(show ObjOk X.prog X.w H s.heap a (.lst xs)from I.hok a _ ea);exact qb W.kitx_list I.kIn ⟨_,h1,rfl⟩ e (fun z=>nomatch z) h
 | @frz a ob xs ea=>
  cases (show u=ie a from rx);obtain⟨_,_,_,n,_,h1⟩:=(show ObjOk X.prog X.w H s.heap a (.frz ob (.lst xs))from I.hok a _ ea);exact qb W.kitx_list I.kIn ⟨_,h1,rfl⟩ e (fun z=>nomatch z) h
 | @tup a xs ea=>
  cases (show u=ie a from rx);obtain⟨_,_,_,p⟩:=(show ObjOk X.prog X.w H s.heap a (.tup xs)from I.hok a _ ea);obtain⟨o,h1,h2,_⟩:=p;exact qb W.kitx_tuple I.kIn ⟨o,h1,h2⟩ e (fun z=>nomatch z) h
 | @dK a kvs ea=>
  cases (show u=ie a from rx);obtain⟨_,_,vs,_,p⟩:=(show ObjOk X.prog X.w H s.heap a (.dK kvs)from ea.ok I.hok);obtain⟨o,es,ep,h1,h2,_⟩:=p;exact qb W.kitx_dict I.kIn ⟨o,h1,h2.1⟩ e (fun z=>nomatch z) h
 | @dT a kvs ea=>
  cases (show u=ie a from rx);obtain⟨_,_,xs,_,o,es,ep,h1,h2,_⟩:=(show ObjOk X.prog X.w H s.heap a (.dT kvs)from ea.ok I.hok);exact qb W.kitx_dict I.kIn ⟨o,h1,h2.1⟩ e (fun z=>nomatch z) h
 | @ins a C dx fs ea cl ha hn htk hm=>
  cases (show u=ie a from rx);obtain⟨mA,O,_⟩:=Iw I.hok ea;obtain⟨od,J,_⟩:=O.look;exact qb (W.kitx_own (cl.get _) cl.hd ha hn htk hm) I.kIn J e (fun z=>nomatch z) h
end
end
section
structure Room(k:Nat)(A:fv):Prop where
 hd:A.handled=none
 dp:A.depth+3*k+5<recursionLimit
 un:A.units+16*k+200<re
theorem Room.mono{j k:Nat}{A:fv}(r:Room k A)(h:j<=k):Room j A:=⟨r.hd,by have:=r.dp;omega,by have:=r.un;omega⟩
theorem Room.deeper{k:Nat}{A:fv}(r:Room (k+1) A)(env:Env):Room k (A.deeper env):=
 ⟨r.hd,by have:=r.dp;show A.depth+1+3*k+5<_;omega,by have:=r.un;show A.units+3+16*k+200<_;omega⟩
theorem Room.depth{k:Nat}{A:fv}(r:Room k A):A.depth<recursionLimit:=by have:=r.dp;omega
theorem Room.units{k:Nat}{A:fv}(r:Room k A):A.units+64<re:=by have:=r.un;omega
def jQ:TA:=fun _ H Q=>Q [] H
def eL(ta:TE)(tr:TA):TA:=fun σ H Q=>ta σ H fun x H1=>tr σ H1 fun xs H2=>Q (x::xs) H2
section
variable {X:Cx}{e:Expr}{es:List Expr}{te:TE}{t:TA}{pos:Pos}
theorem zc:PA X [] jQ:=fun _ _ _ _ H Q I h=>Calls.spliced_nil ⟨[],H,I,.nil,h⟩
theorem za(ha:PE X e te)(hr:PA X es t)(hs:fq (e::es) X.env=(false,eval e X.env)::fq es X.env:=by rfl):PA X (e::es) (eL te t):=by
 intro pos zf s σ H Q I h;rw[hs];show cj _ _ (spliced ((false,eval e X.env)::qx pos (fq es X.env))) _ _ s;refine Calls.spliced_cons (thn (ha zf s σ H _ I h) fun u s1 ⟨x,H1,I1,r1,q1⟩=>?_);exact thn (hr pos zf s1 σ H1 _ I1 q1) fun us s2 ⟨xs,H2,I2,r2,q2⟩=>⟨x::xs,H2,I2,.cons r1 r2,q2⟩
def u8(t:TA):TE:=fun σ H Q=>t σ H fun xs H1=>xs.length<=dw/\∀p,H1 p=none->Q (.ref p) (upd H1 p (.tup xs))
def gA(t:TA):TE:=fun σ H Q=>t σ H fun xs H1=>xs.length<=dw/\∀p,H1 p=none->Q (.ref p) (upd H1 p (.lst xs))
theorem zL{x1}(h:PA X es t):PE X (.Tuple es x1 pos) (u8 t):=by
 intro zf s σ H Q I hq;refine wpAny_Tuple_spliced (thn (h pos zf s σ H _ I hq) fun us s1 ⟨xs,H1,I1,r,z,q⟩=>⟨by rw[<- r.length];exact z,?_⟩);have hf:H1 s1.heap.objs.size=none:=I1.hok.fresh (cx _);refine⟨.ref s1.heap.objs.size,upd H1 s1.heap.objs.size (.tup xs),I1.laid (t':=s1.toks) (fun b u e=>bu _ e) (cx _) ?_,rfl,q _ hf⟩;exact⟨⟨z,_,df _ rfl,rfl⟩,us,r,⟨_,df _ rfl,rfl,_,rfl⟩⟩
theorem zP(h:PA X es t):PE X (.List es pos) (gA t):=by
 intro zf s σ H Q I hq;refine wpAny_List_spliced (thn (h pos zf s σ H _ I hq) fun us s1 ⟨xs,H1,I1,r,z,q⟩=>⟨by rw[<- r.length];exact z,?_⟩);have hf:H1 s1.heap.objs.size=none:=I1.hok.fresh (cx _);refine⟨.ref s1.heap.objs.size,upd H1 s1.heap.objs.size (.lst xs),I1.laid (t':=s1.toks) (fun b u e=>bu _ e) (cx _) ?_,rfl,q _ hf⟩;exact⟨z,us,0,r,df _ rfl⟩
end
abbrev Sp:=List V->Hp->VK->XK->Prop
abbrev CXT:=List Env->Hp->bp->XK->bn->bp->Prop
structure Env0(P:fg)(w:ga)(K:cy)(mg:Str->Option bn)(base:Heap)(A:fv)(outer:List Env)(s:bp)(H:Hp):Prop where
 frames:A.frames=some outer
 mod:Mod K mg base
 bs:∀b o,base.get? b=some o->s.heap.get? b=some o/\H b=none
 bsz:base.objs.size<=s.heap.objs.size
 funs:s.heap.FunFrames base outer
 frf:Frf (frs outer) H
 hok:HOk P w H s.heap
 bare:AllBare s.gens
def CE(outer:List Env)(P:fg)(w:ga)(H:Hp)(s:bp)(Q:VK)(u:bn)(s':bp):Prop:=
 ∃v H',s'.os=s.os/\AllBare s'.gens/\Un (frs outer) [] H H' s.heap s'.heap/\HOk P w H' s'.heap/\RelV v u/\Q v H'
def CR(CX:CXT)(outer:List Env)(P:fg)(w:ga)(H:Hp)(s:bp)(Q:VK)(E:XK)(r:Result)(s':bp):Prop:=
 match r with
 | .ok (.ret u)=>CE outer P w H s Q u s'
 | .ok _=>False
 | .error e=>CX outer H s E e s'
structure FnOk(P:fg)(w:ga)(K:cy)(mg:Str->Option bn)(base:Heap)(CX:CXT)(k:Nat)(f:Addr)(fd:px)(ps:List Str)(sp:Sp):Prop where
 len:∀vs H Q E,sp vs H Q E->vs.length=ps.length
 run:∀(A:fv) (outer:List Env) (s:bp) (H:Hp) (args:Args) (us:List bn) (vs:List V) (Q:VK) (E:XK),Room k A->Env0 P w K mg base A outer s H->BindsTo s fd args (ps.zip us)->Vals vs us->sp vs H Q E ->
  pb (model P w) A (.call (.ref f) args) (CR CX outer P w H s Q E) s
section
variable {X:Cx}{zf:List (Addr×Obj)}{σ:St}{H:Hp}{s s':bp}
theorem Inv.env0(I:Inv X zf σ H s):Env0 X.prog X.w X.K X.mg X.base X.A X.stack s H:=
 ⟨I.ok.frames,I.ok.mod,I.bs,iz I.ok.bsz I.sz,I.stack,I.stkFree,I.hok,I.bare⟩
theorem Inv.after{Q:VK}{u:bn}(I:Inv X zf σ H s)(h:CE X.stack X.prog X.w H s Q u s'):EP X zf σ Q u s':=by
 obtain⟨v,H',os,bare,un,hok,r,q⟩:=h;obtain⟨hh,g,d,t,aa⟩:=s';obtain rfl:aa=s.os:=os;exact⟨v,H',I.call (h':=hh) (g':=g) (d':=d) (t':=t) (ch:=[]) un hok bare (fun b z=>absurd z yv),r,q⟩
end
def j5(sp:Sp)(dvs:List V)(E:XK)(t:TA):TE:=fun σ H Q=>t σ H fun vs H1=>sp (vs++dvs) H1 Q E
def Binds(K:cy)(fd:px)(ps:List Str)(ds:List bn):Prop:=
 ∀(s:bp) (us:List bn),K.In s.heap->(us++ds).length=ps.length->BindsTo s fd ⟨us,[]⟩ (ps.zip (us++ds))
theorem Binds.all{K:cy}{fd:px}{ps:List Str}(h:∀us:List bn,us.length=ps.length->bindArgs fd ⟨us,[]⟩=pure (ps.zip us)):Binds K fd ps []:=fun s us _ hl=>by
 rw[km]at hl ⊢;exact .of_eq (h us hl)
def Passes(CX:CXT)(X:Cx)(E:XK):Prop:=∀(zf:List (Addr×Obj)) (σ:St) (H:Hp) (s:bp) (e:bn) (s':bp),Inv X zf σ H s->CX X.stack H s E e s'->X.xe e s'
section
variable {X:Cx}{CX:CXT}{k:Nat}{f C:Addr}{fd:px}{ps:List Str}{sp:Sp}{dvs:List V}{ds:List bn}{E:XK}{x m:Str}{p pos apos:Pos}{e o:Expr}{es:List Expr}{ta:TE}{t:TA}
theorem Hg{zf:List (Addr×Obj)}{σ:St}{H:Hp}{s:bp}{Q:VK}{us:List bn}{vs:List V}(F:FnOk X.prog X.w X.K X.mg X.base CX k f fd ps sp)(hr:Room k X.A)(hb:Binds X.K fd ps ds)(hd:Vals dvs ds)(hx:Passes CX X E)
  (I:Inv X zf σ H s) (r:Vals vs us) (h:sp (vs++dvs) H Q E):cj (model X.prog X.w) X.A (call (.ref f) us) (EP X zf σ Q) X.xe s:=by
 have r2:Vals (vs++dvs) (us++ds):=r.append hd;have hl:(us++ds).length=ps.length:=by rw[<- r2.length];exact F.len _ _ _ _ h
 refine wpAny_call (codeAny_mono (F.run X.A X.stack s H ⟨us,[]⟩ (us++ds) (vs++dvs) Q E hr I.env0 (hb s us I.kIn hl) r2 h) fun r s' hq=>?_);cases r with
 |error e=>exact hx zf σ H s e s' I hq
 |ok fl=>
  cases fl with
  |ret u=>exact I.after hq
  |next=>exact ow hq
  |brk=>exact ow hq
  |cont=>exact ow hq
theorem CL(F:FnOk X.prog X.w X.K X.mg X.base CX k f fd ps sp)(hr:Room k X.A)(hg:Gl X x)(hm:X.mg x=some (.ref f))(hk:W.keepIn X.K (.ref f)=true)(hb:Binds X.K fd ps ds)(hd:Vals dvs ds)(hx:Passes CX X E)
  (ha:PA X (e::es) t) (hdb:(x==("__debug__":Str))=false:=by decide) (he:fq (e::es) X.env=(false,eval e X.env)::fq es X.env:=by rfl) (hpl:(qx pos (fq es X.env)).any (·.1)=false:=by rfl):
  PE X (.Call (.Name x p) (e::es) [] pos) (j5 sp dvs E t):=by
 intro zf s σ H Q I h;refine ly (AQ I hg hm ?_ hdb);refine W.callWith_K (h₀:=X.base) I.ok.mod.kin hk (thn (ha pos zf s σ H _ I h) fun us s1 ⟨vs,H1,I1,r,q⟩=>⟨I1.kIn,?_⟩) he hpl;exact Hg F hr hb hd hx I1 r q
end
structure FnScope(N P:List Str)(sc:Scope):Prop where
 kind:sc.kind=.function
 co:sc.isCoroutine=false
 gen:sc.isGenerator=false
 nd:N.Nodup
 pre:N.take P.length=P
 par:∀x∈P,sc.names.lookup x=some .local\/sc.names.lookup x=some .cell
 nofree:∀y∈sc.names,y.2≠.free
theorem CP{q:Str->Option nn}{x:Str}:∀{binds:List (Str×bn)}{m:Str->Option bn},(∀v,(x,v)∉binds)->bindL q binds m x=m x
 | [],_,_=>rfl
 | (n,v)::r,m,h=>by
  unfold bindL;rw[CP fun w hw=>h w (fb _ hw)];split
  ·have:x≠n:=by rintro rfl;exact h v fi
   simp[this]
  ·rfl
theorem BQ{q:Str->Option nn}{x:Str}:∀{binds:List (Str×bn)}{m:Str->Option bn},(∀v,(x,v)∉binds)->bindC q binds m x=m x
 | [],_,_=>rfl
 | (n,v)::r,m,h=>by
  unfold bindC;rw[BQ fun w hw=>h w (fb _ hw)];split
  ·rfl
  ·have:x≠n:=by rintro rfl;exact h v fi
   simp[this]
theorem Be{q:Str->Option nn}{x:Str}{v:bn}:∀{P:List Str}{vs:List bn}{i:Nat}{m:Str->Option bn},P.Nodup->P[i]?=some x->vs[i]?=some v->q x=some .local ->
  bindL q (P.zip vs) m x=some v
 | [],_,_,_,_,h,_,_=>by simp at h
 |_::_,[],_,_,_,_,h,_=>by simp at h
 |p::P,w::vs,0,m,nd,h1,h2,hk=>by
  simp at h1 h2;subst h1;subst h2;show bindL q ((p,w)::P.zip vs) m p=_;unfold bindL;rw[CP fun v hv=>(nodup_cons.mp nd).1 (of_mem_zip hv).1,ci hk];simp
 |p::P,w::vs,i+1,m,nd,h1,h2,hk=>by
  show bindL q ((p,w)::P.zip vs) m x=_;unfold bindL;exact Be (i:=i) (nodup_cons.mp nd).2 (by simpa using h1) (by simpa using h2) hk
theorem v4{q:Str->Option nn}{x:Str}{v:bn}:∀{P:List Str}{vs:List bn}{i:Nat}{m:Str->Option bn},P.Nodup->P[i]?=some x->vs[i]?=some v->q x≠some .local ->
  bindC q (P.zip vs) m x=some v
 | [],_,_,_,_,h,_,_=>by simp at h
 |_::_,[],_,_,_,_,h,_=>by simp at h
 |p::P,w::vs,0,m,nd,h1,h2,hk=>by
  simp at h1 h2;subst h1;subst h2;show bindC q ((p,w)::P.zip vs) m p=_;unfold bindC;rw[BQ fun v hv=>(nodup_cons.mp nd).1 (of_mem_zip hv).1,cg hk];simp
 |p::P,w::vs,i+1,m,nd,h1,h2,hk=>by
  show bindC q ((p,w)::P.zip vs) m x=_;unfold bindC;exact v4 (i:=i) (nodup_cons.mp nd).2 (by simpa using h1) (by simpa using h2) hk
def start(N:List Str)(vs:List V):St:=vs.map some++bx (N.length-vs.length) none
def eF(CX:CXT)(P:fg)(w:ga)(K:cy)(mg:Str->Option bn)(base:Heap)(N:List Str)(q:Str)(scope:Scope)(f:Addr)(cd:bn)(A:fv)(outer:List Env)(s:bp)(H:Hp)(E:XK):Cx where
 prog:=P
 w:=w
 K:=K
 mg:=mg
 base:=base
 A:=A.deeper (envOfC q scope s.heap.objs.size f cd)
 N:=N
 s₀:=s
 H₀:=H
 env:=envOfC q scope s.heap.objs.size f cd
 outer:=outer
 stack:=envOfC q scope s.heap.objs.size f cd::outer
 ex:=[]
 calm:=true
 fn:=fun _=>true
 pn:=[]
 xe:=fun e s'=>cj (model P w) (A.deeper (envOfC q scope s.heap.objs.size f cd)) (leaving (envOfC q scope s.heap.objs.size f cd) e) (fun _ s''=>CX outer H s E e s'') (fun e' s''=>CX outer H s E e' s'') s'
theorem yH{sc:Scope}{n:Nat}{x:Str}(h:sc.names.lookup x=some .cell):∃c,(cellsFrom n sc.names []).lookup x=some c:=by
 have q:=W.cellsFrom_some sc.names n [] (.inl h);exact isSome_iff_exists.mp q
theorem Gb{CX:CXT}{P:fg}{w:ga}{K:cy}{mg:Str->Option bn}{base:Heap}{N ps:List Str}{aa:Str}{scope:Scope}{f:Addr}{cd:bn}{A:fv}{outer:List Env}{s s1:bp}{H:Hp}{E:XK}{us:List bn}{vs:List V}
  (S:FnScope N ps scope) (hd:A.handled=none) (e0:Env0 P w K mg base A outer s H) (hl:vs.length=ps.length) (r:Vals vs us)
  (x:InCallC s s.heap.objs.size (bindL (envOfC aa scope s.heap.objs.size f cd).kindOf (ps.zip us) fun _=>none) (cellsFrom (s.heap.objs.size+1) scope.names []) (bindC (envOfC aa scope s.heap.objs.size f cd).kindOf (ps.zip us) fun _=>none) s1):
  Inv (eF CX P w K mg base N aa scope f cd A outer s H E) [] (start N vs) H s1:=by
 have ae:ps.length<=N.length:=by have:=congrArg List.length S.pre;rw[jw]at this;omega
 obtain⟨h1,tk,rfl,hk⟩:=x.done;have ab:∀b:Addr,b∉(eF CX P w K mg base N aa scope f cd A outer s H E).ex:=fun b z=>absurd (show b∈([]:List Addr)from z) yv;refine⟨⟨e0.mod,S.kind,rfl,rfl,cx _,fun y z c h1 h2=>?_,fun y hy=>?_,fun y c _ h=>?_,fun _=>hd,Around.frames_deeper e0.frames,.inr ⟨rfl,rfl⟩,fun b z=>absurd z (ab b),e0.bs,e0.bsz,fun b _ _=>ab b,fun b z=>absurd z (ab b),e0.funs,e0.frf⟩,
  rfl,e0.bare,Un.kept hk,⟨_,x.toInCall.ns,fun i y v h1 h2 h3=>?_⟩,fun y c h=>⟨_,x.cell y c h⟩,e0.hok.fresh (cx _),fun y c h=>?_,fun p hp=>absurd (show p∈([]:List (Addr×Obj))from hp) yv,e0.hok.kept hk,?_⟩
 ·exact name_of_addr x.apart (PySem.mem_of_lookup h1) (PySem.mem_of_lookup h2)
 ·have hy:scope.names.lookup y=some .cell\/scope.names.lookup y=some .free:=hy;rcases hy with hy|hy
  ·exact yH hy
  ·exact absurd rfl (S.nofree _ (PySem.mem_of_lookup hy))
 ·exact ku (x.above y c (PySem.mem_of_lookup h))
 ·have hi:i<vs.length:=by
   unfold start at h2;by_cases hi:i<vs.length
   ·exact hi
   ·rw[mq (by simpa using hi)]at h2;rw[List.getElem?_replicate]at h2;split at h2<;>cases h2
  have ha:vs[i]?=some v:=by
   unfold start at h2;rw[fh (by simpa using hi),gu]at h2;cases e:vs[i]? with
   |none=>rw[e]at h2;cases h2
   |some a=>rw[e]at h2;cases h2;rfl
  obtain⟨u,hu,rv⟩:=r.get ha;have hp:ps[i]?=some y:=by
   rw[<- S.pre,List.getElem?_take_of_lt yw];exact h1
  have ac:ps.Nodup:=by rw[<- S.pre];exact S.nd.sublist (List.take_sublist _ _)
  refine⟨u,rv,?_⟩;rcases S.par y (bv hp)with k|k
  ·exact .inl ⟨k,Be ac hp hu k⟩
  ·obtain⟨c,e⟩:=yH (n:=s.heap.objs.size+1) k;refine .inr ⟨.inl k,c,e,?_⟩;have q:=x.cell y c e;rw[v4 ac hp hu (by show scope.names.lookup y≠_;rw[k];decide)]at q;exact q
 ·exact e0.hok.fresh (ku (x.above y c (PySem.mem_of_lookup h)))
 ·unfold start;show _=N.length;rw[cu,ff,List.length_replicate];omega
theorem FL{CX:CXT}{P:fg}{w:ga}{K:cy}{mg:Str->Option bn}{base:Heap}{k:Nat}{f:Addr}{name z:Str}{ab:Arguments}{ac:List Stmt}{scope:Scope}{dV kV af pm aa ct oc:bn}{an od:Option Addr}
  {osl:Array (Option bn)}{N ps:List Str}{sp:Sp} (lk:K.lookup f=some ⟨oc,od,.func (W.fnOf name z ab ac scope dV kV af pm an aa ct),osl⟩) (hcd:W.codeIn K aa z=true) (S:FnScope N ps scope)
  (len:∀vs H Q E,sp vs H Q E->vs.length=ps.length)
  (hbody:∀(A:fv) (outer:List Env) (s:bp) (H:Hp) (vs:List V) (Q:VK) (E:XK),Room k (A.deeper (envOfC z scope s.heap.objs.size f aa))->sp vs H Q E ->
   ∃t,PSs (eF CX P w K mg base N z scope f aa A outer s H E) ac t/\t { nx:=fun _ H'=>Q .non H',rt:=Q } (start N vs) H):
  FnOk P w K mg base CX (k+1) f (W.fnOf name z ab ac scope dV kV af pm an aa ct) ps sp:=by
 refine⟨len,fun A outer s H args us vs Q E hr e0 hb r ag=>?_⟩;have hl:=len _ _ _ _ ag;have KX:K.In s.heap:=e0.mod.kin.keeps fun b o e=>(e0.bs b o e).1;have ah:s.heap.NoLimit:=e0.mod.nolimit.keeps fun b o e=>(e0.bs b o e).1;have ae:∀y∈ps.zip us,scope.names.lookup y.1=some .local\/(scope.names.lookup y.1=some .cell/\((cellsFrom (s.heap.objs.size+1) scope.names []).lookup y.1).isSome=true):=fun⟨n,v⟩ hy=>by
  rcases S.par n (of_mem_zip hy).1 with q|q
  ·exact .inl q
  ·exact .inr ⟨q,W.cellsFrom_some _ _ _ (.inl q)⟩
 refine codeAny_call_function hr.depth (KX _ _ lk) rfl S.co S.gen rfl (W.codeRec_of KX hcd) (hb _ _ _ _ ?_);refine wpAny_newFunctionEnv_cells S.kind ae fun env he s1 x=>?_;subst he;refine⟨ah.keeps x.toInCall.keep,codeAny_func ?_⟩;obtain⟨t,ht,hq⟩:=hbody A outer s H vs Q E (hr.deeper _) ag;have I:Inv (eF CX P w K mg base N z scope f aa A outer s H E) [] (start N vs) H s1:=Gb S hr.hd e0 hl r x;refine nv (ht [] s1 (start N vs) H _ I hq) (fun fl s' hs=>?_) fun e s' hs=>hs;have fin:∀{σ':St}{H':Hp}{v:V}{u:bn},Inv (eF CX P w K mg base N z scope f aa A outer s H E) [] σ' H' s'->RelV v u->Q v H'->CE outer P w H s Q u s':=
  fun {σ' H' v u} J rv q=>⟨v,H',J.os,J.bare,J.base,J.hok,rv,q⟩
 cases fl with
 |ret u=>
  obtain⟨v,σ',H',J,rv,q⟩:=hs;exact fin J rv q
 |next=>
  obtain⟨σ',H',J,q⟩:=hs;exact fin (v:=V.non) (u:=qw) J rfl q
 |brk=>
  obtain⟨_,_,_,q⟩:=hs;exact ow q
 |cont=>
  obtain⟨_,_,_,q⟩:=hs;exact ow q
end
section
section
variable {X:Cx}{x:Str}{p pos:Pos}{e:Expr}{es:List Expr}{t:TA}{id T:String}{r:List V->Hp->VK->Prop}
def tCB(r:List V->Hp->VK->Prop)(t:TA):TE:=fun σ H Q=>t σ H fun vs H1=>r vs H1 Q
theorem zr(hc:CallR X (.builtin id) r)(hg:Gl X x)(hm:X.mg x=none)(hv:gr x=some (.builtin id))(ha:PA X (e::es) t)(hn:x ≠ "__name__":=by decide)(q:(x==("__debug__":Str))=false:=by decide)
  (he:fq (e::es) X.env=(false,eval e X.env)::fq es X.env:=by rfl) (hpl:(qx pos (fq es X.env)).any (·.1)=false:=by rfl):PE X (.Call (.Name x p) (e::es) [] pos) (tCB r t):=by
 intro zf s σ H Q I h;refine ly (fL I hg hm hv ?_ hn q);exact PyProof.Rows.callWith_builtin1 (thn (ha pos zf s σ H _ I h) fun us s1 ⟨vs,H1,I1,r1,q1⟩=>hc zf s1 σ H1 vs us Q I1 r1 q1) he hpl
theorem g9(hc:CallR X (.type T) r)(hg:Gl X x)(hm:X.mg x=none)(hv:gr x=some (.type T))(ha:PA X (e::es) t)(hn:x ≠ "__name__":=by decide)(q:(x==("__debug__":Str))=false:=by decide)
  (he:fq (e::es) X.env=(false,eval e X.env)::fq es X.env:=by rfl) (hpl:(qx pos (fq es X.env)).any (·.1)=false:=by rfl):PE X (.Call (.Name x p) (e::es) [] pos) (tCB r t):=by
 intro zf s σ H Q I h;refine ly (fL I hg hm hv ?_ hn q);exact jd (thn (ha pos zf s σ H _ I h) fun us s1 ⟨vs,H1,I1,r1,q1⟩=>hc zf s1 σ H1 vs us Q I1 r1 q1) he hpl
end
end
end L2
namespace HT
open PySem PyProof.Rows
def lexLt:List Int->List Int->Bool
 | [],[]=>false
 | [],_::_=>true
 |_::_,[]=>false
 |x::xs,y::ys=>if x=y then lexLt xs ys else decide (x<y)
theorem lexLt_cons(x y:Int)(xs ys:List Int):lexLt (x::xs) (y::ys)=if x=y then lexLt xs ys else decide (x<y):=rfl
theorem Cv:lexLt [] []=false:=rfl
theorem HY(y:Int)(ys:List Int):lexLt [] (y::ys)=true:=rfl
theorem Cr(x:Int)(xs:List Int):lexLt (x::xs) []=false:=rfl
theorem EA(A:fv)(s:bp)(a:Int)(t:Tok)(c:Int)(u:Tok):∃e,SeqAt.EqAt A s (.int a t) (.int c u) e/\(e=true↔a=c):=
 ⟨(a==c),SeqAt.EqAt.int_int a t c u,yv⟩
theorem Co(A:fv)(s:bp)(a:Int)(t:Tok)(c:Int)(u:Tok)(prog:fg)(w:ga)(E:bn->bp->Prop)(Q:bn->bp->Prop)(h:Q (.bool (decide (a<c))) s):
  cj (model prog w) A (richCompare .Lt (.int a t) (.int c u)) Q E s:=
 (PyProof.Rows.lt_int h:cj (model prog w) A (io .Lt (.int a t) (.int c u)) Q E s)
section
open PySem.SeqAt
open PySem.AutoSeq1 (wpAny_loadPart')
open PySem.MeetsSeq PySem.MeetsSeq2 PySem.MeetsSeq3
theorem Hx(l b:Addr)(aa z:Array bn)(n n2:Nat)(dd ac:Option Addr)(sl af:Array (Option bn))(ns ms:List Int)(hi:qp aa.toList ns)(hj:qp z.toList ms):
  Meets (ls.«tuple.__lt__» ⟨[.ref l,.ref b],[]⟩)
   (fun _ R s=>s.heap.get? l=some { cls:=.type "tuple",dict:=dd,data:=.seq aa n,slots:=sl }/\s.heap.get? b=some { cls:=.type "tuple",dict:=ac,data:=.seq z n2,slots:=af } /\
    R (.ok (.ret (.bool (lexLt ns ms)))) s):=
 .of_wp fun prog w A R s h=>by
  obtain⟨hp,g,d,tk,os⟩:=s;obtain⟨hl,hb,h⟩:=h;have f2:=AutoSeq1.sub_tuple_tuple;have z1:aa.size=ns.length:=by rw[<- hi.length];simp
  have z2:z.size=ms.length:=by rw[<- hj.length];simp
  wp_walk using wpAny_loadPart' hl,wpAny_loadPart' hb,wpAny_forIn_list _ (fun rest b s'=>b.1=none/\s'=⟨hp,g,d,tk,os⟩/\∃(vs ws:List bn) (ns' ms':List Int),rest=vs.zip ws /\
   qp vs ns'/\qp ws ms'/\ns'.length+z.size=ms'.length+aa.size/\R (.ok (.ret (.bool (lexLt ns' ms')))) ⟨hp,g,d,tk,os⟩) _
  case turn=>
   rintro⟨y,x⟩ rest b s' ⟨hb',rfl,vs,ws,ns',ms',hz,hvi,hwi,hlen,hR⟩;cases hvi with
   |nil=>rw[List.zip_nil_left]at hz;cases hz
   |cons a t hvi'=>
    cases hwi with
    |nil=>rw[List.zip_nil_right]at hz;cases hz
    |cons c u hwi'=>
     rw[List.zip_cons_cons]at hz;injection hz with hyx hrest
     injection hyx with hy hx
     subst hy hx;rw[lexLt_cons]at hR;simp only[fu]at hlen;obtain⟨e,he,ab⟩:=EA A.in1 ⟨hp,g,d,tk,os⟩ a t c u;refine bj (he prog w _ _ ?_);cases e with
     |true=>
      rw[ci (ab.mp rfl)]at hR
      wp_walk
      exact⟨rfl,rfl,_,_,_,_,hrest,hvi',hwi',yw,hR⟩
     |false=>
      rw[cg (fun q=>absurd (ab.mpr q) ja)]at hR;have ae:=Co A.in1 ⟨hp,g,d,tk,os⟩ a t c u prog w
      wp_walk using ae
      exact⟨_,rfl,by simpa using hR⟩
  case fin=>
   rintro⟨b1,b2⟩ s' ⟨hb',rfl,vs,ws,ns',ms',hz,hvi,hwi,hlen,hR⟩;simp only at hb';subst hb';have hv:lexLt ns' ms'=decide (aa.size<z.size):=by
    cases hvi with
    |nil=>
     cases hwi with
     |nil=>
      simp only[length_nil]at hlen;rw[Cv];exact(fc yw).symm
     |cons c u hw=>
      simp only[length_nil,fu]at hlen;rw[HY];exact(gd yw).symm
    |cons a t hv=>
     cases hwi with
     |nil=>
      simp only[length_nil,fu]at hlen;rw[Cr];exact(fc yw).symm
     |cons c u hw=>
      rw[List.zip_cons_cons]at hz;cases hz
   rw[hv]at hR
   wp_walk
   exact⟨_,rfl,by simpa[Builtin.Tuple.tupleCompareSizes]using hR⟩
  case h=>
   exact⟨rfl,rfl,aa.toList,z.toList,ns,ms,rfl,hi,hj,yw,h⟩
end
section
variable {prog:fg}{w:ga}{A:fv}{E:bn->bp->Prop}{s:bp}
theorem lt_tupInts{l b:Addr}{z q:Array bn}{ns ms:List Int}{Q:bn->bp->Prop}(hl:IsTup s.heap l z)(hb:IsTup s.heap b q)(hi:qp z.toList ns)(hj:qp q.toList ms)
  (hu:A.units<re) (h:Q (.bool (lexLt ns ms)) s):cj (model prog w) A (io .Lt (.ref l) (.ref b)) Q E s:=by
 obtain⟨⟨cls,dd,data,sl⟩,ho,hc,n,hd⟩:=id hl;obtain⟨⟨ah,ae,ag,af⟩,ab,aa,n2,ac⟩:=id hb;simp only at hc hd aa ac;subst hc hd aa ac;exact richCompare_meets_room (op:=.Lt) ⟨_,ho,rfl⟩ ⟨_,ab,rfl⟩ PySem.F.slot_tuple_lt PySem.F.entry_tuple_lt (PySem.F.args_tuple_lt_2 _ _) (Hx l b z q n n2 dd ae sl af ns ms hi hj)
  ⟨ho,ab,show ke (lexLt ns ms)≠Value.notImplemented/\Q (.bool (lexLt ns ms)) s from⟨(fun x=>nomatch x),h⟩⟩ hu
theorem cat_tup{t b:Addr}{vs ws:List bn}{Q:bn->bp->Prop}(ht:IsTup s.heap t vs.toArray)(hb:IsTup s.heap b ws.toArray)(hv:vs≠[])
  (h1:ws=[]->Q (.ref t) s) (h2:ws≠[]->Q (.ref s.heap.objs.size) { s with heap:=s.heap.push { cls:=.type "tuple",data:=.seq (vs++ws).toArray } })
  (hsz:vs.length+ws.length<=dw):cj (model prog w) A (kw .Add (.ref t) (.ref b)) Q E s:=by
 obtain⟨⟨cls,dd,data,sl⟩,ho,hc,n,hd⟩:=id ht;obtain⟨⟨af,aa,ae,ac⟩,q,z,n2,ab⟩:=id hb;simp only at hc hd z ab;subst hc hd z ab;have e:vs.toArray++ws.toArray=(vs++ws).toArray:=by simp
 by_cases hw:ws=[]
 ·exact concat_meets ⟨_,ho,rfl⟩ ⟨_,q,rfl⟩ noFill_tuple_add seq_tuple_add PySem.F.slot_tuple_add PySem.F.entry_tuple_add (PySem.F.args_tuple_add_2 _ _)
   (tuple_addW1 t b vs.toArray ws.toArray n n2 dd aa sl ac (by simpa using hv) (by simp[hw])) ⟨ho,q,h1 hw⟩
 ·refine concat_meets ⟨_,ho,rfl⟩ ⟨_,q,rfl⟩ noFill_tuple_add seq_tuple_add PySem.F.slot_tuple_add PySem.F.entry_tuple_add (PySem.F.args_tuple_add_2 _ _)
   (tuple_addW2 t b vs.toArray ws.toArray n n2 dd aa sl ac (by simpa using hv) (by simpa using hw) (by rw[cz,cz];exact hsz)) ⟨ho,q,?_⟩
  rw[e];exact h2 hw
def sIx(n d:Nat):Option Int->Nat
 |none=>d
 |some v=>if v<0 then (v+(n:Int)).toNat else min v.toNat n
theorem sIx_nat(n d k:Nat):sIx n d (some (k:Int))=min k n:=by
 show (if (k:Int)<0 then ((k:Int)+(n:Int)).toNat else min (k:Int).toNat n)=min k n;rw[cg yw,iy]
theorem IM(n d:Nat)(hd:d<=n)(o:Option Int):sIx n d o<=n:=by
 cases o with
 |none=>exact hd
 |some v=>
  show (if v<0 then (v+(n:Int)).toNat else min v.toNat n)<=n;by_cases hv:v<0
  ·rw[ci hv];omega
  ·rw[cg hv];exact Nat.min_le_right _ _
theorem xT(v:Int)(n d:Nat):(if v<0 then max (v+(n:Int)) 0 else min v (n:Int))=((sIx n d (some v):Nat):Int):=by
 show (if v<0 then max (v+(n:Int)) 0 else min v (n:Int))=(((if v<0 then (v+(n:Int)).toNat else min v.toNat n):Nat):Int);by_cases hv:v<0
 ·simp only[ci hv];omega
 ·simp only[cg hv];omega
theorem DJ(lo hi:Option Int)(n:Nat):kt lo hi 1 (n:Int)=(((sIx n 0 lo:Nat):Int),((sIx n n hi:Nat):Int)):=by
 have h1:¬((1:Int)<0):=yw
 unfold kt;simp only[h1,if_false];refine Prod.ext ?_ ?_
 ·cases lo with
  |none=>rfl
  |some v=>exact xT v n 0
 ·cases hi with
  |none=>rfl
  |some v=>exact xT v n n
theorem JF(i j:Nat):gp (i:Int) (j:Int) 1=j-i:=by
 unfold gp;have h1:(1:Int)>0:=yw
 simp only[h1,if_true,Int.ediv_one];split<;>omega
theorem B5{v:bn}{o:Option Int}{Q:Option Int->bp->Prop}(p:IsPart v o)(h:Q o s):cj (model prog w) A (Builtin.Slice.slicePartIndex v) Q E s:=by
 cases p with
 |none=>exact slicePart_none h
 |int i t=>exact slicePart_int h
theorem vW{sl:Addr}{vl vu:bn}{lo hi:Option Int}{n:Nat}{Q:Int×Int×Nat->bp->Prop}(hs:s.heap.IsSliceOf sl vl vu .none)(pl:IsPart vl lo)(pu:IsPart vu hi)
  (h:Q (((sIx n 0 lo:Nat):Int),1,sIx n n hi-sIx n 0 lo) s):cj (model prog w) A (Builtin.Slice.sliceApplied (.ref sl) (pure (n:Int))) Q E s:=by
 obtain⟨os,z,aa,q⟩:=id hs;unfold Builtin.Slice.sliceApplied Builtin.Slice.sliceFields;refine bj (bj (wpAny_field z q (x:=vl) rfl (bj (wpAny_field z q (x:=vu) rfl (bj (wpAny_field z q (x:=.none) rfl (bq ?_)))))));refine bj (slicePart_none ?_);show cj _ _ (if ((1:Int)==0)=true then _ else _) _ _ s;rw[cg dz];refine bj (B5 pl (bj (B5 pu (bj (bq ?_)))));show cj _ _ (match kt lo hi 1 (n:Int)with|(lo,hi)=>pure (lo,(1:Int),gp lo hi 1)) _ _ s;rw[DJ lo hi n];show cj _ _ (pure (((sIx n 0 lo:Nat):Int),(1:Int),gp ((sIx n 0 lo:Nat):Int) ((sIx n n hi:Nat):Int) 1)) _ _ s;rw[JF];exact bq h
theorem D9(xs:Array bn)(i k:Nat):((gc k).filterMap fun(m:Nat)=>xs[((i:Int)+(m:Int)*1).toNat]?).toArray=((xs.toList.drop i).take k).toArray:=by
 have e:(fun(m:Nat)=>xs[((i:Int)+(m:Int)*1).toNat]?)=fun m=>xs[i+m]?:=by
  funext m;have:((i:Int)+(m:Int)*1).toNat=i+m:=yw
  rw[this]
 rw[e];have:=pick_run xs i k;rw[List.filterMap_map]at this;have e2:((fun x=>xs[x]?)∘fun x=>i+x)=fun m=>xs[i+m]?:=rfl;rw[e2]at this;rw[this]
theorem getItem_tuple_cut{t sl:Addr}{z:Array bn}{vl vu:bn}{lo hi:Option Int}{Q:bn->bp->Prop}(ht:IsTup s.heap t z)(hs:s.heap.IsSliceOf sl vl vu .none)(pl:IsPart vl lo)(pu:IsPart vu hi)
  (hw:¬(sIx z.size 0 lo=0/\sIx z.size z.size hi=z.size))
  (h:Q (.ref s.heap.objs.size) { s with heap:=s.heap.push { cls:=.type "tuple",data:=.seq ((z.toList.drop (sIx z.size 0 lo)).take (sIx z.size z.size hi-sIx z.size 0 lo)).toArray } })
  (hsz:z.size<=dw):cj (model prog w) A (qq (.ref t) (.ref sl)) Q E s:=by
 have aa:sizeOk (.seq ((z.toList.drop (sIx z.size 0 lo)).take (sIx z.size z.size hi-sIx z.size 0 lo)).toArray):=by
  show ((z.toList.drop (sIx z.size 0 lo)).take (sIx z.size z.size hi-sIx z.size 0 lo)).toArray.size<=dw;rw[cz,jw,length_drop,fe];omega
 have hj:sIx z.size z.size hi<=z.size:=IM _ _ (cx _) hi;obtain⟨os,ae,ab,ag⟩:=id hs;have af:s.TypeIs (.ref sl) "slice":=⟨os,ae,ab⟩;unfold qq
 try with_reducible refine ix ?_
 first|refine bj (bq ?_)|skip
 refine bj (wpAny_sequenceKey ht.typeIs dz ?_);refine bj (jg (name:=qh "__getitem__") ht.typeIs im
  (jq im ht.typeIs entry_tuple_getitem ?_ (args_tuple_getitem _ _)))
 show cj _ _ (Builtin.Tuple.tupleItemsOf (.ref t) >>= _) _ _ s;refine bj (tupleItemsOf_ ht ?_);refine bj (pc af ?_);rw[ci dz];refine bj (vW hs pl pu ?_);have ac:¬((((sIx z.size 0 lo:Nat):Int)==0&&(1:Int)==1&&(sIx z.size z.size hi-sIx z.size 0 lo)==z.size)=true):=by
  intro q;rw[jr,jr]at q;have q1:((sIx z.size 0 lo:Nat):Int)=0:=eq_of_beq q.1.1;have q2:sIx z.size z.size hi-sIx z.size 0 lo=z.size:=eq_of_beq q.2;exact hw ⟨yw,yw⟩
 show cj _ _ (if (((sIx z.size 0 lo:Nat):Int)==0&&(1:Int)==1&&(sIx z.size z.size hi-sIx z.size 0 lo)==z.size)=true then _ else _) _ _ s;rw[cg ac,D9]
 first
  |exact bj (m:=gz _) (fw (bq ⟨_,rfl,bq h⟩) aa)
  |exact bj (m:=gz _) (fw (bj (bq (bq ⟨_,rfl,bq h⟩))) aa)
  |exact bj (bj (m:=gz _) (fw (bq (bq ⟨_,rfl,bq h⟩)) aa))
  |exact bj (bj (m:=gz _) (fw (bq ⟨_,rfl,bq h⟩) aa))
end
end HT
namespace L2
open PySem PySem.Spec PyProof.Rows
section
abbrev TO:=St->Hp->(Option Int->Hp->Prop)->Prop
def PO(X:Cx)(e:Option Expr)(t:TO):Prop:=
 ∀(zf:List (Addr×Obj)) (s:bp) (σ:St) (H:Hp) (Q:Option Int->Hp->Prop),Inv X zf σ H s->t σ H Q ->
  cj (model X.prog X.w) X.A (evalPart e X.env) (fun u s'=>∃o H',Inv X zf σ H' s'/\IsPart u o/\Q o H') X.xe s
def xO:TO:=fun _ H Q=>Q none H
def i5(t:TE):TO:=fun σ H Q=>t σ H fun x H1=>∃i,x=.int i/\Q (some i) H1
theorem iB{ns:List Int}:∀{us:List bn},Vals (ns.map V.int) us->qp us ns:=by
 induction ns with
 |nil=>intro us r;rw[map_nil]at r;cases r;exact .nil
 |cons n ns ih=>
  intro us r;rw[jc]at r;cases r with
  |cons r1 r2=>
   obtain⟨t,e⟩:=r1;subst e;exact .cons n t (ih r2)
section
variable {X:Cx}{e:Expr}{te:TE}{lo hi:Option Expr}{tl th:TO}{pos p2:Pos}
theorem gS:PO X none xO:=by
 intro zf s σ H Q I h;rw[evalPart_none];exact bq ⟨none,H,I,.none,h⟩
theorem fH(h:PE X e te):PO X (some e) (i5 te):=by
 intro zf s σ H Q I hw;rw[evalPart_some];refine thn (h zf s σ H _ I hw) fun u s1 ⟨x,H1,I1,r1,q1⟩=>?_;obtain⟨i,rfl,q⟩:=q1;obtain⟨t,rfl⟩:=r1;exact⟨some i,H1,I1,.int i t,q⟩
def SlR(X:Cx)(r:V->Option Int->Option Int->Hp->VK->Prop):Prop:=
 ∀(zf:List (Addr×Obj)) (s:bp) (σ:St) (H:Hp) (x:V) (v vl vu:bn) (lo hi:Option Int) (sl:Addr) (Q:VK),Inv X zf σ H s->RelV x v->s.heap.IsSliceOf sl vl vu .none->IsPart vl lo->IsPart vu hi->r x lo hi H Q ->
  ∃T id,typeLookup (.type T) "__getitem__" = pure (some (.builtin id))/\s.TypeIs v T/\cj (model X.prog X.w) X.A (qq v (.ref sl)) (EP X zf σ Q) X.xe s
theorem SlR.or{r r':V->Option Int->Option Int->Hp->VK->Prop}(h:SlR X r)(h':SlR X r'):SlR X (fun x lo hi H Q=>r x lo hi H Q\/r' x lo hi H Q):=by
 intro zf s σ H x v vl vu lo hi sl Q I rx hs pl pu q;rcases q with q|q
 ·exact h zf s σ H x v vl vu lo hi sl Q I rx hs pl pu q
 ·exact h' zf s σ H x v vl vu lo hi sl Q I rx hs pl pu q
def tSl(r:V->Option Int->Option Int->Hp->VK->Prop)(te:TE)(tl th:TO):TE:=fun σ H Q=>te σ H fun x H1=>tl σ H1 fun l H2=>th σ H2 fun u H3=>r x l u H3 Q
theorem gO{r:V->Option Int->Option Int->Hp->VK->Prop}(hr:SlR X r)(he:PE X e te)(hl:PO X lo tl)(hu:PO X hi th):PE X (.Subscript e (.Slice lo hi none p2) pos) (tSl r te tl th):=by
 intro zf s σ H Q I h;refine Subscript_ (thn (he zf s σ H _ I h) fun v s1 ⟨x,H1,I1,r1,q1⟩=>?_);refine wpAny_Slice (thn (hl zf s1 σ H1 _ I1 q1) fun vl s2 ⟨l,H2,I2,pl,q2⟩=>thn (hu zf s2 σ H2 _ I2 q2) fun vu s3 ⟨u,H3,I3,pu,q3⟩=>?_);rw[evalPart_none];refine bq ?_;have I4:Inv X zf σ H3 { s3 with heap:=s3.heap.push { cls:=.type "slice",data:=.fields #[vl,vu,.none] } }:=I3.kept (t':=s3.toks) fun b ob q=>bu _ q;obtain⟨T,id,hT,ht,hg⟩:=hr zf { s3 with heap:=s3.heap.push { cls:=.type "slice",data:=.fields #[vl,vu,.none] } } σ H3 x v vl vu l u s3.heap.objs.size Q I4 r1 (Heap.IsSliceOf.new ..) pl pu q3;show cj (model X.prog X.w) X.A (subscriptTail e (.Slice lo hi none p2) v (.ref s3.heap.objs.size)) (EP X zf σ Q) X.xe { s3 with heap:=s3.heap.push { cls:=.type "slice",data:=.fields #[vl,vu,.none] } };exact tail_any (ops:=[.ref s3.heap.objs.size,v]) ht hT hg (by with_unfolding_all rfl)
def cK(xs:List V)(lo hi:Option Int):List V:=(xs.drop (HT.sIx xs.length 0 lo)).take (HT.sIx xs.length xs.length hi-HT.sIx xs.length 0 lo)
theorem u9(xs:List V)(lo hi:Option Int):(cK xs lo hi).length<=xs.length:=by
 unfold cK;rw[jw,length_drop];omega
def u6(K:cy):V->Option Int->Option Int->Hp->VK->Prop:=fun x lo hi H Q=>∃a xs,x=.ref a/\SqT K H a xs /\
 ¬(HT.sIx xs.length 0 lo=0/\HT.sIx xs.length xs.length hi=xs.length)/\∀p,H p=none->Q (.ref p) (upd H p (.tup (cK xs lo hi)))
theorem B7:SlR X (u6 X.K):=by
 intro zf s σ H x v vl vu lo hi sl Q I rx hs pl pu h;obtain⟨a,xs,rfl,hx,hw,q⟩:=h;cases rx;obtain⟨aa,r,ht,hz⟩:=I.tuple hx;have z:aa.toArray.size=xs.length:=by rw[cz];exact r.length.symm
 refine⟨"tuple",_,PyProof.Rows.slot_tuple_getitem.lookup,ht.typeIs,?_⟩;refine HT.getItem_tuple_cut ht hs pl pu (by rw[z];exact hw) ?_ (by rw[z];exact hz);rw[z];refine⟨.ref s.heap.objs.size,_,I.laid (t':=s.toks) (o:=.tup (cK xs lo hi)) (fun b ob q=>bu _ q) (cx _) ?_,rfl,q _ (I.hok.fresh (cx _))⟩;exact⟨⟨iz (u9 xs lo hi) hz,_,df _ rfl,rfl⟩,_,(r.drop (HT.sIx xs.length 0 lo)).take (HT.sIx xs.length xs.length hi-HT.sIx xs.length 0 lo),IsTup.new _ _⟩
def tN(K:cy):R2:=fun x y H Q=>∃a b xs ys,x=.ref a/\y=.ref b/\SqT K H a xs/\SqT K H b ys/\xs≠[]/\xs.length+ys.length<=dw /\
 (ys=[]->Q (.ref a) H)/\(ys≠[]->∀p,H p=none->Q (.ref p) (upd H p (.tup (xs++ys))))
theorem Vals.nil_iff{xs:List V}{us:List bn}(r:Vals xs us):us=[]↔xs=[]:=by
 cases r with
 |nil=>simp
 |cons _ _=>simp
theorem G2:OpR X (kw .Add) (tN X.K):=by
 intro zf s σ H x y v u Q I rx ry h;obtain⟨a,b,xs,ys,rfl,rfl,ha,hb,hx,hz,q1,q2⟩:=h;cases rx;cases ry;obtain⟨ab,r1,p1,_⟩:=I.tuple ha;obtain⟨aa,r2,p2,_⟩:=I.tuple hb;refine HT.cat_tup p1 p2 (fun z=>hx (r1.nil_iff.mp z)) (fun z=>⟨.ref a,H,I,rfl,q1 (r2.nil_iff.mp z)⟩) (fun z=>?_) (by rw[<- r1.length,<- r2.length];exact hz);refine⟨.ref s.heap.objs.size,_,I.laid (t':=s.toks) (o:=.tup (xs++ys)) (fun b ob q=>bu _ q) (cx _) ?_,rfl,q2 (fun w=>z (r2.nil_iff.mpr w)) _ (I.hok.fresh (cx _))⟩;exact⟨⟨by rw[cu];exact hz,_,df _ rfl,rfl⟩,_,r1.append r2,IsTup.new _ _⟩
end
end
section
def ixN(n:Nat)(i:Int):Option Nat:=if 0<=i then (if i<n then some i.toNat else none)else if -(n:Int)<=i then some (i+n).toNat else none
def atI{α:Type}(xs:List α)(i:Int):Option α:=(ixN xs.length i).bind fun j=>xs[j]?
theorem yO{n:Nat}{i:Int}{j:Nat}(h:ixN n i=some j):seqIndex? i n=some j/\j<n/\-(n:Int)<=i/\i<n:=by
 unfold ixN at h;by_cases h0:0<=i
 ·rw[ci h0]at h;by_cases h1:i<n
  ·rw[ci h1]at h;have e:i.toNat=j:=gk h;exact⟨by rw[seqIndex_of h0 h1,e],yw,yw,h1⟩
  ·rw[cg h1]at h;cases h
 ·rw[cg h0]at h;by_cases h1:-(n:Int)<=i
  ·rw[ci h1]at h;have e:(i+n).toNat=j:=gk h;exact⟨by rw[seqIndex_neg yw h1,e],yw,h1,yw⟩
  ·rw[cg h1]at h;cases h
theorem rZ{α:Type}{xs:List α}{i:Int}{v:α}(h:atI xs i=some v):∃j,seqIndex? i xs.length=some j/\xs[j]?=some v/\j<xs.length/\-(xs.length:Int)<=i/\i<xs.length:=by
 unfold atI at h;cases e:ixN xs.length i with
 |none=>rw[e]at h;cases h
 |some j=>
  rw[e]at h;obtain⟨h1,h2,h3,h4⟩:=yO e;exact⟨j,h1,h,h2,h3,h4⟩
theorem fA{α:Type}{xs:List α}{j:Nat}{v:α}(h:xs[j]?=some v):atI xs (j:Int)=some v:=by
 have hj:j<xs.length:=(List.getElem?_eq_some_iff.mp h).1;have e:ixN xs.length (j:Int)=some j:=by
  unfold ixN;rw[ci yw,ci yw];simp
 unfold atI;rw[e];exact h
def PlainIx(b:Expr):Prop:=∀o i,subscripted b false o i=operate [o,i] (qq o i)
def IxR(X:Cx)(r:R2):Prop:=
 ∀(value slice:Expr) (zf:List (Addr×Obj)) (s:bp) (σ:St) (H:Hp) (x y:V) (v u:bn) (Q:VK),Inv X zf σ H s->RelV x v->RelV y u->r x y H Q ->
  subscripted slice false v u=operate [v,u] (qq v u)->cj (model X.prog X.w) X.A (subscriptTail value slice v u) (EP X zf σ Q) X.xe s
def MtR(X:Cx)(id:String)(r:V->List V->Hp->VK->Prop):Prop:=
 ∀(zf:List (Addr×Obj)) (s:bp) (σ:St) (H:Hp) (x:V) (xs:List V) (v:bn) (us:List bn) (Q:VK),Inv X zf σ H s->RelV x v->Vals xs us->r x xs H Q ->
  cj (model X.prog X.w) X.A (call (.builtin id) (v::us)) (EP X zf σ Q) X.xe s
section
variable {X:Cx}{a b:Expr}{ta tb:TE}{pos:Pos}
theorem IxR.or{r r':R2}(h:IxR X r)(h':IxR X r'):IxR X (fun x y H Q=>r x y H Q\/r' x y H Q):=by
 intro value z zf s σ H x y v u Q I rx ry q hs;rcases q with q|q
 ·exact h value z zf s σ H x y v u Q I rx ry q hs
 ·exact h' value z zf s σ H x y v u Q I rx ry q hs
theorem zx{r:R2}(hr:IxR X r)(ha:PE X a ta)(hb:PE X b tb)(hs:PlainIx b):PE X (.Subscript a b pos) (tOp r ta tb):=by
 intro zf s σ H Q I h;exact Subscript_ (sF ha hb I h fun v u s2 x y H2 I2 rx ry q=>hr a b zf s2 σ H2 x y v u Q I2 rx ry q (hs _ _))
def tY(K:cy):R2:=fun x y H Q=>∃p xs i v,x=.ref p/\y=.int i/\SqL K H p xs/\atI xs i=some v/\Q v H
def uW(K:cy):R2:=fun x y H Q=>∃p xs i v,x=.ref p/\y=.int i/\SqT K H p xs/\atI xs i=some v/\Q v H
def uS:R2:=fun x y H Q=>∃z i c,x=.str z/\y=.int i/\z.length<=dw/\atI z.cps.toList i=some c/\Q (.str ⟨#[c]⟩) H
theorem wX:IxR X (tY X.K):=by
 intro value ac zf s σ H x y v u Q I rx ry h hs;obtain⟨p,xs,i,z,rfl,rfl,hq,he,q⟩:=h;cases rx;obtain⟨t,rfl⟩:=ry;obtain⟨ab,r,pl,hz⟩:=I.list hq;obtain⟨j,h1,h2,h3,h4,h5⟩:=rZ he;obtain⟨w,ew,aa⟩:=r.get h2;have hl:=r.length;have hn:=line63;have fin:EP X zf σ Q w s:=⟨z,H,I,aa,q⟩;by_cases h0:0<=i
 ·have hj:i.toNat=j:=by
   rw[seqIndex_of h0 h5]at h1;exact gk h1
  exact item_listR pl.isList h0 yw (by rw[hj];simpa using ew) fin hs
 ·have hj:(i+(ab.toArray.size:Int)).toNat=j:=by
   rw[seqIndex_neg yw h4]at h1;rw[cz,<- hl];exact gk h1
  exact subscriptTail_builtinR (x:=w) pl.isList.typeIs slot_list_getitem.lookup
   (wpAny_getItem_list_neg (Q:=fun r s'=>r=w/\EP X zf σ Q r s') pl.isList yw (by rw[cz]<;>omega) yw (by rw[hj];simpa using ew) ⟨rfl,fin⟩) hs
theorem Cw:IxR X (uW X.K):=by
 intro value ab zf s σ H x y v u Q I rx ry h hs;obtain⟨p,xs,i,z,rfl,rfl,hq,he,q⟩:=h;cases rx;obtain⟨t,rfl⟩:=ry;obtain⟨ac,r,pl,hz⟩:=I.tuple hq;obtain⟨j,h1,h2,h3,h4,h5⟩:=rZ he;obtain⟨w,ew,aa⟩:=r.get h2;have hl:=r.length;have hn:=line63;have fin:EP X zf σ Q w s:=⟨z,H,I,aa,q⟩;exact subscriptTail_builtinR (x:=w) pl.typeIs slot_tuple_getitem.lookup
  (getItem_tuple (j:=j) (Q:=fun r s'=>r=w/\EP X zf σ Q r s') pl yw yw (by rw[cz,<- hl];exact h1) (by simpa using ew) ⟨rfl,fin⟩) hs
theorem Ee:IxR X uS:=by
 intro value aa zf s σ H x y v u Q I rx ry h hs;obtain⟨z,i,c,rfl,rfl,hz,he,q⟩:=h;obtain⟨t,rfl⟩:=rx;obtain⟨t',rfl⟩:=ry;obtain⟨j,h1,h2,h3,h4,h5⟩:=rZ he;have hl:z.cps.toList.length=z.length:=by simp[Str.length]
 rw[hl]at h1 h4 h5;have hn:=line63;exact tail_any (typeIs_str s z t) slot_str_getitem.lookup (getItem_str (c:=c) (by
  have e1:decide (i < -(2 ^ 63:Int))=false:=fc yw;have e2:decide (i≥2 ^ 63)=false:=fc yw;rw[e1,e2,Bool.or_false]) (by rw[h1];simpa using h2) ⟨.str ⟨#[c]⟩,H,I.tok _,⟨_,rfl⟩,q⟩) hs
def rIx(K:cy):R2:=fun x y H Q=>tY K x y H Q\/uW K x y H Q\/uS x y H Q
theorem zl:IxR X (rIx X.K):=wX.or (Cw.or Ee)
theorem D5(q:List bn)(n j:Nat)(u:bn):gm (·.setIfInBounds j u) { cls:=.type "list",data:=.seq q.toArray n } = { cls:=.type "list",data:=.seq (q.set j u).toArray n }:=by
 simp[gm]
theorem Inv.lst{zf:List (Addr×Obj)}{σ:St}{H:Hp}{s:bp}{p:Addr}{xs:List V}(I:Inv X zf σ H s)(h:H p=some (.lst xs)):
  ∃(q:List bn) (n:Nat),Vals xs q/\s.heap.get? p=some { cls:=.type "list",data:=.seq q.toArray n }/\xs.length<=dw:=by
 obtain⟨z,q,n,r,e⟩:=I.hok p _ h;exact⟨q,n,r,e,z⟩
theorem Inv.lstUpd{zf:List (Addr×Obj)}{σ:St}{H:Hp}{s:bp}{p:Addr}{xs ys:List V}{z its':List bn}{n n':Nat}{f:Obj->Obj}(I:Inv X zf σ H s)(h:H p=some (.lst xs))
  (ho:s.heap.get? p=some { cls:=.type "list",data:=.seq z.toArray n }) (hf:f { cls:=.type "list",data:=.seq z.toArray n } = { cls:=.type "list",data:=.seq its'.toArray n' }) (r:Vals ys its') (hz:ys.length<=dw) (t:Nat):
  Inv X zf σ (upd H p (.lst ys)) { s with heap:=s.heap.update p f,toks:=t }:=by
 have e:(s.heap.update p f).get? p=some { cls:=.type "list",data:=.seq its'.toArray n' }:=by
  rw[kx f ho (by rw[hf]<;>rfl),hf]
 refine I.write (x:=p) (e:=p) (by rw[h];trivial) (.inl rfl) (fun b u hb q=>(gw _ _ (lr hb)).trans q) ⟨_,e⟩ ?_;exact⟨hz,its',n',r,e⟩
def BG:V->V->V->Hp->(Hp->Prop)->Prop:=fun o i v H Q=>∃p xs k j,o=.ref p/\i=.int k/\H p=some (.lst xs)/\ixN xs.length k=some j/\Q (upd H p (.lst (xs.set j v)))
theorem BH:PSet X BG:=by
 intro zf s σ H o i v ov iv u Q I ro ri rv h;obtain⟨p,xs,k,j,rfl,rfl,hp,hj,q⟩:=h;cases ro;obtain⟨t,rfl⟩:=ri;obtain⟨z,n,r,ho,hz⟩:=I.lst hp;obtain⟨h1,h2,h3,h4⟩:=yO hj;have hl:=r.length;have hn:=line63;have I':Inv X zf σ (upd H p (.lst (xs.set j v))) { s with heap:=s.heap.update p (gm (·.setIfInBounds j u)) } :=
  I.lstUpd hp ho (D5 z n j u) (r.set rv j) (by rw[length_set];exact hz) s.toks
 by_cases h0:0<=k
 ·have hk:k.toNat=j:=by
   rw[seqIndex_of h0 h4]at h1;exact gk h1
  exact W.ki_setAt ho h0 yw (by rw[cz,<- hl];exact h4) (by rw[hk];exact⟨_,I',q⟩)
 ·have hk:(k+(z.toArray.size:Int)).toNat=j:=by
   rw[seqIndex_neg yw h3]at h1;rw[cz,<- hl];exact gk h1
  exact W.ki_setBack ho yw (by rw[cz,<- hl];exact h3) yw (by rw[hk];exact⟨_,I',q⟩)
theorem Hq(lo hi:Option Int)(n:Nat):(qz lo hi none n).1=((HT.sIx n 0 lo:Nat):Int)/\(qz lo hi none n).2.1=((HT.sIx n n hi:Nat):Int)/\(qz lo hi none n).2.2=1:=by
 refine⟨?_,?_,rfl⟩
 ·cases lo with
  |none=>simp[qz,HT.sIx]
  |some i=>
   simp only[qz,HT.sIx,Option.getD_none,show (1:Int)>0 by decide,if_true];by_cases h:i<0
   ·simp only[h,if_true]<;>omega
   ·simp only[h,if_false]<;>omega
 ·cases hi with
  |none=>simp[qz,HT.sIx]
  |some i=>
   simp only[qz,HT.sIx,Option.getD_none,show (1:Int)>0 by decide,if_true];by_cases h:i<0
   ·simp only[h,if_true]<;>omega
   ·simp only[h,if_false]<;>omega
theorem IQ(q:List bn)(lo hi:Option Int):slicePick q.toArray lo hi none=((q.drop (HT.sIx q.length 0 lo)).take (HT.sIx q.length q.length hi-HT.sIx q.length 0 lo)).toArray:=by
 obtain⟨h1,h2,h3⟩:=Hq lo hi q.toArray.size;unfold slicePick;rw[h1,h2,h3];simp only[sliceRange_one,pick_run,cz]<;>rfl
def oD(K:cy):V->Option Int->Option Int->Hp->VK->Prop:=fun x lo hi H Q=>∃a xs,x=.ref a/\SqL K H a xs/\∀p,H p=none->Q (.ref p) (upd H p (.lst (cK xs lo hi)))
theorem AJ:SlR X (oD X.K):=by
 intro zf s σ H x v vl vu lo hi sl Q I rx hs pl pu h;obtain⟨a,xs,rfl,hx,q⟩:=h;cases rx;obtain⟨aa,r,ht,hz⟩:=I.list hx;have z:=r.length;refine⟨"list",_,slot_list_getitem.lookup,ht.isList.typeIs,?_⟩;refine wpAny_getItem_list_slice ht.isList hs pl pu .none yv ?_ (by rw[cz]<;>omega);rw[IQ,<- z];refine⟨.ref s.heap.objs.size,_,I.laid (t':=s.toks) (o:=.lst (cK xs lo hi)) (fun b ob q=>bu _ q) (cx _) ?_,rfl,q _ (I.hok.fresh (cx _))⟩;exact⟨iz (u9 xs lo hi) hz,_,0,(r.drop (HT.sIx xs.length 0 lo)).take (HT.sIx xs.length xs.length hi-HT.sIx xs.length 0 lo),df _ rfl⟩
theorem CN:CallR X (.builtin "len") (fun xs H Q=>∃p ys,xs=[.ref p]/\(SqL X.K H p ys\/SqT X.K H p ys)/\Q (.int ys.length) H):=by
 intro zf s σ H xs us Q I r h;obtain⟨p,ys,rfl,hq,q⟩:=h;obtain⟨u,rfl,rx⟩:=vals1 r;cases rx;have hn:=line63;rcases hq with hq|hq
 ·obtain⟨aa,r',pl,hz⟩:=I.list hq;have z:=r'.length;exact Calls.call_len_list pl.isList (by simp only[cz]<;>omega) ⟨.int ys.length,H,I.tok _,⟨s.toks+1,by rw[cz,z]⟩,q⟩
 ·obtain⟨aa,r',pl,hz⟩:=I.tuple hq;have z:=r'.length;exact len_tuple pl (by simp only[cz]<;>omega) ⟨.int ys.length,H,I.tok _,⟨s.toks+1,by rw[cz,z]⟩,q⟩
theorem IU:CallR X (.builtin "len") (fun xs H Q=>∃z,xs=[.str z]/\z.length<=dw/\Q (.int z.length) H):=by
 intro zf s σ H xs us Q I r h;obtain⟨z,rfl,hz,q⟩:=h;obtain⟨u,rfl,t,rfl⟩:=vals1 r;have hn:=line63;exact len_str yw ⟨.int z.length,H,I.tok _,⟨_,rfl⟩,q⟩
theorem CallR.or{f:bn}{r r':List V->Hp->VK->Prop}(h:CallR X f r)(h':CallR X f r'):CallR X f (fun xs H Q=>r xs H Q\/r' xs H Q):=by
 intro zf s σ H xs us Q I rs q;rcases q with q|q
 ·exact h zf s σ H xs us Q I rs q
 ·exact h' zf s σ H xs us Q I rs q
theorem B4:CallR X (.type "list") (fun xs H Q=>∃p ys,xs=[.ref p]/\(SqL X.K H p ys\/SqT X.K H p ys)/\∀l,H l=none->Q (.ref l) (upd H l (.lst ys))):=by
 intro zf s σ H xs us Q I r h;obtain⟨p,ys,rfl,hq,q⟩:=h;obtain⟨u,rfl,rx⟩:=vals1 r;cases rx;have fin:∀(z:List bn),Vals ys z->ys.length<=dw->∀(h':Heap) (c':Nat),(∀b o',s.heap.get? b=some o'->h'.get? b=some o') ->
   h'.get? s.heap.objs.size=some { cls:=.type "list",dict:=none,data:=.seq z.toArray c',slots:=#[] }->EP X zf σ Q (.ref s.heap.objs.size) { s with heap:=h' }:=fun z r' hz h' c' kp e=>
  ⟨.ref s.heap.objs.size,_,I.laid (t':=s.toks) kp (cx _) (show ObjOk X.prog X.w _ h' _ (.lst ys)from⟨hz,z,c',r',e⟩),rfl,q _ (I.hok.fresh (cx _))⟩
 rcases hq with hq|hq
 ·obtain⟨z,r',pl,hz⟩:=I.list hq;have aa:=r'.length;obtain⟨o,ho,hc,n,hd⟩:=pl.isList;exact call_list_seq p (.inl rfl) ho hc hd (fun h' c' kp e=>fin z r' hz h' c' kp e) (by simp only[cz]<;>omega)
 ·obtain⟨z,r',pl,hz⟩:=I.tuple hq;have aa:=r'.length;obtain⟨o,ho,hc,n,hd⟩:=pl;exact call_list_seq p (.inr rfl) ho hc hd (fun h' c' kp e=>fin z r' hz h' c' kp e) (by simp only[cz]<;>omega)
theorem sJ:CallR X (.type "tuple") (fun xs H Q=>∃p ys,xs=[.ref p]/\((SqL X.K H p ys/\∀l,H l=none->Q (.ref l) (upd H l (.tup ys)))\/(SqT X.K H p ys/\Q (.ref p) H))):=by
 intro zf s σ H xs us Q I r h;obtain⟨p,ys,rfl,h⟩:=h;obtain⟨u,rfl,rx⟩:=vals1 r;cases rx;rcases h with ⟨hq,q⟩|⟨hq,q⟩
 ·obtain⟨z,r',pl,hz⟩:=I.list hq;have aa:=r'.length;refine call_tuple_list pl.isList (fun h' kp=>?_) (by simp only[cz]<;>omega);have I1:Inv X zf σ H { s with heap:=h' }:=I.kept (t':=s.toks) kp;have I2:Inv X zf σ (upd H h'.objs.size (.tup ys)) { s with heap:=h'.push { cls:=.type "tuple",data:=.seq z.toArray } } :=
   I1.laid (t':=s.toks) (fun b o e=>bu _ e) (cx _) (show ObjOk X.prog X.w _ _ _ (.tup ys)from⟨⟨hz,_,df _ rfl,rfl⟩,z,r',IsTup.new _ _⟩)
  exact⟨.ref h'.objs.size,_,I2,rfl,q _ (I1.hok.fresh (cx _))⟩
 ·obtain⟨z,r',pl,hz⟩:=I.tuple hq;exact call_tuple_same pl ⟨.ref p,H,I,rfl,q⟩
def tyV(K:cy)(T:String)(x:V)(H:Hp):Prop:=match x with
 | .str _=>T = "str"
 | .int _=>T = "int"
 | .ref p=>(T = "list"/\∃xs,SqL K H p xs)\/(T = "tuple"/\∃o,K.lookup p=some o/\o.cls=.type "tuple"/\o.dict=none) \/
   (T = "dict"/\((∃kvs,H p=some (.dK kvs))\/∃kvs,H p=some (.dT kvs)))\/(T = "set"/\∃S n,H p=some (.set S n))
 |_=>False
theorem AI{zf:List (Addr×Obj)}{σ:St}{H:Hp}{s:bp}{T:String}{x:V}{v:bn}(I:Inv X zf σ H s)(r:RelV x v)(ty:tyV X.K T x H):
  s.TypeIs v T/\∀a,v=.ref a->∃ob,s.heap.get? a=some ob/\ob.dict=none:=by
 cases x with
 |str z=>
  obtain⟨t,rfl⟩:=r;cases (show T = "str" from ty);exact⟨typeIs_str s z t,fun _ e=>nomatch e⟩
 |int i=>
  obtain⟨t,rfl⟩:=r;cases (show T = "int" from ty);exact⟨typeIs_int s i t,fun _ e=>nomatch e⟩
 |ref p=>
  cases r;rcases ty with ⟨rfl,xs,hq⟩|⟨rfl,o,hk,hc,hd⟩|⟨rfl,hk⟩|⟨rfl,S,n,hk⟩
  ·obtain⟨q,_,pl,_⟩:=I.list hq;refine⟨pl.isList.typeIs,fun a e=>?_⟩;cases e;obtain⟨o,n,e,c,hd,_⟩:=pl;exact⟨o,e,hd⟩
  ·refine⟨⟨o,I.kIn p o hk,hc⟩,fun a e=>?_⟩;cases e;exact⟨o,I.kIn _ o hk,hd⟩
  ·have z:∃o,s.heap.get? p=some o/\o.ExactDict:=by
    rcases hk with ⟨kvs,hk⟩|⟨kvs,hk⟩
    ·obtain⟨_,_,_,_,o,_,_,e,ex,_⟩:=I.hok p _ hk;exact⟨o,e,ex⟩
    ·obtain⟨_,_,_,_,o,_,_,e,ex,_⟩:=I.hok p _ hk;exact⟨o,e,ex⟩
   obtain⟨o,e,ex⟩:=z;refine⟨⟨o,e,ex.1⟩,fun a e2=>?_⟩;cases e2;exact⟨o,e,ex.2.1⟩
  ·obtain⟨o,_,_,_,e,ex,_⟩:=I.hok p _ hk;refine⟨⟨o,e,ex.1⟩,fun a e2=>?_⟩;cases e2;exact⟨o,e,ex.2.1⟩
 |_=>exact ow ty
def vR(K:cy)(T:String)(r:V->List V->Hp->VK->Prop)(to:TE):TE:=fun σ H Q=>to σ H fun x H1=>tyV K T x H1/\r x [] H1 Q
def tBM(K:cy)(T:String)(r:V->List V->Hp->VK->Prop)(to:TE)(t:TA):TE:=fun σ H Q=>to σ H fun x H1=>tyV K T x H1/\t σ H1 fun xs H2=>r x xs H2 Q
variable {o e:Expr}{es:List Expr}{to:TE}{t:TA}{name:Str}{apos cpos:Pos}{T id:String}{r:V->List V->Hp->VK->Prop}
theorem B3(pa:PlainAttrs T)(slot:Slot T name id)(q:typeOf (.builtin id)=pure (.type "method_descriptor"))(hm:MtR X id r)(ho:PE X o to)
  (hbase:attributeBase o name X.env (eval o X.env)=eval o X.env:=by rfl) (hline:(apos.endLine==cpos.line)=true:=by rfl):PE X (.Call (.Attribute o name apos) [] [] cpos) (vR X.K T r to):=by
 intro zf s σ H Q I h;refine wpAny_Call_method0_late hbase hline (thn (ho zf s σ H _ I h) fun v s1 ⟨x,H1,I1,r1,ty,q1⟩=>?_);obtain⟨h1,h2⟩:=AI I1 r1 ty;exact⟨T,id,pa,slot,q,h1,h2,Calls.callWith_builtin rfl (PySem.evalArgs_none (hm zf s1 σ H1 x [] v [] Q I1 r1 .nil q1))⟩
theorem eC(pa:PlainAttrs T)(slot:Slot T name id)(q:typeOf (.builtin id)=pure (.type "method_descriptor"))(hm:MtR X id r)(ho:PE X o to)(ha:PA X (e::es) t)
  (hbase:attributeBase o name X.env (eval o X.env)=eval o X.env:=by rfl)
  (hfew:((qx cpos (fq (e::es) X.env)).all (fun x=>!x.1)&&(backToKw cpos (keywordEach [] X.env)).all (fun x=>x.1.isSome)
   && decide ((e::es).length+([]:List Keyword).length+(if ([]:List Keyword).isEmpty then 0 else 1)<30))=true:=by rfl)
  (hline:(apos.endLine==cpos.line)=true:=by rfl) (hs:fq (e::es) X.env=(false,eval e X.env)::fq es X.env:=by rfl) (hplain:(qx cpos (fq es X.env)).any (·.1)=false:=by rfl):
  PE X (.Call (.Attribute o name apos) (e::es) [] cpos) (tBM X.K T r to t):=by
 intro zf s σ H Q I h;refine wpAny_Call_method_late hbase hfew hline rfl (thn (ho zf s σ H _ I h) fun v s1 ⟨x,H1,I1,r1,ty,q1⟩=>?_);obtain⟨h1,h2⟩:=AI I1 r1 ty;refine⟨T,id,pa,slot,q,h1,h2,?_⟩;have hA:=ha cpos zf s1 σ H1 _ I1 q1;rw[hs]at hA ⊢;refine Calls.callWith_builtin (by show (false||(qx cpos (fq es X.env)).any (·.1))=false;rw[hplain]<;>rfl) (Calls.evalArgs_plain ?_);exact thn hA fun us s2 ⟨vs,H2,I2,r2,q2⟩=>hm zf s2 σ H2 x vs v us Q I2 r1 r2 q2
end
end
section
def MtM(X:Cx)(id:String)(r:V->List V->Hp->VK->Prop):Prop:=
 ∀(zf:List (Addr×Obj)) (s:bp) (σ:St) (H:Hp) (x:V) (xs:List V) (v:bn) (us:List bn) (Q:VK),Inv X zf σ H s->RelV x v->Vals xs us->r x xs H Q ->
  cj (model X.prog X.w) X.A (call (.builtin id) (v::us)) (EP X zf σ Q) X.xe s
theorem Vals.one:∀{x:V}{us:List bn},Vals [x] us->∃u,us=[u]/\RelV x u
 |_,_,.cons r .nil=>⟨_,rfl,r⟩
theorem Vals.zero:∀{us:List bn},Vals [] us->us=[]
 |_,.nil=>rfl
theorem Vals.dropLast{xs:List V}{us:List bn}(h:Vals xs us):Vals xs.dropLast us.dropLast:=by
 induction h with
 |nil=>exact .nil
 |cons r t ih=>
  cases t with
  |nil=>exact .nil
  |cons q t'=>exact .cons r ih
theorem Vals.reverse{xs:List V}{us:List bn}(h:Vals xs us):Vals xs.reverse us.reverse:=by
 induction h with
 |nil=>exact .nil
 |cons r t ih=>rw[reverse_cons,reverse_cons];exact Vals.append ih (.cons r .nil)
theorem Vals.rep{xs:List V}{us:List bn}(h:Vals xs us):∀k:Nat,Vals (bx k xs).flatten (bx k us).flatten
 | 0=>.nil
 |k+1=>by
  rw[on,on,flatten_cons,flatten_cons];exact Vals.append h (Vals.rep h k)
theorem EQ{α:Type}(l:List α):l.eraseIdx (l.length-1)=l.dropLast:=by
 induction l with
 |nil=>rfl
 |cons a r ih=>
  cases r with
  |nil=>rfl
  |cons b r=>
   have e:(a::b::r).length-1=((b::r).length-1)+1:=by
    have h1:(a::b::r).length=r.length+2:=rfl;have h2:(b::r).length=r.length+1:=rfl;omega
   rw[e,List.eraseIdx_cons_succ,ih]
   all_goals rfl
theorem oT(q:List bn):∀(k:Nat) (acc:List bn),
  pf (fun x1 x2=>x1++x2) acc.toArray (bx k q.toArray)=(acc++(bx k q).flatten).toArray
 | 0,acc=>by simp
 |k+1,acc=>by
  have e:acc.toArray++q.toArray=(acc++q).toArray:=by simp
  have e2:(acc++q)++(bx k q).flatten=acc++(bx (k+1) q).flatten:=by
   rw[on,flatten_cons,kc]
  rw[<- e2,<- oT q k (acc++q),<- e,on,foldl_cons]
section
variable {X:Cx}{zf:List (Addr×Obj)}{σ:St}{H:Hp}{s:bp}{l b:Addr}{xs ys zs:List V}
theorem Inv.lset{z its':List bn}{n:Nat}{f:Array bn->Array bn}{t':Nat}(I:Inv X zf σ H s)(hH:H l=some (.lst xs))
  (e:s.heap.get? l=some { cls:=.type "list",data:=.seq z.toArray n }) (hf:f z.toArray=its'.toArray) (hv:Vals ys its') (hz:ys.length<=dw):
  Inv X zf σ (upd H l (.lst ys)) { s with heap:=s.heap.update l (gm f),toks:=t' }:=by
 have q:=PySem.IsL.update e f;rw[hf]at q;refine I.write (x:=l) (e:=l) (by rw[hH];exact trivial) (.inl rfl) (fun b' u hb hu=>(gw s.heap (gm f) (lr hb)).trans hu) ⟨_,q⟩ ?_;exact⟨hz,its',_,hv,q⟩
theorem Inv.lnew{z:List bn}{t':Nat}(I:Inv X zf σ H s)(hv:Vals ys z)(hz:ys.length<=dw):
  Inv X zf σ (upd H s.heap.objs.size (.lst ys)) { s with heap:=s.heap.push { cls:=.type "list",data:=.seq z.toArray },toks:=t' } :=
 I.laid (fun _ _ q=>bu _ q) (cx _) ⟨hz,z,0,hv,df _ rfl⟩
theorem Inv.fresh(I:Inv X zf σ H s):H s.heap.objs.size=none:=I.hok.fresh (cx _)
theorem Inv.lstM(I:Inv X zf σ H s)(hH:H l=some (.lst xs)):xs.length<=dw/\∃(q:List bn) (n:Nat),Vals xs q/\xs.length=q.length/\s.heap.get? l=some { cls:=.type "list",data:=.seq q.toArray n }:=by
 obtain⟨z,q,n,r,e⟩:=I.hok l _ hH;exact⟨z,q,n,r,r.length,e⟩
theorem xP{n:Nat}(h:n<=dw):Builtin.List.listTooLong n=false:=by
 unfold Builtin.List.listTooLong;exact fc yw
end
section
variable {X:Cx}
def Bz:V->List V->Hp->VK->Prop:=fun x vs H Q=>∃l xs y,x=.ref l/\vs=[y]/\H l=some (.lst xs)/\xs.length<dw/\Q .non (upd H l (.lst (xs++[y])))
theorem iQ:MtM X "list.append" Bz:=by
 intro zf s σ H x vs v us Q I rx rv h;obtain⟨l,xs,y,rfl,rfl,hH,hz,q⟩:=h;cases rx;obtain⟨u,rfl,ru⟩:=rv.one;obtain⟨z,aa,n,r,hl,e⟩:=I.lstM hH;refine ny F.slot_list_append ⟨_,e,rfl⟩ F.entry_list_append (F.args_list_append_2 _ _) (PySem.list_append l aa.toArray n u (by rw[cz];omega)) ⟨e,?_⟩;refine⟨.non,_,I.lset (its':=aa++[u]) hH e yv (r.append (.cons ru .nil)) ?_,rfl,q⟩;rw[cu,fk];omega
def xZ:V->List V->Hp->VK->Prop:=fun x vs H Q=>∃l b xs zs,x=.ref l/\vs=[.ref b]/\H l=some (.lst xs)/\H b=some (.lst zs)/\xs.length+zs.length<=dw/\Q .non (upd H l (.lst (xs++zs)))
theorem sP:MtM X "list.extend" xZ:=by
 intro zf s σ H x vs v us Q I rx rv h;obtain⟨l,b,xs,zs,rfl,rfl,hH,hB,hz,q⟩:=h;cases rx;obtain⟨u,rfl,ru⟩:=rv.one;cases ru;obtain⟨z,ab,n,r,hl,e⟩:=I.lstM hH;obtain⟨z2,aa,n2,r2,af,e2⟩:=I.lstM hB;have ae:ab.toArray.size+aa.toArray.size<=dw:=by rw[cz,cz];omega
 have ac:¬(!ab.toArray.isEmpty&&Builtin.List.listTooLong (ab.toArray.size+aa.toArray.size))=true:=by
  rw[xP ae,Bool.and_false];exact ja
 refine ny F.slot_list_extend ⟨_,e,rfl⟩ F.entry_list_extend (F.args_list_extend_2 _ _)
  (AutoSeq1.list_extend_list_list_0 l ab.toArray n b aa.toArray n2 ac (by rw[cz];omega) yw) ⟨e,e2,?_⟩
 refine⟨.non,_,I.lset (its':=ab++aa) hH e yv (r.append r2) ?_,rfl,q⟩;rw[cu];omega
def vY:V->List V->Hp->VK->Prop:=fun x vs H Q=>∃l xs y,x=.ref l/\vs=[]/\H l=some (.lst xs)/\xs[xs.length-1]?=some y/\Q y (upd H l (.lst xs.dropLast))
theorem Gw:MtM X "list.pop" vY:=by
 intro zf s σ H x vs v us Q I rx rv h;obtain⟨l,xs,y,rfl,rfl,hH,hy,q⟩:=h;cases rx;have ab:=rv.zero;subst ab;obtain⟨z,aa,n,r,hl,e⟩:=I.lstM hH;obtain⟨u,hu,ru⟩:=r.get hy;have ac:aa.toArray[aa.toArray.size-1]?=some u:=by
  show aa.toArray[aa.length-1]?=some u;rw[<- jn,<- hl];exact hu
 refine ny F.slot_list_pop ⟨_,e,rfl⟩ F.entry_list_pop (F.args_list_pop_1 _) (MeetsSeq.list_pop_last l aa.toArray n u ac (by rw[cz];omega)) ⟨e,?_⟩;refine⟨y,_,I.lset (its':=aa.dropLast) hH e ?_ r.dropLast ?_,ru,q⟩
 ·show aa.toArray.eraseIdxIfInBounds (aa.toArray.size-1)=aa.dropLast.toArray;rw[cz,List.eraseIdxIfInBounds_toArray,EQ]
 ·rw[List.length_dropLast];omega
def y4:V->List V->Hp->VK->Prop:=fun x vs H Q=>∃l xs,x=.ref l/\vs=[]/\H l=some (.lst xs)/\Q .non (upd H l (.lst xs.reverse))
theorem GH:MtM X "list.reverse" y4:=by
 intro zf s σ H x vs v us Q I rx rv h;obtain⟨l,xs,rfl,rfl,hH,q⟩:=h;cases rx;have ab:=rv.zero;subst ab;obtain⟨z,aa,n,r,hl,e⟩:=I.lstM hH;refine ny F.slot_list_reverse ⟨_,e,rfl⟩ F.entry_list_reverse (F.args_list_reverse_1 _) (AutoSeq1.list_reverse_list_0 l aa.toArray n (by rw[cz];omega)) ⟨e,?_⟩;refine⟨.non,_,I.lset (its':=aa.reverse) hH e yv r.reverse ?_,rfl,q⟩;rw[List.length_reverse];omega
def i0:R2:=fun x y H Q=>∃l b xs zs,x=.ref l/\y=.ref b/\H l=some (.lst xs)/\H b=some (.lst zs)/\xs.length+zs.length<=dw/\∀p,H p=none->Q (.ref p) (upd H p (.lst (xs++zs)))
theorem mY:OpR X (kw .Add) i0:=by
 intro zf s σ H x y v u Q I rx ry h;obtain⟨l,b,xs,zs,rfl,rfl,hH,hB,hz,q⟩:=h;cases rx;cases ry;obtain⟨z,ab,n,r,hl,e⟩:=I.lstM hH;obtain⟨z2,aa,n2,r2,ac,e2⟩:=I.lstM hB;refine PySem.P.add_list e e2 ?_ (by rw[cz,cz];omega);have ea:ab.toArray++aa.toArray=(ab++aa).toArray:=by simp
 rw[ea];exact⟨.ref _,_,I.lnew (t':=s.toks) (r.append r2) (by rw[cu];omega),rfl,q _ I.fresh⟩
def BK:R2:=fun x y H Q=>∃l k xs,x=.ref l/\y=.int k/\H l=some (.lst xs)/\-(2 ^ 63)<=k/\k<2 ^ 63/\xs.length*k.toNat<=dw /\
 ∀p,H p=none->Q (.ref p) (upd H p (.lst (bx k.toNat xs).flatten))
theorem rR{α:Type}(xs:List α)(k:Nat):(bx k xs).flatten.length=k*xs.length:=by
 induction k with
 |zero=>simp
 |succ k ih=>rw[on,flatten_cons,cu,ih,Nat.succ_mul,Nat.add_comm]
theorem El:OpR X (kw .Mult) BK:=by
 intro zf s σ H x y v u Q I rx ry h;obtain⟨l,k,xs,rfl,rfl,hH,h1,h2,hz,q⟩:=h;cases rx;obtain⟨t,rfl⟩:=ry;obtain⟨z,aa,n,r,hl,e⟩:=I.lstM hH;have ac:aa.toArray.size*k.toNat<=dw:=by rw[cz,<- hl];exact hz
 have ag:¬ aa.toArray.size*k.toNat>(2 ^ 63-1)/8:=by
  have:(dw:Nat)<=(2 ^ 63-1)/8:=by decide
  omega
 have af:¬(!Builtin.List.listFitsIndex k)=true:=by
  rw[fitsIndex_both h1 h2];exact ja
 have ab:¬ Builtin.List.listTooLong (aa.toArray.size*k.toNat)=true:=by
  rw[xP ac];exact ja
 have ae:pf (fun x1 x2=>x1++x2) #[] (bx (if aa.toArray.isEmpty=true then 0 else k.toNat) aa.toArray)=(bx k.toNat aa).flatten.toArray:=by
  have f0:∀m:Nat,pf (fun x1 x2=>x1++x2) #[] (bx m aa.toArray)=(bx m aa).flatten.toArray:=fun m=>by
   have:=oT aa m [];rw[nil_append]at this;exact this
  rw[f0];cases aa with
  |nil=>simp
  |cons a r'=>rw[cg yv]
 refine wpAny_binaryOp_repeat_ref (T:="list") (U:="int") dz ⟨_,e,rfl⟩ (fun s'=>typeIs_int s' k t) noFill_list_mul F.fills_int_mul F.slot_int_rmul repeat_list F.slot_int_index.lookup
  (ny F.slot_int_rmul (typeIs_int s k t) F.entry_int_rmul (F.args_int_rmul_2 _ _) (int___rmul___int_list k t l aa.toArray n)
   ⟨e,rfl,⟨_,e,rfl⟩,ny F.slot_list_mul ⟨_,e,rfl⟩ F.entry_list_mul (F.args_list_mul_2 _ _) (AutoListH.list___mul___list_int_3 l aa.toArray n k t af ag ab) ⟨e,?_⟩⟩)
 rw[ae];exact⟨.ref _,_,I.lnew (t':=s.toks) (r.rep k.toNat) (by rw[rR,mul_comm];exact hz),rfl,q _ I.fresh⟩
end
end
section
section
variable {κ:Type} [DecidableEq κ]
def d7(q:List (κ×V))(k:κ):Option V:=(q.find? fun kv=>decide (kv.1=k)).map (·.2)
def fN(q:List (κ×V))(k:κ)(v:V):List (κ×V):=
 if (q.any fun kv=>decide (kv.1=k))=true then q.map (fun kv=>if kv.1=k then (kv.1,v)else kv)else q++[(k,v)]
theorem tV{p:κ×V}{r:List (κ×V)}{k:κ}(e:p.1=k):d7 (p::r) k=some p.2:=by simp[d7,find?_cons,e]
theorem rW{p:κ×V}{r:List (κ×V)}{k:κ}(e:¬ p.1=k):d7 (p::r) k=d7 r k:=by simp[d7,find?_cons,e]
theorem Ci(q:List (κ×V))(k:κ)(v:V):(fN q k v).length<=q.length+1:=by
 unfold fN;split
 ·rw[ff];omega
 ·rw[cu,fu,length_nil];omega
theorem KV.val{aa:List (κ×V)}{vs:List (κ×bn)}(r:KV aa vs)(k:κ):RelO (d7 aa k) (valueAt vs k):=by
 unfold KV at r;induction r with
 |nil=>exact oy
 | @cons p q ps qs h t ih=>
  obtain⟨h1,h2⟩:=h;by_cases e:p.1=k
  ·have e':q.1=k:=h1.symm.trans e;have b:valueAt (q::qs) k=some q.2:=by simp[valueAt,find?_cons,e']
   rw[tV e,b];exact h2
  ·have e':¬ q.1=k:=fun z=>e (h1.trans z);have b:valueAt (q::qs) k=valueAt qs k:=by simp[valueAt,find?_cons,e']
   rw[rW e,b];exact ih
theorem KV.any{q:List (κ×V)}{vs:List (κ×bn)}(r:KV q vs)(k:κ):(q.any fun kv=>decide (kv.1=k))=vs.any fun kv=>decide (kv.1=k):=by
 unfold KV at r;induction r with
 |nil=>rfl
 |cons h t ih=>rw[any_cons,any_cons,ih,h.1]
theorem KV.repl{aa:List (κ×V)}{vs:List (κ×bn)}(r:KV aa vs)(k:κ){y:V}{u:bn}(ry:RelV y u):
  KV (aa.map fun kv=>if kv.1=k then (kv.1,y)else kv) (vs.map fun kv=>if kv.1=k then (kv.1,u)else kv):=by
 unfold KV at r ⊢;induction r with
 |nil=>exact .nil
 | @cons p q ps qs h t ih=>
  rw[jc,jc];refine .cons ?_ ih;obtain⟨h1,h2⟩:=h;by_cases e:p.1=k
  ·rw[ci e,ci (h1.symm.trans e)];exact⟨h1,ry⟩
  ·rw[cg e,cg (fun z=>e (h1.trans z))];exact⟨h1,h2⟩
theorem KV.put{q:List (κ×V)}{vs:List (κ×bn)}(r:KV q vs)(k:κ){y:V}{u:bn}(ry:RelV y u):KV (fN q k y) (stored vs k u):=by
 unfold fN stored;rw[r.any k];by_cases e:(vs.any fun kv=>decide (kv.1=k))=true
 ·rw[ci e,ci e];exact r.repl k ry
 ·rw[cg e,cg e];exact Paired.snoc r ⟨rfl,ry⟩
end
theorem sL{P:fg}{w:ga}{k:Key}{u:bn}(r:RelV (kV k) u):(cI P w).is k u=true:=by
 cases k with
 |inl i=>obtain⟨t,e⟩:=(show ∃t,u=Value.int i t from r);subst e;exact Fv P w i t
 |inr x=>obtain⟨t,e⟩:=(show ∃t,u=Value.str x t from r);subst e;exact Ha P w x t
theorem CW{P:fg}{w:ga}:∀{ks:List Key}{us:List bn},Vals (ks.map kV) us->ItemsAre (cI P w) ks us
 | [],_,r=>by rw[map_nil]at r;cases r;exact .nil
 |k::ks,_,r=>by
  rw[jc]at r;cases r with
  |cons h t=>exact .cons (sL h) (CW t)
abbrev KT (H:Hp):List (List Key×V)->List (List Key×Addr×bn)->Prop:=Paired fun p q=>p.1=q.1/\H q.2.1=some (.tup (p.1.map kV))/\RelV p.2 q.2.2
theorem KT.val{H:Hp}{aa:List (List Key×V)}{xs:List (List Key×Addr×bn)}(r:KT H aa xs)(k:List Key):RelO (d7 aa k) ((atKey xs k).map (·.2)):=by
 induction r with
 |nil=>exact oy
 | @cons p q ps qs h t ih=>
  obtain⟨h1,_,h2⟩:=h;by_cases e:p.1=k
  ·have e':q.1=k:=h1.symm.trans e;have b:atKey (q::qs) k=some q.2:=by simp[atKey,find?_cons,e']
   rw[tV e,b];exact h2
  ·have e':¬ q.1=k:=fun z=>e (h1.trans z);have b:atKey (q::qs) k=atKey qs k:=by simp[atKey,find?_cons,e']
   rw[rW e,b];exact ih
section
variable {P:fg}{w:ga}{H:Hp}{h:Heap}{a:Addr}
theorem AO{u:HO}(ok:HOk P w H h)(e:Rd H a u):ObjOk P w H h a u:=e.ok ok
theorem t9{q:List (Key×V)}(ok:HOk P w H h)(e:Rd H a (.dK q)):q.length<=dw/\(a==nu)=false/\∃vs,KV q vs/\h.DictOf (cI P w) a vs:=
 show ObjOk P w H h a (.dK q)from AO ok e
theorem Cz{q:List (Key×V)}(ok:HOk P w H h)(e:H a=some (.dK q)):q.length<=dw/\(a==nu)=false/\∃vs,KV q vs/\h.DictOf (cI P w) a vs:=t9 ok (.inl e)
theorem Bt{ks:List Key}(ok:HOk P w H h)(e:H a=some (.tup (ks.map kV))):(tupleKind (cI P w)).is h ks a:=by
 obtain⟨_,q,r,o,h1,h2,n,h3⟩:=(show ObjOk P w H h a (.tup (ks.map kV))from ok a _ e);exact⟨o,q.toArray,n,h1,h2,h3,by simpa using CW r⟩
theorem B8{aa:List (List Key×V)}(ok:HOk P w H h)(e:Rd H a (.dT aa)):aa.length<=dw/\(a==nu)=false /\
  ∃xs,KT H aa xs/\h.DictOfH (tupleKind (cI P w)) a xs:=by
 obtain⟨z,y,xs,r,o,es,ep,h1,h2,h3,h4,h5⟩:=(show ObjOk P w H h a (.dT aa)from AO ok e);refine⟨z,y,xs,r,o,es,ep,h1,h2,h3,h4,fun x hx=>?_,h5⟩;have all:∀{l:List (List Key×V)}{m:List (List Key×Addr×bn)},KT H l m->∀x∈m,(tupleKind (cI P w)).is h x.1 x.2.1:=by
  intro l m q;induction q with
  |nil=>intro x hx;exact nomatch hx
  | @cons p q ps qs hq t ih=>
   intro x hx;rcases mem_cons.mp hx with e|hx
   ·subst e;exact Bt ok (by rw[<- hq.1];exact hq.2.1)
   ·exact ih x hx
 exact all r x hx
end
def DGet(H:Hp)(a:Addr)(y:V)(r:Option V):Prop:=
 (∃kvs k,Rd H a (.dK kvs)/\y=kV k/\r=d7 kvs k)\/∃kvs k b,Rd H a (.dT kvs)/\y=.ref b/\H b=some (.tup (k.map kV))/\r=d7 kvs k
section
variable {X:Cx}{zf:List (Addr×Obj)}{σ:St}{H:Hp}{s:bp}{a:Addr}{y v:V}{u r:bn}{o:Option V}{A:fv}{E:bn->bp->Prop}
theorem Inv.big(I:Inv X zf σ H s):nu<s.heap.objs.size:=by
 have h:kr<s.heap.objs.size:=(I.mod.glob.keeps I.bk).lt;exact lt_trans dz h
theorem IY{Q:bn->bp->Prop}(hu:A.units+1<re)(I:Inv X zf σ H s)(g:DGet H a y (some v))(ry:RelV y u)(h:∀w' s',Inv X zf σ H s'->RelV v w'->Q w' s'):
  cj (model X.prog X.w) A (qq (.ref a) u) Q E s:=by
 rcases g with ⟨kvs,k,e,ey,l⟩|⟨kvs,k,b,e,ey,eb,l⟩
 ·subst ey;obtain⟨z,hd,vs,aa,dd⟩:=t9 I.hok e;obtain⟨w',hw,q⟩:=RelO.some_of (v:=v) (o:=valueAt vs k) (by rw[l];exact aa.val k);exact wpAny_getItem_of (sL ry) dd.mapOf hw (h w' _ (I.tok _) q)
 ·subst ey;cases (show u=ie b from ry);obtain⟨z,hd,xs,aa,dd⟩:=B8 I.hok e;obtain⟨w',hw,q⟩:=RelO.some_of (v:=v) (o:=(atKey xs k).map (·.2)) (by rw[l];exact aa.val k);obtain⟨p,hp,ab⟩:=map_eq_some_iff.mp hw;refine wpAny_getItem_heap (tupleKind_room_in1 hu) (Bt I.hok eb) dd hp ?_;rw[ab];exact h w' _ (I.tok _) q
theorem Gu{h':Heap}{t':Nat}{ob:HO}(I:Inv X zf σ H s)(mu:Mut (H a))(hs:kl a s.heap h')(he:∃q,h'.get? a=some q)(aa:ObjOk X.prog X.w (upd H a ob) h' a ob):
  Inv X zf σ (upd H a ob) { s with heap:=h',toks:=t' } :=
 I.write (x:=a) (e:=a) mu (.inl rfl) (fun b q hb z=>(hs.2 b hb).trans z) he aa
theorem Im{P:fg}{w:ga}{H':Hp}{h':Heap}{q:List (Key×V)}{vs:List (Key×bn)}(z:q.length<=dw)(hd:(a==nu)=false)(aa:KV q vs)(dd:h'.DictOf (cI P w) a vs):
  ObjOk P w H' h' a (.dK q):=⟨z,hd,vs,aa,dd⟩
end
def NoSl(i:Expr):Prop:=∀ov iv,subscripted i false ov iv=operate [ov,iv] (qq ov iv)
theorem FX{prog:fg}{w:ga}{A:fv}{E:bn->bp->Prop}{s:bp}{env:Env}{value q:Expr}{pos:Pos}{T id:String}{Q:bn->bp->Prop}
  (hl:typeLookup (.type T) "__getitem__" = pure (some (.builtin id))) (hs:NoSl q)
  (h:cj (model prog w) A (eval value env) (fun o s₁=>cj (model prog w) A (eval q env) (fun i s₂=>s₂.TypeIs o T/\cj (model prog w) A (qq o i) Q E s₂) E s₁) E s):
  cj (model prog w) A (eval (.Subscript value q pos) env) Q E s:=by
 refine Subscript_ (nv h (fun o s₁ h₁=>nv h₁ (fun i s₂ h₂=>?_) fun _ _ x=>x) fun _ _ x=>x);obtain⟨hT,h₂⟩:=h₂;unfold subscriptTail;refine bj ?_;rw[getitemInPython_of_ne hT.not_modules];refine bj (wpAny_specialOf hT hl ?_);have fin:cj (model prog w) A (subscripted q false o i) (fun r s₃=>cj (model prog w) A (letTemporaryGo value o r >>= fun _=>pure r) Q E s₃) E s₂:=by
  rw[hs o i];exact wpAny_operating (nv h₂ (fun r s₃ h₃=>bj (wpAny_letTemporaryGo (bq h₃))) fun _ _ x=>x)
 first
  |exact bq (bj fin)
  |exact bj (bq (bj fin))
  |exact bj fin
theorem Du{X:Cx}{zf:List (Addr×Obj)}{σ:St}{H:Hp}{s:bp}{a:Addr}{y:V}{o:Option V}(I:Inv X zf σ H s)(g:DGet H a y o):s.TypeIs (.ref a) "dict":=by
 rcases g with ⟨kvs,k,e,_,_⟩|⟨kvs,k,b,e,_,_,_⟩
 ·obtain⟨_,_,vs,_,dd⟩:=t9 I.hok e;exact dd.typeIs
 ·obtain⟨_,_,xs,_,dd⟩:=B8 I.hok e;exact dd.typeIs
def xK(td ty:TE):TE:=fun σ H Q=>td σ H fun x H1=>ty σ H1 fun y H2=>∃a v,x=.ref a/\DGet H2 a y (some v)/\Q v H2
section
variable {X:Cx}{o i e value:Expr}{pos pos' tpos:Pos}{td ty tv:TE}
theorem Dq(hu:X.A.units+1<re)(ho:PE X o td)(hi:PE X i ty)(hs:NoSl i):PE X (.Subscript o i pos) (xK td ty):=by
 intro zf s σ H Q I h;refine FX PySem.F.slot_dict_getitem.lookup hs (thn (ho zf s σ H _ I h) fun u s1 ⟨x,H1,I1,rx,q1⟩=>thn (hi zf s1 σ H1 _ I1 q1) fun iv s2 ⟨y,H2,I2,ry,a,v,ex,g,q2⟩=>?_);subst ex;obtain rfl:u=ie a:=rx;exact⟨Du I2 g,IY hu I2 g ry fun w' s3 I3 q=>⟨v,H2,I3,q,q2⟩⟩
end
theorem yJ{P:fg}{w:ga}{H:Hp}(h:Heap)(hb:nu<h.objs.size):ObjOk P w H (h.push { cls:=.type "dict",data:=.dict #[] }) h.objs.size (.dK []):=
 ⟨ji _,beq_eq_false_iff_ne.mpr (lr (gh hb)),[],.nil,Heap.DictOf.new h⟩
def BZ:TE:=fun _ H Q=>∀p,H p=none->Q (.ref p) (upd H p (.dK []))
section
variable {X:Cx}{pos:Pos}
theorem Dw:PE X (.Dict [] [] pos) BZ:=fun zf s σ H Q I h=>
 wpAny_Dict_empty ⟨.ref s.heap.objs.size,_,I.laid (a:=s.heap.objs.size) (o:=.dK []) (t':=s.toks) (fun _ _ q=>bu _ q) (cx _) (yJ s.heap I.big),rfl,h _ (I.hok.fresh (cx _))⟩
end
def uN:List (TE×TE)->St->Hp->(List (V×V)->Hp->Prop)->Prop
 | [],_,H,Q=>Q [] H
 | (tk,tv)::r,σ,H,Q=>tk σ H fun x H1=>tv σ H1 fun y H2=>uN r σ H2 fun ps H3=>Q ((x,y)::ps) H3
abbrev VV:List (V×V)->List (bn×bn)->Prop:=Paired fun p q=>RelV p.1 q.1/\RelV p.2 q.2
def PPs(X:Cx)(pos:Pos)(z:List (Option Expr))(q:List Expr)(aa:List (TE×TE)):Prop:=
 ∀(zf:List (Addr×Obj)) (s:bp) (σ:St) (H:Hp) (Q:List (V×V)->Hp->Prop),Inv X zf σ H s->uN aa σ H Q ->
  cj (model X.prog X.w) X.A (evalPairs (pairTrees z q X.env pos)) (fun vs s'=>∃ps H',Inv X zf σ H' s'/\VV ps vs/\Q ps H') X.xe s
theorem GT{X:Cx}{pos:Pos}:PPs X pos [] [] []:=fun zf s σ H Q I h=>pairTrees_nil_walk ⟨[],H,I,.nil,h⟩
theorem CB{X:Cx}{pos:Pos}{k v:Expr}{ks:List (Option Expr)}{vs:List Expr}{tk tv:TE}{q:List (TE×TE)}(hk:PE X k tk)(hv:PE X v tv)(hr:PPs X pos ks vs q):
  PPs X pos (some k::ks) (v::vs) ((tk,tv)::q):=fun zf s σ H Q I h=>
 pairTrees_cons_walk (thn (hk zf s σ H _ I h) fun u s1 ⟨x,H1,I1,rx,q1⟩=>thn (hv zf s1 σ H1 _ I1 q1) fun w2 s2 ⟨y,H2,I2,ry,q2⟩=>
  thn (hr zf s2 σ H2 _ I2 q2) fun ws s3 ⟨ps,H3,I3,z,q3⟩=>⟨(x,y)::ps,H3,I3,.cons ⟨rx,ry⟩ z,q3⟩)
def eX(z q:List (Key×V)):List (Key×V):=q.foldl (fun acc kv=>fN acc kv.1 kv.2) z
theorem KV.merge:∀{z:List (Key×V)}{rs:List (Key×bn)}{aa:List (Key×V)}{vs:List (Key×bn)},KV z rs->KV aa vs->KV (eX aa z) (merged vs rs):=by
 intro z rs aa vs r;unfold KV at r;induction r generalizing aa vs with
 |nil=>intro q;exact q
 | @cons p q ps qs h t ih=>
  intro r0;have e:KV (fN aa p.1 p.2) (stored vs q.1 q.2):=by
   have:=r0.put p.1 h.2;rw[<- h.1];exact this
  exact ih e
theorem yY:∀(more kvs:List (Key×V)),(eX kvs more).length<=kvs.length+more.length
 | [],kvs=>by show kvs.length<=kvs.length+0;omega
 |p::r,kvs=>by
  have h1:=yY r (fN kvs p.1 p.2);have h2:=Ci kvs p.1 p.2;show (eX (fN kvs p.1 p.2) r).length<=_;rw[fu];omega
theorem yK{P:fg}{w:ga}:∀{kvs:List (Key×V)}{ws:List (bn×bn)},VV (kvs.map fun kv=>(kV kv.1,kv.2)) ws->∃rs,Carries (cI P w) ws rs/\KV kvs rs
 | [],_,r=>by rw[map_nil]at r;cases r;exact⟨[],oy,.nil⟩
 |p::kvs,_,r=>by
  rw[jc]at r;cases r with
  | @cons a b as bs h t=>
   obtain⟨rs,c,q⟩:=yK (P:=P) (w:=w) t;obtain⟨b1,b2⟩:=b;exact⟨(p.1,b2)::rs,⟨sL h.1,rfl,c⟩,.cons ⟨rfl,h.2⟩ q⟩
def Bj(q:List (TE×TE)):TE:=fun σ H Q=>∀p,H p=none->uN q σ (upd H p (.dK [])) fun ps H2=>H2 p=some (.dK [])/\∃kvs:List (Key×V),ps=kvs.map (fun kv=>(kV kv.1,kv.2))/\kvs.length<=15/\Q (.ref p) (upd H2 p (.dK (eX [] kvs)))
theorem Gy{X:Cx}{pos:Pos}{aa:List (Option Expr)}{ab:List Expr}{af:List (TE×TE)}(h:PPs X pos aa ab af)(ae:aa.all (·.isSome)=true)(hl:aa.length=ab.length)(h0:aa≠[])
  (h15:aa.length<=15):PE X (.Dict aa ab pos) (Bj af):=by
 intro zf s σ H Q I q;have hn:=I.hok.fresh (cx s.heap.objs.size);have I1:=I.laid (a:=s.heap.objs.size) (o:=.dK []) (h':=s.heap.push { cls:=.type "dict",data:=.dict #[] }) (t':=s.toks) (fun _ _ q=>bu _ q) (cx _) (yJ s.heap I.big);refine wpAny_Dict_walk (knd:=cI X.prog X.w) ae hl h0 h15 (thn (h zf _ σ _ _ I1 (q _ hn)) fun ws s2 ⟨ps,H2,I2,ah,e,ag,ep,lk,q2⟩=>?_);subst ep;obtain⟨rs,c,rk⟩:=yK (P:=X.prog) (w:=X.w) ah;obtain⟨z,hd,ai,r0,dd⟩:=Cz I2.hok e;cases r0;refine⟨rs,c,dd,fun h' ac hs=>⟨.ref s.heap.objs.size,_,?_,rfl,q2⟩⟩;have hz:(eX [] ag).length<=dw:=by
  have h1:=yY ag [];rw[length_nil]at h1;rw[jj];omega
 have he:∃q,h'.get? s.heap.objs.size=some q:=let ⟨q,_,_,hq,_⟩:=ac;⟨q,hq⟩;exact Gu I2 (by rw[e];exact oy) hs he (Im hz hd (rk.merge .nil) ac)
structure M1(X:Cx)(o:Expr)(m:Str)(apos:Pos)(e:Expr)(cpos:Pos):Prop where
 base:attributeBase o m X.env (eval o X.env)=eval o X.env
 few:((qx cpos (fq [e] X.env)).all (fun x=>!x.1)&&(backToKw cpos (keywordEach [] X.env)).all (fun x=>x.1.isSome)
  && decide (([e]:List Expr).length+([]:List Keyword).length+(if ([]:List Keyword).isEmpty then 0 else 1)<30))=true
 line:(apos.endLine==cpos.line)=true
 trees:qx cpos (fq [e] X.env)=[(false,eval e X.env)]
structure M2(X:Cx)(o:Expr)(m:Str)(apos:Pos)(e f:Expr)(cpos:Pos):Prop where
 base:attributeBase o m X.env (eval o X.env)=eval o X.env
 few:((qx cpos (fq [e,f] X.env)).all (fun x=>!x.1)&&(backToKw cpos (keywordEach [] X.env)).all (fun x=>x.1.isSome)
  && decide (([e,f]:List Expr).length+([]:List Keyword).length+(if ([]:List Keyword).isEmpty then 0 else 1)<30))=true
 line:(apos.endLine==cpos.line)=true
 trees:qx cpos (fq [e,f] X.env)=[(false,eval e X.env),(false,eval f X.env)]
def obO(a:Addr)(ob:Obj):HO:=.ext fun h=>h.get? a=some ob
end
end L2
namespace Att
open PySem PySem.W PySem.Calls PyProof.Rows
theorem DB{P:Params}{h:Heap}:∀(ns:List Int) (vs:List bn),WellAll P h vs (ns.map WData.int)->qp vs ns:=by
 intro ns;induction ns with
 |nil=>
  intro vs w;rw[map_nil]at w;cases w;exact .nil
 |cons n ns ih=>
  intro vs w;rw[jc]at w;cases w with
  |cons a b=>
   cases a;exact .cons _ _ (ih _ b)
theorem Hz{l:OpenLaw}{n:Nat}(hn:l.most=some n){P:Params}{h:Heap}{args:List WData}{z:List bn}
  (hpre:l.row.toRowW.claim.pre args=true) (hwl:WellAll P h z args):
  ∃a vs ns,z=[ie a]/\args=[WData.list (ns.map WData.int)]/\h.get? a=some { cls:=.type "list",data:=.seq vs.toArray }/\qp vs ns/\ns.length<=n:=by
 have ab:WShape.hasAll [] args [.list .int]=true:=(pre_splitW hpre).1;have hc:l.pre.holds [] { args:=args } = true:=(pre_splitW hpre).2;obtain⟨d,r,rfl,h1,h2⟩:=hasAllW_cons ab;obtain rfl:=hasAllW_nil h2;obtain⟨xs,rfl,h3⟩:=hasW_list h1;obtain⟨ns,rfl⟩:=items_int h3;have aa:ns.length<=n:=by
  unfold OpenLaw.pre at hc;have h4:(WTm.not (.lt (.lit (.int (n:Int))) (.len (.arg 0)))).holds [] { args:=[.list (ns.map .int)] } = true:=by
   have h4:=(holds_andW hc).1;rw[hn]at h4;exact h4
  have h5:=condW_of h4 (w_not (w_lt w_lit (w_len_list (w_arg rfl))));rw[ff]at h5;refine Nat.le_of_not_lt fun q=>?_;have q':(n:Int)<((ns.length:Nat):Int):=yw
  first
   | (rw[gd q']at h5;exact absurd h5 dz)
   | (simp at h5;omega)
 cases hwl with
 |cons w1 w2=>
  cases w2;cases w1 with
  |list ho hall=>exact⟨_,_,ns,rfl,rfl,ho,DB ns _ hall,aa⟩
theorem Gc(l:OpenLaw)(args:List WData):l.row.toRowW.claim.post args (.bool true) args=true:=
 postW_of (r:=l.row.toRowW) (X:=(true==true))
  (show WShape.has [] (.bool true) .bool=true by first|rfl|decide|simp[WShape.has,WShape.arms,WShape.armsAll])
  (show (WTm.eq .res (.lit (.bool true))).value [] { args:=args,res:=some (.bool true),after:=args } = some (.bool (true==true))from w_eq_bool (w_res rfl) w_lit) rfl
theorem attach_call{l:OpenLaw}{n:Nat}{q:fg}{z:List Str}{XP:(Str->Option bn)->Heap->Prop}{YP:ga->Heap->Prop}{d:DefRec}
  (hn:l.most=some n) (hdf:d.params.defaults=[])
  (call:∀(w:ga) (s₀ s₁:bp) (mg mb:Str->Option bn) (fa:Addr) (o:Obj) (pm cd aa:bn) (a:Addr) (vs:List bn) (ns:List Int),
   Ground q z [] XP w s₀ mg mb s₁.heap->YP w s₁.heap ->
   s₁.heap.get? fa=some o->o.data=.func (docDef d.name d.params d.body d.scope pm cd aa)->s₁.heap.CodeRec cd d.name->mg d.name=some (.ref fa) ->
   s₁.heap.get? a=some { cls:=.type "list",data:=.seq vs.toArray }->qp vs ns->ns.length<=n->s₁.gens = #[] ->
   pb (model l.prog w) callerA (.call (.ref fa) ⟨[.ref a],[]⟩) (fun r s'=>r=.ok (.ret (.bool true))/\OldK s₁.heap s'.heap/\s'.os=s₁.os/\AllBare s'.gens) s₁):
  WalkO q z XP YP l.row.toRowW d [] (fun f vs=>PySem.call f vs):=by
 intro w s₀ s₁ mg mb G Y fa o pm cd aa dV kV ho hd ag hD ah hg args aj as af ak al ai am;obtain rfl:dV=.none:=Dflts.none hD hdf;obtain rfl:kV=.none:=Dflts.noKw hD;obtain⟨a,vs,ns,rfl,rfl,ac,ab,ae⟩:=Hz hn af ai;refine enter_call (codeAny_mono (call w s₀ s₁ mg mb fa o pm cd aa a vs ns G Y ho (fd_plain hd) ag ah ac ab ae hg) fun r s' hq=>?_);obtain⟨rfl,h2,h3,h4⟩:=hq;exact⟨.inl ⟨.bool true,.bool true,[],rfl,fun _=>rfl,.bool true,Gc l _,fun _=>⟨List.Pairwise.nil,fun _ hm=>(nomatch hm)⟩⟩,h2,h3,h4⟩
end Att
namespace L2
open PySem PySem.Spec PyProof.Rows
section
theorem C2:∀{vs:List bn}{ns:List Int},qp vs ns->Vals (ns.map V.int) vs
 |_,_,.nil=>.nil
 |_,_,.cons n t h=>.cons ⟨t,rfl⟩ (C2 h)
def Only(H:Hp):Prop:=∀b,H b=none\/(∃o xs,H b=some (.frz o (.lst xs)))\/∃q∈tabsG,q.1.2=b/\H b=some (.tbl q.2)
def cP(b:Addr):Option HO:=(tabsG.find? fun q=>q.1.2==b).map fun q=>.tbl q.2
theorem jN{b:Addr}{u:HO}(e:cP b=some u):∃q∈tabsG,q.1.2=b/\u=.tbl q.2:=by
 unfold cP at e;cases h:tabsG.find? fun q=>q.1.2==b with
 |none=>rw[h]at e;cases e
 |some q=>
  rw[h]at e;cases e;exact⟨q,List.mem_of_find?_eq_some h,by simpa using List.find?_some h,rfl⟩
theorem FD{l:List ((Addr×Addr)×Array bn)}(nd:(l.map fun q=>q.1.2).Nodup){q:(Addr×Addr)×Array bn}(h:q∈l):l.find? (fun r=>r.1.2==q.1.2)=some q:=by
 induction l with
 |nil=>cases h
 |cons p l ih=>
  rw[jc,nodup_cons]at nd;rcases mem_cons.mp h with e|e
  ·subst e;simp
  ·have ne:¬ p.1.2=q.1.2:=fun z=>nd.1 (by rw[z];exact List.mem_map_of_mem (f:=fun q:(Addr×Addr)×Array bn=>q.1.2) e);rw[List.find?_cons_of_neg (by simpa using ne)];exact ih nd.2 e
theorem y3(nd:(tabsG.map fun q=>q.1.2).Nodup){q:(Addr×Addr)×Array bn}(h:q∈tabsG):cP q.1.2=some (.tbl q.2):=by
 unfold cP;rw[FD nd h];rfl
structure TabsOk(K:cy)(h:Heap):Prop where
 nd:(tabsG.map fun q=>q.1.2).Nodup
 hd:∀q∈tabsG,W.CodeHd h q.1.1 q.1.2
 empty:∀q∈tabsG,h.get? q.1.2=some (W.tabObj #[])
 off:∀q∈tabsG,K.lookup q.1.2=none
theorem TabsOk.none{K:cy}{h:Heap}(e:tabsG=[]):TabsOk K h:=⟨by rw[e];exact nodup_nil,fun q z=>absurd z (by rw[e];simp),fun q z=>absurd z (by rw[e];simp),fun q z=>absurd z (by rw[e];simp)⟩
theorem Ge{P:fg}{w:ga}{K:cy}{mg mb:Str->Option bn}{CX:CXT}{k:Nat}{fa a:Addr}{fd:px}{x:Str}{sp:Sp}{s₁:bp}{vs:List bn}{ns:List Int}
  (KX:K.In s₁.heap) (TT:TabsOk K s₁.heap) (hbm:BltAt s₁.heap mg) (hns:s₁.heap.Ns kr mg) (hb:s₁.heap.Ns builtinsNs mb) (hbb:∀x:Str,x ≠ "__name__"->mb x=gr x) (hlim:s₁.heap.NoLimit) (hg:s₁.gens = #[])
  (ha:s₁.heap.get? a=some { cls:=.type "list",data:=.seq vs.toArray }) (hi:qp vs ns) (hl:ns.length<=dw) (hr:Room k callerA)
  (F:∀base:Heap,K.In base->base.Ns kr mg->FnOk P w K mg base CX k fa fd [x] sp) (hbind:∀(s:bp) (u:bn),BindsTo s fd ⟨[u],[]⟩ [(x,u)])
  (hsp:∀H:Hp,Only H->SqL K H a (ns.map V.int)->sp [.ref a] H (fun v _=>v=.bl true) fun _ _ _=>False)
  (hCX:∀H e s',CX [] H s₁ (fun _ _ _=>False) e s'->False):
  pb (model P w) callerA (.call (.ref fa) ⟨[.ref a],[]⟩) (fun r s'=>r=.ok (.ret (.bool true))/\OldK s₁.heap s'.heap/\s'.os=s₁.os/\AllBare s'.gens) s₁:=by
 have rv:=C2 hi;have ag:=hi.length
 have af:∀H:Hp,Only H->SqL K H a (ns.map V.int)->HOk P w H s₁.heap->(∀b,H b≠none->b=a\/∃q∈tabsG,q.1.2=b)->(H a≠none->K.lookup a=none)->(∀q∈tabsG,H q.1.2=some (.tbl q.2)) ->
   pb (model P w) callerA (.call (.ref fa) ⟨[.ref a],[]⟩) (fun r s'=>r=.ok (.ret (.bool true))/\OldK s₁.heap s'.heap/\s'.os=s₁.os/\AllBare s'.gens) s₁:=by
  intro H hO hS hok hA hK aj;have al:∀{b:Addr}{o:Obj},s₁.heap.get? b=some o->o.cls≠.type "list"->o.cls≠.none->H b=none:=fun {b o} e c1 c2=>by
   cases q:H b with
   |none=>rfl
   |some u=>
    rcases hA b (by rw[q];simp)with e'|⟨r,aa,e'⟩
    ·subst e';rw[ha]at e;cases e;exact absurd rfl c1
    ·have:=TT.empty r aa;rw[e',e]at this;cases this;exact absurd rfl c2
  have ab:∀{b:Addr}{o:Obj},s₁.heap.get? b=some o->H b=none->(fE s₁.heap H).get? b=some o:=fun e n=>EN e n;have am:∀{b:Addr}{o:Obj}{es:Array DictEntry}{ep:Nat},s₁.heap.get? b=some o->o.data=.dict es ep->H b=none:=fun {b o es ep} e d=>by
   cases q:H b with
   |none=>rfl
   |some u=>
    rcases hA b (by rw[q];simp)with e'|⟨r,aa,e'⟩
    ·subst e';rw[ha]at e;cases e;have d':Data.seq vs.toArray _=Data.dict es ep:=d;cases d'
    ·have:=TT.empty r aa;rw[e',e]at this;cases this;cases d
  have ac:∀{b:Addr}{m:Str->Option bn},s₁.heap.Ns b m->(fE s₁.heap H).Ns b m:=fun {b m} ⟨o,es,ep,e,d,r⟩=>⟨o,es,ep,ab e (am e d),d,r⟩;have ai:K.In (fE s₁.heap H):=fun b o e=>ab (KX b o e) (by
   cases q:H b with
   |none=>rfl
   |some u=>
    rcases hA b (by rw[q];simp)with e'|⟨r,aa,e'⟩
    ·subst e';rw[hK (by rw[q];simp)]at e;cases e
    ·rw[<- e',TT.off r aa]at e;cases e)
  have hM:Mod K mg (fE s₁.heap H):=⟨ai,ac hns,⟨mb,ac hb,hbb⟩,let ⟨mc,h1,h2⟩:=hlim;⟨mc,ac h1,h2⟩,
   let ⟨bm,ob,b1,b2,b3,b4,b5⟩:=hbm;⟨bm,ob,b1,b2,ab b3 (al b3 (by rw[b4];decide) (by rw[b4];decide)),b4,b5⟩,
   fun q hq=>let ⟨o,vs,file,tf,flags,tg,inF,text,tt,e1,c1,r⟩:=TT.hd q hq;⟨o,vs,file,tf,flags,tg,inF,text,tt,ab e1 (al e1 (by rw[c1];decide) (by rw[c1];decide)),c1,r⟩⟩
  have e0:Env0 P w K mg (fE s₁.heap H) callerA [] s₁ H:=⟨rfl,hM,fun b o e=>Ev e,le_of_eq (Fd _ _),trivial,⟨fun b hb=>absurd (show b∈([]:List Addr)from hb) yv,aj⟩,hok,.of_eq hg⟩;refine codeAny_mono ((F _ ai (ac hns)).run callerA [] s₁ H ⟨[.ref a],[]⟩ [.ref a] [.ref a] _ _ hr e0 (hbind s₁ (.ref a)) (.cons rfl .nil) (hsp H hO hS)) fun r s' h=>?_;cases r with
  |error e=>exact(hCX H e s' h).elim
  |ok fl=>
   cases fl with
   |next=>exact ow h
   |brk=>exact ow h
   |cont=>exact ow h
   |ret u=>
    obtain⟨v,H',os,bare,un,ae,r',q⟩:=h;have q':v=.bl true:=q;subst q';obtain rfl:u=ke true:=r';have all:∀b o,s₁.heap.get? b=some o->s'.heap.get? b=some o\/∃q∈tabsG,q.1.2=b/\o=W.tabObj #[]/\∃ps,s'.heap.get? b=some (W.tabObj ps):=fun b o e=>by
     cases q:H b with
     |none=>exact .inl (un.keep b o e q (by intro z;exact absurd (show b∈([]:List Addr)from z) yv) yv)
     |some u=>
      rcases hO b with z|⟨ob,xs,z⟩|⟨r,aa,e',z⟩
      ·rw[q]at z;cases z
      ·have z2:=un.frzs b ob _ z;obtain⟨e1,_⟩:=hok b _ z;obtain⟨e2,_⟩:=ae b _ z2;rw[e]at e1;cases e1;exact .inl e2
      ·obtain⟨qs,e2,_⟩:=ae b _ (un.tbls b _ z);have:=TT.empty r aa;rw[e',e]at this;cases this;exact .inr ⟨r,aa,e',rfl,qs,e2⟩
    refine⟨rfl,⟨fun b o e=>?_,fun b o e=>?_⟩,os,bare⟩
    ·rcases all b o e with z|⟨r,aa,rfl,rfl,ps,z⟩
     ·exact .inl z
     ·exact .inr (.inl ⟨((TT.hd r aa).tab (TT.empty r aa)).isCodeTable,rfl,#[],ps,rfl,by rw[Array.empty_append];exact z⟩)
    ·rcases all b o e with z|⟨r,aa,rfl,rfl,ps,z⟩
     ·exact⟨o,z⟩
     ·exact⟨_,z⟩
 have ak:∀q∈tabsG,q.1.2≠a:=fun q hq z=>by
  have:=TT.empty q hq;rw[z,ha]at this;cases this
 have ah:∀(H:Hp) (b:Addr) (u:HO),cP b=some u->ObjOk P w H s₁.heap b u:=fun H b u z=>by
  obtain⟨q,hq,rfl,rfl⟩:=jN z;exact⟨#[],TT.empty q hq,.inl rfl⟩
 cases hk:K.lookup a with
 |some o=>
  have e:=KX a o hk;rw[ha]at e;cases e;refine af cP (fun b=>?_) (.inr ⟨_,vs.toArray,_,hk,rfl,rfl,rfl,by rw[cz,ag];exact hl,by simpa using rv⟩) (ah cP) (fun b z=>?_) (fun z=>?_) fun q hq=>y3 TT.nd hq
  ·cases q:cP b with
   |none=>exact .inl rfl
   |some u=>obtain⟨r,aa,e',rfl⟩:=jN q;exact .inr (.inr ⟨r,aa,e',rfl⟩)
  ·cases q:cP b with
   |none=>exact absurd q z
   |some u=>obtain⟨r,aa,e',_⟩:=jN q;exact .inr ⟨r,aa,e'⟩
  ·cases q:cP a with
   |none=>exact absurd q z
   |some u=>obtain⟨r,aa,e',_⟩:=jN q;exact absurd e' (ak r aa)
 |none=>
  refine af (fun b=>if b=a then some (.frz { cls:=.type "list",data:=.seq vs.toArray } (.lst (ns.map V.int)))else cP b) (fun b=>?_) (.inl (.inr ⟨{ cls:=.type "list",data:=.seq vs.toArray },ci rfl⟩)) (fun b u z=>?_) (fun b z=>?_) (fun _=>hk) fun q hq=>(cg (ak q hq)).trans (y3 TT.nd hq)
  ·by_cases hb:b=a
   ·exact .inr (.inl ⟨_,_,ci hb⟩)
   ·cases q:cP b with
    |none=>exact .inl ((cg hb).trans q)
    |some u=>obtain⟨r,aa,e',rfl⟩:=jN q;exact .inr (.inr ⟨r,aa,e',(cg hb).trans q⟩)
  ·by_cases hb:b=a
   ·have z':=(ci hb).symm.trans z;cases z';subst hb;exact⟨ha,by rw[ff];exact hl,vs,_,rv,ha⟩
   ·have z':=(cg hb).symm.trans z;exact ah _ b u z'
  ·by_cases hb:b=a
   ·exact .inl hb
   ·cases q:cP b with
    |none=>exact absurd ((cg hb).trans q) z
    |some u=>obtain⟨r,aa,e',_⟩:=jN q;exact .inr ⟨r,aa,e'⟩
end
section
abbrev KOf {K:cy}{h:Heap} (_:K.In h):cy:=K
theorem walk_of{l:W.OpenLaw}{n k:Nat}{q:fg}{aa:List Str}{XP:(Str->Option bn)->Heap->Prop}{YP:ga->Heap->Prop}{d:DefRec}{K:Params->cy}{CX:ga->CXT}{sp:ga->Sp}{x:Str}
  (hn:l.most=some n) (hn2:n<=dw) (hdf:d.params.defaults=[]) (hr:Room k callerA)
  (hY:∀(w:ga) (h:Heap),YP w h->(K w.params).In h)
  (hT:∀(w:ga) (h:Heap),YP w h->TabsOk (K w.params) h)
  (F:∀(w:ga) (mg:Str->Option bn) (fa:Addr) (h:Heap),(K w.params).In h->h.Ns kr mg->mg d.name=some (.ref fa) ->
   ∃fd:px,(∀(s:bp) (u:bn),BindsTo s fd ⟨[u],[]⟩ [(x,u)]) /\
    ∀base:Heap,(K w.params).In base->base.Ns kr mg->FnOk l.prog w (K w.params) mg base (CX w) k fa fd [x] (sp w))
  (hsp:∀(w:ga) (H:Hp) (a:Addr) (ns:List Int),ns.length<=n->Only H->SqL (K w.params) H a (ns.map V.int)->sp w [.ref a] H (fun v _=>v=.bl true) fun _ _ _=>False)
  (hCX:∀(w:ga) (H:Hp) (s:bp) (e:bn) (s':bp),CX w [] H s (fun _ _ _=>False) e s'->False):
  W.WalkO q aa XP YP l.row.toRowW d [] (fun f vs=>PySem.call f vs):=by
 refine Att.attach_call hn hdf fun w s₀ s₁ mg mb fa o pm cd ag a vs ns G Y ho hd af ae ac ab z hg=>?_;have KX:=hY w _ Y;obtain⟨fd,hb,hF⟩:=F w mg fa _ KX G.T.g ae;exact Ge KX (hT w _ Y) (let ⟨bm,ob,a1,a2,a3,a4,a5,a6⟩:=G.T.bmain;⟨bm,ob,a1,a2,a3,a4,a5,a6⟩) G.T.g G.T.b G.T.builtins G.T.nolimit hg ac ab (iz z hn2) hr hF hb (fun H hO hS=>hsp w H a ns z hO hS) fun H e s'=>hCX w H s₁ e s'
end
section
def gV(s:Stmt):Arguments:=match s with
 | .FunctionDef _ a _ _ _ _ _ _ _ _=>a
 |_=>{ posonlyargs:=[],args:=[],vararg:=none,kwonlyargs:=[],kw_defaults:=[],kwarg:=none,defaults:=[] }
def dM(s:Stmt):List Stmt:=match s with
 | .FunctionDef _ _ b _ _ _ _ _ _ _=>b
 |_=>[]
def zi(s:Stmt):Scope:=match s with
 | .FunctionDef _ _ _ _ _ _ sc _ _ _=>sc
 |_=>{ kind:=.function,names:=[],isGenerator:=false,isCoroutine:=false }
abbrev CX0:CXT:=fun _ _ _ _ _ _=>False
abbrev E0:XK:=fun _ _ _=>False
theorem pass0{X:Cx}:Passes CX0 X E0:=fun _ _ _ _ _ _ _ h=>h.elim
structure Fun(K:cy)(x qual:Str)(st:Stmt)(f:Addr)(fd:px):Prop where
 ex:∃(oc:bn) (od:Option Addr) (kV doc pm:bn) (an:Option Addr) (cdv ct:bn) (osl:Array (Option bn)),
  fd=W.fnOf x qual (gV st) (dM st) (zi st) .none kV doc pm an cdv ct/\K.lookup f=some ⟨oc,od,.func fd,osl⟩/\W.codeIn K cdv qual=true
 kp:W.keepIn K (.ref f)=true
section
variable {P:fg}{w:ga}{K:cy}{mg:Str->Option bn}{base:Heap}
theorem Fun.ok{x z:Str}{st:Stmt}{f:Addr}{fd:px}{N ps:List Str}{k:Nat}{sp:Sp}(F:Fun K x z st f fd)(S:FnScope N ps (zi st))(len:∀vs H Q E,sp vs H Q E->vs.length=ps.length)
  (hbody:∀(aa:bn) (A:fv) (outer:List Env) (s:bp) (H:Hp) (vs:List V) (Q:VK) (E:XK),Room k (A.deeper (envOfC z (zi st) s.heap.objs.size f aa))->sp vs H Q E ->
   ∃t,PSs (eF CX0 P w K mg base N z (zi st) f aa A outer s H E).nox (dM st) t/\t { nx:=fun _ H'=>Q .non H',rt:=Q } (start N vs) H):FnOk P w K mg base CX0 (k+1) f fd ps sp:=by
 obtain⟨oc,od,kV,af,pm,an,aa,ct,ae,rfl,lk,ab⟩:=F.ex;refine FL lk ab S len fun A outer s H vs Q E hr ac=>?_;obtain⟨t,h,q⟩:=hbody aa A outer s H vs Q E hr ac;exact⟨t,h.nox,q⟩
theorem Fun.binds{x q:Str}{st:Stmt}{f:Addr}{fd:px}{ps:List Str}(F:Fun K x q st f fd)
  (h:∀(kV aa pm:bn) (an:Option Addr) (z ct:bn) (us:List bn),us.length=ps.length->bindArgs (W.fnOf x q (gV st) (dM st) (zi st) .none kV aa pm an z ct) ⟨us,[]⟩=pure (ps.zip us)):Binds K fd ps []:=by
 obtain⟨oc,od,kV,aa,pm,an,z,ct,ac,rfl,lk,ab⟩:=F.ex;exact .all (h kV aa pm an z ct)
theorem y9{x q:Str}{st:Stmt}{f:Addr}{oc:bn}{od an:Option Addr}{ab:Array (Option bn)}{kV aa pm z ct:bn}(l:K.lookup f=some ⟨oc,od,.func (W.fnOf x q (gV st) (dM st) (zi st) .none kV aa pm an z ct),ab⟩)
  (c:W.codeIn K z q=true) (k:W.keepIn K (.ref f)=true):Fun K x q st f (W.fnOf x q (gV st) (dM st) (zi st) .none kV aa pm an z ct):=⟨⟨oc,od,kV,aa,pm,an,z,ct,ab,rfl,l,c⟩,k⟩
end
theorem Iu{A:fv}{k:Nat}(hr:Room k A):A.units+1<re:=Nat.lt_of_le_of_lt (Nat.add_le_add_left (by decide:1<=64) _) hr.units
theorem small1000{n:Nat}(h:n<=1000):n<dw:=Nat.lt_of_le_of_lt h dz
section
variable {X:Cx}
theorem pv(i:Nat){x:Str}{pos:Pos}(hN:X.N[i]?=some x:=by rfl)(hv:Vis X.env.scope x:=by first|exact gx rfl|exact qy (gx rfl)|exact qy (qy rfl))(hd:(x==("__debug__":Str))=false:=by decide)
  (hcd:(x==("__classdict__":Str))=false:=by decide):PE X (.Name x pos) (fI i):=Gi hN hv hd hcd
end
theorem gQ{A B:Prop}(h:B):if false=true then A else B:=by
 rw[cg ja];exact h
theorem gG{A B:Prop}(h:A):if true=true then A else B:=by
 rw[ci rfl];exact h
theorem ite2{c A B:Prop}[Decidable c](h1:c->A)(h2:¬ c->B):if c then A else B:=by
 by_cases h:c
 ·rw[ci h];exact h1 h
 ·rw[cg h];exact h2 h
def Same(H H':Hp):Prop:=∀b o,H b=some o->H' b=some o
theorem Same.refl(H:Hp):Same H H:=fun _ _ h=>h
theorem Same.trans{H H1 H2:Hp}(a:Same H H1)(b:Same H1 H2):Same H H2:=fun c o h=>b c o (a c o h)
theorem Same.seq{K:cy}{H H':Hp}{a:Addr}{xs:List V}(e:Same H H')(h:SqL K H a xs):SqL K H' a xs:=by
 rcases h with (h|⟨o,h⟩)|h
 ·exact .inl (.inl (e _ _ h))
 ·exact .inl (.inr ⟨o,e _ _ h⟩)
 ·exact .inr h
end
section
section
variable {X:Cx}
def CDivX(i j:Int):Prop:=0<j/\j.natAbs.log2<9000
theorem Dh:OpR X (kw .FloorDiv) (rI CDivX fun i j=>.int (i/j)):=opI fun i j _ _ _ _ _ hc q=>by
 have h1:(0:Int)<j:=hc.1;exact floordiv_int yw (by rw[Int.fdiv_eq_ediv_of_nonneg i yw];exact q) (.inl (PyProof.noPylong_of_log2 hc.2))
theorem EV:OpR X (kw .Mult) (rI IntMulOk fun i j=>.int (i*j)):=opI fun _ _ _ _ _ _ _ hc q=>mul_int q hc
theorem yN{k:Int}{n:Nat}(h:k.natAbs<2 ^ n):Builtin.Int.intBits k<=n:=by
 unfold Builtin.Int.intBits;split
 ·exact ji _
 ·rename_i h0;have hk:k.natAbs≠0:=by
   intro z;apply h0;rw[Int.natAbs_eq_zero.mp z];rfl
  have:=(Nat.log2_lt hk).mpr h;omega
theorem JL{i j:Int}(n m:Nat)(hi:i.natAbs<2 ^ n)(hj:j.natAbs<2 ^ m)(hn:n<=2 ^ 20:=by decide)(hm:m<=2 ^ 20:=by decide):IntMulOk i j:=
 .of_bits (iz (yN hi) hn) (iz (yN hj) hm)
theorem dX{i j:Int}(h1:-(2 ^ 64)<i)(h2:i<2 ^ 64):IntMulOk i j:=.of_left (intBits_le_64 h1 h2)
theorem jD{n:Int}{k:Nat}(h0:0<n)(h:n<2 ^ k):n.natAbs.log2<k:=by
 refine(Nat.log2_lt yw).mpr ?_;have e:((2 ^ k:Nat):Int)=(2:Int) ^ k:=by simp
 omega
end
def kD:Key->bo
 | .inl i=>.int i
 | .inr x=>.str x
def DOf(H:Hp)(a:Addr)(ks:List bo)(vs:List V):Prop:=
 (∃(ob:Obj) (m:List (Key×V)),H a=some (.frz ob (.dK m))/\ks=m.map (fun p=>kD p.1)/\vs=m.map (·.2)) \/
 ∃(ob:Obj) (p:List Key×V) (m:List (List Key×V)),H a=some (.frz ob (.dT (p::m)))/\ks=(p::m).map (fun p=>.tuple (p.1.map kD))/\vs=(p::m).map (·.2)
mutual
def Has(H:Hp):bo->V->Prop
 | .none,v=>v=.non
 | .bool b,v=>v=.bl b
 | .int i,v=>v=.int i
 | .str x,v=>v=.str x
 | .list ds,v=>∃a vs,v=.ref a/\H a=some (.lst vs)/\HasL H ds vs
 | .tuple ds,v=>∃a vs,v=.ref a/\H a=some (.tup vs)/\HasL H ds vs
 | .dict kvs,v=>∃a vs,v=.ref a/\DOf H a (kvs.map (·.1)) vs/\HasV H kvs vs
def HasL(H:Hp):List bo->List V->Prop
 | [],vs=>vs=[]
 |d::ds,vs=>∃v r,vs=v::r/\Has H d v/\HasL H ds r
def HasV(H:Hp):List (bo×bo)->List V->Prop
 | [],vs=>vs=[]
 |p::ps,vs=>∃v r,vs=v::r/\HasP H p v/\HasV H ps r
def HasP(H:Hp):bo×bo->V->Prop
 | (_,d),v=>Has H d v
end
mutual
theorem Has.mono{H H':Hp}(s:Same H H'):∀(d:bo) (v:V),Has H d v->Has H' d v
 | .none,_,h=>by simp only[Has]at h ⊢;exact h
 | .bool _,_,h=>by simp only[Has]at h ⊢;exact h
 | .int _,_,h=>by simp only[Has]at h ⊢;exact h
 | .str _,_,h=>by simp only[Has]at h ⊢;exact h
 | .list ds,v,h=>by
  simp only[Has]at h ⊢;obtain⟨a,vs,e,q,l⟩:=h;exact⟨a,vs,e,s _ _ q,HasL.mono s ds vs l⟩
 | .tuple ds,v,h=>by
  simp only[Has]at h ⊢;obtain⟨a,vs,e,q,l⟩:=h;exact⟨a,vs,e,s _ _ q,HasL.mono s ds vs l⟩
 | .dict kvs,v,h=>by
  simp only[Has]at h ⊢;obtain⟨a,vs,e,q,l⟩:=h;refine⟨a,vs,e,?_,HasV.mono s kvs vs l⟩;rcases q with ⟨ob,m,e1,e2⟩|⟨ob,p,m,e1,e2⟩
  ·exact .inl ⟨ob,m,s _ _ e1,e2⟩
  ·exact .inr ⟨ob,p,m,s _ _ e1,e2⟩
theorem HasL.mono{H H':Hp}(s:Same H H'):∀(ds:List bo) (vs:List V),HasL H ds vs->HasL H' ds vs
 | [],_,h=>by simp only[HasL]at h ⊢;exact h
 |d::ds,vs,h=>by
  simp only[HasL]at h ⊢;obtain⟨v,r,e,q,l⟩:=h;exact⟨v,r,e,Has.mono s d v q,HasL.mono s ds r l⟩
theorem HasV.mono{H H':Hp}(s:Same H H'):∀(ds:List (bo×bo)) (vs:List V),HasV H ds vs->HasV H' ds vs
 | [],_,h=>by simp only[HasV]at h ⊢;exact h
 |d::ds,vs,h=>by
  simp only[HasV]at h ⊢;obtain⟨v,r,e,q,l⟩:=h;exact⟨v,r,e,HasP.mono s d v q,HasV.mono s ds r l⟩
theorem HasP.mono{H H':Hp}(s:Same H H'):∀(p:bo×bo) (v:V),HasP H p v->HasP H' p v
 | (_,d),v,h=>by
  simp only[HasP]at h ⊢;exact Has.mono s d v h
end
section
variable {H:Hp}{v:V}
theorem iX:Has H .none v↔v=.non:=by simp only[Has]
theorem fB{b:Bool}:Has H (.bool b) v↔v=.bl b:=by simp only[Has]
theorem eU{i:Int}:Has H (.int i) v↔v=.int i:=by simp only[Has]
theorem eV{x:Str}:Has H (.str x) v↔v=.str x:=by simp only[Has]
theorem dA{ds:List bo}:Has H (.list ds) v↔∃a vs,v=.ref a/\H a=some (.lst vs)/\HasL H ds vs:=by simp only[Has]
theorem dJ{ds:List bo}:Has H (.tuple ds) v↔∃a vs,v=.ref a/\H a=some (.tup vs)/\HasL H ds vs:=by simp only[Has]
theorem sZ{q:List (bo×bo)}:Has H (.dict q) v↔∃a vs,v=.ref a/\DOf H a (q.map (·.1)) vs/\HasV H q vs:=by simp only[Has]
theorem AE{vs:List V}:HasV H [] vs↔vs=[]:=by simp only[HasV]
theorem CD{p:bo×bo}{ds:List (bo×bo)}{vs:List V}:HasV H (p::ds) vs↔∃v r,vs=v::r/\Has H p.2 v/\HasV H ds r:=by
 obtain⟨k,d⟩:=p;simp only[HasV,HasP]
theorem zv{vs:List V}:HasL H [] vs↔vs=[]:=by simp only[HasL]
theorem zp{d:bo}{ds:List bo}{vs:List V}:HasL H (d::ds) vs↔∃v r,vs=v::r/\Has H d v/\HasL H ds r:=by simp only[HasL]
theorem HasL.length:∀{ds:List bo}{vs:List V},HasL H ds vs->vs.length=ds.length
 | [],_,h=>by rw[zv.mp h];rfl
 |d::ds,vs,h=>by
  obtain⟨v,r,e,_,l⟩:=zp.mp h;rw[e,fu,fu,HasL.length l]
theorem HasL.get:∀{ds:List bo}{vs:List V}{i:Nat}{d:bo},HasL H ds vs->ds[i]?=some d->∃v,vs[i]?=some v/\Has H d v
 | [],_,_,_,_,e=>by simp at e
 |c::ds,vs,0,d,h,e=>by
  obtain⟨v,r,rfl,q,_⟩:=zp.mp h;simp at e;subst e;exact⟨v,rfl,q⟩
 |c::ds,vs,i+1,d,h,e=>by
  obtain⟨v,r,rfl,_,l⟩:=zp.mp h;obtain⟨u,e1,e2⟩:=HasL.get (i:=i) (d:=d) l (by simpa using e);exact⟨u,by simpa using e1,e2⟩
theorem HasL.append:∀{ds es:List bo}{vs us:List V},HasL H ds vs->HasL H es us->HasL H (ds++es) (vs++us)
 | [],es,vs,us,h,h'=>by rw[zv.mp h];exact h'
 |d::ds,es,vs,us,h,h'=>by
  obtain⟨v,r,rfl,q,l⟩:=zp.mp h;exact zp.mpr ⟨v,r++us,rfl,q,HasL.append l h'⟩
theorem v9:∀(ns:List Int),HasL H (ns.map .int) (ns.map V.int)
 | []=>zv.mpr rfl
 |n::ns=>zp.mpr ⟨_,_,rfl,eU.mpr rfl,v9 ns⟩
end
def tyD:bo->String
 | .none=>"NoneType" | .bool _=>"bool" | .int _=>"int" | .str _=>"str" | .list _=>"list" | .tuple _=>"tuple" | .dict _=>"dict"
theorem Has.ty{K:cy}{H:Hp}{d:bo}{v:V}(h:Has H d v):TyOf K H v (.type (tyD d)):=by
 cases d with
 |none=>rw[iX.mp h];exact .non
 |bool b=>rw[fB.mp h];exact .bl b
 |int i=>rw[eU.mp h];exact .int i
 |str x=>rw[eV.mp h];exact .str x
 |list ds=>obtain⟨a,vs,rfl,e,_⟩:=dA.mp h;exact .lst e
 |tuple ds=>obtain⟨a,vs,rfl,e,_⟩:=dJ.mp h;exact .tup e
 |dict kvs=>
  obtain⟨a,vs,rfl,e,_⟩:=sZ.mp h;rcases e with ⟨ob,m,e,_⟩|⟨ob,p,m,e,_⟩
  ·exact .dK (.inr ⟨ob,e⟩)
  ·exact .dT (.inr ⟨ob,e⟩)
def pW:List String:=["NoneType","bool","int","str","list","tuple","dict"]
def eO:List String:=["int","bool","str","list","tuple","dict"]
def dD(t c:String):Bool:=t==c||(t == "bool" && c == "int")
def gB(d:bo)(c:String):Bool:=dD (tyD d) c
theorem Ec(d:bo):tyD d∈pW:=by cases d<;>simp[tyD,pW]
theorem GN(K:cy){t c:String}(ht:t∈pW)(hc:c∈eO):W.kitOne K (.type t) (.type c)=some (dD t c):=by
 simp only[pW,eO,iq,gg,or_false]at ht hc;rcases ht with rfl|rfl|rfl|rfl|rfl|rfl|rfl<;>rcases hc with rfl|rfl|rfl|rfl|rfl|rfl<;>rfl
def tL:List V->Hp->VK->Prop
 | [x,.ty c],H,Q=>∃d,Has H d x/\c∈eO/\Q (.bl (gB d c)) H
 |_,_,_=>False
theorem Fm{H:Hp}{d:bo}{x:V}{c:String}{Q:VK}(h:Has H d x)(hc:c∈eO)(q:Q (.bl (gB d c)) H):tL [x,.ty c] H Q:=⟨d,h,hc,q⟩
section
variable {X:Cx}
theorem eA:CallR X (.builtin "isinstance") tL:=by
 intro zf s σ H xs us Q I r h
 match xs,h with
 | [x,.ty c],h=>
  obtain⟨d,hx,hc,q⟩:=h;obtain⟨u,w',rfl,ru,z⟩:=vals2 r;cases (show w'=nt c from z);exact EZ I ru hx.ty (GN X.K (Ec d) hc) fun tk=>⟨.bl _,H,I.tok tk,rfl,q⟩
end
def sp1(p:V->Hp->VK->Prop):Sp:=fun vs H Q _=>match vs with | [x]=>p x H Q|_=>False
def sp2(p:V->V->Hp->VK->Prop):Sp:=fun vs H Q _=>match vs with | [x,y]=>p x y H Q|_=>False
theorem v0{p:V->Hp->VK->Prop}:∀(vs:List V) (H:Hp) (Q:VK) (E:XK),sp1 p vs H Q E->∃x,vs=[x]/\p x H Q:=by
 intro vs H Q E h
 match vs,h with
 | [x],h=>exact⟨x,rfl,h⟩
theorem Ap{p:V->V->Hp->VK->Prop}:∀(vs:List V) (H:Hp) (Q:VK) (E:XK),sp2 p vs H Q E->∃x y,vs=[x,y]/\p x y H Q:=by
 intro vs H Q E h
 match vs,h with
 | [x,y],h=>exact⟨x,y,rfl,h⟩
structure Dd(K:cy)(mg:Str->Option bn)(x:Str)(st:Stmt)(ps:List Str):Prop where
 ex:∃f fd,Fun K x x st f fd/\mg x=some (.ref f)/\Binds K fd ps []
structure Df(P:fg)(w:ga)(K:cy)(mg:Str->Option bn)(base:Heap)(x:Str)(ps:List Str)(k:Nat)(sp:Sp):Prop where
 ex:∃f fd,FnOk P w K mg base CX0 k f fd ps sp/\mg x=some (.ref f)/\W.keepIn K (.ref f)=true/\Binds K fd ps []
section
variable {P:fg}{w:ga}{K:cy}{mg:Str->Option bn}{base:Heap}{x a b c d e:Str}{st:Stmt}{N:List Str}{k:Nat}
theorem Df.of{ps:List Str}{sp:Sp}(D:Dd K mg x st ps)(S:FnScope N ps (zi st))(len:∀vs H Q E,sp vs H Q E->vs.length=ps.length)
  (hbody:∀(f:Addr) (cdv:bn) (A:fv) (outer:List Env) (s:bp) (H:Hp) (vs:List V) (Q:VK) (E:XK),Room k (A.deeper (envOfC x (zi st) s.heap.objs.size f cdv))->sp vs H Q E ->
   ∃t,PSs (eF CX0 P w K mg base N x (zi st) f cdv A outer s H E).nox (dM st) t/\t { nx:=fun _ H'=>Q .non H',rt:=Q } (start N vs) H):Df P w K mg base x ps (k+1) sp:=by
 obtain⟨f,fd,F,hm,hb⟩:=D.ex;exact⟨f,fd,F.ok S len (hbody f),hm,F.kp,hb⟩
theorem Df.of2{p:V->V->Hp->VK->Prop}(D:Dd K mg x st [a,b])(S:FnScope N [a,b] (zi st))(σ0:V->V->St)(hs:∀v u,start N [v,u]=σ0 v u)
  (hbody:∀(f:Addr) (q:bn) (A:fv) (outer:List Env) (s:bp) (H:Hp) (v u:V) (Q:VK) (E:XK),Room k (A.deeper (envOfC x (zi st) s.heap.objs.size f q))->p v u H Q ->
   ∃t,PSs (eF CX0 P w K mg base N x (zi st) f q A outer s H E).nox (dM st) t/\t { nx:=fun _ H'=>Q .non H',rt:=Q } (σ0 v u) H):Df P w K mg base x [a,b] (k+1) (sp2 p):=by
 refine Df.of D S (fun vs H Q E h=>?_) fun f q A outer s H vs Q E hr h=>?_
 ·obtain⟨x,y,rfl,_⟩:=Ap vs H Q E h;rfl
 ·obtain⟨x,y,rfl,h⟩:=Ap vs H Q E h;rw[hs];exact hbody f q A outer s H x y Q E hr h
end
def tC2(p:V->V->Hp->VK->Prop)(ta tb:TE):TE:=fun σ H Q=>ta σ H fun x H1=>tb σ H1 fun y H2=>p x y H2 Q
section
variable {X:Cx}{x a b c d e':Str}{k j:Nat}{pos pos':Pos}{e1 e2 e3 e4 e5:Expr}{t1 t2 t3 t4 t5:TE}
theorem GO{p:V->V->Hp->VK->Prop}(D:Df X.prog X.w X.K X.mg X.base x [a,b] k (sp2 p))(hr:Room j X.A)(hk:k<=j)(h1:PE X e1 t1)(h2:PE X e2 t2)(hg:Gl X x:=by rfl)(q:(x==("__debug__":Str))=false:=by decide)
  (q1:fq [e1,e2] X.env=(false,eval e1 X.env)::fq [e2] X.env:=by rfl) (q2:fq [e2] X.env=(false,eval e2 X.env)::fq [] X.env:=by rfl)
  (hpl:(qx pos (fq [e2] X.env)).any (·.1)=false:=by rfl):PE X (.Call (.Name x pos') [e1,e2] [] pos) (tC2 p t1 t2):=by
 obtain⟨f,fd,F,hm,kp,hb⟩:=D.ex;intro zf s σ H Q I h;exact CL (dvs:=[]) (ds:=[]) (E:=E0) F (hr.mono hk) hg hm kp hb .nil pass0 (za h1 (za h2 zc q2) q1) q q1 hpl zf s σ H Q I h
end
theorem Dd.mk'{K:cy}{h:Heap}{mg:Str->Option bn}(X:K.In h)(G:h.Ns kr mg){x:Str}{st:Stmt}{ps:List Str}{f:Addr}{oc:bn}{od an:Option Addr}{aa:Array (Option bn)}{kV z pm q ct:bn}
  (a:W.nsIn K kr x=some (some (.ref f))) (l:K.lookup f=some ⟨oc,od,.func (W.fnOf x x (gV st) (dM st) (zi st) .none kV z pm an q ct),aa⟩)
  (c:W.codeIn K q x=true) (k:W.keepIn K (.ref f)=true)
  (hb:∀(kV z pm:bn) (an:Option Addr) (q ct:bn) (us:List bn),us.length=ps.length->bindArgs (W.fnOf x x (gV st) (dM st) (zi st) .none kV z pm an q ct) ⟨us,[]⟩=pure (ps.zip us)):Dd K mg x st ps:=
 ⟨f,_,y9 (st:=st) l c k,W.mg_of X G a,(y9 (st:=st) l c k).binds hb⟩
theorem bE:gr "len" = some (.builtin "len"):=by decide +kernel
theorem zQ:gr "isinstance" = some (.builtin "isinstance"):=by decide +kernel
theorem vD:gr "max" = some (.builtin "max"):=by decide +kernel
theorem Ft:gr "min" = some (.builtin "min"):=by decide +kernel
theorem qI:gr "int" = some (.type "int"):=by decide +kernel
theorem tX:gr "bool" = some (.type "bool"):=by decide +kernel
theorem Iy:gr "str" = some (.type "str"):=by decide +kernel
theorem rD:gr "list" = some (.type "list"):=by decide +kernel
theorem hE:gr "tuple" = some (.type "tuple"):=by decide +kernel
section
variable {H:Hp}{Q:VK}
theorem Ej{i:Nat}{σ:St}:fI i σ H Q↔match σ[i]? with|some (some v)=>Q v H|_=>False:=by
 unfold fI;constructor
 ·rintro⟨v,e,q⟩;rw[e];exact q
 ·intro h;split at h
  ·rename_i v e;exact⟨v,e,h⟩
  ·exact h.elim
theorem An{g:Int->Int->V}{i j:Int}:rI0 g (.int i) (.int j) H Q↔Q (g i j) H:=
 ⟨fun⟨_,_,e1,e2,q⟩=>by cases e1;cases e2;exact q,fun q=>⟨i,j,rfl,rfl,q⟩⟩
theorem D4{p:Bool->Prop}{b:Bool}:(∃c,V.bl b=V.bl c/\p c)↔p b:=⟨fun⟨_,e,q⟩=>by cases e;exact q,fun q=>⟨b,rfl,q⟩⟩
end
section
variable {K:cy}{H:Hp}{Q:VK}{x y:V}{d:bo}{ds:List bo}
def r8(K:cy):List V->Hp->VK->Prop:=fun xs H Q=>∃p ys,xs=[.ref p]/\(SqL K H p ys\/SqT K H p ys)/\Q (.int ys.length) H
end
section
variable {X:Cx}
theorem Fe:CallR X (.builtin "len") (r8 X.K):=CN
end
def hid(a:Addr)(H:Hp):Hp:=fun b=>if b=a then none else H b
theorem G4{a b:Addr}{H:Hp}(h:b≠a):hid a H b=H b:=cg h
theorem IN{a:Addr}{H:Hp}:hid a H a=none:=ci rfl
theorem Same.laid{H:Hp}{p:Addr}{o:HO}(h:H p=none):Same H (upd H p o):=fun b u e=>by
 rw[aX (zS e h)];exact e
section
variable {X:Cx}{zf:List (Addr×Obj)}{σ:St}{H:Hp}{s:bp}{a:Addr}{m:List (Key×V)}
theorem Inv.fz(I:Inv X zf σ H s)(e:H a=some (.dK m)):∃ob,Inv X zf σ (upd H a (.frz ob (.dK m))) s:=by
 have q:=(show ObjOk X.prog X.w H s.heap a (.dK m)from I.hok a _ e);obtain⟨_,_,vs,_,ob,es,ep,h1,_⟩:=id q;exact⟨ob,I.write (x:=a) (e:=a) (o:=.frz ob (.dK m)) (h':=s.heap) (t':=s.toks) (by rw[e];exact oy) (.inl rfl) (fun b v _ z=>z) ⟨ob,h1⟩ ⟨h1,q⟩⟩
def t0(t:TE):TE:=fun σ H Q=>t σ H fun v H1=>∃a m,v=.ref a/\H1 a=some (.dK m)/\∀ob,Q v (upd H1 a (.frz ob (.dK m)))
theorem AL{e:Expr}{t:TE}(h:PE X e t):PE X e (t0 t):=fun zf s σ H Q I hw=>
 thn (h zf s σ H _ I hw) fun u s1 ⟨v,H1,I1,r1,a,m,ev,ea,q⟩=>by
  obtain⟨ob,J⟩:=I1.fz ea;exact⟨v,_,J,r1,q ob⟩
end
end
section
theorem mD(d:bo):gB d "int" = match d with | .int _=>true | .bool _=>true|_=>false:=by cases d<;>first|rfl|(show dD _ _=_;simp[dD,tyD])
theorem mW(d:bo):gB d "bool" = match d with | .bool _=>true|_=>false:=by cases d<;>first|rfl|(show dD _ _=_;simp[dD,tyD])
theorem oG(d:bo):gB d "tuple" = match d with | .tuple _=>true|_=>false:=by cases d<;>first|rfl|(show dD _ _=_;simp[dD,tyD])
theorem lA(d:bo):gB d "list" = match d with | .list _=>true|_=>false:=by cases d<;>first|rfl|(show dD _ _=_;simp[dD,tyD])
theorem l5(d:bo):gB d "str" = match d with | .str _=>true|_=>false:=by cases d<;>first|rfl|(show dD _ _=_;simp[dD,tyD])
def vw:List Addr->Hp->Hp
 | [],H=>H
 |a::r,H=>hid a (vw r H)
def rE(K:cy):V->V->Hp->VK->Prop:=fun x y H Q=>∃(a:Addr) (ns:List Int) (i:Int),x=.ref a/\y=.int i/\SqL K H a (ns.map V.int)/\0<=i/\∀n,Q (.int n) H
theorem Fy{ns:List Int}{i:Int}(h0:0<=i)(h1:i<((ns.map V.int).length:Int)):∃n,atI (ns.map V.int) i=some (.int n):=by
 obtain⟨k,rfl⟩:=gn h0;have hk:k<ns.length:=by rw[ff]at h1;omega
 exact⟨ns[k],fA (by rw[gu,cv hk];rfl)⟩
theorem HL{ns:List Int}{lo hi:Option Int}{x:V}(h:x∈cK (ns.map V.int) lo hi):∃n,x=.int n:=by
 have h1:=qr (ng h);obtain⟨n,_,e⟩:=mem_map.mp h1;exact⟨n,e.symm⟩
theorem Fun.bind1{K:cy}{x a:Str}{st:Stmt}{f:Addr}{fd:px}(F:Fun K x x st f fd)
  (h:∀(kV z pm:bn) (an:Option Addr) (q ct:bn) (u:bn),bindArgs (W.fnOf x x (gV st) (dM st) (zi st) .none kV z pm an q ct) ⟨[u],[]⟩=pure [(a,u)]):∀(s:bp) (u:bn),BindsTo s fd ⟨[u],[]⟩ [(a,u)]:=by
 obtain⟨oc,od,kV,z,pm,an,q,ct,ab,rfl,lk,aa⟩:=F.ex;exact fun s u=>.of_eq (h kV z pm an q ct u)
def rP(K:cy):V->Hp->VK->Prop:=fun x H Q=>∃(a:Addr) (ns:List Int),x=.ref a/\SqL K H a (ns.map V.int)/\ns.length<=63/\∀H',Q (.bl true) H'
theorem walk_law{l:W.OpenLaw}{k:Nat}{q:fg}{aa:List Str}{XP:(Str->Option bn)->Heap->Prop}{YP:ga->Heap->Prop}{d:DefRec}{K:Params->cy}(hn:l.most=some 63)(ab:d.params.defaults=[])
  (hr:Room k callerA) (hY:∀(w:ga) (h:Heap),YP w h->(K w.params).In h) (hT:∀(w:ga) (h:Heap),YP w h->TabsOk (K w.params) h)
  (F:∀(w:ga) (mg:Str->Option bn) (fa:Addr) (h:Heap),(K w.params).In h->h.Ns kr mg->mg d.name=some (.ref fa) ->
   ∃fd:px,(∀(s:bp) (u:bn),BindsTo s fd ⟨[u],[]⟩ [("script",u)])/\∀base:Heap,(K w.params).In base->base.Ns kr mg->FnOk l.prog w (K w.params) mg base CX0 k fa fd ["script"] (sp1 (rP (K w.params)))):
  W.WalkO q aa XP YP l.row.toRowW d [] (fun f vs=>PySem.call f vs):=
 L2.walk_of (n:=63) (k:=k) (x:="script") (CX:=fun _=>CX0) (sp:=fun w=>sp1 (rP (K w.params))) hn dz ab hr hY hT F (fun _ _ a ns hl _ hS=>⟨a,ns,rfl,hS,hl,fun _=>rfl⟩) fun _ _ _ _ _ z=>z
theorem Fun.ok1{P:fg}{w:ga}{K:cy}{mg:Str->Option bn}{base:Heap}{x a:Str}{st:Stmt}{f:Addr}{fd:px}{N:List Str}{k:Nat}{p:V->Hp->VK->Prop}(F:Fun K x x st f fd)(S:FnScope N [a] (zi st))(σ0:V->St)(hs:∀v,start N [v]=σ0 v)
  (hbody:∀(q:bn) (A:fv) (outer:List Env) (s:bp) (H:Hp) (v:V) (Q:VK) (E:XK),Room k (A.deeper (envOfC x (zi st) s.heap.objs.size f q))->p v H Q ->
   ∃t,PSs (eF CX0 P w K mg base N x (zi st) f q A outer s H E).nox (dM st) t/\t { nx:=fun _ H'=>Q .non H',rt:=Q } (σ0 v) H):FnOk P w K mg base CX0 (k+1) f fd [a] (sp1 p):=by
 refine F.ok S (fun vs H Q E h=>?_) fun q A outer s H vs Q E hr h=>?_
 ·obtain⟨x,rfl,_⟩:=v0 vs H Q E h;rfl
 ·obtain⟨x,rfl,h⟩:=v0 vs H Q E h;rw[hs];exact hbody q A outer s H x Q E hr h
end
section
mutual
theorem Has.reads{X:Cx}{zf:List (Addr×Obj)}{σ:St}{H:Hp}{s:bp}(I:Inv X zf σ H s):∀(d:bo) (v:V) (u:bn),Has H d v->d.canLay0=true->RelV v u->∃as,Reads s.heap u d as
 | .none,v,u,h,_,r=>by
  rw[iX.mp h]at r;cases (show u=qw from r);exact⟨_,.none⟩
 | .bool b,v,u,h,_,r=>by
  rw[fB.mp h]at r;cases (show u=ke b from r);exact⟨_,.bool b⟩
 | .int i,v,u,h,_,r=>by
  rw[eU.mp h]at r;obtain⟨t,q⟩:=(show ∃t,u=Value.int i t from r);cases q;exact⟨_,.int i t⟩
 | .str x,v,u,h,_,r=>by
  rw[eV.mp h]at r;obtain⟨t,q⟩:=(show ∃t,u=Value.str x t from r);cases q;exact⟨_,.str x t⟩
 | .list ds,v,u,h,c,r=>by
  obtain⟨a,vs,rfl,e,l⟩:=dA.mp h;cases (show u=ie a from r);obtain⟨_,z,n,rv,e1⟩:=(show ObjOk X.prog X.w H s.heap a (.lst vs)from I.hok a _ e);obtain⟨as,q⟩:=HasL.reads I ds vs z l (by simpa only[jx]using c) rv;exact⟨_,.list e1 rfl rfl (by simpa using q)⟩
 | .tuple ds,v,u,h,c,r=>by
  obtain⟨a,vs,rfl,e,l⟩:=dJ.mp h;cases (show u=ie a from r);obtain⟨_,z,rv,o,e1,e2,n,e3⟩:=(show ObjOk X.prog X.w H s.heap a (.tup vs)from I.hok a _ e);obtain⟨as,q⟩:=HasL.reads I ds vs z l (by simpa only[jx]using c) rv;exact⟨_,.tuple e1 e2 e3 (by simpa using q)⟩
 | .dict _,_,_,_,c,_=>by simp[jx]at c
theorem HasL.reads{X:Cx}{zf:List (Addr×Obj)}{σ:St}{H:Hp}{s:bp}(I:Inv X zf σ H s):∀(ds:List bo) (vs:List V) (us:List bn),HasL H ds vs->je ds=true->Vals vs us->∃as,ReadsAll s.heap us ds as
 | [],vs,us,h,_,r=>by
  rw[zv.mp h]at r;cases r;exact⟨_,.nil⟩
 |d::ds,vs,us,h,c,r=>by
  obtain⟨v,w',rfl,h1,h2⟩:=zp.mp h;have c':d.canLay0=true/\je ds=true:=by simpa[je]using c
  cases r with
  |cons r1 r2=>
   obtain⟨as,q1⟩:=Has.reads I d v _ h1 c'.1 r1;obtain⟨bs,q2⟩:=HasL.reads I ds w' _ h2 c'.2 r2;exact⟨_,.cons q1 q2⟩
end
def yC:R2:=fun x y H Q=>∃d e,Has H d x/\Has H e y/\cw d=true/\cw e=true/\Q (.bl (fr d e)) H
def wY:R2:=fun x y H Q=>∃d e,Has H d x/\Has H e y/\cw d=true/\cw e=true/\Q (.bl (!PyData.eqv d e)) H
section
variable {X:Cx}
theorem bL(hu:X.A.units+64<re):OpR X (io .Eq) yC:=by
 intro zf s σ H x y v u Q I rx ry h;obtain⟨d,e,hd,he,sd,se,q⟩:=h;obtain⟨as,q1⟩:=Has.reads I d x v hd (fx sd) rx;obtain⟨bs,q2⟩:=Has.reads I e y u he (fx se) ry;exact eq_dataH q1 q2 sd se hu ⟨.bl _,H,I,rfl,q⟩
theorem k7(hu:X.A.units+64<re):OpR X (io .NotEq) wY:=by
 intro zf s σ H x y v u Q I rx ry h;obtain⟨d,e,hd,he,sd,se,q⟩:=h;obtain⟨as,q1⟩:=Has.reads I d x v hd (fx sd) rx;obtain⟨bs,q2⟩:=Has.reads I e y u he (fx se) ry;exact ne_dataH q1 q2 sd se hu ⟨.bl _,H,I,rfl,q⟩
end
section
variable {prog:fg}{w:ga}{A:fv}{E:bn->bp->Prop}{s:bp}{l:Addr}
theorem IH{xs:Array (Int×Tok)}{Q:bn->bp->Prop}(hh:A.handled=none)(hl:s.heap.IsTuple l (pz xs))(z:0<xs.size)
  (h:∀v h' tk,(pz xs)[nz (fun i j=>decide (numAt xs i<numAt xs j)) (xs.size-1)]?=some v->(∀b o,s.heap.get? b=some o->h'.get? b=some o)->Q v { s with heap:=h',toks:=tk }):
  cj (model prog w) A (call (.builtin "min") [.ref l]) Q E s:=by
 have q:l<s.heap.objs.size:=by obtain⟨o,e,_⟩:=hl;exact fm e
 refine call_min_walk (wpAny_pyIter_tuple hl ?_);refine⟨_,[_,l],[_],_,_,_,_,rfl,Walks.tuple (A:=A.in1) hh _ l (gh q) (pz xs),⟨⟨_,df _ rfl,rfl,rfl⟩,hl.push _⟩,fun c hc=>?_,by simpa[pz]using z,CmpOf.ints_lt (numAt xs) (fun _ _=>intItems_at),fun v h' tk hP hk=>?_⟩
 ·show c<(s.heap.push _).objs.size;rw[size_push];rcases mem_cons.mp hc with rfl|hc
  ·exact Nat.lt_succ_self _
  ·rcases mem_cons.mp hc with rfl|hc
   ·exact lt_succ_of_lt q
   ·cases hc
 ·refine h v h' tk (by simpa[pz]using hP) fun b o e=>hk b o (fun hm=>?_) (bu _ e);rcases mem_cons.mp hm with e1|hm
  ·exact absurd (e1▸fm e) (ol _)
  ·cases hm
theorem F6{xs:Array (Int×Tok)}{Q:bn->bp->Prop}(hh:A.handled=none)(hl:s.heap.IsTuple l (pz xs))(z:0<xs.size)
  (h:∀v h' tk,(pz xs)[nz (fun i j=>decide (numAt xs i>numAt xs j)) (xs.size-1)]?=some v->(∀b o,s.heap.get? b=some o->h'.get? b=some o)->Q v { s with heap:=h',toks:=tk }):
  cj (model prog w) A (call (.builtin "max") [.ref l]) Q E s:=by
 have q:l<s.heap.objs.size:=by obtain⟨o,e,_⟩:=hl;exact fm e
 refine call_max_walk (wpAny_pyIter_tuple hl ?_);refine⟨_,[_,l],[_],_,_,_,_,rfl,Walks.tuple (A:=A.in1) hh _ l (gh q) (pz xs),⟨⟨_,df _ rfl,rfl,rfl⟩,hl.push _⟩,fun c hc=>?_,by simpa[pz]using z,CmpOf.ints_gt (numAt xs) (fun _ _=>intItems_at),fun v h' tk hP hk=>?_⟩
 ·show c<(s.heap.push _).objs.size;rw[size_push];rcases mem_cons.mp hc with rfl|hc
  ·exact Nat.lt_succ_self _
  ·rcases mem_cons.mp hc with rfl|hc
   ·exact lt_succ_of_lt q
   ·cases hc
 ·refine h v h' tk (by simpa[pz]using hP) fun b o e=>hk b o (fun hm=>?_) (bu _ e);rcases mem_cons.mp hm with e1|hm
  ·exact absurd (e1▸fm e) (ol _)
  ·cases hm
theorem kJ{vs:List bn}{ns:List Int}(hi:qp vs ns):∃xs:Array (Int×Tok),vs.toArray=pz xs/\ns=xs.toList.map (·.1):=by
 obtain⟨xs,e⟩:=hi.allInts.items;exact⟨xs,e,by rw[<- hi.numsOf,<- nums_intItems,<- e]⟩
end
def rO(K:cy):List V->Hp->VK->Prop:=fun xs H Q=>∃p ns,xs=[.ref p]/\(SqL K H p (ns.map V.int)\/SqT K H p (ns.map V.int))/\ns≠[]/\∀m,m∈ns->(∀a,a∈ns->m<=a)->Q (.int m) H
def wL(K:cy):List V->Hp->VK->Prop:=fun xs H Q=>∃p ns,xs=[.ref p]/\(SqL K H p (ns.map V.int)\/SqT K H p (ns.map V.int))/\ns≠[]/\∀m,m∈ns->(∀a,a∈ns->a<=m)->Q (.int m) H
section
variable {X:Cx}
theorem FT(hc:X.calm=true):CallR X (.builtin "min") (rO X.K):=by
 intro zf s σ H xs us Q I r h;obtain⟨p,ns,rfl,hq,ab,q⟩:=h;obtain⟨u,rfl,rx⟩:=vals1 r;cases (show u=ie p from rx);have done:∀(ys:Array (Int×Tok)) (v:bn) (h':Heap) (tk:Nat),ns=ys.toList.map (·.1)->0<ys.size->(pz ys)[nz (fun i j=>decide (numAt ys i<numAt ys j)) (ys.size-1)]?=some v ->
   (∀b o,s.heap.get? b=some o->h'.get? b=some o)->EP X zf σ Q v { s with heap:=h',toks:=tk }:=by
  intro ys v h' tk z aa hv hk;obtain⟨t,rfl⟩:=intItems_at hv;obtain⟨h1,h2⟩:=argBest_lt (numAt ys) (ys.size-1);refine⟨.int _,H,I.kept (t':=tk) hk,⟨t,rfl⟩,q _ ?_ fun a ha=>?_⟩
  ·rw[z,numAt_eq];exact getD_mem (by rw[ff,fe];omega)
  ·rw[z]at ha;obtain⟨j,hj,rfl⟩:=mem_getD ha;rw[ff,fe]at hj;rw[<- numAt_eq];exact h2 j yw
 rcases hq with hq|hq
 ·obtain⟨ac,rv,pl,_⟩:=I.list hq;obtain⟨ys,e,z⟩:=kJ (iB rv);have aa:0<ys.size:=by
   cases ys with
   |mk l=>cases l with
    |nil=>exact absurd z ab
    |cons _ _=>exact Nat.succ_pos _
  exact min_intList (I.ok.hd hc) (by rw[<- e];exact pl.isList) aa fun v h' tk hv hk=>done ys v h' tk z aa hv hk
 ·obtain⟨ac,rv,pl,_⟩:=I.tuple hq;obtain⟨ys,e,z⟩:=kJ (iB rv);have aa:0<ys.size:=by
   cases ys with
   |mk l=>cases l with
    |nil=>exact absurd z ab
    |cons _ _=>exact Nat.succ_pos _
  exact IH (I.ok.hd hc) (by rw[<- e];exact pl) aa fun v h' tk hv hk=>done ys v h' tk z aa hv hk
theorem GQ(hc:X.calm=true):CallR X (.builtin "max") (wL X.K):=by
 intro zf s σ H xs us Q I r h;obtain⟨p,ns,rfl,hq,ab,q⟩:=h;obtain⟨u,rfl,rx⟩:=vals1 r;cases (show u=ie p from rx);have done:∀(ys:Array (Int×Tok)) (v:bn) (h':Heap) (tk:Nat),ns=ys.toList.map (·.1)->0<ys.size->(pz ys)[nz (fun i j=>decide (numAt ys i>numAt ys j)) (ys.size-1)]?=some v ->
   (∀b o,s.heap.get? b=some o->h'.get? b=some o)->EP X zf σ Q v { s with heap:=h',toks:=tk }:=by
  intro ys v h' tk z aa hv hk;obtain⟨t,rfl⟩:=intItems_at hv;obtain⟨h1,h2⟩:=argBest_gt (numAt ys) (ys.size-1);refine⟨.int _,H,I.kept (t':=tk) hk,⟨t,rfl⟩,q _ ?_ fun a ha=>?_⟩
  ·rw[z,numAt_eq];exact getD_mem (by rw[ff,fe];omega)
  ·rw[z]at ha;obtain⟨j,hj,rfl⟩:=mem_getD ha;rw[ff,fe]at hj;rw[<- numAt_eq];exact h2 j yw
 rcases hq with hq|hq
 ·obtain⟨ac,rv,pl,_⟩:=I.list hq;obtain⟨ys,e,z⟩:=kJ (iB rv);have aa:0<ys.size:=by
   cases ys with
   |mk l=>cases l with
    |nil=>exact absurd z ab
    |cons _ _=>exact Nat.succ_pos _
  exact max_intList (I.ok.hd hc) (by rw[<- e];exact pl.isList) aa fun v h' tk hv hk=>done ys v h' tk z aa hv hk
 ·obtain⟨ac,rv,pl,_⟩:=I.tuple hq;obtain⟨ys,e,z⟩:=kJ (iB rv);have aa:0<ys.size:=by
   cases ys with
   |mk l=>cases l with
    |nil=>exact absurd z ab
    |cons _ _=>exact Nat.succ_pos _
  exact F6 (I.ok.hd hc) (by rw[<- e];exact pl) aa fun v h' tk hv hk=>done ys v h' tk z aa hv hk
end
section
variable {K:cy}{o:List Addr}{σ:St}{H0:Hp}{t t1 t2 t3 t4 t5:TE}{ta:TA}{tt tu:TT}{d d1 d2 d3 d4 d5:bo}{ds:List bo}{b c:Bool}
def iZ:bo->Bool
 | .none=>true
 |_=>false
end
def spD(a b:Int):bo:=.tuple [.int a,.int b]
end
section
theorem Gv{K:cy}{a:Addr}{ns:List Int}{N:Int}{j:Nat}{tb:TS}{D:Ends}{σ:St}{H:Hp}(P:St->Prop)(h0:σ[0]?=some (some (.ref a)))(hS:SqL K H a (ns.map V.int))(q:ns.length<=63)(hP:P σ)
  (turn:∀(n:Int) (σ:St) (H1 H2:Hp),P σ->Same H H1->Same H1 H2->tb { D with nx:=fun σ' H'=>Same H1 H'/\P σ',ct:=fun σ' H'=>Same H1 H'/\P σ',bk:=D.nx } (σ.set j (some (.int n))) H2)
  (done:∀(σ:St) (H1:Hp),P σ->Same H H1->D.nx σ H1):
  pG (sY K (tOp i0 (gA (eL (tC2 (rE K) (fI 0) (tC (.int 0))) jQ)) (tSl (oD K) (fI 0) (i5 (tC (.int 1))) (i5 (tC (.int N)))))) (g0 j) tb D σ H:=by
 refine⟨_,h0,a,ns,0,rfl,rfl,hS,by decide,fun n0=>⟨by show 1<=dw;decide,fun p hp=>?_⟩⟩;have s1:Same H (upd H p (.lst [.int n0])):=Same.laid hp;refine⟨_,h0,_,rfl,_,rfl,a,_,rfl,s1.seq hS,fun p2 z=>?_⟩;have s2:=s1.trans (Same.laid (o:=.lst (cK (ns.map V.int) (some 1) (some N))) z);have np:p≠p2:=zS cU z;have hz:(cK (ns.map V.int) (some 1) (some N)).length<=63:=iz (u9 _ _ _) (by rw[ff];exact q);refine⟨p,p2,_,_,rfl,rfl,by rw[aX np,cU],cU,ku (small1000 (by simp only[fu,length_nil];omega)),fun p3 aa=>?_⟩;have s3:=s2.trans (Same.laid (o:=.lst ([V.int n0]++cK (ns.map V.int) (some 1) (some N))) aa);refine⟨p3,rfl,⟨_,.of cU⟩,Fl (K:=K) (a:=p3) (xs:=[V.int n0]++cK (ns.map V.int) (some 1) (some N)) (fun i σ' H'=>Same _ H'/\P σ') ⟨Same.refl _,hP⟩ (fun i σ H4 _ ⟨s4,_⟩=>.of (s4 _ _ cU)) ?_ ?_⟩
 ·rintro i x σ' H4 hi ⟨s4,p4⟩;obtain⟨n,rfl⟩:∃n,x=.int n:=by
   rcases mem_append.mp (bv hi)with m|m
   ·exact⟨n0,mem_singleton.mp m⟩
   ·exact HL m
  exact turn n σ' _ H4 p4 s3 s4
 ·rintro σ' H4 ⟨s4,p4⟩;exact done σ' H4 p4 (s3.trans s4)
end
section
section
variable {prog:fg}{w:ga}{A:fv}{E:bn->bp->Prop}{R:Result->bp->Prop}{s:bp}
theorem JG{elt aa iter:Expr}{ifs:List Expr}{scope:Scope}{pos:Pos}{it acc:bn}{env:Env}(I:Nat->bp->Prop)
  (turn:∀n s,I n s->cj (model prog w) A (ox it) (fun r s₁=>match r with
   |none=>R (.ok .next) s₁
   |some v=>cj (model prog w) A (letOwnedTupleGo aa it v) (fun _ s₀=>cj (model prog w) A (assign aa env v) (fun _ s₂=>
     cj (model prog w) A (forIn ifs true fun c r=>if r=true then do let ok <- isTrue c env (eval c env);pure (qa ok)else pure (qa r)) (fun ok s₃=>
      if ok=true then cj (model prog w) A (eval elt env) (fun x s₄=>
       cj (model prog w) A (call (.builtin "list.append") [acc,x]) (fun _ s₅=>∃m,m<n/\I m s₅) (fun _ _=>False) s₄) (fun _ _=>False) s₃
      else ∃m,m<n/\I m s₃) (fun _ _=>False) s₂) (fun _ _=>False) s₀) (fun _ _=>False) s₁) (fun _ _=>False) s)
  (n:Nat) (h:I n s):
  pb (model prog w) A (.compLoop (.ListComp elt [⟨aa,iter,ifs,0⟩] scope pos) 0 it acc env) R s:=by
 have up:∀{α:Type}{t:Sem α}{Q:α->bp->Prop}{E':bn->bp->Prop}{s':bp},cj (model prog w) A t Q (fun _ _=>False) s'->cj (model prog w) A t Q E' s':=fun h=>nv h (fun _ _ q=>q) fun _ _ z=>z.elim;refine codeAny_loop rfl I (fun n s hI=>?_) n h;show cj _ A ((compTurn (.ListComp elt [⟨aa,iter,ifs,0⟩] scope pos) 0 it acc env).onRaise (fun x=>do noteFrame x env;theTreesLotGoes x)) _ _ s;refine wpAny_noted ?_;rw[compTurn_list];refine bj (wpAny_standAt (bj (thn (up (turn n s hI)) fun r s₁ h₁=>?_)));cases r with
 |none=>exact bq h₁
 |some v=>
  refine bj (thn (up h₁) fun _ s₀ h₀=>?_);refine bj (thn (up h₀) fun _ s₂ h₂=>bj (thn (up h₂) fun ok s₃ h₃=>?_));cases ok with
  |false=>exact bq ⟨rfl,h₃⟩
  |true=>
   exact bj (bj (thn (up h₃) fun x s₄ h₄=>bj (thn (up h₄) fun _ s₅ h₅=>bq (bq ⟨rfl,h₅⟩))))
end
def bZ(X:Cx)(scope:Scope)(cl:List (Str×Addr))(C:Addr)(s₃:bp)(H₃:Hp)(fp:List Addr)(N:List Str):Cx where
 prog:=X.prog
 w:=X.w
 K:=X.K
 mg:=X.mg
 base:=X.base
 A:=X.A
 N:=N
 s₀:=s₃
 H₀:=H₃
 env:=compEnvC scope cl C X.env
 outer:=X.stack
 stack:=X.stack
 ex:=fp
 fn:=fun _=>false
 calm:=X.calm
 pn:=[]
 xe:=fun _ _=>False
def PTs(X:Cx)(ifs:List Expr)(t:TT):Prop:=
 ∀(zf:List (Addr×Obj)) (s:bp) (σ:St) (H:Hp) (Q:Bool->Hp->Prop),Inv X zf σ H s->t σ H Q ->
  cj (model X.prog X.w) X.A (forIn ifs true fun c r=>if r=true then do let ok <- isTrue c X.env (eval c X.env);pure (qa ok)else pure (qa r)) (TP X zf σ Q) X.xe s
def Ca:TT:=fun _ H Q=>Q true H
theorem cT{X:Cx}:PTs X [] Ca:=fun _ _ _ H _ I h=>wpAny_tests_nil ⟨H,I,h⟩
theorem Ao{X:Cx}{c:Expr}{t:TT}(h:PT X c t):PTs X [c] t:=fun zf s σ H Q I hw=>wpAny_tests_one (h zf s σ H Q I hw)
def tau(caps:List (Option Nat))(σ:St):St:=caps.map fun o=>o.bind fun i=>(σ[i]?).join
def kG(caps:List (Option Nat))(wi:TI)(g:TG)(tt:TT)(te:TE):TE:=fun σ H Q=>wi σ H fun J H1=>∀D,H1 D=none->∃W:Nat->Nat->St->Hp->Prop,(∃m,W 0 m (tau caps σ) (upd H1 D (.lst []))) /\
 ∀i m τ H2,W i m τ H2->(J.stop i H2/\Q (.ref D) H2)\/(J.go i H2/\∀x H3,J.yld i H2 x H3->g x τ H3 fun τ4 H4=>tt τ4 H4 fun b H5=>
  if b=true then te τ4 H5 fun v H6=>∃xs,H6 D=some (.lst xs)/\xs.length<dw/\∃m',m'<m/\W (i+1) m' τ4 (upd H6 D (.lst (xs++[v])))else ∃m',m'<m/\W (i+1) m' τ4 H5)
structure CompOk(X:Cx)(scope:Scope)(cl:List (Str×Addr))(N:List Str)(caps:List (Option Nat)):Prop where
 clos:closureFor scope X.env=pure cl
 sub:∀x c,cl.lookup x=some c->X.env.cells.lookup x=some c
 kind:scope.kind=.function
 cell:∀y∈scope.names,y.2≠.cell
 names:∀y∈scope.names,y.2=.local->scope.names.lookup y.1=some .local
 has:∀x,((relabel scope X.env).names.lookup x=some .cell\/(relabel scope X.env).names.lookup x=some .free)->∃c,cl.lookup x=some c
 cap:∀(j i:Nat) (x:Str),caps[j]?=some (some i)->N[j]?=some x->X.N[i]?=some x/\Vis X.env.scope x/\¬ X.env.kindOf x=some .local/\∃c,cl.lookup x=some c/\((relabel scope X.env).names.lookup x=some .cell\/(relabel scope X.env).names.lookup x=some .free)
 len:caps.length=N.length
section
variable {X:Cx}{scope:Scope}{cl:List (Str×Addr)}{N:List Str}{caps:List (Option Nat)}{tg iter elt:Expr}{ifs:List Expr}{pos:Pos}{wi:TI}{g:TG}{tt:TT}{te:TE}
theorem Ds{zf:List (Addr×Obj)}{σ:St}{H:Hp}{s:bp}{fp:List Addr}{h₁:Heap}{t':Nat}(c:CompOk X scope cl N caps)(I:Inv X zf σ H s)(f:∀b∈fp,FpOk X zf H b)(fo:∀b∈fp,∃o,s.heap.get? b=some o)
  (hns:h₁.Ns s.heap.objs.size (fun _=>none)) (hk:∀b o,s.heap.get? b=some o->h₁.get? b=some o):
  Inv (bZ X scope cl s.heap.objs.size s H fp N) [] (tau caps σ) H { s with heap:=h₁,toks:=t' }:=by
 have lt:∀b∈fp,b<s.heap.objs.size:=fun b hb=>by obtain⟨o,e⟩:=fo b hb;exact fm e
 have ab:∀x k,cl.lookup x=some k->∃v,s.heap.IsCell k v:=fun x k e=>I.cell x k (c.sub x k e);refine⟨⟨I.ok.mod,c.kind,I.ok.glob,I.ok.blt,cx _,fun x y k h1 h2=>I.ok.inj x y k (c.sub x k h1) (c.sub y k h2),fun x hx=>c.has x hx,fun x k h _=>absurd (show false=true from h) dz,I.ok.hd,I.ok.frames,.inl rfl,
  fun b hb=>⟨gh (lt b hb),fun x k e=>(f b hb).2.2.2.2.1 x k (c.sub x k e)⟩,I.bs,iz I.ok.bsz I.sz,fun b o e hb=>?_,fun b hb z=>?_,I.stack,I.stkFree⟩,
  rfl,I.bare,Un.kept hk,⟨_,hns,fun j x v h1 h2 h3=>?_⟩,fun x k e=>?_,I.hok.fresh (cx _),fun x k e=>I.freeC x k (c.sub x k e),fun p hp=>absurd (show p∈([]:List (Addr×Obj))from hp) yv,I.hok.kept hk,?_⟩
 ·rcases(f b hb).2.2.2.1 with q|q
  ·exact I.ok.noex b o e q
  ·exact absurd (gq (fm e) (iz I.ok.bsz q)) (ol _)
 ·rcases mem_cons.mp (I.stkSub b z)with q|q
  ·exact(f b hb).2.1 q
  ·exact(f b hb).2.2.1 q
 ·have aa:(caps.map fun o=>o.bind fun i=>(σ[i]?).join)[j]?=some (some v):=h2;rw[gu]at aa;cases e:caps[j]? with
  |none=>rw[e]at aa;cases aa
  |some oi=>
   rw[e]at aa;have h2'':(oi.bind fun i=>(σ[i]?).join)=some v:=gk aa;cases oi with
   |none=>cases h2''
   |some i=>
    have h4:(σ[i]?).join=some v:=h2'';have h5:σ[i]?=some (some v):=by
     cases q:σ[i]? with
     |none=>rw[q]at h4;cases h4
     |some w'=>rw[q]at h4;exact congrArg some h4
    obtain⟨k1,k2,k3,cc,k4,k5⟩:=c.cap j i x e h1;obtain⟨m,hn,hl⟩:=I.loc;obtain⟨u,r,l⟩:=hl i x v k1 h5 k2;refine⟨u,r,.inr ⟨k5,cc,k4,?_⟩⟩;rcases l with ⟨q,_⟩|⟨_,c',hc',hcell⟩
    ·exact(k3 q).elim
    ·rw[c.sub x cc k4]at hc';cases hc';exact hcell.keeps hk
 ·obtain⟨v,q⟩:=ab x k e;exact⟨v,q.keeps hk⟩
 ·show (caps.map _).length=N.length;rw[ff];exact c.len
theorem Cp{zf:List (Addr×Obj)}{σ τ:St}{H H':Hp}{s s':bp}{h':Heap}{fp:List Addr}(I:Inv X zf σ H s)(f:∀b∈fp,FpOk X zf H b)(J:Inv (bZ X scope cl s.heap.objs.size s H fp N) [] τ H' s')(hs:kl s.heap.objs.size s'.heap h'):
  Inv X zf σ H' { s' with heap:=h' }:=by
 have hC:H' s.heap.objs.size=none:=J.free;have keep:∀b o,b≠s.heap.objs.size->s'.heap.get? b=some o->h'.get? b=some o:=fun b o nb e=>hs.extBut b o nb e;have u1:Un (frs X.stack) (s.heap.objs.size::fp) H H' s.heap s'.heap:=Un.mono J.base (fun b hb=>hb) (fun b hb=>fb _ hb);have u2:Un (frs X.stack) (s.heap.objs.size::fp) H' H' s'.heap h':=
  ⟨fun b o e _ _ hx=>keep b o (fun z=>hx (by rw[z];exact fi)) e,fun b o e _ _ hx=>⟨o.slots,keep b o (fun z=>hx (by rw[z];exact fi)) e⟩,fun _ _ _ n _=>n,fun b o e hx=>⟨o,keep b o (fun z=>hx (by rw[z];exact fi)) e⟩,fun _ _ q=>q,fun _ _ _ q=>q,fun _ _ q=>q⟩
 have hok:HOk X.prog X.w H' h':=fun a o e=>(J.hok a o e).stay (fun b u hb q=>keep b u (fun z=>by
  rcases hb with hb|hb
  ·rw[<- hb,z,hC]at e;cases e
  ·rw[z,hC]at hb;cases hb) q) (fun b q=>q) fun b xs q=>q
 refine I.call' (s':={ s' with heap:=h' }) (ch:=s.heap.objs.size::fp) J.os (u1.trans u2) hok J.bare fun b hb=>?_;rcases mem_cons.mp hb with rfl|hb
 ·refine⟨.inr I.sz,ne_of_gt I.lt,fun x k e z=>?_,fun p hp z=>?_⟩
  ·obtain⟨v,q⟩:=I.cell x k e;exact absurd q.lt (by rw[z];exact ol _)
  ·exact absurd (fm (I.pin p hp).1) (by rw[z];exact ol _)
 ·obtain⟨f0,f1,f2,f3,f4,f5⟩:=f b hb;exact⟨f3,f1,f4,f5⟩
theorem yM{zf:List (Addr×Obj)}{σ:St}{H2:Hp}{s2:bp}{it:Addr}{fp:List Addr}{tn:Nat->Heap->Prop}{J:It}{RR:bn->Addr->Result->bp->Prop}{E:bn->bp->Prop}(hc:X.calm=true)(c:CompOk X scope cl N caps)
  (I2:Inv X zf σ H2 s2) (T:Turn X.prog X.w X.K tg J fp it tn) (st2:tn 0 s2.heap) (f2:∀b∈fp,FpOk X zf H2 b)
  (hg:∀C s H fp,PG (bZ X scope cl C s H fp N) tg g) (ht:∀C s H fp,PTs (bZ X scope cl C s H fp N) ifs tt) (he:∀C s H fp,PE (bZ X scope cl C s H fp N) elt te)
  (Q:VK) (hq:∀D,H2 D=none->∃W:Nat->Nat->St->Hp->Prop,(∃m,W 0 m (tau caps σ) (upd H2 D (.lst []))) /\
   ∀i m τ H2,W i m τ H2->(J.stop i H2/\Q (.ref D) H2)\/(J.go i H2/\∀x H3,J.yld i H2 x H3->g x τ H3 fun τ4 H4=>tt τ4 H4 fun b H5=>
    if b=true then te τ4 H5 fun v H6=>∃xs,H6 D=some (.lst xs)/\xs.length<dw/\∃m',m'<m/\W (i+1) m' τ4 (upd H6 D (.lst (xs++[v])))else ∃m',m'<m/\W (i+1) m' τ4 H5))
  (hRR:∀(D C:Addr) (H':Hp) (s':bp) (m:Str->Option bn),s'.heap.Ns C m->FpOk X zf H' C->(∀h',kl C s'.heap h'->Inv X zf σ H' { s' with heap:=h' })->Q (.ref D) H'->RR (.ref D) C (.ok .next) s'):
  cj (model X.prog X.w) X.A (newList []) (fun acc s₃=>cj (model X.prog X.w) X.A (newFunctionEnv scope X.env.globals cl [] X.env.qual none .none (some X.env)) (fun ae s₄=>
   pb (model X.prog X.w) X.A (.compStart (.ListComp elt [⟨tg,iter,ifs,0⟩] scope pos) 0 (.ref it) acc { ae with scope:=relabel scope X.env }) (RR acc ae.locals) s₄) E s₃) E s2:=by
 have hD:H2 s2.heap.objs.size=none:=I2.hok.fresh (cx _);obtain⟨W,⟨m0,w0⟩,ag⟩:=hq s2.heap.objs.size hD;have I3:Inv X zf σ (upd H2 s2.heap.objs.size (.lst [])) { s2 with heap:=s2.heap.push { cls:=.type "list",data:=.seq ([]:List bn).toArray } }:=I2.laid (t':=s2.toks) (fun b u e=>bu _ e) (cx _) ⟨ji _,[],0,.nil,df _ rfl⟩;have fo:∀b∈fp,∃o,s2.heap.get? b=some o:=fun b hb=>by obtain⟨o,e,_⟩:=T.obj 0 _ st2 b hb;exact⟨o,e⟩
 have f3:∀b∈fp,FpOk X zf (upd H2 s2.heap.objs.size (.lst [])) b:=fun b hb=>by
  obtain⟨o,e⟩:=fo b hb;refine⟨?_,(f2 b hb).2⟩;rw[aX (gh (fm e))];exact(f2 b hb).1
 refine fw (wpAny_newFunctionEnv c.cell (by intro y hy;simp at hy) (fun h₁ ai ak=>?_) c.kind);have hk:∀b o,(s2.heap.push { cls:=.type "list",data:=.seq ([]:List bn).toArray }).get? b=some o->h₁.get? b=some o:=fun b o e=>ak.extBut b o (gh (fm e)) (bu _ e);have al:tn 0 h₁:=T.keep 0 _ _ st2 fun b _ o e=>hk b o (bu _ e);have I4:=Ds (t':=s2.toks+([]:List (Str×bn)).length) c I3 f3 (fun b hb=>by obtain⟨o,e⟩:=fo b hb;exact⟨o,bu _ e⟩) ai hk;have aa:∀{H':Hp},(∀b∈fp,H' b=none)->∀b∈fp,FpOk (bZ X scope cl (s2.heap.push { cls:=.type "list",data:=.seq ([]:List bn).toArray }).objs.size { s2 with heap:=s2.heap.push { cls:=.type "list",data:=.seq ([]:List bn).toArray } } (upd H2 s2.heap.objs.size (.lst [])) fp N) [] H' b:=fun hn b hb=>
  ⟨hn b hb,(I4.ok.exf b hb).1,I4.ok.exfs b hb,.inl hb,(I4.ok.exf b hb).2,fun p hp=>absurd (show p∈([]:List (Addr×Obj))from hp) yv⟩
 have ac:pb (model X.prog X.w) X.A (.compLoop (.ListComp elt [⟨tg,iter,ifs,0⟩] scope pos) 0 (.ref it) (.ref s2.heap.objs.size) (compEnvC scope cl (s2.heap.push { cls:=.type "list",data:=.seq ([]:List bn).toArray }).objs.size X.env))
   (RR (.ref s2.heap.objs.size) (s2.heap.push { cls:=.type "list",data:=.seq ([]:List bn).toArray }).objs.size) { s2 with heap:=h₁,toks:=s2.toks+([]:List (Str×bn)).length }:=by
  refine JG (fun n s'=>∃i τ H',Inv (bZ X scope cl (s2.heap.push { cls:=.type "list",data:=.seq ([]:List bn).toArray }).objs.size { s2 with heap:=s2.heap.push { cls:=.type "list",data:=.seq ([]:List bn).toArray } } (upd H2 s2.heap.objs.size (.lst [])) fp N) [] τ H' s'/\tn i s'.heap/\(∀b∈fp,H' b=none)/\W i n τ H') ?_ m0 ⟨0,_,_,I4,al,fun b hb=>(f3 b hb).1,w0⟩;rintro n s5 ⟨i,τ,H5,I5,ah,aj,w5⟩;rcases ag i n τ H5 w5 with ⟨stop,qn⟩|⟨go,step⟩
  ·refine thn (T.done (bZ X scope cl (s2.heap.push { cls:=.type "list",data:=.seq ([]:List bn).toArray }).objs.size { s2 with heap:=s2.heap.push { cls:=.type "list",data:=.seq ([]:List bn).toArray } } (upd H2 s2.heap.objs.size (.lst [])) fp N) rfl rfl rfl hc i [] s5 τ H5 (fun _ _=>False) I5 (aa aj) ah stop) fun r s6 ⟨hr,I6⟩=>?_;subst hr;obtain⟨m,hn,_⟩:=id I6.loc;exact hRR _ _ H5 s6 m hn (I3.fpOk (cx _) I6.free) (fun h' hs=>Cp I3 f3 I6 hs) qn
  ·refine thn (T.item (bZ X scope cl (s2.heap.push { cls:=.type "list",data:=.seq ([]:List bn).toArray }).objs.size { s2 with heap:=s2.heap.push { cls:=.type "list",data:=.seq ([]:List bn).toArray } } (upd H2 s2.heap.objs.size (.lst [])) fp N) rfl rfl rfl hc i [] s5 τ H5 (fun _ _=>False) I5 (aa aj) ah go) fun r s6 ⟨u,hr,h6⟩=>?_;subst hr;refine thn h6 fun _ s7 ⟨x,H7,I7,r7,y7,af,am⟩=>?_;have I7':=I7.pinned (aa am) (T.obj _ _ af);refine thn (hg _ _ _ _ _ s7 τ H7 x u _ I7' r7 (step x H7 y7)) fun _ s8 ⟨τ8,H8,I8,q8⟩=>?_;refine thn (ht _ _ _ _ _ s8 τ8 H8 _ I8 q8) fun ok s9 ⟨H9,I9,q9⟩=>?_;have ab:∀{H':Hp}{s':bp}{m:Nat},Inv (bZ X scope cl (s2.heap.push { cls:=.type "list",data:=.seq ([]:List bn).toArray }).objs.size { s2 with heap:=s2.heap.push { cls:=.type "list",data:=.seq ([]:List bn).toArray } } (upd H2 s2.heap.objs.size (.lst [])) fp N) ([]++kM fp s7.heap) τ8 H' s'->(m<n/\W (i+1) m τ8 H') ->
     ∃m,m<n/\∃i τ H',Inv (bZ X scope cl (s2.heap.push { cls:=.type "list",data:=.seq ([]:List bn).toArray }).objs.size { s2 with heap:=s2.heap.push { cls:=.type "list",data:=.seq ([]:List bn).toArray } } (upd H2 s2.heap.objs.size (.lst [])) fp N) [] τ H' s'/\tn i s'.heap/\(∀b∈fp,H' b=none)/\W i m τ H':=fun {H' s' m} I' q=>by
    refine⟨m,q.1,i+1,τ8,H',I'.unpinned,T.keep _ _ _ af fun b hb o e=>(I'.pin (b,o) (ge _ (ge _ (qW hb e)))).1,fun b hb=>?_,q.2⟩;obtain⟨o,e,d⟩:=T.obj _ _ af b hb;exact(I'.pin (b,o) (ge _ (ge _ (qW hb e)))).2.1
   cases ok with
   |false=>
    rw[cg ja]at q9 ⊢;obtain⟨m',hm,w9⟩:=q9;exact ab I9 ⟨hm,w9⟩
   |true=>
    rw[ci rfl]at q9 ⊢;refine thn (he _ _ _ _ _ s9 τ8 H9 _ I9 q9) fun v ao ⟨z,H10,I10,an,xs,hx,hz,m',hm,aq⟩=>?_;refine thn (iQ _ ao τ8 H10 (.ref s2.heap.objs.size) [z] (.ref s2.heap.objs.size) [v] (fun _ H11=>W (i+1) m' τ8 H11) I10 rfl (.cons an .nil) ⟨_,xs,z,rfl,rfl,hx,hz,aq⟩) fun _ ar ⟨_,H11,I11,_,ap⟩=>?_;exact ab I11 ⟨hm,ap⟩
 exact codeAny_compStart_list ac (T.self _ 0 _ _ _ al ac)
theorem eH(hx:∀e s,X.xe e s->False)(hc:X.calm=true)(c:CompOk X scope cl N caps)(hi:PI X tg iter wi)(hg:∀C s H fp,PG (bZ X scope cl C s H fp N) tg g)(ht:∀C s H fp,PTs (bZ X scope cl C s H fp N) ifs tt)(he:∀C s H fp,PE (bZ X scope cl C s H fp N) elt te)
  (hs:∀x,foldedSetIterable iter X.env x=pure x:=by intro _;rfl):PE X (.ListComp elt [⟨tg,iter,ifs,0⟩] scope pos) (kG caps wi g tt te):=by
 intro zf s σ H Q I h;rw[eval_ListComp];refine wpAny_comprehension_free (use:=none) rfl hs c.clos c.kind c.names (thn (hi zf s σ H _ I h) fun v s1 h1=>thn h1 fun aa s2 h2=>?_);obtain⟨it,fp,tn,J,H2,e,I2,T,z,f2,q2⟩:=h2;subst e;exact yM (RR:=fun acc C=>compPost (model X.prog X.w) X.A X.xe none (EP X zf σ Q) acc C) hc c I2 T z f2 hg ht he Q q2 fun D C H' s' m hn _ hb q=>⟨m,hn,fun h' hs=>⟨.ref D,H',hb h' hs,rfl,q⟩⟩
theorem nG{i:Nat}{y:Str}{py aa:Pos}(hx:∀e s,X.xe e s->False)(hc:X.calm=true)(c:CompOk X scope cl N caps)(hN:X.N.Nodup)(ab:X.N[i]?=some y)(hl:X.env.scope.names.lookup y=some .local)(hi:PI X tg iter wi)(hg:∀C s H fp,PG (bZ X scope cl C s H fp N) tg g)
  (ht:∀C s H fp,PTs (bZ X scope cl C s H fp N) ifs tt) (he:∀C s H fp,PE (bZ X scope cl C s H fp N) elt te)
  (hsw:swapsWith (.ListComp elt [⟨tg,iter,ifs,0⟩] scope pos) (some (.Name y py)) aa.line X.env=pure true:=by rfl)
  (hs:∀x,foldedSetIterable iter X.env x=pure x:=by intro _;rfl):PS X (.Assign [.Name y py] (.ListComp elt [⟨tg,iter,ifs,0⟩] scope pos) aa) (m9 (kG caps wi g tt te) (g0 i)):=by
 intro zf s σ H D I h;rw[exec_Assign_Name_used _ _ _ _ hsw];refine bj (wpAny_standAt (bj ?_));show cj _ X.A (do let _ <- comprehension (.ListComp elt [⟨tg,iter,ifs,0⟩] scope pos) scope X.env _ (newList []) false (eval iter X.env) (some (assign (.Name y py) X.env))) _ _ s;refine bj (nv (wpAny_comprehension_free (use:=some (assign (.Name y py) X.env)) (Q:=fun _ s'=>SP X zf D .next s') rfl hs c.clos c.kind c.names (thn (hi zf s σ H _ I h) fun v s1 h1=>thn h1 fun ae s2 h2=>?_)) (fun _ s' hq=>bq (bq hq)) fun _ _ e=>e);obtain⟨it,fp,tn,J,H2,e,I2,T,ac,f2,q2⟩:=h2;subst e;refine yM (RR:=fun acc C=>compPost (model X.prog X.w) X.A X.xe (some (assign (.Name y py) X.env)) (fun _ s'=>SP X zf D .next s') acc C) hc c I2 T ac f2 hg ht he (fun v H'=>D.nx (σ.set i (some v)) H') q2 fun Da C H' s' m hn f hb q=>?_;obtain⟨o,es,ep,ho,hd,r⟩:=hn;have I':Inv X zf σ H' s':=hb s'.heap (Heap.SameBut.refl _ _);have I'':Inv X (zf++[(C,o)]) σ H' s':=I'.pins_of fun p hp=>(mem_append.mp hp).elim (fun z=>I'.pin p (ge _ z)) fun z=>by
  cases mem_singleton.mp z;exact⟨ho,f.1,f.2.1,f.2.2.1,fun v e=>by rw[hd]at e;cases e⟩
 refine wpAny_assign_Name (vB I'' hN ab (.inl hl) (show RelV (V.ref Da) (ie Da)from rfl) (fun s2 J2=>?_) (.inr hl));refine⟨m,⟨o,es,ep,(J2.pin (C,o) (ge _ (ge _ (mem_singleton.mpr rfl)))).1,hd,r⟩,fun h' hs=>?_⟩;exact⟨_,H',J2.unpinned.turned (t':=s2.toks) (fun b ob nb e=>hs.extBut b ob nb e) f.1 f.2.1 f.2.2.2.1 f.2.2.2.2.1 f.2.2.2.2.2,q⟩
end
def dZ(env:Env):List (Str×nn)->List (Str×Addr)->List (Str×Addr)
 | [],acc=>acc
 | (n,k)::r,acc=>dZ env r (if k==.free then (n,(env.cells.lookup n).getD 0)::acc else acc)
theorem yP{env:Env}{x:Str}{c:Addr}:∀{names:List (Str×nn)}{acc:List (Str×Addr)},(x,c)∈dZ env names acc->(x,c)∈acc\/((x,NameKind.free)∈names/\c=(env.cells.lookup x).getD 0)
 | [],_,h=>.inl h
 | (n,k)::r,acc,h=>by
  rcases yP (names:=r) h with h|⟨h,e⟩
  ·by_cases hk:k==.free
   ·rw[ci hk]at h;rcases mem_cons.mp h with h|h
    ·cases h;have:k=.free:=by simpa using hk
     subst this;exact .inr ⟨fi,rfl⟩
    ·exact .inl h
   ·rw[cg hk]at h;exact .inl h
  ·exact .inr ⟨fb _ h,e⟩
theorem AD{env:Env}{p:Str×Addr}:∀{names:List (Str×nn)}{acc:List (Str×Addr)},p∈acc->p∈dZ env names acc
 | [],_,h=>h
 | (n,k)::r,acc,h=>AD (names:=r) (by split<;>first|exact fb _ h|exact h)
theorem uG{env:Env}{x:Str}:∀{names:List (Str×nn)}{acc:List (Str×Addr)},(x,NameKind.free)∈names->∃c,(x,c)∈dZ env names acc
 | (n,k)::r,acc,h=>by
  rcases mem_cons.mp h with h|h
  ·cases h;exact⟨_,AD (names:=r) (by rw[ci dz];exact fi)⟩
  ·exact uG (names:=r) h
theorem vC{β:Type}{x:Str}{c:β}:∀{l:List (Str×β)},(x,c)∈l->∃c',l.lookup x=some c'
 | (n,v)::r,h=>by
  cases e:x==n with
  |true=>exact⟨v,by rw[lu,e]⟩
  |false=>
   rcases mem_cons.mp h with h|h
   ·cases h;simp at e
   ·obtain⟨c',q⟩:=vC (l:=r) h;exact⟨c',by rw[lu,e];exact q⟩
theorem Dc{env:Env}{scope:Scope}(h:∀y∈scope.names,y.2=.free->(env.cells.lookup y.1).isSome=true):closureFor scope env=pure (dZ env scope.names []):=by
 have go:∀(names:List (Str×nn)) (acc:List (Str×Addr)),(∀y∈names,y.2=.free->(env.cells.lookup y.1).isSome=true) ->
   (forIn names acc (fun(x:Str×nn) (cs:List (Str×Addr))=>(if x.2==.free then (do let c <- cellOf env x.1;pure (qa ((x.1,c)::cs)))else pure (qa cs):Sem (ForInStep (List (Str×Addr))))))=(pure (dZ env names acc):Sem (List (Str×Addr))):=by
  intro names;induction names with
  |nil=>intro acc _;rfl
  |cons y r ih=>
   intro acc hy;obtain⟨n,k⟩:=y;rw[List.forIn_cons];by_cases hk:k==.free
   ·have hs:=hy (n,k) fi (by simpa using hk);obtain⟨c,hc⟩:=isSome_iff_exists.mp hs;have z:env.cells.lookup n=some c:=hc;simp only[hk,if_true,cellOf,z,pure_bind,dZ,Option.getD_some];exact ih _ fun y q=>hy y (fb _ q)
   ·simp only[hk,dh,if_false,pure_bind,dZ];exact ih _ fun y q=>hy y (fb _ q)
 have g:=go scope.names [] h;exact(bind_pure _).trans g
def bX(DN:List Str)(dsc sc:List (Str×nn))(N:List Str)(caps:List (Option Nat)):Bool:=
 (caps.length==N.length)&&sc.all (fun y=>y.2 != .cell&&(y.2 != .free||dsc.lookup y.1==some .cell)&&(y.2 != .local||sc.lookup y.1==some .local)) &&
 (caps.zip N).all fun p=>match p.1 with|none=>true|some i=>DN[i]?==some p.2&&dsc.lookup p.2==some .cell&&sc.lookup p.2==some .free
theorem sT{dsc:List (Str×nn)}{env:Env}{x:Str}{k:nn}:∀{names:List (Str×nn)},(names.map fun(n,k)=>if (k==.free&&env.scope.kind==.function&&env.kindOf n==some .cell)then (n,.cell)else (n,k)).lookup x=some k ->
  ∃k',names.lookup x=some k'/\(k'=k\/(k'=.free/\k=.cell))
 | [],h=>by simp at h
 | (n,k0)::r,h=>by
  cases e:x==n with
  |true=>
   refine⟨k0,by rw[lu,e],?_⟩;rw[jc]at h;dsimp only at h;split at h
   ·rename_i hc;rw[lu,e]at h;have:k0=.free:=by simp at hc;exact hc.1.1
    cases h;exact .inr ⟨this,rfl⟩
   ·rw[lu,e]at h;cases h;exact .inl rfl
  |false=>
   rw[jc]at h;dsimp only at h;have h':(r.map fun(n,k)=>if (k==NameKind.free&&env.scope.kind==.function&&env.kindOf n==some .cell)then (n,NameKind.cell)else (n,k)).lookup x=some k:=by
    split at h<;>(rw[lu,e]at h;exact h)
   obtain⟨k',q,z⟩:=sT (dsc:=dsc) h';exact⟨k',by rw[lu,e];exact q,z⟩
theorem vJ{env:Env}{x:Str}(h1:env.scope.kind=.function)(h2:env.kindOf x=some .cell):∀{names:List (Str×nn)},names.lookup x=some .free ->
  (names.map fun(n,k)=>if (k==.free&&env.scope.kind==.function&&env.kindOf n==some .cell)then (n,.cell)else (n,k)).lookup x=some .cell
 | [],h=>by simp at h
 | (n,k0)::r,h=>by
  rw[jc];cases e:x==n with
  |true=>
   rw[lu,e]at h;cases h;have en:x=n:=by simpa using e
   subst en;dsimp only;rw[ci (by rw[h1,h2];decide),lu,e]
  |false=>
   rw[lu,e]at h;have ih:=vJ h1 h2 (names:=r) h;dsimp only;split<;>(rw[lu,e];exact ih)
theorem zX{X:Cx}{dsc:Scope}{L:Nat}{scope:Scope}{N:List Str}{caps:List (Option Nat)}(hd:X.env.scope=dsc)(hc:X.env.cells=cellsFrom L dsc.names [])(af:dsc.kind=.function)(hk:scope.kind=.function)(h:bX X.N dsc.names scope.names N caps=true):
  CompOk X scope (dZ X.env scope.names []) N caps:=by
 subst hd;simp only[bX,jr,oq,beq_iff_eq]at h;obtain⟨⟨hl,hs⟩,hz⟩:=h;have ac:∀y∈scope.names,y.2=.free->X.env.scope.names.lookup y.1=some .cell:=fun y hy e=>by
  have q:=(hs y hy).1.2;rw[e]at q;simpa using q
 have aa:∀y∈scope.names,y.2≠.cell:=fun y hy e=>by
  have q:=(hs y hy).1.1;rw[e]at q;simp at q
 have ab:∀x,X.env.scope.names.lookup x=some .cell->(X.env.cells.lookup x).isSome=true:=fun x e=>by
  rw[hc];exact W.cellsFrom_some _ _ _ (.inl e)
 have sub:∀x c,(dZ X.env scope.names []).lookup x=some c->X.env.cells.lookup x=some c:=fun x c e=>by
  rcases yP (PySem.mem_of_lookup e)with q|⟨q,ec⟩
  ·cases q
  ·obtain⟨c',ae⟩:=isSome_iff_exists.mp (ab x (ac _ q rfl));rw[ec,ae];rfl
 refine⟨Dc fun y hy e=>ab y.1 (ac y hy e),sub,hk,aa,fun y hy e=>?_,fun x hx=>?_,fun j i x h1 h2=>?_,hl⟩
 ·have q:=(hs y hy).2;rw[e]at q;simpa using q
 ·have fin:(x,NameKind.free)∈scope.names->∃c,(dZ X.env scope.names []).lookup x=some c:=fun m=>by
   obtain⟨c,hm⟩:=uG (env:=X.env) (acc:=[]) m;exact vC hm
  rcases hx with hx|hx
  ·obtain⟨k',q,z⟩:=sT (dsc:=[]) hx;rcases z with rfl|⟨rfl,_⟩
   ·exact absurd rfl (aa _ (PySem.mem_of_lookup q))
   ·exact fin (PySem.mem_of_lookup q)
  ·obtain⟨k',q,z⟩:=sT (dsc:=[]) hx;rcases z with rfl|⟨_,z⟩
   ·exact fin (PySem.mem_of_lookup q)
   ·cases z
 ·have hm:(some i,x)∈caps.zip N:=by
   have:(caps.zip N)[j]?=some (some i,x):=by rw[List.getElem?_zip_eq_some];exact⟨h1,h2⟩
   exact bv this
  have q:=hz _ hm;simp only[jr,beq_iff_eq]at q;obtain⟨⟨q1,q2⟩,q3⟩:=q;obtain⟨c,ag⟩:=uG (env:=X.env) (acc:=[]) (PySem.mem_of_lookup q3);obtain⟨c',ae⟩:=vC ag;refine⟨q1,.inr (.inl q2),fun z=>?_,c',ae,.inl (vJ af q2 q3)⟩;have z':X.env.scope.names.lookup x=some .local:=z;rw[q2]at z';cases z'
end
section
section
variable {X:Cx}
def C5:R2:=fun x y H Q=>∃z n,x=.str z/\y=.int n/\z.length<=1000/\n<=1000/\-1000<=n/\Q (.str (PySem.Txt.mul z n)) H
theorem Ho{z:Str}{n:Int}(h1:z.length<=1000)(h2:n<=1000)(h3:-1000<=n):PySem.MulOk z n:=by
 refine⟨by simp;omega,fun a _ b=>?_,fun a _=>?_⟩
 ·have e:(1000:Int)<=(2 ^ 63-1)/n:=by
   rw[Int.le_ediv_iff_mul_le yw];have:=Int.mul_le_mul_of_nonneg_left h2 (show (0:Int)<=1000 by decide);omega
  omega
 ·have e:z.length*n.toNat<=1000*1000:=Nat.mul_le_mul h1 yw;unfold Builtin.Str.tooLong;simp only[decide_eq_false_iff_not,Nat.not_lt];exact iz e dz
theorem GS:OpR X (kw .Mult) C5:=by
 intro zf s σ H x y v u Q I rx ry h;obtain⟨z,n,rfl,rfl,h1,h2,h3,q⟩:=h;obtain⟨t,rfl⟩:=rx;obtain⟨t',rfl⟩:=ry;exact PySem.SB.mul (Ho h1 h2 h3) fun _ k=>⟨.str _,H,I.tok _,⟨_,rfl⟩,q⟩
def AV:V->Option Int->Option Int->Hp->VK->Prop:=fun x lo hi H Q=>∃z,x=.str z/\z.length<=dw/\Q (.str (PySem.Txt.slice z lo hi)) H
theorem E5:SlR X AV:=by
 intro zf s σ H x v vl vu lo hi sl Q I rx hs pl pu h;obtain⟨z,rfl,hz,q⟩:=h;obtain⟨t,rfl⟩:=rx;refine⟨"str",_,F.slot_str_getitem.lookup,typeIs_str _ _ _,?_⟩;have fin:∀(a b:Option (Int×Tok)),a.map (·.1)=lo->b.map (·.1)=hi->s.heap.IsSlice sl a b none->cj (model X.prog X.w) X.A (qq (.str z t) (.ref sl)) (EP X zf σ Q) X.xe s:=fun a b e1 e2 aa=>by
  subst e1 e2;exact wpAny_getItem_str_slice (l:=a) (u:=b) (st:=none) aa rfl (post_val_or_str ⟨iz (PySem.Txt.slice_le z _ _) hz,fun _ k=>⟨.str _,H,I.tok _,⟨_,rfl⟩,q⟩⟩)
 cases pl with
 |none=>
  cases pu with
  |none=>exact fin none none rfl rfl hs
  |int j tj=>exact fin none (some (j,tj)) rfl rfl hs
 |int i ti=>
  cases pu with
  |none=>exact fin (some (i,ti)) none rfl rfl hs
  |int j tj=>exact fin (some (i,ti)) (some (j,tj)) rfl rfl hs
theorem wD:∀{zs:List Str}{us:List bn},Vals (zs.map V.str) us->StrsAre us zs
 | [],_,.nil=>.nil
 |z::zs,_,.cons r t=>by
  obtain⟨tk,rfl⟩:=r;exact .cons z tk (wD t)
def wU(K:cy):V->List V->Hp->VK->Prop:=fun x vs H Q=>∃z a zs,x=.str z/\vs=[.ref a]/\SqL K H a (zs.map V.str)/\z.length<=16/\zs.length<=1000/\(∀y∈zs,y.length<=1000)/\Q (.str (PySem.Txt.join z zs)) H
theorem At{zs:List Str}(h:∀y∈zs,y.length<=1000):(zs.map (·.length)).sum<=zs.length*1000:=by
 induction zs with
 |nil=>simp
 |cons z zs ih=>
  have h1:=h z fi;have h2:=ih fun y hy=>h y (fb _ hy);simp only[jc,sum_cons,fu,add_mul,Nat.one_mul];omega
theorem Hk:MtR X "str.join" (wU X.K):=by
 intro zf s σ H x vs v us Q I rx rv h;obtain⟨z,a,zs,rfl,rfl,hq,hz,hn,hl,q⟩:=h;obtain⟨t,rfl⟩:=rx;obtain⟨u,rfl,r1⟩:=rv.one;cases r1;obtain⟨ab,r,pl,aa⟩:=I.list hq;have hs:=At hl;refine join_listW pl.isList (by simpa using wD r) hz yw fun _ k=>⟨.str _,H,I.tok _,⟨_,rfl⟩,q⟩
end
section
variable {K:cy}{o:List Addr}{σ:St}{H0:Hp}{t:TE}{ta:TA}{ds:List bo}
def eW(lo:Int)(n:Nat):List bo:=(gc n).map fun k:Nat=>.int (lo+k)
theorem g8{lo:Int}{n:Nat}:(eW lo n).length=n:=by simp[eW]
theorem oP{lo:Int}{n i:Nat}{d:bo}(h:(eW lo n)[i]?=some d):i<n/\d=.int (lo+i):=by
 have hi:i<n:=by
  have:=List.getElem?_eq_some_iff.mp h;obtain⟨hl,_⟩:=this
  rwa [g8]at hl
 refine⟨hi,?_⟩;simp only[eW,gu,List.getElem?_range hi,map_some,Option.some.injEq]at h;exact h.symm
end
theorem FB{y:Str}{zs:List Str}(hy:y.length<=16)(hz:∀z∈zs,z.length<=1000):(PySem.Txt.join y zs).length<=zs.length*1016:=by
 show (Builtin.Str.glued y zs).length<=_;rw[StrLaws.glued_eq_join];cases zs with
 |nil=>exact ji _
 |cons a r=>
  rw[len_join_cons];have h1:=At hz;have h2:r.length*y.length<=r.length*16:=Nat.mul_le_mul_left _ hy;simp only[fu]at h1 ⊢;omega
def aQ{α:Type}(xs:List α)(lo hi:Option Int):List α:=(xs.drop (HT.sIx xs.length 0 lo)).take (HT.sIx xs.length xs.length hi-HT.sIx xs.length 0 lo)
theorem pN{α:Type}{xs:List α}{lo hi:Option Int}{x:α}(h:x∈aQ xs lo hi):x∈xs:=qr (ng h)
theorem uP{α:Type}(xs:List α)(lo hi:Option Int):(aQ xs lo hi).length<=xs.length:=by
 unfold aQ;rw[jw,length_drop];omega
theorem HasL.drop{H:Hp}:∀{ds:List bo}{vs:List V} (n:Nat),HasL H ds vs->HasL H (ds.drop n) (vs.drop n)
 |ds,vs,0,h=>h
 | [],vs,n+1,h=>by rw[zv.mp h];exact zv.mpr rfl
 |d::ds,vs,n+1,h=>by
  obtain⟨v,r,rfl,_,l⟩:=zp.mp h;exact HasL.drop n l
theorem HasL.take{H:Hp}:∀{ds:List bo}{vs:List V} (n:Nat),HasL H ds vs->HasL H (ds.take n) (vs.take n)
 |ds,vs,0,h=>zv.mpr rfl
 | [],vs,n+1,h=>by rw[zv.mp h];exact zv.mpr rfl
 |d::ds,vs,n+1,h=>by
  obtain⟨v,r,rfl,q,l⟩:=zp.mp h;exact zp.mpr ⟨v,_,rfl,q,HasL.take n l⟩
theorem HasL.cut{H:Hp}{ds:List bo}{vs:List V}(lo hi:Option Int)(h:HasL H ds vs):HasL H (aQ ds lo hi) (cK vs lo hi):=by
 unfold aQ cK;rw[h.length];exact(h.drop _).take _
theorem HasL.rev{H:Hp}:∀{ds:List bo}{vs:List V},HasL H ds vs->HasL H ds.reverse vs.reverse
 | [],vs,h=>by rw[zv.mp h];exact zv.mpr rfl
 |d::ds,vs,h=>by
  obtain⟨v,r,rfl,q,l⟩:=zp.mp h;rw[reverse_cons,reverse_cons];exact(HasL.rev l).append (zp.mpr ⟨v,[],rfl,q,zv.mpr rfl⟩)
end
section
theorem AX:∀{l:List Addr}{H:Hp}{b:Addr}{u:HO},vw l H b=some u↔b∉l/\H b=some u
 | [],H,b,u=>by simp[vw]
 |a::r,H,b,u=>by
  show hid a (vw r H) b=some u↔_;by_cases h:b=a
  ·subst h;simp[IN]
  ·rw[G4 h,AX];simp[h]
def vx(h o:List Addr)(H:Hp):Hp:=vw (h++o) H
theorem aV{h o:List Addr}{H:Hp}{b:Addr}{u:HO}:vx h o H b=some u↔b∉h/\b∉o/\H b=some u:=by
 unfold vx;rw[AX];simp[and_assoc]
theorem bR{h o:List Addr}{H:Hp}:Same (vx h o H) H:=fun b u e=>(aV.mp e).2.2
theorem tD{h o:List Addr}{H H':Hp}(s:Same H H'):Same (vx h o H) (vx h o H'):=fun b u e=>by
 obtain⟨h1,h2,h3⟩:=aV.mp e;exact aV.mpr ⟨h1,h2,s b u h3⟩
structure Ex(o:List Addr)(H:Hp)(o':List Addr)(H':Hp):Prop where
 pre:∃r,o'=o++r
 kp:∀b u,b∉o->H b=some u->b∉o'/\H' b=some u
section
variable {h o o' o'':List Addr}{H H' H'':Hp}{S:List (List bo)}{p a:Addr}
theorem Ex.refl:Ex o H o H:=⟨⟨[],yv⟩,fun _ _ a b=>⟨a,b⟩⟩
theorem Ex.trans(a:Ex o H o' H')(b:Ex o' H' o'' H''):Ex o H o'' H'':=by
 obtain⟨⟨r,e⟩,ka⟩:=a;obtain⟨⟨t,e'⟩,kb⟩:=b;refine⟨⟨r++t,by rw[e',e,kc]⟩,fun b u h1 h2=>?_⟩;obtain⟨h3,h4⟩:=ka b u h1 h2;exact kb b u h3 h4
theorem Ex.vx(e:Ex o H o' H'):Same (L2.vx h o H) (L2.vx h o' H'):=fun b u q=>by
 obtain⟨h1,h2,h3⟩:=aV.mp q;obtain⟨h4,h5⟩:=e.kp b u h2 h3;exact aV.mpr ⟨h1,h4,h5⟩
structure ExH(h o:List Addr)(H:Hp)(o':List Addr)(H':Hp):Prop where
 pre:∃r,o'=o++r
 kp:∀b u,b∉h->b∉o->H b=some u->b∉o'/\H' b=some u
theorem Ex.hid(e:Ex o H o' H'):ExH h o H o' H':=⟨e.pre,fun b u _=>e.kp b u⟩
theorem ExH.vx(e:ExH h o H o' H'):Same (L2.vx h o H) (L2.vx h o' H'):=fun b u q=>by
 obtain⟨h1,h2,h3⟩:=aV.mp q;obtain⟨h4,h5⟩:=e.kp b u h1 h2 h3;exact aV.mpr ⟨h1,h4,h5⟩
theorem Ex.of_same(s:Same H H'):Ex o H o H':=⟨⟨[],yv⟩,fun b u h e=>⟨h,s b u e⟩⟩
theorem fQ{α:Type}{l t:List α}{k:Nat}{a:α}(q:l[k]?=some a):(l++t)[k]?=some a:=by
 obtain⟨hk,_⟩:=List.getElem?_eq_some_iff.mp q;rw[fh hk];exact q
def exO(a C:Addr)(d:Option Addr):HO:=.ext fun h=>∃o,h.get? a=some o/\o.cls=.ref C/\o.dict=d/\∃vs,o.data=.fields vs
def xw(dx:Addr)(fs:List (Str×V)):HO:=.ext fun h=>∃mA,h.Ns1 dx mA/\(∀f,RelO (fs.lookup f) (mA f))/\PySem.Within mA (fs.map (·.1))
def HasE(H:Hp)(C:Addr)(fs:List (Str×bo))(v:V):Prop:=∃a d,v=.ref a/\H a=some (exO a C d)/\∀f dt,fs.lookup f=some dt->∃dx vs u,d=some dx/\H dx=some (xw dx vs)/\vs.lookup f=some u/\Has H dt u
theorem HasE.mono{H H':Hp}{C:Addr}{fs:List (Str×bo)}{v:V}(s:Same H H')(q:HasE H C fs v):HasE H' C fs v:=by
 obtain⟨a,d,e,ha,hf⟩:=q;refine⟨a,d,e,s _ _ ha,fun f dt l=>?_⟩;obtain⟨dx,vs,u,e1,e2,e3,e4⟩:=hf f dt l;exact⟨dx,vs,u,e1,s _ _ e2,e3,Has.mono s _ _ e4⟩
inductive XV where
 |d (d:bo)
 |l (k:Nat)
 |o (v:V)
 |x (C:Addr) (fs:List (Str×bo))
 |p (k:Nat) (d:bo)
def HasLP(h o:List Addr)(H:Hp)(k:Nat)(d:bo)(v:V):Prop:=∃t a u,v=.ref t/\o[k]?=some a/\vx h o H t=some (.tup [.ref a,u])/\Has (vx h o H) d u
theorem HasLP.to{h':List Addr}{k:Nat}{d:bo}{v:V}(s:Same (vx h o H) (vx h' o' H'))(e:∀a,o[k]?=some a->o'[k]?=some a)(q:HasLP h o H k d v):HasLP h' o' H' k d v:=by
 obtain⟨t,a,u,e1,e2,e3,e4⟩:=q;exact⟨t,a,u,e1,e a e2,s _ _ e3,Has.mono s _ _ e4⟩
def HasX(h o:List Addr)(H:Hp):XV->V->Prop
 | .d d,v=>Has (vx h o H) d v
 | .l k,v=>∃a,o[k]?=some a/\v=.ref a
 | .o w,v=>v=w
 | .x C fs,v=>HasE (vx h o H) C fs v
 | .p k d,v=>HasLP h o H k d v
theorem HasX.mono(e:Ex o H o' H'):∀{x:XV}{v:V},HasX h o H x v->HasX h o' H' x v
 | .d d,v,q=>Has.mono e.vx d v q
 | .l k,v,⟨a,q,r⟩=>by
  obtain⟨t,rfl⟩:=e.pre;exact⟨a,fQ q,r⟩
 | .o w,v,q=>q
 | .x C fs,v,q=>HasE.mono e.vx q
 | .p k d,v,q=>by
  have ev:=e.vx (h:=h);obtain⟨t,rfl⟩:=e.pre;exact HasLP.to ev (fun a z=>fQ z) q
def HasXs(h o:List Addr)(H:Hp):List XV->List V->Prop
 | [],vs=>vs=[]
 |x::xs,vs=>∃v r,vs=v::r/\HasX h o H x v/\HasXs h o H xs r
abbrev Sto:=List (List bo)
inductive MO where
 |l (vs:List V)
 |k (m:List (Key×V))
 |t (m:List (List Key×V))
 |x (a:Addr) (ob:Obj)
def MO.ho:MO->HO
 | .l vs=>.lst vs
 | .k m=>.dK m
 | .t m=>.dT m
 | .x a ob=>obO a ob
structure RepS(h o:List Addr)(H:Hp)(S:Sto):Prop where
 len:S.length=o.length
 nd:o.Nodup
 dis:∀a∈o,a∉h
 hal:∀b∈h,∃u:MO,H b=some u.ho
 cont:∀(k:Nat) (a:Addr) (ds:List bo),o[k]?=some a->S[k]?=some ds->∃vs,H a=some (.lst vs)/\HasL (vx h o H) ds vs
theorem Ch{α β:Type}{l:List α}{t:List β}{k:Nat}{a:α}(hl:t.length=l.length)(q:l[k]?=some a):∃b,t[k]?=some b:=by
 obtain⟨hk,_⟩:=List.getElem?_eq_some_iff.mp q;exact⟨t[k]'yw,cv _⟩
theorem RepS.oal(r:RepS h o H S):∀a∈o,∃u,H a=some (.lst u):=fun a ha=>by
 obtain⟨k,hk⟩:=mem_iff_getElem?.mp ha;obtain⟨ds,e⟩:=Ch r.len hk;obtain⟨vs,e',_⟩:=r.cont k a ds hk e;exact⟨_,e'⟩
theorem RepS.oam(r:RepS h o H S):∀a∈o,∃u:MO,H a=some u.ho:=fun a ha=>let ⟨u,e⟩:=r.oal a ha;⟨.l u,e⟩
theorem RepS.fresh(r:RepS h o H S)(hp:H p=none):p∉h/\p∉o:=by
 constructor
 ·intro m;obtain⟨u,e⟩:=r.hal p m;rw[hp]at e;cases e
 ·intro m;obtain⟨u,e⟩:=r.oal p m;rw[hp]at e;cases e
theorem RepS.same(r:RepS h o H S)(s:Same H H'):RepS h o H' S where
 len:=r.len
 nd:=r.nd
 dis:=r.dis
 hal:=fun b m=>by obtain⟨u,e⟩:=r.hal b m;exact⟨u,s b _ e⟩
 cont:=fun k a ds e1 e2=>by
  obtain⟨vs,e3,l⟩:=r.cont k a ds e1 e2;exact⟨vs,s _ _ e3,HasL.mono (tD s) _ _ l⟩
theorem RepS.laid{u:HO}(r:RepS h o H S)(hp:H p=none):vx h o (upd H p u) p=some u:=by
 obtain⟨h1,h2⟩:=r.fresh hp;exact aV.mpr ⟨h1,h2,cU⟩
theorem Ex.new{u:HO}(r:RepS h o H S)(hp:H p=none):Ex o H (o++[p]) (upd H p u):=by
 refine⟨⟨[p],rfl⟩,fun b w hb e=>?_⟩;have ne:b≠p:=zS e hp;exact⟨by simp[hb,ne],by rw[aX ne];exact e⟩
theorem o0{α:Type}{l:List α}{a:α}(h:l.Nodup)(n:a∉l):(l++[a]).Nodup:=by
 rw[nodup_append];refine⟨h,yv,fun x hx y hy e=>?_⟩;rw[mem_singleton]at hy;subst hy;subst e;exact n hx
theorem RepS.new{ds:List bo}{vs:List V}(r:RepS h o H S)(hp:H p=none)(l:HasL (vx h o H) ds vs):RepS h (o++[p]) (upd H p (.lst vs)) (S++[ds]):=by
 obtain⟨h1,h2⟩:=r.fresh hp;have ex:Ex o H (o++[p]) (upd H p (.lst vs)):=Ex.new r hp;refine⟨by simp[r.len],o0 r.nd h2,fun a ha=>?_,fun b hb=>?_,fun k a es e1 e2=>?_⟩
 ·rcases mem_append.mp ha with ha|ha
  ·exact r.dis a ha
  ·rw[mem_singleton.mp ha];exact h1
 ·obtain⟨u,e⟩:=r.hal b hb;exact⟨u,by rw[aX (zS e hp)];exact e⟩
 ·by_cases hk:k<o.length
  ·rw[fh hk]at e1;rw[fh (by rw[r.len];exact hk)]at e2;obtain⟨ws,e3,l3⟩:=r.cont k a es e1 e2;refine⟨ws,?_,l3.mono ex.vx⟩;rw[aX (zS e3 hp)];exact e3
  ·have z:k=o.length:=by
    obtain⟨q,_⟩:=List.getElem?_eq_some_iff.mp e1;rw[cu,fk]at q;omega
   subst z;rw[ck]at e1;rw[<- r.len,ck]at e2;cases e1;cases e2;exact⟨vs,cU,l.mono ex.vx⟩
theorem Ex.upd{k:Nat}{u:HO}(e:o[k]?=some a):Ex o H o (L2.upd H a u):=
 ⟨⟨[],yv⟩,fun b w hb eb=>⟨hb,by rw[aX (fun z=>hb (by rw[z];exact bv e))];exact eb⟩⟩
theorem lM{l:List Addr}(h:l.Nodup){i j:Nat}{a:Addr}(e1:l[i]?=some a)(e2:l[j]?=some a):i=j:=by
 obtain⟨hi,e1⟩:=List.getElem?_eq_some_iff.mp e1;obtain⟨hj,e2⟩:=List.getElem?_eq_some_iff.mp e2;exact(List.getElem_inj h).mp (e1.trans e2.symm)
theorem RepS.upd{k:Nat}{ds:List bo}{vs:List V}(r:RepS h o H S)(e:o[k]?=some a)(l:HasL (vx h o H) ds vs):RepS h o (L2.upd H a (.lst vs)) (S.set k ds):=by
 have ex:Ex o H o (L2.upd H a (.lst vs)):=Ex.upd e;refine⟨by simp[r.len],r.nd,r.dis,fun b hb=>?_,fun j b es e1 e2=>?_⟩
 ·obtain⟨u,eb⟩:=r.hal b hb;have ne:b≠a:=fun z=>r.dis a (bv e) (z▸hb);exact⟨u,by rw[aX ne];exact eb⟩
 ·by_cases hj:j=k
  ·subst hj;rw[e1]at e;cases e;obtain⟨hk,_⟩:=List.getElem?_eq_some_iff.mp e1;rw[li (by rw[r.len];exact hk)]at e2;cases e2;exact⟨vs,cU,l.mono ex.vx⟩
  ·rw[pp (lr hj)]at e2;obtain⟨ws,e3,l3⟩:=r.cont j b es e1 e2;have ne:b≠a:=fun z=>hj (lM r.nd e1 (z▸e));exact⟨ws,by rw[aX ne];exact e3,l3.mono ex.vx⟩
abbrev XE:=List (Option XV)
structure RepE(h o:List Addr)(H:Hp)(δ:XE)(σ:St):Prop where
 len:δ.length=σ.length
 get:∀(i:Nat) x,δ[i]?=some (some x)->∃v,σ[i]?=some (some v)/\HasX h o H x v
variable {δ:XE}{σ:St}
theorem RepE.mono(r:RepE h o H δ σ)(e:Ex o H o' H'):RepE h o' H' δ σ:=⟨r.len,fun i x q=>by
 obtain⟨v,e1,e2⟩:=r.get i x q;exact⟨v,e1,e2.mono e⟩⟩
theorem RepE.set{i:Nat}{x:XV}{v:V}(r:RepE h o H δ σ)(q:HasX h o H x v):RepE h o H (δ.set i (some x)) (σ.set i (some v)):=by
 refine⟨by simp[r.len],fun j y e=>?_⟩;rw[List.getElem?_set]at e ⊢;by_cases hij:i=j
 ·rw[ci hij]at e ⊢;by_cases hl:i<δ.length
  ·rw[ci hl]at e;rw[ci (by rw[<- r.len];exact hl)];cases e;exact⟨v,rfl,q⟩
  ·rw[cg hl]at e;cases e
 ·rw[cg hij]at e ⊢;exact r.get j y e
def d9(caps:List (Option Nat))(δ:XE):XE:=caps.map fun o=>o.bind fun i=>(δ[i]?).join
theorem RepE.tau{caps:List (Option Nat)}(r:RepE h o H δ σ):RepE h o H (d9 caps δ) (L2.tau caps σ):=by
 refine⟨by simp[d9,L2.tau],fun i x e=>?_⟩;unfold d9 at e;unfold L2.tau;rw[gu]at e ⊢;cases hc:caps[i]? with
 |none=>rw[hc]at e;cases e
 |some c=>
  rw[hc]at e;cases c with
  |none=>cases e
  |some j=>
   have e':(δ[j]?).join=some x:=by simpa using e
   have e2:δ[j]?=some (some x):=by
    cases hd:δ[j]? with
    |none=>rw[hd]at e';cases e'
    |some y=>rw[hd]at e';exact congrArg some (by simpa using e')
   obtain⟨v,e3,e4⟩:=r.get j x e2;exact⟨v,by simp[e3],e4⟩
end
abbrev RX:=XV->Sto->Prop
abbrev DE:=XE->Sto->RX->Prop
abbrev DT:=XE->Sto->(Bool->Sto->Prop)->Prop
abbrev DA:=XE->Sto->(List XV->Sto->Prop)->Prop
abbrev D2:=XV->XV->Sto->RX->Prop
def Cn(h o:List Addr)(H:Hp)(R:RX)(Q:VK):Prop:=∀o' H' S' x v,Ex o H o' H'->RepS h o' H' S'->HasX h o' H' x v->R x S'->Q v H'
theorem Cn.pre{h o o':List Addr}{H H':Hp}{R:RX}{Q:VK}(c:Cn h o H R Q)(e:Ex o H o' H'):Cn h o' H' R Q:=fun o2 H2 S2 x v e2=>c o2 H2 S2 x v (e.trans e2)
def RE(t:TE)(dt:DE):Prop:=∀(h o:List Addr) (H:Hp) (δ:XE) (σ:St) (S:Sto) (R:RX) (Q:VK),RepE h o H δ σ->RepS h o H S->dt δ S R->Cn h o H R Q->t σ H Q
def RT(t:TT)(dt:DT):Prop:=∀(h o:List Addr) (H:Hp) (δ:XE) (σ:St) (S:Sto) (R:Bool->Sto->Prop) (Q:Bool->Hp->Prop),RepE h o H δ σ->RepS h o H S->dt δ S R ->
 (∀o' H' S' b,Ex o H o' H'->RepS h o' H' S'->R b S'->Q b H')->t σ H Q
def RA(t:TA)(dt:DA):Prop:=∀(h o:List Addr) (H:Hp) (δ:XE) (σ:St) (S:Sto) (R:List XV->Sto->Prop) (Q:List V->Hp->Prop),RepE h o H δ σ->RepS h o H S->dt δ S R ->
 (∀o' H' S' xs vs,Ex o H o' H'->RepS h o' H' S'->HasXs h o' H' xs vs->R xs S'->Q vs H')->t σ H Q
def RO(r:R2)(rd:D2):Prop:=∀(h o:List Addr) (H:Hp) (S:Sto) (x y:XV) (v u:V) (R:RX) (Q:VK),RepS h o H S->HasX h o H x v->HasX h o H y u->rd x y S R->Cn h o H R Q->r v u H Q
def RU(r:V->Hp->VK->Prop)(rd:XV->Sto->RX->Prop):Prop:=∀(h o:List Addr) (H:Hp) (S:Sto) (x:XV) (v:V) (R:RX) (Q:VK),RepS h o H S->HasX h o H x v->rd x S R->Cn h o H R Q->r v H Q
def RC(r:List V->Hp->VK->Prop)(rd:List XV->Sto->RX->Prop):Prop:=∀(h o:List Addr) (H:Hp) (S:Sto) (xs:List XV) (vs:List V) (R:RX) (Q:VK),RepS h o H S->HasXs h o H xs vs->rd xs S R->Cn h o H R Q->r vs H Q
def asI:XV->(Int->Prop)->Prop
 | .d (.int i),k=>k i
 |_,_=>False
def asB:XV->(Bool->Prop)->Prop
 | .d (.bool i),k=>k i
 |_,_=>False
def asS:XV->(Str->Prop)->Prop
 | .d (.str i),k=>k i
 |_,_=>False
def asT:XV->(List bo->Prop)->Prop
 | .d (.tuple i),k=>k i
 |_,_=>False
def dS(S:Sto):XV->Option (List bo)
 | .d (.list ds)=>some ds
 | .l k=>S[k]?
 |_=>none
def asL(S:Sto)(x:XV)(k:List bo->Prop):Prop:=∃ds,dS S x=some ds/\k ds
def bF(S:Sto):XV->Option bo
 | .d d=>some d
 | .l k=>(S[k]?).map .list
 | .o _=>none
 | .x _ _=>none
 | .p k d=>(S[k]?).map fun l=>.tuple [.list l,d]
def asD(x:XV)(k:bo->Prop):Prop:=match x with
 | .d d=>k d
 |_=>False
theorem bA{x:XV}{k:Int->Prop}(h:asI x k):∃i,x=.d (.int i)/\k i:=by
 unfold asI at h;split at h
 ·exact⟨_,rfl,h⟩
 ·exact h.elim
theorem pJ{x:XV}{k:Bool->Prop}(h:asB x k):∃i,x=.d (.bool i)/\k i:=by
 unfold asB at h;split at h
 ·exact⟨_,rfl,h⟩
 ·exact h.elim
theorem qG{x:XV}{k:Str->Prop}(h:asS x k):∃i,x=.d (.str i)/\k i:=by
 unfold asS at h;split at h
 ·exact⟨_,rfl,h⟩
 ·exact h.elim
theorem fW{x:XV}{k:List bo->Prop}(h:asT x k):∃i,x=.d (.tuple i)/\k i:=by
 unfold asT at h;split at h
 ·exact⟨_,rfl,h⟩
 ·exact h.elim
theorem qB{x:XV}{k:bo->Prop}(h:asD x k):∃i,x=.d i/\k i:=by
 unfold asD at h;split at h
 ·exact⟨_,rfl,h⟩
 ·exact h.elim
section
variable {h o:List Addr}{H:Hp}{S:Sto}{x:XV}{v:V}{i:Int}{b:Bool}{z:Str}{ds:List bo}{d:bo}
theorem aZ(q:HasX h o H (.d (.int i)) v):v=.int i:=(eU (H:=vx h o H)).mp q
theorem jR(q:HasX h o H (.d (.bool b)) v):v=.bl b:=(fB (H:=vx h o H)).mp q
theorem cS(q:HasX h o H (.d (.str z)) v):v=.str z:=(eV (H:=vx h o H)).mp q
theorem dH(q:HasX h o H (.d (.tuple ds)) v):∃a vs,v=.ref a/\H a=some (.tup vs)/\HasL (vx h o H) ds vs:=by
 obtain⟨a,vs,e,q,l⟩:=dJ.mp (show Has _ _ _ from q);exact⟨a,vs,e,bR _ _ q,l⟩
theorem bN(r:RepS h o H S)(e:dS S x=some ds)(q:HasX h o H x v):∃a vs,v=.ref a/\H a=some (.lst vs)/\HasL (vx h o H) ds vs:=by
 unfold dS at e;split at e
 ·cases e;obtain⟨a,vs,e,q,l⟩:=dA.mp (show Has _ _ _ from q);exact⟨a,vs,e,bR _ _ q,l⟩
 ·obtain⟨a,e1,rfl⟩:=q;obtain⟨vs,e2,l⟩:=r.cont _ a ds e1 e;exact⟨a,vs,rfl,e2,l⟩
 ·cases e
theorem dF(r:RepS h o H S)(e:bF S x=some d)(q:HasX h o H x v):Has H d v:=by
 unfold bF at e;split at e
 ·cases e;exact Has.mono bR _ _ q
 ·rename_i k;obtain⟨a,e1,rfl⟩:=q;cases hs:S[k]? with
  |none=>rw[hs]at e;cases e
  |some es=>
   rw[hs]at e;cases e;obtain⟨vs,e2,l⟩:=r.cont k a es e1 hs;exact dA.mpr ⟨a,vs,rfl,e2,HasL.mono bR _ _ l⟩
 ·cases e
 ·cases e
 ·rename_i k d';obtain⟨t,a,u,rfl,e1,e3,e4⟩:=q;cases hs:S[k]? with
  |none=>rw[hs]at e;cases e
  |some es=>
   rw[hs]at e;cases e;obtain⟨vs,e2,l⟩:=r.cont k a es e1 hs;exact dJ.mpr ⟨t,_,rfl,bR _ _ e3,zp.mpr ⟨_,_,rfl,dA.mpr ⟨a,vs,rfl,e2,HasL.mono bR _ _ l⟩,zp.mpr ⟨u,_,rfl,Has.mono bR _ _ e4,zv.mpr rfl⟩⟩⟩
theorem xI(i:Int):HasX h o H (.d (.int i)) (.int i):=(eU (H:=vx h o H)).mpr rfl
theorem xB(i:Bool):HasX h o H (.d (.bool i)) (.bl i):=(fB (H:=vx h o H)).mpr rfl
theorem xS(i:Str):HasX h o H (.d (.str i)) (.str i):=(eV (H:=vx h o H)).mpr rfl
theorem xN:HasX h o H (.d .none) .non:=(iX (H:=vx h o H)).mpr rfl
theorem iG{vs:List V}{R:RX}{Q:VK}(r:RepS h o H S)(l:HasL (vx h o H) ds vs)(c:Cn h o H R Q)(q:R (.d (.tuple ds)) S):∀p,H p=none->Q (.ref p) (upd H p (.tup vs)):=fun p hp=>
 c o _ S (.d (.tuple ds)) _ (Ex.of_same (Same.laid hp)) (r.same (Same.laid hp)) (dJ.mpr ⟨p,vs,rfl,r.laid hp,l.mono (tD (Same.laid hp))⟩) q
theorem gY{vs:List V}{R:RX}{Q:VK}(r:RepS h o H S)(l:HasL (vx h o H) ds vs)(c:Cn h o H R Q)(q:R (.d (.list ds)) S):∀p,H p=none->Q (.ref p) (upd H p (.lst vs)):=fun p hp=>
 c o _ S (.d (.list ds)) _ (Ex.of_same (Same.laid hp)) (r.same (Same.laid hp)) (dA.mpr ⟨p,vs,rfl,r.laid hp,l.mono (tD (Same.laid hp))⟩) q
theorem yV{vs:List V}{R:RX}{Q:VK}(r:RepS h o H S)(l:HasL (vx h o H) ds vs)(c:Cn h o H R Q)(q:R (.l S.length) (S++[ds])):∀p,H p=none->Q (.ref p) (upd H p (.lst vs)):=fun p hp=>
 c (o++[p]) _ (S++[ds]) (.l S.length) _ (Ex.new r hp) (r.new hp l) ⟨p,by rw[r.len,ck],rfl⟩ q
theorem p9:∀{xs:List XV}{vs:List V}{ds:List bo},HasXs h o H xs vs->xs=ds.map XV.d->HasL (vx h o H) ds vs
 | [],vs,[],q,_=>zv.mpr q
 |x::xs,vs,d::ds,⟨v,r,e,q,l⟩,e2=>by
  rw[jc]at e2;cases e2;exact zp.mpr ⟨v,r,e,q,p9 l rfl⟩
 |x::xs,vs,[],_,e2=>by cases e2
 | [],vs,d::ds,_,e2=>by cases e2
end
def datas:List XV->Option (List bo)
 | []=>some []
 | .d d::r=>(datas r).map (d :: ·)
 |_::_=>none
theorem iA:∀{xs:List XV}{ds:List bo},datas xs=some ds->xs=ds.map XV.d
 | [],ds,e=>by cases e;rfl
 | .d d::r,ds,e=>by
  unfold datas at e;cases hr:datas r with
  |none=>rw[hr]at e;cases e
  |some es=>
   rw[hr]at e;cases e;rw[iA hr];rfl
 | .l _::_,_,e=>by cases e
 | .o _::_,_,e=>by cases e
 | .x _ _::_,_,e=>by cases e
 | .p _ _::_,_,e=>by cases e
def zg(i:Nat):DE:=fun δ S R=>∃x,δ[i]?=some (some x)/\R x S
def dC(d:bo):DE:=fun _ S R=>R (.d d) S
def dO(v:V):DE:=fun _ S R=>R (.o v) S
def dOp(rd:D2)(a b:DE):DE:=fun δ S R=>a δ S fun x S1=>b δ S1 fun y S2=>rd x y S2 R
def dUn(rd:XV->Sto->RX->Prop)(a:DE):DE:=fun δ S R=>a δ S fun x S1=>rd x S1 R
def zo:DA:=fun _ S R=>R [] S
def zb(a:DE)(b:DA):DA:=fun δ S R=>a δ S fun x S1=>b δ S1 fun xs S2=>R (x::xs) S2
def dCB(rd:List XV->Sto->RX->Prop)(a:DA):DE:=fun δ S R=>a δ S fun xs S1=>rd xs S1 R
def aC(a:DA):DE:=fun δ S R=>a δ S fun xs S1=>∃ds,datas xs=some ds/\ds.length<=1000/\R (.d (.tuple ds)) S1
def aP(a:DA):DE:=fun δ S R=>a δ S fun xs S1=>∃ds,datas xs=some ds/\ds.length<=1000/\R (.d (.list ds)) S1
def bJ(a:DA):DE:=fun δ S R=>a δ S fun xs S1=>∃ds,datas xs=some ds/\ds.length<=1000/\R (.l S1.length) (S1++[ds])
section
variable {t ta tb tc:TE}{da db dc:DE}{tl:TA}{dl:DA}{tt tu:TT}{dt du:DT}
theorem zm{i:Nat}:RE (fI i) (zg i):=fun h o H δ σ S R Q he hs ⟨x,e,q⟩ c=>by
 obtain⟨v,e1,e2⟩:=he.get i x e;exact⟨v,e1,c o H S x v Ex.refl hs e2 q⟩
theorem aW{i:Int}:RE (tC (.int i)) (dC (.int i)):=fun h o H δ σ S R Q he hs q c=>c o H S _ _ Ex.refl hs (xI i) q
theorem lO{i:Bool}:RE (tC (.bl i)) (dC (.bool i)):=fun h o H δ σ S R Q he hs q c=>c o H S _ _ Ex.refl hs (xB i) q
theorem iE{i:Str}:RE (tC (.str i)) (dC (.str i)):=fun h o H δ σ S R Q he hs q c=>c o H S _ _ Ex.refl hs (xS i) q
theorem Bq:RE (tC .non) (dC .none):=fun h o H δ σ S R Q he hs q c=>c o H S _ _ Ex.refl hs xN q
theorem IV{v:V}:RE (tC v) (dO v):=fun h o H δ σ S R Q he hs q c=>c o H S (.o v) v Ex.refl hs rfl q
theorem aJ{r:R2}{rd:D2}(hr:RO r rd)(ha:RE ta da)(hb:RE tb db):RE (tOp r ta tb) (dOp rd da db):=fun h o H δ σ S R Q he hs q c=>
 ha h o H δ σ S _ _ he hs q fun o1 H1 S1 x v e1 s1 x1 d1=>hb h o1 H1 δ σ S1 _ _ (he.mono e1) s1 d1 fun o2 H2 S2 y u e2 s2 y2 d2=>
  hr h o2 H2 S2 x y v u R Q s2 (x1.mono e2) y2 d2 (c.pre (e1.trans e2))
theorem Ez{r:V->Hp->VK->Prop}{rd:XV->Sto->RX->Prop}(hr:RU r rd)(ha:RE ta da):RE (tUn r ta) (dUn rd da):=fun h o H δ σ S R Q he hs q c=>
 ha h o H δ σ S _ _ he hs q fun o1 H1 S1 x v e1 s1 x1 d1=>hr h o1 H1 S1 x v R Q s1 x1 d1 (c.pre e1)
theorem zH:RA jQ zo:=fun h o H δ σ S R Q he hs q c=>c o H S [] [] Ex.refl hs rfl q
theorem zk(ha:RE ta da)(hb:RA tl dl):RA (eL ta tl) (zb da dl):=fun h o H δ σ S R Q he hs q c=>
 ha h o H δ σ S _ _ he hs q fun o1 H1 S1 x v e1 s1 x1 d1=>hb h o1 H1 δ σ S1 _ _ (he.mono e1) s1 d1 fun o2 H2 S2 xs vs e2 s2 x2 d2=>
  c o2 H2 S2 (x::xs) (v::vs) (e1.trans e2) s2 ⟨v,vs,rfl,x1.mono e2,x2⟩ d2
theorem fD{r:List V->Hp->VK->Prop}{rd:List XV->Sto->RX->Prop}(hr:RC r rd)(ha:RA tl dl):RE (tCB r tl) (dCB rd dl):=fun h o H δ σ S R Q he hs q c=>
 ha h o H δ σ S _ _ he hs q fun o1 H1 S1 xs vs e1 s1 x1 d1=>hr h o1 H1 S1 xs vs R Q s1 x1 d1 (c.pre e1)
theorem gD(ha:RA tl dl):RE (u8 tl) (aC dl):=fun h o H δ σ S R Q he hs q c=>
 ha h o H δ σ S _ _ he hs q fun o1 H1 S1 xs vs e1 s1 x1 ⟨ds,e,hl,d1⟩=>by
  have l:=p9 x1 (iA e);exact⟨by rw[l.length];exact ku (small1000 hl),iG s1 l (c.pre e1) d1⟩
theorem lV(ha:RA tl dl):RE (gA tl) (aP dl):=fun h o H δ σ S R Q he hs q c=>
 ha h o H δ σ S _ _ he hs q fun o1 H1 S1 xs vs e1 s1 x1 ⟨ds,e,hl,d1⟩=>by
  have l:=p9 x1 (iA e);exact⟨by rw[l.length];exact ku (small1000 hl),gY s1 l (c.pre e1) d1⟩
theorem HM(ha:RA tl dl):RE (gA tl) (bJ dl):=fun h o H δ σ S R Q he hs q c=>
 ha h o H δ σ S _ _ he hs q fun o1 H1 S1 xs vs e1 s1 x1 ⟨ds,e,hl,d1⟩=>by
  have l:=p9 x1 (iA e);exact⟨by rw[l.length];exact ku (small1000 hl),yV s1 l (c.pre e1) d1⟩
def dB(a:DE):DT:=fun δ S R=>a δ S fun x S1=>asB x fun b=>R b S1
def bV(a:DT):DT:=fun δ S R=>a δ S fun b S1=>R (!b) S1
def fM(a b:DT):DT:=fun δ S R=>a δ S fun x S1=>if x=true then b δ S1 R else R false S1
def dOr(a b:DT):DT:=fun δ S R=>a δ S fun x S1=>if x=true then R true S1 else b δ S1 R
def eM(a b:DE):DE:=fun δ S R=>a δ S fun x S1=>asB x fun c=>if c=true then b δ S1 R else R (.d (.bool false)) S1
def kU(a b:DE):DE:=fun δ S R=>a δ S fun x S1=>asB x fun c=>if c=true then R (.d (.bool true)) S1 else b δ S1 R
def fT(a:DE):DE:=fun δ S R=>a δ S fun x S1=>asB x fun c=>R (.d (.bool (!c))) S1
def dIf(c:DT)(a b:DE):DE:=fun δ S R=>c δ S fun x S1=>if x=true then a δ S1 R else b δ S1 R
theorem sQ(ha:RE ta da):RT (nK ta) (dB da):=fun h o H δ σ S R Q he hs q c=>
 ha h o H δ σ S _ _ he hs q fun o1 H1 S1 x v e1 s1 x1 d1=>by
  replace d1:=pJ d1;obtain⟨b,rfl,d1⟩:=d1;exact⟨b,jR x1,c o1 H1 S1 b e1 s1 d1⟩
theorem lU(ha:RT tt dt):RT (CO tt) (bV dt):=fun h o H δ σ S R Q he hs q c=>
 ha h o H δ σ S _ _ he hs q fun o1 H1 S1 b e1 s1 d1=>c o1 H1 S1 _ e1 s1 d1
theorem Ce(ha:RT tt dt)(hb:RT tu du):RT (AH tt tu) (fM dt du):=fun h o H δ σ S R Q he hs q c=>
 ha h o H δ σ S _ _ he hs q fun o1 H1 S1 b e1 s1 d1=>by
  cases b with
  |true=>exact gG (hb h o1 H1 δ σ S1 R Q (he.mono e1) s1 (by simpa using d1) fun o2 H2 S2 b e2=>c o2 H2 S2 b (e1.trans e2))
  |false=>exact gQ (c o1 H1 S1 false e1 s1 (by simpa using d1))
theorem HF(ha:RT tt dt)(hb:RT tu du):RT (tOr tt tu) (dOr dt du):=fun h o H δ σ S R Q he hs q c=>
 ha h o H δ σ S _ _ he hs q fun o1 H1 S1 b e1 s1 d1=>by
  cases b with
  |false=>exact gQ (hb h o1 H1 δ σ S1 R Q (he.mono e1) s1 (by simpa using d1) fun o2 H2 S2 b e2=>c o2 H2 S2 b (e1.trans e2))
  |true=>exact gG (c o1 H1 S1 true e1 s1 (by simpa using d1))
theorem Cf(ha:RE ta da)(hb:RE tb db):RE (By ta tb) (eM da db):=fun h o H δ σ S R Q he hs q c=>
 ha h o H δ σ S _ _ he hs q fun o1 H1 S1 x v e1 s1 x1 d1=>by
  replace d1:=pJ d1;obtain⟨b,rfl,d1⟩:=d1;refine⟨b,jR x1,?_⟩;cases b with
  |true=>exact gG (hb h o1 H1 δ σ S1 R Q (he.mono e1) s1 (by simpa using d1) (c.pre e1))
  |false=>exact gQ (c o1 H1 S1 _ _ e1 s1 (xB false) (by simpa using d1))
theorem FJ(ha:RE ta da):RE (C6 ta) (fT da):=fun h o H δ σ S R Q he hs q c=>
 ha h o H δ σ S _ _ he hs q fun o1 H1 S1 x v e1 s1 x1 d1=>by
  replace d1:=pJ d1;obtain⟨b,rfl,d1⟩:=d1;exact⟨b,jR x1,c o1 H1 S1 _ _ e1 s1 (xB _) d1⟩
def eZ(rd q:D2)(a b e:DE):DE:=fun δ S R=>a δ S fun x S1=>b δ S1 fun y S2=>rd x y S2 fun z S3=>asB z fun k=>if k=true then e δ S3 fun u S4=>q y u S4 R else R (.d (.bool false)) S3
theorem F0{r r':R2}{rd aa:D2}(hr:RO r rd)(ab:RO r' aa)(ha:RE ta da)(hb:RE tb db)(hc:RE tc dc):RE (sE r r' ta tb tc) (eZ rd aa da db dc):=fun h o H δ σ S R Q he hs q c=>
 ha h o H δ σ S _ _ he hs q fun o1 H1 S1 x v e1 s1 x1 d1=>hb h o1 H1 δ σ S1 _ _ (he.mono e1) s1 d1 fun o2 H2 S2 y u e2 s2 y2 d2=>
  hr h o2 H2 S2 x y v u _ _ s2 (x1.mono e2) y2 d2 fun o3 H3 S3 z w e3 s3 z3 d3=>by
   replace d3:=pJ d3;obtain⟨b,rfl,d3⟩:=d3;refine⟨b,jR z3,?_⟩;cases b with
   |false=>exact gQ (c o3 H3 S3 _ _ ((e1.trans e2).trans e3) s3 (xB false) (by simpa using d3))
   |true=>exact gG (hc h o3 H3 δ σ S3 _ _ (((he.mono e1).mono e2).mono e3) s3 (by simpa using d3) fun o4 H4 S4 k w' e4 s4 k4 d4=>ab h o4 H4 S4 y k u w' R Q s4 ((y2.mono e3).mono e4) k4 d4 (c.pre (((e1.trans e2).trans e3).trans e4)))
end
def dI(C:Int->Int->Prop)(g:Int->Int->Int):D2:=fun x y S R=>asI x fun i=>asI y fun j=>C i j/\R (.d (.int (g i j))) S
def dI0(g:Int->Int->Int):D2:=fun x y S R=>asI x fun i=>asI y fun j=>R (.d (.int (g i j))) S
def dIb(g:Int->Int->Bool):D2:=fun x y S R=>asI x fun i=>asI y fun j=>R (.d (.bool (g i j))) S
def dUI(g:Int->Int):XV->Sto->RX->Prop:=fun x S R=>asI x fun i=>R (.d (.int (g i))) S
def aU:D2:=fun x y S R=>∃d,bF S x=some d/\∃e,bF S y=some e/\cw d=true/\cw e=true/\R (.d (.bool (fr d e))) S
def dU:D2:=fun x y S R=>∃d,bF S x=some d/\∃e,bF S y=some e/\cw d=true/\cw e=true/\R (.d (.bool (!PyData.eqv d e))) S
def nR:D2:=fun x _ S R=>asD x fun d=>R (.d (.bool (iZ d))) S
def Cs:D2:=fun x y S R=>asT x fun ds=>asI y fun i=>∃d,atI ds i=some d/\R (.d d) S
def FP:D2:=fun x y S R=>asL S x fun ds=>asI y fun i=>∃d,atI ds i=some d/\R (.d d) S
def HI:D2:=fun x y S R=>asL S x fun ds=>asL S y fun es=>ds.length+es.length<=1000/\R (.d (.list (ds++es))) S
def FN:D2:=fun x y S R=>asT x fun ds=>asT y fun es=>ds≠[]/\ds.length+es.length<=1000/\R (.d (.tuple (ds++es))) S
section
theorem iH{C:Int->Int->Prop}{g:Int->Int->Int}:RO (rI C fun i j=>.int (g i j)) (dI C g):=fun h o H S x y v u R Q hs hx hy q c=>by
 replace q:=bA q;obtain⟨i,rfl,q⟩:=q;replace q:=bA q;obtain⟨j,rfl,hc,q⟩:=q;exact⟨i,j,aZ hx,aZ hy,hc,c o H S _ _ Ex.refl hs (xI _) q⟩
theorem tZ{g:Int->Int->Int}:RO (rI0 fun i j=>.int (g i j)) (dI0 g):=fun h o H S x y v u R Q hs hx hy q c=>by
 replace q:=bA q;obtain⟨i,rfl,q⟩:=q;replace q:=bA q;obtain⟨j,rfl,q⟩:=q;exact⟨i,j,aZ hx,aZ hy,c o H S _ _ Ex.refl hs (xI _) q⟩
theorem HA{g:Int->Int->Bool}:RO (rI0 fun i j=>.bl (g i j)) (dIb g):=fun h o H S x y v u R Q hs hx hy q c=>by
 replace q:=bA q;obtain⟨i,rfl,q⟩:=q;replace q:=bA q;obtain⟨j,rfl,q⟩:=q;exact⟨i,j,aZ hx,aZ hy,c o H S _ _ Ex.refl hs (xB _) q⟩
theorem Cy{g:Int->Int}:RU (rU fun i=>.int (g i)) (dUI g):=fun h o H S x v R Q hs hx q c=>by
 replace q:=bA q;obtain⟨i,rfl,q⟩:=q;exact⟨i,aZ hx,c o H S _ _ Ex.refl hs (xI _) q⟩
theorem p8:RO yC aU:=fun h o H S x y v u R Q hs hx hy q c=>by
 obtain⟨d,q1,e,q2,q3,q4,q⟩:=q;exact⟨d,e,dF hs q1 hx,dF hs q2 hy,q3,q4,c o H S _ _ Ex.refl hs (xB _) q⟩
theorem Ed:RO wY dU:=fun h o H S x y v u R Q hs hx hy q c=>by
 obtain⟨d,q1,e,q2,q3,q4,q⟩:=q;exact⟨d,e,dF hs q1 hx,dF hs q2 hy,q3,q4,c o H S _ _ Ex.refl hs (xB _) q⟩
theorem HasL.atI{H:Hp}{ds:List bo}{vs:List V}{i:Int}{d:bo}(l:HasL H ds vs)(e:L2.atI ds i=some d):∃v,L2.atI vs i=some v/\Has H d v:=by
 unfold L2.atI at e ⊢;rw[l.length];cases hn:ixN ds.length i with
 |none=>rw[hn]at e;cases e
 |some j=>
  rw[hn]at e;exact l.get (show ds[j]?=some d from e)
theorem GR{K:cy}:RO (uW K) Cs:=fun h o H S x y v u R Q hs hx hy q c=>by
 replace q:=fW q;obtain⟨ds,rfl,q⟩:=q;replace q:=bA q;obtain⟨i,rfl,d,e,q⟩:=q;obtain⟨a,vs,rfl,ea,l⟩:=dH hx;obtain⟨w,ew,hw⟩:=l.atI e;exact⟨a,vs,i,w,rfl,aZ hy,.of ea,ew,c o H S (.d d) w Ex.refl hs hw q⟩
theorem v7{K:cy}:RO (tY K) FP:=fun h o H S x y v u R Q hs hx hy q c=>by
 obtain⟨ds,e0,q⟩:=q;replace q:=bA q;obtain⟨i,rfl,d,e,q⟩:=q;obtain⟨a,vs,rfl,ea,l⟩:=bN hs e0 hx;obtain⟨w,ew,hw⟩:=l.atI e;exact⟨a,vs,i,w,rfl,aZ hy,.of ea,ew,c o H S (.d d) w Ex.refl hs hw q⟩
theorem Et:RO i0 HI:=fun h o H S x y v u R Q hs hx hy q c=>by
 obtain⟨ds,e0,es,e1,hl,q⟩:=q;obtain⟨a,vs,rfl,ea,la⟩:=bN hs e0 hx;obtain⟨b,us,rfl,eb,lb⟩:=bN hs e1 hy;exact⟨a,b,vs,us,rfl,rfl,ea,eb,by rw[la.length,lb.length];exact ku (small1000 hl),gY hs (la.append lb) c q⟩
theorem GV{K:cy}:RO (tN K) FN:=fun h o H S x y v u R Q hs hx hy q c=>by
 replace q:=fW q;obtain⟨ds,rfl,q⟩:=q;replace q:=fW q;obtain⟨es,rfl,hn,hl,q⟩:=q;obtain⟨a,vs,rfl,ea,la⟩:=dH hx;obtain⟨b,us,rfl,eb,lb⟩:=dH hy;refine⟨a,b,vs,us,rfl,rfl,.of ea,.of eb,fun z=>?_,by rw[la.length,lb.length];exact ku (small1000 hl),fun z=>?_,fun _=>iG hs (la.append lb) c q⟩
 ·subst z;have:=la.length;exact hn (gj this.symm)
 ·subst z;have e:es=[]:=gj lb.length.symm;subst e;rw[km]at q;exact c o H S (.d (.tuple ds)) _ Ex.refl hs hx q
end
abbrev DO:=XE->Sto->(Option Int->Sto->Prop)->Prop
def RP(t:TO)(dt:DO):Prop:=∀(h o:List Addr) (H:Hp) (δ:XE) (σ:St) (S:Sto) (R:Option Int->Sto->Prop) (Q:Option Int->Hp->Prop),RepE h o H δ σ->RepS h o H S->dt δ S R ->
 (∀o' H' S' b,Ex o H o' H'->RepS h o' H' S'->R b S'->Q b H')->t σ H Q
def cQ:DO:=fun _ S R=>R none S
def cZ(a:DE):DO:=fun δ S R=>a δ S fun x S1=>asI x fun i=>R (some i) S1
theorem yX:RP xO cQ:=fun h o H δ σ S R Q he hs q c=>c o H S none Ex.refl hs q
theorem CV{t:TE}{da:DE}(ha:RE t da):RP (i5 t) (cZ da):=fun h o H δ σ S R Q he hs q c=>
 ha h o H δ σ S _ _ he hs q fun o1 H1 S1 x v e1 s1 x1 d1=>by
  replace d1:=bA d1;obtain⟨i,rfl,d1⟩:=d1;exact⟨i,aZ x1,c o1 H1 S1 _ e1 s1 d1⟩
abbrev D3:=XV->Option Int->Option Int->Sto->RX->Prop
def RL(r:V->Option Int->Option Int->Hp->VK->Prop)(rd:D3):Prop:=∀(h o:List Addr) (H:Hp) (S:Sto) (x:XV) (v:V) (a b:Option Int) (R:RX) (Q:VK),RepS h o H S->HasX h o H x v->rd x a b S R->Cn h o H R Q->r v a b H Q
def dSl(rd:D3)(e:DE)(a b:DO):DE:=fun δ S R=>e δ S fun x S1=>a δ S1 fun i S2=>b δ S2 fun j S3=>rd x i j S3 R
theorem CZ{r:V->Option Int->Option Int->Hp->VK->Prop}{rd:D3}{te:TE}{de:DE}{ta tb:TO}{da db:DO}(hr:RL r rd)(z:RE te de)(ha:RP ta da)(hb:RP tb db):RE (tSl r te ta tb) (dSl rd de da db):=fun h o H δ σ S R Q he hs q c=>
 z h o H δ σ S _ _ he hs q fun o1 H1 S1 x v e1 s1 x1 d1=>ha h o1 H1 δ σ S1 _ _ (he.mono e1) s1 d1 fun o2 H2 S2 i e2 s2 d2=>hb h o2 H2 δ σ S2 _ _ ((he.mono e1).mono e2) s2 d2 fun o3 H3 S3 j e3 s3 d3=>
  hr h o3 H3 S3 x v i j R Q s3 ((x1.mono e2).mono e3) d3 (c.pre ((e1.trans e2).trans e3))
def Gx:D3:=fun x i j S R=>asL S x fun ds=>R (.d (.list (aQ ds i j))) S
def Cu:D3:=fun x i j S R=>asT x fun ds=>¬(HT.sIx ds.length 0 i=0/\HT.sIx ds.length ds.length j=ds.length)/\R (.d (.tuple (aQ ds i j))) S
theorem Bx{K:cy}:RL (oD K) Gx:=fun h o H S x v a b R Q hs hx q c=>by
 obtain⟨ds,e0,q⟩:=q;obtain⟨p,vs,rfl,ea,l⟩:=bN hs e0 hx;exact⟨p,vs,rfl,.of ea,gY hs (l.cut a b) c q⟩
theorem Ig{K:cy}:RL (u6 K) Cu:=fun h o H S x v a b R Q hs hx q c=>by
 replace q:=fW q;obtain⟨ds,rfl,hn,q⟩:=q;obtain⟨p,vs,rfl,ea,l⟩:=dH hx;exact⟨p,vs,rfl,.of ea,by rw[l.length];exact hn,iG hs (l.cut a b) c q⟩
def asQ(S:Sto):XV->Option (List bo)
 | .d (.tuple ds)=>some ds
 | .d (.list ds)=>some ds
 | .l k=>S[k]?
 |_=>none
theorem lW{h o:List Addr}{H:Hp}{S:Sto}{x:XV}{v:V}{ds:List bo}(r:RepS h o H S)(e:asQ S x=some ds)(q:HasX h o H x v):∃a vs,v=.ref a/\(H a=some (.tup vs)\/H a=some (.lst vs))/\HasL (vx h o H) ds vs:=by
 unfold asQ at e;split at e
 ·cases e;obtain⟨a,vs,e,q,l⟩:=dH q;exact⟨a,vs,e,.inl q,l⟩
 ·cases e;obtain⟨a,vs,e,q,l⟩:=bN (x:=.d (.list ds)) (ds:=ds) r rfl q;exact⟨a,vs,e,.inr q,l⟩
 ·rename_i k;obtain⟨a,vs,e,q,l⟩:=bN (x:=.l k) r e q;exact⟨a,vs,e,.inr q,l⟩
 ·cases e
def arg1:List XV->(XV->Prop)->Prop
 | [x],k=>k x
 |_,_=>False
def arg2:List XV->(XV->XV->Prop)->Prop
 | [x,y],k=>k x y
 |_,_=>False
theorem cA{xs:List XV}{k:XV->Prop}(h:arg1 xs k):∃x,xs=[x]/\k x:=by
 unfold arg1 at h;split at h
 ·exact⟨_,rfl,h⟩
 ·exact h.elim
theorem rH{xs:List XV}{k:XV->XV->Prop}(h:arg2 xs k):∃x y,xs=[x,y]/\k x y:=by
 unfold arg2 at h;split at h
 ·exact⟨_,_,rfl,h⟩
 ·exact h.elim
theorem hxs1{h o:List Addr}{H:Hp}{x:XV}{vs:List V}(q:HasXs h o H [x] vs):∃v,vs=[v]/\HasX h o H x v:=by
 obtain⟨v,r,e,hx,hr⟩:=q;cases hr;exact⟨v,e,hx⟩
theorem hxs2{h o:List Addr}{H:Hp}{x y:XV}{vs:List V}(q:HasXs h o H [x,y] vs):∃v u,vs=[v,u]/\HasX h o H x v/\HasX h o H y u:=by
 obtain⟨v,r,e,hx,q⟩:=q;obtain⟨u,e',hy⟩:=hxs1 q;subst e';exact⟨v,u,e,hx,hy⟩
def rA:XV->(String->Prop)->Prop
 | .o v,k=>∃c,v=.ty c/\k c
 |_,_=>False
def qH:XV->(Int->Prop)->Prop
 | .d d,k=>match d with
  | .int i=>k i
  | .bool b=>k (if b then 1 else 0)
  |_=>False
 |_,_=>False
theorem Ib{x:XV}{k:String->Prop}(h:rA x k):∃c,x=.o (.ty c)/\k c:=by
 cases x with
 |o v=>
  obtain⟨c,rfl,h⟩:=h;exact⟨c,rfl,h⟩
 |d d=>exact h.elim
 |l j=>exact h.elim
 |x _ _=>exact h.elim
 |p _ _=>exact h.elim
theorem Ek{x:XV}{k:Int->Prop}(h:qH x k):(∃i,x=.d (.int i)/\k i)\/∃b,x=.d (.bool b)/\k (if b then 1 else 0):=by
 cases x with
 |d d=>
  cases d with
  |int i=>exact .inl ⟨i,rfl,h⟩
  |bool b=>exact .inr ⟨b,rfl,h⟩
  |_=>exact h.elim
 |_=>exact h.elim
def EE:List XV->Sto->RX->Prop:=fun xs S R=>arg1 xs fun x=>∃ds,asQ S x=some ds/\R (.d (.int ds.length)) S
theorem tU{K:cy}:RC (r8 K) EE:=fun h o H S xs vs R Q hs hx q c=>by
 obtain⟨x,rfl,ds,hd,q1⟩:=cA q;obtain⟨v,rfl,aa⟩:=hxs1 hx;obtain⟨a,ws,rfl,ea,l⟩:=lW hs hd aa;refine⟨a,ws,rfl,ea.elim (fun z=>.inr (.of z)) (fun z=>.inl (.of z)),?_⟩;rw[l.length];exact c o H S _ _ Ex.refl hs (xI _) q1
def cD:List XV->Sto->RX->Prop:=fun xs S R=>arg2 xs fun x y=>rA y fun cl=>∃d,bF S x=some d/\cl∈eO/\R (.d (.bool (gB d cl))) S
theorem Ck:RC tL cD:=fun h o H S xs vs R Q hs hx q c=>by
 obtain⟨x,y,rfl,q1⟩:=rH q;obtain⟨cl,rfl,d,hd,hc,q2⟩:=Ib q1;obtain⟨v,u,rfl,z,hu⟩:=hxs2 hx;cases hu;exact Fm (dF hs hd z) hc (c o H S _ _ Ex.refl hs (xB _) q2)
def fZ:List XV->Sto->RX->Prop:=fun xs S R=>arg1 xs fun x=>qH x fun i=>R (.d (.int i)) S
theorem Do:RC (fun xs H Q=>(∃i,xs=[.int i]/\Q (.int i) H)\/∃k,xs=[.bl k]/\Q (.int (if k then 1 else 0)) H) fZ:=fun h o H S xs vs R Q hs hx q c=>by
 obtain⟨x,rfl,q1⟩:=cA q;obtain⟨v,rfl,z⟩:=hxs1 hx;rcases Ek q1 with ⟨i,rfl,q2⟩|⟨b,rfl,q2⟩
 ·exact .inl ⟨_,by rw[aZ z],c o H S _ _ Ex.refl hs (xI _) q2⟩
 ·exact .inr ⟨_,by rw[jR z],c o H S _ _ Ex.refl hs (xI _) q2⟩
def dI2(g:Int->Int->Int):List XV->Sto->RX->Prop:=fun xs S R=>arg2 xs fun x y=>asI x fun i=>asI y fun j=>R (.d (.int (g i j))) S
theorem G3{g:Int->Int->Int}:RC (fun xs H Q=>∃i j,xs=[.int i,.int j]/\Q (.int (g i j)) H) (dI2 g):=fun h o H S xs vs R Q hs hx q c=>by
 obtain⟨x,y,rfl,q1⟩:=rH q;obtain⟨v,u,rfl,z,hu⟩:=hxs2 hx;obtain⟨i,rfl,q2⟩:=bA q1;obtain⟨j,rfl,q3⟩:=bA q2;exact⟨i,j,by rw[aZ z,aZ hu],c o H S _ _ Ex.refl hs (xI _) q3⟩
def eR:List XV->Sto->RX->Prop:=fun xs S R=>arg1 xs fun x=>∃ds,asQ S x=some ds/\R (.d (.tuple ds)) S
theorem GC{K:cy}:RC (fun xs H Q=>∃p ys,xs=[.ref p]/\((SqL K H p ys/\∀l,H l=none->Q (.ref l) (upd H l (.tup ys)))\/(SqT K H p ys/\Q (.ref p) H))) eR:=fun h o H S xs vs R Q hs hx q c=>by
 obtain⟨x,rfl,ds,hd,q1⟩:=cA q;obtain⟨v,rfl,aa⟩:=hxs1 hx;obtain⟨a,ws,rfl,ea,l⟩:=lW hs hd aa;refine⟨a,ws,rfl,ea.elim (fun z=>.inr ⟨.of z,?_⟩) (fun z=>.inl ⟨.of z,iG hs l c q1⟩)⟩;have hh:HasX h o H (.d (.tuple ds)) (.ref a):=by
  unfold asQ at hd;split at hd
  ·cases hd;exact aa
  ·obtain⟨a',us,e1,e2,_⟩:=bN (x:=.d (.list _)) hs rfl aa;cases e1;rw[z]at e2;cases e2
  ·rename_i k;obtain⟨a',us,e1,e2,_⟩:=bN (x:=.l k) hs hd aa;cases e1;rw[z]at e2;cases e2
  ·cases hd
 exact c o H S _ _ Ex.refl hs hh q1
def gR:List XV->Sto->RX->Prop:=fun xs S R=>arg1 xs fun x=>∃ds,asQ S x=some ds/\R (.d (.list ds)) S
theorem G9{K:cy}:RC (fun xs H Q=>∃p ys,xs=[.ref p]/\(SqL K H p ys\/SqT K H p ys)/\∀l,H l=none->Q (.ref l) (upd H l (.lst ys))) gR:=fun h o H S xs vs R Q hs hx q c=>by
 obtain⟨x,rfl,ds,hd,q1⟩:=cA q;obtain⟨v,rfl,aa⟩:=hxs1 hx;obtain⟨a,ws,rfl,ea,l⟩:=lW hs hd aa;exact⟨a,ws,rfl,ea.elim (fun z=>.inr (.of z)) (fun z=>.inl (.of z)),gY hs l c q1⟩
theorem kK{H:Hp}:∀{ns:List Int}{vs:List V},HasL H (ns.map dj) vs->vs=ns.map V.int
 | [],vs,h=>zv.mp h
 |n::ns,vs,h=>by
  obtain⟨v,r,rfl,h1,h2⟩:=zp.mp h;rw[eU.mp h1,kK h2];rfl
def v3:List XV->Sto->RX->Prop:=fun xs S R=>arg1 xs fun x=>∃ds,asQ S x=some ds/\∃ns,ds=ns.map dj/\ns≠[]/\∀m,m∈ns->(∀a,a∈ns->m<=a)->R (.d (.int m)) S
def rL:List XV->Sto->RX->Prop:=fun xs S R=>arg1 xs fun x=>∃ds,asQ S x=some ds/\∃ns,ds=ns.map dj/\ns≠[]/\∀m,m∈ns->(∀a,a∈ns->a<=m)->R (.d (.int m)) S
theorem Eu{K:cy}:RC (rO K) v3:=fun h o H S xs vs R Q hs hx q c=>by
 obtain⟨x,rfl,ds,hd,ns,rfl,hn,q1⟩:=cA q;obtain⟨v,rfl,aa⟩:=hxs1 hx;obtain⟨a,ws,rfl,ea,l⟩:=lW hs hd aa;rw[kK l]at ea;exact⟨a,ns,rfl,ea.elim (fun z=>.inr (.of z)) (fun z=>.inl (.of z)),hn,fun m m1 m2=>c o H S _ _ Ex.refl hs (xI _) (q1 m m1 m2)⟩
theorem HV{K:cy}:RC (wL K) rL:=fun h o H S xs vs R Q hs hx q c=>by
 obtain⟨x,rfl,ds,hd,ns,rfl,hn,q1⟩:=cA q;obtain⟨v,rfl,aa⟩:=hxs1 hx;obtain⟨a,ws,rfl,ea,l⟩:=lW hs hd aa;rw[kK l]at ea;exact⟨a,ns,rfl,ea.elim (fun z=>.inr (.of z)) (fun z=>.inl (.of z)),hn,fun m m1 m2=>c o H S _ _ Ex.refl hs (xI _) (q1 m m1 m2)⟩
def dBM(rd:XV->List XV->Sto->RX->Prop)(e:DE)(a:DA):DE:=fun δ S R=>e δ S fun x S1=>∃k,x=.l k/\k<S1.length/\a δ S1 fun xs S2=>rd x xs S2 R
def fU(rd:XV->List XV->Sto->RX->Prop)(e:DE):DE:=fun δ S R=>e δ S fun x S1=>∃k,x=.l k/\k<S1.length/\rd x [] S1 R
def RM(r:V->List V->Hp->VK->Prop)(rd:XV->List XV->Sto->RX->Prop):Prop:=∀(h o:List Addr) (H:Hp) (S:Sto) (x:XV) (v:V) (xs:List XV) (vs:List V) (R:RX) (Q:VK),RepS h o H S->HasX h o H x v->HasXs h o H xs vs->rd x xs S R->Cn h o H R Q->r v vs H Q
theorem vP{K:cy}{H:Hp}{a:Addr}{vs:List V}(e:H a=some (.lst vs)):tyV K "list" (.ref a) H:=.inl ⟨rfl,vs,.of e⟩
theorem vH{h o:List Addr}{H:Hp}{S:Sto}{k:Nat}{v:V}(hs:RepS h o H S)(hk:k<S.length)(hx:HasX h o H (.l k) v):∃a vs,v=.ref a/\H a=some (.lst vs):=by
 obtain⟨a,e,rfl⟩:=hx;obtain⟨vs,e2,_⟩:=hs.cont k a _ e (cv hk);exact⟨a,vs,rfl,e2⟩
theorem kX{K:cy}{r:V->List V->Hp->VK->Prop}{rd:XV->List XV->Sto->RX->Prop}{te:TE}{de:DE}{tl:TA}{dl:DA}(hr:RM r rd)(z:RE te de)(ha:RA tl dl):RE (tBM K "list" r te tl) (dBM rd de dl):=fun h o H δ σ S R Q he hs q c=>
 z h o H δ σ S _ _ he hs q fun o1 H1 S1 x v e1 s1 x1 ⟨k,ek,hk,d1⟩=>by
  subst ek;obtain⟨a,ws,rfl,ea⟩:=vH s1 hk x1;exact⟨vP ea,ha h o1 H1 δ σ S1 _ _ (he.mono e1) s1 d1 fun o2 H2 S2 xs vs e2 s2 x2 d2=>hr h o2 H2 S2 (.l k) _ xs vs R Q s2 (x1.mono e2) x2 d2 (c.pre (e1.trans e2))⟩
theorem JM{K:cy}{r:V->List V->Hp->VK->Prop}{rd:XV->List XV->Sto->RX->Prop}{te:TE}{de:DE}(hr:RM r rd)(z:RE te de):RE (vR K "list" r te) (fU rd de):=fun h o H δ σ S R Q he hs q c=>
 z h o H δ σ S _ _ he hs q fun o1 H1 S1 x v e1 s1 x1 ⟨k,ek,hk,d1⟩=>by
  subst ek;obtain⟨a,ws,rfl,ea⟩:=vH s1 hk x1;exact⟨vP ea,hr h o1 H1 S1 (.l k) _ [] [] R Q s1 x1 rfl d1 (c.pre e1)⟩
def cN:XV->List XV->Sto->RX->Prop:=fun x xs S R=>∃k,x=.l k/\∃ds,S[k]?=some ds/\arg1 xs fun y=>asD y fun d=>ds.length<1000/\R (.d .none) (S.set k (ds++[d]))
theorem I0:RM Bz cN:=fun h o H S x v xs vs R Q hs hx z q c=>by
 obtain⟨k,rfl,ds,e,q1⟩:=q;obtain⟨y,rfl,q2⟩:=cA q1;obtain⟨d,rfl,hl,q3⟩:=qB q2;obtain⟨a,ea,rfl⟩:=hx;obtain⟨u,rfl,hu⟩:=hxs1 z;obtain⟨ws,ew,l⟩:=hs.cont k a ds ea e;exact⟨a,ws,u,rfl,rfl,ew,by rw[l.length];exact small1000 (ku hl),c o _ _ (.d .none) _ (Ex.upd ea) (hs.upd ea (l.append (zp.mpr ⟨u,[],rfl,hu,zv.mpr rfl⟩))) xN q3⟩
def iD:XV->List XV->Sto->RX->Prop:=fun x xs S R=>∃k,x=.l k/\∃ds,S[k]?=some ds/\xs=[]/\R (.d .none) (S.set k ds.reverse)
theorem ES:RM y4 iD:=fun h o H S x v xs vs R Q hs hx z q c=>by
 obtain⟨k,rfl,ds,e,rfl,q1⟩:=q;obtain⟨a,ea,rfl⟩:=hx;obtain⟨ws,ew,l⟩:=hs.cont k a ds ea e;cases z;exact⟨a,ws,rfl,rfl,ew,c o _ _ (.d .none) _ (Ex.upd ea) (hs.upd ea l.rev) xN q1⟩
def eY:XV->List XV->Sto->RX->Prop:=fun x xs S R=>∃k,x=.l k/\∃ds,S[k]?=some ds/\arg1 xs fun y=>∃es,dS S y=some es/\ds.length+es.length<=1000/\R (.d .none) (S.set k (ds++es))
theorem qL:RM xZ eY:=fun h o H S x v xs vs R Q hs hx z q c=>by
 obtain⟨k,rfl,ds,e,q1⟩:=q;obtain⟨y,rfl,es,ey,hl,q3⟩:=cA q1;obtain⟨a,ea,rfl⟩:=hx;obtain⟨u,rfl,hu⟩:=hxs1 z;obtain⟨ws,ew,l⟩:=hs.cont k a ds ea e;obtain⟨b,zs,rfl,eb,lb⟩:=bN hs ey hu;exact⟨a,b,ws,zs,rfl,rfl,ew,eb,by rw[l.length,lb.length];exact ku (small1000 hl),c o _ _ (.d .none) _ (Ex.upd ea) (hs.upd ea (l.append lb)) xN q3⟩
def ret0(S:Sto)(R:RX):RX:=fun y S'=>match y,S' with
 | .d d,[]=>R (.d d) S
 | .l 0,[ds]=>R (.l S.length) (S++[ds])
 |_,_=>False
def m6(k:Nat)(S:Sto)(R:RX):RX:=fun y S'=>match y,S' with
 | .d d,[p]=>R (.d d) (S.set k p)
 | .l 1,[p,ds]=>R (.l S.length) (S.set k p++[ds])
 |_,_=>False
section
variable {h o:List Addr}{H:Hp}{S:Sto}{R:RX}{Q:VK}
theorem hX{h o h' o':List Addr}{H:Hp}(e:∀b,(b∈h'\/b∈o')↔(b∈h\/b∈o)):vx h' o' H=vx h o H:=by
 funext b;have q:∀u,vx h' o' H b=some u↔vx h o H b=some u:=fun u=>by
  rw[aV,aV];have:=e b;constructor
  ·rintro⟨a1,a2,a3⟩;exact⟨fun m=>(this.mpr (.inl m)).elim a1 a2,fun m=>(this.mpr (.inr m)).elim a1 a2,a3⟩
  ·rintro⟨a1,a2,a3⟩;exact⟨fun m=>(this.mp (.inl m)).elim a1 a2,fun m=>(this.mp (.inr m)).elim a1 a2,a3⟩
 cases e1:vx h' o' H b with
 |some u=>exact((q u).mp e1).symm
 |none=>
  cases e2:vx h o H b with
  |none=>rfl
  |some u=>rw[(q u).mpr e2]at e1;cases e1
theorem rep0(hs:RepS h o H S):RepS (h++o) [] H [] where
 len:=rfl
 nd:=nodup_nil
 dis:=fun a ha=>by cases ha
 hal:=fun b hb=>(mem_append.mp hb).elim (hs.hal b) (hs.oam b)
 cont:=fun k a ds e=>by simp at e
theorem hx0{d:bo}{v:V}(hx:HasX h o H (.d d) v):HasX (h++o) [] H (.d d) v:=by
 show Has (vx (h++o) [] H) d v;rw[hX (h:=h) (o:=o) fun b=>by simp];exact hx
theorem hx0'{d:bo}{v:V}(hx:HasX (h++o) [] H (.d d) v):HasX h o H (.d d) v:=by
 show Has (vx h o H) d v;rw[<- hX (h':=h++o) (o':=[]) (h:=h) (o:=o) fun b=>by simp];exact hx
theorem cn0(hs:RepS h o H S)(c:Cn h o H R Q):Cn (h++o) [] H (ret0 S R) Q:=fun o' H' S' y v e s' hy q=>by
 have sm:Same H (vx [] o' H'):=fun b u eb=>by
  obtain⟨a1,a2⟩:=e.kp b u yv eb;exact aV.mpr ⟨yv,a1,a2⟩
 have sH:Same H H':=fun b u eb=>(aV.mp (sm b u eb)).2.2;unfold ret0 at q;split at q
 ·have e0:o'=[]:=gj s'.len.symm;subst e0;exact c o H' S _ v (Ex.of_same sH) (hs.same sH) (hx0' hy) q
 ·rename_i ds;obtain⟨a,rfl⟩:∃a,o'=[a]:=List.length_eq_one_iff.mp s'.len.symm;obtain⟨a',ea,rfl⟩:=hy;cases ea;obtain⟨vs,ev,l⟩:=s'.cont 0 a ds rfl rfl;have na:a∉h++o:=s'.dis a yv;have hn:H a=none:=by
   cases eh:H a with
   |none=>rfl
   |some u=>exact absurd (e.kp a u yv eh).1 yv
  have e2:Ex o H (o++[a]) H':=⟨⟨[a],rfl⟩,fun b u hb eb=>by
   obtain⟨a1,a2⟩:=e.kp b u yv eb;exact⟨by simp only[mem_append,not_or];exact⟨hb,a1⟩,a2⟩⟩
  have aa:vx (h++o) [a] H'=vx h (o++[a]) H':=hX fun b=>by simp[or_assoc]
  rw[aa]at l;refine c (o++[a]) H' (S++[ds]) (.l S.length) _ e2 ⟨by simp[hs.len],o0 hs.nd fun m=>na (ge _ m),fun b hb=>?_,fun b hb=>?_,fun k b es q1 q2=>?_⟩ ⟨a,by rw[hs.len,ck],rfl⟩ q
  ·rcases mem_append.mp hb with hb|hb
   ·exact hs.dis b hb
   ·rw[mem_singleton.mp hb];exact fun m=>na (jz _ m)
  ·obtain⟨u,eb⟩:=hs.hal b hb;exact⟨u,sH b _ eb⟩
  ·by_cases hk:k<o.length
   ·rw[fh hk]at q1;rw[fh (by rw[hs.len];exact hk)]at q2;obtain⟨ws,e3,l3⟩:=hs.cont k b es q1 q2;exact⟨ws,sH _ _ e3,l3.mono e2.vx⟩
   ·have z:k=o.length:=by
     obtain⟨q,_⟩:=List.getElem?_eq_some_iff.mp q1;rw[cu,fk]at q;omega
    subst z;rw[ck]at q1;rw[<- hs.len,ck]at q2;cases q1;cases q2;exact⟨vs,ev,l⟩
 ·exact q.elim
theorem o9{k:Nat}{a:Addr}{p:List bo}(hs:RepS h o H S)(ea:o[k]?=some a)(ep:S[k]?=some p):RepS (h++o.filter (fun b=>b≠a)) [a] H [p] where
 len:=rfl
 nd:=by simp
 dis:=fun b hb=>by
  rw[mem_singleton.mp hb];intro m;rcases mem_append.mp m with m|m
  ·exact hs.dis a (bv ea) m
  ·have:=(mem_filter.mp m).2;simp at this
 hal:=fun b hb=>(mem_append.mp hb).elim (hs.hal b) fun m=>hs.oam b (mem_filter.mp m).1
 cont:=fun j b ds e1 e2=>by
  cases j with
  |succ j=>simp at e1
  |zero=>
   cases e1;cases e2;obtain⟨vs,e3,l⟩:=hs.cont k a p ea ep;refine⟨vs,e3,?_⟩;rw[hX (h:=h) (o:=o) (mem_pen ea)];exact l
where
 mem_pen {h o:List Addr}{k:Nat}{a:Addr} (ea:o[k]?=some a) (b:Addr):(b∈h++o.filter (fun b=>b≠a)\/b∈[a])↔(b∈h\/b∈o):=by
  have ma:=bv ea;by_cases e:b=a
  ·subst e;simp[ma]
  ·simp[e]
theorem hxP{k:Nat}{a:Addr}{d:bo}{v:V}(ea:o[k]?=some a)(hx:HasX h o H (.d d) v):HasX (h++o.filter (fun b=>b≠a)) [a] H (.d d) v:=by
 show Has (vx _ _ H) d v;rw[hX (h:=h) (o:=o) (o9.mem_pen ea)];exact hx
theorem cnP{k:Nat}{a:Addr}{p:List bo}(hs:RepS h o H S)(ea:o[k]?=some a)(ep:S[k]?=some p)(c:Cn h o H R Q):Cn (h++o.filter (fun b=>b≠a)) [a] H (m6 k S R) Q:=fun o' H' S' y v e s' hy q=>by
 have ma:=bv ea;have hk:k<o.length:=(List.getElem?_eq_some_iff.mp ea).1;unfold m6 at q;split at q
 ·rename_i d p';obtain⟨r,rfl⟩:=e.pre;have er:r=[]:=by
   have:=s'.len;simp at this;exact this
  subst er;have ex:Ex o H o H':=⟨⟨[],yv⟩,fun b u hb eb=>⟨hb,(e.kp b u (fun m=>hb (by rw[mem_singleton.mp m];exact ma)) eb).2⟩⟩;obtain⟨vs,ev,l⟩:=s'.cont 0 a p' rfl rfl;have aa:vx (h++o.filter (fun b=>b≠a)) ([a]++[]) H'=vx h o H':=hX (o9.mem_pen ea);rw[aa]at l;refine c o H' (S.set k p') (.d d) v ex ⟨by simp[hs.len],hs.nd,hs.dis,fun b hb=>?_,fun j b es q1 q2=>?_⟩ (by
   have ab:Has (vx (h++o.filter (fun b=>b≠a)) ([a]++[]) H') d v:=hy;rw[aa]at ab;exact ab) q
  ·obtain⟨u,eb⟩:=hs.hal b hb;exact⟨u,(e.kp b _ (fun m=>hs.dis a ma (by rw[<- mem_singleton.mp m];exact hb)) eb).2⟩
  ·by_cases hj:j=k
   ·subst hj;rw[q1]at ea;cases ea;rw[li (by rw[hs.len];exact hk)]at q2;cases q2;exact⟨vs,ev,l⟩
   ·rw[pp (lr hj)]at q2;obtain⟨ws,e3,l3⟩:=hs.cont j b es q1 q2;have ne:b≠a:=fun z=>hj (lM hs.nd q1 (z▸ea));exact⟨ws,(e.kp b _ (by simp[ne]) e3).2,l3.mono ex.vx⟩
 ·rename_i p' ds;obtain⟨r,rfl⟩:=e.pre;obtain⟨a2,rfl⟩:∃a2,r=[a2]:=by
   have:=s'.len;simp at this;exact List.length_eq_one_iff.mp this
  obtain⟨b2,ag,rfl⟩:=hy;cases ag;obtain⟨vs,ev,l⟩:=s'.cont 0 a p' rfl rfl;obtain⟨af,ac,l2⟩:=s'.cont 1 a2 ds rfl rfl;have n2:a2∉h++o.filter (fun b=>b≠a):=s'.dis a2 yv;have n3:a≠a2:=by
   have:=s'.nd;simp at this;exact this
  have n4:a2∉o:=fun m=>n2 (ge _ (mem_filter.mpr ⟨m,by simp[lr n3]⟩));have ex:Ex o H (o++[a2]) H':=⟨⟨[a2],rfl⟩,fun b u hb eb=>by
   obtain⟨z1,z2⟩:=e.kp b u (fun m=>hb (by rw[mem_singleton.mp m];exact ma)) eb;refine⟨?_,z2⟩;simp only[mem_append,not_or];exact⟨hb,fun m=>z1 (by simp at m ⊢;exact .inr m)⟩⟩
  have aa:vx (h++o.filter (fun b=>b≠a)) ([a]++[a2]) H'=vx h (o++[a2]) H':=hX fun b=>by
   have:=o9.mem_pen (h:=h) ea b;simp only[mem_append]at this ⊢;rw[<- or_assoc,this,or_assoc]
  rw[aa]at l l2;refine c (o++[a2]) H' (S.set k p'++[ds]) (.l S.length) _ ex ⟨by simp[hs.len],o0 hs.nd n4,fun b hb=>?_,fun b hb=>?_,fun j b es q1 q2=>?_⟩ ⟨a2,by rw[hs.len,ck],rfl⟩ q
  ·rcases mem_append.mp hb with hb|hb
   ·exact hs.dis b hb
   ·rw[mem_singleton.mp hb];exact fun m=>n2 (jz _ m)
  ·obtain⟨u,eb⟩:=hs.hal b hb;exact⟨u,(e.kp b _ (fun m=>hs.dis a ma (by rw[<- mem_singleton.mp m];exact hb)) eb).2⟩
  ·by_cases hjo:j<o.length
   ·rw[fh hjo]at q1;rw[fh (by rw[length_set,hs.len];exact hjo)]at q2;by_cases hj:j=k
    ·subst hj;rw[q1]at ea;cases ea;rw[li (by rw[hs.len];exact hk)]at q2;cases q2;exact⟨vs,ev,l⟩
    ·rw[pp (lr hj)]at q2;obtain⟨ws,e3,l3⟩:=hs.cont j b es q1 q2;have ne:b≠a:=fun z=>hj (lM hs.nd q1 (z▸ea));exact⟨ws,(e.kp b _ (by simp[ne]) e3).2,l3.mono ex.vx⟩
   ·have ae:j=o.length:=by
     obtain⟨q,_⟩:=List.getElem?_eq_some_iff.mp q1;rw[cu,fk]at q;omega
    subst ae;rw[ck]at q1;rw[<- hs.len,<- length_set (i:=k) (a:=p'),ck]at q2;cases q1;cases q2;exact⟨af,ac,l2⟩
 ·exact q.elim
end
structure DEnds where
 nx:XE->Sto->Prop
 rt:RX
 bk:XE->Sto->Prop:=fun _ _=>False
 ct:XE->Sto->Prop:=fun _ _=>False
abbrev DS:=DEnds->XE->Sto->Prop
abbrev DG:=XV->XE->Sto->(XE->Sto->Prop)->Prop
abbrev DGs:=List bo->XE->Sto->(XE->Sto->Prop)->Prop
def Nx(h o:List Addr)(H:Hp)(N:XE->Sto->Prop)(M:St->Hp->Prop):Prop:=∀o' H' δ' S' σ',Ex o H o' H'->RepE h o' H' δ' σ'->RepS h o' H' S'->N δ' S'->M σ' H'
theorem Nx.pre{h o o':List Addr}{H H':Hp}{N:XE->Sto->Prop}{M:St->Hp->Prop}(c:Nx h o H N M)(e:Ex o H o' H'):Nx h o' H' N M:=fun o2 H2 δ2 S2 σ2 e2=>c o2 H2 δ2 S2 σ2 (e.trans e2)
structure EOk(h o:List Addr)(H:Hp)(E:DEnds)(D:Ends):Prop where
 nx:Nx h o H E.nx D.nx
 rt:Cn h o H E.rt D.rt
 bk:Nx h o H E.bk D.bk
 ct:Nx h o H E.ct D.ct
theorem EOk.pre{h o o':List Addr}{H H':Hp}{E:DEnds}{D:Ends}(c:EOk h o H E D)(e:Ex o H o' H'):EOk h o' H' E D:=⟨c.nx.pre e,c.rt.pre e,c.bk.pre e,c.ct.pre e⟩
def RS(t:TS)(dt:DS):Prop:=∀(h o:List Addr) (H:Hp) (δ:XE) (σ:St) (S:Sto) (E:DEnds) (D:Ends),RepE h o H δ σ->RepS h o H S->dt E δ S->EOk h o H E D->t D σ H
def RG(t:TG)(dt:DG):Prop:=∀(h o:List Addr) (H:Hp) (δ:XE) (σ:St) (S:Sto) (x:XV) (v:V) (N:XE->Sto->Prop) (M:St->Hp->Prop),RepE h o H δ σ->RepS h o H S->HasX h o H x v->dt x δ S N->Nx h o H N M->t v σ H M
def RGs(t:TGs)(dt:DGs):Prop:=∀(h o:List Addr) (H:Hp) (δ:XE) (σ:St) (S:Sto) (ds:List bo) (vs:List V) (N:XE->Sto->Prop) (M:St->Hp->Prop),RepE h o H δ σ->RepS h o H S->HasL (vx h o H) ds vs->dt ds δ S N->Nx h o H N M->t vs σ H M
def zh(i:Nat):DG:=fun x δ S N=>N (δ.set i (some x)) S
def cF:DGs:=fun ds δ S N=>ds=[]/\N δ S
def hdD:List bo->(bo->List bo->Prop)->Prop
 |d::es,k=>k d es
 | [],_=>False
theorem D8{ds:List bo}{k:bo->List bo->Prop}(h:hdD ds k):∃d es,ds=d::es/\k d es:=by
 cases ds with
 |nil=>exact h.elim
 |cons d es=>exact⟨d,es,rfl,h⟩
theorem nF{d:bo}{es:List bo}{k:bo->List bo->Prop}:hdD (d::es) k=k d es:=rfl
def aR(g:DG)(r:DGs):DGs:=fun ds δ S N=>hdD ds fun d es=>g (.d d) δ S fun δ' S'=>r es δ' S' N
def cH(n:Nat)(r:DGs):DG:=fun x δ S N=>asT x fun ds=>ds.length=n/\r ds δ S N
def gN(a b:DE):DG:=fun x δ S N=>a δ S fun y S1=>b δ S1 fun z S2=>asD x fun d=>∃k,y=.l k/\∃ds,S2[k]?=some ds/\asI z fun i=>∃j,ixN ds.length i=some j/\N δ (S2.set k (ds.set j d))
theorem zC{i:Nat}:RG (g0 i) (zh i):=fun h o H δ σ S x v N M he hs hx q c=>c o H _ S _ Ex.refl (he.set hx) hs q
theorem tR:RGs v6 cF:=fun h o H δ σ S ds vs N M he hs l ⟨e,q⟩ c=>by
 subst e;exact⟨zv.mp l,c o H δ S σ Ex.refl he hs q⟩
theorem j6{t:TG}{u:TGs}{g:DG}{r:DGs}(h1:RG t g)(h2:RGs u r):RGs (x4 t u) (aR g r):=fun h o H δ σ S ds vs N M he hs l q0 c=>by
 obtain⟨d,es,rfl,q⟩:=D8 q0;obtain⟨v,ws,rfl,hv,l⟩:=zp.mp l;exact⟨v,ws,rfl,h1 h o H δ σ S (.d d) v _ _ he hs hv q fun o1 H1 δ1 S1 σ1 e1 aa z q1=>h2 h o1 H1 δ1 σ1 S1 es ws N M aa z (l.mono e1.vx) q1 (c.pre e1)⟩
theorem uJ{K:cy}{n:Nat}{t:TGs}{r:DGs}(h1:RGs t r):RG (CH K n t) (cH n r):=fun h o H δ σ S x v N M he hs hx q c=>by
 replace q:=fW q;obtain⟨ds,rfl,hn,q⟩:=q;obtain⟨a,vs,rfl,ea,l⟩:=dH hx;exact⟨a,vs,rfl,.of ea,by rw[l.length];exact hn,h1 h o H δ σ S ds vs N M he hs l q c⟩
theorem HasL.setAt{H:Hp}:∀{ds:List bo}{vs:List V}{j:Nat}{d:bo}{v:V},HasL H ds vs->Has H d v->HasL H (ds.set j d) (vs.set j v)
 | [],vs,j,d,v,l,_=>by rw[zv.mp l];exact zv.mpr rfl
 |c::ds,vs,0,d,v,l,q=>by
  obtain⟨u,r,rfl,_,l⟩:=zp.mp l;exact zp.mpr ⟨v,r,rfl,q,l⟩
 |c::ds,vs,j+1,d,v,l,q=>by
  obtain⟨u,r,rfl,hu,l⟩:=zp.mp l;exact zp.mpr ⟨u,r.set j v,rfl,hu,HasL.setAt l q⟩
theorem EH{ta tb:TE}{da db:DE}(ha:RE ta da)(hb:RE tb db):RG (Cb ta tb BG) (gN da db):=fun h o H δ σ S x v N M he hs hx q c=>
 ha h o H δ σ S _ _ he hs q fun o1 H1 S1 y u e1 s1 y1 d1=>hb h o1 H1 δ σ S1 _ _ (he.mono e1) s1 d1 fun o2 H2 S2 z w e2 s2 z2 d0=>by
  obtain⟨d,rfl,k,rfl,ds,es,d2⟩:=qB d0;replace d2:=bA d2;obtain⟨i,rfl,j,ej,d2⟩:=d2;obtain⟨a,ea,rfl⟩:=y1.mono e2;obtain⟨ws,ew,l⟩:=s2.cont k a ds ea es;refine⟨a,ws,i,j,rfl,aZ z2,ew,by rw[l.length];exact ej,?_⟩;exact c o2 _ δ _ σ ((e1.trans e2).trans (Ex.upd ea)) (((he.mono e1).mono e2).mono (Ex.upd ea)) (s2.upd ea (l.setAt (hx.mono (e1.trans e2)))) d2
def aO:DS:=fun E δ S=>E.nx δ S
def zM(t u:DS):DS:=fun E δ S=>t { E with nx:=u E } δ S
def aA(e:DE)(g:DG):DS:=fun E δ S=>e δ S fun x S1=>g x δ S1 E.nx
def bQ(e:DE):DS:=fun E δ S=>e δ S fun _ S1=>E.nx δ S1
def aB(e:DE):DS:=fun E δ S=>e δ S E.rt
def aL(c:DT)(t u:DS):DS:=fun E δ S=>c δ S fun b S1=>if b=true then t E δ S1 else u E δ S1
section
variable {t u:TS}{dt du:DS}{te:TE}{de:DE}
theorem jO:RS rX aO:=fun h o H δ σ S E D he hs q c=>c.nx o H δ S σ Ex.refl he hs q
theorem zE(ht:RS t dt)(hu:RS u du):RS (cJ t u) (zM dt du):=fun h o H δ σ S E D he hs q c=>
 ht h o H δ σ S _ _ he hs q ⟨fun o1 H1 δ1 S1 σ1 e1 aa z q1=>hu h o1 H1 δ1 σ1 S1 E D aa z q1 (c.pre e1),c.rt,c.bk,c.ct⟩
theorem bT{g:TG}{dg:DG}(z:RE te de)(hg:RG g dg):RS (m9 te g) (aA de dg):=fun h o H δ σ S E D he hs q c=>
 z h o H δ σ S _ _ he hs q fun o1 H1 S1 x v e1 s1 x1 d1=>hg h o1 H1 δ σ S1 x v _ _ (he.mono e1) s1 x1 d1 (c.nx.pre e1)
theorem mF(z:RE te de):RS (BW te) (bQ de):=fun h o H δ σ S E D he hs q c=>
 z h o H δ σ S _ _ he hs q fun o1 H1 S1 x v e1 s1 x1 d1=>c.nx o1 H1 δ S1 σ e1 (he.mono e1) s1 d1
theorem d8(z:RE te de):RS (rG te) (aB de):=fun h o H δ σ S E D he hs q c=>z h o H δ σ S _ _ he hs q c.rt
theorem gE{tc:TT}{dc:DT}(hc:RT tc dc)(ht:RS t dt)(hu:RS u du):RS (uB tc t u) (aL dc dt du):=fun h o H δ σ S E D he hs q c=>
 hc h o H δ σ S _ _ he hs q fun o1 H1 S1 b e1 s1 d1=>by
  cases b with
  |true=>exact gG (ht h o1 H1 δ σ S1 E D (he.mono e1) s1 (by simpa using d1) (c.pre e1))
  |false=>exact gQ (hu h o1 H1 δ σ S1 E D (he.mono e1) s1 (by simpa using d1) (c.pre e1))
def frz(n:Nat)(ds:List bo):Option XV->Option XV
 |some (.l k)=>if k=n then some (.d (.list ds))else some (.l k)
 |some (.p k d)=>if k=n then some (.d (.tuple [.list ds,d]))else some (.p k d)
 |y=>y
end
abbrev DI:=XE->Sto->(List bo->Sto->Prop)->Prop
structure WalkX(h o:List Addr)(H:Hp)(J:It)(ds:List bo):Prop where
 stop:∀(i:Nat) o2 H2,ExH h o H o2 H2->ds.length<=i->J.stop i H2
 go:∀(i:Nat) d o2 H2,ExH h o H o2 H2->ds[i]?=some d->J.go i H2
 yld:∀(i:Nat) d o2 H2 x H3 S2,ExH h o H o2 H2->RepS h o2 H2 S2->ds[i]?=some d->J.yld i H2 x H3->Same H2 H3/\Has (vx h o2 H3) d x
def RI(w:TI)(di:DI):Prop:=∀(h o:List Addr) (H:Hp) (δ:XE) (σ:St) (S:Sto) (R:List bo->Sto->Prop) (Q:It->Hp->Prop),RepE h o H δ σ->RepS h o H S->di δ S R ->
 (∀o' H' S' ds J,Ex o H o' H'->RepS h o' H' S'->WalkX h o' H' J ds->R ds S'->Q J H')->w σ H Q
theorem JK{h o:List Addr}{H:Hp}{lo:Int}{n:Nat}:WalkX h o H (Itr lo n) (eW lo n) where
 stop:=fun i _ _ _ hi=>by rw[g8]at hi;exact hi
 go:=fun i d _ _ _ hi=>(oP hi).1
 yld:=fun i d o2 H2 x H3 S2 _ _ hi y=>by
  obtain⟨e,ex⟩:=y;subst e ex;rw[(oP hi).2];exact⟨Same.refl _,eU.mpr rfl⟩
def jV(g:DG)(b:DS):List bo->DS
 | [],E,δ,S=>E.nx δ S
 |d::ds,E,δ,S=>g (.d d) δ S fun δ1 S1=>b { nx:=fun δ2 S2=>jV g b ds E δ2 S2,ct:=fun δ2 S2=>jV g b ds E δ2 S2,bk:=E.nx,rt:=E.rt } δ1 S1
def bU(i:DI)(g:DG)(b:DS):DS:=fun E δ S=>i δ S fun ds S1=>jV g b ds E δ S1
theorem gW{wi:TI}{g:TG}{tb:TS}{di:DI}{dg:DG}{db:DS}(hi:RI wi di)(hg:RG g dg)(hb:RS tb db):RS (pG wi g tb) (bU di dg db):=fun h o H δ σ S E D he hs q c=>
 hi h o H δ σ S _ _ he hs q fun o1 H1 S1 ds J e1 s1 wk d1=>by
  refine⟨fun i m σ2 H2=>m=ds.length-i/\i<=ds.length/\∃o2 δ2 S2,Ex o1 H1 o2 H2/\RepE h o2 H2 δ2 σ2/\RepS h o2 H2 S2/\jV dg db (ds.drop i) E δ2 S2,⟨ds.length,yv,ji _,o1,δ,S1,Ex.refl,he.mono e1,s1,d1⟩,?_⟩;rintro i m σ2 H2 ⟨rfl,hi,o2,δ2,S2,e2,ae,ab,d2⟩;by_cases hlt:i<ds.length
  ·have ed:ds[i]?=some ds[i]:=cv hlt;rw[List.drop_eq_getElem_cons hlt]at d2;refine .inr ⟨wk.go i _ o2 H2 e2.hid ed,fun σ3 H3=>∃o3 δ3 S3,Ex o1 H1 o3 H3/\RepE h o3 H3 δ3 σ3/\RepS h o3 H3 S3/\jV dg db (ds.drop (i+1)) E δ3 S3,fun σ3 H3 n=>⟨ds.length-(i+1),yw,rfl,hlt,n⟩,fun x H3 y=>?_⟩;obtain⟨s3,hx⟩:=wk.yld i _ o2 H2 x H3 S2 e2.hid ab ed y;have af:Ex o2 H2 o2 H3:=Ex.of_same s3;refine hg h o2 H3 δ2 σ2 S2 (.d ds[i]) x _ _ (ae.mono af) (ab.same s3) hx d2 fun o4 H4 δ4 S4 σ4 e4 ah ag d4=>?_;have ac:Ex o1 H1 o4 H4:=(e2.trans af).trans e4;have ce:=(c.pre e1).pre ac;exact hb h o4 H4 δ4 σ4 S4 _ _ ah ag d4 ⟨fun o5 H5 δ5 S5 σ5 e5 z aa d5=>⟨o5,δ5,S5,ac.trans e5,z,aa,d5⟩,ce.rt,ce.nx,fun o5 H5 δ5 S5 σ5 e5 z aa d5=>⟨o5,δ5,S5,ac.trans e5,z,aa,d5⟩⟩
  ·have ei:i=ds.length:=yw
   subst ei;rw[List.drop_length]at d2;exact .inl ⟨wk.stop _ o2 H2 e2.hid (cx _),c.nx o2 H2 δ2 S2 σ2 (e1.trans e2) ae ab d2⟩
def mR(cd:DT)(b:DS):DS:=fun E δ S=>∃W:Nat->XE->Sto->Prop,(∃m,W m δ S)/\∀m δ S,W m δ S ->
 cd δ S fun x S1=>if x=true then ∃N:XE->Sto->Prop,(∀ δ' S',N δ' S'->∃m',m'<m/\W m' δ' S')/\b { nx:=N,ct:=N,bk:=E.nx,rt:=E.rt } δ S1 else E.nx δ S1
theorem uO{tc:TT}{tb:TS}{dc:DT}{db:DS}(hc:RT tc dc)(hb:RS tb db):RS (BX tc tb) (mR dc db):=fun h o H δ σ S E D he hs ⟨W,⟨m0,w0⟩,q⟩ c=>by
 refine⟨fun m σ2 H2=>∃o2 δ2 S2,Ex o H o2 H2/\RepE h o2 H2 δ2 σ2/\RepS h o2 H2 S2/\W m δ2 S2,⟨m0,o,δ,S,Ex.refl,he,hs,w0⟩,?_⟩;rintro m σ2 H2 ⟨o2,δ2,S2,e2,ab,af,w2⟩;refine hc h o2 H2 δ2 σ2 S2 _ _ ab af (q m δ2 S2 w2) fun o3 H3 S3 b e3 s3 d3=>?_;cases b with
 |false=>exact gQ (c.nx o3 H3 δ2 S3 σ2 (e2.trans e3) (ab.mono e3) s3 (by simpa using d3))
 |true=>
  refine gG ?_;obtain⟨N,n1,d3⟩:∃N:XE->Sto->Prop,(∀ δ' S',N δ' S'->∃m',m'<m/\W m' δ' S')/\db { nx:=N,ct:=N,bk:=E.nx,rt:=E.rt } δ2 S3:=by simpa using d3
  have ac:=e2.trans e3;have ce:=c.pre ac;refine⟨fun σ4 H4=>∃o4 δ4 S4,Ex o H o4 H4/\RepE h o4 H4 δ4 σ4/\RepS h o4 H4 S4/\N δ4 S4,fun σ4 H4 ⟨o4,δ4,S4,e4,ag,ae,n4⟩=>?_,?_⟩
  ·obtain⟨m',hm,w'⟩:=n1 δ4 S4 n4;exact⟨m',hm,o4,δ4,S4,e4,ag,ae,w'⟩
  ·exact hb h o3 H3 δ2 σ2 S3 _ _ (ab.mono e3) s3 d3 ⟨fun o5 H5 δ5 S5 σ5 e5 z aa d5=>⟨o5,δ5,S5,ac.trans e5,z,aa,d5⟩,ce.rt,ce.nx,fun o5 H5 δ5 S5 σ5 e5 z aa d5=>⟨o5,δ5,S5,ac.trans e5,z,aa,d5⟩⟩
def aM:DT:=fun _ S R=>R true S
theorem cY:RT Ca aM:=fun h o H δ σ S R Q he hs q c=>c o H S true Ex.refl hs q
def aY(n:Nat)(g:DG)(tt:DT)(te:DE)(fin:Sto->Prop):List bo->XE->Sto->Prop
 | [],_,S=>fin S
 |d::ds,τ,S=>g (.d d) τ S fun τ1 S1=>tt τ1 S1 fun b S2=>if b=true then te τ1 S2 fun x S3=>asD x fun e=>∃acc,S3[n]?=some acc/\acc.length<1000/\aY n g tt te fin ds τ1 (S3.set n (acc++[e]))else aY n g tt te fin ds τ1 S2
def fY(caps:List (Option Nat))(i:DI)(g:DG)(tt:DT)(te:DE):DE:=fun δ S R=>i δ S fun ds S1=>aY S1.length g tt te (fun S2=>R (.l S1.length) S2) ds (d9 caps δ) (S1++[[]])
def bK(caps:List (Option Nat))(i:DI)(g:DG)(tt:DT)(te:DE):DE:=fun δ S R=>i δ S fun ds S1=>aY S1.length g tt te (fun S2=>∃S0 acc,S2=S0++[acc]/\S0.length=S1.length/\R (.d (.list acc)) S0) ds (d9 caps δ) (S1++[[]])
theorem RepS.pop{h o r:List Addr}{H:Hp}{S0 T:Sto}(hs:RepS h (o++r) H (S0++T))(hl:S0.length=o.length):RepS h o H S0 where
 len:=hl
 nd:=(nodup_append.mp hs.nd).1
 dis:=fun a ha=>hs.dis a (jz _ ha)
 hal:=hs.hal
 cont:=fun k a ds e1 e2=>by
  obtain⟨vs,e3,l⟩:=hs.cont k a ds (fQ e1) (fQ e2);exact⟨vs,e3,l.mono fun b u e=>by
   obtain⟨z1,z2,z3⟩:=aV.mp e;exact aV.mpr ⟨z1,fun m=>z2 (jz _ m),z3⟩⟩
theorem dP{h o r:List Addr}{H:Hp}:Same (vx h (o++r) H) (vx h o H):=fun b u e=>by
 obtain⟨z1,z2,z3⟩:=aV.mp e;exact aV.mpr ⟨z1,fun m=>z2 (jz _ m),z3⟩
theorem Ex.pop{o o' r:List Addr}{H H':Hp}(e:Ex o H (o++r) H'):Ex o H o H':=⟨⟨[],yv⟩,fun b u hb eb=>⟨hb,(e.kp b u hb eb).2⟩⟩
theorem vV{caps:List (Option Nat)}{wi:TI}{g:TG}{tt:TT}{te:TE}{di:DI}{dg:DG}{ab:DT}{ac:DE}(hi:RI wi di)(hg:RG g dg)(ht:RT tt ab)(ai:RE te ac)
  {h o:List Addr}{H:Hp}{δ:XE}{σ:St}{S:Sto}{Q:VK}{fin:Nat->Sto->Prop} (he:RepE h o H δ σ) (hs:RepS h o H S) (q:di δ S fun ds S1=>aY S1.length dg ab ac (fin S1.length) ds (d9 caps δ) (S1++[[]]))
  (c:∀o1 H1 D o2 H2 S2,Ex o H o1 H1->H1 D=none->Ex (o1++[D]) (upd H1 D (.lst [])) o2 H2->RepS h o2 H2 S2->fin o1.length S2->Q (.ref D) H2):kG caps wi g tt te σ H Q:=by
 refine hi h o H δ σ S _ _ he hs q fun o1 H1 S1 ds J e1 s1 wk d1 D hD=>?_;have eN:Ex o1 H1 (o1++[D]) (upd H1 D (.lst [])):=Ex.new s1 hD;have sN:RepS h (o1++[D]) (upd H1 D (.lst [])) (S1++[[]]):=s1.new hD (zv.mpr rfl);have hn:S1.length=o1.length:=s1.len;refine⟨fun i m τ H2=>m=ds.length-i/\i<=ds.length/\∃o2 δ2 S2,Ex (o1++[D]) (upd H1 D (.lst [])) o2 H2/\RepE h o2 H2 δ2 τ/\RepS h o2 H2 S2/\aY S1.length dg ab ac (fin S1.length) (ds.drop i) δ2 S2,⟨ds.length,yv,ji _,_,_,_,Ex.refl,((he.mono e1).mono eN).tau,sN,d1⟩,?_⟩;rintro i m τ H2 ⟨rfl,hi,o2,δ2,S2,e2,ak,ae,d2⟩;by_cases hlt:i<ds.length
 ·have ed:ds[i]?=some ds[i]:=cv hlt;rw[List.drop_eq_getElem_cons hlt]at d2;refine .inr ⟨wk.go i _ o2 H2 (eN.trans e2).hid ed,fun x H3 y=>?_⟩;obtain⟨s3,hx⟩:=wk.yld i _ o2 H2 x H3 S2 (eN.trans e2).hid ae ed y;have ag:Ex o2 H2 o2 H3:=Ex.of_same s3;refine hg h o2 H3 δ2 τ S2 (.d ds[i]) x _ _ (ak.mono ag) (ae.same s3) hx d2 fun o4 H4 δ4 S4 τ4 e4 aa aj d4=>?_;refine ht h o4 H4 δ4 τ4 S4 _ _ aa aj d4 fun o5 H5 S5 b e5 s5 d5=>?_;have af:=((e2.trans ag).trans e4).trans e5;cases b with
  |false=>exact gQ ⟨ds.length-(i+1),yw,rfl,hlt,o5,δ4,S5,af,aa.mono e5,s5,by simpa using d5⟩
  |true=>
   refine gG (ai h o5 H5 δ4 τ4 S5 _ _ (aa.mono e5) s5 (by simpa using d5) fun o6 H6 S6 z v e6 s6 z6 d6=>?_);replace d6:=qB d6;obtain⟨e,rfl,acc,ea,hl,d6⟩:=d6;have ah:=af.trans e6;have eD:o6[S1.length]?=some D:=by
    obtain⟨r,rfl⟩:=ah.pre;rw[hn];exact fQ (by rw[ck])
   obtain⟨vs,ev,l⟩:=s6.cont _ D acc eD ea;refine⟨vs,ev,by rw[l.length];exact small1000 (ku hl),ds.length-(i+1),yw,rfl,hlt,o6,δ4,_,ah.trans (Ex.upd eD),((aa.mono e5).mono e6).mono (Ex.upd eD),s6.upd eD (l.append (zp.mpr ⟨v,[],rfl,z6,zv.mpr rfl⟩)),d6⟩
 ·have ei:i=ds.length:=yw
  subst ei;rw[List.drop_length]at d2;exact .inl ⟨wk.stop _ o2 H2 (eN.trans e2).hid (cx _),c o1 H1 D o2 H2 S2 e1 hD e2 ae (hn▸d2)⟩
theorem x3{caps:List (Option Nat)}{wi:TI}{g:TG}{tt:TT}{te:TE}{di:DI}{dg:DG}{z:DT}{aa:DE}(hi:RI wi di)(hg:RG g dg)(ht:RT tt z)(ab:RE te aa):RE (kG caps wi g tt te) (fY caps di dg z aa):=fun h o H δ σ S R Q he hs q c=>by
 refine vV (fin:=fun n S2=>R (.l n) S2) hi hg ht ab he hs q fun o1 H1 D o2 H2 S2 e1 hD e2 s2 f=>?_;have eN:Ex o1 H1 (o1++[D]) (upd H1 D (.lst [])):=⟨⟨[D],rfl⟩,fun b w hb e=>by
  have ne:b≠D:=zS e hD;exact⟨by simp[hb,ne],by rw[aX ne];exact e⟩⟩
 refine c o2 H2 S2 (.l o1.length) _ ((e1.trans eN).trans e2) s2 ⟨D,?_,rfl⟩ f;obtain⟨r,rfl⟩:=e2.pre;exact fQ (by rw[ck])
theorem cX{caps:List (Option Nat)}{wi:TI}{g:TG}{tt:TT}{te:TE}{di:DI}{dg:DG}{aa:DT}{ab:DE}(hi:RI wi di)(hg:RG g dg)(ht:RT tt aa)(ac:RE te ab):RE (kG caps wi g tt te) (bK caps di dg aa ab):=fun h o H δ σ S R Q he hs q c=>by
 refine vV (fin:=fun n S2=>∃(S0:Sto) (acc:List bo),S2=S0++[acc]/\S0.length=n/\R (.d (.list acc)) S0) hi hg ht ac he hs q fun o1 H1 D o2 H2 S2 e1 hD e2 s2 ⟨S0,acc,eS,hl,f⟩=>?_;subst eS;have eN:Ex o1 H1 (o1++[D]) (upd H1 D (.lst [])):=⟨⟨[D],rfl⟩,fun b w hb e=>by
  have ne:b≠D:=zS e hD;exact⟨by simp[hb,ne],by rw[aX ne];exact e⟩⟩
 have z:=eN.trans e2;obtain⟨r,rfl⟩:=e2.pre;have er:r=[]:=by
  have:=s2.len;simp only[cu,fk,hl]at this;exact gj yw
 subst er;rw[km]at s2 z;have s0:RepS h o1 H2 S0:=s2.pop hl;refine c o1 H2 S0 (.d (.list acc)) _ (e1.trans (Ex.pop (o':=o1) z)) s0 ?_ f;obtain⟨vs,ev,l⟩:=s2.cont o1.length D acc (by rw[ck]) (by rw[<- hl,ck]);have nD:D∉o1:=by
  have:=(nodup_append.mp s2.nd).2.2;intro m;exact this D m D yv rfl
 exact dA.mpr ⟨D,vs,rfl,aV.mpr ⟨s2.dis D yv,nD,ev⟩,l.mono dP⟩
def fin(n:Nat)(R:RX):RX:=fun y S'=>match y with
 | .l k=>if k<n then R (.l k) (S'.take n)else ∃ds,S'[k]?=some ds/\(R (.d (.list ds)) (S'.take n)\/R (.l n) (S'.take n++[ds]))
 | .p k d=>n<=k/\∃ds,S'[k]?=some ds/\R (.p n d) (S'.take n++[ds])
 |y=>R y (S'.take n)
theorem CY{h o r:List Addr}{H H':Hp}{S S':Sto}{k:Nat}{a:Addr}{ds:List bo}(hs:RepS h o H S)(e:Ex o H (o++r) H')(s':RepS h (o++r) H' S')(hk:¬ k<S.length)(ea:(o++r)[k]?=some a)(ab:S'[k]?=some ds):
  Ex o H (o++[a]) H'/\Same (vx h (o++r) H') (vx h (o++[a]) H')/\RepS h (o++[a]) H' (S'.take S.length++[ds]):=by
 have eS:S'=S'.take S.length++S'.drop S.length:=(ky _ _).symm;have hl:(S'.take S.length).length=o.length:=by
  have:=s'.len;rw[cu]at this;rw[jw,this,hs.len];omega
 have s0:RepS h o H' (S'.take S.length):=by
  rw[eS]at s';exact s'.pop hl
 have e0:Ex o H o H':=Ex.pop (o':=o) e;obtain⟨vs,ev,l⟩:=s'.cont k a ds ea ab;have na:a∉o:=fun m=>by
  obtain⟨j,ej⟩:=mem_iff_getElem?.mp m;have hj:j<o.length:=(List.getElem?_eq_some_iff.mp ej).1;have:=lM s'.nd (fQ (t:=r) ej) ea;rw[hs.len]at hk;omega
 have nh:a∉h:=s'.dis a (bv ea);have hn:H a=none:=by
  cases eh:H a with
  |none=>rfl
  |some u=>exact absurd (bv ea) (e.kp a u na eh).1
 have e1:Ex o H (o++[a]) H':=⟨⟨[a],rfl⟩,fun b u hb eb=>⟨by simp only[mem_append,mem_singleton,not_or];exact⟨hb,zS eb hn⟩,(e0.kp b u hb eb).2⟩⟩;have sub:Same (vx h (o++r) H') (vx h (o++[a]) H'):=fun b u eb=>by
  obtain⟨z1,z2,z3⟩:=aV.mp eb;refine aV.mpr ⟨z1,?_,z3⟩;simp only[mem_append,mem_singleton,not_or];exact⟨fun m=>z2 (jz _ m),fun z=>z2 (by rw[z];exact bv ea)⟩
 refine⟨e1,sub,⟨by rw[cu,cu,hl];rfl,o0 hs.nd na,fun b hb=>?_,s0.hal,fun j b es q1 q2=>?_⟩⟩
 ·rcases mem_append.mp hb with hb|hb
  ·exact hs.dis b hb
  ·rw[mem_singleton.mp hb];exact nh
 ·by_cases hj:j<o.length
  ·rw[fh hj]at q1;rw[fh (by rw[hl];exact hj),List.getElem?_take_of_lt (by rw[hs.len];exact hj)]at q2;obtain⟨ws,e3,l3⟩:=s'.cont j b es (fQ q1) q2;exact⟨ws,e3,l3.mono sub⟩
  ·have aa:j=o.length:=by
    obtain⟨q,_⟩:=List.getElem?_eq_some_iff.mp q1;rw[cu,fk]at q;omega
   subst aa;rw[ck]at q1;rw[<- hl,ck]at q2;cases q1;cases q2;exact⟨vs,ev,l.mono sub⟩
theorem Ac{h o:List Addr}{H:Hp}{S:Sto}{R:RX}{Q:VK}(hs:RepS h o H S)(c:Cn h o H R Q):Cn h o H (fin S.length R) Q:=fun o' H' S' y v e s' hy q=>by
 obtain⟨r,rfl⟩:=e.pre;have eS:S'=S'.take S.length++S'.drop S.length:=(ky _ _).symm;have hl:(S'.take S.length).length=o.length:=by
  have:=s'.len;rw[cu]at this;rw[jw,this,hs.len];omega
 have s0:RepS h o H' (S'.take S.length):=by
  rw[eS]at s';exact s'.pop hl
 have e0:Ex o H o H':=Ex.pop (o':=o) e;cases y with
 |d d=>exact c o H' _ (.d d) v e0 s0 (Has.mono dP d v hy) q
 |o w=>exact c o H' _ (.o w) v e0 s0 hy q
 |x C fs=>exact c o H' _ (.x C fs) v e0 s0 (HasE.mono dP hy) q
 |p k d=>
  obtain⟨hk,ds,z,q⟩:=q;obtain⟨t,a,u,rfl,ea,et,hu⟩:=hy;obtain⟨e1,sub,s1⟩:=CY hs e s' yw ea z;exact c (o++[a]) H' _ (.p S.length d) _ e1 s1 ⟨t,a,u,rfl,by rw[hs.len,ck],sub _ _ et,Has.mono sub _ _ hu⟩ q
 |l k=>
  unfold fin at q;by_cases hk:k<S.length
  ·simp only[hk,↓reduceIte]at q;obtain⟨a,ea,rfl⟩:=hy;exact c o H' _ (.l k) _ e0 s0 ⟨a,by rw[fh (by rw[<- hs.len];exact hk)]at ea;exact ea,rfl⟩ q
  ·simp only[hk,↓reduceIte]at q;obtain⟨ds,z,q⟩:=q;obtain⟨a,ea,rfl⟩:=hy;obtain⟨vs,ev,l⟩:=s'.cont k a ds ea z;have na:a∉o:=fun m=>by
    obtain⟨j,ej⟩:=mem_iff_getElem?.mp m;have hj:j<o.length:=(List.getElem?_eq_some_iff.mp ej).1;have:=lM s'.nd (fQ (t:=r) ej) ea;rw[hs.len]at hk;omega
   have nh:a∉h:=s'.dis a (bv ea);rcases q with q|q
   ·exact c o H' _ (.d (.list ds)) _ e0 s0 (dA.mpr ⟨a,vs,rfl,aV.mpr ⟨nh,na,ev⟩,l.mono dP⟩) q
   ·obtain⟨e1,sub,s1⟩:=CY hs e s' hk ea z;exact c (o++[a]) H' _ (.l S.length) _ e1 s1 ⟨a,by rw[hs.len,ck],rfl⟩ q
def aK(n:Nat)(R:RX):DEnds:={ nx:=fun _ S'=>fin n R (.d .none) S',rt:=fin n R }
theorem eok{h o:List Addr}{H:Hp}{S:Sto}{R:RX}{Q:VK}(hs:RepS h o H S)(c:Cn h o H R Q):EOk h o H (aK S.length R) { nx:=fun _ H'=>Q .non H',rt:=Q } :=
 ⟨fun o' H' δ' S' σ' e he z q=>Ac hs c o' H' S' _ _ e z xN q,Ac hs c,fun _ _ _ _ _ _ _ _ q=>q.elim,fun _ _ _ _ _ _ _ _ q=>q.elim⟩
def aI(p:List bo):Prop:=∃l g s:Int,p=[.int l,.int g,.int s]/\0<=l
end
section
def xX(K:cy):List V->Hp->VK->Prop:=fun xs H Q=>∃(p:Addr) (ns:List Int),xs=[.ref p]/\SqL K H p (ns.map V.int)/\Q (.int ns.sum) H
def Bd(K:cy):List V->Hp->VK->Prop:=fun xs H Q=>∃(p:Addr) (bs:List Bool),xs=[.ref p]/\SqL K H p (bs.map V.bl)/\Q (.bl (bs.all id)) H
theorem wS:gr "sum" = some (.builtin "sum"):=by decide +kernel
theorem uH:gr "all" = some (.builtin "all"):=by decide +kernel
section
variable {X:Cx}
theorem CT(hc:X.calm=true):CallR X (.builtin "sum") (xX X.K):=by
 intro zf s σ H xs us Q I r h;obtain⟨p,ns,rfl,hq,q⟩:=h;obtain⟨u,rfl,rx⟩:=vals1 r;cases (show u=ie p from rx);obtain⟨aa,rv,pl,_⟩:=I.list hq;obtain⟨ys,e,z⟩:=kJ (iB rv);refine sum_intListG (I.ok.hd hc) (by rw[<- e];exact pl.isList) fun h' tk t' hk=>⟨.int ns.sum,H,I.kept (t':=tk) hk,⟨t',?_⟩,q⟩;have es:preSum (numAt ys) ys.size=ns.sum:=by
  rw[preSum_eq,z,List.take_of_length_le yv]
 rw[es]
theorem AU:∀{bs:List Bool}{us:List bn}{i:Nat}{v:bn},Vals (bs.map V.bl) us->us[i]?=some v->∃b,bs[i]?=some b/\v=.bool b
 | [],_,i,v,.nil,e=>by simp at e
 |b::bs,_,0,v,.cons r _,e=>by
  rw[ph]at e;cases e;exact⟨b,rfl,r⟩
 |b::bs,_,i+1,v,.cons _ t,e=>by
  obtain⟨c,e1,e2⟩:=AU (i:=i) (v:=v) t (by simpa using e);exact⟨c,by simpa using e1,e2⟩
theorem G0(bs:List Bool):((gc bs.length).all fun i=>(bs[i]?).getD true)=bs.all id:=by
 rw[Bool.eq_iff_iff,oq,oq];constructor
 ·intro h b hb;obtain⟨i,hi⟩:=mem_iff_getElem?.mp hb;have hl:=(List.getElem?_eq_some_iff.mp hi).1;have:=h i (mem_range.mpr hl);rw[hi]at this;exact this
 ·intro h i hi;have hl:=mem_range.mp hi;rw[cv hl];exact h _ (ot hl)
theorem sK(hc:X.calm=true):CallR X (.builtin "all") (Bd X.K):=by
 intro zf s σ H xs us Q I r h;obtain⟨p,bs,rfl,hq,q⟩:=h;obtain⟨u,rfl,rx⟩:=vals1 r;cases (show u=ie p from rx);obtain⟨z,rv,pl,_⟩:=I.list hq;have hl:=pl.isList;have ab:p<s.heap.objs.size:=by
  obtain⟨_,e,_⟩:=hl;exact fm e
 refine call_all_walk (x:=ie p) (qd hl ?_);refine⟨s.heap.objs.size,[s.heap.objs.size,p],[s.heap.objs.size],z.toArray.size,_,_,fun i=>(bs[i]?).getD true,rfl,
  Walks.list (A:=X.A.in1) (I.ok.hd hc) _ p (gh ab) z.toArray,⟨⟨_,df _ rfl,rfl,rfl⟩,hl.push _⟩,fun i v s' Q' E' hP hQ=>?_,fun h' tk hk=>?_⟩
 ·obtain⟨b,e,rfl⟩:=AU (i:=i) (v:=v) rv (by simpa using hP);have aa:Q' b s':=by simpa[e]using hQ
  exact iu aa
 ·have hz:z.toArray.size=bs.length:=by
   have:=rv.length;rw[ff]at this;simp[this]
  rw[hz,G0];refine⟨.bl _,H,I.kept (t':=tk) fun b o e=>hk b o (fun hm=>?_) (bu _ e),rfl,q⟩;rw[mem_singleton.mp hm]at e;exact ol _ (fm e)
end
def gH:List XV->Sto->RX->Prop:=fun xs S R=>arg1 xs fun x=>∃ds,dS S x=some ds/\∃ns:List Int,ds=ns.map dj/\R (.d (.int ns.sum)) S
theorem tO{K:cy}:RC (xX K) gH:=fun h o H S xs vs R Q hs hx q c=>by
 obtain⟨x,rfl,ds,hd,ns,rfl,q1⟩:=cA q;obtain⟨v,rfl,z⟩:=hxs1 hx;obtain⟨a,ws,rfl,ea,l⟩:=bN hs hd z;rw[kK l]at ea;exact⟨a,ns,rfl,.of ea,c o H S _ _ Ex.refl hs (xI _) q1⟩
theorem BC{H:Hp}:∀{ns:List Bool}{vs:List V},HasL H (ns.map nq) vs->vs=ns.map V.bl
 | [],vs,h=>zv.mp h
 |n::ns,vs,h=>by
  obtain⟨v,r,rfl,h1,h2⟩:=zp.mp h;rw[fB.mp h1,BC h2];rfl
def fK:List XV->Sto->RX->Prop:=fun xs S R=>arg1 xs fun x=>∃ds,dS S x=some ds/\∃ns:List Bool,ds=ns.map nq/\R (.d (.bool (ns.all id))) S
theorem pS{K:cy}:RC (Bd K) fK:=fun h o H S xs vs R Q hs hx q c=>by
 obtain⟨x,rfl,ds,hd,ns,rfl,q1⟩:=cA q;obtain⟨v,rfl,z⟩:=hxs1 hx;obtain⟨a,ws,rfl,ea,l⟩:=bN hs hd z;rw[BC l]at ea;exact⟨a,ns,rfl,.of ea,c o H S _ _ Ex.refl hs (xB _) q1⟩
section
variable {S:Sto}{i:Int}{b:Bool}{z:Str}{ds:List bo}{d:bo}{k:Nat}{x y:XV}{R:RX}{c:String}{p:List bo}{n:Nat}{v:V}
theorem mL{K:Int->Prop}:asI (.d (.int i)) K=K i:=rfl
theorem kH{K:Bool->Prop}:asB (.d (.bool b)) K=K b:=rfl
theorem nM{K:Str->Prop}:asS (.d (.str z)) K=K z:=rfl
theorem oJ{K:List bo->Prop}:asT (.d (.tuple ds)) K=K ds:=rfl
theorem j7{K:bo->Prop}:asD (.d d) K=K d:=rfl
theorem nT:dS S (.d (.list ds))=some ds:=rfl
theorem oA:dS S (.l k)=S[k]?:=rfl
theorem oE:asQ S (.d (.list ds))=some ds:=rfl
theorem kR:asQ S (.d (.tuple ds))=some ds:=rfl
theorem kQ:asQ S (.l k)=S[k]?:=rfl
theorem k8:bF S (.d d)=some d:=rfl
theorem mM:bF S (.l k)=(S[k]?).map .list:=rfl
theorem m7:ret0 S R (.d d) []=R (.d d) S:=rfl
theorem lL:ret0 S R (.l 0) [ds]=R (.l S.length) (S++[ds]):=rfl
theorem kW:m6 k S R (.d d) [p]=R (.d d) (S.set k p):=rfl
theorem mN:fin n R (.d d) S=R (.d d) (S.take n):=rfl
theorem lT:fin n R (.l k) S=if k<n then R (.l k) (S.take n)else ∃ds,S[k]?=some ds/\(R (.d (.list ds)) (S.take n)\/R (.l n) (S.take n++[ds])):=rfl
theorem lI{K:XV->Prop}:arg1 [x] K=K x:=rfl
theorem mT{K:XV->XV->Prop}:arg2 [x,y] K=K x y:=rfl
theorem nH{K:String->Prop}:rA (.o (.ty c)) K↔K c:=⟨fun⟨_,e,q⟩=>by cases e;exact q,fun q=>⟨c,rfl,q⟩⟩
theorem nX{K:Int->Prop}:qH (.d (.bool b)) K=K (if b then 1 else 0):=rfl
theorem mV{δ:XE}:(aK n R).nx δ S=fin n R (.d .none) S:=rfl
theorem nW:(aK n R).rt x S=fin n R x S:=rfl
theorem jY:datas []=some []:=rfl
theorem j9{r:List XV}:datas (.d d::r)=(datas r).map (d :: ·):=rfl
end
theorem i6{α:Type}{a:α}{l:List α}:atI (a::l) 0=some a:=fA (j:=0) rfl
theorem kI{α:Type}{a b:α}{l:List α}:atI (a::b::l) 1=some b:=fA (j:=1) rfl
theorem mZ{α:Type}{a b c:α}{l:List α}:atI (a::b::c::l) 2=some c:=fA (j:=2) rfl
def Shp(n:Nat)(d:bo):Prop:=d.canLay0=true/\d.depth<=n
theorem bI{n:Nat}{i:Int}:Shp n (.int i):=⟨rfl,ji _⟩
theorem IR{n:Nat}{i:Bool}:Shp n (.bool i):=⟨rfl,ji _⟩
theorem Ih{n:Nat}:Shp n .none:=⟨rfl,ji _⟩
theorem u7{n:Nat}:∀{ds:List bo},(∀d∈ds,Shp n d)->je ds=true/\jo ds<=n
 | [],_=>⟨by simp only[je],by simp only[jo];exact ji _⟩
 |d::ds,h=>by
  obtain⟨h1,h2⟩:=h d fi;obtain⟨h3,h4⟩:=u7 (ds:=ds) fun e m=>h e (fb _ m);simp only[je,jo,h1,h3,Bool.and_true,true_and];omega
theorem iS{n:Nat}{ds:List bo}(h:∀d∈ds,Shp n d):Shp (n+1) (.list ds):=by
 obtain⟨h1,h2⟩:=u7 h;exact⟨by simp only[jx];exact h1,by simp only[PyData.depth];omega⟩
theorem dR{n:Nat}{ds:List bo}(h:∀d∈ds,Shp n d):Shp (n+1) (.tuple ds):=by
 obtain⟨h1,h2⟩:=u7 h;exact⟨by simp only[jx];exact h1,by simp only[PyData.depth];omega⟩
theorem lQ{α:Type}{n:Nat}{f:α->bo}{l:List α}(h:∀x∈l,Shp n (f x)):∀d∈l.map f,Shp n d:=fun d m=>by
 obtain⟨x,hx,rfl⟩:=mem_map.mp m;exact h x hx
theorem Bo{n:Nat}{a b:bo}(h1:Shp n a)(h2:Shp n b):∀d∈[a,b],Shp n d:=by
 intro d m;simp only[iq,gg,or_false]at m;rcases m with rfl|rfl
 ·exact h1
 ·exact h2
theorem Shp.ok{n:Nat}{d:bo}(h:Shp n d)(hn:n<=64:=by decide):cw d=true:=by
 unfold cw;rw[h.1,gd (iz h.2 hn)];rfl
theorem dG{g:DG}{b:DS}{E:DEnds}:∀{ds:List bo}{δ:XE}{S:Sto} (I:Nat->XE->Sto->Prop),I 0 δ S ->
  (∀i d δ S (N:XE->Sto->Prop),ds[i]?=some d->I i δ S->(∀ δ' S',I (i+1) δ' S'->N δ' S')->g (.d d) δ S fun δ1 S1=>b { nx:=N,ct:=N,bk:=E.nx,rt:=E.rt } δ1 S1) ->
  (∀ δ S,I ds.length δ S->E.nx δ S)->jV g b ds E δ S
 | [],δ,S,I,h0,_,fin=>fin δ S h0
 |d::ds,δ,S,I,h0,step,fin=>by
  show g (.d d) δ S fun δ1 S1=>b _ δ1 S1;refine step 0 d δ S _ rfl h0 fun δ' S' h1=>?_;exact dG (ds:=ds) (fun i=>I (i+1)) h1 (fun i e δ S N hi=>step (i+1) e δ S N (by simpa using hi)) fin
theorem sX{α:Type}{l:List α}{a b:α}{n:Nat}(h:l.length=n):(l++[a]).set n b=l++[b]:=by
 subst h;rw[List.set_append_right _ _ (cx _),Nat.sub_self];rfl
theorem Dt{H:Hp}:RepS [] [] H []:=⟨rfl,nodup_nil,fun _ h=>(nomatch h),fun _ h=>(nomatch h),fun _ _ _ e=>(by simp at e)⟩
theorem Ex.same_nil{o':List Addr}{H H':Hp}(e:Ex [] H o' H'):Same H H':=fun b u q=>(e.kp b u yv q).2
theorem EC{K:cy}{a:Addr}{ns:List Int}{N:Int}{j m:Nat}{tb:TS}{db:DS}{D:Ends}{σ:St}{H:Hp}(hb:RS tb db)(h0:σ[0]?=some (some (.ref a)))(hl:σ.length=m+1)(hS:SqL K H a (ns.map V.int))(z:ns.length<=63)
  (turn:∀n:Int,db { nx:=fun δ _=>δ[0]?=some (some (.o (.ref a)))/\δ.length=m+1,ct:=fun δ _=>δ[0]?=some (some (.o (.ref a)))/\δ.length=m+1,rt:=fun _ _=>False } ((some (.o (.ref a))::bx m none).set j (some (.d (.int n)))) [])
  (hj:j≠0) (done:∀(σ:St) (H1:Hp),Same H H1->D.nx σ H1):
  pG (sY K (tOp i0 (gA (eL (tC2 (rE K) (fI 0) (tC (.int 0))) jQ)) (tSl (oD K) (fI 0) (i5 (tC (.int 1))) (i5 (tC (.int N)))))) (g0 j) tb D σ H:=by
 refine Gv (a:=a) (ns:=ns) (fun σ=>σ[0]?=some (some (.ref a))/\σ.length=m+1) h0 hS z ⟨h0,hl⟩ ?_ fun σ H1 _ s=>done σ H1 s;rintro n σ1 H1 H2 ⟨z0,z1⟩ s1 s2;refine hb [] [] H2 _ _ [] _ _ ⟨by simp[z1],fun i x e=>?_⟩ Dt (turn n) ⟨?_,fun _ _ _ _ _ _ _ _ q=>q.elim,fun _ _ _ _ _ _ _ _ q=>q.elim,?_⟩
 ·rw[List.getElem?_set]at e ⊢;by_cases hij:j=i
  ·rw[ci hij]at e ⊢;by_cases hjl:j<m+1
   ·rw[ci (by simpa using hjl)]at e;rw[ci (by rw[z1];exact hjl)];cases e;exact⟨.int n,rfl,xI n⟩
   ·rw[cg (by simpa using hjl)]at e;cases e
  ·rw[cg hij]at e ⊢;cases i with
   |zero=>
    cases e;exact⟨.ref a,z0,rfl⟩
   |succ i=>
    rw[pi,List.getElem?_replicate]at e;split at e<;>cases e
 ·rintro o' H' δ' S' σ' e he hs ⟨q1,q2⟩;obtain⟨v,ev,hv⟩:=he.get 0 _ q1;cases hv;exact⟨s2.trans e.same_nil,ev,by rw[<- he.len];exact q2⟩
 ·rintro o' H' δ' S' σ' e he hs ⟨q1,q2⟩;obtain⟨v,ev,hv⟩:=he.get 0 _ q1;cases hv;exact⟨s2.trans e.same_nil,ev,by rw[<- he.len];exact q2⟩
end
section
theorem FR{P:fg}{w:ga}{K:cy}{tg:Expr}(it:Addr)(lo:Int)(n:Nat):Turn P w K tg (Itr lo n) [it] it (fun i h=>IsLongIter h it (lo+(i:Nat)*1) ((n:Int)-(i:Nat)) 1) where
 mem:=by simp
 obj:=fun i h st b hb=>by
  have e:b=it:=by simpa using hb
  subst e;exact⟨_,st,fun v z=>by
   have z':Data.fields _=Data.cell v:=z;cases z'⟩
 keep:=fun i h h' st k=>k it yv _ st
 item:=by
  intro X hP hw hK hc i zf s σ H E I hf st hg;subst hP hw hK;obtain⟨f0,f1,f2,f3,f4,f5⟩:=hf it yv;have W:=Walks.longrange (prog:=X.prog) (w:=X.w) (I.ok.hd hc) it lo 1 n;refine W.item i s _ _ hg st fun v h' tk hv st' kk=>?_;obtain⟨t,rfl⟩:=hv;have I1:Inv X zf σ H { s with heap:=h',toks:=tk }:=I.turned (fun b o hb e=>kk b o (by simpa using hb) e) f0 f1 f3 f4 f5;refine⟨_,rfl,oV (s:={ s with heap:=h',toks:=tk }) (n:="longrange_iterator") st' rfl rfl dz ⟨.int (lo+i),H,I1,⟨t,?_⟩,⟨rfl,rfl⟩,st',fun b hb=>(hf b hb).1⟩⟩;rw[Int.mul_one]
 done:=by
  intro X hP hw hK hc i zf s σ H E I hf st hg;subst hP hw hK;obtain⟨f0,f1,f2,f3,f4,f5⟩:=hf it yv;exact wpAny_pyNext_long_end (I.ok.hd hc) st (by have:n<=i:=hg;omega) fun h' eb=>⟨rfl,I.turned (t':=s.toks) (fun b o hb e=>eb b o hb e) f0 f1 f3 f4 f5⟩
 self:=fun _ _ _ _ _ st h=>wpAny_pyIter_longiter st h
section
variable {X:Cx}{tg:Expr}
theorem He{zf:List (Addr×Obj)}{σ:St}{H:Hp}{s:bp}{R:It->Hp->Prop}{E:bn->bp->Prop}{lo hi:Int}{t u v:Tok}{tk:Nat}(I:Inv X zf σ H s)
  (q:R (Itr lo (hi-lo).toNat) H):cj (model X.prog X.w) X.A (pyIter (.ref s.heap.objs.size)) (PIE X zf σ tg R) E { s with heap:=s.heap.push { cls:=.type "range",data:=.fields #[.int lo t,.int hi u,.int 1 v] },toks:=tk }:=by
 have I1:Inv X zf σ H { s with heap:=s.heap.push { cls:=.type "range",data:=.fields #[.int lo t,.int hi u,.int 1 v] },toks:=tk }:=I.kept fun b o e=>bu _ e;have e1:lo+((0:Nat):Int)*1=lo:=by simp
 have e2:(((hi-lo).toNat:Nat):Int)-((0:Nat):Int)=kh lo hi 1:=by rw[rangeSize_one];split<;>omega
 cases hsm:Builtin.Range.small lo hi 1 with
 |true=>
  refine wpAny_pyIter_range (IsRange.new ..) hsm ?_;refine⟨(s.heap.push { cls:=.type "range",data:=.fields #[.int lo t,.int hi u,.int 1 v] }).objs.size,[(s.heap.push { cls:=.type "range",data:=.fields #[.int lo t,.int hi u,.int 1 v] }).objs.size],_,_,H,rfl,
   I1.kept (t':=tk) fun b o e=>bu _ e,JJ _ lo (hi-lo).toNat,?_,fun b hb=>?_,q⟩
  ·show IsRangeIter _ _ (lo+((0:Nat):Int)*1) ((((hi-lo).toNat:Nat):Int)-((0:Nat):Int)) 1;rw[e1,e2];exact df _ rfl
  ·have e:b=(s.heap.push { cls:=.type "range",data:=.fields #[.int lo t,.int hi u,.int 1 v] }).objs.size:=by simpa using hb
   subst e;exact I1.fpOk (cx _) (I1.hok.fresh (cx _))
 |false=>
  refine wpAny_pyIter_longrange (IsRange.new ..) hsm ?_;refine⟨(s.heap.push { cls:=.type "range",data:=.fields #[.int lo t,.int hi u,.int 1 v] }).objs.size,[(s.heap.push { cls:=.type "range",data:=.fields #[.int lo t,.int hi u,.int 1 v] }).objs.size],_,_,H,rfl,
   I1.kept (t':=tk) fun b o e=>bu _ e,FR _ lo (hi-lo).toNat,?_,fun b hb=>?_,q⟩
  ·show IsLongIter _ _ (lo+((0:Nat):Int)*1) ((((hi-lo).toNat:Nat):Int)-((0:Nat):Int)) 1;rw[e1,e2];exact df _ rfl
  ·have e:b=(s.heap.push { cls:=.type "range",data:=.fields #[.int lo t,.int hi u,.int 1 v] }).objs.size:=by simpa using hb
   subst e;exact I1.fpOk (cx _) (I1.hok.fresh (cx _))
def Al(ta:TA):TI:=fun σ H R=>ta σ H fun vs H1=>∃j:Int,vs=[.int j]/\R (Itr 0 j.toNat) H1
theorem eP{a:Expr}{ta:TA}{p pos:Pos}(hg:Gl X "range")(hm:X.mg "range" = none)(ha:PA X [a] ta)(hs:fq [a] X.env=[(false,eval a X.env)]:=by rfl):PI X tg (.Call (.Name "range" p) [a] [] pos) (Al ta):=by
 intro zf s σ H R I h;refine Call_ (fL I hg hm boot_range (jd (thn (ha pos zf s σ H _ I h) fun us s1 ⟨vs,H1,I1,r1,q1⟩=>?_) hs rfl));obtain⟨j,e,q⟩:=q1;subst e;cases r1 with
 |cons r rr=>
  cases rr;obtain⟨t,rfl⟩:=r;exact call_range_1 (He I1 (by simpa using q))
end
def bS(a:DA):DI:=fun δ S R=>a δ S fun xs S1=>arg1 xs fun x=>asI x fun j=>R (eW 0 j.toNat) S1
def nB(a:DA):DI:=fun δ S R=>a δ S fun xs S1=>arg2 xs fun x y=>asI x fun i=>asI y fun j=>R (eW i (j-i).toNat) S1
theorem f6{ta:TA}{da:DA}(ha:RA ta da):RI (Al ta) (bS da):=fun h o H δ σ S R Q he hs q c=>
 ha h o H δ σ S _ _ he hs q fun o1 H1 S1 xs vs e1 s1 x1 d0=>by
  obtain⟨x,rfl,d2⟩:=cA d0;obtain⟨j,rfl,d1⟩:=bA d2;obtain⟨v,rfl,hv⟩:=hxs1 x1;rw[aZ hv];exact⟨j,rfl,c o1 H1 S1 _ _ e1 s1 JK d1⟩
end
section
open Sem (wp)
open AutoSeq1 (wpAny_loadPart')
def CF(i:Nat):List bo->List bo
 | []=>[]
 |d::ds=>.tuple [.int i,d]::CF (i+1) ds
theorem FY{X:Cx}{x:Str}{i:Int}{pos:Pos}(hg:Gl X x)(hm:∃t,X.mg x=some (.int i t))(hd:(x==("__debug__":Str))=false:=by decide):PE X (.Name x pos) (tC (.int i)):=by
 obtain⟨t,e⟩:=hm;exact sV hg e ⟨t,rfl⟩ hd
end
section
def dIx:D2:=fun x y S R=>asI y fun i=>match x with
 | .d (.tuple ds)=>∃d,atI ds i=some d/\R (.d d) S
 | .d (.list ds)=>∃d,atI ds i=some d/\R (.d d) S
 | .l k=>∃ds,S[k]?=some ds/\∃d,atI ds i=some d/\R (.d d) S
 | .d (.str z)=>z.length<=dw/\∃c,atI z.cps.toList i=some c/\R (.d (.str ⟨#[c]⟩)) S
 |_=>False
theorem DX:RO uS (fun x y S R=>asS x fun z=>asI y fun i=>z.length<=dw/\∃c,atI z.cps.toList i=some c/\R (.d (.str ⟨#[c]⟩)) S):=fun h o H S x y v u R Q hs hx hy q c=>by
 replace q:=qG q;obtain⟨z,rfl,q⟩:=q;replace q:=bA q;obtain⟨i,rfl,hz,k,ek,q⟩:=q;exact⟨z,i,k,cS hx,aZ hy,hz,ek,c o H S _ _ Ex.refl hs (xS _) q⟩
theorem c8{K:cy}:RO (rIx K) dIx:=fun h o H S x y v u R Q hs hx hy q c=>by
 replace q:=bA q;obtain⟨i,rfl,q⟩:=q;split at q
 ·exact .inr (.inl (GR h o H S _ _ v u R Q hs hx hy q c))
 ·exact .inl (v7 h o H S _ _ v u R Q hs hx hy ⟨_,rfl,q⟩ c)
 ·exact .inl (v7 h o H S _ _ v u R Q hs hx hy q c)
 ·exact .inr (.inr (DX h o H S _ _ v u R Q hs hx hy q c))
 ·exact q.elim
section
variable {S:Sto}{R:RX}{ds:List bo}{i:Int}{k:Nat}{z:Str}
theorem mS:dIx (.d (.tuple ds)) (.d (.int i)) S R=∃d,atI ds i=some d/\R (.d d) S:=rfl
theorem lR:dIx (.d (.list ds)) (.d (.int i)) S R=∃d,atI ds i=some d/\R (.d d) S:=rfl
theorem kC:dIx (.l k) (.d (.int i)) S R=∃ds,S[k]?=some ds/\∃d,atI ds i=some d/\R (.d d) S:=rfl
theorem mB:dIx (.d (.str z)) (.d (.int i)) S R=(z.length<=dw/\∃c,atI z.cps.toList i=some c/\R (.d (.str ⟨#[c]⟩)) S):=rfl
end
def xU(K:cy):V->Option Int->Option Int->Hp->VK->Prop:=fun x a b H Q=>oD K x a b H Q\/(u6 K x a b H Q\/AV x a b H Q)
theorem rJ{X:Cx}:SlR X (xU X.K):=AJ.or (B7.or E5)
def hV:D3:=fun x i j S R=>match x with
 | .d (.tuple ds)=>¬(HT.sIx ds.length 0 i=0/\HT.sIx ds.length ds.length j=ds.length)/\R (.d (.tuple (aQ ds i j))) S
 | .d (.list ds)=>R (.d (.list (aQ ds i j))) S
 | .l k=>∃ds,S[k]?=some ds/\R (.d (.list (aQ ds i j))) S
 | .d (.str z)=>z.length<=dw/\R (.d (.str (PySem.Txt.slice z i j))) S
 |_=>False
theorem Am{K:cy}:RL (xU K) hV:=fun h o H S x v a b R Q hs hx q c=>by
 unfold hV at q;split at q
 ·exact .inr (.inl (Ig h o H S _ v a b R Q hs hx q c))
 ·exact .inl (Bx h o H S _ v a b R Q hs hx ⟨_,rfl,q⟩ c)
 ·exact .inl (Bx h o H S _ v a b R Q hs hx q c)
 ·exact .inr (.inr ⟨_,cS hx,q.1,c o H S _ _ Ex.refl hs (xS _) q.2⟩)
 ·exact q.elim
section
variable {S:Sto}{R:RX}{ds:List bo}{i j:Option Int}{k:Nat}{z:Str}
theorem kP:hV (.l k) i j S R=∃ds,S[k]?=some ds/\R (.d (.list (aQ ds i j))) S:=rfl
theorem nO:hV (.d (.str z)) i j S R=(z.length<=dw/\R (.d (.str (PySem.Txt.slice z i j))) S):=rfl
end
def CK(K:cy):R2:=fun x y H Q=>∃a b ys,x=.ref a/\y=.ref b/\SqT K H a []/\SqT K H b ys/\Q (.ref b) H
theorem Fh{X:Cx}:OpR X (kw .Add) (CK X.K):=by
 intro zf s σ H x y v u Q I rx ry h;obtain⟨a,b,ys,rfl,rfl,ha,hb,q⟩:=h;cases rx;cases ry;obtain⟨aa,r1,p1,_⟩:=I.tuple ha;obtain⟨z,r2,p2,_⟩:=I.tuple hb;cases r1;obtain⟨⟨c1,d1,e1,l1⟩,o1,w1,n1,k1⟩:=id p1;obtain⟨⟨c2,d2,e2,l2⟩,o2,w2,n2,k2⟩:=id p2;simp only at w1 k1 w2 k2;subst w1 k1 w2 k2;exact concat_meets ⟨_,o1,rfl⟩ ⟨_,o2,rfl⟩ noFill_tuple_add seq_tuple_add PySem.F.slot_tuple_add PySem.F.entry_tuple_add (PySem.F.args_tuple_add_2 _ _) (tuple_addW0 a b _ _ n1 n2 d1 d2 l1 l2 yv) ⟨o1,o2,⟨.ref b,H,I,rfl,q⟩⟩
def Bb(K:cy):R2:=fun x y H Q=>rI0 (fun i j=>.int (i+j)) x y H Q\/(i0 x y H Q\/(tN K x y H Q\/(CK K x y H Q\/∃i j,x=.str i/\y=.str j/\i.length+j.length<=dw/\Q (.str (i++j)) H)))
theorem zF{X:Cx}:OpR X (kw .Add) (Bb X.K):=FW.or (mY.or (G2.or (Fh.or FZ)))
def aE:D2:=fun x y S R=>match x,y with
 | .d (.int i),.d (.int j)=>R (.d (.int (i+j))) S
 | .d (.tuple ds),.d (.tuple es)=>ds.length+es.length<=1000/\R (.d (.tuple (ds++es))) S
 | .d (.str a),.d (.str b)=>a.length+b.length<=dw/\R (.d (.str (a++b))) S
 |x,y=>asL S x fun ds=>asL S y fun es=>ds.length+es.length<=1000/\R (.d (.list (ds++es))) S
theorem cG{K:cy}:RO (Bb K) aE:=fun h o H S x y v u R Q hs hx hy q c=>by
 unfold aE at q;split at q
 ·exact .inl (tZ h o H S _ _ v u R Q hs hx hy q c)
 ·rename_i ds es;cases ds with
  |cons d ds=>exact .inr (.inr (.inl (GV h o H S _ _ v u R Q hs hx hy ⟨yv,q⟩ c)))
  |nil=>
   obtain⟨a,vs,rfl,ea,l⟩:=dH hx;obtain⟨b,us,rfl,eb,l'⟩:=dH hy;rw[zv.mp l]at ea;exact .inr (.inr (.inr (.inl ⟨a,b,us,rfl,rfl,.of ea,.of eb,c o H S (.d (.tuple es)) _ Ex.refl hs hy q.2⟩)))
 ·exact .inr (.inr (.inr (.inr ⟨_,_,cS hx,cS hy,q.1,c o H S _ _ Ex.refl hs (xS _) q.2⟩)))
 ·exact .inr (.inl (Et h o H S _ _ v u R Q hs hx hy q c))
section
variable {S:Sto}{R:RX}{ds es:List bo}{i j:Int}{k l:Nat}{a b:Str}
theorem nC:aE (.d (.int i)) (.d (.int j)) S R=R (.d (.int (i+j))) S:=rfl
theorem l6:aE (.d (.tuple ds)) (.d (.tuple es)) S R=(ds.length+es.length<=1000/\R (.d (.tuple (ds++es))) S):=rfl
theorem mH:aE (.d (.list ds)) (.d (.list es)) S R↔(ds.length+es.length<=1000/\R (.d (.list (ds++es))) S):=⟨fun⟨_,e,_,e',q⟩=>by cases e;cases e';exact q,fun q=>⟨_,rfl,_,rfl,q⟩⟩
theorem oI:aE (.l k) (.d (.list es)) S R↔∃ds,S[k]?=some ds/\ds.length+es.length<=1000/\R (.d (.list (ds++es))) S:=⟨fun⟨_,e,_,e',q⟩=>by cases e';exact⟨_,e,q⟩,fun⟨_,e,q⟩=>⟨_,e,_,rfl,q⟩⟩
end
def y6:R2:=fun x y H Q=>rI IntMulOk (fun i j=>.int (i*j)) x y H Q\/(C5 x y H Q\/BK x y H Q)
theorem cO{X:Cx}:OpR X (kw .Mult) y6:=EV.or (GS.or El)
def bH:D2:=fun x y S R=>asI y fun j=>match x with
 | .d (.int i)=>IntMulOk i j/\R (.d (.int (i*j))) S
 | .d (.str z)=>z.length<=1000/\j<=1000/\-1000<=j/\R (.d (.str (PySem.Txt.mul z j))) S
 | .d (.list ds)=>j<=1000/\-1000<=j/\ds.length*j.toNat<=1000/\R (.d (.list (bx j.toNat ds).flatten)) S
 |_=>False
theorem HasL.rep{H:Hp}{ds:List bo}{vs:List V}(l:HasL H ds vs):∀n:Nat,HasL H (bx n ds).flatten (bx n vs).flatten
 | 0=>zv.mpr rfl
 |n+1=>by
  rw[on,on,flatten_cons,flatten_cons];exact l.append (HasL.rep l n)
theorem hW:RO y6 bH:=fun h o H S x y v u R Q hs hx hy q c=>by
 replace q:=bA q;obtain⟨j,rfl,q⟩:=q;split at q
 ·exact .inl (iH h o H S _ _ v u R Q hs hx hy q c)
 ·exact .inr (.inl ⟨_,_,cS hx,aZ hy,q.1,q.2.1,q.2.2.1,c o H S _ _ Ex.refl hs (xS _) q.2.2.2⟩)
 ·obtain⟨a,vs,rfl,ea,l⟩:=bN (x:=.d (.list _)) hs rfl hx;obtain⟨h1,h2,h3,q⟩:=q;exact .inr (.inr ⟨a,j,vs,rfl,aZ hy,ea,yw,yw,by rw[l.length];exact ku (small1000 h3),gY hs (l.rep j.toNat) c q⟩)
 ·exact q.elim
section
variable {S:Sto}{R:RX}{i j:Int}{z:Str}{ds:List bo}
theorem nY:bH (.d (.list ds)) (.d (.int j)) S R=(j<=1000/\-1000<=j/\ds.length*j.toNat<=1000/\R (.d (.list (bx j.toNat ds).flatten)) S):=rfl
theorem j8:bH (.d (.int i)) (.d (.int j)) S R=(IntMulOk i j/\R (.d (.int (i*j))) S):=rfl
theorem oC:bH (.d (.str z)) (.d (.int j)) S R=(z.length<=1000/\j<=1000/\-1000<=j/\R (.d (.str (PySem.Txt.mul z j))) S):=rfl
end
def Br:R2:=fun x y H Q=>rI CDivX (fun i j=>.int (i/j)) x y H Q\/rI CDivN (fun i j=>.int (i.fdiv j)) x y H Q
theorem oF{X:Cx}:OpR X (kw .FloorDiv) Br:=Dh.or F5
def dFd:D2:=fun x y S R=>asI x fun i=>asI y fun j=>(CDivX i j/\R (.d (.int (i/j))) S)\/(CDivN i j/\R (.d (.int (i.fdiv j))) S)
theorem FA:RO Br dFd:=fun h o H S x y v u R Q hs hx hy q c=>by
 replace q:=bA q;obtain⟨i,rfl,q⟩:=q;replace q:=bA q;obtain⟨j,rfl,q⟩:=q;rcases q with q|q
 ·exact .inl (iH (C:=CDivX) (g:=fun i j=>i/j) h o H S _ _ v u R Q hs hx hy q c)
 ·exact .inr (iH (C:=CDivN) (g:=fun i j=>i.fdiv j) h o H S _ _ v u R Q hs hx hy q c)
def kE(S:Sto):XV->Option Bool
 | .d .none=>some false
 | .d (.bool b)=>some b
 | .d (.int i)=>some (i != 0)
 | .d (.str z)=>if z.length<=dw then some ((z.length:Int) != 0)else none
 | .d (.list ds)=>some (!ds.isEmpty)
 | .d (.tuple ds)=>some (!ds.isEmpty)
 | .l k=>(S[k]?).map fun ds=>!ds.isEmpty
 |_=>none
def bP(a:DE):DT:=fun δ S R=>a δ S fun x S1=>∃k,kE S1 x=some k/\R k S1
theorem uM{H:Hp}{ds:List bo}{vs:List V}(l:HasL H ds vs):(!ds.isEmpty)=!vs.isEmpty:=by
 have:=l.length;cases ds<;>cases vs<;>simp_all
theorem jC{K:cy}{ta:TE}{da:DE}(ha:RE ta da):RT (fun σ H Q=>ta σ H fun x H'=>∃k,TruV K x H' k/\Q k H') (bP da):=fun h o H δ σ S R Q he hs q c=>
 ha h o H δ σ S _ _ he hs q fun o1 H1 S1 x v e1 s1 x1 ⟨k,ek,d1⟩=>by
  refine⟨k,?_,c o1 H1 S1 k e1 s1 d1⟩;unfold kE at ek;split at ek
  ·cases ek;rw[(iX (H:=vx h o1 H1)).mp x1];rfl
  ·cases ek;rw[jR x1];rfl
  ·cases ek;rw[aZ x1];rfl
  ·split at ek
   ·rename_i hz;cases ek;rw[cS x1];exact⟨hz,rfl⟩
   ·cases ek
  ·obtain⟨a,vs,rfl,ea,l⟩:=bN (x:=.d (.list _)) s1 rfl x1;cases ek;exact .inl ⟨vs,.of ea,uM l⟩
  ·obtain⟨a,vs,rfl,ea,l⟩:=dH x1;cases ek;exact .inr (.inl ⟨vs,.of ea,uM l⟩)
  ·rename_i j _;cases hj:S1[j]? with
   |none=>rw[hj]at ek;cases ek
   |some ds=>
    rw[hj]at ek;cases ek;obtain⟨a,vs,rfl,ea,l⟩:=bN (x:=.l j) s1 hj x1;exact .inl ⟨vs,.of ea,uM l⟩
  ·cases ek
section
variable {S:Sto}{b:Bool}{i:Int}{ds:List bo}{k:Nat}
theorem n5:kE S (.d (.bool b))=some b:=rfl
theorem lC:kE S (.d (.tuple ds))=some (!ds.isEmpty):=rfl
theorem nA:kE S (.l k)=(S[k]?).map fun ds=>!ds.isEmpty:=rfl
end
def hZ:DS:=fun _ _ _=>False
theorem Fb:RS Ai hZ:=fun h o H δ σ S E D he hs q c=>q.elim
def x9(K:cy)(tl:TE):TI:=fun σ H R=>tl σ H fun x H1=>∃a,x=.ref a/\(((∃xs,SqL K H1 a xs)/\R (Itl K a) H1)\/((∃xs,SqT K H1 a xs)/\R (Itt K a) H1))
theorem cC{X:Cx}{tg:Expr}{l:Expr}{tl:TE}(hl:PE X l tl):PI X tg l (x9 X.K tl):=by
 intro zf s σ H R I h;refine thn (hl zf s σ H _ I h) fun v s1 ⟨x,H1,I1,r1,q1⟩=>?_;obtain⟨a,e,⟨⟨xs,hq⟩,q⟩|⟨⟨xs,hq⟩,q⟩⟩:=q1
 ·subst e;cases r1;obtain⟨z,rv,p,hz⟩:=I1.list hq;refine qd p.isList ?_;refine⟨s1.heap.objs.size,[s1.heap.objs.size],_,_,H1,rfl,I1.kept (t':=s1.toks) fun b o e=>bu _ e,CJ a _,⟨_,df _ rfl,rfl,rfl⟩,fun b hb=>?_,q⟩;have e:b=s1.heap.objs.size:=by simpa using hb
  subst e;exact I1.fpOk (cx _) (I1.hok.fresh (cx _))
 ·subst e;cases r1;obtain⟨z,rv,p,hz⟩:=I1.tuple hq;refine wpAny_pyIter_tuple (show s1.heap.IsTuple a z.toArray from p) ?_;refine⟨s1.heap.objs.size,[s1.heap.objs.size],_,_,H1,rfl,I1.kept (t':=s1.toks) fun b o e=>bu _ e,Cg a _,⟨_,df _ rfl,rfl,rfl⟩,fun b hb=>?_,q⟩;have e:b=s1.heap.objs.size:=by simpa using hb
  subst e;exact I1.fpOk (cx _) (I1.hok.fresh (cx _))
def eK:XV->Option (List bo)
 | .d (.list ds)=>some ds
 | .d (.tuple ds)=>some ds
 |_=>none
theorem lY{ds:List bo}:eK (.d (.list ds))=some ds:=rfl
theorem k6{ds:List bo}:eK (.d (.tuple ds))=some ds:=rfl
def bG(e:DE):DI:=fun δ S R=>e δ S fun x S1=>∃ds,eK x=some ds/\R ds S1
theorem cW{K:cy}{te:TE}{de:DE}(z:RE te de):RI (x9 K te) (bG de):=fun h o H δ σ S R Q he hs q c=>
 z h o H δ σ S _ _ he hs q fun o1 H1 S1 x v e1 s1 x1 ⟨ds,ex,d1⟩=>by
  unfold eK at ex;split at ex
  ·cases ex;obtain⟨a,vs,rfl,ea,l⟩:=dA.mp (show Has _ _ _ from x1);have hl:=l.length;refine⟨a,rfl,.inl ⟨⟨vs,.of (bR _ _ ea)⟩,c o1 H1 S1 ds _ e1 s1 ⟨fun i o2 H2 e2 hi=>⟨vs,.of (bR _ _ (e2.vx _ _ ea)),yw⟩,fun i d o2 H2 e2 hi=>?_,fun i d o2 H2 x H3 S2 e2 s2 hi y=>?_⟩ d1⟩⟩
   ·obtain⟨v,ev,_⟩:=l.get hi;exact⟨vs,v,.of (bR _ _ (e2.vx _ _ ea)),ev⟩
   ·obtain⟨v,ev,hv⟩:=l.get hi;have e3:H3=H2:=y.1;subst e3;have ex:=y.2 vs (.of (bR _ _ (e2.vx _ _ ea)));rw[ev]at ex;cases ex;exact⟨Same.refl _,hv.mono e2.vx⟩
  ·cases ex;obtain⟨a,vs,rfl,ea,l⟩:=dJ.mp (show Has _ _ _ from x1);have hl:=l.length;refine⟨a,rfl,.inr ⟨⟨vs,.of (bR _ _ ea)⟩,c o1 H1 S1 ds _ e1 s1 ⟨fun i o2 H2 e2 hi=>⟨vs,.of (bR _ _ (e2.vx _ _ ea)),yw⟩,fun i d o2 H2 e2 hi=>?_,fun i d o2 H2 x H3 S2 e2 s2 hi y=>?_⟩ d1⟩⟩
   ·obtain⟨v,ev,_⟩:=l.get hi;exact⟨vs,v,.of (bR _ _ (e2.vx _ _ ea)),ev⟩
   ·obtain⟨v,ev,hv⟩:=l.get hi;have e3:H3=H2:=y.1;subst e3;have ex:=y.2 vs (.of (bR _ _ (e2.vx _ _ ea)));rw[ev]at ex;cases ex;exact⟨Same.refl _,hv.mono e2.vx⟩
  ·cases ex
def eI(dt:DS):DS:=fun E δ S=>dt { E with nx:=fun δ' S'=>∃S0 ds,S'=S0++[ds]/\S.length<=S0.length/\E.nx (δ'.map (frz S0.length ds)) S0 } δ S
theorem rM{t:TS}{dt:DS}(ht:RS t dt):RS t (eI dt):=fun h o H δ σ S E D he hs q c=>by
 refine ht h o H δ σ S _ D he hs q ⟨fun o' H' δ' S' σ' e aa ab ⟨S0,ds,eS,hl,n⟩=>?_,c.rt,c.bk,c.ct⟩;subst eS;obtain⟨r,rfl⟩:=e.pre;have hL:=ab.len;simp only[cu,fk]at hL;have hS:=hs.len;have ae:r≠[]:=fun z=>by subst z;simp at hL;omega
 obtain⟨r0,a,rfl⟩:∃r0 a,r=r0++[a]:=⟨r.dropLast,r.getLast ae,(List.dropLast_concat_getLast ae).symm⟩;have ac:S0.length=(o++r0).length:=by simp at hL ⊢;omega
 rw[<- kc]at ab aa e;have nd:=nodup_append.mp ab.nd;have na:a∉o++r0:=fun m=>nd.2.2 a m a yv rfl;have nh:a∉h:=ab.dis a yv;refine c.nx (o++r0) H' _ S0 σ' ⟨⟨r0,rfl⟩,fun b u hb eb=>?_⟩ ⟨by rw[ff];exact aa.len,fun i x ex=>?_⟩ (ab.pop ac) n
 ·obtain⟨z1,z2⟩:=e.kp b u hb eb;exact⟨fun m=>z1 (jz _ m),z2⟩
 ·rw[gu]at ex;obtain⟨y,ey,ex⟩:=map_eq_some_iff.mp ex
  match y,ey,ex with
  |none,ey,ex=>cases ex
  |some (.d d),ey,ex=>
   cases ex;obtain⟨v,e1,e2⟩:=aa.get i _ ey;exact⟨v,e1,Has.mono dP d v e2⟩
  |some (.o w),ey,ex=>
   cases ex;exact aa.get i _ ey
  |some (.x C fs),ey,ex=>
   cases ex;obtain⟨v,e1,e2⟩:=aa.get i _ ey;exact⟨v,e1,HasE.mono dP e2⟩
  |some (.p k d),ey,ex=>
   obtain⟨v,e1,t,b,u,rfl,eb,et,hu⟩:=aa.get i _ ey;unfold frz at ex;by_cases hk:k=S0.length
   ·simp only[hk,↓reduceIte]at ex;cases ex;rw[hk,ac,ck]at eb;cases eb;obtain⟨vs,ev,l⟩:=ab.cont S0.length a ds (by rw[ac,ck]) (by rw[ck]);exact⟨_,e1,dJ.mpr ⟨t,_,rfl,dP _ _ et,zp.mpr ⟨_,_,rfl,dA.mpr ⟨a,vs,rfl,aV.mpr ⟨nh,na,ev⟩,l.mono dP⟩,zp.mpr ⟨u,_,rfl,Has.mono dP _ _ hu,zv.mpr rfl⟩⟩⟩⟩
   ·simp only[hk,↓reduceIte]at ex;cases ex;refine⟨_,e1,t,b,u,rfl,?_,dP _ _ et,Has.mono dP _ _ hu⟩;have af:k<(o++r0).length:=by
     obtain⟨z,_⟩:=List.getElem?_eq_some_iff.mp eb;rw[cu,fk]at z;omega
    rw[fh af]at eb;exact eb
  |some (.l k),ey,ex=>
   obtain⟨v,e1,b,eb,rfl⟩:=aa.get i _ ey;unfold frz at ex;by_cases hk:k=S0.length
   ·simp only[hk,↓reduceIte]at ex;cases ex;rw[hk,ac,ck]at eb;cases eb;obtain⟨vs,ev,l⟩:=ab.cont k a ds (by rw[hk,ac,ck]) (by rw[hk,ck]);exact⟨_,e1,dA.mpr ⟨a,vs,rfl,aV.mpr ⟨nh,na,ev⟩,l.mono dP⟩⟩
   ·simp only[hk,↓reduceIte]at ex;cases ex;have ag:=(List.getElem?_eq_some_iff.mp eb).1;simp only[cu,fk]at ag;simp only[cu]at ac;rw[fh (by simp only[cu];omega)]at eb;exact⟨_,e1,b,eb,rfl⟩
section
variable {t1 t2 t3 t4 t5 t6 t7 t8:TS}{d:DS}
theorem wI(h:RS (cJ (cJ t1 t2) t3) d):RS (cJ t1 (cJ t2 t3)) d:=h
theorem De(h:RS (cJ (cJ t1 (cJ t2 t3)) t4) d):RS (cJ t1 (cJ t2 (cJ t3 t4))) d:=h
end
end
section
abbrev PN:=List XV->Sto->RX->Prop
def lfN(q:PN):List V->Hp->VK->Prop:=fun vs H Q=>∃h o S xs R,RepS h o H S/\HasXs h o H xs vs/\q xs S R/\Cn h o H R Q
def spN(ps:List Str)(q:PN):Sp:=fun vs H Q _=>vs.length=ps.length/\lfN q vs H Q
theorem HasXs.len{h o:List Addr}{H:Hp}:∀{xs:List XV}{vs:List V},HasXs h o H xs vs->vs.length=xs.length
 | [],vs,q=>by rw[show vs=[]from q];rfl
 |x::xs,vs,⟨v,r,e,_,l⟩=>by rw[e,fu,fu,HasXs.len l]
theorem HasXs.get{h o:List Addr}{H:Hp}:∀{xs:List XV}{vs:List V}{i:Nat}{x:XV},HasXs h o H xs vs->xs[i]?=some x->∃v,vs[i]?=some v/\HasX h o H x v
 | [],_,i,_,_,e=>by simp at e
 |y::xs,vs,0,x,⟨v,r,e1,q,l⟩,e=>by
  rw[ph]at e;cases e;subst e1;exact⟨v,rfl,q⟩
 |y::xs,vs,i+1,x,⟨v,r,e1,q,l⟩,e=>by
  subst e1;rw[pi]at e ⊢;exact HasXs.get l e
theorem Cm{h o:List Addr}{H:Hp}{xs:List XV}{vs:List V}{n:Nat}(q:HasXs h o H xs vs):RepE h o H (xs.map some++bx n none) (vs.map some++bx n none):=by
 have hl:=q.len;refine⟨by simp[hl],fun i x e=>?_⟩;by_cases hi:i<xs.length
 ·rw[fh (by rw[ff];exact hi),gu]at e;obtain⟨y,ey,e⟩:=map_eq_some_iff.mp e;cases e;obtain⟨v,ev,hv⟩:=q.get ey;exact⟨v,by rw[fh (by rw[ff,hl];exact hi),gu,ev];rfl,hv⟩
 ·rw[mq (by rw[ff];omega),List.getElem?_replicate]at e;split at e<;>cases e
section
variable {P:fg}{w:ga}{K:cy}{mg:Str->Option bn}{base:Heap}{x:Str}{st:Stmt}{N ps:List Str}{k:Nat}
theorem Df.dN{q:PN}(D:Dd K mg x st ps)(S:FnScope N ps (zi st))(n:Nat)(hn:N.length=ps.length+n)
  (hbody:∀(f:Addr) (z:bn) (A:fv) (outer:List Env) (s:bp) (H:Hp) (E:XK),Room k (A.deeper (envOfC x (zi st) s.heap.objs.size f z)) ->
   ∃t dt,PSs (eF CX0 P w K mg base N x (zi st) f z A outer s H E).nox (dM st) t/\RS t dt/\∀xs S R,q xs S R->dt (aK S.length R) (xs.map some++bx n none) S):Df P w K mg base x ps (k+1) (spN ps q):=by
 refine Df.of D S (fun vs H Q E h=>h.1) fun f z A outer s H vs Q E hr ⟨hl,h,o,S',xs,R,aa,hx,hq,c⟩=>?_;obtain⟨t,dt,h1,h2,h3⟩:=hbody f z A outer s H E hr;refine⟨t,h1,h2 h o H _ _ S' _ _ ?_ aa (h3 xs S' R hq) (eok aa c)⟩;have e:N.length-vs.length=n:=yw
 unfold start;rw[e];exact Cm hx
end
section
variable {X:Cx}{x:Str}{ps:List Str}{k j:Nat}{pos pos':Pos}{e:Expr}{es:List Expr}{t:TA}
theorem zt{q:PN}(D:Df X.prog X.w X.K X.mg X.base x ps k (spN ps q))(hr:Room j X.A)(hk:k<=j)(ha:PA X (e::es) t)(hg:Gl X x:=by rfl)(z:(x==("__debug__":Str))=false:=by decide)
  (q1:fq (e::es) X.env=(false,eval e X.env)::fq es X.env:=by rfl) (q2:((qx pos (fq es X.env)).any fun x=>x.fst)=false:=by rfl):PE X (.Call (.Name x pos') (e::es) [] pos) (j5 (spN ps q) [] E0 t):=by
 obtain⟨f,fd,F,hm,kp,hb⟩:=D.ex;exact CL (dvs:=[]) (ds:=[]) (E:=E0) F (hr.mono hk) hg hm kp hb .nil pass0 ha z q1 q2
end
def aN(m:Nat)(q:PN)(da:DA):DE:=fun δ S R=>da δ S fun xs S1=>∃ds,datas xs=some ds/\ds.length=m/\q (ds.map XV.d) [] (ret0 S1 R)
theorem hxs0{h o:List Addr}{H:Hp}:∀{ds:List bo}{vs:List V},HasXs h o H (ds.map XV.d) vs->HasXs (h++o) [] H (ds.map XV.d) vs
 | [],_,q=>q
 |d::ds,vs,⟨v,r,e,q,l⟩=>⟨v,r,e,hx0 q,hxs0 l⟩
theorem eJ{ps:List Str}{q:PN}{m:Nat}{t:TA}{da:DA}(ha:RA t da)(hm:ps.length=m:=by rfl):RE (j5 (spN ps q) [] E0 t) (aN m q da):=fun h o H δ σ S R Q he hs w c=>
 ha h o H δ σ S _ _ he hs w fun o1 H1 S1 xs vs e1 s1 x1 ⟨ds,e,hl,d1⟩=>by
  have ex:=iA e;subst ex;have hv:=x1.len;rw[km];exact⟨by rw[hv,ff,hl,hm],h++o1,[],[],_,_,rep0 s1,hxs0 x1,d1,cn0 s1 (c.pre e1)⟩
def zG(i m:Nat)(q:PN)(da:DA):DE:=fun δ S R=>da δ S fun xs S1=>∃k,xs[i]?=some (.l k)/\∃p,S1[k]?=some p/\∃ds,datas (xs.set i (.d .none))=some ds/\ds.length=m/\q ((ds.map XV.d).set i (.l 0)) [p] (m6 k S1 R)
theorem BY{h o:List Addr}{H:Hp}{k:Nat}{a:Addr}(ea:o[k]?=some a):∀{xs:List XV}{vs:List V}{ds:List bo}{i:Nat},HasXs h o H xs vs->xs[i]?=some (.l k)->datas (xs.set i (.d .none))=some ds->HasXs (h++o.filter (fun b=>b≠a)) [a] H ((ds.map XV.d).set i (.l 0)) vs
 | [],_,_,i,_,e,_=>by simp at e
 |x::xs,vs,ds,0,⟨v,r,e1,q,l⟩,e,ed=>by
  rw[ph]at e;cases e;rw[set_cons_zero]at ed;obtain⟨z,rfl⟩:∃z,ds=.none::z:=by
   unfold datas at ed;cases hd:datas xs with
   |none=>rw[hd]at ed;cases ed
   |some y=>rw[hd]at ed;cases ed;exact⟨y,rfl⟩
  have aa:datas xs=some z:=by
   unfold datas at ed;cases hd:datas xs with
   |none=>rw[hd]at ed;cases ed
   |some y=>rw[hd]at ed;cases ed;rfl
  have ex:=iA aa;subst ex;obtain⟨b,eb,rfl⟩:=q;rw[ea]at eb;cases eb;exact⟨_,r,e1,⟨a,rfl,rfl⟩,go (ea:=ea) l⟩
 |x::xs,vs,ds,i+1,⟨v,r,e1,q,l⟩,e,ed=>by
  rw[pi]at e;rw[set_cons_succ]at ed
  match x,q,ed with
  | .d d,q,ed=>
   unfold datas at ed;cases hd:datas (xs.set i (.d .none))with
   |none=>rw[hd]at ed;cases ed
   |some z=>
    rw[hd]at ed;cases ed;exact⟨v,r,e1,hxP ea q,BY ea l e hd⟩
  | .l j,q,ed=>cases ed
  | .o w,q,ed=>cases ed
  | .x _ _,q,ed=>cases ed
  | .p _ _,q,ed=>cases ed
where
 go {h o:List Addr}{H:Hp}{k:Nat}{a:Addr}{ea:o[k]?=some a}:∀{ds:List bo}{vs:List V},HasXs h o H (ds.map XV.d) vs->HasXs (h++o.filter (fun b=>b≠a)) [a] H (ds.map XV.d) vs
 | [],_,q=>q
 |d::ds,vs,⟨v,r,e,q,l⟩=>⟨v,r,e,hxP ea q,go (ea:=ea) l⟩
theorem GF:∀{xs:List XV}{ds:List bo},datas xs=some ds->xs.length=ds.length:=fun e=>by
 rw[iA e,ff]
theorem iK{ps:List Str}{q:PN}{i m:Nat}{t:TA}{da:DA}(ha:RA t da)(hm:ps.length=m:=by rfl):RE (j5 (spN ps q) [] E0 t) (zG i m q da):=fun h o H δ σ S R Q he hs w c=>
 ha h o H δ σ S _ _ he hs w fun o1 H1 S1 xs vs e1 s1 x1 ⟨k,ek,p,ep,ds,e,hl,d1⟩=>by
  have hv:=x1.len;have hd:=GF e;rw[length_set]at hd;obtain⟨v,_,a,ea,_⟩:=x1.get ek;rw[km];exact⟨by rw[hv,hd,hl,hm],_,[a],[p],_,_,o9 s1 ea ep,BY ea x1 ek e,d1,cnP s1 ea ep (c.pre e1)⟩
mutual
def gU:bo->Bool
 | .list _=>false
 | .dict _=>false
 | .tuple ds=>oK ds
 |_=>true
def oK:List bo->Bool
 | []=>true
 |d::ds=>gU d&&oK ds
end
mutual
theorem xH{h o:List Addr}{H G:Hp}(sm:Same G H)(hh:∀b,b∈h\/b∈o->∃u:MO,H b=some u.ho):∀(d:bo) (v:V),gU d=true->Has G d v->Has (vx h o H) d v
 | .none,v,_,q=>iX.mpr (iX.mp q)
 | .bool b,v,_,q=>fB.mpr (fB.mp q)
 | .int i,v,_,q=>eU.mpr (eU.mp q)
 | .str z,v,_,q=>eV.mpr (eV.mp q)
 | .list ds,v,n,_=>by simp[gU]at n
 | .dict ds,v,n,_=>by simp[gU]at n
 | .tuple ds,v,n,q=>by
  obtain⟨a,vs,e,ea,l⟩:=dJ.mp q;have n':oK ds=true:=by simpa[gU]using n
  have aa:=sm _ _ ea;refine dJ.mpr ⟨a,vs,e,aV.mpr ⟨fun m=>?_,fun m=>?_,aa⟩,Ak sm hh ds vs n' l⟩
  ·obtain⟨u,eu⟩:=hh a (.inl m);rw[aa]at eu;cases u<;>cases eu
  ·obtain⟨u,eu⟩:=hh a (.inr m);rw[aa]at eu;cases u<;>cases eu
theorem Ak{h o:List Addr}{H G:Hp}(sm:Same G H)(hh:∀b,b∈h\/b∈o->∃u:MO,H b=some u.ho):∀(ds:List bo) (vs:List V),oK ds=true->HasL G ds vs->HasL (vx h o H) ds vs
 | [],vs,_,q=>zv.mpr (zv.mp q)
 |d::ds,vs,n,q=>by
  obtain⟨v,r,e,hv,l⟩:=zp.mp q;simp only[oK,jr]at n;exact zp.mpr ⟨v,r,e,xH sm hh d v n.1 hv,Ak sm hh ds r n.2 l⟩
end
def pT(S:Sto)(R:RX):RX:=fun y S'=>match y,S' with
 | .d d,[]=>gU d=true/\R (.d d) S
 |_,_=>False
theorem n6{S:Sto}{R:RX}{d:bo}:pT S R (.d d) []=(gU d=true/\R (.d d) S):=rfl
def views(S:Sto):List XV->Option (List bo)
 | []=>some []
 |x::r=>(bF S x).bind fun d=>(views S r).map (d :: ·)
theorem mX{S:Sto}:views S []=some []:=rfl
theorem jA{S:Sto}{x:XV}{r:List XV}:views S (x::r)=(bF S x).bind fun d=>(views S r).map (d :: ·):=rfl
def g7(m:Nat)(q:PN)(da:DA):DE:=fun δ S R=>da δ S fun xs S1=>∃ds,views S1 xs=some ds/\ds.length=m/\q (ds.map XV.d) [] (pT S1 R)
theorem Ip{h o:List Addr}{H:Hp}{S:Sto}(hs:RepS h o H S):RepS h [] H []:=⟨rfl,nodup_nil,(fun _ h=>(nomatch h)),hs.hal,(fun _ _ _ e=>(by simp at e))⟩
theorem hxV{h o:List Addr}{H:Hp}{S:Sto}{x:XV}{v:V}{d:bo}(hs:RepS h o H S)(e:bF S x=some d)(q:HasX h o H x v):HasX h [] H (.d d) v:=by
 have sub:Same (vx h o H) (vx h [] H):=fun b u eb=>by
  obtain⟨z1,z2,z3⟩:=aV.mp eb;exact aV.mpr ⟨z1,yv,z3⟩
 unfold bF at e;split at e
 ·cases e;exact Has.mono sub _ _ q
 ·rename_i k;obtain⟨a,ea,rfl⟩:=q;cases hk:S[k]? with
  |none=>rw[hk]at e;cases e
  |some ds=>
   rw[hk]at e;cases e;obtain⟨vs,ev,l⟩:=hs.cont k a ds ea hk;exact dA.mpr ⟨a,vs,rfl,aV.mpr ⟨hs.dis a (bv ea),yv,ev⟩,l.mono sub⟩
 ·cases e
 ·cases e
 ·rename_i k d';obtain⟨t,a,u,rfl,ea,et,hu⟩:=q;cases hk:S[k]? with
  |none=>rw[hk]at e;cases e
  |some ds=>
   rw[hk]at e;cases e;obtain⟨vs,ev,l⟩:=hs.cont k a ds ea hk;exact dJ.mpr ⟨t,_,rfl,sub _ _ et,zp.mpr ⟨_,_,rfl,dA.mpr ⟨a,vs,rfl,aV.mpr ⟨hs.dis a (bv ea),yv,ev⟩,l.mono sub⟩,zp.mpr ⟨u,_,rfl,Has.mono sub _ _ hu,zv.mpr rfl⟩⟩⟩
theorem v5{h o:List Addr}{H:Hp}{S:Sto}(hs:RepS h o H S):∀{xs:List XV}{vs:List V}{ds:List bo},views S xs=some ds->HasXs h o H xs vs->HasXs h [] H (ds.map XV.d) vs/\vs.length=ds.length
 | [],vs,ds,e,q=>by cases e;exact⟨q,by rw[show vs=[]from q];rfl⟩
 |x::xs,vs,ds,e,⟨v,r,e1,q,l⟩=>by
  rw[jA]at e;cases hd:bF S x with
  |none=>rw[hd]at e;cases e
  |some d=>
   rw[hd,Option.bind_some]at e;cases hr:views S xs with
   |none=>rw[hr]at e;cases e
   |some es=>
    rw[hr]at e;cases e;obtain⟨z1,z2⟩:=v5 hs hr l;exact⟨⟨v,r,e1,hxV hs hd q,z1⟩,by rw[e1,fu,fu,z2]⟩
theorem cnV{h o:List Addr}{H:Hp}{S:Sto}{R:RX}{Q:VK}(hs:RepS h o H S)(c:Cn h o H R Q):Cn h [] H (pT S R) Q:=fun o' H' S' y v e s' hy q=>by
 unfold pT at q;split at q
 ·rename_i d;have sH:Same H H':=fun b u eb=>(e.kp b u yv eb).2;have e0:o'=[]:=gj s'.len.symm;subst e0;have z:=hs.same sH;refine c o H' S (.d d) v (Ex.of_same sH) z (xH (bR (h:=h) (o:=[])) (fun b m=>?_) d v q.1 hy) q.2;exact m.elim (z.hal b) (z.oam b)
 ·exact q.elim
theorem Il{ps:List Str}{q:PN}{m:Nat}{t:TA}{da:DA}(ha:RA t da)(hm:ps.length=m:=by rfl):RE (j5 (spN ps q) [] E0 t) (g7 m q da):=fun h o H δ σ S R Q he hs w c=>
 ha h o H δ σ S _ _ he hs w fun o1 H1 S1 xs vs e1 s1 x1 ⟨ds,e,hl,d1⟩=>by
  obtain⟨z1,z2⟩:=v5 s1 e x1;rw[km];exact⟨by rw[z2,hl,hm],h,[],[],_,_,Ip s1,z1,d1,cnV s1 (c.pre e1)⟩
end
section
def vT(K:cy):List V->Hp->VK->Prop:=fun xs H Q=>r8 K xs H Q\/∃z,xs=[.str z]/\z.length<=dw/\Q (.int z.length) H
theorem zJ{X:Cx}:CallR X (.builtin "len") (vT X.K):=CN.or IU
def pC(S:Sto):XV->Option Nat
 | .d (.tuple ds)=>some ds.length
 | .d (.list ds)=>some ds.length
 | .l k=>(S[k]?).map List.length
 | .d (.str z)=>if z.length<=dw then some z.length else none
 |_=>none
def aS:List XV->Sto->RX->Prop:=fun xs S R=>arg1 xs fun x=>∃n,pC S x=some n/\R (.d (.int n)) S
theorem AS{K:cy}:RC (vT K) aS:=fun h o H S xs vs R Q hs hx q c=>by
 obtain⟨x,rfl,n,hd,q1⟩:=cA q;unfold pC at hd;split at hd
 ·cases hd;exact .inl (tU h o H S _ vs R Q hs hx ⟨_,rfl,q1⟩ c)
 ·cases hd;exact .inl (tU h o H S _ vs R Q hs hx ⟨_,rfl,q1⟩ c)
 ·rename_i k;cases hk:S[k]? with
  |none=>rw[hk]at hd;cases hd
  |some ds=>
   rw[hk]at hd;cases hd;exact .inl (tU h o H S _ vs R Q hs hx ⟨ds,hk,q1⟩ c)
 ·split at hd
  ·rename_i hz;cases hd;obtain⟨v,rfl,z⟩:=hxs1 hx;exact .inr ⟨_,by rw[cS z],hz,c o H S _ _ Ex.refl hs (xI _) q1⟩
  ·cases hd
 ·cases hd
section
variable {S:Sto}{ds:List bo}{k:Nat}{z:Str}
theorem nE:pC S (.d (.tuple ds))=some ds.length:=rfl
theorem kN:pC S (.d (.list ds))=some ds.length:=rfl
end
def qQ(q:Bool):R2:=fun x y H Q=>∃d e ds,Has H d x/\Has H e y/\cw d=true/\cw (.list ds)=true/\(e=.list ds\/e=.tuple ds)/\Q (.bl (if q then !ds.any (fun y=>fr y d)else ds.any (fun y=>fr y d))) H
theorem Bs{ds:List bo}(h:cw (.list ds)=true):je ds=true/\jo ds<=63:=by
 have h1:=fx h;have h2:=SeqAt.depth_of_shaped h;simp only[jx,PyData.depth]at h1 h2;exact⟨h1,yw⟩
theorem Ht{X:Cx}(hu:X.A.units+64<re):OpR X (io .In) (qQ false):=by
 intro zf s σ H x y v u Q I rx ry h;obtain⟨d,e,ds,hd,he,sd,se,ee,q⟩:=h;obtain⟨s1,s2⟩:=Bs se;obtain⟨as,q1⟩:=Has.reads I d x v hd (fx sd) rx;have hm:X.A.units+1+min (jo ds) d.depth<re:=by
  have:=Nat.min_le_left (jo ds) d.depth;omega
 rcases ee with rfl|rfl
 ·obtain⟨bs,q2⟩:=Has.reads I (.list ds) y u he (by simpa only[jx]using s1) ry;exact SeqAt.in_list_reads q2 q1 s1 (fx sd) hm ⟨.bl _,H,I,rfl,q⟩
 ·obtain⟨bs,q2⟩:=Has.reads I (.tuple ds) y u he (by simpa only[jx]using s1) ry;exact SeqAt.in_tuple_reads q2 q1 s1 (fx sd) hm ⟨.bl _,H,I,rfl,q⟩
theorem F8{X:Cx}(hu:X.A.units+64<re):OpR X (io .NotIn) (qQ true):=by
 intro zf s σ H x y v u Q I rx ry h;obtain⟨d,e,ds,hd,he,sd,se,ee,q⟩:=h;obtain⟨s1,s2⟩:=Bs se;obtain⟨as,q1⟩:=Has.reads I d x v hd (fx sd) rx;have hm:X.A.units+1+min (jo ds) d.depth<re:=by
  have:=Nat.min_le_left (jo ds) d.depth;omega
 rcases ee with rfl|rfl
 ·obtain⟨bs,q2⟩:=Has.reads I (.list ds) y u he (by simpa only[jx]using s1) ry;exact SeqAt.notIn_list_reads q2 q1 s1 (fx sd) hm ⟨.bl _,H,I,rfl,q⟩
 ·obtain⟨bs,q2⟩:=Has.reads I (.tuple ds) y u he (by simpa only[jx]using s1) ry;exact SeqAt.notIn_tuple_reads q2 q1 s1 (fx sd) hm ⟨.bl _,H,I,rfl,q⟩
def BE:R2:=fun x y H Q=>qQ false x y H Q\/∃i j,x=.str i/\y=.str j/\Q (.bl (!(kf j i 0 j.length 1).isEmpty)) H
theorem wW{X:Cx}(hu:X.A.units+64<re):OpR X (io .In) BE:=(Ht hu).or FV
def BR:R2:=fun x y H Q=>qQ true x y H Q\/∃i j,x=.str i/\y=.str j/\Q (.bl (!(!(kf j i 0 j.length 1).isEmpty))) H
theorem qY{X:Cx}(hu:X.A.units+64<re):OpR X (io .NotIn) BR:=(F8 hu).or EL
def dIn:D2:=fun x y S R=>match y with
 | .d (.str b)=>asS x fun a=>R (.d (.bool (!(kf b a 0 b.length 1).isEmpty))) S
 |y=>∃d,bF S x=some d/\∃ds,asQ S y=some ds/\cw d=true/\cw (.list ds)=true/\R (.d (.bool (ds.any fun y=>fr y d))) S
def fX:D2:=fun x y S R=>match y with
 | .d (.str b)=>asS x fun a=>R (.d (.bool (!(!(kf b a 0 b.length 1).isEmpty)))) S
 |y=>∃d,bF S x=some d/\∃ds,asQ S y=some ds/\cw d=true/\cw (.list ds)=true/\R (.d (.bool (!ds.any fun y=>fr y d))) S
theorem wH{h o:List Addr}{H:Hp}{S:Sto}{x:XV}{v:V}{ds:List bo}(hs:RepS h o H S)(e:asQ S x=some ds)(q:HasX h o H x v):∃e,Has H e v/\(e=.list ds\/e=.tuple ds):=by
 unfold asQ at e;split at e
 ·cases e;exact⟨_,dF (x:=.d _) hs rfl q,.inr rfl⟩
 ·cases e;exact⟨_,dF (x:=.d _) hs rfl q,.inl rfl⟩
 ·rename_i k;exact⟨.list ds,dF (x:=.l k) hs (by show (S[k]?).map PyData.list=_;rw[e];rfl) q,.inl rfl⟩
 ·cases e
theorem Hn:RO BE dIn:=fun h o H S x y v u R Q hs hx hy q c=>by
 unfold dIn at q;split at q
 ·replace q:=qG q;obtain⟨a,rfl,q⟩:=q;exact .inr ⟨_,_,cS hx,cS hy,c o H S _ _ Ex.refl hs (xB _) q⟩
 ·obtain⟨d,e1,ds,e2,s1,s2,q⟩:=q;obtain⟨e,he,ee⟩:=wH hs e2 hy;exact .inl ⟨d,e,ds,dF hs e1 hx,he,s1,s2,ee,c o H S _ _ Ex.refl hs (xB _) q⟩
theorem BO:RO BR fX:=fun h o H S x y v u R Q hs hx hy q c=>by
 unfold fX at q;split at q
 ·replace q:=qG q;obtain⟨a,rfl,q⟩:=q;exact .inr ⟨_,_,cS hx,cS hy,c o H S _ _ Ex.refl hs (xB _) q⟩
 ·obtain⟨d,e1,ds,e2,s1,s2,q⟩:=q;obtain⟨e,he,ee⟩:=wH hs e2 hy;exact .inl ⟨d,e,ds,dF hs e1 hx,he,s1,s2,ee,c o H S _ _ Ex.refl hs (xB _) q⟩
section
variable {S:Sto}{ds:List bo}{k:Nat}{a b:Str}{x:XV}{R:RX}
theorem oN:dIn x (.d (.tuple ds)) S R↔∃d,bF S x=some d/\cw d=true/\cw (.list ds)=true/\R (.d (.bool (ds.any fun y=>fr y d))) S:=⟨fun⟨d,e,_,e',q⟩=>by cases e';exact⟨d,e,q⟩,fun⟨d,e,q⟩=>⟨d,e,_,rfl,q⟩⟩
theorem mG:dIn x (.d (.list ds)) S R↔∃d,bF S x=some d/\cw d=true/\cw (.list ds)=true/\R (.d (.bool (ds.any fun y=>fr y d))) S:=⟨fun⟨d,e,_,e',q⟩=>by cases e';exact⟨d,e,q⟩,fun⟨d,e,q⟩=>⟨d,e,_,rfl,q⟩⟩
theorem lE:fX x (.d (.tuple ds)) S R↔∃d,bF S x=some d/\cw d=true/\cw (.list ds)=true/\R (.d (.bool (!ds.any fun y=>fr y d))) S:=⟨fun⟨d,e,_,e',q⟩=>by cases e';exact⟨d,e,q⟩,fun⟨d,e,q⟩=>⟨d,e,_,rfl,q⟩⟩
theorem lK:fX x (.d (.list ds)) S R↔∃d,bF S x=some d/\cw d=true/\cw (.list ds)=true/\R (.d (.bool (!ds.any fun y=>fr y d))) S:=⟨fun⟨d,e,_,e',q⟩=>by cases e';exact⟨d,e,q⟩,fun⟨d,e,q⟩=>⟨d,e,_,rfl,q⟩⟩
end
def oQ(a:DA):DI:=fun δ S R=>a δ S fun xs S1=>arg1 xs fun x=>∃ds,eK x=some ds/\R (CF 0 ds) S1
def iO:XV->List XV->Sto->RX->Prop:=fun x xs S R=>∃k,x=.l k/\∃ds,S[k]?=some ds/\xs=[]/\∃d,ds[ds.length-1]?=some d/\R (.d d) (S.set k ds.dropLast)
theorem HasL.dropLast{H:Hp}:∀{ds:List bo}{vs:List V},HasL H ds vs->HasL H ds.dropLast vs.dropLast
 | [],vs,l=>by rw[zv.mp l];exact zv.mpr rfl
 | [d],vs,l=>by
  obtain⟨v,r,rfl,_,l⟩:=zp.mp l;rw[zv.mp l];exact zv.mpr rfl
 |d::e::ds,vs,l=>by
  obtain⟨v,r,rfl,hv,l⟩:=zp.mp l;obtain⟨w,r,rfl,hw,l'⟩:=zp.mp l;rw[List.dropLast_cons₂,List.dropLast_cons₂];exact zp.mpr ⟨v,_,rfl,hv,HasL.dropLast l⟩
theorem IP:RM vY iO:=fun h o H S x v xs vs R Q hs hx z q c=>by
 obtain⟨k,rfl,ds,e,rfl,d,ed,q1⟩:=q;obtain⟨a,ea,rfl⟩:=hx;obtain⟨ws,ew,l⟩:=hs.cont k a ds ea e;cases z;obtain⟨y,ey,hy⟩:=l.get ed;exact⟨a,ws,y,rfl,rfl,ew,by rw[l.length];exact ey,c o _ _ (.d d) _ (Ex.upd ea) (hs.upd ea l.dropLast) (HasX.mono (x:=.d d) (Ex.upd ea) hy) q1⟩
def gX(rd:XV->List XV->Sto->RX->Prop)(e:DE)(a:DA):DE:=fun δ S R=>e δ S fun x S1=>∃z,x=.d (.str z)/\a δ S1 fun xs S2=>rd x xs S2 R
theorem x5{K:cy}{r:V->List V->Hp->VK->Prop}{rd:XV->List XV->Sto->RX->Prop}{te:TE}{de:DE}{tl:TA}{dl:DA}(hr:RM r rd)(aa:RE te de)(ha:RA tl dl):RE (tBM K "str" r te tl) (gX rd de dl):=fun h o H δ σ S R Q he hs q c=>
 aa h o H δ σ S _ _ he hs q fun o1 H1 S1 x v e1 s1 x1 ⟨z,ez,d1⟩=>by
  subst ez;cases cS x1;exact⟨rfl,ha h o1 H1 δ σ S1 _ _ (he.mono e1) s1 d1 fun o2 H2 S2 xs vs e2 s2 x2 d2=>hr h o2 H2 S2 (.d (.str z)) _ xs vs R Q s2 (HasX.mono (x:=.d (.str z)) e2 x1) x2 d2 (c.pre (e1.trans e2))⟩
theorem w6{H:Hp}:∀{ns:List Str}{vs:List V},HasL H (ns.map lq) vs->vs=ns.map V.str
 | [],vs,h=>zv.mp h
 |n::ns,vs,h=>by
  obtain⟨v,r,rfl,h1,h2⟩:=zp.mp h;rw[eV.mp h1,w6 h2];rfl
def iC:XV->List XV->Sto->RX->Prop:=fun x xs S R=>asS x fun z=>arg1 xs fun y=>∃ds,dS S y=some ds/\∃zs:List Str,ds=zs.map lq/\z.length<=16/\zs.length<=1000/\(∀y∈zs,y.length<=1000)/\R (.d (.str (PySem.Txt.join z zs))) S
theorem Hc{K:cy}:RM (wU K) iC:=fun h o H S x v xs vs R Q hs hx aa q c=>by
 replace q:=qG q;obtain⟨z,rfl,q⟩:=q;obtain⟨y,rfl,ds,e,zs,rfl,h1,h2,h3,q1⟩:=cA q;obtain⟨u,rfl,hu⟩:=hxs1 aa;obtain⟨a,ws,rfl,ea,l⟩:=bN hs e hu;rw[w6 l]at ea;exact⟨z,a,zs,cS hx,rfl,.of ea,h1,h2,h3,c o H S _ _ Ex.refl hs (xS _) q1⟩
def fG:D2:=fun x y S R=>asL S x fun ds=>asL S y fun es=>ds.length+es.length<=1000/\R (.l S.length) (S++[ds++es])
theorem Fz:RO i0 fG:=fun h o H S x y v u R Q hs hx hy q c=>by
 obtain⟨ds,e0,es,e1,hl,q⟩:=q;obtain⟨a,vs,rfl,ea,la⟩:=bN hs e0 hx;obtain⟨b,us,rfl,eb,lb⟩:=bN hs e1 hy;exact⟨a,b,vs,us,rfl,rfl,ea,eb,by rw[la.length,lb.length];exact ku (small1000 hl),yV hs (la.append lb) c q⟩
abbrev Hm (a:Addr) (m:Nat):DEnds:={ nx:=fun δ _=>δ[0]?=some (some (.o (.ref a)))/\δ.length=m+1,ct:=fun δ _=>δ[0]?=some (some (.o (.ref a)))/\δ.length=m+1,rt:=fun _ _=>False }
end
section
open Sem (wp)
def sI:List bo->List bo->List bo
 |d::ds,e::es=>.tuple [d,e]::sI ds es
 |_,_=>[]
def mK(a:DA):DI:=fun δ S R=>a δ S fun xs S1=>arg2 xs fun x y=>∃ds,eK x=some ds/\∃es,eK y=some es/\R (sI ds es) S1
end
section
open Sem (wp)
section
variable {prog:fg}{w:ga}{A:fv}{R:Result->bp->Prop}{I:Addr}{fp wr:List Addr}{n:Nat}{P:Nat->bn->Prop}{St:Nat->Heap->Prop}
def CmpH(prog:fg)(w:ga)(A:fv)(g:Heap)(q:List Addr)(P:Nat->bn->Prop)(bt:Nat->Nat->Bool):Prop:=
 ∀i j x y (s:bp) (Q:bn->bp->Prop) (E:bn->bp->Prop),(∀b o,b∉q->g.get? b=some o->s.heap.get? b=some o)->P i x->P j y->Q (.bool (bt i j)) s->cj (model prog w) A (richCompare .Lt x y) Q E s
theorem Cd(W:Walks prog w A.in1 I fp wr n P St)(bt:Nat->Nat->Bool){g:Heap}(S:Addr)(cm:CmpH prog w A.in1 g (S::wr) P bt)(nS:S∉fp):∀(d j:Nat) (s:bp) (q:bn) (c:Nat),n=j+1+d->(∀b o,b∉S::wr->g.get? b=some o->s.heap.get? b=some o)->St (j+1) s.heap->P (nz bt j) q ->
   s.heap.get? S=some { cls:=.type "list",dict:=none,data:=.seq #[q,q] c,slots:=#[] } ->
   (∀v h' tk,P (nz bt (n-1)) v->(∀b o,b∉S::wr->s.heap.get? b=some o->h'.get? b=some o)->R (.ok (.ret v)) { s with heap:=h',toks:=tk })->pb (model prog w) A (.builtin "min.loop" ⟨[.ref I,.none,.ref S],[]⟩) R s:=by
 have nw:S∉wr:=fun m=>nS (W.sub _ m);have nm:(toString "min" ++ toString ".loop":String) = "min.loop":=by decide
 intro d;induction d with
 |zero=>
  intro j s q c hd kg st hb hS fin;have hj:j+1=n:=yw
  refine jp F.entry_min_loop ?_;rw[gy lv _];show cj _ A.in1 (seqItems? (.ref S) >>= _) _ _ s;refine bj (wpAny_seqItems hS rfl ?_);show cj _ A.in1 (tryCatch (ox (.ref I)) _ >>= _) _ _ s;refine bj (wpAny_tryCatch (W.done s _ _ (by rw[<- hj];exact st) fun h1 t1 k1=>?_));have aa:=k1 S _ nw hS;show cj _ A.in1 (updateSeq S (fun _=>#[]) >>= _) _ _ _;refine bj (ni aa rfl (bj (wpAny_letGo (bq (fin q _ t1 (by rw[<- hj];exact hb) fun b o hn e=>?_)))));rw[iq,not_or]at hn;exact(gw _ _ (lr hn.1)).trans (k1 b o hn.2 e)
 |succ d ih=>
  intro j s q c hd kg st hb hS fin;refine jp F.entry_min_loop ?_;rw[gy lv _];show cj _ A.in1 (seqItems? (.ref S) >>= _) _ _ s;refine bj (wpAny_seqItems hS rfl ?_);show cj _ A.in1 (tryCatch (ox (.ref I)) _ >>= _) _ _ s;refine bj (wpAny_tryCatch (W.item (j+1) s _ _ yw st fun x h1 t1 hx ab k1=>?_));have aa:=k1 S _ nw hS;have ac:∀b o,b∉S::wr->g.get? b=some o->h1.get? b=some o:=fun b o hn e=>k1 b o (fun m=>hn (fb _ m)) (kg b o hn e);show cj _ A.in1 (tryCatch (holding [x,x] (richCompare .Lt x q >>= _)) _ >>= _) _ _ _;refine bj (wpAny_tryCatch (ix (bj (cm (j+1) (nz bt j) x q _ _ _ ac hx hb (bj (ix (iu (bj (wpAny_letGo (bq ?_)))))))))) ;cases ht:bt (j+1) (nz bt j)with
  |true=>
   simp only[if_true];refine bj (ni aa rfl (bj (wpAny_letGo ?_)));rw[nm];have keep:∀b o,b∉S::wr->s.heap.get? b=some o->(h1.update S (gm fun _=>#[x,x])).get? b=some o:=fun b o hn e=>by
    rw[iq,not_or]at hn;exact(gw _ _ (lr hn.1)).trans (k1 b o hn.2 e)
   refine bq ⟨lh lv _,ih (j+1) _ x _ yw (fun b o hn e=>keep b o hn (kg b o hn e)) (W.frame _ _ _ ab fun b m o e=>?_) (by simp only[nz,ht,if_true];exact hx) (kx _ aa rfl) fun v h2 t2 hv k2=>fin v h2 t2 hv fun b o hn e=>k2 b o hn (keep b o hn e)⟩;exact(gw _ _ (fun z:S=b=>nS (by rw[z];exact m))).trans e
  |false=>
   simp only[dh,if_false];refine bj (wpAny_letGo ?_);rw[nm];exact bq ⟨lh lv _,ih (j+1) _ q c yw ac ab (by simp only[nz,ht,dh,if_false];exact hb) aa fun v h2 t2 hv k2=>fin v h2 t2 hv fun b o hn e=>k2 b o hn (k1 b o (fun m=>hn (fb _ m)) e)⟩
theorem HJ(W:Walks prog w A.in1 I fp wr n P St)(bt:Nat->Nat->Bool)(S:Addr)(nS:S∉fp)(hn:0<n){s:bp}{c:Nat}(cm:CmpH prog w A.in1 s.heap (S::wr) P bt)(st:St 0 s.heap)(hS:s.heap.get? S=some { cls:=.type "list",dict:=none,data:=.seq #[] c,slots:=#[] })
  (fin:∀v h' tk,P (nz bt (n-1)) v->(∀b o,b∉S::wr->s.heap.get? b=some o->h'.get? b=some o)->R (.ok (.ret v)) { s with heap:=h',toks:=tk }):pb (model prog w) A (.builtin "min.loop" ⟨[.ref I,.none,.ref S],[]⟩) R s:=by
 have nw:S∉wr:=fun m=>nS (W.sub _ m);have nm:(toString "min" ++ toString ".loop":String) = "min.loop":=by decide
 refine jp F.entry_min_loop ?_;rw[gy lv _];show cj _ A.in1 (seqItems? (.ref S) >>= _) _ _ s;refine bj (wpAny_seqItems hS rfl ?_);show cj _ A.in1 (tryCatch (ox (.ref I)) _ >>= _) _ _ s;refine bj (wpAny_tryCatch (W.item 0 s _ _ hn st fun x h1 t1 hx aa k1=>?_));have q:=k1 S _ nw hS;show cj _ A.in1 (updateSeq S (fun _=>#[x,x]) >>= _) _ _ _;refine bj (ni q rfl ?_);rw[nm];have keep:∀b o,b∉S::wr->s.heap.get? b=some o->(h1.update S (gm fun _=>#[x,x])).get? b=some o:=fun b o hn e=>by
  rw[iq,not_or]at hn;exact(gw _ _ (lr hn.1)).trans (k1 b o hn.2 e)
 refine bq ⟨lh lv _,Cd W bt S cm nS (n-1) 0 _ x _ yw keep (W.frame _ _ _ aa fun b m o e=>?_) hx (kx _ q rfl) fun v h2 t2 hv k2=>fin v h2 t2 hv fun b o hn e=>k2 b o hn (keep b o hn e)⟩;exact(gw _ _ (fun z:S=b=>nS (by rw[z];exact m))).trans e
end
section
variable {prog:fg}{w:ga}{A:fv}{E:bn->bp->Prop}{s:bp}
theorem Dl{l:Addr}{z:Array bn}{Q:bn->bp->Prop}(hh:A.handled=none)(hl:s.heap.IsList l z)(ab:0<z.size)(bt:Nat->Nat->Bool)
  (cm:∀i j x y (s':bp) (Q:bn->bp->Prop) (E:bn->bp->Prop),(∀b o,s.heap.get? b=some o->s'.heap.get? b=some o)->z[i]?=some x->z[j]?=some y->Q (.bool (bt i j)) s'->cj (model prog w) A.in1 (richCompare .Lt x y) Q E s')
  (fin:∀v h' tk,z[nz bt (z.size-1)]?=some v->(∀b o,s.heap.get? b=some o->h'.get? b=some o)->Q v { s with heap:=h',toks:=tk }):cj (model prog w) A (call (.builtin "min") [.ref l]) Q E s:=by
 have nm:(toString "min" ++ toString ".loop":String) = "min.loop":=by decide
 have lt:l<s.heap.objs.size:=by obtain⟨o,e,_⟩:=hl;exact fm e
 refine call_function_tree F.kind_min F.plain_min F.entry_min (F.args_min1 _) ?_;show cj _ A.in1 (Builtin.Builtins.bindParams "min" ["key","default"] 0 ⟨[],[]⟩ >>= _) _ _ s;refine bj (wpAny_of_eq (show Builtin.Builtins.bindParams "min" ["key","default"] 0 ⟨[],[]⟩=pure [none,none]from rfl) (bj (bq (bj (qd hl ?_)))));refine bj (fw ?_);rw[nm];have z1:(s.heap.push { cls:=.type "list_iterator",data:=.fields #[.ref l,.int 0 0] }).objs.size=s.heap.objs.size+1:=size_push ..;have nS:(s.heap.push { cls:=.type "list_iterator",data:=.fields #[.ref l,.int 0 0] }).objs.size∉[s.heap.objs.size,l]:=by
  rw[z1];simp only[iq,gg,or_false,not_or];exact⟨Nat.succ_ne_self _,ne_of_gt (lt_succ_of_lt lt)⟩
 have up:∀b o,s.heap.get? b=some o->((s.heap.push { cls:=.type "list_iterator",data:=.fields #[.ref l,.int 0 0] }).push { cls:=.type "list",data:=.seq #[] }).get? b=some o:=fun b o e=>bu _ (bu _ e);have aa:∀b o,s.heap.get? b=some o->b∉(s.heap.push { cls:=.type "list_iterator",data:=.fields #[.ref l,.int 0 0] }).objs.size :: [s.heap.objs.size]:=fun b o e=>by
  rw[z1];simp only[iq,gg,or_false,not_or];have:=fm e;exact⟨gh (lt_succ_of_lt this),gh this⟩
 refine bq ⟨lh lv _,HJ (Walks.list (A:=A.in1) hh _ l (gh lt) z) bt _ nS ab (fun i j x y s' Q' E' k hi hj q=>cm i j x y s' Q' E' (fun b o e=>k b o (aa b o e) (up b o e)) hi hj q) ?_ (df _ rfl) fun v h' tk hv k=>fin v h' tk hv fun b o e=>k b o (aa b o e) (up b o e)⟩;exact⟨⟨_,bu _ (df _ rfl),rfl,rfl⟩,(hl.push _).push _⟩
end
def xW(K:cy):List V->Hp->VK->Prop:=fun xs H Q=>∃(p:Addr) (vs:List V) (nss:List (List Int)),xs=[.ref p]/\SqL K H p vs/\vs≠[]/\Paired (fun(v:V) (ns:List Int)=>∃a,v=.ref a/\H a=some (.tup (ns.map V.int))) vs nss /\
 ∀(i:Nat) v ns,vs[i]?=some v->nss[i]?=some ns->(∀ms∈nss,HT.lexLt ms ns=false)->Q v H
theorem yI{ns:Nat->List Int}(tr:∀a b c:List Int,HT.lexLt a b=false->HT.lexLt b c=false->HT.lexLt a c=false)(as:∀a b:List Int,HT.lexLt a b=true->HT.lexLt b a=false):∀k,nz (fun i j=>HT.lexLt (ns i) (ns j)) k<=k/\∀j,j<=k->HT.lexLt (ns j) (ns (nz (fun i j=>HT.lexLt (ns i) (ns j)) k))=false
 | 0=>⟨cx _,fun j hj=>by
   have:j=0:=yw
   subst this;show HT.lexLt (ns 0) (ns 0)=false;cases h:HT.lexLt (ns 0) (ns 0)with
   |false=>rfl
   |true=>have:=as _ _ h;rw[h]at this;cases this⟩
 |k+1=>by
  obtain⟨h1,h2⟩:=yI tr as (ns:=ns) k;simp only[nz];by_cases hb:HT.lexLt (ns (k+1)) (ns (nz (fun i j=>HT.lexLt (ns i) (ns j)) k))=true
  ·rw[ci hb];refine⟨cx _,fun j hj=>?_⟩;by_cases e:j=k+1
   ·subst e;cases h:HT.lexLt (ns (k+1)) (ns (k+1))with
    |false=>rfl
    |true=>have:=as _ _ h;rw[h]at this;cases this
   ·exact tr _ _ _ (h2 j yw) (as _ _ hb)
  ·rw[cg hb];refine⟨yw,fun j hj=>?_⟩;by_cases e:j=k+1
   ·subst e;exact Bool.eq_false_iff.mpr hb
   ·exact h2 j yw
theorem vE:∀a b:List Int,HT.lexLt a b=true->HT.lexLt b a=false
 | [],[],h=>by cases h
 | [],y::ys,_=>rfl
 |x::xs,[],h=>by cases h
 |x::xs,y::ys,h=>by
  rw[HT.lexLt_cons]at h ⊢;by_cases e:x=y
  ·subst e;rw[ci rfl]at h ⊢;exact vE xs ys h
  ·rw[cg e]at h;rw[cg (lr e)];simp only[decide_eq_true_eq]at h;simp only[decide_eq_false_iff_not];omega
theorem vL:∀a b c:List Int,HT.lexLt a b=false->HT.lexLt b c=false->HT.lexLt a c=false
 |_,_,[],_,_=>by rename_i a b _ _;cases a<;>rfl
 | [],[],z::zs,_,h=>by cases h
 | [],y::ys,z::zs,h,_=>by cases h
 |x::xs,[],z::zs,_,h=>by cases h
 |x::xs,y::ys,z::zs,h,k=>by
  rw[HT.lexLt_cons]at h k ⊢;by_cases e:x=y
  ·subst e;rw[ci rfl]at h;by_cases e2:x=z
   ·subst e2;rw[ci rfl]at k ⊢;exact vL xs ys zs h k
   ·rw[cg e2]at k ⊢;exact k
  ·rw[cg e]at h;by_cases e2:y=z
   ·subst e2;rw[cg e];exact h
   ·rw[cg e2]at k;simp only[decide_eq_false_iff_not]at h k;rw[cg yw];simp only[decide_eq_false_iff_not];omega
theorem Gj{X:Cx}(hc:X.calm=true)(hu:X.A.units+64<re):CallR X (.builtin "min") (xW X.K):=by
 intro zf s σ H xs us Q I r h;obtain⟨p,vs,z,rfl,hq,af,pr,q⟩:=h;obtain⟨u,rfl,rx⟩:=vals1 r;cases (show u=ie p from rx);obtain⟨aa,rv,pl,_⟩:=I.list hq;have hl:=rv.length;have aj:=Paired.length pr;have ae:0<aa.toArray.size:=by
  rw[cz,<- hl];exact List.length_pos_iff.mpr af
 have ab:∀(i:Nat) x,aa.toArray[i]?=some x->∃(v:V) (ns:List Int),vs[i]?=some v/\z[i]?=some ns/\RelV v x/\∃a,v=.ref a/\H a=some (.tup (ns.map V.int)):=fun i x hx=>by
  have hi:i<aa.length:=by
   have:=(Array.getElem?_eq_some_iff.mp hx).1;simpa using this
  have e1:vs[i]?=some vs[i]:=cv yw;have e2:z[i]?=some z[i]:=cv yw;obtain⟨x',ac,rr⟩:=rv.get e1;have:x=x':=by
   have h2:aa[i]?=some x:=by simpa using hx
   rw[ac]at h2;exact(gk h2).symm
  subst this;have pg:∀{a:List V}{b:List (List Int)}{i:Nat}{v:V}{ns:List Int},Paired (fun(v:V) (ns:List Int)=>∃a,v=.ref a/\H a=some (.tup (ns.map V.int))) a b->a[i]?=some v->b[i]?=some ns->∃a,v=.ref a/\H a=some (.tup (ns.map V.int)):=by
   intro a b i v ns pq;induction pq generalizing i with
   |nil=>intro h;simp at h
   |cons r0 _ ih=>
    cases i with
    |zero=>
     intro h1 h2;rw[ph]at h1 h2;cases h1;cases h2;exact r0
    |succ i=>
     intro h1 h2;rw[pi]at h1 h2;exact ih h1 h2
  exact⟨_,_,e1,e2,rr,pg pr e1 e2⟩
 refine Dl (I.ok.hd hc) pl.isList ae (fun i j=>HT.lexLt (z.getD i []) (z.getD j [])) (fun i j x y s' Q' E' k hx hy q'=>?_) fun v h' tk hv k=>?_
 ·obtain⟨v1,n1,_,f1,r1,a1,rfl,e1⟩:=ab i x hx;obtain⟨v2,n2,_,f2,r2,a2,rfl,e2⟩:=ab j y hy;cases r1;cases r2;obtain⟨_,ag,w1,t1⟩:=(show ObjOk X.prog X.w H s.heap a1 (.tup (n1.map V.int))from I.hok a1 _ e1);obtain⟨_,ai,w2,t2⟩:=(show ObjOk X.prog X.w H s.heap a2 (.tup (n2.map V.int))from I.hok a2 _ e2);have g1:z.getD i []=n1:=by rw[fj,f1];rfl
  have g2:z.getD j []=n2:=by rw[fj,f2];rfl
  rw[g1,g2]at q';obtain⟨o1,b1,c1⟩:=t1;obtain⟨o2,b2,c2⟩:=t2;exact HT.lt_tupInts ⟨o1,k _ _ b1,c1⟩ ⟨o2,k _ _ b2,c2⟩ (iB w1) (iB w2) (by show X.A.units+1<re;omega) q'
 ·obtain⟨v1,n1,e1,f1,r1,_⟩:=ab _ v hv;obtain⟨_,h2⟩:=yI (ns:=fun i=>z.getD i []) vL vE (aa.toArray.size-1);refine⟨v1,H,I.kept (t':=tk) k,r1,q _ v1 n1 e1 f1 fun ms hm=>?_⟩;obtain⟨j,hj⟩:=mem_iff_getElem?.mp hm;have ah:=(List.getElem?_eq_some_iff.mp hj).1;have:=h2 j (by rw[cz];omega);rw[show z.getD j []=ms by rw[fj,hj];rfl]at this;rw[show z.getD (nz (fun i j=>HT.lexLt (z.getD i []) (z.getD j [])) (aa.toArray.size-1)) []=n1 by rw[fj,f1];rfl]at this;exact this
def AG(K:cy):List V->Hp->VK->Prop:=fun xs H Q=>rO K xs H Q\/xW K xs H Q
theorem Gz{X:Cx}(hc:X.calm=true)(hu:X.A.units+64<re):CallR X (.builtin "min") (AG X.K):=(FT hc).or (Gj hc hu)
def jS(ns:List Int):bo:=.tuple (ns.map dj)
def rT:List XV->Sto->RX->Prop:=fun xs S R=>v3 xs S R\/arg1 xs fun x=>∃ds,dS S x=some ds/\∃nss:List (List Int),ds=nss.map jS/\nss≠[]/\∀m,m∈nss->(∀a,a∈nss->HT.lexLt a m=false)->R (.d (jS m)) S
theorem Iq{K:cy}:RC (AG K) rT:=fun h o H S xs vs R Q hs hx q c=>by
 rcases q with q|q
 ·exact .inl (Eu h o H S xs vs R Q hs hx q c)
 ·obtain⟨x,rfl,ds,hd,aa,rfl,hn,q1⟩:=cA q;obtain⟨v,rfl,ab⟩:=hxs1 hx;obtain⟨a,ws,rfl,ea,l⟩:=bN hs hd ab;have hl:=l.length;refine .inr ⟨a,ws,aa,rfl,.of ea,fun z=>hn ?_,?_,fun i v ns e1 e2 hm=>?_⟩
  ·subst z;rw[ff]at hl;exact gj hl.symm
  ·have go:∀{aa:List (List Int)}{ws:List V},HasL (vx h o H) (aa.map jS) ws->Paired (fun(v:V) (ns:List Int)=>∃a,v=.ref a/\H a=some (.tup (ns.map V.int))) ws aa:=by
    intro aa;induction aa with
    |nil=>intro ws l;rw[zv.mp l];exact .nil
    |cons n aa ih=>
     intro ws l;obtain⟨v,r,rfl,h1,l2⟩:=zp.mp l;obtain⟨b,us,rfl,eb,lb⟩:=dJ.mp h1;rw[kK lb]at eb;exact .cons ⟨b,rfl,bR _ _ eb⟩ (ih l2)
   exact go l
  ·obtain⟨v',ev,hv⟩:=l.get (show (aa.map jS)[i]?=some (jS ns) by rw[gu,e2];rfl);rw[e1]at ev;cases ev;exact c o H S (.d (jS ns)) v Ex.refl hs hv (q1 ns (bv e2) hm)
theorem xQ:RE (t0 BZ) (dC (.dict [])):=fun h o H δ σ S R Q he hs q c p hp=>⟨p,[],rfl,cU,fun ob=>by
 have e:upd (upd H p (.dK [])) p (.frz ob (.dK []))=upd H p (.frz ob (.dK [])):=tM;rw[e];refine c o _ S (.d (.dict [])) _ (Ex.of_same (Same.laid hp)) (hs.same (Same.laid hp)) ?_ q;show Has _ _ _;simp only[Has];exact⟨p,[],rfl,.inl ⟨ob,[],hs.laid hp,rfl,rfl⟩,AE.mpr rfl⟩⟩
section
variable {S:Sto}{P:Sto->List bo->Prop}{a b c d:List bo}{x:List bo}
theorem f9{S0:Sto}:(∃T ds,S0++[x]=T++[ds]/\P T ds)↔P S0 x:=by
 constructor
 ·rintro⟨T,ds,e,q⟩;obtain⟨rfl,e2⟩:=List.append_inj' e rfl;cases e2;exact q
 ·exact fun q=>⟨S0,x,rfl,q⟩
theorem lD:(∃T ds,[a]=T++[ds]/\P T ds)↔P [] a:=f9 (S0:=[])
theorem jZ:(∃T ds,[a,b]=T++[ds]/\P T ds)↔P [a] b:=f9 (S0:=[a])
theorem oO:(∃T ds,[a,b,c]=T++[ds]/\P T ds)↔P [a,b] c:=f9 (S0:=[a,b])
end
section
variable {n k:Nat}{ds:List bo}{d:bo}{v:V}
theorem n9:frz n ds (some (.d d))=some (.d d):=rfl
theorem lN:frz n ds (some (.l k))=if k=n then some (.d (.list ds))else some (.l k):=rfl
end
section
variable {α:Type}{n:Nat}{g:DG}{tt:DT}{te:DE}{fin:Sto->Prop}{S0:Sto}{caps:XE}
theorem AR{h:α->bo}{f:α->bo}(P:XE->Prop)(hn:S0.length=n)(l:List α)(τ:XE)(hP:P τ)(hl:l.length<=1000)
  (el:∀x∈l,∀ τ acc (R:XE->RX),P τ->(∀ τ',P τ'->R τ' (.d (f x)) (S0++[acc]))->g (.d (h x)) τ (S0++[acc]) fun τ1 S1=>te τ1 S1 (R τ1)) (hf:fin (S0++[l.map f])):aY n g aM te fin (l.map h) τ (S0++[[]]):=by
 have go:∀(l:List α) (acc:List bo) (τ:XE),P τ->acc.length+l.length<=1000->(∀x∈l,∀ τ acc (R:XE->RX),P τ->(∀ τ',P τ'->R τ' (.d (f x)) (S0++[acc]))->g (.d (h x)) τ (S0++[acc]) fun τ1 S1=>te τ1 S1 (R τ1)) ->
   fin (S0++[acc++l.map f])->aY n g aM te fin (l.map h) τ (S0++[acc]):=by
  intro l;induction l with
  |nil=>intro acc τ _ _ _ h;rw[map_nil,km]at h;exact h
  |cons x l ih=>
   intro acc τ hP hl el hh;show g (.d (h x)) τ (S0++[acc]) fun τ1 S1=>aM τ1 S1 fun b S2=>if b=true then te τ1 S2 fun x S3=>asD x fun e=>∃acc,S3[n]?=some acc/\acc.length<1000/\aY n g aM te fin (l.map h) τ1 (S3.set n (acc++[e]))else aY n g aM te fin (l.map h) τ1 S2
   simp only[aM,↓reduceIte];rw[fu]at hl;refine el x fi τ acc (fun τ1 x S3=>asD x fun e=>∃acc,S3[n]?=some acc/\acc.length<1000/\aY n g aM te fin (l.map h) τ1 (S3.set n (acc++[e]))) hP fun τ' q=>?_;refine⟨acc,by rw[<- hn,ck],yw,?_⟩;rw[sX hn];refine ih (acc++[f x]) τ' q (by rw[cu,fk];omega) (fun e m=>el e (fb _ m)) ?_;rw[kc];exact hh
 exact go l [] τ hP (by simpa using hl) el (by simpa using hf)
theorem cmp1{h:α->bo}(f:α->bo)(hn:S0.length=n)(l:List α){u:Option XV}(hl:l.length<=1000)
  (el:∀x∈l,∀(u:Option XV) acc (R:XE->RX),(∀u',R (u'::caps) (.d (f x)) (S0++[acc]))->g (.d (h x)) (u::caps) (S0++[acc]) fun τ1 S1=>te τ1 S1 (R τ1)) (hf:fin (S0++[l.map f])):aY n g aM te fin (l.map h) (u::caps) (S0++[[]]):=
 AR (fun τ=>∃u,τ=u::caps) hn l _ ⟨u,rfl⟩ hl (fun x m τ acc R ⟨u,e⟩ k=>by subst e;exact el x m u acc R fun u'=>k _ ⟨u',rfl⟩) hf
theorem cmp2{h:α->bo}(f:α->bo)(hn:S0.length=n)(l:List α){u v:Option XV}(hl:l.length<=1000)
  (el:∀x∈l,∀(u v:Option XV) acc (R:XE->RX),(∀u' v',R (u'::v'::caps) (.d (f x)) (S0++[acc]))->g (.d (h x)) (u::v::caps) (S0++[acc]) fun τ1 S1=>te τ1 S1 (R τ1)) (hf:fin (S0++[l.map f])):aY n g aM te fin (l.map h) (u::v::caps) (S0++[[]]):=
 AR (fun τ=>∃u v,τ=u::v::caps) hn l _ ⟨u,v,rfl⟩ hl (fun x m τ acc R ⟨u,v,e⟩ k=>by subst e;exact el x m u v acc R fun u' v'=>k _ ⟨u',v',rfl⟩) hf
theorem JA{h:α->bo}{f:α->bo}{p:α->Bool}(P:XE->Prop)(hn:S0.length=n)(l:List α)(τ:XE)(hP:P τ)(hl:l.length<=1000)
  (el:∀x∈l,∀ τ acc (R:XE->Bool->Sto->Prop),P τ->(∀ τ',P τ'->(p x=true->∀T:RX,T (.d (f x)) (S0++[acc])->te τ' (S0++[acc]) T)->R τ' (p x) (S0++[acc]))->g (.d (h x)) τ (S0++[acc]) fun τ1 S1=>tt τ1 S1 (R τ1))
  (hf:fin (S0++[(l.filter p).map f])):aY n g tt te fin (l.map h) τ (S0++[[]]):=by
 have go:∀(l:List α) (acc:List bo) (τ:XE),P τ->acc.length+l.length<=1000->(∀x∈l,∀ τ acc (R:XE->Bool->Sto->Prop),P τ->(∀ τ',P τ'->(p x=true->∀T:RX,T (.d (f x)) (S0++[acc])->te τ' (S0++[acc]) T)->R τ' (p x) (S0++[acc]))->g (.d (h x)) τ (S0++[acc]) fun τ1 S1=>tt τ1 S1 (R τ1)) ->
   fin (S0++[acc++(l.filter p).map f])->aY n g tt te fin (l.map h) τ (S0++[acc]):=by
  intro l;induction l with
  |nil=>intro acc τ _ _ _ h;rw[List.filter_nil,map_nil,km]at h;exact h
  |cons x l ih=>
   intro acc τ hP hl el hh;show g (.d (h x)) τ (S0++[acc]) fun τ1 S1=>tt τ1 S1 fun b S2=>if b=true then te τ1 S2 fun x S3=>asD x fun e=>∃acc,S3[n]?=some acc/\acc.length<1000/\aY n g tt te fin (l.map h) τ1 (S3.set n (acc++[e]))else aY n g tt te fin (l.map h) τ1 S2
   rw[fu]at hl;refine el x fi τ acc (fun τ1 b S2=>if b=true then te τ1 S2 fun x S3=>asD x fun e=>∃acc,S3[n]?=some acc/\acc.length<1000/\aY n g tt te fin (l.map h) τ1 (S3.set n (acc++[e]))else aY n g tt te fin (l.map h) τ1 S2) hP fun τ' q ev=>?_;cases hp:p x with
   |false=>
    rw[List.filter_cons_of_neg (by rw[hp];exact ja)]at hh;exact gQ (ih acc τ' q yw (fun e m=>el e (fb _ m)) hh)
   |true=>
    rw[List.filter_cons_of_pos hp,jc]at hh;refine gG (ev hp _ ⟨acc,by rw[<- hn,ck],yw,?_⟩);rw[sX hn];exact ih (acc++[f x]) τ' q (by rw[cu,fk];omega) (fun e m=>el e (fb _ m)) (by rw[kc];exact hh)
 exact go l [] τ hP (by simpa using hl) el (by simpa using hf)
theorem cmf1{h:α->bo}(f:α->bo)(p:α->Bool)(hn:S0.length=n)(l:List α){u:Option XV}(hl:l.length<=1000)
  (el:∀x∈l,∀(u:Option XV) acc (R:XE->Bool->Sto->Prop),(∀u',(p x=true->∀T:RX,T (.d (f x)) (S0++[acc])->te (u'::caps) (S0++[acc]) T)->R (u'::caps) (p x) (S0++[acc]))->g (.d (h x)) (u::caps) (S0++[acc]) fun τ1 S1=>tt τ1 S1 (R τ1)) (hf:fin (S0++[(l.filter p).map f])):aY n g tt te fin (l.map h) (u::caps) (S0++[[]]):=
 JA (fun τ=>∃u,τ=u::caps) hn l _ ⟨u,rfl⟩ hl (fun x m τ acc R ⟨u,e⟩ k=>by subst e;exact el x m u acc R fun u' hh=>k _ ⟨u',rfl⟩ hh) hf
end
end
section
section
variable {X:Cx}{e ek:Expr}{te tk:TE}{pos p2:Pos}
theorem Vals.rev{xs:List V}{us:List bn}(r:Vals xs us):Vals xs.reverse us.reverse:=by
 induction r with
 |nil=>exact .nil
 |cons h _ ih=>
  rw[reverse_cons,reverse_cons];exact ih.append (.cons h .nil)
end
end
section
@[irreducible] def QSs (X:Cx) (st:List Stmt) (t:TS):Prop:=PSs X st t
theorem QSs.out{X:Cx}{st:List Stmt}{t:TS}(h:QSs X st t):PSs X st t:=by unfold QSs at h;exact h
theorem QSs.mk{X:Cx}{st:List Stmt}{t:TS}(h:PSs X st t):QSs X st t:=by unfold QSs;exact h
@[irreducible] def QA (X:Cx) (es:List Expr) (t:TA):Prop:=PA X es t
theorem QA.out{X:Cx}{es:List Expr}{t:TA}(h:QA X es t):PA X es t:=by unfold QA at h;exact h
theorem QA.mk{X:Cx}{es:List Expr}{t:TA}(h:PA X es t):QA X es t:=by unfold QA;exact h
theorem fS{X:Cx}:QA X [] jQ:=QA.mk zc
theorem bM{X:Cx}{e:Expr}{es:List Expr}{te:TE}{t:TA}(ha:PE X e te)(hr:QA X es t)(hs:fq (e::es) X.env=(false,eval e X.env)::fq es X.env:=by rfl):QA X (e::es) (eL te t):=QA.mk (za ha hr.out hs)
theorem sW{X:Cx}{es:List Expr}{t:TA}{pos:Pos}(h:QA X es t):PE X (.List es pos) (gA t):=zP h.out
@[irreducible] def QS (X:Cx) (st:Stmt) (t:TS):Prop:=PS X st t
theorem QS.out{X:Cx}{st:Stmt}{t:TS}(h:QS X st t):PS X st t:=by unfold QS at h;exact h
theorem QS.mk{X:Cx}{st:Stmt}{t:TS}(h:PS X st t):QS X st t:=by unfold QS;exact h
theorem EG{X:Cx}{st:Stmt}{rest:List Stmt}{t u:TS}(h1:QS X st t)(h2:QSs X rest u):QSs X (st::rest) (cJ t u):=QSs.mk (ze h1.out h2.out)
theorem HN{X:Cx}{i:Nat}{x:Str}{es:List Expr}{t:TA}{pos pos' pos'':Pos}(hN:X.N.Nodup)(hi:X.N[i]?=some x)(hx:Loc X.env.scope x)(he:QA X es t)(hs:swapsWith (.List es pos'') (some (.Name x pos')) pos.line X.env=pure false:=by rfl)(hf:X.fn x=true\/X.env.scope.names.lookup x=some .local:=by first|exact .inl rfl|exact .inr rfl|assumption):
  QS X (.Assign [.Name x pos'] (.List es pos'') pos) (m9 (gA t) (g0 i)):=QS.mk (zu hN hi hx (zP he.out) hs hf)
end
section
section
variable {prog:fg}{w:ga}{A:fv}{E:bn->bp->Prop}{s:bp}
abbrev iN (acc:Array bn) (c:Nat):Obj:={ cls:=.type "list",dict:=none,data:=.seq acc c,slots:=#[] }
abbrev pL (lo hi:Int):Obj:={ cls:=.type "longrange_iterator",data:=.fields #[qc lo,qc (kh lo hi 1),qc 1] }
abbrev IntsFrom (lo:Int) (acc:Array bn) (n:Nat):Prop:=ItemsOf (fun i v=>∃t,v=.int (lo+(i:Nat)*1) t) acc n
theorem IB{R:Result->bp->Prop}{lo:Int}{n L I:Nat}{res:bn}{c0 ae:Nat}{h0:Heap}(hh:A.handled=none)(hn:n<=1000)(ne:L≠I)
  (hI:IsLongIter h0 I (lo+((0:Nat):Int)*1) ((n:Int)-((0:Nat):Int)) 1) (hL:h0.get? L=some (iN #[] c0))
  (hR:∀h' tk acc c,(∀b o,b≠L->b≠I->h0.get? b=some o->h'.get? b=some o)->h'.get? L=some (iN acc c)->IntsFrom lo acc n->R (.ok (.ret res)) { s with heap:=h',toks:=tk }):
  pb (model prog w) A (.builtin "list.extend.loop" ⟨[.ref L,.ref I,res],[]⟩) R { s with heap:=h0,toks:=ae }:=by
 have ab:=(Walks.longrange (prog:=prog) (w:=w) (A:=A.in1) hh I lo 1 n).toS;have aa:n<=dw:=by rw[jj];omega
 have out:L∉[I]:=by simpa using ne
 refine codeAny_extend_loopS ab aa L out res n 0 _ #[] c0 rfl (ji _) hI hL (ItemsOf.nil _) ?_;intro s' acc c q ac z;rw[Moved.eq_with q];refine hR s'.heap s'.toks acc c (fun b o b1 b2 e=>q.heap b o ?_ e) ac z;simp only[iq,gg,or_false,not_or];exact⟨b1,b2⟩
theorem HW{R:Result->bp->Prop}{r L:Addr}{lo hi:Int}{t u v:Tok}{n:Nat}(hh:A.handled=none)(hr:IsRange s.heap r lo hi 1 t u v)(aj:Builtin.Range.small lo hi 1=false)(hn:kh lo hi 1=(n:Int))(hl:n<=1000)
  {c0:Nat} (hL:s.heap.get? L=some (iN #[] c0))
  (hR:∀h' tk acc c,(∀b o,b≠L->s.heap.get? b=some o->h'.get? b=some o)->h'.get? L=some (iN acc c)->IntsFrom lo acc n->R (.ok (.ret .none)) { s with heap:=h',toks:=tk }):
  cj (model prog w) A.in1 (jf (.ref L) (.ref r) .none)
   (fun f z=>match f with
    | .done g=>R (.ok g) z
    | .again c=>c.quiet=true/\pb (model prog w) A c R z) (fun e z=>R (.error e) z) s:=by
 have ac:L≠r:=fun e=>by
  rw[e,hr]at hL;simp at hL
 have ai:L<s.heap.objs.size:=fm hL;have ne:L≠s.heap.objs.size:=gh ai;have ah:Builtin.List.listSameRef (.ref L) (.ref r)=false:=by simp[Builtin.List.listSameRef,ac]
 have k1:(nt "range" == nt "list")=false:=by decide
 have k2:(nt "range" == nt "tuple")=false:=by decide
 unfold jf;refine bj (pc (T:="range") ⟨_,hr,rfl⟩ ?_);simp only[ah,k1,k2,Bool.or_false,dh,if_false];refine bj (wpAny_pyIter_longrange hr aj ?_);have af:IsLongIter (s.heap.push (pL lo hi)) s.heap.objs.size (lo+((0:Nat):Int)*1) ((n:Int)-((0:Nat):Int)) 1:=by
  show IsLongIter _ _ _ _ _;rw[<- hn];simpa using df _ rfl
 have ab:=bu (pL lo hi) hL;refine bj (ix (wpAny_hint_range (n:=n) (bu _ hr) hn yw ?_));have go:∀{h0:Heap}{c0 ae:Nat},IsLongIter h0 s.heap.objs.size (lo+((0:Nat):Int)*1) ((n:Int)-((0:Nat):Int)) 1->h0.get? L=some (iN #[] c0)->(∀b o,b≠L->s.heap.get? b=some o->h0.get? b=some o) ->
   pb (model prog w) A (.builtin "list.extend.loop" ⟨[.ref L,.ref s.heap.objs.size,.none],[]⟩) R { s with heap:=h0,toks:=ae }:=fun {h0 c0 ae} a1 a2 a3=>
  IB hh hl ne a1 a2 fun h' tk acc c q1 q2 q3=>hR h' tk acc c (fun b o nb e=>q1 b o nb (gh (fm e)) (a3 b o nb e)) q2 q3
 have q:=lh oh;refine wpAny_ite_split (fun _=>?_) fun _=>bq ⟨q _,go af ab fun b o _ e=>bu _ e⟩;refine bj (kn (bj ?_));show cj _ _ (updateSeq L (·.push .none) >>= fun _=>updateSeq L (·.pop)) _ _ _;refine bj (ni ab rfl ?_);have ag:=kx (gm (·.push qw)) ab rfl;refine ni (hz:=by seq_fits) ag rfl ?_;have ak:=kx (gm (·.pop)) ag rfl;have aa:∀b o,b≠L->(s.heap.push (pL lo hi)).get? b=some o->(((s.heap.push (pL lo hi)).update L (gm (·.push qw))).update L (gm (·.pop))).get? b=some o:=fun b o nb e=>
  (gw _ _ (lr nb)).trans ((gw _ _ (lr nb)).trans e)
 exact bq ⟨q _,go (aa _ _ (lr ne) af) ak fun b o nb e=>aa b o nb (bu _ e)⟩
theorem JO{R:Result->bp->Prop}{r L:Addr}{lo hi:Int}{t u v:Tok}{n:Nat}(hh:A.handled=none)(hr:IsRange s.heap r lo hi 1 t u v)(ac:Builtin.Range.small lo hi 1=false)(hn:kh lo hi 1=(n:Int))(hl:n<=1000)
  (hL:s.heap.get? L=some { cls:=.type "list",data:=.seq #[] })
  (hR:∀h' tk acc c,(∀b o,b≠L->s.heap.get? b=some o->h'.get? b=some o)->h'.get? L=some (iN acc c)->IntsFrom lo acc n->R (.ok (.ret .none)) { s with heap:=h',toks:=tk }):
  cj (model prog w) A.in1 (ls.«list.__init__» ⟨[.ref L,.ref r],[]⟩)
   (fun f z=>match f with
    | .done g=>R (.ok g) z
    | .again c=>c.quiet=true/\pb (model prog w) A c R z) (fun e z=>R (.error e) z) s:=by
 have aa:L≠r:=fun e=>by
  rw[e,hr]at hL;simp at hL
 show cj _ _ (do
  let was <- Builtin.List.listItems (.ref L)
  Builtin.List.listUpdate (.ref L) (fun _=>#[])
  letGo was.toList.reverse
  jf (.ref L) (.ref r) .none) _ _ s
 unfold Builtin.List.listItems;refine bj (bj (wpAny_seqItems hL rfl (bq ?_)));show cj _ _ (updateSeq L (fun _=>#[]) >>= fun _=>letGo _ >>= fun _=>jf (.ref L) (.ref r) .none) _ _ s;refine bj (ni hL rfl ?_);have ab:=kx (gm (fun _=>(#[]:Array bn))) hL rfl;have q:∀b o,b≠L->s.heap.get? b=some o->(s.heap.update L (gm (fun _=>(#[]:Array bn)))).get? b=some o:=fun b o nb e=>(gw _ _ (lr nb)).trans e;refine bj (wpAny_letGo ?_);refine HW hh (q r _ (lr aa) hr) ac hn hl ab fun h' tk acc c q1 q2 q3=>?_;exact hR h' tk acc c (fun b o nb e=>q1 b o nb (q b o nb e)) q2 q3
theorem JI{Q:bn->bp->Prop}{r:Addr}{lo hi:Int}{t u v:Tok}{n:Nat}(hh:A.handled=none)(hr:IsRange s.heap r lo hi 1 t u v)(hn:kh lo hi 1=(n:Int))(hl:n<=1000)
  (hQ:∀h' tk acc c,(∀b o,s.heap.get? b=some o->h'.get? b=some o)->h'.get? s.heap.objs.size=some (iN acc c)->IntsFrom lo acc n->Q (.ref s.heap.objs.size) { s with heap:=h',toks:=tk }):
  cj (model prog w) A (call (.type "list") [.ref r]) Q E s:=by
 cases sm:Builtin.Range.small lo hi 1 with
 |true=>exact call_list_range hh hr sm hn yw hQ
 |false=>
  refine callType_codes (Q₁:=fun ob z=>ob=.ref s.heap.objs.size/\z = { s with heap:=s.heap.push { cls:=.type "list",data:=.seq #[] } }) F.called_list (F.typeCall_list_1 _) F.entry_list_init (code_list_new _ ⟨rfl,rfl⟩) ?_;rintro ob z ⟨rfl,rfl⟩;have hL:(s.heap.push { cls:=.type "list",data:=.seq #[] }).get? s.heap.objs.size=some { cls:=.type "list",data:=.seq #[] }:=df _ rfl;refine⟨⟨_,hL,rfl⟩,F.args_list_init_2 _ _,?_⟩;refine JO (A:=A.in1) hh (bu _ hr) sm hn hl hL fun h' tk acc c q1 q2 q3=>⟨rfl,hQ h' tk acc c (fun b o e=>?_) q2 q3⟩;exact q1 b o (gh (fm e)) (bu _ e)
end
def xM(ta:TA):TE:=fun σ H Q=>ta σ H fun vs H1=>∃i j:Int,vs=[.int i,.int j]/\(j-i).toNat<=1000/\∀l,H1 l=none->Q (.ref l) (upd H1 l (.lst ((gc (j-i).toNat).map fun k:Nat=>V.int (i+k))))
theorem AC:∀(xs:List V) (us:List bn),xs.length=us.length->(∀(k:Nat) (x:V) (u:bn),xs[k]?=some x->us[k]?=some u->RelV x u)->Vals xs us
 | [],[],_,_=>.nil
 |x::xs,u::us,hl,h=>.cons (h 0 x u rfl rfl) (AC xs us (by simpa using hl) fun k y v e1 e2=>h (k+1) y v e1 e2)
 | [],_::_,hl,_=>by simp at hl
 |_::_,[],hl,_=>by simp at hl
theorem FC{lo:Int}:∀{n:Nat}{acc:Array bn},IntsFrom lo acc n->Vals ((gc n).map fun k:Nat=>V.int (lo+k)) acc.toList:=by
 intro n acc h;obtain⟨hz,hv⟩:=h;refine AC _ _ (by simp[hz]) fun k x u ex eu=>?_;rw[gu]at ex;have hk:k<n:=by
  have:=(List.getElem?_eq_some_iff.mp eu).1;simpa[hz]using this
 rw[List.getElem?_range hk]at ex;cases ex;obtain⟨tk,rfl⟩:=hv k u (by simpa using eu);exact⟨tk,by rw[Int.mul_one]⟩
theorem Ct{X:Cx}{a b:Expr}{ta:TA}{p p' pos pos':Pos}(hc:X.calm=true)(aa:Gl X "list")(z:X.mg "list" = none)(hg:Gl X "range")(hm:X.mg "range" = none)(ha:PA X [a,b] ta)
  (hs:fq [a,b] X.env=[(false,eval a X.env),(false,eval b X.env)]:=by rfl) (hs2:fq [b] X.env=[(false,eval b X.env)]:=by rfl)
  (hs3:fq [.Call (.Name "range" p) [a,b] [] pos] X.env=[(false,eval (.Call (.Name "range" p) [a,b] [] pos) X.env)]:=by rfl):
  PE X (.Call (.Name "list" p') [.Call (.Name "range" p) [a,b] [] pos] [] pos') (xM ta):=by
 intro zf s σ H Q I h;refine ly (fL I aa z rD ?_ dz dz);refine jd ?_ (by rw[hs3];rfl) rfl;rw[hs3];show cj _ _ (spliced ((false,eval (.Call (.Name "range" p) [a,b] [] pos) X.env) :: [])) _ _ s;refine Calls.spliced_cons (Call_ (fL I hg hm boot_range (jd (thn (ha pos zf s σ H _ I h) fun us s1 ⟨vs,H1,I1,r1,q1⟩=>?_) (by rw[hs,hs2]) (by rw[hs2];rfl))));obtain⟨i,j,e,hl,q⟩:=q1;subst e;cases r1 with
 |cons r rr=>
  cases rr with
  |cons r' rr=>
   cases rr;obtain⟨t,rfl⟩:=r;obtain⟨t',rfl⟩:=r';refine call_range_2 (Calls.spliced_nil ?_);have I2:=I1.kept (h':=s1.heap.push { cls:=.type "range",data:=.fields #[.int i t,.int j t',.int 1 s1.toks] }) (t':=s1.toks+1) fun b o e=>bu _ e;have en:kh i j 1=(((j-i).toNat:Nat):Int):=by rw[rangeSize_one];split<;>omega
   refine JI (I2.ok.hd hc) (IsRange.new ..) en hl fun h' tk acc c kp e it=>?_;have hv:=FC it;refine⟨.ref _,_,I2.laid (t':=tk) kp (cx _) (show ObjOk X.prog X.w _ h' _ (.lst _)from⟨?_,acc.toList,c,hv,?_⟩),rfl,q _ (I2.hok.fresh (cx _))⟩
   ·rw[ff,length_range,jj];omega
   ·simpa using e
def iP(a:DA):DE:=fun δ S R=>a δ S fun xs S1=>arg2 xs fun x y=>asI x fun i=>asI y fun j=>(j-i).toNat<=1000/\R (.d (.list (eW i (j-i).toNat))) S1
theorem IG{ta:TA}{da:DA}(ha:RA ta da):RE (xM ta) (iP da):=fun h o H δ σ S R Q he hs q c=>
 ha h o H δ σ S _ _ he hs q fun o1 H1 S1 xs vs e1 s1 x1 d0=>by
  obtain⟨x,y,rfl,d2⟩:=rH d0;obtain⟨i,rfl,d3⟩:=bA d2;obtain⟨j,rfl,hl,d4⟩:=bA d3;obtain⟨v,u,rfl,hv,hu⟩:=hxs2 x1;rw[aZ hv,aZ hu];have l:=v9 (H:=vx h o1 H1) ((gc (j-i).toNat).map fun k:Nat=>i+k);rw[pj,pj]at l;exact⟨i,j,rfl,hl,gY s1 l (c.pre e1) d4⟩
end
end L2
namespace HT
open PySem PyProof.Rows
section
variable {prog:fg}{w:ga}{A:fv}{E:bn->bp->Prop}{s:bp}
theorem tup_whole{t sl:Addr}{q:Array bn}{vl vu:bn}{lo hi:Option Int}{Q:bn->bp->Prop}(ht:IsTup s.heap t q)(hs:s.heap.IsSliceOf sl vl vu .none)(pl:IsPart vl lo)(pu:IsPart vu hi)
  (hw:sIx q.size 0 lo=0/\sIx q.size q.size hi=q.size) (h:Q (.ref t) s):cj (model prog w) A (qq (.ref t) (.ref sl)) Q E s:=by
 obtain⟨os,ab,z,ac⟩:=id hs;have aa:s.TypeIs (.ref sl) "slice":=⟨os,ab,z⟩;unfold qq
 try with_reducible refine ix ?_
 first|refine bj (bq ?_)|skip
 refine bj (wpAny_sequenceKey ht.typeIs dz ?_);refine bj (jg (name:=qh "__getitem__") ht.typeIs im
  (jq im ht.typeIs entry_tuple_getitem ?_ (args_tuple_getitem _ _)))
 show cj _ _ (Builtin.Tuple.tupleItemsOf (.ref t) >>= _) _ _ s;refine bj (tupleItemsOf_ ht (bj (pc aa ?_)));rw[ci dz];refine bj (vW hs pl pu ?_);rw[hw.1,hw.2];show cj _ _ (if (((0:Nat):Int)==0&&(1:Int)==1&&(q.size-0)==q.size)=true then _ else _) _ _ s;rw[ci yv];unfold Builtin.Tuple.tupleIsExact;refine bj (bj (pc ht.typeIs (bq ?_)));rw[ci dz];exact bj (kn (bq ⟨_,rfl,bq h⟩))
theorem HC(xs:Array bn):((gc xs.size).filterMap fun(k:Nat)=>xs[((xs.size:Int)-1+(k:Int)*(-1)).toNat]?).toArray=xs.toList.reverse.toArray:=by
 congr 1;have e:∀(l:List Nat),(∀k∈l,k<xs.size)->l.filterMap (fun(k:Nat)=>xs[((xs.size:Int)-1+(k:Int)*(-1)).toNat]?)=l.map fun k=>xs.toList.getD (xs.size-1-k) .none:=by
  intro l;induction l with
  |nil=>intro _;rfl
  |cons k l ih=>
   intro h;have hk:=h k fi;have e1:((xs.size:Int)-1+(k:Int)*(-1)).toNat=xs.size-1-k:=yw
   have e2:xs[xs.size-1-k]?=some (xs.toList.getD (xs.size-1-k) .none):=by
    rw[fj,jn,ft yw];rfl
   rw[filterMap_cons,e1,e2,jc,ih fun y m=>h y (fb _ m)]
 rw[e _ fun k m=>mem_range.mp m];refine List.ext_getElem yv fun i h1 h2=>?_;simp only[List.getElem_map,List.getElem_range,List.getElem_reverse,fe];rw[fj,cv (by simp at h1 ⊢;omega)];rfl
theorem tup_rev{t sl:Addr}{q:Array bn}{tk:Tok}{Q:bn->bp->Prop}(ht:IsTup s.heap t q)(hs:s.heap.IsSliceOf sl .none .none (.int (-1) tk))(ac:q.size<=dw)
  (h:Q (.ref s.heap.objs.size) { s with heap:=s.heap.push { cls:=.type "tuple",data:=.seq q.toList.reverse.toArray } }):cj (model prog w) A (qq (.ref t) (.ref sl)) Q E s:=by
 have fits:sizeOk (.seq q.toList.reverse.toArray):=by
  show q.toList.reverse.toArray.size<=dw;rw[cz,List.length_reverse,fe];exact ac
 obtain⟨os,z,ab,aa⟩:=id hs;have ae:s.TypeIs (.ref sl) "slice":=⟨os,z,ab⟩;unfold qq
 try with_reducible refine ix ?_
 first|refine bj (bq ?_)|skip
 refine bj (wpAny_sequenceKey ht.typeIs dz ?_);refine bj (jg (name:=qh "__getitem__") ht.typeIs im
  (jq im ht.typeIs entry_tuple_getitem ?_ (args_tuple_getitem _ _)))
 show cj _ _ (Builtin.Tuple.tupleItemsOf (.ref t) >>= _) _ _ s;refine bj (tupleItemsOf_ ht (bj (pc ae ?_)));rw[ci dz];unfold Builtin.Slice.sliceApplied Builtin.Slice.sliceFields;refine bj (bj (bj (wpAny_field z aa (x:=.none) rfl (bj (wpAny_field z aa (x:=.none) rfl (bj (wpAny_field z aa (x:=.int (-1) tk) rfl (bq ?_))))))));refine bj (slicePart_int ?_);show cj _ _ (if ((-1:Int)==0)=true then _ else _) _ _ s;rw[cg dz];refine bj (slicePart_none (bj (slicePart_none (bj (bq ?_)))));have e1:kt none none (-1) (q.size:Int)=((q.size:Int)-1,-1):=rfl;have e2:gp ((q.size:Int)-1) (-1) (-1)=q.size:=by
  unfold gp;rw[cg dz];split
  ·rw[show (-(-1):Int)=1 by decide,Int.ediv_one];omega
  ·have:q.size=0:=yw
   rw[this];rfl
 show cj _ _ (match kt none none (-1) (q.size:Int)with|(lo,hi)=>pure (lo,(-1:Int),gp lo hi (-1))) _ _ s;rw[e1];show cj _ _ (pure ((q.size:Int)-1,(-1:Int),gp ((q.size:Int)-1) (-1) (-1))) _ _ s;rw[e2];refine bq ?_;show cj _ _ (if (((q.size:Int)-1==0&&(-1:Int)==1&&q.size==q.size)=true)then _ else _) _ _ s;rw[cg yv,HC]
 first
  |exact bj (m:=gz _) (fw (bq ⟨_,rfl,bq h⟩) fits)
  |exact bj (m:=gz _) (fw (bj (bq (bq ⟨_,rfl,bq h⟩))) fits)
  |exact bj (bj (m:=gz _) (fw (bq (bq ⟨_,rfl,bq h⟩)) fits))
  |exact bj (bj (m:=gz _) (fw (bq ⟨_,rfl,bq h⟩) fits))
end
end HT
namespace L2
open PySem PySem.Spec PyProof.Rows
section
section
variable {X:Cx}{e ek:Expr}{te tk:TE}{pos p2:Pos}
def xG(K:cy)(te tk:TE):TE:=fun σ H Q=>te σ H fun x H1=>tk σ H1 fun y H2=>y=.int (-1)/\∃a xs,x=.ref a/\SqT K H2 a xs/\∀p,H2 p=none->Q (.ref p) (upd H2 p (.tup xs.reverse))
theorem DK(he:PE X e te)(hk:PE X ek tk):PE X (.Subscript e (.Slice none none (some ek) p2) pos) (xG X.K te tk):=by
 intro zf s σ H Q I h;refine Subscript_ (thn (he zf s σ H _ I h) fun v s1 ⟨x,H1,I1,r1,q1⟩=>?_);refine wpAny_Slice ?_;rw[evalPart_none];refine bq (bq ?_);rw[evalPart_some];refine thn (hk zf s1 σ H1 _ I1 q1) fun vk s3 ⟨y,H3,I3,ry,q3⟩=>?_;obtain⟨rfl,a,xs,rfl,hx,q⟩:=q3;obtain⟨t,rfl⟩:=ry;cases r1;have I4:Inv X zf σ H3 { s3 with heap:=s3.heap.push { cls:=.type "slice",data:=.fields #[.none,.none,.int (-1) t] } }:=I3.kept (t':=s3.toks) fun b ob q=>bu _ q;obtain⟨aa,r,ht,hz⟩:=I4.tuple hx;have z:=r.length;show cj (model X.prog X.w) X.A (subscriptTail e (.Slice none none (some ek) p2) (.ref a) (.ref s3.heap.objs.size)) (EP X zf σ Q) X.xe { s3 with heap:=s3.heap.push { cls:=.type "slice",data:=.fields #[.none,.none,.int (-1) t] } };refine tail_any (ops:=[.ref a,.ref s3.heap.objs.size]) ht.typeIs PyProof.Rows.slot_tuple_getitem.lookup ?_ (by with_unfolding_all rfl);refine HT.tup_rev ht (Heap.IsSliceOf.new ..) (by rw[cz];omega) ?_;refine⟨.ref _,_,I4.laid (t':=s3.toks) (o:=.tup xs.reverse) (fun b ob q=>bu _ q) (cx _) ?_,rfl,q _ (I4.hok.fresh (cx _))⟩;exact⟨⟨by rw[List.length_reverse];exact hz,_,df _ rfl,rfl⟩,_,r.rev,IsTup.new _ _⟩
def AK(K:cy):V->Option Int->Option Int->Hp->VK->Prop:=fun x lo hi H Q=>∃a xs,x=.ref a/\SqT K H a xs /\
 ((HT.sIx xs.length 0 lo=0/\HT.sIx xs.length xs.length hi=xs.length)->Q (.ref a) H)/\∀p,H p=none->Q (.ref p) (upd H p (.tup (cK xs lo hi)))
theorem oU:SlR X (AK X.K):=by
 intro zf s σ H x v vl vu lo hi sl Q I rx hs pl pu h;obtain⟨a,xs,rfl,hx,hw,q⟩:=h;by_cases z:HT.sIx xs.length 0 lo=0/\HT.sIx xs.length xs.length hi=xs.length
 ·cases rx;obtain⟨ab,r,ht,hz⟩:=I.tuple hx;have aa:ab.toArray.size=xs.length:=by rw[cz];exact r.length.symm
  refine⟨"tuple",_,PyProof.Rows.slot_tuple_getitem.lookup,ht.typeIs,?_⟩;exact HT.tup_whole ht hs pl pu (by rw[aa];exact z) ⟨.ref a,H,I,rfl,hw z⟩
 ·exact B7 zf s σ H _ v vl vu lo hi sl Q I rx hs pl pu ⟨a,xs,rfl,hx,z,q⟩
end
def eG:D3:=fun x i j S R=>asT x fun ds=>R (.d (.tuple (aQ ds i j))) S
theorem FE{α:Type}(xs:List α)(lo hi:Option Int)(h:HT.sIx xs.length 0 lo=0/\HT.sIx xs.length xs.length hi=xs.length):aQ xs lo hi=xs:=by
 unfold aQ;rw[h.1,h.2];simp
theorem EB{K:cy}:RL (AK K) eG:=fun h o H S x v a b R Q hs hx q c=>by
 replace q:=fW q;obtain⟨ds,rfl,q⟩:=q;obtain⟨p,vs,rfl,ea,l⟩:=dH hx;refine⟨p,vs,rfl,.of ea,fun z=>?_,iG hs (l.cut a b) c q⟩;rw[l.length]at z;rw[FE ds a b z]at q;exact c o H S _ _ Ex.refl hs hx q
def iL(e k:DE):DE:=fun δ S R=>e δ S fun x S1=>k δ S1 fun y S2=>y=.d (.int (-1))/\asT x fun ds=>R (.d (.tuple ds.reverse)) S2
theorem Er{K:cy}{te tk:TE}{de dk:DE}(z:RE te de)(aa:RE tk dk):RE (xG K te tk) (iL de dk):=fun h o H δ σ S R Q he hs q c=>
 z h o H δ σ S _ _ he hs q fun o1 H1 S1 x v e1 s1 x1 d1=>aa h o1 H1 δ σ S1 _ _ (he.mono e1) s1 d1 fun o2 H2 S2 y u e2 s2 y2 d2=>by
  obtain⟨rfl,d2⟩:=d2;obtain⟨ds,rfl,d3⟩:=fW d2;obtain⟨p,vs,rfl,ea,l⟩:=dH (x1.mono e2);exact⟨aZ y2,p,vs,rfl,.of ea,iG s2 l.rev (Cn.pre c (e1.trans e2)) d3⟩
end
section
theorem Df.none{P:fg}{w:ga}{K:cy}{mg:Str->Option bn}{base:Heap}{x:Str}{st:Stmt}{ps:List Str}{k:Nat}(D:Dd K mg x st ps):Df P w K mg base x ps k (spN ps fun _ _ _=>False):=by
 obtain⟨f,fd,F,hm,hb⟩:=D.ex;have no:∀{vs H Q E},spN ps (fun _ _ _=>False) vs H Q E->False:=fun {vs H Q E} h=>by
  obtain⟨_,h,o,S,xs,R,_,_,q,_⟩:=h;exact q
 exact⟨f,fd,⟨fun _ _ _ _ h=>(no h).elim,fun _ _ _ _ _ _ _ _ _ _ _ _ _ h=>(no h).elim⟩,hm,F.kp,hb⟩
theorem CC{r:Addr}{lo hi x:Int}{t u v tx:Tok}:Meets (ls.«range.__contains__» ⟨[.ref r,.int x tx],[]⟩) (fun _ R s=>IsRange s.heap r lo hi 1 t u v/\R (.ok (.ret (.bool (decide (lo<=x/\x<hi))))) s):=by
 rintro prog w A R s ⟨hr,q⟩;have e:(Builtin.Range.rangePlace? lo hi 1 x).isSome=decide (lo<=x/\x<hi):=by
  unfold Builtin.Range.rangePlace?;by_cases h:lo<=x/\x<hi
  ·simp[h]
  ·simp[h]
 rw[<- e]at q;obtain⟨hp,g,d,tk,os⟩:=s
 wp_walk using AutoSeq1.wpAny_loadPart' hr
 exact q
def rB(k:Bool):CmpOp:=if k=true then .NotIn else .In
theorem DP{prog:fg}{w:ga}{A:fv}{E:bn->bp->Prop}{s:bp}{r:Addr}{lo hi x:Int}{t u v tx:Tok}{Q:bn->bp->Prop}{k:Bool}(hr:IsRange s.heap r lo hi 1 t u v)
  (h:Q (.bool (if k=true then !decide (lo<=x/\x<hi)else decide (lo<=x/\x<hi))) s):cj (model prog w) A (io (rB k) (.int x tx) (.ref r)) Q E s:=by
 cases k with
 |false=>exact SeqRoads2.in_meets ⟨_,hr,rfl⟩ F.slot_range_contains F.entry_range_contains (F.args_range_contains_2 _ _) (CC (t:=t) (u:=u) (v:=v)) ⟨hr,_,rfl,h⟩
 |true=>exact SeqRoads2.notIn_meets ⟨_,hr,rfl⟩ F.slot_range_contains F.entry_range_contains (F.args_range_contains_2 _ _) (CC (t:=t) (u:=u) (v:=v)) ⟨hr,_,rfl,h⟩
def Av(vs:List V)(a b:Int):Prop:=(vs=[.int b]/\a=0)\/vs=[.int a,.int b]
def tJ(k:Bool)(ta:TE)(tb:TA):TE:=fun σ H Q=>ta σ H fun x H1=>tb σ H1 fun ys H2=>∃i a b:Int,x=.int i/\Av ys a b/\Q (.bl (if k=true then !decide (a<=i/\i<b)else decide (a<=i/\i<b))) H2
section
variable {X:Cx}{l e e':Expr}{es:List Expr}{ta:TE}{tb:TA}{p pos pos':Pos}{k:Bool}
theorem FM{zf:List (Addr×Obj)}{s:bp}{σ:St}{H:Hp}{Q:bn->bp->Prop}{vs:List V}{us:List bn}{a b:Int}(I:Inv X zf σ H s)(r:Vals vs us)(h:Av vs a b)
  (q:∀(r:Addr) (t u v:Tok) (s':bp),IsRange s'.heap r a b 1 t u v->Inv X zf σ H s'->Q (.ref r) s'):cj (model X.prog X.w) X.A (call (.type "range") us) Q X.xe s:=by
 rcases h with ⟨rfl,rfl⟩|rfl
 ·cases r with
  |cons r rr=>
   cases rr;obtain⟨t,rfl⟩:=r;exact call_range_1 (q _ _ _ _ _ (IsRange.new ..) (I.kept fun b o e=>bu _ e))
 ·cases r with
  |cons r rr=>
   cases rr with
   |cons r' rr=>
    cases rr;obtain⟨t,rfl⟩:=r;obtain⟨t',rfl⟩:=r';exact call_range_2 (q _ _ _ _ _ (IsRange.new ..) (I.kept fun b o e=>bu _ e))
theorem GA{zf:List (Addr×Obj)}{s:bp}{σ:St}{H:Hp}{Q:VK}(hg:Gl X "range")(hm:X.mg "range" = none)(ha:PE X l ta)(hb:PA X [e] tb)(hs:fq [e] X.env=[(false,eval e X.env)])(I:Inv X zf σ H s)(h:tJ k ta tb σ H Q):
  cj (model X.prog X.w) X.A (eval l X.env) (fun a s1=>cj (model X.prog X.w) X.A (eval (.Call (.Name "range" p) [e] [] pos) X.env) (fun b s2=>cj (model X.prog X.w) X.A (io (rB k) a b) (EP X zf σ Q) X.xe s2) X.xe s1) X.xe s:=by
 refine thn (ha zf s σ H _ I h) fun a s1 ⟨x,H1,I1,r1,q1⟩=>?_;refine Call_ (fL I1 hg hm boot_range (jd (thn (hb pos zf s1 σ H1 _ I1 q1) fun us s2 ⟨vs,H2,I2,r2,q2⟩=>?_) hs rfl));obtain⟨i,n,m,rfl,hv,q⟩:=q2;obtain⟨tx,rfl⟩:=r1;exact FM I2 r2 hv fun r t u v s' ir I3=>DP ir ⟨.bl _,H2,I3,rfl,q⟩
theorem Ia(k:Bool){op:CmpOp}(hg:Gl X "range")(hm:X.mg "range" = none)(ha:PE X l ta)(hb:PA X [e] tb)(ho:op=rB k:=by rfl)(hs:fq [e] X.env=[(false,eval e X.env)]:=by rfl)(hk:behindInMarks op (.Call (.Name "range" p) [e] [] pos)=false:=by rfl):
  PT X (.Compare l [op] [.Call (.Name "range" p) [e] [] pos] pos') (nK (tJ k ta tb)):=by
 subst ho;intro zf s σ H Q I h;refine wpAny_isTrue_Compare1 (thn (GA (Q:=fun x H'=>∃k,x=.bl k/\Q k H') hg hm ha hb hs I h) fun a s1 q1=>thn q1 fun b s2 q2=>thn q2 fun c s3 ⟨z,H3,I3,r3,k,e,q3⟩=>?_) hk;subst e;cases r3;exact iu ⟨H3,I3,q3⟩
end
def iT(k:Bool)(a:DE)(b:DA):DE:=fun δ S R=>a δ S fun x S1=>b δ S1 fun ys S2=>asI x fun i=>arg1 ys fun y=>asI y fun n=>R (.d (.bool (if k=true then !decide (0<=i/\i<n)else decide (0<=i/\i<n)))) S2
theorem Fr{k:Bool}{ta:TE}{da:DE}{tb:TA}{db:DA}(ha:RE ta da)(hb:RA tb db):RE (tJ k ta tb) (iT k da db):=fun h o H δ σ S R Q he hs q c=>
 ha h o H δ σ S _ _ he hs q fun o1 H1 S1 x v e1 s1 x1 d1=>hb h o1 H1 δ σ S1 _ _ (he.mono e1) s1 d1 fun o2 H2 S2 ys us e2 s2 y2 d2=>by
  obtain⟨i,rfl,d3⟩:=bA d2;obtain⟨y,rfl,d4⟩:=cA d3;obtain⟨n,rfl,d5⟩:=bA d4;obtain⟨u,rfl,hu⟩:=hxs1 y2;refine⟨i,0,n,aZ (x1.mono e2),.inl ⟨by rw[aZ hu],rfl⟩,c o2 H2 S2 _ _ (e1.trans e2) s2 (xB _) d5⟩
end
section
@[irreducible] def QE (X:Cx) (e:Expr) (t:TE):Prop:=PE X e t
theorem QE.out{X:Cx}{e:Expr}{t:TE}(h:QE X e t):PE X e t:=by unfold QE at h;exact h
theorem QE.mk{X:Cx}{e:Expr}{t:TE}(h:PE X e t):QE X e t:=by unfold QE;exact h
theorem rF{X:Cx}{es:List Expr}{t:TA}{k:Nat}{pos:Pos}(h:QA X es t):QE X (.Tuple es k pos) (u8 t):=QE.mk (zL h.out)
theorem Ie{X:Cx}{es:List Expr}{t:TA}{pos:Pos}(h:QA X es t):QE X (.List es pos) (gA t):=QE.mk (zP h.out)
section
variable {X:Cx}{es l l':List Expr}{te:TE}{t:TA}{k:Nat}{p:Pos}{c:Const}{x:Str}{ks:List (Option Expr)}
theorem uT(ha:QE X (.Tuple l k p) te)(hr:QA X es t):QA X (.Tuple l k p::es) (eL te t):=QA.mk (za ha.out hr.out rfl)
theorem Gf(ha:QE X (.List l p) te)(hr:QA X es t):QA X (.List l p::es) (eL te t):=QA.mk (za ha.out hr.out rfl)
theorem oH(ha:QE X (.Constant c k p) te)(hr:QA X es t):QA X (.Constant c k p::es) (eL te t):=QA.mk (za ha.out hr.out rfl)
theorem Gg(ha:QE X (.Dict [] [] p) te)(hr:QA X es t):QA X (.Dict [] [] p::es) (eL te t):=QA.mk (za ha.out hr.out rfl)
end
theorem IJ{X:Cx}{st:Stmt}{rest:List Stmt}{t u:TS}(h1:PS X st t)(h2:QSs X rest u):PSs X (st::rest) (cJ t u):=ze h1 h2.out
end
end L2
namespace L2
open PySem PySem.Spec PySem.Calls PyProof.Rows PySem.W
section
variable {prog:fg}{w:ga}{A:fv}{E:bn->bp->Prop}{s:bp}
def KeptBut(a:Addr)(h h':Heap):Prop:=∀b o,b≠a->h.get? b=some o->h'.get? b=some o
end
end L2
namespace L2
open PySem PySem.Spec PyProof.Rows
section
def kZ:D2:=fun x y S R=>asT x fun ds=>asT y fun es=>∃ns,ds=ns.map dj/\∃ms,es=ms.map dj/\R (.d (.bool (HT.lexLt ns ms))) S
end
section
open Sem (wp)
abbrev IsT (h:Heap) (T:Addr) (xs:Array bn):Prop:=h.get? T=some { cls:=.type "tuple",data:=.seq xs }
end
section
structure Bel(xs:Array Nat)(j r:Nat):Prop where
 le:r<=xs.size
 lo:∀i x,i<r->xs[i]?=some x->x<j
 hi:∀i x,r<=i->xs[i]?=some x->j<=x
abbrev Rise (xs:Array Nat):Prop:=xs.toList.Pairwise (· < ·)
theorem Rise.at{xs:Array Nat}(h:Rise xs){i k x y:Nat}(ik:i<k)(ei:xs[i]?=some x)(ek:xs[k]?=some y):x<y:=by
 rw[<- jn]at ei ek;obtain⟨hi,rfl⟩:=List.getElem?_eq_some_iff.mp ei;obtain⟨hk,rfl⟩:=List.getElem?_eq_some_iff.mp ek;exact List.pairwise_iff_getElem.mp h i k hi hk ik
theorem uE{xs:Array Nat}{j:Nat}(h:Rise xs):∀(fuel lo hi:Nat),lo<=hi->hi<=xs.size->hi-lo<=fuel->(∀i x,i<lo->xs[i]?=some x->x<j)->(∀i x,hi<=i->xs[i]?=some x->j<=x)->Bel xs j (SetTable.below.go xs j fuel lo hi)
 | 0,lo,hi,l1,l2,l3,a,b=>by
  unfold SetTable.below.go;have:hi=lo:=yw
  subst this;exact⟨l2,a,b⟩
 |fuel+1,lo,hi,l1,l2,l3,a,b=>by
  unfold SetTable.below.go;by_cases h1:lo<hi
  ·rw[ci h1];have hm:(lo+hi)/2<xs.size:=yw
   have em:xs[(lo+hi)/2]?=some xs[(lo+hi)/2]:=ft hm;have eg:xs.getD ((lo+hi)/2) j=xs[(lo+hi)/2]:=by simp[Array.getD,hm]
   dsimp only;rw[eg];by_cases h2:xs[(lo+hi)/2]<j
   ·rw[ci h2];refine uE h fuel _ _ yw l2 yw (fun i x q e=>?_) b;by_cases h3:i=(lo+hi)/2
    ·subst h3;rw[em]at e;cases e;exact h2
    ·exact lt_trans (h.at yw e em) h2
   ·rw[cg h2];refine uE h fuel _ _ yw yw yw a fun i x q e=>?_;by_cases h3:i=(lo+hi)/2
    ·subst h3;rw[em]at e;cases e;omega
    ·have:=h.at (show (lo+hi)/2<i by omega) em e;omega
  ·rw[cg h1];have:hi=lo:=yw
   subst this;exact⟨l2,a,b⟩
theorem bel{xs:Array Nat}{j:Nat}(h:Rise xs):Bel xs j (lz xs j):=by
 unfold lz;refine uE h _ _ _ (ji _) (cx _) yw (fun i x z=>absurd z (Nat.not_lt_zero _)) fun i x z e=>?_;have:=(Array.getElem?_eq_some_iff.mp e).1;omega
theorem x6{xs:Array Nat}{j r q:Nat}(a:Bel xs j r)(b:Bel xs j q):r=q:=by
 rcases Nat.lt_trichotomy r q with h|h|h
 ·have hs:r<xs.size:=by have:=b.le;omega
  have e:=ft hs;have:=a.hi r _ (cx _) e;have:=b.lo r _ h e;omega
 ·exact h
 ·have hs:q<xs.size:=by have:=a.le;omega
  have e:=ft hs;have:=b.hi q _ (cx _) e;have:=a.lo q _ h e;omega
theorem JH{xs:Array Nat}{j:Nat}(h:Rise xs)(hn:xs[lz xs j]? ≠ some j):Rise (SetTable.insertAt xs (lz xs j) j):=by
 have b:=bel (j:=j) h;generalize lz xs j=r at b hn;unfold Rise;rw[SetTable.toList_insertAt];have h1:∀x∈xs.toList.take r,x<j:=fun x m=>by
  obtain⟨i,hi⟩:=mem_iff_getElem?.mp m;have il:i<r:=by
   have:=(List.getElem?_eq_some_iff.mp hi).1;rw[jw]at this;omega
  rw[qk,ci il,jn]at hi;exact b.lo i x il hi
 have h2:∀x∈xs.toList.drop r,j<x:=fun x m=>by
  obtain⟨i,hi⟩:=mem_iff_getElem?.mp m;rw[qm,jn]at hi;have le:=b.hi (r+i) x yw hi;rcases Nat.eq_or_lt_of_le le with e|l
  ·exfalso;subst e;cases i with
   |zero=>exact hn hi
   |succ i=>
    have hs:r<xs.size:=by have:=(Array.getElem?_eq_some_iff.mp hi).1;omega
    have e:=ft hs;have:=b.hi r _ (cx _) e;have:=h.at (show r<r+(i+1) by omega) e hi;omega
  ·exact l
 refine pairwise_append.mpr ⟨List.Pairwise.sublist (List.take_sublist _ _) h,pairwise_cons.mpr ⟨h2,List.Pairwise.sublist (List.drop_sublist _ _) h⟩,fun x mx y my=>?_⟩;rcases mem_cons.mp my with rfl|my
 ·exact h1 x mx
 ·exact lt_trans (h1 x mx) (h2 y my)
theorem Ef{t:ju}(hd:t.dummies = #[])(j:Nat):t.slot j≠.dummy:=by
 unfold SetTable.slot;dsimp only;split
 ·simp
 ·rw[hd];simp[SetTable.has]
theorem EJ{t:ju}{j:Nat}(h:t.slot j=.empty):t.place[lz t.place j]? ≠ some j:=by
 unfold SetTable.slot at h;dsimp only at h;intro e;rw[e]at h;simp at h
theorem BT{t:ju}{f:Nat->Int}{h:Int}(hd:t.dummies = #[]):∀(fuel:Nat) (p:SetTable.Probe) (j:Nat) (d:Option Nat),SetTable.probe.go t f h fuel p=some (.empty j d)->t.slot j=.empty/\d=p.dummy
 | 0,p,j,d,e=>by simp[SetTable.probe.go]at e
 |fuel+1,p,j,d,e=>by
  unfold SetTable.probe.go at e;split at e
  ·rename_i hs;cases e;exact⟨hs,rfl⟩
  ·rename_i hs;exact absurd hs (Ef hd _)
  ·split at e
   ·cases e
   ·have:=BT hd fuel _ j d e;refine⟨this.1,this.2.trans ?_⟩;unfold SetTable.advance;split<;>rfl
structure Tab(led:Bool)(t:ju)(n:Nat):Prop where
 fits:t.fits n=true
 rise:Rise t.place
 dum:t.dummies = #[]
 led:t.led=led
theorem Ik(n:Nat):Rise (Array.range n):=by
 unfold Rise;rw[Array.toList_range];exact List.pairwise_lt_range
theorem pE{led:Bool}{t:ju}(n:Nat)(h:t.led=led):Tab led (t.standIn n) n:=
 ⟨SetTable.standIn_fits t n,Ik n,rfl,h⟩
theorem G8(led:Bool):Tab led (SetTable.fresh 0 0 led) 0:=⟨rfl,List.Pairwise.nil,rfl,rfl⟩
theorem Iz{led:Bool}{t:ju}{es:Array (Int×bn)}(h:Tab led t es.size)(hs:Int)(x:bn):Tab led (layNew t es hs x).2.1 (layNew t es hs x).1.size:=by
 unfold layNew;split
 ·rename_i slot wd hf;unfold SetTable.freeSlot at hf;split at hf
  ·rename_i j d hp;cases hf;obtain⟨e1,e2⟩:=BT h.dum _ _ _ _ hp;have e3:d=none:=e2;subst e3;dsimp only[Option.getD];have hr:=JH h.rise (EJ e1);unfold SetTable.orStandIn;split
   ·rename_i q;refine⟨q,hr,?_,h.led⟩;show (if SetTable.has t.dummies j=true then _ else t.dummies) = #[];rw[h.dum];rfl
   ·exact pE _ h.led
  ·cases hf
 ·have:=pE (led:=led) (t:=t) (es.size+1) h.led;simpa using this
theorem HE{led:Bool}{t:ju}{es:Array (Int×bn)}(h:t.led=led)(q:Nat):Tab led (relayAll t es q).2.1 (relayAll t es q).1.size:=by
 have hf:=relayAll_fits t es q;unfold relayAll at hf ⊢;split
 ·rename_i t' z hl;rw[hl]at hf;dsimp only at hf ⊢;split
  ·rename_i hc;rw[ci hc]at hf;unfold SetTable.relaid SetTable.laid at hl;simp only[Option.bind_eq_bind,Option.bind_eq_some_iff,Option.pure_def,Option.some.injEq,Prod.mk.injEq]at hl;obtain⟨owner,_,rfl,_⟩:=hl;refine⟨hf,?_,rfl,h⟩;unfold Rise;dsimp only;rw[List.pairwise_map,List.pairwise_filterMap];refine List.Pairwise.imp (fun {a b} ab x ex y ey=>?_) List.pairwise_lt_range;obtain⟨_,_,rfl⟩:=map_eq_some_iff.mp ex;obtain⟨_,_,rfl⟩:=map_eq_some_iff.mp ey;exact ab
  ·exact pE _ h
 ·exact pE _ h
end
section
section
variable {prog:fg}{w:ga}{A:fv}{E:bn->bp->Prop}{s:bp}{led:Bool}
theorem rC{n:Nat}(h:n<100):n<scanBound:=by
 have:scanBound=4096:=rfl;omega
end
end
section
namespace F4
theorem plain_update_loop:plainId "set.update.loop" = true:=by decide +kernel
theorem entry_update_loop:entryFor table "set.update.loop" = some ls.«set.update.loop»:=entryFor_of_fast (by kernel_rfl)
theorem typeCall_set_1(a:bn):checkTypeCall "set" ⟨[a],[]⟩=pure ():=by kernel_rfl
theorem newCall_set_1(a:bn):checkBuiltinCall "set.__new__" ⟨[.type "set",a],[]⟩=pure ():=by kernel_rfl
theorem sub_list_set:isSubtype (.type "list") (.type "set")=pure false:=by rw[isSubtype_type];kernel_rfl
theorem sub_list_frz:isSubtype (.type "list") (.type "frozenset")=pure false:=by rw[isSubtype_type];kernel_rfl
end F4
section
variable {prog:fg}{w:ga}{A:fv}{E:bn->bp->Prop}{s:bp}
theorem qP{Q:Bool->bp->Prop}(h:Q (w.params.followText "set-order") s):cj (model prog w) A setsByText Q E s:=fun _ _ _=>h
theorem IX{a:bn}{Q:bn->bp->Prop}(h:Q (.ref s.heap.objs.size) { s with heap:=s.heap.push { cls:=.type "set",dict:=none,data:=.set #[] 0 (.fresh 0 0 (!w.params.followText "set-order")) } }):
  pb (model prog w) A (.call (.builtin "set.__new__") ⟨[.type "set",a],[]⟩) (wants Q E) s:=by
 refine codeAny_of_tree ?_;show cj _ A.in1 (do checkBuiltinCall "set.__new__" ⟨[.type "set",a],[]⟩;again (.builtin "set.__new__" ⟨[.type "set",a],[]⟩)) _ _ s;refine bj (wpAny_of_eq (F4.newCall_set_1 a) (bq ⟨lh F.plain_set_new _,jp F.entry_set_new ?_⟩));rw[gy F.plain_set_new _];unfold ls.«set.__new__» Builtin.Frozenset.newClass;have q:=sub_set_self;obtain⟨h0,gs,dr,tk,os⟩:=s;dsimp only
 wp_walk
 refine wpAny_askSetting (M:=model prog w) (bq ?_);dsimp only;simp only[newObj];exact bj (wpAny_alloc (bq (bq h)))
theorem Ew{M:Model}{self a:bn}{Q:Unit->bp->Prop}(hT:s.TypeIs self "set")(hQ:Q () s):cj M A (checkBuiltinCall "set.__init__" ⟨[self,a],[]⟩) Q E s:=by
 simp only[checkBuiltinCall,kind_set_init,split_set_init,sig_set_init];refine bj (lx hT sub_set_self ?_);simp only[Bool.not_true,dh,if_false];unfold Bind.checkArgs;dsimp only;refine bj (m:=Bind.printed "set" true _ _) (PyProof.Rows.printed_name dz ?_);refine bj (m:=Bind.printed "*" false _ _) (PyProof.Rows.printed_star (sig:=_) (self:=self) rfl hT fun q=>?_);have z:(Manifest.Receiver.self==Manifest.Receiver.none)=false:=by decide
 have h1:(if (Manifest.Receiver.self==Manifest.Receiver.none)=true then [self,a].length else [self,a].length-1)=1:=by simp[z]
 rw[h1];simp only[map_nil];have hc:Bind.check ⟨.positional,"set","*",.self,[⟨"iterable",.posOnly,false⟩]⟩ "set" q 1 []=pure ():=by
  have aa:(Manifest.ParamKind.posOnly==Manifest.ParamKind.posOnly)=true:=by decide
  simp[Bind.check,Bind.checkCount,Bind.isPositional,aa]
 rw[hc];exact bq hQ
end
end
section
namespace F4
theorem slot_si_next:Slot "set_iterator" "__next__" "set_iterator.__next__":=.of (owner:="set_iterator") (n:="__next__") (by rw[typeLookup_type,builtinLookup_eq_fast];kernel_rfl) (by decide +kernel) (by decide +kernel) (by decide +kernel) (by first|exact .inl (by decide +kernel)|exact .inr (by decide +kernel)) (by rw[isSubtype_type];kernel_rfl)
theorem entry_si_next:entryFor table "set_iterator.__next__" = some ls.«set_iterator.__next__»:=entryFor_of_tree (by kernel_rfl)
theorem entry_set_iter:entryFor table "set.__iter__" = some ls.«frozenset.__iter__»:=entryFor_alias (id':="frozenset.__iter__") (by kernel_rfl) rfl (by decide +kernel) (by kernel_rfl)
theorem EW:Manifest.owners.lookup (String.ofList ['r','o','t','a','r','e','t','i','_','t','e','s'].reverse)=some Manifest.sig_set_iterator:=by kernel_rfl
theorem args_si_next(a:bn):argsOk "set_iterator.__next__" ⟨[a],[]⟩:=by unfold argsOk;rw[signature?_of (id:="set_iterator.__next__") (n:=['_','_','t','x','e','n','_','_']) (o:=['r','o','t','a','r','e','t','i','_','t','e','s']) (by kernel_rfl) EW];kernel_rfl
end F4
theorem uF{α:Type}:∀(l:List α) (i:Nat) (h:i<l.length),(l[i]::l.eraseIdx i).Perm l
 | [],i,h=>by simp at h
 |a::l,0,h=>oo _
 |a::l,i+1,h=>by
  show (l[i]'(by simpa using h)::a::l.eraseIdx i).Perm (a::l);exact(List.Perm.swap _ _ _).trans (List.Perm.cons _ (uF l i (by simpa using h)))
theorem wM{α:Type}{next:Nat->Nat}:∀(fuel k:Nat) (left:List α) (out:Array α),left.length=fuel->(pickOrder.go next fuel k left out).toList.Perm (out.toList++left)
 | 0,k,left,out,h=>by
  have:left=[]:=List.length_eq_zero_iff.mp h;subst this;unfold pickOrder.go;simp
 |fuel+1,k,left,out,h=>by
  unfold pickOrder.go;have hl:next k % left.length<left.length:=Nat.mod_lt _ yw;rw[cv hl];dsimp only;refine(wM fuel (k+1) _ _ (by rw[List.length_eraseIdx,ci hl];omega)).trans ?_;rw[toList_push,kc];refine List.Perm.append_left _ ?_;exact uF _ _ hl
theorem Eh{α:Type}(next:Nat->Nat)(xs:Array α):(pickOrder next xs).toList.Perm xs.toList:=by
 unfold pickOrder;have:=wM (next:=next) xs.size 0 xs.toList #[] (fe);simpa using this
section
variable {prog:fg}{w:ga}{A:fv}{E:bn->bp->Prop}{s:bp}
theorem AW{α:Type}{E:bn->bp->Prop}:∀(n:Nat) (xs:List α) (s:bp) (Q:List α->bp->Prop),xs.length=n->(∀d ys,ys.Perm xs->Q ys { s with drawn:=d })->cj (model prog w) A (drawOrder n xs) Q E s
 | 0,xs,s,Q,h,q=>by
  have:xs=[]:=List.length_eq_zero_iff.mp h;subst this;exact bq (q s.drawn [] (oo _))
 |n+1,[],s,Q,h,q=>by cases h
 |n+1,x::xs,s,Q,h,q=>by
  show cj _ _ (choose .order (x::xs).length >>= _) _ _ _;refine bj (fun Γ p hΓ=>⟨yv,?_⟩);show cj (model prog w) A (match (x::xs)[w.draws .order (s.drawn.get .order) % (x::xs).length]? with|some y=>(do let r <- drawOrder n ((x::xs).eraseIdx (w.draws .order (s.drawn.get .order) % (x::xs).length));pure (y::r))|none=>unsupported "internal:drawOrder") Q E { s with drawn:=s.drawn.bump .order };generalize hi:w.draws .order (s.drawn.get .order) % (x::xs).length=i;have hl:i<(x::xs).length:=by rw[<- hi];exact Nat.mod_lt _ yv
  rw[cv hl];dsimp only;refine bj (AW n _ _ _ (by rw[List.length_eraseIdx,ci hl];omega) fun d ys p=>bq ?_);exact q d _ ((List.Perm.cons _ p).trans (uF _ _ hl))
abbrev IsSI (h:Heap) (I S:Addr) (f:bn) (i n ep:Nat):Prop:=h.get? I=some { cls:=.type "set_iterator",dict:=none,data:=.fields #[f,qc i,.ref S,qc n,qc ep],slots:=#[] }
theorem gI{I S:Addr}{f:bn}{i n ep:Nat}(h:IsSI s.heap I S f i n ep):s.TypeIs (.ref I) "set_iterator":=⟨_,h,rfl⟩
theorem wC(i:Nat):qc ((i:Int)+1)=qc ((i+1:Nat):Int):=by simp
theorem Bn{Q:PySem.Fin->bp->Prop}(hh:A.handled=none)(h:∀h' e,(∀b o,s.heap.get? b=some o->h'.get? b=some o)->(∃o,h'.get? e=some o/\o.cls=.type "StopIteration")->E (.ref e) { s with heap:=h' }):
  cj (model prog w) A (newExc (.type "StopIteration") [] >>= fun x=>raiseNew x) Q E s:=by
 refine bj ?_;simp only[newExc,newTuple];refine bj (fw ?_ (by size_fits));refine bj (m:=firstArgMember (.type "StopIteration") _) (wpAny_of_eq (a:=qw) (by first|rfl|(simp only[firstArgMember];rfl)) ?_);refine fw ?_ (by size_fits);simp only[raiseNew];refine bj (wpAny_handled ?_);rw[hh];refine bj (bq (wpAny_throw ?_));exact h _ _ (fun b o e=>bu _ (bu _ e)) ⟨_,df _ rfl,rfl⟩
theorem Eb{I S:Addr}{o:Obj}{es:Array (Int×bn)}{t:ju}{slot nx i ep:Nat}{x:bn}{Q:Option bn->bp->Prop}(hI:IsSI s.heap I S (qc slot) i es.size ep)(hS:s.heap.get? S=some o)(hd:o.data=.set es ep t)(hf:t.fits es.size=true)
  (hn:∀(A:fv) (Q:Option (bn×Nat)->bp->Prop) (E:bn->bp->Prop) (s:bp),s.heap.get? S=some o->Q (some (x,nx)) s->cj (model prog w) A (setNext S slot i ep) Q E s)
  (hQ:∀h',IsSI h' I S (qc nx) (i+1) es.size ep->kl I s.heap h'->Q (some x) { s with heap:=h' }):cj (model prog w) A (ox (.ref I)) Q E s:=by
 unfold ox;refine bj (wpAny_attempt (jg (name:=qh "__next__") (gI hI) F4.slot_si_next (jq F4.slot_si_next (gI hI) F4.entry_si_next ?_ (F4.args_si_next _))));unfold ls.«set_iterator.__next__»;refine bj (m:=slotArgs "__next__" 0 _) (bq ?_);refine bj (wpAny_fieldsOf hI rfl ?_);show cj _ _ (setEntries S >>= _) _ _ s;refine bj (oj hS hd hf ?_);rw[cg yv];show cj _ _ (setNext S ((slot:Int).toNat) ((i:Int).toNat) ((ep:Int).toNat) >>= _) _ _ s;rw[iy,iy,iy];refine bj (hn _ _ _ _ hS ?_);refine bj (mh hI yv fun g1 z1 b1=>?_);refine bj (mh (s:={ s with heap:=g1 }) z1 yv fun g2 z2 b2=>?_);refine bq ⟨_,rfl,bq (hQ g2 ?_ (b1.trans b2))⟩;rw[wC]at z2;exact z2
theorem Fj{I S:Addr}{o:Obj}{es:Array (Int×bn)}{t:ju}{slot i ep:Nat}{Q:Option bn->bp->Prop}(hh:A.handled=none)(hI:IsSI s.heap I S (qc slot) i es.size ep)(hS:s.heap.get? S=some o)(hd:o.data=.set es ep t)(hf:t.fits es.size=true)
  (hn:∀(A:fv) (Q:Option (bn×Nat)->bp->Prop) (E:bn->bp->Prop) (s:bp),s.heap.get? S=some o->Q none s->cj (model prog w) A (setNext S slot i ep) Q E s)
  (hQ:∀h',(∀b o,b≠I->s.heap.get? b=some o->h'.get? b=some o)->Q none { s with heap:=h' }):cj (model prog w) A (ox (.ref I)) Q E s:=by
 unfold ox;refine bj (wpAny_attempt (jg (name:=qh "__next__") (gI hI) F4.slot_si_next (jq F4.slot_si_next (gI hI) F4.entry_si_next ?_ (F4.args_si_next _))));unfold ls.«set_iterator.__next__»;refine bj (m:=slotArgs "__next__" 0 _) (bq ?_);refine bj (wpAny_fieldsOf hI rfl ?_);show cj _ _ (setEntries S >>= _) _ _ s;refine bj (oj hS hd hf ?_);rw[cg yv];show cj _ _ (setNext S ((slot:Int).toNat) ((i:Int).toNat) ((ep:Int).toNat) >>= _) _ _ s;rw[iy,iy,iy];refine bj (hn _ _ _ _ hS ?_);refine bj (mh hI yv fun g1 z1 b1=>?_);refine Bn (s:={ s with heap:=g1 }) hh fun h' e kp ⟨oe,e1,e2⟩=>?_;refine bj (lx (T:="StopIteration") (b:=true) ⟨oe,e1,e2⟩ isSubtype_stop ?_);exact bq (hQ _ fun b ob nb eb=>kp b ob (b1.extBut b ob nb eb))
theorem DR{I S T:Addr}{o:Obj}{es:Array (Int×bn)}{t:ju}{i ep p:Nat}{ps:Array bn}{x:Int×bn}{Q:Option bn->bp->Prop}(hI:IsSI s.heap I S (.ref T) i es.size ep)(hS:s.heap.get? S=some o)(hd:o.data=.set es ep t)(hf:t.fits es.size=true)
  (hT:IsT s.heap T ps) (hp:ps[i]?=some (qc p)) (hx:es[p]?=some x)
  (hQ:∀h',IsSI h' I S (.ref T) (i+1) es.size ep->kl I s.heap h'->Q (some x.2) { s with heap:=h' }):cj (model prog w) A (ox (.ref I)) Q E s:=by
 unfold ox;refine bj (wpAny_attempt (jg (name:=qh "__next__") (gI hI) F4.slot_si_next (jq F4.slot_si_next (gI hI) F4.entry_si_next ?_ (F4.args_si_next _))));unfold ls.«set_iterator.__next__»;refine bj (m:=slotArgs "__next__" 0 _) (bq ?_);refine bj (wpAny_fieldsOf hI rfl ?_);show cj _ _ (setEntries S >>= _) _ _ s;refine bj (oj hS hd hf ?_);rw[cg yv];show cj _ _ (seqItems? (.ref T) >>= _) _ _ s;refine bj (bj (wpAny_load hT (bq ?_)));show cj _ _ (match ps[(i:Int).toNat]? with|some (Value.int place _)=>_|some _=>_|none=>_) _ _ s;rw[iy,hp];show cj _ _ (setNextDrawn S ((p:Int).toNat) ((ep:Int).toNat) >>= _) _ _ s;rw[iy,iy];unfold setNextDrawn;refine bj (bj (nr hS hd hf ?_));dsimp only;rw[cg yv,hx];refine bq ?_;refine bj (mh hI yv fun g1 z1 b1=>?_);refine bq ⟨_,rfl,bq (hQ g1 ?_ b1)⟩;rw[wC]at z1;exact z1
theorem DW{I S T:Addr}{o:Obj}{es:Array (Int×bn)}{t:ju}{i ep:Nat}{ps:Array bn}{Q:Option bn->bp->Prop}(hh:A.handled=none)(hI:IsSI s.heap I S (.ref T) i es.size ep)(hS:s.heap.get? S=some o)(hd:o.data=.set es ep t)(hf:t.fits es.size=true)
  (hT:IsT s.heap T ps) (hp:ps[i]?=none)
  (hQ:∀h',(∀b o,b≠I->s.heap.get? b=some o->h'.get? b=some o)->Q none { s with heap:=h' }):cj (model prog w) A (ox (.ref I)) Q E s:=by
 unfold ox;refine bj (wpAny_attempt (jg (name:=qh "__next__") (gI hI) F4.slot_si_next (jq F4.slot_si_next (gI hI) F4.entry_si_next ?_ (F4.args_si_next _))));unfold ls.«set_iterator.__next__»;refine bj (m:=slotArgs "__next__" 0 _) (bq ?_);refine bj (wpAny_fieldsOf hI rfl ?_);show cj _ _ (setEntries S >>= _) _ _ s;refine bj (oj hS hd hf ?_);rw[cg yv];show cj _ _ (seqItems? (.ref T) >>= _) _ _ s;refine bj (bj (wpAny_load hT (bq ?_)));show cj _ _ (match ps[(i:Int).toNat]? with|some (Value.int place _)=>_|some _=>_|none=>_) _ _ s;rw[iy,hp];refine bj (mh hI yv fun g1 z1 b1=>?_);refine bj (mh (s:={ s with heap:=g1 }) z1 yv fun g2 z2 b2=>?_);refine Bn (s:={ s with heap:=g2 }) hh fun h' e kp ⟨oe,e1,e2⟩=>?_;refine bj (lx (T:="StopIteration") (b:=true) ⟨oe,e1,e2⟩ isSubtype_stop ?_);exact bq (hQ _ fun b ob nb eb=>kp b ob (b2.extBut b ob nb (b1.extBut b ob nb eb)))
end
end
section
section
variable {prog:fg}{w:ga}{A:fv}{E:bn->bp->Prop}{s:bp}
theorem p7{α:Type}{M:Model}{c:Prop}[Decidable c]{a b:Sem α}{Q:α->bp->Prop}(h:¬ c)(q:cj M A b Q E s):cj M A (if c then a else b) Q E s:=by
 rw[cg h];exact q
theorem tP{α:Type}{M:Model}{c:Prop}[Decidable c]{a b:Sem α}{Q:α->bp->Prop}(h:c)(q:cj M A a Q E s):cj M A (if c then a else b) Q E s:=by
 rw[ci h];exact q
theorem wB{S:Addr}{o:Obj}{es:Array (Int×bn)}{t:ju}{slot i ep:Nat}{Q:Option (bn×Nat)->bp->Prop}(hS:s.heap.get? S=some o)(hd:o.data=.set es ep t)(hf:t.fits es.size=true)(hb:w.params.followText "set-order" = true)
  (h:Q ((pickOrder (w.params.setOrder S ep) es)[i]?.map fun e=>(e.2,slot)) s):cj (model prog w) A (setNext S slot i ep) Q E s:=by
 unfold setNext;refine bj (nr hS hd hf (bj (qP ?_)));rw[hb];dsimp only;rw[ci rfl,cg yv];refine bj ?_;unfold setWalk;refine bj (nr hS hd hf (bj (qP ?_)));rw[hb,ci rfl];exact bj (wpAny_askSetting (bq (bq h)))
theorem CQ{S:Addr}{o:Obj}{es:Array (Int×bn)}{t:ju}{slot i ep:Nat}{Q:Option (bn×Nat)->bp->Prop}(hS:s.heap.get? S=some o)(hd:o.data=.set es ep t)(hf:t.fits es.size=true)(hb:w.params.followText "set-order" = false)
  (hdr:(!t.plain&&decide (es.size>1))=false) (hl:t.led=true) (hi:lz t.place slot=i)
  (h:Q (match es[i]?,t.place[i]? with|some (_,x),some j=>some (x,j+1)|_,_=>none) s):cj (model prog w) A (setNext S slot i ep) Q E s:=by
 unfold setNext;refine bj (nr hS hd hf (bj (qP ?_)));rw[hb];dsimp only;rw[cg yv];refine p7 (show ¬((!t.plain&&decide (es.size>1))=true) by rw[hdr];simp) ?_;refine bj ?_;show cj _ _ (if (!t.led&&!es.isEmpty)=true then unsupported "set:maker-not-led" else pure ()) _ _ s;rw[cg (by rw[hl];simp)];refine bq ?_;rw[hi];exact bq h
structure Wk(prog:fg)(w:ga)(A:fv)(I:Addr)(fp:List Addr)(vs:List bn)(St:Nat->Heap->Prop):Prop where
 mem:I∈fp
 frame:∀i h h',St i h->(∀b∈fp,∀o,h.get? b=some o->h'.get? b=some o)->St i h'
 item:∀i v (s:bp) (Q:Option bn->bp->Prop) (E:bn->bp->Prop),vs[i]?=some v->St i s.heap->(∀h',St (i+1) h'->(∀b o,b≠I->s.heap.get? b=some o->h'.get? b=some o)->Q (some v) { s with heap:=h' })->cj (model prog w) A (ox (.ref I)) Q E s
 done:∀(s:bp) (Q:Option bn->bp->Prop) (E:bn->bp->Prop),St vs.length s.heap->(∀h',(∀b o,b≠I->s.heap.get? b=some o->h'.get? b=some o)->Q none { s with heap:=h' })->cj (model prog w) A (ox (.ref I)) Q E s
theorem Ir{R:Result->bp->Prop}{I:Addr}{fp:List Addr}{vs:List bn}{St:Nat->Heap->Prop}(W:Wk prog w A.in1 I fp vs St)(hn:vs.length<=1000)(S:Addr)(z:S∉fp)(res:bn):
  ∀(m i:Nat) (s:bp) (acc:Array bn) (c:Nat),vs.length-i=m->i<=vs.length->St i s.heap->s.heap.get? S=some (jy "list" acc c)->acc.toList=vs.take i ->
  (∀h' c',(∀b o,b≠S->b≠I->s.heap.get? b=some o->h'.get? b=some o)->h'.get? S=some (jy "list" vs.toArray c')->R (.ok (.ret res)) { s with heap:=h' }) ->
  pb (model prog w) A (.builtin "list.extend.loop" ⟨[.ref S,.ref I,res],[]⟩) R s:=by
 have aa:S≠I:=fun e=>z (e▸W.mem);intro m;induction m with
 |zero=>
  intro i s acc c hm hi st hS ha hR;obtain rfl:i=vs.length:=yw
  refine jp F.entry_extend_loop ?_;rw[gy oh _];show cj _ A.in1 (ox (.ref I) >>= _) _ _ s;refine bj (W.done s _ _ st fun h' kp=>bq (hR h' c (fun b o _ nI e=>kp b o nI e) ?_));have:acc=vs.toArray:=by
   rw[ou]at ha;rw[<- ha]
  rw[<- this];exact kp S _ aa hS
 |succ m ih=>
  intro i s acc c hm hi st hS ha hR;have q:i<vs.length:=yw
  refine jp F.entry_extend_loop ?_;rw[gy oh _];show cj _ A.in1 (ox (.ref I) >>= _) _ _ s;refine bj (W.item i vs[i] s _ _ (cv q) st fun h' st' kp=>?_);have ab:=kp S _ aa hS;have sz:acc.size=i:=by rw[<- fe,ha,jw];omega
  show cj _ A.in1 (updateSeq S (·.push vs[i]) >>= _) _ _ _;refine bj (ni (s:={ s with heap:=h' }) ab rfl (bq ⟨lh oh _,ih (i+1) _ (acc.push vs[i]) _ yw q (W.frame _ h' _ st' fun b hb o e=>?_) (kx _ ab rfl) ?_ fun h'' c' ac hS''=>?_⟩)
   (by rw[sz,jj];omega) (by show (acc.push vs[i]).size<=_;rw[Array.size_push,sz,jj];omega))
  ·exact(gw _ _ (fun h:S=b=>z (by rw[h];exact hb))).trans e
  ·rw[toList_push,ha,List.take_succ_eq_append_getElem q]
  ·exact hR h'' c' (fun b o nS nI e=>ac b o nS nI ((gw _ _ (fun h:S=b=>nS h.symm)).trans (kp b o nI e))) hS''
theorem CU{I S:Addr}{o:Obj}{es:Array (Int×bn)}{t:ju}{ep:Nat}(hh:A.handled=none)(q:S≠I)(hd:o.data=.set es ep t)(hf:t.fits es.size=true)(us:List (Int×bn))(sl:Nat->Nat)
  (hn:∀i e,us[i]?=some e->∀(A:fv) (Q:Option (bn×Nat)->bp->Prop) (E:bn->bp->Prop) (s:bp),s.heap.get? S=some o->Q (some (e.2,sl (i+1))) s->cj (model prog w) A (setNext S (sl i) i ep) Q E s)
  (he:∀(A:fv) (Q:Option (bn×Nat)->bp->Prop) (E:bn->bp->Prop) (s:bp),s.heap.get? S=some o->Q none s->cj (model prog w) A (setNext S (sl us.length) us.length ep) Q E s):
  Wk prog w A I [I,S] (us.map (·.2)) (fun i h=>IsSI h I S (qc (sl i)) i es.size ep/\h.get? S=some o) where
 mem:=by simp
 frame:=fun i h h' ⟨a,b⟩ k=>⟨k I yv _ a,k S yv _ b⟩
 item:=fun i v s Q E hv ⟨a,b⟩ hQ=>by
  rw[gu]at hv;obtain⟨e,he,rfl⟩:=map_eq_some_iff.mp hv;exact Eb a b hd hf (hn i e he) fun h' z sb=>hQ h' ⟨z,sb.extBut S _ q b⟩ fun b' o' nb e=>sb.extBut b' o' nb e
 done:=fun s Q E ⟨a,b⟩ hQ=>by
  rw[ff]at a;exact Fj hh a b hd hf he fun h' kp=>hQ h' kp
theorem EK{I S T:Addr}{o:Obj}{es:Array (Int×bn)}{t:ju}{ep:Nat}(hh:A.handled=none)(aa:S≠I)(ab:T≠I)(hd:o.data=.set es ep t)(hf:t.fits es.size=true)(ps:List Nat)(hp:∀p∈ps,p<es.size):
  Wk prog w A I [I,S,T] (ps.map fun p=>(es.getD p (0,.none)).2) (fun i h=>IsSI h I S (.ref T) i es.size ep/\h.get? S=some o/\IsT h T (ps.map fun p:Nat=>qc p).toArray) where
 mem:=by simp
 frame:=fun i h h' ⟨a,b,c⟩ k=>⟨k I yv _ a,k S yv _ b,k T yv _ c⟩
 item:=fun i v s Q E hv ⟨a,b,c⟩ hQ=>by
  rw[gu]at hv;obtain⟨p,q,rfl⟩:=map_eq_some_iff.mp hv;have lp:=hp p (bv q);have ee:es[p]?=some (es.getD p (0,.none)):=by simp[Array.getD,lp]
  refine DR a b hd hf c (p:=p) (by simp[q]) ee fun h' z sb=>hQ h' ⟨z,sb.extBut S _ aa b,sb.extBut T _ ab c⟩ fun b' o' nb e=>sb.extBut b' o' nb e
 done:=fun s Q E ⟨a,b,c⟩ hQ=>by
  rw[ff]at a;exact DW hh a b hd hf c yv fun h' kp=>hQ h' kp
end
end
section
def i7(t:ju):Nat->Nat
 | 0=>0
 |i+1=>t.place.getD i 0+1
theorem Bm{t:ju}(h:Rise t.place):∀i,i<=t.place.size->lz t.place (i7 t i)=i
 | 0,_=>x6 (bel h) ⟨ji _,fun _ _ z=>absurd z (Nat.not_lt_zero _),fun _ _ _ _=>ji _⟩
 |i+1,hi=>by
  have il:i<t.place.size:=yw
  have e:=ft il;have eg:i7 t (i+1)=t.place[i]+1:=by simp[i7,Array.getD,il]
  rw[eg];refine x6 (bel h) ⟨hi,fun k x hk ek=>?_,fun k x hk ek=>?_⟩
  ·by_cases z:k=i
   ·subst z;rw[e]at ek;cases ek;omega
   ·have:=h.at (show k<i by omega) ek e;omega
  ·have:=h.at (show i<k by omega) e ek;omega
theorem GB{t:ju}{n:Nat}(h:t.fits n=true):t.place.size=n:=by
 unfold SetTable.fits at h;rw[jr]at h;simpa using h.1
section
variable {prog:fg}{w:ga}{A:fv}{E:bn->bp->Prop}{s:bp}
theorem Fn{S:Addr}{o:Obj}{es:Array (Int×bn)}{t:ju}{ep:Nat}{Q:bn->bp->Prop}(hS:s.heap.get? S=some o)(hx:o.ExactSet)(hd:o.data=.set es ep t)(tb:Tab (!w.params.followText "set-order") t es.size)(hz:es.size<100)
  (h:∀I h' d fp us St,s.heap.objs.size<=I->(∀b∈fp,b=S\/s.heap.objs.size<=b)->(∀b o,s.heap.get? b=some o->h'.get? b=some o)->us.Perm (es.toList.map (·.2))->(∀A':fv,A'.handled=none->Wk prog w A' I fp us St)->St 0 h'->Q (.ref I) { s with heap:=h',drawn:=d }):
  cj (model prog w) A (pyIter (.ref S)) Q E s:=by
 have ty:s.TypeIs (.ref S) "set":=⟨o,hS,hx.1⟩;have lt:=fm hS;have ps:=GB tb.fits;refine wpAny_pyIter_slot ty F.slot_set_iter (jq F.slot_set_iter ty F4.entry_set_iter ?_ (F.args_set_iter_1 _));unfold ls.«frozenset.__iter__»;refine bj (m:=Builtin.Frozenset.slot0 "__iter__" _) (bq ?_);refine bj (bj (oj hS hd tb.fits (bq ?_)));unfold setDrawn;refine bj ?_;refine bj (nr hS hd tb.fits (bj (qP (bq ?_))));show cj _ _ (if (!w.params.followText "set-order" && (!t.plain&&decide (es.size>1)))=true then _ else _) _ _ s;cases hb:w.params.followText "set-order" with
 |true=>
  refine p7 yv (bj (bq ?_));refine bj (wpAny_setEpoch_of hS hd tb.fits ?_);refine bj (fw (bq ⟨_,rfl,"set_iterator",_,⟨_,df _ rfl,rfl⟩,F4.slot_si_next.lookup,?_⟩));have hp:=Eh (w.params.setOrder S ep) es;refine h _ _ s.drawn [s.heap.objs.size,S] ((pickOrder (w.params.setOrder S ep) es).toList.map (·.2)) _ (cx _) (fun b z=>?_) (fun b o e=>bu _ e) (hp.map _)
   (fun A' hh=>CU hh (gh lt) hd tb.fits (pickOrder (w.params.setOrder S ep) es).toList (fun _=>0) (fun i e hi A Q E s hS q=>wB hS hd tb.fits hb (by rw[jn]at hi;rw[hi];exact q)) fun A Q E s hS q=>wB hS hd tb.fits hb (by rw[fe,Array.getElem?_eq_none (cx _)];exact q))
   ⟨df _ rfl,bu _ hS⟩
  simp only[iq,gg,or_false]at z;exact z.elim (fun e=>.inr (le_of_eq e.symm)) .inl
 |false=>
  have hl:t.led=true:=by rw[tb.led,hb];rfl
  cases hdr:(!t.plain&&decide (es.size>1))with
  |false=>
   refine p7 yv (bj (bq ?_));refine bj (wpAny_setEpoch_of hS hd tb.fits ?_);refine bj (fw (bq ⟨_,rfl,"set_iterator",_,⟨_,df _ rfl,rfl⟩,F4.slot_si_next.lookup,?_⟩));refine h _ _ s.drawn [s.heap.objs.size,S] (es.toList.map (·.2)) _ (cx _) (fun b z=>?_) (fun b o e=>bu _ e) (oo _)
    (fun A' hh=>CU hh (gh lt) hd tb.fits es.toList (i7 t) (fun i e hi A Q E s hS q=>CQ (i:=i) hS hd tb.fits hb hdr hl (Bm tb.rise i ?_) ?_) fun A Q E s hS q=>CQ hS hd tb.fits hb hdr hl (Bm tb.rise _ (by rw[fe];omega)) (by rw[fe,Array.getElem?_eq_none (cx _)];exact q))
    ⟨df _ rfl,bu _ hS⟩
   ·simp only[iq,gg,or_false]at z;exact z.elim (fun e=>.inr (le_of_eq e.symm)) .inl
   ·have:=(List.getElem?_eq_some_iff.mp hi).1;rw[fe]at this;omega
   ·have il:=(List.getElem?_eq_some_iff.mp hi).1;rw[fe]at il;rw[jn]at hi;have ip:i<t.place.size:=yw
    rw[hi,ft ip];have:i7 t (i+1)=t.place[i]+1:=by simp[i7,Array.getD,ip]
    rw[this]at q;exact q
  |true=>
   refine tP yv ?_;refine bj (AW es.size (gc es.size) s _ yv fun d ys hp=>bj (wpAny_newTuple ?_ ?_))
   ·have aa:(s.heap.push { cls:=.type "tuple",data:=.seq (ys.map fun i:Nat=>qc i).toArray }).get? S=some o:=bu _ hS;refine bj (wpAny_setEpoch_of (s:={ s with heap:=s.heap.push { cls:=.type "tuple",data:=.seq (ys.map fun i:Nat=>qc i).toArray },drawn:=d }) aa hd tb.fits ?_);refine bj (fw (bq ⟨_,rfl,"set_iterator",_,⟨_,df _ rfl,rfl⟩,F4.slot_si_next.lookup,?_⟩));have sz:(s.heap.push { cls:=.type "tuple",data:=.seq (ys.map fun i:Nat=>qc i).toArray }).objs.size=s.heap.objs.size+1:=size_push ..;refine h _ _ d [(s.heap.push { cls:=.type "tuple",data:=.seq (ys.map fun i:Nat=>qc i).toArray }).objs.size,S,s.heap.objs.size] (ys.map fun p=>(es.getD p (0,.none)).2) _ (by rw[sz];exact le_succ _) (fun b z=>?_) (fun b o e=>bu _ (bu _ e)) ?_
     (fun A' hh=>EK hh ?_ ?_ hd tb.fits ys fun p m=>?_)
     ⟨df _ rfl,bu _ aa,bu _ (df _ rfl)⟩
    ·simp only[iq,gg,or_false]at z;rcases z with e|e|e
     ·exact .inr (by rw[e,sz];exact le_succ _)
     ·exact .inl e
     ·exact .inr (le_of_eq e.symm)
    ·refine(hp.map _).trans ?_;have:(gc es.size).map (fun p=>(es.getD p (0,.none)).2)=es.toList.map (·.2):=by
      refine List.ext_getElem yv fun i h1 h2=>?_;have hi:i<es.size:=by simpa using h1
      simp[Array.getD,hi]
     rw[this]
    ·rw[sz];exact gh (lt_succ_of_lt lt)
    ·rw[sz];exact gh (Nat.lt_succ_self _)
    ·exact mem_range.mp (hp.mem_iff.mp m)
   ·have:=hp.length_eq;rw[length_range]at this;rw[ff,jj];omega
end
end
section
namespace F4
theorem len_set:typeLookup (.type "set") "__len__" = pure (some (.builtin "set.__len__")):=by rw[typeLookup_type,builtinLookup_eq_fast];kernel_rfl
end F4
section
variable {prog:fg}{w:ga}{A:fv}{E:bn->bp->Prop}{s:bp}
theorem ET{L:Addr}{c:Nat}{Q:Unit->bp->Prop}(hL:s.heap.get? L=some (jy "list" #[] c))(h:∀h' c',kl L s.heap h'->h'.get? L=some (jy "list" #[] c')->Q () { s with heap:=h' }):
  cj (model prog w) A (Builtin.List.listTouch (.ref L)) Q E s:=by
 unfold Builtin.List.listTouch;have g1:=qu hL (fun xs=>xs.push .none);refine bj (listUpdate_at hL rfl ?_ (ji _) (by show (#[]:Array bn).size+1<=_;simp));have g2:=qu g1 (fun xs=>xs.pop);refine listUpdate_at (s:={ s with heap:=s.heap.update L (gm fun xs=>xs.push .none) }) g1 rfl ?_ (by simp[jj]) yv;exact h _ _ ((kq ..).trans (kq ..)) g2
theorem Gm{S:Addr}{o:Obj}{es:Array (Int×bn)}{t:ju}{ep:Nat}{Q:List bn->bp->Prop}(hh:A.handled=none)(hS:s.heap.get? S=some o)(hx:o.ExactSet)(hd:o.data=.set es ep t)(tb:Tab (!w.params.followText "set-order") t es.size)(hz:es.size<100)
  (h:∀h' d us,us.Perm (es.toList.map (·.2))->(∀b o,s.heap.get? b=some o->h'.get? b=some o)->Q us { s with heap:=h',drawn:=d }):cj (model prog w) A (collect (.ref S)) Q E s:=by
 have lt:=fm hS;unfold collect;refine bj (wpAny_runValue (jp F.entry_proto_collect ?_));rw[gy F.plain_proto_collect _];show cj _ A.in1 (newList [] >>= fun l=>again (.builtin "list.__iadd__" ⟨[l,.ref S],[]⟩)) _ _ s;refine bj (fw ?_);refine bq ⟨lh F.plain_list_iadd _,jp F.entry_list_iadd ?_⟩;rw[gy F.plain_list_iadd _];have hL:(s.heap.push (jy "list" #[] 0)).get? s.heap.objs.size=some (jy "list" #[] 0):=df _ rfl;have q:(s.heap.push (jy "list" #[] 0)).get? S=some o:=bu _ hS;have sz:(s.heap.push (jy "list" #[] 0)).objs.size=s.heap.objs.size+1:=size_push ..;show cj _ A.in1 (jf (.ref s.heap.objs.size) (.ref S) (.ref s.heap.objs.size)) _ _ { s with heap:=s.heap.push (jy "list" #[] 0) };have ty:Shared.TypeIs { s with heap:=s.heap.push (jy "list" #[] 0) } (.ref S) "set":=⟨o,q,hx.1⟩;have sr:Builtin.List.listSameRef (.ref s.heap.objs.size) (.ref S)=false:=by simp[Builtin.List.listSameRef,ne_of_gt lt]
 unfold jf;refine bj (pc ty ?_);rw[cg (by rw[sr];decide)];refine bj (Fn (s:={ s with heap:=s.heap.push (jy "list" #[] 0) }) q hx hd tb hz fun I h' d fp us St hI ac kp hp W st0=>?_);have aa:Shared.TypeIs { s with heap:=h',drawn:=d } (.ref S) "set":=⟨o,kp S o q,hx.1⟩;refine bj (ix ?_);unfold Builtin.List.listLengthHint;refine bj (wpAny_specialOf aa F4.len_set ?_)
 (generalize hid:("set.__len__":String)=id0;(fail_if_success (clear hid id0));wp_delta;rw[show splitId id0=some ("set","__len__")from by subst hid;decide +kernel];subst hid)
 refine bj (lx (b:=true) aa sub_set_self ?_);refine p7 dz ?_;refine tP (by decide +kernel) ?_;refine bj (pc aa (bq ?_));refine tP (by decide +kernel) ?_;refine bj (kn ?_);have ab:h'.get? s.heap.objs.size=some (jy "list" #[] 0):=kp _ _ hL;have nL:s.heap.objs.size∉fp:=fun m=>by
  rcases ac _ m with e|e
  ·exact absurd e (ne_of_gt lt)
  ·have e':s.heap.objs.size+1<=s.heap.objs.size:=by rw[<- sz];exact e
   omega
 refine bj (ET (s:={ s with heap:=h',drawn:=d }) ab fun h2 c2 sb af=>?_);have W1:=W A.in1 hh;refine bq ⟨lh oh _,Ir W1 (by rw[hp.length_eq,ff,fe];omega) _ nL _ _ 0 { s with heap:=h2,drawn:=d } #[] c2 rfl (ji _) (W1.frame 0 h' h2 st0 fun b hb ob e=>sb.extBut b ob (fun z=>nL (z▸hb)) e) af rfl fun h3 c3 ah ae=>?_⟩;refine bj (wpAny_load ae ?_);show cj _ _ (pure us.toArray.toList) _ _ _;rw[List.toList_toArray];refine bq (h h3 d us hp fun b ob e=>?_);have lb:=fm e;refine ah b ob (gh lb) (fun z=>?_) (sb.extBut b ob (gh lb) (kp b ob (bu _ e)));rw[z]at lb;have ag:s.heap.objs.size+1<=I:=by rw[<- sz];exact hI
 exact absurd (lt_trans lb ag) (ol _)
end
end
section
theorem Inv.drw{X:Cx}{zf:List (Addr×Obj)}{σ:St}{H:Hp}{s:bp}(d:Drawn)(I:Inv X zf σ H s):Inv X zf σ H { s with drawn:=d } :=
 I.call (h':=s.heap) (g':=s.gens) (t':=s.toks) (ch:=[]) Un.refl I.hok I.bare (fun _ z=>nomatch z)
theorem Cl:gr "set" = some (.type "set"):=by decide +kernel
end
section
theorem F7:fillsNumberSlot (.type "tuple") "mul" = pure false:=
 PySem.fillsNumberSlot_seq (id:="tuple.__mul__") (r:=some (.builtin "tuple.__rmul__")) F.slot_tuple_mul.lookup (by decide +kernel) F.slot_tuple_rmul.lookup (by decide +kernel)
theorem DL:seqRepeat? (.type "tuple")=pure (some (.builtin "tuple.__mul__")):=by
 unfold seqRepeat?;rw[PySem.seqSlot_of (T:="tuple") (name:="__mul__") (id:="tuple.__mul__") F.slot_tuple_mul.lookup (by decide +kernel),PySem.seqSlot_of (T:="tuple") (name:="__rmul__") (id:="tuple.__rmul__") F.slot_tuple_rmul.lookup (by decide +kernel)];rfl
theorem Gs(a:Int)(t:Tok)(l:Addr)(q:Array bn)(n:Nat)(d:Option Addr)(sl:Array (Option bn)):
  Meets (ls.«int.__rmul__» ⟨[.int a t,.ref l],[]⟩) (fun _ R s=>s.heap.get? l=some { cls:=.type "tuple",dict:=d,data:=.seq q n,slots:=sl }/\R (.ok (.ret Value.notImplemented)) s):=
 .of_wp fun prog w A R s h=>by obtain⟨hp,g,d,tk,os⟩:=s;obtain⟨hl,h⟩:=h;wp_walk;exact⟨_,rfl,h⟩
theorem EU(l:Addr)(q:Array bn)(n:Nat)(d:Option Addr)(sl:Array (Option bn))(u:Tok):
  Meets (ls.«tuple.__mul__» ⟨[.ref l,.int 1 u],[]⟩) (fun _ R s=>s.heap.get? l=some { cls:=.type "tuple",dict:=d,data:=.seq q n,slots:=sl }/\R (.ok (.ret (.ref l))) s):=
 .of_wp fun prog w A R s h=>by
  obtain⟨hp,g,d,tk,os⟩:=s;obtain⟨hl,h⟩:=h
  wp_walk
  exact⟨_,rfl,h⟩
theorem Hw(l:Addr)(q:Array bn)(n:Nat)(d:Option Addr)(sl:Array (Option bn))(u:Tok)(x:Int)(hx:x<=0)(z:-(2 ^ 63)<=x)(hi:q.isEmpty=false):
  Meets (ls.«tuple.__mul__» ⟨[.ref l,.int x u],[]⟩) (fun _ R s=>s.heap.get? l=some { cls:=.type "tuple",dict:=d,data:=.seq q n,slots:=sl }/\R (.ok (.ret (.ref s.heap.objs.size))) { s with heap:=s.heap.push { cls:=.type "tuple",data:=.seq #[] } }):=
 .of_wp fun prog w A R s h=>by
  obtain⟨hp,g,d,tk,os⟩:=s;obtain⟨hl,h⟩:=h;have c0:(decide (x < -2 ^ 63)||decide (x≥2 ^ 63))=false:=by simp;omega
  have c1:(q.isEmpty||x==1)=false:=by rw[hi];simp;omega
  have c2:(decide (x<=0)||q.isEmpty)=true:=by rw[gd hx];rfl
  wp_walk
  refine nj (by rw[c0];rfl) ?_
  wp_walk
  refine nj (by rw[c1];rfl) ?_;refine wpAny_ite_true (by rw[c2];rfl) ?_
  wp_walk
  exact⟨_,rfl,h⟩
theorem Ga(l:Addr)(q:Array bn)(n:Nat)(d:Option Addr)(sl:Array (Option bn))(u:Tok)(x:Int)(hx:2<=x)(z:x<2 ^ 63)(hi:q.isEmpty=false)(hz:q.size*x.toNat<=dw):
  Meets (ls.«tuple.__mul__» ⟨[.ref l,.int x u],[]⟩) (fun _ R s=>s.heap.get? l=some { cls:=.type "tuple",dict:=d,data:=.seq q n,slots:=sl }/\R (.ok (.ret (.ref s.heap.objs.size))) { s with heap:=s.heap.push { cls:=.type "tuple",data:=.seq ((bx x.toNat q).foldl (· ++ ·) #[]) } }):=
 .of_wp fun prog w A R s h=>by
  obtain⟨hp,g,d,tk,os⟩:=s;obtain⟨hl,h⟩:=h;have c0:(decide (x < -2 ^ 63)||decide (x≥2 ^ 63))=false:=by simp;omega
  have c1:(q.isEmpty||x==1)=false:=by rw[hi];simp;omega
  have c2:(decide (x<=0)||q.isEmpty)=false:=by rw[hi,fc yw];rfl
  have ez:(q.size:Int)*x=(q.size*x.toNat:Nat):=by rw[Int.natCast_mul,Int.toNat_of_nonneg yw]
  have c3:¬((q.size:Int)*x>(2 ^ 63-1)/8):=by
   rw[ez];have h1:(dw:Int)<=(2 ^ 63-1)/8:=by decide
   have h2:((q.size*x.toNat:Nat):Int)<=(dw:Int):=Int.ofNat_le.mpr hz;exact fun h3=>absurd (Int.le_trans h2 h1) (Int.not_le.mpr h3)
  have c4:Builtin.Tuple.tupleTooMany ((q.size:Int)*x)=false:=by
   unfold Builtin.Tuple.tupleTooMany;rw[ez];exact fc (Int.not_lt.mpr (Int.ofNat_le.mpr hz))
  have c5:((bx x.toNat q).foldl (· ++ ·) #[]).size<=dw:=by
   have:=oT q.toList x.toNat [];simp only[Array.toArray_toList]at this;rw[nil_append]at this;rw[this,cz,rR,fe,mul_comm];exact hz
  wp_walk
  refine nj (by rw[c0];rfl) ?_
  wp_walk
  refine nj (by rw[c1];rfl) ?_;refine nj (by rw[c2];rfl) ?_;refine nj (fc c3) ?_;refine nj (by rw[c4];rfl) ?_
  wp_walk
  exact⟨_,rfl,h⟩
def yR(K:cy):R2:=fun x y H Q=>∃a k xs,x=.ref a/\y=.int k/\SqT K H a xs/\xs≠[]/\-1000<=k/\k<=1000/\xs.length*k.toNat<=1000 /\
 (k=1->Q (.ref a) H)/\(k≠1->∀p,H p=none->Q (.ref p) (upd H p (.tup (bx k.toNat xs).flatten)))
theorem HX{X:Cx}:OpR X (kw .Mult) (yR X.K):=by
 intro zf s σ H x y v u Q I rx ry h;obtain⟨a,k,xs,rfl,rfl,ha,hx,h1,h2,hz,q1,q2⟩:=h;cases rx;obtain⟨t,rfl⟩:=ry;obtain⟨aa,r1,p1,_⟩:=I.tuple ha;have ae:aa≠[]:=fun z=>hx (r1.nil_iff.mp z);have ab:aa.toArray.isEmpty=false:=by
  cases aa with
  |nil=>exact absurd rfl ae
  |cons _ _=>rfl
 have hl:aa.length=xs.length:=r1.length.symm;obtain⟨⟨cls,dd,data,sl⟩,ho,hc,n,hd⟩:=id p1;simp only at hc hd;subst hc hd;have ac:aa.toArray.size*k.toNat<=dw:=by
  rw[cz,hl];exact ku (small1000 hz)
 refine wpAny_binaryOp_repeat_ref (T:="tuple") (U:="int") dz ⟨_,ho,rfl⟩ (fun s'=>typeIs_int s' k t) F7 F.fills_int_mul F.slot_int_rmul DL F.slot_int_index.lookup
  (ny F.slot_int_rmul (typeIs_int s k t) F.entry_int_rmul (F.args_int_rmul_2 _ _) (Gs k t a aa.toArray n dd sl) ⟨ho,rfl,⟨_,ho,rfl⟩,?_⟩)
 by_cases hk:k=1
 ·subst hk;exact ny F.slot_tuple_mul ⟨_,ho,rfl⟩ F.entry_tuple_mul (F.args_tuple_mul_2 _ _) (EU a aa.toArray n dd sl t) ⟨ho,.ref a,H,I,rfl,q1 rfl⟩
 ·have fin:∀us,us=(bx k.toNat aa).flatten->EP X zf σ Q (.ref s.heap.objs.size) { s with heap:=s.heap.push { cls:=.type "tuple",data:=.seq us.toArray } }:=fun us e=>by
   refine⟨.ref s.heap.objs.size,_,I.laid (t':=s.toks) (o:=.tup (bx k.toNat xs).flatten) (fun b ob q=>bu _ q) (cx _) ?_,rfl,q2 hk _ (I.hok.fresh (cx _))⟩;refine⟨⟨by rw[rR,mul_comm];exact ku (small1000 hz),_,df _ rfl,rfl⟩,us,?_,IsTup.new _ _⟩;rw[e];exact r1.rep k.toNat
  by_cases h0:k<=0
  ·refine ny F.slot_tuple_mul ⟨_,ho,rfl⟩ F.entry_tuple_mul (F.args_tuple_mul_2 _ _) (Hw a aa.toArray n dd sl t k h0 yw ab) ⟨ho,?_⟩;have e0:k.toNat=0:=yw
   exact fin [] (by rw[e0];rfl)
  ·refine ny F.slot_tuple_mul ⟨_,ho,rfl⟩ F.entry_tuple_mul (F.args_tuple_mul_2 _ _) (Ga a aa.toArray n dd sl t k yw yw ab ac) ⟨ho,?_⟩;have e1:=oT aa k.toNat [];rw[nil_append]at e1;have:=fin _ rfl;rw[<- e1]at this;exact this
def gZ:D2:=fun x y S R=>asT x fun ds=>asI y fun j=>ds≠[]/\-1000<=j/\j<=1000/\ds.length*j.toNat<=1000/\R (.d (.tuple (bx j.toNat ds).flatten)) S
theorem JN{K:cy}:RO (yR K) gZ:=fun h o H S x y v u R Q hs hx hy q c=>by
 obtain⟨ds,rfl,q⟩:=fW q;replace q:=bA q;obtain⟨j,rfl,hn,h1,h2,hz,q⟩:=q;obtain⟨a,vs,rfl,ea,l⟩:=dH hx;refine⟨a,j,vs,rfl,aZ hy,.of ea,?_,h1,h2,by rw[l.length];exact hz,fun e=>?_,fun _=>iG hs (l.rep j.toNat) c q⟩
 ·intro z;have:=l.length;rw[z]at this;exact hn (List.length_eq_zero_iff.mp this.symm)
 ·subst e;have e1:(bx (1:Int).toNat ds).flatten=ds:=by simp
  rw[e1]at q;exact c o H S _ _ Ex.refl hs hx q
end
end L2
namespace L2
open PySem PySem.Spec PyProof.Rows
section
abbrev EXD:=Addr->List (Str×bo)->Prop
abbrev PX:=List XV->Sto->RX->EXD->Prop
end
end L2
namespace L2
open PySem PySem.Spec PyProof.Rows
section
def oB(EX:EXD)(C:Addr)(ns:List Str)(da:DA):DS:=fun _ δ S=>da δ S fun xs _=>∃ds,datas xs=some ds/\ds.length=ns.length/\EX C (ns.zip ds)
end
end L2
namespace L2
open PySem PySem.Spec PyProof.Rows
section
abbrev Phi:=List Addr->List Addr->Hp->Prop
class Stb (Φ:Phi):Prop where
 st:∀{h o o':List Addr}{H H':Hp},Φ h o H->Ex o H o' H'->Φ h o' H'
def REp(Φ:Phi)(t:TE)(dt:DE):Prop:=∀(h o:List Addr) (H:Hp) (δ:XE) (σ:St) (S:Sto) (R:RX) (Q:VK),RepE h o H δ σ->RepS h o H S->dt δ S R->Cn h o H R Q->Φ h o H->t σ H Q
section
variable {Φ:Phi} [Stb Φ] {ta tb te:TE}{da db de:DE}{tl:TA}{dl:DA}{tt tu:TT}{dt du:DT}
theorem vS(a:RE te de):REp Φ te de:=fun h o H δ σ S R Q he hs q c _=>a h o H δ σ S R Q he hs q c
end
section
variable {E:XK}{EX:EXD}{ta tb te:TE}{da db de:DE}{tl:TA}{dl:DA}{tt tu:TT}{dt du:DT}
def n8(EX:EXD)(m:Nat)(q:PX)(da:DA):DE:=fun δ S R=>da δ S fun xs S1=>∃ds,datas xs=some ds/\ds.length=m/\q (ds.map XV.d) [] (ret0 S1 R) EX
end
def rY(N P:List Str)(sc:Scope):Bool:=decide (sc.kind=.function)&&!sc.isCoroutine&&!sc.isGenerator&&decide N.Nodup&&decide (N.take P.length=P)&&P.all (fun x=>decide (sc.names.lookup x=some .local)||decide (sc.names.lookup x=some .cell))&&sc.names.all fun y=>decide (y.2≠.free)
theorem fsc{N P:List Str}{sc:Scope}(h:rY N P sc=true):FnScope N P sc:=by
 simp only[rY,jr,decide_eq_true_eq,Bool.not_eq_true',oq,Bool.or_eq_true]at h;obtain⟨⟨⟨⟨⟨⟨h1,h2⟩,h3⟩,h4⟩,h5⟩,h6⟩,h7⟩:=h;exact⟨h1,h2,h3,h4,h5,h6,h7⟩
end
section
section
variable {κ α:Type} [DecidableEq κ]
def lkA(m:List (κ×α))(k:κ):Option α:=(m.find? fun p=>decide (p.1=k)).map (·.2)
def ptA(m:List (κ×α))(k:κ)(v:α):List (κ×α):=if (m.any fun p=>decide (p.1=k))=true then m.map (fun p=>if p.1=k then (p.1,v)else p)else m++[(k,v)]
def HasM(H:Hp):List (κ×bo)->List (κ×V)->Prop
 | [],m=>m=[]
 |p::r,m=>∃v m',m=(p.1,v)::m'/\Has H p.2 v/\HasM H r m'
theorem HasM.mono{H H':Hp}(s:Same H H'):∀{m:List (κ×bo)}{m':List (κ×V)},HasM H m m'->HasM H' m m'
 | [],_,q=>q
 |p::r,_,⟨v,t,e,q,l⟩=>⟨v,t,e,Has.mono s _ _ q,HasM.mono s l⟩
theorem HasM.val{H:Hp}(k:κ):∀{m:List (κ×bo)}{m':List (κ×V)},HasM H m m'->(lkA m k=none/\d7 m' k=none)\/∃d v,lkA m k=some d/\d7 m' k=some v/\Has H d v
 | [],m',q=>by rw[show m'=[]from q];exact .inl ⟨rfl,rfl⟩
 |p::r,m',⟨v,t,e,q,l⟩=>by
  subst e;by_cases hk:p.1=k
  ·exact .inr ⟨p.2,v,by simp[lkA,hk],tV hk,q⟩
  ·have e1:lkA (p::r) k=lkA r k:=by simp[lkA,hk]
   rw[e1,rW hk];exact HasM.val k l
end
inductive KSg where
 |int|bool|many (s:KSg)|two (s t:KSg)
def KG:KSg->Type
 | .int=>Int
 | .bool=>Bool
 | .many s=>List (KG s)
 | .two s t=>KG s×KG t
instance decKG:(s:KSg)->DecidableEq (KG s)
 | .int=>inferInstanceAs (DecidableEq Int)
 | .bool=>inferInstanceAs (DecidableEq Bool)
 | .many s=>have:=decKG s;inferInstanceAs (DecidableEq (List (KG s)))
 | .two s t=>have:=decKG s;have:=decKG t;inferInstanceAs (DecidableEq (KG s×KG t))
def khash:(s:KSg)->KG s->Int
 | .int,i=>hashInt i
 | .bool,b=>reduceHash (match (show Bool from b)with|true=>1|false=>0)
 | .many s,ks=>reduceHash (Builtin.Tuple.tupleHashOf (ks.map (khash s)))
 | .two s t,k=>reduceHash (Builtin.Tuple.tupleHashOf [khash s k.1,khash t k.2])
def kdat:(g:KSg)->KG g->bo
 | .int,i=>.int i
 | .bool,b=>.bool b
 | .many g,ks=>.tuple (List.map (kdat g) ks)
 | .two g g',k=>.tuple [kdat g k.1,kdat g' k.2]
def PDict(g:KSg)(ob:Obj)(xs:List (KG g×Addr×bn)):Prop:=ob.ExactDict/\∃es ep,ob.data=.dict es ep/\es.toList=xs.map (fun x=>⟨khash g x.1,.ref x.2.1,x.2.2⟩)/\(xs.map (·.1)).Nodup
def PrG(G:Hp)(g:KSg):List (KG g×bo)->List (KG g×Addr×bn)->Prop
 | [],xs=>xs=[]
 |p::r,xs=>∃q t,xs=q::t/\q.1=p.1/\Has G (kdat g p.1) (.ref q.2.1)/\(∃v,Has G p.2 v/\RelV v q.2.2)/\PrG G g r t
theorem PrG.mono{G G':Hp}{g:KSg}(s:Same G G'):∀{m:List (KG g×bo)}{xs:List (KG g×Addr×bn)},PrG G g m xs->PrG G' g m xs
 | [],_,q=>q
 |p::r,_,⟨q,t,e,e1,h1,⟨v,h2,h3⟩,l⟩=>⟨q,t,e,e1,Has.mono s _ _ h1,⟨v,Has.mono s _ _ h2,h3⟩,PrG.mono s l⟩
inductive DD where
 |k (m:List (Key×bo))
 |t (m:List (List Key×bo))
 |g (g:KSg) (ob:Obj) (m:List (KG g×bo))
def DD.pairs:DD->List (bo×bo)
 | .k m=>m.map fun p=>(kD p.1,p.2)
 | .t m=>m.map fun p=>(.tuple (p.1.map kD),p.2)
 | .g sg _ m=>m.map fun p=>(kdat sg p.1,p.2)
def iF:bo->Option Key
 | .int i=>some (.inl i)
 | .str x=>some (.inr x)
 |_=>none
def i9:List bo->Option (List Key)
 | []=>some []
 |d::ds=>(iF d).bind fun k=>(i9 ds).map (k :: ·)
def o8:bo->Option (List Key)
 | .tuple ds=>i9 ds
 |_=>none
def DD.get:DD->bo->Option (Option bo)
 | .k m,y=>(iF y).map (lkA m)
 | .t m,y=>(o8 y).map (lkA m)
 | .g _ _ _,_=>none
def RAt(G H:Hp)(a:Addr):DD->Prop
 | .k m=>∃m',Rd H a (.dK m')/\HasM G m m'
 | .t m=>∃m',Rd H a (.dT m')/\HasM G m m'
 | .g g ob m=>H a=some (obO a ob)/\(a==nu)=false/\∃xs,PDict g ob xs/\PrG G g m xs
def DAt(G H:Hp)(a:Addr):DD->Prop
 | .k m=>∃m',H a=some (.dK m')/\HasM G m m'
 | .t m=>∃m',H a=some (.dT m')/\HasM G m m'
 | .g g ob m=>H a=some (obO a ob)/\(a==nu)=false/\∃xs,PDict g ob xs/\PrG G g m xs
theorem C7{H:Hp}{y:bo}{v:V}{k:Key}(e:iF y=some k)(q:Has H y v):v=kV k:=by
 cases y with
 |int i=>cases e;exact eU.mp q
 |str x=>cases e;exact eV.mp q
 |_=>cases e
theorem BP{H:Hp}:∀{ds:List bo}{vs:List V}{ks:List Key},i9 ds=some ks->HasL H ds vs->vs=ks.map kV
 | [],vs,ks,e,l=>by cases e;exact zv.mp l
 |d::ds,vs,ks,e,l=>by
  obtain⟨v,r,rfl,q,l⟩:=zp.mp l;unfold i9 at e;cases hk:iF d with
  |none=>rw[hk]at e;cases e
  |some k=>
   rw[hk,Option.bind_some]at e;cases hs:i9 ds with
   |none=>rw[hs]at e;cases e
   |some ks'=>
    rw[hs]at e;cases e;rw[C7 hk q,BP hs l];rfl
theorem EY{H:Hp}{y:bo}{v:V}{ks:List Key}(e:o8 y=some ks)(q:Has H y v):∃b,v=.ref b/\H b=some (.tup (ks.map kV)):=by
 cases y with
 |tuple ds=>
  obtain⟨b,vs,rfl,eb,l⟩:=dJ.mp q;exact⟨b,rfl,by rw[<- BP (show i9 ds=some ks from e) l];exact eb⟩
 |_=>cases e
theorem DAt.mono{G G' H H':Hp}{a:Addr}{D:DD}(s:Same G G')(e:∀u,H a=some u->H' a=some u)(q:DAt G H a D):DAt G' H' a D:=by
 cases D with
 |k m=>obtain⟨m',e1,l⟩:=q;exact⟨m',e _ e1,l.mono s⟩
 |t m=>obtain⟨m',e1,l⟩:=q;exact⟨m',e _ e1,l.mono s⟩
 |g g ob m=>obtain⟨e1,ha,xs,pd,l⟩:=q;exact⟨e _ e1,ha,xs,pd,l.mono s⟩
theorem DAt.rd{G H:Hp}{a:Addr}{D:DD}(q:DAt G H a D):RAt G H a D:=by
 cases D with
 |k m=>obtain⟨m',e1,l⟩:=q;exact⟨m',.inl e1,l⟩
 |t m=>obtain⟨m',e1,l⟩:=q;exact⟨m',.inl e1,l⟩
 |g g ob m=>exact q
theorem DAt.mo{G H:Hp}{a:Addr}{D:DD}(q:DAt G H a D):∃u:MO,H a=some u.ho:=by
 cases D with
 |k m=>obtain⟨m',e1,l⟩:=q;exact⟨.k m',e1⟩
 |t m=>obtain⟨m',e1,l⟩:=q;exact⟨.t m',e1⟩
 |g g ob m=>exact⟨.x a ob,q.1⟩
def RelD(G:Hp):Option bo->Option V->Prop
 |none,r=>r=none
 |some d,r=>∃u,r=some u/\Has G d u
theorem RAt.get{G H:Hp}{a:Addr}{D:DD}{y:bo}{v:V}{o:Option bo}(sv:Same G H)(q:RAt G H a D)(hy:Has G y v)(e:D.get y=some o):∃r,DGet H a v r/\RelD G o r:=by
 cases D with
 |k m=>
  obtain⟨m',e1,l⟩:=q;replace e:(iF y).map (lkA m)=some o:=e;cases hk:iF y with
  |none=>rw[hk]at e;cases e
  |some k=>
   rw[hk]at e;cases e;rw[C7 hk hy];refine⟨_,.inl ⟨m',k,e1,rfl,rfl⟩,?_⟩;rcases l.val k with ⟨z1,z2⟩|⟨d,u,z1,z2,z3⟩
   ·rw[z1];exact z2
   ·rw[z1];exact⟨u,z2,z3⟩
 |t m=>
  obtain⟨m',e1,l⟩:=q;replace e:(o8 y).map (lkA m)=some o:=e;cases hk:o8 y with
  |none=>rw[hk]at e;cases e
  |some k=>
   rw[hk]at e;cases e;obtain⟨b,rfl,eb⟩:=EY hk hy;refine⟨_,.inr ⟨m',k,b,e1,rfl,sv _ _ eb,rfl⟩,?_⟩;rcases l.val k with ⟨z1,z2⟩|⟨d,u,z1,z2,z3⟩
   ·rw[z1];exact z2
   ·rw[z1];exact⟨u,z2,z3⟩
 |g g ob m=>cases e
theorem GM{a b:Key}(e:kD a=kD b):a=b:=by
 cases a<;>cases b<;>cases e<;>rfl
theorem BM{H:Hp}:∀{m:List (Key×bo)}{m':List (Key×V)},HasM H m m'->HasV H (m.map fun p=>(kD p.1,p.2)) (m'.map (·.2))/\m'.map (fun p=>kD p.1)=m.map fun p=>kD p.1
 | [],m',q=>by rw[show m'=[]from q];exact⟨AE.mpr rfl,rfl⟩
 |p::r,m',⟨v,t,e,q,l⟩=>by
  subst e;obtain⟨z1,z2⟩:=BM l;exact⟨CD.mpr ⟨v,_,rfl,q,z1⟩,by rw[jc,jc,z2]⟩
theorem B9{H:Hp}:∀{m:List (Key×bo)}{m':List (Key×V)},HasV H (m.map fun p=>(kD p.1,p.2)) (m'.map (·.2))->m.map (fun p=>kD p.1)=m'.map (fun p=>kD p.1)->HasM H m m'
 | [],[],_,_=>rfl
 | [],_::_,_,e=>by simp at e
 |_::_,[],_,e=>by simp at e
 |p::r,q::t,h,e=>by
  rw[jc,jc]at h;obtain⟨v,s,e1,e2,e3⟩:=CD.mp h;rw[List.cons.injEq]at e1;rw[jc,jc,List.cons.injEq]at e;have z:=GM e.1;obtain⟨q1,q2⟩:=q;refine⟨q2,t,by rw[z],?_,B9 (by rw[e1.2];exact e3) e.2⟩;have z1:q2=v:=e1.1;rw[z1];exact e2
theorem vZ{H:Hp}{m:List (Key×bo)}{v:V}:Has H (.dict (DD.pairs (.k m))) v↔∃a ob m',v=.ref a/\H a=some (.frz ob (.dK m'))/\HasM H m m':=by
 rw[sZ];constructor
 ·rintro⟨a,vs,rfl,⟨ob,m',e,e1,e2⟩|⟨ob,p,m',e,e1,e2⟩,l⟩
  rotate_left
  ·cases m with
   |nil=>cases e1
   |cons q r=>
    have z:=congrArg List.head? e1;simp only[DD.pairs,jc,List.head?_cons,Option.some.injEq]at z;cases h:q.1<;>rw[h]at z<;>cases z
  subst e2;refine⟨a,ob,m',rfl,e,B9 l ?_⟩;rw[<- e1];simp[DD.pairs]
 ·rintro⟨a,ob,m',rfl,e,l⟩;obtain⟨z1,z2⟩:=BM l;exact⟨a,_,rfl,.inl ⟨ob,m',e,by rw[z2];simp[DD.pairs],rfl⟩,z1⟩
abbrev DM:=List (Addr×DD)
def ad(M:DM):List Addr:=M.map (·.1)
structure RepM(h o:List Addr)(H:Hp)(M:DM):Prop where
 nd:(ad M).Nodup
 nh:∀a∈ad M,a∉h/\a∉o
 ct:∀a D,(a,D)∈M->DAt (vx (h++ad M) o H) H a D
section
variable {h o o':List Addr}{H H':Hp}{M:DM}{S:Sto}
theorem RepM.at(r:RepM h o H M){a:Addr}(m:a∈ad M):∃D,(a,D)∈M/\DAt (vx (h++ad M) o H) H a D:=by
 obtain⟨p,mp,e⟩:=mem_map.mp m;obtain⟨b,D⟩:=p;cases e;exact⟨D,mp,r.ct _ D mp⟩
theorem RepM.mono(r:RepM h o H M)(e:Ex o H o' H'):RepM h o' H' M:=by
 have k1:∀a∈ad M,∀u,H a=some u->a∉o'/\H' a=some u:=fun a m u z=>e.kp a u (r.nh a m).2 z;refine⟨r.nd,fun a m=>⟨(r.nh a m).1,?_⟩,fun a D m=>?_⟩
 ·obtain⟨D,_,q⟩:=r.at m;obtain⟨u,z⟩:=q.mo;exact(k1 a m _ z).1
 ·exact(r.ct a D m).mono e.vx fun u z=>(k1 a (mem_map.mpr ⟨_,m,rfl⟩) u z).2
theorem RepM.nil:RepM h o H []:=⟨nodup_nil,fun a m=>(by cases m),fun a D m=>(by cases m)⟩
def Gn(M:DM)(a:Addr)(D:DD):DM:=M.map fun p=>if p.1=a then (a,D)else p
end
end
section
structure DEndsM where
 nx:XE->Sto->DM->Prop
 rt:XV->Sto->DM->Prop
 bk:XE->Sto->DM->Prop:=fun _ _ _=>False
 ct:XE->Sto->DM->Prop:=fun _ _ _=>False
abbrev DSm:=DEndsM->XE->Sto->DM->Prop
def lF(dt:DS):DSm:=fun En δ S M=>dt { nx:=fun δ' S'=>En.nx δ' S' M,rt:=fun x S'=>En.rt x S' M,bk:=fun δ' S'=>En.bk δ' S' M,ct:=fun δ' S'=>En.ct δ' S' M } δ S
def nV(c:DM->DT)(t u:DSm):DSm:=fun En δ S M=>c M δ S fun b S1=>if b=true then t En δ S1 M else u En δ S1 M
def uV(g:DG)(b:DSm):List bo->DSm
 | [],E,δ,S,M=>E.nx δ S M
 |d::ds,E,δ,S,M=>g (.d d) δ S fun δ1 S1=>b { nx:=fun δ2 S2 M2=>uV g b ds E δ2 S2 M2,ct:=fun δ2 S2 M2=>uV g b ds E δ2 S2 M2,bk:=E.nx,rt:=E.rt } δ1 S1 M
def mO(i:DM->DI)(g:DG)(b:DSm):DSm:=fun En δ S M=>i M δ S fun ds S1=>uV g b ds En δ S1 M
def PhM(M:DM):Phi:=fun h' o H=>∃h,h'=h++ad M/\RepM h o H M
instance {M:DM}:Stb (PhM M):=⟨fun⟨h,e,r⟩ x=>⟨h,e,r.mono x⟩⟩
end
section
def FQ(a:Addr)(m:List (Key×bo)):XV->XV
 | .o (.ref b)=>if b=a then .d (.dict (DD.pairs (.k m)))else .o (.ref b)
 |x=>x
def nQ(f:Bool)(i:Nat)(D0:DD)(b:DSm):DSm:=fun En δ S M=>∀a,a∉ad M->b { nx:=(fun δ' S' M'=>if f=true then (∃M1 m,M'=M1++[(a,.k m)]/\δ'[i]?=some (some (.o (.ref a)))/\En.nx (δ'.map (Option.map (FQ a m))) S' M1)else (∃M1 D,M'=M1++[(a,D)]/\En.nx δ' S' M1)),rt:=(fun x S' M'=>∃M1 D,M'=M1++[(a,D)]/\En.rt x S' M1),bk:=(fun δ' S' M'=>∃M1 D,M'=M1++[(a,D)]/\En.bk δ' S' M1),ct:=(fun δ' S' M'=>∃M1 D,M'=M1++[(a,D)]/\En.ct δ' S' M1) } (δ.set i (some (.o (.ref a)))) S (M++[(a,D0)])
section
variable {E:XK}{EX:EXD}{tb:TS}{db:DSm}{i:Nat}
def lP(dt:DSm):DS:=fun En δ S=>dt { nx:=fun δ' S' _=>En.nx δ' S',rt:=fun x S' _=>En.rt x S',bk:=fun δ' S' _=>En.bk δ' S',ct:=fun δ' S' _=>En.ct δ' S' } δ S []
end
end
section
theorem v8{t:TE}{de:DE}(a:REp (PhM []) t de):RE t de:=fun h o H δ σ S R Q he hs q c=>a h o H δ σ S R Q he hs q c ⟨h,(km _).symm,RepM.nil⟩
def IsDD(M:DM)(x:XV)(D:DD):Prop:=(∃a,x=.o (.ref a)/\(a,D)∈M)\/∃m,D=.k m/\x=.d (.dict (DD.pairs (.k m)))
theorem Hh{M:DM}{h o:List Addr}{H:Hp}{x:XV}{D:DD}{v:V}(φ:PhM M h o H)(q:IsDD M x D)(hx:HasX h o H x v):∃a,v=.ref a/\RAt (vx h o H) H a D:=by
 rcases q with ⟨a,rfl,m⟩|⟨m,rfl,rfl⟩
 ·obtain⟨h0,rfl,rm⟩:=φ;exact⟨a,hx,(rm.ct a D m).rd⟩
 ·obtain⟨a,ob,m',rfl,e,l⟩:=vZ.mp (show Has _ _ v from hx);exact⟨a,rfl,m',.inr ⟨ob,bR _ _ e⟩,l⟩
def iI(M:DM)(dd dy:DE):DE:=fun δ S R=>dd δ S fun x S1=>dy δ S1 fun y S2=>asD y fun k=>∃D d,IsDD M x D/\D.get k=some (some d)/\R (.d d) S2
theorem Fp{M:DM}{td ty:TE}{dd dy:DE}(hd:REp (PhM M) td dd)(hy:REp (PhM M) ty dy):REp (PhM M) (xK td ty) (iI M dd dy):=fun h o H δ σ S R Q he hs q c w=>
 hd h o H δ σ S _ _ he hs q (fun o1 H1 S1 x v e1 s1 x1 d1=>hy h o1 H1 δ σ S1 _ _ (he.mono e1) s1 d1 (fun o2 H2 S2 y u e2 s2 y2 d2=>by
  obtain⟨k,rfl,D,d,hD,e,q⟩:=qB d2;obtain⟨a,rfl,da⟩:=Hh (Stb.st w (e1.trans e2)) hD (x1.mono e2);obtain⟨r',g,r2,rfl,h2⟩:=da.get bR y2 e;exact⟨a,r2,rfl,g,c o2 H2 S2 (.d d) r2 (e1.trans e2) s2 h2 q⟩) (Stb.st w e1)) w
end
end L2
namespace L2
open PySem PySem.Spec PySem.Calls PyProof.Rows
def DD.itemsD(m:List (Key×bo)):List bo:=m.map fun p=>.tuple [kD p.1,p.2]
def k9(e:DE):DI:=fun δ S R=>e δ S fun x S1=>∃m,x=.d (.dict (DD.pairs (.k m)))/\R (DD.itemsD m) S1
end L2
namespace L2
open PySem PyProof.Rows
def wJ:Bool->cq->Array cq->Nat->Nat->Nat->StateT fy Sem (Option Nat):=sortPriv% PySem.Builtin.gallop
def Id:Array cq->Array cq->StateT fy Sem (Array cq):=sortPriv% PySem.Builtin.mergeLo
def E6:Array cq->Array cq->StateT fy Sem (Array cq):=sortPriv% PySem.Builtin.mergeHi
structure LtOk(prog:fg)(w:ga)(A:fv)(E:bn->bp->Prop)(s:bp)(kd:ra)(D:cq->Prop)(lt:cq->cq->Bool):Prop where
 ask:∀x y (st:fy) (Q:Option Bool->fy->Prop),D x->D y->kindOf st=kd->Q (some (lt x y)) st->wpS (model prog w) A E s (lt' x y) Q st
 asym:∀x y,D x->D y->lt x y=true->lt y x=false
 tr:∀x y z,D x->D y->D z->lt y x=false->lt z y=false->lt z x=false
section
variable {prog:fg}{w:ga}{A:fv}{E:bn->bp->Prop}{s:bp}{kd:ra}{D:cq->Prop}{lt:cq->cq->Bool}
theorem zA{z:Array cq}{i:Nat}{x:cq}{Q:cq->fy->Prop}{st:fy}(h:z[i]?=some x)(q:Q x st):wpS (model prog w) A E s (elem' z i) Q st:=by
 rw[elem'_eq,h];exact bz q
def bey(lt:cq->cq->Bool)(left:Bool)(key x:cq):Bool:=if left=true then lt x key else !lt key x
theorem mP(O:LtOk prog w A E s kd D lt){left:Bool}{key x:cq}{z:Array cq}{i:Nat}{Q:Option Bool->fy->Prop}{st:fy}(hk:kindOf st=kd)(hD:D key)(hg:z[i]?=some x)(hx:D x)(q:Q (some (bey lt left key x)) st):
  wpS (model prog w) A E s (do
   let y <- elem' z i
   if left=true then lt' y key
    else do
     let r <- lt' key y
     pure (Option.map (fun b=>!b) r)) Q st:=by
 refine bw (zA hg ?_);unfold bey at q;by_cases h:left=true
 ·rw[ci h]at q ⊢;exact O.ask _ _ _ _ hx hD hk q
 ·rw[cg h]at q ⊢;exact bw (O.ask _ _ _ _ hD hx hk (bz q))
theorem CA{n:Nat}{p:Nat->Bool}{α:Type}{f:Nat->Option α×Nat×Nat->StateT fy Sem (ForInStep (Option α×Nat×Nat))}{Q:Option α×Nat×Nat->fy->Prop}{st:fy}
  (hf:∀x lo hi (Q':ForInStep (Option α×Nat×Nat)->fy->Prop),hi<=n->(hi<=lo->Q' (.done (none,lo,hi)) st)->(lo<hi->p (lo+(hi-lo)/2)=true->Q' (.yield (none,lo+(hi-lo)/2+1,hi)) st) ->
   (lo<hi->p (lo+(hi-lo)/2)=false->Q' (.yield (none,lo,lo+(hi-lo)/2)) st)->wpS (model prog w) A E s (f x (none,lo,hi)) Q' st)
  (hmono:∀i j,i<=j->j<n->p j=true->p i=true) {lo hi:Nat} (h1:lo<=hi) (h2:hi<=n) (h3:∀i,i<lo->p i=true) (h4:∀i,hi<=i->i<n->p i=false)
  (q:∀k,k<=n->(∀i,i<k->p i=true)->(∀i,k<=i->i<n->p i=false)->Q (none,k,k) st):wpS (model prog w) A E s (forIn [:n] (none,lo,hi) f) Q st:=by
 refine gf (I:=fun k c st'=>st'=st/\∃lo hi,c=(none,lo,hi)/\lo<=hi/\hi<=n/\hi-lo+k<=n/\(∀i,i<lo->p i=true)/\∀i,hi<=i->i<n->p i=false) ?step ?fin ⟨rfl,lo,hi,rfl,h1,h2,yw,h3,h4⟩
 case fin=>
  rintro c st' ⟨rfl,lo,hi,rfl,a1,a2,a3,a4,a5⟩;have:lo=hi:=yw
  subst this;exact q lo a2 a4 a5
 case step=>
  rintro k c st' _ ac ⟨rfl,lo,hi,rfl,a1,a2,a3,a4,a5⟩;refine hf k lo hi _ a2 (fun ae=>?_) (fun ab hp=>?_) fun ab hp=>?_
  ·have:lo=hi:=yw
   subst this;exact q lo a2 a4 a5
  ·refine⟨rfl,_,_,rfl,yw,a2,yw,fun i z=>?_,a5⟩;exact hmono i (lo+(hi-lo)/2) yw yw hp
  ·refine⟨rfl,_,_,rfl,yw,yw,yw,a4,fun i z aa=>?_⟩;cases hpi:p i with
   |false=>rfl
   |true=>rw[hmono (lo+(hi-lo)/2) i z aa hpi]at hp;cases hp
theorem DV(O:LtOk prog w A E s kd D lt){left:Bool}{key:cq}{ae:Array cq}{base n hint:Nat}{Q:Option Nat->fy->Prop}{st:fy}(hk:kindOf st=kd)(hD:D key)(g:Nat->cq)(hg:∀i,i<n->ae[base+i]?=some (g i))(aa:∀i,i<n->D (g i))
  (hmono:∀i j,i<=j->j<n->bey lt left key (g j)=true->bey lt left key (g i)=true) (hh:hint<n)
  (q:∀k,k<=n->(∀i,i<k->bey lt left key (g i)=true)->(∀i,k<=i->i<n->bey lt left key (g i)=false)->Q (some k) st):wpS (model prog w) A E s (wJ left key ae base n hint) Q st:=by
 have ac:∀i j,i<=j->j<n->bey lt left key (g i)=false->bey lt left key (g j)=false:=fun i j h1 h2 h3=>by
  cases h:bey lt left key (g j)with
  |false=>rfl
  |true=>rw[hmono i j h1 h2 h]at h3;cases h3
 refine bw (mP O hk hD (hg hint hh) (aa hint hh) ?_);cases hb:bey lt left key (g hint)with
 |true=>
  simp only[if_true];refine bw (ki (gf (I:=fun k c st'=>st'=st/\∃la z,c=(none,la,z)/\la<z/\k+1<=z/\hint+la<n/\bey lt left key (g (hint+la))=true)
   (Q:=fun c st'=>st'=st/\∃la z,c=(none,la,z)/\la<z/\hint+la<n/\bey lt left key (g (hint+la))=true/\(n-hint<=z\/(hint+z<n/\bey lt left key (g (hint+z))=false))) ?step ?fin ⟨rfl,0,1,rfl,yw,yw,yw,hb⟩) ?post)
  case step=>
   rintro k c st' _ af ⟨rfl,la,z,rfl,h1,h2,h3,h4⟩;by_cases ho:z≥n-hint
   ·rw[ci ho];exact bz ⟨rfl,la,z,rfl,h1,h3,h4,.inl ho⟩
   ·rw[cg ho];have hn:hint+z<n:=yw
    refine bw (mP O hk hD (hg _ hn) (aa _ hn) ?_);cases hb2:bey lt left key (g (hint+z))with
    |true=>exact bz ⟨rfl,z,2*z+1,rfl,yw,yw,hn,hb2⟩
    |false=>exact bz ⟨rfl,la,z,rfl,h1,h3,h4,.inr ⟨hn,hb2⟩⟩
  case fin=>
   rintro c st' ⟨rfl,la,z,rfl,h1,h2,h3,h4⟩;exact⟨rfl,la,z,rfl,h1,h3,h4,.inl yw⟩
  case post=>
   rintro c st' ⟨rfl,la,z,rfl,h1,h3,h4,h5⟩;dsimp only;refine bw (CA (p:=fun i=>bey lt left key (g i)) ?hf hmono yw yw (fun i hi=>hmono i (hint+la) yw h3 h4) (fun i hi ab=>?_) fun k k1 k2 k3=>?_)
   case hf=>
    intro x lo hi Q' hn e1 e2 e3;by_cases ho:lo≥hi
    ·rw[ci ho];exact bz (e1 ho)
    ·rw[cg ho];have hm:lo+(hi-lo)/2<n:=yw
     refine bw (mP O hk hD (hg _ hm) (aa _ hm) ?_);dsimp only;cases hb2:bey lt left key (g (lo+(hi-lo)/2))with
     |true=>exact bz (e2 yw hb2)
     |false=>exact bz (e3 yw hb2)
   ·rcases h5 with h5|⟨h5,h6⟩
    ·omega
    ·exact ac (hint+z) i yw ab h6
   ·exact bz (q k k1 k2 k3)
 |false=>
  simp only[dh,if_false];refine bw (ki (gf (I:=fun k c st'=>st'=st/\∃la z,c=(none,la,z)/\la<z/\k+1<=z/\la<=hint/\bey lt left key (g (hint-la))=false)
   (Q:=fun c st'=>st'=st/\∃la z,c=(none,la,z)/\la<z/\la<=hint/\bey lt left key (g (hint-la))=false/\(hint+1<=z\/(z<=hint/\bey lt left key (g (hint-z))=true))) ?step ?fin ⟨rfl,0,1,rfl,yw,yw,yw,hb⟩) ?post)
  case step=>
   rintro k c st' _ af ⟨rfl,la,z,rfl,h1,h2,h3,h4⟩;by_cases ho:z≥hint+1
   ·rw[ci ho];exact bz ⟨rfl,la,z,rfl,h1,h3,h4,.inl ho⟩
   ·rw[cg ho];have hn:hint-z<n:=yw
    refine bw (mP O hk hD (hg _ hn) (aa _ hn) ?_);cases hb2:bey lt left key (g (hint-z))with
    |true=>exact bz ⟨rfl,la,z,rfl,h1,h3,h4,.inr ⟨yw,hb2⟩⟩
    |false=>exact bz ⟨rfl,z,2*z+1,rfl,yw,yw,yw,hb2⟩
  case fin=>
   rintro c st' ⟨rfl,la,z,rfl,h1,h2,h3,h4⟩;exact⟨rfl,la,z,rfl,h1,h3,h4,.inl yw⟩
  case post=>
   rintro c st' ⟨rfl,la,z,rfl,h1,h3,h4,h5⟩;dsimp only;refine bw (CA (p:=fun i=>bey lt left key (g i)) ?hf hmono yw yw (fun i hi=>?_) (fun i hi ab=>ac (hint-la) i yw ab h4) fun k k1 k2 k3=>?_)
   case hf=>
    intro x lo hi Q' hn e1 e2 e3;by_cases ho:lo≥hi
    ·rw[ci ho];exact bz (e1 ho)
    ·rw[cg ho];have hm:lo+(hi-lo)/2<n:=yw
     refine bw (mP O hk hD (hg _ hm) (aa _ hm) ?_);dsimp only;cases hb2:bey lt left key (g (lo+(hi-lo)/2))with
     |true=>exact bz (e2 yw hb2)
     |false=>exact bz (e3 yw hb2)
   ·rcases h5 with h5|⟨h5,h6⟩
    ·omega
    ·exact hmono i (hint-z) yw yw h6
   ·exact bz (q k k1 k2 k3)
def SrtL(lt:cq->cq->Bool)(l:List cq):Prop:=l.Pairwise fun x y=>lt y x=false
structure MI(lt:cq->cq->Bool)(L0 out A B:List cq):Prop where
 pm:(out++(A++B)).Perm L0
 so:SrtL lt out
 le:∀x∈out,∀y∈A++B,lt y x=false
 sa:SrtL lt A
 sb:SrtL lt B
theorem AA{l:List cq}{x:cq}(h:SrtL lt l)(k:∀y∈l,lt x y=false):SrtL lt (l++[x]):=by
 unfold SrtL at *;rw[pairwise_append];exact⟨h,yv,fun y m z mz=>by rw[mem_singleton.mp mz];exact k y m⟩
theorem MI.takeA{L0 out A B:List cq}{x:cq}(h:MI lt L0 out (x::A) B)(k:∀y∈B,lt y x=false):MI lt L0 (out++[x]) A B:=by
 have sa:=h.sa;unfold SrtL at sa;rw[pairwise_cons]at sa;refine⟨by rw[kc];exact h.pm,AA h.so fun y m=>h.le y m x yv,fun z mz y my=>?_,sa.2,h.sb⟩;rcases mem_append.mp mz with mz|mz
 ·exact h.le z mz y (by rcases mem_append.mp my with m|m<;>simp[m])
 ·rw[mem_singleton.mp mz];rcases mem_append.mp my with m|m
  ·exact sa.1 y m
  ·exact k y m
theorem MI.takeB{L0 out A B:List cq}{y:cq}(h:MI lt L0 out A (y::B))(k:∀x∈A,lt x y=false):MI lt L0 (out++[y]) A B:=by
 have sb:=h.sb;unfold SrtL at sb;rw[pairwise_cons]at sb;refine⟨?_,AA h.so fun x m=>h.le x m y yv,fun z mz x mx=>?_,h.sa,sb.2⟩
 ·refine .trans ?_ h.pm;rw[kc];refine List.Perm.append_left _ ?_;exact(List.perm_middle (a:=y) (l₁:=A) (l₂:=B)).symm
 ·rcases mem_append.mp mz with mz|mz
  ·exact h.le z mz x (by rcases mem_append.mp mx with m|m<;>simp[m])
  ·rw[mem_singleton.mp mz];rcases mem_append.mp mx with m|m
   ·exact k x m
   ·exact sb.1 x m
theorem MI.takesA{L0:List cq}:∀{X out A B:List cq},MI lt L0 out (X++A) B->(∀x∈X,∀y∈B,lt y x=false)->MI lt L0 (out++X) A B
 | [],out,A,B,h,_=>by simpa using h
 |x::X,out,A,B,h,k=>by
  have:=MI.takesA (MI.takeA h (k x fi)) fun z m=>k z (fb _ m);simpa using this
theorem MI.takesB{L0:List cq}:∀{Y out A B:List cq},MI lt L0 out A (Y++B)->(∀y∈Y,∀x∈A,lt x y=false)->MI lt L0 (out++Y) A B
 | [],out,A,B,h,_=>by simpa using h
 |y::Y,out,A,B,h,k=>by
  have:=MI.takesB (MI.takeB h (k y fi)) fun z m=>k z (fb _ m);simpa using this
def MDone(lt:cq->cq->Bool)(L0 l:List cq):Prop:=l.Perm L0/\SrtL lt l
theorem MI.doneA{L0 out A:List cq}(h:MI lt L0 out A []):MDone lt L0 (out++A):=by
 refine⟨by simpa using h.pm,?_⟩;unfold SrtL;rw[pairwise_append];exact⟨h.so,h.sa,fun x m y m'=>h.le x m y (by simpa using m')⟩
theorem MI.lastA{L0 out B:List cq}{x:cq}(h:MI lt L0 out [x] B)(k:∀y∈B,lt x y=false):MDone lt L0 (out++B++[x]):=by
 have h2:MI lt L0 (out++B) [x] []:=MI.takesB (B:=[]) (by simpa using h) fun y m z mz=>by rw[mem_singleton.mp mz];exact k y m
 exact h2.doneA
def sameSt(st st':fy):Prop:=kindOf st'=kindOf st/\cf st'=cf st/\cr st'=cr st/\qo st'=qo st
theorem sameSt.rfl'{st:fy}:sameSt st st:=⟨rfl,rfl,rfl,rfl⟩
theorem LtOk.irr(O:LtOk prog w A E s kd D lt){x:cq}(h:D x):lt x x=false:=by
 cases e:lt x x with
 |false=>rfl
 |true=>rw[O.asym x x h h e]at e;cases e
theorem bY(O:LtOk prog w A E s kd D lt){l:List cq}(h:SrtL lt l)(hD:∀x∈l,D x){i j:Nat}{x y:cq}(ij:i<=j)(hx:l[i]?=some x)(hy:l[j]?=some y):lt y x=false:=by
 rcases Nat.lt_or_eq_of_le ij with h1|h1
 ·obtain⟨hi,ex⟩:=List.getElem?_eq_some_iff.mp hx;obtain⟨hj,ey⟩:=List.getElem?_eq_some_iff.mp hy;have:=List.pairwise_iff_getElem.mp h i j hi hj h1;rw[ex,ey]at this;exact this
 ·subst h1;rw[hx]at hy;cases hy;exact O.irr (hD x (bv hx))
theorem jB{l:List cq}{i:Nat}{x:cq}(h:l[i]?=some x):l.drop i=x::l.drop (i+1):=by
 obtain⟨hi,e⟩:=List.getElem?_eq_some_iff.mp h;rw[List.drop_eq_getElem_cons hi,e]
theorem bW{a:Array cq}{i:Nat}(h:i<a.size):∃x,a[i]?=some x/\a.toList[i]?=some x:=⟨a[i],by simp[h],by simp[h]⟩
theorem gF{l:List cq}{i:Nat}{y:cq}(h:y∈l.drop i):∃j,i<=j/\l[j]?=some y:=by
 obtain⟨j,hj⟩:=mem_iff_getElem?.mp h;rw[qm]at hj;exact⟨i+j,yw,hj⟩
structure MInv(lt:cq->cq->Bool)(a b out:Array cq)(ia ib:Nat):Prop where
 mi:MI lt (a.toList++b.toList) out.toList (a.toList.drop ia) (b.toList.drop ib)
 ha:ia+1<a.size
 hb:ib<b.size
section
variable {a b out:Array cq}{ia ib:Nat}
theorem MInv.stepB(O:LtOk prog w A E s kd D lt)(q:∀x∈a.toList,D x)(aa:∀x∈b.toList,D x)(ab:SrtL lt a.toList){x y:cq}(h:MInv lt a b out ia ib)(hx:a.toList[ia]?=some x)(hy:b.toList[ib]?=some y)(l:lt y x=true):
  MI lt (a.toList++b.toList) (out.push y).toList (a.toList.drop ia) (b.toList.drop (ib+1)):=by
 have m:=h.mi;rw[jB hy]at m;have:=m.takeB fun z mz=>by
  obtain⟨j,hj,ez⟩:=gF mz;have Dx:=q x (bv hx);have Dy:=aa y (bv hy);have Dz:=q z (bv ez);exact O.tr y x z Dy Dx Dz (O.asym y x Dy Dx l) (bY O ab q hj hx ez)
 simpa using this
theorem MInv.stepA(O:LtOk prog w A E s kd D lt)(aa:∀x∈a.toList,D x)(q:∀x∈b.toList,D x)(ab:SrtL lt b.toList){x y:cq}(h:MInv lt a b out ia ib)(hx:a.toList[ia]?=some x)(hy:b.toList[ib]?=some y)(l:lt y x=false):
  MI lt (a.toList++b.toList) (out.push x).toList (a.toList.drop (ia+1)) (b.toList.drop ib):=by
 have m:=h.mi;rw[jB hx]at m;have:=m.takeA fun z mz=>by
  obtain⟨j,hj,ez⟩:=gF mz;exact O.tr x y z (aa x (bv hx)) (q y (bv hy)) (q z (bv ez)) l (bY O ab q hj hy ez)
 simpa using this
theorem iV(a:Array cq)(i:Nat):(a.extract i a.size).toList=a.toList.drop i:=by
 rw[ml,jl,List.take_of_length_le yv]
theorem jI(q:ib=b.size)(m:MI lt (a.toList++b.toList) out.toList (a.toList.drop ia) (b.toList.drop ib)):MDone lt (a.toList++b.toList) (out++a.extract ia a.size++b.extract ib b.size).toList:=by
 have e:b.toList.drop ib=[]:=List.drop_of_length_le (by simp[q]);rw[ic,ic,iV,iV,e,km];rw[e]at m;exact m.doneA
theorem Dm(q:ia=a.size)(m:MI lt (a.toList++b.toList) out.toList (a.toList.drop ia) (b.toList.drop ib)):MDone lt (a.toList++b.toList) (out++a.extract ia a.size++b.extract ib b.size).toList:=by
 have e:a.toList.drop ia=[]:=List.drop_of_length_le (by simp[q]);rw[ic,ic,iV,iV,e,km];rw[e]at m;have h2:MI lt (a.toList++b.toList) (out.toList++b.toList.drop ib) [] []:=MI.takesB (B:=[]) (by simpa using m) (fun y my x mx=>by cases mx);have:=h2.doneA;simpa using this
theorem g4(hl:∀x,a[a.size-1]?=some x->∀y∈b.toList,lt x y=false)(h1:ia+1=a.size)(m:MI lt (a.toList++b.toList) out.toList (a.toList.drop ia) (b.toList.drop ib)):MDone lt (a.toList++b.toList) (out++b.extract ib b.size++a.extract ia a.size).toList:=by
 obtain⟨x,e1,e2⟩:=bW (a:=a) (i:=ia) yw;have ed:a.toList.drop ia=[x]:=by
  rw[jB e2,List.drop_of_length_le (by simp;omega)]
 rw[ed]at m;have hx:=hl x (by rw[show a.size-1=ia by omega];exact e1);have:=m.lastA fun y my=>hx y (qr my);rw[ic,ic,iV,iV,ed];exact this
end
theorem gal(O:LtOk prog w A E s kd D lt){left:Bool}{key:cq}{z:Array cq}{base n hint:Nat}{Q:Option Nat->fy->Prop}{st:fy}(hk:kindOf st=kd)(Dk:D key)(hD:∀j,base<=j->j<base+n->∃x,z[j]?=some x/\D x)
  (hs:∀i j x y,base<=i->i<=j->j<base+n->z[i]?=some x->z[j]?=some y->lt y x=false) (hh:hint<n)
  (q:∀k,k<=n->(∀j x,base<=j->j<base+k->z[j]?=some x->bey lt left key x=true)->(∀j x,base+k<=j->j<base+n->z[j]?=some x->bey lt left key x=false)->Q (some k) st):wpS (model prog w) A E s (wJ left key z base n hint) Q st:=by
 have hg:∀i,i<n->z[base+i]?=some ((z[base+i]?).getD key):=fun i hi=>by
  obtain⟨x,e,_⟩:=hD (base+i) yw yw;rw[e];rfl
 have aa:∀i,i<n->D ((z[base+i]?).getD key):=fun i hi=>by
  obtain⟨x,e,d⟩:=hD (base+i) yw yw;rw[e];exact d
 refine DV O hk Dk (fun i=>(z[base+i]?).getD key) hg aa (fun i j ac hj hb=>?_) hh fun k k1 k2 k3=>q k k1 (fun j x h1 h2 e=>?_) fun j x h1 h2 e=>?_
 ·have s1:=hs (base+i) (base+j) _ _ yw yw yw (hg i yw) (hg j hj);have Di:=aa i yw;have Dj:=aa j hj
  try dsimp only at hb ⊢
  generalize (z[base+i]?).getD key=x at s1 Di ⊢;generalize (z[base+j]?).getD key=y at s1 Dj hb;cases left with
  |true=>
   unfold bey at hb ⊢;rw[ci rfl]at hb ⊢;cases hx:lt x key with
   |true=>rfl
   |false=>rw[O.tr key x y Dk Di Dj hx s1]at hb;cases hb
  |false=>
   unfold bey at hb ⊢;rw[cg dz]at hb ⊢;have ab:lt key y=false:=by simpa using hb
   rw[O.tr x y key Di Dj Dk s1 ab];rfl
 ·have:=k2 (j-base) yw
  try dsimp only at this
  rw[show base+(j-base)=j by omega,e]at this;exact this
 ·have:=k3 (j-base) yw yw
  try dsimp only at this
  rw[show base+(j-base)=j by omega,e]at this;exact this
theorem uU{a:Array cq}{i k:Nat}:(a.extract i (i+k)).toList=(a.toList.drop i).take k:=by
 rw[ml,jl,Nat.add_sub_cancel_left]
theorem pU{l:List cq}{i k:Nat}{x:cq}(h:x∈(l.drop i).take k):∃j,i<=j/\j<i+k/\l[j]?=some x:=by
 obtain⟨j,hj⟩:=mem_iff_getElem?.mp h;rw[qk]at hj;split at hj
 ·rw[qm]at hj;exact⟨i+j,yw,yw,hj⟩
 ·cases hj
theorem jE(a:Array cq)(i:Nat):a.extract i (i+0) = #[]:=by
 apply Array.toList_inj.mp;rw[uU,take_zero]
section
variable {a b out:Array cq}{ia ib k:Nat}{L0:List cq}
theorem Fk(m:MI lt L0 out.toList (a.toList.drop ia) (b.toList.drop ib))(h:∀j x,ia<=j->j<ia+k->a.toList[j]?=some x->∀y∈b.toList.drop ib,lt y x=false):MI lt L0 (out++a.extract ia (ia+k)).toList (a.toList.drop (ia+k)) (b.toList.drop ib):=by
 rw[ic,uU];refine MI.takesA ?_ fun x mx y my=>?_
 ·rw[<- List.drop_drop,ky];exact m
 ·obtain⟨j,h1,h2,e⟩:=pU mx;exact h j x h1 h2 e y my
theorem BI(m:MI lt L0 out.toList (a.toList.drop ia) (b.toList.drop ib))(h:∀j y,ib<=j->j<ib+k->b.toList[j]?=some y->∀x∈a.toList.drop ia,lt x y=false):MI lt L0 (out++b.extract ib (ib+k)).toList (a.toList.drop ia) (b.toList.drop (ib+k)):=by
 rw[ic,uU];refine MI.takesB ?_ fun x mx y my=>?_
 ·rw[<- List.drop_drop,ky];exact m
 ·obtain⟨j,h1,h2,e⟩:=pU mx;exact h j x h1 h2 e y my
theorem qJ(m:MI lt L0 out.toList (a.toList.drop ia) (b.toList.drop ib)){x:cq}(hx:a.toList[ia]?=some x)(h:∀y∈b.toList.drop ib,lt y x=false):MI lt L0 (out.push x).toList (a.toList.drop (ia+1)) (b.toList.drop ib):=by
 rw[jB hx]at m;have:=m.takeA h;simpa using this
theorem wP(m:MI lt L0 out.toList (a.toList.drop ia) (b.toList.drop ib)){y:cq}(hy:b.toList[ib]?=some y)(h:∀x∈a.toList.drop ia,lt x y=false):MI lt L0 (out.push y).toList (a.toList.drop ia) (b.toList.drop (ib+1)):=by
 rw[jB hy]at m;have:=m.takeB h;simpa using this
end
theorem zV{a:Array cq}{i:Nat}{x:cq}:a[i]?=some x↔a.toList[i]?=some x:=by simp
theorem fin3{prog:fg}{w:ga}{A:fv}{E:bn->bp->Prop}{s:bp}{τ:Type}{P C:Prop}{_:Decidable P}{f g:StateT fy Sem τ}{Q':τ->fy->Prop}{st':fy}(hf:C->wpS (model prog w) A E s f Q' st')(hg:C->wpS (model prog w) A E s g Q' st')(h:C):wpS (model prog w) A E s (if P then f else g) Q' st':=by
 split
 ·exact hf h
 ·exact hg h
theorem GW(O:LtOk prog w A E s kd D lt){a b:Array cq}{Q:Array cq->fy->Prop}{st:fy}(hk:kindOf st=kd)(ay:∀x∈a.toList,D x)(a0:∀x∈b.toList,D x)(ha:SrtL lt a.toList)(hb:SrtL lt b.toList)(aa:1<=a.size)(ab:1<=b.size)
  (h0:∀y,b[0]?=some y->∀x∈a.toList,lt x y=false) (hl:∀x,a[a.size-1]?=some x->∀y∈b.toList,lt x y=false)
  (q:∀(out:Array cq) st',MDone lt (a.toList++b.toList) out.toList->sameSt st st'->Q out st'):wpS (model prog w) A E s (Id a b) Q st:=by
 refine bw (wpS_lift (kn ⟨rfl,?_⟩));obtain⟨y0,bh,bg⟩:=bW (a:=b) (i:=0) (by clear aa;omega);refine bw (zA bh ?_);have m0:MI lt (a.toList++b.toList) [] a.toList b.toList:=⟨oo _,List.Pairwise.nil,(fun x m=>by cases m),ha,hb⟩;have m1:MI lt (a.toList++b.toList) (#[y0]:Array cq).toList (a.toList.drop 0) (b.toList.drop 1):=by
  have e:b.toList=y0::b.toList.drop 1:=by have:=jB bg;simpa using this
  have m2:MI lt (a.toList++b.toList) [] a.toList (y0::b.toList.drop 1):=by
   have:=m0
   conv at this=>arg 5;rw[e]
   exact this
  have:=m2.takeB (h0 y0 bh);simpa using this
 by_cases c1:1=b.size
 ·rw[ci (by simpa using c1)];exact bz (q _ _ (jI c1 m1) sameSt.rfl')
 rw[cg (by simpa using c1)];by_cases c2:0+1=a.size
 ·rw[ci (by simpa using c2)];exact bz (q _ _ (g4 hl c2 m1) sameSt.rfl')
 rw[cg (by simpa using c2)];refine bw (qv ?_);have bf:∀{out:Array cq}{ia ib:Nat},MInv lt a b out ia ib->ia+ib<a.size+b.size:=fun h=>by have:=h.ha;have:=h.hb;(clear c2 c1 ab aa;omega)
 refine bw (ki (gf
  (I:=fun k c st'=>sameSt st st'/\∃out ia ib mg,c=(none,out,ia,ib,mg)/\MInv lt a b out ia ib/\k<ia+ib)
  (Q:=fun c st'=>sameSt st st'/\∃r rest,c=(some r,rest)/\MDone lt (a.toList++b.toList) r.toList) ?step ?fin ⟨sameSt.rfl',#[y0],0,1,_,rfl,⟨m1,by clear c1 ab;omega,by clear c2 aa;omega⟩,by clear c2 c1 ab aa;omega⟩) ?post)
 case fin=>
  rintro c st' ⟨a8,out,ia,ib,mg,rfl,hm,af⟩;have:=bf hm
  (clear c2 c1 ab aa;omega)
 case post=>
  rintro c st' ⟨a8,r,rest,rfl,hd⟩;exact bz (q r st' hd a8)
 case step=>
  rintro k c st' _ ae ⟨a8,out,ia,ib,mg,rfl,hm,af⟩;refine bw (ki (gf
   (I:=fun j c st'=>sameSt st st'/\∃as ar aq ac bc,c=(none,as,ar,aq,ac,bc)/\MInv lt a b as ar aq/\j+(ia+ib)<=ar+aq)
   (Q:=fun c st'=>sameSt st st'/\((∃r rest,c=(some r,rest)/\MDone lt (a.toList++b.toList) r.toList)\/∃as ar aq ac bc,c=(none,as,ar,aq,ac,bc)/\MInv lt a b as ar aq/\ia+ib<ar+aq)) ?step1 ?fin1 ⟨a8,out,ia,ib,0,0,rfl,hm,by clear af ae c2 c1 ab aa;omega⟩) ?post1)
  case fin1=>
   rintro c a9 ⟨av,as,ar,aq,ac,bc,rfl,az,ah⟩;have:=bf az
   (clear af ae c2 c1 ab aa;omega)
  case step1=>
   rintro j c a9 _ hj ⟨av,as,ar,aq,ac,bc,rfl,az,ah⟩;obtain⟨y,ey,a2⟩:=bW (a:=b) (i:=aq) az.hb;obtain⟨x,ex,ex'⟩:=bW (a:=a) (i:=ar) (by have:=az.ha;(clear ah hj af ae c2 c1 ab aa;omega));have Dx:=ay x (bv ex');have Dy:=a0 y (bv a2);have am:kindOf a9=kd:=av.1.trans hk;refine bw (zA ey (bw (zA ex (bw (O.ask y x a9 _ Dy Dx am ?_)))));cases hlt2:lt y x with
   |true=>
    have ms:=az.stepB O ay a0 ha ex' a2 hlt2;simp only[if_true];refine bw (zA ey ?_);by_cases c3:aq+1=b.size
    ·rw[ci (by simpa using c3)];exact bz ⟨av,.inl ⟨_,_,rfl,jI c3 ms⟩⟩
    ·rw[cg (by simpa using c3)];have ax:MInv lt a b (as.push y) ar (aq+1):=⟨ms,az.ha,by have:=az.hb;(clear ah hj af ae c2 c1 ab aa;omega)⟩;by_cases c4:bc+1≥mg
     ·rw[ci c4];exact bz ⟨av,.inr ⟨_,_,_,_,_,rfl,ax,by clear c4 c3 hj af ae c2 c1 ab aa;omega⟩⟩
     ·rw[cg c4];exact bz ⟨av,_,_,_,_,_,rfl,ax,by clear c4 c3 hj af ae c2 c1 ab aa;omega⟩
   |false=>
    have ms:=az.stepA O ay a0 hb ex' a2 hlt2;simp only[dh,if_false];refine bw (zA ex ?_);by_cases c3:ar+1+1=a.size
    ·rw[ci (by simpa using c3)];exact bz ⟨av,.inl ⟨_,_,rfl,g4 hl c3 ms⟩⟩
    ·rw[cg (by simpa using c3)];have ax:MInv lt a b (as.push x) (ar+1) aq:=⟨ms,by have:=az.ha;(clear ah hj af ae c2 c1 ab aa;omega),az.hb⟩;by_cases c4:ac+1≥mg
     ·rw[ci c4];exact bz ⟨av,.inr ⟨_,_,_,_,_,rfl,ax,by clear c4 c3 hj af ae c2 c1 ab aa;omega⟩⟩
     ·rw[cg c4];exact bz ⟨av,_,_,_,_,_,rfl,ax,by clear c4 c3 hj af ae c2 c1 ab aa;omega⟩
  case post1=>
   rintro c a9 ⟨av,hc⟩;rcases hc with ⟨r,rest,rfl,hd⟩|⟨as,ar,aq,ac,bc,rfl,az,ah⟩
   ·dsimp only;exact bz ⟨av,_,_,rfl,hd⟩
   ·dsimp only;refine bw (wpS_lift (kn ⟨rfl,?_⟩));refine bw (ki (gf
     (I:=fun j c st'=>sameSt st st'/\∃ap an ao a3 a6 a5,c=(none,ap,an,ao,a3,a6,a5)/\MInv lt a b ap an ao/\j+(ar+aq)<=an+ao)
     (Q:=fun c st'=>sameSt st st'/\((∃r rest,c=(some r,rest)/\MDone lt (a.toList++b.toList) r.toList)\/∃ap an ao a3 a6 a5,c=(none,ap,an,ao,a3,a6,a5)/\MInv lt a b ap an ao/\ar+aq<=an+ao)) ?step2 ?a1 ⟨av,as,ar,aq,_,_,_,rfl,az,by clear ah af ae c2 c1 ab aa;omega⟩) ?post2)
    case a1=>
     rintro c be ⟨au,ap,an,ao,a3,a6,a5,rfl,ax,ag⟩;have:=bf ax
     (clear ah af ae c2 c1 ab aa;omega)
    case post2=>
     rintro c be ⟨au,hc⟩;rcases hc with ⟨r,rest,rfl,hd⟩|⟨ap,an,ao,a3,a6,a5,rfl,ax,ag⟩
     ·dsimp only;exact bz ⟨au,_,_,rfl,hd⟩
     ·dsimp only;refine bw (kz (bz ⟨⟨au.1,au.2.1,au.2.2.1,au.2.2.2⟩,ap,an,ao,_,rfl,ax,by clear ae c2 c1 ab aa;omega⟩))
    case step2=>
     rintro j c be _ hj ⟨au,ap,an,ao,a3,a6,a5,rfl,ax,ag⟩;obtain⟨y,ey,a2⟩:=bW (a:=b) (i:=ao) ax.hb;have ai:=ax.ha;have aj:=ax.hb;have Dy:=a0 y (bv a2);have aD:∀j,j<a.size->∃x,a[j]?=some x/\D x:=fun j hj=>by
      obtain⟨x,e,e'⟩:=bW (a:=a) hj;exact⟨x,e,ay x (bv e')⟩
     have bD:∀j,j<b.size->∃x,b[j]?=some x/\D x:=fun j hj=>by
      obtain⟨x,e,e'⟩:=bW (a:=b) hj;exact⟨x,e,a0 x (bv e')⟩
     dsimp only;have a1:∀(P:Prop) (_:Decidable P) (f g:StateT fy Sem (ForInStep (Option (Array cq)×Array cq×Nat×Nat×Nat×Nat×Nat))) (Q':ForInStep (Option (Array cq)×Array cq×Nat×Nat×Nat×Nat×Nat)->fy->Prop) (st':fy),wpS (model prog w) A E s f Q' st'->wpS (model prog w) A E s g Q' st'->wpS (model prog w) A E s (if P then f else g) Q' st':=fun P _ f g Q' st' h1 h2=>by
      split
      ·exact h1
      ·exact h2
     refine fin3 (C:=?C3) ?f3 ?g3 ?h3
     case f3=>intro h;generalize a3-1=m0;revert m0;exact h
     case g3=>intro h;generalize a3=m0;revert m0;exact h
     intro m0
     all_goals
      refine bw (kz ?_);refine bw (zA ey ?_);refine bw (gal O (au.1.trans hk) Dy (fun j h1 h2=>aD j (by clear h1 aj ag hj ah af ae c2 c1 ab aa;omega)) (fun i j x z h1 h2 h3 e1 e2=>bY O ha ay h2 (zV.mp e1) (zV.mp e2)) (by clear aj ag hj ah af ae c2 c1 ab aa;omega) fun k1 ak g1 g2=>?_);dsimp only;have al:sameSt st be:=au
      have bl:MI lt (a.toList++b.toList) (ap++a.extract an (an+k1)).toList (a.toList.drop (an+k1)) (b.toList.drop ao):=Fk ax.mi fun j x h1 h2 e z mz=>by
       have:=g1 j x h1 h2 (zV.mpr e);obtain⟨j2,aw,ez⟩:=gF mz;have l1:lt y x=false:=by simpa[bey]using this
       exact O.tr x y z (ay x (bv e)) Dy (a0 z (bv ez)) l1 (bY O hb a0 aw a2 ez)
      have gt:∀x∈a.toList.drop (an+k1),lt x y=false:=fun x mx=>by
       obtain⟨j2,aw,ex⟩:=gF mx;have a4:=(List.getElem?_eq_some_iff.mp ex).1;have:=g2 j2 x aw (by simp at a4;(clear aw ak aj ai ag hj ah af ae c2 c1 ab aa;omega)) (zV.mpr ex);have l1:lt y x=true:=by simpa[bey]using this
       exact O.asym y x Dy (ay x (bv ex)) l1
      have bi:k1=0->(ap++a.extract an (an+k1))=ap:=fun z=>by subst z;rw[jE,Array.append_empty]
      have go:∀(outA:Array cq) (iaA:Nat) (mgA acA:Nat),MI lt (a.toList++b.toList) outA.toList (a.toList.drop iaA) (b.toList.drop ao)->(∀x∈a.toList.drop iaA,lt x y=false)->an<=iaA->iaA+1<a.size->True:=fun _ _ _ _ _ _ _ _=>trivial;by_cases c5:k1>0
      ·rw[ci c5];by_cases c6:an+k1+1=a.size
       ·rw[ci (by simpa using c6)];exact bz ⟨al,.inl ⟨_,_,rfl,g4 hl c6 bl⟩⟩
       rw[cg (by simpa using c6)];by_cases c7:an+k1=a.size
       ·rw[ci (by simpa using c7)];exact bz ⟨al,.inl ⟨_,_,rfl,Dm c7 bl⟩⟩
       rw[cg (by simpa using c7)];refine bw (zA ey ?_);have mb:=wP bl a2 gt;by_cases d1:ao+1=b.size
       ·rw[ci (by simpa using d1)];exact bz ⟨al,.inl ⟨_,_,rfl,jI d1 mb⟩⟩
       rw[cg (by simpa using d1)];obtain⟨x,ex,ex'⟩:=bW (a:=a) (i:=(an+k1)) (by clear d1 c6 c5 aj ag hj ah af ae c2 c1 ab aa;omega);have Dx:=ay x (bv ex');refine bw (zA ex ?_);refine bw (gal O (au.1.trans hk) Dx (fun j h1 h2=>bD j (by clear h1 d1 c7 c6 c5 ak ai ag hj ah af ae c2 c1 ab aa;omega)) (fun i j x z h1 h2 h3 e1 e2=>bY O hb a0 h2 (zV.mp e1) (zV.mp e2)) (by clear c7 c6 c5 ak ai ag hj ah af ae c2 c1 ab aa;omega) fun k2 am f1 f2=>?_);dsimp only;have bb:=BI (k:=k2) mb fun j z h1 h2 e x2 ba=>by
        have:=f1 j z h1 h2 (zV.mpr e);obtain⟨j2,aw,a7⟩:=gF ba;have Dz:=a0 z (bv e);have l1:lt z x=true:=by simpa[bey]using this
        exact O.tr z x x2 Dz Dx (ay x2 (bv a7)) (O.asym z x Dz Dx l1) (bY O ha ay aw ex' a7)
       have gb:∀z∈b.toList.drop (ao+1+k2),lt z x=false:=fun z mz=>by
        obtain⟨j2,aw,ez⟩:=gF mz;have a4:=(List.getElem?_eq_some_iff.mp ez).1;have:=f2 j2 z aw (by simp at a4;(clear aw am d1 c7 c6 c5 ak aj ai ag hj ah af ae c2 c1 ab aa;omega)) (zV.mpr ez);simpa[bey]using this
       by_cases d2:k2>0
       ·rw[ci d2];by_cases d3:ao+1+k2=b.size
        ·rw[ci (by simpa using d3)];exact bz ⟨al,.inl ⟨_,_,rfl,jI d3 bb⟩⟩
        rw[cg (by simpa using d3)];refine bw (zA ex ?_);have mf:=qJ bb ex' gb;by_cases d4:(an+k1)+1+1=a.size
        ·rw[ci (by simpa using d4)];exact bz ⟨al,.inl ⟨_,_,rfl,g4 hl d4 mf⟩⟩
        rw[cg (by simpa using d4)];refine a1 _ _ _ _ _ _ ?_ ?_
        ·exact bz ⟨al,.inr ⟨_,_,_,_,_,_,rfl,⟨mf,by clear d3 d2 am d1 c5 aj ag hj ah af ae c2 c1 ab aa;omega,by clear d4 d2 d1 c7 c6 c5 ak ai ag hj ah af ae c2 c1 ab aa;omega⟩,by clear d4 d3 d2 am d1 c7 c6 c5 ak aj ai hj ah af ae c2 c1 ab aa;omega⟩⟩
        ·exact bz ⟨al,_,_,_,_,_,_,rfl,⟨mf,by clear d3 d2 am d1 c5 aj ag hj ah af ae c2 c1 ab aa;omega,by clear d4 d2 d1 c7 c6 c5 ak ai ag hj ah af ae c2 c1 ab aa;omega⟩,by clear d4 d3 d2 am d1 c7 c6 c5 ak aj ai hj ah af ae c2 c1 ab aa;omega⟩
       ·rw[cg d2];have bd:k2=0:=by clear am d1 c7 c6 c5 ak aj ai ag hj ah af ae c2 c1 ab aa;omega
        subst bd;have ee:∀o:Array cq,o++b.extract (ao+1) (ao+1+0)=o:=fun o=>by rw[jE,Array.append_empty]
        rw[ee,rb]at bb;rw[rb]at gb;refine bw (zA ex ?_);have mf:=qJ bb ex' gb;by_cases d4:(an+k1)+1+1=a.size
        ·rw[ci (by simpa using d4)];exact bz ⟨al,.inl ⟨_,_,rfl,g4 hl d4 mf⟩⟩
        rw[cg (by simpa using d4)];refine a1 _ _ _ _ _ _ ?_ ?_
        ·exact bz ⟨al,.inr ⟨_,_,_,_,_,_,rfl,⟨mf,by clear d2 am d1 c5 aj ag hj ah af ae c2 c1 ab aa;omega,by clear d4 d2 am c7 c6 c5 ak ai ag hj ah af ae c2 c1 ab aa;omega⟩,by clear d4 d2 am d1 c7 c6 c5 ak aj ai hj ah af ae c2 c1 ab aa;omega⟩⟩
        ·exact bz ⟨al,_,_,_,_,_,_,rfl,⟨mf,by clear d2 am d1 c5 aj ag hj ah af ae c2 c1 ab aa;omega,by clear d4 d2 am c7 c6 c5 ak ai ag hj ah af ae c2 c1 ab aa;omega⟩,by clear d4 d2 am d1 c7 c6 c5 ak aj ai hj ah af ae c2 c1 ab aa;omega⟩
      ·rw[cg c5];have k0:k1=0:=by clear ak aj ai ag hj ah af ae c2 c1 ab aa;omega
       subst k0;rw[bi rfl,rb]at bl;rw[rb]at gt;refine bw (zA ey ?_);have mb:=wP bl a2 gt;by_cases d1:ao+1=b.size
       ·rw[ci (by simpa using d1)];exact bz ⟨al,.inl ⟨_,_,rfl,jI d1 mb⟩⟩
       rw[cg (by simpa using d1)];obtain⟨x,ex,ex'⟩:=bW (a:=a) (i:=an) (by clear d1 c5 ak aj ag hj ah af ae c2 c1 ab aa;omega);have Dx:=ay x (bv ex');refine bw (zA ex ?_);refine bw (gal O (au.1.trans hk) Dx (fun j h1 h2=>bD j (by clear h1 d1 c5 ak ai ag hj ah af ae c2 c1 ab aa;omega)) (fun i j x z h1 h2 h3 e1 e2=>bY O hb a0 h2 (zV.mp e1) (zV.mp e2)) (by clear c5 ak ai ag hj ah af ae c2 c1 ab aa;omega) fun k2 am f1 f2=>?_);dsimp only;have bb:=BI (k:=k2) mb fun j z h1 h2 e x2 ba=>by
        have:=f1 j z h1 h2 (zV.mpr e);obtain⟨j2,aw,a7⟩:=gF ba;have Dz:=a0 z (bv e);have l1:lt z x=true:=by simpa[bey]using this
        exact O.tr z x x2 Dz Dx (ay x2 (bv a7)) (O.asym z x Dz Dx l1) (bY O ha ay aw ex' a7)
       have gb:∀z∈b.toList.drop (ao+1+k2),lt z x=false:=fun z mz=>by
        obtain⟨j2,aw,ez⟩:=gF mz;have a4:=(List.getElem?_eq_some_iff.mp ez).1;have:=f2 j2 z aw (by simp at a4;(clear aw am d1 c5 ak aj ai ag hj ah af ae c2 c1 ab aa;omega)) (zV.mpr ez);simpa[bey]using this
       by_cases d2:k2>0
       ·rw[ci d2];by_cases d3:ao+1+k2=b.size
        ·rw[ci (by simpa using d3)];exact bz ⟨al,.inl ⟨_,_,rfl,jI d3 bb⟩⟩
        rw[cg (by simpa using d3)];refine bw (zA ex ?_);have mf:=qJ bb ex' gb;by_cases d4:an+1+1=a.size
        ·rw[ci (by simpa using d4)];exact bz ⟨al,.inl ⟨_,_,rfl,g4 hl d4 mf⟩⟩
        rw[cg (by simpa using d4)];refine a1 _ _ _ _ _ _ ?_ ?_
        ·exact bz ⟨al,.inr ⟨_,_,_,_,_,_,rfl,⟨mf,by clear d3 d2 am d1 c5 ak aj ag hj ah af ae c2 c1 ab aa;omega,by clear d4 d2 d1 c5 ak ai ag hj ah af ae c2 c1 ab aa;omega⟩,by clear d4 d3 d2 am d1 c5 ak aj ai hj ah af ae c2 c1 ab aa;omega⟩⟩
        ·exact bz ⟨al,_,_,_,_,_,_,rfl,⟨mf,by clear d3 d2 am d1 c5 ak aj ag hj ah af ae c2 c1 ab aa;omega,by clear d4 d2 d1 c5 ak ai ag hj ah af ae c2 c1 ab aa;omega⟩,by clear d4 d3 d2 am d1 c5 ak aj ai hj ah af ae c2 c1 ab aa;omega⟩
       ·rw[cg d2];have bd:k2=0:=by clear am d1 c5 ak aj ai ag hj ah af ae c2 c1 ab aa;omega
        subst bd;have ee:∀o:Array cq,o++b.extract (ao+1) (ao+1+0)=o:=fun o=>by rw[jE,Array.append_empty]
        rw[ee,rb]at bb;rw[rb]at gb;refine bw (zA ex ?_);have mf:=qJ bb ex' gb;by_cases d4:an+1+1=a.size
        ·rw[ci (by simpa using d4)];exact bz ⟨al,.inl ⟨_,_,rfl,g4 hl d4 mf⟩⟩
        rw[cg (by simpa using d4)];refine a1 _ _ _ _ _ _ ?_ ?_
        ·exact bz ⟨al,.inr ⟨_,_,_,_,_,_,rfl,⟨mf,by clear d2 am d1 c5 ak aj ag hj ah af ae c2 c1 ab aa;omega,by clear d4 d2 am c5 ak ai ag hj ah af ae c2 c1 ab aa;omega⟩,by clear d4 d2 am d1 c5 ak aj ai hj ah af ae c2 c1 ab aa;omega⟩⟩
        ·exact bz ⟨al,_,_,_,_,_,_,rfl,⟨mf,by clear d2 am d1 c5 ak aj ag hj ah af ae c2 c1 ab aa;omega,by clear d4 d2 am c5 ak ai ag hj ah af ae c2 c1 ab aa;omega⟩,by clear d4 d2 am d1 c5 ak aj ai hj ah af ae c2 c1 ab aa;omega⟩
def flt(lt:cq->cq->Bool):cq->cq->Bool:=fun x y=>lt y x
theorem MDone.rev{L0 l:List cq}(h:MDone (flt lt) L0 l):MDone lt L0 l.reverse:=by
 refine⟨(List.reverse_perm l).trans h.1,?_⟩;unfold SrtL;rw[List.pairwise_reverse];exact h.2
theorem rV{l:List cq}{i:Nat}{x:cq}(h:l[i]?=some x):(l.take (i+1)).reverse=x::(l.take i).reverse:=by
 rw[take_add_one,h];simp
theorem gM{l:List cq}{i:Nat}{y:cq}(h:y∈(l.take i).reverse):∃j,j<i/\l[j]?=some y:=by
 obtain⟨j,hj⟩:=mem_iff_getElem?.mp (mem_reverse.mp h);rw[qk]at hj;split at hj
 ·exact⟨j,by assumption,hj⟩
 ·cases hj
theorem jP(a:Array cq)(n:Nat):(a.extract 0 n).toList=a.toList.take n:=by
 rw[ml,jl];simp
theorem BS{l:List cq}(h:SrtL lt l)(n:Nat):SrtL (flt lt) (l.take n).reverse:=by
 unfold SrtL;rw[List.pairwise_reverse];exact List.Pairwise.sublist (List.take_sublist n l) h
section
variable {a b out:Array cq}{na nb k:Nat}{L0:List cq}
theorem uQ(m:MI (flt lt) L0 out.toList (a.toList.take (na+1)).reverse (b.toList.take nb).reverse){x:cq}(hx:a.toList[na]?=some x)(h:∀y∈(b.toList.take nb).reverse,lt x y=false):MI (flt lt) L0 (out.push x).toList (a.toList.take na).reverse (b.toList.take nb).reverse:=by
 rw[rV hx]at m;have:=m.takeA h;simpa using this
theorem yL(m:MI (flt lt) L0 out.toList (a.toList.take na).reverse (b.toList.take (nb+1)).reverse){y:cq}(hy:b.toList[nb]?=some y)(h:∀x∈(a.toList.take na).reverse,lt y x=false):MI (flt lt) L0 (out.push y).toList (a.toList.take na).reverse (b.toList.take nb).reverse:=by
 rw[rV hy]at m;have:=m.takeB h;simpa using this
theorem qT{n:Nat}(hn:n=na+1)(m:MI (flt lt) L0 out.toList (a.toList.take n).reverse (b.toList.take nb).reverse){x:cq}(hx:a.toList[na]?=some x)(h:∀y∈(b.toList.take nb).reverse,lt x y=false):MI (flt lt) L0 (out.push x).toList (a.toList.take na).reverse (b.toList.take nb).reverse:=by
 subst hn;exact uQ m hx h
theorem xY{n:Nat}(hn:n=nb+1)(m:MI (flt lt) L0 out.toList (a.toList.take na).reverse (b.toList.take n).reverse){y:cq}(hy:b.toList[nb]?=some y)(h:∀x∈(a.toList.take na).reverse,lt y x=false):MI (flt lt) L0 (out.push y).toList (a.toList.take na).reverse (b.toList.take nb).reverse:=by
 subst hn;exact yL m hy h
theorem wR{l:List cq}{i n:Nat}(h:i<=n):(l.take n).reverse=((l.drop i).take (n-i)).reverse++(l.take i).reverse:=by
 rw[<- List.reverse_append];congr 1;have:=List.take_add (l:=l) (i:=i) (j:=n-i);rw[show i+(n-i)=n by omega]at this;exact this
theorem AF(a:Array cq){i n:Nat}(h:i<=n):(a.extract i n).reverse.toList=((a.toList.drop i).take (n-i)).reverse:=by
 rw[Array.toList_reverse,ml,jl]
theorem GU(m:MI (flt lt) L0 out.toList (a.toList.take na).reverse (b.toList.take nb).reverse)(hk:k<=na)(h:∀j x,k<=j->j<na->a.toList[j]?=some x->∀y∈(b.toList.take nb).reverse,lt x y=false):MI (flt lt) L0 (out++(a.extract k na).reverse).toList (a.toList.take k).reverse (b.toList.take nb).reverse:=by
 rw[ic,AF a hk];rw[wR hk]at m;refine MI.takesA m fun x mx y my=>?_;obtain⟨j,h1,h2,e⟩:=pU (mem_reverse.mp mx);exact h j x h1 (by clear h1;omega) e y my
theorem A0(m:MI (flt lt) L0 out.toList (a.toList.take na).reverse (b.toList.take nb).reverse)(hk:k<=nb)(h:∀j y,k<=j->j<nb->b.toList[j]?=some y->∀x∈(a.toList.take na).reverse,lt y x=false):MI (flt lt) L0 (out++(b.extract k nb).reverse).toList (a.toList.take na).reverse (b.toList.take k).reverse:=by
 rw[ic,AF b hk];rw[wR hk]at m;refine MI.takesB m fun x mx y my=>?_;obtain⟨j,h1,h2,e⟩:=pU (mem_reverse.mp mx);exact h j x h1 yw e y my
theorem h9(h0:na=0)(m:MI (flt lt) L0 out.toList (a.toList.take na).reverse (b.toList.take nb).reverse):MDone lt L0 (a.extract 0 na++b.extract 0 nb++out.reverse).toList:=by
 subst h0;have h2:MI (flt lt) L0 (out.toList++(b.toList.take nb).reverse) [] []:=MI.takesB (B:=[]) (by simpa using m) (fun y my x mx=>by cases mx);have:=h2.doneA.rev;rw[ic,ic,jP,jP,Array.toList_reverse];simpa using this
theorem Bi(h0:nb=0)(m:MI (flt lt) L0 out.toList (a.toList.take na).reverse (b.toList.take nb).reverse):MDone lt L0 (a.extract 0 na++b.extract 0 nb++out.reverse).toList:=by
 subst h0;have h1:MI (flt lt) L0 out.toList (a.toList.take na).reverse []:=by simpa using m
 have:=h1.doneA.rev;rw[ic,ic,jP,jP,Array.toList_reverse];simpa using this
theorem jH(hf:∀y,b[0]?=some y->∀x∈a.toList,lt x y=false)(h1:nb=1)(q:1<=b.size)(m:MI (flt lt) L0 out.toList (a.toList.take na).reverse (b.toList.take nb).reverse):MDone lt L0 (b.extract 0 nb++a.extract 0 na++out.reverse).toList:=by
 subst h1;obtain⟨y,e1,e2⟩:=bW (a:=b) (i:=0) yw;have ed:(b.toList.take (0+1)).reverse=[y]:=by rw[rV e2];simp
 rw[show (1:Nat)=0+1 from rfl,ed]at m;have h2:MI (flt lt) L0 (out.toList++(a.toList.take na).reverse) [] [y]:=MI.takesA (A:=[]) (by simpa using m) fun x mx z mz=>by
  rw[mem_singleton.mp mz];exact hf y e1 x (ng (mem_reverse.mp mx))
 have h3:MI (flt lt) L0 (out.toList++(a.toList.take na).reverse++[y]) [] []:=MI.takesB (B:=[]) (by simpa using h2) (fun y my x mx=>by cases mx);have:=h3.doneA.rev;have ee:b.toList.take 1=[y]:=by have:=congrArg List.reverse ed;simpa using this
 rw[ic,ic,jP,jP,Array.toList_reverse,ee];simpa using this
end
structure HInv(lt:cq->cq->Bool)(a b out:Array cq)(na nb:Nat):Prop where
 mi:MI (flt lt) (a.toList++b.toList) out.toList (a.toList.take na).reverse (b.toList.take nb).reverse
 a0:0<na
 a1:na<=a.size
 b0:1<nb
 b1:nb<=b.size
theorem GJ(O:LtOk prog w A E s kd D lt){a b:Array cq}{Q:Array cq->fy->Prop}{st:fy}(hk:kindOf st=kd)(ax:∀x∈a.toList,D x)(av:∀x∈b.toList,D x)(ha:SrtL lt a.toList)(hb:SrtL lt b.toList)(ae:1<=a.size)(aa:1<=b.size)
  (h0:∀y,b[0]?=some y->∀x∈a.toList,lt x y=false) (hl:∀x,a[a.size-1]?=some x->∀y∈b.toList,lt x y=false)
  (q:∀(out:Array cq) st',MDone lt (a.toList++b.toList) out.toList->sameSt st st'->Q out st'):wpS (model prog w) A E s (E6 a b) Q st:=by
 refine bw (wpS_lift (kn ⟨rfl,?_⟩));obtain⟨x0,be,bf⟩:=bW (a:=a) (i:=a.size-1) (by clear aa;omega);refine bw (zA be ?_);have aw:∀{τ:Type} (P:Prop) (_:Decidable P) (f g:StateT fy Sem τ) (Q':τ->fy->Prop) (st':fy),wpS (model prog w) A E s f Q' st'->wpS (model prog w) A E s g Q' st'->wpS (model prog w) A E s (if P then f else g) Q' st':=fun P _ f g Q' st' h1 h2=>by
  split
  ·exact h1
  ·exact h2
 have ta:a.toList.take a.size=a.toList:=List.take_of_length_le yv;have tb:b.toList.take b.size=b.toList:=List.take_of_length_le yv;have m0:MI (flt lt) (a.toList++b.toList) (#[]:Array cq).toList (a.toList.take a.size).reverse (b.toList.take b.size).reverse:=by
  refine⟨?_,List.Pairwise.nil,(fun x m=>by cases m),BS ha _,BS hb _⟩;rw[ta,tb];exact(List.reverse_perm _).append (List.reverse_perm _)
 have m1:MI (flt lt) (a.toList++b.toList) (#[x0]:Array cq).toList (a.toList.take (a.size-1)).reverse (b.toList.take b.size).reverse:=by
  have m2:=m0;rw[show a.size=a.size-1+1 by clear aa;omega]at m2;have:=uQ m2 bf fun y my=>hl x0 be y (ng (mem_reverse.mp my));simpa using this
 by_cases c1:a.size-1=0
 ·rw[ci (by simpa using c1)];exact bz (q _ _ (h9 c1 m1) sameSt.rfl')
 rw[cg (by simpa using c1)];by_cases c2:b.size=1
 ·rw[ci (by simpa using c2)];exact bz (q _ _ (jH h0 c2 aa m1) sameSt.rfl')
 rw[cg (by simpa using c2)];refine bw (qv ?_);refine bw (ki (gf (a:=0)
  (I:=fun k c st'=>sameSt st st'/\∃out na nb mg,c=(none,na,nb,out,mg)/\HInv lt a b out na nb/\na+nb+k<a.size+b.size)
  (Q:=fun c st'=>sameSt st st'/\∃(r:Array cq),∃rest,c=(some r,rest)/\MDone lt (a.toList++b.toList) r.toList) ?step ?fin ⟨sameSt.rfl',#[x0],a.size-1,b.size,_,rfl,⟨m1,by clear c2 aa ae;omega,by clear c2 c1 aa ae;omega,by clear c1 ae;omega,by clear c2 c1 aa ae;omega⟩,by clear c2 c1 aa;omega⟩) ?post)
 case fin=>
  rintro c st' ⟨a7,out,na,nb,mg,rfl,hm,ag⟩
  (clear c2 c1 aa ae;omega)
 case post=>
  rintro c st' ⟨a7,r,rest,rfl,hd⟩;exact bz (q r st' hd a7)
 case step=>
  rintro k c st' _ af ⟨a7,out,na,nb,mg,rfl,hm,ag⟩;refine bw (ki (gf (a:=0)
   (I:=fun j c st'=>sameSt st st'/\∃ap ao an ac bc,c=(none,ao,an,ap,ac,bc)/\HInv lt a b ap ao an/\ao+an+j<=na+nb)
   (Q:=fun c st'=>sameSt st st'/\((∃(r:Array cq),∃rest,c=(some r,rest)/\MDone lt (a.toList++b.toList) r.toList)\/∃ap ao an ac bc,c=(none,ao,an,ap,ac,bc)/\HInv lt a b ap ao an/\ao+an<na+nb)) ?step1 ?fin1 ⟨a7,out,na,nb,0,0,rfl,hm,by clear ag af c2 c1 aa ae;omega⟩) ?post1)
  case fin1=>
   rintro c a8 ⟨as,ap,ao,an,ac,bc,rfl,ay,ah⟩;have:=ay.a0
   (clear this af c2 c1 aa ae;omega)
  case step1=>
   rintro j c a8 _ hj ⟨as,ap,ao,an,ac,bc,rfl,ay,ah⟩;have z1:=ay.a0;have z2:=ay.a1;have z3:=ay.b0;have z4:=ay.b1;obtain⟨y,ey,a2⟩:=bW (a:=b) (i:=an-1) (by clear z3 z2 z1 ah hj ag af c2 c1 ae;omega);obtain⟨x,ex,ex'⟩:=bW (a:=a) (i:=ao-1) (by clear z4 z3 z1 ah hj ag af c2 c1 aa;omega);have Dx:=ax x (bv ex');have Dy:=av y (bv a2);have aj:kindOf a8=kd:=as.1.trans hk;have mm:=ay.mi;refine bw (zA ey (bw (zA ex (bw (O.ask y x a8 _ Dy Dx aj ?_)))));cases hlt2:lt y x with
   |true=>
    have ms:MI (flt lt) (a.toList++b.toList) (ap.push x).toList (a.toList.take (ao-1)).reverse (b.toList.take an).reverse:=by
     rw[show ao=ao-1+1 by clear z4 z3 z2 ah hj ag af c2 c1 aa ae;omega]at mm;exact uQ mm ex' fun z mz=>by
      obtain⟨j2,az,ez⟩:=gM mz;exact O.tr z y x (av z (bv ez)) Dy Dx (bY O hb av (by clear z4 z3 z2 z1 ah hj ag af c2 c1 aa ae;omega) ez a2) (O.asym y x Dy Dx hlt2)
    simp only[if_true];refine bw (zA ex ?_);by_cases c3:ao-1=0
    ·rw[ci (by simpa using c3)];exact bz ⟨as,.inl ⟨_,_,rfl,h9 c3 ms⟩⟩
    ·rw[cg (by simpa using c3)];have au:HInv lt a b (ap.push x) (ao-1) an:=⟨ms,by clear z4 z3 z2 z1 ah hj ag af c2 c1 aa ae;omega,by clear c3 z4 z3 z1 ah hj ag af c2 c1 aa ae;omega,z3,z4⟩;refine aw _ _ _ _ _ _ ?_ ?_
     ·exact bz ⟨as,.inr ⟨_,_,_,_,_,rfl,au,by clear c3 z4 z3 z2 hj ag af c2 c1 aa ae;omega⟩⟩
     ·exact bz ⟨as,_,_,_,_,_,rfl,au,by clear c3 z4 z3 z2 hj ag af c2 c1 aa ae;omega⟩
   |false=>
    have ms:MI (flt lt) (a.toList++b.toList) (ap.push y).toList (a.toList.take ao).reverse (b.toList.take (an-1)).reverse:=by
     rw[show an=an-1+1 by clear z4 z2 z1 ah hj ag af c2 c1 aa ae;omega]at mm;exact yL mm a2 fun z mz=>by
      obtain⟨j2,az,ez⟩:=gM mz;exact O.tr z x y (ax z (bv ez)) Dx Dy (bY O ha ax (by clear z4 z3 z2 z1 ah hj ag af c2 c1 aa ae;omega) ez ex') hlt2
    simp only[dh,if_false];refine bw (zA ey ?_);by_cases c3:an-1=1
    ·rw[ci (by simpa using c3)];exact bz ⟨as,.inl ⟨_,_,rfl,jH h0 c3 aa ms⟩⟩
    ·rw[cg (by simpa using c3)];have au:HInv lt a b (ap.push y) ao (an-1):=⟨ms,z1,z2,by clear z4 z2 z1 ah hj ag af c2 c1 aa ae;omega,by clear c3 z3 z2 z1 ah hj ag af c2 c1 aa ae;omega⟩;refine aw _ _ _ _ _ _ ?_ ?_
     ·exact bz ⟨as,.inr ⟨_,_,_,_,_,rfl,au,by clear c3 z4 z2 z1 hj ag af c2 c1 aa ae;omega⟩⟩
     ·exact bz ⟨as,_,_,_,_,_,rfl,au,by clear c3 z4 z2 z1 hj ag af c2 c1 aa ae;omega⟩
  case post1=>
   rintro c a8 ⟨as,hc⟩;rcases hc with ⟨r,rest,rfl,hd⟩|⟨ap,ao,an,ac,bc,rfl,ay,ah⟩
   ·dsimp only;exact bz ⟨as,_,_,rfl,hd⟩
   ·dsimp only;refine bw (wpS_lift (kn ⟨rfl,?_⟩));refine bw (ki (gf (a:=0)
     (I:=fun j c st'=>sameSt st st'/\∃am aq ak a3 a5 a4,c=(none,aq,ak,am,a3,a5,a4)/\HInv lt a b am aq ak/\aq+ak+j<=ao+an)
     (Q:=fun c st'=>sameSt st st'/\((∃(r:Array cq),∃rest,c=(some r,rest)/\MDone lt (a.toList++b.toList) r.toList)\/∃am aq ak a3 a5 a4,c=(none,aq,ak,am,a3,a5,a4)/\HInv lt a b am aq ak/\aq+ak<=ao+an)) ?step2 ?aw ⟨as,ap,ao,an,_,_,_,rfl,ay,by clear ah ag af c2 c1 aa ae;omega⟩) ?post2)
    case aw=>
     rintro c bd ⟨ar,am,aq,ak,a3,a5,a4,rfl,au,ab⟩;have:=au.a0;have:=ay.a1;have:=ay.b1
     (clear this af c2 c1 aa ae;omega)
    case post2=>
     rintro c bd ⟨ar,hc⟩;rcases hc with ⟨r,rest,rfl,hd⟩|⟨am,aq,ak,a3,a5,a4,rfl,au,ab⟩
     ·dsimp only;exact bz ⟨ar,_,_,rfl,hd⟩
     ·dsimp only;refine bw (kz (bz ⟨⟨ar.1,ar.2.1,ar.2.2.1,ar.2.2.2⟩,am,aq,ak,_,rfl,au,by clear af c2 c1 aa ae;omega⟩))
    case step2=>
     rintro j c bd _ hj ⟨ar,am,aq,ak,a3,a5,a4,rfl,au,ab⟩;have z1:=au.a0;have z2:=au.a1;have z3:=au.b0;have z4:=au.b1;obtain⟨y,ey,a2⟩:=bW (a:=b) (i:=ak-1) (by clear z3 z2 z1 ab hj ah ag af c2 c1 ae;omega);have Dy:=av y (bv a2);have aD:∀j,j<a.size->∃x,a[j]?=some x/\D x:=fun j hj=>by
      obtain⟨x,e,e'⟩:=bW (a:=a) hj;exact⟨x,e,ax x (bv e')⟩
     have bD:∀j,j<b.size->∃x,b[j]?=some x/\D x:=fun j hj=>by
      obtain⟨x,e,e'⟩:=bW (a:=b) hj;exact⟨x,e,av x (bv e')⟩
     dsimp only;refine fin3 (C:=?C3) ?f3 ?g3 ?h3
     case f3=>intro h;generalize a3-1=m0;revert m0;exact h
     case g3=>intro h;generalize a3=m0;revert m0;exact h
     intro m0
     all_goals
      refine bw (kz ?_);refine bw (zA ey ?_);refine bw (gal O (ar.1.trans hk) Dy (fun j h1 h2=>aD j (by clear h1 z4 z3 z1 ab hj ah ag af c2 c1 aa ae;omega)) (fun i j x z h1 h2 h3 e1 e2=>bY O ha ax h2 (zV.mp e1) (zV.mp e2)) (by clear z4 z3 z2 ab hj ah ag af c2 c1 aa ae;omega) fun k1 ai g1 g2=>?_);dsimp only;have al:sameSt st bd:=ar;have bl:MI (flt lt) (a.toList++b.toList) (am++(a.extract k1 aq).reverse).toList (a.toList.take k1).reverse (b.toList.take ak).reverse:=GU au.mi ai fun j x h1 h2 e z mz=>by
       have:=g2 j x (by clear h2 ai z4 z3 z2 z1 ab hj ah ag af c2 c1 aa ae;omega) (by clear h1 ai z4 z3 z2 z1 ab hj ah ag af c2 c1 aa ae;omega) (zV.mpr e);obtain⟨j2,az,ez⟩:=gM mz;have Dx:=ax x (bv e);have l1:lt y x=true:=by simpa[bey]using this
       exact O.tr z y x (av z (bv ez)) Dy Dx (bY O hb av (by clear h2 h1 ai z4 z3 z2 z1 ab hj ah ag af c2 c1 aa ae;omega) ez a2) (O.asym y x Dy Dx l1)
      have gt:∀x∈(a.toList.take k1).reverse,lt y x=false:=fun x mx=>by
       obtain⟨j2,az,ex⟩:=gM mx;have:=g1 j2 x (by clear az ai z4 z3 z2 z1 ab hj ah ag af c2 c1 aa ae;omega) (by clear ai z4 z3 z2 z1 ab hj ah ag af c2 c1 aa ae;omega) (zV.mpr ex);simpa[bey]using this
      by_cases c5:aq-k1>0
      ·rw[ci c5];by_cases c6:k1=0
       ·rw[ci (by simpa using c6)];exact bz ⟨al,.inl ⟨_,_,rfl,h9 c6 bl⟩⟩
       rw[cg (by simpa using c6)];refine bw (zA ey ?_);have mb:MI (flt lt) (a.toList++b.toList) ((am++(a.extract k1 aq).reverse).push y).toList (a.toList.take k1).reverse (b.toList.take (ak-1)).reverse:=xY (by clear c6 c5 ai z4 z2 z1 ab hj ah ag af c2 c1 aa ae;omega) bl a2 gt;by_cases d1:ak-1=1
       ·rw[ci (by simpa using d1)];exact bz ⟨al,.inl ⟨_,_,rfl,jH h0 d1 aa mb⟩⟩
       rw[cg (by simpa using d1)];obtain⟨x,ex,ex'⟩:=bW (a:=a) (i:=k1-1) (by clear d1 c6 c5 z4 z3 z1 ab hj ah ag af c2 c1 aa;omega);have Dx:=ax x (bv ex');refine bw (zA ex ?_);refine bw (gal O (ar.1.trans hk) Dx (fun j h1 h2=>bD j (by clear h1 d1 c6 c5 ai z3 z2 z1 ab hj ah ag af c2 c1 aa ae;omega)) (fun i j x z h1 h2 h3 e1 e2=>bY O hb av h2 (zV.mp e1) (zV.mp e2)) (by clear d1 c6 c5 ai z4 z2 z1 ab hj ah ag af c2 c1 aa ae;omega) fun k2 aj f1 f2=>?_);dsimp only;have bb:=A0 (k:=k2) mb aj fun j z h1 h2 e x2 a9=>by
        have:=f2 j z (by clear h2 aj d1 c6 c5 ai z4 z3 z2 z1 ab hj ah ag af c2 c1 aa ae;omega) (by clear h1 aj d1 c6 c5 ai z4 z3 z2 z1 ab hj ah ag af c2 c1 aa ae;omega) (zV.mpr e);obtain⟨j2,az,a6⟩:=gM a9;have Dz:=av z (bv e);have l1:lt z x=false:=by simpa[bey]using this
        exact O.tr x2 x z (ax x2 (bv a6)) Dx Dz (bY O ha ax (by clear h2 h1 aj d1 c6 c5 ai z4 z3 z2 z1 ab hj ah ag af c2 c1 aa ae;omega) a6 ex') l1
       have gb:∀z∈(b.toList.take k2).reverse,lt x z=false:=fun z mz=>by
        obtain⟨j2,az,ez⟩:=gM mz;have:=f1 j2 z (by clear az aj d1 c6 c5 ai z4 z3 z2 z1 ab hj ah ag af c2 c1 aa ae;omega) (by clear aj d1 c6 c5 ai z4 z3 z2 z1 ab hj ah ag af c2 c1 aa ae;omega) (zV.mpr ez);have l1:lt z x=true:=by simpa[bey]using this
        exact O.asym z x (av z (bv ez)) Dx l1
       by_cases d2:ak-1-k2>0
       ·rw[ci d2];by_cases d3:k2=1
        ·rw[ci (by simpa using d3)];exact bz ⟨al,.inl ⟨_,_,rfl,jH h0 d3 aa bb⟩⟩
        rw[cg (by simpa using d3)];by_cases d5:k2=0
        ·rw[ci (by simpa using d5)];exact bz ⟨al,.inl ⟨_,_,rfl,Bi d5 bb⟩⟩
        rw[cg (by simpa using d5)];refine bw (zA ex ?_);have mf:MI (flt lt) (a.toList++b.toList) (((am++(a.extract k1 aq).reverse).push y++(b.extract k2 (ak-1)).reverse).push x).toList (a.toList.take (k1-1)).reverse (b.toList.take k2).reverse:=qT (by clear d5 d3 d2 aj d1 c5 ai z4 z3 z2 z1 ab hj ah ag af c2 c1 aa ae;omega) bb ex' gb;by_cases d4:k1-1=0
        ·rw[ci (by simpa using d4)];exact bz ⟨al,.inl ⟨_,_,rfl,h9 d4 mf⟩⟩
        rw[cg (by simpa using d4)];refine aw _ _ _ _ _ _ ?_ ?_
        ·exact bz ⟨al,.inr ⟨_,_,_,_,_,_,rfl,⟨mf,by clear d5 d3 d2 aj d1 c6 c5 ai z4 z3 z2 z1 ab hj ah ag af c2 c1 aa ae;omega,by clear d4 d5 d3 d2 aj d1 c6 c5 z4 z3 z1 ab hj ah ag af c2 c1 aa ae;omega,by clear d4 d2 aj d1 c6 c5 ai z4 z3 z2 z1 ab hj ah ag af c2 c1 aa ae;omega,by clear d4 d5 d3 d2 d1 c6 c5 ai z3 z2 z1 ab hj ah ag af c2 c1 aa ae;omega⟩,by clear d4 d5 d3 d2 d1 c6 c5 z4 z3 z2 z1 hj ah ag af c2 c1 aa ae;omega⟩⟩
        ·exact bz ⟨al,_,_,_,_,_,_,rfl,⟨mf,by clear d5 d3 d2 aj d1 c6 c5 ai z4 z3 z2 z1 ab hj ah ag af c2 c1 aa ae;omega,by clear d4 d5 d3 d2 aj d1 c6 c5 z4 z3 z1 ab hj ah ag af c2 c1 aa ae;omega,by clear d4 d2 aj d1 c6 c5 ai z4 z3 z2 z1 ab hj ah ag af c2 c1 aa ae;omega,by clear d4 d5 d3 d2 d1 c6 c5 ai z3 z2 z1 ab hj ah ag af c2 c1 aa ae;omega⟩,by clear d4 d5 d3 d2 d1 c6 c5 z4 z3 z2 hj ah ag af c2 c1 aa ae;omega⟩
       ·rw[cg d2];have ba:k2=ak-1:=by clear d1 c6 c5 ai z4 z3 z2 z1 ab hj ah ag af c2 c1 aa ae;omega
        subst ba;have ee:∀o:Array cq,o++(b.extract (ak-1) (ak-1)).reverse=o:=fun o=>by
         have:b.extract (ak-1) (ak-1+0) = #[]:=jE b _;rw[rb]at this;rw[this];simp
        rw[ee]at bb;refine bw (zA ex ?_);have mf:MI (flt lt) (a.toList++b.toList) (((am++(a.extract k1 aq).reverse).push y).push x).toList (a.toList.take (k1-1)).reverse (b.toList.take (ak-1)).reverse:=qT (by clear d2 aj d1 c5 ai z4 z3 z2 z1 ab hj ah ag af c2 c1 aa ae;omega) bb ex' gb;by_cases d4:k1-1=0
        ·rw[ci (by simpa using d4)];exact bz ⟨al,.inl ⟨_,_,rfl,h9 d4 mf⟩⟩
        rw[cg (by simpa using d4)];refine aw _ _ _ _ _ _ ?_ ?_
        ·exact bz ⟨al,.inr ⟨_,_,_,_,_,_,rfl,⟨mf,by clear d2 aj d1 c6 c5 ai z4 z3 z2 z1 ab hj ah ag af c2 c1 aa ae;omega,by clear d4 d2 aj d1 c6 c5 z4 z3 z1 ab hj ah ag af c2 c1 aa ae;omega,by clear d4 d2 aj c6 c5 ai z4 z2 z1 ab hj ah ag af c2 c1 aa ae;omega,by clear d4 d2 aj d1 c6 c5 ai z3 z2 z1 ab hj ah ag af c2 c1 aa ae;omega⟩,by clear d4 d2 aj d1 c6 c5 z4 z3 z2 z1 hj ah ag af c2 c1 aa ae;omega⟩⟩
        ·exact bz ⟨al,_,_,_,_,_,_,rfl,⟨mf,by clear d2 aj d1 c6 c5 ai z4 z3 z2 z1 ab hj ah ag af c2 c1 aa ae;omega,by clear d4 d2 aj d1 c6 c5 z4 z3 z1 ab hj ah ag af c2 c1 aa ae;omega,by clear d4 d2 aj c6 c5 ai z4 z2 z1 ab hj ah ag af c2 c1 aa ae;omega,by clear d4 d2 aj d1 c6 c5 ai z3 z2 z1 ab hj ah ag af c2 c1 aa ae;omega⟩,by clear d4 d2 aj d1 c6 c5 z4 z3 z2 hj ah ag af c2 c1 aa ae;omega⟩
      ·rw[cg c5];have k0:k1=aq:=by clear z4 z3 z2 z1 ab hj ah ag af c2 c1 aa ae;omega
       subst k0;have bg:∀o:Array cq,o++(a.extract k1 k1).reverse=o:=fun o=>by
        have:a.extract k1 (k1+0) = #[]:=jE a k1;rw[rb]at this;rw[this];simp
       rw[bg]at bl;refine bw (zA ey ?_);have mb:MI (flt lt) (a.toList++b.toList) (am.push y).toList (a.toList.take k1).reverse (b.toList.take (ak-1)).reverse:=xY (by clear c5 ai z2 z1 ab z4 hj ah ag af c2 c1 aa ae;omega) bl a2 gt;by_cases d1:ak-1=1
       ·rw[ci (by simpa using d1)];exact bz ⟨al,.inl ⟨_,_,rfl,jH h0 d1 aa mb⟩⟩
       rw[cg (by simpa using d1)];obtain⟨x,ex,ex'⟩:=bW (a:=a) (i:=k1-1) (by clear d1 c5 ai z1 ab z4 z3 hj ah ag af c2 c1 aa;omega);have Dx:=ax x (bv ex');refine bw (zA ex ?_);refine bw (gal O (ar.1.trans hk) Dx (fun j h1 h2=>bD j (by clear h1 d1 c5 ai z2 z1 ab z3 hj ah ag af c2 c1 aa ae;omega)) (fun i j x z h1 h2 h3 e1 e2=>bY O hb av h2 (zV.mp e1) (zV.mp e2)) (by clear d1 c5 ai z2 z1 ab z4 hj ah ag af c2 c1 aa ae;omega) fun k2 aj f1 f2=>?_);dsimp only;have bb:=A0 (k:=k2) mb aj fun j z h1 h2 e x2 a9=>by
        have:=f2 j z (by clear h2 aj d1 c5 ai z2 z1 ab z4 z3 hj ah ag af c2 c1 aa ae;omega) (by clear h1 aj d1 c5 ai z2 z1 ab z4 z3 hj ah ag af c2 c1 aa ae;omega) (zV.mpr e);obtain⟨j2,az,a6⟩:=gM a9;have Dz:=av z (bv e);have l1:lt z x=false:=by simpa[bey]using this
        exact O.tr x2 x z (ax x2 (bv a6)) Dx Dz (bY O ha ax (by clear h2 h1 aj d1 c5 ai z2 z1 ab z4 z3 hj ah ag af c2 c1 aa ae;omega) a6 ex') l1
       have gb:∀z∈(b.toList.take k2).reverse,lt x z=false:=fun z mz=>by
        obtain⟨j2,az,ez⟩:=gM mz;have:=f1 j2 z (by clear az aj d1 c5 ai z2 z1 ab z4 z3 hj ah ag af c2 c1 aa ae;omega) (by clear aj d1 c5 ai z2 z1 ab z4 z3 hj ah ag af c2 c1 aa ae;omega) (zV.mpr ez);have l1:lt z x=true:=by simpa[bey]using this
        exact O.asym z x (av z (bv ez)) Dx l1
       by_cases d2:ak-1-k2>0
       ·rw[ci d2];by_cases d3:k2=1
        ·rw[ci (by simpa using d3)];exact bz ⟨al,.inl ⟨_,_,rfl,jH h0 d3 aa bb⟩⟩
        rw[cg (by simpa using d3)];by_cases d5:k2=0
        ·rw[ci (by simpa using d5)];exact bz ⟨al,.inl ⟨_,_,rfl,Bi d5 bb⟩⟩
        rw[cg (by simpa using d5)];refine bw (zA ex ?_);have mf:MI (flt lt) (a.toList++b.toList) ((am.push y++(b.extract k2 (ak-1)).reverse).push x).toList (a.toList.take (k1-1)).reverse (b.toList.take k2).reverse:=qT (by clear d5 d3 d2 aj d1 c5 ai z2 ab z4 z3 hj ah ag af c2 c1 aa ae;omega) bb ex' gb;by_cases d4:k1-1=0
        ·rw[ci (by simpa using d4)];exact bz ⟨al,.inl ⟨_,_,rfl,h9 d4 mf⟩⟩
        rw[cg (by simpa using d4)];refine aw _ _ _ _ _ _ ?_ ?_
        ·exact bz ⟨al,.inr ⟨_,_,_,_,_,_,rfl,⟨mf,by clear d5 d3 d2 aj d1 c5 ai z2 z1 ab z4 z3 hj ah ag af c2 c1 aa ae;omega,by clear d4 d5 d3 d2 aj d1 c5 ai z1 ab z4 z3 hj ah ag af c2 c1 aa ae;omega,by clear d4 d2 aj d1 c5 ai z2 z1 ab z4 z3 hj ah ag af c2 c1 aa ae;omega,by clear d4 d5 d3 d2 d1 c5 ai z2 z1 ab z3 hj ah ag af c2 c1 aa ae;omega⟩,by clear d4 d5 d3 d2 d1 c5 ai z2 z1 z4 z3 hj ah ag af c2 c1 aa ae;omega⟩⟩
        ·exact bz ⟨al,_,_,_,_,_,_,rfl,⟨mf,by clear d5 d3 d2 aj d1 c5 ai z2 z1 ab z4 z3 hj ah ag af c2 c1 aa ae;omega,by clear d4 d5 d3 d2 aj d1 c5 ai z1 ab z4 z3 hj ah ag af c2 c1 aa ae;omega,by clear d4 d2 aj d1 c5 ai z2 z1 ab z4 z3 hj ah ag af c2 c1 aa ae;omega,by clear d4 d5 d3 d2 d1 c5 ai z2 z1 ab z3 hj ah ag af c2 c1 aa ae;omega⟩,by clear d4 d5 d3 d2 d1 c5 ai z2 z1 z4 hj ah ag af c2 c1 aa ae;omega⟩
       ·rw[cg d2];have ba:k2=ak-1:=by clear d1 c5 ai z2 z1 ab z4 z3 hj ah ag af c2 c1 aa ae;omega
        subst ba;have ee:∀o:Array cq,o++(b.extract (ak-1) (ak-1)).reverse=o:=fun o=>by
         have:b.extract (ak-1) (ak-1+0) = #[]:=jE b _;rw[rb]at this;rw[this];simp
        rw[ee]at bb;refine bw (zA ex ?_);have mf:MI (flt lt) (a.toList++b.toList) ((am.push y).push x).toList (a.toList.take (k1-1)).reverse (b.toList.take (ak-1)).reverse:=qT (by clear d2 aj d1 c5 ai z2 ab z4 z3 hj ah ag af c2 c1 aa ae;omega) bb ex' gb;by_cases d4:k1-1=0
        ·rw[ci (by simpa using d4)];exact bz ⟨al,.inl ⟨_,_,rfl,h9 d4 mf⟩⟩
        rw[cg (by simpa using d4)];refine aw _ _ _ _ _ _ ?_ ?_
        ·exact bz ⟨al,.inr ⟨_,_,_,_,_,_,rfl,⟨mf,by clear d2 aj d1 c5 ai z2 z1 ab z4 z3 hj ah ag af c2 c1 aa ae;omega,by clear d4 d2 aj d1 c5 ai z1 ab z4 z3 hj ah ag af c2 c1 aa ae;omega,by clear d4 d2 aj c5 ai z2 z1 ab z4 hj ah ag af c2 c1 aa ae;omega,by clear d4 d2 aj d1 c5 ai z2 z1 ab z3 hj ah ag af c2 c1 aa ae;omega⟩,by clear d4 d2 aj d1 c5 ai z2 z1 z4 z3 hj ah ag af c2 c1 aa ae;omega⟩⟩
        ·exact bz ⟨al,_,_,_,_,_,_,rfl,⟨mf,by clear d2 aj d1 c5 ai z2 z1 ab z4 z3 hj ah ag af c2 c1 aa ae;omega,by clear d4 d2 aj d1 c5 ai z1 ab z4 z3 hj ah ag af c2 c1 aa ae;omega,by clear d4 d2 aj c5 ai z2 z1 ab z4 hj ah ag af c2 c1 aa ae;omega,by clear d4 d2 aj d1 c5 ai z2 z1 ab z3 hj ah ag af c2 c1 aa ae;omega⟩,by clear d4 d2 aj d1 c5 ai z2 z1 z4 hj ah ag af c2 c1 aa ae;omega⟩
def G(xs:Array cq)(i:Nat):cq:=(xs[i]?).getD (.none,.none)
theorem uD{xs:Array cq}{i:Nat}(h:i<xs.size):xs[i]?=some (G xs i):=by unfold G;simp[h]
def Sg(lt:cq->cq->Bool)(xs:Array cq)(lo hi:Nat):Prop:=∀i j,lo<=i->i<=j->j<hi->lt (G xs j) (G xs i)=false
structure Tb(kd:ra)(D:cq->Prop)(a₀:Array cq)(lo:Nat)(st0 st:fy):Prop where
 kd:kindOf st=kd
 fl:qo st=none
 pm:(cf st).Perm a₀
 pe:cr st=cr st0
 lo:∀i,i<lo->G (cf st) i=G (cf st0) i
 d:∀x∈a₀.toList,D x
section
variable {a₀:Array cq}{lo:Nat}{st0 st st':fy}
theorem Tb.size(h:Tb kd D a₀ lo st0 st):(cf st).size=a₀.size:=h.pm.size_eq
theorem Tb.at(h:Tb kd D a₀ lo st0 st){i:Nat}(hi:i<a₀.size):(cf st)[i]?=some (G (cf st) i):=uD (by rw[h.size];exact hi)
theorem Tb.dd(h:Tb kd D a₀ lo st0 st){i:Nat}(hi:i<a₀.size):D (G (cf st) i):=by
 have e:=h.at hi;have m:G (cf st) i∈(cf st).toList:=bv (by rw[<- zV];exact e);exact h.d _ ((Array.perm_iff_toList_perm.mp h.pm).mem_iff.mp m)
theorem dQ(O:LtOk prog w A E s kd D lt)(h:Tb kd D a₀ lo st0 st){i j:Nat}{Q:Option Bool->fy->Prop}(hi:i<a₀.size)(hj:j<a₀.size)(q:Q (some (lt (G (cf st) i) (G (cf st) j))) st):wpS (model prog w) A E s (ltAt' i j) Q st:=by
 rw[ltAt'_eq];refine bw (qv ?_);refine bw (zA (h.at hi) (bw (zA (h.at hj) ?_)));exact O.ask _ _ _ _ (h.dd hi) (h.dd hj) h.kd q
theorem hU{xs:Array cq}{i j k:Nat}(hj:j<=xs.size):G (mirror xs i j ((j-i)/2)) k=if i<=k/\k<j then G xs (i+j-1-k)else G xs k:=by
 unfold G;rw[getElem?_mirror_all hj];split<;>rfl
theorem sR{xs:Array cq}{src d k:Nat}(hs:src<xs.size)(hd:d<=src):G (bubble xs src d) k=if k=src-d then G xs src else if src-d<k/\k<=src then G xs (k-1)else G xs k:=by
 unfold G;rw[getElem?_bubble hs d hd];split
 ·rfl
 ·split<;>rfl
theorem Tb.mirror(h:Tb kd D a₀ lo st0 st){i j:Nat}(hi:lo<=i)(hj:j<=a₀.size):Tb kd D a₀ lo st0 (mw st (mirror (cf st) i j ((j-i)/2))):=by
 refine⟨h.kd,h.fl,(mirror_perm _ _ _ _).trans h.pm,h.pe,fun k hk=>?_,h.d⟩;show G (PyProof.Rows.mirror (cf st) i j ((j-i)/2)) k=_;rw[hU (by rw[h.size];exact hj),cg yw];exact h.lo k hk
theorem Tb.bubble(h:Tb kd D a₀ lo st0 st){src d:Nat}(hs:src<a₀.size)(hd:d<=src)(hl:lo<=src-d):Tb kd D a₀ lo st0 (mw st (bubble (cf st) src d)):=by
 refine⟨h.kd,h.fl,(bubble_perm _ _ _).trans h.pm,h.pe,fun k hk=>?_,h.d⟩;show G (PyProof.Rows.bubble (cf st) src d) k=_;rw[sR (by rw[h.size];exact hs) hd,cg yw,cg yw];exact h.lo k hk
theorem fP{i j:Nat}{Q:Unit->fy->Prop}(q:Q () (mw st (mirror (cf st) i j ((j-i)/2)))):wpS (model prog w) A E s (reverseSlice' i j) Q st:=by
 rw[reverseSlice'_eq];exact kz q
theorem Sg.more(O:LtOk prog w A E s kd D lt)(h:Tb kd D a₀ lo st0 st){l n:Nat}(hn:n<a₀.size)(hl:l<n)(hs:Sg lt (cf st) l n)(h1:lt (G (cf st) n) (G (cf st) (n-1))=false):Sg lt (cf st) l (n+1):=fun i j hi q hj=>by
 by_cases e:j<n
 ·exact hs i j hi q e
 ·have ej:j=n:=yw
  subst ej;by_cases e2:i=j
  ·rw[e2];exact O.irr (h.dd hn)
  ·exact O.tr _ (G (cf st) (j-1)) _ (h.dd yw) (h.dd yw) (h.dd hn) (hs i (j-1) hi yw yw) h1
theorem Sg.one(O:LtOk prog w A E s kd D lt)(h:Tb kd D a₀ lo st0 st){l:Nat}(hn:l<a₀.size):Sg lt (cf st) l (l+1):=fun i j hi q hj=>by
 have e1:i=l:=by clear hn;omega
 have e2:j=l:=by clear e1 hn;omega
 rw[e1,e2];exact O.irr (h.dd hn)
def Fg(lt:cq->cq->Bool)(xs:Array cq)(lo hi:Nat):Prop:=∀i j,lo<=i->i<=j->j<hi->lt (G xs i) (G xs j)=false
theorem qM{xs:Array cq}{l n:Nat}(hn:n<=xs.size)(hs:Fg lt xs l n):Sg lt (mirror xs l n ((n-l)/2)) l n:=fun i j hi q hj=>by
 rw[hU hn,hU hn,ci (by clear hn;omega),ci (by clear hn;omega)];exact hs _ _ (by clear q hi hn;omega) (by clear hj hi hn;omega) (by clear q hn;omega)
end
def Eg(lt:cq->cq->Bool)(xs:Array cq)(lo hi:Nat):Prop:=∀i j,lo<=i->i<hi->lo<=j->j<hi->lt (G xs i) (G xs j)=false
theorem lX{xs:Array cq}{l i n:Nat}(hn:n<=xs.size)(hl:l<=i)(hf:Fg lt xs l n)(he:Eg lt xs i n):Fg lt (mirror xs i n ((n-i)/2)) l n:=fun p q hp z hq=>by
 rw[hU hn,hU hn];by_cases h1:i<=p
 ·rw[ci (by clear hp hl hn;omega),ci (by clear hp hl hn;omega)];exact he _ _ (by clear h1 hp hl hn;omega) (by clear z hp hl hn;omega) (by clear h1 z hp hl hn;omega) (by clear hp hl hn;omega)
 ·rw[cg (by clear hq z hp hl hn;omega)];by_cases h2:i<=q
  ·rw[ci (by clear h1 z hp hl hn;omega)];exact hf _ _ hp (by clear h2 z hp hl hn;omega) (by clear h1 z hp hl hn;omega)
  ·rw[cg (by clear h1 hq z hp hl hn;omega)];exact hf p q hp z hq
theorem rN{xs:Array cq}{i n k:Nat}(hn:n<=xs.size)(hk:n<=k):G (mirror xs i n ((n-i)/2)) k=G xs k:=by
 rw[hU hn,cg (by clear hn;omega)]
theorem uR{xs:Array cq}{i n:Nat}(hn:n<=xs.size)(hi:i<n):G (mirror xs i n ((n-i)/2)) (n-1)=G xs i:=by
 rw[hU hn,ci (by clear hn;omega)];congr 1
 (clear hn;omega)
theorem gC(O:LtOk prog w A E s kd D lt){a₀:Array cq}{lo:Nat}{st0 st:fy}(h:Tb kd D a₀ lo st0 st){l n:Nat}(hn:n<a₀.size)(hl:l<n)(hs:Fg lt (cf st) l n)(h1:lt (G (cf st) (n-1)) (G (cf st) n)=false):Fg lt (cf st) l (n+1):=fun i j hi q hj=>by
 by_cases e:j<n
 ·exact hs i j hi q e
 ·have ej:j=n:=yw
  subst ej;by_cases e2:i=j
  ·rw[e2];exact O.irr (h.dd hn)
  ·exact O.tr _ (G (cf st) (j-1)) _ (h.dd hn) (h.dd yw) (h.dd yw) h1 (hs i (j-1) hi yw yw)
theorem Io(O:LtOk prog w A E s kd D lt){a₀:Array cq}{lo ah:Nat}{st0 st:fy}{Q:Option Nat->fy->Prop}(h:Tb kd D a₀ lo st0 st)(hn:lo+ah<=a₀.size)(h1:1<=ah)
  (q:∀m st',Tb kd D a₀ lo st0 st'->1<=m->m<=ah->Sg lt (cf st') lo (lo+m)->Q (some m) st'):wpS (model prog w) A E s (countRun' lo ah) Q st:=by
 refine bw (ki (gf (a:=1)
  (I:=fun k c st'=>st'=st/\c=(none,k)/\Sg lt (cf st) lo (lo+k))
  (Q:=fun c st'=>st'=st/\∃n,c=(none,n)/\1<=n/\n<=ah/\Sg lt (cf st) lo (lo+n)/\(n=ah\/lt (G (cf st) (lo+n)) (G (cf st) (lo+n-1))=true)) ?step ?fin ⟨rfl,rfl,Sg.one O h yw⟩) ?post)
 case fin=>
  rintro c st' ⟨rfl,rfl,hs⟩;rw[show max 1 ah=ah by clear hn;omega]at hs ⊢;exact⟨rfl,ah,rfl,h1,cx _,hs,.inl rfl⟩
 case step=>
  rintro k c st' ac af ⟨rfl,rfl,hs⟩;refine bw (dQ O h (i:=lo+k) (j:=lo+k-1) (by clear ac h1;omega) (by clear ac h1;omega) ?_);cases e:lt (G (cf st') (lo+k)) (G (cf st') (lo+k-1))with
  |true=>
   simp only[if_true];exact bz ⟨rfl,k,rfl,ac,by clear ac h1 hn;omega,hs,.inr e⟩
  |false=>
   simp only[dh,if_false];refine bz ⟨rfl,rfl,?_⟩;exact Sg.more (n:=lo+k) O h (by clear ac h1;omega) (by clear af h1 hn;omega) hs e
 case post=>
  rintro c st' ⟨rfl,n,rfl,n1,n2,hs,z⟩;dsimp only;by_cases hnn:n=ah
  ·rw[ci (by simpa using hnn)];exact bz (q n st' h n1 n2 hs)
  rw[cg (by simpa using hnn)];have ar:=z.resolve_left hnn;by_cases hgt:n>1
  ·rw[ci hgt];refine bw (dQ O h (i:=lo) (j:=lo+n-1) (by clear hgt hnn z n2 n1;omega) (by clear hgt hnn z n1;omega) ?_);cases e0:lt (G (cf st') lo) (G (cf st') (lo+n-1))with
   |true=>
    simp only[if_true];exact bz (q n st' h n1 n2 hs)
   |false=>
    simp only[dh,if_false];have aa:lo+n<=(cf st').size:=by rw[h.size];(clear hgt hnn z n1 h1;omega)
    have hal:∀p q,lo<=p->p<lo+n->lo<=q->q<lo+n->lt (G (cf st') p) (G (cf st') q)=false:=fun p q p1 p2 q1 q2=>by
     have s1:=hs lo q (cx _) q1 q2;have s2:=hs p (lo+n-1) p1 (by clear q2 q1 p1 aa hgt hnn z n2 n1 h1 hn;omega) (by clear q2 q1 p2 p1 aa hgt hnn z n2 h1 hn;omega);have d0:=h.dd (i:=lo) (by clear q2 q1 p2 p1 aa hgt hnn z n2 n1;omega);have dn:=h.dd (i:=lo+n-1) (by clear q2 q1 p2 p1 aa hgt hnn z n1;omega);have dp:=h.dd (i:=p) (by clear q2 q1 p1 aa hgt hnn z n1 h1;omega);have dq:=h.dd (i:=q) (by clear q1 p2 p1 aa hgt hnn z n1 h1;omega);have s3:=hs q (lo+n-1) q1 (by clear q1 p2 p1 aa hgt hnn z n2 n1 h1 hn;omega) (by clear q2 q1 p2 p1 aa hgt hnn z n2 h1 hn;omega);have s4:=hs lo p (cx _) p1 p2;by_cases hpq:p<=q
     ·exact O.tr _ (G (cf st') lo) _ dq d0 dp (O.tr _ (G (cf st') (lo+n-1)) _ dq dn d0 s3 e0) s4
     ·exact hs q p q1 (by clear q2 q1 p2 p1 aa hgt hnn z n2 n1 h1 hn;omega) p2
    have hT:=h.mirror (i:=lo) (j:=lo+n) (cx _) (by clear aa hgt hnn z n1 h1;omega);have hF:Fg lt (cf (mw st' (mirror (cf st') lo (lo+n) ((lo+n-lo)/2)))) lo (lo+(n+1)):=by
     have au:Fg lt (cf st') lo (lo+n):=fun p q p1 pq q2=>hal p q p1 (by clear p1 aa hgt hnn z n2 n1 h1 hn;omega) (by clear q2 aa hgt hnn z n2 n1 h1 hn;omega) q2;have as:=lX aa (cx _) au fun p q p1 p2 q1 q2=>hal p q p1 p2 q1 q2;refine gC (n:=lo+n) O hT (by clear aa hgt z n1 h1;omega) (by clear aa hgt hnn z n2 h1 hn;omega) as ?_;show lt (G (mirror (cf st') lo (lo+n) _) (lo+n-1)) (G (mirror (cf st') lo (lo+n) _) (lo+n))=false;rw[rN aa (cx _),uR aa (by clear aa hgt hnn z n2 h1 hn;omega)];have d1:=h.dd (i:=lo+n) (by clear aa hgt z n1 h1;omega);have d2:=h.dd (i:=lo+n-1) (by clear aa hgt hnn z n1;omega);exact O.tr _ _ _ d1 d2 (h.dd (by clear aa hgt hnn z n2 n1;omega)) (O.asym _ _ d1 d2 ar) e0
    refine bw (fP ?_)
    revert hT hF
    generalize (mw st' (mirror (cf st') lo (lo+n) ((lo+n-lo)/2)))=stA;intro hT hF;refine bw (wpS_lift (kn ⟨rfl,?_⟩));refine bw (ki (gf (a:=n+1)
     (I:=fun k c st'=>Tb kd D a₀ lo st0 st'/\∃ag,c=(none,k,ag)/\Fg lt (cf st') lo (lo+k)/\ag+1<=k/\Eg lt (cf st') (lo+k-(ag+1)) (lo+k))
     (Q:=fun c st'=>Tb kd D a₀ lo st0 st'/\∃m ag,c=(none,m,ag)/\1<=m/\m<=ah/\Fg lt (cf st') lo (lo+m)/\ag+1<=m/\Eg lt (cf st') (lo+m-(ag+1)) (lo+m)) ?step2 ?fin2 ⟨hT,0,rfl,hF,by clear aa hgt hnn z n2 n1 h1 hn;omega,fun i j h1 h2 h3 h4=>by
      have e1:i=j:=by clear aa hgt hnn z n2 n1 hn;omega
      rw[e1];exact O.irr (hT.dd (by clear e1 h3 h2 h1 aa hgt z n1;omega))⟩) ?post2)
    case fin2=>
     rintro c aj ⟨ai,ag,rfl,an,ab,ak⟩;rw[show max (n+1) ah=ah by clear ab aa hgt z n1 h1 hn;omega]at an ab ak ⊢;exact⟨ai,ah,ag,rfl,by clear ab aa hgt hnn z n2 n1 hn;omega,cx _,an,ab,ak⟩
    case step2=>
     rintro k c aj ac af ⟨ai,ag,rfl,an,ab,ak⟩;refine bw (dQ O ai (i:=lo+k) (j:=lo+k-1) (by clear ab ac aa hgt hnn z n2 n1 h1;omega) (by clear ab ac aa hgt hnn z n2 n1 h1;omega) ?_);have aa:lo+k<=(cf aj).size:=by rw[ai.size];(clear ab ac aa hgt hnn z n2 n1 h1;omega)
     cases e:lt (G (cf aj) (lo+k)) (G (cf aj) (lo+k-1))with
     |true=>
      simp only[if_true];by_cases hq0:ag>0
      ·rw[ci hq0];have ap:=ai.mirror (i:=lo+k-(ag+1)) (j:=lo+k) (by clear hq0 aa af ac hgt hnn z n2 n1 h1 hn;omega) (by clear hq0 aa ab ac hgt hnn z n2 n1 h1;omega);refine bw (fP (bz ⟨ap,0,rfl,?_,by clear hq0 aa ab af ac hgt hnn z n2 n1 h1 hn;omega,fun i j h1 h2 h3 h4=>by
        have e1:i=j:=by clear hq0 aa ab af ac hgt hnn z n2 n1 hn;omega
        rw[e1];exact O.irr (ap.dd (by clear e1 h3 h2 h1 hq0 aa ab ac hgt hnn z n2 n1;omega))⟩))
       refine gC (n:=lo+k) O ap (by clear hq0 aa ab ac hgt hnn z n2 n1 h1;omega) (by clear hq0 aa ab af hgt hnn z n2 n1 h1 hn;omega) (lX aa (by clear hq0 aa af ac hgt hnn z n2 n1 h1 hn;omega) an ak) ?_;show lt (G (mirror (cf aj) (lo+k-(ag+1)) (lo+k) _) (lo+k-1)) (G (mirror (cf aj) (lo+k-(ag+1)) (lo+k) _) (lo+k))=false;rw[rN aa (cx _),uR aa (by clear hq0 aa ab af hgt hnn z n2 n1 h1 hn;omega)];have d1:=ai.dd (i:=lo+k) (by clear hq0 aa ab ac hgt hnn z n2 n1 h1;omega);have d2:=ai.dd (i:=lo+k-1) (by clear hq0 aa ab ac hgt hnn z n2 n1 h1;omega);have d3:=ai.dd (i:=lo+k-(ag+1)) (by clear hq0 aa ab ac hgt hnn z n2 n1 h1;omega);exact O.tr _ _ _ d1 d2 d3 (O.asym _ _ d1 d2 e) (ak _ _ (by clear hq0 aa ab af ac hgt hnn z n2 n1 h1 hn;omega) (by clear hq0 aa ab af hgt hnn z n2 n1 h1 hn;omega) (by clear hq0 aa ab af ac hgt hnn z n2 n1 h1 hn;omega) (by clear hq0 aa ab af hgt hnn z n2 n1 h1 hn;omega))
      ·rw[cg hq0];refine bz ⟨ai,0,rfl,?_,by clear hq0 aa ab af ac hgt hnn z n2 n1 h1 hn;omega,fun i j h1 h2 h3 h4=>by
        have e1:i=j:=by clear hq0 aa ab af ac hgt hnn z n2 n1 hn;omega
        rw[e1];exact O.irr (ai.dd (by clear e1 h3 h2 h1 hq0 aa ab ac hgt hnn z n2 n1;omega))⟩
       exact gC (n:=lo+k) O ai (by clear hq0 aa ab ac hgt hnn z n2 n1 h1;omega) (by clear hq0 aa ab af hgt hnn z n2 n1 h1 hn;omega) an (O.asym _ _ (ai.dd (by clear hq0 aa ab ac hgt hnn z n2 n1 h1;omega)) (ai.dd (by clear hq0 aa ab ac hgt hnn z n2 n1 h1;omega)) e)
     |false=>
      simp only[dh,if_false];refine bw (dQ O ai (i:=lo+k-1) (j:=lo+k) (by clear aa ab ac hgt hnn z n2 n1 h1;omega) (by clear aa ab ac hgt hnn z n2 n1 h1;omega) ?_);cases e2:lt (G (cf aj) (lo+k-1)) (G (cf aj) (lo+k))with
      |true=>
       simp only[if_true];exact bz ⟨ai,k,ag,rfl,by clear aa ab af hgt hnn z n2 n1 h1 hn;omega,by clear aa ab ac hgt hnn z n2 n1 h1 hn;omega,an,ab,ak⟩
      |false=>
       simp only[dh,if_false];refine bz ⟨ai,ag+1,rfl,gC (n:=lo+k) O ai (by clear aa ab ac hgt hnn z n2 n1 h1;omega) (by clear aa ab af hgt hnn z n2 n1 h1 hn;omega) an e2,by clear aa af ac hgt hnn z n2 n1 h1 hn;omega,fun i j h1 h2 h3 h4=>?_⟩;have dk:=ai.dd (i:=lo+k) (by clear h4 h3 h2 h1 aa ab ac hgt hnn z n2 n1;omega);have dl:=ai.dd (i:=lo+k-1) (by clear h4 h3 h2 h1 aa ab ac hgt hnn z n2 n1;omega);by_cases z1:i=lo+k
       ·rw[z1];by_cases z2:j=lo+k
        ·rw[z2];exact O.irr dk
        ·exact O.tr _ _ _ (ai.dd (by clear z2 z1 h3 h2 h1 aa ab ac hgt hnn z n2 n1;omega)) dl dk (ak _ _ (by clear z2 z1 h4 h3 h2 h1 aa ab af ac hgt hnn z n2 n1 hn;omega) (by clear z2 z1 h4 h3 h2 h1 aa ab af hgt hnn z n2 n1 hn;omega) (by clear z2 z1 h4 h2 h1 aa ab af ac hgt hnn z n2 n1 hn;omega) (by clear z1 h3 h2 h1 aa ab af ac hgt hnn z n2 n1 hn;omega)) e
       ·by_cases z2:j=lo+k
        ·rw[z2];exact O.tr _ _ _ dk dl (ai.dd (by clear z2 z1 h4 h3 h1 aa ab ac hgt hnn z n2 n1;omega)) e2 (ak _ _ (by clear z2 z1 h4 h3 h2 aa ab af ac hgt hnn z n2 n1 hn;omega) (by clear z2 h4 h3 h1 aa ab af ac hgt hnn z n2 n1 hn;omega) (by clear z2 z1 h4 h3 h2 h1 aa ab af ac hgt hnn z n2 n1 hn;omega) (by clear z2 z1 h4 h3 h2 h1 aa ab af hgt hnn z n2 n1 hn;omega))
        ·exact ak i j (by clear z2 z1 h4 h3 h2 aa ab af ac hgt hnn z n2 n1 hn;omega) (by clear z2 h4 h3 h1 aa ab af ac hgt hnn z n2 n1 hn;omega) (by clear z2 z1 h4 h2 h1 aa ab af ac hgt hnn z n2 n1 hn;omega) (by clear z1 h3 h2 h1 aa ab af ac hgt hnn z n2 n1 hn;omega)
    case post2=>
     rintro c aj ⟨ai,m,ag,rfl,m1,m2,an,ab,ak⟩;have aa:lo+m<=(cf aj).size:=by rw[ai.size];(clear ab m1 aa hgt hnn z n2 n1 h1;omega)
     have ap:=ai.mirror (i:=lo+m-(ag+1)) (j:=lo+m) (by clear aa m2 m1 hgt hnn z n2 n1 h1 hn;omega) (by clear aa ab m1 hgt hnn z n2 n1 h1;omega);have aq:=lX aa (by clear aa m2 m1 hgt hnn z n2 n1 h1 hn;omega) an ak;by_cases hq0:ag>0
     ·rw[ci hq0];refine bw (fP ?_);have al:=ap.mirror (i:=lo) (j:=lo+m) (cx _) (by clear hq0 aa ab m1 hgt hnn z n2 n1 h1;omega);have ao:Sg lt (cf (mw (mw aj (mirror (cf aj) (lo+m-(ag+1)) (lo+m) ((lo+m-(lo+m-(ag+1)))/2))) (mirror (mirror (cf aj) (lo+m-(ag+1)) (lo+m) ((lo+m-(lo+m-(ag+1)))/2)) lo (lo+m) ((lo+m-lo)/2)))) lo (lo+m):=qM (by rw[mirror_size];exact aa) aq;refine bw (fP ?_)
      revert al ao
      generalize (mw (mw aj (mirror (cf aj) (lo+m-(ag+1)) (lo+m) ((lo+m-(lo+m-(ag+1)))/2))) (mirror (mirror (cf aj) (lo+m-(ag+1)) (lo+m) ((lo+m-(lo+m-(ag+1)))/2)) lo (lo+m) ((lo+m-lo)/2)))=st4;intro al ao;refine bw (ki (gf (a:=m)
       (I:=fun k c st'=>st'=st4/\c=(none,k)/\Sg lt (cf st4) lo (lo+k))
       (Q:=fun c st'=>st'=st4/\∃n,c=(none,n)/\1<=n/\n<=ah/\Sg lt (cf st4) lo (lo+n)) ?step3 ?fin3 ⟨rfl,rfl,ao⟩) ?post3)
      case fin3=>
       rintro c am ⟨rfl,rfl,hs⟩;rw[show max m ah=ah by clear hq0 aa ab m1 hgt hnn z n2 n1 h1 hn;omega]at hs ⊢;exact⟨rfl,ah,rfl,by clear hq0 aa ab m2 m1 hgt hnn z n2 n1 hn;omega,cx _,hs⟩
      case step3=>
       rintro k c am ac af ⟨rfl,rfl,hs⟩;refine bw (dQ O al (i:=lo+k) (j:=lo+k-1) (by clear ac hq0 aa ab m2 m1 hgt hnn z n2 n1 h1;omega) (by clear ac hq0 aa ab m2 m1 hgt hnn z n2 n1 h1;omega) ?_);cases e:lt (G (cf am) (lo+k)) (G (cf am) (lo+k-1))with
       |true=>
        simp only[if_true];exact bz ⟨rfl,k,rfl,by clear af hq0 aa ab m2 hgt hnn z n2 n1 h1 hn;omega,by clear ac hq0 aa ab m2 m1 hgt hnn z n2 n1 h1 hn;omega,hs⟩
       |false=>
        simp only[dh,if_false];exact bz ⟨rfl,rfl,Sg.more (n:=lo+k) O al (by clear ac hq0 aa ab m2 m1 hgt hnn z n2 n1 h1;omega) (by clear af hq0 aa ab m2 hgt hnn z n2 n1 h1 hn;omega) hs e⟩
      case post3=>
       rintro c am ⟨rfl,n',rfl,p1,p2,hs⟩;exact bz (q n' am al p1 p2 hs)
     ·rw[cg hq0];have al:=ai.mirror (i:=lo) (j:=lo+m) (cx _) (by clear hq0 aa ab m1 hgt hnn z n2 n1 h1;omega);have ao:Sg lt (cf (mw aj (mirror (cf aj) lo (lo+m) ((lo+m-lo)/2)))) lo (lo+m):=qM aa an;refine bw (fP ?_)
      revert al ao
      generalize (mw aj (mirror (cf aj) lo (lo+m) ((lo+m-lo)/2)))=st4;intro al ao;refine bw (ki (gf (a:=m)
       (I:=fun k c st'=>st'=st4/\c=(none,k)/\Sg lt (cf st4) lo (lo+k))
       (Q:=fun c st'=>st'=st4/\∃n,c=(none,n)/\1<=n/\n<=ah/\Sg lt (cf st4) lo (lo+n)) ?step3 ?fin3 ⟨rfl,rfl,ao⟩) ?post3)
      case fin3=>
       rintro c am ⟨rfl,rfl,hs⟩;rw[show max m ah=ah by clear hq0 aa ab m1 hgt hnn z n2 n1 h1 hn;omega]at hs ⊢;exact⟨rfl,ah,rfl,by clear hq0 aa ab m2 m1 hgt hnn z n2 n1 hn;omega,cx _,hs⟩
      case step3=>
       rintro k c am ac af ⟨rfl,rfl,hs⟩;refine bw (dQ O al (i:=lo+k) (j:=lo+k-1) (by clear ac hq0 aa ab m2 m1 hgt hnn z n2 n1 h1;omega) (by clear ac hq0 aa ab m2 m1 hgt hnn z n2 n1 h1;omega) ?_);cases e:lt (G (cf am) (lo+k)) (G (cf am) (lo+k-1))with
       |true=>
        simp only[if_true];exact bz ⟨rfl,k,rfl,by clear af hq0 aa ab m2 hgt hnn z n2 n1 h1 hn;omega,by clear ac hq0 aa ab m2 m1 hgt hnn z n2 n1 h1 hn;omega,hs⟩
       |false=>
        simp only[dh,if_false];exact bz ⟨rfl,rfl,Sg.more (n:=lo+k) O al (by clear ac hq0 aa ab m2 m1 hgt hnn z n2 n1 h1;omega) (by clear af hq0 aa ab m2 hgt hnn z n2 n1 h1 hn;omega) hs e⟩
      case post3=>
       rintro c am ⟨rfl,n',rfl,p1,p2,hs⟩;exact bz (q n' am al p1 p2 hs)
  ·rw[cg hgt];have ae:n=1:=by clear hnn z n2 h1 hn;omega
   have hT:=h;have hF:Fg lt (cf st') lo (lo+(n+1)):=by
    subst ae;refine gC (n:=lo+1) O h (by clear hgt z n2 n1;omega) (by clear hgt hnn z n2 n1 h1 hn;omega) (fun p q p1 pq q2=>?_) (O.asym _ _ (h.dd (by clear hgt z n2 n1;omega)) (h.dd (by clear hgt hnn z n2 n1;omega)) ar);have e1:p=q:=by clear hgt hnn z n2 n1 h1 hn;omega
    rw[e1];exact O.irr (h.dd (by clear e1 pq p1 hgt hnn z n2 n1;omega))
   refine bw (wpS_lift (kn ⟨rfl,?_⟩));refine bw (ki (gf (a:=n+1)
    (I:=fun k c st'=>Tb kd D a₀ lo st0 st'/\∃ag,c=(none,k,ag)/\Fg lt (cf st') lo (lo+k)/\ag+1<=k/\Eg lt (cf st') (lo+k-(ag+1)) (lo+k))
    (Q:=fun c st'=>Tb kd D a₀ lo st0 st'/\∃m ag,c=(none,m,ag)/\1<=m/\m<=ah/\Fg lt (cf st') lo (lo+m)/\ag+1<=m/\Eg lt (cf st') (lo+m-(ag+1)) (lo+m)) ?step2 ?fin2 ⟨hT,0,rfl,hF,by clear ae hgt hnn z n2 n1 h1 hn;omega,fun i j h1 h2 h3 h4=>by
     have e1:i=j:=by clear ae hgt hnn z n2 n1 hn;omega
     rw[e1];exact O.irr (hT.dd (by clear e1 h3 h2 h1 ae hgt z n1;omega))⟩) ?post2)
   case fin2=>
    rintro c aj ⟨ai,ag,rfl,an,ab,ak⟩;rw[show max (n+1) ah=ah by clear ab ae hgt z n1 h1 hn;omega]at an ab ak ⊢;exact⟨ai,ah,ag,rfl,by clear ab ae hgt hnn z n2 n1 hn;omega,cx _,an,ab,ak⟩
   case step2=>
    rintro k c aj ac af ⟨ai,ag,rfl,an,ab,ak⟩;refine bw (dQ O ai (i:=lo+k) (j:=lo+k-1) (by clear ab ac ae hgt hnn z n2 n1 h1;omega) (by clear ab ac ae hgt hnn z n2 n1 h1;omega) ?_);have aa:lo+k<=(cf aj).size:=by rw[ai.size];(clear ab ac ae hgt hnn z n2 n1 h1;omega)
    cases e:lt (G (cf aj) (lo+k)) (G (cf aj) (lo+k-1))with
    |true=>
     simp only[if_true];by_cases hq0:ag>0
     ·rw[ci hq0];have ap:=ai.mirror (i:=lo+k-(ag+1)) (j:=lo+k) (by clear hq0 aa af ac ae hgt hnn z n2 n1 h1 hn;omega) (by clear hq0 aa ab ac ae hgt hnn z n2 n1 h1;omega);refine bw (fP (bz ⟨ap,0,rfl,?_,by clear hq0 aa ab af ac ae hgt hnn z n2 n1 h1 hn;omega,fun i j h1 h2 h3 h4=>by
       have e1:i=j:=by clear hq0 aa ab af ac ae hgt hnn z n2 n1 hn;omega
       rw[e1];exact O.irr (ap.dd (by clear e1 h3 h2 h1 hq0 aa ab ac ae hgt hnn z n2 n1;omega))⟩))
      refine gC (n:=lo+k) O ap (by clear hq0 aa ab ac ae hgt hnn z n2 n1 h1;omega) (by clear hq0 aa ab af ae hgt hnn z n2 n1 h1 hn;omega) (lX aa (by clear hq0 aa af ac ae hgt hnn z n2 n1 h1 hn;omega) an ak) ?_;show lt (G (mirror (cf aj) (lo+k-(ag+1)) (lo+k) _) (lo+k-1)) (G (mirror (cf aj) (lo+k-(ag+1)) (lo+k) _) (lo+k))=false;rw[rN aa (cx _),uR aa (by clear hq0 aa ab af ae hgt hnn z n2 n1 h1 hn;omega)];have d1:=ai.dd (i:=lo+k) (by clear hq0 aa ab ac ae hgt hnn z n2 n1 h1;omega);have d2:=ai.dd (i:=lo+k-1) (by clear hq0 aa ab ac ae hgt hnn z n2 n1 h1;omega);have d3:=ai.dd (i:=lo+k-(ag+1)) (by clear hq0 aa ab ac ae hgt hnn z n2 n1 h1;omega);exact O.tr _ _ _ d1 d2 d3 (O.asym _ _ d1 d2 e) (ak _ _ (by clear hq0 aa ab af ac ae hgt hnn z n2 n1 h1 hn;omega) (by clear hq0 aa ab af ae hgt hnn z n2 n1 h1 hn;omega) (by clear hq0 aa ab af ac ae hgt hnn z n2 n1 h1 hn;omega) (by clear hq0 aa ab af ae hgt hnn z n2 n1 h1 hn;omega))
     ·rw[cg hq0];refine bz ⟨ai,0,rfl,?_,by clear hq0 aa ab af ac ae hgt hnn z n2 n1 h1 hn;omega,fun i j h1 h2 h3 h4=>by
       have e1:i=j:=by clear hq0 aa ab af ac ae hgt hnn z n2 n1 hn;omega
       rw[e1];exact O.irr (ai.dd (by clear e1 h3 h2 h1 hq0 aa ab ac ae hgt hnn z n2 n1;omega))⟩
      exact gC (n:=lo+k) O ai (by clear hq0 aa ab ac ae hgt hnn z n2 n1 h1;omega) (by clear hq0 aa ab af ae hgt hnn z n2 n1 h1 hn;omega) an (O.asym _ _ (ai.dd (by clear hq0 aa ab ac ae hgt hnn z n2 n1 h1;omega)) (ai.dd (by clear hq0 aa ab ac ae hgt hnn z n2 n1 h1;omega)) e)
    |false=>
     simp only[dh,if_false];refine bw (dQ O ai (i:=lo+k-1) (j:=lo+k) (by clear aa ab ac ae hgt hnn z n2 n1 h1;omega) (by clear aa ab ac ae hgt hnn z n2 n1 h1;omega) ?_);cases e2:lt (G (cf aj) (lo+k-1)) (G (cf aj) (lo+k))with
     |true=>
      simp only[if_true];exact bz ⟨ai,k,ag,rfl,by clear aa ab af ae hgt hnn z n2 n1 h1 hn;omega,by clear aa ab ac ae hgt hnn z n2 n1 h1 hn;omega,an,ab,ak⟩
     |false=>
      simp only[dh,if_false];refine bz ⟨ai,ag+1,rfl,gC (n:=lo+k) O ai (by clear aa ab ac ae hgt hnn z n2 n1 h1;omega) (by clear aa ab af ae hgt hnn z n2 n1 h1 hn;omega) an e2,by clear aa af ac ae hgt hnn z n2 n1 h1 hn;omega,fun i j h1 h2 h3 h4=>?_⟩;have dk:=ai.dd (i:=lo+k) (by clear h4 h3 h2 h1 aa ab ac ae hgt hnn z n2 n1;omega);have dl:=ai.dd (i:=lo+k-1) (by clear h4 h3 h2 h1 aa ab ac ae hgt hnn z n2 n1;omega);by_cases z1:i=lo+k
      ·rw[z1];by_cases z2:j=lo+k
       ·rw[z2];exact O.irr dk
       ·exact O.tr _ _ _ (ai.dd (by clear z2 z1 h3 h2 h1 aa ab ac ae hgt hnn z n2 n1;omega)) dl dk (ak _ _ (by clear z2 z1 h4 h3 h2 h1 aa ab af ac ae hgt hnn z n2 n1 hn;omega) (by clear z2 z1 h4 h3 h2 h1 aa ab af ae hgt hnn z n2 n1 hn;omega) (by clear z2 z1 h4 h2 h1 aa ab af ac ae hgt hnn z n2 n1 hn;omega) (by clear z1 h3 h2 h1 aa ab af ac ae hgt hnn z n2 n1 hn;omega)) e
      ·by_cases z2:j=lo+k
       ·rw[z2];exact O.tr _ _ _ dk dl (ai.dd (by clear z2 z1 h4 h3 h1 aa ab ac ae hgt hnn z n2 n1;omega)) e2 (ak _ _ (by clear z2 z1 h4 h3 h2 aa ab af ac ae hgt hnn z n2 n1 hn;omega) (by clear z2 h4 h3 h1 aa ab af ac ae hgt hnn z n2 n1 hn;omega) (by clear z2 z1 h4 h3 h2 h1 aa ab af ac ae hgt hnn z n2 n1 hn;omega) (by clear z2 z1 h4 h3 h2 h1 aa ab af ae hgt hnn z n2 n1 hn;omega))
       ·exact ak i j (by clear z2 z1 h4 h3 h2 aa ab af ac ae hgt hnn z n2 n1 hn;omega) (by clear z2 h4 h3 h1 aa ab af ac ae hgt hnn z n2 n1 hn;omega) (by clear z2 z1 h4 h2 h1 aa ab af ac ae hgt hnn z n2 n1 hn;omega) (by clear z1 h3 h2 h1 aa ab af ac ae hgt hnn z n2 n1 hn;omega)
   case post2=>
    rintro c aj ⟨ai,m,ag,rfl,m1,m2,an,ab,ak⟩;have aa:lo+m<=(cf aj).size:=by rw[ai.size];(clear ab m1 ae hgt hnn z n2 n1 h1;omega)
    have ap:=ai.mirror (i:=lo+m-(ag+1)) (j:=lo+m) (by clear aa m2 m1 ae hgt hnn z n2 n1 h1 hn;omega) (by clear aa ab m1 ae hgt hnn z n2 n1 h1;omega);have aq:=lX aa (by clear aa m2 m1 ae hgt hnn z n2 n1 h1 hn;omega) an ak;by_cases hq0:ag>0
    ·rw[ci hq0];refine bw (fP ?_);have al:=ap.mirror (i:=lo) (j:=lo+m) (cx _) (by clear hq0 aa ab m1 ae hgt hnn z n2 n1 h1;omega);have ao:Sg lt (cf (mw (mw aj (mirror (cf aj) (lo+m-(ag+1)) (lo+m) ((lo+m-(lo+m-(ag+1)))/2))) (mirror (mirror (cf aj) (lo+m-(ag+1)) (lo+m) ((lo+m-(lo+m-(ag+1)))/2)) lo (lo+m) ((lo+m-lo)/2)))) lo (lo+m):=qM (by rw[mirror_size];exact aa) aq;refine bw (fP ?_)
     revert al ao
     generalize (mw (mw aj (mirror (cf aj) (lo+m-(ag+1)) (lo+m) ((lo+m-(lo+m-(ag+1)))/2))) (mirror (mirror (cf aj) (lo+m-(ag+1)) (lo+m) ((lo+m-(lo+m-(ag+1)))/2)) lo (lo+m) ((lo+m-lo)/2)))=st4;intro al ao;refine bw (ki (gf (a:=m)
      (I:=fun k c st'=>st'=st4/\c=(none,k)/\Sg lt (cf st4) lo (lo+k))
      (Q:=fun c st'=>st'=st4/\∃n,c=(none,n)/\1<=n/\n<=ah/\Sg lt (cf st4) lo (lo+n)) ?step3 ?fin3 ⟨rfl,rfl,ao⟩) ?post3)
     case fin3=>
      rintro c am ⟨rfl,rfl,hs⟩;rw[show max m ah=ah by clear hq0 aa ab m1 ae hgt hnn z n2 n1 h1 hn;omega]at hs ⊢;exact⟨rfl,ah,rfl,by clear hq0 aa ab m2 m1 ae hgt hnn z n2 n1 hn;omega,cx _,hs⟩
     case step3=>
      rintro k c am ac af ⟨rfl,rfl,hs⟩;refine bw (dQ O al (i:=lo+k) (j:=lo+k-1) (by clear ac hq0 aa ab m2 m1 ae hgt hnn z n2 n1 h1;omega) (by clear ac hq0 aa ab m2 m1 ae hgt hnn z n2 n1 h1;omega) ?_);cases e:lt (G (cf am) (lo+k)) (G (cf am) (lo+k-1))with
      |true=>
       simp only[if_true];exact bz ⟨rfl,k,rfl,by clear af hq0 aa ab m2 ae hgt hnn z n2 n1 h1 hn;omega,by clear ac hq0 aa ab m2 m1 ae hgt hnn z n2 n1 h1 hn;omega,hs⟩
      |false=>
       simp only[dh,if_false];exact bz ⟨rfl,rfl,Sg.more (n:=lo+k) O al (by clear ac hq0 aa ab m2 m1 ae hgt hnn z n2 n1 h1;omega) (by clear af hq0 aa ab m2 ae hgt hnn z n2 n1 h1 hn;omega) hs e⟩
     case post3=>
      rintro c am ⟨rfl,n',rfl,p1,p2,hs⟩;exact bz (q n' am al p1 p2 hs)
    ·rw[cg hq0];have al:=ai.mirror (i:=lo) (j:=lo+m) (cx _) (by clear hq0 aa ab m1 ae hgt hnn z n2 n1 h1;omega);have ao:Sg lt (cf (mw aj (mirror (cf aj) lo (lo+m) ((lo+m-lo)/2)))) lo (lo+m):=qM aa an;refine bw (fP ?_)
     revert al ao
     generalize (mw aj (mirror (cf aj) lo (lo+m) ((lo+m-lo)/2)))=st4;intro al ao;refine bw (ki (gf (a:=m)
      (I:=fun k c st'=>st'=st4/\c=(none,k)/\Sg lt (cf st4) lo (lo+k))
      (Q:=fun c st'=>st'=st4/\∃n,c=(none,n)/\1<=n/\n<=ah/\Sg lt (cf st4) lo (lo+n)) ?step3 ?fin3 ⟨rfl,rfl,ao⟩) ?post3)
     case fin3=>
      rintro c am ⟨rfl,rfl,hs⟩;rw[show max m ah=ah by clear hq0 aa ab m1 ae hgt hnn z n2 n1 h1 hn;omega]at hs ⊢;exact⟨rfl,ah,rfl,by clear hq0 aa ab m2 m1 ae hgt hnn z n2 n1 hn;omega,cx _,hs⟩
     case step3=>
      rintro k c am ac af ⟨rfl,rfl,hs⟩;refine bw (dQ O al (i:=lo+k) (j:=lo+k-1) (by clear ac hq0 aa ab m2 m1 ae hgt hnn z n2 n1 h1;omega) (by clear ac hq0 aa ab m2 m1 ae hgt hnn z n2 n1 h1;omega) ?_);cases e:lt (G (cf am) (lo+k)) (G (cf am) (lo+k-1))with
      |true=>
       simp only[if_true];exact bz ⟨rfl,k,rfl,by clear af hq0 aa ab m2 ae hgt hnn z n2 n1 h1 hn;omega,by clear ac hq0 aa ab m2 m1 ae hgt hnn z n2 n1 h1 hn;omega,hs⟩
      |false=>
       simp only[dh,if_false];exact bz ⟨rfl,rfl,Sg.more (n:=lo+k) O al (by clear ac hq0 aa ab m2 m1 ae hgt hnn z n2 n1 h1;omega) (by clear af hq0 aa ab m2 ae hgt hnn z n2 n1 h1 hn;omega) hs e⟩
     case post3=>
      rintro c am ⟨rfl,n',rfl,p1,p2,hs⟩;exact bz (q n' am al p1 p2 hs)
theorem E1(O:LtOk prog w A E s kd D lt){a₀:Array cq}{lo n ok:Nat}{st0 st:fy}{Q:Bool->fy->Prop}(h:Tb kd D a₀ lo st0 st)(hn:lo+n<=a₀.size)(h1:1<=ok)(hok:ok<=n)(hs:Sg lt (cf st) lo (lo+ok))
  (q:∀st',Tb kd D a₀ lo st0 st'->Sg lt (cf st') lo (lo+n)->Q true st'):wpS (model prog w) A E s (binarySort' lo n ok) Q st:=by
 refine bw (ki (gf (a:=max ok 1)
  (I:=fun k c st'=>c=(none,())/\Tb kd D a₀ lo st0 st'/\Sg lt (cf st') lo (lo+k))
  (Q:=fun c st'=>c=(none,())/\Tb kd D a₀ lo st0 st'/\Sg lt (cf st') lo (lo+n)) ?step ?fin ⟨rfl,h,by rw[show max ok 1=ok by omega];exact hs⟩) ?post)
 case fin=>
  rintro c st' ⟨rfl,hT,hS⟩;rw[show max (max ok 1) n=n by omega]at hS;exact⟨rfl,hT,hS⟩
 case post=>
  rintro c st' ⟨rfl,hT,hS⟩;exact bz (q st' hT hS)
 case step=>
  rintro k c st' ac ae ⟨rfl,hT,hS⟩;have k1:1<=k:=yw
  refine bw (ki (gf (a:=0)
   (I:=fun j c z=>z=st'/\∃l r,c=(none,l,r)/\l<=r/\r<=k/\r-l+j<=k/\(∀i,i<l->lt (G (cf st') (lo+k)) (G (cf st') (lo+i))=false)/\∀i,r<=i->i<k->lt (G (cf st') (lo+k)) (G (cf st') (lo+i))=true)
   (Q:=fun c z=>z=st'/\∃l,c=(none,l,l)/\l<=k/\(∀i,i<l->lt (G (cf st') (lo+k)) (G (cf st') (lo+i))=false)/\∀i,l<=i->i<k->lt (G (cf st') (lo+k)) (G (cf st') (lo+i))=true) ?step2 ?fin2 ⟨rfl,0,k,rfl,yw,yw,yw,fun i hi=>by omega,fun i h1 h2=>by omega⟩) ?post2)
  case fin2=>
   rintro c z ⟨rfl,l,r,rfl,a1,a2,a3,a4,a5⟩;have:l=r:=yw
   subst this;exact⟨rfl,l,rfl,a2,a4,a5⟩
  case step2=>
   rintro j c z _ hj ⟨rfl,l,r,rfl,a1,a2,a3,a4,a5⟩;by_cases hlr:l≥r
   ·rw[ci hlr];have:l=r:=yw
    subst this;exact bz ⟨rfl,l,rfl,a2,a4,a5⟩
   rw[cg hlr];have hm:(l+r)/2<k:=yw
   refine bw (dQ O hT (i:=lo+k) (j:=lo+(l+r)/2) yw yw ?_);have dk:=hT.dd (i:=lo+k) yw;have dm:=hT.dd (i:=lo+(l+r)/2) yw;cases e:lt (G (cf z) (lo+k)) (G (cf z) (lo+(l+r)/2))with
   |true=>
    simp only[if_true];refine bz ⟨rfl,l,(l+r)/2,rfl,yw,yw,yw,a4,fun i i1 i2=>?_⟩;have di:=hT.dd (i:=lo+i) yw;cases e2:lt (G (cf z) (lo+k)) (G (cf z) (lo+i))with
    |true=>rfl
    |false=>
     have:=O.tr _ _ _ dm di dk (hS (lo+(l+r)/2) (lo+i) yw yw yw) e2;rw[this]at e;cases e
   |false=>
    simp only[dh,if_false];refine bz ⟨rfl,(l+r)/2+1,r,rfl,yw,yw,yw,fun i i1=>?_,a5⟩;exact O.tr _ _ _ (hT.dd yw) dm dk (hS (lo+i) (lo+(l+r)/2) yw yw yw) e
  case post2=>
   rintro c z ⟨rfl,l,rfl,l1,l2,l3⟩;have aa:lo+k<(cf z).size:=by rw[hT.size];omega
   have hd:lo+k-(lo+l)=k-l:=yw
   refine bw (kz (bz ⟨rfl,hT.bubble (src:=lo+k) (d:=lo+k-(lo+l)) yw yw yw,?_⟩));intro i j hi ab hj;show lt (G (bubble (cf z) (lo+k) (lo+k-(lo+l))) j) (G (bubble (cf z) (lo+k) (lo+k-(lo+l))) i)=false;rw[sR aa yw,sR aa yw,show lo+k-(lo+k-(lo+l))=lo+l by omega];have dk:=hT.dd (i:=lo+k) yw;by_cases i1:i=lo+l
   ·rw[ci i1];by_cases j1:j=lo+l
    ·rw[ci j1];exact O.irr dk
    ·rw[cg j1,ci yw];have:=l3 (j-1-lo) yw yw;rw[show lo+(j-1-lo)=j-1 by omega]at this;exact O.asym _ _ dk (hT.dd yw) this
   ·rw[cg i1];by_cases i2:lo+l<i/\i<=lo+k
    ·rw[ci i2,cg yw,ci yw];exact hS _ _ yw yw yw
    ·rw[cg i2];by_cases j1:j=lo+l
     ·rw[ci j1];have:=l2 (i-lo) yw;rw[show lo+(i-lo)=i by omega]at this;exact this
     ·rw[cg j1];by_cases j2:lo+l<j/\j<=lo+k
      ·rw[ci j2];exact hS _ _ yw yw yw
      ·rw[cg j2];exact hS i j hi ab yw
structure Ts(kd:ra)(D:cq->Prop)(a₀:Array cq)(st:fy):Prop where
 kd:kindOf st=kd
 fl:qo st=none
 pm:(cf st).Perm a₀
 d:∀x∈a₀.toList,D x
section
variable {a₀:Array cq}{st:fy}
theorem Ts.size(h:Ts kd D a₀ st):(cf st).size=a₀.size:=h.pm.size_eq
theorem Ts.mem(h:Ts kd D a₀ st){x:cq}(m:x∈(cf st).toList):D x:=h.d x ((Array.perm_iff_toList_perm.mp h.pm).mem_iff.mp m)
theorem Ts.at(h:Ts kd D a₀ st){i:Nat}(hi:i<a₀.size):(cf st)[i]?=some (G (cf st) i):=uD (by rw[h.size];exact hi)
theorem Ts.dd(h:Ts kd D a₀ st){i:Nat}(hi:i<a₀.size):D (G (cf st) i):=h.mem (bv (by rw[<- zV];exact h.at hi))
theorem Ts.tb(h:Ts kd D a₀ st)(lo:Nat):Tb kd D a₀ lo st st:=⟨h.kd,h.fl,h.pm,rfl,fun _ _=>rfl,h.d⟩
end
theorem yE{xs:Array cq}{i:Nat}{x:cq}(h:xs.toList[i]?=some x):G xs i=x:=by
 unfold G;rw[zV.mpr h];rfl
theorem yU(s:Nat):∀(l:List cq) (k:Nat) (xs:Array cq),s+k+l.length<=xs.size->((l.zipIdx k).foldl (fun a p=>a.setIfInBounds (s+p.2) p.1) xs).toList=xs.toList.take (s+k)++l++xs.toList.drop (s+k+l.length)
 | [],k,xs,_=>by simp
 |x::l,k,xs,h=>by
  rw[fu]at h;rw[List.zipIdx_cons,foldl_cons,yU s l (k+1) _ (by rw[Array.size_setIfInBounds];omega)];simp only[Array.toList_setIfInBounds];have hl:s+k<xs.toList.length:=by simp;omega
  have e1:(xs.toList.set (s+k) x).take (s+(k+1))=xs.toList.take (s+k)++[x]:=by
   rw[show s+(k+1)=s+k+1 by omega,take_add_one,li hl,List.take_set_of_le (cx _)];rfl
  have e2:(xs.toList.set (s+k) x).drop (s+(k+1)+l.length)=xs.toList.drop (s+k+(x::l).length):=by
   rw[List.drop_set_of_lt yw,fu];congr 1;omega
  rw[e1,e2];simp
theorem HR{x:fy}{Q:PUnit->fy->Prop}{st:fy}(h:Q ⟨⟩ x):wpS (model prog w) A E s (set x:StateT fy Sem PUnit) Q st:=by
 unfold wpS;rw[StateT.run_set];exact bq ⟨rfl,h⟩
theorem jM{xs:Array cq}{lo hi:Nat}(hh:hi<=xs.size){x:cq}(m:x∈(xs.extract lo hi).toList):∃r,lo<=r/\r<hi/\G xs r=x:=by
 rw[ml,jl]at m;obtain⟨j,hj⟩:=mem_iff_getElem?.mp m;rw[qk]at hj;split at hj
 ·rw[qm]at hj;exact⟨lo+j,by clear hh;omega,by clear hh;omega,yE hj⟩
 ·cases hj
theorem tQ{xs:Array cq}{lo hi j:Nat}(hh:hi<=xs.size)(hj:j<hi-lo):(xs.extract lo hi)[j]?=some (G xs (lo+j)):=by
 rw[zV,ml,jl,qk,ci yw,qm,<- zV];exact uD yw
theorem Bg{xs:Array cq}{lo hi:Nat}(hh:hi<=xs.size)(h:Sg lt xs lo hi):SrtL lt (xs.extract lo hi).toList:=by
 unfold SrtL;rw[List.pairwise_iff_getElem];intro i j z q aa;have e1:=cv z;have e2:=cv q;have hl:(xs.extract lo hi).toList.length=hi-lo:=by simp;omega
 rw[<- zV,tQ hh yw]at e1 e2;rw[<- gk e1,<- gk e2];exact h _ _ yw yw yw
theorem IT(O:LtOk prog w A E s kd D lt){a₀:Array cq}{i sa na pw sb nb ay:Nat}{st:fy}{Q:Bool->fy->Prop}(h:Ts kd D a₀ st)(e1:(cr st)[i]?=some (sa,na,pw))(e2:(cr st)[i+1]?=some (sb,nb,ay))(af:sb=sa+na)(ab:1<=na)(aa:1<=nb)(ae:sb+nb<=a₀.size)
  (sA:Sg lt (cf st) sa (sa+na)) (sB:Sg lt (cf st) sb (sb+nb))
  (q:∀st',Ts kd D a₀ st'->cr st'=((cr st).setIfInBounds i (sa,na+nb,pw)).eraseIdxIfInBounds (i+1)->(∀j,j<sa\/sa+na+nb<=j->G (cf st') j=G (cf st) j)->Sg lt (cf st') sa (sa+na+nb)->Q true st'):wpS (model prog w) A E s (mergeAt' i) Q st:=by
 refine bw (qv ?_);simp only[e1,e2];have ac:(cf st).size=a₀.size:=h.size;refine bw (HR ?_);refine bw (zA (h.at (i:=sb) (by clear ac ab af;omega)) ?_);refine bw (gal O (key:=G (cf st) sb) (hint:=0) h.kd (h.dd (by clear ac ab af;omega)) (fun j h1 h2=>⟨_,h.at (by clear h1 ac aa ab;omega),h.dd (by clear h1 ac aa ab;omega)⟩) (fun i j x y h1 h2 h3 ex ey=>by
  rw[h.at (by clear h1 ac aa ab;omega)]at ex ey;cases ex;cases ey;exact sA i j h1 h2 h3) (by clear ac ae aa af;omega) fun k hk g1 g2=>?_)
 dsimp only;have ar:∀j,sa<=j->j<sa+k->lt (G (cf st) sb) (G (cf st) j)=false:=fun j h1 h2=>by
  have:=g1 j _ h1 h2 (h.at (by clear h1 ac aa ab;omega));simpa[bey]using this
 have az:∀j,sa+k<=j->j<sa+na->lt (G (cf st) sb) (G (cf st) j)=true:=fun j h1 h2=>by
  have:=g2 j _ h1 h2 (h.at (by clear h1 hk ac aa ab;omega));simpa[bey]using this
 by_cases c1:na-k=0
 ·rw[ci (by simpa using c1)];refine bz (q _ ⟨h.kd,h.fl,h.pm,h.d⟩ rfl (fun j _=>rfl) fun p r hp ag hr=>?_);show lt (G (cf st) r) (G (cf st) p)=false;by_cases z1:r<sa+na
  ·exact sA p r hp ag z1
  ·by_cases z2:p<sa+na
   ·exact O.tr _ _ _ (h.dd (by clear z2 z1 hp c1 hk ac aa ab;omega)) (h.dd (i:=sb) (by clear z2 z1 hr ag hp c1 hk ac ab af;omega)) (h.dd (by clear z2 z1 ag hp c1 hk ac aa ab;omega)) (ar p hp (by clear z1 hr ag hp hk ac ae aa ab af;omega)) (sB sb r (cx _) (by clear z2 hr ag hp c1 hk ac ae aa ab;omega) (by clear z2 z1 ag hp c1 hk ac ae aa ab;omega))
   ·exact sB p r (by clear z1 hr ag hp c1 hk ac ae aa ab;omega) ag (by clear z2 z1 ag hp c1 hk ac ae aa ab;omega)
 rw[cg (by simpa using c1)];have ei:sa+k+(na-k)-1=sb-1:=by clear c1 ac ae aa ab;omega
 rw[ei];refine bw (zA (h.at (i:=sb-1) (by clear ei c1 hk ac aa;omega)) ?_);refine bw (gal O (key:=G (cf st) (sb-1)) (hint:=nb-1) h.kd (h.dd (by clear ei c1 hk ac aa;omega)) (fun j h1 h2=>⟨_,h.at (by clear h1 ei c1 hk ac aa ab af;omega),h.dd (by clear h1 ei c1 hk ac aa ab af;omega)⟩) (fun i j x y h1 h2 h3 ex ey=>by
  rw[h.at (by clear h1 ei c1 hk ac aa ab af;omega)]at ex ey;cases ex;cases ey;exact sB i j h1 h2 h3) (by clear ei c1 hk ac ae ab af;omega) fun m hm f1 f2=>?_)
 dsimp only;have ax:∀j,sb<=j->j<sb+m->lt (G (cf st) j) (G (cf st) (sb-1))=true:=fun j h1 h2=>by
  have:=f1 j _ h1 h2 (h.at (by clear h1 ei c1 hk ac aa ab af;omega));simpa[bey]using this
 have aq:∀j,sb+m<=j->j<sb+nb->lt (G (cf st) j) (G (cf st) (sb-1))=false:=fun j h1 h2=>by
  have:=f2 j _ h1 h2 (h.at (by clear h1 hm ei c1 hk ac aa ab af;omega));simpa[bey]using this
 by_cases c2:m=0
 ·rw[ci (by simpa using c2)];refine bz (q _ ⟨h.kd,h.fl,h.pm,h.d⟩ rfl (fun j _=>rfl) fun p r hp ag hr=>?_);show lt (G (cf st) r) (G (cf st) p)=false;by_cases z1:r<sa+na
  ·exact sA p r hp ag z1
  ·by_cases z2:p<sa+na
   ·exact O.tr _ _ _ (h.dd (by clear z2 z1 hp c2 hm ei c1 hk ac aa ab;omega)) (h.dd (i:=sb-1) (by clear z2 z1 hr ag hp c2 hm ei c1 hk ac aa;omega)) (h.dd (by clear z2 z1 ag hp c2 hm ei c1 hk ac aa ab;omega)) (sA p (sb-1) hp (by clear z1 hr ag hp c2 hm ei c1 hk ac ae aa ab;omega) (by clear z2 z1 hr ag hp c2 hm ei c1 hk ac ae aa;omega)) (aq r (by clear z2 hr ag hp hm ei c1 hk ac ae aa ab;omega) (by clear z2 z1 ag hp c2 hm ei c1 hk ac ae aa ab;omega))
   ·exact sB p r (by clear z1 hr ag hp c2 hm ei c1 hk ac ae aa ab;omega) ag (by clear z2 z1 ag hp c2 hm ei c1 hk ac ae aa ab;omega)
 rw[cg (by simpa using c2)];have xD:∀x∈((cf st).extract (sa+k) sb).toList,D x:=fun x mx=>by
  obtain⟨r,r1,r2,rfl⟩:=jM (by clear c2 hm ei c1 hk aa ab af;omega) mx;exact h.dd (by clear r1 c2 hm ei c1 hk ac aa ab af;omega)
 have yD:∀x∈((cf st).extract sb (sb+m)).toList,D x:=fun x mx=>by
  obtain⟨r,r1,r2,rfl⟩:=jM (by clear c2 ei c1 hk aa ab af;omega) mx;exact h.dd (by clear r1 c2 ei c1 hk ac aa ab af;omega)
 have xS:=Bg (lt:=lt) (xs:=cf st) (lo:=sa+k) (hi:=sb) (by clear c2 hm ei c1 hk aa ab af;omega) fun p r h1 h2 h3=>sA p r (by clear h3 h2 c2 hm ei c1 hk ac ae aa ab af;omega) h2 (by clear h2 h1 c2 hm ei c1 hk ac ae aa ab;omega);have yS:=Bg (lt:=lt) (xs:=cf st) (lo:=sb) (hi:=sb+m) (by clear c2 ei c1 hk aa ab af;omega) fun p r h1 h2 h3=>sB p r (by clear h3 h2 c2 hm ei c1 hk ac ae aa ab af;omega) h2 (by clear h2 h1 c2 ei c1 hk ac ae aa ab af;omega);have xz:((cf st).extract (sa+k) sb).size=sb-(sa+k):=by simp;(clear c2 hm ei c1 hk aa ab af;omega)
 have yz:((cf st).extract sb (sb+m)).size=m:=by simp;(clear xz c2 ei c1 hk aa ab af;omega)
 have y0:∀y,((cf st).extract sb (sb+m))[0]?=some y->∀x∈((cf st).extract (sa+k) sb).toList,lt x y=false:=fun y ey x mx=>by
  rw[tQ (by clear yz xz c2 ei c1 hk aa ab af;omega) (by clear yz xz hm ei c1 hk ac ae aa ab af;omega)]at ey;cases ey;obtain⟨r,r1,r2,rfl⟩:=jM (by clear yz xz c2 hm ei c1 hk aa ab af;omega) mx;exact O.asym _ _ (h.dd (by clear r2 r1 yz xz c2 hm ei c1 hk ac ab af;omega)) (h.dd (by clear r1 yz xz c2 hm ei c1 hk ac aa ab af;omega)) (az r r1 (by clear r1 yz xz c2 hm ei c1 hk ac ae aa ab;omega))
 have xl:∀x,((cf st).extract (sa+k) sb)[((cf st).extract (sa+k) sb).size-1]?=some x->∀y∈((cf st).extract sb (sb+m)).toList,lt x y=false:=fun x ex y my=>by
  rw[xz,tQ (by clear yz xz c2 hm ei c1 hk aa ab af;omega) (by clear yz xz c2 hm ei hk ac ae aa ab;omega)]at ex;cases ex;obtain⟨r,r1,r2,rfl⟩:=jM (by clear yz xz c2 ei c1 hk aa ab af;omega) my;rw[show sa+k+(sb-(sa+k)-1)=sb-1 by clear r2 r1 yz xz c2 hm ei hk ac ae aa ab;omega];exact O.asym _ _ (h.dd (by clear r1 yz xz c2 ei c1 hk ac aa ab af;omega)) (h.dd (by clear r2 r1 yz xz c2 hm ei c1 hk ac aa;omega)) (ax r r1 r2)
 have fin:∀(out:Array cq) (st':fy) (ak:fy),MDone lt (((cf st).extract (sa+k) sb).toList++((cf st).extract sb (sb+m)).toList) out.toList->sameSt ak st'->cf ak=cf st->kindOf ak=kindOf st->qo ak=qo st->cr ak=((cr st).setIfInBounds i (sa,na+nb,pw)).eraseIdxIfInBounds (i+1) ->
   ∀ai:fy,kindOf ai=kindOf st'->qo ai=qo st'->cr ai=cr st'->cf ai=pf (fun a x=>a.setIfInBounds (sa+k+x.snd) x.fst) (cf st') out.toList.zipIdx->Q true ai/\qo ai=none:=fun out st' ak hd an av a1 as a2 ai ek ef ep ea=>by
  obtain⟨s1,s2,s3,s4⟩:=an;have ah:out.toList.length=sb-(sa+k)+m:=by
   have:=hd.1.length_eq;rw[cu]at this;simp only[fe]at this ⊢
   (clear c2 hm ei c1 hk ac ae aa ab af;omega)
  rw[s2,av]at ea;have hw:=yU (sa+k) out.toList 0 (cf st) (by clear yz xz c2 ei c1 aa ab;omega);have ht:(cf ai).toList=(cf st).toList.take (sa+k)++out.toList++(cf st).toList.drop (sb+m):=by
   rw[ea];rw[rb]at hw;rw[hw];congr 2
   (clear yz xz c2 hm ei c1 ac ae aa ab;omega)
  have aw:(cf ai).Perm (cf st):=by
   rw[Array.perm_iff_toList_perm,ht];have e0:(cf st).toList=(cf st).toList.take (sa+k)++(((cf st).extract (sa+k) sb).toList++((cf st).extract sb (sb+m)).toList)++(cf st).toList.drop (sb+m):=by
    rw[ml,ml,jl,jl,kc,kc,show sb+m-sb=m by clear ah yz xz c2 hm ei c1 hk ac ae aa ab af;omega];have q1:(cf st).toList.drop (sb+m)=((cf st).toList.drop sb).drop m:=by rw[List.drop_drop]
    rw[q1,ky];have q2:(cf st).toList.drop sb=((cf st).toList.drop (sa+k)).drop (sb-(sa+k)):=by rw[List.drop_drop];congr 1;(clear ah yz xz c2 hm ei c1 ac ae aa ab;omega)
    rw[q2,ky,ky]
   conv=>rhs;rw[e0]
   exact(hd.1.append_left _).append_right _
  have ap:Ts kd D a₀ ai:=⟨ek.trans (s1.trans (a1.trans h.kd)),ef.trans (s4.trans (as.trans h.fl)),aw.trans h.pm,h.d⟩;have tl:((cf st).toList.take (sa+k)).length=sa+k:=by rw[jw,fe];(clear ah yz xz c2 hm ei c1 aa ab;omega)
  have aj:∀j,j<sa+k\/sb+m<=j->G (cf ai) j=G (cf st) j:=fun j hj=>by
   unfold G;congr 1;rw[<- jn,<- jn,ht];rcases hj with hj|hj
   ·rw[kc,fh (by clear ah yz xz c2 hm ei c1 hk ac ae aa ab af;omega),qk,ci hj]
   ·rw[mq (by rw[cu,tl,ah];(clear tl ah yz xz c2 hm ei c1 ac ae aa ab;omega)),cu,tl,ah,qm];congr 1
    (clear tl ah yz xz c2 hm ei c1 ac ae aa ab;omega)
  have ao:∀j,sa+k<=j->j<sb+m->∃z,out.toList[j-(sa+k)]?=some z/\G (cf ai) j=z/\∃r,sa+k<=r/\r<sb+m/\G (cf st) r=z:=fun j h1 h2=>by
   have hj:j-(sa+k)<out.toList.length:=by clear h1 tl yz xz c2 hm ei hk ac ae aa ab;omega
   have ez:=cv hj;refine⟨_,ez,yE ?_,?_⟩
   ·rw[ht,kc,mq (by clear h2 ah yz xz c2 hm ei c1 hk ac ae aa ab af;omega),tl,fh hj];exact ez
   ·have mz:=hd.1.mem_iff.mp (bv ez);rcases mem_append.mp mz with mz|mz
    ·obtain⟨r,r1,r2,r3⟩:=jM (by clear h2 h1 tl ah yz xz c2 hm ei c1 hk aa ab af;omega) mz;exact⟨r,r1,by clear r1 h2 h1 tl ah yz xz c2 hm ei c1 hk ac ae aa ab af;omega,r3⟩
    ·obtain⟨r,r1,r2,r3⟩:=jM (by clear h2 h1 tl ah yz xz c2 ei c1 hk aa ab af;omega) mz;exact⟨r,by clear r2 h2 h1 tl ah yz xz c2 hm ei c1 ac ae aa ab;omega,r2,r3⟩
  refine⟨q ai ap (ep.trans (s3.trans a2)) (fun j hj=>aj j (by clear tl ah yz xz c2 ei c1 hk ac ae aa ab;omega)) fun p r hp ag hr=>?_,ap.fl⟩;have up:∀p q',sa<=p->p<sa+k->sb<=q'->q'<sb+nb->lt (G (cf st) q') (G (cf st) p)=false:=fun p q' p1 p2 q1 q2=>O.tr _ _ _ (h.dd (by clear q2 q1 p1 hr ag hp tl ah yz xz c2 hm ei c1 ac aa ab;omega)) (h.dd (i:=sb) (by clear q2 q1 p2 p1 hr ag hp tl ah yz xz c2 hm ei c1 hk ac ab af;omega)) (h.dd (by clear q1 p2 p1 hr ag hp tl ah yz xz c2 hm ei c1 hk ac aa ab af;omega)) (ar p p1 p2) (sB sb q' (cx _) q1 q2);have dn:∀p q',sa<=p->p<sb->sb+m<=q'->q'<sb+nb->lt (G (cf st) q') (G (cf st) p)=false:=fun p q' p1 p2 q1 q2=>O.tr _ _ _ (h.dd (by clear q2 q1 p1 hr ag hp tl ah yz xz c2 hm ei c1 hk ac aa ab af;omega)) (h.dd (i:=sb-1) (by clear q2 q1 p2 p1 hr ag hp tl ah yz xz c2 hm ei c1 hk ac aa;omega)) (h.dd (by clear q1 p2 p1 hr ag hp tl ah yz xz c2 hm ei c1 hk ac aa ab af;omega)) (sA p (sb-1) p1 (by clear q2 q1 p1 hr ag hp tl ah yz xz c2 hm ei c1 hk ac ae aa ab af;omega) (by clear q2 q1 p2 p1 hr ag hp tl ah yz xz c2 hm ei c1 hk ac ae aa;omega)) (aq q' q1 q2);by_cases p1:p<sa+k
  ·rw[aj p (.inl p1)];by_cases r1:r<sa+k
   ·rw[aj r (.inl r1)];exact sA p r hp ag (by clear p1 hr ag hp tl ah yz xz c2 hm ei c1 ac ae aa ab af;omega)
   by_cases r2:sb+m<=r
   ·rw[aj r (.inr r2)];exact up p r hp p1 (by clear r1 p1 hr ag hp tl ah yz xz c2 hm ei c1 hk ac ae aa ab af;omega) (by clear r2 r1 p1 ag hp tl ah yz xz c2 hm ei c1 hk ac ae aa ab;omega)
   ·obtain⟨z,_,ez,t,t1,t2,t3⟩:=ao r (by clear r2 p1 hr ag hp tl ah yz xz c2 hm ei c1 hk ac ae aa ab af;omega) (by clear r1 p1 hr ag hp tl ah yz xz c2 hm ei c1 hk ac ae aa ab af;omega);rw[ez,<- t3];by_cases tb:t<sb
    ·exact sA p t hp (by clear tb t2 r2 r1 hr ag hp tl ah yz xz c2 hm ei c1 hk ac ae aa ab af;omega) (by clear t2 t1 r2 r1 p1 hr ag hp tl ah yz xz c2 hm ei c1 hk ac ae aa ab;omega)
    ·exact up p t hp p1 (by clear t2 t1 r2 r1 p1 hr ag hp tl ah yz xz c2 hm ei c1 hk ac ae aa ab af;omega) (by clear tb t1 r2 r1 p1 hr ag hp tl ah yz xz c2 ei c1 hk ac ae aa ab af;omega)
  by_cases p2:sb+m<=p
  ·rw[aj p (.inr p2),aj r (.inr (by clear p1 hr hp tl ah yz xz c2 hm ei c1 hk ac ae aa ab af;omega))];exact sB p r (by clear p1 hr ag hp tl ah yz xz c2 hm ei c1 hk ac ae aa ab af;omega) ag (by clear p2 p1 ag hp tl ah yz xz c2 hm ei c1 hk ac ae aa ab;omega)
  obtain⟨z,oz,ez,t,t1,t2,t3⟩:=ao p (by clear p2 hr ag hp tl ah yz xz c2 hm ei c1 hk ac ae aa ab af;omega) (by clear p1 hr ag hp tl ah yz xz c2 hm ei c1 hk ac ae aa ab af;omega);by_cases r2:sb+m<=r
  ·rw[aj r (.inr r2),ez,<- t3];by_cases tb:t<sb
   ·exact dn t r (by clear tb r2 t2 p2 p1 hr ag hp tl ah yz xz c2 hm ei c1 hk ac ae aa ab af;omega) tb r2 (by clear tb r2 t2 t1 p2 p1 ag hp tl ah yz xz c2 hm ei c1 hk ac ae aa ab;omega)
   ·exact sB t r (by clear r2 t2 t1 p2 p1 hr ag hp tl ah yz xz c2 hm ei c1 hk ac ae aa ab af;omega) (by clear tb t1 p2 p1 hr ag hp tl ah yz xz c2 hm ei c1 hk ac ae aa ab af;omega) (by clear tb r2 t2 t1 p2 p1 ag hp tl ah yz xz c2 hm ei c1 hk ac ae aa ab;omega)
  ·obtain⟨z',au,a0,_⟩:=ao r (by clear r2 t2 t1 p2 hr hp tl ah yz xz c2 hm ei c1 hk ac ae aa ab af;omega) (by clear t2 t1 p2 p1 hr ag hp tl ah yz xz c2 hm ei c1 hk ac ae aa ab af;omega);rw[ez,a0];exact bY O hd.2 (fun x mx=>by
    rcases mem_append.mp (hd.1.mem_iff.mp mx)with mx|mx
    ·exact xD x mx
    ·exact yD x mx) (show p-(sa+k)<=r-(sa+k) by clear r2 t2 t1 p2 p1 hr hp tl ah yz xz c2 hm ei c1 hk ac ae aa ab af;omega) oz au
 have al:1<=((cf st).extract (sa+k) sb).size:=by rw[xz];(clear yz xz c2 hm ei hk ac ae aa ab;omega)
 have am:1<=((cf st).extract sb (sb+m)).size:=by rw[yz];(clear al yz xz hm ei c1 hk ac ae aa ab af;omega)
 have al:1<=((cf st).extract (sa+k) sb).size:=by rw[xz];(clear am al yz xz c2 hm ei hk ac ae aa ab;omega)
 have am:1<=((cf st).extract sb (sb+m)).size:=by rw[yz];(clear al am yz xz hm ei c1 hk ac ae aa ab af;omega)
 by_cases c3:na-k<=m
 ·rw[ci c3];refine bw (GW O h.kd xD yD xS yS al am y0 xl fun out st' hd an=>?_);refine bw (kz (bw (qv ?_)));obtain⟨z1,z2⟩:=fin out st' _ hd an rfl rfl rfl rfl (mw st' (pf (fun a x=>a.setIfInBounds (sa+k+x.snd) x.fst) (cf st') out.toList.zipIdx)) rfl rfl rfl rfl;refine bz ?_;show Q (qo (mw st' (pf (fun a x=>a.setIfInBounds (sa+k+x.snd) x.fst) (cf st') out.toList.zipIdx))).isNone (mw st' (pf (fun a x=>a.setIfInBounds (sa+k+x.snd) x.fst) (cf st') out.toList.zipIdx));rw[z2];exact z1
 ·rw[cg c3];refine bw (GJ O h.kd xD yD xS yS al am y0 xl fun out st' hd an=>?_);refine bw (kz (bw (qv ?_)));obtain⟨z1,z2⟩:=fin out st' _ hd an rfl rfl rfl rfl (mw st' (pf (fun a x=>a.setIfInBounds (sa+k+x.snd) x.fst) (cf st') out.toList.zipIdx)) rfl rfl rfl rfl;refine bz ?_;show Q (qo (mw st' (pf (fun a x=>a.setIfInBounds (sa+k+x.snd) x.fst) (cf st') out.toList.zipIdx))).isNone (mw st' (pf (fun a x=>a.setIfInBounds (sa+k+x.snd) x.fst) (cf st') out.toList.zipIdx));rw[z2];exact z1
def Stk(lt:cq->cq->Bool)(xs:Array cq):Nat->List (Nat×Nat×Nat)->Nat->Prop
 |s,[],e=>s=e
 |s,r::p,e=>r.1=s/\1<=r.2.1/\Sg lt xs s (s+r.2.1)/\Stk lt xs (s+r.2.1) p e
theorem Stk.le{xs:Array cq}:∀{p:List (Nat×Nat×Nat)}{s e:Nat},Stk lt xs s p e->s+p.length<=e
 | [],s,e,h=>by have:s=e:=h;simp;omega
 |r::p,s,e,h=>by
  obtain⟨h1,h2,h3,h4⟩:=h;have:=Stk.le h4;rw[fu]
  (clear h1;omega)
theorem Stk.mono{xs ys:Array cq}:∀{p:List (Nat×Nat×Nat)}{s e:Nat},Stk lt xs s p e->(∀i,s<=i->i<e->G ys i=G xs i)->Stk lt ys s p e
 | [],s,e,h,_=>h
 |r::p,s,e,h,k=>by
  obtain⟨h1,h2,h3,h4⟩:=h;have:=Stk.le h4;refine⟨h1,h2,fun i j hi q hj=>?_,Stk.mono h4 fun i hi hj=>k i yw hj⟩;rw[k i yw yw,k j yw yw];exact h3 i j hi q hj
theorem Stk.push{xs:Array cq}{n w':Nat}:∀{p:List (Nat×Nat×Nat)}{s e:Nat},Stk lt xs s p e->1<=n->Sg lt xs e (e+n)->Stk lt xs s (p++[(e,n,w')]) (e+n)
 | [],s,e,h,h1,h2=>by
  have:s=e:=h;subst this;exact⟨rfl,h1,h2,rfl⟩
 |r::p,s,e,h,k1,k2=>by
  obtain⟨h1,h2,h3,h4⟩:=h;exact⟨h1,h2,h3,Stk.push h4 k1 k2⟩
theorem Stk.modLast{xs:Array cq}{pw:Nat}:∀{p:List (Nat×Nat×Nat)}{s e:Nat},Stk lt xs s p e->∀k,Stk lt xs s (p.modify k fun x=>(x.1,x.2.1,pw)) e
 | [],s,e,h,k=>by simpa using h
 |r::p,s,e,h,0=>by
  obtain⟨h1,h2,h3,h4⟩:=h;exact⟨h1,h2,h3,h4⟩
 |r::p,s,e,h,k+1=>by
  obtain⟨h1,h2,h3,h4⟩:=h;exact⟨h1,h2,h3,Stk.modLast h4 k⟩
theorem Stk.at{xs:Array cq}{sa na pw sb nb ac:Nat}:∀{p:List (Nat×Nat×Nat)}{s e i:Nat},Stk lt xs s p e->p[i]?=some (sa,na,pw)->p[i+1]?=some (sb,nb,ac) ->
  s<=sa/\sb=sa+na/\1<=na/\1<=nb/\sb+nb<=e/\Sg lt xs sa (sa+na)/\Sg lt xs sb (sb+nb)/\∀ys:Array cq,(∀j,j<sa\/sa+na+nb<=j->G ys j=G xs j)->Sg lt ys sa (sa+na+nb)->Stk lt ys s ((p.set i (sa,na+nb,pw)).eraseIdx (i+1)) e
 | [],s,e,i,_,h1,_=>by simp at h1
 |r::p,s,e,0,h,e1,e2=>by
  have er:r=(sa,na,pw):=by simpa using e1
  subst er;cases p with
  |nil=>simp at e2
  |cons r2 p=>
   have ag:r2=(sb,nb,ac):=by simpa using e2
   subst ag;obtain⟨h1,h2,h3,h5,h6,h7,h8⟩:=h;have ae:sa=s:=h1;have ah:sb=s+na:=h5;subst ae;have z:=Stk.le h8;have ab:1<=nb:=h6;have q:1<=na:=h2;subst ah;have af:Stk lt xs (sa+na+nb) p e:=h8;refine⟨cx _,rfl,q,ab,by have:sa+na+nb+p.length<=e:=z;(clear z h5 h6 q ab h1 h2;omega),h3,h7,fun ys k1 k2=>?_⟩;refine⟨rfl,by show 1<=na+nb;(clear z h5 h6 q h1 h2;omega),?_,?_⟩
   ·show Sg lt ys sa (sa+(na+nb));rw[<- Nat.add_assoc];exact k2
   ·show Stk lt ys (sa+(na+nb)) p e;rw[<- Nat.add_assoc];exact Stk.mono af fun i hi hj=>k1 i (.inr hi)
 |r::p,s,e,i+1,h,e1,e2=>by
  obtain⟨h1,h2,h3,h4⟩:=h;obtain⟨q1,q2,q3,q4,q5,q6,q7,q8⟩:=Stk.at h4 (by simpa using e1) (by simpa using e2);refine⟨by clear q5 q4 q3 q2 h2 h1;omega,q2,q3,q4,q5,q6,q7,fun ys k1 k2=>?_⟩;refine⟨h1,h2,fun i j hi aa hj=>?_,q8 ys k1 k2⟩;rw[k1 i (.inl (by clear hi q5 q4 q3 q2 h2 h1;omega)),k1 j (.inl (by clear aa hi q5 q4 q3 q2 h2 h1;omega))];exact h3 i j hi aa hj
theorem uZ(O:LtOk prog w A E s kd D lt){a₀:Array cq}{i lo:Nat}{st:fy}{Q:Bool->fy->Prop}(h:Ts kd D a₀ st)(hs:Stk lt (cf st) 0 (cr st).toList lo)(aa:lo<=a₀.size)(hi:i+1<(cr st).size)
  (q:∀st',Ts kd D a₀ st'->Stk lt (cf st') 0 (cr st').toList lo->(cr st').size+1=(cr st).size->(∀j,lo<=j->G (cf st') j=G (cf st) j)->Q true st'):wpS (model prog w) A E s (mergeAt' i) Q st:=by
 obtain⟨⟨sa,na,pw⟩,g1⟩:∃r,(cr st)[i]?=some r:=⟨_,ft yw⟩;obtain⟨⟨sb,nb,ab⟩,g2⟩:∃r,(cr st)[i+1]?=some r:=⟨_,ft yw⟩;obtain⟨q1,q2,q3,q4,q5,q6,q7,q8⟩:=Stk.at hs (i:=i) (by rw[<- jn]at g1;exact g1) (by rw[<- jn]at g2;exact g2);refine IT O h g1 g2 q2 q3 q4 yw q6 q7 fun st' hT hp hg hS=>?_;have z:(cr st').toList=((cr st).toList.set i (sa,na+nb,pw)).eraseIdx (i+1):=by
  rw[hp,Array.eraseIdxIfInBounds,dif_pos (by rw[Array.size_setIfInBounds];exact hi),Array.toList_eraseIdx,Array.toList_setIfInBounds]
 refine q st' hT ?_ ?_ fun j hj=>hg j (.inr yw)
 ·rw[z];exact q8 _ hg hS
 ·have:=congrArg List.length z;rw[List.length_eraseIdx_of_lt (by simp;omega),length_set,fe,fe]at this;omega
theorem JD(O:LtOk prog w A E s kd D lt){a₀:Array cq}{st:fy}{Q:Unit->fy->Prop}(h:Ts kd D a₀ st)(aq:cr st = #[])(h2:2<=a₀.size)
  (q:∀st',Ts kd D a₀ st'->Sg lt (cf st') 0 a₀.size->Q () st'):wpS (model prog w) A E s sortRuns' Q st:=by
 rw[sortRuns'_eq];refine bw (qv ?_);dsimp only;rw[h.size];generalize minRun' a₀.size a₀.size 0=mr;refine bw (ki (gf (a:=0)
  (I:=fun k c st'=>∃lo,c=(none,lo)/\k<=lo/\lo<=a₀.size/\Ts kd D a₀ st'/\Stk lt (cf st') 0 (cr st').toList lo)
  (Q:=fun c st'=>∃lo,c=(none,lo)/\lo=a₀.size/\Ts kd D a₀ st'/\Stk lt (cf st') 0 (cr st').toList lo) ?step ?fin ⟨0,rfl,cx _,ji _,h,by rw[aq];rfl⟩) ?post)
 case fin=>
  rintro c st' ⟨lo,rfl,k1,k2,hT,hS⟩;exact⟨lo,rfl,yw,hT,hS⟩
 case post=>
  rintro c st' ⟨lo,rfl,rfl,hT,hS⟩;dsimp only;have hz:=Stk.le hS;rw[fe]at hz;refine bw (ki (gf (a:=0)
   (I:=fun k c ab=>c=(none,())/\Ts kd D a₀ ab/\Stk lt (cf ab) 0 (cr ab).toList a₀.size/\(cr ab).size+k<=a₀.size+0\/c=(none,())/\Ts kd D a₀ ab/\Stk lt (cf ab) 0 (cr ab).toList a₀.size/\(cr ab).size<=1)
   (Q:=fun c ab=>c=(none,())/\Ts kd D a₀ ab/\Stk lt (cf ab) 0 (cr ab).toList a₀.size/\(cr ab).size<=1) ?stepF ?finF (.inl ⟨rfl,hT,hS,yw⟩)) ?postF)
  case finF=>
   rintro c ab (⟨rfl,h3,h4,h5⟩|hh)
   ·exact⟨rfl,h3,h4,yw⟩
   ·exact hh
  case stepF=>
   rintro k c ab _ hk hh;have ar:c=(none,())/\Ts kd D a₀ ab/\Stk lt (cf ab) 0 (cr ab).toList a₀.size/\((cr ab).size+k<=a₀.size\/(cr ab).size<=1):=by
    rcases hh with ⟨a1,a2,a3,a4⟩|⟨a1,a2,a3,a4⟩
    ·exact⟨a1,a2,a3,.inl yw⟩
    ·exact⟨a1,a2,a3,.inr a4⟩
   obtain⟨rfl,h3,h4,h5⟩:=ar;refine bw (qv ?_)
   try dsimp only
   by_cases d1:(cr ab).size<=1
   ·rw[ci d1];exact bz ⟨rfl,h3,h4,d1⟩
   rw[cg d1];generalize hgen:(if (if (cr ab).size-2>0 then Option.map (fun x=>x.snd.fst) (cr ab)[(cr ab).size-2-1]? else none).any (fun x=>decide (x<(cr ab)[(cr ab).size-2+1]?.elim 0 fun x=>x.snd.fst))=true then (cr ab).size-2-1 else (cr ab).size-2)=ii;have ap:ii+1<(cr ab).size:=by
    have hx:∀(P:Prop) (_:Decidable P),(if P then (cr ab).size-2-1 else (cr ab).size-2)+1<(cr ab).size:=fun P _=>by
     by_cases z:P
     ·rw[ci z];omega
     ·rw[cg z];omega
    rw[<- hgen];exact hx _ _
   refine bw (uZ O h3 h4 (cx _) ap fun an h6 s6 z6 g6=>?_);simp only[Bool.not_true,dh,if_false];exact bz (.inl ⟨rfl,h6,s6,yw⟩)
  case postF=>
   rintro c ab ⟨rfl,h3,h4,h5⟩;dsimp only;refine bz (q ab h3 ?_);cases hl:(cr ab).toList with
   |nil=>
    rw[hl]at h4;have:0=a₀.size:=h4;omega
   |cons r rest=>
    have hr:rest=[]:=by
     have:=congrArg List.length hl;rw[fe,fu]at this;exact gj yw
    rw[hl,hr]at h4;obtain⟨e1,e2,e3,e4⟩:=h4;have as:0+r.2.1=a₀.size:=e4;rw[<- as];exact e3
 case step=>
  rintro k c st' _ hk ⟨lo,rfl,k1,k2,hT,hS⟩;dsimp only;by_cases c1:lo≥a₀.size
  ·rw[ci c1];exact bz ⟨lo,rfl,yw,hT,hS⟩
  rw[cg c1];refine bw (Io O (hT.tb lo) yw yw fun m ab ao m1 m2 am=>?_);dsimp only;by_cases c2:m<mr
  ·rw[ci c2];refine bw (wpS_lift (kn ⟨rfl,?_⟩));refine bw (E1 O ao (n:=min (a₀.size-lo) mr) yw m1 yw am fun ae ag ai=>?_);simp only[Bool.not_true,dh,if_false];have n1:1<=min (a₀.size-lo) mr:=yw
   have n2:lo+min (a₀.size-lo) mr<=a₀.size:=yw
   generalize min (a₀.size-lo) mr=n at n1 n2 ai;have ah:Ts kd D a₀ ae:=⟨ag.kd,ag.fl,ag.pm,ag.d⟩;have ak:Stk lt (cf ae) 0 (cr ae).toList lo:=by
    rw[ag.pe];exact Stk.mono hS fun i _ hi=>ag.lo i hi
   refine bw (qv ?_);have fin:∀aa:fy,Ts kd D a₀ aa->Stk lt (cf aa) 0 (cr aa).toList lo->(∀j,lo<=j->G (cf aa) j=G (cf ae) j)->Stk lt (cf aa) 0 ((cr aa).push (lo,n,0)).toList (lo+n):=fun aa hM af ac=>by
    rw[toList_push];refine Stk.push af n1 fun i j hi al hj=>?_;rw[ac i hi,ac j yw];exact ai i j hi al hj
   cases hbk:(cr ae).back? with
   |none=>
    try dsimp only
    exact bw (kz (bz ⟨lo+n,rfl,yw,yw,⟨ah.kd,ah.fl,ah.pm,ah.d⟩,fin ae ah ak fun _ _=>rfl⟩))
   |some r=>
    obtain⟨s1,aj,w1⟩:=r
    try dsimp only
    generalize power' a₀.size (2*s1+aj) (2*s1+aj+aj+n) a₀.size=pw;refine bw (ki (gf (a:=0)
     (I:=fun _ c aa=>c=(none,())/\Ts kd D a₀ aa/\Stk lt (cf aa) 0 (cr aa).toList lo/\∀j,lo<=j->G (cf aa) j=G (cf ae) j)
     (Q:=fun c aa=>c=(none,())/\Ts kd D a₀ aa/\Stk lt (cf aa) 0 (cr aa).toList lo/\∀j,lo<=j->G (cf aa) j=G (cf ae) j) ?stepM (fun _ _ hh=>hh) ⟨rfl,ah,ak,fun _ _=>rfl⟩) ?postM)
    case stepM=>
     rintro kk c aa _ _ ⟨rfl,hM,af,ac⟩;refine bw (qv ?_)
     try dsimp only
     by_cases d1:(cr aa).size>1
     ·rw[ci d1];obtain⟨⟨oa,ob,oc⟩,og⟩:∃r,(cr aa)[(cr aa).size-2]?=some r:=⟨_,ft yw⟩;rw[og];dsimp only;by_cases d2:oc<=pw
      ·rw[ci d2];exact bz ⟨rfl,hM,af,ac⟩
      ·rw[cg d2];refine bw (uZ O hM af k2 yw fun an h5 s5 z5 g5=>?_);simp only[Bool.not_true,dh,if_false];exact bz ⟨rfl,h5,s5,fun j hj=>(g5 j hj).trans (ac j hj)⟩
     ·rw[cg d1];exact bz ⟨rfl,hM,af,ac⟩
    case postM=>
     rintro c aa ⟨rfl,hM,af,ac⟩;dsimp only;refine bw (kz (bw (kz (bz ⟨lo+n,rfl,yw,yw,⟨hM.kd,hM.fl,hM.pm,hM.d⟩,?_⟩))));refine fin (setPending aa ((cr aa).modify ((cr aa).size-1) fun x=>(x.1,x.2.1,pw))) ⟨hM.kd,hM.fl,hM.pm,hM.d⟩ ?_ ac;show Stk lt (cf aa) 0 ((cr aa).modify ((cr aa).size-1) fun x=>(x.1,x.2.1,pw)).toList lo;rw[Array.toList_modify];exact Stk.modLast af _
  ·rw[cg c2];have n1:1<=m:=m1;have n2:lo+m<=a₀.size:=yw
   have ai:=am;have ag:=ao;generalize m=n at n1 n2 ai
   revert ag ai
   generalize ab=ae;intro ag ai;have ah:Ts kd D a₀ ae:=⟨ag.kd,ag.fl,ag.pm,ag.d⟩;have ak:Stk lt (cf ae) 0 (cr ae).toList lo:=by
    rw[ag.pe];exact Stk.mono hS fun i _ hi=>ag.lo i hi
   refine bw (qv ?_);have fin:∀aa:fy,Ts kd D a₀ aa->Stk lt (cf aa) 0 (cr aa).toList lo->(∀j,lo<=j->G (cf aa) j=G (cf ae) j)->Stk lt (cf aa) 0 ((cr aa).push (lo,n,0)).toList (lo+n):=fun aa hM af ac=>by
    rw[toList_push];refine Stk.push af n1 fun i j hi al hj=>?_;rw[ac i hi,ac j yw];exact ai i j hi al hj
   cases hbk:(cr ae).back? with
   |none=>
    try dsimp only
    exact bw (kz (bz ⟨lo+n,rfl,yw,yw,⟨ah.kd,ah.fl,ah.pm,ah.d⟩,fin ae ah ak fun _ _=>rfl⟩))
   |some r=>
    obtain⟨s1,aj,w1⟩:=r
    try dsimp only
    generalize power' a₀.size (2*s1+aj) (2*s1+aj+aj+n) a₀.size=pw;refine bw (ki (gf (a:=0)
     (I:=fun _ c aa=>c=(none,())/\Ts kd D a₀ aa/\Stk lt (cf aa) 0 (cr aa).toList lo/\∀j,lo<=j->G (cf aa) j=G (cf ae) j)
     (Q:=fun c aa=>c=(none,())/\Ts kd D a₀ aa/\Stk lt (cf aa) 0 (cr aa).toList lo/\∀j,lo<=j->G (cf aa) j=G (cf ae) j) ?stepM (fun _ _ hh=>hh) ⟨rfl,ah,ak,fun _ _=>rfl⟩) ?postM)
    case stepM=>
     rintro kk c aa _ _ ⟨rfl,hM,af,ac⟩;refine bw (qv ?_)
     try dsimp only
     by_cases d1:(cr aa).size>1
     ·rw[ci d1];obtain⟨⟨oa,ob,oc⟩,og⟩:∃r,(cr aa)[(cr aa).size-2]?=some r:=⟨_,ft yw⟩;rw[og];dsimp only;by_cases d2:oc<=pw
      ·rw[ci d2];exact bz ⟨rfl,hM,af,ac⟩
      ·rw[cg d2];refine bw (uZ O hM af k2 yw fun an h5 s5 z5 g5=>?_);simp only[Bool.not_true,dh,if_false];exact bz ⟨rfl,h5,s5,fun j hj=>(g5 j hj).trans (ac j hj)⟩
     ·rw[cg d1];exact bz ⟨rfl,hM,af,ac⟩
    case postM=>
     rintro c aa ⟨rfl,hM,af,ac⟩;refine bw (kz (bw (kz (bz ⟨lo+n,rfl,yw,yw,⟨hM.kd,hM.fl,hM.pm,hM.d⟩,?_⟩))));refine fin (setPending aa ((cr aa).modify ((cr aa).size-1) fun x=>(x.1,x.2.1,pw))) ⟨hM.kd,hM.fl,hM.pm,hM.d⟩ ?_ ac;show Stk lt (cf aa) 0 ((cr aa).modify ((cr aa).size-1) fun x=>(x.1,x.2.1,pw)).toList lo;rw[Array.toList_modify];exact Stk.modLast af _
end
end L2
namespace L2
open PySem PySem.Spec PySem.Calls PyProof.Rows PySem.W
section
variable {prog:fg}{w:ga}{A:fv}{E:bn->bp->Prop}{s:bp}
theorem Fc{α:Type}{r:α->α->Prop}{l:List α}(h:l.length<2):l.Pairwise r:=by
 cases l with
 |nil=>exact .nil
 |cons x l=>
  cases l with
  |nil=>exact List.pairwise_singleton _ _
  |cons y l=>exact absurd h yv
theorem FS{a:Addr}{vs:List bn}{n:Nat}{kd:ra}{lt:cq->cq->Bool}{P:PySem.Fin->bp->Prop}(ho:s.heap.get? a=some (jy "list" vs.toArray n))(hz:vs.length<=10000000)
  (hkd:∀h3,KeptBut a s.heap h3->∀(Q:ra->bp->Prop),2<=vs.length->Q kd { s with heap:=h3 }->cj (model prog w) A (keyKind' vs.toArray) Q E { s with heap:=h3 })
  (hO:∀h3,KeptBut a s.heap h3->LtOk prog w A E { s with heap:=h3 } kd (fun x=>x.1=x.2/\x.1∈vs) lt)
  (h:∀h' c (out:List bn),KeptBut a s.heap h'->out.Perm vs->out.Pairwise (fun x y=>lt (y,y) (x,x)=false)->h'.get? a=some (jy "list" out.toArray c)->P (.done (.ret .none)) { s with heap:=h' }):
  cj (model prog w) A (ls.«list.sort» ⟨[.ref a],[]⟩) P E s:=by
 have ha:a<s.heap.objs.size:=fm ho;have s1:=kq s.heap a (gm fun _=>(#[]:Array bn));obtain⟨e1,ab⟩:∃e1,(s.heap.update a (gm fun _=>(#[]:Array bn))).get? a=some (jy "list" #[] e1):=⟨_,qu ho fun _=>#[]⟩;have keep:KeptBut a s.heap (((s.heap.update a (gm fun _=>(#[]:Array bn))).push (jy "tuple" vs.toArray 0)).push (jy "list" #[] 0)):=fun b o nb e=>
  bu _ (bu _ ((s1.2 b nb).trans e))
 have q:(((s.heap.update a (gm fun _=>(#[]:Array bn))).push (jy "tuple" vs.toArray 0)).push (jy "list" #[] 0)).get? a=some (jy "list" #[] e1):=bu _ (bu _ ab);rw[list_sort_plain];refine bj (listItems_at ho rfl ?_);refine bj (listUpdate_at ho rfl ?_ (by rw[cz,jj];omega) (ji _));refine bj (seqEpoch_at ab rfl ?_);refine bj (wpAny_newTuple ?_ (by show vs.length<=_;rw[jj];omega));refine bj (wpAny_newList ?_ (ji _));refine ix ?_;show cj (model prog w) A _ P E { s with heap:=((s.heap.update a (gm fun _=>(#[]:Array bn))).push (jy "tuple" vs.toArray 0)).push (jy "list" #[] 0) };generalize ((s.heap.update a (gm fun _=>(#[]:Array bn))).push (jy "tuple" vs.toArray 0)).push (jy "list" #[] 0)=h3 at keep q ⊢;dsimp only;by_cases hn2:vs.toArray.size<2
 ·rw[ci hn2,ci hn2];refine bj (bq ?_);rw[StateT.run_pure];refine bj (bq ?_);dsimp only;have eo:(cf (SortSt.mk' general' (vs.toArray.zip vs.toArray) #[] 7 none)).map (·.2)=ko vs:=by
   apply Array.toList_inj.mp;show ((vs.toArray.zip vs.toArray).map (·.2)).toList=vs;rw[Array.toList_map,Array.toList_zip,List.map_snd_zip (cx _)]
  rw[eo];have s2:=kq h3 a (gm fun _=>ko vs);obtain⟨c2,aa⟩:∃c2,(h3.update a (gm fun _=>ko vs)).get? a=some (jy "list" (ko vs) c2):=⟨_,qu q fun _=>ko vs⟩;refine bj (seqEpoch_at q rfl ?_);refine bj (listUpdate_at q rfl ?_ (ji _) (by show (ko vs).size<=_;rw[cz,jj];omega));simp only[bne_self_eq_false,dh,if_false];refine bq (h _ c2 vs (fun b o nb e=>(s2.2 b nb).trans (keep b o nb e)) (oo _) ?_ aa);rw[cz]at hn2;exact Fc hn2
 ·rw[cg hn2,cg hn2];rw[cz]at hn2;refine bj (hkd h3 keep _ yw ?_);have O:=hO h3 keep;have hT:Ts kd (fun x:cq=>x.1=x.2/\x.1∈vs) (pairsOf vs) (SortSt.mk' kd (vs.toArray.zip vs.toArray) #[] 7 none):=⟨rfl,rfl,Array.Perm.refl _,fun x m=>by
   rw[pairsOf_toList]at m;exact mem_zip_self m⟩
  refine bj (nv (JD O (Q:=fun _ st'=>Ts kd (fun x:cq=>x.1=x.2/\x.1∈vs) (pairsOf vs) st'/\Sg lt (cf st') 0 (pairsOf vs).size) hT rfl (by rw[pairsOf_size];omega) fun st' a1 a2=>⟨a1,a2⟩) ?_ fun _ _ e=>e);rintro⟨⟨⟩,st'⟩ s' ⟨rfl,hT',hS'⟩;dsimp only;have hp:((cf st').toList.map (·.2)).Perm vs:=by
   have h1:=(Array.perm_iff_toList_perm.mp hT'.pm).map (·.2);rw[pairsOf_toList,List.map_snd_zip (cx _)]at h1;exact h1
  have hs:((cf st').toList.map (·.2)).Pairwise (fun x y=>lt (y,y) (x,x)=false):=by
   rw[List.pairwise_map,List.pairwise_iff_getElem];intro i j hi hj ae;have ac:i<(pairsOf vs).size:=by rw[<- hT'.size];simpa using hi
   have z:j<(pairsOf vs).size:=by rw[<- hT'.size];simpa using hj
   have g1:=hT'.at ac;have g2:=hT'.at z;rw[zV,cv hi]at g1;rw[zV,cv hj]at g2;have d1:=(hT'.dd ac).1;have d2:=(hT'.dd z).1;rw[gk g1,gk g2];have z1:((G (cf st') i).2,(G (cf st') i).2)=G (cf st') i:=Prod.ext d1.symm rfl;have z2:((G (cf st') j).2,(G (cf st') j).2)=G (cf st') j:=Prod.ext d2.symm rfl;rw[z1,z2];exact hS' i j (ji _) (ku ae) z
  have eo:(cf st').map (·.2)=ko ((cf st').toList.map (·.2)):=by
   apply Array.toList_inj.mp;rw[Array.toList_map]
  rw[eo];generalize (cf st').toList.map (·.2)=out at hp hs;have s2:=kq h3 a (gm fun _=>ko out);obtain⟨c2,aa⟩:∃c2,(h3.update a (gm fun _=>ko out)).get? a=some (jy "list" (ko out) c2):=⟨_,qu q fun _=>ko out⟩;refine bj (seqEpoch_at q rfl ?_);refine bj (listUpdate_at q rfl ?_ (ji _) (by show (ko out).size<=_;rw[cz,hp.length_eq,jj];omega));rw[hT'.fl];simp only[bne_self_eq_false,dh,if_false];exact bq (h _ c2 out (fun b o nb e=>(s2.2 b nb).trans (keep b o nb e)) hp hs aa)
theorem IZ{kd:ra}{x y:cq}{b:Bool}{st:fy}{Q:Option Bool->fy->Prop}(hk:kindOf st=kd)(h:cj (model prog w) A (keyLt' kd x.1 y.1) (fun c s'=>s'=s/\c=b) (fun _ _=>False) s)(q:Q (some b) st):wpS (model prog w) A E s (lt' x y) Q st:=by
 rw[lt'_eq];refine bw (qv ?_);rw[hk];refine bw (wpS_lift (wpAny_attempt (nv h (fun c s' hc=>?_) fun _ _ e=>e.elim)));obtain⟨rfl,rfl⟩:=hc;exact⟨rfl,bz q⟩
theorem Gd{vs:List bn}{kd:ra}{lt:cq->cq->Bool}{P:PySem.Fin->bp->Prop}(hz:vs.length<=10000000)
  (hkd:∀(A':fv) (E':bn->bp->Prop) h3,(∀b o,s.heap.get? b=some o->h3.get? b=some o)->∀(Q:ra->bp->Prop),2<=vs.length->Q kd { s with heap:=h3 }->cj (model prog w) A' (keyKind' vs.toArray) Q E' { s with heap:=h3 })
  (hO:∀(A':fv) (E':bn->bp->Prop) h3,(∀b o,s.heap.get? b=some o->h3.get? b=some o)->LtOk prog w A' E' { s with heap:=h3 } kd (fun x=>x.1=x.2/\x.1∈vs) lt)
  (h:∀D h' c (out:List bn),s.heap.objs.size<=D->(∀b o,s.heap.get? b=some o->h'.get? b=some o)->out.Perm vs->out.Pairwise (fun x y=>lt (y,y) (x,x)=false)->h'.get? D=some (jy "list" out.toArray c)->P (.done (.ret (.ref D))) { s with heap:=h' }):
  cj (model prog w) A (newList vs >>= fun l=>holding [l] (call (.builtin "list.sort") [l] []) >>= fun _=>ret l) P E s:=by
 refine bj (wpAny_newList ?_ (by show vs.length<=_;rw[jj];omega));have z:(s.heap.push (jy "list" vs.toArray 0)).get? s.heap.objs.size=some (jy "list" vs.toArray 0):=df _ rfl;have keep:∀b o,s.heap.get? b=some o->(s.heap.push (jy "list" vs.toArray 0)).get? b=some o:=fun b o q=>bu _ q;show cj _ _ _ _ _ { s with heap:=s.heap.push (jy "list" vs.toArray 0) };refine bj (ix (jq slot_list_sort ⟨_,z,rfl⟩ entry_list_sort ?body (args_list_sort _)))
 case body=>
  refine FS (s:={ s with heap:=s.heap.push (jy "list" vs.toArray 0) }) (kd:=kd) (lt:=lt) z hz (fun h3 k=>hkd _ _ h3 fun b o e=>k b o (gh (fm e)) (keep b o e)) (fun h3 k=>hO _ _ h3 fun b o e=>k b o (gh (fm e)) (keep b o e)) fun h' c out k1 hp hs k2=>?_;exact⟨_,rfl,bq (h _ h' c out (cx _) (fun b o e=>k1 b o (gh (fm e)) (keep b o e)) hp hs k2)⟩
end
def mQ:List XV->Sto->RX->Prop:=fun xs S R=>arg1 xs fun x=>∃m:List (Key×bo),x=.d (.dict (DD.pairs (.k m)))/\∃ns:List Int,m.map (·.1)=ns.map Sum.inl/\ns.length<=10000000/\∀ms:List Int,ms.Perm ns->ms.Pairwise (· <= ·)->R (.d (.list (ms.map dj))) S
end L2
namespace L2
open PySem PySem.Spec PySem.Calls PyProof.Rows
def mJ(j:Nat)(dk dv:DM->DE):DSm:=fun En δ S M=>zg j δ S fun y S1=>∃a m,y=.o (.ref a)/\(a,DD.k m)∈M/\dk M δ S1 fun z S2=>dv M δ S2 fun x S3=>asD z fun k=>asD x fun d=>∃kk,iF k=some kk/\m.length<1000/\if (lkA m kk).isSome=true then En.nx δ S3 M else En.nx δ S3 (Gn M a (.k (ptA m kk d)))
def nN(k:Int)(e:DE):DE:=fun δ S R=>e δ S fun x S1=>asD x fun d=>R (.d (.dict [(.int k,d)])) S1
end L2
namespace L2
theorem len0{α:Type}{l:List α}(h:l.length=0):l=[]:=gj h
theorem len1{α:Type}{l:List α}(h:l.length=1):∃a0,l=[a0]:=by
 cases l with
 |nil=>cases h
 |cons x r=>
  obtain rfl:=len0 (rc h);exact⟨x,rfl⟩
theorem len2{α:Type}{l:List α}(h:l.length=2):∃a0 a1,l=[a0,a1]:=by
 cases l with
 |nil=>cases h
 |cons x r=>
  obtain⟨a1,rfl⟩:=len1 (rc h);exact⟨x,a1,rfl⟩
theorem len3{α:Type}{l:List α}(h:l.length=3):∃a0 a1 a2,l=[a0,a1,a2]:=by
 cases l with
 |nil=>cases h
 |cons x r=>
  obtain⟨a1,a2,rfl⟩:=len2 (rc h);exact⟨x,a1,a2,rfl⟩
theorem len4{α:Type}{l:List α}(h:l.length=4):∃a0 a1 a2 a3,l=[a0,a1,a2,a3]:=by
 cases l with
 |nil=>cases h
 |cons x r=>
  obtain⟨a1,a2,a3,rfl⟩:=len3 (rc h);exact⟨x,a1,a2,a3,rfl⟩
theorem len5{α:Type}{l:List α}(h:l.length=5):∃a0 a1 a2 a3 a4,l=[a0,a1,a2,a3,a4]:=by
 cases l with
 |nil=>cases h
 |cons x r=>
  obtain⟨a1,a2,a3,a4,rfl⟩:=len4 (rc h);exact⟨x,a1,a2,a3,a4,rfl⟩
theorem len6{α:Type}{l:List α}(h:l.length=6):∃a0 a1 a2 a3 a4 a5,l=[a0,a1,a2,a3,a4,a5]:=by
 cases l with
 |nil=>cases h
 |cons x r=>
  obtain⟨a1,a2,a3,a4,a5,rfl⟩:=len5 (rc h);exact⟨x,a1,a2,a3,a4,a5,rfl⟩
end L2
namespace L2
open PySem PySem.Spec PySem.Calls PyProof.Rows
open Sem (wp)
def kL(a:DA):DE:=fun δ S R=>a δ S fun xs S1=>arg2 xs fun x y=>∃ds,eK x=some ds/\∃es,eK y=some es/\min ds.length es.length<=1000/\R (.d (.list (sI ds es))) S1
end L2
namespace L2
open PySem PySem.Spec PyProof.Rows
section
theorem lo{sc:Scope}{x:Str}(h:sc.names.lookup x=some .local:=by rfl):Loc sc x:=gx h
theorem fsd{N P:List Str}{sc:Scope}(h:rY N P sc=true:=by decide +kernel):FnScope N P sc:=fsc h
end
end L2
namespace L2
open PySem PySem.Spec PySem.Calls PyProof.Rows
inductive AllK {α:Type} (F:α->bn->Prop):List α->List bn->Prop
 |nil:AllK F [] []
 |cons {k v ks vs}:F k v->AllK F ks vs->AllK F (k::ks) (v::vs)
section
variable {prog:fg}{w:ga}{A:fv}{E:bn->bp->Prop}{s:bp}
theorem Hf{b:Bool}{Q:Int->bp->Prop}(h:Q (reduceHash (match b with|true=>1|false=>0)) { s with toks:=s.toks+1 }):cj (model prog w) A (pyHash (.bool b)) Q E s:=by
 refine W.pyHash_slot (T:="bool") rfl F.slot_bool_hash PySem.entry_int_hash (PySem.args_int_hash _) (beq_builtin_none _) (.inl rfl) ?_;cases b
 ·exact(show cj _ _ (do ret (<- mkInt 0)) _ _ s from bj (wpAny_mkInt (bq ⟨_,_,rfl,h⟩)))
 ·exact(show cj _ _ (do ret (<- mkInt 1)) _ _ s from bj (wpAny_mkInt (bq ⟨_,_,rfl,h⟩)))
theorem Ij(a b:Bool):(a==b)=decide (a=b):=by cases a<;>cases b<;>rfl
end
end L2
namespace L2
open PySem PySem.Spec PyProof.Rows
section
def hB(b:Bool):Int:=reduceHash (match b with|true=>1|false=>0)
def jJ(b:Bool):bn->Bool
 | .bool c=>b==c
 |_=>false
theorem lH{b:Bool}{v:bn}(h:jJ b v=true):v=.bool b:=by
 cases v with
 |bool c=>rw[eq_of_beq (show (b==c)=true from h)]
 |_=>cases h
theorem Fs{prog:fg}{w:ga}{A:fv}{E:bn->bp->Prop}{s:bp}{a b:Bool}{u v:bn}{Q:Bool->bp->Prop}(hu:jJ a u=true)(hv:jJ b v=true)(h:Q (decide (a=b)) s):cj (model prog w) A (eqBool u v) Q E s:=by
 rw[lH hu,lH hv];exact PySem.SeqAt.EqAt.bool_bool a b _ _ _ _ (by rw[Ij];exact h)
def gK(prog:fg)(w:ga):KeyKind prog w Bool where
 is:=jJ
 hash:=hB
 inj:=fun v a b h1 h2=>by
  rw[lH h1]at h2;exact(eq_of_beq (show (b==a)=true from h2)).symm
 byValue:=fun k v h=>by rw[lH h];rfl
 pyHash:=fun hv h=>by rw[lH hv];exact Hf h
 eqBool:=fun hu hv h=>Fs hu hv h
 «strs»:=fun _ _ _ _ h=>nomatch h
def kB(e:Int×bn):Bool:=match e.2 with
 | .bool b=>b
 |_=>false
def OkB(e:Int×bn):Prop:=∃n,e.2=.bool n/\e.1=hB n
theorem Hl{e:Int×bn}{n:Bool}(h:e.2=.bool n):kB e=n:=by
 unfold kB;rw[h]
def SetB(led:Bool)(h:Heap)(a:Addr)(es:Array (Int×bn)):Prop:=∃(o:Obj) (ep:Nat) (t:ju),
 h.get? a=some o/\o.ExactSet/\o.data=.set es ep t/\(∀e∈es.toList,OkB e)/\(es.toList.map kB).Nodup/\es.size<100/\Tab led t es.size
theorem SetB.at{led:Bool}{h g:Heap}{a:Addr}{es:Array (Int×bn)}(q:SetB led h a es)(f:∀o,h.get? a=some o->g.get? a=some o):SetB led g a es:=by
 obtain⟨o,ep,t,h1,r⟩:=q;exact⟨o,ep,t,f o h1,r⟩
section
variable {prog:fg}{w:ga}{A:fv}{E:bn->bp->Prop}{s:bp}{led:Bool}
theorem Dn{l:List (Int×bn)}(h:∀e∈l,OkB e):ElemsOf (gK prog w) l:=fun e m=>by
 obtain⟨n,e1,e2⟩:=h e m;refine⟨⟨n,?_,e2⟩,?_⟩
 ·rw[e1];exact beq_self_eq_true n
 ·rw[e1];rfl
theorem yB{k:Bool}{e:Int×bn}(h:OkB e):jJ k e.2=true↔kB e=k:=by
 obtain⟨n,e1,e2⟩:=h;rw[Hl e1,e1];show (k==n)=true↔n=k;rw[beq_iff_eq];exact eq_comm
theorem vK{h:Heap}{a:Addr}{o:Obj}{es q:Array (Int×bn)}{ep:Nat}{t t':ju}(ho:h.get? a=some o)(z:o.ExactSet)(hd:o.data=.set es ep t)
  (h1:∀e∈q.toList,OkB e) (h2:(q.toList.map kB).Nodup) (h3:q.size<100) (h4:Tab led t' q.size):
  (h.update a (Obj.putSet q t')).get? a=some { o with data:=.set q (ep+1) t' }/\SetB led (h.update a (Obj.putSet q t')) a q:=by
 have hg:=kx (Obj.putSet q t') ho (by rw[putSet_of q t' hd];rfl);rw[putSet_of q t' hd]at hg;exact⟨hg,_,_,_,hg,z,rfl,h1,h2,h3,h4⟩
theorem C4{g:Bool->Sem Unit}(hg:∀(b:Bool) (s1:bp) (Q':Unit->bp->Prop),Q' () s1->cj (model prog w) A (g b) Q' E s1){a:Addr}{o:Obj}{es q:Array (Int×bn)}{ep:Nat}{t t2:ju}
  (ho:s.heap.get? a=some o) (hex:o.ExactSet) (hd:o.data=.set es ep t) (h1:∀e∈q.toList,OkB e) (h2:(q.toList.map kB).Nodup) (h3:q.size<100) (h4:Tab led t2 q.size) {wd:Bool}{R:Option Bool->bp->Prop}
  (h:∀h' es',kl a s.heap h'->SetB led h' a es'->es'.toList.Perm q.toList->R (some true) { s with heap:=h' }):
  cj (model prog w) A (do
    storeSet a q t2
    if (!wd&&t2.tooFull)=true then do
     g (relayAll t2 q (qg q.size)).2.2
     storeSet a (relayAll t2 q (qg q.size)).1 (relayAll t2 q (qg q.size)).2.1
     pure (some true)
    else pure (some true)) R E s:=by
 obtain⟨ab,ae⟩:=vK (led:=led) ho hex hd h1 h2 h3 h4;have aa:=kq s.heap a (Obj.putSet q t2);refine bj (wpAny_storeSet_of ho hd ?_ (fits_of_scanBound (rC h3)));split
 ·have hp:=relayAll_perm t2 q (qg q.size);have ht:=HE (led:=led) (t:=t2) (es:=q) h4.led (qg q.size);generalize relayAll t2 q (qg q.size)=Rl at hp ht ⊢;obtain⟨z,t3,gv⟩:=Rl;dsimp only at hp ht ⊢;have ez:z.size=q.size:=by
   have:=hp.length_eq
   rwa [fe,fe]at this
  have q1:∀e∈z.toList,OkB e:=fun e m=>h1 e (hp.mem_iff.mp m);have q2:(z.toList.map kB).Nodup:=(hp.map kB).nodup_iff.mpr h2;refine bj (hg _ _ _ ?_);refine bj (wpAny_storeSet_of ab rfl ?_ (fits_of_scanBound (rC yw)));obtain⟨_,ac⟩:=vK (led:=led) ab hex rfl q1 q2 yw ht;exact bq (h _ _ (aa.trans (kq _ a _)) ac hp)
 ·exact bq (h _ _ aa ae (oo _))
theorem Es{a:Addr}{es:Array (Int×bn)}{k:Bool}{Q:Bool->bp->Prop}(hS:SetB led s.heap a es)(hr:es.size+1<100)
  (h:∀b h' q,kl a s.heap h'->SetB led h' a q->(∀x,x∈q.toList.map kB↔x∈es.toList.map kB\/x=k)->q.size<=es.size+1->Q b { s with heap:=h' }):
  cj (model prog w) A (setAddHashed a (.bool k) (hB k)) Q E s:=by
 obtain⟨o,ep,t,ho,ab,hd,h1,h2,h3,h4⟩:=hS;have ae:ElemsOf (gK prog w) es.toList:=Dn h1;have af:(gK prog w).is k (.bool k)=true:=beq_self_eq_true k;unfold setAddHashed setAddHashedIn;refine ix (bj (nr ho hd h4.fits ?_));dsimp only;rw[byScan_of (knd:=gK prog w) rfl (rC h3) ae];simp only[↓reduceIte];unfold setAddByScan;refine bj (bj (kn (bj (wpAny_setScan_of (knd:=gK prog w) af ho hd h4.fits ae ?_))));cases hr':List.findIdx? (fun e=>(gK prog w).is k e.2) es.toList with
 |some j=>
  dsimp only;obtain⟨hj,ah,_⟩:=List.findIdx?_eq_some_iff_getElem.mp hr';have hm:k∈es.toList.map kB:=mem_map.mpr ⟨es.toList[j],ot hj,(yB (h1 _ (ot hj))).mp ah⟩;refine bq (bq ?_);have:=h false s.heap es (Heap.SameBut.refl a s.heap) ⟨o,ep,t,ho,ab,hd,h1,h2,h3,h4⟩ (fun x=>⟨.inl,fun z=>z.elim id fun e=>e▸hm⟩) yw;exact this
 |none=>
  dsimp only;have hm:k∉es.toList.map kB:=fun m=>by
   obtain⟨e,me,ek⟩:=mem_map.mp m;have:=List.findIdx?_eq_none_iff.mp hr' e me;rw[show (gK prog w).is k e.2=jJ k e.2 from rfl,(yB (h1 e me)).mpr ek]at this;cases this
  have ag:∀(b:Bool) (s1:bp) (Q':Unit->bp->Prop),Q' () s1->cj (model prog w) A (match b with|true=>rule "set.scan.the-table-gave-way" | false=>pure ()) Q' E s1:=
   fun b s1 Q' hq=>by cases b<;>first|exact bq hq|exact kn hq
  have hp:=layNew_perm t es (hB k) (.bool k);have ht:=Iz (led:=led) (es:=es) h4 (hB k) (.bool k);generalize layNew t es (hB k) (.bool k)=L at hp ht ⊢;obtain⟨aa,t1,wd,gv⟩:=L;dsimp only at hp ht ⊢;rw[toList_push]at hp;have ez:aa.size=es.size+1:=by
   have:=hp.length_eq
   rwa [fe,cu,fe,fk]at this
  have kk:kB (hB k,ke k)=k:=rfl;have q1:∀e∈aa.toList,OkB e:=fun e m=>by
   rcases mem_append.mp (hp.mem_iff.mp m)with m|m
   ·exact h1 e m
   ·rw[mem_singleton.mp m];exact⟨k,rfl,rfl⟩
  have ac:(aa.toList.map kB).Perm (es.toList.map kB++[k]):=by
   have:=hp.map kB
   rwa [jm,pk,kk]at this
  have q2:(aa.toList.map kB).Nodup:=by
   rw[ac.nodup_iff,nodup_append];exact⟨h2,yv,fun x mx y my e=>by rw[mem_singleton.mp my]at e;rw[e]at mx;exact hm mx⟩
  have fin:∀h' q,kl a s.heap h'->SetB led h' a q->q.toList.Perm aa.toList->Q true { s with heap:=h' }:=fun h' q sb S' p=>
   h true h' q sb S' (fun x=>by
    rw[((p.map kB).trans ac).mem_iff,mem_append,mem_singleton]) (by
    have:=p.length_eq;rw[fe,fe]at this;omega)
  refine bj (ag _ _ _ ?_);split
  ·refine bj ?_;show cj _ _ (pure true) _ _ _;refine bq ?_;refine C4 (led:=led) (fun b s1 Q' hq=>by cases b<;>first|exact bq hq|exact kn hq) ho ab hd q1 q2 yw ht fun h' q sb S' p=>?_;dsimp only;exact bq (fin h' q sb S' p)
  ·refine bj (bq ?_);simp only[↓reduceIte];refine C4 (led:=led) (fun b s1 Q' hq=>by cases b<;>first|exact bq hq|exact kn hq) ho ab hd q1 q2 yw ht fun h' q sb S' p=>?_;dsimp only;exact bq (fin h' q sb S' p)
theorem HD{a:Addr}{es:Array (Int×bn)}{k:Bool}{Q:Bool->bp->Prop}(hS:SetB led s.heap a es)(hr:es.size+1<100)
  (h:∀b h' es',kl a s.heap h'->SetB led h' a es'->(∀x,x∈es'.toList.map kB↔x∈es.toList.map kB\/x=k)->es'.size<=es.size+1->Q b { s with heap:=h',toks:=s.toks+1 }):
  cj (model prog w) A (setAdd a (.bool k)) Q E s:=by
 unfold setAdd;refine ix (bj ((gK prog w).pyHash (k:=k) (beq_self_eq_true k) ?_));exact Es (led:=led) (s:={ s with toks:=s.toks+1 }) hS hr h
theorem two_most(l:List Bool)(h:l.Nodup):l.length<=2:=by
 rcases Nat.lt_or_ge 2 l.length with z|z
 ·exfalso
  match l,h,z with
  |a::b::c::r,h,_=>
   simp only[nodup_cons,iq,not_or]at h;obtain⟨⟨h1,h2,_⟩,⟨h3,_⟩,_⟩:=h;cases a<;>cases b<;>cases c<;>simp_all
 ·exact z
theorem SetB.two{led:Bool}{h:Heap}{a:Addr}{es:Array (Int×bn)}(q:SetB led h a es):es.size<=2:=by
 obtain⟨_,_,_,_,_,_,_,nd,_⟩:=q;have:=two_most _ nd
 rwa [ff,fe]at this
theorem Ii{R:Result->bp->Prop}{I:Addr}{fp wr:List Addr}{G:Array GenState->Array GenState->Prop}{n:Nat}{P:Nat->bn->Prop}{St:Nat->bp->Prop}{led:Bool}(W:WalksS prog w A.in1 I fp wr G n P St)(S:Addr)(ac:S∉fp)
  (key:Nat->Bool) (hP:∀i v,P i v->v=.bool (key i)):
  ∀(m i:Nat) (s:bp) (es:Array (Int×bn)),n-i=m->i<=n->St i s->SetB led s.heap S es->(∀x,x∈es.toList.map kB↔∃j,j<i/\x=key j) ->
  (∀s' q,Moved (S::wr) G s s'->SetB led s'.heap S q->(∀x,x∈q.toList.map kB↔∃j,j<n/\x=key j)->R (.ok (.ret .none)) s') ->
  pb (model prog w) A (.builtin "set.update.loop" ⟨[.ref S,.ref I],[]⟩) R s:=by
 have ag:S∉wr:=fun h=>ac (W.sub _ h);have aa:∀b∈wr,b∈S::wr:=fun b hb=>fb _ hb;intro m;induction m with
 |zero=>
  intro i s es hm hi ab hS hk hR;obtain rfl:i=n:=yw
  refine jp F4.entry_update_loop ?_;rw[gy F4.plain_update_loop _];show cj _ A.in1 (ox (.ref I) >>= _) _ _ s;refine bj (W.done s _ _ ab fun s' mv=>?_);exact bq (hR s' es (mv.mono aa) (hS.at fun o e=>mv.heap S o ag e) hk)
 |succ m ih=>
  intro i s es hm hi ab hS hk hR;have ah:i<n:=yw
  refine jp F4.entry_update_loop ?_;rw[gy F4.plain_update_loop _];show cj _ A.in1 (ox (.ref I) >>= _) _ _ s;refine bj (W.item i s _ _ ah ab fun v s' hv ae mv=>?_);obtain rfl:=hP i v hv;have af:SetB led s'.heap S es:=hS.at fun o e=>mv.heap S o ag e;refine bj (ix (HD af (by have:=af.two;omega) fun b h' q sb S' mk z'=>?_));refine bq ⟨lh F4.plain_update_loop _,ih (i+1) _ q yw ah (W.frame _ s' h' (s'.toks+1) ae (le_succ _) fun b hb o e=>sb.extBut b o (fun z=>ac (z▸hb)) e) S' (fun x=>?_) fun s'' es'' mv'' S'' k''=>?_⟩
  ·rw[mk x,hk x];constructor
   ·rintro(⟨j,hj,e⟩|e)
    ·exact⟨j,yw,e⟩
    ·exact⟨i,yw,e⟩
   ·rintro⟨j,hj,e⟩;by_cases z:j=i
    ·subst z;exact .inr e
    ·exact .inl ⟨j,yw,e⟩
  ·exact hR s'' es'' (Moved.trans W.gtrans ((mv.mono aa).then_heap (le_succ _) fun b o hb e=>sb.extBut b o (fun z=>hb (z▸fi)) e) mv'') S'' k''
theorem DC{S l:Addr}{vs:Array bn}{ns:List Bool}{led:Bool}{Q:Unit->bp->Prop}(hh:A.handled=none)(hS:SetB led s.heap S #[])(hl:s.heap.IsList l vs)(hz:vs.size=ns.length)(hv:∀(i:Nat) v,vs[i]?=some v->v=.bool (ns.getD i false))
  (h:∀h' tk es,(∀b o,b≠S->s.heap.get? b=some o->h'.get? b=some o)->SetB led h' S es->(∀x,x∈es.toList.map kB↔x∈ns)->Q () { s with heap:=h',toks:=tk }):
  cj (model prog w) A (Builtin.Frozenset.updateFrom "set.__init__" S (.ref l)) Q E s:=by
 have ty:s.TypeIs (.ref l) "list":=by
  obtain⟨o,e,c,_⟩:=hl;exact⟨o,e,c⟩
 have lS:l≠S:=fun e=>by
  obtain⟨o,_,_,e1,c1,_⟩:=hS;obtain⟨o',e',c',_⟩:=hl;rw[e,e1]at e';cases e';rw[c1.1]at c';simp at c'
 unfold Builtin.Frozenset.updateFrom Builtin.Frozenset.isAnySet;refine bj (bj (lx ty F4.sub_list_set (lx ty F4.sub_list_frz ?_)));simp only[dh,if_false];refine bj (pc ty ?_);rw[cg dz];refine bj (qd hl ?_);obtain⟨o,eo⟩:∃o,s.heap.get? l=some o:=⟨_,hl.choose_spec.1⟩;obtain⟨oS,eS⟩:∃o,s.heap.get? S=some o:=⟨_,hS.choose_spec.choose_spec.choose_spec.1⟩;have ll:=fm eo;have q:=fm eS;have up:∀b ob,s.heap.get? b=some ob->(s.heap.push { cls:=.type "list_iterator",data:=.fields #[.ref l,.int 0 0] }).get? b=some ob:=fun b ob e=>bu _ e;have W:=(Walks.list (prog:=prog) (w:=w) (A:=A.in1) hh s.heap.objs.size l (gh ll) vs).toS;refine bj (wpAny_runValue (Ii (led:=led) W S (by
  simp only[iq,gg,or_false,not_or];exact⟨gh q,fun e=>lS e.symm⟩) (fun i=>ns.getD i false) hv _ 0 _ #[] rfl (ji _) ⟨⟨_,df _ rfl,rfl,rfl⟩,hl.at fun ob e=>up l ob e⟩ (hS.at fun ob e=>up S ob e) yv fun s' es mv S' ks=>?_))
 refine bq ?_;obtain⟨h',aa,ac,z,ab⟩:=s';obtain⟨m1,m2,m3,m4,m5⟩:=mv;dsimp only at m1 m2 m3 m4 m5 S';subst m2 m3 m4;refine h h' z es (fun b ob nb e=>m1 b ob (by
  simp only[iq,gg,or_false,not_or];exact⟨nb,gh (fm e)⟩) (up b ob e)) S' fun x=>?_
 rw[ks x,hz];constructor
 ·rintro⟨j,hj,rfl⟩;rw[fj,cv hj];exact ot hj
 ·intro m;obtain⟨j,hj,e⟩:=List.mem_iff_getElem.mp m;exact⟨j,hj,by rw[fj,cv hj];exact e.symm⟩
theorem Dr{l:Addr}{vs:Array bn}{ns:List Bool}{Q:bn->bp->Prop}(hh:A.handled=none)(hl:s.heap.IsList l vs)(hz:vs.size=ns.length)(hv:∀(i:Nat) v,vs[i]?=some v->v=.bool (ns.getD i false))
  (h:∀a h' tk es,s.heap.objs.size<=a->(∀b o,s.heap.get? b=some o->h'.get? b=some o)->SetB (!w.params.followText "set-order") h' a es->(∀x,x∈es.toList.map kB↔x∈ns)->Q (.ref a) { s with heap:=h',toks:=tk }):
  cj (model prog w) A (call (.type "set") [.ref l]) Q E s:=by
 obtain⟨c,tl,ac⟩:=F.called_set.mro;have z:=F.called_set.made;have ae:=F.called_set.sub;refine wpAny_call (codeAny_of_tree ?_);show cj _ _ (callAny (.type "set") _) _ _ _;refine bq ⟨Code.quiet_builtin _ (by decide +kernel),jp F.entry_type_call ?_⟩;rw[Around.under_plain (weight_type_call_type "set" [.ref l] []) rfl];have h1:=F.called_set.notType;have h2:=F.called_set.canCreate;have ah:=F4.typeCall_set_1 (.ref l)
 repeat (any_goals (first|assumption|wp_step))
 generalize hO:({ cls:=.type "set",dict:=none,data:=.set #[] 0 (.fresh 0 0 (!w.params.followText "set-order")) }:Obj)=O;refine codeAny_mono (IX (E:=E) (Q:=fun ob s1=>ob=.ref s.heap.objs.size/\s1 = { s with heap:=s.heap.push O }) ⟨rfl,by rw[hO]⟩) fun r s1 hr=>?_;cases r with
 |error e=>exact hr
 |ok fl=>
  cases fl with
  |ret obj=>
   obtain⟨rfl,rfl⟩:=hr;have hS:(s.heap.push O).get? s.heap.objs.size=some O:=df _ (by rw[<- hO];rfl);have hT:Shared.TypeIs { s with heap:=s.heap.push O } (.ref s.heap.objs.size) "set":=⟨_,hS,by rw[<- hO]⟩;have af:=F.called_set.init.lookup;have ag:=F.called_set.init.bind (.ref s.heap.objs.size)
   repeat (any_goals (first|assumption|wp_step))
   refine codeAny_mono (codeAny_call_builtin (R:=wants (fun r s2=>r=.none/\Q (.ref s.heap.objs.size) s2) E) F.called_set.init.plain F.entry_set_init (Ew hT ?_)) fun r2 s2 q=>?_
   ·unfold ls.«set.__init__» noKeywords;have ab:SetB (!w.params.followText "set-order") (s.heap.push O) s.heap.objs.size #[]:=by
     subst hO;exact⟨_,_,_,hS,⟨rfl,rfl,rfl⟩,rfl,yv,yv,yv,G8 _⟩
    have aa:(s.heap.push O).IsList l vs:=hl.at fun ob e=>bu _ e;subst hO;have key:=fun Q1=>@DC prog w A.in1.in1 (fun e s'=>wants (fun r s2=>r=qw/\Q (ie s.heap.objs.size) s2) E (Except.error e) s') { s with heap:=s.heap.push { cls:=.type "set",dict:=none,data:=.set #[] 0 (.fresh 0 0 (!w.params.followText "set-order")) } } s.heap.objs.size l vs ns (!w.params.followText "set-order") Q1 hh ab aa hz hv
    wp_walk using key _
    intro h' tk es kp S' ks;exact bq ⟨rfl,h _ h' tk es (cx _) (fun b o e=>kp b o (gh (fm e)) (bu _ e)) S' ks⟩
   ·cases r2 with
    |error e=>exact q
    |ok fl2=>
     cases fl2 with
     |ret r=>
      obtain⟨rfl,hq⟩:=q
      repeat (any_goals (first|assumption|wp_step))
     |_=>exact q.elim
  |_=>exact hr.elim
end
end
section
section
variable {prog:fg}{w:ga}{A:fv}{E:bn->bp->Prop}{s:bp}{led:Bool}
theorem IW{a b:Bool}{Q:Bool->bp->Prop}(h:Q (decide (lg a<lg b)) s):cj (model prog w) A (oneLt' true (.bool a) (.bool b)) Q E s:=by
 rw[oneLt'_eq];simp only[if_true];refine bj (wpAny_cRoomFor_byValue rfl ?_);refine bj (wpAny_callSpecialIfBound?_slot (typeIs_bool' s a) F.slot_bool_lt (call_gives F.slot_bool_lt (typeIs_bool' s a) F.entry_int_lt (F.args_int_lt_2 _ _) (gives_int_lt_bools a b) ?_));refine iu ?_;cases a<;>cases b<;>exact h
def blV:bn->Bool
 | .bool b=>b
 |_=>false
theorem DY{vs:List bn}(hI:∀v∈vs,∃b,v=ke b):LtOk prog w A E s oneType' (fun x=>x.1=x.2/\x.1∈vs) (fun x y=>decide (lg (blV x.1)<lg (blV y.1))) where
 ask:=fun x y st Q hx hy hk q=>by
  obtain⟨n,ex⟩:=hI _ hx.2;obtain⟨m,ey⟩:=hI _ hy.2;refine IZ hk ?_ q;rw[keyLt'_oneType,ex,ey];exact IW ⟨rfl,rfl⟩
 asym:=fun x y _ _ h=>fc (by have:=nl h;omega)
 tr:=fun x y z _ _ _ h1 h2=>fc (by have:=of_decide_eq_false h1;have:=of_decide_eq_false h2;omega)
theorem sD{α:Type}(f:bn->Sem α)(y:α)(hf:∀b,f (.bool b)=pure y):∀{vs:List bn},(∀v∈vs,∃b,v=ke b)->vs.mapM f=pure (vs.map fun _=>y)
 | [],_=>rfl
 |v::vs,h=>by
  obtain⟨b,rfl⟩:=h v fi;rw[List.mapM_cons,hf b,sD f y hf fun v m=>h v (fb _ m)];rfl
theorem Cj{vs:List bn}(hI:∀v∈vs,∃b,v=ke b)(h2:2<=vs.length){Q:ra->bp->Prop}(h:Q oneType' s):cj (model prog w) A (keyKind' vs.toArray) Q E s:=by
 have e:keyKind' vs.toArray=pure oneType':=by
  match vs,hI,h2 with
  |v1::v2::r,hI,_=>
   rw[keyKind'_eq,List.mapM_toArray,sD _ none (fun _=>rfl) hI];simp only[map_pure,pure_bind];rw[cg yv,cg yv,oneTypeOnly'_eq,List.mapM_toArray,sD _ (nt "bool") (fun _=>rfl) hI];simp only[map_pure,pure_bind];have q:((List.map (fun _=>nt "bool") (v1::v2::r)).toArray.all fun x=>x==nt "bool")=true:=by
    simp only[List.all_toArray,all_map,oq];intro _ _;rfl
   have h0:(List.map (fun _=>nt "bool") (v1::v2::r)).toArray[0]?=some (nt "bool"):=by simp
   rw[h0];simp only[q,if_true,pure_bind,Option.isSome_some]
 rw[e];exact bq h
def cB(bs:List Bool):List Bool:=(if false∈bs then [false]else [])++(if true∈bs then [true]else [])
theorem GK:∀{ms bs:List Bool},ms.Pairwise (fun x y=>¬ lg y<lg x)->ms.Nodup->(∀x,x∈ms↔x∈bs)->ms=cB bs
 | [],bs,_,_,h=>by
  unfold cB;rw[cg (fun z=>nomatch (h false).mpr z),cg (fun z=>nomatch (h true).mpr z)];rfl
 | [false],bs,_,_,h=>by
  unfold cB;rw[ci ((h false).mp yv),cg (fun z=>by simpa using (h true).mpr z)];rfl
 | [true],bs,_,_,h=>by
  unfold cB;rw[cg (fun z=>by simpa using (h false).mpr z),ci ((h true).mp yv)];rfl
 | [false,true],bs,_,_,h=>by
  unfold cB;rw[ci ((h false).mp yv),ci ((h true).mp yv)];rfl
 |true::false::_,bs,p,_,_=>by
  have:=(pairwise_cons.mp p).1 false yv;exact absurd dz this
 |false::false::_,bs,_,n,_=>by simp at n
 |true::true::_,bs,_,n,_=>by simp at n
 |false::true::b::r,bs,_,n,_=>by cases b<;>simp at n
theorem Hb{l:Addr}{vs:Array bn}{ns:List Bool}{Q:bn->bp->Prop}(hh:A.handled=none)(hl:s.heap.IsList l vs)(hz:vs.size=ns.length)(hv:∀(i:Nat) v,vs[i]?=some v->v=.bool (ns.getD i false))
  (h:∀D h' tk d c,s.heap.objs.size<=D->(∀b o,s.heap.get? b=some o->h'.get? b=some o)->h'.get? D=some (jy "list" ((cB ns).map ke).toArray c)->Q (.ref D) { s with heap:=h',toks:=tk,drawn:=d }):
  cj (model prog w) A (call (.type "set") [.ref l]) (fun a s'=>cj (model prog w) A (call (.builtin "sorted") [a]) Q E s') E s:=by
 refine Dr hh hl hz hv fun a h1 tk es ha af ab hk=>?_;obtain⟨o,ep,t,ho,ae,hd,hok,ag,ac,tb⟩:=ab;refine Calls.call_function_entry kind_sorted plain_sorted entry_sorted (args_sorted1 _) ?_;unfold ls.«sorted»;refine bj (m:=checkCount "sorted" 1 1 1) (bq ?_);refine bj (Gm (s:={ s with heap:=h1,toks:=tk }) (A:=A.in1) hh ho ae hd tb ac fun h2 d us hp q=>?_);have ul:us.length=es.size:=by rw[hp.length_eq,ff,fe]
 have ui:∀v∈us,∃n,v=ke n:=fun v m=>by
  obtain⟨e,me,rfl⟩:=mem_map.mp (hp.mem_iff.mp m);obtain⟨n,e1,_⟩:=hok e me;exact⟨n,e1⟩
 refine Gd (s:={ s with heap:=h2,toks:=tk,drawn:=d }) (kd:=oneType') (lt:=fun x y=>decide (lg (blV x.1)<lg (blV y.1))) (by rw[ul];omega) (fun A' E' h3 _ Q h2 z=>Cj ui h2 z) (fun A' E' h3 _=>DY ui) fun D h' c out hD kp aa hs hg=>?_;have oi:∀v∈out,∃n,v=ke n:=fun v m=>ui v (aa.mem_iff.mp m);have om:out=(out.map blV).map ke:=by
  rw[pj];refine(List.map_id _).symm.trans (List.map_congr_left fun v m=>?_);obtain⟨n,rfl⟩:=oi v m;rfl
 have pB:(out.map blV).Perm (es.toList.map kB):=by
  refine((aa.trans hp).map blV).trans ?_;rw[pj];exact oo _
 have eB:out.map blV=cB ns:=by
  refine GK ?_ (pB.nodup_iff.mpr ag) fun x=>by rw[pB.mem_iff,hk x]
  rw[List.pairwise_map];exact hs.imp fun z=>of_decide_eq_false z
 rw[om,eB]at hg;refine⟨_,rfl,h D h' tk d c ?_ (fun b o e=>kp b o (q b o (af b o e))) hg⟩;exact iz (iz ha (ku (fm (q a o ho)))) hD
end
theorem C0(bs:List Bool):(cB bs).length<=2:=by
 unfold cB;split<;>split<;>simp
theorem Ad:∀(bs:List Bool),Vals (bs.map V.bl) (bs.map ke)
 | []=>.nil
 |b::bs=>.cons rfl (Ad bs)
theorem AY:∀{bs:List Bool}{us:List bn},Vals (bs.map V.bl) us->us=bs.map ke
 | [],_,.nil=>rfl
 |b::bs,u::us,.cons h t=>by
  cases (show u=ke b from h);rw[jc,<- AY t]
theorem wE{H:Hp}:∀{bs:List Bool}{vs:List V},HasL H (bs.map nq) vs->vs=bs.map V.bl
 | [],_,h=>zv.mp h
 |b::bs,_,h=>by
  obtain⟨v,t,rfl,hv,ht⟩:=zp.mp h;rw[fB.mp hv,wE ht];rfl
theorem C1{H:Hp}:∀(bs:List Bool),HasL H (bs.map nq) (bs.map V.bl)
 | []=>zv.mpr rfl
 |b::bs=>zp.mpr ⟨_,_,rfl,fB.mpr rfl,C1 bs⟩
def Bk(K:cy):List V->Hp->VK->Prop:=fun xs H Q=>∃(p:Addr) (ns:List Bool),xs=[.ref p]/\SqL K H p (ns.map V.bl)/\∀(l:Addr),H l=none->Q (.ref l) (upd H l (.lst ((cB ns).map V.bl)))
section
variable {X:Cx}{e:Expr}{t:TA}{p p2 pos pos2:Pos}
theorem E9(hc:X.calm=true)(ac:Gl X "sorted")(ae:X.mg "sorted" = none)(af:Gl X "set")(ab:X.mg "set" = none)(ha:PA X [e] t)
  (he:fq [e] X.env=(false,eval e X.env)::fq [] X.env:=by rfl) (hpl:(qx pos2 (fq [] X.env)).any (·.1)=false:=by rfl)
  (he2:fq [Expr.Call (.Name "set" p2) [e] [] pos2] X.env=(false,eval (Expr.Call (.Name "set" p2) [e] [] pos2) X.env)::fq [] X.env:=by rfl) (hpl2:(qx pos (fq [] X.env)).any (·.1)=false:=by rfl):
  PE X (.Call (.Name "sorted" p) [.Call (.Name "set" p2) [e] [] pos2] [] pos) (tCB (Bk X.K) t):=by
 intro zf s σ H Q I h;refine ly (fL I ac ae boot_sorted ?_);refine PyProof.Rows.callWith_builtin1 ?_ he2 hpl2;rw[he2];show cj _ _ (spliced [(false,eval (Expr.Call (.Name "set" p2) [e] [] pos2) X.env)]) _ _ s;refine Calls.spliced_cons ?_;refine ly (fL I af ab Cl ?_);refine jd (thn (ha pos2 zf s σ H _ I h) fun us s1 ⟨vs,H1,I1,r1,q1⟩=>?_) he hpl;obtain⟨pl,ns,rfl,hq,q⟩:=q1;obtain⟨u,rfl,rx⟩:=vals1 r1;cases (show u=ie pl from rx);obtain⟨ag,rv,aa,_⟩:=I1.list hq;have hI:=AY rv;refine nv (Hb (ns:=ns) (I1.ok.hd hc) aa.isList (by rw[cz,hI,ff]) (fun i v hv=>?_) fun D h' tk d c hD kp hg=>?_) (fun a s2 z=>Calls.spliced_nil z) fun _ _ z=>z
 ·rw[List.getElem?_toArray,hI,gu]at hv;obtain⟨b,eb,rfl⟩:=map_eq_some_iff.mp hv;rw[fj,eb];rfl
 refine⟨.ref D,_,((I1.drw d).laid (t':=tk) kp hD (show ObjOk X.prog X.w _ h' D (.lst ((cB ns).map V.bl))from⟨?_,_,c,Ad _,hg⟩)),rfl,q D (I1.hok.fresh hD)⟩;have:=C0 ns;rw[ff,jj];omega
end
def iU:List XV->Sto->RX->Prop:=fun xs S R=>arg1 xs fun x=>∃ds,dS S x=some ds/\∃ns:List Bool,ds=ns.map nq/\R (.d (.list ((cB ns).map nq))) S
theorem AZ{K:cy}:RC (Bk K) iU:=fun h o H S xs vs R Q hs hx q c=>by
 obtain⟨x,rfl,ds,hd,ns,rfl,q1⟩:=cA q;obtain⟨v,rfl,z⟩:=hxs1 hx;obtain⟨a,ws,rfl,ea,l⟩:=bN hs hd z;rw[wE l]at ea;refine⟨a,ns,rfl,.of ea,fun l hl=>?_⟩;exact gY hs (C1 (cB ns)) c q1 l hl
end
section
section
variable {prog:fg}{w:ga}{A:fv}{E:bn->bp->Prop}{s:bp}
open AutoSeq1 (wpAny_loadPart') in
theorem HG(l b:Addr)(q:Array bn)(n:Nat)(dd z:Option Addr)(dt:Data)(sl aa:Array (Option bn)):
  Meets (ls.«tuple.__ne__» ⟨[.ref l,.ref b],[]⟩) (fun _ R s=>s.heap.get? l=some { cls:=.type "tuple",dict:=dd,data:=.seq q n,slots:=sl }/\s.heap.get? b=some { cls:=.type "dict",dict:=z,data:=dt,slots:=aa }/\R (.ok (.ret .notImplemented)) s):=
 .of_wp fun prog w A R s h=>by obtain⟨hp,g,d,tk,os⟩:=s;obtain⟨hl,hb,h⟩:=h;have f1:=F.sub_dict_tuple;wp_walk using wpAny_loadPart' hl,wpAny_loadPart' hb;exact⟨_,rfl,h⟩
theorem Gh{a b:Addr}{oa ob:Obj}{q:Array bn}{n:Nat}(ha:s.heap.get? a=some oa)(ca:oa.cls=.type "dict")(hb:s.heap.get? b=some ob)(cb:ob.cls=.type "tuple")(db:ob.data=.seq q n)(hu:A.units<re){Q:bn->bp->Prop}
  (h:Q (.bool true) s):cj (model prog w) A (io .NotEq (.ref a) (.ref b)) Q E s:=by
 have ab:a≠b:=fun e=>by
  subst e;rw[ha]at hb;cases hb;rw[ca]at cb;exact absurd cb dz
 have ta:s.TypeIs (.ref a) "dict":=⟨_,ha,ca⟩;have tb:s.TypeIs (.ref b) "tuple":=⟨_,hb,cb⟩;refine SeqAt.rc_ne_decline_or (k:=false) ta tb dz F.sub_tuple_dict F.slot_dict_ne F.slot_tuple_ne_refl (fun Q' hq=>?_) (fun Q' hq=>?_) (fun Q' hq=>wpAny_isSame_ref_other ab ha hb (by rw[ca];simp) hq) (.inr hu) h
 ·refine jq F.slot_dict_ne ta F.entry_dict_ne ?_ (F.args_dict_ne_2 _ _);show cj _ _ (Builtin.Dict.dictSlotArgs "__ne__" ⟨[.ref a,.ref b],[]⟩ >>= _) _ _ s;refine bj ?_;unfold Builtin.Dict.dictSlotArgs;refine bj (wpAny_notOrdered_dict ta ?_);show cj _ _ (pure (ie a,ie b)) _ _ s;refine bq ?_;refine bj (lx (T:="tuple") tb F.sub_tuple_dict ?_);simp only[Bool.not_false,if_true];exact bj (kn (bq ⟨_,rfl,hq⟩))
 ·obtain⟨ag,af,aa,ae⟩:=oa;obtain⟨ai,ac,ah,z⟩:=ob;simp only at ca cb db;subst ca cb db;exact ny F.slot_tuple_ne_refl tb F.entry_tuple_ne (F.args_tuple_ne_2 _ _) (HG b a q n ac af aa z ae) ⟨hb,ha,hq⟩
end
def TupG(K:cy)(mg:Str->Option bn)(x z:Str)(a:Addr):Prop:=mg x=some (.ref a)/\∃ob t n,K.lookup a=some ob/\ob.cls=.type "tuple"/\ob.data=.seq #[.str z t] n
theorem TupG.mk'{K:cy}{h:Heap}{mg:Str->Option bn}(X:K.In h)(G:h.Ns kr mg){x z:Str}{a:Addr}{od:Option Addr}{t:Tok}{n:Nat}{q:Array (Option bn)}
  (e:W.nsIn K kr x=some (some (.ref a))) (l:K.lookup a=some ⟨.type "tuple",od,.seq #[.str z t] n,q⟩):∃a,TupG K mg x z a:=⟨a,W.mg_of X G e,_,t,n,l,rfl,rfl⟩
def tI(a:Addr)(z:Str):R2:=fun x y H Q=>y=.ref a/\((∃d,Has H d x/\cw d=true/\Q (.bl (!PyData.eqv d (.tuple [.str z]))) H)\/(Has H (.dict []) x/\Q (.bl true) H))
theorem Af{X:Cx}{x z:Str}{a:Addr}(hG:TupG X.K X.mg x z a)(hz:cw (.tuple [.str z])=true)(hu:X.A.units+64<re):OpR X (io .NotEq) (tI a z):=by
 rintro zf s σ H x y v u Q I rx ry ⟨rfl,q⟩;obtain⟨_,ob,t,n,hl,hc,hd⟩:=hG;cases (show u=ie a from ry);have ea:s.heap.get? a=some ob:=I.kIn _ _ hl;rcases q with ⟨d,hd1,sd,q⟩|⟨hd1,q⟩
 ·obtain⟨as,q1⟩:=Has.reads I d x v hd1 (fx sd) rx;exact ne_dataH q1 (.tuple ea hc hd (.cons (.str z t) .nil)) sd hz hu ⟨.bl _,H,I,rfl,q⟩
 ·obtain⟨b,vs,rfl,hD,_⟩:=sZ.mp hd1;cases (show v=ie b from rx);rcases hD with ⟨ob2,m,e1,e2,e3⟩|⟨ob2,p,m,e1,e2,_⟩
  ·have hok:=(show ObjOk X.prog X.w H s.heap b (.frz ob2 (.dK m))from I.hok b _ e1);obtain⟨g1,_,_,ab,_,aa⟩:=hok;obtain⟨o3,g3,c3⟩:=aa.typeIs;exact Gh g3 c3 ea hc hd yw ⟨.bl _,H,I,rfl,q⟩
  ·cases e2
def DH(a:Addr)(z:Str):D2:=fun x y S R=>y=.o (.ref a)/\((∃d,bF S x=some d/\cw d=true/\R (.d (.bool (!PyData.eqv d (.tuple [.str z])))) S)\/(x=.d (.dict [])/\R (.d (.bool true)) S))
theorem HP{a:Addr}{z:Str}:RO (tI a z) (DH a z):=fun h o H S x y v u R Q hs hx hy ⟨ey,q⟩ c=>by
 subst ey;refine⟨hy,?_⟩;rcases q with ⟨d,e,sd,q⟩|⟨e,q⟩
 ·exact .inl ⟨d,dF hs e hx,sd,c o H S _ _ Ex.refl hs (xB _) q⟩
 ·subst e;exact .inr ⟨dF hs rfl hx,c o H S _ _ Ex.refl hs (xB _) q⟩
def f7(z:Str)(e:DE):DE:=fun δ S R=>e δ S fun x S1=>(∃d,bF S1 x=some d/\cw d=true/\R (.d (.bool (!PyData.eqv d (.tuple [.str z])))) S1)\/(x=.d (.dict [])/\R (.d (.bool true)) S1)
theorem EI{a:Addr}{z:Str}{te:TE}{de:DE}(aa:RE te de):RE (tOp (tI a z) te (tC (.ref a))) (f7 z de):=fun h o H δ σ S R Q he hs q c=>
 aa h o H δ σ S _ _ he hs q fun o1 H1 S1 x v e1 s1 x1 d1=>HP h o1 H1 S1 x (.o (.ref a)) v (.ref a) R Q s1 x1 rfl ⟨rfl,d1⟩ (c.pre e1)
theorem BJ{a b c d:Str}(hm:eX [] [(jh a,.str b),(jh c,.str d)]=[(jh a,.str b),(jh c,.str d)]):RE (t0 (Bj [(tC (.str a),tC (.str b)),(tC (.str c),tC (.str d))])) (dC (.dict [(.str a,.str b),(.str c,.str d)])):=fun h o H δ σ S R Q he hs q cn p hp=>by
 refine⟨cU,[(jh a,.str b),(jh c,.str d)],rfl,yv,p,eX [] [(jh a,.str b),(jh c,.str d)],rfl,cU,fun ob=>?_⟩;rw[tM,tM,hm];refine cn o _ S (.d (.dict (DD.pairs (.k [(jh a,.str b),(jh c,.str d)])))) _ (Ex.of_same (Same.laid hp)) (hs.same (Same.laid hp)) ?_ q;show Has _ _ _;exact vZ.mpr ⟨p,ob,[(jh a,.str b),(jh c,.str d)],rfl,hs.laid hp,⟨.str b,_,rfl,eV.mpr rfl,.str d,_,rfl,eV.mpr rfl,rfl⟩⟩
theorem FK:eX [] [(jh ("keeps":Str),V.str "breaks"),(jh ("breaks":Str),.str "keeps")]=[(jh ("keeps":Str),V.str "breaks"),(jh ("breaks":Str),.str "keeps")]:=by
 have e:(jh ("keeps":Str):Key)≠jh ("breaks":Str):=by decide +kernel
 simp[eX,fN,e]
end
end L2
namespace My
open PySem L2
def pI:PN:=fun xs S R=>(aB (eM (dCB cD (zb (zg 0) (zb (dO (.ty "int")) zo))) (fT (dCB cD (zb (zg 0) (zb (dO (.ty "bool")) zo)))))) (aK S.length R) (xs.map some++bx 0 none) S
def j4:PN:=fun xs S R=>(zM (aA (dOp (dI (fun _ j=>0<j) fun i j=>i % j) (dOp aE (zg 0) (dC (.int 7919))) (dC (.int 2147483647))) (zh 0)) (aB (dOp (dI (fun _ j=>0<j) fun i j=>i % j) (dOp aE (dOp aE (dOp bH (zg 0) (zg 0)) (dOp bH (dC (.int 48271)) (zg 0))) (dC (.int 12345))) (dC (.int 2147483629))))) (aK S.length R) (xs.map some++bx 0 none) S
def qR:PN:=fun xs S R=>(zM (aA (dCB (dI2 fun i j=>if j>i then j else i) (zb (zg 0) (zb (dOp (dI0 fun i j=>i-j) (dC (.int 0)) (zg 0)) zo))) (zh 1)) (aB (bJ (zb (zg 1) (zb (dCB fZ (zb (dOp (dIb fun i j=>decide (j<=i)) (zg 1) (dOp (dI CPow fun i j=>i ^ j.toNat) (dC (.int 10)) (dC (.int 18)))) zo)) (zb (dOp (dI (fun _ j=>0<j) fun i j=>i % j) (zg 1) (dC (.int 1000003))) zo)))))) (aK S.length R) (xs.map some++bx 1 none) S
def pD:PN:=fun xs S R=>(aB (eM (dCB cD (zb (zg 0) (zb (dO (.ty "int")) zo))) (fT (dCB cD (zb (zg 0) (zb (dO (.ty "bool")) zo)))))) (aK S.length R) (xs.map some++bx 0 none) S
def zn:PN:=fun xs S R=>(zM (aL (dB (dOp aU (dOp dIx (zg 0) (dC (.int 1))) (dC (.int 1)))) (zM (aA (dOp (dI (fun _ j=>0<j) fun i j=>i % j) (dOp dIx (zg 0) (dC (.int 0))) (zg 1)) (zh 2)) (zM (aA (dOp dFd (dOp dIx (zg 0) (dC (.int 0))) (zg 1)) (gN (zg 0) (dC (.int 0)))) (aB (zg 2)))) aO) (zM (aA (aN 1 j4 (zb (dOp aE (aN 1 j4 (zb (dOp dIx (zg 0) (dC (.int 2))) zo)) (dC (.int 7))) zo)) (gN (zg 0) (dC (.int 2)))) (aB (dOp (dI (fun _ j=>0<j) fun i j=>i % j) (dOp dFd (dOp dIx (zg 0) (dC (.int 2))) (dC (.int 64))) (zg 1))))) (aK S.length R) (xs.map some++bx 1 none) S
def pA:PN:=fun xs S R=>(zM (aA (zG 0 2 zn (zb (zg 0) (zb (dC (.int 8)) zo))) (zh 1)) (zM (aL (dB (dOp (dIb fun i j=>decide (i<j)) (zg 1) (dC (.int 5)))) (aB (dOp (dI0 fun i j=>i-j) (zG 0 2 zn (zb (zg 0) (zb (dC (.int 13)) zo))) (dC (.int 6)))) aO) (zM (aL (dB (dOp (dIb fun i j=>decide (i<j)) (zg 1) (dC (.int 7)))) (aB (dOp (dI0 fun i j=>i-j) (zG 0 2 zn (zb (zg 0) (zb (dC (.int 2001)) zo))) (dC (.int 1000)))) aO) (aB (dOp bH (dOp (dI0 fun i j=>i-j) (zG 0 2 zn (zb (zg 0) (zb (dOp bH (dC (.int 2)) (dOp (dI CPow fun i j=>i ^ j.toNat) (dC (.int 10)) (dC (.int 30)))) zo))) (dOp (dI CPow fun i j=>i ^ j.toNat) (dC (.int 10)) (dC (.int 30)))) (dOp (dI CPow fun i j=>i ^ j.toNat) (dC (.int 10)) (dC (.int 28)))))))) (aK S.length R) (xs.map some++bx 1 none) S
def CS:PN:=fun xs S R=>(zM (aA (zG 0 2 zn (zb (zg 0) (zb (dC (.int 8)) zo))) (zh 1)) (zM (aL (dB (dOp (dIb fun i j=>decide (i<j)) (zg 1) (dC (.int 5)))) (aB (dOp (dI0 fun i j=>i-j) (zG 0 2 zn (zb (zg 0) (zb (dC (.int 13)) zo))) (dC (.int 6)))) aO) (zM (aL (dB (dOp (dIb fun i j=>decide (i<j)) (zg 1) (dC (.int 7)))) (aB (dOp (dI0 fun i j=>i-j) (zG 0 2 zn (zb (zg 0) (zb (dC (.int 2001)) zo))) (dC (.int 1000)))) aO) (aB (dOp bH (dOp (dI0 fun i j=>i-j) (zG 0 2 zn (zb (zg 0) (zb (dOp bH (dC (.int 2)) (dOp (dI CPow fun i j=>i ^ j.toNat) (dC (.int 10)) (dC (.int 30)))) zo))) (dOp (dI CPow fun i j=>i ^ j.toNat) (dC (.int 10)) (dC (.int 30)))) (dOp (dI CPow fun i j=>i ^ j.toNat) (dC (.int 10)) (dC (.int 28)))))))) (aK S.length R) (xs.map some++bx 1 none) S
def lG:PN:=fun xs S R=>(aB (dOp aE (dOp (dI0 fun i j=>i-j) (dOp dIx (zg 0) (dC (.int 1))) (dOp dIx (zg 0) (dC (.int 0)))) (dC (.int 1)))) (aK S.length R) (xs.map some++bx 0 none) S
def mU:PN:=fun xs S R=>(zM (aA (dC (.str "abcdefghijklmnopqrstuvwxyz")) (zh 1)) (zM (aA (zG 0 2 zn (zb (zg 0) (zb (dC (.int 3)) zo))) (zh 2)) (zM (aA (zG 0 2 zn (zb (zg 0) (zb (dC (.int 26)) zo))) (zh 3)) (zM (aA (fY [none,some 1,some 3] (bS (zb (dC (.int 8)) zo)) (zh 0) aM (dOp bH (dOp dIx (zg 1) (dOp (dI (fun _ j=>0<j) fun i j=>i % j) (dOp aE (zg 2) (dOp bH (dC (.int 5)) (zg 0))) (dC (.int 26)))) (dOp aE (dC (.int 1)) (dOp (dI (fun _ j=>0<j) fun i j=>i % j) (dOp aE (zg 2) (dOp bH (dC (.int 3)) (zg 0))) (dC (.int 8)))))) (zh 4)) (zM (aL (dB (dOp aU (zg 2) (dC (.int 0)))) (zM (aA (gX iC (dC (.str "")) (zb (bK [none,some 1,some 3] (bS (zb (dC (.int 8)) zo)) (zh 0) aM (dOp dIx (zg 1) (dOp (dI (fun _ j=>0<j) fun i j=>i % j) (dOp aE (zg 2) (dOp bH (dC (.int 7)) (zg 0))) (dC (.int 26))))) zo)) (zh 5)) (aA (fY [none,some 5] (bS (zb (dC (.int 8)) zo)) (zh 0) aM (dSl hV (zg 1) cQ (cZ (dOp aE (zg 0) (dC (.int 1)))))) (zh 4))) aO) (zM (aL (dB (dOp aU (zg 2) (dC (.int 1)))) (aA (bJ (zb (dC (.str "part")) (zb (dC (.str "gap")) (zb (dC (.str "cut")) (zb (dC (.str "a")) (zb (dC (.str "aa")) (zb (dC (.str "dear")) (zb (dC (.str "b")) (zb (dC (.str "keeps")) zo))))))))) (zh 4)) aO) (zM (aA (zG 0 2 zn (zb (zg 0) (zb (dC (.int 8)) zo))) (zh 6)) (zM (aA (dOp fG (dSl hV (zg 4) (cZ (zg 6)) cQ) (dSl hV (zg 4) cQ (cZ (zg 6)))) (zh 4)) (zM (aL (dB (dOp aU (zG 0 2 zn (zb (zg 0) (zb (dC (.int 2)) zo))) (dC (.int 1)))) (bQ (fU iD (zg 4))) aO) (aB (zg 4))))))))))) (aK S.length R) (xs.map some++bx 6 none) S
def nP:PN:=fun xs S R=>(aB (aC (zb (dOp dIx (zg 0) (dC (.int 1))) (zb (dOp dIx (zg 0) (dC (.int 2))) zo)))) (aK S.length R) (xs.map some++bx 0 none) S
def pH:PN:=fun xs S R=>(zM (aA (bJ zo) (zh 2)) (zM (bU (bG (zg 0)) (zh 3) (bQ (dBM eY (zg 2) (zb (bK [none,some 3] (bG (zg 1)) (zh 0) aM (dOp aE (zg 1) (aC (zb (zg 0) zo)))) zo)))) (aB (zg 2)))) (aK S.length R) (xs.map some++bx 2 none) S
def qC:PN:=fun xs S R=>(zM (aA (dC (.int 1)) (zh 1)) (zM (bU (bG (zg 0)) (zh 2) (aA (dOp bH (zg 1) (aN 1 lG (zb (aN 1 nP (zb (zg 2) zo)) zo))) (zh 1))) (aB (zg 1)))) (aK S.length R) (xs.map some++bx 2 none) S
def zZ:PN:=fun xs S R=>(zM (aA (aN 1 qC (zb (zg 0) zo)) (zh 1)) (aL (dB (dOp (dIb fun i j=>decide (j<i)) (zg 1) (dC (.int 300)))) hZ aO)) (aK S.length R) (xs.map some++bx 1 none) S
def oZ:PN:=fun xs S R=>(zM (bQ (aN 1 zZ (zb (zg 0) zo))) (zM (aA (aP (zb (aC zo) zo)) (zh 1)) (zM (bU (bG (zg 0)) (zh 2) (aA (aN 2 pH (zb (zg 1) (zb (iP (zb (dOp dIx (zg 2) (dC (.int 1))) (zb (dOp aE (dOp dIx (zg 2) (dC (.int 2))) (dC (.int 1))) zo))) zo))) (zh 1))) (aB (zg 1))))) (aK S.length R) (xs.map some++bx 2 none) S
def pO:PN:=fun xs S R=>(aB (dCB gH (zb (bK [none,none,some 1] (bG (dOp dIx (zg 0) (dC (.int 0)))) (cH 2 (aR (zh 0) (aR (zh 1) cF))) aM (dOp bH (zg 1) (dOp dIx (zg 2) (zg 0)))) zo))) (aK S.length R) (xs.map some++bx 0 none) S
def qO:PN:=fun xs S R=>(aB (eZ (dIb fun i j=>decide (i<=j)) (dIb fun i j=>decide (i<=j)) (dOp dIx (zg 0) (dC (.int 1))) (aN 2 pO (zb (zg 0) (zb (zg 1) zo))) (dOp dIx (zg 0) (dC (.int 2))))) (aK S.length R) (xs.map some++bx 0 none) S
def qE:PN:=fun xs S R=>(zM (aA (dC (.int 0)) (zh 2)) (zM (aA (dC (.int 0)) (zh 3)) (zM (bU (bG (zg 1)) (cH 2 (aR (zh 4) (aR (zh 5) cF))) (zM (aA (aP (zb (dOp bH (zg 5) (dOp dIx (dOp dIx (zg 0) (zg 4)) (dC (.int 1)))) (zb (dOp bH (zg 5) (dOp dIx (dOp dIx (zg 0) (zg 4)) (dC (.int 2)))) zo))) (zh 6)) (zM (aA (dOp aE (zg 2) (dCB rT (zb (zg 6) zo))) (zh 2)) (aA (dOp aE (zg 3) (dCB rL (zb (zg 6) zo))) (zh 3))))) (aB (aC (zb (zg 2) (zb (zg 3) zo))))))) (aK S.length R) (xs.map some++bx 5 none) S
def nJ:PN:=fun xs S R=>(zM (aA (aP (zb (aC zo) zo)) (zh 1)) (zM (bU (bG (zg 0)) (cH 3 (aR (zh 2) (aR (zh 3) (aR (zh 4) cF)))) (zM (eI (zM (aA (bJ zo) (zh 5)) (bU (bG (zg 1)) (zh 6) (bQ (dBM eY (zg 5) (zb (bK [none,some 6,some 3] (bS (zb (dOp aE (dOp (dI0 fun i j=>i-j) (zg 4) (zg 3)) (dC (.int 1))) zo)) (zh 0) aM (dOp aE (zg 1) (aC (zb (dOp aE (zg 2) (zg 0)) zo)))) zo)))))) (aA (zg 5) (zh 1)))) (aB (zg 1)))) (aK S.length R) (xs.map some++bx 6 none) S
def p0:PN:=fun xs S R=>(zM (aA (bJ zo) (zh 2)) (zM (bU (bS (zb (dCB aS (zb (zg 1) zo)) zo)) (zh 3) (zM (aA (dOp (dI0 fun i j=>i-j) (zG 0 2 zn (zb (zg 0) (zb (dC (.int 9)) zo))) (dC (.int 4))) (zh 4)) (aL (dB (dOp fX (zg 4) (aC (zb (dUn (dUI fun i=>-i) (dC (.int 4))) (zb (dC (.int 0)) (zb (dC (.int 4)) zo)))))) (bQ (dBM cN (zg 2) (zb (aC (zb (zg 3) (zb (zg 4) zo))) zo))) aO))) (zM (aL (dB (dOp aU (zg 2) (aP zo))) (aA (bJ (zb (aC (zb (zG 0 2 zn (zb (zg 0) (zb (dCB aS (zb (zg 1) zo)) zo))) (zb (dOp dIx (aP (zb (dC (.int 1)) (zb (dUn (dUI fun i=>-i) (dC (.int 1))) (zb (dC (.int 2)) (zb (dUn (dUI fun i=>-i) (dC (.int 3))) zo))))) (zG 0 2 zn (zb (zg 0) (zb (dC (.int 4)) zo)))) zo))) zo)) (zh 2)) aO) (zM (aA (g7 2 qE (zb (zg 1) (zb (zg 2) zo))) (cH 2 (aR (zh 5) (aR (zh 6) cF)))) (zM (aA (dOp (dI0 fun i j=>i-j) (zg 6) (zg 5)) (zh 7)) (zM (aA (dOp aE (zg 5) (dOp dIx (aP (zb (dC (.int 0)) (zb (dC (.int 1)) (zb (dUn (dUI fun i=>-i) (dC (.int 1))) (zb (dOp dFd (zg 7) (dC (.int 2))) (zb (dOp dFd (zg 7) (dC (.int 3))) (zb (dOp aE (zg 7) (dC (.int 1))) zo))))))) (zG 0 2 zn (zb (zg 0) (zb (dC (.int 6)) zo))))) (zh 8)) (zM (aA (dOp aE (zg 8) (dOp dIx (aP (zb (dC (.int 0)) (zb (dC (.int 1)) (zb (dC (.int 2)) (zb (dOp dFd (zg 7) (dC (.int 2))) (zb (zg 7) (zb (dOp aE (zg 7) (dC (.int 2))) zo))))))) (zG 0 2 zn (zb (zg 0) (zb (dC (.int 6)) zo))))) (zh 9)) (aB (aC (zb (dCB eR (zb (zg 2) zo)) (zb (zg 8) (zb (zg 9) zo)))))))))))) (aK S.length R) (xs.map some++bx 8 none) S
def o7:PN:=fun xs S R=>(zM (eI (zM (aA (bJ zo) (zh 3)) (zM (aA (zg 0) (zh 4)) (mR (dB (dOp aU (dOp dIx (zg 4) (dC (.int 0))) (dC (.str "measure")))) (zM (aA (dOp dIx (zg 4) (dC (.int 1))) (zh 5)) (zM (bQ (dBM cN (zg 3) (zb (zg 5) zo))) (aA (dOp dIx (dOp dIx (zg 4) (dC (.int 2))) (dOp (dI0 fun i j=>i-j) (dOp dIx (zg 2) (zg 5)) (dOp dIx (dOp dIx (zg 1) (zg 5)) (dC (.int 1))))) (zh 4)))))))) (aB (aC (zb (zg 3) (zb (dOp dIx (zg 4) (dC (.int 0))) zo))))) (aK S.length R) (xs.map some++bx 3 none) S
def m8:PN:=fun xs S R=>(zM (aA (dCB gH (zb (bK [none,none,some 1] (bG (dOp dIx (zg 0) (dC (.int 0)))) (cH 2 (aR (zh 0) (aR (zh 1) cF))) aM (dOp bH (zg 1) (dOp dIx (zg 2) (zg 0)))) zo)) (zh 2)) (aB (eZ (dIb fun i j=>decide (i<=j)) (dIb fun i j=>decide (i<=j)) (dOp dIx (zg 0) (dC (.int 1))) (zg 2) (dOp dIx (zg 0) (dC (.int 2)))))) (aK S.length R) (xs.map some++bx 1 none) S
def qS:PN:=fun xs S R=>(zM (aL (dOr (bV (bP (dCB cD (zb (zg 1) (zb (dO (.ty "tuple")) zo))))) (dOr (dB (dOp dU (dCB aS (zb (zg 1) zo)) (dC (.int 3)))) (dB (dOp dU (dOp dIx (zg 1) (dC (.int 0))) (dC (.str "measure")))))) (aB (dC (.bool false))) aO) (zM (aL (dOr (bV (bP (aN 1 pI (zb (dOp dIx (zg 1) (dC (.int 1))) zo)))) (bV (dB (eZ (dIb fun i j=>decide (i<=j)) (dIb fun i j=>decide (i<j)) (dC (.int 0)) (dOp dIx (zg 1) (dC (.int 1))) (dCB aS (zb (zg 0) zo)))))) (aB (dC (.bool false))) aO) (aB (eM (dCB cD (zb (dOp dIx (zg 1) (dC (.int 2))) (zb (dO (.ty "tuple")) zo))) (dOp aU (dCB aS (zb (dOp dIx (zg 1) (dC (.int 2))) zo)) (aN 1 lG (zb (aN 1 nP (zb (dOp dIx (zg 0) (dOp dIx (zg 1) (dC (.int 1)))) zo)) zo))))))) (aK S.length R) (xs.map some++bx 0 none) S
def pZ:PN:=fun xs S R=>(zM (aA (bJ (zb (aC (zb (zg 1) (zb (aC zo) zo))) zo)) (zh 2)) (zM (mR (bP (zg 2)) (zM (aA (fU iO (zg 2)) (zh 3)) (zM (aA (dOp dIx (zg 3) (dC (.int 0))) (zh 4)) (zM (aA (dOp dIx (zg 3) (dC (.int 1))) (zh 5)) (aL (fM (bP (aN 2 qS (zb (zg 0) (zb (zg 4) zo)))) (dB (dOp fX (dOp dIx (zg 4) (dC (.int 1))) (zg 5)))) (bQ (dBM eY (zg 2) (zb (bK [none,some 5,some 4] (bG (dOp dIx (zg 4) (dC (.int 2)))) (zh 0) aM (aC (zb (zg 0) (zb (dOp aE (zg 1) (aC (zb (dOp dIx (zg 2) (dC (.int 1))) zo))) zo)))) zo))) (aL (fM (dB (f7 "keeps" (zg 4))) (dB (f7 "breaks" (zg 4)))) (aB (dC (.bool false))) aO)))))) (aB (dC (.bool true))))) (aK S.length R) (xs.map some++bx 4 none) S
def pR:PN:=fun xs S R=>(zM (aA (aN 1 oZ (zb (zg 0) zo)) (zh 3)) (zM (aL (bV (bP (aN 2 pZ (zb (zg 0) (zb (zg 2) zo))))) (aB (dC (.bool false))) aO) (aB (dCB fK (zb (bK [none,some 1,some 2,some 0] (bG (zg 3)) (zh 0) aM (dOp aU (dOp aU (dOp dIx (aN 3 o7 (zb (zg 2) (zb (zg 3) (zb (zg 0) zo)))) (dC (.int 1))) (dC (.str "keeps"))) (aN 2 qO (zb (zg 1) (zb (zg 0) zo))))) zo))))) (aK S.length R) (xs.map some++bx 1 none) S
def yA:PN:=fun xs S R=>(zM (eI (zM (aA (bJ zo) (zh 3)) (mR (dB (dOp aU (dCB aS (zb (zg 0) zo)) (dC (.int 3)))) (zM (bQ (dBM cN (zg 3) (zb (dOp dIx (zg 0) (dC (.int 1))) zo))) (aA (dOp dIx (dOp dIx (zg 0) (dC (.int 2))) (dOp (dI0 fun i j=>i-j) (dOp dIx (zg 2) (dOp dIx (zg 0) (dC (.int 1)))) (dOp dIx (dOp dIx (zg 1) (dOp dIx (zg 0) (dC (.int 1)))) (dC (.int 1))))) (zh 0)))))) (aB (aC (zb (zg 3) (zb (dOp dIx (zg 0) (dC (.int 0))) zo))))) (aK S.length R) (xs.map some++bx 1 none) S
def jU:Nat->PN
 | 0=>fun _ _ _=>False
 |n+1=>fun xs S R=>(zM (aL (dOr (bV (bP (dCB cD (zb (zg 2) (zb (dO (.ty "tuple")) zo))))) (dOr (dB (dOp fX (dCB aS (zb (zg 2) zo)) (aC (zb (dC (.int 1)) (zb (dC (.int 3)) zo))))) (bV (bP (dCB cD (zb (dOp dIx (zg 2) (dC (.int 0))) (zb (dO (.ty "str")) zo))))))) (aB (dC (.bool false))) aO) (zM (aL (dB (dOp aU (dCB aS (zb (zg 2) zo)) (dC (.int 1)))) (aB (dOp dIn (dOp dIx (zg 2) (dC (.int 0))) (aC (zb (dC (.str "keeps")) (zb (dC (.str "breaks")) zo))))) aO) (zM (aL (dOr (dB (dOp dU (dOp dIx (zg 2) (dC (.int 0))) (dC (.str "measure")))) (dOr (bV (bP (aN 1 pD (zb (dOp dIx (zg 2) (dC (.int 1))) zo)))) (dB (iT true (dOp dIx (zg 2) (dC (.int 1))) (zb (dCB aS (zb (zg 0) zo)) zo))))) (aB (dC (.bool false))) aO) (zM (aL (dOr (dB (dOp dIn (dOp dIx (zg 2) (dC (.int 1))) (zg 1))) (bV (bP (dCB cD (zb (dOp dIx (zg 2) (dC (.int 2))) (zb (dO (.ty "tuple")) zo)))))) (aB (dC (.bool false))) aO) (zM (aA (dOp dIx (zg 0) (dOp dIx (zg 2) (dC (.int 1)))) (cH 3 (aR (zh 3) (aR (zh 4) (aR (zh 5) cF))))) (zM (aL (dB (dOp dU (dCB aS (zb (dOp dIx (zg 2) (dC (.int 2))) zo)) (dOp aE (dOp (dI0 fun i j=>i-j) (zg 5) (zg 4)) (dC (.int 1))))) (aB (dC (.bool false))) aO) (aB (dCB fK (zb (bK [none,some 0,some 1,some 2] (bG (dOp dIx (zg 2) (dC (.int 2)))) (zh 0) aM (aN 3 (jU n) (zb (zg 1) (zb (dOp aE (zg 2) (aP (zb (dOp dIx (zg 3) (dC (.int 1))) zo))) (zb (zg 0) zo))))) zo))))))))) (aK S.length R) (xs.map some++bx 3 none) S
def w4:PN:=jU 160
def pK:PN:=fun xs S R=>(zM (aL (bV (bP (aN 3 w4 (zb (zg 0) (zb (aP zo) (zb (zg 2) zo)))))) (aB (dC (.bool false))) aO) (zM (bU (bG (aN 1 nJ (zb (zg 0) zo))) (zh 3) (aL (dB (dOp dU (dOp aU (dOp dIx (aN 3 yA (zb (zg 2) (zb (zg 0) (zb (zg 3) zo)))) (dC (.int 1))) (dC (.str "keeps"))) (aN 2 m8 (zb (zg 1) (zb (zg 3) zo))))) (aB (dC (.bool false))) aO)) (aB (dC (.bool true))))) (aK S.length R) (xs.map some++bx 1 none) S
def qA:PN:=fun xs S R=>(zM (aL (dB (dOp aU (dCB aS (zb (zg 0) zo)) (dC (.int 1)))) (zM (aA (iI [] (dC (.dict [(.str "keeps",.str "breaks"),(.str "breaks",.str "keeps")])) (dOp dIx (zg 0) (dC (.int 0)))) (zh 3)) (zM (aA (bJ (zb (aC (zb (zg 3) zo)) (zb (aP (zb (dOp dIx (zg 0) (dC (.int 0))) zo)) (zb (aC zo) (zb (dC .none) (zb (dOp dIx (zg 0) (dC (.int 0))) (zb (aC (zb (dC (.str "Keeps")) zo)) (zb (aC (zb (dOp dIx (zg 0) (dC (.int 0))) (zb (dC (.int 0)) zo))) (zb (aC (zb (dC (.int 0)) zo)) (zb (aC (zb (dC (.str "measure")) (zb (dC (.int 0)) (zb (aC zo) zo)))) (zb (aC (zb (dC .none) zo)) zo))))))))))) (zh 4)) (aB (dOp dIx (zg 4) (zG 0 2 zn (zb (zg 2) (zb (dC (.int 10)) zo))))))) aO) (zM (aA (zg 0) (cH 3 (aR (zh 5) (aR (zh 6) (aR (zh 7) cF))))) (zM (aA (dOp dIx (aP (zb (dUn (dUI fun i=>-i) (dC (.int 1))) (zb (dCB aS (zb (zg 1) zo)) (zb (dC (.bool true)) (zb (dC .none) (zb (dC (.str "0")) (zb (dOp (dI (fun _ j=>0<j) fun i j=>i % j) (dOp aE (zg 6) (dC (.int 1))) (dCB aS (zb (zg 1) zo))) (zb (aC (zb (zg 6) zo)) (zb (dOp (dI CPow fun i j=>i ^ j.toNat) (dC (.int 10)) (dC (.int 30))) zo))))))))) (zG 0 2 zn (zb (zg 2) (zb (dC (.int 8)) zo)))) (zh 8)) (zM (aA (bJ (zb (aC (zb (zg 5) (zb (zg 8) (zb (zg 7) zo)))) (zb (aC (zb (zg 5) (zb (zg 6) (zb (dCB gR (zb (zg 7) zo)) zo)))) (zb (aC (zb (zg 5) (zb (zg 6) (zb (dSl eG (zg 7) (cZ (dC (.int 1))) cQ) zo)))) zo)))) (zh 4)) (zM (aA (dOp fG (zg 4) (aP (zb (aC (zb (zg 5) (zb (zg 6) (zb (dOp aE (zg 7) (dSl eG (zg 7) cQ (cZ (dC (.int 1))))) zo)))) (zb (aC (zb (zg 5) (zb (zg 6) (zb (iL (zg 7) (dUn (dUI fun i=>-i) (dC (.int 1)))) zo)))) zo)))) (zh 4)) (zM (aA (dOp fG (zg 4) (aP (zb (aC (zb (dC (.str "measures")) (zb (zg 6) (zb (zg 7) zo)))) (zb (aC (zb (zg 5) (zb (zg 6) zo))) (zb (dCB gR (zb (zg 0) zo)) zo))))) (zh 4)) (zM (bQ (dBM cN (zg 4) (zb (aC (zb (zg 5) (zb (zg 6) (zb (dOp gZ (aC (zb (zg 0) zo)) (dCB aS (zb (zg 7) zo))) zo)))) zo))) (aB (dOp dIx (dOp aE (zg 4) (aP (zb (dOp dIx (zg 7) (dC (.int 0))) zo))) (zG 0 2 zn (zb (zg 2) (zb (dC (.int 10)) zo)))))))))))) (aK S.length R) (xs.map some++bx 6 none) S
def tE:PN:=fun xs S R=>(zM (aA (zG 0 1 mU (zb (zg 0) zo)) (zh 2)) (zM (aA (bK [none,some 0] (bS (zb (dOp aE (dC (.int 1)) (zG 0 2 zn (zb (zg 0) (zb (zg 1) zo)))) zo)) (zh 0) aM (dOp aE (dC (.int 1)) (zG 0 2 zn (zb (zg 1) (zb (dC (.int 3)) zo))))) (zh 3)) (zM (aL (dB (dOp aU (zG 0 2 zn (zb (zg 0) (zb (dC (.int 12)) zo))) (dC (.int 0)))) (aA (dOp dIx (aP (zb (aP (zb (dC (.int 3)) (zb (dC (.int 3)) zo))) (zb (aP (zb (dC (.int 17)) (zb (dC (.int 17)) zo))) (zb (aP (zb (dC (.int 300)) zo)) (zb (dOp bH (aP (zb (dC (.int 1)) zo)) (dC (.int 8))) zo))))) (zG 0 2 zn (zb (zg 0) (zb (dC (.int 4)) zo)))) (zh 3)) aO) (zM (aA (bJ zo) (zh 4)) (zM (bU (bS (zb (dCB aS (zb (zg 3) zo)) zo)) (zh 5) (zM (aA (zG 0 1 pA (zb (zg 0) zo)) (zh 6)) (bQ (dBM cN (zg 4) (zb (aC (zb (dOp dIx (zg 2) (zg 5)) (zb (zg 6) (zb (dOp (dI0 fun i j=>i-j) (dOp aE (zg 6) (dOp dIx (zg 3) (zg 5))) (dC (.int 1))) zo)))) zo))))) (aB (dCB eR (zb (zg 4) zo)))))))) (aK S.length R) (xs.map some++bx 5 none) S
def zT:Nat->PN
 | 0=>fun _ _ _=>False
 |n+1=>fun xs S R=>(zM (aA (dCB iU (zb (bK [none,some 2] (bG (zg 4)) (zh 0) aM (aN 2 m8 (zb (zg 1) (zb (zg 0) zo)))) zo)) (zh 6)) (zM (aA (bK [none,some 3] (bS (zb (dCB aS (zb (zg 1) zo)) zo)) (zh 0) (dB (dOp fX (zg 0) (zg 1))) (zg 0)) (zh 7)) (zM (aL (dOr (dB (dOp aU (zg 7) (aP zo))) (dOr (dB (dOp aU (zg 5) (dC (.int 0)))) (fM (dB (dOp (dIb fun i j=>decide (i<j)) (dCB aS (zb (zg 6) zo)) (dC (.int 2)))) (dB (dOp (dIb fun i j=>decide (j<i)) (zG 0 2 zn (zb (zg 0) (zb (dC (.int 4)) zo))) (dC (.int 0))))))) (aB (aC (zb (dOp dIx (aP (zb (dC (.str "breaks")) (zb (dC (.str "keeps")) zo))) (dCB fZ (zb (dOp dIx (zg 6) (zG 0 2 zn (zb (zg 0) (zb (dCB aS (zb (zg 6) zo)) zo)))) zo))) zo))) aO) (zM (aA (dOp dIx (zg 7) (zG 0 2 zn (zb (zg 0) (zb (dCB aS (zb (zg 7) zo)) zo)))) (zh 8)) (zM (aA (dOp dIx (zg 1) (zg 8)) (cH 3 (aR (zh 9) (aR (zh 10) (aR (zh 11) cF))))) (zM (aA (bJ zo) (zh 12)) (zM (bU (bS (zb (dOp aE (dOp (dI0 fun i j=>i-j) (zg 11) (zg 10)) (dC (.int 1))) zo)) (zh 13) (zM (aA (bK [none,some 8,some 10,some 13] (bG (zg 4)) (zh 0) (dB (dOp aU (dOp dIx (zg 0) (zg 1)) (dOp aE (zg 2) (zg 3)))) (zg 0)) (zh 14)) (bQ (dBM cN (zg 12) (zb (zG 0 6 (zT n) (zb (zg 0) (zb (zg 1) (zb (zg 2) (zb (dOp aE (zg 3) (aP (zb (zg 8) zo))) (zb (zg 14) (zb (dOp (dI0 fun i j=>i-j) (zg 5) (dC (.int 1))) zo))))))) zo))))) (aB (aC (zb (dC (.str "measure")) (zb (zg 8) (zb (dCB eR (zb (zg 12) zo)) zo)))))))))))) (aK S.length R) (xs.map some++bx 9 none) S
def tH:PN:=zT 160
def zW:Nat->PN
 | 0=>fun _ _ _=>False
 |n+1=>fun xs S R=>(zM (aL (dOr (dB (dOp aU (dCB aS (zb (zg 0) zo)) (dC (.int 1)))) (dB (dOp aU (zG 0 2 zn (zb (zg 2) (zb (dC (.int 3)) zo))) (dC (.int 0))))) (aB (zG 2 3 qA (zb (zg 0) (zb (zg 1) (zb (zg 2) zo))))) aO) (zM (aA (zG 0 2 zn (zb (zg 2) (zb (dCB aS (zb (dOp dIx (zg 0) (dC (.int 2))) zo)) zo))) (zh 3)) (zM (aA (zg 0) (cH 3 (aR (zh 4) (aR (zh 5) (aR (zh 6) cF))))) (zM (aA (zG 2 3 (zW n) (zb (dOp dIx (zg 6) (zg 3)) (zb (zg 1) (zb (zg 2) zo)))) (zh 7)) (aB (aC (zb (zg 4) (zb (zg 5) (zb (dOp aE (dOp aE (dSl eG (zg 6) cQ (cZ (zg 3))) (aC (zb (zg 7) zo))) (dSl eG (zg 6) (cZ (dOp aE (zg 3) (dC (.int 1)))) cQ)) zo))))))))) (aK S.length R) (xs.map some++bx 5 none) S
def xE:PN:=zW 160
def jT:PN:=fun xs S R=>(zM (aA (aN 3 pR (zb (zg 0) (zb (zg 1) (zb (zg 2) zo)))) (zh 3)) (aB (eM (dCB cD (zb (zg 3) (zb (dO (.ty "bool")) zo))) (dOp aU (zg 3) (aN 3 pK (zb (zg 0) (zb (zg 1) (zb (zg 2) zo)))))))) (aK S.length R) (xs.map some++bx 1 none) S
def tK:DS:=(zM (aA (aN 1 qR (zb (zg 1) zo)) (zh 2)) (zM (aA (zG 0 2 tE (zb (zg 2) (zb (dC (.int 3)) zo))) (zh 3)) (zM (aA (zG 0 2 p0 (zb (zg 2) (zb (zg 3) zo))) (zh 4)) (zM (aA (zG 0 6 tH (zb (zg 2) (zb (zg 3) (zb (zg 4) (zb (aP zo) (zb (aN 1 nJ (zb (zg 3) zo)) (zb (dC (.int 4)) zo))))))) (zh 5)) (zM (aL (bV (bP (aN 3 jT (zb (zg 3) (zb (zg 4) (zb (zg 5) zo)))))) (aB (dC (.bool false))) aO) (zM (bU (bS (zb (dC (.int 6)) zo)) (zh 6) (aL (bV (bP (aN 3 jT (zb (zg 3) (zb (zg 4) (zb (zG 2 3 xE (zb (zg 5) (zb (zg 3) (zb (zg 2) zo)))) zo)))))) (aB (dC (.bool false))) aO)) (zM (aA (aP (zb (dC .none) (zb (dC (.str "")) (zb (dC (.int 0)) (zb (aC zo) (zb (aP zo) (zb (dC (.dict [])) (zb (aC (zb (dC (.str "keeps")) zo)) (zb (aC (zb (dC (.str "breaks")) zo)) zo))))))))) (zh 7)) (aL (bV (bP (dCB fK (zb (bK [none,some 3,some 4] (bG (zg 7)) (zh 0) aM (aN 3 jT (zb (zg 1) (zb (zg 2) (zb (zg 0) zo))))) zo)))) (aB (dC (.bool false))) aO))))))))
def vU:PN:=fun xs S R=>(zM (eI (zM (aA (bJ zo) (zh 3)) (mR (dB (dOp aU (dCB aS (zb (zg 0) zo)) (dC (.int 3)))) (zM (bQ (dBM cN (zg 3) (zb (dOp dIx (zg 0) (dC (.int 1))) zo))) (aA (dOp dIx (dOp dIx (zg 0) (dC (.int 2))) (dOp (dI0 fun i j=>i-j) (dOp dIx (zg 2) (dOp dIx (zg 0) (dC (.int 1)))) (dOp dIx (dOp dIx (zg 1) (dOp dIx (zg 0) (dC (.int 1)))) (dC (.int 1))))) (zh 0)))))) (aB (aC (zb (zg 3) (zb (dOp dIx (zg 0) (dC (.int 0))) zo))))) (aK S.length R) (xs.map some++bx 1 none) S
end My
namespace My
open PySem L2
theorem seq1{t u:DS}{E:DEnds}{δ:XE}{S:Sto}(h:t { E with nx:=u E } δ S):zM t u E δ S:=h
theorem cut{t u:DS}{E:DEnds}{δ:XE}{S:Sto}(I:XE->Sto->Prop)(h1:∀N:XE->Sto->Prop,(∀ δ' S',I δ' S'->N δ' S')->t { E with nx:=N } δ S)(h2:∀ δ' S',I δ' S'->u E δ' S'):zM t u E δ S:=h1 _ h2
theorem c9(i j:Int):fr (.int i) (.int j)=decide (i=j):=rfl
theorem gJ(i j:Bool):fr (.bool i) (.bool j)=decide (i=j):=by cases i<;>cases j<;>rfl
theorem nU(i:Int):cw (.int i)=true:=rfl
theorem lJ(i:Bool):cw (.bool i)=true:=rfl
theorem mC:("int" ∈ eO)=True:=eq_true dz
theorem jX:("bool" ∈ eO)=True:=eq_true dz
theorem lB:("tuple" ∈ eO)=True:=eq_true dz
theorem mE:("list" ∈ eO)=True:=eq_true dz
theorem oM:("str" ∈ eO)=True:=eq_true dz
theorem l0:cw .none=true:=rfl
end My
namespace My
open PySem L2
local macro_rules|`(tactic|walk_at $s:str)=>do
 let xs<-("aA f7 kL all_cons List.all_nil Bool.and_self gZ oB n8 lP nQ lF nV mO iI k9 iP iT mQ mJ nN iU kZ eG iL zh zg dC dO dOp dUn zo zb dCB aC aP bJ dB bV fM dOr eM kU fT dIf eZ dI dI0 dIb dUI aU dU nR mS lR kC mB kP nO nC l6 mH oI j8 oC nY dFd bP n5 lC nA cQ cZ dSl aS nE kN cD fZ dI2 eR gR dBM fU gX cN iD eY iO iC fG gH fK aN zG g7 n6 mX jA oN mG lE lK mL kH oJ nM asL nT oA oE kR kQ j7 k8 mM m7 lL kW mN lT mV nW lI mT nH nX aB aL bQ aO hZ bU bG lY k6 bS nB oQ mK cH aR nF i6 kI mZ cF gN bK fY aM d9 eI n9 lN f9 lD jZ oO jY j9 List.replicate map_cons map_nil map_some Option.bind_some Option.bind_none Option.join_some getElem?_cons_zero getElem?_cons_succ set_cons_zero set_cons_succ List.take_succ_cons take_zero List.take_nil length_cons length_nil nil_append cons_append Option.some.injEq exists_eq_left' exists_eq_left List.cons.injEq XV.d.injEq XV.l.injEq XV.o.injEq PyData.int.injEq PyData.list.injEq PyData.tuple.injEq PyData.bool.injEq PyData.str.injEq and_true true_and decide_eq_true_eq Bool.not_true Bool.not_false Bool.false_eq_true Bool.true_eq_false not_true_eq_false not_false_eq_true decide_true decide_false Bool.not_eq_true' iZ decide_eq_false_iff_not Nat.reduceAdd Nat.reduceMul zero_add Nat.reduceLT Nat.reduceLeDiff Nat.reduceEqDiff Int.reduceLT Int.reduceLE Int.reduceNeg Int.reducePow Int.reduceToNat Int.reduceEq Int.reduceAdd Int.reduceSub Int.reduceMul le_refl zero_le length_append length_map c9 gJ nU lJ l0 List.isEmpty_nil List.isEmpty_cons Int.cast_ofNat_Int Int.natCast_zero Int.natCast_one mC jX lB mE oM mD mW oG lA l5".splitOn " ").toArray.mapM fun n=>`(Lean.Parser.Tactic.simpLemma|$(Lean.mkIdent n.toName):ident)
 match s.getString with
 |"d"=>`(tactic|((try dsimp only[↓reduceIte,$xs,*]);(try simp only[↓reduceIte,$xs,*])))
 |"n"=>`(tactic|(refine seq1 ?_; walk_at "d"))
 |"dX"=>`(tactic|(try simp -implicitDefEqProofs only [↓reduceIte,$xs,*]))
 |"e"=>`(tactic|((try dsimp only[zM,↓reduceIte,$xs,*]);(try simp only[zM,↓reduceIte,$xs,*])))
 |_=>Lean.Macro.throwUnsupported
section
variable {R:RX}
theorem AT{n:Int}(q:∀m,0<=m->R (.d (.int m)) []):j4 [.d (.int n)] [] R:=by
 unfold j4;walk_at "e";have h1:=nk (n+7919) (show (2147483647:Int)≠0 by decide);have h2:=mn (n+7919) (show (0:Int)<2147483647 by decide);exact⟨dX yw yw,dX dz dz,q _ (nk _ dz)⟩
theorem zq{p:List bo}{n:Int}(hp:aI p)(hn:0<n)(hb:n.natAbs.log2<9000)(q:∀r p',0<=r->r<n->aI p'->R (.d (.int r)) [p']):zn [.l 0,.d (.int n)] [p] R:=by
 obtain⟨l,g,sd,rfl,hl⟩:=hp;unfold zn;walk_at "e";split
 ·refine⟨hn,.inl ⟨⟨hn,hb⟩,0,rfl,?_⟩⟩;walk_at "e";exact q _ _ (nk _ yw) (mn _ hn) ⟨_,_,_,rfl,Int.ediv_nonneg hl yw⟩
 ·refine AT fun m _=>?_;walk_at "e";refine AT fun m' h'=>?_;walk_at "e";refine⟨2,rfl,?_⟩;walk_at "e";exact .inl ⟨⟨by decide,by decide +kernel⟩,hn,q _ _ (nk _ yw) (mn _ hn) ⟨_,_,_,rfl,hl⟩⟩
theorem Ff{n:Int}(q:∀p,aI p->R (.l 0) [p]):qR [.d (.int n)] [] R:=by
 unfold qR;walk_at "e";refine⟨⟨by decide,by decide,by decide⟩,?_⟩;refine .inr (q _ ⟨_,_,_,rfl,?_⟩);split<;>omega
theorem Hv{p:List bo}(hp:aI p)(q:∀r p',-10 ^ 58<=r->r<=10 ^ 58->aI p'->R (.d (.int r)) [p']):CS [.l 0] [p] R:=by
 unfold CS;walk_at "e";refine zq hp dz (by decide +kernel) fun r p1 r0 r1 aa=>?_;walk_at "e";split
 ·refine zq aa dz (by decide +kernel) fun r p2 r0 r1 z=>?_;walk_at "e";exact q _ _ yw yw z
 ·split
  ·refine zq aa dz (by decide +kernel) fun r p2 r0 r1 z=>?_;walk_at "e";exact q _ _ yw yw z
  ·refine⟨⟨by decide,by decide,by decide⟩,dX dz dz,?_⟩;have k1:(10:Int) ^ 30=1000000000000000000000000000000:=by decide +kernel
   have k2:(10:Int) ^ 28=10000000000000000000000000000:=by decide +kernel
   refine zq aa (by decide +kernel) (by decide +kernel) fun r p2 r0 r1 z=>?_;walk_at "e"
   try simp only[k1,k2]at r1 ⊢
   refine⟨⟨by decide,by decide,by decide⟩,⟨by decide,by decide,by decide⟩,JL 128 128 yw (by decide +kernel),q _ _ yw yw z⟩
theorem Db{p:List bo}(hp:aI p)(q:∀r p',-10 ^ 58<=r->r<=10 ^ 58->aI p'->R (.d (.int r)) [p']):pA [.l 0] [p] R:=Hv hp q
end
section
variable {R:RX}
theorem ID{α:Type}[Inhabited α]{l:List α}{i:Int}(h0:0<=i)(h1:i<l.length)(d:α):atI l i=some (l.getD i.toNat d):=by
 obtain⟨k,rfl⟩:=gn h0;have hk:k<l.length:=yw
 rw[fA (cv hk)];simp[fj,hk]
theorem Ah:("abcdefghijklmnopqrstuvwxyz":Str).length=26:=by decide
theorem F3:("abcdefghijklmnopqrstuvwxyz":Str).cps.toList.length=26:=by rw[<- Ah];simp[Str.length]
theorem BF:("abcdefghijklmnopqrstuvwxyz":Str).length<=dw:=ku (small1000 (by rw[Ah];decide))
theorem len1(c:Nat):(⟨#[c]⟩:Str).length=1:=rfl
abbrev lsgn (i:Int):Str:=⟨#[("abcdefghijklmnopqrstuvwxyz":Str).cps.toList.getD i.toNat 0]⟩
theorem Ba{i:Int}(h0:0<=i)(h1:i<26):atI ("abcdefghijklmnopqrstuvwxyz":Str).cps.toList i=some (("abcdefghijklmnopqrstuvwxyz":Str).cps.toList.getD i.toNat 0):=ID h0 (by rw[F3];exact h1) 0
theorem wA{ds:List bo}{a b:Option Int}{d:bo}(m:d∈aQ ds a b):d∈ds:=by
 unfold aQ at m;exact qr (ng m)
def gP(z:Str):Bool:=decide (z.length<=100)&&PyData.strOk z&&!decide (z = "zy")
theorem F9:∀f<26,∀k<8,gP (PySem.Txt.mul (lsgn (((f:Nat)+5*(0+((k:Nat):Int))) % 26)) (1+((f:Nat)+3*(0+((k:Nat):Int))) % 8))=true:=by decide +kernel
theorem Hu:∀f<26,∀k<8,gP (PySem.Txt.slice (PySem.Txt.join "" ((gc 8).map fun k:Nat=>lsgn (((f:Nat)+7*(0+(k:Int))) % 26))) none (some (0+((k:Nat):Int)+1)))=true:=by decide +kernel
theorem Fa{ds:List bo}(h:∀d∈ds,∃z:Str,d=.str z/\gP z=true):∃zs:List Str,ds=zs.map lq/\zs.length=ds.length/\∀z∈zs,gP z=true:=by
 induction ds with
 |nil=>exact⟨[],rfl,rfl,yv⟩
 |cons d ds ih=>
  obtain⟨z,rfl,hz⟩:=h d fi;obtain⟨zs,rfl,hl,q⟩:=ih fun d m=>h d (fb _ m);refine⟨z::zs,rfl,yv,fun y m=>?_⟩;rcases mem_cons.mp m with rfl|m
  ·exact hz
  ·exact q y m
theorem B0(a b:Str):(a++b).length=a.length+b.length:=strLen_append a b
theorem BV:∀zs:List Str,(∀z∈zs,z.length<=1)->(Str.join "" zs).length<=zs.length
 | [],_=>cx 0
 | [a],h=>h a fi
 |a::b::r,h=>by
  show (a ++ "" ++ Str.join "" (b::r)).length<=_;rw[B0,B0];have e:("":Str).length=0:=rfl;have h1:=h a fi;have h2:=BV (b::r) fun z m=>h z (fb _ m);rw[e];simp only[fu]at h2 ⊢;omega
def kF(ds:List bo):Prop:=∀d∈ds,∃z:Str,d=.str z/\gP z=true
theorem Dp{ds:List bo}{a:Int}(h0:0<=a)(h1:a<=ds.length):(aQ ds (some a) none++aQ ds none (some a)).length=ds.length:=by
 obtain⟨k,rfl⟩:=gn h0;have e1:HT.sIx ds.length 0 (some (k:Int))=k:=by rw[HT.sIx_nat];omega
 have e2:HT.sIx ds.length ds.length (some (k:Int))=k:=by rw[HT.sIx_nat];omega
 have e3:HT.sIx ds.length ds.length none=ds.length:=rfl;have e4:HT.sIx ds.length 0 none=0:=rfl;unfold aQ;rw[e1,e2,e3,e4,cu,jw,jw,length_drop,length_drop];omega
def sC:List Str:=["part","gap","cut","a","aa","dear","b","keeps"]
set_option maxHeartbeats 8000000 in
theorem Gq{p:List bo}(hp:aI p)(q:∀(ns:List Str) p',ns.length=8->(∀z∈ns,gP z=true)->aI p'->R (.d (.list (ns.map lq))) [p']):mU [.l 0] [p] R:=by
 unfold mU;walk_at "dX"
 (refine seq1 ?_;walk_at "dX")
 (refine seq1 ?_;walk_at "dX")
 refine zq hp dz (by decide +kernel) fun af p1 w0 w1 al=>?_;walk_at "dX"
 (refine seq1 ?_;walk_at "dX")
 refine zq al dz (by decide +kernel) fun aa p2 f0 f1 am=>?_;walk_at "dX";refine cut (fun δ' S'=>∃(ds:List bo),kF ds/\ds.length=8/\S'=[p2,ds]/\δ'=[some (.l 0),some (.d (.str ("abcdefghijklmnopqrstuvwxyz":Str))),some (.d (.int af)),some (.d (.int aa)),some (.l 1),none,none]) (fun N hN=>?_) ?_
 ·walk_at "dX";refine cmp1 (S0:=[p2]) (fun k:Nat=>.str (PySem.Txt.mul (lsgn ((aa+5*(0+k)) % 26)) (1+(aa+3*(0+k)) % 8))) rfl (gc 8) yv ?_ ?_
  ·intro k mk u acc R' hk;have b1:=nk (aa+5*(0+(k:Int))) (show (26:Int)≠0 by decide);have b2:=mn (aa+5*(0+(k:Int))) (show (0:Int)<26 by decide);have b3:=nk (aa+3*(0+(k:Int))) (show (8:Int)≠0 by decide);have b4:=mn (aa+3*(0+(k:Int))) (show (0:Int)<8 by decide);walk_at "dX";refine⟨dX dz dz,BF,_,Ba b1 b2,?_⟩;walk_at "dX";refine⟨dX dz dz,?_⟩;walk_at "dX";exact⟨by rw[len1];decide,yw,yw,hk _⟩
  ·refine hN _ _ ⟨_,?_,yv,rfl,rfl⟩;intro d m;obtain⟨k,mk,rfl⟩:=mem_map.mp m;obtain⟨f,rfl⟩:=gn f0;exact⟨_,rfl,F9 f yw k (mem_range.mp mk)⟩
 rintro _ _ ⟨ds,ac,hl,rfl,rfl⟩;refine cut (fun δ' S'=>∃(ds:List bo) (T:Sto) (k:Nat) (u:Option XV),kF ds/\ds.length=8/\T[k]?=some ds/\S'=p2::T/\δ'=[some (.l 0),some (.d (.str ("abcdefghijklmnopqrstuvwxyz":Str))),some (.d (.int af)),some (.d (.int aa)),some (.l (k+1)),u,none]) (fun N hN=>?_) ?_
 ·walk_at "dX";split
  ·refine seq1 ?_;walk_at "dX";refine cmp1 (S0:=[p2,ds]) (fun k:Nat=>.str (lsgn ((aa+7*(0+k)) % 26))) rfl (gc 8) yv ?_ ?_
   ·intro k mk u acc R' hk;have b1:=nk (aa+7*(0+(k:Int))) (show (26:Int)≠0 by decide);have b2:=mn (aa+7*(0+(k:Int))) (show (0:Int)<26 by decide);walk_at "dX";refine⟨dX dz dz,BF,_,Ba b1 b2,?_⟩;exact hk _
   ·walk_at "dX";refine⟨(gc 8).map fun k:Nat=>lsgn ((aa+7*(0+k)) % 26),by rw[pj];rfl,by decide,yv,fun y m=>?_,?_⟩
    ·obtain⟨k,_,rfl⟩:=mem_map.mp m;show 1<=1000;decide
    ·have wl:(PySem.Txt.join "" ((gc 8).map fun k:Nat=>lsgn ((aa+7*(0+k)) % 26))).length<=8*1016:=by
      have:=FB (y:=("":Str)) (zs:=(gc 8).map fun k:Nat=>lsgn ((aa+7*(0+k)) % 26)) dz (fun y m=>by
       obtain⟨k,_,rfl⟩:=mem_map.mp m;show 1<=1000;decide)
      simpa using this
     have an:(PySem.Txt.join "" ((gc 8).map fun k:Nat=>lsgn ((aa+7*(0+k)) % 26))).length<=8:=by
      show (Builtin.Str.glued _ _).length<=_;rw[StrLaws.glued_eq_join];have:=BV ((gc 8).map fun k:Nat=>lsgn ((aa+7*(0+k)) % 26)) (fun y m=>by
       obtain⟨k,_,rfl⟩:=mem_map.mp m;exact cx 1)
      simpa using this
     walk_at "dX";refine cmp1 (S0:=[p2,ds]) (fun k:Nat=>.str (PySem.Txt.slice (PySem.Txt.join "" ((gc 8).map fun k:Nat=>lsgn ((aa+7*(0+k)) % 26))) none (some (0+k+1)))) rfl (gc 8) yv ?_ ?_
     ·intro k mk u acc R' hk;walk_at "dX";exact⟨iz wl (by rw[jj];decide),hk _⟩
     ·refine hN _ _ ⟨_,[ds,_],1,_,?_,?_,rfl,rfl,rfl⟩
      ·intro d m;obtain⟨k,mk,rfl⟩:=mem_map.mp m;obtain⟨f,rfl⟩:=gn f0;exact⟨_,rfl,Hu f yw k (mem_range.mp mk)⟩
      ·simp
  ·exact hN _ _ ⟨ds,[ds],0,none,ac,hl,rfl,rfl,rfl⟩
 rintro _ _ ⟨ds,T,k,u,ac,hl,hk,rfl,rfl⟩;refine cut (fun δ' S'=>∃(ds:List bo) (T:Sto) (k:Nat),kF ds/\ds.length=8/\T[k]?=some ds/\S'=p2::T/\δ'=[some (.l 0),some (.d (.str ("abcdefghijklmnopqrstuvwxyz":Str))),some (.d (.int af)),some (.d (.int aa)),some (.l (k+1)),u,none]) (fun N hN=>?_) ?_
 ·walk_at "dX";split
  ·refine hN _ _ ⟨sC.map lq,T++[sC.map lq],T.length,?_,rfl,by rw[ck],rfl,rfl⟩;intro d m;obtain⟨z,hz,rfl⟩:=mem_map.mp m;refine⟨z,rfl,?_⟩;simp only[sC,iq,gg,or_false]at hz;rcases hz with rfl|rfl|rfl|rfl|rfl|rfl|rfl|rfl<;>decide +kernel
  ·exact hN _ _ ⟨ds,T,k,ac,hl,hk,rfl,rfl⟩
 rintro _ _ ⟨ds,T,k,ac,hl,hk,rfl,rfl⟩
 (refine seq1 ?_;walk_at "dX")
 refine zq am dz (by decide +kernel) fun ab p3 a0 a1 aj=>?_;walk_at "dX"
 (refine seq1 ?_;walk_at "dX")
 refine⟨ds,hk,ds,hk,?_⟩;have hc:=Dp (ds:=ds) a0 yw;rw[cu]at hc;refine⟨yw,?_⟩;have ag:(T++[aQ ds (some ab) none++aQ ds none (some ab)])[T.length]?=some (aQ ds (some ab) none++aQ ds none (some ab)):=by rw[ck]
 have ah:kF (aQ ds (some ab) none++aQ ds none (some ab)):=fun d m=>(mem_append.mp m).elim (fun m=>ac d (wA m)) fun m=>ac d (wA m);have ai:(aQ ds (some ab) none++aQ ds none (some ab)).length=8:=by rw[cu];omega
 generalize aQ ds (some ab) none++aQ ds none (some ab)=es at ag ah ai ⊢;refine seq1 ?_;walk_at "dX";refine zq aj dz (by decide +kernel) fun r p4 r0 r1 ak=>?_;walk_at "dX";have ae:∀(fs:List bo),kF fs->fs.length=8->R (.d (.list fs)) [p4]:=by
  intro fs h1 h2;obtain⟨zs,rfl,z1,z2⟩:=Fa h1;exact q zs p4 yw z2 ak
 split
 ·refine⟨yv,es,ag,?_⟩;walk_at "dX";rw[cg yw];refine⟨es.reverse,by simp[sX],.inl (ae _ (fun d m=>ah d (mem_reverse.mp m)) (by simpa using ai))⟩
 ·rw[cg yw];exact⟨es,ag,.inl (ae _ ah ai)⟩
abbrev Part:=Str×Int×Int
def bC(p:Part):bo:=.tuple [.str p.1,.int p.2.1,.int p.2.2]
def aF(ps:List Part):bo:=.tuple (ps.map bC)
structure Prt(p:Part):Prop where
 nm:gP p.1=true
 le:p.2.1<=p.2.2
 lo:-10 ^ 58<=p.2.1
 hi:p.2.2<=10 ^ 59
structure Drw(ps:List Part):Prop where
 l1:1<=ps.length
 l8:ps.length<=8
 all:∀p∈ps,Prt p
theorem cV{α:Type}{f:α->bo}{l:List α}{k:Nat}{x:α}(e:l[k]?=some x):atI (l.map f) (k:Int)=some (f x):=fA (by rw[gu,e];rfl)
end
section
variable {R:RX}{S:Sto}
theorem Em{a b m:Int}(h1:m∈[a,b])(h2:∀x,x∈[a,b]->m<=x):m=min a b:=by
 have ha:=h2 a yv;have hb:=h2 b yv;simp only[iq,gg,or_false]at h1;omega
theorem Fq{a b m:Int}(h1:m∈[a,b])(h2:∀x,x∈[a,b]->x<=m):m=max a b:=by
 have ha:=h2 a yv;have hb:=h2 b yv;simp only[iq,gg,or_false]at h1;omega
theorem GY{a b:Int}(q:R (.d (.int (min a b))) S):rT [.d (.list [.int a,.int b])] S R:=.inl ⟨_,rfl,[a,b],rfl,yv,fun m h1 h2=>by rw[Em h1 h2];exact q⟩
theorem GP{a b:Int}(q:R (.d (.int (max a b))) S):rL [.d (.list [.int a,.int b])] S R:=⟨_,rfl,[a,b],rfl,yv,fun m h1 h2=>by rw[Fq h1 h2];exact q⟩
abbrev Term:=Nat×Int
def tmD(t:Term):bo:=.tuple [.int t.1,.int t.2]
def qN(ts:List Term):bo:=.tuple (ts.map tmD)
structure Gap where
 ts:List Term
 lo:Int
 hi:Int
def cM(g:Gap):bo:=.tuple [qN g.ts,.int g.lo,.int g.hi]
theorem pX(g:Gap):cM g=.tuple [qN g.ts,.int g.lo,.int g.hi]:=rfl
theorem yW(t:Term):tmD t=.tuple [.int t.1,.int t.2]:=rfl
theorem jG(p:Part):bC p=.tuple [.str p.1,.int p.2.1,.int p.2.2]:=rfl
def aG(ns:List Int):bo:=.tuple (ns.map dj)
structure Tms(n:Nat)(ts:List Term):Prop where
 ne:ts≠[]
 len:ts.length<=n
 ok:∀t∈ts,t.1<n/\t.2≠0/\-3<=t.2/\t.2<=3
 srt:ts.Pairwise fun t u=>t.1<u.1
structure Tm3(n:Nat)(ts:List Term):Prop where
 len:ts.length<=100
 ok:∀t∈ts,t.1<n/\-3<=t.2/\t.2<=3
theorem Tms.tm3{n:Nat}{ts:List Term}(h:Tms n ts)(hn:n<=8):Tm3 n ts:=⟨by have:=h.len;omega,fun t m=>⟨(h.ok t m).1,(h.ok t m).2.2⟩⟩
def worth(ts:List Term)(ns:List Int):Int:=(ts.map fun t=>t.2*ns.getD t.1 0).sum
theorem l7{ns:List Int}{k:Nat}(h:k<ns.length):ns[k]?=some (ns.getD k 0):=by
 rw[cv h,fj,cv h];rfl
def part(ps:List Part)(k:Nat):Part:=ps.getD k ("",0,0)
theorem fR{ps:List Part}{k:Nat}(h:k<ps.length):ps[k]?=some (part ps k):=by
 unfold part;rw[cv h,fj,cv h];rfl
theorem Ey{ps:List Part}{k:Nat}(h:k<ps.length):part ps k∈ps:=bv (fR h)
def plo(ps:List Part)(k:Nat):Int:=(part ps k).2.1
def phi(ps:List Part)(k:Nat):Int:=(part ps k).2.2
def tLo(ps:List Part)(t:Term):Int:=min (t.2*plo ps t.1) (t.2*phi ps t.1)
def tHi(ps:List Part)(t:Term):Int:=max (t.2*plo ps t.1) (t.2*phi ps t.1)
def b7(ps:List Part)(ts:List Term):Int:=(ts.map (tLo ps)).sum
def cE(ps:List Part)(ts:List Term):Int:=(ts.map (tHi ps)).sum
theorem Gp{ps:List Part}{t:Term}{ts:List Term}:b7 ps (t::ts)=tLo ps t+b7 ps ts:=by simp[b7]
theorem HZ{ps:List Part}{t:Term}{ts:List Term}:cE ps (t::ts)=tHi ps t+cE ps ts:=by simp[cE]
theorem HK{ps:List Part}{ts:List Term}{i:Nat}{t:Term}(h:ts[i]?=some t):b7 ps (ts.take (i+1))=b7 ps (ts.take i)+tLo ps t:=by
 unfold b7;rw[take_add_one,h];simp
theorem E8{ps:List Part}{ts:List Term}{i:Nat}{t:Term}(h:ts[i]?=some t):cE ps (ts.take (i+1))=cE ps (ts.take i)+tHi ps t:=by
 unfold cE;rw[take_add_one,h];simp
theorem wG(ps:List Part):∀ts:List Term,b7 ps ts<=cE ps ts
 | []=>by simp[b7,cE]
 |t::ts=>by
  have:=wG ps ts;rw[Gp,HZ];unfold tLo tHi;omega
theorem iY{α:Type}{f:α->bo}{l:List α}{i:Nat}{d:bo}(h:(l.map f)[i]?=some d):∃x,l[i]?=some x/\d=f x:=by
 rw[gu]at h;obtain⟨x,e,rfl⟩:=map_eq_some_iff.mp h;exact⟨x,e,rfl⟩
theorem FF{ps:List Part}{ts:List Term}{t:bo}(ht:eK (.d t)=some (ts.map tmD))(h3:Tm3 ps.length ts)(q:R (.d (spD (b7 ps ts) (cE ps ts))) []):qE [.d (aF ps),.d t] [] R:=by
 unfold qE aF;walk_at "d"
 walk_at "n"
 walk_at "n"
 walk_at "n";refine⟨_,ht,?_⟩;refine dG (fun i δ S=>∃(u1 u2 u3:Option XV),S=[]/\δ=[some (.d (.tuple (ps.map bC))),some (.d t),some (.d (.int (b7 ps (ts.take i)))),some (.d (.int (cE ps (ts.take i)))),u1,u2,u3]) ⟨_,_,_,rfl,rfl⟩ ?_ ?_
 ·rintro i d _ _ N hi ⟨u1,u2,u3,rfl,rfl⟩ hN;obtain⟨t,ht,rfl⟩:=iY hi;obtain⟨t1,t2,t3⟩:=h3.ok t (bv ht);have ep:=cV (f:=bC) (fR t1);unfold tmD;walk_at "d"
  walk_at "n"
  refine⟨_,ep,?_⟩;unfold bC;walk_at "d";refine⟨dX yw yw,_,ep,?_⟩;unfold bC;walk_at "d";refine⟨dX yw yw,?_⟩
  walk_at "n"
  refine GY ?_;walk_at "d";refine GP ?_;walk_at "d";exact hN _ _ ⟨_,_,_,rfl,by rw[HK ht,E8 ht];rfl⟩
 ·rintro _ _ ⟨u1,u2,u3,rfl,rfl⟩;rw[ff,ou];walk_at "d";exact q
theorem eT{ds:List bo}{r:Int}{P:bo->Prop}(h0:0<=r)(h1:r<ds.length)(hP:∀d∈ds,P d):∃d,atI ds r=some d/\P d:=by
 obtain⟨k,rfl⟩:=gn h0;have hk:k<ds.length:=yw
 exact⟨ds[k],fA (cv hk),hP _ (ot hk)⟩
theorem B6(ds:List bo):fr (.list ds) (.list [])=decide (ds=[]):=by
 cases ds with
 |nil=>rfl
 |cons d ds=>rfl
theorem JB(t:Term):Shp 1 (tmD t):=dR (Bo bI bI)
theorem FG(ts:List Term):cw (.list (ts.map tmD))=true:=(iS (lQ fun t _=>JB t)).ok
structure GapOk(n:Nat)(g:Gap):Prop where
 ts:Tms n g.ts
 le:g.lo<=g.hi
theorem HS{p:List bo}{ps:List Part}(hp:aI p)(hd:Drw ps)(q:∀g p',GapOk ps.length g->aI p'->R (.d (cM g)) [p']):p0 [.l 0,.d (aF ps)] [p] R:=by
 have h8:=hd.l8;have h1:=hd.l1;unfold p0;walk_at "d"
 walk_at "n"
 refine cut (fun δ S=>∃(p:List bo) (ts:List Term) (u1 u2:Option XV),aI p/\ts.length<=ps.length/\(∀t∈ts,t.1<ps.length/\t.2≠0/\-3<=t.2/\t.2<=3)/\(ts.Pairwise fun t u=>t.1<u.1)/\S=[p,ts.map tmD]/\δ=[some (.l 0),some (.d (aF ps)),some (.l 1),u1,u2,none,none,none,none,none]) (fun N hN=>?_) ?_
 ·walk_at "d";refine⟨ps.length,by unfold aF;walk_at "d",?_⟩;refine dG (fun i δ S=>∃(p:List bo) (ts:List Term) (u1 u2:Option XV),aI p/\ts.length<=i/\(∀t∈ts,t.1<i/\t.2≠0/\-3<=t.2/\t.2<=3)/\(ts.Pairwise fun t u=>t.1<u.1)/\S=[p,ts.map tmD]/\δ=[some (.l 0),some (.d (aF ps)),some (.l 1),u1,u2,none,none,none,none,none]) ⟨p,[],_,_,hp,cx _,yv,.nil,rfl,rfl⟩ ?_ ?_
  ·rintro i d _ _ N hi ⟨p,ts,u1,u2,hp,hl,ht,hw,rfl,rfl⟩ hN;obtain⟨ae,rfl⟩:=oP hi;have ah:i<ps.length:=by simpa using ae
   walk_at "d"
   walk_at "n"
   refine zq hp dz (by decide +kernel) fun r p2 r0 r1 aa=>?_;walk_at "d";refine⟨rfl,?_⟩;simp only[any_cons,List.any_nil,Bool.or_false,c9];have af:=hN [some (.l 0),some (.d (aF ps)),some (.l 1),some (.d (.int (0+(i:Int)))),some (.d (.int (r-4))),none,none,none,none,none] [p2,ts.map tmD] ⟨p2,ts,_,_,aa,yw,fun t m=>⟨by have:=(ht t m).1;omega,(ht t m).2⟩,hw,rfl,rfl⟩;by_cases hz:r-4 = -4\/r-4=0\/r-4=4
   ·have e:(decide ((-4:Int)=r-4)||(decide ((0:Int)=r-4)||decide ((4:Int)=r-4)))=true:=by
     rcases hz with h|h|h<;>simp[h]
    rw[e];walk_at "d";exact af
   ·have e:(decide ((-4:Int)=r-4)||(decide ((0:Int)=r-4)||decide ((4:Int)=r-4)))=false:=by
     simp;omega
    rw[e];walk_at "d";refine⟨yw,hN _ _ ⟨p2,ts++[(i,r-4)],_,_,aa,by simp;omega,fun t m=>?_,?_,by simp[tmD],rfl⟩⟩
    ·rcases mem_append.mp m with m|m
     ·exact⟨by have:=(ht t m).1;omega,(ht t m).2⟩
     ·rw[mem_singleton.mp m];exact⟨yv,by simp only;omega,by simp only;omega,by simp only;omega⟩
    ·rw[pairwise_append];exact⟨hw,yv,fun t m u m'=>by rw[mem_singleton.mp m'];exact(ht t m).1⟩
  ·rintro _ _ ⟨p,ts,u1,u2,hp,hl,ht,hw,rfl,rfl⟩;rw[g8]at hl ht;have hz:(ps.length:Int).toNat=ps.length:=by simp
   rw[hz]at hl ht;exact hN _ _ ⟨p,ts,u1,u2,hp,hl,ht,hw,rfl,rfl⟩
 rintro _ _ ⟨p,ts,u1,u2,hp,hl,ht,hw,rfl,rfl⟩;refine cut (fun δ S=>∃(p:List bo) (ts:List Term) (T:Sto) (k:Nat),aI p/\Tms ps.length ts/\T[k]?=some (ts.map tmD)/\S=p::T/\δ=[some (.l 0),some (.d (aF ps)),some (.l (k+1)),u1,u2,none,none,none,none,none]) (fun N hN=>?_) ?_
 ·walk_at "d";refine⟨FG ts,rfl,?_⟩;rw[B6];walk_at "d";split
  ·refine⟨ps.length,by unfold aF;walk_at "d",?_⟩;refine zq hp yw (jD yw yw) fun r p2 r0 r1 aa=>?_;walk_at "d";refine zq aa dz (by decide +kernel) fun r3 p3 r2 r4 ab=>?_;obtain⟨d,ed,n,rfl,hn⟩:=eT (ds:=[dj 1,dj (-1),dj 2,dj (-3)]) (P:=fun d=>∃n,d=.int n/\n≠0/\-3<=n/\n<=3) r2 r4 (by
    intro d m;simp only[iq,gg,or_false]at m;rcases m with rfl|rfl|rfl|rfl<;>exact⟨_,rfl,by decide,by decide,by decide⟩)
   obtain⟨k,rfl⟩:=gn r0;walk_at "d";refine⟨_,ed,?_⟩;walk_at "d";refine hN _ _ ⟨p3,[(k,n)],[ts.map tmD,[tmD (k,n)]],1,ab,⟨yv,by simpa using h1,fun t m=>by rw[mem_singleton.mp m];exact⟨by simp only;omega,hn⟩,yv⟩,rfl,rfl,rfl⟩
  ·rename_i ag;exact hN _ _ ⟨p,ts,[ts.map tmD],0,hp,⟨fun z=>ag (by rw[z];rfl),hl,ht,hw⟩,rfl,rfl,rfl⟩
 rintro _ _ ⟨p,ts,T,k,hp,ac,hk,rfl,rfl⟩
 walk_at "n"
 rw[hk];walk_at "d";refine FF rfl (ac.tm3 h8) ?_;have lm:=wG ps ts;unfold spD;walk_at "d";refine⟨rfl,?_⟩;walk_at "d"
 walk_at "n"
 walk_at "n"
 refine .inl ⟨⟨by decide,by decide +kernel⟩,.inl ⟨⟨by decide,by decide +kernel⟩,?_⟩⟩;walk_at "d";refine zq hp dz (by decide +kernel) fun r p2 r0 r1 aa=>?_;obtain⟨d,ed,n,rfl⟩:=eT (P:=fun d=>∃n,d=.int n) (ds:=[dj 0,dj 1,dj (-1),dj ((cE ps ts-b7 ps ts)/2),dj ((cE ps ts-b7 ps ts)/3),dj (cE ps ts-b7 ps ts+1)]) r0 r1 yv;walk_at "d";refine⟨_,ed,?_⟩;walk_at "d"
 walk_at "n"
 refine .inl ⟨⟨by decide,by decide +kernel⟩,?_⟩;walk_at "d";refine zq aa dz (by decide +kernel) fun r' p3 r2 r3 ab=>?_;obtain⟨d,ed,n',rfl,h0⟩:=eT (P:=fun d=>∃n,d=.int n/\0<=n) (ds:=[dj 0,dj 1,dj 2,dj ((cE ps ts-b7 ps ts)/2),dj (cE ps ts-b7 ps ts),dj (cE ps ts-b7 ps ts+2)]) r2 r3 (by simp;omega);walk_at "d";refine⟨_,ed,?_⟩;walk_at "d";refine⟨_,hk,?_⟩;walk_at "d";exact q ⟨ts,_,_⟩ p3 ⟨ac,by simp only;omega⟩ ab
theorem y8{g:DG}{te:DE}{fin:Sto->Prop}{α:Type}(F:α->Prop)(f:α->bo)(P:XE->Prop):∀(ds:List bo) (acc:List α) (p:List bo) (τ:XE),P τ->aI p->acc.length+ds.length<=1000 ->
  (∀d∈ds,∀ τ p acc (R:XE->RX),P τ->aI p->(∀ τ' x p',P τ'->aI p'->F x->R τ' (.d (f x)) [p',acc])->g (.d d) τ [p,acc] fun τ1 S1=>te τ1 S1 (R τ1)) ->
  (∀xs p',aI p'->(∀x∈xs,F x)->xs.length=ds.length->fin [p',(acc++xs).map f])->aY 1 g aM te fin ds τ [p,acc.map f]
 | [],acc,p,τ,_,hp,_,_,h=>by
  have:=h [] p hp yv rfl;rw[km]at this;exact this
 |d::ds,acc,p,τ,hP,hp,hl,el,h=>by
  show g (.d d) τ [p,acc.map f] fun τ1 S1=>aM τ1 S1 fun b S2=>if b=true then te τ1 S2 fun x S3=>asD x fun e=>∃acc,S3[1]?=some acc/\acc.length<1000/\aY 1 g aM te fin ds τ1 (S3.set 1 (acc++[e]))else aY 1 g aM te fin ds τ1 S2
  simp only[aM,↓reduceIte];rw[fu]at hl;refine el d fi τ p (acc.map f) (fun τ1 x S3=>asD x fun e=>∃acc,S3[1]?=some acc/\acc.length<1000/\aY 1 g aM te fin ds τ1 (S3.set 1 (acc++[e]))) hP hp fun τ' x p' q z hF=>?_;refine⟨acc.map f,rfl,by rw[ff];omega,?_⟩;have e:([p',acc.map f]:Sto).set 1 (acc.map f++[f x])=[p',(acc++[x]).map f]:=by simp
  rw[e];refine y8 F f P ds (acc++[x]) p' τ' q z (by rw[cu,fk];omega) (fun e m=>el e (fb _ m)) fun xs p'' hp'' fs hl=>?_;rw[kc];exact h (x::xs) p'' hp'' (fun y m=>(mem_cons.mp m).elim (fun e=>e▸hF) (fs y)) (by simp[hl])
end
section
variable {R:RX}{S:Sto}
theorem wZ{p:Part}(q:R (.d (spD p.2.1 p.2.2)) []):nP [.d (bC p)] [] R:=by
 unfold nP bC;walk_at "e";exact q
theorem B1{a b:Int}(q:R (.d (.int (b-a+1))) []):lG [.d (spD a b)] [] R:=by
 unfold lG spD;walk_at "e";exact q
theorem DQ{g:Gap}{ns:List Int}(h3:Tm3 ns.length g.ts)(q:R (.d (.int (worth g.ts ns))) []):pO [.d (cM g),.d (aG ns)] [] R:=by
 unfold pO aG;rw[pX,qN];walk_at "e";refine cmp2 (S0:=[]) (fun t:Term=>.int (t.2*ns.getD t.1 0)) rfl g.ts (by have:=h3.len;omega) ?_ ?_
 ·intro t mt u v acc R' hk;obtain⟨t1,t2,t3⟩:=h3.ok t mt;have e:=cV (f:=dj) (l7 t1);rw[yW];walk_at "e";refine⟨_,e,?_⟩;walk_at "e";exact⟨dX yw yw,hk _ _⟩
 ·walk_at "e";refine⟨g.ts.map fun t:Term=>t.2*ns.getD t.1 0,by rw[pj];rfl,q⟩
def b8(g:Gap)(ns:List Int):Bool:=decide (g.lo<=worth g.ts ns/\worth g.ts ns<=g.hi)
theorem HB{g:Gap}{ns:List Int}(h3:Tm3 ns.length g.ts)(q:R (.d (.bool (b8 g ns))) []):qO [.d (cM g),.d (aG ns)] [] R:=by
 unfold qO;walk_at "e";rw[pX];walk_at "e";rw[<- pX];refine DQ h3 ?_;walk_at "e";unfold b8 at q;by_cases h:g.lo<=worth g.ts ns
 ·simp only[h,true_and]at q;rw[ci h];exact q
 ·simp only[h,false_and,decide_false]at q;rw[cg h];exact q
structure InBox(ps:List Part)(ns:List Int):Prop where
 len:ns.length=ps.length
 ok:∀k,k<ps.length->plo ps k<=ns.getD k 0/\ns.getD k 0<=phi ps k
def Ord(ps:List Part):Prop:=∀p∈ps,p.2.1<=p.2.2
theorem Drw.ord{ps:List Part}(h:Drw ps):Ord ps:=fun p m=>(h.all p m).le
theorem Ord.at{ps:List Part}(h:Ord ps){k:Nat}(hk:k<ps.length):plo ps k<=phi ps k:=h _ (Ey hk)
end
section
variable {R:RX}{S:Sto}
def pM:bo->Bool
 | .int _=>true
 |_=>false
theorem DZ{d:bo}(q:R (.d (.bool (pM d))) []):pD [.d d] [] R:=by
 unfold pD;cases d<;>(walk_at "e";exact q)
end
section
variable {R:RX}{S:Sto}
def rng(lo:Int)(n:Nat):List Int:=(gc n).map fun k:Nat=>lo+k
theorem Ax{lo x:Int}{n:Nat}:x∈rng lo n↔lo<=x/\x<lo+n:=by
 unfold rng;rw[mem_map];constructor
 ·rintro⟨k,hk,rfl⟩;have:=mem_range.mp hk;omega
 ·rintro⟨h1,h2⟩;exact⟨(x-lo).toNat,mem_range.mpr yw,yw⟩
def b9(p:Part):List Int:=rng p.2.1 (p.2.2-p.2.1+1).toNat
theorem pQ(p:Part):(b9 p).length=(p.2.2-p.2.1+1).toNat:=by simp[b9,rng]
def bO:List Part->List (List Int)
 | []=>[[]]
 |p::ps=>(b9 p).flatMap fun x=>(bO ps).map (x :: ·)
def ext(q:List (List Int))(p:Part):List (List Int):=q.flatMap fun a=>(b9 p).map fun x=>a++[x]
theorem Bu:∀(ps:List Part) (found:List (List Int)),ps.foldl ext found=found.flatMap fun a=>(bO ps).map (a ++ ·)
 | [],found=>by simp[bO]
 |p::ps,found=>by
  rw[foldl_cons,Bu ps];unfold ext;simp only[bO,List.flatMap_assoc,List.map_flatMap,List.flatMap_map,pj];congr 1;funext a;congr 1;funext x;congr 1;funext t;simp
theorem qD(ps:List Part):ps.foldl ext [[]]=bO ps:=by
 rw[Bu];simp
theorem IK{ms:List Int}:InBox [] ms↔ms=[]:=⟨fun h=>gj h.len,fun h=>by subst h;exact⟨rfl,fun k hk=>by simp at hk⟩⟩
theorem C9{p:Part}{ps:List Part}{k:Nat}:part (p::ps) (k+1)=part ps k:=by simp[part]
theorem IA{p:Part}{ps:List Part}{ms:List Int}:InBox (p::ps) ms↔∃x t,ms=x::t/\p.2.1<=x/\x<=p.2.2/\InBox ps t:=by
 constructor
 ·intro h;cases ms with
  |nil=>have:=h.len;simp at this
  |cons x t=>
   have h0:=h.ok 0 yv;refine⟨x,t,rfl,h0.1,h0.2,by have:=h.len;simpa using this,fun k hk=>?_⟩;have:=h.ok (k+1) (by simpa using hk);unfold plo phi at this ⊢;rw[C9]at this;simpa using this
 ·rintro⟨x,t,rfl,h1,h2,h3⟩;refine⟨by simp[h3.len],fun k hk=>?_⟩;cases k with
  |zero=>exact⟨h1,h2⟩
  |succ k=>
   have:=h3.ok k (by simpa using hk);unfold plo phi at this ⊢;rw[C9];simpa using this
theorem f8:∀{ps:List Part}{ms:List Int},ms∈bO ps↔InBox ps ms
 | [],ms=>by rw[IK];simp[bO]
 |p::ps,ms=>by
  rw[IA,bO,List.mem_flatMap];constructor
  ·rintro⟨x,hx,h⟩;obtain⟨t,ht,rfl⟩:=mem_map.mp h;unfold b9 at hx;rw[Ax]at hx;exact⟨x,t,rfl,yw,yw,f8.mp ht⟩
  ·rintro⟨x,t,rfl,h1,h2,h3⟩;exact⟨x,by unfold b9;rw[Ax];omega,mem_map.mpr ⟨t,f8.mpr h3,rfl⟩⟩
def bB:List Nat->Nat
 | []=>1
 |x::xs=>x*bB xs
def aH(ps:List Part):Nat:=bB (ps.map fun p=>(p.2.2-p.2.1+1).toNat)
theorem uA{α β:Type}{f:α->List β}{n:Nat}:∀{l:List α},(∀x∈l,(f x).length=n)->(l.flatMap f).length=l.length*n
 | [],_=>by simp
 |x::l,h=>by
  rw[List.flatMap_cons,cu,h x fi,uA fun y m=>h y (fb _ m),fu,Nat.succ_mul,Nat.add_comm]
theorem oY:∀ps:List Part,(bO ps).length=aH ps
 | []=>rfl
 |p::ps=>by
  rw[bO,uA (n:=aH ps) fun x _=>by rw[ff,oY ps],pQ];rfl
theorem kO{q:List (List Int)}{p:Part}:(ext q p).length=q.length*(p.2.2-p.2.1+1).toNat:=by
 unfold ext;exact uA fun x _=>by rw[ff,pQ]
theorem kS{q:List (List Int)}:∀{ps:List Part},(ps.foldl ext q).length=q.length*aH ps
 | []=>by simp[aH,bB]
 |p::ps=>by
  rw[foldl_cons,kS (ps:=ps),kO];simp[aH,bB,Nat.mul_assoc]
theorem tG:∀{l:List Nat},(∀x∈l,1<=x)->1<=bB l
 | [],_=>cx _
 |x::l,h=>Nat.mul_le_mul (h x fi) (tG fun y m=>h y (fb _ m))
theorem qX{ps:List Part}(ho:Ord ps):1<=aH ps:=tG fun x m=>by
 obtain⟨p,mp,rfl⟩:=mem_map.mp m;have:=ho p mp;omega
theorem rS:∀(a b:List Nat),bB (a++b)=bB a*bB b
 | [],b=>by simp[bB]
 |x::a,b=>by simp[bB,rS a b,Nat.mul_assoc]
theorem jW{ps:List Part}(ho:Ord ps)(i:Nat):aH (ps.take i)<=aH ps:=by
 have e:aH ps=aH (ps.take i)*aH (ps.drop i):=by
  unfold aH;rw[<- rS,<- jm,ky]
 have:=qX (ps:=ps.drop i) fun p m=>ho p (qr m);rw[e];exact Nat.le_mul_of_pos_right _ this
theorem jK{α:Type}{l:List α}{i:Nat}{x:α}(h:l[i]?=some x):l.take (i+1)=l.take i++[x]:=by rw[take_add_one,h];rfl
theorem yG(a:List Int)(x:Int):jb (a.map dj++[.int x])=aG (a++[x]):=by simp[aG]
theorem Ar{ps:List Part}(ho:Ord ps)(ac:ps.length<=100)(hs:aH ps<=300)(q:R (.d (.list ((bO ps).map aG))) []):nJ [.d (aF ps)] [] R:=by
 unfold nJ;rw[aF];walk_at "d"
 walk_at "n"
 walk_at "n";refine dG (fun i δ S=>∃(u1 u2 u3 u4 u5:Option XV),S=[]/\δ=[some (.d (.tuple (ps.map bC))),some (.d (.list (((ps.take i).foldl ext [[]]).map aG))),u1,u2,u3,u4,u5]) ⟨_,_,_,_,_,rfl,rfl⟩ ?_ ?_
 ·rintro i d _ _ N hi ⟨u1,u2,u3,u4,u5,rfl,rfl⟩ hN;obtain⟨p,hp,rfl⟩:=iY hi;have tk:=jK hp;have il:i<ps.length:=(List.getElem?_eq_some_iff.mp hp).1;have op:=ho p (bv hp);have l1:=jW ho i;have l2:=jW ho (i+1);have f1:((ps.take i).foldl ext [[]]).length=aH (ps.take i):=by rw[kS];simp
  have f2:(ext ((ps.take i).foldl ext [[]]) p).length=aH (ps.take (i+1)):=by
   have:(ps.take (i+1)).foldl ext [[]]=ext ((ps.take i).foldl ext [[]]) p:=by rw[tk,List.foldl_append];rfl
   rw[<- this,kS];simp
  have fl:∀a∈(ps.take i).foldl ext [[]],a.length<=i:=by
   rw[qD];intro a m;have:=(f8.mp m).len;rw[this,jw];omega
  have z:=fun u1 u2 u3 u4 u5=>hN [some (.d (.tuple (ps.map bC))),some (.d (.list ((ext ((ps.take i).foldl ext [[]]) p).map aG))),u1,u2,u3,u4,u5] [] ⟨u1,u2,u3,u4,u5,rfl,by rw[tk,List.foldl_append];rfl⟩;generalize (ps.take i).foldl ext [[]]=found at f1 f2 fl z ⊢;rw[jG];walk_at "d";walk_at "n";walk_at "n";refine dG (fun j δ S=>∃(u:Option XV),S=[(ext (found.take j) p).map aG]/\δ=[some (.d (.tuple (ps.map bC))),some (.d (.list (found.map aG))),some (.d (.str p.1)),some (.d (.int p.2.1)),some (.d (.int p.2.2)),some (.l 0),u]) ⟨_,rfl,rfl⟩ ?_ ?_
  ·rintro j d _ _ N' hj ⟨u,rfl,rfl⟩ ab;obtain⟨a,ha,rfl⟩:=iY hj;have aa:=jK ha;have al:=fl a (bv ha);have ej:ext (found.take (j+1)) p=ext (found.take j) p++(b9 p).map fun x=>a++[x]:=by
    rw[aa];unfold ext;rw[List.flatMap_append];simp
   have lj:(ext (found.take (j+1)) p).length<=(ext found p).length:=by
    rw[kO,kO,jw];exact Nat.mul_le_mul_right _ yw
   have pl:(p.2.2-p.2.1+1).toNat<=1000:=by
    have:=pQ p;rw[ej,cu,ff]at lj;omega
   rw[aG];walk_at "d";refine cmp1 (S0:=[(ext (found.take j) p).map aG]) (fun k:Nat=>aG (a++[p.2.1+(0+(k:Int))])) rfl (gc (p.2.2-p.2.1+1).toNat) (by simpa using pl) ?_ ?_
   ·intro k mk u acc R' hk;walk_at "d";refine⟨yw,?_⟩;rw[yG];exact hk _
   ·walk_at "d";have er:(gc (p.2.2-p.2.1+1).toNat).map (fun k:Nat=>aG (a++[p.2.1+(0+(k:Int))]))=((b9 p).map fun x=>a++[x]).map aG:=by
     unfold b9 rng;rw[pj,pj];simp[Function.comp_def]
    rw[er];refine⟨by rw[ej,cu]at lj;simp only[ff,length_range]at lj ⊢;rw[pQ]at lj;omega,ab _ _ ⟨_,by rw[ej,jm],rfl⟩⟩
  ·rintro _ _ ⟨u,rfl,rfl⟩;rw[ff,ou];walk_at "d";exact z _ _ _ _ _
 ·rintro _ _ ⟨u1,u2,u3,u4,u5,rfl,rfl⟩;rw[ff,ou,qD];walk_at "d";exact q
end
section
variable {R:RX}{S:Sto}
structure Wds(ws:List Int):Prop where
 l1:1<=ws.length
 l8:ws.length<=8
 pos:∀x∈ws,1<=x
 le:∀x∈ws,x<=300
 prod:bB (ws.map Int.toNat)<=300
theorem prod3:∀{ws:List Int},(∀x∈ws,1<=x/\x<=3)->bB (ws.map Int.toNat)<=3 ^ ws.length
 | [],_=>by simp[bB]
 |x::ws,h=>by
  have h1:=h x fi;have h2:=prod3 fun y m=>h y (fb _ m);rw[jc,bB,fu,Nat.pow_succ,mul_comm];exact Nat.mul_le_mul h2 yw
theorem wds3{ws:List Int}(l1:1<=ws.length)(l4:ws.length<=4)(h:∀x∈ws,1<=x/\x<=3):Wds ws:=by
 refine⟨l1,yw,fun x m=>(h x m).1,fun x m=>by have:=(h x m).2;omega,iz (prod3 h) ?_⟩;have:ws.length=1\/ws.length=2\/ws.length=3\/ws.length=4:=yw
 rcases this with e|e|e|e<;>rw[e]<;>decide
end
section
variable {R:RX}
theorem vA{ps:List Part}{i:Nat}{p:Part}(e:ps[i]?=some p):aH (ps.take (i+1))=aH (ps.take i)*(p.2.2-p.2.1+1).toNat:=by
 unfold aH;rw[jK e,jm,rS];simp[bB]
theorem Dv{ps:List Part}(ho:Ord ps)(hs:aH ps<=300)(q:R (.d (.int (aH ps))) []):qC [.d (aF ps)] [] R:=by
 unfold qC;rw[aF];walk_at "d"
 walk_at "n"
 walk_at "n";refine dG (fun i δ S=>∃(u:Option XV),S=[]/\δ=[some (.d (.tuple (ps.map bC))),some (.d (.int (aH (ps.take i)))),u]) ⟨_,rfl,rfl⟩ ?_ ?_
 ·rintro i d _ _ N hi ⟨u,rfl,rfl⟩ hN;obtain⟨p,e,rfl⟩:=iY hi;have op:=ho p (bv e);have l1:=jW ho i;walk_at "d";refine wZ ?_;walk_at "d";refine B1 ?_;walk_at "d";refine⟨dX yw yw,hN _ _ ⟨some (.d (bC p)),rfl,?_⟩⟩;rw[vA e,Int.natCast_mul,Int.toNat_of_nonneg yw]
 ·rintro _ _ ⟨u,rfl,rfl⟩;rw[ff,ou];walk_at "d";exact q
theorem Go{ps:List Part}(ho:Ord ps)(hs:aH ps<=300)(q:R (.d .none) []):zZ [.d (aF ps)] [] R:=by
 unfold zZ;walk_at "d"
 walk_at "n"
 refine Dv ho hs ?_;walk_at "d";have:¬(300:Int)<(aH ps:Int):=yw
 simp only[this,decide_false];walk_at "d";exact q
theorem D6(p:Part):eW p.2.1 (p.2.2+1-p.2.1).toNat=(b9 p).map dj:=by
 unfold eW b9 rng;rw[pj,show p.2.2+1-p.2.1=p.2.2-p.2.1+1 by omega];rfl
theorem FI{z:List (List Int)}{p:Part}(hl:(ext z p).length<=1000)(fl:∀a∈z,a.length<=100)(h1:1<=z.length)(q:R (.d (.list ((ext z p).map aG))) []):pH [.d (.list (z.map aG)),.d (.list ((b9 p).map dj))] [] R:=by
 unfold pH;walk_at "d"
 walk_at "n"
 walk_at "n";refine dG (fun j δ S=>∃(u:Option XV),S=[(ext (z.take j) p).map aG]/\δ=[some (.d (.list (z.map aG))),some (.d (.list ((b9 p).map dj))),some (.l 0),u]) ⟨_,rfl,rfl⟩ ?_ ?_
 ·rintro j d _ _ N hj ⟨u,rfl,rfl⟩ hN;obtain⟨a,ha,rfl⟩:=iY hj;have al:=fl a (bv ha);have ej:ext (z.take (j+1)) p=ext (z.take j) p++(b9 p).map fun x=>a++[x]:=by
   rw[jK ha];unfold ext;rw[List.flatMap_append];simp
  have lj:(ext (z.take (j+1)) p).length<=(ext z p).length:=by
   rw[kO,kO,jw];exact Nat.mul_le_mul_right _ yw
  have sm:(ext (z.take j) p).length+(b9 p).length<=1000:=by
   rw[ej,cu,ff]at lj;omega
  rw[aG];walk_at "d";refine cmp1 (S0:=[(ext (z.take j) p).map aG]) (fun x:Int=>aG (a++[x])) rfl (b9 p) yw ?_ ?_
  ·intro x mx u acc R' hk;walk_at "d";refine⟨yw,?_⟩;rw[yG];exact hk _
  ·walk_at "d";refine⟨sm,hN _ _ ⟨_,?_,rfl⟩⟩;rw[ej,jm,pj];rfl
 ·rintro _ _ ⟨u,rfl,rfl⟩;rw[ff,ou];walk_at "d";exact .inl q
theorem FO{ps:List Part}(ho:Ord ps)(z:ps.length<=100)(hs:aH ps<=300)(q:R (.d (.list ((bO ps).map aG))) []):oZ [.d (aF ps)] [] R:=by
 unfold oZ;walk_at "d"
 walk_at "n"
 refine Go ho hs ?_;rw[aF];walk_at "d"
 walk_at "n"
 walk_at "n";refine dG (fun i δ S=>∃(u:Option XV),S=[]/\δ=[some (.d (.tuple (ps.map bC))),some (.d (.list (((ps.take i).foldl ext [[]]).map aG))),u]) ⟨_,rfl,rfl⟩ ?_ ?_
 ·rintro i d _ _ N hi ⟨u,rfl,rfl⟩ hN;obtain⟨p,e,rfl⟩:=iY hi;have op:=ho p (bv e);have l1:=jW ho i;have l2:=jW ho (i+1);have il:i<ps.length:=(List.getElem?_eq_some_iff.mp e).1;have f1:((ps.take i).foldl ext [[]]).length=aH (ps.take i):=by rw[kS];simp
  have nx:(ps.take (i+1)).foldl ext [[]]=ext ((ps.take i).foldl ext [[]]) p:=by rw[jK e,List.foldl_append];rfl
  have f2:(ext ((ps.take i).foldl ext [[]]) p).length=aH (ps.take (i+1)):=by
   rw[<- nx,kS];simp
  have fl:∀a∈(ps.take i).foldl ext [[]],a.length<=100:=by
   rw[qD];intro a m;have:=(f8.mp m).len;rw[this,jw];omega
  have pos:1<=aH (ps.take i):=qX fun p m=>ho p (ng m);have pl:(p.2.2+1-p.2.1).toNat<=1000:=by
   have e1:=vA e;have e2:(p.2.2-p.2.1+1).toNat<=aH (ps.take i)*(p.2.2-p.2.1+1).toNat:=Nat.le_mul_of_pos_left _ pos;omega
  rw[jG];walk_at "d";refine⟨pl,?_⟩;rw[D6];refine FI yw fl yw ?_;walk_at "d";exact hN _ _ ⟨_,rfl,by rw[nx]⟩
 ·rintro _ _ ⟨u,rfl,rfl⟩;rw[ff,ou,qD];walk_at "d";exact q
end
section
variable {R:RX}{S:Sto}
theorem hJ(ps:List Part):aF ps=.tuple (ps.map bC):=rfl
theorem x8{g:Gap}{ns:List Int}(h3:Tm3 ns.length g.ts)(q:R (.d (.bool (b8 g ns))) []):m8 [.d (cM g),.d (aG ns)] [] R:=by
 unfold m8 aG;rw[pX,qN];walk_at "d"
 walk_at "n"
 refine cmp2 (S0:=[]) (fun t:Term=>.int (t.2*ns.getD t.1 0)) rfl g.ts (by have:=h3.len;omega) ?_ ?_
 ·intro t mt u v acc R' hk;obtain⟨t1,t2,t3⟩:=h3.ok t mt;have e:=cV (f:=dj) (l7 t1);rw[yW];walk_at "d";refine⟨_,e,?_⟩;walk_at "d";exact⟨dX yw yw,hk _ _⟩
 ·walk_at "d";refine⟨g.ts.map fun t:Term=>t.2*ns.getD t.1 0,by rw[pj];rfl,?_⟩;have e0:b8 g ns=decide (g.lo<=worth g.ts ns/\worth g.ts ns<=g.hi):=rfl;have e1:(g.ts.map fun t:Term=>t.2*ns.getD t.1 0).sum=worth g.ts ns:=rfl;rw[e1];rw[e0]at q;split
  ·rename_i h1;simpa[h1]using q
  ·rename_i h1;simpa[h1]using q
def unI:bo->Int
 | .int k=>k
 |_=>0
def pB(c:List Nat)(k:Nat):Bool:=match c.getLast? with
 |none=>true
 |some x=>decide (x<k)
end
section
variable {R:RX}{S:Sto}
inductive IsPl (ps:List Part):List Nat->Nat->bo->Prop
 |leaf {ms n}{w:Str} (h:w = "breaks"\/w = "keeps"):IsPl ps ms n (.tuple [.str w])
 |node {ms n} (k:Nat) (l:List bo) (hk:k<ps.length) (hm:k∉ms) (hl:(l.length:Int)=phi ps k-plo ps k+1) (h:∀d∈l,IsPl ps (ms++[k]) n d):IsPl ps ms (n+1) (.tuple [.str "measure",.int k,.tuple l])
def Agr(ps:List Part)(ms:List Nat)(l:List (List Int)):Prop:=∃b,InBox ps b/\∀a,a∈l↔InBox ps a/\∀k∈ms,a.getD k 0=b.getD k 0
def nlD(ms:List Nat):bo:=.list (ms.map fun k:Nat=>.int k)
theorem pY{ps:List Part}(ho:Ord ps){k:Nat}(hk:k<ps.length):(phi ps k-plo ps k+1).toNat<=aH ps:=by
 have h1:=jW ho (k+1);rw[vA (fR hk)]at h1;have h2:=qX (ps:=ps.take k) fun p m=>ho p (ng m);refine iz ?_ h1;exact Nat.le_mul_of_pos_left _ h2
theorem Agr.rest{ps:List Part}{ms:List Nat}{l:List (List Int)}{k:Nat}{x:Int}(h:Agr ps ms l)(hk:k<ps.length)(hm:k∉ms)(h1:plo ps k<=x)(h2:x<=phi ps k):Agr ps (ms++[k]) (l.filter fun a=>decide (a.getD k 0=x)):=by
 obtain⟨b,hb,q⟩:=h;have hl:=hb.len;have e1:(b.set k x).getD k 0=x:=by rw[fj,li yw];rfl
 have e2:∀j,j≠k->(b.set k x).getD j 0=b.getD j 0:=fun j hj=>by rw[fj,pp (fun z=>hj z.symm),<- fj]
 refine⟨b.set k x,⟨by rw[length_set];exact hl,fun j hj=>?_⟩,fun a=>?_⟩
 ·by_cases z:j=k
  ·rw[z,e1];exact⟨h1,h2⟩
  ·rw[e2 j z];exact hb.ok j hj
 ·rw[mem_filter,q a];constructor
  ·rintro⟨⟨i1,i2⟩,i3⟩;refine⟨i1,fun j mj=>?_⟩;rcases mem_append.mp mj with mj|mj
   ·rw[e2 j (fun z=>hm (z▸mj))];exact i2 j mj
   ·rw[mem_singleton.mp mj,e1];exact nl i3
  ·rintro⟨i1,i2⟩;refine⟨⟨i1,fun j mj=>?_⟩,gd ?_⟩
   ·rw[i2 j (jz _ mj),e2 j (fun z=>hm (z▸mj))]
   ·rw[i2 k (ge _ (mem_singleton.mpr rfl)),e1]
theorem Bc{ps:List Part}{g:Gap}(hd:Drw ps)(hz:aH ps<=300)(hg:Tm3 ps.length g.ts):∀{n:Nat}{p:List bo}{ms:List Nat}{l:List (List Int)}{m:Int}{R:RX},aI p->(ms.length:Int)+m<=100->(∀k∈ms,k<ps.length)->Agr ps ms l->l.length<=300->0<=m->m<n ->
  (∀d p',IsPl ps ms m.toNat d->aI p'->R (.d d) [p'])->zT n [.l 0,.d (aF ps),.d (cM g),.d (nlD ms),.d (.list (l.map aG)),.d (.int m)] [p] R
 | 0,p,ms,l,m,R,_,_,_,_,_,h0,h,_=>by omega
 |n+1,p,ms,l,m,R,hp,hm8,hms,hag,hl,h0,h,q=>by
  have h8:=hd.l8;obtain⟨b,hb,ac⟩:=hag;rw[zT];walk_at "d"
  walk_at "n"
  refine cmp1 (S0:=[p]) (fun a:List Int=>.bool (b8 g a)) rfl l yw ?_ ?_
  ·intro a ma u acc R' hk;have:=((ac a).mp ma).1.len;walk_at "d";refine x8 (by rw[this];exact hg) ?_;walk_at "d";exact hk _
  walk_at "d";refine⟨l.map fun a=>b8 g a,by rw[pj];rfl,?_⟩;have ai:cB (l.map fun a=>b8 g a)≠[]:=by
   have ak:b8 g b∈l.map fun a=>b8 g a:=mem_map.mpr ⟨b,(ac b).mpr ⟨hb,fun _ _=>rfl⟩,rfl⟩;intro e;unfold cB at e;cases hk:b8 g b<;>rw[hk]at ak<;>simp[ak]at e
  have wl:=C0 (l.map fun a=>b8 g a);generalize cB (l.map fun a=>b8 g a)=ws at ai wl ⊢
  walk_at "n"
  refine⟨ps.length,by unfold aF;walk_at "d",?_⟩;have am:cw (nlD ms)=true:=(iS (n:=0) (lQ fun _ _=>bI)).ok;have af:∀k:Nat,((ms.map fun k:Nat=>dj k).any fun y=>fr y (.int k))=decide (k∈ms):=fun k=>by
   rw[any_map];by_cases hk:k∈ms
   ·rw[gd hk,any_eq_true];exact⟨k,hk,by simp[c9]⟩
   ·rw[fc hk,any_eq_false];intro j mj e;have:(j:Int)=k:=by simpa[c9]using e
    exact hk ((Int.ofNat_inj.mp this)▸mj)
  unfold nlD at am ⊢;refine cmf1 (S0:=[p]) (h:=fun k:Nat=>.int (0+k)) (fun k:Nat=>.int k) (fun k=>!decide (k∈ms)) rfl (gc ps.length) (by simp;omega) ?_ ?_
  ·intro k mk u acc R' hk;walk_at "d";rw[Int.zero_add];refine⟨am,?_⟩;rw[af];exact hk _ fun _ T hT=>by walk_at "d";exact hT
  walk_at "d";have aj:∀k∈(gc ps.length).filter (fun k=>!decide (k∈ms)),k<ps.length/\k∉ms:=fun k m=>⟨mem_range.mp (mem_filter.mp m).1,by simpa using (mem_filter.mp m).2⟩;have ar:((gc ps.length).filter (fun k=>!decide (k∈ms))).length<=8:=iz (List.length_filter_le _ _) (by simp;omega);generalize (gc ps.length).filter (fun k=>!decide (k∈ms))=lf at aj ar ⊢;have an:cw (.list (lf.map fun k:Nat=>dj k))=true:=(iS (n:=0) (lQ fun _ _=>bI)).ok;have z:∀p2,aI p2->zn [.l 0,.d (.int ws.length)] [p2] (m6 0 [p2] fun y S2=>dIx (.d (.list (ws.map nq))) y S2 fun x S1=>qH x fun i=>∃d,atI [.str "breaks",.str "keeps"] i=some d/\R (.d (.tuple [d])) (List.take 1 S1)):=by
   intro p2 ab;have w1:1<=ws.length:=by
    cases ws with
    |nil=>exact absurd rfl ai
    |cons a b=>simp
   refine zq ab yw (jD yw yw) fun r p3 r0 r1 aa=>?_;obtain⟨d,ed,i,rfl⟩:=eT (P:=fun d=>∃i:Bool,d=.bool i) (ds:=ws.map nq) r0 (by simpa using r1) (fun d m=>by
    obtain⟨k,_,rfl⟩:=mem_map.mp m;exact⟨_,rfl⟩)
   walk_at "d";refine⟨_,ed,?_⟩;cases i
   ·walk_at "d";exact q _ p3 (.leaf (.inl rfl)) aa
   ·walk_at "d";exact q _ p3 (.leaf (.inr rfl)) aa
  refine cut (fun δ S=>∃(p:List bo),aI p/\lf≠[]/\0<m/\S=[p]/\δ=[some (.l 0),some (.d (aF ps)),some (.d (cM g)),some (.d (nlD ms)),some (.d (.list (l.map aG))),some (.d (.int m)),some (.d (.list (ws.map nq))),some (.d (.list (lf.map fun k:Nat=>.int k))),none,none,none,none,none,none,none]) (fun N hN=>?_) ?_
  ·walk_at "d";refine⟨an,rfl,?_⟩;rw[B6];by_cases ha:lf=[]
   ·rw[ci (by simp[ha])];exact z p hp
   ·rw[cg (by simp[ha])];split
    ·exact z p hp
    ·split
     ·refine zq hp yw (jD yw yw) fun r p2 r0 r1 ab=>?_;walk_at "d";split
      ·exact z p2 ab
      ·exact hN _ _ ⟨p2,ab,ha,yw,rfl,rfl⟩
     ·exact hN _ _ ⟨p,hp,ha,yw,rfl,rfl⟩
  rintro _ _ ⟨p,hp,ha,hm,rfl,rfl⟩;walk_at "d"
  walk_at "n"
  have l1:1<=lf.length:=by
   cases lf with
   |nil=>exact absurd rfl ha
   |cons a b=>simp
  refine zq hp yw (jD yw yw) fun r p2 r0 r1 ab=>?_;obtain⟨d,ed,k,mk,rfl⟩:=eT (P:=fun d=>∃k:Nat,k∈lf/\d=.int k) (ds:=lf.map fun k:Nat=>.int k) r0 (by simpa using r1) (fun d m=>by
   obtain⟨k,mk,rfl⟩:=mem_map.mp m;exact⟨_,mk,rfl⟩)
  obtain⟨hk,ah⟩:=aj k mk;have ep:=cV (f:=bC) (fR hk);rw[hJ];walk_at "d";refine⟨_,ed,?_⟩;walk_at "d"
  walk_at "n"
  refine⟨_,ep,?_⟩;rw[jG];walk_at "d"
  walk_at "n"
  walk_at "n";have e1:(part ps k).2.1=plo ps k:=rfl;have e2:(part ps k).2.2=phi ps k:=rfl;rw[e1,e2];have hw:=pY hd.ord hk;have ho:=hd.ord.at hk;refine dG (fun i δ S=>∃(p:List bo) (qs:List bo) (u1 u2:Option XV),aI p/\qs.length=i/\(∀d∈qs,IsPl ps (ms++[k]) (m-1).toNat d)/\S=[p,qs]/\δ=[some (.l 0),some (.d (.tuple (ps.map bC))),some (.d (cM g)),some (.d (nlD ms)),some (.d (.list (l.map aG))),some (.d (.int m)),some (.d (.list (ws.map nq))),some (.d (.list (lf.map fun k:Nat=>.int k))),some (.d (.int k)),some (.d (.str (part ps k).1)),some (.d (.int (plo ps k))),some (.d (.int (phi ps k))),some (.l 1),u1,u2]) ⟨p2,[],none,none,ab,rfl,yv,rfl,rfl⟩ ?_ ?_
  ·rintro i d _ _ N hi ⟨p3,qs,u1,u2,aa,ql,ae,rfl,rfl⟩ hN;obtain⟨au,rfl⟩:=oP hi;rw[Int.zero_add];walk_at "d"
   walk_at "n"
   refine cmf1 (S0:=[p3,qs]) (fun a:List Int=>aG a) (fun a=>decide (a.getD k 0=plo ps k+i)) rfl l yw ?_ ?_
   ·intro a ma u acc R' ao;have al:=((ac a).mp ma).1.len;have ea:=cV (f:=dj) (l7 (ns:=a) (k:=k) yw);unfold aG;walk_at "d";refine⟨_,ea,?_⟩;walk_at "d";exact ao _ fun _ T hT=>by walk_at "d";exact hT
   walk_at "d";have aq:PyData.list (ms.map (fun k:Nat=>dj k)++[.int k])=nlD (ms++[k]):=by unfold nlD;rw[jm];rfl
   have en:nlD ms=.list (ms.map fun k:Nat=>.int k):=rfl;rw[en];walk_at "d";refine⟨yw,?_⟩;rw[aq];have ag:=Agr.rest (x:=plo ps k+i) ⟨b,hb,ac⟩ hk ah yw yw;refine Bc hd hz hg (n:=n) aa (by rw[cu,fk];omega) (fun j mj=>?_) ag (iz (List.length_filter_le _ _) hl) yw yw fun d p4 as ap=>?_
   ·rcases mem_append.mp mj with mj|mj
    ·exact hms j mj
    ·rw[mem_singleton.mp mj];exact hk
   ·walk_at "d";refine⟨yw,hN _ _ ⟨p4,qs++[d],_,_,ap,by rw[cu,ql];rfl,fun x mx=>?_,rfl,rfl⟩⟩;rcases mem_append.mp mx with mx|mx
    ·exact ae x mx
    ·rw[mem_singleton.mp mx];exact as
  ·rintro _ _ ⟨p3,qs,u1,u2,aa,ql,ae,rfl,rfl⟩;rw[g8]at ql;walk_at "d";have em:m.toNat=(m-1).toNat+1:=yw
   refine q _ p3 ?_ aa;rw[em];exact .node k qs hk ah yw ae
theorem E2{ps:List Part}{g:Gap}(hd:Drw ps)(hz:aH ps<=300)(hg:Tm3 ps.length g.ts){p:List bo}{m:Int}(hp:aI p)(h0:0<=m)(h5:m<=5)(q:∀d p',IsPl ps [] m.toNat d->aI p'->R (.d d) [p']):
  tH [.l 0,.d (aF ps),.d (cM g),.d (.list []),.d (.list ((bO ps).map aG)),.d (.int m)] [p] R:=by
 have hs:=oY ps;have ne:bO ps≠[]:=fun e=>by
  have:=qX hd.ord;rw[e]at hs;simp at hs;omega
 obtain⟨b,mb⟩:=List.exists_mem_of_ne_nil _ ne;exact Bc hd hz hg hp (by simp;omega) yv ⟨b,f8.mp mb,fun a=>by rw[f8];simp⟩ yw h0 yw q
inductive Led (lo:Nat->Int) (one:List Int):bo->List Nat->Str->Prop
 |leaf {w:Str} (h:w = "breaks"\/w = "keeps"):Led lo one (.tuple [.str w]) [] w
 |node {k i:Nat}{l:List bo}{d:bo}{js:List Nat}{w:Str} (hk:k<one.length) (hi:one.getD k 0=lo k+i) (hd:l[i]?=some d) (h:Led lo one d js w):Led lo one (.tuple [.str "measure",.int k,.tuple l]) (k::js) w
theorem IsPl.led{ps:List Part}{q:List Int}(hb:InBox ps q):∀{n:Nat}{ms:List Nat}{d:bo},IsPl ps ms n d->∃js w,Led (plo ps) q d js w/\js.length<=n/\∀j∈js,j<ps.length:=by
 intro n ms d h;induction h with
 |leaf h=>exact⟨[],_,.leaf h,ji _,yv⟩
 | @node ms n k l hk hm hl h ih=>
  obtain⟨b1,b2⟩:=hb.ok k hk;have hi:(q.getD k 0-plo ps k).toNat<l.length:=yw
  obtain⟨js,w,h1,h2,h3⟩:=ih _ (ot hi);refine⟨k::js,w,.node (i:=(q.getD k 0-plo ps k).toNat) (by rw[hb.len];exact hk) yw (cv hi) h1,by simp;omega,fun j mj=>?_⟩;rcases mem_cons.mp mj with rfl|mj
  ·exact hk
  ·exact h3 j mj
theorem F1{ps:List Part}{aa:List Int}{d:bo}{js:List Nat}{w:Str}(hL:Led (plo ps) aa d js w)(hj:∀j∈js,j<ps.length)(hl:js.length<=100)(q:R (.d (.tuple [nlD js,.str w])) []):vU [.d d,.d (aF ps),.d (aG aa)] [] R:=by
 unfold vU;walk_at "d";walk_at "n";walk_at "n";refine⟨fun m δ S=>∃(d:bo) (j0 j1:List Nat),Led (plo ps) aa d j1 w/\j0++j1=js/\m=j1.length/\S=[j0.map fun k:Nat=>.int k]/\δ=[some (.d d),some (.d (aF ps)),some (.d (aG aa)),some (.l 0)],⟨_,d,[],js,hL,rfl,rfl,rfl,rfl⟩,?_⟩;rintro m _ _ ⟨d,j0,j1,h1,h2,rfl,rfl,rfl⟩;cases h1 with
 |leaf h=>
  walk_at "d";rw[km]at h2;rw[h2];exact q
 | @node k i l d js' _ hk hi hd h=>
  walk_at "d";have kp:=hj k (by rw[<- h2];simp);have lj:j0.length+(js'.length+1)=js.length:=by rw[<- h2,cu,fu]
  have ep:=cV (f:=bC) (fR kp);have eo:=cV (f:=dj) (l7 (ns:=aa) (k:=k) hk);refine⟨fun δ' S'=>∃m',m'<js'.length+1/\∃(d:bo) (j0 j1:List Nat),Led (plo ps) aa d j1 w/\j0++j1=js/\m'=j1.length/\S'=[j0.map fun k:Nat=>.int k]/\δ'=[some (.d d),some (.d (aF ps)),some (.d (aG aa)),some (.l 0)],fun _ _ z=>z,?_⟩;rw[hJ,aG];walk_at "n";refine⟨yw,?_⟩;refine⟨_,eo,_,ep,?_⟩;rw[jG];walk_at "d";have e1:(part ps k).2.1=plo ps k:=rfl;have ei:aa.getD k 0-(part ps k).2.1=i:=by rw[e1];omega
  rw[ei];exact⟨d,fA hd,js'.length,yw,d,j0++[k],js',h,by rw[<- h2];simp,rfl,by rw[jm];rfl,rfl⟩
theorem JE{ps:List Part}{aa:List Int}{d:bo}{js:List Nat}{w:Str}(hL:Led (plo ps) aa d js w)(hj:∀j∈js,j<ps.length)(hl:js.length<=100)(q:R (.d (.tuple [nlD js,.str w])) []):o7 [.d d,.d (aF ps),.d (aG aa)] [] R:=by
 unfold o7;walk_at "d";walk_at "n";walk_at "n";walk_at "n";refine⟨fun m δ S=>∃(d':bo) (j0 j1:List Nat) (u:Option XV),Led (plo ps) aa d' j1 w/\j0++j1=js/\m=j1.length/\S=[j0.map fun k:Nat=>.int k]/\δ=[some (.d d),some (.d (aF ps)),some (.d (aG aa)),some (.l 0),some (.d d'),u],⟨_,d,[],js,none,hL,rfl,rfl,rfl,rfl⟩,?_⟩;rintro m _ _ ⟨d',j0,j1,u,h1,h2,rfl,rfl,rfl⟩;cases h1 with
 |leaf h=>
  walk_at "d";rw[km]at h2;have hn:cw (.str w)=true/\(lq w).eqv (.str "measure")=false:=by rcases h with rfl|rfl<;>exact⟨by decide +kernel,by decide +kernel⟩
  refine⟨hn.1,by decide +kernel,?_⟩;rw[cg (by rw[hn.2];exact ja),h2];exact q
 | @node k i l d2 js' _ hk hi hd h=>
  walk_at "d";have kp:=hj k (by rw[<- h2];simp);have lj:j0.length+(js'.length+1)=js.length:=by rw[<- h2,cu,fu]
  have ep:=cV (f:=bC) (fR kp);have eo:=cV (f:=dj) (l7 (ns:=aa) (k:=k) hk);refine⟨by decide +kernel,by decide +kernel,?_⟩;rw[ci (by decide +kernel)];refine⟨fun δ' S'=>∃m',m'<js'.length+1/\∃(d':bo) (j0 j1:List Nat) (u:Option XV),Led (plo ps) aa d' j1 w/\j0++j1=js/\m'=j1.length/\S'=[j0.map fun k:Nat=>.int k]/\δ'=[some (.d d),some (.d (aF ps)),some (.d (aG aa)),some (.l 0),some (.d d'),u],fun _ _ z=>z,?_⟩;rw[hJ,aG];walk_at "n";walk_at "n";refine⟨yw,?_⟩;refine⟨_,eo,_,ep,?_⟩;rw[jG];walk_at "d";have e1:(part ps k).2.1=plo ps k:=rfl;have ei:aa.getD k 0-(part ps k).2.1=i:=by rw[e1];omega
  rw[ei];exact⟨d2,fA hd,js'.length,yw,d2,j0++[k],js',_,h,by rw[<- h2];simp,rfl,by rw[jm];rfl,rfl,rfl⟩
theorem cmp1p{n:Nat}{S0:Sto}{g:DG}{te:DE}{fin:Sto->Prop}{caps:XE}(f:bo->bo)(hn:S0.length=n)(l:List bo){u:Option XV}(hl:l.length<=1000)
  (el:∀x∈l,∀(u:Option XV) acc (R:XE->RX),(∀u',R (u'::caps) (.d (f x)) (S0++[acc]))->g (.d x) (u::caps) (S0++[acc]) fun τ1 S1=>te τ1 S1 (R τ1)) (hf:fin (S0++[l.map f])):aY n g aM te fin l (u::caps) (S0++[[]]):=by
 have:=cmp1 (h:=fun d:bo=>d) (g:=g) (te:=te) (fin:=fin) (caps:=caps) (u:=u) f hn l hl el hf
 rwa [List.map_id']at this
theorem vQ{n:Nat}{z:Str}(h:PyData.strOk z=true):Shp n (.str z):=⟨h,ji _⟩
theorem IsPl.shp{ps:List Part}{n:Nat}{ms:List Nat}{d:bo}(h:IsPl ps ms n d):Shp (2*n+1) d:=by
 induction h with
 |leaf h=>
  refine dR fun d md=>?_;rw[mem_singleton.mp md];rcases h with rfl|rfl<;>exact vQ (by decide +kernel)
 | @node _ n k l _ _ _ _ ih=>
  refine dR fun d md=>?_;simp only[iq,gg,or_false]at md;rcases md with rfl|rfl|rfl
  ·exact vQ (by decide +kernel)
  ·exact bI
  ·exact dR (n:=2*n+1) ih
theorem Bw:∀{l:List Nat},(∀x∈l,1<=x)->l.sum<=bB l+l.length
 | [],_=>by simp
 |x::l,h=>by
  have h1:=h x fi;have h2:=Bw fun y m=>h y (fb x m);have h3:1<=bB l:=tG fun y m=>h y (fb x m);have h4:x+bB l<=x*bB l+1:=by
   obtain⟨a,rfl⟩:∃a,x=a+1:=⟨x-1,yw⟩;obtain⟨b,hb⟩:∃b,bB l=b+1:=⟨bB l-1,yw⟩;rw[hb,Nat.mul_add,add_mul];omega
  have h5:bB (x::l)=x*bB l:=rfl;rw[sum_cons,fu,h5];omega
theorem qU{f:Nat->Nat}:∀{n:Nat}{ms:List Nat},ms.Nodup->(∀j∈ms,j<n)->(ms.map f).sum<=((gc n).map f).sum
 | 0,[],_,_=>by simp
 | 0,j::ms,_,h=>by have:=h j fi;omega
 |n+1,ms,hd,h=>by
  rw[List.range_succ,jm,sum_append,pk,List.sum_singleton];by_cases z:n∈ms
  ·have p:=(List.perm_cons_erase z).map f;rw[p.sum_nat,jc,sum_cons];have:=qU (f:=f) (n:=n) (hd.erase n) fun j mj=>by
    have h1:=h j (List.mem_of_mem_erase mj);have h2:j≠n:=fun e=>((List.Nodup.mem_erase_iff hd).mp (e▸mj)).1 rfl;omega
   omega
  ·have:=qU (f:=f) (n:=n) hd fun j mj=>by
    have h1:=h j mj;have h2:j≠n:=fun e=>z (e▸mj);omega
   omega
def wdN(ps:List Part)(k:Nat):Nat:=(phi ps k-plo ps k+1).toNat
theorem JC{ps:List Part}(ho:Ord ps)(hz:aH ps<=300)(h8:ps.length<=8){ms:List Nat}(hd:ms.Nodup)(h:∀j∈ms,j<ps.length):(ms.map (wdN ps)).sum<=308:=by
 have h1:=qU (f:=wdN ps) hd h;have e:(gc ps.length).map (wdN ps)=ps.map fun p=>(p.2.2-p.2.1+1).toNat:=by
  refine List.ext_getElem? fun i=>?_;rw[gu,gu];by_cases hi:i<ps.length
  ·rw[List.getElem?_range hi,fR hi];rfl
  ·rw[List.getElem?_eq_none (by simpa using hi),List.getElem?_eq_none yw];rfl
 have h2:=Bw (l:=ps.map fun p=>(p.2.2-p.2.1+1).toNat) fun x m=>by
  obtain⟨p,mp,rfl⟩:=mem_map.mp m;have:=ho p mp;omega
 rw[e]at h1;rw[ff]at h2;have h3:bB (ps.map fun p=>(p.2.2-p.2.1+1).toNat)=aH ps:=rfl;omega
structure En where
 n:Nat
 ms:List Nat
 d:bo
 k:Nat
theorem vM{α:Type}{f:α->Nat}{b:Nat}:∀{l:List α},(∀x∈l,f x<=b)->(l.map f).sum<=l.length*b
 | [],_=>by simp
 |x::l,h=>by
  have h1:=h x fi;have h2:=vM (l:=l) fun y m=>h y (fb x m);rw[jc,sum_cons,fu,add_mul];omega
end
section
variable {R:RX}{S:Sto}
theorem Fo{Q names number:PN}{p:List bo}{m:Int}(hQ:Q=fun xs S R=>(zM (aA (zG 0 1 names (zb (zg 0) zo)) (zh 2)) (zM (aA (bK [none,some 0] (bS (zb (dOp aE (dC (.int 1)) (zG 0 2 zn (zb (zg 0) (zb (zg 1) zo)))) zo)) (zh 0) aM (dOp aE (dC (.int 1)) (zG 0 2 zn (zb (zg 1) (zb (dC (.int 3)) zo))))) (zh 3)) (zM (aL (dB (dOp aU (zG 0 2 zn (zb (zg 0) (zb (dC (.int 12)) zo))) (dC (.int 0)))) (aA (dOp dIx (aP (zb (aP (zb (dC (.int 3)) (zb (dC (.int 3)) zo))) (zb (aP (zb (dC (.int 17)) (zb (dC (.int 17)) zo))) (zb (aP (zb (dC (.int 300)) zo)) (zb (dOp bH (aP (zb (dC (.int 1)) zo)) (dC (.int 8))) zo))))) (zG 0 2 zn (zb (zg 0) (zb (dC (.int 4)) zo)))) (zh 3)) aO) (zM (aA (bJ zo) (zh 4)) (zM (bU (bS (zb (dCB aS (zb (zg 3) zo)) zo)) (zh 5) (zM (aA (zG 0 1 number (zb (zg 0) zo)) (zh 6)) (bQ (dBM cN (zg 4) (zb (aC (zb (dOp dIx (zg 2) (zg 5)) (zb (zg 6) (zb (dOp (dI0 fun i j=>i-j) (dOp aE (zg 6) (dOp dIx (zg 3) (zg 5))) (dC (.int 1))) zo)))) zo))))) (aB (dCB eR (zb (zg 4) zo)))))))) (aK S.length R) (xs.map some++bx 5 none) S)
  (hnames:∀{p:List bo}{R:RX},aI p->(∀(ns:List Str) p',ns.length=8->(∀z∈ns,gP z=true)->aI p'->R (.d (.list (ns.map lq))) [p'])->names [.l 0] [p] R)
  (hnumber:∀{p:List bo}{R:RX},aI p->(∀r p',-10 ^ 58<=r->r<=10 ^ 58->aI p'->R (.d (.int r)) [p'])->number [.l 0] [p] R)
  (hp:aI p) (m1:0<m) (m4:m<=4) (q:∀(ps:List Part) p',Drw ps->aH ps<=300->aI p'->R (.d (aF ps)) [p']):Q [.l 0,.d (.int m)] [p] R:=by
 subst hQ;walk_at "d"
 walk_at "n"
 refine hnames hp fun ns p1 hn hz af=>?_;walk_at "d"
 walk_at "n"
 refine zq af m1 (jD m1 yw) fun r p2 r0 r1 ak=>?_;walk_at "d";refine y8 (α:=Int) (fun x=>1<=x/\x<=3) dj (fun τ=>∃u,τ=[u,some (.l 0)]) _ [] p2 _ ⟨_,rfl⟩ ak (by rw[g8];simp;omega) ?_ ?_
 ·rintro d md _ p acc R' ⟨u,rfl⟩ hp hk;walk_at "d";refine zq hp dz (by decide +kernel) fun r p' r0 r1 aj=>?_;walk_at "d";exact hk _ _ p' ⟨_,rfl⟩ aj ⟨yw,yw⟩
 ·intro ws p3 ab hw hl;rw[g8]at hl;have aa:Wds ws:=wds3 yw yw hw;rw[nil_append];walk_at "d";refine cut (fun δ S=>∃(p:List bo) (ws:List Int),aI p/\Wds ws/\S=[p]/\δ=[some (.l 0),some (.d (.int m)),some (.d (.list (ns.map lq))),some (.d (.list (ws.map dj))),none,none,none]) (fun N hN=>?_) ?_
  ·walk_at "d";refine zq ab dz (by decide +kernel) fun r2 p4 r3 r4 ac=>?_;walk_at "d";split
   ·refine zq ac dz (by decide +kernel) fun r5 p5 r6 r7 ae=>?_;obtain⟨d,ed,ah,rfl,al⟩:=eT (P:=fun d=>∃ws:List Int,d=.list (ws.map dj)/\Wds ws) (ds:=[PyData.list [.int 3,.int 3],.list [.int 17,.int 17],.list [.int 300],.list (bx 8 [dj 1]).flatten]) r6 r7 (by
     intro d m;simp only[iq,gg,or_false]at m;rcases m with rfl|rfl|rfl|rfl
     ·exact⟨[3,3],rfl,by decide,by decide,by decide,by decide,by decide⟩
     ·exact⟨[17,17],rfl,by decide,by decide,by decide,by decide,by decide⟩
     ·exact⟨[300],rfl,by decide,by decide,by decide,by decide,by decide⟩
     ·exact⟨[1,1,1,1,1,1,1,1],rfl,by decide,by decide,by decide,by decide,by decide⟩)
    walk_at "d";refine⟨_,ed,hN _ _ ⟨p5,ah,ae,al,rfl,rfl⟩⟩
   ·exact hN _ _ ⟨p4,ws,ac,aa,rfl,rfl⟩
  rintro _ _ ⟨p,ws,hp,aa,rfl,rfl⟩;have w8:=aa.l8
  walk_at "n"
  walk_at "n";refine dG (fun i δ S=>∃(p:List bo) (ps:List Part) (u1 u2:Option XV),aI p/\ps.length=i/\(∀p∈ps,Prt p)/\ps.map (fun p=>(p.2.2-p.2.1+1).toNat)=(ws.take i).map Int.toNat/\S=[p,ps.map bC]/\δ=[some (.l 0),some (.d (.int m)),some (.d (.list (ns.map lq))),some (.d (.list (ws.map dj))),some (.l 1),u1,u2]) ⟨p,[],_,_,hp,rfl,yv,rfl,rfl,rfl⟩ ?_ ?_
  ·rintro i d _ _ N hi ⟨p,ps,u1,u2,hp,hl,ha,hs,rfl,rfl⟩ hN;obtain⟨ag,rfl⟩:=oP hi;have iw:i<ws.length:=by simpa using ag
   have i8:i<ns.length:=yw
   have e:=cV (f:=lq) (cv i8);have ew:=cV (f:=dj) (cv iw);have w1:=aa.pos _ (ot iw);have am:=aa.le _ (ot iw);have e0:(0:Int)+(i:Int)=(i:Int):=yw
   walk_at "d"
   walk_at "n"
   refine hnumber hp fun lo p3 h1 h2 ab=>?_;walk_at "d";rw[e0];refine⟨_,e,?_⟩;walk_at "d";refine⟨_,ew,?_⟩;walk_at "d";refine⟨yw,hN _ _ ⟨p3,ps++[(ns[i],lo,lo+ws[i]-1)],_,_,ab,by simp[hl],fun x hx=>?_,?_,by simp[bC],rfl⟩⟩
   ·rcases mem_append.mp hx with hx|hx
    ·exact ha x hx
    ·rw[mem_singleton.mp hx];exact⟨hz _ (ot i8),by simp only;omega,h1,by simp only;omega⟩
   ·rw[jm,hs,jK (cv iw),jm];congr 1;simp only[jc,map_nil,List.cons.injEq,and_true];omega
  ·rintro _ _ ⟨p,ps,u1,u2,hp,hl,ha,hs,rfl,rfl⟩;rw[g8]at hl hs;have ai:(ws.length:Int).toNat=ws.length:=by simp
   rw[ai]at hl hs;rw[ou]at hs;walk_at "d";have an:=aa.l1;exact q ps p ⟨yw,yw,ha⟩ (by unfold aH;rw[hs];exact aa.prod) hp
theorem II{p:List bo}{m:Int}(hp:aI p)(m1:0<m)(m4:m<=4)(q:∀(ps:List Part) p',Drw ps->aH ps<=300->aI p'->R (.d (aF ps)) [p']):tE [.l 0,.d (.int m)] [p] R:=
 Fo (names:=mU) (number:=pA) rfl Gq Db hp m1 m4 q
end
section
variable {R:RX}{S:Sto}
theorem Cq{d:bo}(q:R (.d (.bool (pM d))) []):pI [.d d] [] R:=by
 unfold pI;cases d<;>(walk_at "d";exact q)
def Thn(d:bo):Prop:=cw d=true\/d=.dict []
theorem qV{ds:List bo}(h:cw (.tuple ds)=true):∀x∈ds,cw x=true:=by
 intro x m;unfold cw at h ⊢;simp only[jr,decide_eq_true_eq]at h ⊢;have a1:∀{l:List bo},je l=true->∀x∈l,x.canLay0=true:=by
  intro l;induction l with
  |nil=>intro _ x m;cases m
  |cons a l ih=>
   intro h x m;simp only[je,jr]at h;rcases mem_cons.mp m with rfl|m
   ·exact h.1
   ·exact ih h.2 x m
 have a2:∀{l:List bo},∀x∈l,x.depth<=jo l:=by
  intro l;induction l with
  |nil=>intro x m;cases m
  |cons a l ih=>
   intro x m;simp only[jo];rcases mem_cons.mp m with rfl|m
   ·exact Nat.le_max_left ..
   ·exact iz (ih x m) (Nat.le_max_right ..)
 have e1:je ds=true:=by simpa only[jx]using h.1
 have e2:=a2 x m;have e3:PyData.depth (.tuple ds)=jo ds+1:=by simp only[PyData.depth]
 exact⟨a1 e1 x m,yw⟩
theorem j3{d:bo}{z:Str}:fr d (.str z)=true->d=.str z:=by
 cases d with
 |str y=>intro h;rw[show fr (.str y) (.str z)=(y==z)from rfl]at h;rw[eq_of_beq h]
 |_=>intro h;exact absurd h (by simp[fr])
theorem Ag{d:bo}{z:Str}(h:fr d (.tuple [.str z])=true):d=.tuple [.str z]:=by
 cases d with
 |tuple ds=>
  rw[show fr (.tuple ds) (.tuple [.str z])=PyData.eqvAll ds [.str z]from rfl]at h
  match ds,h with
  | [x],h=>
   simp only[PyData.eqvAll,jr]at h;rw[j3 h.1]
  | [],h=>simp[PyData.eqvAll]at h
  |x::y::r,h=>simp[PyData.eqvAll]at h
 |_=>exact absurd h (by simp[fr])
def Msr(ps:List Part)(d:bo)(k:Nat)(l:List bo):Prop:=d=.tuple [.str "measure",.int k,.tuple l]/\k<ps.length/\(l.length:Int)=phi ps k-plo ps k+1
theorem IC{ps:List Part}{d:bo}(hd:Thn d)(qt:∀k l,Msr ps d k l->R (.d (.bool true)) [])(qf:(∀k l,¬ Msr ps d k l)->R (.d (.bool false)) []):qS [.d (aF ps),.d d] [] R:=by
 unfold qS;walk_at "d";have no:(∀ds,d≠.tuple ds)->∀k l,¬ Msr ps d k l:=fun h k l m=>h _ m.1;cases d with
 |tuple ds=>
  have hs:=hd.resolve_right yv;walk_at "d";walk_at "n";by_cases h3:ds.length=3
  ·obtain⟨x,y,z,rfl⟩:∃x y z,ds=[x,y,z]:=by
    match ds,h3 with
    | [x,y,z],_=>exact⟨x,y,z,rfl⟩
   have sx:=qV hs x yv;walk_at "d";refine⟨sx,by decide +kernel,?_⟩;by_cases hx:fr x (.str "measure")=true
   ·have ex:=j3 hx;subst ex;rw[cg (by rw[hx];decide)];walk_at "n";refine Cq ?_;cases y with
    |int k=>
     rw[show pM (.int k)=true from rfl];walk_at "d";refine ite2 (fun h0=>?_) fun h0=>?_
     ·refine⟨ps.length,by unfold aF;walk_at "d",?_⟩;refine ite2 (fun h1=>?_) fun h1=>?_
      ·exact qf fun k' l m=>by
        cases m.1;have:=m.2.1;omega
      ·obtain⟨k,rfl⟩:=gn h0;have hk:k<ps.length:=yw
       cases z with
       |tuple l=>
        walk_at "d";have ep:=cV (f:=bC) (fR hk);rw[hJ];walk_at "d";refine⟨_,ep,?_⟩;walk_at "d";refine wZ ?_;walk_at "d";refine B1 ?_;walk_at "d";by_cases hl:(l.length:Int)=phi ps k-plo ps k+1
        ·rw[gd (show (l.length:Int)=(part ps k).2.2-(part ps k).2.1+1 from hl)];exact qt k l ⟨rfl,hk,hl⟩
        ·rw[fc (show ¬(l.length:Int)=(part ps k).2.2-(part ps k).2.1+1 from hl)];exact qf fun k' l' m=>by
          cases m.1;exact hl m.2.2
       |_=>
        walk_at "d";exact qf fun k' l' m=>by cases m.1
     ·exact qf fun k' l m=>by
       cases m.1;omega
    |_=>
     walk_at "d";exact qf fun k' l' m=>by cases m.1
   ·rw[ci (by simpa using hx)];refine qf fun k l m=>hx ?_;cases m.1;decide +kernel
  ·rw[ci yw];refine qf fun k l m=>h3 ?_;cases m.1;rfl
 |_=>
  walk_at "n";exact qf (no yv)
structure Ep where
 ms:List Nat
 d:bo
def mtD(ms:List Nat):bo:=.tuple (ms.map fun k:Nat=>.int k)
def epD(e:Ep):bo:=.tuple [e.d,mtD e.ms]
structure EpOk(ps:List Part)(e:Ep):Prop where
 th:Thn e.d
 nd:e.ms.Nodup
 lt:∀j∈e.ms,j<ps.length
theorem pV{ms:List Nat}{n:Nat}(hd:ms.Nodup)(h:∀j∈ms,j<n):ms.length<=n:=by
 have:=qU (f:=fun _=>1) hd h;rw[List.map_const',List.map_const',List.sum_replicate_nat,List.sum_replicate_nat,length_range]at this;omega
theorem Au{ms:List Nat}{n k:Nat}(hd:ms.Nodup)(h:∀j∈ms,j<n)(hk:k<n)(hm:k∉ms):(ms++[k]).Nodup/\∀j∈ms++[k],j<n:=by
 refine⟨?_,fun j mj=>?_⟩
 ·rw[nodup_append];exact⟨hd,yv,fun a ma b mb e=>by rw[mem_singleton.mp mb]at e;rw[e]at ma;exact hm ma⟩
 ·rcases mem_append.mp mj with mj|mj
  ·exact h j mj
  ·rw[mem_singleton.mp mj];exact hk
def Pl(ps:List Part)(ms:List Nat)(d:bo):Prop:=IsPl ps ms (9-ms.length) d
theorem Pl.node{ps:List Part}{ms:List Nat}{d:bo}{k:Nat}{l:List bo}(m:Msr ps d k l)(hm:k∉ms)(h8:ms.length<=7):Pl ps ms d↔∀x∈l,Pl ps (ms++[k]) x:=by
 obtain⟨rfl,hk,hl⟩:=m;have e:9-ms.length=(9-(ms++[k]).length)+1:=by rw[cu,fk];omega
 unfold Pl;rw[e];constructor
 ·intro h;cases h with
  |node k l hk hm hl h=>exact h
 ·intro h;exact .node k l hk hm hl h
theorem Pl.leaf{ps:List Part}{ms:List Nat}{d:bo}(h:∀k l,Msr ps d k l->k∈ms):Pl ps ms d↔d=.tuple [.str "breaks"]\/d=.tuple [.str "keeps"]:=by
 constructor
 ·intro p;unfold Pl at p;generalize 9-ms.length=n at p;cases p with
  |leaf hh=>rcases hh with rfl|rfl<;>simp
  |node k l hk hm hl _=>exact absurd (h k l ⟨rfl,hk,hl⟩) hm
 ·rintro(rfl|rfl)
  ·exact IsPl.leaf (.inl rfl)
  ·exact IsPl.leaf (.inr rfl)
theorem leaf58{ps:List Part}{ms:List Nat}{d:bo}{A B:Prop}(aa:Thn d)(q:∀k l,Msr ps d k l->k∈ms)(ha:Pl ps ms d->A)(hb:¬ Pl ps ms d->B):
  (cw d=true/\if d.eqv (.tuple [.str "keeps"])=false then (cw d=true/\if d.eqv (.tuple [.str "breaks"])=false then B else A)\/d=.dict []/\B else A)\/d=.dict []/\((cw d=true/\if d.eqv (.tuple [.str "breaks"])=false then B else A)\/d=.dict []/\B):=by
 have e:=Pl.leaf q;rcases aa with h|h
 ·refine .inl ⟨h,?_⟩;by_cases z:d.eqv (.tuple [.str "keeps"])=true
  ·rw[cg (by rw[z];decide)];exact ha (e.mpr (.inr (Ag z)))
  ·rw[ci (by simpa using z)];refine .inl ⟨h,?_⟩;by_cases y:d.eqv (.tuple [.str "breaks"])=true
   ·rw[cg (by rw[y];decide)];exact ha (e.mpr (.inl (Ag y)))
   ·rw[ci (by simpa using y)];refine hb fun p=>?_;rcases e.mp p with rfl|rfl
    ·exact y (by decide +kernel)
    ·exact z (by decide +kernel)
 ·refine .inr ⟨h,.inr ⟨h,hb fun p=>?_⟩⟩;subst h;rcases e.mp p with h|h<;>cases h
theorem Thn.kids{ps:List Part}{d:bo}{k:Nat}{l:List bo}(h:Thn d)(m:Msr ps d k l):∀x∈l,Thn x:=by
 obtain⟨rfl,_,_⟩:=m;have hs:=h.resolve_right yv;intro x mx;exact .inl (qV (qV hs (.tuple l) yv) x mx)
theorem Is{ps:List Part}(ho:Ord ps)(hz:aH ps<=300)(h8:ps.length<=8){d:bo}(hd:Thn d)(qt:Pl ps [] d->R (.d (.bool true)) [])(qf:¬ Pl ps [] d->R (.d (.bool false)) []):pZ [.d (aF ps),.d d] [] R:=by
 unfold pZ;walk_at "d"
 walk_at "n"
 walk_at "n";refine⟨fun m δ S=>∃(st:List Ep) (u3 u4 u5:Option XV),(∀e∈st,EpOk ps e)/\(∀(p:Nat) e,st[p]?=some e->p<=(e.ms.map (wdN ps)).sum)/\((∀e∈st,Pl ps e.ms e.d)↔Pl ps [] d)/\m=(st.map fun e=>301 ^ (9-e.ms.length)).sum/\S=[st.map epD]/\δ=[some (.d (aF ps)),some (.d d),some (.l 0),u3,u4,u5],⟨_,[⟨[],d⟩],none,none,none,?_,?_,?_,rfl,rfl,rfl⟩,?_⟩
 ·intro e me;rw[mem_singleton.mp me];exact⟨hd,yv,yv⟩
 ·intro p e hp;have:p<1:=(List.getElem?_eq_some_iff.mp hp).1;omega
 ·simp
 rintro m _ _ ⟨st,u3,u4,u5,h1,h2,h3,rfl,rfl,rfl⟩;rcases List.eq_nil_or_concat st with rfl|⟨st,e,rfl⟩
 ·walk_at "d";exact qt (h3.mp yv)
 ·rw[List.concat_eq_append]at h1 h2 h3 ⊢;rw[jm,pk];walk_at "d";rw[ci yv];have he:=h1 e yv;have pe:=h2 st.length e yv;have hw:=JC ho hz h8 he.nd he.lt;have key:∀(aa:List Ep),(∀x∈aa,EpOk ps x/\(e.ms.map (wdN ps)).sum+aa.length<=(x.ms.map (wdN ps)).sum/\x.ms.length=e.ms.length+1/\e.ms.length<=7)->aa.length<=300->((∀x∈aa,Pl ps x.ms x.d)↔Pl ps e.ms e.d) ->
    ∃m',m'<((st++[e]).map fun e=>301 ^ (9-e.ms.length)).sum/\∃(st':List Ep),(∀e∈st',EpOk ps e)/\(∀(p:Nat) e,st'[p]?=some e->p<=(e.ms.map (wdN ps)).sum)/\((∀e∈st',Pl ps e.ms e.d)↔Pl ps [] d)/\m'=(st'.map fun e=>301 ^ (9-e.ms.length)).sum/\(st++aa).map epD=st'.map epD:=by
   intro aa ab hl ag;refine⟨_,?_,st++aa,fun x mx=>?_,fun p x hp=>?_,?_,rfl,rfl⟩
   ·rw[jm,jm,sum_append,sum_append,pk,List.sum_singleton];have a1:(aa.map fun x=>301 ^ (9-x.ms.length)).sum<=aa.length*301 ^ (9-e.ms.length-1):=vM fun x mx=>by
     have:=(ab x mx).2.2.1;rw[show 9-x.ms.length=9-e.ms.length-1 by omega];exact cx _
    have a2:0<301 ^ (9-e.ms.length-1):=Nat.pow_pos dz;have a3:aa.length*301 ^ (9-e.ms.length-1)<=300*301 ^ (9-e.ms.length-1):=Nat.mul_le_mul_right _ hl;by_cases z:aa=[]
    ·subst z;have:0<301 ^ (9-e.ms.length):=Nat.pow_pos dz;simp;omega
    ·obtain⟨x,mx⟩:=List.exists_mem_of_ne_nil _ z;have:=(ab x mx).2.2.2;have a4:301 ^ (9-e.ms.length)=301*301 ^ (9-e.ms.length-1):=by rw[<- Nat.pow_succ'];congr 1;omega
     omega
   ·rcases mem_append.mp mx with mx|mx
    ·exact h1 x (by simp[mx])
    ·exact(ab x mx).1
   ·by_cases z:p<st.length
    ·refine h2 p x ?_;rw[fh z]at hp ⊢;exact hp
    ·have lp:=(List.getElem?_eq_some_iff.mp hp).1;rw[cu]at lp;rw[mq yw]at hp;have:=(ab x (bv hp)).2.1;omega
   ·rw[<- h3];simp only[mem_append,mem_singleton];constructor
    ·rintro h x (mx|rfl)
     ·exact h x (.inl mx)
     ·exact ag.mp fun y my=>h y (.inr my)
    ·rintro h x (mx|mx)
     ·exact h x (.inl mx)
     ·exact ag.mpr (h e (.inr rfl)) x mx
  refine⟨fun δ' S'=>∃m',m'<((st++[e]).map fun e=>301 ^ (9-e.ms.length)).sum/\∃(st':List Ep) (u3 u4 u5:Option XV),(∀e∈st',EpOk ps e)/\(∀(p:Nat) e,st'[p]?=some e->p<=(e.ms.map (wdN ps)).sum)/\((∀e∈st',Pl ps e.ms e.d)↔Pl ps [] d)/\m'=(st'.map fun e=>301 ^ (9-e.ms.length)).sum/\S'=[st'.map epD]/\δ'=[some (.d (aF ps)),some (.d d),some (.l 0),u3,u4,u5],?_,?_⟩
  ·intro δ' S' z;exact z
  have eg:(st.map epD++[epD e])[st.length+1-1]?=some (epD e):=by simp
  walk_at "n"
  refine⟨_,eg,?_⟩;obtain⟨q,ed⟩:=e;have ee:epD ⟨q,ed⟩=.tuple [ed,mtD q]:=rfl;rw[ee,List.dropLast_concat];walk_at "n";walk_at "n";have af:Thn ed:=he.th;have aj:q.Nodup:=he.nd;have ak:∀j∈q,j<ps.length:=he.lt;have l8:=pV aj ak;have ai:¬ Pl ps q ed->R (.d (.bool false)) []:=fun n=>qf fun p=>n (h3.mpr p ⟨q,ed⟩ yv);have ae:Pl ps q ed->∃m',m'<((st++[(⟨q,ed⟩:Ep)]).map fun e:Ep=>301 ^ (9-e.ms.length)).sum/\∃(st':List Ep),(∀e∈st',EpOk ps e)/\(∀(p:Nat) e,st'[p]?=some e->p<=(e.ms.map (wdN ps)).sum)/\((∀e∈st',Pl ps e.ms e.d)↔Pl ps [] d)/\m'=(st'.map fun e=>301 ^ (9-e.ms.length)).sum/\(st++[]).map epD=st'.map epD:=fun p=>key [] yv yv (by simpa using p);rw[km]at ae;have fin:∀ac:(∀k l,Msr ps ed k l->k∈q),_:=fun ac=>leaf58 af ac (fun p=>(by
   obtain⟨m',a,st',b1,b2,b3,b4,b5⟩:=ae p;exact(⟨m',a,st',some (XV.d (jb [ed,mtD q])),some (XV.d ed),some (XV.d (mtD q)),b1,b2,b3,b4,by rw[b5],rfl,rfl,rfl⟩:∃m',m'<((st++[(⟨q,ed⟩:Ep)]).map fun e:Ep=>301 ^ (9-e.ms.length)).sum/\∃(st':List Ep) (u3 u4 u5:Option XV),(∀e∈st',EpOk ps e)/\(∀(p:Nat) e,st'[p]?=some e->p<=(e.ms.map (wdN ps)).sum)/\((∀e∈st',Pl ps e.ms e.d)↔Pl ps [] d)/\m'=(st'.map fun e=>301 ^ (9-e.ms.length)).sum/\[st.map epD]=[st'.map epD]/\some (XV.d (jb [ed,mtD q]))=u3/\some (XV.d ed)=u4/\some (XV.d (mtD q))=u5))) ai
  refine IC af (fun k l m=>?_) (fun ac=>?_)
  ·obtain⟨rfl,hk,hl⟩:=id m;have am:cw (.list (q.map fun k:Nat=>dj k))=true:=(iS (n:=0) (lQ fun _ _=>bI)).ok;have ah:((q.map fun k:Nat=>dj k).any fun y=>fr y (.int k))=decide (k∈q):=by
    rw[any_map];by_cases hk:k∈q
    ·rw[gd hk,any_eq_true];exact⟨k,hk,by simp[c9]⟩
    ·rw[fc hk,any_eq_false];intro j mj e;have:(j:Int)=k:=by simpa[c9]using e
     exact hk ((Int.ofNat_inj.mp this)▸mj)
   unfold mtD;walk_at "d";refine⟨am,?_⟩;rw[ah];by_cases hm:k∈q
   ·rw[gd hm];walk_at "d";exact fin fun k' l' m'=>by cases m'.1;exact hm
   ·rw[fc hm];walk_at "d";have w1:=pY ho hk;have lw:(((q++[k]).map (wdN ps)).sum)=(q.map (wdN ps)).sum+wdN ps k:=by rw[jm,sum_append,pk,List.sum_singleton]
    have lk:l.length<=wdN ps k:=by unfold wdN;omega
    have sl:st.length<=308:=iz pe hw;obtain⟨n1,n2⟩:=Au aj ak hk hm;have l9:=pV n1 n2;rw[cu,fk]at l9;refine cmp1p (S0:=[st.map epD]) (fun x=>.tuple [x,mtD (q++[k])]) rfl l yw ?_ ?_
    ·intro x mx u acc R' al;walk_at "d";have em:jb (q.map (fun k:Nat=>dj k)++[.int k])=mtD (q++[k]):=by unfold mtD;rw[jm];rfl
     rw[em];exact⟨yw,al _⟩
    ·walk_at "d";obtain⟨m',a,st',b1,b2,b3,b4,b5⟩:=key (l.map fun x=>⟨q++[k],x⟩) (fun x mx=>by
      obtain⟨y,my,rfl⟩:=mem_map.mp mx;refine⟨⟨af.kids m y my,n1,n2⟩,?_,?_,?_⟩
      ·show (q.map (wdN ps)).sum+(l.map _).length<=((q++[k]).map (wdN ps)).sum;rw[lw,ff];omega
      ·show (q++[k]).length=q.length+1;rw[cu,fk]
      ·show q.length<=7;omega) (by rw[ff];omega) (by
      rw[Pl.node m hm yw];simp)
     refine⟨yw,m',a,st',_,_,_,b1,b2,b3,b4,?_,rfl,rfl,rfl⟩;rw[<- b5,jm,pj];rfl
  ·have f2:=fin fun k l m=>absurd m (ac k l);simp only[List.cons.injEq,and_true]at f2;walk_at "d";exact f2
theorem Pl.form{ps:List Part}{ms:List Nat}{d:bo}(p:Pl ps ms d):(d=.tuple [.str "breaks"]\/d=.tuple [.str "keeps"])\/∃k l,Msr ps d k l/\k∉ms:=by
 unfold Pl at p;generalize 9-ms.length=n at p;cases p with
 |leaf hh=>rcases hh with rfl|rfl<;>simp
 |node k l hk hm hl _=>exact .inr ⟨k,l,⟨rfl,hk,hl⟩,hm⟩
theorem BB{ps:List Part}(ho:Ord ps)(hz:aH ps<=300)(h8:ps.length<=8):∀{f:Nat}{ms:List Nat}{d:bo}{R:RX},Thn d->ms.Nodup->(∀j∈ms,j<ps.length)->9<f+ms.length->(Pl ps ms d->R (.d (.bool true)) [])->(¬ Pl ps ms d->R (.d (.bool false)) [])->jU f [.d (aF ps),.d (nlD ms),.d d] [] R
 | 0,ms,d,R,hd,hn,hl,hf,qt,qf=>by
  have:=pV hn hl;omega
 |f+1,ms,d,R,hd,hn,hl,hf,qt,qf=>by
  rw[jU];walk_at "d";cases d with
  |tuple ds=>
   have hs:=hd.resolve_right yv;have ae:=qV hs;walk_at "n";refine⟨by decide +kernel,?_⟩;by_cases h1:ds.length=1
   ·obtain⟨x,rfl⟩:=List.length_eq_one_iff.mp h1;have e1:([dj 1,.int 3].any fun y=>fr y (.int ([x].length:Nat)))=true:=rfl;rw[cg (by rw[e1];decide)];refine⟨x,rfl,?_⟩;cases x with
    |str z=>
     walk_at "d";walk_at "n";refine⟨ae _ yv,by decide +kernel,?_⟩;by_cases hz:z = "keeps"\/z = "breaks"
     ·have e2:([lq "keeps",.str "breaks"].any fun y=>fr y (.str z))=true:=by rcases hz with rfl|rfl<;>decide +kernel
      rw[e2];exact qt (IsPl.leaf hz.symm)
     ·have e2:([lq "keeps",.str "breaks"].any fun y=>fr y (.str z))=false:=by
       rw[any_eq_false];intro y my e;have ey:=j3 e;simp only[iq,gg,or_false]at my;rcases my with rfl|rfl<;>cases ey<;>simp at hz
      rw[e2];refine qf fun p=>hz ?_;rcases p.form with (h|h)|⟨k,l,m,_⟩
      ·cases h;exact .inr rfl
      ·cases h;exact .inl rfl
      ·cases m.1
    |_=>
     walk_at "d";refine qf fun p=>?_;rcases p.form with (h|h)|⟨k,l,m,_⟩
     ·cases h
     ·cases h
     ·cases m.1
   ·by_cases h3:ds.length=3
    ·obtain⟨x,y,z,rfl⟩:∃x y z,ds=[x,y,z]:=by
      match ds,h3 with
      | [x,y,z],_=>exact⟨x,y,z,rfl⟩
     have e1:([dj 1,.int 3].any fun v=>fr v (.int ([x,y,z].length:Nat)))=true:=rfl;rw[cg (by rw[e1];decide)];refine⟨x,rfl,?_⟩;have q:¬(jb [x,y,z]=.tuple [.str "breaks"]\/jb [x,y,z]=.tuple [.str "keeps"]):=by simp
     cases x with
     |str w=>
      walk_at "d";walk_at "n";walk_at "n";refine⟨ae _ yv,by decide +kernel,?_⟩;by_cases hw:fr (.str w) (.str "measure")=true
      ·cases j3 hw;rw[cg (by rw[hw];decide)];refine DZ ?_;cases y with
       |int k=>
        rw[show pM (.int k)=true from rfl];walk_at "d";refine⟨ps.length,by unfold aF;walk_at "d",?_⟩;refine ite2 (fun hk=>?_) fun hk=>?_
        ·refine qf fun p=>?_;rcases p.form with h|⟨k',l,m,_⟩
         ·exact q h
         ·cases m.1;have:=m.2.1;omega
        ·obtain⟨h0,hk⟩:0<=k/\k<ps.length:=Classical.byContradiction hk;obtain⟨k,rfl⟩:=gn h0;have hk:k<ps.length:=yw
         have ag:cw (.list (ms.map fun k:Nat=>dj k))=true:=(iS (n:=0) (lQ fun _ _=>bI)).ok;have ac:((ms.map fun k:Nat=>dj k).any fun y=>fr y (.int k))=decide (k∈ms):=by
          rw[any_map];by_cases hk:k∈ms
          ·rw[gd hk,any_eq_true];exact⟨k,hk,by simp[c9]⟩
          ·rw[fc hk,any_eq_false];intro j mj e;have:(j:Int)=k:=by simpa[c9]using e
           exact hk ((Int.ofNat_inj.mp this)▸mj)
         refine seq1 ?_;rw[nlD];walk_at "d";refine⟨ag,?_⟩;rw[ac];by_cases hm:k∈ms
         ·rw[ci (gd hm)];refine qf fun p=>?_;rcases p.form with h|⟨k',l,m,aa⟩
          ·exact q h
          ·cases m.1;exact aa hm
         ·rw[cg (by rw[fc hm];decide)];cases z with
          |tuple l=>
           walk_at "d";have ep:=cV (f:=bC) (fR hk);refine seq1 ?_;rw[hJ];walk_at "d";refine⟨_,ep,?_⟩;rw[jG];walk_at "d";walk_at "n";have w1:=pY ho hk;refine ite2 (fun ab=>?_) fun ab=>?_
           ·refine qf fun p=>?_;rcases p.form with h|⟨k',l,m,aa⟩
            ·exact q h
            ·cases m.1;have:=m.2.2;exact absurd this ab
           ·have af:(l.length:Int)=phi ps k-plo ps k+1:=Classical.byContradiction ab;have m:Msr ps (.tuple [.str "measure",.int k,.tuple l]) k l:=⟨rfl,hk,af⟩;obtain⟨n1,n2⟩:=Au hn hl hk hm;have l9:=pV n1 n2;rw[cu,fk]at l9;have pn:=Pl.node m hm yw
            classical
            refine cmp1p (S0:=[]) (fun x=>.bool (decide (Pl ps (ms++[k]) x))) rfl l yw ?_ ?_
            ·intro x mx u acc R' aa;walk_at "d";refine⟨yw,?_⟩;rw[show PyData.list (ms.map (fun k:Nat=>dj k)++[.int k])=nlD (ms++[k]) by unfold nlD;rw[jm];rfl,<- hJ];refine BB ho hz h8 (hd.kids m x mx) n1 n2 (by rw[cu,fk];omega) (fun p=>?_) fun p=>?_
             ·walk_at "d";have:=aa (some (.d x));rw[gd p]at this;exact this
             ·walk_at "d";have:=aa (some (.d x));rw[fc p]at this;exact this
            ·walk_at "d";refine⟨l.map fun x=>decide (Pl ps (ms++[k]) x),by rw[pj];rfl,?_⟩;by_cases hp:Pl ps ms (.tuple [.str "measure",.int k,.tuple l])
             ·rw[show (l.map fun x=>decide (Pl ps (ms++[k]) x)).all id=true by rw[all_map,oq];exact fun x mx=>gd (pn.mp hp x mx)];exact qt hp
             ·rw[show (l.map fun x=>decide (Pl ps (ms++[k]) x)).all id=false by
               rw[Bool.eq_false_iff];intro h;rw[all_map,oq]at h;exact hp (pn.mpr fun x mx=>nl (h x mx))]
              exact qf hp
          |_=>
           walk_at "d";refine qf fun p=>?_;rcases p.form with h|⟨k',l,m,aa⟩
           ·exact q h
           ·cases m.1
       |_=>
        walk_at "d";refine qf fun p=>?_;rcases p.form with h|⟨k,l,m,_⟩
        ·exact q h
        ·cases m.1
      ·rw[ci (by simpa using hw)];refine qf fun p=>?_;rcases p.form with h|⟨k,l,m,_⟩
       ·exact q h
       ·cases m.1;exact hw (by decide +kernel)
     |_=>
      walk_at "d";refine qf fun p=>?_;rcases p.form with h|⟨k,l,m,_⟩
      ·exact q h
      ·cases m.1
    ·have e1:([dj 1,.int 3].any fun v=>fr v (.int (ds.length:Nat)))=false:=by
      simp[c9];omega
     rw[ci e1];refine qf fun p=>?_;rcases p.form with (h|h)|⟨k,l,m,_⟩
     ·cases h;exact h1 rfl
     ·cases h;exact h1 rfl
     ·cases m.1;exact h3 rfl
  |_=>
   walk_at "n";refine qf fun p=>?_;rcases p.form with (h|h)|⟨k,l,m,_⟩
   ·cases h
   ·cases h
   ·cases m.1
theorem Led.uniq{lo:Nat->Int}{z:List Int}{d:bo}{js q:List Nat}{w w':Str}(h:Led lo z d js w)(h':Led lo z d q w'):js=q/\w=w':=by
 induction h generalizing q w' with
 |leaf h=>
  cases h' with
  |leaf _=>exact⟨rfl,rfl⟩
 | @node k i l d js w hk hi hd h ih=>
  cases h' with
  | @node _ i' _ d' js2 _ hk' hi' hd' h2=>
   have e:i=i':=yw
   subst e;rw[hd]at hd';cases hd';obtain⟨rfl,rfl⟩:=ih h2;exact⟨rfl,rfl⟩
def Mt(ps:List Part)(g:Gap)(d:bo)(a:List Int):Prop:=(∃js,Led (plo ps) a d js "keeps")↔b8 g a=true
def PlOk(ps:List Part)(g:Gap)(d:bo):Prop:=Pl ps [] d/\∀a∈bO ps,Mt ps g d a
open Classical in
theorem BD{ps:List Part}{g:Gap}{d:bo}{a:List Int}{js:List Nat}{w:Str}(hL:Led (plo ps) a d js w):fr (.bool (fr (.str w) (.str "keeps"))) (.bool (b8 g a))=decide (Mt ps g d a):=by
 have e:fr (.str w) (.str "keeps")=decide (∃js,Led (plo ps) a d js "keeps"):=by
  by_cases h:fr (.str w) (.str "keeps")=true
  ·rw[h];cases j3 h;exact(gd ⟨js,hL⟩).symm
  ·rw[Bool.eq_false_iff.mpr h];refine(fc ?_).symm;rintro⟨js',h'⟩;obtain⟨_,rfl⟩:=hL.uniq h';exact h (by decide +kernel)
 rw[e,gJ];unfold Mt;by_cases h1:∃js,Led (plo ps) a d js "keeps"
 ·rw[gd h1];cases h2:b8 g a<;>simp[h1]
 ·rw[fc h1];cases h2:b8 g a<;>simp[h1]
theorem uI{w:Str}(h:w = "breaks"\/w = "keeps"):cw (.str w)=true:=by rcases h with rfl|rfl<;>decide +kernel
theorem Led.word58{lo:Nat->Int}{q:List Int}{d:bo}{js:List Nat}{w:Str}(h:Led lo q d js w):w = "breaks"\/w = "keeps":=by
 induction h with
 |leaf h=>exact h
 |node _ _ _ _ ih=>exact ih
open Classical in
theorem D7{ps:List Part}{g:Gap}(ho:Ord ps)(hz:aH ps<=300)(h8:ps.length<=8)(hg:Tm3 ps.length g.ts){d:bo}(hd:Thn d)(q:R (.d (.bool (decide (PlOk ps g d)))) []):pR [.d (aF ps),.d (cM g),.d d] [] R:=by
 unfold pR;walk_at "d"
 walk_at "n"
 refine FO ho yw hz ?_;walk_at "d";walk_at "n";have bl:=oY ps;refine Is ho hz h8 hd (fun p=>?_) fun p=>?_
 ·walk_at "d";refine cmp1 (S0:=[]) (h:=aG) (fun a=>.bool (decide (Mt ps g d a))) rfl (bO ps) yw ?_ ?_
  ·intro a ma u acc R' hk;have ib:=f8.mp ma;obtain⟨js,w,hL,aa,hj⟩:=IsPl.led ib p;walk_at "d";refine JE hL hj (by simp at aa;omega) ?_;walk_at "d";refine⟨uI hL.word58,by decide +kernel,?_⟩;refine HB (by rw[ib.len];exact hg) ?_;walk_at "d";have:=hk (some (.d (aG a)));rw[<- BD hL,gJ]at this;exact this
  ·walk_at "d";refine⟨(bO ps).map fun a=>decide (Mt ps g d a),by rw[pj];rfl,?_⟩;rw[show ((bO ps).map fun a=>decide (Mt ps g d a)).all id=decide (PlOk ps g d) by
    rw[all_map];by_cases h:PlOk ps g d
    ·rw[gd h,oq];exact fun a ma=>gd (h.2 a ma)
    ·rw[fc h,Bool.eq_false_iff];intro z;rw[oq]at z;exact h ⟨p,fun a ma=>nl (z a ma)⟩]
   exact q
 ·walk_at "d";rw[fc fun h=>p h.1]at q;exact q
open Classical in
theorem F2{ps:List Part}{g:Gap}(ho:Ord ps)(hz:aH ps<=300)(h8:ps.length<=8)(hg:Tm3 ps.length g.ts){d:bo}(hd:Thn d)(q:R (.d (.bool (decide (PlOk ps g d)))) []):pK [.d (aF ps),.d (cM g),.d d] [] R:=by
 unfold pK;walk_at "d";walk_at "n";have bl:=oY ps;refine BB (f:=160) (ms:=[]) ho hz h8 hd yv yv yv (fun p=>?_) fun p=>?_
 ·walk_at "d";walk_at "n";refine Ar ho yw hz ?_;walk_at "d";refine dG (fun i δ S=>∃(u:Option XV),S=[]/\(∀a∈(bO ps).take i,Mt ps g d a)/\δ=[some (.d (aF ps)),some (.d (cM g)),some (.d d),u]) ⟨_,rfl,yv,rfl⟩ ?_ ?_
  ·rintro i x _ _ N hi ⟨u,rfl,ha,rfl⟩ hN;rw[gu]at hi;obtain⟨a,ea,rfl⟩:=map_eq_some_iff.mp hi;have ma:=bv ea;have ib:=f8.mp ma;obtain⟨js,w,hL,z,hj⟩:=IsPl.led ib p;walk_at "d";refine F1 hL hj (by simp at z;omega) ?_;walk_at "d";refine⟨uI hL.word58,by decide +kernel,?_⟩;refine x8 (by rw[ib.len];exact hg) ?_;walk_at "d";have e:=BD (g:=g) hL;rw[gJ]at e;by_cases hM:Mt ps g d a
   ·rw[gd hM]at e;rw[cg (by rw[nl e];simp)];refine hN _ _ ⟨_,rfl,fun b mb=>?_,rfl⟩;rw[take_add_one,ea]at mb;rcases mem_append.mp mb with mb|mb
    ·exact ha b mb
    ·simp at mb;rw[mb];exact hM
   ·rw[fc hM]at e;rw[ci (of_decide_eq_false e)];rw[fc fun h=>hM (h.2 a ma)]at q;exact q
  ·rintro _ _ ⟨u,rfl,ha,rfl⟩;walk_at "d";rw[gd ⟨p,fun a ma=>ha a (by rwa [ff,ou])⟩]at q;exact q
 ·walk_at "d";rw[fc fun h=>p h.1]at q;exact q
open Classical in
theorem sO{ps:List Part}{g:Gap}(ho:Ord ps)(hz:aH ps<=300)(h8:ps.length<=8)(hg:Tm3 ps.length g.ts){d:bo}(hd:Thn d)(q:R (.d (.bool true)) []):jT [.d (aF ps),.d (cM g),.d d] [] R:=by
 unfold jT;walk_at "d"
 walk_at "n"
 refine D7 ho hz h8 hg hd ?_;walk_at "d";refine F2 ho hz h8 hg hd ?_;walk_at "d";exact q
theorem Shp.thn{n:Nat}{d:bo}(h:Shp n d)(hn:n<=64):Thn d:=.inl (h.ok hn)
theorem Shp.le{n m:Nat}{d:bo}(h:Shp n d)(hn:n<=m):Shp m d:=⟨h.1,iz h.2 hn⟩
theorem GE{n:Nat}{d:bo}(h:d.canLay0=true)(h2:d.depth<=3)(hn:3<=n):Shp n d:=⟨h,iz h2 hn⟩
theorem qZ{ps:List Part}(h1:1<=ps.length)(hw:∀k,k<ps.length->(phi ps k-plo ps k+1)<=300)(ho:Ord ps){n:Nat}{ms:List Nat}{d:bo}(hd:IsPl ps ms n d){p:List bo}(hp:aI p)(q:∀d' p',Shp (2*n+5) d'->aI p'->R (.d d') [p']):qA [.d d,.d (aF ps),.l 0] [p] R:=by
 unfold qA;walk_at "d";have ai:=hd.shp;cases hd with
 | @leaf _ _ w h=>
  walk_at "n"
  walk_at "n"
  have ah:DD.get (.k [(jh ("keeps":Str),.str "breaks"),(jh ("breaks":Str),.str "keeps")]) (.str w)=some (some (.str (if w = "keeps" then "breaks" else "keeps"))):=by
   rcases h with rfl|rfl<;>rfl
  refine⟨.k [(jh ("keeps":Str),.str "breaks"),(jh ("breaks":Str),.str "keeps")],_,.inr ⟨_,rfl,rfl⟩,ah,?_⟩
  walk_at "n"
  have sw:=uI h;have so:cw (.str (if w = "keeps" then "breaks" else "keeps"))=true:=by rcases h with rfl|rfl<;>decide +kernel
  refine zq hp dz dz fun r p1 r0 r1 aa=>?_;walk_at "d";obtain⟨x,ex,hx⟩:=eT (P:=fun x=>Shp (2*n+5) x) (ds:=[.tuple [.str (if w = "keeps" then "breaks" else "keeps")],.list [.str w],.tuple [],.none,.str w,.tuple [.str "Keeps"],.tuple [.str w,.int 0],.tuple [.int 0],.tuple [.str "measure",.int 0,.tuple []],.tuple [.none]]) r0 (by simpa using r1) (fun x m=>by
   simp only[iq,gg,or_false]at m;rcases h with rfl|rfl<;>rcases m with rfl|rfl|rfl|rfl|rfl|rfl|rfl|rfl|rfl|rfl<;>exact GE (by decide +kernel) (by decide +kernel) yw)
  refine⟨x,ex,?_⟩;walk_at "d";exact q x p1 hx aa
 | @node _ n k l hk hm hl hh=>
  walk_at "n"
  walk_at "n"
  rw[hJ]
  walk_at "n"
  have w1:=hw k hk;have w2:=ho.at hk;have sa:∀x∈l,Shp (2*n+1) x:=fun x mx=>(hh x mx).shp;refine⟨yw,⟨by decide,by decide⟩,zq hp dz dz fun r p1 r0 r1 aa=>?_⟩;obtain⟨od,eo,ac⟩:=eT (P:=fun x=>Shp 1 x) (ds:=[.int (-1),.int ps.length,.bool true,.none,.str "0",.int ((k+1) % ps.length),.tuple [.int k],.int 1000000000000000000000000000000]) r0 (by simpa using r1) (fun x m=>by
   simp only[iq,gg,or_false]at m;rcases m with rfl|rfl|rfl|rfl|rfl|rfl|rfl|rfl
   ·exact bI
   ·exact bI
   ·exact IR
   ·exact Ih
   ·exact⟨by decide +kernel,by decide +kernel⟩
   ·exact bI
   ·exact dR (n:=0) (fun y my=>by rw[mem_singleton.mp my];exact bI)
   ·exact bI)
  walk_at "d";refine⟨od,eo,?_⟩
  walk_at "n"
  walk_at "n"
  have lc:=uP l none (some 1);refine⟨yw,?_⟩;have m3:∀{m:Nat}{a b c:bo},Shp m a->Shp m b->Shp m c->Shp (m+1) (.tuple [a,b,c]):=fun ha hb hc=>dR (fun x mx=>by
   simp only[iq,gg,or_false]at mx;rcases mx with rfl|rfl|rfl<;>assumption)
  have sM:∀{m:Nat},Shp m (.str "measure"):=fun {m}=>⟨by decide +kernel,ji _⟩;have st:∀{l':List bo},(∀x∈l',x∈l)->Shp (2*n+2) (.tuple l'):=fun h=>dR (n:=2*n+1) fun x mx=>sa x (h x mx);have e1:=m3 (m:=2*n+2) sM (Shp.le (n:=1) ac yw) (st (l':=l) fun _ z=>z);have e2:=m3 (m:=2*n+2) (b:=.int k) sM bI (iS (n:=2*n+1) sa);have e3:=m3 (m:=2*n+2) (b:=.int k) sM bI (st (l':=aQ l (some 1) none) fun _ z=>pN z);have e4:=m3 (m:=2*n+2) (b:=.int k) sM bI (st (l':=l++aQ l none (some 1)) fun x z=>(mem_append.mp z).elim id pN);have e5:=m3 (m:=2*n+2) (b:=.int k) sM bI (st (l':=l.reverse) fun x z=>mem_reverse.mp z);have e6:=m3 (m:=2*n+2) (a:=.str "measures") (b:=.int k) ⟨by decide +kernel,ji _⟩ bI (st (l':=l) fun _ z=>z);have e7:Shp (2*n+3) (.tuple [.str "measure",.int k]):=dR (n:=2*n+2) (Bo sM bI);have e8:Shp (2*n+3) (.list [.str "measure",.int k,.tuple l]):=iS (n:=2*n+2) (fun x mx=>by
   simp only[iq,gg,or_false]at mx;rcases mx with rfl|rfl|rfl
   ·exact sM
   ·exact bI
   ·exact st fun _ z=>z)
  have e9:=m3 (m:=2*n+4) (b:=.int k) (c:=.tuple (bx (l.length:Int).toNat [jb [.str "measure",.int k,.tuple l]]).flatten) sM bI (dR (n:=2*n+3) fun x mx=>by
   obtain⟨y,my,mx⟩:=List.mem_flatten.mp mx;rw[(List.mem_replicate.mp my).2]at mx;rw[mem_singleton.mp mx];exact Shp.le (n:=2*(n+1)+1) ai yw)
  walk_at "n"
  walk_at "n"
  obtain⟨x0,hx0,ag⟩:∃x0,atI l 0=some x0/\Shp (2*n+1) x0:=by
   cases l with
   |nil=>simp at hl;omega
   |cons a b=>exact⟨a,i6,sa a yv⟩
  refine⟨yv,yw,yw,yw,x0,hx0,?_⟩;generalize jb [.str "measure",.int k,.tuple (bx (l.length:Int).toNat [jb [.str "measure",.int k,.tuple l]]).flatten]=A9 at e9 ⊢;generalize jb [.str "measure",od,.tuple l]=A1 at e1 ⊢;generalize jb [.str "measure",.int k,.list l]=A2 at e2 ⊢;generalize jb [.str "measure",.int k,.tuple (aQ l (some 1) none)]=A3 at e3 ⊢;generalize jb [.str "measure",.int k,.tuple (l++aQ l none (some 1))]=A4 at e4 ⊢;generalize jb [.str "measure",.int k,.tuple l.reverse]=A5 at e5 ⊢;generalize jb [.str "measures",.int k,.tuple l]=A6 at e6 ⊢;generalize jb [.str "measure",.int k]=A7 at e7 ⊢;generalize PyData.list [.str "measure",.int k,.tuple l]=A8 at e8 ⊢;refine zq aa dz dz fun r2 p2 af ab ae=>?_;obtain⟨x,ex,hx⟩:=eT (P:=fun x=>Shp (2*(n+1)+5) x) (ds:=[A1,A2,A3,A4,A5,A6,A7,A8,A9,x0]) af (by simpa using ab) (fun x m=>by
   simp only[iq,gg,or_false]at m;rcases m with rfl|rfl|rfl|rfl|rfl|rfl|rfl|rfl|rfl|rfl
   ·exact Shp.le (n:=2*n+3) e1 yw
   ·exact Shp.le (n:=2*n+3) e2 yw
   ·exact Shp.le (n:=2*n+3) e3 yw
   ·exact Shp.le (n:=2*n+3) e4 yw
   ·exact Shp.le (n:=2*n+3) e5 yw
   ·exact Shp.le (n:=2*n+3) e6 yw
   ·exact Shp.le (n:=2*n+3) e7 yw
   ·exact Shp.le (n:=2*n+3) e8 yw
   ·exact Shp.le (n:=2*n+5) e9 yw
   ·exact Shp.le (n:=2*n+1) ag yw)
  walk_at "d";refine⟨x,ex,?_⟩;walk_at "d";exact q x p2 hx ae
theorem Bp{ps:List Part}(h1:1<=ps.length)(hw:∀k,k<ps.length->(phi ps k-plo ps k+1)<=300)(ho:Ord ps):∀{f n:Nat}{ms:List Nat}{d:bo}{p:List bo}{R:RX},IsPl ps ms n d->aI p->n<f->(∀d' p',Shp (2*n+5) d'->aI p'->R (.d d') [p'])->zW f [.d d,.d (aF ps),.l 0] [p] R
 | 0,n,ms,d,p,R,hd,hp,hf,q=>by omega
 |f+1,n,ms,d,p,R,hd,hp,hf,q=>by
  rw[zW];walk_at "d";have hb:=fun(p:List bo) (hp:aI p)=>qZ h1 hw ho hd hp q;cases hd with
  | @leaf _ _ w h=>
   walk_at "n";refine qZ h1 hw ho (ms:=ms) (n:=n) (.leaf h) hp fun d' p' hs aa=>?_;walk_at "d";exact q d' p' hs aa
  | @node _ n k l hk hm hl hh=>
   walk_at "n";refine zq hp dz dz fun r p1 r0 r1 ab=>?_;walk_at "d";refine ite2 (fun hr=>?_) fun hr=>?_
   ·refine qZ h1 hw ho (ms:=ms) (n:=n+1) (.node k l hk hm hl hh) ab fun d' p' hs aa=>?_;walk_at "d";exact q d' p' hs aa
   ·walk_at "n"
    have w1:=hw k hk;have w2:=ho.at hk;refine zq ab yw (jD yw yw) fun a p2 a0 a1 ac=>?_;walk_at "d"
    walk_at "n"
    walk_at "n"
    obtain⟨x,ex,hx⟩:=eT (P:=fun x=>x∈l) (ds:=l) a0 a1 (fun _ z=>z);refine⟨x,ex,?_⟩;refine Bp h1 hw ho (hh x hx) ac yw fun d' p' hs aa=>?_;walk_at "d";have lc:=uP l none (some a);have ld:=uP l (some (a+1)) none;refine⟨yw,yw,q _ p' ?_ aa⟩;refine dR (n:=2*n+6) fun y my=>?_;simp only[iq,gg,or_false]at my;rcases my with rfl|rfl|rfl
    ·exact⟨by decide +kernel,ji _⟩
    ·exact bI
    ·refine dR (n:=2*n+5) fun z mz=>?_;rcases mem_append.mp mz with mz|mz
     ·rcases mem_append.mp mz with mz|mz
      ·exact Shp.le (n:=2*n+1) (hh z (pN mz)).shp yw
      ·rw[mem_singleton.mp mz];exact hs
     ·exact Shp.le (n:=2*n+1) (hh z (pN mz)).shp yw
theorem Gk(a:Addr)(n:Int):tK (Hm a 7) ((some (.o (.ref a))::bx 7 none).set 1 (some (.d (.int n)))) []:=by
 unfold tK;walk_at "d"
 walk_at "n"
 refine Ff fun p hp=>?_;walk_at "d"
 walk_at "n"
 refine II hp dz dz fun ps p1 hd hs aa=>?_;walk_at "d"
 walk_at "n"
 refine HS aa hd fun g p2 hg ac=>?_;have h8:=hd.l8;have h3:=hg.ts.tm3 h8;have ho:=hd.ord;have h1:=hd.l1;have hw:∀k,k<ps.length->(phi ps k-plo ps k+1)<=300:=fun k hk=>by
  have:=pY ho hk;omega
 walk_at "d"
 walk_at "n"
 refine Ar ho yw hs ?_;walk_at "d";refine E2 hd hs h3 ac dz dz fun d p4 q z=>?_;walk_at "d";walk_at "n";refine sO ho hs h8 h3 (Shp.thn (n:=9) q.shp dz) ?_;walk_at "d";walk_at "n";refine dG (fun i δ S=>∃(p:List bo) (u:Option XV),aI p/\S=[p]/\δ=[some (.o (.ref a)),some (.d (.int n)),some (.l 0),some (.d (aF ps)),some (.d (cM g)),some (.d d),u,none]) ⟨p4,_,z,rfl,rfl⟩ ?_ ?_
 ·rintro i d' _ _ N hi ⟨p,u,hp,rfl,rfl⟩ hN;walk_at "d";refine Bp (f:=160) h1 hw ho q hp dz fun x p' hx ab=>?_;walk_at "d";refine sO ho hs h8 h3 (Shp.thn (n:=13) hx dz) ?_;walk_at "d";exact hN _ _ ⟨_,_,ab,rfl,rfl⟩
 ·rintro _ _ ⟨p,u,hp,rfl,rfl⟩;walk_at "d"
  walk_at "n"
  refine cmp1p (S0:=[p]) (fun _=>.bool true) rfl _ dz ?_ ?_
  ·intro x mx u acc R' hk;have hx:Thn x:=by
    simp only[iq,gg,or_false]at mx;rcases mx with rfl|rfl|rfl|rfl|rfl|rfl|rfl|rfl
    ·exact .inl (by decide +kernel)
    ·exact .inl (by decide +kernel)
    ·exact .inl (by decide +kernel)
    ·exact .inl (by decide +kernel)
    ·exact .inl (by decide +kernel)
    ·exact .inr rfl
    ·exact .inl (by decide +kernel)
    ·exact .inl (by decide +kernel)
   walk_at "d";refine sO ho hs h8 h3 hx ?_;walk_at "d";exact hk _
  ·walk_at "d";exact⟨[true,true,true,true,true,true,true,true],rfl,by decide⟩
end
end My
namespace My
open PySem L2
def top (i : Nat) : Stmt := PySem.Challenge.pw_gaugewright_k58_plans_by_anybody.main.body.getD i (.Pass ⟨0, 0, 0, 0⟩)
abbrev xJ:Stmt:=top 25
theorem D1:FnScope ["script","k"] ["script","k"] (zi xJ):=fsd
abbrev yZ:Stmt:=top 27
theorem xA:FnScope ["cell","left"] ["cell"] (zi yZ):=fsd
abbrev vO:Stmt:=top 26
theorem wV:FnScope ["seed"] ["seed"] (zi vO):=fsd
abbrev wN:Stmt:=top 28
theorem B2:FnScope ["pen","many","found"] ["pen","many"] (zi wN):=fsd
abbrev kY:Stmt:=top 32
theorem zK:FnScope ["pen","letters","way","first","names","word","at"] ["pen"] (zi kY):=fsd
abbrev wQ:Stmt:=top 30
theorem BU:FnScope ["pen","way"] ["pen"] (zi wQ):=fsd
abbrev rK:Stmt:=top 33
theorem iR:FnScope ["pen","most","names","wides","drawing","k","low"] ["pen","most"] (zi rK):=fsd
abbrev vI:Stmt:=top 34
theorem zU:FnScope ["drawing","terms","least","most","part","times","ends"] ["drawing","terms"] (zi vI):=fsd
abbrev wK:Stmt:=top 35
theorem zR:FnScope ["pen","drawing","terms","part","times","least","most","wide","low","high"] ["pen","drawing"] (zi wK):=fsd
abbrev tF:Stmt:=top 38
theorem yF:FnScope ["gap","one","worth"] ["gap","one"] (zi tF):=fsd
abbrev kA:Stmt:=top 43
theorem zD:FnScope ["pen","drawing","gap","measured","some","deep","words","left","part","name","low","high","plans","k","rest"] ["pen","drawing","gap","measured","some","deep"] (zi kA):=fsd
abbrev u0:Stmt:=top 37
theorem gL:FnScope ["drawing","found","name","low","high","longer","ahead"] ["drawing"] (zi u0):=fsd
abbrev Bl:Stmt:=top 6
theorem Ei:FnScope ["one"] ["one"] (zi Bl):=fsd
abbrev vF:Stmt:=top 9
theorem IF:FnScope ["part"] ["part"] (zi vF):=fsd
abbrev BA:Stmt:=top 10
theorem pP:FnScope ["drawing","many","part"] ["drawing"] (zi BA):=fsd
abbrev CM:Stmt:=top 11
theorem BL:FnScope ["drawing","many"] ["drawing"] (zi CM):=fsd
abbrev uK:Stmt:=top 13
theorem uC:FnScope ["beginnings","numbers","longer","beginning"] ["beginnings","numbers"] (zi uK):=fsd
abbrev C8:Stmt:=top 12
theorem pF:FnScope ["drawing","beginnings","part"] ["drawing"] (zi C8):=fsd
abbrev BN:Stmt:=top 4
theorem Hy:FnScope ["thing"] ["thing"] (zi BN):=fsd
abbrev yT:Stmt:=top 23
theorem IE:FnScope ["drawing","thing"] ["drawing","thing"] (zi yT):=fsd
abbrev uX:Stmt:=top 22
theorem kT:FnScope ["drawing","thing","left","asked","plan","measured"] ["drawing","thing"] (zi uX):=fsd
abbrev sU:Stmt:=top 15
theorem E3:FnScope ["gap","one"] ["gap","one"] (zi sU):=fsd
abbrev xF:Stmt:=top 16
theorem Ic:FnScope ["gap","one"] ["gap","one"] (zi xF):=fsd
abbrev vX:Stmt:=top 20
theorem oR:FnScope ["plan","drawing","one","parts","at","part"] ["plan","drawing","one"] (zi vX):=fsd
abbrev tT:Stmt:=top 21
theorem Bh:FnScope ["drawing","gap","thing","sets"] ["drawing","gap","thing"] (zi tT):=fsd
abbrev Az:Stmt:=top 29
theorem IL:FnScope ["found"] ["found"] (zi Az):=fsd
abbrev r9:Stmt:=top 39
theorem p6:FnScope ["drawing","measured","thing","name","low","high"] ["drawing","measured","thing"] (zi r9):=fsd
abbrev AB:Stmt:=top 40
theorem tS:FnScope ["plan","drawing","one","parts"] ["plan","drawing","one"] (zi AB):=fsd
abbrev Aa:Stmt:=top 41
theorem yQ:FnScope ["drawing","gap","thing","one"] ["drawing","gap","thing"] (zi Aa):=fsd
abbrev AM:Stmt:=top 46
theorem Aj:FnScope ["drawing","gap","thing","found"] ["drawing","gap","thing"] (zi AM):=fsd
abbrev wT:Stmt:=top 44
theorem eQ:FnScope ["plan","drawing","pen","other","some","word","part","plans","odd"] ["plan","drawing","pen"] (zi wT):=fsd
abbrev AN:Stmt:=top 45
theorem iW:FnScope ["plan","drawing","pen","at","word","part","plans","other"] ["plan","drawing","pen"] (zi AN):=fsd
abbrev s_law:Stmt:=top 47
theorem fV:FnScope ["script","cell","pen","drawing","gap","plan","turn","things"] ["script"] (zi s_law):=fsd
structure Txt(mg:Str->Option bn):Prop where
 n_range:mg "range" = none
 n_all:mg "all" = none
 n_len:mg "len" = none
 n_max:mg "max" = none
 n_int:mg "int" = none
 n_tuple:mg "tuple" = none
 n_min:mg "min" = none
 n_sum:mg "sum" = none
 n_sorted:mg "sorted" = none
 n_set:mg "set" = none
 n_list:mg "list" = none
 n_isinstance:mg "isinstance" = none
 n_bool:mg "bool" = none
 n_str:mg "str" = none
 g_MOST_SETS:∃t,mg "MOST_SETS" = some (.int 300 t)
structure Dds(K:cy)(mg:Str->Option bn):Prop where
 a0:Dd K mg "_law_cell_at" xJ ["script","k"]
 a1:Dd K mg "_law_pen_of" yZ ["cell"]
 a2:Dd K mg "_law_next" vO ["seed"]
 a3:Dd K mg "_law_draw" wN ["pen","many"]
 a4:Dd K mg "_law_names_of" kY ["pen"]
 a5:Dd K mg "_law_number" wQ ["pen"]
 a6:Dd K mg "_law_few" rK ["pen","most"]
 a7:Dd K mg "_law_ends_of" vI ["drawing","terms"]
 a8:Dd K mg "_law_gap_of" wK ["pen","drawing"]
 a9:Dd K mg "_law_kept" tF ["gap","one"]
 a10:Dd K mg "_law_drawn_plan" kA ["pen","drawing","gap","measured","some","deep"]
 a11:Dd K mg "_law_all_of" u0 ["drawing"]
 a12:Dd K mg "size_of" Bl ["one"]
 a13:Dd K mg "span_of" vF ["part"]
 a14:Dd K mg "how_many" BA ["drawing"]
 a15:Dd K mg "refuse_too_many_sets" CM ["drawing"]
 a16:Dd K mg "each_longer" uK ["beginnings","numbers"]
 a17:Dd K mg "all_sets" C8 ["drawing"]
 a18:Dd K mg "is_whole" BN ["thing"]
 a19:Dd K mg "is_measure" yT ["drawing","thing"]
 a20:Dd K mg "is_plan" uX ["drawing","thing"]
 a21:Dd K mg "worth_of" sU ["gap","one"]
 a22:Dd K mg "keeps" xF ["gap","one"]
 a23:Dd K mg "led" vX ["plan","drawing","one"]
 a24:Dd K mg "plan_holds" tT ["drawing","gap","thing"]
 a25:Dd K mg "_law_whole" Az ["found"]
 a26:Dd K mg "_law_is_plan" r9 ["drawing","measured","thing"]
 a27:Dd K mg "_law_led" AB ["plan","drawing","one"]
 a28:Dd K mg "_law_plan_right" Aa ["drawing","gap","thing"]
 a29:Dd K mg "_law_right" AM ["drawing","gap","thing"]
 a30:Dd K mg "_law_bent" wT ["plan","drawing","pen"]
 a31:Dd K mg "_law_spoilt" AN ["plan","drawing","pen"]
 t_BREAKS:∃a,L2.TupG K mg "BREAKS" "breaks" a
 t_KEEPS:∃a,L2.TupG K mg "KEEPS" "keeps" a
section
variable {P:fg}{w:ga}{K:cy}{mg:Str->Option bn}{base:Heap}
local macro_rules|`(tactic|walk_at "r")=>do
 let ts<-("zk 2,zm 0,zH 0,aW 0,zC 0,c8 0,bT 2,zE 2,d8 1,zE 0,gD 1,iK 2,jO 0,iE 0,eJ 2,gE 3,lV 1,cG 0,AS 0,j6 2,p8 0,lO 0,tZ 0,HM 1,HA 0,jC 1,iH 0,HF 2,lU 1,zk 0,Ck 0,IV 0,bT 0,hW 0,mF 1,gW 3,cW 1,uJ 1,tR 0,CZ 4,CV 1,yX 0,kX 3,I0 0,Ez 2,Cy 0,FA 0,Ed 0,gE 0,f6 1,gW 0,Cf 2,Bq 0,EB 0,Fz 0,GC 0,BO 0,F0 5,Ce 2,mF 0,kX 0,qL 0,d8 0,pS 0,Do 0,EH 2,Am 0,JM 2,tO 0,FJ 1,EI 1,uO 2,Hn 0,G9 0,G3 0,x5 0,ES 0,Iq 0,HV 0,Il 2,AZ 0,Fb 0,IG 1,uO 0,IP 0,Fr 2,v8 0,BJ 0,Er 2,JN 0,xQ 0,lU 0,jC 0,aJ 3,fD 2,sQ 1,fD 0".splitOn ",").toArray.mapM fun x=>do
  let i:=x.splitOn " "
  let h<-`(term|?_)
  let hs:=Array.replicate ((i.getD 1 "").toNat!) h
  `(Lean.Parser.Tactic.tacticSeq|refine $(Lean.mkIdent (i.getD 0 "").toName) $hs*)
 `(tactic|repeat' (first|with_reducible (first $[|$ts:tacticSeq]*)|rfl))
theorem Hi(T:Txt mg:=by assumption)(dd:Dds K mg:=by assumption):Df P w K mg base "_law_cell_at" ["script","k"] 1 (sp2 (rE K)):=by
 refine Df.of2 dd.a0 D1 (fun v u=>[some v,some u]) (fun _ _=>rfl) fun f z A outer s H v u Q E hr h=>?_;obtain⟨a,ns,i,rfl,rfl,hS,h0,q⟩:=h;refine⟨_,(ze (aT (zI lZ (pv 1) (zr Fe (by rfl) T.n_len bE (za (pv 0) zc)) (nomark _)) (zj (zB (zx wX (pv 0) (pv 1) (fun _ _=>rfl)))) zO) (zj (zB zd))),?_⟩;simp only[cJ,uB,nK,tOp,Ej,tCB,eL,jQ,rG,tC,rX,An,ph,pi];refine⟨a,_,rfl,.inl hS,?_⟩;simp only[An,D4,decide_eq_true_eq];refine ite2 (fun hi=>?_) (fun _=>q 0);obtain⟨n,e⟩:=Fy h0 hi;exact⟨a,_,i,_,rfl,rfl,hS,e,q n⟩
variable (T:Txt mg:=by assumption) (dd:Dds K mg:=by assumption)
include T dd
theorem Gr:Df P w K mg base "_law_pen_of" ["cell"] 1 (spN ["cell"] qR):=by
 exact Df.dN dd.a1 xA 1 rfl fun f z A outer s H E hr=>⟨_,_,(ze (zu (i:=1) xA.nd rfl lo (zr (Fi rfl) (by rfl) T.n_max vD (za (pv 0) (za (zz cL zd (pv 0)) zc)))) (zj (zB (zP (za (pv 1) (za (g9 xC (by rfl) T.n_int qI (za (iJ EM (pv 1) (zz mI zd zd) (nomark _)) zc)) (za (zz fO (pv 1) zd) zc))))))),(by walk_at "r"),fun xs S R q=>q⟩
theorem Aw:Df P w K mg base "_law_next" ["seed"] 1 (spN ["seed"] j4):=by
 exact Df.dN dd.a2 wV 0 rfl fun f z A outer s H E hr=>⟨_,_,(ze (zu (i:=0) wV.nd rfl lo (zz fO (zz zF (pv 0) zd) zd)) (zj (zB (zz fO (zz zF (zz zF (zz cO (pv 0) (pv 0)) (zz cO zd (pv 0))) zd) zd)))),(by walk_at "r"),fun xs S R q=>q⟩
theorem zy:Df P w K mg base "_law_draw" ["pen","many"] 2 (spN ["pen","many"] zn):=by
 exact Df.dN dd.a3 B2 1 rfl fun f z A outer s H E hr=>⟨_,_,(ze (aT (zI (bL hr.units) (zx zl (pv 0) zd (fun _ _=>rfl)) zd (nomark _)) (ze (zu (i:=2) B2.nd rfl lo (zz fO (zx zl (pv 0) zd (fun _ _=>rfl)) (pv 1))) (ze (gT (zz oF (zx zl (pv 0) zd (fun _ _=>rfl)) (pv 1)) (Ay (pv 0) zd BH)) (zj (zB (pv 2))))) zO) (ze (gT (zt Aw hr dz (za (zz zF (zt Aw hr dz (za (zx zl (pv 0) zd (fun _ _=>rfl)) zc)) zd) zc)) (Ay (pv 0) zd BH)) (zj (zB (zz fO (zz oF (zx zl (pv 0) zd (fun _ _=>rfl)) zd) (pv 1)))))),(by walk_at "r"),fun xs S R q=>q⟩
theorem G1:Df P w K mg base "_law_names_of" ["pen"] 3 (spN ["pen"] mU):=by
 exact Df.dN dd.a4 zK 6 rfl fun f z A outer s H E hr=>⟨_,_,(ze (zu (i:=1) zK.nd rfl (qy rfl) zY) (ze (zu (i:=2) zK.nd rfl lo (zt zy hr dz (za (pv 0) (za zd zc)))) (ze (zu (i:=3) zK.nd rfl (qy rfl) (zt zy hr dz (za (pv 0) (za zd zc)))) (ze (nG (i:=4) (fun _ _ h=>h) rfl (zX rfl rfl rfl rfl (N:=["k","letters","first"]) (caps:=[none,some 1,some 3]) (by show bX ["pen","letters","way","first","names","word","at"] (zi kY).names _ _ _=true;decide +kernel)) zK.nd rfl rfl (eP rfl T.n_range (za zd zc)) (fun _ _ _ _=>(zw (i:=0) (by show jv (["k","letters","first"]:List Str);decide) rfl (gx rfl))) (fun _ _ _ _=>cT) (fun _ _ _ _=>(zz cO (zx zl (pv 1) (zz fO (zz zF (pv 2) (zz cO zd (pv 0))) zd) (fun _ _=>rfl)) (zz zF zd (zz fO (zz zF (pv 2) (zz cO zd (pv 0))) zd))))) (ze (aT (zI (bL hr.units) (pv 2) zd (nomark _)) (ze (zu (i:=5) zK.nd rfl (qy rfl) (eC PySem.F.plainAttrs_str PySem.F.slot_str_join PySem.F.type_str_join Hk zY (za (eH (fun _ _ h=>h) rfl (zX rfl rfl rfl rfl (N:=["k","letters","first"]) (caps:=[none,some 1,some 3]) (by show bX ["pen","letters","way","first","names","word","at"] (zi kY).names _ _ _=true;decide +kernel)) (eP rfl T.n_range (za zd zc)) (fun _ _ _ _=>(zw (i:=0) (by show jv (["k","letters","first"]:List Str);decide) rfl (gx rfl))) (fun _ _ _ _=>cT) (fun _ _ _ _=>(zx zl (pv 1) (zz fO (zz zF (pv 2) (zz cO zd (pv 0))) zd) (fun _ _=>rfl)))) zc))) (zj (nG (i:=4) (fun _ _ h=>h) rfl (zX rfl rfl rfl rfl (N:=["k","word"]) (caps:=[none,some 5]) (by show bX ["pen","letters","way","first","names","word","at"] (zi kY).names _ _ _=true;decide +kernel)) zK.nd rfl rfl (eP rfl T.n_range (za zd zc)) (fun _ _ _ _=>(zw (i:=0) (by show jv (["k","word"]:List Str);decide) rfl (gx rfl))) (fun _ _ _ _=>cT) (fun _ _ _ _=>(gO rJ (pv 1) gS (fH (zz zF (pv 0) zd))))))) zO) (ze (aT (zI (bL hr.units) (pv 2) zd (nomark _)) (zj (zu (i:=4) zK.nd rfl lo (zP (za zY (za zY (za zY (za zY (za zY (za zY (za zY (za zY zc))))))))))) zO) (ze (zu (i:=6) zK.nd rfl lo (zt zy hr dz (za (pv 0) (za zd zc)))) (ze (zu (i:=4) zK.nd rfl lo (zz mY (gO rJ (pv 4) (fH (pv 6)) gS) (gO rJ (pv 4) gS (fH (pv 6))))) (ze (aT (zI (bL hr.units) (zt zy hr dz (za (pv 0) (za zd zc))) zd (nomark _)) (zj (dW (B3 PySem.F.plainAttrs_list PySem.F.slot_list_reverse PySem.F.type_list_reverse GH (pv 4)))) zO) (zj (zB (pv 4)))))))))))),(zE (bT iE zC) (zE (by walk_at "r") (zE (by walk_at "r") (zE (bT (x3 (f6 (zk aW zH)) zC cY (aJ hW (aJ c8 zm (aJ iH (aJ cG zm (aJ hW aW zm)) aW)) (aJ cG aW (aJ iH (aJ cG zm (aJ hW aW zm)) aW)))) zC) (zE (gE (by walk_at "r") (zE (bT (x5 Hc iE (zk (cX (f6 (zk aW zH)) zC cY (aJ c8 zm (aJ iH (aJ cG zm (aJ hW aW zm)) aW))) zH)) zC) (bT (x3 (f6 (zk aW zH)) zC cY (CZ Am zm yX (CV (aJ cG zm aW)))) zC)) jO) (by walk_at "r")))))),fun xs S R q=>q⟩
theorem Dg:Df P w K mg base "_law_number" ["pen"] 3 (spN ["pen"] pA):=by
 exact Df.dN dd.a5 BU 1 rfl fun f z A outer s H E hr=>⟨_,_,(ze (zu (i:=1) BU.nd rfl lo (zt zy hr dz (za (pv 0) (za zd zc)))) (ze (aT (zI lZ (pv 1) zd (nomark _)) (zj (zB (zz cL (zt zy hr dz (za (pv 0) (za zd zc))) zd))) zO) (ze (aT (zI lZ (pv 1) zd (nomark _)) (zj (zB (zz cL (zt zy hr dz (za (pv 0) (za zd zc))) zd))) zO) (zj (zB (zz cO (zz cL (zt zy hr dz (za (pv 0) (za (zz cO zd (zz mI zd zd)) zc))) (zz mI zd zd)) (zz mI zd zd))))))),(by walk_at "r"),fun xs S R q=>q⟩
theorem GL:Df P w K mg base "_law_few" ["pen","most"] 4 (spN ["pen","most"] tE):=by
 exact Df.dN dd.a6 iR 5 rfl fun f z A outer s H E hr=>⟨_,_,(ze (zu (i:=2) iR.nd rfl lo (zt G1 hr dz (za (pv 0) zc))) (ze (nG (i:=3) (fun _ _ h=>h) rfl (zX rfl rfl rfl rfl (N:=["k","pen"]) (caps:=[none,some 0]) (by show bX ["pen","most","names","wides","drawing","k","low"] (zi rK).names _ _ _=true;decide +kernel)) iR.nd rfl rfl (eP rfl T.n_range (za (zz zF zd (zt zy hr dz (za (pv 0) (za (pv 1) zc)))) zc)) (fun _ _ _ _=>(zw (i:=0) (by show jv (["k","pen"]:List Str);decide) rfl (gx rfl))) (fun _ _ _ _=>cT) (fun _ _ _ _=>(zz zF zd (zt zy hr dz (za (pv 1) (za zd zc)))))) (ze (aT (zI (bL hr.units) (zt zy hr dz (za (pv 0) (za zd zc))) zd (nomark _)) (zj (zu (i:=3) iR.nd rfl lo (zx zl (zP (za (zP (za zd (za zd zc))) (za (zP (za zd (za zd zc))) (za (zP (za zd zc)) (za (zz cO (zP (za zd zc)) zd) zc))))) (zt zy hr dz (za (pv 0) (za zd zc))) (fun _ _=>rfl)))) zO) (ze (zu (i:=4) iR.nd rfl lo (zP zc)) (ze (dL gl rfl (eP rfl T.n_range (za (zr zJ (by rfl) T.n_len bE (za (pv 3) zc)) zc)) (zw (i:=5) iR.nd rfl (gx rfl)) (ze (zu (i:=6) iR.nd rfl lo (zt Dg hr dz (za (pv 0) zc))) (zj (dW (eC PySem.F.plainAttrs_list PySem.F.slot_list_append PySem.F.type_list_append iQ (pv 4) (za (zL (za (zx zl (pv 2) (pv 5) (fun _ _=>rfl)) (za (pv 6) (za (zz cL (zz zF (pv 6) (zx zl (pv 3) (pv 5) (fun _ _=>rfl))) zd) zc)))) zc)))))) (zj (zB (g9 sJ (by rfl) T.n_tuple hE (za (pv 4) zc))))))))),(zE (by walk_at "r") (zE (bT (cX (f6 (zk (aJ cG aW (iK (i:=0) (zk zm (zk zm zH)))) zH)) zC cY (aJ cG aW (iK (i:=0) (zk zm (zk aW zH))))) zC) (by walk_at "r"))),fun xs S R q=>q⟩
theorem Hj:Df P w K mg base "_law_ends_of" ["drawing","terms"] 1 (spN ["drawing","terms"] qE):=by
 exact Df.dN dd.a7 zU 5 rfl fun f z A outer s H E hr=>⟨_,_,(ze (zu (i:=2) zU.nd rfl lo zd) (ze (zu (i:=3) zU.nd rfl lo zd) (ze (dL gl rfl (cC (pv 1)) (fJ (n:=2) rfl (zN (zw (i:=4) zU.nd rfl (gx rfl)) (zN (zw (i:=5) zU.nd rfl (gx rfl)) fF))) (ze (zu (i:=6) zU.nd rfl lo (zP (za (zz cO (pv 5) (zx zl (zx zl (pv 0) (pv 4) (fun _ _=>rfl)) zd (fun _ _=>rfl))) (za (zz cO (pv 5) (zx zl (zx zl (pv 0) (pv 4) (fun _ _=>rfl)) zd (fun _ _=>rfl))) zc)))) (ze (zu (i:=2) zU.nd rfl lo (zz zF (pv 2) (zr (Gz rfl hr.units) (by rfl) T.n_min Ft (za (pv 6) zc)))) (zj (zu (i:=3) zU.nd rfl lo (zz zF (pv 3) (zr (GQ rfl) (by rfl) T.n_max vD (za (pv 6) zc)))))))) (zj (zB (zL (za (pv 2) (za (pv 3) zc)))))))),(by walk_at "r"),fun xs S R q=>q⟩
theorem FU:Df P w K mg base "_law_gap_of" ["pen","drawing"] 3 (spN ["pen","drawing"] p0):=by
 exact Df.dN dd.a8 zR 8 rfl fun f z A outer s H E hr=>⟨_,_,(ze (zu (i:=2) zR.nd rfl lo (zP zc)) (ze (dL gl rfl (eP rfl T.n_range (za (zr zJ (by rfl) T.n_len bE (za (pv 1) zc)) zc)) (zw (i:=3) zR.nd rfl (gx rfl)) (ze (zu (i:=4) zR.nd rfl lo (zz cL (zt zy hr dz (za (pv 0) (za zd zc))) zd)) (zj (aT (zI (qY hr.units) (pv 4) (zL (za (jL jF zd) (za zd (za zd zc)))) (by rfl)) (zj (dW (eC PySem.F.plainAttrs_list PySem.F.slot_list_append PySem.F.type_list_append iQ (pv 2) (za (zL (za (pv 3) (za (pv 4) zc))) zc)))) zO)))) (ze (aT (zI (bL hr.units) (pv 2) (zP zc) (nomark _)) (zj (zu (i:=2) zR.nd rfl lo (zP (za (zL (za (zt zy hr dz (za (pv 0) (za (zr zJ (by rfl) T.n_len bE (za (pv 1) zc)) zc))) (za (zx zl (zP (za zd (za (jL jF zd) (za zd (za (jL jF zd) zc))))) (zt zy hr dz (za (pv 0) (za zd zc))) (fun _ _=>rfl)) zc))) zc)))) zO) (ze (gT (zt Hj hr dz (za (pv 1) (za (pv 2) zc))) (fJ (n:=2) rfl (zN (zw (i:=5) zR.nd rfl (gx rfl)) (zN (zw (i:=6) zR.nd rfl (gx rfl)) fF)))) (ze (zu (i:=7) zR.nd rfl lo (zz cL (pv 6) (pv 5))) (ze (zu (i:=8) zR.nd rfl lo (zz zF (pv 5) (zx zl (sW (bM zd (bM zd (bM (jL jF zd) (bM (zz oF (pv 7) zd) (bM (zz oF (pv 7) zd) (bM (zz zF (pv 7) zd) fS))))))) (zt zy hr dz (za (pv 0) (za zd zc))) (fun _ _=>rfl)))) (ze (zu (i:=9) zR.nd rfl lo (zz zF (pv 8) (zx zl (sW (bM zd (bM zd (bM zd (bM (zz oF (pv 7) zd) (bM (pv 7) (bM (zz zF (pv 7) zd) fS))))))) (zt zy hr dz (za (pv 0) (za zd zc))) (fun _ _=>rfl)))) (zj (zB (zL (za (g9 sJ (by rfl) T.n_tuple hE (za (pv 2) zc)) (za (pv 8) (za (pv 9) zc))))))))))))),(by walk_at "r"),fun xs S R q=>q⟩
theorem wO:Df P w K mg base "_law_kept" ["gap","one"] 1 (spN ["gap","one"] m8):=by
 exact Df.dN dd.a9 yF 1 rfl fun f z A outer s H E hr=>⟨_,_,(ze (zu (i:=2) yF.nd rfl lo (zr (CT rfl) (by rfl) T.n_sum wS (za (eH (fun _ _ h=>h) rfl (zX rfl rfl rfl rfl (N:=["part","times","one"]) (caps:=[none,none,some 1]) (by show bX ["gap","one","worth"] (zi tF).names _ _ _=true;decide +kernel)) (cC (zx zl (pv 0) zd (fun _ _=>rfl))) (fun _ _ _ _=>(fJ (n:=2) rfl (zN (zw (i:=0) (by show jv (["part","times","one"]:List Str);decide) rfl (gx rfl)) (zN (zw (i:=1) (by show jv (["part","times","one"]:List Str);decide) rfl (gx rfl)) fF)))) (fun _ _ _ _=>cT) (fun _ _ _ _=>(zz cO (pv 1) (zx zl (pv 2) (pv 0) (fun _ _=>rfl))))) zc))) (zj (zB (Ab nZ nZ (zx zl (pv 0) zd (fun _ _=>rfl)) (pv 2) (zx zl (pv 0) zd (fun _ _=>rfl)))))),(zE (bT (fD tO (zk (cX (cW (aJ c8 zm aW)) (uJ (j6 zC (j6 zC tR))) cY (aJ hW zm (aJ c8 zm zm))) zH)) zC) (by walk_at "r")),fun xs S R q=>q⟩
theorem xL:∀n,Df P w K mg base "_law_drawn_plan" ["pen","drawing","gap","measured","some","deep"] (3+n) (spN ["pen","drawing","gap","measured","some","deep"] (zT n))
 | 0=>Df.none dd.a10
 |n+1=>by
  have sS:=xL  n;show Df P w K mg base "_law_drawn_plan" ["pen","drawing","gap","measured","some","deep"] (3+n+1) (spN ["pen","drawing","gap","measured","some","deep"] (zT (n+1)));exact Df.dN dd.a10 zD 9 rfl fun f z A outer s H E hr=>⟨_,_,(ze (zu (i:=6) zD.nd rfl lo (E9 rfl rfl T.n_sorted rfl T.n_set (za (eH (fun _ _ h=>h) rfl (zX rfl rfl rfl rfl (N:=["one","gap"]) (caps:=[none,some 2]) (by show bX ["pen","drawing","gap","measured","some","deep","words","left","part","name","low","high","plans","k","rest"] (zi kA).names _ _ _=true;decide +kernel)) (cC (pv 4)) (fun _ _ _ _=>(zw (i:=0) (by show jv (["one","gap"]:List Str);decide) rfl (gx rfl))) (fun _ _ _ _=>cT) (fun _ _ _ _=>(zt wO hr yw (za (pv 1) (za (pv 0) zc))))) zc))) (ze (nG (i:=7) (fun _ _ h=>h) rfl (zX rfl rfl rfl rfl (N:=["part","measured"]) (caps:=[none,some 3]) (by show bX ["pen","drawing","gap","measured","some","deep","words","left","part","name","low","high","plans","k","rest"] (zi kA).names _ _ _=true;decide +kernel)) zD.nd rfl rfl (eP rfl T.n_range (za (zr zJ (by rfl) T.n_len bE (za (pv 1) zc)) zc)) (fun _ _ _ _=>(zw (i:=0) (by show jv (["part","measured"]:List Str);decide) rfl (gx rfl))) (fun _ _ _ _=>(Ao (zI (qY hr.units) (pv 0) (pv 1) (by rfl)))) (fun _ _ _ _=>(pv 0))) (ze (aT (PW.pt (dY (zI (bL hr.units) (pv 7) (zP zc) (nomark _)) (dY (zI (bL hr.units) (pv 5) zd (nomark _)) (iM (PW.pt (tB (zI lZ (zr zJ (by rfl) T.n_len bE (za (pv 6) zc)) zd (nomark _)) (uY (zI xV (zt zy hr yw (za (pv 0) (za zd zc))) zd (nomark _))))))))) (zj (zB (zL (za (zx zl (zP (za zY (za zY zc))) (g9 xC (by rfl) T.n_int qI (za (zx zl (pv 6) (zt zy hr yw (za (pv 0) (za (zr zJ (by rfl) T.n_len bE (za (pv 6) zc)) zc))) (fun _ _=>rfl)) zc)) (fun _ _=>rfl)) zc)))) zO) (ze (zu (i:=8) zD.nd rfl (qy rfl) (zx zl (pv 7) (zt zy hr yw (za (pv 0) (za (zr zJ (by rfl) T.n_len bE (za (pv 7) zc)) zc))) (fun _ _=>rfl))) (ze (gT (zx zl (pv 1) (pv 8) (fun _ _=>rfl)) (fJ (n:=3) rfl (zN (zw (i:=9) zD.nd rfl (gx rfl)) (zN (zw (i:=10) zD.nd rfl (qy rfl)) (zN (zw (i:=11) zD.nd rfl (gx rfl)) fF))))) (ze (zu (i:=12) zD.nd rfl lo (zP zc)) (ze (dL gl rfl (eP rfl T.n_range (za (zz zF (zz cL (pv 11) (pv 10)) zd) zc)) (zw (i:=13) zD.nd rfl (qy rfl)) (ze (nG (i:=14) (fun _ _ h=>h) rfl (zX rfl rfl rfl rfl (N:=["one","part","low","k"]) (caps:=[none,some 8,some 10,some 13]) (by show bX ["pen","drawing","gap","measured","some","deep","words","left","part","name","low","high","plans","k","rest"] (zi kA).names _ _ _=true;decide +kernel)) zD.nd rfl rfl (cC (pv 4)) (fun _ _ _ _=>(zw (i:=0) (by show jv (["one","part","low","k"]:List Str);decide) rfl (gx rfl))) (fun _ _ _ _=>(Ao (zI (bL hr.units) (zx zl (pv 0) (pv 1) (fun _ _=>rfl)) (zz zF (pv 2) (pv 3)) (nomark _)))) (fun _ _ _ _=>(pv 0))) (zj (dW (eC PySem.F.plainAttrs_list PySem.F.slot_list_append PySem.F.type_list_append iQ (pv 12) (za (zt sS hr yw (za (pv 0) (za (pv 1) (za (pv 2) (za (zz zF (pv 3) (zP (za (pv 8) zc))) (za (pv 14) (za (zz cL (pv 5) zd) zc))))))) zc)))))) (zj (zB (zL (za zY (za (pv 8) (za (g9 sJ (by rfl) T.n_tuple hE (za (pv 12) zc)) zc))))))))))))),(zE (bT (fD AZ (zk (cX (cW zm) zC cY (eJ (zk zm (zk zm zH)))) zH)) zC) (zE (bT (cX (f6 (zk (fD AS (zk zm zH)) zH)) zC (sQ (aJ BO zm zm)) zm) zC) (zE (by walk_at "r") (zE (by walk_at "r") (zE (by walk_at "r") (zE (by walk_at "r") (zE (gW (by walk_at "r") zC (zE (bT (cX (cW zm) zC (sQ (aJ p8 (aJ c8 zm zm) (aJ cG zm zm))) zm) zC) (by walk_at "r"))) (by walk_at "r")))))))),fun xs S R q=>q⟩
theorem sS:Df P w K mg base "_law_drawn_plan" ["pen","drawing","gap","measured","some","deep"] 163 (spN ["pen","drawing","gap","measured","some","deep"] tH):=xL T dd  160
theorem vG:Df P w K mg base "_law_all_of" ["drawing"] 1 (spN ["drawing"] nJ):=by
 exact Df.dN dd.a11 gL 6 rfl fun f z A outer s H E hr=>⟨_,_,(ze (zu (i:=1) gL.nd rfl lo (zP (za (zL zc) zc))) (ze (dL gl rfl (cC (pv 0)) (fJ (n:=3) rfl (zN (zw (i:=2) gL.nd rfl (gx rfl)) (zN (zw (i:=3) gL.nd rfl (qy rfl)) (zN (zw (i:=4) gL.nd rfl (gx rfl)) fF)))) (ze (zu (i:=5) gL.nd rfl lo (zP zc)) (ze (dL gl rfl (cC (pv 1)) (zw (i:=6) gL.nd rfl (qy rfl)) (zj (dW (eC PySem.F.plainAttrs_list PySem.F.slot_list_extend PySem.F.type_list_extend sP (pv 5) (za (eH (fun _ _ h=>h) rfl (zX rfl rfl rfl rfl (N:=["k","ahead","low"]) (caps:=[none,some 6,some 3]) (by show bX ["drawing","found","name","low","high","longer","ahead"] (zi u0).names _ _ _=true;decide +kernel)) (eP rfl T.n_range (za (zz zF (zz cL (pv 4) (pv 3)) zd) zc)) (fun _ _ _ _=>(zw (i:=0) (by show jv (["k","ahead","low"]:List Str);decide) rfl (gx rfl))) (fun _ _ _ _=>cT) (fun _ _ _ _=>(zz zF (pv 1) (zL (za (zz zF (pv 2) (pv 0)) zc))))) zc))))) (zj (zu (i:=1) gL.nd rfl lo (pv 5)))))) (zj (zB (pv 1))))),(zE (by walk_at "r") (zE (gW (cW zm) (by walk_at "r") (wI (zE (rM (zE (by walk_at "r") (gW (cW zm) zC (mF (kX qL zm (zk (cX (f6 (zk (aJ cG (aJ tZ zm zm) aW) zH)) zC cY (aJ cG zm (gD (zk (aJ cG zm zm) zH)))) zH)))))) (bT zm zC)))) (d8 zm))),fun xs S R q=>q⟩
theorem CI:Df P w K mg base "size_of" ["one"] 1 (spN ["one"] lG):=by
 exact Df.dN dd.a12 Ei 0 rfl fun f z A outer s H E hr=>⟨_,_,(zj (zB (zz zF (zz cL (zx zl (pv 0) zd (fun _ _=>rfl)) (zx zl (pv 0) zd (fun _ _=>rfl))) zd))),(by walk_at "r"),fun xs S R q=>q⟩
theorem Bf:Df P w K mg base "span_of" ["part"] 1 (spN ["part"] nP):=by
 exact Df.dN dd.a13 IF 0 rfl fun f z A outer s H E hr=>⟨_,_,(zj (zB (zL (za (zx zl (pv 0) zd (fun _ _=>rfl)) (za (zx zl (pv 0) zd (fun _ _=>rfl)) zc))))),(by walk_at "r"),fun xs S R q=>q⟩
theorem GG:Df P w K mg base "how_many" ["drawing"] 2 (spN ["drawing"] qC):=by
 exact Df.dN dd.a14 pP 2 rfl fun f z A outer s H E hr=>⟨_,_,(ze (zu (i:=1) pP.nd rfl lo zd) (ze (dL gl rfl (cC (pv 0)) (zw (i:=2) pP.nd rfl (gx rfl)) (zj (zu (i:=1) pP.nd rfl lo (zz cO (pv 1) (zt CI hr dz (za (zt Bf hr dz (za (pv 2) zc)) zc)))))) (zj (zB (pv 1))))),(by walk_at "r"),fun xs S R q=>q⟩
theorem GD:Df P w K mg base "refuse_too_many_sets" ["drawing"] 3 (spN ["drawing"] zZ):=by
 exact Df.dN dd.a15 BL 1 rfl fun f z A outer s H E hr=>⟨_,_,(ze (zu (i:=1) BL.nd rfl lo (zt GG hr dz (za (pv 0) zc))) (zj (aT (zI xV (pv 1) (FY rfl T.g_MOST_SETS) (nomark _)) (zj Fu) zO))),(by walk_at "r"),fun xs S R q=>q⟩
theorem Ea:Df P w K mg base "each_longer" ["beginnings","numbers"] 1 (spN ["beginnings","numbers"] pH):=by
 exact Df.dN dd.a16 uC 2 rfl fun f z A outer s H E hr=>⟨_,_,(ze (zu (i:=2) uC.nd rfl lo (zP zc)) (ze (dL gl rfl (cC (pv 0)) (zw (i:=3) uC.nd rfl (qy rfl)) (zj (dW (eC PySem.F.plainAttrs_list PySem.F.slot_list_extend PySem.F.type_list_extend sP (pv 2) (za (eH (fun _ _ h=>h) rfl (zX rfl rfl rfl rfl (N:=["number","beginning"]) (caps:=[none,some 3]) (by show bX ["beginnings","numbers","longer","beginning"] (zi uK).names _ _ _=true;decide +kernel)) (cC (pv 1)) (fun _ _ _ _=>(zw (i:=0) (by show jv (["number","beginning"]:List Str);decide) rfl (gx rfl))) (fun _ _ _ _=>cT) (fun _ _ _ _=>(zz zF (pv 1) (zL (za (pv 0) zc))))) zc))))) (zj (zB (pv 2))))),(zE (by walk_at "r") (zE (gW (cW zm) zC (mF (kX qL zm (zk (cX (cW zm) zC cY (aJ cG zm (gD (zk zm zH)))) zH)))) (d8 zm))),fun xs S R q=>q⟩
theorem FH:Df P w K mg base "all_sets" ["drawing"] 4 (spN ["drawing"] oZ):=by
 exact Df.dN dd.a17 pF 2 rfl fun f z A outer s H E hr=>⟨_,_,(ze (dW (zt GD hr dz (za (pv 0) zc))) (ze (zu (i:=1) pF.nd rfl lo (zP (za (zL zc) zc))) (ze (dL gl rfl (cC (pv 0)) (zw (i:=2) pF.nd rfl (gx rfl)) (zj (zu (i:=1) pF.nd rfl lo (zt Ea hr dz (za (pv 1) (za (Ct rfl rfl T.n_list rfl T.n_range (za (zx zl (pv 2) zd (fun _ _=>rfl)) (za (zz zF (zx zl (pv 2) zd (fun _ _=>rfl)) zd) zc))) zc)))))) (zj (zB (pv 1)))))),(by walk_at "r"),fun xs S R q=>q⟩
theorem Fw:Df P w K mg base "is_whole" ["thing"] 1 (spN ["thing"] pI):=by
 exact Df.dN dd.a18 Hy 0 rfl fun f z A outer s H E hr=>⟨_,_,(zj (zB (qK (zr eA (by rfl) T.n_isinstance zQ (za (pv 0) (za (eE rfl T.n_int qI (v:=.ty "int") rfl) zc))) (oW (wF (zr eA (by rfl) T.n_isinstance zQ (za (pv 0) (za (eE rfl T.n_bool tX (v:=.ty "bool") rfl) zc)))))))),(by walk_at "r"),fun xs S R q=>q⟩
theorem Fx:Df P w K mg base "is_measure" ["drawing","thing"] 2 (spN ["drawing","thing"] qS):=by
 exact Df.dN dd.a19 IE 0 rfl fun f z A outer s H E hr=>⟨_,_,(ze (aT (PW.pt (dY (dE (cR (zr eA (by rfl) T.n_isinstance zQ (za (pv 1) (za (eE rfl T.n_tuple hE (v:=.ty "tuple") rfl) zc))) (fun _=>rfl))) (dY (zI (k7 hr.units) (zr zJ (by rfl) T.n_len bE (za (pv 1) zc)) zd (nomark _)) (iM (zI (k7 hr.units) (zx zl (pv 1) zd (fun _ _=>rfl)) zY (nomark _)))))) (zj (zB b6)) zO) (ze (aT (PW.pt (dY (dE (cR (zt Fw hr dz (za (zx zl (pv 1) zd (fun _ _=>rfl)) zc)) (fun _=>rfl))) (iM (dE (GX nZ lZ zd (zx zl (pv 1) zd (fun _ _=>rfl)) (zr zJ (by rfl) T.n_len bE (za (pv 0) zc))))))) (zj (zB b6)) zO) (zj (zB (qK (zr eA (by rfl) T.n_isinstance zQ (za (zx zl (pv 1) zd (fun _ _=>rfl)) (za (eE rfl T.n_tuple hE (v:=.ty "tuple") rfl) zc))) (oW (iJ (bL hr.units) (zr zJ (by rfl) T.n_len bE (za (zx zl (pv 1) zd (fun _ _=>rfl)) zc)) (zt CI hr dz (za (zt Bf hr dz (za (zx zl (pv 0) (zx zl (pv 1) zd (fun _ _=>rfl)) (fun _ _=>rfl)) zc)) zc)) (nomark _)))))))),(by walk_at "r"),fun xs S R q=>q⟩
theorem Eo:Df P w K mg base "is_plan" ["drawing","thing"] 3 (spN ["drawing","thing"] pZ):=by
 obtain⟨z,t_BREAKS⟩:=dd.t_BREAKS;obtain⟨aa,t_KEEPS⟩:=dd.t_KEEPS;exact Df.dN dd.a20 kT 4 rfl fun f ab A outer s H E hr=>⟨_,_,(ze (zu (i:=2) kT.nd rfl lo (zP (za (zL (za (pv 1) (za (zL zc) zc))) zc))) (ze (uL gl (cR (pv 2) (fun _=>rfl)) (ze (zu (i:=3) kT.nd rfl lo (B3 PySem.F.plainAttrs_list PySem.F.slot_list_pop PySem.F.type_list_pop Gw (pv 2))) (ze (zu (i:=4) kT.nd rfl (qy rfl) (zx zl (pv 3) zd (fun _ _=>rfl))) (ze (zu (i:=5) kT.nd rfl (qy rfl) (zx zl (pv 3) zd (fun _ _=>rfl))) (zj (aT (PW.pt (tB (cR (zt Fx hr dz (za (pv 0) (za (pv 4) zc))) (fun _=>rfl)) (uY (zI (qY hr.units) (zx zl (pv 4) zd (fun _ _=>rfl)) (pv 5) (by rfl))))) (zj (dW (eC PySem.F.plainAttrs_list PySem.F.slot_list_extend PySem.F.type_list_extend sP (pv 2) (za (eH (fun _ _ h=>h) rfl (zX rfl rfl rfl rfl (N:=["further","measured","plan"]) (caps:=[none,some 5,some 4]) (by show bX ["drawing","thing","left","asked","plan","measured"] (zi uX).names _ _ _=true;decide +kernel)) (cC (zx zl (pv 4) zd (fun _ _=>rfl))) (fun _ _ _ _=>(zw (i:=0) (by show jv (["further","measured","plan"]:List Str);decide) rfl (gx rfl))) (fun _ _ _ _=>cT) (fun _ _ _ _=>(zL (za (pv 0) (za (zz zF (pv 1) (zL (za (zx zl (pv 2) zd (fun _ _=>rfl)) zc))) zc))))) zc)))) (zj (aT (PW.pt (tB (zI (Af t_KEEPS (by decide +kernel) hr.units) (pv 4) (sV (v:=.ref aa) rfl t_KEEPS.1 rfl) (nomark _)) (uY (zI (Af t_BREAKS (by decide +kernel) hr.units) (pv 4) (sV (v:=.ref z) rfl t_BREAKS.1 rfl) (nomark _))))) (zj (zB b6)) zO)))))))) (zj (zB b6)))),(zE (by walk_at "r") (zE (uO (jC zm) (zE (by walk_at "r") (zE (by walk_at "r") (zE (by walk_at "r") (gE (by walk_at "r") (mF (kX qL zm (zk (cX (cW (aJ c8 zm aW)) zC cY (gD (zk zm (zk (aJ cG zm (gD (zk (aJ c8 zm aW) zH))) zH)))) zH))) (by walk_at "r")))))) (d8 lO))),fun xs S R q=>q⟩
theorem EO:Df P w K mg base "worth_of" ["gap","one"] 1 (spN ["gap","one"] pO):=by
 exact Df.dN dd.a21 E3 0 rfl fun f z A outer s H E hr=>⟨_,_,(zj (zB (zr (CT rfl) (by rfl) T.n_sum wS (za (eH (fun _ _ h=>h) rfl (zX rfl rfl rfl rfl (N:=["part","times","one"]) (caps:=[none,none,some 1]) (by show bX ["gap","one"] (zi sU).names _ _ _=true;decide +kernel)) (cC (zx zl (pv 0) zd (fun _ _=>rfl))) (fun _ _ _ _=>(fJ (n:=2) rfl (zN (zw (i:=0) (by show jv (["part","times","one"]:List Str);decide) rfl (gx rfl)) (zN (zw (i:=1) (by show jv (["part","times","one"]:List Str);decide) rfl (gx rfl)) fF)))) (fun _ _ _ _=>cT) (fun _ _ _ _=>(zz cO (pv 1) (zx zl (pv 2) (pv 0) (fun _ _=>rfl))))) zc)))),(d8 (fD tO (zk (cX (cW (aJ c8 zm aW)) (uJ (j6 zC (j6 zC tR))) cY (aJ hW zm (aJ c8 zm zm))) zH))),fun xs S R q=>q⟩
theorem IS:Df P w K mg base "keeps" ["gap","one"] 2 (spN ["gap","one"] qO):=by
 exact Df.dN dd.a22 Ic 0 rfl fun f z A outer s H E hr=>⟨_,_,(zj (zB (Ab nZ nZ (zx zl (pv 0) zd (fun _ _=>rfl)) (zt EO hr dz (za (pv 0) (za (pv 1) zc))) (zx zl (pv 0) zd (fun _ _=>rfl))))),(by walk_at "r"),fun xs S R q=>q⟩
theorem G7:Df P w K mg base "led" ["plan","drawing","one"] 1 (spN ["plan","drawing","one"] o7):=by
 exact Df.dN dd.a23 oR 3 rfl fun f z A outer s H E hr=>⟨_,_,(ze (zu (i:=3) oR.nd rfl lo (zP zc)) (ze (zu (i:=4) oR.nd rfl lo (pv 0)) (ze (uL gl (zI (bL hr.units) (zx zl (pv 4) zd (fun _ _=>rfl)) zY (nomark _)) (ze (zu (i:=5) oR.nd rfl lo (zx zl (pv 4) zd (fun _ _=>rfl))) (ze (dW (eC PySem.F.plainAttrs_list PySem.F.slot_list_append PySem.F.type_list_append iQ (pv 3) (za (pv 5) zc))) (zj (zu (i:=4) oR.nd rfl lo (zx zl (zx zl (pv 4) zd (fun _ _=>rfl)) (zz cL (zx zl (pv 2) (pv 5) (fun _ _=>rfl)) (zx zl (zx zl (pv 1) (pv 5) (fun _ _=>rfl)) zd (fun _ _=>rfl))) (fun _ _=>rfl))))))) (zj (zB (zL (za (pv 3) (za (zx zl (pv 4) zd (fun _ _=>rfl)) zc)))))))),(De (zE (rM (by walk_at "r")) (by walk_at "r"))),fun xs S R q=>q⟩
theorem Hr:Df P w K mg base "plan_holds" ["drawing","gap","thing"] 5 (spN ["drawing","gap","thing"] pR):=by
 exact Df.dN dd.a24 Bh 1 rfl fun f z A outer s H E hr=>⟨_,_,(ze (zu (i:=3) Bh.nd rfl lo (zt FH hr dz (za (pv 0) zc))) (ze (aT (dE (cR (zt Eo hr dz (za (pv 0) (za (pv 2) zc))) (fun _=>rfl))) (zj (zB b6)) zO) (zj (zB (zr (sK rfl) (by rfl) T.n_all uH (za (eH (fun _ _ h=>h) rfl (zX rfl rfl rfl rfl (N:=["one","gap","thing","drawing"]) (caps:=[none,some 1,some 2,some 0]) (by show bX ["drawing","gap","thing","sets"] (zi tT).names _ _ _=true;decide +kernel)) (cC (pv 3)) (fun _ _ _ _=>(zw (i:=0) (by show jv (["one","gap","thing","drawing"]:List Str);decide) rfl (gx rfl))) (fun _ _ _ _=>cT) (fun _ _ _ _=>(iJ (bL hr.units) (iJ (bL hr.units) (zx zl (zt G7 hr dz (za (pv 2) (za (pv 3) (za (pv 0) zc)))) zd (fun _ _=>rfl)) zY (nomark _)) (zt IS hr dz (za (pv 1) (za (pv 0) zc))) (nomark _)))) zc)))))),(zE (by walk_at "r") (zE (by walk_at "r") (d8 (fD pS (zk (cX (cW zm) zC cY (aJ p8 (aJ p8 (aJ c8 (eJ (zk zm (zk zm (zk zm zH)))) aW) iE) (eJ (zk zm (zk zm zH))))) zH))))),fun xs S R q=>q⟩
theorem ED:Df P w K mg base "_law_whole" ["found"] 1 (spN ["found"] pD):=by
 exact Df.dN dd.a25 IL 0 rfl fun f z A outer s H E hr=>⟨_,_,(zj (zB (qK (zr eA (by rfl) T.n_isinstance zQ (za (pv 0) (za (eE rfl T.n_int qI (v:=.ty "int") rfl) zc))) (oW (wF (zr eA (by rfl) T.n_isinstance zQ (za (pv 0) (za (eE rfl T.n_bool tX (v:=.ty "bool") rfl) zc)))))))),(by walk_at "r"),fun xs S R q=>q⟩
theorem Ae:∀n,Df P w K mg base "_law_is_plan" ["drawing","measured","thing"] (2+n) (spN ["drawing","measured","thing"] (jU n))
 | 0=>Df.none dd.a26
 |n+1=>by
  have sG:=Ae  n;show Df P w K mg base "_law_is_plan" ["drawing","measured","thing"] (2+n+1) (spN ["drawing","measured","thing"] (jU (n+1)));exact Df.dN dd.a26 p6 3 rfl fun f z A outer s H E hr=>⟨_,_,(ze (aT (PW.pt (dY (dE (cR (zr eA (by rfl) T.n_isinstance zQ (za (pv 2) (za (eE rfl T.n_tuple hE (v:=.ty "tuple") rfl) zc))) (fun _=>rfl))) (dY (zI (qY hr.units) (zr zJ (by rfl) T.n_len bE (za (pv 2) zc)) (zL (za zd (za zd zc))) (by rfl)) (iM (dE (cR (zr eA (by rfl) T.n_isinstance zQ (za (zx zl (pv 2) zd (fun _ _=>rfl)) (za (eE rfl T.n_str Iy (v:=.ty "str") rfl) zc))) (fun _=>rfl))))))) (zj (zB b6)) zO) (ze (aT (zI (bL hr.units) (zr zJ (by rfl) T.n_len bE (za (pv 2) zc)) zd (nomark _)) (zj (zB (iJ (wW hr.units) (zx zl (pv 2) zd (fun _ _=>rfl)) (zL (za zY (za zY zc))) (by rfl)))) zO) (ze (aT (PW.pt (dY (zI (k7 hr.units) (zx zl (pv 2) zd (fun _ _=>rfl)) zY (nomark _)) (dY (dE (cR (zt ED hr yw (za (zx zl (pv 2) zd (fun _ _=>rfl)) zc)) (fun _=>rfl))) (iM (Ia true rfl T.n_range (zx zl (pv 2) zd (fun _ _=>rfl)) (za (zr zJ (by rfl) T.n_len bE (za (pv 0) zc)) zc)))))) (zj (zB b6)) zO) (ze (aT (PW.pt (dY (zI (wW hr.units) (zx zl (pv 2) zd (fun _ _=>rfl)) (pv 1) (by rfl)) (iM (dE (cR (zr eA (by rfl) T.n_isinstance zQ (za (zx zl (pv 2) zd (fun _ _=>rfl)) (za (eE rfl T.n_tuple hE (v:=.ty "tuple") rfl) zc))) (fun _=>rfl)))))) (zj (zB b6)) zO) (ze (gT (zx zl (pv 0) (zx zl (pv 2) zd (fun _ _=>rfl)) (fun _ _=>rfl)) (fJ (n:=3) rfl (zN (zw (i:=3) p6.nd rfl (gx rfl)) (zN (zw (i:=4) p6.nd rfl (gx rfl)) (zN (zw (i:=5) p6.nd rfl (gx rfl)) fF))))) (ze (aT (zI (k7 hr.units) (zr zJ (by rfl) T.n_len bE (za (zx zl (pv 2) zd (fun _ _=>rfl)) zc)) (zz zF (zz cL (pv 5) (pv 4)) zd) (nomark _)) (zj (zB b6)) zO) (zj (zB (zr (sK rfl) (by rfl) T.n_all uH (za (eH (fun _ _ h=>h) rfl (zX rfl rfl rfl rfl (N:=["one","drawing","measured","thing"]) (caps:=[none,some 0,some 1,some 2]) (by show bX ["drawing","measured","thing","name","low","high"] (zi r9).names _ _ _=true;decide +kernel)) (cC (zx zl (pv 2) zd (fun _ _=>rfl))) (fun _ _ _ _=>(zw (i:=0) (by show jv (["one","drawing","measured","thing"]:List Str);decide) rfl (gx rfl))) (fun _ _ _ _=>cT) (fun _ _ _ _=>(zt sG hr yw (za (pv 1) (za (zz zF (pv 2) (zP (za (zx zl (pv 3) zd (fun _ _=>rfl)) zc))) (za (pv 0) zc)))))) zc)))))))))),(zE (by walk_at "r") (zE (by walk_at "r") (zE (by walk_at "r") (zE (by walk_at "r") (zE (by walk_at "r") (zE (by walk_at "r") (d8 (fD pS (zk (cX (cW (aJ c8 zm aW)) zC cY (eJ (zk zm (zk (aJ cG zm (lV (zk (aJ c8 zm aW) zH))) (zk zm zH))))) zH))))))))),fun xs S R q=>q⟩
theorem sG:Df P w K mg base "_law_is_plan" ["drawing","measured","thing"] 162 (spN ["drawing","measured","thing"] w4):=Ae T dd  160
theorem G5:Df P w K mg base "_law_led" ["plan","drawing","one"] 1 (spN ["plan","drawing","one"] yA):=by
 exact Df.dN dd.a27 tS 1 rfl fun f z A outer s H E hr=>⟨_,_,(ze (zu (i:=3) tS.nd rfl lo (zP zc)) (ze (uL gl (zI (bL hr.units) (zr zJ (by rfl) T.n_len bE (za (pv 0) zc)) zd (nomark _)) (ze (dW (eC PySem.F.plainAttrs_list PySem.F.slot_list_append PySem.F.type_list_append iQ (pv 3) (za (zx zl (pv 0) zd (fun _ _=>rfl)) zc))) (zj (zu (i:=0) tS.nd rfl lo (zx zl (zx zl (pv 0) zd (fun _ _=>rfl)) (zz cL (zx zl (pv 2) (zx zl (pv 0) zd (fun _ _=>rfl)) (fun _ _=>rfl)) (zx zl (zx zl (pv 1) (zx zl (pv 0) zd (fun _ _=>rfl)) (fun _ _=>rfl)) zd (fun _ _=>rfl))) (fun _ _=>rfl)))))) (zj (zB (zL (za (pv 3) (za (zx zl (pv 0) zd (fun _ _=>rfl)) zc))))))),(wI (zE (rM (by walk_at "r")) (by walk_at "r"))),fun xs S R q=>q⟩
theorem E7:Df P w K mg base "_law_plan_right" ["drawing","gap","thing"] 163 (spN ["drawing","gap","thing"] pK):=by
 exact Df.dN dd.a28 yQ 1 rfl fun f z A outer s H E hr=>⟨_,_,(ze (aT (dE (cR (zt sG hr dz (za (pv 0) (za (zP zc) (za (pv 2) zc)))) (fun _=>rfl))) (zj (zB b6)) zO) (ze (dL gl rfl (cC (zt vG hr dz (za (pv 0) zc))) (zw (i:=3) yQ.nd rfl (gx rfl)) (zj (aT (zI (k7 hr.units) (iJ (bL hr.units) (zx zl (zt G5 hr dz (za (pv 2) (za (pv 0) (za (pv 3) zc)))) zd (fun _ _=>rfl)) zY (nomark _)) (zt wO hr dz (za (pv 1) (za (pv 3) zc))) (nomark _)) (zj (zB b6)) zO))) (zj (zB b6)))),(by walk_at "r"),fun xs S R q=>q⟩
theorem rQ:Df P w K mg base "_law_right" ["drawing","gap","thing"] 164 (spN ["drawing","gap","thing"] jT):=by
 exact Df.dN dd.a29 Aj 1 rfl fun f z A outer s H E hr=>⟨_,_,(ze (zu (i:=3) Aj.nd rfl lo (zt Hr hr dz (za (pv 0) (za (pv 1) (za (pv 2) zc))))) (zj (zB (qK (zr eA (by rfl) T.n_isinstance zQ (za (pv 3) (za (eE rfl T.n_bool tX (v:=.ty "bool") rfl) zc))) (oW (iJ (bL hr.units) (pv 3) (zt E7 hr dz (za (pv 0) (za (pv 1) (za (pv 2) zc)))) (nomark _))))))),(by walk_at "r"),fun xs S R q=>q⟩
theorem G6:Df P w K mg base "_law_bent" ["plan","drawing","pen"] 3 (spN ["plan","drawing","pen"] qA):=by
 exact Df.dN dd.a30 eQ 6 rfl fun f z A outer s H E hr=>⟨_,_,(ze (aT (zI (bL hr.units) (zr zJ (by rfl) T.n_len bE (za (pv 0) zc)) zd (nomark _)) (ze (zu (i:=3) eQ.nd rfl lo (Dq (Iu hr) (AL (Gy (CB zY zY (CB zY zY GT)) rfl rfl yv dz)) (zx zl (pv 0) zd (fun _ _=>rfl)) (fun _ _=>rfl))) (ze (zu (i:=4) eQ.nd rfl lo (zP (za (zL (za (pv 3) zc)) (za (zP (za (zx zl (pv 0) zd (fun _ _=>rfl)) zc)) (za (zL zc) (za qF (za (zx zl (pv 0) zd (fun _ _=>rfl)) (za (zL (za zY zc)) (za (zL (za (zx zl (pv 0) zd (fun _ _=>rfl)) (za zd zc))) (za (zL (za zd zc)) (za (zL (za zY (za zd (za (zL zc) zc)))) (za (zL (za qF zc)) zc)))))))))))) (zj (zB (zx zl (pv 4) (zt zy hr dz (za (pv 2) (za zd zc))) (fun _ _=>rfl)))))) zO) (ze (gT (pv 0) (fJ (n:=3) rfl (zN (zw (i:=5) eQ.nd rfl (gx rfl)) (zN (zw (i:=6) eQ.nd rfl (gx rfl)) (zN (zw (i:=7) eQ.nd rfl (gx rfl)) fF))))) (ze (zu (i:=8) eQ.nd rfl lo (zx zl (sW (bM (jL jF zd) (bM (zr zJ (by rfl) T.n_len bE (za (pv 1) zc)) (bM b6 (bM qF (bM zY (bM (zz fO (zz zF (pv 6) zd) (zr zJ (by rfl) T.n_len bE (za (pv 1) zc))) (bM (zL (za (pv 6) zc)) (bM (zz mI zd zd) fS))))))))) (zt zy hr dz (za (pv 2) (za zd zc))) (fun _ _=>rfl))) (ze (zu (i:=4) eQ.nd rfl lo (zP (za (zL (za (pv 5) (za (pv 8) (za (pv 7) zc)))) (za (zL (za (pv 5) (za (pv 6) (za (g9 B4 (by rfl) T.n_list rD (za (pv 7) zc)) zc)))) (za (zL (za (pv 5) (za (pv 6) (za (gO oU (pv 7) (fH zd) gS) zc)))) zc))))) (ze (zu (i:=4) eQ.nd rfl lo (zz mY (pv 4) (zP (za (zL (za (pv 5) (za (pv 6) (za (zz zF (pv 7) (gO oU (pv 7) gS (fH zd))) zc)))) (za (zL (za (pv 5) (za (pv 6) (za (DK (pv 7) (jL jF zd)) zc)))) zc))))) (ze (zu (i:=4) eQ.nd rfl lo (zz mY (pv 4) (zP (za (zL (za zY (za (pv 6) (za (pv 7) zc)))) (za (zL (za (pv 5) (za (pv 6) zc))) (za (g9 B4 (by rfl) T.n_list rD (za (pv 0) zc)) zc)))))) (ze (dW (eC PySem.F.plainAttrs_list PySem.F.slot_list_append PySem.F.type_list_append iQ (pv 4) (za (zL (za (pv 5) (za (pv 6) (za (zz HX (zL (za (pv 0) zc)) (zr zJ (by rfl) T.n_len bE (za (pv 7) zc))) zc)))) zc))) (zj (zB (zx zl (zz zF (pv 4) (zP (za (zx zl (pv 7) zd (fun _ _=>rfl)) zc))) (zt zy hr dz (za (pv 2) (za zd zc))) (fun _ _=>rfl))))))))))),(zE (gE (by walk_at "r") (zE (bT (v8 (Fp (vS (BJ FK)) (vS (by walk_at "r")))) zC) (by walk_at "r")) jO) (by walk_at "r")),fun xs S R q=>q⟩
theorem Aq:∀n,Df P w K mg base "_law_spoilt" ["plan","drawing","pen"] (4+n) (spN ["plan","drawing","pen"] (zW n))
 | 0=>Df.none dd.a31
 |n+1=>by
  have tW:=Aq  n;show Df P w K mg base "_law_spoilt" ["plan","drawing","pen"] (4+n+1) (spN ["plan","drawing","pen"] (zW (n+1)));exact Df.dN dd.a31 iW 5 rfl fun f z A outer s H E hr=>⟨_,_,(ze (aT (PW.pt (dY (zI (bL hr.units) (zr zJ (by rfl) T.n_len bE (za (pv 0) zc)) zd (nomark _)) (iM (zI (bL hr.units) (zt zy hr yw (za (pv 2) (za zd zc))) zd (nomark _))))) (zj (zB (zt G6 hr yw (za (pv 0) (za (pv 1) (za (pv 2) zc)))))) zO) (ze (zu (i:=3) iW.nd rfl lo (zt zy hr yw (za (pv 2) (za (zr zJ (by rfl) T.n_len bE (za (zx zl (pv 0) zd (fun _ _=>rfl)) zc)) zc)))) (ze (gT (pv 0) (fJ (n:=3) rfl (zN (zw (i:=4) iW.nd rfl (gx rfl)) (zN (zw (i:=5) iW.nd rfl (gx rfl)) (zN (zw (i:=6) iW.nd rfl (gx rfl)) fF))))) (ze (zu (i:=7) iW.nd rfl lo (zt tW hr yw (za (zx zl (pv 6) (pv 3) (fun _ _=>rfl)) (za (pv 1) (za (pv 2) zc))))) (zj (zB (zL (za (pv 4) (za (pv 5) (za (zz zF (zz zF (gO oU (pv 6) gS (fH (pv 3))) (zL (za (pv 7) zc))) (gO oU (pv 6) (fH (zz zF (pv 3) zd)) gS)) zc)))))))))),(by walk_at "r"),fun xs S R q=>q⟩
theorem tW:Df P w K mg base "_law_spoilt" ["plan","drawing","pen"] 164 (spN ["plan","drawing","pen"] xE):=Aq T dd  160
theorem ok_law{f:Addr}{fd:px}(F:Fun K "law" "law" s_law f fd):FnOk P w K mg base CX0 165 f fd ["script"] (sp1 (rP K)):=by
 refine F.ok1 fV (fun v=>[some v,none,none,none,none,none,none,none]) (fun _=>rfl) fun aa A outer s H v Q E hr h=>?_;obtain⟨a,ns,rfl,hS,z,q⟩:=h;refine⟨_,(ze (dL gl rfl (GZ (zz mY (zP (za (GO Hi hr dz (pv 0) zd) zc)) (gO AJ (pv 0) (fH zd) (fH zd)))) (zw (i:=1) fV.nd rfl (gx rfl)) (ze (zu (i:=2) fV.nd rfl lo (zt Gr hr dz (za (pv 1) zc))) (ze (zu (i:=3) fV.nd rfl (qy rfl) (zt GL hr dz (za (pv 2) (za zd zc)))) (ze (zu (i:=4) fV.nd rfl (qy rfl) (zt FU hr dz (za (pv 2) (za (pv 3) zc)))) (ze (zu (i:=5) fV.nd rfl lo (zt sS hr dz (za (pv 2) (za (pv 3) (za (pv 4) (za (zP zc) (za (zt vG hr dz (za (pv 3) zc)) (za zd zc)))))))) (ze (aT (dE (cR (zt rQ hr dz (za (pv 3) (za (pv 4) (za (pv 5) zc)))) (fun _=>rfl))) (zj (zB b6)) zO) (IJ (dL gl rfl (eP rfl T.n_range (za zd zc)) (zw (i:=6) fV.nd rfl (gx rfl)) (zj (aT (dE (cR (zt rQ hr dz (za (pv 3) (za (pv 4) (za (zt tW hr dz (za (pv 5) (za (pv 3) (za (pv 2) zc)))) zc)))) (fun _=>rfl))) (zj (zB b6)) zO))) (EG (HN (i:=7) fV.nd rfl (gx rfl) (oH (QE.mk qF) (oH (QE.mk zY) (oH (QE.mk zd) (uT (rF fS) (Gf (Ie fS) (Gg (QE.mk (AL Dw)) (uT (rF (oH (QE.mk zY) fS)) (uT (rF (oH (QE.mk zY) fS)) fS))))))))) (QSs.mk (zj (aT (dE (cR (zr (sK rfl) (by rfl) T.n_all uH (za (eH (fun _ _ h=>h) rfl (zX rfl rfl rfl rfl (N:=["thing","drawing","gap"]) (caps:=[none,some 3,some 4]) (by show bX ["script","cell","pen","drawing","gap","plan","turn","things"] (zi s_law).names _ _ _=true;decide +kernel)) (cC (pv 7)) (fun _ _ _ _=>(zw (i:=0) (by show jv (["thing","drawing","gap"]:List Str);decide) rfl (gx rfl))) (fun _ _ _ _=>cT) (fun _ _ _ _=>(zt rQ hr dz (za (pv 1) (za (pv 2) (za (pv 0) zc)))))) zc)) (fun _=>rfl))) (zj (zB b6)) zO))))))))))) (zj (zB b6))),?_⟩;exact EC (m:=7) (db:=tK) (zE (bT (eJ (zk zm zH)) zC) (zE (bT (iK (i:=0) (zk zm (zk aW zH))) zC) (zE (bT (iK (i:=0) (zk zm (zk zm zH))) zC) (zE (bT (iK (i:=0) (zk zm (zk zm (zk zm (zk (lV zH) (zk (eJ (zk zm zH)) (zk aW zH))))))) zC) (zE (gE (lU (jC (eJ (zk zm (zk zm (zk zm zH)))))) (d8 lO) jO) (zE (gW (f6 (zk aW zH)) zC (gE (lU (jC (eJ (zk zm (zk zm (zk (iK (i:=2) (zk zm (zk zm (zk zm zH)))) zH)))))) (d8 lO) jO)) (zE (bT (lV (zk Bq (zk iE (zk aW (zk (gD zH) (zk (lV zH) (zk xQ (zk (gD (zk iE zH)) (zk (gD (zk iE zH)) zH))))))))) zC) (gE (lU (jC (fD pS (zk (cX (cW zm) zC cY (eJ (zk zm (zk zm (zk zm zH))))) zH)))) (d8 lO) jO)))))))) rfl rfl hS z (fun n=>Gk a n) dz fun _ H2 _=>q H2
end
end My
theorem Hd:L2.tabsG=[]:=rfl
namespace PySem.W.Fast
def tw8893874343560374607:Unit:=()
def tw6444716620267206865:Unit:=()
def tw11124580594232053804:Unit:=()
def tw15911517485990770428:Unit:=()
def tw368500887161568880:Unit:=()
def tw1506651006846419922:Unit:=()
def tw8986890684804724930:Unit:=()
def tw13335139974104449110:Unit:=()
def tw12552948133601952622:Unit:=()
def tw11178932218340754972:Unit:=()
def tw648543915766269387:Unit:=()
def tw2998699032511047637:Unit:=()
def tw15389526604885745360:Unit:=()
def tw13546793096955174056:Unit:=()
def tw17071409881745969320:Unit:=()
def tw2826499324871622851:Unit:=()
def tw10895794910852815045:Unit:=()
def tw4020993002953177219:Unit:=()
def tw10588919941854797329:Unit:=()
def tw8822792723404495054:Unit:=()
def tw157634779241577515:Unit:=()
def tw2421949945393559739:Unit:=()
def tw17759556782520835182:Unit:=()
def tw5423080605741121980:Unit:=()
def tw5251742253282140741:Unit:=()
def tw6836302615584450550:Unit:=()
def tw5938700170943234789:Unit:=()
def tw2189023487384698375:Unit:=()
def tw729825461155219439:Unit:=()
def tw6667721535999737143:Unit:=()
def tw12047503164908227051:Unit:=()
def tw3401926958813883715:Unit:=()
def tw15197856335057410629:Unit:=()
def tw13021633201017777288:Unit:=()
def tw7517669019654907703:Unit:=()
def tw12711678106011566921:Unit:=()
def tw5805752824184887887:Unit:=()
def tw5997036446721832924:Unit:=()
def tw5928722709452531303:Unit:=()
def tw10378555051492166263:Unit:=()
def tw3380408931846004993:Unit:=()
def tw14808362569384857599:Unit:=()
def tw11643115773273162964:Unit:=()
def tw940328511671314452:Unit:=()
def tw13120779665830575683:Unit:=()
def tw1465022963735848546:Unit:=()
def tw18079253860389950908:Unit:=()
def tw8154783394223034529:Unit:=()
def tw17263517423727652258:Unit:=()
def tw5338867486915838759:Unit:=()
def tw4996428326464473756:Unit:=()
def tw9115815730569657032:Unit:=()
def tw11395987069597037371:Unit:=()
def tw5213231430329985402:Unit:=()
def tw15949124310316014767:Unit:=()
def tw15036979997157169953:Unit:=()
def tw4965354158072433843:Unit:=()
def tw7818472215653683943:Unit:=()
def tw16871164639258616350:Unit:=()
def tw2965505087445107796:Unit:=()
def tw8420267144406552910:Unit:=()
def tw14089126956905682557:Unit:=()
def tw17336727103078808679:Unit:=()
def tw10138970425840715686:Unit:=()
def tw15667841083087496525:Unit:=()
def tw12224827222510877886:Unit:=()
def tw16827803564077571915:Unit:=()
def tw2033605524617240341:Unit:=()
def tw4222160007037663083:Unit:=()
def tw9375306932295631681:Unit:=()
def tw5064749021282532429:Unit:=()
def tw3859364372017453764:Unit:=()
def tw17698137003495019464:Unit:=()
def tw6956270570682127485:Unit:=()
def tw2882471715543162503:Unit:=()
def tw12157830822161984318:Unit:=()
def tw17385486870995968882:Unit:=()
def tw925981124720378838:Unit:=()
def tw284818972611456021:Unit:=()
def tw15792101601501106394:Unit:=()
def tw13843624171454991815:Unit:=()
def tw17188838193970797141:Unit:=()
def tw4970517729540671825:Unit:=()
def tw13940782022551606314:Unit:=()
def tw12830209615696888456:Unit:=()
def tw17028565936413567689:Unit:=()
def tw16390942627307185064:Unit:=()
def tw6294024924627762497:Unit:=()
def tw8059262898093480445:Unit:=()
def tw15862779776588388974:Unit:=()
def tw16011129708226463703:Unit:=()
def tw10377448896819786663:Unit:=()
def tw7633918406043786255:Unit:=()
def tw7023314855490279346:Unit:=()
def tw11494059093509680082:Unit:=()
def tw11258253796971654188:Unit:=()
def tw11141268753846039764:Unit:=()
def tw13699583276487547020:Unit:=()
def tw17301699742619565115:Unit:=()
def tw12634215227906439611:Unit:=()
def tw3266194674531531681:Unit:=()
end PySem.W.Fast
open PySem PySem.W PyProof.Rows L2
set_option maxRecDepth 100000 in
set_option maxHeartbeats 0 in
theorem PySem.Challenge.cw_gaugewright_k58_plans_by_anybody_holds : PySem.Challenge.rw_gaugewright_k58_plans_by_anybody.Holds := by
 w_on;o_law;k_head;(case hw=>w_witness2)
 k_fill
 refine L2.walk_law (l := PySem.Challenge.rw_gaugewright_k58_plans_by_anybody) (k := 165) rfl rfl ⟨rfl, by decide, by decide⟩ (fun w h Y => W.kIn_of Y) (fun w h Y => L2.TabsOk.none Hd) ?F
 case F=>
  intro w mg fa h KX G hmg;have d_law:Dd (L2.KOf KX) mg "law" My.s_law ["script"]:=by
   dsimp only[L2.KOf];refine' Dd.mk' KX G ?a ?l ?c ?k ?b
   (case a=>k_is);(case l=>k_is);(case c=>k_is);(case k=>k_is);(case b=>intro _ _ _ _ _ _ us hl;obtain⟨_,rfl⟩:=L2.len1 hl;rfl)
  have g14:∃t,mg "MOST_SETS" = some (.int 300 t):=by
   apply Exists.intro;apply W.mg_of KX G
   k_is
  have T:My.Txt mg:=by
   refine' ⟨jt KX G ?z0,jt KX G ?z1,jt KX G ?z2,jt KX G ?z3,jt KX G ?z4,jt KX G ?z5,jt KX G ?z6,jt KX G ?z7,jt KX G ?z8,jt KX G ?z9,jt KX G ?z10,jt KX G ?z11,jt KX G ?z12,jt KX G ?z13,g14⟩
   (case z0=>k_is);(case z1=>k_is);(case z2=>k_is);(case z3=>k_is);(case z4=>k_is);(case z5=>k_is);(case z6=>k_is);(case z7=>k_is);(case z8=>k_is);(case z9=>k_is);(case z10=>k_is);(case z11=>k_is);(case z12=>k_is);(case z13=>k_is)
  have dd:My.Dds (L2.KOf KX) mg:=by constructor<;>first|(dsimp only[L2.KOf];refine' Dd.mk' KX G ?a ?l ?c ?k ?b;(case a=>k_is);(case l=>k_is);(case c=>k_is);(case k=>k_is);(case b=>(intro _ _ _ _ _ _ us hl;first|(obtain⟨_,rfl⟩:=L2.len1 hl;rfl)|(obtain⟨_,_,rfl⟩:=L2.len2 hl;rfl)|(obtain⟨_,_,_,rfl⟩:=L2.len3 hl;rfl)|(obtain⟨_,_,_,_,_,_,rfl⟩:=L2.len6 hl;rfl))))|(dsimp only[L2.KOf];refine' L2.TupG.mk' KX G ?a ?l;(case a=>k_is);(case l=>k_is))
  obtain⟨f,fd,F,hm,_⟩:=d_law.ex;have e0:=hmg.symm.trans hm;cases e0;exact⟨fd,F.bind1 fun _ _ _ _ _ _ _=>rfl,fun base _ _=>My.ok_law T dd F⟩
#print axioms PySem.Challenge.cw_gaugewright_k58_plans_by_anybody_holds
end