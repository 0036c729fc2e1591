import PyProof.Rows.All
import Wide.All
import OpenK.AllK
import Wide.FinOn
import Lean
import PyProof.EqAt
import PyProof.EqKinds
import PyProof.TupleCall
import KE.KTupSum
import KE.KSortTup
import PyProof.SetKind
import PyProof.SetRoads
import PyProof.SetNew
import PyProof.DictKinds
import PyProof.NsDelKeeps
import PyProof.StrWalks
import KE.KEqDict
import KE.KDictList
import PyProof.AttrMissSeq
import PyProof.WalksMore
import KE.KDictOf
import PyProof.Rows.Range3
import KE.KItemsList
import PyProof.FactsAll.dict_3
import KE.KMinKey
import PyProof.Rows.CallKwBuiltin
import PyProof.TupleOfSeq
import KE.KLam
import KE.KNestM
import PyProof.Rows.StrNews
import KE.KIntText
import PyProof.TupleKey
import PyProof.DictFindH
import PyProof.DictRoadsH
import PyProof.DictItems
import PyProof.Rows.TupTab
import Wide.Seal
import PyProof.DictValues
import PyProof.Rows.SortRev
import PySem.Challenge.RW_gaugewright_k52_whole_groups_and_matchin
open Array renaming toList_append→jc,length_toList→li,toList_extract→nj,getElem?_toList→rh
open Bool renaming false_eq_true→fg,false_ne_true→ji,and_eq_true→jw
open False renaming elim→oy
open ForInStep renaming yield→pp
open List renaming mem_of_getElem?→bt,replicate→bu,getElem?_eq_getElem→ca,mem_append_left→cn,mem_cons_of_mem→cz,size_toArray→df,length_map→dh,getD_eq_getElem?_getD→dw,mem_append_right→fc,length_cons→ff,getElem?_concat_length→fh,mem_cons_self→fu,length_append→fv,map_cons→fw,append_assoc→fy,range→ga,getElem?_map→gg,getElem?_append_left→gk,drop_eq_getElem_cons→gv,eq_nil_of_length_eq_zero→ie,Nodup→iq,length_range→iu,length_singleton→je,map_map→jn,take_append_drop→jo,map_append→jq,take_of_length_le→jt,length_take→ju,extract_eq_take_drop→jv,append_nil→kc,replicate_succ→kq,toArray→kr,getElem?_cons_zero→lf,getElem?_cons_succ→lg,length_drop→ln,mem_map_of_mem→lq,lookup_cons→mn,all_eq_true→mv,nodup_nil→mw,getElem?_eq_none→nc,map_congr_left→nl,getElem?_set_self→oe,foldl→pf,pairwise_map→pi,mem_of_mem_drop→pk,getElem?_drop→qc,find?_cons_of_neg→qd,reverse_perm→qf,nodup_cons→qk,getElem?_range→ql,flatten_cons→qp,mem_cons→qr,mem_singleton→qt,pairwise_cons→qu,getElem?_set_ne→qy,mem_of_mem_take→qz,pairwise_append→rf,find?_cons→rn,length→rp,not_mem_nil→rz
open List.Perm renaming of_eq→qa
open List.cons renaming injEq→re
open Nat renaming le_refl→cu,ne_of_lt→ik,lt_of_lt_of_le→ix,le_of_lt→ko,le_trans→lm,zero_le→nq,lt_irrefl→nv,add_zero→qw,lt_succ_of_lt→qx
open Nat.succ renaming inj→sf
open Ne renaming symm→kj
open Option.some renaming inj→gz,injEq→qe
open Or renaming inl→ip
open PyProof.Rows renaming wpS_bind→bv,wpS_pure→bx,arrOf→bz,Keyed→cq,pendingOf→cr,SortSt→gu,wpS_forRange→ig,seqObj→ir,wpS_mono→kh,callWith_type1→km,wpS_modify→lh,setArr→nr,IntsAre→oo,SortKind→pz,failedOf→qv,wpS_get→rg,get?_update_seq→rj,envOfC→si
open PySem renaming Value→bn,wpAny_bind→bo,PyData→bp,Shared→bq,wpAny_pure→cm,wpAny→cw,sizeLine→cx,starEach→fq,Program→fx,wpAny_holding→ic,World→io,bootBuiltins→iy,Around→iz,compareOp→jg,sizeLine_eq→jp,wpAny_pyIter_list→jy,wpAny_newObj_type→jz,wpAny_callSpecial?_slot→ke,wpAny_field→ku,backTo→ky,binaryOp→lc,wpAny_call_entry→ld,wpAny_truthy_bool→lu,sysModules→ly,assignEach→lz,mainGlobals→me,wpAny_Call_Name_kw→ng,wpAny_passesOwn→ny,wpAny_ite_false→nz,NameKind→oh,wpAny_pyIter_enum→ol,wpAny_rule→on,wpAny_tryCatch→ou,wpAny_mono→ox,wpAny_setField_rec→ph,FuncData→pj,keywordEach→qi,call_meets→qj,wpAny_seqItems→qm,Builtin→rc,codeAny_builtin→rk,sliceBounds→rq
open PySem.Builtin.SmallTypes renaming nextOf→jh
open PySem.F renaming plain_min_loop→ki
open PySem.Heap renaming get?_push_of_some→bw,get?_push_size→fj,lt_size→gh,SameBut→jr,get?_update_other→lv
open PySem.Heap.SameBut renaming update→kt
open PySem.Obj renaming mapSeq→im
open PySem.PassesOwn renaming never→iw
open PySem.PyData renaming int→cf,canLayAll0→lw,eqv→om,canLay0→oq,depthAll→px,list→sj
open PySem.SeqAt renaming shaped→gp,canLay_of_shaped→jb
open PySem.Str renaming ofString→gx
open PySem.Value renaming ref→gm,none→qg,int→qo
open PySem.W renaming Frag→cy,mg_none_of→jx,kia_one→qb
open True renaming intro→pc
def ci:=@if_neg
def ck:=@if_pos
def gn:=@decide_eq_false
def gq:=@decide_eq_true
def jf:=@of_decide_eq_true
theorem yw{p:Prop}(h:p:=by omega):p:=h
theorem yv{p:Prop}(h:p:=by simp):p:=h
open Option (isSome_iff_exists isSome_map map_eq_some_iff map_some)
open Nat (add_zero le_of_lt le_refl le_succ le_trans lt_irrefl lt_of_lt_of_le lt_succ_of_lt min_eq_left mul_comm ne_of_gt ne_of_lt succ_ne_self zero_add zero_le)
open List (all_cons all_eq_true all_map any_cons any_eq_true append_assoc append_inj_left' append_nil cons_append drop_eq_getElem_cons drop_length eq_nil_of_length_eq_zero extract_eq_take_drop find?_cons find?_cons_of_neg find?_some flatten_cons getD_eq_getElem?_getD getElem?_append_left getElem?_concat_length getElem?_cons_succ getElem?_cons_zero getElem?_drop getElem?_eq_getElem getElem?_eq_none getElem?_map getElem?_range getElem?_set_ne getElem?_set_self getElem?_take getElem_mem length_append length_cons length_drop length_map length_nil length_range length_set length_singleton length_take lookup_cons map_append map_congr_left map_cons map_drop map_id map_id' map_map map_nil map_take mem_append mem_append_left mem_append_right mem_cons mem_cons_of_mem mem_cons_self mem_filter mem_iff_getElem? mem_map mem_map_of_mem mem_of_getElem? mem_of_mem_drop mem_of_mem_take mem_range mem_reverse mem_singleton nil_append nodup_append nodup_cons nodup_nil not_mem_nil of_mem_zip pairwise_append pairwise_cons pairwise_map replicate_succ set_cons_succ set_cons_zero size_toArray sum_cons take_add_one take_append_drop take_of_length_le take_zero)
open PySem.Heap (get?_push_of_some get?_push_size get?_update_other get?_update_self lt_size size_push)
open Array (getElem?_toList length_toList toList_append toList_extract)
theorem dz{p:Prop}[Decidable p](h:decide p=true:=by rfl):p:=jf h
set_option Elab.async false
set_option linter.all false
set_option maxRecDepth 100000
set_option maxHeartbeats 8000000
noncomputable section
namespace L2
open PySem PySem.Spec PyProof.Rows
section
abbrev Key:=Sum Int Str
def j5:Key->bn->Bool
 | .inl k,v=>Value.isInt k v
 | .inr x,v=>Value.isStrOf x v
def FX(w:io):Key->Int
 | .inl k=>hashInt k
 | .inr x=>hashStr w x
theorem fP:∀{k:Key}{v:bn},j5 k v=true->(∃i t,k=Sum.inl i/\v=qo i t)\/(∃x t,k=Sum.inr x/\v=Value.str x t)
 | .inl i,v,h=>by
  obtain⟨t,e⟩:=Value.isInt_shape (k:=i) (v:=v) h;exact .inl ⟨i,t,rfl,e⟩
 | .inr x,v,h=>by
  obtain⟨t,e⟩:=Value.isStrOf_shape (x:=x) (v:=v) h;exact .inr ⟨x,t,rfl,e⟩
theorem Fu(i:Int)(t:Tok):j5 (.inl i) (.int i t)=true:=by simp[j5,Value.isInt]
theorem Hc(x:Str)(t:Tok):j5 (.inr x) (.str x t)=true:=by simp[j5,Value.isStrOf]
theorem G8(a b:Int):decide ((Sum.inl a:Key)=Sum.inl b)=(a==b):=by
 by_cases e:a=b
 ·subst e;simp
 ·have h:¬(Sum.inl a:Key)=Sum.inl b:=fun q=>e (Sum.inl.inj q);rw[gn h];exact(beq_eq_false_iff_ne.mpr e).symm
theorem Jt(a b:Str):decide ((Sum.inr a:Key)=Sum.inr b)=decide (a=b):=by
 by_cases e:a=b
 ·subst e;simp
 ·have h:¬(Sum.inr a:Key)=Sum.inr b:=fun q=>e (Sum.inr.inj q);rw[gn h,gn e]
theorem Hi(a:Int)(b:Str):decide ((Sum.inl a:Key)=Sum.inr b)=false:=gn (fun q=>nomatch q)
theorem E3(a:Str)(b:Int):decide ((Sum.inr a:Key)=Sum.inl b)=false:=gn (fun q=>nomatch q)
def cI(prog:fx)(w:io):PySem.KeyKind prog w Key where
 is:=j5
 hash:=FX w
 inj:=fun v a b ha hb=>by
  rcases fP ha with ⟨i,t,rfl,rfl⟩|⟨x,t,rfl,rfl⟩
  ·rcases fP hb with ⟨j,u,rfl,e⟩|⟨y,u,rfl,e⟩
   ·injection e with e1 _;rw[e1]
   ·exact nomatch e
  ·rcases fP hb with ⟨j,u,rfl,e⟩|⟨y,u,rfl,e⟩
   ·exact nomatch e
   ·injection e with e1 _;rw[e1]
 byValue:=fun k v h=>by
  rcases fP h with ⟨i,t,rfl,rfl⟩|⟨x,t,rfl,rfl⟩<;>rfl
 pyHash:=fun hv h=>by
  rcases fP hv with ⟨i,t,rfl,rfl⟩|⟨x,t,rfl,rfl⟩
  ·exact wpAny_pyHash_int h
  ·exact wpAny_pyHash_str h
 eqBool:=fun hu hv h=>by
  rcases fP hu with ⟨i,t,rfl,rfl⟩|⟨x,t,rfl,rfl⟩
  ·rcases fP hv with ⟨j,u,rfl,rfl⟩|⟨y,u,rfl,rfl⟩
   ·rw[G8]at h;exact wpAny_eqBool_int h
   ·rw[Hi]at h;exact SeqAt.EqAt.int_str i t y u _ _ _ _ h
  ·rcases fP hv with ⟨j,u,rfl,rfl⟩|⟨y,u,rfl,rfl⟩
   ·rw[E3]at h;exact SeqAt.EqAt.str_int x t j u _ _ _ _ h
   ·rw[Jt]at h;exact wpAny_eqBool_str h
 «strs»:=fun k x t v h=>by
  rcases fP h with ⟨i,u,rfl,e⟩|⟨y,u,rfl,e⟩
  ·exact nomatch e
  ·injection e with e1 _
   subst e1;cases v<;>rfl
theorem EW(prog:fx)(w:io)(i:Int)(t:Tok):(cI prog w).is (.inl i) (.int i t)=true:=Fu i t
theorem HZ(prog:fx)(w:io)(x:Str)(t:Tok):(cI prog w).is (.inr x) (.str x t)=true:=Hc x t
end
section
inductive V where
 |non|bl (b:Bool)|int (i:Int)|str (x:Str)|byt (b:Array UInt8)|flt (b:UInt64)|ref (a:Addr)|ty (n:String)
 deriving DecidableEq
def RelV:V->bn->Prop
 | .non,u=>u=qg
 | .bl b,u=>u=Value.bool b
 | .int i,u=>∃t,u=qo i t
 | .str x,u=>∃t,u=Value.str x t
 | .byt b,u=>∃t,u=Value.bytes b t
 | .flt b,u=>∃t,u=Value.float b t
 | .ref a,u=>u=gm a
 | .ty n,u=>u=Value.type n
abbrev Vals:List V->List bn->Prop:=Paired RelV
theorem Vals.length{xs:List V}{us:List bn}(r:Vals xs us):xs.length=us.length:=Paired.length r
theorem Vals.get:∀{xs:List V}{us:List bn}{i:Nat}{x:V},Vals xs us->xs[i]?=some x->∃u,us[i]?=some u/\RelV x u
 |_,_,_,_,.nil,e=>by simp at e
 |_,_,0,_,.cons r _,e=>by simp at e;subst e;exact⟨_,rfl,r⟩
 |_,_,i+1,x,.cons _ t,e=>by
  obtain⟨u,h1,h2⟩:=Vals.get (i:=i) (x:=x) t (by simpa using e);exact⟨u,by simpa using h1,h2⟩
theorem Vals.set{x:V}{u:bn}(r:RelV x u):∀{xs:List V}{us:List bn} (i:Nat),Vals xs us->Vals (xs.set i x) (us.set i u)
 |_,_,_,.nil=>.nil
 |_,_,0,.cons _ t=>.cons r t
 |_,_,i+1,.cons q t=>.cons q (Vals.set r i t)
theorem Vals.append:∀{xs ys:List V}{us ws:List bn},Vals xs us->Vals ys ws->Vals (xs++ys) (us++ws)
 |_,_,_,_,.nil,s=>s
 |_,_,_,_,.cons r t,s=>.cons r (Vals.append t s)
theorem Vals.take:∀{xs:List V}{us:List bn} (n:Nat),Vals xs us->Vals (xs.take n) (us.take n)
 |_,_,0,_=>.nil
 |_,_,_+1,.nil=>.nil
 |_,_,n+1,.cons r t=>.cons r (Vals.take n t)
theorem Vals.drop:∀{xs:List V}{us:List bn} (n:Nat),Vals xs us->Vals (xs.drop n) (us.drop n)
 |_,_,0,r=>r
 |_,_,_+1,.nil=>.nil
 |_,_,n+1,.cons _ t=>Vals.drop n t
def RelO:Option V->Option bn->Prop
 |some v,some u=>RelV v u
 |none,none=>True
 |_,_=>False
def KV{κ:Type}:List (κ×V)->List (κ×bn)->Prop:=Paired fun(p:κ×V) (q:κ×bn)=>p.1=q.1/\RelV p.2 q.2
def kV:Key->V
 | .inl i=>.int i
 | .inr x=>.str x
inductive HO where
 |lst (xs:List V)
 |tup (xs:List V)
 |dK (kvs:List (Key×V))|dT (kvs:List (List Key×V))
 |set (S:Int->Bool) (n:Nat)
 |ins (C dx:Addr) (fs:List (Str×V))
 |own (x:Addr)
 |xd (fs:List (Str×V))
 |met (f x:Addr)
 |rng (lo hi:Int)
 |frz (o:Obj) (u:HO)
 |tbl (ps:Array bn)
 |ext (φ:Heap->Prop)
abbrev Hp:=Addr->Option HO
def upd(H:Hp)(a:Addr)(o:HO):Hp:=fun b=>if b=a then some o else H b
theorem b8{H:Hp}{a:Addr}{o:HO}:upd H a o a=some o:=by unfold upd;rw[ck rfl]
theorem zB{H:Hp}{a b:Addr}{o:HO}(h:b≠a):upd H a o b=H b:=by unfold upd;rw[ci h]
theorem IT{H:Hp}{a b:Addr}{o u:HO}(h:H a=some o)(h':H b=some u)(d:o≠u):a≠b:=by
 intro e;subst e;rw[h]at h';exact d (gz h')
theorem zK{H:Hp}{a b:Addr}{o:HO}(h:H a=some o)(h':H b=none):a≠b:=by
 intro e;subst e;rw[h]at h';cases h'
def TblOk(H:Hp)(ps qs:Array bn):Prop:=qs = #[]\/∃(l c:bn) (q:Str) (t:Tok) (k:Addr) (oc:Obj) (vs:Array bn) (t':Tok),ps = #[l,c,.str q t]/\qs = #[l,c,.ref k]/\H k=some (.frz oc (.own 0))/\oc.data=.fields vs/\vs[1]?=some (.str q t')
theorem TblOk.stay{H H':Hp}{ps qs:Array bn}(x:TblOk H ps qs)(hf:∀b o u,H b=some (.frz o u)->H' b=some (.frz o u)):TblOk H' ps qs:=by
 rcases x with x|⟨l,c,q,t,k,oc,vs,t',e1,e2,e3,r⟩
 ·exact .inl x
 ·exact .inr ⟨l,c,q,t,k,oc,vs,t',e1,e2,hf _ _ _ e3,r⟩
section
variable (P:fx) (w:io)
def ObjOk(H:Hp)(h:Heap)(a:Addr):HO->Prop
 | .lst xs=>xs.length<=cx/\∃(its:List bn) (n:Nat),Vals xs its/\h.get? a=some { cls:=.type "list",data:=.seq its.toArray n }
 | .tup xs=>(xs.length<=cx/\∃o:Obj,h.get? a=some o/\o.dict=none)/\∃its:List bn,Vals xs its/\IsTup h a its.toArray
 | .dK kvs=>kvs.length<=cx/\(a==ly)=false/\∃vs,KV kvs vs/\h.DictOf (cI P w) a vs
 | .dT kvs=>kvs.length<=cx/\(a==ly)=false/\∃xs:List (List Key×Addr×bn),
   Paired (fun(p:List Key×V) (q:List Key×Addr×bn)=>p.1=q.1/\H q.2.1=some (.tup (p.1.map kV))/\RelV p.2 q.2.2) kvs xs /\
   ∃o es ep,h.get? a=some o/\o.ExactDict/\o.data=.dict es ep/\es.toList=xs.map (entryOfKey (tupleKind (cI P w)))/\(xs.map (·.1)).Nodup
 | .set S n=>h.SetOf (intKind P w) a S n
 | .ins C dx fs=>H dx=some (.own a)/\fs.length<=1000/\dx≠a/\h.get? a=some (W.instObj C dx) /\
   ∃mA,h.Ns1 dx mA/\(∀f,RelO (fs.lookup f) (mA f))/\PySem.Within mA (fs.map (·.1))
 | .own _=>∃o,h.get? a=some o
 | .xd fs=>∃mA,h.Ns1 a mA/\∀f,RelO (fs.lookup f) (mA f)
 | .rng lo hi=>∃t u v,h.get? a=some { cls:=.type "range",data:=.fields #[.int lo t,.int hi u,.int 1 v] }
 | .frz o u=>h.get? a=some o/\ObjOk H h a u
 | .tbl ps=>∃qs:Array bn,h.get? a=some { cls:=.none,data:=.fields qs }/\TblOk H ps qs
 | .met f x=>h.get? a=some (W.methodObj (.ref f) (.ref x))
 | .ext φ=>φ h/\(∃o,h.get? a=some o)/\∀h1 h2:Heap,φ h1->(∀o,h1.get? a=some o->h2.get? a=some o)->φ h2
def HOk(H:Hp)(h:Heap):Prop:=∀a o,H a=some o->ObjOk P w H h a o
end
section
variable {P:fx}{w:io}{H H':Hp}{h h':Heap}{a:Addr}{o:HO}
theorem ObjOk.lt(x:ObjOk P w H h a o):a<h.objs.size:=by
 cases o with
 |lst xs=>obtain⟨_,_,_,_,e⟩:=x;exact gh e
 |tup xs=>obtain⟨_,_,_,p⟩:=x;exact p.lt
 |dK kvs=>obtain⟨_,_,_,_,o,_,_,e,_⟩:=x;exact gh e
 |dT kvs=>obtain⟨_,_,_,_,o,_,_,e,_⟩:=x;exact gh e
 |set S n=>obtain⟨o,_,_,_,e,_⟩:=x;exact gh e
 |ins C dx fs=>obtain⟨_,_,_,e,_⟩:=x;exact gh e
 |own y=>obtain⟨_,e⟩:=x;exact gh e
 |xd fs=>obtain⟨_,⟨_,_,_,e,_⟩,_⟩:=x;exact gh e
 |rng lo hi=>obtain⟨_,_,_,e⟩:=x;exact gh e
 |frz ob u=>obtain⟨e,_⟩:=x;exact gh e
 |tbl ps=>obtain⟨_,e,_⟩:=x;exact gh e
 |met f y=>exact gh (show h.get? a=some _ from x)
 |ext φ=>obtain⟨_,⟨_,e⟩,_⟩:=x;exact gh e
theorem Paired.mapP{α β:Type}{F G:α->β->Prop}:∀{l₁:List α}{l₂:List β},Paired F l₁ l₂->(∀a b,F a b->G a b)->Paired G l₁ l₂
 |_,_,.nil,_=>.nil
 |_,_,.cons r t,f=>.cons (f _ _ r) (Paired.mapP t f)
theorem ObjOk.stay(x:ObjOk P w H h a o)(k:∀b u,(b=a\/H b=some (.own a))->h.get? b=some u->h'.get? b=some u)
  (ho:∀b,H b=some (.own a)->H' b=some (.own a)) (ht:∀b xs,H b=some (.tup xs)->H' b=some (.tup xs))
  (hf:∀b o u,H b=some (.frz o u)->H' b=some (.frz o u):=by first|exact fun _ _ _ q=>q|(intro b o u q;rw[zB (zK q (by assumption))];exact q)):ObjOk P w H' h' a o:=by
 induction o with
 |lst xs=>obtain⟨z,aa,n,r,e⟩:=x;exact⟨z,aa,n,r,k _ _ (.inl rfl) e⟩
 |tup xs=>obtain⟨⟨z,o2,e2,d2⟩,aa,r,ob,e,c⟩:=x;exact⟨⟨z,o2,k _ _ (.inl rfl) e2,d2⟩,aa,r,ob,k _ _ (.inl rfl) e,c⟩
 |dK kvs=>obtain⟨z,y,vs,r,ob,es,ep,e,c⟩:=x;exact⟨z,y,vs,r,ob,es,ep,k _ _ (.inl rfl) e,c⟩
 |dT kvs=>
  obtain⟨z,y,xs,r,ob,es,ep,e,c⟩:=x;exact⟨z,y,xs,Paired.mapP r fun p q z=>⟨z.1,ht _ _ z.2.1,z.2.2⟩,ob,es,ep,k _ _ (.inl rfl) e,c⟩
 |set S n=>obtain⟨ob,es,ep,t,e,c⟩:=x;exact⟨ob,es,ep,t,k _ _ (.inl rfl) e,c⟩
 |ins C dx fs=>
  obtain⟨d,z,ne,e,mA,⟨od,es,ep,e2,c⟩,r⟩:=x;exact⟨ho _ d,z,ne,k _ _ (.inl rfl) e,mA,⟨od,es,ep,k _ _ (.inr d) e2,c⟩,r⟩
 |own y=>obtain⟨ob,e⟩:=x;exact⟨ob,k _ _ (.inl rfl) e⟩
 |xd fs=>obtain⟨mA,⟨od,es,ep,e,c⟩,r⟩:=x;exact⟨mA,⟨od,es,ep,k _ _ (.inl rfl) e,c⟩,r⟩
 |rng lo hi=>obtain⟨t,u,v,e⟩:=x;exact⟨t,u,v,k _ _ (.inl rfl) e⟩
 |frz ob u ih=>obtain⟨e,q⟩:=x;exact⟨k _ _ (.inl rfl) e,ih q⟩
 |tbl ps=>
  obtain⟨qs,e,q⟩:=x;exact⟨qs,k a _ (.inl rfl) e,q.stay hf⟩
 |met f y=>
  have e:h.get? a=some (W.methodObj (.ref f) (.ref y)):=x;show h'.get? a=some (W.methodObj (.ref f) (.ref y));exact k a _ (.inl rfl) e
 |ext φ=>obtain⟨p,⟨o,e⟩,st⟩:=x;exact⟨st _ _ p fun o q=>k _ _ (.inl rfl) q,⟨o,k _ _ (.inl rfl) e⟩,st⟩
theorem HOk.lt(x:HOk P w H h)(e:H a=some o):a<h.objs.size:=(x a o e).lt
theorem HOk.fresh(x:HOk P w H h)(e:h.objs.size<=a):H a=none:=by
 cases q:H a with
 |none=>rfl
 |some u=>exact absurd (ix (x.lt q) e) (nv _)
theorem HOk.kept(x:HOk P w H h)(k:∀b u,h.get? b=some u->h'.get? b=some u):HOk P w H h':=fun a o e=>
 (x a o e).stay (fun b u _ q=>k b u q) (fun _ q=>q) fun _ _ q=>q
theorem HOk.laid(x:HOk P w H h)(k:∀b u,h.get? b=some u->h'.get? b=some u)(hp:h.objs.size<=a)(y:ObjOk P w (upd H a o) h' a o):HOk P w (upd H a o) h':=fun b u e=>by
 have hn:=x.fresh hp;by_cases hb:b=a
 ·subst hb;rw[b8]at e;cases e;exact y
 ·rw[zB hb]at e;exact(x b u e).stay (fun c v _ q=>k c v q) (fun c q=>by rw[zB (zK q hn)];exact q) fun c xs q=>by rw[zB (zK q hn)];exact q
end
def Rd(H:Hp)(a:Addr)(u:HO):Prop:=H a=some u\/∃o,H a=some (.frz o u)
theorem Rd.ok{P:fx}{w:io}{H:Hp}{h:Heap}{a:Addr}{u:HO}(r:Rd H a u)(x:HOk P w H h):ObjOk P w H h a u:=by
 rcases r with r|⟨o,r⟩
 ·exact x a u r
 ·obtain⟨_,q⟩:=x a _ r;exact q
def Mut:Option HO->Prop
 |some (.lst _)=>True
 |some (.dK _)=>True
 |some (.dT _)=>True
 |some (.set _ _)=>True
 |some (.ins _ _ _)=>True
 |some (.ext _)=>True
 |_=>False
section
variable {P:fx}{w:io}{H:Hp}{h h':Heap}{x e:Addr}{o':HO}
theorem HOk.write(ok:HOk P w H h)(mu:Mut (H x))(he:e=x\/H e=some (.own x))(k:∀b u,b≠e->h.get? b=some u->h'.get? b=some u)(ae:∃u,h'.get? e=some u)
  (new:ObjOk P w (upd H x o') h' x o'):HOk P w (upd H x o') h':=fun b u q=>by
 have aa:∀c y,H c=some (.own y)->c≠x:=fun c y r z=>by subst z;rw[r]at mu;exact mu
 have ac:∀c xs,H c=some (.tup xs)->c≠x:=fun c xs r z=>by subst z;rw[r]at mu;exact mu
 have ab:∀c o u,H c=some (.frz o u)->c≠x:=fun c o u r z=>by subst z;rw[r]at mu;exact mu
 by_cases hb:b=x
 ·subst hb;rw[b8]at q;cases q;exact new
 ·rw[zB hb]at q;by_cases hbe:b=e
  ·have q':H b=some (.own x):=by
    rcases he with z|z
    ·exact absurd (hbe.trans z) hb
    ·rw[hbe];exact z
   rw[q]at q';cases q';obtain⟨v,hv⟩:=ae;exact⟨v,by rw[hbe];exact hv⟩
  ·refine(ok b u q).stay (fun c v hc r=>k c v ?_ r) (fun c r=>by rw[zB (aa c b r)];exact r) (fun c xs r=>by rw[zB (ac c xs r)];exact r) fun c o u r=>by rw[zB (ab c o u r)];exact r
   rcases hc with rfl|hc
   ·exact hbe
   ·rintro rfl;rcases he with z|z
    ·exact aa c b hc z
    ·rw[hc]at z;cases z;exact hb rfl
end
structure Un(fs ex:List Addr)(H H':Hp)(h h':Heap):Prop where
 keep:∀b o,h.get? b=some o->H b=none->b∉fs->b∉ex->h'.get? b=some o
 slot:∀b o,h.get? b=some o->H b=none->b∈fs->b∉ex->∃sl,h'.get? b=some { o with slots:=sl }
 free:∀b o,h.get? b=some o->H b=none->b∉ex->H' b=none
 there:∀b o,h.get? b=some o->b∉ex->∃o',h'.get? b=some o'
 tups:∀b xs,H b=some (.tup xs)->H' b=some (.tup xs)
 frzs:∀b o u,H b=some (.frz o u)->H' b=some (.frz o u)
 tbls:∀b ps,H b=some (.tbl ps)->H' b=some (.tbl ps)
section
variable {fs fs' ex ex':List Addr}{H H1 H2:Hp}{h h1 h2 h':Heap}{a x e:Addr}{o:HO}
theorem Un.any(u:Un fs ex H H1 h h1){b:Addr}{ob:Obj}(q:h.get? b=some ob)(n:H b=none)(hx:b∉ex):∃sl,h1.get? b=some { ob with slots:=sl }:=by
 by_cases hb:b∈fs
 ·exact u.slot b ob q n hb hx
 ·exact⟨ob.slots,u.keep b ob q n hb hx⟩
theorem Un.trans(a:Un fs ex H H1 h h1)(b:Un fs ex H1 H2 h1 h2):Un fs ex H H2 h h2 where
 keep:=fun c ob q n hc hx=>b.keep c ob (a.keep c ob q n hc hx) (a.free c ob q n hx) hc hx
 slot:=fun c ob q n hc hx=>by
  obtain⟨sl,e1⟩:=a.slot c ob q n hc hx;obtain⟨y,e2⟩:=b.slot c _ e1 (a.free c ob q n hx) hc hx;exact⟨y,e2⟩
 free:=fun c ob q n hx=>by
  obtain⟨o',e1⟩:=a.there c ob q hx;exact b.free c o' e1 (a.free c ob q n hx) hx
 there:=fun c ob q hx=>by
  obtain⟨o',e1⟩:=a.there c ob q hx;exact b.there c o' e1 hx
 tups:=fun c xs q=>b.tups c xs (a.tups c xs q)
 frzs:=fun c ob xs q=>b.frzs c ob xs (a.frzs c ob xs q)
 tbls:=fun c ps q=>b.tbls c _ (a.tbls c ps q)
theorem Un.kept(k:∀b u,h.get? b=some u->h'.get? b=some u):Un fs ex H H h h':=
 ⟨fun b ob q _ _ _=>k b ob q,fun b ob q _ _ _=>⟨ob.slots,k b ob q⟩,fun _ _ _ n _=>n,fun b ob q _=>⟨ob,k b ob q⟩,fun _ _ q=>q,fun _ _ _ q=>q,fun _ _ q=>q⟩
theorem Un.refl:Un fs ex H H h h:=Un.kept fun _ _ q=>q
theorem Un.laid(k:∀b u,h.get? b=some u->h'.get? b=some u)(hp:h.objs.size<=a)(hn:H a=none):Un fs ex H (upd H a o) h h' where
 keep:=fun b u q _ _ _=>k b u q
 slot:=fun b u q _ _ _=>⟨u.slots,k b u q⟩
 free:=fun b u q n _=>by rw[zB (ik (ix (gh q) hp))];exact n
 there:=fun b u q _=>⟨u,k b u q⟩
 tups:=fun b xs q=>by rw[zB (zK q hn)];exact q
 frzs:=fun b u xs q=>by rw[zB (zK q hn)];exact q
 tbls:=fun b ps q=>by rw[zB (zK q hn)];exact q
theorem Un.write(mu:Mut (H x))(he:e=x\/H e=some (.own x))(k:∀b u,b≠e->h.get? b=some u->h'.get? b=some u)(y:∃u,h'.get? e=some u):Un fs ex H (upd H x o) h h':=by
 have hx:∀b,H b=none->b≠x:=fun b n z=>by subst z;rw[n]at mu;exact mu
 have hb:∀b,H b=none->b≠e:=fun b n z=>by
  subst z;rcases he with r|r
  ·exact hx b n r
  ·rw[n]at r;cases r
 have hm:∀b u,H b=some u->¬ Mut (some u)->b≠x:=fun b u q nm z=>by subst z;rw[q]at mu;exact nm mu
 refine⟨fun b u q n _ _=>k b u (hb b n) q,fun b u q n _ _=>⟨u.slots,k b u (hb b n) q⟩,fun b u q n _=>by rw[zB (hx b n)];exact n,fun b u q _=>?_,
  fun b xs q=>by rw[zB (hm b _ q fun z=>z)];exact q,fun b u xs q=>by rw[zB (hm b _ q fun z=>z)];exact q,fun b ps q=>by rw[zB (hm b _ q fun z=>z)];exact q⟩
 by_cases hbe:b=e
 ·subst hbe;exact y
 ·exact⟨u,k b u hbe q⟩
theorem Un.mono(u:Un fs ex H H1 h h1)(hs:∀b∈fs,b∈fs')(hx:∀b∈ex,b∈ex'):Un fs' ex' H H1 h h1:=
 ⟨fun b ob q n hb he=>u.keep b ob q n (fun z=>hb (hs b z)) fun z=>he (hx b z),fun _ _ q n _ he=>u.any q n fun z=>he (hx _ z),fun b ob q n he=>u.free b ob q n fun z=>he (hx b z),fun b ob q he=>u.there b ob q fun z=>he (hx b z),u.tups,u.frzs,u.tbls⟩
end
def trk(h:Heap)(H:Hp):List Addr:=(ga h.objs.size).filter fun a=>(H a).isSome
def fL(h:Heap)(H:Hp):Heap:=W.hideAll h (trk h H)
theorem J8(h:Heap)(H:Hp):(fL h H).objs.size=h.objs.size:=W.hideAll_size _ _
theorem Iq{h:Heap}{H:Hp}{b:Addr}{o:Obj}(e:h.get? b=some o)(n:H b=none):(fL h H).get? b=some o:=
 W.hideAll_get _ e fun hm=>by
  have q:(H b).isSome=true:=(mem_filter.mp hm).2;rw[n]at q;simp at q
theorem KP{h:Heap}{H:Hp}{b:Addr}{o:Obj}(e:(fL h H).get? b=some o):h.get? b=some o/\H b=none:=by
 have e':h.get? b=some o:=W.of_hideAll (trk h H) e;refine⟨e',?_⟩;cases q:H b with
 |none=>rfl
 |some x=>
  have hm:b∈trk h H:=mem_filter.mpr ⟨mem_range.mpr (gh e'),by simp[q]⟩;have z:(fL h H).get? b=none:=W.hideAll_none (trk h H) hm;rw[z]at e;cases e
def Ka(g h:Heap)(L:Addr):List (Addr×Obj):=(ga h.objs.size).filterMap fun a=>if a=L\/(g.get? a).isSome=true then none else (h.get? a).map fun o=>(a,o)
def rest(g h:Heap)(L d:Addr):List (Addr×Obj):=(Ka g h L).filter fun p=>decide (p.1≠d)
end
section
def tabsG:List ((Addr×Addr)×Array bn):=[]
def BltAt(base:Heap)(mg:Str->Option bn):Prop:=∃bm ob,mg "__builtins__" = some (.ref bm)/\bm≠builtinsNs/\base.get? bm=some ob/\ob.cls=.type "module"/\ob.dict=some builtinsNs/\ob.data=.plain
structure Frf(fs:List Addr)(H:Hp):Prop where
 free:∀b∈fs,H b=none
 tab:∀q∈tabsG,H q.1.2=some (.tbl q.2)
structure Mod(K:cy)(mg:Str->Option bn)(base:Heap):Prop where
 kin:K.In base
 glob:base.Ns me mg
 blt:∃mb,base.Ns builtinsNs mb/\∀x:Str,x ≠ "__name__"->mb x=iy x
 nolimit:base.NoLimit
 bm:BltAt base mg
 hd:∀q∈tabsG,W.CodeHd base q.1.1 q.1.2
structure Cx where
 prog:fx
 w:io
 K:cy
 mg:Str->Option bn
 base:Heap
 A:iz
 N:List Str
 s₀:bq
 H₀:Hp
 env:Env
 outer:List Env
 stack:List Env
 ex:List Addr
 fn:Str->Bool
 calm:Bool
 pn:List (Addr×Obj)
 xe:bn->bq->Prop
def frs(l:List Env):List Addr:=l.filterMap (·.frame)
abbrev Cx.fs (X:Cx):List Addr:=frs X.outer
def Vis(sc:Scope)(x:Str):Prop:=sc.names.lookup x=some .local\/sc.names.lookup x=some .cell\/sc.names.lookup x=some .free
def Loc(sc:Scope)(x:Str):Prop:=sc.names.lookup x=some .local\/sc.names.lookup x=some .cell
def Look(env:Env)(h:Heap)(m:Str->Option bn)(x:Str)(u:bn):Prop:=
 (env.kindOf x=some .local/\m x=some u)\/((env.kindOf x=some .cell\/env.kindOf x=some .free)/\∃c,env.cells.lookup x=some c/\h.IsCell c (some u))
structure Cx.Ok(X:Cx):Prop where
 mod:Mod X.K X.mg X.base
 kind:X.env.scope.kind=.function
 glob:X.env.globals=me
 blt:X.env.builtins=builtinsNs
 above:X.s₀.heap.objs.size<=X.env.locals
 inj:∀x y c,X.env.cells.lookup x=some c->X.env.cells.lookup y=some c->x=y
 has:∀x,(X.env.kindOf x=some .cell\/X.env.kindOf x=some .free)->∃c,X.env.cells.lookup x=some c
 cab:∀x c,X.fn x=true->X.env.cells.lookup x=some c->X.s₀.heap.objs.size<=c
 hd:X.calm=true->X.A.handled=none
 frames:X.A.frames=some X.stack
 stk:X.stack=X.outer\/(X.stack=X.env::X.outer/\X.env.frame=some X.env.locals)
 exf:∀b∈X.ex,b≠X.env.locals/\∀x c,X.env.cells.lookup x=some c->c≠b
 bs:∀b o,X.base.get? b=some o->X.s₀.heap.get? b=some o/\X.H₀ b=none
 bsz:X.base.objs.size<=X.s₀.heap.objs.size
 noex:∀b o,X.base.get? b=some o->b∉X.ex
 exfs:∀b∈X.ex,b∉X.fs
 funs:X.s₀.heap.FunFrames X.base X.outer
 frf:Frf X.fs X.H₀
structure Inv(X:Cx)(ze:List (Addr×Obj))(σ:List (Option V))(H:Hp)(s:bq):Prop where
 ok:X.Ok
 os:s.os=X.s₀.os
 bare:AllBare s.gens
 base:Un X.fs X.ex X.H₀ H X.s₀.heap s.heap
 loc:∃m,s.heap.Ns X.env.locals m/\∀(i:Nat) (x:Str) (v:V),X.N[i]?=some x->σ[i]?=some (some v)->Vis X.env.scope x->∃u,RelV v u/\Look X.env s.heap m x u
 cell:∀x c,X.env.cells.lookup x=some c->∃v,s.heap.IsCell c v
 free:H X.env.locals=none
 freeC:∀x c,X.env.cells.lookup x=some c->H c=none
 pin:∀p∈X.pn++ze,s.heap.get? p.1=some p.2/\H p.1=none/\p.1≠X.env.locals/\p.1∉X.fs/\∀v,p.2.data≠.cell v
 hok:HOk X.prog X.w H s.heap
 len:σ.length=X.N.length
section
variable {X:Cx}{ze:List (Addr×Obj)}{σ:List (Option V)}{H H':Hp}{s:bq}{h':Heap}
theorem Cx.Ok.nofr(ok:X.Ok){b:Addr}{o:Obj}(e:X.base.get? b=some o):b∉X.fs:=fun hb=>by
 have:=(ok.funs.mem hb).1;rw[e]at this;cases this
theorem Inv.bs(I:Inv X ze σ H s):∀b o,X.base.get? b=some o->s.heap.get? b=some o/\H b=none:=fun b o e=>
 ⟨I.base.keep b o (I.ok.bs b o e).1 (I.ok.bs b o e).2 (I.ok.nofr e) (I.ok.noex b o e),I.base.free b o (I.ok.bs b o e).1 (I.ok.bs b o e).2 (I.ok.noex b o e)⟩
theorem Inv.bk(I:Inv X ze σ H s):∀b o,X.base.get? b=some o->s.heap.get? b=some o:=fun b o e=>(I.bs b o e).1
theorem Inv.mod(I:Inv X ze σ H s):Mod X.K X.mg X.base:=I.ok.mod
theorem Inv.kIn(I:Inv X ze σ H s):X.K.In s.heap:=I.ok.mod.kin.keeps I.bk
theorem Inv.lt(I:Inv X ze σ H s):X.env.locals<s.heap.objs.size:=let ⟨_,hn,_⟩:=I.loc;hn.lt
theorem Inv.sz(I:Inv X ze σ H s):X.s₀.heap.objs.size<=s.heap.objs.size:=lm I.ok.above (ko I.lt)
theorem Inv.nofs(I:Inv X ze σ H s){a:Addr}(h:s.heap.objs.size<=a):a∉X.fs:=fun hb=>by
 obtain⟨_,o,ho,_⟩:=I.ok.funs.mem hb;exact absurd (ix (gh ho) (lm I.sz h)) (nv _)
theorem Inv.cne(I:Inv X ze σ H s):∀x c,X.env.cells.lookup x=some c->c≠X.env.locals:=fun x c e z=>by
 obtain⟨v,o,ho,hd⟩:=I.cell x c e;obtain⟨m,⟨o',es,ep,q,y,_⟩,_⟩:=I.loc;rw[z,q]at ho;cases ho;rw[y]at hd;cases hd
theorem Inv.funs(I:Inv X ze σ H s):s.heap.FunFrames X.base X.outer:=by
 have q:∀(l:List Env),(∀b∈frs l,b∈X.fs)->X.s₀.heap.FunFrames X.base l->s.heap.FunFrames X.base l:=by
  intro l;induction l with
  |nil=>intro _ _;trivial
  |cons env r ih=>
   intro hs hl;obtain⟨hk,⟨L,o,hf,hn,ho,hd⟩,hr⟩:=hl;have hL:L∈X.fs:=hs L (by unfold frs;rw[List.filterMap_cons,hf];exact fu);obtain⟨sl,e⟩:=I.base.slot L o ho (I.ok.frf.free L hL) hL fun z=>I.ok.exfs L z hL;exact⟨hk,⟨L,_,hf,hn,e,hd⟩,ih (fun b hb=>hs b (by unfold frs;rw[List.filterMap_cons,hf];exact cz _ hb)) hr⟩
 exact q X.outer (fun _ hb=>hb) I.ok.funs
theorem Inv.stack(I:Inv X ze σ H s):s.heap.FunFrames X.base X.stack:=by
 rcases I.ok.stk with e|⟨e,hf⟩
 ·rw[e];exact I.funs
 ·rw[e];obtain⟨m,hn,_⟩:=I.loc;refine .cons (by rw[I.ok.kind];decide) hf hn ?_ I.funs;exact Heap.get?_none_of_le (lm I.ok.bsz I.ok.above)
theorem Inv.stkSub(I:Inv X ze σ H s):∀b∈frs X.stack,b∈X.env.locals::X.fs:=fun b hb=>by
 rcases I.ok.stk with e|⟨e,hf⟩
 ·rw[e]at hb;exact cz _ hb
 ·rw[e]at hb;unfold frs at hb;rw[List.filterMap_cons,hf]at hb;exact hb
theorem Inv.stkFree(I:Inv X ze σ H s):Frf (frs X.stack) H:=⟨fun b hb=>by
 rcases mem_cons.mp (I.stkSub b hb)with e|hb
 ·rw[e];exact I.free
 ·obtain⟨_,o,ho,_⟩:=I.ok.funs.mem hb;exact I.base.free b o ho (I.ok.frf.free b hb) fun z=>I.ok.exfs b z hb,fun q hq=>I.base.tbls _ _ (I.ok.frf.tab q hq)⟩
theorem Inv.step{g':Array GenState}{t':Nat}{d':Drawn}{ch:List Addr}(I:Inv X ze σ H s)
  (hch:∀b∈ch,(b∈X.ex\/X.s₀.heap.objs.size<=b)/\b≠X.env.locals/\(∀x c,X.env.cells.lookup x=some c->c≠b)/\∀p∈X.pn++ze,p.1≠b)
  (keep:∀b o,b≠X.env.locals->b∉X.fs->b∉ch->s.heap.get? b=some o->H b=none->h'.get? b=some o)
  (slot:∀b o,b≠X.env.locals->b∈X.fs->b∉ch->s.heap.get? b=some o->H b=none->∃sl,h'.get? b=some { o with slots:=sl }) (free:∀b o,b∉ch->s.heap.get? b=some o->H b=none->H' b=none)
  (there:∀b o,b∉ch->s.heap.get? b=some o->∃o',h'.get? b=some o')
  (tups:∀b xs,H b=some (.tup xs)->H' b=some (.tup xs)) (frzs:∀b o u,H b=some (.frz o u)->H' b=some (.frz o u)) (tbls:∀b ps,H b=some (.tbl ps)->H' b=some (.tbl ps))
  (ns:∀m,s.heap.Ns X.env.locals m->h'.Ns X.env.locals m) (hok:HOk X.prog X.w H' h') (hg:AllBare g'):
  Inv X ze σ H' { s with heap:=h',gens:=g',drawn:=d',toks:=t' }:=by
 have ac:∀b o,X.s₀.heap.get? b=some o->b≠X.env.locals:=fun b o e=>ik (ix (gh e) I.ok.above);have ab:∀b o,X.s₀.heap.get? b=some o->b∉X.ex->b∉ch:=fun b o e hx hb=>by
  rcases(hch b hb).1 with z|z
  ·exact hx z
  ·exact absurd (ix (gh e) z) (nv _)
 have aa:∀x c,X.env.cells.lookup x=some c->∀v,s.heap.IsCell c v->h'.IsCell c v:=fun x c e v ⟨o,ho,hd⟩=>by
  have y:c∉ch:=fun z=>(hch c z).2.2.1 x c e rfl;by_cases hc:c∈X.fs
  ·obtain⟨sl,q⟩:=slot c o (I.cne x c e) hc y ho (I.freeC x c e);exact⟨_,q,hd⟩
  ·exact⟨o,keep c o (I.cne x c e) hc y ho (I.freeC x c e),hd⟩
 refine⟨I.ok,I.os,hg,⟨fun b o e n hb hx=>?_,fun b o e n hb hx=>?_,fun b o e n hx=>?_,fun b o e hx=>?_,fun b xs e=>tups b xs (I.base.tups b xs e),fun b o xs e=>frzs b o xs (I.base.frzs b o xs e),fun b ps e=>?_⟩,?_,fun x c e=>?_,?_,fun x c e=>?_,fun p hp=>?_,hok,I.len⟩
 ·exact keep b o (ac b o e) hb (ab b o e hx) (I.base.keep b o e n hb hx) (I.base.free b o e n hx)
 ·obtain⟨sl,e1⟩:=I.base.slot b o e n hb hx;obtain⟨ae,e2⟩:=slot b _ (ac b o e) hb (ab b o e hx) e1 (I.base.free b o e n hx);exact⟨ae,e2⟩
 ·obtain⟨o',e1⟩:=I.base.there b o e hx;exact free b o' (ab b o e hx) e1 (I.base.free b o e n hx)
 ·obtain⟨o',e1⟩:=I.base.there b o e hx;exact there b o' (ab b o e hx) e1
 ·exact tbls b _ (I.base.tbls b ps e)
 ·obtain⟨m,hn,hl⟩:=I.loc;refine⟨m,ns m hn,fun i x v e1 e2 e3=>?_⟩;obtain⟨u,r,l⟩:=hl i x v e1 e2 e3;refine⟨u,r,?_⟩;rcases l with l|⟨k,c,e,z⟩
  ·exact .inl l
  ·exact .inr ⟨k,c,e,aa x c e _ z⟩
 ·obtain⟨v,z⟩:=I.cell x c e;exact⟨v,aa x c e v z⟩
 ·obtain⟨m,⟨o,_,_,ho,_⟩,_⟩:=I.loc;exact free _ o (fun z=>(hch _ z).2.1 rfl) ho I.free
 ·obtain⟨v,o,ho,hd⟩:=I.cell x c e;exact free c o (fun z=>(hch c z).2.2.1 x c e rfl) ho (I.freeC x c e)
 ·obtain⟨e,n,ne,nf,d⟩:=I.pin p hp;have y:p.1∉ch:=fun z=>(hch p.1 z).2.2.2 p hp rfl;exact⟨keep p.1 p.2 ne nf y e n,free p.1 p.2 y e n,ne,nf,d⟩
theorem Inv.un{t':Nat}(I:Inv X ze σ H s)(u:Un X.fs [] H H' s.heap h')(hok:HOk X.prog X.w H' h'):Inv X ze σ H' { s with heap:=h',toks:=t' }:=by
 obtain⟨m,⟨o,es,ep,ho,r⟩,_⟩:=id I.loc;obtain⟨sl,hL⟩:=u.any ho I.free yv;exact I.step (g':=s.gens) (d':=s.drawn) (ch:=[]) (fun _ z=>nomatch z) (fun b o _ hb _ e n=>u.keep b o e n hb yv) (fun b o _ hb _ e n=>u.slot b o e n hb yv) (fun b o _ e n=>u.free b o e n yv) (fun b o _ e=>u.there b o e yv) u.tups u.frzs u.tbls (fun m' hm=>by
  obtain⟨o',y,aa,q,r'⟩:=hm;rw[ho]at q;cases q;exact⟨_,y,aa,hL,r'⟩) hok I.bare
theorem Inv.call{g':Array GenState}{t':Nat}{d':Drawn}{ch:List Addr}(I:Inv X ze σ H s)(u:Un (frs X.stack) ch H H' s.heap h')(hok:HOk X.prog X.w H' h')(hg:AllBare g')
  (hch:∀b∈ch,(b∈X.ex\/X.s₀.heap.objs.size<=b)/\b≠X.env.locals/\(∀x c,X.env.cells.lookup x=some c->c≠b)/\∀p∈X.pn++ze,p.1≠b):
  Inv X ze σ H' { s with heap:=h',gens:=g',drawn:=d',toks:=t' }:=by
 obtain⟨m,⟨o,es,ep,ho,r⟩,_⟩:=id I.loc;obtain⟨sl,hL⟩:=u.any ho I.free fun z=>(hch _ z).2.1 rfl;exact I.step (ch:=ch) hch (fun b o hL hb hc e n=>u.keep b o e n (fun z=>(mem_cons.mp (I.stkSub b z)).elim hL hb) hc) (fun b o _ _ hc e n=>u.any e n hc) (fun b o hc e n=>u.free b o e n hc) (fun b o hc e=>u.there b o e hc) u.tups u.frzs u.tbls (fun m' hm=>by
  obtain⟨o',y,aa,q,r'⟩:=hm;rw[ho]at q;cases q;exact⟨_,y,aa,hL,r'⟩) hok hg
theorem Inv.turned{t':Nat}{it:Addr}(I:Inv X ze σ H s)(k:∀b o,b≠it->s.heap.get? b=some o->h'.get? b=some o)(hn:H it=none)(hL:it≠X.env.locals)
  (h1:it∈X.ex\/X.s₀.heap.objs.size<=it) (h2:∀x c,X.env.cells.lookup x=some c->c≠it) (h3:∀p∈X.pn++ze,p.1≠it):Inv X ze σ H { s with heap:=h',toks:=t' }:=by
 have y:∀b u,H b=some u->b≠it:=fun b u e z=>by rw[z,hn]at e;cases e
 refine I.step (g':=s.gens) (d':=s.drawn) (ch:=[it]) (fun b hb=>?_) (fun b o _ _ hc e _=>k b o (fun z=>hc (by simp[z])) e) (fun b o _ _ hc e _=>⟨o.slots,k b o (fun z=>hc (by simp[z])) e⟩) (fun _ _ _ _ n=>n)
  (fun b o hc e=>⟨o,k b o (fun z=>hc (by simp[z])) e⟩) (fun _ _ e=>e) (fun _ _ _ e=>e) (fun _ _ e=>e) (fun m hm=>?_) (fun b u e=>?_) I.bare
 ·have e:b=it:=by simpa using hb
  subst e;exact⟨h1,hL,h2,h3⟩
 ·obtain⟨o,es,ep,ho,r⟩:=hm;exact⟨o,es,ep,k _ o (kj hL) ho,r⟩
 ·refine(I.hok b u e).stay (fun c v hc q=>k c v ?_ q) (fun _ q=>q) fun _ _ q=>q;rcases hc with z|z
  ·rw[z];exact y b u e
  ·exact y c _ z
theorem Inv.tok(I:Inv X ze σ H s)(t:Nat):Inv X ze σ H { s with toks:=t }:=I.un (h':=s.heap) (t':=t) Un.refl I.hok
theorem Inv.kept{t':Nat}(I:Inv X ze σ H s)(k:∀b u,s.heap.get? b=some u->h'.get? b=some u):Inv X ze σ H { s with heap:=h',toks:=t' }:=I.un (Un.kept k) (I.hok.kept k)
theorem Inv.laid{a:Addr}{o:HO}{t':Nat}(I:Inv X ze σ H s)(k:∀b u,s.heap.get? b=some u->h'.get? b=some u)(hp:s.heap.objs.size<=a)(q:ObjOk X.prog X.w (upd H a o) h' a o):
  Inv X ze σ (upd H a o) { s with heap:=h',toks:=t' }:=I.un (Un.laid k hp (I.hok.fresh hp)) (I.hok.laid k hp q)
theorem Inv.write{x e:Addr}{o:HO}{t':Nat}(I:Inv X ze σ H s)(mu:Mut (H x))(he:e=x\/H e=some (.own x))(k:∀b u,b≠e->s.heap.get? b=some u->h'.get? b=some u)(q:∃u,h'.get? e=some u)
  (new:ObjOk X.prog X.w (upd H x o) h' x o):Inv X ze σ (upd H x o) { s with heap:=h',toks:=t' }:=I.un (Un.write mu he k q) (I.hok.write mu he k q new)
theorem Inv.pins_of{q:List (Addr×Obj)}(I:Inv X ze σ H s)(h:∀p∈q,s.heap.get? p.1=some p.2/\H p.1=none/\p.1≠X.env.locals/\p.1∉X.fs/\∀v,p.2.data≠.cell v):Inv X q σ H s:=
 ⟨I.ok,I.os,I.bare,I.base,I.loc,I.cell,I.free,I.freeC,fun p hp=>(mem_append.mp hp).elim (fun z=>I.pin p (cn _ z)) (h p),I.hok,I.len⟩
theorem Bc{N:List Str}(hN:N.Nodup){i j:Nat}{x:Str}(a:N[i]?=some x)(b:N[j]?=some x):i=j:=by
 obtain⟨h1,e1⟩:=List.getElem?_eq_some_iff.mp a;obtain⟨h2,e2⟩:=List.getElem?_eq_some_iff.mp b;exact(List.getElem_inj hN).mp (e1.trans e2.symm)
theorem Et{M:Model}{A:iz}{E:bn->bq->Prop}{i:Nat}{x:Str}{v:V}{u:bn}{Q:Unit->bq->Prop}(I:Inv X ze σ H s)(hN:X.N.Nodup)(hi:X.N[i]?=some x)(hx:Loc X.env.scope x)(r:RelV v u)
  (h:∀s',Inv X ze (σ.set i (some v)) H s'->(∃a,jr a s.heap s'.heap/\(a=X.env.locals\/X.env.cells.lookup x=some a))->Q () s') (hf:X.fn x=true\/X.env.scope.names.lookup x=some .local:=by first|exact .inl rfl|exact .inr rfl|assumption):cw M A (storeName X.env x u) Q E s:=by
 obtain⟨m,hn,hl⟩:=id I.loc;have af:(X.env.scope.kind==.class||(X.env.scope.kind==.module&&X.env.locals != X.env.globals))=false:=by rw[I.ok.kind];rfl
 have ag:i<σ.length:=by rw[I.len];exact(List.getElem?_eq_some_iff.mp hi).1
 have ae:=I.cne;have aa:∀{a:Addr}{h':Heap},(∃o,s.heap.get? a=some o/\H a=none)->jr a s.heap h'->HOk X.prog X.w H h':=fun {a h'} ha hs b ob e=>by
  obtain⟨_,_,ab⟩:=ha;refine(I.hok b ob e).stay (fun c w' hc q=>(hs.2 c ?_).trans q) (fun _ q=>q) fun _ _ q=>q;rintro rfl;rcases hc with rfl|hc
  ·rw[ab]at e;cases e
  ·rw[ab]at hc;cases hc
 rcases hx with hk|hk
 ·refine wpAny_storeName_local hk hn (fun h' ak hs=>?_) af;obtain⟨oL,_,_,al,_⟩:=id hn;refine h _ ⟨I.ok,I.os,I.bare,⟨fun b o e n hb hx=>?_,fun b o e n hb hx=>?_,I.base.free,fun b o e hx=>?_,I.base.tups,I.base.frzs,I.base.tbls⟩,⟨_,ak,fun j y v' e1 e2 e3=>?_⟩,fun y c e=>?_,I.free,I.freeC,fun p hp=>?_,aa ⟨oL,al,I.free⟩ hs,by simpa using I.len⟩ ⟨_,hs,.inl rfl⟩
  ·exact(hs.2 b (ik (ix (gh e) I.ok.above))).trans (I.base.keep b o e n hb hx)
  ·obtain⟨sl,e1⟩:=I.base.slot b o e n hb hx;exact⟨sl,(hs.2 b (ik (ix (gh e) I.ok.above))).trans e1⟩
  ·obtain⟨o',e1⟩:=I.base.there b o e hx;exact⟨o',(hs.2 b (ik (ix (gh e) I.ok.above))).trans e1⟩
  ·by_cases hj:j=i
   ·subst hj;rw[hi]at e1;cases e1;rw[oe ag]at e2;cases e2;exact⟨u,r,.inl ⟨hk,yv⟩⟩
   ·rw[qy (kj hj)]at e2;obtain⟨u',r',q⟩:=hl j y v' e1 e2 e3;refine⟨u',r',?_⟩;rcases q with ⟨k,e⟩|⟨k,c,e,z⟩
    ·refine .inl ⟨k,?_⟩;have:y≠x:=fun e=>hj (Bc hN e1 (e▸hi));simp[this,e]
    ·exact .inr ⟨k,c,e,z.sameBut hs (ae y c e)⟩
  ·obtain⟨w',z⟩:=I.cell y c e;exact⟨w',z.sameBut hs (ae y c e)⟩
  ·obtain⟨e,n,ne,nf,d⟩:=I.pin p hp;exact⟨(hs.2 p.1 ne).trans e,n,ne,nf,d⟩
 ·have ac:X.fn x=true:=by
   rcases hf with z|z
   ·exact z
   ·rw[z]at hk;cases hk
  obtain⟨c,hc⟩:=I.ok.has x (.inl hk);obtain⟨w',z⟩:=I.cell x c hc;refine wpAny_storeName_cell I.ok.kind hk hc z (fun h' ai hs=>?_);obtain⟨oc,ah,aj⟩:=id z;refine h { s with heap:=h' } ⟨I.ok,I.os,I.bare,⟨fun b o e n hb hx=>?_,fun b o e n hb hx=>?_,I.base.free,fun b o e hx=>?_,I.base.tups,I.base.frzs,I.base.tbls⟩,⟨m,hn.sameBut hs (kj (ae x c hc)),fun j y v' e1 e2 e3=>?_⟩,fun y c' e=>?_,I.free,I.freeC,fun p hp=>?_,aa ⟨oc,ah,I.freeC x c hc⟩ hs,by simpa using I.len⟩ ⟨c,hs,.inr hc⟩
  ·exact(hs.2 b (ik (ix (gh e) (I.ok.cab x c ac hc)))).trans (I.base.keep b o e n hb hx)
  ·obtain⟨sl,e1⟩:=I.base.slot b o e n hb hx;exact⟨sl,(hs.2 b (ik (ix (gh e) (I.ok.cab x c ac hc)))).trans e1⟩
  ·obtain⟨o',e1⟩:=I.base.there b o e hx;exact⟨o',(hs.2 b (ik (ix (gh e) (I.ok.cab x c ac hc)))).trans e1⟩
  ·by_cases hj:j=i
   ·subst hj;rw[hi]at e1;cases e1;rw[oe ag]at e2;cases e2;exact⟨u,r,.inr ⟨.inl hk,c,hc,ai⟩⟩
   ·rw[qy (kj hj)]at e2;obtain⟨u',r',q⟩:=hl j y v' e1 e2 e3;refine⟨u',r',?_⟩;rcases q with q|⟨k,c',e,z'⟩
    ·exact .inl q
    ·refine .inr ⟨k,c',e,z'.sameBut hs ?_⟩;rintro rfl;exact hj (Bc hN e1 (I.ok.inj _ _ _ e hc▸hi))
  ·by_cases hcc:c'=c
   ·subst hcc;exact⟨_,ai⟩
   ·obtain⟨w2,z2⟩:=I.cell y c' e;exact⟨w2,z2.sameBut hs hcc⟩
  ·obtain⟨e,n,ne,nf,d⟩:=I.pin p hp;refine⟨(hs.2 p.1 ?_).trans e,n,ne,nf,d⟩;intro q;rw[q,ah]at e;have q':oc=p.2:=gz e;exact d w' (by rw[<- q'];exact aj)
theorem sC{M:Model}{A:iz}{E:bn->bq->Prop}{i:Nat}{x:Str}{v:V}{u:bn}{Q:Unit->bq->Prop}(I:Inv X ze σ H s)(hN:X.N.Nodup)(hi:X.N[i]?=some x)(hx:Loc X.env.scope x)(r:RelV v u)
  (h:∀s',Inv X ze (σ.set i (some v)) H s'->Q () s') (hf:X.fn x=true\/X.env.scope.names.lookup x=some .local:=by first|exact .inl rfl|exact .inr rfl|assumption):cw M A (storeName X.env x u) Q E s:=
 Et I hN hi hx r (fun s' I' _=>h s' I') hf
theorem Inv.call'{s':bq}{ch:List Addr}(I:Inv X ze σ H s)(ho:s'.os=s.os)(u:Un (frs X.stack) ch H H' s.heap s'.heap)(hok:HOk X.prog X.w H' s'.heap)(hg:AllBare s'.gens)
  (hch:∀b∈ch,(b∈X.ex\/X.s₀.heap.objs.size<=b)/\b≠X.env.locals/\(∀x c,X.env.cells.lookup x=some c->c≠b)/\∀p∈X.pn++ze,p.1≠b):Inv X ze σ H' s':=by
 obtain⟨h',g',d',t',o'⟩:=s';have e:o'=s.os:=ho;subst e;exact I.call (g':=g') (t':=t') (d':=d') u hok hg hch
end
abbrev XK:=bn->Option Addr->Hp->Prop
abbrev St:=List (Option V)
abbrev VK:=V->Hp->Prop
abbrev TE:=St->Hp->VK->Prop
abbrev TT:=St->Hp->(Bool->Hp->Prop)->Prop
abbrev TA:=St->Hp->(List V->Hp->Prop)->Prop
structure Ends where
 nx:St->Hp->Prop
 rt:VK
 bk:St->Hp->Prop:=fun _ _=>False
 ct:St->Hp->Prop:=fun _ _=>False
abbrev TS:=Ends->St->Hp->Prop
def EP(X:Cx)(ze:List (Addr×Obj))(σ:St)(Q:VK)(u:bn)(s':bq):Prop:=∃v H',Inv X ze σ H' s'/\RelV v u/\Q v H'
def TP(X:Cx)(ze:List (Addr×Obj))(σ:St)(Q:Bool->Hp->Prop)(b:Bool)(s':bq):Prop:=∃H',Inv X ze σ H' s'/\Q b H'
def AP(X:Cx)(ze:List (Addr×Obj))(σ:St)(Q:List V->Hp->Prop)(us:List bn)(s':bq):Prop:=∃vs H',Inv X ze σ H' s'/\Vals vs us/\Q vs H'
def SP(X:Cx)(ze:List (Addr×Obj))(D:Ends)(f:Flow)(s':bq):Prop:=
 match f with
 | .next=>∃ σ' H',Inv X ze σ' H' s'/\D.nx σ' H'
 | .brk=>∃ σ' H',Inv X ze σ' H' s'/\D.bk σ' H'
 | .cont=>∃ σ' H',Inv X ze σ' H' s'/\D.ct σ' H'
 | .ret u=>∃v σ' H',Inv X ze σ' H' s'/\RelV v u/\D.rt v H'
def PE(X:Cx)(e:Expr)(t:TE):Prop:=
 ∀(ze:List (Addr×Obj)) (s:bq) (σ:St) (H:Hp) (Q:VK),Inv X ze σ H s->t σ H Q->cw (model X.prog X.w) X.A (eval e X.env) (EP X ze σ Q) X.xe s
def PT(X:Cx)(e:Expr)(t:TT):Prop:=
 ∀(ze:List (Addr×Obj)) (s:bq) (σ:St) (H:Hp) (Q:Bool->Hp->Prop),Inv X ze σ H s->t σ H Q->cw (model X.prog X.w) X.A (isTrue e X.env (eval e X.env)) (TP X ze σ Q) X.xe s
def PW(X:Cx)(e:Expr)(t:TT):Prop:=
 ∀(whole:Sem bn) (ze:List (Addr×Obj)) (s:bq) (σ:St) (H:Hp) (Q:Bool->Hp->Prop),Inv X ze σ H s->t σ H Q->cw (model X.prog X.w) X.A (isTrue e X.env whole) (TP X ze σ Q) X.xe s
theorem PW.pt{X:Cx}{e:Expr}{t:TT}(h:PW X e t):PT X e t:=h _
def PA(X:Cx)(es:List Expr)(t:TA):Prop:=
 ∀(pos:Pos) (ze:List (Addr×Obj)) (s:bq) (σ:St) (H:Hp) (Q:List V->Hp->Prop),Inv X ze σ H s->t σ H Q->cw (model X.prog X.w) X.A (spliced (ky pos (fq es X.env))) (AP X ze σ Q) X.xe s
def PS(X:Cx)(st:Stmt)(t:TS):Prop:=
 ∀(ze:List (Addr×Obj)) (s:bq) (σ:St) (H:Hp) (D:Ends),Inv X ze σ H s->t D σ H->cw (model X.prog X.w) X.A (exec st X.env) (SP X ze D) X.xe s
def PSs(X:Cx)(st:List Stmt)(t:TS):Prop:=
 ∀(ze:List (Addr×Obj)) (s:bq) (σ:St) (H:Hp) (D:Ends),Inv X ze σ H s->t D σ H->cw (model X.prog X.w) X.A (execs st X.env) (SP X ze D) X.xe s
theorem thn{α:Type}{t:Sem α}{Q Q':α->bq->Prop}{M:Model}{A:iz}{E:bn->bq->Prop}{s:bq}(h:cw M A t Q E s)(hQ:∀a s,Q a s->Q' a s):cw M A t Q' E s:=ox h hQ fun _ _ x=>x
end
section
section
variable {X:Cx}
def e9(i:Nat):TE:=fun σ H Q=>∃v,σ[i]?=some (some v)/\Q v H
def tC(v:V):TE:=fun _ H Q=>Q v H
theorem Jj{i:Nat}{x:Str}{pos:Pos}(hN:X.N[i]?=some x)(hv:Vis X.env.scope x)(hd:(x==("__debug__":Str))=false:=by decide)(q:(x==("__classdict__":Str))=false:=by decide):PE X (.Name x pos) (e9 i):=by
 intro ze s σ H Q I h;obtain⟨v,e,h⟩:=h;obtain⟨m,hn,hl⟩:=I.loc;obtain⟨u,r,l⟩:=hl i x v hN e hv;have fin:EP X ze σ Q u s:=⟨v,H,I,r,h⟩;rcases l with ⟨hk,hm⟩|⟨hk,c,hc,hcell⟩
 ·exact wpAny_Name (wpAny_loadName_local I.ok.kind hk hn hm fin) hd
 ·rcases hk with hk|hk
  ·exact wpAny_Name (wpAny_loadName_cell I.ok.kind hk hc hcell fin) hd
  ·exact wpAny_Name (wpAny_loadName_free I.ok.kind hk hc hcell fin q) hd
theorem zi{i j pos}:PE X (.Constant (.int i) j pos) (tC (.int i)):=fun _ _ _ H _ I h=>wpAny_Constant_int ⟨.int i,H,I.tok _,⟨_,rfl⟩,h⟩
theorem bH{b j pos}:PE X (.Constant (.bool b) j pos) (tC (.bl b)):=fun _ _ _ H _ I h=>Constant_bool ⟨.bl b,H,I,rfl,h⟩
theorem pF{j pos}:PE X (.Constant .none j pos) (tC .non):=fun _ _ _ H _ I h=>Constant_none ⟨.non,H,I,rfl,h⟩
def Gl(X:Cx)(x:Str):Prop:=X.env.kindOf x=some .globalImplicit
theorem Eu{E:bn->bq->Prop}{ze:List (Addr×Obj)}{s:bq}{σ:St}{H:Hp}{x:Str}{u:bn}{pos:Pos}{Q:bn->bq->Prop}(I:Inv X ze σ H s)(hg:Gl X x)(hm:X.mg x=some u)(h:Q u s)
  (hd:(x==("__debug__":Str))=false:=by decide):cw (model X.prog X.w) X.A (eval (.Name x pos) X.env) Q E s:=
 Calls.Name_function_global I.ok.kind hg (Calls.loadGlobal_global (by rw[I.ok.glob];exact I.mod.glob.keeps I.bk) hm h) hd
theorem eO{E:bn->bq->Prop}{ze:List (Addr×Obj)}{s:bq}{σ:St}{H:Hp}{x:Str}{u:bn}{pos:Pos}{Q:bn->bq->Prop}(I:Inv X ze σ H s)(hg:Gl X x)(hm:X.mg x=none)(hv:iy x=some u)(h:Q u s)
  (hn:x ≠ "__name__":=by decide) (hd:(x==("__debug__":Str))=false:=by decide):cw (model X.prog X.w) X.A (eval (.Name x pos) X.env) Q E s:=by
 obtain⟨mb,h1,h2⟩:=I.mod.blt;exact Calls.Name_function_global I.ok.kind hg (Calls.loadGlobal_builtin (by rw[I.ok.glob];exact I.mod.glob.keeps I.bk) hm (by rw[I.ok.blt];exact h1.keeps I.bk) ((h2 x hn).trans hv) h) hd
theorem jY{x:Str}{v:V}{u:bn}{pos:Pos}(hg:Gl X x)(hm:X.mg x=none)(hv:iy x=some u)(r:RelV v u)(hn:x ≠ "__name__":=by decide)(hd:(x==("__debug__":Str))=false:=by decide):PE X (.Name x pos) (tC v):=
 fun _ _ _ H _ I h=>eO I hg hm hv ⟨v,H,I,r,h⟩ hn hd
variable {a b:Expr}{ta tb:TE}{pos:Pos}
variable {tA tB':TT}{rest:List Expr}
def D6(t u:TT):TT:=fun σ H Q=>t σ H fun c H1=>if c=true then u σ H1 Q else Q false H1
def tOr(t u:TT):TT:=fun σ H Q=>t σ H fun c H1=>if c=true then Q true H1 else u σ H1 Q
def Bp(t:TT):TT:=fun σ H Q=>t σ H fun c H1=>Q (!c) H1
theorem yT(ha:PT X a tA):PW X (.BoolOp .And [a] pos) tA:=by
 intro wh ze s σ H Q I h;refine isTrue_and (thn (ha ze s σ H Q I h) fun c s1 e=>?_);cases c with
 |true=>exact isTrue_and_nil e
 |false=>exact e
theorem kK(ha:PT X a tA):PW X (.BoolOp .Or [a] pos) tA:=by
 intro wh ze s σ H Q I h;refine isTrue_or (thn (ha ze s σ H Q I h) fun c s1 e=>?_);cases c with
 |false=>exact isTrue_or_nil e
 |true=>exact e
theorem BG(ha:PT X a tA)(hb:PW X (.BoolOp .And (b::rest) pos) tB'):PW X (.BoolOp .And (a::b::rest) pos) (D6 tA tB'):=by
 intro wh ze s σ H Q I h;refine isTrue_and (thn (ha ze s σ H _ I h) fun c s1 ⟨H1,I1,q1⟩=>?_);cases c with
 |true=>exact hb wh ze s1 σ H1 Q I1 q1
 |false=>exact⟨H1,I1,q1⟩
theorem iG(ha:PT X a tA)(hb:PW X (.BoolOp .Or (b::rest) pos) tB'):PW X (.BoolOp .Or (a::b::rest) pos) (tOr tA tB'):=by
 intro wh ze s σ H Q I h;refine isTrue_or (thn (ha ze s σ H _ I h) fun c s1 ⟨H1,I1,q1⟩=>?_);cases c with
 |true=>exact⟨H1,I1,q1⟩
 |false=>exact hb wh ze s1 σ H1 Q I1 q1
theorem dS(ha:PT X a tA):PT X (.UnaryOp .Not a pos) (Bp tA):=by
 intro ze s σ H Q I h;exact isTrue_not (ha ze s σ H (fun c H1=>Q (!c) H1) I h)
def A9(ta tb:TE):TE:=fun σ H Q=>ta σ H fun x H1=>∃c,x=.bl c/\if c=true then tb σ H1 Q else Q (.bl false) H1
def yC(ta:TE):TE:=fun σ H Q=>ta σ H fun x H1=>∃c,x=.bl c/\Q (.bl (!c)) H1
theorem pQ{op}{t:TE}(h:PE X a t):PE X (.BoolOp op [a] pos) t:=fun ze s σ H Q I hw=>BoolOp_one (h ze s σ H Q I hw)
theorem qR(ha:PE X a ta)(hb:PE X (.BoolOp .And (b::rest) pos) tb):PE X (.BoolOp .And (a::b::rest) pos) (A9 ta tb):=by
 intro ze s σ H Q I h;refine BoolOp_and (thn (ha ze s σ H _ I h) fun v s1 ⟨x,H1,I1,r1,q1⟩=>?_);obtain⟨c,rfl,q1⟩:=q1;cases r1;refine lu ?_;cases c with
 |true=>exact hb ze s1 σ H1 Q I1 q1
 |false=>exact⟨.bl false,H1,I1,rfl,q1⟩
theorem AB(ha:PE X a ta):PE X (.UnaryOp .Not a pos) (yC ta):=by
 intro ze s σ H Q I h;refine UnaryOp_ (thn (ha ze s σ H _ I h) fun v s1 ⟨x,H1,I1,r1,q1⟩=>?_);obtain⟨c,rfl,q1⟩:=q1;cases r1;exact not_of (lu ⟨.bl (!c),H1,I1,rfl,q1⟩)
end
end
section
def SqL(K:cy)(H:Hp)(a:Addr)(xs:List V):Prop:=
 Rd H a (.lst xs) \/
  ∃(o:Obj) (its:Array bn) (n:Nat),K.lookup a=some o/\o.cls=.type "list"/\o.dict=none/\o.data=.seq its n/\its.size<=cx/\Vals xs its.toList
def SqT(K:cy)(H:Hp)(a:Addr)(xs:List V):Prop:=
 Rd H a (.tup xs) \/
  ∃(o:Obj) (its:Array bn) (n:Nat),K.lookup a=some o/\o.cls=.type "tuple"/\o.data=.seq its n/\its.size<=cx/\Vals xs its.toList
def Ip:bn->Option V
 | .none=>some .non
 | .bool b=>some (.bl b)
 | .int i _=>some (.int i)
 | .str x _=>some (.str x)
 | .bytes b _=>some (.byt b)
 | .float b _=>some (.flt b)
 | .ref a=>some (.ref a)
 | .type n=>some (.ty n)
 |_=>none
theorem RelV.abs{x:V}{u:bn}(r:RelV x u):Ip u=some x:=by
 cases x with
 |non=>cases r;rfl
 |bl _=>cases r;rfl
 |int _=>obtain⟨t,rfl⟩:=r;rfl
 |str _=>obtain⟨t,rfl⟩:=r;rfl
 |byt _=>obtain⟨t,rfl⟩:=r;rfl
 |flt _=>obtain⟨t,rfl⟩:=r;rfl
 |ref _=>cases r;rfl
 |ty _=>cases r;rfl
theorem RelV.inj{x y:V}{u:bn}(r:RelV x u)(q:RelV y u):x=y:=gz (r.abs.symm.trans q.abs)
theorem Vals.inj:∀{xs ys:List V}{us:List bn},Vals xs us->Vals ys us->xs=ys
 |_,_,_,.nil,.nil=>rfl
 |_,_,_,.cons r t,.cons r' t'=>by rw[r.inj r',Vals.inj t t']
section
variable {X:Cx}{ze:List (Addr×Obj)}{σ:St}{H:Hp}{s:bq}{a:Addr}{xs ys:List V}
theorem SqL.of{K:cy}(h:H a=some (.lst xs)):SqL K H a xs:=.inl (.inl h)
theorem SqT.of{K:cy}(h:H a=some (.tup xs)):SqT K H a xs:=.inl (.inl h)
theorem Inv.list(I:Inv X ze σ H s)(h:SqL X.K H a xs):∃q:List bn,Vals xs q/\PlainL s.heap a q.toArray/\xs.length<=cx:=by
 rcases h with h|⟨o,q,n,hk,hc,hd,hs,hz,r⟩
 ·obtain⟨z,q,n,r,e⟩:=h.ok I.hok;exact⟨q,r,⟨_,n,e,rfl,rfl,rfl⟩,z⟩
 ·refine⟨q.toList,r,⟨o,n,I.kIn a o hk,hc,hd,by simpa using hs⟩,?_⟩;have e:=r.length;simp only[li]at e;omega
theorem Inv.tuple(I:Inv X ze σ H s)(h:SqT X.K H a xs):∃q:List bn,Vals xs q/\IsTup s.heap a q.toArray/\xs.length<=cx:=by
 rcases h with h|⟨o,q,n,hk,hc,hs,hz,r⟩
 ·obtain⟨z,q,r,p⟩:=h.ok I.hok;exact⟨q,r,p,z.1⟩
 ·refine⟨q.toList,r,⟨o,I.kIn a o hk,hc,n,by simpa using hs⟩,?_⟩;have e:=r.length;simp only[li]at e;omega
theorem Inv.list_inj(I:Inv X ze σ H s)(h:SqL X.K H a xs)(h':SqL X.K H a ys):xs=ys:=by
 obtain⟨q,r,⟨o,n,e,_,_,d⟩,_⟩:=I.list h;obtain⟨its',r',⟨o',n',e',_,_,d'⟩,_⟩:=I.list h';rw[e]at e';cases e';rw[d]at d';injection d' with d1 _
 have:q=its':=by simpa using congrArg Array.toList d1
 subst this;exact r.inj r'
theorem Inv.tuple_inj(I:Inv X ze σ H s)(h:SqT X.K H a xs)(h':SqT X.K H a ys):xs=ys:=by
 obtain⟨q,r,⟨o,e,_,n,d⟩,_⟩:=I.tuple h;obtain⟨its',r',⟨o',e',_,n',d'⟩,_⟩:=I.tuple h';rw[e]at e';cases e';rw[d]at d';injection d' with d1 _
 have:q=its':=by simpa using congrArg Array.toList d1
 subst this;exact r.inj r'
end
abbrev Cx.wish (X:Cx) (E:bn->bq->Prop):Cx:={ X with xe:=E }
abbrev Cx.nox (X:Cx):Cx:=X.wish fun _ _=>False
theorem Cx.Ok.wish{X:Cx}(ok:X.Ok)(E:bn->bq->Prop):(X.wish E).Ok:=
 ⟨ok.mod,ok.kind,ok.glob,ok.blt,ok.above,ok.inj,ok.has,ok.cab,ok.hd,ok.frames,ok.stk,ok.exf,ok.bs,ok.bsz,ok.noex,ok.exfs,ok.funs,ok.frf⟩
theorem Cx.Ok.unwish{X:Cx}{E:bn->bq->Prop}(ok:(X.wish E).Ok):X.Ok:=
 ⟨ok.mod,ok.kind,ok.glob,ok.blt,ok.above,ok.inj,ok.has,ok.cab,ok.hd,ok.frames,ok.stk,ok.exf,ok.bs,ok.bsz,ok.noex,ok.exfs,ok.funs,ok.frf⟩
section
variable {X:Cx}{ze:List (Addr×Obj)}{σ:St}{H:Hp}{s:bq}{E:bn->bq->Prop}
theorem Inv.wish(I:Inv X ze σ H s)(E:bn->bq->Prop):Inv (X.wish E) ze σ H s:=⟨I.ok.wish E,I.os,I.bare,I.base,I.loc,I.cell,I.free,I.freeC,I.pin,I.hok,I.len⟩
theorem Inv.unwish(I:Inv (X.wish E) ze σ H s):Inv X ze σ H s:=⟨I.ok.unwish,I.os,I.bare,I.base,I.loc,I.cell,I.free,I.freeC,I.pin,I.hok,I.len⟩
theorem SP.unwish{D:Ends}{f:Flow}{s':bq}(h:SP (X.wish E) ze D f s'):SP X ze D f s':=by
 cases f with
 |next=>obtain⟨σ',H',I,q⟩:=h;exact⟨σ',H',I.unwish,q⟩
 |brk=>obtain⟨σ',H',I,q⟩:=h;exact⟨σ',H',I.unwish,q⟩
 |cont=>obtain⟨σ',H',I,q⟩:=h;exact⟨σ',H',I.unwish,q⟩
 |ret u=>obtain⟨v,σ',H',I,r,q⟩:=h;exact⟨v,σ',H',I.unwish,r,q⟩
theorem PSs.nox{st:List Stmt}{t:TS}(h:PSs X.nox st t):PSs X st t:=fun ze s σ H D I hw=>
 ox (h ze s σ H D (I.wish _) hw) (fun _ _ q=>q.unwish) fun _ _ z=>oy z
end
section
variable {X:Cx}{st:Stmt}{rest:List Stmt}{t u:TS}{e:Expr}{te:TE}{pos:Pos}
def uO:TS:=fun D σ H=>D.nx σ H
def cX(t u:TS):TS:=fun D σ H=>t { D with nx:=u D } σ H
theorem zO:PSs X [] uO:=fun _ _ σ H _ I h=>wpAny_execs_nil ⟨σ,H,I,h⟩
theorem zg(h1:PS X st t)(h2:PSs X rest u):PSs X (st::rest) (cX t u):=by
 intro ze s σ H D I h;refine wpAny_execs_cons (thn (h1 ze s σ H { D with nx:=u D } I h) fun f s1 q=>?_);cases f with
 |next=>
  obtain⟨σ',H',I',q⟩:=q;exact h2 ze s1 σ' H' D I' q
 |ret v=>exact q
 |brk=>exact q
 |cont=>exact q
theorem zm(h1:PS X st t):PSs X [st] t:=by
 intro ze s σ H D I h;refine wpAny_execs_cons (thn (h1 ze s σ H D I h) fun f s1 q=>?_);cases f with
 |next=>exact wpAny_execs_nil q
 |ret v=>exact q
 |brk=>exact q
 |cont=>exact q
def CG:TS:=fun D σ H=>D.ct σ H
theorem Im:PS X (.Continue pos) CG:=fun _ _ σ H _ I h=>wpAny_Continue ⟨σ,H,I,h⟩
theorem Inv.quiet{ze:List (Addr×Obj)}{σ:St}{H:Hp}{s:bq}(I:Inv X ze σ H s):interactive X.env=false:=by simp[interactive,I.ok.kind]
def uD(te:TE):TS:=fun D σ H=>te σ H fun _ H1=>D.nx σ H1
theorem jM(he:PE X e te)(hs:swapsWith e none pos.line X.env=pure false:=by rfl):PS X (.Expr e pos) (uD te):=by
 intro ze s σ H D I h;exact wpAny_Expr_any (thn (he ze s σ H _ I h) fun v s1 ⟨x,H1,I1,r1,q1⟩=>⟨σ,H1,I1,q1⟩) I.quiet hs
def uX(te:TE):TS:=fun D σ H=>te σ H D.rt
theorem zw(he:PE X e te):PS X (.Return (some e) pos) (uX te):=by
 intro ze s σ H D I h;exact wpAny_Return_some (thn (he ze s σ H _ I h) fun v s1 ⟨x,H1,I1,r1,q1⟩=>⟨x,σ,H1,I1,r1,q1⟩)
def oZ(c:TT)(t u:TS):TS:=fun D σ H=>c σ H fun b H1=>if b=true then t D σ H1 else u D σ H1
theorem aT{c:Expr}{a b:List Stmt}{tc:TT}(hc:PT X c tc)(ha:PSs X a t)(hb:PSs X b u):PS X (.If c a b pos) (oZ tc t u):=by
 intro ze s σ H D I h;refine wpAny_If (thn (hc ze s σ H _ I h) fun d s1 ⟨H1,I1,q1⟩=>?_);cases d with
 |true=>exact ha ze s1 σ H1 D I1 q1
 |false=>exact hb ze s1 σ H1 D I1 q1
def AM:TS:=fun _ _ _=>False
theorem Ff:PS X st AM:=fun _ _ _ _ _ _ h=>h.elim
end
abbrev TG:=V->St->Hp->(St->Hp->Prop)->Prop
abbrev TGs:=List V->St->Hp->(St->Hp->Prop)->Prop
def PG(X:Cx)(q:Expr)(t:TG):Prop:=
 ∀(ze:List (Addr×Obj)) (s:bq) (σ:St) (H:Hp) (v:V) (u:bn) (Q:St->Hp->Prop),Inv X ze σ H s->RelV v u->t v σ H Q ->
  cw (model X.prog X.w) X.A (assign q X.env u) (fun _ s'=>∃ σ' H',Inv X ze σ' H' s'/\Q σ' H') X.xe s
def PGs(X:Cx)(ts:List Expr)(t:TGs):Prop:=
 ∀(ze:List (Addr×Obj)) (s:bq) (σ:St) (H:Hp) (vs:List V) (us:List bn) (Q:St->Hp->Prop),Inv X ze σ H s->Vals vs us->t vs σ H Q ->
  cw (model X.prog X.w) X.A (assignInOrder ((lz ts X.env).map (·.2)) us) (fun _ s'=>∃ σ' H',Inv X ze σ' H' s'/\Q σ' H') X.xe s
abbrev TSet:=V->V->V->Hp->(Hp->Prop)->Prop
def PSet(X:Cx)(t:TSet):Prop:=
 ∀(ze:List (Addr×Obj)) (s:bq) (σ:St) (H:Hp) (o i v:V) (ov iv u:bn) (Q:Hp->Prop),Inv X ze σ H s->RelV o ov->RelV i iv->RelV v u->t o i v H Q ->
  cw (model X.prog X.w) X.A (setItem ov iv u) (fun _ s'=>∃H',Inv X ze σ H' s'/\Q H') X.xe s
abbrev TIp:=V->V->Hp->VK->Prop
def PIp(X:Cx)(op:Operator)(t:TIp):Prop:=
 ∀(ze:List (Addr×Obj)) (s:bq) (σ:St) (H:Hp) (x y:V) (v u:bn) (Q:VK),Inv X ze σ H s->RelV x v->RelV y u->t x y H Q ->
  cw (model X.prog X.w) X.A (inplaceOp op v u) (EP X ze σ Q) X.xe s
section
variable {X:Cx}{pos:Pos}
def gI(i:Nat):TG:=fun v σ H Q=>Q (σ.set i (some v)) H
theorem zp{i:Nat}{x:Str}(hN:X.N.Nodup)(hi:X.N[i]?=some x)(hx:Loc X.env.scope x)(hf:X.fn x=true\/X.env.scope.names.lookup x=some .local:=by first|exact .inl rfl|exact .inr rfl|assumption):PG X (.Name x pos) (gI i):=by
 intro ze s σ H v u Q I r h;exact wpAny_assign_Name (sC I hN hi hx r (fun s' I'=>⟨_,H,I',h⟩) hf)
def Do:TGs:=fun vs σ H Q=>vs=[]/\Q σ H
def A4(t:TG)(u:TGs):TGs:=fun vs σ H Q=>∃v r,vs=v::r/\t v σ H fun σ' H'=>u r σ' H' Q
theorem c8:PGs X [] Do:=by
 intro ze s σ H vs us Q I r h;obtain⟨e,h⟩:=h;subst e;cases r;exact assignInOrder_nil ⟨σ,H,I,h⟩
theorem zA{e:Expr}{es:List Expr}{t:TG}{u:TGs}(h1:PG X e t)(h2:PGs X es u)
  (hs:(lz (e::es) X.env).map (·.2)=assign e X.env::(lz es X.env).map (·.2):=by rfl):PGs X (e::es) (A4 t u):=by
 intro ze s σ H vs us Q I r h;obtain⟨v,vr,e1,h⟩:=h;subst e1;cases r with
 |cons r rr=>
  rw[hs];refine assignInOrder_cons (thn (h1 ze s σ H _ _ _ I r h) fun _ s1 ⟨σ1,H1,I1,q1⟩=>?_);exact h2 ze s1 σ1 H1 _ _ Q I1 rr q1
def vY(K:cy)(n:Nat)(t:TGs):TG:=fun v σ H Q=>∃a xs,v=.ref a/\SqT K H a xs/\xs.length=n/\t xs σ H Q
theorem dJ{es:List Expr}{k:Nat}{t:TGs}{n:Nat}(hc:X.calm=true)(h:PGs X es t)
  (hn:(lz es X.env).length=n:=by rfl) (hst:(lz es X.env).findIdx? (·.1)=none:=by rfl):PG X (.Tuple es k pos) (vY X.K n t):=by
 intro ze s σ H v u Q I r hw;obtain⟨a,xs,e1,hq,hl,hw⟩:=hw;subst e1;cases r;obtain⟨q,rv,ht,hz⟩:=I.tuple hq;refine assign_Tuple_tuple (I.ok.hd hc) ht (by simp[hn,<- hl,rv.length]) hst fun h' hx=>?_;have I1:Inv X ze σ H { s with heap:=h' }:=I.kept (t':=s.toks) fun b o e=>hx b o (ik (gh e)) e;exact h ze _ σ H xs _ Q I1 (by simpa using rv) hw
def BE(to ti:TE)(t:TSet):TG:=fun v σ H Q=>to σ H fun o H1=>ti σ H1 fun i H2=>t o i v H2 fun H3=>Q σ H3
theorem AV{o i:Expr}{to ti:TE}{t:TSet}(ho:PE X o to)(hi:PE X i ti)(hs:PSet X t)
  (ha:∀v,assign (.Subscript o i pos) X.env v=(do
   let ov <- holding [v] (eval o X.env)
   let iv <- holding [v,ov] (eval i X.env)
   standAt pos
   holding [v,ov,iv] (setItem ov iv v)
   release [v,ov,iv] []):=by intro _;rfl):PG X (.Subscript o i pos) (BE to ti t):=by
 intro ze s σ H v u Q I r h;rw[ha];refine bo (ic (thn (ho ze s σ H _ I h) fun ov s1 ⟨x,H1,I1,r1,q1⟩=>?_));refine bo (ic (thn (hi ze s1 σ H1 _ I1 q1) fun iv s2 ⟨y,H2,I2,r2,q2⟩=>?_));refine bo (wpAny_standAt (bo (ic (thn (hs ze s2 σ H2 x y v ov iv u _ I2 r1 r2 r q2) fun _ s3 ⟨H3,I3,q3⟩=>?_))));exact wpAny_release ⟨σ,H3,I3,q3⟩
def jU(te:TE)(g:TG):TS:=fun D σ H=>te σ H fun x H1=>g x σ H1 D.nx
theorem oW{tg e:Expr}{te:TE}{g:TG}(he:PE X e te)(hg:PG X tg g)(hs:swapsWithSole [tg] e pos.line X.env=pure false:=by rfl)(hw:swappedStores [tg] e X.env=pure none:=by rfl)
  (h1:(lz [tg] X.env).map (·.2)=[assign tg X.env]:=by rfl):PS X (.Assign [tg] e pos) (jU te g):=by
 intro ze s σ H D I h;refine wpAny_Assign_stores (thn (he ze s σ H _ I h) fun v s1 ⟨x,H1,I1,r1,q1⟩=>?_) hs hw;rw[h1];exact thn (hg ze s1 σ H1 x v _ I1 r1 q1) fun _ s2 q=>q
theorem zI{i:Nat}{x:Str}{e:Expr}{te:TE}{pos':Pos}(hN:X.N.Nodup)(hi:X.N[i]?=some x)(hx:Loc X.env.scope x)(he:PE X e te)(hs:swapsWith e (some (.Name x pos')) pos.line X.env=pure false:=by rfl)(hf:X.fn x=true\/X.env.scope.names.lookup x=some .local:=by first|exact .inl rfl|exact .inr rfl|assumption):
  PS X (.Assign [.Name x pos'] e pos) (jU te (gI i)):=by
 intro ze s σ H D I h;refine wpAny_Assign_Name (thn (he ze s σ H _ I h) fun v s1 ⟨y,H1,I1,r1,q1⟩=>?_) hs;exact sC I1 hN hi hx r1 (fun s2 I2=>⟨_,H1,I2,q1⟩) hf
def AU(i:Nat)(te:TE)(ti:TIp):TS:=fun D σ H=>∃x,σ[i]?=some (some x)/\te σ H fun y H1=>ti x y H1 fun z H2=>D.nx (σ.set i (some z)) H2
theorem Ac{i:Nat}{x:Str}{e:Expr}{te:TE}{op:Operator}{ti:TIp}{pos':Pos}(hN:X.N.Nodup)(hi:X.N[i]?=some x)(hx:Loc X.env.scope x)(he:PE X e te)(ho:PIp X op ti)(hf:X.fn x=true\/X.env.scope.names.lookup x=some .local:=by first|exact .inl rfl|exact .inr rfl|assumption):
  PS X (.AugAssign (.Name x pos') op e pos) (AU i te ti):=by
 intro ze s σ H D I h;obtain⟨v,e1,h⟩:=h;obtain⟨m,hn,hl⟩:=I.loc;have q:Vis X.env.scope x:=by rcases hx with k|k;exact .inl k;exact .inr (.inl k)
 obtain⟨u,r,l⟩:=hl i x v hi e1 q;refine wpAny_AugAssign_Name ?_;have go:cw (model X.prog X.w) X.A (eval e X.env) (fun w s₂=>cw (model X.prog X.w) X.A (inplaceOp op u w) (fun r s₃=>cw (model X.prog X.w) X.A (storeName X.env x r) (fun _=>SP X ze D .next) X.xe s₃) X.xe s₂) X.xe s:=by
  refine thn (he ze s σ H _ I h) fun w s1 ⟨y,H1,I1,r1,q1⟩=>?_;refine thn (ho ze s1 σ H1 v y u w _ I1 r r1 q1) fun z s2 ⟨zv,H2,I2,r2,q2⟩=>?_;exact sC I2 hN hi hx r2 (fun s3 I3=>⟨_,H2,I3,q2⟩) hf
 rcases l with ⟨hk,hm⟩|⟨hk,c,hc,hcell⟩
 ·exact wpAny_loadName_local I.ok.kind hk hn hm go
 ·rcases hk with hk|hk
  ·exact wpAny_loadName_cell I.ok.kind hk hc hcell go
  ·rcases hx with k|k
   ·have:X.env.scope.names.lookup x=some .free:=hk;rw[k]at this;cases this
   ·have:X.env.scope.names.lookup x=some .free:=hk;rw[k]at this;cases this
def ipI(f:Int->Int->Int):TIp:=fun x y H Q=>∃i j,x=.int i/\y=.int j/\Q (.int (f i j)) H
theorem B0:PIp X .Add (ipI fun i j=>i+j):=by
 intro ze s σ H x y v u Q I r1 r2 h;obtain⟨i,j,e1,e2,q⟩:=h;subst e1;subst e2;obtain⟨t,rfl⟩:=r1;obtain⟨t',rfl⟩:=r2;exact iadd_int ⟨.int _,H,I.tok _,⟨_,rfl⟩,q⟩
end
section
variable {X:Cx}{pos:Pos}
def Am(c:TT)(tb:TS):TS:=fun D σ H=>∃W:Nat->St->Hp->Prop,(∃m,W m σ H)/\∀m σ H,W m σ H ->
 c σ H fun b H1=>if b=true then ∃N:St->Hp->Prop,(∀ σ' H',N σ' H'->∃m',m'<m/\W m' σ' H')/\tb { D with nx:=N,ct:=N,bk:=D.nx } σ H1 else D.nx σ H1
theorem BS{c:Expr}{q:List Stmt}{tc:TT}{tb:TS}(hp:PassesOwn (model X.prog X.w) X.A X.env X.xe)(hc:PT X c tc)(hb:PSs X q tb):PS X (.While c q [] pos) (Am tc tb):=by
 intro ze s σ H D I h;obtain⟨W,⟨m0,w0⟩,y⟩:=h;refine wpAny_While (codeAny_whileLoop (fun n s'=>∃ σ' H',Inv X ze σ' H' s'/\W n σ' H') ?_ m0 ⟨σ,H,I,w0⟩);rintro n s1 ⟨σ1,H1,I1,w1⟩;refine ny hp (thn (hc ze s1 σ1 H1 _ I1 (y n σ1 H1 w1)) fun b s2 ⟨H2,I2,q2⟩=>?_);cases b with
 |true=>
  obtain⟨N,hN,q2⟩:=q2;rw[ck rfl];refine ny hp (thn (hb ze s2 σ1 H2 _ I2 q2) fun f s3 q3=>?_);cases f with
  |next=>
   obtain⟨σ3,H3,I3,n3⟩:=q3;obtain⟨m',hm,w3⟩:=hN σ3 H3 n3;exact⟨m',hm,σ3,H3,I3,w3⟩
  |cont=>
   obtain⟨σ3,H3,I3,n3⟩:=q3;obtain⟨m',hm,w3⟩:=hN σ3 H3 n3;exact⟨m',hm,σ3,H3,I3,w3⟩
  |brk=>exact q3
  |ret v=>exact q3
 |false=>
  rw[ci ji];exact wpAny_execs_nil ⟨σ1,H2,I2,q2⟩
end
structure It where
 go:Nat->Hp->Prop
 yld:Nat->Hp->V->Hp->Prop
 stop:Nat->Hp->Prop
def FpOk(X:Cx)(ze:List (Addr×Obj))(H:Hp)(b:Addr):Prop:=
 H b=none/\b≠X.env.locals/\b∉X.fs/\(b∈X.ex\/X.s₀.heap.objs.size<=b)/\(∀x c,X.env.cells.lookup x=some c->c≠b)/\∀p∈X.pn++ze,p.1≠b
theorem Inv.fpOk{X:Cx}{ze:List (Addr×Obj)}{σ:St}{H H':Hp}{s:bq}{b:Addr}(I:Inv X ze σ H s)(hb:s.heap.objs.size<=b)(hn:H' b=none):FpOk X ze H' b:=by
 refine⟨hn,ne_of_gt (ix I.lt hb),I.nofs hb,.inr (lm I.sz hb),fun x c e z=>?_,fun p hp z=>?_⟩
 ·obtain⟨v,q⟩:=I.cell x c e;exact absurd (ix q.lt (by rw[z];exact hb)) (nv _)
 ·exact absurd (ix (gh (I.pin p hp).1) (by rw[z];exact hb)) (nv _)
structure Turn(P:fx)(w:io)(K:cy)(tg:Expr)(J:It)(fp:List Addr)(it:Addr)(tn:Nat->Heap->Prop):Prop where
 mem:it∈fp
 obj:∀i h,tn i h->∀b∈fp,∃o,h.get? b=some o/\∀v,o.data≠.cell v
 keep:∀i h h',tn i h->(∀b∈fp,∀o,h.get? b=some o->h'.get? b=some o)->tn i h'
 item:∀(X:Cx),X.prog=P->X.w=w->X.K=K->X.calm=true->∀(i:Nat) (ze:List (Addr×Obj)) (s:bq) (σ:St) (H:Hp) (E:bn->bq->Prop),Inv X ze σ H s->(∀b∈fp,FpOk X ze H b)->tn i s.heap->J.go i H ->
  cw (model P w) X.A (pyNext (.ref it)) (fun r s1=>∃u,r=some u /\
   cw (model P w) X.A (letOwnedTupleGo tg (.ref it) u) (fun _ s2=>∃x H',Inv X ze σ H' s2/\RelV x u/\J.yld i H x H'/\tn (i+1) s2.heap/\∀b∈fp,H' b=none) E s1) E s
 done:∀(X:Cx),X.prog=P->X.w=w->X.K=K->X.calm=true->∀(i:Nat) (ze:List (Addr×Obj)) (s:bq) (σ:St) (H:Hp) (E:bn->bq->Prop),Inv X ze σ H s->(∀b∈fp,FpOk X ze H b)->tn i s.heap->J.stop i H ->
  cw (model P w) X.A (pyNext (.ref it)) (fun r s1=>r=none/\Inv X ze σ H s1) E s
 self:∀(A:iz) (i:Nat) (s:bq) (Q:bn->bq->Prop) (E:bn->bq->Prop),tn i s.heap->Q (.ref it) s->cw (model P w) A (pyIter (.ref it)) Q E s
abbrev TI:=St->Hp->(It->Hp->Prop)->Prop
def PIE(X:Cx)(ze:List (Addr×Obj))(σ:St)(tg:Expr)(R:It->Hp->Prop)(q:bn)(s2:bq):Prop:=
 ∃(it:Addr) (fp:List Addr) (tn:Nat->Heap->Prop) (J:It) (H':Hp),q=.ref it/\Inv X ze σ H' s2/\Turn X.prog X.w X.K tg J fp it tn/\tn 0 s2.heap/\(∀b∈fp,FpOk X ze H' b)/\R J H'
def PI(X:Cx)(tg iter:Expr)(wi:TI):Prop:=
 ∀(ze:List (Addr×Obj)) (s:bq) (σ:St) (H:Hp) (R:It->Hp->Prop),Inv X ze σ H s->wi σ H R ->
  cw (model X.prog X.w) X.A (eval iter X.env) (fun v s1=>cw (model X.prog X.w) X.A (pyIter v) (PIE X ze σ tg R) X.xe s1) X.xe s
theorem mX{M:Model}{A:iz}{E:bn->bq->Prop}{s:bq}{tg:Expr}{it:Addr}{u:bn}{o:Obj}{n:String}{vs:Array bn}{Q:Unit->bq->Prop}(ho:s.heap.get? it=some o)(hc:o.cls=.type n)(hd:o.data=.fields vs)
    (hn:["enumerate","zip","dict_itemiterator","dict_reverseitemiterator","odict_iterator","itertools.zip_longest","itertools.pairwise"].contains n=false) (hQ:Q () s):cw M A (letOwnedTupleGo tg (.ref it) u) Q E s:=by
  unfold letOwnedTupleGo;cases tg<;>first
    |exact cm hQ
    | (cases u<;>first
        |exact cm hQ
        | (refine bo (wpAny_load ho ?_)
           rw[hc,hd];show cw M A (if (["enumerate","zip","dict_itemiterator","dict_reverseitemiterator","odict_iterator","itertools.zip_longest","itertools.pairwise"].contains n&&vs[0]?==some (rawInt _))=true then _ else _) Q E s;rw[ci (by intro h;rw[hn,Bool.false_and]at h;cases h)];exact cm hQ))
def Itl(K:cy)(a:Addr):It:=
 ⟨fun i H=>∃xs x,SqL K H a xs/\xs[i]?=some x,fun i H x H'=>H'=H/\∀xs,SqL K H a xs->xs[i]?=some x,fun i H=>∃xs,SqL K H a xs/\xs.length<=i⟩
def Itt(K:cy)(a:Addr):It:=
 ⟨fun i H=>∃xs x,SqT K H a xs/\xs[i]?=some x,fun i H x H'=>H'=H/\∀xs,SqT K H a xs->xs[i]?=some x,fun i H=>∃xs,SqT K H a xs/\xs.length<=i⟩
def Itr(lo:Int)(n:Nat):It:=⟨fun i _=>i<n,fun i H x H'=>H'=H/\x=.int (lo+i),fun i _=>n<=i⟩
theorem Ce{P:fx}{w:io}{K:cy}{tg:Expr}(a it:Addr):Turn P w K tg (Itl K a) [it] it (fun i h=>h.IsListIter it a i) where
 mem:=by simp
 obj:=fun i h st b hb=>by
  have e:b=it:=by simpa using hb
  subst e;obtain⟨o,e,c,d⟩:=st;exact⟨o,e,fun v z=>by rw[d]at z;cases z⟩
 keep:=fun i h h' st k=>st.at fun o e=>k it yv o e
 item:=by
  intro X hP hw hK hc i ze s σ H E I hf st hg;subst hP hw hK;obtain⟨xs,x,hq,hx⟩:=hg;obtain⟨q,rv,p,hz⟩:=I.list hq;obtain⟨u,hu,ru⟩:=rv.get hx;obtain⟨f0,f1,f2,f3,f4,f5⟩:=hf it yv;refine wpAny_pyNext_list_item st p.isList (x:=u) (by simpa using hu) fun h' st' sb=>?_;have I1:Inv X ze σ H { s with heap:=h' }:=I.turned (t':=s.toks) (fun b o hb e=>(sb.2 b hb).trans e) f0 f1 f3 f4 f5;obtain⟨o,e,c,d⟩:=id st';exact⟨u,rfl,mX (s:={ s with heap:=h' }) e c d dz ⟨x,H,I1,ru,⟨rfl,fun ys hy=>by rw[I.list_inj hy hq];exact hx⟩,st',fun b hb=>(hf b hb).1⟩⟩
 done:=by
  intro X hP hw hK hc i ze s σ H E I hf st hg;subst hP hw hK;obtain⟨xs,hq,hx⟩:=hg;obtain⟨q,rv,p,hz⟩:=I.list hq;obtain⟨f0,f1,f2,f3,f4,f5⟩:=hf it yv;have hl:=rv.length;exact wpAny_pyNext_list_end (I.ok.hd hc) st p.isList (by simp;omega) fun h' eb=>⟨rfl,I.turned (t':=s.toks) (fun b o hb e=>eb b o hb e) f0 f1 f3 f4 f5⟩
 self:=fun _ _ _ _ _ st h=>wpAny_pyIter_listiter st h
theorem Hk{P:fx}{w:io}{K:cy}{tg:Expr}(a it:Addr):Turn P w K tg (Itt K a) [it] it (fun i h=>h.IsTupleIter it a i) where
 mem:=by simp
 obj:=fun i h st b hb=>by
  have e:b=it:=by simpa using hb
  subst e;obtain⟨o,e,c,d⟩:=st;exact⟨o,e,fun v z=>by rw[d]at z;cases z⟩
 keep:=fun i h h' st k=>st.at fun o e=>k it yv o e
 item:=by
  intro X hP hw hK hc i ze s σ H E I hf st hg;subst hP hw hK;obtain⟨xs,x,hq,hx⟩:=hg;obtain⟨q,rv,p,hz⟩:=I.tuple hq;obtain⟨u,hu,ru⟩:=rv.get hx;obtain⟨f0,f1,f2,f3,f4,f5⟩:=hf it yv;refine wpAny_pyNext_tuple_item st (show s.heap.IsTuple a q.toArray from p) (x:=u) (by simpa using hu) fun h' st' sb=>?_;have I1:Inv X ze σ H { s with heap:=h' }:=I.turned (t':=s.toks) (fun b o hb e=>(sb.2 b hb).trans e) f0 f1 f3 f4 f5;obtain⟨o,e,c,d⟩:=id st';exact⟨u,rfl,mX (s:={ s with heap:=h' }) e c d dz ⟨x,H,I1,ru,⟨rfl,fun ys hy=>by rw[I.tuple_inj hy hq];exact hx⟩,st',fun b hb=>(hf b hb).1⟩⟩
 done:=by
  intro X hP hw hK hc i ze s σ H E I hf st hg;subst hP hw hK;obtain⟨xs,hq,hx⟩:=hg;obtain⟨q,rv,p,hz⟩:=I.tuple hq;obtain⟨f0,f1,f2,f3,f4,f5⟩:=hf it yv;have hl:=rv.length;exact wpAny_pyNext_tuple_end (I.ok.hd hc) st (show s.heap.IsTuple a q.toArray from p) (by simp;omega) fun h' eb=>⟨rfl,I.turned (t':=s.toks) (fun b o hb e=>eb b o hb e) f0 f1 f3 f4 f5⟩
 self:=fun _ _ _ _ _ st h=>wpAny_pyIter_tupleiter st h
theorem Ei{P:fx}{w:io}{K:cy}{tg:Expr}(it:Addr)(lo:Int)(n:Nat):Turn P w K tg (Itr lo n) [it] it (fun i h=>IsRangeIter h it (lo+(i:Nat)*1) ((n:Int)-(i:Nat)) 1) where
 mem:=by simp
 obj:=fun i h st b hb=>by
  have e:b=it:=by simpa using hb
  subst e;exact⟨_,st,fun v z=>by
   have z':Data.fields _=Data.cell v:=z;cases z'⟩
 keep:=fun i h h' st k=>k it yv _ st
 item:=by
  intro X hP hw hK hc i ze s σ H E I hf st hg;subst hP hw hK;obtain⟨f0,f1,f2,f3,f4,f5⟩:=hf it yv;have W:=Walks.range (prog:=X.prog) (w:=X.w) (I.ok.hd hc) it lo 1 n;refine W.item i s _ _ hg st fun v h' tk hv st' kk=>?_;obtain⟨t,rfl⟩:=hv;have I1:Inv X ze σ H { s with heap:=h',toks:=tk }:=I.turned (fun b o hb e=>kk b o (by simpa using hb) e) f0 f1 f3 f4 f5;refine⟨_,rfl,mX (s:={ s with heap:=h',toks:=tk }) (n:="range_iterator") st' rfl rfl dz ⟨.int (lo+i),H,I1,⟨t,?_⟩,⟨rfl,rfl⟩,st',fun b hb=>(hf b hb).1⟩⟩;rw[Int.mul_one]
 done:=by
  intro X hP hw hK hc i ze s σ H E I hf st hg;subst hP hw hK;obtain⟨f0,f1,f2,f3,f4,f5⟩:=hf it yv;exact wpAny_pyNext_range_end (I.ok.hd hc) st (by have:n<=i:=hg;omega) fun h' eb=>⟨rfl,I.turned (t':=s.toks) (fun b o hb e=>eb b o hb e) f0 f1 f3 f4 f5⟩
 self:=fun _ _ _ _ _ st h=>wpAny_pyIter_rangeiter st h
end
section
section
variable {X:Cx}{tg:Expr}
def vW(K:cy)(tl:TE):TI:=fun σ H R=>tl σ H fun x H1=>∃a,x=.ref a/\(∃xs,SqL K H1 a xs)/\R (Itl K a) H1
theorem GZ{l:Expr}{tl:TE}(hl:PE X l tl):PI X tg l (vW X.K tl):=by
 intro ze s σ H R I h;refine thn (hl ze s σ H _ I h) fun v s1 ⟨x,H1,I1,r1,q1⟩=>?_;obtain⟨a,e,⟨xs,hq⟩,q⟩:=q1;subst e;cases r1;obtain⟨y,rv,p,hz⟩:=I1.list hq;refine jy p.isList ?_;refine⟨s1.heap.objs.size,[s1.heap.objs.size],_,_,H1,rfl,I1.kept (t':=s1.toks) fun b o e=>bw _ e,Ce a _,⟨_,fj _ rfl,rfl,rfl⟩,fun b hb=>?_,q⟩;have e:b=s1.heap.objs.size:=by simpa using hb
 subst e;exact I1.fpOk (cu _) (I1.hok.fresh (cu _))
def oI(wi:TI)(g:TG)(tb:TS):TS:=fun D σ H=>wi σ H fun J H1=>∃W:Nat->Nat->St->Hp->Prop,(∃m,W 0 m σ H1)/\∀i m σ H,W i m σ H ->
 (J.stop i H/\D.nx σ H)\/(J.go i H/\∃N:St->Hp->Prop,(∀ σ' H',N σ' H'->∃m',m'<m/\W (i+1) m' σ' H')/\∀x H',J.yld i H x H'->g x σ H' fun σ2 H2=>tb { D with nx:=N,ct:=N,bk:=D.nx } σ2 H2)
def mN(fp:List Addr)(h:Heap):List (Addr×Obj):=fp.filterMap fun b=>(h.get? b).map fun o=>(b,o)
theorem rS{fp:List Addr}{h:Heap}{b:Addr}{o:Obj}(hb:b∈fp)(e:h.get? b=some o):(b,o)∈mN fp h:=List.mem_filterMap.mpr ⟨b,hb,by rw[e];rfl⟩
theorem HG{fp:List Addr}{h:Heap}{p:Addr×Obj}(hp:p∈mN fp h):p.1∈fp/\h.get? p.1=some p.2:=by
 obtain⟨b,hb,e⟩:=List.mem_filterMap.mp hp;cases q:h.get? b with
 |none=>rw[q]at e;cases e
 |some o=>
  rw[q]at e;have e':(b,o)=p:=gz e;subst e';exact⟨hb,q⟩
theorem Inv.pinned{ze:List (Addr×Obj)}{σ:St}{H:Hp}{s:bq}{fp:List Addr}(I:Inv X ze σ H s)(hf:∀b∈fp,FpOk X ze H b)(ho:∀b∈fp,∃o,s.heap.get? b=some o/\∀v,o.data≠.cell v):Inv X (ze++mN fp s.heap) σ H s:=
 I.pins_of fun p hp=>(mem_append.mp hp).elim (fun z=>I.pin p (fc _ z)) fun z=>by
  obtain⟨hb,e⟩:=HG z;obtain⟨f0,f1,f2,_⟩:=hf p.1 hb;obtain⟨o,e',d⟩:=ho p.1 hb;rw[e]at e';cases e';exact⟨e,f0,f1,f2,d⟩
theorem Inv.unpinned{ze pl:List (Addr×Obj)}{σ:St}{H:Hp}{s:bq}(I:Inv X (ze++pl) σ H s):Inv X ze σ H s:=I.pins_of fun p hp=>I.pin p (fc _ (cn _ hp))
theorem dG{iter:Expr}{aa:List Stmt}{wi:TI}{g:TG}{tb:TS}{pos:Pos}(hp:PassesOwn (model X.prog X.w) X.A X.env X.xe)(hc:X.calm=true)(hi:PI X tg iter wi)(hg:PG X tg g)(hb:PSs X aa tb)
  (hs:∀x,foldedSetIterable iter X.env x=pure x:=by intro _;rfl):PS X (.For tg iter aa [] pos) (oI wi g tb):=by
 intro ze s σ H D I h;refine wpAny_For (thn (hi ze s σ H _ I h) fun v s1 h1=>thn h1 fun ai s2 h2=>?_) hs;obtain⟨it,fp,tn,J,H2,e,I2,T,ah,f2,W,⟨m0,w0⟩,af⟩:=h2;subst e
 have q:∀{H':Hp},(∀b∈fp,H' b=none)->∀b∈fp,FpOk X ze H' b:=fun hn b hb=>⟨hn b hb,(f2 b hb).2⟩;refine codeAny_forLoop_any (fun n s'=>∃i σ' H',Inv X ze σ' H' s'/\tn i s'.heap/\(∀b∈fp,H' b=none)/\W i n σ' H') ?_ m0 ⟨0,σ,H2,I2,ah,fun b hb=>(f2 b hb).1,w0⟩;rintro n s3 ⟨i,σ3,H3,I3,ac,ae,w3⟩;rcases af i n σ3 H3 w3 with ⟨stop,qn⟩|⟨go,N,hN,step⟩
 ·refine ny hp (thn (T.done X rfl rfl rfl hc i ze s3 σ3 H3 X.xe I3 (q ae) ac stop) fun r s4 ⟨hr,I4⟩=>?_);subst hr;exact wpAny_execs_nil ⟨σ3,H3,I4,qn⟩
 ·refine ny hp (thn (T.item X rfl rfl rfl hc i ze s3 σ3 H3 X.xe I3 (q ae) ac go) fun r s4 ⟨u,hr,h4⟩=>?_);subst hr;refine ny hp (thn h4 fun _ s5 ⟨x,H5,I5,r5,y5,ab,ag⟩=>?_);have I5':=I5.pinned (q ag) (T.obj _ _ ab);refine ny hp (thn (hg _ s5 σ3 H5 x u _ I5' r5 (step x H5 y5)) fun _ s6 ⟨σ6,H6,I6,q6⟩=>?_);refine ny hp (thn (hb _ s6 σ6 H6 _ I6 q6) fun f s7 q7=>?_);have y:∀{σ7:St}{H7:Hp},Inv X (ze++mN fp s5.heap) σ7 H7 s7->N σ7 H7->∃m,m<n/\∃i σ' H',Inv X ze σ' H' s7/\tn i s7.heap/\(∀b∈fp,H' b=none)/\W i m σ' H':=fun {σ7 H7} I7 n7=>by
   obtain⟨m',hm,w7⟩:=hN σ7 H7 n7;refine⟨m',hm,i+1,σ7,H7,I7.unpinned,T.keep _ _ _ ab fun b hb o e=>(I7.pin (b,o) (fc _ (fc _ (rS hb e)))).1,fun b hb=>?_,w7⟩;obtain⟨o,e,d⟩:=T.obj _ _ ab b hb;exact(I7.pin (b,o) (fc _ (fc _ (rS hb e)))).2.1
  cases f with
  |next=>obtain⟨σ7,H7,I7,n7⟩:=q7;exact y I7 n7
  |cont=>obtain⟨σ7,H7,I7,n7⟩:=q7;exact y I7 n7
  |brk=>obtain⟨σ7,H7,I7,q7⟩:=q7;exact⟨σ7,H7,I7.unpinned,q7⟩
  |ret v=>obtain⟨x7,σ7,H7,I7,r7,q7⟩:=q7;exact⟨x7,σ7,H7,I7.unpinned,r7,q7⟩
end
theorem Eb{K:cy}{a:Addr}{xs:List V}{g:TG}{tb:TS}{D:Ends}{σ:St}{H:Hp}(Pv:Nat->St->Hp->Prop)(h0:Pv 0 σ H)(hl:∀i σ H,i<=xs.length->Pv i σ H->SqL K H a xs)
  (hs:∀i x σ H,xs[i]?=some x->Pv i σ H->g x σ H fun σ2 H2=>tb { D with nx:=Pv (i+1),ct:=Pv (i+1),bk:=D.nx } σ2 H2) (hd:∀ σ H,Pv xs.length σ H->D.nx σ H):
  ∃W:Nat->Nat->St->Hp->Prop,(∃m,W 0 m σ H)/\∀i m σ H,W i m σ H ->
   ((Itl K a).stop i H/\D.nx σ H)\/((Itl K a).go i H/\∃N:St->Hp->Prop,(∀ σ' H',N σ' H'->∃m',m'<m/\W (i+1) m' σ' H')/\∀x H',(Itl K a).yld i H x H'->g x σ H' fun σ2 H2=>tb { D with nx:=N,ct:=N,bk:=D.nx } σ2 H2):=by
 refine⟨fun i m σ H=>m=xs.length-i/\i<=xs.length/\Pv i σ H,⟨xs.length,yv,nq _,h0⟩,?_⟩;rintro i m σ H ⟨rfl,hi,p⟩;have q:=hl i σ H hi p;by_cases hlt:i<xs.length
 ·refine .inr ⟨⟨xs,xs[i],q,by simp[hlt]⟩,Pv (i+1),fun σ' H' p'=>⟨xs.length-(i+1),yw,rfl,hlt,p'⟩,fun x H' y=>?_⟩;obtain⟨e,y⟩:=y;subst e;exact hs i x σ _ (y xs q) p
 ·have e:i=xs.length:=yw
  subst e;exact .inl ⟨⟨xs,q,cu _⟩,hd σ H p⟩
end
section
abbrev R2:=V->V->Hp->VK->Prop
def OpR(X:Cx)(f:bn->bn->Sem bn)(r:R2):Prop:=
 ∀(ze:List (Addr×Obj)) (s:bq) (σ:St) (H:Hp) (x y:V) (v u:bn) (Q:VK),Inv X ze σ H s->RelV x v->RelV y u->r x y H Q ->
  cw (model X.prog X.w) X.A (f v u) (EP X ze σ Q) X.xe s
def UnR(X:Cx)(f:bn->Sem bn)(r:V->Hp->VK->Prop):Prop:=
 ∀(ze:List (Addr×Obj)) (s:bq) (σ:St) (H:Hp) (x:V) (v:bn) (Q:VK),Inv X ze σ H s->RelV x v->r x H Q ->
  cw (model X.prog X.w) X.A (f v) (EP X ze σ Q) X.xe s
def CallR(X:Cx)(f:bn)(r:List V->Hp->VK->Prop):Prop:=
 ∀(ze:List (Addr×Obj)) (s:bq) (σ:St) (H:Hp) (xs:List V) (us:List bn) (Q:VK),Inv X ze σ H s->Vals xs us->r xs H Q ->
  cw (model X.prog X.w) X.A (call f us) (EP X ze σ Q) X.xe s
def TruR(X:Cx)(r:V->Hp->(Bool->Hp->Prop)->Prop):Prop:=
 ∀(ze:List (Addr×Obj)) (s:bq) (σ:St) (H:Hp) (x:V) (v:bn) (Q:Bool->Hp->Prop),Inv X ze σ H s->RelV x v->r x H Q ->
  cw (model X.prog X.w) X.A (truthy v) (TP X ze σ Q) X.xe s
def tOp(r:R2)(ta tb:TE):TE:=fun σ H Q=>ta σ H fun x H1=>tb σ H1 fun y H2=>r x y H2 Q
def tUn(r:V->Hp->VK->Prop)(ta:TE):TE:=fun σ H Q=>ta σ H fun x H1=>r x H1 Q
def rI(C:Int->Int->Prop)(g:Int->Int->V):R2:=fun x y H Q=>∃i j,x=.int i/\y=.int j/\C i j/\Q (g i j) H
def rI0(g:Int->Int->V):R2:=fun x y H Q=>∃i j,x=.int i/\y=.int j/\Q (g i j) H
def rU(g:Int->V):V->Hp->VK->Prop:=fun x H Q=>∃i,x=.int i/\Q (g i) H
section
variable {X:Cx}{a b c:Expr}{ta tb tc:TE}{pos:Pos}
theorem tI(ha:PE X a ta)(hb:PE X b tb){ze:List (Addr×Obj)}{s:bq}{σ:St}{H:Hp}{R:V->V->Hp->Prop}(I:Inv X ze σ H s)
  (h:ta σ H fun x H1=>tb σ H1 fun y H2=>R x y H2) {Q:bn->bq->Prop}{f:bn->bn->Sem bn}
  (hf:∀v u s2 x y H2,Inv X ze σ H2 s2->RelV x v->RelV y u->R x y H2->cw (model X.prog X.w) X.A (f v u) Q X.xe s2):
  cw (model X.prog X.w) X.A (eval a X.env) (fun v s₁=>cw (model X.prog X.w) X.A (eval b X.env) (fun u s₂=>cw (model X.prog X.w) X.A (f v u) Q X.xe s₂) X.xe s₁) X.xe s:=by
 refine thn (ha ze s σ H _ I h) fun v s1 ⟨x,H1,I1,r1,q1⟩=>?_;refine thn (hb ze s1 σ H1 _ I1 q1) fun u s2 ⟨y,H2,I2,r2,q2⟩=>?_;exact hf v u s2 x y H2 I2 r1 r2 q2
theorem zD{op:Operator}{r:R2}(ho:OpR X (lc op) r)(ha:PE X a ta)(hb:PE X b tb):PE X (.BinOp a op b pos) (tOp r ta tb):=by
 intro ze s σ H Q I h;exact wpAny_BinOp (tI ha hb I h fun v u s2 x y H2 I2 rx ry q=>ho ze s2 σ H2 x y v u Q I2 rx ry q)
theorem jO{op:UnaryOp}{r:V->Hp->VK->Prop}(ho:UnR X (unaryOp op) r)(ha:PE X a ta):PE X (.UnaryOp op a pos) (tUn r ta):=by
 intro ze s σ H Q I h;exact UnaryOp_ (thn (ha ze s σ H _ I h) fun v s1 ⟨x,H1,I1,r1,q1⟩=>ho ze s1 σ H1 x v Q I1 r1 q1)
theorem opI{f:bn->bn->Sem bn}{C:Int->Int->Prop}{g:Int->Int->Int}
  (rule:∀(i j:Int) (t u:Tok) (s:bq) (Q:bn->bq->Prop) (E:bn->bq->Prop),C i j->Q (.int (g i j) s.toks) { s with toks:=s.toks+1 }->cw (model X.prog X.w) X.A (f (.int i t) (.int j u)) Q E s):
  OpR X f (rI C fun i j=>.int (g i j)):=by
 intro ze s σ H x y v u Q I rx ry h;obtain⟨i,j,rfl,rfl,hc,q⟩:=h;obtain⟨t,rfl⟩:=rx;obtain⟨t',rfl⟩:=ry;exact rule i j t t' s _ _ hc ⟨.int (g i j),H,I.tok _,⟨_,rfl⟩,q⟩
theorem CD{f:bn->bn->Sem bn}{g:Int->Int->Int}
  (rule:∀(i j:Int) (t u:Tok) (s:bq) (Q:bn->bq->Prop) (E:bn->bq->Prop),Q (.int (g i j) s.toks) { s with toks:=s.toks+1 }->cw (model X.prog X.w) X.A (f (.int i t) (.int j u)) Q E s):
  OpR X f (rI0 fun i j=>.int (g i j)):=by
 intro ze s σ H x y v u Q I rx ry h;obtain⟨i,j,rfl,rfl,q⟩:=h;obtain⟨t,rfl⟩:=rx;obtain⟨t',rfl⟩:=ry;exact rule i j t t' s _ _ ⟨.int (g i j),H,I.tok _,⟨_,rfl⟩,q⟩
theorem qU{f:bn->bn->Sem bn}{g:Int->Int->Bool}
  (rule:∀(i j:Int) (t u:Tok) (s:bq) (Q:bn->bq->Prop) (E:bn->bq->Prop),Q (.bool (g i j)) s->cw (model X.prog X.w) X.A (f (.int i t) (.int j u)) Q E s):
  OpR X f (rI0 fun i j=>.bl (g i j)):=by
 intro ze s σ H x y v u Q I rx ry h;obtain⟨i,j,rfl,rfl,q⟩:=h;obtain⟨t,rfl⟩:=rx;obtain⟨t',rfl⟩:=ry;exact rule i j t t' s _ _ ⟨.bl (g i j),H,I,rfl,q⟩
def CDivN(i j:Int):Prop:=j≠0/\j.natAbs<1073741824
def CPow(i j:Int):Prop:=0<=j/\j<=1000000/\i.natAbs<2 ^ 64
theorem FZ:OpR X (lc .Add) (rI0 fun i j=>.int (i+j)):=CD fun _ _ _ _ _ _ _ q=>add_int q
theorem cP:OpR X (lc .Sub) (rI0 fun i j=>.int (i-j)):=CD fun _ _ _ _ _ _ _ q=>sub_int q
theorem JJ:OpR X (lc .FloorDiv) (rI CDivN fun i j=>.int (i.fdiv j)):=opI fun _ _ _ _ _ _ _ hc q=>floordiv_int hc.1 q (.inl (PyProof.noPylong_small hc.2))
theorem nX:OpR X (lc .Mod) (rI (fun _ j=>0<j) fun i j=>.int (i % j)):=opI fun i j _ _ _ _ _ hc q=>by
 have h1:(0:Int)<j:=hc;exact mod_int' yw (by rw[Int.fmod_eq_emod_of_nonneg i yw];exact q)
theorem sG:OpR X (lc .Pow) (rI CPow fun i j=>.int (i ^ j.toNat)):=opI fun _ _ _ _ _ _ _ hc q=>pow_int_small hc.1 hc.2.1 hc.2.2 q
theorem unI{f:bn->Sem bn}{g:Int->Int}
  (rule:∀(i:Int) (t:Tok) (s:bq) (Q:bn->bq->Prop) (E:bn->bq->Prop),Q (.int (g i) s.toks) { s with toks:=s.toks+1 }->cw (model X.prog X.w) X.A (f (.int i t)) Q E s):
  UnR X f (rU fun i=>.int (g i)):=by
 intro ze s σ H x v Q I rx h;obtain⟨i,rfl,q⟩:=h;obtain⟨t,rfl⟩:=rx;exact rule i t s _ _ ⟨.int (g i),H,I.tok _,⟨_,rfl⟩,q⟩
theorem i4:UnR X (unaryOp .USub) (rU fun i=>.int (-i)):=unI fun _ _ _ _ _ q=>neg_int q
end
section
variable {X:Cx}{a b c:Expr}{ta tb tc:TE}{pos:Pos}
theorem n9{ze:List (Addr×Obj)}{σ:St}{H:Hp}{s:bq}{Q:VK}{k k':Bool}(I:Inv X ze σ H s)(q:Q (.bl k) H)(e:k=k'):EP X ze σ Q (.bool k') s:=by
 subst e;exact⟨.bl k,H,I,rfl,q⟩
theorem i5:OpR X (jg .Lt) (rI0 fun i j=>.bl (decide (i<j))):=qU fun _ _ _ _ _ _ _ q=>lt_int q
theorem m7:OpR X (jg .LtE) (rI0 fun i j=>.bl (decide (i<=j))):=qU fun _ _ _ _ _ _ _ q=>le_int q
theorem qF:OpR X (jg .Gt) (rI0 fun i j=>.bl (decide (j<i))):=qU fun _ _ _ _ _ _ _ q=>gt_int q
theorem BJ:OpR X (jg .GtE) (rI0 fun i j=>.bl (decide (j<=i))):=qU fun _ _ _ _ _ _ _ q=>ge_int q
theorem GQ:OpR X (jg .Is) (fun x y H Q=>y=.non/\Q (.bl (decide (x=.non))) H):=by
 intro ze s σ H x y v u Q I rx ry h;obtain⟨rfl,q⟩:=h;cases ry;refine is_none_gen (n9 I q ?_);cases x<;>first
  | (cases rx;rfl)
  | (obtain⟨t,rfl⟩:=rx;rfl)
theorem IP:OpR X (jg .IsNot) (fun x y H Q=>y=.non/\Q (.bl (!decide (x=.non))) H):=by
 intro ze s σ H x y v u Q I rx ry h;obtain⟨rfl,q⟩:=h;cases ry;refine isnot_none_gen (n9 I q ?_);cases x<;>first
  | (cases rx;rfl)
  | (obtain⟨t,rfl⟩:=rx;rfl)
theorem Fz:OpR X (jg .NotIn) (fun x y H Q=>∃i j,x=.str i/\y=.str j/\Q (.bl (!(!(Builtin.Str.occurrences j i 0 j.length 1).isEmpty))) H):=by
 intro ze s σ H x y v u Q I rx ry h;obtain⟨i,j,rfl,rfl,q⟩:=h;obtain⟨t,rfl⟩:=rx;obtain⟨t',rfl⟩:=ry;exact notIn_str (n9 I q rfl)
theorem OpR.or{f:bn->bn->Sem bn}{r r':R2}(h:OpR X f r)(h':OpR X f r'):OpR X f (fun x y H Q=>r x y H Q\/r' x y H Q):=by
 intro ze s σ H x y v u Q I rx ry q;rcases q with q|q
 ·exact h ze s σ H x y v u Q I rx ry q
 ·exact h' ze s σ H x y v u Q I rx ry q
theorem nomark(b:Expr){op:CmpOp}(h:op≠.In:=by decide)(h2:op≠.NotIn:=by decide):behindInMarks op b=false:=by
 have e1:(op==CmpOp.In)=false:=by cases op<;>first|rfl|exact absurd rfl h
 have e2:(op==CmpOp.NotIn)=false:=by cases op<;>first|rfl|exact absurd rfl h2
 cases b<;>simp[behindInMarks,e1,e2]
theorem gQ{op:CmpOp}{r:R2}(ho:OpR X (jg op) r)(ha:PE X a ta)(hb:PE X b tb)(hm:behindInMarks op b=false):PE X (.Compare a [op] [b] pos) (tOp r ta tb):=by
 intro ze s σ H Q I h;exact wpAny_Compare1 (tI ha hb I h fun v u s2 x y H2 I2 rx ry q=>ho ze s2 σ H2 x y v u Q I2 rx ry q) hm
def pS(t:TE):TT:=fun σ H Q=>t σ H fun x H'=>∃k,x=.bl k/\Q k H'
theorem zR{op:CmpOp}{r:R2}(ho:OpR X (jg op) r)(ha:PE X a ta)(hb:PE X b tb)(hm:behindInMarks op b=false):PT X (.Compare a [op] [b] pos) (pS (tOp r ta tb)):=by
 intro ze s σ H Q I h;refine wpAny_isTrue_Compare1 (thn (ha ze s σ H _ I h) fun v s1 ⟨x,H1,I1,r1,q1⟩=>thn (hb ze s1 σ H1 _ I1 q1) fun u s2 ⟨y,H2,I2,r2,q2⟩=>
  thn (ho ze s2 σ H2 x y v u _ I2 r1 r2 q2) fun c s3 ⟨z,H3,I3,r3,k,e,q3⟩=>?_) hm
 subst e;cases r3;exact lu ⟨H3,I3,q3⟩
def By(r r':R2)(ta tb tc:TE):TE:=fun σ H Q=>ta σ H fun x H1=>tb σ H1 fun y H2=>r x y H2 fun z H3=>∃k,z=.bl k /\
 (if k=true then tc σ H3 fun w' H4=>r' y w' H4 Q else Q (.bl false) H3)
theorem Bt{op q:CmpOp}{r r':R2}(ho:OpR X (jg op) r)(aa:OpR X (jg q) r')(ha:PE X a ta)(hb:PE X b tb)(hc:PE X c tc)
  (hm:lastMarks [op,q] [b,c]=false:=by with_unfolding_all rfl):PE X (.Compare a [op,q] [b,c] pos) (By r r' ta tb tc):=by
 intro ze s σ H Q I h;refine Compare_chain (thn (ha ze s σ H _ I h) fun v s1 ⟨x,H1,I1,r1,q1⟩=>chain_link (thn (hb ze s1 σ H1 _ I1 q1) fun u s2 ⟨y,H2,I2,r2,q2⟩=>
  thn (ho ze s2 σ H2 x y v u _ I2 r1 r2 q2) fun d s3 ⟨z,H3,I3,r3,k,e,q3⟩=>?_)) hm
 subst e;cases r3;refine lu ?_;cases k with
 |false=>exact ite_ff ⟨.bl false,H3,I3,rfl,q3⟩
 |true=>exact ite_tt (chain_last (thn (hc ze s3 σ H3 _ I3 q3) fun w' s4 ⟨z',H4,I4,r4,q4⟩=>aa ze s4 σ H4 y z' u w' Q I4 r2 r4 q4))
def TruV(K:cy)(x:V)(H:Hp)(k:Bool):Prop:=
 match x with
 | .non=>k=false
 | .bl b=>k=b
 | .int i=>k=(i != 0)
 | .str y=>y.length<=cx/\k=((y.length:Int) != 0)
 | .byt y=>y.size<=cx/\k=((y.size:Int) != 0)
 | .ref p=>(∃xs,SqL K H p xs/\k=!xs.isEmpty)\/(∃xs,SqT K H p xs/\k=!xs.isEmpty)\/∃kvs,H p=some (.dK kvs)/\k=!kvs.isEmpty
 |_=>False
theorem Kf{κ:Type}{kvs:List (κ×V)}{vs:List (κ×bn)}(r:KV kvs vs):(!vs.isEmpty)=!kvs.isEmpty:=by
 cases r<;>rfl
theorem An{xs:List V}{q:List bn}(r:Vals xs q):(!q.toArray.isEmpty)=!xs.isEmpty:=by
 cases r<;>simp
theorem line63:(cx:Nat)<2 ^ 63:=by rw[jp];decide
theorem Kd:TruR X (fun x H Q=>∃k,TruV X.K x H k/\Q k H):=by
 intro ze s σ H x v Q I rx h;obtain⟨k,e,q⟩:=h;have hl:=line63;have hs:cx=16777216:=jp;cases x with
 |non=>
  cases rx;have e':k=false:=e;subst e';exact truthy_none ⟨H,I,q⟩
 |bl b=>
  cases rx;have e':k=b:=e;subst e';exact lu ⟨H,I,q⟩
 |int i=>
  obtain⟨t,rfl⟩:=rx;have e':k=(i != 0):=e;subst e';exact PySem.P.truthy_int ⟨H,I,q⟩
 |str y=>
  obtain⟨t,rfl⟩:=rx;obtain⟨hy,e'⟩:y.length<=cx/\k=((y.length:Int) != 0):=e;subst e';exact PySem.P.truthy_str yw ⟨H,I.tok _,q⟩
 |byt y=>
  obtain⟨t,rfl⟩:=rx;obtain⟨hy,e'⟩:y.size<=cx/\k=((y.size:Int) != 0):=e;subst e';exact W.truthy_bytes yw ⟨H,I.tok _,q⟩
 |ref p=>
  cases rx;have e':(∃xs,SqL X.K H p xs/\k=!xs.isEmpty)\/(∃xs,SqT X.K H p xs/\k=!xs.isEmpty)\/∃kvs,H p=some (.dK kvs)/\k=!kvs.isEmpty:=e;rcases e' with ⟨xs,hx,e'⟩|⟨xs,hx,e'⟩|⟨kvs,hx,e'⟩
  ·subst e';obtain⟨ab,r,pl,hz⟩:=I.list hx;have aa:=r.length;exact wpAny_truthy_list pl.isList (by simp only[df];omega) ⟨H,I.tok _,by rw[An r];exact q⟩
  ·subst e';obtain⟨ab,r,pl,hz⟩:=I.tuple hx;have aa:=r.length;exact truthy_tuple pl (by simp only[df];omega) ⟨H,I.tok _,by rw[An r];exact q⟩
  ·subst e';obtain⟨hz,hS,vs,r,m⟩:kvs.length<=cx/\(p==ly)=false/\∃vs,KV kvs vs/\s.heap.DictOf (cI X.prog X.w) p vs:=I.hok p _ hx;have aa:kvs.length=vs.length:=Paired.length r;exact wpAny_truthy_dict hS m yw ⟨H,I.tok _,by rw[Kf r];exact q⟩
 |_=>exact(show False from e).elim
theorem bW(ha:PE X a ta)(he:∀whole,isTrue a X.env whole=(do let v <- whole;standAt a.pos;holding [v] (truthy v))):
  PT X a (fun σ H Q=>ta σ H fun x H'=>∃k,TruV X.K x H' k/\Q k H'):=by
 intro ze s σ H Q I h;exact isTrue_plain (thn (ha ze s σ H _ I h) fun v s1 ⟨x,H1,I1,r1,q1⟩=>Kd ze s1 σ H1 x v Q I1 r1 q1) (he _)
theorem II:OpR X (lc .Add) (fun x y H Q=>∃i j,x=.str i/\y=.str j/\i.length+j.length<=cx/\Q (.str (i++j)) H):=by
 intro ze s σ H x y v u Q I rx ry h;obtain⟨i,j,rfl,rfl,hz,q⟩:=h;obtain⟨t,rfl⟩:=rx;obtain⟨t',rfl⟩:=ry;exact add_str (fun t' tk=>⟨.str (i++j),H,I.tok _,⟨_,rfl⟩,q⟩) hz
theorem vals1{x:V}{us:List bn}(r:Vals [x] us):∃u,us=[u]/\RelV x u:=by
 cases r with
 |cons r1 r2=>cases r2;exact⟨_,rfl,r1⟩
theorem vals2{x y:V}{us:List bn}(r:Vals [x,y] us):∃u w',us=[u,w']/\RelV x u/\RelV y w':=by
 cases r with
 |cons r1 r2=>
  cases r2 with
  |cons r3 r4=>cases r4;exact⟨_,_,rfl,r1,r3⟩
theorem A1:CallR X (.builtin "abs") (fun xs H Q=>∃i,xs=[.int i]/\Q (.int (if i<0 then -i else i)) H):=by
 intro ze s σ H xs us Q I r h;obtain⟨i,rfl,q⟩:=h;obtain⟨u,rfl,t,rfl⟩:=vals1 r;exact call_abs_int fun u tk=>⟨.int (if i<0 then -i else i),H,I.tok _,⟨_,rfl⟩,q⟩
theorem G7(hc:X.calm=true):CallR X (.builtin "max") (fun xs H Q=>∃i j,xs=[.int i,.int j]/\Q (.int (if j>i then j else i)) H):=by
 intro ze s σ H xs us Q I r h;obtain⟨i,j,rfl,q⟩:=h;obtain⟨u,w',rfl,⟨t,rfl⟩,⟨t',rfl⟩⟩:=vals2 r;refine max_two_ints (I.ok.hd hc) fun h' tk k=>⟨_,H,I.kept k,?_,q⟩;by_cases hj:j>i
 ·rw[ck hj,ck hj];exact⟨_,rfl⟩
 ·rw[ci hj,ci hj];exact⟨_,rfl⟩
theorem Hq(hc:X.calm=true):CallR X (.builtin "min") (fun xs H Q=>∃i j,xs=[.int i,.int j]/\Q (.int (if j<i then j else i)) H):=by
 intro ze s σ H xs us Q I r h;obtain⟨i,j,rfl,q⟩:=h;obtain⟨u,w',rfl,⟨t,rfl⟩,⟨t',rfl⟩⟩:=vals2 r;refine min_two_ints (I.ok.hd hc) fun h' tk k=>⟨_,H,I.kept k,?_,q⟩;by_cases hj:j<i
 ·rw[ck hj,ck hj];exact⟨_,rfl⟩
 ·rw[ci hj,ci hj];exact⟨_,rfl⟩
theorem Ey:CallR X (.type "int") (fun xs H Q=>(∃i,xs=[.int i]/\Q (.int i) H)\/∃k,xs=[.bl k]/\Q (.int (if k then 1 else 0)) H):=by
 intro ze s σ H xs us Q I r h;rcases h with ⟨i,rfl,q⟩|⟨k,rfl,q⟩
 ·obtain⟨u,rfl,t,rfl⟩:=vals1 r;exact call_int_int ⟨.int i,H,I,⟨_,rfl⟩,q⟩
 ·obtain⟨u,rfl,r1⟩:=vals1 r;cases r1;exact call_int_bool ⟨.int (if k then 1 else 0),H,I.tok _,⟨_,rfl⟩,q⟩
end
end
section
structure ObjM(h:Heap)(x dx C:Addr)(mA:Str->Option bn):Prop where
 obj:h.get? x=some (W.instObj C dx)
 ns:h.Ns1 dx mA
 ne:dx≠x
theorem K6{h:Heap}{dx:Addr}{mA:Str->Option bn}(n:h.Ns1 dx mA):∃od,h.get? dx=some od/\∀name,W.lookIn name od=some (mA name):=by
 obtain⟨o,es,ep,ho,hd,hk,_,hm⟩:=n;refine⟨o,ho,fun name=>?_⟩;have e:=hm name;unfold nsFind findBy at e;rw[<- Array.find?_toList]at e;unfold W.lookIn;rw[hd];dsimp only;split
 ·rename_i y q;rw[q]at e;exact congrArg some e
 ·rename_i q;rw[q]at e;have a:es.toList.any (·.refKey)=false:=by
   rw[List.any_eq_false];intro y hy;obtain⟨z,t,aa⟩:=hk y (Array.mem_toList_iff.mp hy);simp[DictEntry.refKey,aa]
  have a':¬ es.toList.any (·.refKey)=true:=by rw[a];exact ji
  rw[ci a'];exact congrArg some e
theorem ObjM.look{h:Heap}{x dx C:Addr}{mA:Str->Option bn}(I:ObjM h x dx C mA):∃od,W.InstAt h x (W.instObj C dx) C (some od)/\∀name,W.lookIn name od=some (mA name):=
 let ⟨od,ho,hl⟩:=K6 I.ns
 ⟨od,⟨I.obj,rfl,rfl,ho⟩,hl⟩
theorem RelO.some_of{v:V}{o:Option bn}(r:RelO (some v) o):∃u,o=some u/\RelV v u:=by
 cases o with
 |none=>exact(show False from r).elim
 |some u=>exact⟨u,rfl,r⟩
section
variable {P:fx}{w:io}{H H':Hp}{h h':Heap}{a C dx:Addr}{fs fs':List (Str×V)}
theorem EO(hok:HOk P w H h)(e:H a=some (.ins C dx fs)):∃mA,ObjM h a dx C mA/\(∀f,RelO (fs.lookup f) (mA f))/\PySem.Within mA (fs.map (·.1))/\fs.length<=1000/\H dx=some (.own a):=by
 obtain⟨d,z,ne,ob,mA,n,r,q⟩:=(show ObjOk P w H h a (.ins C dx fs)from hok a _ e);exact⟨mA,⟨ob,n,ne⟩,r,q,z,d⟩
end
structure Cls(K:cy)(C:Addr):Prop where
 pg:W.plainGet K C Str.empty=true
 hd:W.hasDictIn K C=true
 po:W.plainOver K C=true
 sa:W.findIn K (.ref C) "__setattr__" = some (some (.builtin "object.__setattr__"))
theorem Cls.get{K:cy}{C:Addr}(c:Cls K C)(f:Str):W.plainGet K C f=true:=c.pg
section
variable {X:Cx}{ze:List (Addr×Obj)}{σ:St}{H:Hp}{s:bq}{A:iz}{E:bn->bq->Prop}{Q:bn->bq->Prop}{c:bn}{b:Bool}
inductive TyOf (K:cy) (H:Hp):V->bn->Prop where
 |non:TyOf K H .non (.type "NoneType")
 |bl (x:Bool):TyOf K H (.bl x) (.type "bool")
 |int (i:Int):TyOf K H (.int i) (.type "int")
 |str (x:Str):TyOf K H (.str x) (.type "str")
 |flt (x:UInt64):TyOf K H (.flt x) (.type "float")
 |lst {a:Addr}{xs:List V} (e:H a=some (.lst xs)):TyOf K H (.ref a) (.type "list")
 |frz {a:Addr}{o:Obj}{xs:List V} (e:H a=some (.frz o (.lst xs))):TyOf K H (.ref a) (.type "list")
 |tup {a:Addr}{xs:List V} (e:H a=some (.tup xs)):TyOf K H (.ref a) (.type "tuple")
 |dK {a:Addr}{kvs:List (Key×V)} (e:Rd H a (.dK kvs)):TyOf K H (.ref a) (.type "dict")
 |dT {a:Addr}{kvs:List (List Key×V)} (e:Rd H a (.dT kvs)):TyOf K H (.ref a) (.type "dict")
 |ins {a C dx:Addr}{fs:List (Str×V)} (e:H a=some (.ins C dx fs)) (cl:Cls K C) (ha:W.findIn K (.ref C) "__class__" = some (some (.builtin "object.__class__")))
   (hn:W.specialIn K (.builtin "object.__class__") "__get__" = some (some (.builtin "getset_descriptor.__get__"))) (htk:W.takesIn K (.builtin "object.__class__")=some true)
   (hm:W.mroIn K C (.type "object")=some true):TyOf K H (.ref a) (.ref C)
theorem JA{x:V}{u t:bn}(I:Inv X ze σ H s)(rx:RelV x u)(ty:TyOf X.K H x t)(e:W.kitOne X.K t c=some b)(h:∀tk,Q (.bool b) { s with toks:=tk }):
  cw (model X.prog X.w) A (call (.builtin "isinstance") [u,c]) Q E s:=by
 cases ty with
 |non=>cases (show u=qg from rx);exact qb W.kitx_none I.kIn pc e (fun z=>nomatch z) h
 |bl y=>cases (show u=Value.bool y from rx);exact qb W.kitx_bool I.kIn pc e (fun z=>nomatch z) h
 |int i=>obtain⟨t,q⟩:=(show ∃t,u=qo i t from rx);cases q;exact qb W.kitx_int I.kIn pc e (fun z=>nomatch z) h
 |str y=>obtain⟨t,q⟩:=(show ∃t,u=Value.str y t from rx);cases q;exact qb W.kitx_str I.kIn pc e (fun z=>nomatch z) h
 |flt y=>obtain⟨t,q⟩:=(show ∃t,u=Value.float y t from rx);cases q;exact qb W.kitx_float I.kIn pc e (fun z=>nomatch z) h
 | @lst a xs ea=>
  cases (show u=gm a from rx);obtain⟨_,_,n,_,h1⟩:=(show ObjOk X.prog X.w H s.heap a (.lst xs)from I.hok a _ ea);exact qb W.kitx_list I.kIn ⟨_,h1,rfl⟩ e (fun z=>nomatch z) h
 | @frz a ob xs ea=>
  cases (show u=gm a from rx);obtain⟨_,_,_,n,_,h1⟩:=(show ObjOk X.prog X.w H s.heap a (.frz ob (.lst xs))from I.hok a _ ea);exact qb W.kitx_list I.kIn ⟨_,h1,rfl⟩ e (fun z=>nomatch z) h
 | @tup a xs ea=>
  cases (show u=gm a from rx);obtain⟨_,_,_,p⟩:=(show ObjOk X.prog X.w H s.heap a (.tup xs)from I.hok a _ ea);obtain⟨o,h1,h2,_⟩:=p;exact qb W.kitx_tuple I.kIn ⟨o,h1,h2⟩ e (fun z=>nomatch z) h
 | @dK a kvs ea=>
  cases (show u=gm a from rx);obtain⟨_,_,vs,_,p⟩:=(show ObjOk X.prog X.w H s.heap a (.dK kvs)from ea.ok I.hok);obtain⟨o,es,ep,h1,h2,_⟩:=p;exact qb W.kitx_dict I.kIn ⟨o,h1,h2.1⟩ e (fun z=>nomatch z) h
 | @dT a kvs ea=>
  cases (show u=gm a from rx);obtain⟨_,_,xs,_,o,es,ep,h1,h2,_⟩:=(show ObjOk X.prog X.w H s.heap a (.dT kvs)from ea.ok I.hok);exact qb W.kitx_dict I.kIn ⟨o,h1,h2.1⟩ e (fun z=>nomatch z) h
 | @ins a C dx fs ea cl ha hn htk hm=>
  cases (show u=gm a from rx);obtain⟨mA,O,_⟩:=EO I.hok ea;obtain⟨od,J,_⟩:=O.look;exact qb (W.kitx_own (cl.get _) cl.hd ha hn htk hm) I.kIn J e (fun z=>nomatch z) h
end
end
section
structure Room(k:Nat)(A:iz):Prop where
 hd:A.handled=none
 dp:A.depth+3*k+5<recursionLimit
 un:A.units+16*k+200<cLine
theorem Room.mono{j k:Nat}{A:iz}(r:Room k A)(h:j<=k):Room j A:=⟨r.hd,by have:=r.dp;omega,by have:=r.un;omega⟩
theorem Room.deeper{k:Nat}{A:iz}(r:Room (k+1) A)(env:Env):Room k (A.deeper env):=
 ⟨r.hd,by have:=r.dp;show A.depth+1+3*k+5<_;omega,by have:=r.un;show A.units+3+16*k+200<_;omega⟩
theorem Room.depth{k:Nat}{A:iz}(r:Room k A):A.depth<recursionLimit:=by have:=r.dp;omega
theorem Room.units{k:Nat}{A:iz}(r:Room k A):A.units+64<cLine:=by have:=r.un;omega
def jD:TA:=fun _ H Q=>Q [] H
def cZ(ta:TE)(tr:TA):TA:=fun σ H Q=>ta σ H fun x H1=>tr σ H1 fun xs H2=>Q (x::xs) H2
section
variable {X:Cx}{e:Expr}{es:List Expr}{te:TE}{t:TA}{pos:Pos}
theorem zd:PA X [] jD:=fun _ _ _ _ H Q I h=>Calls.spliced_nil ⟨[],H,I,.nil,h⟩
theorem za(ha:PE X e te)(hr:PA X es t)(hs:fq (e::es) X.env=(false,eval e X.env)::fq es X.env:=by rfl):PA X (e::es) (cZ te t):=by
 intro pos ze s σ H Q I h;rw[hs];show cw _ _ (spliced ((false,eval e X.env)::ky pos (fq es X.env))) _ _ s;refine Calls.spliced_cons (thn (ha ze s σ H _ I h) fun u s1 ⟨x,H1,I1,r1,q1⟩=>?_);exact thn (hr pos ze s1 σ H1 _ I1 q1) fun us s2 ⟨xs,H2,I2,r2,q2⟩=>⟨x::xs,H2,I2,.cons r1 r2,q2⟩
def vX(t:TA):TE:=fun σ H Q=>t σ H fun xs H1=>xs.length<=cx/\∀p,H1 p=none->Q (.ref p) (upd H1 p (.tup xs))
def j7(t:TA):TE:=fun σ H Q=>t σ H fun xs H1=>xs.length<=cx/\∀p,H1 p=none->Q (.ref p) (upd H1 p (.lst xs))
theorem bC{x1}(h:PA X es t):PE X (.Tuple es x1 pos) (vX t):=by
 intro ze s σ H Q I hq;refine wpAny_Tuple_spliced (thn (h pos ze s σ H _ I hq) fun us s1 ⟨xs,H1,I1,r,z,q⟩=>⟨by rw[<- r.length];exact z,?_⟩);have hf:H1 s1.heap.objs.size=none:=I1.hok.fresh (cu _);refine⟨.ref s1.heap.objs.size,upd H1 s1.heap.objs.size (.tup xs),I1.laid (t':=s1.toks) (fun b u e=>bw _ e) (cu _) ?_,rfl,q _ hf⟩;exact⟨⟨z,_,fj _ rfl,rfl⟩,us,r,⟨_,fj _ rfl,rfl,_,rfl⟩⟩
theorem cT(h:PA X es t):PE X (.List es pos) (j7 t):=by
 intro ze s σ H Q I hq;refine wpAny_List_spliced (thn (h pos ze s σ H _ I hq) fun us s1 ⟨xs,H1,I1,r,z,q⟩=>⟨by rw[<- r.length];exact z,?_⟩);have hf:H1 s1.heap.objs.size=none:=I1.hok.fresh (cu _);refine⟨.ref s1.heap.objs.size,upd H1 s1.heap.objs.size (.lst xs),I1.laid (t':=s1.toks) (fun b u e=>bw _ e) (cu _) ?_,rfl,q _ hf⟩;exact⟨z,us,0,r,fj _ rfl⟩
end
abbrev Sp:=List V->Hp->VK->XK->Prop
abbrev CXT:=List Env->Hp->bq->XK->bn->bq->Prop
structure Env0(P:fx)(w:io)(K:cy)(mg:Str->Option bn)(base:Heap)(A:iz)(outer:List Env)(s:bq)(H:Hp):Prop where
 frames:A.frames=some outer
 mod:Mod K mg base
 bs:∀b o,base.get? b=some o->s.heap.get? b=some o/\H b=none
 bsz:base.objs.size<=s.heap.objs.size
 funs:s.heap.FunFrames base outer
 frf:Frf (frs outer) H
 hok:HOk P w H s.heap
 bare:AllBare s.gens
def CE(outer:List Env)(P:fx)(w:io)(H:Hp)(s:bq)(Q:VK)(u:bn)(s':bq):Prop:=
 ∃v H',s'.os=s.os/\AllBare s'.gens/\Un (frs outer) [] H H' s.heap s'.heap/\HOk P w H' s'.heap/\RelV v u/\Q v H'
def CR(CX:CXT)(outer:List Env)(P:fx)(w:io)(H:Hp)(s:bq)(Q:VK)(E:XK)(r:Result)(s':bq):Prop:=
 match r with
 | .ok (.ret u)=>CE outer P w H s Q u s'
 | .ok _=>False
 | .error e=>CX outer H s E e s'
structure FnOk(P:fx)(w:io)(K:cy)(mg:Str->Option bn)(base:Heap)(CX:CXT)(k:Nat)(f:Addr)(fd:pj)(ps:List Str)(sp:Sp):Prop where
 len:∀vs H Q E,sp vs H Q E->vs.length=ps.length
 run:∀(A:iz) (outer:List Env) (s:bq) (H:Hp) (args:Args) (us:List bn) (vs:List V) (Q:VK) (E:XK),Room k A->Env0 P w K mg base A outer s H->BindsTo s fd args (ps.zip us)->Vals vs us->sp vs H Q E ->
  codeAny (model P w) A (.call (.ref f) args) (CR CX outer P w H s Q E) s
section
variable {X:Cx}{ze:List (Addr×Obj)}{σ:St}{H:Hp}{s s':bq}
theorem Inv.env0(I:Inv X ze σ H s):Env0 X.prog X.w X.K X.mg X.base X.A X.stack s H:=
 ⟨I.ok.frames,I.ok.mod,I.bs,lm I.ok.bsz I.sz,I.stack,I.stkFree,I.hok,I.bare⟩
theorem Inv.after{Q:VK}{u:bn}(I:Inv X ze σ H s)(h:CE X.stack X.prog X.w H s Q u s'):EP X ze σ Q u s':=by
 obtain⟨v,H',os,bare,un,hok,r,q⟩:=h;obtain⟨hh,g,d,t,y⟩:=s';obtain rfl:y=s.os:=os;exact⟨v,H',I.call (h':=hh) (g':=g) (d':=d) (t':=t) (ch:=[]) un hok bare (fun b z=>absurd z yv),r,q⟩
end
def fR(sp:Sp)(dvs:List V)(E:XK)(t:TA):TE:=fun σ H Q=>t σ H fun vs H1=>sp (vs++dvs) H1 Q E
def Binds(K:cy)(fd:pj)(ps:List Str)(ds:List bn):Prop:=
 ∀(s:bq) (us:List bn),K.In s.heap->(us++ds).length=ps.length->BindsTo s fd ⟨us,[]⟩ (ps.zip (us++ds))
theorem Binds.all{K:cy}{fd:pj}{ps:List Str}(h:∀us:List bn,us.length=ps.length->bindArgs fd ⟨us,[]⟩=pure (ps.zip us)):Binds K fd ps []:=fun s us _ hl=>by
 rw[kc]at hl ⊢;exact .of_eq (h us hl)
def Passes(CX:CXT)(X:Cx)(E:XK):Prop:=∀(ze:List (Addr×Obj)) (σ:St) (H:Hp) (s:bq) (e:bn) (s':bq),Inv X ze σ H s->CX X.stack H s E e s'->X.xe e s'
section
variable {X:Cx}{CX:CXT}{k:Nat}{f C:Addr}{fd:pj}{ps:List Str}{sp:Sp}{dvs:List V}{ds:List bn}{E:XK}{x m:Str}{p pos apos:Pos}{e o:Expr}{es:List Expr}{ta:TE}{t:TA}
theorem Jg{ze:List (Addr×Obj)}{σ:St}{H:Hp}{s:bq}{Q:VK}{us:List bn}{vs:List V}(F:FnOk X.prog X.w X.K X.mg X.base CX k f fd ps sp)(hr:Room k X.A)(hb:Binds X.K fd ps ds)(hd:Vals dvs ds)(hx:Passes CX X E)
  (I:Inv X ze σ H s) (r:Vals vs us) (h:sp (vs++dvs) H Q E):cw (model X.prog X.w) X.A (call (.ref f) us) (EP X ze σ Q) X.xe s:=by
 have r2:Vals (vs++dvs) (us++ds):=r.append hd;have hl:(us++ds).length=ps.length:=by rw[<- r2.length];exact F.len _ _ _ _ h
 refine wpAny_call (codeAny_mono (F.run X.A X.stack s H ⟨us,[]⟩ (us++ds) (vs++dvs) Q E hr I.env0 (hb s us I.kIn hl) r2 h) fun r s' hq=>?_);cases r with
 |error e=>exact hx ze σ H s e s' I hq
 |ok fl=>
  cases fl with
  |ret u=>exact I.after hq
  |next=>exact oy hq
  |brk=>exact oy hq
  |cont=>exact oy hq
theorem vJ(F:FnOk X.prog X.w X.K X.mg X.base CX k f fd ps sp)(hr:Room k X.A)(hg:Gl X x)(hm:X.mg x=some (.ref f))(hk:W.keepIn X.K (.ref f)=true)(hb:Binds X.K fd ps ds)(hd:Vals dvs ds)(hx:Passes CX X E)
  (ha:PA X (e::es) t) (hdb:(x==("__debug__":Str))=false:=by decide) (he:fq (e::es) X.env=(false,eval e X.env)::fq es X.env:=by rfl) (hpl:(ky pos (fq es X.env)).any (·.1)=false:=by rfl):
  PE X (.Call (.Name x p) (e::es) [] pos) (fR sp dvs E t):=by
 intro ze s σ H Q I h;refine ng (Eu I hg hm ?_ hdb);refine W.callWith_K (h₀:=X.base) I.ok.mod.kin hk (thn (ha pos ze s σ H _ I h) fun us s1 ⟨vs,H1,I1,r,q⟩=>⟨I1.kIn,?_⟩) he hpl;exact Jg F hr hb hd hx I1 r q
end
structure FnScope(N P:List Str)(sc:Scope):Prop where
 kind:sc.kind=.function
 co:sc.isCoroutine=false
 gen:sc.isGenerator=false
 nd:N.Nodup
 pre:N.take P.length=P
 par:∀x∈P,sc.names.lookup x=some .local\/sc.names.lookup x=some .cell
 nofree:∀y∈sc.names,y.2≠.free
theorem At{q:Str->Option oh}{x:Str}:∀{binds:List (Str×bn)}{m:Str->Option bn},(∀v,(x,v)∉binds)->bindL q binds m x=m x
 | [],_,_=>rfl
 | (n,v)::r,m,h=>by
  unfold bindL;rw[At fun w hw=>h w (cz _ hw)];split
  ·have:x≠n:=by rintro rfl;exact h v fu
   simp[this]
  ·rfl
theorem xG{q:Str->Option oh}{x:Str}:∀{binds:List (Str×bn)}{m:Str->Option bn},(∀v,(x,v)∉binds)->bindC q binds m x=m x
 | [],_,_=>rfl
 | (n,v)::r,m,h=>by
  unfold bindC;rw[xG fun w hw=>h w (cz _ hw)];split
  ·rfl
  ·have:x≠n:=by rintro rfl;exact h v fu
   simp[this]
theorem Ai{q:Str->Option oh}{x:Str}{v:bn}:∀{P:List Str}{vs:List bn}{i:Nat}{m:Str->Option bn},P.Nodup->P[i]?=some x->vs[i]?=some v->q x=some .local ->
  bindL q (P.zip vs) m x=some v
 | [],_,_,_,_,h,_,_=>by simp at h
 |_::_,[],_,_,_,_,h,_=>by simp at h
 |p::P,w::vs,0,m,nd,h1,h2,hk=>by
  simp at h1 h2;subst h1;subst h2;show bindL q ((p,w)::P.zip vs) m p=_;unfold bindL;rw[At fun v hv=>(nodup_cons.mp nd).1 (of_mem_zip hv).1,ck hk];simp
 |p::P,w::vs,i+1,m,nd,h1,h2,hk=>by
  show bindL q ((p,w)::P.zip vs) m x=_;unfold bindL;exact Ai (i:=i) (nodup_cons.mp nd).2 (by simpa using h1) (by simpa using h2) hk
theorem De{q:Str->Option oh}{x:Str}{v:bn}:∀{P:List Str}{vs:List bn}{i:Nat}{m:Str->Option bn},P.Nodup->P[i]?=some x->vs[i]?=some v->q x≠some .local ->
  bindC q (P.zip vs) m x=some v
 | [],_,_,_,_,h,_,_=>by simp at h
 |_::_,[],_,_,_,_,h,_=>by simp at h
 |p::P,w::vs,0,m,nd,h1,h2,hk=>by
  simp at h1 h2;subst h1;subst h2;show bindC q ((p,w)::P.zip vs) m p=_;unfold bindC;rw[xG fun v hv=>(nodup_cons.mp nd).1 (of_mem_zip hv).1,ci hk];simp
 |p::P,w::vs,i+1,m,nd,h1,h2,hk=>by
  show bindC q ((p,w)::P.zip vs) m x=_;unfold bindC;exact De (i:=i) (nodup_cons.mp nd).2 (by simpa using h1) (by simpa using h2) hk
def start(N:List Str)(vs:List V):St:=vs.map some++bu (N.length-vs.length) none
def eG(CX:CXT)(P:fx)(w:io)(K:cy)(mg:Str->Option bn)(base:Heap)(N:List Str)(q:Str)(scope:Scope)(f:Addr)(cd:bn)(A:iz)(outer:List Env)(s:bq)(H:Hp)(E:XK):Cx where
 prog:=P
 w:=w
 K:=K
 mg:=mg
 base:=base
 A:=A.deeper (si q scope s.heap.objs.size f cd)
 N:=N
 s₀:=s
 H₀:=H
 env:=si q scope s.heap.objs.size f cd
 outer:=outer
 stack:=si q scope s.heap.objs.size f cd::outer
 ex:=[]
 calm:=true
 fn:=fun _=>true
 pn:=[]
 xe:=fun e s'=>cw (model P w) (A.deeper (si q scope s.heap.objs.size f cd)) (leaving (si q scope s.heap.objs.size f cd) e) (fun _ s''=>CX outer H s E e s'') (fun e' s''=>CX outer H s E e' s'') s'
theorem BB{sc:Scope}{n:Nat}{x:Str}(h:sc.names.lookup x=some .cell):∃c,(cellsFrom n sc.names []).lookup x=some c:=by
 have q:=W.cellsFrom_some sc.names n [] (.inl h);exact isSome_iff_exists.mp q
theorem JU{CX:CXT}{P:fx}{w:io}{K:cy}{mg:Str->Option bn}{base:Heap}{N ps:List Str}{aa:Str}{scope:Scope}{f:Addr}{cd:bn}{A:iz}{outer:List Env}{s s1:bq}{H:Hp}{E:XK}{us:List bn}{vs:List V}
  (S:FnScope N ps scope) (hd:A.handled=none) (e0:Env0 P w K mg base A outer s H) (hl:vs.length=ps.length) (r:Vals vs us)
  (x:InCallC s s.heap.objs.size (bindL (si aa scope s.heap.objs.size f cd).kindOf (ps.zip us) fun _=>none) (cellsFrom (s.heap.objs.size+1) scope.names []) (bindC (si aa scope s.heap.objs.size f cd).kindOf (ps.zip us) fun _=>none) s1):
  Inv (eG CX P w K mg base N aa scope f cd A outer s H E) [] (start N vs) H s1:=by
 have ae:ps.length<=N.length:=by have:=congrArg rp S.pre;rw[ju]at this;omega
 obtain⟨h1,tk,rfl,hk⟩:=x.done;have ab:∀b:Addr,b∉(eG CX P w K mg base N aa scope f cd A outer s H E).ex:=fun b z=>absurd (show b∈([]:List Addr)from z) yv;refine⟨⟨e0.mod,S.kind,rfl,rfl,cu _,fun y z c h1 h2=>?_,fun y hy=>?_,fun y c _ h=>?_,fun _=>hd,Around.frames_deeper e0.frames,.inr ⟨rfl,rfl⟩,fun b z=>absurd z (ab b),e0.bs,e0.bsz,fun b _ _=>ab b,fun b z=>absurd z (ab b),e0.funs,e0.frf⟩,
  rfl,e0.bare,Un.kept hk,⟨_,x.toInCall.ns,fun i y v h1 h2 h3=>?_⟩,fun y c h=>⟨_,x.cell y c h⟩,e0.hok.fresh (cu _),fun y c h=>?_,fun p hp=>absurd (show p∈([]:List (Addr×Obj))from hp) yv,e0.hok.kept hk,?_⟩
 ·exact name_of_addr x.apart (PySem.mem_of_lookup h1) (PySem.mem_of_lookup h2)
 ·have hy:scope.names.lookup y=some .cell\/scope.names.lookup y=some .free:=hy;rcases hy with hy|hy
  ·exact BB hy
  ·exact absurd rfl (S.nofree _ (PySem.mem_of_lookup hy))
 ·exact ko (x.above y c (PySem.mem_of_lookup h))
 ·have hi:i<vs.length:=by
   unfold start at h2;by_cases hi:i<vs.length
   ·exact hi
   ·rw[List.getElem?_append_right (by simpa using hi)]at h2;rw[List.getElem?_replicate]at h2;split at h2<;>cases h2
  have ha:vs[i]?=some v:=by
   unfold start at h2;rw[gk (by simpa using hi),gg]at h2;cases e:vs[i]? with
   |none=>rw[e]at h2;cases h2
   |some a=>rw[e]at h2;cases h2;rfl
  obtain⟨u,hu,rv⟩:=r.get ha;have hp:ps[i]?=some y:=by
   rw[<- S.pre,List.getElem?_take_of_lt yw];exact h1
  have ac:ps.Nodup:=by rw[<- S.pre];exact S.nd.sublist (List.take_sublist _ _)
  refine⟨u,rv,?_⟩;rcases S.par y (bt hp)with k|k
  ·exact .inl ⟨k,Ai ac hp hu k⟩
  ·obtain⟨c,e⟩:=BB (n:=s.heap.objs.size+1) k;refine .inr ⟨.inl k,c,e,?_⟩;have q:=x.cell y c e;rw[De ac hp hu (by show scope.names.lookup y≠_;rw[k];decide)]at q;exact q
 ·exact e0.hok.fresh (ko (x.above y c (PySem.mem_of_lookup h)))
 ·unfold start;show _=N.length;rw[fv,dh,List.length_replicate];omega
theorem GW{CX:CXT}{P:fx}{w:io}{K:cy}{mg:Str->Option bn}{base:Heap}{k:Nat}{f:Addr}{name aa:Str}{ac:Arguments}{ae:List Stmt}{scope:Scope}{dV kV ah pm ab ct oc:bn}{an od:Option Addr}
  {osl:Array (Option bn)}{N ps:List Str}{sp:Sp} (lk:K.lookup f=some ⟨oc,od,.func (W.fnOf name aa ac ae scope dV kV ah pm an ab ct),osl⟩) (hcd:W.codeIn K ab aa=true) (S:FnScope N ps scope)
  (len:∀vs H Q E,sp vs H Q E->vs.length=ps.length)
  (hbody:∀(A:iz) (outer:List Env) (s:bq) (H:Hp) (vs:List V) (Q:VK) (E:XK),Room k (A.deeper (si aa scope s.heap.objs.size f ab))->sp vs H Q E ->
   ∃t,PSs (eG CX P w K mg base N aa scope f ab A outer s H E) ae t/\t { nx:=fun _ H'=>Q .non H',rt:=Q } (start N vs) H):
  FnOk P w K mg base CX (k+1) f (W.fnOf name aa ac ae scope dV kV ah pm an ab ct) ps sp:=by
 refine⟨len,fun A outer s H args us vs Q E hr e0 hb r ag=>?_⟩;have hl:=len _ _ _ _ ag;have KX:K.In s.heap:=e0.mod.kin.keeps fun b o e=>(e0.bs b o e).1;have ai:s.heap.NoLimit:=e0.mod.nolimit.keeps fun b o e=>(e0.bs b o e).1;have af:∀y∈ps.zip us,scope.names.lookup y.1=some .local\/(scope.names.lookup y.1=some .cell/\((cellsFrom (s.heap.objs.size+1) scope.names []).lookup y.1).isSome=true):=fun⟨n,v⟩ hy=>by
  rcases S.par n (of_mem_zip hy).1 with q|q
  ·exact .inl q
  ·exact .inr ⟨q,W.cellsFrom_some _ _ _ (.inl q)⟩
 refine codeAny_call_function hr.depth (KX _ _ lk) rfl S.co S.gen rfl (W.codeRec_of KX hcd) (hb _ _ _ _ ?_);refine wpAny_newFunctionEnv_cells S.kind af fun env he s1 x=>?_;subst he;refine⟨ai.keeps x.toInCall.keep,codeAny_func ?_⟩;obtain⟨t,ht,hq⟩:=hbody A outer s H vs Q E (hr.deeper _) ag;have I:Inv (eG CX P w K mg base N aa scope f ab A outer s H E) [] (start N vs) H s1:=JU S hr.hd e0 hl r x;refine ox (ht [] s1 (start N vs) H _ I hq) (fun fl s' hs=>?_) fun e s' hs=>hs;have fin:∀{σ':St}{H':Hp}{v:V}{u:bn},Inv (eG CX P w K mg base N aa scope f ab A outer s H E) [] σ' H' s'->RelV v u->Q v H'->CE outer P w H s Q u s':=
  fun {σ' H' v u} J rv q=>⟨v,H',J.os,J.bare,J.base,J.hok,rv,q⟩
 cases fl with
 |ret u=>
  obtain⟨v,σ',H',J,rv,q⟩:=hs;exact fin J rv q
 |next=>
  obtain⟨σ',H',J,q⟩:=hs;exact fin (v:=V.non) (u:=qg) J rfl q
 |brk=>
  obtain⟨_,_,_,q⟩:=hs;exact oy q
 |cont=>
  obtain⟨_,_,_,q⟩:=hs;exact oy q
end
section
section
variable {X:Cx}{x:Str}{p pos:Pos}{e:Expr}{es:List Expr}{t:TA}{id T:String}{r:List V->Hp->VK->Prop}
def tCB(r:List V->Hp->VK->Prop)(t:TA):TE:=fun σ H Q=>t σ H fun vs H1=>r vs H1 Q
theorem zn(hc:CallR X (.builtin id) r)(hg:Gl X x)(hm:X.mg x=none)(hv:iy x=some (.builtin id))(ha:PA X (e::es) t)(hn:x ≠ "__name__":=by decide)(q:(x==("__debug__":Str))=false:=by decide)
  (he:fq (e::es) X.env=(false,eval e X.env)::fq es X.env:=by rfl) (hpl:(ky pos (fq es X.env)).any (·.1)=false:=by rfl):PE X (.Call (.Name x p) (e::es) [] pos) (tCB r t):=by
 intro ze s σ H Q I h;refine ng (eO I hg hm hv ?_ hn q);exact PyProof.Rows.callWith_builtin1 (thn (ha pos ze s σ H _ I h) fun us s1 ⟨vs,H1,I1,r1,q1⟩=>hc ze s1 σ H1 vs us Q I1 r1 q1) he hpl
theorem sI(hc:CallR X (.type T) r)(hg:Gl X x)(hm:X.mg x=none)(hv:iy x=some (.type T))(ha:PA X (e::es) t)(hn:x ≠ "__name__":=by decide)(q:(x==("__debug__":Str))=false:=by decide)
  (he:fq (e::es) X.env=(false,eval e X.env)::fq es X.env:=by rfl) (hpl:(ky pos (fq es X.env)).any (·.1)=false:=by rfl):PE X (.Call (.Name x p) (e::es) [] pos) (tCB r t):=by
 intro ze s σ H Q I h;refine ng (eO I hg hm hv ?_ hn q);exact km (thn (ha pos ze s σ H _ I h) fun us s1 ⟨vs,H1,I1,r1,q1⟩=>hc ze s1 σ H1 vs us Q I1 r1 q1) he hpl
end
end
end L2
namespace HT
open PySem PyProof.Rows
def lexLt:List Int->List Int->Bool
 | [],[]=>false
 | [],_::_=>true
 |_::_,[]=>false
 |x::xs,y::ys=>if x=y then lexLt xs ys else decide (x<y)
theorem lexLt_cons(x y:Int)(xs ys:List Int):lexLt (x::xs) (y::ys)=if x=y then lexLt xs ys else decide (x<y):=rfl
section
variable {prog:fx}{w:io}{A:iz}{E:bn->bq->Prop}{s:bq}
theorem cat_tup{t b:Addr}{vs ws:List bn}{Q:bn->bq->Prop}(ht:IsTup s.heap t vs.toArray)(hb:IsTup s.heap b ws.toArray)(hv:vs≠[])
  (h1:ws=[]->Q (.ref t) s) (h2:ws≠[]->Q (.ref s.heap.objs.size) { s with heap:=s.heap.push { cls:=.type "tuple",data:=.seq (vs++ws).toArray } })
  (hsz:vs.length+ws.length<=cx):cw (model prog w) A (lc .Add (.ref t) (.ref b)) Q E s:=by
 obtain⟨⟨cls,dd,data,sl⟩,ho,hc,n,hd⟩:=id ht;obtain⟨⟨af,y,ae,aa⟩,q,ac,n2,ab⟩:=id hb;simp only at hc hd ac ab;subst hc hd ac ab;have e:vs.toArray++ws.toArray=(vs++ws).toArray:=by simp
 by_cases hw:ws=[]
 ·exact concat_meets ⟨_,ho,rfl⟩ ⟨_,q,rfl⟩ noFill_tuple_add seq_tuple_add PySem.F.slot_tuple_add PySem.F.entry_tuple_add (PySem.F.args_tuple_add_2 _ _)
   (tuple_addW1 t b vs.toArray ws.toArray n n2 dd y sl aa (by simpa using hv) (by simp[hw])) ⟨ho,q,h1 hw⟩
 ·refine concat_meets ⟨_,ho,rfl⟩ ⟨_,q,rfl⟩ noFill_tuple_add seq_tuple_add PySem.F.slot_tuple_add PySem.F.entry_tuple_add (PySem.F.args_tuple_add_2 _ _)
   (tuple_addW2 t b vs.toArray ws.toArray n n2 dd y sl aa (by simpa using hv) (by simpa using hw) (by rw[df,df];exact hsz)) ⟨ho,q,?_⟩
  rw[e];exact h2 hw
def sIx(n d:Nat):Option Int->Nat
 |none=>d
 |some v=>if v<0 then (v+(n:Int)).toNat else min v.toNat n
theorem sIx_nat(n d k:Nat):sIx n d (some (k:Int))=min k n:=by
 show (if (k:Int)<0 then ((k:Int)+(n:Int)).toNat else min (k:Int).toNat n)=min k n;rw[ci yw,Int.toNat_natCast]
theorem IN(n d:Nat)(hd:d<=n)(o:Option Int):sIx n d o<=n:=by
 cases o with
 |none=>exact hd
 |some v=>
  show (if v<0 then (v+(n:Int)).toNat else min v.toNat n)<=n;by_cases hv:v<0
  ·rw[ck hv];omega
  ·rw[ci hv];exact Nat.min_le_right _ _
theorem wU(v:Int)(n d:Nat):(if v<0 then max (v+(n:Int)) 0 else min v (n:Int))=((sIx n d (some v):Nat):Int):=by
 show (if v<0 then max (v+(n:Int)) 0 else min v (n:Int))=(((if v<0 then (v+(n:Int)).toNat else min v.toNat n):Nat):Int);by_cases hv:v<0
 ·simp only[ck hv];omega
 ·simp only[ci hv];omega
theorem Gm(lo hi:Option Int)(n:Nat):Builtin.Slice.sliceAdjust lo hi 1 (n:Int)=(((sIx n 0 lo:Nat):Int),((sIx n n hi:Nat):Int)):=by
 have h1:¬((1:Int)<0):=yw
 unfold Builtin.Slice.sliceAdjust;simp only[h1,if_false];refine Prod.ext ?_ ?_
 ·cases lo with
  |none=>rfl
  |some v=>exact wU v n 0
 ·cases hi with
  |none=>rfl
  |some v=>exact wU v n n
theorem Io(i j:Nat):Builtin.Slice.slicePlaces (i:Int) (j:Int) 1=j-i:=by
 unfold Builtin.Slice.slicePlaces;have h1:(1:Int)>0:=yw
 simp only[h1,if_true,Int.ediv_one];split<;>omega
theorem Ci{v:bn}{o:Option Int}{Q:Option Int->bq->Prop}(p:IsPart v o)(h:Q o s):cw (model prog w) A (Builtin.Slice.slicePartIndex v) Q E s:=by
 cases p with
 |none=>exact slicePart_none h
 |int i t=>exact slicePart_int h
theorem D5{sl:Addr}{vl vu:bn}{lo hi:Option Int}{n:Nat}{Q:Int×Int×Nat->bq->Prop}(hs:s.heap.IsSliceOf sl vl vu .none)(pl:IsPart vl lo)(pu:IsPart vu hi)
  (h:Q (((sIx n 0 lo:Nat):Int),1,sIx n n hi-sIx n 0 lo) s):cw (model prog w) A (Builtin.Slice.sliceApplied (.ref sl) (pure (n:Int))) Q E s:=by
 obtain⟨os,y,aa,q⟩:=id hs;unfold Builtin.Slice.sliceApplied Builtin.Slice.sliceFields;refine bo (bo (ku y q (x:=vl) rfl (bo (ku y q (x:=vu) rfl (bo (ku y q (x:=.none) rfl (cm ?_)))))));refine bo (slicePart_none ?_);show cw _ _ (if ((1:Int)==0)=true then _ else _) _ _ s;rw[ci dz];refine bo (Ci pl (bo (Ci pu (bo (cm ?_)))));show cw _ _ (match Builtin.Slice.sliceAdjust lo hi 1 (n:Int)with|(lo,hi)=>pure (lo,(1:Int),Builtin.Slice.slicePlaces lo hi 1)) _ _ s;rw[Gm lo hi n];show cw _ _ (pure (((sIx n 0 lo:Nat):Int),(1:Int),Builtin.Slice.slicePlaces ((sIx n 0 lo:Nat):Int) ((sIx n n hi:Nat):Int) 1)) _ _ s;rw[Io];exact cm h
theorem Hd(xs:Array bn)(i k:Nat):((ga k).filterMap fun(m:Nat)=>xs[((i:Int)+(m:Int)*1).toNat]?).toArray=((xs.toList.drop i).take k).toArray:=by
 have e:(fun(m:Nat)=>xs[((i:Int)+(m:Int)*1).toNat]?)=fun m=>xs[i+m]?:=by
  funext m;have:((i:Int)+(m:Int)*1).toNat=i+m:=yw
  rw[this]
 rw[e];have:=pick_run xs i k;rw[List.filterMap_map]at this;have e2:((fun x=>xs[x]?)∘fun x=>i+x)=fun m=>xs[i+m]?:=rfl;rw[e2]at this;rw[this]
theorem getItem_tuple_cut{t sl:Addr}{items:Array bn}{vl vu:bn}{lo hi:Option Int}{Q:bn->bq->Prop}(ht:IsTup s.heap t items)(hs:s.heap.IsSliceOf sl vl vu .none)(pl:IsPart vl lo)(pu:IsPart vu hi)
  (hw:¬(sIx items.size 0 lo=0/\sIx items.size items.size hi=items.size))
  (h:Q (.ref s.heap.objs.size) { s with heap:=s.heap.push { cls:=.type "tuple",data:=.seq ((items.toList.drop (sIx items.size 0 lo)).take (sIx items.size items.size hi-sIx items.size 0 lo)).toArray } })
  (hsz:items.size<=cx):cw (model prog w) A (getItem (.ref t) (.ref sl)) Q E s:=by
 have y:sizeOk (.seq ((items.toList.drop (sIx items.size 0 lo)).take (sIx items.size items.size hi-sIx items.size 0 lo)).toArray):=by
  show ((items.toList.drop (sIx items.size 0 lo)).take (sIx items.size items.size hi-sIx items.size 0 lo)).toArray.size<=cx;rw[df,ju,ln,li];omega
 have hj:sIx items.size items.size hi<=items.size:=IN _ _ (cu _) hi;obtain⟨os,ac,ae,af⟩:=id hs;have ab:s.TypeIs (.ref sl) "slice":=⟨os,ac,ae⟩;unfold getItem
 try with_reducible refine ic ?_
 first|refine bo (cm ?_)|skip
 refine bo (wpAny_sequenceKey ht.typeIs dz ?_);refine bo (ke (name:=gx "__getitem__") ht.typeIs PyProof.Rows.slot_tuple_getitem
  (ld PyProof.Rows.slot_tuple_getitem ht.typeIs entry_tuple_getitem ?_ (args_tuple_getitem _ _)))
 show cw _ _ (Builtin.Tuple.tupleItemsOf (.ref t) >>= _) _ _ s;refine bo (tupleItemsOf_ ht ?_);refine bo (wpAny_typeOf ab ?_);rw[ck dz];refine bo (D5 hs pl pu ?_);have aa:¬((((sIx items.size 0 lo:Nat):Int)==0&&(1:Int)==1&&(sIx items.size items.size hi-sIx items.size 0 lo)==items.size)=true):=by
  intro q;rw[jw,jw]at q;have q1:((sIx items.size 0 lo:Nat):Int)=0:=eq_of_beq q.1.1;have q2:sIx items.size items.size hi-sIx items.size 0 lo=items.size:=eq_of_beq q.2;exact hw ⟨yw,yw⟩
 show cw _ _ (if (((sIx items.size 0 lo:Nat):Int)==0&&(1:Int)==1&&(sIx items.size items.size hi-sIx items.size 0 lo)==items.size)=true then _ else _) _ _ s;rw[ci aa,Hd]
 first
  |exact bo (m:=Builtin.Tuple.tupleExact _) (jz (cm ⟨_,rfl,cm h⟩) y)
  |exact bo (m:=Builtin.Tuple.tupleExact _) (jz (bo (cm (cm ⟨_,rfl,cm h⟩))) y)
  |exact bo (bo (m:=Builtin.Tuple.tupleExact _) (jz (cm (cm ⟨_,rfl,cm h⟩)) y))
  |exact bo (bo (m:=Builtin.Tuple.tupleExact _) (jz (cm ⟨_,rfl,cm h⟩) y))
end
end HT
namespace L2
open PySem PySem.Spec PyProof.Rows
section
abbrev TO:=St->Hp->(Option Int->Hp->Prop)->Prop
def PO(X:Cx)(e:Option Expr)(t:TO):Prop:=
 ∀(ze:List (Addr×Obj)) (s:bq) (σ:St) (H:Hp) (Q:Option Int->Hp->Prop),Inv X ze σ H s->t σ H Q ->
  cw (model X.prog X.w) X.A (evalPart e X.env) (fun u s'=>∃o H',Inv X ze σ H' s'/\IsPart u o/\Q o H') X.xe s
def AI:TO:=fun _ H Q=>Q none H
def kG(t:TE):TO:=fun σ H Q=>t σ H fun x H1=>∃i,x=.int i/\Q (some i) H1
theorem qB{ns:List Int}:∀{us:List bn},Vals (ns.map V.int) us->oo us ns:=by
 induction ns with
 |nil=>intro us r;rw[map_nil]at r;cases r;exact .nil
 |cons n ns ih=>
  intro us r;rw[fw]at r;cases r with
  |cons r1 r2=>
   obtain⟨t,e⟩:=r1;subst e;exact .cons n t (ih r2)
section
variable {X:Cx}{e:Expr}{te:TE}{lo hi:Option Expr}{tl th:TO}{pos p2:Pos}
theorem vD:PO X none AI:=by
 intro ze s σ H Q I h;rw[evalPart_none];exact cm ⟨none,H,I,.none,h⟩
theorem dR(h:PE X e te):PO X (some e) (kG te):=by
 intro ze s σ H Q I hw;rw[evalPart_some];refine thn (h ze s σ H _ I hw) fun u s1 ⟨x,H1,I1,r1,q1⟩=>?_;obtain⟨i,rfl,q⟩:=q1;obtain⟨t,rfl⟩:=r1;exact⟨some i,H1,I1,.int i t,q⟩
def SlR(X:Cx)(r:V->Option Int->Option Int->Hp->VK->Prop):Prop:=
 ∀(ze:List (Addr×Obj)) (s:bq) (σ:St) (H:Hp) (x:V) (v vl vu:bn) (lo hi:Option Int) (sl:Addr) (Q:VK),Inv X ze σ H s->RelV x v->s.heap.IsSliceOf sl vl vu .none->IsPart vl lo->IsPart vu hi->r x lo hi H Q ->
  ∃T id,typeLookup (.type T) "__getitem__" = pure (some (.builtin id))/\s.TypeIs v T/\cw (model X.prog X.w) X.A (getItem v (.ref sl)) (EP X ze σ Q) X.xe s
theorem SlR.or{r r':V->Option Int->Option Int->Hp->VK->Prop}(h:SlR X r)(h':SlR X r'):SlR X (fun x lo hi H Q=>r x lo hi H Q\/r' x lo hi H Q):=by
 intro ze s σ H x v vl vu lo hi sl Q I rx hs pl pu q;rcases q with q|q
 ·exact h ze s σ H x v vl vu lo hi sl Q I rx hs pl pu q
 ·exact h' ze s σ H x v vl vu lo hi sl Q I rx hs pl pu q
def tSl(r:V->Option Int->Option Int->Hp->VK->Prop)(te:TE)(tl th:TO):TE:=fun σ H Q=>te σ H fun x H1=>tl σ H1 fun l H2=>th σ H2 fun u H3=>r x l u H3 Q
theorem hZ{r:V->Option Int->Option Int->Hp->VK->Prop}(hr:SlR X r)(he:PE X e te)(hl:PO X lo tl)(hu:PO X hi th):PE X (.Subscript e (.Slice lo hi none p2) pos) (tSl r te tl th):=by
 intro ze s σ H Q I h;refine Subscript_ (thn (he ze s σ H _ I h) fun v s1 ⟨x,H1,I1,r1,q1⟩=>?_);refine wpAny_Slice (thn (hl ze s1 σ H1 _ I1 q1) fun vl s2 ⟨l,H2,I2,pl,q2⟩=>thn (hu ze s2 σ H2 _ I2 q2) fun vu s3 ⟨u,H3,I3,pu,q3⟩=>?_);rw[evalPart_none];refine cm ?_;have I4:Inv X ze σ H3 { s3 with heap:=s3.heap.push { cls:=.type "slice",data:=.fields #[vl,vu,.none] } }:=I3.kept (t':=s3.toks) fun b ob q=>bw _ q;obtain⟨T,id,hT,ht,hg⟩:=hr ze { s3 with heap:=s3.heap.push { cls:=.type "slice",data:=.fields #[vl,vu,.none] } } σ H3 x v vl vu l u s3.heap.objs.size Q I4 r1 (Heap.IsSliceOf.new ..) pl pu q3;show cw (model X.prog X.w) X.A (subscriptTail e (.Slice lo hi none p2) v (.ref s3.heap.objs.size)) (EP X ze σ Q) X.xe { s3 with heap:=s3.heap.push { cls:=.type "slice",data:=.fields #[vl,vu,.none] } };exact tail_any (ops:=[.ref s3.heap.objs.size,v]) ht hT hg (by with_unfolding_all rfl)
def dE(xs:List V)(lo hi:Option Int):List V:=(xs.drop (HT.sIx xs.length 0 lo)).take (HT.sIx xs.length xs.length hi-HT.sIx xs.length 0 lo)
theorem tP(xs:List V)(lo hi:Option Int):(dE xs lo hi).length<=xs.length:=by
 unfold dE;rw[ju,ln];omega
def t8(K:cy):V->Option Int->Option Int->Hp->VK->Prop:=fun x lo hi H Q=>∃a xs,x=.ref a/\SqT K H a xs /\
 ¬(HT.sIx xs.length 0 lo=0/\HT.sIx xs.length xs.length hi=xs.length)/\∀p,H p=none->Q (.ref p) (upd H p (.tup (dE xs lo hi)))
theorem xX:SlR X (t8 X.K):=by
 intro ze s σ H x v vl vu lo hi sl Q I rx hs pl pu h;obtain⟨a,xs,rfl,hx,hw,q⟩:=h;cases rx;obtain⟨aa,r,ht,hz⟩:=I.tuple hx;have y:aa.toArray.size=xs.length:=by rw[df];exact r.length.symm
 refine⟨"tuple",_,PyProof.Rows.slot_tuple_getitem.lookup,ht.typeIs,?_⟩;refine HT.getItem_tuple_cut ht hs pl pu (by rw[y];exact hw) ?_ (by rw[y];exact hz);rw[y];refine⟨.ref s.heap.objs.size,_,I.laid (t':=s.toks) (o:=.tup (dE xs lo hi)) (fun b ob q=>bw _ q) (cu _) ?_,rfl,q _ (I.hok.fresh (cu _))⟩;exact⟨⟨lm (tP xs lo hi) hz,_,fj _ rfl,rfl⟩,_,(r.drop (HT.sIx xs.length 0 lo)).take (HT.sIx xs.length xs.length hi-HT.sIx xs.length 0 lo),IsTup.new _ _⟩
def vL(K:cy):R2:=fun x y H Q=>∃a b xs ys,x=.ref a/\y=.ref b/\SqT K H a xs/\SqT K H b ys/\xs≠[]/\xs.length+ys.length<=cx /\
 (ys=[]->Q (.ref a) H)/\(ys≠[]->∀p,H p=none->Q (.ref p) (upd H p (.tup (xs++ys))))
theorem Vals.nil_iff{xs:List V}{us:List bn}(r:Vals xs us):us=[]↔xs=[]:=by
 cases r with
 |nil=>simp
 |cons _ _=>simp
theorem JQ:OpR X (lc .Add) (vL X.K):=by
 intro ze s σ H x y v u Q I rx ry h;obtain⟨a,b,xs,ys,rfl,rfl,ha,hb,hx,hz,q1,q2⟩:=h;cases rx;cases ry;obtain⟨ab,r1,p1,_⟩:=I.tuple ha;obtain⟨aa,r2,p2,_⟩:=I.tuple hb;refine HT.cat_tup p1 p2 (fun z=>hx (r1.nil_iff.mp z)) (fun z=>⟨.ref a,H,I,rfl,q1 (r2.nil_iff.mp z)⟩) (fun z=>?_) (by rw[<- r1.length,<- r2.length];exact hz);refine⟨.ref s.heap.objs.size,_,I.laid (t':=s.toks) (o:=.tup (xs++ys)) (fun b ob q=>bw _ q) (cu _) ?_,rfl,q2 (fun w=>z (r2.nil_iff.mpr w)) _ (I.hok.fresh (cu _))⟩;exact⟨⟨by rw[fv];exact hz,_,fj _ rfl,rfl⟩,_,r1.append r2,IsTup.new _ _⟩
end
end
section
def ixN(n:Nat)(i:Int):Option Nat:=if 0<=i then (if i<n then some i.toNat else none)else if -(n:Int)<=i then some (i+n).toNat else none
def atI{α:Type}(xs:List α)(i:Int):Option α:=(ixN xs.length i).bind fun j=>xs[j]?
theorem xP{n:Nat}{i:Int}{j:Nat}(h:ixN n i=some j):seqIndex? i n=some j/\j<n/\-(n:Int)<=i/\i<n:=by
 unfold ixN at h;by_cases h0:0<=i
 ·rw[ck h0]at h;by_cases h1:i<n
  ·rw[ck h1]at h;have e:i.toNat=j:=gz h;exact⟨by rw[seqIndex_of h0 h1,e],yw,yw,h1⟩
  ·rw[ci h1]at h;cases h
 ·rw[ci h0]at h;by_cases h1:-(n:Int)<=i
  ·rw[ck h1]at h;have e:(i+n).toNat=j:=gz h;exact⟨by rw[seqIndex_neg yw h1,e],yw,h1,yw⟩
  ·rw[ci h1]at h;cases h
theorem vI{α:Type}{xs:List α}{i:Int}{v:α}(h:atI xs i=some v):∃j,seqIndex? i xs.length=some j/\xs[j]?=some v/\j<xs.length/\-(xs.length:Int)<=i/\i<xs.length:=by
 unfold atI at h;cases e:ixN xs.length i with
 |none=>rw[e]at h;cases h
 |some j=>
  rw[e]at h;obtain⟨h1,h2,h3,h4⟩:=xP e;exact⟨j,h1,h,h2,h3,h4⟩
theorem gJ{α:Type}{xs:List α}{j:Nat}{v:α}(h:xs[j]?=some v):atI xs (j:Int)=some v:=by
 have hj:j<xs.length:=(List.getElem?_eq_some_iff.mp h).1;have e:ixN xs.length (j:Int)=some j:=by
  unfold ixN;rw[ck yw,ck yw];simp
 unfold atI;rw[e];exact h
def PlainIx(b:Expr):Prop:=∀o i,subscripted b false o i=operate [o,i] (getItem o i)
def IxR(X:Cx)(r:R2):Prop:=
 ∀(value slice:Expr) (ze:List (Addr×Obj)) (s:bq) (σ:St) (H:Hp) (x y:V) (v u:bn) (Q:VK),Inv X ze σ H s->RelV x v->RelV y u->r x y H Q ->
  subscripted slice false v u=operate [v,u] (getItem v u)->cw (model X.prog X.w) X.A (subscriptTail value slice v u) (EP X ze σ Q) X.xe s
def MtR(X:Cx)(id:String)(r:V->List V->Hp->VK->Prop):Prop:=
 ∀(ze:List (Addr×Obj)) (s:bq) (σ:St) (H:Hp) (x:V) (xs:List V) (v:bn) (us:List bn) (Q:VK),Inv X ze σ H s->RelV x v->Vals xs us->r x xs H Q ->
  cw (model X.prog X.w) X.A (call (.builtin id) (v::us)) (EP X ze σ Q) X.xe s
section
variable {X:Cx}{a b:Expr}{ta tb:TE}{pos:Pos}
theorem IxR.or{r r':R2}(h:IxR X r)(h':IxR X r'):IxR X (fun x y H Q=>r x y H Q\/r' x y H Q):=by
 intro value aa ze s σ H x y v u Q I rx ry q hs;rcases q with q|q
 ·exact h value aa ze s σ H x y v u Q I rx ry q hs
 ·exact h' value aa ze s σ H x y v u Q I rx ry q hs
theorem aI{r:R2}(hr:IxR X r)(ha:PE X a ta)(hb:PE X b tb)(hs:PlainIx b):PE X (.Subscript a b pos) (tOp r ta tb):=by
 intro ze s σ H Q I h;exact Subscript_ (tI ha hb I h fun v u s2 x y H2 I2 rx ry q=>hr a b ze s2 σ H2 x y v u Q I2 rx ry q (hs _ _))
def sU(K:cy):R2:=fun x y H Q=>∃p xs i v,x=.ref p/\y=.int i/\SqL K H p xs/\atI xs i=some v/\Q v H
def sW(K:cy):R2:=fun x y H Q=>∃p xs i v,x=.ref p/\y=.int i/\SqT K H p xs/\atI xs i=some v/\Q v H
def tU:R2:=fun x y H Q=>∃z i c,x=.str z/\y=.int i/\z.length<=cx/\atI z.cps.toList i=some c/\Q (.str ⟨#[c]⟩) H
theorem Ax:IxR X (sU X.K):=by
 intro value ac ze s σ H x y v u Q I rx ry h hs;obtain⟨p,xs,i,z,rfl,rfl,hq,he,q⟩:=h;cases rx;obtain⟨t,rfl⟩:=ry;obtain⟨ab,r,pl,hz⟩:=I.list hq;obtain⟨j,h1,h2,h3,h4,h5⟩:=vI he;obtain⟨w,ew,aa⟩:=r.get h2;have hl:=r.length;have hn:=line63;have fin:EP X ze σ Q w s:=⟨z,H,I,aa,q⟩;by_cases h0:0<=i
 ·have hj:i.toNat=j:=by
   rw[seqIndex_of h0 h5]at h1;exact gz h1
  exact item_listR pl.isList h0 yw (by rw[hj];simpa using ew) fin hs
 ·have hj:(i+(ab.toArray.size:Int)).toNat=j:=by
   rw[seqIndex_neg yw h4]at h1;rw[df,<- hl];exact gz h1
  exact subscriptTail_builtinR (x:=w) pl.isList.typeIs slot_list_getitem.lookup
   (wpAny_getItem_list_neg (Q:=fun r s'=>r=w/\EP X ze σ Q r s') pl.isList yw (by rw[df]<;>omega) yw (by rw[hj];simpa using ew) ⟨rfl,fin⟩) hs
theorem G3:IxR X (sW X.K):=by
 intro value ab ze s σ H x y v u Q I rx ry h hs;obtain⟨p,xs,i,z,rfl,rfl,hq,he,q⟩:=h;cases rx;obtain⟨t,rfl⟩:=ry;obtain⟨ac,r,pl,hz⟩:=I.tuple hq;obtain⟨j,h1,h2,h3,h4,h5⟩:=vI he;obtain⟨w,ew,aa⟩:=r.get h2;have hl:=r.length;have hn:=line63;have fin:EP X ze σ Q w s:=⟨z,H,I,aa,q⟩;exact subscriptTail_builtinR (x:=w) pl.typeIs slot_tuple_getitem.lookup
  (getItem_tuple (j:=j) (Q:=fun r s'=>r=w/\EP X ze σ Q r s') pl yw yw (by rw[df,<- hl];exact h1) (by simpa using ew) ⟨rfl,fin⟩) hs
theorem Ht:IxR X tU:=by
 intro value aa ze s σ H x y v u Q I rx ry h hs;obtain⟨z,i,c,rfl,rfl,hz,he,q⟩:=h;obtain⟨t,rfl⟩:=rx;obtain⟨t',rfl⟩:=ry;obtain⟨j,h1,h2,h3,h4,h5⟩:=vI he;have hl:z.cps.toList.length=z.length:=by simp[Str.length]
 rw[hl]at h1 h4 h5;have hn:=line63;exact tail_any (typeIs_str s z t) slot_str_getitem.lookup (getItem_str (c:=c) (by
  have e1:decide (i < -(2 ^ 63:Int))=false:=gn yw;have e2:decide (i≥2 ^ 63)=false:=gn yw;rw[e1,e2,Bool.or_false]) (by rw[h1];simpa using h2) ⟨.str ⟨#[c]⟩,H,I.tok _,⟨_,rfl⟩,q⟩) hs
def rIx(K:cy):R2:=fun x y H Q=>sU K x y H Q\/sW K x y H Q\/tU x y H Q
theorem zJ:IxR X (rIx X.K):=Ax.or (G3.or Ht)
theorem FP(q:List bn)(n j:Nat)(u:bn):im (·.setIfInBounds j u) { cls:=.type "list",data:=.seq q.toArray n } = { cls:=.type "list",data:=.seq (q.set j u).toArray n }:=by
 simp[im]
theorem Inv.lst{ze:List (Addr×Obj)}{σ:St}{H:Hp}{s:bq}{p:Addr}{xs:List V}(I:Inv X ze σ H s)(h:H p=some (.lst xs)):
  ∃(q:List bn) (n:Nat),Vals xs q/\s.heap.get? p=some { cls:=.type "list",data:=.seq q.toArray n }/\xs.length<=cx:=by
 obtain⟨z,q,n,r,e⟩:=I.hok p _ h;exact⟨q,n,r,e,z⟩
theorem Inv.lstUpd{ze:List (Addr×Obj)}{σ:St}{H:Hp}{s:bq}{p:Addr}{xs ys:List V}{y its':List bn}{n n':Nat}{f:Obj->Obj}(I:Inv X ze σ H s)(h:H p=some (.lst xs))
  (ho:s.heap.get? p=some { cls:=.type "list",data:=.seq y.toArray n }) (hf:f { cls:=.type "list",data:=.seq y.toArray n } = { cls:=.type "list",data:=.seq its'.toArray n' }) (r:Vals ys its') (hz:ys.length<=cx) (t:Nat):
  Inv X ze σ (upd H p (.lst ys)) { s with heap:=s.heap.update p f,toks:=t }:=by
 have e:(s.heap.update p f).get? p=some { cls:=.type "list",data:=.seq its'.toArray n' }:=by
  rw[get?_update_self f ho (by rw[hf]<;>rfl),hf]
 refine I.write (x:=p) (e:=p) (by rw[h];trivial) (.inl rfl) (fun b u hb q=>(lv _ _ (kj hb)).trans q) ⟨_,e⟩ ?_;exact⟨hz,its',n',r,e⟩
def wX:V->V->V->Hp->(Hp->Prop)->Prop:=fun o i v H Q=>∃p xs k j,o=.ref p/\i=.int k/\H p=some (.lst xs)/\ixN xs.length k=some j/\Q (upd H p (.lst (xs.set j v)))
theorem Bl:PSet X wX:=by
 intro ze s σ H o i v ov iv u Q I ro ri rv h;obtain⟨p,xs,k,j,rfl,rfl,hp,hj,q⟩:=h;cases ro;obtain⟨t,rfl⟩:=ri;obtain⟨y,n,r,ho,hz⟩:=I.lst hp;obtain⟨h1,h2,h3,h4⟩:=xP hj;have hl:=r.length;have hn:=line63;have I':Inv X ze σ (upd H p (.lst (xs.set j v))) { s with heap:=s.heap.update p (im (·.setIfInBounds j u)) } :=
  I.lstUpd hp ho (FP y n j u) (r.set rv j) (by rw[length_set];exact hz) s.toks
 by_cases h0:0<=k
 ·have hk:k.toNat=j:=by
   rw[seqIndex_of h0 h4]at h1;exact gz h1
  exact W.ki_setAt ho h0 yw (by rw[df,<- hl];exact h4) (by rw[hk];exact⟨_,I',q⟩)
 ·have hk:(k+(y.toArray.size:Int)).toNat=j:=by
   rw[seqIndex_neg yw h3]at h1;rw[df,<- hl];exact gz h1
  exact W.ki_setBack ho yw (by rw[df,<- hl];exact h3) yw (by rw[hk];exact⟨_,I',q⟩)
theorem IW(lo hi:Option Int)(n:Nat):(rq lo hi none n).1=((HT.sIx n 0 lo:Nat):Int)/\(rq lo hi none n).2.1=((HT.sIx n n hi:Nat):Int)/\(rq lo hi none n).2.2=1:=by
 refine⟨?_,?_,rfl⟩
 ·cases lo with
  |none=>simp[rq,HT.sIx]
  |some i=>
   simp only[rq,HT.sIx,Option.getD_none,show (1:Int)>0 by decide,if_true];by_cases h:i<0
   ·simp only[h,if_true]<;>omega
   ·simp only[h,if_false]<;>omega
 ·cases hi with
  |none=>simp[rq,HT.sIx]
  |some i=>
   simp only[rq,HT.sIx,Option.getD_none,show (1:Int)>0 by decide,if_true];by_cases h:i<0
   ·simp only[h,if_true]<;>omega
   ·simp only[h,if_false]<;>omega
theorem FW(q:List bn)(lo hi:Option Int):slicePick q.toArray lo hi none=((q.drop (HT.sIx q.length 0 lo)).take (HT.sIx q.length q.length hi-HT.sIx q.length 0 lo)).toArray:=by
 obtain⟨h1,h2,h3⟩:=IW lo hi q.toArray.size;unfold slicePick;rw[h1,h2,h3];simp only[sliceRange_one,pick_run,df]<;>rfl
def mV(K:cy):V->Option Int->Option Int->Hp->VK->Prop:=fun x lo hi H Q=>∃a xs,x=.ref a/\SqL K H a xs/\∀p,H p=none->Q (.ref p) (upd H p (.lst (dE xs lo hi)))
theorem xH:SlR X (mV X.K):=by
 intro ze s σ H x v vl vu lo hi sl Q I rx hs pl pu h;obtain⟨a,xs,rfl,hx,q⟩:=h;cases rx;obtain⟨aa,r,ht,hz⟩:=I.list hx;have y:=r.length;refine⟨"list",_,slot_list_getitem.lookup,ht.isList.typeIs,?_⟩;refine wpAny_getItem_list_slice ht.isList hs pl pu .none yv ?_ (by rw[df]<;>omega);rw[FW,<- y];refine⟨.ref s.heap.objs.size,_,I.laid (t':=s.toks) (o:=.lst (dE xs lo hi)) (fun b ob q=>bw _ q) (cu _) ?_,rfl,q _ (I.hok.fresh (cu _))⟩;exact⟨lm (tP xs lo hi) hz,_,0,(r.drop (HT.sIx xs.length 0 lo)).take (HT.sIx xs.length xs.length hi-HT.sIx xs.length 0 lo),fj _ rfl⟩
theorem AY:CallR X (.builtin "len") (fun xs H Q=>∃p ys,xs=[.ref p]/\(SqL X.K H p ys\/SqT X.K H p ys)/\Q (.int ys.length) H):=by
 intro ze s σ H xs us Q I r h;obtain⟨p,ys,rfl,hq,q⟩:=h;obtain⟨u,rfl,rx⟩:=vals1 r;cases rx;have hn:=line63;rcases hq with hq|hq
 ·obtain⟨aa,r',pl,hz⟩:=I.list hq;have y:=r'.length;exact Calls.call_len_list pl.isList (by simp only[df]<;>omega) ⟨.int ys.length,H,I.tok _,⟨s.toks+1,by rw[df,y]⟩,q⟩
 ·obtain⟨aa,r',pl,hz⟩:=I.tuple hq;have y:=r'.length;exact len_tuple pl (by simp only[df]<;>omega) ⟨.int ys.length,H,I.tok _,⟨s.toks+1,by rw[df,y]⟩,q⟩
theorem Ez:CallR X (.builtin "len") (fun xs H Q=>∃z,xs=[.str z]/\z.length<=cx/\Q (.int z.length) H):=by
 intro ze s σ H xs us Q I r h;obtain⟨z,rfl,hz,q⟩:=h;obtain⟨u,rfl,t,rfl⟩:=vals1 r;have hn:=line63;exact len_str yw ⟨.int z.length,H,I.tok _,⟨_,rfl⟩,q⟩
theorem CallR.or{f:bn}{r r':List V->Hp->VK->Prop}(h:CallR X f r)(h':CallR X f r'):CallR X f (fun xs H Q=>r xs H Q\/r' xs H Q):=by
 intro ze s σ H xs us Q I rs q;rcases q with q|q
 ·exact h ze s σ H xs us Q I rs q
 ·exact h' ze s σ H xs us Q I rs q
theorem Jz:CallR X (.type "list") (fun xs H Q=>∃p ys,xs=[.ref p]/\(SqL X.K H p ys\/SqT X.K H p ys)/\∀l,H l=none->Q (.ref l) (upd H l (.lst ys))):=by
 intro ze s σ H xs us Q I r h;obtain⟨p,ys,rfl,hq,q⟩:=h;obtain⟨u,rfl,rx⟩:=vals1 r;cases rx;have fin:∀(y:List bn),Vals ys y->ys.length<=cx->∀(h':Heap) (c':Nat),(∀b o',s.heap.get? b=some o'->h'.get? b=some o') ->
   h'.get? s.heap.objs.size=some { cls:=.type "list",dict:=none,data:=.seq y.toArray c',slots:=#[] }->EP X ze σ Q (.ref s.heap.objs.size) { s with heap:=h' }:=fun y r' hz h' c' kp e=>
  ⟨.ref s.heap.objs.size,_,I.laid (t':=s.toks) kp (cu _) (show ObjOk X.prog X.w _ h' _ (.lst ys)from⟨hz,y,c',r',e⟩),rfl,q _ (I.hok.fresh (cu _))⟩
 rcases hq with hq|hq
 ·obtain⟨y,r',pl,hz⟩:=I.list hq;have aa:=r'.length;obtain⟨o,ho,hc,n,hd⟩:=pl.isList;exact call_list_seq p (.inl rfl) ho hc hd (fun h' c' kp e=>fin y r' hz h' c' kp e) (by simp only[df]<;>omega)
 ·obtain⟨y,r',pl,hz⟩:=I.tuple hq;have aa:=r'.length;obtain⟨o,ho,hc,n,hd⟩:=pl;exact call_list_seq p (.inr rfl) ho hc hd (fun h' c' kp e=>fin y r' hz h' c' kp e) (by simp only[df]<;>omega)
theorem CN:CallR X (.type "tuple") (fun xs H Q=>∃p ys,xs=[.ref p]/\((SqL X.K H p ys/\∀l,H l=none->Q (.ref l) (upd H l (.tup ys)))\/(SqT X.K H p ys/\Q (.ref p) H))):=by
 intro ze s σ H xs us Q I r h;obtain⟨p,ys,rfl,h⟩:=h;obtain⟨u,rfl,rx⟩:=vals1 r;cases rx;rcases h with ⟨hq,q⟩|⟨hq,q⟩
 ·obtain⟨y,r',pl,hz⟩:=I.list hq;have aa:=r'.length;refine call_tuple_list pl.isList (fun h' kp=>?_) (by simp only[df]<;>omega);have I1:Inv X ze σ H { s with heap:=h' }:=I.kept (t':=s.toks) kp;have I2:Inv X ze σ (upd H h'.objs.size (.tup ys)) { s with heap:=h'.push { cls:=.type "tuple",data:=.seq y.toArray } } :=
   I1.laid (t':=s.toks) (fun b o e=>bw _ e) (cu _) (show ObjOk X.prog X.w _ _ _ (.tup ys)from⟨⟨hz,_,fj _ rfl,rfl⟩,y,r',IsTup.new _ _⟩)
  exact⟨.ref h'.objs.size,_,I2,rfl,q _ (I1.hok.fresh (cu _))⟩
 ·obtain⟨y,r',pl,hz⟩:=I.tuple hq;exact call_tuple_same pl ⟨.ref p,H,I,rfl,q⟩
def tyV(K:cy)(T:String)(x:V)(H:Hp):Prop:=match x with
 | .str _=>T = "str"
 | .int _=>T = "int"
 | .ref p=>(T = "list"/\∃xs,SqL K H p xs)\/(T = "tuple"/\∃o,K.lookup p=some o/\o.cls=.type "tuple"/\o.dict=none) \/
   (T = "dict"/\((∃kvs,H p=some (.dK kvs))\/∃kvs,H p=some (.dT kvs)))\/(T = "set"/\∃S n,H p=some (.set S n))
 |_=>False
theorem Hb{ze:List (Addr×Obj)}{σ:St}{H:Hp}{s:bq}{T:String}{x:V}{v:bn}(I:Inv X ze σ H s)(r:RelV x v)(ty:tyV X.K T x H):
  s.TypeIs v T/\∀a,v=.ref a->∃ob,s.heap.get? a=some ob/\ob.dict=none:=by
 cases x with
 |str z=>
  obtain⟨t,rfl⟩:=r;cases (show T = "str" from ty);exact⟨typeIs_str s z t,fun _ e=>nomatch e⟩
 |int i=>
  obtain⟨t,rfl⟩:=r;cases (show T = "int" from ty);exact⟨typeIs_int s i t,fun _ e=>nomatch e⟩
 |ref p=>
  cases r;rcases ty with ⟨rfl,xs,hq⟩|⟨rfl,o,hk,hc,hd⟩|⟨rfl,hk⟩|⟨rfl,S,n,hk⟩
  ·obtain⟨q,_,pl,_⟩:=I.list hq;refine⟨pl.isList.typeIs,fun a e=>?_⟩;cases e;obtain⟨o,n,e,c,hd,_⟩:=pl;exact⟨o,e,hd⟩
  ·refine⟨⟨o,I.kIn p o hk,hc⟩,fun a e=>?_⟩;cases e;exact⟨o,I.kIn _ o hk,hd⟩
  ·have z:∃o,s.heap.get? p=some o/\o.ExactDict:=by
    rcases hk with ⟨kvs,hk⟩|⟨kvs,hk⟩
    ·obtain⟨_,_,_,_,o,_,_,e,ex,_⟩:=I.hok p _ hk;exact⟨o,e,ex⟩
    ·obtain⟨_,_,_,_,o,_,_,e,ex,_⟩:=I.hok p _ hk;exact⟨o,e,ex⟩
   obtain⟨o,e,ex⟩:=z;refine⟨⟨o,e,ex.1⟩,fun a e2=>?_⟩;cases e2;exact⟨o,e,ex.2.1⟩
  ·obtain⟨o,_,_,_,e,ex,_⟩:=I.hok p _ hk;refine⟨⟨o,e,ex.1⟩,fun a e2=>?_⟩;cases e2;exact⟨o,e,ex.2.1⟩
 |_=>exact oy ty
def tBM(K:cy)(T:String)(r:V->List V->Hp->VK->Prop)(to:TE)(t:TA):TE:=fun σ H Q=>to σ H fun x H1=>tyV K T x H1/\t σ H1 fun xs H2=>r x xs H2 Q
variable {o e:Expr}{es:List Expr}{to:TE}{t:TA}{name:Str}{apos cpos:Pos}{T id:String}{r:V->List V->Hp->VK->Prop}
theorem kC(pa:PlainAttrs T)(slot:Slot T name id)(q:typeOf (.builtin id)=pure (.type "method_descriptor"))(hm:MtR X id r)(ho:PE X o to)(ha:PA X (e::es) t)
  (hbase:attributeBase o name X.env (eval o X.env)=eval o X.env:=by rfl)
  (hfew:((ky cpos (fq (e::es) X.env)).all (fun x=>!x.1)&&(backToKw cpos (qi [] X.env)).all (fun x=>x.1.isSome)
   && decide ((e::es).length+([]:List Keyword).length+(if ([]:List Keyword).isEmpty then 0 else 1)<30))=true:=by rfl)
  (hline:(apos.endLine==cpos.line)=true:=by rfl) (hs:fq (e::es) X.env=(false,eval e X.env)::fq es X.env:=by rfl) (hplain:(ky cpos (fq es X.env)).any (·.1)=false:=by rfl):
  PE X (.Call (.Attribute o name apos) (e::es) [] cpos) (tBM X.K T r to t):=by
 intro ze s σ H Q I h;refine wpAny_Call_method_late hbase hfew hline rfl (thn (ho ze s σ H _ I h) fun v s1 ⟨x,H1,I1,r1,ty,q1⟩=>?_);obtain⟨h1,h2⟩:=Hb I1 r1 ty;refine⟨T,id,pa,slot,q,h1,h2,?_⟩;have hA:=ha cpos ze s1 σ H1 _ I1 q1;rw[hs]at hA ⊢;refine Calls.callWith_builtin (by show (false||(ky cpos (fq es X.env)).any (·.1))=false;rw[hplain]<;>rfl) (Calls.evalArgs_plain ?_);exact thn hA fun us s2 ⟨vs,H2,I2,r2,q2⟩=>hm ze s2 σ H2 x vs v us Q I2 r1 r2 q2
end
end
section
def MtM(X:Cx)(id:String)(r:V->List V->Hp->VK->Prop):Prop:=
 ∀(ze:List (Addr×Obj)) (s:bq) (σ:St) (H:Hp) (x:V) (xs:List V) (v:bn) (us:List bn) (Q:VK),Inv X ze σ H s->RelV x v->Vals xs us->r x xs H Q ->
  cw (model X.prog X.w) X.A (call (.builtin id) (v::us)) (EP X ze σ Q) X.xe s
theorem Vals.one:∀{x:V}{us:List bn},Vals [x] us->∃u,us=[u]/\RelV x u
 |_,_,.cons r .nil=>⟨_,rfl,r⟩
theorem Vals.rep{xs:List V}{us:List bn}(h:Vals xs us):∀k:Nat,Vals (bu k xs).flatten (bu k us).flatten
 | 0=>.nil
 |k+1=>by
  rw[kq,kq,qp,qp];exact Vals.append h (Vals.rep h k)
theorem rZ(q:List bn):∀(k:Nat) (acc:List bn),
  pf (fun x1 x2=>x1++x2) acc.toArray (bu k q.toArray)=(acc++(bu k q).flatten).toArray
 | 0,acc=>by simp
 |k+1,acc=>by
  have e:acc.toArray++q.toArray=(acc++q).toArray:=by simp
  have e2:(acc++q)++(bu k q).flatten=acc++(bu (k+1) q).flatten:=by
   rw[kq,qp,fy]
  rw[<- e2,<- rZ q k (acc++q),<- e,kq,List.foldl_cons]
section
variable {X:Cx}{ze:List (Addr×Obj)}{σ:St}{H:Hp}{s:bq}{l b:Addr}{xs ys zs:List V}
theorem Inv.lset{y its':List bn}{n:Nat}{f:Array bn->Array bn}{t':Nat}(I:Inv X ze σ H s)(hH:H l=some (.lst xs))
  (e:s.heap.get? l=some { cls:=.type "list",data:=.seq y.toArray n }) (hf:f y.toArray=its'.toArray) (hv:Vals ys its') (hz:ys.length<=cx):
  Inv X ze σ (upd H l (.lst ys)) { s with heap:=s.heap.update l (im f),toks:=t' }:=by
 have q:=PySem.IsL.update e f;rw[hf]at q;refine I.write (x:=l) (e:=l) (by rw[hH];exact trivial) (.inl rfl) (fun b' u hb hu=>(lv s.heap (im f) (kj hb)).trans hu) ⟨_,q⟩ ?_;exact⟨hz,its',_,hv,q⟩
theorem Inv.lnew{y:List bn}{t':Nat}(I:Inv X ze σ H s)(hv:Vals ys y)(hz:ys.length<=cx):
  Inv X ze σ (upd H s.heap.objs.size (.lst ys)) { s with heap:=s.heap.push { cls:=.type "list",data:=.seq y.toArray },toks:=t' } :=
 I.laid (fun _ _ q=>bw _ q) (cu _) ⟨hz,y,0,hv,fj _ rfl⟩
theorem Inv.fresh(I:Inv X ze σ H s):H s.heap.objs.size=none:=I.hok.fresh (cu _)
theorem Inv.lstM(I:Inv X ze σ H s)(hH:H l=some (.lst xs)):xs.length<=cx/\∃(q:List bn) (n:Nat),Vals xs q/\xs.length=q.length/\s.heap.get? l=some { cls:=.type "list",data:=.seq q.toArray n }:=by
 obtain⟨z,q,n,r,e⟩:=I.hok l _ hH;exact⟨z,q,n,r,r.length,e⟩
theorem Cs{n:Nat}(h:n<=cx):Builtin.List.listTooLong n=false:=by
 unfold Builtin.List.listTooLong;exact gn yw
end
section
variable {X:Cx}
def Bh:V->List V->Hp->VK->Prop:=fun x vs H Q=>∃l xs y,x=.ref l/\vs=[y]/\H l=some (.lst xs)/\xs.length<cx/\Q .non (upd H l (.lst (xs++[y])))
theorem qZ:MtM X "list.append" Bh:=by
 intro ze s σ H x vs v us Q I rx rv h;obtain⟨l,xs,y,rfl,rfl,hH,hz,q⟩:=h;cases rx;obtain⟨u,rfl,ru⟩:=rv.one;obtain⟨z,aa,n,r,hl,e⟩:=I.lstM hH;refine qj F.slot_list_append ⟨_,e,rfl⟩ F.entry_list_append (F.args_list_append_2 _ _) (PySem.list_append l aa.toArray n u (by rw[df];omega)) ⟨e,?_⟩;refine⟨.non,_,I.lset (its':=aa++[u]) hH e yv (r.append (.cons ru .nil)) ?_,rfl,q⟩;rw[fv,je];omega
def DU:V->List V->Hp->VK->Prop:=fun x vs H Q=>∃l b xs zs,x=.ref l/\vs=[.ref b]/\H l=some (.lst xs)/\H b=some (.lst zs)/\xs.length+zs.length<=cx/\Q .non (upd H l (.lst (xs++zs)))
theorem Be:MtM X "list.extend" DU:=by
 intro ze s σ H x vs v us Q I rx rv h;obtain⟨l,b,xs,zs,rfl,rfl,hH,hB,hz,q⟩:=h;cases rx;obtain⟨u,rfl,ru⟩:=rv.one;cases ru;obtain⟨z,aa,n,r,hl,e⟩:=I.lstM hH;obtain⟨z2,y,n2,r2,ac,e2⟩:=I.lstM hB;have hsz:aa.toArray.size+y.toArray.size<=cx:=by rw[df,df];omega
 have ab:¬(!aa.toArray.isEmpty&&Builtin.List.listTooLong (aa.toArray.size+y.toArray.size))=true:=by
  rw[Cs hsz,Bool.and_false];exact ji
 refine qj F.slot_list_extend ⟨_,e,rfl⟩ F.entry_list_extend (F.args_list_extend_2 _ _)
  (AutoSeq1.list_extend_list_list_0 l aa.toArray n b y.toArray n2 ab (by rw[df];omega) yw) ⟨e,e2,?_⟩
 refine⟨.non,_,I.lset (its':=aa++y) hH e yv (r.append r2) ?_,rfl,q⟩;rw[fv];omega
def lH:R2:=fun x y H Q=>∃l b xs zs,x=.ref l/\y=.ref b/\H l=some (.lst xs)/\H b=some (.lst zs)/\xs.length+zs.length<=cx/\∀p,H p=none->Q (.ref p) (upd H p (.lst (xs++zs)))
theorem wW:OpR X (lc .Add) lH:=by
 intro ze s σ H x y v u Q I rx ry h;obtain⟨l,b,xs,zs,rfl,rfl,hH,hB,hz,q⟩:=h;cases rx;cases ry;obtain⟨z,ab,n,r,hl,e⟩:=I.lstM hH;obtain⟨z2,aa,n2,r2,ac,e2⟩:=I.lstM hB;refine PySem.P.add_list e e2 ?_ (by rw[df,df];omega);have ea:ab.toArray++aa.toArray=(ab++aa).toArray:=by simp
 rw[ea];exact⟨.ref _,_,I.lnew (t':=s.toks) (r.append r2) (by rw[fv];omega),rfl,q _ I.fresh⟩
def yO:R2:=fun x y H Q=>∃l k xs,x=.ref l/\y=.int k/\H l=some (.lst xs)/\-(2 ^ 63)<=k/\k<2 ^ 63/\xs.length*k.toNat<=cx /\
 ∀p,H p=none->Q (.ref p) (upd H p (.lst (bu k.toNat xs).flatten))
theorem vM{α:Type}(xs:List α)(k:Nat):(bu k xs).flatten.length=k*xs.length:=by
 induction k with
 |zero=>simp
 |succ k ih=>rw[kq,qp,fv,ih,Nat.succ_mul,Nat.add_comm]
theorem Eo:OpR X (lc .Mult) yO:=by
 intro ze s σ H x y v u Q I rx ry h;obtain⟨l,k,xs,rfl,rfl,hH,h1,h2,hz,q⟩:=h;cases rx;obtain⟨t,rfl⟩:=ry;obtain⟨z,aa,n,r,hl,e⟩:=I.lstM hH;have ae:aa.toArray.size*k.toNat<=cx:=by rw[df,<- hl];exact hz
 have ag:¬ aa.toArray.size*k.toNat>(2 ^ 63-1)/8:=by
  have:(cx:Nat)<=(2 ^ 63-1)/8:=by decide
  omega
 have af:¬(!Builtin.List.listFitsIndex k)=true:=by
  rw[fitsIndex_both h1 h2];exact ji
 have ab:¬ Builtin.List.listTooLong (aa.toArray.size*k.toNat)=true:=by
  rw[Cs ae];exact ji
 have ac:pf (fun x1 x2=>x1++x2) #[] (bu (if aa.toArray.isEmpty=true then 0 else k.toNat) aa.toArray)=(bu k.toNat aa).flatten.toArray:=by
  have f0:∀m:Nat,pf (fun x1 x2=>x1++x2) #[] (bu m aa.toArray)=(bu m aa).flatten.toArray:=fun m=>by
   have:=rZ aa m [];rw[nil_append]at this;exact this
  rw[f0];cases aa with
  |nil=>simp
  |cons a r'=>rw[ci yv]
 refine wpAny_binaryOp_repeat_ref (T:="list") (U:="int") dz ⟨_,e,rfl⟩ (fun s'=>typeIs_int s' k t) noFill_list_mul F.fills_int_mul F.slot_int_rmul repeat_list F.slot_int_index.lookup
  (qj F.slot_int_rmul (typeIs_int s k t) F.entry_int_rmul (F.args_int_rmul_2 _ _) (int___rmul___int_list k t l aa.toArray n)
   ⟨e,rfl,⟨_,e,rfl⟩,qj F.slot_list_mul ⟨_,e,rfl⟩ F.entry_list_mul (F.args_list_mul_2 _ _) (AutoListH.list___mul___list_int_3 l aa.toArray n k t af ag ab) ⟨e,?_⟩⟩)
 rw[ac];exact⟨.ref _,_,I.lnew (t':=s.toks) (r.rep k.toNat) (by rw[vM,mul_comm];exact hz),rfl,q _ I.fresh⟩
end
end
section
section
variable {κ:Type} [DecidableEq κ]
def d9(kvs:List (κ×V))(k:κ):Option V:=(kvs.find? fun kv=>decide (kv.1=k)).map (·.2)
def cF(kvs:List (κ×V))(k:κ)(v:V):List (κ×V):=
 if (kvs.any fun kv=>decide (kv.1=k))=true then kvs.map (fun kv=>if kv.1=k then (kv.1,v)else kv)else kvs++[(k,v)]
theorem qQ{p:κ×V}{r:List (κ×V)}{k:κ}(e:p.1=k):d9 (p::r) k=some p.2:=by simp[d9,rn,e]
theorem pM{p:κ×V}{r:List (κ×V)}{k:κ}(e:¬ p.1=k):d9 (p::r) k=d9 r k:=by simp[d9,rn,e]
theorem Al(k:κ):∀kvs:List (κ×V),(kvs.any fun kv=>decide (kv.1=k))=(d9 kvs k).isSome
 | []=>rfl
 |p::r=>by
  rw[any_cons];by_cases e:p.1=k
  ·simp only[qQ e,gq e,Bool.true_or,Option.isSome_some]
  ·rw[pM e,gn e,Bool.false_or];exact Al k r
theorem Ad(kvs:List (κ×V))(k:κ)(v:V):(cF kvs k v).length<=kvs.length+1:=by
 unfold cF;split
 ·rw[dh];omega
 ·rw[fv,ff,length_nil];omega
theorem RelO.isSome_eq{o:Option V}{u:Option bn}(r:RelO o u):o.isSome=u.isSome:=by
 cases o with
 |none=>cases u with
  |none=>rfl
  |some _=>exact(show False from r).elim
 |some _=>cases u with
  |none=>exact(show False from r).elim
  |some _=>rfl
theorem KV.val{kvs:List (κ×V)}{vs:List (κ×bn)}(r:KV kvs vs)(k:κ):RelO (d9 kvs k) (valueAt vs k):=by
 unfold KV at r;induction r with
 |nil=>exact pc
 | @cons p q ps qs h t ih=>
  obtain⟨h1,h2⟩:=h;by_cases e:p.1=k
  ·have e':q.1=k:=h1.symm.trans e;have b:valueAt (q::qs) k=some q.2:=by simp[valueAt,rn,e']
   rw[qQ e,b];exact h2
  ·have e':¬ q.1=k:=fun z=>e (h1.trans z);have b:valueAt (q::qs) k=valueAt qs k:=by simp[valueAt,rn,e']
   rw[pM e,b];exact ih
theorem KV.any{kvs:List (κ×V)}{vs:List (κ×bn)}(r:KV kvs vs)(k:κ):(kvs.any fun kv=>decide (kv.1=k))=vs.any fun kv=>decide (kv.1=k):=by
 unfold KV at r;induction r with
 |nil=>rfl
 |cons h t ih=>rw[any_cons,any_cons,ih,h.1]
theorem KV.repl{kvs:List (κ×V)}{vs:List (κ×bn)}(r:KV kvs vs)(k:κ){y:V}{u:bn}(ry:RelV y u):
  KV (kvs.map fun kv=>if kv.1=k then (kv.1,y)else kv) (vs.map fun kv=>if kv.1=k then (kv.1,u)else kv):=by
 unfold KV at r ⊢;induction r with
 |nil=>exact .nil
 | @cons p q ps qs h t ih=>
  rw[fw,fw];refine .cons ?_ ih;obtain⟨h1,h2⟩:=h;by_cases e:p.1=k
  ·rw[ck e,ck (h1.symm.trans e)];exact⟨h1,ry⟩
  ·rw[ci e,ci (fun z=>e (h1.trans z))];exact⟨h1,h2⟩
theorem KV.put{kvs:List (κ×V)}{vs:List (κ×bn)}(r:KV kvs vs)(k:κ){y:V}{u:bn}(ry:RelV y u):KV (cF kvs k y) (stored vs k u):=by
 unfold cF stored;rw[r.any k];by_cases e:(vs.any fun kv=>decide (kv.1=k))=true
 ·rw[ck e,ck e];exact r.repl k ry
 ·rw[ci e,ci e];exact Paired.snoc r ⟨rfl,ry⟩
theorem KV.length{kvs:List (κ×V)}{vs:List (κ×bn)}(r:KV kvs vs):kvs.length=vs.length:=Paired.length r
end
theorem nB{P:fx}{w:io}{k:Key}{u:bn}(r:RelV (kV k) u):(cI P w).is k u=true:=by
 cases k with
 |inl i=>obtain⟨t,e⟩:=(show ∃t,u=qo i t from r);subst e;exact EW P w i t
 |inr x=>obtain⟨t,e⟩:=(show ∃t,u=Value.str x t from r);subst e;exact HZ P w x t
theorem y8{P:fx}{w:io}:∀{ks:List Key}{us:List bn},Vals (ks.map kV) us->ItemsAre (cI P w) ks us
 | [],_,r=>by rw[map_nil]at r;cases r;exact .nil
 |k::ks,_,r=>by
  rw[fw]at r;cases r with
  |cons h t=>exact .cons (nB h) (y8 t)
abbrev KT (H:Hp):List (List Key×V)->List (List Key×Addr×bn)->Prop:=Paired fun p q=>p.1=q.1/\H q.2.1=some (.tup (p.1.map kV))/\RelV p.2 q.2.2
theorem KT.val{H:Hp}{kvs:List (List Key×V)}{xs:List (List Key×Addr×bn)}(r:KT H kvs xs)(k:List Key):RelO (d9 kvs k) ((atKey xs k).map (·.2)):=by
 induction r with
 |nil=>exact pc
 | @cons p q ps qs h t ih=>
  obtain⟨h1,_,h2⟩:=h;by_cases e:p.1=k
  ·have e':q.1=k:=h1.symm.trans e;have b:atKey (q::qs) k=some q.2:=by simp[atKey,rn,e']
   rw[qQ e,b];exact h2
  ·have e':¬ q.1=k:=fun z=>e (h1.trans z);have b:atKey (q::qs) k=atKey qs k:=by simp[atKey,rn,e']
   rw[pM e,b];exact ih
theorem KT.repl{H:Hp}{kvs:List (List Key×V)}{xs:List (List Key×Addr×bn)}(r:KT H kvs xs)(k:List Key){y:V}{u:bn}(ry:RelV y u):
  KT H (kvs.map fun kv=>if kv.1=k then (kv.1,y)else kv) (xs.map (putAt k u)):=by
 induction r with
 |nil=>exact .nil
 | @cons p q ps qs h t ih=>
  rw[fw,fw];refine .cons ?_ ih;obtain⟨h1,h2,h3⟩:=h;unfold putAt;by_cases e:p.1=k
  ·rw[ck e,ck (h1.symm.trans e)];exact⟨h1,h2,ry⟩
  ·rw[ci e,ci (fun z=>e (h1.trans z))];exact⟨h1,h2,h3⟩
theorem KT.put{H:Hp}{kvs:List (List Key×V)}{xs:List (List Key×Addr×bn)}(r:KT H kvs xs)(k:List Key){b:Addr}{y:V}{u:bn}(hb:H b=some (.tup (k.map kV)))(ry:RelV y u):
  KT H (cF kvs k y) (storedH xs k b u):=by
 have e:(kvs.any fun kv=>decide (kv.1=k))=(atKey xs k).isSome:=by
  rw[Al,(r.val k).isSome_eq,isSome_map]
 unfold cF storedH;rw[e];by_cases q:(atKey xs k).isSome=true
 ·rw[ck q,ck q];exact r.repl k ry
 ·rw[ci q,ci q];exact Paired.snoc r ⟨rfl,hb,ry⟩
theorem KT.keeps{H H':Hp}{kvs:List (List Key×V)}{xs:List (List Key×Addr×bn)}(r:KT H kvs xs)(ht:∀b ys,H b=some (.tup ys)->H' b=some (.tup ys)):KT H' kvs xs:=
 Paired.mapP r fun _ _ z=>⟨z.1,ht _ _ z.2.1,z.2.2⟩
section
variable {P:fx}{w:io}{H:Hp}{h:Heap}{a:Addr}
theorem Ay{u:HO}(ok:HOk P w H h)(e:Rd H a u):ObjOk P w H h a u:=e.ok ok
theorem oE{kvs:List (Key×V)}(ok:HOk P w H h)(e:Rd H a (.dK kvs)):kvs.length<=cx/\(a==ly)=false/\∃vs,KV kvs vs/\h.DictOf (cI P w) a vs:=
 show ObjOk P w H h a (.dK kvs)from Ay ok e
theorem GY{kvs:List (Key×V)}(ok:HOk P w H h)(e:H a=some (.dK kvs)):kvs.length<=cx/\(a==ly)=false/\∃vs,KV kvs vs/\h.DictOf (cI P w) a vs:=oE ok (.inl e)
theorem oV{ks:List Key}(ok:HOk P w H h)(e:H a=some (.tup (ks.map kV))):(tupleKind (cI P w)).is h ks a:=by
 obtain⟨_,q,r,o,h1,h2,n,h3⟩:=(show ObjOk P w H h a (.tup (ks.map kV))from ok a _ e);exact⟨o,q.toArray,n,h1,h2,h3,by simpa using y8 r⟩
theorem nW{kvs:List (List Key×V)}(ok:HOk P w H h)(e:Rd H a (.dT kvs)):kvs.length<=cx/\(a==ly)=false /\
  ∃xs,KT H kvs xs/\h.DictOfH (tupleKind (cI P w)) a xs:=by
 obtain⟨z,y,xs,r,o,es,ep,h1,h2,h3,h4,h5⟩:=(show ObjOk P w H h a (.dT kvs)from Ay ok e);refine⟨z,y,xs,r,o,es,ep,h1,h2,h3,h4,fun x hx=>?_,h5⟩;have aa:∀{l:List (List Key×V)}{m:List (List Key×Addr×bn)},KT H l m->∀x∈m,(tupleKind (cI P w)).is h x.1 x.2.1:=by
  intro l m q;induction q with
  |nil=>intro x hx;exact nomatch hx
  | @cons p q ps qs hq t ih=>
   intro x hx;rcases mem_cons.mp hx with e|hx
   ·subst e;exact oV ok (by rw[<- hq.1];exact hq.2.1)
   ·exact ih x hx
 exact aa r x hx
theorem Hj{kvs:List (List Key×V)}(ok:HOk P w H h)(e:H a=some (.dT kvs)):kvs.length<=cx/\(a==ly)=false /\
  ∃xs,KT H kvs xs/\h.DictOfH (tupleKind (cI P w)) a xs:=nW ok (.inl e)
end
def DGet(H:Hp)(a:Addr)(y:V)(r:Option V):Prop:=
 (∃kvs k,Rd H a (.dK kvs)/\y=kV k/\r=d9 kvs k)\/∃kvs k b,Rd H a (.dT kvs)/\y=.ref b/\H b=some (.tup (k.map kV))/\r=d9 kvs k
def DPut(H:Hp)(a:Addr)(y v:V)(H':Hp):Prop:=
 (∃kvs k,H a=some (.dK kvs)/\y=kV k/\kvs.length<cx/\H'=upd H a (.dK (cF kvs k v))) \/
 ∃kvs k b,H a=some (.dT kvs)/\y=.ref b/\H b=some (.tup (k.map kV))/\kvs.length<cx/\H'=upd H a (.dT (cF kvs k v))
theorem DPut.k{H:Hp}{a:Addr}{kvs:List (Key×V)}{k:Key}{v:V}(e:H a=some (.dK kvs))(hl:kvs.length<cx):DPut H a (kV k) v (upd H a (.dK (cF kvs k v))):=.inl ⟨kvs,k,e,rfl,hl,rfl⟩
theorem DPut.t{H:Hp}{a b:Addr}{kvs:List (List Key×V)}{k:List Key}{v:V}(e:H a=some (.dT kvs))(eb:H b=some (.tup (k.map kV)))(hl:kvs.length<cx):
  DPut H a (.ref b) v (upd H a (.dT (cF kvs k v))):=.inr ⟨kvs,k,b,e,rfl,eb,hl,rfl⟩
section
variable {X:Cx}{ze:List (Addr×Obj)}{σ:St}{H:Hp}{s:bq}{a:Addr}{y v:V}{u r:bn}{o:Option V}{A:iz}{E:bn->bq->Prop}
theorem Inv.big(I:Inv X ze σ H s):ly<s.heap.objs.size:=by
 have h:me<s.heap.objs.size:=(I.mod.glob.keeps I.bk).lt;exact Nat.lt_trans dz h
theorem GX{Q:bn->bq->Prop}(hu:A.units+1<cLine)(I:Inv X ze σ H s)(g:DGet H a y (some v))(ry:RelV y u)(h:∀w' s',Inv X ze σ H s'->RelV v w'->Q w' s'):
  cw (model X.prog X.w) A (getItem (.ref a) u) Q E s:=by
 rcases g with ⟨kvs,k,e,ey,l⟩|⟨kvs,k,b,e,ey,eb,l⟩
 ·subst ey;obtain⟨z,hd,vs,q,dd⟩:=oE I.hok e;obtain⟨w',hw,aa⟩:=RelO.some_of (v:=v) (o:=valueAt vs k) (by rw[l];exact q.val k);exact wpAny_getItem_of (nB ry) dd.mapOf hw (h w' _ (I.tok _) aa)
 ·subst ey;cases (show u=gm b from ry);obtain⟨z,hd,xs,q,dd⟩:=nW I.hok e;obtain⟨w',hw,aa⟩:=RelO.some_of (v:=v) (o:=(atKey xs k).map (·.2)) (by rw[l];exact q.val k);obtain⟨p,hp,ab⟩:=map_eq_some_iff.mp hw;refine wpAny_getItem_heap (tupleKind_room_in1 hu) (oV I.hok eb) dd hp ?_;rw[ab];exact h w' _ (I.tok _) aa
theorem Iz{Q:bn->bq->Prop}(hu:A.units+1<cLine)(I:Inv X ze σ H s)(g:DGet H a y o)(ry:RelV y u)(h:∀s',Inv X ze σ H s'->Q (.bool o.isSome) s'):
  cw (model X.prog X.w) A (jg .In u (.ref a)) Q E s:=by
 rcases g with ⟨kvs,k,e,ey,l⟩|⟨kvs,k,b,e,ey,eb,l⟩
 ·subst ey;obtain⟨z,hd,vs,aa,dd⟩:=oE I.hok e;refine wpAny_in_of (nB ry) hd dd.mapOf ?_;rw[<- (aa.val k).isSome_eq,<- l];exact h _ (I.tok _)
 ·subst ey;cases (show u=gm b from ry);obtain⟨z,hd,xs,aa,dd⟩:=nW I.hok e;refine wpAny_in_heap (tupleKind_room_in1 hu) (oV I.hok eb) hd dd ?_;have q:=(aa.val k).isSome_eq;rw[isSome_map]at q;rw[<- q,<- l];exact h _ (I.tok _)
theorem Iu{Q:bn->bq->Prop}(hu:A.units+1<cLine)(I:Inv X ze σ H s)(g:DGet H a y o)(ry:RelV y u)(h:∀s',Inv X ze σ H s'->Q (.bool (!o.isSome)) s'):
  cw (model X.prog X.w) A (jg .NotIn u (.ref a)) Q E s:=by
 rcases g with ⟨kvs,k,e,ey,l⟩|⟨kvs,k,b,e,ey,eb,l⟩
 ·subst ey;obtain⟨z,hd,vs,aa,dd⟩:=oE I.hok e;refine wpAny_notIn_of (nB ry) hd dd.mapOf ?_;rw[<- (aa.val k).isSome_eq,<- l];exact h _ (I.tok _)
 ·subst ey;cases (show u=gm b from ry);obtain⟨z,hd,xs,aa,dd⟩:=nW I.hok e;refine wpAny_notIn_heap (tupleKind_room_in1 hu) (oV I.hok eb) hd dd ?_;have q:=(aa.val k).isSome_eq;rw[isSome_map]at q;rw[<- q,<- l];exact h _ (I.tok _)
theorem BW{h':Heap}{t':Nat}{ob:HO}(I:Inv X ze σ H s)(mu:Mut (H a))(hs:jr a s.heap h')(he:∃q,h'.get? a=some q)(y:ObjOk X.prog X.w (upd H a ob) h' a ob):
  Inv X ze σ (upd H a ob) { s with heap:=h',toks:=t' } :=
 I.write (x:=a) (e:=a) mu (.inl rfl) (fun b q hb z=>(hs.2 b hb).trans z) he y
theorem Jd{P:fx}{w:io}{H':Hp}{h':Heap}{kvs:List (Key×V)}{vs:List (Key×bn)}(z:kvs.length<=cx)(hd:(a==ly)=false)(q:KV kvs vs)(dd:h'.DictOf (cI P w) a vs):
  ObjOk P w H' h' a (.dK kvs):=⟨z,hd,vs,q,dd⟩
theorem FM{H':Hp}{Q:Unit->bq->Prop}(hu:A.units+1<cLine)(I:Inv X ze σ H s)(g:DPut H a y v H')(ry:RelV y u)(rv:RelV v r)(h:∀s',Inv X ze σ H' s'->Q () s'):
  cw (model X.prog X.w) A (setItem (.ref a) u r) Q E s:=by
 rcases g with ⟨kvs,k,e,ey,l,eH⟩|⟨kvs,k,b,e,ey,eb,l,eH⟩
 ·subst ey eH;obtain⟨z,hd,vs,aa,dd⟩:=GY I.hok e;have hz:vs.length<=cx:=by rw[<- aa.length];exact z
  have hl:(cF kvs k v).length<=cx:=by have:=Ad kvs k v;omega
  refine wpAny_setItem_pairs (hsz:=hz) (nB ry) dd fun h' ab hs=>h _ ?_;have he:∃q,h'.get? a=some q:=let ⟨q,_,_,hq,_⟩:=ab;⟨q,hq⟩;exact BW I (by rw[e];exact pc) hs he (Jd hl hd (aa.put k rv) ab)
 ·subst ey eH;cases (show u=gm b from ry);obtain⟨z,hd,xs,aa,dd⟩:=Hj I.hok e;have hz:xs.length<=cx:=by rw[<- Paired.length aa];exact z
  have hl:(cF kvs k v).length<=cx:=by have:=Ad kvs k v;omega
  refine wpAny_setItem_heap (hsz:=hz) (tupleKind_room_in1 hu) (oV I.hok eb) dd fun h' ab hs=>h _ ?_;obtain⟨q,es,ep,hq,h2,h3,h4,_,h5⟩:=ab;refine BW I (by rw[e];exact pc) hs ⟨q,hq⟩ ⟨hl,hd,_,(aa.put k eb rv).keeps fun c ys ec=>?_,q,es,ep,hq,h2,h3,h4,h5⟩;rw[zB (IT ec e (fun z=>nomatch z))];exact ec
end
def NoSl(i:Expr):Prop:=∀ov iv,subscripted i false ov iv=operate [ov,iv] (getItem ov iv)
theorem GT{prog:fx}{w:io}{A:iz}{E:bn->bq->Prop}{s:bq}{env:Env}{value q:Expr}{pos:Pos}{T id:String}{Q:bn->bq->Prop}
  (hl:typeLookup (.type T) "__getitem__" = pure (some (.builtin id))) (hs:NoSl q)
  (h:cw (model prog w) A (eval value env) (fun o s₁=>cw (model prog w) A (eval q env) (fun i s₂=>s₂.TypeIs o T/\cw (model prog w) A (getItem o i) Q E s₂) E s₁) E s):
  cw (model prog w) A (eval (.Subscript value q pos) env) Q E s:=by
 refine Subscript_ (ox h (fun o s₁ h₁=>ox h₁ (fun i s₂ h₂=>?_) fun _ _ x=>x) fun _ _ x=>x);obtain⟨hT,h₂⟩:=h₂;unfold subscriptTail;refine bo ?_;rw[getitemInPython_of_ne hT.not_modules];refine bo (wpAny_specialOf hT hl ?_);have fin:cw (model prog w) A (subscripted q false o i) (fun r s₃=>cw (model prog w) A (letTemporaryGo value o r >>= fun _=>pure r) Q E s₃) E s₂:=by
  rw[hs o i];exact wpAny_operating (ox h₂ (fun r s₃ h₃=>bo (wpAny_letTemporaryGo (cm h₃))) fun _ _ x=>x)
 first
  |exact cm (bo fin)
  |exact bo (cm (bo fin))
  |exact bo fin
theorem FH{X:Cx}{ze:List (Addr×Obj)}{σ:St}{H:Hp}{s:bq}{a:Addr}{y:V}{o:Option V}(I:Inv X ze σ H s)(g:DGet H a y o):s.TypeIs (.ref a) "dict":=by
 rcases g with ⟨kvs,k,e,_,_⟩|⟨kvs,k,b,e,_,_,_⟩
 ·obtain⟨_,_,vs,_,dd⟩:=oE I.hok e;exact dd.typeIs
 ·obtain⟨_,_,xs,_,dd⟩:=nW I.hok e;exact dd.typeIs
def Cf(td ty:TE):TE:=fun σ H Q=>td σ H fun x H1=>ty σ H1 fun y H2=>∃a v,x=.ref a/\DGet H2 a y (some v)/\Q v H2
def Cd(td ty tv:TE):TS:=fun D σ H=>tv σ H fun v H1=>td σ H1 fun x H2=>ty σ H2 fun y H3=>∃a H4,x=.ref a/\DPut H3 a y v H4/\D.nx σ H4
section
variable {X:Cx}{o i e value:Expr}{pos pos' tpos:Pos}{td ty tv:TE}
theorem Fa(hu:X.A.units+1<cLine)(ho:PE X o td)(hi:PE X i ty)(hs:NoSl i):PE X (.Subscript o i pos) (Cf td ty):=by
 intro ze s σ H Q I h;refine GT PySem.F.slot_dict_getitem.lookup hs (thn (ho ze s σ H _ I h) fun u s1 ⟨x,H1,I1,rx,q1⟩=>thn (hi ze s1 σ H1 _ I1 q1) fun iv s2 ⟨y,H2,I2,ry,a,v,ex,g,q2⟩=>?_);subst ex;obtain rfl:u=gm a:=rx;exact⟨FH I2 g,GX hu I2 g ry fun w' s3 I3 q=>⟨v,H2,I3,q,q2⟩⟩
theorem CC(hu:X.A.units+1<cLine)(ho:PE X o td)(hi:PE X i ty)(hv:PE X value tv)(hs:swapsWith value (some (.Subscript o i pos')) pos.line X.env=pure false):
  PS X (.Assign [.Subscript o i pos'] value pos) (Cd td ty tv):=by
 intro ze s σ H D I h;refine wpAny_Assign_Subscript (thn (hv ze s σ H _ I h) fun r s1 ⟨v,H1,I1,rv,q1⟩=>thn (ho ze s1 σ H1 _ I1 q1) fun u s2 ⟨x,H2,I2,rx,q2⟩=>thn (hi ze s2 σ H2 _ I2 q2) fun iv s3 ⟨y,H3,I3,ry,a,H4,ex,g,q3⟩=>?_) hs;subst ex;obtain rfl:u=gm a:=rx;exact FM hu I3 g ry rv fun s4 I4=>⟨σ,H4,I4,q3⟩
end
theorem Ju{P:fx}{w:io}{H:Hp}(h:Heap)(hb:ly<h.objs.size):ObjOk P w H (h.push { cls:=.type "dict",data:=.dict #[] }) h.objs.size (.dK []):=
 ⟨nq _,beq_eq_false_iff_ne.mpr (kj (ik hb)),[],.nil,Heap.DictOf.new h⟩
def tR:TE:=fun _ H Q=>∀p,H p=none->Q (.ref p) (upd H p (.dK []))
section
variable {X:Cx}{pos:Pos}
theorem xQ:PE X (.Dict [] [] pos) tR:=fun ze s σ H Q I h=>
 wpAny_Dict_empty ⟨.ref s.heap.objs.size,_,I.laid (a:=s.heap.objs.size) (o:=.dK []) (t':=s.toks) (fun _ _ q=>bw _ q) (cu _) (Ju s.heap I.big),rfl,h _ (I.hok.fresh (cu _))⟩
end
structure M1(X:Cx)(o:Expr)(m:Str)(apos:Pos)(e:Expr)(cpos:Pos):Prop where
 base:attributeBase o m X.env (eval o X.env)=eval o X.env
 few:((ky cpos (fq [e] X.env)).all (fun x=>!x.1)&&(backToKw cpos (qi [] X.env)).all (fun x=>x.1.isSome)
  && decide (([e]:List Expr).length+([]:List Keyword).length+(if ([]:List Keyword).isEmpty then 0 else 1)<30))=true
 line:(apos.endLine==cpos.line)=true
 trees:ky cpos (fq [e] X.env)=[(false,eval e X.env)]
structure M2(X:Cx)(o:Expr)(m:Str)(apos:Pos)(e f:Expr)(cpos:Pos):Prop where
 base:attributeBase o m X.env (eval o X.env)=eval o X.env
 few:((ky cpos (fq [e,f] X.env)).all (fun x=>!x.1)&&(backToKw cpos (qi [] X.env)).all (fun x=>x.1.isSome)
  && decide (([e,f]:List Expr).length+([]:List Keyword).length+(if ([]:List Keyword).isEmpty then 0 else 1)<30))=true
 line:(apos.endLine==cpos.line)=true
 trees:ky cpos (fq [e,f] X.env)=[(false,eval e X.env),(false,eval f X.env)]
def obO(a:Addr)(ob:Obj):HO:=.ext fun h=>h.get? a=some ob
end
end L2
namespace Att
open PySem PySem.W PySem.Calls PyProof.Rows
theorem KC{P:Params}{h:Heap}:∀(ns:List Int) (vs:List bn),WellAll P h vs (ns.map WData.int)->oo vs ns:=by
 intro ns;induction ns with
 |nil=>
  intro vs w;rw[map_nil]at w;cases w;exact .nil
 |cons n ns ih=>
  intro vs w;rw[fw]at w;cases w with
  |cons a b=>
   cases a;exact .cons _ _ (ih _ b)
theorem HE{l:OpenLaw}{n:Nat}(hn:l.most=some n){P:Params}{h:Heap}{args:List WData}{y:List bn}
  (hpre:l.row.toRowW.claim.pre args=true) (hwl:WellAll P h y args):
  ∃a vs ns,y=[gm a]/\args=[WData.list (ns.map WData.int)]/\h.get? a=some { cls:=.type "list",data:=.seq vs.toArray }/\oo vs ns/\ns.length<=n:=by
 have ab:WShape.hasAll [] args [.list .int]=true:=(pre_splitW hpre).1;have hc:l.pre.holds [] { args:=args } = true:=(pre_splitW hpre).2;obtain⟨d,r,rfl,h1,h2⟩:=hasAllW_cons ab;obtain rfl:=hasAllW_nil h2;obtain⟨xs,rfl,h3⟩:=hasW_list h1;obtain⟨ns,rfl⟩:=items_int h3;have aa:ns.length<=n:=by
  unfold OpenLaw.pre at hc;have h4:(WTm.not (.lt (.lit (.int (n:Int))) (.len (.arg 0)))).holds [] { args:=[.list (ns.map .int)] } = true:=by
   have h4:=(holds_andW hc).1;rw[hn]at h4;exact h4
  have h5:=condW_of h4 (w_not (w_lt w_lit (w_len_list (w_arg rfl))));rw[dh]at h5;refine Nat.le_of_not_lt fun q=>?_;have q':(n:Int)<((ns.length:Nat):Int):=yw
  first
   | (rw[gq q']at h5;exact absurd h5 dz)
   | (simp at h5;omega)
 cases hwl with
 |cons w1 w2=>
  cases w2;cases w1 with
  |list ho hall=>exact⟨_,_,ns,rfl,rfl,ho,KC ns _ hall,aa⟩
theorem F0(l:OpenLaw)(args:List WData):l.row.toRowW.claim.post args (.bool true) args=true:=
 postW_of (r:=l.row.toRowW) (X:=(true==true))
  (show WShape.has [] (.bool true) .bool=true by first|rfl|decide|simp[WShape.has,WShape.arms,WShape.armsAll])
  (show (WTm.eq .res (.lit (.bool true))).value [] { args:=args,res:=some (.bool true),after:=args } = some (.bool (true==true))from w_eq_bool (w_res rfl) w_lit) rfl
theorem attach_call{l:OpenLaw}{n:Nat}{q:fx}{y:List Str}{XP:(Str->Option bn)->Heap->Prop}{YP:io->Heap->Prop}{d:DefRec}
  (hn:l.most=some n) (hdf:d.params.defaults=[])
  (call:∀(w:io) (s₀ s₁:bq) (mg mb:Str->Option bn) (fa:Addr) (o:Obj) (pm cd ab:bn) (a:Addr) (vs:List bn) (ns:List Int),
   Ground q y [] XP w s₀ mg mb s₁.heap->YP w s₁.heap ->
   s₁.heap.get? fa=some o->o.data=.func (docDef d.name d.params d.body d.scope pm cd ab)->s₁.heap.CodeRec cd d.name->mg d.name=some (.ref fa) ->
   s₁.heap.get? a=some { cls:=.type "list",data:=.seq vs.toArray }->oo vs ns->ns.length<=n->s₁.gens = #[] ->
   codeAny (model l.prog w) callerA (.call (.ref fa) ⟨[.ref a],[]⟩) (fun r s'=>r=.ok (.ret (.bool true))/\OldK s₁.heap s'.heap/\s'.os=s₁.os/\AllBare s'.gens) s₁):
  WalkO q y XP YP l.row.toRowW d [] (fun f vs=>PySem.call f vs):=by
 intro w s₀ s₁ mg mb G Y fa o pm cd ab dV kV ho hd ah hD ai hg args ak as ac aj al ag am;obtain rfl:dV=.none:=Dflts.none hD hdf;obtain rfl:kV=.none:=Dflts.noKw hD;obtain⟨a,vs,ns,rfl,rfl,af,aa,ae⟩:=HE hn ac ag;refine enter_call (codeAny_mono (call w s₀ s₁ mg mb fa o pm cd ab a vs ns G Y ho (fd_plain hd) ah ai af aa ae hg) fun r s' hq=>?_);obtain⟨rfl,h2,h3,h4⟩:=hq;exact⟨.inl ⟨.bool true,.bool true,[],rfl,fun _=>rfl,.bool true,F0 l _,fun _=>⟨List.Pairwise.nil,fun _ hm=>(nomatch hm)⟩⟩,h2,h3,h4⟩
end Att
namespace L2
open PySem PySem.Spec PyProof.Rows
section
theorem qW:∀{vs:List bn}{ns:List Int},oo vs ns->Vals (ns.map V.int) vs
 |_,_,.nil=>.nil
 |_,_,.cons n t h=>.cons ⟨t,rfl⟩ (qW h)
def Only(H:Hp):Prop:=∀b,H b=none\/(∃o xs,H b=some (.frz o (.lst xs)))\/∃q∈tabsG,q.1.2=b/\H b=some (.tbl q.2)
def dH(b:Addr):Option HO:=(tabsG.find? fun q=>q.1.2==b).map fun q=>.tbl q.2
theorem kI{b:Addr}{u:HO}(e:dH b=some u):∃q∈tabsG,q.1.2=b/\u=.tbl q.2:=by
 unfold dH at e;cases h:tabsG.find? fun q=>q.1.2==b with
 |none=>rw[h]at e;cases e
 |some q=>
  rw[h]at e;cases e;exact⟨q,List.mem_of_find?_eq_some h,by simpa using find?_some h,rfl⟩
theorem Jf{l:List ((Addr×Addr)×Array bn)}(nd:(l.map fun q=>q.1.2).Nodup){q:(Addr×Addr)×Array bn}(h:q∈l):l.find? (fun r=>r.1.2==q.1.2)=some q:=by
 induction l with
 |nil=>cases h
 |cons p l ih=>
  rw[fw,qk]at nd;rcases mem_cons.mp h with e|e
  ·subst e;simp
  ·have ne:¬ p.1.2=q.1.2:=fun z=>nd.1 (by rw[z];exact lq (f:=fun q:(Addr×Addr)×Array bn=>q.1.2) e);rw[qd (by simpa using ne)];exact ih nd.2 e
theorem CL(nd:(tabsG.map fun q=>q.1.2).Nodup){q:(Addr×Addr)×Array bn}(h:q∈tabsG):dH q.1.2=some (.tbl q.2):=by
 unfold dH;rw[Jf nd h];rfl
structure TabsOk(K:cy)(h:Heap):Prop where
 nd:(tabsG.map fun q=>q.1.2).Nodup
 hd:∀q∈tabsG,W.CodeHd h q.1.1 q.1.2
 empty:∀q∈tabsG,h.get? q.1.2=some (W.tabObj #[])
 off:∀q∈tabsG,K.lookup q.1.2=none
theorem TabsOk.none{K:cy}{h:Heap}(e:tabsG=[]):TabsOk K h:=⟨by rw[e];exact mw,fun q z=>absurd z (by rw[e];simp),fun q z=>absurd z (by rw[e];simp),fun q z=>absurd z (by rw[e];simp)⟩
theorem IE{P:fx}{w:io}{K:cy}{mg mb:Str->Option bn}{CX:CXT}{k:Nat}{fa a:Addr}{fd:pj}{x:Str}{sp:Sp}{s₁:bq}{vs:List bn}{ns:List Int}
  (KX:K.In s₁.heap) (TT:TabsOk K s₁.heap) (hbm:BltAt s₁.heap mg) (hns:s₁.heap.Ns me mg) (hb:s₁.heap.Ns builtinsNs mb) (hbb:∀x:Str,x ≠ "__name__"->mb x=iy x) (hlim:s₁.heap.NoLimit) (hg:s₁.gens = #[])
  (ha:s₁.heap.get? a=some { cls:=.type "list",data:=.seq vs.toArray }) (hi:oo vs ns) (hl:ns.length<=cx) (hr:Room k callerA)
  (F:∀base:Heap,K.In base->base.Ns me mg->FnOk P w K mg base CX k fa fd [x] sp) (hbind:∀(s:bq) (u:bn),BindsTo s fd ⟨[u],[]⟩ [(x,u)])
  (hsp:∀H:Hp,Only H->SqL K H a (ns.map V.int)->sp [.ref a] H (fun v _=>v=.bl true) fun _ _ _=>False)
  (hCX:∀H e s',CX [] H s₁ (fun _ _ _=>False) e s'->False):
  codeAny (model P w) callerA (.call (.ref fa) ⟨[.ref a],[]⟩) (fun r s'=>r=.ok (.ret (.bool true))/\OldK s₁.heap s'.heap/\s'.os=s₁.os/\AllBare s'.gens) s₁:=by
 have rv:=qW hi;have af:=hi.length
 have ac:∀H:Hp,Only H->SqL K H a (ns.map V.int)->HOk P w H s₁.heap->(∀b,H b≠none->b=a\/∃q∈tabsG,q.1.2=b)->(H a≠none->K.lookup a=none)->(∀q∈tabsG,H q.1.2=some (.tbl q.2)) ->
   codeAny (model P w) callerA (.call (.ref fa) ⟨[.ref a],[]⟩) (fun r s'=>r=.ok (.ret (.bool true))/\OldK s₁.heap s'.heap/\s'.os=s₁.os/\AllBare s'.gens) s₁:=by
  intro H hO hS hok hA hK ak;have ag:∀{b:Addr}{o:Obj},s₁.heap.get? b=some o->o.cls≠.type "list"->o.cls≠.none->H b=none:=fun {b o} e c1 c2=>by
   cases q:H b with
   |none=>rfl
   |some u=>
    rcases hA b (by rw[q];simp)with e'|⟨r,y,e'⟩
    ·subst e';rw[ha]at e;cases e;exact absurd rfl c1
    ·have:=TT.empty r y;rw[e',e]at this;cases this;exact absurd rfl c2
  have aa:∀{b:Addr}{o:Obj},s₁.heap.get? b=some o->H b=none->(fL s₁.heap H).get? b=some o:=fun e n=>Iq e n;have am:∀{b:Addr}{o:Obj}{es:Array DictEntry}{ep:Nat},s₁.heap.get? b=some o->o.data=.dict es ep->H b=none:=fun {b o es ep} e d=>by
   cases q:H b with
   |none=>rfl
   |some u=>
    rcases hA b (by rw[q];simp)with e'|⟨r,y,e'⟩
    ·subst e';rw[ha]at e;cases e;have d':Data.seq vs.toArray _=Data.dict es ep:=d;cases d'
    ·have:=TT.empty r y;rw[e',e]at this;cases this;cases d
  have ab:∀{b:Addr}{m:Str->Option bn},s₁.heap.Ns b m->(fL s₁.heap H).Ns b m:=fun {b m} ⟨o,es,ep,e,d,r⟩=>⟨o,es,ep,aa e (am e d),d,r⟩;have al:K.In (fL s₁.heap H):=fun b o e=>aa (KX b o e) (by
   cases q:H b with
   |none=>rfl
   |some u=>
    rcases hA b (by rw[q];simp)with e'|⟨r,y,e'⟩
    ·subst e';rw[hK (by rw[q];simp)]at e;cases e
    ·rw[<- e',TT.off r y]at e;cases e)
  have hM:Mod K mg (fL s₁.heap H):=⟨al,ab hns,⟨mb,ab hb,hbb⟩,let ⟨mc,h1,h2⟩:=hlim;⟨mc,ab h1,h2⟩,
   let ⟨bm,ob,b1,b2,b3,b4,b5⟩:=hbm;⟨bm,ob,b1,b2,aa b3 (ag b3 (by rw[b4];decide) (by rw[b4];decide)),b4,b5⟩,
   fun q hq=>let ⟨o,vs,file,tf,flags,tg,inF,text,tt,e1,c1,r⟩:=TT.hd q hq;⟨o,vs,file,tf,flags,tg,inF,text,tt,aa e1 (ag e1 (by rw[c1];decide) (by rw[c1];decide)),c1,r⟩⟩
  have e0:Env0 P w K mg (fL s₁.heap H) callerA [] s₁ H:=⟨rfl,hM,fun b o e=>KP e,Nat.le_of_eq (J8 _ _),trivial,⟨fun b hb=>absurd (show b∈([]:List Addr)from hb) yv,ak⟩,hok,.of_eq hg⟩;refine codeAny_mono ((F _ al (ab hns)).run callerA [] s₁ H ⟨[.ref a],[]⟩ [.ref a] [.ref a] _ _ hr e0 (hbind s₁ (.ref a)) (.cons rfl .nil) (hsp H hO hS)) fun r s' h=>?_;cases r with
  |error e=>exact(hCX H e s' h).elim
  |ok fl=>
   cases fl with
   |next=>exact oy h
   |brk=>exact oy h
   |cont=>exact oy h
   |ret u=>
    obtain⟨v,H',os,bare,un,ae,r',q⟩:=h;have q':v=.bl true:=q;subst q';obtain rfl:u=Value.bool true:=r';have ai:∀b o,s₁.heap.get? b=some o->s'.heap.get? b=some o\/∃q∈tabsG,q.1.2=b/\o=W.tabObj #[]/\∃ps,s'.heap.get? b=some (W.tabObj ps):=fun b o e=>by
     cases q:H b with
     |none=>exact .inl (un.keep b o e q (by intro z;exact absurd (show b∈([]:List Addr)from z) yv) yv)
     |some u=>
      rcases hO b with z|⟨ob,xs,z⟩|⟨r,y,e',z⟩
      ·rw[q]at z;cases z
      ·have z2:=un.frzs b ob _ z;obtain⟨e1,_⟩:=hok b _ z;obtain⟨e2,_⟩:=ae b _ z2;rw[e]at e1;cases e1;exact .inl e2
      ·obtain⟨qs,e2,_⟩:=ae b _ (un.tbls b _ z);have:=TT.empty r y;rw[e',e]at this;cases this;exact .inr ⟨r,y,e',rfl,qs,e2⟩
    refine⟨rfl,⟨fun b o e=>?_,fun b o e=>?_⟩,os,bare⟩
    ·rcases ai b o e with z|⟨r,y,rfl,rfl,ps,z⟩
     ·exact .inl z
     ·exact .inr (.inl ⟨((TT.hd r y).tab (TT.empty r y)).isCodeTable,rfl,#[],ps,rfl,by rw[Array.empty_append];exact z⟩)
    ·rcases ai b o e with z|⟨r,y,rfl,rfl,ps,z⟩
     ·exact⟨o,z⟩
     ·exact⟨_,z⟩
 have aj:∀q∈tabsG,q.1.2≠a:=fun q hq z=>by
  have:=TT.empty q hq;rw[z,ha]at this;cases this
 have ah:∀(H:Hp) (b:Addr) (u:HO),dH b=some u->ObjOk P w H s₁.heap b u:=fun H b u z=>by
  obtain⟨q,hq,rfl,rfl⟩:=kI z;exact⟨#[],TT.empty q hq,.inl rfl⟩
 cases hk:K.lookup a with
 |some o=>
  have e:=KX a o hk;rw[ha]at e;cases e;refine ac dH (fun b=>?_) (.inr ⟨_,vs.toArray,_,hk,rfl,rfl,rfl,by rw[df,af];exact hl,by simpa using rv⟩) (ah dH) (fun b z=>?_) (fun z=>?_) fun q hq=>CL TT.nd hq
  ·cases q:dH b with
   |none=>exact .inl rfl
   |some u=>obtain⟨r,y,e',rfl⟩:=kI q;exact .inr (.inr ⟨r,y,e',rfl⟩)
  ·cases q:dH b with
   |none=>exact absurd q z
   |some u=>obtain⟨r,y,e',_⟩:=kI q;exact .inr ⟨r,y,e'⟩
  ·cases q:dH a with
   |none=>exact absurd q z
   |some u=>obtain⟨r,y,e',_⟩:=kI q;exact absurd e' (aj r y)
 |none=>
  refine ac (fun b=>if b=a then some (.frz { cls:=.type "list",data:=.seq vs.toArray } (.lst (ns.map V.int)))else dH b) (fun b=>?_) (.inl (.inr ⟨{ cls:=.type "list",data:=.seq vs.toArray },ck rfl⟩)) (fun b u z=>?_) (fun b z=>?_) (fun _=>hk) fun q hq=>(ci (aj q hq)).trans (CL TT.nd hq)
  ·by_cases hb:b=a
   ·exact .inr (.inl ⟨_,_,ck hb⟩)
   ·cases q:dH b with
    |none=>exact .inl ((ci hb).trans q)
    |some u=>obtain⟨r,y,e',rfl⟩:=kI q;exact .inr (.inr ⟨r,y,e',(ci hb).trans q⟩)
  ·by_cases hb:b=a
   ·have z':=(ck hb).symm.trans z;cases z';subst hb;exact⟨ha,by rw[dh];exact hl,vs,_,rv,ha⟩
   ·have z':=(ci hb).symm.trans z;exact ah _ b u z'
  ·by_cases hb:b=a
   ·exact .inl hb
   ·cases q:dH b with
    |none=>exact absurd ((ci hb).trans q) z
    |some u=>obtain⟨r,y,e',_⟩:=kI q;exact .inr ⟨r,y,e'⟩
end
section
abbrev KOf {K:cy}{h:Heap} (_:K.In h):cy:=K
theorem walk_of{l:W.OpenLaw}{n k:Nat}{q:fx}{ab:List Str}{XP:(Str->Option bn)->Heap->Prop}{YP:io->Heap->Prop}{d:DefRec}{K:Params->cy}{CX:io->CXT}{sp:io->Sp}{x:Str}
  (hn:l.most=some n) (hn2:n<=cx) (hdf:d.params.defaults=[]) (hr:Room k callerA)
  (hY:∀(w:io) (h:Heap),YP w h->(K w.params).In h)
  (hT:∀(w:io) (h:Heap),YP w h->TabsOk (K w.params) h)
  (F:∀(w:io) (mg:Str->Option bn) (fa:Addr) (h:Heap),(K w.params).In h->h.Ns me mg->mg d.name=some (.ref fa) ->
   ∃fd:pj,(∀(s:bq) (u:bn),BindsTo s fd ⟨[u],[]⟩ [(x,u)]) /\
    ∀base:Heap,(K w.params).In base->base.Ns me mg->FnOk l.prog w (K w.params) mg base (CX w) k fa fd [x] (sp w))
  (hsp:∀(w:io) (H:Hp) (a:Addr) (ns:List Int),ns.length<=n->Only H->SqL (K w.params) H a (ns.map V.int)->sp w [.ref a] H (fun v _=>v=.bl true) fun _ _ _=>False)
  (hCX:∀(w:io) (H:Hp) (s:bq) (e:bn) (s':bq),CX w [] H s (fun _ _ _=>False) e s'->False):
  W.WalkO q ab XP YP l.row.toRowW d [] (fun f vs=>PySem.call f vs):=by
 refine Att.attach_call hn hdf fun w s₀ s₁ mg mb fa o pm cd ag a vs ns G Y ho hd af ae ac aa y hg=>?_;have KX:=hY w _ Y;obtain⟨fd,hb,hF⟩:=F w mg fa _ KX G.T.g ae;exact IE KX (hT w _ Y) (let ⟨bm,ob,a1,a2,a3,a4,a5,a6⟩:=G.T.bmain;⟨bm,ob,a1,a2,a3,a4,a5,a6⟩) G.T.g G.T.b G.T.builtins G.T.nolimit hg ac aa (lm y hn2) hr hF hb (fun H hO hS=>hsp w H a ns y hO hS) fun H e s'=>hCX w H s₁ e s'
end
section
def iU(s:Stmt):Arguments:=match s with
 | .FunctionDef _ a _ _ _ _ _ _ _ _=>a
 |_=>{ posonlyargs:=[],args:=[],vararg:=none,kwonlyargs:=[],kw_defaults:=[],kwarg:=none,defaults:=[] }
def dL(s:Stmt):List Stmt:=match s with
 | .FunctionDef _ _ b _ _ _ _ _ _ _=>b
 |_=>[]
def zj(s:Stmt):Scope:=match s with
 | .FunctionDef _ _ _ _ _ _ sc _ _ _=>sc
 |_=>{ kind:=.function,names:=[],isGenerator:=false,isCoroutine:=false }
abbrev CX0:CXT:=fun _ _ _ _ _ _=>False
abbrev E0:XK:=fun _ _ _=>False
theorem pass0{X:Cx}:Passes CX0 X E0:=fun _ _ _ _ _ _ _ h=>h.elim
structure Fun(K:cy)(x qual:Str)(st:Stmt)(f:Addr)(fd:pj):Prop where
 ex:∃(oc:bn) (od:Option Addr) (kV doc pm:bn) (an:Option Addr) (cdv ct:bn) (osl:Array (Option bn)),
  fd=W.fnOf x qual (iU st) (dL st) (zj st) .none kV doc pm an cdv ct/\K.lookup f=some ⟨oc,od,.func fd,osl⟩/\W.codeIn K cdv qual=true
 kp:W.keepIn K (.ref f)=true
section
variable {P:fx}{w:io}{K:cy}{mg:Str->Option bn}{base:Heap}
theorem Fun.ok{x y:Str}{st:Stmt}{f:Addr}{fd:pj}{N ps:List Str}{k:Nat}{sp:Sp}(F:Fun K x y st f fd)(S:FnScope N ps (zj st))(len:∀vs H Q E,sp vs H Q E->vs.length=ps.length)
  (hbody:∀(aa:bn) (A:iz) (outer:List Env) (s:bq) (H:Hp) (vs:List V) (Q:VK) (E:XK),Room k (A.deeper (si y (zj st) s.heap.objs.size f aa))->sp vs H Q E ->
   ∃t,PSs (eG CX0 P w K mg base N y (zj st) f aa A outer s H E).nox (dL st) t/\t { nx:=fun _ H'=>Q .non H',rt:=Q } (start N vs) H):FnOk P w K mg base CX0 (k+1) f fd ps sp:=by
 obtain⟨oc,od,kV,af,pm,an,aa,ct,ae,rfl,lk,ac⟩:=F.ex;refine GW lk ac S len fun A outer s H vs Q E hr ab=>?_;obtain⟨t,h,q⟩:=hbody aa A outer s H vs Q E hr ab;exact⟨t,h.nox,q⟩
theorem Fun.binds{x q:Str}{st:Stmt}{f:Addr}{fd:pj}{ps:List Str}(F:Fun K x q st f fd)
  (h:∀(kV aa pm:bn) (an:Option Addr) (y ct:bn) (us:List bn),us.length=ps.length->bindArgs (W.fnOf x q (iU st) (dL st) (zj st) .none kV aa pm an y ct) ⟨us,[]⟩=pure (ps.zip us)):Binds K fd ps []:=by
 obtain⟨oc,od,kV,aa,pm,an,y,ct,ab,rfl,lk,ac⟩:=F.ex;exact .all (h kV aa pm an y ct)
theorem w8{x q:Str}{st:Stmt}{f:Addr}{oc:bn}{od an:Option Addr}{ab:Array (Option bn)}{kV aa pm y ct:bn}(l:K.lookup f=some ⟨oc,od,.func (W.fnOf x q (iU st) (dL st) (zj st) .none kV aa pm an y ct),ab⟩)
  (c:W.codeIn K y q=true) (k:W.keepIn K (.ref f)=true):Fun K x q st f (W.fnOf x q (iU st) (dL st) (zj st) .none kV aa pm an y ct):=⟨⟨oc,od,kV,aa,pm,an,y,ct,ab,rfl,l,c⟩,k⟩
end
theorem vQ{A:iz}{k:Nat}(hr:Room k A):A.units+1<cLine:=Nat.lt_of_le_of_lt (Nat.add_le_add_left (by decide:1<=64) _) hr.units
theorem small1000{n:Nat}(h:n<=1000):n<cx:=Nat.lt_of_le_of_lt h dz
section
variable {X:Cx}
theorem pv(i:Nat){x:Str}{pos:Pos}(hN:X.N[i]?=some x:=by rfl)(hv:Vis X.env.scope x:=by first|exact ip rfl|exact Or.inr (ip rfl)|exact Or.inr (Or.inr rfl))(hd:(x==("__debug__":Str))=false:=by decide)
  (hcd:(x==("__classdict__":Str))=false:=by decide):PE X (.Name x pos) (e9 i):=Jj hN hv hd hcd
end
theorem eQ{A B:Prop}(h:B):if false=true then A else B:=by
 rw[ci ji];exact h
theorem eJ{A B:Prop}(h:A):if true=true then A else B:=by
 rw[ck rfl];exact h
theorem ite2{c A B:Prop}[Decidable c](h1:c->A)(h2:¬ c->B):if c then A else B:=by
 by_cases h:c
 ·rw[ck h];exact h1 h
 ·rw[ci h];exact h2 h
def Same(H H':Hp):Prop:=∀b o,H b=some o->H' b=some o
theorem Same.refl(H:Hp):Same H H:=fun _ _ h=>h
theorem Same.trans{H H1 H2:Hp}(a:Same H H1)(b:Same H1 H2):Same H H2:=fun c o h=>b c o (a c o h)
theorem Same.seq{K:cy}{H H':Hp}{a:Addr}{xs:List V}(e:Same H H')(h:SqL K H a xs):SqL K H' a xs:=by
 rcases h with (h|⟨o,h⟩)|h
 ·exact .inl (.inl (e _ _ h))
 ·exact .inl (.inr ⟨o,e _ _ h⟩)
 ·exact .inr h
end
section
section
variable {X:Cx}
def CDivX(i j:Int):Prop:=0<j/\j.natAbs.log2<9000
theorem HX:OpR X (lc .FloorDiv) (rI CDivX fun i j=>.int (i/j)):=opI fun i j _ _ _ _ _ hc q=>by
 have h1:(0:Int)<j:=hc.1;exact floordiv_int yw (by rw[Int.fdiv_eq_ediv_of_nonneg i yw];exact q) (.inl (PyProof.noPylong_of_log2 hc.2))
theorem HA:OpR X (lc .Mult) (rI IntMulOk fun i j=>.int (i*j)):=opI fun _ _ _ _ _ _ _ hc q=>mul_int q hc
theorem y6{k:Int}{n:Nat}(h:k.natAbs<2 ^ n):Builtin.Int.intBits k<=n:=by
 unfold Builtin.Int.intBits;split
 ·exact nq _
 ·rename_i h0;have hk:k.natAbs≠0:=by
   intro z;apply h0;rw[Int.natAbs_eq_zero.mp z];rfl
  have:=(Nat.log2_lt hk).mpr h;omega
theorem Gf{i j:Int}(n m:Nat)(hi:i.natAbs<2 ^ n)(hj:j.natAbs<2 ^ m)(hn:n<=2 ^ 20:=by decide)(hm:m<=2 ^ 20:=by decide):IntMulOk i j:=
 .of_bits (lm (y6 hi) hn) (lm (y6 hj) hm)
theorem dU{i j:Int}(h1:-(2 ^ 64)<i)(h2:i<2 ^ 64):IntMulOk i j:=.of_left (intBits_le_64 h1 h2)
theorem wS{i j:Int}(h1:-(2 ^ 64)<j)(h2:j<2 ^ 64):IntMulOk i j:=.of_right (intBits_le_64 h1 h2)
theorem pT{n:Int}{k:Nat}(h0:0<n)(h:n<2 ^ k):n.natAbs.log2<k:=by
 refine(Nat.log2_lt yw).mpr ?_;have e:((2 ^ k:Nat):Int)=(2:Int) ^ k:=by simp
 omega
end
def kD:Key->bp
 | .inl i=>.int i
 | .inr x=>.str x
def DOf(H:Hp)(a:Addr)(ks:List bp)(vs:List V):Prop:=
 (∃(ob:Obj) (m:List (Key×V)),H a=some (.frz ob (.dK m))/\ks=m.map (fun p=>kD p.1)/\vs=m.map (·.2)) \/
 ∃(ob:Obj) (p:List Key×V) (m:List (List Key×V)),H a=some (.frz ob (.dT (p::m)))/\ks=(p::m).map (fun p=>.tuple (p.1.map kD))/\vs=(p::m).map (·.2)
mutual
def Has(H:Hp):bp->V->Prop
 | .none,v=>v=.non
 | .bool b,v=>v=.bl b
 | .int i,v=>v=.int i
 | .str x,v=>v=.str x
 | .list ds,v=>∃a vs,v=.ref a/\H a=some (.lst vs)/\HasL H ds vs
 | .tuple ds,v=>∃a vs,v=.ref a/\H a=some (.tup vs)/\HasL H ds vs
 | .dict kvs,v=>∃a vs,v=.ref a/\DOf H a (kvs.map (·.1)) vs/\HasV H kvs vs
def HasL(H:Hp):List bp->List V->Prop
 | [],vs=>vs=[]
 |d::ds,vs=>∃v r,vs=v::r/\Has H d v/\HasL H ds r
def HasV(H:Hp):List (bp×bp)->List V->Prop
 | [],vs=>vs=[]
 |p::ps,vs=>∃v r,vs=v::r/\HasP H p v/\HasV H ps r
def HasP(H:Hp):bp×bp->V->Prop
 | (_,d),v=>Has H d v
end
mutual
theorem Has.mono{H H':Hp}(s:Same H H'):∀(d:bp) (v:V),Has H d v->Has H' d v
 | .none,_,h=>by simp only[Has]at h ⊢;exact h
 | .bool _,_,h=>by simp only[Has]at h ⊢;exact h
 | .int _,_,h=>by simp only[Has]at h ⊢;exact h
 | .str _,_,h=>by simp only[Has]at h ⊢;exact h
 | .list ds,v,h=>by
  simp only[Has]at h ⊢;obtain⟨a,vs,e,q,l⟩:=h;exact⟨a,vs,e,s _ _ q,HasL.mono s ds vs l⟩
 | .tuple ds,v,h=>by
  simp only[Has]at h ⊢;obtain⟨a,vs,e,q,l⟩:=h;exact⟨a,vs,e,s _ _ q,HasL.mono s ds vs l⟩
 | .dict kvs,v,h=>by
  simp only[Has]at h ⊢;obtain⟨a,vs,e,q,l⟩:=h;refine⟨a,vs,e,?_,HasV.mono s kvs vs l⟩;rcases q with ⟨ob,m,e1,e2⟩|⟨ob,p,m,e1,e2⟩
  ·exact .inl ⟨ob,m,s _ _ e1,e2⟩
  ·exact .inr ⟨ob,p,m,s _ _ e1,e2⟩
theorem HasL.mono{H H':Hp}(s:Same H H'):∀(ds:List bp) (vs:List V),HasL H ds vs->HasL H' ds vs
 | [],_,h=>by simp only[HasL]at h ⊢;exact h
 |d::ds,vs,h=>by
  simp only[HasL]at h ⊢;obtain⟨v,r,e,q,l⟩:=h;exact⟨v,r,e,Has.mono s d v q,HasL.mono s ds r l⟩
theorem HasV.mono{H H':Hp}(s:Same H H'):∀(ds:List (bp×bp)) (vs:List V),HasV H ds vs->HasV H' ds vs
 | [],_,h=>by simp only[HasV]at h ⊢;exact h
 |d::ds,vs,h=>by
  simp only[HasV]at h ⊢;obtain⟨v,r,e,q,l⟩:=h;exact⟨v,r,e,HasP.mono s d v q,HasV.mono s ds r l⟩
theorem HasP.mono{H H':Hp}(s:Same H H'):∀(p:bp×bp) (v:V),HasP H p v->HasP H' p v
 | (_,d),v,h=>by
  simp only[HasP]at h ⊢;exact Has.mono s d v h
end
section
variable {H:Hp}{v:V}
theorem iC:Has H .none v↔v=.non:=by simp only[Has]
theorem gB{b:Bool}:Has H (.bool b) v↔v=.bl b:=by simp only[Has]
theorem cQ{i:Int}:Has H (.int i) v↔v=.int i:=by simp only[Has]
theorem fN{x:Str}:Has H (.str x) v↔v=.str x:=by simp only[Has]
theorem bU{ds:List bp}:Has H (.list ds) v↔∃a vs,v=.ref a/\H a=some (.lst vs)/\HasL H ds vs:=by simp only[Has]
theorem zL{ds:List bp}:Has H (.tuple ds) v↔∃a vs,v=.ref a/\H a=some (.tup vs)/\HasL H ds vs:=by simp only[Has]
theorem pP{kvs:List (bp×bp)}:Has H (.dict kvs) v↔∃a vs,v=.ref a/\DOf H a (kvs.map (·.1)) vs/\HasV H kvs vs:=by simp only[Has]
theorem Ft{vs:List V}:HasV H [] vs↔vs=[]:=by simp only[HasV]
theorem yF{p:bp×bp}{ds:List (bp×bp)}{vs:List V}:HasV H (p::ds) vs↔∃v r,vs=v::r/\Has H p.2 v/\HasV H ds r:=by
 obtain⟨k,d⟩:=p;simp only[HasV,HasP]
theorem zz{vs:List V}:HasL H [] vs↔vs=[]:=by simp only[HasL]
theorem zo{d:bp}{ds:List bp}{vs:List V}:HasL H (d::ds) vs↔∃v r,vs=v::r/\Has H d v/\HasL H ds r:=by simp only[HasL]
theorem HasL.length:∀{ds:List bp}{vs:List V},HasL H ds vs->vs.length=ds.length
 | [],_,h=>by rw[zz.mp h];rfl
 |d::ds,vs,h=>by
  obtain⟨v,r,e,_,l⟩:=zo.mp h;rw[e,ff,ff,HasL.length l]
theorem HasL.get:∀{ds:List bp}{vs:List V}{i:Nat}{d:bp},HasL H ds vs->ds[i]?=some d->∃v,vs[i]?=some v/\Has H d v
 | [],_,_,_,_,e=>by simp at e
 |c::ds,vs,0,d,h,e=>by
  obtain⟨v,r,rfl,q,_⟩:=zo.mp h;simp at e;subst e;exact⟨v,rfl,q⟩
 |c::ds,vs,i+1,d,h,e=>by
  obtain⟨v,r,rfl,_,l⟩:=zo.mp h;obtain⟨u,e1,e2⟩:=HasL.get (i:=i) (d:=d) l (by simpa using e);exact⟨u,by simpa using e1,e2⟩
theorem HasL.append:∀{ds es:List bp}{vs us:List V},HasL H ds vs->HasL H es us->HasL H (ds++es) (vs++us)
 | [],es,vs,us,h,h'=>by rw[zz.mp h];exact h'
 |d::ds,es,vs,us,h,h'=>by
  obtain⟨v,r,rfl,q,l⟩:=zo.mp h;exact zo.mpr ⟨v,r++us,rfl,q,HasL.append l h'⟩
theorem lQ:∀(ns:List Int),HasL H (ns.map .int) (ns.map V.int)
 | []=>zz.mpr rfl
 |n::ns=>zo.mpr ⟨_,_,rfl,cQ.mpr rfl,lQ ns⟩
end
def tyD:bp->String
 | .none=>"NoneType" | .bool _=>"bool" | .int _=>"int" | .str _=>"str" | .list _=>"list" | .tuple _=>"tuple" | .dict _=>"dict"
theorem Has.ty{K:cy}{H:Hp}{d:bp}{v:V}(h:Has H d v):TyOf K H v (.type (tyD d)):=by
 cases d with
 |none=>rw[iC.mp h];exact .non
 |bool b=>rw[gB.mp h];exact .bl b
 |int i=>rw[cQ.mp h];exact .int i
 |str x=>rw[fN.mp h];exact .str x
 |list ds=>obtain⟨a,vs,rfl,e,_⟩:=bU.mp h;exact .lst e
 |tuple ds=>obtain⟨a,vs,rfl,e,_⟩:=zL.mp h;exact .tup e
 |dict kvs=>
  obtain⟨a,vs,rfl,e,_⟩:=pP.mp h;rcases e with ⟨ob,m,e,_⟩|⟨ob,p,m,e,_⟩
  ·exact .dK (.inr ⟨ob,e⟩)
  ·exact .dT (.inr ⟨ob,e⟩)
def qP:List String:=["NoneType","bool","int","str","list","tuple","dict"]
def gA:List String:=["int","bool","str","list","tuple","dict"]
def fC(t c:String):Bool:=t==c||(t == "bool" && c == "int")
def iV(d:bp)(c:String):Bool:=fC (tyD d) c
theorem Kc(d:bp):tyD d∈qP:=by cases d<;>simp[tyD,qP]
theorem HQ(K:cy){t c:String}(ht:t∈qP)(hc:c∈gA):W.kitOne K (.type t) (.type c)=some (fC t c):=by
 simp only[qP,gA,qr,rz,or_false]at ht hc;rcases ht with rfl|rfl|rfl|rfl|rfl|rfl|rfl<;>rcases hc with rfl|rfl|rfl|rfl|rfl|rfl<;>rfl
def tE:List V->Hp->VK->Prop
 | [x,.ty c],H,Q=>∃d,Has H d x/\c∈gA/\Q (.bl (iV d c)) H
 |_,_,_=>False
theorem G5{H:Hp}{d:bp}{x:V}{c:String}{Q:VK}(h:Has H d x)(hc:c∈gA)(q:Q (.bl (iV d c)) H):tE [x,.ty c] H Q:=⟨d,h,hc,q⟩
section
variable {X:Cx}
theorem kQ:CallR X (.builtin "isinstance") tE:=by
 intro ze s σ H xs us Q I r h
 match xs,h with
 | [x,.ty c],h=>
  obtain⟨d,hx,hc,q⟩:=h;obtain⟨u,w',rfl,ru,y⟩:=vals2 r;cases (show w'=Value.type c from y);exact JA I ru hx.ty (HQ X.K (Kc d) hc) fun tk=>⟨.bl _,H,I.tok tk,rfl,q⟩
end
def sp1(p:V->Hp->VK->Prop):Sp:=fun vs H Q _=>match vs with | [x]=>p x H Q|_=>False
def sp2(p:V->V->Hp->VK->Prop):Sp:=fun vs H Q _=>match vs with | [x,y]=>p x y H Q|_=>False
theorem xZ{p:V->Hp->VK->Prop}:∀(vs:List V) (H:Hp) (Q:VK) (E:XK),sp1 p vs H Q E->∃x,vs=[x]/\p x H Q:=by
 intro vs H Q E h
 match vs,h with
 | [x],h=>exact⟨x,rfl,h⟩
theorem BY{p:V->V->Hp->VK->Prop}:∀(vs:List V) (H:Hp) (Q:VK) (E:XK),sp2 p vs H Q E->∃x y,vs=[x,y]/\p x y H Q:=by
 intro vs H Q E h
 match vs,h with
 | [x,y],h=>exact⟨x,y,rfl,h⟩
structure Dd(K:cy)(mg:Str->Option bn)(x:Str)(st:Stmt)(ps:List Str):Prop where
 ex:∃f fd,Fun K x x st f fd/\mg x=some (.ref f)/\Binds K fd ps []
structure Df(P:fx)(w:io)(K:cy)(mg:Str->Option bn)(base:Heap)(x:Str)(ps:List Str)(k:Nat)(sp:Sp):Prop where
 ex:∃f fd,FnOk P w K mg base CX0 k f fd ps sp/\mg x=some (.ref f)/\W.keepIn K (.ref f)=true/\Binds K fd ps []
section
variable {P:fx}{w:io}{K:cy}{mg:Str->Option bn}{base:Heap}{x a b c d e:Str}{st:Stmt}{N:List Str}{k:Nat}
theorem Df.of{ps:List Str}{sp:Sp}(D:Dd K mg x st ps)(S:FnScope N ps (zj st))(len:∀vs H Q E,sp vs H Q E->vs.length=ps.length)
  (hbody:∀(f:Addr) (cdv:bn) (A:iz) (outer:List Env) (s:bq) (H:Hp) (vs:List V) (Q:VK) (E:XK),Room k (A.deeper (si x (zj st) s.heap.objs.size f cdv))->sp vs H Q E ->
   ∃t,PSs (eG CX0 P w K mg base N x (zj st) f cdv A outer s H E).nox (dL st) t/\t { nx:=fun _ H'=>Q .non H',rt:=Q } (start N vs) H):Df P w K mg base x ps (k+1) sp:=by
 obtain⟨f,fd,F,hm,hb⟩:=D.ex;exact⟨f,fd,F.ok S len (hbody f),hm,F.kp,hb⟩
theorem Df.of2{p:V->V->Hp->VK->Prop}(D:Dd K mg x st [a,b])(S:FnScope N [a,b] (zj st))(σ0:V->V->St)(hs:∀v u,start N [v,u]=σ0 v u)
  (hbody:∀(f:Addr) (q:bn) (A:iz) (outer:List Env) (s:bq) (H:Hp) (v u:V) (Q:VK) (E:XK),Room k (A.deeper (si x (zj st) s.heap.objs.size f q))->p v u H Q ->
   ∃t,PSs (eG CX0 P w K mg base N x (zj st) f q A outer s H E).nox (dL st) t/\t { nx:=fun _ H'=>Q .non H',rt:=Q } (σ0 v u) H):Df P w K mg base x [a,b] (k+1) (sp2 p):=by
 refine Df.of D S (fun vs H Q E h=>?_) fun f q A outer s H vs Q E hr h=>?_
 ·obtain⟨x,y,rfl,_⟩:=BY vs H Q E h;rfl
 ·obtain⟨x,y,rfl,h⟩:=BY vs H Q E h;rw[hs];exact hbody f q A outer s H x y Q E hr h
end
def tC2(p:V->V->Hp->VK->Prop)(ta tb:TE):TE:=fun σ H Q=>ta σ H fun x H1=>tb σ H1 fun y H2=>p x y H2 Q
section
variable {X:Cx}{x a b c d e':Str}{k j:Nat}{pos pos':Pos}{e1 e2 e3 e4 e5:Expr}{t1 t2 t3 t4 t5:TE}
theorem Jp{p:V->V->Hp->VK->Prop}(D:Df X.prog X.w X.K X.mg X.base x [a,b] k (sp2 p))(hr:Room j X.A)(hk:k<=j)(h1:PE X e1 t1)(h2:PE X e2 t2)(hg:Gl X x:=by rfl)(q:(x==("__debug__":Str))=false:=by decide)
  (q1:fq [e1,e2] X.env=(false,eval e1 X.env)::fq [e2] X.env:=by rfl) (q2:fq [e2] X.env=(false,eval e2 X.env)::fq [] X.env:=by rfl)
  (hpl:(ky pos (fq [e2] X.env)).any (·.1)=false:=by rfl):PE X (.Call (.Name x pos') [e1,e2] [] pos) (tC2 p t1 t2):=by
 obtain⟨f,fd,F,hm,kp,hb⟩:=D.ex;intro ze s σ H Q I h;exact vJ (dvs:=[]) (ds:=[]) (E:=E0) F (hr.mono hk) hg hm kp hb .nil pass0 (za h1 (za h2 zd q2) q1) q q1 hpl ze s σ H Q I h
end
theorem Dd.mk'{K:cy}{h:Heap}{mg:Str->Option bn}(X:K.In h)(G:h.Ns me mg){x:Str}{st:Stmt}{ps:List Str}{f:Addr}{oc:bn}{od an:Option Addr}{aa:Array (Option bn)}{kV y pm q ct:bn}
  (a:W.nsIn K me x=some (some (.ref f))) (l:K.lookup f=some ⟨oc,od,.func (W.fnOf x x (iU st) (dL st) (zj st) .none kV y pm an q ct),aa⟩)
  (c:W.codeIn K q x=true) (k:W.keepIn K (.ref f)=true)
  (hb:∀(kV y pm:bn) (an:Option Addr) (q ct:bn) (us:List bn),us.length=ps.length->bindArgs (W.fnOf x x (iU st) (dL st) (zj st) .none kV y pm an q ct) ⟨us,[]⟩=pure (ps.zip us)):Dd K mg x st ps:=
 ⟨f,_,w8 (st:=st) l c k,W.mg_of X G a,(w8 (st:=st) l c k).binds hb⟩
theorem aX:iy "len" = some (.builtin "len"):=by decide +kernel
theorem kM:iy "isinstance" = some (.builtin "isinstance"):=by decide +kernel
theorem Fd:iy "max" = some (.builtin "max"):=by decide +kernel
theorem C7:iy "min" = some (.builtin "min"):=by decide +kernel
theorem AT:iy "abs" = some (.builtin "abs"):=by decide +kernel
theorem kT:iy "sorted" = some (.builtin "sorted"):=by decide +kernel
theorem uF:iy "int" = some (.type "int"):=by decide +kernel
theorem B3:iy "bool" = some (.type "bool"):=by decide +kernel
theorem uM:iy "list" = some (.type "list"):=by decide +kernel
theorem EF:iy "tuple" = some (.type "tuple"):=by decide +kernel
section
variable {H:Hp}{Q:VK}
theorem K3{i:Nat}{σ:St}:e9 i σ H Q↔match σ[i]? with|some (some v)=>Q v H|_=>False:=by
 unfold e9;constructor
 ·rintro⟨v,e,q⟩;rw[e];exact q
 ·intro h;split at h
  ·rename_i v e;exact⟨v,e,h⟩
  ·exact h.elim
theorem CK{g:Int->Int->V}{i j:Int}:rI0 g (.int i) (.int j) H Q↔Q (g i j) H:=
 ⟨fun⟨_,_,e1,e2,q⟩=>by cases e1;cases e2;exact q,fun q=>⟨i,j,rfl,rfl,q⟩⟩
theorem Hw{p:Bool->Prop}{b:Bool}:(∃c,V.bl b=V.bl c/\p c)↔p b:=⟨fun⟨_,e,q⟩=>by cases e;exact q,fun q=>⟨b,rfl,q⟩⟩
end
section
variable {K:cy}{H:Hp}{Q:VK}{x y:V}{d:bp}{ds:List bp}
def u7(K:cy):List V->Hp->VK->Prop:=fun xs H Q=>∃p ys,xs=[.ref p]/\(SqL K H p ys\/SqT K H p ys)/\Q (.int ys.length) H
end
section
variable {X:Cx}
theorem KA:CallR X (.builtin "len") (u7 X.K):=AY
end
def hid(a:Addr)(H:Hp):Hp:=fun b=>if b=a then none else H b
theorem Ij{a b:Addr}{H:Hp}(h:b≠a):hid a H b=H b:=ci h
theorem IV{a:Addr}{H:Hp}:hid a H a=none:=ck rfl
theorem Same.laid{H:Hp}{p:Addr}{o:HO}(h:H p=none):Same H (upd H p o):=fun b u e=>by
 rw[zB (zK e h)];exact e
section
variable {X:Cx}{ze:List (Addr×Obj)}{σ:St}{H:Hp}{s:bq}{a:Addr}{m:List (Key×V)}
theorem Inv.fz(I:Inv X ze σ H s)(e:H a=some (.dK m)):∃ob,Inv X ze σ (upd H a (.frz ob (.dK m))) s:=by
 have q:=(show ObjOk X.prog X.w H s.heap a (.dK m)from I.hok a _ e);obtain⟨_,_,vs,_,ob,es,ep,h1,_⟩:=id q;exact⟨ob,I.write (x:=a) (e:=a) (o:=.frz ob (.dK m)) (h':=s.heap) (t':=s.toks) (by rw[e];exact pc) (.inl rfl) (fun b v _ z=>z) ⟨ob,h1⟩ ⟨h1,q⟩⟩
def uB(i:Nat)(t:TS):TS:=fun D σ H=>t { D with nx:=fun σ' H'=>∃a m,σ'[i]?=some (some (.ref a))/\H' a=some (.dK m)/\∀ob,D.nx σ' (upd H' a (.frz ob (.dK m))) } σ H
theorem F1{i:Nat}{st:Stmt}{t:TS}(h:PS X st t):PS X st (uB i t):=fun ze s σ H D I hw=>
 thn (h ze s σ H _ I hw) fun f s1 q=>by
  cases f with
  |next=>
   obtain⟨σ1,H1,I1,a,m,e1,e2,q⟩:=q;obtain⟨ob,J⟩:=I1.fz e2;exact⟨σ1,_,J,q ob⟩
  |brk=>exact q
  |cont=>exact q
  |ret v=>exact q
end
end
section
theorem mI(d:bp):iV d "int" = match d with | .int _=>true | .bool _=>true|_=>false:=by cases d<;>first|rfl|(show fC _ _=_;simp[fC,tyD])
theorem lD(d:bp):iV d "bool" = match d with | .bool _=>true|_=>false:=by cases d<;>first|rfl|(show fC _ _=_;simp[fC,tyD])
theorem nC(d:bp):iV d "tuple" = match d with | .tuple _=>true|_=>false:=by cases d<;>first|rfl|(show fC _ _=_;simp[fC,tyD])
theorem nK(d:bp):iV d "list" = match d with | .list _=>true|_=>false:=by cases d<;>first|rfl|(show fC _ _=_;simp[fC,tyD])
def vw:List Addr->Hp->Hp
 | [],H=>H
 |a::r,H=>hid a (vw r H)
def vN(K:cy):V->V->Hp->VK->Prop:=fun x y H Q=>∃(a:Addr) (ns:List Int) (i:Int),x=.ref a/\y=.int i/\SqL K H a (ns.map V.int)/\0<=i/\∀n,Q (.int n) H
theorem E9{ns:List Int}{i:Int}(h0:0<=i)(h1:i<((ns.map V.int).length:Int)):∃n,atI (ns.map V.int) i=some (.int n):=by
 obtain⟨k,rfl⟩:=Int.eq_ofNat_of_zero_le h0;have hk:k<ns.length:=by rw[dh]at h1;omega
 exact⟨ns[k],gJ (by rw[gg,ca hk];rfl)⟩
theorem GO{ns:List Int}{lo hi:Option Int}{x:V}(h:x∈dE (ns.map V.int) lo hi):∃n,x=.int n:=by
 have h1:=pk (qz h);obtain⟨n,_,e⟩:=mem_map.mp h1;exact⟨n,e.symm⟩
theorem Fun.bind1{K:cy}{x a:Str}{st:Stmt}{f:Addr}{fd:pj}(F:Fun K x x st f fd)
  (h:∀(kV y pm:bn) (an:Option Addr) (q ct:bn) (u:bn),bindArgs (W.fnOf x x (iU st) (dL st) (zj st) .none kV y pm an q ct) ⟨[u],[]⟩=pure [(a,u)]):∀(s:bq) (u:bn),BindsTo s fd ⟨[u],[]⟩ [(a,u)]:=by
 obtain⟨oc,od,kV,y,pm,an,q,ct,aa,rfl,lk,ab⟩:=F.ex;exact fun s u=>.of_eq (h kV y pm an q ct u)
def wJ(K:cy):V->Hp->VK->Prop:=fun x H Q=>∃(a:Addr) (ns:List Int),x=.ref a/\SqL K H a (ns.map V.int)/\ns.length<=63/\∀H',Q (.bl true) H'
theorem walk_law{l:W.OpenLaw}{k:Nat}{q:fx}{y:List Str}{XP:(Str->Option bn)->Heap->Prop}{YP:io->Heap->Prop}{d:DefRec}{K:Params->cy}(hn:l.most=some 63)(aa:d.params.defaults=[])
  (hr:Room k callerA) (hY:∀(w:io) (h:Heap),YP w h->(K w.params).In h) (hT:∀(w:io) (h:Heap),YP w h->TabsOk (K w.params) h)
  (F:∀(w:io) (mg:Str->Option bn) (fa:Addr) (h:Heap),(K w.params).In h->h.Ns me mg->mg d.name=some (.ref fa) ->
   ∃fd:pj,(∀(s:bq) (u:bn),BindsTo s fd ⟨[u],[]⟩ [("script",u)])/\∀base:Heap,(K w.params).In base->base.Ns me mg->FnOk l.prog w (K w.params) mg base CX0 k fa fd ["script"] (sp1 (wJ (K w.params)))):
  W.WalkO q y XP YP l.row.toRowW d [] (fun f vs=>PySem.call f vs):=
 L2.walk_of (n:=63) (k:=k) (x:="script") (CX:=fun _=>CX0) (sp:=fun w=>sp1 (wJ (K w.params))) hn dz aa hr hY hT F (fun _ _ a ns hl _ hS=>⟨a,ns,rfl,hS,hl,fun _=>rfl⟩) fun _ _ _ _ _ z=>z
theorem Fun.ok1{P:fx}{w:io}{K:cy}{mg:Str->Option bn}{base:Heap}{x a:Str}{st:Stmt}{f:Addr}{fd:pj}{N:List Str}{k:Nat}{p:V->Hp->VK->Prop}(F:Fun K x x st f fd)(S:FnScope N [a] (zj st))(σ0:V->St)(hs:∀v,start N [v]=σ0 v)
  (hbody:∀(q:bn) (A:iz) (outer:List Env) (s:bq) (H:Hp) (v:V) (Q:VK) (E:XK),Room k (A.deeper (si x (zj st) s.heap.objs.size f q))->p v H Q ->
   ∃t,PSs (eG CX0 P w K mg base N x (zj st) f q A outer s H E).nox (dL st) t/\t { nx:=fun _ H'=>Q .non H',rt:=Q } (σ0 v) H):FnOk P w K mg base CX0 (k+1) f fd [a] (sp1 p):=by
 refine F.ok S (fun vs H Q E h=>?_) fun q A outer s H vs Q E hr h=>?_
 ·obtain⟨x,rfl,_⟩:=xZ vs H Q E h;rfl
 ·obtain⟨x,rfl,h⟩:=xZ vs H Q E h;rw[hs];exact hbody q A outer s H x Q E hr h
end
section
mutual
theorem Has.reads{X:Cx}{ze:List (Addr×Obj)}{σ:St}{H:Hp}{s:bq}(I:Inv X ze σ H s):∀(d:bp) (v:V) (u:bn),Has H d v->d.canLay0=true->RelV v u->∃as,Reads s.heap u d as
 | .none,v,u,h,_,r=>by
  rw[iC.mp h]at r;cases (show u=qg from r);exact⟨_,.none⟩
 | .bool b,v,u,h,_,r=>by
  rw[gB.mp h]at r;cases (show u=Value.bool b from r);exact⟨_,.bool b⟩
 | .int i,v,u,h,_,r=>by
  rw[cQ.mp h]at r;obtain⟨t,q⟩:=(show ∃t,u=qo i t from r);cases q;exact⟨_,.int i t⟩
 | .str x,v,u,h,_,r=>by
  rw[fN.mp h]at r;obtain⟨t,q⟩:=(show ∃t,u=Value.str x t from r);cases q;exact⟨_,.str x t⟩
 | .list ds,v,u,h,c,r=>by
  obtain⟨a,vs,rfl,e,l⟩:=bU.mp h;cases (show u=gm a from r);obtain⟨_,y,n,rv,e1⟩:=(show ObjOk X.prog X.w H s.heap a (.lst vs)from I.hok a _ e);obtain⟨as,q⟩:=HasL.reads I ds vs y l (by simpa only[oq]using c) rv;exact⟨_,.list e1 rfl rfl (by simpa using q)⟩
 | .tuple ds,v,u,h,c,r=>by
  obtain⟨a,vs,rfl,e,l⟩:=zL.mp h;cases (show u=gm a from r);obtain⟨_,y,rv,o,e1,e2,n,e3⟩:=(show ObjOk X.prog X.w H s.heap a (.tup vs)from I.hok a _ e);obtain⟨as,q⟩:=HasL.reads I ds vs y l (by simpa only[oq]using c) rv;exact⟨_,.tuple e1 e2 e3 (by simpa using q)⟩
 | .dict _,_,_,_,c,_=>by simp[oq]at c
theorem HasL.reads{X:Cx}{ze:List (Addr×Obj)}{σ:St}{H:Hp}{s:bq}(I:Inv X ze σ H s):∀(ds:List bp) (vs:List V) (us:List bn),HasL H ds vs->lw ds=true->Vals vs us->∃as,ReadsAll s.heap us ds as
 | [],vs,us,h,_,r=>by
  rw[zz.mp h]at r;cases r;exact⟨_,.nil⟩
 |d::ds,vs,us,h,c,r=>by
  obtain⟨v,w',rfl,h1,h2⟩:=zo.mp h;have c':d.canLay0=true/\lw ds=true:=by simpa[lw]using c
  cases r with
  |cons r1 r2=>
   obtain⟨as,q1⟩:=Has.reads I d v _ h1 c'.1 r1;obtain⟨bs,q2⟩:=HasL.reads I ds w' _ h2 c'.2 r2;exact⟨_,.cons q1 q2⟩
end
def EI:R2:=fun x y H Q=>∃d e,Has H d x/\Has H e y/\gp d=true/\gp e=true/\Q (.bl (om d e)) H
def DY:R2:=fun x y H Q=>∃d e,Has H d x/\Has H e y/\gp d=true/\gp e=true/\Q (.bl (!PyData.eqv d e)) H
section
variable {X:Cx}
theorem i7(hu:X.A.units+64<cLine):OpR X (jg .Eq) EI:=by
 intro ze s σ H x y v u Q I rx ry h;obtain⟨d,e,hd,he,sd,se,q⟩:=h;obtain⟨as,q1⟩:=Has.reads I d x v hd (jb sd) rx;obtain⟨bs,q2⟩:=Has.reads I e y u he (jb se) ry;exact eq_dataH q1 q2 sd se hu ⟨.bl _,H,I,rfl,q⟩
theorem qC(hu:X.A.units+64<cLine):OpR X (jg .NotEq) DY:=by
 intro ze s σ H x y v u Q I rx ry h;obtain⟨d,e,hd,he,sd,se,q⟩:=h;obtain⟨as,q1⟩:=Has.reads I d x v hd (jb sd) rx;obtain⟨bs,q2⟩:=Has.reads I e y u he (jb se) ry;exact ne_dataH q1 q2 sd se hu ⟨.bl _,H,I,rfl,q⟩
end
section
variable {prog:fx}{w:io}{A:iz}{E:bn->bq->Prop}{s:bq}{l:Addr}
theorem Jy{vs:List bn}{ns:List Int}(hi:oo vs ns):∃xs:Array (Int×Tok),vs.toArray=intItems xs/\ns=xs.toList.map (·.1):=by
 obtain⟨xs,e⟩:=hi.allInts.items;exact⟨xs,e,by rw[<- hi.numsOf,<- nums_intItems,<- e]⟩
end
section
variable {K:cy}{o:List Addr}{σ:St}{H0:Hp}{t t1 t2 t3 t4 t5:TE}{ta:TA}{tt tu:TT}{d d1 d2 d3 d4 d5:bp}{ds:List bp}{b c:Bool}
def gZ:bp->Bool
 | .none=>true
 |_=>false
theorem Cu{H:Hp}{v:V}(h:Has H d v):decide (v=.non)=gZ d:=by
 cases d with
 |none=>rw[iC.mp h];rfl
 |bool _=>rw[gB.mp h];rfl
 |int _=>rw[cQ.mp h];rfl
 |str _=>rw[fN.mp h];rfl
 |list _=>obtain⟨a,vs,rfl,_⟩:=bU.mp h;rfl
 |tuple _=>obtain⟨a,vs,rfl,_⟩:=zL.mp h;rfl
 |dict _=>obtain⟨a,vs,rfl,_⟩:=pP.mp h;rfl
def Aw:R2:=fun x y H Q=>y=.non/\Q (.bl (decide (x=.non))) H
def xW:R2:=fun x y H Q=>y=.non/\Q (.bl (!decide (x=.non))) H
theorem J0{X:Cx}:OpR X (jg .Is) Aw:=GQ
theorem tG{X:Cx}:OpR X (jg .IsNot) xW:=IP
end
end
section
theorem KI{K:cy}{a:Addr}{ns:List Int}{N:Int}{j:Nat}{tb:TS}{D:Ends}{σ:St}{H:Hp}(P:St->Prop)(h0:σ[0]?=some (some (.ref a)))(hS:SqL K H a (ns.map V.int))(q:ns.length<=63)(hP:P σ)
  (turn:∀(n:Int) (σ:St) (H1 H2:Hp),P σ->Same H H1->Same H1 H2->tb { D with nx:=fun σ' H'=>Same H1 H'/\P σ',ct:=fun σ' H'=>Same H1 H'/\P σ',bk:=D.nx } (σ.set j (some (.int n))) H2)
  (done:∀(σ:St) (H1:Hp),P σ->Same H H1->D.nx σ H1):
  oI (vW K (tOp lH (j7 (cZ (tC2 (vN K) (e9 0) (tC (.int 0))) jD)) (tSl (mV K) (e9 0) (kG (tC (.int 1))) (kG (tC (.int N)))))) (gI j) tb D σ H:=by
 refine⟨_,h0,a,ns,0,rfl,rfl,hS,by decide,fun n0=>⟨by show 1<=cx;decide,fun p hp=>?_⟩⟩;have s1:Same H (upd H p (.lst [.int n0])):=Same.laid hp;refine⟨_,h0,_,rfl,_,rfl,a,_,rfl,s1.seq hS,fun p2 y=>?_⟩;have s2:=s1.trans (Same.laid (o:=.lst (dE (ns.map V.int) (some 1) (some N))) y);have np:p≠p2:=zK b8 y;have hz:(dE (ns.map V.int) (some 1) (some N)).length<=63:=lm (tP _ _ _) (by rw[dh];exact q);refine⟨p,p2,_,_,rfl,rfl,by rw[zB np,b8],b8,ko (small1000 (by simp only[ff,length_nil];omega)),fun p3 aa=>?_⟩;have s3:=s2.trans (Same.laid (o:=.lst ([V.int n0]++dE (ns.map V.int) (some 1) (some N))) aa);refine⟨p3,rfl,⟨_,.of b8⟩,Eb (K:=K) (a:=p3) (xs:=[V.int n0]++dE (ns.map V.int) (some 1) (some N)) (fun i σ' H'=>Same _ H'/\P σ') ⟨Same.refl _,hP⟩ (fun i σ H4 _ ⟨s4,_⟩=>.of (s4 _ _ b8)) ?_ ?_⟩
 ·rintro i x σ' H4 hi ⟨s4,p4⟩;obtain⟨n,rfl⟩:∃n,x=.int n:=by
   rcases mem_append.mp (bt hi)with m|m
   ·exact⟨n0,mem_singleton.mp m⟩
   ·exact GO m
  exact turn n σ' _ H4 p4 s3 s4
 ·rintro σ' H4 ⟨s4,p4⟩;exact done σ' H4 p4 (s3.trans s4)
end
section
section
variable {prog:fx}{w:io}{A:iz}{E:bn->bq->Prop}{R:Result->bq->Prop}{s:bq}
theorem E4{elt y iter:Expr}{ifs:List Expr}{scope:Scope}{pos:Pos}{it acc:bn}{env:Env}(I:Nat->bq->Prop)
  (turn:∀n s,I n s->cw (model prog w) A (pyNext it) (fun r s₁=>match r with
   |none=>R (.ok .next) s₁
   |some v=>cw (model prog w) A (letOwnedTupleGo y it v) (fun _ s₀=>cw (model prog w) A (assign y env v) (fun _ s₂=>
     cw (model prog w) A (forIn ifs true fun c r=>if r=true then do let ok <- isTrue c env (eval c env);pure (pp ok)else pure (pp r)) (fun ok s₃=>
      if ok=true then cw (model prog w) A (eval elt env) (fun x s₄=>
       cw (model prog w) A (call (.builtin "list.append") [acc,x]) (fun _ s₅=>∃m,m<n/\I m s₅) (fun _ _=>False) s₄) (fun _ _=>False) s₃
      else ∃m,m<n/\I m s₃) (fun _ _=>False) s₂) (fun _ _=>False) s₀) (fun _ _=>False) s₁) (fun _ _=>False) s)
  (n:Nat) (h:I n s):
  codeAny (model prog w) A (.compLoop (.ListComp elt [⟨y,iter,ifs,0⟩] scope pos) 0 it acc env) R s:=by
 have up:∀{α:Type}{t:Sem α}{Q:α->bq->Prop}{E':bn->bq->Prop}{s':bq},cw (model prog w) A t Q (fun _ _=>False) s'->cw (model prog w) A t Q E' s':=fun h=>ox h (fun _ _ q=>q) fun _ _ z=>z.elim;refine codeAny_loop rfl I (fun n s hI=>?_) n h;show cw _ A ((compTurn (.ListComp elt [⟨y,iter,ifs,0⟩] scope pos) 0 it acc env).onRaise (fun x=>do noteFrame x env;theTreesLotGoes x)) _ _ s;refine wpAny_noted ?_;rw[compTurn_list];refine bo (wpAny_standAt (bo (thn (up (turn n s hI)) fun r s₁ h₁=>?_)));cases r with
 |none=>exact cm h₁
 |some v=>
  refine bo (thn (up h₁) fun _ s₀ h₀=>?_);refine bo (thn (up h₀) fun _ s₂ h₂=>bo (thn (up h₂) fun ok s₃ h₃=>?_));cases ok with
  |false=>exact cm ⟨rfl,h₃⟩
  |true=>
   exact bo (bo (thn (up h₃) fun x s₄ h₄=>bo (thn (up h₄) fun _ s₅ h₅=>cm (cm ⟨rfl,h₅⟩))))
end
def cC(X:Cx)(scope:Scope)(cl:List (Str×Addr))(C:Addr)(s₃:bq)(H₃:Hp)(fp:List Addr)(N:List Str):Cx where
 prog:=X.prog
 w:=X.w
 K:=X.K
 mg:=X.mg
 base:=X.base
 A:=X.A
 N:=N
 s₀:=s₃
 H₀:=H₃
 env:=compEnvC scope cl C X.env
 outer:=X.stack
 stack:=X.stack
 ex:=fp
 fn:=fun _=>false
 calm:=X.calm
 pn:=[]
 xe:=fun _ _=>False
def PTs(X:Cx)(ifs:List Expr)(t:TT):Prop:=
 ∀(ze:List (Addr×Obj)) (s:bq) (σ:St) (H:Hp) (Q:Bool->Hp->Prop),Inv X ze σ H s->t σ H Q ->
  cw (model X.prog X.w) X.A (forIn ifs true fun c r=>if r=true then do let ok <- isTrue c X.env (eval c X.env);pure (pp ok)else pure (pp r)) (TP X ze σ Q) X.xe s
def Bw:TT:=fun _ H Q=>Q true H
theorem c9{X:Cx}:PTs X [] Bw:=fun _ _ _ H _ I h=>wpAny_tests_nil ⟨H,I,h⟩
theorem rB{X:Cx}{c:Expr}{t:TT}(h:PT X c t):PTs X [c] t:=fun ze s σ H Q I hw=>wpAny_tests_one (h ze s σ H Q I hw)
def tau(caps:List (Option Nat))(σ:St):St:=caps.map fun o=>o.bind fun i=>(σ[i]?).join
def nN(caps:List (Option Nat))(wi:TI)(g:TG)(tt:TT)(te:TE):TE:=fun σ H Q=>wi σ H fun J H1=>∀D,H1 D=none->∃W:Nat->Nat->St->Hp->Prop,(∃m,W 0 m (tau caps σ) (upd H1 D (.lst []))) /\
 ∀i m τ H2,W i m τ H2->(J.stop i H2/\Q (.ref D) H2)\/(J.go i H2/\∀x H3,J.yld i H2 x H3->g x τ H3 fun τ4 H4=>tt τ4 H4 fun b H5=>
  if b=true then te τ4 H5 fun v H6=>∃xs,H6 D=some (.lst xs)/\xs.length<cx/\∃m',m'<m/\W (i+1) m' τ4 (upd H6 D (.lst (xs++[v])))else ∃m',m'<m/\W (i+1) m' τ4 H5)
structure CompOk(X:Cx)(scope:Scope)(cl:List (Str×Addr))(N:List Str)(caps:List (Option Nat)):Prop where
 clos:closureFor scope X.env=pure cl
 sub:∀x c,cl.lookup x=some c->X.env.cells.lookup x=some c
 kind:scope.kind=.function
 cell:∀y∈scope.names,y.2≠.cell
 names:∀y∈scope.names,y.2=.local->scope.names.lookup y.1=some .local
 has:∀x,((relabel scope X.env).names.lookup x=some .cell\/(relabel scope X.env).names.lookup x=some .free)->∃c,cl.lookup x=some c
 cap:∀(j i:Nat) (x:Str),caps[j]?=some (some i)->N[j]?=some x->X.N[i]?=some x/\Vis X.env.scope x/\¬ X.env.kindOf x=some .local/\∃c,cl.lookup x=some c/\((relabel scope X.env).names.lookup x=some .cell\/(relabel scope X.env).names.lookup x=some .free)
 len:caps.length=N.length
section
variable {X:Cx}{scope:Scope}{cl:List (Str×Addr)}{N:List Str}{caps:List (Option Nat)}{tg iter elt:Expr}{ifs:List Expr}{pos:Pos}{wi:TI}{g:TG}{tt:TT}{te:TE}
theorem Ha{ze:List (Addr×Obj)}{σ:St}{H:Hp}{s:bq}{fp:List Addr}{h₁:Heap}{t':Nat}(c:CompOk X scope cl N caps)(I:Inv X ze σ H s)(f:∀b∈fp,FpOk X ze H b)(fo:∀b∈fp,∃o,s.heap.get? b=some o)
  (hns:h₁.Ns s.heap.objs.size (fun _=>none)) (hk:∀b o,s.heap.get? b=some o->h₁.get? b=some o):
  Inv (cC X scope cl s.heap.objs.size s H fp N) [] (tau caps σ) H { s with heap:=h₁,toks:=t' }:=by
 have lt:∀b∈fp,b<s.heap.objs.size:=fun b hb=>by obtain⟨o,e⟩:=fo b hb;exact gh e
 have ab:∀x k,cl.lookup x=some k->∃v,s.heap.IsCell k v:=fun x k e=>I.cell x k (c.sub x k e);refine⟨⟨I.ok.mod,c.kind,I.ok.glob,I.ok.blt,cu _,fun x y k h1 h2=>I.ok.inj x y k (c.sub x k h1) (c.sub y k h2),fun x hx=>c.has x hx,fun x k h _=>absurd (show false=true from h) dz,I.ok.hd,I.ok.frames,.inl rfl,
  fun b hb=>⟨ik (lt b hb),fun x k e=>(f b hb).2.2.2.2.1 x k (c.sub x k e)⟩,I.bs,lm I.ok.bsz I.sz,fun b o e hb=>?_,fun b hb z=>?_,I.stack,I.stkFree⟩,
  rfl,I.bare,Un.kept hk,⟨_,hns,fun j x v h1 h2 h3=>?_⟩,fun x k e=>?_,I.hok.fresh (cu _),fun x k e=>I.freeC x k (c.sub x k e),fun p hp=>absurd (show p∈([]:List (Addr×Obj))from hp) yv,I.hok.kept hk,?_⟩
 ·rcases(f b hb).2.2.2.1 with q|q
  ·exact I.ok.noex b o e q
  ·exact absurd (ix (gh e) (lm I.ok.bsz q)) (nv _)
 ·rcases mem_cons.mp (I.stkSub b z)with q|q
  ·exact(f b hb).2.1 q
  ·exact(f b hb).2.2.1 q
 ·have aa:(caps.map fun o=>o.bind fun i=>(σ[i]?).join)[j]?=some (some v):=h2;rw[gg]at aa;cases e:caps[j]? with
  |none=>rw[e]at aa;cases aa
  |some oi=>
   rw[e]at aa;have h2'':(oi.bind fun i=>(σ[i]?).join)=some v:=gz aa;cases oi with
   |none=>cases h2''
   |some i=>
    have h4:(σ[i]?).join=some v:=h2'';have h5:σ[i]?=some (some v):=by
     cases q:σ[i]? with
     |none=>rw[q]at h4;cases h4
     |some w'=>rw[q]at h4;exact congrArg some h4
    obtain⟨k1,k2,k3,cc,k4,k5⟩:=c.cap j i x e h1;obtain⟨m,hn,hl⟩:=I.loc;obtain⟨u,r,l⟩:=hl i x v k1 h5 k2;refine⟨u,r,.inr ⟨k5,cc,k4,?_⟩⟩;rcases l with ⟨q,_⟩|⟨_,c',hc',hcell⟩
    ·exact(k3 q).elim
    ·rw[c.sub x cc k4]at hc';cases hc';exact hcell.keeps hk
 ·obtain⟨v,q⟩:=ab x k e;exact⟨v,q.keeps hk⟩
 ·show (caps.map _).length=N.length;rw[dh];exact c.len
theorem KQ{ze:List (Addr×Obj)}{σ τ:St}{H H':Hp}{s s':bq}{h':Heap}{fp:List Addr}(I:Inv X ze σ H s)(f:∀b∈fp,FpOk X ze H b)(J:Inv (cC X scope cl s.heap.objs.size s H fp N) [] τ H' s')(hs:jr s.heap.objs.size s'.heap h'):
  Inv X ze σ H' { s' with heap:=h' }:=by
 have hC:H' s.heap.objs.size=none:=J.free;have keep:∀b o,b≠s.heap.objs.size->s'.heap.get? b=some o->h'.get? b=some o:=fun b o nb e=>hs.extBut b o nb e;have u1:Un (frs X.stack) (s.heap.objs.size::fp) H H' s.heap s'.heap:=Un.mono J.base (fun b hb=>hb) (fun b hb=>cz _ hb);have u2:Un (frs X.stack) (s.heap.objs.size::fp) H' H' s'.heap h':=
  ⟨fun b o e _ _ hx=>keep b o (fun z=>hx (by rw[z];exact fu)) e,fun b o e _ _ hx=>⟨o.slots,keep b o (fun z=>hx (by rw[z];exact fu)) e⟩,fun _ _ _ n _=>n,fun b o e hx=>⟨o,keep b o (fun z=>hx (by rw[z];exact fu)) e⟩,fun _ _ q=>q,fun _ _ _ q=>q,fun _ _ q=>q⟩
 have hok:HOk X.prog X.w H' h':=fun a o e=>(J.hok a o e).stay (fun b u hb q=>keep b u (fun z=>by
  rcases hb with hb|hb
  ·rw[<- hb,z,hC]at e;cases e
  ·rw[z,hC]at hb;cases hb) q) (fun b q=>q) fun b xs q=>q
 refine I.call' (s':={ s' with heap:=h' }) (ch:=s.heap.objs.size::fp) J.os (u1.trans u2) hok J.bare fun b hb=>?_;rcases mem_cons.mp hb with rfl|hb
 ·refine⟨.inr I.sz,ne_of_gt I.lt,fun x k e z=>?_,fun p hp z=>?_⟩
  ·obtain⟨v,q⟩:=I.cell x k e;exact absurd q.lt (by rw[z];exact nv _)
  ·exact absurd (gh (I.pin p hp).1) (by rw[z];exact nv _)
 ·obtain⟨f0,f1,f2,f3,f4,f5⟩:=f b hb;exact⟨f3,f1,f4,f5⟩
theorem yU{ze:List (Addr×Obj)}{σ:St}{H2:Hp}{s2:bq}{it:Addr}{fp:List Addr}{tn:Nat->Heap->Prop}{J:It}{RR:bn->Addr->Result->bq->Prop}{E:bn->bq->Prop}(hc:X.calm=true)(c:CompOk X scope cl N caps)
  (I2:Inv X ze σ H2 s2) (T:Turn X.prog X.w X.K tg J fp it tn) (st2:tn 0 s2.heap) (f2:∀b∈fp,FpOk X ze H2 b)
  (hg:∀C s H fp,PG (cC X scope cl C s H fp N) tg g) (ht:∀C s H fp,PTs (cC X scope cl C s H fp N) ifs tt) (he:∀C s H fp,PE (cC X scope cl C s H fp N) elt te)
  (Q:VK) (hq:∀D,H2 D=none->∃W:Nat->Nat->St->Hp->Prop,(∃m,W 0 m (tau caps σ) (upd H2 D (.lst []))) /\
   ∀i m τ H2,W i m τ H2->(J.stop i H2/\Q (.ref D) H2)\/(J.go i H2/\∀x H3,J.yld i H2 x H3->g x τ H3 fun τ4 H4=>tt τ4 H4 fun b H5=>
    if b=true then te τ4 H5 fun v H6=>∃xs,H6 D=some (.lst xs)/\xs.length<cx/\∃m',m'<m/\W (i+1) m' τ4 (upd H6 D (.lst (xs++[v])))else ∃m',m'<m/\W (i+1) m' τ4 H5))
  (hRR:∀(D C:Addr) (H':Hp) (s':bq) (m:Str->Option bn),s'.heap.Ns C m->FpOk X ze H' C->(∀h',jr C s'.heap h'->Inv X ze σ H' { s' with heap:=h' })->Q (.ref D) H'->RR (.ref D) C (.ok .next) s'):
  cw (model X.prog X.w) X.A (newList []) (fun acc s₃=>cw (model X.prog X.w) X.A (newFunctionEnv scope X.env.globals cl [] X.env.qual none .none (some X.env)) (fun ae s₄=>
   codeAny (model X.prog X.w) X.A (.compStart (.ListComp elt [⟨tg,iter,ifs,0⟩] scope pos) 0 (.ref it) acc { ae with scope:=relabel scope X.env }) (RR acc ae.locals) s₄) E s₃) E s2:=by
 have hD:H2 s2.heap.objs.size=none:=I2.hok.fresh (cu _);obtain⟨W,⟨m0,w0⟩,al⟩:=hq s2.heap.objs.size hD;have I3:Inv X ze σ (upd H2 s2.heap.objs.size (.lst [])) { s2 with heap:=s2.heap.push { cls:=.type "list",data:=.seq ([]:List bn).toArray } }:=I2.laid (t':=s2.toks) (fun b u e=>bw _ e) (cu _) ⟨nq _,[],0,.nil,fj _ rfl⟩;have fo:∀b∈fp,∃o,s2.heap.get? b=some o:=fun b hb=>by obtain⟨o,e,_⟩:=T.obj 0 _ st2 b hb;exact⟨o,e⟩
 have f3:∀b∈fp,FpOk X ze (upd H2 s2.heap.objs.size (.lst [])) b:=fun b hb=>by
  obtain⟨o,e⟩:=fo b hb;refine⟨?_,(f2 b hb).2⟩;rw[zB (ik (gh e))];exact(f2 b hb).1
 refine jz (wpAny_newFunctionEnv c.cell (by intro y hy;simp at hy) (fun h₁ ak ah=>?_) c.kind);have hk:∀b o,(s2.heap.push { cls:=.type "list",data:=.seq ([]:List bn).toArray }).get? b=some o->h₁.get? b=some o:=fun b o e=>ah.extBut b o (ik (gh e)) (bw _ e);have aj:tn 0 h₁:=T.keep 0 _ _ st2 fun b _ o e=>hk b o (bw _ e);have I4:=Ha (t':=s2.toks+([]:List (Str×bn)).length) c I3 f3 (fun b hb=>by obtain⟨o,e⟩:=fo b hb;exact⟨o,bw _ e⟩) ak hk;have ab:∀{H':Hp},(∀b∈fp,H' b=none)->∀b∈fp,FpOk (cC X scope cl (s2.heap.push { cls:=.type "list",data:=.seq ([]:List bn).toArray }).objs.size { s2 with heap:=s2.heap.push { cls:=.type "list",data:=.seq ([]:List bn).toArray } } (upd H2 s2.heap.objs.size (.lst [])) fp N) [] H' b:=fun hn b hb=>
  ⟨hn b hb,(I4.ok.exf b hb).1,I4.ok.exfs b hb,.inl hb,(I4.ok.exf b hb).2,fun p hp=>absurd (show p∈([]:List (Addr×Obj))from hp) yv⟩
 have ac:codeAny (model X.prog X.w) X.A (.compLoop (.ListComp elt [⟨tg,iter,ifs,0⟩] scope pos) 0 (.ref it) (.ref s2.heap.objs.size) (compEnvC scope cl (s2.heap.push { cls:=.type "list",data:=.seq ([]:List bn).toArray }).objs.size X.env))
   (RR (.ref s2.heap.objs.size) (s2.heap.push { cls:=.type "list",data:=.seq ([]:List bn).toArray }).objs.size) { s2 with heap:=h₁,toks:=s2.toks+([]:List (Str×bn)).length }:=by
  refine E4 (fun n s'=>∃i τ H',Inv (cC X scope cl (s2.heap.push { cls:=.type "list",data:=.seq ([]:List bn).toArray }).objs.size { s2 with heap:=s2.heap.push { cls:=.type "list",data:=.seq ([]:List bn).toArray } } (upd H2 s2.heap.objs.size (.lst [])) fp N) [] τ H' s'/\tn i s'.heap/\(∀b∈fp,H' b=none)/\W i n τ H') ?_ m0 ⟨0,_,_,I4,aj,fun b hb=>(f3 b hb).1,w0⟩;rintro n s5 ⟨i,τ,H5,I5,ai,ag,w5⟩;rcases al i n τ H5 w5 with ⟨stop,qn⟩|⟨go,step⟩
  ·refine thn (T.done (cC X scope cl (s2.heap.push { cls:=.type "list",data:=.seq ([]:List bn).toArray }).objs.size { s2 with heap:=s2.heap.push { cls:=.type "list",data:=.seq ([]:List bn).toArray } } (upd H2 s2.heap.objs.size (.lst [])) fp N) rfl rfl rfl hc i [] s5 τ H5 (fun _ _=>False) I5 (ab ag) ai stop) fun r s6 ⟨hr,I6⟩=>?_;subst hr;obtain⟨m,hn,_⟩:=id I6.loc;exact hRR _ _ H5 s6 m hn (I3.fpOk (cu _) I6.free) (fun h' hs=>KQ I3 f3 I6 hs) qn
  ·refine thn (T.item (cC X scope cl (s2.heap.push { cls:=.type "list",data:=.seq ([]:List bn).toArray }).objs.size { s2 with heap:=s2.heap.push { cls:=.type "list",data:=.seq ([]:List bn).toArray } } (upd H2 s2.heap.objs.size (.lst [])) fp N) rfl rfl rfl hc i [] s5 τ H5 (fun _ _=>False) I5 (ab ag) ai go) fun r s6 ⟨u,hr,h6⟩=>?_;subst hr;refine thn h6 fun _ s7 ⟨x,H7,I7,r7,y7,af,aq⟩=>?_;have I7':=I7.pinned (ab aq) (T.obj _ _ af);refine thn (hg _ _ _ _ _ s7 τ H7 x u _ I7' r7 (step x H7 y7)) fun _ s8 ⟨τ8,H8,I8,q8⟩=>?_;refine thn (ht _ _ _ _ _ s8 τ8 H8 _ I8 q8) fun ok s9 ⟨H9,I9,q9⟩=>?_;have aa:∀{H':Hp}{s':bq}{m:Nat},Inv (cC X scope cl (s2.heap.push { cls:=.type "list",data:=.seq ([]:List bn).toArray }).objs.size { s2 with heap:=s2.heap.push { cls:=.type "list",data:=.seq ([]:List bn).toArray } } (upd H2 s2.heap.objs.size (.lst [])) fp N) ([]++mN fp s7.heap) τ8 H' s'->(m<n/\W (i+1) m τ8 H') ->
     ∃m,m<n/\∃i τ H',Inv (cC X scope cl (s2.heap.push { cls:=.type "list",data:=.seq ([]:List bn).toArray }).objs.size { s2 with heap:=s2.heap.push { cls:=.type "list",data:=.seq ([]:List bn).toArray } } (upd H2 s2.heap.objs.size (.lst [])) fp N) [] τ H' s'/\tn i s'.heap/\(∀b∈fp,H' b=none)/\W i m τ H':=fun {H' s' m} I' q=>by
    refine⟨m,q.1,i+1,τ8,H',I'.unpinned,T.keep _ _ _ af fun b hb o e=>(I'.pin (b,o) (fc _ (fc _ (rS hb e)))).1,fun b hb=>?_,q.2⟩;obtain⟨o,e,d⟩:=T.obj _ _ af b hb;exact(I'.pin (b,o) (fc _ (fc _ (rS hb e)))).2.1
   cases ok with
   |false=>
    rw[ci ji]at q9 ⊢;obtain⟨m',hm,w9⟩:=q9;exact aa I9 ⟨hm,w9⟩
   |true=>
    rw[ck rfl]at q9 ⊢;refine thn (he _ _ _ _ _ s9 τ8 H9 _ I9 q9) fun v ao ⟨z,H10,I10,am,xs,hx,hz,m',hm,an⟩=>?_;refine thn (qZ _ ao τ8 H10 (.ref s2.heap.objs.size) [z] (.ref s2.heap.objs.size) [v] (fun _ H11=>W (i+1) m' τ8 H11) I10 rfl (.cons am .nil) ⟨_,xs,z,rfl,rfl,hx,hz,an⟩) fun _ ar ⟨_,H11,I11,_,ap⟩=>?_;exact aa I11 ⟨hm,ap⟩
 exact codeAny_compStart_list ac (T.self _ 0 _ _ _ aj ac)
theorem cV(hx:∀e s,X.xe e s->False)(hc:X.calm=true)(c:CompOk X scope cl N caps)(hi:PI X tg iter wi)(hg:∀C s H fp,PG (cC X scope cl C s H fp N) tg g)(ht:∀C s H fp,PTs (cC X scope cl C s H fp N) ifs tt)(he:∀C s H fp,PE (cC X scope cl C s H fp N) elt te)
  (hs:∀x,foldedSetIterable iter X.env x=pure x:=by intro _;rfl):PE X (.ListComp elt [⟨tg,iter,ifs,0⟩] scope pos) (nN caps wi g tt te):=by
 intro ze s σ H Q I h;rw[eval_ListComp];refine wpAny_comprehension_free (use:=none) rfl hs c.clos c.kind c.names (thn (hi ze s σ H _ I h) fun v s1 h1=>thn h1 fun aa s2 h2=>?_);obtain⟨it,fp,tn,J,H2,e,I2,T,y,f2,q2⟩:=h2;subst e;exact yU (RR:=fun acc C=>compPost (model X.prog X.w) X.A X.xe none (EP X ze σ Q) acc C) hc c I2 T y f2 hg ht he Q q2 fun D C H' s' m hn _ hb q=>⟨m,hn,fun h' hs=>⟨.ref D,H',hb h' hs,rfl,q⟩⟩
theorem vZ{i:Nat}{y:Str}{py aa:Pos}(hx:∀e s,X.xe e s->False)(hc:X.calm=true)(c:CompOk X scope cl N caps)(hN:X.N.Nodup)(ac:X.N[i]?=some y)(hl:X.env.scope.names.lookup y=some .local)(hi:PI X tg iter wi)(hg:∀C s H fp,PG (cC X scope cl C s H fp N) tg g)
  (ht:∀C s H fp,PTs (cC X scope cl C s H fp N) ifs tt) (he:∀C s H fp,PE (cC X scope cl C s H fp N) elt te)
  (hsw:swapsWith (.ListComp elt [⟨tg,iter,ifs,0⟩] scope pos) (some (.Name y py)) aa.line X.env=pure true:=by rfl)
  (hs:∀x,foldedSetIterable iter X.env x=pure x:=by intro _;rfl):PS X (.Assign [.Name y py] (.ListComp elt [⟨tg,iter,ifs,0⟩] scope pos) aa) (jU (nN caps wi g tt te) (gI i)):=by
 intro ze s σ H D I h;rw[exec_Assign_Name_used _ _ _ _ hsw];refine bo (wpAny_standAt (bo ?_));show cw _ X.A (do let _ <- comprehension (.ListComp elt [⟨tg,iter,ifs,0⟩] scope pos) scope X.env _ (newList []) false (eval iter X.env) (some (assign (.Name y py) X.env))) _ _ s;refine bo (ox (wpAny_comprehension_free (use:=some (assign (.Name y py) X.env)) (Q:=fun _ s'=>SP X ze D .next s') rfl hs c.clos c.kind c.names (thn (hi ze s σ H _ I h) fun v s1 h1=>thn h1 fun ae s2 h2=>?_)) (fun _ s' hq=>cm (cm hq)) fun _ _ e=>e);obtain⟨it,fp,tn,J,H2,e,I2,T,ab,f2,q2⟩:=h2;subst e;refine yU (RR:=fun acc C=>compPost (model X.prog X.w) X.A X.xe (some (assign (.Name y py) X.env)) (fun _ s'=>SP X ze D .next s') acc C) hc c I2 T ab f2 hg ht he (fun v H'=>D.nx (σ.set i (some v)) H') q2 fun Da C H' s' m hn f hb q=>?_;obtain⟨o,es,ep,ho,hd,r⟩:=hn;have I':Inv X ze σ H' s':=hb s'.heap (Heap.SameBut.refl _ _);have I'':Inv X (ze++[(C,o)]) σ H' s':=I'.pins_of fun p hp=>(mem_append.mp hp).elim (fun z=>I'.pin p (fc _ z)) fun z=>by
  cases mem_singleton.mp z;exact⟨ho,f.1,f.2.1,f.2.2.1,fun v e=>by rw[hd]at e;cases e⟩
 refine wpAny_assign_Name (sC I'' hN ac (.inl hl) (show RelV (V.ref Da) (gm Da)from rfl) (fun s2 J2=>?_) (.inr hl));refine⟨m,⟨o,es,ep,(J2.pin (C,o) (fc _ (fc _ (mem_singleton.mpr rfl)))).1,hd,r⟩,fun h' hs=>?_⟩;exact⟨_,H',J2.unpinned.turned (t':=s2.toks) (fun b ob nb e=>hs.extBut b ob nb e) f.1 f.2.1 f.2.2.2.1 f.2.2.2.2.1 f.2.2.2.2.2,q⟩
end
def eP(env:Env):List (Str×oh)->List (Str×Addr)->List (Str×Addr)
 | [],acc=>acc
 | (n,k)::r,acc=>eP env r (if k==.free then (n,(env.cells.lookup n).getD 0)::acc else acc)
theorem Bo{env:Env}{x:Str}{c:Addr}:∀{names:List (Str×oh)}{acc:List (Str×Addr)},(x,c)∈eP env names acc->(x,c)∈acc\/((x,NameKind.free)∈names/\c=(env.cells.lookup x).getD 0)
 | [],_,h=>.inl h
 | (n,k)::r,acc,h=>by
  rcases Bo (names:=r) h with h|⟨h,e⟩
  ·by_cases hk:k==.free
   ·rw[ck hk]at h;rcases mem_cons.mp h with h|h
    ·cases h;have:k=.free:=by simpa using hk
     subst this;exact .inr ⟨fu,rfl⟩
    ·exact .inl h
   ·rw[ci hk]at h;exact .inl h
  ·exact .inr ⟨cz _ h,e⟩
theorem Bm{env:Env}{p:Str×Addr}:∀{names:List (Str×oh)}{acc:List (Str×Addr)},p∈acc->p∈eP env names acc
 | [],_,h=>h
 | (n,k)::r,acc,h=>Bm (names:=r) (by split<;>first|exact cz _ h|exact h)
theorem uP{env:Env}{x:Str}:∀{names:List (Str×oh)}{acc:List (Str×Addr)},(x,NameKind.free)∈names->∃c,(x,c)∈eP env names acc
 | (n,k)::r,acc,h=>by
  rcases mem_cons.mp h with h|h
  ·cases h;exact⟨_,Bm (names:=r) (by rw[ck dz];exact fu)⟩
  ·exact uP (names:=r) h
theorem tO{β:Type}{x:Str}{c:β}:∀{l:List (Str×β)},(x,c)∈l->∃c',l.lookup x=some c'
 | (n,v)::r,h=>by
  cases e:x==n with
  |true=>exact⟨v,by rw[mn,e]⟩
  |false=>
   rcases mem_cons.mp h with h|h
   ·cases h;simp at e
   ·obtain⟨c',q⟩:=tO (l:=r) h;exact⟨c',by rw[mn,e];exact q⟩
theorem HJ{env:Env}{scope:Scope}(h:∀y∈scope.names,y.2=.free->(env.cells.lookup y.1).isSome=true):closureFor scope env=pure (eP env scope.names []):=by
 have go:∀(names:List (Str×oh)) (acc:List (Str×Addr)),(∀y∈names,y.2=.free->(env.cells.lookup y.1).isSome=true) ->
   (forIn names acc (fun(x:Str×oh) (cs:List (Str×Addr))=>(if x.2==.free then (do let c <- cellOf env x.1;pure (pp ((x.1,c)::cs)))else pure (pp cs):Sem (ForInStep (List (Str×Addr))))))=(pure (eP env names acc):Sem (List (Str×Addr))):=by
  intro names;induction names with
  |nil=>intro acc _;rfl
  |cons y r ih=>
   intro acc hy;obtain⟨n,k⟩:=y;rw[List.forIn_cons];by_cases hk:k==.free
   ·have hs:=hy (n,k) fu (by simpa using hk);obtain⟨c,hc⟩:=isSome_iff_exists.mp hs;have aa:env.cells.lookup n=some c:=hc;simp only[hk,if_true,cellOf,aa,pure_bind,eP,Option.getD_some];exact ih _ fun y q=>hy y (cz _ q)
   ·simp only[hk,fg,if_false,pure_bind,eP];exact ih _ fun y q=>hy y (cz _ q)
 have g:=go scope.names [] h;exact(bind_pure _).trans g
def bL(DN:List Str)(dsc sc:List (Str×oh))(N:List Str)(caps:List (Option Nat)):Bool:=
 (caps.length==N.length)&&sc.all (fun y=>y.2 != .cell&&(y.2 != .free||dsc.lookup y.1==some .cell)&&(y.2 != .local||sc.lookup y.1==some .local)) &&
 (caps.zip N).all fun p=>match p.1 with|none=>true|some i=>DN[i]?==some p.2&&dsc.lookup p.2==some .cell&&sc.lookup p.2==some .free
theorem vG{dsc:List (Str×oh)}{env:Env}{x:Str}{k:oh}:∀{names:List (Str×oh)},(names.map fun(n,k)=>if (k==.free&&env.scope.kind==.function&&env.kindOf n==some .cell)then (n,.cell)else (n,k)).lookup x=some k ->
  ∃k',names.lookup x=some k'/\(k'=k\/(k'=.free/\k=.cell))
 | [],h=>by simp at h
 | (n,k0)::r,h=>by
  cases e:x==n with
  |true=>
   refine⟨k0,by rw[mn,e],?_⟩;rw[fw]at h;dsimp only at h;split at h
   ·rename_i hc;rw[mn,e]at h;have:k0=.free:=by simp at hc;exact hc.1.1
    cases h;exact .inr ⟨this,rfl⟩
   ·rw[mn,e]at h;cases h;exact .inl rfl
  |false=>
   rw[fw]at h;dsimp only at h;have h':(r.map fun(n,k)=>if (k==NameKind.free&&env.scope.kind==.function&&env.kindOf n==some .cell)then (n,NameKind.cell)else (n,k)).lookup x=some k:=by
    split at h<;>(rw[mn,e]at h;exact h)
   obtain⟨k',q,z⟩:=vG (dsc:=dsc) h';exact⟨k',by rw[mn,e];exact q,z⟩
theorem A0{env:Env}{x:Str}(h1:env.scope.kind=.function)(h2:env.kindOf x=some .cell):∀{names:List (Str×oh)},names.lookup x=some .free ->
  (names.map fun(n,k)=>if (k==.free&&env.scope.kind==.function&&env.kindOf n==some .cell)then (n,.cell)else (n,k)).lookup x=some .cell
 | [],h=>by simp at h
 | (n,k0)::r,h=>by
  rw[fw];cases e:x==n with
  |true=>
   rw[mn,e]at h;cases h;have en:x=n:=by simpa using e
   subst en;dsimp only;rw[ck (by rw[h1,h2];decide),mn,e]
  |false=>
   rw[mn,e]at h;have ih:=A0 h1 h2 (names:=r) h;dsimp only;split<;>(rw[mn,e];exact ih)
theorem zP{X:Cx}{dsc:Scope}{L:Nat}{scope:Scope}{N:List Str}{caps:List (Option Nat)}(hd:X.env.scope=dsc)(hc:X.env.cells=cellsFrom L dsc.names [])(af:dsc.kind=.function)(hk:scope.kind=.function)(h:bL X.N dsc.names scope.names N caps=true):
  CompOk X scope (eP X.env scope.names []) N caps:=by
 subst hd;simp only[bL,jw,mv,beq_iff_eq]at h;obtain⟨⟨hl,hs⟩,hz⟩:=h;have ac:∀y∈scope.names,y.2=.free->X.env.scope.names.lookup y.1=some .cell:=fun y hy e=>by
  have q:=(hs y hy).1.2;rw[e]at q;simpa using q
 have aa:∀y∈scope.names,y.2≠.cell:=fun y hy e=>by
  have q:=(hs y hy).1.1;rw[e]at q;simp at q
 have ab:∀x,X.env.scope.names.lookup x=some .cell->(X.env.cells.lookup x).isSome=true:=fun x e=>by
  rw[hc];exact W.cellsFrom_some _ _ _ (.inl e)
 have sub:∀x c,(eP X.env scope.names []).lookup x=some c->X.env.cells.lookup x=some c:=fun x c e=>by
  rcases Bo (PySem.mem_of_lookup e)with q|⟨q,ec⟩
  ·cases q
  ·obtain⟨c',ae⟩:=isSome_iff_exists.mp (ab x (ac _ q rfl));rw[ec,ae];rfl
 refine⟨HJ fun y hy e=>ab y.1 (ac y hy e),sub,hk,aa,fun y hy e=>?_,fun x hx=>?_,fun j i x h1 h2=>?_,hl⟩
 ·have q:=(hs y hy).2;rw[e]at q;simpa using q
 ·have fin:(x,NameKind.free)∈scope.names->∃c,(eP X.env scope.names []).lookup x=some c:=fun m=>by
   obtain⟨c,hm⟩:=uP (env:=X.env) (acc:=[]) m;exact tO hm
  rcases hx with hx|hx
  ·obtain⟨k',q,z⟩:=vG (dsc:=[]) hx;rcases z with rfl|⟨rfl,_⟩
   ·exact absurd rfl (aa _ (PySem.mem_of_lookup q))
   ·exact fin (PySem.mem_of_lookup q)
  ·obtain⟨k',q,z⟩:=vG (dsc:=[]) hx;rcases z with rfl|⟨_,z⟩
   ·exact fin (PySem.mem_of_lookup q)
   ·cases z
 ·have hm:(some i,x)∈caps.zip N:=by
   have:(caps.zip N)[j]?=some (some i,x):=by rw[List.getElem?_zip_eq_some];exact⟨h1,h2⟩
   exact bt this
  have q:=hz _ hm;simp only[jw,beq_iff_eq]at q;obtain⟨⟨q1,q2⟩,q3⟩:=q;obtain⟨c,ag⟩:=uP (env:=X.env) (acc:=[]) (PySem.mem_of_lookup q3);obtain⟨c',ae⟩:=tO ag;refine⟨q1,.inr (.inl q2),fun z=>?_,c',ae,.inl (A0 af q2 q3)⟩;have z':X.env.scope.names.lookup x=some .local:=z;rw[q2]at z';cases z'
end
section
section
variable {X:Cx}
def yY:R2:=fun x y H Q=>∃z n,x=.str z/\y=.int n/\z.length<=1000/\n<=1000/\-1000<=n/\Q (.str (PySem.Txt.mul z n)) H
theorem IC{z:Str}{n:Int}(h1:z.length<=1000)(h2:n<=1000)(h3:-1000<=n):PySem.MulOk z n:=by
 refine⟨by simp;omega,fun a _ b=>?_,fun a _=>?_⟩
 ·have e:(1000:Int)<=(2 ^ 63-1)/n:=by
   rw[Int.le_ediv_iff_mul_le yw];have:=Int.mul_le_mul_of_nonneg_left h2 (show (0:Int)<=1000 by decide);omega
  omega
 ·have e:z.length*n.toNat<=1000*1000:=Nat.mul_le_mul h1 yw;unfold Builtin.Str.tooLong;simp only[decide_eq_false_iff_not,Nat.not_lt];exact lm e dz
theorem KS:OpR X (lc .Mult) yY:=by
 intro ze s σ H x y v u Q I rx ry h;obtain⟨z,n,rfl,rfl,h1,h2,h3,q⟩:=h;obtain⟨t,rfl⟩:=rx;obtain⟨t',rfl⟩:=ry;exact PySem.SB.mul (IC h1 h2 h3) fun _ k=>⟨.str _,H,I.tok _,⟨_,rfl⟩,q⟩
def A6:V->Option Int->Option Int->Hp->VK->Prop:=fun x lo hi H Q=>∃z,x=.str z/\z.length<=cx/\Q (.str (PySem.Txt.slice z lo hi)) H
theorem KB:SlR X A6:=by
 intro ze s σ H x v vl vu lo hi sl Q I rx hs pl pu h;obtain⟨z,rfl,hz,q⟩:=h;obtain⟨t,rfl⟩:=rx;refine⟨"str",_,F.slot_str_getitem.lookup,typeIs_str _ _ _,?_⟩;have fin:∀(a b:Option (Int×Tok)),a.map (·.1)=lo->b.map (·.1)=hi->s.heap.IsSlice sl a b none->cw (model X.prog X.w) X.A (getItem (.str z t) (.ref sl)) (EP X ze σ Q) X.xe s:=fun a b e1 e2 y=>by
  subst e1 e2;exact wpAny_getItem_str_slice (l:=a) (u:=b) (st:=none) y rfl (post_val_or_str ⟨lm (PySem.Txt.slice_le z _ _) hz,fun _ k=>⟨.str _,H,I.tok _,⟨_,rfl⟩,q⟩⟩)
 cases pl with
 |none=>
  cases pu with
  |none=>exact fin none none rfl rfl hs
  |int j tj=>exact fin none (some (j,tj)) rfl rfl hs
 |int i ti=>
  cases pu with
  |none=>exact fin (some (i,ti)) none rfl rfl hs
  |int j tj=>exact fin (some (i,ti)) (some (j,tj)) rfl rfl hs
end
section
variable {K:cy}{o:List Addr}{σ:St}{H0:Hp}{t:TE}{ta:TA}{ds:List bp}
def fH(lo:Int)(n:Nat):List bp:=(ga n).map fun k:Nat=>.int (lo+k)
theorem j3{lo:Int}{n:Nat}:(fH lo n).length=n:=by simp[fH]
theorem uK{lo:Int}{n i:Nat}{d:bp}(h:(fH lo n)[i]?=some d):i<n/\d=.int (lo+i):=by
 have hi:i<n:=by
  have:=List.getElem?_eq_some_iff.mp h;obtain⟨hl,_⟩:=this
  rwa [j3]at hl
 refine⟨hi,?_⟩;simp only[fH,gg,ql hi,map_some,qe]at h;exact h.symm
end
def cD{α:Type}(xs:List α)(lo hi:Option Int):List α:=(xs.drop (HT.sIx xs.length 0 lo)).take (HT.sIx xs.length xs.length hi-HT.sIx xs.length 0 lo)
theorem HasL.drop{H:Hp}:∀{ds:List bp}{vs:List V} (n:Nat),HasL H ds vs->HasL H (ds.drop n) (vs.drop n)
 |ds,vs,0,h=>h
 | [],vs,n+1,h=>by rw[zz.mp h];exact zz.mpr rfl
 |d::ds,vs,n+1,h=>by
  obtain⟨v,r,rfl,_,l⟩:=zo.mp h;exact HasL.drop n l
theorem HasL.take{H:Hp}:∀{ds:List bp}{vs:List V} (n:Nat),HasL H ds vs->HasL H (ds.take n) (vs.take n)
 |ds,vs,0,h=>zz.mpr rfl
 | [],vs,n+1,h=>by rw[zz.mp h];exact zz.mpr rfl
 |d::ds,vs,n+1,h=>by
  obtain⟨v,r,rfl,q,l⟩:=zo.mp h;exact zo.mpr ⟨v,_,rfl,q,HasL.take n l⟩
theorem HasL.cut{H:Hp}{ds:List bp}{vs:List V}(lo hi:Option Int)(h:HasL H ds vs):HasL H (cD ds lo hi) (dE vs lo hi):=by
 unfold cD dE;rw[h.length];exact(h.drop _).take _
end
section
theorem Dq:∀{l:List Addr}{H:Hp}{b:Addr}{u:HO},vw l H b=some u↔b∉l/\H b=some u
 | [],H,b,u=>by simp[vw]
 |a::r,H,b,u=>by
  show hid a (vw r H) b=some u↔_;by_cases h:b=a
  ·subst h;simp[IV]
  ·rw[Ij h,Dq];simp[h]
def vx(h o:List Addr)(H:Hp):Hp:=vw (h++o) H
theorem zC{h o:List Addr}{H:Hp}{b:Addr}{u:HO}:vx h o H b=some u↔b∉h/\b∉o/\H b=some u:=by
 unfold vx;rw[Dq];simp[and_assoc]
theorem zG{h o:List Addr}{H:Hp}:Same (vx h o H) H:=fun b u e=>(zC.mp e).2.2
theorem mY{h o:List Addr}{H H':Hp}(s:Same H H'):Same (vx h o H) (vx h o H'):=fun b u e=>by
 obtain⟨h1,h2,h3⟩:=zC.mp e;exact zC.mpr ⟨h1,h2,s b u h3⟩
structure Ex(o:List Addr)(H:Hp)(o':List Addr)(H':Hp):Prop where
 pre:∃r,o'=o++r
 kp:∀b u,b∉o->H b=some u->b∉o'/\H' b=some u
section
variable {h o o' o'':List Addr}{H H' H'':Hp}{S:List (List bp)}{p a:Addr}
theorem Ex.refl:Ex o H o H:=⟨⟨[],yv⟩,fun _ _ a b=>⟨a,b⟩⟩
theorem Ex.trans(a:Ex o H o' H')(b:Ex o' H' o'' H''):Ex o H o'' H'':=by
 obtain⟨⟨r,e⟩,ka⟩:=a;obtain⟨⟨t,e'⟩,kb⟩:=b;refine⟨⟨r++t,by rw[e',e,fy]⟩,fun b u h1 h2=>?_⟩;obtain⟨h3,h4⟩:=ka b u h1 h2;exact kb b u h3 h4
theorem Ex.vx(e:Ex o H o' H'):Same (L2.vx h o H) (L2.vx h o' H'):=fun b u q=>by
 obtain⟨h1,h2,h3⟩:=zC.mp q;obtain⟨h4,h5⟩:=e.kp b u h2 h3;exact zC.mpr ⟨h1,h4,h5⟩
structure ExH(h o:List Addr)(H:Hp)(o':List Addr)(H':Hp):Prop where
 pre:∃r,o'=o++r
 kp:∀b u,b∉h->b∉o->H b=some u->b∉o'/\H' b=some u
theorem Ex.hid(e:Ex o H o' H'):ExH h o H o' H':=⟨e.pre,fun b u _=>e.kp b u⟩
theorem ExH.refl:ExH h o H o H:=Ex.refl.hid
theorem ExH.trans(a:ExH h o H o' H')(b:ExH h o' H' o'' H''):ExH h o H o'' H'':=by
 obtain⟨⟨r,e⟩,ka⟩:=a;obtain⟨⟨t,e'⟩,kb⟩:=b;refine⟨⟨r++t,by rw[e',e,fy]⟩,fun b u h0 h1 h2=>?_⟩;obtain⟨h3,h4⟩:=ka b u h0 h1 h2;exact kb b u h0 h3 h4
theorem ExH.vx(e:ExH h o H o' H'):Same (L2.vx h o H) (L2.vx h o' H'):=fun b u q=>by
 obtain⟨h1,h2,h3⟩:=zC.mp q;obtain⟨h4,h5⟩:=e.kp b u h1 h2 h3;exact zC.mpr ⟨h1,h4,h5⟩
theorem Ex.of_same(s:Same H H'):Ex o H o H':=⟨⟨[],yv⟩,fun b u h e=>⟨h,s b u e⟩⟩
theorem gC{α:Type}{l t:List α}{k:Nat}{a:α}(q:l[k]?=some a):(l++t)[k]?=some a:=by
 obtain⟨hk,_⟩:=List.getElem?_eq_some_iff.mp q;rw[gk hk];exact q
def exO(a C:Addr)(d:Option Addr):HO:=.ext fun h=>∃o,h.get? a=some o/\o.cls=.ref C/\o.dict=d/\∃vs,o.data=.fields vs/\vs[2]?=some .none
def xw(dx:Addr)(fs:List (Str×V)):HO:=.ext fun h=>∃mA,h.Ns1 dx mA/\(∀f,RelO (fs.lookup f) (mA f))/\PySem.Within mA (fs.map (·.1))
def HasE(H:Hp)(C:Addr)(fs:List (Str×bp))(v:V):Prop:=∃a d,v=.ref a/\H a=some (exO a C d)/\∀f dt,fs.lookup f=some dt->∃dx vs u,d=some dx/\H dx=some (xw dx vs)/\vs.lookup f=some u/\Has H dt u
theorem HasE.mono{H H':Hp}{C:Addr}{fs:List (Str×bp)}{v:V}(s:Same H H')(q:HasE H C fs v):HasE H' C fs v:=by
 obtain⟨a,d,e,ha,hf⟩:=q;refine⟨a,d,e,s _ _ ha,fun f dt l=>?_⟩;obtain⟨dx,vs,u,e1,e2,e3,e4⟩:=hf f dt l;exact⟨dx,vs,u,e1,s _ _ e2,e3,Has.mono s _ _ e4⟩
inductive XV where
 |d (d:bp)
 |l (k:Nat)
 |o (v:V)
 |x (C:Addr) (fs:List (Str×bp))
 |p (k:Nat) (d:bp)
def HasLP(h o:List Addr)(H:Hp)(k:Nat)(d:bp)(v:V):Prop:=∃t a u,v=.ref t/\o[k]?=some a/\vx h o H t=some (.tup [.ref a,u])/\Has (vx h o H) d u
theorem HasLP.to{h':List Addr}{k:Nat}{d:bp}{v:V}(s:Same (vx h o H) (vx h' o' H'))(e:∀a,o[k]?=some a->o'[k]?=some a)(q:HasLP h o H k d v):HasLP h' o' H' k d v:=by
 obtain⟨t,a,u,e1,e2,e3,e4⟩:=q;exact⟨t,a,u,e1,e a e2,s _ _ e3,Has.mono s _ _ e4⟩
def HasX(h o:List Addr)(H:Hp):XV->V->Prop
 | .d d,v=>Has (vx h o H) d v
 | .l k,v=>∃a,o[k]?=some a/\v=.ref a
 | .o w,v=>v=w
 | .x C fs,v=>HasE (vx h o H) C fs v
 | .p k d,v=>HasLP h o H k d v
theorem HasX.mono(e:Ex o H o' H'):∀{x:XV}{v:V},HasX h o H x v->HasX h o' H' x v
 | .d d,v,q=>Has.mono e.vx d v q
 | .l k,v,⟨a,q,r⟩=>by
  obtain⟨t,rfl⟩:=e.pre;exact⟨a,gC q,r⟩
 | .o w,v,q=>q
 | .x C fs,v,q=>HasE.mono e.vx q
 | .p k d,v,q=>by
  have ev:=e.vx (h:=h);obtain⟨t,rfl⟩:=e.pre;exact HasLP.to ev (fun a z=>gC z) q
def HasXs(h o:List Addr)(H:Hp):List XV->List V->Prop
 | [],vs=>vs=[]
 |x::xs,vs=>∃v r,vs=v::r/\HasX h o H x v/\HasXs h o H xs r
abbrev Sto:=List (List bp)
inductive MO where
 |l (vs:List V)
 |k (m:List (Key×V))
 |t (m:List (List Key×V))
 |x (a:Addr) (ob:Obj)
def MO.ho:MO->HO
 | .l vs=>.lst vs
 | .k m=>.dK m
 | .t m=>.dT m
 | .x a ob=>obO a ob
structure RepS(h o:List Addr)(H:Hp)(S:Sto):Prop where
 len:S.length=o.length
 nd:o.Nodup
 dis:∀a∈o,a∉h
 hal:∀b∈h,∃u:MO,H b=some u.ho
 cont:∀(k:Nat) (a:Addr) (ds:List bp),o[k]?=some a->S[k]?=some ds->∃vs,H a=some (.lst vs)/\HasL (vx h o H) ds vs
theorem JT{α β:Type}{l:List α}{t:List β}{k:Nat}{a:α}(hl:t.length=l.length)(q:l[k]?=some a):∃b,t[k]?=some b:=by
 obtain⟨hk,_⟩:=List.getElem?_eq_some_iff.mp q;exact⟨t[k]'yw,ca _⟩
theorem RepS.oal(r:RepS h o H S):∀a∈o,∃u,H a=some (.lst u):=fun a ha=>by
 obtain⟨k,hk⟩:=mem_iff_getElem?.mp ha;obtain⟨ds,e⟩:=JT r.len hk;obtain⟨vs,e',_⟩:=r.cont k a ds hk e;exact⟨_,e'⟩
theorem RepS.oam(r:RepS h o H S):∀a∈o,∃u:MO,H a=some u.ho:=fun a ha=>let ⟨u,e⟩:=r.oal a ha;⟨.l u,e⟩
theorem RepS.fresh(r:RepS h o H S)(hp:H p=none):p∉h/\p∉o:=by
 constructor
 ·intro m;obtain⟨u,e⟩:=r.hal p m;rw[hp]at e;cases e
 ·intro m;obtain⟨u,e⟩:=r.oal p m;rw[hp]at e;cases e
theorem RepS.same(r:RepS h o H S)(s:Same H H'):RepS h o H' S where
 len:=r.len
 nd:=r.nd
 dis:=r.dis
 hal:=fun b m=>by obtain⟨u,e⟩:=r.hal b m;exact⟨u,s b _ e⟩
 cont:=fun k a ds e1 e2=>by
  obtain⟨vs,e3,l⟩:=r.cont k a ds e1 e2;exact⟨vs,s _ _ e3,HasL.mono (mY s) _ _ l⟩
theorem RepS.laid{u:HO}(r:RepS h o H S)(hp:H p=none):vx h o (upd H p u) p=some u:=by
 obtain⟨h1,h2⟩:=r.fresh hp;exact zC.mpr ⟨h1,h2,b8⟩
theorem Ex.new{u:HO}(r:RepS h o H S)(hp:H p=none):Ex o H (o++[p]) (upd H p u):=by
 refine⟨⟨[p],rfl⟩,fun b w hb e=>?_⟩;have ne:b≠p:=zK e hp;exact⟨by simp[hb,ne],by rw[zB ne];exact e⟩
theorem j4{α:Type}{l:List α}{a:α}(h:l.Nodup)(n:a∉l):(l++[a]).Nodup:=by
 rw[nodup_append];refine⟨h,yv,fun x hx y hy e=>?_⟩;rw[qt]at hy;subst hy;subst e;exact n hx
theorem RepS.new{ds:List bp}{vs:List V}(r:RepS h o H S)(hp:H p=none)(l:HasL (vx h o H) ds vs):RepS h (o++[p]) (upd H p (.lst vs)) (S++[ds]):=by
 obtain⟨h1,h2⟩:=r.fresh hp;have ex:Ex o H (o++[p]) (upd H p (.lst vs)):=Ex.new r hp;refine⟨by simp[r.len],j4 r.nd h2,fun a ha=>?_,fun b hb=>?_,fun k a es e1 e2=>?_⟩
 ·rcases mem_append.mp ha with ha|ha
  ·exact r.dis a ha
  ·rw[mem_singleton.mp ha];exact h1
 ·obtain⟨u,e⟩:=r.hal b hb;exact⟨u,by rw[zB (zK e hp)];exact e⟩
 ·by_cases hk:k<o.length
  ·rw[gk hk]at e1;rw[gk (by rw[r.len];exact hk)]at e2;obtain⟨ws,e3,l3⟩:=r.cont k a es e1 e2;refine⟨ws,?_,l3.mono ex.vx⟩;rw[zB (zK e3 hp)];exact e3
  ·have y:k=o.length:=by
    obtain⟨q,_⟩:=List.getElem?_eq_some_iff.mp e1;rw[fv,je]at q;omega
   subst y;rw[fh]at e1;rw[<- r.len,fh]at e2;cases e1;cases e2;exact⟨vs,b8,l.mono ex.vx⟩
theorem Ex.upd{k:Nat}{u:HO}(e:o[k]?=some a):Ex o H o (L2.upd H a u):=
 ⟨⟨[],yv⟩,fun b w hb eb=>⟨hb,by rw[zB (fun z=>hb (by rw[z];exact bt e))];exact eb⟩⟩
theorem oB{l:List Addr}(h:l.Nodup){i j:Nat}{a:Addr}(e1:l[i]?=some a)(e2:l[j]?=some a):i=j:=by
 obtain⟨hi,e1⟩:=List.getElem?_eq_some_iff.mp e1;obtain⟨hj,e2⟩:=List.getElem?_eq_some_iff.mp e2;exact(List.getElem_inj h).mp (e1.trans e2.symm)
theorem RepS.upd{k:Nat}{ds:List bp}{vs:List V}(r:RepS h o H S)(e:o[k]?=some a)(l:HasL (vx h o H) ds vs):RepS h o (L2.upd H a (.lst vs)) (S.set k ds):=by
 have ex:Ex o H o (L2.upd H a (.lst vs)):=Ex.upd e;refine⟨by simp[r.len],r.nd,r.dis,fun b hb=>?_,fun j b es e1 e2=>?_⟩
 ·obtain⟨u,eb⟩:=r.hal b hb;have ne:b≠a:=fun z=>r.dis a (bt e) (z▸hb);exact⟨u,by rw[zB ne];exact eb⟩
 ·by_cases hj:j=k
  ·subst hj;rw[e1]at e;cases e;obtain⟨hk,_⟩:=List.getElem?_eq_some_iff.mp e1;rw[oe (by rw[r.len];exact hk)]at e2;cases e2;exact⟨vs,b8,l.mono ex.vx⟩
  ·rw[qy (kj hj)]at e2;obtain⟨ws,e3,l3⟩:=r.cont j b es e1 e2;have ne:b≠a:=fun z=>hj (oB r.nd e1 (z▸e));exact⟨ws,by rw[zB ne];exact e3,l3.mono ex.vx⟩
abbrev XE:=List (Option XV)
structure RepE(h o:List Addr)(H:Hp)(δ:XE)(σ:St):Prop where
 len:δ.length=σ.length
 get:∀(i:Nat) x,δ[i]?=some (some x)->∃v,σ[i]?=some (some v)/\HasX h o H x v
variable {δ:XE}{σ:St}
theorem RepE.mono(r:RepE h o H δ σ)(e:Ex o H o' H'):RepE h o' H' δ σ:=⟨r.len,fun i x q=>by
 obtain⟨v,e1,e2⟩:=r.get i x q;exact⟨v,e1,e2.mono e⟩⟩
theorem RepE.set{i:Nat}{x:XV}{v:V}(r:RepE h o H δ σ)(q:HasX h o H x v):RepE h o H (δ.set i (some x)) (σ.set i (some v)):=by
 refine⟨by simp[r.len],fun j y e=>?_⟩;rw[List.getElem?_set]at e ⊢;by_cases hij:i=j
 ·rw[ck hij]at e ⊢;by_cases hl:i<δ.length
  ·rw[ck hl]at e;rw[ck (by rw[<- r.len];exact hl)];cases e;exact⟨v,rfl,q⟩
  ·rw[ci hl]at e;cases e
 ·rw[ci hij]at e ⊢;exact r.get j y e
def eI(caps:List (Option Nat))(δ:XE):XE:=caps.map fun o=>o.bind fun i=>(δ[i]?).join
theorem RepE.tau{caps:List (Option Nat)}(r:RepE h o H δ σ):RepE h o H (eI caps δ) (L2.tau caps σ):=by
 refine⟨by simp[eI,L2.tau],fun i x e=>?_⟩;unfold eI at e;unfold L2.tau;rw[gg]at e ⊢;cases hc:caps[i]? with
 |none=>rw[hc]at e;cases e
 |some c=>
  rw[hc]at e;cases c with
  |none=>cases e
  |some j=>
   have e':(δ[j]?).join=some x:=by simpa using e
   have e2:δ[j]?=some (some x):=by
    cases hd:δ[j]? with
    |none=>rw[hd]at e';cases e'
    |some y=>rw[hd]at e';exact congrArg some (by simpa using e')
   obtain⟨v,e3,e4⟩:=r.get j x e2;exact⟨v,by simp[e3],e4⟩
end
abbrev RX:=XV->Sto->Prop
abbrev DE:=XE->Sto->RX->Prop
abbrev DT:=XE->Sto->(Bool->Sto->Prop)->Prop
abbrev DA:=XE->Sto->(List XV->Sto->Prop)->Prop
abbrev D2:=XV->XV->Sto->RX->Prop
def Cn(h o:List Addr)(H:Hp)(R:RX)(Q:VK):Prop:=∀o' H' S' x v,Ex o H o' H'->RepS h o' H' S'->HasX h o' H' x v->R x S'->Q v H'
theorem Cn.pre{h o o':List Addr}{H H':Hp}{R:RX}{Q:VK}(c:Cn h o H R Q)(e:Ex o H o' H'):Cn h o' H' R Q:=fun o2 H2 S2 x v e2=>c o2 H2 S2 x v (e.trans e2)
def RE(t:TE)(dt:DE):Prop:=∀(h o:List Addr) (H:Hp) (δ:XE) (σ:St) (S:Sto) (R:RX) (Q:VK),RepE h o H δ σ->RepS h o H S->dt δ S R->Cn h o H R Q->t σ H Q
def RT(t:TT)(dt:DT):Prop:=∀(h o:List Addr) (H:Hp) (δ:XE) (σ:St) (S:Sto) (R:Bool->Sto->Prop) (Q:Bool->Hp->Prop),RepE h o H δ σ->RepS h o H S->dt δ S R ->
 (∀o' H' S' b,Ex o H o' H'->RepS h o' H' S'->R b S'->Q b H')->t σ H Q
def RA(t:TA)(dt:DA):Prop:=∀(h o:List Addr) (H:Hp) (δ:XE) (σ:St) (S:Sto) (R:List XV->Sto->Prop) (Q:List V->Hp->Prop),RepE h o H δ σ->RepS h o H S->dt δ S R ->
 (∀o' H' S' xs vs,Ex o H o' H'->RepS h o' H' S'->HasXs h o' H' xs vs->R xs S'->Q vs H')->t σ H Q
def RO(r:R2)(rd:D2):Prop:=∀(h o:List Addr) (H:Hp) (S:Sto) (x y:XV) (v u:V) (R:RX) (Q:VK),RepS h o H S->HasX h o H x v->HasX h o H y u->rd x y S R->Cn h o H R Q->r v u H Q
def RU(r:V->Hp->VK->Prop)(rd:XV->Sto->RX->Prop):Prop:=∀(h o:List Addr) (H:Hp) (S:Sto) (x:XV) (v:V) (R:RX) (Q:VK),RepS h o H S->HasX h o H x v->rd x S R->Cn h o H R Q->r v H Q
def RC(r:List V->Hp->VK->Prop)(rd:List XV->Sto->RX->Prop):Prop:=∀(h o:List Addr) (H:Hp) (S:Sto) (xs:List XV) (vs:List V) (R:RX) (Q:VK),RepS h o H S->HasXs h o H xs vs->rd xs S R->Cn h o H R Q->r vs H Q
def asI:XV->(Int->Prop)->Prop
 | .d (.int i),k=>k i
 |_,_=>False
def asB:XV->(Bool->Prop)->Prop
 | .d (.bool i),k=>k i
 |_,_=>False
def asS:XV->(Str->Prop)->Prop
 | .d (.str i),k=>k i
 |_,_=>False
def asT:XV->(List bp->Prop)->Prop
 | .d (.tuple i),k=>k i
 |_,_=>False
def eX(S:Sto):XV->Option (List bp)
 | .d (.list ds)=>some ds
 | .l k=>S[k]?
 |_=>none
def asL(S:Sto)(x:XV)(k:List bp->Prop):Prop:=∃ds,eX S x=some ds/\k ds
def bN(S:Sto):XV->Option bp
 | .d d=>some d
 | .l k=>(S[k]?).map .list
 | .o _=>none
 | .x _ _=>none
 | .p k d=>(S[k]?).map fun l=>.tuple [.list l,d]
def asD(x:XV)(k:bp->Prop):Prop:=match x with
 | .d d=>k d
 |_=>False
theorem aZ{x:XV}{k:Int->Prop}(h:asI x k):∃i,x=.d (.int i)/\k i:=by
 unfold asI at h;split at h
 ·exact⟨_,rfl,h⟩
 ·exact h.elim
theorem fU{x:XV}{k:Bool->Prop}(h:asB x k):∃i,x=.d (.bool i)/\k i:=by
 unfold asB at h;split at h
 ·exact⟨_,rfl,h⟩
 ·exact h.elim
theorem D7{x:XV}{k:Str->Prop}(h:asS x k):∃i,x=.d (.str i)/\k i:=by
 unfold asS at h;split at h
 ·exact⟨_,rfl,h⟩
 ·exact h.elim
theorem jJ{x:XV}{k:List bp->Prop}(h:asT x k):∃i,x=.d (.tuple i)/\k i:=by
 unfold asT at h;split at h
 ·exact⟨_,rfl,h⟩
 ·exact h.elim
theorem f9{x:XV}{k:bp->Prop}(h:asD x k):∃i,x=.d i/\k i:=by
 unfold asD at h;split at h
 ·exact⟨_,rfl,h⟩
 ·exact h.elim
section
variable {h o:List Addr}{H:Hp}{S:Sto}{x:XV}{v:V}{i:Int}{b:Bool}{z:Str}{ds:List bp}{d:bp}
theorem aU(q:HasX h o H (.d (.int i)) v):v=.int i:=(cQ (H:=vx h o H)).mp q
theorem eC(q:HasX h o H (.d (.bool b)) v):v=.bl b:=(gB (H:=vx h o H)).mp q
theorem f6(q:HasX h o H (.d (.str z)) v):v=.str z:=(fN (H:=vx h o H)).mp q
theorem eF(q:HasX h o H (.d (.tuple ds)) v):∃a vs,v=.ref a/\H a=some (.tup vs)/\HasL (vx h o H) ds vs:=by
 obtain⟨a,vs,e,q,l⟩:=zL.mp (show Has _ _ _ from q);exact⟨a,vs,e,zG _ _ q,l⟩
theorem cB(r:RepS h o H S)(e:eX S x=some ds)(q:HasX h o H x v):∃a vs,v=.ref a/\H a=some (.lst vs)/\HasL (vx h o H) ds vs:=by
 unfold eX at e;split at e
 ·cases e;obtain⟨a,vs,e,q,l⟩:=bU.mp (show Has _ _ _ from q);exact⟨a,vs,e,zG _ _ q,l⟩
 ·obtain⟨a,e1,rfl⟩:=q;obtain⟨vs,e2,l⟩:=r.cont _ a ds e1 e;exact⟨a,vs,rfl,e2,l⟩
 ·cases e
theorem f8(r:RepS h o H S)(e:bN S x=some d)(q:HasX h o H x v):Has H d v:=by
 unfold bN at e;split at e
 ·cases e;exact Has.mono zG _ _ q
 ·rename_i k;obtain⟨a,e1,rfl⟩:=q;cases hs:S[k]? with
  |none=>rw[hs]at e;cases e
  |some es=>
   rw[hs]at e;cases e;obtain⟨vs,e2,l⟩:=r.cont k a es e1 hs;exact bU.mpr ⟨a,vs,rfl,e2,HasL.mono zG _ _ l⟩
 ·cases e
 ·cases e
 ·rename_i k d';obtain⟨t,a,u,rfl,e1,e3,e4⟩:=q;cases hs:S[k]? with
  |none=>rw[hs]at e;cases e
  |some es=>
   rw[hs]at e;cases e;obtain⟨vs,e2,l⟩:=r.cont k a es e1 hs;exact zL.mpr ⟨t,_,rfl,zG _ _ e3,zo.mpr ⟨_,_,rfl,bU.mpr ⟨a,vs,rfl,e2,HasL.mono zG _ _ l⟩,zo.mpr ⟨u,_,rfl,Has.mono zG _ _ e4,zz.mpr rfl⟩⟩⟩
theorem xI(i:Int):HasX h o H (.d (.int i)) (.int i):=(cQ (H:=vx h o H)).mpr rfl
theorem xB(i:Bool):HasX h o H (.d (.bool i)) (.bl i):=(gB (H:=vx h o H)).mpr rfl
theorem xS(i:Str):HasX h o H (.d (.str i)) (.str i):=(fN (H:=vx h o H)).mpr rfl
theorem xN:HasX h o H (.d .none) .non:=(iC (H:=vx h o H)).mpr rfl
theorem jT{vs:List V}{R:RX}{Q:VK}(r:RepS h o H S)(l:HasL (vx h o H) ds vs)(c:Cn h o H R Q)(q:R (.d (.tuple ds)) S):∀p,H p=none->Q (.ref p) (upd H p (.tup vs)):=fun p hp=>
 c o _ S (.d (.tuple ds)) _ (Ex.of_same (Same.laid hp)) (r.same (Same.laid hp)) (zL.mpr ⟨p,vs,rfl,r.laid hp,l.mono (mY (Same.laid hp))⟩) q
theorem hX{vs:List V}{R:RX}{Q:VK}(r:RepS h o H S)(l:HasL (vx h o H) ds vs)(c:Cn h o H R Q)(q:R (.d (.list ds)) S):∀p,H p=none->Q (.ref p) (upd H p (.lst vs)):=fun p hp=>
 c o _ S (.d (.list ds)) _ (Ex.of_same (Same.laid hp)) (r.same (Same.laid hp)) (bU.mpr ⟨p,vs,rfl,r.laid hp,l.mono (mY (Same.laid hp))⟩) q
theorem Hl{vs:List V}{R:RX}{Q:VK}(r:RepS h o H S)(l:HasL (vx h o H) ds vs)(c:Cn h o H R Q)(q:R (.l S.length) (S++[ds])):∀p,H p=none->Q (.ref p) (upd H p (.lst vs)):=fun p hp=>
 c (o++[p]) _ (S++[ds]) (.l S.length) _ (Ex.new r hp) (r.new hp l) ⟨p,by rw[r.len,fh],rfl⟩ q
theorem qY:∀{xs:List XV}{vs:List V}{ds:List bp},HasXs h o H xs vs->xs=ds.map XV.d->HasL (vx h o H) ds vs
 | [],vs,[],q,_=>zz.mpr q
 |x::xs,vs,d::ds,⟨v,r,e,q,l⟩,e2=>by
  rw[fw]at e2;cases e2;exact zo.mpr ⟨v,r,e,q,qY l rfl⟩
 |x::xs,vs,[],_,e2=>by cases e2
 | [],vs,d::ds,_,e2=>by cases e2
end
def datas:List XV->Option (List bp)
 | []=>some []
 | .d d::r=>(datas r).map (d :: ·)
 |_::_=>none
theorem iK:∀{xs:List XV}{ds:List bp},datas xs=some ds->xs=ds.map XV.d
 | [],ds,e=>by cases e;rfl
 | .d d::r,ds,e=>by
  unfold datas at e;cases hr:datas r with
  |none=>rw[hr]at e;cases e
  |some es=>
   rw[hr]at e;cases e;rw[iK hr];rfl
 | .l _::_,_,e=>by cases e
 | .o _::_,_,e=>by cases e
 | .x _ _::_,_,e=>by cases e
 | .p _ _::_,_,e=>by cases e
def zh(i:Nat):DE:=fun δ S R=>∃x,δ[i]?=some (some x)/\R x S
def dC(d:bp):DE:=fun _ S R=>R (.d d) S
def dO(v:V):DE:=fun _ S R=>R (.o v) S
def dOp(rd:D2)(a b:DE):DE:=fun δ S R=>a δ S fun x S1=>b δ S1 fun y S2=>rd x y S2 R
def dUn(rd:XV->Sto->RX->Prop)(a:DE):DE:=fun δ S R=>a δ S fun x S1=>rd x S1 R
def zq:DA:=fun _ S R=>R [] S
def zc(a:DE)(b:DA):DA:=fun δ S R=>a δ S fun x S1=>b δ S1 fun xs S2=>R (x::xs) S2
def dCB(rd:List XV->Sto->RX->Prop)(a:DA):DE:=fun δ S R=>a δ S fun xs S1=>rd xs S1 R
def aM(a:DA):DE:=fun δ S R=>a δ S fun xs S1=>∃ds,datas xs=some ds/\ds.length<=1000/\R (.d (.tuple ds)) S1
def cU(a:DA):DE:=fun δ S R=>a δ S fun xs S1=>∃ds,datas xs=some ds/\ds.length<=1000/\R (.d (.list ds)) S1
def cW(a:DA):DE:=fun δ S R=>a δ S fun xs S1=>∃ds,datas xs=some ds/\ds.length<=1000/\R (.l S1.length) (S1++[ds])
section
variable {t ta tb tc:TE}{da db dc:DE}{tl:TA}{dl:DA}{tt tu:TT}{dt du:DT}
theorem zk{i:Nat}:RE (e9 i) (zh i):=fun h o H δ σ S R Q he hs ⟨x,e,q⟩ c=>by
 obtain⟨v,e1,e2⟩:=he.get i x e;exact⟨v,e1,c o H S x v Ex.refl hs e2 q⟩
theorem zF{i:Int}:RE (tC (.int i)) (dC (.int i)):=fun h o H δ σ S R Q he hs q c=>c o H S _ _ Ex.refl hs (xI i) q
theorem cY{i:Bool}:RE (tC (.bl i)) (dC (.bool i)):=fun h o H δ σ S R Q he hs q c=>c o H S _ _ Ex.refl hs (xB i) q
theorem DV:RE (tC .non) (dC .none):=fun h o H δ σ S R Q he hs q c=>c o H S _ _ Ex.refl hs xN q
theorem Ev{v:V}:RE (tC v) (dO v):=fun h o H δ σ S R Q he hs q c=>c o H S (.o v) v Ex.refl hs rfl q
theorem aO{r:R2}{rd:D2}(hr:RO r rd)(ha:RE ta da)(hb:RE tb db):RE (tOp r ta tb) (dOp rd da db):=fun h o H δ σ S R Q he hs q c=>
 ha h o H δ σ S _ _ he hs q fun o1 H1 S1 x v e1 s1 x1 d1=>hb h o1 H1 δ σ S1 _ _ (he.mono e1) s1 d1 fun o2 H2 S2 y u e2 s2 y2 d2=>
  hr h o2 H2 S2 x y v u R Q s2 (x1.mono e2) y2 d2 (c.pre (e1.trans e2))
theorem mW{r:V->Hp->VK->Prop}{rd:XV->Sto->RX->Prop}(hr:RU r rd)(ha:RE ta da):RE (tUn r ta) (dUn rd da):=fun h o H δ σ S R Q he hs q c=>
 ha h o H δ σ S _ _ he hs q fun o1 H1 S1 x v e1 s1 x1 d1=>hr h o1 H1 S1 x v R Q s1 x1 d1 (c.pre e1)
theorem zr:RA jD zq:=fun h o H δ σ S R Q he hs q c=>c o H S [] [] Ex.refl hs rfl q
theorem zf(ha:RE ta da)(hb:RA tl dl):RA (cZ ta tl) (zc da dl):=fun h o H δ σ S R Q he hs q c=>
 ha h o H δ σ S _ _ he hs q fun o1 H1 S1 x v e1 s1 x1 d1=>hb h o1 H1 δ σ S1 _ _ (he.mono e1) s1 d1 fun o2 H2 S2 xs vs e2 s2 x2 d2=>
  c o2 H2 S2 (x::xs) (v::vs) (e1.trans e2) s2 ⟨v,vs,rfl,x1.mono e2,x2⟩ d2
theorem cH{r:List V->Hp->VK->Prop}{rd:List XV->Sto->RX->Prop}(hr:RC r rd)(ha:RA tl dl):RE (tCB r tl) (dCB rd dl):=fun h o H δ σ S R Q he hs q c=>
 ha h o H δ σ S _ _ he hs q fun o1 H1 S1 xs vs e1 s1 x1 d1=>hr h o1 H1 S1 xs vs R Q s1 x1 d1 (c.pre e1)
theorem bM(ha:RA tl dl):RE (vX tl) (aM dl):=fun h o H δ σ S R Q he hs q c=>
 ha h o H δ σ S _ _ he hs q fun o1 H1 S1 xs vs e1 s1 x1 ⟨ds,e,hl,d1⟩=>by
  have l:=qY x1 (iK e);exact⟨by rw[l.length];exact ko (small1000 hl),jT s1 l (c.pre e1) d1⟩
theorem qD(ha:RA tl dl):RE (j7 tl) (cU dl):=fun h o H δ σ S R Q he hs q c=>
 ha h o H δ σ S _ _ he hs q fun o1 H1 S1 xs vs e1 s1 x1 ⟨ds,e,hl,d1⟩=>by
  have l:=qY x1 (iK e);exact⟨by rw[l.length];exact ko (small1000 hl),hX s1 l (c.pre e1) d1⟩
theorem G0(ha:RA tl dl):RE (j7 tl) (cW dl):=fun h o H δ σ S R Q he hs q c=>
 ha h o H δ σ S _ _ he hs q fun o1 H1 S1 xs vs e1 s1 x1 ⟨ds,e,hl,d1⟩=>by
  have l:=qY x1 (iK e);exact⟨by rw[l.length];exact ko (small1000 hl),Hl s1 l (c.pre e1) d1⟩
def dB(a:DE):DT:=fun δ S R=>a δ S fun x S1=>asB x fun b=>R b S1
def bP(a:DT):DT:=fun δ S R=>a δ S fun b S1=>R (!b) S1
def gL(a b:DT):DT:=fun δ S R=>a δ S fun x S1=>if x=true then b δ S1 R else R false S1
def dOr(a b:DT):DT:=fun δ S R=>a δ S fun x S1=>if x=true then R true S1 else b δ S1 R
def fG(a b:DE):DE:=fun δ S R=>a δ S fun x S1=>asB x fun c=>if c=true then b δ S1 R else R (.d (.bool false)) S1
def pE(a b:DE):DE:=fun δ S R=>a δ S fun x S1=>asB x fun c=>if c=true then R (.d (.bool true)) S1 else b δ S1 R
def gO(a:DE):DE:=fun δ S R=>a δ S fun x S1=>asB x fun c=>R (.d (.bool (!c))) S1
def dIf(c:DT)(a b:DE):DE:=fun δ S R=>c δ S fun x S1=>if x=true then a δ S1 R else b δ S1 R
theorem gV(ha:RE ta da):RT (pS ta) (dB da):=fun h o H δ σ S R Q he hs q c=>
 ha h o H δ σ S _ _ he hs q fun o1 H1 S1 x v e1 s1 x1 d1=>by
  replace d1:=fU d1;obtain⟨b,rfl,d1⟩:=d1;exact⟨b,eC x1,c o1 H1 S1 b e1 s1 d1⟩
theorem fD(ha:RT tt dt):RT (Bp tt) (bP dt):=fun h o H δ σ S R Q he hs q c=>
 ha h o H δ σ S _ _ he hs q fun o1 H1 S1 b e1 s1 d1=>c o1 H1 S1 _ e1 s1 d1
theorem Ix(ha:RT tt dt)(hb:RT tu du):RT (D6 tt tu) (gL dt du):=fun h o H δ σ S R Q he hs q c=>
 ha h o H δ σ S _ _ he hs q fun o1 H1 S1 b e1 s1 d1=>by
  cases b with
  |true=>exact eJ (hb h o1 H1 δ σ S1 R Q (he.mono e1) s1 (by simpa using d1) fun o2 H2 S2 b e2=>c o2 H2 S2 b (e1.trans e2))
  |false=>exact eQ (c o1 H1 S1 false e1 s1 (by simpa using d1))
theorem jR(ha:RT tt dt)(hb:RT tu du):RT (tOr tt tu) (dOr dt du):=fun h o H δ σ S R Q he hs q c=>
 ha h o H δ σ S _ _ he hs q fun o1 H1 S1 b e1 s1 d1=>by
  cases b with
  |false=>exact eQ (hb h o1 H1 δ σ S1 R Q (he.mono e1) s1 (by simpa using d1) fun o2 H2 S2 b e2=>c o2 H2 S2 b (e1.trans e2))
  |true=>exact eJ (c o1 H1 S1 true e1 s1 (by simpa using d1))
theorem uV(ha:RE ta da)(hb:RE tb db):RE (A9 ta tb) (fG da db):=fun h o H δ σ S R Q he hs q c=>
 ha h o H δ σ S _ _ he hs q fun o1 H1 S1 x v e1 s1 x1 d1=>by
  replace d1:=fU d1;obtain⟨b,rfl,d1⟩:=d1;refine⟨b,eC x1,?_⟩;cases b with
  |true=>exact eJ (hb h o1 H1 δ σ S1 R Q (he.mono e1) s1 (by simpa using d1) (c.pre e1))
  |false=>exact eQ (c o1 H1 S1 _ _ e1 s1 (xB false) (by simpa using d1))
theorem E7(ha:RE ta da):RE (yC ta) (gO da):=fun h o H δ σ S R Q he hs q c=>
 ha h o H δ σ S _ _ he hs q fun o1 H1 S1 x v e1 s1 x1 d1=>by
  replace d1:=fU d1;obtain⟨b,rfl,d1⟩:=d1;exact⟨b,eC x1,c o1 H1 S1 _ _ e1 s1 (xB _) d1⟩
def gS(rd q:D2)(a b e:DE):DE:=fun δ S R=>a δ S fun x S1=>b δ S1 fun y S2=>rd x y S2 fun z S3=>asB z fun k=>if k=true then e δ S3 fun u S4=>q y u S4 R else R (.d (.bool false)) S3
theorem HM{r r':R2}{rd aa:D2}(hr:RO r rd)(ab:RO r' aa)(ha:RE ta da)(hb:RE tb db)(hc:RE tc dc):RE (By r r' ta tb tc) (gS rd aa da db dc):=fun h o H δ σ S R Q he hs q c=>
 ha h o H δ σ S _ _ he hs q fun o1 H1 S1 x v e1 s1 x1 d1=>hb h o1 H1 δ σ S1 _ _ (he.mono e1) s1 d1 fun o2 H2 S2 y u e2 s2 y2 d2=>
  hr h o2 H2 S2 x y v u _ _ s2 (x1.mono e2) y2 d2 fun o3 H3 S3 z w e3 s3 z3 d3=>by
   replace d3:=fU d3;obtain⟨b,rfl,d3⟩:=d3;refine⟨b,eC z3,?_⟩;cases b with
   |false=>exact eQ (c o3 H3 S3 _ _ ((e1.trans e2).trans e3) s3 (xB false) (by simpa using d3))
   |true=>exact eJ (hc h o3 H3 δ σ S3 _ _ (((he.mono e1).mono e2).mono e3) s3 (by simpa using d3) fun o4 H4 S4 k w' e4 s4 k4 d4=>ab h o4 H4 S4 y k u w' R Q s4 ((y2.mono e3).mono e4) k4 d4 (c.pre (((e1.trans e2).trans e3).trans e4)))
end
def dI(C:Int->Int->Prop)(g:Int->Int->Int):D2:=fun x y S R=>asI x fun i=>asI y fun j=>C i j/\R (.d (.int (g i j))) S
def dI0(g:Int->Int->Int):D2:=fun x y S R=>asI x fun i=>asI y fun j=>R (.d (.int (g i j))) S
def dIb(g:Int->Int->Bool):D2:=fun x y S R=>asI x fun i=>asI y fun j=>R (.d (.bool (g i j))) S
def dUI(g:Int->Int):XV->Sto->RX->Prop:=fun x S R=>asI x fun i=>R (.d (.int (g i))) S
def cM:D2:=fun x y S R=>∃d,bN S x=some d/\∃e,bN S y=some e/\gp d=true/\gp e=true/\R (.d (.bool (om d e))) S
def eU:D2:=fun x y S R=>∃d,bN S x=some d/\∃e,bN S y=some e/\gp d=true/\gp e=true/\R (.d (.bool (!PyData.eqv d e))) S
def iW:D2:=fun x _ S R=>asD x fun d=>R (.d (.bool (gZ d))) S
def fW:D2:=fun x _ S R=>asD x fun d=>R (.d (.bool (!gZ d))) S
def Fq:D2:=fun x y S R=>asT x fun ds=>asI y fun i=>∃d,atI ds i=some d/\R (.d d) S
def Ih:D2:=fun x y S R=>asL S x fun ds=>asI y fun i=>∃d,atI ds i=some d/\R (.d d) S
def G4:D2:=fun x y S R=>asL S x fun ds=>asL S y fun es=>ds.length+es.length<=1000/\R (.d (.list (ds++es))) S
def GD:D2:=fun x y S R=>asT x fun ds=>asT y fun es=>ds≠[]/\ds.length+es.length<=1000/\R (.d (.tuple (ds++es))) S
section
theorem qS{C:Int->Int->Prop}{g:Int->Int->Int}:RO (rI C fun i j=>.int (g i j)) (dI C g):=fun h o H S x y v u R Q hs hx hy q c=>by
 replace q:=aZ q;obtain⟨i,rfl,q⟩:=q;replace q:=aZ q;obtain⟨j,rfl,hc,q⟩:=q;exact⟨i,j,aU hx,aU hy,hc,c o H S _ _ Ex.refl hs (xI _) q⟩
theorem iN{g:Int->Int->Int}:RO (rI0 fun i j=>.int (g i j)) (dI0 g):=fun h o H S x y v u R Q hs hx hy q c=>by
 replace q:=aZ q;obtain⟨i,rfl,q⟩:=q;replace q:=aZ q;obtain⟨j,rfl,q⟩:=q;exact⟨i,j,aU hx,aU hy,c o H S _ _ Ex.refl hs (xI _) q⟩
theorem kF{g:Int->Int->Bool}:RO (rI0 fun i j=>.bl (g i j)) (dIb g):=fun h o H S x y v u R Q hs hx hy q c=>by
 replace q:=aZ q;obtain⟨i,rfl,q⟩:=q;replace q:=aZ q;obtain⟨j,rfl,q⟩:=q;exact⟨i,j,aU hx,aU hy,c o H S _ _ Ex.refl hs (xB _) q⟩
theorem lF{g:Int->Int}:RU (rU fun i=>.int (g i)) (dUI g):=fun h o H S x v R Q hs hx q c=>by
 replace q:=aZ q;obtain⟨i,rfl,q⟩:=q;exact⟨i,aU hx,c o H S _ _ Ex.refl hs (xI _) q⟩
theorem C8:RO EI cM:=fun h o H S x y v u R Q hs hx hy q c=>by
 obtain⟨d,q1,e,q2,q3,q4,q⟩:=q;exact⟨d,e,f8 hs q1 hx,f8 hs q2 hy,q3,q4,c o H S _ _ Ex.refl hs (xB _) q⟩
theorem Cz:RO DY eU:=fun h o H S x y v u R Q hs hx hy q c=>by
 obtain⟨d,q1,e,q2,q3,q4,q⟩:=q;exact⟨d,e,f8 hs q1 hx,f8 hs q2 hy,q3,q4,c o H S _ _ Ex.refl hs (xB _) q⟩
theorem KJ{ta:TE}{da:DE}(ha:RE ta da):RE (tOp Aw ta (tC .non)) (dOp iW da (dC .none)):=fun h o H δ σ S R Q he hs q c=>
 ha h o H δ σ S _ _ he hs q fun o1 H1 S1 x v e1 s1 x1 d1=>by
  replace d1:=f9 d1;obtain⟨d,rfl,d1⟩:=d1;have e:=Cu (show Has _ d v from x1);exact⟨rfl,by rw[e];exact c o1 H1 S1 _ _ e1 s1 (xB _) d1⟩
theorem Bv{ta:TE}{da:DE}(ha:RE ta da):RE (tOp xW ta (tC .non)) (dOp fW da (dC .none)):=fun h o H δ σ S R Q he hs q c=>
 ha h o H δ σ S _ _ he hs q fun o1 H1 S1 x v e1 s1 x1 d1=>by
  replace d1:=f9 d1;obtain⟨d,rfl,d1⟩:=d1;have e:=Cu (show Has _ d v from x1);exact⟨rfl,by rw[e];exact c o1 H1 S1 _ _ e1 s1 (xB _) d1⟩
theorem HasL.atI{H:Hp}{ds:List bp}{vs:List V}{i:Int}{d:bp}(l:HasL H ds vs)(e:L2.atI ds i=some d):∃v,L2.atI vs i=some v/\Has H d v:=by
 unfold L2.atI at e ⊢;rw[l.length];cases hn:ixN ds.length i with
 |none=>rw[hn]at e;cases e
 |some j=>
  rw[hn]at e;exact l.get (show ds[j]?=some d from e)
theorem Fv{K:cy}:RO (sW K) Fq:=fun h o H S x y v u R Q hs hx hy q c=>by
 replace q:=jJ q;obtain⟨ds,rfl,q⟩:=q;replace q:=aZ q;obtain⟨i,rfl,d,e,q⟩:=q;obtain⟨a,vs,rfl,ea,l⟩:=eF hx;obtain⟨w,ew,hw⟩:=l.atI e;exact⟨a,vs,i,w,rfl,aU hy,.of ea,ew,c o H S (.d d) w Ex.refl hs hw q⟩
theorem yM{K:cy}:RO (sU K) Ih:=fun h o H S x y v u R Q hs hx hy q c=>by
 obtain⟨ds,e0,q⟩:=q;replace q:=aZ q;obtain⟨i,rfl,d,e,q⟩:=q;obtain⟨a,vs,rfl,ea,l⟩:=cB hs e0 hx;obtain⟨w,ew,hw⟩:=l.atI e;exact⟨a,vs,i,w,rfl,aU hy,.of ea,ew,c o H S (.d d) w Ex.refl hs hw q⟩
theorem Gh:RO lH G4:=fun h o H S x y v u R Q hs hx hy q c=>by
 obtain⟨ds,e0,es,e1,hl,q⟩:=q;obtain⟨a,vs,rfl,ea,la⟩:=cB hs e0 hx;obtain⟨b,us,rfl,eb,lb⟩:=cB hs e1 hy;exact⟨a,b,vs,us,rfl,rfl,ea,eb,by rw[la.length,lb.length];exact ko (small1000 hl),hX hs (la.append lb) c q⟩
theorem HK{K:cy}:RO (vL K) GD:=fun h o H S x y v u R Q hs hx hy q c=>by
 replace q:=jJ q;obtain⟨ds,rfl,q⟩:=q;replace q:=jJ q;obtain⟨es,rfl,hn,hl,q⟩:=q;obtain⟨a,vs,rfl,ea,la⟩:=eF hx;obtain⟨b,us,rfl,eb,lb⟩:=eF hy;refine⟨a,b,vs,us,rfl,rfl,.of ea,.of eb,fun z=>?_,by rw[la.length,lb.length];exact ko (small1000 hl),fun z=>?_,fun _=>jT hs (la.append lb) c q⟩
 ·subst z;have:=la.length;exact hn (ie this.symm)
 ·subst z;have e:es=[]:=ie lb.length.symm;subst e;rw[kc]at q;exact c o H S (.d (.tuple ds)) _ Ex.refl hs hx q
end
abbrev DO:=XE->Sto->(Option Int->Sto->Prop)->Prop
def RP(t:TO)(dt:DO):Prop:=∀(h o:List Addr) (H:Hp) (δ:XE) (σ:St) (S:Sto) (R:Option Int->Sto->Prop) (Q:Option Int->Hp->Prop),RepE h o H δ σ->RepS h o H S->dt δ S R ->
 (∀o' H' S' b,Ex o H o' H'->RepS h o' H' S'->R b S'->Q b H')->t σ H Q
def fB:DO:=fun _ S R=>R none S
def bY(a:DE):DO:=fun δ S R=>a δ S fun x S1=>asI x fun i=>R (some i) S1
theorem rD:RP AI fB:=fun h o H δ σ S R Q he hs q c=>c o H S none Ex.refl hs q
theorem j8{t:TE}{da:DE}(ha:RE t da):RP (kG t) (bY da):=fun h o H δ σ S R Q he hs q c=>
 ha h o H δ σ S _ _ he hs q fun o1 H1 S1 x v e1 s1 x1 d1=>by
  replace d1:=aZ d1;obtain⟨i,rfl,d1⟩:=d1;exact⟨i,aU x1,c o1 H1 S1 _ e1 s1 d1⟩
abbrev D3:=XV->Option Int->Option Int->Sto->RX->Prop
def RL(r:V->Option Int->Option Int->Hp->VK->Prop)(rd:D3):Prop:=∀(h o:List Addr) (H:Hp) (S:Sto) (x:XV) (v:V) (a b:Option Int) (R:RX) (Q:VK),RepS h o H S->HasX h o H x v->rd x a b S R->Cn h o H R Q->r v a b H Q
def dSl(rd:D3)(e:DE)(a b:DO):DE:=fun δ S R=>e δ S fun x S1=>a δ S1 fun i S2=>b δ S2 fun j S3=>rd x i j S3 R
theorem mT{r:V->Option Int->Option Int->Hp->VK->Prop}{rd:D3}{te:TE}{de:DE}{ta tb:TO}{da db:DO}(hr:RL r rd)(y:RE te de)(ha:RP ta da)(hb:RP tb db):RE (tSl r te ta tb) (dSl rd de da db):=fun h o H δ σ S R Q he hs q c=>
 y h o H δ σ S _ _ he hs q fun o1 H1 S1 x v e1 s1 x1 d1=>ha h o1 H1 δ σ S1 _ _ (he.mono e1) s1 d1 fun o2 H2 S2 i e2 s2 d2=>hb h o2 H2 δ σ S2 _ _ ((he.mono e1).mono e2) s2 d2 fun o3 H3 S3 j e3 s3 d3=>
  hr h o3 H3 S3 x v i j R Q s3 ((x1.mono e2).mono e3) d3 (c.pre ((e1.trans e2).trans e3))
def GL:D3:=fun x i j S R=>asL S x fun ds=>R (.d (.list (cD ds i j))) S
def IU:D3:=fun x i j S R=>asT x fun ds=>¬(HT.sIx ds.length 0 i=0/\HT.sIx ds.length ds.length j=ds.length)/\R (.d (.tuple (cD ds i j))) S
theorem Co{K:cy}:RL (mV K) GL:=fun h o H S x v a b R Q hs hx q c=>by
 obtain⟨ds,e0,q⟩:=q;obtain⟨p,vs,rfl,ea,l⟩:=cB hs e0 hx;exact⟨p,vs,rfl,.of ea,hX hs (l.cut a b) c q⟩
theorem JX{K:cy}:RL (t8 K) IU:=fun h o H S x v a b R Q hs hx q c=>by
 replace q:=jJ q;obtain⟨ds,rfl,hn,q⟩:=q;obtain⟨p,vs,rfl,ea,l⟩:=eF hx;exact⟨p,vs,rfl,.of ea,by rw[l.length];exact hn,jT hs (l.cut a b) c q⟩
def asQ(S:Sto):XV->Option (List bp)
 | .d (.tuple ds)=>some ds
 | .d (.list ds)=>some ds
 | .l k=>S[k]?
 |_=>none
theorem vF{h o:List Addr}{H:Hp}{S:Sto}{x:XV}{v:V}{ds:List bp}(r:RepS h o H S)(e:asQ S x=some ds)(q:HasX h o H x v):∃a vs,v=.ref a/\(H a=some (.tup vs)\/H a=some (.lst vs))/\HasL (vx h o H) ds vs:=by
 unfold asQ at e;split at e
 ·cases e;obtain⟨a,vs,e,q,l⟩:=eF q;exact⟨a,vs,e,.inl q,l⟩
 ·cases e;obtain⟨a,vs,e,q,l⟩:=cB (x:=.d (.list ds)) (ds:=ds) r rfl q;exact⟨a,vs,e,.inr q,l⟩
 ·rename_i k;obtain⟨a,vs,e,q,l⟩:=cB (x:=.l k) r e q;exact⟨a,vs,e,.inr q,l⟩
 ·cases e
def arg1:List XV->(XV->Prop)->Prop
 | [x],k=>k x
 |_,_=>False
def arg2:List XV->(XV->XV->Prop)->Prop
 | [x,y],k=>k x y
 |_,_=>False
theorem bT{xs:List XV}{k:XV->Prop}(h:arg1 xs k):∃x,xs=[x]/\k x:=by
 unfold arg1 at h;split at h
 ·exact⟨_,rfl,h⟩
 ·exact h.elim
theorem v7{xs:List XV}{k:XV->XV->Prop}(h:arg2 xs k):∃x y,xs=[x,y]/\k x y:=by
 unfold arg2 at h;split at h
 ·exact⟨_,_,rfl,h⟩
 ·exact h.elim
theorem hxs1{h o:List Addr}{H:Hp}{x:XV}{vs:List V}(q:HasXs h o H [x] vs):∃v,vs=[v]/\HasX h o H x v:=by
 obtain⟨v,r,e,hx,hr⟩:=q;cases hr;exact⟨v,e,hx⟩
theorem hxs2{h o:List Addr}{H:Hp}{x y:XV}{vs:List V}(q:HasXs h o H [x,y] vs):∃v u,vs=[v,u]/\HasX h o H x v/\HasX h o H y u:=by
 obtain⟨v,r,e,hx,q⟩:=q;obtain⟨u,e',hy⟩:=hxs1 q;subst e';exact⟨v,u,e,hx,hy⟩
def uE:XV->(String->Prop)->Prop
 | .o v,k=>∃c,v=.ty c/\k c
 |_,_=>False
def wE:XV->(Int->Prop)->Prop
 | .d d,k=>match d with
  | .int i=>k i
  | .bool b=>k (if b then 1 else 0)
  |_=>False
 |_,_=>False
theorem Ec{x:XV}{k:String->Prop}(h:uE x k):∃c,x=.o (.ty c)/\k c:=by
 cases x with
 |o v=>
  obtain⟨c,rfl,h⟩:=h;exact⟨c,rfl,h⟩
 |d d=>exact h.elim
 |l j=>exact h.elim
 |x _ _=>exact h.elim
 |p _ _=>exact h.elim
theorem G1{x:XV}{k:Int->Prop}(h:wE x k):(∃i,x=.d (.int i)/\k i)\/∃b,x=.d (.bool b)/\k (if b then 1 else 0):=by
 cases x with
 |d d=>
  cases d with
  |int i=>exact .inl ⟨i,rfl,h⟩
  |bool b=>exact .inr ⟨b,rfl,h⟩
  |_=>exact h.elim
 |_=>exact h.elim
def FY:List XV->Sto->RX->Prop:=fun xs S R=>arg1 xs fun x=>∃ds,asQ S x=some ds/\R (.d (.int ds.length)) S
theorem uA{K:cy}:RC (u7 K) FY:=fun h o H S xs vs R Q hs hx q c=>by
 obtain⟨x,rfl,ds,hd,q1⟩:=bT q;obtain⟨v,rfl,y⟩:=hxs1 hx;obtain⟨a,ws,rfl,ea,l⟩:=vF hs hd y;refine⟨a,ws,rfl,ea.elim (fun z=>.inr (.of z)) (fun z=>.inl (.of z)),?_⟩;rw[l.length];exact c o H S _ _ Ex.refl hs (xI _) q1
def d8:List XV->Sto->RX->Prop:=fun xs S R=>arg2 xs fun x y=>uE y fun cl=>∃d,bN S x=some d/\cl∈gA/\R (.d (.bool (iV d cl))) S
theorem Fp:RC tE d8:=fun h o H S xs vs R Q hs hx q c=>by
 obtain⟨x,y,rfl,q1⟩:=v7 q;obtain⟨cl,rfl,d,hd,hc,q2⟩:=Ec q1;obtain⟨v,u,rfl,aa,hu⟩:=hxs2 hx;cases hu;exact G5 (f8 hs hd aa) hc (c o H S _ _ Ex.refl hs (xB _) q2)
def gE:List XV->Sto->RX->Prop:=fun xs S R=>arg1 xs fun x=>asI x fun i=>R (.d (.int (if i<0 then -i else i))) S
theorem Fm:RC (fun xs H Q=>∃i,xs=[.int i]/\Q (.int (if i<0 then -i else i)) H) gE:=fun h o H S xs vs R Q hs hx q c=>by
 obtain⟨x,rfl,q1⟩:=bT q;obtain⟨v,rfl,y⟩:=hxs1 hx;obtain⟨i,rfl,q2⟩:=aZ q1;exact⟨i,by rw[aU y],c o H S _ _ Ex.refl hs (xI _) q2⟩
def h9:List XV->Sto->RX->Prop:=fun xs S R=>arg1 xs fun x=>wE x fun i=>R (.d (.int i)) S
theorem F4:RC (fun xs H Q=>(∃i,xs=[.int i]/\Q (.int i) H)\/∃k,xs=[.bl k]/\Q (.int (if k then 1 else 0)) H) h9:=fun h o H S xs vs R Q hs hx q c=>by
 obtain⟨x,rfl,q1⟩:=bT q;obtain⟨v,rfl,y⟩:=hxs1 hx;rcases G1 q1 with ⟨i,rfl,q2⟩|⟨b,rfl,q2⟩
 ·exact .inl ⟨_,by rw[aU y],c o H S _ _ Ex.refl hs (xI _) q2⟩
 ·exact .inr ⟨_,by rw[eC y],c o H S _ _ Ex.refl hs (xI _) q2⟩
def dI2(g:Int->Int->Int):List XV->Sto->RX->Prop:=fun xs S R=>arg2 xs fun x y=>asI x fun i=>asI y fun j=>R (.d (.int (g i j))) S
theorem Ba{g:Int->Int->Int}:RC (fun xs H Q=>∃i j,xs=[.int i,.int j]/\Q (.int (g i j)) H) (dI2 g):=fun h o H S xs vs R Q hs hx q c=>by
 obtain⟨x,y,rfl,q1⟩:=v7 q;obtain⟨v,u,rfl,aa,hu⟩:=hxs2 hx;obtain⟨i,rfl,q2⟩:=aZ q1;obtain⟨j,rfl,q3⟩:=aZ q2;exact⟨i,j,by rw[aU aa,aU hu],c o H S _ _ Ex.refl hs (xI _) q3⟩
def fY:List XV->Sto->RX->Prop:=fun xs S R=>arg1 xs fun x=>∃ds,asQ S x=some ds/\R (.d (.tuple ds)) S
theorem u4{K:cy}:RC (fun xs H Q=>∃p ys,xs=[.ref p]/\((SqL K H p ys/\∀l,H l=none->Q (.ref l) (upd H l (.tup ys)))\/(SqT K H p ys/\Q (.ref p) H))) fY:=fun h o H S xs vs R Q hs hx q c=>by
 obtain⟨x,rfl,ds,hd,q1⟩:=bT q;obtain⟨v,rfl,y⟩:=hxs1 hx;obtain⟨a,ws,rfl,ea,l⟩:=vF hs hd y;refine⟨a,ws,rfl,ea.elim (fun z=>.inr ⟨.of z,?_⟩) (fun z=>.inl ⟨.of z,jT hs l c q1⟩)⟩;have hh:HasX h o H (.d (.tuple ds)) (.ref a):=by
  unfold asQ at hd;split at hd
  ·cases hd;exact y
  ·obtain⟨a',us,e1,e2,_⟩:=cB (x:=.d (.list _)) hs rfl y;cases e1;rw[z]at e2;cases e2
  ·rename_i k;obtain⟨a',us,e1,e2,_⟩:=cB (x:=.l k) hs hd y;cases e1;rw[z]at e2;cases e2
  ·cases hd
 exact c o H S _ _ Ex.refl hs hh q1
def iE:List XV->Sto->RX->Prop:=fun xs S R=>arg1 xs fun x=>∃ds,asQ S x=some ds/\R (.d (.list ds)) S
theorem Jw{K:cy}:RC (fun xs H Q=>∃p ys,xs=[.ref p]/\(SqL K H p ys\/SqT K H p ys)/\∀l,H l=none->Q (.ref l) (upd H l (.lst ys))) iE:=fun h o H S xs vs R Q hs hx q c=>by
 obtain⟨x,rfl,ds,hd,q1⟩:=bT q;obtain⟨v,rfl,y⟩:=hxs1 hx;obtain⟨a,ws,rfl,ea,l⟩:=vF hs hd y;exact⟨a,ws,rfl,ea.elim (fun z=>.inr (.of z)) (fun z=>.inl (.of z)),hX hs l c q1⟩
theorem kL{H:Hp}:∀{ns:List Int}{vs:List V},HasL H (ns.map cf) vs->vs=ns.map V.int
 | [],vs,h=>zz.mp h
 |n::ns,vs,h=>by
  obtain⟨v,r,rfl,h1,h2⟩:=zo.mp h;rw[cQ.mp h1,kL h2];rfl
def dBM(rd:XV->List XV->Sto->RX->Prop)(e:DE)(a:DA):DE:=fun δ S R=>e δ S fun x S1=>∃k,x=.l k/\k<S1.length/\a δ S1 fun xs S2=>rd x xs S2 R
def oU(rd:XV->List XV->Sto->RX->Prop)(e:DE):DE:=fun δ S R=>e δ S fun x S1=>∃k,x=.l k/\k<S1.length/\rd x [] S1 R
def RM(r:V->List V->Hp->VK->Prop)(rd:XV->List XV->Sto->RX->Prop):Prop:=∀(h o:List Addr) (H:Hp) (S:Sto) (x:XV) (v:V) (xs:List XV) (vs:List V) (R:RX) (Q:VK),RepS h o H S->HasX h o H x v->HasXs h o H xs vs->rd x xs S R->Cn h o H R Q->r v vs H Q
theorem JO{K:cy}{H:Hp}{a:Addr}{vs:List V}(e:H a=some (.lst vs)):tyV K "list" (.ref a) H:=.inl ⟨rfl,vs,.of e⟩
theorem JF{h o:List Addr}{H:Hp}{S:Sto}{k:Nat}{v:V}(hs:RepS h o H S)(hk:k<S.length)(hx:HasX h o H (.l k) v):∃a vs,v=.ref a/\H a=some (.lst vs):=by
 obtain⟨a,e,rfl⟩:=hx;obtain⟨vs,e2,_⟩:=hs.cont k a _ e (ca hk);exact⟨a,vs,rfl,e2⟩
theorem rW{K:cy}{r:V->List V->Hp->VK->Prop}{rd:XV->List XV->Sto->RX->Prop}{te:TE}{de:DE}{tl:TA}{dl:DA}(hr:RM r rd)(y:RE te de)(ha:RA tl dl):RE (tBM K "list" r te tl) (dBM rd de dl):=fun h o H δ σ S R Q he hs q c=>
 y h o H δ σ S _ _ he hs q fun o1 H1 S1 x v e1 s1 x1 ⟨k,ek,hk,d1⟩=>by
  subst ek;obtain⟨a,ws,rfl,ea⟩:=JF s1 hk x1;exact⟨JO ea,ha h o1 H1 δ σ S1 _ _ (he.mono e1) s1 d1 fun o2 H2 S2 xs vs e2 s2 x2 d2=>hr h o2 H2 S2 (.l k) _ xs vs R Q s2 (x1.mono e2) x2 d2 (c.pre (e1.trans e2))⟩
def fM:XV->List XV->Sto->RX->Prop:=fun x xs S R=>∃k,x=.l k/\∃ds,S[k]?=some ds/\arg1 xs fun y=>asD y fun d=>ds.length<1000/\R (.d .none) (S.set k (ds++[d]))
theorem GB:RM Bh fM:=fun h o H S x v xs vs R Q hs hx aa q c=>by
 obtain⟨k,rfl,ds,e,q1⟩:=q;obtain⟨y,rfl,q2⟩:=bT q1;obtain⟨d,rfl,hl,q3⟩:=f9 q2;obtain⟨a,ea,rfl⟩:=hx;obtain⟨u,rfl,hu⟩:=hxs1 aa;obtain⟨ws,ew,l⟩:=hs.cont k a ds ea e;exact⟨a,ws,u,rfl,rfl,ew,by rw[l.length];exact small1000 (ko hl),c o _ _ (.d .none) _ (Ex.upd ea) (hs.upd ea (l.append (zo.mpr ⟨u,[],rfl,hu,zz.mpr rfl⟩))) xN q3⟩
def gP:XV->List XV->Sto->RX->Prop:=fun x xs S R=>∃k,x=.l k/\∃ds,S[k]?=some ds/\arg1 xs fun y=>∃es,eX S y=some es/\ds.length+es.length<=1000/\R (.d .none) (S.set k (ds++es))
theorem vO:RM DU gP:=fun h o H S x v xs vs R Q hs hx aa q c=>by
 obtain⟨k,rfl,ds,e,q1⟩:=q;obtain⟨y,rfl,es,ey,hl,q3⟩:=bT q1;obtain⟨a,ea,rfl⟩:=hx;obtain⟨u,rfl,hu⟩:=hxs1 aa;obtain⟨ws,ew,l⟩:=hs.cont k a ds ea e;obtain⟨b,zs,rfl,eb,lb⟩:=cB hs ey hu;exact⟨a,b,ws,zs,rfl,rfl,ew,eb,by rw[l.length,lb.length];exact ko (small1000 hl),c o _ _ (.d .none) _ (Ex.upd ea) (hs.upd ea (l.append lb)) xN q3⟩
def ret0(S:Sto)(R:RX):RX:=fun y S'=>match y,S' with
 | .d d,[]=>R (.d d) S
 | .l 0,[ds]=>R (.l S.length) (S++[ds])
 |_,_=>False
def rJ(k:Nat)(S:Sto)(R:RX):RX:=fun y S'=>match y,S' with
 | .d d,[p]=>R (.d d) (S.set k p)
 | .l 1,[p,ds]=>R (.l S.length) (S.set k p++[ds])
 |_,_=>False
section
variable {h o:List Addr}{H:Hp}{S:Sto}{R:RX}{Q:VK}
theorem iD{h o h' o':List Addr}{H:Hp}(e:∀b,(b∈h'\/b∈o')↔(b∈h\/b∈o)):vx h' o' H=vx h o H:=by
 funext b;have q:∀u,vx h' o' H b=some u↔vx h o H b=some u:=fun u=>by
  rw[zC,zC];have:=e b;constructor
  ·rintro⟨a1,a2,a3⟩;exact⟨fun m=>(this.mpr (.inl m)).elim a1 a2,fun m=>(this.mpr (.inr m)).elim a1 a2,a3⟩
  ·rintro⟨a1,a2,a3⟩;exact⟨fun m=>(this.mp (.inl m)).elim a1 a2,fun m=>(this.mp (.inr m)).elim a1 a2,a3⟩
 cases e1:vx h' o' H b with
 |some u=>exact((q u).mp e1).symm
 |none=>
  cases e2:vx h o H b with
  |none=>rfl
  |some u=>rw[(q u).mpr e2]at e1;cases e1
theorem rep0(hs:RepS h o H S):RepS (h++o) [] H [] where
 len:=rfl
 nd:=mw
 dis:=fun a ha=>by cases ha
 hal:=fun b hb=>(mem_append.mp hb).elim (hs.hal b) (hs.oam b)
 cont:=fun k a ds e=>by simp at e
theorem hx0{d:bp}{v:V}(hx:HasX h o H (.d d) v):HasX (h++o) [] H (.d d) v:=by
 show Has (vx (h++o) [] H) d v;rw[iD (h:=h) (o:=o) fun b=>by simp];exact hx
theorem hx0'{d:bp}{v:V}(hx:HasX (h++o) [] H (.d d) v):HasX h o H (.d d) v:=by
 show Has (vx h o H) d v;rw[<- iD (h':=h++o) (o':=[]) (h:=h) (o:=o) fun b=>by simp];exact hx
theorem cn0(hs:RepS h o H S)(c:Cn h o H R Q):Cn (h++o) [] H (ret0 S R) Q:=fun o' H' S' y v e s' hy q=>by
 have sm:Same H (vx [] o' H'):=fun b u eb=>by
  obtain⟨a1,a2⟩:=e.kp b u yv eb;exact zC.mpr ⟨yv,a1,a2⟩
 have sH:Same H H':=fun b u eb=>(zC.mp (sm b u eb)).2.2;unfold ret0 at q;split at q
 ·have e0:o'=[]:=ie s'.len.symm;subst e0;exact c o H' S _ v (Ex.of_same sH) (hs.same sH) (hx0' hy) q
 ·rename_i ds;obtain⟨a,rfl⟩:∃a,o'=[a]:=List.length_eq_one_iff.mp s'.len.symm;obtain⟨a',ea,rfl⟩:=hy;cases ea;obtain⟨vs,ev,l⟩:=s'.cont 0 a ds rfl rfl;have na:a∉h++o:=s'.dis a yv;have hn:H a=none:=by
   cases eh:H a with
   |none=>rfl
   |some u=>exact absurd (e.kp a u yv eh).1 yv
  have e2:Ex o H (o++[a]) H':=⟨⟨[a],rfl⟩,fun b u hb eb=>by
   obtain⟨a1,a2⟩:=e.kp b u yv eb;exact⟨by simp only[mem_append,not_or];exact⟨hb,a1⟩,a2⟩⟩
  have aa:vx (h++o) [a] H'=vx h (o++[a]) H':=iD fun b=>by simp[or_assoc]
  rw[aa]at l;refine c (o++[a]) H' (S++[ds]) (.l S.length) _ e2 ⟨by simp[hs.len],j4 hs.nd fun m=>na (fc _ m),fun b hb=>?_,fun b hb=>?_,fun k b es q1 q2=>?_⟩ ⟨a,by rw[hs.len,fh],rfl⟩ q
  ·rcases mem_append.mp hb with hb|hb
   ·exact hs.dis b hb
   ·rw[mem_singleton.mp hb];exact fun m=>na (cn _ m)
  ·obtain⟨u,eb⟩:=hs.hal b hb;exact⟨u,sH b _ eb⟩
  ·by_cases hk:k<o.length
   ·rw[gk hk]at q1;rw[gk (by rw[hs.len];exact hk)]at q2;obtain⟨ws,e3,l3⟩:=hs.cont k b es q1 q2;exact⟨ws,sH _ _ e3,l3.mono e2.vx⟩
   ·have ab:k=o.length:=by
     obtain⟨q,_⟩:=List.getElem?_eq_some_iff.mp q1;rw[fv,je]at q;omega
    subst ab;rw[fh]at q1;rw[<- hs.len,fh]at q2;cases q1;cases q2;exact⟨vs,ev,l⟩
 ·exact q.elim
theorem rP{k:Nat}{a:Addr}{p:List bp}(hs:RepS h o H S)(ea:o[k]?=some a)(ep:S[k]?=some p):RepS (h++o.filter (fun b=>b≠a)) [a] H [p] where
 len:=rfl
 nd:=by simp
 dis:=fun b hb=>by
  rw[mem_singleton.mp hb];intro m;rcases mem_append.mp m with m|m
  ·exact hs.dis a (bt ea) m
  ·have:=(mem_filter.mp m).2;simp at this
 hal:=fun b hb=>(mem_append.mp hb).elim (hs.hal b) fun m=>hs.oam b (mem_filter.mp m).1
 cont:=fun j b ds e1 e2=>by
  cases j with
  |succ j=>simp at e1
  |zero=>
   cases e1;cases e2;obtain⟨vs,e3,l⟩:=hs.cont k a p ea ep;refine⟨vs,e3,?_⟩;rw[iD (h:=h) (o:=o) (mem_pen ea)];exact l
where
 mem_pen {h o:List Addr}{k:Nat}{a:Addr} (ea:o[k]?=some a) (b:Addr):(b∈h++o.filter (fun b=>b≠a)\/b∈[a])↔(b∈h\/b∈o):=by
  have ma:=bt ea;by_cases e:b=a
  ·subst e;simp[ma]
  ·simp[e]
theorem hxP{k:Nat}{a:Addr}{d:bp}{v:V}(ea:o[k]?=some a)(hx:HasX h o H (.d d) v):HasX (h++o.filter (fun b=>b≠a)) [a] H (.d d) v:=by
 show Has (vx _ _ H) d v;rw[iD (h:=h) (o:=o) (rP.mem_pen ea)];exact hx
theorem cnP{k:Nat}{a:Addr}{p:List bp}(hs:RepS h o H S)(ea:o[k]?=some a)(ep:S[k]?=some p)(c:Cn h o H R Q):Cn (h++o.filter (fun b=>b≠a)) [a] H (rJ k S R) Q:=fun o' H' S' y v e s' hy q=>by
 have ma:=bt ea;have hk:k<o.length:=(List.getElem?_eq_some_iff.mp ea).1;unfold rJ at q;split at q
 ·rename_i d p';obtain⟨r,rfl⟩:=e.pre;have er:r=[]:=by
   have:=s'.len;simp at this;exact this
  subst er;have ex:Ex o H o H':=⟨⟨[],yv⟩,fun b u hb eb=>⟨hb,(e.kp b u (fun m=>hb (by rw[mem_singleton.mp m];exact ma)) eb).2⟩⟩;obtain⟨vs,ev,l⟩:=s'.cont 0 a p' rfl rfl;have aa:vx (h++o.filter (fun b=>b≠a)) ([a]++[]) H'=vx h o H':=iD (rP.mem_pen ea);rw[aa]at l;refine c o H' (S.set k p') (.d d) v ex ⟨by simp[hs.len],hs.nd,hs.dis,fun b hb=>?_,fun j b es q1 q2=>?_⟩ (by
   have ab:Has (vx (h++o.filter (fun b=>b≠a)) ([a]++[]) H') d v:=hy;rw[aa]at ab;exact ab) q
  ·obtain⟨u,eb⟩:=hs.hal b hb;exact⟨u,(e.kp b _ (fun m=>hs.dis a ma (by rw[<- mem_singleton.mp m];exact hb)) eb).2⟩
  ·by_cases hj:j=k
   ·subst hj;rw[q1]at ea;cases ea;rw[oe (by rw[hs.len];exact hk)]at q2;cases q2;exact⟨vs,ev,l⟩
   ·rw[qy (kj hj)]at q2;obtain⟨ws,e3,l3⟩:=hs.cont j b es q1 q2;have ne:b≠a:=fun z=>hj (oB hs.nd q1 (z▸ea));exact⟨ws,(e.kp b _ (by simp[ne]) e3).2,l3.mono ex.vx⟩
 ·rename_i p' ds;obtain⟨r,rfl⟩:=e.pre;obtain⟨a2,rfl⟩:∃a2,r=[a2]:=by
   have:=s'.len;simp at this;exact List.length_eq_one_iff.mp this
  obtain⟨b2,ae,rfl⟩:=hy;cases ae;obtain⟨vs,ev,l⟩:=s'.cont 0 a p' rfl rfl;obtain⟨af,ac,l2⟩:=s'.cont 1 a2 ds rfl rfl;have n2:a2∉h++o.filter (fun b=>b≠a):=s'.dis a2 yv;have n3:a≠a2:=by
   have:=s'.nd;simp at this;exact this
  have n4:a2∉o:=fun m=>n2 (fc _ (mem_filter.mpr ⟨m,by simp[kj n3]⟩));have ex:Ex o H (o++[a2]) H':=⟨⟨[a2],rfl⟩,fun b u hb eb=>by
   obtain⟨z1,z2⟩:=e.kp b u (fun m=>hb (by rw[mem_singleton.mp m];exact ma)) eb;refine⟨?_,z2⟩;simp only[mem_append,not_or];exact⟨hb,fun m=>z1 (by simp at m ⊢;exact .inr m)⟩⟩
  have aa:vx (h++o.filter (fun b=>b≠a)) ([a]++[a2]) H'=vx h (o++[a2]) H':=iD fun b=>by
   have:=rP.mem_pen (h:=h) ea b;simp only[mem_append]at this ⊢;rw[<- or_assoc,this,or_assoc]
  rw[aa]at l l2;refine c (o++[a2]) H' (S.set k p'++[ds]) (.l S.length) _ ex ⟨by simp[hs.len],j4 hs.nd n4,fun b hb=>?_,fun b hb=>?_,fun j b es q1 q2=>?_⟩ ⟨a2,by rw[hs.len,fh],rfl⟩ q
  ·rcases mem_append.mp hb with hb|hb
   ·exact hs.dis b hb
   ·rw[mem_singleton.mp hb];exact fun m=>n2 (cn _ m)
  ·obtain⟨u,eb⟩:=hs.hal b hb;exact⟨u,(e.kp b _ (fun m=>hs.dis a ma (by rw[<- mem_singleton.mp m];exact hb)) eb).2⟩
  ·by_cases hjo:j<o.length
   ·rw[gk hjo]at q1;rw[gk (by rw[length_set,hs.len];exact hjo)]at q2;by_cases hj:j=k
    ·subst hj;rw[q1]at ea;cases ea;rw[oe (by rw[hs.len];exact hk)]at q2;cases q2;exact⟨vs,ev,l⟩
    ·rw[qy (kj hj)]at q2;obtain⟨ws,e3,l3⟩:=hs.cont j b es q1 q2;have ne:b≠a:=fun z=>hj (oB hs.nd q1 (z▸ea));exact⟨ws,(e.kp b _ (by simp[ne]) e3).2,l3.mono ex.vx⟩
   ·have ag:j=o.length:=by
     obtain⟨q,_⟩:=List.getElem?_eq_some_iff.mp q1;rw[fv,je]at q;omega
    subst ag;rw[fh]at q1;rw[<- hs.len,<- length_set (i:=k) (a:=p'),fh]at q2;cases q1;cases q2;exact⟨af,ac,l2⟩
 ·exact q.elim
end
structure DEnds where
 nx:XE->Sto->Prop
 rt:RX
 bk:XE->Sto->Prop:=fun _ _=>False
 ct:XE->Sto->Prop:=fun _ _=>False
abbrev DS:=DEnds->XE->Sto->Prop
abbrev DG:=XV->XE->Sto->(XE->Sto->Prop)->Prop
abbrev DGs:=List bp->XE->Sto->(XE->Sto->Prop)->Prop
def Nx(h o:List Addr)(H:Hp)(N:XE->Sto->Prop)(M:St->Hp->Prop):Prop:=∀o' H' δ' S' σ',Ex o H o' H'->RepE h o' H' δ' σ'->RepS h o' H' S'->N δ' S'->M σ' H'
theorem Nx.pre{h o o':List Addr}{H H':Hp}{N:XE->Sto->Prop}{M:St->Hp->Prop}(c:Nx h o H N M)(e:Ex o H o' H'):Nx h o' H' N M:=fun o2 H2 δ2 S2 σ2 e2=>c o2 H2 δ2 S2 σ2 (e.trans e2)
structure EOk(h o:List Addr)(H:Hp)(E:DEnds)(D:Ends):Prop where
 nx:Nx h o H E.nx D.nx
 rt:Cn h o H E.rt D.rt
 bk:Nx h o H E.bk D.bk
 ct:Nx h o H E.ct D.ct
theorem EOk.pre{h o o':List Addr}{H H':Hp}{E:DEnds}{D:Ends}(c:EOk h o H E D)(e:Ex o H o' H'):EOk h o' H' E D:=⟨c.nx.pre e,c.rt.pre e,c.bk.pre e,c.ct.pre e⟩
def RS(t:TS)(dt:DS):Prop:=∀(h o:List Addr) (H:Hp) (δ:XE) (σ:St) (S:Sto) (E:DEnds) (D:Ends),RepE h o H δ σ->RepS h o H S->dt E δ S->EOk h o H E D->t D σ H
def RG(t:TG)(dt:DG):Prop:=∀(h o:List Addr) (H:Hp) (δ:XE) (σ:St) (S:Sto) (x:XV) (v:V) (N:XE->Sto->Prop) (M:St->Hp->Prop),RepE h o H δ σ->RepS h o H S->HasX h o H x v->dt x δ S N->Nx h o H N M->t v σ H M
def RGs(t:TGs)(dt:DGs):Prop:=∀(h o:List Addr) (H:Hp) (δ:XE) (σ:St) (S:Sto) (ds:List bp) (vs:List V) (N:XE->Sto->Prop) (M:St->Hp->Prop),RepE h o H δ σ->RepS h o H S->HasL (vx h o H) ds vs->dt ds δ S N->Nx h o H N M->t vs σ H M
def zl(i:Nat):DG:=fun x δ S N=>N (δ.set i (some x)) S
def bF:DGs:=fun ds δ S N=>ds=[]/\N δ S
def hdD:List bp->(bp->List bp->Prop)->Prop
 |d::es,k=>k d es
 | [],_=>False
theorem FI{ds:List bp}{k:bp->List bp->Prop}(h:hdD ds k):∃d es,ds=d::es/\k d es:=by
 cases ds with
 |nil=>exact h.elim
 |cons d es=>exact⟨d,es,rfl,h⟩
theorem lC{d:bp}{es:List bp}{k:bp->List bp->Prop}:hdD (d::es) k=k d es:=rfl
def zM(g:DG)(r:DGs):DGs:=fun ds δ S N=>hdD ds fun d es=>g (.d d) δ S fun δ' S'=>r es δ' S' N
def bB(n:Nat)(r:DGs):DG:=fun x δ S N=>asT x fun ds=>ds.length=n/\r ds δ S N
def gD(a b:DE):DG:=fun x δ S N=>a δ S fun y S1=>b δ S1 fun z S2=>asD x fun d=>∃k,y=.l k/\∃ds,S2[k]?=some ds/\asI z fun i=>∃j,ixN ds.length i=some j/\N δ (S2.set k (ds.set j d))
theorem zt{i:Nat}:RG (gI i) (zl i):=fun h o H δ σ S x v N M he hs hx q c=>c o H _ S _ Ex.refl (he.set hx) hs q
theorem e8:RGs Do bF:=fun h o H δ σ S ds vs N M he hs l ⟨e,q⟩ c=>by
 subst e;exact⟨zz.mp l,c o H δ S σ Ex.refl he hs q⟩
theorem zW{t:TG}{u:TGs}{g:DG}{r:DGs}(h1:RG t g)(h2:RGs u r):RGs (A4 t u) (zM g r):=fun h o H δ σ S ds vs N M he hs l q0 c=>by
 obtain⟨d,es,rfl,q⟩:=FI q0;obtain⟨v,ws,rfl,hv,l⟩:=zo.mp l;exact⟨v,ws,rfl,h1 h o H δ σ S (.d d) v _ _ he hs hv q fun o1 H1 δ1 S1 σ1 e1 aa y q1=>h2 h o1 H1 δ1 σ1 S1 es ws N M aa y (l.mono e1.vx) q1 (c.pre e1)⟩
theorem fE{K:cy}{n:Nat}{t:TGs}{r:DGs}(h1:RGs t r):RG (vY K n t) (bB n r):=fun h o H δ σ S x v N M he hs hx q c=>by
 replace q:=jJ q;obtain⟨ds,rfl,hn,q⟩:=q;obtain⟨a,vs,rfl,ea,l⟩:=eF hx;exact⟨a,vs,rfl,.of ea,by rw[l.length];exact hn,h1 h o H δ σ S ds vs N M he hs l q c⟩
theorem HasL.setAt{H:Hp}:∀{ds:List bp}{vs:List V}{j:Nat}{d:bp}{v:V},HasL H ds vs->Has H d v->HasL H (ds.set j d) (vs.set j v)
 | [],vs,j,d,v,l,_=>by rw[zz.mp l];exact zz.mpr rfl
 |c::ds,vs,0,d,v,l,q=>by
  obtain⟨u,r,rfl,_,l⟩:=zo.mp l;exact zo.mpr ⟨v,r,rfl,q,l⟩
 |c::ds,vs,j+1,d,v,l,q=>by
  obtain⟨u,r,rfl,hu,l⟩:=zo.mp l;exact zo.mpr ⟨u,r.set j v,rfl,hu,HasL.setAt l q⟩
theorem HW{ta tb:TE}{da db:DE}(ha:RE ta da)(hb:RE tb db):RG (BE ta tb wX) (gD da db):=fun h o H δ σ S x v N M he hs hx q c=>
 ha h o H δ σ S _ _ he hs q fun o1 H1 S1 y u e1 s1 y1 d1=>hb h o1 H1 δ σ S1 _ _ (he.mono e1) s1 d1 fun o2 H2 S2 z w e2 s2 z2 d0=>by
  obtain⟨d,rfl,k,rfl,ds,es,d2⟩:=f9 d0;replace d2:=aZ d2;obtain⟨i,rfl,j,ej,d2⟩:=d2;obtain⟨a,ea,rfl⟩:=y1.mono e2;obtain⟨ws,ew,l⟩:=s2.cont k a ds ea es;refine⟨a,ws,i,j,rfl,aU z2,ew,by rw[l.length];exact ej,?_⟩;exact c o2 _ δ _ σ ((e1.trans e2).trans (Ex.upd ea)) (((he.mono e1).mono e2).mono (Ex.upd ea)) (s2.upd ea (l.setAt (hx.mono (e1.trans e2)))) d2
def aK:DS:=fun E δ S=>E.nx δ S
def aA(t u:DS):DS:=fun E δ S=>t { E with nx:=u E } δ S
def aC(e:DE)(g:DG):DS:=fun E δ S=>e δ S fun x S1=>g x δ S1 E.nx
def d7(e:DE):DS:=fun E δ S=>e δ S fun _ S1=>E.nx δ S1
def aB(e:DE):DS:=fun E δ S=>e δ S E.rt
def aN(c:DT)(t u:DS):DS:=fun E δ S=>c δ S fun b S1=>if b=true then t E δ S1 else u E δ S1
def hV:DS:=fun E δ S=>E.ct δ S
section
variable {t u:TS}{dt du:DS}{te:TE}{de:DE}
theorem dY:RS uO aK:=fun h o H δ σ S E D he hs q c=>c.nx o H δ S σ Ex.refl he hs q
theorem BI:RS CG hV:=fun h o H δ σ S E D he hs q c=>c.ct o H δ S σ Ex.refl he hs q
theorem zU(ht:RS t dt)(hu:RS u du):RS (cX t u) (aA dt du):=fun h o H δ σ S E D he hs q c=>
 ht h o H δ σ S _ _ he hs q ⟨fun o1 H1 δ1 S1 σ1 e1 aa y q1=>hu h o1 H1 δ1 σ1 S1 E D aa y q1 (c.pre e1),c.rt,c.bk,c.ct⟩
theorem cL{g:TG}{dg:DG}(y:RE te de)(hg:RG g dg):RS (jU te g) (aC de dg):=fun h o H δ σ S E D he hs q c=>
 y h o H δ σ S _ _ he hs q fun o1 H1 S1 x v e1 s1 x1 d1=>hg h o1 H1 δ σ S1 x v _ _ (he.mono e1) s1 x1 d1 (c.nx.pre e1)
theorem qV(y:RE te de):RS (uD te) (d7 de):=fun h o H δ σ S E D he hs q c=>
 y h o H δ σ S _ _ he hs q fun o1 H1 S1 x v e1 s1 x1 d1=>c.nx o1 H1 δ S1 σ e1 (he.mono e1) s1 d1
theorem bE(y:RE te de):RS (uX te) (aB de):=fun h o H δ σ S E D he hs q c=>y h o H δ σ S _ _ he hs q c.rt
theorem eL{tc:TT}{dc:DT}(hc:RT tc dc)(ht:RS t dt)(hu:RS u du):RS (oZ tc t u) (aN dc dt du):=fun h o H δ σ S E D he hs q c=>
 hc h o H δ σ S _ _ he hs q fun o1 H1 S1 b e1 s1 d1=>by
  cases b with
  |true=>exact eJ (ht h o1 H1 δ σ S1 E D (he.mono e1) s1 (by simpa using d1) (c.pre e1))
  |false=>exact eQ (hu h o1 H1 δ σ S1 E D (he.mono e1) s1 (by simpa using d1) (c.pre e1))
def frz(n:Nat)(ds:List bp):Option XV->Option XV
 |some (.l k)=>if k=n then some (.d (.list ds))else some (.l k)
 |some (.p k d)=>if k=n then some (.d (.tuple [.list ds,d]))else some (.p k d)
 |y=>y
end
abbrev DI:=XE->Sto->(List bp->Sto->Prop)->Prop
structure WalkX(h o:List Addr)(H:Hp)(J:It)(ds:List bp):Prop where
 stop:∀(i:Nat) o2 H2,ExH h o H o2 H2->ds.length<=i->J.stop i H2
 go:∀(i:Nat) d o2 H2,ExH h o H o2 H2->ds[i]?=some d->J.go i H2
 yld:∀(i:Nat) d o2 H2 x H3 S2,ExH h o H o2 H2->RepS h o2 H2 S2->ds[i]?=some d->J.yld i H2 x H3->Same H2 H3/\Has (vx h o2 H3) d x
def RI(w:TI)(di:DI):Prop:=∀(h o:List Addr) (H:Hp) (δ:XE) (σ:St) (S:Sto) (R:List bp->Sto->Prop) (Q:It->Hp->Prop),RepE h o H δ σ->RepS h o H S->di δ S R ->
 (∀o' H' S' ds J,Ex o H o' H'->RepS h o' H' S'->WalkX h o' H' J ds->R ds S'->Q J H')->w σ H Q
theorem DJ{h o:List Addr}{H:Hp}{lo:Int}{n:Nat}:WalkX h o H (Itr lo n) (fH lo n) where
 stop:=fun i _ _ _ hi=>by rw[j3]at hi;exact hi
 go:=fun i d _ _ _ hi=>(uK hi).1
 yld:=fun i d o2 H2 x H3 S2 _ _ hi y=>by
  obtain⟨e,ex⟩:=y;subst e ex;rw[(uK hi).2];exact⟨Same.refl _,cQ.mpr rfl⟩
def gK(g:DG)(b:DS):List bp->DS
 | [],E,δ,S=>E.nx δ S
 |d::ds,E,δ,S=>g (.d d) δ S fun δ1 S1=>b { nx:=fun δ2 S2=>gK g b ds E δ2 S2,ct:=fun δ2 S2=>gK g b ds E δ2 S2,bk:=E.nx,rt:=E.rt } δ1 S1
def cK(i:DI)(g:DG)(b:DS):DS:=fun E δ S=>i δ S fun ds S1=>gK g b ds E δ S1
theorem jX{wi:TI}{g:TG}{tb:TS}{di:DI}{dg:DG}{db:DS}(hi:RI wi di)(hg:RG g dg)(hb:RS tb db):RS (oI wi g tb) (cK di dg db):=fun h o H δ σ S E D he hs q c=>
 hi h o H δ σ S _ _ he hs q fun o1 H1 S1 ds J e1 s1 wk d1=>by
  refine⟨fun i m σ2 H2=>m=ds.length-i/\i<=ds.length/\∃o2 δ2 S2,Ex o1 H1 o2 H2/\RepE h o2 H2 δ2 σ2/\RepS h o2 H2 S2/\gK dg db (ds.drop i) E δ2 S2,⟨ds.length,yv,nq _,o1,δ,S1,Ex.refl,he.mono e1,s1,d1⟩,?_⟩;rintro i m σ2 H2 ⟨rfl,hi,o2,δ2,S2,e2,af,ae,d2⟩;by_cases hlt:i<ds.length
  ·have ed:ds[i]?=some ds[i]:=ca hlt;rw[gv hlt]at d2;refine .inr ⟨wk.go i _ o2 H2 e2.hid ed,fun σ3 H3=>∃o3 δ3 S3,Ex o1 H1 o3 H3/\RepE h o3 H3 δ3 σ3/\RepS h o3 H3 S3/\gK dg db (ds.drop (i+1)) E δ3 S3,fun σ3 H3 n=>⟨ds.length-(i+1),yw,rfl,hlt,n⟩,fun x H3 y=>?_⟩;obtain⟨s3,hx⟩:=wk.yld i _ o2 H2 x H3 S2 e2.hid ae ed y;have ag:Ex o2 H2 o2 H3:=Ex.of_same s3;refine hg h o2 H3 δ2 σ2 S2 (.d ds[i]) x _ _ (af.mono ag) (ae.same s3) hx d2 fun o4 H4 δ4 S4 σ4 e4 ah ai d4=>?_;have aa:Ex o1 H1 o4 H4:=(e2.trans ag).trans e4;have ce:=(c.pre e1).pre aa;exact hb h o4 H4 δ4 σ4 S4 _ _ ah ai d4 ⟨fun o5 H5 δ5 S5 σ5 e5 ac ab d5=>⟨o5,δ5,S5,aa.trans e5,ac,ab,d5⟩,ce.rt,ce.nx,fun o5 H5 δ5 S5 σ5 e5 ac ab d5=>⟨o5,δ5,S5,aa.trans e5,ac,ab,d5⟩⟩
  ·have ei:i=ds.length:=yw
   subst ei;rw[drop_length]at d2;exact .inl ⟨wk.stop _ o2 H2 e2.hid (cu _),c.nx o2 H2 δ2 S2 σ2 (e1.trans e2) af ae d2⟩
def sL(cd:DT)(b:DS):DS:=fun E δ S=>∃W:Nat->XE->Sto->Prop,(∃m,W m δ S)/\∀m δ S,W m δ S ->
 cd δ S fun x S1=>if x=true then ∃N:XE->Sto->Prop,(∀ δ' S',N δ' S'->∃m',m'<m/\W m' δ' S')/\b { nx:=N,ct:=N,bk:=E.nx,rt:=E.rt } δ S1 else E.nx δ S1
theorem Kk{tc:TT}{tb:TS}{dc:DT}{db:DS}(hc:RT tc dc)(hb:RS tb db):RS (Am tc tb) (sL dc db):=fun h o H δ σ S E D he hs ⟨W,⟨m0,w0⟩,q⟩ c=>by
 refine⟨fun m σ2 H2=>∃o2 δ2 S2,Ex o H o2 H2/\RepE h o2 H2 δ2 σ2/\RepS h o2 H2 S2/\W m δ2 S2,⟨m0,o,δ,S,Ex.refl,he,hs,w0⟩,?_⟩;rintro m σ2 H2 ⟨o2,δ2,S2,e2,y,af,w2⟩;refine hc h o2 H2 δ2 σ2 S2 _ _ y af (q m δ2 S2 w2) fun o3 H3 S3 b e3 s3 d3=>?_;cases b with
 |false=>exact eQ (c.nx o3 H3 δ2 S3 σ2 (e2.trans e3) (y.mono e3) s3 (by simpa using d3))
 |true=>
  refine eJ ?_;obtain⟨N,n1,d3⟩:∃N:XE->Sto->Prop,(∀ δ' S',N δ' S'->∃m',m'<m/\W m' δ' S')/\db { nx:=N,ct:=N,bk:=E.nx,rt:=E.rt } δ2 S3:=by simpa using d3
  have ac:=e2.trans e3;have ce:=c.pre ac;refine⟨fun σ4 H4=>∃o4 δ4 S4,Ex o H o4 H4/\RepE h o4 H4 δ4 σ4/\RepS h o4 H4 S4/\N δ4 S4,fun σ4 H4 ⟨o4,δ4,S4,e4,ae,ag,n4⟩=>?_,?_⟩
  ·obtain⟨m',hm,w'⟩:=n1 δ4 S4 n4;exact⟨m',hm,o4,δ4,S4,e4,ae,ag,w'⟩
  ·exact hb h o3 H3 δ2 σ2 S3 _ _ (y.mono e3) s3 d3 ⟨fun o5 H5 δ5 S5 σ5 e5 ab aa d5=>⟨o5,δ5,S5,ac.trans e5,ab,aa,d5⟩,ce.rt,ce.nx,fun o5 H5 δ5 S5 σ5 e5 ab aa d5=>⟨o5,δ5,S5,ac.trans e5,ab,aa,d5⟩⟩
def aL:DT:=fun _ S R=>R true S
theorem dD:RT Bw aL:=fun h o H δ σ S R Q he hs q c=>c o H S true Ex.refl hs q
def aY(n:Nat)(g:DG)(tt:DT)(te:DE)(fin:Sto->Prop):List bp->XE->Sto->Prop
 | [],_,S=>fin S
 |d::ds,τ,S=>g (.d d) τ S fun τ1 S1=>tt τ1 S1 fun b S2=>if b=true then te τ1 S2 fun x S3=>asD x fun e=>∃acc,S3[n]?=some acc/\acc.length<1000/\aY n g tt te fin ds τ1 (S3.set n (acc++[e]))else aY n g tt te fin ds τ1 S2
def fV(caps:List (Option Nat))(i:DI)(g:DG)(tt:DT)(te:DE):DE:=fun δ S R=>i δ S fun ds S1=>aY S1.length g tt te (fun S2=>R (.l S1.length) S2) ds (eI caps δ) (S1++[[]])
def bA(caps:List (Option Nat))(i:DI)(g:DG)(tt:DT)(te:DE):DE:=fun δ S R=>i δ S fun ds S1=>aY S1.length g tt te (fun S2=>∃S0 acc,S2=S0++[acc]/\S0.length=S1.length/\R (.d (.list acc)) S0) ds (eI caps δ) (S1++[[]])
theorem RepS.pop{h o r:List Addr}{H:Hp}{S0 T:Sto}(hs:RepS h (o++r) H (S0++T))(hl:S0.length=o.length):RepS h o H S0 where
 len:=hl
 nd:=(nodup_append.mp hs.nd).1
 dis:=fun a ha=>hs.dis a (cn _ ha)
 hal:=hs.hal
 cont:=fun k a ds e1 e2=>by
  obtain⟨vs,e3,l⟩:=hs.cont k a ds (gC e1) (gC e2);exact⟨vs,e3,l.mono fun b u e=>by
   obtain⟨z1,z2,z3⟩:=zC.mp e;exact zC.mpr ⟨z1,fun m=>z2 (cn _ m),z3⟩⟩
theorem p9{h o r:List Addr}{H:Hp}:Same (vx h (o++r) H) (vx h o H):=fun b u e=>by
 obtain⟨z1,z2,z3⟩:=zC.mp e;exact zC.mpr ⟨z1,fun m=>z2 (cn _ m),z3⟩
theorem Ex.pop{o o' r:List Addr}{H H':Hp}(e:Ex o H (o++r) H'):Ex o H o H':=⟨⟨[],yv⟩,fun b u hb eb=>⟨hb,(e.kp b u hb eb).2⟩⟩
theorem yQ{caps:List (Option Nat)}{wi:TI}{g:TG}{tt:TT}{te:TE}{di:DI}{dg:DG}{ac:DT}{ae:DE}(hi:RI wi di)(hg:RG g dg)(ht:RT tt ac)(ak:RE te ae)
  {h o:List Addr}{H:Hp}{δ:XE}{σ:St}{S:Sto}{Q:VK}{fin:Nat->Sto->Prop} (he:RepE h o H δ σ) (hs:RepS h o H S) (q:di δ S fun ds S1=>aY S1.length dg ac ae (fin S1.length) ds (eI caps δ) (S1++[[]]))
  (c:∀o1 H1 D o2 H2 S2,Ex o H o1 H1->H1 D=none->Ex (o1++[D]) (upd H1 D (.lst [])) o2 H2->RepS h o2 H2 S2->fin o1.length S2->Q (.ref D) H2):nN caps wi g tt te σ H Q:=by
 refine hi h o H δ σ S _ _ he hs q fun o1 H1 S1 ds J e1 s1 wk d1 D hD=>?_;have eN:Ex o1 H1 (o1++[D]) (upd H1 D (.lst [])):=Ex.new s1 hD;have sN:RepS h (o1++[D]) (upd H1 D (.lst [])) (S1++[[]]):=s1.new hD (zz.mpr rfl);have hn:S1.length=o1.length:=s1.len;refine⟨fun i m τ H2=>m=ds.length-i/\i<=ds.length/\∃o2 δ2 S2,Ex (o1++[D]) (upd H1 D (.lst [])) o2 H2/\RepE h o2 H2 δ2 τ/\RepS h o2 H2 S2/\aY S1.length dg ac ae (fin S1.length) (ds.drop i) δ2 S2,⟨ds.length,yv,nq _,_,_,_,Ex.refl,((he.mono e1).mono eN).tau,sN,d1⟩,?_⟩;rintro i m τ H2 ⟨rfl,hi,o2,δ2,S2,e2,aj,ab,d2⟩;by_cases hlt:i<ds.length
 ·have ed:ds[i]?=some ds[i]:=ca hlt;rw[gv hlt]at d2;refine .inr ⟨wk.go i _ o2 H2 (eN.trans e2).hid ed,fun x H3 y=>?_⟩;obtain⟨s3,hx⟩:=wk.yld i _ o2 H2 x H3 S2 (eN.trans e2).hid ab ed y;have af:Ex o2 H2 o2 H3:=Ex.of_same s3;refine hg h o2 H3 δ2 τ S2 (.d ds[i]) x _ _ (aj.mono af) (ab.same s3) hx d2 fun o4 H4 δ4 S4 τ4 e4 aa ai d4=>?_;refine ht h o4 H4 δ4 τ4 S4 _ _ aa ai d4 fun o5 H5 S5 b e5 s5 d5=>?_;have ag:=((e2.trans af).trans e4).trans e5;cases b with
  |false=>exact eQ ⟨ds.length-(i+1),yw,rfl,hlt,o5,δ4,S5,ag,aa.mono e5,s5,by simpa using d5⟩
  |true=>
   refine eJ (ak h o5 H5 δ4 τ4 S5 _ _ (aa.mono e5) s5 (by simpa using d5) fun o6 H6 S6 z v e6 s6 z6 d6=>?_);replace d6:=f9 d6;obtain⟨e,rfl,acc,ea,hl,d6⟩:=d6;have ah:=ag.trans e6;have eD:o6[S1.length]?=some D:=by
    obtain⟨r,rfl⟩:=ah.pre;rw[hn];exact gC (by rw[fh])
   obtain⟨vs,ev,l⟩:=s6.cont _ D acc eD ea;refine⟨vs,ev,by rw[l.length];exact small1000 (ko hl),ds.length-(i+1),yw,rfl,hlt,o6,δ4,_,ah.trans (Ex.upd eD),((aa.mono e5).mono e6).mono (Ex.upd eD),s6.upd eD (l.append (zo.mpr ⟨v,[],rfl,z6,zz.mpr rfl⟩)),d6⟩
 ·have ei:i=ds.length:=yw
  subst ei;rw[drop_length]at d2;exact .inl ⟨wk.stop _ o2 H2 (eN.trans e2).hid (cu _),c o1 H1 D o2 H2 S2 e1 hD e2 ab (hn▸d2)⟩
theorem wB{caps:List (Option Nat)}{wi:TI}{g:TG}{tt:TT}{te:TE}{di:DI}{dg:DG}{aa:DT}{y:DE}(hi:RI wi di)(hg:RG g dg)(ht:RT tt aa)(ab:RE te y):RE (nN caps wi g tt te) (fV caps di dg aa y):=fun h o H δ σ S R Q he hs q c=>by
 refine yQ (fin:=fun n S2=>R (.l n) S2) hi hg ht ab he hs q fun o1 H1 D o2 H2 S2 e1 hD e2 s2 f=>?_;have eN:Ex o1 H1 (o1++[D]) (upd H1 D (.lst [])):=⟨⟨[D],rfl⟩,fun b w hb e=>by
  have ne:b≠D:=zK e hD;exact⟨by simp[hb,ne],by rw[zB ne];exact e⟩⟩
 refine c o2 H2 S2 (.l o1.length) _ ((e1.trans eN).trans e2) s2 ⟨D,?_,rfl⟩ f;obtain⟨r,rfl⟩:=e2.pre;exact gC (by rw[fh])
theorem cR{caps:List (Option Nat)}{wi:TI}{g:TG}{tt:TT}{te:TE}{di:DI}{dg:DG}{ab:DT}{y:DE}(hi:RI wi di)(hg:RG g dg)(ht:RT tt ab)(ac:RE te y):RE (nN caps wi g tt te) (bA caps di dg ab y):=fun h o H δ σ S R Q he hs q c=>by
 refine yQ (fin:=fun n S2=>∃(S0:Sto) (acc:List bp),S2=S0++[acc]/\S0.length=n/\R (.d (.list acc)) S0) hi hg ht ac he hs q fun o1 H1 D o2 H2 S2 e1 hD e2 s2 ⟨S0,acc,eS,hl,f⟩=>?_;subst eS;have eN:Ex o1 H1 (o1++[D]) (upd H1 D (.lst [])):=⟨⟨[D],rfl⟩,fun b w hb e=>by
  have ne:b≠D:=zK e hD;exact⟨by simp[hb,ne],by rw[zB ne];exact e⟩⟩
 have aa:=eN.trans e2;obtain⟨r,rfl⟩:=e2.pre;have er:r=[]:=by
  have:=s2.len;simp only[fv,je,hl]at this;exact ie yw
 subst er;rw[kc]at s2 aa;have s0:RepS h o1 H2 S0:=s2.pop hl;refine c o1 H2 S0 (.d (.list acc)) _ (e1.trans (Ex.pop (o':=o1) aa)) s0 ?_ f;obtain⟨vs,ev,l⟩:=s2.cont o1.length D acc (by rw[fh]) (by rw[<- hl,fh]);have nD:D∉o1:=by
  have:=(nodup_append.mp s2.nd).2.2;intro m;exact this D m D yv rfl
 exact bU.mpr ⟨D,vs,rfl,zC.mpr ⟨s2.dis D yv,nD,ev⟩,l.mono p9⟩
def fin(n:Nat)(R:RX):RX:=fun y S'=>match y with
 | .l k=>if k<n then R (.l k) (S'.take n)else ∃ds,S'[k]?=some ds/\(R (.d (.list ds)) (S'.take n)\/R (.l n) (S'.take n++[ds]))
 | .p k d=>n<=k/\∃ds,S'[k]?=some ds/\R (.p n d) (S'.take n++[ds])
 |y=>R y (S'.take n)
theorem Dc{h o r:List Addr}{H H':Hp}{S S':Sto}{k:Nat}{a:Addr}{ds:List bp}(hs:RepS h o H S)(e:Ex o H (o++r) H')(s':RepS h (o++r) H' S')(hk:¬ k<S.length)(ea:(o++r)[k]?=some a)(aa:S'[k]?=some ds):
  Ex o H (o++[a]) H'/\Same (vx h (o++r) H') (vx h (o++[a]) H')/\RepS h (o++[a]) H' (S'.take S.length++[ds]):=by
 have eS:S'=S'.take S.length++S'.drop S.length:=(jo _ _).symm;have hl:(S'.take S.length).length=o.length:=by
  have:=s'.len;rw[fv]at this;rw[ju,this,hs.len];omega
 have s0:RepS h o H' (S'.take S.length):=by
  rw[eS]at s';exact s'.pop hl
 have e0:Ex o H o H':=Ex.pop (o':=o) e;obtain⟨vs,ev,l⟩:=s'.cont k a ds ea aa;have na:a∉o:=fun m=>by
  obtain⟨j,ej⟩:=mem_iff_getElem?.mp m;have hj:j<o.length:=(List.getElem?_eq_some_iff.mp ej).1;have:=oB s'.nd (gC (t:=r) ej) ea;rw[hs.len]at hk;omega
 have nh:a∉h:=s'.dis a (bt ea);have hn:H a=none:=by
  cases eh:H a with
  |none=>rfl
  |some u=>exact absurd (bt ea) (e.kp a u na eh).1
 have e1:Ex o H (o++[a]) H':=⟨⟨[a],rfl⟩,fun b u hb eb=>⟨by simp only[mem_append,qt,not_or];exact⟨hb,zK eb hn⟩,(e0.kp b u hb eb).2⟩⟩;have sub:Same (vx h (o++r) H') (vx h (o++[a]) H'):=fun b u eb=>by
  obtain⟨z1,z2,z3⟩:=zC.mp eb;refine zC.mpr ⟨z1,?_,z3⟩;simp only[mem_append,qt,not_or];exact⟨fun m=>z2 (cn _ m),fun z=>z2 (by rw[z];exact bt ea)⟩
 refine⟨e1,sub,⟨by rw[fv,fv,hl];rfl,j4 hs.nd na,fun b hb=>?_,s0.hal,fun j b es q1 q2=>?_⟩⟩
 ·rcases mem_append.mp hb with hb|hb
  ·exact hs.dis b hb
  ·rw[mem_singleton.mp hb];exact nh
 ·by_cases hj:j<o.length
  ·rw[gk hj]at q1;rw[gk (by rw[hl];exact hj),List.getElem?_take_of_lt (by rw[hs.len];exact hj)]at q2;obtain⟨ws,e3,l3⟩:=s'.cont j b es (gC q1) q2;exact⟨ws,e3,l3.mono sub⟩
  ·have y:j=o.length:=by
    obtain⟨q,_⟩:=List.getElem?_eq_some_iff.mp q1;rw[fv,je]at q;omega
   subst y;rw[fh]at q1;rw[<- hl,fh]at q2;cases q1;cases q2;exact⟨vs,ev,l.mono sub⟩
theorem DX{h o:List Addr}{H:Hp}{S:Sto}{R:RX}{Q:VK}(hs:RepS h o H S)(c:Cn h o H R Q):Cn h o H (fin S.length R) Q:=fun o' H' S' y v e s' hy q=>by
 obtain⟨r,rfl⟩:=e.pre;have eS:S'=S'.take S.length++S'.drop S.length:=(jo _ _).symm;have hl:(S'.take S.length).length=o.length:=by
  have:=s'.len;rw[fv]at this;rw[ju,this,hs.len];omega
 have s0:RepS h o H' (S'.take S.length):=by
  rw[eS]at s';exact s'.pop hl
 have e0:Ex o H o H':=Ex.pop (o':=o) e;cases y with
 |d d=>exact c o H' _ (.d d) v e0 s0 (Has.mono p9 d v hy) q
 |o w=>exact c o H' _ (.o w) v e0 s0 hy q
 |x C fs=>exact c o H' _ (.x C fs) v e0 s0 (HasE.mono p9 hy) q
 |p k d=>
  obtain⟨hk,ds,aa,q⟩:=q;obtain⟨t,a,u,rfl,ea,et,hu⟩:=hy;obtain⟨e1,sub,s1⟩:=Dc hs e s' yw ea aa;exact c (o++[a]) H' _ (.p S.length d) _ e1 s1 ⟨t,a,u,rfl,by rw[hs.len,fh],sub _ _ et,Has.mono sub _ _ hu⟩ q
 |l k=>
  unfold fin at q;by_cases hk:k<S.length
  ·simp only[hk,↓reduceIte]at q;obtain⟨a,ea,rfl⟩:=hy;exact c o H' _ (.l k) _ e0 s0 ⟨a,by rw[gk (by rw[<- hs.len];exact hk)]at ea;exact ea,rfl⟩ q
  ·simp only[hk,↓reduceIte]at q;obtain⟨ds,aa,q⟩:=q;obtain⟨a,ea,rfl⟩:=hy;obtain⟨vs,ev,l⟩:=s'.cont k a ds ea aa;have na:a∉o:=fun m=>by
    obtain⟨j,ej⟩:=mem_iff_getElem?.mp m;have hj:j<o.length:=(List.getElem?_eq_some_iff.mp ej).1;have:=oB s'.nd (gC (t:=r) ej) ea;rw[hs.len]at hk;omega
   have nh:a∉h:=s'.dis a (bt ea);rcases q with q|q
   ·exact c o H' _ (.d (.list ds)) _ e0 s0 (bU.mpr ⟨a,vs,rfl,zC.mpr ⟨nh,na,ev⟩,l.mono p9⟩) q
   ·obtain⟨e1,sub,s1⟩:=Dc hs e s' hk ea aa;exact c (o++[a]) H' _ (.l S.length) _ e1 s1 ⟨a,by rw[hs.len,fh],rfl⟩ q
def aJ(n:Nat)(R:RX):DEnds:={ nx:=fun _ S'=>fin n R (.d .none) S',rt:=fin n R }
theorem eok{h o:List Addr}{H:Hp}{S:Sto}{R:RX}{Q:VK}(hs:RepS h o H S)(c:Cn h o H R Q):EOk h o H (aJ S.length R) { nx:=fun _ H'=>Q .non H',rt:=Q } :=
 ⟨fun o' H' δ' S' σ' e he y q=>DX hs c o' H' S' _ _ e y xN q,DX hs c,fun _ _ _ _ _ _ _ _ q=>q.elim,fun _ _ _ _ _ _ _ _ q=>q.elim⟩
def bI(p:List bp):Prop:=∃l g s:Int,p=[.int l,.int g,.int s]/\0<=l
end
section
def Cv(K:cy):List V->Hp->VK->Prop:=fun xs H Q=>∃(p:Addr) (ns:List Int),xs=[.ref p]/\SqL K H p (ns.map V.int)/\Q (.int ns.sum) H
def xT(K:cy):List V->Hp->VK->Prop:=fun xs H Q=>∃(p:Addr) (bs:List Bool),xs=[.ref p]/\SqL K H p (bs.map V.bl)/\Q (.bl (bs.all id)) H
theorem uT:iy "sum" = some (.builtin "sum"):=by decide +kernel
theorem tN:iy "all" = some (.builtin "all"):=by decide +kernel
section
variable {X:Cx}
theorem vC(hc:X.calm=true):CallR X (.builtin "sum") (Cv X.K):=by
 intro ze s σ H xs us Q I r h;obtain⟨p,ns,rfl,hq,q⟩:=h;obtain⟨u,rfl,rx⟩:=vals1 r;cases (show u=gm p from rx);obtain⟨aa,rv,pl,_⟩:=I.list hq;obtain⟨ys,e,y⟩:=Jy (qB rv);refine sum_intListG (I.ok.hd hc) (by rw[<- e];exact pl.isList) fun h' tk t' hk=>⟨.int ns.sum,H,I.kept (t':=tk) hk,⟨t',?_⟩,q⟩;have es:preSum (numAt ys) ys.size=ns.sum:=by
  rw[preSum_eq,y,jt yv]
 rw[es]
theorem C4:∀{bs:List Bool}{us:List bn}{i:Nat}{v:bn},Vals (bs.map V.bl) us->us[i]?=some v->∃b,bs[i]?=some b/\v=.bool b
 | [],_,i,v,.nil,e=>by simp at e
 |b::bs,_,0,v,.cons r _,e=>by
  rw[lf]at e;cases e;exact⟨b,rfl,r⟩
 |b::bs,_,i+1,v,.cons _ t,e=>by
  obtain⟨c,e1,e2⟩:=C4 (i:=i) (v:=v) t (by simpa using e);exact⟨c,by simpa using e1,e2⟩
theorem Go(bs:List Bool):((ga bs.length).all fun i=>(bs[i]?).getD true)=bs.all id:=by
 rw[Bool.eq_iff_iff,mv,mv];constructor
 ·intro h b hb;obtain⟨i,hi⟩:=mem_iff_getElem?.mp hb;have hl:=(List.getElem?_eq_some_iff.mp hi).1;have:=h i (mem_range.mpr hl);rw[hi]at this;exact this
 ·intro h i hi;have hl:=mem_range.mp hi;rw[ca hl];exact h _ (getElem_mem hl)
theorem sY(hc:X.calm=true):CallR X (.builtin "all") (xT X.K):=by
 intro ze s σ H xs us Q I r h;obtain⟨p,bs,rfl,hq,q⟩:=h;obtain⟨u,rfl,rx⟩:=vals1 r;cases (show u=gm p from rx);obtain⟨y,rv,pl,_⟩:=I.list hq;have hl:=pl.isList;have ab:p<s.heap.objs.size:=by
  obtain⟨_,e,_⟩:=hl;exact gh e
 refine call_all_walk (x:=gm p) (jy hl ?_);refine⟨s.heap.objs.size,[s.heap.objs.size,p],[s.heap.objs.size],y.toArray.size,_,_,fun i=>(bs[i]?).getD true,rfl,
  Walks.list (A:=X.A.in1) (I.ok.hd hc) _ p (ik ab) y.toArray,⟨⟨_,fj _ rfl,rfl,rfl⟩,hl.push _⟩,fun i v s' Q' E' hP hQ=>?_,fun h' tk hk=>?_⟩
 ·obtain⟨b,e,rfl⟩:=C4 (i:=i) (v:=v) rv (by simpa using hP);have aa:Q' b s':=by simpa[e]using hQ
  exact lu aa
 ·have hz:y.toArray.size=bs.length:=by
   have:=rv.length;rw[dh]at this;simp[this]
  rw[hz,Go];refine⟨.bl _,H,I.kept (t':=tk) fun b o e=>hk b o (fun hm=>?_) (bw _ e),rfl,q⟩;rw[mem_singleton.mp hm]at e;exact nv _ (gh e)
end
def fO:List XV->Sto->RX->Prop:=fun xs S R=>arg1 xs fun x=>∃ds,eX S x=some ds/\∃ns:List Int,ds=ns.map cf/\R (.d (.int ns.sum)) S
theorem Bg{K:cy}:RC (Cv K) fO:=fun h o H S xs vs R Q hs hx q c=>by
 obtain⟨x,rfl,ds,hd,ns,rfl,q1⟩:=bT q;obtain⟨v,rfl,y⟩:=hxs1 hx;obtain⟨a,ws,rfl,ea,l⟩:=cB hs hd y;rw[kL l]at ea;exact⟨a,ns,rfl,.of ea,c o H S _ _ Ex.refl hs (xI _) q1⟩
theorem xF{H:Hp}:∀{ns:List Bool}{vs:List V},HasL H (ns.map PyData.bool) vs->vs=ns.map V.bl
 | [],vs,h=>zz.mp h
 |n::ns,vs,h=>by
  obtain⟨v,r,rfl,h1,h2⟩:=zo.mp h;rw[gB.mp h1,xF h2];rfl
def fS:List XV->Sto->RX->Prop:=fun xs S R=>arg1 xs fun x=>∃ds,eX S x=some ds/\∃ns:List Bool,ds=ns.map PyData.bool/\R (.d (.bool (ns.all id))) S
theorem qG{K:cy}:RC (xT K) fS:=fun h o H S xs vs R Q hs hx q c=>by
 obtain⟨x,rfl,ds,hd,ns,rfl,q1⟩:=bT q;obtain⟨v,rfl,y⟩:=hxs1 hx;obtain⟨a,ws,rfl,ea,l⟩:=cB hs hd y;rw[xF l]at ea;exact⟨a,ns,rfl,.of ea,c o H S _ _ Ex.refl hs (xB _) q1⟩
section
variable {S:Sto}{i:Int}{b:Bool}{z:Str}{ds:List bp}{d:bp}{k:Nat}{x y:XV}{R:RX}{c:String}{p:List bp}{n:Nat}{v:V}
theorem nU{K:Int->Prop}:asI (.d (.int i)) K=K i:=rfl
theorem nG{K:Bool->Prop}:asB (.d (.bool b)) K=K b:=rfl
theorem mE{K:List bp->Prop}:asT (.d (.tuple ds)) K=K ds:=rfl
theorem l8{K:bp->Prop}:asD (.d d) K=K d:=rfl
theorem nT:eX S (.d (.list ds))=some ds:=rfl
theorem mZ:eX S (.l k)=S[k]?:=rfl
theorem nJ:asQ S (.d (.list ds))=some ds:=rfl
theorem mJ:bN S (.d d)=some d:=rfl
theorem oP:bN S (.l k)=(S[k]?).map .list:=rfl
theorem mK:ret0 S R (.d d) []=R (.d d) S:=rfl
theorem oJ:ret0 S R (.l 0) [ds]=R (.l S.length) (S++[ds]):=rfl
theorem pD:rJ k S R (.d d) [p]=R (.d d) (S.set k p):=rfl
theorem l7:fin n R (.d d) S=R (.d d) (S.take n):=rfl
theorem lW:fin n R (.l k) S=if k<n then R (.l k) (S.take n)else ∃ds,S[k]?=some ds/\(R (.d (.list ds)) (S.take n)\/R (.l n) (S.take n++[ds])):=rfl
theorem oQ{K:XV->Prop}:arg1 [x] K=K x:=rfl
theorem oM{K:XV->XV->Prop}:arg2 [x,y] K=K x y:=rfl
theorem oS{K:String->Prop}:uE (.o (.ty c)) K↔K c:=⟨fun⟨_,e,q⟩=>by cases e;exact q,fun q=>⟨c,rfl,q⟩⟩
theorem lZ{K:Int->Prop}:wE (.d (.bool b)) K=K (if b then 1 else 0):=rfl
theorem lU:(aJ n R).rt x S=fin n R x S:=rfl
theorem mP:datas []=some []:=rfl
theorem pG{r:List XV}:datas (.d d::r)=(datas r).map (d :: ·):=rfl
end
theorem k9{α:Type}{a:α}{l:List α}:atI (a::l) 0=some a:=gJ (j:=0) rfl
theorem oX{α:Type}{a b:α}{l:List α}:atI (a::b::l) 1=some b:=gJ (j:=1) rfl
theorem nF{α:Type}{a b c:α}{l:List α}:atI (a::b::c::l) 2=some c:=gJ (j:=2) rfl
def Shp(n:Nat)(d:bp):Prop:=d.canLay0=true/\d.depth<=n
theorem JY{n:Nat}{i:Int}:Shp n (.int i):=⟨rfl,nq _⟩
theorem B4{n:Nat}:∀{ds:List bp},(∀d∈ds,Shp n d)->lw ds=true/\px ds<=n
 | [],_=>⟨by simp only[lw],by simp only[px];exact nq _⟩
 |d::ds,h=>by
  obtain⟨h1,h2⟩:=h d fu;obtain⟨h3,h4⟩:=B4 (ds:=ds) fun e m=>h e (cz _ m);simp only[lw,px,h1,h3,Bool.and_true,true_and];omega
theorem FE{n:Nat}{ds:List bp}(h:∀d∈ds,Shp n d):Shp (n+1) (.list ds):=by
 obtain⟨h1,h2⟩:=B4 h;exact⟨by simp only[oq];exact h1,by simp only[PyData.depth];omega⟩
theorem F6{α:Type}{n:Nat}{f:α->bp}{l:List α}(h:∀x∈l,Shp n (f x)):∀d∈l.map f,Shp n d:=fun d m=>by
 obtain⟨x,hx,rfl⟩:=mem_map.mp m;exact h x hx
theorem Shp.ok{n:Nat}{d:bp}(h:Shp n d)(hn:n<=64:=by decide):gp d=true:=by
 unfold gp;rw[h.1,gq (lm h.2 hn)];rfl
theorem eY{g:DG}{b:DS}{E:DEnds}:∀{ds:List bp}{δ:XE}{S:Sto} (I:Nat->XE->Sto->Prop),I 0 δ S ->
  (∀i d δ S (N:XE->Sto->Prop),ds[i]?=some d->I i δ S->(∀ δ' S',I (i+1) δ' S'->N δ' S')->g (.d d) δ S fun δ1 S1=>b { nx:=N,ct:=N,bk:=E.nx,rt:=E.rt } δ1 S1) ->
  (∀ δ S,I ds.length δ S->E.nx δ S)->gK g b ds E δ S
 | [],δ,S,I,h0,_,fin=>fin δ S h0
 |d::ds,δ,S,I,h0,step,fin=>by
  show g (.d d) δ S fun δ1 S1=>b _ δ1 S1;refine step 0 d δ S _ rfl h0 fun δ' S' h1=>?_;exact eY (ds:=ds) (fun i=>I (i+1)) h1 (fun i e δ S N hi=>step (i+1) e δ S N (by simpa using hi)) fin
theorem DZ{α:Type}{l:List α}{a b:α}{n:Nat}(h:l.length=n):(l++[a]).set n b=l++[b]:=by
 subst h;rw[List.set_append_right _ _ (cu _),Nat.sub_self];rfl
theorem BN{H:Hp}:RepS [] [] H []:=⟨rfl,mw,fun _ h=>(nomatch h),fun _ h=>(nomatch h),fun _ _ _ e=>(by simp at e)⟩
theorem Ex.same_nil{o':List Addr}{H H':Hp}(e:Ex [] H o' H'):Same H H':=fun b u q=>(e.kp b u yv q).2
theorem IL{K:cy}{a:Addr}{ns:List Int}{N:Int}{j m:Nat}{tb:TS}{db:DS}{D:Ends}{σ:St}{H:Hp}(hb:RS tb db)(h0:σ[0]?=some (some (.ref a)))(hl:σ.length=m+1)(hS:SqL K H a (ns.map V.int))(y:ns.length<=63)
  (turn:∀n:Int,db { nx:=fun δ _=>δ[0]?=some (some (.o (.ref a)))/\δ.length=m+1,ct:=fun δ _=>δ[0]?=some (some (.o (.ref a)))/\δ.length=m+1,rt:=fun _ _=>False } ((some (.o (.ref a))::bu m none).set j (some (.d (.int n)))) [])
  (hj:j≠0) (done:∀(σ:St) (H1:Hp),Same H H1->D.nx σ H1):
  oI (vW K (tOp lH (j7 (cZ (tC2 (vN K) (e9 0) (tC (.int 0))) jD)) (tSl (mV K) (e9 0) (kG (tC (.int 1))) (kG (tC (.int N)))))) (gI j) tb D σ H:=by
 refine KI (a:=a) (ns:=ns) (fun σ=>σ[0]?=some (some (.ref a))/\σ.length=m+1) h0 hS y ⟨h0,hl⟩ ?_ fun σ H1 _ s=>done σ H1 s;rintro n σ1 H1 H2 ⟨z0,z1⟩ s1 s2;refine hb [] [] H2 _ _ [] _ _ ⟨by simp[z1],fun i x e=>?_⟩ BN (turn n) ⟨?_,fun _ _ _ _ _ _ _ _ q=>q.elim,fun _ _ _ _ _ _ _ _ q=>q.elim,?_⟩
 ·rw[List.getElem?_set]at e ⊢;by_cases hij:j=i
  ·rw[ck hij]at e ⊢;by_cases hjl:j<m+1
   ·rw[ck (by simpa using hjl)]at e;rw[ck (by rw[z1];exact hjl)];cases e;exact⟨.int n,rfl,xI n⟩
   ·rw[ci (by simpa using hjl)]at e;cases e
  ·rw[ci hij]at e ⊢;cases i with
   |zero=>
    cases e;exact⟨.ref a,z0,rfl⟩
   |succ i=>
    rw[lg,List.getElem?_replicate]at e;split at e<;>cases e
 ·rintro o' H' δ' S' σ' e he hs ⟨q1,q2⟩;obtain⟨v,ev,hv⟩:=he.get 0 _ q1;cases hv;exact⟨s2.trans e.same_nil,ev,by rw[<- he.len];exact q2⟩
 ·rintro o' H' δ' S' σ' e he hs ⟨q1,q2⟩;obtain⟨v,ev,hv⟩:=he.get 0 _ q1;cases hv;exact⟨s2.trans e.same_nil,ev,by rw[<- he.len];exact q2⟩
theorem JM{a:Addr}{m:Nat}{t u:TS}{dt:DS}{D:Ends}{σ:St}{H:Hp}(ht:RS t dt)(h0:σ[0]?=some (some (.ref a)))(hl:σ.length=m+1)
  (go:dt { nx:=fun δ _=>δ[0]?=some (some (.o (.ref a)))/\δ.length=m+1,rt:=fun _ _=>False } (some (.o (.ref a))::bu m none) [])
  (next:∀(σ:St) (H1:Hp),σ[0]?=some (some (.ref a))->σ.length=m+1->Same H H1->u D σ H1):cX t u D σ H:=by
 refine ht [] [] H _ _ [] _ _ ⟨by simp[hl],fun i x e=>?_⟩ BN go ⟨?_,fun _ _ _ _ _ _ _ _ q=>q.elim,fun _ _ _ _ _ _ _ _ q=>q.elim,fun _ _ _ _ _ _ _ _ q=>q.elim⟩
 ·cases i with
  |zero=>
   cases e;exact⟨.ref a,h0,rfl⟩
  |succ i=>
   rw[lg,List.getElem?_replicate]at e;split at e<;>cases e
 ·rintro o' H' δ' S' σ' e he hs ⟨q1,q2⟩;obtain⟨v,ev,hv⟩:=he.get 0 _ q1;cases hv;exact next σ' H' ev (by rw[<- he.len];exact q2) e.same_nil
end
section
theorem Fn{P:fx}{w:io}{K:cy}{tg:Expr}(it:Addr)(lo:Int)(n:Nat):Turn P w K tg (Itr lo n) [it] it (fun i h=>IsLongIter h it (lo+(i:Nat)*1) ((n:Int)-(i:Nat)) 1) where
 mem:=by simp
 obj:=fun i h st b hb=>by
  have e:b=it:=by simpa using hb
  subst e;exact⟨_,st,fun v z=>by
   have z':Data.fields _=Data.cell v:=z;cases z'⟩
 keep:=fun i h h' st k=>k it yv _ st
 item:=by
  intro X hP hw hK hc i ze s σ H E I hf st hg;subst hP hw hK;obtain⟨f0,f1,f2,f3,f4,f5⟩:=hf it yv;have W:=Walks.longrange (prog:=X.prog) (w:=X.w) (I.ok.hd hc) it lo 1 n;refine W.item i s _ _ hg st fun v h' tk hv st' kk=>?_;obtain⟨t,rfl⟩:=hv;have I1:Inv X ze σ H { s with heap:=h',toks:=tk }:=I.turned (fun b o hb e=>kk b o (by simpa using hb) e) f0 f1 f3 f4 f5;refine⟨_,rfl,mX (s:={ s with heap:=h',toks:=tk }) (n:="longrange_iterator") st' rfl rfl dz ⟨.int (lo+i),H,I1,⟨t,?_⟩,⟨rfl,rfl⟩,st',fun b hb=>(hf b hb).1⟩⟩;rw[Int.mul_one]
 done:=by
  intro X hP hw hK hc i ze s σ H E I hf st hg;subst hP hw hK;obtain⟨f0,f1,f2,f3,f4,f5⟩:=hf it yv;exact wpAny_pyNext_long_end (I.ok.hd hc) st (by have:n<=i:=hg;omega) fun h' eb=>⟨rfl,I.turned (t':=s.toks) (fun b o hb e=>eb b o hb e) f0 f1 f3 f4 f5⟩
 self:=fun _ _ _ _ _ st h=>wpAny_pyIter_longiter st h
section
variable {X:Cx}{tg:Expr}
theorem Bj{ze:List (Addr×Obj)}{σ:St}{H:Hp}{s:bq}{R:It->Hp->Prop}{E:bn->bq->Prop}{lo hi:Int}{t u v:Tok}{tk:Nat}(I:Inv X ze σ H s)
  (q:R (Itr lo (hi-lo).toNat) H):cw (model X.prog X.w) X.A (pyIter (.ref s.heap.objs.size)) (PIE X ze σ tg R) E { s with heap:=s.heap.push { cls:=.type "range",data:=.fields #[.int lo t,.int hi u,.int 1 v] },toks:=tk }:=by
 have I1:Inv X ze σ H { s with heap:=s.heap.push { cls:=.type "range",data:=.fields #[.int lo t,.int hi u,.int 1 v] },toks:=tk }:=I.kept fun b o e=>bw _ e;have e1:lo+((0:Nat):Int)*1=lo:=by simp
 have e2:(((hi-lo).toNat:Nat):Int)-((0:Nat):Int)=Builtin.Range.rangeSize lo hi 1:=by rw[rangeSize_one];split<;>omega
 cases hsm:Builtin.Range.small lo hi 1 with
 |true=>
  refine wpAny_pyIter_range (IsRange.new ..) hsm ?_;refine⟨(s.heap.push { cls:=.type "range",data:=.fields #[.int lo t,.int hi u,.int 1 v] }).objs.size,[(s.heap.push { cls:=.type "range",data:=.fields #[.int lo t,.int hi u,.int 1 v] }).objs.size],_,_,H,rfl,
   I1.kept (t':=tk) fun b o e=>bw _ e,Ei _ lo (hi-lo).toNat,?_,fun b hb=>?_,q⟩
  ·show IsRangeIter _ _ (lo+((0:Nat):Int)*1) ((((hi-lo).toNat:Nat):Int)-((0:Nat):Int)) 1;rw[e1,e2];exact fj _ rfl
  ·have e:b=(s.heap.push { cls:=.type "range",data:=.fields #[.int lo t,.int hi u,.int 1 v] }).objs.size:=by simpa using hb
   subst e;exact I1.fpOk (cu _) (I1.hok.fresh (cu _))
 |false=>
  refine wpAny_pyIter_longrange (IsRange.new ..) hsm ?_;refine⟨(s.heap.push { cls:=.type "range",data:=.fields #[.int lo t,.int hi u,.int 1 v] }).objs.size,[(s.heap.push { cls:=.type "range",data:=.fields #[.int lo t,.int hi u,.int 1 v] }).objs.size],_,_,H,rfl,
   I1.kept (t':=tk) fun b o e=>bw _ e,Fn _ lo (hi-lo).toNat,?_,fun b hb=>?_,q⟩
  ·show IsLongIter _ _ (lo+((0:Nat):Int)*1) ((((hi-lo).toNat:Nat):Int)-((0:Nat):Int)) 1;rw[e1,e2];exact fj _ rfl
  ·have e:b=(s.heap.push { cls:=.type "range",data:=.fields #[.int lo t,.int hi u,.int 1 v] }).objs.size:=by simpa using hb
   subst e;exact I1.fpOk (cu _) (I1.hok.fresh (cu _))
def yP(ta:TA):TI:=fun σ H R=>ta σ H fun vs H1=>∃j:Int,vs=[.int j]/\R (Itr 0 j.toNat) H1
def wQ(ta:TA):TI:=fun σ H R=>ta σ H fun vs H1=>∃i j:Int,vs=[.int i,.int j]/\R (Itr i (j-i).toNat) H1
theorem rY{a:Expr}{ta:TA}{p pos:Pos}(hg:Gl X "range")(hm:X.mg "range" = none)(ha:PA X [a] ta)(hs:fq [a] X.env=[(false,eval a X.env)]:=by rfl):PI X tg (.Call (.Name "range" p) [a] [] pos) (yP ta):=by
 intro ze s σ H R I h;refine Call_ (eO I hg hm boot_range (km (thn (ha pos ze s σ H _ I h) fun us s1 ⟨vs,H1,I1,r1,q1⟩=>?_) hs rfl));obtain⟨j,e,q⟩:=q1;subst e;cases r1 with
 |cons r rr=>
  cases rr;obtain⟨t,rfl⟩:=r;exact call_range_1 (Bj I1 (by simpa using q))
theorem E2{a b:Expr}{ta:TA}{p pos:Pos}(hg:Gl X "range")(hm:X.mg "range" = none)(ha:PA X [a,b] ta)(hs:fq [a,b] X.env=[(false,eval a X.env),(false,eval b X.env)]:=by rfl)(y:fq [b] X.env=[(false,eval b X.env)]:=by rfl):
  PI X tg (.Call (.Name "range" p) [a,b] [] pos) (wQ ta):=by
 intro ze s σ H R I h;refine Call_ (eO I hg hm boot_range (km (thn (ha pos ze s σ H _ I h) fun us s1 ⟨vs,H1,I1,r1,q1⟩=>?_) (by rw[hs,y]) (by rw[y];rfl)));obtain⟨i,j,e,q⟩:=q1;subst e;cases r1 with
 |cons r rr=>
  cases rr with
  |cons r' rr=>
   cases rr;obtain⟨t,rfl⟩:=r;obtain⟨t',rfl⟩:=r';exact call_range_2 (Bj I1 q)
end
def fI(a:DA):DI:=fun δ S R=>a δ S fun xs S1=>arg1 xs fun x=>asI x fun j=>R (fH 0 j.toNat) S1
def iY(a:DA):DI:=fun δ S R=>a δ S fun xs S1=>arg2 xs fun x y=>asI x fun i=>asI y fun j=>R (fH i (j-i).toNat) S1
theorem uW{ta:TA}{da:DA}(ha:RA ta da):RI (yP ta) (fI da):=fun h o H δ σ S R Q he hs q c=>
 ha h o H δ σ S _ _ he hs q fun o1 H1 S1 xs vs e1 s1 x1 d0=>by
  obtain⟨x,rfl,d2⟩:=bT d0;obtain⟨j,rfl,d1⟩:=aZ d2;obtain⟨v,rfl,hv⟩:=hxs1 x1;rw[aU hv];exact⟨j,rfl,c o1 H1 S1 _ _ e1 s1 DJ d1⟩
theorem IB{ta:TA}{da:DA}(ha:RA ta da):RI (wQ ta) (iY da):=fun h o H δ σ S R Q he hs q c=>
 ha h o H δ σ S _ _ he hs q fun o1 H1 S1 xs vs e1 s1 x1 d0=>by
  obtain⟨x,y,rfl,d2⟩:=v7 d0;obtain⟨i,rfl,d3⟩:=aZ d2;obtain⟨j,rfl,d1⟩:=aZ d3;obtain⟨v,u,rfl,hv,hu⟩:=hxs2 x1;rw[aU hv,aU hu];exact⟨i,j,rfl,c o1 H1 S1 _ _ e1 s1 DJ d1⟩
end
section
open Sem (wp)
open AutoSeq1 (wpAny_loadPart')
section
variable {X:Cx}{ze:List (Addr×Obj)}{σ:St}{H:Hp}{s:bq}{h':Heap}
theorem Inv.turnLaid{t':Nat}{ch:List Addr}{T:Addr}{o:HO}(I:Inv X ze σ H s)(k:∀b u,b∉ch->s.heap.get? b=some u->h'.get? b=some u)(hf:∀b∈ch,FpOk X ze H b)(hT:s.heap.objs.size<=T)
  (new:ObjOk X.prog X.w (upd H T o) h' T o):Inv X ze σ (upd H T o) { s with heap:=h',toks:=t' }:=by
 have hn:H T=none:=I.hok.fresh hT;have y:∀b u,H b=some u->b∉ch:=fun b u e m=>by rw[(hf b m).1]at e;cases e
 have aa:∀b u,s.heap.get? b=some u->b≠T:=fun b u e z=>absurd (ix (gh e) hT) (by rw[z];exact nv _);have up:∀b u,H b=some u->upd H T o b=some u:=fun b u e=>(zB (zK e hn)).trans e;refine I.step (g':=s.gens) (d':=s.drawn) (ch:=ch) (fun b hb=>?_) (fun b u _ _ hc e _=>k b u hc e) (fun b u _ _ hc e _=>⟨u.slots,k b u hc e⟩) (fun b u _ e n=>(zB (aa b u e)).trans n)
  (fun b u hc e=>⟨u,k b u hc e⟩) (fun b xs e=>up b _ e) (fun b u v e=>up b _ e) (fun b ps e=>up b _ e) (fun m hm=>?_) (fun b u e=>?_) I.bare
 ·obtain⟨_,f1,_,f3,f4,f5⟩:=hf b hb;exact⟨f3,f1,f4,f5⟩
 ·obtain⟨ob,es,ep,ho,r⟩:=hm;exact⟨ob,es,ep,k _ ob (fun z=>(hf _ z).2.1 rfl) ho,r⟩
 ·by_cases hb:b=T
  ·subst hb;rw[b8]at e;cases e;exact new
  ·rw[zB hb]at e;refine(I.hok b u e).stay (fun c v hc q=>k c v ?_ q) (fun c q=>up c _ q) (fun c xs q=>up c _ q) fun c o u q=>up c _ q;rcases hc with z|z
   ·rw[z];exact y b u e
   ·exact y c _ z
theorem Inv.turnedN{t':Nat}{ch:List Addr}(I:Inv X ze σ H s)(k:∀b u,b∉ch->s.heap.get? b=some u->h'.get? b=some u)(hf:∀b∈ch,FpOk X ze H b):Inv X ze σ H { s with heap:=h',toks:=t' }:=by
 have y:∀b u,H b=some u->b∉ch:=fun b u e m=>by rw[(hf b m).1]at e;cases e
 refine I.step (g':=s.gens) (d':=s.drawn) (ch:=ch) (fun b hb=>?_) (fun b u _ _ hc e _=>k b u hc e) (fun b u _ _ hc e _=>⟨u.slots,k b u hc e⟩) (fun b u _ e n=>n)
  (fun b u hc e=>⟨u,k b u hc e⟩) (fun b xs e=>e) (fun b u v e=>e) (fun b ps e=>e) (fun m hm=>?_) (fun b u e=>?_) I.bare
 ·obtain⟨_,f1,_,f3,f4,f5⟩:=hf b hb;exact⟨f3,f1,f4,f5⟩
 ·obtain⟨ob,es,ep,ho,r⟩:=hm;exact⟨ob,es,ep,k _ ob (fun z=>(hf _ z).2.1 rfl) ho,r⟩
 ·refine(I.hok b u e).stay (fun c v hc q=>k c v ?_ q) (fun _ q=>q) fun _ _ q=>q;rcases hc with z|z
  ·rw[z];exact y b u e
  ·exact y c _ z
end
section
variable {prog:fx}{w:io}{A:iz}{E:bn->bq->Prop}{s:bq}
theorem GH{j t:Addr}{i:Nat}{vs:Array bn}{x:bn}{Q:bn->bq->Prop}(hj:s.heap.IsTupleIter j t i)(ht:s.heap.IsTuple t vs)(hx:vs[i]?=some x)
  (hQ:∀g,g.IsTupleIter j t (i+1)->jr j s.heap g->Q x { s with heap:=g }):cw (model prog w) A (jh (.ref j)) Q E s:=by
 obtain⟨oj,ej,cj,dj⟩:=id hj;obtain⟨ot,et,_,nt,dt⟩:=ht;unfold jh;refine bo (ke (name:=gx "__next__") hj.typeIs F.slot_tuple_iterator_next (ld F.slot_tuple_iterator_next hj.typeIs F.entry_tuple_iterator_next ?_ (F.args_tuple_iterator_next_1 _)));show cw _ _ (field (.ref j) 0 >>= _) _ _ s;refine bo (ku ej dj (x:=.ref t) rfl ?_);show cw _ _ (ite ((gm t==qg)=true) _ _) _ _ s;refine(ci (show ¬((gm t==qg)=true)from ji))▸?_;show cw _ _ (field (.ref j) 1 >>= _) _ _ s;refine bo (ku ej dj (x:=.int i 0) rfl ?_);refine bo (m:=seqItems? (.ref t)) (qm et dt ?_);simp only[hx,Int.toNat_natCast];refine bo (wpAny_setField ej dj yv (cm ⟨x,rfl,cm (hQ _ ⟨_,get?_update_self _ ej (Obj.isFreed_of_fields (Obj.data_mapFields dj _)),(Obj.cls_mapFields ..).trans cj,?_⟩ (kt ..))⟩));rw[Obj.data_mapFields dj];simp[rawInt]
theorem Gc{j t:Addr}{i:Nat}{vs:Array bn}{Q:bn->bq->Prop}(hh:A.handled=none)(hj:s.heap.IsTupleIter j t i)(ht:s.heap.IsTuple t vs)(hx:vs[i]?=none)
  (hE:∀g e,Heap.ExtBut j s.heap g->(∃o,g.get? e=some o/\o.cls=.type "StopIteration")->E (.ref e) { s with heap:=g }):cw (model prog w) A (jh (.ref j)) Q E s:=by
 obtain⟨oj,ej,cj,dj⟩:=id hj;obtain⟨ot,et,_,nt,dt⟩:=ht;unfold jh;refine bo (ke (name:=gx "__next__") hj.typeIs F.slot_tuple_iterator_next (ld F.slot_tuple_iterator_next hj.typeIs F.entry_tuple_iterator_next ?_ (F.args_tuple_iterator_next_1 _)));show cw _ _ (field (.ref j) 0 >>= _) _ _ s;refine bo (ku ej dj (x:=.ref t) rfl ?_);show cw _ _ (ite ((gm t==qg)=true) _ _) _ _ s;refine(ci (show ¬((gm t==qg)=true)from ji))▸?_;show cw _ _ (field (.ref j) 1 >>= _) _ _ s;refine bo (ku ej dj (x:=.int i 0) rfl ?_);refine bo (m:=seqItems? (.ref t)) (qm et dt ?_);simp only[hx,Int.toNat_natCast];refine bo (on (bo (wpAny_setField ej dj yv ?_)));show cw _ _ (newExc (.type "StopIteration") [] >>= _) _ _ _;refine bo ?_;simp only[newExc,newTuple];refine bo (jz ?_ (by size_fits));refine bo (m:=firstArgMember _ _) (wpAny_of_eq (a:=qg) (by first|rfl|(simp only[firstArgMember];rfl)) ?_);refine jz ?_ (by size_fits);simp only[raiseNew];refine bo (wpAny_handled ?_)
 first|rw[show A.in1.handled=none from hh]|rw[hh]
 exact bo (cm (wpAny_throw (hE _ _ (((kt ..).extBut.push _).push _) ⟨_,fj _ rfl,rfl⟩)))
theorem Em{e j:Addr}{i:Nat}{x y:bn}{J:Heap->Prop}{Q:bn->bq->Prop}(he:IsEnum s.heap e j i y)(aa:e≠j)
  (hn:∀(Q':bn->bq->Prop) (E':bn->bq->Prop),(∀g,J g->jr j s.heap g->Q' x { s with heap:=g })->cw (model prog w) A (jh (.ref j)) Q' E' s)
  (hJ:∀g g',J g->(∀o,g.get? j=some o->g'.get? j=some o)->J g')
  (hQ:∀g,IsEnumOut g e j ((i:Int)+1) x s.heap.objs.size->J g->g.get? s.heap.objs.size=some { cls:=.type "tuple",data:=.seq #[.int i s.toks,x] } ->
   (∀b o,b≠e->b≠j->s.heap.get? b=some o->g.get? b=some o)->Q (.ref s.heap.objs.size) { s with heap:=g,toks:=s.toks+1 }):
  cw (model prog w) A (rc.«enumerate.__next__» ⟨[.ref e],[]⟩) (fun fin s'=>∃v,fin=.done (.ret v)/\Q v s') E s:=by
 obtain⟨h0,gs,dr,tk,os⟩:=s;show cw _ _ (field (.ref e) 2 >>= _) _ _ _;refine bo (ku he rfl (x:=.ref j) rfl (bo (hn _ _ fun g1 J1 b1=>?_)));replace b1:jr j h0 g1:=b1;have e1:IsEnum g1 e j i y:=(b1.2 e aa).trans he;show cw _ _ (field (.ref e) 3 >>= _) _ _ ⟨g1,gs,dr,tk,os⟩;refine bo (ku e1 rfl (x:=rawInt i) rfl ?_);show cw _ _ (field (.ref e) 4 >>= _) _ _ ⟨g1,gs,dr,tk,os⟩;refine bo (ku e1 rfl (x:=.none) rfl ?_);show cw _ _ (mkInt i >>= _) _ _ ⟨g1,gs,dr,tk,os⟩;refine bo (wpAny_mkInt ?_);show cw _ _ (setField (.ref e) 3 (rawInt ((i:Int)+1)) >>= _) _ _ ⟨g1,gs,dr,tk+1,os⟩;refine bo (ph e1 yv fun g2 e2 b2=>?_);replace b2:jr e g1 g2:=b2;replace e2:IsEnum g2 e j ((i:Int)+1) y:=e2;show cw _ _ (setField (.ref e) 4 .none >>= _) _ _ ⟨g2,gs,dr,tk+1,os⟩;refine bo (ph e2 yv fun g3 e3 b3=>?_);replace b3:jr e g2 g3:=b3;replace e3:IsEnum g3 e j ((i:Int)+1) y:=e3;show cw _ _ (newTuple [.int i tk,x] >>= _) _ _ ⟨g3,gs,dr,tk+1,os⟩;refine bo (wpAny_newTuple ?_);have sz:g3.objs.size=h0.objs.size:=by rw[b3.1,b2.1,b1.1]
 have lt:e<h0.objs.size:=gh he;have e4:IsEnum (g3.push { cls:=.type "tuple",data:=.seq #[.int i tk,x] }) e j ((i:Int)+1) y:=bw _ e3;have J3:J g3:=hJ _ _ (hJ _ _ J1 fun o q=>b2.extBut j o (kj aa) q) fun o q=>b3.extBut j o (kj aa) q;have J4:J (g3.push { cls:=.type "tuple",data:=.seq #[.int i tk,x] }):=hJ _ _ J3 fun o q=>bw _ q;have t4:(g3.push { cls:=.type "tuple",data:=.seq #[.int i tk,x] }).get? h0.objs.size=some { cls:=.type "tuple",data:=.seq #[.int i tk,x] }:=by rw[<- sz];exact fj _ rfl
 have k4:∀b o,b≠e->b≠j->h0.get? b=some o->(g3.push { cls:=.type "tuple",data:=.seq #[.int i tk,x] }).get? b=some o:=fun b o n1 n2 q=>bw _ (b3.extBut b o n1 (b2.extBut b o n1 (b1.extBut b o n2 q)));generalize g3.push { cls:=.type "tuple",data:=.seq #[.int i tk,x] } = g4 at e4 J4 t4 k4 ⊢;show cw _ _ (Builtin.SmallTypes.ownedTupleIsFree (.ref e) >>= _) _ _ ⟨g4,gs,dr,tk+1,os⟩;rw[sz];refine bo ?_;unfold Builtin.SmallTypes.ownedTupleIsFree;refine bo (ku e4 rfl (x:=.none) rfl (cm ?_));simp only[if_true];refine bo (on (bo (ku e4 rfl (x:=y) rfl (bo (ph e4 yv fun g5 e5 b5=>?_)))));replace b5:jr e g4 g5:=b5;replace e5:IsEnum g5 e j ((i:Int)+1) x:=e5;show cw _ _ (Builtin.SmallTypes.ownedTupleHandOut (.ref e) (.ref h0.objs.size) >>= _) _ _ ⟨g5,gs,dr,tk+1,os⟩;refine bo ?_;unfold Builtin.SmallTypes.ownedTupleHandOut;refine bo (ph e5 yv fun g6 e6 b6=>?_);replace b6:jr e g5 g6:=b6;replace e6:IsEnumOut g6 e j ((i:Int)+1) x h0.objs.size:=e6;refine ph e6 yv fun g7 e7 b7=>?_;replace b7:jr e g6 g7:=b7;replace e7:IsEnumOut g7 e j ((i:Int)+1) x h0.objs.size:=e7;have k7:∀b o,b≠e->g4.get? b=some o->g7.get? b=some o:=fun b o n q=>b7.extBut b o n (b6.extBut b o n (b5.extBut b o n q));exact bo (wpAny_letGo (cm ⟨_,rfl,hQ g7 e7 (hJ _ _ J4 fun o q=>k7 j o (kj aa) q) (k7 _ _ (ne_of_gt lt) t4) fun b o n1 n2 q=>k7 b o n1 (k4 b o n1 n2 q)⟩))
theorem v6{e j:Addr}{i:Nat}{x y:bn}{J:Heap->Prop}{Q:Option bn->bq->Prop}(he:IsEnum s.heap e j i y)(q:e≠j)
  (hn:∀(A:iz) (Q':bn->bq->Prop) (E':bn->bq->Prop),(∀g,J g->jr j s.heap g->Q' x { s with heap:=g })->cw (model prog w) A (jh (.ref j)) Q' E' s)
  (hJ:∀g g',J g->(∀o,g.get? j=some o->g'.get? j=some o)->J g')
  (hQ:∀g,IsEnumOut g e j ((i:Int)+1) x s.heap.objs.size->J g->g.get? s.heap.objs.size=some { cls:=.type "tuple",data:=.seq #[.int i s.toks,x] } ->
   (∀b o,b≠e->b≠j->s.heap.get? b=some o->g.get? b=some o)->Q (some (.ref s.heap.objs.size)) { s with heap:=g,toks:=s.toks+1 }):cw (model prog w) A (pyNext (.ref e)) Q E s:=by
 have ty:s.TypeIs (.ref e) "enumerate":=⟨_,he,rfl⟩;unfold pyNext;exact bo (wpAny_attempt (ke (name:=gx "__next__") ty F.slot_enumerate_next (ld F.slot_enumerate_next ty F.entry_enumerate_next (Em he q (hn _) hJ fun g a b c k=>cm (hQ g a b c k)) (F.args_enumerate_next_1 _))))
theorem wA{e j:Addr}{i:Nat}{q:bn}{Q:Option bn->bq->Prop}(hh:A.handled=none)(he:IsEnum s.heap e j i q)
  (hn:∀(A:iz) (Q':bn->bq->Prop) (E':bn->bq->Prop),A.handled=none->(∀g x,Heap.ExtBut j s.heap g->(∃o,g.get? x=some o/\o.cls=.type "StopIteration")->E' (.ref x) { s with heap:=g })->cw (model prog w) A (jh (.ref j)) Q' E' s)
  (hQ:∀g,Heap.ExtBut j s.heap g->Q none { s with heap:=g }):cw (model prog w) A (pyNext (.ref e)) Q E s:=by
 have ty:s.TypeIs (.ref e) "enumerate":=⟨_,he,rfl⟩;unfold pyNext;refine bo (wpAny_attempt (ke (name:=gx "__next__") ty F.slot_enumerate_next (ld F.slot_enumerate_next ty F.entry_enumerate_next ?_ (F.args_enumerate_next_1 _))));show cw _ _ (field (.ref e) 2 >>= _) _ _ _;refine bo (ku he rfl (x:=.ref j) rfl (bo (hn _ _ _ hh fun g x b hx=>?_)));obtain⟨o,ho,hc⟩:=hx;exact bo (wpAny_isInstance (T:="StopIteration") (b:=true) ⟨o,ho,hc⟩ isSubtype_stop (cm (hQ _ b)))
theorem EZ(t:Addr)(vs:Array bn)(n:Nat)(y:Option Addr)(sl:Array (Option bn)):Meets (rc.«enumerate.__new__» ⟨[.type "enumerate",.ref t],[]⟩) (fun _ R s=>s.heap.get? t=some { cls:=.type "tuple",dict:=y,data:=.seq vs n,slots:=sl } /\
   R (.ok (.ret (.ref (s.heap.push { cls:=.type "tuple_iterator",data:=.fields #[.ref t,.int 0 0] }).objs.size)))
    { s with heap:=(s.heap.push { cls:=.type "tuple_iterator",data:=.fields #[.ref t,.int 0 0] }).push { cls:=.type "enumerate",data:=.fields #[.none,.bool false,.ref s.heap.objs.size,rawInt 0,.none,.none] } }):=
 .of_wp fun prog w A R s q=>by
  obtain⟨g0,gs,dr,tk,os⟩:=s;obtain⟨ht,q⟩:=q;have sub:=sub_enumerate;have hT:Heap.IsTuple (Shared.heap ⟨g0,gs,dr,tk,os⟩) t vs:=⟨_,ht,rfl,n,rfl⟩
  wp_walk using wpAny_loadPart' ht
  refine wpAny_stack_any fun _=>cm ?_;split
  ·rename_i c _ _ _ _ _;cases (c==Value.type "enumerate")<;>(wp_walk using wpAny_loadPart' ht,wpAny_pyIter_tuple hT;exact⟨_,rfl,q⟩)
  ·wp_walk using wpAny_loadPart' ht,wpAny_pyIter_tuple hT
   exact⟨_,rfl,q⟩
theorem JI{t:Addr}{vs:Array bn}{Q:bn->bq->Prop}(hT:s.heap.IsTuple t vs)
  (hyp:∀g,IsEnum g (s.heap.objs.size+1) s.heap.objs.size 0 .none->g.IsTupleIter s.heap.objs.size t 0->(∀b o,s.heap.get? b=some o->g.get? b=some o)->Q (.ref (s.heap.objs.size+1)) { s with heap:=g }):cw (model prog w) A (call (.type "enumerate") [.ref t]) Q E s:=by
 obtain⟨⟨c,y,dt,sl⟩,ht,hc,n,hd⟩:=hT;replace hc:c=.type "tuple":=hc;replace hd:dt=.seq vs n:=hd;subst hc hd;refine callType_new F.called_enumerate dz (F.typeCall_enumerate_1 _) (F.newCall_enumerate_1 _) (fun ob=>F.args_object_init_2 ob _) F.entry_enumerate_new (EZ t vs n y sl) ⟨ht,?_⟩;have sz:(s.heap.push { cls:=.type "tuple_iterator",data:=.fields #[.ref t,.int 0 0] }).objs.size=s.heap.objs.size+1:=size_push ..;show _/\_;rw[sz];have he:=fj (s.heap.push { cls:=.type "tuple_iterator",data:=.fields #[.ref t,.int 0 0] }) (o:={ cls:=.type "enumerate",data:=.fields #[.none,.bool false,.ref s.heap.objs.size,rawInt 0,.none,.none] }) rfl;rw[sz]at he;exact⟨⟨_,he,rfl⟩,hyp _ he ⟨_,bw _ (fj _ rfl),rfl,rfl⟩ fun b o q=>bw _ (bw _ q)⟩
end
def Ite(Sq:Hp->Addr->List V->Prop)(a:Addr):It:=
 ⟨fun i H=>∃xs x,Sq H a xs/\xs[i]?=some x,fun i H x H'=>∃p v,H p=none/\x=.ref p/\H'=upd H p (.tup [.int i,v])/\∀xs,Sq H a xs->xs[i]?=some v,fun i H=>∃xs,Sq H a xs/\xs.length<=i⟩
theorem HD{P:fx}{w:io}{K:cy}{elts:List Expr}{n:Nat}{pos:Pos}(a e j:Addr)(ab:e≠j):Turn P w K (.Tuple elts n pos) (Ite (SqT K) a) [e,j] e (fun i h=>(∃y,IsEnum h e j i y)/\h.IsTupleIter j a i) where
 mem:=by simp
 obj:=fun i h ⟨⟨y,he⟩,hj⟩ b hb=>by
  rcases mem_cons.mp hb with rfl|hb
  ·exact⟨_,he,fun v z=>by
    have z':Data.fields _=Data.cell v:=z;cases z'⟩
  ·rw[mem_singleton.mp hb];obtain⟨o,q,c,d⟩:=hj;exact⟨o,q,fun v z=>by rw[d]at z;cases z⟩
 keep:=fun i h h' ⟨⟨y,he⟩,hj⟩ k=>⟨⟨y,k e yv _ he⟩,hj.at fun o q=>k j yv o q⟩
 item:=by
  intro X hP hw hK hc i ze s σ H E I hf ⟨⟨y,he⟩,hj⟩ hg;subst hP hw hK;obtain⟨xs,x,hq,hx⟩:=hg;obtain⟨aa,rv,p,hz⟩:=I.tuple hq;obtain⟨u,hu,ru⟩:=rv.get hx;have hT:s.heap.IsTuple a aa.toArray:=p;refine v6 (J:=fun g=>g.IsTupleIter j a (i+1)) he ab (fun A' Q' E' k=>GH hj hT (x:=u) (by simpa using hu) k) (fun g g' z k=>z.at k) fun g e1 j1 t1 k1=>?_;refine⟨_,rfl,wpAny_letOwnedTupleGo_enum (s:={ s with heap:=g,toks:=s.toks+1 }) e1 fun g' e2 b2=>?_⟩;have lt:e<s.heap.objs.size:=gh he;have ae:j<s.heap.objs.size:=by
   obtain⟨_,q,_⟩:=hj;exact gh q
  have t2:g'.get? s.heap.objs.size=some { cls:=.type "tuple",data:=.seq #[.int i s.toks,u] }:=(b2.2 _ (ne_of_gt lt)).trans t1;have ac:H s.heap.objs.size=none:=I.hok.fresh (cu _);refine⟨.ref s.heap.objs.size,upd H s.heap.objs.size (.tup [.int i,x]),I.turnLaid (ch:=[e,j]) (t':=s.toks+1) (fun b o nb q=>(b2.2 b fun z=>nb (by simp[z])).trans (k1 b o (fun z=>nb (by simp[z])) (fun z=>nb (by simp[z])) q)) hf (cu _) ?_,rfl,
   ⟨_,x,ac,rfl,rfl,fun ys hy=>by rw[I.tuple_inj hy hq];exact hx⟩,⟨⟨u,by simpa using e2⟩,j1.at fun o q=>(b2.2 j (kj ab)).trans q⟩,fun b hb=>?_⟩
  ·refine⟨⟨by show 2<=cx;decide,_,t2,rfl⟩,[.int i s.toks,u],.cons ⟨s.toks,rfl⟩ (.cons ru .nil),⟨_,t2,rfl,_,rfl⟩⟩
  ·rcases mem_cons.mp hb with rfl|hb
   ·rw[zB (ik lt)];exact(hf _ yv).1
   ·rw[mem_singleton.mp hb,zB (ik ae)];exact(hf _ yv).1
 done:=by
  intro X hP hw hK hc i ze s σ H E I hf ⟨⟨y,he⟩,hj⟩ hg;subst hP hw hK;obtain⟨xs,hq,hx⟩:=hg;obtain⟨aa,rv,p,hz⟩:=I.tuple hq;have hT:s.heap.IsTuple a aa.toArray:=p;have hl:=rv.length;exact wA (I.ok.hd hc) he (fun A' Q' E' h0 k=>Gc h0 hj hT (by simp;omega) k) fun g b=>⟨rfl,I.turnedN (ch:=[e,j]) (t':=s.toks) (fun b' o nb q=>b b' o (fun z=>nb (by simp[z])) q) hf⟩
 self:=fun _ _ _ _ _ st h=>by
  obtain⟨⟨y,he⟩,_⟩:=st;exact ol he h
theorem GM{P:fx}{w:io}{K:cy}{elts:List Expr}{n:Nat}{pos:Pos}(a e j:Addr)(ab:e≠j):Turn P w K (.Tuple elts n pos) (Ite (SqL K) a) [e,j] e (fun i h=>(∃y,IsEnum h e j i y)/\h.IsListIter j a i) where
 mem:=by simp
 obj:=fun i h ⟨⟨y,he⟩,hj⟩ b hb=>by
  rcases mem_cons.mp hb with rfl|hb
  ·exact⟨_,he,fun v z=>by
    have z':Data.fields _=Data.cell v:=z;cases z'⟩
  ·rw[mem_singleton.mp hb];obtain⟨o,q,c,d⟩:=hj;exact⟨o,q,fun v z=>by rw[d]at z;cases z⟩
 keep:=fun i h h' ⟨⟨y,he⟩,hj⟩ k=>⟨⟨y,k e yv _ he⟩,hj.at fun o q=>k j yv o q⟩
 item:=by
  intro X hP hw hK hc i ze s σ H E I hf ⟨⟨y,he⟩,hj⟩ hg;subst hP hw hK;obtain⟨xs,x,hq,hx⟩:=hg;obtain⟨aa,rv,p,hz⟩:=I.list hq;obtain⟨u,hu,ru⟩:=rv.get hx;have hT:s.heap.IsList a aa.toArray:=p.isList;refine v6 (J:=fun g=>g.IsListIter j a (i+1)) he ab (fun A' Q' E' k=>wpAny_nextOf_list_item hj hT (x:=u) (by simpa using hu) k) (fun g g' z k=>z.at k) fun g e1 j1 t1 k1=>?_;refine⟨_,rfl,wpAny_letOwnedTupleGo_enum (s:={ s with heap:=g,toks:=s.toks+1 }) e1 fun g' e2 b2=>?_⟩;have lt:e<s.heap.objs.size:=gh he;have ae:j<s.heap.objs.size:=by
   obtain⟨_,q,_⟩:=hj;exact gh q
  have t2:g'.get? s.heap.objs.size=some { cls:=.type "tuple",data:=.seq #[.int i s.toks,u] }:=(b2.2 _ (ne_of_gt lt)).trans t1;have ac:H s.heap.objs.size=none:=I.hok.fresh (cu _);refine⟨.ref s.heap.objs.size,upd H s.heap.objs.size (.tup [.int i,x]),I.turnLaid (ch:=[e,j]) (t':=s.toks+1) (fun b o nb q=>(b2.2 b fun z=>nb (by simp[z])).trans (k1 b o (fun z=>nb (by simp[z])) (fun z=>nb (by simp[z])) q)) hf (cu _) ?_,rfl,
   ⟨_,x,ac,rfl,rfl,fun ys hy=>by rw[I.list_inj hy hq];exact hx⟩,⟨⟨u,by simpa using e2⟩,j1.at fun o q=>(b2.2 j (kj ab)).trans q⟩,fun b hb=>?_⟩
  ·refine⟨⟨by show 2<=cx;decide,_,t2,rfl⟩,[.int i s.toks,u],.cons ⟨s.toks,rfl⟩ (.cons ru .nil),⟨_,t2,rfl,_,rfl⟩⟩
  ·rcases mem_cons.mp hb with rfl|hb
   ·rw[zB (ik lt)];exact(hf _ yv).1
   ·rw[mem_singleton.mp hb,zB (ik ae)];exact(hf _ yv).1
 done:=by
  intro X hP hw hK hc i ze s σ H E I hf ⟨⟨y,he⟩,hj⟩ hg;subst hP hw hK;obtain⟨xs,hq,hx⟩:=hg;obtain⟨aa,rv,p,hz⟩:=I.list hq;have hT:s.heap.IsList a aa.toArray:=p.isList;have hl:=rv.length;exact wA (I.ok.hd hc) he (fun A' Q' E' h0 k=>wpAny_nextOf_list_end h0 hj hT (by simp;omega) k) fun g b=>⟨rfl,I.turnedN (ch:=[e,j]) (t':=s.toks) (fun b' o nb q=>b b' o (fun z=>nb (by simp[z])) q) hf⟩
 self:=fun _ _ _ _ _ st h=>by
  obtain⟨⟨y,he⟩,_⟩:=st;exact ol he h
section
variable {X:Cx}{elts:List Expr}{n:Nat}{tpos:Pos}
theorem BT:iy "enumerate" = some (.type "enumerate"):=by decide +kernel
end
def dZ(i:Nat):List bp->List bp
 | []=>[]
 |d::ds=>.tuple [.int i,d]::dZ (i+1) ds
theorem kU:∀(ds:List bp) (i:Nat),(dZ i ds).length=ds.length
 | [],_=>rfl
 |d::ds,i=>by simp[dZ,kU ds (i+1)]
theorem g8:∀(ds:List bp) (i k:Nat) (d:bp),(dZ i ds)[k]?=some d->∃e,ds[k]?=some e/\d=.tuple [.int ((i+k:Nat):Int),e]
 | [],_,_,_,h=>by simp[dZ]at h
 |c::ds,i,0,d,h=>by
  have e:PyData.tuple [.int i,c]=d:=by simpa[dZ]using h
  exact⟨c,rfl,by rw[<- e];rfl⟩
 |c::ds,i,k+1,d,h=>by
  obtain⟨e,h1,h2⟩:=g8 ds (i+1) k d (by simpa[dZ]using h);exact⟨e,by simpa using h1,by rw[h2];congr 3;omega⟩
end
section
def dIx:D2:=fun x y S R=>asI y fun i=>match x with
 | .d (.tuple ds)=>∃d,atI ds i=some d/\R (.d d) S
 | .d (.list ds)=>∃d,atI ds i=some d/\R (.d d) S
 | .l k=>∃ds,S[k]?=some ds/\∃d,atI ds i=some d/\R (.d d) S
 | .d (.str z)=>z.length<=cx/\∃c,atI z.cps.toList i=some c/\R (.d (.str ⟨#[c]⟩)) S
 |_=>False
theorem Ji:RO tU (fun x y S R=>asS x fun z=>asI y fun i=>z.length<=cx/\∃c,atI z.cps.toList i=some c/\R (.d (.str ⟨#[c]⟩)) S):=fun h o H S x y v u R Q hs hx hy q c=>by
 replace q:=D7 q;obtain⟨z,rfl,q⟩:=q;replace q:=aZ q;obtain⟨i,rfl,hz,k,ek,q⟩:=q;exact⟨z,i,k,f6 hx,aU hy,hz,ek,c o H S _ _ Ex.refl hs (xS _) q⟩
theorem dQ{K:cy}:RO (rIx K) dIx:=fun h o H S x y v u R Q hs hx hy q c=>by
 replace q:=aZ q;obtain⟨i,rfl,q⟩:=q;split at q
 ·exact .inr (.inl (Fv h o H S _ _ v u R Q hs hx hy q c))
 ·exact .inl (yM h o H S _ _ v u R Q hs hx hy ⟨_,rfl,q⟩ c)
 ·exact .inl (yM h o H S _ _ v u R Q hs hx hy q c)
 ·exact .inr (.inr (Ji h o H S _ _ v u R Q hs hx hy q c))
 ·exact q.elim
section
variable {S:Sto}{R:RX}{ds:List bp}{i:Int}{k:Nat}{z:Str}
theorem mG:dIx (.d (.tuple ds)) (.d (.int i)) S R=∃d,atI ds i=some d/\R (.d d) S:=rfl
theorem pB:dIx (.d (.list ds)) (.d (.int i)) S R=∃d,atI ds i=some d/\R (.d d) S:=rfl
theorem m8:dIx (.l k) (.d (.int i)) S R=∃ds,S[k]?=some ds/\∃d,atI ds i=some d/\R (.d d) S:=rfl
end
def B1(K:cy):V->Option Int->Option Int->Hp->VK->Prop:=fun x a b H Q=>mV K x a b H Q\/(t8 K x a b H Q\/A6 x a b H Q)
theorem lO{X:Cx}:SlR X (B1 X.K):=xH.or (xX.or KB)
def fX:D3:=fun x i j S R=>match x with
 | .d (.tuple ds)=>¬(HT.sIx ds.length 0 i=0/\HT.sIx ds.length ds.length j=ds.length)/\R (.d (.tuple (cD ds i j))) S
 | .d (.list ds)=>R (.d (.list (cD ds i j))) S
 | .l k=>∃ds,S[k]?=some ds/\R (.d (.list (cD ds i j))) S
 | .d (.str z)=>z.length<=cx/\R (.d (.str (PySem.Txt.slice z i j))) S
 |_=>False
theorem tK{K:cy}:RL (B1 K) fX:=fun h o H S x v a b R Q hs hx q c=>by
 unfold fX at q;split at q
 ·exact .inr (.inl (JX h o H S _ v a b R Q hs hx q c))
 ·exact .inl (Co h o H S _ v a b R Q hs hx ⟨_,rfl,q⟩ c)
 ·exact .inl (Co h o H S _ v a b R Q hs hx q c)
 ·exact .inr (.inr ⟨_,f6 hx,q.1,c o H S _ _ Ex.refl hs (xS _) q.2⟩)
 ·exact q.elim
section
variable {S:Sto}{R:RX}{ds:List bp}{i j:Option Int}{k:Nat}{z:Str}
theorem nA:fX (.d (.list ds)) i j S R=R (.d (.list (cD ds i j))) S:=rfl
end
def C2(K:cy):R2:=fun x y H Q=>∃a b ys,x=.ref a/\y=.ref b/\SqT K H a []/\SqT K H b ys/\Q (.ref b) H
theorem GE{X:Cx}:OpR X (lc .Add) (C2 X.K):=by
 intro ze s σ H x y v u Q I rx ry h;obtain⟨a,b,ys,rfl,rfl,ha,hb,q⟩:=h;cases rx;cases ry;obtain⟨ab,r1,p1,_⟩:=I.tuple ha;obtain⟨aa,r2,p2,_⟩:=I.tuple hb;cases r1;obtain⟨⟨c1,d1,e1,l1⟩,o1,w1,n1,k1⟩:=id p1;obtain⟨⟨c2,d2,e2,l2⟩,o2,w2,n2,k2⟩:=id p2;simp only at w1 k1 w2 k2;subst w1 k1 w2 k2;exact concat_meets ⟨_,o1,rfl⟩ ⟨_,o2,rfl⟩ noFill_tuple_add seq_tuple_add PySem.F.slot_tuple_add PySem.F.entry_tuple_add (PySem.F.args_tuple_add_2 _ _) (tuple_addW0 a b _ _ n1 n2 d1 d2 l1 l2 yv) ⟨o1,o2,⟨.ref b,H,I,rfl,q⟩⟩
def CJ(K:cy):R2:=fun x y H Q=>rI0 (fun i j=>.int (i+j)) x y H Q\/(lH x y H Q\/(vL K x y H Q\/(C2 K x y H Q\/∃i j,x=.str i/\y=.str j/\i.length+j.length<=cx/\Q (.str (i++j)) H)))
theorem zS{X:Cx}:OpR X (lc .Add) (CJ X.K):=FZ.or (wW.or (JQ.or (GE.or II)))
def aP:D2:=fun x y S R=>match x,y with
 | .d (.int i),.d (.int j)=>R (.d (.int (i+j))) S
 | .d (.tuple ds),.d (.tuple es)=>ds.length+es.length<=1000/\R (.d (.tuple (ds++es))) S
 | .d (.str a),.d (.str b)=>a.length+b.length<=cx/\R (.d (.str (a++b))) S
 |x,y=>asL S x fun ds=>asL S y fun es=>ds.length+es.length<=1000/\R (.d (.list (ds++es))) S
theorem kJ{K:cy}:RO (CJ K) aP:=fun h o H S x y v u R Q hs hx hy q c=>by
 unfold aP at q;split at q
 ·exact .inl (iN h o H S _ _ v u R Q hs hx hy q c)
 ·rename_i ds es;cases ds with
  |cons d ds=>exact .inr (.inr (.inl (HK h o H S _ _ v u R Q hs hx hy ⟨yv,q⟩ c)))
  |nil=>
   obtain⟨a,vs,rfl,ea,l⟩:=eF hx;obtain⟨b,us,rfl,eb,l'⟩:=eF hy;rw[zz.mp l]at ea;exact .inr (.inr (.inr (.inl ⟨a,b,us,rfl,rfl,.of ea,.of eb,c o H S (.d (.tuple es)) _ Ex.refl hs hy q.2⟩)))
 ·exact .inr (.inr (.inr (.inr ⟨_,_,f6 hx,f6 hy,q.1,c o H S _ _ Ex.refl hs (xS _) q.2⟩)))
 ·exact .inr (.inl (Gh h o H S _ _ v u R Q hs hx hy q c))
section
variable {S:Sto}{R:RX}{ds es:List bp}{i j:Int}{k l:Nat}{a b:Str}
theorem lY:aP (.d (.int i)) (.d (.int j)) S R=R (.d (.int (i+j))) S:=rfl
theorem oK:aP (.d (.list ds)) (.d (.list es)) S R↔(ds.length+es.length<=1000/\R (.d (.list (ds++es))) S):=⟨fun⟨_,e,_,e',q⟩=>by cases e;cases e';exact q,fun q=>⟨_,rfl,_,rfl,q⟩⟩
end
def CU:R2:=fun x y H Q=>rI IntMulOk (fun i j=>.int (i*j)) x y H Q\/(yY x y H Q\/yO x y H Q)
theorem cO{X:Cx}:OpR X (lc .Mult) CU:=HA.or (KS.or Eo)
def bJ:D2:=fun x y S R=>asI y fun j=>match x with
 | .d (.int i)=>IntMulOk i j/\R (.d (.int (i*j))) S
 | .d (.str z)=>z.length<=1000/\j<=1000/\-1000<=j/\R (.d (.str (PySem.Txt.mul z j))) S
 | .d (.list ds)=>j<=1000/\-1000<=j/\ds.length*j.toNat<=1000/\R (.d (.list (bu j.toNat ds).flatten)) S
 |_=>False
theorem HasL.rep{H:Hp}{ds:List bp}{vs:List V}(l:HasL H ds vs):∀n:Nat,HasL H (bu n ds).flatten (bu n vs).flatten
 | 0=>zz.mpr rfl
 |n+1=>by
  rw[kq,kq,qp,qp];exact l.append (HasL.rep l n)
theorem tB:RO CU bJ:=fun h o H S x y v u R Q hs hx hy q c=>by
 replace q:=aZ q;obtain⟨j,rfl,q⟩:=q;split at q
 ·exact .inl (qS h o H S _ _ v u R Q hs hx hy q c)
 ·exact .inr (.inl ⟨_,_,f6 hx,aU hy,q.1,q.2.1,q.2.2.1,c o H S _ _ Ex.refl hs (xS _) q.2.2.2⟩)
 ·obtain⟨a,vs,rfl,ea,l⟩:=cB (x:=.d (.list _)) hs rfl hx;obtain⟨h1,h2,h3,q⟩:=q;exact .inr (.inr ⟨a,j,vs,rfl,aU hy,ea,yw,yw,by rw[l.length];exact ko (small1000 h3),hX hs (l.rep j.toNat) c q⟩)
 ·exact q.elim
section
variable {S:Sto}{R:RX}{i j:Int}{z:Str}{ds:List bp}
theorem lM:bJ (.d (.int i)) (.d (.int j)) S R=(IntMulOk i j/\R (.d (.int (i*j))) S):=rfl
end
def Ah:R2:=fun x y H Q=>rI CDivX (fun i j=>.int (i/j)) x y H Q\/rI CDivN (fun i j=>.int (i.fdiv j)) x y H Q
theorem yN{X:Cx}:OpR X (lc .FloorDiv) Ah:=HX.or JJ
def dFd:D2:=fun x y S R=>asI x fun i=>asI y fun j=>(CDivX i j/\R (.d (.int (i/j))) S)\/(CDivN i j/\R (.d (.int (i.fdiv j))) S)
theorem HH:RO Ah dFd:=fun h o H S x y v u R Q hs hx hy q c=>by
 replace q:=aZ q;obtain⟨i,rfl,q⟩:=q;replace q:=aZ q;obtain⟨j,rfl,q⟩:=q;rcases q with q|q
 ·exact .inl (qS (C:=CDivX) (g:=fun i j=>i/j) h o H S _ _ v u R Q hs hx hy q c)
 ·exact .inr (qS (C:=CDivN) (g:=fun i j=>i.fdiv j) h o H S _ _ v u R Q hs hx hy q c)
def uR(S:Sto):XV->Option Bool
 | .d .none=>some false
 | .d (.bool b)=>some b
 | .d (.int i)=>some (i != 0)
 | .d (.str z)=>if z.length<=cx then some ((z.length:Int) != 0)else none
 | .d (.list ds)=>some (!ds.isEmpty)
 | .d (.tuple ds)=>some (!ds.isEmpty)
 | .l k=>(S[k]?).map fun ds=>!ds.isEmpty
 |_=>none
def bG(a:DE):DT:=fun δ S R=>a δ S fun x S1=>∃k,uR S1 x=some k/\R k S1
theorem u3{H:Hp}{ds:List bp}{vs:List V}(l:HasL H ds vs):(!ds.isEmpty)=!vs.isEmpty:=by
 have:=l.length;cases ds<;>cases vs<;>simp_all
theorem eE{K:cy}{ta:TE}{da:DE}(ha:RE ta da):RT (fun σ H Q=>ta σ H fun x H'=>∃k,TruV K x H' k/\Q k H') (bG da):=fun h o H δ σ S R Q he hs q c=>
 ha h o H δ σ S _ _ he hs q fun o1 H1 S1 x v e1 s1 x1 ⟨k,ek,d1⟩=>by
  refine⟨k,?_,c o1 H1 S1 k e1 s1 d1⟩;unfold uR at ek;split at ek
  ·cases ek;rw[(iC (H:=vx h o1 H1)).mp x1];rfl
  ·cases ek;rw[eC x1];rfl
  ·cases ek;rw[aU x1];rfl
  ·split at ek
   ·rename_i hz;cases ek;rw[f6 x1];exact⟨hz,rfl⟩
   ·cases ek
  ·obtain⟨a,vs,rfl,ea,l⟩:=cB (x:=.d (.list _)) s1 rfl x1;cases ek;exact .inl ⟨vs,.of ea,u3 l⟩
  ·obtain⟨a,vs,rfl,ea,l⟩:=eF x1;cases ek;exact .inr (.inl ⟨vs,.of ea,u3 l⟩)
  ·rename_i j _;cases hj:S1[j]? with
   |none=>rw[hj]at ek;cases ek
   |some ds=>
    rw[hj]at ek;cases ek;obtain⟨a,vs,rfl,ea,l⟩:=cB (x:=.l j) s1 hj x1;exact .inl ⟨vs,.of ea,u3 l⟩
  ·cases ek
section
variable {S:Sto}{b:Bool}{i:Int}{ds:List bp}{k:Nat}
theorem nQ:uR S (.d (.bool b))=some b:=rfl
end
def iX:DS:=fun _ _ _=>False
theorem Ja:RS AM iX:=fun h o H δ σ S E D he hs q c=>q.elim
def AA(K:cy)(tl:TE):TI:=fun σ H R=>tl σ H fun x H1=>∃a,x=.ref a/\(((∃xs,SqL K H1 a xs)/\R (Itl K a) H1)\/((∃xs,SqT K H1 a xs)/\R (Itt K a) H1))
theorem bV{X:Cx}{tg:Expr}{l:Expr}{tl:TE}(hl:PE X l tl):PI X tg l (AA X.K tl):=by
 intro ze s σ H R I h;refine thn (hl ze s σ H _ I h) fun v s1 ⟨x,H1,I1,r1,q1⟩=>?_;obtain⟨a,e,⟨⟨xs,hq⟩,q⟩|⟨⟨xs,hq⟩,q⟩⟩:=q1
 ·subst e;cases r1;obtain⟨y,rv,p,hz⟩:=I1.list hq;refine jy p.isList ?_;refine⟨s1.heap.objs.size,[s1.heap.objs.size],_,_,H1,rfl,I1.kept (t':=s1.toks) fun b o e=>bw _ e,Ce a _,⟨_,fj _ rfl,rfl,rfl⟩,fun b hb=>?_,q⟩;have e:b=s1.heap.objs.size:=by simpa using hb
  subst e;exact I1.fpOk (cu _) (I1.hok.fresh (cu _))
 ·subst e;cases r1;obtain⟨y,rv,p,hz⟩:=I1.tuple hq;refine wpAny_pyIter_tuple (show s1.heap.IsTuple a y.toArray from p) ?_;refine⟨s1.heap.objs.size,[s1.heap.objs.size],_,_,H1,rfl,I1.kept (t':=s1.toks) fun b o e=>bw _ e,Hk a _,⟨_,fj _ rfl,rfl,rfl⟩,fun b hb=>?_,q⟩;have e:b=s1.heap.objs.size:=by simpa using hb
  subst e;exact I1.fpOk (cu _) (I1.hok.fresh (cu _))
def bR:XV->Option (List bp)
 | .d (.list ds)=>some ds
 | .d (.tuple ds)=>some ds
 |_=>none
theorem nR{ds:List bp}:bR (.d (.list ds))=some ds:=rfl
theorem lR{ds:List bp}:bR (.d (.tuple ds))=some ds:=rfl
def aW(e:DE):DI:=fun δ S R=>e δ S fun x S1=>∃ds,bR x=some ds/\R ds S1
theorem cN{K:cy}{te:TE}{de:DE}(aa:RE te de):RI (AA K te) (aW de):=fun h o H δ σ S R Q he hs q c=>
 aa h o H δ σ S _ _ he hs q fun o1 H1 S1 x v e1 s1 x1 ⟨ds,ex,d1⟩=>by
  unfold bR at ex;split at ex
  ·cases ex;obtain⟨a,vs,rfl,ea,l⟩:=bU.mp (show Has _ _ _ from x1);have hl:=l.length;refine⟨a,rfl,.inl ⟨⟨vs,.of (zG _ _ ea)⟩,c o1 H1 S1 ds _ e1 s1 ⟨fun i o2 H2 e2 hi=>⟨vs,.of (zG _ _ (e2.vx _ _ ea)),yw⟩,fun i d o2 H2 e2 hi=>?_,fun i d o2 H2 x H3 S2 e2 s2 hi y=>?_⟩ d1⟩⟩
   ·obtain⟨v,ev,_⟩:=l.get hi;exact⟨vs,v,.of (zG _ _ (e2.vx _ _ ea)),ev⟩
   ·obtain⟨v,ev,hv⟩:=l.get hi;have e3:H3=H2:=y.1;subst e3;have ex:=y.2 vs (.of (zG _ _ (e2.vx _ _ ea)));rw[ev]at ex;cases ex;exact⟨Same.refl _,hv.mono e2.vx⟩
  ·cases ex;obtain⟨a,vs,rfl,ea,l⟩:=zL.mp (show Has _ _ _ from x1);have hl:=l.length;refine⟨a,rfl,.inr ⟨⟨vs,.of (zG _ _ ea)⟩,c o1 H1 S1 ds _ e1 s1 ⟨fun i o2 H2 e2 hi=>⟨vs,.of (zG _ _ (e2.vx _ _ ea)),yw⟩,fun i d o2 H2 e2 hi=>?_,fun i d o2 H2 x H3 S2 e2 s2 hi y=>?_⟩ d1⟩⟩
   ·obtain⟨v,ev,_⟩:=l.get hi;exact⟨vs,v,.of (zG _ _ (e2.vx _ _ ea)),ev⟩
   ·obtain⟨v,ev,hv⟩:=l.get hi;have e3:H3=H2:=y.1;subst e3;have ex:=y.2 vs (.of (zG _ _ (e2.vx _ _ ea)));rw[ev]at ex;cases ex;exact⟨Same.refl _,hv.mono e2.vx⟩
  ·cases ex
def lV(dt:DS):DS:=fun E δ S=>dt { E with nx:=fun δ' S'=>∃S0 ds,S'=S0++[ds]/\S.length<=S0.length/\E.nx (δ'.map (frz S0.length ds)) S0 } δ S
end
section
abbrev PN:=List XV->Sto->RX->Prop
def lfN(q:PN):List V->Hp->VK->Prop:=fun vs H Q=>∃h o S xs R,RepS h o H S/\HasXs h o H xs vs/\q xs S R/\Cn h o H R Q
def spN(ps:List Str)(q:PN):Sp:=fun vs H Q _=>vs.length=ps.length/\lfN q vs H Q
theorem HasXs.len{h o:List Addr}{H:Hp}:∀{xs:List XV}{vs:List V},HasXs h o H xs vs->vs.length=xs.length
 | [],vs,q=>by rw[show vs=[]from q];rfl
 |x::xs,vs,⟨v,r,e,_,l⟩=>by rw[e,ff,ff,HasXs.len l]
theorem HasXs.get{h o:List Addr}{H:Hp}:∀{xs:List XV}{vs:List V}{i:Nat}{x:XV},HasXs h o H xs vs->xs[i]?=some x->∃v,vs[i]?=some v/\HasX h o H x v
 | [],_,i,_,_,e=>by simp at e
 |y::xs,vs,0,x,⟨v,r,e1,q,l⟩,e=>by
  rw[lf]at e;cases e;subst e1;exact⟨v,rfl,q⟩
 |y::xs,vs,i+1,x,⟨v,r,e1,q,l⟩,e=>by
  subst e1;rw[lg]at e ⊢;exact HasXs.get l e
theorem Cm{h o:List Addr}{H:Hp}{xs:List XV}{vs:List V}{n:Nat}(q:HasXs h o H xs vs):RepE h o H (xs.map some++bu n none) (vs.map some++bu n none):=by
 have hl:=q.len;refine⟨by simp[hl],fun i x e=>?_⟩;by_cases hi:i<xs.length
 ·rw[gk (by rw[dh];exact hi),gg]at e;obtain⟨y,ey,e⟩:=map_eq_some_iff.mp e;cases e;obtain⟨v,ev,hv⟩:=q.get ey;exact⟨v,by rw[gk (by rw[dh,hl];exact hi),gg,ev];rfl,hv⟩
 ·rw[List.getElem?_append_right (by rw[dh];omega),List.getElem?_replicate]at e;split at e<;>cases e
section
variable {P:fx}{w:io}{K:cy}{mg:Str->Option bn}{base:Heap}{x:Str}{st:Stmt}{N ps:List Str}{k:Nat}
theorem Df.dN{q:PN}(D:Dd K mg x st ps)(S:FnScope N ps (zj st))(n:Nat)(hn:N.length=ps.length+n)
  (hbody:∀(f:Addr) (y:bn) (A:iz) (outer:List Env) (s:bq) (H:Hp) (E:XK),Room k (A.deeper (si x (zj st) s.heap.objs.size f y)) ->
   ∃t dt,PSs (eG CX0 P w K mg base N x (zj st) f y A outer s H E).nox (dL st) t/\RS t dt/\∀xs S R,q xs S R->dt (aJ S.length R) (xs.map some++bu n none) S):Df P w K mg base x ps (k+1) (spN ps q):=by
 refine Df.of D S (fun vs H Q E h=>h.1) fun f y A outer s H vs Q E hr ⟨hl,h,o,S',xs,R,aa,hx,hq,c⟩=>?_;obtain⟨t,dt,h1,h2,h3⟩:=hbody f y A outer s H E hr;refine⟨t,h1,h2 h o H _ _ S' _ _ ?_ aa (h3 xs S' R hq) (eok aa c)⟩;have e:N.length-vs.length=n:=yw
 unfold start;rw[e];exact Cm hx
end
section
variable {X:Cx}{x:Str}{ps:List Str}{k j:Nat}{pos pos':Pos}{e:Expr}{es:List Expr}{t:TA}
theorem zu{q:PN}(D:Df X.prog X.w X.K X.mg X.base x ps k (spN ps q))(hr:Room j X.A)(hk:k<=j)(ha:PA X (e::es) t)(hg:Gl X x:=by rfl)(y:(x==("__debug__":Str))=false:=by decide)
  (q1:fq (e::es) X.env=(false,eval e X.env)::fq es X.env:=by rfl) (q2:((ky pos (fq es X.env)).any fun x=>x.fst)=false:=by rfl):PE X (.Call (.Name x pos') (e::es) [] pos) (fR (spN ps q) [] E0 t):=by
 obtain⟨f,fd,F,hm,kp,hb⟩:=D.ex;exact vJ (dvs:=[]) (ds:=[]) (E:=E0) F (hr.mono hk) hg hm kp hb .nil pass0 ha y q1 q2
end
def aG(m:Nat)(q:PN)(da:DA):DE:=fun δ S R=>da δ S fun xs S1=>∃ds,datas xs=some ds/\ds.length=m/\q (ds.map XV.d) [] (ret0 S1 R)
theorem hxs0{h o:List Addr}{H:Hp}:∀{ds:List bp}{vs:List V},HasXs h o H (ds.map XV.d) vs->HasXs (h++o) [] H (ds.map XV.d) vs
 | [],_,q=>q
 |d::ds,vs,⟨v,r,e,q,l⟩=>⟨v,r,e,hx0 q,hxs0 l⟩
theorem cA{ps:List Str}{q:PN}{m:Nat}{t:TA}{da:DA}(ha:RA t da)(hm:ps.length=m:=by rfl):RE (fR (spN ps q) [] E0 t) (aG m q da):=fun h o H δ σ S R Q he hs w c=>
 ha h o H δ σ S _ _ he hs w fun o1 H1 S1 xs vs e1 s1 x1 ⟨ds,e,hl,d1⟩=>by
  have ex:=iK e;subst ex;have hv:=x1.len;rw[kc];exact⟨by rw[hv,dh,hl,hm],h++o1,[],[],_,_,rep0 s1,hxs0 x1,d1,cn0 s1 (c.pre e1)⟩
def aR(i m:Nat)(q:PN)(da:DA):DE:=fun δ S R=>da δ S fun xs S1=>∃k,xs[i]?=some (.l k)/\∃p,S1[k]?=some p/\∃ds,datas (xs.set i (.d .none))=some ds/\ds.length=m/\q ((ds.map XV.d).set i (.l 0)) [p] (rJ k S1 R)
theorem C6{h o:List Addr}{H:Hp}{k:Nat}{a:Addr}(ea:o[k]?=some a):∀{xs:List XV}{vs:List V}{ds:List bp}{i:Nat},HasXs h o H xs vs->xs[i]?=some (.l k)->datas (xs.set i (.d .none))=some ds->HasXs (h++o.filter (fun b=>b≠a)) [a] H ((ds.map XV.d).set i (.l 0)) vs
 | [],_,_,i,_,e,_=>by simp at e
 |x::xs,vs,ds,0,⟨v,r,e1,q,l⟩,e,ed=>by
  rw[lf]at e;cases e;rw[set_cons_zero]at ed;obtain⟨aa,rfl⟩:∃aa,ds=.none::aa:=by
   unfold datas at ed;cases hd:datas xs with
   |none=>rw[hd]at ed;cases ed
   |some y=>rw[hd]at ed;cases ed;exact⟨y,rfl⟩
  have ab:datas xs=some aa:=by
   unfold datas at ed;cases hd:datas xs with
   |none=>rw[hd]at ed;cases ed
   |some y=>rw[hd]at ed;cases ed;rfl
  have ex:=iK ab;subst ex;obtain⟨b,eb,rfl⟩:=q;rw[ea]at eb;cases eb;exact⟨_,r,e1,⟨a,rfl,rfl⟩,go (ea:=ea) l⟩
 |x::xs,vs,ds,i+1,⟨v,r,e1,q,l⟩,e,ed=>by
  rw[lg]at e;rw[set_cons_succ]at ed
  match x,q,ed with
  | .d d,q,ed=>
   unfold datas at ed;cases hd:datas (xs.set i (.d .none))with
   |none=>rw[hd]at ed;cases ed
   |some aa=>
    rw[hd]at ed;cases ed;exact⟨v,r,e1,hxP ea q,C6 ea l e hd⟩
  | .l j,q,ed=>cases ed
  | .o w,q,ed=>cases ed
  | .x _ _,q,ed=>cases ed
  | .p _ _,q,ed=>cases ed
where
 go {h o:List Addr}{H:Hp}{k:Nat}{a:Addr}{ea:o[k]?=some a}:∀{ds:List bp}{vs:List V},HasXs h o H (ds.map XV.d) vs->HasXs (h++o.filter (fun b=>b≠a)) [a] H (ds.map XV.d) vs
 | [],_,q=>q
 |d::ds,vs,⟨v,r,e,q,l⟩=>⟨v,r,e,hxP ea q,go (ea:=ea) l⟩
theorem E8:∀{xs:List XV}{ds:List bp},datas xs=some ds->xs.length=ds.length:=fun e=>by
 rw[iK e,dh]
theorem jQ{ps:List Str}{q:PN}{i m:Nat}{t:TA}{da:DA}(ha:RA t da)(hm:ps.length=m:=by rfl):RE (fR (spN ps q) [] E0 t) (aR i m q da):=fun h o H δ σ S R Q he hs w c=>
 ha h o H δ σ S _ _ he hs w fun o1 H1 S1 xs vs e1 s1 x1 ⟨k,ek,p,ep,ds,e,hl,d1⟩=>by
  have hv:=x1.len;have hd:=E8 e;rw[length_set]at hd;obtain⟨v,_,a,ea,_⟩:=x1.get ek;rw[kc];exact⟨by rw[hv,hd,hl,hm],_,[a],[p],_,_,rP s1 ea ep,C6 ea x1 ek e,d1,cnP s1 ea ep (c.pre e1)⟩
mutual
def iA:bp->Bool
 | .list _=>false
 | .dict _=>false
 | .tuple ds=>l6 ds
 |_=>true
def l6:List bp->Bool
 | []=>true
 |d::ds=>iA d&&l6 ds
end
mutual
theorem vK{h o:List Addr}{H G:Hp}(sm:Same G H)(hh:∀b,b∈h\/b∈o->∃u:MO,H b=some u.ho):∀(d:bp) (v:V),iA d=true->Has G d v->Has (vx h o H) d v
 | .none,v,_,q=>iC.mpr (iC.mp q)
 | .bool b,v,_,q=>gB.mpr (gB.mp q)
 | .int i,v,_,q=>cQ.mpr (cQ.mp q)
 | .str z,v,_,q=>fN.mpr (fN.mp q)
 | .list ds,v,n,_=>by simp[iA]at n
 | .dict ds,v,n,_=>by simp[iA]at n
 | .tuple ds,v,n,q=>by
  obtain⟨a,vs,e,ea,l⟩:=zL.mp q;have n':l6 ds=true:=by simpa[iA]using n
  have y:=sm _ _ ea;refine zL.mpr ⟨a,vs,e,zC.mpr ⟨fun m=>?_,fun m=>?_,y⟩,Cw sm hh ds vs n' l⟩
  ·obtain⟨u,eu⟩:=hh a (.inl m);rw[y]at eu;cases u<;>cases eu
  ·obtain⟨u,eu⟩:=hh a (.inr m);rw[y]at eu;cases u<;>cases eu
theorem Cw{h o:List Addr}{H G:Hp}(sm:Same G H)(hh:∀b,b∈h\/b∈o->∃u:MO,H b=some u.ho):∀(ds:List bp) (vs:List V),l6 ds=true->HasL G ds vs->HasL (vx h o H) ds vs
 | [],vs,_,q=>zz.mpr (zz.mp q)
 |d::ds,vs,n,q=>by
  obtain⟨v,r,e,hv,l⟩:=zo.mp q;simp only[l6,jw]at n;exact zo.mpr ⟨v,r,e,vK sm hh d v n.1 hv,Cw sm hh ds r n.2 l⟩
end
def pV(S:Sto)(R:RX):RX:=fun y S'=>match y,S' with
 | .d d,[]=>iA d=true/\R (.d d) S
 |_,_=>False
theorem lL{S:Sto}{R:RX}{d:bp}:pV S R (.d d) []=(iA d=true/\R (.d d) S):=rfl
def views(S:Sto):List XV->Option (List bp)
 | []=>some []
 |x::r=>(bN S x).bind fun d=>(views S r).map (d :: ·)
theorem nE{S:Sto}:views S []=some []:=rfl
theorem j0{S:Sto}{x:XV}{r:List XV}:views S (x::r)=(bN S x).bind fun d=>(views S r).map (d :: ·):=rfl
def iZ(m:Nat)(q:PN)(da:DA):DE:=fun δ S R=>da δ S fun xs S1=>∃ds,views S1 xs=some ds/\ds.length=m/\q (ds.map XV.d) [] (pV S1 R)
theorem BV{h o:List Addr}{H:Hp}{S:Sto}(hs:RepS h o H S):RepS h [] H []:=⟨rfl,mw,(fun _ h=>(nomatch h)),hs.hal,(fun _ _ _ e=>(by simp at e))⟩
theorem hxV{h o:List Addr}{H:Hp}{S:Sto}{x:XV}{v:V}{d:bp}(hs:RepS h o H S)(e:bN S x=some d)(q:HasX h o H x v):HasX h [] H (.d d) v:=by
 have sub:Same (vx h o H) (vx h [] H):=fun b u eb=>by
  obtain⟨z1,z2,z3⟩:=zC.mp eb;exact zC.mpr ⟨z1,yv,z3⟩
 unfold bN at e;split at e
 ·cases e;exact Has.mono sub _ _ q
 ·rename_i k;obtain⟨a,ea,rfl⟩:=q;cases hk:S[k]? with
  |none=>rw[hk]at e;cases e
  |some ds=>
   rw[hk]at e;cases e;obtain⟨vs,ev,l⟩:=hs.cont k a ds ea hk;exact bU.mpr ⟨a,vs,rfl,zC.mpr ⟨hs.dis a (bt ea),yv,ev⟩,l.mono sub⟩
 ·cases e
 ·cases e
 ·rename_i k d';obtain⟨t,a,u,rfl,ea,et,hu⟩:=q;cases hk:S[k]? with
  |none=>rw[hk]at e;cases e
  |some ds=>
   rw[hk]at e;cases e;obtain⟨vs,ev,l⟩:=hs.cont k a ds ea hk;exact zL.mpr ⟨t,_,rfl,sub _ _ et,zo.mpr ⟨_,_,rfl,bU.mpr ⟨a,vs,rfl,zC.mpr ⟨hs.dis a (bt ea),yv,ev⟩,l.mono sub⟩,zo.mpr ⟨u,_,rfl,Has.mono sub _ _ hu,zz.mpr rfl⟩⟩⟩
theorem uL{h o:List Addr}{H:Hp}{S:Sto}(hs:RepS h o H S):∀{xs:List XV}{vs:List V}{ds:List bp},views S xs=some ds->HasXs h o H xs vs->HasXs h [] H (ds.map XV.d) vs/\vs.length=ds.length
 | [],vs,ds,e,q=>by cases e;exact⟨q,by rw[show vs=[]from q];rfl⟩
 |x::xs,vs,ds,e,⟨v,r,e1,q,l⟩=>by
  rw[j0]at e;cases hd:bN S x with
  |none=>rw[hd]at e;cases e
  |some d=>
   rw[hd,Option.bind_some]at e;cases hr:views S xs with
   |none=>rw[hr]at e;cases e
   |some es=>
    rw[hr]at e;cases e;obtain⟨z1,z2⟩:=uL hs hr l;exact⟨⟨v,r,e1,hxV hs hd q,z1⟩,by rw[e1,ff,ff,z2]⟩
theorem cnV{h o:List Addr}{H:Hp}{S:Sto}{R:RX}{Q:VK}(hs:RepS h o H S)(c:Cn h o H R Q):Cn h [] H (pV S R) Q:=fun o' H' S' y v e s' hy q=>by
 unfold pV at q;split at q
 ·rename_i d;have sH:Same H H':=fun b u eb=>(e.kp b u yv eb).2;have e0:o'=[]:=ie s'.len.symm;subst e0;have aa:=hs.same sH;refine c o H' S (.d d) v (Ex.of_same sH) aa (vK (zG (h:=h) (o:=[])) (fun b m=>?_) d v q.1 hy) q.2;exact m.elim (aa.hal b) (aa.oam b)
 ·exact q.elim
theorem KR{ps:List Str}{q:PN}{m:Nat}{t:TA}{da:DA}(ha:RA t da)(hm:ps.length=m:=by rfl):RE (fR (spN ps q) [] E0 t) (iZ m q da):=fun h o H δ σ S R Q he hs w c=>
 ha h o H δ σ S _ _ he hs w fun o1 H1 S1 xs vs e1 s1 x1 ⟨ds,e,hl,d1⟩=>by
  obtain⟨z1,z2⟩:=uL s1 e x1;rw[kc];exact⟨by rw[z2,hl,hm],h,[],[],_,_,BV s1,z1,d1,cnV s1 (c.pre e1)⟩
end
section
def wY(K:cy):List V->Hp->VK->Prop:=fun xs H Q=>u7 K xs H Q\/∃z,xs=[.str z]/\z.length<=cx/\Q (.int z.length) H
theorem zE{X:Cx}:CallR X (.builtin "len") (wY X.K):=AY.or Ez
def l9(S:Sto):XV->Option Nat
 | .d (.tuple ds)=>some ds.length
 | .d (.list ds)=>some ds.length
 | .l k=>(S[k]?).map rp
 | .d (.str z)=>if z.length<=cx then some z.length else none
 |_=>none
def aS:List XV->Sto->RX->Prop:=fun xs S R=>arg1 xs fun x=>∃n,l9 S x=some n/\R (.d (.int n)) S
theorem kS{K:cy}:RC (wY K) aS:=fun h o H S xs vs R Q hs hx q c=>by
 obtain⟨x,rfl,n,hd,q1⟩:=bT q;unfold l9 at hd;split at hd
 ·cases hd;exact .inl (uA h o H S _ vs R Q hs hx ⟨_,rfl,q1⟩ c)
 ·cases hd;exact .inl (uA h o H S _ vs R Q hs hx ⟨_,rfl,q1⟩ c)
 ·rename_i k;cases hk:S[k]? with
  |none=>rw[hk]at hd;cases hd
  |some ds=>
   rw[hk]at hd;cases hd;exact .inl (uA h o H S _ vs R Q hs hx ⟨ds,hk,q1⟩ c)
 ·split at hd
  ·rename_i hz;cases hd;obtain⟨v,rfl,y⟩:=hxs1 hx;exact .inr ⟨_,by rw[f6 y],hz,c o H S _ _ Ex.refl hs (xI _) q1⟩
  ·cases hd
 ·cases hd
section
variable {S:Sto}{ds:List bp}{k:Nat}{z:Str}
theorem nP:l9 S (.d (.tuple ds))=some ds.length:=rfl
theorem mU:l9 S (.d (.list ds))=some ds.length:=rfl
theorem nZ:l9 S (.l k)=(S[k]?).map rp:=rfl
end
def CY(q:Bool):R2:=fun x y H Q=>∃d e ds,Has H d x/\Has H e y/\gp d=true/\gp (.list ds)=true/\(e=.list ds\/e=.tuple ds)/\Q (.bl (if q then !ds.any (fun y=>om y d)else ds.any (fun y=>om y d))) H
theorem KD{ds:List bp}(h:gp (.list ds)=true):lw ds=true/\px ds<=63:=by
 have h1:=jb h;have h2:=SeqAt.depth_of_shaped h;simp only[oq,PyData.depth]at h1 h2;exact⟨h1,yw⟩
theorem HV{X:Cx}(hu:X.A.units+64<cLine):OpR X (jg .NotIn) (CY true):=by
 intro ze s σ H x y v u Q I rx ry h;obtain⟨d,e,ds,hd,he,sd,se,ee,q⟩:=h;obtain⟨s1,s2⟩:=KD se;obtain⟨as,q1⟩:=Has.reads I d x v hd (jb sd) rx;have hm:X.A.units+1+min (px ds) d.depth<cLine:=by
  have:=Nat.min_le_left (px ds) d.depth;omega
 rcases ee with rfl|rfl
 ·obtain⟨bs,q2⟩:=Has.reads I (.list ds) y u he (by simpa only[oq]using s1) ry;exact SeqAt.notIn_list_reads q2 q1 s1 (jb sd) hm ⟨.bl _,H,I,rfl,q⟩
 ·obtain⟨bs,q2⟩:=Has.reads I (.tuple ds) y u he (by simpa only[oq]using s1) ry;exact SeqAt.notIn_tuple_reads q2 q1 s1 (jb sd) hm ⟨.bl _,H,I,rfl,q⟩
def Ct:R2:=fun x y H Q=>CY true x y H Q\/∃i j,x=.str i/\y=.str j/\Q (.bl (!(!(Builtin.Str.occurrences j i 0 j.length 1).isEmpty))) H
theorem IH{X:Cx}(hu:X.A.units+64<cLine):OpR X (jg .NotIn) Ct:=(HV hu).or Fz
def dIn:D2:=fun x y S R=>match y with
 | .d (.str b)=>asS x fun a=>R (.d (.bool (!(Builtin.Str.occurrences b a 0 b.length 1).isEmpty))) S
 |y=>∃d,bN S x=some d/\∃ds,asQ S y=some ds/\gp d=true/\gp (.list ds)=true/\R (.d (.bool (ds.any fun y=>om y d))) S
def sJ:D2:=fun x y S R=>match y with
 | .d (.str b)=>asS x fun a=>R (.d (.bool (!(!(Builtin.Str.occurrences b a 0 b.length 1).isEmpty)))) S
 |y=>∃d,bN S x=some d/\∃ds,asQ S y=some ds/\gp d=true/\gp (.list ds)=true/\R (.d (.bool (!ds.any fun y=>om y d))) S
theorem EU{h o:List Addr}{H:Hp}{S:Sto}{x:XV}{v:V}{ds:List bp}(hs:RepS h o H S)(e:asQ S x=some ds)(q:HasX h o H x v):∃e,Has H e v/\(e=.list ds\/e=.tuple ds):=by
 unfold asQ at e;split at e
 ·cases e;exact⟨_,f8 (x:=.d _) hs rfl q,.inr rfl⟩
 ·cases e;exact⟨_,f8 (x:=.d _) hs rfl q,.inl rfl⟩
 ·rename_i k;exact⟨.list ds,f8 (x:=.l k) hs (by show (S[k]?).map sj=_;rw[e];rfl) q,.inl rfl⟩
 ·cases e
theorem JL:RO Ct sJ:=fun h o H S x y v u R Q hs hx hy q c=>by
 unfold sJ at q;split at q
 ·replace q:=D7 q;obtain⟨a,rfl,q⟩:=q;exact .inr ⟨_,_,f6 hx,f6 hy,c o H S _ _ Ex.refl hs (xB _) q⟩
 ·obtain⟨d,e1,ds,e2,s1,s2,q⟩:=q;obtain⟨e,he,ee⟩:=EU hs e2 hy;exact .inl ⟨d,e,ds,f8 hs e1 hx,he,s1,s2,ee,c o H S _ _ Ex.refl hs (xB _) q⟩
section
variable {S:Sto}{ds:List bp}{k:Nat}{a b:Str}{x:XV}{R:RX}
theorem lT:dIn x (.d (.tuple ds)) S R↔∃d,bN S x=some d/\gp d=true/\gp (.list ds)=true/\R (.d (.bool (ds.any fun y=>om y d))) S:=⟨fun⟨d,e,_,e',q⟩=>by cases e';exact⟨d,e,q⟩,fun⟨d,e,q⟩=>⟨d,e,_,rfl,q⟩⟩
theorem mR:sJ x (.d (.list ds)) S R↔∃d,bN S x=some d/\gp d=true/\gp (.list ds)=true/\R (.d (.bool (!ds.any fun y=>om y d))) S:=⟨fun⟨d,e,_,e',q⟩=>by cases e';exact⟨d,e,q⟩,fun⟨d,e,q⟩=>⟨d,e,_,rfl,q⟩⟩
end
section
variable {X:Cx}{elts:List Expr}{n:Nat}{tpos:Pos}
def yK(K:cy)(ta:TA):TI:=fun σ H R=>ta σ H fun vs H1=>∃a,vs=[.ref a]/\(((∃xs,SqT K H1 a xs)/\R (Ite (SqT K) a) H1)\/((∃xs,SqL K H1 a xs)/\R (Ite (SqL K) a) H1))
theorem lP{a:Expr}{ta:TA}{p pos:Pos}(hg:Gl X "enumerate")(hm:X.mg "enumerate" = none)(ha:PA X [a] ta)(hs:fq [a] X.env=[(false,eval a X.env)]:=by rfl):PI X (.Tuple elts n tpos) (.Call (.Name "enumerate" p) [a] [] pos) (yK X.K ta):=by
 intro ze s σ H R I h;refine Call_ (eO I hg hm BT (km (thn (ha pos ze s σ H _ I h) fun us s1 ⟨vs,H1,I1,r1,q1⟩=>?_) hs rfl));obtain⟨b,e,⟨⟨xs,hq⟩,q⟩|⟨⟨xs,hq⟩,q⟩⟩:=q1
 ·subst e;cases r1 with
  |cons r rr=>
   cases rr;cases r;obtain⟨y,rv,pl,hz⟩:=I1.tuple hq;refine JI (show s1.heap.IsTuple b y.toArray from pl) fun g he hj k=>?_;refine ol (s:={ s1 with heap:=g }) he ?_
   have I2:Inv X ze σ H1 { s1 with heap:=g }:=I1.kept (t':=s1.toks) k;refine⟨s1.heap.objs.size+1,[s1.heap.objs.size+1,s1.heap.objs.size],_,_,H1,rfl,I2,HD b _ _ (succ_ne_self _),⟨⟨_,he⟩,hj⟩,fun c hc=>?_,q⟩;rcases mem_cons.mp hc with rfl|hc
   ·exact I1.fpOk (le_succ _) (I1.hok.fresh (le_succ _))
   ·rw[mem_singleton.mp hc];exact I1.fpOk (cu _) (I1.hok.fresh (cu _))
 ·subst e;cases r1 with
  |cons r rr=>
   cases rr;cases r;obtain⟨y,rv,pl,hz⟩:=I1.list hq;refine call_enumerate_list pl.isList fun g he hj _ k=>?_;refine ol (s:={ s1 with heap:=g }) he ?_
   have I2:Inv X ze σ H1 { s1 with heap:=g }:=I1.kept (t':=s1.toks) k;refine⟨s1.heap.objs.size+1,[s1.heap.objs.size+1,s1.heap.objs.size],_,_,H1,rfl,I2,GM b _ _ (succ_ne_self _),⟨⟨_,he⟩,hj⟩,fun c hc=>?_,q⟩;rcases mem_cons.mp hc with rfl|hc
   ·exact I1.fpOk (le_succ _) (I1.hok.fresh (le_succ _))
   ·rw[mem_singleton.mp hc];exact I1.fpOk (cu _) (I1.hok.fresh (cu _))
end
def dX(a:DA):DI:=fun δ S R=>a δ S fun xs S1=>arg1 xs fun x=>∃ds,bR x=some ds/\R (dZ 0 ds) S1
theorem r9{K:cy}{ta:TA}{da:DA}(ha:RA ta da):RI (yK K ta) (dX da):=fun h o H δ σ S R Q he hs q c=>
 ha h o H δ σ S _ _ he hs q fun o1 H1 S1 xs vs e1 s1 x1 d0=>by
  obtain⟨x,rfl,ds,hd,d1⟩:=bT d0;obtain⟨v,rfl,hv⟩:=hxs1 x1;have aa:∀{Sq:Hp->Addr->List V->Prop}{a:Addr}{ws:List V},(∀{o2 H2},ExH h o1 H1 o2 H2->Sq H2 a ws)->HasL (vx h o1 H1) ds ws->WalkX h o1 H1 (Ite Sq a) (dZ 0 ds):=by
   intro Sq a ws ab l;have hl:=l.length;refine⟨fun i o2 H2 e2 hi=>⟨ws,ab e2,by rw[kU]at hi;omega⟩,fun i d o2 H2 e2 hi=>?_,fun i d o2 H2 x H3 S2 e2 s2 hi y=>?_⟩
   ·obtain⟨e,h1,rfl⟩:=g8 ds 0 i d hi;obtain⟨u,eu,_⟩:=l.get h1;exact⟨ws,u,ab e2,eu⟩
   ·obtain⟨e,h1,rfl⟩:=g8 ds 0 i d hi;obtain⟨u,eu,hu⟩:=l.get h1;obtain⟨p,v,hp,rfl,rfl,hy⟩:=y;have ev:=hy ws (ab e2);rw[eu]at ev;cases ev;refine⟨Same.laid hp,zL.mpr ⟨p,_,rfl,s2.laid hp,zo.mpr ⟨_,_,rfl,?_,zo.mpr ⟨_,_,rfl,(hu.mono e2.vx).mono (mY (Same.laid hp)),zz.mpr rfl⟩⟩⟩⟩;rw[zero_add];exact cQ.mpr rfl
  unfold bR at hd;split at hd
  ·cases hd;obtain⟨a,ws,rfl,ea,l⟩:=bU.mp (show Has (vx h o1 H1) (.list ds) v from hv);exact⟨a,rfl,.inr ⟨⟨ws,.of (zG _ _ ea)⟩,c o1 H1 S1 _ _ e1 s1 (aa (fun e2=>.of (zG _ _ (e2.vx _ _ ea))) l) d1⟩⟩
  ·cases hd;obtain⟨a,ws,rfl,ea,l⟩:=zL.mp (show Has (vx h o1 H1) (.tuple ds) v from hv);exact⟨a,rfl,.inl ⟨⟨ws,.of (zG _ _ ea)⟩,c o1 H1 S1 _ _ e1 s1 (aa (fun e2=>.of (zG _ _ (e2.vx _ _ ea))) l) d1⟩⟩
  ·cases hd
def mS:XV->List XV->Sto->RX->Prop:=fun x xs S R=>∃k,x=.l k/\∃ds,S[k]?=some ds/\xs=[]/\∃d,ds[ds.length-1]?=some d/\R (.d d) (S.set k ds.dropLast)
def fK(i:Nat)(f:Int->Int->Int)(e:DE):DS:=fun E δ S=>∃x,δ[i]?=some (some x)/\asI x fun n=>e δ S fun y S1=>asI y fun m=>E.nx (δ.set i (some (.d (.int (f n m))))) S1
theorem Hx{i:Nat}{f:Int->Int->Int}{te:TE}{de:DE}(aa:RE te de):RS (AU i te (ipI f)) (fK i f de):=fun h o H δ σ S E D he hs ⟨x,ex,q⟩ c=>by
 replace q:=aZ q;obtain⟨n,rfl,q⟩:=q;obtain⟨v,ev,hv⟩:=he.get i _ ex;refine⟨v,ev,aa h o H δ σ S _ _ he hs q fun o1 H1 S1 y u e1 s1 y1 d1=>?_⟩;replace d1:=aZ d1;obtain⟨m,rfl,d1⟩:=d1;exact⟨n,m,aU hv,aU y1,c.nx o1 H1 _ S1 _ e1 ((he.mono e1).set (xI _)) s1 d1⟩
abbrev JN (a:Addr) (m:Nat):DEnds:={ nx:=fun δ _=>δ[0]?=some (some (.o (.ref a)))/\δ.length=m+1,ct:=fun δ _=>δ[0]?=some (some (.o (.ref a)))/\δ.length=m+1,rt:=fun _ _=>False }
abbrev ED (a:Addr) (m:Nat):DEnds:={ nx:=fun δ _=>δ[0]?=some (some (.o (.ref a)))/\δ.length=m+1,rt:=fun _ _=>False }
section
variable {a:Addr}{m:Nat}{t1 t2 t3 t4 u:TS}{dt:DS}{D:Ends}{σ:St}{H:Hp}
theorem Ki(ht:RS (cX t1 t2) dt)(h0:σ[0]?=some (some (.ref a)))(hl:σ.length=m+1)(go:dt (ED a m) (some (.o (.ref a))::bu m none) [])
  (next:∀(σ:St) (H1:Hp),σ[0]?=some (some (.ref a))->σ.length=m+1->Same H H1->u D σ H1):cX t1 (cX t2 u) D σ H:=JM (t:=cX t1 t2) ht h0 hl go next
end
end
section
open Sem (wp)
def uH:List bp->List bp->List bp
 |d::ds,e::es=>.tuple [d,e]::uH ds es
 |_,_=>[]
def mO(a:DA):DI:=fun δ S R=>a δ S fun xs S1=>arg2 xs fun x y=>∃ds,bR x=some ds/\∃es,bR y=some es/\R (uH ds es) S1
end
section
open Sem (wp)
def eT(ns:List Int):bp:=.tuple (ns.map cf)
section
variable {S:Sto}{P:Sto->List bp->Prop}{a b c d:List bp}{x:List bp}
theorem gW{S0:Sto}:(∃T ds,S0++[x]=T++[ds]/\P T ds)↔P S0 x:=by
 constructor
 ·rintro⟨T,ds,e,q⟩;obtain⟨rfl,e2⟩:=List.append_inj' e rfl;cases e2;exact q
 ·exact fun q=>⟨S0,x,rfl,q⟩
theorem pC:(∃T ds,[a]=T++[ds]/\P T ds)↔P [] a:=gW (S0:=[])
theorem oH:(∃T ds,[a,b]=T++[ds]/\P T ds)↔P [a] b:=gW (S0:=[a])
theorem mQ:(∃T ds,[a,b,c]=T++[ds]/\P T ds)↔P [a,b] c:=gW (S0:=[a,b])
end
section
variable {α:Type}{n:Nat}{g:DG}{tt:DT}{te:DE}{fin:Sto->Prop}{S0:Sto}{caps:XE}
theorem BX{h:α->bp}{f:α->bp}(P:XE->Prop)(hn:S0.length=n)(l:List α)(τ:XE)(hP:P τ)(hl:l.length<=1000)
  (el:∀x∈l,∀ τ acc (R:XE->RX),P τ->(∀ τ',P τ'->R τ' (.d (f x)) (S0++[acc]))->g (.d (h x)) τ (S0++[acc]) fun τ1 S1=>te τ1 S1 (R τ1)) (hf:fin (S0++[l.map f])):aY n g aL te fin (l.map h) τ (S0++[[]]):=by
 have go:∀(l:List α) (acc:List bp) (τ:XE),P τ->acc.length+l.length<=1000->(∀x∈l,∀ τ acc (R:XE->RX),P τ->(∀ τ',P τ'->R τ' (.d (f x)) (S0++[acc]))->g (.d (h x)) τ (S0++[acc]) fun τ1 S1=>te τ1 S1 (R τ1)) ->
   fin (S0++[acc++l.map f])->aY n g aL te fin (l.map h) τ (S0++[acc]):=by
  intro l;induction l with
  |nil=>intro acc τ _ _ _ h;rw[map_nil,kc]at h;exact h
  |cons x l ih=>
   intro acc τ hP hl el hh;show g (.d (h x)) τ (S0++[acc]) fun τ1 S1=>aL τ1 S1 fun b S2=>if b=true then te τ1 S2 fun x S3=>asD x fun e=>∃acc,S3[n]?=some acc/\acc.length<1000/\aY n g aL te fin (l.map h) τ1 (S3.set n (acc++[e]))else aY n g aL te fin (l.map h) τ1 S2
   simp only[aL,↓reduceIte];rw[ff]at hl;refine el x fu τ acc (fun τ1 x S3=>asD x fun e=>∃acc,S3[n]?=some acc/\acc.length<1000/\aY n g aL te fin (l.map h) τ1 (S3.set n (acc++[e]))) hP fun τ' q=>?_;refine⟨acc,by rw[<- hn,fh],yw,?_⟩;rw[DZ hn];refine ih (acc++[f x]) τ' q (by rw[fv,je];omega) (fun e m=>el e (cz _ m)) ?_;rw[fy];exact hh
 exact go l [] τ hP (by simpa using hl) el (by simpa using hf)
theorem cmp1{h:α->bp}(f:α->bp)(hn:S0.length=n)(l:List α){u:Option XV}(hl:l.length<=1000)
  (el:∀x∈l,∀(u:Option XV) acc (R:XE->RX),(∀u',R (u'::caps) (.d (f x)) (S0++[acc]))->g (.d (h x)) (u::caps) (S0++[acc]) fun τ1 S1=>te τ1 S1 (R τ1)) (hf:fin (S0++[l.map f])):aY n g aL te fin (l.map h) (u::caps) (S0++[[]]):=
 BX (fun τ=>∃u,τ=u::caps) hn l _ ⟨u,rfl⟩ hl (fun x m τ acc R ⟨u,e⟩ k=>by subst e;exact el x m u acc R fun u'=>k _ ⟨u',rfl⟩) hf
theorem cmp2{h:α->bp}(f:α->bp)(hn:S0.length=n)(l:List α){u v:Option XV}(hl:l.length<=1000)
  (el:∀x∈l,∀(u v:Option XV) acc (R:XE->RX),(∀u' v',R (u'::v'::caps) (.d (f x)) (S0++[acc]))->g (.d (h x)) (u::v::caps) (S0++[acc]) fun τ1 S1=>te τ1 S1 (R τ1)) (hf:fin (S0++[l.map f])):aY n g aL te fin (l.map h) (u::v::caps) (S0++[[]]):=
 BX (fun τ=>∃u v,τ=u::v::caps) hn l _ ⟨u,v,rfl⟩ hl (fun x m τ acc R ⟨u,v,e⟩ k=>by subst e;exact el x m u v acc R fun u' v'=>k _ ⟨u',v',rfl⟩) hf
theorem Du{h:α->bp}{f:α->bp}{p:α->Bool}(P:XE->Prop)(hn:S0.length=n)(l:List α)(τ:XE)(hP:P τ)(hl:l.length<=1000)
  (el:∀x∈l,∀ τ acc (R:XE->Bool->Sto->Prop),P τ->(∀ τ',P τ'->(p x=true->∀T:RX,T (.d (f x)) (S0++[acc])->te τ' (S0++[acc]) T)->R τ' (p x) (S0++[acc]))->g (.d (h x)) τ (S0++[acc]) fun τ1 S1=>tt τ1 S1 (R τ1))
  (hf:fin (S0++[(l.filter p).map f])):aY n g tt te fin (l.map h) τ (S0++[[]]):=by
 have go:∀(l:List α) (acc:List bp) (τ:XE),P τ->acc.length+l.length<=1000->(∀x∈l,∀ τ acc (R:XE->Bool->Sto->Prop),P τ->(∀ τ',P τ'->(p x=true->∀T:RX,T (.d (f x)) (S0++[acc])->te τ' (S0++[acc]) T)->R τ' (p x) (S0++[acc]))->g (.d (h x)) τ (S0++[acc]) fun τ1 S1=>tt τ1 S1 (R τ1)) ->
   fin (S0++[acc++(l.filter p).map f])->aY n g tt te fin (l.map h) τ (S0++[acc]):=by
  intro l;induction l with
  |nil=>intro acc τ _ _ _ h;rw[List.filter_nil,map_nil,kc]at h;exact h
  |cons x l ih=>
   intro acc τ hP hl el hh;show g (.d (h x)) τ (S0++[acc]) fun τ1 S1=>tt τ1 S1 fun b S2=>if b=true then te τ1 S2 fun x S3=>asD x fun e=>∃acc,S3[n]?=some acc/\acc.length<1000/\aY n g tt te fin (l.map h) τ1 (S3.set n (acc++[e]))else aY n g tt te fin (l.map h) τ1 S2
   rw[ff]at hl;refine el x fu τ acc (fun τ1 b S2=>if b=true then te τ1 S2 fun x S3=>asD x fun e=>∃acc,S3[n]?=some acc/\acc.length<1000/\aY n g tt te fin (l.map h) τ1 (S3.set n (acc++[e]))else aY n g tt te fin (l.map h) τ1 S2) hP fun τ' q ev=>?_;cases hp:p x with
   |false=>
    rw[List.filter_cons_of_neg (by rw[hp];exact ji)]at hh;exact eQ (ih acc τ' q yw (fun e m=>el e (cz _ m)) hh)
   |true=>
    rw[List.filter_cons_of_pos hp,fw]at hh;refine eJ (ev hp _ ⟨acc,by rw[<- hn,fh],yw,?_⟩);rw[DZ hn];exact ih (acc++[f x]) τ' q (by rw[fv,je];omega) (fun e m=>el e (cz _ m)) (by rw[fy];exact hh)
 exact go l [] τ hP (by simpa using hl) el (by simpa using hf)
theorem cmf1{h:α->bp}(f:α->bp)(p:α->Bool)(hn:S0.length=n)(l:List α){u:Option XV}(hl:l.length<=1000)
  (el:∀x∈l,∀(u:Option XV) acc (R:XE->Bool->Sto->Prop),(∀u',(p x=true->∀T:RX,T (.d (f x)) (S0++[acc])->te (u'::caps) (S0++[acc]) T)->R (u'::caps) (p x) (S0++[acc]))->g (.d (h x)) (u::caps) (S0++[acc]) fun τ1 S1=>tt τ1 S1 (R τ1)) (hf:fin (S0++[(l.filter p).map f])):aY n g tt te fin (l.map h) (u::caps) (S0++[[]]):=
 Du (fun τ=>∃u,τ=u::caps) hn l _ ⟨u,rfl⟩ hl (fun x m τ acc R ⟨u,e⟩ k=>by subst e;exact el x m u acc R fun u' hh=>k _ ⟨u',rfl⟩ hh) hf
theorem cmf2{h:α->bp}(f:α->bp)(p:α->Bool)(hn:S0.length=n)(l:List α){u v:Option XV}(hl:l.length<=1000)
  (el:∀x∈l,∀(u v:Option XV) acc (R:XE->Bool->Sto->Prop),(∀u' v',(p x=true->∀T:RX,T (.d (f x)) (S0++[acc])->te (u'::v'::caps) (S0++[acc]) T)->R (u'::v'::caps) (p x) (S0++[acc]))->g (.d (h x)) (u::v::caps) (S0++[acc]) fun τ1 S1=>tt τ1 S1 (R τ1)) (hf:fin (S0++[(l.filter p).map f])):aY n g tt te fin (l.map h) (u::v::caps) (S0++[[]]):=
 Du (fun τ=>∃u v,τ=u::v::caps) hn l _ ⟨u,v,rfl⟩ hl (fun x m τ acc R ⟨u,v,e⟩ k=>by subst e;exact el x m u v acc R fun u' v' hh=>k _ ⟨u',v',rfl⟩ hh) hf
end
end
section
@[irreducible] def QSs (X:Cx) (st:List Stmt) (t:TS):Prop:=PSs X st t
theorem QSs.out{X:Cx}{st:List Stmt}{t:TS}(h:QSs X st t):PSs X st t:=by unfold QSs at h;exact h
theorem QSs.mk{X:Cx}{st:List Stmt}{t:TS}(h:PSs X st t):QSs X st t:=by unfold QSs;exact h
theorem GR{X:Cx}{b:List Stmt}{R:TS->Prop}(h:∃t,QSs X b t/\R t):∃t,PSs X b t/\R t:=let ⟨t,h1,h2⟩:=h;⟨t,h1.out,h2⟩
@[irreducible] def QA (X:Cx) (es:List Expr) (t:TA):Prop:=PA X es t
theorem QA.out{X:Cx}{es:List Expr}{t:TA}(h:QA X es t):PA X es t:=by unfold QA at h;exact h
theorem QA.mk{X:Cx}{es:List Expr}{t:TA}(h:PA X es t):QA X es t:=by unfold QA;exact h
theorem jW{X:Cx}:QA X [] jD:=QA.mk zd
theorem dW{X:Cx}{e:Expr}{es:List Expr}{te:TE}{t:TA}(ha:PE X e te)(hr:QA X es t)(hs:fq (e::es) X.env=(false,eval e X.env)::fq es X.env:=by rfl):QA X (e::es) (cZ te t):=QA.mk (za ha hr.out hs)
theorem BH{X:Cx}{es:List Expr}{t:TA}{pos:Pos}(h:QA X es t):PE X (.List es pos) (j7 t):=cT h.out
@[irreducible] def QS (X:Cx) (st:Stmt) (t:TS):Prop:=PS X st t
theorem QS.out{X:Cx}{st:Stmt}{t:TS}(h:QS X st t):PS X st t:=by unfold QS at h;exact h
theorem QS.mk{X:Cx}{st:Stmt}{t:TS}(h:PS X st t):QS X st t:=by unfold QS;exact h
theorem Hu{X:Cx}{st:Stmt}{rest:List Stmt}{t u:TS}(h1:QS X st t)(h2:QSs X rest u):QSs X (st::rest) (cX t u):=QSs.mk (zg h1.out h2.out)
end
section
def m5(a:DA):DE:=fun δ S R=>a δ S fun xs S1=>arg2 xs fun x y=>asI x fun i=>asI y fun j=>(j-i).toNat<=1000/\R (.d (.list (fH i (j-i).toNat))) S1
end
end L2
namespace HT
open PySem PyProof.Rows
section
variable {prog:fx}{w:io}{A:iz}{E:bn->bq->Prop}{s:bq}
theorem tup_whole{t sl:Addr}{items:Array bn}{vl vu:bn}{lo hi:Option Int}{Q:bn->bq->Prop}(ht:IsTup s.heap t items)(hs:s.heap.IsSliceOf sl vl vu .none)(pl:IsPart vl lo)(pu:IsPart vu hi)
  (hw:sIx items.size 0 lo=0/\sIx items.size items.size hi=items.size) (h:Q (.ref t) s):cw (model prog w) A (getItem (.ref t) (.ref sl)) Q E s:=by
 obtain⟨os,y,q,ab⟩:=id hs;have aa:s.TypeIs (.ref sl) "slice":=⟨os,y,q⟩;unfold getItem
 try with_reducible refine ic ?_
 first|refine bo (cm ?_)|skip
 refine bo (wpAny_sequenceKey ht.typeIs dz ?_);refine bo (ke (name:=gx "__getitem__") ht.typeIs PyProof.Rows.slot_tuple_getitem
  (ld PyProof.Rows.slot_tuple_getitem ht.typeIs entry_tuple_getitem ?_ (args_tuple_getitem _ _)))
 show cw _ _ (Builtin.Tuple.tupleItemsOf (.ref t) >>= _) _ _ s;refine bo (tupleItemsOf_ ht (bo (wpAny_typeOf aa ?_)));rw[ck dz];refine bo (D5 hs pl pu ?_);rw[hw.1,hw.2];show cw _ _ (if (((0:Nat):Int)==0&&(1:Int)==1&&(items.size-0)==items.size)=true then _ else _) _ _ s;rw[ck yv];unfold Builtin.Tuple.tupleIsExact;refine bo (bo (wpAny_typeOf ht.typeIs (cm ?_)));rw[ck dz];exact bo (on (cm ⟨_,rfl,cm h⟩))
end
end HT
namespace L2
open PySem PySem.Spec PyProof.Rows
section
section
variable {X:Cx}{e ek:Expr}{te tk:TE}{pos p2:Pos}
def CW(K:cy):V->Option Int->Option Int->Hp->VK->Prop:=fun x lo hi H Q=>∃a xs,x=.ref a/\SqT K H a xs /\
 ((HT.sIx xs.length 0 lo=0/\HT.sIx xs.length xs.length hi=xs.length)->Q (.ref a) H)/\∀p,H p=none->Q (.ref p) (upd H p (.tup (dE xs lo hi)))
theorem yJ:SlR X (CW X.K):=by
 intro ze s σ H x v vl vu lo hi sl Q I rx hs pl pu h;obtain⟨a,xs,rfl,hx,hw,q⟩:=h;by_cases z:HT.sIx xs.length 0 lo=0/\HT.sIx xs.length xs.length hi=xs.length
 ·cases rx;obtain⟨aa,r,ht,hz⟩:=I.tuple hx;have y:aa.toArray.size=xs.length:=by rw[df];exact r.length.symm
  refine⟨"tuple",_,PyProof.Rows.slot_tuple_getitem.lookup,ht.typeIs,?_⟩;exact HT.tup_whole ht hs pl pu (by rw[y];exact z) ⟨.ref a,H,I,rfl,hw z⟩
 ·exact xX ze s σ H _ v vl vu lo hi sl Q I rx hs pl pu ⟨a,xs,rfl,hx,z,q⟩
end
def gY:D3:=fun x i j S R=>asT x fun ds=>R (.d (.tuple (cD ds i j))) S
theorem Ke{α:Type}(xs:List α)(lo hi:Option Int)(h:HT.sIx xs.length 0 lo=0/\HT.sIx xs.length xs.length hi=xs.length):cD xs lo hi=xs:=by
 unfold cD;rw[h.1,h.2];simp
theorem vE{K:cy}:RL (CW K) gY:=fun h o H S x v a b R Q hs hx q c=>by
 replace q:=jJ q;obtain⟨ds,rfl,q⟩:=q;obtain⟨p,vs,rfl,ea,l⟩:=eF hx;refine⟨p,vs,rfl,.of ea,fun z=>?_,jT hs (l.cut a b) c q⟩;rw[l.length]at z;rw[Ke ds a b z]at q;exact c o H S _ _ Ex.refl hs hx q
end
section
def w6:R2:=fun x y H Q=>∃a b,x=.bl a/\y=.bl b/\Q (.bl (decide (a=b))) H
def Cr:R2:=fun x y H Q=>∃a b,x=.bl a/\y=.bl b/\Q (.bl (!decide (a=b))) H
theorem JD{X:Cx}:OpR X (jg .Is) w6:=by
 intro ze s σ H x y v u Q I rx ry h;obtain⟨a,b,rfl,rfl,q⟩:=h;cases rx;cases ry;exact wpAny_is_plain (by cases a<;>cases b<;>rfl) (n9 I q (by cases a<;>cases b<;>rfl))
theorem IG{X:Cx}:OpR X (jg .IsNot) Cr:=by
 intro ze s σ H x y v u Q I rx ry h;obtain⟨a,b,rfl,rfl,q⟩:=h;cases rx;cases ry;exact wpAny_isNot_plain (by cases a<;>cases b<;>rfl) (n9 I q (by cases a<;>cases b<;>rfl))
def iR:D2:=fun x y S R=>asB x fun a=>asB y fun b=>R (.d (.bool (decide (a=b)))) S
def iS:D2:=fun x y S R=>asB x fun a=>asB y fun b=>R (.d (.bool (!decide (a=b)))) S
theorem E6:RO w6 iR:=fun h o H S x y v u R Q hs hx hy q c=>by
 replace q:=fU q;obtain⟨a,rfl,q⟩:=q;replace q:=fU q;obtain⟨b,rfl,q⟩:=q;exact⟨a,b,eC hx,eC hy,c o H S _ _ Ex.refl hs (xB _) q⟩
theorem Dn:RO Cr iS:=fun h o H S x y v u R Q hs hx hy q c=>by
 replace q:=fU q;obtain⟨a,rfl,q⟩:=q;replace q:=fU q;obtain⟨b,rfl,q⟩:=q;exact⟨a,b,eC hx,eC hy,c o H S _ _ Ex.refl hs (xB _) q⟩
end
section
@[irreducible] def QE (X:Cx) (e:Expr) (t:TE):Prop:=PE X e t
theorem QE.out{X:Cx}{e:Expr}{t:TE}(h:QE X e t):PE X e t:=by unfold QE at h;exact h
theorem QE.mk{X:Cx}{e:Expr}{t:TE}(h:PE X e t):QE X e t:=by unfold QE;exact h
theorem J9{X:Cx}{e:Expr}{es:List Expr}{te:TE}{t:TA}(ha:QE X e te)(hr:QA X es t)(hs:fq (e::es) X.env=(false,eval e X.env)::fq es X.env:=by rfl):QA X (e::es) (cZ te t):=QA.mk (za ha.out hr.out hs)
theorem qN{X:Cx}{es:List Expr}{t:TA}{k:Nat}{pos:Pos}(h:QA X es t):QE X (.Tuple es k pos) (vX t):=QE.mk (bC h.out)
section
variable {X:Cx}{es l l':List Expr}{te:TE}{t:TA}{k:Nat}{p:Pos}{c:Const}{x:Str}{ks:List (Option Expr)}
theorem t9(ha:QE X (.Tuple l k p) te)(hr:QA X es t):QA X (.Tuple l k p::es) (cZ te t):=QA.mk (za ha.out hr.out rfl)
theorem mL(ha:QE X (.Constant c k p) te)(hr:QA X es t):QA X (.Constant c k p::es) (cZ te t):=QA.mk (za ha.out hr.out rfl)
end
end
end L2
namespace L2
open PySem PySem.Spec PySem.Calls PyProof.Rows PySem.W
section
variable {prog:fx}{w:io}{A:iz}{E:bn->bq->Prop}{s:bq}
def KeptBut(a:Addr)(h h':Heap):Prop:=∀b o,b≠a->h.get? b=some o->h'.get? b=some o
end
end L2
namespace L2
open PySem PySem.Spec PyProof.Rows
section
def mC:D2:=fun x y S R=>asT x fun ds=>asT y fun es=>∃ns,ds=ns.map cf/\∃ms,es=ms.map cf/\R (.d (.bool (HT.lexLt ns ms))) S
end
section
theorem uN:∀{vs:List bn}{ns:List Int},oo vs ns->vs.length=ns.length
 |_,_,.nil=>rfl
 |_,_,.cons n t h=>by simp[uN h]
end
section
theorem K1:fillsNumberSlot (.type "tuple") "mul" = pure false:=
 PySem.fillsNumberSlot_seq (id:="tuple.__mul__") (r:=some (.builtin "tuple.__rmul__")) F.slot_tuple_mul.lookup (by decide +kernel) F.slot_tuple_rmul.lookup (by decide +kernel)
theorem JG:seqRepeat? (.type "tuple")=pure (some (.builtin "tuple.__mul__")):=by
 unfold seqRepeat?;rw[PySem.seqSlot_of (T:="tuple") (name:="__mul__") (id:="tuple.__mul__") F.slot_tuple_mul.lookup (by decide +kernel),PySem.seqSlot_of (T:="tuple") (name:="__rmul__") (id:="tuple.__rmul__") F.slot_tuple_rmul.lookup (by decide +kernel)];rfl
theorem HR(a:Int)(t:Tok)(l:Addr)(items:Array bn)(n:Nat)(d:Option Addr)(sl:Array (Option bn)):
  Meets (rc.«int.__rmul__» ⟨[.int a t,.ref l],[]⟩) (fun _ R s=>s.heap.get? l=some { cls:=.type "tuple",dict:=d,data:=.seq items n,slots:=sl }/\R (.ok (.ret Value.notImplemented)) s):=
 .of_wp fun prog w A R s h=>by obtain⟨hp,g,d,tk,os⟩:=s;obtain⟨hl,h⟩:=h;wp_walk;exact⟨_,rfl,h⟩
theorem Ir(l:Addr)(items:Array bn)(n:Nat)(d:Option Addr)(sl:Array (Option bn))(u:Tok):
  Meets (rc.«tuple.__mul__» ⟨[.ref l,.int 1 u],[]⟩) (fun _ R s=>s.heap.get? l=some { cls:=.type "tuple",dict:=d,data:=.seq items n,slots:=sl }/\R (.ok (.ret (.ref l))) s):=
 .of_wp fun prog w A R s h=>by
  obtain⟨hp,g,d,tk,os⟩:=s;obtain⟨hl,h⟩:=h
  wp_walk
  exact⟨_,rfl,h⟩
theorem Gk(l:Addr)(items:Array bn)(n:Nat)(d:Option Addr)(sl:Array (Option bn))(u:Tok)(x:Int)(hx:x<=0)(q:-(2 ^ 63)<=x)(hi:items.isEmpty=false):
  Meets (rc.«tuple.__mul__» ⟨[.ref l,.int x u],[]⟩) (fun _ R s=>s.heap.get? l=some { cls:=.type "tuple",dict:=d,data:=.seq items n,slots:=sl }/\R (.ok (.ret (.ref s.heap.objs.size))) { s with heap:=s.heap.push { cls:=.type "tuple",data:=.seq #[] } }):=
 .of_wp fun prog w A R s h=>by
  obtain⟨hp,g,d,tk,os⟩:=s;obtain⟨hl,h⟩:=h;have c0:(decide (x < -2 ^ 63)||decide (x≥2 ^ 63))=false:=by simp;omega
  have c1:(items.isEmpty||x==1)=false:=by rw[hi];simp;omega
  have c2:(decide (x<=0)||items.isEmpty)=true:=by rw[gq hx];rfl
  wp_walk
  refine nz (by rw[c0];rfl) ?_
  wp_walk
  refine nz (by rw[c1];rfl) ?_;refine wpAny_ite_true (by rw[c2];rfl) ?_
  wp_walk
  exact⟨_,rfl,h⟩
theorem K7(l:Addr)(items:Array bn)(n:Nat)(d:Option Addr)(sl:Array (Option bn))(u:Tok)(x:Int)(hx:2<=x)(q:x<2 ^ 63)(hi:items.isEmpty=false)(hz:items.size*x.toNat<=cx):
  Meets (rc.«tuple.__mul__» ⟨[.ref l,.int x u],[]⟩) (fun _ R s=>s.heap.get? l=some { cls:=.type "tuple",dict:=d,data:=.seq items n,slots:=sl }/\R (.ok (.ret (.ref s.heap.objs.size))) { s with heap:=s.heap.push { cls:=.type "tuple",data:=.seq ((bu x.toNat items).foldl (· ++ ·) #[]) } }):=
 .of_wp fun prog w A R s h=>by
  obtain⟨hp,g,d,tk,os⟩:=s;obtain⟨hl,h⟩:=h;have c0:(decide (x < -2 ^ 63)||decide (x≥2 ^ 63))=false:=by simp;omega
  have c1:(items.isEmpty||x==1)=false:=by rw[hi];simp;omega
  have c2:(decide (x<=0)||items.isEmpty)=false:=by rw[hi,gn yw];rfl
  have ez:(items.size:Int)*x=(items.size*x.toNat:Nat):=by rw[Int.natCast_mul,Int.toNat_of_nonneg yw]
  have c3:¬((items.size:Int)*x>(2 ^ 63-1)/8):=by
   rw[ez];have h1:(cx:Int)<=(2 ^ 63-1)/8:=by decide
   have h2:((items.size*x.toNat:Nat):Int)<=(cx:Int):=Int.ofNat_le.mpr hz;exact fun h3=>absurd (Int.le_trans h2 h1) (Int.not_le.mpr h3)
  have c4:Builtin.Tuple.tupleTooMany ((items.size:Int)*x)=false:=by
   unfold Builtin.Tuple.tupleTooMany;rw[ez];exact gn (Int.not_lt.mpr (Int.ofNat_le.mpr hz))
  have c5:((bu x.toNat items).foldl (· ++ ·) #[]).size<=cx:=by
   have:=rZ items.toList x.toNat [];simp only[Array.toArray_toList]at this;rw[nil_append]at this;rw[this,df,vM,li,mul_comm];exact hz
  wp_walk
  refine nz (by rw[c0];rfl) ?_
  wp_walk
  refine nz (by rw[c1];rfl) ?_;refine nz (by rw[c2];rfl) ?_;refine nz (gn c3) ?_;refine nz (by rw[c4];rfl) ?_
  wp_walk
  exact⟨_,rfl,h⟩
def AJ(K:cy):R2:=fun x y H Q=>∃a k xs,x=.ref a/\y=.int k/\SqT K H a xs/\xs≠[]/\-1000<=k/\k<=1000/\xs.length*k.toNat<=1000 /\
 (k=1->Q (.ref a) H)/\(k≠1->∀p,H p=none->Q (.ref p) (upd H p (.tup (bu k.toNat xs).flatten)))
theorem Iv{X:Cx}:OpR X (lc .Mult) (AJ X.K):=by
 intro ze s σ H x y v u Q I rx ry h;obtain⟨a,k,xs,rfl,rfl,ha,hx,h1,h2,hz,q1,q2⟩:=h;cases rx;obtain⟨t,rfl⟩:=ry;obtain⟨aa,r1,p1,_⟩:=I.tuple ha;have ac:aa≠[]:=fun z=>hx (r1.nil_iff.mp z);have ab:aa.toArray.isEmpty=false:=by
  cases aa with
  |nil=>exact absurd rfl ac
  |cons _ _=>rfl
 have hl:aa.length=xs.length:=r1.length.symm;obtain⟨⟨cls,dd,data,sl⟩,ho,hc,n,hd⟩:=id p1;simp only at hc hd;subst hc hd;have ae:aa.toArray.size*k.toNat<=cx:=by
  rw[df,hl];exact ko (small1000 hz)
 refine wpAny_binaryOp_repeat_ref (T:="tuple") (U:="int") dz ⟨_,ho,rfl⟩ (fun s'=>typeIs_int s' k t) K1 F.fills_int_mul F.slot_int_rmul JG F.slot_int_index.lookup
  (qj F.slot_int_rmul (typeIs_int s k t) F.entry_int_rmul (F.args_int_rmul_2 _ _) (HR k t a aa.toArray n dd sl) ⟨ho,rfl,⟨_,ho,rfl⟩,?_⟩)
 by_cases hk:k=1
 ·subst hk;exact qj F.slot_tuple_mul ⟨_,ho,rfl⟩ F.entry_tuple_mul (F.args_tuple_mul_2 _ _) (Ir a aa.toArray n dd sl t) ⟨ho,.ref a,H,I,rfl,q1 rfl⟩
 ·have fin:∀us,us=(bu k.toNat aa).flatten->EP X ze σ Q (.ref s.heap.objs.size) { s with heap:=s.heap.push { cls:=.type "tuple",data:=.seq us.toArray } }:=fun us e=>by
   refine⟨.ref s.heap.objs.size,_,I.laid (t':=s.toks) (o:=.tup (bu k.toNat xs).flatten) (fun b ob q=>bw _ q) (cu _) ?_,rfl,q2 hk _ (I.hok.fresh (cu _))⟩;refine⟨⟨by rw[vM,mul_comm];exact ko (small1000 hz),_,fj _ rfl,rfl⟩,us,?_,IsTup.new _ _⟩;rw[e];exact r1.rep k.toNat
  by_cases h0:k<=0
  ·refine qj F.slot_tuple_mul ⟨_,ho,rfl⟩ F.entry_tuple_mul (F.args_tuple_mul_2 _ _) (Gk a aa.toArray n dd sl t k h0 yw ab) ⟨ho,?_⟩;have e0:k.toNat=0:=yw
   exact fin [] (by rw[e0];rfl)
  ·refine qj F.slot_tuple_mul ⟨_,ho,rfl⟩ F.entry_tuple_mul (F.args_tuple_mul_2 _ _) (K7 a aa.toArray n dd sl t k yw yw ab ae) ⟨ho,?_⟩;have e1:=rZ aa k.toNat [];rw[nil_append]at e1;have:=fin _ rfl;rw[<- e1]at this;exact this
def iP:D2:=fun x y S R=>asT x fun ds=>asI y fun j=>ds≠[]/\-1000<=j/\j<=1000/\ds.length*j.toNat<=1000/\R (.d (.tuple (bu j.toNat ds).flatten)) S
theorem Gd{K:cy}:RO (AJ K) iP:=fun h o H S x y v u R Q hs hx hy q c=>by
 obtain⟨ds,rfl,q⟩:=jJ q;replace q:=aZ q;obtain⟨j,rfl,hn,h1,h2,hz,q⟩:=q;obtain⟨a,vs,rfl,ea,l⟩:=eF hx;refine⟨a,j,vs,rfl,aU hy,.of ea,?_,h1,h2,by rw[l.length];exact hz,fun e=>?_,fun _=>jT hs (l.rep j.toNat) c q⟩
 ·intro z;have:=l.length;rw[z]at this;exact hn (List.length_eq_zero_iff.mp this.symm)
 ·subst e;have e1:(bu (1:Int).toNat ds).flatten=ds:=by simp
  rw[e1]at q;exact c o H S _ _ Ex.refl hs hx q
end
section
section
variable {prog:fx}{w:io}{A:iz}{E:bn->bq->Prop}{s:bq}
theorem sQ{h h':Heap}{l:Addr}{items:Array bn}(x:h.IsList l items)(k:∀o,h.get? l=some o->h'.get? l=some o):h'.IsList l items:=let ⟨o,ho,r⟩:=x;⟨o,k o ho,r⟩
theorem wT{it t:Addr}{items:Array bn}(ac:t≠it):∀(n i:Nat) (s:bq) (Q:List bn->bq->Prop),s.heap.IsListIter it t i->s.heap.IsList t items->i+n<=items.size ->
  (∀h',h'.IsListIter it t (i+n)->jr it s.heap h'->Q ((items.toList.drop i).take n) { s with heap:=h' })->cw (model prog w) A (draw (.ref it) n) Q E s
 | 0,i,s,Q,hit,_,_,hQ=>by
  show cw _ _ (pure []) Q E s;exact cm (by simpa using hQ s.heap hit (Heap.SameBut.refl ..))
 |n+1,i,s,Q,hit,ht,hle,hQ=>by
  have ab:i<items.size:=yw
  show cw _ _ (pyNext (.ref it) >>= _) Q E s;refine bo (wpAny_pyNext_list_item hit ht (x:=items[i]) (by simp[ab]) fun h₁ aa q=>?_);refine bo (ic (wT ac n (i+1) _ _ aa (sQ ht fun o e=>q.extBut t o ac e) yw fun h₂ y ae=>cm ?_));have hd:items.toList.drop i=items[i]::items.toList.drop (i+1):=by simp[gv,ab]
  have:=hQ h₂ (by rw[show i+(n+1)=i+1+n by omega];exact y) (q.trans ae);rw[hd,List.take_succ_cons]at this;exact this
theorem KF{t:Addr}{items:Array bn}{Q:List bn->bq->Prop}(hh:A.handled=none)(ht:s.heap.IsList t items)
  (hQ:∀h',Heap.ExtBut s.heap.objs.size s.heap h'->Q items.toList { s with heap:=h' }):cw (model prog w) A (unpackItems (.ref t) items.size none) Q E s:=by
 have aa:t≠s.heap.objs.size:=by obtain⟨o,ho,_⟩:=ht;exact ik (gh ho)
 unfold unpackItems;refine bo ?_
 ·unfold notIterableAtAll;refine bo (wpAny_specialOf ht.typeIs PySem.slot_list_iter.lookup ?_);refine cm ?_;simp only[fg,if_false];refine bo (ic (jy ht ?_));have hp:∀o,s.heap.get? t=some o->(s.heap.push { cls:=.type "list_iterator",data:=.fields #[.ref t,.int 0 0] }).get? t=some o:=fun o e=>bw _ e;refine bo (ic (wT aa items.size 0 _ _ ⟨_,fj _ rfl,rfl,rfl⟩ (sQ ht hp) yw fun h₁ ab y=>?_));have q:List.take items.size (List.drop 0 items.toList)=items.toList:=by
   rw[List.drop_zero];exact jt yv
  rw[q];rw[ci yv];have ac:h₁.IsList t items:=sQ ht fun o e=>y.extBut t o aa (hp o e);refine bo (ic (wpAny_pyNext_list_end hh ab ac yv fun h₂ ae=>?_));simp only[Option.isSome_none,fg,if_false];refine cm (hQ h₂ fun b o hb e=>ae b o hb (y.extBut b o hb (bw _ e)))
theorem IY{env:Env}{elts:List Expr}{x1}{pos:Pos}{t:Addr}{items:Array bn}{Q:Unit->bq->Prop}(hh:A.handled=none)(ht:s.heap.IsList t items)
  (hn:(lz elts env).length=items.size) (hstar:(lz elts env).findIdx? (·.1)=none)
  (h:∀h',Heap.ExtBut s.heap.objs.size s.heap h'->cw (model prog w) A (assignInOrder ((lz elts env).map (·.2)) items.toList) Q E { s with heap:=h' }):
  cw (model prog w) A (assign (.Tuple elts x1 pos) env (.ref t)) Q E s:=by
 rw[assign_Tuple];refine bo (wpAny_standAt ?_);unfold unpack;rw[hn,hstar];exact bo (ic (KF hh ht h))
end
def wR(K:cy)(n:Nat)(t:TGs):TG:=fun v σ H Q=>∃a xs,v=.ref a/\SqL K H a xs/\xs.length=n/\t xs σ H Q
theorem K9{X:Cx}{es:List Expr}{k:Nat}{t:TGs}{n:Nat}{pos:Pos}(hc:X.calm=true)(h:PGs X es t)
  (hn:(lz es X.env).length=n:=by rfl) (hst:(lz es X.env).findIdx? (·.1)=none:=by rfl):PG X (.Tuple es k pos) (wR X.K n t):=by
 intro ze s σ H v u Q I r hw;obtain⟨a,xs,e1,hq,hl,hw⟩:=hw;subst e1;cases r;obtain⟨q,rv,ht,hz⟩:=I.list hq;refine IY (I.ok.hd hc) ht.isList (by simp[hn,<- hl,rv.length]) hst fun h' hx=>?_;have I1:Inv X ze σ H { s with heap:=h' }:=I.kept (t':=s.toks) fun b o e=>hx b o (ik (gh e)) e;exact h ze _ σ H xs _ Q I1 (by simpa using rv) hw
def jA(n:Nat)(r:DGs):DG:=fun x δ S N=>asL S x fun ds=>ds.length=n/\r ds δ S N
theorem IJ{K:cy}{n:Nat}{t:TGs}{r:DGs}(h1:RGs t r):RG (wR K n t) (jA n r):=fun h o H δ σ S x v N M he hs hx q c=>by
 obtain⟨ds,hd,hn,q⟩:=q;obtain⟨a,vs,rfl,ea,l⟩:=cB hs hd hx;exact⟨a,vs,rfl,.of ea,by rw[l.length];exact hn,h1 h o H δ σ S ds vs N M he hs l q c⟩
end
end L2
namespace L2
open PySem PySem.Spec PyProof.Rows
section
abbrev EXD:=Addr->List (Str×bp)->Prop
abbrev PX:=List XV->Sto->RX->EXD->Prop
def CnX(h o:List Addr)(H:Hp)(EX:EXD)(E:XK):Prop:=∀o' H' S' C a fs,Ex o H o' H'->RepS h o' H' S'->HasE (vx h o' H') C fs (.ref a)->EX C fs->E (.ref C) (some a) H'
theorem CnX.pre{h o o':List Addr}{H H':Hp}{EX:EXD}{E:XK}(c:CnX h o H EX E)(e:Ex o H o' H'):CnX h o' H' EX E:=fun o2 H2 S2 C a fs e2=>c o2 H2 S2 C a fs (e.trans e2)
def RSx(E:XK)(EX:EXD)(t:TS)(dt:DS):Prop:=∀(h o:List Addr) (H:Hp) (δ:XE) (σ:St) (S:Sto) (En:DEnds) (D:Ends),RepE h o H δ σ->RepS h o H S->dt En δ S->EOk h o H En D->CnX h o H EX E->t D σ H
section
variable {E:XK}{EX:EXD}{t u:TS}{dt du:DS}
theorem JK(ht:RS t dt):RSx E EX t dt:=fun h o H δ σ S En D he hs q c _=>ht h o H δ σ S En D he hs q c
def o8(EX:EXD)(C:Addr):DS:=fun _ _ _=>EX C []
end
end
end L2
namespace L2
open PySem PySem.Spec PyProof.Rows
section
def oR(EX:EXD)(C:Addr)(ns:List Str)(da:DA):DS:=fun _ δ S=>da δ S fun xs _=>∃ds,datas xs=some ds/\ds.length=ns.length/\EX C (ns.zip ds)
end
end L2
namespace L2
open PySem PySem.Spec PyProof.Rows
section
abbrev Phi:=List Addr->List Addr->Hp->Prop
class Stb (Φ:Phi):Prop where
 st:∀{h o o':List Addr}{H H':Hp},Φ h o H->Ex o H o' H'->Φ h o' H'
def REp(Φ:Phi)(t:TE)(dt:DE):Prop:=∀(h o:List Addr) (H:Hp) (δ:XE) (σ:St) (S:Sto) (R:RX) (Q:VK),RepE h o H δ σ->RepS h o H S->dt δ S R->Cn h o H R Q->Φ h o H->t σ H Q
def RTp(Φ:Phi)(t:TT)(dt:DT):Prop:=∀(h o:List Addr) (H:Hp) (δ:XE) (σ:St) (S:Sto) (R:Bool->Sto->Prop) (Q:Bool->Hp->Prop),RepE h o H δ σ->RepS h o H S->dt δ S R ->
 (∀o' H' S' b,Ex o H o' H'->RepS h o' H' S'->R b S'->Q b H')->Φ h o H->t σ H Q
def RAp(Φ:Phi)(t:TA)(dt:DA):Prop:=∀(h o:List Addr) (H:Hp) (δ:XE) (σ:St) (S:Sto) (R:List XV->Sto->Prop) (Q:List V->Hp->Prop),RepE h o H δ σ->RepS h o H S->dt δ S R ->
 (∀o' H' S' xs vs,Ex o H o' H'->RepS h o' H' S'->HasXs h o' H' xs vs->R xs S'->Q vs H')->Φ h o H->t σ H Q
def RIp(Φ:Phi)(w:TI)(di:DI):Prop:=∀(h o:List Addr) (H:Hp) (δ:XE) (σ:St) (S:Sto) (R:List bp->Sto->Prop) (Q:It->Hp->Prop),RepE h o H δ σ->RepS h o H S->di δ S R ->
 (∀o' H' S' ds J,Ex o H o' H'->RepS h o' H' S'->WalkX h o' H' J ds->R ds S'->Q J H')->Φ h o H->w σ H Q
section
variable {Φ:Phi} [Stb Φ] {ta tb te:TE}{da db de:DE}{tl:TA}{dl:DA}{tt tu:TT}{dt du:DT}
theorem cE(a:RE te de):REp Φ te de:=fun h o H δ σ S R Q he hs q c _=>a h o H δ σ S R Q he hs q c
theorem IK(a:RA tl dl):RAp Φ tl dl:=fun h o H δ σ S R Q he hs q c _=>a h o H δ σ S R Q he hs q c
theorem BD{w:TI}{di:DI}(a:RI w di):RIp Φ w di:=fun h o H δ σ S R Q he hs q c _=>a h o H δ σ S R Q he hs q c
theorem pU(ha:REp Φ ta da)(hb:RAp Φ tl dl):RAp Φ (cZ ta tl) (zc da dl):=fun h o H δ σ S R Q he hs q c x=>
 ha h o H δ σ S _ _ he hs q (fun o1 H1 S1 y v e1 s1 x1 d1=>hb h o1 H1 δ σ S1 _ _ (he.mono e1) s1 d1 (fun o2 H2 S2 xs vs e2 s2 x2 d2=>
  c o2 H2 S2 (y::xs) (v::vs) (e1.trans e2) s2 ⟨v,vs,rfl,x1.mono e2,x2⟩ d2) (Stb.st x e1)) x
theorem AN(ha:REp Φ ta da):RTp Φ (pS ta) (dB da):=fun h o H δ σ S R Q he hs q c w=>
 ha h o H δ σ S _ _ he hs q (fun o1 H1 S1 x v e1 s1 x1 d1=>by
  replace d1:=fU d1;obtain⟨b,rfl,d1⟩:=d1;exact⟨b,eC x1,c o1 H1 S1 b e1 s1 d1⟩) w
end
section
variable {E:XK}{EX:EXD}{ta tb te:TE}{da db de:DE}{tl:TA}{dl:DA}{tt tu:TT}{dt du:DT}
def m9(EX:EXD)(m:Nat)(q:PX)(da:DA):DE:=fun δ S R=>da δ S fun xs S1=>∃ds,datas xs=some ds/\ds.length=m/\q (ds.map XV.d) [] (ret0 S1 R) EX
end
def u8(N P:List Str)(sc:Scope):Bool:=decide (sc.kind=.function)&&!sc.isCoroutine&&!sc.isGenerator&&decide N.Nodup&&decide (N.take P.length=P)&&P.all (fun x=>decide (sc.names.lookup x=some .local)||decide (sc.names.lookup x=some .cell))&&sc.names.all fun y=>decide (y.2≠.free)
theorem fsc{N P:List Str}{sc:Scope}(h:u8 N P sc=true):FnScope N P sc:=by
 simp only[u8,jw,decide_eq_true_eq,Bool.not_eq_true',mv,Bool.or_eq_true]at h;obtain⟨⟨⟨⟨⟨⟨h1,h2⟩,h3⟩,h4⟩,h5⟩,h6⟩,h7⟩:=h;exact⟨h1,h2,h3,h4,h5,h6,h7⟩
end
section
section
variable {κ α:Type} [DecidableEq κ]
def lkA(m:List (κ×α))(k:κ):Option α:=(m.find? fun p=>decide (p.1=k)).map (·.2)
def ptA(m:List (κ×α))(k:κ)(v:α):List (κ×α):=if (m.any fun p=>decide (p.1=k))=true then m.map (fun p=>if p.1=k then (p.1,v)else p)else m++[(k,v)]
def HasM(H:Hp):List (κ×bp)->List (κ×V)->Prop
 | [],m=>m=[]
 |p::r,m=>∃v m',m=(p.1,v)::m'/\Has H p.2 v/\HasM H r m'
theorem HasM.mono{H H':Hp}(s:Same H H'):∀{m:List (κ×bp)}{m':List (κ×V)},HasM H m m'->HasM H' m m'
 | [],_,q=>q
 |p::r,_,⟨v,t,e,q,l⟩=>⟨v,t,e,Has.mono s _ _ q,HasM.mono s l⟩
theorem HasM.length{H:Hp}:∀{m:List (κ×bp)}{m':List (κ×V)},HasM H m m'->m'.length=m.length
 | [],_,q=>by rw[show _=[]from q];rfl
 |p::r,_,⟨v,t,e,q,l⟩=>by rw[e,ff,ff,HasM.length l]
theorem HasM.val{H:Hp}(k:κ):∀{m:List (κ×bp)}{m':List (κ×V)},HasM H m m'->(lkA m k=none/\d9 m' k=none)\/∃d v,lkA m k=some d/\d9 m' k=some v/\Has H d v
 | [],m',q=>by rw[show m'=[]from q];exact .inl ⟨rfl,rfl⟩
 |p::r,m',⟨v,t,e,q,l⟩=>by
  subst e;by_cases hk:p.1=k
  ·exact .inr ⟨p.2,v,by simp[lkA,hk],qQ hk,q⟩
  ·have e1:lkA (p::r) k=lkA r k:=by simp[lkA,hk]
   rw[e1,pM hk];exact HasM.val k l
theorem HasM.any{H:Hp}(k:κ):∀{m:List (κ×bp)}{m':List (κ×V)},HasM H m m'->(m'.any fun p=>decide (p.1=k))=m.any fun p=>decide (p.1=k)
 | [],m',q=>by rw[show m'=[]from q];rfl
 |p::r,m',⟨v,t,e,q,l⟩=>by
  subst e;rw[any_cons,any_cons,HasM.any k l]
theorem HasM.sets{H:Hp}{k:κ}{d:bp}{v:V}(hv:Has H d v):∀{m:List (κ×bp)}{m':List (κ×V)},HasM H m m'->HasM H (m.map fun p=>if p.1=k then (p.1,d)else p) (m'.map fun p=>if p.1=k then (p.1,v)else p)
 | [],m',q=>by rw[show m'=[]from q];rfl
 |p::r,m',⟨u,t,e,q,l⟩=>by
  subst e;rw[fw,fw];by_cases hk:p.1=k
  ·exact⟨v,_,by simp[hk],by simpa[hk]using hv,HasM.sets hv l⟩
  ·exact⟨u,_,by simp[hk],by simpa[hk]using q,HasM.sets hv l⟩
theorem HasM.snoc{H:Hp}{k:κ}{d:bp}{v:V}(hv:Has H d v):∀{m:List (κ×bp)}{m':List (κ×V)},HasM H m m'->HasM H (m++[(k,d)]) (m'++[(k,v)])
 | [],m',q=>by rw[show m'=[]from q];exact⟨v,[],rfl,hv,rfl⟩
 |p::r,m',⟨u,t,e,q,l⟩=>by subst e;exact⟨u,_,rfl,q,HasM.snoc hv l⟩
theorem HasM.put{H:Hp}{k:κ}{d:bp}{v:V}{m:List (κ×bp)}{m':List (κ×V)}(l:HasM H m m')(hv:Has H d v):HasM H (ptA m k d) (cF m' k v):=by
 unfold ptA cF;rw[l.any k];split
 ·exact l.sets hv
 ·exact l.snoc hv
end
inductive KSg where
 |int|bool|many (s:KSg)|two (s t:KSg)
def KG:KSg->Type
 | .int=>Int
 | .bool=>Bool
 | .many s=>List (KG s)
 | .two s t=>KG s×KG t
instance decKG:(s:KSg)->DecidableEq (KG s)
 | .int=>inferInstanceAs (DecidableEq Int)
 | .bool=>inferInstanceAs (DecidableEq Bool)
 | .many s=>have:=decKG s;inferInstanceAs (DecidableEq (List (KG s)))
 | .two s t=>have:=decKG s;have:=decKG t;inferInstanceAs (DecidableEq (KG s×KG t))
def khash:(s:KSg)->KG s->Int
 | .int,i=>hashInt i
 | .bool,b=>reduceHash (match (show Bool from b)with|true=>1|false=>0)
 | .many s,ks=>reduceHash (Builtin.Tuple.tupleHashOf (ks.map (khash s)))
 | .two s t,k=>reduceHash (Builtin.Tuple.tupleHashOf [khash s k.1,khash t k.2])
def kdat:(g:KSg)->KG g->bp
 | .int,i=>.int i
 | .bool,b=>.bool b
 | .many g,ks=>.tuple (List.map (kdat g) ks)
 | .two g g',k=>.tuple [kdat g k.1,kdat g' k.2]
def PDict(g:KSg)(ob:Obj)(xs:List (KG g×Addr×bn)):Prop:=ob.ExactDict/\∃es ep,ob.data=.dict es ep/\es.toList=xs.map (fun x=>⟨khash g x.1,.ref x.2.1,x.2.2⟩)/\(xs.map (·.1)).Nodup
def PrG(G:Hp)(g:KSg):List (KG g×bp)->List (KG g×Addr×bn)->Prop
 | [],xs=>xs=[]
 |p::r,xs=>∃q t,xs=q::t/\q.1=p.1/\Has G (kdat g p.1) (.ref q.2.1)/\(∃v,Has G p.2 v/\RelV v q.2.2)/\PrG G g r t
theorem PrG.mono{G G':Hp}{g:KSg}(s:Same G G'):∀{m:List (KG g×bp)}{xs:List (KG g×Addr×bn)},PrG G g m xs->PrG G' g m xs
 | [],_,q=>q
 |p::r,_,⟨q,t,e,e1,h1,⟨v,h2,h3⟩,l⟩=>⟨q,t,e,e1,Has.mono s _ _ h1,⟨v,Has.mono s _ _ h2,h3⟩,PrG.mono s l⟩
inductive DD where
 |k (m:List (Key×bp))
 |t (m:List (List Key×bp))
 |g (g:KSg) (ob:Obj) (m:List (KG g×bp))
def DD.pairs:DD->List (bp×bp)
 | .k m=>m.map fun p=>(kD p.1,p.2)
 | .t m=>m.map fun p=>(.tuple (p.1.map kD),p.2)
 | .g sg _ m=>m.map fun p=>(kdat sg p.1,p.2)
def DD.len:DD->Nat
 | .k m=>m.length
 | .t m=>m.length
 | .g _ _ m=>m.length
def eZ:bp->Option Key
 | .int i=>some (.inl i)
 | .str x=>some (.inr x)
 |_=>none
def jZ:List bp->Option (List Key)
 | []=>some []
 |d::ds=>(eZ d).bind fun k=>(jZ ds).map (k :: ·)
def jS:bp->Option (List Key)
 | .tuple ds=>jZ ds
 |_=>none
def DD.get:DD->bp->Option (Option bp)
 | .k m,y=>(eZ y).map (lkA m)
 | .t m,y=>(jS y).map (lkA m)
 | .g _ _ _,_=>none
def DD.put:DD->bp->bp->Option DD
 | .k m,y,d=>(eZ y).map fun k=>.k (ptA m k d)
 | .t m,y,d=>(jS y).map fun k=>.t (ptA m k d)
 | .g _ _ _,_,_=>none
def RAt(G H:Hp)(a:Addr):DD->Prop
 | .k m=>∃m',Rd H a (.dK m')/\HasM G m m'
 | .t m=>∃m',Rd H a (.dT m')/\HasM G m m'
 | .g g ob m=>H a=some (obO a ob)/\(a==ly)=false/\∃xs,PDict g ob xs/\PrG G g m xs
def DAt(G H:Hp)(a:Addr):DD->Prop
 | .k m=>∃m',H a=some (.dK m')/\HasM G m m'
 | .t m=>∃m',H a=some (.dT m')/\HasM G m m'
 | .g g ob m=>H a=some (obO a ob)/\(a==ly)=false/\∃xs,PDict g ob xs/\PrG G g m xs
theorem vV{H:Hp}{y:bp}{v:V}{k:Key}(e:eZ y=some k)(q:Has H y v):v=kV k:=by
 cases y with
 |int i=>cases e;exact cQ.mp q
 |str x=>cases e;exact fN.mp q
 |_=>cases e
theorem DB{H:Hp}:∀{ds:List bp}{vs:List V}{ks:List Key},jZ ds=some ks->HasL H ds vs->vs=ks.map kV
 | [],vs,ks,e,l=>by cases e;exact zz.mp l
 |d::ds,vs,ks,e,l=>by
  obtain⟨v,r,rfl,q,l⟩:=zo.mp l;unfold jZ at e;cases hk:eZ d with
  |none=>rw[hk]at e;cases e
  |some k=>
   rw[hk,Option.bind_some]at e;cases hs:jZ ds with
   |none=>rw[hs]at e;cases e
   |some ks'=>
    rw[hs]at e;cases e;rw[vV hk q,DB hs l];rfl
theorem C9{H:Hp}{y:bp}{v:V}{ks:List Key}(e:jS y=some ks)(q:Has H y v):∃b,v=.ref b/\H b=some (.tup (ks.map kV)):=by
 cases y with
 |tuple ds=>
  obtain⟨b,vs,rfl,eb,l⟩:=zL.mp q;exact⟨b,rfl,by rw[<- DB (show jZ ds=some ks from e) l];exact eb⟩
 |_=>cases e
theorem DAt.mono{G G' H H':Hp}{a:Addr}{D:DD}(s:Same G G')(e:∀u,H a=some u->H' a=some u)(q:DAt G H a D):DAt G' H' a D:=by
 cases D with
 |k m=>obtain⟨m',e1,l⟩:=q;exact⟨m',e _ e1,l.mono s⟩
 |t m=>obtain⟨m',e1,l⟩:=q;exact⟨m',e _ e1,l.mono s⟩
 |g g ob m=>obtain⟨e1,ha,xs,pd,l⟩:=q;exact⟨e _ e1,ha,xs,pd,l.mono s⟩
theorem DAt.rd{G H:Hp}{a:Addr}{D:DD}(q:DAt G H a D):RAt G H a D:=by
 cases D with
 |k m=>obtain⟨m',e1,l⟩:=q;exact⟨m',.inl e1,l⟩
 |t m=>obtain⟨m',e1,l⟩:=q;exact⟨m',.inl e1,l⟩
 |g g ob m=>exact q
theorem DAt.mo{G H:Hp}{a:Addr}{D:DD}(q:DAt G H a D):∃u:MO,H a=some u.ho:=by
 cases D with
 |k m=>obtain⟨m',e1,l⟩:=q;exact⟨.k m',e1⟩
 |t m=>obtain⟨m',e1,l⟩:=q;exact⟨.t m',e1⟩
 |g g ob m=>exact⟨.x a ob,q.1⟩
def RelD(G:Hp):Option bp->Option V->Prop
 |none,r=>r=none
 |some d,r=>∃u,r=some u/\Has G d u
theorem RAt.get{G H:Hp}{a:Addr}{D:DD}{y:bp}{v:V}{o:Option bp}(sv:Same G H)(q:RAt G H a D)(hy:Has G y v)(e:D.get y=some o):∃r,DGet H a v r/\RelD G o r:=by
 cases D with
 |k m=>
  obtain⟨m',e1,l⟩:=q;replace e:(eZ y).map (lkA m)=some o:=e;cases hk:eZ y with
  |none=>rw[hk]at e;cases e
  |some k=>
   rw[hk]at e;cases e;rw[vV hk hy];refine⟨_,.inl ⟨m',k,e1,rfl,rfl⟩,?_⟩;rcases l.val k with ⟨z1,z2⟩|⟨d,u,z1,z2,z3⟩
   ·rw[z1];exact z2
   ·rw[z1];exact⟨u,z2,z3⟩
 |t m=>
  obtain⟨m',e1,l⟩:=q;replace e:(jS y).map (lkA m)=some o:=e;cases hk:jS y with
  |none=>rw[hk]at e;cases e
  |some k=>
   rw[hk]at e;cases e;obtain⟨b,rfl,eb⟩:=C9 hk hy;refine⟨_,.inr ⟨m',k,b,e1,rfl,sv _ _ eb,rfl⟩,?_⟩;rcases l.val k with ⟨z1,z2⟩|⟨d,u,z1,z2,z3⟩
   ·rw[z1];exact z2
   ·rw[z1];exact⟨u,z2,z3⟩
 |g g ob m=>cases e
theorem DAt.put{G H:Hp}{a:Addr}{D D':DD}{y d:bp}{v u:V}(sv:Same G H)(q:DAt G H a D)(hy:Has G y v)(hd:Has G d u)(e:D.put y d=some D')(hl:D.len<1000):
  ∃x:MO,DPut H a v u (upd H a x.ho)/\∀H',H' a=some x.ho->DAt G H' a D':=by
 cases D with
 |k m=>
  obtain⟨m',e1,l⟩:=q;replace e:((eZ y).map fun k=>DD.k (ptA m k d))=some D':=e;cases hk:eZ y with
  |none=>rw[hk]at e;cases e
  |some k=>
   rw[hk]at e;cases e;rw[vV hk hy];exact⟨.k (cF m' k u),DPut.k e1 (by rw[l.length];exact small1000 (ko hl)),fun H' z=>⟨_,z,l.put hd⟩⟩
 |t m=>
  obtain⟨m',e1,l⟩:=q;replace e:((jS y).map fun k=>DD.t (ptA m k d))=some D':=e;cases hk:jS y with
  |none=>rw[hk]at e;cases e
  |some k=>
   rw[hk]at e;cases e;obtain⟨b,rfl,eb⟩:=C9 hk hy;exact⟨.t (cF m' k u),DPut.t e1 (sv _ _ eb) (by rw[l.length];exact small1000 (ko hl)),fun H' z=>⟨_,z,l.put hd⟩⟩
 |g g ob m=>cases e
theorem F8{a b:Key}(e:kD a=kD b):a=b:=by
 cases a<;>cases b<;>cases e<;>rfl
theorem Br{H:Hp}:∀{m:List (Key×bp)}{m':List (Key×V)},HasM H m m'->HasV H (m.map fun p=>(kD p.1,p.2)) (m'.map (·.2))/\m'.map (fun p=>kD p.1)=m.map fun p=>kD p.1
 | [],m',q=>by rw[show m'=[]from q];exact⟨Ft.mpr rfl,rfl⟩
 |p::r,m',⟨v,t,e,q,l⟩=>by
  subst e;obtain⟨z1,z2⟩:=Br l;exact⟨yF.mpr ⟨v,_,rfl,q,z1⟩,by rw[fw,fw,z2]⟩
theorem DK{H:Hp}:∀{m:List (Key×bp)}{m':List (Key×V)},HasV H (m.map fun p=>(kD p.1,p.2)) (m'.map (·.2))->m.map (fun p=>kD p.1)=m'.map (fun p=>kD p.1)->HasM H m m'
 | [],[],_,_=>rfl
 | [],_::_,_,e=>by simp at e
 |_::_,[],_,e=>by simp at e
 |p::r,q::t,h,e=>by
  rw[fw,fw]at h;obtain⟨v,s,e1,e2,e3⟩:=yF.mp h;rw[re]at e1;rw[fw,fw,re]at e;have z:=F8 e.1;obtain⟨q1,q2⟩:=q;refine⟨q2,t,by rw[z],?_,DK (by rw[e1.2];exact e3) e.2⟩;have z1:q2=v:=e1.1;rw[z1];exact e2
theorem wI{H:Hp}{m:List (Key×bp)}{v:V}:Has H (.dict (DD.pairs (.k m))) v↔∃a ob m',v=.ref a/\H a=some (.frz ob (.dK m'))/\HasM H m m':=by
 rw[pP];constructor
 ·rintro⟨a,vs,rfl,⟨ob,m',e,e1,e2⟩|⟨ob,p,m',e,e1,e2⟩,l⟩
  rotate_left
  ·cases m with
   |nil=>cases e1
   |cons q r=>
    have z:=congrArg List.head? e1;simp only[DD.pairs,fw,List.head?_cons,qe]at z;cases h:q.1<;>rw[h]at z<;>cases z
  subst e2;refine⟨a,ob,m',rfl,e,DK l ?_⟩;rw[<- e1];simp[DD.pairs]
 ·rintro⟨a,ob,m',rfl,e,l⟩;obtain⟨z1,z2⟩:=Br l;exact⟨a,_,rfl,.inl ⟨ob,m',e,by rw[z2];simp[DD.pairs],rfl⟩,z1⟩
abbrev DM:=List (Addr×DD)
def ad(M:DM):List Addr:=M.map (·.1)
structure RepM(h o:List Addr)(H:Hp)(M:DM):Prop where
 nd:(ad M).Nodup
 nh:∀a∈ad M,a∉h/\a∉o
 ct:∀a D,(a,D)∈M->DAt (vx (h++ad M) o H) H a D
section
variable {h o o':List Addr}{H H':Hp}{M:DM}{S:Sto}
theorem RepM.at(r:RepM h o H M){a:Addr}(m:a∈ad M):∃D,(a,D)∈M/\DAt (vx (h++ad M) o H) H a D:=by
 obtain⟨p,mp,e⟩:=mem_map.mp m;obtain⟨b,D⟩:=p;cases e;exact⟨D,mp,r.ct _ D mp⟩
theorem RepM.mono(r:RepM h o H M)(e:Ex o H o' H'):RepM h o' H' M:=by
 have k1:∀a∈ad M,∀u,H a=some u->a∉o'/\H' a=some u:=fun a m u z=>e.kp a u (r.nh a m).2 z;refine⟨r.nd,fun a m=>⟨(r.nh a m).1,?_⟩,fun a D m=>?_⟩
 ·obtain⟨D,_,q⟩:=r.at m;obtain⟨u,z⟩:=q.mo;exact(k1 a m _ z).1
 ·exact(r.ct a D m).mono e.vx fun u z=>(k1 a (mem_map.mpr ⟨_,m,rfl⟩) u z).2
theorem RepM.nil:RepM h o H []:=⟨mw,fun a m=>(by cases m),fun a D m=>(by cases m)⟩
def fF(M:DM)(a:Addr)(D:DD):DM:=M.map fun p=>if p.1=a then (a,D)else p
theorem jG{a:Addr}{D:DD}:∀{M:DM},ad (fF M a D)=ad M
 | []=>rfl
 |p::r=>by
  have z:=jG (a:=a) (D:=D) (M:=r);unfold ad fF at z ⊢;rw[fw,fw,fw,z];by_cases e:p.1=a<;>simp[e]
theorem tW{a:Addr}{u:HO}(m:a∈h):Same (vx h o H) (vx h o (upd H a u)):=fun b w e=>by
 obtain⟨z1,z2,z3⟩:=zC.mp e;exact zC.mpr ⟨z1,z2,by rw[zB (fun z=>z1 (by rw[z];exact m))];exact z3⟩
theorem HasX.view(s:Same (vx h o H) (vx h o H')):∀{x:XV}{v:V},HasX h o H x v->HasX h o H' x v
 | .d d,v,q=>Has.mono s d v q
 | .l k,v,q=>q
 | .o w,v,q=>q
 | .x C fs,v,q=>HasE.mono s q
 | .p k d,v,q=>HasLP.to s (fun _ z=>z) q
theorem RepE.view{δ:XE}{σ:St}(s:Same (vx h o H) (vx h o H'))(r:RepE h o H δ σ):RepE h o H' δ σ:=⟨r.len,fun i x e=>let ⟨v,e1,e2⟩:=r.get i x e;⟨v,e1,e2.view s⟩⟩
theorem RepS.hidden{a:Addr}{u:MO}(r:RepS h o H S)(m:a∈h):RepS h o (L2.upd H a u.ho) S where
 len:=r.len
 nd:=r.nd
 dis:=r.dis
 hal:=fun b mb=>by
  by_cases e:b=a
  ·subst e;exact⟨u,b8⟩
  ·obtain⟨w,z⟩:=r.hal b mb;exact⟨w,by rw[zB e];exact z⟩
 cont:=fun k b ds e1 e2=>by
  obtain⟨vs,e3,l⟩:=r.cont k b ds e1 e2;have ne:b≠a:=fun z=>r.dis b (bt e1) (z▸m);exact⟨vs,by rw[zB ne];exact e3,HasL.mono (tW m) _ _ l⟩
theorem RepM.put{a:Addr}{D D':DD}{u:MO}(r:RepM h o H M)(m:(a,D)∈M)(q:∀H',H' a=some u.ho->DAt (vx (h++ad M) o H) H' a D'):RepM h o (L2.upd H a u.ho) (fF M a D'):=by
 have ma:a∈ad M:=mem_map.mpr ⟨_,m,rfl⟩;refine⟨by rw[jG];exact r.nd,by rw[jG];exact r.nh,fun b D2 mb=>?_⟩;rw[jG];have sv:Same (vx (h++ad M) o H) (vx (h++ad M) o (L2.upd H a u.ho)):=tW (fc _ ma);obtain⟨p,mp,ep⟩:=mem_map.mp mb;by_cases e:p.1=a
 ·rw[ck e]at ep;cases ep;exact(q _ b8).mono sv fun _ z=>z
 ·rw[ci e]at ep;subst ep;exact(r.ct _ _ mp).mono sv fun w z=>by rw[zB e];exact z
theorem RepS.less{l:List Addr}(r:RepS (h++l) o H S):RepS h o H S where
 len:=r.len
 nd:=r.nd
 dis:=fun a ma z=>r.dis a ma (cn _ z)
 hal:=fun b mb=>r.hal b (cn _ mb)
 cont:=fun k b ds e1 e2=>by
  obtain⟨vs,e3,q⟩:=r.cont k b ds e1 e2;exact⟨vs,e3,HasL.mono (fun c u z=>let ⟨z1,z2,z3⟩:=zC.mp z;zC.mpr ⟨fun mm=>z1 (cn _ mm),z2,z3⟩) _ _ q⟩
theorem iO{l:List Addr}:Same (vx (h++l) o H) (vx h o H):=fun c u z=>let ⟨z1,z2,z3⟩:=zC.mp z;zC.mpr ⟨fun mm=>z1 (cn _ mm),z2,z3⟩
theorem HasX.less{l:List Addr}:∀{x:XV}{v:V},HasX (h++l) o H x v->HasX h o H x v
 | .d d,v,q=>Has.mono iO d v q
 | .l k,v,q=>q
 | .o w,v,q=>q
 | .x C fs,v,q=>HasE.mono iO q
 | .p k d,v,q=>HasLP.to iO (fun _ z=>z) q
end
end
section
structure DEndsM where
 nx:XE->Sto->DM->Prop
 rt:XV->Sto->DM->Prop
 bk:XE->Sto->DM->Prop:=fun _ _ _=>False
 ct:XE->Sto->DM->Prop:=fun _ _ _=>False
abbrev DSm:=DEndsM->XE->Sto->DM->Prop
def Fr(H:Hp)(M:DM):Prop:=∀a∈ad M,H a=none
def NxM(h o:List Addr)(H:Hp)(A:List Addr)(N:XE->Sto->DM->Prop)(Y:St->Hp->Prop):Prop:=∀o' H' δ' S' M' σ',Ex o H o' H'->ad M'=A->RepE (h++ad M') o' H' δ' σ'->RepS (h++ad M') o' H' S'->RepM h o' H' M'->N δ' S' M'->Y σ' H'
structure EOkM(h o:List Addr)(H:Hp)(A:List Addr)(E:DEndsM)(D:Ends):Prop where
 nx:NxM h o H A E.nx D.nx
 rt:∀o' H' S' M' x v,Ex o H o' H'->ad M'=A->RepS (h++ad M') o' H' S'->RepM h o' H' M'->HasX (h++ad M') o' H' x v->E.rt x S' M'->D.rt v H'
 bk:NxM h o H A E.bk D.bk
 ct:NxM h o H A E.ct D.ct
def RSm(E:XK)(EX:EXD)(t:TS)(dt:DSm):Prop:=∀(h o0:List Addr) (H0:Hp) (o:List Addr) (H:Hp) (δ:XE) (σ:St) (S:Sto) (M:DM) (En:DEndsM) (D:Ends),Ex o0 H0 o H->Fr H0 M->RepE (h++ad M) o H δ σ->RepS (h++ad M) o H S->RepM h o H M->dt En δ S M ->
 EOkM h o0 H0 (ad M) En D->CnX h o0 H0 EX E->t D σ H
theorem CnX.inn{E:XK}{EX:EXD}{h o0 o l:List Addr}{H0 H:Hp}(x:CnX h o0 H0 EX E)(e0:Ex o0 H0 o H):CnX (h++l) o H EX E:=fun o' H' S' C a fs e s' hE q=>x o' H' S' C a fs (e0.trans e) s'.less (HasE.mono iO hE) q
def cJ(dt:DS):DSm:=fun En δ S M=>dt { nx:=fun δ' S'=>En.nx δ' S' M,rt:=fun x S'=>En.rt x S' M,bk:=fun δ' S'=>En.bk δ' S' M,ct:=fun δ' S'=>En.ct δ' S' M } δ S
def eK(t u:DSm):DSm:=fun En δ S M=>t { En with nx:=u En } δ S M
def gR(c:DM->DT)(t u:DSm):DSm:=fun En δ S M=>c M δ S fun b S1=>if b=true then t En δ S1 M else u En δ S1 M
def eV(g:DG)(b:DSm):List bp->DSm
 | [],E,δ,S,M=>E.nx δ S M
 |d::ds,E,δ,S,M=>g (.d d) δ S fun δ1 S1=>b { nx:=fun δ2 S2 M2=>eV g b ds E δ2 S2 M2,ct:=fun δ2 S2 M2=>eV g b ds E δ2 S2 M2,bk:=E.nx,rt:=E.rt } δ1 S1 M
def g9(i:DM->DI)(g:DG)(b:DSm):DSm:=fun En δ S M=>i M δ S fun ds S1=>eV g b ds En δ S1 M
def PhM(M:DM):Phi:=fun h' o H=>∃h,h'=h++ad M/\RepM h o H M
instance {M:DM}:Stb (PhM M):=⟨fun⟨h,e,r⟩ x=>⟨h,e,r.mono x⟩⟩
section
variable {E:XK}{EX:EXD}{t u:TS}{dt du:DSm}
theorem Hv{ds:DS}(ht:RSx E EX t ds):RSm E EX t (cJ ds):=fun h o0 H0 o H δ σ S M En D e0 fr he hs rm q c x=>
 ht (h++ad M) o H δ σ S _ D he hs q ⟨fun o' H' δ' S' σ' e ab aa n=>c.nx o' H' δ' S' M σ' (e0.trans e) rfl ab aa (rm.mono e) n,fun o' H' S' y v e aa hy n=>c.rt o' H' S' M y v (e0.trans e) rfl aa (rm.mono e) hy n,
  fun o' H' δ' S' σ' e ab aa n=>c.bk o' H' δ' S' M σ' (e0.trans e) rfl ab aa (rm.mono e) n,fun o' H' δ' S' σ' e ab aa n=>c.ct o' H' δ' S' M σ' (e0.trans e) rfl ab aa (rm.mono e) n⟩ (x.inn e0)
theorem nV{ds:DS}(ht:RS t ds):RSm E EX t (cJ ds):=Hv (JK ht)
theorem rL(ht:RSm E EX t dt)(hu:RSm E EX u du):RSm E EX (cX t u) (eK dt du):=fun h o0 H0 o H δ σ S M En D e0 fr he hs rm q c x=>
 ht h o0 H0 o H δ σ S M _ _ e0 fr he hs rm q ⟨fun o1 H1 δ1 S1 M1 σ1 e1 ea aa y ab q1=>hu h o0 H0 o1 H1 δ1 σ1 S1 M1 En D e1 (by unfold Fr;rw[ea];exact fr) aa y ab q1 (by rw[ea];exact c) x,c.rt,c.bk,c.ct⟩ x
theorem HI{tc:TT}{dc:DM->DT}(hc:∀M,RTp (PhM M) tc (dc M))(ht:RSm E EX t dt)(hu:RSm E EX u du):RSm E EX (oZ tc t u) (gR dc dt du):=fun h o0 H0 o H δ σ S M En D e0 fr he hs rm q c x=>
 hc M (h++ad M) o H δ σ S _ _ he hs q (fun o1 H1 S1 b e1 s1 d1=>by
  cases b with
  |true=>exact eJ (ht h o0 H0 o1 H1 δ σ S1 M En D (e0.trans e1) fr (he.mono e1) s1 (rm.mono e1) (by simpa using d1) c x)
  |false=>exact eQ (hu h o0 H0 o1 H1 δ σ S1 M En D (e0.trans e1) fr (he.mono e1) s1 (rm.mono e1) (by simpa using d1) c x)) ⟨h,rfl,rm⟩
theorem B5{wi:TI}{g:TG}{tb:TS}{di:DM->DI}{dg:DG}{db:DSm}(hi:∀M,RIp (PhM M) wi (di M))(hg:RG g dg)(hb:RSm E EX tb db):RSm E EX (oI wi g tb) (g9 di dg db):=fun h o0 H0 o H δ σ S M En D e0 fr he hs rm q c x=>
 hi M (h++ad M) o H δ σ S _ _ he hs q (fun o1 H1 S1 ds J e1 s1 wk d1=>by
  refine⟨fun i m σ2 H2=>m=ds.length-i/\i<=ds.length/\∃o2 δ2 S2 M2,Ex o0 H0 o2 H2/\ExH (h++ad M) o1 H1 o2 H2/\ad M2=ad M/\RepE (h++ad M) o2 H2 δ2 σ2/\RepS (h++ad M) o2 H2 S2/\RepM h o2 H2 M2/\eV dg db (ds.drop i) En δ2 S2 M2,
   ⟨ds.length,yv,nq _,o1,δ,S1,M,e0.trans e1,ExH.refl,rfl,he.mono e1,s1,rm.mono e1,d1⟩,?_⟩
  rintro i m σ2 H2 ⟨rfl,hi,o2,δ2,S2,M2,e2,x2,ea,ak,ag,aj,d2⟩;by_cases hlt:i<ds.length
  ·have ed:ds[i]?=some ds[i]:=ca hlt;rw[gv hlt]at d2;refine .inr ⟨wk.go i _ o2 H2 x2 ed,fun σ3 H3=>∃o3 δ3 S3 M3,Ex o0 H0 o3 H3/\ExH (h++ad M) o1 H1 o3 H3/\ad M3=ad M/\RepE (h++ad M) o3 H3 δ3 σ3/\RepS (h++ad M) o3 H3 S3/\RepM h o3 H3 M3/\eV dg db (ds.drop (i+1)) En δ3 S3 M3,fun σ3 H3 n=>⟨ds.length-(i+1),yw,rfl,hlt,n⟩,fun y H3 yy=>?_⟩;obtain⟨s3,hx⟩:=wk.yld i _ o2 H2 y H3 S2 x2 ag ed yy;have ai:Ex o2 H2 o2 H3:=Ex.of_same s3;refine hg (h++ad M) o2 H3 δ2 σ2 S2 (.d ds[i]) y _ _ (ak.mono ai) (ag.same s3) hx d2 fun o4 H4 δ4 S4 σ4 e4 an al d4=>?_;have ae:Ex o2 H2 o4 H4:=ai.trans e4;have nM:∀b u,H0 b=some u->b∉ad M:=fun b u z mb=>by
    rw[fr b mb]at z;cases z
   have af:Ex o0 H0 o4 (fun b=>if b∈ad M then none else H4 b):=⟨(e2.trans ae).pre,fun b u nb z=>by
    obtain⟨z1,z2⟩:=(e2.trans ae).kp b u nb z;exact⟨z1,by show (if b∈ad M then none else H4 b)=some u;rw[ci (nM b u z)];exact z2⟩⟩
   have ao:∀{o5 H5},Ex o4 (fun b=>if b∈ad M then none else H4 b) o5 H5->ExH (h++ad M) o4 H4 o5 H5:=fun e5=>⟨e5.pre,fun b u n1 n2 z=>e5.kp b u n2 (by show (if b∈ad M then none else H4 b)=some u;rw[ci (fun mb=>n1 (fc _ mb))];exact z)⟩;have aa:∀o5 H5 δ5 S5 M5 σ5,Ex o4 (fun b=>if b∈ad M then none else H4 b) o5 H5->ad M5=ad M2->RepE (h++ad M5) o5 H5 δ5 σ5->RepS (h++ad M5) o5 H5 S5->RepM h o5 H5 M5->eV dg db (ds.drop (i+1)) En δ5 S5 M5 ->
     ∃o3 δ3 S3 M3,Ex o0 H0 o3 H5/\ExH (h++ad M) o1 H1 o3 H5/\ad M3=ad M/\RepE (h++ad M) o3 H5 δ3 σ5/\RepS (h++ad M) o3 H5 S3/\RepM h o3 H5 M3/\eV dg db (ds.drop (i+1)) En δ3 S3 M3:=fun o5 H5 δ5 S5 M5 σ5 e5 a5 ah ab ac d5=>
    ⟨o5,δ5,S5,M5,af.trans e5,(x2.trans ae.hid).trans (ao e5),a5.trans ea,by rw[<- ea,<- a5];exact ah,by rw[<- ea,<- a5];exact ab,ac,d5⟩
   refine hb h o4 (fun b=>if b∈ad M then none else H4 b) o4 H4 δ4 σ4 S4 M2 _ _ ⟨⟨[],yv⟩,fun b u nb eb=>?_⟩ (fun a ma=>by show (if a∈ad M then none else H4 a)=none;rw[ck (by rw[<- ea];exact ma)]) (by rw[ea];exact an) (by rw[ea];exact al) (aj.mono ae) d4
    ⟨aa,fun o5 H5 S5 M5 y5 v5 e5 a5 ab ac am q5=>c.rt o5 H5 S5 M5 y5 v5 (af.trans e5) (a5.trans ea) ab ac am q5,fun o5 H5 δ5 S5 M5 σ5 e5 a5 ah ab ac q5=>c.nx o5 H5 δ5 S5 M5 σ5 (af.trans e5) (a5.trans ea) ah ab ac q5,aa⟩ (x.pre af)
   refine⟨nb,?_⟩;by_cases mb:b∈ad M
   ·simp[mb]at eb
   ·simpa[mb]using eb
  ·have ei:i=ds.length:=yw
   subst ei;rw[drop_length]at d2;exact .inl ⟨wk.stop _ o2 H2 x2 (cu _),c.nx o2 H2 δ2 S2 M2 σ2 e2 ea (by rw[ea];exact ak) (by rw[ea];exact ag) aj d2⟩) ⟨h,rfl,rm⟩
end
end
section
section
variable {h h' o:List Addr}{H H':Hp}
theorem HasX.to(s:Same (vx h o H) (vx h' o H')):∀{x:XV}{v:V},HasX h o H x v->HasX h' o H' x v
 | .d d,v,q=>Has.mono s d v q
 | .l k,v,q=>q
 | .o w,v,q=>q
 | .x C fs,v,q=>HasE.mono s q
 | .p k d,v,q=>HasLP.to s (fun _ z=>z) q
theorem RepE.to{δ:XE}{σ:St}(s:Same (vx h o H) (vx h' o H'))(r:RepE h o H δ σ):RepE h' o H' δ σ:=⟨r.len,fun i x e=>let ⟨v,e1,e2⟩:=r.get i x e;⟨v,e1,e2.to s⟩⟩
end
def j6(a:Addr)(m:List (Key×bp)):XV->XV
 | .o (.ref b)=>if b=a then .d (.dict (DD.pairs (.k m)))else .o (.ref b)
 |x=>x
theorem Hg{h h' o:List Addr}{H H':Hp}{a:Addr}{m:List (Key×bp)}{m':List (Key×V)}{ob:Obj}(s:Same (vx h o H) (vx h' o H'))(e:vx h' o H' a=some (.frz ob (.dK m')))(l:HasM (vx h o H) m m'):∀{x:XV}{v:V},HasX h o H x v->HasX h' o H' (j6 a m x) v
 | .d d,v,z=>Has.mono s d v z
 | .l k,v,z=>z
 | .x C fs,v,z=>HasE.mono s z
 | .p k d,v,z=>HasLP.to s (fun _ z=>z) z
 | .o w,v,z=>by
  cases w with
  |ref b=>
   unfold j6;dsimp only;split
   ·rename_i eb;subst eb;rw[show v=.ref b from z];exact wI.mpr ⟨b,ob,m',rfl,e,l.mono s⟩
   ·exact z
  |_=>exact z
theorem Ge{h h' o:List Addr}{H H':Hp}{a:Addr}{m:List (Key×bp)}{m':List (Key×V)}{ob:Obj}{δ:XE}{σ:St}(s:Same (vx h o H) (vx h' o H'))(e:vx h' o H' a=some (.frz ob (.dK m')))(l:HasM (vx h o H) m m')(r:RepE h o H δ σ):RepE h' o H' (δ.map (Option.map (j6 a m))) σ:=by
 refine⟨by rw[dh];exact r.len,fun i x ex=>?_⟩;rw[gg]at ex;cases hd:δ[i]? with
 |none=>rw[hd]at ex;cases ex
 |some y=>
  rw[hd]at ex;cases y with
  |none=>cases ex
  |some y=>
   cases ex;obtain⟨v,e1,e2⟩:=r.get i y hd;exact⟨v,e1,Hg s e l e2⟩
theorem zH{M:DM}{a:Addr}{D:DD}:ad (M++[(a,D)])=ad M++[a]:=by simp[ad]
theorem RepM.init{h o:List Addr}{H:Hp}{M:DM}{a:Addr}{D:DD}(r:RepM h o H (M++[(a,D)])):RepM h o H M:=by
 have nd:=r.nd;rw[zH]at nd;refine⟨(nodup_append.mp nd).1,fun b m=>r.nh b (by rw[zH];exact cn _ m),fun b D2 m=>?_⟩;have z:=r.ct b D2 (cn _ m);rw[zH,<- fy]at z;exact z.mono iO fun _ z=>z
def gF(f:Bool)(i:Nat)(D0:DD)(b:DSm):DSm:=fun En δ S M=>∀a,a∉ad M->b { nx:=(fun δ' S' M'=>if f=true then (∃M1 m,M'=M1++[(a,.k m)]/\δ'[i]?=some (some (.o (.ref a)))/\En.nx (δ'.map (Option.map (j6 a m))) S' M1)else (∃M1 D,M'=M1++[(a,D)]/\En.nx δ' S' M1)),rt:=(fun x S' M'=>∃M1 D,M'=M1++[(a,D)]/\En.rt x S' M1),bk:=(fun δ' S' M'=>∃M1 D,M'=M1++[(a,D)]/\En.bk δ' S' M1),ct:=(fun δ' S' M'=>∃M1 D,M'=M1++[(a,D)]/\En.ct δ' S' M1) } (δ.set i (some (.o (.ref a)))) S (M++[(a,D0)])
section
variable {E:XK}{EX:EXD}{tb:TS}{db:DSm}{i:Nat}
theorem Jm{f:Bool}{p:Addr}{u:MO}{D0:DD}(hD:∀(G H:Hp),H p=some u.ho->DAt G H p D0)(hb:RSm E EX tb db){h o0:List Addr}{H0:Hp}{o:List Addr}{H:Hp}{δ:XE}{σ:St}{S:Sto}{M:DM}{En:DEndsM}{D:Ends}(e0:Ex o0 H0 o H)(fr:Fr H0 M)(he:RepE (h++ad M) o H δ σ)(hs:RepS (h++ad M) o H S)(rm:RepM h o H M)
  (q:gF f i D0 db En δ S M) (c:EOkM h o0 H0 (ad M) En D) (x:CnX h o0 H0 EX E) (hp:H p=none):(if f=true then uB i tb else tb) D (σ.set i (some (.ref p))) (upd H p u.ho):=by
 have nM:p∉ad M:=fun m=>by
  obtain⟨D2,_,z⟩:=rm.at m;obtain⟨w,ew⟩:=z.mo;rw[hp]at ew;cases ew
 have f1:=hs.fresh hp;have nh:p∉h:=fun m=>f1.1 (cn _ m);have sH:Same H (upd H p u.ho):=Same.laid hp;have e1:Ex o0 H0 o (upd H p u.ho):=e0.trans (Ex.of_same sH);have H0p:H0 p=none:=by
  cases z:H0 p with
  |none=>rfl
  |some w=>
   by_cases m:p∈o0
   ·obtain⟨r,er⟩:=e0.pre;exact absurd (show p∈o by rw[er];exact cn _ m) f1.2
   ·have:=(e0.kp p w m z).2;rw[hp]at this;cases this
 have sv:Same (vx (h++ad M) o H) (vx (h++(ad M++[p])) o (upd H p u.ho)):=fun b w z=>by
  obtain⟨z1,z2,z3⟩:=zC.mp z;have ne:b≠p:=zK z3 hp;refine zC.mpr ⟨fun m=>?_,z2,by rw[zB ne];exact z3⟩;rw[<- fy]at m;rcases mem_append.mp m with m|m
  ·exact z1 m
  ·exact ne (mem_singleton.mp m)
 have sM:RepS (h++ad (M++[(p,D0)])) o (upd H p u.ho) S:=by
  rw[zH];refine⟨hs.len,hs.nd,fun a ma z=>?_,fun b mb=>?_,fun k b ds e1 e2=>?_⟩
  ·rw[<- fy]at z;rcases mem_append.mp z with z|z
   ·exact hs.dis a ma z
   ·rw[mem_singleton.mp z]at ma;exact f1.2 ma
  ·rw[<- fy]at mb;rcases mem_append.mp mb with m|m
   ·obtain⟨w,ew⟩:=hs.hal b m;exact⟨w,sH _ _ ew⟩
   ·rw[mem_singleton.mp m];exact⟨u,b8⟩
  ·obtain⟨vs,e3,l⟩:=hs.cont k b ds e1 e2;exact⟨vs,sH _ _ e3,HasL.mono sv _ _ l⟩
 have mM:RepM h o (upd H p u.ho) (M++[(p,D0)]):=by
  refine⟨by rw[zH];exact j4 rm.nd nM,fun a ma=>?_,fun a D2 m=>?_⟩
  ·rw[zH]at ma;rcases mem_append.mp ma with m|m
   ·exact rm.nh a m
   ·rw[mem_singleton.mp m];exact⟨nh,f1.2⟩
  ·rw[zH];rcases mem_append.mp m with m|m
   ·exact(rm.ct a D2 m).mono sv fun w z=>sH _ _ z
   ·have:=mem_singleton.mp m;cases this;exact hD _ _ b8
 have hE:RepE (h++ad (M++[(p,D0)])) o (upd H p u.ho) (δ.set i (some (.o (.ref p)))) (σ.set i (some (.ref p))):=by
  rw[zH];exact(he.to sv).set (show HasX _ _ _ (.o (.ref p)) (.ref p)from rfl)
 have ah:Fr H0 (M++[(p,D0)]):=fun a ma=>by
  rw[zH]at ma;rcases mem_append.mp ma with m|m
  ·exact fr a m
  ·rw[mem_singleton.mp m];exact H0p
 have ac:∀{N:XE->Sto->DM->Prop}{Y:St->Hp->Prop},NxM h o0 H0 (ad M) N Y->NxM h o0 H0 (ad (M++[(p,D0)])) (fun δ' S' M'=>∃M1 D,M'=M1++[(p,D)]/\N δ' S' M1) Y:=fun {N Y} nx o' H' δ' S' M' σ' ex ea ae aa ab ⟨M1,D2,eM,n⟩=>by
  subst eM;rw[zH,zH]at ea;rw[zH,<- fy]at ae aa;exact nx o' H' _ S' M1 σ' ex (append_inj_left' ea rfl) (ae.to iO) aa.less ab.init n
 have ag:∀o' H' S' M' y v,Ex o0 H0 o' H'->ad M'=ad (M++[(p,D0)])->RepS (h++ad M') o' H' S'->RepM h o' H' M'->HasX (h++ad M') o' H' y v->(∃M1 D,M'=M1++[(p,D)]/\En.rt y S' M1)->D.rt v H':=by
  rintro o' H' S' M' y v ex ea aa ab af ⟨M1,D2,eM,n⟩;subst eM;rw[zH,zH]at ea;rw[zH,<- fy]at af aa;exact c.rt o' H' S' M1 _ v ex (append_inj_left' ea rfl) aa.less ab.init af.less n
 have qq:=q p nM;cases f with
 |false=>
  refine hb h o0 H0 o _ _ _ S (M++[(p,D0)]) _ D e1 ah hE sM mM qq ⟨?_,ag,ac c.bk,ac c.ct⟩ x;exact fun o' H' δ' S' M' σ' ex ea ae aa ab n=>ac c.nx o' H' δ' S' M' σ' ex ea ae aa ab (by simpa using n)
 |true=>
  refine hb h o0 H0 o _ _ _ S (M++[(p,D0)]) _ { D with nx:=fun σ' H'=>∃a m,σ'[i]?=some (some (.ref a))/\H' a=some (.dK m)/\∀ob,D.nx σ' (upd H' a (.frz ob (.dK m))) } e1 ah hE sM mM qq ⟨?_,ag,ac c.bk,ac c.ct⟩ x;intro o' H' δ' S' M' σ' ex ea ae aa ab n;obtain⟨M1,m,eM,ei,n2⟩:∃M1 m,M'=M1++[(p,DD.k m)]/\δ'[i]?=some (some (.o (.ref p)))/\En.nx (δ'.map (Option.map (j6 p m))) S' M1:=by simpa using n
  subst eM;obtain⟨v,ev,hv⟩:=ae.get i _ ei;have ai:v=.ref p:=hv;subst ai;have nn:=ab.nh p (by rw[zH];simp);have nd:=ab.nd;rw[zH,zH]at ea;rw[zH]at nd;have pn:p∉ad M1:=fun m=>(nodup_append.mp nd).2.2 p m p yv rfl;obtain⟨m',em,l⟩:=ab.ct p (.k m) yv;refine⟨p,m',ev,em,fun ob=>?_⟩;have np:p∉h++ad M1:=fun z=>(mem_append.mp z).elim nn.1 pn;have s2:Same (vx (h++ad (M1++[(p,DD.k m)])) o' H') (vx (h++ad M1) o' (upd H' p (.frz ob (.dK m')))):=fun b w z=>by
   obtain⟨z1,z2,z3⟩:=zC.mp z;rw[zH,<- fy]at z1;have ne:b≠p:=fun z=>z1 (by rw[z];simp);exact zC.mpr ⟨fun mm=>z1 (cn _ mm),z2,by rw[zB ne];exact z3⟩
  refine c.nx o' _ _ S' M1 σ' ⟨ex.pre,fun b w nb zb=>?_⟩ (append_inj_left' ea rfl) (Ge s2 (zC.mpr ⟨np,nn.2,b8⟩) l ae) ?_ ?_ n2
  ·obtain⟨z1,z3⟩:=ex.kp b w nb zb;exact⟨z1,by rw[zB (fun z=>by rw[z,H0p]at zb;cases zb)];exact z3⟩
  ·refine⟨aa.len,aa.nd,fun a ma z=>aa.dis a ma (by rw[zH,<- fy];exact cn _ z),fun b mb=>?_,fun k b ds q1 q2=>?_⟩
   ·obtain⟨w,ew⟩:=aa.hal b (by rw[zH,<- fy];exact cn _ mb);exact⟨w,by rw[zB (fun z=>np (by rw[<- z];exact mb))];exact ew⟩
   ·obtain⟨vs,q3,l3⟩:=aa.cont k b ds q1 q2;exact⟨vs,by rw[zB (fun z=>nn.2 (by rw[<- z];exact bt q1))];exact q3,HasL.mono s2 _ _ l3⟩
  ·have r1:=ab.init;refine⟨r1.nd,r1.nh,fun b D3 mb=>?_⟩;have nb:b≠p:=fun z=>pn (by rw[<- z];exact mem_map.mpr ⟨_,mb,rfl⟩);exact(ab.ct b D3 (cn _ mb)).mono s2 fun w z=>by rw[zB nb];exact z
theorem Il(hb:RSm E EX tb db):RSm E EX (cX (jU tR (gI i)) (uB i tb)) (gF true i (.k []) db):=fun h o0 H0 o H δ σ S M En D e0 fr he hs rm q c x p hp=>
 Jm (f:=true) (D0:=.k []) (u:=.k []) (fun G H z=>⟨[],z,rfl⟩) hb e0 fr he hs rm q c x hp
def gT(dt:DSm):DS:=fun En δ S=>dt { nx:=fun δ' S' _=>En.nx δ' S',rt:=fun x S' _=>En.rt x S',bk:=fun δ' S' _=>En.bk δ' S',ct:=fun δ' S' _=>En.ct δ' S' } δ S []
theorem Jx{t:TS}{dt:DSm}(ht:RSm E EX t dt):RSx E EX t (gT dt):=fun h o H δ σ S En D he hs q c x=>by
 have z:h++ad []=h:=kc _;have nx:∀{N:XE->Sto->Prop}{Y:St->Hp->Prop},Nx h o H N Y->NxM h o H (ad []) (fun δ' S' _=>N δ' S') Y:=fun {N Y} n o' H' δ' S' M' σ' ex ea ac aa _ q'=>by
  rw[ea,z]at ac aa;exact n o' H' δ' S' σ' ex ac aa q'
 refine ht h o H o H δ σ S [] _ D Ex.refl (fun a m=>by cases m) (by rw[z];exact he) (by rw[z];exact hs) RepM.nil q ⟨nx c.nx,?_,nx c.bk,nx c.ct⟩ x;rintro o' H' S' M' y v ex ea aa _ ab q';rw[ea,z]at aa ab;exact c.rt o' H' S' y v ex aa ab q'
theorem FF{t:TS}{dt:DSm}(ht:RSm E0 (fun _ _=>False) t dt):RS t (gT dt):=fun h o H δ σ S En D he hs q c=>Jx ht h o H δ σ S En D he hs q c fun _ _ _ _ _ _ _ _ _ z=>z.elim
end
end
section
def ROp(Φ:Phi)(r:R2)(rd:D2):Prop:=∀(h o:List Addr) (H:Hp) (S:Sto) (x y:XV) (v u:V) (R:RX) (Q:VK),Φ h o H->RepS h o H S->HasX h o H x v->HasX h o H y u->rd x y S R->Cn h o H R Q->r v u H Q
section
variable {Φ:Phi} [Stb Φ] {ta tb:TE}{da db:DE}
theorem CP{r:R2}{rd:D2}(hr:ROp Φ r rd)(ha:REp Φ ta da)(hb:REp Φ tb db):REp Φ (tOp r ta tb) (dOp rd da db):=fun h o H δ σ S R Q he hs q c w=>
 ha h o H δ σ S _ _ he hs q (fun o1 H1 S1 x v e1 s1 x1 d1=>hb h o1 H1 δ σ S1 _ _ (he.mono e1) s1 d1 (fun o2 H2 S2 y u e2 s2 y2 d2=>
  hr h o2 H2 S2 x y v u R Q (Stb.st w (e1.trans e2)) s2 (x1.mono e2) y2 d2 (c.pre (e1.trans e2))) (Stb.st w e1)) w
end
def IsDD(M:DM)(x:XV)(D:DD):Prop:=(∃a,x=.o (.ref a)/\(a,D)∈M)\/∃m,D=.k m/\x=.d (.dict (DD.pairs (.k m)))
theorem Dp{M:DM}{h o:List Addr}{H:Hp}{x:XV}{D:DD}{v:V}(φ:PhM M h o H)(q:IsDD M x D)(hx:HasX h o H x v):∃a,v=.ref a/\RAt (vx h o H) H a D:=by
 rcases q with ⟨a,rfl,m⟩|⟨m,rfl,rfl⟩
 ·obtain⟨h0,rfl,rm⟩:=φ;exact⟨a,hx,(rm.ct a D m).rd⟩
 ·obtain⟨a,ob,m',rfl,e,l⟩:=wI.mp (show Has _ _ v from hx);exact⟨a,rfl,m',.inr ⟨ob,zG _ _ e⟩,l⟩
def sT(n:Bool):R2:=fun y x H Q=>∃a o,x=.ref a/\DGet H a y o/\Q (.bl (if n=true then !o.isSome else o.isSome)) H
theorem FA{X:Cx}(hu:X.A.units+64<cLine):OpR X (jg .In) (sT false):=fun ze s σ H y x v u Q I ry rx ⟨a,o,e,g,q⟩=>by
 subst e;obtain rfl:u=gm a:=rx;exact Iz yw I g ry fun s3 I3=>⟨.bl o.isSome,H,I3,rfl,q⟩
theorem GP{X:Cx}(hu:X.A.units+64<cLine):OpR X (jg .NotIn) (sT true):=fun ze s σ H y x v u Q I ry rx ⟨a,o,e,g,q⟩=>by
 subst e;obtain rfl:u=gm a:=rx;exact Iu yw I g ry fun s3 I3=>⟨.bl (!o.isSome),H,I3,rfl,q⟩
def eW(M:DM)(n:Bool):D2:=fun y x S R=>asD y fun k=>∃D o,IsDD M x D/\D.get k=some o/\R (.d (.bool (if n=true then !o.isSome else o.isSome))) S
theorem Id{G:Hp}{o:Option bp}{r:Option V}(q:RelD G o r):r.isSome=o.isSome:=by
 cases o with
 |none=>rw[show r=none from q];rfl
 |some d=>obtain⟨u,rfl,_⟩:=q;rfl
theorem uS{M:DM}{n:Bool}:ROp (PhM M) (sT n) (eW M n):=fun h o H S y x v u R Q φ hs hy hx q c=>by
 obtain⟨k,rfl,D,r,hD,e,q⟩:=f9 q;obtain⟨a,rfl,da⟩:=Dp φ hD hx;obtain⟨r',g,rr⟩:=da.get zG hy e;refine⟨a,r',rfl,g,?_⟩;rw[Id rr];exact c o H S _ _ Ex.refl hs (xB _) q
def gM(M:DM)(dd dy:DE):DE:=fun δ S R=>dd δ S fun x S1=>dy δ S1 fun y S2=>asD y fun k=>∃D d,IsDD M x D/\D.get k=some (some d)/\R (.d d) S2
theorem GJ{M:DM}{td ty:TE}{dd dy:DE}(hd:REp (PhM M) td dd)(hy:REp (PhM M) ty dy):REp (PhM M) (Cf td ty) (gM M dd dy):=fun h o H δ σ S R Q he hs q c w=>
 hd h o H δ σ S _ _ he hs q (fun o1 H1 S1 x v e1 s1 x1 d1=>hy h o1 H1 δ σ S1 _ _ (he.mono e1) s1 d1 (fun o2 H2 S2 y u e2 s2 y2 d2=>by
  obtain⟨k,rfl,D,d,hD,e,q⟩:=f9 d2;obtain⟨a,rfl,da⟩:=Dp (Stb.st w (e1.trans e2)) hD (x1.mono e2);obtain⟨r',g,r2,rfl,h2⟩:=da.get zG y2 e;exact⟨a,r2,rfl,g,c o2 H2 S2 (.d d) r2 (e1.trans e2) s2 h2 q⟩) (Stb.st w e1)) w
def fA(j:Nat)(dk dv:DM->DE):DSm:=fun En δ S M=>dv M δ S fun x S1=>asD x fun d=>zh j δ S1 fun y S2=>∃a,y=.o (.ref a)/\dk M δ S2 fun z S3=>asD z fun k=>∃D D',(a,D)∈M/\D.put k d=some D'/\D.len<1000/\En.nx δ S3 (fF M a D')
theorem C0{E:XK}{EX:EXD}{j:Nat}{ty tv:TE}{dk dv:DM->DE}(hk:∀M,REp (PhM M) ty (dk M))(hv:∀M,REp (PhM M) tv (dv M)):RSm E EX (Cd (e9 j) ty tv) (fA j dk dv):=fun h o0 H0 o H δ σ S M En D e0 fr he hs rm q c x=>
 hv M (h++ad M) o H δ σ S _ _ he hs q (fun o1 H1 S1 y v e1 s1 x1 d1=>by
  obtain⟨d,rfl,y1,ey,a,rfl,d2⟩:=f9 d1;have ab:=he.mono e1;obtain⟨v1,ev,af⟩:=ab.get j _ ey;have ae:v1=.ref a:=af;subst ae;refine⟨_,ev,hk M (h++ad M) o1 H1 δ σ S1 _ _ ab s1 d2 (fun o2 H2 S2 z u e2 s2 z2 d3=>?_) ⟨h,rfl,rm.mono e1⟩⟩;obtain⟨k,rfl,D1,D2,mD,eD,hl,n⟩:=f9 d3;have aa:=e1.trans e2;have ac:=rm.mono aa;have ma:a∈ad M:=mem_map.mpr ⟨_,mD,rfl⟩;obtain⟨w,pt,fin⟩:=(ac.ct a D1 mD).put zG z2 (x1.mono e2) eD hl;have mh:a∈h++ad M:=fc _ ma;refine⟨a,_,rfl,pt,c.nx o2 _ δ S2 (fF M a D2) σ ⟨(e0.trans aa).pre,fun b w' nb zb=>?_⟩ jG ?_ ?_ (ac.put mD fin) n⟩
  ·obtain⟨z1,z3⟩:=(e0.trans aa).kp b w' nb zb;exact⟨z1,by rw[zB (fun z=>by rw[z,fr a ma]at zb;cases zb)];exact z3⟩
  ·rw[jG];exact(ab.mono e2).view (tW mh)
  ·rw[jG];exact s2.hidden mh) ⟨h,rfl,rm⟩
theorem EY{t t':TS}{d:DS}(h:RS t d)(e:t'=t:=by rfl):RS t' d:=e▸h
end
end L2
namespace L2
open PySem PySem.Spec PySem.Calls PyProof.Rows
theorem Jb{P:fx}{w:io}{H:Hp}{h:Heap}{a:Addr}{ob:Obj}{m:List (Key×V)}(ok:HOk P w H h)(e:H a=some (.frz ob (.dK m))):(a==ly)=false/\m.length<=cx/\∃es ep vs,ob.data=.dict es ep/\KV m vs/\h.DictAt (cI P w) a vs ep:=by
 obtain⟨e1,hz,q,vs,kv,o,es,ep,ho,r1,r2,r3⟩:=(show ObjOk P w H h a (.frz ob (.dK m))from ok a _ e);rw[e1]at ho;cases ho;exact⟨q,hz,es,ep,vs,r2,kv,_,es,e1,r1,r2,r3⟩
def DD.itemsD(m:List (Key×bp)):List bp:=m.map fun p=>.tuple [kD p.1,p.2]
def nO(e:DE):DI:=fun δ S R=>e δ S fun x S1=>∃m,x=.d (.dict (DD.pairs (.k m)))/\R (DD.itemsD m) S1
end L2
namespace L2
open PySem PySem.Spec PyProof.Rows
section
section
variable {E:XK}{EX:EXD}{a b c d e f u:TS}{dt du:DS}{i:Nat}
theorem w4(h:RS (cX a b) dt)(hu:RS u du):RS (cX a (cX b u)) (aA dt du):=EY (zU h hu)
end
end
end L2
namespace HT
open PySem PyProof.Rows
section
open PySem.SeqAt
open PySem.AutoSeq1 (wpAny_loadPart')
open PySem.MeetsSeq PySem.MeetsSeq2 PySem.MeetsSeq3
theorem lexLt_self:∀ns:List Int,lexLt ns ns=false
 | []=>rfl
 |x::xs=>by rw[lexLt_cons,ck rfl,lexLt_self xs]
end
end HT
namespace L2
open PySem PySem.Spec PyProof.Rows
section
def Itd(lo:Int)(n:Nat):It:=⟨fun i _=>i<n,fun i H x H'=>H'=H/\x=.int (lo-i),fun i _=>n<=i⟩
theorem IA{P:fx}{w:io}{K:cy}{tg:Expr}(it:Addr)(lo:Int)(n:Nat):Turn P w K tg (Itd lo n) [it] it (fun i h=>IsRangeIter h it (lo+(i:Nat)*(-1)) ((n:Int)-(i:Nat)) (-1)) where
 mem:=by simp
 obj:=fun i h st b hb=>by
  have e:b=it:=by simpa using hb
  subst e;exact⟨_,st,fun v z=>by
   have z':Data.fields _=Data.cell v:=z;cases z'⟩
 keep:=fun i h h' st k=>k it yv _ st
 item:=by
  intro X hP hw hK hc i ze s σ H E I hf st hg;subst hP hw hK;obtain⟨f0,f1,f2,f3,f4,f5⟩:=hf it yv;have W:=Walks.range (prog:=X.prog) (w:=X.w) (I.ok.hd hc) it lo (-1) n;refine W.item i s _ _ hg st fun v h' tk hv st' kk=>?_;obtain⟨t,rfl⟩:=hv;have I1:Inv X ze σ H { s with heap:=h',toks:=tk }:=I.turned (fun b o hb e=>kk b o (by simpa using hb) e) f0 f1 f3 f4 f5;refine⟨_,rfl,mX (s:={ s with heap:=h',toks:=tk }) (n:="range_iterator") st' rfl rfl dz ⟨.int (lo-i),H,I1,⟨t,?_⟩,⟨rfl,rfl⟩,st',fun b hb=>(hf b hb).1⟩⟩;rw[show lo+(i:Int)*(-1)=lo-i by omega]
 done:=by
  intro X hP hw hK hc i ze s σ H E I hf st hg;subst hP hw hK;obtain⟨f0,f1,f2,f3,f4,f5⟩:=hf it yv;exact wpAny_pyNext_range_end (I.ok.hd hc) st (by have:n<=i:=hg;omega) fun h' eb=>⟨rfl,I.turned (t':=s.toks) (fun b o hb e=>eb b o hb e) f0 f1 f3 f4 f5⟩
 self:=fun _ _ _ _ _ st h=>wpAny_pyIter_rangeiter st h
section
variable {X:Cx}{tg:Expr}
theorem K4{ze:List (Addr×Obj)}{σ:St}{H:Hp}{s:bq}{R:It->Hp->Prop}{E:bn->bq->Prop}{lo hi:Int}{t u v:Tok}{tk:Nat}(I:Inv X ze σ H s)(h1:-1000<=lo/\lo<=1000)(h2:-1000<=hi/\hi<=1000)
  (q:R (Itd lo (lo-hi).toNat) H):cw (model X.prog X.w) X.A (pyIter (.ref s.heap.objs.size)) (PIE X ze σ tg R) E { s with heap:=s.heap.push { cls:=.type "range",data:=.fields #[.int lo t,.int hi u,.int (-1) v] },toks:=tk }:=by
 have I1:Inv X ze σ H { s with heap:=s.heap.push { cls:=.type "range",data:=.fields #[.int lo t,.int hi u,.int (-1) v] },toks:=tk }:=I.kept fun b o e=>bw _ e;have e1:lo+((0:Nat):Int)*(-1)=lo:=by simp
 have e2:(((lo-hi).toNat:Nat):Int)-((0:Nat):Int)=Builtin.Range.rangeSize lo hi (-1):=by
  unfold Builtin.Range.rangeSize;rw[ci dz];split
  ·rw[show (- -1:Int)=1 by decide,Int.ediv_one];omega
  ·omega
 have y:Builtin.Range.small lo hi (-1)=true:=by
  unfold Builtin.Range.small;rw[<- e2,ci dz];simp only[Builtin.Range.rangeFitsLong,jw,Bool.or_eq_true,decide_eq_true_eq,beq_iff_eq];omega
 refine wpAny_pyIter_range (IsRange.new ..) y ?_;refine⟨(s.heap.push { cls:=.type "range",data:=.fields #[.int lo t,.int hi u,.int (-1) v] }).objs.size,[(s.heap.push { cls:=.type "range",data:=.fields #[.int lo t,.int hi u,.int (-1) v] }).objs.size],_,_,H,rfl,
  I1.kept (t':=tk) fun b o e=>bw _ e,IA _ lo (lo-hi).toNat,?_,fun b hb=>?_,q⟩
 ·show IsRangeIter _ _ (lo+((0:Nat):Int)*(-1)) ((((lo-hi).toNat:Nat):Int)-((0:Nat):Int)) (-1);rw[e1,e2];exact fj _ rfl
 ·have e:b=(s.heap.push { cls:=.type "range",data:=.fields #[.int lo t,.int hi u,.int (-1) v] }).objs.size:=by simpa using hb
  subst e;exact I1.fpOk (cu _) (I1.hok.fresh (cu _))
def AL(ta:TA):TI:=fun σ H R=>ta σ H fun vs H1=>∃i j:Int,vs=[.int i,.int j,.int (-1)]/\(-1000<=i/\i<=1000)/\(-1000<=j/\j<=1000)/\R (Itd i (i-j).toNat) H1
theorem K8{a b c:Expr}{ta:TA}{p pos:Pos}(hg:Gl X "range")(hm:X.mg "range" = none)(ha:PA X [a,b,c] ta)(hs:fq [a,b,c] X.env=[(false,eval a X.env),(false,eval b X.env),(false,eval c X.env)]:=by rfl)(y:fq [b,c] X.env=[(false,eval b X.env),(false,eval c X.env)]:=by rfl):
  PI X tg (.Call (.Name "range" p) [a,b,c] [] pos) (AL ta):=by
 intro ze s σ H R I h;refine Call_ (eO I hg hm boot_range (km (thn (ha pos ze s σ H _ I h) fun us s1 ⟨vs,H1,I1,r1,q1⟩=>?_) (by rw[hs,y]) (by rw[y];rfl)));obtain⟨i,j,e,h1,h2,q⟩:=q1;subst e;cases r1 with
 |cons r rr=>
  cases rr with
  |cons r' rr=>
   cases rr with
   |cons r'' rr=>
    cases rr;obtain⟨t,rfl⟩:=r;obtain⟨t',rfl⟩:=r';obtain⟨t'',rfl⟩:=r'';exact call_range_3 dz (K4 I1 h1 h2 q) (.inl (PyProof.noPylong_small yw))
end
def jP(lo:Int)(n:Nat):List bp:=(ga n).map fun k:Nat=>.int (lo-k)
theorem tY{lo:Int}{n i:Nat}{d:bp}(h:(jP lo n)[i]?=some d):i<n/\d=.int (lo-i):=by
 unfold jP at h;rw[gg]at h;by_cases hi:i<n
 ·rw[ql hi]at h;exact⟨hi,(gz h).symm⟩
 ·rw[nc (by simpa using Nat.le_of_not_lt hi)]at h;cases h
theorem Gw{h o:List Addr}{H:Hp}{lo:Int}{n:Nat}:WalkX h o H (Itd lo n) (jP lo n) where
 stop:=fun i _ _ _ hi=>by
  have h':n<=i:=by simpa[jP]using hi
  exact h'
 go:=fun i d _ _ _ hi=>(tY hi).1
 yld:=fun i d o2 H2 x H3 S2 _ _ hi y=>by
  obtain⟨e,ex⟩:=y;subst e ex;rw[(tY hi).2];exact⟨Same.refl _,cQ.mpr rfl⟩
def jB(a:DA):DI:=fun δ S R=>a δ S fun xs S1=>∃i j:Int,xs=[.d (.int i),.d (.int j),.d (.int (-1))]/\(-1000<=i/\i<=1000)/\(-1000<=j/\j<=1000)/\R (jP i (i-j).toNat) S1
theorem Ep{ta:TA}{da:DA}(ha:RA ta da):RI (AL ta) (jB da):=fun h o H δ σ S R Q he hs q c=>
 ha h o H δ σ S _ _ he hs q fun o1 H1 S1 xs vs e1 s1 x1 d0=>by
  obtain⟨i,j,rfl,h1,h2,d1⟩:=d0;obtain⟨v1,r1,rfl,ab,l1⟩:=x1;obtain⟨v2,r2,rfl,aa,l2⟩:=l1;obtain⟨v3,r3,rfl,y,l3⟩:=l2;have l4:r3=[]:=l3;subst l4;rw[aU ab,aU aa,aU y];exact⟨i,j,rfl,h1,h2,c o1 H1 S1 _ _ e1 s1 Gw d1⟩
end
end L2
namespace L2
open PySem PyProof.Rows
def Dg:Bool->cq->Array cq->Nat->Nat->Nat->StateT gu Sem (Option Nat):=sortPriv% PySem.Builtin.gallop
def J6:Array cq->Array cq->StateT gu Sem (Array cq):=sortPriv% PySem.Builtin.mergeLo
def FV:Array cq->Array cq->StateT gu Sem (Array cq):=sortPriv% PySem.Builtin.mergeHi
structure LtOk(prog:fx)(w:io)(A:iz)(E:bn->bq->Prop)(s:bq)(kd:pz)(D:cq->Prop)(lt:cq->cq->Bool):Prop where
 ask:∀x y (st:gu) (Q:Option Bool->gu->Prop),D x->D y->kindOf st=kd->Q (some (lt x y)) st->wpS (model prog w) A E s (lt' x y) Q st
 asym:∀x y,D x->D y->lt x y=true->lt y x=false
 tr:∀x y z,D x->D y->D z->lt y x=false->lt z y=false->lt z x=false
section
variable {prog:fx}{w:io}{A:iz}{E:bn->bq->Prop}{s:bq}{kd:pz}{D:cq->Prop}{lt:cq->cq->Bool}
theorem zx{y:Array cq}{i:Nat}{x:cq}{Q:cq->gu->Prop}{st:gu}(h:y[i]?=some x)(q:Q x st):wpS (model prog w) A E s (elem' y i) Q st:=by
 rw[elem'_eq,h];exact bx q
def bey(lt:cq->cq->Bool)(left:Bool)(key x:cq):Bool:=if left=true then lt x key else !lt key x
theorem lG(O:LtOk prog w A E s kd D lt){left:Bool}{key x:cq}{aa:Array cq}{i:Nat}{Q:Option Bool->gu->Prop}{st:gu}(hk:kindOf st=kd)(hD:D key)(hg:aa[i]?=some x)(hx:D x)(q:Q (some (bey lt left key x)) st):
  wpS (model prog w) A E s (do
   let y <- elem' aa i
   if left=true then lt' y key
    else do
     let r <- lt' key y
     pure (Option.map (fun b=>!b) r)) Q st:=by
 refine bv (zx hg ?_);unfold bey at q;by_cases h:left=true
 ·rw[ck h]at q ⊢;exact O.ask _ _ _ _ hx hD hk q
 ·rw[ci h]at q ⊢;exact bv (O.ask _ _ _ _ hD hx hk (bx q))
theorem yA{n:Nat}{p:Nat->Bool}{α:Type}{f:Nat->Option α×Nat×Nat->StateT gu Sem (ForInStep (Option α×Nat×Nat))}{Q:Option α×Nat×Nat->gu->Prop}{st:gu}
  (hf:∀x lo hi (Q':ForInStep (Option α×Nat×Nat)->gu->Prop),hi<=n->(hi<=lo->Q' (.done (none,lo,hi)) st)->(lo<hi->p (lo+(hi-lo)/2)=true->Q' (.yield (none,lo+(hi-lo)/2+1,hi)) st) ->
   (lo<hi->p (lo+(hi-lo)/2)=false->Q' (.yield (none,lo,lo+(hi-lo)/2)) st)->wpS (model prog w) A E s (f x (none,lo,hi)) Q' st)
  (hmono:∀i j,i<=j->j<n->p j=true->p i=true) {lo hi:Nat} (h1:lo<=hi) (h2:hi<=n) (h3:∀i,i<lo->p i=true) (h4:∀i,hi<=i->i<n->p i=false)
  (q:∀k,k<=n->(∀i,i<k->p i=true)->(∀i,k<=i->i<n->p i=false)->Q (none,k,k) st):wpS (model prog w) A E s (forIn [:n] (none,lo,hi) f) Q st:=by
 refine ig (I:=fun k c st'=>st'=st/\∃lo hi,c=(none,lo,hi)/\lo<=hi/\hi<=n/\hi-lo+k<=n/\(∀i,i<lo->p i=true)/\∀i,hi<=i->i<n->p i=false) ?step ?fin ⟨rfl,lo,hi,rfl,h1,h2,yw,h3,h4⟩
 case fin=>
  rintro c st' ⟨rfl,lo,hi,rfl,a1,a2,a3,a4,a5⟩;have:lo=hi:=yw
  subst this;exact q lo a2 a4 a5
 case step=>
  rintro k c st' _ ae ⟨rfl,lo,hi,rfl,a1,a2,a3,a4,a5⟩;refine hf k lo hi _ a2 (fun ac=>?_) (fun aa hp=>?_) fun aa hp=>?_
  ·have:lo=hi:=yw
   subst this;exact q lo a2 a4 a5
  ·refine⟨rfl,_,_,rfl,yw,a2,yw,fun i y=>?_,a5⟩;exact hmono i (lo+(hi-lo)/2) yw yw hp
  ·refine⟨rfl,_,_,rfl,yw,yw,yw,a4,fun i y ab=>?_⟩;cases hpi:p i with
   |false=>rfl
   |true=>rw[hmono (lo+(hi-lo)/2) i y ab hpi]at hp;cases hp
theorem K5(O:LtOk prog w A E s kd D lt){left:Bool}{key:cq}{ae:Array cq}{base n hint:Nat}{Q:Option Nat->gu->Prop}{st:gu}(hk:kindOf st=kd)(hD:D key)(g:Nat->cq)(hg:∀i,i<n->ae[base+i]?=some (g i))(aa:∀i,i<n->D (g i))
  (hmono:∀i j,i<=j->j<n->bey lt left key (g j)=true->bey lt left key (g i)=true) (hh:hint<n)
  (q:∀k,k<=n->(∀i,i<k->bey lt left key (g i)=true)->(∀i,k<=i->i<n->bey lt left key (g i)=false)->Q (some k) st):wpS (model prog w) A E s (Dg left key ae base n hint) Q st:=by
 have ac:∀i j,i<=j->j<n->bey lt left key (g i)=false->bey lt left key (g j)=false:=fun i j h1 h2 h3=>by
  cases h:bey lt left key (g j)with
  |false=>rfl
  |true=>rw[hmono i j h1 h2 h]at h3;cases h3
 refine bv (lG O hk hD (hg hint hh) (aa hint hh) ?_);cases hb:bey lt left key (g hint)with
 |true=>
  simp only[if_true];refine bv (kh (ig (I:=fun k c st'=>st'=st/\∃la y,c=(none,la,y)/\la<y/\k+1<=y/\hint+la<n/\bey lt left key (g (hint+la))=true)
   (Q:=fun c st'=>st'=st/\∃la y,c=(none,la,y)/\la<y/\hint+la<n/\bey lt left key (g (hint+la))=true/\(n-hint<=y\/(hint+y<n/\bey lt left key (g (hint+y))=false))) ?step ?fin ⟨rfl,0,1,rfl,yw,yw,yw,hb⟩) ?post)
  case step=>
   rintro k c st' _ af ⟨rfl,la,y,rfl,h1,h2,h3,h4⟩;by_cases ho:y≥n-hint
   ·rw[ck ho];exact bx ⟨rfl,la,y,rfl,h1,h3,h4,.inl ho⟩
   ·rw[ci ho];have hn:hint+y<n:=yw
    refine bv (lG O hk hD (hg _ hn) (aa _ hn) ?_);cases hb2:bey lt left key (g (hint+y))with
    |true=>exact bx ⟨rfl,y,2*y+1,rfl,yw,yw,hn,hb2⟩
    |false=>exact bx ⟨rfl,la,y,rfl,h1,h3,h4,.inr ⟨hn,hb2⟩⟩
  case fin=>
   rintro c st' ⟨rfl,la,y,rfl,h1,h2,h3,h4⟩;exact⟨rfl,la,y,rfl,h1,h3,h4,.inl yw⟩
  case post=>
   rintro c st' ⟨rfl,la,y,rfl,h1,h3,h4,h5⟩;dsimp only;refine bv (yA (p:=fun i=>bey lt left key (g i)) ?hf hmono yw yw (fun i hi=>hmono i (hint+la) yw h3 h4) (fun i hi ab=>?_) fun k k1 k2 k3=>?_)
   case hf=>
    intro x lo hi Q' hn e1 e2 e3;by_cases ho:lo≥hi
    ·rw[ck ho];exact bx (e1 ho)
    ·rw[ci ho];have hm:lo+(hi-lo)/2<n:=yw
     refine bv (lG O hk hD (hg _ hm) (aa _ hm) ?_);dsimp only;cases hb2:bey lt left key (g (lo+(hi-lo)/2))with
     |true=>exact bx (e2 yw hb2)
     |false=>exact bx (e3 yw hb2)
   ·rcases h5 with h5|⟨h5,h6⟩
    ·omega
    ·exact ac (hint+y) i yw ab h6
   ·exact bx (q k k1 k2 k3)
 |false=>
  simp only[fg,if_false];refine bv (kh (ig (I:=fun k c st'=>st'=st/\∃la y,c=(none,la,y)/\la<y/\k+1<=y/\la<=hint/\bey lt left key (g (hint-la))=false)
   (Q:=fun c st'=>st'=st/\∃la y,c=(none,la,y)/\la<y/\la<=hint/\bey lt left key (g (hint-la))=false/\(hint+1<=y\/(y<=hint/\bey lt left key (g (hint-y))=true))) ?step ?fin ⟨rfl,0,1,rfl,yw,yw,yw,hb⟩) ?post)
  case step=>
   rintro k c st' _ af ⟨rfl,la,y,rfl,h1,h2,h3,h4⟩;by_cases ho:y≥hint+1
   ·rw[ck ho];exact bx ⟨rfl,la,y,rfl,h1,h3,h4,.inl ho⟩
   ·rw[ci ho];have hn:hint-y<n:=yw
    refine bv (lG O hk hD (hg _ hn) (aa _ hn) ?_);cases hb2:bey lt left key (g (hint-y))with
    |true=>exact bx ⟨rfl,la,y,rfl,h1,h3,h4,.inr ⟨yw,hb2⟩⟩
    |false=>exact bx ⟨rfl,y,2*y+1,rfl,yw,yw,yw,hb2⟩
  case fin=>
   rintro c st' ⟨rfl,la,y,rfl,h1,h2,h3,h4⟩;exact⟨rfl,la,y,rfl,h1,h3,h4,.inl yw⟩
  case post=>
   rintro c st' ⟨rfl,la,y,rfl,h1,h3,h4,h5⟩;dsimp only;refine bv (yA (p:=fun i=>bey lt left key (g i)) ?hf hmono yw yw (fun i hi=>?_) (fun i hi ab=>ac (hint-la) i yw ab h4) fun k k1 k2 k3=>?_)
   case hf=>
    intro x lo hi Q' hn e1 e2 e3;by_cases ho:lo≥hi
    ·rw[ck ho];exact bx (e1 ho)
    ·rw[ci ho];have hm:lo+(hi-lo)/2<n:=yw
     refine bv (lG O hk hD (hg _ hm) (aa _ hm) ?_);dsimp only;cases hb2:bey lt left key (g (lo+(hi-lo)/2))with
     |true=>exact bx (e2 yw hb2)
     |false=>exact bx (e3 yw hb2)
   ·rcases h5 with h5|⟨h5,h6⟩
    ·omega
    ·exact hmono i (hint-y) yw yw h6
   ·exact bx (q k k1 k2 k3)
def SrtL(lt:cq->cq->Bool)(l:List cq):Prop:=l.Pairwise fun x y=>lt y x=false
structure MI(lt:cq->cq->Bool)(L0 out A B:List cq):Prop where
 pm:(out++(A++B)).Perm L0
 so:SrtL lt out
 le:∀x∈out,∀y∈A++B,lt y x=false
 sa:SrtL lt A
 sb:SrtL lt B
theorem Dr{l:List cq}{x:cq}(h:SrtL lt l)(k:∀y∈l,lt x y=false):SrtL lt (l++[x]):=by
 unfold SrtL at *;rw[rf];exact⟨h,yv,fun y m z mz=>by rw[mem_singleton.mp mz];exact k y m⟩
theorem MI.takeA{L0 out A B:List cq}{x:cq}(h:MI lt L0 out (x::A) B)(k:∀y∈B,lt y x=false):MI lt L0 (out++[x]) A B:=by
 have sa:=h.sa;unfold SrtL at sa;rw[qu]at sa;refine⟨by rw[fy];exact h.pm,Dr h.so fun y m=>h.le y m x yv,fun z mz y my=>?_,sa.2,h.sb⟩;rcases mem_append.mp mz with mz|mz
 ·exact h.le z mz y (by rcases mem_append.mp my with m|m<;>simp[m])
 ·rw[mem_singleton.mp mz];rcases mem_append.mp my with m|m
  ·exact sa.1 y m
  ·exact k y m
theorem MI.takeB{L0 out A B:List cq}{y:cq}(h:MI lt L0 out A (y::B))(k:∀x∈A,lt x y=false):MI lt L0 (out++[y]) A B:=by
 have sb:=h.sb;unfold SrtL at sb;rw[qu]at sb;refine⟨?_,Dr h.so fun x m=>h.le x m y yv,fun z mz x mx=>?_,h.sa,sb.2⟩
 ·refine .trans ?_ h.pm;rw[fy];refine List.Perm.append_left _ ?_;exact(List.perm_middle (a:=y) (l₁:=A) (l₂:=B)).symm
 ·rcases mem_append.mp mz with mz|mz
  ·exact h.le z mz x (by rcases mem_append.mp mx with m|m<;>simp[m])
  ·rw[mem_singleton.mp mz];rcases mem_append.mp mx with m|m
   ·exact k x m
   ·exact sb.1 x m
theorem MI.takesA{L0:List cq}:∀{X out A B:List cq},MI lt L0 out (X++A) B->(∀x∈X,∀y∈B,lt y x=false)->MI lt L0 (out++X) A B
 | [],out,A,B,h,_=>by simpa using h
 |x::X,out,A,B,h,k=>by
  have:=MI.takesA (MI.takeA h (k x fu)) fun z m=>k z (cz _ m);simpa using this
theorem MI.takesB{L0:List cq}:∀{Y out A B:List cq},MI lt L0 out A (Y++B)->(∀y∈Y,∀x∈A,lt x y=false)->MI lt L0 (out++Y) A B
 | [],out,A,B,h,_=>by simpa using h
 |y::Y,out,A,B,h,k=>by
  have:=MI.takesB (MI.takeB h (k y fu)) fun z m=>k z (cz _ m);simpa using this
def MDone(lt:cq->cq->Bool)(L0 l:List cq):Prop:=l.Perm L0/\SrtL lt l
theorem MI.doneA{L0 out A:List cq}(h:MI lt L0 out A []):MDone lt L0 (out++A):=by
 refine⟨by simpa using h.pm,?_⟩;unfold SrtL;rw[rf];exact⟨h.so,h.sa,fun x m y m'=>h.le x m y (by simpa using m')⟩
theorem MI.lastA{L0 out B:List cq}{x:cq}(h:MI lt L0 out [x] B)(k:∀y∈B,lt x y=false):MDone lt L0 (out++B++[x]):=by
 have h2:MI lt L0 (out++B) [x] []:=MI.takesB (B:=[]) (by simpa using h) fun y m z mz=>by rw[mem_singleton.mp mz];exact k y m
 exact h2.doneA
def sameSt(st st':gu):Prop:=kindOf st'=kindOf st/\bz st'=bz st/\cr st'=cr st/\qv st'=qv st
theorem sameSt.rfl'{st:gu}:sameSt st st:=⟨rfl,rfl,rfl,rfl⟩
theorem LtOk.irr(O:LtOk prog w A E s kd D lt){x:cq}(h:D x):lt x x=false:=by
 cases e:lt x x with
 |false=>rfl
 |true=>rw[O.asym x x h h e]at e;cases e
theorem b9(O:LtOk prog w A E s kd D lt){l:List cq}(h:SrtL lt l)(hD:∀x∈l,D x){i j:Nat}{x y:cq}(ij:i<=j)(hx:l[i]?=some x)(hy:l[j]?=some y):lt y x=false:=by
 rcases Nat.lt_or_eq_of_le ij with h1|h1
 ·obtain⟨hi,ex⟩:=List.getElem?_eq_some_iff.mp hx;obtain⟨hj,ey⟩:=List.getElem?_eq_some_iff.mp hy;have:=List.pairwise_iff_getElem.mp h i j hi hj h1;rw[ex,ey]at this;exact this
 ·subst h1;rw[hx]at hy;cases hy;exact O.irr (hD x (bt hx))
theorem kH{l:List cq}{i:Nat}{x:cq}(h:l[i]?=some x):l.drop i=x::l.drop (i+1):=by
 obtain⟨hi,e⟩:=List.getElem?_eq_some_iff.mp h;rw[gv hi,e]
theorem bS{a:Array cq}{i:Nat}(h:i<a.size):∃x,a[i]?=some x/\a.toList[i]?=some x:=⟨a[i],by simp[h],by simp[h]⟩
theorem gX{l:List cq}{i:Nat}{y:cq}(h:y∈l.drop i):∃j,i<=j/\l[j]?=some y:=by
 obtain⟨j,hj⟩:=mem_iff_getElem?.mp h;rw[qc]at hj;exact⟨i+j,yw,hj⟩
structure MInv(lt:cq->cq->Bool)(a b out:Array cq)(ia ib:Nat):Prop where
 mi:MI lt (a.toList++b.toList) out.toList (a.toList.drop ia) (b.toList.drop ib)
 ha:ia+1<a.size
 hb:ib<b.size
section
variable {a b out:Array cq}{ia ib:Nat}
theorem MInv.stepB(O:LtOk prog w A E s kd D lt)(q:∀x∈a.toList,D x)(ab:∀x∈b.toList,D x)(aa:SrtL lt a.toList){x y:cq}(h:MInv lt a b out ia ib)(hx:a.toList[ia]?=some x)(hy:b.toList[ib]?=some y)(l:lt y x=true):
  MI lt (a.toList++b.toList) (out.push y).toList (a.toList.drop ia) (b.toList.drop (ib+1)):=by
 have m:=h.mi;rw[kH hy]at m;have:=m.takeB fun z mz=>by
  obtain⟨j,hj,ez⟩:=gX mz;have Dx:=q x (bt hx);have Dy:=ab y (bt hy);have Dz:=q z (bt ez);exact O.tr y x z Dy Dx Dz (O.asym y x Dy Dx l) (b9 O aa q hj hx ez)
 simpa using this
theorem MInv.stepA(O:LtOk prog w A E s kd D lt)(aa:∀x∈a.toList,D x)(q:∀x∈b.toList,D x)(ab:SrtL lt b.toList){x y:cq}(h:MInv lt a b out ia ib)(hx:a.toList[ia]?=some x)(hy:b.toList[ib]?=some y)(l:lt y x=false):
  MI lt (a.toList++b.toList) (out.push x).toList (a.toList.drop (ia+1)) (b.toList.drop ib):=by
 have m:=h.mi;rw[kH hx]at m;have:=m.takeA fun z mz=>by
  obtain⟨j,hj,ez⟩:=gX mz;exact O.tr x y z (aa x (bt hx)) (q y (bt hy)) (q z (bt ez)) l (b9 O ab q hj hy ez)
 simpa using this
theorem kE(a:Array cq)(i:Nat):(a.extract i a.size).toList=a.toList.drop i:=by
 rw[nj,jv,jt yv]
theorem kO(q:ib=b.size)(m:MI lt (a.toList++b.toList) out.toList (a.toList.drop ia) (b.toList.drop ib)):MDone lt (a.toList++b.toList) (out++a.extract ia a.size++b.extract ib b.size).toList:=by
 have e:b.toList.drop ib=[]:=List.drop_of_length_le (by simp[q]);rw[jc,jc,kE,kE,e,kc];rw[e]at m;exact m.doneA
theorem JV(q:ia=a.size)(m:MI lt (a.toList++b.toList) out.toList (a.toList.drop ia) (b.toList.drop ib)):MDone lt (a.toList++b.toList) (out++a.extract ia a.size++b.extract ib b.size).toList:=by
 have e:a.toList.drop ia=[]:=List.drop_of_length_le (by simp[q]);rw[jc,jc,kE,kE,e,kc];rw[e]at m;have h2:MI lt (a.toList++b.toList) (out.toList++b.toList.drop ib) [] []:=MI.takesB (B:=[]) (by simpa using m) (fun y my x mx=>by cases mx);have:=h2.doneA;simpa using this
theorem iI(hl:∀x,a[a.size-1]?=some x->∀y∈b.toList,lt x y=false)(h1:ia+1=a.size)(m:MI lt (a.toList++b.toList) out.toList (a.toList.drop ia) (b.toList.drop ib)):MDone lt (a.toList++b.toList) (out++b.extract ib b.size++a.extract ia a.size).toList:=by
 obtain⟨x,e1,e2⟩:=bS (a:=a) (i:=ia) yw;have ed:a.toList.drop ia=[x]:=by
  rw[kH e2,List.drop_of_length_le (by simp;omega)]
 rw[ed]at m;have hx:=hl x (by rw[show a.size-1=ia by omega];exact e1);have:=m.lastA fun y my=>hx y (pk my);rw[jc,jc,kE,kE,ed];exact this
end
theorem gal(O:LtOk prog w A E s kd D lt){left:Bool}{key:cq}{aa:Array cq}{base n hint:Nat}{Q:Option Nat->gu->Prop}{st:gu}(hk:kindOf st=kd)(Dk:D key)(hD:∀j,base<=j->j<base+n->∃x,aa[j]?=some x/\D x)
  (hs:∀i j x y,base<=i->i<=j->j<base+n->aa[i]?=some x->aa[j]?=some y->lt y x=false) (hh:hint<n)
  (q:∀k,k<=n->(∀j x,base<=j->j<base+k->aa[j]?=some x->bey lt left key x=true)->(∀j x,base+k<=j->j<base+n->aa[j]?=some x->bey lt left key x=false)->Q (some k) st):wpS (model prog w) A E s (Dg left key aa base n hint) Q st:=by
 have hg:∀i,i<n->aa[base+i]?=some ((aa[base+i]?).getD key):=fun i hi=>by
  obtain⟨x,e,_⟩:=hD (base+i) yw yw;rw[e];rfl
 have ab:∀i,i<n->D ((aa[base+i]?).getD key):=fun i hi=>by
  obtain⟨x,e,d⟩:=hD (base+i) yw yw;rw[e];exact d
 refine K5 O hk Dk (fun i=>(aa[base+i]?).getD key) hg ab (fun i j ae hj hb=>?_) hh fun k k1 k2 k3=>q k k1 (fun j x h1 h2 e=>?_) fun j x h1 h2 e=>?_
 ·have s1:=hs (base+i) (base+j) _ _ yw yw yw (hg i yw) (hg j hj);have Di:=ab i yw;have Dj:=ab j hj
  try dsimp only at hb ⊢
  generalize (aa[base+i]?).getD key=x at s1 Di ⊢;generalize (aa[base+j]?).getD key=y at s1 Dj hb;cases left with
  |true=>
   unfold bey at hb ⊢;rw[ck rfl]at hb ⊢;cases hx:lt x key with
   |true=>rfl
   |false=>rw[O.tr key x y Dk Di Dj hx s1]at hb;cases hb
  |false=>
   unfold bey at hb ⊢;rw[ci dz]at hb ⊢;have ac:lt key y=false:=by simpa using hb
   rw[O.tr x y key Di Dj Dk s1 ac];rfl
 ·have:=k2 (j-base) yw
  try dsimp only at this
  rw[show base+(j-base)=j by omega,e]at this;exact this
 ·have:=k3 (j-base) yw yw
  try dsimp only at this
  rw[show base+(j-base)=j by omega,e]at this;exact this
theorem uY{a:Array cq}{i k:Nat}:(a.extract i (i+k)).toList=(a.toList.drop i).take k:=by
 rw[nj,jv,Nat.add_sub_cancel_left]
theorem rQ{l:List cq}{i k:Nat}{x:cq}(h:x∈(l.drop i).take k):∃j,i<=j/\j<i+k/\l[j]?=some x:=by
 obtain⟨j,hj⟩:=mem_iff_getElem?.mp h;rw[getElem?_take]at hj;split at hj
 ·rw[qc]at hj;exact⟨i+j,yw,yw,hj⟩
 ·cases hj
theorem kR(a:Array cq)(i:Nat):a.extract i (i+0) = #[]:=by
 apply Array.toList_inj.mp;rw[uY,take_zero]
section
variable {a b out:Array cq}{ia ib k:Nat}{L0:List cq}
theorem HU(m:MI lt L0 out.toList (a.toList.drop ia) (b.toList.drop ib))(h:∀j x,ia<=j->j<ia+k->a.toList[j]?=some x->∀y∈b.toList.drop ib,lt y x=false):MI lt L0 (out++a.extract ia (ia+k)).toList (a.toList.drop (ia+k)) (b.toList.drop ib):=by
 rw[jc,uY];refine MI.takesA ?_ fun x mx y my=>?_
 ·rw[<- List.drop_drop,jo];exact m
 ·obtain⟨j,h1,h2,e⟩:=rQ mx;exact h j x h1 h2 e y my
theorem yI(m:MI lt L0 out.toList (a.toList.drop ia) (b.toList.drop ib))(h:∀j y,ib<=j->j<ib+k->b.toList[j]?=some y->∀x∈a.toList.drop ia,lt x y=false):MI lt L0 (out++b.extract ib (ib+k)).toList (a.toList.drop ia) (b.toList.drop (ib+k)):=by
 rw[jc,uY];refine MI.takesB ?_ fun x mx y my=>?_
 ·rw[<- List.drop_drop,jo];exact m
 ·obtain⟨j,h1,h2,e⟩:=rQ mx;exact h j x h1 h2 e y my
theorem qO(m:MI lt L0 out.toList (a.toList.drop ia) (b.toList.drop ib)){x:cq}(hx:a.toList[ia]?=some x)(h:∀y∈b.toList.drop ib,lt y x=false):MI lt L0 (out.push x).toList (a.toList.drop (ia+1)) (b.toList.drop ib):=by
 rw[kH hx]at m;have:=m.takeA h;simpa using this
theorem BQ(m:MI lt L0 out.toList (a.toList.drop ia) (b.toList.drop ib)){y:cq}(hy:b.toList[ib]?=some y)(h:∀x∈a.toList.drop ia,lt x y=false):MI lt L0 (out.push y).toList (a.toList.drop ia) (b.toList.drop (ib+1)):=by
 rw[kH hy]at m;have:=m.takeB h;simpa using this
end
theorem zY{a:Array cq}{i:Nat}{x:cq}:a[i]?=some x↔a.toList[i]?=some x:=by simp
theorem fin3{prog:fx}{w:io}{A:iz}{E:bn->bq->Prop}{s:bq}{τ:Type}{P C:Prop}{_:Decidable P}{f g:StateT gu Sem τ}{Q':τ->gu->Prop}{st':gu}(hf:C->wpS (model prog w) A E s f Q' st')(hg:C->wpS (model prog w) A E s g Q' st')(h:C):wpS (model prog w) A E s (if P then f else g) Q' st':=by
 split
 ·exact hf h
 ·exact hg h
theorem GK(O:LtOk prog w A E s kd D lt){a b:Array cq}{Q:Array cq->gu->Prop}{st:gu}(hk:kindOf st=kd)(au:∀x∈a.toList,D x)(ax:∀x∈b.toList,D x)(ha:SrtL lt a.toList)(hb:SrtL lt b.toList)(av:1<=a.size)(ay:1<=b.size)
  (h0:∀y,b[0]?=some y->∀x∈a.toList,lt x y=false) (hl:∀x,a[a.size-1]?=some x->∀y∈b.toList,lt x y=false)
  (q:∀(out:Array cq) st',MDone lt (a.toList++b.toList) out.toList->sameSt st st'->Q out st'):wpS (model prog w) A E s (J6 a b) Q st:=by
 refine bv (wpS_lift (on ⟨rfl,?_⟩));obtain⟨y0,bi,bh⟩:=bS (a:=b) (i:=0) (by clear av;omega);refine bv (zx bi ?_);have m0:MI lt (a.toList++b.toList) [] a.toList b.toList:=⟨List.Perm.refl _,List.Pairwise.nil,(fun x m=>by cases m),ha,hb⟩;have m1:MI lt (a.toList++b.toList) (#[y0]:Array cq).toList (a.toList.drop 0) (b.toList.drop 1):=by
  have e:b.toList=y0::b.toList.drop 1:=by have:=kH bh;simpa using this
  have m2:MI lt (a.toList++b.toList) [] a.toList (y0::b.toList.drop 1):=by
   have:=m0
   conv at this=>arg 5;rw[e]
   exact this
  have:=m2.takeB (h0 y0 bi);simpa using this
 by_cases c1:1=b.size
 ·rw[ck (by simpa using c1)];exact bx (q _ _ (kO c1 m1) sameSt.rfl')
 rw[ci (by simpa using c1)];by_cases c2:0+1=a.size
 ·rw[ck (by simpa using c2)];exact bx (q _ _ (iI hl c2 m1) sameSt.rfl')
 rw[ci (by simpa using c2)];refine bv (rg ?_);have be:∀{out:Array cq}{ia ib:Nat},MInv lt a b out ia ib->ia+ib<a.size+b.size:=fun h=>by have:=h.ha;have:=h.hb;(clear c2 c1 ay av;omega)
 refine bv (kh (ig
  (I:=fun k c st'=>sameSt st st'/\∃out ia ib mg,c=(none,out,ia,ib,mg)/\MInv lt a b out ia ib/\k<ia+ib)
  (Q:=fun c st'=>sameSt st st'/\∃r rest,c=(some r,rest)/\MDone lt (a.toList++b.toList) r.toList) ?step ?fin ⟨sameSt.rfl',#[y0],0,1,_,rfl,⟨m1,by clear c1 ay;omega,by clear c2 av;omega⟩,by clear c2 c1 ay av;omega⟩) ?post)
 case fin=>
  rintro c st' ⟨ba,out,ia,ib,mg,rfl,hm,a4⟩;have:=be hm
  (clear c2 c1 ay av;omega)
 case post=>
  rintro c st' ⟨ba,r,rest,rfl,hd⟩;exact bx (q r st' hd ba)
 case step=>
  rintro k c st' _ a5 ⟨ba,out,ia,ib,mg,rfl,hm,a4⟩;refine bv (kh (ig
   (I:=fun j c st'=>sameSt st st'/\∃al am an ac bc,c=(none,al,am,an,ac,bc)/\MInv lt a b al am an/\j+(ia+ib)<=am+an)
   (Q:=fun c st'=>sameSt st st'/\((∃r rest,c=(some r,rest)/\MDone lt (a.toList++b.toList) r.toList)\/∃al am an ac bc,c=(none,al,am,an,ac,bc)/\MInv lt a b al am an/\ia+ib<am+an)) ?step1 ?fin1 ⟨ba,out,ia,ib,0,0,rfl,hm,by clear a4 a5 c2 c1 ay av;omega⟩) ?post1)
  case fin1=>
   rintro c a9 ⟨ao,al,am,an,ac,bc,rfl,aw,a1⟩;have:=be aw
   (clear a4 a5 c2 c1 ay av;omega)
  case step1=>
   rintro j c a9 _ hj ⟨ao,al,am,an,ac,bc,rfl,aw,a1⟩;obtain⟨y,ey,a2⟩:=bS (a:=b) (i:=an) aw.hb
   clear a5 ay a4 c2 c1 hj av
   obtain⟨x,ex,ex'⟩:=bS (a:=a) (i:=am) (by have:=aw.ha;(clear a1;omega));have Dx:=au x (bt ex');have Dy:=ax y (bt a2);have ai:kindOf a9=kd:=ao.1.trans hk;refine bv (zx ey (bv (zx ex (bv (O.ask y x a9 _ Dy Dx ai ?_)))));cases hlt2:lt y x with
   |true=>
    have ms:=aw.stepB O au ax ha ex' a2 hlt2;simp only[if_true];refine bv (zx ey ?_);by_cases c3:an+1=b.size
    ·rw[ck (by simpa using c3)];exact bx ⟨ao,.inl ⟨_,_,rfl,kO c3 ms⟩⟩
    ·rw[ci (by simpa using c3)];have ar:MInv lt a b (al.push y) am (an+1):=⟨ms,aw.ha,by have:=aw.hb;(clear a1;omega)⟩;by_cases c4:bc+1≥mg
     ·rw[ck c4];exact bx ⟨ao,.inr ⟨_,_,_,_,_,rfl,ar,by clear c4 c3;omega⟩⟩
     ·rw[ci c4];exact bx ⟨ao,_,_,_,_,_,rfl,ar,by clear c4 c3;omega⟩
   |false=>
    have ms:=aw.stepA O au ax hb ex' a2 hlt2;simp only[fg,if_false];refine bv (zx ex ?_);by_cases c3:am+1+1=a.size
    ·rw[ck (by simpa using c3)];exact bx ⟨ao,.inl ⟨_,_,rfl,iI hl c3 ms⟩⟩
    ·rw[ci (by simpa using c3)];have ar:MInv lt a b (al.push x) (am+1) an:=⟨ms,by have:=aw.ha;(clear a1;omega),aw.hb⟩;by_cases c4:ac+1≥mg
     ·rw[ck c4];exact bx ⟨ao,.inr ⟨_,_,_,_,_,rfl,ar,by clear c4 c3;omega⟩⟩
     ·rw[ci c4];exact bx ⟨ao,_,_,_,_,_,rfl,ar,by clear c4 c3;omega⟩
  case post1=>
   rintro c a9 ⟨ao,hc⟩;rcases hc with ⟨r,rest,rfl,hd⟩|⟨al,am,an,ac,bc,rfl,aw,a1⟩
   ·dsimp only;exact bx ⟨ao,_,_,rfl,hd⟩
   ·dsimp only;refine bv (wpS_lift (on ⟨rfl,?_⟩));refine bv (kh (ig
     (I:=fun j c st'=>sameSt st st'/\∃aj ag ah a0 a7 a6,c=(none,aj,ag,ah,a0,a7,a6)/\MInv lt a b aj ag ah/\j+(am+an)<=ag+ah)
     (Q:=fun c st'=>sameSt st st'/\((∃r rest,c=(some r,rest)/\MDone lt (a.toList++b.toList) r.toList)\/∃aj ag ah a0 a7 a6,c=(none,aj,ag,ah,a0,a7,a6)/\MInv lt a b aj ag ah/\am+an<=ag+ah)) ?step2 ?az ⟨ao,al,am,an,_,_,_,rfl,aw,by clear a1 a4 a5 c2 c1 ay av;omega⟩) ?post2)
    case az=>
     rintro c bf ⟨ak,aj,ag,ah,a0,a7,a6,rfl,ar,aa⟩;have:=be ar
     (clear a1 a4 a5 c2 c1 ay av;omega)
    case post2=>
     rintro c bf ⟨ak,hc⟩;rcases hc with ⟨r,rest,rfl,hd⟩|⟨aj,ag,ah,a0,a7,a6,rfl,ar,aa⟩
     ·dsimp only;exact bx ⟨ak,_,_,rfl,hd⟩
     ·dsimp only;refine bv (lh (bx ⟨⟨ak.1,ak.2.1,ak.2.2.1,ak.2.2.2⟩,aj,ag,ah,_,rfl,ar,by clear a5 c2 c1 ay av;omega⟩))
    case step2=>
     rintro j c bf _ hj ⟨ak,aj,ag,ah,a0,a7,a6,rfl,ar,aa⟩;obtain⟨y,ey,a2⟩:=bS (a:=b) (i:=ah) ar.hb;have ae:=ar.ha;have ab:=ar.hb;have Dy:=ax y (bt a2);have aD:∀j,j<a.size->∃x,a[j]?=some x/\D x:=fun j hj=>by
      obtain⟨x,e,e'⟩:=bS (a:=a) hj;exact⟨x,e,au x (bt e')⟩
     have bD:∀j,j<b.size->∃x,b[j]?=some x/\D x:=fun j hj=>by
      obtain⟨x,e,e'⟩:=bS (a:=b) hj;exact⟨x,e,ax x (bt e')⟩
     dsimp only;have az:∀(P:Prop) (_:Decidable P) (f g:StateT gu Sem (ForInStep (Option (Array cq)×Array cq×Nat×Nat×Nat×Nat×Nat))) (Q':ForInStep (Option (Array cq)×Array cq×Nat×Nat×Nat×Nat×Nat)->gu->Prop) (st':gu),wpS (model prog w) A E s f Q' st'->wpS (model prog w) A E s g Q' st'->wpS (model prog w) A E s (if P then f else g) Q' st':=fun P _ f g Q' st' h1 h2=>by
      split
      ·exact h1
      ·exact h2
     refine fin3 (C:=?C3) ?f3 ?g3 ?h3
     case f3=>intro h;generalize a0-1=m0;revert m0;exact h
     case g3=>intro h;generalize a0=m0;revert m0;exact h
     intro m0
     clear a5 ay a4 c2 a1 c1 hj av
     all_goals
      refine bv (lh ?_);refine bv (zx ey ?_);refine bv (gal O (ak.1.trans hk) Dy (fun j h1 h2=>aD j (by clear h1 ab aa;omega)) (fun i j x z h1 h2 h3 e1 e2=>b9 O ha au h2 (zY.mp e1) (zY.mp e2)) (by clear ab aa;omega) fun k1 ap g1 g2=>?_);dsimp only;have af:sameSt st bf:=ak
      have bl:MI lt (a.toList++b.toList) (aj++a.extract ag (ag+k1)).toList (a.toList.drop (ag+k1)) (b.toList.drop ah):=HU ar.mi fun j x h1 h2 e z mz=>by
       have:=g1 j x h1 h2 (zY.mpr e);obtain⟨j2,aq,ez⟩:=gX mz;have l1:lt y x=false:=by simpa[bey]using this
       exact O.tr x y z (au x (bt e)) Dy (ax z (bt ez)) l1 (b9 O hb ax aq a2 ez)
      have gt:∀x∈a.toList.drop (ag+k1),lt x y=false:=fun x mx=>by
       obtain⟨j2,aq,ex⟩:=gX mx;have a3:=(List.getElem?_eq_some_iff.mp ex).1;have:=g2 j2 x aq (by simp at a3;(clear aq ap ab ae aa;omega)) (zY.mpr ex);have l1:lt y x=true:=by simpa[bey]using this
       exact O.asym y x Dy (au x (bt ex)) l1
      have bj:k1=0->(aj++a.extract ag (ag+k1))=aj:=fun z=>by subst z;rw[kR,Array.append_empty]
      have go:∀(outA:Array cq) (iaA:Nat) (mgA acA:Nat),MI lt (a.toList++b.toList) outA.toList (a.toList.drop iaA) (b.toList.drop ah)->(∀x∈a.toList.drop iaA,lt x y=false)->ag<=iaA->iaA+1<a.size->True:=fun _ _ _ _ _ _ _ _=>trivial;by_cases c5:k1>0
      ·rw[ck c5];by_cases c6:ag+k1+1=a.size
       ·rw[ck (by simpa using c6)];exact bx ⟨af,.inl ⟨_,_,rfl,iI hl c6 bl⟩⟩
       rw[ci (by simpa using c6)];by_cases c7:ag+k1=a.size
       ·rw[ck (by simpa using c7)];exact bx ⟨af,.inl ⟨_,_,rfl,JV c7 bl⟩⟩
       rw[ci (by simpa using c7)];refine bv (zx ey ?_);have mb:=BQ bl a2 gt;by_cases d1:ah+1=b.size
       ·rw[ck (by simpa using d1)];exact bx ⟨af,.inl ⟨_,_,rfl,kO d1 mb⟩⟩
       rw[ci (by simpa using d1)];obtain⟨x,ex,ex'⟩:=bS (a:=a) (i:=(ag+k1)) (by clear d1 c6 c5 ab aa;omega);have Dx:=au x (bt ex');refine bv (zx ex ?_);refine bv (gal O (ak.1.trans hk) Dx (fun j h1 h2=>bD j (by clear h1 d1 c7 c6 c5 ap ae aa;omega)) (fun i j x z h1 h2 h3 e1 e2=>b9 O hb ax h2 (zY.mp e1) (zY.mp e2)) (by clear c7 c6 c5 ap ae aa;omega) fun k2 ai f1 f2=>?_);dsimp only;have bb:=yI (k:=k2) mb fun j z h1 h2 e x2 bg=>by
        have:=f1 j z h1 h2 (zY.mpr e);obtain⟨j2,aq,a8⟩:=gX bg;have Dz:=ax z (bt e);have l1:lt z x=true:=by simpa[bey]using this
        exact O.tr z x x2 Dz Dx (au x2 (bt a8)) (O.asym z x Dz Dx l1) (b9 O ha au aq ex' a8)
       have gb:∀z∈b.toList.drop (ah+1+k2),lt z x=false:=fun z mz=>by
        obtain⟨j2,aq,ez⟩:=gX mz;have a3:=(List.getElem?_eq_some_iff.mp ez).1;have:=f2 j2 z aq (by simp at a3;(clear aq ai d1 c7 c6 c5 ap ab ae aa;omega)) (zY.mpr ez);simpa[bey]using this
       by_cases d2:k2>0
       ·rw[ck d2];by_cases d3:ah+1+k2=b.size
        ·rw[ck (by simpa using d3)];exact bx ⟨af,.inl ⟨_,_,rfl,kO d3 bb⟩⟩
        rw[ci (by simpa using d3)];refine bv (zx ex ?_);have mf:=qO bb ex' gb;by_cases d4:(ag+k1)+1+1=a.size
        ·rw[ck (by simpa using d4)];exact bx ⟨af,.inl ⟨_,_,rfl,iI hl d4 mf⟩⟩
        rw[ci (by simpa using d4)]
        clear d2 c5 d1
        refine az _ _ _ _ _ _ ?_ ?_
        ·exact bx ⟨af,.inr ⟨_,_,_,_,_,_,rfl,⟨mf,by clear d3 ai ab aa;omega,by clear d4 c7 c6 ap ae aa;omega⟩,by clear d4 d3 ai c7 c6 ap ab ae;omega⟩⟩
        ·exact bx ⟨af,_,_,_,_,_,_,rfl,⟨mf,by clear d3 ai ab aa;omega,by clear d4 c7 c6 ap ae aa;omega⟩,by clear d4 d3 ai c7 c6 ap ab ae;omega⟩
       ·rw[ci d2];have bd:k2=0:=by clear ai d1 c7 c6 c5 ap ab ae aa;omega
        subst bd;have ee:∀o:Array cq,o++b.extract (ah+1) (ah+1+0)=o:=fun o=>by rw[kR,Array.append_empty]
        rw[ee,qw]at bb;rw[qw]at gb;refine bv (zx ex ?_);have mf:=qO bb ex' gb;by_cases d4:(ag+k1)+1+1=a.size
        ·rw[ck (by simpa using d4)];exact bx ⟨af,.inl ⟨_,_,rfl,iI hl d4 mf⟩⟩
        rw[ci (by simpa using d4)]
        clear d2 c5 ai
        refine az _ _ _ _ _ _ ?_ ?_
        ·exact bx ⟨af,.inr ⟨_,_,_,_,_,_,rfl,⟨mf,by clear d1 ab aa;omega,by clear d4 c7 c6 ap ae aa;omega⟩,by clear d4 d1 c7 c6 ap ab ae;omega⟩⟩
        ·exact bx ⟨af,_,_,_,_,_,_,rfl,⟨mf,by clear d1 ab aa;omega,by clear d4 c7 c6 ap ae aa;omega⟩,by clear d4 d1 c7 c6 ap ab ae;omega⟩
      ·rw[ci c5];have k0:k1=0:=by clear ap ab ae aa;omega
       subst k0;rw[bj rfl,qw]at bl;rw[qw]at gt;refine bv (zx ey ?_);have mb:=BQ bl a2 gt;by_cases d1:ah+1=b.size
       ·rw[ck (by simpa using d1)];exact bx ⟨af,.inl ⟨_,_,rfl,kO d1 mb⟩⟩
       rw[ci (by simpa using d1)]
       clear c5 ap
       obtain⟨x,ex,ex'⟩:=bS (a:=a) (i:=ag) (by clear d1 ab aa;omega);have Dx:=au x (bt ex');refine bv (zx ex ?_);refine bv (gal O (ak.1.trans hk) Dx (fun j h1 h2=>bD j (by clear h1 d1 ae aa;omega)) (fun i j x z h1 h2 h3 e1 e2=>b9 O hb ax h2 (zY.mp e1) (zY.mp e2)) (by clear ae aa;omega) fun k2 ai f1 f2=>?_);dsimp only;have bb:=yI (k:=k2) mb fun j z h1 h2 e x2 bg=>by
        have:=f1 j z h1 h2 (zY.mpr e);obtain⟨j2,aq,a8⟩:=gX bg;have Dz:=ax z (bt e);have l1:lt z x=true:=by simpa[bey]using this
        exact O.tr z x x2 Dz Dx (au x2 (bt a8)) (O.asym z x Dz Dx l1) (b9 O ha au aq ex' a8)
       have gb:∀z∈b.toList.drop (ah+1+k2),lt z x=false:=fun z mz=>by
        obtain⟨j2,aq,ez⟩:=gX mz;have a3:=(List.getElem?_eq_some_iff.mp ez).1;have:=f2 j2 z aq (by simp at a3;(clear aq ai d1 ab ae aa;omega)) (zY.mpr ez);simpa[bey]using this
       by_cases d2:k2>0
       ·rw[ck d2];by_cases d3:ah+1+k2=b.size
        ·rw[ck (by simpa using d3)];exact bx ⟨af,.inl ⟨_,_,rfl,kO d3 bb⟩⟩
        rw[ci (by simpa using d3)];refine bv (zx ex ?_);have mf:=qO bb ex' gb;by_cases d4:ag+1+1=a.size
        ·rw[ck (by simpa using d4)];exact bx ⟨af,.inl ⟨_,_,rfl,iI hl d4 mf⟩⟩
        rw[ci (by simpa using d4)];refine az _ _ _ _ _ _ ?_ ?_
        ·exact bx ⟨af,.inr ⟨_,_,_,_,_,_,rfl,⟨mf,by clear d3 d2 ai d1 ab aa;omega,by clear d4 d2 d1 ae aa;omega⟩,by clear d4 d3 d2 ai d1 ab ae;omega⟩⟩
        ·exact bx ⟨af,_,_,_,_,_,_,rfl,⟨mf,by clear d3 d2 ai d1 ab aa;omega,by clear d4 d2 d1 ae aa;omega⟩,by clear d4 d3 d2 ai d1 ab ae;omega⟩
       ·rw[ci d2];have bd:k2=0:=by clear ai d1 ab ae aa;omega
        subst bd;have ee:∀o:Array cq,o++b.extract (ah+1) (ah+1+0)=o:=fun o=>by rw[kR,Array.append_empty]
        rw[ee,qw]at bb;rw[qw]at gb;refine bv (zx ex ?_);have mf:=qO bb ex' gb;by_cases d4:ag+1+1=a.size
        ·rw[ck (by simpa using d4)];exact bx ⟨af,.inl ⟨_,_,rfl,iI hl d4 mf⟩⟩
        rw[ci (by simpa using d4)];refine az _ _ _ _ _ _ ?_ ?_
        ·exact bx ⟨af,.inr ⟨_,_,_,_,_,_,rfl,⟨mf,by clear d2 ai d1 ab aa;omega,by clear d4 d2 ai ae aa;omega⟩,by clear d4 d2 ai d1 ab ae;omega⟩⟩
        ·exact bx ⟨af,_,_,_,_,_,_,rfl,⟨mf,by clear d2 ai d1 ab aa;omega,by clear d4 d2 ai ae aa;omega⟩,by clear d4 d2 ai d1 ab ae;omega⟩
def flt(lt:cq->cq->Bool):cq->cq->Bool:=fun x y=>lt y x
theorem MDone.rev{L0 l:List cq}(h:MDone (flt lt) L0 l):MDone lt L0 l.reverse:=by
 refine⟨(qf l).trans h.1,?_⟩;unfold SrtL;rw[List.pairwise_reverse];exact h.2
theorem tS{l:List cq}{i:Nat}{x:cq}(h:l[i]?=some x):(l.take (i+1)).reverse=x::(l.take i).reverse:=by
 rw[take_add_one,h];simp
theorem hW{l:List cq}{i:Nat}{y:cq}(h:y∈(l.take i).reverse):∃j,j<i/\l[j]?=some y:=by
 obtain⟨j,hj⟩:=mem_iff_getElem?.mp (mem_reverse.mp h);rw[getElem?_take]at hj;split at hj
 ·exact⟨j,by assumption,hj⟩
 ·cases hj
theorem kZ(a:Array cq)(n:Nat):(a.extract 0 n).toList=a.toList.take n:=by
 rw[nj,jv];simp
theorem EE{l:List cq}(h:SrtL lt l)(n:Nat):SrtL (flt lt) (l.take n).reverse:=by
 unfold SrtL;rw[List.pairwise_reverse];exact List.Pairwise.sublist (List.take_sublist n l) h
section
variable {a b out:Array cq}{na nb k:Nat}{L0:List cq}
theorem wL(m:MI (flt lt) L0 out.toList (a.toList.take (na+1)).reverse (b.toList.take nb).reverse){x:cq}(hx:a.toList[na]?=some x)(h:∀y∈(b.toList.take nb).reverse,lt x y=false):MI (flt lt) L0 (out.push x).toList (a.toList.take na).reverse (b.toList.take nb).reverse:=by
 rw[tS hx]at m;have:=m.takeA h;simpa using this
theorem y9(m:MI (flt lt) L0 out.toList (a.toList.take na).reverse (b.toList.take (nb+1)).reverse){y:cq}(hy:b.toList[nb]?=some y)(h:∀x∈(a.toList.take na).reverse,lt y x=false):MI (flt lt) L0 (out.push y).toList (a.toList.take na).reverse (b.toList.take nb).reverse:=by
 rw[tS hy]at m;have:=m.takeB h;simpa using this
theorem sK{n:Nat}(hn:n=na+1)(m:MI (flt lt) L0 out.toList (a.toList.take n).reverse (b.toList.take nb).reverse){x:cq}(hx:a.toList[na]?=some x)(h:∀y∈(b.toList.take nb).reverse,lt x y=false):MI (flt lt) L0 (out.push x).toList (a.toList.take na).reverse (b.toList.take nb).reverse:=by
 subst hn;exact wL m hx h
theorem D4{n:Nat}(hn:n=nb+1)(m:MI (flt lt) L0 out.toList (a.toList.take na).reverse (b.toList.take n).reverse){y:cq}(hy:b.toList[nb]?=some y)(h:∀x∈(a.toList.take na).reverse,lt y x=false):MI (flt lt) L0 (out.push y).toList (a.toList.take na).reverse (b.toList.take nb).reverse:=by
 subst hn;exact y9 m hy h
theorem CA{l:List cq}{i n:Nat}(h:i<=n):(l.take n).reverse=((l.drop i).take (n-i)).reverse++(l.take i).reverse:=by
 rw[<- List.reverse_append];congr 1;have:=List.take_add (l:=l) (i:=i) (j:=n-i);rw[show i+(n-i)=n by omega]at this;exact this
theorem DP(a:Array cq){i n:Nat}(h:i<=n):(a.extract i n).reverse.toList=((a.toList.drop i).take (n-i)).reverse:=by
 rw[Array.toList_reverse,nj,jv]
theorem Kj(m:MI (flt lt) L0 out.toList (a.toList.take na).reverse (b.toList.take nb).reverse)(hk:k<=na)(h:∀j x,k<=j->j<na->a.toList[j]?=some x->∀y∈(b.toList.take nb).reverse,lt x y=false):MI (flt lt) L0 (out++(a.extract k na).reverse).toList (a.toList.take k).reverse (b.toList.take nb).reverse:=by
 rw[jc,DP a hk];rw[CA hk]at m;refine MI.takesA m fun x mx y my=>?_;obtain⟨j,h1,h2,e⟩:=rQ (mem_reverse.mp mx);exact h j x h1 (by clear h1;omega) e y my
theorem AH(m:MI (flt lt) L0 out.toList (a.toList.take na).reverse (b.toList.take nb).reverse)(hk:k<=nb)(h:∀j y,k<=j->j<nb->b.toList[j]?=some y->∀x∈(a.toList.take na).reverse,lt y x=false):MI (flt lt) L0 (out++(b.extract k nb).reverse).toList (a.toList.take na).reverse (b.toList.take k).reverse:=by
 rw[jc,DP b hk];rw[CA hk]at m;refine MI.takesB m fun x mx y my=>?_;obtain⟨j,h1,h2,e⟩:=rQ (mem_reverse.mp mx);exact h j x h1 yw e y my
theorem jN(h0:na=0)(m:MI (flt lt) L0 out.toList (a.toList.take na).reverse (b.toList.take nb).reverse):MDone lt L0 (a.extract 0 na++b.extract 0 nb++out.reverse).toList:=by
 subst h0;have h2:MI (flt lt) L0 (out.toList++(b.toList.take nb).reverse) [] []:=MI.takesB (B:=[]) (by simpa using m) (fun y my x mx=>by cases mx);have:=h2.doneA.rev;rw[jc,jc,kZ,kZ,Array.toList_reverse];simpa using this
theorem C5(h0:nb=0)(m:MI (flt lt) L0 out.toList (a.toList.take na).reverse (b.toList.take nb).reverse):MDone lt L0 (a.extract 0 na++b.extract 0 nb++out.reverse).toList:=by
 subst h0;have h1:MI (flt lt) L0 out.toList (a.toList.take na).reverse []:=by simpa using m
 have:=h1.doneA.rev;rw[jc,jc,kZ,kZ,Array.toList_reverse];simpa using this
theorem j9(hf:∀y,b[0]?=some y->∀x∈a.toList,lt x y=false)(h1:nb=1)(q:1<=b.size)(m:MI (flt lt) L0 out.toList (a.toList.take na).reverse (b.toList.take nb).reverse):MDone lt L0 (b.extract 0 nb++a.extract 0 na++out.reverse).toList:=by
 subst h1;obtain⟨y,e1,e2⟩:=bS (a:=b) (i:=0) yw;have ed:(b.toList.take (0+1)).reverse=[y]:=by rw[tS e2];simp
 rw[show (1:Nat)=0+1 from rfl,ed]at m;have h2:MI (flt lt) L0 (out.toList++(a.toList.take na).reverse) [] [y]:=MI.takesA (A:=[]) (by simpa using m) fun x mx z mz=>by
  rw[mem_singleton.mp mz];exact hf y e1 x (qz (mem_reverse.mp mx))
 have h3:MI (flt lt) L0 (out.toList++(a.toList.take na).reverse++[y]) [] []:=MI.takesB (B:=[]) (by simpa using h2) (fun y my x mx=>by cases mx);have:=h3.doneA.rev;have ee:b.toList.take 1=[y]:=by have:=congrArg List.reverse ed;simpa using this
 rw[jc,jc,kZ,kZ,Array.toList_reverse,ee];simpa using this
end
structure HInv(lt:cq->cq->Bool)(a b out:Array cq)(na nb:Nat):Prop where
 mi:MI (flt lt) (a.toList++b.toList) out.toList (a.toList.take na).reverse (b.toList.take nb).reverse
 a0:0<na
 a1:na<=a.size
 b0:1<nb
 b1:nb<=b.size
theorem GV(O:LtOk prog w A E s kd D lt){a b:Array cq}{Q:Array cq->gu->Prop}{st:gu}(hk:kindOf st=kd)(aw:∀x∈a.toList,D x)(au:∀x∈b.toList,D x)(ha:SrtL lt a.toList)(hb:SrtL lt b.toList)(af:1<=a.size)(ab:1<=b.size)
  (h0:∀y,b[0]?=some y->∀x∈a.toList,lt x y=false) (hl:∀x,a[a.size-1]?=some x->∀y∈b.toList,lt x y=false)
  (q:∀(out:Array cq) st',MDone lt (a.toList++b.toList) out.toList->sameSt st st'->Q out st'):wpS (model prog w) A E s (FV a b) Q st:=by
 refine bv (wpS_lift (on ⟨rfl,?_⟩));obtain⟨x0,bg,bf⟩:=bS (a:=a) (i:=a.size-1) (by clear ab;omega);refine bv (zx bg ?_);have av:∀{τ:Type} (P:Prop) (_:Decidable P) (f g:StateT gu Sem τ) (Q':τ->gu->Prop) (st':gu),wpS (model prog w) A E s f Q' st'->wpS (model prog w) A E s g Q' st'->wpS (model prog w) A E s (if P then f else g) Q' st':=fun P _ f g Q' st' h1 h2=>by
  split
  ·exact h1
  ·exact h2
 have ta:a.toList.take a.size=a.toList:=jt yv;have tb:b.toList.take b.size=b.toList:=jt yv;have m0:MI (flt lt) (a.toList++b.toList) (#[]:Array cq).toList (a.toList.take a.size).reverse (b.toList.take b.size).reverse:=by
  refine⟨?_,List.Pairwise.nil,(fun x m=>by cases m),EE ha _,EE hb _⟩;rw[ta,tb];exact(qf _).append (qf _)
 have m1:MI (flt lt) (a.toList++b.toList) (#[x0]:Array cq).toList (a.toList.take (a.size-1)).reverse (b.toList.take b.size).reverse:=by
  have m2:=m0;rw[show a.size=a.size-1+1 by clear ab;omega]at m2;have:=wL m2 bf fun y my=>hl x0 bg y (qz (mem_reverse.mp my));simpa using this
 by_cases c1:a.size-1=0
 ·rw[ck (by simpa using c1)];exact bx (q _ _ (jN c1 m1) sameSt.rfl')
 rw[ci (by simpa using c1)];by_cases c2:b.size=1
 ·rw[ck (by simpa using c2)];exact bx (q _ _ (j9 h0 c2 ab m1) sameSt.rfl')
 rw[ci (by simpa using c2)];refine bv (rg ?_);refine bv (kh (ig (a:=0)
  (I:=fun k c st'=>sameSt st st'/\∃out na nb mg,c=(none,na,nb,out,mg)/\HInv lt a b out na nb/\na+nb+k<a.size+b.size)
  (Q:=fun c st'=>sameSt st st'/\∃(r:Array cq),∃rest,c=(some r,rest)/\MDone lt (a.toList++b.toList) r.toList) ?step ?fin ⟨sameSt.rfl',#[x0],a.size-1,b.size,_,rfl,⟨m1,by clear c2 ab af;omega,by clear c2 c1 ab af;omega,by clear c1 af;omega,by clear c2 c1 ab af;omega⟩,by clear c2 c1 ab;omega⟩) ?post)
 case fin=>
  rintro c st' ⟨a9,out,na,nb,mg,rfl,hm,a4⟩
  (clear c2 c1 ab af;omega)
 case post=>
  rintro c st' ⟨a9,r,rest,rfl,hd⟩;exact bx (q r st' hd a9)
 case step=>
  rintro k c st' _ az ⟨a9,out,na,nb,mg,rfl,hm,a4⟩;refine bv (kh (ig (a:=0)
   (I:=fun j c st'=>sameSt st st'/\∃am al ak ac bc,c=(none,al,ak,am,ac,bc)/\HInv lt a b am al ak/\al+ak+j<=na+nb)
   (Q:=fun c st'=>sameSt st st'/\((∃(r:Array cq),∃rest,c=(some r,rest)/\MDone lt (a.toList++b.toList) r.toList)\/∃am al ak ac bc,c=(none,al,ak,am,ac,bc)/\HInv lt a b am al ak/\al+ak<na+nb)) ?step1 ?fin1 ⟨a9,out,na,nb,0,0,rfl,hm,by clear a4 az c2 c1 ab af;omega⟩) ?post1)
  case fin1=>
   rintro c a8 ⟨ap,am,al,ak,ac,bc,rfl,ax,aq⟩;have:=ax.a0
   (clear this az c2 c1 ab af;omega)
  case step1=>
   rintro j c a8 _ hj ⟨ap,am,al,ak,ac,bc,rfl,ax,aq⟩;have z1:=ax.a0;have z2:=ax.a1;have z3:=ax.b0;have z4:=ax.b1;obtain⟨y,ey,a3⟩:=bS (a:=b) (i:=ak-1) (by clear z3 z2 z1 aq hj a4 az c2 c1 af;omega);obtain⟨x,ex,ex'⟩:=bS (a:=a) (i:=al-1) (by clear z4 z3 z1 aq hj a4 az c2 c1 ab;omega);have Dx:=aw x (bt ex');have Dy:=au y (bt a3);have ag:kindOf a8=kd:=ap.1.trans hk;have mm:=ax.mi;refine bv (zx ey (bv (zx ex (bv (O.ask y x a8 _ Dy Dx ag ?_)))))
   clear az a4 c2 c1 hj af
   cases hlt2:lt y x with
   |true=>
    have ms:MI (flt lt) (a.toList++b.toList) (am.push x).toList (a.toList.take (al-1)).reverse (b.toList.take ak).reverse:=by
     rw[show al=al-1+1 by clear z4 z3 z2 aq ab;omega]at mm;exact wL mm ex' fun z mz=>by
      obtain⟨j2,ay,ez⟩:=hW mz;exact O.tr z y x (au z (bt ez)) Dy Dx (b9 O hb au (by clear z4 z3 z2 z1 aq ab;omega) ez a3) (O.asym y x Dy Dx hlt2)
    simp only[if_true];refine bv (zx ex ?_);by_cases c3:al-1=0
    ·rw[ck (by simpa using c3)];exact bx ⟨ap,.inl ⟨_,_,rfl,jN c3 ms⟩⟩
    ·rw[ci (by simpa using c3)];have ar:HInv lt a b (am.push x) (al-1) ak:=⟨ms,by clear z4 z3 z2 z1 aq ab;omega,by clear c3 z4 z3 z1 aq ab;omega,z3,z4⟩;refine av _ _ _ _ _ _ ?_ ?_
     ·exact bx ⟨ap,.inr ⟨_,_,_,_,_,rfl,ar,by clear c3 z4 z3 z2 ab;omega⟩⟩
     ·exact bx ⟨ap,_,_,_,_,_,rfl,ar,by clear c3 z4 z3 z2 ab;omega⟩
   |false=>
    have ms:MI (flt lt) (a.toList++b.toList) (am.push y).toList (a.toList.take al).reverse (b.toList.take (ak-1)).reverse:=by
     rw[show ak=ak-1+1 by clear z4 z2 z1 aq ab;omega]at mm;exact y9 mm a3 fun z mz=>by
      obtain⟨j2,ay,ez⟩:=hW mz;exact O.tr z x y (aw z (bt ez)) Dx Dy (b9 O ha aw (by clear z4 z3 z2 z1 aq ab;omega) ez ex') hlt2
    simp only[fg,if_false];refine bv (zx ey ?_);by_cases c3:ak-1=1
    ·rw[ck (by simpa using c3)];exact bx ⟨ap,.inl ⟨_,_,rfl,j9 h0 c3 ab ms⟩⟩
    ·rw[ci (by simpa using c3)];have ar:HInv lt a b (am.push y) al (ak-1):=⟨ms,z1,z2,by clear z4 z2 z1 aq ab;omega,by clear c3 z3 z2 z1 aq ab;omega⟩;refine av _ _ _ _ _ _ ?_ ?_
     ·exact bx ⟨ap,.inr ⟨_,_,_,_,_,rfl,ar,by clear c3 z4 z2 z1 ab;omega⟩⟩
     ·exact bx ⟨ap,_,_,_,_,_,rfl,ar,by clear c3 z4 z2 z1 ab;omega⟩
  case post1=>
   rintro c a8 ⟨ap,hc⟩;rcases hc with ⟨r,rest,rfl,hd⟩|⟨am,al,ak,ac,bc,rfl,ax,aq⟩
   ·dsimp only;exact bx ⟨ap,_,_,rfl,hd⟩
   ·dsimp only;refine bv (wpS_lift (on ⟨rfl,?_⟩));refine bv (kh (ig (a:=0)
     (I:=fun j c st'=>sameSt st st'/\∃aj ao ae a2 a6 a5,c=(none,ao,ae,aj,a2,a6,a5)/\HInv lt a b aj ao ae/\ao+ae+j<=al+ak)
     (Q:=fun c st'=>sameSt st st'/\((∃(r:Array cq),∃rest,c=(some r,rest)/\MDone lt (a.toList++b.toList) r.toList)\/∃aj ao ae a2 a6 a5,c=(none,ao,ae,aj,a2,a6,a5)/\HInv lt a b aj ao ae/\ao+ae<=al+ak)) ?step2 ?av ⟨ap,am,al,ak,_,_,_,rfl,ax,by clear aq a4 az c2 c1 ab af;omega⟩) ?post2)
    case av=>
     rintro c bd ⟨an,aj,ao,ae,a2,a6,a5,rfl,ar,aa⟩;have:=ar.a0;have:=ax.a1;have:=ax.b1
     (clear this az c2 c1 ab af;omega)
    case post2=>
     rintro c bd ⟨an,hc⟩;rcases hc with ⟨r,rest,rfl,hd⟩|⟨aj,ao,ae,a2,a6,a5,rfl,ar,aa⟩
     ·dsimp only;exact bx ⟨an,_,_,rfl,hd⟩
     ·dsimp only;refine bv (lh (bx ⟨⟨an.1,an.2.1,an.2.2.1,an.2.2.2⟩,aj,ao,ae,_,rfl,ar,by clear az c2 c1 ab af;omega⟩))
    case step2=>
     rintro j c bd _ hj ⟨an,aj,ao,ae,a2,a6,a5,rfl,ar,aa⟩;have z1:=ar.a0;have z2:=ar.a1;have z3:=ar.b0;have z4:=ar.b1;obtain⟨y,ey,a3⟩:=bS (a:=b) (i:=ae-1) (by clear z3 z2 z1 aa hj aq a4 az c2 c1 af;omega);have Dy:=au y (bt a3);have aD:∀j,j<a.size->∃x,a[j]?=some x/\D x:=fun j hj=>by
      obtain⟨x,e,e'⟩:=bS (a:=a) hj;exact⟨x,e,aw x (bt e')⟩
     have bD:∀j,j<b.size->∃x,b[j]?=some x/\D x:=fun j hj=>by
      obtain⟨x,e,e'⟩:=bS (a:=b) hj;exact⟨x,e,au x (bt e')⟩
     dsimp only;refine fin3 (C:=?C3) ?f3 ?g3 ?h3
     case f3=>intro h;generalize a2-1=m0;revert m0;exact h
     case g3=>intro h;generalize a2=m0;revert m0;exact h
     intro m0
     clear az a4 c2 aq c1 hj
     all_goals
      refine bv (lh ?_);refine bv (zx ey ?_);refine bv (gal O (an.1.trans hk) Dy (fun j h1 h2=>aD j (by clear h1 z4 z3 z1 aa ab af;omega)) (fun i j x z h1 h2 h3 e1 e2=>b9 O ha aw h2 (zY.mp e1) (zY.mp e2)) (by clear z4 z3 z2 aa ab af;omega) fun k1 ai g1 g2=>?_);dsimp only;have ah:sameSt st bd:=an;have bl:MI (flt lt) (a.toList++b.toList) (aj++(a.extract k1 ao).reverse).toList (a.toList.take k1).reverse (b.toList.take ae).reverse:=Kj ar.mi ai fun j x h1 h2 e z mz=>by
       clear aa z4 ai ab af z1 z3 z2
       have:=g2 j x (by clear h2;omega) (by clear h1;omega) (zY.mpr e);obtain⟨j2,ay,ez⟩:=hW mz;have Dx:=aw x (bt e);have l1:lt y x=true:=by simpa[bey]using this
       exact O.tr z y x (au z (bt ez)) Dy Dx (b9 O hb au (by clear h2 h1;omega) ez a3) (O.asym y x Dy Dx l1)
      have gt:∀x∈(a.toList.take k1).reverse,lt y x=false:=fun x mx=>by
       obtain⟨j2,ay,ex⟩:=hW mx;have:=g1 j2 x (by clear ay ai z4 z3 z2 z1 aa ab af;omega) (by clear ai z4 z3 z2 z1 aa ab af;omega) (zY.mpr ex);simpa[bey]using this
      by_cases c5:ao-k1>0
      ·rw[ck c5];by_cases c6:k1=0
       ·rw[ck (by simpa using c6)];exact bx ⟨ah,.inl ⟨_,_,rfl,jN c6 bl⟩⟩
       rw[ci (by simpa using c6)];refine bv (zx ey ?_);have mb:MI (flt lt) (a.toList++b.toList) ((aj++(a.extract k1 ao).reverse).push y).toList (a.toList.take k1).reverse (b.toList.take (ae-1)).reverse:=D4 (by clear c6 c5 ai z4 z2 z1 aa ab af;omega) bl a3 gt;by_cases d1:ae-1=1
       ·rw[ck (by simpa using d1)];exact bx ⟨ah,.inl ⟨_,_,rfl,j9 h0 d1 ab mb⟩⟩
       rw[ci (by simpa using d1)];obtain⟨x,ex,ex'⟩:=bS (a:=a) (i:=k1-1) (by clear d1 c6 c5 z4 z3 z1 aa ab;omega);have Dx:=aw x (bt ex');refine bv (zx ex ?_);refine bv (gal O (an.1.trans hk) Dx (fun j h1 h2=>bD j (by clear h1 d1 c6 c5 ai z3 z2 z1 aa ab af;omega)) (fun i j x z h1 h2 h3 e1 e2=>b9 O hb au h2 (zY.mp e1) (zY.mp e2)) (by clear d1 c6 c5 ai z4 z2 z1 aa ab af;omega) fun k2 ag f1 f2=>?_);dsimp only;have bb:=AH (k:=k2) mb ag fun j z h1 h2 e x2 be=>by
        clear c5 aa z4 ai ab ag af z1 z3 c6 d1 z2
        have:=f2 j z (by clear h2;omega) (by clear h1;omega) (zY.mpr e);obtain⟨j2,ay,a7⟩:=hW be;have Dz:=au z (bt e);have l1:lt z x=false:=by simpa[bey]using this
        exact O.tr x2 x z (aw x2 (bt a7)) Dx Dz (b9 O ha aw (by clear h2 h1;omega) a7 ex') l1
       have gb:∀z∈(b.toList.take k2).reverse,lt x z=false:=fun z mz=>by
        obtain⟨j2,ay,ez⟩:=hW mz;have:=f1 j2 z (by clear ay ag d1 c6 c5 ai z4 z3 z2 z1 aa ab af;omega) (by clear ag d1 c6 c5 ai z4 z3 z2 z1 aa ab af;omega) (zY.mpr ez);have l1:lt z x=true:=by simpa[bey]using this
        exact O.asym z x (au z (bt ez)) Dx l1
       by_cases d2:ae-1-k2>0
       ·rw[ck d2];by_cases d3:k2=1
        ·rw[ck (by simpa using d3)];exact bx ⟨ah,.inl ⟨_,_,rfl,j9 h0 d3 ab bb⟩⟩
        rw[ci (by simpa using d3)];by_cases d5:k2=0
        ·rw[ck (by simpa using d5)];exact bx ⟨ah,.inl ⟨_,_,rfl,C5 d5 bb⟩⟩
        rw[ci (by simpa using d5)];refine bv (zx ex ?_);have mf:MI (flt lt) (a.toList++b.toList) (((aj++(a.extract k1 ao).reverse).push y++(b.extract k2 (ae-1)).reverse).push x).toList (a.toList.take (k1-1)).reverse (b.toList.take k2).reverse:=sK (by clear d5 d3 d2 ag d1 c5 ai z4 z3 z2 z1 aa ab af;omega) bb ex' gb;by_cases d4:k1-1=0
        ·rw[ck (by simpa using d4)];exact bx ⟨ah,.inl ⟨_,_,rfl,jN d4 mf⟩⟩
        rw[ci (by simpa using d4)]
        clear d2 c5 ab af z3 c6 d1
        refine av _ _ _ _ _ _ ?_ ?_
        ·exact bx ⟨ah,.inr ⟨_,_,_,_,_,_,rfl,⟨mf,by clear d5 d3 ag ai z4 z2 z1 aa;omega,by clear d4 d5 d3 ag z4 z1 aa;omega,by clear d4 ag ai z4 z2 z1 aa;omega,by clear d4 d5 d3 ai z2 z1 aa;omega⟩,by clear d4 d5 d3 z4 z2 z1;omega⟩⟩
        ·exact bx ⟨ah,_,_,_,_,_,_,rfl,⟨mf,by clear d5 d3 ag ai z4 z2 z1 aa;omega,by clear d4 d5 d3 ag z4 z1 aa;omega,by clear d4 ag ai z4 z2 z1 aa;omega,by clear d4 d5 d3 ai z2 z1 aa;omega⟩,by clear d4 d5 d3 z4 z2;omega⟩
       ·rw[ci d2];have ba:k2=ae-1:=by clear d1 c6 c5 ai z4 z3 z2 z1 aa ab af;omega
        subst ba;have ee:∀o:Array cq,o++(b.extract (ae-1) (ae-1)).reverse=o:=fun o=>by
         have:b.extract (ae-1) (ae-1+0) = #[]:=kR b _;rw[qw]at this;rw[this];simp
        rw[ee]at bb;refine bv (zx ex ?_);have mf:MI (flt lt) (a.toList++b.toList) (((aj++(a.extract k1 ao).reverse).push y).push x).toList (a.toList.take (k1-1)).reverse (b.toList.take (ae-1)).reverse:=sK (by clear d2 ag d1 c5 ai z4 z3 z2 z1 aa ab af;omega) bb ex' gb;by_cases d4:k1-1=0
        ·rw[ck (by simpa using d4)];exact bx ⟨ah,.inl ⟨_,_,rfl,jN d4 mf⟩⟩
        rw[ci (by simpa using d4)]
        clear d2 c5 ab ag af c6
        refine av _ _ _ _ _ _ ?_ ?_
        ·exact bx ⟨ah,.inr ⟨_,_,_,_,_,_,rfl,⟨mf,by clear d1 ai z4 z3 z2 z1 aa;omega,by clear d4 d1 z4 z3 z1 aa;omega,by clear d4 ai z4 z2 z1 aa;omega,by clear d4 d1 ai z3 z2 z1 aa;omega⟩,by clear d4 d1 z4 z3 z2 z1;omega⟩⟩
        ·exact bx ⟨ah,_,_,_,_,_,_,rfl,⟨mf,by clear d1 ai z4 z3 z2 z1 aa;omega,by clear d4 d1 z4 z3 z1 aa;omega,by clear d4 ai z4 z2 z1 aa;omega,by clear d4 d1 ai z3 z2 z1 aa;omega⟩,by clear d4 d1 z4 z3 z2;omega⟩
      ·rw[ci c5];have k0:k1=ao:=by clear z4 z3 z2 z1 aa ab af;omega
       subst k0;have bh:∀o:Array cq,o++(a.extract k1 k1).reverse=o:=fun o=>by
        have:a.extract k1 (k1+0) = #[]:=kR a k1;rw[qw]at this;rw[this];simp
       rw[bh]at bl;refine bv (zx ey ?_);have mb:MI (flt lt) (a.toList++b.toList) (aj.push y).toList (a.toList.take k1).reverse (b.toList.take (ae-1)).reverse:=D4 (by clear c5 ai z2 z1 aa z4 ab af;omega) bl a3 gt;by_cases d1:ae-1=1
       ·rw[ck (by simpa using d1)];exact bx ⟨ah,.inl ⟨_,_,rfl,j9 h0 d1 ab mb⟩⟩
       rw[ci (by simpa using d1)];obtain⟨x,ex,ex'⟩:=bS (a:=a) (i:=k1-1) (by clear d1 c5 ai z1 aa z4 z3 ab;omega);have Dx:=aw x (bt ex');refine bv (zx ex ?_)
       clear c5 ai af
       refine bv (gal O (an.1.trans hk) Dx (fun j h1 h2=>bD j (by clear h1 d1 z2 z1 aa z3 ab;omega)) (fun i j x z h1 h2 h3 e1 e2=>b9 O hb au h2 (zY.mp e1) (zY.mp e2)) (by clear d1 z2 z1 aa z4 ab;omega) fun k2 ag f1 f2=>?_);dsimp only;have bb:=AH (k:=k2) mb ag fun j z h1 h2 e x2 be=>by
        clear aa z4 ab ag z1 z3 d1 z2
        have:=f2 j z (by clear h2;omega) (by clear h1;omega) (zY.mpr e);obtain⟨j2,ay,a7⟩:=hW be;have Dz:=au z (bt e);have l1:lt z x=false:=by simpa[bey]using this
        exact O.tr x2 x z (aw x2 (bt a7)) Dx Dz (b9 O ha aw (by clear h2 h1;omega) a7 ex') l1
       have gb:∀z∈(b.toList.take k2).reverse,lt x z=false:=fun z mz=>by
        obtain⟨j2,ay,ez⟩:=hW mz;have:=f1 j2 z (by clear ay ag d1 z2 z1 aa z4 z3 ab;omega) (by clear ag d1 z2 z1 aa z4 z3 ab;omega) (zY.mpr ez);have l1:lt z x=true:=by simpa[bey]using this
        exact O.asym z x (au z (bt ez)) Dx l1
       by_cases d2:ae-1-k2>0
       ·rw[ck d2];by_cases d3:k2=1
        ·rw[ck (by simpa using d3)];exact bx ⟨ah,.inl ⟨_,_,rfl,j9 h0 d3 ab bb⟩⟩
        rw[ci (by simpa using d3)];by_cases d5:k2=0
        ·rw[ck (by simpa using d5)];exact bx ⟨ah,.inl ⟨_,_,rfl,C5 d5 bb⟩⟩
        rw[ci (by simpa using d5)];refine bv (zx ex ?_);have mf:MI (flt lt) (a.toList++b.toList) ((aj.push y++(b.extract k2 (ae-1)).reverse).push x).toList (a.toList.take (k1-1)).reverse (b.toList.take k2).reverse:=sK (by clear d5 d3 d2 ag d1 z2 aa z4 z3 ab;omega) bb ex' gb;by_cases d4:k1-1=0
        ·rw[ck (by simpa using d4)];exact bx ⟨ah,.inl ⟨_,_,rfl,jN d4 mf⟩⟩
        rw[ci (by simpa using d4)]
        clear d2 ab z1 d1
        refine av _ _ _ _ _ _ ?_ ?_
        ·exact bx ⟨ah,.inr ⟨_,_,_,_,_,_,rfl,⟨mf,by clear d5 d3 ag z2 aa z4 z3;omega,by clear d4 d5 d3 ag aa z4 z3;omega,by clear d4 ag z2 aa z4 z3;omega,by clear d4 d5 d3 z2 aa z3;omega⟩,by clear d4 d5 d3 z2 z4 z3;omega⟩⟩
        ·exact bx ⟨ah,_,_,_,_,_,_,rfl,⟨mf,by clear d5 d3 ag z2 aa z4 z3;omega,by clear d4 d5 d3 ag aa z4 z3;omega,by clear d4 ag z2 aa z4 z3;omega,by clear d4 d5 d3 z2 aa z3;omega⟩,by clear d4 d5 d3 z2 z4;omega⟩
       ·rw[ci d2];have ba:k2=ae-1:=by clear d1 z2 z1 aa z4 z3 ab;omega
        subst ba;have ee:∀o:Array cq,o++(b.extract (ae-1) (ae-1)).reverse=o:=fun o=>by
         have:b.extract (ae-1) (ae-1+0) = #[]:=kR b _;rw[qw]at this;rw[this];simp
        rw[ee]at bb;refine bv (zx ex ?_);have mf:MI (flt lt) (a.toList++b.toList) ((aj.push y).push x).toList (a.toList.take (k1-1)).reverse (b.toList.take (ae-1)).reverse:=sK (by clear d2 ag d1 z2 aa z4 z3 ab;omega) bb ex' gb;by_cases d4:k1-1=0
        ·rw[ck (by simpa using d4)];exact bx ⟨ah,.inl ⟨_,_,rfl,jN d4 mf⟩⟩
        rw[ci (by simpa using d4)]
        clear d2 ab ag z1
        refine av _ _ _ _ _ _ ?_ ?_
        ·exact bx ⟨ah,.inr ⟨_,_,_,_,_,_,rfl,⟨mf,by clear d1 z2 aa z4 z3;omega,by clear d4 d1 aa z4 z3;omega,by clear d4 z2 aa z4;omega,by clear d4 d1 z2 aa z3;omega⟩,by clear d4 d1 z2 z4 z3;omega⟩⟩
        ·exact bx ⟨ah,_,_,_,_,_,_,rfl,⟨mf,by clear d1 z2 aa z4 z3;omega,by clear d4 d1 aa z4 z3;omega,by clear d4 z2 aa z4;omega,by clear d4 d1 z2 aa z3;omega⟩,by clear d4 d1 z2 z4;omega⟩
def G(xs:Array cq)(i:Nat):cq:=(xs[i]?).getD (.none,.none)
theorem sS{xs:Array cq}{i:Nat}(h:i<xs.size):xs[i]?=some (G xs i):=by unfold G;simp[h]
def Sg(lt:cq->cq->Bool)(xs:Array cq)(lo hi:Nat):Prop:=∀i j,lo<=i->i<=j->j<hi->lt (G xs j) (G xs i)=false
structure Tb(kd:pz)(D:cq->Prop)(a₀:Array cq)(lo:Nat)(st0 st:gu):Prop where
 kd:kindOf st=kd
 fl:qv st=none
 pm:(bz st).Perm a₀
 pe:cr st=cr st0
 lo:∀i,i<lo->G (bz st) i=G (bz st0) i
 d:∀x∈a₀.toList,D x
section
variable {a₀:Array cq}{lo:Nat}{st0 st st':gu}
theorem Tb.size(h:Tb kd D a₀ lo st0 st):(bz st).size=a₀.size:=h.pm.size_eq
theorem Tb.at(h:Tb kd D a₀ lo st0 st){i:Nat}(hi:i<a₀.size):(bz st)[i]?=some (G (bz st) i):=sS (by rw[h.size];exact hi)
theorem Tb.dd(h:Tb kd D a₀ lo st0 st){i:Nat}(hi:i<a₀.size):D (G (bz st) i):=by
 have e:=h.at hi;have m:G (bz st) i∈(bz st).toList:=bt (by rw[<- zY];exact e);exact h.d _ ((Array.perm_iff_toList_perm.mp h.pm).mem_iff.mp m)
theorem eR(O:LtOk prog w A E s kd D lt)(h:Tb kd D a₀ lo st0 st){i j:Nat}{Q:Option Bool->gu->Prop}(hi:i<a₀.size)(hj:j<a₀.size)(q:Q (some (lt (G (bz st) i) (G (bz st) j))) st):wpS (model prog w) A E s (ltAt' i j) Q st:=by
 rw[ltAt'_eq];refine bv (rg ?_);refine bv (zx (h.at hi) (bv (zx (h.at hj) ?_)));exact O.ask _ _ _ _ (h.dd hi) (h.dd hj) h.kd q
theorem jE{xs:Array cq}{i j k:Nat}(hj:j<=xs.size):G (mirror xs i j ((j-i)/2)) k=if i<=k/\k<j then G xs (i+j-1-k)else G xs k:=by
 unfold G;rw[getElem?_mirror_all hj];split<;>rfl
theorem uC{xs:Array cq}{src d k:Nat}(hs:src<xs.size)(hd:d<=src):G (bubble xs src d) k=if k=src-d then G xs src else if src-d<k/\k<=src then G xs (k-1)else G xs k:=by
 unfold G;rw[getElem?_bubble hs d hd];split
 ·rfl
 ·split<;>rfl
theorem Tb.mirror(h:Tb kd D a₀ lo st0 st){i j:Nat}(hi:lo<=i)(hj:j<=a₀.size):Tb kd D a₀ lo st0 (nr st (mirror (bz st) i j ((j-i)/2))):=by
 refine⟨h.kd,h.fl,(mirror_perm _ _ _ _).trans h.pm,h.pe,fun k hk=>?_,h.d⟩;show G (PyProof.Rows.mirror (bz st) i j ((j-i)/2)) k=_;rw[jE (by rw[h.size];exact hj),ci yw];exact h.lo k hk
theorem Tb.bubble(h:Tb kd D a₀ lo st0 st){src d:Nat}(hs:src<a₀.size)(hd:d<=src)(hl:lo<=src-d):Tb kd D a₀ lo st0 (nr st (bubble (bz st) src d)):=by
 refine⟨h.kd,h.fl,(bubble_perm _ _ _).trans h.pm,h.pe,fun k hk=>?_,h.d⟩;show G (PyProof.Rows.bubble (bz st) src d) k=_;rw[uC (by rw[h.size];exact hs) hd,ci yw,ci yw];exact h.lo k hk
theorem fZ{i j:Nat}{Q:Unit->gu->Prop}(q:Q () (nr st (mirror (bz st) i j ((j-i)/2)))):wpS (model prog w) A E s (reverseSlice' i j) Q st:=by
 rw[reverseSlice'_eq];exact lh q
theorem Sg.more(O:LtOk prog w A E s kd D lt)(h:Tb kd D a₀ lo st0 st){l n:Nat}(hn:n<a₀.size)(hl:l<n)(hs:Sg lt (bz st) l n)(h1:lt (G (bz st) n) (G (bz st) (n-1))=false):Sg lt (bz st) l (n+1):=fun i j hi q hj=>by
 by_cases e:j<n
 ·exact hs i j hi q e
 ·have ej:j=n:=yw
  subst ej;by_cases e2:i=j
  ·rw[e2];exact O.irr (h.dd hn)
  ·exact O.tr _ (G (bz st) (j-1)) _ (h.dd yw) (h.dd yw) (h.dd hn) (hs i (j-1) hi yw yw) h1
theorem Sg.one(O:LtOk prog w A E s kd D lt)(h:Tb kd D a₀ lo st0 st){l:Nat}(hn:l<a₀.size):Sg lt (bz st) l (l+1):=fun i j hi q hj=>by
 have e1:i=l:=by clear hn;omega
 have e2:j=l:=by clear e1 hn;omega
 rw[e1,e2];exact O.irr (h.dd hn)
def Fg(lt:cq->cq->Bool)(xs:Array cq)(lo hi:Nat):Prop:=∀i j,lo<=i->i<=j->j<hi->lt (G xs i) (G xs j)=false
theorem p0{xs:Array cq}{l n:Nat}(hn:n<=xs.size)(hs:Fg lt xs l n):Sg lt (mirror xs l n ((n-l)/2)) l n:=fun i j hi q hj=>by
 rw[jE hn,jE hn,ck (by clear hn;omega),ck (by clear hn;omega)];exact hs _ _ (by clear q hi hn;omega) (by clear hj hi hn;omega) (by clear q hn;omega)
end
def Eg(lt:cq->cq->Bool)(xs:Array cq)(lo hi:Nat):Prop:=∀i j,lo<=i->i<hi->lo<=j->j<hi->lt (G xs i) (G xs j)=false
theorem n8{xs:Array cq}{l i n:Nat}(hn:n<=xs.size)(hl:l<=i)(hf:Fg lt xs l n)(he:Eg lt xs i n):Fg lt (mirror xs i n ((n-i)/2)) l n:=fun p q hp y hq=>by
 rw[jE hn,jE hn]
 clear hl hn
 by_cases h1:i<=p
 ·rw[ck (by clear hp;omega),ck (by clear hp;omega)];exact he _ _ (by clear h1 hp;omega) (by clear y hp;omega) (by clear h1 y hp;omega) (by clear hp;omega)
 ·rw[ci (by clear hq y hp;omega)];by_cases h2:i<=q
  ·rw[ck (by clear h1 y hp;omega)];exact hf _ _ hp (by clear h2 y hp;omega) (by clear h1 y hp;omega)
  ·rw[ci (by clear h1 hq y hp;omega)];exact hf p q hp y hq
theorem tD{xs:Array cq}{i n k:Nat}(hn:n<=xs.size)(hk:n<=k):G (mirror xs i n ((n-i)/2)) k=G xs k:=by
 rw[jE hn,ci (by clear hn;omega)]
theorem vP{xs:Array cq}{i n:Nat}(hn:n<=xs.size)(hi:i<n):G (mirror xs i n ((n-i)/2)) (n-1)=G xs i:=by
 rw[jE hn,ck (by clear hn;omega)];congr 1
 (clear hn;omega)
theorem gN(O:LtOk prog w A E s kd D lt){a₀:Array cq}{lo:Nat}{st0 st:gu}(h:Tb kd D a₀ lo st0 st){l n:Nat}(hn:n<a₀.size)(hl:l<n)(hs:Fg lt (bz st) l n)(h1:lt (G (bz st) (n-1)) (G (bz st) n)=false):Fg lt (bz st) l (n+1):=fun i j hi q hj=>by
 by_cases e:j<n
 ·exact hs i j hi q e
 ·have ej:j=n:=yw
  subst ej;by_cases e2:i=j
  ·rw[e2];exact O.irr (h.dd hn)
  ·exact O.tr _ (G (bz st) (j-1)) _ (h.dd hn) (h.dd yw) (h.dd yw) h1 (hs i (j-1) hi yw yw)
theorem Ef(O:LtOk prog w A E s kd D lt){a₀:Array cq}{lo ae:Nat}{st0 st:gu}{Q:Option Nat->gu->Prop}(h:Tb kd D a₀ lo st0 st)(hn:lo+ae<=a₀.size)(h1:1<=ae)
  (q:∀m st',Tb kd D a₀ lo st0 st'->1<=m->m<=ae->Sg lt (bz st') lo (lo+m)->Q (some m) st'):wpS (model prog w) A E s (countRun' lo ae) Q st:=by
 refine bv (kh (ig (a:=1)
  (I:=fun k c st'=>st'=st/\c=(none,k)/\Sg lt (bz st) lo (lo+k))
  (Q:=fun c st'=>st'=st/\∃n,c=(none,n)/\1<=n/\n<=ae/\Sg lt (bz st) lo (lo+n)/\(n=ae\/lt (G (bz st) (lo+n)) (G (bz st) (lo+n-1))=true)) ?step ?fin ⟨rfl,rfl,Sg.one O h yw⟩) ?post)
 case fin=>
  rintro c st' ⟨rfl,rfl,hs⟩;rw[show max 1 ae=ae by clear hn;omega]at hs ⊢;exact⟨rfl,ae,rfl,h1,cu _,hs,.inl rfl⟩
 case step=>
  rintro k c st' y aa ⟨rfl,rfl,hs⟩;refine bv (eR O h (i:=lo+k) (j:=lo+k-1) (by clear y h1;omega) (by clear y h1;omega) ?_);cases e:lt (G (bz st') (lo+k)) (G (bz st') (lo+k-1))with
  |true=>
   simp only[if_true];exact bx ⟨rfl,k,rfl,y,by clear y h1 hn;omega,hs,.inr e⟩
  |false=>
   simp only[fg,if_false];refine bx ⟨rfl,rfl,?_⟩;exact Sg.more (n:=lo+k) O h (by clear y h1;omega) (by clear aa h1 hn;omega) hs e
 case post=>
  rintro c st' ⟨rfl,n,rfl,n1,n2,hs,al⟩;dsimp only;by_cases hnn:n=ae
  ·rw[ck (by simpa using hnn)];exact bx (q n st' h n1 n2 hs)
  rw[ci (by simpa using hnn)];have ap:=al.resolve_left hnn;by_cases hgt:n>1
  ·rw[ck hgt];refine bv (eR O h (i:=lo) (j:=lo+n-1) (by clear hgt hnn al n2 n1;omega) (by clear hgt hnn al n1;omega) ?_);cases e0:lt (G (bz st') lo) (G (bz st') (lo+n-1))with
   |true=>
    simp only[if_true];exact bx (q n st' h n1 n2 hs)
   |false=>
    simp only[fg,if_false];have hsz:lo+n<=(bz st').size:=by rw[h.size];(clear hgt hnn al n1 h1;omega)
    have hal:∀p q,lo<=p->p<lo+n->lo<=q->q<lo+n->lt (G (bz st') p) (G (bz st') q)=false:=fun p q p1 p2 q1 q2=>by
     have s1:=hs lo q (cu _) q1 q2
     clear al hnn hgt hsz
     have s2:=hs p (lo+n-1) p1 (by clear q2 q1 p1 n2 n1 h1 hn;omega) (by clear q2 q1 p2 p1 n2 h1 hn;omega);have d0:=h.dd (i:=lo) (by clear q2 q1 p2 p1 n2 n1;omega);have dn:=h.dd (i:=lo+n-1) (by clear q2 q1 p2 p1 n1;omega);have dp:=h.dd (i:=p) (by clear q2 q1 p1 n1 h1;omega);have dq:=h.dd (i:=q) (by clear q1 p2 p1 n1 h1;omega);have s3:=hs q (lo+n-1) q1 (by clear q1 p2 p1 n2 n1 h1 hn;omega) (by clear q2 q1 p2 p1 n2 h1 hn;omega);have s4:=hs lo p (cu _) p1 p2;by_cases hpq:p<=q
     ·exact O.tr _ (G (bz st') lo) _ dq d0 dp (O.tr _ (G (bz st') (lo+n-1)) _ dq dn d0 s3 e0) s4
     ·exact hs q p q1 (by clear q2 q1 p2 p1 n2 n1 h1 hn;omega) p2
    have hT:=h.mirror (i:=lo) (j:=lo+n) (cu _) (by clear hsz hgt hnn al n1 h1;omega);have hF:Fg lt (bz (nr st' (mirror (bz st') lo (lo+n) ((lo+n-lo)/2)))) lo (lo+(n+1)):=by
     clear al hgt
     have au:Fg lt (bz st') lo (lo+n):=fun p q p1 pq q2=>hal p q p1 (by clear p1 hsz hnn n2 n1 h1 hn;omega) (by clear q2 hsz hnn n2 n1 h1 hn;omega) q2;have ar:=n8 hsz (cu _) au fun p q p1 p2 q1 q2=>hal p q p1 p2 q1 q2;refine gN (n:=lo+n) O hT (by clear hsz n1 h1;omega) (by clear hsz hnn n2 h1 hn;omega) ar ?_;show lt (G (mirror (bz st') lo (lo+n) _) (lo+n-1)) (G (mirror (bz st') lo (lo+n) _) (lo+n))=false;rw[tD hsz (cu _),vP hsz (by clear hsz hnn n2 h1 hn;omega)];have d1:=h.dd (i:=lo+n) (by clear hsz n1 h1;omega);have d2:=h.dd (i:=lo+n-1) (by clear hsz hnn n1;omega);exact O.tr _ _ _ d1 d2 (h.dd (by clear hsz hnn n2 n1;omega)) (O.asym _ _ d1 d2 ap) e0
    refine bv (fZ ?_)
    revert hT hF
    generalize (nr st' (mirror (bz st') lo (lo+n) ((lo+n-lo)/2)))=stA;intro hT hF;refine bv (wpS_lift (on ⟨rfl,?_⟩));refine bv (kh (ig (a:=n+1)
     (I:=fun k c st'=>Tb kd D a₀ lo st0 st'/\∃ac,c=(none,k,ac)/\Fg lt (bz st') lo (lo+k)/\ac+1<=k/\Eg lt (bz st') (lo+k-(ac+1)) (lo+k))
     (Q:=fun c st'=>Tb kd D a₀ lo st0 st'/\∃m ac,c=(none,m,ac)/\1<=m/\m<=ae/\Fg lt (bz st') lo (lo+m)/\ac+1<=m/\Eg lt (bz st') (lo+m-(ac+1)) (lo+m)) ?step2 ?fin2 ⟨hT,0,rfl,hF,by clear hsz hgt hnn al n2 n1 h1 hn;omega,fun i j h1 h2 h3 h4=>by
      have e1:i=j:=by clear hsz hgt hnn al n2 n1 hn;omega
      rw[e1];exact O.irr (hT.dd (by clear e1 h3 h2 h1 hsz hgt al n1;omega))⟩) ?post2)
    case fin2=>
     rintro c ag ⟨af,ac,rfl,ak,ab,ai⟩;rw[show max (n+1) ae=ae by clear ab hsz hgt al n1 h1 hn;omega]at ak ab ai ⊢;exact⟨af,ae,ac,rfl,by clear ab hsz hgt hnn al n2 n1 hn;omega,cu _,ak,ab,ai⟩
    case step2=>
     rintro k c ag y aa ⟨af,ac,rfl,ak,ab,ai⟩
     clear al n2 hnn hgt n1
     refine bv (eR O af (i:=lo+k) (j:=lo+k-1) (by clear ab y hsz h1;omega) (by clear ab y hsz h1;omega) ?_);have hsz:lo+k<=(bz ag).size:=by rw[af.size];(clear ab y hsz h1;omega)
     cases e:lt (G (bz ag) (lo+k)) (G (bz ag) (lo+k-1))with
     |true=>
      simp only[if_true];by_cases hq0:ac>0
      ·rw[ck hq0];have an:=af.mirror (i:=lo+k-(ac+1)) (j:=lo+k) (by clear hq0 hsz aa y h1 hn;omega) (by clear hq0 hsz ab y h1;omega);refine bv (fZ (bx ⟨an,0,rfl,?_,by clear hq0 hsz ab aa y h1 hn;omega,fun i j h1 h2 h3 h4=>by
        have e1:i=j:=by clear hq0 hsz ab aa y hn;omega
        rw[e1];exact O.irr (an.dd (by clear e1 h3 h2 h1 hq0 hsz ab y;omega))⟩))
       refine gN (n:=lo+k) O an (by clear hq0 hsz ab y h1;omega) (by clear hq0 hsz ab aa h1 hn;omega) (n8 hsz (by clear hq0 hsz aa y h1 hn;omega) ak ai) ?_;show lt (G (mirror (bz ag) (lo+k-(ac+1)) (lo+k) _) (lo+k-1)) (G (mirror (bz ag) (lo+k-(ac+1)) (lo+k) _) (lo+k))=false;rw[tD hsz (cu _),vP hsz (by clear hq0 hsz ab aa h1 hn;omega)]
       clear ab hsz hq0 h1
       have d1:=af.dd (i:=lo+k) (by clear y;omega);have d2:=af.dd (i:=lo+k-1) (by clear y;omega);have d3:=af.dd (i:=lo+k-(ac+1)) (by clear y;omega);exact O.tr _ _ _ d1 d2 d3 (O.asym _ _ d1 d2 e) (ai _ _ (by clear aa y hn;omega) (by clear aa hn;omega) (by clear aa y hn;omega) (by clear aa hn;omega))
      ·rw[ci hq0]
       clear ab hsz hq0
       refine bx ⟨af,0,rfl,?_,by clear aa y h1 hn;omega,fun i j h1 h2 h3 h4=>by
        have e1:i=j:=by clear aa y hn;omega
        rw[e1];exact O.irr (af.dd (by clear e1 h3 h2 h1 y;omega))⟩
       exact gN (n:=lo+k) O af (by clear y h1;omega) (by clear aa h1 hn;omega) ak (O.asym _ _ (af.dd (by clear y h1;omega)) (af.dd (by clear y h1;omega)) e)
     |false=>
      simp only[fg,if_false];refine bv (eR O af (i:=lo+k-1) (j:=lo+k) (by clear hsz ab y h1;omega) (by clear hsz ab y h1;omega) ?_);cases e2:lt (G (bz ag) (lo+k-1)) (G (bz ag) (lo+k))with
      |true=>
       simp only[if_true];exact bx ⟨af,k,ac,rfl,by clear hsz ab aa h1 hn;omega,by clear hsz ab y h1 hn;omega,ak,ab,ai⟩
      |false=>
       simp only[fg,if_false];refine bx ⟨af,ac+1,rfl,gN (n:=lo+k) O af (by clear hsz ab y h1;omega) (by clear hsz ab aa h1 hn;omega) ak e2,by clear hsz aa y h1 hn;omega,fun i j h1 h2 h3 h4=>?_⟩
       clear ab hsz
       have dk:=af.dd (i:=lo+k) (by clear h4 h3 h2 h1 y;omega);have dl:=af.dd (i:=lo+k-1) (by clear h4 h3 h2 h1 y;omega);by_cases z1:i=lo+k
       ·rw[z1];by_cases z2:j=lo+k
        ·rw[z2];exact O.irr dk
        ·exact O.tr _ _ _ (af.dd (by clear z2 z1 h3 h2 h1 y;omega)) dl dk (ai _ _ (by clear z2 z1 h4 h3 h2 h1 aa y hn;omega) (by clear z2 z1 h4 h3 h2 h1 aa hn;omega) (by clear z2 z1 h4 h2 h1 aa y hn;omega) (by clear z1 h3 h2 h1 aa y hn;omega)) e
       ·by_cases z2:j=lo+k
        ·rw[z2];exact O.tr _ _ _ dk dl (af.dd (by clear z2 z1 h4 h3 h1 y;omega)) e2 (ai _ _ (by clear z2 z1 h4 h3 h2 aa y hn;omega) (by clear z2 h4 h3 h1 aa y hn;omega) (by clear z2 z1 h4 h3 h2 h1 aa y hn;omega) (by clear z2 z1 h4 h3 h2 h1 aa hn;omega))
        ·exact ai i j (by clear z2 z1 h4 h3 h2 aa y hn;omega) (by clear z2 h4 h3 h1 aa y hn;omega) (by clear z2 z1 h4 h2 h1 aa y hn;omega) (by clear z1 h3 h2 h1 aa y hn;omega)
    case post2=>
     rintro c ag ⟨af,m,ac,rfl,m1,m2,ak,ab,ai⟩
     clear al n2 hnn hgt n1
     have hsz:lo+m<=(bz ag).size:=by rw[af.size];(clear ab m1 hsz h1;omega)
     have an:=af.mirror (i:=lo+m-(ac+1)) (j:=lo+m) (by clear hsz m2 m1 h1 hn;omega) (by clear hsz ab m1 h1;omega);have ao:=n8 hsz (by clear hsz m2 m1 h1 hn;omega) ak ai;by_cases hq0:ac>0
     ·rw[ck hq0];refine bv (fZ ?_);have ah:=an.mirror (i:=lo) (j:=lo+m) (cu _) (by clear hq0 hsz ab m1 h1;omega);have am:Sg lt (bz (nr (nr ag (mirror (bz ag) (lo+m-(ac+1)) (lo+m) ((lo+m-(lo+m-(ac+1)))/2))) (mirror (mirror (bz ag) (lo+m-(ac+1)) (lo+m) ((lo+m-(lo+m-(ac+1)))/2)) lo (lo+m) ((lo+m-lo)/2)))) lo (lo+m):=p0 (by rw[mirror_size];exact hsz) ao;refine bv (fZ ?_)
      revert ah am
      generalize (nr (nr ag (mirror (bz ag) (lo+m-(ac+1)) (lo+m) ((lo+m-(lo+m-(ac+1)))/2))) (mirror (mirror (bz ag) (lo+m-(ac+1)) (lo+m) ((lo+m-(lo+m-(ac+1)))/2)) lo (lo+m) ((lo+m-lo)/2)))=st4;intro ah am;refine bv (kh (ig (a:=m)
       (I:=fun k c st'=>st'=st4/\c=(none,k)/\Sg lt (bz st4) lo (lo+k))
       (Q:=fun c st'=>st'=st4/\∃n,c=(none,n)/\1<=n/\n<=ae/\Sg lt (bz st4) lo (lo+n)) ?step3 ?fin3 ⟨rfl,rfl,am⟩) ?post3)
      case fin3=>
       rintro c aj ⟨rfl,rfl,hs⟩;rw[show max m ae=ae by clear hq0 hsz ab m1 h1 hn;omega]at hs ⊢;exact⟨rfl,ae,rfl,by clear hq0 hsz ab m2 m1 hn;omega,cu _,hs⟩
      case step3=>
       rintro k c aj y aa ⟨rfl,rfl,hs⟩
       clear ab hsz hq0 m2 h1
       refine bv (eR O ah (i:=lo+k) (j:=lo+k-1) (by clear y m1;omega) (by clear y m1;omega) ?_);cases e:lt (G (bz aj) (lo+k)) (G (bz aj) (lo+k-1))with
       |true=>
        simp only[if_true];exact bx ⟨rfl,k,rfl,by clear aa hn;omega,by clear y m1 hn;omega,hs⟩
       |false=>
        simp only[fg,if_false];exact bx ⟨rfl,rfl,Sg.more (n:=lo+k) O ah (by clear y m1;omega) (by clear aa hn;omega) hs e⟩
      case post3=>
       rintro c aj ⟨rfl,n',rfl,p1,p2,hs⟩;exact bx (q n' aj ah p1 p2 hs)
     ·rw[ci hq0];have ah:=af.mirror (i:=lo) (j:=lo+m) (cu _) (by clear hq0 hsz ab m1 h1;omega);have am:Sg lt (bz (nr ag (mirror (bz ag) lo (lo+m) ((lo+m-lo)/2)))) lo (lo+m):=p0 hsz ak;refine bv (fZ ?_)
      revert ah am
      generalize (nr ag (mirror (bz ag) lo (lo+m) ((lo+m-lo)/2)))=st4;intro ah am;refine bv (kh (ig (a:=m)
       (I:=fun k c st'=>st'=st4/\c=(none,k)/\Sg lt (bz st4) lo (lo+k))
       (Q:=fun c st'=>st'=st4/\∃n,c=(none,n)/\1<=n/\n<=ae/\Sg lt (bz st4) lo (lo+n)) ?step3 ?fin3 ⟨rfl,rfl,am⟩) ?post3)
      case fin3=>
       rintro c aj ⟨rfl,rfl,hs⟩;rw[show max m ae=ae by clear hq0 hsz ab m1 h1 hn;omega]at hs ⊢;exact⟨rfl,ae,rfl,by clear hq0 hsz ab m2 m1 hn;omega,cu _,hs⟩
      case step3=>
       rintro k c aj y aa ⟨rfl,rfl,hs⟩
       clear ab hsz hq0 m2 h1
       refine bv (eR O ah (i:=lo+k) (j:=lo+k-1) (by clear y m1;omega) (by clear y m1;omega) ?_);cases e:lt (G (bz aj) (lo+k)) (G (bz aj) (lo+k-1))with
       |true=>
        simp only[if_true];exact bx ⟨rfl,k,rfl,by clear aa hn;omega,by clear y m1 hn;omega,hs⟩
       |false=>
        simp only[fg,if_false];exact bx ⟨rfl,rfl,Sg.more (n:=lo+k) O ah (by clear y m1;omega) (by clear aa hn;omega) hs e⟩
      case post3=>
       rintro c aj ⟨rfl,n',rfl,p1,p2,hs⟩;exact bx (q n' aj ah p1 p2 hs)
  ·rw[ci hgt];have aq:n=1:=by clear hnn al n2 h1 hn;omega
   have hT:=h;have hF:Fg lt (bz st') lo (lo+(n+1)):=by
    subst aq
    clear al hgt n2 n1
    refine gN (n:=lo+1) O h yw (by clear hnn h1 hn;omega) (fun p q p1 pq q2=>?_) (O.asym _ _ (h.dd yw) (h.dd (by clear hnn;omega)) ap);have e1:p=q:=by clear hnn h1 hn;omega
    rw[e1];exact O.irr (h.dd (by clear e1 pq p1 hnn;omega))
   refine bv (wpS_lift (on ⟨rfl,?_⟩))
   clear al hgt n1 aq
   refine bv (kh (ig (a:=n+1)
    (I:=fun k c st'=>Tb kd D a₀ lo st0 st'/\∃ac,c=(none,k,ac)/\Fg lt (bz st') lo (lo+k)/\ac+1<=k/\Eg lt (bz st') (lo+k-(ac+1)) (lo+k))
    (Q:=fun c st'=>Tb kd D a₀ lo st0 st'/\∃m ac,c=(none,m,ac)/\1<=m/\m<=ae/\Fg lt (bz st') lo (lo+m)/\ac+1<=m/\Eg lt (bz st') (lo+m-(ac+1)) (lo+m)) ?step2 ?fin2 ⟨hT,0,rfl,hF,by clear hnn n2 h1 hn;omega,fun i j h1 h2 h3 h4=>by
     have e1:i=j:=by clear hnn n2 hn;omega
     rw[e1];exact O.irr (hT.dd (by clear e1 h3 h2 h1;omega))⟩) ?post2)
   case fin2=>
    rintro c ag ⟨af,ac,rfl,ak,ab,ai⟩;rw[show max (n+1) ae=ae by clear ab h1 hn;omega]at ak ab ai ⊢;exact⟨af,ae,ac,rfl,by clear ab hnn n2 hn;omega,cu _,ak,ab,ai⟩
   case step2=>
    rintro k c ag y aa ⟨af,ac,rfl,ak,ab,ai⟩
    clear n2 hnn
    refine bv (eR O af (i:=lo+k) (j:=lo+k-1) (by clear ab y h1;omega) (by clear ab y h1;omega) ?_);have hsz:lo+k<=(bz ag).size:=by rw[af.size];(clear ab y h1;omega)
    cases e:lt (G (bz ag) (lo+k)) (G (bz ag) (lo+k-1))with
    |true=>
     simp only[if_true];by_cases hq0:ac>0
     ·rw[ck hq0];have an:=af.mirror (i:=lo+k-(ac+1)) (j:=lo+k) (by clear hq0 hsz aa y h1 hn;omega) (by clear hq0 hsz ab y h1;omega);refine bv (fZ (bx ⟨an,0,rfl,?_,by clear hq0 hsz ab aa y h1 hn;omega,fun i j h1 h2 h3 h4=>by
       have e1:i=j:=by clear hq0 hsz ab aa y hn;omega
       rw[e1];exact O.irr (an.dd (by clear e1 h3 h2 h1 hq0 hsz ab y;omega))⟩))
      refine gN (n:=lo+k) O an (by clear hq0 hsz ab y h1;omega) (by clear hq0 hsz ab aa h1 hn;omega) (n8 hsz (by clear hq0 hsz aa y h1 hn;omega) ak ai) ?_;show lt (G (mirror (bz ag) (lo+k-(ac+1)) (lo+k) _) (lo+k-1)) (G (mirror (bz ag) (lo+k-(ac+1)) (lo+k) _) (lo+k))=false;rw[tD hsz (cu _),vP hsz (by clear hq0 hsz ab aa h1 hn;omega)]
      clear ab hsz hq0 h1
      have d1:=af.dd (i:=lo+k) (by clear y;omega);have d2:=af.dd (i:=lo+k-1) (by clear y;omega);have d3:=af.dd (i:=lo+k-(ac+1)) (by clear y;omega);exact O.tr _ _ _ d1 d2 d3 (O.asym _ _ d1 d2 e) (ai _ _ (by clear aa y hn;omega) (by clear aa hn;omega) (by clear aa y hn;omega) (by clear aa hn;omega))
     ·rw[ci hq0]
      clear ab hsz hq0
      refine bx ⟨af,0,rfl,?_,by clear aa y h1 hn;omega,fun i j h1 h2 h3 h4=>by
       have e1:i=j:=by clear aa y hn;omega
       rw[e1];exact O.irr (af.dd (by clear e1 h3 h2 h1 y;omega))⟩
      exact gN (n:=lo+k) O af (by clear y h1;omega) (by clear aa h1 hn;omega) ak (O.asym _ _ (af.dd (by clear y h1;omega)) (af.dd (by clear y h1;omega)) e)
    |false=>
     simp only[fg,if_false];refine bv (eR O af (i:=lo+k-1) (j:=lo+k) (by clear hsz ab y h1;omega) (by clear hsz ab y h1;omega) ?_);cases e2:lt (G (bz ag) (lo+k-1)) (G (bz ag) (lo+k))with
     |true=>
      simp only[if_true];exact bx ⟨af,k,ac,rfl,by clear hsz ab aa h1 hn;omega,by clear hsz ab y h1 hn;omega,ak,ab,ai⟩
     |false=>
      simp only[fg,if_false];refine bx ⟨af,ac+1,rfl,gN (n:=lo+k) O af (by clear hsz ab y h1;omega) (by clear hsz ab aa h1 hn;omega) ak e2,by clear hsz aa y h1 hn;omega,fun i j h1 h2 h3 h4=>?_⟩
      clear ab hsz
      have dk:=af.dd (i:=lo+k) (by clear h4 h3 h2 h1 y;omega);have dl:=af.dd (i:=lo+k-1) (by clear h4 h3 h2 h1 y;omega);by_cases z1:i=lo+k
      ·rw[z1]
       clear h2 z1 h1
       by_cases z2:j=lo+k
       ·rw[z2];exact O.irr dk
       ·exact O.tr _ _ _ (af.dd (by clear z2 h3 y;omega)) dl dk (ai _ _ (by clear z2 h4 h3 aa y hn;omega) (by clear z2 h4 h3 aa hn;omega) (by clear z2 h4 aa y hn;omega) (by clear h3 aa y hn;omega)) e
      ·by_cases z2:j=lo+k
       ·rw[z2];exact O.tr _ _ _ dk dl (af.dd (by clear z2 z1 h4 h3 h1 y;omega)) e2 (ai _ _ (by clear z2 z1 h4 h3 h2 aa y hn;omega) (by clear z2 h4 h3 h1 aa y hn;omega) (by clear z2 z1 h4 h3 h2 h1 aa y hn;omega) (by clear z2 z1 h4 h3 h2 h1 aa hn;omega))
       ·exact ai i j (by clear z2 z1 h4 h3 h2 aa y hn;omega) (by clear z2 h4 h3 h1 aa y hn;omega) (by clear z2 z1 h4 h2 h1 aa y hn;omega) (by clear z1 h3 h2 h1 aa y hn;omega)
   case post2=>
    rintro c ag ⟨af,m,ac,rfl,m1,m2,ak,ab,ai⟩;have hsz:lo+m<=(bz ag).size:=by rw[af.size];(clear ab m1 hnn n2 h1;omega)
    have an:=af.mirror (i:=lo+m-(ac+1)) (j:=lo+m) (by clear hsz m2 m1 hnn n2 h1 hn;omega) (by clear hsz ab m1 hnn n2 h1;omega);have ao:=n8 hsz (by clear hsz m2 m1 hnn n2 h1 hn;omega) ak ai
    clear n2 ab hnn
    by_cases hq0:ac>0
    ·rw[ck hq0];refine bv (fZ ?_);have ah:=an.mirror (i:=lo) (j:=lo+m) (cu _) (by clear hq0 hsz m1 h1;omega);have am:Sg lt (bz (nr (nr ag (mirror (bz ag) (lo+m-(ac+1)) (lo+m) ((lo+m-(lo+m-(ac+1)))/2))) (mirror (mirror (bz ag) (lo+m-(ac+1)) (lo+m) ((lo+m-(lo+m-(ac+1)))/2)) lo (lo+m) ((lo+m-lo)/2)))) lo (lo+m):=p0 (by rw[mirror_size];exact hsz) ao;refine bv (fZ ?_)
     revert ah am
     generalize (nr (nr ag (mirror (bz ag) (lo+m-(ac+1)) (lo+m) ((lo+m-(lo+m-(ac+1)))/2))) (mirror (mirror (bz ag) (lo+m-(ac+1)) (lo+m) ((lo+m-(lo+m-(ac+1)))/2)) lo (lo+m) ((lo+m-lo)/2)))=st4;intro ah am;refine bv (kh (ig (a:=m)
      (I:=fun k c st'=>st'=st4/\c=(none,k)/\Sg lt (bz st4) lo (lo+k))
      (Q:=fun c st'=>st'=st4/\∃n,c=(none,n)/\1<=n/\n<=ae/\Sg lt (bz st4) lo (lo+n)) ?step3 ?fin3 ⟨rfl,rfl,am⟩) ?post3)
     case fin3=>
      rintro c aj ⟨rfl,rfl,hs⟩;rw[show max m ae=ae by clear hq0 hsz m1 h1 hn;omega]at hs ⊢;exact⟨rfl,ae,rfl,by clear hq0 hsz m2 m1 hn;omega,cu _,hs⟩
     case step3=>
      rintro k c aj y aa ⟨rfl,rfl,hs⟩
      clear hsz hq0 m2 h1
      refine bv (eR O ah (i:=lo+k) (j:=lo+k-1) (by clear y m1;omega) (by clear y m1;omega) ?_);cases e:lt (G (bz aj) (lo+k)) (G (bz aj) (lo+k-1))with
      |true=>
       simp only[if_true];exact bx ⟨rfl,k,rfl,by clear aa hn;omega,by clear y m1 hn;omega,hs⟩
      |false=>
       simp only[fg,if_false];exact bx ⟨rfl,rfl,Sg.more (n:=lo+k) O ah (by clear y m1;omega) (by clear aa hn;omega) hs e⟩
     case post3=>
      rintro c aj ⟨rfl,n',rfl,p1,p2,hs⟩;exact bx (q n' aj ah p1 p2 hs)
    ·rw[ci hq0];have ah:=af.mirror (i:=lo) (j:=lo+m) (cu _) (by clear hq0 hsz m1 h1;omega);have am:Sg lt (bz (nr ag (mirror (bz ag) lo (lo+m) ((lo+m-lo)/2)))) lo (lo+m):=p0 hsz ak;refine bv (fZ ?_)
     revert ah am
     generalize (nr ag (mirror (bz ag) lo (lo+m) ((lo+m-lo)/2)))=st4;intro ah am;refine bv (kh (ig (a:=m)
      (I:=fun k c st'=>st'=st4/\c=(none,k)/\Sg lt (bz st4) lo (lo+k))
      (Q:=fun c st'=>st'=st4/\∃n,c=(none,n)/\1<=n/\n<=ae/\Sg lt (bz st4) lo (lo+n)) ?step3 ?fin3 ⟨rfl,rfl,am⟩) ?post3)
     case fin3=>
      rintro c aj ⟨rfl,rfl,hs⟩;rw[show max m ae=ae by clear hq0 hsz m1 h1 hn;omega]at hs ⊢;exact⟨rfl,ae,rfl,by clear hq0 hsz m2 m1 hn;omega,cu _,hs⟩
     case step3=>
      rintro k c aj y aa ⟨rfl,rfl,hs⟩
      clear hsz hq0 m2 h1
      refine bv (eR O ah (i:=lo+k) (j:=lo+k-1) (by clear y m1;omega) (by clear y m1;omega) ?_);cases e:lt (G (bz aj) (lo+k)) (G (bz aj) (lo+k-1))with
      |true=>
       simp only[if_true];exact bx ⟨rfl,k,rfl,by clear aa hn;omega,by clear y m1 hn;omega,hs⟩
      |false=>
       simp only[fg,if_false];exact bx ⟨rfl,rfl,Sg.more (n:=lo+k) O ah (by clear y m1;omega) (by clear aa hn;omega) hs e⟩
     case post3=>
      rintro c aj ⟨rfl,n',rfl,p1,p2,hs⟩;exact bx (q n' aj ah p1 p2 hs)
theorem KO(O:LtOk prog w A E s kd D lt){a₀:Array cq}{lo n ok:Nat}{st0 st:gu}{Q:Bool->gu->Prop}(h:Tb kd D a₀ lo st0 st)(hn:lo+n<=a₀.size)(h1:1<=ok)(hok:ok<=n)(hs:Sg lt (bz st) lo (lo+ok))
  (q:∀st',Tb kd D a₀ lo st0 st'->Sg lt (bz st') lo (lo+n)->Q true st'):wpS (model prog w) A E s (binarySort' lo n ok) Q st:=by
 refine bv (kh (ig (a:=max ok 1)
  (I:=fun k c st'=>c=(none,())/\Tb kd D a₀ lo st0 st'/\Sg lt (bz st') lo (lo+k))
  (Q:=fun c st'=>c=(none,())/\Tb kd D a₀ lo st0 st'/\Sg lt (bz st') lo (lo+n)) ?step ?fin ⟨rfl,h,by rw[show max ok 1=ok by omega];exact hs⟩) ?post)
 case fin=>
  rintro c st' ⟨rfl,hT,hS⟩;rw[show max (max ok 1) n=n by omega]at hS;exact⟨rfl,hT,hS⟩
 case post=>
  rintro c st' ⟨rfl,hT,hS⟩;exact bx (q st' hT hS)
 case step=>
  rintro k c st' ae ac ⟨rfl,hT,hS⟩;have k1:1<=k:=yw
  refine bv (kh (ig (a:=0)
   (I:=fun j c y=>y=st'/\∃l r,c=(none,l,r)/\l<=r/\r<=k/\r-l+j<=k/\(∀i,i<l->lt (G (bz st') (lo+k)) (G (bz st') (lo+i))=false)/\∀i,r<=i->i<k->lt (G (bz st') (lo+k)) (G (bz st') (lo+i))=true)
   (Q:=fun c y=>y=st'/\∃l,c=(none,l,l)/\l<=k/\(∀i,i<l->lt (G (bz st') (lo+k)) (G (bz st') (lo+i))=false)/\∀i,l<=i->i<k->lt (G (bz st') (lo+k)) (G (bz st') (lo+i))=true) ?step2 ?fin2 ⟨rfl,0,k,rfl,yw,yw,yw,fun i hi=>by omega,fun i h1 h2=>by omega⟩) ?post2)
  case fin2=>
   rintro c y ⟨rfl,l,r,rfl,a1,a2,a3,a4,a5⟩;have:l=r:=yw
   subst this;exact⟨rfl,l,rfl,a2,a4,a5⟩
  case step2=>
   rintro j c y _ hj ⟨rfl,l,r,rfl,a1,a2,a3,a4,a5⟩;by_cases hlr:l≥r
   ·rw[ck hlr];have:l=r:=yw
    subst this;exact bx ⟨rfl,l,rfl,a2,a4,a5⟩
   rw[ci hlr];have hm:(l+r)/2<k:=yw
   refine bv (eR O hT (i:=lo+k) (j:=lo+(l+r)/2) yw yw ?_);have dk:=hT.dd (i:=lo+k) yw;have dm:=hT.dd (i:=lo+(l+r)/2) yw;cases e:lt (G (bz y) (lo+k)) (G (bz y) (lo+(l+r)/2))with
   |true=>
    simp only[if_true];refine bx ⟨rfl,l,(l+r)/2,rfl,yw,yw,yw,a4,fun i i1 i2=>?_⟩;have di:=hT.dd (i:=lo+i) yw;cases e2:lt (G (bz y) (lo+k)) (G (bz y) (lo+i))with
    |true=>rfl
    |false=>
     have:=O.tr _ _ _ dm di dk (hS (lo+(l+r)/2) (lo+i) yw yw yw) e2;rw[this]at e;cases e
   |false=>
    simp only[fg,if_false];refine bx ⟨rfl,(l+r)/2+1,r,rfl,yw,yw,yw,fun i i1=>?_,a5⟩;exact O.tr _ _ _ (hT.dd yw) dm dk (hS (lo+i) (lo+(l+r)/2) yw yw yw) e
  case post2=>
   rintro c y ⟨rfl,l,rfl,l1,l2,l3⟩;have aa:lo+k<(bz y).size:=by rw[hT.size];omega
   have hd:lo+k-(lo+l)=k-l:=yw
   refine bv (lh (bx ⟨rfl,hT.bubble (src:=lo+k) (d:=lo+k-(lo+l)) yw yw yw,?_⟩));intro i j hi ab hj;show lt (G (bubble (bz y) (lo+k) (lo+k-(lo+l))) j) (G (bubble (bz y) (lo+k) (lo+k-(lo+l))) i)=false;rw[uC aa yw,uC aa yw,show lo+k-(lo+k-(lo+l))=lo+l by omega];have dk:=hT.dd (i:=lo+k) yw;by_cases i1:i=lo+l
   ·rw[ck i1];by_cases j1:j=lo+l
    ·rw[ck j1];exact O.irr dk
    ·rw[ci j1,ck yw];have:=l3 (j-1-lo) yw yw;rw[show lo+(j-1-lo)=j-1 by omega]at this;exact O.asym _ _ dk (hT.dd yw) this
   ·rw[ci i1];by_cases i2:lo+l<i/\i<=lo+k
    ·rw[ck i2,ci yw,ck yw];exact hS _ _ yw yw yw
    ·rw[ci i2];by_cases j1:j=lo+l
     ·rw[ck j1];have:=l2 (i-lo) yw;rw[show lo+(i-lo)=i by omega]at this;exact this
     ·rw[ci j1];by_cases j2:lo+l<j/\j<=lo+k
      ·rw[ck j2];exact hS _ _ yw yw yw
      ·rw[ci j2];exact hS i j hi ab yw
structure Ts(kd:pz)(D:cq->Prop)(a₀:Array cq)(st:gu):Prop where
 kd:kindOf st=kd
 fl:qv st=none
 pm:(bz st).Perm a₀
 d:∀x∈a₀.toList,D x
section
variable {a₀:Array cq}{st:gu}
theorem Ts.size(h:Ts kd D a₀ st):(bz st).size=a₀.size:=h.pm.size_eq
theorem Ts.mem(h:Ts kd D a₀ st){x:cq}(m:x∈(bz st).toList):D x:=h.d x ((Array.perm_iff_toList_perm.mp h.pm).mem_iff.mp m)
theorem Ts.at(h:Ts kd D a₀ st){i:Nat}(hi:i<a₀.size):(bz st)[i]?=some (G (bz st) i):=sS (by rw[h.size];exact hi)
theorem Ts.dd(h:Ts kd D a₀ st){i:Nat}(hi:i<a₀.size):D (G (bz st) i):=h.mem (bt (by rw[<- zY];exact h.at hi))
theorem Ts.tb(h:Ts kd D a₀ st)(lo:Nat):Tb kd D a₀ lo st st:=⟨h.kd,h.fl,h.pm,rfl,fun _ _=>rfl,h.d⟩
end
theorem Dv{xs:Array cq}{i:Nat}{x:cq}(h:xs.toList[i]?=some x):G xs i=x:=by
 unfold G;rw[zY.mpr h];rfl
theorem Au(s:Nat):∀(l:List cq) (k:Nat) (xs:Array cq),s+k+l.length<=xs.size->((l.zipIdx k).foldl (fun a p=>a.setIfInBounds (s+p.2) p.1) xs).toList=xs.toList.take (s+k)++l++xs.toList.drop (s+k+l.length)
 | [],k,xs,_=>by simp
 |x::l,k,xs,h=>by
  rw[ff]at h;rw[List.zipIdx_cons,List.foldl_cons,Au s l (k+1) _ (by rw[Array.size_setIfInBounds];omega)];simp only[Array.toList_setIfInBounds];have hl:s+k<xs.toList.length:=by simp;omega
  have e1:(xs.toList.set (s+k) x).take (s+(k+1))=xs.toList.take (s+k)++[x]:=by
   rw[show s+(k+1)=s+k+1 by omega,take_add_one,oe hl,List.take_set_of_le (cu _)];rfl
  have e2:(xs.toList.set (s+k) x).drop (s+(k+1)+l.length)=xs.toList.drop (s+k+(x::l).length):=by
   rw[List.drop_set_of_lt yw,ff];congr 1;omega
  rw[e1,e2];simp
theorem IQ{x:gu}{Q:PUnit->gu->Prop}{st:gu}(h:Q ⟨⟩ x):wpS (model prog w) A E s (set x:StateT gu Sem PUnit) Q st:=by
 unfold wpS;rw[StateT.run_set];exact cm ⟨rfl,h⟩
theorem kW{xs:Array cq}{lo hi:Nat}(hh:hi<=xs.size){x:cq}(m:x∈(xs.extract lo hi).toList):∃r,lo<=r/\r<hi/\G xs r=x:=by
 rw[nj,jv]at m;obtain⟨j,hj⟩:=mem_iff_getElem?.mp m;rw[getElem?_take]at hj;split at hj
 ·rw[qc]at hj;exact⟨lo+j,by clear hh;omega,by clear hh;omega,Dv hj⟩
 ·cases hj
theorem vA{xs:Array cq}{lo hi j:Nat}(hh:hi<=xs.size)(hj:j<hi-lo):(xs.extract lo hi)[j]?=some (G xs (lo+j)):=by
 rw[zY,nj,jv,getElem?_take,ck yw,qc,<- zY];exact sS yw
theorem AW{xs:Array cq}{lo hi:Nat}(hh:hi<=xs.size)(h:Sg lt xs lo hi):SrtL lt (xs.extract lo hi).toList:=by
 unfold SrtL;rw[List.pairwise_iff_getElem];intro i j y q aa;have e1:=ca y;have e2:=ca q;have hl:(xs.extract lo hi).toList.length=hi-lo:=by simp;omega
 rw[<- zY,vA hh yw]at e1 e2;rw[<- gz e1,<- gz e2];exact h _ _ yw yw yw
theorem KZ(O:LtOk prog w A E s kd D lt){a₀:Array cq}{i sa na pw sb nb a2:Nat}{st:gu}{Q:Bool->gu->Prop}(h:Ts kd D a₀ st)(e1:(cr st)[i]?=some (sa,na,pw))(e2:(cr st)[i+1]?=some (sb,nb,a2))(aa:sb=sa+na)(ac:1<=na)(ab:1<=nb)(hsz:sb+nb<=a₀.size)
  (sA:Sg lt (bz st) sa (sa+na)) (sB:Sg lt (bz st) sb (sb+nb))
  (q:∀st',Ts kd D a₀ st'->cr st'=((cr st).setIfInBounds i (sa,na+nb,pw)).eraseIdxIfInBounds (i+1)->(∀j,j<sa\/sa+na+nb<=j->G (bz st') j=G (bz st) j)->Sg lt (bz st') sa (sa+na+nb)->Q true st'):wpS (model prog w) A E s (mergeAt' i) Q st:=by
 refine bv (rg ?_);simp only[e1,e2];have ae:(bz st).size=a₀.size:=h.size;refine bv (IQ ?_);refine bv (zx (h.at (i:=sb) (by clear ae ac aa;omega)) ?_);refine bv (gal O (key:=G (bz st) sb) (hint:=0) h.kd (h.dd (by clear ae ac aa;omega)) (fun j h1 h2=>⟨_,h.at (by clear h1 ae ab ac;omega),h.dd (by clear h1 ae ab ac;omega)⟩) (fun i j x y h1 h2 h3 ex ey=>by
  rw[h.at (by clear h1 ae ab ac;omega)]at ex ey;cases ex;cases ey;exact sA i j h1 h2 h3) (by clear ae hsz ab aa;omega) fun k hk g1 g2=>?_)
 dsimp only;have ao:∀j,sa<=j->j<sa+k->lt (G (bz st) sb) (G (bz st) j)=false:=fun j h1 h2=>by
  have:=g1 j _ h1 h2 (h.at (by clear h1 ae ab ac;omega));simpa[bey]using this
 have au:∀j,sa+k<=j->j<sa+na->lt (G (bz st) sb) (G (bz st) j)=true:=fun j h1 h2=>by
  have:=g2 j _ h1 h2 (h.at (by clear h1 hk ae ab ac;omega));simpa[bey]using this
 by_cases c1:na-k=0
 ·rw[ck (by simpa using c1)];refine bx (q _ ⟨h.kd,h.fl,h.pm,h.d⟩ rfl (fun j _=>rfl) fun p r hp af hr=>?_);show lt (G (bz st) r) (G (bz st) p)=false
  clear hk ac ae
  by_cases z1:r<sa+na
  ·exact sA p r hp af z1
  ·by_cases z2:p<sa+na
   ·exact O.tr _ _ _ (h.dd (by clear z2 z1 hp c1 ab;omega)) (h.dd (i:=sb) (by clear z2 z1 hr af hp c1 aa;omega)) (h.dd (by clear z2 z1 af hp c1 ab;omega)) (ao p hp (by clear z1 hr af hp hsz ab aa;omega)) (sB sb r (cu _) (by clear z2 hr af hp c1 hsz ab;omega) (by clear z2 z1 af hp c1 hsz ab;omega))
   ·exact sB p r (by clear z1 hr af hp c1 hsz ab;omega) af (by clear z2 z1 af hp c1 hsz ab;omega)
 rw[ci (by simpa using c1)];have ei:sa+k+(na-k)-1=sb-1:=by clear c1 ae hsz ab ac;omega
 rw[ei];refine bv (zx (h.at (i:=sb-1) (by clear ei c1 hk ae ab;omega)) ?_);refine bv (gal O (key:=G (bz st) (sb-1)) (hint:=nb-1) h.kd (h.dd (by clear ei c1 hk ae ab;omega)) (fun j h1 h2=>⟨_,h.at (by clear h1 ei c1 hk ae ab ac aa;omega),h.dd (by clear h1 ei c1 hk ae ab ac aa;omega)⟩) (fun i j x y h1 h2 h3 ex ey=>by
  rw[h.at (by clear h1 ei c1 hk ae ab ac aa;omega)]at ex ey;cases ex;cases ey;exact sB i j h1 h2 h3) (by clear ei c1 hk ae hsz ac aa;omega) fun m hm f1 f2=>?_)
 dsimp only;have av:∀j,sb<=j->j<sb+m->lt (G (bz st) j) (G (bz st) (sb-1))=true:=fun j h1 h2=>by
  have:=f1 j _ h1 h2 (h.at (by clear h1 ei c1 hk ae ab ac aa;omega));simpa[bey]using this
 have aq:∀j,sb+m<=j->j<sb+nb->lt (G (bz st) j) (G (bz st) (sb-1))=false:=fun j h1 h2=>by
  have:=f2 j _ h1 h2 (h.at (by clear h1 hm ei c1 hk ae ab ac aa;omega));simpa[bey]using this
 by_cases c2:m=0
 ·rw[ck (by simpa using c2)];refine bx (q _ ⟨h.kd,h.fl,h.pm,h.d⟩ rfl (fun j _=>rfl) fun p r hp af hr=>?_);show lt (G (bz st) r) (G (bz st) p)=false
  clear hm hk ab c1 ei ae
  by_cases z1:r<sa+na
  ·exact sA p r hp af z1
  ·by_cases z2:p<sa+na
   ·exact O.tr _ _ _ (h.dd (by clear z2 z1 hp c2 ac;omega)) (h.dd (i:=sb-1) (by clear z2 z1 hr af hp c2;omega)) (h.dd (by clear z2 z1 af hp c2 ac;omega)) (sA p (sb-1) hp (by clear z1 hr af hp c2 hsz ac;omega) (by clear z2 z1 hr af hp c2 hsz;omega)) (aq r (by clear z2 hr af hp hsz ac;omega) (by clear z2 z1 af hp c2 hsz ac;omega))
   ·exact sB p r (by clear z1 hr af hp c2 hsz ac;omega) af (by clear z2 z1 af hp c2 hsz ac;omega)
 rw[ci (by simpa using c2)];have xD:∀x∈((bz st).extract (sa+k) sb).toList,D x:=fun x mx=>by
  obtain⟨r,r1,r2,rfl⟩:=kW (by clear c2 hm ei c1 hk ab ac aa;omega) mx;exact h.dd (by clear r1 c2 hm ei c1 hk ae ab ac aa;omega)
 have yD:∀x∈((bz st).extract sb (sb+m)).toList,D x:=fun x mx=>by
  obtain⟨r,r1,r2,rfl⟩:=kW (by clear c2 ei c1 hk ab ac aa;omega) mx;exact h.dd (by clear r1 c2 ei c1 hk ae ab ac aa;omega)
 have xS:=AW (lt:=lt) (xs:=bz st) (lo:=sa+k) (hi:=sb) (by clear c2 hm ei c1 hk ab ac aa;omega) fun p r h1 h2 h3=>sA p r (by clear h3 h2 c2 hm ei c1 hk ae hsz ab ac aa;omega) h2 (by clear h2 h1 c2 hm ei c1 hk ae hsz ab ac;omega);have yS:=AW (lt:=lt) (xs:=bz st) (lo:=sb) (hi:=sb+m) (by clear c2 ei c1 hk ab ac aa;omega) fun p r h1 h2 h3=>sB p r (by clear h3 h2 c2 hm ei c1 hk ae hsz ab ac aa;omega) h2 (by clear h2 h1 c2 ei c1 hk ae hsz ab ac aa;omega);have xz:((bz st).extract (sa+k) sb).size=sb-(sa+k):=by simp;(clear c2 hm ei c1 hk ab ac aa;omega)
 have yz:((bz st).extract sb (sb+m)).size=m:=by simp;(clear xz c2 ei c1 hk ab ac aa;omega)
 have y0:∀y,((bz st).extract sb (sb+m))[0]?=some y->∀x∈((bz st).extract (sa+k) sb).toList,lt x y=false:=fun y ey x mx=>by
  clear hk yz xz c1 ac ei
  rw[vA (by clear c2 ab aa;omega) (by clear hm ae hsz ab aa;omega)]at ey;cases ey;obtain⟨r,r1,r2,rfl⟩:=kW (by clear c2 hm ab aa;omega) mx;exact O.asym _ _ (h.dd (by clear r2 r1 c2 hm ae aa;omega)) (h.dd (by clear r1 c2 hm ae ab aa;omega)) (au r r1 (by clear r1 c2 hm ae hsz ab;omega))
 have xl:∀x,((bz st).extract (sa+k) sb)[((bz st).extract (sa+k) sb).size-1]?=some x->∀y∈((bz st).extract sb (sb+m)).toList,lt x y=false:=fun x ex y my=>by
  clear hk yz c2 ab ei
  rw[xz,vA (by clear xz hm c1 ac aa;omega) (by clear xz hm ae hsz ac;omega)]at ex;cases ex;obtain⟨r,r1,r2,rfl⟩:=kW (by clear xz c1 ac aa;omega) my;rw[show sa+k+(sb-(sa+k)-1)=sb-1 by clear r2 r1 xz hm ae hsz ac;omega];exact O.asym _ _ (h.dd (by clear r1 xz c1 ae ac aa;omega)) (h.dd (by clear r2 r1 xz hm c1 ae;omega)) (av r r1 r2)
 have fin:∀(out:Array cq) (st':gu) (aj:gu),MDone lt (((bz st).extract (sa+k) sb).toList++((bz st).extract sb (sb+m)).toList) out.toList->sameSt aj st'->bz aj=bz st->kindOf aj=kindOf st->qv aj=qv st->cr aj=((cr st).setIfInBounds i (sa,na+nb,pw)).eraseIdxIfInBounds (i+1) ->
   ∀ah:gu,kindOf ah=kindOf st'->qv ah=qv st'->cr ah=cr st'->bz ah=pf (fun a x=>a.setIfInBounds (sa+k+x.snd) x.fst) (bz st') out.toList.zipIdx->Q true ah/\qv ah=none:=fun out st' aj hd am aw az ay a1 ah ek ef ep ea=>by
  obtain⟨s1,s2,s3,s4⟩:=am;have ag:out.toList.length=sb-(sa+k)+m:=by
   have:=hd.1.length_eq;rw[fv]at this;simp only[li]at this ⊢
   (clear c2 hm ei c1 hk ae hsz ab ac aa;omega)
  rw[s2,aw]at ea;have hw:=Au (sa+k) out.toList 0 (bz st) (by clear yz xz c2 ei c1 ab ac;omega);have ht:(bz ah).toList=(bz st).toList.take (sa+k)++out.toList++(bz st).toList.drop (sb+m):=by
   rw[ea];rw[qw]at hw;rw[hw];congr 2
   (clear yz xz c2 hm ei c1 ae hsz ab ac;omega)
  have a0:(bz ah).Perm (bz st):=by
   rw[Array.perm_iff_toList_perm,ht];have e0:(bz st).toList=(bz st).toList.take (sa+k)++(((bz st).extract (sa+k) sb).toList++((bz st).extract sb (sb+m)).toList)++(bz st).toList.drop (sb+m):=by
    rw[nj,nj,jv,jv,fy,fy,show sb+m-sb=m by clear ag yz xz c2 hm ei c1 hk ae hsz ab ac aa;omega];have q1:(bz st).toList.drop (sb+m)=((bz st).toList.drop sb).drop m:=by rw[List.drop_drop]
    rw[q1,jo];have q2:(bz st).toList.drop sb=((bz st).toList.drop (sa+k)).drop (sb-(sa+k)):=by rw[List.drop_drop];congr 1;(clear ag yz xz c2 hm ei c1 ae hsz ab ac;omega)
    rw[q2,jo,jo]
   conv=>rhs;rw[e0]
   exact(hd.1.append_left _).append_right _
  have ap:Ts kd D a₀ ah:=⟨ek.trans (s1.trans (az.trans h.kd)),ef.trans (s4.trans (ay.trans h.fl)),a0.trans h.pm,h.d⟩;have tl:((bz st).toList.take (sa+k)).length=sa+k:=by rw[ju,li];(clear ag yz xz c2 hm ei c1 ab ac;omega)
  have ai:∀j,j<sa+k\/sb+m<=j->G (bz ah) j=G (bz st) j:=fun j hj=>by
   unfold G;congr 1;rw[<- rh,<- rh,ht]
   clear hm yz c2 xz ab c1 ac hsz ei ae
   rcases hj with hj|hj
   ·rw[fy,gk (by clear ag hk aa;omega),getElem?_take,ck hj]
   ·rw[List.getElem?_append_right (by rw[fv,tl,ag];(clear tl ag;omega)),fv,tl,ag,qc];congr 1
    (clear tl ag;omega)
  have an:∀j,sa+k<=j->j<sb+m->∃z,out.toList[j-(sa+k)]?=some z/\G (bz ah) j=z/\∃r,sa+k<=r/\r<sb+m/\G (bz st) r=z:=fun j h1 h2=>by
   have hj:j-(sa+k)<out.toList.length:=by clear h1 tl yz xz c2 hm ei hk ae hsz ab ac;omega
   have ez:=ca hj
   clear yz ag h2 c2 xz ab c1 ac ei
   refine⟨_,ez,Dv ?_,?_⟩
   ·rw[ht,fy,List.getElem?_append_right (by clear hm hk ae hsz aa;omega),tl,gk hj];exact ez
   ·have mz:=hd.1.mem_iff.mp (bt ez);rcases mem_append.mp mz with mz|mz
    ·obtain⟨r,r1,r2,r3⟩:=kW (by clear h1 tl hm hk aa;omega) mz;exact⟨r,r1,by clear r1 h1 tl hm hk ae hsz aa;omega,r3⟩
    ·obtain⟨r,r1,r2,r3⟩:=kW (by clear h1 tl hk aa;omega) mz;exact⟨r,by clear r2 h1 tl hm ae hsz;omega,r2,r3⟩
  refine⟨q ah ap (ep.trans (s3.trans a1)) (fun j hj=>ai j (by clear tl ag yz xz c2 ei c1 hk ae hsz ab ac;omega)) fun p r hp af hr=>?_,ap.fl⟩;have up:∀p q',sa<=p->p<sa+k->sb<=q'->q'<sb+nb->lt (G (bz st) q') (G (bz st) p)=false:=fun p q' p1 p2 q1 q2=>O.tr _ _ _ (h.dd (by clear q2 q1 p1 hr af hp tl ag yz xz c2 hm ei c1 ae ab ac;omega)) (h.dd (i:=sb) (by clear q2 q1 p2 p1 hr af hp tl ag yz xz c2 hm ei c1 hk ae ac aa;omega)) (h.dd (by clear q1 p2 p1 hr af hp tl ag yz xz c2 hm ei c1 hk ae ab ac aa;omega)) (ao p p1 p2) (sB sb q' (cu _) q1 q2);have dn:∀p q',sa<=p->p<sb->sb+m<=q'->q'<sb+nb->lt (G (bz st) q') (G (bz st) p)=false:=fun p q' p1 p2 q1 q2=>O.tr _ _ _ (h.dd (by clear q2 q1 p1 hr af hp tl ag yz xz c2 hm ei c1 hk ae ab ac aa;omega)) (h.dd (i:=sb-1) (by clear q2 q1 p2 p1 hr af hp tl ag yz xz c2 hm ei c1 hk ae ab;omega)) (h.dd (by clear q1 p2 p1 hr af hp tl ag yz xz c2 hm ei c1 hk ae ab ac aa;omega)) (sA p (sb-1) p1 (by clear q2 q1 p1 hr af hp tl ag yz xz c2 hm ei c1 hk ae hsz ab ac aa;omega) (by clear q2 q1 p2 p1 hr af hp tl ag yz xz c2 hm ei c1 hk ae hsz ab;omega)) (aq q' q1 q2)
  clear yz ag c2 xz ab c1 ac hsz ei tl ae
  by_cases p1:p<sa+k
  ·rw[ai p (.inl p1)];by_cases r1:r<sa+k
   ·rw[ai r (.inl r1)];exact sA p r hp af (by clear p1 hr af hp hm aa;omega)
   clear af hk
   by_cases r2:sb+m<=r
   ·rw[ai r (.inr r2)];exact up p r hp p1 (by clear r1 p1 hr hp hm aa;omega) (by clear r2 r1 p1 hp hm;omega)
   ·obtain⟨z,_,ez,t,t1,t2,t3⟩:=an r (by clear r2 p1 hr hp hm aa;omega) (by clear r1 p1 hr hp hm aa;omega);rw[ez,<- t3];by_cases tb:t<sb
    ·exact sA p t hp (by clear tb t2 r2 r1 hr hp hm aa;omega) (by clear t2 t1 r2 r1 p1 hr hp hm;omega)
    ·exact up p t hp p1 (by clear t2 t1 r2 r1 p1 hr hp hm aa;omega) (by clear tb t1 r2 r1 p1 hr hp aa;omega)
  clear hp hm hk
  by_cases p2:sb+m<=p
  ·rw[ai p (.inr p2),ai r (.inr (by clear p1 hr aa;omega))];exact sB p r (by clear p1 hr af aa;omega) af (by clear p2 p1 af;omega)
  obtain⟨z,oz,ez,t,t1,t2,t3⟩:=an p (by clear p2 hr af aa;omega) (by clear p1 hr af aa;omega);by_cases r2:sb+m<=r
  ·rw[ai r (.inr r2),ez,<- t3]
   clear af p1 p2
   by_cases tb:t<sb
   ·exact dn t r (by clear tb r2 t2 hr aa;omega) tb r2 (by clear tb r2 t2 t1;omega)
   ·exact sB t r (by clear r2 t2 t1 hr aa;omega) (by clear tb t1 hr aa;omega) (by clear tb r2 t2 t1;omega)
  ·obtain⟨z',ax,ar,_⟩:=an r (by clear r2 t2 t1 p2 hr aa;omega) (by clear t2 t1 p2 p1 hr af aa;omega);rw[ez,ar];exact b9 O hd.2 (fun x mx=>by
    rcases mem_append.mp (hd.1.mem_iff.mp mx)with mx|mx
    ·exact xD x mx
    ·exact yD x mx) (show p-(sa+k)<=r-(sa+k) by clear r2 t2 t1 p2 p1 hr aa;omega) oz ax
 clear hm hk ab ac hsz ei ae
 have ak:1<=((bz st).extract (sa+k) sb).size:=by rw[xz];(clear yz xz c2;omega)
 have al:1<=((bz st).extract sb (sb+m)).size:=by rw[yz];(clear ak yz xz c1 aa;omega)
 have ak:1<=((bz st).extract (sa+k) sb).size:=by rw[xz];(clear al ak yz xz c2;omega)
 have al:1<=((bz st).extract sb (sb+m)).size:=by rw[yz];(clear ak al yz xz c1 aa;omega)
 by_cases c3:na-k<=m
 ·rw[ck c3];refine bv (GK O h.kd xD yD xS yS ak al y0 xl fun out st' hd am=>?_);refine bv (lh (bv (rg ?_)));obtain⟨z1,z2⟩:=fin out st' _ hd am rfl rfl rfl rfl (nr st' (pf (fun a x=>a.setIfInBounds (sa+k+x.snd) x.fst) (bz st') out.toList.zipIdx)) rfl rfl rfl rfl;refine bx ?_;show Q (qv (nr st' (pf (fun a x=>a.setIfInBounds (sa+k+x.snd) x.fst) (bz st') out.toList.zipIdx))).isNone (nr st' (pf (fun a x=>a.setIfInBounds (sa+k+x.snd) x.fst) (bz st') out.toList.zipIdx));rw[z2];exact z1
 ·rw[ci c3];refine bv (GV O h.kd xD yD xS yS ak al y0 xl fun out st' hd am=>?_);refine bv (lh (bv (rg ?_)));obtain⟨z1,z2⟩:=fin out st' _ hd am rfl rfl rfl rfl (nr st' (pf (fun a x=>a.setIfInBounds (sa+k+x.snd) x.fst) (bz st') out.toList.zipIdx)) rfl rfl rfl rfl;refine bx ?_;show Q (qv (nr st' (pf (fun a x=>a.setIfInBounds (sa+k+x.snd) x.fst) (bz st') out.toList.zipIdx))).isNone (nr st' (pf (fun a x=>a.setIfInBounds (sa+k+x.snd) x.fst) (bz st') out.toList.zipIdx));rw[z2];exact z1
def Stk(lt:cq->cq->Bool)(xs:Array cq):Nat->List (Nat×Nat×Nat)->Nat->Prop
 |s,[],e=>s=e
 |s,r::p,e=>r.1=s/\1<=r.2.1/\Sg lt xs s (s+r.2.1)/\Stk lt xs (s+r.2.1) p e
theorem Stk.le{xs:Array cq}:∀{p:List (Nat×Nat×Nat)}{s e:Nat},Stk lt xs s p e->s+p.length<=e
 | [],s,e,h=>by have:s=e:=h;simp;omega
 |r::p,s,e,h=>by
  obtain⟨h1,h2,h3,h4⟩:=h;have:=Stk.le h4;rw[ff]
  (clear h1;omega)
theorem Stk.mono{xs ys:Array cq}:∀{p:List (Nat×Nat×Nat)}{s e:Nat},Stk lt xs s p e->(∀i,s<=i->i<e->G ys i=G xs i)->Stk lt ys s p e
 | [],s,e,h,_=>h
 |r::p,s,e,h,k=>by
  obtain⟨h1,h2,h3,h4⟩:=h;have:=Stk.le h4;refine⟨h1,h2,fun i j hi q hj=>?_,Stk.mono h4 fun i hi hj=>k i yw hj⟩;rw[k i yw yw,k j yw yw];exact h3 i j hi q hj
theorem Stk.push{xs:Array cq}{n w':Nat}:∀{p:List (Nat×Nat×Nat)}{s e:Nat},Stk lt xs s p e->1<=n->Sg lt xs e (e+n)->Stk lt xs s (p++[(e,n,w')]) (e+n)
 | [],s,e,h,h1,h2=>by
  have:s=e:=h;subst this;exact⟨rfl,h1,h2,rfl⟩
 |r::p,s,e,h,k1,k2=>by
  obtain⟨h1,h2,h3,h4⟩:=h;exact⟨h1,h2,h3,Stk.push h4 k1 k2⟩
theorem Stk.modLast{xs:Array cq}{pw:Nat}:∀{p:List (Nat×Nat×Nat)}{s e:Nat},Stk lt xs s p e->∀k,Stk lt xs s (p.modify k fun x=>(x.1,x.2.1,pw)) e
 | [],s,e,h,k=>by simpa using h
 |r::p,s,e,h,0=>by
  obtain⟨h1,h2,h3,h4⟩:=h;exact⟨h1,h2,h3,h4⟩
 |r::p,s,e,h,k+1=>by
  obtain⟨h1,h2,h3,h4⟩:=h;exact⟨h1,h2,h3,Stk.modLast h4 k⟩
theorem Stk.at{xs:Array cq}{sa na pw sb nb ac:Nat}:∀{p:List (Nat×Nat×Nat)}{s e i:Nat},Stk lt xs s p e->p[i]?=some (sa,na,pw)->p[i+1]?=some (sb,nb,ac) ->
  s<=sa/\sb=sa+na/\1<=na/\1<=nb/\sb+nb<=e/\Sg lt xs sa (sa+na)/\Sg lt xs sb (sb+nb)/\∀ys:Array cq,(∀j,j<sa\/sa+na+nb<=j->G ys j=G xs j)->Sg lt ys sa (sa+na+nb)->Stk lt ys s ((p.set i (sa,na+nb,pw)).eraseIdx (i+1)) e
 | [],s,e,i,_,h1,_=>by simp at h1
 |r::p,s,e,0,h,e1,e2=>by
  have er:r=(sa,na,pw):=by simpa using e1
  subst er;cases p with
  |nil=>simp at e2
  |cons r2 p=>
   have ag:r2=(sb,nb,ac):=by simpa using e2
   subst ag;obtain⟨h1,h2,h3,h5,h6,h7,h8⟩:=h;have ah:sa=s:=h1;have ae:sb=s+na:=h5;subst ah;have q:=Stk.le h8;have aa:1<=nb:=h6;have y:1<=na:=h2;subst ae;have af:Stk lt xs (sa+na+nb) p e:=h8;refine⟨cu _,rfl,y,aa,by have:sa+na+nb+p.length<=e:=q;(clear q h5 h6 y aa h1 h2;omega),h3,h7,fun ys k1 k2=>?_⟩;refine⟨rfl,by show 1<=na+nb;(clear q h5 h6 y h1 h2;omega),?_,?_⟩
   ·show Sg lt ys sa (sa+(na+nb));rw[<- Nat.add_assoc];exact k2
   ·show Stk lt ys (sa+(na+nb)) p e;rw[<- Nat.add_assoc];exact Stk.mono af fun i hi hj=>k1 i (.inr hi)
 |r::p,s,e,i+1,h,e1,e2=>by
  obtain⟨h1,h2,h3,h4⟩:=h;obtain⟨q1,q2,q3,q4,q5,q6,q7,q8⟩:=Stk.at h4 (by simpa using e1) (by simpa using e2);refine⟨by clear q5 q4 q3 q2 h2 h1;omega,q2,q3,q4,q5,q6,q7,fun ys k1 k2=>?_⟩;refine⟨h1,h2,fun i j hi ab hj=>?_,q8 ys k1 k2⟩;rw[k1 i (.inl (by clear hi q5 q4 q3 q2 h2 h1;omega)),k1 j (.inl (by clear ab hi q5 q4 q3 q2 h2 h1;omega))];exact h3 i j hi ab hj
theorem wD(O:LtOk prog w A E s kd D lt){a₀:Array cq}{i lo:Nat}{st:gu}{Q:Bool->gu->Prop}(h:Ts kd D a₀ st)(hs:Stk lt (bz st) 0 (cr st).toList lo)(aa:lo<=a₀.size)(hi:i+1<(cr st).size)
  (q:∀st',Ts kd D a₀ st'->Stk lt (bz st') 0 (cr st').toList lo->(cr st').size+1=(cr st).size->(∀j,lo<=j->G (bz st') j=G (bz st) j)->Q true st'):wpS (model prog w) A E s (mergeAt' i) Q st:=by
 obtain⟨⟨sa,na,pw⟩,g1⟩:∃r,(cr st)[i]?=some r:=⟨_,Array.getElem?_eq_getElem yw⟩;obtain⟨⟨sb,nb,ab⟩,g2⟩:∃r,(cr st)[i+1]?=some r:=⟨_,Array.getElem?_eq_getElem yw⟩;obtain⟨q1,q2,q3,q4,q5,q6,q7,q8⟩:=Stk.at hs (i:=i) (by rw[<- rh]at g1;exact g1) (by rw[<- rh]at g2;exact g2);refine KZ O h g1 g2 q2 q3 q4 yw q6 q7 fun st' hT hp hg hS=>?_;have y:(cr st').toList=((cr st).toList.set i (sa,na+nb,pw)).eraseIdx (i+1):=by
  rw[hp,Array.eraseIdxIfInBounds,dif_pos (by rw[Array.size_setIfInBounds];exact hi),Array.toList_eraseIdx,Array.toList_setIfInBounds]
 refine q st' hT ?_ ?_ fun j hj=>hg j (.inr yw)
 ·rw[y];exact q8 _ hg hS
 ·have:=congrArg rp y;rw[List.length_eraseIdx_of_lt (by simp;omega),length_set,li,li]at this;omega
theorem JP(O:LtOk prog w A E s kd D lt){a₀:Array cq}{st:gu}{Q:Unit->gu->Prop}(h:Ts kd D a₀ st)(aq:cr st = #[])(h2:2<=a₀.size)
  (q:∀st',Ts kd D a₀ st'->Sg lt (bz st') 0 a₀.size->Q () st'):wpS (model prog w) A E s sortRuns' Q st:=by
 rw[sortRuns'_eq];refine bv (rg ?_);dsimp only;rw[h.size];generalize minRun' a₀.size a₀.size 0=mr;refine bv (kh (ig (a:=0)
  (I:=fun k c st'=>∃lo,c=(none,lo)/\k<=lo/\lo<=a₀.size/\Ts kd D a₀ st'/\Stk lt (bz st') 0 (cr st').toList lo)
  (Q:=fun c st'=>∃lo,c=(none,lo)/\lo=a₀.size/\Ts kd D a₀ st'/\Stk lt (bz st') 0 (cr st').toList lo) ?step ?fin ⟨0,rfl,cu _,nq _,h,by rw[aq];rfl⟩) ?post)
 case fin=>
  rintro c st' ⟨lo,rfl,k1,k2,hT,hS⟩;exact⟨lo,rfl,yw,hT,hS⟩
 case post=>
  rintro c st' ⟨lo,rfl,rfl,hT,hS⟩;dsimp only;have hz:=Stk.le hS;rw[li]at hz;refine bv (kh (ig (a:=0)
   (I:=fun k c aa=>c=(none,())/\Ts kd D a₀ aa/\Stk lt (bz aa) 0 (cr aa).toList a₀.size/\(cr aa).size+k<=a₀.size+0\/c=(none,())/\Ts kd D a₀ aa/\Stk lt (bz aa) 0 (cr aa).toList a₀.size/\(cr aa).size<=1)
   (Q:=fun c aa=>c=(none,())/\Ts kd D a₀ aa/\Stk lt (bz aa) 0 (cr aa).toList a₀.size/\(cr aa).size<=1) ?stepF ?finF (.inl ⟨rfl,hT,hS,yw⟩)) ?postF)
  case finF=>
   rintro c aa (⟨rfl,h3,h4,h5⟩|hh)
   ·exact⟨rfl,h3,h4,yw⟩
   ·exact hh
  case stepF=>
   rintro k c aa _ hk hh;have ap:c=(none,())/\Ts kd D a₀ aa/\Stk lt (bz aa) 0 (cr aa).toList a₀.size/\((cr aa).size+k<=a₀.size\/(cr aa).size<=1):=by
    rcases hh with ⟨a1,a2,a3,a4⟩|⟨a1,a2,a3,a4⟩
    ·exact⟨a1,a2,a3,.inl yw⟩
    ·exact⟨a1,a2,a3,.inr a4⟩
   obtain⟨rfl,h3,h4,h5⟩:=ap;refine bv (rg ?_)
   try dsimp only
   by_cases d1:(cr aa).size<=1
   ·rw[ck d1];exact bx ⟨rfl,h3,h4,d1⟩
   rw[ci d1];generalize hgen:(if (if (cr aa).size-2>0 then Option.map (fun x=>x.snd.fst) (cr aa)[(cr aa).size-2-1]? else none).any (fun x=>decide (x<(cr aa)[(cr aa).size-2+1]?.elim 0 fun x=>x.snd.fst))=true then (cr aa).size-2-1 else (cr aa).size-2)=ii;have ar:ii+1<(cr aa).size:=by
    have hx:∀(P:Prop) (_:Decidable P),(if P then (cr aa).size-2-1 else (cr aa).size-2)+1<(cr aa).size:=fun P _=>by
     by_cases z:P
     ·rw[ck z];omega
     ·rw[ci z];omega
    rw[<- hgen];exact hx _ _
   refine bv (wD O h3 h4 (cu _) ar fun am h6 s6 z6 g6=>?_);simp only[Bool.not_true,fg,if_false];exact bx (.inl ⟨rfl,h6,s6,yw⟩)
  case postF=>
   rintro c aa ⟨rfl,h3,h4,h5⟩;dsimp only;refine bx (q aa h3 ?_);cases hl:(cr aa).toList with
   |nil=>
    rw[hl]at h4;have:0=a₀.size:=h4;omega
   |cons r rest=>
    have hr:rest=[]:=by
     have:=congrArg rp hl;rw[li,ff]at this;exact ie yw
    rw[hl,hr]at h4;obtain⟨e1,e2,e3,e4⟩:=h4;have ao:0+r.2.1=a₀.size:=e4;rw[<- ao];exact e3
 case step=>
  rintro k c st' _ hk ⟨lo,rfl,k1,k2,hT,hS⟩;dsimp only;by_cases c1:lo≥a₀.size
  ·rw[ck c1];exact bx ⟨lo,rfl,yw,hT,hS⟩
  rw[ci c1];refine bv (Ef O (hT.tb lo) yw yw fun m aa an m1 m2 al=>?_);dsimp only;by_cases c2:m<mr
  ·rw[ck c2];refine bv (wpS_lift (on ⟨rfl,?_⟩));refine bv (KO O an (n:=min (a₀.size-lo) mr) yw m1 yw al fun ac ae ah=>?_);simp only[Bool.not_true,fg,if_false];have n1:1<=min (a₀.size-lo) mr:=yw
   have n2:lo+min (a₀.size-lo) mr<=a₀.size:=yw
   generalize min (a₀.size-lo) mr=n at n1 n2 ah;have ag:Ts kd D a₀ ac:=⟨ae.kd,ae.fl,ae.pm,ae.d⟩;have aj:Stk lt (bz ac) 0 (cr ac).toList lo:=by
    rw[ae.pe];exact Stk.mono hS fun i _ hi=>ae.lo i hi
   refine bv (rg ?_);have fin:∀y:gu,Ts kd D a₀ y->Stk lt (bz y) 0 (cr y).toList lo->(∀j,lo<=j->G (bz y) j=G (bz ac) j)->Stk lt (bz y) 0 ((cr y).push (lo,n,0)).toList (lo+n):=fun y hM af ab=>by
    rw[Array.toList_push];refine Stk.push af n1 fun i j hi ak hj=>?_;rw[ab i hi,ab j yw];exact ah i j hi ak hj
   cases hbk:(cr ac).back? with
   |none=>
    try dsimp only
    exact bv (lh (bx ⟨lo+n,rfl,yw,yw,⟨ag.kd,ag.fl,ag.pm,ag.d⟩,fin ac ag aj fun _ _=>rfl⟩))
   |some r=>
    obtain⟨s1,ai,w1⟩:=r
    try dsimp only
    generalize power' a₀.size (2*s1+ai) (2*s1+ai+ai+n) a₀.size=pw;refine bv (kh (ig (a:=0)
     (I:=fun _ c y=>c=(none,())/\Ts kd D a₀ y/\Stk lt (bz y) 0 (cr y).toList lo/\∀j,lo<=j->G (bz y) j=G (bz ac) j)
     (Q:=fun c y=>c=(none,())/\Ts kd D a₀ y/\Stk lt (bz y) 0 (cr y).toList lo/\∀j,lo<=j->G (bz y) j=G (bz ac) j) ?stepM (fun _ _ hh=>hh) ⟨rfl,ag,aj,fun _ _=>rfl⟩) ?postM)
    case stepM=>
     rintro kk c y _ _ ⟨rfl,hM,af,ab⟩;refine bv (rg ?_)
     try dsimp only
     by_cases d1:(cr y).size>1
     ·rw[ck d1];obtain⟨⟨oa,ob,oc⟩,og⟩:∃r,(cr y)[(cr y).size-2]?=some r:=⟨_,Array.getElem?_eq_getElem yw⟩;rw[og];dsimp only;by_cases d2:oc<=pw
      ·rw[ck d2];exact bx ⟨rfl,hM,af,ab⟩
      ·rw[ci d2];refine bv (wD O hM af k2 yw fun am h5 s5 z5 g5=>?_);simp only[Bool.not_true,fg,if_false];exact bx ⟨rfl,h5,s5,fun j hj=>(g5 j hj).trans (ab j hj)⟩
     ·rw[ci d1];exact bx ⟨rfl,hM,af,ab⟩
    case postM=>
     rintro c y ⟨rfl,hM,af,ab⟩;dsimp only;refine bv (lh (bv (lh (bx ⟨lo+n,rfl,yw,yw,⟨hM.kd,hM.fl,hM.pm,hM.d⟩,?_⟩))));refine fin (setPending y ((cr y).modify ((cr y).size-1) fun x=>(x.1,x.2.1,pw))) ⟨hM.kd,hM.fl,hM.pm,hM.d⟩ ?_ ab;show Stk lt (bz y) 0 ((cr y).modify ((cr y).size-1) fun x=>(x.1,x.2.1,pw)).toList lo;rw[Array.toList_modify];exact Stk.modLast af _
  ·rw[ci c2];have n1:1<=m:=m1;have n2:lo+m<=a₀.size:=yw
   have ah:=al;have ae:=an;generalize m=n at n1 n2 ah
   revert ae ah
   generalize aa=ac;intro ae ah;have ag:Ts kd D a₀ ac:=⟨ae.kd,ae.fl,ae.pm,ae.d⟩;have aj:Stk lt (bz ac) 0 (cr ac).toList lo:=by
    rw[ae.pe];exact Stk.mono hS fun i _ hi=>ae.lo i hi
   refine bv (rg ?_);have fin:∀y:gu,Ts kd D a₀ y->Stk lt (bz y) 0 (cr y).toList lo->(∀j,lo<=j->G (bz y) j=G (bz ac) j)->Stk lt (bz y) 0 ((cr y).push (lo,n,0)).toList (lo+n):=fun y hM af ab=>by
    rw[Array.toList_push];refine Stk.push af n1 fun i j hi ak hj=>?_;rw[ab i hi,ab j yw];exact ah i j hi ak hj
   cases hbk:(cr ac).back? with
   |none=>
    try dsimp only
    exact bv (lh (bx ⟨lo+n,rfl,yw,yw,⟨ag.kd,ag.fl,ag.pm,ag.d⟩,fin ac ag aj fun _ _=>rfl⟩))
   |some r=>
    obtain⟨s1,ai,w1⟩:=r
    try dsimp only
    generalize power' a₀.size (2*s1+ai) (2*s1+ai+ai+n) a₀.size=pw;refine bv (kh (ig (a:=0)
     (I:=fun _ c y=>c=(none,())/\Ts kd D a₀ y/\Stk lt (bz y) 0 (cr y).toList lo/\∀j,lo<=j->G (bz y) j=G (bz ac) j)
     (Q:=fun c y=>c=(none,())/\Ts kd D a₀ y/\Stk lt (bz y) 0 (cr y).toList lo/\∀j,lo<=j->G (bz y) j=G (bz ac) j) ?stepM (fun _ _ hh=>hh) ⟨rfl,ag,aj,fun _ _=>rfl⟩) ?postM)
    case stepM=>
     rintro kk c y _ _ ⟨rfl,hM,af,ab⟩;refine bv (rg ?_)
     try dsimp only
     by_cases d1:(cr y).size>1
     ·rw[ck d1];obtain⟨⟨oa,ob,oc⟩,og⟩:∃r,(cr y)[(cr y).size-2]?=some r:=⟨_,Array.getElem?_eq_getElem yw⟩;rw[og];dsimp only;by_cases d2:oc<=pw
      ·rw[ck d2];exact bx ⟨rfl,hM,af,ab⟩
      ·rw[ci d2];refine bv (wD O hM af k2 yw fun am h5 s5 z5 g5=>?_);simp only[Bool.not_true,fg,if_false];exact bx ⟨rfl,h5,s5,fun j hj=>(g5 j hj).trans (ab j hj)⟩
     ·rw[ci d1];exact bx ⟨rfl,hM,af,ab⟩
    case postM=>
     rintro c y ⟨rfl,hM,af,ab⟩;refine bv (lh (bv (lh (bx ⟨lo+n,rfl,yw,yw,⟨hM.kd,hM.fl,hM.pm,hM.d⟩,?_⟩))));refine fin (setPending y ((cr y).modify ((cr y).size-1) fun x=>(x.1,x.2.1,pw))) ⟨hM.kd,hM.fl,hM.pm,hM.d⟩ ?_ ab;show Stk lt (bz y) 0 ((cr y).modify ((cr y).size-1) fun x=>(x.1,x.2.1,pw)).toList lo;rw[Array.toList_modify];exact Stk.modLast af _
end
end L2
namespace L2
open PySem PySem.Spec PySem.Calls PyProof.Rows PySem.W
theorem vB:∀{a b c:List Int},HT.lexLt a b=true->HT.lexLt b c=true->HT.lexLt a c=true
 | [],[],_,h,_=>by cases h
 | [],_::_,[],_,h=>by cases h
 | [],_::_,_::_,_,_=>rfl
 |_::_,[],_,h,_=>by cases h
 |_::_,_::_,[],_,h=>by cases h
 |x::xs,y::ys,z::zs,h,k=>by
  rw[HT.lexLt_cons]at h k ⊢;split at h
  ·rename_i e;subst e;split at k
   ·rename_i e;subst e;rw[ck rfl];exact vB h k
   ·rename_i e;rw[ci e];exact k
  ·rename_i e;have h':=jf h;split at k
   ·rename_i e2;subst e2;rw[ci e];exact h
   ·have k':=jf k;rw[ci yw];exact gq yw
theorem DH:∀(a b:List Int),HT.lexLt a b=true\/a=b\/HT.lexLt b a=true
 | [],[]=>.inr (.inl rfl)
 | [],_::_=>.inl rfl
 |_::_,[]=>.inr (.inr rfl)
 |x::xs,y::ys=>by
  rw[HT.lexLt_cons,HT.lexLt_cons];by_cases e:x=y
  ·subst e;rw[ck rfl,ck rfl];rcases DH xs ys with h|h|h
   ·exact .inl h
   ·exact .inr (.inl (by rw[h]))
   ·exact .inr (.inr h)
  ·rw[ci e,ci (kj e)];by_cases hl:x<y
   ·exact .inl (gq hl)
   ·exact .inr (.inr (gq yw))
section
variable {prog:fx}{w:io}{A:iz}{E:bn->bq->Prop}{s:bq}
theorem Gz{α:Type}{r:α->α->Prop}{l:List α}(h:l.length<2):l.Pairwise r:=by
 cases l with
 |nil=>exact .nil
 |cons x l=>
  cases l with
  |nil=>exact List.pairwise_singleton _ _
  |cons y l=>exact absurd h yv
theorem CZ{a:Addr}{vs:List bn}{n:Nat}{kd:pz}{lt:cq->cq->Bool}{P:PySem.Fin->bq->Prop}(ho:s.heap.get? a=some (ir "list" vs.toArray n))(hz:vs.length<=10000000)
  (hkd:∀h3,KeptBut a s.heap h3->∀(Q:pz->bq->Prop),2<=vs.length->Q kd { s with heap:=h3 }->cw (model prog w) A (keyKind' vs.toArray) Q E { s with heap:=h3 })
  (hO:∀h3,KeptBut a s.heap h3->LtOk prog w A E { s with heap:=h3 } kd (fun x=>x.1=x.2/\x.1∈vs) lt)
  (h:∀h' c (out:List bn),KeptBut a s.heap h'->out.Perm vs->out.Pairwise (fun x y=>lt (y,y) (x,x)=false)->h'.get? a=some (ir "list" out.toArray c)->P (.done (.ret .none)) { s with heap:=h' }):
  cw (model prog w) A (rc.«list.sort» ⟨[.ref a],[]⟩) P E s:=by
 have ha:a<s.heap.objs.size:=gh ho;have s1:=kt s.heap a (im fun _=>(#[]:Array bn));obtain⟨e1,ac⟩:∃e1,(s.heap.update a (im fun _=>(#[]:Array bn))).get? a=some (ir "list" #[] e1):=⟨_,rj ho fun _=>#[]⟩;have keep:KeptBut a s.heap (((s.heap.update a (im fun _=>(#[]:Array bn))).push (ir "tuple" vs.toArray 0)).push (ir "list" #[] 0)):=fun b o nb e=>
  bw _ (bw _ ((s1.2 b nb).trans e))
 have q:(((s.heap.update a (im fun _=>(#[]:Array bn))).push (ir "tuple" vs.toArray 0)).push (ir "list" #[] 0)).get? a=some (ir "list" #[] e1):=bw _ (bw _ ac);rw[list_sort_plain];refine bo (listItems_at ho rfl ?_);refine bo (listUpdate_at ho rfl ?_ (by rw[df,jp];omega) (nq _));refine bo (seqEpoch_at ac rfl ?_);refine bo (wpAny_newTuple ?_ (by show vs.length<=_;rw[jp];omega));refine bo (wpAny_newList ?_ (nq _));refine ic ?_;show cw (model prog w) A _ P E { s with heap:=((s.heap.update a (im fun _=>(#[]:Array bn))).push (ir "tuple" vs.toArray 0)).push (ir "list" #[] 0) };generalize ((s.heap.update a (im fun _=>(#[]:Array bn))).push (ir "tuple" vs.toArray 0)).push (ir "list" #[] 0)=h3 at keep q ⊢;dsimp only;by_cases hn2:vs.toArray.size<2
 ·rw[ck hn2,ck hn2];refine bo (cm ?_);rw[StateT.run_pure];refine bo (cm ?_);dsimp only;have eo:(bz (SortSt.mk' general' (vs.toArray.zip vs.toArray) #[] 7 none)).map (·.2)=kr vs:=by
   apply Array.toList_inj.mp;show ((vs.toArray.zip vs.toArray).map (·.2)).toList=vs;rw[Array.toList_map,Array.toList_zip,List.map_snd_zip (cu _)]
  rw[eo];have s2:=kt h3 a (im fun _=>kr vs);obtain⟨c2,ab⟩:∃c2,(h3.update a (im fun _=>kr vs)).get? a=some (ir "list" (kr vs) c2):=⟨_,rj q fun _=>kr vs⟩;refine bo (seqEpoch_at q rfl ?_);refine bo (listUpdate_at q rfl ?_ (nq _) (by show (kr vs).size<=_;rw[df,jp];omega));simp only[bne_self_eq_false,fg,if_false];refine cm (h _ c2 vs (fun b o nb e=>(s2.2 b nb).trans (keep b o nb e)) (List.Perm.refl _) ?_ ab);rw[df]at hn2;exact Gz hn2
 ·rw[ci hn2,ci hn2];rw[df]at hn2;refine bo (hkd h3 keep _ yw ?_);have O:=hO h3 keep;have hT:Ts kd (fun x:cq=>x.1=x.2/\x.1∈vs) (pairsOf vs) (SortSt.mk' kd (vs.toArray.zip vs.toArray) #[] 7 none):=⟨rfl,rfl,Array.Perm.refl _,fun x m=>by
   rw[pairsOf_toList]at m;exact mem_zip_self m⟩
  refine bo (ox (JP O (Q:=fun _ st'=>Ts kd (fun x:cq=>x.1=x.2/\x.1∈vs) (pairsOf vs) st'/\Sg lt (bz st') 0 (pairsOf vs).size) hT rfl (by rw[pairsOf_size];omega) fun st' a1 a2=>⟨a1,a2⟩) ?_ fun _ _ e=>e);rintro⟨⟨⟩,st'⟩ s' ⟨rfl,hT',hS'⟩;dsimp only;have hp:((bz st').toList.map (·.2)).Perm vs:=by
   have h1:=(Array.perm_iff_toList_perm.mp hT'.pm).map (·.2);rw[pairsOf_toList,List.map_snd_zip (cu _)]at h1;exact h1
  have hs:((bz st').toList.map (·.2)).Pairwise (fun x y=>lt (y,y) (x,x)=false):=by
   rw[pi,List.pairwise_iff_getElem];intro i j hi hj af;have ae:i<(pairsOf vs).size:=by rw[<- hT'.size];simpa using hi
   have aa:j<(pairsOf vs).size:=by rw[<- hT'.size];simpa using hj
   have g1:=hT'.at ae;have g2:=hT'.at aa;rw[zY,ca hi]at g1;rw[zY,ca hj]at g2;have d1:=(hT'.dd ae).1;have d2:=(hT'.dd aa).1;rw[gz g1,gz g2];have z1:((G (bz st') i).2,(G (bz st') i).2)=G (bz st') i:=Prod.ext d1.symm rfl;have z2:((G (bz st') j).2,(G (bz st') j).2)=G (bz st') j:=Prod.ext d2.symm rfl;rw[z1,z2];exact hS' i j (nq _) (ko af) aa
  have eo:(bz st').map (·.2)=kr ((bz st').toList.map (·.2)):=by
   apply Array.toList_inj.mp;rw[Array.toList_map]
  rw[eo];generalize (bz st').toList.map (·.2)=out at hp hs;have s2:=kt h3 a (im fun _=>kr out);obtain⟨c2,ab⟩:∃c2,(h3.update a (im fun _=>kr out)).get? a=some (ir "list" (kr out) c2):=⟨_,rj q fun _=>kr out⟩;refine bo (seqEpoch_at q rfl ?_);refine bo (listUpdate_at q rfl ?_ (nq _) (by show (kr out).size<=_;rw[df,hp.length_eq,jp];omega));rw[hT'.fl];simp only[bne_self_eq_false,fg,if_false];exact cm (h _ c2 out (fun b o nb e=>(s2.2 b nb).trans (keep b o nb e)) hp hs ab)
theorem Cb{kd:pz}{x y:cq}{b:Bool}{st:gu}{Q:Option Bool->gu->Prop}(hk:kindOf st=kd)(h:cw (model prog w) A (keyLt' kd x.1 y.1) (fun c s'=>s'=s/\c=b) (fun _ _=>False) s)(q:Q (some b) st):wpS (model prog w) A E s (lt' x y) Q st:=by
 rw[lt'_eq];refine bv (rg ?_);rw[hk];refine bv (wpS_lift (wpAny_attempt (ox h (fun c s' hc=>?_) fun _ _ e=>e.elim)));obtain⟨rfl,rfl⟩:=hc;exact⟨rfl,bx q⟩
theorem FN{vs:List bn}{ns:List Int}(hI:oo vs ns):LtOk prog w A E s oneType' (fun x=>x.1=x.2/\x.1∈vs) (fun x y=>decide (numOf x.1<numOf y.1)) where
 ask:=fun x y st Q hx hy hk q=>by
  obtain⟨n,t,ex⟩:=hI.all _ hx.2;obtain⟨m,u,ey⟩:=hI.all _ hy.2;refine Cb hk ?_ q;rw[keyLt'_oneType,ex,ey];exact oneLt_int ⟨rfl,rfl⟩
 asym:=fun x y _ _ h=>gn (by have:=jf h;omega)
 tr:=fun x y z _ _ _ h1 h2=>gn (by have:=of_decide_eq_false h1;have:=of_decide_eq_false h2;omega)
theorem AG{Q:Bool->bq->Prop}:∀{xs ys:List bn}{ns ms:List Int} (i k:Nat),oo xs ns->oo ys ms->Q (HT.lexLt ns ms) s->KatLex prog w A true (decide (k+xs.length<k+ys.length)) Q (xs.zip ys) i s
 | [],ys,ns,ms,i,k,h1,h2,q=>by
  cases h1;rw[List.zip_nil_left];refine kat_nil ?_;cases h2 with
  |nil=>
   rw[gn yv];exact q
  |cons n t h2=>
   rw[gq yv];exact q
 |x::xs,[],ns,ms,i,k,h1,h2,q=>by
  cases h2;cases h1 with
  |cons n t h1=>
   rw[List.zip_nil_right];refine kat_nil ?_;rw[gn yv];exact q
 |x::xs,y::ys,ns,ms,i,k,h1,h2,q=>by
  cases h1 with
  |cons n t h1=>
   cases h2 with
   |cons m u h2=>
    rw[List.zip_cons_cons];refine kat_cons (wpAny_eqBool_int ?_);rw[HT.lexLt_cons]at q;refine kat_go (fun e=>?_) fun e=>?_
    ·have e1:n=m:=by simpa using e
     rw[ck e1]at q;refine kat_yes ?_;have:=AG (Q:=Q) (i+1) (k+1) h1 h2 q;have ed:decide (k+((qo n t)::xs).length<k+((qo m u)::ys).length)=decide (k+1+xs.length<k+1+ys.length):=by
      rw[decide_eq_decide,ff,ff];omega
     rw[ed];exact this
    ·have e1:n≠m:=by simpa using e
     rw[ci e1]at q;refine kat_no ?_;cases hb:(true&&i==0)with
     |true=>exact oneLt_int q
     |false=>exact kat_one _ _ (lt_int q)
def TupI(h:Heap)(v:bn)(ns:List Int):Prop:=ns≠[]/\∃a o xs n,v=.ref a/\h.get? a=some o/\o.cls=.type "tuple"/\o.data=.seq xs n/\oo xs.toList ns
theorem HB{vs:List bn}(aa:bn->List Int)(hT:∀v∈vs,TupI s.heap v (aa v)):LtOk prog w A E s (tuples' true) (fun x=>x.1=x.2/\x.1∈vs) (fun x y=>HT.lexLt (aa x.1) (aa y.1)) where
 ask:=fun x y st Q hx hy hk q=>by
  obtain⟨_,a,o,xs,n,ex,g1,c1,d1,i1⟩:=hT _ hx.2;obtain⟨_,b,o',ys,m,ey,g2,c2,d2,i2⟩:=hT _ hy.2;refine Cb hk ?_ q;rw[ex,ey];refine kat_lt g1 d1 g2 d2 ?_;have:=AG (prog:=prog) (w:=w) (A:=A) (s:=s) (Q:=fun c s'=>s'=s/\c=HT.lexLt (aa (.ref a)) (aa (.ref b))) 0 0 (by rw[ex]at i1;exact i1) (by rw[ey]at i2;exact i2) ⟨rfl,rfl⟩;simpa using this
 asym:=fun x y _ _ h=>by
  cases e:HT.lexLt (aa y.1) (aa x.1)with
  |false=>rfl
  |true=>
   have:=vB h e;rw[HT.lexLt_self]at this;cases this
 tr:=fun x y z _ _ _ h1 h2=>by
  cases e:HT.lexLt (aa z.1) (aa x.1)with
  |false=>rfl
  |true=>
   rcases DH (aa y.1) (aa x.1)with h|h|h
   ·rw[h]at h1;cases h1
   ·rw[h]at h2;rw[h2]at e;cases e
   ·have:=vB e h;rw[this]at h2;cases h2
theorem Ho{vs:List bn}(q:bn->List Int)(hT:∀v∈vs,TupI s.heap v (q v))(h2:2<=vs.length){Q:pz->bq->Prop}(h:Q (tuples' true) s):cw (model prog w) A (keyKind' vs.toArray) Q E s:=by
 have fs:∀l:List bn,(∀v∈l,TupI s.heap v (q v))->∃fs:List bn,KatTups s.heap l fs/\fs.length=l.length/\∀f∈fs,∃n t,f=qo n t:=by
  intro l;induction l with
  |nil=>intro _;exact⟨[],KatTups.nil,rfl,(fun f m=>by cases m)⟩
  |cons v l ih=>
   intro hl;obtain⟨fs,k,e,fi⟩:=ih fun x m=>hl x (cz _ m);obtain⟨aa,a,o,xs,n,ev,g1,c1,d1,i1⟩:=hl v fu;subst ev;obtain⟨f,t,hf⟩:∃n t,xs[0]?=some (qo n t):=by
    cases hx:xs.toList with
    |nil=>rw[hx]at i1;cases hn:q (.ref a)with
     |nil=>exact absurd hn aa
     |cons x y=>rw[hn]at i1;cases i1
    |cons x r=>
     rw[hx]at i1;obtain⟨n,t,rfl⟩:=i1.all x fu;exact⟨n,t,by rw[<- rh,hx];rfl⟩
   refine⟨.int f t::fs,KatTups.cons g1 c1 d1 hf k,by simp[e],fun z m=>?_⟩;rcases mem_cons.mp m with rfl|m
   ·exact⟨f,t,rfl⟩
   ·exact fi z m
 obtain⟨fs,k,e,fi⟩:=fs vs hT;refine kat_kind (T:=.type "int") k yw (fun v m=>?_) rfl ?_
 ·obtain⟨n,t,rfl⟩:=fi v m;exact .now
 ·rw[show (Value.type "int" != Value.type "tuple")=true by decide];exact h
theorem Gg{vs:List bn}{kd:pz}{lt:cq->cq->Bool}{P:PySem.Fin->bq->Prop}(hz:vs.length<=10000000)
  (hkd:∀(A':iz) (E':bn->bq->Prop) h3,(∀b o,s.heap.get? b=some o->h3.get? b=some o)->∀(Q:pz->bq->Prop),2<=vs.length->Q kd { s with heap:=h3 }->cw (model prog w) A' (keyKind' vs.toArray) Q E' { s with heap:=h3 })
  (hO:∀(A':iz) (E':bn->bq->Prop) h3,(∀b o,s.heap.get? b=some o->h3.get? b=some o)->LtOk prog w A' E' { s with heap:=h3 } kd (fun x=>x.1=x.2/\x.1∈vs) lt)
  (h:∀D h' c (out:List bn),s.heap.objs.size<=D->(∀b o,s.heap.get? b=some o->h'.get? b=some o)->out.Perm vs->out.Pairwise (fun x y=>lt (y,y) (x,x)=false)->h'.get? D=some (ir "list" out.toArray c)->P (.done (.ret (.ref D))) { s with heap:=h' }):
  cw (model prog w) A (newList vs >>= fun l=>holding [l] (call (.builtin "list.sort") [l] []) >>= fun _=>ret l) P E s:=by
 refine bo (wpAny_newList ?_ (by show vs.length<=_;rw[jp];omega));have aa:(s.heap.push (ir "list" vs.toArray 0)).get? s.heap.objs.size=some (ir "list" vs.toArray 0):=fj _ rfl;have keep:∀b o,s.heap.get? b=some o->(s.heap.push (ir "list" vs.toArray 0)).get? b=some o:=fun b o q=>bw _ q;show cw _ _ _ _ _ { s with heap:=s.heap.push (ir "list" vs.toArray 0) };refine bo (ic (ld slot_list_sort ⟨_,aa,rfl⟩ entry_list_sort ?body (args_list_sort _)))
 case body=>
  refine CZ (s:={ s with heap:=s.heap.push (ir "list" vs.toArray 0) }) (kd:=kd) (lt:=lt) aa hz (fun h3 k=>hkd _ _ h3 fun b o e=>k b o (ik (gh e)) (keep b o e)) (fun h3 k=>hO _ _ h3 fun b o e=>k b o (ik (gh e)) (keep b o e)) fun h' c out k1 hp hs k2=>?_;exact⟨_,rfl,cm (h _ h' c out (cu _) (fun b o e=>k1 b o (ik (gh e)) (keep b o e)) hp hs k2)⟩
theorem Hh{l:Addr}{vs:List bn}{kd:pz}{lt:cq->cq->Bool}{Q:bn->bq->Prop}(hl:s.heap.IsList l vs.toArray)(hz:vs.length<=10000000)
  (hkd:∀(A':iz) (E':bn->bq->Prop) h3,(∀b o,s.heap.get? b=some o->h3.get? b=some o)->∀(Q:pz->bq->Prop),2<=vs.length->Q kd { s with heap:=h3 }->cw (model prog w) A' (keyKind' vs.toArray) Q E' { s with heap:=h3 })
  (hO:∀(A':iz) (E':bn->bq->Prop) h3,(∀b o,s.heap.get? b=some o->h3.get? b=some o)->LtOk prog w A' E' { s with heap:=h3 } kd (fun x=>x.1=x.2/\x.1∈vs) lt)
  (h:∀D h' c (out:List bn),s.heap.objs.size<=D->(∀b o,s.heap.get? b=some o->h'.get? b=some o)->out.Perm vs->out.Pairwise (fun x y=>lt (y,y) (x,x)=false)->h'.get? D=some (ir "list" out.toArray c)->Q (.ref D) { s with heap:=h' }):
  cw (model prog w) A (call (.builtin "sorted") [.ref l]) Q E s:=by
 refine Calls.call_function_entry kind_sorted plain_sorted entry_sorted (args_sorted1 _) ?_;unfold rc.«sorted»;refine bo (m:=checkCount "sorted" 1 1 _) (cm ?_);refine bo (collect_list (vs:=vs) hl ?_ (by rw[jp];omega));refine bo (wpAny_newList ?_ (by show vs.length<=_;rw[jp];omega));have hsz:((s.heap.push (ir "list" #[] 0)).update s.heap.objs.size (im (· ++ (vs.toArray:Array bn)))).objs.size=s.heap.objs.size+1:=by
  rw[Heap.size_update,size_push']
 have ab:(((s.heap.push (ir "list" #[] 0)).update s.heap.objs.size (im (· ++ (vs.toArray:Array bn)))).push (ir "list" vs.toArray 0)).get? (s.heap.objs.size+1)=some (ir "list" vs.toArray 0):=by
  rw[<- hsz];exact fj _ rfl
 have keep:∀b o,s.heap.get? b=some o->(((s.heap.push (ir "list" #[] 0)).update s.heap.objs.size (im (· ++ (vs.toArray:Array bn)))).push (ir "list" vs.toArray 0)).get? b=some o:=fun b o q=>by
  have aa:b<s.heap.objs.size:=gh q;rw[Heap.get?_push_ne _ _ _ (by rw[hsz];exact ik (qx aa)),Heap.get?_update_ne _ _ _ _ (ik aa),Heap.get?_push_ne _ _ _ (ik aa)];exact q
 show cw _ _ _ _ _ { s with heap:=((s.heap.push (ir "list" #[] 0)).update s.heap.objs.size (im (· ++ (vs.toArray:Array bn)))).push (ir "list" vs.toArray 0) };rw[hsz];refine bo (ic (ld slot_list_sort ⟨_,ab,rfl⟩ entry_list_sort ?body (args_list_sort _)))
 case body=>
  refine CZ (s:={ s with heap:=((s.heap.push (ir "list" #[] 0)).update s.heap.objs.size (im (· ++ (vs.toArray:Array bn)))).push (ir "list" vs.toArray 0) }) (kd:=kd) (lt:=lt) ab hz (fun h3 k=>hkd _ _ h3 fun b o e=>k b o (ik (qx (gh e))) (keep b o e)) (fun h3 k=>hO _ _ h3 fun b o e=>k b o (ik (qx (gh e))) (keep b o e)) fun h' c out k1 hp hs k2=>?_;exact⟨_,rfl,cm ⟨_,rfl,h _ h' c out (le_succ _) (fun b o e=>k1 b o (ik (qx (gh e))) (keep b o e)) hp hs k2⟩⟩
theorem FC{vs:List bn}{ns:List Int}(hI:oo vs ns)(h2:2<=vs.length){Q:pz->bq->Prop}(h:Q oneType' s):cw (model prog w) A (keyKind' vs.toArray) Q E s:=by
 match vs,hI,h2 with
 |v1::v2::r,hI,_=>
  rw[keyKind_ints hI];exact cm h
end
theorem Ch:∀{vs:List bn}{ns:List Int},oo vs ns->vs.map numOf=ns
 |_,_,.nil=>rfl
 |_,_,.cons n t h=>by rw[fw,Ch h];rfl
theorem AS:∀{vs:List bn},(∀v∈vs,∃n t,v=qo n t)->oo vs (vs.map numOf)
 | [],_=>.nil
 |v::r,h=>by
  obtain⟨n,t,rfl⟩:=h v fu;exact .cons n t (AS fun x m=>h x (cz _ m))
theorem Ek{out vs:List bn}{ns:List Int}(hI:oo vs ns)(hp:out.Perm vs)(hs:out.Pairwise (fun x y=>decide (numOf (y,y).1<numOf (x,x).1)=false)):oo out (out.map numOf)/\(out.map numOf).Perm ns/\(out.map numOf).Pairwise (· <= ·):=by
 refine⟨AS fun v m=>hI.all v (hp.mem_iff.mp m),?_,?_⟩
 ·have:=hp.map numOf
  rwa [Ch hI]at this
 ·rw[pi];exact hs.imp fun h=>by have:=of_decide_eq_false h;dsimp only at this;omega
def o9:List XV->Sto->RX->Prop:=fun xs S R=>arg1 xs fun x=>∃m:List (Key×bp),x=.d (.dict (DD.pairs (.k m)))/\∃ns:List Int,m.map (·.1)=ns.map Sum.inl/\ns.length<=10000000/\∀ms:List Int,ms.Perm ns->ms.Pairwise (· <= ·)->R (.d (.list (ms.map cf))) S
def vH:V->Int
 | .int n=>n
 |_=>0
def dF(H:Hp):bn->List Int
 | .ref a=>match H a with
  |some (.tup xs)=>xs.map vH
  |_=>[]
 |_=>[]
theorem Dt:∀ns:List Int,(ns.map V.int).map vH=ns
 | []=>rfl
 |n::r=>by rw[fw,fw,Dt r];rfl
theorem Dw{H:Hp}{a:Addr}{ns:List Int}(e:H a=some (.tup (ns.map V.int))):dF H (.ref a)=ns:=by
 show (match H a with|some (.tup xs)=>xs.map vH|_=>[])=ns;rw[e];exact Dt ns
def adr:bn->Addr
 | .ref a=>a
 |_=>0
theorem CB:∀{as:List Addr}{us:List bn},Vals (as.map V.ref) us->us=as.map gm
 | [],_,.nil=>rfl
 |a::r,_,.cons e h=>by rw[CB h,show _=gm a from e];rfl
theorem EC{α:Type}:∀zs:List (Addr×α),Vals (zs.map fun z=>V.ref z.1) (zs.map fun z=>gm z.1)
 | []=>.nil
 |a::r=>.cons rfl (EC r)
theorem FJ{P:fx}{w:io}{H:Hp}{h:Heap}{a:Addr}{ns:List Int}(ok:HOk P w H h)(e:H a=some (.tup (ns.map V.int)))(hn:ns≠[]):TupI h (.ref a) ns:=by
 obtain⟨_,us,rv,ob,hb,cb,n,db⟩:=(show ObjOk P w H h a (.tup (ns.map V.int))from ok a _ e);exact⟨hn,a,ob,us.toArray,n,rfl,hb,cb,db,by simpa using qB rv⟩
theorem TupI.keep{h h':Heap}{v:bn}{ns:List Int}(x:TupI h v ns)(k:∀b o,h.get? b=some o->h'.get? b=some o):TupI h' v ns:=by
 obtain⟨hn,a,o,xs,n,e,g,r⟩:=x;exact⟨hn,a,o,xs,n,e,k _ _ g,r⟩
def BL(K:cy):List V->Hp->VK->Prop:=fun xs H Q=>∃(p:Addr) (zs:List (Addr×List Int)),xs=[.ref p]/\SqL K H p (zs.map fun z=>V.ref z.1)/\(∀z∈zs,H z.1=some (.tup (z.2.map V.int))/\z.2≠[])/\zs.length<=10000000 /\
 ∀(l:Addr) (ys:List (Addr×List Int)),H l=none->ys.Perm zs->ys.Pairwise (fun x y=>HT.lexLt y.2 x.2=false)->Q (.ref l) (upd H l (.lst (ys.map fun z=>V.ref z.1)))
theorem F2{H:Hp}{zs:List (Addr×List Int)}{out:List bn}(hz:∀z∈zs,H z.1=some (.tup (z.2.map V.int))/\z.2≠[])(hp:out.Perm (zs.map fun z=>gm z.1))(hs:out.Pairwise (fun x y=>HT.lexLt (dF H (y,y).1) (dF H (x,x).1)=false)):
  (out.map fun v=>(adr v,dF H v)).Perm zs/\(out.map fun v=>(adr v,dF H v)).Pairwise (fun x y=>HT.lexLt y.2 x.2=false)/\out=(out.map fun v=>(adr v,dF H v)).map fun z=>gm z.1:=by
 refine⟨?_,?_,?_⟩
 ·refine(hp.map fun v=>(adr v,dF H v)).trans (qa ?_);rw[jn]
  conv=>rhs;rw[<- map_id zs]
  exact nl fun z m=>Prod.ext rfl (Dw (hz z m).1)
 ·rw[pi];exact hs
 ·rw[jn]
  conv=>lhs;rw[<- map_id out]
  refine nl fun v m=>?_;obtain⟨z,_,rfl⟩:=mem_map.mp (hp.mem_iff.mp m);rfl
theorem BC{X:Cx}:CallR X (.builtin "sorted") (BL X.K):=by
 intro ze s σ H xs us Q I r h;obtain⟨p,zs,rfl,hq,hz,hn,q⟩:=h;obtain⟨u,rfl,rx⟩:=vals1 r;cases (show u=gm p from rx);obtain⟨aa,rv,pl,_⟩:=I.list hq;have ei:aa=zs.map fun z=>gm z.1:=by
  have:=CB (as:=zs.map (·.1)) (by rw[jn];exact rv);rw[this,jn];rfl
 subst ei;have hT:∀v∈zs.map (fun z=>gm z.1),TupI s.heap v (dF H v):=fun v m=>by
  obtain⟨z,mz,rfl⟩:=mem_map.mp m;rw[Dw (hz z mz).1];exact FJ I.hok (hz z mz).1 (hz z mz).2
 refine Hh (kd:=tuples' true) (lt:=fun x y=>HT.lexLt (dF H x.1) (dF H y.1)) pl.isList (by rw[dh];exact hn) (fun A' E' h3 k Q h2 z=>Ho (s:={ s with heap:=h3 }) (dF H) (fun v m=>(hT v m).keep k) h2 z) (fun A' E' h3 k=>HB (s:={ s with heap:=h3 }) (dF H) fun v m=>(hT v m).keep k) fun D h' c out hD kp hp hs hg=>?_;obtain⟨o1,o2,o3⟩:=F2 hz hp hs;refine⟨.ref D,_,I.laid (t':=s.toks) kp hD (show ObjOk X.prog X.w _ h' D (.lst ((out.map fun v=>(adr v,dF H v)).map fun z=>V.ref z.1))from⟨?_,out,c,?_,hg⟩),rfl,q _ _ (I.hok.fresh hD) o1 o2⟩
 ·rw[dh,o1.length_eq,jp];omega
 ·have:=EC (out.map fun v=>(adr v,dF H v));rw[<- o3]at this;exact this
def fJ:List XV->Sto->RX->Prop:=fun xs S R=>arg1 xs fun x=>∃ds,eX S x=some ds/\∃nss:List (List Int),ds=nss.map eT/\nss.length<=10000000/\(∀ns∈nss,ns≠[])/\∀mss:List (List Int),mss.Perm nss->mss.Pairwise (fun x y=>HT.lexLt y x=false)->R (.d (.list (mss.map eT))) S
theorem AZ{H:Hp}:∀{nss:List (List Int)}{ws:List V},HasL H (nss.map eT) ws->∃zs:List (Addr×List Int),ws=zs.map (fun z=>V.ref z.1)/\zs.map (·.2)=nss/\∀z∈zs,H z.1=some (.tup (z.2.map V.int))
 | [],ws,l=>⟨[],zz.mp l,rfl,fun z m=>by cases m⟩
 |ns::r,ws,l=>by
  obtain⟨v,t,rfl,h1,h2⟩:=zo.mp l;obtain⟨a,us,rfl,ea,la⟩:=zL.mp h1;rw[kL la]at ea;obtain⟨zs,rfl,e2,hz⟩:=AZ h2;refine⟨(a,ns)::zs,rfl,by rw[fw,e2],fun z m=>?_⟩;rcases mem_cons.mp m with rfl|m
  ·exact ea
  ·exact hz z m
theorem DR{H:Hp}:∀{zs:List (Addr×List Int)},(∀z∈zs,H z.1=some (.tup (z.2.map V.int)))->HasL H ((zs.map (·.2)).map eT) (zs.map fun z=>V.ref z.1)
 | [],_=>zz.mpr rfl
 |z::r,h=>zo.mpr ⟨_,_,rfl,zL.mpr ⟨z.1,_,rfl,h z fu,lQ z.2⟩,DR fun x m=>h x (cz _ m)⟩
theorem CS{K:cy}:RC (BL K) fJ:=fun h o H S xs vs R Q hs hx q c=>by
 obtain⟨x,rfl,ds,hd,ab,rfl,hn,y,q1⟩:=bT q;obtain⟨v,rfl,aa⟩:=hxs1 hx;obtain⟨a,ws,rfl,ea,l⟩:=cB hs hd aa;obtain⟨zs,rfl,e2,hz⟩:=AZ l;subst e2;refine⟨a,zs,rfl,.of ea,fun z m=>⟨zG _ _ (hz z m),y _ (lq m)⟩,by simpa using hn,fun l ys hl pm pw=>?_⟩;exact hX hs (DR (zs:=ys) fun z m=>hz z (pm.mem_iff.mp m)) c (q1 _ (pm.map _) (by rw[pi];exact pw)) l hl
end L2
namespace L2
open PySem PySem.Spec PySem.Calls PyProof.Rows
def pA(j:Nat)(dk dv:DM->DE):DSm:=fun En δ S M=>zh j δ S fun y S1=>∃a m,y=.o (.ref a)/\(a,DD.k m)∈M/\dk M δ S1 fun z S2=>dv M δ S2 fun x S3=>asD z fun k=>asD x fun d=>∃kk,eZ k=some kk/\m.length<1000/\if (lkA m kk).isSome=true then En.nx δ S3 M else En.nx δ S3 (fF M a (.k (ptA m kk d)))
def oT(k:Int)(e:DE):DE:=fun δ S R=>e δ S fun x S1=>asD x fun d=>R (.d (.dict [(.int k,d)])) S1
end L2
namespace L2
open PySem PySem.Spec PySem.Calls PyProof.Rows
theorem Jl{X:Cx}{es:List Expr}{k:Nat}{t:TGs}{n:Nat}{pos:Pos}{K:cy}(hK:X.K=K)(hc:X.calm=true)(h:PGs X es t)
  (hn:(lz es X.env).length=n:=by rfl) (hst:(lz es X.env).findIdx? (·.1)=none:=by rfl):PG X (.Tuple es k pos) (vY K n t):=by
 subst hK;exact dJ hc h hn hst
end L2
namespace L2
theorem len0{α:Type}{l:List α}(h:l.length=0):l=[]:=ie h
theorem len1{α:Type}{l:List α}(h:l.length=1):∃a0,l=[a0]:=by
 cases l with
 |nil=>cases h
 |cons x r=>
  obtain rfl:=len0 (sf h);exact⟨x,rfl⟩
theorem len2{α:Type}{l:List α}(h:l.length=2):∃a0 a1,l=[a0,a1]:=by
 cases l with
 |nil=>cases h
 |cons x r=>
  obtain⟨a1,rfl⟩:=len1 (sf h);exact⟨x,a1,rfl⟩
theorem len3{α:Type}{l:List α}(h:l.length=3):∃a0 a1 a2,l=[a0,a1,a2]:=by
 cases l with
 |nil=>cases h
 |cons x r=>
  obtain⟨a1,a2,rfl⟩:=len2 (sf h);exact⟨x,a1,a2,rfl⟩
theorem len4{α:Type}{l:List α}(h:l.length=4):∃a0 a1 a2 a3,l=[a0,a1,a2,a3]:=by
 cases l with
 |nil=>cases h
 |cons x r=>
  obtain⟨a1,a2,a3,rfl⟩:=len3 (sf h);exact⟨x,a1,a2,a3,rfl⟩
theorem len5{α:Type}{l:List α}(h:l.length=5):∃a0 a1 a2 a3 a4,l=[a0,a1,a2,a3,a4]:=by
 cases l with
 |nil=>cases h
 |cons x r=>
  obtain⟨a1,a2,a3,a4,rfl⟩:=len4 (sf h);exact⟨x,a1,a2,a3,a4,rfl⟩
theorem len6{α:Type}{l:List α}(h:l.length=6):∃a0 a1 a2 a3 a4 a5,l=[a0,a1,a2,a3,a4,a5]:=by
 cases l with
 |nil=>cases h
 |cons x r=>
  obtain⟨a1,a2,a3,a4,a5,rfl⟩:=len5 (sf h);exact⟨x,a1,a2,a3,a4,a5,rfl⟩
end L2
namespace L2
open PySem PySem.Spec PyProof.Rows
section
def EB(K:cy):List V->Hp->VK->Prop:=fun xs H Q=>∃(p:Addr) (ns:List Int),xs=[.ref p]/\SqT K H p (ns.map V.int)/\ns.length<=10000000/\∀(l:Addr) (ms:List Int),H l=none->ms.Perm ns->ms.Pairwise (· <= ·)->Q (.ref l) (upd H l (.lst (ms.map V.int)))
theorem sP{X:Cx}:CallR X (.builtin "sorted") (EB X.K):=by
 intro ze s σ H xs us Q I r h;obtain⟨p,ns,rfl,hq,hn,q⟩:=h;obtain⟨u,rfl,rx⟩:=vals1 r;cases (show u=gm p from rx);obtain⟨aa,rv,pl,_⟩:=I.tuple hq;have hI:=qB rv;obtain⟨o,ho,hc,n,hd⟩:=pl;refine Calls.call_function_entry kind_sorted plain_sorted entry_sorted (args_sorted1 _) ?_;unfold rc.«sorted»;refine bo (m:=checkCount "sorted" 1 1 _) (cm ?_);refine bo (wpAny_collect_seq p (.inr rfl) ho hc hd (fun h1 ab=>?_) (by rw[jp,df,uN hI];omega));refine Gg (s:={ s with heap:=h1 }) (vs:=aa) (kd:=oneType') (lt:=fun x y=>decide (numOf x.1<numOf y.1)) (by rw[uN hI];exact hn) (fun A' E' h3 _ Q h2 z=>FC hI h2 z) (fun A' E' h3 _=>FN hI) fun D h' c out hD kp hp hs hg=>?_;obtain⟨o1,o2,o3⟩:=Ek hI hp hs;have I1:Inv X ze σ H { s with heap:=h1 }:=I.kept (t':=s.toks) ab;refine⟨_,rfl,.ref D,_,I1.laid (t':=s.toks) kp hD (show ObjOk X.prog X.w _ h' D (.lst ((out.map numOf).map V.int))from⟨?_,out,c,qW o1,hg⟩),rfl,q _ _ (I1.hok.fresh hD) o2 o3⟩;rw[dh,o2.length_eq,jp];omega
def fT:List XV->Sto->RX->Prop:=fun xs S R=>arg1 xs fun x=>∃ns:List Int,x=.d (.tuple (ns.map cf))/\ns.length<=10000000/\∀ms:List Int,ms.Perm ns->ms.Pairwise (· <= ·)->R (.d (.list (ms.map cf))) S
theorem I0{K:cy}:RC (EB K) fT:=fun h o H S xs vs R Q hs hx q c=>by
 obtain⟨x,rfl,ns,rfl,hn,q1⟩:=bT q;obtain⟨v,rfl,y⟩:=hxs1 hx;obtain⟨a,us,rfl,ea,l⟩:=zL.mp y;rw[kL l]at ea;refine⟨a,ns,rfl,.of (zG _ _ ea),hn,fun l ms hl pm pw=>?_⟩;exact hX hs (lQ ms) c (q1 ms pm pw) l hl
end
end L2
namespace L2
open PySem PySem.Spec PySem.Calls PyProof.Rows
open Sem (wp)
def lS(a:DA):DE:=fun δ S R=>a δ S fun xs S1=>arg2 xs fun x y=>∃ds,bR x=some ds/\∃es,bR y=some es/\min ds.length es.length<=1000/\R (.d (.list (uH ds es))) S1
end L2
namespace L2
open PySem PySem.Spec PySem.Calls PyProof.Rows
open Sem (wp)
theorem B9(a f v:bn):argsOk "min" ⟨[a],[(gx "key",f),(gx "default",v)]⟩:=by unfold argsOk;kernel_rfl
end L2
namespace L2
open PySem PySem.Spec PyProof.Rows
section
section
variable {X:Cx}
theorem Kh{α β:Type}{r:α->β->Prop}:∀{a:List α}{b:List β}{i:Nat}{v:α}{w:β},Paired r a b->a[i]?=some v->b[i]?=some w->r v w:=by
 intro a b i v w pq;induction pq generalizing i with
 |nil=>intro h;simp at h
 |cons r0 _ ih=>
  cases i with
  |zero=>
   intro h1 h2;rw[lf]at h1 h2;cases h1;cases h2;exact r0
  |succ i=>
   intro h1 h2;rw[lg]at h1 h2;exact ih h1 h2
end
theorem lo{sc:Scope}{x:Str}(h:sc.names.lookup x=some .local:=by rfl):Loc sc x:=ip h
theorem fsd{N P:List Str}{sc:Scope}(h:u8 N P sc=true:=by decide +kernel):FnScope N P sc:=fsc h
theorem Jk{X:Cx}{i:Nat}{x:Str}{e:Expr}{t:TE}{pos pos':Pos}(hN:X.N.Nodup)(hi:X.N[i]?=some x)(hx:Loc X.env.scope x)(he:QE X e t)(hs:swapsWith e (some (.Name x pos')) pos.line X.env=pure false:=by rfl)(hf:X.fn x=true\/X.env.scope.names.lookup x=some .local:=by first|exact .inl rfl|exact .inr rfl|assumption):
  QS X (.Assign [.Name x pos'] e pos) (jU t (gI i)):=QS.mk (zI hN hi hx he.out hs hf)
end
end L2
namespace L2
open PySem PySem.Spec PyProof.Rows
section
section
variable {prog:fx}{w:io}{A:iz}{E:bn->bq->Prop}{s:bq}
theorem Ej{T y q:String}{Bn Bi:rc}{args:List bn}{kw:List (Str×bn)}{S:PySem.Spec}{Q Q₁:bn->bq->Prop}(ft:TypeCalled T y q)
  (hct:checkTypeCall T ⟨args,kw⟩=pure ()) (hcn:checkBuiltinCall y ⟨.type T::args,kw⟩=pure ())
  (entryN:entryFor table y=some Bn) (entryI:entryFor table q=some Bi) (g:Meets (Bn ⟨.type T::args,kw⟩) S)
  (h:S A.in1 (wants Q₁ E) s)
  (hnext:∀obj s₁,Q₁ obj s₁->s₁.TypeIs obj T/\argsOk q ⟨obj::args,kw⟩/\∃Si,Meets (Bi ⟨obj::args,kw⟩) Si/\Si A.in1 (wants (fun r s₂=>r=.none/\Q obj s₂) E) s₁):
  cw (model prog w) A (call (.type T) args kw) Q E s:=by
 obtain⟨c,tl,af⟩:=ft.mro;have ab:=ft.made;have ae:=ft.sub;refine wpAny_call (codeAny_of_tree ?_);show cw _ _ (callAny (.type T) _) _ _ _;refine cm ⟨Code.quiet_builtin _ (by decide +kernel),rk F.entry_type_call ?_⟩;rw[Around.under_plain (weight_type_call_type T args kw) (units_type_call_type T args kw)];have h1:=ft.notType;have h2:=ft.canCreate
 repeat (any_goals (first|assumption|wp_step))
 refine codeAny_mono (codeAny_call_builtin ft.plain entryN (wpAny_of_eq hcn (g prog w A.in1 _ s h))) fun r s₁ hr=>?_;cases r with
 |error e=>exact hr
 |ok fl=>
  cases fl with
  |ret obj=>
   obtain⟨hT,hok,Si,gi,ac⟩:=hnext _ _ hr;have ag:=ft.init.lookup;have ah:=ft.init.bind obj
   repeat (any_goals (first|assumption|wp_step))
   refine codeAny_mono (codeAny_call_builtin ft.init.plain entryI (ft.init.check _ _ _ _ _ _ _ _ hT hok (gi prog w A.in1 _ s₁ ac))) fun r₂ s₂ aa=>?_;cases r₂ with
   |error e=>exact aa
   |ok fl₂=>
    cases fl₂ with
    |ret r=>
     obtain⟨rfl,hq⟩:=aa
     repeat (any_goals (first|assumption|wp_step))
    |_=>exact aa.elim
  |_=>exact hr.elim
theorem Gv{T q:String}{self:bn}{rest:List bn}{k:Str}{v:bn}(hl:typeLookup (.type T) "__init__" = pure (some (.builtin "object.__init__")))
  (hm:Bind.madeBy (.type T)=pure (some q)) (hne:(some q != some "object.__new__")=true):
  Meets (rc.«object.__init__» ⟨self::rest,[(k,v)]⟩) (fun _ R s=>s.TypeIs self T/\R (.ok (.ret .none)) s):=by
 refine Meets.of_wp fun prog w A R s hs=>?_;obtain⟨hT,hq⟩:=hs;cases rest with
 |nil=>
  repeat (any_goals (first|assumption|wp_step))
  exact⟨_,rfl,hq⟩
 |cons a rest=>
  repeat (any_goals (first|assumption|wp_step))
  exact⟨_,rfl,hq⟩
theorem ID(a:bn)(v:bn):checkTypeCall "enumerate" ⟨[a],[("start",v)]⟩=pure ():=by kernel_rfl
theorem Hz(a:bn)(v:bn):checkBuiltinCall "enumerate.__new__" ⟨[.type "enumerate",a],[("start",v)]⟩=pure ():=by kernel_rfl
theorem GS(ob a v:bn):argsOk "object.__init__" ⟨[ob,a],[("start",v)]⟩:=by kernel_rfl
theorem Js(l:Addr)(items:Array bn)(n:Nat)(y:Option Addr)(sl:Array (Option bn))(q:Tok):
  Meets (rc.«enumerate.__new__» ⟨[.type "enumerate",.ref l],[("start",.int 1 q)]⟩) (fun _ R s=>s.heap.get? l=some { cls:=.type "list",dict:=y,data:=.seq items n,slots:=sl } /\
   R (.ok (.ret (.ref (s.heap.push { cls:=.type "list_iterator",data:=.fields #[.ref l,.int 0 0] }).objs.size)))
    { s with heap:=(s.heap.push { cls:=.type "list_iterator",data:=.fields #[.ref l,.int 0 0] }).push { cls:=.type "enumerate",data:=.fields #[.none,.bool false,.ref s.heap.objs.size,rawInt 1,.none,.none] } }):=
 .of_wp fun prog w A R s h=>by
  obtain⟨hp,g,d,tk,os⟩:=s;obtain⟨hl,h⟩:=h;have aa:=sub_enumerate;have hL:Heap.IsList (Shared.heap ⟨hp,g,d,tk,os⟩) l items:=⟨_,hl,rfl,n,rfl⟩
  wp_walk using wpAny_loadPart' hl
  refine wpAny_stack_any fun st=>cm ?_;split
  ·rename_i c _ _ _ _ _;cases (c==Value.type "enumerate")
   ·wp_walk using wpAny_loadPart' hl,jy hL
    all_goals exact⟨_,rfl,h⟩
   ·wp_walk using wpAny_loadPart' hl,jy hL
    all_goals exact⟨_,rfl,h⟩
  ·wp_walk using wpAny_loadPart' hl,jy hL
   all_goals exact⟨_,rfl,h⟩
theorem FQ{l:Addr}{items:Array bn}{y:Tok}{Q:bn->bq->Prop}(hL:s.heap.IsList l items)
  (hyp:∀g,IsEnum g (s.heap.objs.size+1) s.heap.objs.size 1 .none->g.IsListIter s.heap.objs.size l 0->(∀b o,s.heap.get? b=some o->g.get? b=some o)->Q (.ref (s.heap.objs.size+1)) { s with heap:=g }):cw (model prog w) A (call (.type "enumerate") [.ref l] [("start",.int 1 y)]) Q E s:=by
 obtain⟨⟨c,aa,dt,sl⟩,ht,hc,n,hd⟩:=hL;replace hc:c=.type "list":=hc;replace hd:dt=.seq items n:=hd;subst hc hd;have sz:(s.heap.push { cls:=.type "list_iterator",data:=.fields #[.ref l,.int 0 0] }).objs.size=s.heap.objs.size+1:=size_push ..;have he:=fj (s.heap.push { cls:=.type "list_iterator",data:=.fields #[.ref l,.int 0 0] }) (o:={ cls:=.type "enumerate",data:=.fields #[.none,.bool false,.ref s.heap.objs.size,rawInt 1,.none,.none] }) rfl;refine Ej (Q₁:=fun ob s₁=>s₁.TypeIs ob "enumerate"/\Q ob s₁) F.called_enumerate (ID _ _) (Hz _ _) F.entry_enumerate_new F.entry_object_init (Js l items n aa sl y) ⟨ht,?_⟩ fun ob s₁ q=>⟨q.1,GS _ _ _,_,Gv F.called_enumerate.init.lookup F.called_enumerate.made dz,q.1,rfl,q.2⟩;show _/\_;rw[sz]at he ⊢;exact⟨⟨_,he,rfl⟩,hyp _ he ⟨_,bw _ (fj _ rfl),rfl,rfl⟩ fun b o q=>bw _ (bw _ q)⟩
end
section
variable {M:Model}{A:iz}{E:bn->bq->Prop}{s:bq}{env:Env}
theorem J7{pos:Pos}{T:String}{first:List bn}{args:List (Bool×Sem bn)}{q:List (Option Str×Sem bn)}{Q:bn->bq->Prop}
  (hplain:args.any (·.1)=false) (hkw:q.any (·.1.isNone)=false)
  (h:cw M A (evalArgs (.type T) true args q) (fun a s₁=>cw M A (call (.type T) (first++a.pos) a.kw) Q E s₁) E s):
  cw M A (callWith pos (.type T) first args q) Q E s:=by
 unfold callWith;refine bo (ic (thn h fun a s₁ h₁=>bo (wpAny_standAt ?_)));simp only[hplain,hkw,Bool.or_false];refine bo (cm ?_);exact bo (thn h₁ fun r s₂ hr=>bo (ic (wpAny_point (cm hr))))
theorem K0{pos:Pos}{T:String}{e:Expr}{rest:List Expr}{q:List Keyword}{Q:bn->bq->Prop}
  (h:cw M A (spliced (ky pos (fq (e::rest) env))) (fun vs s₁=>cw M A (evalAll ((backToKw pos (qi q env)).map (·.2)))
   (fun kvs s₂=>cw M A (call (.type T) vs (((backToKw pos (qi q env)).filterMap (·.1)).zip kvs)) Q E s₂) E s₁) E s)
  (he:ky pos (fq (e::rest) env)=(false,eval e env)::ky pos (fq rest env))
  (hplain:(ky pos (fq (e::rest) env)).any (·.1)=false)
  (hall:(backToKw pos (qi q env)).all (·.1.isSome)=true)
  (hkw:(backToKw pos (qi q env)).any (·.1.isNone)=false):
  cw M A (callWith pos (.type T) [] (ky pos (fq (e::rest) env)) (backToKw pos (qi q env))) Q E s:=by
 refine J7 hplain hkw ?_;rw[he]at h ⊢;exact PyProof.Rows.evalArgs_kwB hall h
end
def Ite1(K:cy)(a:Addr):It:=
 ⟨fun i H=>∃xs x,SqL K H a xs/\xs[i]?=some x,fun i H x H'=>∃p v,H p=none/\x=.ref p/\H'=upd H p (.tup [.int ((i+1:Nat):Int),v])/\∀xs,SqL K H a xs->xs[i]?=some v,fun i H=>∃xs,SqL K H a xs/\xs.length<=i⟩
theorem Iy{P:fx}{w:io}{K:cy}{elts:List Expr}{n:Nat}{pos:Pos}(a e j:Addr)(ab:e≠j):Turn P w K (.Tuple elts n pos) (Ite1 K a) [e,j] e (fun i h=>(∃y,IsEnum h e j ((i+1:Nat):Int) y)/\h.IsListIter j a i) where
 mem:=by simp
 obj:=fun i h ⟨⟨y,he⟩,hj⟩ b hb=>by
  rcases mem_cons.mp hb with rfl|hb
  ·exact⟨_,he,fun v z=>by
    have z':Data.fields _=Data.cell v:=z;cases z'⟩
  ·rw[mem_singleton.mp hb];obtain⟨o,q,c,d⟩:=hj;exact⟨o,q,fun v z=>by rw[d]at z;cases z⟩
 keep:=fun i h h' ⟨⟨y,he⟩,hj⟩ k=>⟨⟨y,k e yv _ he⟩,hj.at fun o q=>k j yv o q⟩
 item:=by
  intro X hP hw hK hc i ze s σ H E I hf ⟨⟨y,he⟩,hj⟩ hg;subst hP hw hK;obtain⟨xs,x,hq,hx⟩:=hg;obtain⟨aa,rv,p,hz⟩:=I.list hq;obtain⟨u,hu,ru⟩:=rv.get hx;have hT:s.heap.IsList a aa.toArray:=p.isList;refine v6 (J:=fun g=>g.IsListIter j a (i+1)) he ab (fun A' Q' E' k=>wpAny_nextOf_list_item hj hT (x:=u) (by simpa using hu) k) (fun g g' z k=>z.at k) fun g e1 j1 t1 k1=>?_;refine⟨_,rfl,wpAny_letOwnedTupleGo_enum (s:={ s with heap:=g,toks:=s.toks+1 }) e1 fun g' e2 b2=>?_⟩;have lt:e<s.heap.objs.size:=gh he;have ae:j<s.heap.objs.size:=by
   obtain⟨_,q,_⟩:=hj;exact gh q
  have t2:g'.get? s.heap.objs.size=some { cls:=.type "tuple",data:=.seq #[.int ((i+1:Nat):Int) s.toks,u] }:=(b2.2 _ (ne_of_gt lt)).trans t1;have ac:H s.heap.objs.size=none:=I.hok.fresh (cu _);refine⟨.ref s.heap.objs.size,upd H s.heap.objs.size (.tup [.int ((i+1:Nat):Int),x]),I.turnLaid (ch:=[e,j]) (t':=s.toks+1) (fun b o nb q=>(b2.2 b fun z=>nb (by simp[z])).trans (k1 b o (fun z=>nb (by simp[z])) (fun z=>nb (by simp[z])) q)) hf (cu _) ?_,rfl,
   ⟨_,x,ac,rfl,rfl,fun ys hy=>by rw[I.list_inj hy hq];exact hx⟩,⟨⟨u,by simpa using e2⟩,j1.at fun o q=>(b2.2 j (kj ab)).trans q⟩,fun b hb=>?_⟩
  ·refine⟨⟨by show 2<=cx;decide,_,t2,rfl⟩,[.int ((i+1:Nat):Int) s.toks,u],.cons ⟨s.toks,rfl⟩ (.cons ru .nil),⟨_,t2,rfl,_,rfl⟩⟩
  ·rcases mem_cons.mp hb with rfl|hb
   ·rw[zB (ik lt)];exact(hf _ yv).1
   ·rw[mem_singleton.mp hb,zB (ik ae)];exact(hf _ yv).1
 done:=by
  intro X hP hw hK hc i ze s σ H E I hf ⟨⟨y,he⟩,hj⟩ hg;subst hP hw hK;obtain⟨xs,hq,hx⟩:=hg;obtain⟨aa,rv,p,hz⟩:=I.list hq;have hT:s.heap.IsList a aa.toArray:=p.isList;have hl:=rv.length;exact wA (I.ok.hd hc) he (fun A' Q' E' h0 k=>wpAny_nextOf_list_end h0 hj hT (by simp;omega) k) fun g b=>⟨rfl,I.turnedN (ch:=[e,j]) (t':=s.toks) (fun b' o nb q=>b b' o (fun z=>nb (by simp[z])) q) hf⟩
 self:=fun _ _ _ _ _ st h=>by
  obtain⟨⟨y,he⟩,_⟩:=st;exact ol he h
section
variable {X:Cx}{elts:List Expr}{n:Nat}{tpos:Pos}
def EG(K:cy)(ta:TA):TI:=fun σ H R=>ta σ H fun vs H1=>∃a,vs=[.ref a]/\(∃xs,SqL K H1 a xs)/\R (Ite1 K a) H1
theorem Ii{a:Expr}{ta:TA}{p pos kp cp:Pos}{cj:Nat}(hg:Gl X "enumerate")(hm:X.mg "enumerate" = none)(ha:PA X [a] ta)
  (he:ky pos (fq [a] X.env)=(false,eval a X.env)::ky pos (fq [] X.env):=by rfl) (hpl:(ky pos (fq [a] X.env)).any (·.1)=false:=by rfl):PI X (.Tuple elts n tpos) (.Call (.Name "enumerate" p) [a] [⟨some "start",.Constant (.int 1) cj cp,kp⟩] pos) (EG X.K ta):=by
 intro ze s σ H R I h;refine ng (eO I hg hm BT ?_);refine K0 (thn (ha pos ze s σ H _ I h) fun us s1 ⟨vs,H1,I1,r1,q1⟩=>?_) he hpl rfl rfl;refine PyProof.Rows.kws_cons (wpAny_Constant_int (PyProof.Rows.kws_nil ?_));obtain⟨b,e,⟨xs,hq⟩,q⟩:=q1;subst e;cases r1 with
 |cons r rr=>
  cases rr;cases r;have I1':=I1.tok (s1.toks+1);obtain⟨y,rv,pl,hz⟩:=I1'.list hq;refine FQ pl.isList fun g he hj k=>?_;refine ol (s:={ s1 with heap:=g,toks:=s1.toks+1 }) he ?_
  have I2:Inv X ze σ H1 { s1 with heap:=g,toks:=s1.toks+1 }:=I1'.kept (t':=s1.toks+1) k;refine⟨s1.heap.objs.size+1,[s1.heap.objs.size+1,s1.heap.objs.size],_,_,H1,rfl,I2,Iy b _ _ (succ_ne_self _),⟨⟨_,he⟩,hj⟩,fun c hc=>?_,q⟩;rcases mem_cons.mp hc with rfl|hc
  ·exact I1'.fpOk (le_succ _) (I1'.hok.fresh (le_succ _))
  ·rw[mem_singleton.mp hc];exact I1'.fpOk (cu _) (I1'.hok.fresh (cu _))
def jL(a:DA):DI:=fun δ S R=>a δ S fun xs S1=>arg1 xs fun x=>∃ds,x=.d (.list ds)/\R (dZ 1 ds) S1
theorem JW{K:cy}{ta:TA}{da:DA}(ha:RA ta da):RI (EG K ta) (jL da):=fun h o H δ σ S R Q he hs q c=>
 ha h o H δ σ S _ _ he hs q fun o1 H1 S1 xs vs e1 s1 x1 d0=>by
  obtain⟨x,rfl,d2⟩:=bT d0;obtain⟨ds,rfl,d1⟩:=d2;obtain⟨v,rfl,hv⟩:=hxs1 x1;obtain⟨a,ws,rfl,ea,l⟩:=bU.mp (show Has (vx h o1 H1) (.list ds) v from hv);have hl:=l.length;have aa:∀{o2 H2},ExH h o1 H1 o2 H2->H2 a=some (.lst ws):=fun e2=>zG _ _ (e2.vx _ _ ea);refine⟨a,rfl,⟨ws,.of (zG _ _ ea)⟩,c o1 H1 S1 _ _ e1 s1 ⟨fun i o2 H2 e2 hi=>⟨ws,.of (aa e2),by rw[kU]at hi;omega⟩,fun i d o2 H2 e2 hi=>?_,fun i d o2 H2 x H3 S2 e2 s2 hi y=>?_⟩ d1⟩
  ·obtain⟨e,h1,rfl⟩:=g8 ds 1 i d hi;obtain⟨u,eu,_⟩:=l.get h1;exact⟨ws,u,.of (aa e2),eu⟩
  ·obtain⟨e,h1,rfl⟩:=g8 ds 1 i d hi;obtain⟨u,eu,hu⟩:=l.get h1;obtain⟨p,v,hp,rfl,rfl,hy⟩:=y;have ev:=hy ws (.of (aa e2));rw[eu]at ev;cases ev;refine⟨Same.laid hp,zL.mpr ⟨p,_,rfl,s2.laid hp,zo.mpr ⟨_,_,rfl,?_,zo.mpr ⟨_,_,rfl,(hu.mono e2.vx).mono (mY (Same.laid hp)),zz.mpr rfl⟩⟩⟩⟩;rw[Nat.add_comm];exact cQ.mpr rfl
end
end
end L2
namespace L2
open PySem PySem.Spec PySem.Calls PyProof.Rows
inductive AllK {α:Type} (F:α->bn->Prop):List α->List bn->Prop
 |nil:AllK F [] []
 |cons {k v ks vs}:F k v->AllK F ks vs->AllK F (k::ks) (v::vs)
end L2
namespace L2
open PySem PySem.Spec PyProof.Rows
section
def hB(b:Bool):Int:=reduceHash (match b with|true=>1|false=>0)
end
section
def l5(z:Str)(e:DE):DE:=fun δ S R=>e δ S fun x S1=>(∃d,bN S1 x=some d/\gp d=true/\R (.d (.bool (!PyData.eqv d (.tuple [.str z])))) S1)\/(x=.d (.dict [])/\R (.d (.bool true)) S1)
end
section
def iM(H:Hp)(A:List Addr):Hp:=fun b=>if b∈A then none else H b
theorem CM{H:Hp}{A:List Addr}{b:Addr}{u:HO}:iM H A b=some u↔b∉A/\H b=some u:=by
 unfold iM;split
 ·rename_i m;exact⟨fun z=>(by cases z),fun z=>absurd m z.1⟩
 ·rename_i m;exact⟨fun z=>⟨m,z⟩,fun z=>z.2⟩
theorem ET{o:List Addr}{H:Hp}{A:List Addr}:Ex o (iM H A) o H:=⟨⟨[],yv⟩,fun b u nb e=>⟨nb,(CM.mp e).2⟩⟩
abbrev PNm:=List XV->Sto->DM->(bp->Sto->DM->Prop)->Prop
def CnM(h o:List Addr)(H:Hp)(A:List Addr)(R:bp->Sto->DM->Prop)(Q:VK):Prop:=∀o' H' S' M' d v,Ex o (iM H A) o' H'->ad M'=A->RepS (h++ad M') o' H' S'->RepM h o' H' M'->HasX (h++ad M') o' H' (.d d) v->R d S' M'->Q v H'
def lfM(q:PNm):List V->Hp->VK->Prop:=fun vs H Q=>∃h o S M xs R,RepS (h++ad M) o H S/\RepM h o H M/\HasXs (h++ad M) o H xs vs/\q xs S M R/\CnM h o H (ad M) R Q
def spM(ps:List Str)(q:PNm):Sp:=fun vs H Q _=>vs.length=ps.length/\lfM q vs H Q
def qJ(R:bp->Sto->DM->Prop):DEndsM:={ nx:=fun _ S M=>R .none S M,rt:=fun x S M=>∃d,x=.d d/\R d S M }
theorem Kb{h o:List Addr}{H:Hp}(r:RepS h o H []):o=[]:=ie (by rw[<- r.len];rfl)
theorem Fs{h o:List Addr}{H:Hp}{A:List Addr}{R:bp->Sto->DM->Prop}{Q:VK}(c:CnM h o H A R Q):EOkM h o (iM H A) A (qJ R) { nx:=fun _ H'=>Q .non H',rt:=Q } :=
 ⟨fun o' H' δ' S' M' σ' e ea he hs rm q=>c o' H' S' M' .none .non e ea hs rm xN q,fun o' H' S' M' x v e ea hs rm hx ⟨d,ed,q⟩=>by
  subst ed;exact c o' H' S' M' d v e ea hs rm hx q,fun _ _ _ _ _ _ _ _ _ _ _ q=>q.elim,fun _ _ _ _ _ _ _ _ _ _ _ q=>q.elim⟩
section
variable {P:fx}{w:io}{K:cy}{mg:Str->Option bn}{base:Heap}{x:Str}{st:Stmt}{N ps:List Str}{k:Nat}
theorem Df.dM{q:PNm}(D:Dd K mg x st ps)(S:FnScope N ps (zj st))(n:Nat)(hn:N.length=ps.length+n)
  (hbody:∀(f:Addr) (y:bn) (A:iz) (outer:List Env) (s:bq) (H:Hp) (E:XK),Room k (A.deeper (si x (zj st) s.heap.objs.size f y)) ->
   ∃t dt,PSs (eG CX0 P w K mg base N x (zj st) f y A outer s H E).nox (dL st) t/\RSm E0 (fun _ _=>False) t dt/\∀xs S M R,q xs S M R->dt (qJ R) (xs.map some++bu n Option.none) S M):Df P w K mg base x ps (k+1) (spM ps q):=by
 refine Df.of D S (fun vs H Q E h=>h.1) fun f y A outer s H vs Q E hr ⟨hl,h,o,S',M,xs,R,aa,rm,hx,hq,c⟩=>?_;obtain⟨t,dt,h1,h2,h3⟩:=hbody f y A outer s H E hr;refine⟨t,h1,h2 h o (iM H (ad M)) o H _ _ S' M _ _ ET (fun a m=>?_) ?_ aa rm (h3 xs S' M R hq) (Fs c) fun _ _ _ _ _ _ _ _ _ z=>z.elim⟩
 ·unfold iM;rw[ck m]
 ·have e:N.length-vs.length=n:=yw
  unfold start;rw[e];exact Cm hx
end
section
variable {h o o':List Addr}{H H':Hp}{M M':DM}{S:Sto}
theorem qI{A:List Addr}:Same (vx (h++A) o H) (vx (h++o++A) [] H)/\Same (vx (h++o++A) [] H) (vx (h++A) o H):=by
 refine⟨fun b u e=>?_,fun b u e=>?_⟩
 ·obtain⟨z1,z2,z3⟩:=zC.mp e;refine zC.mpr ⟨fun z=>?_,fun z=>(by cases z),z3⟩;rcases mem_append.mp z with z|z
  ·rcases mem_append.mp z with z|z
   ·exact z1 (cn _ z)
   ·exact z2 z
  ·exact z1 (fc _ z)
 ·obtain⟨z1,_,z3⟩:=zC.mp e;refine zC.mpr ⟨fun z=>?_,fun z=>z1 (cn _ (fc _ z)),z3⟩;rcases mem_append.mp z with z|z
  ·exact z1 (cn _ (cn _ z))
  ·exact z1 (fc _ z)
def iJ:XV->Bool
 | .d _=>true
 | .o _=>true
 |_=>false
theorem nI{h':List Addr}(s:Same (vx h o H) (vx h' o' H')):∀{x:XV}{v:V},iJ x=true->HasX h o H x v->HasX h' o' H' x v
 | .d d,v,_,q=>Has.mono s d v q
 | .o w,v,_,q=>q
theorem Af{h':List Addr}(s:Same (vx h o H) (vx h' o' H')):∀{xs:List XV}{vs:List V},xs.all iJ=true->HasXs h o H xs vs->HasXs h' o' H' xs vs
 | [],_,_,q=>q
 |x::xs,vs,n,⟨v,r,e,q,l⟩=>by
  rw[all_cons,jw]at n;exact⟨v,r,e,nI s n.1 q,Af s n.2 l⟩
theorem Fh{A:List Addr}{b:Addr}(m:b∈h++o++A):b∈(h++A)++o:=by
 rcases mem_append.mp m with z|z
 ·rcases mem_append.mp z with z|z
  ·exact cn _ (cn _ z)
  ·exact fc _ z
 ·exact cn _ (fc _ z)
theorem DQ{q:PNm}{xs:List XV}{vs:List V}{o0:List Addr}{H0:Hp}{δ:XE}{σ:St}{R:bp->DM->Prop}{Q:VK}(e0:Ex o0 H0 o H)(fr:Fr H0 M)(he:RepE (h++ad M) o H δ σ)(hs:RepS (h++ad M) o H S)(rm:RepM h o H M)
  (hn:xs.all iJ=true) (hx:HasXs (h++ad M) o H xs vs) (hq:q xs [] M fun d S' M'=>S'=[]/\R d M')
  (c:∀H' M' d v,Ex o0 H0 o H'->ad M'=ad M->RepE (h++ad M') o H' δ σ->RepS (h++ad M') o H' S->RepM h o H' M'->HasX (h++ad M') o H' (.d d) v->R d M'->Q v H'):lfM q vs H Q:=by
 have r0:=rep0 hs;refine⟨h++o,[],[],M,xs,_,⟨rfl,mw,fun a m=>(by cases m),fun b mb=>r0.hal b (Fh mb),fun k a ds e=>(by cases e)⟩,⟨rm.nd,fun a m=>⟨fun z=>?_,fun z=>(by cases z)⟩,fun a D m=>(rm.ct a D m).mono qI.1 fun u z=>z⟩,Af qI.1 hn hx,hq,fun o' H' S' M' d v e ea aa y ab ⟨z,qq⟩=>?_⟩
 ·rcases mem_append.mp z with z|z
  ·exact(rm.nh a m).1 z
  ·exact(rm.nh a m).2 z
 ·subst z;have z:=Kb aa;subst z;have kp:∀b u,b∉ad M->H b=some u->H' b=some u:=fun b u nb z=>(e.kp b u (fun w=>(by cases w)) (CM.mpr ⟨nb,z⟩)).2;have sm:Same (vx (h++ad M) o H) (vx (h++ad M) o H'):=fun b u z=>by
   obtain⟨z1,z2,z3⟩:=zC.mp z;exact zC.mpr ⟨z1,z2,kp b u (fun w=>z1 (fc _ w)) z3⟩
  refine c H' M' d v ⟨e0.pre,fun b u nb z=>?_⟩ ea ?_ ?_ ?_ ?_ qq
  ·obtain⟨w1,w2⟩:=e0.kp b u nb z;exact⟨w1,kp b u (fun m=>by have:=fr b m;rw[this]at z;cases z) w2⟩
  ·rw[ea];exact he.view sm
  ·rw[ea]at aa ⊢;refine⟨hs.len,hs.nd,hs.dis,fun b mb=>aa.hal b ?_,fun k a ds e1 e2=>?_⟩
   ·rcases mem_append.mp mb with z|z
    ·exact cn _ (cn _ z)
    ·exact fc _ z
   ·obtain⟨ws,e3,l⟩:=hs.cont k a ds e1 e2;exact⟨ws,kp a _ (fun m=>(rm.nh a m).2 (bt e1)) e3,HasL.mono sm _ _ l⟩
  ·refine⟨y.nd,fun a m=>⟨fun z=>(y.nh a m).1 (cn _ z),fun z=>(y.nh a m).1 (fc _ z)⟩,fun a D m=>(y.ct a D m).mono qI.2 fun u z=>z⟩
  ·exact nI qI.2 rfl ab
end
abbrev DTm:=XE->Sto->DM->(Bool->Sto->DM->Prop)->Prop
def RTm(t:TT)(dt:DTm):Prop:=∀(h o0:List Addr) (H0:Hp) (o:List Addr) (H:Hp) (δ:XE) (σ:St) (S:Sto) (M:DM) (R:Bool->Sto->DM->Prop) (Q:Bool->Hp->Prop),Ex o0 H0 o H->Fr H0 M->RepE (h++ad M) o H δ σ->RepS (h++ad M) o H S->RepM h o H M->dt δ S M R ->
 (∀o' H' S' M' b,Ex o0 H0 o' H'->ad M'=ad M->RepE (h++ad M') o' H' δ σ->RepS (h++ad M') o' H' S'->RepM h o' H' M'->R b S' M'->Q b H')->t σ H Q
def dmT(d:DM->DT):DTm:=fun δ S M R=>d M δ S fun b S'=>R b S' M
def gU(a b:DTm):DTm:=fun δ S M R=>a δ S M fun x S1 M1=>if x=true then R true S1 M1 else b δ S1 M1 R
def iB(c:DTm)(t u:DSm):DSm:=fun En δ S M=>c δ S M fun b S1 M1=>if b=true then t En δ S1 M1 else u En δ S1 M1
def gG(m:Nat)(q:PNm)(da:DM->DA):DTm:=fun δ S M R=>da M δ S fun xs S1=>xs.length=m/\xs.all iJ=true/\q xs [] M fun d S' M'=>S'=[]/\∃b,d=.bool b/\R b S1 M'
section
variable {E:XK}{EX:EXD}{t u:TS}{dt du:DSm}{tc td:TT}{dc dd:DTm}
theorem Ib{d:DM->DT}(hc:∀M,RTp (PhM M) tc (d M)):RTm tc (dmT d):=fun h o0 H0 o H δ σ S M R Q e0 fr he hs rm q c=>
 hc M (h++ad M) o H δ σ S _ _ he hs q (fun o1 H1 S1 b e1 s1 d1=>c o1 H1 S1 M b (e0.trans e1) rfl (he.mono e1) s1 (rm.mono e1) d1) ⟨h,rfl,rm⟩
theorem Hs(ha:RTm tc dc)(hb:RTm td dd):RTm (tOr tc td) (gU dc dd):=fun h o0 H0 o H δ σ S M R Q e0 fr he hs rm q c=>
 ha h o0 H0 o H δ σ S M _ _ e0 fr he hs rm q fun o1 H1 S1 M1 b e1 ea aa y ab d1=>by
  cases b with
  |false=>exact eQ (hb h o0 H0 o1 H1 δ σ S1 M1 R Q e1 (by unfold Fr;rw[ea];exact fr) aa y ab (by simpa using d1) fun o2 H2 S2 M2 b e2 ac=>c o2 H2 S2 M2 b e2 (ac.trans ea))
  |true=>exact eJ (c o1 H1 S1 M1 true e1 ea aa y ab (by simpa using d1))
theorem Aj(hc:RTm tc dc)(ht:RSm E EX t dt)(hu:RSm E EX u du):RSm E EX (oZ tc t u) (iB dc dt du):=fun h o0 H0 o H δ σ S M En D e0 fr he hs rm q c x=>
 hc h o0 H0 o H δ σ S M _ _ e0 fr he hs rm q fun o1 H1 S1 M1 b e1 ea aa y ac d1=>by
  have ab:Fr H0 M1:=by unfold Fr;rw[ea];exact fr
  cases b with
  |true=>exact eJ (ht h o0 H0 o1 H1 δ σ S1 M1 En D e1 ab aa y ac (by simpa using d1) (by rw[ea];exact c) x)
  |false=>exact eQ (hu h o0 H0 o1 H1 δ σ S1 M1 En D e1 ab aa y ac (by simpa using d1) (by rw[ea];exact c) x)
theorem Gn{K:cy}{ps:List Str}{q:PNm}{m:Nat}{ta:TA}{da:DM->DA}(ha:∀M,RAp (PhM M) ta (da M))(hm:ps.length=m:=by rfl):
  RTm (fun σ H Q=>fR (spM ps q) [] E0 ta σ H fun x H'=>∃k,TruV K x H' k/\Q k H') (gG m q da):=fun h o0 H0 o H δ σ S M R Q e0 fr he hs rm w c=>
 ha M (h++ad M) o H δ σ S _ _ he hs w (fun o1 H1 S1 xs vs e1 s1 x1 ⟨hl,hn,d1⟩=>by
  have hv:=x1.len;rw[kc];refine⟨by rw[hv,hl,hm],DQ (e0.trans e1) fr (he.mono e1) s1 (rm.mono e1) hn x1 d1 fun H' M' d v e2 ea y aa ac ab ⟨b,ed,r⟩=>?_⟩;subst ed;have:=eC ab;subst this;exact⟨b,rfl,c o1 H' S1 M' b e2 ea y aa ac r⟩) ⟨h,rfl,rm⟩
end
section
variable {X:Cx}{x:Str}{ps:List Str}{k j:Nat}{pos pos':Pos}{e:Expr}{es:List Expr}{t:TA}
theorem xC{q:PNm}(D:Df X.prog X.w X.K X.mg X.base x ps k (spM ps q))(hr:Room j X.A)(hk:k<=j)(ha:PA X (e::es) t)(hg:Gl X x:=by rfl)(y:(x==("__debug__":Str))=false:=by decide)
  (q1:fq (e::es) X.env=(false,eval e X.env)::fq es X.env:=by rfl) (q2:((ky pos (fq es X.env)).any fun x=>x.fst)=false:=by rfl):PE X (.Call (.Name x pos') (e::es) [] pos) (fR (spM ps q) [] E0 t):=by
 obtain⟨f,fd,F,hm,kp,hb⟩:=D.ex;exact vJ (dvs:=[]) (ds:=[]) (E:=E0) F (hr.mono hk) hg hm kp hb .nil pass0 ha y q1 q2
end
theorem Df.noneM{P:fx}{w:io}{K:cy}{mg:Str->Option bn}{base:Heap}{x:Str}{st:Stmt}{ps:List Str}{k:Nat}(D:Dd K mg x st ps):Df P w K mg base x ps k (spM ps fun _ _ _ _=>False):=by
 obtain⟨f,fd,F,hm,hb⟩:=D.ex;have no:∀{vs H Q E},spM ps (fun _ _ _ _=>False) vs H Q E->False:=fun {vs H Q E} h=>by
  obtain⟨_,h,o,S,M,xs,R,_,_,_,q,_⟩:=h;exact q
 exact⟨f,fd,⟨fun _ _ _ _ h=>(no h).elim,fun _ _ _ _ _ _ _ _ _ _ _ _ _ h=>(no h).elim⟩,hm,F.kp,hb⟩
theorem Jo{p:Addr}{u:MO}{D0:DD}(hD:∀(G H:Hp),H p=some u.ho->DAt G H p D0){h o0:List Addr}{H0:Hp}{o:List Addr}{H:Hp}{δ:XE}{σ:St}{S:Sto}{M:DM}(e0:Ex o0 H0 o H)(fr:Fr H0 M)(he:RepE (h++ad M) o H δ σ)(hs:RepS (h++ad M) o H S)(rm:RepM h o H M)(hp:H p=none):
  p∉ad M/\Ex o0 H0 o (upd H p u.ho)/\Fr H0 (M++[(p,D0)])/\RepE (h++ad (M++[(p,D0)])) o (upd H p u.ho) δ σ/\RepS (h++ad (M++[(p,D0)])) o (upd H p u.ho) S/\RepM h o (upd H p u.ho) (M++[(p,D0)])/\Same (vx (h++ad M) o H) (vx (h++ad (M++[(p,D0)])) o (upd H p u.ho)):=by
 have nM:p∉ad M:=fun m=>by
  obtain⟨D2,_,z⟩:=rm.at m;obtain⟨w,ew⟩:=z.mo;rw[hp]at ew;cases ew
 have f1:=hs.fresh hp;have nh:p∉h:=fun m=>f1.1 (cn _ m);have sH:Same H (upd H p u.ho):=Same.laid hp;have H0p:H0 p=none:=by
  cases z:H0 p with
  |none=>rfl
  |some w=>
   by_cases m:p∈o0
   ·obtain⟨r,er⟩:=e0.pre;exact absurd (show p∈o by rw[er];exact cn _ m) f1.2
   ·have:=(e0.kp p w m z).2;rw[hp]at this;cases this
 have sv:Same (vx (h++ad M) o H) (vx (h++(ad M++[p])) o (upd H p u.ho)):=fun b w z=>by
  obtain⟨z1,z2,z3⟩:=zC.mp z;have ne:b≠p:=zK z3 hp;refine zC.mpr ⟨fun m=>?_,z2,by rw[zB ne];exact z3⟩;rw[<- fy]at m;rcases mem_append.mp m with m|m
  ·exact z1 m
  ·exact ne (mem_singleton.mp m)
 refine⟨nM,e0.trans (Ex.of_same sH),fun a ma=>?_,?_,?_,?_,?_⟩
 ·rw[zH]at ma;rcases mem_append.mp ma with m|m
  ·exact fr a m
  ·rw[mem_singleton.mp m];exact H0p
 ·rw[zH];exact he.to sv
 ·rw[zH];refine⟨hs.len,hs.nd,fun a ma z=>?_,fun b mb=>?_,fun k b ds e1 e2=>?_⟩
  ·rw[<- fy]at z;rcases mem_append.mp z with z|z
   ·exact hs.dis a ma z
   ·rw[mem_singleton.mp z]at ma;exact f1.2 ma
  ·rw[<- fy]at mb;rcases mem_append.mp mb with m|m
   ·obtain⟨w,ew⟩:=hs.hal b m;exact⟨w,sH _ _ ew⟩
   ·rw[mem_singleton.mp m];exact⟨u,b8⟩
  ·obtain⟨vs,e3,l⟩:=hs.cont k b ds e1 e2;exact⟨vs,sH _ _ e3,HasL.mono sv _ _ l⟩
 ·refine⟨by rw[zH];exact j4 rm.nd nM,fun a ma=>?_,fun a D2 m=>?_⟩
  ·rw[zH]at ma;rcases mem_append.mp ma with m|m
   ·exact rm.nh a m
   ·rw[mem_singleton.mp m];exact⟨nh,f1.2⟩
  ·rw[zH];rcases mem_append.mp m with m|m
   ·exact(rm.ct a D2 m).mono sv fun w z=>sH _ _ z
   ·have:=mem_singleton.mp m;cases this;exact hD _ _ b8
 ·rw[zH];exact sv
def i8(q:PNm)(da db dc:DM->DE):DSm:=fun En δ S M=>da M δ S fun x S1=>db M δ S1 fun y S2=>dc M δ S2 fun z S3=>[x,y,z].all iJ=true/\∀p,p∉ad M->q [x,y,z,.o (.ref p)] [] (M++[(p,.k [])]) fun _ S' M'=>S'=[]/\∃M1 D,M'=M1++[(p,D)]/\En.nx δ S3 M1
theorem xE{E:XK}{EX:EXD}{ps:List Str}{q:PNm}{ta tb tc:TE}{da db dc:DM->DE}(ha:∀M,REp (PhM M) ta (da M))(hb:∀M,REp (PhM M) tb (db M))(hc:∀M,REp (PhM M) tc (dc M))(hm:ps.length=4:=by rfl):RSm E EX (uD (fR (spM ps q) [] E0 (cZ ta (cZ tb (cZ tc (cZ tR jD)))))) (i8 q da db dc):=fun h o0 H0 o H δ σ S M En D e0 fr he hs rm w c x=>
 ha M (h++ad M) o H δ σ S _ _ he hs w (fun o1 H1 S1 x1 v1 e1 s1 ag d1=>
  hb M (h++ad M) o1 H1 δ σ S1 _ _ (he.mono e1) s1 d1 (fun o2 H2 S2 x2 v2 e2 s2 af d2=>
   hc M (h++ad M) o2 H2 δ σ S2 _ _ (he.mono (e1.trans e2)) s2 d2 (fun o3 H3 S3 x3 v3 e3 s3 ai ⟨hn,d3⟩ p hp=>by
    obtain⟨nM,n1,n2,n3,n4,n5,n6⟩:=Jo (u:=.k []) (D0:=.k []) (fun G H z=>⟨[],z,rfl⟩) (e0.trans (e1.trans (e2.trans e3))) fr (he.mono (e1.trans (e2.trans e3))) s3 (rm.mono (e1.trans (e2.trans e3))) hp;simp only[all_cons,List.all_nil,Bool.and_true,jw]at hn;obtain⟨ab,y,ae⟩:=hn;refine⟨by rw[hm];rfl,DQ n1 n2 n3 n4 n5 (xs:=[x1,x2,x3,.o (.ref p)]) (by simp only[all_cons,List.all_nil,ab,y,ae];rfl) ?_ (d3 p nM) fun H' M' d v e4 ea ac aa ah aj ⟨M1,D1,eM,r⟩=>?_⟩
    ·exact⟨v1,_,rfl,nI n6 ab (ag.mono (e2.trans e3)),v2,_,rfl,nI n6 y (af.mono e3),v3,_,rfl,nI n6 ae ai,.ref p,[],rfl,rfl,rfl⟩
    ·subst eM;rw[zH,zH]at ea;rw[zH,<- fy]at ac aa;exact c.nx o3 H' δ S3 M1 σ e4 (append_inj_left' ea rfl) (ac.to iO) aa.less ah.init r) ⟨h,rfl,rm.mono (e1.trans e2)⟩) ⟨h,rfl,rm.mono e1⟩) ⟨h,rfl,rm⟩
end
end L2
namespace L2
open PySem PySem.Spec PyProof.Rows
section
section
variable {X:Cx}
def A8:List V->Hp->VK->Prop:=fun xs H Q=>∃a ob m,xs=[.ref a]/\H a=some (.frz ob (.dK m))/\Q (.int m.length) H
theorem BP:CallR X (.builtin "len") A8:=by
 intro ze s σ H xs us Q I r h;obtain⟨a,ob,m,rfl,ea,q⟩:=h;obtain⟨u,rfl,rx⟩:=vals1 r;cases (show u=gm a from rx);obtain⟨na,z,es,ep,vs,_,kv,⟨o,aa,ho,r1⟩⟩:=Jb I.hok ea;have y:m.length=vs.length:=kv.length;have ab:cx=16777216:=jp;exact call_len_dict (knd:=cI X.prog X.w) (kvs:=vs) na ⟨o,aa,ep,ho,r1⟩ yw ⟨.int _,H,I.tok _,⟨_,by rw[y]⟩,q⟩
def f7:List XV->Sto->RX->Prop:=fun xs S R=>arg1 xs fun x=>∃m:List (Key×bp),x=.d (.dict (DD.pairs (.k m)))/\R (.d (.int m.length)) S
theorem Az{H:Hp}:∀{m:List (Key×bp)}{m':List (Key×V)},HasM H m m'->m'.length=m.length
 | [],_,q=>by rw[show _=[]from q];rfl
 |p::r,_,⟨v,t,e,_,l⟩=>by rw[e,ff,ff,Az l]
theorem KL:RC A8 f7:=fun h o H S xs vs R Q hs hx q c=>by
 obtain⟨x,rfl,m,rfl,q1⟩:=bT q;obtain⟨v,rfl,y⟩:=hxs1 hx;obtain⟨a,ob,m',rfl,ea,l⟩:=wI.mp (show Has (vx h o H) _ _ from y);exact⟨a,ob,m',rfl,zG _ _ ea,by rw[Az l];exact c o H S _ _ Ex.refl hs (xI _) q1⟩
end
end
section
theorem lE{R:bp->Sto->DM->Prop}{d:bp}{S:Sto}{M:DM}:(qJ R).rt (.d d) S M=R d S M:=propext ⟨fun⟨e,z,q⟩=>by cases z;exact q,fun q=>⟨d,rfl,q⟩⟩
theorem m4{d:bp}:iJ (.d d)=true:=rfl
theorem m6{v:V}:iJ (.o v)=true:=rfl
end
end L2
namespace L2
open PySem PySem.Spec PySem.Calls PyProof.Rows PySem.W
section
variable {X:Cx}
def vR(K:cy):List V->Hp->VK->Prop:=fun xs H Q=>∃(p:Addr) (ns:List Int),xs=[.ref p]/\SqT K H p (ns.map V.int)/\ns.length<60/\∀(l:Addr) (ms:List Int),H l=none->ms.Perm ns->ms.Pairwise (· ≥ ·)->Q (.ref l) (upd H l (.lst (ms.map V.int)))
theorem HL{ze:List (Addr×Obj)}{s:bq}{σ:St}{H:Hp}{xs:List V}{us:List bn}{Q:VK}{E:bn->bq->Prop}(I:Inv X ze σ H s)(r:Vals xs us)(h:vR X.K xs H Q):cw (model X.prog X.w) X.A (call (.builtin "sorted") us [(gx "reverse",.bool true)]) (EP X ze σ Q) E s:=by
 obtain⟨p,ns,rfl,hq,hn,q⟩:=h;obtain⟨u,rfl,rx⟩:=vals1 r;cases (show u=gm p from rx);obtain⟨y,rv,pl,_⟩:=I.tuple hq;have hI:=qB rv;have ah:y.length=ns.length:=by have:=hI.length;simpa using this
 obtain⟨o,ho,hc,n,hd⟩:=pl;refine call_function_entry_kw kind_sorted plain_sorted entry_sorted (args_sorted_rev _ _) ?_;unfold rc.«sorted»;refine bo (m:=checkCount "sorted" 1 1 _) (cm ?_);refine bo (wpAny_collect_seq p (.inr rfl) ho hc hd (fun h1 af=>?_) (by rw[jp,df];omega));have I1:Inv X ze σ H { s with heap:=h1 }:=I.kept (t':=s.toks) af;refine bo (wpAny_newList ?_ (by show y.length<=_;rw[jp];omega));have aa:(h1.push (ir "list" y.toArray 0)).get? h1.objs.size=some (ir "list" y.toArray 0):=fj _ rfl;have keep:∀b o,h1.get? b=some o->(h1.push (ir "list" y.toArray 0)).get? b=some o:=fun b o q=>bw _ q;show cw _ _ _ _ _ { s with heap:=h1.push (ir "list" y.toArray 0) };refine bo (ic (wpAny_call_entry_kw slot_list_sort ⟨_,aa,rfl⟩ entry_list_sort (list_sort_tree_rev (s:={ s with heap:=h1.push (ir "list" y.toArray 0) }) (vs:=y) aa hI yw fun out ab a1 a2 a3=>⟨_,rfl,?_⟩) (args_list_sort_rev _ _)));refine cm ⟨_,rfl,?_⟩;have s1:=kt (h1.push (ir "list" y.toArray 0)) h1.objs.size (im fun _=>(#[]:Array bn));obtain⟨e1,ac⟩:∃e1,((h1.push (ir "list" y.toArray 0)).update h1.objs.size (im fun _=>(#[]:Array bn))).get? h1.objs.size=some (ir "list" #[] e1):=⟨_,rj aa fun _=>#[]⟩;have ae:((((h1.push (ir "list" y.toArray 0)).update h1.objs.size (im fun _=>(#[]:Array bn))).push (ir "tuple" y.toArray 0)).push (ir "list" #[] 0)).get? h1.objs.size=some (ir "list" #[] e1):=bw _ (bw _ ac);obtain⟨c,ag⟩:∃c,(sortedHeap (h1.push (ir "list" y.toArray 0)) h1.objs.size y out).get? h1.objs.size=some (ir "list" out c):=⟨_,rj ae fun _=>out⟩;have s2:=kt ((((h1.push (ir "list" y.toArray 0)).update h1.objs.size (im fun _=>(#[]:Array bn))).push (ir "tuple" y.toArray 0)).push (ir "list" #[] 0)) h1.objs.size (im fun _=>out);have kp:∀b o,h1.get? b=some o->(sortedHeap (h1.push (ir "list" y.toArray 0)) h1.objs.size y out).get? b=some o:=fun b o e=>by
  have nb:b≠h1.objs.size:=ik (gh e);exact(s2.2 b nb).trans (bw _ (bw _ ((s1.2 b nb).trans (keep b o e))))
 have hv:Vals (ab.map V.int) out.toList:=qW a1;have hD:h1.objs.size<=h1.objs.size:=cu _;refine⟨.ref h1.objs.size,_,I1.laid (t':=s.toks) kp hD (show ObjOk X.prog X.w _ (sortedHeap (h1.push (ir "list" y.toArray 0)) h1.objs.size y out) h1.objs.size (.lst (ab.map V.int))from⟨?_,out.toList,c,hv,by simpa using ag⟩),rfl,q _ _ (I1.hok.fresh hD) a2 a3⟩;rw[dh,a2.length_eq,jp];omega
theorem HN{e:Expr}{ta:TA}{p pos kp cp:Pos}{cj:Nat}(hg:Gl X "sorted")(hm:X.mg "sorted" = none)(ha:PA X [e] ta)
  (he:ky pos (fq [e] X.env)=(false,eval e X.env)::ky pos (fq [] X.env):=by rfl) (hpl:(ky pos (fq [e] X.env)).any (·.1)=false:=by rfl):
  PE X (.Call (.Name "sorted" p) [e] [⟨some "reverse",.Constant (.bool true) cj cp,kp⟩] pos) (tCB (vR X.K) ta):=by
 intro ze s σ H Q I h;refine ng (eO I hg hm kT ?_ dz dz);refine PyProof.Rows.callWith_kw (thn (ha pos ze s σ H _ I h) fun us s1 ⟨vs,H1,I1,r1,q1⟩=>?_) he hpl rfl rfl;refine PyProof.Rows.kws_cons (Constant_bool (PyProof.Rows.kws_nil ?_));exact HL I1 r1 q1
def iT:List XV->Sto->RX->Prop:=fun xs S R=>arg1 xs fun x=>∃ns:List Int,x=.d (.tuple (ns.map cf))/\ns.length<60/\∀ms:List Int,ms.Perm ns->ms.Pairwise (· ≥ ·)->R (.d (.list (ms.map cf))) S
theorem Ic{K:cy}:RC (vR K) iT:=fun h o H S xs vs R Q hs hx q c=>by
 obtain⟨x,rfl,ns,rfl,hn,q1⟩:=bT q;obtain⟨v,rfl,y⟩:=hxs1 hx;obtain⟨a,us,rfl,ea,l⟩:=zL.mp y;rw[kL l]at ea;refine⟨a,ns,rfl,.of (zG _ _ ea),hn,fun l ms hl pm pw=>?_⟩;exact hX hs (lQ ms) c (q1 ms pm pw) l hl
def yE:V->List V->Hp->VK->Prop:=fun x vs H Q=>∃l xs y,x=.ref l/\vs=[.int 0,y]/\H l=some (.lst xs)/\xs.length<cx/\Q .non (upd H l (.lst (y::xs)))
theorem GU:MtM X "list.insert" yE:=by
 intro ze s σ H x vs v us Q I rx rv h;obtain⟨l,xs,y,rfl,rfl,hH,hz,q⟩:=h;cases rx;obtain⟨u1,u2,rfl,r1,r2⟩:∃u1 u2,us=[u1,u2]/\RelV (.int 0) u1/\RelV y u2:=by
  cases rv with
  |cons ra rv=>cases rv with
   |cons rb rv=>cases rv;exact⟨_,_,rfl,ra,rb⟩
 obtain⟨t,rfl⟩:=r1;obtain⟨z,aa,n,r,hl,e⟩:=I.lstM hH;refine qj F.slot_list_insert ⟨_,e,rfl⟩ F.entry_list_insert (F.args_list_insert_3 _ _ _) (AutoListH.list_insert_list_int_val_1 l aa.toArray n 0 t u2 dz (by rw[df];omega)) ⟨e,?_⟩;refine⟨.non,_,I.lset (its':=u2::aa) hH e yv (.cons r2 r) ?_,rfl,q⟩;rw[ff];omega
def jF:XV->List XV->Sto->RX->Prop:=fun x xs S R=>∃k,x=.l k/\∃ds,S[k]?=some ds/\∃d,xs=[.d (.int 0),.d d]/\ds.length<1000/\R (.d .none) (S.set k (d::ds))
theorem HS:RM yE jF:=fun h o H S x v xs vs R Q hs hx y q c=>by
 obtain⟨k,rfl,ds,e,d,rfl,hl,q1⟩:=q;obtain⟨a,ea,rfl⟩:=hx;obtain⟨v1,r1,rfl,h1,k1⟩:=y;obtain⟨v2,r2,rfl,h2,k2⟩:=k1;have e3:r2=[]:=k2;subst e3;obtain⟨ws,ew,l⟩:=hs.cont k a ds ea e;rw[aU h1];exact⟨a,ws,v2,rfl,rfl,ew,by rw[l.length];exact small1000 (ko hl),c o _ _ (.d .none) _ (Ex.upd ea) (hs.upd ea (zo.mpr ⟨v2,ws,rfl,h2,l⟩)) xN q1⟩
end
end L2
namespace L2
open PySem PySem.Spec PySem.Calls PyProof.Rows PySem.W
section
variable {prog:fx}{w:io}{A:iz}{R:Result->bq->Prop}{I:Addr}{fp wr:List Addr}{n:Nat}{P:Nat->bn->Prop}{St:Nat->Heap->Prop}
theorem El{kw:List (Str×bn)}(W:Walks prog w A.in1 I fp wr n P St)(kf:Nat->Int){g:Heap}(S:Addr)(nS:S∉fp)
  (turn:∀i x (s:bq) (Q:bn->bq->Prop) (E:bn->bq->Prop),P i x->(∀b o,b∉S::wr->g.get? b=some o->s.heap.get? b=some o)->(∀t tk,Q (.int (kf i) t) { s with toks:=tk })->cw (model prog w) A.in1 (call (.builtin "len") [x]) Q E s):
  ∀(d j i:Nat) (s:bq) (q:bn) (tb:Tok) (c:Nat),n=j+1+d->(∀b o,b∉S::wr->g.get? b=some o->s.heap.get? b=some o)->St (j+1) s.heap->P i q->i<=j->(∀j',j'<=j->kf i<=kf j'/\(j'<i->kf i<kf j')) ->
   s.heap.get? S=some { cls:=.type "list",dict:=none,data:=.seq #[q,.int (kf i) tb] c,slots:=#[] } ->
   (∀i v h' tk,i<n->P i v->(∀j',j'<n->kf i<=kf j'/\(j'<i->kf i<kf j'))->(∀b o,b∉S::wr->s.heap.get? b=some o->h'.get? b=some o)->R (.ok (.ret v)) { s with heap:=h',toks:=tk })->codeAny (model prog w) A (.builtin "min.loop" ⟨[.ref I,.builtin "len",.ref S],kw⟩) R s:=by
 have nw:S∉wr:=fun m=>nS (W.sub _ m);have nm:(toString "min" ++ toString ".loop":String) = "min.loop":=by decide
 intro d;induction d with
 |zero=>
  intro j i s q tb c hd kg st hb af y hS fin;have hj:j+1=n:=yw
  refine rk F.entry_min_loop ?_;rw[Around.under_plainId ki _];show cw _ A.in1 (seqItems? (.ref S) >>= _) _ _ s;refine bo (qm hS rfl ?_);show cw _ A.in1 (tryCatch (pyNext (.ref I)) _ >>= _) _ _ s;refine bo (ou (W.done s _ _ (by rw[<- hj];exact st) fun h1 t1 k1=>?_));have aa:=k1 S _ nw hS;show cw _ A.in1 (updateSeq S (fun _=>#[]) >>= _) _ _ _;refine bo (wpAny_updateSeq aa rfl (bo (wpAny_letGo (cm (fin i q _ t1 yw hb (fun j' ac=>y j' yw) fun b o hn e=>?_)))));rw[qr,not_or]at hn;exact(lv _ _ (kj hn.1)).trans (k1 b o hn.2 e)
 |succ d ih=>
  intro j i s q tb c hd kg st hb af y hS fin;refine rk F.entry_min_loop ?_;rw[Around.under_plainId ki _];show cw _ A.in1 (seqItems? (.ref S) >>= _) _ _ s;refine bo (qm hS rfl ?_);show cw _ A.in1 (tryCatch (pyNext (.ref I)) _ >>= _) _ _ s;refine bo (ou (W.item (j+1) s _ _ yw st fun x h1 t1 hx ab k1=>?_));have aa:=k1 S _ nw hS;have ae:∀b o,b∉S::wr->g.get? b=some o->h1.get? b=some o:=fun b o hn e=>k1 b o (fun m=>hn (cz _ m)) (kg b o hn e);show cw _ A.in1 (tryCatch (holding [x] (call (.builtin "len") [x])) _ >>= _) _ _ _;refine bo (ou (ic (turn (j+1) x _ _ _ hx ae fun t2 ah=>?_)));show cw _ A.in1 (tryCatch (holding [x,.int (kf (j+1)) t2] (richCompare .Lt (.int (kf (j+1)) t2) (.int (kf i) tb) >>= _)) _ >>= _) _ _ _;refine bo (ou (ic (bo (CmpOf.ints_lt (prog:=prog) (w:=w) (A:=A.in1) (P:=fun i v=>∃t,v=.int (kf i) t) kf (fun i v h=>h) (j+1) i _ _ _ _ _ ⟨t2,rfl⟩ ⟨tb,rfl⟩ ?_))));refine bo (ic (lu (bo (wpAny_letGo (cm ?_)))));by_cases hb':kf (j+1)<kf i
  ·simp only[hb',decide_true,if_true];refine bo (wpAny_updateSeq aa rfl (bo (wpAny_letGo ?_)));rw[nm];have keep:∀b o,b∉S::wr->s.heap.get? b=some o->(h1.update S (im fun _=>#[x,.int (kf (j+1)) t2])).get? b=some o:=fun b o hn e=>by
    rw[qr,not_or]at hn;exact(lv _ _ (kj hn.1)).trans (k1 b o hn.2 e)
   refine cm ⟨plainId_quiet ki _,ih (j+1) (j+1) _ x t2 _ yw (fun b o hn e=>keep b o hn (kg b o hn e)) (W.frame _ _ _ ab fun b m o e=>?_) hx (cu _) (fun j' ac=>?_) (get?_update_self _ aa rfl) fun i' v h2 t2 hi hv hh k2=>fin i' v h2 t2 hi hv hh fun b o hn e=>k2 b o hn (keep b o hn e)⟩
   ·exact(lv _ _ (fun z:S=b=>nS (by rw[z];exact m))).trans e
   ·by_cases e:j'=j+1
    ·subst e;exact⟨Int.le_refl _,fun z=>absurd z (nv _)⟩
    ·have ag:=y j' yw;have ai:=ag.1;exact⟨yw,fun _=>by omega⟩
  ·simp only[hb',decide_false,fg,if_false];refine bo (wpAny_letGo ?_);rw[nm];refine cm ⟨plainId_quiet ki _,ih (j+1) i _ q tb c yw ae ab hb yw (fun j' ac=>?_) aa fun i' v h2 t2 hi hv hh k2=>fin i' v h2 t2 hi hv hh fun b o hn e=>k2 b o hn (k1 b o (fun m=>hn (cz _ m)) e)⟩;by_cases e:j'=j+1
   ·subst e;exact⟨yw,fun _=>by omega⟩
   ·exact y j' yw
theorem Jn{kw:List (Str×bn)}(W:Walks prog w A.in1 I fp wr n P St)(kf:Nat->Int)(S:Addr)(nS:S∉fp)(hn:0<n){s:bq}{c:Nat}
  (turn:∀i x (s':bq) (Q:bn->bq->Prop) (E:bn->bq->Prop),P i x->(∀b o,b∉S::wr->s.heap.get? b=some o->s'.heap.get? b=some o)->(∀t tk,Q (.int (kf i) t) { s' with toks:=tk })->cw (model prog w) A.in1 (call (.builtin "len") [x]) Q E s')
  (st:St 0 s.heap) (hS:s.heap.get? S=some { cls:=.type "list",dict:=none,data:=.seq #[] c,slots:=#[] })
  (fin:∀i v h' tk,i<n->P i v->(∀j',j'<n->kf i<=kf j'/\(j'<i->kf i<kf j'))->(∀b o,b∉S::wr->s.heap.get? b=some o->h'.get? b=some o)->R (.ok (.ret v)) { s with heap:=h',toks:=tk }):codeAny (model prog w) A (.builtin "min.loop" ⟨[.ref I,.builtin "len",.ref S],kw⟩) R s:=by
 have nw:S∉wr:=fun m=>nS (W.sub _ m);have nm:(toString "min" ++ toString ".loop":String) = "min.loop":=by decide
 refine rk F.entry_min_loop ?_;rw[Around.under_plainId ki _];show cw _ A.in1 (seqItems? (.ref S) >>= _) _ _ s;refine bo (qm hS rfl ?_);show cw _ A.in1 (tryCatch (pyNext (.ref I)) _ >>= _) _ _ s;refine bo (ou (W.item 0 s _ _ hn st fun x h1 t1 hx aa k1=>?_));have q:=k1 S _ nw hS;have y:∀b o,b∉S::wr->s.heap.get? b=some o->h1.get? b=some o:=fun b o hn e=>k1 b o (fun m=>hn (cz _ m)) e;show cw _ A.in1 (tryCatch (holding [x] (call (.builtin "len") [x])) _ >>= _) _ _ _;refine bo (ou (ic (turn 0 x _ _ _ hx y fun t2 ac=>?_)));show cw _ A.in1 (updateSeq S (fun _=>#[x,.int (kf 0) t2]) >>= _) _ _ _;refine bo (wpAny_updateSeq q rfl ?_);rw[nm];have keep:∀b o,b∉S::wr->s.heap.get? b=some o->(h1.update S (im fun _=>#[x,.int (kf 0) t2])).get? b=some o:=fun b o hn e=>by
  rw[qr,not_or]at hn;exact(lv _ _ (kj hn.1)).trans (k1 b o hn.2 e)
 refine cm ⟨plainId_quiet ki _,El W kf S nS turn (n-1) 0 0 _ x t2 _ yw keep (W.frame _ _ _ aa fun b m o e=>?_) hx (cu _) (fun j' ab=>?_) (get?_update_self _ q rfl) fun i' v h2 t2 hi hv hh k2=>fin i' v h2 t2 hi hv hh fun b o hn e=>k2 b o hn (keep b o hn e)⟩
 ·exact(lv _ _ (fun z:S=b=>nS (by rw[z];exact m))).trans e
 ·have e:j'=0:=yw
  subst e;exact⟨Int.le_refl _,fun z=>absurd z (nv _)⟩
end
section
variable {prog:fx}{w:io}{A:iz}{E:bn->bq->Prop}{s:bq}
theorem ES{l:Addr}{y:Array bn}{dv:bn}{Q:bn->bq->Prop}(hh:A.handled=none)(hl:s.heap.IsList l y)(ab:0<y.size)(kf:Nat->Int)
  (turn:∀i x (s':bq) (Q:bn->bq->Prop) (E:bn->bq->Prop),y[i]?=some x->(∀b o,s.heap.get? b=some o->s'.heap.get? b=some o)->(∀t tk,Q (.int (kf i) t) { s' with toks:=tk })->cw (model prog w) A.in1 (call (.builtin "len") [x]) Q E s')
  (fin:∀i v h' tk,i<y.size->y[i]?=some v->(∀j',j'<y.size->kf i<=kf j'/\(j'<i->kf i<kf j'))->(∀b o,s.heap.get? b=some o->h'.get? b=some o)->Q v { s with heap:=h',toks:=tk }):cw (model prog w) A (call (.builtin "min") [.ref l] [(gx "key",.builtin "len"),(gx "default",dv)]) Q E s:=by
 have nm:(toString "min" ++ toString ".loop":String) = "min.loop":=by decide
 have lt:l<s.heap.objs.size:=by obtain⟨o,e,_⟩:=hl;exact gh e
 refine kmk_tree F.kind_min F.plain_min F.entry_min (B9 _ _ _) ?_;show cw _ A.in1 (Builtin.Builtins.bindParams "min" ["key","default"] 0 ⟨[],[(gx "key",.builtin "len"),(gx "default",dv)]⟩ >>= _) _ _ s;refine bo (wpAny_of_eq (show Builtin.Builtins.bindParams "min" ["key","default"] 0 ⟨[],[(gx "key",.builtin "len"),(gx "default",dv)]⟩=pure [some (.builtin "len"),some dv]from rfl) (bo (cm (bo (jy hl ?_)))));refine bo (jz ?_);rw[nm];have z1:(s.heap.push { cls:=.type "list_iterator",data:=.fields #[.ref l,.int 0 0] }).objs.size=s.heap.objs.size+1:=size_push ..;have nS:(s.heap.push { cls:=.type "list_iterator",data:=.fields #[.ref l,.int 0 0] }).objs.size∉[s.heap.objs.size,l]:=by
  rw[z1];simp only[qr,rz,or_false,not_or];exact⟨succ_ne_self _,ne_of_gt (qx lt)⟩
 have up:∀b o,s.heap.get? b=some o->((s.heap.push { cls:=.type "list_iterator",data:=.fields #[.ref l,.int 0 0] }).push { cls:=.type "list",data:=.seq #[] }).get? b=some o:=fun b o e=>bw _ (bw _ e);have aa:∀b o,s.heap.get? b=some o->b∉(s.heap.push { cls:=.type "list_iterator",data:=.fields #[.ref l,.int 0 0] }).objs.size :: [s.heap.objs.size]:=fun b o e=>by
  rw[z1];simp only[qr,rz,or_false,not_or];have:=gh e;exact⟨ik (qx this),ik this⟩
 refine cm ⟨plainId_quiet ki _,Jn (Walks.list (A:=A.in1) hh _ l (ik lt) y) kf _ nS ab (fun i x s' Q' E' hx k q=>turn i x s' Q' E' hx (fun b o e=>k b o (aa b o e) (up b o e)) q) ?_ (fj _ rfl) fun i v h' tk hi hv hh k=>fin i v h' tk hi hv hh fun b o e=>k b o (aa b o e) (up b o e)⟩;exact⟨⟨_,bw _ (fj _ rfl),rfl,rfl⟩,(hl.push _).push _⟩
theorem HP{l:Addr}{dv:bn}{Q:bn->bq->Prop}(hh:A.handled=none)(hl:s.heap.IsList l #[])
  (fin:∀h' tk,(∀b o,s.heap.get? b=some o->h'.get? b=some o)->Q dv { s with heap:=h',toks:=tk }):cw (model prog w) A (call (.builtin "min") [.ref l] [(gx "key",.builtin "len"),(gx "default",dv)]) Q E s:=by
 have nm:(toString "min" ++ toString ".loop":String) = "min.loop":=by decide
 have lt:l<s.heap.objs.size:=by obtain⟨o,e,_⟩:=hl;exact gh e
 refine kmk_tree F.kind_min F.plain_min F.entry_min (B9 _ _ _) ?_;show cw _ A.in1 (Builtin.Builtins.bindParams "min" ["key","default"] 0 ⟨[],[(gx "key",.builtin "len"),(gx "default",dv)]⟩ >>= _) _ _ s;refine bo (wpAny_of_eq (show Builtin.Builtins.bindParams "min" ["key","default"] 0 ⟨[],[(gx "key",.builtin "len"),(gx "default",dv)]⟩=pure [some (.builtin "len"),some dv]from rfl) (bo (cm (bo (jy hl ?_)))));refine bo (jz ?_);rw[nm];have z1:(s.heap.push { cls:=.type "list_iterator",data:=.fields #[.ref l,.int 0 0] }).objs.size=s.heap.objs.size+1:=size_push ..;refine cm ⟨plainId_quiet ki _,?_⟩;refine rk F.entry_min_loop ?_;rw[Around.under_plainId ki _];show cw _ A.in1 (seqItems? (.ref _) >>= _) _ _ _;refine bo (qm (fj _ rfl) rfl ?_);show cw _ A.in1 (tryCatch (pyNext (.ref _)) _ >>= _) _ _ _;refine bo (ou ((Walks.list (prog:=prog) (w:=w) (A:=A.in1) hh s.heap.objs.size l (ik lt) #[]).done _ _ _ ⟨⟨_,bw _ (fj _ rfl),rfl,rfl⟩,(hl.push _).push _⟩ fun h1 t1 k1=>?_));refine bo (on (cm ?_));exact fin h1 t1 fun b o e=>k1 b o (fun m=>absurd (mem_singleton.mp m▸gh e) (nv _)) (bw _ (bw _ e))
end
section
variable {X:Cx}
def IsLn(H:Hp)(v:V)(n:Nat):Prop:=∃a ws,v=.ref a/\H a=some (.lst ws)/\ws.length=n
def sV(K:cy):List V->Hp->VK->Prop:=fun xs H Q=>∃(p:Addr) (vs:List V) (ns:List Nat),xs=[.ref p]/\SqL K H p vs/\Paired (IsLn H) vs ns/\(vs=[]->Q .non H) /\
 ∀(i:Nat) v n,vs[i]?=some v->ns[i]?=some n->(∀j m,ns[j]?=some m->n<=m/\(j<i->n<m))->Q v H
theorem Ee(hc:X.calm=true){ze:List (Addr×Obj)}{s:bq}{σ:St}{H:Hp}{xs:List V}{us:List bn}{Q:VK}{E:bn->bq->Prop}(I:Inv X ze σ H s)(r:Vals xs us)(h:sV X.K xs H Q):cw (model X.prog X.w) X.A (call (.builtin "min") us [(gx "key",.builtin "len"),(gx "default",.none)]) (EP X ze σ Q) E s:=by
 obtain⟨p,vs,ns,rfl,hq,pr,q0,q⟩:=h;obtain⟨u,rfl,rx⟩:=vals1 r;cases (show u=gm p from rx);obtain⟨y,rv,pl,_⟩:=I.list hq;have hl:=rv.length;have ag:=Paired.length pr;cases hv:vs with
 |nil=>
  subst hv;have hi:y=[]:=by cases rv;rfl
  subst hi;exact HP (I.ok.hd hc) pl.isList fun h' tk k=>⟨.non,H,I.kept (t':=tk) k,rfl,q0 rfl⟩
 |cons v0 vr=>
  have ac:vs≠[]:=by rw[hv];simp
  have hsz:0<y.toArray.size:=by
   rw[df,<- hl];exact List.length_pos_iff.mpr ac
  have aa:∀(i:Nat) x,y.toArray[i]?=some x->∃(v:V) (n:Nat),vs[i]?=some v/\ns[i]?=some n/\RelV v x/\IsLn H v n:=fun i x hx=>by
   have hi:i<y.length:=by
    have:=(Array.getElem?_eq_some_iff.mp hx).1;simpa using this
   have e1:vs[i]?=some vs[i]:=ca yw;have e2:ns[i]?=some ns[i]:=ca yw;obtain⟨x',ab,rr⟩:=rv.get e1;have:x=x':=by
    have h2:y[i]?=some x:=by simpa using hx
    rw[ab]at h2;exact(gz h2).symm
   subst this;exact⟨_,_,e1,e2,rr,Kh pr e1 e2⟩
  have gd:∀{i n:Nat},ns[i]?=some n->ns.getD i 0=n:=fun {i n} e=>by rw[dw,e];rfl
  refine ES (I.ok.hd hc) pl.isList hsz (fun i=>(ns.getD i 0:Nat)) (fun i x s' Q' E' hx k q'=>?_) fun i v h' tk hi hv hh k=>?_
  ·obtain⟨v1,n1,_,f1,r1,a1,ws,rfl,e1,el⟩:=aa i x hx;cases r1;obtain⟨hz,ae,m1,w1,c1⟩:=(show ObjOk X.prog X.w H s.heap a1 (.lst _)from I.hok a1 _ e1);have hw:=w1.length;have ah:cx=16777216:=jp;refine Calls.call_len_list (items:=ae.toArray) ⟨_,k _ _ c1,rfl,_,rfl⟩ (by rw[df];omega) ?_;have:=q' (s'.toks+1) (s'.toks+1+1);rw[gd f1]at this;rw[df,<- hw,el];exact this
  ·obtain⟨v1,n1,e1,f1,r1,_⟩:=aa i v hv;refine⟨v1,H,I.kept (t':=tk) k,r1,q _ v1 n1 e1 f1 fun j m hj=>?_⟩;have af:=(List.getElem?_eq_some_iff.mp hj).1;have:=hh j (by rw[df];omega);rw[gd f1,gd hj]at this;exact⟨yw,fun z=>by have:=this.2 z;omega⟩
theorem Gx{e:Expr}{ta:TA}{p p' pos kp y cp:Pos}{cj:Nat}(hc:X.calm=true)(hg:Gl X "min")(hm:X.mg "min" = none)(q:Gl X "len")(aa:X.mg "len" = none)(ha:PA X [e] ta)
  (he:ky pos (fq [e] X.env)=(false,eval e X.env)::ky pos (fq [] X.env):=by rfl) (hpl:(ky pos (fq [e] X.env)).any (·.1)=false:=by rfl):
  PE X (.Call (.Name "min" p) [e] [⟨some "key",.Name "len" p',kp⟩,⟨some "default",.Constant .none cj cp,y⟩] pos) (tCB (sV X.K) ta):=by
 intro ze s σ H Q I h;refine ng (eO I hg hm C7 ?_ dz dz);refine PyProof.Rows.callWith_kw (thn (ha pos ze s σ H _ I h) fun us s1 ⟨vs,H1,I1,r1,q1⟩=>?_) he hpl rfl rfl;refine PyProof.Rows.kws_cons (eO I1 q aa aX (PyProof.Rows.kws_cons (Constant_none (PyProof.Rows.kws_nil ?_))) dz dz);exact Ee hc I1 r1 q1
def i6:List XV->Sto->RX->Prop:=fun xs S R=>arg1 xs fun x=>∃ds,eX S x=some ds/\∃lss:List (List bp),ds=lss.map sj/\(lss=[]->R (.d .none) S) /\
 ∀(i:Nat) l,lss[i]?=some l->(∀(j:Nat) m,lss[j]?=some m->l.length<=m.length/\(j<i->l.length<m.length))->R (.d (.list l)) S
theorem KW{K:cy}:RC (sV K) i6:=fun h o H S xs vs R Q hs hx q c=>by
 obtain⟨x,rfl,ds,hd,y,rfl,q0,q1⟩:=bT q;obtain⟨v,rfl,aa⟩:=hxs1 hx;obtain⟨a,ws,rfl,ea,l⟩:=cB hs hd aa;have hl:=l.length;refine⟨a,ws,y.map rp,rfl,.of ea,?_,fun z=>?_,fun i v n e1 e2 hm=>?_⟩
 ·have go:∀{y:List (List bp)}{ws:List V},HasL (vx h o H) (y.map sj) ws->Paired (IsLn H) ws (y.map rp):=by
   intro y;induction y with
   |nil=>intro ws l;rw[zz.mp l];exact .nil
   |cons n nss ih=>
    intro ws l;obtain⟨v,r,rfl,h1,l2⟩:=zo.mp l;obtain⟨b,us,rfl,eb,lb⟩:=bU.mp h1;exact .cons ⟨b,us,rfl,zG _ _ eb,lb.length⟩ (ih l2)
  exact go l
 ·subst z;rw[dh]at hl;exact c o H S (.d .none) _ Ex.refl hs xN (q0 (ie hl.symm))
 ·rw[gg]at e2;obtain⟨m,e3,rfl⟩:=map_eq_some_iff.mp e2;obtain⟨v',ev,hv⟩:=l.get (show (y.map sj)[i]?=some (.list m) by rw[gg,e3];rfl);rw[e1]at ev;cases ev;exact c o H S (.d (.list m)) v Ex.refl hs hv (q1 i m e3 fun j k hj=>hm j _ (by rw[gg,hj];rfl))
end
end L2
namespace L2
open PySem PySem.Spec PyProof.Rows
section
def OkW(S:Sto)(d:bp):Prop:=iA d=true\/∃ns:List Int,d=.list (ns.map cf)/\ns.map cf∉S
def pX(S:Sto)(R:RX):RX:=fun y S'=>match y,S' with
 | .d d,[]=>OkW S d/\R (.d d) S
 |_,_=>False
theorem lN{S:Sto}{R:RX}{d:bp}:pX S R (.d d) []=(OkW S d/\R (.d d) S):=rfl
theorem Gq{H:Hp}:∀{d:bp}{i:Int},Has H d (.int i)->d=.int i
 | .none,i,h=>by cases iC.mp h
 | .bool b,i,h=>by cases gB.mp h
 | .int j,i,h=>by cases cQ.mp h;rfl
 | .str z,i,h=>by cases fN.mp h
 | .list ds,i,h=>by obtain⟨a,vs,e,_⟩:=bU.mp h;cases e
 | .tuple ds,i,h=>by obtain⟨a,vs,e,_⟩:=zL.mp h;cases e
 | .dict ds,i,h=>by obtain⟨a,vs,e,_⟩:=pP.mp h;cases e
theorem AC{H:Hp}:∀{ns:List Int}{ds:List bp},HasL H ds (ns.map V.int)->ds=ns.map cf
 | [],ds,l=>by
  cases ds with
  |nil=>rfl
  |cons d ds=>obtain⟨v,r,e,_⟩:=zo.mp l;cases e
 |n::ns,ds,l=>by
  cases ds with
  |nil=>have:=zz.mp l;cases this
  |cons d ds=>
   obtain⟨v,r,e,hv,l2⟩:=zo.mp l;cases e;rw[Gq hv,AC l2];rfl
theorem cnW{h o:List Addr}{H:Hp}{S:Sto}{R:RX}{Q:VK}(hs:RepS h o H S)(c:Cn h o H R Q):Cn h [] H (pX S R) Q:=fun o' H' S' y v e s' hy q=>by
 unfold pX at q;split at q
 ·rename_i d;have sH:Same H H':=fun b u eb=>(e.kp b u yv eb).2;have e0:o'=[]:=ie s'.len.symm;subst e0;have aa:=hs.same sH;obtain⟨q1,q2⟩:=q;rcases q1 with q1|⟨ns,rfl,nS⟩
  ·refine c o H' S (.d d) v (Ex.of_same sH) aa (vK (zG (h:=h) (o:=[])) (fun b m=>?_) d v q1 hy) q2;exact m.elim (aa.hal b) (aa.oam b)
  ·obtain⟨a,vs,rfl,ea,l⟩:=bU.mp (show Has (vx h [] H') (.list (ns.map cf)) v from hy);have ev:=kL l;subst ev;obtain⟨z1,_,z3⟩:=zC.mp ea;have na:a∉o:=fun ma=>by
    obtain⟨k,hk,ek⟩:=List.mem_iff_getElem.mp ma;have e1:o[k]?=some a:=by rw[ca hk,ek]
    have ab:k<S.length:=by rw[aa.len];exact hk
    obtain⟨ws,e2,l2⟩:=aa.cont k a S[k] e1 (ca ab);rw[z3]at e2;cases e2;have:=AC l2;exact nS (this▸getElem_mem ab)
   exact c o H' S (.d (.list (ns.map cf))) _ (Ex.of_same sH) aa (bU.mpr ⟨a,_,rfl,zC.mpr ⟨z1,na,z3⟩,lQ ns⟩) q2
 ·exact q.elim
def iF(m:Nat)(q:PN)(da:DA):DE:=fun δ S R=>da δ S fun xs S1=>∃ds,views S1 xs=some ds/\ds.length=m/\q (ds.map XV.d) [] (pX S1 R)
theorem Gu{ps:List Str}{q:PN}{m:Nat}{t:TA}{da:DA}(ha:RA t da)(hm:ps.length=m:=by rfl):RE (fR (spN ps q) [] E0 t) (iF m q da):=fun h o H δ σ S R Q he hs w c=>
 ha h o H δ σ S _ _ he hs w fun o1 H1 S1 xs vs e1 s1 x1 ⟨ds,e,hl,d1⟩=>by
  obtain⟨z1,z2⟩:=uL s1 e x1;rw[kc];exact⟨by rw[z2,hl,hm],h,[],[],_,_,BV s1,z1,d1,cnW s1 (c.pre e1)⟩
end
end L2
namespace My
open PySem L2
def qA:PN:=fun xs S R=>(aB (fG (dCB d8 (zc (zh 0) (zc (dO (.ty "int")) zq))) (gO (dCB d8 (zc (zh 0) (zc (dO (.ty "bool")) zq)))))) (aJ S.length R) (xs.map some++bu 0 none) S
def pI:PN:=fun xs S R=>(aA (aC (dOp (dI (fun _ j=>0<j) fun i j=>i % j) (dOp aP (zh 0) (dC (.int 7919))) (dC (.int 2147483647))) (zl 0)) (aB (dOp (dI (fun _ j=>0<j) fun i j=>i % j) (dOp aP (dOp aP (dOp bJ (zh 0) (zh 0)) (dOp bJ (dC (.int 48271)) (zh 0))) (dC (.int 12345))) (dC (.int 2147483629))))) (aJ S.length R) (xs.map some++bu 0 none) S
def AK:PN:=fun xs S R=>(aA (aC (dCB (dI2 fun i j=>if j>i then j else i) (zc (zh 0) (zc (dOp (dI0 fun i j=>i-j) (dC (.int 0)) (zh 0)) zq))) (zl 1)) (aB (cW (zc (zh 1) (zc (dCB h9 (zc (dOp (dIb fun i j=>decide (j<=i)) (zh 1) (dOp (dI CPow fun i j=>i ^ j.toNat) (dC (.int 10)) (dC (.int 18)))) zq)) (zc (dOp (dI (fun _ j=>0<j) fun i j=>i % j) (zh 1) (dC (.int 1000003))) zq)))))) (aJ S.length R) (xs.map some++bu 1 none) S
def pN:PN:=fun xs S R=>(aB (fG (dCB d8 (zc (zh 0) (zc (dO (.ty "int")) zq))) (gO (dCB d8 (zc (zh 0) (zc (dO (.ty "bool")) zq)))))) (aJ S.length R) (xs.map some++bu 0 none) S
def zy:PN:=fun xs S R=>(aA (aN (dB (dOp cM (dOp dIx (zh 0) (dC (.int 1))) (dC (.int 1)))) (aA (aC (dOp (dI (fun _ j=>0<j) fun i j=>i % j) (dOp dIx (zh 0) (dC (.int 0))) (zh 1)) (zl 2)) (aA (aC (dOp dFd (dOp dIx (zh 0) (dC (.int 0))) (zh 1)) (gD (zh 0) (dC (.int 0)))) (aB (zh 2)))) aK) (aA (aC (aG 1 pI (zc (dOp aP (aG 1 pI (zc (dOp dIx (zh 0) (dC (.int 2))) zq)) (dC (.int 7))) zq)) (gD (zh 0) (dC (.int 2)))) (aB (dOp (dI (fun _ j=>0<j) fun i j=>i % j) (dOp dFd (dOp dIx (zh 0) (dC (.int 2))) (dC (.int 64))) (zh 1))))) (aJ S.length R) (xs.map some++bu 1 none) S
def qT:PN:=fun xs S R=>(aA (aC (aR 0 2 zy (zc (zh 0) (zc (dC (.int 8)) zq))) (zl 1)) (aA (aN (dB (dOp (dIb fun i j=>decide (i<j)) (zh 1) (dC (.int 5)))) (aB (dOp (dI0 fun i j=>i-j) (aR 0 2 zy (zc (zh 0) (zc (dC (.int 13)) zq))) (dC (.int 6)))) aK) (aA (aN (dB (dOp (dIb fun i j=>decide (i<j)) (zh 1) (dC (.int 7)))) (aB (dOp (dI0 fun i j=>i-j) (aR 0 2 zy (zc (zh 0) (zc (dC (.int 2001)) zq))) (dC (.int 1000)))) aK) (aB (dOp bJ (dOp (dI0 fun i j=>i-j) (aR 0 2 zy (zc (zh 0) (zc (dOp bJ (dC (.int 2)) (dOp (dI CPow fun i j=>i ^ j.toNat) (dC (.int 10)) (dC (.int 30)))) zq))) (dOp (dI CPow fun i j=>i ^ j.toNat) (dC (.int 10)) (dC (.int 30)))) (dOp (dI CPow fun i j=>i ^ j.toNat) (dC (.int 10)) (dC (.int 28)))))))) (aJ S.length R) (xs.map some++bu 1 none) S
def yB:PN:=fun xs S R=>(aA (aC (aR 0 2 zy (zc (zh 0) (zc (dC (.int 8)) zq))) (zl 1)) (aA (aN (dB (dOp (dIb fun i j=>decide (i<j)) (zh 1) (dC (.int 5)))) (aB (dOp (dI0 fun i j=>i-j) (aR 0 2 zy (zc (zh 0) (zc (dC (.int 13)) zq))) (dC (.int 6)))) aK) (aA (aN (dB (dOp (dIb fun i j=>decide (i<j)) (zh 1) (dC (.int 7)))) (aB (dOp (dI0 fun i j=>i-j) (aR 0 2 zy (zc (zh 0) (zc (dC (.int 2001)) zq))) (dC (.int 1000)))) aK) (aB (dOp bJ (dOp (dI0 fun i j=>i-j) (aR 0 2 zy (zc (zh 0) (zc (dOp bJ (dC (.int 2)) (dOp (dI CPow fun i j=>i ^ j.toNat) (dC (.int 10)) (dC (.int 30)))) zq))) (dOp (dI CPow fun i j=>i ^ j.toNat) (dC (.int 10)) (dC (.int 30)))) (dOp (dI CPow fun i j=>i ^ j.toNat) (dC (.int 10)) (dC (.int 28)))))))) (aJ S.length R) (xs.map some++bu 1 none) S
def tL:PN:=fun xs S R=>(aA (aC (dCB (dI2 fun i j=>if j>i then j else i) (zc (zh 0) (zc (dOp (dI0 fun i j=>i-j) (dC (.int 0)) (zh 0)) zq))) (zl 1)) (aB (cW (zc (zh 1) (zc (dCB h9 (zc (dOp (dIb fun i j=>decide (j<=i)) (zh 1) (dOp (dI CPow fun i j=>i ^ j.toNat) (dC (.int 10)) (dC (.int 18)))) zq)) (zc (dOp (dI (fun _ j=>0<j) fun i j=>i % j) (zh 1) (dC (.int 1000003))) zq)))))) (aJ S.length R) (xs.map some++bu 1 none) S
def rX:PN:=fun xs S R=>(aB (dCB fO (zc (bA [none,none,some 1] (aW (dOp dIx (zh 0) (dC (.int 0)))) (bB 2 (zM (zl 0) (zM (zl 1) bF))) aL (dOp bJ (zh 1) (dOp dIx (zh 2) (zh 0)))) zq))) (aJ S.length R) (xs.map some++bu 0 none) S
def rM:PN:=fun xs S R=>(aB (gS (dIb fun i j=>decide (i<=j)) (dIb fun i j=>decide (i<=j)) (dOp dIx (zh 0) (dC (.int 1))) (aG 2 rX (zc (zh 0) (zc (zh 1) zq))) (dOp dIx (zh 0) (dC (.int 2))))) (aJ S.length R) (xs.map some++bu 0 none) S
def qL:PN:=fun xs S R=>(aA (aC (zh 0) (bB 3 (zM (zl 3) (zM (zl 4) (zM (zl 5) bF))))) (aB (gS (dIb fun i j=>decide (i<=j)) (dIb fun i j=>decide (i<=j)) (zh 4) (dOp aP (dOp bJ (dOp dIx (dOp dIx (zh 3) (dC (.int 0))) (dC (.int 1))) (zh 1)) (dOp bJ (dOp dIx (dOp dIx (zh 3) (dC (.int 1))) (dC (.int 1))) (zh 2))) (zh 5)))) (aJ S.length R) (xs.map some++bu 3 none) S
def pW:PN:=fun xs S R=>(aB (fV [none,none,some 0,some 1] (dX (zc (zh 2) zq)) (bB 2 (zM (zl 0) (zM (zl 1) bF))) (bG (aG 2 rM (zc (zh 2) (zc (aM (zc (zh 3) (zc (zh 1) zq))) zq)))) (zh 0))) (aJ S.length R) (xs.map some++bu 0 none) S
def lK:PN:=fun xs S R=>(aA (aC (aR 0 2 zy (zc (zh 0) (zc (dOp aP (zh 1) (dC (.int 1))) zq))) (zl 4)) (aA (aN (dB (dOp cM (aR 0 2 zy (zc (zh 0) (zc (dC (.int 8)) zq))) (dC (.int 0)))) (aB (dOp iP (aM (zc (zh 2) zq)) (zh 4))) aK) (aB (dCB fY (zc (bA [none,some 2,some 0,some 3] (fI (zc (zh 4) zq)) (zl 0) aL (dOp aP (zh 1) (aR 0 2 zy (zc (zh 2) (zc (zh 3) zq))))) zq))))) (aJ S.length R) (xs.map some++bu 1 none) S
def oC:PN:=fun xs S R=>(aB (fV [none,some 0,some 2] (aW (zh 1)) (zl 0) aL (aG 3 pW (zc (zh 1) (zc (zh 0) (zc (zh 2) zq)))))) (aJ S.length R) (xs.map some++bu 0 none) S
def pL:PN:=fun xs S R=>(aA (aC (cU (zc (aR 0 1 qT (zc (zh 0) zq)) (zc (aR 0 1 qT (zc (zh 0) zq)) zq))) (zl 2)) (aA (aC (dOp dIx (cU (zc (dC (.int 1)) (zc (dC (.int 3)) (zc (dC (.int 8)) (zc (dC (.int 40)) zq))))) (aR 0 2 zy (zc (zh 0) (zc (dC (.int 4)) zq)))) (zl 3)) (aA (aC (bA [none,some 0] (fI (zc (dC (.int 2)) zq)) (zl 0) aL (dOp dIx (cU (zc (dC (.int 1)) (zc (dUn (dUI fun i=>-i) (dC (.int 1))) (zc (dC (.int 2)) (zc (dUn (dUI fun i=>-i) (dC (.int 2))) (zc (dC (.int 3)) (zc (dUn (dUI fun i=>-i) (dC (.int 3))) zq))))))) (aR 0 2 zy (zc (zh 1) (zc (dC (.int 6)) zq))))) (jA 2 (zM (zl 4) (zM (zl 5) bF)))) (aA (aC (dOp bJ (zh 3) (dOp aP (dCB gE (zc (zh 4) zq)) (dCB gE (zc (zh 5) zq)))) (zl 6)) (aA (aC (dOp (dI0 fun i j=>i-j) (dOp aP (dOp aP (dOp bJ (zh 4) (dOp dIx (zh 2) (dC (.int 0)))) (dOp bJ (zh 5) (dOp dIx (zh 2) (dC (.int 1))))) (aR 0 2 zy (zc (zh 0) (zc (dOp aP (dOp bJ (dC (.int 2)) (zh 6)) (dC (.int 1))) zq)))) (zh 6)) (zl 7)) (aA (aC (dOp aP (zh 7) (dOp dIx (cU (zc (dC (.int 0)) (zc (dC (.int 1)) (zc (dC (.int 2)) (zc (zh 3) (zc (zh 6) (zc (dOp bJ (dC (.int 3)) (zh 3)) zq))))))) (aR 0 2 zy (zc (zh 0) (zc (dC (.int 6)) zq))))) (zl 8)) (aA (aC (aR 0 4 lK (zc (zh 0) (zc (zh 1) (zc (dOp dIx (zh 2) (dC (.int 0))) (zc (zh 3) zq))))) (zl 9)) (aB (aM (zc (aM (zc (aM (zc (aM (zc (dC (.int 0)) (zc (zh 4) zq))) (zc (aM (zc (dC (.int 1)) (zc (zh 5) zq))) zq))) (zc (zh 7) (zc (zh 8) zq)))) (zc (zh 9) (zc (aR 0 4 lK (zc (zh 0) (zc (zh 1) (zc (dOp dIx (zh 2) (dC (.int 1))) (zc (zh 3) zq))))) zq)))))))))))) (aJ S.length R) (xs.map some++bu 8 none) S
def sF:PN:=fun xs S R=>(aA (aC (cW zq) (zl 3)) (aA (cK (dX (zc (aG 3 oC (zc (zh 0) (zc (zh 1) (zc (zh 2) zq)))) zq)) (bB 2 (zM (zl 4) (zM (zl 5) bF))) (d7 (dBM gP (zh 3) (zc (bA [none,some 4] (aW (zh 5)) (zl 0) aL (aM (zc (zh 1) (zc (zh 0) zq)))) zq)))) (aB (zh 3)))) (aJ S.length R) (xs.map some++bu 3 none) S
def rG:PN:=fun xs S R=>(aB (dOp cM (dCB aS (zc (aG 3 sF (zc (zh 0) (zc (zh 1) (zc (zh 2) zq)))) zq)) (dOp bJ (dCB aS (zc (zh 1) zq)) (dCB aS (zc (zh 2) zq))))) (aJ S.length R) (xs.map some++bu 0 none) S
def jV:PN:=fun xs S R=>(aB (fV [none,some 1] (aW (zh 0)) (zl 0) (dB (dOp sJ (zh 0) (zh 1))) (zh 0))) (aJ S.length R) (xs.map some++bu 0 none) S
def iL:Nat->PNm
 | 0=>fun _ _ _ _=>False
 |n+1=>fun xs S M R=>(eK (g9 (fun M=>(aW (dOp dIx (zh 0) (zh 1)))) (zl 4) (eK (gR (fun M=>(dB (dOp (eW M false) (zh 4) (zh 3)))) (cJ hV) (cJ aK)) (eK (fA 3 (fun M=>(zh 4)) (fun M=>(dC (.bool true)))) (iB (gU (dmT (fun M=>(dB (dOp (eW M true) (zh 4) (zh 2))))) (gG 4 (iL n) (fun M=>(zc (zh 0) (zc (gM M (zh 2) (zh 4)) (zc (zh 2) (zc (zh 3) zq))))))) (eK (fA 2 (fun M=>(zh 4)) (fun M=>(zh 1))) (cJ (aB (dC (.bool true))))) (cJ aK))))) (cJ (aB (dC (.bool false))))) (qJ R) (xs.map some++bu 1 none) S M
def pO:PNm:=iL 12
def kB:PN:=fun xs S R=>(aA (gT (gF true 1 (.k []) (g9 (fun M=>(fI (zc (dCB aS (zc (zh 0) zq)) zq))) (zl 2) (i8 pO (fun M=>(zh 0)) (fun M=>(zh 2)) (fun M=>(zh 1)))))) (aB (zh 1))) (aJ S.length R) (xs.map some++bu 2 none) S
def rH:PN:=fun xs S R=>(aA (cK (aW (aG 2 jV (zc (dOp dIx (zh 0) (zh 1)) (zc (zh 2) zq)))) (zl 4) (aA (aC (bA [none,some 2,some 4] (aW (dSl fX (zh 0) (bY (dOp aP (zh 1) (dC (.int 1)))) fB)) (zl 0) aL (aG 2 jV (zc (zh 0) (zc (dOp aP (zh 1) (cU (zc (zh 2) zq))) zq)))) (zl 5)) (aN (dB (dOp cM (dCB f7 (zc (aG 1 kB (zc (zh 5) zq)) zq)) (zh 3))) (aB (zh 4)) aK))) (aB (dC .none))) (aJ S.length R) (xs.map some++bu 2 none) S
def rT:PN:=fun xs S R=>(aA (aC (aG 3 oC (zc (zh 0) (zc (zh 1) (zc (zh 2) zq)))) (zl 3)) (aA (aC (dCB f7 (zc (aG 1 kB (zc (zh 3) zq)) zq)) (zl 4)) (aA (aC (cW zq) (zl 5)) (aA (aC (cW zq) (zl 6)) (aA (cK (fI (zc (dCB aS (zc (zh 3) zq)) zq)) (zl 7) (aA (aC (iZ 4 rH (zc (zh 3) (zc (zh 7) (zc (zh 6) (zc (dOp (dI0 fun i j=>i-j) (dOp (dI0 fun i j=>i-j) (zh 4) (dCB aS (zc (zh 5) zq))) (dC (.int 1))) zq))))) (zl 8)) (aN (dB (dOp fW (zh 8) (dC .none))) (aA (d7 (dBM fM (zh 5) (zc (aM (zc (zh 7) (zc (zh 8) zq))) zq))) (d7 (dBM fM (zh 6) (zc (zh 8) zq)))) aK))) (aB (zh 5))))))) (aJ S.length R) (xs.map some++bu 6 none) S
def zX:PN:=fun xs S R=>(aB (dOp cM (dCB aS (zc (bA [none,none] (aW (zh 0)) (bB 2 (zM (zl 0) (zM (zl 1) bF))) (dB (dOp (dIb fun i j=>decide (i<j)) (zh 1) (dC (.int 0)))) (zh 1)) zq)) (dC (.int 1)))) (aJ S.length R) (xs.map some++bu 0 none) S
def pK:PN:=fun xs S R=>(aA (aC (bA [none,none] (aW (dCB fJ (zc (bA [none,none] (dX (zc (zh 1) zq)) (bB 2 (zM (zl 0) (zM (zl 1) bF))) aL (aM (zc (zh 1) (zc (zh 0) zq)))) zq))) (bB 2 (zM (zl 0) (zM (zl 1) bF))) aL (zh 1)) (zl 3)) (aA (aC (dC (.int 1)) (zl 4)) (aA (aN (dB (dOp (dIb fun i j=>decide (j<i)) (dOp bJ (dOp dIx (dOp dIx (dOp dIx (zh 0) (dC (.int 0))) (dC (.int 0))) (dC (.int 1))) (dOp dIx (dOp dIx (dOp dIx (zh 0) (dC (.int 0))) (dC (.int 1))) (dC (.int 1)))) (dC (.int 0)))) (aC (dUn (dUI fun i=>-i) (dC (.int 1))) (zl 4)) aK) (aA (aC (bA [none,none] (aW (dCB fJ (zc (bA [none,none,some 4] (dX (zc (zh 2) zq)) (bB 2 (zM (zl 0) (zM (zl 1) bF))) aL (aM (zc (dOp bJ (zh 2) (zh 1)) (zc (zh 0) zq)))) zq))) (bB 2 (zM (zl 0) (zM (zl 1) bF))) aL (zh 1)) (zl 5)) (aB (aM (zc (zh 3) (zc (zh 5) zq)))))))) (aJ S.length R) (xs.map some++bu 3 none) S
def mH:PN:=fun xs S R=>(aA (aN (dB (dOp eU (dCB aS (zc (zh 1) zq)) (dCB aS (zc (zh 2) zq)))) iX aK) (aA (aN (bG (aG 1 zX (zc (dOp dIx (zh 0) (dC (.int 0))) zq))) (aB (aM (zc (dCB fT (zc (zh 1) zq)) (zc (dCB fT (zc (zh 2) zq)) zq)))) aK) (aB (aM (zc (dCB fT (zc (zh 1) zq)) (zc (dCB iT (zc (zh 2) zq)) zq)))))) (aJ S.length R) (xs.map some++bu 0 none) S
def sD:PN:=fun xs S R=>(aA (aN (dOr (bP (bG (dCB d8 (zc (zh 1) (zc (dO (.ty "list")) zq))))) (bP (bG (dCB fS (zc (bA [none] (aW (zh 1)) (zl 0) aL (fG (aG 1 qA (zc (zh 0) zq)) (dOp (dIb fun i j=>decide (j<=i)) (zh 0) (dC (.int 1))))) zq))))) (aB (dC (.bool false))) aK) (aB (dOp cM (dCB fO (zc (zh 1) zq)) (zh 0)))) (aJ S.length R) (xs.map some++bu 0 none) S
def oA:PN:=fun xs S R=>(aB (aG 3 rG (zc (zh 0) (zc (dSl fX (dOp dIx (zh 1) (dC (.int 0))) (bY (zh 2)) (bY (dOp aP (zh 2) (zh 3)))) (zc (dSl fX (dOp dIx (zh 1) (dC (.int 1))) (bY (zh 2)) (bY (dOp aP (zh 2) (zh 3)))) zq))))) (aJ S.length R) (xs.map some++bu 0 none) S
def pH:PN:=fun xs S R=>(aA (aC (aG 3 mH (zc (zh 0) (zc (zh 1) (zc (zh 2) zq)))) (zl 4)) (aA (aN (bP (bG (aG 2 sD (zc (dCB aS (zc (zh 1) zq)) (zc (zh 3) zq))))) (aB (dC (.bool false))) aK) (aA (aC (dC (.int 0)) (zl 5)) (aA (cK (aW (zh 3)) (zl 6) (aA (aN (bP (bG (aG 4 oA (zc (zh 0) (zc (zh 4) (zc (zh 5) (zc (zh 6) zq))))))) (aB (dC (.bool false))) aK) (aC (dOp aP (zh 5) (zh 6)) (zl 5)))) (aB (dC (.bool true))))))) (aJ S.length R) (xs.map some++bu 3 none) S
def pR:PN:=fun xs S R=>(aA (aC (cW zq) (zl 4)) (aA (cK (jL (zc (zh 3) zq)) (bB 2 (zM (zl 5) (zM (zl 6) bF))) (aN (gL (dB (dOp fW (zh 6) (dC .none))) (bG (aG 4 oA (zc (zh 0) (zc (zh 1) (zc (zh 2) (zc (zh 5) zq))))))) (d7 (dBM fM (zh 4) (zc (dOp aP (cU (zc (zh 5) zq)) (zh 6)) zq))) aK)) (aB (dCB i6 (zc (zh 4) zq))))) (aJ S.length R) (xs.map some++bu 3 none) S
def jH:PN:=fun xs S R=>(aA (aC (aG 3 mH (zc (zh 0) (zc (zh 1) (zc (zh 2) zq)))) (zl 3)) (aA (aC (cW (zc (cU zq) zq)) (zl 4)) (aA (cK (jB (zc (dOp (dI0 fun i j=>i-j) (dCB aS (zc (zh 1) zq)) (dC (.int 1))) (zc (dUn (dUI fun i=>-i) (dC (.int 1))) (zc (dUn (dUI fun i=>-i) (dC (.int 1))) zq)))) (zl 5) (d7 (dBM jF (zh 4) (zc (dC (.int 0)) (zc (iF 4 pR (zc (zh 0) (zc (zh 3) (zc (zh 5) (zc (zh 4) zq))))) zq))))) (aB (dOp dIx (zh 4) (dC (.int 0))))))) (aJ S.length R) (xs.map some++bu 3 none) S
def oF:PN:=fun xs S R=>(aA (cK (aW (dSl fX (dOp dIx (zh 3) (dC (.int 0))) (bY (zh 4)) (bY (dOp aP (zh 4) (zh 5))))) (zl 6) (aN (bP (bG (dCB fS (zc (bA [none,some 0,some 1,some 6,some 2] (aW (dSl fX (dOp dIx (zh 3) (dC (.int 1))) (bY (zh 4)) (bY (dOp aP (zh 4) (zh 5))))) (zl 0) aL (aG 3 qL (zc (zh 1) (zc (dOp dIx (zh 2) (zh 3)) (zc (dOp dIx (zh 4) (zh 0)) zq))))) zq)))) (aB (dC (.bool false))) aK)) (aB (dC (.bool true)))) (aJ S.length R) (xs.map some++bu 1 none) S
def mB:PN:=fun xs S R=>(aA (aC (dC (.int 0)) (zl 5)) (aA (sL (dB (dOp (dIb fun i j=>decide (i<j)) (zh 4) (dCB aS (zc (zh 1) zq)))) (aA (aC (dC (.int 0)) (zl 6)) (aA (sL (gL (dB (dOp (dIb fun i j=>decide (i<j)) (dOp aP (zh 4) (zh 6)) (dCB aS (zc (zh 1) zq)))) (bG (aG 6 oF (zc (zh 0) (zc (zh 1) (zc (zh 2) (zc (zh 3) (zc (zh 4) (zc (dOp aP (zh 6) (dC (.int 1))) zq))))))))) (fK 6 (fun i j=>i+j) (dC (.int 1)))) (aA (aN (dB (dOp cM (zh 6) (dC (.int 0)))) (aB (dC (.int 99))) aK) (aA (aC (dOp aP (zh 4) (zh 6)) (zl 4)) (fK 5 (fun i j=>i+j) (dC (.int 1)))))))) (aB (zh 5)))) (aJ S.length R) (xs.map some++bu 2 none) S
def pZ:PN:=fun xs S R=>(aA (aC (cW zq) (zl 2)) (aA (cK (aW (zh 0)) (zl 3) (aA (aC (aR 0 2 zy (zc (zh 1) (zc (zh 3) zq))) (zl 4)) (d7 (dBM gP (zh 2) (zc (bA [none] (aW (cU (zc (zh 4) (zc (dOp (dI0 fun i j=>i-j) (zh 3) (zh 4)) zq)))) (zl 0) (dB (dOp (dIb fun i j=>decide (j<i)) (zh 0) (dC (.int 0)))) (zh 0)) zq))))) (aB (zh 2)))) (aJ S.length R) (xs.map some++bu 3 none) S
def qM:PN:=fun xs S R=>(aA (aC (aG 3 pK (zc (zh 0) (zc (zh 1) (zc (zh 2) zq)))) (zl 4)) (aA (aN (dOr (bP (bG (dCB d8 (zc (zh 3) (zc (dO (.ty "list")) zq))))) (bP (bG (dCB fS (zc (bA [none] (aW (zh 3)) (zl 0) aL (fG (aG 1 pN (zc (zh 0) zq)) (dOp (dIb fun i j=>decide (j<i)) (zh 0) (dC (.int 0))))) zq))))) (aB (dC (.bool false))) aK) (aA (aN (dOr (dB (dOp eU (dCB fO (zc (zh 3) zq)) (dCB aS (zc (zh 1) zq)))) (dB (dOp eU (aG 5 mB (zc (zh 0) (zc (zh 1) (zc (zh 2) (zc (zh 4) (zc (dC (.int 0)) zq)))))) (dCB aS (zc (zh 3) zq))))) (aB (dC (.bool false))) aK) (aA (aC (dC (.int 0)) (zl 5)) (aA (cK (dX (zc (zh 3) zq)) (bB 2 (zM (zl 6) (zM (zl 7) bF))) (aA (aN (bP (bG (aG 6 oF (zc (zh 0) (zc (zh 1) (zc (zh 2) (zc (zh 4) (zc (zh 5) (zc (zh 7) zq))))))))) (aB (dC (.bool false))) aK) (aA (cK (iY (zc (dC (.int 1)) (zc (zh 7) zq))) (zl 8) (aN (dB (dOp (dIb fun i j=>decide (i<=j)) (aG 5 mB (zc (zh 0) (zc (zh 1) (zc (zh 2) (zc (zh 4) (zc (dOp aP (zh 5) (zh 8)) zq)))))) (dOp (dI0 fun i j=>i-j) (dOp (dI0 fun i j=>i-j) (dCB aS (zc (zh 3) zq)) (zh 6)) (dC (.int 1))))) (aB (dC (.bool false))) aK)) (aC (dOp aP (zh 5) (zh 7)) (zl 5))))) (aB (dOp iR (aG 4 pH (zc (zh 0) (zc (zh 1) (zc (zh 2) (zc (dCB iE (zc (zh 3) zq)) zq))))) (dC (.bool true))))))))) (aJ S.length R) (xs.map some++bu 5 none) S
def zT:PN:=fun xs S R=>(aA (aC (aG 3 jH (zc (zh 0) (zc (zh 1) (zc (zh 2) zq)))) (zl 3)) (aA (aN (dB (dOp (dIb fun i j=>decide (i<j)) (dCB aS (zc (aG 3 rT (zc (zh 0) (zc (zh 1) (zc (zh 2) zq)))) zq)) (dCB aS (zc (zh 1) zq)))) (aB (dOp iW (zh 3) (dC .none))) aK) (aB (aG 4 qM (zc (zh 0) (zc (zh 1) (zc (zh 2) (zc (zh 3) zq)))))))) (aJ S.length R) (xs.map some++bu 1 none) S
def v8:DS:=(aA (aC (aM (zc (aM (zc (aM (zc (dC (.int 0)) (zc (dC (.int 1)) zq))) (zc (aM (zc (dC (.int 1)) (zc (dUn (dUI fun i=>-i) (dC (.int 1))) zq))) zq))) (zc (dC (.int 0)) (zc (dC (.int 1)) zq)))) (zl 1)) (aN (dOr (bP (bG (aG 3 zT (zc (zh 1) (zc (aM zq) (zc (aM zq) zq)))))) (dOr (bP (bG (aG 3 zT (zc (zh 1) (zc (aM (zc (dC (.int 3)) (zc (dC (.int 4)) (zc (dC (.int 9)) zq)))) (zc (aM (zc (dC (.int 3)) (zc (dC (.int 3)) (zc (dC (.int 8)) zq)))) zq)))))) (bP (bG (aG 3 zT (zc (zh 1) (zc (aM (zc (dC (.int 3)) zq)) (zc (aM (zc (dC (.int 4)) zq)) zq)))))))) (aB (dC (.bool false))) aK))
def wK:DS:=(aA (aC (aG 1 tL (zc (zh 2) zq)) (zl 3)) (aA (aC (aR 0 2 pL (zc (zh 3) (zc (dC (.int 10)) zq))) (bB 3 (zM (zl 1) (zM (zl 4) (zM (zl 5) bF))))) (aA (aC (dCB (dI2 fun i j=>if j<i then j else i) (zc (dCB aS (zc (zh 4) zq)) (zc (dCB aS (zc (zh 5) zq)) zq))) (zl 6)) (aA (aC (dSl gY (zh 4) fB (bY (zh 6))) (zl 4)) (aA (aC (dSl gY (zh 5) fB (bY (zh 6))) (zl 5)) (aA (aC (aM (zc (dOp dIx (zh 1) (dC (.int 0))) (zc (dOp (dI0 fun i j=>i-j) (dOp dIx (zh 1) (dC (.int 1))) (aR 0 2 zy (zc (zh 3) (zc (dC (.int 50)) zq)))) (zc (dOp aP (dOp dIx (zh 1) (dC (.int 2))) (aR 0 2 zy (zc (zh 3) (zc (dC (.int 50)) zq)))) zq)))) (zl 7)) (aA (aC (aM (zc (dCB fY (zc (bA [none,none] (aW (dOp dIx (zh 1) (dC (.int 0)))) (bB 2 (zM (zl 0) (zM (zl 1) bF))) aL (aM (zc (zh 0) (zc (dOp (dI0 fun i j=>i-j) (dC (.int 0)) (zh 1)) zq)))) zq)) (zc (dOp (dI0 fun i j=>i-j) (dC (.int 0)) (dOp dIx (zh 1) (dC (.int 2)))) (zc (dOp (dI0 fun i j=>i-j) (dC (.int 0)) (dOp dIx (zh 1) (dC (.int 1)))) zq)))) (zl 8)) (aA (aN (dOr (bP (bG (aG 3 zT (zc (zh 1) (zc (zh 4) (zc (zh 5) zq)))))) (bP (bG (aG 3 zT (zc (zh 7) (zc (zh 4) (zc (zh 5) zq))))))) (aB (dC (.bool false))) aK) (aA (aC (aG 3 jH (zc (zh 1) (zc (zh 4) (zc (zh 5) zq)))) (zl 9)) (aA (aN (dB (dOp eU (aG 3 jH (zc (zh 8) (zc (zh 4) (zc (zh 5) zq)))) (zh 9))) (aB (dC (.bool false))) aK) (aN (dB (dOp fW (zh 9) (dC .none))) (aA (aN (dB (dOp iS (aG 4 pH (zc (zh 1) (zc (zh 4) (zc (zh 5) (zc (aR 1 2 pZ (zc (zh 9) (zc (zh 3) zq))) zq))))) (dC (.bool true)))) (aB (dC (.bool false))) aK) (aN (dB (dOp (dIb fun i j=>decide (j<i)) (dCB aS (zc (aG 3 jH (zc (zh 7) (zc (zh 4) (zc (zh 5) zq)))) zq)) (dCB aS (zc (zh 9) zq)))) (aB (dC (.bool false))) aK)) aK)))))))))))
end My
namespace My
open PySem L2
theorem seq1{t u:DS}{E:DEnds}{δ:XE}{S:Sto}(h:t { E with nx:=u E } δ S):aA t u E δ S:=h
theorem seqm{t u:DSm}{E:DEndsM}{δ:XE}{S:Sto}{M:DM}(h:t { E with nx:=u E } δ S M):eK t u E δ S M:=h
theorem k6(i j:Int):om (.int i) (.int j)=decide (i=j):=rfl
theorem nY(i:Int):gp (.int i)=true:=rfl
theorem oN:("int" ∈ gA)=True:=eq_true dz
theorem k8:("bool" ∈ gA)=True:=eq_true dz
theorem oY:("tuple" ∈ gA)=True:=eq_true dz
theorem o7:("list" ∈ gA)=True:=eq_true dz
end My
namespace My
open PySem L2
local macro_rules|`(tactic|walk_at $s:str)=>do
 let xs<-("aC iF lN iT i6 jF iB gU dmT gG i8 f7 lE m4 m6 l5 jL jB lS all_cons List.all_nil Bool.and_self iP jA o8 oR m9 gT gF cJ gR g9 fA gM eW nO m5 iR iS o9 fJ pA oT fT mC gY zl zh dC dO dOp dUn zq zc dCB aM cU cW dB bP gL dOr fG pE gO dIf gS dI dI0 dIb dUI cM eU iW fW mG pB m8 nA lY oK lM dFd bG nQ fB bY dSl aS nP mU nZ d8 gE h9 dI2 fY iE dBM oU fM gP mS fO fS aG aR iZ lL nE j0 lT mR nU nG mE asL nT mZ nJ l8 mJ oP mK oJ pD l7 lW lU oQ oM oS lZ aB aN d7 aK hV iX fK cK aW nR lR fI iY dX mO bB zM lC k9 oX nF bF gD bA fV aL eI lV gW pC oH mQ mP pG List.replicate map_cons map_nil map_some Option.bind_some Option.bind_none Option.join_some getElem?_cons_zero getElem?_cons_succ set_cons_zero set_cons_succ List.take_succ_cons take_zero List.take_nil length_cons length_nil nil_append cons_append Option.some.injEq exists_eq_left' exists_eq_left List.cons.injEq XV.d.injEq XV.l.injEq XV.o.injEq PyData.int.injEq PyData.list.injEq PyData.tuple.injEq PyData.bool.injEq PyData.str.injEq and_true true_and decide_eq_true_eq Bool.not_true Bool.not_false Bool.false_eq_true Bool.true_eq_false not_true_eq_false not_false_eq_true decide_true decide_false Bool.not_eq_true' gZ decide_eq_false_iff_not Nat.reduceAdd Nat.reduceMul zero_add Nat.reduceLT Nat.reduceLeDiff Nat.reduceEqDiff Int.reduceLT Int.reduceLE Int.reduceNeg Int.reducePow Int.reduceToNat Int.reduceEq Int.reduceAdd Int.reduceSub Int.reduceMul le_refl zero_le length_append length_map k6 nY List.isEmpty_nil List.isEmpty_cons Int.cast_ofNat_Int Int.natCast_zero Int.natCast_one oN k8 oY o7 mI lD nC nK".splitOn " ").toArray.mapM fun n=>`(Lean.Parser.Tactic.simpLemma|$(Lean.mkIdent n.toName):ident)
 match s.getString with
 |"d"=>`(tactic|((try dsimp only[↓reduceIte,$xs,*]);(try simp only[↓reduceIte,$xs,*])))
 |"n"=>`(tactic|(refine seq1 ?_; walk_at "d"))
 |"dX"=>`(tactic|(try simp -implicitDefEqProofs only [↓reduceIte,$xs,*]))
 |"e"=>`(tactic|((try dsimp only[aA,eK,↓reduceIte,$xs,*]);(try simp only[aA,eK,↓reduceIte,$xs,*])))
 |_=>Lean.Macro.throwUnsupported
section
def FitI(F:Nat->Nat->Bool)(b k:Nat):Prop:=∀i j,b<=i->i<b+k->b<=j->j<b+k->F i j=true
theorem FitI.sub{F:Nat->Nat->Bool}{b k b' k':Nat}(h:FitI F b k)(h1:b<=b')(h2:b'+k'<=b+k):FitI F b' k':=fun i j a1 a2 a3 a4=>h i j yw yw yw yw
inductive Gr (F:Nat->Nat->Bool) (n:Nat):Nat->List Nat->Prop
 |nil:Gr F n n []
 |cons {b k l}:1<=k->b+k<=n->FitI F b k->Gr F n (b+k) l->Gr F n b (k::l)
section
variable {F:Nat->Nat->Bool}{n:Nat}
theorem Gr.le{b:Nat}{l:List Nat}(h:Gr F n b l):b<=n:=by
 cases h with
 |nil=>exact cu _
 |cons h1 h2 _ _=>omega
theorem Gr.sum{b:Nat}{l:List Nat}(h:Gr F n b l):b+l.sum=n:=by
 induction h with
 |nil=>simp
 |cons h1 h2 _ _ ih=>rw[sum_cons];omega
theorem Gr.pos{b:Nat}{l:List Nat}(h:Gr F n b l):∀k∈l,1<=k:=by
 induction h with
 |nil=>intro k m;cases m
 |cons h1 h2 _ _ ih=>
  intro k m;rcases mem_cons.mp m with rfl|m
  ·exact h1
  ·exact ih k m
theorem Gr.len{b:Nat}{l:List Nat}(h:Gr F n b l):b+l.length<=n:=by
 induction h with
 |nil=>simp
 |cons h1 h2 _ _ ih=>rw[ff];omega
theorem Gr.suf{b:Nat}{l:List Nat}(h:Gr F n b l):∀b',b<=b'->b'<=n->∃l',Gr F n b' l'/\l'.length<=l.length:=by
 induction h with
 |nil=>intro b' h1 h2;exact⟨[],(by rw[show b'=n from by omega];exact .nil),cu _⟩
 | @cons b k l h1 h2 h3 h4 ih=>
  intro b' a1 a2;by_cases hb:b+k<=b'
  ·obtain⟨l',g,e⟩:=ih b' hb a2;exact⟨l',g,by rw[ff];omega⟩
  ·refine⟨(b+k-b')::l,.cons yw yw (h3.sub a1 yw) (by rw[show b'+(b+k-b')=b+k from by omega];exact h4),yv⟩
theorem Gr.diag{b:Nat}{l:List Nat}(h:Gr F n b l):∀i,b<=i->i<n->F i i=true:=by
 induction h with
 |nil=>intro i h1 h2;omega
 | @cons b k l h1 h2 h3 h4 ih=>
  intro i a1 a2;by_cases hi:i<b+k
  ·exact h3 i i a1 hi a1 hi
  ·exact ih i yw a2
theorem EA:∀(m b:Nat),b+m=n->(∀i,b<=i->i<n->F i i=true)->Gr F n b (bu m 1)
 | 0,b,e,_=>by
  have:b=n:=yw
  subst this;exact .nil
 |m+1,b,e,h=>by
  rw[kq];refine .cons (cu _) yw (fun i j a1 a2 a3 a4=>?_) (EA m (b+1) yw fun i h1 h2=>h i yw h2);have e1:i=b:=yw
  have e2:j=b:=yw
  subst e1 e2;exact h _ (cu _) yw
def ltS:List Nat->List Nat->Prop
 | [],[]=>False
 | [],_::_=>True
 |_::_,[]=>False
 |a::l,b::m=>a<b\/(a=b/\ltS l m)
structure MinG(F:Nat->Nat->Bool)(n b:Nat)(l:List Nat):Prop where
 g:Gr F n b l
 m:∀l',Gr F n b l'->l.length<l'.length\/(l.length=l'.length/\(l=l'\/ltS l l'))
def BestG(F:Nat->Nat->Bool)(n b:Nat):Option (List Nat)->Prop
 |some l=>MinG F n b l
 |none=>∀l,¬ Gr F n b l
def cands(F:Nat->Nat->Bool)(fit:Nat->Bool):Nat->List (Option (List Nat))->List (List Nat)
 |_,[]=>[]
 |z,o::r=>(match o with
   |some f=>if fit z=true then [z::f]else []
   |none=>[])++cands F fit (z+1) r
theorem mF{fit:Nat->Bool}:∀{G:List (Option (List Nat))}{z:Nat}{c:List Nat},c∈cands F fit z G↔∃k f,k<G.length/\G[k]?=some (some f)/\fit (z+k)=true/\c=(z+k)::f
 | [],z,c=>by
  constructor
  ·intro h;cases h
  ·rintro⟨k,f,h,_⟩;cases h
 |o::r,z,c=>by
  unfold cands;rw[mem_append,mF];constructor
  ·rintro(h|⟨k,f,h1,h2,h3,h4⟩)
   ·cases o with
    |none=>cases h
    |some f=>
     dsimp only at h;split at h
     ·rename_i hz;rw[qt]at h;exact⟨0,f,yv,rfl,hz,h⟩
     ·cases h
   ·exact⟨k+1,f,by simpa using h1,by simpa using h2,by rw[show z+(k+1)=z+1+k from by omega];exact h3,by rw[h4,show z+(k+1)=z+1+k from by omega]⟩
  ·rintro⟨k,f,h1,h2,h3,h4⟩;cases k with
   |zero=>
    left;rw[lf]at h2;cases h2;rw[qw]at h3 h4;dsimp only;rw[ck h3,h4];simp
   |succ k=>
    right;exact⟨k,f,by simpa using h1,by simpa using h2,by rw[show z+1+k=z+(k+1)from by omega];exact h3,by rw[h4,show z+(k+1)=z+1+k from by omega]⟩
theorem BZ{fit:Nat->Bool}:∀{G:List (Option (List Nat))}{z:Nat},(cands F fit z G).Pairwise fun a b=>a.headD 0<b.headD 0
 | [],z=>List.Pairwise.nil
 |o::r,z=>by
  unfold cands;rw[rf];refine⟨?_,BZ,fun a ma b mb=>?_⟩
  ·cases o with
   |none=>exact .nil
   |some f=>
    dsimp only;split
    ·exact List.pairwise_singleton _ _
    ·exact .nil
  ·obtain⟨k,f,_,_,_,rfl⟩:=mF.mp mb;cases o with
   |none=>cases ma
   |some f'=>
    dsimp only at ma;split at ma
    ·rw[qt]at ma;subst ma;show z<z+1+k;omega
    ·cases ma
def IsMn(c:List (List Nat))(o:Option (List Nat)):Prop:=match o with
 |none=>c=[]
 |some l=>∃i:Nat,c[i]?=some l/\∀(j:Nat) m,c[j]?=some m->l.length<=m.length/\(j<i->l.length<m.length)
theorem G2{G:List (Option (List Nat))}{b:Nat}{fit:Nat->Bool}{o:Option (List Nat)}(hb:b<n)(hl:G.length=n-b)(hG:∀k o',G[k]?=some o'->BestG F n (b+1+k) o')(hf:∀k,1<=k->b+k<=n->(fit k=true↔FitI F b k))(h:IsMn (cands F fit 1 G) o):BestG F n b o:=by
 have cg:∀c,c∈cands F fit 1 G->Gr F n b c:=fun c mc=>by
  obtain⟨k,f,h1,h2,h3,rfl⟩:=mF.mp mc;have hk:=hG k _ h2;have fk:=(hf (1+k) yw yw).mp h3;exact .cons yw yw fk (by rw[show b+(1+k)=b+1+k from by omega];exact hk.g)
 have gc:∀l',Gr F n b l'->∃k f r,l'=k::r/\1<=k/\k::f∈cands F fit 1 G/\MinG F n (b+k) f/\Gr F n (b+k) r:=fun l' g=>by
  cases g with
  |nil=>omega
  | @cons _ k r h1 h2 h3 h4=>
   have hk:k-1<G.length:=yw
   have e1:G[k-1]?=some G[k-1]:=ca hk;have hB:=hG _ _ e1;rw[show b+1+(k-1)=b+k from by omega]at hB;cases hx:G[k-1]with
   |none=>
    rw[hx]at hB;exact absurd h4 (hB r)
   |some f=>
    rw[hx]at hB e1;exact⟨k,f,r,rfl,h1,mF.mpr ⟨k-1,f,hk,e1,by rw[show 1+(k-1)=k from by omega];exact(hf k h1 h2).mpr h3,by rw[show 1+(k-1)=k from by omega]⟩,hB,h4⟩
 cases o with
 |none=>
  have h0:cands F fit 1 G=[]:=h;intro l' g;obtain⟨k,f,r,_,_,mc,_⟩:=gc l' g;rw[h0]at mc;cases mc
 |some l=>
  obtain⟨i,ei,hm⟩:=h;refine⟨cg l (bt ei),fun l' g=>?_⟩;obtain⟨k',f',r,rfl,k1,mc,mf,gr⟩:=gc l' g;obtain⟨j,ej⟩:=mem_iff_getElem?.mp mc;obtain⟨m1,m2⟩:=hm j _ ej;have fr:f'.length<=r.length:=by
   rcases mf.m r gr with z|⟨z,_⟩<;>omega
  rw[ff]at m1 m2 ⊢;by_cases hlt:l.length<r.length+1
  ·exact .inl hlt
  ·have e:l.length=r.length+1:=yw
   refine .inr ⟨e,?_⟩;obtain⟨k,f,_,h2,_,q⟩:=mF.mp (bt ei);have pw:=List.pairwise_iff_getElem.mp (BZ (F:=F) (fit:=fit) (G:=G) (z:=1));have ii:=(List.getElem?_eq_some_iff.mp ei).1;have jj:=(List.getElem?_eq_some_iff.mp ej).1;have gi:=(List.getElem?_eq_some_iff.mp ei).2;have gj:=(List.getElem?_eq_some_iff.mp ej).2;rcases Nat.lt_trichotomy j i with z|z|z
   ·have:=m2 z;omega
   ·subst z;rw[ei]at ej;cases ej;rcases mf.m r gr with y|⟨_,rfl|y⟩
    ·rw[ff]at e;omega
    ·exact .inl rfl
    ·exact .inr (.inr ⟨rfl,y⟩)
   ·have:=pw i j ii jj z;rw[gi,gj]at this;subst q;exact .inr (.inl this)
theorem xK:∀{a b:List Nat},ltS a b->ltS b a->False
 | [],[],h,_=>h
 | [],_::_,_,h=>h
 |_::_,[],h,_=>h
 |a::l,b::m,h,k=>by
  rcases h with h|⟨rfl,h⟩
  ·rcases k with k|⟨k,_⟩<;>omega
  ·rcases k with k|⟨_,k⟩
   ·omega
   ·exact xK h k
theorem MinG.uniq{b:Nat}{l l':List Nat}(h:MinG F n b l)(h':MinG F n b l'):l=l':=by
 rcases h.m l' h'.g with z|⟨e,z|z⟩
 ·rcases h'.m l h.g with y|⟨y,_⟩<;>omega
 ·exact z
 ·rcases h'.m l h.g with y|⟨y,y2|y2⟩
  ·omega
  ·exact y2.symm
  ·exact(xK z y2).elim
theorem BestG.uniq{b:Nat}{o o':Option (List Nat)}(h:BestG F n b o)(h':BestG F n b o'):o=o':=by
 cases o with
 |none=>
  cases o' with
  |none=>rfl
  |some l=>exact absurd h'.g (h l)
 |some l=>
  cases o' with
  |none=>exact absurd h.g (h' l)
  |some l'=>rw[MinG.uniq h h']
theorem MinG.less{b k z:Nat}{l:List Nat}(h:MinG F n b (k::l))(hz:1<=z)(hk:z<k){r:List Nat}(g:Gr F n (b+z) r):l.length<r.length:=by
 have hg:=h.g;cases hg with
 |cons h1 h2 h3 h4=>
  have g2:Gr F n b (z::r):=.cons hz (by have:=g.le;omega) (h3.sub (cu _) yw) g;rcases h.m _ g2 with y|⟨y,e|e⟩
  ·simpa using y
  ·cases e;omega
  ·rcases e with e|⟨e,_⟩<;>omega
theorem MinG.tail{b k:Nat}{l:List Nat}(h:MinG F n b (k::l)):MinG F n (b+k) l:=by
 have hg:=h.g;cases hg with
 |cons h1 h2 h3 h4=>
  refine⟨h4,fun l' g'=>?_⟩;rcases h.m (k::l') (.cons h1 h2 h3 g')with y|⟨y,e|e⟩
  ·exact .inl (by simpa using y)
  ·cases e;exact .inr ⟨rfl,.inl rfl⟩
  ·rcases e with e|⟨_,e⟩
   ·omega
   ·exact .inr ⟨by simpa using y,.inr e⟩
inductive Cut:List Nat->List Nat->Prop
 |nil:Cut [] []
 |one {k l m}:Cut l m->Cut (k::l) (k::m)
 |two {k z l m}:1<=z->z<k->Cut l m->Cut (k::l) (z::(k-z)::m)
theorem Gr.cut{l m:List Nat}(c:Cut l m):∀{b},Gr F n b l->Gr F n b m:=by
 induction c with
 |nil=>intro b h;exact h
 |one _ ih=>intro b h;cases h with|cons h1 h2 h3 h4=>exact .cons h1 h2 h3 (ih h4)
 | @two k z l m a1 a2 _ ih=>
  intro b h;cases h with
  |cons h1 h2 h3 h4=>
   refine .cons a1 yw (h3.sub (cu _) yw) (.cons yw yw (h3.sub yw yw) ?_);rw[show b+z+(k-z)=b+k from by omega];exact ih h4
theorem Gr.mono{F':Nat->Nat->Bool}(hF:∀i j,i<n->j<n->F i j=true->F' i j=true){b:Nat}{l:List Nat}(h:Gr F n b l):Gr F' n b l:=by
 induction h with
 |nil=>exact .nil
 |cons h1 h2 h3 h4 ih=>exact .cons h1 h2 (fun i j a1 a2 a3 a4=>hF i j yw yw (h3 i j a1 a2 a3 a4)) ih
end
theorem rR:∀{a b:List Int},a.Perm b->a.Pairwise (· <= ·)->b.Pairwise (· <= ·)->a=b
 | [],b,p,_,_=>(List.nil_perm.mp p).symm
 |x::a,[],p,_,_=>by have:=p.length_eq;simp at this
 |x::a,y::b,p,h1,h2=>by
  rw[qu]at h1 h2;have mx:x∈y::b:=p.mem_iff.mp fu;have my:y∈x::a:=p.mem_iff.mpr fu;have e:x=y:=by
   rcases mem_cons.mp mx with e|e
   ·exact e
   ·rcases mem_cons.mp my with e2|e2
    ·exact e2.symm
    ·have:=h1.1 y e2;have:=h2.1 x e;omega
  subst e;rw[rR ((List.perm_cons x).mp p) h1.2 h2.2]
theorem EV{a b:List Int}(p:a.Perm b)(h1:a.Pairwise (· ≥ ·))(h2:b.Pairwise (· ≥ ·)):a=b:=by
 have:=rR (a:=a.reverse) (b:=b.reverse) ((qf a).trans (p.trans (qf b).symm)) (List.pairwise_reverse.mpr h1) (List.pairwise_reverse.mpr h2);have e:=congrArg List.reverse this;simpa using e
theorem A3{P:List (Int×Int)}{A B:List Int}{a b:Int->Bool}(hA:A.Perm (P.map (·.1)))(hB:B.Perm (P.map (·.2)))(h:∀p∈P,a p.1=true->b p.2=true):A.countP a<=B.countP b:=by
 rw[hA.countP_eq,hB.countP_eq,List.countP_map,List.countP_map];exact List.countP_mono_left fun p mp q=>h p mp q
theorem BU{A:List Int}{a:Int->Bool}{k:Nat}(h:∀x∈A.drop k,a x=true):A.length-k<=A.countP a:=by
 have e:A.countP a=(A.take k).countP a+(A.drop k).countP a:=by rw[<- List.countP_append,jo]
 have e2:(A.drop k).countP a=(A.drop k).length:=List.countP_eq_length.mpr h;rw[ln]at e2;omega
theorem Dl{A:List Int}{a:Int->Bool}{k:Nat}(hk:k<=A.length)(h:∀x∈A.take k,a x=true):k<=A.countP a:=by
 have e:A.countP a=(A.take k).countP a+(A.drop k).countP a:=by rw[<- List.countP_append,jo]
 have e2:(A.take k).countP a=(A.take k).length:=List.countP_eq_length.mpr h;rw[ju]at e2;omega
theorem CV{B:List Int}{b:Int->Bool}{k:Nat}(h:∀x∈B.take k,b x=false):B.countP b<=B.length-k:=by
 have e:B.countP b=(B.take k).countP b+(B.drop k).countP b:=by rw[<- List.countP_append,jo]
 have e2:(B.take k).countP b=0:=List.countP_eq_zero.mpr fun x m=>by rw[h x m];simp
 have e3:(B.drop k).countP b<=(B.drop k).length:=List.countP_le_length;rw[ln]at e3;omega
theorem CQ{B:List Int}{b:Int->Bool}{k:Nat}(h:∀x∈B.drop k,b x=false):B.countP b<=k:=by
 have e:B.countP b=(B.take k).countP b+(B.drop k).countP b:=by rw[<- List.countP_append,jo]
 have e2:(B.drop k).countP b=0:=List.countP_eq_zero.mpr fun x m=>by rw[h x m];simp
 have e3:(B.take k).countP b<=(B.take k).length:=List.countP_le_length;rw[ju]at e3;omega
end
section
abbrev Mt:=List (Nat×Nat)
theorem gH{α:Type}[DecidableEq α]:∀{l l':List α},l.Nodup->(∀x∈l,x∈l')->l.length<=l'.length
 | [],_,_,_=>nq _
 |x::l,l',nd,h=>by
  rw[qk]at nd;have mx:=h x fu;have:=gH (l:=l) (l':=l'.erase x) nd.2 fun y my=>by
   have ne:y≠x:=fun e=>nd.1 (e▸my);exact(List.mem_erase_of_ne ne).mpr (h y (cz _ my))
  rw[List.length_erase_of_mem mx]at this;have:0<l'.length:=List.length_pos_of_mem mx;rw[ff];omega
def fmL(f:Nat->Mt->List Nat->Bool×Mt×List Nat)(i:Nat):List Nat->Mt->List Nat->Bool×Mt×List Nat
 | [],M,a=>(false,M,a)
 |j::js,M,a=>
  if j∈a then fmL f i js M a
  else match lkA M j with
   |none=>(true,ptA M j i,a++[j])
   |some i2=>if (f i2 M (a++[j])).1=true then (true,ptA (f i2 M (a++[j])).2.1 j i,(f i2 M (a++[j])).2.2)else fmL f i js (f i2 M (a++[j])).2.1 (f i2 M (a++[j])).2.2
def aF(q:List (List Nat))(i:Nat):List Nat:=q.getD i []
def fm(q:List (List Nat)):Nat->Nat->Mt->List Nat->Bool×Mt×List Nat
 | 0,_,M,a=>(false,M,a)
 |n+1,i,M,a=>fmL (fm q n) i (aF q i) M a
def KN(M:Mt):Prop:=(M.map (·.1)).Nodup
def Ed(q:List (List Nat))(M:Mt):Prop:=∀p∈M,p.1∈aF q p.2
def Cl(q:List (List Nat))(M:Mt)(C:List Nat):Prop:=∀j∈C,∃i,lkA M j=some i/\∀j2∈aF q i,j2∈C
theorem t6{q:List (List Nat)}{f:Nat->Mt->List Nat->Bool×Mt×List Nat}{i:Nat}{C:List Nat}
  (hf:∀i2 M a,Cl q M C->(∀j∈aF q i2,j∈C)->(f i2 M a).1=false/\(f i2 M a).2.1=M):∀js M a,Cl q M C->(∀j∈js,j∈C)->(fmL f i js M a).1=false/\(fmL f i js M a).2.1=M
 | [],M,a,_,_=>⟨rfl,rfl⟩
 |j::js,M,a,hc,hj=>by
  unfold fmL;split
  ·exact t6 hf js M a hc fun x m=>hj x (cz _ m)
  ·obtain⟨i2,e,h2⟩:=hc j (hj j fu);rw[e];obtain⟨r1,r2⟩:=hf i2 M (a++[j]) hc h2;show (if (f i2 M (a++[j])).1=true then _ else _:Bool×Mt×List Nat).1=false/\_;simp only[r1,fg,if_false,r2];exact t6 hf js M _ hc fun x m=>hj x (cz _ m)
theorem yL{q:List (List Nat)}{C:List Nat}:∀n i M a,Cl q M C->(∀j∈aF q i,j∈C)->(fm q n i M a).1=false/\(fm q n i M a).2.1=M
 | 0,_,_,_,_,_=>⟨rfl,rfl⟩
 |n+1,i,M,a,hc,hj=>t6 (yL n) (aF q i) M a hc hj
structure FmOk(rows:List (List Nat))(m i:Nat)(js:List Nat)(M:Mt)(a:List Nat)(r:Bool×Mt×List Nat):Prop where
 sub:∀j∈a,j∈r.2.2
 nd:r.2.2.Nodup
 lt:∀j∈r.2.2,j<m
 no:r.1=false->r.2.1=M/\(∀j∈js,j∈r.2.2)/\∀j∈r.2.2,j∈a\/∃i2,lkA M j=some i2/\∀j2∈aF rows i2,j2∈r.2.2
 yes:r.1=true->KN r.2.1/\Ed rows r.2.1/\(r.2.1.map (·.2)).Perm (i::M.map (·.2))/\∀j∈a,lkA r.2.1 j=lkA M j
 cl:r.1=true->∀C,Cl rows M C->∀j∈C,lkA r.2.1 j=lkA M j
theorem Bz{M:Mt}{j:Nat}(h:lkA M j=none):∀p∈M,p.1≠j:=fun p m e=>by
 unfold lkA at h;rw[Option.map_eq_none_iff,List.find?_eq_none]at h;exact h p m (by simp[e])
theorem rV{M:Mt}{j i:Nat}(h:lkA M j=some i):(j,i)∈M:=by
 unfold lkA at h;obtain⟨q,e,e2⟩:=map_eq_some_iff.mp h;have h0:=find?_some e;have h1:=jf h0;have h2:=List.mem_of_find?_eq_some e;obtain⟨q1,q2⟩:=q;cases h1;cases e2;exact h2
theorem rF{M:Mt}{j i:Nat}(h:lkA M j=none):ptA M j i=M++[(j,i)]:=by
 have hn:=Bz h;unfold ptA;rw[ci];intro z;rw[any_eq_true]at z;obtain⟨p,mp,hp⟩:=z;exact hn p mp (jf hp)
theorem Ao{M:Mt}{j i i2:Nat}(hn:KN M)(h:lkA M j=some i2):∃A B,M=A++(j,i2)::B/\ptA M j i=A++(j,i)::B:=by
 have hm:=rV h;obtain⟨A,B,e⟩:=List.append_of_mem hm;subst e;refine⟨A,B,rfl,?_⟩;unfold KN at hn;rw[jq,fw,nodup_append]at hn;have hA:∀p∈A,p.1≠j:=fun p m z=>hn.2.2 p.1 (lq m) j yv z;have hB:∀p∈B,p.1≠j:=fun p m z=>(nodup_cons.mp hn.2.1).1 (mem_map.mpr ⟨p,m,z⟩);unfold ptA;rw[ck yv];rw[jq,fw,ck rfl];congr 1
 ·exact(nl fun p m=>ci (hA p m)).trans (map_id' A)
 ·congr 1;exact(nl fun p m=>ci (hB p m)).trans (map_id' B)
theorem rC{M:Mt}{j i j':Nat}(hn:KN M)(hj:j'≠j):lkA (ptA M j i) j'=lkA M j':=by
 cases h:lkA M j with
 |none=>
  rw[rF h];unfold lkA;rw[List.find?_append];cases M.find? fun p=>decide (p.1=j')with
  |none=>simp[kj hj]
  |some q=>rfl
 |some i2=>
  obtain⟨A,B,e1,e2⟩:=Ao (i:=i) hn h;rw[e2,e1];unfold lkA;rw[List.find?_append,List.find?_append,qd (by simpa using kj hj),qd (by simpa using kj hj)]
theorem u6{aa:List (List Nat)}{f:Nat->Mt->List Nat->Bool×Mt×List Nat}{m K i:Nat}
  (hf:∀i2 M a,KN M->Ed aa M->a.Nodup->(∀j∈a,j<m)->K<=a.length->FmOk aa m i2 (aF aa i2) M a (f i2 M a))
  (hno:∀C i2 M a,Cl aa M C->(∀j∈aF aa i2,j∈C)->(f i2 M a).1=false):
  ∀js M a,(∀j∈js,j∈aF aa i)->(∀j∈js,j<m)->KN M->Ed aa M->a.Nodup->(∀j∈a,j<m)->K<=a.length+1->FmOk aa m i js M a (fmL f i js M a)
 | [],M,a,_,_,hn,he,an,al,_=>⟨fun _ h=>h,an,al,fun _=>⟨rfl,fun _ h=>(nomatch h),fun j h=>.inl h⟩,fun h=>(nomatch h),fun h=>(nomatch h)⟩
 |j::js,M,a,hi,hm,hn,he,an,al,hK=>by
  have ae:∀x∈js,x∈aF aa i:=fun x m=>hi x (cz _ m);have ac:∀x∈js,x<m:=fun x h=>hm x (cz _ h);have hj:=hi j fu;unfold fmL;split
  ·rename_i ja;have r:=u6 hf hno js M a ae ac hn he an al hK;refine⟨r.sub,r.nd,r.lt,fun h=>?_,r.yes,r.cl⟩;obtain⟨r1,r2,r3⟩:=r.no h;refine⟨r1,fun x mx=>?_,r3⟩;rcases mem_cons.mp mx with rfl|mx
   ·exact r.sub _ ja
   ·exact r2 x mx
  ·rename_i ja;have ab:(a++[j]).Nodup:=by
    rw[nodup_append];refine⟨an,yv,fun x mx y my e=>?_⟩;rw[mem_singleton.mp my]at e;exact ja (e▸mx)
   have af:∀x∈a++[j],x<m:=fun x mx=>by
    rcases mem_append.mp mx with mx|mx
    ·exact al x mx
    ·rw[mem_singleton.mp mx];exact hm j fu
   have l1:(a++[j]).length=a.length+1:=by simp
   cases h:lkA M j with
   |none=>
    have hk:=Bz h;refine⟨fun x mx=>cn _ mx,ab,af,fun z=>(nomatch z),fun _=>⟨?_,?_,?_,?_⟩,fun _ C hc x mx=>?_⟩
    ·show KN (ptA M j i);rw[rF h];unfold KN at hn ⊢;rw[jq,nodup_append];refine⟨hn,yv,fun x mx y my e=>?_⟩;obtain⟨p,mp,rfl⟩:=mem_map.mp mx;have ey:y=j:=by simpa using my
     exact hk p mp (e.trans ey)
    ·show Ed aa (ptA M j i);rw[rF h];intro p mp;rcases mem_append.mp mp with mp|mp
     ·exact he p mp
     ·rw[mem_singleton.mp mp];exact hj
    ·show ((ptA M j i).map (·.2)).Perm _;rw[rF h,jq];exact List.perm_append_singleton _ _
    ·intro x mx;exact rC hn fun e=>ja (e▸mx)
    ·refine rC hn fun e=>?_;obtain⟨i2,e2,_⟩:=hc x mx;rw[e,h]at e2;cases e2
   |some i2=>
    have r:=hf i2 M (a++[j]) hn he ab af yw;have nf:=fun C=>hno C i2 M (a++[j]);show FmOk aa m i (j::js) M a (if (f i2 M (a++[j])).1=true then _ else _);generalize f i2 M (a++[j])=q at r nf;obtain⟨b,M',a'⟩:=q;cases b with
    |true=>
     obtain⟨y1,y2,y3,y4⟩:=r.yes rfl;rw[ck rfl];have ej:lkA M' j=some i2:=(y4 j yv).trans h;simp only at y1 y2 y3 y4 ⊢;obtain⟨A,B,e1,e2⟩:=Ao (i:=i) y1 ej;refine⟨fun x mx=>r.sub x (cn _ mx),r.nd,r.lt,fun z=>(nomatch z),fun _=>⟨?_,?_,?_,?_⟩,fun _ C hc x mx=>?_⟩
     ·show KN (ptA M' j i);rw[e2];rw[e1]at y1;unfold KN at y1 ⊢;simpa using y1
     ·show Ed aa (ptA M' j i);rw[e2];intro p mp;rw[e1]at y2;rcases mem_append.mp mp with mp|mp
      ·exact y2 p (cn _ mp)
      ·rcases mem_cons.mp mp with rfl|mp
       ·exact hj
       ·exact y2 p (fc _ (cz _ mp))
     ·show ((ptA M' j i).map (·.2)).Perm _;rw[e2];rw[e1,jq,fw]at y3;rw[jq,fw];have z:(i2::(A.map (·.2)++B.map (·.2))).Perm (i2::M.map (·.2)):=List.perm_middle.symm.trans y3;exact List.perm_middle.trans (List.Perm.cons i ((List.perm_cons i2).mp z))
     ·intro x mx;exact(rC y1 fun e=>ja (by rw[<- e];exact mx)).trans (y4 x (cn _ mx))
     ·refine(rC y1 fun e=>?_).trans (r.cl rfl C hc x mx);subst e;obtain⟨i3,e3,ag⟩:=hc x mx;rw[h]at e3;cases e3;exact Bool.noConfusion (nf C hc ag)
    |false=>
     obtain⟨n1,n2,n3⟩:=r.no rfl;simp only at n1 n2 n3;subst n1;rw[ci yv];have la:a.length<=a'.length:=gH an fun x mx=>r.sub x (cn _ mx);have s:=u6 hf hno js M' a' ae ac hn he r.nd r.lt yw;refine⟨fun x mx=>s.sub x (r.sub x (cn _ mx)),s.nd,s.lt,fun z=>?_,fun z=>?_,s.cl⟩
     ·obtain⟨s1,s2,s3⟩:=s.no z;refine⟨s1,fun x mx=>?_,fun x mx=>?_⟩
      ·rcases mem_cons.mp mx with rfl|mx
       ·exact s.sub _ (r.sub _ yv)
       ·exact s2 x mx
      ·rcases s3 x mx with w|w
       ·rcases n3 x w with v|⟨i3,v1,v2⟩
        ·rcases mem_append.mp v with v|v
         ·exact .inl v
         ·rw[mem_singleton.mp v];exact .inr ⟨i2,h,fun j2 m2=>s.sub _ (n2 j2 m2)⟩
        ·exact .inr ⟨i3,v1,fun j2 m2=>s.sub _ (v2 j2 m2)⟩
       ·exact .inr w
     ·obtain⟨s1,s2,s3,s4⟩:=s.yes z;exact⟨s1,s2,s3,fun x mx=>s4 x (r.sub x (cn _ mx))⟩
theorem vS{q:List (List Nat)}{m:Nat}(hr:∀i,∀j∈aF q i,j<m):∀n i M a,KN M->Ed q M->a.Nodup->(∀j∈a,j<m)->m<n+a.length->FmOk q m i (aF q i) M a (fm q n i M a)
 | 0,i,M,a,_,_,an,al,h=>by
  have:=gH (l':=ga m) an fun x mx=>mem_range.mpr (al x mx);rw[iu]at this;omega
 |n+1,i,M,a,hn,he,an,al,h=>u6 (K:=m+1-n) (fun i2 M a hn he an al hk=>vS hr n i2 M a hn he an al yw) (fun C i2 M a hc hj=>(yL n i2 M a hc hj).1) (aF q i) M a (fun _ h=>h) (hr i) hn he an al yw
def mmN(q:List (List Nat))(n:Nat):Nat->Mt
 | 0=>[]
 |k+1=>(fm q n k (mmN q n k) []).2.1
structure MmOk(rows:List (List Nat))(k:Nat)(M:Mt):Prop where
 kn:KN M
 ed:Ed rows M
 vn:(M.map (·.2)).Nodup
 vl:∀p∈M,p.2<k
 cv:∃C,Cl rows M C/\∀i,i<k->i∉M.map (·.2)->∀j∈aF rows i,j∈C
theorem sO{y:List (List Nat)}{m n:Nat}(hr:∀i,∀j∈aF y i,j<m)(hn:m<n):∀k,MmOk y k (mmN y n k)
 | 0=>⟨mw,fun p h=>(nomatch h),mw,fun p h=>(nomatch h),[],fun j h=>(nomatch h),fun i h=>(nomatch h)⟩
 |k+1=>by
  have o:=sO hr hn k;have r:=vS hr n k (mmN y n k) [] o.kn o.ed mw (fun j h=>(nomatch h)) (by simpa using hn);show MmOk y (k+1) (fm y n k (mmN y n k) []).2.1;generalize mmN y n k=M at o r ⊢;generalize fm y n k M []=q at r ⊢;obtain⟨b,M',a'⟩:=q;obtain⟨C,hc,hu⟩:=o.cv;cases b with
  |true=>
   obtain⟨y1,y2,y3,_⟩:=r.yes rfl;have y4:=r.cl rfl C hc;simp only at y1 y2 y3 y4 ⊢;have nk:k∉M.map (·.2):=fun h=>by
    obtain⟨p,mp,e⟩:=mem_map.mp h;have:=o.vl p mp;omega
   refine⟨y1,y2,y3.nodup_iff.mpr (nodup_cons.mpr ⟨nk,o.vn⟩),fun p mp=>?_,C,fun j hj=>?_,fun i hi ni j hj=>?_⟩
   ·have:=y3.mem_iff.mp (lq mp);rcases mem_cons.mp this with e|e
    ·omega
    ·obtain⟨p',ab,e'⟩:=mem_map.mp e;have:=o.vl p' ab;omega
   ·obtain⟨i,e,h⟩:=hc j hj;exact⟨i,(y4 j hj).trans e,h⟩
   ·have aa:i∉k::M.map (·.2):=fun h=>ni (y3.mem_iff.mpr h);rw[qr,not_or]at aa;exact hu i yw aa.2 j hj
  |false=>
   obtain⟨n1,n2,n3⟩:=r.no rfl;simp only at n1 n2 n3 ⊢;subst n1;refine⟨o.kn,o.ed,o.vn,fun p mp=>by have:=o.vl p mp;omega,C++a',fun j hj=>?_,fun i hi ni j hj=>?_⟩
   ·rcases mem_append.mp hj with h|h
    ·obtain⟨i,e,w⟩:=hc j h;exact⟨i,e,fun j2 m2=>cn _ (w j2 m2)⟩
    ·rcases n3 j h with z|⟨i,e,w⟩
     ·cases z
     ·exact⟨i,e,fun j2 m2=>fc _ (w j2 m2)⟩
   ·by_cases e:i=k
    ·subst e;exact fc _ (n2 j hj)
    ·exact cn _ (hu i yw ni j hj)
theorem lX{α β:Type}{f:α->β}:∀{l:List α},l.Nodup->(∀x∈l,∀y∈l,f x=f y->x=y)->(l.map f).Nodup
 | [],_,_=>mw
 |x::l,nd,h=>by
  rw[qk]at nd;rw[fw,qk];refine⟨fun z=>?_,lX nd.2 fun a ma b mb=>h a (cz _ ma) b (cz _ mb)⟩;obtain⟨y,my,e⟩:=mem_map.mp z;have:=h y (cz _ my) x fu e;exact nd.1 (this▸my)
theorem oD{α β:Type}{f:α->β}:∀{l:List α},(l.map f).Nodup->l.Nodup
 | [],_=>mw
 |x::l,h=>by
  rw[fw,qk]at h;exact nodup_cons.mpr ⟨fun m=>h.1 (lq m),oD h.2⟩
theorem iQ{α β:Type}{f:α->β}:∀{l:List α},(l.map f).Nodup->∀{x y:α},x∈l->y∈l->f x=f y->x=y
 | [],_,_,_,m,_,_=>nomatch m
 |a::l,nd,x,y,mx,my,e=>by
  rw[fw,qk]at nd;rcases mem_cons.mp mx with z|z
  ·rcases mem_cons.mp my with w|w
   ·rw[z,w]
   ·rw[z]at e;exact absurd (by rw[e];exact lq w) nd.1
  ·rcases mem_cons.mp my with w|w
   ·rw[w]at e;exact absurd (by rw[<- e];exact lq z) nd.1
   ·exact iQ nd.2 z w e
theorem IF{aa:List (List Nat)}{k:Nat}{M M2:Mt}(o:MmOk aa k M)(k2:KN M2)(e2:Ed aa M2)(v2:(M2.map (·.2)).Nodup)(l2:∀p∈M2,p.2<k):M2.length<=M.length:=by
 obtain⟨C,hc,hu⟩:=o.cv;have ex:∀p∈M2,∃q∈M,(p.1∈C->q.1=p.1)/\(p.1∉C->q.2=p.2/\q.1∉C):=fun p mp=>by
  by_cases h:p.1∈C
  ·obtain⟨i,e,_⟩:=hc p.1 h;exact⟨(p.1,i),rV e,fun _=>rfl,fun z=>absurd h z⟩
  ·by_cases h2:p.2∈M.map (·.2)
   ·obtain⟨q,mq,eq⟩:=mem_map.mp h2;refine⟨q,mq,fun z=>absurd z h,fun _=>⟨eq,fun z=>?_⟩⟩;obtain⟨i,e,w⟩:=hc q.1 z;have:=iQ o.kn mq (rV e) rfl;rw[this]at eq;simp only at eq;subst eq;exact h (w p.1 (e2 p mp))
   ·exact absurd (hu p.2 (l2 p mp) h2 p.1 (e2 p mp)) h
 have pick:∃f:Nat×Nat->Nat×Nat,∀p∈M2,f p∈M/\(p.1∈C->(f p).1=p.1)/\(p.1∉C->(f p).2=p.2/\(f p).1∉C):=by
  refine⟨fun p=>if h:p∈M2 then Classical.choose (ex p h)else p,fun p mp=>?_⟩;simp only[mp,dif_pos];exact Classical.choose_spec (ex p mp)
 obtain⟨f,hf⟩:=pick;have nd:(M2.map f).Nodup:=lX (oD k2) fun x mx y my e=>by
  obtain⟨x1,x2,x3⟩:=hf x mx;obtain⟨y1,y2,y3⟩:=hf y my;by_cases hx:x.1∈C
  ·by_cases hy:y.1∈C
   ·exact iQ k2 mx my (by rw[<- x2 hx,<- y2 hy,e])
   ·exact absurd (by rw[<- e,x2 hx];exact hx) (y3 hy).2
  ·by_cases hy:y.1∈C
   ·exact absurd (by rw[e,y2 hy];exact hy) (x3 hx).2
   ·exact iQ v2 mx my (by rw[<- (x3 hx).1,<- (y3 hy).1,e])
 have:=gH (l':=M) nd fun z mz=>by
  obtain⟨p,mp,rfl⟩:=mem_map.mp mz;exact(hf p mp).1
 rwa [dh]at this
inductive Ma:Nat->List (List Nat)->List Nat->List (Nat×Nat)->Prop
 |nil {i u}:Ma i [] u []
 |skip {i r rs u s}:Ma (i+1) rs u s->Ma i (r::rs) u s
 |take {i r rs u j s}:j∈r->j∉u->Ma (i+1) rs (u++[j]) s->Ma i (r::rs) u ((i,j)::s)
def frR(u:List Nat)(r:List Nat):List Nat:=r.filter fun j=>decide (j∉u)
def frs8(u:List Nat)(q:List (List Nat)):List (List Nat):=q.map (frR u)
theorem pY(u:List Nat)(q:List (List Nat))(i:Nat):aF (frs8 u q) i=frR u (aF q i):=by
 unfold aF frs8;rw[dw,dw,gg];cases q[i]?<;>rfl
theorem hU{u r:List Nat}{j:Nat}:j∈frR u r↔j∈r/\j∉u:=by
 unfold frR;rw[mem_filter,decide_eq_true_eq]
theorem Ma.facts{i:Nat}{q:List (List Nat)}{u:List Nat}{s:List (Nat×Nat)}(h:Ma i q u s):(∀p∈s,i<=p.1/\p.1<i+q.length/\p.2∈aF q (p.1-i)/\p.2∉u)/\(s.map (·.1)).Nodup/\(s.map (·.2)).Nodup:=by
 induction h with
 |nil=>exact⟨fun p m=>(nomatch m),mw,mw⟩
 | @skip i r rs u s _ ih=>
  refine⟨fun p m=>?_,ih.2⟩;obtain⟨h1,h2,h3,h4⟩:=ih.1 p m;refine⟨yw,by rw[ff];omega,?_,h4⟩;have e:p.1-i=(p.1-(i+1))+1:=yw
  rw[e];simpa[aF]using h3
 | @take i r rs u j s hj hu _ ih=>
  refine⟨fun p m=>?_,?_,?_⟩
  ·rcases mem_cons.mp m with rfl|m
   ·refine⟨cu _,yv,?_,hu⟩;simpa[aF]using hj
   ·obtain⟨h1,h2,h3,h4⟩:=ih.1 p m;refine⟨yw,by rw[ff];omega,?_,fun z=>h4 (cn _ z)⟩;have e:p.1-i=(p.1-(i+1))+1:=yw
    rw[e];simpa[aF]using h3
  ·rw[fw,qk];refine⟨fun z=>?_,ih.2.1⟩;obtain⟨p,mp,e⟩:=mem_map.mp z;have:=(ih.1 p mp).1;simp only at e;omega
  ·rw[fw,qk];refine⟨fun z=>?_,ih.2.2⟩;obtain⟨p,mp,e⟩:=mem_map.mp z;have:=(ih.1 p mp).2.2.2;simp only at e;rw[e]at this;exact this yv
theorem Ma.mt{i:Nat}{aa:List (List Nat)}{u:List Nat}{s:List (Nat×Nat)}(h:Ma i aa u s):KN (s.map fun p=>(p.2,p.1-i))/\Ed (frs8 u aa) (s.map fun p=>(p.2,p.1-i))/\((s.map fun p=>(p.2,p.1-i)).map (·.2)).Nodup/\∀p∈s.map fun p=>(p.2,p.1-i),p.2<aa.length:=by
 obtain⟨f,n1,n2⟩:=h.facts;refine⟨?_,fun p m=>?_,?_,fun p m=>?_⟩
 ·unfold KN;rw[jn];exact n2
 ·obtain⟨q,mq,rfl⟩:=mem_map.mp m;obtain⟨h1,h2,h3,h4⟩:=f q mq;show q.2∈aF (frs8 u aa) (q.1-i);rw[pY];exact hU.mpr ⟨h3,h4⟩
 ·rw[jn];refine lX (oD n1) fun x mx y my e=>?_;obtain⟨x1,_⟩:=f x mx;obtain⟨y1,_⟩:=f y my;simp only[Function.comp_apply]at e;exact iQ n1 mx my yw
 ·obtain⟨q,mq,rfl⟩:=mem_map.mp m;obtain⟨h1,h2,_⟩:=f q mq;show q.1-i<aa.length;omega
theorem wO{α:Type}{A B:List α}{x:α}(h:(A++x::B).Nodup):(A++B).Nodup/\x∉A++B:=by
 rw[List.perm_middle.nodup_iff,qk]at h;exact⟨h.2,h.1⟩
theorem rO:∀(rows:List (List Nat)) (i:Nat) (u:List Nat) (M:Mt),KN M->Ed (frs8 u rows) M->(M.map (·.2)).Nodup->(∀p∈M,p.2<rows.length)->∃s,Ma i rows u s/\s.length=M.length
 | [],i,u,M,_,_,_,hl=>by
  cases M with
  |nil=>exact⟨[],.nil,rfl⟩
  |cons p M=>exact absurd (hl p fu) yv
 |r::rs,i,u,M,hk,he,hv,hl=>by
  have ab:∀k,aF (frs8 u (r::rs)) (k+1)=aF (frs8 u rs) k:=fun k=>by simp[aF,frs8]
  by_cases h0:0∈M.map (·.2)
  ·obtain⟨p,mp,e0⟩:=mem_map.mp h0;obtain⟨j,i0⟩:=p;simp only at e0;subst e0;obtain⟨A,B,rfl⟩:=List.append_of_mem mp;have hj:=he _ mp;rw[pY]at hj;obtain⟨ac,ae⟩:=hU.mp hj;unfold KN at hk;rw[jq,fw]at hk hv;obtain⟨k1,k2⟩:=wO hk;obtain⟨v1,v2⟩:=wO hv;rw[<- jq]at k1 k2 v1 v2;have pos:∀q∈A++B,1<=q.2:=fun q mq=>by
    rcases Nat.eq_zero_or_pos q.2 with z|z
    ·exact absurd (mem_map.mpr ⟨q,mq,z⟩) v2
    ·exact z
   have sub:∀q∈A++B,q∈A++(j,0)::B:=fun q mq=>by
    rcases mem_append.mp mq with z|z
    ·exact cn _ z
    ·exact fc _ (cz _ z)
   obtain⟨s,hs,ls⟩:=rO rs (i+1) (u++[j]) ((A++B).map fun q=>(q.1,q.2-1)) (by unfold KN;rw[jn];exact k1) (fun q mq=>by
     obtain⟨q',aa,rfl⟩:=mem_map.mp mq;have h1:=he q' (sub q' aa);have h2:=pos q' aa;have e:q'.2=(q'.2-1)+1:=yw
     rw[e,ab,pY]at h1;show q'.1∈aF (frs8 (u++[j]) rs) (q'.2-1);rw[pY];obtain⟨h3,h4⟩:=hU.mp h1;refine hU.mpr ⟨h3,fun z=>?_⟩;rcases mem_append.mp z with z|z
     ·exact h4 z
     ·exact k2 (mem_map.mpr ⟨q',aa,mem_singleton.mp z⟩)) (by
     rw[jn];refine lX (oD v1) fun x mx y my e=>?_;have:=pos x mx;have:=pos y my;simp only[Function.comp_apply]at e;exact iQ v1 mx my yw) (fun q mq=>by
     obtain⟨q',aa,rfl⟩:=mem_map.mp mq;have h1:=hl q' (sub q' aa);have h2:=pos q' aa;rw[ff]at h1;show q'.2-1<rs.length;omega)
   refine⟨(i,j)::s,.take ?_ ae hs,?_⟩
   ·simpa[aF]using ac
   ·rw[dh,fv]at ls;rw[ff,fv,ff,ls];omega
  ·have pos:∀q∈M,1<=q.2:=fun q mq=>by
    rcases Nat.eq_zero_or_pos q.2 with z|z
    ·exact absurd (mem_map.mpr ⟨q,mq,z⟩) h0
    ·exact z
   obtain⟨s,hs,ls⟩:=rO rs (i+1) u (M.map fun q=>(q.1,q.2-1)) (by unfold KN;rw[jn];exact hk) (fun q mq=>by
     obtain⟨q',aa,rfl⟩:=mem_map.mp mq;have h1:=he q' aa;have h2:=pos q' aa;have e:q'.2=(q'.2-1)+1:=yw
     rw[e,ab]at h1;exact h1) (by
     rw[jn];refine lX (oD hv) fun x mx y my e=>?_;have:=pos x mx;have:=pos y my;simp only[Function.comp_apply]at e;exact iQ hv mx my yw) (fun q mq=>by
     obtain⟨q',aa,rfl⟩:=mem_map.mp mq;have h1:=hl q' aa;have h2:=pos q' aa;rw[ff]at h1;show q'.2-1<rs.length;omega)
   exact⟨s,.skip hs,by rw[ls,dh]⟩
def nu(n:Nat)(q:List (List Nat)):Nat:=(mmN q n q.length).length
def Bd(m:Nat)(q:List (List Nat)):Prop:=∀r∈q,∀j∈r,j<m
theorem Bd.row{m:Nat}{q:List (List Nat)}(h:Bd m q):∀i,∀j∈aF q i,j<m:=fun i j hj=>by
 unfold aF at hj;rw[dw]at hj;cases e:q[i]? with
 |none=>rw[e]at hj;cases hj
 |some r=>rw[e]at hj;exact h r (bt e) j hj
theorem Bd.fr{m:Nat}{q:List (List Nat)}(h:Bd m q)(u:List Nat):Bd m (frs8 u q):=fun r hr j hj=>by
 obtain⟨r',mr,rfl⟩:=mem_map.mp hr;exact h r' mr j (hU.mp hj).1
theorem tJ(u:List Nat)(q:List (List Nat)):(frs8 u q).length=q.length:=dh ..
theorem nL{m n i:Nat}{q:List (List Nat)}{u:List Nat}{s:List (Nat×Nat)}(hb:Bd m q)(hn:m<n)(h:Ma i q u s):s.length<=nu n (frs8 u q):=by
 obtain⟨k1,e1,v1,l1⟩:=h.mt;have:=IF (sO (hb.fr u).row hn (frs8 u q).length) k1 e1 v1 (by rw[tJ];exact l1)
 rwa [dh]at this
theorem wF{m n:Nat}{q:List (List Nat)}{u:List Nat}(i:Nat)(hb:Bd m q)(hn:m<n):∃s,Ma i q u s/\s.length=nu n (frs8 u q):=by
 have o:=sO (hb.fr u).row hn (frs8 u q).length;exact rO q i u _ o.kn o.ed o.vn (by have:=o.vl;rw[tJ]at this ⊢;exact this)
def gr(n:Nat):List (List Nat)->Nat->List Nat->Nat->List (Nat×Nat)
 | [],_,_,_=>[]
 |r::rs,i,u,w=>match (frR u r).find? fun j=>decide (nu n (frs8 (u++[j]) rs)+1=w)with
  |some j=>(i,j)::gr n rs (i+1) (u++[j]) (w-1)
  |none=>gr n rs (i+1) u w
def ltP(p q:Nat×Nat):Prop:=p.1<q.1\/(p.1=q.1/\p.2<q.2)
def leL:List (Nat×Nat)->List (Nat×Nat)->Prop
 | [],_=>True
 |_::_,[]=>False
 |p::s,q::t=>ltP p q\/(p=q/\leL s t)
theorem Kl{l:List Nat}{P:Nat->Bool}(hs:l.Pairwise (· < ·)){j j':Nat}(h:l.find? P=some j)(m:j'∈l)(hp:P j'=true):j<=j':=by
 induction l with
 |nil=>cases m
 |cons x l ih=>
  rw[qu]at hs;by_cases hx:P x=true
  ·rw[List.find?_cons_of_pos hx]at h;cases h;rcases mem_cons.mp m with rfl|m
   ·exact cu _
   ·exact ko (hs.1 j' m)
  ·rw[qd hx]at h;rcases mem_cons.mp m with rfl|m
   ·exact absurd hp hx
   ·exact ih hs.2 h m
theorem v4{m n:Nat}(hn:m<n):∀(rows:List (List Nat)) (i:Nat) (u:List Nat) (w:Nat),Bd m rows->(∀r∈rows,r.Pairwise (· < ·))->w=nu n (frs8 u rows) ->
  Ma i rows u (gr n rows i u w)/\(gr n rows i u w).length=w/\∀s,Ma i rows u s->s.length=w->leL (gr n rows i u w) s
 | [],i,u,w,_,_,hw=>⟨.nil,by rw[hw];rfl,fun s _ _=>trivial⟩
 |r::rs,i,u,w,hb,hr,hw=>by
  have y:Bd m rs:=fun x h=>hb x (cz _ h);have aa:∀x∈rs,x.Pairwise (· < ·):=fun x h=>hr x (cz _ h);have up:∀j t,j∈r->j∉u->Ma (i+1) rs (u++[j]) t->t.length+1=w->nu n (frs8 (u++[j]) rs)+1=w:=fun j t hj hu ht hl=>by
   have h1:=nL y hn ht;obtain⟨s,hs,ls⟩:=wF (u:=u++[j]) (i+1) y hn;have h2:=nL hb hn (Ma.take hj hu hs);rw[ff,<- hw]at h2;omega
  have sr:(frR u r).Pairwise (· < ·):=(hr r fu).sublist List.filter_sublist;unfold gr;cases hf:(frR u r).find? fun j=>decide (nu n (frs8 (u++[j]) rs)+1=w)with
  |some j=>
   have h0:=find?_some hf;have hj:=jf h0;obtain⟨j1,j2⟩:=hU.mp (List.mem_of_find?_eq_some hf);obtain⟨g1,g2,g3⟩:=v4 hn rs (i+1) (u++[j]) (w-1) y aa yw;refine⟨.take j1 j2 g1,by rw[ff,g2];omega,fun s hs ls=>?_⟩;cases hs with
   |skip h=>
    have ab:=h.facts.1;cases s with
    |nil=>simp at ls;omega
    |cons q t=>
     have:=(ab q fu).1;exact .inl (.inl (by show i<q.1;omega))
   | @take _ _ _ _ j' t k1 k2 h=>
    rw[ff]at ls;have e:=up j' t k1 k2 h ls;have le:=Kl sr hf (hU.mpr ⟨k1,k2⟩) (gq e);rcases Nat.lt_or_ge j j' with z|z
    ·exact .inl (.inr ⟨rfl,z⟩)
    ·have ej:j'=j:=yw
     subst ej;exact .inr ⟨rfl,g3 t h yw⟩
  |none=>
   have no:∀j t,j∈r->j∉u->Ma (i+1) rs (u++[j]) t->t.length+1≠w:=fun j t hj hu ht hl=>by
    have e:=up j t hj hu ht hl;rw[List.find?_eq_none]at hf;exact hf j (hU.mpr ⟨hj,hu⟩) (gq e)
   have ew:w=nu n (frs8 u rs):=by
    obtain⟨s,hs,ls⟩:=wF (u:=u) i hb hn;rw[<- hw]at ls;have le:nu n (frs8 u rs)<=w:=by
     obtain⟨s',ac,ae⟩:=wF (u:=u) (i+1) y hn;have:=nL hb hn (Ma.skip (r:=r) ac);rw[<- hw]at this;omega
    cases hs with
    |skip h=>
     have:=nL y hn h;omega
    |take k1 k2 h=>exact absurd (by rw[ff]at ls;exact ls) (no _ _ k1 k2 h)
   obtain⟨g1,g2,g3⟩:=v4 hn rs (i+1) u w y aa ew;refine⟨.skip g1,g2,fun s hs ls=>?_⟩;cases hs with
   |skip h=>exact g3 s h ls
   |take k1 k2 h=>exact absurd (by rw[ff]at ls;exact ls) (no _ _ k1 k2 h)
end
section
variable {R:RX}
theorem Av{n:Int}(q:∀m,0<=m->R (.d (.int m)) []):pI [.d (.int n)] [] R:=by
 unfold pI;walk_at "e";have h1:=Int.emod_nonneg (n+7919) (show (2147483647:Int)≠0 by decide);have h2:=Int.emod_lt_of_pos (n+7919) (show (0:Int)<2147483647 by decide);exact⟨dU yw yw,dU dz dz,q _ (Int.emod_nonneg _ dz)⟩
theorem zN{p:List bp}{n:Int}(hp:bI p)(hn:0<n)(hb:n.natAbs.log2<9000)(q:∀r p',0<=r->r<n->bI p'->R (.d (.int r)) [p']):zy [.l 0,.d (.int n)] [p] R:=by
 obtain⟨l,g,sd,rfl,hl⟩:=hp;unfold zy;walk_at "e";split
 ·refine⟨hn,.inl ⟨⟨hn,hb⟩,0,rfl,?_⟩⟩;walk_at "e";exact q _ _ (Int.emod_nonneg _ yw) (Int.emod_lt_of_pos _ hn) ⟨_,_,_,rfl,Int.ediv_nonneg hl yw⟩
 ·refine Av fun m _=>?_;walk_at "e";refine Av fun m' h'=>?_;walk_at "e";refine⟨2,rfl,?_⟩;walk_at "e";exact .inl ⟨⟨by decide,by decide +kernel⟩,hn,q _ _ (Int.emod_nonneg _ yw) (Int.emod_lt_of_pos _ hn) ⟨_,_,_,rfl,hl⟩⟩
theorem GA{n:Int}(q:∀p,bI p->R (.l 0) [p]):AK [.d (.int n)] [] R:=by
 unfold AK;walk_at "e";refine⟨⟨by decide,by decide,by decide⟩,?_⟩;refine .inr (q _ ⟨_,_,_,rfl,?_⟩);split<;>omega
theorem Gs{n:Int}(q:∀p,bI p->R (.l 0) [p]):tL [.d (.int n)] [] R:=GA q
theorem Ia{p:List bp}(hp:bI p)(q:∀r p',-10 ^ 58<=r->r<=10 ^ 58->bI p'->R (.d (.int r)) [p']):yB [.l 0] [p] R:=by
 unfold yB;walk_at "e";refine zN hp dz (by decide +kernel) fun r p1 r0 r1 aa=>?_;walk_at "e";split
 ·refine zN aa dz (by decide +kernel) fun r p2 r0 r1 y=>?_;walk_at "e";exact q _ _ yw yw y
 ·split
  ·refine zN aa dz (by decide +kernel) fun r p2 r0 r1 y=>?_;walk_at "e";exact q _ _ yw yw y
  ·refine⟨⟨by decide,by decide,by decide⟩,dU dz dz,?_⟩;have k1:(10:Int) ^ 30=1000000000000000000000000000000:=by decide +kernel
   have k2:(10:Int) ^ 28=10000000000000000000000000000:=by decide +kernel
   refine zN aa (by decide +kernel) (by decide +kernel) fun r p2 r0 r1 y=>?_;walk_at "e"
   try simp only[k1,k2]at r1 ⊢
   refine⟨⟨by decide,by decide,by decide⟩,⟨by decide,by decide,by decide⟩,Gf 128 128 yw (by decide +kernel),q _ _ yw yw y⟩
theorem C1{p:List bp}(hp:bI p)(q:∀r p',-10 ^ 58<=r->r<=10 ^ 58->bI p'->R (.d (.int r)) [p']):qT [.l 0] [p] R:=Ia hp q
end
section
variable {R:RX}
set_option maxHeartbeats 8000000 in
abbrev Part:=Str×Int×Int
theorem yW{α:Type}{f:α->bp}{l:List α}{k:Nat}{x:α}(e:l[k]?=some x):atI (l.map f) (k:Int)=some (f x):=gJ (by rw[gg,e];rfl)
end
section
variable {R:RX}{S:Sto}
abbrev Term:=Nat×Int
def tmD(t:Term):bp:=.tuple [.int t.1,.int t.2]
def jC(ts:List Term):bp:=.tuple (ts.map tmD)
structure Gap where
 ts:List Term
 lo:Int
 hi:Int
def aH(g:Gap):bp:=.tuple [jC g.ts,.int g.lo,.int g.hi]
theorem jK(g:Gap):aH g=.tuple [jC g.ts,.int g.lo,.int g.hi]:=rfl
theorem tZ(t:Term):tmD t=.tuple [.int t.1,.int t.2]:=rfl
def aQ(ns:List Int):bp:=.tuple (ns.map cf)
structure Tm3(n:Nat)(ts:List Term):Prop where
 len:ts.length<=100
 ok:∀t∈ts,t.1<n/\-3<=t.2/\t.2<=3
def worth(ts:List Term)(ns:List Int):Int:=(ts.map fun t=>t.2*ns.getD t.1 0).sum
theorem KY{ns:List Int}{k:Nat}(h:k<ns.length):ns[k]?=some (ns.getD k 0):=by
 rw[ca h,dw,ca h];rfl
def part(ps:List Part)(k:Nat):Part:=ps.getD k ("",0,0)
def plo(ps:List Part)(k:Nat):Int:=(part ps k).2.1
def phi(ps:List Part)(k:Nat):Int:=(part ps k).2.2
def tLo(ps:List Part)(t:Term):Int:=min (t.2*plo ps t.1) (t.2*phi ps t.1)
def GC(ps:List Part)(ts:List Term):Int:=(ts.map (tLo ps)).sum
theorem hR{α:Type}{f:α->bp}{l:List α}{i:Nat}{d:bp}(h:(l.map f)[i]?=some d):∃x,l[i]?=some x/\d=f x:=by
 rw[gg]at h;obtain⟨x,e,rfl⟩:=map_eq_some_iff.mp h;exact⟨x,e,rfl⟩
theorem wM{ds:List bp}{r:Int}{P:bp->Prop}(h0:0<=r)(h1:r<ds.length)(hP:∀d∈ds,P d):∃d,atI ds r=some d/\P d:=by
 obtain⟨k,rfl⟩:=Int.eq_ofNat_of_zero_le h0;have hk:k<ds.length:=yw
 exact⟨ds[k],gJ (ca hk),hP _ (getElem_mem hk)⟩
theorem uG{g:DG}{te:DE}{fin:Sto->Prop}{α:Type}(F:α->Prop)(f:α->bp)(P:XE->Prop):∀(ds:List bp) (acc:List α) (p:List bp) (τ:XE),P τ->bI p->acc.length+ds.length<=1000 ->
  (∀d∈ds,∀ τ p acc (R:XE->RX),P τ->bI p->(∀ τ' x p',P τ'->bI p'->F x->R τ' (.d (f x)) [p',acc])->g (.d d) τ [p,acc] fun τ1 S1=>te τ1 S1 (R τ1)) ->
  (∀xs p',bI p'->(∀x∈xs,F x)->xs.length=ds.length->fin [p',(acc++xs).map f])->aY 1 g aL te fin ds τ [p,acc.map f]
 | [],acc,p,τ,_,hp,_,_,h=>by
  have:=h [] p hp yv rfl;rw[kc]at this;exact this
 |d::ds,acc,p,τ,hP,hp,hl,el,h=>by
  show g (.d d) τ [p,acc.map f] fun τ1 S1=>aL τ1 S1 fun b S2=>if b=true then te τ1 S2 fun x S3=>asD x fun e=>∃acc,S3[1]?=some acc/\acc.length<1000/\aY 1 g aL te fin ds τ1 (S3.set 1 (acc++[e]))else aY 1 g aL te fin ds τ1 S2
  simp only[aL,↓reduceIte];rw[ff]at hl;refine el d fu τ p (acc.map f) (fun τ1 x S3=>asD x fun e=>∃acc,S3[1]?=some acc/\acc.length<1000/\aY 1 g aL te fin ds τ1 (S3.set 1 (acc++[e]))) hP hp fun τ' x p' aa q hF=>?_;refine⟨acc.map f,rfl,by rw[dh];omega,?_⟩;have e:([p',acc.map f]:Sto).set 1 (acc.map f++[f x])=[p',(acc++[x]).map f]:=by simp
  rw[e];refine uG F f P ds (acc++[x]) p' τ' aa q (by rw[fv,je];omega) (fun e m=>el e (cz _ m)) fun xs p'' hp'' fs hl=>?_;rw[fy];exact h (x::xs) p'' hp'' (fun y m=>(mem_cons.mp m).elim (fun e=>e▸hF) (fs y)) (by simp[hl])
end
section
variable {R:RX}{S:Sto}
theorem FT{g:Gap}{ns:List Int}(h3:Tm3 ns.length g.ts)(q:R (.d (.int (worth g.ts ns))) []):rX [.d (aH g),.d (aQ ns)] [] R:=by
 unfold rX aQ;rw[jK,jC];walk_at "e";refine cmp2 (S0:=[]) (fun t:Term=>.int (t.2*ns.getD t.1 0)) rfl g.ts (by have:=h3.len;omega) ?_ ?_
 ·intro t mt u v acc R' hk;obtain⟨t1,t2,t3⟩:=h3.ok t mt;have e:=yW (f:=cf) (KY t1);rw[tZ];walk_at "e";refine⟨_,e,?_⟩;walk_at "e";exact⟨dU yw yw,hk _ _⟩
 ·walk_at "e";refine⟨g.ts.map fun t:Term=>t.2*ns.getD t.1 0,by rw[jn];rfl,q⟩
def zZ(g:Gap)(ns:List Int):Bool:=decide (g.lo<=worth g.ts ns/\worth g.ts ns<=g.hi)
theorem Fb{g:Gap}{ns:List Int}(h3:Tm3 ns.length g.ts)(q:R (.d (.bool (zZ g ns))) []):rM [.d (aH g),.d (aQ ns)] [] R:=by
 unfold rM;walk_at "e";rw[jK];walk_at "e";rw[<- jK];refine FT h3 ?_;walk_at "e";unfold zZ at q;by_cases h:g.lo<=worth g.ts ns
 ·simp only[h,true_and]at q;rw[ck h];exact q
 ·simp only[h,false_and,decide_false]at q;rw[ci h];exact q
def IR(a t:Int):Int:=-(a/(-t))
def pick(ps:List Part)(t:Term)(ts:List Term)(left:Int):Int:=if t.2<0 then max (plo ps t.1) (IR (left-GC ps ts) t.2)else plo ps t.1
theorem JE{α:Type}{f:α->bp}{ts:List α}{i:Nat}(il:i<ts.length):cD (ts.map f) (some ((i:Int)+1)) none=(ts.drop (i+1)).map f:=by
 have ei:(i:Int)+1=((i+1:Nat):Int):=yw
 unfold cD;have e1:HT.sIx ts.length ts.length none=ts.length:=rfl;rw[dh,ei,e1,HT.sIx_nat,min_eq_left il,jt yv,map_drop]
end
section
variable {R:RX}{S:Sto}
def sX:bp->Bool
 | .int _=>true
 |_=>false
theorem FU{d:bp}(q:R (.d (.bool (sX d))) []):pN [.d d] [] R:=by
 unfold pN;cases d<;>(walk_at "e";exact q)
end
section
variable {R:RX}{S:Sto}
def rng(lo:Int)(n:Nat):List Int:=(ga n).map fun k:Nat=>lo+k
def JB(p:Part):List Int:=rng p.2.1 (p.2.2-p.2.1+1).toNat
def ext(q:List (List Int))(p:Part):List (List Int):=q.flatMap fun a=>(JB p).map fun x=>a++[x]
end
section
variable {R:RX}{S:Sto}
theorem rep1{base:Int}{n:Nat}:(bu n [cf base]).flatten=(bu n base).map cf:=by
 induction n with
 |zero=>rfl
 |succ n ih=>rw[kq,qp,ih,kq,fw];rfl
theorem CI{p:List bp}{m base y:Int}(hp:bI p)(m0:0<=m)(m1:m<=100)(w0:0<y)(w1:y<=1000)(q:∀(b:List Int) p',(b.length:Int)<=m->(∀x∈b,base<=x/\x<base+y)->bI p'->R (.d (aQ b)) [p']):lK [.l 0,.d (.int m),.d (.int base),.d (.int y)] [p] R:=by
 unfold lK;walk_at "d"
 walk_at "n"
 refine zN hp yw (pT yw yw) fun r p1 r0 r1 ae=>?_;walk_at "d"
 walk_at "n"
 refine zN ae dz (by decide +kernel) fun r2 p2 r3 r4 aa=>?_;walk_at "d";split
 ·refine⟨yv,yw,yw,yw,?_⟩;rw[rep1];exact q (bu r.toNat base) p2 (by rw[List.length_replicate];omega) (fun x m=>by rw[List.mem_replicate]at m;omega) aa
 ·refine uG (α:=Int) (fun x=>base<=x/\x<base+y) cf (fun τ=>∃u,τ=[u,some (.d (.int base)),some (.l 0),some (.d (.int y))]) _ [] p2 _ ⟨_,rfl⟩ aa (by rw[j3];simp;omega) ?_ ?_
  ·rintro d md _ p acc R' ⟨u,rfl⟩ hp hk;walk_at "d";refine zN hp w0 (pT w0 yw) fun r p' r0 r1 ab=>?_;walk_at "d";exact hk _ _ p' ⟨_,rfl⟩ ab ⟨yw,yw⟩
  ·intro ws p3 ac hw hl;rw[j3]at hl;walk_at "d";exact q ws p3 yw hw ac
structure Tim(s:Int):Prop where
 ne:s≠0
 lo:-3<=s
 hi:s<=3
structure Gp2(g:Gap)(s t:Int):Prop where
 ts:g.ts=[(0,s),(1,t)]
 s3:Tim s
 t3:Tim t
 le:g.lo<=g.hi
 lo:-10 ^ 60<=g.lo
 hi:g.hi<=10 ^ 60
structure Bx(b:List Int):Prop where
 l10:b.length<=10
 lo:∀x∈b,-10 ^ 59<=x
 hi:∀x∈b,x<=10 ^ 59
theorem Tim.mul{s a:Int}(h:Tim s)(h1:-10 ^ 58<=a)(h2:a<=10 ^ 58):-(3*10 ^ 58)<=s*a/\s*a<=3*10 ^ 58:=by
 have:s = -3\/s = -2\/s = -1\/s=0\/s=1\/s=2\/s=3:=by have:=h.lo;have:=h.hi;omega
 rcases this with rfl|rfl|rfl|rfl|rfl|rfl|rfl<;>omega
theorem FS{p:List bp}{m:Int}(hp:bI p)(m0:0<=m)(m1:m<=10)(q:∀(g:Gap) (s t:Int) (one other:List Int) p',Gp2 g s t->Bx one->Bx other->(one.length:Int)<=m->(other.length:Int)<=m->(-10 ^ 59<=g.lo/\g.hi<=10 ^ 59)->bI p'->R (.d (.tuple [aH g,aQ one,aQ other])) [p']):pL [.l 0,.d (.int m)] [p] R:=by
 unfold pL;walk_at "dX"
 (refine seq1 ?_;walk_at "dX")
 refine C1 hp fun a p1 a1 a2 aj=>?_;walk_at "dX";refine C1 aj fun b p2 b1 b2 ai=>?_;walk_at "dX"
 (refine seq1 ?_;walk_at "dX")
 refine zN ai dz (by decide +kernel) fun r p3 r0 r1 af=>?_;walk_at "dX";obtain⟨d,ed,w,rfl,w0,w1⟩:=wM (P:=fun d=>∃w:Int,d=.int w/\0<w/\w<=40) (ds:=[cf 1,.int 3,.int 8,.int 40]) r0 r1 (by
  intro d m;simp only[qr,rz,or_false]at m;rcases m with rfl|rfl|rfl|rfl<;>exact⟨_,rfl,by decide,by decide⟩)
 refine⟨_,ed,?_⟩;walk_at "dX"
 (refine seq1 ?_;walk_at "dX")
 have ac:∀d∈[cf 1,.int (-1),.int 2,.int (-2),.int 3,.int (-3)],∃s:Int,d=.int s/\Tim s:=by
  intro d m;simp only[qr,rz,or_false]at m;rcases m with rfl|rfl|rfl|rfl|rfl|rfl<;>exact⟨_,rfl,by decide,by decide,by decide⟩
 refine uG (α:=Int) Tim cf (fun τ=>∃u,τ=[u,some (.l 0)]) _ [] p3 _ ⟨_,rfl⟩ af (by rw[j3];decide) ?_ ?_
 ·rintro d md _ p acc R' ⟨u,rfl⟩ hp hk;walk_at "dX";refine zN hp dz (by decide +kernel) fun r p' r0 r1 ah=>?_;obtain⟨d,ed,s,rfl,hs⟩:=wM (ds:=[cf 1,.int (-1),.int 2,.int (-2),.int 3,.int (-3)]) r0 r1 ac;walk_at "dX";exact⟨_,ed,hk _ _ p' ⟨_,rfl⟩ ah hs⟩
 intro ss p4 ag ab hl;rw[j3]at hl;obtain⟨s,t,rfl⟩:∃s t,ss=[s,t]:=by
  match ss,hl with
  | [s,t],_=>exact⟨s,t,rfl⟩
 have hs:=ab s yv;have ht:=ab t yv;rw[nil_append];walk_at "dX"
 (refine seq1 ?_;walk_at "dX")
 have f0:0<(if s<0 then -s else s)+(if t<0 then -t else t):=by
  have:=hs.ne;split<;>split<;>omega
 have f1:(if s<0 then -s else s)+(if t<0 then -t else t)<=6:=by
  have:=hs.lo;have:=hs.hi;have:=ht.lo;have:=ht.hi;split<;>split<;>omega
 generalize hF:(if s<0 then -s else s)+(if t<0 then -t else t)=F at f0 f1 ⊢;refine⟨wS yw yw,?_⟩;have y:0<w*F:=Int.mul_pos w0 f0;have aa:w*F<=40*6:=Int.mul_le_mul w1 f1 yw yw;generalize hfar:w*F=far at y aa ⊢
 (refine seq1 ?_;walk_at "dX")
 have sa:=hs.mul a1 a2;have tb:=ht.mul b1 b2;have ar:(10:Int) ^ 59=10*10 ^ 58:=by decide
 have aq:(10:Int) ^ 60=100*10 ^ 58:=by decide
 have k0:(1000:Int)<10 ^ 58:=by decide
 have av:=hs.lo;have ap:=hs.hi;have ao:=ht.lo;have au:=ht.hi;refine⟨dU yw yw,dU yw yw,dU dz dz,?_⟩;generalize s*a=sa' at sa ⊢;generalize t*b=tb' at tb ⊢;refine zN ag yw (pT yw yw) fun r2 p5 r3 r4 ae=>?_;walk_at "dX";generalize hlo:sa'+tb'+r2-far=lo
 (refine seq1 ?_;walk_at "dX")
 refine⟨dU dz dz,?_⟩;refine zN ae dz (by decide +kernel) fun r5 p6 r6 r7 ak=>?_;obtain⟨d,an,u,rfl,u0,u1⟩:=wM (P:=fun d=>∃w:Int,d=.int w/\0<=w/\w<=1000) (ds:=[cf 0,.int 1,.int 2,.int w,.int far,.int (3*w)]) r6 r7 (by
  intro d m;simp only[qr,rz,or_false]at m;rcases m with rfl|rfl|rfl|rfl|rfl|rfl<;>exact⟨_,rfl,yw,yw⟩)
 walk_at "dX";refine⟨_,an,?_⟩;walk_at "dX"
 (refine seq1 ?_;walk_at "dX")
 refine CI ak m0 yw w0 yw fun one p7 o1 o2 al=>?_;walk_at "dX";refine CI al m0 yw w0 yw fun other p8 o3 o4 am=>?_;walk_at "dX";exact q ⟨[(0,s),(1,t)],lo,lo+u⟩ s t one other p8 ⟨rfl,hs,ht,by show lo<=lo+u;omega,by show _<=lo;omega,by show lo+u<=_;omega⟩ ⟨yw,fun x m=>by have:=o2 x m;omega,fun x m=>by have:=o2 x m;omega⟩ ⟨yw,fun x m=>by have:=o4 x m;omega,fun x m=>by have:=o4 x m;omega⟩ o1 o3 ⟨by show _<=lo;omega,by show lo+u<=_;omega⟩ am
end
section
variable {R:RX}{S:Sto}
theorem bZ(ns:List Int):aQ ns=.tuple (ns.map cf):=rfl
end
section
variable {R:RX}{S:Sto}
theorem qX{α:Type}(f:α->bp)(l:List α)(z:α):dZ 0 (l.map f)=(ga l.length).map fun j=>.tuple [.int (j:Nat),f (l.getD j z)]:=by
 apply List.ext_getElem?;intro i;rw[gg];by_cases h:i<l.length
 ·obtain⟨d,hd⟩:∃d,(dZ 0 (l.map f))[i]?=some d:=⟨_,ca (by rw[kU,dh];exact h)⟩;obtain⟨e,h1,h2⟩:=g8 _ _ _ _ hd;rw[gg,ca h]at h1;rw[hd,h2,ql h];simp only[map_some,qe]at h1 ⊢;rw[<- h1,zero_add,dw,ca h];rfl
 ·rw[nc (by rw[kU,dh];omega),nc (by rw[iu];omega)];rfl
theorem Gp2.tm{g:Gap}{s t x y:Int}(h:Gp2 g s t):Tm3 [x,y].length g.ts:=by
 have hs:=h.s3;have ht:=h.t3;rw[h.ts];refine⟨yv,fun u m=>?_⟩;simp only[qr,rz,or_false]at m;rcases m with rfl|rfl
 ·exact⟨yv,hs.lo,hs.hi⟩
 ·exact⟨yv,ht.lo,ht.hi⟩
def bO(g:Gap)(x:Int)(other:List Int):List Nat:=(ga other.length).filter fun j=>zZ g [x,other.getD j 0]
def aE(c:List Nat):bp:=.list (c.map fun k:Nat=>.int k)
theorem bQ(c:List Nat):aE c=.list (c.map fun k:Nat=>.int k):=rfl
theorem FO{g:Gap}{s t x:Int}{other:List Int}{d2:bp}(e2:bR (.d d2)=some (other.map cf))(hg:Gp2 g s t)(hb:other.length<=1000)(q:R (.d (aE (bO g x other))) []\/R (.l 0) [(bO g x other).map fun k:Nat=>.int k]):pW [.d (aH g),.d (.int x),.d d2] [] R:=by
 unfold pW;walk_at "d";refine⟨_,e2,?_⟩;rw[qX cf other 0];refine cmf2 (S0:=[]) (fun j:Nat=>.int j) (fun j=>zZ g [x,other.getD j 0]) rfl (ga other.length) (by rw[iu];exact hb) ?_ ?_
 ·intro j mj u v acc R' hk;walk_at "d";refine Fb (ns:=[x,other.getD j 0]) hg.tm ?_;walk_at "d";refine hk _ _ fun _ T hT=>?_;walk_at "d";exact hT
 ·walk_at "d";exact q
theorem AD{g:Gap}{s t:Int}{one other:List Int}{d1 d2:bp}(e1:bR (.d d1)=some (one.map cf))(e2:bR (.d d2)=some (other.map cf))(hg:Gp2 g s t)(h1:one.length<=1000)(h2:other.length<=1000)(q:R (.d (.list (one.map fun x=>aE (bO g x other)))) []\/R (.l 0) [one.map fun x=>aE (bO g x other)]):oC [.d (aH g),.d d1,.d d2] [] R:=by
 unfold oC;walk_at "d";refine⟨_,e1,?_⟩;refine cmp1 (S0:=[]) (fun x=>aE (bO g x other)) rfl one h1 ?_ ?_
 ·intro x mx u acc R' hk;walk_at "d";refine FO e2 hg h2 (.inl ?_);walk_at "d";exact hk _
 ·walk_at "d";exact q
abbrev Pr:=Nat×Nat
def prD(p:Pr):bp:=.tuple [.int p.1,.int p.2]
def iH(g:Gap)(one other:List Int)(i:Nat):List Pr:=(bO g (one.getD i 0) other).map fun j=>(i,j)
def prs(g:Gap)(one other:List Int):List Pr:=(ga one.length).flatMap (iH g one other)
theorem pJ{g:Gap}{x:Int}{other:List Int}:(bO g x other).length<=other.length:=lm (List.length_filter_le _ _) (by rw[iu];exact cu _)
theorem Cj{g:Gap}{one other:List Int}:∀n:Nat,((ga n).flatMap (iH g one other)).length<=n*other.length
 | 0=>by simp
 |n+1=>by
  have:=Cj (g:=g) (one:=one) (other:=other) n;have h2:=pJ (g:=g) (x:=one.getD n 0) (other:=other);rw[List.range_succ,List.flatMap_append,fv,List.flatMap_singleton,Nat.add_mul,Nat.one_mul];unfold iH at this ⊢;rw[dh];omega
theorem Ik{g:Gap}{s t:Int}{one other:List Int}{d1 d2:bp}(e1:bR (.d d1)=some (one.map cf))(e2:bR (.d d2)=some (other.map cf))(hg:Gp2 g s t)(h1:one.length<=30)(h2:other.length<=30)(q:R (.d (.list ((prs g one other).map prD))) []\/R (.l 0) [(prs g one other).map prD]):sF [.d (aH g),.d d1,.d d2] [] R:=by
 unfold sF;walk_at "d"
 walk_at "n"
 walk_at "n";refine AD e1 e2 hg yw yw (.inl ?_);walk_at "d";rw[qX (fun x=>aE (bO g x other)) one 0];refine eY (fun i δ S=>∃(u v:Option XV),S=[((ga i).flatMap (iH g one other)).map prD]/\δ=[some (.d (aH g)),some (.d d1),some (.d d2),some (.l 0),u,v]) ⟨_,_,rfl,rfl⟩ ?_ ?_
 ·rintro i d _ _ N hi ⟨u,v,rfl,rfl⟩ hN;obtain⟨j,e,rfl⟩:=hR hi;have il:i<one.length:=by simpa using (List.getElem?_eq_some_iff.mp e).1
  have ej:i=j:=by simpa[ql il]using e
  subst ej;have fl:=pJ (g:=g) (x:=one.getD i 0) (other:=other);have pl:=Cj (g:=g) (one:=one) (other:=other) i;have pm:i*other.length<=30*30:=Nat.mul_le_mul yw h2;rw[bQ];walk_at "d";refine cmp1 (S0:=[((ga i).flatMap (iH g one other)).map prD]) (fun k:Nat=>prD (i,k)) rfl (bO g (one.getD i 0) other) yw ?_ ?_
  ·intro k mk u acc R' hk;walk_at "d";exact hk _
  ·walk_at "d";refine⟨yw,hN _ _ ⟨_,_,?_,rfl⟩⟩;rw[List.range_succ,List.flatMap_append,List.flatMap_singleton,jq];unfold iH;rw[jn];rfl
 ·rintro _ _ ⟨u,v,rfl,rfl⟩;rw[dh,iu];walk_at "d";exact q
end
section
variable {R:RX}{S:Sto}
theorem Dm{n i k:Nat}(h:(ga n)[i]?=some k):i=k/\k<n:=by
 have:=List.getElem?_eq_some_iff.mp h;obtain⟨h1,h2⟩:=this;rw[List.getElem_range]at h2;rw[iu]at h1;omega
theorem Cg{b:List Int}{j:Nat}(h:j<b.length):atI (b.map cf) (j:Int)=some (.int (b.getD j 0)):=yW (f:=cf) (by rw[dw,ca h];rfl)
end
section
variable {R:RX}{S:Sto}
theorem JR{d:bp}(q:R (.d (.bool (sX d))) []):qA [.d d] [] R:=by
 unfold qA;cases d<;>(walk_at "e";exact q)
theorem worth2{g:Gap}{s t x y:Int}(h:Gp2 g s t):worth g.ts [x,y]=s*x+t*y:=by
 rw[h.ts];simp[worth]
theorem GG{g:Gap}{s t x y:Int}(hg:Gp2 g s t)(q:R (.d (.bool (zZ g [x,y]))) []):qL [.d (aH g),.d (.int x),.d (.int y)] [] R:=by
 have hs:=hg.s3;have ht:=hg.t3;have s1:=hs.lo;have s2:=hs.hi;have t1:=ht.lo;have t2:=ht.hi;unfold qL aH jC;unfold zZ at q;rw[worth2 hg]at q;rw[hg.ts];walk_at "d"
 walk_at "n"
 unfold tmD;walk_at "d";refine⟨dU yw yw,dU yw yw,?_⟩;split
 ·rename_i h;have e:decide (g.lo<=s*x+t*y/\s*x+t*y<=g.hi)=decide (s*x+t*y<=g.hi):=by simp[h]
  rw[e]at q;exact q
 ·rename_i h;have e:decide (g.lo<=s*x+t*y/\s*x+t*y<=g.hi)=false:=by simp[h]
  rw[e]at q;exact q
theorem len2{ds:List bp}(h:ds.length=2):∃x y,ds=[x,y]:=by
 match ds,h with
 | [x,y],_=>exact⟨x,y,rfl⟩
end
section
variable {R:RX}{S:Sto}
theorem Ds{g:DG}{b:DSm}{E:DEndsM}:∀{ds:List bp}{δ:XE}{S:Sto}{M:DM} (I:Nat->XE->Sto->DM->Prop),I 0 δ S M ->
  (∀i d δ S M (N:XE->Sto->DM->Prop),ds[i]?=some d->I i δ S M->(∀ δ' S' M',I (i+1) δ' S' M'->N δ' S' M')->g (.d d) δ S fun δ1 S1=>b { nx:=N,ct:=N,bk:=E.nx,rt:=E.rt } δ1 S1 M) ->
  (∀ δ S M,I ds.length δ S M->E.nx δ S M)->eV g b ds E δ S M
 | [],δ,S,M,I,h0,_,fin=>fin δ S M h0
 |d::ds,δ,S,M,I,h0,step,fin=>by
  show g (.d d) δ S fun δ1 S1=>b _ δ1 S1 M;refine step 0 d δ S M _ rfl h0 fun δ' S' M' h1=>?_;exact Ds (ds:=ds) (fun i=>I (i+1)) h1 (fun i e δ S M N hi=>step (i+1) e δ S M N (by simpa using hi)) fin
def kN(j:Nat):Key:=Sum.inl (j:Int)
def mtD(M:Mt):List (Key×bp):=M.map fun p=>(kN p.1,.int (p.2:Nat))
def dA(a:List Nat):List (Key×bp):=a.map fun j=>(kN j,.bool true)
theorem nH{a b:Nat}:(kN a=kN b)=(a=b):=by
 unfold kN;simp only[Sum.inl.injEq,Int.natCast_inj]
theorem sR:∀(M:Mt) (j:Nat),lkA (mtD M) (kN j)=(lkA M j).map fun i=>.int (i:Nat)
 | [],j=>rfl
 |p::M,j=>by
  have ih:=sR M j;unfold lkA mtD at ih ⊢;rw[fw,rn,rn];simp only[nH];by_cases h:p.1=j
  ·simp[h]
  ·simp only[h,decide_false];exact ih
theorem AR(M:Mt)(j i:Nat):ptA (mtD M) (kN j) (.int (i:Nat))=mtD (ptA M j i):=by
 unfold ptA mtD;have e:((M.map fun p=>((kN p.1,.int (p.2:Nat)):Key×bp)).any fun p=>decide (p.1=kN j))=M.any fun p=>decide (p.1=j):=by
  rw[List.any_map];congr 1;funext p;simp only[Function.comp,nH]
 rw[e];split
 ·rw[jn,jn];congr 1;funext p;simp only[Function.comp,nH];split<;>rfl
 ·rw[jq];rfl
theorem Gp(a:List Nat)(j:Nat):(lkA (dA a) (kN j)).isSome=decide (j∈a):=by
 unfold lkA dA;rw[isSome_map,Bool.eq_iff_iff,List.find?_isSome];simp only[mem_map,decide_eq_true_eq];constructor
 ·rintro⟨_,⟨x,mx,rfl⟩,e⟩;rw[nH]at e;exact e▸mx
 ·intro h;exact⟨_,⟨j,h,rfl⟩,rfl⟩
theorem Fi{a:List Nat}{j:Nat}(h:j∉a):ptA (dA a) (kN j) (.bool true)=dA (a++[j]):=by
 unfold ptA;rw[ci]
 ·unfold dA;rw[jq];rfl
 ·intro z;rw[any_eq_true]at z;obtain⟨p,mp,e⟩:=z;obtain⟨x,mx,rfl⟩:=mem_map.mp mp;have e2:=jf e;rw[nH]at e2;exact h (e2▸mx)
def cS(q:List (List Nat)):bp:=.list (q.map aE)
theorem kP(q:List (List Nat)):cS q=.list (q.map aE):=rfl
theorem B6{q:List (List Nat)}{i:Nat}(h:i<q.length):atI (q.map aE) (i:Int)=some (aE (aF q i)):=by
 refine gJ ?_;rw[gg,ca h];unfold aF;rw[dw,ca h];rfl
def dmO(a p:Addr)(M:Mt)(k:List Nat):DM:=[(a,.k (mtD M)),(p,.k (dA k))]
theorem Gb{a p:Addr}(h:p≠a){M:Mt}{k k':List Nat}:fF (dmO a p M k) p (.k (dA k'))=dmO a p M k':=by
 unfold fF dmO;simp[kj h]
theorem xM{a p:Addr}(h:p≠a){M M':Mt}{k:List Nat}:fF (dmO a p M k) a (.k (mtD M'))=dmO a p M' k:=by
 unfold fF dmO;simp[h]
theorem wG(M:Mt):(mtD M).length=M.length:=dh ..
theorem ER(k:List Nat):(dA k).length=k.length:=dh ..
structure St8(rows:List (List Nat))(m:Nat)(M:Mt)(k:List Nat):Prop where
 kn:KN M
 ed:Ed rows M
 vl:∀p∈M,p.2<rows.length
 nd:k.Nodup
 lt:∀j∈k,j<m
theorem CO{q:List (List Nat)}{m:Nat}(hr:∀i,∀j∈aF q i,j<m){M:Mt}(hn:KN M)(he:Ed q M):M.length<=m:=by
 unfold KN at hn;have:=gH (l:=M.map fun p=>p.1) (l':=ga m) hn fun x mx=>by
  obtain⟨p,mp,rfl⟩:=mem_map.mp mx;exact mem_range.mpr (hr p.2 _ (he p mp))
 simpa using this
theorem uZ{m:Nat}{k:List Nat}(hn:k.Nodup)(hl:∀j∈k,j<m):k.length<=m:=by
 have:=gH (l':=ga m) hn fun x mx=>mem_range.mpr (hl x mx);simpa using this
theorem Ak{aa:List (List Nat)}{m:Nat}(hr:∀i,∀j∈aF aa i,j<m)(hm:m<900){a p:Addr}(ap:p≠a):∀(n i:Nat) (M:Mt) (k:List Nat) (R:bp->Sto->DM->Prop),i<aa.length->St8 aa m M k->m<n+k.length ->
  R (.bool (fm aa n i M k).1) [] (dmO a p (fm aa n i M k).2.1 (fm aa n i M k).2.2)->iL n [.d (cS aa),.d (.int (i:Nat)),.o (.ref a),.o (.ref p)] [] (dmO a p M k) R
 | 0,i,M,k,R,_,st,hk,_=>by
  have:=uZ st.nd st.lt;omega
 |n+1,i,M,k,R,hi,st,hk,q=>by
  unfold iL;refine seqm ?_;rw[kP];walk_at "d";refine⟨_,B6 hi,?_⟩;rw[bQ];walk_at "d";have go:∀(js:List Nat) (M:Mt) (k:List Nat) (u:Option XV) (En:DEndsM),(∀j∈js,j∈aF aa i)->St8 aa m M k->m<n+1+k.length ->
    ((fmL (fm aa n) i js M k).1=true->En.rt (.d (.bool true)) [] (dmO a p (fmL (fm aa n) i js M k).2.1 (fmL (fm aa n) i js M k).2.2)) ->
    ((fmL (fm aa n) i js M k).1=false->∀u',En.nx [some (.d (cS aa)),some (.d (.int (i:Nat))),some (.o (.ref a)),some (.o (.ref p)),u'] [] (dmO a p (fmL (fm aa n) i js M k).2.1 (fmL (fm aa n) i js M k).2.2)) ->
    eV (zl 4) (eK (gR (fun M=>(dB (dOp (eW M false) (zh 4) (zh 3)))) (cJ hV) (cJ aK)) (eK (fA 3 (fun M=>(zh 4)) (fun M=>(dC (.bool true)))) (iB (gU (dmT (fun M=>(dB (dOp (eW M true) (zh 4) (zh 2))))) (gG 4 (iL n) (fun M=>(zc (zh 0) (zc (gM M (zh 2) (zh 4)) (zc (zh 2) (zc (zh 3) zq))))))) (eK (fA 2 (fun M=>(zh 4)) (fun M=>(zh 1))) (cJ (aB (dC (.bool true))))) (cJ aK)))) (js.map fun k:Nat=>.int k) En [some (.d (cS aa)),some (.d (.int (i:Nat))),some (.o (.ref a)),some (.o (.ref p)),u] [] (dmO a p M k):=by
   intro js;induction js with
   |nil=>
    intro M k u En _ _ _ _ h2;exact h2 rfl u
   |cons j js ih=>
    intro M k u En hj st hk h1 h2;have ae:∀x∈js,x∈aF aa i:=fun x mx=>hj x (cz _ mx);have jm:j<m:=hr i j (hj j fu);rw[fw];unfold eV;walk_at "d";refine seqm ?_;walk_at "d";refine⟨.k (dA k),lkA (dA k) (kN j),.inl ⟨p,rfl,by simp[dmO]⟩,rfl,?_⟩;rw[Gp];unfold fmL at h1 h2;by_cases ja:j∈k
    ·rw[ck ja]at h1 h2;rw[ck (by simpa using ja)];exact ih M k _ En ae st hk h1 h2
    ·rw[ci ja]at h1 h2;rw[ci (by simpa using ja)];refine seqm ?_;walk_at "d";have ac:(k++[j]).Nodup:=by
      rw[nodup_append];refine⟨st.nd,yv,fun x mx y my e=>?_⟩;rw[mem_singleton.mp my]at e;exact ja (e▸mx)
     have af:∀x∈k++[j],x<m:=fun x mx=>by
      rcases mem_append.mp mx with mx|mx
      ·exact st.lt x mx
      ·rw[mem_singleton.mp mx];exact jm
     have ah:St8 aa m M (k++[j]):=⟨st.kn,st.ed,st.vl,ac,af⟩;have l1:(k++[j]).length=k.length+1:=by simp
     refine⟨p,rfl,.k (dA k),.k (dA (k++[j])),by simp[dmO],?_,?_,?_⟩
     ·show some (DD.k (ptA (dA k) (kN j) (.bool true)))=_;rw[Fi ja]
     ·show (dA k).length<1000;rw[ER];have:=uZ st.nd st.lt;omega
     ·rw[Gb ap];walk_at "d";refine⟨.k (mtD M),lkA (mtD M) (kN j),.inl ⟨a,rfl,by simp[dmO]⟩,rfl,?_⟩;rw[sR];have ml:=CO hr st.kn st.ed;cases h:lkA M j with
      |none=>
       rw[h]at h1 h2;walk_at "d";rw[ck yv];refine seqm ?_;walk_at "d";refine⟨a,rfl,.k (mtD M),.k (mtD (ptA M j i)),by simp[dmO],?_,?_,?_⟩
       ·show some (DD.k (ptA (mtD M) (kN j) (.int (i:Nat))))=_;rw[AR]
       ·show (mtD M).length<1000;rw[wG];omega
       ·rw[xM ap];exact h1 rfl
      |some i2=>
       rw[h]at h1 h2;walk_at "d";rw[ci yv];refine⟨.k (mtD M),.int (i2:Nat),.inl ⟨a,rfl,by simp[dmO]⟩,?_,?_⟩
       ·show some (lkA (mtD M) (kN j))=_;rw[sR,h];rfl
       have ag:i2<aa.length:=st.vl _ (rV h);have ab:=vS hr n i2 M (k++[j]) st.kn st.ed ac af yw;refine Ak hr hm ap n i2 M (k++[j]) _ ag ah yw ?_;simp only at h1 h2;generalize fm aa n i2 M (k++[j])=r at ab h1 h2 ⊢;obtain⟨b,M',k'⟩:=r;simp only at h1 h2 ⊢;refine⟨trivial,b,rfl,?_⟩;cases b with
       |true=>
        obtain⟨y1,y2,y3,_⟩:=ab.yes rfl;simp only at y1 y2 y3;rw[ck rfl]at h1 h2;walk_at "d";refine seqm ?_;walk_at "d";have ai:=CO hr y1 y2;refine⟨a,rfl,.k (mtD M'),.k (mtD (ptA M' j i)),by simp[dmO],?_,?_,?_⟩
        ·show some (DD.k (ptA (mtD M') (kN j) (.int (i:Nat))))=_;rw[AR]
        ·show (mtD M').length<1000;rw[wG];omega
        ·rw[xM ap];exact h1 rfl
       |false=>
        obtain⟨n1,_,_⟩:=ab.no rfl;simp only at n1;subst n1;rw[ci yv]at h1 h2;walk_at "d";have la:(k++[j]).length<=k'.length:=gH ac fun x mx=>ab.sub x mx;exact ih M' k' _ En ae ⟨st.kn,st.ed,st.vl,ab.nd,ab.lt⟩ yw h1 h2
  refine go (aF aa i) M k none _ (fun _ h=>h) st yw (fun h=>?_) (fun h u'=>?_)
  ·walk_at "d";unfold fm at q;rw[h]at q;exact q
  ·walk_at "d";unfold fm at q;rw[h]at q;exact q
theorem er9(n:Nat):fH 0 ((n:Nat):Int).toNat=(ga n).map fun k:Nat=>.int k:=by
 unfold fH;rw[Int.toNat_natCast];exact nl fun k _=>by rw[Int.zero_add]
theorem EK(a p:Addr)(M:Mt):[(a,DD.k (mtD M)),(p,DD.k [])]=dmO a p M []:=rfl
theorem JS{y:List (List Nat)}{m:Nat}(hr:∀i,∀j∈aF y i,j<m)(hm:m<12){a p:Addr}(ap:p≠a){i:Nat}{M:Mt}{R:bp->Sto->DM->Prop}(hi:i<y.length)(kn:KN M)(ed:Ed y M)(vl:∀p∈M,p.2<y.length)
  (q:R (.bool (fm y 12 i M []).1) [] (dmO a p (fm y 12 i M []).2.1 (fm y 12 i M []).2.2)):pO [.d (cS y),.d (.int (i:Nat)),.o (.ref a),.o (.ref p)] [] [(a,.k (mtD M)),(p,.k [])] R:=by
 unfold pO;rw[EK];exact Ak hr yw ap 12 i M [] R hi ⟨kn,ed,vl,mw,fun j h=>(nomatch h)⟩ (by simpa using hm) q
theorem BR{y:List (List Nat)}{m:Nat}(hb:Bd m y)(hm:m<12)(hl:y.length<=1000)(q:R (.d (.dict (DD.pairs (.k (mtD (mmN y 12 y.length)))))) []):kB [.d (cS y)] [] R:=by
 unfold kB;refine seq1 ?_;rw[kP];walk_at "d";intro a _;walk_at "d";rw[er9];refine Ds (fun i δ S M=>∃(u:Option XV),S=[]/\M=[(a,.k (mtD (mmN y 12 i)))]/\δ=[some (.d (cS y)),some (.o (.ref a)),u]) ⟨_,rfl,rfl,rfl⟩ ?_ ?_
 ·rintro i d _ _ _ N hi ⟨u,rfl,rfl,rfl⟩ hN;obtain⟨k,e,rfl⟩:=hR hi;obtain⟨rfl,il⟩:=Dm e;have ok:=sO hb.row hm i;walk_at "d";intro p hp;have ap:p≠a:=by simpa[ad]using hp
  refine JS hb.row hm ap il ok.kn ok.ed (fun p mp=>Nat.lt_trans (ok.vl p mp) il) ?_;refine⟨rfl,_,_,rfl,hN _ _ _ ⟨_,rfl,rfl,rfl⟩⟩
 ·rintro _ _ _ ⟨u,rfl,rfl,rfl⟩;rw[dh,iu];refine⟨[],_,rfl,rfl,?_⟩;walk_at "d";rw[show j6 a (mtD (mmN y 12 y.length)) (.o (.ref a))=.d (.dict (DD.pairs (.k (mtD (mmN y 12 y.length)))))from ck rfl];exact q
theorem Fw(u:List Nat)(j:Nat):((u.map fun k:Nat=>cf k).any fun y=>om y (.int (j:Nat)))=decide (j∈u):=by
 rw[List.any_map,Bool.eq_iff_iff,any_eq_true];simp only[Function.comp,k6,decide_eq_true_eq];constructor
 ·rintro⟨x,mx,e⟩;have:x=j:=yw
  exact this▸mx
 ·intro h;exact⟨j,h,rfl⟩
theorem shN(u:List Nat):gp (.list (u.map fun k:Nat=>cf k))=true:=(FE (F6 fun _ _=>(JY:Shp 0 _))).ok
theorem xR{r u:List Nat}(hl:r.length<=1000)(q:R (.d (aE (frR u r))) []\/R (.l 0) [(frR u r).map fun k:Nat=>.int k]):jV [.d (aE r),.d (aE u)] [] R:=by
 unfold jV;rw[bQ,bQ];walk_at "d";refine cmf1 (S0:=[]) (fun j:Nat=>.int j) (fun j=>decide (j∉u)) rfl r hl ?_ ?_
 ·intro j mj v acc R' hk;walk_at "d";refine⟨shN u,?_⟩;rw[Fw];rw[show (!decide (j∈u))=decide (j∉u)from by simp];refine hk _ fun _ T hT=>?_;walk_at "d";exact hT
 ·walk_at "d";exact q
theorem D9{q:List (List Nat)}:(mtD (mmN q 12 q.length)).length=nu 12 q:=by
 rw[wG];rfl
theorem GF{aa:List (List Nat)}{m i w:Nat}{u:List Nat}{k:Int}(hb:Bd m aa)(hm:m<12)(hl:aa.length<=900)(ab:∀r∈aa,r.length<=900)(hi:i<aa.length)(hk:k=w-1)(hu:u.length<=900)
  (q:R (.d (((frR u (aF aa i)).find? fun j=>decide (nu 12 (frs8 (u++[j]) (aa.drop (i+1)))+1=w)).elim .none fun j=>.int (j:Nat))) []):rH [.d (cS aa),.d (.int (i:Nat)),.d (aE u),.d (.int k)] [] R:=by
 have rl:(aF aa i).length<=900:=by
  unfold aF;rw[dw,ca hi];exact ab _ (getElem_mem hi)
 unfold rH;refine seq1 ?_;rw[kP];walk_at "d";refine⟨_,B6 hi,?_⟩;refine xR yw (.inl ?_);rw[bQ];walk_at "d";refine⟨_,(show bR (.d (aE (frR u (aF aa i))))=some ((frR u (aF aa i)).map fun k:Nat=>.int k)from rfl),?_⟩;generalize hf:frR u (aF aa i)=fr at q ⊢;have go:∀(js:List Nat) (x y:Option XV) (En:DEnds),(∀j,(js.find? fun j=>decide (nu 12 (frs8 (u++[j]) (aa.drop (i+1)))+1=w))=some j->En.rt (.d (.int (j:Nat))) []) ->
   ((js.find? fun j=>decide (nu 12 (frs8 (u++[j]) (aa.drop (i+1)))+1=w))=none->∀x' y',En.nx [some (.d (cS aa)),some (.d (.int (i:Nat))),some (.d (aE u)),some (.d (.int k)),x',y'] []) ->
   gK (zl 4) (aA (aC (bA [none,some 2,some 4] (aW (dSl fX (zh 0) (bY (dOp aP (zh 1) (dC (.int 1)))) fB)) (zl 0) aL (aG 2 jV (zc (zh 0) (zc (dOp aP (zh 1) (cU (zc (zh 2) zq))) zq)))) (zl 5)) (aN (dB (dOp cM (dCB f7 (zc (aG 1 kB (zc (zh 5) zq)) zq)) (zh 3))) (aB (zh 4)) aK)) (js.map fun k:Nat=>.int k) En [some (.d (cS aa)),some (.d (.int (i:Nat))),some (.d (aE u)),some (.d (.int k)),x,y] []:=by
  intro js;induction js with
  |nil=>
   intro x y En _ h2;exact h2 rfl x y
  |cons j js ih=>
   intro x y En h1 h2;rw[fw];unfold gK;rw[kP,bQ];walk_at "d"
   walk_at "n"
   rw[JE hi];refine cmp1 (S0:=[]) (fun r=>aE (frR (u++[j]) r)) rfl (aa.drop (i+1)) (by rw[ln];omega) ?_ ?_
   ·intro r mr v acc R' ac;walk_at "d";rw[show (u.map (fun k:Nat=>cf k)++[cf (j:Nat)])=(u++[j]).map (fun k:Nat=>cf k)from by rw[jq];rfl,<- bQ];refine⟨yw,?_⟩;refine xR (r:=r) (by have:=ab r (pk mr);omega) (.inl ?_);walk_at "d";exact ac _
   ·refine⟨[],_,rfl,rfl,?_⟩;have ae:Bd m (frs8 (u++[j]) (aa.drop (i+1))):=Bd.fr (fun r hr=>hb r (pk hr)) _;rw[show (sj ((aa.drop (i+1)).map fun r=>aE (frR (u++[j]) r)))=cS (frs8 (u++[j]) (aa.drop (i+1)))from by unfold cS frs8;rw[jn];rfl];refine BR ae hm (by rw[tJ,ln];omega) ?_;walk_at "d";refine⟨_,rfl,?_⟩;rw[D9];by_cases e:nu 12 (frs8 (u++[j]) (aa.drop (i+1)))+1=w
    ·rw[ck yw];exact h1 j (List.find?_cons_of_pos (by simpa using e))
    ·rw[ci yw];have e2:(j::js).find? (fun j=>decide (nu 12 (frs8 (u++[j]) (aa.drop (i+1)))+1=w))=js.find? (fun j=>decide (nu 12 (frs8 (u++[j]) (aa.drop (i+1)))+1=w)):=qd (by simpa using e);rw[e2]at h1 h2;exact ih _ _ En h1 h2
 rw[<- kP,<- bQ];refine go fr none none _ (fun j e=>?_) (fun e x' y'=>?_)
 ·walk_at "d";rw[e]at q;exact q
 ·walk_at "d";rw[e]at q;exact q
def bK(g:Gap)(one other:List Int):List (List Nat):=one.map fun x=>bO g x other
theorem Hm{g:Gap}{one other:List Int}:sj (one.map fun x=>aE (bO g x other))=cS (bK g one other):=by
 unfold cS bK;rw[jn];rfl
theorem uI{g:Gap}{one other:List Int}:Bd other.length (bK g one other):=fun r hr j hj=>by
 obtain⟨x,_,rfl⟩:=mem_map.mp hr;unfold bO at hj;exact mem_range.mp (mem_filter.mp hj).1
theorem Ga{g:Gap}{one other:List Int}:∀r∈bK g one other,r.Pairwise (· < ·):=fun r hr=>by
 obtain⟨x,_,rfl⟩:=mem_map.mp hr;unfold bO;exact List.pairwise_lt_range.sublist List.filter_sublist
theorem EQ{g:Gap}{one other:List Int}:∀r∈bK g one other,r.length<=other.length:=fun r hr=>by
 obtain⟨x,_,rfl⟩:=mem_map.mp hr;exact pJ
def mtc(g:Gap)(one other:List Int):List Pr:=gr 12 (bK g one other) 0 [] (nu 12 (bK g one other))
theorem KM{g:Gap}{s t:Int}{one other:List Int}{d1 d2:bp}(e1:bR (.d d1)=some (one.map cf))(e2:bR (.d d2)=some (other.map cf))(hg:Gp2 g s t)(h1:one.length<=30)(h2:other.length<=11)(q:R (.d (.list ((mtc g one other).map prD))) []\/R (.l 0) [(mtc g one other).map prD]):rT [.d (aH g),.d d1,.d d2] [] R:=by
 have hb:=uI (g:=g) (one:=one) (other:=other);have hl:=EQ (g:=g) (one:=one) (other:=other);have fl:(bK g one other).length=one.length:=dh ..;unfold rT;walk_at "d"
 walk_at "n"
 refine AD e1 e2 hg yw yw (.inl ?_);walk_at "d";rw[Hm];unfold mtc at q;generalize bK g one other=rows at hb hl fl q ⊢
 walk_at "n"
 refine BR hb yw yw ?_;walk_at "d";refine⟨_,rfl,?_⟩;rw[D9]
 walk_at "n"
 walk_at "n"
 refine seq1 ?_;rw[kP];walk_at "d";rw[er9];refine eY (fun i δ S=>∃(aa:List Pr) (w:Nat) (x y:Option XV),gr 12 rows 0 [] (nu 12 rows)=aa++gr 12 (rows.drop i) i (aa.map (·.2)) w/\aa.length+w=nu 12 rows/\aa.length<=i/\S=[aa.map prD,(aa.map (·.2)).map fun k:Nat=>.int k]/\δ=[some (.d (aH g)),some (.d d1),some (.d d2),some (.d (cS rows)),some (.d (.int (nu 12 rows:Nat))),some (.l 0),some (.l 1),x,y]) ⟨[],_,_,_,rfl,zero_add _,nq _,rfl,rfl⟩ ?_ ?_
 ·rintro i d _ _ N hi ⟨aa,w,x,y,ge,gl,tl,rfl,rfl⟩ hN;obtain⟨k,e,rfl⟩:=hR hi;obtain⟨rfl,il⟩:=Dm e;walk_at "d"
  walk_at "n"
  rw[<- bQ];refine GF (w:=w) hb yw yw (fun r hr=>by have:=hl r hr;omega) il yw (by rw[dh];omega) ?_;rw[gv il]at ge;have gc:∀(r:List Nat) (rs:List (List Nat)) (i:Nat) (u:List Nat) (w:Nat),gr 12 (r::rs) i u w=(match (frR u r).find? fun j=>decide (nu 12 (frs8 (u++[j]) rs)+1=w)with|some j=>(i,j)::gr 12 rs (i+1) (u++[j]) (w-1)|none=>gr 12 rs (i+1) u w):=fun _ _ _ _ _=>rfl;rw[gc]at ge;have er:rows[i]=aF rows i:=by
   unfold aF;rw[dw,ca il];rfl
  rw[er]at ge;cases hf:(frR (aa.map (·.2)) (aF rows i)).find? fun j=>decide (nu 12 (frs8 (aa.map (·.2)++[j]) (rows.drop (i+1)))+1=w)with
  |none=>
   rw[hf]at ge;simp only at ge;rw[Option.elim_none];walk_at "d";exact⟨rfl,hN _ _ ⟨aa,w,_,_,ge,gl,yw,rfl,rfl⟩⟩
  |some j=>
   rw[hf]at ge;simp only at ge;have hw:=find?_some hf;have ac:nu 12 (frs8 (aa.map (·.2)++[j]) (rows.drop (i+1)))+1=w:=by simpa using hw
   rw[Option.elim_some];walk_at "d";refine⟨rfl,?_⟩
   walk_at "n"
   refine⟨yw,yw,?_⟩;refine hN _ _ ⟨aa++[(i,j)],w-1,_,_,?_,by rw[fv,je];omega,by rw[fv,je];omega,?_,rfl⟩
   ·rw[ge,jq,fy];rfl
   ·rw[jq,jq,jq];rfl
 ·rintro _ _ ⟨aa,w,x,y,ge,gl,tl,rfl,rfl⟩;rw[dh,iu]at ge;rw[drop_length]at ge;have ab:gr 12 rows 0 [] (nu 12 rows)=aa:=by rw[ge];unfold gr;rw[kc]
  rw[ab]at q;walk_at "d";exact q
end
section
variable {R:RX}{S:Sto}
theorem rK{α β:Type}{f:α->β}{l:List α}{b k:Nat}:cD (l.map f) (some (b:Nat)) (some ((b:Int)+(k:Nat)))=((l.drop b).take k).map f:=by
 have hs:∀(i d:Nat),HT.sIx (l.map f).length d (some (i:Nat))=min i (l.map f).length:=fun i d=>by
  unfold HT.sIx;simp;omega
 unfold cD;rw[show ((b:Int)+(k:Nat))=((b+k:Nat):Int)from by omega,hs,hs,<- map_drop,<- map_take,dh];congr 1;by_cases h:b<=l.length
 ·rw[min_eq_left h];by_cases h2:b+k<=l.length
  ·rw[min_eq_left h2,show b+k-b=k from by omega]
  ·rw[Nat.min_eq_right yw,jt (by rw[ln];omega),jt (by rw[ln];omega)]
 ·rw[Nat.min_eq_right yw,Nat.min_eq_right yw,drop_length,List.drop_eq_nil_of_le (show l.length<=b by omega)];simp
def bX(g:Gap)(xs ys:List Int):Bool:=xs.all fun x=>ys.all fun y=>zZ g [x,y]
theorem FR{α:Type}{p:α->Bool}:∀{l:List α},(l.filter p).length=l.length↔l.all p=true
 |l=>by
  rw[mv];constructor
  ·intro h;have:=List.filter_sublist (p:=p) (l:=l) |>.eq_of_length h
   exact List.filter_eq_self.mp this
  ·intro h;rw[List.filter_eq_self.mpr h]
theorem FD{g:Gap}{x:Int}{ys:List Int}:(bO g x ys).length=ys.length↔(ys.all fun y=>zZ g [x,y])=true:=by
 have e:((ga ys.length).filter fun j=>zZ g [x,ys.getD j 0]).length=(ga ys.length).length↔((ga ys.length).all fun j=>zZ g [x,ys.getD j 0])=true:=FR;unfold bO;rw[iu]at e;rw[e,mv,mv];constructor
 ·intro h y my;obtain⟨j,hj,rfl⟩:=List.mem_iff_getElem.mp my;have:=h j (mem_range.mpr hj)
  rwa [dw,ca hj]at this
 ·intro h j mj;have hj:=mem_range.mp mj;rw[dw,ca hj];exact h _ (getElem_mem hj)
theorem He{g:Gap}{ys:List Int}:∀xs:List Int,(prs g xs ys).length<=xs.length*ys.length/\((prs g xs ys).length=xs.length*ys.length↔bX g xs ys=true):=by
 have key:∀(xs:List Int),(prs g xs ys).length=(xs.map fun x=>(bO g x ys).length).sum:=fun xs=>by
  unfold prs;rw[List.length_flatMap];congr 1;apply List.ext_getElem?;intro i;rw[gg,gg];by_cases h:i<xs.length
  ·rw[ql h,ca h];simp only[map_some,qe];unfold iH;rw[dh,dw,ca h];rfl
  ·rw[nc (by rw[iu];omega),nc yw];rfl
 intro xs;rw[key];induction xs with
 |nil=>simp[bX]
 |cons x xs ih=>
  have fl:=pJ (g:=g) (x:=x) (other:=ys);have fa:=FD (g:=g) (x:=x) (ys:=ys);rw[fw,sum_cons,ff,Nat.add_mul,Nat.one_mul];refine⟨yw,?_⟩;have ea:bX g (x::xs) ys=((ys.all fun y=>zZ g [x,y])&&bX g xs ys):=rfl;rw[ea,jw,<- fa,<- ih.2];have:=ih.1;omega
theorem Gi{g:Gap}{s t:Int}{xs ys:List Int}(hg:Gp2 g s t)(h1:xs.length<=30)(h2:ys.length<=30)(q:R (.d (.bool (bX g xs ys))) []):rG [.d (aH g),.d (.list (xs.map cf)),.d (.list (ys.map cf))] [] R:=by
 unfold rG;walk_at "d";refine Ik (one:=xs) (other:=ys) rfl rfl hg h1 h2 (.inl ?_);walk_at "d";refine⟨wS yw yw,?_⟩;obtain⟨p1,p2⟩:=He (g:=g) (ys:=ys) xs;rw[show decide (((prs g xs ys).length:Int)=(xs.length:Int)*(ys.length:Int))=bX g xs ys from ?_]
 ·exact q
 ·rw[Bool.eq_iff_iff,<- p2,decide_eq_true_eq,<- Int.natCast_mul,Int.natCast_inj]
structure Rws(g:Gap)(s t:Int)(one other A B:List Int):Prop where
 pa:A.Perm one
 pb:B.Perm other
 sa:A.Pairwise (· <= ·)
 sb:if s*t<0 then B.Pairwise (· <= ·)else B.Pairwise (· ≥ ·)
theorem Rws.uniq{g:Gap}{s t:Int}{one other A B A' B':List Int}(h:Rws g s t one other A B)(h':Rws g s t one other A' B'):A=A'/\B=B':=by
 refine⟨rR (h.pa.trans h'.pa.symm) h.sa h'.sa,?_⟩;have b1:=h.sb;have b2:=h'.sb;by_cases z:s*t<0
 ·rw[ck z]at b1 b2;exact rR (h.pb.trans h'.pb.symm) b1 b2
 ·rw[ci z]at b1 b2;exact EV (h.pb.trans h'.pb.symm) b1 b2
def aV(g:Gap)(A B:List Int)(i j:Nat):Bool:=zZ g [A.getD i 0,B.getD j 0]
def jI(A B:List Int):bp:=.tuple [.list (A.map cf),.list (B.map cf)]
theorem Es(A B:List Int):jI A B=.tuple [.list (A.map cf),.list (B.map cf)]:=rfl
theorem Ew{s t:Int}(hs:Tim s)(ht:Tim t):(decide (([(0,s),(1,t)].filter fun p:Nat×Int=>decide (p.2<0)).length=1))=decide (s*t<0):=by
 have e1:s = -3\/s = -2\/s = -1\/s=1\/s=2\/s=3:=by have:=hs.lo;have:=hs.hi;have:=hs.ne;omega
 have e2:t = -3\/t = -2\/t = -1\/t=1\/t=2\/t=3:=by have:=ht.lo;have:=ht.hi;have:=ht.ne;omega
 rcases e1 with rfl|rfl|rfl|rfl|rfl|rfl<;>rcases e2 with rfl|rfl|rfl|rfl|rfl|rfl<;>rfl
theorem Jr{g:Gap}{s t:Int}(hg:Gp2 g s t)(q:R (.d (.bool (decide (s*t<0)))) []):zX [.d (.tuple (g.ts.map tmD))] [] R:=by
 unfold zX;walk_at "d";rw[hg.ts];refine cmf2 (S0:=[]) (fun p:Nat×Int=>.int p.2) (fun p=>decide (p.2<0)) rfl [(0,s),(1,t)] yv ?_ ?_
 ·intro p mp u v acc R' hk;rw[tZ];walk_at "d";refine hk _ _ fun _ T hT=>?_;walk_at "d";exact hT
 ·walk_at "d";have e:=Ew hg.s3 hg.t3;rw[<- e]at q;rw[show decide ((([(0,s),(1,t)].filter fun p:Nat×Int=>decide (p.2<0)).length:Int)=1)=decide (([(0,s),(1,t)].filter fun p:Nat×Int=>decide (p.2<0)).length=1)from by rw[decide_eq_decide];omega];exact q
theorem Dh{g:Gap}{s t:Int}{one other:List Int}(hg:Gp2 g s t)(h1:one.length<=30)(h2:other.length=one.length)(q:∀A B,Rws g s t one other A B->R (.d (jI A B)) []):mH [.d (aH g),.d (aQ one),.d (aQ other)] [] R:=by
 unfold mH;rw[bZ,bZ];walk_at "d"
 walk_at "n"
 rw[h2,ci yv];rw[jK]
 walk_at "n"
 unfold jC;refine Jr hg ?_;walk_at "d";by_cases z:s*t<0
 ·rw[ck z];refine⟨one,rfl,yw,fun A pa sa=>?_⟩;refine⟨other,rfl,yw,fun B pb sb=>?_⟩;exact q A B ⟨pa,pb,sa,by rw[ck z];exact sb⟩
 ·rw[ci z];refine⟨one,rfl,yw,fun A pa sa=>?_⟩;refine⟨other,rfl,yw,fun B pb sb=>?_⟩;exact q A B ⟨pa,pb,sa,by rw[ci z];exact sb⟩
theorem DL{g:Gap}{s t:Int}{A B:List Int}{b k:Nat}(hg:Gp2 g s t)(h1:A.length<=30)(h2:B.length<=30)(q:R (.d (.bool (bX g ((A.drop b).take k) ((B.drop b).take k)))) []):oA [.d (aH g),.d (jI A B),.d (.int (b:Nat)),.d (.int (k:Nat))] [] R:=by
 unfold oA;rw[Es];walk_at "d";rw[rK,rK];refine Gi hg (by rw[ju,ln];omega) (by rw[ju,ln];omega) ?_;walk_at "d";exact q
theorem qH{g:Gap}{A B:List Int}{n b k:Nat}(hA:A.length=n)(hB:B.length=n)(hk:b+k<=n):bX g ((A.drop b).take k) ((B.drop b).take k)=true↔FitI (aV g A B) b k:=by
 have gt:∀{L:List Int} (hL:L.length=n) (i:Nat),b<=i->i<b+k->L.getD i 0∈(L.drop b).take k:=fun {L} hL i h1 h2=>by
  refine mem_iff_getElem?.mpr ⟨i-b,?_⟩;rw[List.getElem?_take_of_lt yw,qc,show b+(i-b)=i from by omega,dw,ca yw];rfl
 have gf:∀{L:List Int} (hL:L.length=n) (x:Int),x∈(L.drop b).take k->∃i,b<=i/\i<b+k/\x=L.getD i 0:=fun {L} hL x m=>by
  obtain⟨i,e⟩:=mem_iff_getElem?.mp m;have il:i<k:=by
   have:=(List.getElem?_eq_some_iff.mp e).1;rw[ju]at this;omega
  rw[List.getElem?_take_of_lt il,qc]at e;exact⟨b+i,yw,yw,by rw[dw,e];rfl⟩
 unfold bX FitI aV;rw[mv];constructor
 ·intro h i j a1 a2 a3 a4;exact all_eq_true.mp (h _ (gt hA i a1 a2)) _ (gt hB j a3 a4)
 ·intro h x mx;rw[mv];intro y my;obtain⟨i,a1,a2,rfl⟩:=gf hA x mx;obtain⟨j,a3,a4,rfl⟩:=gf hB y my;exact h i j a1 a2 a3 a4
def cG:Option (List Nat)->bp
 |none=>.none
 |some l=>aE l
theorem B8{F:Nat->Nat->Bool}{fit:Nat->Bool}:∀{G:List (Option (List Nat))}{z:Nat},(cands F fit z G).length<=G.length
 | [],z=>cu _
 |o::r,z=>by
  unfold cands;rw[fv,ff];have:=B8 (F:=F) (fit:=fit) (G:=r) (z:=z+1);cases o with
  |none=>simp;omega
  |some f=>
   dsimp only;split<;>simp<;>omega
theorem xO{F:Nat->Nat->Bool}{fit:Nat->Bool}{o:Option (List Nat)}:∀{G:List (Option (List Nat))}{z:Nat},cands F fit z (G++[o])=cands F fit z G++cands F fit (z+G.length) [o]
 | [],z=>rfl
 |o'::r,z=>by
  show _++cands F fit (z+1) (r++[o])=(_++cands F fit (z+1) r)++_;rw[xO,fy,ff,show z+1+r.length=z+(r.length+1)from by omega]
theorem Jv{g:Gap}{s t:Int}{A B:List Int}{F:Nat->Nat->Bool}{b:Nat}{G:List (Option (List Nat))}(hg:Gp2 g s t)(h1:A.length<=30)(h2:B.length<=30)(hG:G.length<=30)(hl:∀l,some l∈G->l.length<=30)
  (q:∀o,IsMn (cands F (fun k=>bX g ((A.drop b).take k) ((B.drop b).take k)) 1 G) o->R (.d (cG o)) []):pR [.d (aH g),.d (jI A B),.d (.int (b:Nat)),.d (.list (G.map cG))] [] R:=by
 unfold pR;walk_at "d"
 walk_at "n"
 walk_at "n";generalize hF:(fun k=>bX g ((A.drop b).take k) ((B.drop b).take k))=fit at q;have fe:∀k,bX g ((A.drop b).take k) ((B.drop b).take k)=fit k:=fun k=>congrFun hF k;refine eY (fun i δ S=>∃(u v:Option XV),S=[(cands F fit 1 (G.take i)).map aE]/\δ=[some (.d (aH g)),some (.d (jI A B)),some (.d (.int (b:Nat))),some (.d (.list (G.map cG))),some (.l 0),u,v]) ⟨_,_,rfl,rfl⟩ ?_ ?_
 ·rintro i d _ _ N hi ⟨u,v,rfl,rfl⟩ hN;obtain⟨e,he,rfl⟩:=g8 _ _ _ _ hi;obtain⟨o,eo,rfl⟩:=hR he;have il:=(List.getElem?_eq_some_iff.mp eo).1;have cs:cands F fit 1 (G.take (i+1))=cands F fit 1 (G.take i)++cands F fit (1+i) [o]:=by
   rw[take_add_one,eo];have:=xO (F:=F) (fit:=fit) (o:=o) (G:=G.take i) (z:=1);rw[ju,min_eq_left yw]at this;exact this
  have cl:(cands F fit 1 (G.take i)).length<=30:=lm B8 (by rw[ju];omega);cases o with
  |none=>
   rw[show cG none=.none from rfl];walk_at "d";exact hN _ _ ⟨_,_,by rw[cs];simp[cands],rfl⟩
  |some l=>
   have ll:=hl l (bt eo);rw[show cG (some l)=.list (l.map fun k:Nat=>.int k)from rfl];walk_at "d";rw[show ((1+i:Nat):Int)=((1+i:Nat):Int)from rfl];refine DL hg h1 h2 ?_;walk_at "d";rw[fe];split
   ·rename_i hf;refine⟨yw,yw,hN _ _ ⟨_,_,?_,rfl⟩⟩;rw[cs,jq];unfold cands;dsimp only;rw[ck hf];rfl
   ·rename_i hf;refine hN _ _ ⟨_,_,?_,rfl⟩;rw[cs];unfold cands;dsimp only;rw[ci (by simpa using hf)];simp[cands]
 ·rintro _ _ ⟨u,v,rfl,rfl⟩;rw[kU,dh,List.take_length];walk_at "d";refine⟨(cands F fit 1 G).map fun c=>c.map fun k:Nat=>.int k,by rw[jn];rfl,fun z=>?_,fun i l el hm=>?_⟩
  ·exact q none (List.map_eq_nil_iff.mp z)
  ·rw[gg]at el;obtain⟨c,ec,rfl⟩:=map_eq_some_iff.mp el;refine q (some c) ⟨i,ec,fun j m ej=>?_⟩;have:=hm j (m.map fun k:Nat=>.int k) (by rw[gg,ej];rfl)
   rwa [dh,dh]at this
theorem rE{g:Gap}{s t:Int}{one other:List Int}(hg:Gp2 g s t)(h1:one.length<=20)(h2:other.length=one.length)(q:∀A B o,Rws g s t one other A B->BestG (aV g A B) one.length 0 o->R (.d (cG o)) []):jH [.d (aH g),.d (aQ one),.d (aQ other)] [] R:=by
 unfold jH;walk_at "d"
 walk_at "n"
 refine Dh hg yw h2 fun A B rw=>?_;walk_at "d";have lA:A.length=one.length:=rw.pa.length_eq;have lB:B.length=one.length:=rw.pb.length_eq.trans h2
 walk_at "n"
 refine seq1 ?_;rw[bZ];walk_at "d";refine⟨_,_,⟨rfl,rfl⟩,⟨yw,yw⟩,⟨by decide,by decide⟩,?_⟩;rw[show ((one.length:Int)-1 - -1).toNat=one.length from by omega];refine eY (fun i δ S=>∃(G:List (Option (List Nat))) (u:Option XV),G.length=i+1/\(∀k o',G[k]?=some o'->BestG (aV g A B) one.length (one.length-i+k) o')/\S=[G.map cG]/\δ=[some (.d (aH g)),some (.d (.tuple (one.map cf))),some (.d (aQ other)),some (.d (jI A B)),some (.l 0),u]) ⟨[some []],_,rfl,?_,rfl,rfl⟩ ?_ ?_
 ·intro k o' e;cases k with
  |zero=>
   cases e;refine⟨.nil,fun l' g'=>?_⟩;cases l' with
   |nil=>exact .inr ⟨rfl,.inl rfl⟩
   |cons x r=>exact .inl yv
  |succ k=>simp at e
 ·rintro i d _ _ N hi ⟨G,u,gl,gb,rfl,rfl⟩ hN;obtain⟨il,rfl⟩:=tY hi;rw[show ((one.length:Int)-1-(i:Nat))=((one.length-1-i:Nat):Int)from by omega];walk_at "d";refine Jv (F:=aV g A B) hg yw yw yw (fun l ml=>?_) fun o ho=>?_
  ·obtain⟨k,ek⟩:=mem_iff_getElem?.mp ml;have:=(gb k _ ek).g.len;omega
  ·have hb:BestG (aV g A B) one.length (one.length-1-i) o:=G2 yw yw (fun k o' ek=>by rw[show one.length-1-i+1+k=one.length-i+k from by omega];exact gb k o' ek) (fun k k1 kn=>qH lA lB kn) ho;walk_at "d";refine⟨?_,?_⟩
   ·cases o with
    |none=>exact .inl rfl
    |some l=>
     refine .inr ⟨l.map fun k:Nat=>(k:Int),by show aE l=_;rw[bQ,jn];rfl,fun m=>?_⟩;rw[qt]at m;have h0:(G.map cG)[0]?=some (cG G[0]):=by rw[gg,ca yw];rfl
     rw[<- m]at h0;cases l with
     |nil=>simp at h0
     |cons x r=>
      rw[fw,fw,lf,qe]at h0;cases hg0:G[0]with
      |none=>rw[hg0]at h0;cases h0
      |some f=>rw[hg0]at h0;cases h0
   ·refine⟨yw,hN _ _ ⟨o::G,_,by rw[ff,gl],fun k o' ek=>?_,rfl,rfl⟩⟩;cases k with
    |zero=>
     cases ek;rw[show one.length-(i+1)+0=one.length-1-i from by omega];exact hb
    |succ k=>
     rw[lg]at ek;rw[show one.length-(i+1)+(k+1)=one.length-i+k from by omega];exact gb k o' ek
 ·rintro _ _ ⟨G,u,gl,gb,rfl,rfl⟩;rw[show (jP ((one.length:Int)-1) one.length).length=one.length from by unfold jP;rw[dh,iu]]at gl gb;have h0:G[0]?=some G[0]:=ca yw;have b0:=gb 0 _ h0;rw[show one.length-one.length+0=0 from by omega]at b0;walk_at "d";refine⟨cG G[0],?_,q A B _ rw b0⟩;refine gJ (j:=0) ?_;rw[gg,h0];rfl
theorem yG(l:List Nat):(l.map fun k:Nat=>(k:Int)).sum=((l.sum:Nat):Int):=by
 induction l with
 |nil=>rfl
 |cons x l ih=>rw[fw,sum_cons,sum_cons,ih];omega
theorem GI{l:List Nat}{n:Nat}(hp:∀k∈l,1<=k)(hl:l.length<=100)(hs:l.sum=n)(q:R (.d (.bool true)) []):sD [.d (.int (n:Nat)),.d (aE l)] [] R:=by
 unfold sD;rw[bQ];walk_at "d"
 walk_at "n"
 refine cmp1 (S0:=[]) (fun k:Nat=>.bool true) rfl l yw ?_ ?_
 ·intro k mk u acc R' hk;have:=hp k mk;walk_at "d";refine JR ?_;walk_at "d";rw[ck (show sX (.int (k:Nat))=true from rfl)];rw[gq yw];exact hk _
 ·walk_at "d";refine⟨l.map fun _=>true,by rw[jn];rfl,?_⟩;rw[show (l.map fun _=>true).all id=true from by rw[all_map];exact all_eq_true.mpr fun _ _=>rfl];walk_at "d";refine⟨l.map fun k:Nat=>(k:Int),by rw[jn];rfl,?_⟩;rw[yG,hs,gq rfl];exact q
theorem yR{g:Gap}{s t:Int}{one other A B:List Int}{l:List Nat}(hg:Gp2 g s t)(h1:one.length<=20)(h2:other.length=one.length)(y:Rws g s t one other A B)(hG:Gr (aV g A B) one.length 0 l)(q:R (.d (.bool true)) []):pH [.d (aH g),.d (aQ one),.d (aQ other),.d (aE l)] [] R:=by
 have lA:A.length=one.length:=y.pa.length_eq;have lB:B.length=one.length:=y.pb.length_eq.trans h2;have ac:=hG.len;have ab:=hG.sum;unfold pH;walk_at "d"
 walk_at "n"
 refine Dh hg yw h2 fun A' B' aa=>?_;obtain⟨rfl,rfl⟩:=y.uniq aa;walk_at "d";rw[bZ]
 walk_at "n"
 refine GI hG.pos yw yw ?_;walk_at "d"
 walk_at "n"
 refine seq1 ?_;rw[bQ];walk_at "d";refine eY (fun i δ S=>∃(b:Nat) (u:Option XV),S=[]/\Gr (aV g A B) one.length b (l.drop i)/\δ=[some (.d (aH g)),some (.d (.tuple (one.map cf))),some (.d (aQ other)),some (.d (aE l)),some (.d (jI A B)),some (.d (.int (b:Nat))),u]) ⟨0,_,rfl,hG,rfl⟩ ?_ ?_
 ·rintro i d _ _ N hi ⟨b,u,rfl,gb,rfl⟩ hN;obtain⟨k,ek,rfl⟩:=hR hi;have il:=(List.getElem?_eq_some_iff.mp ek).1;have eg:=(List.getElem?_eq_some_iff.mp ek).2;rw[gv il,eg]at gb;cases gb with
  |cons k1 k2 k3 k4=>
   walk_at "d"
   walk_at "n"
   refine DL hg yw yw ?_;walk_at "d";rw[(qH lA lB k2).mpr k3];walk_at "d";exact hN _ _ ⟨b+k,_,rfl,k4,by rw[Int.natCast_add]⟩
 ·rintro _ _ ⟨b,u,rfl,gb,rfl⟩;walk_at "d";exact q
end
section
variable {R:RX}{S:Sto}
theorem IM(r:List Nat):frR [] r=r:=by
 unfold frR;rw[List.filter_eq_self];intro a _;simp
theorem uU(q:List (List Nat)):frs8 [] q=q:=by
 unfold frs8;exact(nl fun r _=>IM r).trans (map_id' q)
theorem tM{g:Gap}{one other:List Int}(h2:other.length<=11):Ma 0 (bK g one other) [] (mtc g one other)/\(mtc g one other).length=nu 12 (bK g one other)/\∀s,Ma 0 (bK g one other) [] s->s.length=nu 12 (bK g one other)->leL (mtc g one other) s:=
 v4 (m:=other.length) yw (bK g one other) 0 [] _ uI Ga (by rw[uU])
theorem DF{g:Gap}{one other:List Int}(h2:other.length<=11):(mtc g one other).length<=one.length:=by
 obtain⟨f1,f2,_⟩:=(tM (g:=g) (one:=one) h2).1.facts;have:=uZ (m:=one.length) f2 fun j mj=>by
  obtain⟨p,mp,rfl⟩:=mem_map.mp mj;have z:=(f1 p mp).2.1;rw[show (bK g one other).length=one.length from dh ..,zero_add]at z;exact z
 rwa [dh]at this
end
section
variable {R:RX}{S:Sto}
structure LR(g:Gap)(s t:Int)(one other:List Int)(mine yours:List Nat)(A B:List Int):Prop where
 pm:mine.Perm (ga one.length)
 py:yours.Perm (ga other.length)
 ea:mine.map (fun j=>one.getD j 0)=A
 eb:yours.map (fun j=>other.getD j 0)=B
 rw:Rws g s t one other A B
theorem kX(l:List Int):((ga l.length).map fun j=>l.getD j 0)=l:=by
 apply List.ext_getElem?;intro i;rw[gg];by_cases h:i<l.length
 ·rw[ql h,ca h];simp[h]
 ·rw[nc (by rw[iu];omega),nc yw];rfl
theorem Aq{n:Nat}{f:Nat->Int}{q:List (List Int)}(p:q.Perm ((ga n).map fun j=>[f j,(j:Int)])):∃js:List Nat,js.Perm (ga n)/\q=js.map fun j=>[f j,(j:Int)]:=by
 refine⟨q.map fun ns=>(ns.getD 1 0).toNat,?_,?_⟩
 ·have:=p.map fun ns:List Int=>(ns.getD 1 0).toNat;rw[jn]at this;refine this.trans (qa ?_);refine(nl fun j _=>?_).trans (map_id' _);simp
 ·rw[jn];refine((nl fun ns m=>?_).trans (map_id' _)).symm;obtain⟨j,_,rfl⟩:=mem_map.mp (p.mem_iff.mp m);simp
theorem AF{f:Nat->Int}{js:List Nat}(h:(js.map fun j=>[f j,(j:Int)]).Pairwise fun x y=>HT.lexLt y x=false):(js.map f).Pairwise (· <= ·):=by
 rw[pi]at h ⊢;refine h.imp fun {a b} q=>?_;rw[HT.lexLt_cons]at q;by_cases e:f b=f a
 ·omega
 ·rw[ci e]at q;have:=of_decide_eq_false q;omega
theorem K2{g:Gap}{s t:Int}{one other:List Int}(hg:Gp2 g s t)(h1:one.length<=30)(h2:other.length<=30)(q:∀aa y A B,LR g s t one other aa y A B->R (.d (.tuple [aE aa,aE y])) []):pK [.d (aH g),.d (aQ one),.d (aQ other)] [] R:=by
 unfold pK;rw[bZ,bZ];walk_at "d"
 walk_at "n"
 rw[qX cf one 0];refine cmp2 (S0:=[]) (fun j:Nat=>eT [one.getD j 0,(j:Int)]) rfl (ga one.length) (by rw[iu];omega) ?_ ?_
 ·intro j mj u v acc R' hk;walk_at "d";exact hk _ _
 walk_at "d";refine⟨(ga one.length).map fun j=>[one.getD j 0,(j:Int)],by rw[jn];rfl,by rw[dh,iu];omega,fun ns m=>?_,fun ac pm sm=>?_⟩
 ·obtain⟨j,_,rfl⟩:=mem_map.mp m;simp
 obtain⟨aa,p1,rfl⟩:=Aq pm;have sA:=AF sm;have ml:aa.length<=30:=by rw[p1.length_eq,iu];exact h1
 rw[jn];refine cmp2 (S0:=[]) (fun j:Nat=>.int j) rfl aa yw ?_ ?_
 ·intro j mj u v acc R' hk;show bB _ _ (.d (eT [one.getD j 0,(j:Int)])) _ _ _;unfold eT;walk_at "d";exact hk _ _
 walk_at "d";have eg:aH g=.tuple [.tuple [.tuple [.int 0,.int s],.tuple [.int 1,.int t]],.int g.lo,.int g.hi]:=by
  rw[jK];unfold jC;rw[hg.ts];rfl
 have ab:∀sg:Int,(sg = -1/\¬ s*t<0\/sg=1/\s*t<0)->aA (aC (bA [none,none] (aW (dCB fJ (zc (bA [none,none,some 4] (dX (zc (zh 2) zq)) (bB 2 (zM (zl 0) (zM (zl 1) bF))) aL (aM (zc (dOp bJ (zh 2) (zh 1)) (zc (zh 0) zq)))) zq))) (bB 2 (zM (zl 0) (zM (zl 1) bF))) aL (zh 1)) (zl 5)) (aB (aM (zc (zh 3) (zc (zh 5) zq)))) (aJ 0 R)
   [some (.d (aH g)),some (.d (.tuple (one.map cf))),some (.d (.tuple (other.map cf))),some (.d (.list (aa.map fun j:Nat=>cf j))),some (.d (.int sg)),none] []:=by
  intro sg ae
  walk_at "n"
  rw[qX cf other 0];refine cmp2 (S0:=[]) (fun j:Nat=>eT [sg*other.getD j 0,(j:Int)]) rfl (ga other.length) (by rw[iu];omega) ?_ ?_
  ·intro j mj u v acc R' hk;walk_at "d";refine⟨dU yw yw,?_⟩;exact hk _ _
  walk_at "d";refine⟨(ga other.length).map fun j=>[sg*other.getD j 0,(j:Int)],by rw[jn];rfl,by rw[dh,iu];omega,fun ns m=>?_,fun ac pm sm=>?_⟩
  ·obtain⟨j,_,rfl⟩:=mem_map.mp m;simp
  obtain⟨y,p2,rfl⟩:=Aq (f:=fun j=>sg*other.getD j 0) pm;have sB:=AF (f:=fun j=>sg*other.getD j 0) sm;have yl:y.length<=30:=by rw[p2.length_eq,iu];exact h2
  rw[jn];refine cmp2 (S0:=[]) (fun j:Nat=>.int j) rfl y yw ?_ ?_
  ·intro j mj u v acc R' hk;show bB _ _ (.d (eT [sg*other.getD j 0,(j:Int)])) _ _ _;unfold eT;walk_at "d";exact hk _ _
  walk_at "d";refine q aa y _ _ ⟨p1,p2,rfl,rfl,?_,?_,sA,?_⟩
  ·refine(p1.map fun j=>one.getD j 0).trans (qa (kX one))
  ·refine(p2.map fun j=>other.getD j 0).trans (qa (kX other))
  ·rw[pi]at sB;rcases ae with ⟨rfl,z⟩|⟨rfl,z⟩
   ·rw[ci z,pi];exact sB.imp fun h=>by omega
   ·rw[ck z,pi];exact sB.imp fun h=>by omega
 walk_at "n"
 refine seq1 ?_;have ts:=hg.s3;have tt:=hg.t3;rw[eg];walk_at "d";refine⟨dU (by have:=ts.lo;omega) (by have:=ts.hi;omega),?_⟩;rw[<- eg];have hz:s*t≠0:=Int.mul_ne_zero ts.ne tt.ne;split
 ·exact ab (-1) (.inl ⟨rfl,yw⟩)
 ·exact ab 1 (.inr ⟨rfl,yw⟩)
theorem LR.lens{g:Gap}{s t:Int}{one other:List Int}{y q:List Nat}{A B:List Int}(h:LR g s t one other y q A B):y.length=one.length/\q.length=other.length/\A.length=one.length/\B.length=other.length:=by
 have l1:=h.pm.length_eq;have l2:=h.py.length_eq;rw[iu]at l1 l2;refine⟨l1,l2,?_,?_⟩
 ·rw[<- h.ea,dh,l1]
 ·rw[<- h.eb,dh,l2]
theorem DC{g:Gap}{s t:Int}{one other A B:List Int}{ab aa:List Nat}{b k:Nat}(hg:Gp2 g s t)(h1:one.length<=30)(h2:other.length<=30)(lr:LR g s t one other ab aa A B)(q:R (.d (.bool (bX g ((A.drop b).take k) ((B.drop b).take k)))) []):oF [.d (aH g),.d (aQ one),.d (aQ other),.d (.tuple [aE ab,aE aa]),.d (.int (b:Nat)),.d (.int (k:Nat))] [] R:=by
 obtain⟨l1,l2,_,_⟩:=lr.lens;have mr:∀i∈ab,i<one.length:=fun i m=>mem_range.mp (lr.pm.mem_iff.mp m);have yr:∀i∈aa,i<other.length:=fun i m=>mem_range.mp (lr.py.mem_iff.mp m);have eA:(A.drop b).take k=((ab.drop b).take k).map fun j=>one.getD j 0:=by rw[<- lr.ea,<- map_drop,<- map_take]
 have eB:(B.drop b).take k=((aa.drop b).take k).map fun j=>other.getD j 0:=by rw[<- lr.eb,<- map_drop,<- map_take]
 rw[eA,eB]at q;have m1:∀i∈(ab.drop b).take k,i<one.length:=fun i m=>mr i (pk (qz m));have y1:∀i∈(aa.drop b).take k,i<other.length:=fun i m=>yr i (pk (qz m));have yl:((aa.drop b).take k).length<=30:=by rw[ju,ln];omega
 unfold oF;refine seq1 ?_;rw[bQ,bQ,bZ,bZ];walk_at "d";rw[rK];generalize (ab.drop b).take k=ms at q m1 ⊢;refine eY (fun i δ S=>∃(u:Option XV),S=[]/\(∀x∈ms.take i,(((aa.drop b).take k).all fun j=>zZ g [one.getD x 0,other.getD j 0])=true)/\δ=[some (.d (aH g)),some (.d (.tuple (one.map cf))),some (.d (.tuple (other.map cf))),some (.d (.tuple [.list (ab.map fun k:Nat=>.int k),.list (aa.map fun k:Nat=>.int k)])),some (.d (.int (b:Nat))),some (.d (.int (k:Nat))),u]) ⟨_,rfl,fun x m=>(by cases m),rfl⟩ ?_ ?_
 ·rintro i d _ _ N hi ⟨u,rfl,ok,rfl⟩ hN;obtain⟨x,ex,rfl⟩:=hR hi;have xl:=m1 x (bt ex);walk_at "d";rw[rK];generalize (aa.drop b).take k=ys at q y1 yl ok hN ⊢;refine cmp1 (S0:=[]) (fun j:Nat=>.bool (zZ g [one.getD x 0,other.getD j 0])) rfl ys yw ?_ ?_
  ·intro j mj u acc R' hk;walk_at "d";refine⟨_,Cg xl,_,Cg (y1 j mj),?_⟩;refine GG hg ?_;walk_at "d";exact hk _
  ·walk_at "d";refine⟨ys.map fun j=>zZ g [one.getD x 0,other.getD j 0],by rw[jn];rfl,?_⟩;rw[all_map,show (id∘fun j=>zZ g [one.getD x 0,other.getD j 0])=fun j=>zZ g [one.getD x 0,other.getD j 0]from rfl];cases hz:ys.all fun j=>zZ g [one.getD x 0,other.getD j 0]with
   |true=>
    rw[ci yv];refine hN _ _ ⟨_,rfl,fun y my=>?_,rfl⟩;rw[take_add_one,ex]at my;rcases mem_append.mp my with my|my
    ·exact ok y my
    ·have:y=x:=by simpa using my
     rw[this];exact hz
   |false=>
    rw[ck rfl];rw[show bX g (ms.map fun j=>one.getD j 0) (ys.map fun j=>other.getD j 0)=false from ?_]at q
    ·exact q
    ·rw[Bool.eq_false_iff];intro z;unfold bX at z;rw[mv]at z;have z1:=z _ (lq (bt ex));rw[all_map]at z1;rw[show ((fun y=>zZ g [one.getD x 0,y])∘fun j=>other.getD j 0)=fun j=>zZ g [one.getD x 0,other.getD j 0]from rfl,hz]at z1;cases z1
 ·rintro _ _ ⟨u,rfl,ok,rfl⟩;rw[dh,List.take_length]at ok;walk_at "d";rw[show bX g (ms.map fun j=>one.getD j 0) (((aa.drop b).take k).map fun j=>other.getD j 0)=true from ?_]at q
  ·exact q
  ·unfold bX;rw[all_map,mv];intro x mx;show (List.all _ _)=true;rw[all_map];exact ok x mx
theorem xJ{c:DT}{b:DEnds->XE->Sto->Prop}{E:DEnds}{δ:XE}{S:Sto}(W:Nat->XE->Sto->Prop)(m0:Nat)(w0:W m0 δ S)(q:∀m δ S,W m δ S->c δ S fun x S1=>if x=true then ∃N:XE->Sto->Prop,(∀ δ' S',N δ' S'->∃m',m'<m/\W m' δ' S')/\b { nx:=N,ct:=N,bk:=E.nx,rt:=E.rt } δ S1 else E.nx δ S1):sL c b E δ S:=⟨W,⟨m0,w0⟩,q⟩
structure Gdy(F:Nat->Nat->Bool)(n b f c:Nat):Prop where
 a:∀l',Gr F n b l'->∃l'',Gr F n f l''/\c+l''.length<=l'.length
 b:∀l'',Gr F n f l''->∃l',Gr F n b l'/\l'.length=c+l''.length
theorem Gdy.step{F:Nat->Nat->Bool}{n b f c z:Nat}(h:Gdy F n b f c)(hf:f<n)(hz:1<=z)(q:f+z<=n)(fit:FitI F f z)(mx:f+z=n\/¬ FitI F f (z+1)):Gdy F n b (f+z) (c+1):=by
 refine⟨fun l' g'=>?_,fun l'' g''=>?_⟩
 ·obtain⟨l'',g2,e⟩:=h.a l' g';cases g2 with
  |nil=>omega
  | @cons _ k r k1 k2 k3 k4=>
   have kz:k<=z:=by
    rcases mx with mx|mx
    ·omega
    ·apply Classical.byContradiction;intro hk;exact mx (k3.sub (cu _) yw)
   obtain⟨l3,g3,e3⟩:=k4.suf (f+z) yw q;rw[ff]at e;exact⟨l3,g3,yw⟩
 ·obtain⟨l',g',e⟩:=h.b (z::l'') (.cons hz q fit g'');rw[ff]at e;exact⟨l',g',yw⟩
def GN(g:Gap)(one other:List Int)(y q:List Nat)(A B:List Int)(b f:Nat):XE->Sto->Prop:=fun δ' S'=>∃(f' c':Nat) (u':Option XV),f<f'/\f'<=one.length/\S'=[]/\Gdy (aV g A B) one.length b f' c'/\δ'=[some (.d (aH g)),some (.d (.tuple (one.map cf))),some (.d (aQ other)),some (.d (.tuple [aE y,aE q])),some (.d (.int (f':Nat))),some (.d (.int (c':Nat))),u']
theorem Ae{g:Gap}{s t:Int}{one other A B:List Int}{y q:List Nat}{b:Nat}(hg:Gp2 g s t)(h1:one.length<=20)(h2:other.length=one.length)(lr:LR g s t one other y q A B)(hb:b<=one.length)
  (q0:(∀l,¬ Gr (aV g A B) one.length b l)->R (.d (.int 99)) []) (q1:∀l,Gr (aV g A B) one.length b l->(∀l',Gr (aV g A B) one.length b l'->l.length<=l'.length)->R (.d (.int (l.length:Nat))) []):mB [.d (aH g),.d (aQ one),.d (aQ other),.d (.tuple [aE y,aE q]),.d (.int (b:Nat))] [] R:=by
 obtain⟨_,_,lA,lB⟩:=lr.lens;unfold mB;walk_at "d"
 walk_at "n"
 refine seq1 ?_;rw[bZ];refine xJ (fun m δ S=>∃(f c:Nat) (u:Option XV),f<=one.length/\m=one.length-f/\S=[]/\Gdy (aV g A B) one.length b f c/\δ=[some (.d (aH g)),some (.d (.tuple (one.map cf))),some (.d (aQ other)),some (.d (.tuple [aE y,aE q])),some (.d (.int (f:Nat))),some (.d (.int (c:Nat))),u]) _ ⟨b,0,_,hb,rfl,rfl,⟨fun l' g'=>⟨l',g',yw⟩,fun l'' g''=>⟨l'',g'',yw⟩⟩,rfl⟩ ?_;rintro m _ _ ⟨f,c,u,fn,rfl,rfl,gd,rfl⟩;walk_at "d";by_cases hfn:f<one.length
 ·rw[ck yw];refine⟨GN g one other y q A B b f,fun δ' S' ⟨f',c',u',ag,ac,ab,ae,aa⟩=>⟨_,yw,f',c',u',ac,rfl,ab,ae,aa⟩,?_⟩
  walk_at "n"
  refine seq1 ?_;refine xJ (fun m δ S=>∃(z:Nat),f+z<=one.length/\m=one.length-(f+z)/\S=[]/\FitI (aV g A B) f z/\δ=[some (.d (aH g)),some (.d (.tuple (one.map cf))),some (.d (aQ other)),some (.d (.tuple [aE y,aE q])),some (.d (.int (f:Nat))),some (.d (.int (c:Nat))),some (.d (.int (z:Nat)))]) _ ⟨0,yw,rfl,rfl,fun i j a1 a2=>by omega,rfl⟩ ?_;rintro m _ _ ⟨z,fz,rfl,rfl,fit,rfl⟩;have done:(f+z=one.length\/¬ FitI (aV g A B) f (z+1))->aA (aN (dB (dOp cM (zh 6) (dC (cf 0)))) (aB (dC (cf 99))) aK) (aA (aC (dOp aP (zh 4) (zh 6)) (zl 4)) (fK 5 (fun i j=>i+j) (dC (cf 1)))) { nx:=GN g one other y q A B b f,rt:=(aJ 0 R).rt,bk:=aB (zh 5) (aJ 0 R),ct:=GN g one other y q A B b f } [some (.d (aH g)),some (.d (.tuple (one.map cf))),some (.d (aQ other)),some (.d (.tuple [aE y,aE q])),some (.d (.int (f:Nat))),some (.d (.int (c:Nat))),some (.d (.int (z:Nat)))] []:=by
   intro mx
   walk_at "n"
   by_cases z0:z=0
   ·subst z0;rw[ck yw];refine q0 fun l g'=>?_;obtain⟨l'',g2,_⟩:=gd.a l g';rcases mx with mx|mx
    ·omega
    ·cases g2 with
     |nil=>omega
     |cons k1 k2 k3 k4=>exact mx (k3.sub (cu _) yw)
   ·rw[ci yw]
    walk_at "n"
    exact⟨f+z,c+1,_,yw,fz,rfl,gd.step hfn yw fz fit mx,by rw[Int.natCast_add,Int.natCast_add];rfl⟩
  walk_at "d";by_cases hlt:f+z<one.length
  ·rw[ck yw,show ((z:Int)+1)=((z+1:Nat):Int)from by omega,<- bZ];refine DC hg yw yw lr ?_;walk_at "d";have af:=qH (g:=g) lA (lB.trans h2) (b:=f) (k:=z+1) yw;cases hz:bX g ((A.drop f).take (z+1)) ((B.drop f).take (z+1))with
   |true=>
    rw[ck rfl];refine⟨fun δ' S'=>S'=[]/\δ'=[some (.d (aH g)),some (.d (.tuple (one.map cf))),some (.d (aQ other)),some (.d (.tuple [aE y,aE q])),some (.d (.int (f:Nat))),some (.d (.int (c:Nat))),some (.d (.int ((z+1:Nat):Int)))],fun δ' S' ⟨e1,e2⟩=>⟨one.length-(f+(z+1)),yw,z+1,yw,rfl,e1,af.mp hz,e2⟩,rfl,rfl⟩
   |false=>
    rw[ci yv];exact done (.inr fun h=>by rw[af.mpr h]at hz;cases hz)
  ·rw[ci yw];exact done (.inl yw)
 ·rw[ci yw];have e:f=one.length:=yw
  subst e;obtain⟨l',g',e⟩:=gd.b [] .nil;walk_at "d";have:=q1 l' g' fun l2 g2=>by
   obtain⟨l3,_,e3⟩:=gd.a l2 g2;rw[length_nil]at e;omega
  rw[e]at this;simpa using this
theorem F7{g:Gap}{s t:Int}{one other A B:List Int}{l:List Nat}(hg:Gp2 g s t)(h1:one.length<=20)(h2:other.length=one.length)(aa:Rws g s t one other A B)(hm:MinG (aV g A B) one.length 0 l)(q:R (.d (.bool true)) []):qM [.d (aH g),.d (aQ one),.d (aQ other),.d (aE l)] [] R:=by
 have lA:A.length=one.length:=aa.pa.length_eq;have lB:B.length=one.length:=aa.pb.length_eq.trans h2;have ll:=hm.g.len;have lp:=hm.g.pos;have ls:=hm.g.sum;unfold qM;walk_at "d"
 walk_at "n"
 refine K2 hg yw yw fun ab y A' B' lr=>?_;obtain⟨rfl,rfl⟩:=aa.uniq lr.rw;rw[bQ l];walk_at "d"
 walk_at "n"
 refine cmp1 (S0:=[]) (fun k:Nat=>.bool true) rfl l yw ?_ ?_
 ·intro k mk u acc R' hk;have:=lp k mk;walk_at "d";refine FU ?_;walk_at "d";rw[gq yw];exact hk _
 walk_at "d";refine⟨l.map fun _=>true,by rw[jn];rfl,?_⟩;rw[show (l.map fun _=>true).all id=true from by rw[all_map];exact all_eq_true.mpr fun _ _=>rfl];walk_at "d";refine seq1 ?_;rw[bZ];walk_at "d";refine⟨l.map fun k:Nat=>(k:Int),by rw[jn];rfl,?_⟩;rw[yG,ci yw];rw[<- bZ one];refine Ae hg h1 h2 lr (nq _) (fun no=>absurd hm.g (no l)) fun l2 g2 m2=>?_;have el:l2.length=l.length:=by
  have a1:=m2 l hm.g;rcases hm.m l2 g2 with z|⟨z,_⟩<;>omega
 walk_at "d";rw[ci yw]
 walk_at "n"
 walk_at "n";refine eY (fun i δ S=>∃(b:Nat) (u v w:Option XV),S=[]/\MinG (aV g A B) one.length b (l.drop i)/\δ=[some (.d (aH g)),some (.d (aQ one)),some (.d (aQ other)),some (.d (.list (l.map fun k:Nat=>.int k))),some (.d (.tuple [aE ab,aE y])),some (.d (.int (b:Nat))),u,v,w]) ⟨0,_,_,_,rfl,hm,rfl⟩ ?_ ?_
 ·rintro i d _ _ N hi ⟨b,u,v,w,rfl,mb,rfl⟩ hN;obtain⟨e,he,rfl⟩:=g8 _ _ _ _ hi;obtain⟨k,ek,rfl⟩:=hR he;have il:=(List.getElem?_eq_some_iff.mp ek).1;have eg:=(List.getElem?_eq_some_iff.mp ek).2;rw[gv il,eg]at mb;have mt:=mb.tail;have gb:=mb.g;cases gb with
  |cons k1 k2 k3 k4=>
   walk_at "d"
   walk_at "n"
   refine DC hg yw yw lr ?_;walk_at "d";rw[(qH lA lB k2).mpr k3];walk_at "d";walk_at "n";refine eY (fun j δ S=>∃(w:Option XV),S=[]/\δ=[some (.d (aH g)),some (.d (aQ one)),some (.d (aQ other)),some (.d (.list (l.map fun k:Nat=>.int k))),some (.d (.tuple [aE ab,aE y])),some (.d (.int (b:Nat))),some (.d (.int (i:Nat))),some (.d (.int (k:Nat))),w]) ⟨_,rfl,rfl⟩ ?_ ?_
   ·rintro j d _ _ N' hj ⟨w,rfl,rfl⟩ ac;obtain⟨jl,rfl⟩:=uK hj;walk_at "d";rw[show ((b:Int)+(1+(j:Nat)))=((b+(1+j):Nat):Int)from by omega];have jk:1+j<k:=yw
    refine Ae hg h1 h2 lr yw (fun no=>?_) fun l3 g3 m3=>?_
    ·walk_at "d";rw[ci yw];exact ac _ _ ⟨_,rfl,rfl⟩
    ·have:=mb.less (z:=1+j) yw jk g3;rw[ln]at this;walk_at "d";rw[ci yw];exact ac _ _ ⟨_,rfl,rfl⟩
   ·rintro _ _ ⟨w,rfl,rfl⟩;walk_at "d";exact hN _ _ ⟨b+k,_,_,_,rfl,mt,by rw[Int.natCast_add]⟩
 ·rintro _ _ ⟨b,u,v,w,rfl,mb,rfl⟩;walk_at "d";rw[<- bQ];refine yR hg h1 h2 aa hm.g ?_;walk_at "d";exact q
theorem EJ{g:Gap}{x:Int}{other:List Int}{j:Nat}:j∈bO g x other↔j<other.length/\zZ g [x,other.getD j 0]=true:=by
 unfold bO;rw[mem_filter,mem_range]
theorem Ap{g:Gap}{one other:List Int}{i:Nat}(h:i<one.length):aF (bK g one other) i=bO g (one.getD i 0) other:=by
 unfold aF bK;rw[dw,dw,gg,ca h];rfl
theorem u5{l:List Int}(h:l.Pairwise (· <= ·)){k:Nat}(hk:k<l.length):∀x∈l.drop k,l.getD k 0<=x:=fun x m=>by
 rw[gv hk]at m;have e:l.getD k 0=l[k]:=by rw[dw,ca hk];rfl
 have pw:(l.drop k).Pairwise (· <= ·):=h.sublist (List.drop_sublist _ _);rw[gv hk,qu]at pw;rcases mem_cons.mp m with rfl|m
 ·omega
 ·have:=pw.1 x m;omega
theorem tF{l:List Int}(h:l.Pairwise (· <= ·)){k:Nat}(hk:k<l.length):∀x∈l.take (k+1),x<=l.getD k 0:=fun x m=>by
 have e:l.getD k 0=l[k]:=by rw[dw,ca hk];rfl
 have ht:l.take (k+1)=l.take k++[l[k]]:=by rw[take_add_one,ca hk];rfl
 have pw:(l.take (k+1)).Pairwise (· <= ·):=h.sublist (List.take_sublist _ _);rw[ht]at m pw;rw[rf]at pw;rcases mem_append.mp m with m|m
 ·have:=pw.2.2 x m l[k] yv;omega
 ·rw[mem_singleton.mp m];omega
theorem yX{l:List Int}(h:l.Pairwise (· ≥ ·)){k:Nat}(hk:k<l.length):∀x∈l.drop k,x<=l.getD k 0:=fun x m=>by
 rw[gv hk]at m;have e:l.getD k 0=l[k]:=by rw[dw,ca hk];rfl
 have pw:(l.drop k).Pairwise (· ≥ ·):=h.sublist (List.drop_sublist _ _);rw[gv hk,qu]at pw;rcases mem_cons.mp m with rfl|m
 ·omega
 ·have:=pw.1 x m;omega
theorem CT{l:List Int}(h:l.Pairwise (· ≥ ·)){k:Nat}(hk:k<l.length):∀x∈l.take (k+1),l.getD k 0<=x:=fun x m=>by
 have e:l.getD k 0=l[k]:=by rw[dw,ca hk];rfl
 have ht:l.take (k+1)=l.take k++[l[k]]:=by rw[take_add_one,ca hk];rfl
 have pw:(l.take (k+1)).Pairwise (· ≥ ·):=h.sublist (List.take_sublist _ _);rw[ht]at m pw;rw[rf]at pw;rcases mem_append.mp m with m|m
 ·have:=pw.2.2 x m l[k] yv;omega
 ·rw[mem_singleton.mp m];omega
theorem CH{js:List Nat}{n:Nat}(hn:js.Nodup)(hl:∀j∈js,j<n)(he:js.length=n):js.Perm (ga n):=by
 refine(List.perm_ext_iff_of_nodup hn List.nodup_range).mpr fun x=>⟨fun m=>mem_range.mpr (hl x m),fun m=>?_⟩;apply Classical.byContradiction;intro nx;have:=gH (l:=x::js) (l':=ga n) (nodup_cons.mpr ⟨nx,hn⟩) fun y my=>by
  rcases mem_cons.mp my with rfl|my
  ·exact m
  ·exact mem_range.mpr (hl y my)
 rw[ff,iu]at this;omega
theorem Fo{g:Gap}{s t:Int}{one other A B:List Int}{P:List (Int×Int)}(hg:Gp2 g s t)(hr:Rws g s t one other A B)(h2:other.length=one.length)(p1:A.Perm (P.map (·.1)))(p2:B.Perm (P.map (·.2)))(fit:∀p∈P,zZ g [p.1,p.2]=true):∀k,k<one.length->aV g A B k k=true:=fun k hk=>by
 have lA:A.length=one.length:=hr.pa.length_eq;have lB:B.length=one.length:=hr.pb.length_eq.trans h2;have ts:=hg.s3;have tt:=hg.t3;have kp:∀x y:Int,zZ g [x,y]=true↔g.lo<=s*x+t*y/\s*x+t*y<=g.hi:=fun x y=>by
  unfold zZ;rw[worth2 hg];simp
 have aa:∀p∈P,g.lo<=s*p.1+t*p.2/\s*p.1+t*p.2<=g.hi:=fun p mp=>(kp _ _).mp (fit p mp);unfold aV;rw[kp];have up:∀{c x y:Int},0<c->x<=y->c*x<=c*y:=fun hc h=>Int.mul_le_mul_of_nonneg_left h (Int.le_of_lt hc);have dn:∀{c x y:Int},c<0->x<=y->c*y<=c*x:=fun hc h=>Int.mul_le_mul_of_nonpos_left (Int.le_of_lt hc) h;have a1:=u5 hr.sa (k:=k) yw;have a2:=tF hr.sa (k:=k) yw;generalize A.getD k 0=a at a1 a2 ⊢
 have q:((∀x∈A.drop k,s*a<=s*x)/\(∀x∈A.take (k+1),s*x<=s*a)/\(∀y∈B.take (k+1),t*B.getD k 0<=t*y)/\(∀y∈B.drop k,t*y<=t*B.getD k 0)) \/
   ((∀x∈A.drop k,s*x<=s*a)/\(∀x∈A.take (k+1),s*a<=s*x)/\(∀y∈B.take (k+1),t*y<=t*B.getD k 0)/\(∀y∈B.drop k,t*B.getD k 0<=t*y)):=by
  have sb:=hr.sb;rcases Int.lt_or_lt_of_ne ts.ne with s0|s0
  ·refine .inr ⟨fun x m=>dn s0 (a1 x m),fun x m=>dn s0 (a2 x m),?_⟩;rcases Int.lt_or_lt_of_ne tt.ne with t0|t0
   ·rw[ci (by have:=Int.mul_pos_of_neg_of_neg s0 t0;omega)]at sb;exact⟨fun y m=>dn t0 (CT sb yw y m),fun y m=>dn t0 (yX sb yw y m)⟩
   ·rw[ck (Int.mul_neg_of_neg_of_pos s0 t0)]at sb;exact⟨fun y m=>up t0 (tF sb yw y m),fun y m=>up t0 (u5 sb yw y m)⟩
  ·refine .inl ⟨fun x m=>up s0 (a1 x m),fun x m=>up s0 (a2 x m),?_⟩;rcases Int.lt_or_lt_of_ne tt.ne with t0|t0
   ·rw[ck (Int.mul_neg_of_pos_of_neg s0 t0)]at sb;exact⟨fun y m=>dn t0 (tF sb yw y m),fun y m=>dn t0 (u5 sb yw y m)⟩
   ·rw[ci (by have:=Int.mul_pos s0 t0;omega)]at sb;exact⟨fun y m=>up t0 (CT sb yw y m),fun y m=>up t0 (yX sb yw y m)⟩
 generalize B.getD k 0=b at q ⊢;generalize hsa:s*a=sa at q ⊢;generalize htb:t*b=tb at q ⊢;have ae:∀p∈P,g.hi<sa+tb->decide (sa<=s*p.1)=true->decide (t*p.2<tb)=true:=fun p mp h h3=>by
  have:=aa p mp;have:=jf h3;exact gq yw
 have ac:∀p∈P,sa+tb<g.lo->decide (s*p.1<=sa)=true->decide (tb<t*p.2)=true:=fun p mp h h3=>by
  have:=aa p mp;have:=jf h3;exact gq yw
 constructor
 ·apply Classical.byContradiction;intro hn;have ab:sa+tb<g.lo:=yw
  have c:=A3 (a:=fun x=>decide (s*x<=sa)) (b:=fun y=>decide (tb<t*y)) p1 p2 fun p mp=>ac p mp ab;rcases q with ⟨_,d2,_,d4⟩|⟨d1,_,d3,_⟩
  ·have e1:=Dl (A:=A) (a:=fun x=>decide (s*x<=sa)) (k:=k+1) yw fun x m=>gq (d2 x m);have e2:=CQ (B:=B) (b:=fun y=>decide (tb<t*y)) (k:=k) fun y m=>gn (by have:=d4 y m;omega);omega
  ·have e1:=BU (A:=A) (a:=fun x=>decide (s*x<=sa)) (k:=k) fun x m=>gq (d1 x m);have e2:=CV (B:=B) (b:=fun y=>decide (tb<t*y)) (k:=k+1) fun y m=>gn (by have:=d3 y m;omega);omega
 ·apply Classical.byContradiction;intro hn;have ab:g.hi<sa+tb:=yw
  have c:=A3 (a:=fun x=>decide (sa<=s*x)) (b:=fun y=>decide (t*y<tb)) p1 p2 fun p mp=>ae p mp ab;rcases q with ⟨d1,_,d3,_⟩|⟨_,d2,_,d4⟩
  ·have e1:=BU (A:=A) (a:=fun x=>decide (sa<=s*x)) (k:=k) fun x m=>gq (d1 x m);have e2:=CV (B:=B) (b:=fun y=>decide (t*y<tb)) (k:=k+1) fun y m=>gn (by have:=d3 y m;omega);omega
  ·have e1:=Dl (A:=A) (a:=fun x=>decide (sa<=s*x)) (k:=k+1) yw fun x m=>gq (d2 x m);have e2:=CQ (B:=B) (b:=fun y=>decide (t*y<tb)) (k:=k) fun y m=>gn (by have:=d4 y m;omega);omega
theorem KU{g:Gap}{s t:Int}{one other A B:List Int}(hg:Gp2 g s t)(hr:Rws g s t one other A B)(h2:other.length=one.length)(h3:one.length<=11)(hf:(mtc g one other).length=one.length):∀k,k<one.length->aV g A B k k=true:=by
 obtain⟨m1,_,_⟩:=tM (g:=g) (one:=one) (other:=other) yw;obtain⟨f1,f2,f3⟩:=m1.facts;generalize mtc g one other=M at hf f1 f2 f3;have rl:(bK g one other).length=one.length:=dh ..;have fl:∀p∈M,p.1<one.length/\p.2<other.length/\zZ g [one.getD p.1 0,other.getD p.2 0]=true:=fun p mp=>by
  obtain⟨_,a2,a3,_⟩:=f1 p mp;rw[rl,zero_add]at a2;rw[Nat.sub_zero,Ap a2,EJ]at a3;exact⟨a2,a3⟩
 have q1:=CH (n:=one.length) f2 (fun j mj=>by obtain⟨p,mp,rfl⟩:=mem_map.mp mj;exact(fl p mp).1) (by rw[dh];exact hf);have q2:=CH (n:=other.length) f3 (fun j mj=>by obtain⟨p,mp,rfl⟩:=mem_map.mp mj;exact(fl p mp).2.1) (by rw[dh,hf,h2]);refine Fo (P:=M.map fun p=>(one.getD p.1 0,other.getD p.2 0)) hg hr h2 ?_ ?_ ?_
 ·refine hr.pa.trans ?_;have:=(q1.map fun j=>one.getD j 0).trans (qa (kX one));rw[jn]at this ⊢;exact this.symm
 ·refine hr.pb.trans ?_;have:=(q2.map fun j=>other.getD j 0).trans (qa (kX other));rw[jn]at this ⊢;exact this.symm
 ·intro p mp;obtain⟨q,mq,rfl⟩:=mem_map.mp mp;exact(fl q mq).2.2
theorem EM{ms ys:List Nat}(h:ms.length=ys.length):(ys.zip ms).map (·.1)=ys/\(ys.zip ms).map (·.2)=ms:=⟨List.map_fst_zip yw,List.map_snd_zip yw⟩
theorem Ie{g:Gap}{s t:Int}{one other A B:List Int}{y q:List Nat}(lr:LR g s t one other y q A B)(h2:other.length=one.length)(h3:one.length<=11)(hd:∀k,k<one.length->aV g A B k k=true):(mtc g one other).length=one.length:=by
 obtain⟨l1,l2,_,_⟩:=lr.lens;obtain⟨_,m2,_⟩:=tM (g:=g) (one:=one) (other:=other) yw;obtain⟨z1,z2⟩:=EM (ms:=y) (ys:=q) yw;have rl:(bK g one other).length=one.length:=dh ..;have aa:=DF (g:=g) (one:=one) (other:=other) yw;have mr:∀i∈y,i<one.length:=fun i m=>mem_range.mp (lr.pm.mem_iff.mp m);have yr:∀i∈q,i<other.length:=fun i m=>mem_range.mp (lr.py.mem_iff.mp m);obtain⟨sM,hM,eM⟩:=rO (bK g one other) 0 [] (q.zip y) (by unfold KN;rw[z1];exact lr.py.nodup_iff.mpr List.nodup_range) (by
  intro p mp;obtain⟨k,ek⟩:=mem_iff_getElem?.mp mp;rw[List.getElem?_zip_eq_some]at ek;obtain⟨e1,e2⟩:=ek;have kl:k<one.length:=by
   have:=(List.getElem?_eq_some_iff.mp e2).1;omega
  have pm:=mr _ (bt e2);rw[uU,Ap pm,EJ];refine⟨yr _ (bt e1),?_⟩;have:=hd k kl;unfold aV at this;rw[<- lr.ea,<- lr.eb,dw,dw,gg,gg,e1,e2]at this;exact this) (by rw[z2];exact lr.pm.nodup_iff.mpr List.nodup_range) (by
  intro p mp;rw[rl];exact mr _ (by rw[<- z2];exact lq mp))
 have nm:=nL (n:=12) (uI (g:=g) (one:=one) (other:=other)) yw hM;rw[uU,eM,List.length_zip]at nm;omega
theorem Bq{α β:Type}{f:α->β}{l l2:List β}(h:l.Perm l2):∀m:List α,l2=m.map f->∃m':List α,m'.Perm m/\l=m'.map f:=by
 induction h with
 |nil=>
  intro m e;have:m=[]:=List.map_eq_nil_iff.mp e.symm;subst this;exact⟨[],.nil,rfl⟩
 | @cons x l1 l2 _ ih=>
  intro m e;cases m with
  |nil=>cases e
  |cons y m=>
   rw[fw,re]at e;obtain⟨m',p,e2⟩:=ih m e.2;exact⟨y::m',p.cons y,by rw[fw,e.1,e2]⟩
 |swap x y l=>
  intro m e;cases m with
  |nil=>cases e
  |cons a m=>
   cases m with
   |nil=>cases e
   |cons b m=>
    rw[fw,fw,re,re]at e;exact⟨b::a::m,.swap _ _ _,by rw[fw,fw,e.1,e.2.1,e.2.2]⟩
 |trans _ _ ih1 ih2=>
  intro m e;obtain⟨m2,p2,e2⟩:=ih2 m e;obtain⟨m1,p1,e1⟩:=ih1 m2 e2;exact⟨m1,p1.trans p2,e1⟩
theorem Fj{g:Gap}{s t:Int}{one other A B:List Int}(hr:Rws g s t one other A B):∃y q,LR g s t one other y q A B:=by
 obtain⟨y,p1,e1⟩:=Bq hr.pa (ga one.length) (kX one).symm;obtain⟨q,p2,e2⟩:=Bq hr.pb (ga other.length) (kX other).symm;exact⟨y,q,p1,p2,e1.symm,e2.symm,hr⟩
theorem oO{g:Gap}{s t:Int}{one other:List Int}(hg:Gp2 g s t)(h1:one.length<=11)(h2:other.length=one.length)(q:R (.d (.bool true)) []):zT [.d (aH g),.d (aQ one),.d (aQ other)] [] R:=by
 unfold zT;walk_at "d"
 walk_at "n"
 refine rE hg yw h2 fun A B o hr hb=>?_;have ab:=DF (g:=g) (one:=one) (other:=other) yw;walk_at "d";walk_at "n";refine KM (one:=one) (other:=other) rfl rfl hg yw yw (.inl ?_);rw[bZ one];walk_at "d";by_cases hf:(mtc g one other).length=one.length
 ·rw[ci yw];have gd:=EA (F:=aV g A B) (n:=one.length) one.length 0 yw fun i _ hi=>KU hg hr h2 h1 hf i hi;cases o with
  |none=>exact absurd gd (hb _)
  |some l=>
   rw[<- bZ one];refine F7 hg yw h2 hr hb ?_;walk_at "d";exact q
 ·rw[ck yw];cases o with
  |some l=>
   obtain⟨aa,y,lr⟩:=Fj hr;exact absurd (Ie lr h2 h1 fun k hk=>hb.g.diag k (nq _) hk) hf
  |none=>
   show R (.d (.bool true)) [];exact q
theorem G9{p:List bp}{l:List Nat}(hp:bI p)(hl:l.length<=20)(h1:∀k∈l,1<=k)(h2:∀k∈l,k<=20)(q:∀c p',Cut l c->bI p'->R (.d (aE c)) [p']):pZ [.d (aE l),.l 0] [p] R:=by
 unfold pZ;rw[bQ];walk_at "d"
 walk_at "n"
 walk_at "n";refine eY (fun i δ S=>∃(c:List Nat) (p':List bp) (u v:Option XV),c.length<=2*i/\bI p'/\(∀c',Cut (l.drop i) c'->Cut l (c++c'))/\S=[p',c.map fun k:Nat=>.int k]/\δ=[some (.d (.list (l.map fun k:Nat=>.int k))),some (.l 0),some (.l 1),u,v]) ⟨[],p,_,_,yv,hp,fun c' h=>h,rfl,rfl⟩ ?_ ?_
 ·rintro i d _ _ N hi ⟨c,p',u,v,cl,y,hc,rfl,rfl⟩ hN;obtain⟨k,ek,rfl⟩:=hR hi;have il:=(List.getElem?_eq_some_iff.mp ek).1;have eg:=(List.getElem?_eq_some_iff.mp ek).2;rw[gv il,eg]at hc;have k1:=h1 k (bt ek);have k2:=h2 k (bt ek);walk_at "d"
  walk_at "n"
  refine zN y yw (pT yw yw) fun r p2 r0 r1 aa=>?_;walk_at "d";refine cmf1 (S0:=[p2,c.map fun k:Nat=>.int k]) (h:=cf) cf (fun x=>decide (0<x)) rfl [r,(k:Int)-r] yv ?_ ?_
  ·intro x mx u acc R' hk;walk_at "d";refine hk _ fun _ T hT=>?_;walk_at "d";exact hT
  ·walk_at "d";obtain⟨z,rfl⟩:=Int.eq_ofNat_of_zero_le r0;by_cases z0:z=0
   ·subst z0;have e:([((0:Nat):Int),(k:Int)-((0:Nat):Int)].filter fun x=>decide (0<x))=[(k:Int)]:=by
     rw[List.filter_cons_of_neg yv,List.filter_cons_of_pos (by simp;omega)];simp
    refine⟨by rw[e];simp;omega,hN _ _ ⟨c++[k],p2,_,_,by rw[fv,je];omega,aa,fun c' h=>?_,?_,rfl⟩⟩
    ·rw[fy];exact hc _ (.one h)
    ·rw[e,jq];rfl
   ·have e:([(z:Int),(k:Int)-(z:Nat)].filter fun x=>decide (0<x))=[(z:Int),((k-z:Nat):Int)]:=by
     rw[List.filter_cons_of_pos (by simp;omega),List.filter_cons_of_pos (by simp;omega)];simp;omega
    refine⟨by rw[e];simp;omega,hN _ _ ⟨c++[z,k-z],p2,_,_,by simp;omega,aa,fun c' h=>?_,?_,rfl⟩⟩
    ·rw[fy];exact hc _ (.two yw yw h)
    ·rw[e,jq];rfl
 ·rintro _ _ ⟨c,p',u,v,cl,y,hc,rfl,rfl⟩;rw[dh,drop_length]at hc;have:=hc [] .nil;rw[kc]at this;walk_at "d";exact .inl (q c p' this y)
def oG(g:Gap)(s t:Int):Gap:=⟨[(0,0-s),(1,0-t)],0-g.hi,0-g.lo⟩
theorem CF{g:Gap}{s t:Int}(h:Gp2 g s t):Gp2 (oG g s t) (0-s) (0-t):=by
 have h1:=h.s3;have h2:=h.t3;have a1:=h.lo;have a2:=h.hi;have a3:=h.le;refine⟨rfl,⟨by have:=h1.ne;omega,by have:=h1.hi;omega,by have:=h1.lo;omega⟩,⟨by have:=h2.ne;omega,by have:=h2.hi;omega,by have:=h2.lo;omega⟩,?_,?_,?_⟩
 ·show 0-g.hi<=0-g.lo;omega
 ·show -10 ^ 60<=0-g.hi;omega
 ·show 0-g.lo<=10 ^ 60;omega
theorem Fk{g:Gap}{s t x y:Int}(h:Gp2 g s t):zZ (oG g s t) [x,y]=zZ g [x,y]:=by
 unfold zZ;rw[worth2 h,worth2 (CF h),decide_eq_decide];show 0-g.hi<=(0-s)*x+(0-t)*y/\(0-s)*x+(0-t)*y<=0-g.lo↔_;rw[Int.sub_mul,Int.sub_mul,Int.zero_mul,Int.zero_mul];omega
theorem F3{g:Gap}{s t:Int}{one other A B:List Int}(h:Rws (oG g s t) (0-s) (0-t) one other A B):Rws g s t one other A B:=by
 refine⟨h.pa,h.pb,h.sa,?_⟩;have:=h.sb;rw[show (0-s)*(0-t)=s*t from by rw[Int.zero_sub,Int.zero_sub,Int.neg_mul_neg]]at this;exact this
theorem Je{g:Gap}{s t:Int}{A B:List Int}(h:Gp2 g s t):aV (oG g s t) A B=aV g A B:=by
 funext i j;exact Fk h
def wdr(g:Gap)(a b:Int):Gap:=⟨g.ts,g.lo-a,g.hi+b⟩
theorem Hf{g:Gap}{s t a b:Int}(h:Gp2 g s t)(hw:-10 ^ 59<=g.lo/\g.hi<=10 ^ 59)(a0:0<=a)(a1:a<1000)(b0:0<=b)(b1:b<1000):Gp2 (wdr g a b) s t:=by
 have k:(10:Int) ^ 60=10*10 ^ 59:=by decide
 have k1:(1000:Int)<10 ^ 59:=by decide
 have h3:=h.le;refine⟨h.ts,h.s3,h.t3,?_,?_,?_⟩
 ·show g.lo-a<=g.hi+b;omega
 ·show -10 ^ 60<=g.lo-a;omega
 ·show g.hi+b<=10 ^ 60;omega
theorem Fl{g:Gap}{a b x y:Int}(a0:0<=a)(b0:0<=b)(h:zZ g [x,y]=true):zZ (wdr g a b) [x,y]=true:=by
 unfold zZ at h ⊢;have:=jf h;refine gq ?_;show g.lo-a<=worth g.ts [x,y]/\worth g.ts [x,y]<=g.hi+b;omega
theorem Hn{g:Gap}{s t a b:Int}{one other A B:List Int}(h:Rws (wdr g a b) s t one other A B):Rws g s t one other A B:=⟨h.pa,h.pb,h.sa,h.sb⟩
theorem Hr{one other:List Int}{rest:DEnds->XE->Sto->Prop}{E:DEnds}{x0 x1 x2 x3 x6 x7 x8 x9:Option XV}{S:Sto}(h:∀m:Nat,m=min one.length other.length->rest E [x0,x1,x2,x3,some (.d (.tuple (one.map cf))),some (.d (.tuple (other.map cf))),some (.d (.int (m:Nat))),x7,x8,x9] S):
  aA (aC (dCB (dI2 fun i j=>if j<i then j else i) (zc (dCB aS (zc (zh 4) zq)) (zc (dCB aS (zc (zh 5) zq)) zq))) (zl 6)) rest E [x0,x1,x2,x3,some (.d (.tuple (one.map cf))),some (.d (.tuple (other.map cf))),x6,x7,x8,x9] S:=by
 walk_at "n";rw[show (if (other.length:Int)<(one.length:Int)then (other.length:Int)else (one.length:Int))=((min one.length other.length:Nat):Int)from by split<;>omega];exact h _ rfl
theorem Db{α β:Type}{f:α->β}{l:List α}{k:Nat}:cD (l.map f) none (some ((k:Nat):Int))=(l.take k).map f:=by
 have hs:∀(i d:Nat),HT.sIx (l.map f).length d (some (i:Nat))=min i (l.map f).length:=fun i d=>by
  unfold HT.sIx;simp;omega
 unfold cD;rw[hs,show HT.sIx (l.map f).length 0 none=0 from rfl,List.drop_zero,Nat.sub_zero,<- map_take,dh];congr 1;by_cases h:k<=l.length
 ·rw[min_eq_left h]
 ·rw[Nat.min_eq_right yw,jt (cu _),jt yw]
theorem HF{g:Gap}{p:List bp}{rest:DEnds->XE->Sto->Prop}{E:DEnds}{x0 x2 x4 x5 x6 x7 x8 x9:Option XV}(hp:bI p)(h:∀(a b:Int) p',0<=a->a<50->0<=b->b<50->bI p'->rest E [x0,some (.d (aH g)),x2,some (.l 0),x4,x5,x6,some (.d (aH (wdr g a b))),x8,x9] [p']):
  aA (aC (aM (zc (dOp dIx (zh 1) (dC (cf 0))) (zc (dOp (dI0 fun i j=>i-j) (dOp dIx (zh 1) (dC (cf 1))) (aR 0 2 zy (zc (zh 3) (zc (dC (cf 50)) zq)))) (zc (dOp aP (dOp dIx (zh 1) (dC (cf 2))) (aR 0 2 zy (zc (zh 3) (zc (dC (cf 50)) zq)))) zq)))) (zl 7)) rest E [x0,some (.d (aH g)),x2,some (.l 0),x4,x5,x6,x7,x8,x9] [p]:=by
 refine seq1 ?_;rw[jK];walk_at "d";refine zN hp dz (by decide +kernel) fun r1 p1 r0 rr aa=>?_;walk_at "d";refine zN aa dz (by decide +kernel) fun r2 p2 r3 y q=>?_;walk_at "d";exact h r1 r2 p2 r0 rr r3 y q
theorem Jc{g:Gap}{s t:Int}{S:Sto}{rest:DEnds->XE->Sto->Prop}{E:DEnds}{x0 x2 x3 x4 x5 x6 x7 x8 x9:Option XV}(hg:Gp2 g s t)(h:rest E [x0,some (.d (aH g)),x2,x3,x4,x5,x6,x7,some (.d (aH (oG g s t))),x9] S):
  aA (aC (aM (zc (dCB fY (zc (bA [none,none] (aW (dOp dIx (zh 1) (dC (cf 0)))) (bB 2 (zM (zl 0) (zM (zl 1) bF))) aL (aM (zc (zh 0) (zc (dOp (dI0 fun i j=>i-j) (dC (cf 0)) (zh 1)) zq)))) zq)) (zc (dOp (dI0 fun i j=>i-j) (dC (cf 0)) (dOp dIx (zh 1) (dC (cf 2)))) (zc (dOp (dI0 fun i j=>i-j) (dC (cf 0)) (dOp dIx (zh 1) (dC (cf 1)))) zq)))) (zl 8)) rest E [x0,some (.d (aH g)),x2,x3,x4,x5,x6,x7,x8,x9] S:=by
 have eg:aH g=.tuple [.tuple ([((0:Nat),s),(1,t)].map tmD),.int g.lo,.int g.hi]:=by
  rw[jK];unfold jC;rw[hg.ts]
 refine seq1 ?_;rw[eg];walk_at "d";refine cmp2 (S0:=S) (fun p:Term=>.tuple [.int p.1,.int (0-p.2)]) rfl [((0:Nat),s),(1,t)] yv ?_ ?_
 ·intro q mq u v acc R' hk;rw[tZ];walk_at "d";exact hk _ _
 ·walk_at "d";rw[eg]at h;exact h
theorem JC(o:Option (List Nat)):gp (cG o)=true/\om (cG o) (cG o)=true:=by
 cases o with
 |none=>exact⟨rfl,rfl⟩
 |some l=>
  have sh:gp (aE l)=true:=shN l;exact⟨sh,SeqAt.eqv_refl _ (jb sh)⟩
theorem wV:∀{l:List Nat}{k:Nat},k∈l->k<=l.sum
 |x::l,k,m=>by
  rw[sum_cons];rcases mem_cons.mp m with rfl|m
  ·omega
  ·have:=wV m;omega
theorem Kg(a:Addr)(n:Int):wK (JN a 9) ((some (.o (.ref a))::bu 9 none).set 2 (some (.d (.int n)))) []:=by
 unfold wK;walk_at "d"
 walk_at "n"
 refine Gs fun p hp=>?_;walk_at "d"
 walk_at "n"
 refine FS hp dz dz fun g s t one other p1 hg h1 h2 l1 l2 hw ai=>?_;walk_at "d";rw[bZ,bZ];refine Hr fun m em=>?_
 walk_at "n"
 rw[Db]
 walk_at "n"
 rw[Db];have o1:(one.take m).length=m:=by rw[ju];omega
 have o2:(other.take m).length=m:=by rw[ju];omega
 have al:m<=10:=yw
 rw[<- bZ,<- bZ]
 clear em l1 l2 h1 h2
 generalize one.take m=one at o1 ⊢;generalize other.take m=other at o2 ⊢;refine HF ai fun wa wb p2 a0 a1 b0 b1 ag=>?_;refine Jc hg ?_;have aa:=Hf hg hw a0 yw b0 yw (b:=wb);have ae:=CF hg;walk_at "n";refine oO hg yw yw ?_;walk_at "d";refine oO aa yw yw ?_;walk_at "d";walk_at "n";refine rE hg yw yw fun A B o hr hb=>?_;walk_at "d";walk_at "n";refine rE ae yw yw fun A' B' o' af ab=>?_;obtain⟨rfl,rfl⟩:=hr.uniq (F3 af);rw[Je hg]at ab;obtain rfl:=hb.uniq ab;obtain⟨sh,er⟩:=JC o;walk_at "d";refine⟨sh,sh,?_⟩;rw[ci (by rw[er];simp)];cases o with
 |none=>
  rw[show cG none=.none from rfl];walk_at "d"
 |some l=>
  have y:MinG (aV g A B) one.length 0 l:=hb;have ll:=y.g.len;have lp:=y.g.pos;have lk:∀k∈l,k<=20:=fun k mk=>by
   have h1:=y.g.sum;have h2:k<=l.sum:=wV mk;omega
  rw[show cG (some l)=aE l from rfl];refine(show ∀{p q:Prop},p->(if (match aE l with|PyData.none=>true|x=>false)=false then p else q)from fun h=>(ck (show (match aE l with|PyData.none=>true|x=>false)=false from rfl)).mpr h) ?_;walk_at "n";refine G9 ag yw lp lk fun c p3 hc am=>?_;walk_at "d";refine yR hg yw yw hr (y.g.cut hc) ?_;walk_at "d";refine rE aa yw yw fun A2 B2 aj ah ac=>?_;obtain⟨rfl,rfl⟩:=hr.uniq (Hn ah);have gw:Gr (aV (wdr g wa wb) A B) one.length 0 l:=y.g.mono fun i j _ _ h=>Fl a0 b0 h;cases aj with
  |none=>exact absurd gw (ac l)
  |some l2=>
   have ak:MinG (aV (wdr g wa wb) A B) one.length 0 l2:=ac;have:l2.length<=l.length:=by rcases ak.m l gw with z|⟨z,_⟩<;>omega
   rw[show cG (some l2)=aE l2 from rfl,bQ,bQ];walk_at "d";rw[ci yw];trivial
def gap52:Gap:=⟨[(0,1),(1,-1)],0,1⟩
theorem gp52:Gp2 gap52 1 (-1):=⟨rfl,⟨by decide,by decide,by decide⟩,⟨by decide,by decide,by decide⟩,by decide,by decide,by decide⟩
theorem IS:(PyData.tuple [.tuple [.tuple [.int 0,.int 1],.tuple [.int 1,.int (-1)]],.int 0,.int 1])=aH gap52:=rfl
theorem KK(a:Addr):v8 (ED a 9) (some (.o (.ref a))::bu 9 none) []:=by
 unfold v8;walk_at "d";walk_at "n";rw[IS];refine oO (one:=[]) (other:=[]) gp52 dz dz ?_;walk_at "d";refine oO (one:=[3,4,9]) (other:=[3,3,8]) gp52 dz dz ?_;walk_at "d";refine oO (one:=[3]) (other:=[4]) gp52 dz dz ?_;walk_at "d"
end
end My
namespace My
open PySem L2
def top (i : Nat) : Stmt := PySem.Challenge.pw_gaugewright_k52_whole_groups_and_matchin.main.body.getD i (.Pass ⟨0, 0, 0, 0⟩)
abbrev xU:Stmt:=top 27
theorem G6:FnScope ["script","k"] ["script","k"] (zj xU):=fsd
abbrev BO:Stmt:=top 29
theorem Bk:FnScope ["cell","left"] ["cell"] (zj BO):=fsd
abbrev Ck:Stmt:=top 28
theorem Bb:FnScope ["seed"] ["seed"] (zj Ck):=fsd
abbrev xY:Stmt:=top 30
theorem BF:FnScope ["pen","many","found"] ["pen","many"] (zj xY):=fsd
abbrev wH:Stmt:=top 33
theorem wP:FnScope ["pen","most","base","wide","many"] ["pen","most","base","wide"] (zj wH):=fsd
abbrev xV:Stmt:=top 32
theorem Cq:FnScope ["pen","way"] ["pen"] (zj xV):=fsd
abbrev vU:Stmt:=top 34
theorem fQ:FnScope ["pen","most","bases","wide","s","t","far","low","high","one"] ["pen","most"] (zj vU):=fsd
abbrev wC:Stmt:=top 21
theorem FK:FnScope ["terms"] ["terms"] (zj wC):=fsd
abbrev Bu:Stmt:=top 20
theorem Fe:FnScope ["gap","one","other"] ["gap","one","other"] (zj Bu):=fsd
abbrev wN:Stmt:=top 3
theorem E1:FnScope ["gap","one"] ["gap","one"] (zj wN):=fsd
abbrev wZ:Stmt:=top 4
theorem F5:FnScope ["gap","one"] ["gap","one"] (zj wZ):=fsd
abbrev v9:Stmt:=top 8
theorem IX:FnScope ["gap","number","other"] ["gap","number","other"] (zj v9):=fsd
abbrev tQ:Stmt:=top 7
theorem JH:FnScope ["gap","one","other"] ["gap","one","other"] (zj tQ):=fsd
abbrev uJ:Stmt:=top 6
theorem rN:FnScope ["gap","one","other","found","i","partners"] ["gap","one","other"] (zj uJ):=fsd
abbrev A7:Stmt:=top 9
theorem JZ:FnScope ["gap","one","other"] ["gap","one","other"] (zj A7):=fsd
abbrev A5:Stmt:=top 23
theorem F9:FnScope ["gap","rows","begin","size"] ["gap","rows","begin","size"] (zj A5):=fsd
abbrev DW:Stmt:=top 25
theorem r8:FnScope ["gap","rows","begin","behind","found","size","further"] ["gap","rows","begin","behind"] (zj DW):=fsd
abbrev EH:Stmt:=top 24
theorem sE:FnScope ["gap","one","other","rows","groupings","begin"] ["gap","one","other"] (zj EH):=fsd
abbrev kY:Stmt:=top 36
theorem lJ:FnScope ["gap","one","other","mine","sign","yours"] ["gap","one","other"] (zj kY):=fsd
abbrev Cc:Stmt:=top 1
theorem IZ:FnScope ["thing"] ["thing"] (zj Cc):=fsd
abbrev t7:Stmt:=top 22
theorem Ea:FnScope ["pieces","thing"] ["pieces","thing"] (zj t7):=fsd
abbrev BM:Stmt:=top 19
theorem lI:FnScope ["gap","one","other","thing","rows","begin","size"] ["gap","one","other","thing"] (zj BM):=fsd
abbrev yV:Stmt:=top 35
theorem qK:FnScope ["gap","here","there","terms","low","high"] ["gap","here","there"] (zj yV):=fsd
abbrev uQ:Stmt:=top 37
theorem BK:FnScope ["gap","one","other","rows","first","size","i"] ["gap","one","other","rows","first","size"] (zj uQ):=fsd
abbrev yZ:Stmt:=top 38
theorem kA:FnScope ["gap","one","other","rows","first","groups","size"] ["gap","one","other","rows","first"] (zj yZ):=fsd
abbrev xA:Stmt:=top 31
theorem HC:FnScope ["found"] ["found"] (zj xA):=fsd
abbrev u9:Stmt:=top 39
theorem zQ:FnScope ["gap","one","other","found","rows","first","k","size","less"] ["gap","one","other","found"] (zj u9):=fsd
abbrev Ar:Stmt:=top 14
theorem yH:FnScope ["rows","i","matches","asked","j"] ["rows","i","matches","asked"] (zj Ar):=fsd
abbrev AQ:Stmt:=top 13
theorem sZ:FnScope ["rows","matches","i"] ["rows"] (zj AQ):=fsd
abbrev vT:Stmt:=top 12
theorem Gj:FnScope ["row","used"] ["row","used"] (zj vT):=fsd
abbrev tV:Stmt:=top 11
theorem tT:FnScope ["rows","i","used","wanted","j","later"] ["rows","i","used","wanted"] (zj tV):=fsd
abbrev Ab:Stmt:=top 10
theorem i9:FnScope ["gap","one","other","rows","most","told","used","i","j"] ["gap","one","other"] (zj Ab):=fsd
abbrev Ag:Stmt:=top 40
theorem D8:FnScope ["gap","one","other","found"] ["gap","one","other"] (zj Ag):=fsd
abbrev tH:Stmt:=top 41
theorem qE:FnScope ["found","pen","some","size","less"] ["found","pen"] (zj tH):=fsd
abbrev s_law:Stmt:=top 42
theorem dP:FnScope ["script","gap","cell","pen","one","other","many","wide","turned","found"] ["script"] (zj s_law):=fsd
structure Txt(mg:Str->Option bn):Prop where
 n_min:mg "min" = none
 n_len:mg "len" = none
 n_tuple:mg "tuple" = none
 n_max:mg "max" = none
 n_int:mg "int" = none
 n_range:mg "range" = none
 n_abs:mg "abs" = none
 n_sorted:mg "sorted" = none
 n_sum:mg "sum" = none
 n_enumerate:mg "enumerate" = none
 n_isinstance:mg "isinstance" = none
 n_bool:mg "bool" = none
 n_all:mg "all" = none
 n_list:mg "list" = none
structure Dds(K:cy)(mg:Str->Option bn):Prop where
 a0:Dd K mg "_law_cell_at" xU ["script","k"]
 a1:Dd K mg "_law_pen" BO ["cell"]
 a2:Dd K mg "_law_next" Ck ["seed"]
 a3:Dd K mg "_law_draw" xY ["pen","many"]
 a4:Dd K mg "_law_box" wH ["pen","most","base","wide"]
 a5:Dd K mg "_law_number" xV ["pen"]
 a6:Dd K mg "_law_boxes" vU ["pen","most"]
 a7:Dd K mg "just_one_below_nought" wC ["terms"]
 a8:Dd K mg "rows_of" Bu ["gap","one","other"]
 a9:Dd K mg "worth_of" wN ["gap","one"]
 a10:Dd K mg "keeps" wZ ["gap","one"]
 a11:Dd K mg "fitting_pieces" v9 ["gap","number","other"]
 a12:Dd K mg "partners_of" tQ ["gap","one","other"]
 a13:Dd K mg "pairs" uJ ["gap","one","other"]
 a14:Dd K mg "all_fit" A7 ["gap","one","other"]
 a15:Dd K mg "group_fits" A5 ["gap","rows","begin","size"]
 a16:Dd K mg "least_grouping" DW ["gap","rows","begin","behind"]
 a17:Dd K mg "grouping_of" EH ["gap","one","other"]
 a18:Dd K mg "_law_rows" kY ["gap","one","other"]
 a19:Dd K mg "is_whole" Cc ["thing"]
 a20:Dd K mg "is_grouping" t7 ["pieces","thing"]
 a21:Dd K mg "grouping_holds" BM ["gap","one","other","thing"]
 a22:Dd K mg "_law_fits" yV ["gap","here","there"]
 a23:Dd K mg "_law_group" uQ ["gap","one","other","rows","first","size"]
 a24:Dd K mg "_law_greatest" yZ ["gap","one","other","rows","first"]
 a25:Dd K mg "_law_whole" xA ["found"]
 a26:Dd K mg "_law_told_right" u9 ["gap","one","other","found"]
 a27:Dd K mg "find_match" Ar ["rows","i","matches","asked"]
 a28:Dd K mg "most_matched" AQ ["rows"]
 a29:Dd K mg "free_partners" vT ["row","used"]
 a30:Dd K mg "least_partner" tV ["rows","i","used","wanted"]
 a31:Dd K mg "matched" Ab ["gap","one","other"]
 a32:Dd K mg "_law_right" Ag ["gap","one","other"]
 a33:Dd K mg "_law_cut" tH ["found","pen"]
section
variable {P:fx}{w:io}{K:cy}{mg:Str->Option bn}{base:Heap}
local macro_rules|`(tactic|walk_at "r")=>do
 let ts<-("zk 0,zf 2,zr 0,zF 0,zt 0,zU 2,bE 1,cL 2,dQ 0,cA 2,dY 0,zU 0,kJ 0,eL 3,kS 0,cY 0,jQ 2,zW 2,iN 0,kF 0,tB 0,bM 1,zf 0,eE 1,qS 0,j8 1,G0 1,C8 0,fD 1,bE 0,e8 0,jX 3,Fp 0,Ev 0,qD 1,cL 0,fE 1,mT 4,cN 1,Cz 0,jX 0,qV 1,rW 3,I0 0,Bg 0,tK 0,Bv 1,GB 0,mW 2,lF 0,eL 0,fD 0,eE 0,qG 0,Ba 0,HH 0,HW 2,u4 0,Fm 0,HM 5,r9 1,qV 0,rW 0,vO 0,Ix 2,uV 2,E7 1,jR 0,Kk 2,Hx 1,jR 2,uS 0,uW 1,KL 0,vE 0,rD 0,F4 0,Gd 0,IJ 1,Ja 0,Ic 0,JW 1,KW 0,Ep 1,HS 0,Gu 2,IB 1,E6 0,Jw 0,BI 0,Aj 0,w4 0,xE 0,DV 0,KR 2,KJ 1,bM 0,Dn 0,aO 3,cH 2,gV 1,cH 0,aO 0".splitOn ",").toArray.mapM fun x=>do
  let i:=x.splitOn " "
  let h<-`(term|?_)
  let hs:=Array.replicate ((i.getD 1 "").toNat!) h
  `(Lean.Parser.Tactic.tacticSeq|refine $(Lean.mkIdent (i.getD 0 "").toName) $hs*)
 `(tactic|repeat' (first|with_reducible (first $[|$ts:tacticSeq]*)|rfl))
theorem HY(T:Txt mg:=by assumption)(dd:Dds K mg:=by assumption):Df P w K mg base "_law_cell_at" ["script","k"] 1 (sp2 (vN K)):=by
 refine Df.of2 dd.a0 G6 (fun v u=>[some v,some u]) (fun _ _=>rfl) fun f y A outer s H v u Q E hr h=>?_;obtain⟨a,ns,i,rfl,rfl,hS,h0,q⟩:=h;refine⟨_,(zg (aT (zR i5 (pv 1) (zn KA (by rfl) T.n_len aX (za (pv 0) zd)) (nomark _)) (zm (zw (aI Ax (pv 0) (pv 1) (fun _ _=>rfl)))) zO) (zm (zw zi))),?_⟩;simp only[cX,oZ,pS,tOp,K3,tCB,cZ,jD,uX,tC,uO,CK,lf,lg];refine⟨a,_,rfl,.inl hS,?_⟩;simp only[CK,Hw,decide_eq_true_eq];refine ite2 (fun hi=>?_) (fun _=>q 0);obtain⟨n,e⟩:=E9 h0 hi;exact⟨a,_,i,_,rfl,rfl,hS,e,q n⟩
variable (T:Txt mg:=by assumption) (dd:Dds K mg:=by assumption)
include T dd
theorem Jh:Df P w K mg base "_law_pen" ["cell"] 1 (spN ["cell"] tL):=by
 exact Df.dN dd.a1 Bk 1 rfl fun f y A outer s H E hr=>⟨_,_,(zg (zI (i:=1) Bk.nd rfl lo (zn (G7 rfl) (by rfl) T.n_max Fd (za (pv 0) (za (zD cP zi (pv 0)) zd)))) (zm (zw (cT (za (pv 1) (za (sI Ey (by rfl) T.n_int uF (za (gQ BJ (pv 1) (zD sG zi zi) (nomark _)) zd)) (za (zD nX (pv 1) zi) zd))))))),(by walk_at "r"),fun xs S R q=>q⟩
theorem Ca:Df P w K mg base "_law_next" ["seed"] 1 (spN ["seed"] pI):=by
 exact Df.dN dd.a2 Bb 0 rfl fun f y A outer s H E hr=>⟨_,_,(zg (zI (i:=0) Bb.nd rfl lo (zD nX (zD zS (pv 0) zi) zi)) (zm (zw (zD nX (zD zS (zD zS (zD cO (pv 0) (pv 0)) (zD cO zi (pv 0))) zi) zi)))),(by walk_at "r"),fun xs S R q=>q⟩
theorem zV:Df P w K mg base "_law_draw" ["pen","many"] 2 (spN ["pen","many"] zy):=by
 exact Df.dN dd.a3 BF 1 rfl fun f y A outer s H E hr=>⟨_,_,(zg (aT (zR (i7 hr.units) (aI zJ (pv 0) zi (fun _ _=>rfl)) zi (nomark _)) (zg (zI (i:=2) BF.nd rfl lo (zD nX (aI zJ (pv 0) zi (fun _ _=>rfl)) (pv 1))) (zg (oW (zD yN (aI zJ (pv 0) zi (fun _ _=>rfl)) (pv 1)) (AV (pv 0) zi Bl)) (zm (zw (pv 2))))) zO) (zg (oW (zu Ca hr dz (za (zD zS (zu Ca hr dz (za (aI zJ (pv 0) zi (fun _ _=>rfl)) zd)) zi) zd)) (AV (pv 0) zi Bl)) (zm (zw (zD nX (zD yN (aI zJ (pv 0) zi (fun _ _=>rfl)) zi) (pv 1)))))),(by walk_at "r"),fun xs S R q=>q⟩
theorem Bs:Df P w K mg base "_law_box" ["pen","most","base","wide"] 3 (spN ["pen","most","base","wide"] lK):=by
 exact Df.dN dd.a4 wP 1 rfl fun f y A outer s H E hr=>⟨_,_,(zg (zI (i:=4) wP.nd rfl lo (zu zV hr dz (za (pv 0) (za (zD zS (pv 1) zi) zd)))) (zg (aT (zR (i7 hr.units) (zu zV hr dz (za (pv 0) (za zi zd))) zi (nomark _)) (zm (zw (zD Iv (bC (za (pv 2) zd)) (pv 4)))) zO) (zm (zw (sI CN (by rfl) T.n_tuple EF (za (cV (fun _ _ h=>h) rfl (zP rfl rfl rfl rfl (N:=["k","base","pen","wide"]) (caps:=[none,some 2,some 0,some 3]) (by show bL ["pen","most","base","wide","many"] (zj wH).names _ _ _=true;decide +kernel)) (rY rfl T.n_range (za (pv 4) zd)) (fun _ _ _ _=>(zp (i:=0) (by show iq (["k","base","pen","wide"]:List Str);decide) rfl (ip rfl))) (fun _ _ _ _=>c9) (fun _ _ _ _=>(zD zS (pv 1) (zu zV hr dz (za (pv 2) (za (pv 3) zd)))))) zd)))))),(zU (by walk_at "r") (zU (by walk_at "r") (bE (cH u4 (zf (cR (uW (zf zk zr)) zt dD (aO kJ zk (jQ (i:=0) (zf zk (zf zk zr))))) zr))))),fun xs S R q=>q⟩
theorem BA:Df P w K mg base "_law_number" ["pen"] 3 (spN ["pen"] qT):=by
 exact Df.dN dd.a5 Cq 1 rfl fun f y A outer s H E hr=>⟨_,_,(zg (zI (i:=1) Cq.nd rfl lo (zu zV hr dz (za (pv 0) (za zi zd)))) (zg (aT (zR i5 (pv 1) zi (nomark _)) (zm (zw (zD cP (zu zV hr dz (za (pv 0) (za zi zd))) zi))) zO) (zg (aT (zR i5 (pv 1) zi (nomark _)) (zm (zw (zD cP (zu zV hr dz (za (pv 0) (za zi zd))) zi))) zO) (zm (zw (zD cO (zD cP (zu zV hr dz (za (pv 0) (za (zD cO zi (zD sG zi zi)) zd))) (zD sG zi zi)) (zD sG zi zi))))))),(by walk_at "r"),fun xs S R q=>q⟩
theorem Ig:Df P w K mg base "_law_boxes" ["pen","most"] 4 (spN ["pen","most"] pL):=by
 exact Df.dN dd.a6 fQ 8 rfl fun f y A outer s H E hr=>⟨_,_,(zg (zI (i:=2) fQ.nd rfl lo (cT (za (zu BA hr dz (za (pv 0) zd)) (za (zu BA hr dz (za (pv 0) zd)) zd)))) (zg (zI (i:=3) fQ.nd rfl lo (aI zJ (cT (za zi (za zi (za zi (za zi zd))))) (zu zV hr dz (za (pv 0) (za zi zd))) (fun _ _=>rfl))) (zg (oW (cV (fun _ _ h=>h) rfl (zP rfl rfl rfl rfl (N:=["k","pen"]) (caps:=[none,some 0]) (by show bL ["pen","most","bases","wide","s","t","far","low","high","one"] (zj vU).names _ _ _=true;decide +kernel)) (rY rfl T.n_range (za zi zd)) (fun _ _ _ _=>(zp (i:=0) (by show iq (["k","pen"]:List Str);decide) rfl (ip rfl))) (fun _ _ _ _=>c9) (fun _ _ _ _=>(aI zJ (BH (dW zi (dW (jO i4 zi) (dW zi (dW (jO i4 zi) (dW zi (dW (jO i4 zi) jW))))))) (zu zV hr dz (za (pv 1) (za zi zd))) (fun _ _=>rfl)))) (K9 (n:=2) rfl (zA (zp (i:=4) fQ.nd rfl (ip rfl)) (zA (zp (i:=5) fQ.nd rfl (ip rfl)) c8)))) (zg (zI (i:=6) fQ.nd rfl lo (zD cO (pv 3) (zD zS (zn A1 (by rfl) T.n_abs AT (za (pv 4) zd)) (zn A1 (by rfl) T.n_abs AT (za (pv 5) zd))))) (zg (zI (i:=7) fQ.nd rfl lo (zD cP (zD zS (zD zS (zD cO (pv 4) (aI zJ (pv 2) zi (fun _ _=>rfl))) (zD cO (pv 5) (aI zJ (pv 2) zi (fun _ _=>rfl)))) (zu zV hr dz (za (pv 0) (za (zD zS (zD cO zi (pv 6)) zi) zd)))) (pv 6))) (zg (zI (i:=8) fQ.nd rfl lo (zD zS (pv 7) (aI zJ (BH (dW zi (dW zi (dW zi (dW (pv 3) (dW (pv 6) (dW (zD cO zi (pv 3)) jW))))))) (zu zV hr dz (za (pv 0) (za zi zd))) (fun _ _=>rfl)))) (zg (zI (i:=9) fQ.nd rfl lo (zu Bs hr dz (za (pv 0) (za (pv 1) (za (aI zJ (pv 2) zi (fun _ _=>rfl)) (za (pv 3) zd)))))) (zm (zw (bC (za (bC (za (bC (za (bC (za zi (za (pv 4) zd))) (za (bC (za zi (za (pv 5) zd))) zd))) (za (pv 7) (za (pv 8) zd)))) (za (pv 9) (za (zu Bs hr dz (za (pv 0) (za (pv 1) (za (aI zJ (pv 2) zi (fun _ _=>rfl)) (za (pv 3) zd))))) zd))))))))))))),(zU (by walk_at "r") (zU (by walk_at "r") (zU (cL (cR (uW (zf zF zr)) zt dD (aO dQ (qD (zf zF (zf (mW lF zF) (zf zF (zf (mW lF zF) (zf zF (zf (mW lF zF) zr))))))) (jQ (i:=0) (zf zk (zf zF zr))))) (by walk_at "r")) (by walk_at "r")))),fun xs S R q=>q⟩
theorem FG:Df P w K mg base "just_one_below_nought" ["terms"] 1 (spN ["terms"] zX):=by
 exact Df.dN dd.a7 FK 0 rfl fun f y A outer s H E hr=>⟨_,_,(zm (zw (gQ (i7 hr.units) (zn zE (by rfl) T.n_len aX (za (cV (fun _ _ h=>h) rfl (zP (L:=0) rfl rfl rfl rfl (N:=["part","times"]) (caps:=[none,none]) (by show bL ["terms"] (zj wC).names _ _ _=true;decide +kernel)) (bV (pv 0)) (fun _ _ _ _=>(dJ (n:=2) rfl (zA (zp (i:=0) (by show iq (["part","times"]:List Str);decide) rfl (ip rfl)) (zA (zp (i:=1) (by show iq (["part","times"]:List Str);decide) rfl (ip rfl)) c8)))) (fun _ _ _ _=>(rB (zR i5 (pv 1) zi (nomark _)))) (fun _ _ _ _=>(pv 1))) zd)) zi (nomark _)))),(bE (aO C8 (cH kS (zf (cR (cN zk) (fE (zW zt (zW zt e8))) (gV (aO kF zk zF)) zk) zr)) zF)),fun xs S R q=>q⟩
theorem Bf:Df P w K mg base "rows_of" ["gap","one","other"] 2 (spN ["gap","one","other"] mH):=by
 exact Df.dN dd.a8 Fe 0 rfl fun f y A outer s H E hr=>⟨_,_,(zg (aT (zR (qC hr.units) (zn zE (by rfl) T.n_len aX (za (pv 1) zd)) (zn zE (by rfl) T.n_len aX (za (pv 2) zd)) (nomark _)) (zm Ff) zO) (zg (aT (bW (zu FG hr dz (za (aI zJ (pv 0) zi (fun _ _=>rfl)) zd)) (fun _=>rfl)) (zm (zw (bC (za (zn sP (by rfl) T.n_sorted kT (za (pv 1) zd)) (za (zn sP (by rfl) T.n_sorted kT (za (pv 2) zd)) zd))))) zO) (zm (zw (bC (za (zn sP (by rfl) T.n_sorted kT (za (pv 1) zd)) (za (HN (by rfl) T.n_sorted (za (pv 2) zd)) zd))))))),(by walk_at "r"),fun xs S R q=>q⟩
theorem Iw:Df P w K mg base "worth_of" ["gap","one"] 1 (spN ["gap","one"] rX):=by
 exact Df.dN dd.a9 E1 0 rfl fun f y A outer s H E hr=>⟨_,_,(zm (zw (zn (vC rfl) (by rfl) T.n_sum uT (za (cV (fun _ _ h=>h) rfl (zP rfl rfl rfl rfl (N:=["part","times","one"]) (caps:=[none,none,some 1]) (by show bL ["gap","one"] (zj wN).names _ _ _=true;decide +kernel)) (bV (aI zJ (pv 0) zi (fun _ _=>rfl))) (fun _ _ _ _=>(dJ (n:=2) rfl (zA (zp (i:=0) (by show iq (["part","times","one"]:List Str);decide) rfl (ip rfl)) (zA (zp (i:=1) (by show iq (["part","times","one"]:List Str);decide) rfl (ip rfl)) c8)))) (fun _ _ _ _=>c9) (fun _ _ _ _=>(zD cO (pv 1) (aI zJ (pv 2) (pv 0) (fun _ _=>rfl))))) zd)))),(bE (cH Bg (zf (cR (cN (aO dQ zk zF)) (fE (zW zt (zW zt e8))) dD (aO tB zk (aO dQ zk zk))) zr))),fun xs S R q=>q⟩
theorem E5:Df P w K mg base "keeps" ["gap","one"] 2 (spN ["gap","one"] rM):=by
 exact Df.dN dd.a10 F5 0 rfl fun f y A outer s H E hr=>⟨_,_,(zm (zw (Bt m7 m7 (aI zJ (pv 0) zi (fun _ _=>rfl)) (zu Iw hr dz (za (pv 0) (za (pv 1) zd))) (aI zJ (pv 0) zi (fun _ _=>rfl))))),(by walk_at "r"),fun xs S R q=>q⟩
theorem FL:Df P w K mg base "fitting_pieces" ["gap","number","other"] 3 (spN ["gap","number","other"] pW):=by
 exact Df.dN dd.a11 IX 0 rfl fun f y A outer s H E hr=>⟨_,_,(zm (zw (cV (fun _ _ h=>h) rfl (zP rfl rfl rfl rfl (N:=["j","its_number","gap","number"]) (caps:=[none,none,some 0,some 1]) (by show bL ["gap","number","other"] (zj v9).names _ _ _=true;decide +kernel)) (lP rfl T.n_enumerate (za (pv 2) zd)) (fun _ _ _ _=>(dJ (n:=2) rfl (zA (zp (i:=0) (by show iq (["j","its_number","gap","number"]:List Str);decide) rfl (ip rfl)) (zA (zp (i:=1) (by show iq (["j","its_number","gap","number"]:List Str);decide) rfl (ip rfl)) c8)))) (fun _ _ _ _=>(rB (bW (zu E5 hr dz (za (pv 2) (za (bC (za (pv 3) (za (pv 1) zd))) zd))) (fun _=>rfl)))) (fun _ _ _ _=>(pv 0))))),(bE (wB (r9 (zf zk zr)) (fE (zW zt (zW zt e8))) (eE (cA (zf zk (zf (bM (zf zk (zf zk zr))) zr)))) zk)),fun xs S R q=>q⟩
theorem Aa:Df P w K mg base "partners_of" ["gap","one","other"] 4 (spN ["gap","one","other"] oC):=by
 exact Df.dN dd.a12 JH 0 rfl fun f y A outer s H E hr=>⟨_,_,(zm (zw (cV (fun _ _ h=>h) rfl (zP rfl rfl rfl rfl (N:=["number","gap","other"]) (caps:=[none,some 0,some 2]) (by show bL ["gap","one","other"] (zj tQ).names _ _ _=true;decide +kernel)) (bV (pv 1)) (fun _ _ _ _=>(zp (i:=0) (by show iq (["number","gap","other"]:List Str);decide) rfl (ip rfl))) (fun _ _ _ _=>c9) (fun _ _ _ _=>(zu FL hr dz (za (pv 1) (za (pv 0) (za (pv 2) zd)))))))),(bE (wB (cN zk) zt dD (cA (zf zk (zf zk (zf zk zr)))))),fun xs S R q=>q⟩
theorem Fc:Df P w K mg base "pairs" ["gap","one","other"] 5 (spN ["gap","one","other"] sF):=by
 exact Df.dN dd.a13 rN 3 rfl fun f y A outer s H E hr=>⟨_,_,(zg (zI (i:=3) rN.nd rfl lo (cT zd)) (zg (dG iw rfl (lP rfl T.n_enumerate (za (zu Aa hr dz (za (pv 0) (za (pv 1) (za (pv 2) zd)))) zd)) (dJ (n:=2) rfl (zA (zp (i:=4) rN.nd rfl (Or.inr rfl)) (zA (zp (i:=5) rN.nd rfl (ip rfl)) c8))) (zm (jM (kC PySem.F.plainAttrs_list PySem.F.slot_list_extend PySem.F.type_list_extend Be (pv 3) (za (cV (fun _ _ h=>h) rfl (zP rfl rfl rfl rfl (N:=["j","i"]) (caps:=[none,some 4]) (by show bL ["gap","one","other","found","i","partners"] (zj uJ).names _ _ _=true;decide +kernel)) (bV (pv 5)) (fun _ _ _ _=>(zp (i:=0) (by show iq (["j","i"]:List Str);decide) rfl (ip rfl))) (fun _ _ _ _=>c9) (fun _ _ _ _=>(bC (za (pv 1) (za (pv 0) zd))))) zd))))) (zm (zw (pv 3))))),(zU (by walk_at "r") (zU (jX (by walk_at "r") (by walk_at "r") (qV (rW vO zk (zf (cR (cN zk) zt dD (bM (zf zk (zf zk zr)))) zr)))) (bE zk))),fun xs S R q=>q⟩
theorem EL:Df P w K mg base "all_fit" ["gap","one","other"] 6 (spN ["gap","one","other"] rG):=by
 exact Df.dN dd.a14 JZ 0 rfl fun f y A outer s H E hr=>⟨_,_,(zm (zw (gQ (i7 hr.units) (zn zE (by rfl) T.n_len aX (za (zu Fc hr dz (za (pv 0) (za (pv 1) (za (pv 2) zd)))) zd)) (zD cO (zn zE (by rfl) T.n_len aX (za (pv 1) zd)) (zn zE (by rfl) T.n_len aX (za (pv 2) zd))) (nomark _)))),(by walk_at "r"),fun xs S R q=>q⟩
theorem Cp:Df P w K mg base "group_fits" ["gap","rows","begin","size"] 7 (spN ["gap","rows","begin","size"] oA):=by
 exact Df.dN dd.a15 F9 0 rfl fun f y A outer s H E hr=>⟨_,_,(zm (zw (zu EL hr dz (za (pv 0) (za (hZ lO (aI zJ (pv 1) zi (fun _ _=>rfl)) (dR (pv 2)) (dR (zD zS (pv 2) (pv 3)))) (za (hZ lO (aI zJ (pv 1) zi (fun _ _=>rfl)) (dR (pv 2)) (dR (zD zS (pv 2) (pv 3)))) zd)))))),(by walk_at "r"),fun xs S R q=>q⟩
theorem KH:Df P w K mg base "least_grouping" ["gap","rows","begin","behind"] 8 (spN ["gap","rows","begin","behind"] pR):=by
 exact Df.dN dd.a16 r8 3 rfl fun f y A outer s H E hr=>⟨_,_,(zg (zI (i:=4) r8.nd rfl lo (cT zd)) (zg (dG iw rfl (Ii rfl T.n_enumerate (za (pv 3) zd)) (dJ (n:=2) rfl (zA (zp (i:=5) r8.nd rfl (ip rfl)) (zA (zp (i:=6) r8.nd rfl (ip rfl)) c8))) (zm (aT (PW.pt (BG (zR tG (pv 6) pF (nomark _)) (yT (bW (zu Cp hr dz (za (pv 0) (za (pv 1) (za (pv 2) (za (pv 5) zd))))) (fun _=>rfl))))) (zm (jM (kC PySem.F.plainAttrs_list PySem.F.slot_list_append PySem.F.type_list_append qZ (pv 4) (za (zD zS (cT (za (pv 5) zd)) (pv 6)) zd)))) zO))) (zm (zw (Gx rfl (by rfl) T.n_min (by rfl) T.n_len (za (pv 4) zd)))))),(by walk_at "r"),fun xs S R q=>q⟩
theorem rA:Df P w K mg base "grouping_of" ["gap","one","other"] 9 (spN ["gap","one","other"] jH):=by
 exact Df.dN dd.a17 sE 3 rfl fun f y A outer s H E hr=>⟨_,_,(zg (zI (i:=3) sE.nd rfl lo (zu Bf hr dz (za (pv 0) (za (pv 1) (za (pv 2) zd))))) (zg (zI (i:=4) sE.nd rfl lo (cT (za (cT zd) zd))) (zg (dG iw rfl (K8 rfl T.n_range (za (zD cP (zn zE (by rfl) T.n_len aX (za (pv 1) zd)) zi) (za (jO i4 zi) (za (jO i4 zi) zd)))) (zp (i:=5) sE.nd rfl (ip rfl)) (zm (jM (kC PySem.F.plainAttrs_list PySem.F.slot_list_insert PySem.F.type_list_insert GU (pv 4) (za zi (za (zu KH hr dz (za (pv 0) (za (pv 3) (za (pv 5) (za (pv 4) zd))))) zd)))))) (zm (zw (aI zJ (pv 4) zi (fun _ _=>rfl))))))),(by walk_at "r"),fun xs S R q=>q⟩
theorem Gy:Df P w K mg base "_law_rows" ["gap","one","other"] 1 (spN ["gap","one","other"] pK):=by
 exact Df.dN dd.a18 lJ 3 rfl fun f y A outer s H E hr=>⟨_,_,(zg (vZ (i:=3) (fun _ _ h=>h) rfl (zP rfl rfl rfl rfl (N:=["number","piece"]) (caps:=[none,none]) (by show bL ["gap","one","other","mine","sign","yours"] (zj kY).names _ _ _=true;decide +kernel)) lJ.nd rfl rfl (bV (zn BC (by rfl) T.n_sorted kT (za (cV (fun _ _ h=>h) rfl (zP rfl rfl rfl rfl (N:=["piece","number"]) (caps:=[none,none]) (by show bL ["gap","one","other","mine","sign","yours"] (zj kY).names _ _ _=true;decide +kernel)) (lP rfl T.n_enumerate (za (pv 1) zd)) (fun _ _ _ _=>(dJ (n:=2) rfl (zA (zp (i:=0) (by show iq (["piece","number"]:List Str);decide) rfl (ip rfl)) (zA (zp (i:=1) (by show iq (["piece","number"]:List Str);decide) rfl (ip rfl)) c8)))) (fun _ _ _ _=>c9) (fun _ _ _ _=>(bC (za (pv 1) (za (pv 0) zd))))) zd))) (fun _ _ _ _=>(dJ (n:=2) rfl (zA (zp (i:=0) (by show iq (["number","piece"]:List Str);decide) rfl (ip rfl)) (zA (zp (i:=1) (by show iq (["number","piece"]:List Str);decide) rfl (ip rfl)) c8)))) (fun _ _ _ _=>c9) (fun _ _ _ _=>(pv 1))) (zg (zI (i:=4) lJ.nd rfl (Or.inr rfl) zi) (zg (aT (zR qF (zD cO (aI zJ (aI zJ (aI zJ (pv 0) zi (fun _ _=>rfl)) zi (fun _ _=>rfl)) zi (fun _ _=>rfl)) (aI zJ (aI zJ (aI zJ (pv 0) zi (fun _ _=>rfl)) zi (fun _ _=>rfl)) zi (fun _ _=>rfl))) zi (nomark _)) (zm (zI (i:=4) lJ.nd rfl (Or.inr rfl) (jO i4 zi))) zO) (zg (vZ (i:=5) (fun _ _ h=>h) rfl (zP rfl rfl rfl rfl (N:=["number","piece"]) (caps:=[none,none]) (by show bL ["gap","one","other","mine","sign","yours"] (zj kY).names _ _ _=true;decide +kernel)) lJ.nd rfl rfl (bV (zn BC (by rfl) T.n_sorted kT (za (cV (fun _ _ h=>h) rfl (zP rfl rfl rfl rfl (N:=["piece","number","sign"]) (caps:=[none,none,some 4]) (by show bL ["gap","one","other","mine","sign","yours"] (zj kY).names _ _ _=true;decide +kernel)) (lP rfl T.n_enumerate (za (pv 2) zd)) (fun _ _ _ _=>(dJ (n:=2) rfl (zA (zp (i:=0) (by show iq (["piece","number","sign"]:List Str);decide) rfl (ip rfl)) (zA (zp (i:=1) (by show iq (["piece","number","sign"]:List Str);decide) rfl (ip rfl)) c8)))) (fun _ _ _ _=>c9) (fun _ _ _ _=>(bC (za (zD cO (pv 2) (pv 1)) (za (pv 0) zd))))) zd))) (fun _ _ _ _=>(dJ (n:=2) rfl (zA (zp (i:=0) (by show iq (["number","piece"]:List Str);decide) rfl (ip rfl)) (zA (zp (i:=1) (by show iq (["number","piece"]:List Str);decide) rfl (ip rfl)) c8)))) (fun _ _ _ _=>c9) (fun _ _ _ _=>(pv 1))) (zm (zw (bC (za (pv 3) (za (pv 5) zd))))))))),(zU (cL (cR (cN (cH CS (zf (cR (r9 (zf zk zr)) (fE (zW zt (zW zt e8))) dD (bM (zf zk (zf zk zr)))) zr))) (fE (zW zt (zW zt e8))) dD zk) zt) (zU (cL zF zt) (zU (by walk_at "r") (zU (cL (cR (cN (cH CS (zf (cR (r9 (zf zk zr)) (fE (zW zt (zW zt e8))) dD (bM (zf (aO tB zk zk) (zf zk zr)))) zr))) (fE (zW zt (zW zt e8))) dD zk) zt) (by walk_at "r"))))),fun xs S R q=>q⟩
theorem Er:Df P w K mg base "is_whole" ["thing"] 1 (spN ["thing"] qA):=by
 exact Df.dN dd.a19 IZ 0 rfl fun f y A outer s H E hr=>⟨_,_,(zm (zw (qR (zn kQ (by rfl) T.n_isinstance kM (za (pv 0) (za (jY rfl T.n_int uF (v:=.ty "int") rfl) zd))) (pQ (AB (zn kQ (by rfl) T.n_isinstance kM (za (pv 0) (za (jY rfl T.n_bool B3 (v:=.ty "bool") rfl) zd)))))))),(by walk_at "r"),fun xs S R q=>q⟩
theorem Fx:Df P w K mg base "is_grouping" ["pieces","thing"] 2 (spN ["pieces","thing"] sD):=by
 exact Df.dN dd.a20 Ea 0 rfl fun f y A outer s H E hr=>⟨_,_,(zg (aT (PW.pt (iG (dS (bW (zn kQ (by rfl) T.n_isinstance kM (za (pv 1) (za (jY rfl T.n_list uM (v:=.ty "list") rfl) zd))) (fun _=>rfl))) (kK (dS (bW (zn (sY rfl) (by rfl) T.n_all tN (za (cV (fun _ _ h=>h) rfl (zP (L:=0) rfl rfl rfl rfl (N:=["size"]) (caps:=[none]) (by show bL ["pieces","thing"] (zj t7).names _ _ _=true;decide +kernel)) (bV (pv 1)) (fun _ _ _ _=>(zp (i:=0) (by show iq (["size"]:List Str);decide) rfl (ip rfl))) (fun _ _ _ _=>c9) (fun _ _ _ _=>(qR (zu Er hr dz (za (pv 0) zd)) (pQ (gQ BJ (pv 0) zi (nomark _)))))) zd)) (fun _=>rfl)))))) (zm (zw bH)) zO) (zm (zw (gQ (i7 hr.units) (zn (vC rfl) (by rfl) T.n_sum uT (za (pv 1) zd)) (pv 0) (nomark _))))),(zU (eL (jR (by walk_at "r") (fD (eE (cH qG (zf (cR (cN zk) zt dD (uV (cA (zf zk zr)) (aO kF zk zF))) zr))))) (bE cY) dY) (by walk_at "r")),fun xs S R q=>q⟩
theorem B7:Df P w K mg base "grouping_holds" ["gap","one","other","thing"] 8 (spN ["gap","one","other","thing"] pH):=by
 exact Df.dN dd.a21 lI 3 rfl fun f y A outer s H E hr=>⟨_,_,(zg (zI (i:=4) lI.nd rfl lo (zu Bf hr dz (za (pv 0) (za (pv 1) (za (pv 2) zd))))) (zg (aT (dS (bW (zu Fx hr dz (za (zn zE (by rfl) T.n_len aX (za (pv 1) zd)) (za (pv 3) zd))) (fun _=>rfl))) (zm (zw bH)) zO) (zg (zI (i:=5) lI.nd rfl lo zi) (zg (dG iw rfl (bV (pv 3)) (zp (i:=6) lI.nd rfl (ip rfl)) (zg (aT (dS (bW (zu Cp hr dz (za (pv 0) (za (pv 4) (za (pv 5) (za (pv 6) zd))))) (fun _=>rfl))) (zm (zw bH)) zO) (zm (zI (i:=5) lI.nd rfl lo (zD zS (pv 5) (pv 6)))))) (zm (zw bH)))))),(by walk_at "r"),fun xs S R q=>q⟩
theorem Hy:Df P w K mg base "_law_fits" ["gap","here","there"] 1 (spN ["gap","here","there"] qL):=by
 exact Df.dN dd.a22 qK 3 rfl fun f y A outer s H E hr=>⟨_,_,(zg (oW (pv 0) (dJ (n:=3) rfl (zA (zp (i:=3) qK.nd rfl (ip rfl)) (zA (zp (i:=4) qK.nd rfl (ip rfl)) (zA (zp (i:=5) qK.nd rfl (ip rfl)) c8))))) (zm (zw (Bt m7 m7 (pv 4) (zD zS (zD cO (aI zJ (aI zJ (pv 3) zi (fun _ _=>rfl)) zi (fun _ _=>rfl)) (pv 1)) (zD cO (aI zJ (aI zJ (pv 3) zi (fun _ _=>rfl)) zi (fun _ _=>rfl)) (pv 2))) (pv 5))))),(by walk_at "r"),fun xs S R q=>q⟩
theorem AE:Df P w K mg base "_law_group" ["gap","one","other","rows","first","size"] 2 (spN ["gap","one","other","rows","first","size"] oF):=by
 exact Df.dN dd.a23 BK 1 rfl fun f y A outer s H E hr=>⟨_,_,(zg (dG iw rfl (bV (hZ lO (aI zJ (pv 3) zi (fun _ _=>rfl)) (dR (pv 4)) (dR (zD zS (pv 4) (pv 5))))) (zp (i:=6) BK.nd rfl (Or.inr rfl)) (zm (aT (dS (bW (zn (sY rfl) (by rfl) T.n_all tN (za (cV (fun _ _ h=>h) rfl (zP rfl rfl rfl rfl (N:=["j","gap","one","i","other"]) (caps:=[none,some 0,some 1,some 6,some 2]) (by show bL ["gap","one","other","rows","first","size","i"] (zj uQ).names _ _ _=true;decide +kernel)) (bV (hZ lO (aI zJ (pv 3) zi (fun _ _=>rfl)) (dR (pv 4)) (dR (zD zS (pv 4) (pv 5))))) (fun _ _ _ _=>(zp (i:=0) (by show iq (["j","gap","one","i","other"]:List Str);decide) rfl (ip rfl))) (fun _ _ _ _=>c9) (fun _ _ _ _=>(zu Hy hr dz (za (pv 1) (za (aI zJ (pv 2) (pv 3) (fun _ _=>rfl)) (za (aI zJ (pv 4) (pv 0) (fun _ _=>rfl)) zd)))))) zd)) (fun _=>rfl))) (zm (zw bH)) zO))) (zm (zw bH))),(zU (jX (by walk_at "r") zt (eL (fD (eE (cH qG (zf (cR (cN (mT tK (aO dQ zk zF) (j8 zk) (j8 (aO kJ zk zk)))) zt dD (cA (zf zk (zf (aO dQ zk zk) (zf (aO dQ zk zk) zr))))) zr)))) (bE cY) dY)) (bE cY)),fun xs S R q=>q⟩
theorem AO:Df P w K mg base "_law_greatest" ["gap","one","other","rows","first"] 3 (spN ["gap","one","other","rows","first"] mB):=by
 exact Df.dN dd.a24 kA 2 rfl fun f y A outer s H E hr=>⟨_,_,(zg (zI (i:=5) kA.nd rfl lo zi) (zg (BS iw (zR i5 (pv 4) (zn zE (by rfl) T.n_len aX (za (pv 1) zd)) (nomark _)) (zg (zI (i:=6) kA.nd rfl lo zi) (zg (BS iw (PW.pt (BG (zR i5 (zD zS (pv 4) (pv 6)) (zn zE (by rfl) T.n_len aX (za (pv 1) zd)) (nomark _)) (yT (bW (zu AE hr dz (za (pv 0) (za (pv 1) (za (pv 2) (za (pv 3) (za (pv 4) (za (zD zS (pv 6) zi) zd))))))) (fun _=>rfl))))) (zm (Ac (i:=6) kA.nd rfl (ip rfl) zi B0))) (zg (aT (zR (i7 hr.units) (pv 6) zi (nomark _)) (zm (zw zi)) zO) (zg (zI (i:=4) kA.nd rfl lo (zD zS (pv 4) (pv 6))) (zm (Ac (i:=5) kA.nd rfl (ip rfl) zi B0))))))) (zm (zw (pv 5))))),(by walk_at "r"),fun xs S R q=>q⟩
theorem FB:Df P w K mg base "_law_whole" ["found"] 1 (spN ["found"] pN):=by
 exact Df.dN dd.a25 HC 0 rfl fun f y A outer s H E hr=>⟨_,_,(zm (zw (qR (zn kQ (by rfl) T.n_isinstance kM (za (pv 0) (za (jY rfl T.n_int uF (v:=.ty "int") rfl) zd))) (pQ (AB (zn kQ (by rfl) T.n_isinstance kM (za (pv 0) (za (jY rfl T.n_bool B3 (v:=.ty "bool") rfl) zd)))))))),(by walk_at "r"),fun xs S R q=>q⟩
theorem Eh:Df P w K mg base "_law_told_right" ["gap","one","other","found"] 9 (spN ["gap","one","other","found"] qM):=by
 exact Df.dN dd.a26 zQ 5 rfl fun f y A outer s H E hr=>⟨_,_,(zg (zI (i:=4) zQ.nd rfl lo (zu Gy hr dz (za (pv 0) (za (pv 1) (za (pv 2) zd))))) (zg (aT (PW.pt (iG (dS (bW (zn kQ (by rfl) T.n_isinstance kM (za (pv 3) (za (jY rfl T.n_list uM (v:=.ty "list") rfl) zd))) (fun _=>rfl))) (kK (dS (bW (zn (sY rfl) (by rfl) T.n_all tN (za (cV (fun _ _ h=>h) rfl (zP (L:=0) rfl rfl rfl rfl (N:=["size"]) (caps:=[none]) (by show bL ["gap","one","other","found","rows","first","k","size","less"] (zj u9).names _ _ _=true;decide +kernel)) (bV (pv 3)) (fun _ _ _ _=>(zp (i:=0) (by show iq (["size"]:List Str);decide) rfl (ip rfl))) (fun _ _ _ _=>c9) (fun _ _ _ _=>(qR (zu FB hr dz (za (pv 0) zd)) (pQ (gQ qF (pv 0) zi (nomark _)))))) zd)) (fun _=>rfl)))))) (zm (zw bH)) zO) (zg (aT (PW.pt (iG (zR (qC hr.units) (zn (vC rfl) (by rfl) T.n_sum uT (za (pv 3) zd)) (zn zE (by rfl) T.n_len aX (za (pv 1) zd)) (nomark _)) (kK (zR (qC hr.units) (zu AO hr dz (za (pv 0) (za (pv 1) (za (pv 2) (za (pv 4) (za zi zd)))))) (zn zE (by rfl) T.n_len aX (za (pv 3) zd)) (nomark _))))) (zm (zw bH)) zO) (zg (zI (i:=5) zQ.nd rfl lo zi) (zg (dG iw rfl (lP rfl T.n_enumerate (za (pv 3) zd)) (dJ (n:=2) rfl (zA (zp (i:=6) zQ.nd rfl (ip rfl)) (zA (zp (i:=7) zQ.nd rfl (ip rfl)) c8))) (zg (aT (dS (bW (zu AE hr dz (za (pv 0) (za (pv 1) (za (pv 2) (za (pv 4) (za (pv 5) (za (pv 7) zd))))))) (fun _=>rfl))) (zm (zw bH)) zO) (zg (dG iw rfl (E2 rfl T.n_range (za zi (za (pv 7) zd))) (zp (i:=8) zQ.nd rfl (ip rfl)) (zm (aT (zR m7 (zu AO hr dz (za (pv 0) (za (pv 1) (za (pv 2) (za (pv 4) (za (zD zS (pv 5) (pv 8)) zd)))))) (zD cP (zD cP (zn zE (by rfl) T.n_len aX (za (pv 3) zd)) (pv 6)) zi) (nomark _)) (zm (zw bH)) zO))) (zm (zI (i:=5) zQ.nd rfl lo (zD zS (pv 5) (pv 7))))))) (zm (zw (gQ JD (zu B7 hr dz (za (pv 0) (za (pv 1) (za (pv 2) (za (sI Jz (by rfl) T.n_list uM (za (pv 3) zd)) zd))))) bH (nomark _))))))))),(zU (by walk_at "r") (zU (eL (jR (by walk_at "r") (fD (eE (cH qG (zf (cR (cN zk) zt dD (uV (cA (zf zk zr)) (aO kF zk zF))) zr))))) (bE cY) dY) (by walk_at "r"))),fun xs S R q=>q⟩
theorem xL:∀n,Df P w K mg base "find_match" ["rows","i","matches","asked"] (1+n) (spM ["rows","i","matches","asked"] (iL n))
 | 0=>Df.noneM dd.a27
 |n+1=>by
  have tX:=xL  n;show Df P w K mg base "find_match" ["rows","i","matches","asked"] (1+n+1) (spM ["rows","i","matches","asked"] (iL (n+1)));exact Df.dM dd.a27 yH 1 rfl fun f y A outer s H E hr=>⟨_,_,(zg (dG iw rfl (bV (aI zJ (pv 0) (pv 1) (fun _ _=>rfl))) (zp (i:=4) yH.nd rfl (ip rfl)) (zg (aT (zR (FA hr.units) (pv 4) (pv 3) (by rfl)) (zm Im) zO) (zg (CC (vQ hr) (pv 3) (pv 4) bH rfl) (zm (aT (PW.pt (iG (zR (GP hr.units) (pv 4) (pv 2) (by rfl)) (kK (bW (xC tX hr yw (za (pv 0) (za (Fa (vQ hr) (pv 2) (pv 4) (fun _ _=>rfl)) (za (pv 2) (za (pv 3) zd))))) (fun _=>rfl))))) (zg (CC (vQ hr) (pv 2) (pv 4) (pv 1) rfl) (zm (zw bH))) zO))))) (zm (zw bH))),(rL (B5 (fun M=>BD (by walk_at "r")) zt (rL (HI (fun M=>(AN (CP uS (cE zk) (cE zk)))) (nV BI) (nV dY)) (rL (C0 (fun M=>(cE zk)) (fun M=>(cE cY))) (Aj (Hs (Ib (fun M=>(AN (CP uS (cE zk) (cE zk))))) (Gn (fun M=>(pU (cE zk) (pU (GJ (cE zk) (cE zk)) (pU (cE zk) (pU (cE zk) (IK zr)))))))) (rL (C0 (fun M=>(cE zk)) (fun M=>(cE zk))) (nV (bE cY))) (nV dY))))) (nV (bE cY))),fun xs S M R q=>q⟩
theorem tX:Df P w K mg base "find_match" ["rows","i","matches","asked"] 13 (spM ["rows","i","matches","asked"] pO):=xL T dd  12
theorem AX:Df P w K mg base "most_matched" ["rows"] 14 (spN ["rows"] kB):=by
 exact Df.dN dd.a28 sZ 2 rfl fun f y A outer s H E hr=>⟨_,_,(zg (zI (i:=1) sZ.nd rfl lo xQ) (zg (F1 (i:=1) (dG iw rfl (rY rfl T.n_range (za (zn zE (by rfl) T.n_len aX (za (pv 0) zd)) zd)) (zp (i:=2) sZ.nd rfl (ip rfl)) (zm (jM (xC tX hr dz (za (pv 0) (za (pv 2) (za (pv 1) (za xQ zd))))))))) (zm (zw (pv 1))))),(w4 (FF (Il (B5 (fun M=>BD (by walk_at "r")) zt (xE (fun M=>(cE zk)) (fun M=>(cE zk)) (fun M=>(cE zk)))))) (bE zk)),fun xs S R q=>q⟩
theorem Cy:Df P w K mg base "free_partners" ["row","used"] 1 (spN ["row","used"] jV):=by
 exact Df.dN dd.a29 Gj 0 rfl fun f y A outer s H E hr=>⟨_,_,(zm (zw (cV (fun _ _ h=>h) rfl (zP rfl rfl rfl rfl (N:=["j","used"]) (caps:=[none,some 1]) (by show bL ["row","used"] (zj vT).names _ _ _=true;decide +kernel)) (bV (pv 0)) (fun _ _ _ _=>(zp (i:=0) (by show iq (["j","used"]:List Str);decide) rfl (ip rfl))) (fun _ _ _ _=>(rB (zR (IH hr.units) (pv 0) (pv 1) (by rfl)))) (fun _ _ _ _=>(pv 0))))),(bE (wB (cN zk) zt (gV (aO JL zk zk)) zk)),fun xs S R q=>q⟩
theorem Jq:Df P w K mg base "least_partner" ["rows","i","used","wanted"] 15 (spN ["rows","i","used","wanted"] rH):=by
 exact Df.dN dd.a30 tT 2 rfl fun f y A outer s H E hr=>⟨_,_,(zg (dG iw rfl (bV (zu Cy hr dz (za (aI zJ (pv 0) (pv 1) (fun _ _=>rfl)) (za (pv 2) zd)))) (zp (i:=4) tT.nd rfl (Or.inr rfl)) (zg (vZ (i:=5) (fun _ _ h=>h) rfl (zP rfl rfl rfl rfl (N:=["row","used","j"]) (caps:=[none,some 2,some 4]) (by show bL ["rows","i","used","wanted","j","later"] (zj tV).names _ _ _=true;decide +kernel)) tT.nd rfl rfl (bV (hZ lO (pv 0) (dR (zD zS (pv 1) zi)) vD)) (fun _ _ _ _=>(zp (i:=0) (by show iq (["row","used","j"]:List Str);decide) rfl (ip rfl))) (fun _ _ _ _=>c9) (fun _ _ _ _=>(zu Cy hr dz (za (pv 0) (za (zD zS (pv 1) (cT (za (pv 2) zd))) zd))))) (zm (aT (zR (i7 hr.units) (zn BP (by rfl) T.n_len aX (za (zu AX hr dz (za (pv 5) zd)) zd)) (pv 3) (nomark _)) (zm (zw (pv 4))) zO)))) (zm (zw pF))),(zU (jX (by walk_at "r") zt (zU (cL (cR (cN (mT tK zk (j8 (aO kJ zk zF)) rD)) zt dD (cA (zf zk (zf (aO kJ zk (qD (zf zk zr))) zr)))) zt) (by walk_at "r"))) (bE DV)),fun xs S R q=>q⟩
theorem J5:Df P w K mg base "matched" ["gap","one","other"] 16 (spN ["gap","one","other"] rT):=by
 exact Df.dN dd.a31 i9 6 rfl fun f y A outer s H E hr=>⟨_,_,(zg (zI (i:=3) i9.nd rfl lo (zu Aa hr dz (za (pv 0) (za (pv 1) (za (pv 2) zd))))) (zg (zI (i:=4) i9.nd rfl lo (zn BP (by rfl) T.n_len aX (za (zu AX hr dz (za (pv 3) zd)) zd))) (zg (zI (i:=5) i9.nd rfl lo (cT zd)) (zg (zI (i:=6) i9.nd rfl lo (cT zd)) (zg (dG iw rfl (rY rfl T.n_range (za (zn zE (by rfl) T.n_len aX (za (pv 3) zd)) zd)) (zp (i:=7) i9.nd rfl (ip rfl)) (zg (zI (i:=8) i9.nd rfl lo (zu Jq hr dz (za (pv 3) (za (pv 7) (za (pv 6) (za (zD cP (zD cP (pv 4) (zn zE (by rfl) T.n_len aX (za (pv 5) zd))) zi) zd)))))) (zm (aT (zR tG (pv 8) pF (nomark _)) (zg (jM (kC PySem.F.plainAttrs_list PySem.F.slot_list_append PySem.F.type_list_append qZ (pv 5) (za (bC (za (pv 7) (za (pv 8) zd))) zd))) (zm (jM (kC PySem.F.plainAttrs_list PySem.F.slot_list_append PySem.F.type_list_append qZ (pv 6) (za (pv 8) zd))))) zO)))) (zm (zw (pv 5)))))))),(by walk_at "r"),fun xs S R q=>q⟩
theorem l0:Df P w K mg base "_law_right" ["gap","one","other"] 17 (spN ["gap","one","other"] zT):=by
 exact Df.dN dd.a32 D8 1 rfl fun f y A outer s H E hr=>⟨_,_,(zg (zI (i:=3) D8.nd rfl lo (zu rA hr dz (za (pv 0) (za (pv 1) (za (pv 2) zd))))) (zg (aT (zR i5 (zn zE (by rfl) T.n_len aX (za (zu J5 hr dz (za (pv 0) (za (pv 1) (za (pv 2) zd)))) zd)) (zn zE (by rfl) T.n_len aX (za (pv 1) zd)) (nomark _)) (zm (zw (gQ J0 (pv 3) pF (nomark _)))) zO) (zm (zw (zu Eh hr dz (za (pv 0) (za (pv 1) (za (pv 2) (za (pv 3) zd))))))))),(by walk_at "r"),fun xs S R q=>q⟩
theorem Fy:Df P w K mg base "_law_cut" ["found","pen"] 3 (spN ["found","pen"] pZ):=by
 exact Df.dN dd.a33 qE 3 rfl fun f y A outer s H E hr=>⟨_,_,(zg (zI (i:=2) qE.nd rfl lo (cT zd)) (zg (dG iw rfl (bV (pv 0)) (zp (i:=3) qE.nd rfl (ip rfl)) (zg (zI (i:=4) qE.nd rfl lo (zu zV hr dz (za (pv 1) (za (pv 3) zd)))) (zm (jM (kC PySem.F.plainAttrs_list PySem.F.slot_list_extend PySem.F.type_list_extend Be (pv 2) (za (cV (fun _ _ h=>h) rfl (zP (L:=0) rfl rfl rfl rfl (N:=["part"]) (caps:=[none]) (by show bL ["found","pen","some","size","less"] (zj tH).names _ _ _=true;decide +kernel)) (bV (cT (za (pv 4) (za (zD cP (pv 3) (pv 4)) zd)))) (fun _ _ _ _=>(zp (i:=0) (by show iq (["part"]:List Str);decide) rfl (ip rfl))) (fun _ _ _ _=>(rB (zR qF (pv 0) zi (nomark _)))) (fun _ _ _ _=>(pv 0))) zd)))))) (zm (zw (pv 2))))),(zU (by walk_at "r") (zU (jX (cN zk) zt (zU (by walk_at "r") (qV (rW vO zk (zf (cR (cN (qD (zf zk (zf (aO iN zk zk) zr)))) zt (gV (aO kF zk zF)) zk) zr))))) (bE zk))),fun xs S R q=>q⟩
theorem ok_law{f:Addr}{fd:pj}(F:Fun K "law" "law" s_law f fd):FnOk P w K mg base CX0 18 f fd ["script"] (sp1 (wJ K)):=by
 refine F.ok1 dP (fun v=>[some v,none,none,none,none,none,none,none,none,none]) (fun _=>rfl) fun aa A outer s H v Q E hr h=>?_;obtain⟨a,ns,rfl,hS,y,q⟩:=h;refine GR ?_;refine⟨_,(Hu (Jk (i:=1) dP.nd rfl (ip rfl) (qN (t9 (qN (t9 (qN (mL (QE.mk zi) (mL (QE.mk zi) jW))) (t9 (qN (mL (QE.mk zi) (J9 (QE.mk (jO i4 zi)) jW))) jW))) (mL (QE.mk zi) (mL (QE.mk zi) jW))))) (QSs.mk (zg (aT (PW.pt (iG (dS (bW (zu l0 hr dz (za (pv 1) (za (bC zd) (za (bC zd) zd)))) (fun _=>rfl))) (iG (dS (bW (zu l0 hr dz (za (pv 1) (za (bC (za zi (za zi (za zi zd)))) (za (bC (za zi (za zi (za zi zd)))) zd)))) (fun _=>rfl))) (kK (dS (bW (zu l0 hr dz (za (pv 1) (za (bC (za zi zd)) (za (bC (za zi zd)) zd)))) (fun _=>rfl))))))) (zm (zw bH)) zO) (zg (dG iw rfl (GZ (zD wW (cT (za (Jp HY hr dz (pv 0) zi) zd)) (hZ xH (pv 0) (dR zi) (dR zi)))) (zp (i:=2) dP.nd rfl (ip rfl)) (zg (zI (i:=3) dP.nd rfl lo (zu Jh hr dz (za (pv 2) zd))) (zg (oW (zu Ig hr dz (za (pv 3) (za zi zd))) (dJ (n:=3) rfl (zA (zp (i:=1) dP.nd rfl (ip rfl)) (zA (zp (i:=4) dP.nd rfl (ip rfl)) (zA (zp (i:=5) dP.nd rfl (ip rfl)) c8))))) (zg (zI (i:=6) dP.nd rfl lo (zn (Hq rfl) (by rfl) T.n_min C7 (za (zn zE (by rfl) T.n_len aX (za (pv 4) zd)) (za (zn zE (by rfl) T.n_len aX (za (pv 5) zd)) zd)))) (zg (zI (i:=4) dP.nd rfl lo (hZ yJ (pv 4) vD (dR (pv 6)))) (zg (zI (i:=5) dP.nd rfl lo (hZ yJ (pv 5) vD (dR (pv 6)))) (zg (zI (i:=7) dP.nd rfl lo (bC (za (aI zJ (pv 1) zi (fun _ _=>rfl)) (za (zD cP (aI zJ (pv 1) zi (fun _ _=>rfl)) (zu zV hr dz (za (pv 3) (za zi zd)))) (za (zD zS (aI zJ (pv 1) zi (fun _ _=>rfl)) (zu zV hr dz (za (pv 3) (za zi zd)))) zd))))) (zg (zI (i:=8) dP.nd rfl lo (bC (za (sI CN (by rfl) T.n_tuple EF (za (cV (fun _ _ h=>h) rfl (zP (L:=0) rfl rfl rfl rfl (N:=["part","times"]) (caps:=[none,none]) (by show bL ["script","gap","cell","pen","one","other","many","wide","turned","found"] (zj s_law).names _ _ _=true;decide +kernel)) (bV (aI zJ (pv 1) zi (fun _ _=>rfl))) (fun _ _ _ _=>(Jl (K:=K) rfl (n:=2) rfl (zA (zp (i:=0) (by show iq (["part","times"]:List Str);decide) rfl (ip rfl)) (zA (zp (i:=1) (by show iq (["part","times"]:List Str);decide) rfl (ip rfl)) c8)))) (fun _ _ _ _=>c9) (fun _ _ _ _=>(bC (za (pv 0) (za (zD cP zi (pv 1)) zd))))) zd)) (za (zD cP zi (aI zJ (pv 1) zi (fun _ _=>rfl))) (za (zD cP zi (aI zJ (pv 1) zi (fun _ _=>rfl))) zd))))) (zg (aT (PW.pt (iG (dS (bW (zu l0 hr dz (za (pv 1) (za (pv 4) (za (pv 5) zd)))) (fun _=>rfl))) (kK (dS (bW (zu l0 hr dz (za (pv 7) (za (pv 4) (za (pv 5) zd)))) (fun _=>rfl)))))) (zm (zw bH)) zO) (zg (zI (i:=9) dP.nd rfl lo (zu rA hr dz (za (pv 1) (za (pv 4) (za (pv 5) zd))))) (zg (aT (zR (qC hr.units) (zu rA hr dz (za (pv 8) (za (pv 4) (za (pv 5) zd)))) (pv 9) (nomark _)) (zm (zw bH)) zO) (zm (aT (zR tG (pv 9) pF (nomark _)) (zg (aT (zR IG (zu B7 hr dz (za (pv 1) (za (pv 4) (za (pv 5) (za (zu Fy hr dz (za (pv 9) (za (pv 3) zd))) zd))))) bH (nomark _)) (zm (zw bH)) zO) (zm (aT (zR qF (zn zE (by rfl) T.n_len aX (za (zu rA hr dz (za (pv 7) (za (pv 4) (za (pv 5) zd)))) zd)) (zn zE (by rfl) T.n_len aX (za (pv 9) zd)) (nomark _)) (zm (zw bH)) zO))) zO))))))))))))) (zm (zw bH)))))),?_⟩;refine Ki (a:=a) (m:=9) (dt:=v8) (zU (cL (bM (zf (bM (zf (bM (zf zF (zf zF zr))) (zf (bM (zf zF (zf (mW lF zF) zr))) zr))) (zf zF (zf zF zr)))) zt) (eL (jR (fD (eE (cA (zf zk (zf (bM zr) (zf (bM zr) zr)))))) (jR (fD (eE (cA (zf zk (zf (bM (zf zF (zf zF (zf zF zr)))) (zf (bM (zf zF (zf zF (zf zF zr)))) zr)))))) (fD (eE (cA (zf zk (zf (bM (zf zF zr)) (zf (bM (zf zF zr)) zr)))))))) (bE cY) dY)) rfl rfl (KK a) fun σ1 H1 z0 z1 s1=>?_;exact IL (m:=9) (db:=wK) (zU (cL (cA (zf zk zr)) zt) (zU (cL (jQ (i:=0) (zf zk (zf zF zr))) (fE (zW zt (zW zt (zW zt e8))))) (zU (cL (cH Ba (zf (cH kS (zf zk zr)) (zf (cH kS (zf zk zr)) zr))) zt) (zU (cL (mT vE zk rD (j8 zk)) zt) (zU (cL (mT vE zk rD (j8 zk)) zt) (zU (cL (bM (zf (aO dQ zk zF) (zf (aO iN (aO dQ zk zF) (jQ (i:=0) (zf zk (zf zF zr)))) (zf (aO kJ (aO dQ zk zF) (jQ (i:=0) (zf zk (zf zF zr)))) zr)))) zt) (zU (cL (bM (zf (cH u4 (zf (cR (cN (aO dQ zk zF)) (fE (zW zt (zW zt e8))) dD (bM (zf zk (zf (aO iN zF zk) zr)))) zr)) (zf (aO iN zF (aO dQ zk zF)) (zf (aO iN zF (aO dQ zk zF)) zr)))) zt) (zU (eL (jR (fD (eE (cA (zf zk (zf zk (zf zk zr)))))) (fD (eE (cA (zf zk (zf zk (zf zk zr))))))) (bE cY) dY) (zU (cL (cA (zf zk (zf zk (zf zk zr)))) zt) (zU (eL (gV (aO Cz (cA (zf zk (zf zk (zf zk zr)))) zk)) (bE cY) dY) (eL (gV (Bv zk)) (zU (eL (gV (aO Dn (cA (zf zk (zf zk (zf zk (zf (jQ (i:=1) (zf zk (zf zk zr))) zr))))) cY)) (bE cY) dY) (eL (gV (aO kF (cH kS (zf (cA (zf zk (zf zk (zf zk zr)))) zr)) (cH kS (zf zk zr)))) (bE cY) dY)) dY))))))))))) z0 z1 (s1.seq hS) y (fun n=>Kg a n) dz fun _ H2 _=>q H2
end
end My
theorem EN:L2.tabsG=[]:=rfl
namespace PySem.W.Fast
def tw10613248413694313174:Unit:=()
def tw17197616088927505032:Unit:=()
def tw5741207690115822478:Unit:=()
def tw6309236864362451405:Unit:=()
def tw11865326901148576615:Unit:=()
def tw5659763834813564435:Unit:=()
def tw5098587374796400497:Unit:=()
def tw13326704831730851603:Unit:=()
def tw15442287409087148913:Unit:=()
def tw9375090476780684422:Unit:=()
def tw7645423818851933461:Unit:=()
def tw9300867093169239980:Unit:=()
def tw17861525558735767331:Unit:=()
def tw15743037887304136253:Unit:=()
def tw15706700266913979915:Unit:=()
def tw2368939642341894926:Unit:=()
def tw322079016943210045:Unit:=()
def tw8969838861105103997:Unit:=()
def tw12585881755977874717:Unit:=()
def tw8050874748981559292:Unit:=()
def tw3393602937965894795:Unit:=()
def tw16396088579682682525:Unit:=()
def tw7808303885740881870:Unit:=()
def tw17023121128060681289:Unit:=()
def tw5449950563635008214:Unit:=()
def tw6619161034425844987:Unit:=()
def tw17636935515333158086:Unit:=()
def tw7750218428808271035:Unit:=()
def tw8466792553986153487:Unit:=()
def tw7965083709275836712:Unit:=()
def tw253687792845134568:Unit:=()
def tw5729889819111634993:Unit:=()
def tw7527273192716395948:Unit:=()
def tw5929010141904379971:Unit:=()
def tw9987003018859165726:Unit:=()
def tw4266389536828484420:Unit:=()
def tw14889943934531844475:Unit:=()
def tw11257961450459543013:Unit:=()
def tw693070876347038239:Unit:=()
def tw12463912726414204735:Unit:=()
def tw14499895264038492207:Unit:=()
def tw2655246866985782764:Unit:=()
def tw9251022759389906469:Unit:=()
def tw9959694517041213026:Unit:=()
def tw17107781697402000754:Unit:=()
def tw10191657570868938841:Unit:=()
def tw12383431540894830507:Unit:=()
def tw7304121865790948255:Unit:=()
def tw15518181985181462560:Unit:=()
def tw17483617432697814595:Unit:=()
def tw9122835173158372049:Unit:=()
def tw14847016986447818235:Unit:=()
def tw14813509236221461910:Unit:=()
def tw2832888049838441749:Unit:=()
def tw2891211233493752601:Unit:=()
def tw5155985293857553509:Unit:=()
def tw12678517479015730539:Unit:=()
def tw13363046976565515636:Unit:=()
def tw5426410794572691754:Unit:=()
def tw18360595634308216310:Unit:=()
def tw5077046963968112500:Unit:=()
def tw7165060607213018971:Unit:=()
def tw15224858184506427320:Unit:=()
def tw4606981068448985530:Unit:=()
def tw9306539916574996349:Unit:=()
def tw10138997035860035354:Unit:=()
def tw2810091012575038172:Unit:=()
def tw5779818776712365818:Unit:=()
def tw3801856154958537084:Unit:=()
def tw11580426357762015741:Unit:=()
def tw4912992263429371066:Unit:=()
def tw928488427965713925:Unit:=()
def tw11180591586365394776:Unit:=()
def tw9356582851997409574:Unit:=()
def tw3038094492180984477:Unit:=()
def tw2037545316734071701:Unit:=()
def tw6752016487335771891:Unit:=()
def tw16902278061946844766:Unit:=()
def tw345212853416945056:Unit:=()
def tw4994991596036978840:Unit:=()
def tw9261848410582092533:Unit:=()
def tw6076415113342580698:Unit:=()
def tw4846818022741629031:Unit:=()
def tw14779311892618714222:Unit:=()
def tw18112058933934205052:Unit:=()
def tw4642746246489921764:Unit:=()
def tw9262291335649498309:Unit:=()
def tw9417476506465662224:Unit:=()
def tw12997013876597052230:Unit:=()
def tw4576498065731163836:Unit:=()
def tw651061969527960266:Unit:=()
def tw3368999174370923863:Unit:=()
def tw2745929931539027701:Unit:=()
def tw1338199424737105374:Unit:=()
def tw16114395409823827989:Unit:=()
def tw1919008914006317894:Unit:=()
def tw14368278627939535669:Unit:=()
def tw14131051637662560064:Unit:=()
def tw17084520274638749470:Unit:=()
def tw14188219986495255456:Unit:=()
def tw9199340564306800327:Unit:=()
def tw6670281232125472009:Unit:=()
end PySem.W.Fast
open PySem PySem.W PyProof.Rows L2
set_option maxRecDepth 100000 in
set_option maxHeartbeats 0 in
theorem PySem.Challenge.cw_gaugewright_k52_whole_groups_and_matchin_holds : PySem.Challenge.rw_gaugewright_k52_whole_groups_and_matchin.Holds := by
 w_on;o_law;k_head;(case hw=>w_witness2)
 k_fill
 refine L2.walk_law (l := PySem.Challenge.rw_gaugewright_k52_whole_groups_and_matchin) (k := 18) rfl rfl ⟨rfl, by decide, by decide⟩ (fun w h Y => W.kIn_of Y) (fun w h Y => L2.TabsOk.none EN) ?F
 case F=>
  intro w mg fa h KX G hmg;have d_law:Dd (L2.KOf KX) mg "law" My.s_law ["script"]:=by
   dsimp only[L2.KOf];refine' Dd.mk' KX G ?a ?l ?c ?k ?b
   (case a=>k_is);(case l=>k_is);(case c=>k_is);(case k=>k_is);(case b=>intro _ _ _ _ _ _ us hl;obtain⟨_,rfl⟩:=L2.len1 hl;rfl)
  have T:My.Txt mg:=by
   refine' ⟨jx KX G ?z0,jx KX G ?z1,jx KX G ?z2,jx KX G ?z3,jx KX G ?z4,jx KX G ?z5,jx KX G ?z6,jx KX G ?z7,jx KX G ?z8,jx KX G ?z9,jx KX G ?z10,jx KX G ?z11,jx KX G ?z12,jx KX G ?z13⟩
   (case z0=>k_is);(case z1=>k_is);(case z2=>k_is);(case z3=>k_is);(case z4=>k_is);(case z5=>k_is);(case z6=>k_is);(case z7=>k_is);(case z8=>k_is);(case z9=>k_is);(case z10=>k_is);(case z11=>k_is);(case z12=>k_is);(case z13=>k_is)
  have dd:My.Dds (L2.KOf KX) mg:=by constructor<;>(dsimp only[L2.KOf];refine' Dd.mk' KX G ?a ?l ?c ?k ?b;(case a=>k_is);(case l=>k_is);(case c=>k_is);(case k=>k_is);(case b=>(intro _ _ _ _ _ _ us hl;first|(obtain⟨_,rfl⟩:=L2.len1 hl;rfl)|(obtain⟨_,_,rfl⟩:=L2.len2 hl;rfl)|(obtain⟨_,_,_,rfl⟩:=L2.len3 hl;rfl)|(obtain⟨_,_,_,_,rfl⟩:=L2.len4 hl;rfl)|(obtain⟨_,_,_,_,_,rfl⟩:=L2.len5 hl;rfl)|(obtain⟨_,_,_,_,_,_,rfl⟩:=L2.len6 hl;rfl))))
  obtain⟨f,fd,F,hm,_⟩:=d_law.ex;have e0:=hmg.symm.trans hm;cases e0;exact⟨fd,F.bind1 fun _ _ _ _ _ _ _=>rfl,fun base _ _=>My.ok_law T dd F⟩
#print axioms PySem.Challenge.cw_gaugewright_k52_whole_groups_and_matchin_holds
end