import PyProof.Rows.All
import Wide.All
import OpenK.AllK
import Wide.FinOn
import Lean
import PyProof.EqAt
import PyProof.EqKinds
import PyProof.TupleCall
import KE.KTupSum
import KE.KSortTup
import PyProof.SetKind
import PyProof.SetRoads
import PyProof.SetNew
import PyProof.DictKinds
import PyProof.NsDelKeeps
import PyProof.StrWalks
import KE.KEqDict
import KE.KDictList
import PyProof.AttrMissSeq
import PyProof.WalksMore
import KE.KDictOf
import PyProof.Rows.Range3
import KE.KItemsList
import PyProof.FactsAll.dict_3
import KE.KMinKey
import PyProof.Rows.CallKwBuiltin
import PyProof.TupleOfSeq
import KE.KLam
import KE.KNestM
import PyProof.Rows.StrNews
import KE.KIntText
import PyProof.TupleKey
import PyProof.DictFindH
import PyProof.DictRoadsH
import PyProof.DictItems
import PyProof.Rows.TupTab
import Wide.Seal
import PyProof.DictValues
import PyProof.Rows.SortRev
import PySem.Challenge.RW_gaugewright_k51_groupings_gone_through
open Array renaming toList_append→jd,getElem?_eq_getElem→mn,length_toList→nj,toList_extract→pd,getElem?_toList→qy
open Bool renaming false_eq_true→fg,false_ne_true→jc,and_eq_true→ki,eq_iff_iff→qv
open False renaming elim→jn
open ForInStep renaming yield→qu
open List renaming replicate→bu,mem_of_getElem?→bw,getElem?_eq_getElem→cy,size_toArray→dy,getElem?_concat_length→fb,length_map→fj,mem_cons_of_mem→fu,length_append→fx,getElem?_append_left→fy,eq_nil_of_length_eq_zero→gg,mem_append_right→gq,getElem?_map→gx,getD_eq_getElem?_getD→gy,length_cons→im,mem_cons_self→iq,range→ir,Nodup→je,length_singleton→jg,mem_append_left→jo,length_range→jw,extract_eq_take_drop→ke,append_nil→km,take_of_length_le→ko,map_cons→kq,length_take→kz,not_mem_nil→lg,getElem?_eq_none→lh,replicate_succ→lw,append_assoc→ly,mem_cons→lz,toArray→me,map_map→mo,length_replicate→mv,getElem?_cons_zero→nc,getElem?_cons_succ→ng,all_eq_true→nq,drop_eq_getElem_cons→nv,lookup_cons→oo,mem_singleton→oq,take_append_drop→ou,getElem?_set_self→pj,reverse_perm→qb,getElem?_replicate→qk,foldl→ql,pairwise_map→qq,getElem?_drop→rf,length_drop→rk,mem_map_of_mem→rm,getElem?_range→rn,mem_append→rp,flatten_cons→sf,sum_cons→sr,getElem?_set_ne→su,mem_of_mem_take→sy
open MonadExcept renaming tryCatch→sj
open Nat renaming le_refl→dw,ne_of_lt→ic,lt_of_lt_of_le→ix,le_trans→lu,lt_irrefl→nz,le_of_lt→om,zero_le→pf,lt_succ_of_lt→qe,add_zero→sq
open Ne renaming symm→jq
open Option.some renaming inj→gv
open Or renaming inl→jb
open PyProof.Rows renaming wpS_bind→bz,wpS_pure→cf,arrOf→ck,Keyed→cz,pendingOf→df,SortSt→ik,wpS_forRange→iw,seqObj→ja,IntsAre→jr,envOfC→kc,wpS_mono→li,callWith_type1→lj,wpS_modify→ni,setArr→ph,SortKind→qz,failedOf→sk,wpS_get→tq,get?_update_seq→tv
open PySem renaming Value→bo,wpAny_bind→bp,Shared→bq,PyData→bv,wpAny_pure→cr,wpAny→cv,starEach→fc,sizeLine→fh,Program→fq,Around→gh,World→gw,wpAny_holding→ie,bootBuiltins→iy,wpAny_newObj_type→ji,wpAny_field→jt,wpAny_pyIter_list→ju,sizeLine_eq→jy,wpAny_Call_Name_kw→jz,codeAny_builtin→kh,backTo→kj,wpAny_mono→kl,wpAny_tryCatch→kr,compareOp→kx,wpAny_callSpecial?_slot→lc,wpAny_call_entry→lf,plainId_quiet→lq,wpAny_truthy_bool→lv,binaryOp→mq,Builtin→nk,wpAny_seqItems→ny,mainGlobals→on,wpAny_rule→pc,wpAny_ite_false→pi,FuncData→pk,NameKind→pp,wpAny_pyIter_enum→pz,assignEach→qc,call_meets→qd,wpAny_letGo→qi,rawInt→qj,wpAny_setField_rec→qo,wpAny_execs_nil→qt,wpAny_updateSeq→qx,keywordEach→rl,wpAny_execs_cons→rq,codeAny_mono→rz,wpAny_passesOwn→sw,codeAny→sx,argBest→td,sliceBounds→ua,seqItems?→ub,pyNext→uc
open PySem.Around renaming under_plainId→jk
open PySem.Builtin.Builtins renaming bindParams→jv
open PySem.Builtin.SmallTypes renaming nextOf→jl
open PySem.F renaming plain_min_loop→iu,entry_min_loop→ow
open PySem.Heap renaming get?_push_of_some→bx,get?_push_size→ff,lt_size→fw,get?_update_other→ig,SameBut→jm,get?_update_self→mw
open PySem.Heap.SameBut renaming update→mh
open PySem.Obj renaming mapSeq→io,data_mapFields→qm,mapFields→re
open PySem.PassesOwn renaming never→jp
open PySem.PyData renaming int→cq,eqv→kv,canLayAll0→oh,canLay0→oy,bool→px,tuple→qp,depthAll→qw,list→ug
open PySem.SeqAt renaming shaped→ge,canLay_of_shaped→iz
open PySem.Str renaming ofString→gk
open PySem.Value renaming ref→fv,none→ku,notImplemented→qa,bool→rh,int→tw,type→ue
open PySem.W renaming Frag→cw,mg_none_of→jx,kia_one→qf,mg_of→ud
open ToString renaming toString→qh
def cn:=@if_neg
def cu:=@if_pos
def gu:=@decide_eq_false
def jh:=@decide_eq_true
def rg:=@of_decide_eq_true
theorem yw{p:Prop}(h:p:=by omega):p:=h
theorem yv{p:Prop}(h:p:=by simp):p:=h
open Option (isSome_iff_exists map_eq_some_iff map_some)
open Nat (add_zero le_of_lt le_refl le_succ le_trans lt_irrefl lt_of_lt_of_le lt_succ_of_lt min_eq_left mul_comm ne_of_gt ne_of_lt succ_ne_self zero_add zero_le)
open List (all_cons all_eq_true all_map append_assoc append_nil cons_append drop_eq_getElem_cons drop_length drop_zero eq_nil_of_length_eq_zero ext_getElem? extract_eq_take_drop flatten_cons getD_eq_getElem?_getD getElem?_append_left getElem?_concat_length getElem?_cons_succ getElem?_cons_zero getElem?_drop getElem?_eq_getElem getElem?_eq_none getElem?_map getElem?_range getElem?_replicate getElem?_set getElem?_set_ne getElem?_set_self getElem?_take getElem_mem length_append length_cons length_drop length_map length_nil length_range length_set length_singleton length_take lookup_cons map_append map_congr_left map_cons map_drop map_id map_id' map_map map_nil map_take mem_append mem_append_left mem_append_right mem_cons mem_cons_of_mem mem_cons_self mem_filter mem_iff_getElem? mem_map mem_map_of_mem mem_of_getElem? mem_of_mem_drop mem_of_mem_take mem_range mem_reverse mem_singleton nil_append nodup_cons nodup_nil not_mem_nil of_mem_zip pairwise_map replicate_succ set_cons_succ set_cons_zero size_toArray sum_cons take_add_one take_append_drop take_length take_of_length_le take_zero)
open PySem.Heap (get?_push_of_some get?_push_size get?_update_other get?_update_self lt_size size_push)
open Array (getElem?_toList length_toList toList_append toList_extract)
theorem dz{p:Prop}[Decidable p](h:decide p=true:=by rfl):p:=rg h
set_option Elab.async false
set_option linter.all false
set_option maxRecDepth 100000
set_option maxHeartbeats 8000000
noncomputable section
namespace L2
open PySem PySem.Spec PyProof.Rows
section
abbrev Key:=Sum Int Str
def xP:Key->bo->Bool
 | .inl k,v=>Value.isInt k v
 | .inr x,v=>Value.isStrOf x v
def IW(w:gw):Key->Int
 | .inl k=>hashInt k
 | .inr x=>hashStr w x
theorem fV:∀{k:Key}{v:bo},xP k v=true->(∃i t,k=Sum.inl i/\v=tw i t)\/(∃x t,k=Sum.inr x/\v=Value.str x t)
 | .inl i,v,h=>by
  obtain⟨t,e⟩:=Value.isInt_shape (k:=i) (v:=v) h;exact .inl ⟨i,t,rfl,e⟩
 | .inr x,v,h=>by
  obtain⟨t,e⟩:=Value.isStrOf_shape (x:=x) (v:=v) h;exact .inr ⟨x,t,rfl,e⟩
theorem Cu(a b:Int):decide ((Sum.inl a:Key)=Sum.inl b)=(a==b):=by
 by_cases e:a=b
 ·subst e;simp
 ·have h:¬(Sum.inl a:Key)=Sum.inl b:=fun q=>e (Sum.inl.inj q);rw[gu h];exact(beq_eq_false_iff_ne.mpr e).symm
theorem EU(a b:Str):decide ((Sum.inr a:Key)=Sum.inr b)=decide (a=b):=by
 by_cases e:a=b
 ·subst e;simp
 ·have h:¬(Sum.inr a:Key)=Sum.inr b:=fun q=>e (Sum.inr.inj q);rw[gu h,gu e]
theorem DL(a:Int)(b:Str):decide ((Sum.inl a:Key)=Sum.inr b)=false:=gu (fun q=>nomatch q)
theorem Hj(a:Str)(b:Int):decide ((Sum.inr a:Key)=Sum.inl b)=false:=gu (fun q=>nomatch q)
def sP(prog:fq)(w:gw):PySem.KeyKind prog w Key where
 is:=xP
 hash:=IW w
 inj:=fun v a b ha hb=>by
  rcases fV ha with ⟨i,t,rfl,rfl⟩|⟨x,t,rfl,rfl⟩
  ·rcases fV hb with ⟨j,u,rfl,e⟩|⟨y,u,rfl,e⟩
   ·injection e with e1 _;rw[e1]
   ·exact nomatch e
  ·rcases fV hb with ⟨j,u,rfl,e⟩|⟨y,u,rfl,e⟩
   ·exact nomatch e
   ·injection e with e1 _;rw[e1]
 byValue:=fun k v h=>by
  rcases fV h with ⟨i,t,rfl,rfl⟩|⟨x,t,rfl,rfl⟩<;>rfl
 pyHash:=fun hv h=>by
  rcases fV hv with ⟨i,t,rfl,rfl⟩|⟨x,t,rfl,rfl⟩
  ·exact wpAny_pyHash_int h
  ·exact wpAny_pyHash_str h
 eqBool:=fun hu hv h=>by
  rcases fV hu with ⟨i,t,rfl,rfl⟩|⟨x,t,rfl,rfl⟩
  ·rcases fV hv with ⟨j,u,rfl,rfl⟩|⟨y,u,rfl,rfl⟩
   ·rw[Cu]at h;exact wpAny_eqBool_int h
   ·rw[DL]at h;exact SeqAt.EqAt.int_str i t y u _ _ _ _ h
  ·rcases fV hv with ⟨j,u,rfl,rfl⟩|⟨y,u,rfl,rfl⟩
   ·rw[Hj]at h;exact SeqAt.EqAt.str_int x t j u _ _ _ _ h
   ·rw[EU]at h;exact wpAny_eqBool_str h
 «strs»:=fun k x t v h=>by
  rcases fV h with ⟨i,u,rfl,e⟩|⟨y,u,rfl,e⟩
  ·exact nomatch e
  ·injection e with e1 _
   subst e1;cases v<;>rfl
end
section
inductive V where
 |non|bl (b:Bool)|int (i:Int)|str (x:Str)|byt (b:Array UInt8)|flt (b:UInt64)|ref (a:Addr)|ty (n:String)
 deriving DecidableEq
def RelV:V->bo->Prop
 | .non,u=>u=ku
 | .bl b,u=>u=rh b
 | .int i,u=>∃t,u=tw i t
 | .str x,u=>∃t,u=Value.str x t
 | .byt b,u=>∃t,u=Value.bytes b t
 | .flt b,u=>∃t,u=Value.float b t
 | .ref a,u=>u=fv a
 | .ty n,u=>u=ue n
abbrev Vals:List V->List bo->Prop:=Paired RelV
theorem Vals.length{xs:List V}{us:List bo}(r:Vals xs us):xs.length=us.length:=Paired.length r
theorem Vals.get:∀{xs:List V}{us:List bo}{i:Nat}{x:V},Vals xs us->xs[i]?=some x->∃u,us[i]?=some u/\RelV x u
 |_,_,_,_,.nil,e=>by simp at e
 |_,_,0,_,.cons r _,e=>by simp at e;subst e;exact⟨_,rfl,r⟩
 |_,_,i+1,x,.cons _ t,e=>by
  obtain⟨u,h1,h2⟩:=Vals.get (i:=i) (x:=x) t (by simpa using e);exact⟨u,by simpa using h1,h2⟩
theorem Vals.set{x:V}{u:bo}(r:RelV x u):∀{xs:List V}{us:List bo} (i:Nat),Vals xs us->Vals (xs.set i x) (us.set i u)
 |_,_,_,.nil=>.nil
 |_,_,0,.cons _ t=>.cons r t
 |_,_,i+1,.cons q t=>.cons q (Vals.set r i t)
theorem Vals.append:∀{xs ys:List V}{us ws:List bo},Vals xs us->Vals ys ws->Vals (xs++ys) (us++ws)
 |_,_,_,_,.nil,s=>s
 |_,_,_,_,.cons r t,s=>.cons r (Vals.append t s)
theorem Vals.take:∀{xs:List V}{us:List bo} (n:Nat),Vals xs us->Vals (xs.take n) (us.take n)
 |_,_,0,_=>.nil
 |_,_,_+1,.nil=>.nil
 |_,_,n+1,.cons r t=>.cons r (Vals.take n t)
theorem Vals.drop:∀{xs:List V}{us:List bo} (n:Nat),Vals xs us->Vals (xs.drop n) (us.drop n)
 |_,_,0,r=>r
 |_,_,_+1,.nil=>.nil
 |_,_,n+1,.cons _ t=>Vals.drop n t
def RelO:Option V->Option bo->Prop
 |some v,some u=>RelV v u
 |none,none=>True
 |_,_=>False
def KV{κ:Type}:List (κ×V)->List (κ×bo)->Prop:=Paired fun(p:κ×V) (q:κ×bo)=>p.1=q.1/\RelV p.2 q.2
def kV:Key->V
 | .inl i=>.int i
 | .inr x=>.str x
inductive HO where
 |lst (xs:List V)
 |tup (xs:List V)
 |dK (kvs:List (Key×V))|dT (kvs:List (List Key×V))
 |set (S:Int->Bool) (n:Nat)
 |ins (C dx:Addr) (fs:List (Str×V))
 |own (x:Addr)
 |xd (fs:List (Str×V))
 |met (f x:Addr)
 |rng (lo hi:Int)
 |frz (o:Obj) (u:HO)
 |tbl (ps:Array bo)
 |ext (φ:Heap->Prop)
abbrev Hp:=Addr->Option HO
def upd(H:Hp)(a:Addr)(o:HO):Hp:=fun b=>if b=a then some o else H b
theorem cP{H:Hp}{a:Addr}{o:HO}:upd H a o a=some o:=by unfold upd;rw[cu rfl]
theorem zH{H:Hp}{a b:Addr}{o:HO}(h:b≠a):upd H a o b=H b:=by unfold upd;rw[cn h]
theorem Ds{H:Hp}{a:Addr}{o u:HO}:upd (upd H a o) a u=upd H a u:=by
 funext b;unfold upd;split<;>rfl
theorem zC{H:Hp}{a b:Addr}{o:HO}(h:H a=some o)(h':H b=none):a≠b:=by
 intro e;subst e;rw[h]at h';cases h'
def TblOk(H:Hp)(ps qs:Array bo):Prop:=qs = #[]\/∃(l c:bo) (q:Str) (t:Tok) (k:Addr) (oc:Obj) (vs:Array bo) (t':Tok),ps = #[l,c,.str q t]/\qs = #[l,c,.ref k]/\H k=some (.frz oc (.own 0))/\oc.data=.fields vs/\vs[1]?=some (.str q t')
theorem TblOk.stay{H H':Hp}{ps qs:Array bo}(x:TblOk H ps qs)(hf:∀b o u,H b=some (.frz o u)->H' b=some (.frz o u)):TblOk H' ps qs:=by
 rcases x with x|⟨l,c,q,t,k,oc,vs,t',e1,e2,e3,r⟩
 ·exact .inl x
 ·exact .inr ⟨l,c,q,t,k,oc,vs,t',e1,e2,hf _ _ _ e3,r⟩
section
variable (P:fq) (w:gw)
def ObjOk(H:Hp)(h:Heap)(a:Addr):HO->Prop
 | .lst xs=>xs.length<=fh/\∃(its:List bo) (n:Nat),Vals xs its/\h.get? a=some { cls:=.type "list",data:=.seq its.toArray n }
 | .tup xs=>(xs.length<=fh/\∃o:Obj,h.get? a=some o/\o.dict=none)/\∃its:List bo,Vals xs its/\IsTup h a its.toArray
 | .dK kvs=>kvs.length<=fh/\(a==sysModules)=false/\∃vs,KV kvs vs/\h.DictOf (sP P w) a vs
 | .dT kvs=>kvs.length<=fh/\(a==sysModules)=false/\∃xs:List (List Key×Addr×bo),
   Paired (fun(p:List Key×V) (q:List Key×Addr×bo)=>p.1=q.1/\H q.2.1=some (.tup (p.1.map kV))/\RelV p.2 q.2.2) kvs xs /\
   ∃o es ep,h.get? a=some o/\o.ExactDict/\o.data=.dict es ep/\es.toList=xs.map (entryOfKey (tupleKind (sP P w)))/\(xs.map (·.1)).Nodup
 | .set S n=>h.SetOf (intKind P w) a S n
 | .ins C dx fs=>H dx=some (.own a)/\fs.length<=1000/\dx≠a/\h.get? a=some (W.instObj C dx) /\
   ∃mA,h.Ns1 dx mA/\(∀f,RelO (fs.lookup f) (mA f))/\PySem.Within mA (fs.map (·.1))
 | .own _=>∃o,h.get? a=some o
 | .xd fs=>∃mA,h.Ns1 a mA/\∀f,RelO (fs.lookup f) (mA f)
 | .rng lo hi=>∃t u v,h.get? a=some { cls:=.type "range",data:=.fields #[.int lo t,.int hi u,.int 1 v] }
 | .frz o u=>h.get? a=some o/\ObjOk H h a u
 | .tbl ps=>∃qs:Array bo,h.get? a=some { cls:=.none,data:=.fields qs }/\TblOk H ps qs
 | .met f x=>h.get? a=some (W.methodObj (.ref f) (.ref x))
 | .ext φ=>φ h/\(∃o,h.get? a=some o)/\∀h1 h2:Heap,φ h1->(∀o,h1.get? a=some o->h2.get? a=some o)->φ h2
def HOk(H:Hp)(h:Heap):Prop:=∀a o,H a=some o->ObjOk P w H h a o
end
section
variable {P:fq}{w:gw}{H H':Hp}{h h':Heap}{a:Addr}{o:HO}
theorem ObjOk.lt(x:ObjOk P w H h a o):a<h.objs.size:=by
 cases o with
 |lst xs=>obtain⟨_,_,_,_,e⟩:=x;exact fw e
 |tup xs=>obtain⟨_,_,_,p⟩:=x;exact p.lt
 |dK kvs=>obtain⟨_,_,_,_,o,_,_,e,_⟩:=x;exact fw e
 |dT kvs=>obtain⟨_,_,_,_,o,_,_,e,_⟩:=x;exact fw e
 |set S n=>obtain⟨o,_,_,_,e,_⟩:=x;exact fw e
 |ins C dx fs=>obtain⟨_,_,_,e,_⟩:=x;exact fw e
 |own y=>obtain⟨_,e⟩:=x;exact fw e
 |xd fs=>obtain⟨_,⟨_,_,_,e,_⟩,_⟩:=x;exact fw e
 |rng lo hi=>obtain⟨_,_,_,e⟩:=x;exact fw e
 |frz ob u=>obtain⟨e,_⟩:=x;exact fw e
 |tbl ps=>obtain⟨_,e,_⟩:=x;exact fw e
 |met f y=>exact fw (show h.get? a=some _ from x)
 |ext φ=>obtain⟨_,⟨_,e⟩,_⟩:=x;exact fw e
theorem Paired.mapP{α β:Type}{F G:α->β->Prop}:∀{l₁:List α}{l₂:List β},Paired F l₁ l₂->(∀a b,F a b->G a b)->Paired G l₁ l₂
 |_,_,.nil,_=>.nil
 |_,_,.cons r t,f=>.cons (f _ _ r) (Paired.mapP t f)
theorem ObjOk.stay(x:ObjOk P w H h a o)(k:∀b u,(b=a\/H b=some (.own a))->h.get? b=some u->h'.get? b=some u)
  (ho:∀b,H b=some (.own a)->H' b=some (.own a)) (ht:∀b xs,H b=some (.tup xs)->H' b=some (.tup xs))
  (hf:∀b o u,H b=some (.frz o u)->H' b=some (.frz o u):=by first|exact fun _ _ _ q=>q|(intro b o u q;rw[zH (zC q (by assumption))];exact q)):ObjOk P w H' h' a o:=by
 induction o with
 |lst xs=>obtain⟨z,aa,n,r,e⟩:=x;exact⟨z,aa,n,r,k _ _ (.inl rfl) e⟩
 |tup xs=>obtain⟨⟨z,o2,e2,d2⟩,aa,r,ob,e,c⟩:=x;exact⟨⟨z,o2,k _ _ (.inl rfl) e2,d2⟩,aa,r,ob,k _ _ (.inl rfl) e,c⟩
 |dK kvs=>obtain⟨z,y,vs,r,ob,es,ep,e,c⟩:=x;exact⟨z,y,vs,r,ob,es,ep,k _ _ (.inl rfl) e,c⟩
 |dT kvs=>
  obtain⟨z,y,xs,r,ob,es,ep,e,c⟩:=x;exact⟨z,y,xs,Paired.mapP r fun p q z=>⟨z.1,ht _ _ z.2.1,z.2.2⟩,ob,es,ep,k _ _ (.inl rfl) e,c⟩
 |set S n=>obtain⟨ob,es,ep,t,e,c⟩:=x;exact⟨ob,es,ep,t,k _ _ (.inl rfl) e,c⟩
 |ins C dx fs=>
  obtain⟨d,z,ne,e,mA,⟨od,es,ep,e2,c⟩,r⟩:=x;exact⟨ho _ d,z,ne,k _ _ (.inl rfl) e,mA,⟨od,es,ep,k _ _ (.inr d) e2,c⟩,r⟩
 |own y=>obtain⟨ob,e⟩:=x;exact⟨ob,k _ _ (.inl rfl) e⟩
 |xd fs=>obtain⟨mA,⟨od,es,ep,e,c⟩,r⟩:=x;exact⟨mA,⟨od,es,ep,k _ _ (.inl rfl) e,c⟩,r⟩
 |rng lo hi=>obtain⟨t,u,v,e⟩:=x;exact⟨t,u,v,k _ _ (.inl rfl) e⟩
 |frz ob u ih=>obtain⟨e,q⟩:=x;exact⟨k _ _ (.inl rfl) e,ih q⟩
 |tbl ps=>
  obtain⟨qs,e,q⟩:=x;exact⟨qs,k a _ (.inl rfl) e,q.stay hf⟩
 |met f y=>
  have e:h.get? a=some (W.methodObj (.ref f) (.ref y)):=x;show h'.get? a=some (W.methodObj (.ref f) (.ref y));exact k a _ (.inl rfl) e
 |ext φ=>obtain⟨p,⟨o,e⟩,st⟩:=x;exact⟨st _ _ p fun o q=>k _ _ (.inl rfl) q,⟨o,k _ _ (.inl rfl) e⟩,st⟩
theorem HOk.lt(x:HOk P w H h)(e:H a=some o):a<h.objs.size:=(x a o e).lt
theorem HOk.fresh(x:HOk P w H h)(e:h.objs.size<=a):H a=none:=by
 cases q:H a with
 |none=>rfl
 |some u=>exact absurd (ix (x.lt q) e) (nz _)
theorem HOk.kept(x:HOk P w H h)(k:∀b u,h.get? b=some u->h'.get? b=some u):HOk P w H h':=fun a o e=>
 (x a o e).stay (fun b u _ q=>k b u q) (fun _ q=>q) fun _ _ q=>q
theorem HOk.laid(x:HOk P w H h)(k:∀b u,h.get? b=some u->h'.get? b=some u)(hp:h.objs.size<=a)(y:ObjOk P w (upd H a o) h' a o):HOk P w (upd H a o) h':=fun b u e=>by
 have hn:=x.fresh hp;by_cases hb:b=a
 ·subst hb;rw[cP]at e;cases e;exact y
 ·rw[zH hb]at e;exact(x b u e).stay (fun c v _ q=>k c v q) (fun c q=>by rw[zH (zC q hn)];exact q) fun c xs q=>by rw[zH (zC q hn)];exact q
end
def Rd(H:Hp)(a:Addr)(u:HO):Prop:=H a=some u\/∃o,H a=some (.frz o u)
theorem Rd.ok{P:fq}{w:gw}{H:Hp}{h:Heap}{a:Addr}{u:HO}(r:Rd H a u)(x:HOk P w H h):ObjOk P w H h a u:=by
 rcases r with r|⟨o,r⟩
 ·exact x a u r
 ·obtain⟨_,q⟩:=x a _ r;exact q
def Mut:Option HO->Prop
 |some (.lst _)=>True
 |some (.dK _)=>True
 |some (.dT _)=>True
 |some (.set _ _)=>True
 |some (.ins _ _ _)=>True
 |some (.ext _)=>True
 |_=>False
section
variable {P:fq}{w:gw}{H:Hp}{h h':Heap}{x e:Addr}{o':HO}
theorem HOk.write(ok:HOk P w H h)(mu:Mut (H x))(he:e=x\/H e=some (.own x))(k:∀b u,b≠e->h.get? b=some u->h'.get? b=some u)(af:∃u,h'.get? e=some u)
  (new:ObjOk P w (upd H x o') h' x o'):HOk P w (upd H x o') h':=fun b u q=>by
 have aa:∀c y,H c=some (.own y)->c≠x:=fun c y r z=>by subst z;rw[r]at mu;exact mu
 have ae:∀c xs,H c=some (.tup xs)->c≠x:=fun c xs r z=>by subst z;rw[r]at mu;exact mu
 have ac:∀c o u,H c=some (.frz o u)->c≠x:=fun c o u r z=>by subst z;rw[r]at mu;exact mu
 by_cases hb:b=x
 ·subst hb;rw[cP]at q;cases q;exact new
 ·rw[zH hb]at q;by_cases hbe:b=e
  ·have q':H b=some (.own x):=by
    rcases he with z|z
    ·exact absurd (hbe.trans z) hb
    ·rw[hbe];exact z
   rw[q]at q';cases q';obtain⟨v,hv⟩:=af;exact⟨v,by rw[hbe];exact hv⟩
  ·refine(ok b u q).stay (fun c v hc r=>k c v ?_ r) (fun c r=>by rw[zH (aa c b r)];exact r) (fun c xs r=>by rw[zH (ae c xs r)];exact r) fun c o u r=>by rw[zH (ac c o u r)];exact r
   rcases hc with rfl|hc
   ·exact hbe
   ·rintro rfl;rcases he with z|z
    ·exact aa c b hc z
    ·rw[hc]at z;cases z;exact hb rfl
end
structure Un(fs ex:List Addr)(H H':Hp)(h h':Heap):Prop where
 keep:∀b o,h.get? b=some o->H b=none->b∉fs->b∉ex->h'.get? b=some o
 slot:∀b o,h.get? b=some o->H b=none->b∈fs->b∉ex->∃sl,h'.get? b=some { o with slots:=sl }
 free:∀b o,h.get? b=some o->H b=none->b∉ex->H' b=none
 there:∀b o,h.get? b=some o->b∉ex->∃o',h'.get? b=some o'
 tups:∀b xs,H b=some (.tup xs)->H' b=some (.tup xs)
 frzs:∀b o u,H b=some (.frz o u)->H' b=some (.frz o u)
 tbls:∀b ps,H b=some (.tbl ps)->H' b=some (.tbl ps)
section
variable {fs fs' ex ex':List Addr}{H H1 H2:Hp}{h h1 h2 h':Heap}{a x e:Addr}{o:HO}
theorem Un.any(u:Un fs ex H H1 h h1){b:Addr}{ob:Obj}(q:h.get? b=some ob)(n:H b=none)(hx:b∉ex):∃sl,h1.get? b=some { ob with slots:=sl }:=by
 by_cases hb:b∈fs
 ·exact u.slot b ob q n hb hx
 ·exact⟨ob.slots,u.keep b ob q n hb hx⟩
theorem Un.trans(a:Un fs ex H H1 h h1)(b:Un fs ex H1 H2 h1 h2):Un fs ex H H2 h h2 where
 keep:=fun c ob q n hc hx=>b.keep c ob (a.keep c ob q n hc hx) (a.free c ob q n hx) hc hx
 slot:=fun c ob q n hc hx=>by
  obtain⟨sl,e1⟩:=a.slot c ob q n hc hx;obtain⟨y,e2⟩:=b.slot c _ e1 (a.free c ob q n hx) hc hx;exact⟨y,e2⟩
 free:=fun c ob q n hx=>by
  obtain⟨o',e1⟩:=a.there c ob q hx;exact b.free c o' e1 (a.free c ob q n hx) hx
 there:=fun c ob q hx=>by
  obtain⟨o',e1⟩:=a.there c ob q hx;exact b.there c o' e1 hx
 tups:=fun c xs q=>b.tups c xs (a.tups c xs q)
 frzs:=fun c ob xs q=>b.frzs c ob xs (a.frzs c ob xs q)
 tbls:=fun c ps q=>b.tbls c _ (a.tbls c ps q)
theorem Un.kept(k:∀b u,h.get? b=some u->h'.get? b=some u):Un fs ex H H h h':=
 ⟨fun b ob q _ _ _=>k b ob q,fun b ob q _ _ _=>⟨ob.slots,k b ob q⟩,fun _ _ _ n _=>n,fun b ob q _=>⟨ob,k b ob q⟩,fun _ _ q=>q,fun _ _ _ q=>q,fun _ _ q=>q⟩
theorem Un.refl:Un fs ex H H h h:=Un.kept fun _ _ q=>q
theorem Un.laid(k:∀b u,h.get? b=some u->h'.get? b=some u)(hp:h.objs.size<=a)(hn:H a=none):Un fs ex H (upd H a o) h h' where
 keep:=fun b u q _ _ _=>k b u q
 slot:=fun b u q _ _ _=>⟨u.slots,k b u q⟩
 free:=fun b u q n _=>by rw[zH (ic (ix (fw q) hp))];exact n
 there:=fun b u q _=>⟨u,k b u q⟩
 tups:=fun b xs q=>by rw[zH (zC q hn)];exact q
 frzs:=fun b u xs q=>by rw[zH (zC q hn)];exact q
 tbls:=fun b ps q=>by rw[zH (zC q hn)];exact q
theorem Un.write(mu:Mut (H x))(he:e=x\/H e=some (.own x))(k:∀b u,b≠e->h.get? b=some u->h'.get? b=some u)(y:∃u,h'.get? e=some u):Un fs ex H (upd H x o) h h':=by
 have hx:∀b,H b=none->b≠x:=fun b n z=>by subst z;rw[n]at mu;exact mu
 have hb:∀b,H b=none->b≠e:=fun b n z=>by
  subst z;rcases he with r|r
  ·exact hx b n r
  ·rw[n]at r;cases r
 have hm:∀b u,H b=some u->¬ Mut (some u)->b≠x:=fun b u q nm z=>by subst z;rw[q]at mu;exact nm mu
 refine⟨fun b u q n _ _=>k b u (hb b n) q,fun b u q n _ _=>⟨u.slots,k b u (hb b n) q⟩,fun b u q n _=>by rw[zH (hx b n)];exact n,fun b u q _=>?_,
  fun b xs q=>by rw[zH (hm b _ q fun z=>z)];exact q,fun b u xs q=>by rw[zH (hm b _ q fun z=>z)];exact q,fun b ps q=>by rw[zH (hm b _ q fun z=>z)];exact q⟩
 by_cases hbe:b=e
 ·subst hbe;exact y
 ·exact⟨u,k b u hbe q⟩
theorem Un.mono(u:Un fs ex H H1 h h1)(hs:∀b∈fs,b∈fs')(hx:∀b∈ex,b∈ex'):Un fs' ex' H H1 h h1:=
 ⟨fun b ob q n hb he=>u.keep b ob q n (fun z=>hb (hs b z)) fun z=>he (hx b z),fun _ _ q n _ he=>u.any q n fun z=>he (hx _ z),fun b ob q n he=>u.free b ob q n fun z=>he (hx b z),fun b ob q he=>u.there b ob q fun z=>he (hx b z),u.tups,u.frzs,u.tbls⟩
end
def trk(h:Heap)(H:Hp):List Addr:=(ir h.objs.size).filter fun a=>(H a).isSome
def fX(h:Heap)(H:Hp):Heap:=W.hideAll h (trk h H)
theorem Ch(h:Heap)(H:Hp):(fX h H).objs.size=h.objs.size:=W.hideAll_size _ _
theorem C5{h:Heap}{H:Hp}{b:Addr}{o:Obj}(e:h.get? b=some o)(n:H b=none):(fX h H).get? b=some o:=
 W.hideAll_get _ e fun hm=>by
  have q:(H b).isSome=true:=(mem_filter.mp hm).2;rw[n]at q;simp at q
theorem Dp{h:Heap}{H:Hp}{b:Addr}{o:Obj}(e:(fX h H).get? b=some o):h.get? b=some o/\H b=none:=by
 have e':h.get? b=some o:=W.of_hideAll (trk h H) e;refine⟨e',?_⟩;cases q:H b with
 |none=>rfl
 |some x=>
  have hm:b∈trk h H:=mem_filter.mpr ⟨mem_range.mpr (fw e'),by simp[q]⟩;have z:(fX h H).get? b=none:=W.hideAll_none (trk h H) hm;rw[z]at e;cases e
def HG(g h:Heap)(L:Addr):List (Addr×Obj):=(ir h.objs.size).filterMap fun a=>if a=L\/(g.get? a).isSome=true then none else (h.get? a).map fun o=>(a,o)
def rest(g h:Heap)(L d:Addr):List (Addr×Obj):=(HG g h L).filter fun p=>decide (p.1≠d)
end
section
def tabsG:List ((Addr×Addr)×Array bo):=[]
def BltAt(base:Heap)(mg:Str->Option bo):Prop:=∃bm ob,mg "__builtins__" = some (.ref bm)/\bm≠builtinsNs/\base.get? bm=some ob/\ob.cls=.type "module"/\ob.dict=some builtinsNs/\ob.data=.plain
structure Frf(fs:List Addr)(H:Hp):Prop where
 free:∀b∈fs,H b=none
 tab:∀q∈tabsG,H q.1.2=some (.tbl q.2)
structure Mod(K:cw)(mg:Str->Option bo)(base:Heap):Prop where
 kin:K.In base
 glob:base.Ns on mg
 blt:∃mb,base.Ns builtinsNs mb/\∀x:Str,x ≠ "__name__"->mb x=iy x
 nolimit:base.NoLimit
 bm:BltAt base mg
 hd:∀q∈tabsG,W.CodeHd base q.1.1 q.1.2
structure Cx where
 prog:fq
 w:gw
 K:cw
 mg:Str->Option bo
 base:Heap
 A:gh
 N:List Str
 s₀:bq
 H₀:Hp
 env:Env
 outer:List Env
 stack:List Env
 ex:List Addr
 fn:Str->Bool
 calm:Bool
 pn:List (Addr×Obj)
 xe:bo->bq->Prop
def frs(l:List Env):List Addr:=l.filterMap (·.frame)
abbrev Cx.fs (X:Cx):List Addr:=frs X.outer
def Vis(sc:Scope)(x:Str):Prop:=sc.names.lookup x=some .local\/sc.names.lookup x=some .cell\/sc.names.lookup x=some .free
def Loc(sc:Scope)(x:Str):Prop:=sc.names.lookup x=some .local\/sc.names.lookup x=some .cell
def Look(env:Env)(h:Heap)(m:Str->Option bo)(x:Str)(u:bo):Prop:=
 (env.kindOf x=some .local/\m x=some u)\/((env.kindOf x=some .cell\/env.kindOf x=some .free)/\∃c,env.cells.lookup x=some c/\h.IsCell c (some u))
structure Cx.Ok(X:Cx):Prop where
 mod:Mod X.K X.mg X.base
 kind:X.env.scope.kind=.function
 glob:X.env.globals=on
 blt:X.env.builtins=builtinsNs
 above:X.s₀.heap.objs.size<=X.env.locals
 inj:∀x y c,X.env.cells.lookup x=some c->X.env.cells.lookup y=some c->x=y
 has:∀x,(X.env.kindOf x=some .cell\/X.env.kindOf x=some .free)->∃c,X.env.cells.lookup x=some c
 cab:∀x c,X.fn x=true->X.env.cells.lookup x=some c->X.s₀.heap.objs.size<=c
 hd:X.calm=true->X.A.handled=none
 frames:X.A.frames=some X.stack
 stk:X.stack=X.outer\/(X.stack=X.env::X.outer/\X.env.frame=some X.env.locals)
 exf:∀b∈X.ex,b≠X.env.locals/\∀x c,X.env.cells.lookup x=some c->c≠b
 bs:∀b o,X.base.get? b=some o->X.s₀.heap.get? b=some o/\X.H₀ b=none
 bsz:X.base.objs.size<=X.s₀.heap.objs.size
 noex:∀b o,X.base.get? b=some o->b∉X.ex
 exfs:∀b∈X.ex,b∉X.fs
 funs:X.s₀.heap.FunFrames X.base X.outer
 frf:Frf X.fs X.H₀
structure Inv(X:Cx)(zd:List (Addr×Obj))(σ:List (Option V))(H:Hp)(s:bq):Prop where
 ok:X.Ok
 os:s.os=X.s₀.os
 bare:AllBare s.gens
 base:Un X.fs X.ex X.H₀ H X.s₀.heap s.heap
 loc:∃m,s.heap.Ns X.env.locals m/\∀(i:Nat) (x:Str) (v:V),X.N[i]?=some x->σ[i]?=some (some v)->Vis X.env.scope x->∃u,RelV v u/\Look X.env s.heap m x u
 cell:∀x c,X.env.cells.lookup x=some c->∃v,s.heap.IsCell c v
 free:H X.env.locals=none
 freeC:∀x c,X.env.cells.lookup x=some c->H c=none
 pin:∀p∈X.pn++zd,s.heap.get? p.1=some p.2/\H p.1=none/\p.1≠X.env.locals/\p.1∉X.fs/\∀v,p.2.data≠.cell v
 hok:HOk X.prog X.w H s.heap
 len:σ.length=X.N.length
section
variable {X:Cx}{zd:List (Addr×Obj)}{σ:List (Option V)}{H H':Hp}{s:bq}{h':Heap}
theorem Cx.Ok.nofr(ok:X.Ok){b:Addr}{o:Obj}(e:X.base.get? b=some o):b∉X.fs:=fun hb=>by
 have:=(ok.funs.mem hb).1;rw[e]at this;cases this
theorem Inv.bs(I:Inv X zd σ H s):∀b o,X.base.get? b=some o->s.heap.get? b=some o/\H b=none:=fun b o e=>
 ⟨I.base.keep b o (I.ok.bs b o e).1 (I.ok.bs b o e).2 (I.ok.nofr e) (I.ok.noex b o e),I.base.free b o (I.ok.bs b o e).1 (I.ok.bs b o e).2 (I.ok.noex b o e)⟩
theorem Inv.bk(I:Inv X zd σ H s):∀b o,X.base.get? b=some o->s.heap.get? b=some o:=fun b o e=>(I.bs b o e).1
theorem Inv.mod(I:Inv X zd σ H s):Mod X.K X.mg X.base:=I.ok.mod
theorem Inv.kIn(I:Inv X zd σ H s):X.K.In s.heap:=I.ok.mod.kin.keeps I.bk
theorem Inv.lt(I:Inv X zd σ H s):X.env.locals<s.heap.objs.size:=let ⟨_,hn,_⟩:=I.loc;hn.lt
theorem Inv.sz(I:Inv X zd σ H s):X.s₀.heap.objs.size<=s.heap.objs.size:=lu I.ok.above (om I.lt)
theorem Inv.nofs(I:Inv X zd σ H s){a:Addr}(h:s.heap.objs.size<=a):a∉X.fs:=fun hb=>by
 obtain⟨_,o,ho,_⟩:=I.ok.funs.mem hb;exact absurd (ix (fw ho) (lu I.sz h)) (nz _)
theorem Inv.cne(I:Inv X zd σ H s):∀x c,X.env.cells.lookup x=some c->c≠X.env.locals:=fun x c e z=>by
 obtain⟨v,o,ho,hd⟩:=I.cell x c e;obtain⟨m,⟨o',es,ep,aa,y,_⟩,_⟩:=I.loc;rw[z,aa]at ho;cases ho;rw[y]at hd;cases hd
theorem Inv.funs(I:Inv X zd σ H s):s.heap.FunFrames X.base X.outer:=by
 have all:∀(l:List Env),(∀b∈frs l,b∈X.fs)->X.s₀.heap.FunFrames X.base l->s.heap.FunFrames X.base l:=by
  intro l;induction l with
  |nil=>intro _ _;trivial
  |cons env r ih=>
   intro hs hl;obtain⟨hk,⟨L,o,hf,hn,ho,hd⟩,hr⟩:=hl;have hL:L∈X.fs:=hs L (by unfold frs;rw[List.filterMap_cons,hf];exact iq);obtain⟨sl,e⟩:=I.base.slot L o ho (I.ok.frf.free L hL) hL fun z=>I.ok.exfs L z hL;exact⟨hk,⟨L,_,hf,hn,e,hd⟩,ih (fun b hb=>hs b (by unfold frs;rw[List.filterMap_cons,hf];exact fu _ hb)) hr⟩
 exact all X.outer (fun _ hb=>hb) I.ok.funs
theorem Inv.stack(I:Inv X zd σ H s):s.heap.FunFrames X.base X.stack:=by
 rcases I.ok.stk with e|⟨e,hf⟩
 ·rw[e];exact I.funs
 ·rw[e];obtain⟨m,hn,_⟩:=I.loc;refine .cons (by rw[I.ok.kind];decide) hf hn ?_ I.funs;exact Heap.get?_none_of_le (lu I.ok.bsz I.ok.above)
theorem Inv.stkSub(I:Inv X zd σ H s):∀b∈frs X.stack,b∈X.env.locals::X.fs:=fun b hb=>by
 rcases I.ok.stk with e|⟨e,hf⟩
 ·rw[e]at hb;exact fu _ hb
 ·rw[e]at hb;unfold frs at hb;rw[List.filterMap_cons,hf]at hb;exact hb
theorem Inv.stkFree(I:Inv X zd σ H s):Frf (frs X.stack) H:=⟨fun b hb=>by
 rcases mem_cons.mp (I.stkSub b hb)with e|hb
 ·rw[e];exact I.free
 ·obtain⟨_,o,ho,_⟩:=I.ok.funs.mem hb;exact I.base.free b o ho (I.ok.frf.free b hb) fun z=>I.ok.exfs b z hb,fun q hq=>I.base.tbls _ _ (I.ok.frf.tab q hq)⟩
theorem Inv.step{g':Array GenState}{t':Nat}{d':Drawn}{ch:List Addr}(I:Inv X zd σ H s)
  (hch:∀b∈ch,(b∈X.ex\/X.s₀.heap.objs.size<=b)/\b≠X.env.locals/\(∀x c,X.env.cells.lookup x=some c->c≠b)/\∀p∈X.pn++zd,p.1≠b)
  (keep:∀b o,b≠X.env.locals->b∉X.fs->b∉ch->s.heap.get? b=some o->H b=none->h'.get? b=some o)
  (slot:∀b o,b≠X.env.locals->b∈X.fs->b∉ch->s.heap.get? b=some o->H b=none->∃sl,h'.get? b=some { o with slots:=sl }) (free:∀b o,b∉ch->s.heap.get? b=some o->H b=none->H' b=none)
  (there:∀b o,b∉ch->s.heap.get? b=some o->∃o',h'.get? b=some o')
  (tups:∀b xs,H b=some (.tup xs)->H' b=some (.tup xs)) (frzs:∀b o u,H b=some (.frz o u)->H' b=some (.frz o u)) (tbls:∀b ps,H b=some (.tbl ps)->H' b=some (.tbl ps))
  (ns:∀m,s.heap.Ns X.env.locals m->h'.Ns X.env.locals m) (hok:HOk X.prog X.w H' h') (hg:AllBare g'):
  Inv X zd σ H' { s with heap:=h',gens:=g',drawn:=d',toks:=t' }:=by
 have ae:∀b o,X.s₀.heap.get? b=some o->b≠X.env.locals:=fun b o e=>ic (ix (fw e) I.ok.above);have ac:∀b o,X.s₀.heap.get? b=some o->b∉X.ex->b∉ch:=fun b o e hx hb=>by
  rcases(hch b hb).1 with z|z
  ·exact hx z
  ·exact absurd (ix (fw e) z) (nz _)
 have aa:∀x c,X.env.cells.lookup x=some c->∀v,s.heap.IsCell c v->h'.IsCell c v:=fun x c e v ⟨o,ho,hd⟩=>by
  have y:c∉ch:=fun z=>(hch c z).2.2.1 x c e rfl;by_cases hc:c∈X.fs
  ·obtain⟨sl,q⟩:=slot c o (I.cne x c e) hc y ho (I.freeC x c e);exact⟨_,q,hd⟩
  ·exact⟨o,keep c o (I.cne x c e) hc y ho (I.freeC x c e),hd⟩
 refine⟨I.ok,I.os,hg,⟨fun b o e n hb hx=>?_,fun b o e n hb hx=>?_,fun b o e n hx=>?_,fun b o e hx=>?_,fun b xs e=>tups b xs (I.base.tups b xs e),fun b o xs e=>frzs b o xs (I.base.frzs b o xs e),fun b ps e=>?_⟩,?_,fun x c e=>?_,?_,fun x c e=>?_,fun p hp=>?_,hok,I.len⟩
 ·exact keep b o (ae b o e) hb (ac b o e hx) (I.base.keep b o e n hb hx) (I.base.free b o e n hx)
 ·obtain⟨sl,e1⟩:=I.base.slot b o e n hb hx;obtain⟨af,e2⟩:=slot b _ (ae b o e) hb (ac b o e hx) e1 (I.base.free b o e n hx);exact⟨af,e2⟩
 ·obtain⟨o',e1⟩:=I.base.there b o e hx;exact free b o' (ac b o e hx) e1 (I.base.free b o e n hx)
 ·obtain⟨o',e1⟩:=I.base.there b o e hx;exact there b o' (ac b o e hx) e1
 ·exact tbls b _ (I.base.tbls b ps e)
 ·obtain⟨m,hn,hl⟩:=I.loc;refine⟨m,ns m hn,fun i x v e1 e2 e3=>?_⟩;obtain⟨u,r,l⟩:=hl i x v e1 e2 e3;refine⟨u,r,?_⟩;rcases l with l|⟨k,c,e,z⟩
  ·exact .inl l
  ·exact .inr ⟨k,c,e,aa x c e _ z⟩
 ·obtain⟨v,z⟩:=I.cell x c e;exact⟨v,aa x c e v z⟩
 ·obtain⟨m,⟨o,_,_,ho,_⟩,_⟩:=I.loc;exact free _ o (fun z=>(hch _ z).2.1 rfl) ho I.free
 ·obtain⟨v,o,ho,hd⟩:=I.cell x c e;exact free c o (fun z=>(hch c z).2.2.1 x c e rfl) ho (I.freeC x c e)
 ·obtain⟨e,n,ne,nf,d⟩:=I.pin p hp;have y:p.1∉ch:=fun z=>(hch p.1 z).2.2.2 p hp rfl;exact⟨keep p.1 p.2 ne nf y e n,free p.1 p.2 y e n,ne,nf,d⟩
theorem Inv.un{t':Nat}(I:Inv X zd σ H s)(u:Un X.fs [] H H' s.heap h')(hok:HOk X.prog X.w H' h'):Inv X zd σ H' { s with heap:=h',toks:=t' }:=by
 obtain⟨m,⟨o,es,ep,ho,r⟩,_⟩:=id I.loc;obtain⟨sl,hL⟩:=u.any ho I.free yv;exact I.step (g':=s.gens) (d':=s.drawn) (ch:=[]) (fun _ z=>nomatch z) (fun b o _ hb _ e n=>u.keep b o e n hb yv) (fun b o _ hb _ e n=>u.slot b o e n hb yv) (fun b o _ e n=>u.free b o e n yv) (fun b o _ e=>u.there b o e yv) u.tups u.frzs u.tbls (fun m' hm=>by
  obtain⟨o',aa,ac,y,r'⟩:=hm;rw[ho]at y;cases y;exact⟨_,aa,ac,hL,r'⟩) hok I.bare
theorem Inv.call{g':Array GenState}{t':Nat}{d':Drawn}{ch:List Addr}(I:Inv X zd σ H s)(u:Un (frs X.stack) ch H H' s.heap h')(hok:HOk X.prog X.w H' h')(hg:AllBare g')
  (hch:∀b∈ch,(b∈X.ex\/X.s₀.heap.objs.size<=b)/\b≠X.env.locals/\(∀x c,X.env.cells.lookup x=some c->c≠b)/\∀p∈X.pn++zd,p.1≠b):
  Inv X zd σ H' { s with heap:=h',gens:=g',drawn:=d',toks:=t' }:=by
 obtain⟨m,⟨o,es,ep,ho,r⟩,_⟩:=id I.loc;obtain⟨sl,hL⟩:=u.any ho I.free fun z=>(hch _ z).2.1 rfl;exact I.step (ch:=ch) hch (fun b o hL hb hc e n=>u.keep b o e n (fun z=>(mem_cons.mp (I.stkSub b z)).elim hL hb) hc) (fun b o _ _ hc e n=>u.any e n hc) (fun b o hc e n=>u.free b o e n hc) (fun b o hc e=>u.there b o e hc) u.tups u.frzs u.tbls (fun m' hm=>by
  obtain⟨o',aa,ac,y,r'⟩:=hm;rw[ho]at y;cases y;exact⟨_,aa,ac,hL,r'⟩) hok hg
theorem Inv.turned{t':Nat}{it:Addr}(I:Inv X zd σ H s)(k:∀b o,b≠it->s.heap.get? b=some o->h'.get? b=some o)(hn:H it=none)(hL:it≠X.env.locals)
  (h1:it∈X.ex\/X.s₀.heap.objs.size<=it) (h2:∀x c,X.env.cells.lookup x=some c->c≠it) (h3:∀p∈X.pn++zd,p.1≠it):Inv X zd σ H { s with heap:=h',toks:=t' }:=by
 have y:∀b u,H b=some u->b≠it:=fun b u e z=>by rw[z,hn]at e;cases e
 refine I.step (g':=s.gens) (d':=s.drawn) (ch:=[it]) (fun b hb=>?_) (fun b o _ _ hc e _=>k b o (fun z=>hc (by simp[z])) e) (fun b o _ _ hc e _=>⟨o.slots,k b o (fun z=>hc (by simp[z])) e⟩) (fun _ _ _ _ n=>n)
  (fun b o hc e=>⟨o,k b o (fun z=>hc (by simp[z])) e⟩) (fun _ _ e=>e) (fun _ _ _ e=>e) (fun _ _ e=>e) (fun m hm=>?_) (fun b u e=>?_) I.bare
 ·have e:b=it:=by simpa using hb
  subst e;exact⟨h1,hL,h2,h3⟩
 ·obtain⟨o,es,ep,ho,r⟩:=hm;exact⟨o,es,ep,k _ o (jq hL) ho,r⟩
 ·refine(I.hok b u e).stay (fun c v hc q=>k c v ?_ q) (fun _ q=>q) fun _ _ q=>q;rcases hc with z|z
  ·rw[z];exact y b u e
  ·exact y c _ z
theorem Inv.tok(I:Inv X zd σ H s)(t:Nat):Inv X zd σ H { s with toks:=t }:=I.un (h':=s.heap) (t':=t) Un.refl I.hok
theorem Inv.kept{t':Nat}(I:Inv X zd σ H s)(k:∀b u,s.heap.get? b=some u->h'.get? b=some u):Inv X zd σ H { s with heap:=h',toks:=t' }:=I.un (Un.kept k) (I.hok.kept k)
theorem Inv.laid{a:Addr}{o:HO}{t':Nat}(I:Inv X zd σ H s)(k:∀b u,s.heap.get? b=some u->h'.get? b=some u)(hp:s.heap.objs.size<=a)(y:ObjOk X.prog X.w (upd H a o) h' a o):
  Inv X zd σ (upd H a o) { s with heap:=h',toks:=t' }:=I.un (Un.laid k hp (I.hok.fresh hp)) (I.hok.laid k hp y)
theorem Inv.write{x e:Addr}{o:HO}{t':Nat}(I:Inv X zd σ H s)(mu:Mut (H x))(he:e=x\/H e=some (.own x))(k:∀b u,b≠e->s.heap.get? b=some u->h'.get? b=some u)(y:∃u,h'.get? e=some u)
  (new:ObjOk X.prog X.w (upd H x o) h' x o):Inv X zd σ (upd H x o) { s with heap:=h',toks:=t' }:=I.un (Un.write mu he k y) (I.hok.write mu he k y new)
theorem Inv.pins_of{y:List (Addr×Obj)}(I:Inv X zd σ H s)(h:∀p∈y,s.heap.get? p.1=some p.2/\H p.1=none/\p.1≠X.env.locals/\p.1∉X.fs/\∀v,p.2.data≠.cell v):Inv X y σ H s:=
 ⟨I.ok,I.os,I.bare,I.base,I.loc,I.cell,I.free,I.freeC,fun p hp=>(mem_append.mp hp).elim (fun z=>I.pin p (jo _ z)) (h p),I.hok,I.len⟩
theorem AR{N:List Str}(hN:N.Nodup){i j:Nat}{x:Str}(a:N[i]?=some x)(b:N[j]?=some x):i=j:=by
 obtain⟨h1,e1⟩:=List.getElem?_eq_some_iff.mp a;obtain⟨h2,e2⟩:=List.getElem?_eq_some_iff.mp b;exact(List.getElem_inj hN).mp (e1.trans e2.symm)
theorem Em{M:Model}{A:gh}{E:bo->bq->Prop}{i:Nat}{x:Str}{v:V}{u:bo}{Q:Unit->bq->Prop}(I:Inv X zd σ H s)(hN:X.N.Nodup)(hi:X.N[i]?=some x)(hx:Loc X.env.scope x)(r:RelV v u)
  (h:∀s',Inv X zd (σ.set i (some v)) H s'->(∃a,jm a s.heap s'.heap/\(a=X.env.locals\/X.env.cells.lookup x=some a))->Q () s') (hf:X.fn x=true\/X.env.scope.names.lookup x=some .local:=by first|exact .inl rfl|exact .inr rfl|assumption):cv M A (storeName X.env x u) Q E s:=by
 obtain⟨m,hn,hl⟩:=id I.loc;have ak:(X.env.scope.kind==.class||(X.env.scope.kind==.module&&X.env.locals != X.env.globals))=false:=by rw[I.ok.kind];rfl
 have aj:i<σ.length:=by rw[I.len];exact(List.getElem?_eq_some_iff.mp hi).1
 have af:=I.cne;have aa:∀{a:Addr}{h':Heap},(∃o,s.heap.get? a=some o/\H a=none)->jm a s.heap h'->HOk X.prog X.w H h':=fun {a h'} ha hs b ob e=>by
  obtain⟨_,_,ac⟩:=ha;refine(I.hok b ob e).stay (fun c w' hc q=>(hs.2 c ?_).trans q) (fun _ q=>q) fun _ _ q=>q;rintro rfl;rcases hc with rfl|hc
  ·rw[ac]at e;cases e
  ·rw[ac]at hc;cases hc
 rcases hx with hk|hk
 ·refine wpAny_storeName_local hk hn (fun h' al hs=>?_) ak;obtain⟨oL,_,_,am,_⟩:=id hn;refine h _ ⟨I.ok,I.os,I.bare,⟨fun b o e n hb hx=>?_,fun b o e n hb hx=>?_,I.base.free,fun b o e hx=>?_,I.base.tups,I.base.frzs,I.base.tbls⟩,⟨_,al,fun j y v' e1 e2 e3=>?_⟩,fun y c e=>?_,I.free,I.freeC,fun p hp=>?_,aa ⟨oL,am,I.free⟩ hs,by simpa using I.len⟩ ⟨_,hs,.inl rfl⟩
  ·exact(hs.2 b (ic (ix (fw e) I.ok.above))).trans (I.base.keep b o e n hb hx)
  ·obtain⟨sl,e1⟩:=I.base.slot b o e n hb hx;exact⟨sl,(hs.2 b (ic (ix (fw e) I.ok.above))).trans e1⟩
  ·obtain⟨o',e1⟩:=I.base.there b o e hx;exact⟨o',(hs.2 b (ic (ix (fw e) I.ok.above))).trans e1⟩
  ·by_cases hj:j=i
   ·subst hj;rw[hi]at e1;cases e1;rw[pj aj]at e2;cases e2;exact⟨u,r,.inl ⟨hk,yv⟩⟩
   ·rw[su (jq hj)]at e2;obtain⟨u',r',q⟩:=hl j y v' e1 e2 e3;refine⟨u',r',?_⟩;rcases q with ⟨k,e⟩|⟨k,c,e,z⟩
    ·refine .inl ⟨k,?_⟩;have:y≠x:=fun e=>hj (AR hN e1 (e▸hi));simp[this,e]
    ·exact .inr ⟨k,c,e,z.sameBut hs (af y c e)⟩
  ·obtain⟨w',z⟩:=I.cell y c e;exact⟨w',z.sameBut hs (af y c e)⟩
  ·obtain⟨e,n,ne,nf,d⟩:=I.pin p hp;exact⟨(hs.2 p.1 ne).trans e,n,ne,nf,d⟩
 ·have ae:X.fn x=true:=by
   rcases hf with z|z
   ·exact z
   ·rw[z]at hk;cases hk
  obtain⟨c,hc⟩:=I.ok.has x (.inl hk);obtain⟨w',z⟩:=I.cell x c hc;refine wpAny_storeName_cell I.ok.kind hk hc z (fun h' ag hs=>?_);obtain⟨oc,ah,ai⟩:=id z;refine h { s with heap:=h' } ⟨I.ok,I.os,I.bare,⟨fun b o e n hb hx=>?_,fun b o e n hb hx=>?_,I.base.free,fun b o e hx=>?_,I.base.tups,I.base.frzs,I.base.tbls⟩,⟨m,hn.sameBut hs (jq (af x c hc)),fun j y v' e1 e2 e3=>?_⟩,fun y c' e=>?_,I.free,I.freeC,fun p hp=>?_,aa ⟨oc,ah,I.freeC x c hc⟩ hs,by simpa using I.len⟩ ⟨c,hs,.inr hc⟩
  ·exact(hs.2 b (ic (ix (fw e) (I.ok.cab x c ae hc)))).trans (I.base.keep b o e n hb hx)
  ·obtain⟨sl,e1⟩:=I.base.slot b o e n hb hx;exact⟨sl,(hs.2 b (ic (ix (fw e) (I.ok.cab x c ae hc)))).trans e1⟩
  ·obtain⟨o',e1⟩:=I.base.there b o e hx;exact⟨o',(hs.2 b (ic (ix (fw e) (I.ok.cab x c ae hc)))).trans e1⟩
  ·by_cases hj:j=i
   ·subst hj;rw[hi]at e1;cases e1;rw[pj aj]at e2;cases e2;exact⟨u,r,.inr ⟨.inl hk,c,hc,ag⟩⟩
   ·rw[su (jq hj)]at e2;obtain⟨u',r',q⟩:=hl j y v' e1 e2 e3;refine⟨u',r',?_⟩;rcases q with q|⟨k,c',e,z'⟩
    ·exact .inl q
    ·refine .inr ⟨k,c',e,z'.sameBut hs ?_⟩;rintro rfl;exact hj (AR hN e1 (I.ok.inj _ _ _ e hc▸hi))
  ·by_cases hcc:c'=c
   ·subst hcc;exact⟨_,ag⟩
   ·obtain⟨w2,z2⟩:=I.cell y c' e;exact⟨w2,z2.sameBut hs hcc⟩
  ·obtain⟨e,n,ne,nf,d⟩:=I.pin p hp;refine⟨(hs.2 p.1 ?_).trans e,n,ne,nf,d⟩;intro q;rw[q,ah]at e;have q':oc=p.2:=gv e;exact d w' (by rw[<- q'];exact ai)
theorem pX{M:Model}{A:gh}{E:bo->bq->Prop}{i:Nat}{x:Str}{v:V}{u:bo}{Q:Unit->bq->Prop}(I:Inv X zd σ H s)(hN:X.N.Nodup)(hi:X.N[i]?=some x)(hx:Loc X.env.scope x)(r:RelV v u)
  (h:∀s',Inv X zd (σ.set i (some v)) H s'->Q () s') (hf:X.fn x=true\/X.env.scope.names.lookup x=some .local:=by first|exact .inl rfl|exact .inr rfl|assumption):cv M A (storeName X.env x u) Q E s:=
 Em I hN hi hx r (fun s' I' _=>h s' I') hf
theorem Inv.call'{s':bq}{ch:List Addr}(I:Inv X zd σ H s)(ho:s'.os=s.os)(u:Un (frs X.stack) ch H H' s.heap s'.heap)(hok:HOk X.prog X.w H' s'.heap)(hg:AllBare s'.gens)
  (hch:∀b∈ch,(b∈X.ex\/X.s₀.heap.objs.size<=b)/\b≠X.env.locals/\(∀x c,X.env.cells.lookup x=some c->c≠b)/\∀p∈X.pn++zd,p.1≠b):Inv X zd σ H' s':=by
 obtain⟨h',g',d',t',o'⟩:=s';have e:o'=s.os:=ho;subst e;exact I.call (g':=g') (t':=t') (d':=d') u hok hg hch
end
abbrev XK:=bo->Option Addr->Hp->Prop
abbrev St:=List (Option V)
abbrev VK:=V->Hp->Prop
abbrev TE:=St->Hp->VK->Prop
abbrev TT:=St->Hp->(Bool->Hp->Prop)->Prop
abbrev TA:=St->Hp->(List V->Hp->Prop)->Prop
structure Ends where
 nx:St->Hp->Prop
 rt:VK
 bk:St->Hp->Prop:=fun _ _=>False
 ct:St->Hp->Prop:=fun _ _=>False
abbrev TS:=Ends->St->Hp->Prop
def EP(X:Cx)(zd:List (Addr×Obj))(σ:St)(Q:VK)(u:bo)(s':bq):Prop:=∃v H',Inv X zd σ H' s'/\RelV v u/\Q v H'
def TP(X:Cx)(zd:List (Addr×Obj))(σ:St)(Q:Bool->Hp->Prop)(b:Bool)(s':bq):Prop:=∃H',Inv X zd σ H' s'/\Q b H'
def AP(X:Cx)(zd:List (Addr×Obj))(σ:St)(Q:List V->Hp->Prop)(us:List bo)(s':bq):Prop:=∃vs H',Inv X zd σ H' s'/\Vals vs us/\Q vs H'
def SP(X:Cx)(zd:List (Addr×Obj))(D:Ends)(f:Flow)(s':bq):Prop:=
 match f with
 | .next=>∃ σ' H',Inv X zd σ' H' s'/\D.nx σ' H'
 | .brk=>∃ σ' H',Inv X zd σ' H' s'/\D.bk σ' H'
 | .cont=>∃ σ' H',Inv X zd σ' H' s'/\D.ct σ' H'
 | .ret u=>∃v σ' H',Inv X zd σ' H' s'/\RelV v u/\D.rt v H'
def PE(X:Cx)(e:Expr)(t:TE):Prop:=
 ∀(zd:List (Addr×Obj)) (s:bq) (σ:St) (H:Hp) (Q:VK),Inv X zd σ H s->t σ H Q->cv (model X.prog X.w) X.A (eval e X.env) (EP X zd σ Q) X.xe s
def PT(X:Cx)(e:Expr)(t:TT):Prop:=
 ∀(zd:List (Addr×Obj)) (s:bq) (σ:St) (H:Hp) (Q:Bool->Hp->Prop),Inv X zd σ H s->t σ H Q->cv (model X.prog X.w) X.A (isTrue e X.env (eval e X.env)) (TP X zd σ Q) X.xe s
def PW(X:Cx)(e:Expr)(t:TT):Prop:=
 ∀(whole:Sem bo) (zd:List (Addr×Obj)) (s:bq) (σ:St) (H:Hp) (Q:Bool->Hp->Prop),Inv X zd σ H s->t σ H Q->cv (model X.prog X.w) X.A (isTrue e X.env whole) (TP X zd σ Q) X.xe s
theorem PW.pt{X:Cx}{e:Expr}{t:TT}(h:PW X e t):PT X e t:=h _
def PA(X:Cx)(es:List Expr)(t:TA):Prop:=
 ∀(pos:Pos) (zd:List (Addr×Obj)) (s:bq) (σ:St) (H:Hp) (Q:List V->Hp->Prop),Inv X zd σ H s->t σ H Q->cv (model X.prog X.w) X.A (spliced (kj pos (fc es X.env))) (AP X zd σ Q) X.xe s
def PS(X:Cx)(st:Stmt)(t:TS):Prop:=
 ∀(zd:List (Addr×Obj)) (s:bq) (σ:St) (H:Hp) (D:Ends),Inv X zd σ H s->t D σ H->cv (model X.prog X.w) X.A (exec st X.env) (SP X zd D) X.xe s
def PSs(X:Cx)(st:List Stmt)(t:TS):Prop:=
 ∀(zd:List (Addr×Obj)) (s:bq) (σ:St) (H:Hp) (D:Ends),Inv X zd σ H s->t D σ H->cv (model X.prog X.w) X.A (execs st X.env) (SP X zd D) X.xe s
theorem thn{α:Type}{t:Sem α}{Q Q':α->bq->Prop}{M:Model}{A:gh}{E:bo->bq->Prop}{s:bq}(h:cv M A t Q E s)(hQ:∀a s,Q a s->Q' a s):cv M A t Q' E s:=kl h hQ fun _ _ x=>x
end
section
section
variable {X:Cx}
def fC(i:Nat):TE:=fun σ H Q=>∃v,σ[i]?=some (some v)/\Q v H
def tC(v:V):TE:=fun _ H Q=>Q v H
theorem Dt{i:Nat}{x:Str}{pos:Pos}(hN:X.N[i]?=some x)(hv:Vis X.env.scope x)(hd:(x==("__debug__":Str))=false:=by decide)(y:(x==("__classdict__":Str))=false:=by decide):PE X (.Name x pos) (fC i):=by
 intro zd s σ H Q I h;obtain⟨v,e,h⟩:=h;obtain⟨m,hn,hl⟩:=I.loc;obtain⟨u,r,l⟩:=hl i x v hN e hv;have fin:EP X zd σ Q u s:=⟨v,H,I,r,h⟩;rcases l with ⟨hk,hm⟩|⟨hk,c,hc,hcell⟩
 ·exact wpAny_Name (wpAny_loadName_local I.ok.kind hk hn hm fin) hd
 ·rcases hk with hk|hk
  ·exact wpAny_Name (wpAny_loadName_cell I.ok.kind hk hc hcell fin) hd
  ·exact wpAny_Name (wpAny_loadName_free I.ok.kind hk hc hcell fin y) hd
theorem zg{i j pos}:PE X (.Constant (.int i) j pos) (tC (.int i)):=fun _ _ _ H _ I h=>wpAny_Constant_int ⟨.int i,H,I.tok _,⟨_,rfl⟩,h⟩
theorem bN{b j pos}:PE X (.Constant (.bool b) j pos) (tC (.bl b)):=fun _ _ _ H _ I h=>Constant_bool ⟨.bl b,H,I,rfl,h⟩
theorem iW{j pos}:PE X (.Constant .none j pos) (tC .non):=fun _ _ _ H _ I h=>Constant_none ⟨.non,H,I,rfl,h⟩
theorem cQ{x j pos}:PE X (.Constant (.str x) j pos) (tC (.str x)):=fun _ _ _ H _ I h=>Calls.Constant_str ⟨.str x,H,I.tok _,⟨_,rfl⟩,h⟩
def Gl(X:Cx)(x:Str):Prop:=X.env.kindOf x=some .globalImplicit
theorem jS{E:bo->bq->Prop}{zd:List (Addr×Obj)}{s:bq}{σ:St}{H:Hp}{x:Str}{u:bo}{pos:Pos}{Q:bo->bq->Prop}(I:Inv X zd σ H s)(hg:Gl X x)(hm:X.mg x=some u)(h:Q u s)
  (hd:(x==("__debug__":Str))=false:=by decide):cv (model X.prog X.w) X.A (eval (.Name x pos) X.env) Q E s:=
 Calls.Name_function_global I.ok.kind hg (Calls.loadGlobal_global (by rw[I.ok.glob];exact I.mod.glob.keeps I.bk) hm h) hd
theorem eF{E:bo->bq->Prop}{zd:List (Addr×Obj)}{s:bq}{σ:St}{H:Hp}{x:Str}{u:bo}{pos:Pos}{Q:bo->bq->Prop}(I:Inv X zd σ H s)(hg:Gl X x)(hm:X.mg x=none)(hv:iy x=some u)(h:Q u s)
  (hn:x ≠ "__name__":=by decide) (hd:(x==("__debug__":Str))=false:=by decide):cv (model X.prog X.w) X.A (eval (.Name x pos) X.env) Q E s:=by
 obtain⟨mb,h1,h2⟩:=I.mod.blt;exact Calls.Name_function_global I.ok.kind hg (Calls.loadGlobal_builtin (by rw[I.ok.glob];exact I.mod.glob.keeps I.bk) hm (by rw[I.ok.blt];exact h1.keeps I.bk) ((h2 x hn).trans hv) h) hd
theorem eQ{x:Str}{v:V}{u:bo}{pos:Pos}(hg:Gl X x)(hm:X.mg x=some u)(r:RelV v u)(hd:(x==("__debug__":Str))=false:=by decide):PE X (.Name x pos) (tC v):=
 fun _ _ _ H _ I h=>jS I hg hm ⟨v,H,I,r,h⟩ hd
theorem gN{x:Str}{v:V}{u:bo}{pos:Pos}(hg:Gl X x)(hm:X.mg x=none)(hv:iy x=some u)(r:RelV v u)(hn:x ≠ "__name__":=by decide)(hd:(x==("__debug__":Str))=false:=by decide):PE X (.Name x pos) (tC v):=
 fun _ _ _ H _ I h=>eF I hg hm hv ⟨v,H,I,r,h⟩ hn hd
variable {a b:Expr}{ta tb:TE}{pos:Pos}
def tB(t:TE):TT:=fun σ H Q=>t σ H fun x H1=>∃c,x=.bl c/\Q c H1
variable {tA tB':TT}{rest:List Expr}
def yY(t u:TT):TT:=fun σ H Q=>t σ H fun c H1=>if c=true then u σ H1 Q else Q false H1
def tOr(t u:TT):TT:=fun σ H Q=>t σ H fun c H1=>if c=true then Q true H1 else u σ H1 Q
def AU(t:TT):TT:=fun σ H Q=>t σ H fun c H1=>Q (!c) H1
theorem wC(ha:PT X a tA):PW X (.BoolOp .And [a] pos) tA:=by
 intro wh zd s σ H Q I h;refine isTrue_and (thn (ha zd s σ H Q I h) fun c s1 e=>?_);cases c with
 |true=>exact isTrue_and_nil e
 |false=>exact e
theorem kW(ha:PT X a tA):PW X (.BoolOp .Or [a] pos) tA:=by
 intro wh zd s σ H Q I h;refine isTrue_or (thn (ha zd s σ H Q I h) fun c s1 e=>?_);cases c with
 |false=>exact isTrue_or_nil e
 |true=>exact e
theorem Bj(ha:PT X a tA)(hb:PW X (.BoolOp .And (b::rest) pos) tB'):PW X (.BoolOp .And (a::b::rest) pos) (yY tA tB'):=by
 intro wh zd s σ H Q I h;refine isTrue_and (thn (ha zd s σ H _ I h) fun c s1 ⟨H1,I1,q1⟩=>?_);cases c with
 |true=>exact hb wh zd s1 σ H1 Q I1 q1
 |false=>exact⟨H1,I1,q1⟩
theorem iS(ha:PT X a tA)(hb:PW X (.BoolOp .Or (b::rest) pos) tB'):PW X (.BoolOp .Or (a::b::rest) pos) (tOr tA tB'):=by
 intro wh zd s σ H Q I h;refine isTrue_or (thn (ha zd s σ H _ I h) fun c s1 ⟨H1,I1,q1⟩=>?_);cases c with
 |true=>exact⟨H1,I1,q1⟩
 |false=>exact hb wh zd s1 σ H1 Q I1 q1
theorem cB(ha:PT X a tA):PT X (.UnaryOp .Not a pos) (AU tA):=by
 intro zd s σ H Q I h;exact isTrue_not (ha zd s σ H (fun c H1=>Q (!c) H1) I h)
def xC(ta tb:TE):TE:=fun σ H Q=>ta σ H fun x H1=>∃c,x=.bl c/\if c=true then tb σ H1 Q else Q (.bl false) H1
def Ac(ta:TE):TE:=fun σ H Q=>ta σ H fun x H1=>∃c,x=.bl c/\Q (.bl (!c)) H1
theorem oB{op}{t:TE}(h:PE X a t):PE X (.BoolOp op [a] pos) t:=fun zd s σ H Q I hw=>BoolOp_one (h zd s σ H Q I hw)
theorem kN(ha:PE X a ta)(hb:PE X (.BoolOp .And (b::rest) pos) tb):PE X (.BoolOp .And (a::b::rest) pos) (xC ta tb):=by
 intro zd s σ H Q I h;refine BoolOp_and (thn (ha zd s σ H _ I h) fun v s1 ⟨x,H1,I1,r1,q1⟩=>?_);obtain⟨c,rfl,q1⟩:=q1;cases r1;refine lv ?_;cases c with
 |true=>exact hb zd s1 σ H1 Q I1 q1
 |false=>exact⟨.bl false,H1,I1,rfl,q1⟩
theorem Bf(ha:PE X a ta):PE X (.UnaryOp .Not a pos) (Ac ta):=by
 intro zd s σ H Q I h;refine UnaryOp_ (thn (ha zd s σ H _ I h) fun v s1 ⟨x,H1,I1,r1,q1⟩=>?_);obtain⟨c,rfl,q1⟩:=q1;cases r1;exact not_of (lv ⟨.bl (!c),H1,I1,rfl,q1⟩)
end
end
section
def SqL(K:cw)(H:Hp)(a:Addr)(xs:List V):Prop:=
 Rd H a (.lst xs) \/
  ∃(o:Obj) (its:Array bo) (n:Nat),K.lookup a=some o/\o.cls=.type "list"/\o.dict=none/\o.data=.seq its n/\its.size<=fh/\Vals xs its.toList
def SqT(K:cw)(H:Hp)(a:Addr)(xs:List V):Prop:=
 Rd H a (.tup xs) \/
  ∃(o:Obj) (its:Array bo) (n:Nat),K.lookup a=some o/\o.cls=.type "tuple"/\o.data=.seq its n/\its.size<=fh/\Vals xs its.toList
def DQ:bo->Option V
 | .none=>some .non
 | .bool b=>some (.bl b)
 | .int i _=>some (.int i)
 | .str x _=>some (.str x)
 | .bytes b _=>some (.byt b)
 | .float b _=>some (.flt b)
 | .ref a=>some (.ref a)
 | .type n=>some (.ty n)
 |_=>none
theorem RelV.abs{x:V}{u:bo}(r:RelV x u):DQ u=some x:=by
 cases x with
 |non=>cases r;rfl
 |bl _=>cases r;rfl
 |int _=>obtain⟨t,rfl⟩:=r;rfl
 |str _=>obtain⟨t,rfl⟩:=r;rfl
 |byt _=>obtain⟨t,rfl⟩:=r;rfl
 |flt _=>obtain⟨t,rfl⟩:=r;rfl
 |ref _=>cases r;rfl
 |ty _=>cases r;rfl
theorem RelV.inj{x y:V}{u:bo}(r:RelV x u)(q:RelV y u):x=y:=gv (r.abs.symm.trans q.abs)
theorem Vals.inj:∀{xs ys:List V}{us:List bo},Vals xs us->Vals ys us->xs=ys
 |_,_,_,.nil,.nil=>rfl
 |_,_,_,.cons r t,.cons r' t'=>by rw[r.inj r',Vals.inj t t']
section
variable {X:Cx}{zd:List (Addr×Obj)}{σ:St}{H:Hp}{s:bq}{a:Addr}{xs ys:List V}
theorem SqL.of{K:cw}(h:H a=some (.lst xs)):SqL K H a xs:=.inl (.inl h)
theorem SqT.of{K:cw}(h:H a=some (.tup xs)):SqT K H a xs:=.inl (.inl h)
theorem Inv.list(I:Inv X zd σ H s)(h:SqL X.K H a xs):∃y:List bo,Vals xs y/\PlainL s.heap a y.toArray/\xs.length<=fh:=by
 rcases h with h|⟨o,y,n,hk,hc,hd,hs,hz,r⟩
 ·obtain⟨z,y,n,r,e⟩:=h.ok I.hok;exact⟨y,r,⟨_,n,e,rfl,rfl,rfl⟩,z⟩
 ·refine⟨y.toList,r,⟨o,n,I.kIn a o hk,hc,hd,by simpa using hs⟩,?_⟩;have e:=r.length;simp only[nj]at e;omega
theorem Inv.tuple(I:Inv X zd σ H s)(h:SqT X.K H a xs):∃y:List bo,Vals xs y/\IsTup s.heap a y.toArray/\xs.length<=fh:=by
 rcases h with h|⟨o,y,n,hk,hc,hs,hz,r⟩
 ·obtain⟨z,y,r,p⟩:=h.ok I.hok;exact⟨y,r,p,z.1⟩
 ·refine⟨y.toList,r,⟨o,I.kIn a o hk,hc,n,by simpa using hs⟩,?_⟩;have e:=r.length;simp only[nj]at e;omega
theorem Inv.list_inj(I:Inv X zd σ H s)(h:SqL X.K H a xs)(h':SqL X.K H a ys):xs=ys:=by
 obtain⟨y,r,⟨o,n,e,_,_,d⟩,_⟩:=I.list h;obtain⟨its',r',⟨o',n',e',_,_,d'⟩,_⟩:=I.list h';rw[e]at e';cases e';rw[d]at d';injection d' with d1 _
 have:y=its':=by simpa using congrArg Array.toList d1
 subst this;exact r.inj r'
theorem Inv.tuple_inj(I:Inv X zd σ H s)(h:SqT X.K H a xs)(h':SqT X.K H a ys):xs=ys:=by
 obtain⟨y,r,⟨o,e,_,n,d⟩,_⟩:=I.tuple h;obtain⟨its',r',⟨o',e',_,n',d'⟩,_⟩:=I.tuple h';rw[e]at e';cases e';rw[d]at d';injection d' with d1 _
 have:y=its':=by simpa using congrArg Array.toList d1
 subst this;exact r.inj r'
end
abbrev Cx.wish (X:Cx) (E:bo->bq->Prop):Cx:={ X with xe:=E }
abbrev Cx.nox (X:Cx):Cx:=X.wish fun _ _=>False
theorem Cx.Ok.wish{X:Cx}(ok:X.Ok)(E:bo->bq->Prop):(X.wish E).Ok:=
 ⟨ok.mod,ok.kind,ok.glob,ok.blt,ok.above,ok.inj,ok.has,ok.cab,ok.hd,ok.frames,ok.stk,ok.exf,ok.bs,ok.bsz,ok.noex,ok.exfs,ok.funs,ok.frf⟩
theorem Cx.Ok.unwish{X:Cx}{E:bo->bq->Prop}(ok:(X.wish E).Ok):X.Ok:=
 ⟨ok.mod,ok.kind,ok.glob,ok.blt,ok.above,ok.inj,ok.has,ok.cab,ok.hd,ok.frames,ok.stk,ok.exf,ok.bs,ok.bsz,ok.noex,ok.exfs,ok.funs,ok.frf⟩
section
variable {X:Cx}{zd:List (Addr×Obj)}{σ:St}{H:Hp}{s:bq}{E:bo->bq->Prop}
theorem Inv.wish(I:Inv X zd σ H s)(E:bo->bq->Prop):Inv (X.wish E) zd σ H s:=⟨I.ok.wish E,I.os,I.bare,I.base,I.loc,I.cell,I.free,I.freeC,I.pin,I.hok,I.len⟩
theorem Inv.unwish(I:Inv (X.wish E) zd σ H s):Inv X zd σ H s:=⟨I.ok.unwish,I.os,I.bare,I.base,I.loc,I.cell,I.free,I.freeC,I.pin,I.hok,I.len⟩
theorem SP.unwish{D:Ends}{f:Flow}{s':bq}(h:SP (X.wish E) zd D f s'):SP X zd D f s':=by
 cases f with
 |next=>obtain⟨σ',H',I,q⟩:=h;exact⟨σ',H',I.unwish,q⟩
 |brk=>obtain⟨σ',H',I,q⟩:=h;exact⟨σ',H',I.unwish,q⟩
 |cont=>obtain⟨σ',H',I,q⟩:=h;exact⟨σ',H',I.unwish,q⟩
 |ret u=>obtain⟨v,σ',H',I,r,q⟩:=h;exact⟨v,σ',H',I.unwish,r,q⟩
theorem PE.nox{e:Expr}{t:TE}(h:PE X.nox e t):PE X e t:=fun zd s σ H Q I hw=>
 kl (h zd s σ H Q (I.wish _) hw) (fun _ _ ⟨v,H',I',r,q⟩=>⟨v,H',I'.unwish,r,q⟩) fun _ _ z=>jn z
theorem PT.nox{e:Expr}{t:TT}(h:PT X.nox e t):PT X e t:=fun zd s σ H Q I hw=>
 kl (h zd s σ H Q (I.wish _) hw) (fun _ _ ⟨H',I',q⟩=>⟨H',I'.unwish,q⟩) fun _ _ z=>jn z
theorem PSs.nox{st:List Stmt}{t:TS}(h:PSs X.nox st t):PSs X st t:=fun zd s σ H D I hw=>
 kl (h zd s σ H D (I.wish _) hw) (fun _ _ q=>q.unwish) fun _ _ z=>jn z
end
section
variable {X:Cx}{st:Stmt}{rest:List Stmt}{t u:TS}{e:Expr}{te:TE}{pos:Pos}
def uF:TS:=fun D σ H=>D.nx σ H
def e9(t u:TS):TS:=fun D σ H=>t { D with nx:=u D } σ H
theorem zP:PSs X [] uF:=fun _ _ σ H _ I h=>qt ⟨σ,H,I,h⟩
theorem zf(h1:PS X st t)(h2:PSs X rest u):PSs X (st::rest) (e9 t u):=by
 intro zd s σ H D I h;refine rq (thn (h1 zd s σ H { D with nx:=u D } I h) fun f s1 q=>?_);cases f with
 |next=>
  obtain⟨σ',H',I',q⟩:=q;exact h2 zd s1 σ' H' D I' q
 |ret v=>exact q
 |brk=>exact q
 |cont=>exact q
theorem zl(h1:PS X st t):PSs X [st] t:=by
 intro zd s σ H D I h;refine rq (thn (h1 zd s σ H D I h) fun f s1 q=>?_);cases f with
 |next=>exact qt q
 |ret v=>exact q
 |brk=>exact q
 |cont=>exact q
theorem Inv.quiet{zd:List (Addr×Obj)}{σ:St}{H:Hp}{s:bq}(I:Inv X zd σ H s):interactive X.env=false:=by simp[interactive,I.ok.kind]
def Ao(te:TE):TS:=fun D σ H=>te σ H fun _ H1=>D.nx σ H1
theorem jO(he:PE X e te)(hs:swapsWith e none pos.line X.env=pure false:=by rfl):PS X (.Expr e pos) (Ao te):=by
 intro zd s σ H D I h;exact wpAny_Expr_any (thn (he zd s σ H _ I h) fun v s1 ⟨x,H1,I1,r1,q1⟩=>⟨σ,H1,I1,q1⟩) I.quiet hs
def qM(te:TE):TS:=fun D σ H=>te σ H D.rt
theorem zv(he:PE X e te):PS X (.Return (some e) pos) (qM te):=by
 intro zd s σ H D I h;exact wpAny_Return_some (thn (he zd s σ H _ I h) fun v s1 ⟨x,H1,I1,r1,q1⟩=>⟨x,σ,H1,I1,r1,q1⟩)
def iZ(c:TT)(t u:TS):TS:=fun D σ H=>c σ H fun b H1=>if b=true then t D σ H1 else u D σ H1
theorem aS{c:Expr}{a b:List Stmt}{tc:TT}(hc:PT X c tc)(ha:PSs X a t)(hb:PSs X b u):PS X (.If c a b pos) (iZ tc t u):=by
 intro zd s σ H D I h;refine wpAny_If (thn (hc zd s σ H _ I h) fun d s1 ⟨H1,I1,q1⟩=>?_);cases d with
 |true=>exact ha zd s1 σ H1 D I1 q1
 |false=>exact hb zd s1 σ H1 D I1 q1
def A1:TS:=fun _ _ _=>False
theorem Ci:PS X st A1:=fun _ _ _ _ _ _ h=>h.elim
end
abbrev TG:=V->St->Hp->(St->Hp->Prop)->Prop
abbrev TGs:=List V->St->Hp->(St->Hp->Prop)->Prop
def PG(X:Cx)(y:Expr)(t:TG):Prop:=
 ∀(zd:List (Addr×Obj)) (s:bq) (σ:St) (H:Hp) (v:V) (u:bo) (Q:St->Hp->Prop),Inv X zd σ H s->RelV v u->t v σ H Q ->
  cv (model X.prog X.w) X.A (assign y X.env u) (fun _ s'=>∃ σ' H',Inv X zd σ' H' s'/\Q σ' H') X.xe s
def PGs(X:Cx)(ts:List Expr)(t:TGs):Prop:=
 ∀(zd:List (Addr×Obj)) (s:bq) (σ:St) (H:Hp) (vs:List V) (us:List bo) (Q:St->Hp->Prop),Inv X zd σ H s->Vals vs us->t vs σ H Q ->
  cv (model X.prog X.w) X.A (assignInOrder ((qc ts X.env).map (·.2)) us) (fun _ s'=>∃ σ' H',Inv X zd σ' H' s'/\Q σ' H') X.xe s
abbrev TSet:=V->V->V->Hp->(Hp->Prop)->Prop
def PSet(X:Cx)(t:TSet):Prop:=
 ∀(zd:List (Addr×Obj)) (s:bq) (σ:St) (H:Hp) (o i v:V) (ov iv u:bo) (Q:Hp->Prop),Inv X zd σ H s->RelV o ov->RelV i iv->RelV v u->t o i v H Q ->
  cv (model X.prog X.w) X.A (setItem ov iv u) (fun _ s'=>∃H',Inv X zd σ H' s'/\Q H') X.xe s
section
variable {X:Cx}{pos:Pos}
def jP(i:Nat):TG:=fun v σ H Q=>Q (σ.set i (some v)) H
theorem zr{i:Nat}{x:Str}(hN:X.N.Nodup)(hi:X.N[i]?=some x)(hx:Loc X.env.scope x)(hf:X.fn x=true\/X.env.scope.names.lookup x=some .local:=by first|exact .inl rfl|exact .inr rfl|assumption):PG X (.Name x pos) (jP i):=by
 intro zd s σ H v u Q I r h;exact wpAny_assign_Name (pX I hN hi hx r (fun s' I'=>⟨_,H,I',h⟩) hf)
def vI:TGs:=fun vs σ H Q=>vs=[]/\Q σ H
def BE(t:TG)(u:TGs):TGs:=fun vs σ H Q=>∃v r,vs=v::r/\t v σ H fun σ' H'=>u r σ' H' Q
theorem dD:PGs X [] vI:=by
 intro zd s σ H vs us Q I r h;obtain⟨e,h⟩:=h;subst e;cases r;exact assignInOrder_nil ⟨σ,H,I,h⟩
theorem zD{e:Expr}{es:List Expr}{t:TG}{u:TGs}(h1:PG X e t)(h2:PGs X es u)
  (hs:(qc (e::es) X.env).map (·.2)=assign e X.env::(qc es X.env).map (·.2):=by rfl):PGs X (e::es) (BE t u):=by
 intro zd s σ H vs us Q I r h;obtain⟨v,vr,e1,h⟩:=h;subst e1;cases r with
 |cons r rr=>
  rw[hs];refine assignInOrder_cons (thn (h1 zd s σ H _ _ _ I r h) fun _ s1 ⟨σ1,H1,I1,q1⟩=>?_);exact h2 zd s1 σ1 H1 _ _ Q I1 rr q1
def CW(K:cw)(n:Nat)(t:TGs):TG:=fun v σ H Q=>∃a xs,v=.ref a/\SqT K H a xs/\xs.length=n/\t xs σ H Q
theorem dY{es:List Expr}{k:Nat}{t:TGs}{n:Nat}(hc:X.calm=true)(h:PGs X es t)
  (hn:(qc es X.env).length=n:=by rfl) (hst:(qc es X.env).findIdx? (·.1)=none:=by rfl):PG X (.Tuple es k pos) (CW X.K n t):=by
 intro zd s σ H v u Q I r hw;obtain⟨a,xs,e1,hq,hl,hw⟩:=hw;subst e1;cases r;obtain⟨y,rv,ht,hz⟩:=I.tuple hq;refine assign_Tuple_tuple (I.ok.hd hc) ht (by simp[hn,<- hl,rv.length]) hst fun h' hx=>?_;have I1:Inv X zd σ H { s with heap:=h' }:=I.kept (t':=s.toks) fun b o e=>hx b o (ic (fw e)) e;exact h zd _ σ H xs _ Q I1 (by simpa using rv) hw
def Br(to ti:TE)(t:TSet):TG:=fun v σ H Q=>to σ H fun o H1=>ti σ H1 fun i H2=>t o i v H2 fun H3=>Q σ H3
theorem BA{o i:Expr}{to ti:TE}{t:TSet}(ho:PE X o to)(hi:PE X i ti)(hs:PSet X t)
  (ha:∀v,assign (.Subscript o i pos) X.env v=(do
   let ov <- holding [v] (eval o X.env)
   let iv <- holding [v,ov] (eval i X.env)
   standAt pos
   holding [v,ov,iv] (setItem ov iv v)
   release [v,ov,iv] []):=by intro _;rfl):PG X (.Subscript o i pos) (Br to ti t):=by
 intro zd s σ H v u Q I r h;rw[ha];refine bp (ie (thn (ho zd s σ H _ I h) fun ov s1 ⟨x,H1,I1,r1,q1⟩=>?_));refine bp (ie (thn (hi zd s1 σ H1 _ I1 q1) fun iv s2 ⟨y,H2,I2,r2,q2⟩=>?_));refine bp (wpAny_standAt (bp (ie (thn (hs zd s2 σ H2 x y v ov iv u _ I2 r1 r2 r q2) fun _ s3 ⟨H3,I3,q3⟩=>?_))));exact wpAny_release ⟨σ,H3,I3,q3⟩
def j6(te:TE)(g:TG):TS:=fun D σ H=>te σ H fun x H1=>g x σ H1 D.nx
theorem kO{tg e:Expr}{te:TE}{g:TG}(he:PE X e te)(hg:PG X tg g)(hs:swapsWithSole [tg] e pos.line X.env=pure false:=by rfl)(hw:swappedStores [tg] e X.env=pure none:=by rfl)
  (h1:(qc [tg] X.env).map (·.2)=[assign tg X.env]:=by rfl):PS X (.Assign [tg] e pos) (j6 te g):=by
 intro zd s σ H D I h;refine wpAny_Assign_stores (thn (he zd s σ H _ I h) fun v s1 ⟨x,H1,I1,r1,q1⟩=>?_) hs hw;rw[h1];exact thn (hg zd s1 σ H1 x v _ I1 r1 q1) fun _ s2 q=>q
theorem zJ{i:Nat}{x:Str}{e:Expr}{te:TE}{pos':Pos}(hN:X.N.Nodup)(hi:X.N[i]?=some x)(hx:Loc X.env.scope x)(he:PE X e te)(hs:swapsWith e (some (.Name x pos')) pos.line X.env=pure false:=by rfl)(hf:X.fn x=true\/X.env.scope.names.lookup x=some .local:=by first|exact .inl rfl|exact .inr rfl|assumption):
  PS X (.Assign [.Name x pos'] e pos) (j6 te (jP i)):=by
 intro zd s σ H D I h;refine wpAny_Assign_Name (thn (he zd s σ H _ I h) fun v s1 ⟨y,H1,I1,r1,q1⟩=>?_) hs;exact pX I1 hN hi hx r1 (fun s2 I2=>⟨_,H1,I2,q1⟩) hf
end
structure It where
 go:Nat->Hp->Prop
 yld:Nat->Hp->V->Hp->Prop
 stop:Nat->Hp->Prop
def FpOk(X:Cx)(zd:List (Addr×Obj))(H:Hp)(b:Addr):Prop:=
 H b=none/\b≠X.env.locals/\b∉X.fs/\(b∈X.ex\/X.s₀.heap.objs.size<=b)/\(∀x c,X.env.cells.lookup x=some c->c≠b)/\∀p∈X.pn++zd,p.1≠b
theorem Inv.fpOk{X:Cx}{zd:List (Addr×Obj)}{σ:St}{H H':Hp}{s:bq}{b:Addr}(I:Inv X zd σ H s)(hb:s.heap.objs.size<=b)(hn:H' b=none):FpOk X zd H' b:=by
 refine⟨hn,ne_of_gt (ix I.lt hb),I.nofs hb,.inr (lu I.sz hb),fun x c e z=>?_,fun p hp z=>?_⟩
 ·obtain⟨v,q⟩:=I.cell x c e;exact absurd (ix q.lt (by rw[z];exact hb)) (nz _)
 ·exact absurd (ix (fw (I.pin p hp).1) (by rw[z];exact hb)) (nz _)
structure Turn(P:fq)(w:gw)(K:cw)(tg:Expr)(J:It)(fp:List Addr)(it:Addr)(tn:Nat->Heap->Prop):Prop where
 mem:it∈fp
 obj:∀i h,tn i h->∀b∈fp,∃o,h.get? b=some o/\∀v,o.data≠.cell v
 keep:∀i h h',tn i h->(∀b∈fp,∀o,h.get? b=some o->h'.get? b=some o)->tn i h'
 item:∀(X:Cx),X.prog=P->X.w=w->X.K=K->X.calm=true->∀(i:Nat) (zd:List (Addr×Obj)) (s:bq) (σ:St) (H:Hp) (E:bo->bq->Prop),Inv X zd σ H s->(∀b∈fp,FpOk X zd H b)->tn i s.heap->J.go i H ->
  cv (model P w) X.A (uc (.ref it)) (fun r s1=>∃u,r=some u /\
   cv (model P w) X.A (letOwnedTupleGo tg (.ref it) u) (fun _ s2=>∃x H',Inv X zd σ H' s2/\RelV x u/\J.yld i H x H'/\tn (i+1) s2.heap/\∀b∈fp,H' b=none) E s1) E s
 done:∀(X:Cx),X.prog=P->X.w=w->X.K=K->X.calm=true->∀(i:Nat) (zd:List (Addr×Obj)) (s:bq) (σ:St) (H:Hp) (E:bo->bq->Prop),Inv X zd σ H s->(∀b∈fp,FpOk X zd H b)->tn i s.heap->J.stop i H ->
  cv (model P w) X.A (uc (.ref it)) (fun r s1=>r=none/\Inv X zd σ H s1) E s
 self:∀(A:gh) (i:Nat) (s:bq) (Q:bo->bq->Prop) (E:bo->bq->Prop),tn i s.heap->Q (.ref it) s->cv (model P w) A (pyIter (.ref it)) Q E s
abbrev TI:=St->Hp->(It->Hp->Prop)->Prop
def PIE(X:Cx)(zd:List (Addr×Obj))(σ:St)(tg:Expr)(R:It->Hp->Prop)(y:bo)(s2:bq):Prop:=
 ∃(it:Addr) (fp:List Addr) (tn:Nat->Heap->Prop) (J:It) (H':Hp),y=.ref it/\Inv X zd σ H' s2/\Turn X.prog X.w X.K tg J fp it tn/\tn 0 s2.heap/\(∀b∈fp,FpOk X zd H' b)/\R J H'
def PI(X:Cx)(tg iter:Expr)(wi:TI):Prop:=
 ∀(zd:List (Addr×Obj)) (s:bq) (σ:St) (H:Hp) (R:It->Hp->Prop),Inv X zd σ H s->wi σ H R ->
  cv (model X.prog X.w) X.A (eval iter X.env) (fun v s1=>cv (model X.prog X.w) X.A (pyIter v) (PIE X zd σ tg R) X.xe s1) X.xe s
theorem lT{M:Model}{A:gh}{E:bo->bq->Prop}{s:bq}{tg:Expr}{it:Addr}{u:bo}{o:Obj}{n:String}{vs:Array bo}{Q:Unit->bq->Prop}(ho:s.heap.get? it=some o)(hc:o.cls=.type n)(hd:o.data=.fields vs)
    (hn:["enumerate","zip","dict_itemiterator","dict_reverseitemiterator","odict_iterator","itertools.zip_longest","itertools.pairwise"].contains n=false) (hQ:Q () s):cv M A (letOwnedTupleGo tg (.ref it) u) Q E s:=by
  unfold letOwnedTupleGo;cases tg<;>first
    |exact cr hQ
    | (cases u<;>first
        |exact cr hQ
        | (refine bp (wpAny_load ho ?_)
           rw[hc,hd];show cv M A (if (["enumerate","zip","dict_itemiterator","dict_reverseitemiterator","odict_iterator","itertools.zip_longest","itertools.pairwise"].contains n&&vs[0]?==some (qj _))=true then _ else _) Q E s;rw[cn (by intro h;rw[hn,Bool.false_and]at h;cases h)];exact cr hQ))
def Itl(K:cw)(a:Addr):It:=
 ⟨fun i H=>∃xs x,SqL K H a xs/\xs[i]?=some x,fun i H x H'=>H'=H/\∀xs,SqL K H a xs->xs[i]?=some x,fun i H=>∃xs,SqL K H a xs/\xs.length<=i⟩
def Itt(K:cw)(a:Addr):It:=
 ⟨fun i H=>∃xs x,SqT K H a xs/\xs[i]?=some x,fun i H x H'=>H'=H/\∀xs,SqT K H a xs->xs[i]?=some x,fun i H=>∃xs,SqT K H a xs/\xs.length<=i⟩
def Itr(lo:Int)(n:Nat):It:=⟨fun i _=>i<n,fun i H x H'=>H'=H/\x=.int (lo+i),fun i _=>n<=i⟩
theorem x8{P:fq}{w:gw}{K:cw}{tg:Expr}(a it:Addr):Turn P w K tg (Itl K a) [it] it (fun i h=>h.IsListIter it a i) where
 mem:=by simp
 obj:=fun i h st b hb=>by
  have e:b=it:=by simpa using hb
  subst e;obtain⟨o,e,c,d⟩:=st;exact⟨o,e,fun v z=>by rw[d]at z;cases z⟩
 keep:=fun i h h' st k=>st.at fun o e=>k it yv o e
 item:=by
  intro X hP hw hK hc i zd s σ H E I hf st hg;subst hP hw hK;obtain⟨xs,x,hq,hx⟩:=hg;obtain⟨y,rv,p,hz⟩:=I.list hq;obtain⟨u,hu,ru⟩:=rv.get hx;obtain⟨f0,f1,f2,f3,f4,f5⟩:=hf it yv;refine wpAny_pyNext_list_item st p.isList (x:=u) (by simpa using hu) fun h' st' sb=>?_;have I1:Inv X zd σ H { s with heap:=h' }:=I.turned (t':=s.toks) (fun b o hb e=>(sb.2 b hb).trans e) f0 f1 f3 f4 f5;obtain⟨o,e,c,d⟩:=id st';exact⟨u,rfl,lT (s:={ s with heap:=h' }) e c d dz ⟨x,H,I1,ru,⟨rfl,fun ys hy=>by rw[I.list_inj hy hq];exact hx⟩,st',fun b hb=>(hf b hb).1⟩⟩
 done:=by
  intro X hP hw hK hc i zd s σ H E I hf st hg;subst hP hw hK;obtain⟨xs,hq,hx⟩:=hg;obtain⟨y,rv,p,hz⟩:=I.list hq;obtain⟨f0,f1,f2,f3,f4,f5⟩:=hf it yv;have hl:=rv.length;exact wpAny_pyNext_list_end (I.ok.hd hc) st p.isList (by simp;omega) fun h' eb=>⟨rfl,I.turned (t':=s.toks) (fun b o hb e=>eb b o hb e) f0 f1 f3 f4 f5⟩
 self:=fun _ _ _ _ _ st h=>wpAny_pyIter_listiter st h
theorem GU{P:fq}{w:gw}{K:cw}{tg:Expr}(a it:Addr):Turn P w K tg (Itt K a) [it] it (fun i h=>h.IsTupleIter it a i) where
 mem:=by simp
 obj:=fun i h st b hb=>by
  have e:b=it:=by simpa using hb
  subst e;obtain⟨o,e,c,d⟩:=st;exact⟨o,e,fun v z=>by rw[d]at z;cases z⟩
 keep:=fun i h h' st k=>st.at fun o e=>k it yv o e
 item:=by
  intro X hP hw hK hc i zd s σ H E I hf st hg;subst hP hw hK;obtain⟨xs,x,hq,hx⟩:=hg;obtain⟨y,rv,p,hz⟩:=I.tuple hq;obtain⟨u,hu,ru⟩:=rv.get hx;obtain⟨f0,f1,f2,f3,f4,f5⟩:=hf it yv;refine wpAny_pyNext_tuple_item st (show s.heap.IsTuple a y.toArray from p) (x:=u) (by simpa using hu) fun h' st' sb=>?_;have I1:Inv X zd σ H { s with heap:=h' }:=I.turned (t':=s.toks) (fun b o hb e=>(sb.2 b hb).trans e) f0 f1 f3 f4 f5;obtain⟨o,e,c,d⟩:=id st';exact⟨u,rfl,lT (s:={ s with heap:=h' }) e c d dz ⟨x,H,I1,ru,⟨rfl,fun ys hy=>by rw[I.tuple_inj hy hq];exact hx⟩,st',fun b hb=>(hf b hb).1⟩⟩
 done:=by
  intro X hP hw hK hc i zd s σ H E I hf st hg;subst hP hw hK;obtain⟨xs,hq,hx⟩:=hg;obtain⟨y,rv,p,hz⟩:=I.tuple hq;obtain⟨f0,f1,f2,f3,f4,f5⟩:=hf it yv;have hl:=rv.length;exact wpAny_pyNext_tuple_end (I.ok.hd hc) st (show s.heap.IsTuple a y.toArray from p) (by simp;omega) fun h' eb=>⟨rfl,I.turned (t':=s.toks) (fun b o hb e=>eb b o hb e) f0 f1 f3 f4 f5⟩
 self:=fun _ _ _ _ _ st h=>wpAny_pyIter_tupleiter st h
theorem C1{P:fq}{w:gw}{K:cw}{tg:Expr}(it:Addr)(lo:Int)(n:Nat):Turn P w K tg (Itr lo n) [it] it (fun i h=>IsRangeIter h it (lo+(i:Nat)*1) ((n:Int)-(i:Nat)) 1) where
 mem:=by simp
 obj:=fun i h st b hb=>by
  have e:b=it:=by simpa using hb
  subst e;exact⟨_,st,fun v z=>by
   have z':Data.fields _=Data.cell v:=z;cases z'⟩
 keep:=fun i h h' st k=>k it yv _ st
 item:=by
  intro X hP hw hK hc i zd s σ H E I hf st hg;subst hP hw hK;obtain⟨f0,f1,f2,f3,f4,f5⟩:=hf it yv;have W:=Walks.range (prog:=X.prog) (w:=X.w) (I.ok.hd hc) it lo 1 n;refine W.item i s _ _ hg st fun v h' tk hv st' kk=>?_;obtain⟨t,rfl⟩:=hv;have I1:Inv X zd σ H { s with heap:=h',toks:=tk }:=I.turned (fun b o hb e=>kk b o (by simpa using hb) e) f0 f1 f3 f4 f5;refine⟨_,rfl,lT (s:={ s with heap:=h',toks:=tk }) (n:="range_iterator") st' rfl rfl dz ⟨.int (lo+i),H,I1,⟨t,?_⟩,⟨rfl,rfl⟩,st',fun b hb=>(hf b hb).1⟩⟩;rw[Int.mul_one]
 done:=by
  intro X hP hw hK hc i zd s σ H E I hf st hg;subst hP hw hK;obtain⟨f0,f1,f2,f3,f4,f5⟩:=hf it yv;exact wpAny_pyNext_range_end (I.ok.hd hc) st (by have:n<=i:=hg;omega) fun h' eb=>⟨rfl,I.turned (t':=s.toks) (fun b o hb e=>eb b o hb e) f0 f1 f3 f4 f5⟩
 self:=fun _ _ _ _ _ st h=>wpAny_pyIter_rangeiter st h
end
section
section
variable {X:Cx}{tg:Expr}
def rN(K:cw)(tl:TE):TI:=fun σ H R=>tl σ H fun x H1=>∃a,x=.ref a/\(∃xs,SqL K H1 a xs)/\R (Itl K a) H1
theorem D5{l:Expr}{tl:TE}(hl:PE X l tl):PI X tg l (rN X.K tl):=by
 intro zd s σ H R I h;refine thn (hl zd s σ H _ I h) fun v s1 ⟨x,H1,I1,r1,q1⟩=>?_;obtain⟨a,e,⟨xs,hq⟩,q⟩:=q1;subst e;cases r1;obtain⟨y,rv,p,hz⟩:=I1.list hq;refine ju p.isList ?_;refine⟨s1.heap.objs.size,[s1.heap.objs.size],_,_,H1,rfl,I1.kept (t':=s1.toks) fun b o e=>bx _ e,x8 a _,⟨_,ff _ rfl,rfl,rfl⟩,fun b hb=>?_,q⟩;have e:b=s1.heap.objs.size:=by simpa using hb
 subst e;exact I1.fpOk (dw _) (I1.hok.fresh (dw _))
def qJ(wi:TI)(g:TG)(tb:TS):TS:=fun D σ H=>wi σ H fun J H1=>∃W:Nat->Nat->St->Hp->Prop,(∃m,W 0 m σ H1)/\∀i m σ H,W i m σ H ->
 (J.stop i H/\D.nx σ H)\/(J.go i H/\∃N:St->Hp->Prop,(∀ σ' H',N σ' H'->∃m',m'<m/\W (i+1) m' σ' H')/\∀x H',J.yld i H x H'->g x σ H' fun σ2 H2=>tb { D with nx:=N,ct:=N,bk:=D.nx } σ2 H2)
def nO(fp:List Addr)(h:Heap):List (Addr×Obj):=fp.filterMap fun b=>(h.get? b).map fun o=>(b,o)
theorem qZ{fp:List Addr}{h:Heap}{b:Addr}{o:Obj}(hb:b∈fp)(e:h.get? b=some o):(b,o)∈nO fp h:=List.mem_filterMap.mpr ⟨b,hb,by rw[e];rfl⟩
theorem Eh{fp:List Addr}{h:Heap}{p:Addr×Obj}(hp:p∈nO fp h):p.1∈fp/\h.get? p.1=some p.2:=by
 obtain⟨b,hb,e⟩:=List.mem_filterMap.mp hp;cases q:h.get? b with
 |none=>rw[q]at e;cases e
 |some o=>
  rw[q]at e;have e':(b,o)=p:=gv e;subst e';exact⟨hb,q⟩
theorem Inv.pinned{zd:List (Addr×Obj)}{σ:St}{H:Hp}{s:bq}{fp:List Addr}(I:Inv X zd σ H s)(hf:∀b∈fp,FpOk X zd H b)(ho:∀b∈fp,∃o,s.heap.get? b=some o/\∀v,o.data≠.cell v):Inv X (zd++nO fp s.heap) σ H s:=
 I.pins_of fun p hp=>(mem_append.mp hp).elim (fun z=>I.pin p (gq _ z)) fun z=>by
  obtain⟨hb,e⟩:=Eh z;obtain⟨f0,f1,f2,_⟩:=hf p.1 hb;obtain⟨o,e',d⟩:=ho p.1 hb;rw[e]at e';cases e';exact⟨e,f0,f1,f2,d⟩
theorem Inv.unpinned{zd pl:List (Addr×Obj)}{σ:St}{H:Hp}{s:bq}(I:Inv X (zd++pl) σ H s):Inv X zd σ H s:=I.pins_of fun p hp=>I.pin p (gq _ (jo _ hp))
theorem dM{iter:Expr}{body:List Stmt}{wi:TI}{g:TG}{tb:TS}{pos:Pos}(hp:PassesOwn (model X.prog X.w) X.A X.env X.xe)(hc:X.calm=true)(hi:PI X tg iter wi)(hg:PG X tg g)(hb:PSs X body tb)
  (hs:∀x,foldedSetIterable iter X.env x=pure x:=by intro _;rfl):PS X (.For tg iter body [] pos) (qJ wi g tb):=by
 intro zd s σ H D I h;refine wpAny_For (thn (hi zd s σ H _ I h) fun v s1 h1=>thn h1 fun aj s2 h2=>?_) hs;obtain⟨it,fp,tn,J,H2,e,I2,T,ai,f2,W,⟨m0,w0⟩,af⟩:=h2;subst e
 have aa:∀{H':Hp},(∀b∈fp,H' b=none)->∀b∈fp,FpOk X zd H' b:=fun hn b hb=>⟨hn b hb,(f2 b hb).2⟩;refine codeAny_forLoop_any (fun n s'=>∃i σ' H',Inv X zd σ' H' s'/\tn i s'.heap/\(∀b∈fp,H' b=none)/\W i n σ' H') ?_ m0 ⟨0,σ,H2,I2,ai,fun b hb=>(f2 b hb).1,w0⟩;rintro n s3 ⟨i,σ3,H3,I3,ae,ag,w3⟩;rcases af i n σ3 H3 w3 with ⟨stop,qn⟩|⟨go,N,hN,step⟩
 ·refine sw hp (thn (T.done X rfl rfl rfl hc i zd s3 σ3 H3 X.xe I3 (aa ag) ae stop) fun r s4 ⟨hr,I4⟩=>?_);subst hr;exact qt ⟨σ3,H3,I4,qn⟩
 ·refine sw hp (thn (T.item X rfl rfl rfl hc i zd s3 σ3 H3 X.xe I3 (aa ag) ae go) fun r s4 ⟨u,hr,h4⟩=>?_);subst hr;refine sw hp (thn h4 fun _ s5 ⟨x,H5,I5,r5,y5,ac,ah⟩=>?_);have I5':=I5.pinned (aa ah) (T.obj _ _ ac);refine sw hp (thn (hg _ s5 σ3 H5 x u _ I5' r5 (step x H5 y5)) fun _ s6 ⟨σ6,H6,I6,q6⟩=>?_);refine sw hp (thn (hb _ s6 σ6 H6 _ I6 q6) fun f s7 q7=>?_);have y:∀{σ7:St}{H7:Hp},Inv X (zd++nO fp s5.heap) σ7 H7 s7->N σ7 H7->∃m,m<n/\∃i σ' H',Inv X zd σ' H' s7/\tn i s7.heap/\(∀b∈fp,H' b=none)/\W i m σ' H':=fun {σ7 H7} I7 n7=>by
   obtain⟨m',hm,w7⟩:=hN σ7 H7 n7;refine⟨m',hm,i+1,σ7,H7,I7.unpinned,T.keep _ _ _ ac fun b hb o e=>(I7.pin (b,o) (gq _ (gq _ (qZ hb e)))).1,fun b hb=>?_,w7⟩;obtain⟨o,e,d⟩:=T.obj _ _ ac b hb;exact(I7.pin (b,o) (gq _ (gq _ (qZ hb e)))).2.1
  cases f with
  |next=>obtain⟨σ7,H7,I7,n7⟩:=q7;exact y I7 n7
  |cont=>obtain⟨σ7,H7,I7,n7⟩:=q7;exact y I7 n7
  |brk=>obtain⟨σ7,H7,I7,q7⟩:=q7;exact⟨σ7,H7,I7.unpinned,q7⟩
  |ret v=>obtain⟨x7,σ7,H7,I7,r7,q7⟩:=q7;exact⟨x7,σ7,H7,I7.unpinned,r7,q7⟩
end
theorem Hw{K:cw}{a:Addr}{xs:List V}{g:TG}{tb:TS}{D:Ends}{σ:St}{H:Hp}(Pv:Nat->St->Hp->Prop)(h0:Pv 0 σ H)(hl:∀i σ H,i<=xs.length->Pv i σ H->SqL K H a xs)
  (hs:∀i x σ H,xs[i]?=some x->Pv i σ H->g x σ H fun σ2 H2=>tb { D with nx:=Pv (i+1),ct:=Pv (i+1),bk:=D.nx } σ2 H2) (hd:∀ σ H,Pv xs.length σ H->D.nx σ H):
  ∃W:Nat->Nat->St->Hp->Prop,(∃m,W 0 m σ H)/\∀i m σ H,W i m σ H ->
   ((Itl K a).stop i H/\D.nx σ H)\/((Itl K a).go i H/\∃N:St->Hp->Prop,(∀ σ' H',N σ' H'->∃m',m'<m/\W (i+1) m' σ' H')/\∀x H',(Itl K a).yld i H x H'->g x σ H' fun σ2 H2=>tb { D with nx:=N,ct:=N,bk:=D.nx } σ2 H2):=by
 refine⟨fun i m σ H=>m=xs.length-i/\i<=xs.length/\Pv i σ H,⟨xs.length,yv,pf _,h0⟩,?_⟩;rintro i m σ H ⟨rfl,hi,p⟩;have q:=hl i σ H hi p;by_cases hlt:i<xs.length
 ·refine .inr ⟨⟨xs,xs[i],q,by simp[hlt]⟩,Pv (i+1),fun σ' H' p'=>⟨xs.length-(i+1),yw,rfl,hlt,p'⟩,fun x H' y=>?_⟩;obtain⟨e,y⟩:=y;subst e;exact hs i x σ _ (y xs q) p
 ·have e:i=xs.length:=yw
  subst e;exact .inl ⟨⟨xs,q,dw _⟩,hd σ H p⟩
end
section
abbrev R2:=V->V->Hp->VK->Prop
def OpR(X:Cx)(f:bo->bo->Sem bo)(r:R2):Prop:=
 ∀(zd:List (Addr×Obj)) (s:bq) (σ:St) (H:Hp) (x y:V) (v u:bo) (Q:VK),Inv X zd σ H s->RelV x v->RelV y u->r x y H Q ->
  cv (model X.prog X.w) X.A (f v u) (EP X zd σ Q) X.xe s
def UnR(X:Cx)(f:bo->Sem bo)(r:V->Hp->VK->Prop):Prop:=
 ∀(zd:List (Addr×Obj)) (s:bq) (σ:St) (H:Hp) (x:V) (v:bo) (Q:VK),Inv X zd σ H s->RelV x v->r x H Q ->
  cv (model X.prog X.w) X.A (f v) (EP X zd σ Q) X.xe s
def CallR(X:Cx)(f:bo)(r:List V->Hp->VK->Prop):Prop:=
 ∀(zd:List (Addr×Obj)) (s:bq) (σ:St) (H:Hp) (xs:List V) (us:List bo) (Q:VK),Inv X zd σ H s->Vals xs us->r xs H Q ->
  cv (model X.prog X.w) X.A (call f us) (EP X zd σ Q) X.xe s
def TruR(X:Cx)(r:V->Hp->(Bool->Hp->Prop)->Prop):Prop:=
 ∀(zd:List (Addr×Obj)) (s:bq) (σ:St) (H:Hp) (x:V) (v:bo) (Q:Bool->Hp->Prop),Inv X zd σ H s->RelV x v->r x H Q ->
  cv (model X.prog X.w) X.A (truthy v) (TP X zd σ Q) X.xe s
def tOp(r:R2)(ta tb:TE):TE:=fun σ H Q=>ta σ H fun x H1=>tb σ H1 fun y H2=>r x y H2 Q
def tUn(r:V->Hp->VK->Prop)(ta:TE):TE:=fun σ H Q=>ta σ H fun x H1=>r x H1 Q
def rI(C:Int->Int->Prop)(g:Int->Int->V):R2:=fun x y H Q=>∃i j,x=.int i/\y=.int j/\C i j/\Q (g i j) H
def rI0(g:Int->Int->V):R2:=fun x y H Q=>∃i j,x=.int i/\y=.int j/\Q (g i j) H
def rU(g:Int->V):V->Hp->VK->Prop:=fun x H Q=>∃i,x=.int i/\Q (g i) H
section
variable {X:Cx}{a b c:Expr}{ta tb tc:TE}{pos:Pos}
theorem t9(ha:PE X a ta)(hb:PE X b tb){zd:List (Addr×Obj)}{s:bq}{σ:St}{H:Hp}{R:V->V->Hp->Prop}(I:Inv X zd σ H s)
  (h:ta σ H fun x H1=>tb σ H1 fun y H2=>R x y H2) {Q:bo->bq->Prop}{f:bo->bo->Sem bo}
  (hf:∀v u s2 x y H2,Inv X zd σ H2 s2->RelV x v->RelV y u->R x y H2->cv (model X.prog X.w) X.A (f v u) Q X.xe s2):
  cv (model X.prog X.w) X.A (eval a X.env) (fun v s₁=>cv (model X.prog X.w) X.A (eval b X.env) (fun u s₂=>cv (model X.prog X.w) X.A (f v u) Q X.xe s₂) X.xe s₁) X.xe s:=by
 refine thn (ha zd s σ H _ I h) fun v s1 ⟨x,H1,I1,r1,q1⟩=>?_;refine thn (hb zd s1 σ H1 _ I1 q1) fun u s2 ⟨y,H2,I2,r2,q2⟩=>?_;exact hf v u s2 x y H2 I2 r1 r2 q2
theorem zE{op:Operator}{r:R2}(ho:OpR X (mq op) r)(ha:PE X a ta)(hb:PE X b tb):PE X (.BinOp a op b pos) (tOp r ta tb):=by
 intro zd s σ H Q I h;exact wpAny_BinOp (t9 ha hb I h fun v u s2 x y H2 I2 rx ry q=>ho zd s2 σ H2 x y v u Q I2 rx ry q)
theorem eW{op:UnaryOp}{r:V->Hp->VK->Prop}(ho:UnR X (unaryOp op) r)(ha:PE X a ta):PE X (.UnaryOp op a pos) (tUn r ta):=by
 intro zd s σ H Q I h;exact UnaryOp_ (thn (ha zd s σ H _ I h) fun v s1 ⟨x,H1,I1,r1,q1⟩=>ho zd s1 σ H1 x v Q I1 r1 q1)
theorem opI{f:bo->bo->Sem bo}{C:Int->Int->Prop}{g:Int->Int->Int}
  (rule:∀(i j:Int) (t u:Tok) (s:bq) (Q:bo->bq->Prop) (E:bo->bq->Prop),C i j->Q (.int (g i j) s.toks) { s with toks:=s.toks+1 }->cv (model X.prog X.w) X.A (f (.int i t) (.int j u)) Q E s):
  OpR X f (rI C fun i j=>.int (g i j)):=by
 intro zd s σ H x y v u Q I rx ry h;obtain⟨i,j,rfl,rfl,hc,q⟩:=h;obtain⟨t,rfl⟩:=rx;obtain⟨t',rfl⟩:=ry;exact rule i j t t' s _ _ hc ⟨.int (g i j),H,I.tok _,⟨_,rfl⟩,q⟩
theorem wZ{f:bo->bo->Sem bo}{g:Int->Int->Int}
  (rule:∀(i j:Int) (t u:Tok) (s:bq) (Q:bo->bq->Prop) (E:bo->bq->Prop),Q (.int (g i j) s.toks) { s with toks:=s.toks+1 }->cv (model X.prog X.w) X.A (f (.int i t) (.int j u)) Q E s):
  OpR X f (rI0 fun i j=>.int (g i j)):=by
 intro zd s σ H x y v u Q I rx ry h;obtain⟨i,j,rfl,rfl,q⟩:=h;obtain⟨t,rfl⟩:=rx;obtain⟨t',rfl⟩:=ry;exact rule i j t t' s _ _ ⟨.int (g i j),H,I.tok _,⟨_,rfl⟩,q⟩
theorem pU{f:bo->bo->Sem bo}{g:Int->Int->Bool}
  (rule:∀(i j:Int) (t u:Tok) (s:bq) (Q:bo->bq->Prop) (E:bo->bq->Prop),Q (.bool (g i j)) s->cv (model X.prog X.w) X.A (f (.int i t) (.int j u)) Q E s):
  OpR X f (rI0 fun i j=>.bl (g i j)):=by
 intro zd s σ H x y v u Q I rx ry h;obtain⟨i,j,rfl,rfl,q⟩:=h;obtain⟨t,rfl⟩:=rx;obtain⟨t',rfl⟩:=ry;exact rule i j t t' s _ _ ⟨.bl (g i j),H,I,rfl,q⟩
def CDivN(i j:Int):Prop:=j≠0/\j.natAbs<1073741824
def CPow(i j:Int):Prop:=0<=j/\j<=1000000/\i.natAbs<2 ^ 64
theorem HP:OpR X (mq .Add) (rI0 fun i j=>.int (i+j)):=wZ fun _ _ _ _ _ _ _ q=>add_int q
theorem gG:OpR X (mq .Sub) (rI0 fun i j=>.int (i-j)):=wZ fun _ _ _ _ _ _ _ q=>sub_int q
theorem DY:OpR X (mq .FloorDiv) (rI CDivN fun i j=>.int (i.fdiv j)):=opI fun _ _ _ _ _ _ _ hc q=>floordiv_int hc.1 q (.inl (PyProof.noPylong_small hc.2))
theorem kY:OpR X (mq .Mod) (rI (fun _ j=>0<j) fun i j=>.int (i % j)):=opI fun i j _ _ _ _ _ hc q=>by
 have h1:(0:Int)<j:=hc;exact mod_int' yw (by rw[Int.fmod_eq_emod_of_nonneg i yw];exact q)
theorem qO:OpR X (mq .Pow) (rI CPow fun i j=>.int (i ^ j.toNat)):=opI fun _ _ _ _ _ _ _ hc q=>pow_int_small hc.1 hc.2.1 hc.2.2 q
theorem unI{f:bo->Sem bo}{g:Int->Int}
  (rule:∀(i:Int) (t:Tok) (s:bq) (Q:bo->bq->Prop) (E:bo->bq->Prop),Q (.int (g i) s.toks) { s with toks:=s.toks+1 }->cv (model X.prog X.w) X.A (f (.int i t)) Q E s):
  UnR X f (rU fun i=>.int (g i)):=by
 intro zd s σ H x v Q I rx h;obtain⟨i,rfl,q⟩:=h;obtain⟨t,rfl⟩:=rx;exact rule i t s _ _ ⟨.int (g i),H,I.tok _,⟨_,rfl⟩,q⟩
theorem e8:UnR X (unaryOp .USub) (rU fun i=>.int (-i)):=unI fun _ _ _ _ _ q=>neg_int q
end
section
variable {X:Cx}{a b c:Expr}{ta tb tc:TE}{pos:Pos}
theorem AJ{zd:List (Addr×Obj)}{σ:St}{H:Hp}{s:bq}{Q:VK}{k k':Bool}(I:Inv X zd σ H s)(q:Q (.bl k) H)(e:k=k'):EP X zd σ Q (.bool k') s:=by
 subst e;exact⟨.bl k,H,I,rfl,q⟩
theorem qU:OpR X (kx .Lt) (rI0 fun i j=>.bl (decide (i<j))):=pU fun _ _ _ _ _ _ _ q=>lt_int q
theorem pR:OpR X (kx .LtE) (rI0 fun i j=>.bl (decide (i<=j))):=pU fun _ _ _ _ _ _ _ q=>le_int q
theorem HS:OpR X (kx .Gt) (rI0 fun i j=>.bl (decide (j<i))):=pU fun _ _ _ _ _ _ _ q=>gt_int q
theorem Av:OpR X (kx .GtE) (rI0 fun i j=>.bl (decide (j<=i))):=pU fun _ _ _ _ _ _ _ q=>ge_int q
theorem GW:OpR X (kx .Is) (fun x y H Q=>y=.non/\Q (.bl (decide (x=.non))) H):=by
 intro zd s σ H x y v u Q I rx ry h;obtain⟨rfl,q⟩:=h;cases ry;refine is_none_gen (AJ I q ?_);cases x<;>first
  | (cases rx;rfl)
  | (obtain⟨t,rfl⟩:=rx;rfl)
theorem EL:OpR X (kx .IsNot) (fun x y H Q=>y=.non/\Q (.bl (!decide (x=.non))) H):=by
 intro zd s σ H x y v u Q I rx ry h;obtain⟨rfl,q⟩:=h;cases ry;refine isnot_none_gen (AJ I q ?_);cases x<;>first
  | (cases rx;rfl)
  | (obtain⟨t,rfl⟩:=rx;rfl)
theorem OpR.or{f:bo->bo->Sem bo}{r r':R2}(h:OpR X f r)(h':OpR X f r'):OpR X f (fun x y H Q=>r x y H Q\/r' x y H Q):=by
 intro zd s σ H x y v u Q I rx ry q;rcases q with q|q
 ·exact h zd s σ H x y v u Q I rx ry q
 ·exact h' zd s σ H x y v u Q I rx ry q
theorem nomark(b:Expr){op:CmpOp}(h:op≠.In:=by decide)(h2:op≠.NotIn:=by decide):behindInMarks op b=false:=by
 have e1:(op==CmpOp.In)=false:=by cases op<;>first|rfl|exact absurd rfl h
 have e2:(op==CmpOp.NotIn)=false:=by cases op<;>first|rfl|exact absurd rfl h2
 cases b<;>simp[behindInMarks,e1,e2]
theorem hU{op:CmpOp}{r:R2}(ho:OpR X (kx op) r)(ha:PE X a ta)(hb:PE X b tb)(hm:behindInMarks op b=false):PE X (.Compare a [op] [b] pos) (tOp r ta tb):=by
 intro zd s σ H Q I h;exact wpAny_Compare1 (t9 ha hb I h fun v u s2 x y H2 I2 rx ry q=>ho zd s2 σ H2 x y v u Q I2 rx ry q) hm
def rL(t:TE):TT:=fun σ H Q=>t σ H fun x H'=>∃k,x=.bl k/\Q k H'
theorem bW{op:CmpOp}{r:R2}(ho:OpR X (kx op) r)(ha:PE X a ta)(hb:PE X b tb)(hm:behindInMarks op b=false):PT X (.Compare a [op] [b] pos) (rL (tOp r ta tb)):=by
 intro zd s σ H Q I h;refine wpAny_isTrue_Compare1 (thn (ha zd s σ H _ I h) fun v s1 ⟨x,H1,I1,r1,q1⟩=>thn (hb zd s1 σ H1 _ I1 q1) fun u s2 ⟨y,H2,I2,r2,q2⟩=>
  thn (ho zd s2 σ H2 x y v u _ I2 r1 r2 q2) fun c s3 ⟨z,H3,I3,r3,k,e,q3⟩=>?_) hm
 subst e;cases r3;exact lv ⟨H3,I3,q3⟩
def CO(r r':R2)(ta tb tc:TE):TE:=fun σ H Q=>ta σ H fun x H1=>tb σ H1 fun y H2=>r x y H2 fun z H3=>∃k,z=.bl k /\
 (if k=true then tc σ H3 fun w' H4=>r' y w' H4 Q else Q (.bl false) H3)
theorem uG{op aa:CmpOp}{r r':R2}(ho:OpR X (kx op) r)(ac:OpR X (kx aa) r')(ha:PE X a ta)(hb:PE X b tb)(hc:PE X c tc)
  (hm:lastMarks [op,aa] [b,c]=false:=by with_unfolding_all rfl):PE X (.Compare a [op,aa] [b,c] pos) (CO r r' ta tb tc):=by
 intro zd s σ H Q I h;refine Compare_chain (thn (ha zd s σ H _ I h) fun v s1 ⟨x,H1,I1,r1,q1⟩=>chain_link (thn (hb zd s1 σ H1 _ I1 q1) fun u s2 ⟨y,H2,I2,r2,q2⟩=>
  thn (ho zd s2 σ H2 x y v u _ I2 r1 r2 q2) fun d s3 ⟨z,H3,I3,r3,k,e,q3⟩=>?_)) hm
 subst e;cases r3;refine lv ?_;cases k with
 |false=>exact ite_ff ⟨.bl false,H3,I3,rfl,q3⟩
 |true=>exact ite_tt (chain_last (thn (hc zd s3 σ H3 _ I3 q3) fun w' s4 ⟨z',H4,I4,r4,q4⟩=>ac zd s4 σ H4 y z' u w' Q I4 r2 r4 q4))
def TruV(K:cw)(x:V)(H:Hp)(k:Bool):Prop:=
 match x with
 | .non=>k=false
 | .bl b=>k=b
 | .int i=>k=(i != 0)
 | .str y=>y.length<=fh/\k=((y.length:Int) != 0)
 | .byt y=>y.size<=fh/\k=((y.size:Int) != 0)
 | .ref p=>(∃xs,SqL K H p xs/\k=!xs.isEmpty)\/(∃xs,SqT K H p xs/\k=!xs.isEmpty)\/∃kvs,H p=some (.dK kvs)/\k=!kvs.isEmpty
 |_=>False
theorem DB{κ:Type}{y:List (κ×V)}{vs:List (κ×bo)}(r:KV y vs):(!vs.isEmpty)=!y.isEmpty:=by
 cases r<;>rfl
theorem Ag{xs:List V}{y:List bo}(r:Vals xs y):(!y.toArray.isEmpty)=!xs.isEmpty:=by
 cases r<;>simp
theorem line63:(fh:Nat)<2 ^ 63:=by rw[jy];decide
theorem Ht:TruR X (fun x H Q=>∃k,TruV X.K x H k/\Q k H):=by
 intro zd s σ H x v Q I rx h;obtain⟨k,e,q⟩:=h;have hl:=line63;have hs:fh=16777216:=jy;cases x with
 |non=>
  cases rx;have e':k=false:=e;subst e';exact truthy_none ⟨H,I,q⟩
 |bl b=>
  cases rx;have e':k=b:=e;subst e';exact lv ⟨H,I,q⟩
 |int i=>
  obtain⟨t,rfl⟩:=rx;have e':k=(i != 0):=e;subst e';exact PySem.P.truthy_int ⟨H,I,q⟩
 |str y=>
  obtain⟨t,rfl⟩:=rx;obtain⟨hy,e'⟩:y.length<=fh/\k=((y.length:Int) != 0):=e;subst e';exact PySem.P.truthy_str yw ⟨H,I.tok _,q⟩
 |byt y=>
  obtain⟨t,rfl⟩:=rx;obtain⟨hy,e'⟩:y.size<=fh/\k=((y.size:Int) != 0):=e;subst e';exact W.truthy_bytes yw ⟨H,I.tok _,q⟩
 |ref p=>
  cases rx;have e':(∃xs,SqL X.K H p xs/\k=!xs.isEmpty)\/(∃xs,SqT X.K H p xs/\k=!xs.isEmpty)\/∃kvs,H p=some (.dK kvs)/\k=!kvs.isEmpty:=e;rcases e' with ⟨xs,hx,e'⟩|⟨xs,hx,e'⟩|⟨kvs,hx,e'⟩
  ·subst e';obtain⟨ac,r,pl,hz⟩:=I.list hx;have aa:=r.length;exact wpAny_truthy_list pl.isList (by simp only[dy];omega) ⟨H,I.tok _,by rw[Ag r];exact q⟩
  ·subst e';obtain⟨ac,r,pl,hz⟩:=I.tuple hx;have aa:=r.length;exact truthy_tuple pl (by simp only[dy];omega) ⟨H,I.tok _,by rw[Ag r];exact q⟩
  ·subst e';obtain⟨hz,hS,vs,r,m⟩:kvs.length<=fh/\(p==sysModules)=false/\∃vs,KV kvs vs/\s.heap.DictOf (sP X.prog X.w) p vs:=I.hok p _ hx;have aa:kvs.length=vs.length:=Paired.length r;exact wpAny_truthy_dict hS m yw ⟨H,I.tok _,by rw[DB r];exact q⟩
 |_=>exact(show False from e).elim
theorem zQ(ha:PE X a ta)(he:∀whole,isTrue a X.env whole=(do let v <- whole;standAt a.pos;holding [v] (truthy v))):
  PT X a (fun σ H Q=>ta σ H fun x H'=>∃k,TruV X.K x H' k/\Q k H'):=by
 intro zd s σ H Q I h;exact isTrue_plain (thn (ha zd s σ H _ I h) fun v s1 ⟨x,H1,I1,r1,q1⟩=>Ht zd s1 σ H1 x v Q I1 r1 q1) (he _)
theorem Hl:OpR X (mq .Add) (fun x y H Q=>∃i j,x=.str i/\y=.str j/\i.length+j.length<=fh/\Q (.str (i++j)) H):=by
 intro zd s σ H x y v u Q I rx ry h;obtain⟨i,j,rfl,rfl,hz,q⟩:=h;obtain⟨t,rfl⟩:=rx;obtain⟨t',rfl⟩:=ry;exact add_str (fun t' tk=>⟨.str (i++j),H,I.tok _,⟨_,rfl⟩,q⟩) hz
theorem vals1{x:V}{us:List bo}(r:Vals [x] us):∃u,us=[u]/\RelV x u:=by
 cases r with
 |cons r1 r2=>cases r2;exact⟨_,rfl,r1⟩
theorem vals2{x y:V}{us:List bo}(r:Vals [x,y] us):∃u w',us=[u,w']/\RelV x u/\RelV y w':=by
 cases r with
 |cons r1 r2=>
  cases r2 with
  |cons r3 r4=>cases r4;exact⟨_,_,rfl,r1,r3⟩
theorem BM:CallR X (.builtin "abs") (fun xs H Q=>∃i,xs=[.int i]/\Q (.int (if i<0 then -i else i)) H):=by
 intro zd s σ H xs us Q I r h;obtain⟨i,rfl,q⟩:=h;obtain⟨u,rfl,t,rfl⟩:=vals1 r;exact call_abs_int fun u tk=>⟨.int (if i<0 then -i else i),H,I.tok _,⟨_,rfl⟩,q⟩
theorem Gk(hc:X.calm=true):CallR X (.builtin "max") (fun xs H Q=>∃i j,xs=[.int i,.int j]/\Q (.int (if j>i then j else i)) H):=by
 intro zd s σ H xs us Q I r h;obtain⟨i,j,rfl,q⟩:=h;obtain⟨u,w',rfl,⟨t,rfl⟩,⟨t',rfl⟩⟩:=vals2 r;refine max_two_ints (I.ok.hd hc) fun h' tk k=>⟨_,H,I.kept k,?_,q⟩;by_cases hj:j>i
 ·rw[cu hj,cu hj];exact⟨_,rfl⟩
 ·rw[cn hj,cn hj];exact⟨_,rfl⟩
theorem EV(hc:X.calm=true):CallR X (.builtin "min") (fun xs H Q=>∃i j,xs=[.int i,.int j]/\Q (.int (if j<i then j else i)) H):=by
 intro zd s σ H xs us Q I r h;obtain⟨i,j,rfl,q⟩:=h;obtain⟨u,w',rfl,⟨t,rfl⟩,⟨t',rfl⟩⟩:=vals2 r;refine min_two_ints (I.ok.hd hc) fun h' tk k=>⟨_,H,I.kept k,?_,q⟩;by_cases hj:j<i
 ·rw[cu hj,cu hj];exact⟨_,rfl⟩
 ·rw[cn hj,cn hj];exact⟨_,rfl⟩
theorem Ho:CallR X (.type "int") (fun xs H Q=>(∃i,xs=[.int i]/\Q (.int i) H)\/∃k,xs=[.bl k]/\Q (.int (if k then 1 else 0)) H):=by
 intro zd s σ H xs us Q I r h;rcases h with ⟨i,rfl,q⟩|⟨k,rfl,q⟩
 ·obtain⟨u,rfl,t,rfl⟩:=vals1 r;exact call_int_int ⟨.int i,H,I,⟨_,rfl⟩,q⟩
 ·obtain⟨u,rfl,r1⟩:=vals1 r;cases r1;exact call_int_bool ⟨.int (if k then 1 else 0),H,I.tok _,⟨_,rfl⟩,q⟩
end
end
section
structure ObjM(h:Heap)(x dx C:Addr)(mA:Str->Option bo):Prop where
 obj:h.get? x=some (W.instObj C dx)
 ns:h.Ns1 dx mA
 ne:dx≠x
theorem Cy{h:Heap}{dx:Addr}{mA:Str->Option bo}(n:h.Ns1 dx mA):∃od,h.get? dx=some od/\∀name,W.lookIn name od=some (mA name):=by
 obtain⟨o,es,ep,ho,hd,hk,_,hm⟩:=n;refine⟨o,ho,fun name=>?_⟩;have e:=hm name;unfold nsFind findBy at e;rw[<- Array.find?_toList]at e;unfold W.lookIn;rw[hd];dsimp only;split
 ·rename_i y q;rw[q]at e;exact congrArg some e
 ·rename_i q;rw[q]at e;have a:es.toList.any (·.refKey)=false:=by
   rw[List.any_eq_false];intro y hy;obtain⟨z,t,aa⟩:=hk y (Array.mem_toList_iff.mp hy);simp[DictEntry.refKey,aa]
  have a':¬ es.toList.any (·.refKey)=true:=by rw[a];exact jc
  rw[cn a'];exact congrArg some e
theorem ObjM.look{h:Heap}{x dx C:Addr}{mA:Str->Option bo}(I:ObjM h x dx C mA):∃od,W.InstAt h x (W.instObj C dx) C (some od)/\∀name,W.lookIn name od=some (mA name):=
 let ⟨od,ho,hl⟩:=Cy I.ns
 ⟨od,⟨I.obj,rfl,rfl,ho⟩,hl⟩
section
variable {P:fq}{w:gw}{H H':Hp}{h h':Heap}{a C dx:Addr}{fs fs':List (Str×V)}
theorem IT(hok:HOk P w H h)(e:H a=some (.ins C dx fs)):∃mA,ObjM h a dx C mA/\(∀f,RelO (fs.lookup f) (mA f))/\PySem.Within mA (fs.map (·.1))/\fs.length<=1000/\H dx=some (.own a):=by
 obtain⟨d,z,ne,ob,mA,n,r,q⟩:=(show ObjOk P w H h a (.ins C dx fs)from hok a _ e);exact⟨mA,⟨ob,n,ne⟩,r,q,z,d⟩
end
structure Cls(K:cw)(C:Addr):Prop where
 pg:W.plainGet K C Str.empty=true
 hd:W.hasDictIn K C=true
 po:W.plainOver K C=true
 sa:W.findIn K (.ref C) "__setattr__" = some (some (.builtin "object.__setattr__"))
theorem Cls.get{K:cw}{C:Addr}(c:Cls K C)(f:Str):W.plainGet K C f=true:=c.pg
section
variable {X:Cx}{zd:List (Addr×Obj)}{σ:St}{H:Hp}{s:bq}{A:gh}{E:bo->bq->Prop}{Q:bo->bq->Prop}{c:bo}{b:Bool}
inductive TyOf (K:cw) (H:Hp):V->bo->Prop where
 |non:TyOf K H .non (.type "NoneType")
 |bl (x:Bool):TyOf K H (.bl x) (.type "bool")
 |int (i:Int):TyOf K H (.int i) (.type "int")
 |str (x:Str):TyOf K H (.str x) (.type "str")
 |flt (x:UInt64):TyOf K H (.flt x) (.type "float")
 |lst {a:Addr}{xs:List V} (e:H a=some (.lst xs)):TyOf K H (.ref a) (.type "list")
 |frz {a:Addr}{o:Obj}{xs:List V} (e:H a=some (.frz o (.lst xs))):TyOf K H (.ref a) (.type "list")
 |tup {a:Addr}{xs:List V} (e:H a=some (.tup xs)):TyOf K H (.ref a) (.type "tuple")
 |dK {a:Addr}{kvs:List (Key×V)} (e:Rd H a (.dK kvs)):TyOf K H (.ref a) (.type "dict")
 |dT {a:Addr}{kvs:List (List Key×V)} (e:Rd H a (.dT kvs)):TyOf K H (.ref a) (.type "dict")
 |ins {a C dx:Addr}{fs:List (Str×V)} (e:H a=some (.ins C dx fs)) (cl:Cls K C) (ha:W.findIn K (.ref C) "__class__" = some (some (.builtin "object.__class__")))
   (hn:W.specialIn K (.builtin "object.__class__") "__get__" = some (some (.builtin "getset_descriptor.__get__"))) (htk:W.takesIn K (.builtin "object.__class__")=some true)
   (hm:W.mroIn K C (.type "object")=some true):TyOf K H (.ref a) (.ref C)
theorem FS{x:V}{u t:bo}(I:Inv X zd σ H s)(rx:RelV x u)(ty:TyOf X.K H x t)(e:W.kitOne X.K t c=some b)(h:∀tk,Q (.bool b) { s with toks:=tk }):
  cv (model X.prog X.w) A (call (.builtin "isinstance") [u,c]) Q E s:=by
 cases ty with
 |non=>cases (show u=ku from rx);exact qf W.kitx_none I.kIn True.intro e (fun z=>nomatch z) h
 |bl y=>cases (show u=rh y from rx);exact qf W.kitx_bool I.kIn True.intro e (fun z=>nomatch z) h
 |int i=>obtain⟨t,q⟩:=(show ∃t,u=tw i t from rx);cases q;exact qf W.kitx_int I.kIn True.intro e (fun z=>nomatch z) h
 |str y=>obtain⟨t,q⟩:=(show ∃t,u=Value.str y t from rx);cases q;exact qf W.kitx_str I.kIn True.intro e (fun z=>nomatch z) h
 |flt y=>obtain⟨t,q⟩:=(show ∃t,u=Value.float y t from rx);cases q;exact qf W.kitx_float I.kIn True.intro e (fun z=>nomatch z) h
 | @lst a xs ea=>
  cases (show u=fv a from rx);obtain⟨_,_,n,_,h1⟩:=(show ObjOk X.prog X.w H s.heap a (.lst xs)from I.hok a _ ea);exact qf W.kitx_list I.kIn ⟨_,h1,rfl⟩ e (fun z=>nomatch z) h
 | @frz a ob xs ea=>
  cases (show u=fv a from rx);obtain⟨_,_,_,n,_,h1⟩:=(show ObjOk X.prog X.w H s.heap a (.frz ob (.lst xs))from I.hok a _ ea);exact qf W.kitx_list I.kIn ⟨_,h1,rfl⟩ e (fun z=>nomatch z) h
 | @tup a xs ea=>
  cases (show u=fv a from rx);obtain⟨_,_,_,p⟩:=(show ObjOk X.prog X.w H s.heap a (.tup xs)from I.hok a _ ea);obtain⟨o,h1,h2,_⟩:=p;exact qf W.kitx_tuple I.kIn ⟨o,h1,h2⟩ e (fun z=>nomatch z) h
 | @dK a kvs ea=>
  cases (show u=fv a from rx);obtain⟨_,_,vs,_,p⟩:=(show ObjOk X.prog X.w H s.heap a (.dK kvs)from ea.ok I.hok);obtain⟨o,es,ep,h1,h2,_⟩:=p;exact qf W.kitx_dict I.kIn ⟨o,h1,h2.1⟩ e (fun z=>nomatch z) h
 | @dT a kvs ea=>
  cases (show u=fv a from rx);obtain⟨_,_,xs,_,o,es,ep,h1,h2,_⟩:=(show ObjOk X.prog X.w H s.heap a (.dT kvs)from ea.ok I.hok);exact qf W.kitx_dict I.kIn ⟨o,h1,h2.1⟩ e (fun z=>nomatch z) h
 | @ins a C dx fs ea cl ha hn htk hm=>
  cases (show u=fv a from rx);obtain⟨mA,O,_⟩:=IT I.hok ea;obtain⟨od,J,_⟩:=O.look;exact qf (W.kitx_own (cl.get _) cl.hd ha hn htk hm) I.kIn J e (fun z=>nomatch z) h
end
end
section
structure Room(k:Nat)(A:gh):Prop where
 hd:A.handled=none
 dp:A.depth+3*k+5<recursionLimit
 un:A.units+16*k+200<cLine
theorem Room.mono{j k:Nat}{A:gh}(r:Room k A)(h:j<=k):Room j A:=⟨r.hd,by have:=r.dp;omega,by have:=r.un;omega⟩
theorem Room.deeper{k:Nat}{A:gh}(r:Room (k+1) A)(env:Env):Room k (A.deeper env):=
 ⟨r.hd,by have:=r.dp;show A.depth+1+3*k+5<_;omega,by have:=r.un;show A.units+3+16*k+200<_;omega⟩
theorem Room.depth{k:Nat}{A:gh}(r:Room k A):A.depth<recursionLimit:=by have:=r.dp;omega
theorem Room.units{k:Nat}{A:gh}(r:Room k A):A.units+64<cLine:=by have:=r.un;omega
def jU:TA:=fun _ H Q=>Q [] H
def f7(ta:TE)(tr:TA):TA:=fun σ H Q=>ta σ H fun x H1=>tr σ H1 fun xs H2=>Q (x::xs) H2
section
variable {X:Cx}{e:Expr}{es:List Expr}{te:TE}{t:TA}{pos:Pos}
theorem zc:PA X [] jU:=fun _ _ _ _ H Q I h=>Calls.spliced_nil ⟨[],H,I,.nil,h⟩
theorem za(ha:PE X e te)(hr:PA X es t)(hs:fc (e::es) X.env=(false,eval e X.env)::fc es X.env:=by rfl):PA X (e::es) (f7 te t):=by
 intro pos zd s σ H Q I h;rw[hs];show cv _ _ (spliced ((false,eval e X.env)::kj pos (fc es X.env))) _ _ s;refine Calls.spliced_cons (thn (ha zd s σ H _ I h) fun u s1 ⟨x,H1,I1,r1,q1⟩=>?_);exact thn (hr pos zd s1 σ H1 _ I1 q1) fun us s2 ⟨xs,H2,I2,r2,q2⟩=>⟨x::xs,H2,I2,.cons r1 r2,q2⟩
def sG(t:TA):TE:=fun σ H Q=>t σ H fun xs H1=>xs.length<=fh/\∀p,H1 p=none->Q (.ref p) (upd H1 p (.tup xs))
def j9(t:TA):TE:=fun σ H Q=>t σ H fun xs H1=>xs.length<=fh/\∀p,H1 p=none->Q (.ref p) (upd H1 p (.lst xs))
theorem aT{x1}(h:PA X es t):PE X (.Tuple es x1 pos) (sG t):=by
 intro zd s σ H Q I hq;refine wpAny_Tuple_spliced (thn (h pos zd s σ H _ I hq) fun us s1 ⟨xs,H1,I1,r,z,q⟩=>⟨by rw[<- r.length];exact z,?_⟩);have hf:H1 s1.heap.objs.size=none:=I1.hok.fresh (dw _);refine⟨.ref s1.heap.objs.size,upd H1 s1.heap.objs.size (.tup xs),I1.laid (t':=s1.toks) (fun b u e=>bx _ e) (dw _) ?_,rfl,q _ hf⟩;exact⟨⟨z,_,ff _ rfl,rfl⟩,us,r,⟨_,ff _ rfl,rfl,_,rfl⟩⟩
theorem aQ(h:PA X es t):PE X (.List es pos) (j9 t):=by
 intro zd s σ H Q I hq;refine wpAny_List_spliced (thn (h pos zd s σ H _ I hq) fun us s1 ⟨xs,H1,I1,r,z,q⟩=>⟨by rw[<- r.length];exact z,?_⟩);have hf:H1 s1.heap.objs.size=none:=I1.hok.fresh (dw _);refine⟨.ref s1.heap.objs.size,upd H1 s1.heap.objs.size (.lst xs),I1.laid (t':=s1.toks) (fun b u e=>bx _ e) (dw _) ?_,rfl,q _ hf⟩;exact⟨z,us,0,r,ff _ rfl⟩
end
abbrev Sp:=List V->Hp->VK->XK->Prop
abbrev CXT:=List Env->Hp->bq->XK->bo->bq->Prop
structure Env0(P:fq)(w:gw)(K:cw)(mg:Str->Option bo)(base:Heap)(A:gh)(outer:List Env)(s:bq)(H:Hp):Prop where
 frames:A.frames=some outer
 mod:Mod K mg base
 bs:∀b o,base.get? b=some o->s.heap.get? b=some o/\H b=none
 bsz:base.objs.size<=s.heap.objs.size
 funs:s.heap.FunFrames base outer
 frf:Frf (frs outer) H
 hok:HOk P w H s.heap
 bare:AllBare s.gens
def CE(outer:List Env)(P:fq)(w:gw)(H:Hp)(s:bq)(Q:VK)(u:bo)(s':bq):Prop:=
 ∃v H',s'.os=s.os/\AllBare s'.gens/\Un (frs outer) [] H H' s.heap s'.heap/\HOk P w H' s'.heap/\RelV v u/\Q v H'
def CR(CX:CXT)(outer:List Env)(P:fq)(w:gw)(H:Hp)(s:bq)(Q:VK)(E:XK)(r:Result)(s':bq):Prop:=
 match r with
 | .ok (.ret u)=>CE outer P w H s Q u s'
 | .ok _=>False
 | .error e=>CX outer H s E e s'
structure FnOk(P:fq)(w:gw)(K:cw)(mg:Str->Option bo)(base:Heap)(CX:CXT)(k:Nat)(f:Addr)(fd:pk)(ps:List Str)(sp:Sp):Prop where
 len:∀vs H Q E,sp vs H Q E->vs.length=ps.length
 run:∀(A:gh) (outer:List Env) (s:bq) (H:Hp) (args:Args) (us:List bo) (vs:List V) (Q:VK) (E:XK),Room k A->Env0 P w K mg base A outer s H->BindsTo s fd args (ps.zip us)->Vals vs us->sp vs H Q E ->
  sx (model P w) A (.call (.ref f) args) (CR CX outer P w H s Q E) s
section
variable {X:Cx}{zd:List (Addr×Obj)}{σ:St}{H:Hp}{s s':bq}
theorem Inv.env0(I:Inv X zd σ H s):Env0 X.prog X.w X.K X.mg X.base X.A X.stack s H:=
 ⟨I.ok.frames,I.ok.mod,I.bs,lu I.ok.bsz I.sz,I.stack,I.stkFree,I.hok,I.bare⟩
theorem Inv.after{Q:VK}{u:bo}(I:Inv X zd σ H s)(h:CE X.stack X.prog X.w H s Q u s'):EP X zd σ Q u s':=by
 obtain⟨v,H',os,bare,un,hok,r,q⟩:=h;obtain⟨hh,g,d,t,y⟩:=s';obtain rfl:y=s.os:=os;exact⟨v,H',I.call (h':=hh) (g':=g) (d':=d) (t':=t) (ch:=[]) un hok bare (fun b z=>absurd z yv),r,q⟩
end
def fH(sp:Sp)(dvs:List V)(E:XK)(t:TA):TE:=fun σ H Q=>t σ H fun vs H1=>sp (vs++dvs) H1 Q E
def Binds(K:cw)(fd:pk)(ps:List Str)(ds:List bo):Prop:=
 ∀(s:bq) (us:List bo),K.In s.heap->(us++ds).length=ps.length->BindsTo s fd ⟨us,[]⟩ (ps.zip (us++ds))
theorem Binds.all{K:cw}{fd:pk}{ps:List Str}(h:∀us:List bo,us.length=ps.length->bindArgs fd ⟨us,[]⟩=pure (ps.zip us)):Binds K fd ps []:=fun s us _ hl=>by
 rw[km]at hl ⊢;exact .of_eq (h us hl)
def Passes(CX:CXT)(X:Cx)(E:XK):Prop:=∀(zd:List (Addr×Obj)) (σ:St) (H:Hp) (s:bq) (e:bo) (s':bq),Inv X zd σ H s->CX X.stack H s E e s'->X.xe e s'
section
variable {X:Cx}{CX:CXT}{k:Nat}{f C:Addr}{fd:pk}{ps:List Str}{sp:Sp}{dvs:List V}{ds:List bo}{E:XK}{x m:Str}{p pos apos:Pos}{e o:Expr}{es:List Expr}{ta:TE}{t:TA}
theorem yT{zd:List (Addr×Obj)}{σ:St}{H:Hp}{s:bq}{Q:VK}{us:List bo}{vs:List V}(F:FnOk X.prog X.w X.K X.mg X.base CX k f fd ps sp)(hr:Room k X.A)(hb:Binds X.K fd ps ds)(hd:Vals dvs ds)(hx:Passes CX X E)
  (I:Inv X zd σ H s) (r:Vals vs us) (h:sp (vs++dvs) H Q E):cv (model X.prog X.w) X.A (call (.ref f) us) (EP X zd σ Q) X.xe s:=by
 have r2:Vals (vs++dvs) (us++ds):=r.append hd;have hl:(us++ds).length=ps.length:=by rw[<- r2.length];exact F.len _ _ _ _ h
 refine wpAny_call (rz (F.run X.A X.stack s H ⟨us,[]⟩ (us++ds) (vs++dvs) Q E hr I.env0 (hb s us I.kIn hl) r2 h) fun r s' hq=>?_);cases r with
 |error e=>exact hx zd σ H s e s' I hq
 |ok fl=>
  cases fl with
  |ret u=>exact I.after hq
  |next=>exact jn hq
  |brk=>exact jn hq
  |cont=>exact jn hq
theorem tP(F:FnOk X.prog X.w X.K X.mg X.base CX k f fd ps sp)(hr:Room k X.A)(hg:Gl X x)(hm:X.mg x=some (.ref f))(hk:W.keepIn X.K (.ref f)=true)(hb:Binds X.K fd ps ds)(hd:Vals dvs ds)(hx:Passes CX X E)
  (ha:PA X (e::es) t) (hdb:(x==("__debug__":Str))=false:=by decide) (he:fc (e::es) X.env=(false,eval e X.env)::fc es X.env:=by rfl) (hpl:(kj pos (fc es X.env)).any (·.1)=false:=by rfl):
  PE X (.Call (.Name x p) (e::es) [] pos) (fH sp dvs E t):=by
 intro zd s σ H Q I h;refine jz (jS I hg hm ?_ hdb);refine W.callWith_K (h₀:=X.base) I.ok.mod.kin hk (thn (ha pos zd s σ H _ I h) fun us s1 ⟨vs,H1,I1,r,q⟩=>⟨I1.kIn,?_⟩) he hpl;exact yT F hr hb hd hx I1 r q
end
structure FnScope(N P:List Str)(sc:Scope):Prop where
 kind:sc.kind=.function
 co:sc.isCoroutine=false
 gen:sc.isGenerator=false
 nd:N.Nodup
 pre:N.take P.length=P
 par:∀x∈P,sc.names.lookup x=some .local\/sc.names.lookup x=some .cell
 nofree:∀y∈sc.names,y.2≠.free
theorem Au{y:Str->Option pp}{x:Str}:∀{binds:List (Str×bo)}{m:Str->Option bo},(∀v,(x,v)∉binds)->bindL y binds m x=m x
 | [],_,_=>rfl
 | (n,v)::r,m,h=>by
  unfold bindL;rw[Au fun w hw=>h w (fu _ hw)];split
  ·have:x≠n:=by rintro rfl;exact h v iq
   simp[this]
  ·rfl
theorem wM{y:Str->Option pp}{x:Str}:∀{binds:List (Str×bo)}{m:Str->Option bo},(∀v,(x,v)∉binds)->bindC y binds m x=m x
 | [],_,_=>rfl
 | (n,v)::r,m,h=>by
  unfold bindC;rw[wM fun w hw=>h w (fu _ hw)];split
  ·rfl
  ·have:x≠n:=by rintro rfl;exact h v iq
   simp[this]
theorem Bw{y:Str->Option pp}{x:Str}{v:bo}:∀{P:List Str}{vs:List bo}{i:Nat}{m:Str->Option bo},P.Nodup->P[i]?=some x->vs[i]?=some v->y x=some .local ->
  bindL y (P.zip vs) m x=some v
 | [],_,_,_,_,h,_,_=>by simp at h
 |_::_,[],_,_,_,_,h,_=>by simp at h
 |p::P,w::vs,0,m,nd,h1,h2,hk=>by
  simp at h1 h2;subst h1;subst h2;show bindL y ((p,w)::P.zip vs) m p=_;unfold bindL;rw[Au fun v hv=>(nodup_cons.mp nd).1 (of_mem_zip hv).1,cu hk];simp
 |p::P,w::vs,i+1,m,nd,h1,h2,hk=>by
  show bindL y ((p,w)::P.zip vs) m x=_;unfold bindL;exact Bw (i:=i) (nodup_cons.mp nd).2 (by simpa using h1) (by simpa using h2) hk
theorem xE{y:Str->Option pp}{x:Str}{v:bo}:∀{P:List Str}{vs:List bo}{i:Nat}{m:Str->Option bo},P.Nodup->P[i]?=some x->vs[i]?=some v->y x≠some .local ->
  bindC y (P.zip vs) m x=some v
 | [],_,_,_,_,h,_,_=>by simp at h
 |_::_,[],_,_,_,_,h,_=>by simp at h
 |p::P,w::vs,0,m,nd,h1,h2,hk=>by
  simp at h1 h2;subst h1;subst h2;show bindC y ((p,w)::P.zip vs) m p=_;unfold bindC;rw[wM fun v hv=>(nodup_cons.mp nd).1 (of_mem_zip hv).1,cn hk];simp
 |p::P,w::vs,i+1,m,nd,h1,h2,hk=>by
  show bindC y ((p,w)::P.zip vs) m x=_;unfold bindC;exact xE (i:=i) (nodup_cons.mp nd).2 (by simpa using h1) (by simpa using h2) hk
def start(N:List Str)(vs:List V):St:=vs.map some++bu (N.length-vs.length) none
def b9(CX:CXT)(P:fq)(w:gw)(K:cw)(mg:Str->Option bo)(base:Heap)(N:List Str)(qual:Str)(scope:Scope)(f:Addr)(cd:bo)(A:gh)(outer:List Env)(s:bq)(H:Hp)(E:XK):Cx where
 prog:=P
 w:=w
 K:=K
 mg:=mg
 base:=base
 A:=A.deeper (kc qual scope s.heap.objs.size f cd)
 N:=N
 s₀:=s
 H₀:=H
 env:=kc qual scope s.heap.objs.size f cd
 outer:=outer
 stack:=kc qual scope s.heap.objs.size f cd::outer
 ex:=[]
 calm:=true
 fn:=fun _=>true
 pn:=[]
 xe:=fun e s'=>cv (model P w) (A.deeper (kc qual scope s.heap.objs.size f cd)) (leaving (kc qual scope s.heap.objs.size f cd) e) (fun _ s''=>CX outer H s E e s'') (fun e' s''=>CX outer H s E e' s'') s'
theorem CK{sc:Scope}{n:Nat}{x:Str}(h:sc.names.lookup x=some .cell):∃c,(cellsFrom n sc.names []).lookup x=some c:=by
 have q:=W.cellsFrom_some sc.names n [] (.inl h);exact isSome_iff_exists.mp q
theorem Bv{CX:CXT}{P:fq}{w:gw}{K:cw}{mg:Str->Option bo}{base:Heap}{N ps:List Str}{qual:Str}{scope:Scope}{f:Addr}{cd:bo}{A:gh}{outer:List Env}{s s1:bq}{H:Hp}{E:XK}{us:List bo}{vs:List V}
  (S:FnScope N ps scope) (hd:A.handled=none) (e0:Env0 P w K mg base A outer s H) (hl:vs.length=ps.length) (r:Vals vs us)
  (x:InCallC s s.heap.objs.size (bindL (kc qual scope s.heap.objs.size f cd).kindOf (ps.zip us) fun _=>none) (cellsFrom (s.heap.objs.size+1) scope.names []) (bindC (kc qual scope s.heap.objs.size f cd).kindOf (ps.zip us) fun _=>none) s1):
  Inv (b9 CX P w K mg base N qual scope f cd A outer s H E) [] (start N vs) H s1:=by
 have ae:ps.length<=N.length:=by have:=congrArg List.length S.pre;rw[kz]at this;omega
 obtain⟨h1,tk,rfl,hk⟩:=x.done;have aa:∀b:Addr,b∉(b9 CX P w K mg base N qual scope f cd A outer s H E).ex:=fun b z=>absurd (show b∈([]:List Addr)from z) yv;refine⟨⟨e0.mod,S.kind,rfl,rfl,dw _,fun y z c h1 h2=>?_,fun y hy=>?_,fun y c _ h=>?_,fun _=>hd,Around.frames_deeper e0.frames,.inr ⟨rfl,rfl⟩,fun b z=>absurd z (aa b),e0.bs,e0.bsz,fun b _ _=>aa b,fun b z=>absurd z (aa b),e0.funs,e0.frf⟩,
  rfl,e0.bare,Un.kept hk,⟨_,x.toInCall.ns,fun i y v h1 h2 h3=>?_⟩,fun y c h=>⟨_,x.cell y c h⟩,e0.hok.fresh (dw _),fun y c h=>?_,fun p hp=>absurd (show p∈([]:List (Addr×Obj))from hp) yv,e0.hok.kept hk,?_⟩
 ·exact name_of_addr x.apart (PySem.mem_of_lookup h1) (PySem.mem_of_lookup h2)
 ·have hy:scope.names.lookup y=some .cell\/scope.names.lookup y=some .free:=hy;rcases hy with hy|hy
  ·exact CK hy
  ·exact absurd rfl (S.nofree _ (PySem.mem_of_lookup hy))
 ·exact om (x.above y c (PySem.mem_of_lookup h))
 ·have hi:i<vs.length:=by
   unfold start at h2;by_cases hi:i<vs.length
   ·exact hi
   ·rw[List.getElem?_append_right (by simpa using hi)]at h2;rw[qk]at h2;split at h2<;>cases h2
  have ha:vs[i]?=some v:=by
   unfold start at h2;rw[fy (by simpa using hi),gx]at h2;cases e:vs[i]? with
   |none=>rw[e]at h2;cases h2
   |some a=>rw[e]at h2;cases h2;rfl
  obtain⟨u,hu,rv⟩:=r.get ha;have hp:ps[i]?=some y:=by
   rw[<- S.pre,List.getElem?_take_of_lt yw];exact h1
  have ac:ps.Nodup:=by rw[<- S.pre];exact S.nd.sublist (List.take_sublist _ _)
  refine⟨u,rv,?_⟩;rcases S.par y (bw hp)with k|k
  ·exact .inl ⟨k,Bw ac hp hu k⟩
  ·obtain⟨c,e⟩:=CK (n:=s.heap.objs.size+1) k;refine .inr ⟨.inl k,c,e,?_⟩;have q:=x.cell y c e;rw[xE ac hp hu (by show scope.names.lookup y≠_;rw[k];decide)]at q;exact q
 ·exact e0.hok.fresh (om (x.above y c (PySem.mem_of_lookup h)))
 ·unfold start;show _=N.length;rw[fx,fj,mv];omega
theorem y9{CX:CXT}{P:fq}{w:gw}{K:cw}{mg:Str->Option bo}{base:Heap}{k:Nat}{f:Addr}{name qual:Str}{ac:Arguments}{body:List Stmt}{scope:Scope}{dV kV ag pm aa ct oc:bo}{an od:Option Addr}
  {osl:Array (Option bo)}{N ps:List Str}{sp:Sp} (lk:K.lookup f=some ⟨oc,od,.func (W.fnOf name qual ac body scope dV kV ag pm an aa ct),osl⟩) (hcd:W.codeIn K aa qual=true) (S:FnScope N ps scope)
  (len:∀vs H Q E,sp vs H Q E->vs.length=ps.length)
  (hbody:∀(A:gh) (outer:List Env) (s:bq) (H:Hp) (vs:List V) (Q:VK) (E:XK),Room k (A.deeper (kc qual scope s.heap.objs.size f aa))->sp vs H Q E ->
   ∃t,PSs (b9 CX P w K mg base N qual scope f aa A outer s H E) body t/\t { nx:=fun _ H'=>Q .non H',rt:=Q } (start N vs) H):
  FnOk P w K mg base CX (k+1) f (W.fnOf name qual ac body scope dV kV ag pm an aa ct) ps sp:=by
 refine⟨len,fun A outer s H args us vs Q E hr e0 hb r af=>?_⟩;have hl:=len _ _ _ _ af;have KX:K.In s.heap:=e0.mod.kin.keeps fun b o e=>(e0.bs b o e).1;have ah:s.heap.NoLimit:=e0.mod.nolimit.keeps fun b o e=>(e0.bs b o e).1;have ae:∀y∈ps.zip us,scope.names.lookup y.1=some .local\/(scope.names.lookup y.1=some .cell/\((cellsFrom (s.heap.objs.size+1) scope.names []).lookup y.1).isSome=true):=fun⟨n,v⟩ hy=>by
  rcases S.par n (of_mem_zip hy).1 with q|q
  ·exact .inl q
  ·exact .inr ⟨q,W.cellsFrom_some _ _ _ (.inl q)⟩
 refine codeAny_call_function hr.depth (KX _ _ lk) rfl S.co S.gen rfl (W.codeRec_of KX hcd) (hb _ _ _ _ ?_);refine wpAny_newFunctionEnv_cells S.kind ae fun env he s1 x=>?_;subst he;refine⟨ah.keeps x.toInCall.keep,codeAny_func ?_⟩;obtain⟨t,ht,hq⟩:=hbody A outer s H vs Q E (hr.deeper _) af;have I:Inv (b9 CX P w K mg base N qual scope f aa A outer s H E) [] (start N vs) H s1:=Bv S hr.hd e0 hl r x;refine kl (ht [] s1 (start N vs) H _ I hq) (fun fl s' hs=>?_) fun e s' hs=>hs;have fin:∀{σ':St}{H':Hp}{v:V}{u:bo},Inv (b9 CX P w K mg base N qual scope f aa A outer s H E) [] σ' H' s'->RelV v u->Q v H'->CE outer P w H s Q u s':=
  fun {σ' H' v u} J rv q=>⟨v,H',J.os,J.bare,J.base,J.hok,rv,q⟩
 cases fl with
 |ret u=>
  obtain⟨v,σ',H',J,rv,q⟩:=hs;exact fin J rv q
 |next=>
  obtain⟨σ',H',J,q⟩:=hs;exact fin (v:=V.non) (u:=ku) J rfl q
 |brk=>
  obtain⟨_,_,_,q⟩:=hs;exact jn q
 |cont=>
  obtain⟨_,_,_,q⟩:=hs;exact jn q
end
section
section
variable {X:Cx}{x:Str}{p pos:Pos}{e:Expr}{es:List Expr}{t:TA}{id T:String}{r:List V->Hp->VK->Prop}
def tCB(r:List V->Hp->VK->Prop)(t:TA):TE:=fun σ H Q=>t σ H fun vs H1=>r vs H1 Q
theorem zk(hc:CallR X (.builtin id) r)(hg:Gl X x)(hm:X.mg x=none)(hv:iy x=some (.builtin id))(ha:PA X (e::es) t)(hn:x ≠ "__name__":=by decide)(y:(x==("__debug__":Str))=false:=by decide)
  (he:fc (e::es) X.env=(false,eval e X.env)::fc es X.env:=by rfl) (hpl:(kj pos (fc es X.env)).any (·.1)=false:=by rfl):PE X (.Call (.Name x p) (e::es) [] pos) (tCB r t):=by
 intro zd s σ H Q I h;refine jz (eF I hg hm hv ?_ hn y);exact PyProof.Rows.callWith_builtin1 (thn (ha pos zd s σ H _ I h) fun us s1 ⟨vs,H1,I1,r1,q1⟩=>hc zd s1 σ H1 vs us Q I1 r1 q1) he hpl
theorem sV(hc:CallR X (.type T) r)(hg:Gl X x)(hm:X.mg x=none)(hv:iy x=some (.type T))(ha:PA X (e::es) t)(hn:x ≠ "__name__":=by decide)(y:(x==("__debug__":Str))=false:=by decide)
  (he:fc (e::es) X.env=(false,eval e X.env)::fc es X.env:=by rfl) (hpl:(kj pos (fc es X.env)).any (·.1)=false:=by rfl):PE X (.Call (.Name x p) (e::es) [] pos) (tCB r t):=by
 intro zd s σ H Q I h;refine jz (eF I hg hm hv ?_ hn y);exact lj (thn (ha pos zd s σ H _ I h) fun us s1 ⟨vs,H1,I1,r1,q1⟩=>hc zd s1 σ H1 vs us Q I1 r1 q1) he hpl
end
end
end L2
namespace HT
open PySem PyProof.Rows
def lexLt:List Int->List Int->Bool
 | [],[]=>false
 | [],_::_=>true
 |_::_,[]=>false
 |x::xs,y::ys=>if x=y then lexLt xs ys else decide (x<y)
theorem lexLt_cons(x y:Int)(xs ys:List Int):lexLt (x::xs) (y::ys)=if x=y then lexLt xs ys else decide (x<y):=rfl
theorem Fi(x:Int)(xs:List Int):lexLt (x::xs) []=false:=rfl
theorem Ay(A:gh)(s:bq)(a:Int)(t:Tok)(c:Int)(u:Tok):∃e,SeqAt.EqAt A s (.int a t) (.int c u) e/\(e=true↔a=c):=
 ⟨(a==c),SeqAt.EqAt.int_int a t c u,yv⟩
theorem AY(A:gh)(s:bq)(a:Int)(t:Tok)(c:Int)(u:Tok)(prog:fq)(w:gw)(E:bo->bq->Prop)(Q:bo->bq->Prop)(h:Q (.bool (decide (a<c))) s):
  cv (model prog w) A (richCompare .Lt (.int a t) (.int c u)) Q E s:=
 (PyProof.Rows.lt_int h:cv (model prog w) A (kx .Lt (.int a t) (.int c u)) Q E s)
section
variable {prog:fq}{w:gw}{A:gh}{E:bo->bq->Prop}{s:bq}
theorem cat_tup{t b:Addr}{vs ws:List bo}{Q:bo->bq->Prop}(ht:IsTup s.heap t vs.toArray)(hb:IsTup s.heap b ws.toArray)(hv:vs≠[])
  (h1:ws=[]->Q (.ref t) s) (h2:ws≠[]->Q (.ref s.heap.objs.size) { s with heap:=s.heap.push { cls:=.type "tuple",data:=.seq (vs++ws).toArray } })
  (hsz:vs.length+ws.length<=fh):cv (model prog w) A (mq .Add (.ref t) (.ref b)) Q E s:=by
 obtain⟨⟨cls,dd,data,sl⟩,ho,hc,n,hd⟩:=id ht;obtain⟨⟨ah,ac,ag,aa⟩,y,af,n2,ae⟩:=id hb;simp only at hc hd af ae;subst hc hd af ae;have e:vs.toArray++ws.toArray=(vs++ws).toArray:=by simp
 by_cases hw:ws=[]
 ·exact concat_meets ⟨_,ho,rfl⟩ ⟨_,y,rfl⟩ noFill_tuple_add seq_tuple_add PySem.F.slot_tuple_add PySem.F.entry_tuple_add (PySem.F.args_tuple_add_2 _ _)
   (tuple_addW1 t b vs.toArray ws.toArray n n2 dd ac sl aa (by simpa using hv) (by simp[hw])) ⟨ho,y,h1 hw⟩
 ·refine concat_meets ⟨_,ho,rfl⟩ ⟨_,y,rfl⟩ noFill_tuple_add seq_tuple_add PySem.F.slot_tuple_add PySem.F.entry_tuple_add (PySem.F.args_tuple_add_2 _ _)
   (tuple_addW2 t b vs.toArray ws.toArray n n2 dd ac sl aa (by simpa using hv) (by simpa using hw) (by rw[dy,dy];exact hsz)) ⟨ho,y,?_⟩
  rw[e];exact h2 hw
def sIx(n d:Nat):Option Int->Nat
 |none=>d
 |some v=>if v<0 then (v+(n:Int)).toNat else min v.toNat n
theorem Ew(n d:Nat)(hd:d<=n)(o:Option Int):sIx n d o<=n:=by
 cases o with
 |none=>exact hd
 |some v=>
  show (if v<0 then (v+(n:Int)).toNat else min v.toNat n)<=n;by_cases hv:v<0
  ·rw[cu hv];omega
  ·rw[cn hv];exact Nat.min_le_right _ _
theorem CU(v:Int)(n d:Nat):(if v<0 then max (v+(n:Int)) 0 else min v (n:Int))=((sIx n d (some v):Nat):Int):=by
 show (if v<0 then max (v+(n:Int)) 0 else min v (n:Int))=(((if v<0 then (v+(n:Int)).toNat else min v.toNat n):Nat):Int);by_cases hv:v<0
 ·simp only[cu hv];omega
 ·simp only[cn hv];omega
theorem Iq(lo hi:Option Int)(n:Nat):Builtin.Slice.sliceAdjust lo hi 1 (n:Int)=(((sIx n 0 lo:Nat):Int),((sIx n n hi:Nat):Int)):=by
 have h1:¬((1:Int)<0):=yw
 unfold Builtin.Slice.sliceAdjust;simp only[h1,if_false];refine Prod.ext ?_ ?_
 ·cases lo with
  |none=>rfl
  |some v=>exact CU v n 0
 ·cases hi with
  |none=>rfl
  |some v=>exact CU v n n
theorem F2(i j:Nat):Builtin.Slice.slicePlaces (i:Int) (j:Int) 1=j-i:=by
 unfold Builtin.Slice.slicePlaces;have h1:(1:Int)>0:=yw
 simp only[h1,if_true,Int.ediv_one];split<;>omega
theorem wU{v:bo}{o:Option Int}{Q:Option Int->bq->Prop}(p:IsPart v o)(h:Q o s):cv (model prog w) A (Builtin.Slice.slicePartIndex v) Q E s:=by
 cases p with
 |none=>exact slicePart_none h
 |int i t=>exact slicePart_int h
theorem wW{sl:Addr}{vl vu:bo}{lo hi:Option Int}{n:Nat}{Q:Int×Int×Nat->bq->Prop}(hs:s.heap.IsSliceOf sl vl vu .none)(pl:IsPart vl lo)(pu:IsPart vu hi)
  (h:Q (((sIx n 0 lo:Nat):Int),1,sIx n n hi-sIx n 0 lo) s):cv (model prog w) A (Builtin.Slice.sliceApplied (.ref sl) (pure (n:Int))) Q E s:=by
 obtain⟨os,aa,ac,y⟩:=id hs;unfold Builtin.Slice.sliceApplied Builtin.Slice.sliceFields;refine bp (bp (jt aa y (x:=vl) rfl (bp (jt aa y (x:=vu) rfl (bp (jt aa y (x:=.none) rfl (cr ?_)))))));refine bp (slicePart_none ?_);show cv _ _ (if ((1:Int)==0)=true then _ else _) _ _ s;rw[cn dz];refine bp (wU pl (bp (wU pu (bp (cr ?_)))));show cv _ _ (match Builtin.Slice.sliceAdjust lo hi 1 (n:Int)with|(lo,hi)=>pure (lo,(1:Int),Builtin.Slice.slicePlaces lo hi 1)) _ _ s;rw[Iq lo hi n];show cv _ _ (pure (((sIx n 0 lo:Nat):Int),(1:Int),Builtin.Slice.slicePlaces ((sIx n 0 lo:Nat):Int) ((sIx n n hi:Nat):Int) 1)) _ _ s;rw[F2];exact cr h
theorem EK(xs:Array bo)(i k:Nat):((ir k).filterMap fun(m:Nat)=>xs[((i:Int)+(m:Int)*1).toNat]?).toArray=((xs.toList.drop i).take k).toArray:=by
 have e:(fun(m:Nat)=>xs[((i:Int)+(m:Int)*1).toNat]?)=fun m=>xs[i+m]?:=by
  funext m;have:((i:Int)+(m:Int)*1).toNat=i+m:=yw
  rw[this]
 rw[e];have:=pick_run xs i k;rw[List.filterMap_map]at this;have e2:((fun x=>xs[x]?)∘fun x=>i+x)=fun m=>xs[i+m]?:=rfl;rw[e2]at this;rw[this]
theorem getItem_tuple_cut{t sl:Addr}{items:Array bo}{vl vu:bo}{lo hi:Option Int}{Q:bo->bq->Prop}(ht:IsTup s.heap t items)(hs:s.heap.IsSliceOf sl vl vu .none)(pl:IsPart vl lo)(pu:IsPart vu hi)
  (hw:¬(sIx items.size 0 lo=0/\sIx items.size items.size hi=items.size))
  (h:Q (.ref s.heap.objs.size) { s with heap:=s.heap.push { cls:=.type "tuple",data:=.seq ((items.toList.drop (sIx items.size 0 lo)).take (sIx items.size items.size hi-sIx items.size 0 lo)).toArray } })
  (hsz:items.size<=fh):cv (model prog w) A (getItem (.ref t) (.ref sl)) Q E s:=by
 have y:sizeOk (.seq ((items.toList.drop (sIx items.size 0 lo)).take (sIx items.size items.size hi-sIx items.size 0 lo)).toArray):=by
  show ((items.toList.drop (sIx items.size 0 lo)).take (sIx items.size items.size hi-sIx items.size 0 lo)).toArray.size<=fh;rw[dy,kz,rk,nj];omega
 have hj:sIx items.size items.size hi<=items.size:=Ew _ _ (dw _) hi;obtain⟨os,af,ac,ag⟩:=id hs;have aa:s.TypeIs (.ref sl) "slice":=⟨os,af,ac⟩;unfold getItem
 try with_reducible refine ie ?_
 first|refine bp (cr ?_)|skip
 refine bp (wpAny_sequenceKey ht.typeIs dz ?_);refine bp (lc (name:=gk "__getitem__") ht.typeIs PyProof.Rows.slot_tuple_getitem
  (lf PyProof.Rows.slot_tuple_getitem ht.typeIs entry_tuple_getitem ?_ (args_tuple_getitem _ _)))
 show cv _ _ (Builtin.Tuple.tupleItemsOf (.ref t) >>= _) _ _ s;refine bp (tupleItemsOf_ ht ?_);refine bp (wpAny_typeOf aa ?_);rw[cu dz];refine bp (wW hs pl pu ?_);have ae:¬((((sIx items.size 0 lo:Nat):Int)==0&&(1:Int)==1&&(sIx items.size items.size hi-sIx items.size 0 lo)==items.size)=true):=by
  intro q;rw[ki,ki]at q;have q1:((sIx items.size 0 lo:Nat):Int)=0:=eq_of_beq q.1.1;have q2:sIx items.size items.size hi-sIx items.size 0 lo=items.size:=eq_of_beq q.2;exact hw ⟨yw,yw⟩
 show cv _ _ (if (((sIx items.size 0 lo:Nat):Int)==0&&(1:Int)==1&&(sIx items.size items.size hi-sIx items.size 0 lo)==items.size)=true then _ else _) _ _ s;rw[cn ae,EK]
 first
  |exact bp (m:=Builtin.Tuple.tupleExact _) (ji (cr ⟨_,rfl,cr h⟩) y)
  |exact bp (m:=Builtin.Tuple.tupleExact _) (ji (bp (cr (cr ⟨_,rfl,cr h⟩))) y)
  |exact bp (bp (m:=Builtin.Tuple.tupleExact _) (ji (cr (cr ⟨_,rfl,cr h⟩)) y))
  |exact bp (bp (m:=Builtin.Tuple.tupleExact _) (ji (cr ⟨_,rfl,cr h⟩) y))
end
end HT
namespace L2
open PySem PySem.Spec PyProof.Rows
section
abbrev TO:=St->Hp->(Option Int->Hp->Prop)->Prop
def PO(X:Cx)(e:Option Expr)(t:TO):Prop:=
 ∀(zd:List (Addr×Obj)) (s:bq) (σ:St) (H:Hp) (Q:Option Int->Hp->Prop),Inv X zd σ H s->t σ H Q ->
  cv (model X.prog X.w) X.A (evalPart e X.env) (fun u s'=>∃o H',Inv X zd σ H' s'/\IsPart u o/\Q o H') X.xe s
def Ax:TO:=fun _ H Q=>Q none H
def kU(t:TE):TO:=fun σ H Q=>t σ H fun x H1=>∃i,x=.int i/\Q (some i) H1
theorem kR{ns:List Int}:∀{us:List bo},Vals (ns.map V.int) us->jr us ns:=by
 induction ns with
 |nil=>intro us r;rw[map_nil]at r;cases r;exact .nil
 |cons n ns ih=>
  intro us r;rw[kq]at r;cases r with
  |cons r1 r2=>
   obtain⟨t,e⟩:=r1;subst e;exact .cons n t (ih r2)
section
variable {X:Cx}{e:Expr}{te:TE}{lo hi:Option Expr}{tl th:TO}{pos p2:Pos}
theorem gI:PO X none Ax:=by
 intro zd s σ H Q I h;rw[evalPart_none];exact cr ⟨none,H,I,.none,h⟩
theorem bX(h:PE X e te):PO X (some e) (kU te):=by
 intro zd s σ H Q I hw;rw[evalPart_some];refine thn (h zd s σ H _ I hw) fun u s1 ⟨x,H1,I1,r1,q1⟩=>?_;obtain⟨i,rfl,q⟩:=q1;obtain⟨t,rfl⟩:=r1;exact⟨some i,H1,I1,.int i t,q⟩
def SlR(X:Cx)(r:V->Option Int->Option Int->Hp->VK->Prop):Prop:=
 ∀(zd:List (Addr×Obj)) (s:bq) (σ:St) (H:Hp) (x:V) (v vl vu:bo) (lo hi:Option Int) (sl:Addr) (Q:VK),Inv X zd σ H s->RelV x v->s.heap.IsSliceOf sl vl vu .none->IsPart vl lo->IsPart vu hi->r x lo hi H Q ->
  ∃T id,typeLookup (.type T) "__getitem__" = pure (some (.builtin id))/\s.TypeIs v T/\cv (model X.prog X.w) X.A (getItem v (.ref sl)) (EP X zd σ Q) X.xe s
theorem SlR.or{r r':V->Option Int->Option Int->Hp->VK->Prop}(h:SlR X r)(h':SlR X r'):SlR X (fun x lo hi H Q=>r x lo hi H Q\/r' x lo hi H Q):=by
 intro zd s σ H x v vl vu lo hi sl Q I rx hs pl pu q;rcases q with q|q
 ·exact h zd s σ H x v vl vu lo hi sl Q I rx hs pl pu q
 ·exact h' zd s σ H x v vl vu lo hi sl Q I rx hs pl pu q
def tSl(r:V->Option Int->Option Int->Hp->VK->Prop)(te:TE)(tl th:TO):TE:=fun σ H Q=>te σ H fun x H1=>tl σ H1 fun l H2=>th σ H2 fun u H3=>r x l u H3 Q
theorem cX{r:V->Option Int->Option Int->Hp->VK->Prop}(hr:SlR X r)(he:PE X e te)(hl:PO X lo tl)(hu:PO X hi th):PE X (.Subscript e (.Slice lo hi none p2) pos) (tSl r te tl th):=by
 intro zd s σ H Q I h;refine Subscript_ (thn (he zd s σ H _ I h) fun v s1 ⟨x,H1,I1,r1,q1⟩=>?_);refine wpAny_Slice (thn (hl zd s1 σ H1 _ I1 q1) fun vl s2 ⟨l,H2,I2,pl,q2⟩=>thn (hu zd s2 σ H2 _ I2 q2) fun vu s3 ⟨u,H3,I3,pu,q3⟩=>?_);rw[evalPart_none];refine cr ?_;have I4:Inv X zd σ H3 { s3 with heap:=s3.heap.push { cls:=.type "slice",data:=.fields #[vl,vu,.none] } }:=I3.kept (t':=s3.toks) fun b ob q=>bx _ q;obtain⟨T,id,hT,ht,hg⟩:=hr zd { s3 with heap:=s3.heap.push { cls:=.type "slice",data:=.fields #[vl,vu,.none] } } σ H3 x v vl vu l u s3.heap.objs.size Q I4 r1 (Heap.IsSliceOf.new ..) pl pu q3;show cv (model X.prog X.w) X.A (subscriptTail e (.Slice lo hi none p2) v (.ref s3.heap.objs.size)) (EP X zd σ Q) X.xe { s3 with heap:=s3.heap.push { cls:=.type "slice",data:=.fields #[vl,vu,.none] } };exact tail_any (ops:=[.ref s3.heap.objs.size,v]) ht hT hg (by with_unfolding_all rfl)
def cR(xs:List V)(lo hi:Option Int):List V:=(xs.drop (HT.sIx xs.length 0 lo)).take (HT.sIx xs.length xs.length hi-HT.sIx xs.length 0 lo)
theorem uH(xs:List V)(lo hi:Option Int):(cR xs lo hi).length<=xs.length:=by
 unfold cR;rw[kz,rk];omega
def sZ(K:cw):V->Option Int->Option Int->Hp->VK->Prop:=fun x lo hi H Q=>∃a xs,x=.ref a/\SqT K H a xs /\
 ¬(HT.sIx xs.length 0 lo=0/\HT.sIx xs.length xs.length hi=xs.length)/\∀p,H p=none->Q (.ref p) (upd H p (.tup (cR xs lo hi)))
theorem A5:SlR X (sZ X.K):=by
 intro zd s σ H x v vl vu lo hi sl Q I rx hs pl pu h;obtain⟨a,xs,rfl,hx,hw,q⟩:=h;cases rx;obtain⟨aa,r,ht,hz⟩:=I.tuple hx;have y:aa.toArray.size=xs.length:=by rw[dy];exact r.length.symm
 refine⟨"tuple",_,PyProof.Rows.slot_tuple_getitem.lookup,ht.typeIs,?_⟩;refine HT.getItem_tuple_cut ht hs pl pu (by rw[y];exact hw) ?_ (by rw[y];exact hz);rw[y];refine⟨.ref s.heap.objs.size,_,I.laid (t':=s.toks) (o:=.tup (cR xs lo hi)) (fun b ob q=>bx _ q) (dw _) ?_,rfl,q _ (I.hok.fresh (dw _))⟩;exact⟨⟨lu (uH xs lo hi) hz,_,ff _ rfl,rfl⟩,_,(r.drop (HT.sIx xs.length 0 lo)).take (HT.sIx xs.length xs.length hi-HT.sIx xs.length 0 lo),IsTup.new _ _⟩
def tM(K:cw):R2:=fun x y H Q=>∃a b xs ys,x=.ref a/\y=.ref b/\SqT K H a xs/\SqT K H b ys/\xs≠[]/\xs.length+ys.length<=fh /\
 (ys=[]->Q (.ref a) H)/\(ys≠[]->∀p,H p=none->Q (.ref p) (upd H p (.tup (xs++ys))))
theorem Vals.nil_iff{xs:List V}{us:List bo}(r:Vals xs us):us=[]↔xs=[]:=by
 cases r with
 |nil=>simp
 |cons _ _=>simp
theorem DH:OpR X (mq .Add) (tM X.K):=by
 intro zd s σ H x y v u Q I rx ry h;obtain⟨a,b,xs,ys,rfl,rfl,ha,hb,hx,hz,q1,q2⟩:=h;cases rx;cases ry;obtain⟨ac,r1,p1,_⟩:=I.tuple ha;obtain⟨aa,r2,p2,_⟩:=I.tuple hb;refine HT.cat_tup p1 p2 (fun z=>hx (r1.nil_iff.mp z)) (fun z=>⟨.ref a,H,I,rfl,q1 (r2.nil_iff.mp z)⟩) (fun z=>?_) (by rw[<- r1.length,<- r2.length];exact hz);refine⟨.ref s.heap.objs.size,_,I.laid (t':=s.toks) (o:=.tup (xs++ys)) (fun b ob q=>bx _ q) (dw _) ?_,rfl,q2 (fun w=>z (r2.nil_iff.mpr w)) _ (I.hok.fresh (dw _))⟩;exact⟨⟨by rw[fx];exact hz,_,ff _ rfl,rfl⟩,_,r1.append r2,IsTup.new _ _⟩
end
end
section
def ixN(n:Nat)(i:Int):Option Nat:=if 0<=i then (if i<n then some i.toNat else none)else if -(n:Int)<=i then some (i+n).toNat else none
def atI{α:Type}(xs:List α)(i:Int):Option α:=(ixN xs.length i).bind fun j=>xs[j]?
theorem Bg{n:Nat}{i:Int}{j:Nat}(h:ixN n i=some j):seqIndex? i n=some j/\j<n/\-(n:Int)<=i/\i<n:=by
 unfold ixN at h;by_cases h0:0<=i
 ·rw[cu h0]at h;by_cases h1:i<n
  ·rw[cu h1]at h;have e:i.toNat=j:=gv h;exact⟨by rw[seqIndex_of h0 h1,e],yw,yw,h1⟩
  ·rw[cn h1]at h;cases h
 ·rw[cn h0]at h;by_cases h1:-(n:Int)<=i
  ·rw[cu h1]at h;have e:(i+n).toNat=j:=gv h;exact⟨by rw[seqIndex_neg yw h1,e],yw,h1,yw⟩
  ·rw[cn h1]at h;cases h
theorem tW{α:Type}{xs:List α}{i:Int}{v:α}(h:atI xs i=some v):∃j,seqIndex? i xs.length=some j/\xs[j]?=some v/\j<xs.length/\-(xs.length:Int)<=i/\i<xs.length:=by
 unfold atI at h;cases e:ixN xs.length i with
 |none=>rw[e]at h;cases h
 |some j=>
  rw[e]at h;obtain⟨h1,h2,h3,h4⟩:=Bg e;exact⟨j,h1,h,h2,h3,h4⟩
theorem jD{α:Type}{xs:List α}{j:Nat}{v:α}(h:xs[j]?=some v):atI xs (j:Int)=some v:=by
 have hj:j<xs.length:=(List.getElem?_eq_some_iff.mp h).1;have e:ixN xs.length (j:Int)=some j:=by
  unfold ixN;rw[cu yw,cu yw];simp
 unfold atI;rw[e];exact h
def PlainIx(b:Expr):Prop:=∀o i,subscripted b false o i=operate [o,i] (getItem o i)
def IxR(X:Cx)(r:R2):Prop:=
 ∀(value slice:Expr) (zd:List (Addr×Obj)) (s:bq) (σ:St) (H:Hp) (x y:V) (v u:bo) (Q:VK),Inv X zd σ H s->RelV x v->RelV y u->r x y H Q ->
  subscripted slice false v u=operate [v,u] (getItem v u)->cv (model X.prog X.w) X.A (subscriptTail value slice v u) (EP X zd σ Q) X.xe s
def MtR(X:Cx)(id:String)(r:V->List V->Hp->VK->Prop):Prop:=
 ∀(zd:List (Addr×Obj)) (s:bq) (σ:St) (H:Hp) (x:V) (xs:List V) (v:bo) (us:List bo) (Q:VK),Inv X zd σ H s->RelV x v->Vals xs us->r x xs H Q ->
  cv (model X.prog X.w) X.A (call (.builtin id) (v::us)) (EP X zd σ Q) X.xe s
section
variable {X:Cx}{a b:Expr}{ta tb:TE}{pos:Pos}
theorem IxR.or{r r':R2}(h:IxR X r)(h':IxR X r'):IxR X (fun x y H Q=>r x y H Q\/r' x y H Q):=by
 intro aa ac zd s σ H x y v u Q I rx ry q hs;rcases q with q|q
 ·exact h aa ac zd s σ H x y v u Q I rx ry q hs
 ·exact h' aa ac zd s σ H x y v u Q I rx ry q hs
theorem aL{r:R2}(hr:IxR X r)(ha:PE X a ta)(hb:PE X b tb)(hs:PlainIx b):PE X (.Subscript a b pos) (tOp r ta tb):=by
 intro zd s σ H Q I h;exact Subscript_ (t9 ha hb I h fun v u s2 x y H2 I2 rx ry q=>hr a b zd s2 σ H2 x y v u Q I2 rx ry q (hs _ _))
def rQ(K:cw):R2:=fun x y H Q=>∃p xs i v,x=.ref p/\y=.int i/\SqL K H p xs/\atI xs i=some v/\Q v H
def sQ(K:cw):R2:=fun x y H Q=>∃p xs i v,x=.ref p/\y=.int i/\SqT K H p xs/\atI xs i=some v/\Q v H
def rZ:R2:=fun x y H Q=>∃z i c,x=.str z/\y=.int i/\z.length<=fh/\atI z.cps.toList i=some c/\Q (.str ⟨#[c]⟩) H
theorem yN:IxR X (rQ X.K):=by
 intro ae af zd s σ H x y v u Q I rx ry h hs;obtain⟨p,xs,i,z,rfl,rfl,hq,he,q⟩:=h;cases rx;obtain⟨t,rfl⟩:=ry;obtain⟨aa,r,pl,hz⟩:=I.list hq;obtain⟨j,h1,h2,h3,h4,h5⟩:=tW he;obtain⟨w,ew,ac⟩:=r.get h2;have hl:=r.length;have hn:=line63;have fin:EP X zd σ Q w s:=⟨z,H,I,ac,q⟩;by_cases h0:0<=i
 ·have hj:i.toNat=j:=by
   rw[seqIndex_of h0 h5]at h1;exact gv h1
  exact item_listR pl.isList h0 yw (by rw[hj];simpa using ew) fin hs
 ·have hj:(i+(aa.toArray.size:Int)).toNat=j:=by
   rw[seqIndex_neg yw h4]at h1;rw[dy,<- hl];exact gv h1
  exact subscriptTail_builtinR (x:=w) pl.isList.typeIs slot_list_getitem.lookup
   (wpAny_getItem_list_neg (Q:=fun r s'=>r=w/\EP X zd σ Q r s') pl.isList yw (by rw[dy]<;>omega) yw (by rw[hj];simpa using ew) ⟨rfl,fin⟩) hs
theorem Ir:IxR X (sQ X.K):=by
 intro ac ae zd s σ H x y v u Q I rx ry h hs;obtain⟨p,xs,i,z,rfl,rfl,hq,he,q⟩:=h;cases rx;obtain⟨t,rfl⟩:=ry;obtain⟨af,r,pl,hz⟩:=I.tuple hq;obtain⟨j,h1,h2,h3,h4,h5⟩:=tW he;obtain⟨w,ew,aa⟩:=r.get h2;have hl:=r.length;have hn:=line63;have fin:EP X zd σ Q w s:=⟨z,H,I,aa,q⟩;exact subscriptTail_builtinR (x:=w) pl.typeIs slot_tuple_getitem.lookup
  (getItem_tuple (j:=j) (Q:=fun r s'=>r=w/\EP X zd σ Q r s') pl yw yw (by rw[dy,<- hl];exact h1) (by simpa using ew) ⟨rfl,fin⟩) hs
theorem DC:IxR X rZ:=by
 intro aa ac zd s σ H x y v u Q I rx ry h hs;obtain⟨z,i,c,rfl,rfl,hz,he,q⟩:=h;obtain⟨t,rfl⟩:=rx;obtain⟨t',rfl⟩:=ry;obtain⟨j,h1,h2,h3,h4,h5⟩:=tW he;have hl:z.cps.toList.length=z.length:=by simp[Str.length]
 rw[hl]at h1 h4 h5;have hn:=line63;exact tail_any (typeIs_str s z t) slot_str_getitem.lookup (getItem_str (c:=c) (by
  have e1:decide (i < -(2 ^ 63:Int))=false:=gu yw;have e2:decide (i≥2 ^ 63)=false:=gu yw;rw[e1,e2,Bool.or_false]) (by rw[h1];simpa using h2) ⟨.str ⟨#[c]⟩,H,I.tok _,⟨_,rfl⟩,q⟩) hs
def rIx(K:cw):R2:=fun x y H Q=>rQ K x y H Q\/sQ K x y H Q\/rZ x y H Q
theorem zS:IxR X (rIx X.K):=yN.or (Ir.or DC)
theorem DZ(y:List bo)(n j:Nat)(u:bo):io (·.setIfInBounds j u) { cls:=.type "list",data:=.seq y.toArray n } = { cls:=.type "list",data:=.seq (y.set j u).toArray n }:=by
 simp[io]
theorem Inv.lst{zd:List (Addr×Obj)}{σ:St}{H:Hp}{s:bq}{p:Addr}{xs:List V}(I:Inv X zd σ H s)(h:H p=some (.lst xs)):
  ∃(y:List bo) (n:Nat),Vals xs y/\s.heap.get? p=some { cls:=.type "list",data:=.seq y.toArray n }/\xs.length<=fh:=by
 obtain⟨z,y,n,r,e⟩:=I.hok p _ h;exact⟨y,n,r,e,z⟩
theorem Inv.lstUpd{zd:List (Addr×Obj)}{σ:St}{H:Hp}{s:bq}{p:Addr}{xs ys:List V}{y its':List bo}{n n':Nat}{f:Obj->Obj}(I:Inv X zd σ H s)(h:H p=some (.lst xs))
  (ho:s.heap.get? p=some { cls:=.type "list",data:=.seq y.toArray n }) (hf:f { cls:=.type "list",data:=.seq y.toArray n } = { cls:=.type "list",data:=.seq its'.toArray n' }) (r:Vals ys its') (hz:ys.length<=fh) (t:Nat):
  Inv X zd σ (upd H p (.lst ys)) { s with heap:=s.heap.update p f,toks:=t }:=by
 have e:(s.heap.update p f).get? p=some { cls:=.type "list",data:=.seq its'.toArray n' }:=by
  rw[mw f ho (by rw[hf]<;>rfl),hf]
 refine I.write (x:=p) (e:=p) (by rw[h];trivial) (.inl rfl) (fun b u hb q=>(ig _ _ (jq hb)).trans q) ⟨_,e⟩ ?_;exact⟨hz,its',n',r,e⟩
def wL:V->V->V->Hp->(Hp->Prop)->Prop:=fun o i v H Q=>∃p xs k j,o=.ref p/\i=.int k/\H p=some (.lst xs)/\ixN xs.length k=some j/\Q (upd H p (.lst (xs.set j v)))
theorem xT:PSet X wL:=by
 intro zd s σ H o i v ov iv u Q I ro ri rv h;obtain⟨p,xs,k,j,rfl,rfl,hp,hj,q⟩:=h;cases ro;obtain⟨t,rfl⟩:=ri;obtain⟨y,n,r,ho,hz⟩:=I.lst hp;obtain⟨h1,h2,h3,h4⟩:=Bg hj;have hl:=r.length;have hn:=line63;have I':Inv X zd σ (upd H p (.lst (xs.set j v))) { s with heap:=s.heap.update p (io (·.setIfInBounds j u)) } :=
  I.lstUpd hp ho (DZ y n j u) (r.set rv j) (by rw[length_set];exact hz) s.toks
 by_cases h0:0<=k
 ·have hk:k.toNat=j:=by
   rw[seqIndex_of h0 h4]at h1;exact gv h1
  exact W.ki_setAt ho h0 yw (by rw[dy,<- hl];exact h4) (by rw[hk];exact⟨_,I',q⟩)
 ·have hk:(k+(y.toArray.size:Int)).toNat=j:=by
   rw[seqIndex_neg yw h3]at h1;rw[dy,<- hl];exact gv h1
  exact W.ki_setBack ho yw (by rw[dy,<- hl];exact h3) yw (by rw[hk];exact⟨_,I',q⟩)
theorem HV(lo hi:Option Int)(n:Nat):(ua lo hi none n).1=((HT.sIx n 0 lo:Nat):Int)/\(ua lo hi none n).2.1=((HT.sIx n n hi:Nat):Int)/\(ua lo hi none n).2.2=1:=by
 refine⟨?_,?_,rfl⟩
 ·cases lo with
  |none=>simp[ua,HT.sIx]
  |some i=>
   simp only[ua,HT.sIx,Option.getD_none,show (1:Int)>0 by decide,if_true];by_cases h:i<0
   ·simp only[h,if_true]<;>omega
   ·simp only[h,if_false]<;>omega
 ·cases hi with
  |none=>simp[ua,HT.sIx]
  |some i=>
   simp only[ua,HT.sIx,Option.getD_none,show (1:Int)>0 by decide,if_true];by_cases h:i<0
   ·simp only[h,if_true]<;>omega
   ·simp only[h,if_false]<;>omega
theorem ER(y:List bo)(lo hi:Option Int):slicePick y.toArray lo hi none=((y.drop (HT.sIx y.length 0 lo)).take (HT.sIx y.length y.length hi-HT.sIx y.length 0 lo)).toArray:=by
 obtain⟨h1,h2,h3⟩:=HV lo hi y.toArray.size;unfold slicePick;rw[h1,h2,h3];simp only[sliceRange_one,pick_run,dy]<;>rfl
def oS(K:cw):V->Option Int->Option Int->Hp->VK->Prop:=fun x lo hi H Q=>∃a xs,x=.ref a/\SqL K H a xs/\∀p,H p=none->Q (.ref p) (upd H p (.lst (cR xs lo hi)))
theorem vY:SlR X (oS X.K):=by
 intro zd s σ H x v vl vu lo hi sl Q I rx hs pl pu h;obtain⟨a,xs,rfl,hx,q⟩:=h;cases rx;obtain⟨aa,r,ht,hz⟩:=I.list hx;have y:=r.length;refine⟨"list",_,slot_list_getitem.lookup,ht.isList.typeIs,?_⟩;refine wpAny_getItem_list_slice ht.isList hs pl pu .none yv ?_ (by rw[dy]<;>omega);rw[ER,<- y];refine⟨.ref s.heap.objs.size,_,I.laid (t':=s.toks) (o:=.lst (cR xs lo hi)) (fun b ob q=>bx _ q) (dw _) ?_,rfl,q _ (I.hok.fresh (dw _))⟩;exact⟨lu (uH xs lo hi) hz,_,0,(r.drop (HT.sIx xs.length 0 lo)).take (HT.sIx xs.length xs.length hi-HT.sIx xs.length 0 lo),ff _ rfl⟩
theorem CZ:CallR X (.builtin "len") (fun xs H Q=>∃p ys,xs=[.ref p]/\(SqL X.K H p ys\/SqT X.K H p ys)/\Q (.int ys.length) H):=by
 intro zd s σ H xs us Q I r h;obtain⟨p,ys,rfl,hq,q⟩:=h;obtain⟨u,rfl,rx⟩:=vals1 r;cases rx;have hn:=line63;rcases hq with hq|hq
 ·obtain⟨aa,r',pl,hz⟩:=I.list hq;have y:=r'.length;exact Calls.call_len_list pl.isList (by simp only[dy]<;>omega) ⟨.int ys.length,H,I.tok _,⟨s.toks+1,by rw[dy,y]⟩,q⟩
 ·obtain⟨aa,r',pl,hz⟩:=I.tuple hq;have y:=r'.length;exact len_tuple pl (by simp only[dy]<;>omega) ⟨.int ys.length,H,I.tok _,⟨s.toks+1,by rw[dy,y]⟩,q⟩
theorem ET:CallR X (.builtin "len") (fun xs H Q=>∃z,xs=[.str z]/\z.length<=fh/\Q (.int z.length) H):=by
 intro zd s σ H xs us Q I r h;obtain⟨z,rfl,hz,q⟩:=h;obtain⟨u,rfl,t,rfl⟩:=vals1 r;have hn:=line63;exact len_str yw ⟨.int z.length,H,I.tok _,⟨_,rfl⟩,q⟩
theorem CallR.or{f:bo}{r r':List V->Hp->VK->Prop}(h:CallR X f r)(h':CallR X f r'):CallR X f (fun xs H Q=>r xs H Q\/r' xs H Q):=by
 intro zd s σ H xs us Q I rs q;rcases q with q|q
 ·exact h zd s σ H xs us Q I rs q
 ·exact h' zd s σ H xs us Q I rs q
theorem xH:CallR X (.type "tuple") (fun xs H Q=>∃p ys,xs=[.ref p]/\((SqL X.K H p ys/\∀l,H l=none->Q (.ref l) (upd H l (.tup ys)))\/(SqT X.K H p ys/\Q (.ref p) H))):=by
 intro zd s σ H xs us Q I r h;obtain⟨p,ys,rfl,h⟩:=h;obtain⟨u,rfl,rx⟩:=vals1 r;cases rx;rcases h with ⟨hq,q⟩|⟨hq,q⟩
 ·obtain⟨y,r',pl,hz⟩:=I.list hq;have aa:=r'.length;refine call_tuple_list pl.isList (fun h' kp=>?_) (by simp only[dy]<;>omega);have I1:Inv X zd σ H { s with heap:=h' }:=I.kept (t':=s.toks) kp;have I2:Inv X zd σ (upd H h'.objs.size (.tup ys)) { s with heap:=h'.push { cls:=.type "tuple",data:=.seq y.toArray } } :=
   I1.laid (t':=s.toks) (fun b o e=>bx _ e) (dw _) (show ObjOk X.prog X.w _ _ _ (.tup ys)from⟨⟨hz,_,ff _ rfl,rfl⟩,y,r',IsTup.new _ _⟩)
  exact⟨.ref h'.objs.size,_,I2,rfl,q _ (I1.hok.fresh (dw _))⟩
 ·obtain⟨y,r',pl,hz⟩:=I.tuple hq;exact call_tuple_same pl ⟨.ref p,H,I,rfl,q⟩
def tyV(K:cw)(T:String)(x:V)(H:Hp):Prop:=match x with
 | .str _=>T = "str"
 | .int _=>T = "int"
 | .ref p=>(T = "list"/\∃xs,SqL K H p xs)\/(T = "tuple"/\∃o,K.lookup p=some o/\o.cls=.type "tuple"/\o.dict=none) \/
   (T = "dict"/\((∃kvs,H p=some (.dK kvs))\/∃kvs,H p=some (.dT kvs)))\/(T = "set"/\∃S n,H p=some (.set S n))
 |_=>False
theorem Ca{zd:List (Addr×Obj)}{σ:St}{H:Hp}{s:bq}{T:String}{x:V}{v:bo}(I:Inv X zd σ H s)(r:RelV x v)(ty:tyV X.K T x H):
  s.TypeIs v T/\∀a,v=.ref a->∃ob,s.heap.get? a=some ob/\ob.dict=none:=by
 cases x with
 |str z=>
  obtain⟨t,rfl⟩:=r;cases (show T = "str" from ty);exact⟨typeIs_str s z t,fun _ e=>nomatch e⟩
 |int i=>
  obtain⟨t,rfl⟩:=r;cases (show T = "int" from ty);exact⟨typeIs_int s i t,fun _ e=>nomatch e⟩
 |ref p=>
  cases r;rcases ty with ⟨rfl,xs,hq⟩|⟨rfl,o,hk,hc,hd⟩|⟨rfl,hk⟩|⟨rfl,S,n,hk⟩
  ·obtain⟨y,_,pl,_⟩:=I.list hq;refine⟨pl.isList.typeIs,fun a e=>?_⟩;cases e;obtain⟨o,n,e,c,hd,_⟩:=pl;exact⟨o,e,hd⟩
  ·refine⟨⟨o,I.kIn p o hk,hc⟩,fun a e=>?_⟩;cases e;exact⟨o,I.kIn _ o hk,hd⟩
  ·have z:∃o,s.heap.get? p=some o/\o.ExactDict:=by
    rcases hk with ⟨kvs,hk⟩|⟨kvs,hk⟩
    ·obtain⟨_,_,_,_,o,_,_,e,ex,_⟩:=I.hok p _ hk;exact⟨o,e,ex⟩
    ·obtain⟨_,_,_,_,o,_,_,e,ex,_⟩:=I.hok p _ hk;exact⟨o,e,ex⟩
   obtain⟨o,e,ex⟩:=z;refine⟨⟨o,e,ex.1⟩,fun a e2=>?_⟩;cases e2;exact⟨o,e,ex.2.1⟩
  ·obtain⟨o,_,_,_,e,ex,_⟩:=I.hok p _ hk;refine⟨⟨o,e,ex.1⟩,fun a e2=>?_⟩;cases e2;exact⟨o,e,ex.2.1⟩
 |_=>exact jn ty
def tBM(K:cw)(T:String)(r:V->List V->Hp->VK->Prop)(to:TE)(t:TA):TE:=fun σ H Q=>to σ H fun x H1=>tyV K T x H1/\t σ H1 fun xs H2=>r x xs H2 Q
variable {o e:Expr}{es:List Expr}{to:TE}{t:TA}{name:Str}{apos cpos:Pos}{T id:String}{r:V->List V->Hp->VK->Prop}
theorem gA(pa:PlainAttrs T)(slot:Slot T name id)(y:typeOf (.builtin id)=pure (.type "method_descriptor"))(hm:MtR X id r)(ho:PE X o to)(ha:PA X (e::es) t)
  (hbase:attributeBase o name X.env (eval o X.env)=eval o X.env:=by rfl)
  (hfew:((kj cpos (fc (e::es) X.env)).all (fun x=>!x.1)&&(backToKw cpos (rl [] X.env)).all (fun x=>x.1.isSome)
   && decide ((e::es).length+([]:List Keyword).length+(if ([]:List Keyword).isEmpty then 0 else 1)<30))=true:=by rfl)
  (hline:(apos.endLine==cpos.line)=true:=by rfl) (hs:fc (e::es) X.env=(false,eval e X.env)::fc es X.env:=by rfl) (hplain:(kj cpos (fc es X.env)).any (·.1)=false:=by rfl):
  PE X (.Call (.Attribute o name apos) (e::es) [] cpos) (tBM X.K T r to t):=by
 intro zd s σ H Q I h;refine wpAny_Call_method_late hbase hfew hline rfl (thn (ho zd s σ H _ I h) fun v s1 ⟨x,H1,I1,r1,ty,q1⟩=>?_);obtain⟨h1,h2⟩:=Ca I1 r1 ty;refine⟨T,id,pa,slot,y,h1,h2,?_⟩;have hA:=ha cpos zd s1 σ H1 _ I1 q1;rw[hs]at hA ⊢;refine Calls.callWith_builtin (by show (false||(kj cpos (fc es X.env)).any (·.1))=false;rw[hplain]<;>rfl) (Calls.evalArgs_plain ?_);exact thn hA fun us s2 ⟨vs,H2,I2,r2,q2⟩=>hm zd s2 σ H2 x vs v us Q I2 r1 r2 q2
end
end
section
def MtM(X:Cx)(id:String)(r:V->List V->Hp->VK->Prop):Prop:=
 ∀(zd:List (Addr×Obj)) (s:bq) (σ:St) (H:Hp) (x:V) (xs:List V) (v:bo) (us:List bo) (Q:VK),Inv X zd σ H s->RelV x v->Vals xs us->r x xs H Q ->
  cv (model X.prog X.w) X.A (call (.builtin id) (v::us)) (EP X zd σ Q) X.xe s
theorem Vals.one:∀{x:V}{us:List bo},Vals [x] us->∃u,us=[u]/\RelV x u
 |_,_,.cons r .nil=>⟨_,rfl,r⟩
theorem Vals.rep{xs:List V}{us:List bo}(h:Vals xs us):∀k:Nat,Vals (bu k xs).flatten (bu k us).flatten
 | 0=>.nil
 |k+1=>by
  rw[lw,lw,sf,sf];exact Vals.append h (Vals.rep h k)
theorem qH(y:List bo):∀(k:Nat) (acc:List bo),
  ql (fun x1 x2=>x1++x2) acc.toArray (bu k y.toArray)=(acc++(bu k y).flatten).toArray
 | 0,acc=>by simp
 |k+1,acc=>by
  have e:acc.toArray++y.toArray=(acc++y).toArray:=by simp
  have e2:(acc++y)++(bu k y).flatten=acc++(bu (k+1) y).flatten:=by
   rw[lw,sf,ly]
  rw[<- e2,<- qH y k (acc++y),<- e,lw,List.foldl_cons]
section
variable {X:Cx}{zd:List (Addr×Obj)}{σ:St}{H:Hp}{s:bq}{l b:Addr}{xs ys zs:List V}
theorem Inv.lset{y its':List bo}{n:Nat}{f:Array bo->Array bo}{t':Nat}(I:Inv X zd σ H s)(hH:H l=some (.lst xs))
  (e:s.heap.get? l=some { cls:=.type "list",data:=.seq y.toArray n }) (hf:f y.toArray=its'.toArray) (hv:Vals ys its') (hz:ys.length<=fh):
  Inv X zd σ (upd H l (.lst ys)) { s with heap:=s.heap.update l (io f),toks:=t' }:=by
 have q:=PySem.IsL.update e f;rw[hf]at q;refine I.write (x:=l) (e:=l) (by rw[hH];exact trivial) (.inl rfl) (fun b' u hb hu=>(ig s.heap (io f) (jq hb)).trans hu) ⟨_,q⟩ ?_;exact⟨hz,its',_,hv,q⟩
theorem Inv.lnew{y:List bo}{t':Nat}(I:Inv X zd σ H s)(hv:Vals ys y)(hz:ys.length<=fh):
  Inv X zd σ (upd H s.heap.objs.size (.lst ys)) { s with heap:=s.heap.push { cls:=.type "list",data:=.seq y.toArray },toks:=t' } :=
 I.laid (fun _ _ q=>bx _ q) (dw _) ⟨hz,y,0,hv,ff _ rfl⟩
theorem Inv.fresh(I:Inv X zd σ H s):H s.heap.objs.size=none:=I.hok.fresh (dw _)
theorem Inv.lstM(I:Inv X zd σ H s)(hH:H l=some (.lst xs)):xs.length<=fh/\∃(y:List bo) (n:Nat),Vals xs y/\xs.length=y.length/\s.heap.get? l=some { cls:=.type "list",data:=.seq y.toArray n }:=by
 obtain⟨z,y,n,r,e⟩:=I.hok l _ hH;exact⟨z,y,n,r,r.length,e⟩
theorem wS{n:Nat}(h:n<=fh):Builtin.List.listTooLong n=false:=by
 unfold Builtin.List.listTooLong;exact gu yw
end
section
variable {X:Cx}
def vV:V->List V->Hp->VK->Prop:=fun x vs H Q=>∃l xs y,x=.ref l/\vs=[y]/\H l=some (.lst xs)/\xs.length<fh/\Q .non (upd H l (.lst (xs++[y])))
theorem pE:MtM X "list.append" vV:=by
 intro zd s σ H x vs v us Q I rx rv h;obtain⟨l,xs,y,rfl,rfl,hH,hz,q⟩:=h;cases rx;obtain⟨u,rfl,ru⟩:=rv.one;obtain⟨z,aa,n,r,hl,e⟩:=I.lstM hH;refine qd F.slot_list_append ⟨_,e,rfl⟩ F.entry_list_append (F.args_list_append_2 _ _) (PySem.list_append l aa.toArray n u (by rw[dy];omega)) ⟨e,?_⟩;refine⟨.non,_,I.lset (its':=aa++[u]) hH e yv (r.append (.cons ru .nil)) ?_,rfl,q⟩;rw[fx,jg];omega
def wO:V->List V->Hp->VK->Prop:=fun x vs H Q=>∃l b xs zs,x=.ref l/\vs=[.ref b]/\H l=some (.lst xs)/\H b=some (.lst zs)/\xs.length+zs.length<=fh/\Q .non (upd H l (.lst (xs++zs)))
theorem yI:MtM X "list.extend" wO:=by
 intro zd s σ H x vs v us Q I rx rv h;obtain⟨l,b,xs,zs,rfl,rfl,hH,hB,hz,q⟩:=h;cases rx;obtain⟨u,rfl,ru⟩:=rv.one;cases ru;obtain⟨z,aa,n,r,hl,e⟩:=I.lstM hH;obtain⟨z2,y,n2,r2,af,e2⟩:=I.lstM hB;have ae:aa.toArray.size+y.toArray.size<=fh:=by rw[dy,dy];omega
 have ac:¬(!aa.toArray.isEmpty&&Builtin.List.listTooLong (aa.toArray.size+y.toArray.size))=true:=by
  rw[wS ae,Bool.and_false];exact jc
 refine qd F.slot_list_extend ⟨_,e,rfl⟩ F.entry_list_extend (F.args_list_extend_2 _ _)
  (AutoSeq1.list_extend_list_list_0 l aa.toArray n b y.toArray n2 ac (by rw[dy];omega) yw) ⟨e,e2,?_⟩
 refine⟨.non,_,I.lset (its':=aa++y) hH e yv (r.append r2) ?_,rfl,q⟩;rw[fx];omega
def nC:R2:=fun x y H Q=>∃l b xs zs,x=.ref l/\y=.ref b/\H l=some (.lst xs)/\H b=some (.lst zs)/\xs.length+zs.length<=fh/\∀p,H p=none->Q (.ref p) (upd H p (.lst (xs++zs)))
theorem vE:OpR X (mq .Add) nC:=by
 intro zd s σ H x y v u Q I rx ry h;obtain⟨l,b,xs,zs,rfl,rfl,hH,hB,hz,q⟩:=h;cases rx;cases ry;obtain⟨z,ac,n,r,hl,e⟩:=I.lstM hH;obtain⟨z2,aa,n2,r2,ae,e2⟩:=I.lstM hB;refine PySem.P.add_list e e2 ?_ (by rw[dy,dy];omega);have ea:ac.toArray++aa.toArray=(ac++aa).toArray:=by simp
 rw[ea];exact⟨.ref _,_,I.lnew (t':=s.toks) (r.append r2) (by rw[fx];omega),rfl,q _ I.fresh⟩
def x5:R2:=fun x y H Q=>∃l k xs,x=.ref l/\y=.int k/\H l=some (.lst xs)/\-(2 ^ 63)<=k/\k<2 ^ 63/\xs.length*k.toNat<=fh /\
 ∀p,H p=none->Q (.ref p) (upd H p (.lst (bu k.toNat xs).flatten))
theorem uV{α:Type}(xs:List α)(k:Nat):(bu k xs).flatten.length=k*xs.length:=by
 induction k with
 |zero=>simp
 |succ k ih=>rw[lw,sf,fx,ih,Nat.succ_mul,Nat.add_comm]
theorem Ie:OpR X (mq .Mult) x5:=by
 intro zd s σ H x y v u Q I rx ry h;obtain⟨l,k,xs,rfl,rfl,hH,h1,h2,hz,q⟩:=h;cases rx;obtain⟨t,rfl⟩:=ry;obtain⟨z,aa,n,r,hl,e⟩:=I.lstM hH;have ah:aa.toArray.size*k.toNat<=fh:=by rw[dy,<- hl];exact hz
 have ag:¬ aa.toArray.size*k.toNat>(2 ^ 63-1)/8:=by
  have:(fh:Nat)<=(2 ^ 63-1)/8:=by decide
  omega
 have ae:¬(!Builtin.List.listFitsIndex k)=true:=by
  rw[fitsIndex_both h1 h2];exact jc
 have ac:¬ Builtin.List.listTooLong (aa.toArray.size*k.toNat)=true:=by
  rw[wS ah];exact jc
 have af:ql (fun x1 x2=>x1++x2) #[] (bu (if aa.toArray.isEmpty=true then 0 else k.toNat) aa.toArray)=(bu k.toNat aa).flatten.toArray:=by
  have f0:∀m:Nat,ql (fun x1 x2=>x1++x2) #[] (bu m aa.toArray)=(bu m aa).flatten.toArray:=fun m=>by
   have:=qH aa m [];rw[nil_append]at this;exact this
  rw[f0];cases aa with
  |nil=>simp
  |cons a r'=>rw[cn yv]
 refine wpAny_binaryOp_repeat_ref (T:="list") (U:="int") dz ⟨_,e,rfl⟩ (fun s'=>typeIs_int s' k t) noFill_list_mul F.fills_int_mul F.slot_int_rmul repeat_list F.slot_int_index.lookup
  (qd F.slot_int_rmul (typeIs_int s k t) F.entry_int_rmul (F.args_int_rmul_2 _ _) (int___rmul___int_list k t l aa.toArray n)
   ⟨e,rfl,⟨_,e,rfl⟩,qd F.slot_list_mul ⟨_,e,rfl⟩ F.entry_list_mul (F.args_list_mul_2 _ _) (AutoListH.list___mul___list_int_3 l aa.toArray n k t ae ag ac) ⟨e,?_⟩⟩)
 rw[af];exact⟨.ref _,_,I.lnew (t':=s.toks) (r.rep k.toNat) (by rw[uV,mul_comm];exact hz),rfl,q _ I.fresh⟩
end
end
section
section
variable {X:Cx}{zd:List (Addr×Obj)}{σ:St}{H:Hp}{s:bq}{a:Addr}{y v:V}{u r:bo}{o:Option V}{A:gh}{E:bo->bq->Prop}
theorem Inv.big(I:Inv X zd σ H s):sysModules<s.heap.objs.size:=by
 have h:on<s.heap.objs.size:=(I.mod.glob.keeps I.bk).lt;exact Nat.lt_trans dz h
end
theorem GF{P:fq}{w:gw}{H:Hp}(h:Heap)(hb:sysModules<h.objs.size):ObjOk P w H (h.push { cls:=.type "dict",data:=.dict #[] }) h.objs.size (.dK []):=
 ⟨pf _,beq_eq_false_iff_ne.mpr (jq (ic hb)),[],.nil,Heap.DictOf.new h⟩
def CJ:TE:=fun _ H Q=>∀p,H p=none->Q (.ref p) (upd H p (.dK []))
section
variable {X:Cx}{pos:Pos}
theorem Fk:PE X (.Dict [] [] pos) CJ:=fun zd s σ H Q I h=>
 wpAny_Dict_empty ⟨.ref s.heap.objs.size,_,I.laid (a:=s.heap.objs.size) (o:=.dK []) (t':=s.toks) (fun _ _ q=>bx _ q) (dw _) (GF s.heap I.big),rfl,h _ (I.hok.fresh (dw _))⟩
end
structure M1(X:Cx)(o:Expr)(m:Str)(apos:Pos)(e:Expr)(cpos:Pos):Prop where
 base:attributeBase o m X.env (eval o X.env)=eval o X.env
 few:((kj cpos (fc [e] X.env)).all (fun x=>!x.1)&&(backToKw cpos (rl [] X.env)).all (fun x=>x.1.isSome)
  && decide (([e]:List Expr).length+([]:List Keyword).length+(if ([]:List Keyword).isEmpty then 0 else 1)<30))=true
 line:(apos.endLine==cpos.line)=true
 trees:kj cpos (fc [e] X.env)=[(false,eval e X.env)]
structure M2(X:Cx)(o:Expr)(m:Str)(apos:Pos)(e f:Expr)(cpos:Pos):Prop where
 base:attributeBase o m X.env (eval o X.env)=eval o X.env
 few:((kj cpos (fc [e,f] X.env)).all (fun x=>!x.1)&&(backToKw cpos (rl [] X.env)).all (fun x=>x.1.isSome)
  && decide (([e,f]:List Expr).length+([]:List Keyword).length+(if ([]:List Keyword).isEmpty then 0 else 1)<30))=true
 line:(apos.endLine==cpos.line)=true
 trees:kj cpos (fc [e,f] X.env)=[(false,eval e X.env),(false,eval f X.env)]
def obO(a:Addr)(ob:Obj):HO:=.ext fun h=>h.get? a=some ob
end
end L2
namespace Att
open PySem PySem.W PySem.Calls PyProof.Rows
theorem Fp{P:Params}{h:Heap}:∀(ns:List Int) (vs:List bo),WellAll P h vs (ns.map WData.int)->jr vs ns:=by
 intro ns;induction ns with
 |nil=>
  intro vs w;rw[map_nil]at w;cases w;exact .nil
 |cons n ns ih=>
  intro vs w;rw[kq]at w;cases w with
  |cons a b=>
   cases a;exact .cons _ _ (ih _ b)
theorem Il{l:OpenLaw}{n:Nat}(hn:l.most=some n){P:Params}{h:Heap}{args:List WData}{y:List bo}
  (hpre:l.row.toRowW.claim.pre args=true) (hwl:WellAll P h y args):
  ∃a vs ns,y=[fv a]/\args=[WData.list (ns.map WData.int)]/\h.get? a=some { cls:=.type "list",data:=.seq vs.toArray }/\jr vs ns/\ns.length<=n:=by
 have ac:WShape.hasAll [] args [.list .int]=true:=(pre_splitW hpre).1;have hc:l.pre.holds [] { args:=args } = true:=(pre_splitW hpre).2;obtain⟨d,r,rfl,h1,h2⟩:=hasAllW_cons ac;obtain rfl:=hasAllW_nil h2;obtain⟨xs,rfl,h3⟩:=hasW_list h1;obtain⟨ns,rfl⟩:=items_int h3;have aa:ns.length<=n:=by
  unfold OpenLaw.pre at hc;have h4:(WTm.not (.lt (.lit (.int (n:Int))) (.len (.arg 0)))).holds [] { args:=[.list (ns.map .int)] } = true:=by
   have h4:=(holds_andW hc).1;rw[hn]at h4;exact h4
  have h5:=condW_of h4 (w_not (w_lt w_lit (w_len_list (w_arg rfl))));rw[fj]at h5;refine Nat.le_of_not_lt fun q=>?_;have q':(n:Int)<((ns.length:Nat):Int):=yw
  first
   | (rw[jh q']at h5;exact absurd h5 dz)
   | (simp at h5;omega)
 cases hwl with
 |cons w1 w2=>
  cases w2;cases w1 with
  |list ho hall=>exact⟨_,_,ns,rfl,rfl,ho,Fp ns _ hall,aa⟩
theorem G1(l:OpenLaw)(args:List WData):l.row.toRowW.claim.post args (.bool true) args=true:=
 postW_of (r:=l.row.toRowW) (X:=(true==true))
  (show WShape.has [] (.bool true) .bool=true by first|rfl|decide|simp[WShape.has,WShape.arms,WShape.armsAll])
  (show (WTm.eq .res (.lit (.bool true))).value [] { args:=args,res:=some (.bool true),after:=args } = some (.bool (true==true))from w_eq_bool (w_res rfl) w_lit) rfl
theorem attach_call{l:OpenLaw}{n:Nat}{q:fq}{y:List Str}{XP:(Str->Option bo)->Heap->Prop}{YP:gw->Heap->Prop}{d:DefRec}
  (hn:l.most=some n) (hdf:d.params.defaults=[])
  (call:∀(w:gw) (s₀ s₁:bq) (mg mb:Str->Option bo) (fa:Addr) (o:Obj) (pm cd ac:bo) (a:Addr) (vs:List bo) (ns:List Int),
   Ground q y [] XP w s₀ mg mb s₁.heap->YP w s₁.heap ->
   s₁.heap.get? fa=some o->o.data=.func (docDef d.name d.params d.body d.scope pm cd ac)->s₁.heap.CodeRec cd d.name->mg d.name=some (.ref fa) ->
   s₁.heap.get? a=some { cls:=.type "list",data:=.seq vs.toArray }->jr vs ns->ns.length<=n->s₁.gens = #[] ->
   sx (model l.prog w) callerA (.call (.ref fa) ⟨[.ref a],[]⟩) (fun r s'=>r=.ok (.ret (.bool true))/\OldK s₁.heap s'.heap/\s'.os=s₁.os/\AllBare s'.gens) s₁):
  WalkO q y XP YP l.row.toRowW d [] (fun f vs=>PySem.call f vs):=by
 intro w s₀ s₁ mg mb G Y fa o pm cd ac dV kV ho hd ah hD aj hg args ak as af al an ai am;obtain rfl:dV=.none:=Dflts.none hD hdf;obtain rfl:kV=.none:=Dflts.noKw hD;obtain⟨a,vs,ns,rfl,rfl,ae,aa,ag⟩:=Il hn af ai;refine enter_call (rz (call w s₀ s₁ mg mb fa o pm cd ac a vs ns G Y ho (fd_plain hd) ah aj ae aa ag hg) fun r s' hq=>?_);obtain⟨rfl,h2,h3,h4⟩:=hq;exact⟨.inl ⟨.bool true,.bool true,[],rfl,fun _=>rfl,.bool true,G1 l _,fun _=>⟨List.Pairwise.nil,fun _ hm=>(nomatch hm)⟩⟩,h2,h3,h4⟩
end Att
namespace L2
open PySem PySem.Spec PyProof.Rows
section
theorem qW:∀{vs:List bo}{ns:List Int},jr vs ns->Vals (ns.map V.int) vs
 |_,_,.nil=>.nil
 |_,_,.cons n t h=>.cons ⟨t,rfl⟩ (qW h)
def Only(H:Hp):Prop:=∀b,H b=none\/(∃o xs,H b=some (.frz o (.lst xs)))\/∃q∈tabsG,q.1.2=b/\H b=some (.tbl q.2)
def dF(b:Addr):Option HO:=(tabsG.find? fun q=>q.1.2==b).map fun q=>.tbl q.2
theorem kI{b:Addr}{u:HO}(e:dF b=some u):∃q∈tabsG,q.1.2=b/\u=.tbl q.2:=by
 unfold dF at e;cases h:tabsG.find? fun q=>q.1.2==b with
 |none=>rw[h]at e;cases e
 |some q=>
  rw[h]at e;cases e;exact⟨q,List.mem_of_find?_eq_some h,by simpa using List.find?_some h,rfl⟩
theorem GC{l:List ((Addr×Addr)×Array bo)}(nd:(l.map fun q=>q.1.2).Nodup){q:(Addr×Addr)×Array bo}(h:q∈l):l.find? (fun r=>r.1.2==q.1.2)=some q:=by
 induction l with
 |nil=>cases h
 |cons p l ih=>
  rw[kq,nodup_cons]at nd;rcases mem_cons.mp h with e|e
  ·subst e;simp
  ·have ne:¬ p.1.2=q.1.2:=fun z=>nd.1 (by rw[z];exact rm (f:=fun q:(Addr×Addr)×Array bo=>q.1.2) e);rw[List.find?_cons_of_neg (by simpa using ne)];exact ih nd.2 e
theorem AX(nd:(tabsG.map fun q=>q.1.2).Nodup){q:(Addr×Addr)×Array bo}(h:q∈tabsG):dF q.1.2=some (.tbl q.2):=by
 unfold dF;rw[GC nd h];rfl
structure TabsOk(K:cw)(h:Heap):Prop where
 nd:(tabsG.map fun q=>q.1.2).Nodup
 hd:∀q∈tabsG,W.CodeHd h q.1.1 q.1.2
 empty:∀q∈tabsG,h.get? q.1.2=some (W.tabObj #[])
 off:∀q∈tabsG,K.lookup q.1.2=none
theorem TabsOk.none{K:cw}{h:Heap}(e:tabsG=[]):TabsOk K h:=⟨by rw[e];exact nodup_nil,fun q z=>absurd z (by rw[e];simp),fun q z=>absurd z (by rw[e];simp),fun q z=>absurd z (by rw[e];simp)⟩
theorem Cj{P:fq}{w:gw}{K:cw}{mg mb:Str->Option bo}{CX:CXT}{k:Nat}{fa a:Addr}{fd:pk}{x:Str}{sp:Sp}{s₁:bq}{vs:List bo}{ns:List Int}
  (KX:K.In s₁.heap) (TT:TabsOk K s₁.heap) (hbm:BltAt s₁.heap mg) (hns:s₁.heap.Ns on mg) (hb:s₁.heap.Ns builtinsNs mb) (hbb:∀x:Str,x ≠ "__name__"->mb x=iy x) (hlim:s₁.heap.NoLimit) (hg:s₁.gens = #[])
  (ha:s₁.heap.get? a=some { cls:=.type "list",data:=.seq vs.toArray }) (hi:jr vs ns) (hl:ns.length<=fh) (hr:Room k callerA)
  (F:∀base:Heap,K.In base->base.Ns on mg->FnOk P w K mg base CX k fa fd [x] sp) (hbind:∀(s:bq) (u:bo),BindsTo s fd ⟨[u],[]⟩ [(x,u)])
  (hsp:∀H:Hp,Only H->SqL K H a (ns.map V.int)->sp [.ref a] H (fun v _=>v=.bl true) fun _ _ _=>False)
  (hCX:∀H e s',CX [] H s₁ (fun _ _ _=>False) e s'->False):
  sx (model P w) callerA (.call (.ref fa) ⟨[.ref a],[]⟩) (fun r s'=>r=.ok (.ret (.bool true))/\OldK s₁.heap s'.heap/\s'.os=s₁.os/\AllBare s'.gens) s₁:=by
 have rv:=qW hi;have ag:=hi.length
 have ae:∀H:Hp,Only H->SqL K H a (ns.map V.int)->HOk P w H s₁.heap->(∀b,H b≠none->b=a\/∃q∈tabsG,q.1.2=b)->(H a≠none->K.lookup a=none)->(∀q∈tabsG,H q.1.2=some (.tbl q.2)) ->
   sx (model P w) callerA (.call (.ref fa) ⟨[.ref a],[]⟩) (fun r s'=>r=.ok (.ret (.bool true))/\OldK s₁.heap s'.heap/\s'.os=s₁.os/\AllBare s'.gens) s₁:=by
  intro H hO hS hok hA hK ak;have ah:∀{b:Addr}{o:Obj},s₁.heap.get? b=some o->o.cls≠.type "list"->o.cls≠.none->H b=none:=fun {b o} e c1 c2=>by
   cases q:H b with
   |none=>rfl
   |some u=>
    rcases hA b (by rw[q];simp)with e'|⟨r,y,e'⟩
    ·subst e';rw[ha]at e;cases e;exact absurd rfl c1
    ·have:=TT.empty r y;rw[e',e]at this;cases this;exact absurd rfl c2
  have aa:∀{b:Addr}{o:Obj},s₁.heap.get? b=some o->H b=none->(fX s₁.heap H).get? b=some o:=fun e n=>C5 e n;have am:∀{b:Addr}{o:Obj}{es:Array DictEntry}{ep:Nat},s₁.heap.get? b=some o->o.data=.dict es ep->H b=none:=fun {b o es ep} e d=>by
   cases q:H b with
   |none=>rfl
   |some u=>
    rcases hA b (by rw[q];simp)with e'|⟨r,y,e'⟩
    ·subst e';rw[ha]at e;cases e;have d':Data.seq vs.toArray _=Data.dict es ep:=d;cases d'
    ·have:=TT.empty r y;rw[e',e]at this;cases this;cases d
  have ac:∀{b:Addr}{m:Str->Option bo},s₁.heap.Ns b m->(fX s₁.heap H).Ns b m:=fun {b m} ⟨o,es,ep,e,d,r⟩=>⟨o,es,ep,aa e (am e d),d,r⟩;have aj:K.In (fX s₁.heap H):=fun b o e=>aa (KX b o e) (by
   cases q:H b with
   |none=>rfl
   |some u=>
    rcases hA b (by rw[q];simp)with e'|⟨r,y,e'⟩
    ·subst e';rw[hK (by rw[q];simp)]at e;cases e
    ·rw[<- e',TT.off r y]at e;cases e)
  have hM:Mod K mg (fX s₁.heap H):=⟨aj,ac hns,⟨mb,ac hb,hbb⟩,let ⟨mc,h1,h2⟩:=hlim;⟨mc,ac h1,h2⟩,
   let ⟨bm,ob,b1,b2,b3,b4,b5⟩:=hbm;⟨bm,ob,b1,b2,aa b3 (ah b3 (by rw[b4];decide) (by rw[b4];decide)),b4,b5⟩,
   fun q hq=>let ⟨o,vs,file,tf,flags,tg,inF,text,tt,e1,c1,r⟩:=TT.hd q hq;⟨o,vs,file,tf,flags,tg,inF,text,tt,aa e1 (ah e1 (by rw[c1];decide) (by rw[c1];decide)),c1,r⟩⟩
  have e0:Env0 P w K mg (fX s₁.heap H) callerA [] s₁ H:=⟨rfl,hM,fun b o e=>Dp e,Nat.le_of_eq (Ch _ _),trivial,⟨fun b hb=>absurd (show b∈([]:List Addr)from hb) yv,ak⟩,hok,.of_eq hg⟩;refine rz ((F _ aj (ac hns)).run callerA [] s₁ H ⟨[.ref a],[]⟩ [.ref a] [.ref a] _ _ hr e0 (hbind s₁ (.ref a)) (.cons rfl .nil) (hsp H hO hS)) fun r s' h=>?_;cases r with
  |error e=>exact(hCX H e s' h).elim
  |ok fl=>
   cases fl with
   |next=>exact jn h
   |brk=>exact jn h
   |cont=>exact jn h
   |ret u=>
    obtain⟨v,H',os,bare,un,af,r',q⟩:=h;have q':v=.bl true:=q;subst q';obtain rfl:u=rh true:=r';have all:∀b o,s₁.heap.get? b=some o->s'.heap.get? b=some o\/∃q∈tabsG,q.1.2=b/\o=W.tabObj #[]/\∃ps,s'.heap.get? b=some (W.tabObj ps):=fun b o e=>by
     cases q:H b with
     |none=>exact .inl (un.keep b o e q (by intro z;exact absurd (show b∈([]:List Addr)from z) yv) yv)
     |some u=>
      rcases hO b with z|⟨ob,xs,z⟩|⟨r,y,e',z⟩
      ·rw[q]at z;cases z
      ·have z2:=un.frzs b ob _ z;obtain⟨e1,_⟩:=hok b _ z;obtain⟨e2,_⟩:=af b _ z2;rw[e]at e1;cases e1;exact .inl e2
      ·obtain⟨qs,e2,_⟩:=af b _ (un.tbls b _ z);have:=TT.empty r y;rw[e',e]at this;cases this;exact .inr ⟨r,y,e',rfl,qs,e2⟩
    refine⟨rfl,⟨fun b o e=>?_,fun b o e=>?_⟩,os,bare⟩
    ·rcases all b o e with z|⟨r,y,rfl,rfl,ps,z⟩
     ·exact .inl z
     ·exact .inr (.inl ⟨((TT.hd r y).tab (TT.empty r y)).isCodeTable,rfl,#[],ps,rfl,by rw[Array.empty_append];exact z⟩)
    ·rcases all b o e with z|⟨r,y,rfl,rfl,ps,z⟩
     ·exact⟨o,z⟩
     ·exact⟨_,z⟩
 have al:∀q∈tabsG,q.1.2≠a:=fun q hq z=>by
  have:=TT.empty q hq;rw[z,ha]at this;cases this
 have ai:∀(H:Hp) (b:Addr) (u:HO),dF b=some u->ObjOk P w H s₁.heap b u:=fun H b u z=>by
  obtain⟨q,hq,rfl,rfl⟩:=kI z;exact⟨#[],TT.empty q hq,.inl rfl⟩
 cases hk:K.lookup a with
 |some o=>
  have e:=KX a o hk;rw[ha]at e;cases e;refine ae dF (fun b=>?_) (.inr ⟨_,vs.toArray,_,hk,rfl,rfl,rfl,by rw[dy,ag];exact hl,by simpa using rv⟩) (ai dF) (fun b z=>?_) (fun z=>?_) fun q hq=>AX TT.nd hq
  ·cases q:dF b with
   |none=>exact .inl rfl
   |some u=>obtain⟨r,y,e',rfl⟩:=kI q;exact .inr (.inr ⟨r,y,e',rfl⟩)
  ·cases q:dF b with
   |none=>exact absurd q z
   |some u=>obtain⟨r,y,e',_⟩:=kI q;exact .inr ⟨r,y,e'⟩
  ·cases q:dF a with
   |none=>exact absurd q z
   |some u=>obtain⟨r,y,e',_⟩:=kI q;exact absurd e' (al r y)
 |none=>
  refine ae (fun b=>if b=a then some (.frz { cls:=.type "list",data:=.seq vs.toArray } (.lst (ns.map V.int)))else dF b) (fun b=>?_) (.inl (.inr ⟨{ cls:=.type "list",data:=.seq vs.toArray },cu rfl⟩)) (fun b u z=>?_) (fun b z=>?_) (fun _=>hk) fun q hq=>(cn (al q hq)).trans (AX TT.nd hq)
  ·by_cases hb:b=a
   ·exact .inr (.inl ⟨_,_,cu hb⟩)
   ·cases q:dF b with
    |none=>exact .inl ((cn hb).trans q)
    |some u=>obtain⟨r,y,e',rfl⟩:=kI q;exact .inr (.inr ⟨r,y,e',(cn hb).trans q⟩)
  ·by_cases hb:b=a
   ·have z':=(cu hb).symm.trans z;cases z';subst hb;exact⟨ha,by rw[fj];exact hl,vs,_,rv,ha⟩
   ·have z':=(cn hb).symm.trans z;exact ai _ b u z'
  ·by_cases hb:b=a
   ·exact .inl hb
   ·cases q:dF b with
    |none=>exact absurd ((cn hb).trans q) z
    |some u=>obtain⟨r,y,e',_⟩:=kI q;exact .inr ⟨r,y,e'⟩
end
section
abbrev KOf {K:cw}{h:Heap} (_:K.In h):cw:=K
theorem walk_of{l:W.OpenLaw}{n k:Nat}{q:fq}{ac:List Str}{XP:(Str->Option bo)->Heap->Prop}{YP:gw->Heap->Prop}{d:DefRec}{K:Params->cw}{CX:gw->CXT}{sp:gw->Sp}{x:Str}
  (hn:l.most=some n) (hn2:n<=fh) (hdf:d.params.defaults=[]) (hr:Room k callerA)
  (hY:∀(w:gw) (h:Heap),YP w h->(K w.params).In h)
  (hT:∀(w:gw) (h:Heap),YP w h->TabsOk (K w.params) h)
  (F:∀(w:gw) (mg:Str->Option bo) (fa:Addr) (h:Heap),(K w.params).In h->h.Ns on mg->mg d.name=some (.ref fa) ->
   ∃fd:pk,(∀(s:bq) (u:bo),BindsTo s fd ⟨[u],[]⟩ [(x,u)]) /\
    ∀base:Heap,(K w.params).In base->base.Ns on mg->FnOk l.prog w (K w.params) mg base (CX w) k fa fd [x] (sp w))
  (hsp:∀(w:gw) (H:Hp) (a:Addr) (ns:List Int),ns.length<=n->Only H->SqL (K w.params) H a (ns.map V.int)->sp w [.ref a] H (fun v _=>v=.bl true) fun _ _ _=>False)
  (hCX:∀(w:gw) (H:Hp) (s:bq) (e:bo) (s':bq),CX w [] H s (fun _ _ _=>False) e s'->False):
  W.WalkO q ac XP YP l.row.toRowW d [] (fun f vs=>PySem.call f vs):=by
 refine Att.attach_call hn hdf fun w s₀ s₁ mg mb fa o pm cd ah a vs ns G Y ho hd ag af ae aa y hg=>?_;have KX:=hY w _ Y;obtain⟨fd,hb,hF⟩:=F w mg fa _ KX G.T.g af;exact Cj KX (hT w _ Y) (let ⟨bm,ob,a1,a2,a3,a4,a5,a6⟩:=G.T.bmain;⟨bm,ob,a1,a2,a3,a4,a5,a6⟩) G.T.g G.T.b G.T.builtins G.T.nolimit hg ae aa (lu y hn2) hr hF hb (fun H hO hS=>hsp w H a ns y hO hS) fun H e s'=>hCX w H s₁ e s'
end
section
def iI(s:Stmt):Arguments:=match s with
 | .FunctionDef _ a _ _ _ _ _ _ _ _=>a
 |_=>{ posonlyargs:=[],args:=[],vararg:=none,kwonlyargs:=[],kw_defaults:=[],kwarg:=none,defaults:=[] }
def cV(s:Stmt):List Stmt:=match s with
 | .FunctionDef _ _ b _ _ _ _ _ _ _=>b
 |_=>[]
def zh(s:Stmt):Scope:=match s with
 | .FunctionDef _ _ _ _ _ _ sc _ _ _=>sc
 |_=>{ kind:=.function,names:=[],isGenerator:=false,isCoroutine:=false }
abbrev CX0:CXT:=fun _ _ _ _ _ _=>False
abbrev E0:XK:=fun _ _ _=>False
theorem pass0{X:Cx}:Passes CX0 X E0:=fun _ _ _ _ _ _ _ h=>h.elim
structure Fun(K:cw)(x qual:Str)(st:Stmt)(f:Addr)(fd:pk):Prop where
 ex:∃(oc:bo) (od:Option Addr) (kV doc pm:bo) (an:Option Addr) (cdv ct:bo) (osl:Array (Option bo)),
  fd=W.fnOf x qual (iI st) (cV st) (zh st) .none kV doc pm an cdv ct/\K.lookup f=some ⟨oc,od,.func fd,osl⟩/\W.codeIn K cdv qual=true
 kp:W.keepIn K (.ref f)=true
section
variable {P:fq}{w:gw}{K:cw}{mg:Str->Option bo}{base:Heap}
theorem Fun.ok{x qual:Str}{st:Stmt}{f:Addr}{fd:pk}{N ps:List Str}{k:Nat}{sp:Sp}(F:Fun K x qual st f fd)(S:FnScope N ps (zh st))(len:∀vs H Q E,sp vs H Q E->vs.length=ps.length)
  (hbody:∀(y:bo) (A:gh) (outer:List Env) (s:bq) (H:Hp) (vs:List V) (Q:VK) (E:XK),Room k (A.deeper (kc qual (zh st) s.heap.objs.size f y))->sp vs H Q E ->
   ∃t,PSs (b9 CX0 P w K mg base N qual (zh st) f y A outer s H E).nox (cV st) t/\t { nx:=fun _ H'=>Q .non H',rt:=Q } (start N vs) H):FnOk P w K mg base CX0 (k+1) f fd ps sp:=by
 obtain⟨oc,od,kV,af,pm,an,y,ct,ae,rfl,lk,aa⟩:=F.ex;refine y9 lk aa S len fun A outer s H vs Q E hr ac=>?_;obtain⟨t,h,q⟩:=hbody y A outer s H vs Q E hr ac;exact⟨t,h.nox,q⟩
theorem Fun.binds{x qual:Str}{st:Stmt}{f:Addr}{fd:pk}{ps:List Str}(F:Fun K x qual st f fd)
  (h:∀(kV aa pm:bo) (an:Option Addr) (y ct:bo) (us:List bo),us.length=ps.length->bindArgs (W.fnOf x qual (iI st) (cV st) (zh st) .none kV aa pm an y ct) ⟨us,[]⟩=pure (ps.zip us)):Binds K fd ps []:=by
 obtain⟨oc,od,kV,aa,pm,an,y,ct,ac,rfl,lk,ae⟩:=F.ex;exact .all (h kV aa pm an y ct)
theorem Ad{x qual:Str}{st:Stmt}{f:Addr}{oc:bo}{od an:Option Addr}{ac:Array (Option bo)}{kV aa pm y ct:bo}(l:K.lookup f=some ⟨oc,od,.func (W.fnOf x qual (iI st) (cV st) (zh st) .none kV aa pm an y ct),ac⟩)
  (c:W.codeIn K y qual=true) (k:W.keepIn K (.ref f)=true):Fun K x qual st f (W.fnOf x qual (iI st) (cV st) (zh st) .none kV aa pm an y ct):=⟨⟨oc,od,kV,aa,pm,an,y,ct,ac,rfl,l,c⟩,k⟩
end
theorem small1000{n:Nat}(h:n<=1000):n<fh:=Nat.lt_of_le_of_lt h dz
section
variable {X:Cx}
theorem pv(i:Nat){x:Str}{pos:Pos}(hN:X.N[i]?=some x:=by rfl)(hv:Vis X.env.scope x:=by first|exact jb rfl|exact Or.inr (jb rfl)|exact Or.inr (Or.inr rfl))(hd:(x==("__debug__":Str))=false:=by decide)
  (hcd:(x==("__classdict__":Str))=false:=by decide):PE X (.Name x pos) (fC i):=Dt hN hv hd hcd
end
theorem gV{A B:Prop}(h:B):if false=true then A else B:=by
 rw[cn jc];exact h
theorem gH{A B:Prop}(h:A):if true=true then A else B:=by
 rw[cu rfl];exact h
theorem ite2{c A B:Prop}[Decidable c](h1:c->A)(h2:¬ c->B):if c then A else B:=by
 by_cases h:c
 ·rw[cu h];exact h1 h
 ·rw[cn h];exact h2 h
def Same(H H':Hp):Prop:=∀b o,H b=some o->H' b=some o
theorem Same.refl(H:Hp):Same H H:=fun _ _ h=>h
theorem Same.trans{H H1 H2:Hp}(a:Same H H1)(b:Same H1 H2):Same H H2:=fun c o h=>b c o (a c o h)
theorem Same.seq{K:cw}{H H':Hp}{a:Addr}{xs:List V}(e:Same H H')(h:SqL K H a xs):SqL K H' a xs:=by
 rcases h with (h|⟨o,h⟩)|h
 ·exact .inl (.inl (e _ _ h))
 ·exact .inl (.inr ⟨o,e _ _ h⟩)
 ·exact .inr h
end
section
section
variable {X:Cx}
def CDivX(i j:Int):Prop:=0<j/\j.natAbs.log2<9000
theorem IR:OpR X (mq .FloorDiv) (rI CDivX fun i j=>.int (i/j)):=opI fun i j _ _ _ _ _ hc q=>by
 have h1:(0:Int)<j:=hc.1;exact floordiv_int yw (by rw[Int.fdiv_eq_ediv_of_nonneg i yw];exact q) (.inl (PyProof.noPylong_of_log2 hc.2))
theorem IM:OpR X (mq .Mult) (rI IntMulOk fun i j=>.int (i*j)):=opI fun _ _ _ _ _ _ _ hc q=>mul_int q hc
theorem AW{k:Int}{n:Nat}(h:k.natAbs<2 ^ n):Builtin.Int.intBits k<=n:=by
 unfold Builtin.Int.intBits;split
 ·exact pf _
 ·rename_i h0;have hk:k.natAbs≠0:=by
   intro z;apply h0;rw[Int.natAbs_eq_zero.mp z];rfl
  have:=(Nat.log2_lt hk).mpr h;omega
theorem Hs{i j:Int}(n m:Nat)(hi:i.natAbs<2 ^ n)(hj:j.natAbs<2 ^ m)(hn:n<=2 ^ 20:=by decide)(hm:m<=2 ^ 20:=by decide):IntMulOk i j:=
 .of_bits (lu (AW hi) hn) (lu (AW hj) hm)
theorem dX{i j:Int}(h1:-(2 ^ 64)<i)(h2:i<2 ^ 64):IntMulOk i j:=.of_left (intBits_le_64 h1 h2)
theorem Ah{i j:Int}(h1:-(2 ^ 64)<j)(h2:j<2 ^ 64):IntMulOk i j:=.of_right (intBits_le_64 h1 h2)
theorem uC{n:Int}{k:Nat}(h0:0<n)(h:n<2 ^ k):n.natAbs.log2<k:=by
 refine(Nat.log2_lt yw).mpr ?_;have e:((2 ^ k:Nat):Int)=(2:Int) ^ k:=by simp
 omega
end
def kD:Key->bv
 | .inl i=>.int i
 | .inr x=>.str x
def DOf(H:Hp)(a:Addr)(ks:List bv)(vs:List V):Prop:=
 (∃(ob:Obj) (m:List (Key×V)),H a=some (.frz ob (.dK m))/\ks=m.map (fun p=>kD p.1)/\vs=m.map (·.2)) \/
 ∃(ob:Obj) (p:List Key×V) (m:List (List Key×V)),H a=some (.frz ob (.dT (p::m)))/\ks=(p::m).map (fun p=>.tuple (p.1.map kD))/\vs=(p::m).map (·.2)
mutual
def Has(H:Hp):bv->V->Prop
 | .none,v=>v=.non
 | .bool b,v=>v=.bl b
 | .int i,v=>v=.int i
 | .str x,v=>v=.str x
 | .list ds,v=>∃a vs,v=.ref a/\H a=some (.lst vs)/\HasL H ds vs
 | .tuple ds,v=>∃a vs,v=.ref a/\H a=some (.tup vs)/\HasL H ds vs
 | .dict kvs,v=>∃a vs,v=.ref a/\DOf H a (kvs.map (·.1)) vs/\HasV H kvs vs
def HasL(H:Hp):List bv->List V->Prop
 | [],vs=>vs=[]
 |d::ds,vs=>∃v r,vs=v::r/\Has H d v/\HasL H ds r
def HasV(H:Hp):List (bv×bv)->List V->Prop
 | [],vs=>vs=[]
 |p::ps,vs=>∃v r,vs=v::r/\HasP H p v/\HasV H ps r
def HasP(H:Hp):bv×bv->V->Prop
 | (_,d),v=>Has H d v
end
mutual
theorem Has.mono{H H':Hp}(s:Same H H'):∀(d:bv) (v:V),Has H d v->Has H' d v
 | .none,_,h=>by simp only[Has]at h ⊢;exact h
 | .bool _,_,h=>by simp only[Has]at h ⊢;exact h
 | .int _,_,h=>by simp only[Has]at h ⊢;exact h
 | .str _,_,h=>by simp only[Has]at h ⊢;exact h
 | .list ds,v,h=>by
  simp only[Has]at h ⊢;obtain⟨a,vs,e,q,l⟩:=h;exact⟨a,vs,e,s _ _ q,HasL.mono s ds vs l⟩
 | .tuple ds,v,h=>by
  simp only[Has]at h ⊢;obtain⟨a,vs,e,q,l⟩:=h;exact⟨a,vs,e,s _ _ q,HasL.mono s ds vs l⟩
 | .dict kvs,v,h=>by
  simp only[Has]at h ⊢;obtain⟨a,vs,e,q,l⟩:=h;refine⟨a,vs,e,?_,HasV.mono s kvs vs l⟩;rcases q with ⟨ob,m,e1,e2⟩|⟨ob,p,m,e1,e2⟩
  ·exact .inl ⟨ob,m,s _ _ e1,e2⟩
  ·exact .inr ⟨ob,p,m,s _ _ e1,e2⟩
theorem HasL.mono{H H':Hp}(s:Same H H'):∀(ds:List bv) (vs:List V),HasL H ds vs->HasL H' ds vs
 | [],_,h=>by simp only[HasL]at h ⊢;exact h
 |d::ds,vs,h=>by
  simp only[HasL]at h ⊢;obtain⟨v,r,e,q,l⟩:=h;exact⟨v,r,e,Has.mono s d v q,HasL.mono s ds r l⟩
theorem HasV.mono{H H':Hp}(s:Same H H'):∀(ds:List (bv×bv)) (vs:List V),HasV H ds vs->HasV H' ds vs
 | [],_,h=>by simp only[HasV]at h ⊢;exact h
 |d::ds,vs,h=>by
  simp only[HasV]at h ⊢;obtain⟨v,r,e,q,l⟩:=h;exact⟨v,r,e,HasP.mono s d v q,HasV.mono s ds r l⟩
theorem HasP.mono{H H':Hp}(s:Same H H'):∀(p:bv×bv) (v:V),HasP H p v->HasP H' p v
 | (_,d),v,h=>by
  simp only[HasP]at h ⊢;exact Has.mono s d v h
end
section
variable {H:Hp}{v:V}
theorem fY:Has H .none v↔v=.non:=by simp only[Has]
theorem fP{b:Bool}:Has H (.bool b) v↔v=.bl b:=by simp only[Has]
theorem cM{i:Int}:Has H (.int i) v↔v=.int i:=by simp only[Has]
theorem fD{x:Str}:Has H (.str x) v↔v=.str x:=by simp only[Has]
theorem zU{ds:List bv}:Has H (.list ds) v↔∃a vs,v=.ref a/\H a=some (.lst vs)/\HasL H ds vs:=by simp only[Has]
theorem zO{ds:List bv}:Has H (.tuple ds) v↔∃a vs,v=.ref a/\H a=some (.tup vs)/\HasL H ds vs:=by simp only[Has]
theorem rA{y:List (bv×bv)}:Has H (.dict y) v↔∃a vs,v=.ref a/\DOf H a (y.map (·.1)) vs/\HasV H y vs:=by simp only[Has]
theorem Dm{vs:List V}:HasV H [] vs↔vs=[]:=by simp only[HasV]
theorem zx{vs:List V}:HasL H [] vs↔vs=[]:=by simp only[HasL]
theorem zn{d:bv}{ds:List bv}{vs:List V}:HasL H (d::ds) vs↔∃v r,vs=v::r/\Has H d v/\HasL H ds r:=by simp only[HasL]
theorem HasL.length:∀{ds:List bv}{vs:List V},HasL H ds vs->vs.length=ds.length
 | [],_,h=>by rw[zx.mp h];rfl
 |d::ds,vs,h=>by
  obtain⟨v,r,e,_,l⟩:=zn.mp h;rw[e,im,im,HasL.length l]
theorem HasL.get:∀{ds:List bv}{vs:List V}{i:Nat}{d:bv},HasL H ds vs->ds[i]?=some d->∃v,vs[i]?=some v/\Has H d v
 | [],_,_,_,_,e=>by simp at e
 |c::ds,vs,0,d,h,e=>by
  obtain⟨v,r,rfl,q,_⟩:=zn.mp h;simp at e;subst e;exact⟨v,rfl,q⟩
 |c::ds,vs,i+1,d,h,e=>by
  obtain⟨v,r,rfl,_,l⟩:=zn.mp h;obtain⟨u,e1,e2⟩:=HasL.get (i:=i) (d:=d) l (by simpa using e);exact⟨u,by simpa using e1,e2⟩
theorem HasL.append:∀{ds es:List bv}{vs us:List V},HasL H ds vs->HasL H es us->HasL H (ds++es) (vs++us)
 | [],es,vs,us,h,h'=>by rw[zx.mp h];exact h'
 |d::ds,es,vs,us,h,h'=>by
  obtain⟨v,r,rfl,q,l⟩:=zn.mp h;exact zn.mpr ⟨v,r++us,rfl,q,HasL.append l h'⟩
theorem mI:∀(ns:List Int),HasL H (ns.map .int) (ns.map V.int)
 | []=>zx.mpr rfl
 |n::ns=>zn.mpr ⟨_,_,rfl,cM.mpr rfl,mI ns⟩
end
def tyD:bv->String
 | .none=>"NoneType" | .bool _=>"bool" | .int _=>"int" | .str _=>"str" | .list _=>"list" | .tuple _=>"tuple" | .dict _=>"dict"
theorem Has.ty{K:cw}{H:Hp}{d:bv}{v:V}(h:Has H d v):TyOf K H v (.type (tyD d)):=by
 cases d with
 |none=>rw[fY.mp h];exact .non
 |bool b=>rw[fP.mp h];exact .bl b
 |int i=>rw[cM.mp h];exact .int i
 |str x=>rw[fD.mp h];exact .str x
 |list ds=>obtain⟨a,vs,rfl,e,_⟩:=zU.mp h;exact .lst e
 |tuple ds=>obtain⟨a,vs,rfl,e,_⟩:=zO.mp h;exact .tup e
 |dict kvs=>
  obtain⟨a,vs,rfl,e,_⟩:=rA.mp h;rcases e with ⟨ob,m,e,_⟩|⟨ob,p,m,e,_⟩
  ·exact .dK (.inr ⟨ob,e⟩)
  ·exact .dT (.inr ⟨ob,e⟩)
def rG:List String:=["NoneType","bool","int","str","list","tuple","dict"]
def f6:List String:=["int","bool","str","list","tuple","dict"]
def eT(t c:String):Bool:=t==c||(t == "bool" && c == "int")
def iL(d:bv)(c:String):Bool:=eT (tyD d) c
theorem Fc(d:bv):tyD d∈rG:=by cases d<;>simp[tyD,rG]
theorem HC(K:cw){t c:String}(ht:t∈rG)(hc:c∈f6):W.kitOne K (.type t) (.type c)=some (eT t c):=by
 simp only[rG,f6,lz,lg,or_false]at ht hc;rcases ht with rfl|rfl|rfl|rfl|rfl|rfl|rfl<;>rcases hc with rfl|rfl|rfl|rfl|rfl|rfl<;>rfl
def t8:List V->Hp->VK->Prop
 | [x,.ty c],H,Q=>∃d,Has H d x/\c∈f6/\Q (.bl (iL d c)) H
 |_,_,_=>False
theorem Fe{H:Hp}{d:bv}{x:V}{c:String}{Q:VK}(h:Has H d x)(hc:c∈f6)(q:Q (.bl (iL d c)) H):t8 [x,.ty c] H Q:=⟨d,h,hc,q⟩
section
variable {X:Cx}
theorem iF:CallR X (.builtin "isinstance") t8:=by
 intro zd s σ H xs us Q I r h
 match xs,h with
 | [x,.ty c],h=>
  obtain⟨d,hx,hc,q⟩:=h;obtain⟨u,w',rfl,ru,y⟩:=vals2 r;cases (show w'=ue c from y);exact FS I ru hx.ty (HC X.K (Fc d) hc) fun tk=>⟨.bl _,H,I.tok tk,rfl,q⟩
end
def sp1(p:V->Hp->VK->Prop):Sp:=fun vs H Q _=>match vs with | [x]=>p x H Q|_=>False
def sp2(p:V->V->Hp->VK->Prop):Sp:=fun vs H Q _=>match vs with | [x,y]=>p x y H Q|_=>False
theorem vP{p:V->Hp->VK->Prop}:∀(vs:List V) (H:Hp) (Q:VK) (E:XK),sp1 p vs H Q E->∃x,vs=[x]/\p x H Q:=by
 intro vs H Q E h
 match vs,h with
 | [x],h=>exact⟨x,rfl,h⟩
theorem Ae{p:V->V->Hp->VK->Prop}:∀(vs:List V) (H:Hp) (Q:VK) (E:XK),sp2 p vs H Q E->∃x y,vs=[x,y]/\p x y H Q:=by
 intro vs H Q E h
 match vs,h with
 | [x,y],h=>exact⟨x,y,rfl,h⟩
structure Dd(K:cw)(mg:Str->Option bo)(x:Str)(st:Stmt)(ps:List Str):Prop where
 ex:∃f fd,Fun K x x st f fd/\mg x=some (.ref f)/\Binds K fd ps []
structure Df(P:fq)(w:gw)(K:cw)(mg:Str->Option bo)(base:Heap)(x:Str)(ps:List Str)(k:Nat)(sp:Sp):Prop where
 ex:∃f fd,FnOk P w K mg base CX0 k f fd ps sp/\mg x=some (.ref f)/\W.keepIn K (.ref f)=true/\Binds K fd ps []
section
variable {P:fq}{w:gw}{K:cw}{mg:Str->Option bo}{base:Heap}{x a b c d e:Str}{st:Stmt}{N:List Str}{k:Nat}
theorem Df.of{ps:List Str}{sp:Sp}(D:Dd K mg x st ps)(S:FnScope N ps (zh st))(len:∀vs H Q E,sp vs H Q E->vs.length=ps.length)
  (hbody:∀(f:Addr) (cdv:bo) (A:gh) (outer:List Env) (s:bq) (H:Hp) (vs:List V) (Q:VK) (E:XK),Room k (A.deeper (kc x (zh st) s.heap.objs.size f cdv))->sp vs H Q E ->
   ∃t,PSs (b9 CX0 P w K mg base N x (zh st) f cdv A outer s H E).nox (cV st) t/\t { nx:=fun _ H'=>Q .non H',rt:=Q } (start N vs) H):Df P w K mg base x ps (k+1) sp:=by
 obtain⟨f,fd,F,hm,hb⟩:=D.ex;exact⟨f,fd,F.ok S len (hbody f),hm,F.kp,hb⟩
theorem Df.of2{p:V->V->Hp->VK->Prop}(D:Dd K mg x st [a,b])(S:FnScope N [a,b] (zh st))(σ0:V->V->St)(hs:∀v u,start N [v,u]=σ0 v u)
  (hbody:∀(f:Addr) (aa:bo) (A:gh) (outer:List Env) (s:bq) (H:Hp) (v u:V) (Q:VK) (E:XK),Room k (A.deeper (kc x (zh st) s.heap.objs.size f aa))->p v u H Q ->
   ∃t,PSs (b9 CX0 P w K mg base N x (zh st) f aa A outer s H E).nox (cV st) t/\t { nx:=fun _ H'=>Q .non H',rt:=Q } (σ0 v u) H):Df P w K mg base x [a,b] (k+1) (sp2 p):=by
 refine Df.of D S (fun vs H Q E h=>?_) fun f aa A outer s H vs Q E hr h=>?_
 ·obtain⟨x,y,rfl,_⟩:=Ae vs H Q E h;rfl
 ·obtain⟨x,y,rfl,h⟩:=Ae vs H Q E h;rw[hs];exact hbody f aa A outer s H x y Q E hr h
end
def tC2(p:V->V->Hp->VK->Prop)(ta tb:TE):TE:=fun σ H Q=>ta σ H fun x H1=>tb σ H1 fun y H2=>p x y H2 Q
section
variable {X:Cx}{x a b c d e':Str}{k j:Nat}{pos pos':Pos}{e1 e2 e3 e4 e5:Expr}{t1 t2 t3 t4 t5:TE}
theorem Dg{p:V->V->Hp->VK->Prop}(D:Df X.prog X.w X.K X.mg X.base x [a,b] k (sp2 p))(hr:Room j X.A)(hk:k<=j)(h1:PE X e1 t1)(h2:PE X e2 t2)(hg:Gl X x:=by rfl)(y:(x==("__debug__":Str))=false:=by decide)
  (q1:fc [e1,e2] X.env=(false,eval e1 X.env)::fc [e2] X.env:=by rfl) (q2:fc [e2] X.env=(false,eval e2 X.env)::fc [] X.env:=by rfl)
  (hpl:(kj pos (fc [e2] X.env)).any (·.1)=false:=by rfl):PE X (.Call (.Name x pos') [e1,e2] [] pos) (tC2 p t1 t2):=by
 obtain⟨f,fd,F,hm,kp,hb⟩:=D.ex;intro zd s σ H Q I h;exact tP (dvs:=[]) (ds:=[]) (E:=E0) F (hr.mono hk) hg hm kp hb .nil pass0 (za h1 (za h2 zc q2) q1) y q1 hpl zd s σ H Q I h
end
theorem Dd.mk'{K:cw}{h:Heap}{mg:Str->Option bo}(X:K.In h)(G:h.Ns on mg){x:Str}{st:Stmt}{ps:List Str}{f:Addr}{oc:bo}{od an:Option Addr}{ac:Array (Option bo)}{kV aa pm y ct:bo}
  (a:W.nsIn K on x=some (some (.ref f))) (l:K.lookup f=some ⟨oc,od,.func (W.fnOf x x (iI st) (cV st) (zh st) .none kV aa pm an y ct),ac⟩)
  (c:W.codeIn K y x=true) (k:W.keepIn K (.ref f)=true)
  (hb:∀(kV aa pm:bo) (an:Option Addr) (y ct:bo) (us:List bo),us.length=ps.length->bindArgs (W.fnOf x x (iI st) (cV st) (zh st) .none kV aa pm an y ct) ⟨us,[]⟩=pure (ps.zip us)):Dd K mg x st ps:=
 ⟨f,_,Ad (st:=st) l c k,ud X G a,(Ad (st:=st) l c k).binds hb⟩
theorem aV:iy "len" = some (.builtin "len"):=by decide +kernel
theorem zq:iy "isinstance" = some (.builtin "isinstance"):=by decide +kernel
theorem HQ:iy "max" = some (.builtin "max"):=by decide +kernel
theorem rR:iy "min" = some (.builtin "min"):=by decide +kernel
theorem BS:iy "abs" = some (.builtin "abs"):=by decide +kernel
theorem fA:iy "sorted" = some (.builtin "sorted"):=by decide +kernel
theorem tZ:iy "int" = some (.type "int"):=by decide +kernel
theorem rM:iy "bool" = some (.type "bool"):=by decide +kernel
theorem AQ:iy "list" = some (.type "list"):=by decide +kernel
theorem Aa:iy "tuple" = some (.type "tuple"):=by decide +kernel
section
variable {H:Hp}{Q:VK}
theorem FP{i:Nat}{σ:St}:fC i σ H Q↔match σ[i]? with|some (some v)=>Q v H|_=>False:=by
 unfold fC;constructor
 ·rintro⟨v,e,q⟩;rw[e];exact q
 ·intro h;split at h
  ·rename_i v e;exact⟨v,e,h⟩
  ·exact h.elim
theorem CF{g:Int->Int->V}{i j:Int}:rI0 g (.int i) (.int j) H Q↔Q (g i j) H:=
 ⟨fun⟨_,_,e1,e2,q⟩=>by cases e1;cases e2;exact q,fun q=>⟨i,j,rfl,rfl,q⟩⟩
theorem F7{p:Bool->Prop}{b:Bool}:(∃c,V.bl b=V.bl c/\p c)↔p b:=⟨fun⟨_,e,q⟩=>by cases e;exact q,fun q=>⟨b,rfl,q⟩⟩
end
section
variable {K:cw}{H:Hp}{Q:VK}{x y:V}{d:bv}{ds:List bv}
def tD(K:cw):List V->Hp->VK->Prop:=fun xs H Q=>∃p ys,xs=[.ref p]/\(SqL K H p ys\/SqT K H p ys)/\Q (.int ys.length) H
end
section
variable {X:Cx}
theorem DR:CallR X (.builtin "len") (tD X.K):=CZ
end
def hid(a:Addr)(H:Hp):Hp:=fun b=>if b=a then none else H b
theorem EZ{a b:Addr}{H:Hp}(h:b≠a):hid a H b=H b:=cn h
theorem Ga{a:Addr}{H:Hp}:hid a H a=none:=cu rfl
theorem Same.laid{H:Hp}{p:Addr}{o:HO}(h:H p=none):Same H (upd H p o):=fun b u e=>by
 rw[zH (zC e h)];exact e
section
variable {X:Cx}{zd:List (Addr×Obj)}{σ:St}{H:Hp}{s:bq}{a:Addr}{m:List (Key×V)}
theorem Inv.fz(I:Inv X zd σ H s)(e:H a=some (.dK m)):∃ob,Inv X zd σ (upd H a (.frz ob (.dK m))) s:=by
 have q:=(show ObjOk X.prog X.w H s.heap a (.dK m)from I.hok a _ e);obtain⟨_,_,vs,_,ob,es,ep,h1,_⟩:=id q;exact⟨ob,I.write (x:=a) (e:=a) (o:=.frz ob (.dK m)) (h':=s.heap) (t':=s.toks) (by rw[e];exact True.intro) (.inl rfl) (fun b v _ z=>z) ⟨ob,h1⟩ ⟨h1,q⟩⟩
def A2(t:TE):TE:=fun σ H Q=>t σ H fun v H1=>∃a m,v=.ref a/\H1 a=some (.dK m)/\∀ob,Q v (upd H1 a (.frz ob (.dK m)))
theorem DX{e:Expr}{t:TE}(h:PE X e t):PE X e (A2 t):=fun zd s σ H Q I hw=>
 thn (h zd s σ H _ I hw) fun u s1 ⟨v,H1,I1,r1,a,m,ev,ea,q⟩=>by
  obtain⟨ob,J⟩:=I1.fz ea;exact⟨v,_,J,r1,q ob⟩
end
end
section
theorem lM(d:bv):iL d "int" = match d with | .int _=>true | .bool _=>true|_=>false:=by cases d<;>first|rfl|(show eT _ _=_;simp[eT,tyD])
theorem mY(d:bv):iL d "bool" = match d with | .bool _=>true|_=>false:=by cases d<;>first|rfl|(show eT _ _=_;simp[eT,tyD])
theorem oA(d:bv):iL d "tuple" = match d with | .tuple _=>true|_=>false:=by cases d<;>first|rfl|(show eT _ _=_;simp[eT,tyD])
theorem mQ(d:bv):iL d "list" = match d with | .list _=>true|_=>false:=by cases d<;>first|rfl|(show eT _ _=_;simp[eT,tyD])
def vw:List Addr->Hp->Hp
 | [],H=>H
 |a::r,H=>hid a (vw r H)
def rJ(K:cw):V->V->Hp->VK->Prop:=fun x y H Q=>∃(a:Addr) (ns:List Int) (i:Int),x=.ref a/\y=.int i/\SqL K H a (ns.map V.int)/\0<=i/\∀n,Q (.int n) H
theorem FT{ns:List Int}{i:Int}(h0:0<=i)(h1:i<((ns.map V.int).length:Int)):∃n,atI (ns.map V.int) i=some (.int n):=by
 obtain⟨k,rfl⟩:=Int.eq_ofNat_of_zero_le h0;have hk:k<ns.length:=by rw[fj]at h1;omega
 exact⟨ns[k],jD (by rw[gx,cy hk];rfl)⟩
theorem EI{ns:List Int}{lo hi:Option Int}{x:V}(h:x∈cR (ns.map V.int) lo hi):∃n,x=.int n:=by
 have h1:=mem_of_mem_drop (sy h);obtain⟨n,_,e⟩:=mem_map.mp h1;exact⟨n,e.symm⟩
theorem Fun.bind1{K:cw}{x a:Str}{st:Stmt}{f:Addr}{fd:pk}(F:Fun K x x st f fd)
  (h:∀(kV aa pm:bo) (an:Option Addr) (y ct:bo) (u:bo),bindArgs (W.fnOf x x (iI st) (cV st) (zh st) .none kV aa pm an y ct) ⟨[u],[]⟩=pure [(a,u)]):∀(s:bq) (u:bo),BindsTo s fd ⟨[u],[]⟩ [(a,u)]:=by
 obtain⟨oc,od,kV,aa,pm,an,y,ct,ac,rfl,lk,ae⟩:=F.ex;exact fun s u=>.of_eq (h kV aa pm an y ct u)
def uO(K:cw):V->Hp->VK->Prop:=fun x H Q=>∃(a:Addr) (ns:List Int),x=.ref a/\SqL K H a (ns.map V.int)/\ns.length<=63/\∀H',Q (.bl true) H'
theorem walk_law{l:W.OpenLaw}{k:Nat}{q:fq}{y:List Str}{XP:(Str->Option bo)->Heap->Prop}{YP:gw->Heap->Prop}{d:DefRec}{K:Params->cw}(hn:l.most=some 63)(aa:d.params.defaults=[])
  (hr:Room k callerA) (hY:∀(w:gw) (h:Heap),YP w h->(K w.params).In h) (hT:∀(w:gw) (h:Heap),YP w h->TabsOk (K w.params) h)
  (F:∀(w:gw) (mg:Str->Option bo) (fa:Addr) (h:Heap),(K w.params).In h->h.Ns on mg->mg d.name=some (.ref fa) ->
   ∃fd:pk,(∀(s:bq) (u:bo),BindsTo s fd ⟨[u],[]⟩ [("script",u)])/\∀base:Heap,(K w.params).In base->base.Ns on mg->FnOk l.prog w (K w.params) mg base CX0 k fa fd ["script"] (sp1 (uO (K w.params)))):
  W.WalkO q y XP YP l.row.toRowW d [] (fun f vs=>PySem.call f vs):=
 L2.walk_of (n:=63) (k:=k) (x:="script") (CX:=fun _=>CX0) (sp:=fun w=>sp1 (uO (K w.params))) hn dz aa hr hY hT F (fun _ _ a ns hl _ hS=>⟨a,ns,rfl,hS,hl,fun _=>rfl⟩) fun _ _ _ _ _ z=>z
theorem Fun.ok1{P:fq}{w:gw}{K:cw}{mg:Str->Option bo}{base:Heap}{x a:Str}{st:Stmt}{f:Addr}{fd:pk}{N:List Str}{k:Nat}{p:V->Hp->VK->Prop}(F:Fun K x x st f fd)(S:FnScope N [a] (zh st))(σ0:V->St)(hs:∀v,start N [v]=σ0 v)
  (hbody:∀(y:bo) (A:gh) (outer:List Env) (s:bq) (H:Hp) (v:V) (Q:VK) (E:XK),Room k (A.deeper (kc x (zh st) s.heap.objs.size f y))->p v H Q ->
   ∃t,PSs (b9 CX0 P w K mg base N x (zh st) f y A outer s H E).nox (cV st) t/\t { nx:=fun _ H'=>Q .non H',rt:=Q } (σ0 v) H):FnOk P w K mg base CX0 (k+1) f fd [a] (sp1 p):=by
 refine F.ok S (fun vs H Q E h=>?_) fun y A outer s H vs Q E hr h=>?_
 ·obtain⟨x,rfl,_⟩:=vP vs H Q E h;rfl
 ·obtain⟨x,rfl,h⟩:=vP vs H Q E h;rw[hs];exact hbody y A outer s H x Q E hr h
end
section
mutual
theorem Has.reads{X:Cx}{zd:List (Addr×Obj)}{σ:St}{H:Hp}{s:bq}(I:Inv X zd σ H s):∀(d:bv) (v:V) (u:bo),Has H d v->d.canLay0=true->RelV v u->∃as,Reads s.heap u d as
 | .none,v,u,h,_,r=>by
  rw[fY.mp h]at r;cases (show u=ku from r);exact⟨_,.none⟩
 | .bool b,v,u,h,_,r=>by
  rw[fP.mp h]at r;cases (show u=rh b from r);exact⟨_,.bool b⟩
 | .int i,v,u,h,_,r=>by
  rw[cM.mp h]at r;obtain⟨t,q⟩:=(show ∃t,u=tw i t from r);cases q;exact⟨_,.int i t⟩
 | .str x,v,u,h,_,r=>by
  rw[fD.mp h]at r;obtain⟨t,q⟩:=(show ∃t,u=Value.str x t from r);cases q;exact⟨_,.str x t⟩
 | .list ds,v,u,h,c,r=>by
  obtain⟨a,vs,rfl,e,l⟩:=zU.mp h;cases (show u=fv a from r);obtain⟨_,y,n,rv,e1⟩:=(show ObjOk X.prog X.w H s.heap a (.lst vs)from I.hok a _ e);obtain⟨as,q⟩:=HasL.reads I ds vs y l (by simpa only[oy]using c) rv;exact⟨_,.list e1 rfl rfl (by simpa using q)⟩
 | .tuple ds,v,u,h,c,r=>by
  obtain⟨a,vs,rfl,e,l⟩:=zO.mp h;cases (show u=fv a from r);obtain⟨_,y,rv,o,e1,e2,n,e3⟩:=(show ObjOk X.prog X.w H s.heap a (.tup vs)from I.hok a _ e);obtain⟨as,q⟩:=HasL.reads I ds vs y l (by simpa only[oy]using c) rv;exact⟨_,.tuple e1 e2 e3 (by simpa using q)⟩
 | .dict _,_,_,_,c,_=>by simp[oy]at c
theorem HasL.reads{X:Cx}{zd:List (Addr×Obj)}{σ:St}{H:Hp}{s:bq}(I:Inv X zd σ H s):∀(ds:List bv) (vs:List V) (us:List bo),HasL H ds vs->oh ds=true->Vals vs us->∃as,ReadsAll s.heap us ds as
 | [],vs,us,h,_,r=>by
  rw[zx.mp h]at r;cases r;exact⟨_,.nil⟩
 |d::ds,vs,us,h,c,r=>by
  obtain⟨v,w',rfl,h1,h2⟩:=zn.mp h;have c':d.canLay0=true/\oh ds=true:=by simpa[oh]using c
  cases r with
  |cons r1 r2=>
   obtain⟨as,q1⟩:=Has.reads I d v _ h1 c'.1 r1;obtain⟨bs,q2⟩:=HasL.reads I ds w' _ h2 c'.2 r2;exact⟨_,.cons q1 q2⟩
end
def yB:R2:=fun x y H Q=>∃d e,Has H d x/\Has H e y/\ge d=true/\ge e=true/\Q (.bl (kv d e)) H
def tI:R2:=fun x y H Q=>∃d e,Has H d x/\Has H e y/\ge d=true/\ge e=true/\Q (.bl (!PyData.eqv d e)) H
section
variable {X:Cx}
theorem dW(hu:X.A.units+64<cLine):OpR X (kx .Eq) yB:=by
 intro zd s σ H x y v u Q I rx ry h;obtain⟨d,e,hd,he,sd,se,q⟩:=h;obtain⟨as,q1⟩:=Has.reads I d x v hd (iz sd) rx;obtain⟨bs,q2⟩:=Has.reads I e y u he (iz se) ry;exact eq_dataH q1 q2 sd se hu ⟨.bl _,H,I,rfl,q⟩
theorem kJ(hu:X.A.units+64<cLine):OpR X (kx .NotEq) tI:=by
 intro zd s σ H x y v u Q I rx ry h;obtain⟨d,e,hd,he,sd,se,q⟩:=h;obtain⟨as,q1⟩:=Has.reads I d x v hd (iz sd) rx;obtain⟨bs,q2⟩:=Has.reads I e y u he (iz se) ry;exact ne_dataH q1 q2 sd se hu ⟨.bl _,H,I,rfl,q⟩
end
section
variable {prog:fq}{w:gw}{A:gh}{E:bo->bq->Prop}{s:bq}{l:Addr}
theorem Gb{vs:List bo}{ns:List Int}(hi:jr vs ns):∃xs:Array (Int×Tok),vs.toArray=intItems xs/\ns=xs.toList.map (·.1):=by
 obtain⟨xs,e⟩:=hi.allInts.items;exact⟨xs,e,by rw[<- hi.numsOf,<- nums_intItems,<- e]⟩
end
section
variable {K:cw}{o:List Addr}{σ:St}{H0:Hp}{t t1 t2 t3 t4 t5:TE}{ta:TA}{tt tu:TT}{d d1 d2 d3 d4 d5:bv}{ds:List bv}{b c:Bool}
def eZ:bv->Bool
 | .none=>true
 |_=>false
theorem uW{H:Hp}{v:V}(h:Has H d v):decide (v=.non)=eZ d:=by
 cases d with
 |none=>rw[fY.mp h];rfl
 |bool _=>rw[fP.mp h];rfl
 |int _=>rw[cM.mp h];rfl
 |str _=>rw[fD.mp h];rfl
 |list _=>obtain⟨a,vs,rfl,_⟩:=zU.mp h;rfl
 |tuple _=>obtain⟨a,vs,rfl,_⟩:=zO.mp h;rfl
 |dict _=>obtain⟨a,vs,rfl,_⟩:=rA.mp h;rfl
def y3:R2:=fun x y H Q=>y=.non/\Q (.bl (decide (x=.non))) H
def sF:R2:=fun x y H Q=>y=.non/\Q (.bl (!decide (x=.non))) H
theorem Fa{X:Cx}:OpR X (kx .Is) y3:=GW
theorem AZ{X:Cx}:OpR X (kx .IsNot) sF:=EL
end
end
section
theorem HZ{K:cw}{a:Addr}{ns:List Int}{N:Int}{j:Nat}{tb:TS}{D:Ends}{σ:St}{H:Hp}(P:St->Prop)(h0:σ[0]?=some (some (.ref a)))(hS:SqL K H a (ns.map V.int))(aa:ns.length<=63)(hP:P σ)
  (turn:∀(n:Int) (σ:St) (H1 H2:Hp),P σ->Same H H1->Same H1 H2->tb { D with nx:=fun σ' H'=>Same H1 H'/\P σ',ct:=fun σ' H'=>Same H1 H'/\P σ',bk:=D.nx } (σ.set j (some (.int n))) H2)
  (done:∀(σ:St) (H1:Hp),P σ->Same H H1->D.nx σ H1):
  qJ (rN K (tOp nC (j9 (f7 (tC2 (rJ K) (fC 0) (tC (.int 0))) jU)) (tSl (oS K) (fC 0) (kU (tC (.int 1))) (kU (tC (.int N)))))) (jP j) tb D σ H:=by
 refine⟨_,h0,a,ns,0,rfl,rfl,hS,by decide,fun n0=>⟨by show 1<=fh;decide,fun p hp=>?_⟩⟩;have s1:Same H (upd H p (.lst [.int n0])):=Same.laid hp;refine⟨_,h0,_,rfl,_,rfl,a,_,rfl,s1.seq hS,fun p2 y=>?_⟩;have s2:=s1.trans (Same.laid (o:=.lst (cR (ns.map V.int) (some 1) (some N))) y);have np:p≠p2:=zC cP y;have hz:(cR (ns.map V.int) (some 1) (some N)).length<=63:=lu (uH _ _ _) (by rw[fj];exact aa);refine⟨p,p2,_,_,rfl,rfl,by rw[zH np,cP],cP,om (small1000 (by simp only[im,length_nil];omega)),fun p3 ac=>?_⟩;have s3:=s2.trans (Same.laid (o:=.lst ([V.int n0]++cR (ns.map V.int) (some 1) (some N))) ac);refine⟨p3,rfl,⟨_,.of cP⟩,Hw (K:=K) (a:=p3) (xs:=[V.int n0]++cR (ns.map V.int) (some 1) (some N)) (fun i σ' H'=>Same _ H'/\P σ') ⟨Same.refl _,hP⟩ (fun i σ H4 _ ⟨s4,_⟩=>.of (s4 _ _ cP)) ?_ ?_⟩
 ·rintro i x σ' H4 hi ⟨s4,p4⟩;obtain⟨n,rfl⟩:∃n,x=.int n:=by
   rcases mem_append.mp (bw hi)with m|m
   ·exact⟨n0,mem_singleton.mp m⟩
   ·exact EI m
  exact turn n σ' _ H4 p4 s3 s4
 ·rintro σ' H4 ⟨s4,p4⟩;exact done σ' H4 p4 (s3.trans s4)
end
section
section
variable {prog:fq}{w:gw}{A:gh}{E:bo->bq->Prop}{R:Result->bq->Prop}{s:bq}
theorem E4{elt y iter:Expr}{ifs:List Expr}{scope:Scope}{pos:Pos}{it acc:bo}{env:Env}(I:Nat->bq->Prop)
  (turn:∀n s,I n s->cv (model prog w) A (uc it) (fun r s₁=>match r with
   |none=>R (.ok .next) s₁
   |some v=>cv (model prog w) A (letOwnedTupleGo y it v) (fun _ s₀=>cv (model prog w) A (assign y env v) (fun _ s₂=>
     cv (model prog w) A (forIn ifs true fun c r=>if r=true then do let ok <- isTrue c env (eval c env);pure (qu ok)else pure (qu r)) (fun ok s₃=>
      if ok=true then cv (model prog w) A (eval elt env) (fun x s₄=>
       cv (model prog w) A (call (.builtin "list.append") [acc,x]) (fun _ s₅=>∃m,m<n/\I m s₅) (fun _ _=>False) s₄) (fun _ _=>False) s₃
      else ∃m,m<n/\I m s₃) (fun _ _=>False) s₂) (fun _ _=>False) s₀) (fun _ _=>False) s₁) (fun _ _=>False) s)
  (n:Nat) (h:I n s):
  sx (model prog w) A (.compLoop (.ListComp elt [⟨y,iter,ifs,0⟩] scope pos) 0 it acc env) R s:=by
 have up:∀{α:Type}{t:Sem α}{Q:α->bq->Prop}{E':bo->bq->Prop}{s':bq},cv (model prog w) A t Q (fun _ _=>False) s'->cv (model prog w) A t Q E' s':=fun h=>kl h (fun _ _ q=>q) fun _ _ z=>z.elim;refine codeAny_loop rfl I (fun n s hI=>?_) n h;show cv _ A ((compTurn (.ListComp elt [⟨y,iter,ifs,0⟩] scope pos) 0 it acc env).onRaise (fun x=>do noteFrame x env;theTreesLotGoes x)) _ _ s;refine wpAny_noted ?_;rw[compTurn_list];refine bp (wpAny_standAt (bp (thn (up (turn n s hI)) fun r s₁ h₁=>?_)));cases r with
 |none=>exact cr h₁
 |some v=>
  refine bp (thn (up h₁) fun _ s₀ h₀=>?_);refine bp (thn (up h₀) fun _ s₂ h₂=>bp (thn (up h₂) fun ok s₃ h₃=>?_));cases ok with
  |false=>exact cr ⟨rfl,h₃⟩
  |true=>
   exact bp (bp (thn (up h₃) fun x s₄ h₄=>bp (thn (up h₄) fun _ s₅ h₅=>cr (cr ⟨rfl,h₅⟩))))
end
def bZ(X:Cx)(scope:Scope)(cl:List (Str×Addr))(C:Addr)(s₃:bq)(H₃:Hp)(fp:List Addr)(N:List Str):Cx where
 prog:=X.prog
 w:=X.w
 K:=X.K
 mg:=X.mg
 base:=X.base
 A:=X.A
 N:=N
 s₀:=s₃
 H₀:=H₃
 env:=compEnvC scope cl C X.env
 outer:=X.stack
 stack:=X.stack
 ex:=fp
 fn:=fun _=>false
 calm:=X.calm
 pn:=[]
 xe:=fun _ _=>False
def PTs(X:Cx)(ifs:List Expr)(t:TT):Prop:=
 ∀(zd:List (Addr×Obj)) (s:bq) (σ:St) (H:Hp) (Q:Bool->Hp->Prop),Inv X zd σ H s->t σ H Q ->
  cv (model X.prog X.w) X.A (forIn ifs true fun c r=>if r=true then do let ok <- isTrue c X.env (eval c X.env);pure (qu ok)else pure (qu r)) (TP X zd σ Q) X.xe s
def B7:TT:=fun _ H Q=>Q true H
theorem dA{X:Cx}:PTs X [] B7:=fun _ _ _ H _ I h=>wpAny_tests_nil ⟨H,I,h⟩
theorem wP{X:Cx}{c:Expr}{t:TT}(h:PT X c t):PTs X [c] t:=fun zd s σ H Q I hw=>wpAny_tests_one (h zd s σ H Q I hw)
def tau(caps:List (Option Nat))(σ:St):St:=caps.map fun o=>o.bind fun i=>(σ[i]?).join
def lD(caps:List (Option Nat))(wi:TI)(g:TG)(tt:TT)(te:TE):TE:=fun σ H Q=>wi σ H fun J H1=>∀D,H1 D=none->∃W:Nat->Nat->St->Hp->Prop,(∃m,W 0 m (tau caps σ) (upd H1 D (.lst []))) /\
 ∀i m τ H2,W i m τ H2->(J.stop i H2/\Q (.ref D) H2)\/(J.go i H2/\∀x H3,J.yld i H2 x H3->g x τ H3 fun τ4 H4=>tt τ4 H4 fun b H5=>
  if b=true then te τ4 H5 fun v H6=>∃xs,H6 D=some (.lst xs)/\xs.length<fh/\∃m',m'<m/\W (i+1) m' τ4 (upd H6 D (.lst (xs++[v])))else ∃m',m'<m/\W (i+1) m' τ4 H5)
structure CompOk(X:Cx)(scope:Scope)(cl:List (Str×Addr))(N:List Str)(caps:List (Option Nat)):Prop where
 clos:closureFor scope X.env=pure cl
 sub:∀x c,cl.lookup x=some c->X.env.cells.lookup x=some c
 kind:scope.kind=.function
 cell:∀y∈scope.names,y.2≠.cell
 names:∀y∈scope.names,y.2=.local->scope.names.lookup y.1=some .local
 has:∀x,((relabel scope X.env).names.lookup x=some .cell\/(relabel scope X.env).names.lookup x=some .free)->∃c,cl.lookup x=some c
 cap:∀(j i:Nat) (x:Str),caps[j]?=some (some i)->N[j]?=some x->X.N[i]?=some x/\Vis X.env.scope x/\¬ X.env.kindOf x=some .local/\∃c,cl.lookup x=some c/\((relabel scope X.env).names.lookup x=some .cell\/(relabel scope X.env).names.lookup x=some .free)
 len:caps.length=N.length
section
variable {X:Cx}{scope:Scope}{cl:List (Str×Addr)}{N:List Str}{caps:List (Option Nat)}{tg iter elt:Expr}{ifs:List Expr}{pos:Pos}{wi:TI}{g:TG}{tt:TT}{te:TE}
theorem HN{zd:List (Addr×Obj)}{σ:St}{H:Hp}{s:bq}{fp:List Addr}{h₁:Heap}{t':Nat}(c:CompOk X scope cl N caps)(I:Inv X zd σ H s)(f:∀b∈fp,FpOk X zd H b)(fo:∀b∈fp,∃o,s.heap.get? b=some o)
  (hns:h₁.Ns s.heap.objs.size (fun _=>none)) (hk:∀b o,s.heap.get? b=some o->h₁.get? b=some o):
  Inv (bZ X scope cl s.heap.objs.size s H fp N) [] (tau caps σ) H { s with heap:=h₁,toks:=t' }:=by
 have lt:∀b∈fp,b<s.heap.objs.size:=fun b hb=>by obtain⟨o,e⟩:=fo b hb;exact fw e
 have ac:∀x k,cl.lookup x=some k->∃v,s.heap.IsCell k v:=fun x k e=>I.cell x k (c.sub x k e);refine⟨⟨I.ok.mod,c.kind,I.ok.glob,I.ok.blt,dw _,fun x y k h1 h2=>I.ok.inj x y k (c.sub x k h1) (c.sub y k h2),fun x hx=>c.has x hx,fun x k h _=>absurd (show false=true from h) dz,I.ok.hd,I.ok.frames,.inl rfl,
  fun b hb=>⟨ic (lt b hb),fun x k e=>(f b hb).2.2.2.2.1 x k (c.sub x k e)⟩,I.bs,lu I.ok.bsz I.sz,fun b o e hb=>?_,fun b hb z=>?_,I.stack,I.stkFree⟩,
  rfl,I.bare,Un.kept hk,⟨_,hns,fun j x v h1 h2 h3=>?_⟩,fun x k e=>?_,I.hok.fresh (dw _),fun x k e=>I.freeC x k (c.sub x k e),fun p hp=>absurd (show p∈([]:List (Addr×Obj))from hp) yv,I.hok.kept hk,?_⟩
 ·rcases(f b hb).2.2.2.1 with q|q
  ·exact I.ok.noex b o e q
  ·exact absurd (ix (fw e) (lu I.ok.bsz q)) (nz _)
 ·rcases mem_cons.mp (I.stkSub b z)with q|q
  ·exact(f b hb).2.1 q
  ·exact(f b hb).2.2.1 q
 ·have aa:(caps.map fun o=>o.bind fun i=>(σ[i]?).join)[j]?=some (some v):=h2;rw[gx]at aa;cases e:caps[j]? with
  |none=>rw[e]at aa;cases aa
  |some oi=>
   rw[e]at aa;have h2'':(oi.bind fun i=>(σ[i]?).join)=some v:=gv aa;cases oi with
   |none=>cases h2''
   |some i=>
    have h4:(σ[i]?).join=some v:=h2'';have h5:σ[i]?=some (some v):=by
     cases q:σ[i]? with
     |none=>rw[q]at h4;cases h4
     |some w'=>rw[q]at h4;exact congrArg some h4
    obtain⟨k1,k2,k3,cc,k4,k5⟩:=c.cap j i x e h1;obtain⟨m,hn,hl⟩:=I.loc;obtain⟨u,r,l⟩:=hl i x v k1 h5 k2;refine⟨u,r,.inr ⟨k5,cc,k4,?_⟩⟩;rcases l with ⟨q,_⟩|⟨_,c',hc',hcell⟩
    ·exact(k3 q).elim
    ·rw[c.sub x cc k4]at hc';cases hc';exact hcell.keeps hk
 ·obtain⟨v,q⟩:=ac x k e;exact⟨v,q.keeps hk⟩
 ·show (caps.map _).length=N.length;rw[fj];exact c.len
theorem He{zd:List (Addr×Obj)}{σ τ:St}{H H':Hp}{s s':bq}{h':Heap}{fp:List Addr}(I:Inv X zd σ H s)(f:∀b∈fp,FpOk X zd H b)(J:Inv (bZ X scope cl s.heap.objs.size s H fp N) [] τ H' s')(hs:jm s.heap.objs.size s'.heap h'):
  Inv X zd σ H' { s' with heap:=h' }:=by
 have hC:H' s.heap.objs.size=none:=J.free;have keep:∀b o,b≠s.heap.objs.size->s'.heap.get? b=some o->h'.get? b=some o:=fun b o nb e=>hs.extBut b o nb e;have u1:Un (frs X.stack) (s.heap.objs.size::fp) H H' s.heap s'.heap:=Un.mono J.base (fun b hb=>hb) (fun b hb=>fu _ hb);have u2:Un (frs X.stack) (s.heap.objs.size::fp) H' H' s'.heap h':=
  ⟨fun b o e _ _ hx=>keep b o (fun z=>hx (by rw[z];exact iq)) e,fun b o e _ _ hx=>⟨o.slots,keep b o (fun z=>hx (by rw[z];exact iq)) e⟩,fun _ _ _ n _=>n,fun b o e hx=>⟨o,keep b o (fun z=>hx (by rw[z];exact iq)) e⟩,fun _ _ q=>q,fun _ _ _ q=>q,fun _ _ q=>q⟩
 have hok:HOk X.prog X.w H' h':=fun a o e=>(J.hok a o e).stay (fun b u hb q=>keep b u (fun z=>by
  rcases hb with hb|hb
  ·rw[<- hb,z,hC]at e;cases e
  ·rw[z,hC]at hb;cases hb) q) (fun b q=>q) fun b xs q=>q
 refine I.call' (s':={ s' with heap:=h' }) (ch:=s.heap.objs.size::fp) J.os (u1.trans u2) hok J.bare fun b hb=>?_;rcases mem_cons.mp hb with rfl|hb
 ·refine⟨.inr I.sz,ne_of_gt I.lt,fun x k e z=>?_,fun p hp z=>?_⟩
  ·obtain⟨v,q⟩:=I.cell x k e;exact absurd q.lt (by rw[z];exact nz _)
  ·exact absurd (fw (I.pin p hp).1) (by rw[z];exact nz _)
 ·obtain⟨f0,f1,f2,f3,f4,f5⟩:=f b hb;exact⟨f3,f1,f4,f5⟩
theorem BC{zd:List (Addr×Obj)}{σ:St}{H2:Hp}{s2:bq}{it:Addr}{fp:List Addr}{tn:Nat->Heap->Prop}{J:It}{RR:bo->Addr->Result->bq->Prop}{E:bo->bq->Prop}(hc:X.calm=true)(c:CompOk X scope cl N caps)
  (I2:Inv X zd σ H2 s2) (T:Turn X.prog X.w X.K tg J fp it tn) (st2:tn 0 s2.heap) (f2:∀b∈fp,FpOk X zd H2 b)
  (hg:∀C s H fp,PG (bZ X scope cl C s H fp N) tg g) (ht:∀C s H fp,PTs (bZ X scope cl C s H fp N) ifs tt) (he:∀C s H fp,PE (bZ X scope cl C s H fp N) elt te)
  (Q:VK) (hq:∀D,H2 D=none->∃W:Nat->Nat->St->Hp->Prop,(∃m,W 0 m (tau caps σ) (upd H2 D (.lst []))) /\
   ∀i m τ H2,W i m τ H2->(J.stop i H2/\Q (.ref D) H2)\/(J.go i H2/\∀x H3,J.yld i H2 x H3->g x τ H3 fun τ4 H4=>tt τ4 H4 fun b H5=>
    if b=true then te τ4 H5 fun v H6=>∃xs,H6 D=some (.lst xs)/\xs.length<fh/\∃m',m'<m/\W (i+1) m' τ4 (upd H6 D (.lst (xs++[v])))else ∃m',m'<m/\W (i+1) m' τ4 H5))
  (hRR:∀(D C:Addr) (H':Hp) (s':bq) (m:Str->Option bo),s'.heap.Ns C m->FpOk X zd H' C->(∀h',jm C s'.heap h'->Inv X zd σ H' { s' with heap:=h' })->Q (.ref D) H'->RR (.ref D) C (.ok .next) s'):
  cv (model X.prog X.w) X.A (newList []) (fun acc s₃=>cv (model X.prog X.w) X.A (newFunctionEnv scope X.env.globals cl [] X.env.qual none .none (some X.env)) (fun af s₄=>
   sx (model X.prog X.w) X.A (.compStart (.ListComp elt [⟨tg,iter,ifs,0⟩] scope pos) 0 (.ref it) acc { af with scope:=relabel scope X.env }) (RR acc af.locals) s₄) E s₃) E s2:=by
 have hD:H2 s2.heap.objs.size=none:=I2.hok.fresh (dw _);obtain⟨W,⟨m0,w0⟩,aj⟩:=hq s2.heap.objs.size hD;have I3:Inv X zd σ (upd H2 s2.heap.objs.size (.lst [])) { s2 with heap:=s2.heap.push { cls:=.type "list",data:=.seq ([]:List bo).toArray } }:=I2.laid (t':=s2.toks) (fun b u e=>bx _ e) (dw _) ⟨pf _,[],0,.nil,ff _ rfl⟩;have fo:∀b∈fp,∃o,s2.heap.get? b=some o:=fun b hb=>by obtain⟨o,e,_⟩:=T.obj 0 _ st2 b hb;exact⟨o,e⟩
 have f3:∀b∈fp,FpOk X zd (upd H2 s2.heap.objs.size (.lst [])) b:=fun b hb=>by
  obtain⟨o,e⟩:=fo b hb;refine⟨?_,(f2 b hb).2⟩;rw[zH (ic (fw e))];exact(f2 b hb).1
 refine ji (wpAny_newFunctionEnv c.cell (by intro y hy;simp at hy) (fun h₁ ak am=>?_) c.kind);have hk:∀b o,(s2.heap.push { cls:=.type "list",data:=.seq ([]:List bo).toArray }).get? b=some o->h₁.get? b=some o:=fun b o e=>am.extBut b o (ic (fw e)) (bx _ e);have al:tn 0 h₁:=T.keep 0 _ _ st2 fun b _ o e=>hk b o (bx _ e);have I4:=HN (t':=s2.toks+([]:List (Str×bo)).length) c I3 f3 (fun b hb=>by obtain⟨o,e⟩:=fo b hb;exact⟨o,bx _ e⟩) ak hk;have ac:∀{H':Hp},(∀b∈fp,H' b=none)->∀b∈fp,FpOk (bZ X scope cl (s2.heap.push { cls:=.type "list",data:=.seq ([]:List bo).toArray }).objs.size { s2 with heap:=s2.heap.push { cls:=.type "list",data:=.seq ([]:List bo).toArray } } (upd H2 s2.heap.objs.size (.lst [])) fp N) [] H' b:=fun hn b hb=>
  ⟨hn b hb,(I4.ok.exf b hb).1,I4.ok.exfs b hb,.inl hb,(I4.ok.exf b hb).2,fun p hp=>absurd (show p∈([]:List (Addr×Obj))from hp) yv⟩
 have ae:sx (model X.prog X.w) X.A (.compLoop (.ListComp elt [⟨tg,iter,ifs,0⟩] scope pos) 0 (.ref it) (.ref s2.heap.objs.size) (compEnvC scope cl (s2.heap.push { cls:=.type "list",data:=.seq ([]:List bo).toArray }).objs.size X.env))
   (RR (.ref s2.heap.objs.size) (s2.heap.push { cls:=.type "list",data:=.seq ([]:List bo).toArray }).objs.size) { s2 with heap:=h₁,toks:=s2.toks+([]:List (Str×bo)).length }:=by
  refine E4 (fun n s'=>∃i τ H',Inv (bZ X scope cl (s2.heap.push { cls:=.type "list",data:=.seq ([]:List bo).toArray }).objs.size { s2 with heap:=s2.heap.push { cls:=.type "list",data:=.seq ([]:List bo).toArray } } (upd H2 s2.heap.objs.size (.lst [])) fp N) [] τ H' s'/\tn i s'.heap/\(∀b∈fp,H' b=none)/\W i n τ H') ?_ m0 ⟨0,_,_,I4,al,fun b hb=>(f3 b hb).1,w0⟩;rintro n s5 ⟨i,τ,H5,I5,ai,ah,w5⟩;rcases aj i n τ H5 w5 with ⟨stop,qn⟩|⟨go,step⟩
  ·refine thn (T.done (bZ X scope cl (s2.heap.push { cls:=.type "list",data:=.seq ([]:List bo).toArray }).objs.size { s2 with heap:=s2.heap.push { cls:=.type "list",data:=.seq ([]:List bo).toArray } } (upd H2 s2.heap.objs.size (.lst [])) fp N) rfl rfl rfl hc i [] s5 τ H5 (fun _ _=>False) I5 (ac ah) ai stop) fun r s6 ⟨hr,I6⟩=>?_;subst hr;obtain⟨m,hn,_⟩:=id I6.loc;exact hRR _ _ H5 s6 m hn (I3.fpOk (dw _) I6.free) (fun h' hs=>He I3 f3 I6 hs) qn
  ·refine thn (T.item (bZ X scope cl (s2.heap.push { cls:=.type "list",data:=.seq ([]:List bo).toArray }).objs.size { s2 with heap:=s2.heap.push { cls:=.type "list",data:=.seq ([]:List bo).toArray } } (upd H2 s2.heap.objs.size (.lst [])) fp N) rfl rfl rfl hc i [] s5 τ H5 (fun _ _=>False) I5 (ac ah) ai go) fun r s6 ⟨u,hr,h6⟩=>?_;subst hr;refine thn h6 fun _ s7 ⟨x,H7,I7,r7,y7,ag,aq⟩=>?_;have I7':=I7.pinned (ac aq) (T.obj _ _ ag);refine thn (hg _ _ _ _ _ s7 τ H7 x u _ I7' r7 (step x H7 y7)) fun _ s8 ⟨τ8,H8,I8,q8⟩=>?_;refine thn (ht _ _ _ _ _ s8 τ8 H8 _ I8 q8) fun ok s9 ⟨H9,I9,q9⟩=>?_;have aa:∀{H':Hp}{s':bq}{m:Nat},Inv (bZ X scope cl (s2.heap.push { cls:=.type "list",data:=.seq ([]:List bo).toArray }).objs.size { s2 with heap:=s2.heap.push { cls:=.type "list",data:=.seq ([]:List bo).toArray } } (upd H2 s2.heap.objs.size (.lst [])) fp N) ([]++nO fp s7.heap) τ8 H' s'->(m<n/\W (i+1) m τ8 H') ->
     ∃m,m<n/\∃i τ H',Inv (bZ X scope cl (s2.heap.push { cls:=.type "list",data:=.seq ([]:List bo).toArray }).objs.size { s2 with heap:=s2.heap.push { cls:=.type "list",data:=.seq ([]:List bo).toArray } } (upd H2 s2.heap.objs.size (.lst [])) fp N) [] τ H' s'/\tn i s'.heap/\(∀b∈fp,H' b=none)/\W i m τ H':=fun {H' s' m} I' q=>by
    refine⟨m,q.1,i+1,τ8,H',I'.unpinned,T.keep _ _ _ ag fun b hb o e=>(I'.pin (b,o) (gq _ (gq _ (qZ hb e)))).1,fun b hb=>?_,q.2⟩;obtain⟨o,e,d⟩:=T.obj _ _ ag b hb;exact(I'.pin (b,o) (gq _ (gq _ (qZ hb e)))).2.1
   cases ok with
   |false=>
    rw[cn jc]at q9 ⊢;obtain⟨m',hm,w9⟩:=q9;exact aa I9 ⟨hm,w9⟩
   |true=>
    rw[cu rfl]at q9 ⊢;refine thn (he _ _ _ _ _ s9 τ8 H9 _ I9 q9) fun v ao ⟨z,H10,I10,an,xs,hx,hz,m',hm,ar⟩=>?_;refine thn (pE _ ao τ8 H10 (.ref s2.heap.objs.size) [z] (.ref s2.heap.objs.size) [v] (fun _ H11=>W (i+1) m' τ8 H11) I10 rfl (.cons an .nil) ⟨_,xs,z,rfl,rfl,hx,hz,ar⟩) fun _ au ⟨_,H11,I11,_,ap⟩=>?_;exact aa I11 ⟨hm,ap⟩
 exact codeAny_compStart_list ae (T.self _ 0 _ _ _ al ae)
theorem dJ(hx:∀e s,X.xe e s->False)(hc:X.calm=true)(c:CompOk X scope cl N caps)(hi:PI X tg iter wi)(hg:∀C s H fp,PG (bZ X scope cl C s H fp N) tg g)(ht:∀C s H fp,PTs (bZ X scope cl C s H fp N) ifs tt)(he:∀C s H fp,PE (bZ X scope cl C s H fp N) elt te)
  (hs:∀x,foldedSetIterable iter X.env x=pure x:=by intro _;rfl):PE X (.ListComp elt [⟨tg,iter,ifs,0⟩] scope pos) (lD caps wi g tt te):=by
 intro zd s σ H Q I h;rw[eval_ListComp];refine wpAny_comprehension_free (use:=none) rfl hs c.clos c.kind c.names (thn (hi zd s σ H _ I h) fun v s1 h1=>thn h1 fun aa s2 h2=>?_);obtain⟨it,fp,tn,J,H2,e,I2,T,y,f2,q2⟩:=h2;subst e;exact BC (RR:=fun acc C=>compPost (model X.prog X.w) X.A X.xe none (EP X zd σ Q) acc C) hc c I2 T y f2 hg ht he Q q2 fun D C H' s' m hn _ hb q=>⟨m,hn,fun h' hs=>⟨.ref D,H',hb h' hs,rfl,q⟩⟩
theorem BT{i:Nat}{y:Str}{py aa:Pos}(hx:∀e s,X.xe e s->False)(hc:X.calm=true)(c:CompOk X scope cl N caps)(hN:X.N.Nodup)(ae:X.N[i]?=some y)(hl:X.env.scope.names.lookup y=some .local)(hi:PI X tg iter wi)(hg:∀C s H fp,PG (bZ X scope cl C s H fp N) tg g)
  (ht:∀C s H fp,PTs (bZ X scope cl C s H fp N) ifs tt) (he:∀C s H fp,PE (bZ X scope cl C s H fp N) elt te)
  (hsw:swapsWith (.ListComp elt [⟨tg,iter,ifs,0⟩] scope pos) (some (.Name y py)) aa.line X.env=pure true:=by rfl)
  (hs:∀x,foldedSetIterable iter X.env x=pure x:=by intro _;rfl):PS X (.Assign [.Name y py] (.ListComp elt [⟨tg,iter,ifs,0⟩] scope pos) aa) (j6 (lD caps wi g tt te) (jP i)):=by
 intro zd s σ H D I h;rw[exec_Assign_Name_used _ _ _ _ hsw];refine bp (wpAny_standAt (bp ?_));show cv _ X.A (do let _ <- comprehension (.ListComp elt [⟨tg,iter,ifs,0⟩] scope pos) scope X.env _ (newList []) false (eval iter X.env) (some (assign (.Name y py) X.env))) _ _ s;refine bp (kl (wpAny_comprehension_free (use:=some (assign (.Name y py) X.env)) (Q:=fun _ s'=>SP X zd D .next s') rfl hs c.clos c.kind c.names (thn (hi zd s σ H _ I h) fun v s1 h1=>thn h1 fun af s2 h2=>?_)) (fun _ s' hq=>cr (cr hq)) fun _ _ e=>e);obtain⟨it,fp,tn,J,H2,e,I2,T,ac,f2,q2⟩:=h2;subst e;refine BC (RR:=fun acc C=>compPost (model X.prog X.w) X.A X.xe (some (assign (.Name y py) X.env)) (fun _ s'=>SP X zd D .next s') acc C) hc c I2 T ac f2 hg ht he (fun v H'=>D.nx (σ.set i (some v)) H') q2 fun Da C H' s' m hn f hb q=>?_;obtain⟨o,es,ep,ho,hd,r⟩:=hn;have I':Inv X zd σ H' s':=hb s'.heap (Heap.SameBut.refl _ _);have I'':Inv X (zd++[(C,o)]) σ H' s':=I'.pins_of fun p hp=>(mem_append.mp hp).elim (fun z=>I'.pin p (gq _ z)) fun z=>by
  cases mem_singleton.mp z;exact⟨ho,f.1,f.2.1,f.2.2.1,fun v e=>by rw[hd]at e;cases e⟩
 refine wpAny_assign_Name (pX I'' hN ae (.inl hl) (show RelV (V.ref Da) (fv Da)from rfl) (fun s2 J2=>?_) (.inr hl));refine⟨m,⟨o,es,ep,(J2.pin (C,o) (gq _ (gq _ (mem_singleton.mpr rfl)))).1,hd,r⟩,fun h' hs=>?_⟩;exact⟨_,H',J2.unpinned.turned (t':=s2.toks) (fun b ob nb e=>hs.extBut b ob nb e) f.1 f.2.1 f.2.2.2.1 f.2.2.2.2.1 f.2.2.2.2.2,q⟩
end
def eI(env:Env):List (Str×pp)->List (Str×Addr)->List (Str×Addr)
 | [],acc=>acc
 | (n,k)::r,acc=>eI env r (if k==.free then (n,(env.cells.lookup n).getD 0)::acc else acc)
theorem wX{env:Env}{x:Str}{c:Addr}:∀{names:List (Str×pp)}{acc:List (Str×Addr)},(x,c)∈eI env names acc->(x,c)∈acc\/((x,NameKind.free)∈names/\c=(env.cells.lookup x).getD 0)
 | [],_,h=>.inl h
 | (n,k)::r,acc,h=>by
  rcases wX (names:=r) h with h|⟨h,e⟩
  ·by_cases hk:k==.free
   ·rw[cu hk]at h;rcases mem_cons.mp h with h|h
    ·cases h;have:k=.free:=by simpa using hk
     subst this;exact .inr ⟨iq,rfl⟩
    ·exact .inl h
   ·rw[cn hk]at h;exact .inl h
  ·exact .inr ⟨fu _ h,e⟩
theorem Bl{env:Env}{p:Str×Addr}:∀{names:List (Str×pp)}{acc:List (Str×Addr)},p∈acc->p∈eI env names acc
 | [],_,h=>h
 | (n,k)::r,acc,h=>Bl (names:=r) (by split<;>first|exact fu _ h|exact h)
theorem tF{env:Env}{x:Str}:∀{names:List (Str×pp)}{acc:List (Str×Addr)},(x,NameKind.free)∈names->∃c,(x,c)∈eI env names acc
 | (n,k)::r,acc,h=>by
  rcases mem_cons.mp h with h|h
  ·cases h;exact⟨_,Bl (names:=r) (by rw[cu dz];exact iq)⟩
  ·exact tF (names:=r) h
theorem uD{β:Type}{x:Str}{c:β}:∀{l:List (Str×β)},(x,c)∈l->∃c',l.lookup x=some c'
 | (n,v)::r,h=>by
  cases e:x==n with
  |true=>exact⟨v,by rw[oo,e]⟩
  |false=>
   rcases mem_cons.mp h with h|h
   ·cases h;simp at e
   ·obtain⟨c',q⟩:=uD (l:=r) h;exact⟨c',by rw[oo,e];exact q⟩
theorem Fj{env:Env}{scope:Scope}(h:∀y∈scope.names,y.2=.free->(env.cells.lookup y.1).isSome=true):closureFor scope env=pure (eI env scope.names []):=by
 have go:∀(names:List (Str×pp)) (acc:List (Str×Addr)),(∀y∈names,y.2=.free->(env.cells.lookup y.1).isSome=true) ->
   (forIn names acc (fun(x:Str×pp) (cs:List (Str×Addr))=>(if x.2==.free then (do let c <- cellOf env x.1;pure (qu ((x.1,c)::cs)))else pure (qu cs):Sem (ForInStep (List (Str×Addr))))))=(pure (eI env names acc):Sem (List (Str×Addr))):=by
  intro names;induction names with
  |nil=>intro acc _;rfl
  |cons y r ih=>
   intro acc hy;obtain⟨n,k⟩:=y;rw[List.forIn_cons];by_cases hk:k==.free
   ·have hs:=hy (n,k) iq (by simpa using hk);obtain⟨c,hc⟩:=isSome_iff_exists.mp hs;have ac:env.cells.lookup n=some c:=hc;simp only[hk,if_true,cellOf,ac,pure_bind,eI,Option.getD_some];exact ih _ fun y aa=>hy y (fu _ aa)
   ·simp only[hk,fg,if_false,pure_bind,eI];exact ih _ fun y aa=>hy y (fu _ aa)
 have g:=go scope.names [] h;exact(bind_pure _).trans g
def b8(DN:List Str)(dsc sc:List (Str×pp))(N:List Str)(caps:List (Option Nat)):Bool:=
 (caps.length==N.length)&&sc.all (fun y=>y.2 != .cell&&(y.2 != .free||dsc.lookup y.1==some .cell)&&(y.2 != .local||sc.lookup y.1==some .local)) &&
 (caps.zip N).all fun p=>match p.1 with|none=>true|some i=>DN[i]?==some p.2&&dsc.lookup p.2==some .cell&&sc.lookup p.2==some .free
theorem u6{dsc:List (Str×pp)}{env:Env}{x:Str}{k:pp}:∀{names:List (Str×pp)},(names.map fun(n,k)=>if (k==.free&&env.scope.kind==.function&&env.kindOf n==some .cell)then (n,.cell)else (n,k)).lookup x=some k ->
  ∃k',names.lookup x=some k'/\(k'=k\/(k'=.free/\k=.cell))
 | [],h=>by simp at h
 | (n,k0)::r,h=>by
  cases e:x==n with
  |true=>
   refine⟨k0,by rw[oo,e],?_⟩;rw[kq]at h;dsimp only at h;split at h
   ·rename_i hc;rw[oo,e]at h;have:k0=.free:=by simp at hc;exact hc.1.1
    cases h;exact .inr ⟨this,rfl⟩
   ·rw[oo,e]at h;cases h;exact .inl rfl
  |false=>
   rw[kq]at h;dsimp only at h;have h':(r.map fun(n,k)=>if (k==NameKind.free&&env.scope.kind==.function&&env.kindOf n==some .cell)then (n,NameKind.cell)else (n,k)).lookup x=some k:=by
    split at h<;>(rw[oo,e]at h;exact h)
   obtain⟨k',q,z⟩:=u6 (dsc:=dsc) h';exact⟨k',by rw[oo,e];exact q,z⟩
theorem Bq{env:Env}{x:Str}(h1:env.scope.kind=.function)(h2:env.kindOf x=some .cell):∀{names:List (Str×pp)},names.lookup x=some .free ->
  (names.map fun(n,k)=>if (k==.free&&env.scope.kind==.function&&env.kindOf n==some .cell)then (n,.cell)else (n,k)).lookup x=some .cell
 | [],h=>by simp at h
 | (n,k0)::r,h=>by
  rw[kq];cases e:x==n with
  |true=>
   rw[oo,e]at h;cases h;have en:x=n:=by simpa using e
   subst en;dsimp only;rw[cu (by rw[h1,h2];decide),oo,e]
  |false=>
   rw[oo,e]at h;have ih:=Bq h1 h2 (names:=r) h;dsimp only;split<;>(rw[oo,e];exact ih)
theorem cL{X:Cx}{dsc:Scope}{L:Nat}{scope:Scope}{N:List Str}{caps:List (Option Nat)}(hd:X.env.scope=dsc)(hc:X.env.cells=cellsFrom L dsc.names [])(ag:dsc.kind=.function)(hk:scope.kind=.function)(h:b8 X.N dsc.names scope.names N caps=true):
  CompOk X scope (eI X.env scope.names []) N caps:=by
 subst hd;simp only[b8,ki,nq,beq_iff_eq]at h;obtain⟨⟨hl,hs⟩,hz⟩:=h;have ae:∀y∈scope.names,y.2=.free->X.env.scope.names.lookup y.1=some .cell:=fun y hy e=>by
  have q:=(hs y hy).1.2;rw[e]at q;simpa using q
 have aa:∀y∈scope.names,y.2≠.cell:=fun y hy e=>by
  have q:=(hs y hy).1.1;rw[e]at q;simp at q
 have ac:∀x,X.env.scope.names.lookup x=some .cell->(X.env.cells.lookup x).isSome=true:=fun x e=>by
  rw[hc];exact W.cellsFrom_some _ _ _ (.inl e)
 have sub:∀x c,(eI X.env scope.names []).lookup x=some c->X.env.cells.lookup x=some c:=fun x c e=>by
  rcases wX (PySem.mem_of_lookup e)with q|⟨q,ec⟩
  ·cases q
  ·obtain⟨c',af⟩:=isSome_iff_exists.mp (ac x (ae _ q rfl));rw[ec,af];rfl
 refine⟨Fj fun y hy e=>ac y.1 (ae y hy e),sub,hk,aa,fun y hy e=>?_,fun x hx=>?_,fun j i x h1 h2=>?_,hl⟩
 ·have q:=(hs y hy).2;rw[e]at q;simpa using q
 ·have fin:(x,NameKind.free)∈scope.names->∃c,(eI X.env scope.names []).lookup x=some c:=fun m=>by
   obtain⟨c,hm⟩:=tF (env:=X.env) (acc:=[]) m;exact uD hm
  rcases hx with hx|hx
  ·obtain⟨k',q,z⟩:=u6 (dsc:=[]) hx;rcases z with rfl|⟨rfl,_⟩
   ·exact absurd rfl (aa _ (PySem.mem_of_lookup q))
   ·exact fin (PySem.mem_of_lookup q)
  ·obtain⟨k',q,z⟩:=u6 (dsc:=[]) hx;rcases z with rfl|⟨_,z⟩
   ·exact fin (PySem.mem_of_lookup q)
   ·cases z
 ·have hm:(some i,x)∈caps.zip N:=by
   have:(caps.zip N)[j]?=some (some i,x):=by rw[List.getElem?_zip_eq_some];exact⟨h1,h2⟩
   exact bw this
  have q:=hz _ hm;simp only[ki,beq_iff_eq]at q;obtain⟨⟨q1,q2⟩,q3⟩:=q;obtain⟨c,ah⟩:=tF (env:=X.env) (acc:=[]) (PySem.mem_of_lookup q3);obtain⟨c',af⟩:=uD ah;refine⟨q1,.inr (.inl q2),fun z=>?_,c',af,.inl (Bq ag q2 q3)⟩;have z':X.env.scope.names.lookup x=some .local:=z;rw[q2]at z';cases z'
end
section
section
variable {X:Cx}
def AF:R2:=fun x y H Q=>∃z n,x=.str z/\y=.int n/\z.length<=1000/\n<=1000/\-1000<=n/\Q (.str (PySem.Txt.mul z n)) H
theorem IY{z:Str}{n:Int}(h1:z.length<=1000)(h2:n<=1000)(h3:-1000<=n):PySem.MulOk z n:=by
 refine⟨by simp;omega,fun a _ b=>?_,fun a _=>?_⟩
 ·have e:(1000:Int)<=(2 ^ 63-1)/n:=by
   rw[Int.le_ediv_iff_mul_le yw];have:=Int.mul_le_mul_of_nonneg_left h2 (show (0:Int)<=1000 by decide);omega
  omega
 ·have e:z.length*n.toNat<=1000*1000:=Nat.mul_le_mul h1 yw;unfold Builtin.Str.tooLong;simp only[decide_eq_false_iff_not,Nat.not_lt];exact lu e dz
theorem HA:OpR X (mq .Mult) AF:=by
 intro zd s σ H x y v u Q I rx ry h;obtain⟨z,n,rfl,rfl,h1,h2,h3,q⟩:=h;obtain⟨t,rfl⟩:=rx;obtain⟨t',rfl⟩:=ry;exact PySem.SB.mul (IY h1 h2 h3) fun _ k=>⟨.str _,H,I.tok _,⟨_,rfl⟩,q⟩
def BP:V->Option Int->Option Int->Hp->VK->Prop:=fun x lo hi H Q=>∃z,x=.str z/\z.length<=fh/\Q (.str (PySem.Txt.slice z lo hi)) H
theorem C2:SlR X BP:=by
 intro zd s σ H x v vl vu lo hi sl Q I rx hs pl pu h;obtain⟨z,rfl,hz,q⟩:=h;obtain⟨t,rfl⟩:=rx;refine⟨"str",_,F.slot_str_getitem.lookup,typeIs_str _ _ _,?_⟩;have fin:∀(a b:Option (Int×Tok)),a.map (·.1)=lo->b.map (·.1)=hi->s.heap.IsSlice sl a b none->cv (model X.prog X.w) X.A (getItem (.str z t) (.ref sl)) (EP X zd σ Q) X.xe s:=fun a b e1 e2 y=>by
  subst e1 e2;exact wpAny_getItem_str_slice (l:=a) (u:=b) (st:=none) y rfl (post_val_or_str ⟨lu (PySem.Txt.slice_le z _ _) hz,fun _ k=>⟨.str _,H,I.tok _,⟨_,rfl⟩,q⟩⟩)
 cases pl with
 |none=>
  cases pu with
  |none=>exact fin none none rfl rfl hs
  |int j tj=>exact fin none (some (j,tj)) rfl rfl hs
 |int i ti=>
  cases pu with
  |none=>exact fin (some (i,ti)) none rfl rfl hs
  |int j tj=>exact fin (some (i,ti)) (some (j,tj)) rfl rfl hs
end
section
variable {K:cw}{o:List Addr}{σ:St}{H0:Hp}{t:TE}{ta:TA}{ds:List bv}
def gX(lo:Int)(n:Nat):List bv:=(ir n).map fun k:Nat=>.int (lo+k)
theorem jI{lo:Int}{n:Nat}:(gX lo n).length=n:=by simp[gX]
theorem tQ{lo:Int}{n i:Nat}{d:bv}(h:(gX lo n)[i]?=some d):i<n/\d=.int (lo+i):=by
 have hi:i<n:=by
  have:=List.getElem?_eq_some_iff.mp h;obtain⟨hl,_⟩:=this
  rwa [jI]at hl
 refine⟨hi,?_⟩;simp only[gX,gx,rn hi,map_some,Option.some.injEq]at h;exact h.symm
end
def cN{α:Type}(xs:List α)(lo hi:Option Int):List α:=(xs.drop (HT.sIx xs.length 0 lo)).take (HT.sIx xs.length xs.length hi-HT.sIx xs.length 0 lo)
theorem HasL.drop{H:Hp}:∀{ds:List bv}{vs:List V} (n:Nat),HasL H ds vs->HasL H (ds.drop n) (vs.drop n)
 |ds,vs,0,h=>h
 | [],vs,n+1,h=>by rw[zx.mp h];exact zx.mpr rfl
 |d::ds,vs,n+1,h=>by
  obtain⟨v,r,rfl,_,l⟩:=zn.mp h;exact HasL.drop n l
theorem HasL.take{H:Hp}:∀{ds:List bv}{vs:List V} (n:Nat),HasL H ds vs->HasL H (ds.take n) (vs.take n)
 |ds,vs,0,h=>zx.mpr rfl
 | [],vs,n+1,h=>by rw[zx.mp h];exact zx.mpr rfl
 |d::ds,vs,n+1,h=>by
  obtain⟨v,r,rfl,q,l⟩:=zn.mp h;exact zn.mpr ⟨v,_,rfl,q,HasL.take n l⟩
theorem HasL.cut{H:Hp}{ds:List bv}{vs:List V}(lo hi:Option Int)(h:HasL H ds vs):HasL H (cN ds lo hi) (cR vs lo hi):=by
 unfold cN cR;rw[h.length];exact(h.drop _).take _
end
section
theorem BJ:∀{l:List Addr}{H:Hp}{b:Addr}{u:HO},vw l H b=some u↔b∉l/\H b=some u
 | [],H,b,u=>by simp[vw]
 |a::r,H,b,u=>by
  show hid a (vw r H) b=some u↔_;by_cases h:b=a
  ·subst h;simp[Ga]
  ·rw[EZ h,BJ];simp[h]
def vx(h o:List Addr)(H:Hp):Hp:=vw (h++o) H
theorem zW{h o:List Addr}{H:Hp}{b:Addr}{u:HO}:vx h o H b=some u↔b∉h/\b∉o/\H b=some u:=by
 unfold vx;rw[BJ];simp[and_assoc]
theorem zG{h o:List Addr}{H:Hp}:Same (vx h o H) H:=fun b u e=>(zW.mp e).2.2
theorem lV{h o:List Addr}{H H':Hp}(s:Same H H'):Same (vx h o H) (vx h o H'):=fun b u e=>by
 obtain⟨h1,h2,h3⟩:=zW.mp e;exact zW.mpr ⟨h1,h2,s b u h3⟩
structure Ex(o:List Addr)(H:Hp)(o':List Addr)(H':Hp):Prop where
 pre:∃r,o'=o++r
 kp:∀b u,b∉o->H b=some u->b∉o'/\H' b=some u
section
variable {h o o' o'':List Addr}{H H' H'':Hp}{S:List (List bv)}{p a:Addr}
theorem Ex.refl:Ex o H o H:=⟨⟨[],yv⟩,fun _ _ a b=>⟨a,b⟩⟩
theorem Ex.trans(a:Ex o H o' H')(b:Ex o' H' o'' H''):Ex o H o'' H'':=by
 obtain⟨⟨r,e⟩,ka⟩:=a;obtain⟨⟨t,e'⟩,kb⟩:=b;refine⟨⟨r++t,by rw[e',e,ly]⟩,fun b u h1 h2=>?_⟩;obtain⟨h3,h4⟩:=ka b u h1 h2;exact kb b u h3 h4
theorem Ex.vx(e:Ex o H o' H'):Same (L2.vx h o H) (L2.vx h o' H'):=fun b u q=>by
 obtain⟨h1,h2,h3⟩:=zW.mp q;obtain⟨h4,h5⟩:=e.kp b u h2 h3;exact zW.mpr ⟨h1,h4,h5⟩
structure ExH(h o:List Addr)(H:Hp)(o':List Addr)(H':Hp):Prop where
 pre:∃r,o'=o++r
 kp:∀b u,b∉h->b∉o->H b=some u->b∉o'/\H' b=some u
theorem Ex.hid(e:Ex o H o' H'):ExH h o H o' H':=⟨e.pre,fun b u _=>e.kp b u⟩
theorem ExH.vx(e:ExH h o H o' H'):Same (L2.vx h o H) (L2.vx h o' H'):=fun b u q=>by
 obtain⟨h1,h2,h3⟩:=zW.mp q;obtain⟨h4,h5⟩:=e.kp b u h1 h2 h3;exact zW.mpr ⟨h1,h4,h5⟩
theorem Ex.of_same(s:Same H H'):Ex o H o H':=⟨⟨[],yv⟩,fun b u h e=>⟨h,s b u e⟩⟩
theorem fS{α:Type}{l t:List α}{k:Nat}{a:α}(q:l[k]?=some a):(l++t)[k]?=some a:=by
 obtain⟨hk,_⟩:=List.getElem?_eq_some_iff.mp q;rw[fy hk];exact q
def exO(a C:Addr)(d:Option Addr):HO:=.ext fun h=>∃o,h.get? a=some o/\o.cls=.ref C/\o.dict=d/\∃vs,o.data=.fields vs/\vs[2]?=some .none
def xw(dx:Addr)(fs:List (Str×V)):HO:=.ext fun h=>∃mA,h.Ns1 dx mA/\(∀f,RelO (fs.lookup f) (mA f))/\PySem.Within mA (fs.map (·.1))
def HasE(H:Hp)(C:Addr)(fs:List (Str×bv))(v:V):Prop:=∃a d,v=.ref a/\H a=some (exO a C d)/\∀f dt,fs.lookup f=some dt->∃dx vs u,d=some dx/\H dx=some (xw dx vs)/\vs.lookup f=some u/\Has H dt u
theorem HasE.mono{H H':Hp}{C:Addr}{fs:List (Str×bv)}{v:V}(s:Same H H')(q:HasE H C fs v):HasE H' C fs v:=by
 obtain⟨a,d,e,ha,hf⟩:=q;refine⟨a,d,e,s _ _ ha,fun f dt l=>?_⟩;obtain⟨dx,vs,u,e1,e2,e3,e4⟩:=hf f dt l;exact⟨dx,vs,u,e1,s _ _ e2,e3,Has.mono s _ _ e4⟩
inductive XV where
 |d (d:bv)
 |l (k:Nat)
 |o (v:V)
 |x (C:Addr) (fs:List (Str×bv))
 |p (k:Nat) (d:bv)
def HasLP(h o:List Addr)(H:Hp)(k:Nat)(d:bv)(v:V):Prop:=∃t a u,v=.ref t/\o[k]?=some a/\vx h o H t=some (.tup [.ref a,u])/\Has (vx h o H) d u
theorem HasLP.to{h':List Addr}{k:Nat}{d:bv}{v:V}(s:Same (vx h o H) (vx h' o' H'))(e:∀a,o[k]?=some a->o'[k]?=some a)(q:HasLP h o H k d v):HasLP h' o' H' k d v:=by
 obtain⟨t,a,u,e1,e2,e3,e4⟩:=q;exact⟨t,a,u,e1,e a e2,s _ _ e3,Has.mono s _ _ e4⟩
def HasX(h o:List Addr)(H:Hp):XV->V->Prop
 | .d d,v=>Has (vx h o H) d v
 | .l k,v=>∃a,o[k]?=some a/\v=.ref a
 | .o w,v=>v=w
 | .x C fs,v=>HasE (vx h o H) C fs v
 | .p k d,v=>HasLP h o H k d v
theorem HasX.mono(e:Ex o H o' H'):∀{x:XV}{v:V},HasX h o H x v->HasX h o' H' x v
 | .d d,v,q=>Has.mono e.vx d v q
 | .l k,v,⟨a,q,r⟩=>by
  obtain⟨t,rfl⟩:=e.pre;exact⟨a,fS q,r⟩
 | .o w,v,q=>q
 | .x C fs,v,q=>HasE.mono e.vx q
 | .p k d,v,q=>by
  have ev:=e.vx (h:=h);obtain⟨t,rfl⟩:=e.pre;exact HasLP.to ev (fun a z=>fS z) q
def HasXs(h o:List Addr)(H:Hp):List XV->List V->Prop
 | [],vs=>vs=[]
 |x::xs,vs=>∃v r,vs=v::r/\HasX h o H x v/\HasXs h o H xs r
abbrev Sto:=List (List bv)
inductive MO where
 |l (vs:List V)
 |k (m:List (Key×V))
 |t (m:List (List Key×V))
 |x (a:Addr) (ob:Obj)
def MO.ho:MO->HO
 | .l vs=>.lst vs
 | .k m=>.dK m
 | .t m=>.dT m
 | .x a ob=>obO a ob
structure RepS(h o:List Addr)(H:Hp)(S:Sto):Prop where
 len:S.length=o.length
 nd:o.Nodup
 dis:∀a∈o,a∉h
 hal:∀b∈h,∃u:MO,H b=some u.ho
 cont:∀(k:Nat) (a:Addr) (ds:List bv),o[k]?=some a->S[k]?=some ds->∃vs,H a=some (.lst vs)/\HasL (vx h o H) ds vs
theorem FH{α β:Type}{l:List α}{t:List β}{k:Nat}{a:α}(hl:t.length=l.length)(q:l[k]?=some a):∃b,t[k]?=some b:=by
 obtain⟨hk,_⟩:=List.getElem?_eq_some_iff.mp q;exact⟨t[k]'yw,cy _⟩
theorem RepS.oal(r:RepS h o H S):∀a∈o,∃u,H a=some (.lst u):=fun a ha=>by
 obtain⟨k,hk⟩:=mem_iff_getElem?.mp ha;obtain⟨ds,e⟩:=FH r.len hk;obtain⟨vs,e',_⟩:=r.cont k a ds hk e;exact⟨_,e'⟩
theorem RepS.oam(r:RepS h o H S):∀a∈o,∃u:MO,H a=some u.ho:=fun a ha=>let ⟨u,e⟩:=r.oal a ha;⟨.l u,e⟩
theorem RepS.fresh(r:RepS h o H S)(hp:H p=none):p∉h/\p∉o:=by
 constructor
 ·intro m;obtain⟨u,e⟩:=r.hal p m;rw[hp]at e;cases e
 ·intro m;obtain⟨u,e⟩:=r.oal p m;rw[hp]at e;cases e
theorem RepS.same(r:RepS h o H S)(s:Same H H'):RepS h o H' S where
 len:=r.len
 nd:=r.nd
 dis:=r.dis
 hal:=fun b m=>by obtain⟨u,e⟩:=r.hal b m;exact⟨u,s b _ e⟩
 cont:=fun k a ds e1 e2=>by
  obtain⟨vs,e3,l⟩:=r.cont k a ds e1 e2;exact⟨vs,s _ _ e3,HasL.mono (lV s) _ _ l⟩
theorem RepS.laid{u:HO}(r:RepS h o H S)(hp:H p=none):vx h o (upd H p u) p=some u:=by
 obtain⟨h1,h2⟩:=r.fresh hp;exact zW.mpr ⟨h1,h2,cP⟩
theorem Ex.new{u:HO}(r:RepS h o H S)(hp:H p=none):Ex o H (o++[p]) (upd H p u):=by
 refine⟨⟨[p],rfl⟩,fun b w hb e=>?_⟩;have ne:b≠p:=zC e hp;exact⟨by simp[hb,ne],by rw[zH ne];exact e⟩
theorem mR{α:Type}{l:List α}{a:α}(h:l.Nodup)(n:a∉l):(l++[a]).Nodup:=by
 rw[List.nodup_append];refine⟨h,yv,fun x hx y hy e=>?_⟩;rw[oq]at hy;subst hy;subst e;exact n hx
theorem RepS.new{ds:List bv}{vs:List V}(r:RepS h o H S)(hp:H p=none)(l:HasL (vx h o H) ds vs):RepS h (o++[p]) (upd H p (.lst vs)) (S++[ds]):=by
 obtain⟨h1,h2⟩:=r.fresh hp;have ex:Ex o H (o++[p]) (upd H p (.lst vs)):=Ex.new r hp;refine⟨by simp[r.len],mR r.nd h2,fun a ha=>?_,fun b hb=>?_,fun k a es e1 e2=>?_⟩
 ·rcases mem_append.mp ha with ha|ha
  ·exact r.dis a ha
  ·rw[mem_singleton.mp ha];exact h1
 ·obtain⟨u,e⟩:=r.hal b hb;exact⟨u,by rw[zH (zC e hp)];exact e⟩
 ·by_cases hk:k<o.length
  ·rw[fy hk]at e1;rw[fy (by rw[r.len];exact hk)]at e2;obtain⟨ws,e3,l3⟩:=r.cont k a es e1 e2;refine⟨ws,?_,l3.mono ex.vx⟩;rw[zH (zC e3 hp)];exact e3
  ·have y:k=o.length:=by
    obtain⟨q,_⟩:=List.getElem?_eq_some_iff.mp e1;rw[fx,jg]at q;omega
   subst y;rw[fb]at e1;rw[<- r.len,fb]at e2;cases e1;cases e2;exact⟨vs,cP,l.mono ex.vx⟩
theorem Ex.upd{k:Nat}{u:HO}(e:o[k]?=some a):Ex o H o (L2.upd H a u):=
 ⟨⟨[],yv⟩,fun b w hb eb=>⟨hb,by rw[zH (fun z=>hb (by rw[z];exact bw e))];exact eb⟩⟩
theorem lC{l:List Addr}(h:l.Nodup){i j:Nat}{a:Addr}(e1:l[i]?=some a)(e2:l[j]?=some a):i=j:=by
 obtain⟨hi,e1⟩:=List.getElem?_eq_some_iff.mp e1;obtain⟨hj,e2⟩:=List.getElem?_eq_some_iff.mp e2;exact(List.getElem_inj h).mp (e1.trans e2.symm)
theorem RepS.upd{k:Nat}{ds:List bv}{vs:List V}(r:RepS h o H S)(e:o[k]?=some a)(l:HasL (vx h o H) ds vs):RepS h o (L2.upd H a (.lst vs)) (S.set k ds):=by
 have ex:Ex o H o (L2.upd H a (.lst vs)):=Ex.upd e;refine⟨by simp[r.len],r.nd,r.dis,fun b hb=>?_,fun j b es e1 e2=>?_⟩
 ·obtain⟨u,eb⟩:=r.hal b hb;have ne:b≠a:=fun z=>r.dis a (bw e) (z▸hb);exact⟨u,by rw[zH ne];exact eb⟩
 ·by_cases hj:j=k
  ·subst hj;rw[e1]at e;cases e;obtain⟨hk,_⟩:=List.getElem?_eq_some_iff.mp e1;rw[pj (by rw[r.len];exact hk)]at e2;cases e2;exact⟨vs,cP,l.mono ex.vx⟩
  ·rw[su (jq hj)]at e2;obtain⟨ws,e3,l3⟩:=r.cont j b es e1 e2;have ne:b≠a:=fun z=>hj (lC r.nd e1 (z▸e));exact⟨ws,by rw[zH ne];exact e3,l3.mono ex.vx⟩
abbrev XE:=List (Option XV)
structure RepE(h o:List Addr)(H:Hp)(δ:XE)(σ:St):Prop where
 len:δ.length=σ.length
 get:∀(i:Nat) x,δ[i]?=some (some x)->∃v,σ[i]?=some (some v)/\HasX h o H x v
variable {δ:XE}{σ:St}
theorem RepE.mono(r:RepE h o H δ σ)(e:Ex o H o' H'):RepE h o' H' δ σ:=⟨r.len,fun i x q=>by
 obtain⟨v,e1,e2⟩:=r.get i x q;exact⟨v,e1,e2.mono e⟩⟩
theorem RepE.set{i:Nat}{x:XV}{v:V}(r:RepE h o H δ σ)(q:HasX h o H x v):RepE h o H (δ.set i (some x)) (σ.set i (some v)):=by
 refine⟨by simp[r.len],fun j y e=>?_⟩;rw[getElem?_set]at e ⊢;by_cases hij:i=j
 ·rw[cu hij]at e ⊢;by_cases hl:i<δ.length
  ·rw[cu hl]at e;rw[cu (by rw[<- r.len];exact hl)];cases e;exact⟨v,rfl,q⟩
  ·rw[cn hl]at e;cases e
 ·rw[cn hij]at e ⊢;exact r.get j y e
def eK(caps:List (Option Nat))(δ:XE):XE:=caps.map fun o=>o.bind fun i=>(δ[i]?).join
theorem RepE.tau{caps:List (Option Nat)}(r:RepE h o H δ σ):RepE h o H (eK caps δ) (L2.tau caps σ):=by
 refine⟨by simp[eK,L2.tau],fun i x e=>?_⟩;unfold eK at e;unfold L2.tau;rw[gx]at e ⊢;cases hc:caps[i]? with
 |none=>rw[hc]at e;cases e
 |some c=>
  rw[hc]at e;cases c with
  |none=>cases e
  |some j=>
   have e':(δ[j]?).join=some x:=by simpa using e
   have e2:δ[j]?=some (some x):=by
    cases hd:δ[j]? with
    |none=>rw[hd]at e';cases e'
    |some y=>rw[hd]at e';exact congrArg some (by simpa using e')
   obtain⟨v,e3,e4⟩:=r.get j x e2;exact⟨v,by simp[e3],e4⟩
end
abbrev RX:=XV->Sto->Prop
abbrev DE:=XE->Sto->RX->Prop
abbrev DT:=XE->Sto->(Bool->Sto->Prop)->Prop
abbrev DA:=XE->Sto->(List XV->Sto->Prop)->Prop
abbrev D2:=XV->XV->Sto->RX->Prop
def Cn(h o:List Addr)(H:Hp)(R:RX)(Q:VK):Prop:=∀o' H' S' x v,Ex o H o' H'->RepS h o' H' S'->HasX h o' H' x v->R x S'->Q v H'
theorem Cn.pre{h o o':List Addr}{H H':Hp}{R:RX}{Q:VK}(c:Cn h o H R Q)(e:Ex o H o' H'):Cn h o' H' R Q:=fun o2 H2 S2 x v e2=>c o2 H2 S2 x v (e.trans e2)
def RE(t:TE)(dt:DE):Prop:=∀(h o:List Addr) (H:Hp) (δ:XE) (σ:St) (S:Sto) (R:RX) (Q:VK),RepE h o H δ σ->RepS h o H S->dt δ S R->Cn h o H R Q->t σ H Q
def RT(t:TT)(dt:DT):Prop:=∀(h o:List Addr) (H:Hp) (δ:XE) (σ:St) (S:Sto) (R:Bool->Sto->Prop) (Q:Bool->Hp->Prop),RepE h o H δ σ->RepS h o H S->dt δ S R ->
 (∀o' H' S' b,Ex o H o' H'->RepS h o' H' S'->R b S'->Q b H')->t σ H Q
def RA(t:TA)(dt:DA):Prop:=∀(h o:List Addr) (H:Hp) (δ:XE) (σ:St) (S:Sto) (R:List XV->Sto->Prop) (Q:List V->Hp->Prop),RepE h o H δ σ->RepS h o H S->dt δ S R ->
 (∀o' H' S' xs vs,Ex o H o' H'->RepS h o' H' S'->HasXs h o' H' xs vs->R xs S'->Q vs H')->t σ H Q
def RO(r:R2)(rd:D2):Prop:=∀(h o:List Addr) (H:Hp) (S:Sto) (x y:XV) (v u:V) (R:RX) (Q:VK),RepS h o H S->HasX h o H x v->HasX h o H y u->rd x y S R->Cn h o H R Q->r v u H Q
def RU(r:V->Hp->VK->Prop)(rd:XV->Sto->RX->Prop):Prop:=∀(h o:List Addr) (H:Hp) (S:Sto) (x:XV) (v:V) (R:RX) (Q:VK),RepS h o H S->HasX h o H x v->rd x S R->Cn h o H R Q->r v H Q
def RC(r:List V->Hp->VK->Prop)(rd:List XV->Sto->RX->Prop):Prop:=∀(h o:List Addr) (H:Hp) (S:Sto) (xs:List XV) (vs:List V) (R:RX) (Q:VK),RepS h o H S->HasXs h o H xs vs->rd xs S R->Cn h o H R Q->r vs H Q
def asI:XV->(Int->Prop)->Prop
 | .d (.int i),k=>k i
 |_,_=>False
def asB:XV->(Bool->Prop)->Prop
 | .d (.bool i),k=>k i
 |_,_=>False
def asS:XV->(Str->Prop)->Prop
 | .d (.str i),k=>k i
 |_,_=>False
def asT:XV->(List bv->Prop)->Prop
 | .d (.tuple i),k=>k i
 |_,_=>False
def cC(S:Sto):XV->Option (List bv)
 | .d (.list ds)=>some ds
 | .l k=>S[k]?
 |_=>none
def asL(S:Sto)(x:XV)(k:List bv->Prop):Prop:=∃ds,cC S x=some ds/\k ds
def bS(S:Sto):XV->Option bv
 | .d d=>some d
 | .l k=>(S[k]?).map .list
 | .o _=>none
 | .x _ _=>none
 | .p k d=>(S[k]?).map fun l=>.tuple [.list l,d]
def asD(x:XV)(k:bv->Prop):Prop:=match x with
 | .d d=>k d
 |_=>False
theorem bE{x:XV}{k:Int->Prop}(h:asI x k):∃i,x=.d (.int i)/\k i:=by
 unfold asI at h;split at h
 ·exact⟨_,rfl,h⟩
 ·exact h.elim
theorem qI{x:XV}{k:Bool->Prop}(h:asB x k):∃i,x=.d (.bool i)/\k i:=by
 unfold asB at h;split at h
 ·exact⟨_,rfl,h⟩
 ·exact h.elim
theorem FC{x:XV}{k:Str->Prop}(h:asS x k):∃i,x=.d (.str i)/\k i:=by
 unfold asS at h;split at h
 ·exact⟨_,rfl,h⟩
 ·exact h.elim
theorem i4{x:XV}{k:List bv->Prop}(h:asT x k):∃i,x=.d (.tuple i)/\k i:=by
 unfold asT at h;split at h
 ·exact⟨_,rfl,h⟩
 ·exact h.elim
theorem j8{x:XV}{k:bv->Prop}(h:asD x k):∃i,x=.d i/\k i:=by
 unfold asD at h;split at h
 ·exact⟨_,rfl,h⟩
 ·exact h.elim
section
variable {h o:List Addr}{H:Hp}{S:Sto}{x:XV}{v:V}{i:Int}{b:Bool}{z:Str}{ds:List bv}{d:bv}
theorem aU(q:HasX h o H (.d (.int i)) v):v=.int i:=(cM (H:=vx h o H)).mp q
theorem i7(q:HasX h o H (.d (.bool b)) v):v=.bl b:=(fP (H:=vx h o H)).mp q
theorem iJ(q:HasX h o H (.d (.str z)) v):v=.str z:=(fD (H:=vx h o H)).mp q
theorem d9(q:HasX h o H (.d (.tuple ds)) v):∃a vs,v=.ref a/\H a=some (.tup vs)/\HasL (vx h o H) ds vs:=by
 obtain⟨a,vs,e,q,l⟩:=zO.mp (show Has _ _ _ from q);exact⟨a,vs,e,zG _ _ q,l⟩
theorem bQ(r:RepS h o H S)(e:cC S x=some ds)(q:HasX h o H x v):∃a vs,v=.ref a/\H a=some (.lst vs)/\HasL (vx h o H) ds vs:=by
 unfold cC at e;split at e
 ·cases e;obtain⟨a,vs,e,q,l⟩:=zU.mp (show Has _ _ _ from q);exact⟨a,vs,e,zG _ _ q,l⟩
 ·obtain⟨a,e1,rfl⟩:=q;obtain⟨vs,e2,l⟩:=r.cont _ a ds e1 e;exact⟨a,vs,rfl,e2,l⟩
 ·cases e
theorem eX(r:RepS h o H S)(e:bS S x=some d)(q:HasX h o H x v):Has H d v:=by
 unfold bS at e;split at e
 ·cases e;exact Has.mono zG _ _ q
 ·rename_i k;obtain⟨a,e1,rfl⟩:=q;cases hs:S[k]? with
  |none=>rw[hs]at e;cases e
  |some es=>
   rw[hs]at e;cases e;obtain⟨vs,e2,l⟩:=r.cont k a es e1 hs;exact zU.mpr ⟨a,vs,rfl,e2,HasL.mono zG _ _ l⟩
 ·cases e
 ·cases e
 ·rename_i k d';obtain⟨t,a,u,rfl,e1,e3,e4⟩:=q;cases hs:S[k]? with
  |none=>rw[hs]at e;cases e
  |some es=>
   rw[hs]at e;cases e;obtain⟨vs,e2,l⟩:=r.cont k a es e1 hs;exact zO.mpr ⟨t,_,rfl,zG _ _ e3,zn.mpr ⟨_,_,rfl,zU.mpr ⟨a,vs,rfl,e2,HasL.mono zG _ _ l⟩,zn.mpr ⟨u,_,rfl,Has.mono zG _ _ e4,zx.mpr rfl⟩⟩⟩
theorem xI(i:Int):HasX h o H (.d (.int i)) (.int i):=(cM (H:=vx h o H)).mpr rfl
theorem xB(i:Bool):HasX h o H (.d (.bool i)) (.bl i):=(fP (H:=vx h o H)).mpr rfl
theorem xS(i:Str):HasX h o H (.d (.str i)) (.str i):=(fD (H:=vx h o H)).mpr rfl
theorem xN:HasX h o H (.d .none) .non:=(fY (H:=vx h o H)).mpr rfl
theorem jB{vs:List V}{R:RX}{Q:VK}(r:RepS h o H S)(l:HasL (vx h o H) ds vs)(c:Cn h o H R Q)(q:R (.d (.tuple ds)) S):∀p,H p=none->Q (.ref p) (upd H p (.tup vs)):=fun p hp=>
 c o _ S (.d (.tuple ds)) _ (Ex.of_same (Same.laid hp)) (r.same (Same.laid hp)) (zO.mpr ⟨p,vs,rfl,r.laid hp,l.mono (lV (Same.laid hp))⟩) q
theorem iU{vs:List V}{R:RX}{Q:VK}(r:RepS h o H S)(l:HasL (vx h o H) ds vs)(c:Cn h o H R Q)(q:R (.d (.list ds)) S):∀p,H p=none->Q (.ref p) (upd H p (.lst vs)):=fun p hp=>
 c o _ S (.d (.list ds)) _ (Ex.of_same (Same.laid hp)) (r.same (Same.laid hp)) (zU.mpr ⟨p,vs,rfl,r.laid hp,l.mono (lV (Same.laid hp))⟩) q
theorem Dn{vs:List V}{R:RX}{Q:VK}(r:RepS h o H S)(l:HasL (vx h o H) ds vs)(c:Cn h o H R Q)(q:R (.l S.length) (S++[ds])):∀p,H p=none->Q (.ref p) (upd H p (.lst vs)):=fun p hp=>
 c (o++[p]) _ (S++[ds]) (.l S.length) _ (Ex.new r hp) (r.new hp l) ⟨p,by rw[r.len,fb],rfl⟩ q
theorem qF:∀{xs:List XV}{vs:List V}{ds:List bv},HasXs h o H xs vs->xs=ds.map XV.d->HasL (vx h o H) ds vs
 | [],vs,[],q,_=>zx.mpr q
 |x::xs,vs,d::ds,⟨v,r,e,q,l⟩,e2=>by
  rw[kq]at e2;cases e2;exact zn.mpr ⟨v,r,e,q,qF l rfl⟩
 |x::xs,vs,[],_,e2=>by cases e2
 | [],vs,d::ds,_,e2=>by cases e2
end
def datas:List XV->Option (List bv)
 | []=>some []
 | .d d::r=>(datas r).map (d :: ·)
 |_::_=>none
theorem eP:∀{xs:List XV}{ds:List bv},datas xs=some ds->xs=ds.map XV.d
 | [],ds,e=>by cases e;rfl
 | .d d::r,ds,e=>by
  unfold datas at e;cases hr:datas r with
  |none=>rw[hr]at e;cases e
  |some es=>
   rw[hr]at e;cases e;rw[eP hr];rfl
 | .l _::_,_,e=>by cases e
 | .o _::_,_,e=>by cases e
 | .x _ _::_,_,e=>by cases e
 | .p _ _::_,_,e=>by cases e
def zi(i:Nat):DE:=fun δ S R=>∃x,δ[i]?=some (some x)/\R x S
def dC(d:bv):DE:=fun _ S R=>R (.d d) S
def dO(v:V):DE:=fun _ S R=>R (.o v) S
def dOp(rd:D2)(a b:DE):DE:=fun δ S R=>a δ S fun x S1=>b δ S1 fun y S2=>rd x y S2 R
def dUn(rd:XV->Sto->RX->Prop)(a:DE):DE:=fun δ S R=>a δ S fun x S1=>rd x S1 R
def zo:DA:=fun _ S R=>R [] S
def zb(a:DE)(b:DA):DA:=fun δ S R=>a δ S fun x S1=>b δ S1 fun xs S2=>R (x::xs) S2
def dCB(rd:List XV->Sto->RX->Prop)(a:DA):DE:=fun δ S R=>a δ S fun xs S1=>rd xs S1 R
def aH(a:DA):DE:=fun δ S R=>a δ S fun xs S1=>∃ds,datas xs=some ds/\ds.length<=1000/\R (.d (.tuple ds)) S1
def aP(a:DA):DE:=fun δ S R=>a δ S fun xs S1=>∃ds,datas xs=some ds/\ds.length<=1000/\R (.d (.list ds)) S1
def cK(a:DA):DE:=fun δ S R=>a δ S fun xs S1=>∃ds,datas xs=some ds/\ds.length<=1000/\R (.l S1.length) (S1++[ds])
section
variable {t ta tb tc:TE}{da db dc:DE}{tl:TA}{dl:DA}{tt tu:TT}{dt du:DT}
theorem zj{i:Nat}:RE (fC i) (zi i):=fun h o H δ σ S R Q he hs ⟨x,e,q⟩ c=>by
 obtain⟨v,e1,e2⟩:=he.get i x e;exact⟨v,e1,c o H S x v Ex.refl hs e2 q⟩
theorem zZ{i:Int}:RE (tC (.int i)) (dC (.int i)):=fun h o H δ σ S R Q he hs q c=>c o H S _ _ Ex.refl hs (xI i) q
theorem fK{i:Bool}:RE (tC (.bl i)) (dC (.bool i)):=fun h o H δ σ S R Q he hs q c=>c o H S _ _ Ex.refl hs (xB i) q
theorem BI{i:Str}:RE (tC (.str i)) (dC (.str i)):=fun h o H δ σ S R Q he hs q c=>c o H S _ _ Ex.refl hs (xS i) q
theorem sE:RE (tC .non) (dC .none):=fun h o H δ σ S R Q he hs q c=>c o H S _ _ Ex.refl hs xN q
theorem FD{v:V}:RE (tC v) (dO v):=fun h o H δ σ S R Q he hs q c=>c o H S (.o v) v Ex.refl hs rfl q
theorem bG{r:R2}{rd:D2}(hr:RO r rd)(ha:RE ta da)(hb:RE tb db):RE (tOp r ta tb) (dOp rd da db):=fun h o H δ σ S R Q he hs q c=>
 ha h o H δ σ S _ _ he hs q fun o1 H1 S1 x v e1 s1 x1 d1=>hb h o1 H1 δ σ S1 _ _ (he.mono e1) s1 d1 fun o2 H2 S2 y u e2 s2 y2 d2=>
  hr h o2 H2 S2 x y v u R Q s2 (x1.mono e2) y2 d2 (c.pre (e1.trans e2))
theorem oQ{r:V->Hp->VK->Prop}{rd:XV->Sto->RX->Prop}(hr:RU r rd)(ha:RE ta da):RE (tUn r ta) (dUn rd da):=fun h o H δ σ S R Q he hs q c=>
 ha h o H δ σ S _ _ he hs q fun o1 H1 S1 x v e1 s1 x1 d1=>hr h o1 H1 S1 x v R Q s1 x1 d1 (c.pre e1)
theorem zp:RA jU zo:=fun h o H δ σ S R Q he hs q c=>c o H S [] [] Ex.refl hs rfl q
theorem ze(ha:RE ta da)(hb:RA tl dl):RA (f7 ta tl) (zb da dl):=fun h o H δ σ S R Q he hs q c=>
 ha h o H δ σ S _ _ he hs q fun o1 H1 S1 x v e1 s1 x1 d1=>hb h o1 H1 δ σ S1 _ _ (he.mono e1) s1 d1 fun o2 H2 S2 xs vs e2 s2 x2 d2=>
  c o2 H2 S2 (x::xs) (v::vs) (e1.trans e2) s2 ⟨v,vs,rfl,x1.mono e2,x2⟩ d2
theorem aZ{r:List V->Hp->VK->Prop}{rd:List XV->Sto->RX->Prop}(hr:RC r rd)(ha:RA tl dl):RE (tCB r tl) (dCB rd dl):=fun h o H δ σ S R Q he hs q c=>
 ha h o H δ σ S _ _ he hs q fun o1 H1 S1 xs vs e1 s1 x1 d1=>hr h o1 H1 S1 xs vs R Q s1 x1 d1 (c.pre e1)
theorem bT(ha:RA tl dl):RE (sG tl) (aH dl):=fun h o H δ σ S R Q he hs q c=>
 ha h o H δ σ S _ _ he hs q fun o1 H1 S1 xs vs e1 s1 x1 ⟨ds,e,hl,d1⟩=>by
  have l:=qF x1 (eP e);exact⟨by rw[l.length];exact om (small1000 hl),jB s1 l (c.pre e1) d1⟩
theorem iB(ha:RA tl dl):RE (j9 tl) (aP dl):=fun h o H δ σ S R Q he hs q c=>
 ha h o H δ σ S _ _ he hs q fun o1 H1 S1 xs vs e1 s1 x1 ⟨ds,e,hl,d1⟩=>by
  have l:=qF x1 (eP e);exact⟨by rw[l.length];exact om (small1000 hl),iU s1 l (c.pre e1) d1⟩
theorem C8(ha:RA tl dl):RE (j9 tl) (cK dl):=fun h o H δ σ S R Q he hs q c=>
 ha h o H δ σ S _ _ he hs q fun o1 H1 S1 xs vs e1 s1 x1 ⟨ds,e,hl,d1⟩=>by
  have l:=qF x1 (eP e);exact⟨by rw[l.length];exact om (small1000 hl),Dn s1 l (c.pre e1) d1⟩
def dB(a:DE):DT:=fun δ S R=>a δ S fun x S1=>asB x fun b=>R b S1
def bC(a:DT):DT:=fun δ S R=>a δ S fun b S1=>R (!b) S1
def gO(a b:DT):DT:=fun δ S R=>a δ S fun x S1=>if x=true then b δ S1 R else R false S1
def dOr(a b:DT):DT:=fun δ S R=>a δ S fun x S1=>if x=true then R true S1 else b δ S1 R
def cY(a b:DE):DE:=fun δ S R=>a δ S fun x S1=>asB x fun c=>if c=true then b δ S1 R else R (.d (.bool false)) S1
def oG(a b:DE):DE:=fun δ S R=>a δ S fun x S1=>asB x fun c=>if c=true then R (.d (.bool true)) S1 else b δ S1 R
def hV(a:DE):DE:=fun δ S R=>a δ S fun x S1=>asB x fun c=>R (.d (.bool (!c))) S1
def dIf(c:DT)(a b:DE):DE:=fun δ S R=>c δ S fun x S1=>if x=true then a δ S1 R else b δ S1 R
theorem jV(ha:RE ta da):RT (rL ta) (dB da):=fun h o H δ σ S R Q he hs q c=>
 ha h o H δ σ S _ _ he hs q fun o1 H1 S1 x v e1 s1 x1 d1=>by
  replace d1:=qI d1;obtain⟨b,rfl,d1⟩:=d1;exact⟨b,i7 x1,c o1 H1 S1 b e1 s1 d1⟩
theorem dZ(ha:RT tt dt):RT (AU tt) (bC dt):=fun h o H δ σ S R Q he hs q c=>
 ha h o H δ σ S _ _ he hs q fun o1 H1 S1 b e1 s1 d1=>c o1 H1 S1 _ e1 s1 d1
theorem FZ(ha:RT tt dt)(hb:RT tu du):RT (yY tt tu) (gO dt du):=fun h o H δ σ S R Q he hs q c=>
 ha h o H δ σ S _ _ he hs q fun o1 H1 S1 b e1 s1 d1=>by
  cases b with
  |true=>exact gH (hb h o1 H1 δ σ S1 R Q (he.mono e1) s1 (by simpa using d1) fun o2 H2 S2 b e2=>c o2 H2 S2 b (e1.trans e2))
  |false=>exact gV (c o1 H1 S1 false e1 s1 (by simpa using d1))
theorem g9(ha:RT tt dt)(hb:RT tu du):RT (tOr tt tu) (dOr dt du):=fun h o H δ σ S R Q he hs q c=>
 ha h o H δ σ S _ _ he hs q fun o1 H1 S1 b e1 s1 d1=>by
  cases b with
  |false=>exact gV (hb h o1 H1 δ σ S1 R Q (he.mono e1) s1 (by simpa using d1) fun o2 H2 S2 b e2=>c o2 H2 S2 b (e1.trans e2))
  |true=>exact gH (c o1 H1 S1 true e1 s1 (by simpa using d1))
theorem oP(ha:RE ta da)(hb:RE tb db):RE (xC ta tb) (cY da db):=fun h o H δ σ S R Q he hs q c=>
 ha h o H δ σ S _ _ he hs q fun o1 H1 S1 x v e1 s1 x1 d1=>by
  replace d1:=qI d1;obtain⟨b,rfl,d1⟩:=d1;refine⟨b,i7 x1,?_⟩;cases b with
  |true=>exact gH (hb h o1 H1 δ σ S1 R Q (he.mono e1) s1 (by simpa using d1) (c.pre e1))
  |false=>exact gV (c o1 H1 S1 _ _ e1 s1 (xB false) (by simpa using d1))
theorem Gx(ha:RE ta da):RE (Ac ta) (hV da):=fun h o H δ σ S R Q he hs q c=>
 ha h o H δ σ S _ _ he hs q fun o1 H1 S1 x v e1 s1 x1 d1=>by
  replace d1:=qI d1;obtain⟨b,rfl,d1⟩:=d1;exact⟨b,i7 x1,c o1 H1 S1 _ _ e1 s1 (xB _) d1⟩
def f9(rd aa:D2)(a b e:DE):DE:=fun δ S R=>a δ S fun x S1=>b δ S1 fun y S2=>rd x y S2 fun z S3=>asB z fun k=>if k=true then e δ S3 fun u S4=>aa y u S4 R else R (.d (.bool false)) S3
theorem Hg{r r':R2}{rd aa:D2}(hr:RO r rd)(ac:RO r' aa)(ha:RE ta da)(hb:RE tb db)(hc:RE tc dc):RE (CO r r' ta tb tc) (f9 rd aa da db dc):=fun h o H δ σ S R Q he hs q c=>
 ha h o H δ σ S _ _ he hs q fun o1 H1 S1 x v e1 s1 x1 d1=>hb h o1 H1 δ σ S1 _ _ (he.mono e1) s1 d1 fun o2 H2 S2 y u e2 s2 y2 d2=>
  hr h o2 H2 S2 x y v u _ _ s2 (x1.mono e2) y2 d2 fun o3 H3 S3 z w e3 s3 z3 d3=>by
   replace d3:=qI d3;obtain⟨b,rfl,d3⟩:=d3;refine⟨b,i7 z3,?_⟩;cases b with
   |false=>exact gV (c o3 H3 S3 _ _ ((e1.trans e2).trans e3) s3 (xB false) (by simpa using d3))
   |true=>exact gH (hc h o3 H3 δ σ S3 _ _ (((he.mono e1).mono e2).mono e3) s3 (by simpa using d3) fun o4 H4 S4 k w' e4 s4 k4 d4=>ac h o4 H4 S4 y k u w' R Q s4 ((y2.mono e3).mono e4) k4 d4 (c.pre (((e1.trans e2).trans e3).trans e4)))
end
def dI(C:Int->Int->Prop)(g:Int->Int->Int):D2:=fun x y S R=>asI x fun i=>asI y fun j=>C i j/\R (.d (.int (g i j))) S
def dI0(g:Int->Int->Int):D2:=fun x y S R=>asI x fun i=>asI y fun j=>R (.d (.int (g i j))) S
def dIb(g:Int->Int->Bool):D2:=fun x y S R=>asI x fun i=>asI y fun j=>R (.d (.bool (g i j))) S
def dUI(g:Int->Int):XV->Sto->RX->Prop:=fun x S R=>asI x fun i=>R (.d (.int (g i))) S
def bR:D2:=fun x y S R=>∃d,bS S x=some d/\∃e,bS S y=some e/\ge d=true/\ge e=true/\R (.d (.bool (kv d e))) S
def dQ:D2:=fun x y S R=>∃d,bS S x=some d/\∃e,bS S y=some e/\ge d=true/\ge e=true/\R (.d (.bool (!PyData.eqv d e))) S
def iY:D2:=fun x _ S R=>asD x fun d=>R (.d (.bool (eZ d))) S
def jM:D2:=fun x _ S R=>asD x fun d=>R (.d (.bool (!eZ d))) S
def G9:D2:=fun x y S R=>asT x fun ds=>asI y fun i=>∃d,atI ds i=some d/\R (.d d) S
def EA:D2:=fun x y S R=>asL S x fun ds=>asI y fun i=>∃d,atI ds i=some d/\R (.d d) S
def E3:D2:=fun x y S R=>asL S x fun ds=>asL S y fun es=>ds.length+es.length<=1000/\R (.d (.list (ds++es))) S
def E5:D2:=fun x y S R=>asT x fun ds=>asT y fun es=>ds≠[]/\ds.length+es.length<=1000/\R (.d (.tuple (ds++es))) S
section
theorem pZ{C:Int->Int->Prop}{g:Int->Int->Int}:RO (rI C fun i j=>.int (g i j)) (dI C g):=fun h o H S x y v u R Q hs hx hy q c=>by
 replace q:=bE q;obtain⟨i,rfl,q⟩:=q;replace q:=bE q;obtain⟨j,rfl,hc,q⟩:=q;exact⟨i,j,aU hx,aU hy,hc,c o H S _ _ Ex.refl hs (xI _) q⟩
theorem r9{g:Int->Int->Int}:RO (rI0 fun i j=>.int (g i j)) (dI0 g):=fun h o H S x y v u R Q hs hx hy q c=>by
 replace q:=bE q;obtain⟨i,rfl,q⟩:=q;replace q:=bE q;obtain⟨j,rfl,q⟩:=q;exact⟨i,j,aU hx,aU hy,c o H S _ _ Ex.refl hs (xI _) q⟩
theorem rH{g:Int->Int->Bool}:RO (rI0 fun i j=>.bl (g i j)) (dIb g):=fun h o H S x y v u R Q hs hx hy q c=>by
 replace q:=bE q;obtain⟨i,rfl,q⟩:=q;replace q:=bE q;obtain⟨j,rfl,q⟩:=q;exact⟨i,j,aU hx,aU hy,c o H S _ _ Ex.refl hs (xB _) q⟩
theorem oI{g:Int->Int}:RU (rU fun i=>.int (g i)) (dUI g):=fun h o H S x v R Q hs hx q c=>by
 replace q:=bE q;obtain⟨i,rfl,q⟩:=q;exact⟨i,aU hx,c o H S _ _ Ex.refl hs (xI _) q⟩
theorem rT:RO yB bR:=fun h o H S x y v u R Q hs hx hy q c=>by
 obtain⟨d,q1,e,q2,q3,q4,q⟩:=q;exact⟨d,e,eX hs q1 hx,eX hs q2 hy,q3,q4,c o H S _ _ Ex.refl hs (xB _) q⟩
theorem tK:RO tI dQ:=fun h o H S x y v u R Q hs hx hy q c=>by
 obtain⟨d,q1,e,q2,q3,q4,q⟩:=q;exact⟨d,e,eX hs q1 hx,eX hs q2 hy,q3,q4,c o H S _ _ Ex.refl hs (xB _) q⟩
theorem Co{ta:TE}{da:DE}(ha:RE ta da):RE (tOp y3 ta (tC .non)) (dOp iY da (dC .none)):=fun h o H δ σ S R Q he hs q c=>
 ha h o H δ σ S _ _ he hs q fun o1 H1 S1 x v e1 s1 x1 d1=>by
  replace d1:=j8 d1;obtain⟨d,rfl,d1⟩:=d1;have e:=uW (show Has _ d v from x1);exact⟨rfl,by rw[e];exact c o1 H1 S1 _ _ e1 s1 (xB _) d1⟩
theorem Hh{ta:TE}{da:DE}(ha:RE ta da):RE (tOp sF ta (tC .non)) (dOp jM da (dC .none)):=fun h o H δ σ S R Q he hs q c=>
 ha h o H δ σ S _ _ he hs q fun o1 H1 S1 x v e1 s1 x1 d1=>by
  replace d1:=j8 d1;obtain⟨d,rfl,d1⟩:=d1;have e:=uW (show Has _ d v from x1);exact⟨rfl,by rw[e];exact c o1 H1 S1 _ _ e1 s1 (xB _) d1⟩
theorem HasL.atI{H:Hp}{ds:List bv}{vs:List V}{i:Int}{d:bv}(l:HasL H ds vs)(e:L2.atI ds i=some d):∃v,L2.atI vs i=some v/\Has H d v:=by
 unfold L2.atI at e ⊢;rw[l.length];cases hn:ixN ds.length i with
 |none=>rw[hn]at e;cases e
 |some j=>
  rw[hn]at e;exact l.get (show ds[j]?=some d from e)
theorem IU{K:cw}:RO (sQ K) G9:=fun h o H S x y v u R Q hs hx hy q c=>by
 replace q:=i4 q;obtain⟨ds,rfl,q⟩:=q;replace q:=bE q;obtain⟨i,rfl,d,e,q⟩:=q;obtain⟨a,vs,rfl,ea,l⟩:=d9 hx;obtain⟨w,ew,hw⟩:=l.atI e;exact⟨a,vs,i,w,rfl,aU hy,.of ea,ew,c o H S (.d d) w Ex.refl hs hw q⟩
theorem CS{K:cw}:RO (rQ K) EA:=fun h o H S x y v u R Q hs hx hy q c=>by
 obtain⟨ds,e0,q⟩:=q;replace q:=bE q;obtain⟨i,rfl,d,e,q⟩:=q;obtain⟨a,vs,rfl,ea,l⟩:=bQ hs e0 hx;obtain⟨w,ew,hw⟩:=l.atI e;exact⟨a,vs,i,w,rfl,aU hy,.of ea,ew,c o H S (.d d) w Ex.refl hs hw q⟩
theorem FG:RO nC E3:=fun h o H S x y v u R Q hs hx hy q c=>by
 obtain⟨ds,e0,es,e1,hl,q⟩:=q;obtain⟨a,vs,rfl,ea,la⟩:=bQ hs e0 hx;obtain⟨b,us,rfl,eb,lb⟩:=bQ hs e1 hy;exact⟨a,b,vs,us,rfl,rfl,ea,eb,by rw[la.length,lb.length];exact om (small1000 hl),iU hs (la.append lb) c q⟩
theorem HD{K:cw}:RO (tM K) E5:=fun h o H S x y v u R Q hs hx hy q c=>by
 replace q:=i4 q;obtain⟨ds,rfl,q⟩:=q;replace q:=i4 q;obtain⟨es,rfl,hn,hl,q⟩:=q;obtain⟨a,vs,rfl,ea,la⟩:=d9 hx;obtain⟨b,us,rfl,eb,lb⟩:=d9 hy;refine⟨a,b,vs,us,rfl,rfl,.of ea,.of eb,fun z=>?_,by rw[la.length,lb.length];exact om (small1000 hl),fun z=>?_,fun _=>jB hs (la.append lb) c q⟩
 ·subst z;have:=la.length;exact hn (gg this.symm)
 ·subst z;have e:es=[]:=gg lb.length.symm;subst e;rw[km]at q;exact c o H S (.d (.tuple ds)) _ Ex.refl hs hx q
end
abbrev DO:=XE->Sto->(Option Int->Sto->Prop)->Prop
def RP(t:TO)(dt:DO):Prop:=∀(h o:List Addr) (H:Hp) (δ:XE) (σ:St) (S:Sto) (R:Option Int->Sto->Prop) (Q:Option Int->Hp->Prop),RepE h o H δ σ->RepS h o H S->dt δ S R ->
 (∀o' H' S' b,Ex o H o' H'->RepS h o' H' S'->R b S'->Q b H')->t σ H Q
def cU:DO:=fun _ S R=>R none S
def bH(a:DE):DO:=fun δ S R=>a δ S fun x S1=>asI x fun i=>R (some i) S1
theorem fB:RP Ax cU:=fun h o H δ σ S R Q he hs q c=>c o H S none Ex.refl hs q
theorem d8{t:TE}{da:DE}(ha:RE t da):RP (kU t) (bH da):=fun h o H δ σ S R Q he hs q c=>
 ha h o H δ σ S _ _ he hs q fun o1 H1 S1 x v e1 s1 x1 d1=>by
  replace d1:=bE d1;obtain⟨i,rfl,d1⟩:=d1;exact⟨i,aU x1,c o1 H1 S1 _ e1 s1 d1⟩
abbrev D3:=XV->Option Int->Option Int->Sto->RX->Prop
def RL(r:V->Option Int->Option Int->Hp->VK->Prop)(rd:D3):Prop:=∀(h o:List Addr) (H:Hp) (S:Sto) (x:XV) (v:V) (a b:Option Int) (R:RX) (Q:VK),RepS h o H S->HasX h o H x v->rd x a b S R->Cn h o H R Q->r v a b H Q
def dSl(rd:D3)(e:DE)(a b:DO):DE:=fun δ S R=>e δ S fun x S1=>a δ S1 fun i S2=>b δ S2 fun j S3=>rd x i j S3 R
theorem eO{r:V->Option Int->Option Int->Hp->VK->Prop}{rd:D3}{te:TE}{de:DE}{ta tb:TO}{da db:DO}(hr:RL r rd)(y:RE te de)(ha:RP ta da)(hb:RP tb db):RE (tSl r te ta tb) (dSl rd de da db):=fun h o H δ σ S R Q he hs q c=>
 y h o H δ σ S _ _ he hs q fun o1 H1 S1 x v e1 s1 x1 d1=>ha h o1 H1 δ σ S1 _ _ (he.mono e1) s1 d1 fun o2 H2 S2 i e2 s2 d2=>hb h o2 H2 δ σ S2 _ _ ((he.mono e1).mono e2) s2 d2 fun o3 H3 S3 j e3 s3 d3=>
  hr h o3 H3 S3 x v i j R Q s3 ((x1.mono e2).mono e3) d3 (c.pre ((e1.trans e2).trans e3))
def Ep:D3:=fun x i j S R=>asL S x fun ds=>R (.d (.list (cN ds i j))) S
def D4:D3:=fun x i j S R=>asT x fun ds=>¬(HT.sIx ds.length 0 i=0/\HT.sIx ds.length ds.length j=ds.length)/\R (.d (.tuple (cN ds i j))) S
theorem Bb{K:cw}:RL (oS K) Ep:=fun h o H S x v a b R Q hs hx q c=>by
 obtain⟨ds,e0,q⟩:=q;obtain⟨p,vs,rfl,ea,l⟩:=bQ hs e0 hx;exact⟨p,vs,rfl,.of ea,iU hs (l.cut a b) c q⟩
theorem F3{K:cw}:RL (sZ K) D4:=fun h o H S x v a b R Q hs hx q c=>by
 replace q:=i4 q;obtain⟨ds,rfl,hn,q⟩:=q;obtain⟨p,vs,rfl,ea,l⟩:=d9 hx;exact⟨p,vs,rfl,.of ea,by rw[l.length];exact hn,jB hs (l.cut a b) c q⟩
def asQ(S:Sto):XV->Option (List bv)
 | .d (.tuple ds)=>some ds
 | .d (.list ds)=>some ds
 | .l k=>S[k]?
 |_=>none
theorem vF{h o:List Addr}{H:Hp}{S:Sto}{x:XV}{v:V}{ds:List bv}(r:RepS h o H S)(e:asQ S x=some ds)(q:HasX h o H x v):∃a vs,v=.ref a/\(H a=some (.tup vs)\/H a=some (.lst vs))/\HasL (vx h o H) ds vs:=by
 unfold asQ at e;split at e
 ·cases e;obtain⟨a,vs,e,q,l⟩:=d9 q;exact⟨a,vs,e,.inl q,l⟩
 ·cases e;obtain⟨a,vs,e,q,l⟩:=bQ (x:=.d (.list ds)) (ds:=ds) r rfl q;exact⟨a,vs,e,.inr q,l⟩
 ·rename_i k;obtain⟨a,vs,e,q,l⟩:=bQ (x:=.l k) r e q;exact⟨a,vs,e,.inr q,l⟩
 ·cases e
def arg1:List XV->(XV->Prop)->Prop
 | [x],k=>k x
 |_,_=>False
def arg2:List XV->(XV->XV->Prop)->Prop
 | [x,y],k=>k x y
 |_,_=>False
theorem bO{xs:List XV}{k:XV->Prop}(h:arg1 xs k):∃x,xs=[x]/\k x:=by
 unfold arg1 at h;split at h
 ·exact⟨_,rfl,h⟩
 ·exact h.elim
theorem pS{xs:List XV}{k:XV->XV->Prop}(h:arg2 xs k):∃x y,xs=[x,y]/\k x y:=by
 unfold arg2 at h;split at h
 ·exact⟨_,_,rfl,h⟩
 ·exact h.elim
theorem hxs1{h o:List Addr}{H:Hp}{x:XV}{vs:List V}(q:HasXs h o H [x] vs):∃v,vs=[v]/\HasX h o H x v:=by
 obtain⟨v,r,e,hx,hr⟩:=q;cases hr;exact⟨v,e,hx⟩
theorem hxs2{h o:List Addr}{H:Hp}{x y:XV}{vs:List V}(q:HasXs h o H [x,y] vs):∃v u,vs=[v,u]/\HasX h o H x v/\HasX h o H y u:=by
 obtain⟨v,r,e,hx,q⟩:=q;obtain⟨u,e',hy⟩:=hxs1 q;subst e';exact⟨v,u,e,hx,hy⟩
def rV:XV->(String->Prop)->Prop
 | .o v,k=>∃c,v=.ty c/\k c
 |_,_=>False
def uX:XV->(Int->Prop)->Prop
 | .d d,k=>match d with
  | .int i=>k i
  | .bool b=>k (if b then 1 else 0)
  |_=>False
 |_,_=>False
theorem Fx{x:XV}{k:String->Prop}(h:rV x k):∃c,x=.o (.ty c)/\k c:=by
 cases x with
 |o v=>
  obtain⟨c,rfl,h⟩:=h;exact⟨c,rfl,h⟩
 |d d=>exact h.elim
 |l j=>exact h.elim
 |x _ _=>exact h.elim
 |p _ _=>exact h.elim
theorem G2{x:XV}{k:Int->Prop}(h:uX x k):(∃i,x=.d (.int i)/\k i)\/∃b,x=.d (.bool b)/\k (if b then 1 else 0):=by
 cases x with
 |d d=>
  cases d with
  |int i=>exact .inl ⟨i,rfl,h⟩
  |bool b=>exact .inr ⟨b,rfl,h⟩
  |_=>exact h.elim
 |_=>exact h.elim
def Gd:List XV->Sto->RX->Prop:=fun xs S R=>arg1 xs fun x=>∃ds,asQ S x=some ds/\R (.d (.int ds.length)) S
theorem tV{K:cw}:RC (tD K) Gd:=fun h o H S xs vs R Q hs hx q c=>by
 obtain⟨x,rfl,ds,hd,q1⟩:=bO q;obtain⟨v,rfl,y⟩:=hxs1 hx;obtain⟨a,ws,rfl,ea,l⟩:=vF hs hd y;refine⟨a,ws,rfl,ea.elim (fun z=>.inr (.of z)) (fun z=>.inl (.of z)),?_⟩;rw[l.length];exact c o H S _ _ Ex.refl hs (xI _) q1
def c8:List XV->Sto->RX->Prop:=fun xs S R=>arg2 xs fun x y=>rV y fun cl=>∃d,bS S x=some d/\cl∈f6/\R (.d (.bool (iL d cl))) S
theorem Id:RC t8 c8:=fun h o H S xs vs R Q hs hx q c=>by
 obtain⟨x,y,rfl,q1⟩:=pS q;obtain⟨cl,rfl,d,hd,hc,q2⟩:=Fx q1;obtain⟨v,u,rfl,aa,hu⟩:=hxs2 hx;cases hu;exact Fe (eX hs hd aa) hc (c o H S _ _ Ex.refl hs (xB _) q2)
def gF:List XV->Sto->RX->Prop:=fun xs S R=>arg1 xs fun x=>asI x fun i=>R (.d (.int (if i<0 then -i else i))) S
theorem EF:RC (fun xs H Q=>∃i,xs=[.int i]/\Q (.int (if i<0 then -i else i)) H) gF:=fun h o H S xs vs R Q hs hx q c=>by
 obtain⟨x,rfl,q1⟩:=bO q;obtain⟨v,rfl,y⟩:=hxs1 hx;obtain⟨i,rfl,q2⟩:=bE q1;exact⟨i,by rw[aU y],c o H S _ _ Ex.refl hs (xI _) q2⟩
def gT:List XV->Sto->RX->Prop:=fun xs S R=>arg1 xs fun x=>uX x fun i=>R (.d (.int i)) S
theorem DF:RC (fun xs H Q=>(∃i,xs=[.int i]/\Q (.int i) H)\/∃k,xs=[.bl k]/\Q (.int (if k then 1 else 0)) H) gT:=fun h o H S xs vs R Q hs hx q c=>by
 obtain⟨x,rfl,q1⟩:=bO q;obtain⟨v,rfl,y⟩:=hxs1 hx;rcases G2 q1 with ⟨i,rfl,q2⟩|⟨b,rfl,q2⟩
 ·exact .inl ⟨_,by rw[aU y],c o H S _ _ Ex.refl hs (xI _) q2⟩
 ·exact .inr ⟨_,by rw[i7 y],c o H S _ _ Ex.refl hs (xI _) q2⟩
def dI2(g:Int->Int->Int):List XV->Sto->RX->Prop:=fun xs S R=>arg2 xs fun x y=>asI x fun i=>asI y fun j=>R (.d (.int (g i j))) S
theorem BF{g:Int->Int->Int}:RC (fun xs H Q=>∃i j,xs=[.int i,.int j]/\Q (.int (g i j)) H) (dI2 g):=fun h o H S xs vs R Q hs hx q c=>by
 obtain⟨x,y,rfl,q1⟩:=pS q;obtain⟨v,u,rfl,aa,hu⟩:=hxs2 hx;obtain⟨i,rfl,q2⟩:=bE q1;obtain⟨j,rfl,q3⟩:=bE q2;exact⟨i,j,by rw[aU aa,aU hu],c o H S _ _ Ex.refl hs (xI _) q3⟩
def gU:List XV->Sto->RX->Prop:=fun xs S R=>arg1 xs fun x=>∃ds,asQ S x=some ds/\R (.d (.tuple ds)) S
theorem wG{K:cw}:RC (fun xs H Q=>∃p ys,xs=[.ref p]/\((SqL K H p ys/\∀l,H l=none->Q (.ref l) (upd H l (.tup ys)))\/(SqT K H p ys/\Q (.ref p) H))) gU:=fun h o H S xs vs R Q hs hx q c=>by
 obtain⟨x,rfl,ds,hd,q1⟩:=bO q;obtain⟨v,rfl,y⟩:=hxs1 hx;obtain⟨a,ws,rfl,ea,l⟩:=vF hs hd y;refine⟨a,ws,rfl,ea.elim (fun z=>.inr ⟨.of z,?_⟩) (fun z=>.inl ⟨.of z,jB hs l c q1⟩)⟩;have hh:HasX h o H (.d (.tuple ds)) (.ref a):=by
  unfold asQ at hd;split at hd
  ·cases hd;exact y
  ·obtain⟨a',us,e1,e2,_⟩:=bQ (x:=.d (.list _)) hs rfl y;cases e1;rw[z]at e2;cases e2
  ·rename_i k;obtain⟨a',us,e1,e2,_⟩:=bQ (x:=.l k) hs hd y;cases e1;rw[z]at e2;cases e2
  ·cases hd
 exact c o H S _ _ Ex.refl hs hh q1
theorem iK{H:Hp}:∀{ns:List Int}{vs:List V},HasL H (ns.map cq) vs->vs=ns.map V.int
 | [],vs,h=>zx.mp h
 |n::ns,vs,h=>by
  obtain⟨v,r,rfl,h1,h2⟩:=zn.mp h;rw[cM.mp h1,iK h2];rfl
def dBM(rd:XV->List XV->Sto->RX->Prop)(e:DE)(a:DA):DE:=fun δ S R=>e δ S fun x S1=>∃k,x=.l k/\k<S1.length/\a δ S1 fun xs S2=>rd x xs S2 R
def mE(rd:XV->List XV->Sto->RX->Prop)(e:DE):DE:=fun δ S R=>e δ S fun x S1=>∃k,x=.l k/\k<S1.length/\rd x [] S1 R
def RM(r:V->List V->Hp->VK->Prop)(rd:XV->List XV->Sto->RX->Prop):Prop:=∀(h o:List Addr) (H:Hp) (S:Sto) (x:XV) (v:V) (xs:List XV) (vs:List V) (R:RX) (Q:VK),RepS h o H S->HasX h o H x v->HasXs h o H xs vs->rd x xs S R->Cn h o H R Q->r v vs H Q
theorem AM{K:cw}{H:Hp}{a:Addr}{vs:List V}(e:H a=some (.lst vs)):tyV K "list" (.ref a) H:=.inl ⟨rfl,vs,.of e⟩
theorem Ck{h o:List Addr}{H:Hp}{S:Sto}{k:Nat}{v:V}(hs:RepS h o H S)(hk:k<S.length)(hx:HasX h o H (.l k) v):∃a vs,v=.ref a/\H a=some (.lst vs):=by
 obtain⟨a,e,rfl⟩:=hx;obtain⟨vs,e2,_⟩:=hs.cont k a _ e (cy hk);exact⟨a,vs,rfl,e2⟩
theorem mS{K:cw}{r:V->List V->Hp->VK->Prop}{rd:XV->List XV->Sto->RX->Prop}{te:TE}{de:DE}{tl:TA}{dl:DA}(hr:RM r rd)(y:RE te de)(ha:RA tl dl):RE (tBM K "list" r te tl) (dBM rd de dl):=fun h o H δ σ S R Q he hs q c=>
 y h o H δ σ S _ _ he hs q fun o1 H1 S1 x v e1 s1 x1 ⟨k,ek,hk,d1⟩=>by
  subst ek;obtain⟨a,ws,rfl,ea⟩:=Ck s1 hk x1;exact⟨AM ea,ha h o1 H1 δ σ S1 _ _ (he.mono e1) s1 d1 fun o2 H2 S2 xs vs e2 s2 x2 d2=>hr h o2 H2 S2 (.l k) _ xs vs R Q s2 (x1.mono e2) x2 d2 (c.pre (e1.trans e2))⟩
def fZ:XV->List XV->Sto->RX->Prop:=fun x xs S R=>∃k,x=.l k/\∃ds,S[k]?=some ds/\arg1 xs fun y=>asD y fun d=>ds.length<1000/\R (.d .none) (S.set k (ds++[d]))
theorem Ak:RM vV fZ:=fun h o H S x v xs vs R Q hs hx aa q c=>by
 obtain⟨k,rfl,ds,e,q1⟩:=q;obtain⟨y,rfl,q2⟩:=bO q1;obtain⟨d,rfl,hl,q3⟩:=j8 q2;obtain⟨a,ea,rfl⟩:=hx;obtain⟨u,rfl,hu⟩:=hxs1 aa;obtain⟨ws,ew,l⟩:=hs.cont k a ds ea e;exact⟨a,ws,u,rfl,rfl,ew,by rw[l.length];exact small1000 (om hl),c o _ _ (.d .none) _ (Ex.upd ea) (hs.upd ea (l.append (zn.mpr ⟨u,[],rfl,hu,zx.mpr rfl⟩))) xN q3⟩
def gM:XV->List XV->Sto->RX->Prop:=fun x xs S R=>∃k,x=.l k/\∃ds,S[k]?=some ds/\arg1 xs fun y=>∃es,cC S y=some es/\ds.length+es.length<=1000/\R (.d .none) (S.set k (ds++es))
theorem uK:RM wO gM:=fun h o H S x v xs vs R Q hs hx aa q c=>by
 obtain⟨k,rfl,ds,e,q1⟩:=q;obtain⟨y,rfl,es,ey,hl,q3⟩:=bO q1;obtain⟨a,ea,rfl⟩:=hx;obtain⟨u,rfl,hu⟩:=hxs1 aa;obtain⟨ws,ew,l⟩:=hs.cont k a ds ea e;obtain⟨b,zs,rfl,eb,lb⟩:=bQ hs ey hu;exact⟨a,b,ws,zs,rfl,rfl,ew,eb,by rw[l.length,lb.length];exact om (small1000 hl),c o _ _ (.d .none) _ (Ex.upd ea) (hs.upd ea (l.append lb)) xN q3⟩
def ret0(S:Sto)(R:RX):RX:=fun y S'=>match y,S' with
 | .d d,[]=>R (.d d) S
 | .l 0,[ds]=>R (.l S.length) (S++[ds])
 |_,_=>False
def qY(k:Nat)(S:Sto)(R:RX):RX:=fun y S'=>match y,S' with
 | .d d,[p]=>R (.d d) (S.set k p)
 | .l 1,[p,ds]=>R (.l S.length) (S.set k p++[ds])
 |_,_=>False
section
variable {h o:List Addr}{H:Hp}{S:Sto}{R:RX}{Q:VK}
theorem gD{h o h' o':List Addr}{H:Hp}(e:∀b,(b∈h'\/b∈o')↔(b∈h\/b∈o)):vx h' o' H=vx h o H:=by
 funext b;have y:∀u,vx h' o' H b=some u↔vx h o H b=some u:=fun u=>by
  rw[zW,zW];have:=e b;constructor
  ·rintro⟨a1,a2,a3⟩;exact⟨fun m=>(this.mpr (.inl m)).elim a1 a2,fun m=>(this.mpr (.inr m)).elim a1 a2,a3⟩
  ·rintro⟨a1,a2,a3⟩;exact⟨fun m=>(this.mp (.inl m)).elim a1 a2,fun m=>(this.mp (.inr m)).elim a1 a2,a3⟩
 cases e1:vx h' o' H b with
 |some u=>exact((y u).mp e1).symm
 |none=>
  cases e2:vx h o H b with
  |none=>rfl
  |some u=>rw[(y u).mpr e2]at e1;cases e1
theorem rep0(hs:RepS h o H S):RepS (h++o) [] H [] where
 len:=rfl
 nd:=nodup_nil
 dis:=fun a ha=>by cases ha
 hal:=fun b hb=>(mem_append.mp hb).elim (hs.hal b) (hs.oam b)
 cont:=fun k a ds e=>by simp at e
theorem hx0{d:bv}{v:V}(hx:HasX h o H (.d d) v):HasX (h++o) [] H (.d d) v:=by
 show Has (vx (h++o) [] H) d v;rw[gD (h:=h) (o:=o) fun b=>by simp];exact hx
theorem hx0'{d:bv}{v:V}(hx:HasX (h++o) [] H (.d d) v):HasX h o H (.d d) v:=by
 show Has (vx h o H) d v;rw[<- gD (h':=h++o) (o':=[]) (h:=h) (o:=o) fun b=>by simp];exact hx
theorem cn0(hs:RepS h o H S)(c:Cn h o H R Q):Cn (h++o) [] H (ret0 S R) Q:=fun o' H' S' y v e s' hy q=>by
 have sm:Same H (vx [] o' H'):=fun b u eb=>by
  obtain⟨a1,a2⟩:=e.kp b u yv eb;exact zW.mpr ⟨yv,a1,a2⟩
 have sH:Same H H':=fun b u eb=>(zW.mp (sm b u eb)).2.2;unfold ret0 at q;split at q
 ·have e0:o'=[]:=gg s'.len.symm;subst e0;exact c o H' S _ v (Ex.of_same sH) (hs.same sH) (hx0' hy) q
 ·rename_i ds;obtain⟨a,rfl⟩:∃a,o'=[a]:=List.length_eq_one_iff.mp s'.len.symm;obtain⟨a',ea,rfl⟩:=hy;cases ea;obtain⟨vs,ev,l⟩:=s'.cont 0 a ds rfl rfl;have na:a∉h++o:=s'.dis a yv;have hn:H a=none:=by
   cases eh:H a with
   |none=>rfl
   |some u=>exact absurd (e.kp a u yv eh).1 yv
  have e2:Ex o H (o++[a]) H':=⟨⟨[a],rfl⟩,fun b u hb eb=>by
   obtain⟨a1,a2⟩:=e.kp b u yv eb;exact⟨by simp only[rp,not_or];exact⟨hb,a1⟩,a2⟩⟩
  have aa:vx (h++o) [a] H'=vx h (o++[a]) H':=gD fun b=>by simp[or_assoc]
  rw[aa]at l;refine c (o++[a]) H' (S++[ds]) (.l S.length) _ e2 ⟨by simp[hs.len],mR hs.nd fun m=>na (gq _ m),fun b hb=>?_,fun b hb=>?_,fun k b es q1 q2=>?_⟩ ⟨a,by rw[hs.len,fb],rfl⟩ q
  ·rcases mem_append.mp hb with hb|hb
   ·exact hs.dis b hb
   ·rw[mem_singleton.mp hb];exact fun m=>na (jo _ m)
  ·obtain⟨u,eb⟩:=hs.hal b hb;exact⟨u,sH b _ eb⟩
  ·by_cases hk:k<o.length
   ·rw[fy hk]at q1;rw[fy (by rw[hs.len];exact hk)]at q2;obtain⟨ws,e3,l3⟩:=hs.cont k b es q1 q2;exact⟨ws,sH _ _ e3,l3.mono e2.vx⟩
   ·have ac:k=o.length:=by
     obtain⟨q,_⟩:=List.getElem?_eq_some_iff.mp q1;rw[fx,jg]at q;omega
    subst ac;rw[fb]at q1;rw[<- hs.len,fb]at q2;cases q1;cases q2;exact⟨vs,ev,l⟩
 ·exact q.elim
theorem pB{k:Nat}{a:Addr}{p:List bv}(hs:RepS h o H S)(ea:o[k]?=some a)(ep:S[k]?=some p):RepS (h++o.filter (fun b=>b≠a)) [a] H [p] where
 len:=rfl
 nd:=by simp
 dis:=fun b hb=>by
  rw[mem_singleton.mp hb];intro m;rcases mem_append.mp m with m|m
  ·exact hs.dis a (bw ea) m
  ·have:=(mem_filter.mp m).2;simp at this
 hal:=fun b hb=>(mem_append.mp hb).elim (hs.hal b) fun m=>hs.oam b (mem_filter.mp m).1
 cont:=fun j b ds e1 e2=>by
  cases j with
  |succ j=>simp at e1
  |zero=>
   cases e1;cases e2;obtain⟨vs,e3,l⟩:=hs.cont k a p ea ep;refine⟨vs,e3,?_⟩;rw[gD (h:=h) (o:=o) (mem_pen ea)];exact l
where
 mem_pen {h o:List Addr}{k:Nat}{a:Addr} (ea:o[k]?=some a) (b:Addr):(b∈h++o.filter (fun b=>b≠a)\/b∈[a])↔(b∈h\/b∈o):=by
  have ma:=bw ea;by_cases e:b=a
  ·subst e;simp[ma]
  ·simp[e]
theorem hxP{k:Nat}{a:Addr}{d:bv}{v:V}(ea:o[k]?=some a)(hx:HasX h o H (.d d) v):HasX (h++o.filter (fun b=>b≠a)) [a] H (.d d) v:=by
 show Has (vx _ _ H) d v;rw[gD (h:=h) (o:=o) (pB.mem_pen ea)];exact hx
theorem cnP{k:Nat}{a:Addr}{p:List bv}(hs:RepS h o H S)(ea:o[k]?=some a)(ep:S[k]?=some p)(c:Cn h o H R Q):Cn (h++o.filter (fun b=>b≠a)) [a] H (qY k S R) Q:=fun o' H' S' y v e s' hy q=>by
 have ma:=bw ea;have hk:k<o.length:=(List.getElem?_eq_some_iff.mp ea).1;unfold qY at q;split at q
 ·rename_i d p';obtain⟨r,rfl⟩:=e.pre;have er:r=[]:=by
   have:=s'.len;simp at this;exact this
  subst er;have ex:Ex o H o H':=⟨⟨[],yv⟩,fun b u hb eb=>⟨hb,(e.kp b u (fun m=>hb (by rw[mem_singleton.mp m];exact ma)) eb).2⟩⟩;obtain⟨vs,ev,l⟩:=s'.cont 0 a p' rfl rfl;have aa:vx (h++o.filter (fun b=>b≠a)) ([a]++[]) H'=vx h o H':=gD (pB.mem_pen ea);rw[aa]at l;refine c o H' (S.set k p') (.d d) v ex ⟨by simp[hs.len],hs.nd,hs.dis,fun b hb=>?_,fun j b es q1 q2=>?_⟩ (by
   have ac:Has (vx (h++o.filter (fun b=>b≠a)) ([a]++[]) H') d v:=hy;rw[aa]at ac;exact ac) q
  ·obtain⟨u,eb⟩:=hs.hal b hb;exact⟨u,(e.kp b _ (fun m=>hs.dis a ma (by rw[<- mem_singleton.mp m];exact hb)) eb).2⟩
  ·by_cases hj:j=k
   ·subst hj;rw[q1]at ea;cases ea;rw[pj (by rw[hs.len];exact hk)]at q2;cases q2;exact⟨vs,ev,l⟩
   ·rw[su (jq hj)]at q2;obtain⟨ws,e3,l3⟩:=hs.cont j b es q1 q2;have ne:b≠a:=fun z=>hj (lC hs.nd q1 (z▸ea));exact⟨ws,(e.kp b _ (by simp[ne]) e3).2,l3.mono ex.vx⟩
 ·rename_i p' ds;obtain⟨r,rfl⟩:=e.pre;obtain⟨a2,rfl⟩:∃a2,r=[a2]:=by
   have:=s'.len;simp at this;exact List.length_eq_one_iff.mp this
  obtain⟨b2,af,rfl⟩:=hy;cases af;obtain⟨vs,ev,l⟩:=s'.cont 0 a p' rfl rfl;obtain⟨ag,ah,l2⟩:=s'.cont 1 a2 ds rfl rfl;have n2:a2∉h++o.filter (fun b=>b≠a):=s'.dis a2 yv;have n3:a≠a2:=by
   have:=s'.nd;simp at this;exact this
  have n4:a2∉o:=fun m=>n2 (gq _ (mem_filter.mpr ⟨m,by simp[jq n3]⟩));have ex:Ex o H (o++[a2]) H':=⟨⟨[a2],rfl⟩,fun b u hb eb=>by
   obtain⟨z1,z2⟩:=e.kp b u (fun m=>hb (by rw[mem_singleton.mp m];exact ma)) eb;refine⟨?_,z2⟩;simp only[rp,not_or];exact⟨hb,fun m=>z1 (by simp at m ⊢;exact .inr m)⟩⟩
  have aa:vx (h++o.filter (fun b=>b≠a)) ([a]++[a2]) H'=vx h (o++[a2]) H':=gD fun b=>by
   have:=pB.mem_pen (h:=h) ea b;simp only[rp]at this ⊢;rw[<- or_assoc,this,or_assoc]
  rw[aa]at l l2;refine c (o++[a2]) H' (S.set k p'++[ds]) (.l S.length) _ ex ⟨by simp[hs.len],mR hs.nd n4,fun b hb=>?_,fun b hb=>?_,fun j b es q1 q2=>?_⟩ ⟨a2,by rw[hs.len,fb],rfl⟩ q
  ·rcases mem_append.mp hb with hb|hb
   ·exact hs.dis b hb
   ·rw[mem_singleton.mp hb];exact fun m=>n2 (jo _ m)
  ·obtain⟨u,eb⟩:=hs.hal b hb;exact⟨u,(e.kp b _ (fun m=>hs.dis a ma (by rw[<- mem_singleton.mp m];exact hb)) eb).2⟩
  ·by_cases hjo:j<o.length
   ·rw[fy hjo]at q1;rw[fy (by rw[length_set,hs.len];exact hjo)]at q2;by_cases hj:j=k
    ·subst hj;rw[q1]at ea;cases ea;rw[pj (by rw[hs.len];exact hk)]at q2;cases q2;exact⟨vs,ev,l⟩
    ·rw[su (jq hj)]at q2;obtain⟨ws,e3,l3⟩:=hs.cont j b es q1 q2;have ne:b≠a:=fun z=>hj (lC hs.nd q1 (z▸ea));exact⟨ws,(e.kp b _ (by simp[ne]) e3).2,l3.mono ex.vx⟩
   ·have ae:j=o.length:=by
     obtain⟨q,_⟩:=List.getElem?_eq_some_iff.mp q1;rw[fx,jg]at q;omega
    subst ae;rw[fb]at q1;rw[<- hs.len,<- length_set (i:=k) (a:=p'),fb]at q2;cases q1;cases q2;exact⟨ag,ah,l2⟩
 ·exact q.elim
end
structure DEnds where
 nx:XE->Sto->Prop
 rt:RX
 bk:XE->Sto->Prop:=fun _ _=>False
 ct:XE->Sto->Prop:=fun _ _=>False
abbrev DS:=DEnds->XE->Sto->Prop
abbrev DG:=XV->XE->Sto->(XE->Sto->Prop)->Prop
abbrev DGs:=List bv->XE->Sto->(XE->Sto->Prop)->Prop
def Nx(h o:List Addr)(H:Hp)(N:XE->Sto->Prop)(M:St->Hp->Prop):Prop:=∀o' H' δ' S' σ',Ex o H o' H'->RepE h o' H' δ' σ'->RepS h o' H' S'->N δ' S'->M σ' H'
theorem Nx.pre{h o o':List Addr}{H H':Hp}{N:XE->Sto->Prop}{M:St->Hp->Prop}(c:Nx h o H N M)(e:Ex o H o' H'):Nx h o' H' N M:=fun o2 H2 δ2 S2 σ2 e2=>c o2 H2 δ2 S2 σ2 (e.trans e2)
structure EOk(h o:List Addr)(H:Hp)(E:DEnds)(D:Ends):Prop where
 nx:Nx h o H E.nx D.nx
 rt:Cn h o H E.rt D.rt
 bk:Nx h o H E.bk D.bk
 ct:Nx h o H E.ct D.ct
theorem EOk.pre{h o o':List Addr}{H H':Hp}{E:DEnds}{D:Ends}(c:EOk h o H E D)(e:Ex o H o' H'):EOk h o' H' E D:=⟨c.nx.pre e,c.rt.pre e,c.bk.pre e,c.ct.pre e⟩
def RS(t:TS)(dt:DS):Prop:=∀(h o:List Addr) (H:Hp) (δ:XE) (σ:St) (S:Sto) (E:DEnds) (D:Ends),RepE h o H δ σ->RepS h o H S->dt E δ S->EOk h o H E D->t D σ H
def RG(t:TG)(dt:DG):Prop:=∀(h o:List Addr) (H:Hp) (δ:XE) (σ:St) (S:Sto) (x:XV) (v:V) (N:XE->Sto->Prop) (M:St->Hp->Prop),RepE h o H δ σ->RepS h o H S->HasX h o H x v->dt x δ S N->Nx h o H N M->t v σ H M
def RGs(t:TGs)(dt:DGs):Prop:=∀(h o:List Addr) (H:Hp) (δ:XE) (σ:St) (S:Sto) (ds:List bv) (vs:List V) (N:XE->Sto->Prop) (M:St->Hp->Prop),RepE h o H δ σ->RepS h o H S->HasL (vx h o H) ds vs->dt ds δ S N->Nx h o H N M->t vs σ H M
def zm(i:Nat):DG:=fun x δ S N=>N (δ.set i (some x)) S
def bI:DGs:=fun ds δ S N=>ds=[]/\N δ S
def hdD:List bv->(bv->List bv->Prop)->Prop
 |d::es,k=>k d es
 | [],_=>False
theorem GL{ds:List bv}{k:bv->List bv->Prop}(h:hdD ds k):∃d es,ds=d::es/\k d es:=by
 cases ds with
 |nil=>exact h.elim
 |cons d es=>exact⟨d,es,rfl,h⟩
theorem oW{d:bv}{es:List bv}{k:bv->List bv->Prop}:hdD (d::es) k=k d es:=rfl
def zV(g:DG)(r:DGs):DGs:=fun ds δ S N=>hdD ds fun d es=>g (.d d) δ S fun δ' S'=>r es δ' S' N
def bF(n:Nat)(r:DGs):DG:=fun x δ S N=>asT x fun ds=>ds.length=n/\r ds δ S N
def gJ(a b:DE):DG:=fun x δ S N=>a δ S fun y S1=>b δ S1 fun z S2=>asD x fun d=>∃k,y=.l k/\∃ds,S2[k]?=some ds/\asI z fun i=>∃j,ixN ds.length i=some j/\N δ (S2.set k (ds.set j d))
theorem zt{i:Nat}:RG (jP i) (zm i):=fun h o H δ σ S x v N M he hs hx q c=>c o H _ S _ Ex.refl (he.set hx) hs q
theorem fQ:RGs vI bI:=fun h o H δ σ S ds vs N M he hs l ⟨e,q⟩ c=>by
 subst e;exact⟨zx.mp l,c o H δ S σ Ex.refl he hs q⟩
theorem bU{t:TG}{u:TGs}{g:DG}{r:DGs}(h1:RG t g)(h2:RGs u r):RGs (BE t u) (zV g r):=fun h o H δ σ S ds vs N M he hs l q0 c=>by
 obtain⟨d,es,rfl,q⟩:=GL q0;obtain⟨v,ws,rfl,hv,l⟩:=zn.mp l;exact⟨v,ws,rfl,h1 h o H δ σ S (.d d) v _ _ he hs hv q fun o1 H1 δ1 S1 σ1 e1 y aa q1=>h2 h o1 H1 δ1 σ1 S1 es ws N M y aa (l.mono e1.vx) q1 (c.pre e1)⟩
theorem fR{K:cw}{n:Nat}{t:TGs}{r:DGs}(h1:RGs t r):RG (CW K n t) (bF n r):=fun h o H δ σ S x v N M he hs hx q c=>by
 replace q:=i4 q;obtain⟨ds,rfl,hn,q⟩:=q;obtain⟨a,vs,rfl,ea,l⟩:=d9 hx;exact⟨a,vs,rfl,.of ea,by rw[l.length];exact hn,h1 h o H δ σ S ds vs N M he hs l q c⟩
theorem HasL.setAt{H:Hp}:∀{ds:List bv}{vs:List V}{j:Nat}{d:bv}{v:V},HasL H ds vs->Has H d v->HasL H (ds.set j d) (vs.set j v)
 | [],vs,j,d,v,l,_=>by rw[zx.mp l];exact zx.mpr rfl
 |c::ds,vs,0,d,v,l,q=>by
  obtain⟨u,r,rfl,_,l⟩:=zn.mp l;exact zn.mpr ⟨v,r,rfl,q,l⟩
 |c::ds,vs,j+1,d,v,l,q=>by
  obtain⟨u,r,rfl,hu,l⟩:=zn.mp l;exact zn.mpr ⟨u,r.set j v,rfl,hu,HasL.setAt l q⟩
theorem D7{ta tb:TE}{da db:DE}(ha:RE ta da)(hb:RE tb db):RG (Br ta tb wL) (gJ da db):=fun h o H δ σ S x v N M he hs hx q c=>
 ha h o H δ σ S _ _ he hs q fun o1 H1 S1 y u e1 s1 y1 d1=>hb h o1 H1 δ σ S1 _ _ (he.mono e1) s1 d1 fun o2 H2 S2 z w e2 s2 z2 d0=>by
  obtain⟨d,rfl,k,rfl,ds,es,d2⟩:=j8 d0;replace d2:=bE d2;obtain⟨i,rfl,j,ej,d2⟩:=d2;obtain⟨a,ea,rfl⟩:=y1.mono e2;obtain⟨ws,ew,l⟩:=s2.cont k a ds ea es;refine⟨a,ws,i,j,rfl,aU z2,ew,by rw[l.length];exact ej,?_⟩;exact c o2 _ δ _ σ ((e1.trans e2).trans (Ex.upd ea)) (((he.mono e1).mono e2).mono (Ex.upd ea)) (s2.upd ea (l.setAt (hx.mono (e1.trans e2)))) d2
def aM:DS:=fun E δ S=>E.nx δ S
def aA(t u:DS):DS:=fun E δ S=>t { E with nx:=u E } δ S
def aC(e:DE)(g:DG):DS:=fun E δ S=>e δ S fun x S1=>g x δ S1 E.nx
def dG(e:DE):DS:=fun E δ S=>e δ S fun _ S1=>E.nx δ S1
def aB(e:DE):DS:=fun E δ S=>e δ S E.rt
def aI(c:DT)(t u:DS):DS:=fun E δ S=>c δ S fun b S1=>if b=true then t E δ S1 else u E δ S1
section
variable {t u:TS}{dt du:DS}{te:TE}{de:DE}
theorem fG:RS uF aM:=fun h o H δ σ S E D he hs q c=>c.nx o H δ S σ Ex.refl he hs q
theorem zL(ht:RS t dt)(hu:RS u du):RS (e9 t u) (aA dt du):=fun h o H δ σ S E D he hs q c=>
 ht h o H δ σ S _ _ he hs q ⟨fun o1 H1 δ1 S1 σ1 e1 y aa q1=>hu h o1 H1 δ1 σ1 S1 E D y aa q1 (c.pre e1),c.rt,c.bk,c.ct⟩
theorem cG{g:TG}{dg:DG}(y:RE te de)(hg:RG g dg):RS (j6 te g) (aC de dg):=fun h o H δ σ S E D he hs q c=>
 y h o H δ σ S _ _ he hs q fun o1 H1 S1 x v e1 s1 x1 d1=>hg h o1 H1 δ σ S1 x v _ _ (he.mono e1) s1 x1 d1 (c.nx.pre e1)
theorem nF(y:RE te de):RS (Ao te) (dG de):=fun h o H δ σ S E D he hs q c=>
 y h o H δ σ S _ _ he hs q fun o1 H1 S1 x v e1 s1 x1 d1=>c.nx o1 H1 δ S1 σ e1 (he.mono e1) s1 d1
theorem bM(y:RE te de):RS (qM te) (aB de):=fun h o H δ σ S E D he hs q c=>y h o H δ σ S _ _ he hs q c.rt
theorem eU{tc:TT}{dc:DT}(hc:RT tc dc)(ht:RS t dt)(hu:RS u du):RS (iZ tc t u) (aI dc dt du):=fun h o H δ σ S E D he hs q c=>
 hc h o H δ σ S _ _ he hs q fun o1 H1 S1 b e1 s1 d1=>by
  cases b with
  |true=>exact gH (ht h o1 H1 δ σ S1 E D (he.mono e1) s1 (by simpa using d1) (c.pre e1))
  |false=>exact gV (hu h o1 H1 δ σ S1 E D (he.mono e1) s1 (by simpa using d1) (c.pre e1))
def frz(n:Nat)(ds:List bv):Option XV->Option XV
 |some (.l k)=>if k=n then some (.d (.list ds))else some (.l k)
 |some (.p k d)=>if k=n then some (.d (.tuple [.list ds,d]))else some (.p k d)
 |y=>y
end
abbrev DI:=XE->Sto->(List bv->Sto->Prop)->Prop
structure WalkX(h o:List Addr)(H:Hp)(J:It)(ds:List bv):Prop where
 stop:∀(i:Nat) o2 H2,ExH h o H o2 H2->ds.length<=i->J.stop i H2
 go:∀(i:Nat) d o2 H2,ExH h o H o2 H2->ds[i]?=some d->J.go i H2
 yld:∀(i:Nat) d o2 H2 x H3 S2,ExH h o H o2 H2->RepS h o2 H2 S2->ds[i]?=some d->J.yld i H2 x H3->Same H2 H3/\Has (vx h o2 H3) d x
def RI(w:TI)(di:DI):Prop:=∀(h o:List Addr) (H:Hp) (δ:XE) (σ:St) (S:Sto) (R:List bv->Sto->Prop) (Q:It->Hp->Prop),RepE h o H δ σ->RepS h o H S->di δ S R ->
 (∀o' H' S' ds J,Ex o H o' H'->RepS h o' H' S'->WalkX h o' H' J ds->R ds S'->Q J H')->w σ H Q
theorem v6{h o:List Addr}{H:Hp}{lo:Int}{n:Nat}:WalkX h o H (Itr lo n) (gX lo n) where
 stop:=fun i _ _ _ hi=>by rw[jI]at hi;exact hi
 go:=fun i d _ _ _ hi=>(tQ hi).1
 yld:=fun i d o2 H2 x H3 S2 _ _ hi y=>by
  obtain⟨e,ex⟩:=y;subst e ex;rw[(tQ hi).2];exact⟨Same.refl _,cM.mpr rfl⟩
def j7(g:DG)(b:DS):List bv->DS
 | [],E,δ,S=>E.nx δ S
 |d::ds,E,δ,S=>g (.d d) δ S fun δ1 S1=>b { nx:=fun δ2 S2=>j7 g b ds E δ2 S2,ct:=fun δ2 S2=>j7 g b ds E δ2 S2,bk:=E.nx,rt:=E.rt } δ1 S1
def bY(i:DI)(g:DG)(b:DS):DS:=fun E δ S=>i δ S fun ds S1=>j7 g b ds E δ S1
theorem kT{wi:TI}{g:TG}{tb:TS}{di:DI}{dg:DG}{db:DS}(hi:RI wi di)(hg:RG g dg)(hb:RS tb db):RS (qJ wi g tb) (bY di dg db):=fun h o H δ σ S E D he hs q c=>
 hi h o H δ σ S _ _ he hs q fun o1 H1 S1 ds J e1 s1 wk d1=>by
  refine⟨fun i m σ2 H2=>m=ds.length-i/\i<=ds.length/\∃o2 δ2 S2,Ex o1 H1 o2 H2/\RepE h o2 H2 δ2 σ2/\RepS h o2 H2 S2/\j7 dg db (ds.drop i) E δ2 S2,⟨ds.length,yv,pf _,o1,δ,S1,Ex.refl,he.mono e1,s1,d1⟩,?_⟩;rintro i m σ2 H2 ⟨rfl,hi,o2,δ2,S2,e2,ah,ae,d2⟩;by_cases hlt:i<ds.length
  ·have ed:ds[i]?=some ds[i]:=cy hlt;rw[nv hlt]at d2;refine .inr ⟨wk.go i _ o2 H2 e2.hid ed,fun σ3 H3=>∃o3 δ3 S3,Ex o1 H1 o3 H3/\RepE h o3 H3 δ3 σ3/\RepS h o3 H3 S3/\j7 dg db (ds.drop (i+1)) E δ3 S3,fun σ3 H3 n=>⟨ds.length-(i+1),yw,rfl,hlt,n⟩,fun x H3 y=>?_⟩;obtain⟨s3,hx⟩:=wk.yld i _ o2 H2 x H3 S2 e2.hid ae ed y;have ag:Ex o2 H2 o2 H3:=Ex.of_same s3;refine hg h o2 H3 δ2 σ2 S2 (.d ds[i]) x _ _ (ah.mono ag) (ae.same s3) hx d2 fun o4 H4 δ4 S4 σ4 e4 aj ai d4=>?_;have ac:Ex o1 H1 o4 H4:=(e2.trans ag).trans e4;have ce:=(c.pre e1).pre ac;exact hb h o4 H4 δ4 σ4 S4 _ _ aj ai d4 ⟨fun o5 H5 δ5 S5 σ5 e5 af aa d5=>⟨o5,δ5,S5,ac.trans e5,af,aa,d5⟩,ce.rt,ce.nx,fun o5 H5 δ5 S5 σ5 e5 af aa d5=>⟨o5,δ5,S5,ac.trans e5,af,aa,d5⟩⟩
  ·have ei:i=ds.length:=yw
   subst ei;rw[drop_length]at d2;exact .inl ⟨wk.stop _ o2 H2 e2.hid (dw _),c.nx o2 H2 δ2 S2 σ2 (e1.trans e2) ah ae d2⟩
def aK:DT:=fun _ S R=>R true S
theorem dE:RT B7 aK:=fun h o H δ σ S R Q he hs q c=>c o H S true Ex.refl hs q
def aY(n:Nat)(g:DG)(tt:DT)(te:DE)(fin:Sto->Prop):List bv->XE->Sto->Prop
 | [],_,S=>fin S
 |d::ds,τ,S=>g (.d d) τ S fun τ1 S1=>tt τ1 S1 fun b S2=>if b=true then te τ1 S2 fun x S3=>asD x fun e=>∃acc,S3[n]?=some acc/\acc.length<1000/\aY n g tt te fin ds τ1 (S3.set n (acc++[e]))else aY n g tt te fin ds τ1 S2
def gY(caps:List (Option Nat))(i:DI)(g:DG)(tt:DT)(te:DE):DE:=fun δ S R=>i δ S fun ds S1=>aY S1.length g tt te (fun S2=>R (.l S1.length) S2) ds (eK caps δ) (S1++[[]])
def bJ(caps:List (Option Nat))(i:DI)(g:DG)(tt:DT)(te:DE):DE:=fun δ S R=>i δ S fun ds S1=>aY S1.length g tt te (fun S2=>∃S0 acc,S2=S0++[acc]/\S0.length=S1.length/\R (.d (.list acc)) S0) ds (eK caps δ) (S1++[[]])
theorem RepS.pop{h o r:List Addr}{H:Hp}{S0 T:Sto}(hs:RepS h (o++r) H (S0++T))(hl:S0.length=o.length):RepS h o H S0 where
 len:=hl
 nd:=(List.nodup_append.mp hs.nd).1
 dis:=fun a ha=>hs.dis a (jo _ ha)
 hal:=hs.hal
 cont:=fun k a ds e1 e2=>by
  obtain⟨vs,e3,l⟩:=hs.cont k a ds (fS e1) (fS e2);exact⟨vs,e3,l.mono fun b u e=>by
   obtain⟨z1,z2,z3⟩:=zW.mp e;exact zW.mpr ⟨z1,fun m=>z2 (jo _ m),z3⟩⟩
theorem qD{h o r:List Addr}{H:Hp}:Same (vx h (o++r) H) (vx h o H):=fun b u e=>by
 obtain⟨z1,z2,z3⟩:=zW.mp e;exact zW.mpr ⟨z1,fun m=>z2 (jo _ m),z3⟩
theorem Ex.pop{o o' r:List Addr}{H H':Hp}(e:Ex o H (o++r) H'):Ex o H o H':=⟨⟨[],yv⟩,fun b u hb eb=>⟨hb,(e.kp b u hb eb).2⟩⟩
theorem yG{caps:List (Option Nat)}{wi:TI}{g:TG}{tt:TT}{te:TE}{di:DI}{dg:DG}{af:DT}{ae:DE}(hi:RI wi di)(hg:RG g dg)(ht:RT tt af)(ak:RE te ae)
  {h o:List Addr}{H:Hp}{δ:XE}{σ:St}{S:Sto}{Q:VK}{fin:Nat->Sto->Prop} (he:RepE h o H δ σ) (hs:RepS h o H S) (q:di δ S fun ds S1=>aY S1.length dg af ae (fin S1.length) ds (eK caps δ) (S1++[[]]))
  (c:∀o1 H1 D o2 H2 S2,Ex o H o1 H1->H1 D=none->Ex (o1++[D]) (upd H1 D (.lst [])) o2 H2->RepS h o2 H2 S2->fin o1.length S2->Q (.ref D) H2):lD caps wi g tt te σ H Q:=by
 refine hi h o H δ σ S _ _ he hs q fun o1 H1 S1 ds J e1 s1 wk d1 D hD=>?_;have eN:Ex o1 H1 (o1++[D]) (upd H1 D (.lst [])):=Ex.new s1 hD;have sN:RepS h (o1++[D]) (upd H1 D (.lst [])) (S1++[[]]):=s1.new hD (zx.mpr rfl);have hn:S1.length=o1.length:=s1.len;refine⟨fun i m τ H2=>m=ds.length-i/\i<=ds.length/\∃o2 δ2 S2,Ex (o1++[D]) (upd H1 D (.lst [])) o2 H2/\RepE h o2 H2 δ2 τ/\RepS h o2 H2 S2/\aY S1.length dg af ae (fin S1.length) (ds.drop i) δ2 S2,⟨ds.length,yv,pf _,_,_,_,Ex.refl,((he.mono e1).mono eN).tau,sN,d1⟩,?_⟩;rintro i m τ H2 ⟨rfl,hi,o2,δ2,S2,e2,aj,ac,d2⟩;by_cases hlt:i<ds.length
 ·have ed:ds[i]?=some ds[i]:=cy hlt;rw[nv hlt]at d2;refine .inr ⟨wk.go i _ o2 H2 (eN.trans e2).hid ed,fun x H3 y=>?_⟩;obtain⟨s3,hx⟩:=wk.yld i _ o2 H2 x H3 S2 (eN.trans e2).hid ac ed y;have ah:Ex o2 H2 o2 H3:=Ex.of_same s3;refine hg h o2 H3 δ2 τ S2 (.d ds[i]) x _ _ (aj.mono ah) (ac.same s3) hx d2 fun o4 H4 δ4 S4 τ4 e4 aa al d4=>?_;refine ht h o4 H4 δ4 τ4 S4 _ _ aa al d4 fun o5 H5 S5 b e5 s5 d5=>?_;have ag:=((e2.trans ah).trans e4).trans e5;cases b with
  |false=>exact gV ⟨ds.length-(i+1),yw,rfl,hlt,o5,δ4,S5,ag,aa.mono e5,s5,by simpa using d5⟩
  |true=>
   refine gH (ak h o5 H5 δ4 τ4 S5 _ _ (aa.mono e5) s5 (by simpa using d5) fun o6 H6 S6 z v e6 s6 z6 d6=>?_);replace d6:=j8 d6;obtain⟨e,rfl,acc,ea,hl,d6⟩:=d6;have ai:=ag.trans e6;have eD:o6[S1.length]?=some D:=by
    obtain⟨r,rfl⟩:=ai.pre;rw[hn];exact fS (by rw[fb])
   obtain⟨vs,ev,l⟩:=s6.cont _ D acc eD ea;refine⟨vs,ev,by rw[l.length];exact small1000 (om hl),ds.length-(i+1),yw,rfl,hlt,o6,δ4,_,ai.trans (Ex.upd eD),((aa.mono e5).mono e6).mono (Ex.upd eD),s6.upd eD (l.append (zn.mpr ⟨v,[],rfl,z6,zx.mpr rfl⟩)),d6⟩
 ·have ei:i=ds.length:=yw
  subst ei;rw[drop_length]at d2;exact .inl ⟨wk.stop _ o2 H2 (eN.trans e2).hid (dw _),c o1 H1 D o2 H2 S2 e1 hD e2 ac (hn▸d2)⟩
theorem A3{caps:List (Option Nat)}{wi:TI}{g:TG}{tt:TT}{te:TE}{di:DI}{dg:DG}{aa:DT}{y:DE}(hi:RI wi di)(hg:RG g dg)(ht:RT tt aa)(ac:RE te y):RE (lD caps wi g tt te) (gY caps di dg aa y):=fun h o H δ σ S R Q he hs q c=>by
 refine yG (fin:=fun n S2=>R (.l n) S2) hi hg ht ac he hs q fun o1 H1 D o2 H2 S2 e1 hD e2 s2 f=>?_;have eN:Ex o1 H1 (o1++[D]) (upd H1 D (.lst [])):=⟨⟨[D],rfl⟩,fun b w hb e=>by
  have ne:b≠D:=zC e hD;exact⟨by simp[hb,ne],by rw[zH ne];exact e⟩⟩
 refine c o2 H2 S2 (.l o1.length) _ ((e1.trans eN).trans e2) s2 ⟨D,?_,rfl⟩ f;obtain⟨r,rfl⟩:=e2.pre;exact fS (by rw[fb])
theorem cZ{caps:List (Option Nat)}{wi:TI}{g:TG}{tt:TT}{te:TE}{di:DI}{dg:DG}{ac:DT}{aa:DE}(hi:RI wi di)(hg:RG g dg)(ht:RT tt ac)(ae:RE te aa):RE (lD caps wi g tt te) (bJ caps di dg ac aa):=fun h o H δ σ S R Q he hs q c=>by
 refine yG (fin:=fun n S2=>∃(S0:Sto) (acc:List bv),S2=S0++[acc]/\S0.length=n/\R (.d (.list acc)) S0) hi hg ht ae he hs q fun o1 H1 D o2 H2 S2 e1 hD e2 s2 ⟨S0,acc,eS,hl,f⟩=>?_;subst eS;have eN:Ex o1 H1 (o1++[D]) (upd H1 D (.lst [])):=⟨⟨[D],rfl⟩,fun b w hb e=>by
  have ne:b≠D:=zC e hD;exact⟨by simp[hb,ne],by rw[zH ne];exact e⟩⟩
 have y:=eN.trans e2;obtain⟨r,rfl⟩:=e2.pre;have er:r=[]:=by
  have:=s2.len;simp only[fx,jg,hl]at this;exact gg yw
 subst er;rw[km]at s2 y;have s0:RepS h o1 H2 S0:=s2.pop hl;refine c o1 H2 S0 (.d (.list acc)) _ (e1.trans (Ex.pop (o':=o1) y)) s0 ?_ f;obtain⟨vs,ev,l⟩:=s2.cont o1.length D acc (by rw[fb]) (by rw[<- hl,fb]);have nD:D∉o1:=by
  have:=(List.nodup_append.mp s2.nd).2.2;intro m;exact this D m D yv rfl
 exact zU.mpr ⟨D,vs,rfl,zW.mpr ⟨s2.dis D yv,nD,ev⟩,l.mono qD⟩
def fin(n:Nat)(R:RX):RX:=fun y S'=>match y with
 | .l k=>if k<n then R (.l k) (S'.take n)else ∃ds,S'[k]?=some ds/\(R (.d (.list ds)) (S'.take n)\/R (.l n) (S'.take n++[ds]))
 | .p k d=>n<=k/\∃ds,S'[k]?=some ds/\R (.p n d) (S'.take n++[ds])
 |y=>R y (S'.take n)
theorem yO{h o r:List Addr}{H H':Hp}{S S':Sto}{k:Nat}{a:Addr}{ds:List bv}(hs:RepS h o H S)(e:Ex o H (o++r) H')(s':RepS h (o++r) H' S')(hk:¬ k<S.length)(ea:(o++r)[k]?=some a)(y:S'[k]?=some ds):
  Ex o H (o++[a]) H'/\Same (vx h (o++r) H') (vx h (o++[a]) H')/\RepS h (o++[a]) H' (S'.take S.length++[ds]):=by
 have eS:S'=S'.take S.length++S'.drop S.length:=(ou _ _).symm;have hl:(S'.take S.length).length=o.length:=by
  have:=s'.len;rw[fx]at this;rw[kz,this,hs.len];omega
 have s0:RepS h o H' (S'.take S.length):=by
  rw[eS]at s';exact s'.pop hl
 have e0:Ex o H o H':=Ex.pop (o':=o) e;obtain⟨vs,ev,l⟩:=s'.cont k a ds ea y;have na:a∉o:=fun m=>by
  obtain⟨j,ej⟩:=mem_iff_getElem?.mp m;have hj:j<o.length:=(List.getElem?_eq_some_iff.mp ej).1;have:=lC s'.nd (fS (t:=r) ej) ea;rw[hs.len]at hk;omega
 have nh:a∉h:=s'.dis a (bw ea);have hn:H a=none:=by
  cases eh:H a with
  |none=>rfl
  |some u=>exact absurd (bw ea) (e.kp a u na eh).1
 have e1:Ex o H (o++[a]) H':=⟨⟨[a],rfl⟩,fun b u hb eb=>⟨by simp only[rp,oq,not_or];exact⟨hb,zC eb hn⟩,(e0.kp b u hb eb).2⟩⟩;have sub:Same (vx h (o++r) H') (vx h (o++[a]) H'):=fun b u eb=>by
  obtain⟨z1,z2,z3⟩:=zW.mp eb;refine zW.mpr ⟨z1,?_,z3⟩;simp only[rp,oq,not_or];exact⟨fun m=>z2 (jo _ m),fun z=>z2 (by rw[z];exact bw ea)⟩
 refine⟨e1,sub,⟨by rw[fx,fx,hl];rfl,mR hs.nd na,fun b hb=>?_,s0.hal,fun j b es q1 q2=>?_⟩⟩
 ·rcases mem_append.mp hb with hb|hb
  ·exact hs.dis b hb
  ·rw[mem_singleton.mp hb];exact nh
 ·by_cases hj:j<o.length
  ·rw[fy hj]at q1;rw[fy (by rw[hl];exact hj),List.getElem?_take_of_lt (by rw[hs.len];exact hj)]at q2;obtain⟨ws,e3,l3⟩:=s'.cont j b es (fS q1) q2;exact⟨ws,e3,l3.mono sub⟩
  ·have aa:j=o.length:=by
    obtain⟨q,_⟩:=List.getElem?_eq_some_iff.mp q1;rw[fx,jg]at q;omega
   subst aa;rw[fb]at q1;rw[<- hl,fb]at q2;cases q1;cases q2;exact⟨vs,ev,l.mono sub⟩
theorem yC{h o:List Addr}{H:Hp}{S:Sto}{R:RX}{Q:VK}(hs:RepS h o H S)(c:Cn h o H R Q):Cn h o H (fin S.length R) Q:=fun o' H' S' y v e s' hy q=>by
 obtain⟨r,rfl⟩:=e.pre;have eS:S'=S'.take S.length++S'.drop S.length:=(ou _ _).symm;have hl:(S'.take S.length).length=o.length:=by
  have:=s'.len;rw[fx]at this;rw[kz,this,hs.len];omega
 have s0:RepS h o H' (S'.take S.length):=by
  rw[eS]at s';exact s'.pop hl
 have e0:Ex o H o H':=Ex.pop (o':=o) e;cases y with
 |d d=>exact c o H' _ (.d d) v e0 s0 (Has.mono qD d v hy) q
 |o w=>exact c o H' _ (.o w) v e0 s0 hy q
 |x C fs=>exact c o H' _ (.x C fs) v e0 s0 (HasE.mono qD hy) q
 |p k d=>
  obtain⟨hk,ds,aa,q⟩:=q;obtain⟨t,a,u,rfl,ea,et,hu⟩:=hy;obtain⟨e1,sub,s1⟩:=yO hs e s' yw ea aa;exact c (o++[a]) H' _ (.p S.length d) _ e1 s1 ⟨t,a,u,rfl,by rw[hs.len,fb],sub _ _ et,Has.mono sub _ _ hu⟩ q
 |l k=>
  unfold fin at q;by_cases hk:k<S.length
  ·simp only[hk,↓reduceIte]at q;obtain⟨a,ea,rfl⟩:=hy;exact c o H' _ (.l k) _ e0 s0 ⟨a,by rw[fy (by rw[<- hs.len];exact hk)]at ea;exact ea,rfl⟩ q
  ·simp only[hk,↓reduceIte]at q;obtain⟨ds,aa,q⟩:=q;obtain⟨a,ea,rfl⟩:=hy;obtain⟨vs,ev,l⟩:=s'.cont k a ds ea aa;have na:a∉o:=fun m=>by
    obtain⟨j,ej⟩:=mem_iff_getElem?.mp m;have hj:j<o.length:=(List.getElem?_eq_some_iff.mp ej).1;have:=lC s'.nd (fS (t:=r) ej) ea;rw[hs.len]at hk;omega
   have nh:a∉h:=s'.dis a (bw ea);rcases q with q|q
   ·exact c o H' _ (.d (.list ds)) _ e0 s0 (zU.mpr ⟨a,vs,rfl,zW.mpr ⟨nh,na,ev⟩,l.mono qD⟩) q
   ·obtain⟨e1,sub,s1⟩:=yO hs e s' hk ea aa;exact c (o++[a]) H' _ (.l S.length) _ e1 s1 ⟨a,by rw[hs.len,fb],rfl⟩ q
def aG(n:Nat)(R:RX):DEnds:={ nx:=fun _ S'=>fin n R (.d .none) S',rt:=fin n R }
theorem eok{h o:List Addr}{H:Hp}{S:Sto}{R:RX}{Q:VK}(hs:RepS h o H S)(c:Cn h o H R Q):EOk h o H (aG S.length R) { nx:=fun _ H'=>Q .non H',rt:=Q } :=
 ⟨fun o' H' δ' S' σ' e he y q=>yC hs c o' H' S' _ _ e y xN q,yC hs c,fun _ _ _ _ _ _ _ _ q=>q.elim,fun _ _ _ _ _ _ _ _ q=>q.elim⟩
def cE(p:List bv):Prop:=∃l g s:Int,p=[.int l,.int g,.int s]/\0<=l
end
section
def CY(K:cw):List V->Hp->VK->Prop:=fun xs H Q=>∃(p:Addr) (ns:List Int),xs=[.ref p]/\SqL K H p (ns.map V.int)/\Q (.int ns.sum) H
def BX(K:cw):List V->Hp->VK->Prop:=fun xs H Q=>∃(p:Addr) (bs:List Bool),xs=[.ref p]/\SqL K H p (bs.map V.bl)/\Q (.bl (bs.all id)) H
theorem xQ:iy "sum" = some (.builtin "sum"):=by decide +kernel
theorem sY:iy "all" = some (.builtin "all"):=by decide +kernel
section
variable {X:Cx}
theorem v5(hc:X.calm=true):CallR X (.builtin "sum") (CY X.K):=by
 intro zd s σ H xs us Q I r h;obtain⟨p,ns,rfl,hq,q⟩:=h;obtain⟨u,rfl,rx⟩:=vals1 r;cases (show u=fv p from rx);obtain⟨aa,rv,pl,_⟩:=I.list hq;obtain⟨ys,e,y⟩:=Gb (kR rv);refine sum_intListG (I.ok.hd hc) (by rw[<- e];exact pl.isList) fun h' tk t' hk=>⟨.int ns.sum,H,I.kept (t':=tk) hk,⟨t',?_⟩,q⟩;have es:preSum (numAt ys) ys.size=ns.sum:=by
  rw[preSum_eq,y,ko yv]
 rw[es]
theorem u9:∀{bs:List Bool}{us:List bo}{i:Nat}{v:bo},Vals (bs.map V.bl) us->us[i]?=some v->∃b,bs[i]?=some b/\v=.bool b
 | [],_,i,v,.nil,e=>by simp at e
 |b::bs,_,0,v,.cons r _,e=>by
  rw[nc]at e;cases e;exact⟨b,rfl,r⟩
 |b::bs,_,i+1,v,.cons _ t,e=>by
  obtain⟨c,e1,e2⟩:=u9 (i:=i) (v:=v) t (by simpa using e);exact⟨c,by simpa using e1,e2⟩
theorem Fl(bs:List Bool):((ir bs.length).all fun i=>(bs[i]?).getD true)=bs.all id:=by
 rw[qv,nq,nq];constructor
 ·intro h b hb;obtain⟨i,hi⟩:=mem_iff_getElem?.mp hb;have hl:=(List.getElem?_eq_some_iff.mp hi).1;have:=h i (mem_range.mpr hl);rw[hi]at this;exact this
 ·intro h i hi;have hl:=mem_range.mp hi;rw[cy hl];exact h _ (getElem_mem hl)
theorem tL(hc:X.calm=true):CallR X (.builtin "all") (BX X.K):=by
 intro zd s σ H xs us Q I r h;obtain⟨p,bs,rfl,hq,q⟩:=h;obtain⟨u,rfl,rx⟩:=vals1 r;cases (show u=fv p from rx);obtain⟨y,rv,pl,_⟩:=I.list hq;have hl:=pl.isList;have aa:p<s.heap.objs.size:=by
  obtain⟨_,e,_⟩:=hl;exact fw e
 refine call_all_walk (x:=fv p) (ju hl ?_);refine⟨s.heap.objs.size,[s.heap.objs.size,p],[s.heap.objs.size],y.toArray.size,_,_,fun i=>(bs[i]?).getD true,rfl,
  Walks.list (A:=X.A.in1) (I.ok.hd hc) _ p (ic aa) y.toArray,⟨⟨_,ff _ rfl,rfl,rfl⟩,hl.push _⟩,fun i v s' Q' E' hP hQ=>?_,fun h' tk hk=>?_⟩
 ·obtain⟨b,e,rfl⟩:=u9 (i:=i) (v:=v) rv (by simpa using hP);have ac:Q' b s':=by simpa[e]using hQ
  exact lv ac
 ·have hz:y.toArray.size=bs.length:=by
   have:=rv.length;rw[fj]at this;simp[this]
  rw[hz,Fl];refine⟨.bl _,H,I.kept (t':=tk) fun b o e=>hk b o (fun hm=>?_) (bx _ e),rfl,q⟩;rw[mem_singleton.mp hm]at e;exact nz _ (fw e)
end
def iC:List XV->Sto->RX->Prop:=fun xs S R=>arg1 xs fun x=>∃ds,cC S x=some ds/\∃ns:List Int,ds=ns.map cq/\R (.d (.int ns.sum)) S
theorem At{K:cw}:RC (CY K) iC:=fun h o H S xs vs R Q hs hx q c=>by
 obtain⟨x,rfl,ds,hd,ns,rfl,q1⟩:=bO q;obtain⟨v,rfl,y⟩:=hxs1 hx;obtain⟨a,ws,rfl,ea,l⟩:=bQ hs hd y;rw[iK l]at ea;exact⟨a,ns,rfl,.of ea,c o H S _ _ Ex.refl hs (xI _) q1⟩
theorem vA{H:Hp}:∀{ns:List Bool}{vs:List V},HasL H (ns.map px) vs->vs=ns.map V.bl
 | [],vs,h=>zx.mp h
 |n::ns,vs,h=>by
  obtain⟨v,r,rfl,h1,h2⟩:=zn.mp h;rw[fP.mp h1,vA h2];rfl
def fW:List XV->Sto->RX->Prop:=fun xs S R=>arg1 xs fun x=>∃ds,cC S x=some ds/\∃ns:List Bool,ds=ns.map px/\R (.d (.bool (ns.all id))) S
theorem qK{K:cw}:RC (BX K) fW:=fun h o H S xs vs R Q hs hx q c=>by
 obtain⟨x,rfl,ds,hd,ns,rfl,q1⟩:=bO q;obtain⟨v,rfl,y⟩:=hxs1 hx;obtain⟨a,ws,rfl,ea,l⟩:=bQ hs hd y;rw[vA l]at ea;exact⟨a,ns,rfl,.of ea,c o H S _ _ Ex.refl hs (xB _) q1⟩
section
variable {S:Sto}{i:Int}{b:Bool}{z:Str}{ds:List bv}{d:bv}{k:Nat}{x y:XV}{R:RX}{c:String}{p:List bv}{n:Nat}{v:V}
theorem m6{K:Int->Prop}:asI (.d (.int i)) K=K i:=rfl
theorem mF{K:Bool->Prop}:asB (.d (.bool b)) K=K b:=rfl
theorem lF{K:List bv->Prop}:asT (.d (.tuple ds)) K=K ds:=rfl
theorem nR{K:bv->Prop}:asD (.d d) K=K d:=rfl
theorem nV:cC S (.d (.list ds))=some ds:=rfl
theorem lJ:cC S (.l k)=S[k]?:=rfl
theorem nG:asQ S (.d (.list ds))=some ds:=rfl
theorem n6:bS S (.d d)=some d:=rfl
theorem lR:bS S (.l k)=(S[k]?).map .list:=rfl
theorem nN:ret0 S R (.d d) []=R (.d d) S:=rfl
theorem nY:ret0 S R (.l 0) [ds]=R (.l S.length) (S++[ds]):=rfl
theorem nA:qY k S R (.d d) [p]=R (.d d) (S.set k p):=rfl
theorem n9:fin n R (.d d) S=R (.d d) (S.take n):=rfl
theorem oJ:fin n R (.l k) S=if k<n then R (.l k) (S.take n)else ∃ds,S[k]?=some ds/\(R (.d (.list ds)) (S.take n)\/R (.l n) (S.take n++[ds])):=rfl
theorem k9{K:XV->Prop}:arg1 [x] K=K x:=rfl
theorem lO{K:XV->XV->Prop}:arg2 [x,y] K=K x y:=rfl
theorem lY{K:String->Prop}:rV (.o (.ty c)) K↔K c:=⟨fun⟨_,e,q⟩=>by cases e;exact q,fun q=>⟨c,rfl,q⟩⟩
theorem nL{K:Int->Prop}:uX (.d (.bool b)) K=K (if b then 1 else 0):=rfl
theorem lQ:(aG n R).rt x S=fin n R x S:=rfl
theorem lP:datas []=some []:=rfl
theorem mW{r:List XV}:datas (.d d::r)=(datas r).map (d :: ·):=rfl
end
theorem oK{α:Type}{a:α}{l:List α}:atI (a::l) 0=some a:=jD (j:=0) rfl
theorem lG{α:Type}{a b:α}{l:List α}:atI (a::b::l) 1=some b:=jD (j:=1) rfl
theorem mV{α:Type}{a b c:α}{l:List α}:atI (a::b::c::l) 2=some c:=jD (j:=2) rfl
def Shp(n:Nat)(d:bv):Prop:=d.canLay0=true/\d.depth<=n
theorem jX{n:Nat}{i:Int}:Shp n (.int i):=⟨rfl,pf _⟩
theorem Aw{n:Nat}{i:Bool}:Shp n (.bool i):=⟨rfl,pf _⟩
theorem uJ{n:Nat}:∀{ds:List bv},(∀d∈ds,Shp n d)->oh ds=true/\qw ds<=n
 | [],_=>⟨by simp only[oh],by simp only[qw];exact pf _⟩
 |d::ds,h=>by
  obtain⟨h1,h2⟩:=h d iq;obtain⟨h3,h4⟩:=uJ (ds:=ds) fun e m=>h e (fu _ m);simp only[oh,qw,h1,h3,Bool.and_true,true_and];omega
theorem kP{n:Nat}{ds:List bv}(h:∀d∈ds,Shp n d):Shp (n+1) (.list ds):=by
 obtain⟨h1,h2⟩:=uJ h;exact⟨by simp only[oy];exact h1,by simp only[PyData.depth];omega⟩
theorem sI{n:Nat}{ds:List bv}(h:∀d∈ds,Shp n d):Shp (n+1) (.tuple ds):=by
 obtain⟨h1,h2⟩:=uJ h;exact⟨by simp only[oy];exact h1,by simp only[PyData.depth];omega⟩
theorem jG{α:Type}{n:Nat}{f:α->bv}{l:List α}(h:∀x∈l,Shp n (f x)):∀d∈l.map f,Shp n d:=fun d m=>by
 obtain⟨x,hx,rfl⟩:=mem_map.mp m;exact h x hx
theorem Shp.ok{n:Nat}{d:bv}(h:Shp n d)(hn:n<=64:=by decide):ge d=true:=by
 unfold ge;rw[h.1,jh (lu h.2 hn)];rfl
theorem eY{g:DG}{b:DS}{E:DEnds}:∀{ds:List bv}{δ:XE}{S:Sto} (I:Nat->XE->Sto->Prop),I 0 δ S ->
  (∀i d δ S (N:XE->Sto->Prop),ds[i]?=some d->I i δ S->(∀ δ' S',I (i+1) δ' S'->N δ' S')->g (.d d) δ S fun δ1 S1=>b { nx:=N,ct:=N,bk:=E.nx,rt:=E.rt } δ1 S1) ->
  (∀ δ S,I ds.length δ S->E.nx δ S)->j7 g b ds E δ S
 | [],δ,S,I,h0,_,fin=>fin δ S h0
 |d::ds,δ,S,I,h0,step,fin=>by
  show g (.d d) δ S fun δ1 S1=>b _ δ1 S1;refine step 0 d δ S _ rfl h0 fun δ' S' h1=>?_;exact eY (ds:=ds) (fun i=>I (i+1)) h1 (fun i e δ S N hi=>step (i+1) e δ S N (by simpa using hi)) fin
theorem xM{α:Type}{l:List α}{a b:α}{n:Nat}(h:l.length=n):(l++[a]).set n b=l++[b]:=by
 subst h;rw[List.set_append_right _ _ (dw _),Nat.sub_self];rfl
theorem Bo{H:Hp}:RepS [] [] H []:=⟨rfl,nodup_nil,fun _ h=>(nomatch h),fun _ h=>(nomatch h),fun _ _ _ e=>(by simp at e)⟩
theorem Ex.same_nil{o':List Addr}{H H':Hp}(e:Ex [] H o' H'):Same H H':=fun b u q=>(e.kp b u yv q).2
theorem FY{K:cw}{a:Addr}{ns:List Int}{N:Int}{j m:Nat}{tb:TS}{db:DS}{D:Ends}{σ:St}{H:Hp}(hb:RS tb db)(h0:σ[0]?=some (some (.ref a)))(hl:σ.length=m+1)(hS:SqL K H a (ns.map V.int))(y:ns.length<=63)
  (turn:∀n:Int,db { nx:=fun δ _=>δ[0]?=some (some (.o (.ref a)))/\δ.length=m+1,ct:=fun δ _=>δ[0]?=some (some (.o (.ref a)))/\δ.length=m+1,rt:=fun _ _=>False } ((some (.o (.ref a))::bu m none).set j (some (.d (.int n)))) [])
  (hj:j≠0) (done:∀(σ:St) (H1:Hp),Same H H1->D.nx σ H1):
  qJ (rN K (tOp nC (j9 (f7 (tC2 (rJ K) (fC 0) (tC (.int 0))) jU)) (tSl (oS K) (fC 0) (kU (tC (.int 1))) (kU (tC (.int N)))))) (jP j) tb D σ H:=by
 refine HZ (a:=a) (ns:=ns) (fun σ=>σ[0]?=some (some (.ref a))/\σ.length=m+1) h0 hS y ⟨h0,hl⟩ ?_ fun σ H1 _ s=>done σ H1 s;rintro n σ1 H1 H2 ⟨z0,z1⟩ s1 s2;refine hb [] [] H2 _ _ [] _ _ ⟨by simp[z1],fun i x e=>?_⟩ Bo (turn n) ⟨?_,fun _ _ _ _ _ _ _ _ q=>q.elim,fun _ _ _ _ _ _ _ _ q=>q.elim,?_⟩
 ·rw[getElem?_set]at e ⊢;by_cases hij:j=i
  ·rw[cu hij]at e ⊢;by_cases hjl:j<m+1
   ·rw[cu (by simpa using hjl)]at e;rw[cu (by rw[z1];exact hjl)];cases e;exact⟨.int n,rfl,xI n⟩
   ·rw[cn (by simpa using hjl)]at e;cases e
  ·rw[cn hij]at e ⊢;cases i with
   |zero=>
    cases e;exact⟨.ref a,z0,rfl⟩
   |succ i=>
    rw[ng,qk]at e;split at e<;>cases e
 ·rintro o' H' δ' S' σ' e he hs ⟨q1,q2⟩;obtain⟨v,ev,hv⟩:=he.get 0 _ q1;cases hv;exact⟨s2.trans e.same_nil,ev,by rw[<- he.len];exact q2⟩
 ·rintro o' H' δ' S' σ' e he hs ⟨q1,q2⟩;obtain⟨v,ev,hv⟩:=he.get 0 _ q1;cases hv;exact⟨s2.trans e.same_nil,ev,by rw[<- he.len];exact q2⟩
theorem Fd{a:Addr}{m:Nat}{t u:TS}{dt:DS}{D:Ends}{σ:St}{H:Hp}(ht:RS t dt)(h0:σ[0]?=some (some (.ref a)))(hl:σ.length=m+1)
  (go:dt { nx:=fun δ _=>δ[0]?=some (some (.o (.ref a)))/\δ.length=m+1,rt:=fun _ _=>False } (some (.o (.ref a))::bu m none) [])
  (next:∀(σ:St) (H1:Hp),σ[0]?=some (some (.ref a))->σ.length=m+1->Same H H1->u D σ H1):e9 t u D σ H:=by
 refine ht [] [] H _ _ [] _ _ ⟨by simp[hl],fun i x e=>?_⟩ Bo go ⟨?_,fun _ _ _ _ _ _ _ _ q=>q.elim,fun _ _ _ _ _ _ _ _ q=>q.elim,fun _ _ _ _ _ _ _ _ q=>q.elim⟩
 ·cases i with
  |zero=>
   cases e;exact⟨.ref a,h0,rfl⟩
  |succ i=>
   rw[ng,qk]at e;split at e<;>cases e
 ·rintro o' H' δ' S' σ' e he hs ⟨q1,q2⟩;obtain⟨v,ev,hv⟩:=he.get 0 _ q1;cases hv;exact next σ' H' ev (by rw[<- he.len];exact q2) e.same_nil
end
section
theorem Eb{P:fq}{w:gw}{K:cw}{tg:Expr}(it:Addr)(lo:Int)(n:Nat):Turn P w K tg (Itr lo n) [it] it (fun i h=>IsLongIter h it (lo+(i:Nat)*1) ((n:Int)-(i:Nat)) 1) where
 mem:=by simp
 obj:=fun i h st b hb=>by
  have e:b=it:=by simpa using hb
  subst e;exact⟨_,st,fun v z=>by
   have z':Data.fields _=Data.cell v:=z;cases z'⟩
 keep:=fun i h h' st k=>k it yv _ st
 item:=by
  intro X hP hw hK hc i zd s σ H E I hf st hg;subst hP hw hK;obtain⟨f0,f1,f2,f3,f4,f5⟩:=hf it yv;have W:=Walks.longrange (prog:=X.prog) (w:=X.w) (I.ok.hd hc) it lo 1 n;refine W.item i s _ _ hg st fun v h' tk hv st' kk=>?_;obtain⟨t,rfl⟩:=hv;have I1:Inv X zd σ H { s with heap:=h',toks:=tk }:=I.turned (fun b o hb e=>kk b o (by simpa using hb) e) f0 f1 f3 f4 f5;refine⟨_,rfl,lT (s:={ s with heap:=h',toks:=tk }) (n:="longrange_iterator") st' rfl rfl dz ⟨.int (lo+i),H,I1,⟨t,?_⟩,⟨rfl,rfl⟩,st',fun b hb=>(hf b hb).1⟩⟩;rw[Int.mul_one]
 done:=by
  intro X hP hw hK hc i zd s σ H E I hf st hg;subst hP hw hK;obtain⟨f0,f1,f2,f3,f4,f5⟩:=hf it yv;exact wpAny_pyNext_long_end (I.ok.hd hc) st (by have:n<=i:=hg;omega) fun h' eb=>⟨rfl,I.turned (t':=s.toks) (fun b o hb e=>eb b o hb e) f0 f1 f3 f4 f5⟩
 self:=fun _ _ _ _ _ st h=>wpAny_pyIter_longiter st h
section
variable {X:Cx}{tg:Expr}
theorem yV{zd:List (Addr×Obj)}{σ:St}{H:Hp}{s:bq}{R:It->Hp->Prop}{E:bo->bq->Prop}{lo hi:Int}{t u v:Tok}{tk:Nat}(I:Inv X zd σ H s)
  (q:R (Itr lo (hi-lo).toNat) H):cv (model X.prog X.w) X.A (pyIter (.ref s.heap.objs.size)) (PIE X zd σ tg R) E { s with heap:=s.heap.push { cls:=.type "range",data:=.fields #[.int lo t,.int hi u,.int 1 v] },toks:=tk }:=by
 have I1:Inv X zd σ H { s with heap:=s.heap.push { cls:=.type "range",data:=.fields #[.int lo t,.int hi u,.int 1 v] },toks:=tk }:=I.kept fun b o e=>bx _ e;have e1:lo+((0:Nat):Int)*1=lo:=by simp
 have e2:(((hi-lo).toNat:Nat):Int)-((0:Nat):Int)=Builtin.Range.rangeSize lo hi 1:=by rw[rangeSize_one];split<;>omega
 cases hsm:Builtin.Range.small lo hi 1 with
 |true=>
  refine wpAny_pyIter_range (IsRange.new ..) hsm ?_;refine⟨(s.heap.push { cls:=.type "range",data:=.fields #[.int lo t,.int hi u,.int 1 v] }).objs.size,[(s.heap.push { cls:=.type "range",data:=.fields #[.int lo t,.int hi u,.int 1 v] }).objs.size],_,_,H,rfl,
   I1.kept (t':=tk) fun b o e=>bx _ e,C1 _ lo (hi-lo).toNat,?_,fun b hb=>?_,q⟩
  ·show IsRangeIter _ _ (lo+((0:Nat):Int)*1) ((((hi-lo).toNat:Nat):Int)-((0:Nat):Int)) 1;rw[e1,e2];exact ff _ rfl
  ·have e:b=(s.heap.push { cls:=.type "range",data:=.fields #[.int lo t,.int hi u,.int 1 v] }).objs.size:=by simpa using hb
   subst e;exact I1.fpOk (dw _) (I1.hok.fresh (dw _))
 |false=>
  refine wpAny_pyIter_longrange (IsRange.new ..) hsm ?_;refine⟨(s.heap.push { cls:=.type "range",data:=.fields #[.int lo t,.int hi u,.int 1 v] }).objs.size,[(s.heap.push { cls:=.type "range",data:=.fields #[.int lo t,.int hi u,.int 1 v] }).objs.size],_,_,H,rfl,
   I1.kept (t':=tk) fun b o e=>bx _ e,Eb _ lo (hi-lo).toNat,?_,fun b hb=>?_,q⟩
  ·show IsLongIter _ _ (lo+((0:Nat):Int)*1) ((((hi-lo).toNat:Nat):Int)-((0:Nat):Int)) 1;rw[e1,e2];exact ff _ rfl
  ·have e:b=(s.heap.push { cls:=.type "range",data:=.fields #[.int lo t,.int hi u,.int 1 v] }).objs.size:=by simpa using hb
   subst e;exact I1.fpOk (dw _) (I1.hok.fresh (dw _))
def vB(ta:TA):TI:=fun σ H R=>ta σ H fun vs H1=>∃j:Int,vs=[.int j]/\R (Itr 0 j.toNat) H1
def B2(ta:TA):TI:=fun σ H R=>ta σ H fun vs H1=>∃i j:Int,vs=[.int i,.int j]/\R (Itr i (j-i).toNat) H1
theorem w8{a:Expr}{ta:TA}{p pos:Pos}(hg:Gl X "range")(hm:X.mg "range" = none)(ha:PA X [a] ta)(hs:fc [a] X.env=[(false,eval a X.env)]:=by rfl):PI X tg (.Call (.Name "range" p) [a] [] pos) (vB ta):=by
 intro zd s σ H R I h;refine Call_ (eF I hg hm boot_range (lj (thn (ha pos zd s σ H _ I h) fun us s1 ⟨vs,H1,I1,r1,q1⟩=>?_) hs rfl));obtain⟨j,e,q⟩:=q1;subst e;cases r1 with
 |cons r rr=>
  cases rr;obtain⟨t,rfl⟩:=r;exact call_range_1 (yV I1 (by simpa using q))
theorem Ek{a b:Expr}{ta:TA}{p pos:Pos}(hg:Gl X "range")(hm:X.mg "range" = none)(ha:PA X [a,b] ta)(hs:fc [a,b] X.env=[(false,eval a X.env),(false,eval b X.env)]:=by rfl)(y:fc [b] X.env=[(false,eval b X.env)]:=by rfl):
  PI X tg (.Call (.Name "range" p) [a,b] [] pos) (B2 ta):=by
 intro zd s σ H R I h;refine Call_ (eF I hg hm boot_range (lj (thn (ha pos zd s σ H _ I h) fun us s1 ⟨vs,H1,I1,r1,q1⟩=>?_) (by rw[hs,y]) (by rw[y];rfl)));obtain⟨i,j,e,q⟩:=q1;subst e;cases r1 with
 |cons r rr=>
  cases rr with
  |cons r' rr=>
   cases rr;obtain⟨t,rfl⟩:=r;obtain⟨t',rfl⟩:=r';exact call_range_2 (yV I1 q)
end
def iA(a:DA):DI:=fun δ S R=>a δ S fun xs S1=>arg1 xs fun x=>asI x fun j=>R (gX 0 j.toNat) S1
def iT(a:DA):DI:=fun δ S R=>a δ S fun xs S1=>arg2 xs fun x y=>asI x fun i=>asI y fun j=>R (gX i (j-i).toNat) S1
theorem Ab{ta:TA}{da:DA}(ha:RA ta da):RI (vB ta) (iA da):=fun h o H δ σ S R Q he hs q c=>
 ha h o H δ σ S _ _ he hs q fun o1 H1 S1 xs vs e1 s1 x1 d0=>by
  obtain⟨x,rfl,d2⟩:=bO d0;obtain⟨j,rfl,d1⟩:=bE d2;obtain⟨v,rfl,hv⟩:=hxs1 x1;rw[aU hv];exact⟨j,rfl,c o1 H1 S1 _ _ e1 s1 v6 d1⟩
theorem El{ta:TA}{da:DA}(ha:RA ta da):RI (B2 ta) (iT da):=fun h o H δ σ S R Q he hs q c=>
 ha h o H δ σ S _ _ he hs q fun o1 H1 S1 xs vs e1 s1 x1 d0=>by
  obtain⟨x,y,rfl,d2⟩:=pS d0;obtain⟨i,rfl,d3⟩:=bE d2;obtain⟨j,rfl,d1⟩:=bE d3;obtain⟨v,u,rfl,hv,hu⟩:=hxs2 x1;rw[aU hv,aU hu];exact⟨i,j,rfl,c o1 H1 S1 _ _ e1 s1 v6 d1⟩
end
section
open Sem (wp)
open AutoSeq1 (wpAny_loadPart')
section
variable {X:Cx}{zd:List (Addr×Obj)}{σ:St}{H:Hp}{s:bq}{h':Heap}
theorem Inv.turnLaid{t':Nat}{ch:List Addr}{T:Addr}{o:HO}(I:Inv X zd σ H s)(k:∀b u,b∉ch->s.heap.get? b=some u->h'.get? b=some u)(hf:∀b∈ch,FpOk X zd H b)(hT:s.heap.objs.size<=T)
  (new:ObjOk X.prog X.w (upd H T o) h' T o):Inv X zd σ (upd H T o) { s with heap:=h',toks:=t' }:=by
 have hn:H T=none:=I.hok.fresh hT;have y:∀b u,H b=some u->b∉ch:=fun b u e m=>by rw[(hf b m).1]at e;cases e
 have aa:∀b u,s.heap.get? b=some u->b≠T:=fun b u e z=>absurd (ix (fw e) hT) (by rw[z];exact nz _);have up:∀b u,H b=some u->upd H T o b=some u:=fun b u e=>(zH (zC e hn)).trans e;refine I.step (g':=s.gens) (d':=s.drawn) (ch:=ch) (fun b hb=>?_) (fun b u _ _ hc e _=>k b u hc e) (fun b u _ _ hc e _=>⟨u.slots,k b u hc e⟩) (fun b u _ e n=>(zH (aa b u e)).trans n)
  (fun b u hc e=>⟨u,k b u hc e⟩) (fun b xs e=>up b _ e) (fun b u v e=>up b _ e) (fun b ps e=>up b _ e) (fun m hm=>?_) (fun b u e=>?_) I.bare
 ·obtain⟨_,f1,_,f3,f4,f5⟩:=hf b hb;exact⟨f3,f1,f4,f5⟩
 ·obtain⟨ob,es,ep,ho,r⟩:=hm;exact⟨ob,es,ep,k _ ob (fun z=>(hf _ z).2.1 rfl) ho,r⟩
 ·by_cases hb:b=T
  ·subst hb;rw[cP]at e;cases e;exact new
  ·rw[zH hb]at e;refine(I.hok b u e).stay (fun c v hc q=>k c v ?_ q) (fun c q=>up c _ q) (fun c xs q=>up c _ q) fun c o u q=>up c _ q;rcases hc with z|z
   ·rw[z];exact y b u e
   ·exact y c _ z
theorem Inv.turnedN{t':Nat}{ch:List Addr}(I:Inv X zd σ H s)(k:∀b u,b∉ch->s.heap.get? b=some u->h'.get? b=some u)(hf:∀b∈ch,FpOk X zd H b):Inv X zd σ H { s with heap:=h',toks:=t' }:=by
 have y:∀b u,H b=some u->b∉ch:=fun b u e m=>by rw[(hf b m).1]at e;cases e
 refine I.step (g':=s.gens) (d':=s.drawn) (ch:=ch) (fun b hb=>?_) (fun b u _ _ hc e _=>k b u hc e) (fun b u _ _ hc e _=>⟨u.slots,k b u hc e⟩) (fun b u _ e n=>n)
  (fun b u hc e=>⟨u,k b u hc e⟩) (fun b xs e=>e) (fun b u v e=>e) (fun b ps e=>e) (fun m hm=>?_) (fun b u e=>?_) I.bare
 ·obtain⟨_,f1,_,f3,f4,f5⟩:=hf b hb;exact⟨f3,f1,f4,f5⟩
 ·obtain⟨ob,es,ep,ho,r⟩:=hm;exact⟨ob,es,ep,k _ ob (fun z=>(hf _ z).2.1 rfl) ho,r⟩
 ·refine(I.hok b u e).stay (fun c v hc q=>k c v ?_ q) (fun _ q=>q) fun _ _ q=>q;rcases hc with z|z
  ·rw[z];exact y b u e
  ·exact y c _ z
end
section
variable {prog:fq}{w:gw}{A:gh}{E:bo->bq->Prop}{s:bq}
theorem Cl{j t:Addr}{i:Nat}{vs:Array bo}{x:bo}{Q:bo->bq->Prop}(hj:s.heap.IsTupleIter j t i)(ht:s.heap.IsTuple t vs)(hx:vs[i]?=some x)
  (hQ:∀g,g.IsTupleIter j t (i+1)->jm j s.heap g->Q x { s with heap:=g }):cv (model prog w) A (jl (.ref j)) Q E s:=by
 obtain⟨oj,ej,cj,dj⟩:=id hj;obtain⟨ot,et,_,nt,dt⟩:=ht;unfold jl;refine bp (lc (name:=gk "__next__") hj.typeIs F.slot_tuple_iterator_next (lf F.slot_tuple_iterator_next hj.typeIs F.entry_tuple_iterator_next ?_ (F.args_tuple_iterator_next_1 _)));show cv _ _ (field (.ref j) 0 >>= _) _ _ s;refine bp (jt ej dj (x:=.ref t) rfl ?_);show cv _ _ (ite ((fv t==ku)=true) _ _) _ _ s;refine(cn (show ¬((fv t==ku)=true)from jc))▸?_;show cv _ _ (field (.ref j) 1 >>= _) _ _ s;refine bp (jt ej dj (x:=.int i 0) rfl ?_);refine bp (m:=ub (.ref t)) (ny et dt ?_);simp only[hx,Int.toNat_natCast];refine bp (wpAny_setField ej dj yv (cr ⟨x,rfl,cr (hQ _ ⟨_,mw _ ej (Obj.isFreed_of_fields (qm dj _)),(Obj.cls_mapFields ..).trans cj,?_⟩ (mh ..))⟩));rw[qm dj];simp[qj]
theorem Eo{j t:Addr}{i:Nat}{vs:Array bo}{Q:bo->bq->Prop}(hh:A.handled=none)(hj:s.heap.IsTupleIter j t i)(ht:s.heap.IsTuple t vs)(hx:vs[i]?=none)
  (hE:∀g e,Heap.ExtBut j s.heap g->(∃o,g.get? e=some o/\o.cls=.type "StopIteration")->E (.ref e) { s with heap:=g }):cv (model prog w) A (jl (.ref j)) Q E s:=by
 obtain⟨oj,ej,cj,dj⟩:=id hj;obtain⟨ot,et,_,nt,dt⟩:=ht;unfold jl;refine bp (lc (name:=gk "__next__") hj.typeIs F.slot_tuple_iterator_next (lf F.slot_tuple_iterator_next hj.typeIs F.entry_tuple_iterator_next ?_ (F.args_tuple_iterator_next_1 _)));show cv _ _ (field (.ref j) 0 >>= _) _ _ s;refine bp (jt ej dj (x:=.ref t) rfl ?_);show cv _ _ (ite ((fv t==ku)=true) _ _) _ _ s;refine(cn (show ¬((fv t==ku)=true)from jc))▸?_;show cv _ _ (field (.ref j) 1 >>= _) _ _ s;refine bp (jt ej dj (x:=.int i 0) rfl ?_);refine bp (m:=ub (.ref t)) (ny et dt ?_);simp only[hx,Int.toNat_natCast];refine bp (pc (bp (wpAny_setField ej dj yv ?_)));show cv _ _ (newExc (.type "StopIteration") [] >>= _) _ _ _;refine bp ?_;simp only[newExc,newTuple];refine bp (ji ?_ (by size_fits));refine bp (m:=firstArgMember _ _) (wpAny_of_eq (a:=ku) (by first|rfl|(simp only[firstArgMember];rfl)) ?_);refine ji ?_ (by size_fits);simp only[raiseNew];refine bp (wpAny_handled ?_)
 first|rw[show A.in1.handled=none from hh]|rw[hh]
 exact bp (cr (wpAny_throw (hE _ _ (((mh ..).extBut.push _).push _) ⟨_,ff _ rfl,rfl⟩)))
theorem Cm{e j:Addr}{i:Nat}{x y:bo}{J:Heap->Prop}{Q:bo->bq->Prop}(he:IsEnum s.heap e j i y)(aa:e≠j)
  (hn:∀(Q':bo->bq->Prop) (E':bo->bq->Prop),(∀g,J g->jm j s.heap g->Q' x { s with heap:=g })->cv (model prog w) A (jl (.ref j)) Q' E' s)
  (hJ:∀g g',J g->(∀o,g.get? j=some o->g'.get? j=some o)->J g')
  (hQ:∀g,IsEnumOut g e j ((i:Int)+1) x s.heap.objs.size->J g->g.get? s.heap.objs.size=some { cls:=.type "tuple",data:=.seq #[.int i s.toks,x] } ->
   (∀b o,b≠e->b≠j->s.heap.get? b=some o->g.get? b=some o)->Q (.ref s.heap.objs.size) { s with heap:=g,toks:=s.toks+1 }):
  cv (model prog w) A (nk.«enumerate.__next__» ⟨[.ref e],[]⟩) (fun fin s'=>∃v,fin=.done (.ret v)/\Q v s') E s:=by
 obtain⟨h0,gs,dr,tk,os⟩:=s;show cv _ _ (field (.ref e) 2 >>= _) _ _ _;refine bp (jt he rfl (x:=.ref j) rfl (bp (hn _ _ fun g1 J1 b1=>?_)));replace b1:jm j h0 g1:=b1;have e1:IsEnum g1 e j i y:=(b1.2 e aa).trans he;show cv _ _ (field (.ref e) 3 >>= _) _ _ ⟨g1,gs,dr,tk,os⟩;refine bp (jt e1 rfl (x:=qj i) rfl ?_);show cv _ _ (field (.ref e) 4 >>= _) _ _ ⟨g1,gs,dr,tk,os⟩;refine bp (jt e1 rfl (x:=.none) rfl ?_);show cv _ _ (mkInt i >>= _) _ _ ⟨g1,gs,dr,tk,os⟩;refine bp (wpAny_mkInt ?_);show cv _ _ (setField (.ref e) 3 (qj ((i:Int)+1)) >>= _) _ _ ⟨g1,gs,dr,tk+1,os⟩;refine bp (qo e1 yv fun g2 e2 b2=>?_);replace b2:jm e g1 g2:=b2;replace e2:IsEnum g2 e j ((i:Int)+1) y:=e2;show cv _ _ (setField (.ref e) 4 .none >>= _) _ _ ⟨g2,gs,dr,tk+1,os⟩;refine bp (qo e2 yv fun g3 e3 b3=>?_);replace b3:jm e g2 g3:=b3;replace e3:IsEnum g3 e j ((i:Int)+1) y:=e3;show cv _ _ (newTuple [.int i tk,x] >>= _) _ _ ⟨g3,gs,dr,tk+1,os⟩;refine bp (wpAny_newTuple ?_);have sz:g3.objs.size=h0.objs.size:=by rw[b3.1,b2.1,b1.1]
 have lt:e<h0.objs.size:=fw he;have e4:IsEnum (g3.push { cls:=.type "tuple",data:=.seq #[.int i tk,x] }) e j ((i:Int)+1) y:=bx _ e3;have J3:J g3:=hJ _ _ (hJ _ _ J1 fun o q=>b2.extBut j o (jq aa) q) fun o q=>b3.extBut j o (jq aa) q;have J4:J (g3.push { cls:=.type "tuple",data:=.seq #[.int i tk,x] }):=hJ _ _ J3 fun o q=>bx _ q;have t4:(g3.push { cls:=.type "tuple",data:=.seq #[.int i tk,x] }).get? h0.objs.size=some { cls:=.type "tuple",data:=.seq #[.int i tk,x] }:=by rw[<- sz];exact ff _ rfl
 have k4:∀b o,b≠e->b≠j->h0.get? b=some o->(g3.push { cls:=.type "tuple",data:=.seq #[.int i tk,x] }).get? b=some o:=fun b o n1 n2 q=>bx _ (b3.extBut b o n1 (b2.extBut b o n1 (b1.extBut b o n2 q)));generalize g3.push { cls:=.type "tuple",data:=.seq #[.int i tk,x] } = g4 at e4 J4 t4 k4 ⊢;show cv _ _ (Builtin.SmallTypes.ownedTupleIsFree (.ref e) >>= _) _ _ ⟨g4,gs,dr,tk+1,os⟩;rw[sz];refine bp ?_;unfold Builtin.SmallTypes.ownedTupleIsFree;refine bp (jt e4 rfl (x:=.none) rfl (cr ?_));simp only[if_true];refine bp (pc (bp (jt e4 rfl (x:=y) rfl (bp (qo e4 yv fun g5 e5 b5=>?_)))));replace b5:jm e g4 g5:=b5;replace e5:IsEnum g5 e j ((i:Int)+1) x:=e5;show cv _ _ (Builtin.SmallTypes.ownedTupleHandOut (.ref e) (.ref h0.objs.size) >>= _) _ _ ⟨g5,gs,dr,tk+1,os⟩;refine bp ?_;unfold Builtin.SmallTypes.ownedTupleHandOut;refine bp (qo e5 yv fun g6 e6 b6=>?_);replace b6:jm e g5 g6:=b6;replace e6:IsEnumOut g6 e j ((i:Int)+1) x h0.objs.size:=e6;refine qo e6 yv fun g7 e7 b7=>?_;replace b7:jm e g6 g7:=b7;replace e7:IsEnumOut g7 e j ((i:Int)+1) x h0.objs.size:=e7;have k7:∀b o,b≠e->g4.get? b=some o->g7.get? b=some o:=fun b o n q=>b7.extBut b o n (b6.extBut b o n (b5.extBut b o n q));exact bp (qi (cr ⟨_,rfl,hQ g7 e7 (hJ _ _ J4 fun o q=>k7 j o (jq aa) q) (k7 _ _ (ne_of_gt lt) t4) fun b o n1 n2 q=>k7 b o n1 (k4 b o n1 n2 q)⟩))
theorem sW{e j:Addr}{i:Nat}{x y:bo}{J:Heap->Prop}{Q:Option bo->bq->Prop}(he:IsEnum s.heap e j i y)(aa:e≠j)
  (hn:∀(A:gh) (Q':bo->bq->Prop) (E':bo->bq->Prop),(∀g,J g->jm j s.heap g->Q' x { s with heap:=g })->cv (model prog w) A (jl (.ref j)) Q' E' s)
  (hJ:∀g g',J g->(∀o,g.get? j=some o->g'.get? j=some o)->J g')
  (hQ:∀g,IsEnumOut g e j ((i:Int)+1) x s.heap.objs.size->J g->g.get? s.heap.objs.size=some { cls:=.type "tuple",data:=.seq #[.int i s.toks,x] } ->
   (∀b o,b≠e->b≠j->s.heap.get? b=some o->g.get? b=some o)->Q (some (.ref s.heap.objs.size)) { s with heap:=g,toks:=s.toks+1 }):cv (model prog w) A (uc (.ref e)) Q E s:=by
 have ty:s.TypeIs (.ref e) "enumerate":=⟨_,he,rfl⟩;unfold uc;exact bp (wpAny_attempt (lc (name:=gk "__next__") ty F.slot_enumerate_next (lf F.slot_enumerate_next ty F.entry_enumerate_next (Cm he aa (hn _) hJ fun g a b c k=>cr (hQ g a b c k)) (F.args_enumerate_next_1 _))))
theorem sC{e j:Addr}{i:Nat}{y:bo}{Q:Option bo->bq->Prop}(hh:A.handled=none)(he:IsEnum s.heap e j i y)
  (hn:∀(A:gh) (Q':bo->bq->Prop) (E':bo->bq->Prop),A.handled=none->(∀g x,Heap.ExtBut j s.heap g->(∃o,g.get? x=some o/\o.cls=.type "StopIteration")->E' (.ref x) { s with heap:=g })->cv (model prog w) A (jl (.ref j)) Q' E' s)
  (hQ:∀g,Heap.ExtBut j s.heap g->Q none { s with heap:=g }):cv (model prog w) A (uc (.ref e)) Q E s:=by
 have ty:s.TypeIs (.ref e) "enumerate":=⟨_,he,rfl⟩;unfold uc;refine bp (wpAny_attempt (lc (name:=gk "__next__") ty F.slot_enumerate_next (lf F.slot_enumerate_next ty F.entry_enumerate_next ?_ (F.args_enumerate_next_1 _))));show cv _ _ (field (.ref e) 2 >>= _) _ _ _;refine bp (jt he rfl (x:=.ref j) rfl (bp (hn _ _ _ hh fun g x b hx=>?_)));obtain⟨o,ho,hc⟩:=hx;exact bp (wpAny_isInstance (T:="StopIteration") (b:=true) ⟨o,ho,hc⟩ isSubtype_stop (cr (hQ _ b)))
theorem Dh(t:Addr)(vs:Array bo)(n:Nat)(aa:Option Addr)(sl:Array (Option bo)):Meets (nk.«enumerate.__new__» ⟨[.type "enumerate",.ref t],[]⟩) (fun _ R s=>s.heap.get? t=some { cls:=.type "tuple",dict:=aa,data:=.seq vs n,slots:=sl } /\
   R (.ok (.ret (.ref (s.heap.push { cls:=.type "tuple_iterator",data:=.fields #[.ref t,.int 0 0] }).objs.size)))
    { s with heap:=(s.heap.push { cls:=.type "tuple_iterator",data:=.fields #[.ref t,.int 0 0] }).push { cls:=.type "enumerate",data:=.fields #[.none,.bool false,.ref s.heap.objs.size,qj 0,.none,.none] } }):=
 .of_wp fun prog w A R s y=>by
  obtain⟨g0,gs,dr,tk,os⟩:=s;obtain⟨ht,y⟩:=y;have sub:=sub_enumerate;have hT:Heap.IsTuple (Shared.heap ⟨g0,gs,dr,tk,os⟩) t vs:=⟨_,ht,rfl,n,rfl⟩
  wp_walk using wpAny_loadPart' ht
  refine wpAny_stack_any fun _=>cr ?_;split
  ·rename_i c _ _ _ _ _;cases (c==ue "enumerate")<;>(wp_walk using wpAny_loadPart' ht,wpAny_pyIter_tuple hT;exact⟨_,rfl,y⟩)
  ·wp_walk using wpAny_loadPart' ht,wpAny_pyIter_tuple hT
   exact⟨_,rfl,y⟩
theorem GT{t:Addr}{vs:Array bo}{Q:bo->bq->Prop}(hT:s.heap.IsTuple t vs)
  (hyp:∀g,IsEnum g (s.heap.objs.size+1) s.heap.objs.size 0 .none->g.IsTupleIter s.heap.objs.size t 0->(∀b o,s.heap.get? b=some o->g.get? b=some o)->Q (.ref (s.heap.objs.size+1)) { s with heap:=g }):cv (model prog w) A (call (.type "enumerate") [.ref t]) Q E s:=by
 obtain⟨⟨c,y,dt,sl⟩,ht,hc,n,hd⟩:=hT;replace hc:c=.type "tuple":=hc;replace hd:dt=.seq vs n:=hd;subst hc hd;refine callType_new F.called_enumerate dz (F.typeCall_enumerate_1 _) (F.newCall_enumerate_1 _) (fun ob=>F.args_object_init_2 ob _) F.entry_enumerate_new (Dh t vs n y sl) ⟨ht,?_⟩;have sz:(s.heap.push { cls:=.type "tuple_iterator",data:=.fields #[.ref t,.int 0 0] }).objs.size=s.heap.objs.size+1:=size_push ..;show _/\_;rw[sz];have he:=ff (s.heap.push { cls:=.type "tuple_iterator",data:=.fields #[.ref t,.int 0 0] }) (o:={ cls:=.type "enumerate",data:=.fields #[.none,.bool false,.ref s.heap.objs.size,qj 0,.none,.none] }) rfl;rw[sz]at he;exact⟨⟨_,he,rfl⟩,hyp _ he ⟨_,bx _ (ff _ rfl),rfl,rfl⟩ fun b o q=>bx _ (bx _ q)⟩
end
def Ite(Sq:Hp->Addr->List V->Prop)(a:Addr):It:=
 ⟨fun i H=>∃xs x,Sq H a xs/\xs[i]?=some x,fun i H x H'=>∃p v,H p=none/\x=.ref p/\H'=upd H p (.tup [.int i,v])/\∀xs,Sq H a xs->xs[i]?=some v,fun i H=>∃xs,Sq H a xs/\xs.length<=i⟩
theorem DP{P:fq}{w:gw}{K:cw}{elts:List Expr}{n:Nat}{pos:Pos}(a e j:Addr)(ac:e≠j):Turn P w K (.Tuple elts n pos) (Ite (SqT K) a) [e,j] e (fun i h=>(∃y,IsEnum h e j i y)/\h.IsTupleIter j a i) where
 mem:=by simp
 obj:=fun i h ⟨⟨y,he⟩,hj⟩ b hb=>by
  rcases mem_cons.mp hb with rfl|hb
  ·exact⟨_,he,fun v z=>by
    have z':Data.fields _=Data.cell v:=z;cases z'⟩
  ·rw[mem_singleton.mp hb];obtain⟨o,q,c,d⟩:=hj;exact⟨o,q,fun v z=>by rw[d]at z;cases z⟩
 keep:=fun i h h' ⟨⟨y,he⟩,hj⟩ k=>⟨⟨y,k e yv _ he⟩,hj.at fun o q=>k j yv o q⟩
 item:=by
  intro X hP hw hK hc i zd s σ H E I hf ⟨⟨y,he⟩,hj⟩ hg;subst hP hw hK;obtain⟨xs,x,hq,hx⟩:=hg;obtain⟨aa,rv,p,hz⟩:=I.tuple hq;obtain⟨u,hu,ru⟩:=rv.get hx;have hT:s.heap.IsTuple a aa.toArray:=p;refine sW (J:=fun g=>g.IsTupleIter j a (i+1)) he ac (fun A' Q' E' k=>Cl hj hT (x:=u) (by simpa using hu) k) (fun g g' z k=>z.at k) fun g e1 j1 t1 k1=>?_;refine⟨_,rfl,wpAny_letOwnedTupleGo_enum (s:={ s with heap:=g,toks:=s.toks+1 }) e1 fun g' e2 b2=>?_⟩;have lt:e<s.heap.objs.size:=fw he;have af:j<s.heap.objs.size:=by
   obtain⟨_,q,_⟩:=hj;exact fw q
  have t2:g'.get? s.heap.objs.size=some { cls:=.type "tuple",data:=.seq #[.int i s.toks,u] }:=(b2.2 _ (ne_of_gt lt)).trans t1;have ae:H s.heap.objs.size=none:=I.hok.fresh (dw _);refine⟨.ref s.heap.objs.size,upd H s.heap.objs.size (.tup [.int i,x]),I.turnLaid (ch:=[e,j]) (t':=s.toks+1) (fun b o nb q=>(b2.2 b fun z=>nb (by simp[z])).trans (k1 b o (fun z=>nb (by simp[z])) (fun z=>nb (by simp[z])) q)) hf (dw _) ?_,rfl,
   ⟨_,x,ae,rfl,rfl,fun ys hy=>by rw[I.tuple_inj hy hq];exact hx⟩,⟨⟨u,by simpa using e2⟩,j1.at fun o q=>(b2.2 j (jq ac)).trans q⟩,fun b hb=>?_⟩
  ·refine⟨⟨by show 2<=fh;decide,_,t2,rfl⟩,[.int i s.toks,u],.cons ⟨s.toks,rfl⟩ (.cons ru .nil),⟨_,t2,rfl,_,rfl⟩⟩
  ·rcases mem_cons.mp hb with rfl|hb
   ·rw[zH (ic lt)];exact(hf _ yv).1
   ·rw[mem_singleton.mp hb,zH (ic af)];exact(hf _ yv).1
 done:=by
  intro X hP hw hK hc i zd s σ H E I hf ⟨⟨y,he⟩,hj⟩ hg;subst hP hw hK;obtain⟨xs,hq,hx⟩:=hg;obtain⟨aa,rv,p,hz⟩:=I.tuple hq;have hT:s.heap.IsTuple a aa.toArray:=p;have hl:=rv.length;exact sC (I.ok.hd hc) he (fun A' Q' E' h0 k=>Eo h0 hj hT (by simp;omega) k) fun g b=>⟨rfl,I.turnedN (ch:=[e,j]) (t':=s.toks) (fun b' o nb q=>b b' o (fun z=>nb (by simp[z])) q) hf⟩
 self:=fun _ _ _ _ _ st h=>by
  obtain⟨⟨y,he⟩,_⟩:=st;exact pz he h
theorem E1{P:fq}{w:gw}{K:cw}{elts:List Expr}{n:Nat}{pos:Pos}(a e j:Addr)(ac:e≠j):Turn P w K (.Tuple elts n pos) (Ite (SqL K) a) [e,j] e (fun i h=>(∃y,IsEnum h e j i y)/\h.IsListIter j a i) where
 mem:=by simp
 obj:=fun i h ⟨⟨y,he⟩,hj⟩ b hb=>by
  rcases mem_cons.mp hb with rfl|hb
  ·exact⟨_,he,fun v z=>by
    have z':Data.fields _=Data.cell v:=z;cases z'⟩
  ·rw[mem_singleton.mp hb];obtain⟨o,q,c,d⟩:=hj;exact⟨o,q,fun v z=>by rw[d]at z;cases z⟩
 keep:=fun i h h' ⟨⟨y,he⟩,hj⟩ k=>⟨⟨y,k e yv _ he⟩,hj.at fun o q=>k j yv o q⟩
 item:=by
  intro X hP hw hK hc i zd s σ H E I hf ⟨⟨y,he⟩,hj⟩ hg;subst hP hw hK;obtain⟨xs,x,hq,hx⟩:=hg;obtain⟨aa,rv,p,hz⟩:=I.list hq;obtain⟨u,hu,ru⟩:=rv.get hx;have hT:s.heap.IsList a aa.toArray:=p.isList;refine sW (J:=fun g=>g.IsListIter j a (i+1)) he ac (fun A' Q' E' k=>wpAny_nextOf_list_item hj hT (x:=u) (by simpa using hu) k) (fun g g' z k=>z.at k) fun g e1 j1 t1 k1=>?_;refine⟨_,rfl,wpAny_letOwnedTupleGo_enum (s:={ s with heap:=g,toks:=s.toks+1 }) e1 fun g' e2 b2=>?_⟩;have lt:e<s.heap.objs.size:=fw he;have af:j<s.heap.objs.size:=by
   obtain⟨_,q,_⟩:=hj;exact fw q
  have t2:g'.get? s.heap.objs.size=some { cls:=.type "tuple",data:=.seq #[.int i s.toks,u] }:=(b2.2 _ (ne_of_gt lt)).trans t1;have ae:H s.heap.objs.size=none:=I.hok.fresh (dw _);refine⟨.ref s.heap.objs.size,upd H s.heap.objs.size (.tup [.int i,x]),I.turnLaid (ch:=[e,j]) (t':=s.toks+1) (fun b o nb q=>(b2.2 b fun z=>nb (by simp[z])).trans (k1 b o (fun z=>nb (by simp[z])) (fun z=>nb (by simp[z])) q)) hf (dw _) ?_,rfl,
   ⟨_,x,ae,rfl,rfl,fun ys hy=>by rw[I.list_inj hy hq];exact hx⟩,⟨⟨u,by simpa using e2⟩,j1.at fun o q=>(b2.2 j (jq ac)).trans q⟩,fun b hb=>?_⟩
  ·refine⟨⟨by show 2<=fh;decide,_,t2,rfl⟩,[.int i s.toks,u],.cons ⟨s.toks,rfl⟩ (.cons ru .nil),⟨_,t2,rfl,_,rfl⟩⟩
  ·rcases mem_cons.mp hb with rfl|hb
   ·rw[zH (ic lt)];exact(hf _ yv).1
   ·rw[mem_singleton.mp hb,zH (ic af)];exact(hf _ yv).1
 done:=by
  intro X hP hw hK hc i zd s σ H E I hf ⟨⟨y,he⟩,hj⟩ hg;subst hP hw hK;obtain⟨xs,hq,hx⟩:=hg;obtain⟨aa,rv,p,hz⟩:=I.list hq;have hT:s.heap.IsList a aa.toArray:=p.isList;have hl:=rv.length;exact sC (I.ok.hd hc) he (fun A' Q' E' h0 k=>wpAny_nextOf_list_end h0 hj hT (by simp;omega) k) fun g b=>⟨rfl,I.turnedN (ch:=[e,j]) (t':=s.toks) (fun b' o nb q=>b b' o (fun z=>nb (by simp[z])) q) hf⟩
 self:=fun _ _ _ _ _ st h=>by
  obtain⟨⟨y,he⟩,_⟩:=st;exact pz he h
section
variable {X:Cx}{elts:List Expr}{n:Nat}{tpos:Pos}
theorem Af:iy "enumerate" = some (.type "enumerate"):=by decide +kernel
end
def dU(i:Nat):List bv->List bv
 | []=>[]
 |d::ds=>.tuple [.int i,d]::dU (i+1) ds
theorem kL:∀(ds:List bv) (i:Nat),(dU i ds).length=ds.length
 | [],_=>rfl
 |d::ds,i=>by simp[dU,kL ds (i+1)]
theorem iM:∀(ds:List bv) (i k:Nat) (d:bv),(dU i ds)[k]?=some d->∃e,ds[k]?=some e/\d=.tuple [.int ((i+k:Nat):Int),e]
 | [],_,_,_,h=>by simp[dU]at h
 |c::ds,i,0,d,h=>by
  have e:qp [.int i,c]=d:=by simpa[dU]using h
  exact⟨c,rfl,by rw[<- e];rfl⟩
 |c::ds,i,k+1,d,h=>by
  obtain⟨e,h1,h2⟩:=iM ds (i+1) k d (by simpa[dU]using h);exact⟨e,by simpa using h1,by rw[h2];congr 3;omega⟩
end
section
def dIx:D2:=fun x y S R=>asI y fun i=>match x with
 | .d (.tuple ds)=>∃d,atI ds i=some d/\R (.d d) S
 | .d (.list ds)=>∃d,atI ds i=some d/\R (.d d) S
 | .l k=>∃ds,S[k]?=some ds/\∃d,atI ds i=some d/\R (.d d) S
 | .d (.str z)=>z.length<=fh/\∃c,atI z.cps.toList i=some c/\R (.d (.str ⟨#[c]⟩)) S
 |_=>False
theorem Iv:RO rZ (fun x y S R=>asS x fun z=>asI y fun i=>z.length<=fh/\∃c,atI z.cps.toList i=some c/\R (.d (.str ⟨#[c]⟩)) S):=fun h o H S x y v u R Q hs hx hy q c=>by
 replace q:=FC q;obtain⟨z,rfl,q⟩:=q;replace q:=bE q;obtain⟨i,rfl,hz,k,ek,q⟩:=q;exact⟨z,i,k,iJ hx,aU hy,hz,ek,c o H S _ _ Ex.refl hs (xS _) q⟩
theorem jC{K:cw}:RO (rIx K) dIx:=fun h o H S x y v u R Q hs hx hy q c=>by
 replace q:=bE q;obtain⟨i,rfl,q⟩:=q;split at q
 ·exact .inr (.inl (IU h o H S _ _ v u R Q hs hx hy q c))
 ·exact .inl (CS h o H S _ _ v u R Q hs hx hy ⟨_,rfl,q⟩ c)
 ·exact .inl (CS h o H S _ _ v u R Q hs hx hy q c)
 ·exact .inr (.inr (Iv h o H S _ _ v u R Q hs hx hy q c))
 ·exact q.elim
section
variable {S:Sto}{R:RX}{ds:List bv}{i:Int}{k:Nat}{z:Str}
theorem nP:dIx (.d (.tuple ds)) (.d (.int i)) S R=∃d,atI ds i=some d/\R (.d d) S:=rfl
theorem nM:dIx (.d (.list ds)) (.d (.int i)) S R=∃d,atI ds i=some d/\R (.d d) S:=rfl
theorem mH:dIx (.l k) (.d (.int i)) S R=∃ds,S[k]?=some ds/\∃d,atI ds i=some d/\R (.d d) S:=rfl
end
def yZ(K:cw):V->Option Int->Option Int->Hp->VK->Prop:=fun x a b H Q=>oS K x a b H Q\/(sZ K x a b H Q\/BP x a b H Q)
theorem rB{X:Cx}:SlR X (yZ X.K):=vY.or (A5.or C2)
def jL:D3:=fun x i j S R=>match x with
 | .d (.tuple ds)=>¬(HT.sIx ds.length 0 i=0/\HT.sIx ds.length ds.length j=ds.length)/\R (.d (.tuple (cN ds i j))) S
 | .d (.list ds)=>R (.d (.list (cN ds i j))) S
 | .l k=>∃ds,S[k]?=some ds/\R (.d (.list (cN ds i j))) S
 | .d (.str z)=>z.length<=fh/\R (.d (.str (PySem.Txt.slice z i j))) S
 |_=>False
theorem AD{K:cw}:RL (yZ K) jL:=fun h o H S x v a b R Q hs hx q c=>by
 unfold jL at q;split at q
 ·exact .inr (.inl (F3 h o H S _ v a b R Q hs hx q c))
 ·exact .inl (Bb h o H S _ v a b R Q hs hx ⟨_,rfl,q⟩ c)
 ·exact .inl (Bb h o H S _ v a b R Q hs hx q c)
 ·exact .inr (.inr ⟨_,iJ hx,q.1,c o H S _ _ Ex.refl hs (xS _) q.2⟩)
 ·exact q.elim
section
variable {S:Sto}{R:RX}{ds:List bv}{i j:Option Int}{k:Nat}{z:Str}
theorem oZ:jL (.d (.list ds)) i j S R=R (.d (.list (cN ds i j))) S:=rfl
end
def BR(K:cw):R2:=fun x y H Q=>∃a b ys,x=.ref a/\y=.ref b/\SqT K H a []/\SqT K H b ys/\Q (.ref b) H
theorem GJ{X:Cx}:OpR X (mq .Add) (BR X.K):=by
 intro zd s σ H x y v u Q I rx ry h;obtain⟨a,b,ys,rfl,rfl,ha,hb,q⟩:=h;cases rx;cases ry;obtain⟨ac,r1,p1,_⟩:=I.tuple ha;obtain⟨aa,r2,p2,_⟩:=I.tuple hb;cases r1;obtain⟨⟨c1,d1,e1,l1⟩,o1,w1,n1,k1⟩:=id p1;obtain⟨⟨c2,d2,e2,l2⟩,o2,w2,n2,k2⟩:=id p2;simp only at w1 k1 w2 k2;subst w1 k1 w2 k2;exact concat_meets ⟨_,o1,rfl⟩ ⟨_,o2,rfl⟩ noFill_tuple_add seq_tuple_add PySem.F.slot_tuple_add PySem.F.entry_tuple_add (PySem.F.args_tuple_add_2 _ _) (tuple_addW0 a b _ _ n1 n2 d1 d2 l1 l2 yv) ⟨o1,o2,⟨.ref b,H,I,rfl,q⟩⟩
def B8(K:cw):R2:=fun x y H Q=>rI0 (fun i j=>.int (i+j)) x y H Q\/(nC x y H Q\/(tM K x y H Q\/(BR K x y H Q\/∃i j,x=.str i/\y=.str j/\i.length+j.length<=fh/\Q (.str (i++j)) H)))
theorem zM{X:Cx}:OpR X (mq .Add) (B8 X.K):=HP.or (vE.or (DH.or (GJ.or Hl)))
def aN:D2:=fun x y S R=>match x,y with
 | .d (.int i),.d (.int j)=>R (.d (.int (i+j))) S
 | .d (.tuple ds),.d (.tuple es)=>ds.length+es.length<=1000/\R (.d (.tuple (ds++es))) S
 | .d (.str a),.d (.str b)=>a.length+b.length<=fh/\R (.d (.str (a++b))) S
 |x,y=>asL S x fun ds=>asL S y fun es=>ds.length+es.length<=1000/\R (.d (.list (ds++es))) S
theorem iV{K:cw}:RO (B8 K) aN:=fun h o H S x y v u R Q hs hx hy q c=>by
 unfold aN at q;split at q
 ·exact .inl (r9 h o H S _ _ v u R Q hs hx hy q c)
 ·rename_i ds es;cases ds with
  |cons d ds=>exact .inr (.inr (.inl (HD h o H S _ _ v u R Q hs hx hy ⟨yv,q⟩ c)))
  |nil=>
   obtain⟨a,vs,rfl,ea,l⟩:=d9 hx;obtain⟨b,us,rfl,eb,l'⟩:=d9 hy;rw[zx.mp l]at ea;exact .inr (.inr (.inr (.inl ⟨a,b,us,rfl,rfl,.of ea,.of eb,c o H S (.d (.tuple es)) _ Ex.refl hs hy q.2⟩)))
 ·exact .inr (.inr (.inr (.inr ⟨_,_,iJ hx,iJ hy,q.1,c o H S _ _ Ex.refl hs (xS _) q.2⟩)))
 ·exact .inr (.inl (FG h o H S _ _ v u R Q hs hx hy q c))
section
variable {S:Sto}{R:RX}{ds es:List bv}{i j:Int}{k l:Nat}{a b:Str}
theorem nK:aN (.d (.int i)) (.d (.int j)) S R=R (.d (.int (i+j))) S:=rfl
theorem mC:aN (.d (.tuple ds)) (.d (.tuple es)) S R=(ds.length+es.length<=1000/\R (.d (.tuple (ds++es))) S):=rfl
theorem kZ:aN (.d (.list ds)) (.d (.list es)) S R↔(ds.length+es.length<=1000/\R (.d (.list (ds++es))) S):=⟨fun⟨_,e,_,e',q⟩=>by cases e;cases e';exact q,fun q=>⟨_,rfl,_,rfl,q⟩⟩
end
def By:R2:=fun x y H Q=>rI IntMulOk (fun i j=>.int (i*j)) x y H Q\/(AF x y H Q\/x5 x y H Q)
theorem bP{X:Cx}:OpR X (mq .Mult) By:=IM.or (HA.or Ie)
def aX:D2:=fun x y S R=>asI y fun j=>match x with
 | .d (.int i)=>IntMulOk i j/\R (.d (.int (i*j))) S
 | .d (.str z)=>z.length<=1000/\j<=1000/\-1000<=j/\R (.d (.str (PySem.Txt.mul z j))) S
 | .d (.list ds)=>j<=1000/\-1000<=j/\ds.length*j.toNat<=1000/\R (.d (.list (bu j.toNat ds).flatten)) S
 |_=>False
theorem HasL.rep{H:Hp}{ds:List bv}{vs:List V}(l:HasL H ds vs):∀n:Nat,HasL H (bu n ds).flatten (bu n vs).flatten
 | 0=>zx.mpr rfl
 |n+1=>by
  rw[lw,lw,sf,sf];exact l.append (HasL.rep l n)
theorem uL:RO By aX:=fun h o H S x y v u R Q hs hx hy q c=>by
 replace q:=bE q;obtain⟨j,rfl,q⟩:=q;split at q
 ·exact .inl (pZ h o H S _ _ v u R Q hs hx hy q c)
 ·exact .inr (.inl ⟨_,_,iJ hx,aU hy,q.1,q.2.1,q.2.2.1,c o H S _ _ Ex.refl hs (xS _) q.2.2.2⟩)
 ·obtain⟨a,vs,rfl,ea,l⟩:=bQ (x:=.d (.list _)) hs rfl hx;obtain⟨h1,h2,h3,q⟩:=q;exact .inr (.inr ⟨a,j,vs,rfl,aU hy,ea,yw,yw,by rw[l.length];exact om (small1000 h3),iU hs (l.rep j.toNat) c q⟩)
 ·exact q.elim
section
variable {S:Sto}{R:RX}{i j:Int}{z:Str}{ds:List bv}
theorem nQ:aX (.d (.list ds)) (.d (.int j)) S R=(j<=1000/\-1000<=j/\ds.length*j.toNat<=1000/\R (.d (.list (bu j.toNat ds).flatten)) S):=rfl
theorem o0:aX (.d (.int i)) (.d (.int j)) S R=(IntMulOk i j/\R (.d (.int (i*j))) S):=rfl
end
def v8:R2:=fun x y H Q=>rI CDivX (fun i j=>.int (i/j)) x y H Q\/rI CDivN (fun i j=>.int (i.fdiv j)) x y H Q
theorem wE{X:Cx}:OpR X (mq .FloorDiv) v8:=IR.or DY
def dFd:D2:=fun x y S R=>asI x fun i=>asI y fun j=>(CDivX i j/\R (.d (.int (i/j))) S)\/(CDivN i j/\R (.d (.int (i.fdiv j))) S)
theorem EY:RO v8 dFd:=fun h o H S x y v u R Q hs hx hy q c=>by
 replace q:=bE q;obtain⟨i,rfl,q⟩:=q;replace q:=bE q;obtain⟨j,rfl,q⟩:=q;rcases q with q|q
 ·exact .inl (pZ (C:=CDivX) (g:=fun i j=>i/j) h o H S _ _ v u R Q hs hx hy q c)
 ·exact .inr (pZ (C:=CDivN) (g:=fun i j=>i.fdiv j) h o H S _ _ v u R Q hs hx hy q c)
def sL(S:Sto):XV->Option Bool
 | .d .none=>some false
 | .d (.bool b)=>some b
 | .d (.int i)=>some (i != 0)
 | .d (.str z)=>if z.length<=fh then some ((z.length:Int) != 0)else none
 | .d (.list ds)=>some (!ds.isEmpty)
 | .d (.tuple ds)=>some (!ds.isEmpty)
 | .l k=>(S[k]?).map fun ds=>!ds.isEmpty
 |_=>none
def aR(a:DE):DT:=fun δ S R=>a δ S fun x S1=>∃k,sL S1 x=some k/\R k S1
theorem uU{H:Hp}{ds:List bv}{vs:List V}(l:HasL H ds vs):(!ds.isEmpty)=!vs.isEmpty:=by
 have:=l.length;cases ds<;>cases vs<;>simp_all
theorem c9{K:cw}{ta:TE}{da:DE}(ha:RE ta da):RT (fun σ H Q=>ta σ H fun x H'=>∃k,TruV K x H' k/\Q k H') (aR da):=fun h o H δ σ S R Q he hs q c=>
 ha h o H δ σ S _ _ he hs q fun o1 H1 S1 x v e1 s1 x1 ⟨k,ek,d1⟩=>by
  refine⟨k,?_,c o1 H1 S1 k e1 s1 d1⟩;unfold sL at ek;split at ek
  ·cases ek;rw[(fY (H:=vx h o1 H1)).mp x1];rfl
  ·cases ek;rw[i7 x1];rfl
  ·cases ek;rw[aU x1];rfl
  ·split at ek
   ·rename_i hz;cases ek;rw[iJ x1];exact⟨hz,rfl⟩
   ·cases ek
  ·obtain⟨a,vs,rfl,ea,l⟩:=bQ (x:=.d (.list _)) s1 rfl x1;cases ek;exact .inl ⟨vs,.of ea,uU l⟩
  ·obtain⟨a,vs,rfl,ea,l⟩:=d9 x1;cases ek;exact .inr (.inl ⟨vs,.of ea,uU l⟩)
  ·rename_i j _;cases hj:S1[j]? with
   |none=>rw[hj]at ek;cases ek
   |some ds=>
    rw[hj]at ek;cases ek;obtain⟨a,vs,rfl,ea,l⟩:=bQ (x:=.l j) s1 hj x1;exact .inl ⟨vs,.of ea,uU l⟩
  ·cases ek
section
variable {S:Sto}{b:Bool}{i:Int}{ds:List bv}{k:Nat}
theorem mT:sL S (.d (.bool b))=some b:=rfl
end
def i9:DS:=fun _ _ _=>False
theorem Ey:RS A1 i9:=fun h o H δ σ S E D he hs q c=>q.elim
def xX(K:cw)(tl:TE):TI:=fun σ H R=>tl σ H fun x H1=>∃a,x=.ref a/\(((∃xs,SqL K H1 a xs)/\R (Itl K a) H1)\/((∃xs,SqT K H1 a xs)/\R (Itt K a) H1))
theorem cF{X:Cx}{tg:Expr}{l:Expr}{tl:TE}(hl:PE X l tl):PI X tg l (xX X.K tl):=by
 intro zd s σ H R I h;refine thn (hl zd s σ H _ I h) fun v s1 ⟨x,H1,I1,r1,q1⟩=>?_;obtain⟨a,e,⟨⟨xs,hq⟩,q⟩|⟨⟨xs,hq⟩,q⟩⟩:=q1
 ·subst e;cases r1;obtain⟨y,rv,p,hz⟩:=I1.list hq;refine ju p.isList ?_;refine⟨s1.heap.objs.size,[s1.heap.objs.size],_,_,H1,rfl,I1.kept (t':=s1.toks) fun b o e=>bx _ e,x8 a _,⟨_,ff _ rfl,rfl,rfl⟩,fun b hb=>?_,q⟩;have e:b=s1.heap.objs.size:=by simpa using hb
  subst e;exact I1.fpOk (dw _) (I1.hok.fresh (dw _))
 ·subst e;cases r1;obtain⟨y,rv,p,hz⟩:=I1.tuple hq;refine wpAny_pyIter_tuple (show s1.heap.IsTuple a y.toArray from p) ?_;refine⟨s1.heap.objs.size,[s1.heap.objs.size],_,_,H1,rfl,I1.kept (t':=s1.toks) fun b o e=>bx _ e,GU a _,⟨_,ff _ rfl,rfl,rfl⟩,fun b hb=>?_,q⟩;have e:b=s1.heap.objs.size:=by simpa using hb
  subst e;exact I1.fpOk (dw _) (I1.hok.fresh (dw _))
def cH:XV->Option (List bv)
 | .d (.list ds)=>some ds
 | .d (.tuple ds)=>some ds
 |_=>none
theorem nZ{ds:List bv}:cH (.d (.list ds))=some ds:=rfl
theorem l9{ds:List bv}:cH (.d (.tuple ds))=some ds:=rfl
def bA(e:DE):DI:=fun δ S R=>e δ S fun x S1=>∃ds,cH x=some ds/\R ds S1
theorem dL{K:cw}{te:TE}{de:DE}(aa:RE te de):RI (xX K te) (bA de):=fun h o H δ σ S R Q he hs q c=>
 aa h o H δ σ S _ _ he hs q fun o1 H1 S1 x v e1 s1 x1 ⟨ds,ex,d1⟩=>by
  unfold cH at ex;split at ex
  ·cases ex;obtain⟨a,vs,rfl,ea,l⟩:=zU.mp (show Has _ _ _ from x1);have hl:=l.length;refine⟨a,rfl,.inl ⟨⟨vs,.of (zG _ _ ea)⟩,c o1 H1 S1 ds _ e1 s1 ⟨fun i o2 H2 e2 hi=>⟨vs,.of (zG _ _ (e2.vx _ _ ea)),yw⟩,fun i d o2 H2 e2 hi=>?_,fun i d o2 H2 x H3 S2 e2 s2 hi y=>?_⟩ d1⟩⟩
   ·obtain⟨v,ev,_⟩:=l.get hi;exact⟨vs,v,.of (zG _ _ (e2.vx _ _ ea)),ev⟩
   ·obtain⟨v,ev,hv⟩:=l.get hi;have e3:H3=H2:=y.1;subst e3;have ex:=y.2 vs (.of (zG _ _ (e2.vx _ _ ea)));rw[ev]at ex;cases ex;exact⟨Same.refl _,hv.mono e2.vx⟩
  ·cases ex;obtain⟨a,vs,rfl,ea,l⟩:=zO.mp (show Has _ _ _ from x1);have hl:=l.length;refine⟨a,rfl,.inr ⟨⟨vs,.of (zG _ _ ea)⟩,c o1 H1 S1 ds _ e1 s1 ⟨fun i o2 H2 e2 hi=>⟨vs,.of (zG _ _ (e2.vx _ _ ea)),yw⟩,fun i d o2 H2 e2 hi=>?_,fun i d o2 H2 x H3 S2 e2 s2 hi y=>?_⟩ d1⟩⟩
   ·obtain⟨v,ev,_⟩:=l.get hi;exact⟨vs,v,.of (zG _ _ (e2.vx _ _ ea)),ev⟩
   ·obtain⟨v,ev,hv⟩:=l.get hi;have e3:H3=H2:=y.1;subst e3;have ex:=y.2 vs (.of (zG _ _ (e2.vx _ _ ea)));rw[ev]at ex;cases ex;exact⟨Same.refl _,hv.mono e2.vx⟩
  ·cases ex
def mZ(dt:DS):DS:=fun E δ S=>dt { E with nx:=fun δ' S'=>∃S0 ds,S'=S0++[ds]/\S.length<=S0.length/\E.nx (δ'.map (frz S0.length ds)) S0 } δ S
end
section
abbrev PN:=List XV->Sto->RX->Prop
def lfN(q:PN):List V->Hp->VK->Prop:=fun vs H Q=>∃h o S xs R,RepS h o H S/\HasXs h o H xs vs/\q xs S R/\Cn h o H R Q
def spN(ps:List Str)(q:PN):Sp:=fun vs H Q _=>vs.length=ps.length/\lfN q vs H Q
theorem HasXs.len{h o:List Addr}{H:Hp}:∀{xs:List XV}{vs:List V},HasXs h o H xs vs->vs.length=xs.length
 | [],vs,q=>by rw[show vs=[]from q];rfl
 |x::xs,vs,⟨v,r,e,_,l⟩=>by rw[e,im,im,HasXs.len l]
theorem HasXs.get{h o:List Addr}{H:Hp}:∀{xs:List XV}{vs:List V}{i:Nat}{x:XV},HasXs h o H xs vs->xs[i]?=some x->∃v,vs[i]?=some v/\HasX h o H x v
 | [],_,i,_,_,e=>by simp at e
 |y::xs,vs,0,x,⟨v,r,e1,q,l⟩,e=>by
  rw[nc]at e;cases e;subst e1;exact⟨v,rfl,q⟩
 |y::xs,vs,i+1,x,⟨v,r,e1,q,l⟩,e=>by
  subst e1;rw[ng]at e ⊢;exact HasXs.get l e
theorem tR{h o:List Addr}{H:Hp}{xs:List XV}{vs:List V}{n:Nat}(q:HasXs h o H xs vs):RepE h o H (xs.map some++bu n none) (vs.map some++bu n none):=by
 have hl:=q.len;refine⟨by simp[hl],fun i x e=>?_⟩;by_cases hi:i<xs.length
 ·rw[fy (by rw[fj];exact hi),gx]at e;obtain⟨y,ey,e⟩:=map_eq_some_iff.mp e;cases e;obtain⟨v,ev,hv⟩:=q.get ey;exact⟨v,by rw[fy (by rw[fj,hl];exact hi),gx,ev];rfl,hv⟩
 ·rw[List.getElem?_append_right (by rw[fj];omega),qk]at e;split at e<;>cases e
section
variable {P:fq}{w:gw}{K:cw}{mg:Str->Option bo}{base:Heap}{x:Str}{st:Stmt}{N ps:List Str}{k:Nat}
theorem Df.dN{q:PN}(D:Dd K mg x st ps)(S:FnScope N ps (zh st))(n:Nat)(hn:N.length=ps.length+n)
  (hbody:∀(f:Addr) (y:bo) (A:gh) (outer:List Env) (s:bq) (H:Hp) (E:XK),Room k (A.deeper (kc x (zh st) s.heap.objs.size f y)) ->
   ∃t dt,PSs (b9 CX0 P w K mg base N x (zh st) f y A outer s H E).nox (cV st) t/\RS t dt/\∀xs S R,q xs S R->dt (aG S.length R) (xs.map some++bu n none) S):Df P w K mg base x ps (k+1) (spN ps q):=by
 refine Df.of D S (fun vs H Q E h=>h.1) fun f y A outer s H vs Q E hr ⟨hl,h,o,S',xs,R,aa,hx,hq,c⟩=>?_;obtain⟨t,dt,h1,h2,h3⟩:=hbody f y A outer s H E hr;refine⟨t,h1,h2 h o H _ _ S' _ _ ?_ aa (h3 xs S' R hq) (eok aa c)⟩;have e:N.length-vs.length=n:=yw
 unfold start;rw[e];exact tR hx
end
section
variable {X:Cx}{x:Str}{ps:List Str}{k j:Nat}{pos pos':Pos}{e:Expr}{es:List Expr}{t:TA}
theorem zu{q:PN}(D:Df X.prog X.w X.K X.mg X.base x ps k (spN ps q))(hr:Room j X.A)(hk:k<=j)(ha:PA X (e::es) t)(hg:Gl X x:=by rfl)(y:(x==("__debug__":Str))=false:=by decide)
  (q1:fc (e::es) X.env=(false,eval e X.env)::fc es X.env:=by rfl) (q2:((kj pos (fc es X.env)).any fun x=>x.fst)=false:=by rfl):PE X (.Call (.Name x pos') (e::es) [] pos) (fH (spN ps q) [] E0 t):=by
 obtain⟨f,fd,F,hm,kp,hb⟩:=D.ex;exact tP (dvs:=[]) (ds:=[]) (E:=E0) F (hr.mono hk) hg hm kp hb .nil pass0 ha y q1 q2
end
def aE(m:Nat)(q:PN)(da:DA):DE:=fun δ S R=>da δ S fun xs S1=>∃ds,datas xs=some ds/\ds.length=m/\q (ds.map XV.d) [] (ret0 S1 R)
theorem hxs0{h o:List Addr}{H:Hp}:∀{ds:List bv}{vs:List V},HasXs h o H (ds.map XV.d) vs->HasXs (h++o) [] H (ds.map XV.d) vs
 | [],_,q=>q
 |d::ds,vs,⟨v,r,e,q,l⟩=>⟨v,r,e,hx0 q,hxs0 l⟩
theorem cJ{ps:List Str}{q:PN}{m:Nat}{t:TA}{da:DA}(ha:RA t da)(hm:ps.length=m:=by rfl):RE (fH (spN ps q) [] E0 t) (aE m q da):=fun h o H δ σ S R Q he hs w c=>
 ha h o H δ σ S _ _ he hs w fun o1 H1 S1 xs vs e1 s1 x1 ⟨ds,e,hl,d1⟩=>by
  have ex:=eP e;subst ex;have hv:=x1.len;rw[km];exact⟨by rw[hv,fj,hl,hm],h++o1,[],[],_,_,rep0 s1,hxs0 x1,d1,cn0 s1 (c.pre e1)⟩
def aW(i m:Nat)(q:PN)(da:DA):DE:=fun δ S R=>da δ S fun xs S1=>∃k,xs[i]?=some (.l k)/\∃p,S1[k]?=some p/\∃ds,datas (xs.set i (.d .none))=some ds/\ds.length=m/\q ((ds.map XV.d).set i (.l 0)) [p] (qY k S1 R)
theorem CM{h o:List Addr}{H:Hp}{k:Nat}{a:Addr}(ea:o[k]?=some a):∀{xs:List XV}{vs:List V}{ds:List bv}{i:Nat},HasXs h o H xs vs->xs[i]?=some (.l k)->datas (xs.set i (.d .none))=some ds->HasXs (h++o.filter (fun b=>b≠a)) [a] H ((ds.map XV.d).set i (.l 0)) vs
 | [],_,_,i,_,e,_=>by simp at e
 |x::xs,vs,ds,0,⟨v,r,e1,q,l⟩,e,ed=>by
  rw[nc]at e;cases e;rw[set_cons_zero]at ed;obtain⟨aa,rfl⟩:∃aa,ds=.none::aa:=by
   unfold datas at ed;cases hd:datas xs with
   |none=>rw[hd]at ed;cases ed
   |some y=>rw[hd]at ed;cases ed;exact⟨y,rfl⟩
  have ac:datas xs=some aa:=by
   unfold datas at ed;cases hd:datas xs with
   |none=>rw[hd]at ed;cases ed
   |some y=>rw[hd]at ed;cases ed;rfl
  have ex:=eP ac;subst ex;obtain⟨b,eb,rfl⟩:=q;rw[ea]at eb;cases eb;exact⟨_,r,e1,⟨a,rfl,rfl⟩,go (ea:=ea) l⟩
 |x::xs,vs,ds,i+1,⟨v,r,e1,q,l⟩,e,ed=>by
  rw[ng]at e;rw[set_cons_succ]at ed
  match x,q,ed with
  | .d d,q,ed=>
   unfold datas at ed;cases hd:datas (xs.set i (.d .none))with
   |none=>rw[hd]at ed;cases ed
   |some aa=>
    rw[hd]at ed;cases ed;exact⟨v,r,e1,hxP ea q,CM ea l e hd⟩
  | .l j,q,ed=>cases ed
  | .o w,q,ed=>cases ed
  | .x _ _,q,ed=>cases ed
  | .p _ _,q,ed=>cases ed
where
 go {h o:List Addr}{H:Hp}{k:Nat}{a:Addr}{ea:o[k]?=some a}:∀{ds:List bv}{vs:List V},HasXs h o H (ds.map XV.d) vs->HasXs (h++o.filter (fun b=>b≠a)) [a] H (ds.map XV.d) vs
 | [],_,q=>q
 |d::ds,vs,⟨v,r,e,q,l⟩=>⟨v,r,e,hxP ea q,go (ea:=ea) l⟩
theorem FQ:∀{xs:List XV}{ds:List bv},datas xs=some ds->xs.length=ds.length:=fun e=>by
 rw[eP e,fj]
theorem pF{ps:List Str}{q:PN}{i m:Nat}{t:TA}{da:DA}(ha:RA t da)(hm:ps.length=m:=by rfl):RE (fH (spN ps q) [] E0 t) (aW i m q da):=fun h o H δ σ S R Q he hs w c=>
 ha h o H δ σ S _ _ he hs w fun o1 H1 S1 xs vs e1 s1 x1 ⟨k,ek,p,ep,ds,e,hl,d1⟩=>by
  have hv:=x1.len;have hd:=FQ e;rw[length_set]at hd;obtain⟨v,_,a,ea,_⟩:=x1.get ek;rw[km];exact⟨by rw[hv,hd,hl,hm],_,[a],[p],_,_,pB s1 ea ep,CM ea x1 ek e,d1,cnP s1 ea ep (c.pre e1)⟩
mutual
def iG:bv->Bool
 | .list _=>false
 | .dict _=>false
 | .tuple ds=>cS ds
 |_=>true
def cS:List bv->Bool
 | []=>true
 |d::ds=>iG d&&cS ds
end
mutual
theorem sS{h o:List Addr}{H G:Hp}(sm:Same G H)(hh:∀b,b∈h\/b∈o->∃u:MO,H b=some u.ho):∀(d:bv) (v:V),iG d=true->Has G d v->Has (vx h o H) d v
 | .none,v,_,q=>fY.mpr (fY.mp q)
 | .bool b,v,_,q=>fP.mpr (fP.mp q)
 | .int i,v,_,q=>cM.mpr (cM.mp q)
 | .str z,v,_,q=>fD.mpr (fD.mp q)
 | .list ds,v,n,_=>by simp[iG]at n
 | .dict ds,v,n,_=>by simp[iG]at n
 | .tuple ds,v,n,q=>by
  obtain⟨a,vs,e,ea,l⟩:=zO.mp q;have n':cS ds=true:=by simpa[iG]using n
  have y:=sm _ _ ea;refine zO.mpr ⟨a,vs,e,zW.mpr ⟨fun m=>?_,fun m=>?_,y⟩,uQ sm hh ds vs n' l⟩
  ·obtain⟨u,eu⟩:=hh a (.inl m);rw[y]at eu;cases u<;>cases eu
  ·obtain⟨u,eu⟩:=hh a (.inr m);rw[y]at eu;cases u<;>cases eu
theorem uQ{h o:List Addr}{H G:Hp}(sm:Same G H)(hh:∀b,b∈h\/b∈o->∃u:MO,H b=some u.ho):∀(ds:List bv) (vs:List V),cS ds=true->HasL G ds vs->HasL (vx h o H) ds vs
 | [],vs,_,q=>zx.mpr (zx.mp q)
 |d::ds,vs,n,q=>by
  obtain⟨v,r,e,hv,l⟩:=zn.mp q;simp only[cS,ki]at n;exact zn.mpr ⟨v,r,e,sS sm hh d v n.1 hv,uQ sm hh ds r n.2 l⟩
end
def views(S:Sto):List XV->Option (List bv)
 | []=>some []
 |x::r=>(bS S x).bind fun d=>(views S r).map (d :: ·)
theorem lE{S:Sto}:views S []=some []:=rfl
theorem kE{S:Sto}{x:XV}{r:List XV}:views S (x::r)=(bS S x).bind fun d=>(views S r).map (d :: ·):=rfl
theorem Er{h o:List Addr}{H:Hp}{S:Sto}(hs:RepS h o H S):RepS h [] H []:=⟨rfl,nodup_nil,(fun _ h=>(nomatch h)),hs.hal,(fun _ _ _ e=>(by simp at e))⟩
theorem hxV{h o:List Addr}{H:Hp}{S:Sto}{x:XV}{v:V}{d:bv}(hs:RepS h o H S)(e:bS S x=some d)(q:HasX h o H x v):HasX h [] H (.d d) v:=by
 have sub:Same (vx h o H) (vx h [] H):=fun b u eb=>by
  obtain⟨z1,z2,z3⟩:=zW.mp eb;exact zW.mpr ⟨z1,yv,z3⟩
 unfold bS at e;split at e
 ·cases e;exact Has.mono sub _ _ q
 ·rename_i k;obtain⟨a,ea,rfl⟩:=q;cases hk:S[k]? with
  |none=>rw[hk]at e;cases e
  |some ds=>
   rw[hk]at e;cases e;obtain⟨vs,ev,l⟩:=hs.cont k a ds ea hk;exact zU.mpr ⟨a,vs,rfl,zW.mpr ⟨hs.dis a (bw ea),yv,ev⟩,l.mono sub⟩
 ·cases e
 ·cases e
 ·rename_i k d';obtain⟨t,a,u,rfl,ea,et,hu⟩:=q;cases hk:S[k]? with
  |none=>rw[hk]at e;cases e
  |some ds=>
   rw[hk]at e;cases e;obtain⟨vs,ev,l⟩:=hs.cont k a ds ea hk;exact zO.mpr ⟨t,_,rfl,sub _ _ et,zn.mpr ⟨_,_,rfl,zU.mpr ⟨a,vs,rfl,zW.mpr ⟨hs.dis a (bw ea),yv,ev⟩,l.mono sub⟩,zn.mpr ⟨u,_,rfl,Has.mono sub _ _ hu,zx.mpr rfl⟩⟩⟩
theorem Be{h o:List Addr}{H:Hp}{S:Sto}(hs:RepS h o H S):∀{xs:List XV}{vs:List V}{ds:List bv},views S xs=some ds->HasXs h o H xs vs->HasXs h [] H (ds.map XV.d) vs/\vs.length=ds.length
 | [],vs,ds,e,q=>by cases e;exact⟨q,by rw[show vs=[]from q];rfl⟩
 |x::xs,vs,ds,e,⟨v,r,e1,q,l⟩=>by
  rw[kE]at e;cases hd:bS S x with
  |none=>rw[hd]at e;cases e
  |some d=>
   rw[hd,Option.bind_some]at e;cases hr:views S xs with
   |none=>rw[hr]at e;cases e
   |some es=>
    rw[hr]at e;cases e;obtain⟨z1,z2⟩:=Be hs hr l;exact⟨⟨v,r,e1,hxV hs hd q,z1⟩,by rw[e1,im,im,z2]⟩
end
section
def BK(K:cw):List V->Hp->VK->Prop:=fun xs H Q=>tD K xs H Q\/∃z,xs=[.str z]/\z.length<=fh/\Q (.int z.length) H
theorem zA{X:Cx}:CallR X (.builtin "len") (BK X.K):=CZ.or ET
def p0(S:Sto):XV->Option Nat
 | .d (.tuple ds)=>some ds.length
 | .d (.list ds)=>some ds.length
 | .l k=>(S[k]?).map List.length
 | .d (.str z)=>if z.length<=fh then some z.length else none
 |_=>none
def aO:List XV->Sto->RX->Prop:=fun xs S R=>arg1 xs fun x=>∃n,p0 S x=some n/\R (.d (.int n)) S
theorem o7{K:cw}:RC (BK K) aO:=fun h o H S xs vs R Q hs hx q c=>by
 obtain⟨x,rfl,n,hd,q1⟩:=bO q;unfold p0 at hd;split at hd
 ·cases hd;exact .inl (tV h o H S _ vs R Q hs hx ⟨_,rfl,q1⟩ c)
 ·cases hd;exact .inl (tV h o H S _ vs R Q hs hx ⟨_,rfl,q1⟩ c)
 ·rename_i k;cases hk:S[k]? with
  |none=>rw[hk]at hd;cases hd
  |some ds=>
   rw[hk]at hd;cases hd;exact .inl (tV h o H S _ vs R Q hs hx ⟨ds,hk,q1⟩ c)
 ·split at hd
  ·rename_i hz;cases hd;obtain⟨v,rfl,y⟩:=hxs1 hx;exact .inr ⟨_,by rw[iJ y],hz,c o H S _ _ Ex.refl hs (xI _) q1⟩
  ·cases hd
 ·cases hd
section
variable {S:Sto}{ds:List bv}{k:Nat}{z:Str}
theorem lH:p0 S (.d (.tuple ds))=some ds.length:=rfl
theorem oH:p0 S (.d (.list ds))=some ds.length:=rfl
end
theorem Ej{ds:List bv}(h:ge (.list ds)=true):oh ds=true/\qw ds<=63:=by
 have h1:=iz h;have h2:=SeqAt.depth_of_shaped h;simp only[oy,PyData.depth]at h1 h2;exact⟨h1,yw⟩
def dIn:D2:=fun x y S R=>match y with
 | .d (.str b)=>asS x fun a=>R (.d (.bool (!(Builtin.Str.occurrences b a 0 b.length 1).isEmpty))) S
 |y=>∃d,bS S x=some d/\∃ds,asQ S y=some ds/\ge d=true/\ge (.list ds)=true/\R (.d (.bool (ds.any fun y=>kv y d))) S
section
variable {S:Sto}{ds:List bv}{k:Nat}{a b:Str}{x:XV}{R:RX}
theorem mU:dIn x (.d (.tuple ds)) S R↔∃d,bS S x=some d/\ge d=true/\ge (.list ds)=true/\R (.d (.bool (ds.any fun y=>kv y d))) S:=⟨fun⟨d,e,_,e',q⟩=>by cases e';exact⟨d,e,q⟩,fun⟨d,e,q⟩=>⟨d,e,_,rfl,q⟩⟩
end
section
variable {X:Cx}{elts:List Expr}{n:Nat}{tpos:Pos}
def yQ(K:cw)(ta:TA):TI:=fun σ H R=>ta σ H fun vs H1=>∃a,vs=[.ref a]/\(((∃xs,SqT K H1 a xs)/\R (Ite (SqT K) a) H1)\/((∃xs,SqL K H1 a xs)/\R (Ite (SqL K) a) H1))
theorem pC{a:Expr}{ta:TA}{p pos:Pos}(hg:Gl X "enumerate")(hm:X.mg "enumerate" = none)(ha:PA X [a] ta)(hs:fc [a] X.env=[(false,eval a X.env)]:=by rfl):PI X (.Tuple elts n tpos) (.Call (.Name "enumerate" p) [a] [] pos) (yQ X.K ta):=by
 intro zd s σ H R I h;refine Call_ (eF I hg hm Af (lj (thn (ha pos zd s σ H _ I h) fun us s1 ⟨vs,H1,I1,r1,q1⟩=>?_) hs rfl));obtain⟨b,e,⟨⟨xs,hq⟩,q⟩|⟨⟨xs,hq⟩,q⟩⟩:=q1
 ·subst e;cases r1 with
  |cons r rr=>
   cases rr;cases r;obtain⟨y,rv,pl,hz⟩:=I1.tuple hq;refine GT (show s1.heap.IsTuple b y.toArray from pl) fun g he hj k=>?_;refine pz (s:={ s1 with heap:=g }) he ?_
   have I2:Inv X zd σ H1 { s1 with heap:=g }:=I1.kept (t':=s1.toks) k;refine⟨s1.heap.objs.size+1,[s1.heap.objs.size+1,s1.heap.objs.size],_,_,H1,rfl,I2,DP b _ _ (succ_ne_self _),⟨⟨_,he⟩,hj⟩,fun c hc=>?_,q⟩;rcases mem_cons.mp hc with rfl|hc
   ·exact I1.fpOk (le_succ _) (I1.hok.fresh (le_succ _))
   ·rw[mem_singleton.mp hc];exact I1.fpOk (dw _) (I1.hok.fresh (dw _))
 ·subst e;cases r1 with
  |cons r rr=>
   cases rr;cases r;obtain⟨y,rv,pl,hz⟩:=I1.list hq;refine call_enumerate_list pl.isList fun g he hj _ k=>?_;refine pz (s:={ s1 with heap:=g }) he ?_
   have I2:Inv X zd σ H1 { s1 with heap:=g }:=I1.kept (t':=s1.toks) k;refine⟨s1.heap.objs.size+1,[s1.heap.objs.size+1,s1.heap.objs.size],_,_,H1,rfl,I2,E1 b _ _ (succ_ne_self _),⟨⟨_,he⟩,hj⟩,fun c hc=>?_,q⟩;rcases mem_cons.mp hc with rfl|hc
   ·exact I1.fpOk (le_succ _) (I1.hok.fresh (le_succ _))
   ·rw[mem_singleton.mp hc];exact I1.fpOk (dw _) (I1.hok.fresh (dw _))
end
def eM(a:DA):DI:=fun δ S R=>a δ S fun xs S1=>arg1 xs fun x=>∃ds,cH x=some ds/\R (dU 0 ds) S1
theorem o9{K:cw}{ta:TA}{da:DA}(ha:RA ta da):RI (yQ K ta) (eM da):=fun h o H δ σ S R Q he hs q c=>
 ha h o H δ σ S _ _ he hs q fun o1 H1 S1 xs vs e1 s1 x1 d0=>by
  obtain⟨x,rfl,ds,hd,d1⟩:=bO d0;obtain⟨v,rfl,hv⟩:=hxs1 x1;have aa:∀{Sq:Hp->Addr->List V->Prop}{a:Addr}{ws:List V},(∀{o2 H2},ExH h o1 H1 o2 H2->Sq H2 a ws)->HasL (vx h o1 H1) ds ws->WalkX h o1 H1 (Ite Sq a) (dU 0 ds):=by
   intro Sq a ws ac l;have hl:=l.length;refine⟨fun i o2 H2 e2 hi=>⟨ws,ac e2,by rw[kL]at hi;omega⟩,fun i d o2 H2 e2 hi=>?_,fun i d o2 H2 x H3 S2 e2 s2 hi y=>?_⟩
   ·obtain⟨e,h1,rfl⟩:=iM ds 0 i d hi;obtain⟨u,eu,_⟩:=l.get h1;exact⟨ws,u,ac e2,eu⟩
   ·obtain⟨e,h1,rfl⟩:=iM ds 0 i d hi;obtain⟨u,eu,hu⟩:=l.get h1;obtain⟨p,v,hp,rfl,rfl,hy⟩:=y;have ev:=hy ws (ac e2);rw[eu]at ev;cases ev;refine⟨Same.laid hp,zO.mpr ⟨p,_,rfl,s2.laid hp,zn.mpr ⟨_,_,rfl,?_,zn.mpr ⟨_,_,rfl,(hu.mono e2.vx).mono (lV (Same.laid hp)),zx.mpr rfl⟩⟩⟩⟩;rw[zero_add];exact cM.mpr rfl
  unfold cH at hd;split at hd
  ·cases hd;obtain⟨a,ws,rfl,ea,l⟩:=zU.mp (show Has (vx h o1 H1) (.list ds) v from hv);exact⟨a,rfl,.inr ⟨⟨ws,.of (zG _ _ ea)⟩,c o1 H1 S1 _ _ e1 s1 (aa (fun e2=>.of (zG _ _ (e2.vx _ _ ea))) l) d1⟩⟩
  ·cases hd;obtain⟨a,ws,rfl,ea,l⟩:=zO.mp (show Has (vx h o1 H1) (.tuple ds) v from hv);exact⟨a,rfl,.inl ⟨⟨ws,.of (zG _ _ ea)⟩,c o1 H1 S1 _ _ e1 s1 (aa (fun e2=>.of (zG _ _ (e2.vx _ _ ea))) l) d1⟩⟩
  ·cases hd
def lW:XV->List XV->Sto->RX->Prop:=fun x xs S R=>∃k,x=.l k/\∃ds,S[k]?=some ds/\xs=[]/\∃d,ds[ds.length-1]?=some d/\R (.d d) (S.set k ds.dropLast)
def BV:V->List V->Hp->VK->Prop:=fun x vs H Q=>∃(d:bv) (ds:List bv) (j:Nat),Has H (.list ds) x/\(∃v,vs=[v]/\Has H d v)/\ge d=true/\ge (.list ds)=true/\ds.length<=1000/\(∃e,ds[j]?=some e/\kv e d=true)/\(∀m e,m<j->ds[m]?=some e->kv e d=false)/\Q (.int j) H
theorem HX{X:Cx}(hu:X.A.units+64<cLine):MtR X "list.index" BV:=by
 intro zd s σ H x vs v us Q I rx rv h;obtain⟨d,ds,j,hl,⟨y,rfl,hy⟩,sd,se,ag,⟨e,ej,he⟩,ae,q⟩:=h;obtain⟨s1,s2⟩:=Ej se;obtain⟨u,rfl,r1⟩:=rv.one;obtain⟨as,q1⟩:=Has.reads I d y u hy (iz sd) r1;obtain⟨bs,q2⟩:=Has.reads I (.list ds) x v hl (by simpa only[oy]using s1) rx;have hm:X.A.units+1+min (qw ds) d.depth<cLine:=by
  have:=Nat.min_le_left (qw ds) d.depth;omega
 cases q2 with
 | @list l o vs n xs as₁ h1 h2 h3 h4=>
  have hn:vs.size=ds.length:=by simpa using SeqAt.ReadsAll.length _ _ _ h4
  have ac:=SeqAt.readsAll_map _ _ _ s1 h4;have aa:∀(m:Nat) (hm:m<vs.size) e,ds[m]?=some e->SeqAt.readOf s.heap vs[m]=e:=fun m hm e h=>by
   rw[<- ac,gx]at h;have:vs.toList[m]?=some vs[m]:=by simp[hm]
   rw[this]at h;exact gv h
  have hj:j<vs.size:=by rw[hn];exact(List.getElem?_eq_some_iff.mp ej).1
  obtain⟨cls,dd,data,sl⟩:=o;simp only at h2 h3;subst h2 h3;refine qd PySem.F.slot_list_index ⟨_,h1,rfl⟩ PySem.F.entry_list_index (PySem.F.args_list_index_2 _ _)
   (SeqAt.list_indexAt l vs n dd sl u (fun y=>kv (SeqAt.readOf s.heap y) d) j hj yw ?_ ?_) ⟨h1,SeqAt.items_eqAt h4 q1 s1 (iz sd) hm,⟨.int j,H,I.tok _,⟨_,rfl⟩,q⟩⟩
  ·show kv (SeqAt.readOf s.heap vs[j]) d=true;rw[aa j hj e ej];exact he
  ·intro m hm af;show kv (SeqAt.readOf s.heap vs[m]) d=false;have em:ds[m]?=some ds[m]:=cy yw;rw[aa m hm _ em];exact ae m _ af em
def jE:XV->List XV->Sto->RX->Prop:=fun x xs S R=>arg1 xs fun y=>∃d,bS S y=some d/\∃ds,cC S x=some ds/\ge d=true/\ge (.list ds)=true/\ds.length<=1000/\∃j,(∃e,ds[j]?=some e/\kv e d=true)/\(∀m e,m<j->ds[m]?=some e->kv e d=false)/\R (.d (.int (j:Nat))) S
theorem HE:RM BV jE:=fun h o H S x v xs vs R Q hs hx aa q c=>by
 obtain⟨y,rfl,d,e1,ds,e2,s1,s2,h1,j,h2,h3,q1⟩:=bO q;obtain⟨u,rfl,hu⟩:=hxs1 aa;have hl:Has H (.list ds) v:=eX (x:=x) hs (by
  unfold cC at e2;split at e2
  ·cases e2;rfl
  ·rename_i k;show (S[k]?).map ug=_;rw[e2];rfl
  ·cases e2) hx
 exact⟨d,ds,j,hl,⟨u,rfl,eX hs e1 hu⟩,s1,s2,h1,h2,h3,c o H S _ _ Ex.refl hs (xI _) q1⟩
def g8(rd:XV->List XV->Sto->RX->Prop)(e:DE)(a:DA):DE:=fun δ S R=>e δ S fun x S1=>∃ds,cC S1 x=some ds/\a δ S1 fun xs S2=>rd x xs S2 R
theorem t0{K:cw}{r:V->List V->Hp->VK->Prop}{rd:XV->List XV->Sto->RX->Prop}{te:TE}{de:DE}{tl:TA}{dl:DA}(hr:RM r rd)(y:RE te de)(ha:RA tl dl):RE (tBM K "list" r te tl) (g8 rd de dl):=fun h o H δ σ S R Q he hs q c=>
 y h o H δ σ S _ _ he hs q fun o1 H1 S1 x v e1 s1 x1 ⟨ds,ez,d1⟩=>by
  obtain⟨a,ws,rfl,ea,_⟩:=bQ s1 ez x1;exact⟨AM ea,ha h o1 H1 δ σ S1 _ _ (he.mono e1) s1 d1 fun o2 H2 S2 xs vs e2 s2 x2 d2=>hr h o2 H2 S2 x _ xs vs R Q s2 (x1.mono e2) x2 d2 (c.pre (e1.trans e2))⟩
abbrev Hz (a:Addr) (m:Nat):DEnds:={ nx:=fun δ _=>δ[0]?=some (some (.o (.ref a)))/\δ.length=m+1,ct:=fun δ _=>δ[0]?=some (some (.o (.ref a)))/\δ.length=m+1,rt:=fun _ _=>False }
abbrev Bp (a:Addr) (m:Nat):DEnds:={ nx:=fun δ _=>δ[0]?=some (some (.o (.ref a)))/\δ.length=m+1,rt:=fun _ _=>False }
section
variable {a:Addr}{m:Nat}{t1 t2 t3 t4 u:TS}{dt:DS}{D:Ends}{σ:St}{H:Hp}
theorem HK(ht:RS (e9 t1 t2) dt)(h0:σ[0]?=some (some (.ref a)))(hl:σ.length=m+1)(go:dt (Bp a m) (some (.o (.ref a))::bu m none) [])
  (next:∀(σ:St) (H1:Hp),σ[0]?=some (some (.ref a))->σ.length=m+1->Same H H1->u D σ H1):e9 t1 (e9 t2 u) D σ H:=Fd (t:=e9 t1 t2) ht h0 hl go next
end
end
section
open Sem (wp)
def sD:List bv->List bv->List bv
 |d::ds,e::es=>.tuple [d,e]::sD ds es
 |_,_=>[]
def oX(a:DA):DI:=fun δ S R=>a δ S fun xs S1=>arg2 xs fun x y=>∃ds,cH x=some ds/\∃es,cH y=some es/\R (sD ds es) S1
end
section
open Sem (wp)
section
variable {prog:fq}{w:gw}{A:gh}{R:Result->bq->Prop}{I:Addr}{fp wr:List Addr}{n:Nat}{P:Nat->bo->Prop}{St:Nat->Heap->Prop}
def CmpH(prog:fq)(w:gw)(A:gh)(g:Heap)(aa:List Addr)(P:Nat->bo->Prop)(bt:Nat->Nat->Bool):Prop:=
 ∀i j x y (s:bq) (Q:bo->bq->Prop) (E:bo->bq->Prop),(∀b o,b∉aa->g.get? b=some o->s.heap.get? b=some o)->P i x->P j y->Q (.bool (bt i j)) s->cv (model prog w) A (richCompare .Lt x y) Q E s
theorem C0(W:Walks prog w A.in1 I fp wr n P St)(bt:Nat->Nat->Bool){g:Heap}(S:Addr)(cm:CmpH prog w A.in1 g (S::wr) P bt)(nS:S∉fp):∀(d j:Nat) (s:bq) (y:bo) (c:Nat),n=j+1+d->(∀b o,b∉S::wr->g.get? b=some o->s.heap.get? b=some o)->St (j+1) s.heap->P (td bt j) y ->
   s.heap.get? S=some { cls:=.type "list",dict:=none,data:=.seq #[y,y] c,slots:=#[] } ->
   (∀v h' tk,P (td bt (n-1)) v->(∀b o,b∉S::wr->s.heap.get? b=some o->h'.get? b=some o)->R (.ok (.ret v)) { s with heap:=h',toks:=tk })->sx (model prog w) A (.builtin "min.loop" ⟨[.ref I,.none,.ref S],[]⟩) R s:=by
 have nw:S∉wr:=fun m=>nS (W.sub _ m);have nm:(qh "min" ++ qh ".loop":String) = "min.loop":=by decide
 intro d;induction d with
 |zero=>
  intro j s y c hd kg st hb hS fin;have hj:j+1=n:=yw
  refine kh ow ?_;rw[jk iu _];show cv _ A.in1 (ub (.ref S) >>= _) _ _ s;refine bp (ny hS rfl ?_);show cv _ A.in1 (sj (uc (.ref I)) _ >>= _) _ _ s;refine bp (kr (W.done s _ _ (by rw[<- hj];exact st) fun h1 t1 k1=>?_));have aa:=k1 S _ nw hS;show cv _ A.in1 (updateSeq S (fun _=>#[]) >>= _) _ _ _;refine bp (qx aa rfl (bp (qi (cr (fin y _ t1 (by rw[<- hj];exact hb) fun b o hn e=>?_)))));rw[lz,not_or]at hn;exact(ig _ _ (jq hn.1)).trans (k1 b o hn.2 e)
 |succ d ih=>
  intro j s y c hd kg st hb hS fin;refine kh ow ?_;rw[jk iu _];show cv _ A.in1 (ub (.ref S) >>= _) _ _ s;refine bp (ny hS rfl ?_);show cv _ A.in1 (sj (uc (.ref I)) _ >>= _) _ _ s;refine bp (kr (W.item (j+1) s _ _ yw st fun x h1 t1 hx ac k1=>?_));have aa:=k1 S _ nw hS;have ae:∀b o,b∉S::wr->g.get? b=some o->h1.get? b=some o:=fun b o hn e=>k1 b o (fun m=>hn (fu _ m)) (kg b o hn e);show cv _ A.in1 (sj (holding [x,x] (richCompare .Lt x y >>= _)) _ >>= _) _ _ _;refine bp (kr (ie (bp (cm (j+1) (td bt j) x y _ _ _ ae hx hb (bp (ie (lv (bp (qi (cr ?_)))))))))) ;cases ht:bt (j+1) (td bt j)with
  |true=>
   simp only[if_true];refine bp (qx aa rfl (bp (qi ?_)));rw[nm];have keep:∀b o,b∉S::wr->s.heap.get? b=some o->(h1.update S (io fun _=>#[x,x])).get? b=some o:=fun b o hn e=>by
    rw[lz,not_or]at hn;exact(ig _ _ (jq hn.1)).trans (k1 b o hn.2 e)
   refine cr ⟨lq iu _,ih (j+1) _ x _ yw (fun b o hn e=>keep b o hn (kg b o hn e)) (W.frame _ _ _ ac fun b m o e=>?_) (by simp only[td,ht,if_true];exact hx) (mw _ aa rfl) fun v h2 t2 hv k2=>fin v h2 t2 hv fun b o hn e=>k2 b o hn (keep b o hn e)⟩;exact(ig _ _ (fun z:S=b=>nS (by rw[z];exact m))).trans e
  |false=>
   simp only[fg,if_false];refine bp (qi ?_);rw[nm];exact cr ⟨lq iu _,ih (j+1) _ y c yw ae ac (by simp only[td,ht,fg,if_false];exact hb) aa fun v h2 t2 hv k2=>fin v h2 t2 hv fun b o hn e=>k2 b o hn (k1 b o (fun m=>hn (fu _ m)) e)⟩
theorem GH(W:Walks prog w A.in1 I fp wr n P St)(bt:Nat->Nat->Bool)(S:Addr)(nS:S∉fp)(hn:0<n){s:bq}{c:Nat}(cm:CmpH prog w A.in1 s.heap (S::wr) P bt)(st:St 0 s.heap)(hS:s.heap.get? S=some { cls:=.type "list",dict:=none,data:=.seq #[] c,slots:=#[] })
  (fin:∀v h' tk,P (td bt (n-1)) v->(∀b o,b∉S::wr->s.heap.get? b=some o->h'.get? b=some o)->R (.ok (.ret v)) { s with heap:=h',toks:=tk }):sx (model prog w) A (.builtin "min.loop" ⟨[.ref I,.none,.ref S],[]⟩) R s:=by
 have nw:S∉wr:=fun m=>nS (W.sub _ m);have nm:(qh "min" ++ qh ".loop":String) = "min.loop":=by decide
 refine kh ow ?_;rw[jk iu _];show cv _ A.in1 (ub (.ref S) >>= _) _ _ s;refine bp (ny hS rfl ?_);show cv _ A.in1 (sj (uc (.ref I)) _ >>= _) _ _ s;refine bp (kr (W.item 0 s _ _ hn st fun x h1 t1 hx aa k1=>?_));have y:=k1 S _ nw hS;show cv _ A.in1 (updateSeq S (fun _=>#[x,x]) >>= _) _ _ _;refine bp (qx y rfl ?_);rw[nm];have keep:∀b o,b∉S::wr->s.heap.get? b=some o->(h1.update S (io fun _=>#[x,x])).get? b=some o:=fun b o hn e=>by
  rw[lz,not_or]at hn;exact(ig _ _ (jq hn.1)).trans (k1 b o hn.2 e)
 refine cr ⟨lq iu _,C0 W bt S cm nS (n-1) 0 _ x _ yw keep (W.frame _ _ _ aa fun b m o e=>?_) hx (mw _ y rfl) fun v h2 t2 hv k2=>fin v h2 t2 hv fun b o hn e=>k2 b o hn (keep b o hn e)⟩;exact(ig _ _ (fun z:S=b=>nS (by rw[z];exact m))).trans e
end
section
variable {prog:fq}{w:gw}{A:gh}{E:bo->bq->Prop}{s:bq}
theorem Iu{l:Addr}{aa:Array bo}{Q:bo->bq->Prop}(hh:A.handled=none)(hl:s.heap.IsList l aa)(ae:0<aa.size)(bt:Nat->Nat->Bool)
  (cm:∀i j x y (s':bq) (Q:bo->bq->Prop) (E:bo->bq->Prop),(∀b o,s.heap.get? b=some o->s'.heap.get? b=some o)->aa[i]?=some x->aa[j]?=some y->Q (.bool (bt i j)) s'->cv (model prog w) A.in1 (richCompare .Lt x y) Q E s')
  (fin:∀v h' tk,aa[td bt (aa.size-1)]?=some v->(∀b o,s.heap.get? b=some o->h'.get? b=some o)->Q v { s with heap:=h',toks:=tk }):cv (model prog w) A (call (.builtin "min") [.ref l]) Q E s:=by
 have nm:(qh "min" ++ qh ".loop":String) = "min.loop":=by decide
 have lt:l<s.heap.objs.size:=by obtain⟨o,e,_⟩:=hl;exact fw e
 refine call_function_tree F.kind_min F.plain_min F.entry_min (F.args_min1 _) ?_;show cv _ A.in1 (jv "min" ["key","default"] 0 ⟨[],[]⟩ >>= _) _ _ s;refine bp (wpAny_of_eq (show jv "min" ["key","default"] 0 ⟨[],[]⟩=pure [none,none]from rfl) (bp (cr (bp (ju hl ?_)))));refine bp (ji ?_);rw[nm];have z1:(s.heap.push { cls:=.type "list_iterator",data:=.fields #[.ref l,.int 0 0] }).objs.size=s.heap.objs.size+1:=size_push ..;have nS:(s.heap.push { cls:=.type "list_iterator",data:=.fields #[.ref l,.int 0 0] }).objs.size∉[s.heap.objs.size,l]:=by
  rw[z1];simp only[lz,lg,or_false,not_or];exact⟨succ_ne_self _,ne_of_gt (qe lt)⟩
 have up:∀b o,s.heap.get? b=some o->((s.heap.push { cls:=.type "list_iterator",data:=.fields #[.ref l,.int 0 0] }).push { cls:=.type "list",data:=.seq #[] }).get? b=some o:=fun b o e=>bx _ (bx _ e);have ac:∀b o,s.heap.get? b=some o->b∉(s.heap.push { cls:=.type "list_iterator",data:=.fields #[.ref l,.int 0 0] }).objs.size :: [s.heap.objs.size]:=fun b o e=>by
  rw[z1];simp only[lz,lg,or_false,not_or];have:=fw e;exact⟨ic (qe this),ic this⟩
 refine cr ⟨lq iu _,GH (Walks.list (A:=A.in1) hh _ l (ic lt) aa) bt _ nS ae (fun i j x y s' Q' E' k hi hj q=>cm i j x y s' Q' E' (fun b o e=>k b o (ac b o e) (up b o e)) hi hj q) ?_ (ff _ rfl) fun v h' tk hv k=>fin v h' tk hv fun b o e=>k b o (ac b o e) (up b o e)⟩;exact⟨⟨_,bx _ (ff _ rfl),rfl,rfl⟩,(hl.push _).push _⟩
end
theorem wI{ns:Nat->List Int}(tr:∀a b c:List Int,HT.lexLt a b=false->HT.lexLt b c=false->HT.lexLt a c=false)(as:∀a b:List Int,HT.lexLt a b=true->HT.lexLt b a=false):∀k,td (fun i j=>HT.lexLt (ns i) (ns j)) k<=k/\∀j,j<=k->HT.lexLt (ns j) (ns (td (fun i j=>HT.lexLt (ns i) (ns j)) k))=false
 | 0=>⟨dw _,fun j hj=>by
   have:j=0:=yw
   subst this;show HT.lexLt (ns 0) (ns 0)=false;cases h:HT.lexLt (ns 0) (ns 0)with
   |false=>rfl
   |true=>have:=as _ _ h;rw[h]at this;cases this⟩
 |k+1=>by
  obtain⟨h1,h2⟩:=wI tr as (ns:=ns) k;simp only[td];by_cases hb:HT.lexLt (ns (k+1)) (ns (td (fun i j=>HT.lexLt (ns i) (ns j)) k))=true
  ·rw[cu hb];refine⟨dw _,fun j hj=>?_⟩;by_cases e:j=k+1
   ·subst e;cases h:HT.lexLt (ns (k+1)) (ns (k+1))with
    |false=>rfl
    |true=>have:=as _ _ h;rw[h]at this;cases this
   ·exact tr _ _ _ (h2 j yw) (as _ _ hb)
  ·rw[cn hb];refine⟨yw,fun j hj=>?_⟩;by_cases e:j=k+1
   ·subst e;exact Bool.eq_false_iff.mpr hb
   ·exact h2 j yw
theorem A4:∀a b:List Int,HT.lexLt a b=true->HT.lexLt b a=false
 | [],[],h=>by cases h
 | [],y::ys,_=>rfl
 |x::xs,[],h=>by cases h
 |x::xs,y::ys,h=>by
  rw[HT.lexLt_cons]at h ⊢;by_cases e:x=y
  ·subst e;rw[cu rfl]at h ⊢;exact A4 xs ys h
  ·rw[cn e]at h;rw[cn (jq e)];simp only[decide_eq_true_eq]at h;simp only[decide_eq_false_iff_not];omega
theorem B6:∀a b c:List Int,HT.lexLt a b=false->HT.lexLt b c=false->HT.lexLt a c=false
 |_,_,[],_,_=>by rename_i a b _ _;cases a<;>rfl
 | [],[],z::zs,_,h=>by cases h
 | [],y::ys,z::zs,h,_=>by cases h
 |x::xs,[],z::zs,_,h=>by cases h
 |x::xs,y::ys,z::zs,h,k=>by
  rw[HT.lexLt_cons]at h k ⊢;by_cases e:x=y
  ·subst e;rw[cu rfl]at h;by_cases e2:x=z
   ·subst e2;rw[cu rfl]at k ⊢;exact B6 xs ys zs h k
   ·rw[cn e2]at k ⊢;exact k
  ·rw[cn e]at h;by_cases e2:y=z
   ·subst e2;rw[cn e];exact h
   ·rw[cn e2]at k;simp only[decide_eq_false_iff_not]at h k;rw[cn yw];simp only[decide_eq_false_iff_not];omega
def eV(ns:List Int):bv:=.tuple (ns.map cq)
theorem Cf:RE (A2 CJ) (dC (.dict [])):=fun h o H δ σ S R Q he hs q c p hp=>⟨p,[],rfl,cP,fun ob=>by
 have e:upd (upd H p (.dK [])) p (.frz ob (.dK []))=upd H p (.frz ob (.dK [])):=Ds;rw[e];refine c o _ S (.d (.dict [])) _ (Ex.of_same (Same.laid hp)) (hs.same (Same.laid hp)) ?_ q;show Has _ _ _;simp only[Has];exact⟨p,[],rfl,.inl ⟨ob,[],hs.laid hp,rfl,rfl⟩,Dm.mpr rfl⟩⟩
section
variable {S:Sto}{P:Sto->List bv->Prop}{a b c d:List bv}{x:List bv}
theorem jF{S0:Sto}:(∃T ds,S0++[x]=T++[ds]/\P T ds)↔P S0 x:=by
 constructor
 ·rintro⟨T,ds,e,q⟩;obtain⟨rfl,e2⟩:=List.append_inj' e rfl;cases e2;exact q
 ·exact fun q=>⟨S0,x,rfl,q⟩
theorem oD:(∃T ds,[a]=T++[ds]/\P T ds)↔P [] a:=jF (S0:=[])
theorem mP:(∃T ds,[a,b]=T++[ds]/\P T ds)↔P [a] b:=jF (S0:=[a])
end
section
variable {α:Type}{n:Nat}{g:DG}{tt:DT}{te:DE}{fin:Sto->Prop}{S0:Sto}{caps:XE}
theorem A9{h:α->bv}{f:α->bv}(P:XE->Prop)(hn:S0.length=n)(l:List α)(τ:XE)(hP:P τ)(hl:l.length<=1000)
  (el:∀x∈l,∀ τ acc (R:XE->RX),P τ->(∀ τ',P τ'->R τ' (.d (f x)) (S0++[acc]))->g (.d (h x)) τ (S0++[acc]) fun τ1 S1=>te τ1 S1 (R τ1)) (hf:fin (S0++[l.map f])):aY n g aK te fin (l.map h) τ (S0++[[]]):=by
 have go:∀(l:List α) (acc:List bv) (τ:XE),P τ->acc.length+l.length<=1000->(∀x∈l,∀ τ acc (R:XE->RX),P τ->(∀ τ',P τ'->R τ' (.d (f x)) (S0++[acc]))->g (.d (h x)) τ (S0++[acc]) fun τ1 S1=>te τ1 S1 (R τ1)) ->
   fin (S0++[acc++l.map f])->aY n g aK te fin (l.map h) τ (S0++[acc]):=by
  intro l;induction l with
  |nil=>intro acc τ _ _ _ h;rw[map_nil,km]at h;exact h
  |cons x l ih=>
   intro acc τ hP hl el hh;show g (.d (h x)) τ (S0++[acc]) fun τ1 S1=>aK τ1 S1 fun b S2=>if b=true then te τ1 S2 fun x S3=>asD x fun e=>∃acc,S3[n]?=some acc/\acc.length<1000/\aY n g aK te fin (l.map h) τ1 (S3.set n (acc++[e]))else aY n g aK te fin (l.map h) τ1 S2
   simp only[aK,↓reduceIte];rw[im]at hl;refine el x iq τ acc (fun τ1 x S3=>asD x fun e=>∃acc,S3[n]?=some acc/\acc.length<1000/\aY n g aK te fin (l.map h) τ1 (S3.set n (acc++[e]))) hP fun τ' y=>?_;refine⟨acc,by rw[<- hn,fb],yw,?_⟩;rw[xM hn];refine ih (acc++[f x]) τ' y (by rw[fx,jg];omega) (fun e m=>el e (fu _ m)) ?_;rw[ly];exact hh
 exact go l [] τ hP (by simpa using hl) el (by simpa using hf)
theorem cmp1{h:α->bv}(f:α->bv)(hn:S0.length=n)(l:List α){u:Option XV}(hl:l.length<=1000)
  (el:∀x∈l,∀(u:Option XV) acc (R:XE->RX),(∀u',R (u'::caps) (.d (f x)) (S0++[acc]))->g (.d (h x)) (u::caps) (S0++[acc]) fun τ1 S1=>te τ1 S1 (R τ1)) (hf:fin (S0++[l.map f])):aY n g aK te fin (l.map h) (u::caps) (S0++[[]]):=
 A9 (fun τ=>∃u,τ=u::caps) hn l _ ⟨u,rfl⟩ hl (fun x m τ acc R ⟨u,e⟩ k=>by subst e;exact el x m u acc R fun u'=>k _ ⟨u',rfl⟩) hf
theorem cmp2{h:α->bv}(f:α->bv)(hn:S0.length=n)(l:List α){u v:Option XV}(hl:l.length<=1000)
  (el:∀x∈l,∀(u v:Option XV) acc (R:XE->RX),(∀u' v',R (u'::v'::caps) (.d (f x)) (S0++[acc]))->g (.d (h x)) (u::v::caps) (S0++[acc]) fun τ1 S1=>te τ1 S1 (R τ1)) (hf:fin (S0++[l.map f])):aY n g aK te fin (l.map h) (u::v::caps) (S0++[[]]):=
 A9 (fun τ=>∃u v,τ=u::v::caps) hn l _ ⟨u,v,rfl⟩ hl (fun x m τ acc R ⟨u,v,e⟩ k=>by subst e;exact el x m u v acc R fun u' v'=>k _ ⟨u',v',rfl⟩) hf
theorem Ia{h:α->bv}{f:α->bv}{p:α->Bool}(P:XE->Prop)(hn:S0.length=n)(l:List α)(τ:XE)(hP:P τ)(hl:l.length<=1000)
  (el:∀x∈l,∀ τ acc (R:XE->Bool->Sto->Prop),P τ->(∀ τ',P τ'->(p x=true->∀T:RX,T (.d (f x)) (S0++[acc])->te τ' (S0++[acc]) T)->R τ' (p x) (S0++[acc]))->g (.d (h x)) τ (S0++[acc]) fun τ1 S1=>tt τ1 S1 (R τ1))
  (hf:fin (S0++[(l.filter p).map f])):aY n g tt te fin (l.map h) τ (S0++[[]]):=by
 have go:∀(l:List α) (acc:List bv) (τ:XE),P τ->acc.length+l.length<=1000->(∀x∈l,∀ τ acc (R:XE->Bool->Sto->Prop),P τ->(∀ τ',P τ'->(p x=true->∀T:RX,T (.d (f x)) (S0++[acc])->te τ' (S0++[acc]) T)->R τ' (p x) (S0++[acc]))->g (.d (h x)) τ (S0++[acc]) fun τ1 S1=>tt τ1 S1 (R τ1)) ->
   fin (S0++[acc++(l.filter p).map f])->aY n g tt te fin (l.map h) τ (S0++[acc]):=by
  intro l;induction l with
  |nil=>intro acc τ _ _ _ h;rw[List.filter_nil,map_nil,km]at h;exact h
  |cons x l ih=>
   intro acc τ hP hl el hh;show g (.d (h x)) τ (S0++[acc]) fun τ1 S1=>tt τ1 S1 fun b S2=>if b=true then te τ1 S2 fun x S3=>asD x fun e=>∃acc,S3[n]?=some acc/\acc.length<1000/\aY n g tt te fin (l.map h) τ1 (S3.set n (acc++[e]))else aY n g tt te fin (l.map h) τ1 S2
   rw[im]at hl;refine el x iq τ acc (fun τ1 b S2=>if b=true then te τ1 S2 fun x S3=>asD x fun e=>∃acc,S3[n]?=some acc/\acc.length<1000/\aY n g tt te fin (l.map h) τ1 (S3.set n (acc++[e]))else aY n g tt te fin (l.map h) τ1 S2) hP fun τ' y ev=>?_;cases hp:p x with
   |false=>
    rw[List.filter_cons_of_neg (by rw[hp];exact jc)]at hh;exact gV (ih acc τ' y yw (fun e m=>el e (fu _ m)) hh)
   |true=>
    rw[List.filter_cons_of_pos hp,kq]at hh;refine gH (ev hp _ ⟨acc,by rw[<- hn,fb],yw,?_⟩);rw[xM hn];exact ih (acc++[f x]) τ' y (by rw[fx,jg];omega) (fun e m=>el e (fu _ m)) (by rw[ly];exact hh)
 exact go l [] τ hP (by simpa using hl) el (by simpa using hf)
theorem cmf2{h:α->bv}(f:α->bv)(p:α->Bool)(hn:S0.length=n)(l:List α){u v:Option XV}(hl:l.length<=1000)
  (el:∀x∈l,∀(u v:Option XV) acc (R:XE->Bool->Sto->Prop),(∀u' v',(p x=true->∀T:RX,T (.d (f x)) (S0++[acc])->te (u'::v'::caps) (S0++[acc]) T)->R (u'::v'::caps) (p x) (S0++[acc]))->g (.d (h x)) (u::v::caps) (S0++[acc]) fun τ1 S1=>tt τ1 S1 (R τ1)) (hf:fin (S0++[(l.filter p).map f])):aY n g tt te fin (l.map h) (u::v::caps) (S0++[[]]):=
 Ia (fun τ=>∃u v,τ=u::v::caps) hn l _ ⟨u,v,rfl⟩ hl (fun x m τ acc R ⟨u,v,e⟩ k=>by subst e;exact el x m u v acc R fun u' v' hh=>k _ ⟨u',v',rfl⟩ hh) hf
end
end
section
@[irreducible] def QSs (X:Cx) (st:List Stmt) (t:TS):Prop:=PSs X st t
theorem QSs.out{X:Cx}{st:List Stmt}{t:TS}(h:QSs X st t):PSs X st t:=by unfold QSs at h;exact h
theorem QSs.mk{X:Cx}{st:List Stmt}{t:TS}(h:PSs X st t):QSs X st t:=by unfold QSs;exact h
theorem Io{X:Cx}{b:List Stmt}{R:TS->Prop}(h:∃t,QSs X b t/\R t):∃t,PSs X b t/\R t:=let ⟨t,h1,h2⟩:=h;⟨t,h1.out,h2⟩
@[irreducible] def QA (X:Cx) (es:List Expr) (t:TA):Prop:=PA X es t
theorem QA.out{X:Cx}{es:List Expr}{t:TA}(h:QA X es t):PA X es t:=by unfold QA at h;exact h
theorem QA.mk{X:Cx}{es:List Expr}{t:TA}(h:PA X es t):QA X es t:=by unfold QA;exact h
theorem fU{X:Cx}:QA X [] jU:=QA.mk zc
theorem zK{X:Cx}{e:Expr}{es:List Expr}{te:TE}{t:TA}(ha:PE X e te)(hr:QA X es t)(hs:fc (e::es) X.env=(false,eval e X.env)::fc es X.env:=by rfl):QA X (e::es) (f7 te t):=QA.mk (za ha hr.out hs)
theorem oC{X:Cx}{es:List Expr}{t:TA}{pos:Pos}(h:QA X es t):PE X (.List es pos) (j9 t):=aQ h.out
@[irreducible] def QS (X:Cx) (st:Stmt) (t:TS):Prop:=PS X st t
theorem QS.out{X:Cx}{st:Stmt}{t:TS}(h:QS X st t):PS X st t:=by unfold QS at h;exact h
theorem QS.mk{X:Cx}{st:Stmt}{t:TS}(h:PS X st t):QS X st t:=by unfold QS;exact h
theorem Dl{X:Cx}{st:Stmt}{rest:List Stmt}{t u:TS}(h1:QS X st t)(h2:QSs X rest u):QSs X (st::rest) (e9 t u):=QSs.mk (zf h1.out h2.out)
end
section
def n5(a:DA):DE:=fun δ S R=>a δ S fun xs S1=>arg2 xs fun x y=>asI x fun i=>asI y fun j=>(j-i).toNat<=1000/\R (.d (.list (gX i (j-i).toNat))) S1
end
end L2
namespace HT
open PySem PyProof.Rows
section
variable {prog:fq}{w:gw}{A:gh}{E:bo->bq->Prop}{s:bq}
theorem tup_whole{t sl:Addr}{items:Array bo}{vl vu:bo}{lo hi:Option Int}{Q:bo->bq->Prop}(ht:IsTup s.heap t items)(hs:s.heap.IsSliceOf sl vl vu .none)(pl:IsPart vl lo)(pu:IsPart vu hi)
  (hw:sIx items.size 0 lo=0/\sIx items.size items.size hi=items.size) (h:Q (.ref t) s):cv (model prog w) A (getItem (.ref t) (.ref sl)) Q E s:=by
 obtain⟨os,ac,aa,ae⟩:=id hs;have y:s.TypeIs (.ref sl) "slice":=⟨os,ac,aa⟩;unfold getItem
 try with_reducible refine ie ?_
 first|refine bp (cr ?_)|skip
 refine bp (wpAny_sequenceKey ht.typeIs dz ?_);refine bp (lc (name:=gk "__getitem__") ht.typeIs PyProof.Rows.slot_tuple_getitem
  (lf PyProof.Rows.slot_tuple_getitem ht.typeIs entry_tuple_getitem ?_ (args_tuple_getitem _ _)))
 show cv _ _ (Builtin.Tuple.tupleItemsOf (.ref t) >>= _) _ _ s;refine bp (tupleItemsOf_ ht (bp (wpAny_typeOf y ?_)));rw[cu dz];refine bp (wW hs pl pu ?_);rw[hw.1,hw.2];show cv _ _ (if (((0:Nat):Int)==0&&(1:Int)==1&&(items.size-0)==items.size)=true then _ else _) _ _ s;rw[cu yv];unfold Builtin.Tuple.tupleIsExact;refine bp (bp (wpAny_typeOf ht.typeIs (cr ?_)));rw[cu dz];exact bp (pc (cr ⟨_,rfl,cr h⟩))
end
end HT
namespace L2
open PySem PySem.Spec PyProof.Rows
section
section
variable {X:Cx}{e ek:Expr}{te tk:TE}{pos p2:Pos}
def y6(K:cw):V->Option Int->Option Int->Hp->VK->Prop:=fun x lo hi H Q=>∃a xs,x=.ref a/\SqT K H a xs /\
 ((HT.sIx xs.length 0 lo=0/\HT.sIx xs.length xs.length hi=xs.length)->Q (.ref a) H)/\∀p,H p=none->Q (.ref p) (upd H p (.tup (cR xs lo hi)))
theorem gP:SlR X (y6 X.K):=by
 intro zd s σ H x v vl vu lo hi sl Q I rx hs pl pu h;obtain⟨a,xs,rfl,hx,hw,q⟩:=h;by_cases z:HT.sIx xs.length 0 lo=0/\HT.sIx xs.length xs.length hi=xs.length
 ·cases rx;obtain⟨aa,r,ht,hz⟩:=I.tuple hx;have y:aa.toArray.size=xs.length:=by rw[dy];exact r.length.symm
  refine⟨"tuple",_,PyProof.Rows.slot_tuple_getitem.lookup,ht.typeIs,?_⟩;exact HT.tup_whole ht hs pl pu (by rw[y];exact z) ⟨.ref a,H,I,rfl,hw z⟩
 ·exact A5 zd s σ H _ v vl vu lo hi sl Q I rx hs pl pu ⟨a,xs,rfl,hx,z,q⟩
end
def cT:D3:=fun x i j S R=>asT x fun ds=>R (.d (.tuple (cN ds i j))) S
theorem F1{α:Type}(xs:List α)(lo hi:Option Int)(h:HT.sIx xs.length 0 lo=0/\HT.sIx xs.length xs.length hi=xs.length):cN xs lo hi=xs:=by
 unfold cN;rw[h.1,h.2];simp
theorem fF{K:cw}:RL (y6 K) cT:=fun h o H S x v a b R Q hs hx q c=>by
 replace q:=i4 q;obtain⟨ds,rfl,q⟩:=q;obtain⟨p,vs,rfl,ea,l⟩:=d9 hx;refine⟨p,vs,rfl,.of ea,fun z=>?_,jB hs (l.cut a b) c q⟩;rw[l.length]at z;rw[F1 ds a b z]at q;exact c o H S _ _ Ex.refl hs hx q
end
section
theorem Df.none{P:fq}{w:gw}{K:cw}{mg:Str->Option bo}{base:Heap}{x:Str}{st:Stmt}{ps:List Str}{k:Nat}(D:Dd K mg x st ps):Df P w K mg base x ps k (spN ps fun _ _ _=>False):=by
 obtain⟨f,fd,F,hm,hb⟩:=D.ex;have no:∀{vs H Q E},spN ps (fun _ _ _=>False) vs H Q E->False:=fun {vs H Q E} h=>by
  obtain⟨_,h,o,S,xs,R,_,_,q,_⟩:=h;exact q
 exact⟨f,fd,⟨fun _ _ _ _ h=>(no h).elim,fun _ _ _ _ _ _ _ _ _ _ _ _ _ h=>(no h).elim⟩,hm,F.kp,hb⟩
end
section
@[irreducible] def QE (X:Cx) (e:Expr) (t:TE):Prop:=PE X e t
theorem QE.out{X:Cx}{e:Expr}{t:TE}(h:QE X e t):PE X e t:=by unfold QE at h;exact h
theorem QE.mk{X:Cx}{e:Expr}{t:TE}(h:PE X e t):QE X e t:=by unfold QE;exact h
theorem GX{X:Cx}{e:Expr}{es:List Expr}{te:TE}{t:TA}(ha:QE X e te)(hr:QA X es t)(hs:fc (e::es) X.env=(false,eval e X.env)::fc es X.env:=by rfl):QA X (e::es) (f7 te t):=QA.mk (za ha.out hr.out hs)
theorem pK{X:Cx}{es:List Expr}{t:TA}{k:Nat}{pos:Pos}(h:QA X es t):QE X (.Tuple es k pos) (sG t):=QE.mk (aT h.out)
section
variable {X:Cx}{es l l':List Expr}{te:TE}{t:TA}{k:Nat}{p:Pos}{c:Const}{x:Str}{ks:List (Option Expr)}
theorem uP(ha:QE X (.Tuple l k p) te)(hr:QA X es t):QA X (.Tuple l k p::es) (f7 te t):=QA.mk (za ha.out hr.out rfl)
theorem nB(ha:QE X (.Constant c k p) te)(hr:QA X es t):QA X (.Constant c k p::es) (f7 te t):=QA.mk (za ha.out hr.out rfl)
end
end
end L2
namespace L2
open PySem PySem.Spec PySem.Calls PyProof.Rows PySem.W
section
variable {prog:fq}{w:gw}{A:gh}{E:bo->bq->Prop}{s:bq}
def KeptBut(a:Addr)(h h':Heap):Prop:=∀b o,b≠a->h.get? b=some o->h'.get? b=some o
end
end L2
namespace L2
open PySem PySem.Spec PyProof.Rows
section
def l7:D2:=fun x y S R=>asT x fun ds=>asT y fun es=>∃ns,ds=ns.map cq/\∃ms,es=ms.map cq/\R (.d (.bool (HT.lexLt ns ms))) S
end
section
theorem tS:∀{vs:List bo}{ns:List Int},jr vs ns->vs.length=ns.length
 |_,_,.nil=>rfl
 |_,_,.cons n t h=>by simp[tS h]
end
section
theorem Gi:fillsNumberSlot (.type "tuple") "mul" = pure false:=
 PySem.fillsNumberSlot_seq (id:="tuple.__mul__") (r:=some (.builtin "tuple.__rmul__")) F.slot_tuple_mul.lookup (by decide +kernel) F.slot_tuple_rmul.lookup (by decide +kernel)
theorem Iw:seqRepeat? (.type "tuple")=pure (some (.builtin "tuple.__mul__")):=by
 unfold seqRepeat?;rw[PySem.seqSlot_of (T:="tuple") (name:="__mul__") (id:="tuple.__mul__") F.slot_tuple_mul.lookup (by decide +kernel),PySem.seqSlot_of (T:="tuple") (name:="__rmul__") (id:="tuple.__rmul__") F.slot_tuple_rmul.lookup (by decide +kernel)];rfl
theorem G7(a:Int)(t:Tok)(l:Addr)(items:Array bo)(n:Nat)(d:Option Addr)(sl:Array (Option bo)):
  Meets (nk.«int.__rmul__» ⟨[.int a t,.ref l],[]⟩) (fun _ R s=>s.heap.get? l=some { cls:=.type "tuple",dict:=d,data:=.seq items n,slots:=sl }/\R (.ok (.ret qa)) s):=
 .of_wp fun prog w A R s h=>by obtain⟨hp,g,d,tk,os⟩:=s;obtain⟨hl,h⟩:=h;wp_walk;exact⟨_,rfl,h⟩
theorem Gg(l:Addr)(items:Array bo)(n:Nat)(d:Option Addr)(sl:Array (Option bo))(u:Tok):
  Meets (nk.«tuple.__mul__» ⟨[.ref l,.int 1 u],[]⟩) (fun _ R s=>s.heap.get? l=some { cls:=.type "tuple",dict:=d,data:=.seq items n,slots:=sl }/\R (.ok (.ret (.ref l))) s):=
 .of_wp fun prog w A R s h=>by
  obtain⟨hp,g,d,tk,os⟩:=s;obtain⟨hl,h⟩:=h
  wp_walk
  exact⟨_,rfl,h⟩
theorem IE(l:Addr)(items:Array bo)(n:Nat)(d:Option Addr)(sl:Array (Option bo))(u:Tok)(x:Int)(hx:x<=0)(y:-(2 ^ 63)<=x)(hi:items.isEmpty=false):
  Meets (nk.«tuple.__mul__» ⟨[.ref l,.int x u],[]⟩) (fun _ R s=>s.heap.get? l=some { cls:=.type "tuple",dict:=d,data:=.seq items n,slots:=sl }/\R (.ok (.ret (.ref s.heap.objs.size))) { s with heap:=s.heap.push { cls:=.type "tuple",data:=.seq #[] } }):=
 .of_wp fun prog w A R s h=>by
  obtain⟨hp,g,d,tk,os⟩:=s;obtain⟨hl,h⟩:=h;have c0:(decide (x < -2 ^ 63)||decide (x≥2 ^ 63))=false:=by simp;omega
  have c1:(items.isEmpty||x==1)=false:=by rw[hi];simp;omega
  have c2:(decide (x<=0)||items.isEmpty)=true:=by rw[jh hx];rfl
  wp_walk
  refine pi (by rw[c0];rfl) ?_
  wp_walk
  refine pi (by rw[c1];rfl) ?_;refine wpAny_ite_true (by rw[c2];rfl) ?_
  wp_walk
  exact⟨_,rfl,h⟩
theorem IJ(l:Addr)(items:Array bo)(n:Nat)(d:Option Addr)(sl:Array (Option bo))(u:Tok)(x:Int)(hx:2<=x)(y:x<2 ^ 63)(hi:items.isEmpty=false)(hz:items.size*x.toNat<=fh):
  Meets (nk.«tuple.__mul__» ⟨[.ref l,.int x u],[]⟩) (fun _ R s=>s.heap.get? l=some { cls:=.type "tuple",dict:=d,data:=.seq items n,slots:=sl }/\R (.ok (.ret (.ref s.heap.objs.size))) { s with heap:=s.heap.push { cls:=.type "tuple",data:=.seq ((bu x.toNat items).foldl (· ++ ·) #[]) } }):=
 .of_wp fun prog w A R s h=>by
  obtain⟨hp,g,d,tk,os⟩:=s;obtain⟨hl,h⟩:=h;have c0:(decide (x < -2 ^ 63)||decide (x≥2 ^ 63))=false:=by simp;omega
  have c1:(items.isEmpty||x==1)=false:=by rw[hi];simp;omega
  have c2:(decide (x<=0)||items.isEmpty)=false:=by rw[hi,gu yw];rfl
  have ez:(items.size:Int)*x=(items.size*x.toNat:Nat):=by rw[Int.natCast_mul,Int.toNat_of_nonneg yw]
  have c3:¬((items.size:Int)*x>(2 ^ 63-1)/8):=by
   rw[ez];have h1:(fh:Int)<=(2 ^ 63-1)/8:=by decide
   have h2:((items.size*x.toNat:Nat):Int)<=(fh:Int):=Int.ofNat_le.mpr hz;exact fun h3=>absurd (Int.le_trans h2 h1) (Int.not_le.mpr h3)
  have c4:Builtin.Tuple.tupleTooMany ((items.size:Int)*x)=false:=by
   unfold Builtin.Tuple.tupleTooMany;rw[ez];exact gu (Int.not_lt.mpr (Int.ofNat_le.mpr hz))
  have c5:((bu x.toNat items).foldl (· ++ ·) #[]).size<=fh:=by
   have:=qH items.toList x.toNat [];simp only[Array.toArray_toList]at this;rw[nil_append]at this;rw[this,dy,uV,nj,mul_comm];exact hz
  wp_walk
  refine pi (by rw[c0];rfl) ?_
  wp_walk
  refine pi (by rw[c1];rfl) ?_;refine pi (by rw[c2];rfl) ?_;refine pi (gu c3) ?_;refine pi (by rw[c4];rfl) ?_
  wp_walk
  exact⟨_,rfl,h⟩
def yP(K:cw):R2:=fun x y H Q=>∃a k xs,x=.ref a/\y=.int k/\SqT K H a xs/\xs≠[]/\-1000<=k/\k<=1000/\xs.length*k.toNat<=1000 /\
 (k=1->Q (.ref a) H)/\(k≠1->∀p,H p=none->Q (.ref p) (upd H p (.tup (bu k.toNat xs).flatten)))
theorem Hf{X:Cx}:OpR X (mq .Mult) (yP X.K):=by
 intro zd s σ H x y v u Q I rx ry h;obtain⟨a,k,xs,rfl,rfl,ha,hx,h1,h2,hz,q1,q2⟩:=h;cases rx;obtain⟨t,rfl⟩:=ry;obtain⟨aa,r1,p1,_⟩:=I.tuple ha;have ae:aa≠[]:=fun z=>hx (r1.nil_iff.mp z);have ac:aa.toArray.isEmpty=false:=by
  cases aa with
  |nil=>exact absurd rfl ae
  |cons _ _=>rfl
 have hl:aa.length=xs.length:=r1.length.symm;obtain⟨⟨cls,dd,data,sl⟩,ho,hc,n,hd⟩:=id p1;simp only at hc hd;subst hc hd;have af:aa.toArray.size*k.toNat<=fh:=by
  rw[dy,hl];exact om (small1000 hz)
 refine wpAny_binaryOp_repeat_ref (T:="tuple") (U:="int") dz ⟨_,ho,rfl⟩ (fun s'=>typeIs_int s' k t) Gi F.fills_int_mul F.slot_int_rmul Iw F.slot_int_index.lookup
  (qd F.slot_int_rmul (typeIs_int s k t) F.entry_int_rmul (F.args_int_rmul_2 _ _) (G7 k t a aa.toArray n dd sl) ⟨ho,rfl,⟨_,ho,rfl⟩,?_⟩)
 by_cases hk:k=1
 ·subst hk;exact qd F.slot_tuple_mul ⟨_,ho,rfl⟩ F.entry_tuple_mul (F.args_tuple_mul_2 _ _) (Gg a aa.toArray n dd sl t) ⟨ho,.ref a,H,I,rfl,q1 rfl⟩
 ·have fin:∀us,us=(bu k.toNat aa).flatten->EP X zd σ Q (.ref s.heap.objs.size) { s with heap:=s.heap.push { cls:=.type "tuple",data:=.seq us.toArray } }:=fun us e=>by
   refine⟨.ref s.heap.objs.size,_,I.laid (t':=s.toks) (o:=.tup (bu k.toNat xs).flatten) (fun b ob q=>bx _ q) (dw _) ?_,rfl,q2 hk _ (I.hok.fresh (dw _))⟩;refine⟨⟨by rw[uV,mul_comm];exact om (small1000 hz),_,ff _ rfl,rfl⟩,us,?_,IsTup.new _ _⟩;rw[e];exact r1.rep k.toNat
  by_cases h0:k<=0
  ·refine qd F.slot_tuple_mul ⟨_,ho,rfl⟩ F.entry_tuple_mul (F.args_tuple_mul_2 _ _) (IE a aa.toArray n dd sl t k h0 yw ac) ⟨ho,?_⟩;have e0:k.toNat=0:=yw
   exact fin [] (by rw[e0];rfl)
  ·refine qd F.slot_tuple_mul ⟨_,ho,rfl⟩ F.entry_tuple_mul (F.args_tuple_mul_2 _ _) (IJ a aa.toArray n dd sl t k yw yw ac af) ⟨ho,?_⟩;have e1:=qH aa k.toNat [];rw[nil_append]at e1;have:=fin _ rfl;rw[<- e1]at this;exact this
def iR:D2:=fun x y S R=>asT x fun ds=>asI y fun j=>ds≠[]/\-1000<=j/\j<=1000/\ds.length*j.toNat<=1000/\R (.d (.tuple (bu j.toNat ds).flatten)) S
theorem Fz{K:cw}:RO (yP K) iR:=fun h o H S x y v u R Q hs hx hy q c=>by
 obtain⟨ds,rfl,q⟩:=i4 q;replace q:=bE q;obtain⟨j,rfl,hn,h1,h2,hz,q⟩:=q;obtain⟨a,vs,rfl,ea,l⟩:=d9 hx;refine⟨a,j,vs,rfl,aU hy,.of ea,?_,h1,h2,by rw[l.length];exact hz,fun e=>?_,fun _=>jB hs (l.rep j.toNat) c q⟩
 ·intro z;have:=l.length;rw[z]at this;exact hn (List.length_eq_zero_iff.mp this.symm)
 ·subst e;have e1:(bu (1:Int).toNat ds).flatten=ds:=by simp
  rw[e1]at q;exact c o H S _ _ Ex.refl hs hx q
end
section
section
variable {prog:fq}{w:gw}{A:gh}{E:bo->bq->Prop}{s:bq}
theorem sM{h h':Heap}{l:Addr}{items:Array bo}(x:h.IsList l items)(k:∀o,h.get? l=some o->h'.get? l=some o):h'.IsList l items:=let ⟨o,ho,r⟩:=x;⟨o,k o ho,r⟩
theorem B3{it t:Addr}{items:Array bo}(ac:t≠it):∀(n i:Nat) (s:bq) (Q:List bo->bq->Prop),s.heap.IsListIter it t i->s.heap.IsList t items->i+n<=items.size ->
  (∀h',h'.IsListIter it t (i+n)->jm it s.heap h'->Q ((items.toList.drop i).take n) { s with heap:=h' })->cv (model prog w) A (draw (.ref it) n) Q E s
 | 0,i,s,Q,hit,_,_,hQ=>by
  show cv _ _ (pure []) Q E s;exact cr (by simpa using hQ s.heap hit (Heap.SameBut.refl ..))
 |n+1,i,s,Q,hit,ht,hle,hQ=>by
  have aa:i<items.size:=yw
  show cv _ _ (uc (.ref it) >>= _) Q E s;refine bp (wpAny_pyNext_list_item hit ht (x:=items[i]) (by simp[aa]) fun h₁ ae y=>?_);refine bp (ie (B3 ac n (i+1) _ _ ae (sM ht fun o e=>y.extBut t o ac e) yw fun h₂ af ag=>cr ?_));have hd:items.toList.drop i=items[i]::items.toList.drop (i+1):=by simp[nv,aa]
  have:=hQ h₂ (by rw[show i+(n+1)=i+1+n by omega];exact af) (y.trans ag);rw[hd,List.take_succ_cons]at this;exact this
theorem Gj{t:Addr}{items:Array bo}{Q:List bo->bq->Prop}(hh:A.handled=none)(ht:s.heap.IsList t items)
  (hQ:∀h',Heap.ExtBut s.heap.objs.size s.heap h'->Q items.toList { s with heap:=h' }):cv (model prog w) A (unpackItems (.ref t) items.size none) Q E s:=by
 have aa:t≠s.heap.objs.size:=by obtain⟨o,ho,_⟩:=ht;exact ic (fw ho)
 unfold unpackItems;refine bp ?_
 ·unfold notIterableAtAll;refine bp (wpAny_specialOf ht.typeIs PySem.slot_list_iter.lookup ?_);refine cr ?_;simp only[fg,if_false];refine bp (ie (ju ht ?_));have hp:∀o,s.heap.get? t=some o->(s.heap.push { cls:=.type "list_iterator",data:=.fields #[.ref t,.int 0 0] }).get? t=some o:=fun o e=>bx _ e;refine bp (ie (B3 aa items.size 0 _ _ ⟨_,ff _ rfl,rfl,rfl⟩ (sM ht hp) yw fun h₁ ae y=>?_));have ac:List.take items.size (List.drop 0 items.toList)=items.toList:=by
   rw[drop_zero];exact ko yv
  rw[ac];rw[cn yv];have ag:h₁.IsList t items:=sM ht fun o e=>y.extBut t o aa (hp o e);refine bp (ie (wpAny_pyNext_list_end hh ae ag yv fun h₂ af=>?_));simp only[Option.isSome_none,fg,if_false];refine cr (hQ h₂ fun b o hb e=>af b o hb (y.extBut b o hb (bx _ e)))
theorem DK{env:Env}{elts:List Expr}{x1}{pos:Pos}{t:Addr}{items:Array bo}{Q:Unit->bq->Prop}(hh:A.handled=none)(ht:s.heap.IsList t items)
  (hn:(qc elts env).length=items.size) (hstar:(qc elts env).findIdx? (·.1)=none)
  (h:∀h',Heap.ExtBut s.heap.objs.size s.heap h'->cv (model prog w) A (assignInOrder ((qc elts env).map (·.2)) items.toList) Q E { s with heap:=h' }):
  cv (model prog w) A (assign (.Tuple elts x1 pos) env (.ref t)) Q E s:=by
 rw[assign_Tuple];refine bp (wpAny_standAt ?_);unfold unpack;rw[hn,hstar];exact bp (ie (Gj hh ht h))
end
def CL(K:cw)(n:Nat)(t:TGs):TG:=fun v σ H Q=>∃a xs,v=.ref a/\SqL K H a xs/\xs.length=n/\t xs σ H Q
theorem Dv{X:Cx}{es:List Expr}{k:Nat}{t:TGs}{n:Nat}{pos:Pos}(hc:X.calm=true)(h:PGs X es t)
  (hn:(qc es X.env).length=n:=by rfl) (hst:(qc es X.env).findIdx? (·.1)=none:=by rfl):PG X (.Tuple es k pos) (CL X.K n t):=by
 intro zd s σ H v u Q I r hw;obtain⟨a,xs,e1,hq,hl,hw⟩:=hw;subst e1;cases r;obtain⟨y,rv,ht,hz⟩:=I.list hq;refine DK (I.ok.hd hc) ht.isList (by simp[hn,<- hl,rv.length]) hst fun h' hx=>?_;have I1:Inv X zd σ H { s with heap:=h' }:=I.kept (t':=s.toks) fun b o e=>hx b o (ic (fw e)) e;exact h zd _ σ H xs _ Q I1 (by simpa using rv) hw
def jN(n:Nat)(r:DGs):DG:=fun x δ S N=>asL S x fun ds=>ds.length=n/\r ds δ S N
theorem Cs{K:cw}{n:Nat}{t:TGs}{r:DGs}(h1:RGs t r):RG (CL K n t) (jN n r):=fun h o H δ σ S x v N M he hs hx q c=>by
 obtain⟨ds,hd,hn,q⟩:=q;obtain⟨a,vs,rfl,ea,l⟩:=bQ hs hd hx;exact⟨a,vs,rfl,.of ea,by rw[l.length];exact hn,h1 h o H δ σ S ds vs N M he hs l q c⟩
end
section
theorem Gz(f:Array bo->Array bo)(o:Obj):(re f o).dict=o.dict:=by
 unfold re;split<;>rfl
def RecAt(h base:Heap)(e:Addr)(cls:bo)(dx:Option Addr)(a0 fl:bo):Prop:=
 ∃oe vs T oT ts,h.get? e=some oe/\oe.cls=cls/\oe.dict=dx/\oe.data=.fields vs/\(vs[0]?=some a0/\vs[2]?=some .none)/\vs[1]?=some (.ref T)/\base.get? T=none/\T≠e/\h.get? T=some oT/\oT.data=.fields ts/\ts[3]?=some fl
structure NotedD(base:Heap)(l:List Env)(e:Addr)(cls:bo)(dx:Option Addr)(a0 fl:bo)(h h':Heap):Prop where
 stays:base.StaysIn h'
 frames:h'.FunFrames base l
 rcd:RecAt h' base e cls dx a0 fl
 upto:h.UpToSlots h'
def FlyD(base:Heap)(l:List Env)(e:Addr)(cls:bo)(dx:Option Addr)(a0:bo)(h:Heap):Prop:=base.StaysIn h/\base.get? e=none/\h.FunFrames base l/\RecAt h base e cls dx a0 .none
def HeldD(base:Heap)(l:List Env)(e:Addr)(cls:bo)(dx:Option Addr)(a0:bo)(L:Addr)(h:Heap):Prop:=base.StaysIn h/\base.get? e=none/\h.FunFrames base l/\RecAt h base e cls dx a0 (qj L)
theorem FlyD.there{base h:Heap}{l:List Env}{e:Addr}{cls a0:bo}{dx:Option Addr}(x:FlyD base l e cls dx a0 h):∃ob,h.get? e=some ob/\ob.cls=cls/\ob.dict=dx:=
 let ⟨_,_,_,oe,_,_,_,_,he,hc,hd,_⟩:=x;⟨oe,he,hc,hd⟩
theorem FlyD.first{base h:Heap}{l:List Env}{e:Addr}{cls a0:bo}{dx:Option Addr}(x:FlyD base l e cls dx a0 h):∃oe vs,h.get? e=some oe/\oe.cls=cls/\oe.data=.fields vs/\vs[0]?=some a0:=
 let ⟨_,_,_,oe,vs,_,_,_,he,hc,_,hd,h0,_⟩:=x;⟨oe,vs,he,hc,hd,h0.1⟩
theorem FlyD.first2{base h:Heap}{l:List Env}{e:Addr}{cls a0:bo}{dx:Option Addr}(x:FlyD base l e cls dx a0 h):∃oe vs,h.get? e=some oe/\oe.cls=cls/\oe.data=.fields vs/\vs[2]?=some .none:=
 let ⟨_,_,_,oe,vs,_,_,_,he,hc,_,hd,h0,_⟩:=x;⟨oe,vs,he,hc,hd,h0.2⟩
section
variable {M:Model}{A:gh}{E:bo->bq->Prop}{s:bq}
theorem AB{base:Heap}{env:Env}{outer:List Env}{L e:Addr}{oe:Obj}{vs:Array bo}{aa a0:bo}{y:Bool}{Q:Unit->bq->Prop}
  (hfr:A.frames=some (env::outer)) (hl:s.heap.FunFrames base (env::outer)) (hf:env.frame=some L)
  (he:s.heap.get? e=some oe) (hkb:base.StaysIn s.heap) (hen:base.get? e=none) (hd:oe.data=.fields vs) (hsz:1<vs.size) (h0:vs[0]?=some a0/\vs[2]?=some .none)
  (h:∀h',NotedD base (env::outer) e oe.cls oe.dict a0 (qj L) s.heap h'->Q () { s with heap:=h' }):
  cv M A (do let a <- frameOf env;let pl <- entryPlaceOf L y;let b <- EntryCells.newEntry aa a .none (qj L) .none pl;setField (.ref e) 1 b) Q E s:=by
 have ne:e∉(env::outer).filterMap (·.frame):=fun hm=>by
  obtain⟨_,o,ho,nf⟩:=hl.mem hm;rw[he]at ho;cases ho;exact nf vs hd
 refine bp (wpAny_frameOf_fun hfr hl hf fun h1 k1=>?_);refine bp (wpAny_entryPlaceOf fun pl ac=>?_);unfold EntryCells.newEntry newFields;refine bp (ji ?_ (ac.sizeOk5 _ _ _ _ _));have e1:h1.get? e=some oe:=(k1.2.1 e ne).trans he;have b1:base.StaysIn h1:=fun b o q=>(k1.2.1 b fun hm=>by rw[(hl.mem hm).1]at q;cases q).trans (hkb b o q);generalize hT:({ cls:=.type "traceback",dict:=none,data:=.fields ([aa,.ref L,.none,qj L,.none]++(if pl.isEmpty then bu 6 ku else pl)).toArray }:Obj)=tb;have dT:∃ts,tb.data=.fields ts/\ts[3]?=some (qj L):=by
  subst hT;exact⟨_,rfl,yv⟩
 obtain⟨ts,dT,zT⟩:=dT;have fT:tb.isFreed=false:=Obj.isFreed_of_fields dT;have e2:=bx (h:=h1) tb e1;refine wpAny_setField e2 hd hsz (h _ ?_);have nT:h1.objs.size≠e:=ne_of_gt (fw e1);have d3:=qm hd (·.setIfInBounds 1 (fv h1.objs.size));have e3:=mw (re (·.setIfInBounds 1 (fv h1.objs.size))) e2 (Obj.isFreed_of_fields d3);have t3:=(ig (h1.push tb) (re (·.setIfInBounds 1 (fv h1.objs.size))) (jq nT)).trans (ff h1 fT);have keep:∀b o,b≠e->h1.get? b=some o->((h1.push tb).update e (re (·.setIfInBounds 1 (fv h1.objs.size)))).get? b=some o:=fun b o nb q=>by
  rw[ig _ _ (jq nb)];exact bx _ q
 have nr:∀b o,s.heap.get? b=some o->(∀vs,o.data≠.fields vs)->b≠e:=fun b o q nf z=>by
  rw[z,he]at q;cases q;exact nf vs hd
 refine⟨fun b o q=>keep b o (fun z=>by rw[z,hen]at q;cases q) (b1 b o q),hl.of_keeps fun b o q nf=>?_,?_,fun b o q nf=>?_⟩
 ·obtain⟨sl,z⟩:=k1.2.2 b o q;exact⟨_,keep b _ (nr b o q nf) z,rfl⟩
 ·exact⟨_,_,h1.objs.size,_,_,e3,Obj.cls_mapFields _ _,Gz _ _,d3,⟨by rw[Array.getElem?_setIfInBounds_ne dz];exact h0.1,by rw[Array.getElem?_setIfInBounds_ne dz];exact h0.2⟩,by simp[hsz],b1.fresh,nT,t3,dT,zT⟩
 ·obtain⟨sl,z⟩:=k1.2.2 b o q;exact⟨sl,keep b _ (nr b o q nf) z⟩
theorem pJ{base:Heap}{l:List Env}{e:Addr}{cls a0 fl:bo}{dx:Option Addr}{Q:Unit->bq->Prop}(ag:base.StaysIn s.heap)(af:base.get? e=none)(hl:s.heap.FunFrames base l)(ht:RecAt s.heap base e cls dx a0 fl)
  (h:∀h',FlyD base l e cls dx a0 h'->s.heap.UpToSlots h'->Q () { s with heap:=h' }):cv M A (setFlight (.ref e) none) Q E s:=by
 obtain⟨oe,vs,T,oT,ts,he,hc,hx,hd,h0,h1,ac,ae,hT,y,h3⟩:=ht;have z3:3<ts.size:=(Array.getElem?_eq_some_iff.mp h3).1;have aa:∀b,b≠T->(s.heap.update T (re (·.setIfInBounds 3 ((none:Option Addr).elim ku fun f=>qj f)))).get? b=s.heap.get? b:=fun b hb=>ig _ _ (jq hb);have nr:∀b o,s.heap.get? b=some o->(∀vs,o.data≠.fields vs)->b≠T:=fun b o q nf z=>by
  rw[z,hT]at q;cases q;exact nf ts y
 unfold setFlight;refine bp (jt he hd h1 ?_);rw[cu (show (fv T != ku)=true from by simp)];refine wpAny_setField hT y z3 (h _ ⟨fun b o q=>(aa b fun z=>by rw[z,ac]at q;cases q).trans (ag b o q),af,hl.of_keeps fun b o q nf=>⟨o,(aa b (nr b o q nf)).trans q,rfl⟩,?_⟩ fun b o q nf=>⟨o.slots,(aa b (nr b o q nf)).trans q⟩);exact⟨oe,vs,T,_,_,(aa e (jq ae)).trans he,hc,hx,hd,h0,h1,ac,ae,mw _ hT (Obj.isFreed_of_fields (qm y _)),qm y _,by simp[z3]⟩
theorem Fm{base:Heap}{env:Env}{outer:List Env}{L e:Addr}{oe:Obj}{vs:Array bo}{a0:bo}{Q:Unit->bq->Prop}
  (hfr:A.frames=some (env::outer)) (hl:s.heap.FunFrames base (env::outer)) (hf:env.frame=some L)
  (he:s.heap.get? e=some oe) (hkb:base.StaysIn s.heap) (hen:base.get? e=none) (hd:oe.data=.fields vs) (h1:vs[1]?=some .none) (h0:vs[0]?=some a0/\vs[2]?=some .none)
  (h:∀h',NotedD base (env::outer) e oe.cls oe.dict a0 (qj L) s.heap h'->Q () { s with heap:=h' }):cv M A (noteFrame (.ref e) env) Q E s:=by
 unfold noteFrame;simp only[hf];refine bp (jt he hd h1 ?_);rw[cn dz];exact AB hfr hl hf he hkb hen hd (Array.getElem?_eq_some_iff.mp h1).1 h0 h
theorem BO{base:Heap}{env:Env}{outer:List Env}{L e:Addr}{cls a0:bo}{dx:Option Addr}{Q:Unit->bq->Prop}
  (hfr:A.frames=some (env::outer)) (hl:s.heap.FunFrames base (env::outer)) (hf:env.frame=some L) (ht:RecAt s.heap base e cls dx a0 .none) (hkb:base.StaysIn s.heap) (hen:base.get? e=none)
  (h:∀h',NotedD base (env::outer) e cls dx a0 (qj L) s.heap h'->Q () { s with heap:=h' }):cv M A (noteFrame (.ref e) env) Q E s:=by
 obtain⟨oe,vs,T,oT,ts,he,rfl,rfl,hd,h0,h1,ae,ac,hT,aa,h3⟩:=ht;unfold noteFrame;simp only[hf];refine bp (jt he hd h1 ?_);rw[cu (show (fv T != ku)=true from by simp)];refine bp (jt hT aa h3 ?_);rw[cn (show ¬((ku==qj L)=true)from by simp[qj])];refine bp (wpAny_setField hT aa (Array.getElem?_eq_some_iff.mp h3).1 ?_);have y:∀b,b≠T->(s.heap.update T (re (·.setIfInBounds 3 ku))).get? b=s.heap.get? b:=fun b hb=>ig _ _ (jq hb);have nr:∀b o,s.heap.get? b=some o->(∀vs,o.data≠.fields vs)->b≠T:=fun b o q nf z=>by
  rw[z,hT]at q;cases q;exact nf ts aa
 refine AB hfr (hl.of_keeps fun b o q nf=>⟨o,(y b (nr b o q nf)).trans q,rfl⟩) hf ((y e (jq ac)).trans he)
  (fun b o q=>(y b fun z=>by rw[z,ae]at q;cases q).trans (hkb b o q)) hen hd (Array.getElem?_eq_some_iff.mp h1).1 h0
  fun h' x=>h h' ⟨x.stays,x.frames,x.rcd,fun b o q nf=>x.upto b o ((y b (nr b o q nf)).trans q) nf⟩
theorem GG{base:Heap}{env:Env}{outer:List Env}{L e:Addr}{cls a0:bo}{dx:Option Addr}{Q:Unit->bq->Prop}(aa:A.frames=some (env::outer))(hf:env.frame=some L)(ac:FlyD base (env::outer) e cls dx a0 s.heap)
  (hQ:∀h',FlyD base outer e cls dx a0 h'->s.heap.UpToSlots h'->Q () { s with heap:=h' }):cv M A (leaving env (.ref e)) Q E s:=by
 obtain⟨f1,f2,f3,f4⟩:=ac;unfold leaving;refine bp (BO aa f3 hf f4 f1 f2 fun h' x=>?_);refine pJ (s:={ s with heap:=h' }) x.stays f2 x.frames x.rcd fun h2 y u=>hQ h2 ⟨y.1,y.2.1,?_,y.2.2.2⟩ (x.upto.trans u);obtain⟨_,_,k⟩:=y.2.2.1;exact k
theorem Gu{base:Heap}{env:Env}{outer:List Env}{L e:Addr}{oe:Obj}{vs:Array bo}{a0:bo}{Q:Unit->bq->Prop}
  (hfr:A.frames=some (env::outer)) (hl:s.heap.FunFrames base (env::outer)) (hf:env.frame=some L)
  (he:s.heap.get? e=some oe) (hkb:base.StaysIn s.heap) (hen:base.get? e=none) (hd:oe.data=.fields vs) (h1:vs[1]?=some .none) (h0:vs[0]?=some a0/\vs[2]?=some .none)
  (hQ:∀h',FlyD base outer e oe.cls oe.dict a0 h'->s.heap.UpToSlots h'->Q () { s with heap:=h' }):cv M A (leaving env (.ref e)) Q E s:=by
 unfold leaving;refine bp (Fm hfr hl hf he hkb hen hd h1 h0 fun h' x=>?_);refine pJ (s:={ s with heap:=h' }) x.stays hen x.frames x.rcd fun h2 y u=>hQ h2 ⟨y.1,y.2.1,?_,y.2.2.2⟩ (x.upto.trans u);obtain⟨_,_,k⟩:=y.2.2.1;exact k
theorem Ce{base:Heap}{env:Env}{outer:List Env}{L e:Addr}{cls a0:bo}{dx:Option Addr}{Q:Unit->bq->Prop}(y:A.frames=some (env::outer))(hf:env.frame=some L)(aa:FlyD base (env::outer) e cls dx a0 s.heap)
  (hQ:∀h',HeldD base (env::outer) e cls dx a0 L h'->s.heap.UpToSlots h'->Q () { s with heap:=h' }):cv M A (noteFrame (.ref e) env) Q E s:=by
 obtain⟨f1,f2,f3,f4⟩:=aa;exact BO y f3 hf f4 f1 f2 fun h' x=>hQ h' ⟨x.stays,f2,x.frames,x.rcd⟩ x.upto
theorem E7{base:Heap}{l:List Env}{e L:Addr}{cls a0:bo}{dx:Option Addr}{Q:Unit->bq->Prop}(hh:HeldD base l e cls dx a0 L s.heap)(hQ:∀h',FlyD base l e cls dx a0 h'->s.heap.UpToSlots h'->Q () { s with heap:=h' }):cv M A (setFlight (.ref e) none) Q E s:=by
 obtain⟨f1,f2,f3,f4⟩:=hh;exact pJ f1 f2 f3 f4 hQ
theorem Cw{base:Heap}{l:List Env}{e:Addr}{cls a0:bo}{dx:Option Addr}{Q:Unit->bq->Prop}(hh:FlyD base l e cls dx a0 s.heap)(hQ:∀h',FlyD base l e cls dx a0 h'->s.heap.UpToSlots h'->Q () { s with heap:=h' }):cv M A (setFlight (.ref e) none) Q E s:=by
 obtain⟨f1,f2,f3,f4⟩:=hh;exact pJ f1 f2 f3 f4 hQ
end
theorem HOk.stays{P:fq}{w:gw}{H:Hp}{h h':Heap}(x:HOk P w H h)(k:∀b u,H b=some u->∀o,h.get? b=some o->h'.get? b=some o):HOk P w H h':=fun a o e=>
 (x a o e).stay (fun b u hb q=>by
  rcases hb with rfl|hb
  ·exact k _ _ e _ q
  ·exact k _ _ hb _ q) (fun _ q=>q) fun _ _ q=>q
theorem ObjOk.obj{P:fq}{w:gw}{H:Hp}{h:Heap}{a:Addr}{o:HO}(x:ObjOk P w H h a o):∃u,h.get? a=some u:=by
 cases o with
 |lst xs=>obtain⟨_,_,_,_,e⟩:=x;exact⟨_,e⟩
 |tup xs=>obtain⟨_,_,_,o,e,_⟩:=x;exact⟨_,e⟩
 |dK kvs=>obtain⟨_,_,_,_,o,_,_,e,_⟩:=x;exact⟨_,e⟩
 |dT kvs=>obtain⟨_,_,_,_,o,_,_,e,_⟩:=x;exact⟨_,e⟩
 |set S n=>obtain⟨o,_,_,_,e,_⟩:=x;exact⟨_,e⟩
 |ins C dx fs=>obtain⟨_,_,_,e,_⟩:=x;exact⟨_,e⟩
 |own y=>exact x
 |xd fs=>obtain⟨_,⟨_,_,_,e,_⟩,_⟩:=x;exact⟨_,e⟩
 |rng lo hi=>obtain⟨_,_,_,e⟩:=x;exact⟨_,e⟩
 |frz ob u=>obtain⟨e,_⟩:=x;exact⟨_,e⟩
 |tbl ps=>obtain⟨_,e,_⟩:=x;exact⟨_,e⟩
 |met f y=>exact⟨_,(show h.get? a=some _ from x)⟩
 |ext φ=>obtain⟨_,e,_⟩:=x;exact e
structure Fly(P:fq)(w:gw)(outer:List Env)(H:Hp)(s:bq)(H':Hp)(a C:Addr)(dx:Option Addr)(s':bq):Prop where
 os:s'.os=s.os
 bare:AllBare s'.gens
 un:Un (frs outer) [] H H' s.heap s'.heap
 hok:HOk P w H' s'.heap
 fl:∃B t,FlyD B outer a (.ref C) dx (.ref t) s'.heap/\(∀b o,s.heap.get? b=some o->H b=none->b∉frs outer->B.get? b=some o)/\(∀b o,s.heap.get? b=some o->b∈frs outer\/∃o',B.get? b=some o')/\∀b u,H' b=some u->∃o,B.get? b=some o
def CX1(P:fq)(w:gw):CXT:=fun outer H s E e s'=>∃H' a C dx,e=.ref a/\Fly P w outer H s H' a C dx s'/\E (.ref C) (some a) (upd H' a (exO a C dx))
section
variable {P:fq}{w:gw}{K:cw}{mg:Str->Option bo}{base:Heap}{N:List Str}{qual:Str}{scope:Scope}{f:Addr}{cd:bo}{A:gh}{outer:List Env}{s:bq}{H:Hp}{E:XK}
theorem pass1:Passes (CX1 P w) (b9 (CX1 P w) P w K mg base N qual scope f cd A outer s H E) E:=fun zd σ Hc sc e s' I hx=>by
 obtain⟨H',a,C,dx,rfl,F,hE⟩:=hx;obtain⟨B,t,fl,kB,eB,tB⟩:=F.fl;have aa:(A.deeper (kc qual scope s.heap.objs.size f cd)).frames=some (kc qual scope s.heap.objs.size f cd::outer):=I.ok.frames;have nl:∀b o,s.heap.get? b=some o->b∉frs outer->b∉frs (kc qual scope s.heap.objs.size f cd::outer):=fun b o q hb z=>by
  rcases mem_cons.mp (show b∈s.heap.objs.size::frs outer from z)with e|e
  ·exact absurd (fw q) (by rw[e];exact nz _)
  ·exact hb e
 have nx:∀b:Addr,b∉([]:List Addr):=fun b=>by simp
 have kp:∀b o,s.heap.get? b=some o->H b=none->b∉frs outer->B.get? b=some o:=fun b o q n hb=>kB b o (I.base.keep b o q n hb (nx b)) (I.base.free b o q n (nx b)) (nl b o q hb);have ep:∀b o,s.heap.get? b=some o->b∈frs outer\/∃o',B.get? b=some o':=fun b o q=>by
  by_cases hb:b∈frs outer
  ·exact .inl hb
  ·obtain⟨o1,q1⟩:=I.base.there b o q (nx b);rcases eB b o1 q1 with z|z
   ·exact absurd z (nl b o q hb)
   ·exact .inr z
 show cv _ _ (leaving (kc qual scope s.heap.objs.size f cd) (.ref a)) _ _ s';refine GG aa rfl fl fun h' y sm=>⟨H',a,C,dx,rfl,⟨F.os.trans I.os,F.bare,⟨fun b o q n hb _=>y.1 b o (kp b o q n hb),fun b o q n hb _=>?_,fun b o q n _=>?_,fun b o q _=>?_,fun b xs q=>F.un.tups b xs (I.base.tups b xs q),fun b o u q=>F.un.frzs b o u (I.base.frzs b o u q),fun b ps q=>?_⟩,
  F.hok.stays fun b u e o q=>?_,B,t,y,kp,ep,tB⟩,hE⟩
 ·obtain⟨sl,q1⟩:=I.base.slot b o q n hb (nx b);obtain⟨ae,q2⟩:=F.un.any q1 (I.base.free b o q n (nx b)) (nx b);obtain⟨_,o3,q3,nf⟩:=fl.2.2.1.mem (show b∈frs (kc qual scope s.heap.objs.size f cd::outer)from fu _ hb);rw[q2]at q3;cases q3;obtain⟨ac,q4⟩:=sm b _ q2 nf;exact⟨ac,q4⟩
 ·obtain⟨o1,q1⟩:=I.base.there b o q (nx b);exact F.un.free b o1 q1 (I.base.free b o q n (nx b)) (nx b)
 ·rcases ep b o q with z|⟨o',z⟩
  ·obtain⟨_,o3,q3,_⟩:=y.2.2.1.mem (show b∈frs outer from z);exact⟨o3,q3⟩
  ·exact⟨o',y.1 b o' z⟩
 ·exact F.un.tbls b _ (I.base.tbls b ps q)
 ·obtain⟨o',z⟩:=tB b u e;have:=fl.1 b o' z;rw[q]at this;cases this;exact y.1 b o z
theorem FB{zd:List (Addr×Obj)}{σ:St}{Hc:Hp}{s2:bq}{h':Heap}{e C:Addr}{args:List bo}(I:Inv (b9 (CX1 P w) P w K mg base N qual scope f cd A outer s H E) zd σ Hc s2)(mk:Heap.MadeExcOf s2.heap h' e (.ref C) args)(hE:E (.ref C) (some e) (upd Hc e (exO e C none))):
  (b9 (CX1 P w) P w K mg base N qual scope f cd A outer s H E).xe (.ref e) { s2 with heap:=h' }:=by
 have aa:(A.deeper (kc qual scope s.heap.objs.size f cd)).frames=some (kc qual scope s.heap.objs.size f cd::outer):=I.ok.frames;have nl:∀b o,s.heap.get? b=some o->b∉frs outer->b∉frs (kc qual scope s.heap.objs.size f cd::outer):=fun b o q hb z=>by
  rcases mem_cons.mp (show b∈s.heap.objs.size::frs outer from z)with e|e
  ·exact absurd (fw q) (by rw[e];exact nz _)
  ·exact hb e
 have nx:∀b:Addr,b∉([]:List Addr):=fun b=>by simp
 have stk:s2.heap.FunFrames base (kc qual scope s.heap.objs.size f cd::outer):=I.stack;have y:∀env∈(kc qual scope s.heap.objs.size f cd::outer),∀b,env.frame=some b->b∈frs (kc qual scope s.heap.objs.size f cd::outer):=fun env he b hb=>List.mem_filterMap.mpr ⟨env,he,hb⟩;have hd:∀b o,s2.heap.get? b=some o->b∉frs (kc qual scope s.heap.objs.size f cd::outer)->(W.hideAll s2.heap (frs (kc qual scope s.heap.objs.size f cd::outer))).get? b=some o:=fun b o q n=>W.hideAll_get _ q n;have kp:∀b o,s.heap.get? b=some o->H b=none->b∉frs outer->(W.hideAll s2.heap (frs (kc qual scope s.heap.objs.size f cd::outer))).get? b=some o:=fun b o q n hb=>hd b o (I.base.keep b o q n hb (nx b)) (nl b o q hb);have ep:∀b o,s.heap.get? b=some o->b∈frs outer\/∃o',(W.hideAll s2.heap (frs (kc qual scope s.heap.objs.size f cd::outer))).get? b=some o':=fun b o q=>by
  by_cases hb:b∈frs outer
  ·exact .inl hb
  ·obtain⟨o1,q1⟩:=I.base.there b o q (nx b);exact .inr ⟨o1,hd b o1 q1 (nl b o q hb)⟩
 have tr:∀b u,Hc b=some u->∀o,s2.heap.get? b=some o->(W.hideAll s2.heap (frs (kc qual scope s.heap.objs.size f cd::outer))).get? b=some o:=fun b u q o q1=>hd b o q1 fun z=>by
  rw[I.stkFree.free b z]at q;cases q
 show cv _ _ (leaving (kc qual scope s.heap.objs.size f cd) (.ref e)) _ _ _;obtain⟨t,he,ae,ht⟩:=mk.there;have ne:(W.hideAll s2.heap (frs (kc qual scope s.heap.objs.size f cd::outer))).get? e=none:=by
  cases z:(W.hideAll s2.heap (frs (kc qual scope s.heap.objs.size f cd::outer))).get? e with
  |none=>rfl
  |some o=>
   have:=W.of_hideAll _ z;rw[mk.new]at this;cases this
 refine Gu (s:={ s2 with heap:=h' }) aa ((W.funFrames_hide stk y).of_keeps fun b o q _=>⟨o,mk.keeps b o q,rfl⟩) rfl he (fun b o q=>mk.keeps b o (W.of_hideAll _ q)) ne rfl rfl ⟨rfl,rfl⟩ fun h'' fl sm=>⟨Hc,e,C,none,rfl,⟨I.os,I.bare,⟨fun b o q n hb _=>fl.1 b o (kp b o q n hb),fun b o q n hb _=>?_,fun b o q n _=>I.base.free b o q n (nx b),fun b o q _=>?_,I.base.tups,I.base.frzs,I.base.tbls⟩,
  I.hok.stays fun b u q o q1=>fl.1 b o (tr b u q o q1),_,t,fl,kp,ep,fun b u q=>?_⟩,hE⟩
 ·obtain⟨sl,q1⟩:=I.base.slot b o q n hb (nx b);obtain⟨_,o3,q3,nf⟩:=stk.mem (show b∈frs (kc qual scope s.heap.objs.size f cd::outer)from fu _ hb);rw[q1]at q3;cases q3;obtain⟨ac,q4⟩:=sm b _ (mk.keeps b _ q1) nf;exact⟨ac,q4⟩
 ·rcases ep b o q with z|⟨o',z⟩
  ·obtain⟨_,o3,q3,_⟩:=fl.2.2.1.mem (show b∈frs outer from z);exact⟨o3,q3⟩
  ·exact⟨o',fl.1 b o' z⟩
 ·obtain⟨o,q1⟩:=(I.hok b u q).obj;exact⟨o,tr b u q o q1⟩
end
end
section
def veB:List bo:=[.type "ValueError",.type "Exception",.type "BaseException",.type "object"]
theorem Ed{K:cw}{h:Heap}{N:Addr}{mg:Str->Option bo}{n:Str}{v:bo}(X:K.In h)(G:h.Ns N mg)(e:W.nsIn K N n=some (some v)):mg n=some v:=by
 obtain⟨o,es,ep,ho,hd,_,hf⟩:=G;unfold W.nsIn at e;split at e
 ·rename_i c d y n' sl q;have:=X _ _ q;rw[ho]at this;cases this;cases hd;split at e
  ·rename_i en he;cases e;rw[<- hf];unfold nsFind findBy;rw[<- Array.find?_toList,he];rfl
  ·split at e<;>cases e
 ·cases e
structure ExCls(K:cw)(C:Addr)(ini:Option bo):Prop where
 ob:∀h,K.In h->∃bm N nm qn bs hd sn sub ab col dd k0 k1 k2 k3 k5 mN,h.get? C=some (excClassObj nm qn C N bs bm hd sn sub ab col dd k0 k1 k2 k3 k5 "ValueError.__new__")/\h.Ns N mN/\mN "__init__" = ini/\OwnTail h veB bm/\∀D,W.mroIn K C D=some ((fv C::bm).contains D)
 ty:(W.clsIn K C).isSome=true/\W.typeIn K (.ref C)=some (.type "type")
theorem exc_of_in{K:cw}{C:Addr}(q:W.excIn K C veB "ValueError.__new__" = true):ExCls K C none:=by
 unfold W.excIn at q;split at q
 ·rename_i dd cd sl ho;split at q
  ·rename_i C' bm k0 k1 k2 k3 n k5 hm hs;simp only[ki,beq_iff_eq,Bool.not_eq_true']at q;obtain⟨⟨⟨⟨⟨rfl,rfl⟩,y⟩,ht⟩,hok⟩,aa⟩:=q;obtain⟨nm,bs,mro,ns,qn,hd,sn,sub,ab,col,del⟩:=cd;dsimp only at hm y hok aa;subst hm y;have ac:sl = #[k0,k1,k2,k3,some (.builtin "ValueError.__new__"),k5]:=by
    obtain⟨l⟩:=sl;simp only at hs;rw[hs]
   subst ac;refine⟨fun h X=>⟨bm,ns,nm,qn,bs,hd,sn,sub,ab,col,dd,k0,k1,k2,k3,k5,h.nsMap ns,X _ _ ho,.of_isNs (W.isNs_of_in X hok),W.ns_none_of X (.of_isNs (W.isNs_of_in X hok)) aa,W.tail_of_in X ht,fun D=>?_⟩,?_,?_⟩
   ·unfold W.mroIn W.clsIn;rw[ho];rfl
   ·unfold W.clsIn;rw[ho];rfl
   ·show Option.map (fun x:Obj=>x.cls) (K.lookup C')=_;rw[ho];rfl
  ·cases q
 ·cases q
section
variable {K:cw}{h:Heap}{C G:Addr}{ini iniG:Option bo}
variable {M:Model}{A:gh}{E:bo->bq->Prop}{g:Array GenState}{d:Drawn}{t:Nat}{os:OsState}{e:Addr}{oe:Obj}{Q:Bool->bq->Prop}
theorem Ee(X:K.In h)(qC:ExCls K C ini)(qG:ExCls K G iniG)(he:h.get? e=some oe)(aa:oe.cls=.ref C)(y:W.mroIn K C (.ref G)=some true)(hq:Q true ⟨h,g,d,t,os⟩):cv M A (excMatches (.ref e) (.ref G)) Q E ⟨h,g,d,t,os⟩:=by
 obtain⟨tl,N,nm,qn,bs,hd,sn,sub,ab,col,dd,k0,k1,k2,k3,k5,mN,hC,_,_,T,mr⟩:=qC.ob h X;obtain⟨ae,N',ah,ak,aj,ao,an,ag,am,af,al,j0,j1,j2,j3,j5,ai,hG,_,_,T',_⟩:=qG.ob h X;replace y:(fv C::tl).contains (.ref G)=true:=by rw[mr]at y;exact gv y
 have ac:(fv G::ae).contains (.type "BaseException")=true:=by rw[List.contains_cons,T'.hasType (b:=true) (by decide +kernel),Bool.or_true]
 have f:=tc_notTuple;unfold excMatches
 repeat (first|(with_reducible refine wpAny_loadPart_at he ?_;rw[aa])|with_reducible refine wpAny_loadPart_at hG ?_|(with_reducible refine wpAny_isSubtype_exc hG ?_;rw[ac])|(with_reducible refine wpAny_isSubtype_exc hC ?_;rw[y])|wp_step)
 exact hq
end
section
variable {X:Cx}{E:XK}{x:Str}{C:Addr}{np cpos pos:Pos}
def vJ(E:XK)(C:Addr):TS:=fun _ _ H=>∀a,H a=none->E (.ref C) (some a) (upd H a (exO a C none))
def Raises(X:Cx)(E:XK):Prop:=∀(C:Addr) (zd:List (Addr×Obj)) (σ:St) (H:Hp) (s2:bq) (h':Heap) (e:Addr) (args:List bo),Inv X zd σ H s2->Heap.MadeExcOf s2.heap h' e (.ref C) args->E (.ref C) (some e) (upd H e (exO e C none))->X.xe (.ref e) { s2 with heap:=h' }
theorem Go(hc:X.calm=true)(hR:Raises X E)(hg:Gl X x)(hm:X.mg x=some (.ref C))(q:ExCls X.K C none)(aa:(x==("__debug__":Str))=false:=by decide):
  PS X (.Raise (some (.Call (.Name x np) [] [] cpos)) none pos) (vJ E C):=by
 intro zd s σ H D I h;obtain⟨tl,N,nm,qn,bs,hd,sn,sub,ab,col,dd,k0,k1,k2,k3,k5,mN,hC,hN,y,T,_⟩:=q.ob _ I.kIn;refine wpAny_Raise_call_subT (C:=C) (nm:=nm) (q:=qn) (N:=N) (bs:=bs) (bm:=tl) (hdct:=hd) (sn:=sn) (sub:=sub) (ab:=ab) (col:=col) (dd:=dd) (k0:=k0) (k1:=k1) (k2:=k2) (k3:=k3) (k5:=k5)
  F.excBase_ValueError (mN:=mN) (T.hasType (b:=true) (by decide +kernel)) (I.ok.hd hc) rfl y (jS I hg hm ⟨rfl,?_⟩ aa)
 refine evalArgs_empty ⟨rfl,pf _,hC,hN,T,fun h' e mk=>hR C zd σ H s h' e [] I mk (h e ?_)⟩;cases z:H e with
 |none=>rfl
 |some u=>
  obtain⟨o,ho⟩:=(I.hok e u z).obj;rw[mk.new]at ho;cases ho
end
theorem raises1{P:fq}{w:gw}{K:cw}{mg:Str->Option bo}{base:Heap}{N:List Str}{qual:Str}{scope:Scope}{f:Addr}{cd:bo}{A:gh}{outer:List Env}{s:bq}{H:Hp}{E:XK}:
  Raises (b9 (CX1 P w) P w K mg base N qual scope f cd A outer s H E) E:=fun _ _ _ _ _ _ _ _ I mk hE=>FB I mk hE
end
section
def PEX(X:Cx)(e:Expr)(t:XK->TE):Prop:=∀(zd:List (Addr×Obj)) (s:bq) (σ:St) (H:Hp) (Q:VK) (Ex:XK) (E':bo->bq->Prop),Inv X zd σ H s->t Ex σ H Q ->
 (∀H1 s1 v s',Inv X zd σ H1 s1->CX1 X.prog X.w X.stack H1 s1 Ex v s'->E' v s')->cv (model X.prog X.w) X.A (eval e X.env) (EP X zd σ Q) E' s
def PSX(X:Cx)(st:Stmt)(t:XK->TS):Prop:=∀(zd:List (Addr×Obj)) (s:bq) (σ:St) (H:Hp) (D:Ends) (Ex:XK) (E':bo->bq->Prop),Inv X zd σ H s->t Ex D σ H ->
 (∀H1 s1 v s',Inv X zd σ H1 s1->CX1 X.prog X.w X.stack H1 s1 Ex v s'->E' v s')->cv (model X.prog X.w) X.A (exec st X.env) (SP X zd D) E' s
section
variable {X:Cx}{k:Nat}{f:Addr}{fd:pk}{ps:List Str}{sp:Sp}{x:Str}{p pos:Pos}{e e1:Expr}{es:List Expr}{t:TA}{te:TE}{tx:XK->TE}
theorem E8(hx:∀e s,X.xe e s->False)(F:FnOk X.prog X.w X.K X.mg X.base (CX1 X.prog X.w) k f fd ps sp)(hr:Room k X.A)(hg:Gl X x)(hm:X.mg x=some (.ref f))(hk:W.keepIn X.K (.ref f)=true)(hb:Binds X.K fd ps [])
  (ha:PA X (e::es) t) (hdb:(x==("__debug__":Str))=false:=by decide) (he:fc (e::es) X.env=(false,eval e X.env)::fc es X.env:=by rfl) (hpl:(kj pos (fc es X.env)).any (·.1)=false:=by rfl):
  PEX X (.Call (.Name x p) (e::es) [] pos) (fun Ex σ H Q=>t σ H fun vs H1=>sp vs H1 Q Ex):=by
 intro zd s σ H Q Ex E' I h hX;refine jz (jS I hg hm ?_ hdb);refine W.callWith_K (h₀:=X.base) I.ok.mod.kin hk (kl (ha pos zd s σ H _ I h) (fun us s1 ⟨vs,H1,I1,r,q⟩=>⟨I1.kIn,?_⟩) fun _ _ z=>(hx _ _ z).elim) he hpl;have hl:us.length=ps.length:=by rw[<- r.length];exact F.len _ _ _ _ q
 have y:=hb s1 us I1.kIn (by rw[km];exact hl);rw[km]at y;refine wpAny_call (rz (F.run X.A X.stack s1 H1 ⟨us,[]⟩ us vs Q Ex hr I1.env0 y r q) fun r s' hq=>?_);cases r with
 |error e=>exact hX H1 s1 e s' I1 hq
 |ok fl=>
  cases fl with
  |ret u=>exact I1.after hq
  |next=>exact jn hq
  |brk=>exact jn hq
  |cont=>exact jn hq
theorem yW(he:PEX X e tx):PSX X (.Return (some e) pos) (fun Ex=>qM (tx Ex)):=by
 intro zd s σ H D Ex E' I h hX;exact wpAny_Return_some (thn (he zd s σ H _ Ex E' I h hX) fun v s1 ⟨x,H1,I1,r1,q1⟩=>⟨x,σ,H1,I1,r1,q1⟩)
end
theorem D9{P:fq}{w:gw}{H:Hp}{h:Heap}{a C:Addr}{o:Obj}(e:h.get? a=some o)(c:o.cls=.ref C)(hf:∃vs,o.data=.fields vs/\vs[2]?=some .none):ObjOk P w H h a (exO a C o.dict):=
 ⟨⟨o,e,c,rfl,hf⟩,⟨o,e⟩,fun h1 h2 ⟨o,e,c,d⟩ k=>⟨o,k o e,c,d⟩⟩
abbrev Cx.suite (X:Cx) (a:Addr):Cx:={ X with A:=X.A.mark (some (.ref a)),calm:=false,xe:=fun _ _=>False }
theorem Cx.Ok.suite{X:Cx}(ok:X.Ok)(a:Addr):(X.suite a).Ok:=
 ⟨ok.mod,ok.kind,ok.glob,ok.blt,ok.above,ok.inj,ok.has,ok.cab,(fun z=>Bool.noConfusion z),ok.frames,ok.stk,ok.exf,ok.bs,ok.bsz,ok.noex,ok.exfs,ok.funs,ok.frf⟩
section
variable {X:Cx}{zd:List (Addr×Obj)}{σ:St}{H:Hp}{s:bq}{a:Addr}
theorem Inv.suite(I:Inv X zd σ H s)(a:Addr):Inv (X.suite a) zd σ H s:=⟨I.ok.suite a,I.os,I.bare,I.base,I.loc,I.cell,I.free,I.freeC,I.pin,I.hok,I.len⟩
theorem Inv.unsuite(I:Inv (X.suite a) zd σ H s)(ok:X.Ok):Inv X zd σ H s:=⟨ok,I.os,I.bare,I.base,I.loc,I.cell,I.free,I.freeC,I.pin,I.hok,I.len⟩
theorem Inv.gone{h':Heap}{m':Str->Option bo}{t':Nat}(I:Inv X zd σ H s)(hn:h'.Ns X.env.locals m')(sb:jm X.env.locals s.heap h'):Inv X zd (bu X.N.length none) H { s with heap:=h',toks:=t' }:=by
 have ne:∀b o,X.s₀.heap.get? b=some o->b≠X.env.locals:=fun b o e=>ic (ix (fw e) I.ok.above);refine⟨I.ok,I.os,I.bare,⟨fun b o e n hb hx=>?_,fun b o e n hb hx=>?_,I.base.free,fun b o e hx=>?_,I.base.tups,I.base.frzs,I.base.tbls⟩,⟨m',hn,fun i x v _ e2 _=>?_⟩,fun x c e=>?_,I.free,I.freeC,fun p hp=>?_,I.hok.stays fun b u e o q=>?_,yv⟩
 ·exact(sb.2 b (ne b o e)).trans (I.base.keep b o e n hb hx)
 ·obtain⟨sl,q⟩:=I.base.slot b o e n hb hx;exact⟨sl,(sb.2 b (ne b o e)).trans q⟩
 ·obtain⟨o',q⟩:=I.base.there b o e hx;exact⟨o',(sb.2 b (ne b o e)).trans q⟩
 ·rw[qk]at e2;split at e2<;>cases e2
 ·obtain⟨v,o,ho,hd⟩:=I.cell x c e;exact⟨v,o,(sb.2 c (I.cne x c e)).trans ho,hd⟩
 ·obtain⟨e,n,y,nf,d⟩:=I.pin p hp;exact⟨(sb.2 _ y).trans e,n,y,nf,d⟩
 ·refine(sb.2 b ?_).trans q;rintro rfl;rw[I.free]at e;cases e
end
end
section
structure RoomN(k:Nat)(A:gh):Prop where
 dp:A.depth+3*k+5<recursionLimit
 un:A.units+16*k+200<cLine
theorem Room.suite{k:Nat}{A:gh}(r:Room k A)(a:Addr):RoomN k (A.mark (some (.ref a))):=⟨r.dp,r.un⟩
theorem RoomN.mono{j k:Nat}{A:gh}(r:RoomN k A)(h:j<=k):RoomN j A:=⟨by have:=r.dp;omega,by have:=r.un;omega⟩
theorem RoomN.deeper{k:Nat}{A:gh}(r:RoomN (k+1) A)(env:Env):RoomN k (A.deeper env):=
 ⟨by have:=r.dp;show A.depth+1+3*k+5<_;omega,by have:=r.un;show A.units+3+16*k+200<_;omega⟩
theorem RoomN.depth{k:Nat}{A:gh}(r:RoomN k A):A.depth<recursionLimit:=by have:=r.dp;omega
theorem RoomN.units{k:Nat}{A:gh}(r:RoomN k A):A.units+64<cLine:=by have:=r.un;omega
structure FnOkN(P:fq)(w:gw)(K:cw)(mg:Str->Option bo)(base:Heap)(CX:CXT)(k:Nat)(f:Addr)(fd:pk)(ps:List Str)(sp:Sp):Prop where
 len:∀vs H Q E,sp vs H Q E->vs.length=ps.length
 run:∀(A:gh) (outer:List Env) (s:bq) (H:Hp) (args:Args) (us:List bo) (vs:List V) (Q:VK) (E:XK),RoomN k A->Env0 P w K mg base A outer s H->BindsTo s fd args (ps.zip us)->Vals vs us->sp vs H Q E ->
  sx (model P w) A (.call (.ref f) args) (CR CX outer P w H s Q E) s
abbrev cxN (P:fq) (w:gw) (K:cw) (mg:Str->Option bo) (base:Heap) (N:List Str) (qual:Str) (scope:Scope) (f:Addr) (cd:bo) (A:gh) (outer:List Env) (s:bq) (H:Hp):Cx:=
 { b9 CX0 P w K mg base N qual scope f cd A outer s H E0 with calm:=false,xe:=fun _ _=>False }
section
variable {P:fq}{w:gw}{K:cw}{mg:Str->Option bo}{base:Heap}{k:Nat}
theorem FN{f:Addr}{name qual:Str}{ac:Arguments}{body:List Stmt}{scope:Scope}{dV kV ag pm aa ct oc:bo}{an od:Option Addr}
  {osl:Array (Option bo)}{N ps:List Str}{sp:Sp} (lk:K.lookup f=some ⟨oc,od,.func (W.fnOf name qual ac body scope dV kV ag pm an aa ct),osl⟩) (hcd:W.codeIn K aa qual=true) (S:FnScope N ps scope)
  (len:∀vs H Q E,sp vs H Q E->vs.length=ps.length)
  (hbody:∀(A:gh) (outer:List Env) (s:bq) (H:Hp) (vs:List V) (Q:VK) (E:XK),RoomN k (A.deeper (kc qual scope s.heap.objs.size f aa))->sp vs H Q E ->
   ∃t,PSs (cxN P w K mg base N qual scope f aa A outer s H) body t/\t { nx:=fun _ H'=>Q .non H',rt:=Q } (start N vs) H):
  FnOkN P w K mg base CX0 (k+1) f (W.fnOf name qual ac body scope dV kV ag pm an aa ct) ps sp:=by
 refine⟨len,fun A outer s H args us vs Q E hr e0 hb r af=>?_⟩;have hl:=len _ _ _ _ af;have KX:K.In s.heap:=e0.mod.kin.keeps fun b o e=>(e0.bs b o e).1;have ah:s.heap.NoLimit:=e0.mod.nolimit.keeps fun b o e=>(e0.bs b o e).1;have ae:∀y∈ps.zip us,scope.names.lookup y.1=some .local\/(scope.names.lookup y.1=some .cell/\((cellsFrom (s.heap.objs.size+1) scope.names []).lookup y.1).isSome=true):=fun⟨n,v⟩ hy=>by
  rcases S.par n (of_mem_zip hy).1 with q|q
  ·exact .inl q
  ·exact .inr ⟨q,W.cellsFrom_some _ _ _ (.inl q)⟩
 refine codeAny_call_function hr.depth (KX _ _ lk) rfl S.co S.gen rfl (W.codeRec_of KX hcd) (hb _ _ _ _ ?_);refine wpAny_newFunctionEnv_cells S.kind ae fun env he s1 x=>?_;subst he;refine⟨ah.keeps x.toInCall.keep,codeAny_func ?_⟩;obtain⟨t,ht,hq⟩:=hbody A outer s H vs Q E (hr.deeper _) af;have e1:Env0 P w K mg base { A with handled:=none } outer s H:=⟨e0.frames,e0.mod,e0.bs,e0.bsz,e0.funs,e0.frf,e0.hok,e0.bare⟩;have I0:Inv (b9 CX0 P w K mg base N qual scope f aa { A with handled:=none } outer s H E0) [] (start N vs) H s1:=Bv S rfl e1 hl r x;have I:Inv (cxN P w K mg base N qual scope f aa A outer s H) [] (start N vs) H s1:=
  ⟨⟨I0.ok.mod,I0.ok.kind,I0.ok.glob,I0.ok.blt,I0.ok.above,I0.ok.inj,I0.ok.has,I0.ok.cab,(fun z=>Bool.noConfusion z),Around.frames_deeper e0.frames,I0.ok.stk,I0.ok.exf,I0.ok.bs,I0.ok.bsz,I0.ok.noex,I0.ok.exfs,I0.ok.funs,I0.ok.frf⟩,
   I0.os,I0.bare,I0.base,I0.loc,I0.cell,I0.free,I0.freeC,I0.pin,I0.hok,I0.len⟩
 refine kl (ht [] s1 (start N vs) H _ I hq) (fun fl s' hs=>?_) fun e s' hs=>hs.elim;have fin:∀{σ':St}{H':Hp}{v:V}{u:bo},Inv (cxN P w K mg base N qual scope f aa A outer s H) [] σ' H' s'->RelV v u->Q v H'->CE outer P w H s Q u s':=
  fun {σ' H' v u} J rv q=>⟨v,H',J.os,J.bare,J.base,J.hok,rv,q⟩
 cases fl with
 |ret u=>
  obtain⟨v,σ',H',J,rv,q⟩:=hs;exact fin J rv q
 |next=>
  obtain⟨σ',H',J,q⟩:=hs;exact fin (v:=V.non) (u:=ku) J rfl q
 |brk=>
  obtain⟨_,_,_,q⟩:=hs;exact jn q
 |cont=>
  obtain⟨_,_,_,q⟩:=hs;exact jn q
end
structure DfN(P:fq)(w:gw)(K:cw)(mg:Str->Option bo)(base:Heap)(x:Str)(ps:List Str)(k:Nat)(sp:Sp):Prop where
 ex:∃f fd,FnOkN P w K mg base CX0 k f fd ps sp/\mg x=some (.ref f)/\W.keepIn K (.ref f)=true/\Binds K fd ps []
section
variable {P:fq}{w:gw}{K:cw}{mg:Str->Option bo}{base:Heap}{x:Str}{st:Stmt}{N ps:List Str}{k:Nat}
theorem DfN.dN{q:PN}(D:Dd K mg x st ps)(S:FnScope N ps (zh st))(n:Nat)(hn:N.length=ps.length+n)
  (hbody:∀(f:Addr) (y:bo) (A:gh) (outer:List Env) (s:bq) (H:Hp),RoomN k (A.deeper (kc x (zh st) s.heap.objs.size f y)) ->
   ∃t dt,PSs (cxN P w K mg base N x (zh st) f y A outer s H) (cV st) t/\RS t dt/\∀xs S R,q xs S R->dt (aG S.length R) (xs.map some++bu n none) S):DfN P w K mg base x ps (k+1) (spN ps q):=by
 obtain⟨f,fd,F,hm,hb⟩:=D.ex;have kp:=F.kp;obtain⟨oc,od,kV,af,pm,an,y,ct,ae,rfl,lk,ac⟩:=F.ex;refine⟨f,_,FN lk ac S (fun vs H Q E h=>h.1) fun A outer s H vs Q E hr ⟨hl,h,o,S',xs,R,aa,hx,hq,c⟩=>?_,hm,kp,hb⟩;obtain⟨t,dt,h1,h2,h3⟩:=hbody f y A outer s H hr;refine⟨t,h1,h2 h o H _ _ S' _ _ ?_ aa (h3 xs S' R hq) (eok aa c)⟩;have e:N.length-vs.length=n:=yw
 unfold start;rw[e];exact tR hx
end
section
variable {X:Cx}{x:Str}{ps:List Str}{k j:Nat}{pos pos':Pos}{e:Expr}{es:List Expr}{t:TA}
theorem Cb{q:PN}(D:DfN X.prog X.w X.K X.mg X.base x ps k (spN ps q))(hr:RoomN j X.A)(hk:k<=j)(ha:PA X (e::es) t)(hg:Gl X x:=by rfl)(aa:(x==("__debug__":Str))=false:=by decide)
  (q1:fc (e::es) X.env=(false,eval e X.env)::fc es X.env:=by rfl) (q2:((kj pos (fc es X.env)).any fun x=>x.fst)=false:=by rfl):PE X (.Call (.Name x pos') (e::es) [] pos) (fH (spN ps q) [] E0 t):=by
 obtain⟨f,fd,F,hm,kp,hb⟩:=D.ex;intro zd s σ H Q I h;refine jz (jS I hg hm ?_ aa);refine W.callWith_K (h₀:=X.base) I.ok.mod.kin kp (thn (ha pos zd s σ H _ I h) fun us s1 ⟨vs,H1,I1,r,q5⟩=>⟨I1.kIn,?_⟩) q1 q2;have q':spN ps q vs H1 Q E0:=by simpa using q5
 have hl:us.length=ps.length:=by rw[<- r.length];exact F.len _ _ _ _ q'
 have y:=hb s1 us I1.kIn (by rw[km];exact hl);rw[km]at y;refine wpAny_call (rz (F.run X.A X.stack s1 H1 ⟨us,[]⟩ us vs Q E0 (hr.mono hk) I1.env0 y r q') fun r s' hq=>?_);cases r with
 |error e=>exact hq.elim
 |ok fl=>
  cases fl with
  |ret u=>exact I1.after hq
  |next=>exact jn hq
  |brk=>exact jn hq
  |cont=>exact jn hq
end
end
end L2
namespace L2
open PySem PySem.Spec PySem.Calls PyProof.Rows PySem.W PySem.Builtin PySem.Builtin.ObjectAttr PySem.Builtin.Getset_descriptor
section
variable {prog:fq}{w:gw}{A:gh}{E:bo->bq->Prop}{h:Heap}{g:Array GenState}{d:Drawn}{t:Nat}{os:OsState}{K:cw}{x C:Addr}{ox:Obj}{od:Option Obj}{name:Str}{tk:Tok}
theorem F4{tp:bo}{R:Result->bq->Prop}(X:K.In h)(T0:∀M,Looks M h (typeOf (.ref x)) (.ref C))(hm:mroIn K C (.type "object")=some true)
  (hr:R (.ok (.ret (.ref C))) ⟨h,g,d,t,os⟩):sx (model prog w) A (.call (.builtin "getset_descriptor.__get__") ⟨[.builtin "object.__class__",.ref x,tp],[]⟩) R ⟨h,g,d,t,os⟩:=by
 have L0:=T0 (model prog w);have L1:=looks_mroIn (M:=model prog w) X hm;refine codeAny_call_builtin KF.slot_gs.plain KF.entry_gs (KF.slot_gs.check _ _ _ _ _ _ _ _ KF.type_class (KF.args_gs _ _ _) ?_);unfold nk.«getset_descriptor.__get__» descrGet;rw[dga_obj];refine bp (cr ?_);unfold descrGetter descrCheckInstance descrNameAndClass isInstance;simp only[KF.owner_class]
 repeat lk
 refine⟨Code.quiet_builtin _ (by decide +kernel),kh KF.entry_class ?_⟩;unfold nk.«object.__class__» shownTypeOf
 repeat lk
 exact hr
theorem EN{M:Model}{a gt:bo}(X:K.In h)(ha:findIn K (.ref C) name=some (some a))(hg:specialIn K a "__get__" = some (some gt))(hd:takesIn K a=some true):Looks M h (find (.ref x) (.ref C) name) (.bind gt a):=by
 have L1:=looks_findIn (M:=M) X ha;have L2:Looks M h (getOf (some a)) (some gt):=looks_specialIn X hg;refine L1.andThen (L2.andThen ?_);have L3:=looks_takesIn (M:=M) X hd;exact(show Looks M h (dataDescriptor? (some a) (some gt)) (some (gt,a))from L3.andThen .now).andThen (Looks.tag .now)
theorem D8{M:Model}{y:bo}{Q:Unit->bq->Prop}(X:K.In h)(T0:∀M,Looks M h (typeOf (.ref x)) (.ref C))(hB:mroIn K C (.type "BaseException")=some true)(hq:Q () ⟨h,g,d,t,os⟩):
  cv M A (checkBuiltinCall "BaseException.__getattribute__" ⟨[.ref x,y],[]⟩) Q E ⟨h,g,d,t,os⟩:=by
 have hk:builtinKind "BaseException.__getattribute__" = some .slot:=by decide +kernel
 have aa:splitId "BaseException.__getattribute__" = some ("BaseException","__getattribute__"):=by decide +kernel
 have ha:=F.args_bexc_ga (.ref x) y;simp only[checkBuiltinCall,hk,aa];refine bp ?_;have L0:=T0 M;have L1:=looks_mroIn (M:=M) X hB;have L2:Looks M h (isInstance (.ref x) (.type "BaseException")) true:=L0.andThen L1;refine L2.at ?_
 repeat (any_goals (first|assumption|wp_step))
theorem G8{Q:Fin->bq->Prop}(X:K.In h)(T0:∀M,Looks M h (typeOf (.ref x)) (.ref C))(hm:mroIn K C (.type "object")=some true)(hf:Looks (model prog w) h (find (.ref x) (.ref C) "__class__") (.bind (.builtin "getset_descriptor.__get__") (.builtin "object.__class__")))
  (hq:Q (.done (.ret (.ref C))) ⟨h,g,d,t,os⟩):cv (model prog w) A (nk.«object.__getattribute__» ⟨[.ref x,.str "__class__" tk],[]⟩) Q E ⟨h,g,d,t,os⟩:=by
 have L0:=T0 (model prog w);have L1:=hf;unfold nk.«object.__getattribute__»
 repeat (any_goals (first|assumption|with_reducible refine L0.at ?_|with_reducible refine L1.at ?_|(refine wpAny_call (F4 X T0 hm ?_))|wp_step))
structure ExAt(K:cw)(C:Addr):Prop where
 ga:findIn K (.ref C) "__getattribute__" = some (some (.builtin "BaseException.__getattribute__"))
 gn:findIn K (.ref C) "__getattr__" = some none
 base:mroIn K C (.type "BaseException")=some true
theorem IQ{v:bo}{aa y:Bool}{Q:bo->bq->Prop}(X:K.In h)(T0:∀M,Looks M h (typeOf (.ref x)) (.ref C))(F0:ExAt K C)
  (en:∀(A:gh) (Q:Fin->bq->Prop) (E:bo->bq->Prop),Q (.done (.ret v)) ⟨h,g,d,t,os⟩->cv (model prog w) A (nk.«object.__getattribute__» ⟨[.ref x,.str name tk],[]⟩) Q E ⟨h,g,d,t,os⟩)
  (hv:handedIn v=true) (hq:Q v ⟨h,g,d,t,os⟩):cv (model prog w) A (getAttrBy (.ref x) (.str name tk) aa y) Q E ⟨h,g,d,t,os⟩:=by
 have f3:=F.attrBase_ValueError.ga.bind (.ref x);have hx0:(y&&onTheHeap (Value.builtin "BaseException.__getattribute__"))=false:=by cases y<;>rfl
 have ac:(Value.builtin "BaseException.__getattribute__" == Value.builtin "object.__getattribute__")=false:=by decide +kernel
 have ae:(onTheHeap (fv C)&&Value.builtin "BaseException.__getattribute__" == Value.builtin "object.__getattribute__")=false:=by rw[ac];rfl
 have L0:=T0 (model prog w);have L1:=looks_findIn (M:=model prog w) X F0.ga;have L2:=looks_findIn (M:=model prog w) X F0.gn
 repeat (any_goals (first|assumption|with_reducible refine L0.at ?_|with_reducible refine L1.at ?_|with_reducible refine L2.at ?_|wp_step))
 exact codeAny_call_builtin F.attrBase_ValueError.ga.plain F.entry_bexc_ga (D8 X T0 F0.base (en _ _ _ (handed_on hv hq)))
theorem IB{Q:Option bo->bq->Prop}(X:K.In h)(T0:∀M,Looks M h (typeOf (.ref x)) (.ref C))(F0:ExAt K C)(hm:mroIn K C (.type "object")=some true)(hf:Looks (model prog w) h (find (.ref x) (.ref C) "__class__") (.bind (.builtin "getset_descriptor.__get__") (.builtin "object.__class__")))
  (hq:Q (some (.ref C)) ⟨h,g,d,t+1,os⟩):cv (model prog w) A (getAttr? (.ref x) "__class__") Q E ⟨h,g,d,t,os⟩:=by
 unfold getAttr? getAttrBy?;refine bp (wpAny_mkText (bp (wpAny_attempt (IQ (t:=t+1) X T0 F0 (fun A Q E q=>G8 X T0 hm hf q) rfl ?_))));exact cr hq
end
end L2
namespace L2
open PySem PySem.Spec PySem.Calls PyProof.Rows
structure SpK(K:cw):Prop where
 hn:W.specialIn K (.builtin "object.__class__") "__get__" = some (some (.builtin "getset_descriptor.__get__"))
 ht:W.takesIn K (.builtin "object.__class__")=some true
def exM(C:Addr):List bo:=[.ref C,.ref 65,.type "ValueError",.type "Exception",.type "BaseException",.type "object"]
structure ExK(K:cw)(C:Addr):Prop where
 ty:W.typeIn K (.ref C)=some (.type "type")
 ga:W.findIn K (.ref C) "__getattribute__" = some (some (.builtin "BaseException.__getattribute__"))
 gn:W.findIn K (.ref C) "__getattr__" = some none
 cls:W.findIn K (.ref C) "__class__" = some (some (.builtin "object.__class__"))
 mro:∃cd,W.clsIn K C=some cd/\cd.mro=exM C
theorem ExK.mk'{K:cw}{C:Addr}{cd:ClassData}(a:W.typeIn K (.ref C)=some (.type "type"))(b:W.findIn K (.ref C) "__getattribute__" = some (some (.builtin "BaseException.__getattribute__")))(c:W.findIn K (.ref C) "__getattr__" = some none)
  (d:W.findIn K (.ref C) "__class__" = some (some (.builtin "object.__class__"))) (e:W.clsIn K C=some cd) (f:cd.mro=exM C):ExK K C:=⟨a,b,c,d,cd,e,f⟩
section
variable {K:cw}{x C D:Addr}
theorem ExK.mroIn(E:ExK K C)(v:bo):W.mroIn K C v=some ((exM C).contains v):=by
 obtain⟨cd,h1,h2⟩:=E.mro;unfold W.mroIn;rw[h1];show (if cd.mro.isEmpty=true then none else some (cd.mro.contains v))=_;rw[h2];rfl
theorem ExK.at_(E:ExK K C):ExAt K C:=⟨E.ga,E.gn,(E.mroIn _).trans rfl⟩
def IsEx(x C:Addr)(h:Heap):Prop:=∃o,h.get? x=some o/\o.cls=.ref C
theorem IsEx.ty{h:Heap}(p:IsEx x C h)(M:Model):W.Looks M h (typeOf (.ref x)) (.ref C):=by
 obtain⟨o,e,c⟩:=p;exact c▸(W.Looks.ld e).andThen .now
theorem Hx(E0:ExK K C)(S0:SpK K):W.KitX K (.ref x) (.ref C) (IsEx x C) where
 ty:=fun M h _ p=>p.ty M
 it:=fun M h X _=>by
  obtain⟨cd,hc,_⟩:=E0.mro;unfold W.clsIn at hc;split at hc
  ·rename_i c' d' ac aa ho;intro A' Q' E' s' k q;unfold isType loadHead;exact bp (wpAny_loadPart (k _ _ (X _ _ ho)) (cr q))
  ·cases hc
 ne:=fun h tp dd ae n sl X y=>by
  obtain⟨cd,hc,_⟩:=E0.mro;refine Bool.eq_false_iff.mpr fun q=>?_;have e:C=tp:=Value.ref.inj (beq_iff_eq.mp q);subst e;unfold W.clsIn at hc;split at hc
  ·rename_i c' d' ac aa ho;have z:=(X _ _ ho).symm.trans y;cases z
  ·cases hc
 ca:=fun {prog w A E Q s} X p k=>by
  obtain⟨h,g,d,t,os⟩:=s;exact IB X p.ty E0.at_ ((E0.mroIn _).trans rfl) (EN X E0.cls S0.hn S0.ht) k
def excs:List Addr:=[78,90,102,114,126,145,164,183,202,221]
def exc0:List Addr:=[78,90,102,114,126]
structure Exs(K:cw):Prop where
 sp:SpK K
 all:∀C∈excs,ExK K C
 cl:∀C∈exc0,ExCls K C none
 ci:∀C∈excs,∃ini,ExCls K C ini
theorem Exs.kit(E:Exs K)(hC:C∈excs)(hD:D∈excs):W.kitOne K (.ref C) (.ref D)=some (decide (C=D)):=by
 have EC:=E.all C hC;have ED:=E.all D hD;obtain⟨ac,y,_⟩:=ED.mro;unfold W.kitOne;by_cases h:C=D
 ·subst h;rw[cu yv,jh rfl]
 ·rw[cn (by simpa using h),gu h];show (if ((W.clsIn K D).isSome&&W.typeIn K (.ref D)==some (.type "type"))=true then W.mroIn K C (.ref D)else none)=_;rw[y,ED.ty,cu yv,EC.mroIn];have aa:D≠65:=by
   rintro rfl
   revert hD
   decide
  have:(exM C).contains (.ref D)=false:=by
   unfold exM;simp only[List.contains_cons,List.contains_nil,Bool.or_false,Bool.or_eq_false_iff];refine⟨beq_eq_false_iff_ne.mpr fun z=>h (Value.ref.inj z).symm,beq_eq_false_iff_ne.mpr fun z=>aa (Value.ref.inj z),?_⟩;simp
  rw[this]
theorem Exs.kitV(E:Exs K)(hC:C∈excs):W.kitOne K (.ref C) (.type "ValueError")=some true:=by
 have EC:=E.all C hC;unfold W.kitOne;rw[cn yv];show (if W.kitMeta "ValueError" = true then W.mroIn K C (.type "ValueError")else none)=_;rw[cu (by decide +kernel),EC.mroIn];rfl
end
def yX(K:cw):List V->Hp->VK->Prop:=fun xs H Q=>∃a C d c b,xs=[.ref a,c]/\H a=some (exO a C d)/\ExK K C/\SpK K/\(∀u,RelV c u->W.kitOne K (.ref C) u=some b)/\Q (.bl b) H
theorem eJ{X:Cx}:CallR X (.builtin "isinstance") (yX X.K):=by
 intro zd s σ H xs us Q I r h;obtain⟨a,C,d,c,b,rfl,ha,E0,S0,hk,q⟩:=h;obtain⟨u,w',rfl,ru,y⟩:=vals2 r;cases (show u=fv a from ru);obtain⟨⟨o,e,hc,_⟩,_⟩:=(show ObjOk X.prog X.w H s.heap a (exO a C d)from I.hok a _ ha);exact qf (Hx E0 S0) I.kIn ⟨o,e,hc⟩ (hk _ y) (fun z=>nomatch z) fun tk=>⟨.bl b,H,I.tok tk,rfl,q⟩
def cW:List XV->Sto->RX->Prop:=fun xs S R=>arg2 xs fun x y=>∃C fs c,x=.x C fs/\y=.o c/\C∈excs/\((∃D,c=.ref D/\D∈excs/\R (.d (.bool (decide (C=D)))) S)\/(c=.ty "ValueError"/\R (.d (.bool true)) S))
theorem dR{K:cw}(E:Exs K):RC (yX K) cW:=fun h o H S xs vs R Q hs hx q c=>by
 obtain⟨x,y,rfl,C,fs,k,rfl,rfl,hC,q1⟩:=pS q;obtain⟨v,u,rfl,aa,ac⟩:=hxs2 hx;obtain⟨a,d,rfl,ha,_⟩:=aa;cases (show u=k from ac);rcases q1 with ⟨D,rfl,hD,q2⟩|⟨rfl,q2⟩
 ·exact⟨a,C,d,_,_,rfl,zG _ _ ha,E.all C hC,E.sp,fun u ru=>by cases (show u=fv D from ru);exact E.kit hC hD,c o H S _ _ Ex.refl hs (xB _) q2⟩
 ·exact⟨a,C,d,_,_,rfl,zG _ _ ha,E.all C hC,E.sp,fun u ru=>by cases (show u=ue "ValueError" from ru);exact E.kitV hC,c o H S _ _ Ex.refl hs (xB _) q2⟩
def xF:V->List V->Hp->VK->Prop:=fun x vs H Q=>∃bs:List Bool,Has H (.list (bs.map px)) x/\vs=[.bl true]/\Q (.int (bs.countP id)) H
theorem Dq{X:Cx}:MtR X "list.count" xF:=by
 intro zd s σ H x vs v us Q I rx rv h;obtain⟨bs,hl,rfl,q⟩:=h;obtain⟨u,rfl,r1⟩:=rv.one;cases (show u=rh true from r1);have cl:oy (.list (bs.map px))=true:=iz (kP (jG fun _ _=>(Aw:Shp 0 _))).ok;obtain⟨as,q2⟩:=Has.reads I (.list (bs.map px)) x v hl cl rx;cases q2 with
 | @list l o vs n xs as₁ h1 h2 h3 h4=>
  refine count_list_bools (vs:=vs.toList) ⟨o,h1,h2,n,by simpa using h3⟩ h4 (by simp[Shape.has]) ?_;refine⟨.int (bs.countP id),H,I.tok _,⟨s.toks,?_⟩,q⟩;have:∀bs:List Bool,countIn (.bool true) (bs.map px)=(bs.countP id:Int):=fun bs=>by
   induction bs with
   |nil=>rfl
   |cons b bs ih=>
    rw[kq,List.countP_cons];show (if same (.bool b) (.bool true)then (1:Int)else 0)+countIn (.bool true) (bs.map px)=_;rw[ih];cases b
    ·show (0:Int)+_=_;simp
    ·show (1:Int)+_=_;simp;omega
  rw[this]
def jQ:XV->List XV->Sto->RX->Prop:=fun x xs S R=>arg1 xs fun y=>y=.d (.bool true)/\∃ds,cC S x=some ds/\∃bs:List Bool,ds=bs.map px/\R (.d (.int (bs.countP id))) S
theorem Ff:RM xF jQ:=fun h o H S x v xs vs R Q hs hx aa q c=>by
 obtain⟨y,rfl,rfl,ds,e2,bs,rfl,q1⟩:=bO q;obtain⟨u,rfl,hu⟩:=hxs1 aa;have hl:Has H (.list (bs.map px)) v:=eX (x:=x) hs (by
  unfold cC at e2;split at e2
  ·cases e2;rfl
  ·rename_i k;show (S[k]?).map ug=_;rw[e2];rfl
  ·cases e2) hx
 cases i7 hu;exact⟨bs,hl,rfl,c o H S _ _ Ex.refl hs (xI _) q1⟩
def hZ(q:PN)(da:DA):DE:=fun δ S R=>da δ S fun xs S1=>∃C fs,xs=[.x C fs]/\q [.x C fs] [] (ret0 S1 R)
theorem hxE{h o:List Addr}{H:Hp}{C:Addr}{fs:List (Str×bv)}{v:V}(hx:HasX h o H (.x C fs) v):HasX (h++o) [] H (.x C fs) v:=by
 have e:vx (h++o) [] H=vx h o H:=gD fun b=>by simp
 show HasE (vx (h++o) [] H) C fs v;rw[e];exact hx
theorem vN{ps:List Str}{q:PN}{tl:TA}{dl:DA}(hp:ps.length=1)(ha:RA tl dl):RE (fH (spN ps q) [] E0 tl) (hZ q dl):=fun h o H δ σ S R Q he hs d c=>
 ha h o H δ σ S _ _ he hs d fun o1 H1 S1 xs vs e1 s1 x1 ⟨C,fs,y,d1⟩=>by
  subst y;obtain⟨v,rfl,hv⟩:=hxs1 x1;refine⟨by simp[hp],h++o1,[],[],[.x C fs],_,rep0 s1,⟨v,[],rfl,hxE hv,rfl⟩,d1,cn0 s1 (c.pre e1)⟩
end L2
namespace L2
open PySem PySem.Spec PyProof.Rows
section
abbrev EXD:=Addr->List (Str×bv)->Prop
abbrev PX:=List XV->Sto->RX->EXD->Prop
def CnX(h o:List Addr)(H:Hp)(EX:EXD)(E:XK):Prop:=∀o' H' S' C a fs,Ex o H o' H'->RepS h o' H' S'->HasE (vx h o' H') C fs (.ref a)->EX C fs->E (.ref C) (some a) H'
theorem CnX.pre{h o o':List Addr}{H H':Hp}{EX:EXD}{E:XK}(c:CnX h o H EX E)(e:Ex o H o' H'):CnX h o' H' EX E:=fun o2 H2 S2 C a fs e2=>c o2 H2 S2 C a fs (e.trans e2)
def RSx(E:XK)(EX:EXD)(t:TS)(dt:DS):Prop:=∀(h o:List Addr) (H:Hp) (δ:XE) (σ:St) (S:Sto) (En:DEnds) (D:Ends),RepE h o H δ σ->RepS h o H S->dt En δ S->EOk h o H En D->CnX h o H EX E->t D σ H
section
variable {E:XK}{EX:EXD}{t u:TS}{dt du:DS}
theorem qP(ht:RS t dt):RSx E EX t dt:=fun h o H δ σ S En D he hs q c _=>ht h o H δ σ S En D he hs q c
theorem tN(ht:RSx E EX t dt)(hu:RSx E EX u du):RSx E EX (e9 t u) (aA dt du):=fun h o H δ σ S En D he hs q c x=>
 ht h o H δ σ S _ _ he hs q ⟨fun o1 H1 δ1 S1 σ1 e1 y aa q1=>hu h o1 H1 δ1 σ1 S1 En D y aa q1 (c.pre e1) (x.pre e1),c.rt,c.bk,c.ct⟩ x
def i3(EX:EXD)(C:Addr):DS:=fun _ _ _=>EX C []
theorem Iy{C:Addr}:RSx E EX (vJ E C) (i3 EX C):=fun h o H δ σ S En D he hs q c x a ha=>by
 have sU:Same H (upd H a (exO a C none)):=Same.laid ha;have fr:=hs.fresh ha;exact x o _ S C a [] (Ex.of_same sU) (hs.same sU) ⟨a,none,rfl,zW.mpr ⟨fr.1,fr.2,cP⟩,fun f dt z=>by cases z⟩ q
end
def spX(ps:List Str)(q:PX):Sp:=fun vs H Q E=>vs.length=ps.length/\∃h o S xs R EX,RepS h o H S/\HasXs h o H xs vs/\q xs S R EX/\Cn h o H R Q/\CnX h o H EX E
structure DfX(P:fq)(w:gw)(K:cw)(mg:Str->Option bo)(base:Heap)(x:Str)(ps:List Str)(k:Nat)(sp:Sp):Prop where
 ex:∃f fd,FnOk P w K mg base (CX1 P w) k f fd ps sp/\mg x=some (.ref f)/\W.keepIn K (.ref f)=true/\Binds K fd ps []
section
variable {P:fq}{w:gw}{K:cw}{mg:Str->Option bo}{base:Heap}{x:Str}{st:Stmt}{N ps:List Str}{k:Nat}
theorem DfX.dN{q:PX}(D:Dd K mg x st ps)(S:FnScope N ps (zh st))(n:Nat)(hn:N.length=ps.length+n)
  (hbody:∀(f:Addr) (y:bo) (A:gh) (outer:List Env) (s:bq) (H:Hp) (E:XK) (EX:EXD),Room k (A.deeper (kc x (zh st) s.heap.objs.size f y)) ->
   ∃t dt,PSs (b9 (CX1 P w) P w K mg base N x (zh st) f y A outer s H E) (cV st) t/\RSx E EX t dt/\∀xs S R,q xs S R EX->dt (aG S.length R) (xs.map some++bu n none) S):DfX P w K mg base x ps (k+1) (spX ps q):=by
 obtain⟨f,fd,F,hm,hb⟩:=D.ex;have kp:=F.kp;obtain⟨oc,od,kV,af,pm,an,y,ct,ae,rfl,lk,ac⟩:=F.ex;refine⟨f,_,y9 lk ac S (fun vs H Q E h=>h.1) fun A outer s H vs Q E hr ⟨hl,h,o,S',xs,R,EX,aa,hx,hq,c,cx⟩=>?_,hm,kp,hb⟩;obtain⟨t,dt,h1,h2,h3⟩:=hbody f y A outer s H E EX hr;refine⟨t,h1,h2 h o H _ _ S' _ _ ?_ aa (h3 xs S' R hq) (eok aa c) cx⟩;have e:N.length-vs.length=n:=yw
 unfold start;rw[e];exact tR hx
end
def FF(sp:Sp)(t:TA):XK->TE:=fun Ex σ H Q=>t σ H fun vs H1=>sp vs H1 Q Ex
theorem w6{X:Cx}{q:PX}{x:Str}{ps:List Str}{k j:Nat}{pos pos':Pos}{e:Expr}{es:List Expr}{t:TA}(D:DfX X.prog X.w X.K X.mg X.base x ps k (spX ps q))(hr:Room j X.A)(hk:k<=j)(hx:∀e s,X.xe e s->False)(ha:PA X (e::es) t)(hg:Gl X x:=by rfl)(y:(x==("__debug__":Str))=false:=by decide)
  (q1:fc (e::es) X.env=(false,eval e X.env)::fc es X.env:=by rfl) (q2:((kj pos (fc es X.env)).any fun x=>x.fst)=false:=by rfl):PEX X (.Call (.Name x pos') (e::es) [] pos) (FF (spX ps q) t):=by
 obtain⟨f,fd,F,hm,kp,hb⟩:=D.ex;exact E8 hx F (hr.mono hk) hg hm kp hb ha y q1 q2
theorem yA{X:Cx}{z:Str}{k1 k2:Nat}{p1 pos:Pos}{e:Expr}{tx:XK->TE}(hx:∀e s,X.xe e s->False)(he:PEX X e tx)
  (hs1:fc [.Constant (.str z) k1 p1,e] X.env=(false,eval (.Constant (.str z) k1 p1) X.env)::fc [e] X.env:=by rfl) (hs2:fc [e] X.env=[(false,eval e X.env)]:=by rfl):
  PEX X (.Tuple [.Constant (.str z) k1 p1,e] k2 pos) (fun Ex σ H Q=>tx Ex σ H fun v H1=>∀p,H1 p=none->Q (.ref p) (upd H1 p (.tup [.str z,v]))):=by
 intro zd s σ H Q Ex E' I h hX;refine wpAny_Tuple_spliced ?_;rw[hs1];show cv _ _ (spliced ((false,eval (.Constant (.str z) k1 p1) X.env)::kj pos (fc [e] X.env))) _ _ s;refine Calls.spliced_cons (kl (cQ (X:=X) (x:=z) zd s σ H (fun v H1=>v=.str z/\H1=H) I ⟨rfl,rfl⟩) (fun u s1 ⟨x,H1,I1,r1,e1,e2⟩=>?_) fun _ _ z=>(hx _ _ z).elim);subst e1 e2;rw[hs2];show cv _ _ (spliced [(false,eval e X.env)]) _ _ s1;refine Calls.spliced_cons (thn (he zd s1 σ _ _ Ex E' I1 h hX) fun u2 s2 ⟨y,H2,I2,r2,q2⟩=>Calls.spliced_nil ?_);refine⟨by show 2<=fh;decide,?_⟩;have hf:H2 s2.heap.objs.size=none:=I2.hok.fresh (dw _);refine⟨.ref s2.heap.objs.size,upd H2 s2.heap.objs.size (.tup [.str z,y]),I2.laid (t':=s2.toks) (fun b u e=>bx _ e) (dw _) ?_,rfl,q2 _ hf⟩;exact⟨⟨by show 2<=fh;decide,_,ff _ rfl,rfl⟩,[u,u2],.cons r1 (.cons r2 .nil),⟨_,ff _ rfl,rfl,_,rfl⟩⟩
end
section
def KnOk(kn:DEnds->XE->RX)(kt:Ends->St->VK):Prop:=∀(h o:List Addr) (H:Hp) (δ:XE) (σ:St) (En:DEnds) (D:Ends),RepE h o H δ σ->EOk h o H En D->Cn h o H (kn En δ) (kt D σ)
theorem hxs00{h o:List Addr}{H:Hp}:∀{es:List bv}{vs:List V},HasXs h o H (es.map XV.d) vs->HasXs (h++o) [] H (es.map XV.d) vs
 | [],_,q=>q
 |d::ds,vs,⟨v,r,e,hv,l⟩=>⟨v,r,e,hx0 hv,hxs00 l⟩
def knT(z:Str):DEnds->XE->RX:=fun En _ y S2=>asD y fun d=>En.rt (.d (.tuple [.str z,d])) S2
theorem BD{z:Str}:KnOk (knT z) (fun D _ v H1=>∀p,H1 p=none->D.rt (.ref p) (upd H1 p (.tup [.str z,v]))):=fun h o H δ σ En D he c o' H' S' x v e hs hx q=>by
 obtain⟨d,rfl,q⟩:=j8 q;exact jB hs (zn.mpr ⟨_,_,rfl,(fD (H:=vx h o' H')).mpr rfl,zn.mpr ⟨_,_,rfl,hx,zx.mpr rfl⟩⟩) (c.pre e).rt q
theorem IF:iy "ValueError" = some (.type "ValueError"):=by decide +kernel
end
end L2
namespace L2
open PySem PySem.Spec PySem.Calls PyProof.Rows
def del(H:Hp)(a:Addr):Hp:=fun b=>if b=a then none else H b
end L2
namespace L2
open PySem PySem.Spec PyProof.Rows
section
def lU(EX:EXD)(C:Addr)(ns:List Str)(da:DA):DS:=fun _ δ S=>da δ S fun xs _=>∃ds,datas xs=some ds/\ds.length=ns.length/\EX C (ns.zip ds)
end
end L2
namespace L2
open PySem PySem.Spec PyProof.Rows
section
def CP(o:Obj):Bool:=match o.data with
 | .dict es _=>es.toList.all fun e=>match e.key with | .str _ _=>true|_=>false
 |_=>false
theorem Hu{K:cw}{N:Addr}{o:Obj}(l:K.lookup N=some o)(h:CP o=true):W.nsOkIn K N=true:=by
 unfold W.nsOkIn;rw[l];obtain⟨a,b,c,d⟩:=o;cases c with
 |dict es n=>
  show (es.all fun e=>match e.key with | .str _ _=>true|_=>false)=true;rw[<- Array.all_toList];exact h
 |_=>cases h
theorem exc_ofI{K:cw}{C N fI:Addr}{nm qn:Str}{bs:List bo}{hd:Bool}{sn:List Str}{sub:List bo}{ab:Bool}{col:Option Bool}{dd:Option Addr}{k0 k1 k2 k3 k5:Option bo}
  (l:K.lookup C=some (excClassObj nm qn C N bs (.ref 65::veB) hd sn sub ab col dd k0 k1 k2 k3 k5 "ValueError.__new__")) {oN:Obj} (lN:K.lookup N=some oN) (sN:CP oN=true) (i:W.nsIn K N "__init__" = some (some (.ref fI))) (G:ExCls K 65 none):ExCls K C (some (.ref fI)):=by
 have ok:=Hu lN sN;refine⟨fun h X=>?_,?_,?_⟩
 ·obtain⟨ao,NG,aj,al,ai,ag,an,af,am,ae,ah,j0,j1,j2,j3,j5,ak,hG,ac,aa,_,_⟩:=G.ob h X;have y:h.Ns N (h.nsMap N):=.of_isNs (W.isNs_of_in X ok);refine⟨.ref 65::veB,N,nm,qn,bs,hd,sn,sub,ab,col,dd,k0,k1,k2,k3,k5,h.nsMap N,X _ _ l,y,Ed X y i,.own hG ac aa .base,fun D=>?_⟩;unfold W.mroIn W.clsIn;rw[l];rfl
 ·unfold W.clsIn;rw[l];rfl
 ·show Option.map (fun x:Obj=>x.cls) (K.lookup C)=_;rw[l];rfl
end
section
abbrev Phi:=List Addr->List Addr->Hp->Prop
class Stb (Φ:Phi):Prop where
 st:∀{h o o':List Addr}{H H':Hp},Φ h o H->Ex o H o' H'->Φ h o' H'
def PhX(E:XK)(EX:EXD):Phi:=fun h o H=>CnX h o H EX E
instance {E:XK}{EX:EXD}:Stb (PhX E EX):=⟨fun x e=>CnX.pre x e⟩
def REp(Φ:Phi)(t:TE)(dt:DE):Prop:=∀(h o:List Addr) (H:Hp) (δ:XE) (σ:St) (S:Sto) (R:RX) (Q:VK),RepE h o H δ σ->RepS h o H S->dt δ S R->Cn h o H R Q->Φ h o H->t σ H Q
def RTp(Φ:Phi)(t:TT)(dt:DT):Prop:=∀(h o:List Addr) (H:Hp) (δ:XE) (σ:St) (S:Sto) (R:Bool->Sto->Prop) (Q:Bool->Hp->Prop),RepE h o H δ σ->RepS h o H S->dt δ S R ->
 (∀o' H' S' b,Ex o H o' H'->RepS h o' H' S'->R b S'->Q b H')->Φ h o H->t σ H Q
def RAp(Φ:Phi)(t:TA)(dt:DA):Prop:=∀(h o:List Addr) (H:Hp) (δ:XE) (σ:St) (S:Sto) (R:List XV->Sto->Prop) (Q:List V->Hp->Prop),RepE h o H δ σ->RepS h o H S->dt δ S R ->
 (∀o' H' S' xs vs,Ex o H o' H'->RepS h o' H' S'->HasXs h o' H' xs vs->R xs S'->Q vs H')->Φ h o H->t σ H Q
section
variable {Φ:Phi} [Stb Φ] {ta tb te:TE}{da db de:DE}{tl:TA}{dl:DA}{tt tu:TT}{dt du:DT}
theorem Fw(a:RT tt dt):RTp Φ tt dt:=fun h o H δ σ S R Q he hs q c _=>a h o H δ σ S R Q he hs q c
theorem A8(a:RA tl dl):RAp Φ tl dl:=fun h o H δ σ S R Q he hs q c _=>a h o H δ σ S R Q he hs q c
end
section
variable {E:XK}{EX:EXD}{ta tb te:TE}{da db de:DE}{tl:TA}{dl:DA}{tt tu:TT}{dt du:DT}
def gR(EX:EXD)(m:Nat)(q:PX)(da:DA):DE:=fun δ S R=>da δ S fun xs S1=>∃ds,datas xs=some ds/\ds.length=m/\q (ds.map XV.d) [] (ret0 S1 R) EX
theorem CnX.out{h o:List Addr}{H:Hp}{S:Sto}(hs:RepS h o H S)(x:CnX h o H EX E):CnX (h++o) [] H EX E:=fun o' H' S' C a fs e' s' hE q=>by
 have sH:Same H H':=fun b u eb=>(e'.kp b u yv eb).2;have sv:Same (vx (h++o) o' H') (vx h o H'):=fun b u eb=>by
  obtain⟨n1,n2,n3⟩:=zW.mp eb;exact zW.mpr ⟨fun z=>n1 (jo _ z),fun z=>n1 (gq _ z),n3⟩
 exact x o H' S C a fs (Ex.of_same sH) (hs.same sH) (HasE.mono sv hE) q
theorem yU{ps:List Str}{q:PX}{m:Nat}(ha:RAp (PhX E EX) tl dl)(hm:ps.length=m:=by rfl):REp (PhX E EX) (fH (spX ps q) [] E tl) (gR EX m q dl):=fun h o H δ σ S R Q he hs w c x=>
 ha h o H δ σ S _ _ he hs w (fun o1 H1 S1 xs vs e1 s1 x1 ⟨ds,e,hl,d1⟩=>by
  have ex:=eP e;subst ex;have hv:=x1.len;rw[km];exact⟨by rw[hv,fj,hl,hm],h++o1,[],[],_,_,EX,rep0 s1,hxs0 x1,d1,cn0 s1 (c.pre e1),(x.pre e1).out s1⟩) x
theorem wF{g:TG}{dg:DG}(ha:REp (PhX E EX) te de)(hg:RG g dg):RSx E EX (j6 te g) (aC de dg):=fun h o H δ σ S En D he hs q c x=>
 ha h o H δ σ S _ _ he hs q (fun o1 H1 S1 y v e1 s1 x1 d1=>hg h o1 H1 δ σ S1 y v _ _ (he.mono e1) s1 x1 d1 (c.nx.pre e1)) x
theorem EE{t u:TS}{ds dv:DS}(hc:RTp (PhX E EX) tt dt)(ht:RSx E EX t ds)(hu:RSx E EX u dv):RSx E EX (iZ tt t u) (aI dt ds dv):=fun h o H δ σ S En D he hs q c x=>
 hc h o H δ σ S _ _ he hs q (fun o1 H1 S1 b e1 s1 d1=>by
  cases b with
  |true=>exact gH (ht h o1 H1 δ σ S1 En D (he.mono e1) s1 (by simpa using d1) (c.pre e1) (x.pre e1))
  |false=>exact gV (hu h o1 H1 δ σ S1 En D (he.mono e1) s1 (by simpa using d1) (c.pre e1) (x.pre e1))) x
end
section
variable {X:Cx}{E:XK}
theorem AK{x:Str}{ps:List Str}{k j:Nat}{pos pos':Pos}{e:Expr}{es:List Expr}{t:TA}{q:PX}(D:DfX X.prog X.w X.K X.mg X.base x ps k (spX ps q))(hp:Passes (CX1 X.prog X.w) X E)(hr:Room j X.A)(hk:k<=j)(ha:PA X (e::es) t)(hg:Gl X x:=by rfl)(y:(x==("__debug__":Str))=false:=by decide)
  (q1:fc (e::es) X.env=(false,eval e X.env)::fc es X.env:=by rfl) (q2:((kj pos (fc es X.env)).any fun x=>x.fst)=false:=by rfl):PE X (.Call (.Name x pos') (e::es) [] pos) (fH (spX ps q) [] E t):=by
 obtain⟨f,fd,F,hm,kp,hb⟩:=D.ex;exact tP (dvs:=[]) (ds:=[]) (E:=E) F (hr.mono hk) hg hm kp hb .nil hp ha y q1 q2
end
def uI(N P:List Str)(sc:Scope):Bool:=decide (sc.kind=.function)&&!sc.isCoroutine&&!sc.isGenerator&&decide N.Nodup&&decide (N.take P.length=P)&&P.all (fun x=>decide (sc.names.lookup x=some .local)||decide (sc.names.lookup x=some .cell))&&sc.names.all fun y=>decide (y.2≠.free)
theorem fsc{N P:List Str}{sc:Scope}(h:uI N P sc=true):FnScope N P sc:=by
 simp only[uI,ki,decide_eq_true_eq,Bool.not_eq_true',nq,Bool.or_eq_true]at h;obtain⟨⟨⟨⟨⟨⟨h1,h2⟩,h3⟩,h4⟩,h5⟩,h6⟩,h7⟩:=h;exact⟨h1,h2,h3,h4,h5,h6,h7⟩
end
section
section
variable {κ α:Type} [DecidableEq κ]
def lkA(m:List (κ×α))(k:κ):Option α:=(m.find? fun p=>decide (p.1=k)).map (·.2)
def ptA(m:List (κ×α))(k:κ)(v:α):List (κ×α):=if (m.any fun p=>decide (p.1=k))=true then m.map (fun p=>if p.1=k then (p.1,v)else p)else m++[(k,v)]
end
inductive KSg where
 |int|bool|many (s:KSg)|two (s t:KSg)
def KG:KSg->Type
 | .int=>Int
 | .bool=>Bool
 | .many s=>List (KG s)
 | .two s t=>KG s×KG t
instance decKG:(s:KSg)->DecidableEq (KG s)
 | .int=>inferInstanceAs (DecidableEq Int)
 | .bool=>inferInstanceAs (DecidableEq Bool)
 | .many s=>have:=decKG s;inferInstanceAs (DecidableEq (List (KG s)))
 | .two s t=>have:=decKG s;have:=decKG t;inferInstanceAs (DecidableEq (KG s×KG t))
def kdat:(g:KSg)->KG g->bv
 | .int,i=>.int i
 | .bool,b=>.bool b
 | .many g,ks=>.tuple (List.map (kdat g) ks)
 | .two g g',k=>.tuple [kdat g k.1,kdat g' k.2]
inductive DD where
 |k (m:List (Key×bv))
 |t (m:List (List Key×bv))
 |g (g:KSg) (ob:Obj) (m:List (KG g×bv))
def DD.pairs:DD->List (bv×bv)
 | .k m=>m.map fun p=>(kD p.1,p.2)
 | .t m=>m.map fun p=>(.tuple (p.1.map kD),p.2)
 | .g sg _ m=>m.map fun p=>(kdat sg p.1,p.2)
def GD:bv->Option Key
 | .int i=>some (.inl i)
 | .str x=>some (.inr x)
 |_=>none
abbrev DM:=List (Addr×DD)
def ad(M:DM):List Addr:=M.map (·.1)
section
variable {h o o':List Addr}{H H':Hp}{M:DM}{S:Sto}
def Gw(M:DM)(a:Addr)(D:DD):DM:=M.map fun p=>if p.1=a then (a,D)else p
end
end
section
structure DEndsM where
 nx:XE->Sto->DM->Prop
 rt:XV->Sto->DM->Prop
 bk:XE->Sto->DM->Prop:=fun _ _ _=>False
 ct:XE->Sto->DM->Prop:=fun _ _ _=>False
abbrev DSm:=DEndsM->XE->Sto->DM->Prop
def oE(dt:DS):DSm:=fun En δ S M=>dt { nx:=fun δ' S'=>En.nx δ' S' M,rt:=fun x S'=>En.rt x S' M,bk:=fun δ' S'=>En.bk δ' S' M,ct:=fun δ' S'=>En.ct δ' S' M } δ S
def lI(c:DM->DT)(t u:DSm):DSm:=fun En δ S M=>c M δ S fun b S1=>if b=true then t En δ S1 M else u En δ S1 M
def tJ(g:DG)(b:DSm):List bv->DSm
 | [],E,δ,S,M=>E.nx δ S M
 |d::ds,E,δ,S,M=>g (.d d) δ S fun δ1 S1=>b { nx:=fun δ2 S2 M2=>tJ g b ds E δ2 S2 M2,ct:=fun δ2 S2 M2=>tJ g b ds E δ2 S2 M2,bk:=E.nx,rt:=E.rt } δ1 S1 M
def nI(i:DM->DI)(g:DG)(b:DSm):DSm:=fun En δ S M=>i M δ S fun ds S1=>tJ g b ds En δ S1 M
end
section
def Fn(a:Addr)(m:List (Key×bv)):XV->XV
 | .o (.ref b)=>if b=a then .d (.dict (DD.pairs (.k m)))else .o (.ref b)
 |x=>x
def l8(f:Bool)(i:Nat)(D0:DD)(b:DSm):DSm:=fun En δ S M=>∀a,a∉ad M->b { nx:=(fun δ' S' M'=>if f=true then (∃M1 m,M'=M1++[(a,.k m)]/\δ'[i]?=some (some (.o (.ref a)))/\En.nx (δ'.map (Option.map (Fn a m))) S' M1)else (∃M1 D,M'=M1++[(a,D)]/\En.nx δ' S' M1)),rt:=(fun x S' M'=>∃M1 D,M'=M1++[(a,D)]/\En.rt x S' M1),bk:=(fun δ' S' M'=>∃M1 D,M'=M1++[(a,D)]/\En.bk δ' S' M1),ct:=(fun δ' S' M'=>∃M1 D,M'=M1++[(a,D)]/\En.ct δ' S' M1) } (δ.set i (some (.o (.ref a)))) S (M++[(a,D0)])
section
variable {E:XK}{EX:EXD}{tb:TS}{db:DSm}{i:Nat}
def k6(dt:DSm):DS:=fun En δ S=>dt { nx:=fun δ' S' _=>En.nx δ' S',rt:=fun x S' _=>En.rt x S',bk:=fun δ' S' _=>En.bk δ' S',ct:=fun δ' S' _=>En.ct δ' S' } δ S []
end
end
end L2
namespace L2
open PySem PySem.Spec PySem.Calls PyProof.Rows
def DD.itemsD(m:List (Key×bv)):List bv:=m.map fun p=>.tuple [kD p.1,p.2]
def lX(e:DE):DI:=fun δ S R=>e δ S fun x S1=>∃m,x=.d (.dict (DD.pairs (.k m)))/\R (DD.itemsD m) S1
end L2
namespace L2
open PySem PySem.Spec PyProof.Rows
section
section
variable {X:Cx}{zd:List (Addr×Obj)}{σ:St}{H:Hp}{s:bq}{a:Addr}
theorem Inv.goneAt{h':Heap}{n:Str}{i:Nat}{m:Str->Option bo}{v:Option bo}{t':Nat}(I:Inv X zd σ H s)(hN:X.N.Nodup)(hi:X.N[i]?=some n)(hl:X.env.kindOf n=some .local)(hm:s.heap.Ns X.env.locals m)
  (hv:∀(i:Nat) (x:Str) (v:V),X.N[i]?=some x->σ[i]?=some (some v)->Vis X.env.scope x->∃u,RelV v u/\Look X.env s.heap m x u) (hn:h'.Ns X.env.locals (fun x=>if x=n then v else m x)) (sb:jm X.env.locals s.heap h'):Inv X zd (σ.set i none) H { s with heap:=h',toks:=t' }:=by
 have ne:∀b o,X.s₀.heap.get? b=some o->b≠X.env.locals:=fun b o e=>ic (ix (fw e) I.ok.above);refine⟨I.ok,I.os,I.bare,⟨fun b o e n hb hx=>?_,fun b o e n hb hx=>?_,I.base.free,fun b o e hx=>?_,I.base.tups,I.base.frzs,I.base.tbls⟩,⟨_,hn,fun j x w e1 e2 e3=>?_⟩,fun x c e=>?_,I.free,I.freeC,fun p hp=>?_,I.hok.stays fun b u e o q=>?_,by rw[length_set];exact I.len⟩
 ·exact(sb.2 b (ne b o e)).trans (I.base.keep b o e n hb hx)
 ·obtain⟨sl,q⟩:=I.base.slot b o e n hb hx;exact⟨sl,(sb.2 b (ne b o e)).trans q⟩
 ·obtain⟨o',q⟩:=I.base.there b o e hx;exact⟨o',(sb.2 b (ne b o e)).trans q⟩
 ·rw[getElem?_set]at e2;by_cases hij:i=j
  ·rw[cu hij]at e2;split at e2<;>cases e2
  ·rw[cn hij]at e2;have xn:x≠n:=fun z=>hij ((List.getElem?_inj (List.getElem?_eq_some_iff.mp hi).1 hN).mp (by rw[hi,e1,z]));obtain⟨u,r,l⟩:=hv j x w e1 e2 e3;refine⟨u,r,?_⟩;rcases l with ⟨k1,k2⟩|⟨k1,c,k2,k3⟩
   ·exact .inl ⟨k1,by show (if x=n then v else m x)=_;rw[cn xn];exact k2⟩
   ·refine .inr ⟨k1,c,k2,?_⟩;obtain⟨o,ho,hd⟩:=k3;exact⟨o,(sb.2 c (I.cne x c k2)).trans ho,hd⟩
 ·obtain⟨v,o,ho,hd⟩:=I.cell x c e;exact⟨v,o,(sb.2 c (I.cne x c e)).trans ho,hd⟩
 ·obtain⟨e,n,y,nf,d⟩:=I.pin p hp;exact⟨(sb.2 _ y).trans e,n,y,nf,d⟩
 ·refine(sb.2 b ?_).trans q;rintro rfl;rw[I.free]at e;cases e
end
section
variable {X:Cx}{G n:Str}{gp hpos pos:Pos}{i:Nat}{b₀ st:Stmt}{suite:List Stmt}{GA:Addr}{iniG:Option bo}{tb:XK->TS}{ts:TS}
def xJ(K:cw)(GA:Addr)(i:Nat)(ts:TS)(D:Ends)(σ:St):XK:=fun cls a H'=>∃C b ini,cls=.ref C/\a=some b/\ExCls K C ini/\W.mroIn K C (.ref GA)=some true /\
 ts { nx:=fun σ' H2=>D.nx (σ'.set i none) H2,rt:=D.rt } (σ.set i (some (.ref b))) H'
def i8(K:cw)(GA:Addr)(i:Nat)(tb:XK->TS)(ts:TS):TS:=fun D σ H=>tb (xJ K GA i ts D σ) D σ H
end
def gW(kn:DEnds->XE->RX)(m:Nat)(q:PX)(da:DA)(i:Nat)(hd:DS):DS:=fun En δ S=>da δ S fun xs S1=>∃ds,datas xs=some ds/\ds.length=m /\
 q (ds.map XV.d) [] (ret0 S1 (kn En δ)) fun C fs=>C∈excs/\hd { nx:=fun δ' S'=>En.nx (δ'.set i none) S',rt:=En.rt } (δ.set i (some (.x C fs))) S1
theorem RepE.unset{h o:List Addr}{H:Hp}{δ:XE}{σ:St}{i:Nat}(r:RepE h o H δ σ):RepE h o H (δ.set i none) (σ.set i none):=by
 refine⟨by simp[r.len],fun j y e=>?_⟩;rw[getElem?_set]at e ⊢;by_cases hij:i=j
 ·rw[cu hij]at e;split at e<;>cases e
 ·rw[cn hij]at e ⊢;exact r.get j y e
theorem xK{K:cw}{i m:Nat}{ps:List Str}{q:PX}{tl:TA}{dl:DA}{ts:TS}{ds:DS}{kn:DEnds->XE->RX}{kt:Ends->St->VK}{tb:XK->TS}(X0:Exs K)(hm:ps.length=m)(ae:KnOk kn kt)(y:∀Ex D σ H,tb Ex D σ H=(tl σ H fun vs H1=>spX ps q vs H1 (kt D σ) Ex))(ha:RA tl dl)(ag:RS ts ds):
  RS (i8 K 65 i tb ts) (gW kn m q dl i ds):=fun h o H δ σ S En D he hs d c=>by
 show tb (xJ K 65 i ts D σ) D σ H;rw[y];refine ha h o H δ σ S _ _ he hs d fun o1 H1 S1 xs vs e1 s1 x1 ⟨es,aa,hl,d1⟩=>?_;have ah:=eP aa;subst ah;refine⟨by rw[x1.len,fj,hl,hm],h++o1,[],[],es.map XV.d,_,_,rep0 s1,hxs00 x1,d1,cn0 s1 (ae h o1 H1 δ σ En D (he.mono e1) (c.pre e1)),?_⟩;intro o' H' S' C a fs e' s' hE ⟨hC,hh⟩;have EC:=X0.all C hC;obtain⟨ini,qC⟩:=X0.ci C hC;refine⟨C,a,ini,rfl,rfl,qC,(EC.mroIn _).trans (by simp[exM]),?_⟩;have sH:Same H1 H':=fun b u eb=>(e'.kp b u yv eb).2;have e2:Ex o1 H1 o1 H':=Ex.of_same sH;have sv:Same (vx (h++o1) o' H') (vx h o1 H'):=fun b u eb=>by
  obtain⟨n1,n2,n3⟩:=zW.mp eb;exact zW.mpr ⟨fun z=>n1 (jo _ z),fun z=>n1 (gq _ z),n3⟩
 have cc:=c.pre (e1.trans e2);exact ag h o1 _ (δ.set i (some (.x C fs))) (σ.set i (some (.ref a))) S1 _ _ (((he.mono e1).mono e2).set (HasE.mono sv hE)) (s1.same sH) hh ⟨fun o3 H3 δ3 S3 σ3 e3 ac af n3=>cc.nx o3 H3 _ S3 _ e3 ac.unset af n3,cc.rt,fun _ _ _ _ _ _ _ _ z=>z.elim,fun _ _ _ _ _ _ _ _ z=>z.elim⟩
end
end L2
namespace HT
open PySem PyProof.Rows
section
open PySem.SeqAt
open PySem.AutoSeq1 (wpAny_loadPart')
open PySem.MeetsSeq PySem.MeetsSeq2 PySem.MeetsSeq3
theorem pV:∀{vs:List bo}{ns:List Int},jr vs ns->∀i,i<vs.length->∃a t,vs[i]?=some (.int a t)/\ns.drop i=a::ns.drop (i+1)
 |_,_,.nil,i,h=>by simp at h
 |_,_,.cons a t h,0,_=>⟨a,t,rfl,rfl⟩
 |_,_,.cons a t h,i+1,hi=>by
  obtain⟨b,u,e1,e2⟩:=pV h i (by simpa using hi);exact⟨b,u,by simpa using e1,by simpa using e2⟩
theorem G6(ms:List Int):lexLt [] ms=decide (0<ms.length):=by cases ms<;>simp[lexLt]
theorem Ec(l b:Addr)(items y:Array bo)(n n2:Nat)(dd ag:Option Addr)(sl af:Array (Option bo))(ns ms:List Int)(hi:jr items.toList ns)(hj:jr y.toList ms)(k:Nat):
  ∀i:Nat,items.size-i=k->i<=items.size->i<=y.size->Meets (nk.«list.__eq__.loop» ⟨[.ref l,.ref b,qj i,qj 0],[]⟩)
   (fun _ R s=>s.heap.get? l=some { cls:=.type "list",dict:=dd,data:=.seq items n,slots:=sl }/\s.heap.get? b=some { cls:=.type "list",dict:=ag,data:=.seq y n2,slots:=af } /\
    R (.ok (.ret (.bool (lexLt (ns.drop i) (ms.drop i))))) s):=by
 have z1:items.size=ns.length:=by rw[<- hi.length];simp
 have z2:y.size=ms.length:=by rw[<- hj.length];simp
 induction k with
 |zero=>
  intro i hk i1 i2 prog w A R s h;obtain⟨hp,g,d,tk,os⟩:=s;obtain⟨hl,hb,h⟩:=h
  wp_walk using wpAny_loadPart' hl,wpAny_loadPart' hb
  have ac:items[((i:Nat):Int).toNat]?=none:=by simp;omega
  have hd:ns.drop i=[]:=by simp;omega
  rw[hd,G6,rk]at h;have fin:R (.ok (.ret (.bool (decide (items.size<y.size))))) ⟨hp,g,d,tk,os⟩:=by
   rw[show decide (items.size<y.size)=decide (0<ms.length-i)from by rw[qv];simp only[decide_eq_true_eq];omega];exact h
  rw[ac];cases aa:y[((i:Nat):Int).toNat]? with
  |none=>
   wp_walk using wpAny_loadPart' hl,wpAny_loadPart' hb
   exact fin
  |some v=>
   wp_walk using wpAny_loadPart' hl,wpAny_loadPart' hb
   exact fin
 |succ k ih=>
  intro i hk i1 i2 prog w A R s h;obtain⟨hp,g,d,tk,os⟩:=s;obtain⟨hl,hb,h⟩:=h
  wp_walk using wpAny_loadPart' hl,wpAny_loadPart' hb
  have ah:i<items.size:=yw
  obtain⟨a,t,ea,da⟩:=pV hi i (by simpa using ah);have ac:items[((i:Nat):Int).toNat]?=some (.int a t):=by simpa using ea
  have hc:((i:Int)+1)=((i+1:Nat):Int):=by push_cast;rfl
  rw[ac];by_cases hlt2:i<y.size
  ·obtain⟨c,u,ec,dc⟩:=pV hj i (by simpa using hlt2);have aa:y[((i:Nat):Int).toNat]?=some (.int c u):=by simpa using ec
   rw[aa];rw[da,dc,lexLt_cons]at h;obtain⟨e,he,ae⟩:=Ay A.in1 ⟨hp,g,d,tk,os⟩ a t c u;refine bp (he prog w _ _ ?_);cases e with
   |true=>
    rw[cu (ae.mp rfl)]at h
    wp_walk
    rw[hc];exact⟨lq plain_eq_loop _,kh entry_eq_loop (by
     rw[jk plain_eq_loop _];exact ih (i+1) yw yw yw prog w A R _ ⟨hl,hb,h⟩)⟩
   |false=>
    rw[cn (fun q=>absurd (ae.mpr q) jc)]at h;have ai:=AY A.in1 ⟨hp,g,d,tk,os⟩ a t c u prog w
    wp_walk using wpAny_loadPart' hl,wpAny_loadPart' hb
    rw[ac,aa]
    wp_walk using ai
    simpa using h
  ·have aa:y[((i:Nat):Int).toNat]?=none:=by simp;omega
   have hd:ms.drop i=[]:=by simp;omega
   rw[da,hd,Fi]at h;rw[aa]
   wp_walk using wpAny_loadPart' hl,wpAny_loadPart' hb
   show R (.ok (.ret (.bool (decide (items.size<y.size))))) _;rw[gu yw];exact h
theorem IG(l b:Addr)(items y:Array bo)(n n2:Nat)(dd ac:Option Addr)(sl aa:Array (Option bo))(ns ms:List Int)(hi:jr items.toList ns)(hj:jr y.toList ms):
  Meets (nk.«list.__lt__» ⟨[.ref l,.ref b],[]⟩)
   (fun _ R s=>s.heap.get? l=some { cls:=.type "list",dict:=dd,data:=.seq items n,slots:=sl }/\s.heap.get? b=some { cls:=.type "list",dict:=ac,data:=.seq y n2,slots:=aa } /\
    R (.ok (.ret (.bool (lexLt ns ms)))) s):=by
 intro prog w A R s h;obtain⟨hp,g,d,tk,os⟩:=s;obtain⟨hl,hb,h⟩:=h;have f3:=AutoSeq1.sub_list_list
 wp_walk using wpAny_loadPart' hl,wpAny_loadPart' hb
 exact⟨lq plain_eq_loop _,kh entry_eq_loop (by
  rw[jk plain_eq_loop _];exact Ec l b items y n n2 dd ac sl aa ns ms hi hj _ 0 rfl (pf _) (pf _) prog w A R _ ⟨hl,hb,h⟩)⟩
def RcLtAt(A:gh)(s:bq)(y x:bo)(b:Bool):Prop:=
 ∀(prog:fq) (w:gw) (E:bo->bq->Prop) (Q:bo->bq->Prop),Q (.bool b) s->cv (model prog w) A (richCompare .Lt y x) Q E s
theorem lexLt_self:∀ns:List Int,lexLt ns ns=false
 | []=>rfl
 |x::xs=>by rw[lexLt_cons,cu rfl,lexLt_self xs]
theorem IC(l b:Addr)(n n2:Nat)(dd af:Option Addr)(sl ae:Array (Option bo))(a c:Int)(t u:Tok)(x y:bo)(ns ms:List Int):
  Meets (nk.«tuple.__lt__» ⟨[.ref l,.ref b],[]⟩)
   (fun A R s=>s.heap.get? l=some { cls:=.type "tuple",dict:=dd,data:=.seq #[.int a t,x] n,slots:=sl }/\s.heap.get? b=some { cls:=.type "tuple",dict:=af,data:=.seq #[.int c u,y] n2,slots:=ae } /\
    EqAt A.in1 s x y (decide (ns=ms))/\RcLtAt A.in1 s x y (lexLt ns ms)/\R (.ok (.ret (.bool (if a=c then lexLt ns ms else decide (a<c))))) s):=
 .of_wp fun prog w A R s h=>by
  obtain⟨hp,g,d,tk,os⟩:=s;obtain⟨hl,hb,hq,hr,h⟩:=h;have f2:=AutoSeq1.sub_tuple_tuple
  wp_walk using wpAny_loadPart' hl,wpAny_loadPart' hb,wpAny_forIn_list _ (fun rest b s'=>b.1=none/\s'=⟨hp,g,d,tk,os⟩ /\
   (rest=[(.int a t,.int c u),(x,y)]\/(rest=[(x,y)]/\R (.ok (.ret (.bool (lexLt ns ms)))) ⟨hp,g,d,tk,os⟩)\/(rest=[]/\R (.ok (.ret (.bool false))) ⟨hp,g,d,tk,os⟩))) _
  case turn=>
   rintro⟨y',x'⟩ rest b s' ⟨hb',rfl,hz|⟨hz,hR⟩|⟨hz,hR⟩⟩
   ·injection hz with hyx hrest
    injection hyx with hy hx
    subst hy hx;obtain⟨e,he,aa⟩:=Ay A.in1 ⟨hp,g,d,tk,os⟩ a t c u;refine bp (he prog w _ _ ?_);cases e with
    |true=>
     rw[cu (aa.mp rfl)]at h
     wp_walk
     exact⟨rfl,rfl,.inr (.inl ⟨hrest,h⟩)⟩
    |false=>
     rw[cn (fun q=>absurd (aa.mpr q) jc)]at h;have ac:=AY A.in1 ⟨hp,g,d,tk,os⟩ a t c u prog w
     wp_walk using ac
     exact⟨_,rfl,by simpa using h⟩
   ·injection hz with hyx hrest
    injection hyx with hy hx
    subst hy hx;refine bp (hq prog w _ _ ?_);by_cases hn:ns=ms
    ·rw[jh hn]
     wp_walk
     exact⟨rfl,rfl,.inr (.inr ⟨hrest,by rw[hn,lexLt_self]at hR;exact hR⟩)⟩
    ·rw[gu hn];have ac:=hr prog w
     wp_walk using ac
     exact⟨_,rfl,by simpa using hR⟩
   ·cases hz
  case fin=>
   rintro⟨b1,b2⟩ s' ⟨hb',rfl,hz|⟨hz,hR⟩|⟨hz,hR⟩⟩
   ·cases hz
   ·cases hz
   ·simp only at hb';subst hb'
    wp_walk
    exact⟨_,rfl,by simpa[Builtin.Tuple.tupleCompareSizes]using hR⟩
  case h=>
   exact⟨rfl,rfl,.inl rfl⟩
theorem CB{vs:Array bo}{ns:List Int}(h:jr vs.toList ns){i:Nat}(hi:i<vs.size):∃a t,vs[i]=.int a t/\ns[i]?=some a:=by
 obtain⟨a,t,e,d⟩:=pV h i (by simpa using hi);have e2:ns[i]?=some a:=by
  have:=congrArg (fun l=>l[0]?) d;simpa using this
 rw[qy,mn hi]at e;exact⟨a,t,gv e,e2⟩
theorem AV:∀{vs:List bo}{ns ms:List Int},jr vs ns->jr vs ms->ns=ms
 |_,_,_,.nil,.nil=>rfl
 |_,_,_,.cons a t h,.cons _ _ h'=>by rw[AV h h']
theorem Fb{A:gh}{s:bq}{x y:Addr}{items aa:Array bo}{ns ms:List Int}(hx:PlainL s.heap x items)(hy:PlainL s.heap y aa)(hi:jr items.toList ns)(hj:jr aa.toList ms)(hu:A.units<cLine):
  EqAt A s (.ref x) (.ref y) (decide (ns=ms)):=by
 have z1:items.size=ns.length:=by rw[<- hi.length];simp
 have z2:aa.size=ms.length:=by rw[<- hj.length];simp
 obtain⟨⟨cls,dd,data,sl⟩,n,ho,hc,hd,he⟩:=hx;obtain⟨⟨aj,ak,ai,ae⟩,n2,ac,ah,af,ag⟩:=hy;simp only at hc hd he ah af ag;subst hc hd he ah af ag;by_cases hne:x=y
 ·subst hne;rw[ho]at ac;cases ac;rw[jh (AV hi hj)];exact EqAt.same _
 ·refine EqAt.of_refs hne fun prog w E Q hq=>?_;by_cases hs:items.size=aa.size
  ·refine richCompare_meets_room (op:=.Eq) ⟨_,ho,rfl⟩ ⟨_,ac,rfl⟩ PySem.F.slot_list_eq PySem.F.entry_list_eq (PySem.F.args_list_eq_2 _ _) (list_eqAt x y items aa n n2 none none sl ae hs fun j=>decide (ns[j]?=ms[j]?))
    ⟨ho,ac,fun j h1 h2=>?_,show rh _≠qa/\Q (.bool _) s from⟨(fun x=>nomatch x),?_⟩⟩ hu
   ·obtain⟨a,t,e1,e2⟩:=CB hi h1;obtain⟨c,u,e3,e4⟩:=CB hj h2;rw[e1,e3,e2,e4];have:=EqAt.int_int (A:=A.in1) (s:=s) a t c u;rw[show decide (some a=some c)=(a==c)from by rw[qv];simp];exact this
   ·rw[show ((ir items.size).all fun j=>decide (ns[j]?=ms[j]?))=decide (ns=ms)from ?_]
    ·exact hq
    ·rw[qv,nq];simp only[mem_range,decide_eq_true_eq];constructor
     ·intro h;refine ext_getElem? fun j=>?_;by_cases hj':j<items.size
      ·exact h j hj'
      ·rw[lh yw,lh yw]
     ·rintro rfl j _;rfl
  ·refine richCompare_meets_room (op:=.Eq) ⟨_,ho,rfl⟩ ⟨_,ac,rfl⟩ PySem.F.slot_list_eq PySem.F.entry_list_eq (PySem.F.args_list_eq_2 _ _) (list_eq_lengthsAt x y items aa n n2 none none sl ae (by simpa using hs))
    ⟨ho,ac,show rh _≠qa/\Q (.bool _) s from⟨(fun x=>nomatch x),?_⟩⟩ hu
   rw[gu (fun z=>hs (by rw[z1,z2,z]))]at hq;exact hq
theorem Cp{A:gh}{s:bq}{x y:Addr}{items aa:Array bo}{ns ms:List Int}(hx:PlainL s.heap x items)(hy:PlainL s.heap y aa)(hi:jr items.toList ns)(hj:jr aa.toList ms)(hu:A.units<cLine):
  RcLtAt A s (.ref x) (.ref y) (lexLt ns ms):=by
 obtain⟨⟨cls,dd,data,sl⟩,n,ho,hc,hd,he⟩:=hx;obtain⟨⟨aj,ak,ah,ai⟩,n2,ac,ag,ae,af⟩:=hy;simp only at hc hd he ag ae af;subst hc hd he ag ae af;intro prog w E Q hq;exact richCompare_meets_room (op:=.Lt) ⟨_,ho,rfl⟩ ⟨_,ac,rfl⟩ PySem.F.slot_list_lt PySem.F.entry_list_lt (PySem.F.args_list_lt_2 _ _) (IG x y items aa n n2 none none sl ai ns ms hi hj)
  ⟨ho,ac,show rh _≠qa/\Q (.bool _) s from⟨(fun x=>nomatch x),hq⟩⟩ hu
theorem lt_tupIL{prog:fq}{w:gw}{A:gh}{E:bo->bq->Prop}{s:bq}{l b x y:Addr}{items aa:Array bo}{a c:Int}{t u:Tok}{ns ms:List Int}{Q:bo->bq->Prop}(hl:IsTup s.heap l #[.int a t,.ref x])(hb:IsTup s.heap b #[.int c u,.ref y])
  (hx:PlainL s.heap x items) (hy:PlainL s.heap y aa) (hi:jr items.toList ns) (hj:jr aa.toList ms) (hu:A.units+1<cLine) (h:Q (.bool (if a=c then lexLt ns ms else decide (a<c))) s):cv (model prog w) A (kx .Lt (.ref l) (.ref b)) Q E s:=by
 obtain⟨⟨cls,dd,data,sl⟩,ho,hc,n,hd⟩:=id hl;obtain⟨⟨aj,ai,ag,ah⟩,ac,af,n2,ae⟩:=id hb;simp only at hc hd af ae;subst hc hd af ae;exact richCompare_meets_room (op:=.Lt) ⟨_,ho,rfl⟩ ⟨_,ac,rfl⟩ PySem.F.slot_tuple_lt PySem.F.entry_tuple_lt (PySem.F.args_tuple_lt_2 _ _) (IC l b n n2 dd ai sl ah a c t u (.ref x) (.ref y) ns ms)
  ⟨ho,ac,Fb hx hy hi hj hu,Cp hx hy hi hj hu,show rh _≠qa/\Q (.bool _) s from⟨(fun x=>nomatch x),h⟩⟩ yw
end
end HT
namespace L2
open PySem PySem.Spec PyProof.Rows
section
def Itd(lo:Int)(n:Nat):It:=⟨fun i _=>i<n,fun i H x H'=>H'=H/\x=.int (lo-i),fun i _=>n<=i⟩
theorem Ig{P:fq}{w:gw}{K:cw}{tg:Expr}(it:Addr)(lo:Int)(n:Nat):Turn P w K tg (Itd lo n) [it] it (fun i h=>IsRangeIter h it (lo+(i:Nat)*(-1)) ((n:Int)-(i:Nat)) (-1)) where
 mem:=by simp
 obj:=fun i h st b hb=>by
  have e:b=it:=by simpa using hb
  subst e;exact⟨_,st,fun v z=>by
   have z':Data.fields _=Data.cell v:=z;cases z'⟩
 keep:=fun i h h' st k=>k it yv _ st
 item:=by
  intro X hP hw hK hc i zd s σ H E I hf st hg;subst hP hw hK;obtain⟨f0,f1,f2,f3,f4,f5⟩:=hf it yv;have W:=Walks.range (prog:=X.prog) (w:=X.w) (I.ok.hd hc) it lo (-1) n;refine W.item i s _ _ hg st fun v h' tk hv st' kk=>?_;obtain⟨t,rfl⟩:=hv;have I1:Inv X zd σ H { s with heap:=h',toks:=tk }:=I.turned (fun b o hb e=>kk b o (by simpa using hb) e) f0 f1 f3 f4 f5;refine⟨_,rfl,lT (s:={ s with heap:=h',toks:=tk }) (n:="range_iterator") st' rfl rfl dz ⟨.int (lo-i),H,I1,⟨t,?_⟩,⟨rfl,rfl⟩,st',fun b hb=>(hf b hb).1⟩⟩;rw[show lo+(i:Int)*(-1)=lo-i by omega]
 done:=by
  intro X hP hw hK hc i zd s σ H E I hf st hg;subst hP hw hK;obtain⟨f0,f1,f2,f3,f4,f5⟩:=hf it yv;exact wpAny_pyNext_range_end (I.ok.hd hc) st (by have:n<=i:=hg;omega) fun h' eb=>⟨rfl,I.turned (t':=s.toks) (fun b o hb e=>eb b o hb e) f0 f1 f3 f4 f5⟩
 self:=fun _ _ _ _ _ st h=>wpAny_pyIter_rangeiter st h
section
variable {X:Cx}{tg:Expr}
theorem IV{zd:List (Addr×Obj)}{σ:St}{H:Hp}{s:bq}{R:It->Hp->Prop}{E:bo->bq->Prop}{lo hi:Int}{t u v:Tok}{tk:Nat}(I:Inv X zd σ H s)(h1:-1000<=lo/\lo<=1000)(h2:-1000<=hi/\hi<=1000)
  (q:R (Itd lo (lo-hi).toNat) H):cv (model X.prog X.w) X.A (pyIter (.ref s.heap.objs.size)) (PIE X zd σ tg R) E { s with heap:=s.heap.push { cls:=.type "range",data:=.fields #[.int lo t,.int hi u,.int (-1) v] },toks:=tk }:=by
 have I1:Inv X zd σ H { s with heap:=s.heap.push { cls:=.type "range",data:=.fields #[.int lo t,.int hi u,.int (-1) v] },toks:=tk }:=I.kept fun b o e=>bx _ e;have e1:lo+((0:Nat):Int)*(-1)=lo:=by simp
 have e2:(((lo-hi).toNat:Nat):Int)-((0:Nat):Int)=Builtin.Range.rangeSize lo hi (-1):=by
  unfold Builtin.Range.rangeSize;rw[cn dz];split
  ·rw[show (- -1:Int)=1 by decide,Int.ediv_one];omega
  ·omega
 have y:Builtin.Range.small lo hi (-1)=true:=by
  unfold Builtin.Range.small;rw[<- e2,cn dz];simp only[Builtin.Range.rangeFitsLong,ki,Bool.or_eq_true,decide_eq_true_eq,beq_iff_eq];omega
 refine wpAny_pyIter_range (IsRange.new ..) y ?_;refine⟨(s.heap.push { cls:=.type "range",data:=.fields #[.int lo t,.int hi u,.int (-1) v] }).objs.size,[(s.heap.push { cls:=.type "range",data:=.fields #[.int lo t,.int hi u,.int (-1) v] }).objs.size],_,_,H,rfl,
  I1.kept (t':=tk) fun b o e=>bx _ e,Ig _ lo (lo-hi).toNat,?_,fun b hb=>?_,q⟩
 ·show IsRangeIter _ _ (lo+((0:Nat):Int)*(-1)) ((((lo-hi).toNat:Nat):Int)-((0:Nat):Int)) (-1);rw[e1,e2];exact ff _ rfl
 ·have e:b=(s.heap.push { cls:=.type "range",data:=.fields #[.int lo t,.int hi u,.int (-1) v] }).objs.size:=by simpa using hb
  subst e;exact I1.fpOk (dw _) (I1.hok.fresh (dw _))
def vW(ta:TA):TI:=fun σ H R=>ta σ H fun vs H1=>∃i j:Int,vs=[.int i,.int j,.int (-1)]/\(-1000<=i/\i<=1000)/\(-1000<=j/\j<=1000)/\R (Itd i (i-j).toNat) H1
theorem wY{a b c:Expr}{ta:TA}{p pos:Pos}(hg:Gl X "range")(hm:X.mg "range" = none)(ha:PA X [a,b,c] ta)(hs:fc [a,b,c] X.env=[(false,eval a X.env),(false,eval b X.env),(false,eval c X.env)]:=by rfl)(y:fc [b,c] X.env=[(false,eval b X.env),(false,eval c X.env)]:=by rfl):
  PI X tg (.Call (.Name "range" p) [a,b,c] [] pos) (vW ta):=by
 intro zd s σ H R I h;refine Call_ (eF I hg hm boot_range (lj (thn (ha pos zd s σ H _ I h) fun us s1 ⟨vs,H1,I1,r1,q1⟩=>?_) (by rw[hs,y]) (by rw[y];rfl)));obtain⟨i,j,e,h1,h2,q⟩:=q1;subst e;cases r1 with
 |cons r rr=>
  cases rr with
  |cons r' rr=>
   cases rr with
   |cons r'' rr=>
    cases rr;obtain⟨t,rfl⟩:=r;obtain⟨t',rfl⟩:=r';obtain⟨t'',rfl⟩:=r'';exact call_range_3 dz (IV I1 h1 h2 q) (.inl (PyProof.noPylong_small yw))
end
def iH(lo:Int)(n:Nat):List bv:=(ir n).map fun k:Nat=>.int (lo-k)
theorem tE{lo:Int}{n i:Nat}{d:bv}(h:(iH lo n)[i]?=some d):i<n/\d=.int (lo-i):=by
 unfold iH at h;rw[gx]at h;by_cases hi:i<n
 ·rw[rn hi]at h;exact⟨hi,(gv h).symm⟩
 ·rw[lh (by simpa using Nat.le_of_not_lt hi)]at h;cases h
theorem EW{h o:List Addr}{H:Hp}{lo:Int}{n:Nat}:WalkX h o H (Itd lo n) (iH lo n) where
 stop:=fun i _ _ _ hi=>by
  have h':n<=i:=by simpa[iH]using hi
  exact h'
 go:=fun i d _ _ _ hi=>(tE hi).1
 yld:=fun i d o2 H2 x H3 S2 _ _ hi y=>by
  obtain⟨e,ex⟩:=y;subst e ex;rw[(tE hi).2];exact⟨Same.refl _,cM.mpr rfl⟩
def gZ(a:DA):DI:=fun δ S R=>a δ S fun xs S1=>∃i j:Int,xs=[.d (.int i),.d (.int j),.d (.int (-1))]/\(-1000<=i/\i<=1000)/\(-1000<=j/\j<=1000)/\R (iH i (i-j).toNat) S1
theorem GV{ta:TA}{da:DA}(ha:RA ta da):RI (vW ta) (gZ da):=fun h o H δ σ S R Q he hs q c=>
 ha h o H δ σ S _ _ he hs q fun o1 H1 S1 xs vs e1 s1 x1 d0=>by
  obtain⟨i,j,rfl,h1,h2,d1⟩:=d0;obtain⟨v1,r1,rfl,aa,l1⟩:=x1;obtain⟨v2,r2,rfl,y,l2⟩:=l1;obtain⟨v3,r3,rfl,ac,l3⟩:=l2;have l4:r3=[]:=l3;subst l4;rw[aU aa,aU y,aU ac];exact⟨i,j,rfl,h1,h2,c o1 H1 S1 _ _ e1 s1 EW d1⟩
end
end L2
namespace L2
open PySem PyProof.Rows
def wV:Bool->cz->Array cz->Nat->Nat->Nat->StateT ik Sem (Option Nat):=sortPriv% PySem.Builtin.gallop
def G4:Array cz->Array cz->StateT ik Sem (Array cz):=sortPriv% PySem.Builtin.mergeLo
def GI:Array cz->Array cz->StateT ik Sem (Array cz):=sortPriv% PySem.Builtin.mergeHi
structure LtOk(prog:fq)(w:gw)(A:gh)(E:bo->bq->Prop)(s:bq)(kd:qz)(D:cz->Prop)(lt:cz->cz->Bool):Prop where
 ask:∀x y (st:ik) (Q:Option Bool->ik->Prop),D x->D y->kindOf st=kd->Q (some (lt x y)) st->wpS (model prog w) A E s (lt' x y) Q st
 asym:∀x y,D x->D y->lt x y=true->lt y x=false
 tr:∀x y z,D x->D y->D z->lt y x=false->lt z y=false->lt z x=false
section
variable {prog:fq}{w:gw}{A:gh}{E:bo->bq->Prop}{s:bq}{kd:qz}{D:cz->Prop}{lt:cz->cz->Bool}
theorem zw{y:Array cz}{i:Nat}{x:cz}{Q:cz->ik->Prop}{st:ik}(h:y[i]?=some x)(q:Q x st):wpS (model prog w) A E s (elem' y i) Q st:=by
 rw[elem'_eq,h];exact cf q
def bey(lt:cz->cz->Bool)(left:Bool)(key x:cz):Bool:=if left=true then lt x key else !lt key x
theorem oV(O:LtOk prog w A E s kd D lt){left:Bool}{key x:cz}{aa:Array cz}{i:Nat}{Q:Option Bool->ik->Prop}{st:ik}(hk:kindOf st=kd)(hD:D key)(hg:aa[i]?=some x)(hx:D x)(q:Q (some (bey lt left key x)) st):
  wpS (model prog w) A E s (do
   let y <- elem' aa i
   if left=true then lt' y key
    else do
     let r <- lt' key y
     pure (Option.map (fun b=>!b) r)) Q st:=by
 refine bz (zw hg ?_);unfold bey at q;by_cases h:left=true
 ·rw[cu h]at q ⊢;exact O.ask _ _ _ _ hx hD hk q
 ·rw[cn h]at q ⊢;exact bz (O.ask _ _ _ _ hD hx hk (cf q))
theorem vC{n:Nat}{p:Nat->Bool}{α:Type}{f:Nat->Option α×Nat×Nat->StateT ik Sem (ForInStep (Option α×Nat×Nat))}{Q:Option α×Nat×Nat->ik->Prop}{st:ik}
  (hf:∀x lo hi (Q':ForInStep (Option α×Nat×Nat)->ik->Prop),hi<=n->(hi<=lo->Q' (.done (none,lo,hi)) st)->(lo<hi->p (lo+(hi-lo)/2)=true->Q' (.yield (none,lo+(hi-lo)/2+1,hi)) st) ->
   (lo<hi->p (lo+(hi-lo)/2)=false->Q' (.yield (none,lo,lo+(hi-lo)/2)) st)->wpS (model prog w) A E s (f x (none,lo,hi)) Q' st)
  (hmono:∀i j,i<=j->j<n->p j=true->p i=true) {lo hi:Nat} (h1:lo<=hi) (h2:hi<=n) (h3:∀i,i<lo->p i=true) (h4:∀i,hi<=i->i<n->p i=false)
  (q:∀k,k<=n->(∀i,i<k->p i=true)->(∀i,k<=i->i<n->p i=false)->Q (none,k,k) st):wpS (model prog w) A E s (forIn [:n] (none,lo,hi) f) Q st:=by
 refine iw (I:=fun k c st'=>st'=st/\∃lo hi,c=(none,lo,hi)/\lo<=hi/\hi<=n/\hi-lo+k<=n/\(∀i,i<lo->p i=true)/\∀i,hi<=i->i<n->p i=false) ?step ?fin ⟨rfl,lo,hi,rfl,h1,h2,yw,h3,h4⟩
 case fin=>
  rintro c st' ⟨rfl,lo,hi,rfl,a1,a2,a3,a4,a5⟩;have:lo=hi:=yw
  subst this;exact q lo a2 a4 a5
 case step=>
  rintro k c st' _ ae ⟨rfl,lo,hi,rfl,a1,a2,a3,a4,a5⟩;refine hf k lo hi _ a2 (fun af=>?_) (fun ac hp=>?_) fun ac hp=>?_
  ·have:lo=hi:=yw
   subst this;exact q lo a2 a4 a5
  ·refine⟨rfl,_,_,rfl,yw,a2,yw,fun i y=>?_,a5⟩;exact hmono i (lo+(hi-lo)/2) yw yw hp
  ·refine⟨rfl,_,_,rfl,yw,yw,yw,a4,fun i y aa=>?_⟩;cases hpi:p i with
   |false=>rfl
   |true=>rw[hmono (lo+(hi-lo)/2) i y aa hpi]at hp;cases hp
theorem Es(O:LtOk prog w A E s kd D lt){left:Bool}{key:cz}{af:Array cz}{base n hint:Nat}{Q:Option Nat->ik->Prop}{st:ik}(hk:kindOf st=kd)(hD:D key)(g:Nat->cz)(hg:∀i,i<n->af[base+i]?=some (g i))(aa:∀i,i<n->D (g i))
  (hmono:∀i j,i<=j->j<n->bey lt left key (g j)=true->bey lt left key (g i)=true) (hh:hint<n)
  (q:∀k,k<=n->(∀i,i<k->bey lt left key (g i)=true)->(∀i,k<=i->i<n->bey lt left key (g i)=false)->Q (some k) st):wpS (model prog w) A E s (wV left key af base n hint) Q st:=by
 have ae:∀i j,i<=j->j<n->bey lt left key (g i)=false->bey lt left key (g j)=false:=fun i j h1 h2 h3=>by
  cases h:bey lt left key (g j)with
  |false=>rfl
  |true=>rw[hmono i j h1 h2 h]at h3;cases h3
 refine bz (oV O hk hD (hg hint hh) (aa hint hh) ?_);cases hb:bey lt left key (g hint)with
 |true=>
  simp only[if_true];refine bz (li (iw (I:=fun k c st'=>st'=st/\∃la y,c=(none,la,y)/\la<y/\k+1<=y/\hint+la<n/\bey lt left key (g (hint+la))=true)
   (Q:=fun c st'=>st'=st/\∃la y,c=(none,la,y)/\la<y/\hint+la<n/\bey lt left key (g (hint+la))=true/\(n-hint<=y\/(hint+y<n/\bey lt left key (g (hint+y))=false))) ?step ?fin ⟨rfl,0,1,rfl,yw,yw,yw,hb⟩) ?post)
  case step=>
   rintro k c st' _ ag ⟨rfl,la,y,rfl,h1,h2,h3,h4⟩;by_cases ho:y≥n-hint
   ·rw[cu ho];exact cf ⟨rfl,la,y,rfl,h1,h3,h4,.inl ho⟩
   ·rw[cn ho];have hn:hint+y<n:=yw
    refine bz (oV O hk hD (hg _ hn) (aa _ hn) ?_);cases hb2:bey lt left key (g (hint+y))with
    |true=>exact cf ⟨rfl,y,2*y+1,rfl,yw,yw,hn,hb2⟩
    |false=>exact cf ⟨rfl,la,y,rfl,h1,h3,h4,.inr ⟨hn,hb2⟩⟩
  case fin=>
   rintro c st' ⟨rfl,la,y,rfl,h1,h2,h3,h4⟩;exact⟨rfl,la,y,rfl,h1,h3,h4,.inl yw⟩
  case post=>
   rintro c st' ⟨rfl,la,y,rfl,h1,h3,h4,h5⟩;dsimp only;refine bz (vC (p:=fun i=>bey lt left key (g i)) ?hf hmono yw yw (fun i hi=>hmono i (hint+la) yw h3 h4) (fun i hi ac=>?_) fun k k1 k2 k3=>?_)
   case hf=>
    intro x lo hi Q' hn e1 e2 e3;by_cases ho:lo≥hi
    ·rw[cu ho];exact cf (e1 ho)
    ·rw[cn ho];have hm:lo+(hi-lo)/2<n:=yw
     refine bz (oV O hk hD (hg _ hm) (aa _ hm) ?_);dsimp only;cases hb2:bey lt left key (g (lo+(hi-lo)/2))with
     |true=>exact cf (e2 yw hb2)
     |false=>exact cf (e3 yw hb2)
   ·rcases h5 with h5|⟨h5,h6⟩
    ·omega
    ·exact ae (hint+y) i yw ac h6
   ·exact cf (q k k1 k2 k3)
 |false=>
  simp only[fg,if_false];refine bz (li (iw (I:=fun k c st'=>st'=st/\∃la y,c=(none,la,y)/\la<y/\k+1<=y/\la<=hint/\bey lt left key (g (hint-la))=false)
   (Q:=fun c st'=>st'=st/\∃la y,c=(none,la,y)/\la<y/\la<=hint/\bey lt left key (g (hint-la))=false/\(hint+1<=y\/(y<=hint/\bey lt left key (g (hint-y))=true))) ?step ?fin ⟨rfl,0,1,rfl,yw,yw,yw,hb⟩) ?post)
  case step=>
   rintro k c st' _ ag ⟨rfl,la,y,rfl,h1,h2,h3,h4⟩;by_cases ho:y≥hint+1
   ·rw[cu ho];exact cf ⟨rfl,la,y,rfl,h1,h3,h4,.inl ho⟩
   ·rw[cn ho];have hn:hint-y<n:=yw
    refine bz (oV O hk hD (hg _ hn) (aa _ hn) ?_);cases hb2:bey lt left key (g (hint-y))with
    |true=>exact cf ⟨rfl,la,y,rfl,h1,h3,h4,.inr ⟨yw,hb2⟩⟩
    |false=>exact cf ⟨rfl,y,2*y+1,rfl,yw,yw,yw,hb2⟩
  case fin=>
   rintro c st' ⟨rfl,la,y,rfl,h1,h2,h3,h4⟩;exact⟨rfl,la,y,rfl,h1,h3,h4,.inl yw⟩
  case post=>
   rintro c st' ⟨rfl,la,y,rfl,h1,h3,h4,h5⟩;dsimp only;refine bz (vC (p:=fun i=>bey lt left key (g i)) ?hf hmono yw yw (fun i hi=>?_) (fun i hi ac=>ae (hint-la) i yw ac h4) fun k k1 k2 k3=>?_)
   case hf=>
    intro x lo hi Q' hn e1 e2 e3;by_cases ho:lo≥hi
    ·rw[cu ho];exact cf (e1 ho)
    ·rw[cn ho];have hm:lo+(hi-lo)/2<n:=yw
     refine bz (oV O hk hD (hg _ hm) (aa _ hm) ?_);dsimp only;cases hb2:bey lt left key (g (lo+(hi-lo)/2))with
     |true=>exact cf (e2 yw hb2)
     |false=>exact cf (e3 yw hb2)
   ·rcases h5 with h5|⟨h5,h6⟩
    ·omega
    ·exact hmono i (hint-y) yw yw h6
   ·exact cf (q k k1 k2 k3)
def SrtL(lt:cz->cz->Bool)(l:List cz):Prop:=l.Pairwise fun x y=>lt y x=false
structure MI(lt:cz->cz->Bool)(L0 out A B:List cz):Prop where
 pm:(out++(A++B)).Perm L0
 so:SrtL lt out
 le:∀x∈out,∀y∈A++B,lt y x=false
 sa:SrtL lt A
 sb:SrtL lt B
theorem BL{l:List cz}{x:cz}(h:SrtL lt l)(k:∀y∈l,lt x y=false):SrtL lt (l++[x]):=by
 unfold SrtL at *;rw[List.pairwise_append];exact⟨h,yv,fun y m z mz=>by rw[mem_singleton.mp mz];exact k y m⟩
theorem MI.takeA{L0 out A B:List cz}{x:cz}(h:MI lt L0 out (x::A) B)(k:∀y∈B,lt y x=false):MI lt L0 (out++[x]) A B:=by
 have sa:=h.sa;unfold SrtL at sa;rw[List.pairwise_cons]at sa;refine⟨by rw[ly];exact h.pm,BL h.so fun y m=>h.le y m x yv,fun z mz y my=>?_,sa.2,h.sb⟩;rcases mem_append.mp mz with mz|mz
 ·exact h.le z mz y (by rcases mem_append.mp my with m|m<;>simp[m])
 ·rw[mem_singleton.mp mz];rcases mem_append.mp my with m|m
  ·exact sa.1 y m
  ·exact k y m
theorem MI.takeB{L0 out A B:List cz}{y:cz}(h:MI lt L0 out A (y::B))(k:∀x∈A,lt x y=false):MI lt L0 (out++[y]) A B:=by
 have sb:=h.sb;unfold SrtL at sb;rw[List.pairwise_cons]at sb;refine⟨?_,BL h.so fun x m=>h.le x m y yv,fun z mz x mx=>?_,h.sa,sb.2⟩
 ·refine .trans ?_ h.pm;rw[ly];refine List.Perm.append_left _ ?_;exact(List.perm_middle (a:=y) (l₁:=A) (l₂:=B)).symm
 ·rcases mem_append.mp mz with mz|mz
  ·exact h.le z mz x (by rcases mem_append.mp mx with m|m<;>simp[m])
  ·rw[mem_singleton.mp mz];rcases mem_append.mp mx with m|m
   ·exact k x m
   ·exact sb.1 x m
theorem MI.takesA{L0:List cz}:∀{X out A B:List cz},MI lt L0 out (X++A) B->(∀x∈X,∀y∈B,lt y x=false)->MI lt L0 (out++X) A B
 | [],out,A,B,h,_=>by simpa using h
 |x::X,out,A,B,h,k=>by
  have:=MI.takesA (MI.takeA h (k x iq)) fun z m=>k z (fu _ m);simpa using this
theorem MI.takesB{L0:List cz}:∀{Y out A B:List cz},MI lt L0 out A (Y++B)->(∀y∈Y,∀x∈A,lt x y=false)->MI lt L0 (out++Y) A B
 | [],out,A,B,h,_=>by simpa using h
 |y::Y,out,A,B,h,k=>by
  have:=MI.takesB (MI.takeB h (k y iq)) fun z m=>k z (fu _ m);simpa using this
def MDone(lt:cz->cz->Bool)(L0 l:List cz):Prop:=l.Perm L0/\SrtL lt l
theorem MI.doneA{L0 out A:List cz}(h:MI lt L0 out A []):MDone lt L0 (out++A):=by
 refine⟨by simpa using h.pm,?_⟩;unfold SrtL;rw[List.pairwise_append];exact⟨h.so,h.sa,fun x m y m'=>h.le x m y (by simpa using m')⟩
theorem MI.lastA{L0 out B:List cz}{x:cz}(h:MI lt L0 out [x] B)(k:∀y∈B,lt x y=false):MDone lt L0 (out++B++[x]):=by
 have h2:MI lt L0 (out++B) [x] []:=MI.takesB (B:=[]) (by simpa using h) fun y m z mz=>by rw[mem_singleton.mp mz];exact k y m
 exact h2.doneA
def sameSt(st st':ik):Prop:=kindOf st'=kindOf st/\ck st'=ck st/\df st'=df st/\sk st'=sk st
theorem sameSt.rfl'{st:ik}:sameSt st st:=⟨rfl,rfl,rfl,rfl⟩
theorem LtOk.irr(O:LtOk prog w A E s kd D lt){x:cz}(h:D x):lt x x=false:=by
 cases e:lt x x with
 |false=>rfl
 |true=>rw[O.asym x x h h e]at e;cases e
theorem cA(O:LtOk prog w A E s kd D lt){l:List cz}(h:SrtL lt l)(hD:∀x∈l,D x){i j:Nat}{x y:cz}(ij:i<=j)(hx:l[i]?=some x)(hy:l[j]?=some y):lt y x=false:=by
 rcases Nat.lt_or_eq_of_le ij with h1|h1
 ·obtain⟨hi,ex⟩:=List.getElem?_eq_some_iff.mp hx;obtain⟨hj,ey⟩:=List.getElem?_eq_some_iff.mp hy;have:=List.pairwise_iff_getElem.mp h i j hi hj h1;rw[ex,ey]at this;exact this
 ·subst h1;rw[hx]at hy;cases hy;exact O.irr (hD x (bw hx))
theorem jZ{l:List cz}{i:Nat}{x:cz}(h:l[i]?=some x):l.drop i=x::l.drop (i+1):=by
 obtain⟨hi,e⟩:=List.getElem?_eq_some_iff.mp h;rw[nv hi,e]
theorem bV{a:Array cz}{i:Nat}(h:i<a.size):∃x,a[i]?=some x/\a.toList[i]?=some x:=⟨a[i],by simp[h],by simp[h]⟩
theorem gB{l:List cz}{i:Nat}{y:cz}(h:y∈l.drop i):∃j,i<=j/\l[j]?=some y:=by
 obtain⟨j,hj⟩:=mem_iff_getElem?.mp h;rw[rf]at hj;exact⟨i+j,yw,hj⟩
structure MInv(lt:cz->cz->Bool)(a b out:Array cz)(ia ib:Nat):Prop where
 mi:MI lt (a.toList++b.toList) out.toList (a.toList.drop ia) (b.toList.drop ib)
 ha:ia+1<a.size
 hb:ib<b.size
section
variable {a b out:Array cz}{ia ib:Nat}
theorem MInv.stepB(O:LtOk prog w A E s kd D lt)(aa:∀x∈a.toList,D x)(ae:∀x∈b.toList,D x)(ac:SrtL lt a.toList){x y:cz}(h:MInv lt a b out ia ib)(hx:a.toList[ia]?=some x)(hy:b.toList[ib]?=some y)(l:lt y x=true):
  MI lt (a.toList++b.toList) (out.push y).toList (a.toList.drop ia) (b.toList.drop (ib+1)):=by
 have m:=h.mi;rw[jZ hy]at m;have:=m.takeB fun z mz=>by
  obtain⟨j,hj,ez⟩:=gB mz;have Dx:=aa x (bw hx);have Dy:=ae y (bw hy);have Dz:=aa z (bw ez);exact O.tr y x z Dy Dx Dz (O.asym y x Dy Dx l) (cA O ac aa hj hx ez)
 simpa using this
theorem MInv.stepA(O:LtOk prog w A E s kd D lt)(ae:∀x∈a.toList,D x)(aa:∀x∈b.toList,D x)(ac:SrtL lt b.toList){x y:cz}(h:MInv lt a b out ia ib)(hx:a.toList[ia]?=some x)(hy:b.toList[ib]?=some y)(l:lt y x=false):
  MI lt (a.toList++b.toList) (out.push x).toList (a.toList.drop (ia+1)) (b.toList.drop ib):=by
 have m:=h.mi;rw[jZ hx]at m;have:=m.takeA fun z mz=>by
  obtain⟨j,hj,ez⟩:=gB mz;exact O.tr x y z (ae x (bw hx)) (aa y (bw hy)) (aa z (bw ez)) l (cA O ac aa hj hy ez)
 simpa using this
theorem j4(a:Array cz)(i:Nat):(a.extract i a.size).toList=a.toList.drop i:=by
 rw[pd,ke,ko yv]
theorem kQ(y:ib=b.size)(m:MI lt (a.toList++b.toList) out.toList (a.toList.drop ia) (b.toList.drop ib)):MDone lt (a.toList++b.toList) (out++a.extract ia a.size++b.extract ib b.size).toList:=by
 have e:b.toList.drop ib=[]:=List.drop_of_length_le (by simp[y]);rw[jd,jd,j4,j4,e,km];rw[e]at m;exact m.doneA
theorem GQ(aa:ia=a.size)(m:MI lt (a.toList++b.toList) out.toList (a.toList.drop ia) (b.toList.drop ib)):MDone lt (a.toList++b.toList) (out++a.extract ia a.size++b.extract ib b.size).toList:=by
 have e:a.toList.drop ia=[]:=List.drop_of_length_le (by simp[aa]);rw[jd,jd,j4,j4,e,km];rw[e]at m;have h2:MI lt (a.toList++b.toList) (out.toList++b.toList.drop ib) [] []:=MI.takesB (B:=[]) (by simpa using m) (fun y my x mx=>by cases mx);have:=h2.doneA;simpa using this
theorem iD(hl:∀x,a[a.size-1]?=some x->∀y∈b.toList,lt x y=false)(h1:ia+1=a.size)(m:MI lt (a.toList++b.toList) out.toList (a.toList.drop ia) (b.toList.drop ib)):MDone lt (a.toList++b.toList) (out++b.extract ib b.size++a.extract ia a.size).toList:=by
 obtain⟨x,e1,e2⟩:=bV (a:=a) (i:=ia) yw;have ed:a.toList.drop ia=[x]:=by
  rw[jZ e2,List.drop_of_length_le (by simp;omega)]
 rw[ed]at m;have hx:=hl x (by rw[show a.size-1=ia by omega];exact e1);have:=m.lastA fun y my=>hx y (mem_of_mem_drop my);rw[jd,jd,j4,j4,ed];exact this
end
theorem gal(O:LtOk prog w A E s kd D lt){left:Bool}{key:cz}{aa:Array cz}{base n hint:Nat}{Q:Option Nat->ik->Prop}{st:ik}(hk:kindOf st=kd)(Dk:D key)(hD:∀j,base<=j->j<base+n->∃x,aa[j]?=some x/\D x)
  (hs:∀i j x y,base<=i->i<=j->j<base+n->aa[i]?=some x->aa[j]?=some y->lt y x=false) (hh:hint<n)
  (q:∀k,k<=n->(∀j x,base<=j->j<base+k->aa[j]?=some x->bey lt left key x=true)->(∀j x,base+k<=j->j<base+n->aa[j]?=some x->bey lt left key x=false)->Q (some k) st):wpS (model prog w) A E s (wV left key aa base n hint) Q st:=by
 have hg:∀i,i<n->aa[base+i]?=some ((aa[base+i]?).getD key):=fun i hi=>by
  obtain⟨x,e,_⟩:=hD (base+i) yw yw;rw[e];rfl
 have ac:∀i,i<n->D ((aa[base+i]?).getD key):=fun i hi=>by
  obtain⟨x,e,d⟩:=hD (base+i) yw yw;rw[e];exact d
 refine Es O hk Dk (fun i=>(aa[base+i]?).getD key) hg ac (fun i j af hj hb=>?_) hh fun k k1 k2 k3=>q k k1 (fun j x h1 h2 e=>?_) fun j x h1 h2 e=>?_
 ·have s1:=hs (base+i) (base+j) _ _ yw yw yw (hg i yw) (hg j hj);have Di:=ac i yw;have Dj:=ac j hj
  try dsimp only at hb ⊢
  generalize (aa[base+i]?).getD key=x at s1 Di ⊢;generalize (aa[base+j]?).getD key=y at s1 Dj hb;cases left with
  |true=>
   unfold bey at hb ⊢;rw[cu rfl]at hb ⊢;cases hx:lt x key with
   |true=>rfl
   |false=>rw[O.tr key x y Dk Di Dj hx s1]at hb;cases hb
  |false=>
   unfold bey at hb ⊢;rw[cn dz]at hb ⊢;have ae:lt key y=false:=by simpa using hb
   rw[O.tr x y key Di Dj Dk s1 ae];rfl
 ·have:=k2 (j-base) yw
  try dsimp only at this
  rw[show base+(j-base)=j by omega,e]at this;exact this
 ·have:=k3 (j-base) yw yw
  try dsimp only at this
  rw[show base+(j-base)=j by omega,e]at this;exact this
theorem u8{a:Array cz}{i k:Nat}:(a.extract i (i+k)).toList=(a.toList.drop i).take k:=by
 rw[pd,ke,Nat.add_sub_cancel_left]
theorem qS{l:List cz}{i k:Nat}{x:cz}(h:x∈(l.drop i).take k):∃j,i<=j/\j<i+k/\l[j]?=some x:=by
 obtain⟨j,hj⟩:=mem_iff_getElem?.mp h;rw[getElem?_take]at hj;split at hj
 ·rw[rf]at hj;exact⟨i+j,yw,yw,hj⟩
 ·cases hj
theorem kK(a:Array cz)(i:Nat):a.extract i (i+0) = #[]:=by
 apply Array.toList_inj.mp;rw[u8,take_zero]
section
variable {a b out:Array cz}{ia ib k:Nat}{L0:List cz}
theorem GP(m:MI lt L0 out.toList (a.toList.drop ia) (b.toList.drop ib))(h:∀j x,ia<=j->j<ia+k->a.toList[j]?=some x->∀y∈b.toList.drop ib,lt y x=false):MI lt L0 (out++a.extract ia (ia+k)).toList (a.toList.drop (ia+k)) (b.toList.drop ib):=by
 rw[jd,u8];refine MI.takesA ?_ fun x mx y my=>?_
 ·rw[<- List.drop_drop,ou];exact m
 ·obtain⟨j,h1,h2,e⟩:=qS mx;exact h j x h1 h2 e y my
theorem AT(m:MI lt L0 out.toList (a.toList.drop ia) (b.toList.drop ib))(h:∀j y,ib<=j->j<ib+k->b.toList[j]?=some y->∀x∈a.toList.drop ia,lt x y=false):MI lt L0 (out++b.extract ib (ib+k)).toList (a.toList.drop ia) (b.toList.drop (ib+k)):=by
 rw[jd,u8];refine MI.takesB ?_ fun x mx y my=>?_
 ·rw[<- List.drop_drop,ou];exact m
 ·obtain⟨j,h1,h2,e⟩:=qS mx;exact h j x h1 h2 e y my
theorem pG(m:MI lt L0 out.toList (a.toList.drop ia) (b.toList.drop ib)){x:cz}(hx:a.toList[ia]?=some x)(h:∀y∈b.toList.drop ib,lt y x=false):MI lt L0 (out.push x).toList (a.toList.drop (ia+1)) (b.toList.drop ib):=by
 rw[jZ hx]at m;have:=m.takeA h;simpa using this
theorem CD(m:MI lt L0 out.toList (a.toList.drop ia) (b.toList.drop ib)){y:cz}(hy:b.toList[ib]?=some y)(h:∀x∈a.toList.drop ia,lt x y=false):MI lt L0 (out.push y).toList (a.toList.drop ia) (b.toList.drop (ib+1)):=by
 rw[jZ hy]at m;have:=m.takeB h;simpa using this
end
theorem zX{a:Array cz}{i:Nat}{x:cz}:a[i]?=some x↔a.toList[i]?=some x:=by simp
theorem fin3{prog:fq}{w:gw}{A:gh}{E:bo->bq->Prop}{s:bq}{τ:Type}{P C:Prop}{_:Decidable P}{f g:StateT ik Sem τ}{Q':τ->ik->Prop}{st':ik}(hf:C->wpS (model prog w) A E s f Q' st')(hg:C->wpS (model prog w) A E s g Q' st')(h:C):wpS (model prog w) A E s (if P then f else g) Q' st':=by
 split
 ·exact hf h
 ·exact hg h
theorem EG(O:LtOk prog w A E s kd D lt){a b:Array cz}{Q:Array cz->ik->Prop}{st:ik}(hk:kindOf st=kd)(av:∀x∈a.toList,D x)(az:∀x∈b.toList,D x)(ha:SrtL lt a.toList)(hb:SrtL lt b.toList)(ax:1<=a.size)(ay:1<=b.size)
  (h0:∀y,b[0]?=some y->∀x∈a.toList,lt x y=false) (hl:∀x,a[a.size-1]?=some x->∀y∈b.toList,lt x y=false)
  (q:∀(out:Array cz) st',MDone lt (a.toList++b.toList) out.toList->sameSt st st'->Q out st'):wpS (model prog w) A E s (G4 a b) Q st:=by
 refine bz (wpS_lift (pc ⟨rfl,?_⟩));obtain⟨y0,bi,bj⟩:=bV (a:=b) (i:=0) (by clear ax;omega);refine bz (zw bi ?_);have m0:MI lt (a.toList++b.toList) [] a.toList b.toList:=⟨List.Perm.refl _,List.Pairwise.nil,(fun x m=>by cases m),ha,hb⟩;have m1:MI lt (a.toList++b.toList) (#[y0]:Array cz).toList (a.toList.drop 0) (b.toList.drop 1):=by
  have e:b.toList=y0::b.toList.drop 1:=by have:=jZ bj;simpa using this
  have m2:MI lt (a.toList++b.toList) [] a.toList (y0::b.toList.drop 1):=by
   have:=m0
   conv at this=>arg 5;rw[e]
   exact this
  have:=m2.takeB (h0 y0 bi);simpa using this
 by_cases c1:1=b.size
 ·rw[cu (by simpa using c1)];exact cf (q _ _ (kQ c1 m1) sameSt.rfl')
 rw[cn (by simpa using c1)];by_cases c2:0+1=a.size
 ·rw[cu (by simpa using c2)];exact cf (q _ _ (iD hl c2 m1) sameSt.rfl')
 rw[cn (by simpa using c2)];refine bz (tq ?_);have bg:∀{out:Array cz}{ia ib:Nat},MInv lt a b out ia ib->ia+ib<a.size+b.size:=fun h=>by have:=h.ha;have:=h.hb;(clear c2 c1 ay ax;omega)
 refine bz (li (iw
  (I:=fun k c st'=>sameSt st st'/\∃out ia ib mg,c=(none,out,ia,ib,mg)/\MInv lt a b out ia ib/\k<ia+ib)
  (Q:=fun c st'=>sameSt st st'/\∃r rest,c=(some r,rest)/\MDone lt (a.toList++b.toList) r.toList) ?step ?fin ⟨sameSt.rfl',#[y0],0,1,_,rfl,⟨m1,by clear c1 ay;omega,by clear c2 ax;omega⟩,by clear c2 c1 ay ax;omega⟩) ?post)
 case fin=>
  rintro c st' ⟨ba,out,ia,ib,mg,rfl,hm,a6⟩;have:=bg hm
  (clear c2 c1 ay ax;omega)
 case post=>
  rintro c st' ⟨ba,r,rest,rfl,hd⟩;exact cf (q r st' hd ba)
 case step=>
  rintro k c st' _ a5 ⟨ba,out,ia,ib,mg,rfl,hm,a6⟩;refine bz (li (iw
   (I:=fun j c st'=>sameSt st st'/\∃al ao an ac bc,c=(none,al,ao,an,ac,bc)/\MInv lt a b al ao an/\j+(ia+ib)<=ao+an)
   (Q:=fun c st'=>sameSt st st'/\((∃r rest,c=(some r,rest)/\MDone lt (a.toList++b.toList) r.toList)\/∃al ao an ac bc,c=(none,al,ao,an,ac,bc)/\MInv lt a b al ao an/\ia+ib<ao+an)) ?step1 ?fin1 ⟨ba,out,ia,ib,0,0,rfl,hm,by clear a6 a5 c2 c1 ay ax;omega⟩) ?post1)
  case fin1=>
   rintro c bd ⟨am,al,ao,an,ac,bc,rfl,aw,a3⟩;have:=bg aw
   (clear a6 a5 c2 c1 ay ax;omega)
  case step1=>
   rintro j c bd _ hj ⟨am,al,ao,an,ac,bc,rfl,aw,a3⟩;obtain⟨y,ey,a4⟩:=bV (a:=b) (i:=an) aw.hb
   clear a5 ay a6 c2 c1 hj ax
   obtain⟨x,ex,ex'⟩:=bV (a:=a) (i:=ao) (by have:=aw.ha;(clear a3;omega));have Dx:=av x (bw ex');have Dy:=az y (bw a4);have aj:kindOf bd=kd:=am.1.trans hk;refine bz (zw ey (bz (zw ex (bz (O.ask y x bd _ Dy Dx aj ?_)))));cases hlt2:lt y x with
   |true=>
    have ms:=aw.stepB O av az ha ex' a4 hlt2;simp only[if_true];refine bz (zw ey ?_);by_cases c3:an+1=b.size
    ·rw[cu (by simpa using c3)];exact cf ⟨am,.inl ⟨_,_,rfl,kQ c3 ms⟩⟩
    ·rw[cn (by simpa using c3)];have ar:MInv lt a b (al.push y) ao (an+1):=⟨ms,aw.ha,by have:=aw.hb;(clear a3;omega)⟩;by_cases c4:bc+1≥mg
     ·rw[cu c4];exact cf ⟨am,.inr ⟨_,_,_,_,_,rfl,ar,by clear c4 c3;omega⟩⟩
     ·rw[cn c4];exact cf ⟨am,_,_,_,_,_,rfl,ar,by clear c4 c3;omega⟩
   |false=>
    have ms:=aw.stepA O av az hb ex' a4 hlt2;simp only[fg,if_false];refine bz (zw ex ?_);by_cases c3:ao+1+1=a.size
    ·rw[cu (by simpa using c3)];exact cf ⟨am,.inl ⟨_,_,rfl,iD hl c3 ms⟩⟩
    ·rw[cn (by simpa using c3)];have ar:MInv lt a b (al.push x) (ao+1) an:=⟨ms,by have:=aw.ha;(clear a3;omega),aw.hb⟩;by_cases c4:ac+1≥mg
     ·rw[cu c4];exact cf ⟨am,.inr ⟨_,_,_,_,_,rfl,ar,by clear c4 c3;omega⟩⟩
     ·rw[cn c4];exact cf ⟨am,_,_,_,_,_,rfl,ar,by clear c4 c3;omega⟩
  case post1=>
   rintro c bd ⟨am,hc⟩;rcases hc with ⟨r,rest,rfl,hd⟩|⟨al,ao,an,ac,bc,rfl,aw,a3⟩
   ·dsimp only;exact cf ⟨am,_,_,rfl,hd⟩
   ·dsimp only;refine bz (wpS_lift (pc ⟨rfl,?_⟩));refine bz (li (iw
     (I:=fun j c st'=>sameSt st st'/\∃ak ah ai a1 a7 a8,c=(none,ak,ah,ai,a1,a7,a8)/\MInv lt a b ak ah ai/\j+(ao+an)<=ah+ai)
     (Q:=fun c st'=>sameSt st st'/\((∃r rest,c=(some r,rest)/\MDone lt (a.toList++b.toList) r.toList)\/∃ak ah ai a1 a7 a8,c=(none,ak,ah,ai,a1,a7,a8)/\MInv lt a b ak ah ai/\ao+an<=ah+ai)) ?step2 ?a0 ⟨am,al,ao,an,_,_,_,rfl,aw,by clear a3 a6 a5 c2 c1 ay ax;omega⟩) ?post2)
    case a0=>
     rintro c be ⟨ap,ak,ah,ai,a1,a7,a8,rfl,ar,aa⟩;have:=bg ar
     (clear a3 a6 a5 c2 c1 ay ax;omega)
    case post2=>
     rintro c be ⟨ap,hc⟩;rcases hc with ⟨r,rest,rfl,hd⟩|⟨ak,ah,ai,a1,a7,a8,rfl,ar,aa⟩
     ·dsimp only;exact cf ⟨ap,_,_,rfl,hd⟩
     ·dsimp only;refine bz (ni (cf ⟨⟨ap.1,ap.2.1,ap.2.2.1,ap.2.2.2⟩,ak,ah,ai,_,rfl,ar,by clear a5 c2 c1 ay ax;omega⟩))
    case step2=>
     rintro j c be _ hj ⟨ap,ak,ah,ai,a1,a7,a8,rfl,ar,aa⟩;obtain⟨y,ey,a4⟩:=bV (a:=b) (i:=ai) ar.hb;have af:=ar.ha;have ae:=ar.hb;have Dy:=az y (bw a4);have aD:∀j,j<a.size->∃x,a[j]?=some x/\D x:=fun j hj=>by
      obtain⟨x,e,e'⟩:=bV (a:=a) hj;exact⟨x,e,av x (bw e')⟩
     have bD:∀j,j<b.size->∃x,b[j]?=some x/\D x:=fun j hj=>by
      obtain⟨x,e,e'⟩:=bV (a:=b) hj;exact⟨x,e,az x (bw e')⟩
     dsimp only;have a0:∀(P:Prop) (_:Decidable P) (f g:StateT ik Sem (ForInStep (Option (Array cz)×Array cz×Nat×Nat×Nat×Nat×Nat))) (Q':ForInStep (Option (Array cz)×Array cz×Nat×Nat×Nat×Nat×Nat)->ik->Prop) (st':ik),wpS (model prog w) A E s f Q' st'->wpS (model prog w) A E s g Q' st'->wpS (model prog w) A E s (if P then f else g) Q' st':=fun P _ f g Q' st' h1 h2=>by
      split
      ·exact h1
      ·exact h2
     refine fin3 (C:=?C3) ?f3 ?g3 ?h3
     case f3=>intro h;generalize a1-1=m0;revert m0;exact h
     case g3=>intro h;generalize a1=m0;revert m0;exact h
     intro m0
     clear a5 ay a6 c2 a3 c1 hj ax
     all_goals
      refine bz (ni ?_);refine bz (zw ey ?_);refine bz (gal O (ap.1.trans hk) Dy (fun j h1 h2=>aD j (by clear h1 ae aa;omega)) (fun i j x z h1 h2 h3 e1 e2=>cA O ha av h2 (zX.mp e1) (zX.mp e2)) (by clear ae aa;omega) fun k1 aq g1 g2=>?_);dsimp only;have ag:sameSt st be:=ap
      have bl:MI lt (a.toList++b.toList) (ak++a.extract ah (ah+k1)).toList (a.toList.drop (ah+k1)) (b.toList.drop ai):=GP ar.mi fun j x h1 h2 e z mz=>by
       have:=g1 j x h1 h2 (zX.mpr e);obtain⟨j2,au,ez⟩:=gB mz;have l1:lt y x=false:=by simpa[bey]using this
       exact O.tr x y z (av x (bw e)) Dy (az z (bw ez)) l1 (cA O hb az au a4 ez)
      have gt:∀x∈a.toList.drop (ah+k1),lt x y=false:=fun x mx=>by
       obtain⟨j2,au,ex⟩:=gB mx;have a2:=(List.getElem?_eq_some_iff.mp ex).1;have:=g2 j2 x au (by simp at a2;(clear au aq ae af aa;omega)) (zX.mpr ex);have l1:lt y x=true:=by simpa[bey]using this
       exact O.asym y x Dy (av x (bw ex)) l1
      have bn:k1=0->(ak++a.extract ah (ah+k1))=ak:=fun z=>by subst z;rw[kK,Array.append_empty]
      have go:∀(outA:Array cz) (iaA:Nat) (mgA acA:Nat),MI lt (a.toList++b.toList) outA.toList (a.toList.drop iaA) (b.toList.drop ai)->(∀x∈a.toList.drop iaA,lt x y=false)->ah<=iaA->iaA+1<a.size->True:=fun _ _ _ _ _ _ _ _=>trivial;by_cases c5:k1>0
      ·rw[cu c5];by_cases c6:ah+k1+1=a.size
       ·rw[cu (by simpa using c6)];exact cf ⟨ag,.inl ⟨_,_,rfl,iD hl c6 bl⟩⟩
       rw[cn (by simpa using c6)];by_cases c7:ah+k1=a.size
       ·rw[cu (by simpa using c7)];exact cf ⟨ag,.inl ⟨_,_,rfl,GQ c7 bl⟩⟩
       rw[cn (by simpa using c7)];refine bz (zw ey ?_);have mb:=CD bl a4 gt;by_cases d1:ai+1=b.size
       ·rw[cu (by simpa using d1)];exact cf ⟨ag,.inl ⟨_,_,rfl,kQ d1 mb⟩⟩
       rw[cn (by simpa using d1)];obtain⟨x,ex,ex'⟩:=bV (a:=a) (i:=(ah+k1)) (by clear d1 c6 c5 ae aa;omega);have Dx:=av x (bw ex');refine bz (zw ex ?_);refine bz (gal O (ap.1.trans hk) Dx (fun j h1 h2=>bD j (by clear h1 d1 c7 c6 c5 aq af aa;omega)) (fun i j x z h1 h2 h3 e1 e2=>cA O hb az h2 (zX.mp e1) (zX.mp e2)) (by clear c7 c6 c5 aq af aa;omega) fun k2 aj f1 f2=>?_);dsimp only;have bb:=AT (k:=k2) mb fun j z h1 h2 e x2 bf=>by
        have:=f1 j z h1 h2 (zX.mpr e);obtain⟨j2,au,a9⟩:=gB bf;have Dz:=az z (bw e);have l1:lt z x=true:=by simpa[bey]using this
        exact O.tr z x x2 Dz Dx (av x2 (bw a9)) (O.asym z x Dz Dx l1) (cA O ha av au ex' a9)
       have gb:∀z∈b.toList.drop (ai+1+k2),lt z x=false:=fun z mz=>by
        obtain⟨j2,au,ez⟩:=gB mz;have a2:=(List.getElem?_eq_some_iff.mp ez).1;have:=f2 j2 z au (by simp at a2;(clear au aj d1 c7 c6 c5 aq ae af aa;omega)) (zX.mpr ez);simpa[bey]using this
       by_cases d2:k2>0
       ·rw[cu d2];by_cases d3:ai+1+k2=b.size
        ·rw[cu (by simpa using d3)];exact cf ⟨ag,.inl ⟨_,_,rfl,kQ d3 bb⟩⟩
        rw[cn (by simpa using d3)];refine bz (zw ex ?_);have mf:=pG bb ex' gb;by_cases d4:(ah+k1)+1+1=a.size
        ·rw[cu (by simpa using d4)];exact cf ⟨ag,.inl ⟨_,_,rfl,iD hl d4 mf⟩⟩
        rw[cn (by simpa using d4)]
        clear d2 c5 d1
        refine a0 _ _ _ _ _ _ ?_ ?_
        ·exact cf ⟨ag,.inr ⟨_,_,_,_,_,_,rfl,⟨mf,by clear d3 aj ae aa;omega,by clear d4 c7 c6 aq af aa;omega⟩,by clear d4 d3 aj c7 c6 aq ae af;omega⟩⟩
        ·exact cf ⟨ag,_,_,_,_,_,_,rfl,⟨mf,by clear d3 aj ae aa;omega,by clear d4 c7 c6 aq af aa;omega⟩,by clear d4 d3 aj c7 c6 aq ae af;omega⟩
       ·rw[cn d2];have bh:k2=0:=by clear aj d1 c7 c6 c5 aq ae af aa;omega
        subst bh;have ee:∀o:Array cz,o++b.extract (ai+1) (ai+1+0)=o:=fun o=>by rw[kK,Array.append_empty]
        rw[ee,sq]at bb;rw[sq]at gb;refine bz (zw ex ?_);have mf:=pG bb ex' gb;by_cases d4:(ah+k1)+1+1=a.size
        ·rw[cu (by simpa using d4)];exact cf ⟨ag,.inl ⟨_,_,rfl,iD hl d4 mf⟩⟩
        rw[cn (by simpa using d4)]
        clear d2 c5 aj
        refine a0 _ _ _ _ _ _ ?_ ?_
        ·exact cf ⟨ag,.inr ⟨_,_,_,_,_,_,rfl,⟨mf,by clear d1 ae aa;omega,by clear d4 c7 c6 aq af aa;omega⟩,by clear d4 d1 c7 c6 aq ae af;omega⟩⟩
        ·exact cf ⟨ag,_,_,_,_,_,_,rfl,⟨mf,by clear d1 ae aa;omega,by clear d4 c7 c6 aq af aa;omega⟩,by clear d4 d1 c7 c6 aq ae af;omega⟩
      ·rw[cn c5];have k0:k1=0:=by clear aq ae af aa;omega
       subst k0;rw[bn rfl,sq]at bl;rw[sq]at gt;refine bz (zw ey ?_);have mb:=CD bl a4 gt;by_cases d1:ai+1=b.size
       ·rw[cu (by simpa using d1)];exact cf ⟨ag,.inl ⟨_,_,rfl,kQ d1 mb⟩⟩
       rw[cn (by simpa using d1)]
       clear c5 aq
       obtain⟨x,ex,ex'⟩:=bV (a:=a) (i:=ah) (by clear d1 ae aa;omega);have Dx:=av x (bw ex');refine bz (zw ex ?_);refine bz (gal O (ap.1.trans hk) Dx (fun j h1 h2=>bD j (by clear h1 d1 af aa;omega)) (fun i j x z h1 h2 h3 e1 e2=>cA O hb az h2 (zX.mp e1) (zX.mp e2)) (by clear af aa;omega) fun k2 aj f1 f2=>?_);dsimp only;have bb:=AT (k:=k2) mb fun j z h1 h2 e x2 bf=>by
        have:=f1 j z h1 h2 (zX.mpr e);obtain⟨j2,au,a9⟩:=gB bf;have Dz:=az z (bw e);have l1:lt z x=true:=by simpa[bey]using this
        exact O.tr z x x2 Dz Dx (av x2 (bw a9)) (O.asym z x Dz Dx l1) (cA O ha av au ex' a9)
       have gb:∀z∈b.toList.drop (ai+1+k2),lt z x=false:=fun z mz=>by
        obtain⟨j2,au,ez⟩:=gB mz;have a2:=(List.getElem?_eq_some_iff.mp ez).1;have:=f2 j2 z au (by simp at a2;(clear au aj d1 ae af aa;omega)) (zX.mpr ez);simpa[bey]using this
       by_cases d2:k2>0
       ·rw[cu d2];by_cases d3:ai+1+k2=b.size
        ·rw[cu (by simpa using d3)];exact cf ⟨ag,.inl ⟨_,_,rfl,kQ d3 bb⟩⟩
        rw[cn (by simpa using d3)];refine bz (zw ex ?_);have mf:=pG bb ex' gb;by_cases d4:ah+1+1=a.size
        ·rw[cu (by simpa using d4)];exact cf ⟨ag,.inl ⟨_,_,rfl,iD hl d4 mf⟩⟩
        rw[cn (by simpa using d4)];refine a0 _ _ _ _ _ _ ?_ ?_
        ·exact cf ⟨ag,.inr ⟨_,_,_,_,_,_,rfl,⟨mf,by clear d3 d2 aj d1 ae aa;omega,by clear d4 d2 d1 af aa;omega⟩,by clear d4 d3 d2 aj d1 ae af;omega⟩⟩
        ·exact cf ⟨ag,_,_,_,_,_,_,rfl,⟨mf,by clear d3 d2 aj d1 ae aa;omega,by clear d4 d2 d1 af aa;omega⟩,by clear d4 d3 d2 aj d1 ae af;omega⟩
       ·rw[cn d2];have bh:k2=0:=by clear aj d1 ae af aa;omega
        subst bh;have ee:∀o:Array cz,o++b.extract (ai+1) (ai+1+0)=o:=fun o=>by rw[kK,Array.append_empty]
        rw[ee,sq]at bb;rw[sq]at gb;refine bz (zw ex ?_);have mf:=pG bb ex' gb;by_cases d4:ah+1+1=a.size
        ·rw[cu (by simpa using d4)];exact cf ⟨ag,.inl ⟨_,_,rfl,iD hl d4 mf⟩⟩
        rw[cn (by simpa using d4)];refine a0 _ _ _ _ _ _ ?_ ?_
        ·exact cf ⟨ag,.inr ⟨_,_,_,_,_,_,rfl,⟨mf,by clear d2 aj d1 ae aa;omega,by clear d4 d2 aj af aa;omega⟩,by clear d4 d2 aj d1 ae af;omega⟩⟩
        ·exact cf ⟨ag,_,_,_,_,_,_,rfl,⟨mf,by clear d2 aj d1 ae aa;omega,by clear d4 d2 aj af aa;omega⟩,by clear d4 d2 aj d1 ae af;omega⟩
def flt(lt:cz->cz->Bool):cz->cz->Bool:=fun x y=>lt y x
theorem MDone.rev{L0 l:List cz}(h:MDone (flt lt) L0 l):MDone lt L0 l.reverse:=by
 refine⟨(qb l).trans h.1,?_⟩;unfold SrtL;rw[List.pairwise_reverse];exact h.2
theorem uE{l:List cz}{i:Nat}{x:cz}(h:l[i]?=some x):(l.take (i+1)).reverse=x::(l.take i).reverse:=by
 rw[take_add_one,h];simp
theorem gQ{l:List cz}{i:Nat}{y:cz}(h:y∈(l.take i).reverse):∃j,j<i/\l[j]?=some y:=by
 obtain⟨j,hj⟩:=mem_iff_getElem?.mp (mem_reverse.mp h);rw[getElem?_take]at hj;split at hj
 ·exact⟨j,by assumption,hj⟩
 ·cases hj
theorem kG(a:Array cz)(n:Nat):(a.extract 0 n).toList=a.toList.take n:=by
 rw[pd,ke];simp
theorem wT{l:List cz}(h:SrtL lt l)(n:Nat):SrtL (flt lt) (l.take n).reverse:=by
 unfold SrtL;rw[List.pairwise_reverse];exact List.Pairwise.sublist (List.take_sublist n l) h
section
variable {a b out:Array cz}{na nb k:Nat}{L0:List cz}
theorem tU(m:MI (flt lt) L0 out.toList (a.toList.take (na+1)).reverse (b.toList.take nb).reverse){x:cz}(hx:a.toList[na]?=some x)(h:∀y∈(b.toList.take nb).reverse,lt x y=false):MI (flt lt) L0 (out.push x).toList (a.toList.take na).reverse (b.toList.take nb).reverse:=by
 rw[uE hx]at m;have:=m.takeA h;simpa using this
theorem B4(m:MI (flt lt) L0 out.toList (a.toList.take na).reverse (b.toList.take (nb+1)).reverse){y:cz}(hy:b.toList[nb]?=some y)(h:∀x∈(a.toList.take na).reverse,lt y x=false):MI (flt lt) L0 (out.push y).toList (a.toList.take na).reverse (b.toList.take nb).reverse:=by
 rw[uE hy]at m;have:=m.takeB h;simpa using this
theorem rF{n:Nat}(hn:n=na+1)(m:MI (flt lt) L0 out.toList (a.toList.take n).reverse (b.toList.take nb).reverse){x:cz}(hx:a.toList[na]?=some x)(h:∀y∈(b.toList.take nb).reverse,lt x y=false):MI (flt lt) L0 (out.push x).toList (a.toList.take na).reverse (b.toList.take nb).reverse:=by
 subst hn;exact tU m hx h
theorem xU{n:Nat}(hn:n=nb+1)(m:MI (flt lt) L0 out.toList (a.toList.take na).reverse (b.toList.take n).reverse){y:cz}(hy:b.toList[nb]?=some y)(h:∀x∈(a.toList.take na).reverse,lt y x=false):MI (flt lt) L0 (out.push y).toList (a.toList.take na).reverse (b.toList.take nb).reverse:=by
 subst hn;exact B4 m hy h
theorem vD{l:List cz}{i n:Nat}(h:i<=n):(l.take n).reverse=((l.drop i).take (n-i)).reverse++(l.take i).reverse:=by
 rw[<- List.reverse_append];congr 1;have:=List.take_add (l:=l) (i:=i) (j:=n-i);rw[show i+(n-i)=n by omega]at this;exact this
theorem yR(a:Array cz){i n:Nat}(h:i<=n):(a.extract i n).reverse.toList=((a.toList.drop i).take (n-i)).reverse:=by
 rw[Array.toList_reverse,pd,ke]
theorem Hq(m:MI (flt lt) L0 out.toList (a.toList.take na).reverse (b.toList.take nb).reverse)(hk:k<=na)(h:∀j x,k<=j->j<na->a.toList[j]?=some x->∀y∈(b.toList.take nb).reverse,lt x y=false):MI (flt lt) L0 (out++(a.extract k na).reverse).toList (a.toList.take k).reverse (b.toList.take nb).reverse:=by
 rw[jd,yR a hk];rw[vD hk]at m;refine MI.takesA m fun x mx y my=>?_;obtain⟨j,h1,h2,e⟩:=qS (mem_reverse.mp mx);exact h j x h1 (by clear h1;omega) e y my
theorem vG(m:MI (flt lt) L0 out.toList (a.toList.take na).reverse (b.toList.take nb).reverse)(hk:k<=nb)(h:∀j y,k<=j->j<nb->b.toList[j]?=some y->∀x∈(a.toList.take na).reverse,lt y x=false):MI (flt lt) L0 (out++(b.extract k nb).reverse).toList (a.toList.take na).reverse (b.toList.take k).reverse:=by
 rw[jd,yR b hk];rw[vD hk]at m;refine MI.takesB m fun x mx y my=>?_;obtain⟨j,h1,h2,e⟩:=qS (mem_reverse.mp mx);exact h j x h1 yw e y my
theorem jJ(h0:na=0)(m:MI (flt lt) L0 out.toList (a.toList.take na).reverse (b.toList.take nb).reverse):MDone lt L0 (a.extract 0 na++b.extract 0 nb++out.reverse).toList:=by
 subst h0;have h2:MI (flt lt) L0 (out.toList++(b.toList.take nb).reverse) [] []:=MI.takesB (B:=[]) (by simpa using m) (fun y my x mx=>by cases mx);have:=h2.doneA.rev;rw[jd,jd,kG,kG,Array.toList_reverse];simpa using this
theorem xR(h0:nb=0)(m:MI (flt lt) L0 out.toList (a.toList.take na).reverse (b.toList.take nb).reverse):MDone lt L0 (a.extract 0 na++b.extract 0 nb++out.reverse).toList:=by
 subst h0;have h1:MI (flt lt) L0 out.toList (a.toList.take na).reverse []:=by simpa using m
 have:=h1.doneA.rev;rw[jd,jd,kG,kG,Array.toList_reverse];simpa using this
theorem kF(hf:∀y,b[0]?=some y->∀x∈a.toList,lt x y=false)(h1:nb=1)(aa:1<=b.size)(m:MI (flt lt) L0 out.toList (a.toList.take na).reverse (b.toList.take nb).reverse):MDone lt L0 (b.extract 0 nb++a.extract 0 na++out.reverse).toList:=by
 subst h1;obtain⟨y,e1,e2⟩:=bV (a:=b) (i:=0) yw;have ed:(b.toList.take (0+1)).reverse=[y]:=by rw[uE e2];simp
 rw[show (1:Nat)=0+1 from rfl,ed]at m;have h2:MI (flt lt) L0 (out.toList++(a.toList.take na).reverse) [] [y]:=MI.takesA (A:=[]) (by simpa using m) fun x mx z mz=>by
  rw[mem_singleton.mp mz];exact hf y e1 x (sy (mem_reverse.mp mx))
 have h3:MI (flt lt) L0 (out.toList++(a.toList.take na).reverse++[y]) [] []:=MI.takesB (B:=[]) (by simpa using h2) (fun y my x mx=>by cases mx);have:=h3.doneA.rev;have ee:b.toList.take 1=[y]:=by have:=congrArg List.reverse ed;simpa using this
 rw[jd,jd,kG,kG,Array.toList_reverse,ee];simpa using this
end
structure HInv(lt:cz->cz->Bool)(a b out:Array cz)(na nb:Nat):Prop where
 mi:MI (flt lt) (a.toList++b.toList) out.toList (a.toList.take na).reverse (b.toList.take nb).reverse
 a0:0<na
 a1:na<=a.size
 b0:1<nb
 b1:nb<=b.size
theorem EJ(O:LtOk prog w A E s kd D lt){a b:Array cz}{Q:Array cz->ik->Prop}{st:ik}(hk:kindOf st=kd)(ax:∀x∈a.toList,D x)(av:∀x∈b.toList,D x)(ha:SrtL lt a.toList)(hb:SrtL lt b.toList)(ag:1<=a.size)(ae:1<=b.size)
  (h0:∀y,b[0]?=some y->∀x∈a.toList,lt x y=false) (hl:∀x,a[a.size-1]?=some x->∀y∈b.toList,lt x y=false)
  (q:∀(out:Array cz) st',MDone lt (a.toList++b.toList) out.toList->sameSt st st'->Q out st'):wpS (model prog w) A E s (GI a b) Q st:=by
 refine bz (wpS_lift (pc ⟨rfl,?_⟩));obtain⟨x0,bg,bh⟩:=bV (a:=a) (i:=a.size-1) (by clear ae;omega);refine bz (zw bg ?_);have aw:∀{τ:Type} (P:Prop) (_:Decidable P) (f g:StateT ik Sem τ) (Q':τ->ik->Prop) (st':ik),wpS (model prog w) A E s f Q' st'->wpS (model prog w) A E s g Q' st'->wpS (model prog w) A E s (if P then f else g) Q' st':=fun P _ f g Q' st' h1 h2=>by
  split
  ·exact h1
  ·exact h2
 have ta:a.toList.take a.size=a.toList:=ko yv;have tb:b.toList.take b.size=b.toList:=ko yv;have m0:MI (flt lt) (a.toList++b.toList) (#[]:Array cz).toList (a.toList.take a.size).reverse (b.toList.take b.size).reverse:=by
  refine⟨?_,List.Pairwise.nil,(fun x m=>by cases m),wT ha _,wT hb _⟩;rw[ta,tb];exact(qb _).append (qb _)
 have m1:MI (flt lt) (a.toList++b.toList) (#[x0]:Array cz).toList (a.toList.take (a.size-1)).reverse (b.toList.take b.size).reverse:=by
  have m2:=m0;rw[show a.size=a.size-1+1 by clear ae;omega]at m2;have:=tU m2 bh fun y my=>hl x0 bg y (sy (mem_reverse.mp my));simpa using this
 by_cases c1:a.size-1=0
 ·rw[cu (by simpa using c1)];exact cf (q _ _ (jJ c1 m1) sameSt.rfl')
 rw[cn (by simpa using c1)];by_cases c2:b.size=1
 ·rw[cu (by simpa using c2)];exact cf (q _ _ (kF h0 c2 ae m1) sameSt.rfl')
 rw[cn (by simpa using c2)];refine bz (tq ?_);refine bz (li (iw (a:=0)
  (I:=fun k c st'=>sameSt st st'/\∃out na nb mg,c=(none,na,nb,out,mg)/\HInv lt a b out na nb/\na+nb+k<a.size+b.size)
  (Q:=fun c st'=>sameSt st st'/\∃(r:Array cz),∃rest,c=(some r,rest)/\MDone lt (a.toList++b.toList) r.toList) ?step ?fin ⟨sameSt.rfl',#[x0],a.size-1,b.size,_,rfl,⟨m1,by clear c2 ae ag;omega,by clear c2 c1 ae ag;omega,by clear c1 ag;omega,by clear c2 c1 ae ag;omega⟩,by clear c2 c1 ae;omega⟩) ?post)
 case fin=>
  rintro c st' ⟨a9,out,na,nb,mg,rfl,hm,a4⟩
  (clear c2 c1 ae ag;omega)
 case post=>
  rintro c st' ⟨a9,r,rest,rfl,hd⟩;exact cf (q r st' hd a9)
 case step=>
  rintro k c st' _ a2 ⟨a9,out,na,nb,mg,rfl,hm,a4⟩;refine bz (li (iw (a:=0)
   (I:=fun j c st'=>sameSt st st'/\∃an am al ac bc,c=(none,am,al,an,ac,bc)/\HInv lt a b an am al/\am+al+j<=na+nb)
   (Q:=fun c st'=>sameSt st st'/\((∃(r:Array cz),∃rest,c=(some r,rest)/\MDone lt (a.toList++b.toList) r.toList)\/∃an am al ac bc,c=(none,am,al,an,ac,bc)/\HInv lt a b an am al/\am+al<na+nb)) ?step1 ?fin1 ⟨a9,out,na,nb,0,0,rfl,hm,by clear a4 a2 c2 c1 ae ag;omega⟩) ?post1)
  case fin1=>
   rintro c ba ⟨ao,an,am,al,ac,bc,rfl,ay,au⟩;have:=ay.a0
   (clear this a2 c2 c1 ae ag;omega)
  case step1=>
   rintro j c ba _ hj ⟨ao,an,am,al,ac,bc,rfl,ay,au⟩;have z1:=ay.a0;have z2:=ay.a1;have z3:=ay.b0;have z4:=ay.b1;obtain⟨y,ey,a5⟩:=bV (a:=b) (i:=al-1) (by clear z3 z2 z1 au hj a4 a2 c2 c1 ag;omega);obtain⟨x,ex,ex'⟩:=bV (a:=a) (i:=am-1) (by clear z4 z3 z1 au hj a4 a2 c2 c1 ae;omega);have Dx:=ax x (bw ex');have Dy:=av y (bw a5);have ai:kindOf ba=kd:=ao.1.trans hk;have mm:=ay.mi;refine bz (zw ey (bz (zw ex (bz (O.ask y x ba _ Dy Dx ai ?_)))))
   clear a2 a4 c2 c1 hj ag
   cases hlt2:lt y x with
   |true=>
    have ms:MI (flt lt) (a.toList++b.toList) (an.push x).toList (a.toList.take (am-1)).reverse (b.toList.take al).reverse:=by
     rw[show am=am-1+1 by clear z4 z3 z2 au ae;omega]at mm;exact tU mm ex' fun z mz=>by
      obtain⟨j2,az,ez⟩:=gQ mz;exact O.tr z y x (av z (bw ez)) Dy Dx (cA O hb av (by clear z4 z3 z2 z1 au ae;omega) ez a5) (O.asym y x Dy Dx hlt2)
    simp only[if_true];refine bz (zw ex ?_);by_cases c3:am-1=0
    ·rw[cu (by simpa using c3)];exact cf ⟨ao,.inl ⟨_,_,rfl,jJ c3 ms⟩⟩
    ·rw[cn (by simpa using c3)];have ar:HInv lt a b (an.push x) (am-1) al:=⟨ms,by clear z4 z3 z2 z1 au ae;omega,by clear c3 z4 z3 z1 au ae;omega,z3,z4⟩;refine aw _ _ _ _ _ _ ?_ ?_
     ·exact cf ⟨ao,.inr ⟨_,_,_,_,_,rfl,ar,by clear c3 z4 z3 z2 ae;omega⟩⟩
     ·exact cf ⟨ao,_,_,_,_,_,rfl,ar,by clear c3 z4 z3 z2 ae;omega⟩
   |false=>
    have ms:MI (flt lt) (a.toList++b.toList) (an.push y).toList (a.toList.take am).reverse (b.toList.take (al-1)).reverse:=by
     rw[show al=al-1+1 by clear z4 z2 z1 au ae;omega]at mm;exact B4 mm a5 fun z mz=>by
      obtain⟨j2,az,ez⟩:=gQ mz;exact O.tr z x y (ax z (bw ez)) Dx Dy (cA O ha ax (by clear z4 z3 z2 z1 au ae;omega) ez ex') hlt2
    simp only[fg,if_false];refine bz (zw ey ?_);by_cases c3:al-1=1
    ·rw[cu (by simpa using c3)];exact cf ⟨ao,.inl ⟨_,_,rfl,kF h0 c3 ae ms⟩⟩
    ·rw[cn (by simpa using c3)];have ar:HInv lt a b (an.push y) am (al-1):=⟨ms,z1,z2,by clear z4 z2 z1 au ae;omega,by clear c3 z3 z2 z1 au ae;omega⟩;refine aw _ _ _ _ _ _ ?_ ?_
     ·exact cf ⟨ao,.inr ⟨_,_,_,_,_,rfl,ar,by clear c3 z4 z2 z1 ae;omega⟩⟩
     ·exact cf ⟨ao,_,_,_,_,_,rfl,ar,by clear c3 z4 z2 z1 ae;omega⟩
  case post1=>
   rintro c ba ⟨ao,hc⟩;rcases hc with ⟨r,rest,rfl,hd⟩|⟨an,am,al,ac,bc,rfl,ay,au⟩
   ·dsimp only;exact cf ⟨ao,_,_,rfl,hd⟩
   ·dsimp only;refine bz (wpS_lift (pc ⟨rfl,?_⟩));refine bz (li (iw (a:=0)
     (I:=fun j c st'=>sameSt st st'/\∃ak ap af a3 a6 a7,c=(none,ap,af,ak,a3,a6,a7)/\HInv lt a b ak ap af/\ap+af+j<=am+al)
     (Q:=fun c st'=>sameSt st st'/\((∃(r:Array cz),∃rest,c=(some r,rest)/\MDone lt (a.toList++b.toList) r.toList)\/∃ak ap af a3 a6 a7,c=(none,ap,af,ak,a3,a6,a7)/\HInv lt a b ak ap af/\ap+af<=am+al)) ?step2 ?aw ⟨ao,an,am,al,_,_,_,rfl,ay,by clear au a4 a2 c2 c1 ae ag;omega⟩) ?post2)
    case aw=>
     rintro c bd ⟨aq,ak,ap,af,a3,a6,a7,rfl,ar,aa⟩;have:=ar.a0;have:=ay.a1;have:=ay.b1
     (clear this a2 c2 c1 ae ag;omega)
    case post2=>
     rintro c bd ⟨aq,hc⟩;rcases hc with ⟨r,rest,rfl,hd⟩|⟨ak,ap,af,a3,a6,a7,rfl,ar,aa⟩
     ·dsimp only;exact cf ⟨aq,_,_,rfl,hd⟩
     ·dsimp only;refine bz (ni (cf ⟨⟨aq.1,aq.2.1,aq.2.2.1,aq.2.2.2⟩,ak,ap,af,_,rfl,ar,by clear a2 c2 c1 ae ag;omega⟩))
    case step2=>
     rintro j c bd _ hj ⟨aq,ak,ap,af,a3,a6,a7,rfl,ar,aa⟩;have z1:=ar.a0;have z2:=ar.a1;have z3:=ar.b0;have z4:=ar.b1;obtain⟨y,ey,a5⟩:=bV (a:=b) (i:=af-1) (by clear z3 z2 z1 aa hj au a4 a2 c2 c1 ag;omega);have Dy:=av y (bw a5);have aD:∀j,j<a.size->∃x,a[j]?=some x/\D x:=fun j hj=>by
      obtain⟨x,e,e'⟩:=bV (a:=a) hj;exact⟨x,e,ax x (bw e')⟩
     have bD:∀j,j<b.size->∃x,b[j]?=some x/\D x:=fun j hj=>by
      obtain⟨x,e,e'⟩:=bV (a:=b) hj;exact⟨x,e,av x (bw e')⟩
     dsimp only;refine fin3 (C:=?C3) ?f3 ?g3 ?h3
     case f3=>intro h;generalize a3-1=m0;revert m0;exact h
     case g3=>intro h;generalize a3=m0;revert m0;exact h
     intro m0
     clear a2 a4 c2 au c1 hj
     all_goals
      refine bz (ni ?_);refine bz (zw ey ?_);refine bz (gal O (aq.1.trans hk) Dy (fun j h1 h2=>aD j (by clear h1 z4 z3 z1 aa ae ag;omega)) (fun i j x z h1 h2 h3 e1 e2=>cA O ha ax h2 (zX.mp e1) (zX.mp e2)) (by clear z4 z3 z2 aa ae ag;omega) fun k1 aj g1 g2=>?_);dsimp only;have ah:sameSt st bd:=aq;have bl:MI (flt lt) (a.toList++b.toList) (ak++(a.extract k1 ap).reverse).toList (a.toList.take k1).reverse (b.toList.take af).reverse:=Hq ar.mi aj fun j x h1 h2 e z mz=>by
       clear aa z4 aj ae ag z1 z3 z2
       have:=g2 j x (by clear h2;omega) (by clear h1;omega) (zX.mpr e);obtain⟨j2,az,ez⟩:=gQ mz;have Dx:=ax x (bw e);have l1:lt y x=true:=by simpa[bey]using this
       exact O.tr z y x (av z (bw ez)) Dy Dx (cA O hb av (by clear h2 h1;omega) ez a5) (O.asym y x Dy Dx l1)
      have gt:∀x∈(a.toList.take k1).reverse,lt y x=false:=fun x mx=>by
       obtain⟨j2,az,ex⟩:=gQ mx;have:=g1 j2 x (by clear az aj z4 z3 z2 z1 aa ae ag;omega) (by clear aj z4 z3 z2 z1 aa ae ag;omega) (zX.mpr ex);simpa[bey]using this
      by_cases c5:ap-k1>0
      ·rw[cu c5];by_cases c6:k1=0
       ·rw[cu (by simpa using c6)];exact cf ⟨ah,.inl ⟨_,_,rfl,jJ c6 bl⟩⟩
       rw[cn (by simpa using c6)];refine bz (zw ey ?_);have mb:MI (flt lt) (a.toList++b.toList) ((ak++(a.extract k1 ap).reverse).push y).toList (a.toList.take k1).reverse (b.toList.take (af-1)).reverse:=xU (by clear c6 c5 aj z4 z2 z1 aa ae ag;omega) bl a5 gt;by_cases d1:af-1=1
       ·rw[cu (by simpa using d1)];exact cf ⟨ah,.inl ⟨_,_,rfl,kF h0 d1 ae mb⟩⟩
       rw[cn (by simpa using d1)];obtain⟨x,ex,ex'⟩:=bV (a:=a) (i:=k1-1) (by clear d1 c6 c5 z4 z3 z1 aa ae;omega);have Dx:=ax x (bw ex');refine bz (zw ex ?_);refine bz (gal O (aq.1.trans hk) Dx (fun j h1 h2=>bD j (by clear h1 d1 c6 c5 aj z3 z2 z1 aa ae ag;omega)) (fun i j x z h1 h2 h3 e1 e2=>cA O hb av h2 (zX.mp e1) (zX.mp e2)) (by clear d1 c6 c5 aj z4 z2 z1 aa ae ag;omega) fun k2 ai f1 f2=>?_);dsimp only;have bb:=vG (k:=k2) mb ai fun j z h1 h2 e x2 be=>by
        clear c5 aa z4 aj ae ai ag z1 z3 c6 d1 z2
        have:=f2 j z (by clear h2;omega) (by clear h1;omega) (zX.mpr e);obtain⟨j2,az,a8⟩:=gQ be;have Dz:=av z (bw e);have l1:lt z x=false:=by simpa[bey]using this
        exact O.tr x2 x z (ax x2 (bw a8)) Dx Dz (cA O ha ax (by clear h2 h1;omega) a8 ex') l1
       have gb:∀z∈(b.toList.take k2).reverse,lt x z=false:=fun z mz=>by
        obtain⟨j2,az,ez⟩:=gQ mz;have:=f1 j2 z (by clear az ai d1 c6 c5 aj z4 z3 z2 z1 aa ae ag;omega) (by clear ai d1 c6 c5 aj z4 z3 z2 z1 aa ae ag;omega) (zX.mpr ez);have l1:lt z x=true:=by simpa[bey]using this
        exact O.asym z x (av z (bw ez)) Dx l1
       by_cases d2:af-1-k2>0
       ·rw[cu d2];by_cases d3:k2=1
        ·rw[cu (by simpa using d3)];exact cf ⟨ah,.inl ⟨_,_,rfl,kF h0 d3 ae bb⟩⟩
        rw[cn (by simpa using d3)];by_cases d5:k2=0
        ·rw[cu (by simpa using d5)];exact cf ⟨ah,.inl ⟨_,_,rfl,xR d5 bb⟩⟩
        rw[cn (by simpa using d5)];refine bz (zw ex ?_);have mf:MI (flt lt) (a.toList++b.toList) (((ak++(a.extract k1 ap).reverse).push y++(b.extract k2 (af-1)).reverse).push x).toList (a.toList.take (k1-1)).reverse (b.toList.take k2).reverse:=rF (by clear d5 d3 d2 ai d1 c5 aj z4 z3 z2 z1 aa ae ag;omega) bb ex' gb;by_cases d4:k1-1=0
        ·rw[cu (by simpa using d4)];exact cf ⟨ah,.inl ⟨_,_,rfl,jJ d4 mf⟩⟩
        rw[cn (by simpa using d4)]
        clear d2 c5 ae ag z3 c6 d1
        refine aw _ _ _ _ _ _ ?_ ?_
        ·exact cf ⟨ah,.inr ⟨_,_,_,_,_,_,rfl,⟨mf,by clear d5 d3 ai aj z4 z2 z1 aa;omega,by clear d4 d5 d3 ai z4 z1 aa;omega,by clear d4 ai aj z4 z2 z1 aa;omega,by clear d4 d5 d3 aj z2 z1 aa;omega⟩,by clear d4 d5 d3 z4 z2 z1;omega⟩⟩
        ·exact cf ⟨ah,_,_,_,_,_,_,rfl,⟨mf,by clear d5 d3 ai aj z4 z2 z1 aa;omega,by clear d4 d5 d3 ai z4 z1 aa;omega,by clear d4 ai aj z4 z2 z1 aa;omega,by clear d4 d5 d3 aj z2 z1 aa;omega⟩,by clear d4 d5 d3 z4 z2;omega⟩
       ·rw[cn d2];have bf:k2=af-1:=by clear d1 c6 c5 aj z4 z3 z2 z1 aa ae ag;omega
        subst bf;have ee:∀o:Array cz,o++(b.extract (af-1) (af-1)).reverse=o:=fun o=>by
         have:b.extract (af-1) (af-1+0) = #[]:=kK b _;rw[sq]at this;rw[this];simp
        rw[ee]at bb;refine bz (zw ex ?_);have mf:MI (flt lt) (a.toList++b.toList) (((ak++(a.extract k1 ap).reverse).push y).push x).toList (a.toList.take (k1-1)).reverse (b.toList.take (af-1)).reverse:=rF (by clear d2 ai d1 c5 aj z4 z3 z2 z1 aa ae ag;omega) bb ex' gb;by_cases d4:k1-1=0
        ·rw[cu (by simpa using d4)];exact cf ⟨ah,.inl ⟨_,_,rfl,jJ d4 mf⟩⟩
        rw[cn (by simpa using d4)]
        clear d2 c5 ae ai ag c6
        refine aw _ _ _ _ _ _ ?_ ?_
        ·exact cf ⟨ah,.inr ⟨_,_,_,_,_,_,rfl,⟨mf,by clear d1 aj z4 z3 z2 z1 aa;omega,by clear d4 d1 z4 z3 z1 aa;omega,by clear d4 aj z4 z2 z1 aa;omega,by clear d4 d1 aj z3 z2 z1 aa;omega⟩,by clear d4 d1 z4 z3 z2 z1;omega⟩⟩
        ·exact cf ⟨ah,_,_,_,_,_,_,rfl,⟨mf,by clear d1 aj z4 z3 z2 z1 aa;omega,by clear d4 d1 z4 z3 z1 aa;omega,by clear d4 aj z4 z2 z1 aa;omega,by clear d4 d1 aj z3 z2 z1 aa;omega⟩,by clear d4 d1 z4 z3 z2;omega⟩
      ·rw[cn c5];have k0:k1=ap:=by clear z4 z3 z2 z1 aa ae ag;omega
       subst k0;have bi:∀o:Array cz,o++(a.extract k1 k1).reverse=o:=fun o=>by
        have:a.extract k1 (k1+0) = #[]:=kK a k1;rw[sq]at this;rw[this];simp
       rw[bi]at bl;refine bz (zw ey ?_);have mb:MI (flt lt) (a.toList++b.toList) (ak.push y).toList (a.toList.take k1).reverse (b.toList.take (af-1)).reverse:=xU (by clear c5 aj z2 z1 aa z4 ae ag;omega) bl a5 gt;by_cases d1:af-1=1
       ·rw[cu (by simpa using d1)];exact cf ⟨ah,.inl ⟨_,_,rfl,kF h0 d1 ae mb⟩⟩
       rw[cn (by simpa using d1)];obtain⟨x,ex,ex'⟩:=bV (a:=a) (i:=k1-1) (by clear d1 c5 aj z1 aa z4 z3 ae;omega);have Dx:=ax x (bw ex');refine bz (zw ex ?_)
       clear c5 aj ag
       refine bz (gal O (aq.1.trans hk) Dx (fun j h1 h2=>bD j (by clear h1 d1 z2 z1 aa z3 ae;omega)) (fun i j x z h1 h2 h3 e1 e2=>cA O hb av h2 (zX.mp e1) (zX.mp e2)) (by clear d1 z2 z1 aa z4 ae;omega) fun k2 ai f1 f2=>?_);dsimp only;have bb:=vG (k:=k2) mb ai fun j z h1 h2 e x2 be=>by
        clear aa z4 ae ai z1 z3 d1 z2
        have:=f2 j z (by clear h2;omega) (by clear h1;omega) (zX.mpr e);obtain⟨j2,az,a8⟩:=gQ be;have Dz:=av z (bw e);have l1:lt z x=false:=by simpa[bey]using this
        exact O.tr x2 x z (ax x2 (bw a8)) Dx Dz (cA O ha ax (by clear h2 h1;omega) a8 ex') l1
       have gb:∀z∈(b.toList.take k2).reverse,lt x z=false:=fun z mz=>by
        obtain⟨j2,az,ez⟩:=gQ mz;have:=f1 j2 z (by clear az ai d1 z2 z1 aa z4 z3 ae;omega) (by clear ai d1 z2 z1 aa z4 z3 ae;omega) (zX.mpr ez);have l1:lt z x=true:=by simpa[bey]using this
        exact O.asym z x (av z (bw ez)) Dx l1
       by_cases d2:af-1-k2>0
       ·rw[cu d2];by_cases d3:k2=1
        ·rw[cu (by simpa using d3)];exact cf ⟨ah,.inl ⟨_,_,rfl,kF h0 d3 ae bb⟩⟩
        rw[cn (by simpa using d3)];by_cases d5:k2=0
        ·rw[cu (by simpa using d5)];exact cf ⟨ah,.inl ⟨_,_,rfl,xR d5 bb⟩⟩
        rw[cn (by simpa using d5)];refine bz (zw ex ?_);have mf:MI (flt lt) (a.toList++b.toList) ((ak.push y++(b.extract k2 (af-1)).reverse).push x).toList (a.toList.take (k1-1)).reverse (b.toList.take k2).reverse:=rF (by clear d5 d3 d2 ai d1 z2 aa z4 z3 ae;omega) bb ex' gb;by_cases d4:k1-1=0
        ·rw[cu (by simpa using d4)];exact cf ⟨ah,.inl ⟨_,_,rfl,jJ d4 mf⟩⟩
        rw[cn (by simpa using d4)]
        clear d2 ae z1 d1
        refine aw _ _ _ _ _ _ ?_ ?_
        ·exact cf ⟨ah,.inr ⟨_,_,_,_,_,_,rfl,⟨mf,by clear d5 d3 ai z2 aa z4 z3;omega,by clear d4 d5 d3 ai aa z4 z3;omega,by clear d4 ai z2 aa z4 z3;omega,by clear d4 d5 d3 z2 aa z3;omega⟩,by clear d4 d5 d3 z2 z4 z3;omega⟩⟩
        ·exact cf ⟨ah,_,_,_,_,_,_,rfl,⟨mf,by clear d5 d3 ai z2 aa z4 z3;omega,by clear d4 d5 d3 ai aa z4 z3;omega,by clear d4 ai z2 aa z4 z3;omega,by clear d4 d5 d3 z2 aa z3;omega⟩,by clear d4 d5 d3 z2 z4;omega⟩
       ·rw[cn d2];have bf:k2=af-1:=by clear d1 z2 z1 aa z4 z3 ae;omega
        subst bf;have ee:∀o:Array cz,o++(b.extract (af-1) (af-1)).reverse=o:=fun o=>by
         have:b.extract (af-1) (af-1+0) = #[]:=kK b _;rw[sq]at this;rw[this];simp
        rw[ee]at bb;refine bz (zw ex ?_);have mf:MI (flt lt) (a.toList++b.toList) ((ak.push y).push x).toList (a.toList.take (k1-1)).reverse (b.toList.take (af-1)).reverse:=rF (by clear d2 ai d1 z2 aa z4 z3 ae;omega) bb ex' gb;by_cases d4:k1-1=0
        ·rw[cu (by simpa using d4)];exact cf ⟨ah,.inl ⟨_,_,rfl,jJ d4 mf⟩⟩
        rw[cn (by simpa using d4)]
        clear d2 ae ai z1
        refine aw _ _ _ _ _ _ ?_ ?_
        ·exact cf ⟨ah,.inr ⟨_,_,_,_,_,_,rfl,⟨mf,by clear d1 z2 aa z4 z3;omega,by clear d4 d1 aa z4 z3;omega,by clear d4 z2 aa z4;omega,by clear d4 d1 z2 aa z3;omega⟩,by clear d4 d1 z2 z4 z3;omega⟩⟩
        ·exact cf ⟨ah,_,_,_,_,_,_,rfl,⟨mf,by clear d1 z2 aa z4 z3;omega,by clear d4 d1 aa z4 z3;omega,by clear d4 z2 aa z4;omega,by clear d4 d1 z2 aa z3;omega⟩,by clear d4 d1 z2 z4;omega⟩
def G(xs:Array cz)(i:Nat):cz:=(xs[i]?).getD (.none,.none)
theorem uT{xs:Array cz}{i:Nat}(h:i<xs.size):xs[i]?=some (G xs i):=by unfold G;simp[h]
def Sg(lt:cz->cz->Bool)(xs:Array cz)(lo hi:Nat):Prop:=∀i j,lo<=i->i<=j->j<hi->lt (G xs j) (G xs i)=false
structure Tb(kd:qz)(D:cz->Prop)(a₀:Array cz)(lo:Nat)(st0 st:ik):Prop where
 kd:kindOf st=kd
 fl:sk st=none
 pm:(ck st).Perm a₀
 pe:df st=df st0
 lo:∀i,i<lo->G (ck st) i=G (ck st0) i
 d:∀x∈a₀.toList,D x
section
variable {a₀:Array cz}{lo:Nat}{st0 st st':ik}
theorem Tb.size(h:Tb kd D a₀ lo st0 st):(ck st).size=a₀.size:=h.pm.size_eq
theorem Tb.at(h:Tb kd D a₀ lo st0 st){i:Nat}(hi:i<a₀.size):(ck st)[i]?=some (G (ck st) i):=uT (by rw[h.size];exact hi)
theorem Tb.dd(h:Tb kd D a₀ lo st0 st){i:Nat}(hi:i<a₀.size):D (G (ck st) i):=by
 have e:=h.at hi;have m:G (ck st) i∈(ck st).toList:=bw (by rw[<- zX];exact e);exact h.d _ ((Array.perm_iff_toList_perm.mp h.pm).mem_iff.mp m)
theorem eG(O:LtOk prog w A E s kd D lt)(h:Tb kd D a₀ lo st0 st){i j:Nat}{Q:Option Bool->ik->Prop}(hi:i<a₀.size)(hj:j<a₀.size)(q:Q (some (lt (G (ck st) i) (G (ck st) j))) st):wpS (model prog w) A E s (ltAt' i j) Q st:=by
 rw[ltAt'_eq];refine bz (tq ?_);refine bz (zw (h.at hi) (bz (zw (h.at hj) ?_)));exact O.ask _ _ _ _ (h.dd hi) (h.dd hj) h.kd q
theorem iX{xs:Array cz}{i j k:Nat}(hj:j<=xs.size):G (mirror xs i j ((j-i)/2)) k=if i<=k/\k<j then G xs (i+j-1-k)else G xs k:=by
 unfold G;rw[getElem?_mirror_all hj];split<;>rfl
theorem u3{xs:Array cz}{src d k:Nat}(hs:src<xs.size)(hd:d<=src):G (bubble xs src d) k=if k=src-d then G xs src else if src-d<k/\k<=src then G xs (k-1)else G xs k:=by
 unfold G;rw[getElem?_bubble hs d hd];split
 ·rfl
 ·split<;>rfl
theorem Tb.mirror(h:Tb kd D a₀ lo st0 st){i j:Nat}(hi:lo<=i)(hj:j<=a₀.size):Tb kd D a₀ lo st0 (ph st (mirror (ck st) i j ((j-i)/2))):=by
 refine⟨h.kd,h.fl,(mirror_perm _ _ _ _).trans h.pm,h.pe,fun k hk=>?_,h.d⟩;show G (PyProof.Rows.mirror (ck st) i j ((j-i)/2)) k=_;rw[iX (by rw[h.size];exact hj),cn yw];exact h.lo k hk
theorem Tb.bubble(h:Tb kd D a₀ lo st0 st){src d:Nat}(hs:src<a₀.size)(hd:d<=src)(hl:lo<=src-d):Tb kd D a₀ lo st0 (ph st (bubble (ck st) src d)):=by
 refine⟨h.kd,h.fl,(bubble_perm _ _ _).trans h.pm,h.pe,fun k hk=>?_,h.d⟩;show G (PyProof.Rows.bubble (ck st) src d) k=_;rw[u3 (by rw[h.size];exact hs) hd,cn yw,cn yw];exact h.lo k hk
theorem fE{i j:Nat}{Q:Unit->ik->Prop}(q:Q () (ph st (mirror (ck st) i j ((j-i)/2)))):wpS (model prog w) A E s (reverseSlice' i j) Q st:=by
 rw[reverseSlice'_eq];exact ni q
theorem Sg.more(O:LtOk prog w A E s kd D lt)(h:Tb kd D a₀ lo st0 st){l n:Nat}(hn:n<a₀.size)(hl:l<n)(hs:Sg lt (ck st) l n)(h1:lt (G (ck st) n) (G (ck st) (n-1))=false):Sg lt (ck st) l (n+1):=fun i j hi y hj=>by
 by_cases e:j<n
 ·exact hs i j hi y e
 ·have ej:j=n:=yw
  subst ej;by_cases e2:i=j
  ·rw[e2];exact O.irr (h.dd hn)
  ·exact O.tr _ (G (ck st) (j-1)) _ (h.dd yw) (h.dd yw) (h.dd hn) (hs i (j-1) hi yw yw) h1
theorem Sg.one(O:LtOk prog w A E s kd D lt)(h:Tb kd D a₀ lo st0 st){l:Nat}(hn:l<a₀.size):Sg lt (ck st) l (l+1):=fun i j hi y hj=>by
 have e1:i=l:=by clear hn;omega
 have e2:j=l:=by clear e1 hn;omega
 rw[e1,e2];exact O.irr (h.dd hn)
def Fg(lt:cz->cz->Bool)(xs:Array cz)(lo hi:Nat):Prop:=∀i j,lo<=i->i<=j->j<hi->lt (G xs i) (G xs j)=false
theorem pQ{xs:Array cz}{l n:Nat}(hn:n<=xs.size)(hs:Fg lt xs l n):Sg lt (mirror xs l n ((n-l)/2)) l n:=fun i j hi y hj=>by
 rw[iX hn,iX hn,cu (by clear hn;omega),cu (by clear hn;omega)];exact hs _ _ (by clear y hi hn;omega) (by clear hj hi hn;omega) (by clear y hn;omega)
end
def Eg(lt:cz->cz->Bool)(xs:Array cz)(lo hi:Nat):Prop:=∀i j,lo<=i->i<hi->lo<=j->j<hi->lt (G xs i) (G xs j)=false
theorem mD{xs:Array cz}{l i n:Nat}(hn:n<=xs.size)(hl:l<=i)(hf:Fg lt xs l n)(he:Eg lt xs i n):Fg lt (mirror xs i n ((n-i)/2)) l n:=fun p q hp y hq=>by
 rw[iX hn,iX hn]
 clear hl hn
 by_cases h1:i<=p
 ·rw[cu (by clear hp;omega),cu (by clear hp;omega)];exact he _ _ (by clear h1 hp;omega) (by clear y hp;omega) (by clear h1 y hp;omega) (by clear hp;omega)
 ·rw[cn (by clear hq y hp;omega)];by_cases h2:i<=q
  ·rw[cu (by clear h1 y hp;omega)];exact hf _ _ hp (by clear h2 y hp;omega) (by clear h1 y hp;omega)
  ·rw[cn (by clear h1 hq y hp;omega)];exact hf p q hp y hq
theorem uR{xs:Array cz}{i n k:Nat}(hn:n<=xs.size)(hk:n<=k):G (mirror xs i n ((n-i)/2)) k=G xs k:=by
 rw[iX hn,cn (by clear hn;omega)]
theorem rP{xs:Array cz}{i n:Nat}(hn:n<=xs.size)(hi:i<n):G (mirror xs i n ((n-i)/2)) (n-1)=G xs i:=by
 rw[iX hn,cu (by clear hn;omega)];congr 1
 (clear hn;omega)
theorem hW(O:LtOk prog w A E s kd D lt){a₀:Array cz}{lo:Nat}{st0 st:ik}(h:Tb kd D a₀ lo st0 st){l n:Nat}(hn:n<a₀.size)(hl:l<n)(hs:Fg lt (ck st) l n)(h1:lt (G (ck st) (n-1)) (G (ck st) n)=false):Fg lt (ck st) l (n+1):=fun i j hi y hj=>by
 by_cases e:j<n
 ·exact hs i j hi y e
 ·have ej:j=n:=yw
  subst ej;by_cases e2:i=j
  ·rw[e2];exact O.irr (h.dd hn)
  ·exact O.tr _ (G (ck st) (j-1)) _ (h.dd hn) (h.dd yw) (h.dd yw) h1 (hs i (j-1) hi yw yw)
theorem Do(O:LtOk prog w A E s kd D lt){a₀:Array cz}{lo ag:Nat}{st0 st:ik}{Q:Option Nat->ik->Prop}(h:Tb kd D a₀ lo st0 st)(hn:lo+ag<=a₀.size)(h1:1<=ag)
  (q:∀m st',Tb kd D a₀ lo st0 st'->1<=m->m<=ag->Sg lt (ck st') lo (lo+m)->Q (some m) st'):wpS (model prog w) A E s (countRun' lo ag) Q st:=by
 refine bz (li (iw (a:=1)
  (I:=fun k c st'=>st'=st/\c=(none,k)/\Sg lt (ck st) lo (lo+k))
  (Q:=fun c st'=>st'=st/\∃n,c=(none,n)/\1<=n/\n<=ag/\Sg lt (ck st) lo (lo+n)/\(n=ag\/lt (G (ck st) (lo+n)) (G (ck st) (lo+n-1))=true)) ?step ?fin ⟨rfl,rfl,Sg.one O h yw⟩) ?post)
 case fin=>
  rintro c st' ⟨rfl,rfl,hs⟩;rw[show max 1 ag=ag by clear hn;omega]at hs ⊢;exact⟨rfl,ag,rfl,h1,dw _,hs,.inl rfl⟩
 case step=>
  rintro k c st' y ac ⟨rfl,rfl,hs⟩;refine bz (eG O h (i:=lo+k) (j:=lo+k-1) (by clear y h1;omega) (by clear y h1;omega) ?_);cases e:lt (G (ck st') (lo+k)) (G (ck st') (lo+k-1))with
  |true=>
   simp only[if_true];exact cf ⟨rfl,k,rfl,y,by clear y h1 hn;omega,hs,.inr e⟩
  |false=>
   simp only[fg,if_false];refine cf ⟨rfl,rfl,?_⟩;exact Sg.more (n:=lo+k) O h (by clear y h1;omega) (by clear ac h1 hn;omega) hs e
 case post=>
  rintro c st' ⟨rfl,n,rfl,n1,n2,hs,an⟩;dsimp only;by_cases hnn:n=ag
  ·rw[cu (by simpa using hnn)];exact cf (q n st' h n1 n2 hs)
  rw[cn (by simpa using hnn)];have au:=an.resolve_left hnn;by_cases hgt:n>1
  ·rw[cu hgt];refine bz (eG O h (i:=lo) (j:=lo+n-1) (by clear hgt hnn an n2 n1;omega) (by clear hgt hnn an n1;omega) ?_);cases e0:lt (G (ck st') lo) (G (ck st') (lo+n-1))with
   |true=>
    simp only[if_true];exact cf (q n st' h n1 n2 hs)
   |false=>
    simp only[fg,if_false];have aa:lo+n<=(ck st').size:=by rw[h.size];(clear hgt hnn an n1 h1;omega)
    have hal:∀p q,lo<=p->p<lo+n->lo<=q->q<lo+n->lt (G (ck st') p) (G (ck st') q)=false:=fun p q p1 p2 q1 q2=>by
     have s1:=hs lo q (dw _) q1 q2
     clear an hnn hgt aa
     have s2:=hs p (lo+n-1) p1 (by clear q2 q1 p1 n2 n1 h1 hn;omega) (by clear q2 q1 p2 p1 n2 h1 hn;omega);have d0:=h.dd (i:=lo) (by clear q2 q1 p2 p1 n2 n1;omega);have dn:=h.dd (i:=lo+n-1) (by clear q2 q1 p2 p1 n1;omega);have dp:=h.dd (i:=p) (by clear q2 q1 p1 n1 h1;omega);have dq:=h.dd (i:=q) (by clear q1 p2 p1 n1 h1;omega);have s3:=hs q (lo+n-1) q1 (by clear q1 p2 p1 n2 n1 h1 hn;omega) (by clear q2 q1 p2 p1 n2 h1 hn;omega);have s4:=hs lo p (dw _) p1 p2;by_cases hpq:p<=q
     ·exact O.tr _ (G (ck st') lo) _ dq d0 dp (O.tr _ (G (ck st') (lo+n-1)) _ dq dn d0 s3 e0) s4
     ·exact hs q p q1 (by clear q2 q1 p2 p1 n2 n1 h1 hn;omega) p2
    have hT:=h.mirror (i:=lo) (j:=lo+n) (dw _) (by clear aa hgt hnn an n1 h1;omega);have hF:Fg lt (ck (ph st' (mirror (ck st') lo (lo+n) ((lo+n-lo)/2)))) lo (lo+(n+1)):=by
     clear an hgt
     have aw:Fg lt (ck st') lo (lo+n):=fun p q p1 pq q2=>hal p q p1 (by clear p1 aa hnn n2 n1 h1 hn;omega) (by clear q2 aa hnn n2 n1 h1 hn;omega) q2;have av:=mD aa (dw _) aw fun p q p1 p2 q1 q2=>hal p q p1 p2 q1 q2;refine hW (n:=lo+n) O hT (by clear aa n1 h1;omega) (by clear aa hnn n2 h1 hn;omega) av ?_;show lt (G (mirror (ck st') lo (lo+n) _) (lo+n-1)) (G (mirror (ck st') lo (lo+n) _) (lo+n))=false;rw[uR aa (dw _),rP aa (by clear aa hnn n2 h1 hn;omega)];have d1:=h.dd (i:=lo+n) (by clear aa n1 h1;omega);have d2:=h.dd (i:=lo+n-1) (by clear aa hnn n1;omega);exact O.tr _ _ _ d1 d2 (h.dd (by clear aa hnn n2 n1;omega)) (O.asym _ _ d1 d2 au) e0
    refine bz (fE ?_)
    revert hT hF
    generalize (ph st' (mirror (ck st') lo (lo+n) ((lo+n-lo)/2)))=stA;intro hT hF;refine bz (wpS_lift (pc ⟨rfl,?_⟩));refine bz (li (iw (a:=n+1)
     (I:=fun k c st'=>Tb kd D a₀ lo st0 st'/\∃af,c=(none,k,af)/\Fg lt (ck st') lo (lo+k)/\af+1<=k/\Eg lt (ck st') (lo+k-(af+1)) (lo+k))
     (Q:=fun c st'=>Tb kd D a₀ lo st0 st'/\∃m af,c=(none,m,af)/\1<=m/\m<=ag/\Fg lt (ck st') lo (lo+m)/\af+1<=m/\Eg lt (ck st') (lo+m-(af+1)) (lo+m)) ?step2 ?fin2 ⟨hT,0,rfl,hF,by clear aa hgt hnn an n2 n1 h1 hn;omega,fun i j h1 h2 h3 h4=>by
      have e1:i=j:=by clear aa hgt hnn an n2 n1 hn;omega
      rw[e1];exact O.irr (hT.dd (by clear e1 h3 h2 h1 aa hgt an n1;omega))⟩) ?post2)
    case fin2=>
     rintro c ai ⟨ah,af,rfl,am,ae,ak⟩;rw[show max (n+1) ag=ag by clear ae aa hgt an n1 h1 hn;omega]at am ae ak ⊢;exact⟨ah,ag,af,rfl,by clear ae aa hgt hnn an n2 n1 hn;omega,dw _,am,ae,ak⟩
    case step2=>
     rintro k c ai y ac ⟨ah,af,rfl,am,ae,ak⟩
     clear an n2 hnn hgt n1
     refine bz (eG O ah (i:=lo+k) (j:=lo+k-1) (by clear ae y aa h1;omega) (by clear ae y aa h1;omega) ?_);have aa:lo+k<=(ck ai).size:=by rw[ah.size];(clear ae y aa h1;omega)
     cases e:lt (G (ck ai) (lo+k)) (G (ck ai) (lo+k-1))with
     |true=>
      simp only[if_true];by_cases hq0:af>0
      ·rw[cu hq0];have ap:=ah.mirror (i:=lo+k-(af+1)) (j:=lo+k) (by clear hq0 aa ac y h1 hn;omega) (by clear hq0 aa ae y h1;omega);refine bz (fE (cf ⟨ap,0,rfl,?_,by clear hq0 aa ae ac y h1 hn;omega,fun i j h1 h2 h3 h4=>by
        have e1:i=j:=by clear hq0 aa ae ac y hn;omega
        rw[e1];exact O.irr (ap.dd (by clear e1 h3 h2 h1 hq0 aa ae y;omega))⟩))
       refine hW (n:=lo+k) O ap (by clear hq0 aa ae y h1;omega) (by clear hq0 aa ae ac h1 hn;omega) (mD aa (by clear hq0 aa ac y h1 hn;omega) am ak) ?_;show lt (G (mirror (ck ai) (lo+k-(af+1)) (lo+k) _) (lo+k-1)) (G (mirror (ck ai) (lo+k-(af+1)) (lo+k) _) (lo+k))=false;rw[uR aa (dw _),rP aa (by clear hq0 aa ae ac h1 hn;omega)]
       clear ae aa hq0 h1
       have d1:=ah.dd (i:=lo+k) (by clear y;omega);have d2:=ah.dd (i:=lo+k-1) (by clear y;omega);have d3:=ah.dd (i:=lo+k-(af+1)) (by clear y;omega);exact O.tr _ _ _ d1 d2 d3 (O.asym _ _ d1 d2 e) (ak _ _ (by clear ac y hn;omega) (by clear ac hn;omega) (by clear ac y hn;omega) (by clear ac hn;omega))
      ·rw[cn hq0]
       clear ae aa hq0
       refine cf ⟨ah,0,rfl,?_,by clear ac y h1 hn;omega,fun i j h1 h2 h3 h4=>by
        have e1:i=j:=by clear ac y hn;omega
        rw[e1];exact O.irr (ah.dd (by clear e1 h3 h2 h1 y;omega))⟩
       exact hW (n:=lo+k) O ah (by clear y h1;omega) (by clear ac h1 hn;omega) am (O.asym _ _ (ah.dd (by clear y h1;omega)) (ah.dd (by clear y h1;omega)) e)
     |false=>
      simp only[fg,if_false];refine bz (eG O ah (i:=lo+k-1) (j:=lo+k) (by clear aa ae y h1;omega) (by clear aa ae y h1;omega) ?_);cases e2:lt (G (ck ai) (lo+k-1)) (G (ck ai) (lo+k))with
      |true=>
       simp only[if_true];exact cf ⟨ah,k,af,rfl,by clear aa ae ac h1 hn;omega,by clear aa ae y h1 hn;omega,am,ae,ak⟩
      |false=>
       simp only[fg,if_false];refine cf ⟨ah,af+1,rfl,hW (n:=lo+k) O ah (by clear aa ae y h1;omega) (by clear aa ae ac h1 hn;omega) am e2,by clear aa ac y h1 hn;omega,fun i j h1 h2 h3 h4=>?_⟩
       clear ae aa
       have dk:=ah.dd (i:=lo+k) (by clear h4 h3 h2 h1 y;omega);have dl:=ah.dd (i:=lo+k-1) (by clear h4 h3 h2 h1 y;omega);by_cases z1:i=lo+k
       ·rw[z1];by_cases z2:j=lo+k
        ·rw[z2];exact O.irr dk
        ·exact O.tr _ _ _ (ah.dd (by clear z2 z1 h3 h2 h1 y;omega)) dl dk (ak _ _ (by clear z2 z1 h4 h3 h2 h1 ac y hn;omega) (by clear z2 z1 h4 h3 h2 h1 ac hn;omega) (by clear z2 z1 h4 h2 h1 ac y hn;omega) (by clear z1 h3 h2 h1 ac y hn;omega)) e
       ·by_cases z2:j=lo+k
        ·rw[z2];exact O.tr _ _ _ dk dl (ah.dd (by clear z2 z1 h4 h3 h1 y;omega)) e2 (ak _ _ (by clear z2 z1 h4 h3 h2 ac y hn;omega) (by clear z2 h4 h3 h1 ac y hn;omega) (by clear z2 z1 h4 h3 h2 h1 ac y hn;omega) (by clear z2 z1 h4 h3 h2 h1 ac hn;omega))
        ·exact ak i j (by clear z2 z1 h4 h3 h2 ac y hn;omega) (by clear z2 h4 h3 h1 ac y hn;omega) (by clear z2 z1 h4 h2 h1 ac y hn;omega) (by clear z1 h3 h2 h1 ac y hn;omega)
    case post2=>
     rintro c ai ⟨ah,m,af,rfl,m1,m2,am,ae,ak⟩
     clear an n2 hnn hgt n1
     have aa:lo+m<=(ck ai).size:=by rw[ah.size];(clear ae m1 aa h1;omega)
     have ap:=ah.mirror (i:=lo+m-(af+1)) (j:=lo+m) (by clear aa m2 m1 h1 hn;omega) (by clear aa ae m1 h1;omega);have aq:=mD aa (by clear aa m2 m1 h1 hn;omega) am ak;by_cases hq0:af>0
     ·rw[cu hq0];refine bz (fE ?_);have aj:=ap.mirror (i:=lo) (j:=lo+m) (dw _) (by clear hq0 aa ae m1 h1;omega);have ao:Sg lt (ck (ph (ph ai (mirror (ck ai) (lo+m-(af+1)) (lo+m) ((lo+m-(lo+m-(af+1)))/2))) (mirror (mirror (ck ai) (lo+m-(af+1)) (lo+m) ((lo+m-(lo+m-(af+1)))/2)) lo (lo+m) ((lo+m-lo)/2)))) lo (lo+m):=pQ (by rw[mirror_size];exact aa) aq;refine bz (fE ?_)
      revert aj ao
      generalize (ph (ph ai (mirror (ck ai) (lo+m-(af+1)) (lo+m) ((lo+m-(lo+m-(af+1)))/2))) (mirror (mirror (ck ai) (lo+m-(af+1)) (lo+m) ((lo+m-(lo+m-(af+1)))/2)) lo (lo+m) ((lo+m-lo)/2)))=st4;intro aj ao;refine bz (li (iw (a:=m)
       (I:=fun k c st'=>st'=st4/\c=(none,k)/\Sg lt (ck st4) lo (lo+k))
       (Q:=fun c st'=>st'=st4/\∃n,c=(none,n)/\1<=n/\n<=ag/\Sg lt (ck st4) lo (lo+n)) ?step3 ?fin3 ⟨rfl,rfl,ao⟩) ?post3)
      case fin3=>
       rintro c al ⟨rfl,rfl,hs⟩;rw[show max m ag=ag by clear hq0 aa ae m1 h1 hn;omega]at hs ⊢;exact⟨rfl,ag,rfl,by clear hq0 aa ae m2 m1 hn;omega,dw _,hs⟩
      case step3=>
       rintro k c al y ac ⟨rfl,rfl,hs⟩
       clear ae aa hq0 m2 h1
       refine bz (eG O aj (i:=lo+k) (j:=lo+k-1) (by clear y m1;omega) (by clear y m1;omega) ?_);cases e:lt (G (ck al) (lo+k)) (G (ck al) (lo+k-1))with
       |true=>
        simp only[if_true];exact cf ⟨rfl,k,rfl,by clear ac hn;omega,by clear y m1 hn;omega,hs⟩
       |false=>
        simp only[fg,if_false];exact cf ⟨rfl,rfl,Sg.more (n:=lo+k) O aj (by clear y m1;omega) (by clear ac hn;omega) hs e⟩
      case post3=>
       rintro c al ⟨rfl,n',rfl,p1,p2,hs⟩;exact cf (q n' al aj p1 p2 hs)
     ·rw[cn hq0];have aj:=ah.mirror (i:=lo) (j:=lo+m) (dw _) (by clear hq0 aa ae m1 h1;omega);have ao:Sg lt (ck (ph ai (mirror (ck ai) lo (lo+m) ((lo+m-lo)/2)))) lo (lo+m):=pQ aa am;refine bz (fE ?_)
      revert aj ao
      generalize (ph ai (mirror (ck ai) lo (lo+m) ((lo+m-lo)/2)))=st4;intro aj ao;refine bz (li (iw (a:=m)
       (I:=fun k c st'=>st'=st4/\c=(none,k)/\Sg lt (ck st4) lo (lo+k))
       (Q:=fun c st'=>st'=st4/\∃n,c=(none,n)/\1<=n/\n<=ag/\Sg lt (ck st4) lo (lo+n)) ?step3 ?fin3 ⟨rfl,rfl,ao⟩) ?post3)
      case fin3=>
       rintro c al ⟨rfl,rfl,hs⟩;rw[show max m ag=ag by clear hq0 aa ae m1 h1 hn;omega]at hs ⊢;exact⟨rfl,ag,rfl,by clear hq0 aa ae m2 m1 hn;omega,dw _,hs⟩
      case step3=>
       rintro k c al y ac ⟨rfl,rfl,hs⟩
       clear ae aa hq0 m2 h1
       refine bz (eG O aj (i:=lo+k) (j:=lo+k-1) (by clear y m1;omega) (by clear y m1;omega) ?_);cases e:lt (G (ck al) (lo+k)) (G (ck al) (lo+k-1))with
       |true=>
        simp only[if_true];exact cf ⟨rfl,k,rfl,by clear ac hn;omega,by clear y m1 hn;omega,hs⟩
       |false=>
        simp only[fg,if_false];exact cf ⟨rfl,rfl,Sg.more (n:=lo+k) O aj (by clear y m1;omega) (by clear ac hn;omega) hs e⟩
      case post3=>
       rintro c al ⟨rfl,n',rfl,p1,p2,hs⟩;exact cf (q n' al aj p1 p2 hs)
  ·rw[cn hgt];have ar:n=1:=by clear hnn an n2 h1 hn;omega
   have hT:=h;have hF:Fg lt (ck st') lo (lo+(n+1)):=by
    subst ar
    clear an hgt n2 n1
    refine hW (n:=lo+1) O h yw (by clear hnn h1 hn;omega) (fun p q p1 pq q2=>?_) (O.asym _ _ (h.dd yw) (h.dd (by clear hnn;omega)) au);have e1:p=q:=by clear hnn h1 hn;omega
    rw[e1];exact O.irr (h.dd (by clear e1 pq p1 hnn;omega))
   refine bz (wpS_lift (pc ⟨rfl,?_⟩))
   clear an hgt n1 ar
   refine bz (li (iw (a:=n+1)
    (I:=fun k c st'=>Tb kd D a₀ lo st0 st'/\∃af,c=(none,k,af)/\Fg lt (ck st') lo (lo+k)/\af+1<=k/\Eg lt (ck st') (lo+k-(af+1)) (lo+k))
    (Q:=fun c st'=>Tb kd D a₀ lo st0 st'/\∃m af,c=(none,m,af)/\1<=m/\m<=ag/\Fg lt (ck st') lo (lo+m)/\af+1<=m/\Eg lt (ck st') (lo+m-(af+1)) (lo+m)) ?step2 ?fin2 ⟨hT,0,rfl,hF,by clear hnn n2 h1 hn;omega,fun i j h1 h2 h3 h4=>by
     have e1:i=j:=by clear hnn n2 hn;omega
     rw[e1];exact O.irr (hT.dd (by clear e1 h3 h2 h1;omega))⟩) ?post2)
   case fin2=>
    rintro c ai ⟨ah,af,rfl,am,ae,ak⟩;rw[show max (n+1) ag=ag by clear ae h1 hn;omega]at am ae ak ⊢;exact⟨ah,ag,af,rfl,by clear ae hnn n2 hn;omega,dw _,am,ae,ak⟩
   case step2=>
    rintro k c ai y ac ⟨ah,af,rfl,am,ae,ak⟩
    clear n2 hnn
    refine bz (eG O ah (i:=lo+k) (j:=lo+k-1) (by clear ae y h1;omega) (by clear ae y h1;omega) ?_);have aa:lo+k<=(ck ai).size:=by rw[ah.size];(clear ae y h1;omega)
    cases e:lt (G (ck ai) (lo+k)) (G (ck ai) (lo+k-1))with
    |true=>
     simp only[if_true];by_cases hq0:af>0
     ·rw[cu hq0];have ap:=ah.mirror (i:=lo+k-(af+1)) (j:=lo+k) (by clear hq0 aa ac y h1 hn;omega) (by clear hq0 aa ae y h1;omega);refine bz (fE (cf ⟨ap,0,rfl,?_,by clear hq0 aa ae ac y h1 hn;omega,fun i j h1 h2 h3 h4=>by
       have e1:i=j:=by clear hq0 aa ae ac y hn;omega
       rw[e1];exact O.irr (ap.dd (by clear e1 h3 h2 h1 hq0 aa ae y;omega))⟩))
      refine hW (n:=lo+k) O ap (by clear hq0 aa ae y h1;omega) (by clear hq0 aa ae ac h1 hn;omega) (mD aa (by clear hq0 aa ac y h1 hn;omega) am ak) ?_;show lt (G (mirror (ck ai) (lo+k-(af+1)) (lo+k) _) (lo+k-1)) (G (mirror (ck ai) (lo+k-(af+1)) (lo+k) _) (lo+k))=false;rw[uR aa (dw _),rP aa (by clear hq0 aa ae ac h1 hn;omega)]
      clear ae aa hq0 h1
      have d1:=ah.dd (i:=lo+k) (by clear y;omega);have d2:=ah.dd (i:=lo+k-1) (by clear y;omega);have d3:=ah.dd (i:=lo+k-(af+1)) (by clear y;omega);exact O.tr _ _ _ d1 d2 d3 (O.asym _ _ d1 d2 e) (ak _ _ (by clear ac y hn;omega) (by clear ac hn;omega) (by clear ac y hn;omega) (by clear ac hn;omega))
     ·rw[cn hq0]
      clear ae aa hq0
      refine cf ⟨ah,0,rfl,?_,by clear ac y h1 hn;omega,fun i j h1 h2 h3 h4=>by
       have e1:i=j:=by clear ac y hn;omega
       rw[e1];exact O.irr (ah.dd (by clear e1 h3 h2 h1 y;omega))⟩
      exact hW (n:=lo+k) O ah (by clear y h1;omega) (by clear ac h1 hn;omega) am (O.asym _ _ (ah.dd (by clear y h1;omega)) (ah.dd (by clear y h1;omega)) e)
    |false=>
     simp only[fg,if_false];refine bz (eG O ah (i:=lo+k-1) (j:=lo+k) (by clear aa ae y h1;omega) (by clear aa ae y h1;omega) ?_);cases e2:lt (G (ck ai) (lo+k-1)) (G (ck ai) (lo+k))with
     |true=>
      simp only[if_true];exact cf ⟨ah,k,af,rfl,by clear aa ae ac h1 hn;omega,by clear aa ae y h1 hn;omega,am,ae,ak⟩
     |false=>
      simp only[fg,if_false];refine cf ⟨ah,af+1,rfl,hW (n:=lo+k) O ah (by clear aa ae y h1;omega) (by clear aa ae ac h1 hn;omega) am e2,by clear aa ac y h1 hn;omega,fun i j h1 h2 h3 h4=>?_⟩
      clear ae aa
      have dk:=ah.dd (i:=lo+k) (by clear h4 h3 h2 h1 y;omega);have dl:=ah.dd (i:=lo+k-1) (by clear h4 h3 h2 h1 y;omega);by_cases z1:i=lo+k
      ·rw[z1]
       clear h2 z1 h1
       by_cases z2:j=lo+k
       ·rw[z2];exact O.irr dk
       ·exact O.tr _ _ _ (ah.dd (by clear z2 h3 y;omega)) dl dk (ak _ _ (by clear z2 h4 h3 ac y hn;omega) (by clear z2 h4 h3 ac hn;omega) (by clear z2 h4 ac y hn;omega) (by clear h3 ac y hn;omega)) e
      ·by_cases z2:j=lo+k
       ·rw[z2];exact O.tr _ _ _ dk dl (ah.dd (by clear z2 z1 h4 h3 h1 y;omega)) e2 (ak _ _ (by clear z2 z1 h4 h3 h2 ac y hn;omega) (by clear z2 h4 h3 h1 ac y hn;omega) (by clear z2 z1 h4 h3 h2 h1 ac y hn;omega) (by clear z2 z1 h4 h3 h2 h1 ac hn;omega))
       ·exact ak i j (by clear z2 z1 h4 h3 h2 ac y hn;omega) (by clear z2 h4 h3 h1 ac y hn;omega) (by clear z2 z1 h4 h2 h1 ac y hn;omega) (by clear z1 h3 h2 h1 ac y hn;omega)
   case post2=>
    rintro c ai ⟨ah,m,af,rfl,m1,m2,am,ae,ak⟩;have aa:lo+m<=(ck ai).size:=by rw[ah.size];(clear ae m1 hnn n2 h1;omega)
    have ap:=ah.mirror (i:=lo+m-(af+1)) (j:=lo+m) (by clear aa m2 m1 hnn n2 h1 hn;omega) (by clear aa ae m1 hnn n2 h1;omega);have aq:=mD aa (by clear aa m2 m1 hnn n2 h1 hn;omega) am ak
    clear n2 ae hnn
    by_cases hq0:af>0
    ·rw[cu hq0];refine bz (fE ?_);have aj:=ap.mirror (i:=lo) (j:=lo+m) (dw _) (by clear hq0 aa m1 h1;omega);have ao:Sg lt (ck (ph (ph ai (mirror (ck ai) (lo+m-(af+1)) (lo+m) ((lo+m-(lo+m-(af+1)))/2))) (mirror (mirror (ck ai) (lo+m-(af+1)) (lo+m) ((lo+m-(lo+m-(af+1)))/2)) lo (lo+m) ((lo+m-lo)/2)))) lo (lo+m):=pQ (by rw[mirror_size];exact aa) aq;refine bz (fE ?_)
     revert aj ao
     generalize (ph (ph ai (mirror (ck ai) (lo+m-(af+1)) (lo+m) ((lo+m-(lo+m-(af+1)))/2))) (mirror (mirror (ck ai) (lo+m-(af+1)) (lo+m) ((lo+m-(lo+m-(af+1)))/2)) lo (lo+m) ((lo+m-lo)/2)))=st4;intro aj ao;refine bz (li (iw (a:=m)
      (I:=fun k c st'=>st'=st4/\c=(none,k)/\Sg lt (ck st4) lo (lo+k))
      (Q:=fun c st'=>st'=st4/\∃n,c=(none,n)/\1<=n/\n<=ag/\Sg lt (ck st4) lo (lo+n)) ?step3 ?fin3 ⟨rfl,rfl,ao⟩) ?post3)
     case fin3=>
      rintro c al ⟨rfl,rfl,hs⟩;rw[show max m ag=ag by clear hq0 aa m1 h1 hn;omega]at hs ⊢;exact⟨rfl,ag,rfl,by clear hq0 aa m2 m1 hn;omega,dw _,hs⟩
     case step3=>
      rintro k c al y ac ⟨rfl,rfl,hs⟩
      clear aa hq0 m2 h1
      refine bz (eG O aj (i:=lo+k) (j:=lo+k-1) (by clear y m1;omega) (by clear y m1;omega) ?_);cases e:lt (G (ck al) (lo+k)) (G (ck al) (lo+k-1))with
      |true=>
       simp only[if_true];exact cf ⟨rfl,k,rfl,by clear ac hn;omega,by clear y m1 hn;omega,hs⟩
      |false=>
       simp only[fg,if_false];exact cf ⟨rfl,rfl,Sg.more (n:=lo+k) O aj (by clear y m1;omega) (by clear ac hn;omega) hs e⟩
     case post3=>
      rintro c al ⟨rfl,n',rfl,p1,p2,hs⟩;exact cf (q n' al aj p1 p2 hs)
    ·rw[cn hq0];have aj:=ah.mirror (i:=lo) (j:=lo+m) (dw _) (by clear hq0 aa m1 h1;omega);have ao:Sg lt (ck (ph ai (mirror (ck ai) lo (lo+m) ((lo+m-lo)/2)))) lo (lo+m):=pQ aa am;refine bz (fE ?_)
     revert aj ao
     generalize (ph ai (mirror (ck ai) lo (lo+m) ((lo+m-lo)/2)))=st4;intro aj ao;refine bz (li (iw (a:=m)
      (I:=fun k c st'=>st'=st4/\c=(none,k)/\Sg lt (ck st4) lo (lo+k))
      (Q:=fun c st'=>st'=st4/\∃n,c=(none,n)/\1<=n/\n<=ag/\Sg lt (ck st4) lo (lo+n)) ?step3 ?fin3 ⟨rfl,rfl,ao⟩) ?post3)
     case fin3=>
      rintro c al ⟨rfl,rfl,hs⟩;rw[show max m ag=ag by clear hq0 aa m1 h1 hn;omega]at hs ⊢;exact⟨rfl,ag,rfl,by clear hq0 aa m2 m1 hn;omega,dw _,hs⟩
     case step3=>
      rintro k c al y ac ⟨rfl,rfl,hs⟩
      clear aa hq0 m2 h1
      refine bz (eG O aj (i:=lo+k) (j:=lo+k-1) (by clear y m1;omega) (by clear y m1;omega) ?_);cases e:lt (G (ck al) (lo+k)) (G (ck al) (lo+k-1))with
      |true=>
       simp only[if_true];exact cf ⟨rfl,k,rfl,by clear ac hn;omega,by clear y m1 hn;omega,hs⟩
      |false=>
       simp only[fg,if_false];exact cf ⟨rfl,rfl,Sg.more (n:=lo+k) O aj (by clear y m1;omega) (by clear ac hn;omega) hs e⟩
     case post3=>
      rintro c al ⟨rfl,n',rfl,p1,p2,hs⟩;exact cf (q n' al aj p1 p2 hs)
theorem Fr(O:LtOk prog w A E s kd D lt){a₀:Array cz}{lo n ok:Nat}{st0 st:ik}{Q:Bool->ik->Prop}(h:Tb kd D a₀ lo st0 st)(hn:lo+n<=a₀.size)(h1:1<=ok)(hok:ok<=n)(hs:Sg lt (ck st) lo (lo+ok))
  (q:∀st',Tb kd D a₀ lo st0 st'->Sg lt (ck st') lo (lo+n)->Q true st'):wpS (model prog w) A E s (binarySort' lo n ok) Q st:=by
 refine bz (li (iw (a:=max ok 1)
  (I:=fun k c st'=>c=(none,())/\Tb kd D a₀ lo st0 st'/\Sg lt (ck st') lo (lo+k))
  (Q:=fun c st'=>c=(none,())/\Tb kd D a₀ lo st0 st'/\Sg lt (ck st') lo (lo+n)) ?step ?fin ⟨rfl,h,by rw[show max ok 1=ok by omega];exact hs⟩) ?post)
 case fin=>
  rintro c st' ⟨rfl,hT,hS⟩;rw[show max (max ok 1) n=n by omega]at hS;exact⟨rfl,hT,hS⟩
 case post=>
  rintro c st' ⟨rfl,hT,hS⟩;exact cf (q st' hT hS)
 case step=>
  rintro k c st' ae af ⟨rfl,hT,hS⟩;have k1:1<=k:=yw
  refine bz (li (iw (a:=0)
   (I:=fun j c y=>y=st'/\∃l r,c=(none,l,r)/\l<=r/\r<=k/\r-l+j<=k/\(∀i,i<l->lt (G (ck st') (lo+k)) (G (ck st') (lo+i))=false)/\∀i,r<=i->i<k->lt (G (ck st') (lo+k)) (G (ck st') (lo+i))=true)
   (Q:=fun c y=>y=st'/\∃l,c=(none,l,l)/\l<=k/\(∀i,i<l->lt (G (ck st') (lo+k)) (G (ck st') (lo+i))=false)/\∀i,l<=i->i<k->lt (G (ck st') (lo+k)) (G (ck st') (lo+i))=true) ?step2 ?fin2 ⟨rfl,0,k,rfl,yw,yw,yw,fun i hi=>by omega,fun i h1 h2=>by omega⟩) ?post2)
  case fin2=>
   rintro c y ⟨rfl,l,r,rfl,a1,a2,a3,a4,a5⟩;have:l=r:=yw
   subst this;exact⟨rfl,l,rfl,a2,a4,a5⟩
  case step2=>
   rintro j c y _ hj ⟨rfl,l,r,rfl,a1,a2,a3,a4,a5⟩;by_cases hlr:l≥r
   ·rw[cu hlr];have:l=r:=yw
    subst this;exact cf ⟨rfl,l,rfl,a2,a4,a5⟩
   rw[cn hlr];have hm:(l+r)/2<k:=yw
   refine bz (eG O hT (i:=lo+k) (j:=lo+(l+r)/2) yw yw ?_);have dk:=hT.dd (i:=lo+k) yw;have dm:=hT.dd (i:=lo+(l+r)/2) yw;cases e:lt (G (ck y) (lo+k)) (G (ck y) (lo+(l+r)/2))with
   |true=>
    simp only[if_true];refine cf ⟨rfl,l,(l+r)/2,rfl,yw,yw,yw,a4,fun i i1 i2=>?_⟩;have di:=hT.dd (i:=lo+i) yw;cases e2:lt (G (ck y) (lo+k)) (G (ck y) (lo+i))with
    |true=>rfl
    |false=>
     have:=O.tr _ _ _ dm di dk (hS (lo+(l+r)/2) (lo+i) yw yw yw) e2;rw[this]at e;cases e
   |false=>
    simp only[fg,if_false];refine cf ⟨rfl,(l+r)/2+1,r,rfl,yw,yw,yw,fun i i1=>?_,a5⟩;exact O.tr _ _ _ (hT.dd yw) dm dk (hS (lo+i) (lo+(l+r)/2) yw yw yw) e
  case post2=>
   rintro c y ⟨rfl,l,rfl,l1,l2,l3⟩;have aa:lo+k<(ck y).size:=by rw[hT.size];omega
   have hd:lo+k-(lo+l)=k-l:=yw
   refine bz (ni (cf ⟨rfl,hT.bubble (src:=lo+k) (d:=lo+k-(lo+l)) yw yw yw,?_⟩));intro i j hi ac hj;show lt (G (bubble (ck y) (lo+k) (lo+k-(lo+l))) j) (G (bubble (ck y) (lo+k) (lo+k-(lo+l))) i)=false;rw[u3 aa yw,u3 aa yw,show lo+k-(lo+k-(lo+l))=lo+l by omega];have dk:=hT.dd (i:=lo+k) yw;by_cases i1:i=lo+l
   ·rw[cu i1];by_cases j1:j=lo+l
    ·rw[cu j1];exact O.irr dk
    ·rw[cn j1,cu yw];have:=l3 (j-1-lo) yw yw;rw[show lo+(j-1-lo)=j-1 by omega]at this;exact O.asym _ _ dk (hT.dd yw) this
   ·rw[cn i1];by_cases i2:lo+l<i/\i<=lo+k
    ·rw[cu i2,cn yw,cu yw];exact hS _ _ yw yw yw
    ·rw[cn i2];by_cases j1:j=lo+l
     ·rw[cu j1];have:=l2 (i-lo) yw;rw[show lo+(i-lo)=i by omega]at this;exact this
     ·rw[cn j1];by_cases j2:lo+l<j/\j<=lo+k
      ·rw[cu j2];exact hS _ _ yw yw yw
      ·rw[cn j2];exact hS i j hi ac yw
structure Ts(kd:qz)(D:cz->Prop)(a₀:Array cz)(st:ik):Prop where
 kd:kindOf st=kd
 fl:sk st=none
 pm:(ck st).Perm a₀
 d:∀x∈a₀.toList,D x
section
variable {a₀:Array cz}{st:ik}
theorem Ts.size(h:Ts kd D a₀ st):(ck st).size=a₀.size:=h.pm.size_eq
theorem Ts.mem(h:Ts kd D a₀ st){x:cz}(m:x∈(ck st).toList):D x:=h.d x ((Array.perm_iff_toList_perm.mp h.pm).mem_iff.mp m)
theorem Ts.at(h:Ts kd D a₀ st){i:Nat}(hi:i<a₀.size):(ck st)[i]?=some (G (ck st) i):=uT (by rw[h.size];exact hi)
theorem Ts.dd(h:Ts kd D a₀ st){i:Nat}(hi:i<a₀.size):D (G (ck st) i):=h.mem (bw (by rw[<- zX];exact h.at hi))
theorem Ts.tb(h:Ts kd D a₀ st)(lo:Nat):Tb kd D a₀ lo st st:=⟨h.kd,h.fl,h.pm,rfl,fun _ _=>rfl,h.d⟩
end
theorem wN{xs:Array cz}{i:Nat}{x:cz}(h:xs.toList[i]?=some x):G xs i=x:=by
 unfold G;rw[zX.mpr h];rfl
theorem wD(s:Nat):∀(l:List cz) (k:Nat) (xs:Array cz),s+k+l.length<=xs.size->((l.zipIdx k).foldl (fun a p=>a.setIfInBounds (s+p.2) p.1) xs).toList=xs.toList.take (s+k)++l++xs.toList.drop (s+k+l.length)
 | [],k,xs,_=>by simp
 |x::l,k,xs,h=>by
  rw[im]at h;rw[List.zipIdx_cons,List.foldl_cons,wD s l (k+1) _ (by rw[Array.size_setIfInBounds];omega)];simp only[Array.toList_setIfInBounds];have hl:s+k<xs.toList.length:=by simp;omega
  have e1:(xs.toList.set (s+k) x).take (s+(k+1))=xs.toList.take (s+k)++[x]:=by
   rw[show s+(k+1)=s+k+1 by omega,take_add_one,pj hl,List.take_set_of_le (dw _)];rfl
  have e2:(xs.toList.set (s+k) x).drop (s+(k+1)+l.length)=xs.toList.drop (s+k+(x::l).length):=by
   rw[List.drop_set_of_lt yw,im];congr 1;omega
  rw[e1,e2];simp
theorem F6{x:ik}{Q:PUnit->ik->Prop}{st:ik}(h:Q ⟨⟩ x):wpS (model prog w) A E s (set x:StateT ik Sem PUnit) Q st:=by
 unfold wpS;rw[StateT.run_set];exact cr ⟨rfl,h⟩
theorem kA{xs:Array cz}{lo hi:Nat}(hh:hi<=xs.size){x:cz}(m:x∈(xs.extract lo hi).toList):∃r,lo<=r/\r<hi/\G xs r=x:=by
 rw[pd,ke]at m;obtain⟨j,hj⟩:=mem_iff_getElem?.mp m;rw[getElem?_take]at hj;split at hj
 ·rw[rf]at hj;exact⟨lo+j,by clear hh;omega,by clear hh;omega,wN hj⟩
 ·cases hj
theorem uA{xs:Array cz}{lo hi j:Nat}(hh:hi<=xs.size)(hj:j<hi-lo):(xs.extract lo hi)[j]?=some (G xs (lo+j)):=by
 rw[zX,pd,ke,getElem?_take,cu yw,rf,<- zX];exact uT yw
theorem yH{xs:Array cz}{lo hi:Nat}(hh:hi<=xs.size)(h:Sg lt xs lo hi):SrtL lt (xs.extract lo hi).toList:=by
 unfold SrtL;rw[List.pairwise_iff_getElem];intro i j aa y ac;have e1:=cy aa;have e2:=cy y;have hl:(xs.extract lo hi).toList.length=hi-lo:=by simp;omega
 rw[<- zX,uA hh yw]at e1 e2;rw[<- gv e1,<- gv e2];exact h _ _ yw yw yw
theorem IK(O:LtOk prog w A E s kd D lt){a₀:Array cz}{i sa na pw sb nb az:Nat}{st:ik}{Q:Bool->ik->Prop}(h:Ts kd D a₀ st)(e1:(df st)[i]?=some (sa,na,pw))(e2:(df st)[i+1]?=some (sb,nb,az))(aa:sb=sa+na)(ae:1<=na)(ac:1<=nb)(ah:sb+nb<=a₀.size)
  (sA:Sg lt (ck st) sa (sa+na)) (sB:Sg lt (ck st) sb (sb+nb))
  (q:∀st',Ts kd D a₀ st'->df st'=((df st).setIfInBounds i (sa,na+nb,pw)).eraseIdxIfInBounds (i+1)->(∀j,j<sa\/sa+na+nb<=j->G (ck st') j=G (ck st) j)->Sg lt (ck st') sa (sa+na+nb)->Q true st'):wpS (model prog w) A E s (mergeAt' i) Q st:=by
 refine bz (tq ?_);simp only[e1,e2];have af:(ck st).size=a₀.size:=h.size;refine bz (F6 ?_);refine bz (zw (h.at (i:=sb) (by clear af ae aa;omega)) ?_);refine bz (gal O (key:=G (ck st) sb) (hint:=0) h.kd (h.dd (by clear af ae aa;omega)) (fun j h1 h2=>⟨_,h.at (by clear h1 af ac ae;omega),h.dd (by clear h1 af ac ae;omega)⟩) (fun i j x y h1 h2 h3 ex ey=>by
  rw[h.at (by clear h1 af ac ae;omega)]at ex ey;cases ex;cases ey;exact sA i j h1 h2 h3) (by clear af ah ac aa;omega) fun k hk g1 g2=>?_)
 dsimp only;have au:∀j,sa<=j->j<sa+k->lt (G (ck st) sb) (G (ck st) j)=false:=fun j h1 h2=>by
  have:=g1 j _ h1 h2 (h.at (by clear h1 af ac ae;omega));simpa[bey]using this
 have a3:∀j,sa+k<=j->j<sa+na->lt (G (ck st) sb) (G (ck st) j)=true:=fun j h1 h2=>by
  have:=g2 j _ h1 h2 (h.at (by clear h1 hk af ac ae;omega));simpa[bey]using this
 by_cases c1:na-k=0
 ·rw[cu (by simpa using c1)];refine cf (q _ ⟨h.kd,h.fl,h.pm,h.d⟩ rfl (fun j _=>rfl) fun p r hp ag hr=>?_);show lt (G (ck st) r) (G (ck st) p)=false
  clear hk ae af
  by_cases z1:r<sa+na
  ·exact sA p r hp ag z1
  ·by_cases z2:p<sa+na
   ·exact O.tr _ _ _ (h.dd (by clear z2 z1 hp c1 ac;omega)) (h.dd (i:=sb) (by clear z2 z1 hr ag hp c1 aa;omega)) (h.dd (by clear z2 z1 ag hp c1 ac;omega)) (au p hp (by clear z1 hr ag hp ah ac aa;omega)) (sB sb r (dw _) (by clear z2 hr ag hp c1 ah ac;omega) (by clear z2 z1 ag hp c1 ah ac;omega))
   ·exact sB p r (by clear z1 hr ag hp c1 ah ac;omega) ag (by clear z2 z1 ag hp c1 ah ac;omega)
 rw[cn (by simpa using c1)];have ei:sa+k+(na-k)-1=sb-1:=by clear c1 af ah ac ae;omega
 rw[ei];refine bz (zw (h.at (i:=sb-1) (by clear ei c1 hk af ac;omega)) ?_);refine bz (gal O (key:=G (ck st) (sb-1)) (hint:=nb-1) h.kd (h.dd (by clear ei c1 hk af ac;omega)) (fun j h1 h2=>⟨_,h.at (by clear h1 ei c1 hk af ac ae aa;omega),h.dd (by clear h1 ei c1 hk af ac ae aa;omega)⟩) (fun i j x y h1 h2 h3 ex ey=>by
  rw[h.at (by clear h1 ei c1 hk af ac ae aa;omega)]at ex ey;cases ex;cases ey;exact sB i j h1 h2 h3) (by clear ei c1 hk af ah ae aa;omega) fun m hm f1 f2=>?_)
 dsimp only;have av:∀j,sb<=j->j<sb+m->lt (G (ck st) j) (G (ck st) (sb-1))=true:=fun j h1 h2=>by
  have:=f1 j _ h1 h2 (h.at (by clear h1 ei c1 hk af ac ae aa;omega));simpa[bey]using this
 have aq:∀j,sb+m<=j->j<sb+nb->lt (G (ck st) j) (G (ck st) (sb-1))=false:=fun j h1 h2=>by
  have:=f2 j _ h1 h2 (h.at (by clear h1 hm ei c1 hk af ac ae aa;omega));simpa[bey]using this
 by_cases c2:m=0
 ·rw[cu (by simpa using c2)];refine cf (q _ ⟨h.kd,h.fl,h.pm,h.d⟩ rfl (fun j _=>rfl) fun p r hp ag hr=>?_);show lt (G (ck st) r) (G (ck st) p)=false
  clear hm hk ac c1 ei af
  by_cases z1:r<sa+na
  ·exact sA p r hp ag z1
  ·by_cases z2:p<sa+na
   ·exact O.tr _ _ _ (h.dd (by clear z2 z1 hp c2 ae;omega)) (h.dd (i:=sb-1) (by clear z2 z1 hr ag hp c2;omega)) (h.dd (by clear z2 z1 ag hp c2 ae;omega)) (sA p (sb-1) hp (by clear z1 hr ag hp c2 ah ae;omega) (by clear z2 z1 hr ag hp c2 ah;omega)) (aq r (by clear z2 hr ag hp ah ae;omega) (by clear z2 z1 ag hp c2 ah ae;omega))
   ·exact sB p r (by clear z1 hr ag hp c2 ah ae;omega) ag (by clear z2 z1 ag hp c2 ah ae;omega)
 rw[cn (by simpa using c2)];have xD:∀x∈((ck st).extract (sa+k) sb).toList,D x:=fun x mx=>by
  obtain⟨r,r1,r2,rfl⟩:=kA (by clear c2 hm ei c1 hk ac ae aa;omega) mx;exact h.dd (by clear r1 c2 hm ei c1 hk af ac ae aa;omega)
 have yD:∀x∈((ck st).extract sb (sb+m)).toList,D x:=fun x mx=>by
  obtain⟨r,r1,r2,rfl⟩:=kA (by clear c2 ei c1 hk ac ae aa;omega) mx;exact h.dd (by clear r1 c2 ei c1 hk af ac ae aa;omega)
 have xS:=yH (lt:=lt) (xs:=ck st) (lo:=sa+k) (hi:=sb) (by clear c2 hm ei c1 hk ac ae aa;omega) fun p r h1 h2 h3=>sA p r (by clear h3 h2 c2 hm ei c1 hk af ah ac ae aa;omega) h2 (by clear h2 h1 c2 hm ei c1 hk af ah ac ae;omega);have yS:=yH (lt:=lt) (xs:=ck st) (lo:=sb) (hi:=sb+m) (by clear c2 ei c1 hk ac ae aa;omega) fun p r h1 h2 h3=>sB p r (by clear h3 h2 c2 hm ei c1 hk af ah ac ae aa;omega) h2 (by clear h2 h1 c2 ei c1 hk af ah ac ae aa;omega);have xz:((ck st).extract (sa+k) sb).size=sb-(sa+k):=by simp;(clear c2 hm ei c1 hk ac ae aa;omega)
 have yz:((ck st).extract sb (sb+m)).size=m:=by simp;(clear xz c2 ei c1 hk ac ae aa;omega)
 have y0:∀y,((ck st).extract sb (sb+m))[0]?=some y->∀x∈((ck st).extract (sa+k) sb).toList,lt x y=false:=fun y ey x mx=>by
  clear hk yz xz c1 ae ei
  rw[uA (by clear c2 ac aa;omega) (by clear hm af ah ac aa;omega)]at ey;cases ey;obtain⟨r,r1,r2,rfl⟩:=kA (by clear c2 hm ac aa;omega) mx;exact O.asym _ _ (h.dd (by clear r2 r1 c2 hm af aa;omega)) (h.dd (by clear r1 c2 hm af ac aa;omega)) (a3 r r1 (by clear r1 c2 hm af ah ac;omega))
 have xl:∀x,((ck st).extract (sa+k) sb)[((ck st).extract (sa+k) sb).size-1]?=some x->∀y∈((ck st).extract sb (sb+m)).toList,lt x y=false:=fun x ex y my=>by
  clear hk yz c2 ac ei
  rw[xz,uA (by clear xz hm c1 ae aa;omega) (by clear xz hm af ah ae;omega)]at ex;cases ex;obtain⟨r,r1,r2,rfl⟩:=kA (by clear xz c1 ae aa;omega) my;rw[show sa+k+(sb-(sa+k)-1)=sb-1 by clear r2 r1 xz hm af ah ae;omega];exact O.asym _ _ (h.dd (by clear r1 xz c1 af ae aa;omega)) (h.dd (by clear r2 r1 xz hm c1 af;omega)) (av r r1 r2)
 have fin:∀(out:Array cz) (st':ik) (am:ik),MDone lt (((ck st).extract (sa+k) sb).toList++((ck st).extract sb (sb+m)).toList) out.toList->sameSt am st'->ck am=ck st->kindOf am=kindOf st->sk am=sk st->df am=((df st).setIfInBounds i (sa,na+nb,pw)).eraseIdxIfInBounds (i+1) ->
   ∀aj:ik,kindOf aj=kindOf st'->sk aj=sk st'->df aj=df st'->ck aj=ql (fun a x=>a.setIfInBounds (sa+k+x.snd) x.fst) (ck st') out.toList.zipIdx->Q true aj/\sk aj=none:=fun out st' am hd an ax a4 a1 ay aj ek ef ep ea=>by
  obtain⟨s1,s2,s3,s4⟩:=an;have ai:out.toList.length=sb-(sa+k)+m:=by
   have:=hd.1.length_eq;rw[fx]at this;simp only[nj]at this ⊢
   (clear c2 hm ei c1 hk af ah ac ae aa;omega)
  rw[s2,ax]at ea;have hw:=wD (sa+k) out.toList 0 (ck st) (by clear yz xz c2 ei c1 ac ae;omega);have ht:(ck aj).toList=(ck st).toList.take (sa+k)++out.toList++(ck st).toList.drop (sb+m):=by
   rw[ea];rw[sq]at hw;rw[hw];congr 2
   (clear yz xz c2 hm ei c1 af ah ac ae;omega)
  have a0:(ck aj).Perm (ck st):=by
   rw[Array.perm_iff_toList_perm,ht];have e0:(ck st).toList=(ck st).toList.take (sa+k)++(((ck st).extract (sa+k) sb).toList++((ck st).extract sb (sb+m)).toList)++(ck st).toList.drop (sb+m):=by
    rw[pd,pd,ke,ke,ly,ly,show sb+m-sb=m by clear ai yz xz c2 hm ei c1 hk af ah ac ae aa;omega];have q1:(ck st).toList.drop (sb+m)=((ck st).toList.drop sb).drop m:=by rw[List.drop_drop]
    rw[q1,ou];have q2:(ck st).toList.drop sb=((ck st).toList.drop (sa+k)).drop (sb-(sa+k)):=by rw[List.drop_drop];congr 1;(clear ai yz xz c2 hm ei c1 af ah ac ae;omega)
    rw[q2,ou,ou]
   conv=>rhs;rw[e0]
   exact(hd.1.append_left _).append_right _
  have ar:Ts kd D a₀ aj:=⟨ek.trans (s1.trans (a4.trans h.kd)),ef.trans (s4.trans (a1.trans h.fl)),a0.trans h.pm,h.d⟩;have tl:((ck st).toList.take (sa+k)).length=sa+k:=by rw[kz,nj];(clear ai yz xz c2 hm ei c1 ac ae;omega)
  have ak:∀j,j<sa+k\/sb+m<=j->G (ck aj) j=G (ck st) j:=fun j hj=>by
   unfold G;congr 1;rw[<- qy,<- qy,ht]
   clear hm yz c2 xz ac c1 ae ah ei af
   rcases hj with hj|hj
   ·rw[ly,fy (by clear ai hk aa;omega),getElem?_take,cu hj]
   ·rw[List.getElem?_append_right (by rw[fx,tl,ai];(clear tl ai;omega)),fx,tl,ai,rf];congr 1
    (clear tl ai;omega)
  have ap:∀j,sa+k<=j->j<sb+m->∃z,out.toList[j-(sa+k)]?=some z/\G (ck aj) j=z/\∃r,sa+k<=r/\r<sb+m/\G (ck st) r=z:=fun j h1 h2=>by
   have hj:j-(sa+k)<out.toList.length:=by clear h1 tl yz xz c2 hm ei hk af ah ac ae;omega
   have ez:=cy hj
   clear yz ai h2 c2 xz ac c1 ae ei
   refine⟨_,ez,wN ?_,?_⟩
   ·rw[ht,ly,List.getElem?_append_right (by clear hm hk af ah aa;omega),tl,fy hj];exact ez
   ·have mz:=hd.1.mem_iff.mp (bw ez);rcases mem_append.mp mz with mz|mz
    ·obtain⟨r,r1,r2,r3⟩:=kA (by clear h1 tl hm hk aa;omega) mz;exact⟨r,r1,by clear r1 h1 tl hm hk af ah aa;omega,r3⟩
    ·obtain⟨r,r1,r2,r3⟩:=kA (by clear h1 tl hk aa;omega) mz;exact⟨r,by clear r2 h1 tl hm af ah;omega,r2,r3⟩
  refine⟨q aj ar (ep.trans (s3.trans ay)) (fun j hj=>ak j (by clear tl ai yz xz c2 ei c1 hk af ah ac ae;omega)) fun p r hp ag hr=>?_,ar.fl⟩;have up:∀p q',sa<=p->p<sa+k->sb<=q'->q'<sb+nb->lt (G (ck st) q') (G (ck st) p)=false:=fun p q' p1 p2 q1 q2=>O.tr _ _ _ (h.dd (by clear q2 q1 p1 hr ag hp tl ai yz xz c2 hm ei c1 af ac ae;omega)) (h.dd (i:=sb) (by clear q2 q1 p2 p1 hr ag hp tl ai yz xz c2 hm ei c1 hk af ae aa;omega)) (h.dd (by clear q1 p2 p1 hr ag hp tl ai yz xz c2 hm ei c1 hk af ac ae aa;omega)) (au p p1 p2) (sB sb q' (dw _) q1 q2);have dn:∀p q',sa<=p->p<sb->sb+m<=q'->q'<sb+nb->lt (G (ck st) q') (G (ck st) p)=false:=fun p q' p1 p2 q1 q2=>O.tr _ _ _ (h.dd (by clear q2 q1 p1 hr ag hp tl ai yz xz c2 hm ei c1 hk af ac ae aa;omega)) (h.dd (i:=sb-1) (by clear q2 q1 p2 p1 hr ag hp tl ai yz xz c2 hm ei c1 hk af ac;omega)) (h.dd (by clear q1 p2 p1 hr ag hp tl ai yz xz c2 hm ei c1 hk af ac ae aa;omega)) (sA p (sb-1) p1 (by clear q2 q1 p1 hr ag hp tl ai yz xz c2 hm ei c1 hk af ah ac ae aa;omega) (by clear q2 q1 p2 p1 hr ag hp tl ai yz xz c2 hm ei c1 hk af ah ac;omega)) (aq q' q1 q2)
  clear yz ai c2 xz ac c1 ae ah ei tl af
  by_cases p1:p<sa+k
  ·rw[ak p (.inl p1)];by_cases r1:r<sa+k
   ·rw[ak r (.inl r1)];exact sA p r hp ag (by clear p1 hr ag hp hm aa;omega)
   clear ag hk
   by_cases r2:sb+m<=r
   ·rw[ak r (.inr r2)];exact up p r hp p1 (by clear r1 p1 hr hp hm aa;omega) (by clear r2 r1 p1 hp hm;omega)
   ·obtain⟨z,_,ez,t,t1,t2,t3⟩:=ap r (by clear r2 p1 hr hp hm aa;omega) (by clear r1 p1 hr hp hm aa;omega);rw[ez,<- t3];by_cases tb:t<sb
    ·exact sA p t hp (by clear tb t2 r2 r1 hr hp hm aa;omega) (by clear t2 t1 r2 r1 p1 hr hp hm;omega)
    ·exact up p t hp p1 (by clear t2 t1 r2 r1 p1 hr hp hm aa;omega) (by clear tb t1 r2 r1 p1 hr hp aa;omega)
  clear hp hm hk
  by_cases p2:sb+m<=p
  ·rw[ak p (.inr p2),ak r (.inr (by clear p1 hr aa;omega))];exact sB p r (by clear p1 hr ag aa;omega) ag (by clear p2 p1 ag;omega)
  obtain⟨z,oz,ez,t,t1,t2,t3⟩:=ap p (by clear p2 hr ag aa;omega) (by clear p1 hr ag aa;omega);by_cases r2:sb+m<=r
  ·rw[ak r (.inr r2),ez,<- t3]
   clear ag p1 p2
   by_cases tb:t<sb
   ·exact dn t r (by clear tb r2 t2 hr aa;omega) tb r2 (by clear tb r2 t2 t1;omega)
   ·exact sB t r (by clear r2 t2 t1 hr aa;omega) (by clear tb t1 hr aa;omega) (by clear tb r2 t2 t1;omega)
  ·obtain⟨z',a2,aw,_⟩:=ap r (by clear r2 t2 t1 p2 hr aa;omega) (by clear t2 t1 p2 p1 hr ag aa;omega);rw[ez,aw];exact cA O hd.2 (fun x mx=>by
    rcases mem_append.mp (hd.1.mem_iff.mp mx)with mx|mx
    ·exact xD x mx
    ·exact yD x mx) (show p-(sa+k)<=r-(sa+k) by clear r2 t2 t1 p2 p1 hr aa;omega) oz a2
 clear hm hk ac ae ah ei af
 have al:1<=((ck st).extract (sa+k) sb).size:=by rw[xz];(clear yz xz c2;omega)
 have ao:1<=((ck st).extract sb (sb+m)).size:=by rw[yz];(clear al yz xz c1 aa;omega)
 have al:1<=((ck st).extract (sa+k) sb).size:=by rw[xz];(clear ao al yz xz c2;omega)
 have ao:1<=((ck st).extract sb (sb+m)).size:=by rw[yz];(clear al ao yz xz c1 aa;omega)
 by_cases c3:na-k<=m
 ·rw[cu c3];refine bz (EG O h.kd xD yD xS yS al ao y0 xl fun out st' hd an=>?_);refine bz (ni (bz (tq ?_)));obtain⟨z1,z2⟩:=fin out st' _ hd an rfl rfl rfl rfl (ph st' (ql (fun a x=>a.setIfInBounds (sa+k+x.snd) x.fst) (ck st') out.toList.zipIdx)) rfl rfl rfl rfl;refine cf ?_;show Q (sk (ph st' (ql (fun a x=>a.setIfInBounds (sa+k+x.snd) x.fst) (ck st') out.toList.zipIdx))).isNone (ph st' (ql (fun a x=>a.setIfInBounds (sa+k+x.snd) x.fst) (ck st') out.toList.zipIdx));rw[z2];exact z1
 ·rw[cn c3];refine bz (EJ O h.kd xD yD xS yS al ao y0 xl fun out st' hd an=>?_);refine bz (ni (bz (tq ?_)));obtain⟨z1,z2⟩:=fin out st' _ hd an rfl rfl rfl rfl (ph st' (ql (fun a x=>a.setIfInBounds (sa+k+x.snd) x.fst) (ck st') out.toList.zipIdx)) rfl rfl rfl rfl;refine cf ?_;show Q (sk (ph st' (ql (fun a x=>a.setIfInBounds (sa+k+x.snd) x.fst) (ck st') out.toList.zipIdx))).isNone (ph st' (ql (fun a x=>a.setIfInBounds (sa+k+x.snd) x.fst) (ck st') out.toList.zipIdx));rw[z2];exact z1
def Stk(lt:cz->cz->Bool)(xs:Array cz):Nat->List (Nat×Nat×Nat)->Nat->Prop
 |s,[],e=>s=e
 |s,r::p,e=>r.1=s/\1<=r.2.1/\Sg lt xs s (s+r.2.1)/\Stk lt xs (s+r.2.1) p e
theorem Stk.le{xs:Array cz}:∀{p:List (Nat×Nat×Nat)}{s e:Nat},Stk lt xs s p e->s+p.length<=e
 | [],s,e,h=>by have:s=e:=h;simp;omega
 |r::p,s,e,h=>by
  obtain⟨h1,h2,h3,h4⟩:=h;have:=Stk.le h4;rw[im]
  (clear h1;omega)
theorem Stk.mono{xs ys:Array cz}:∀{p:List (Nat×Nat×Nat)}{s e:Nat},Stk lt xs s p e->(∀i,s<=i->i<e->G ys i=G xs i)->Stk lt ys s p e
 | [],s,e,h,_=>h
 |r::p,s,e,h,k=>by
  obtain⟨h1,h2,h3,h4⟩:=h;have:=Stk.le h4;refine⟨h1,h2,fun i j hi y hj=>?_,Stk.mono h4 fun i hi hj=>k i yw hj⟩;rw[k i yw yw,k j yw yw];exact h3 i j hi y hj
theorem Stk.push{xs:Array cz}{n w':Nat}:∀{p:List (Nat×Nat×Nat)}{s e:Nat},Stk lt xs s p e->1<=n->Sg lt xs e (e+n)->Stk lt xs s (p++[(e,n,w')]) (e+n)
 | [],s,e,h,h1,h2=>by
  have:s=e:=h;subst this;exact⟨rfl,h1,h2,rfl⟩
 |r::p,s,e,h,k1,k2=>by
  obtain⟨h1,h2,h3,h4⟩:=h;exact⟨h1,h2,h3,Stk.push h4 k1 k2⟩
theorem Stk.modLast{xs:Array cz}{pw:Nat}:∀{p:List (Nat×Nat×Nat)}{s e:Nat},Stk lt xs s p e->∀k,Stk lt xs s (p.modify k fun x=>(x.1,x.2.1,pw)) e
 | [],s,e,h,k=>by simpa using h
 |r::p,s,e,h,0=>by
  obtain⟨h1,h2,h3,h4⟩:=h;exact⟨h1,h2,h3,h4⟩
 |r::p,s,e,h,k+1=>by
  obtain⟨h1,h2,h3,h4⟩:=h;exact⟨h1,h2,h3,Stk.modLast h4 k⟩
theorem Stk.at{xs:Array cz}{sa na pw sb nb af:Nat}:∀{p:List (Nat×Nat×Nat)}{s e i:Nat},Stk lt xs s p e->p[i]?=some (sa,na,pw)->p[i+1]?=some (sb,nb,af) ->
  s<=sa/\sb=sa+na/\1<=na/\1<=nb/\sb+nb<=e/\Sg lt xs sa (sa+na)/\Sg lt xs sb (sb+nb)/\∀ys:Array cz,(∀j,j<sa\/sa+na+nb<=j->G ys j=G xs j)->Sg lt ys sa (sa+na+nb)->Stk lt ys s ((p.set i (sa,na+nb,pw)).eraseIdx (i+1)) e
 | [],s,e,i,_,h1,_=>by simp at h1
 |r::p,s,e,0,h,e1,e2=>by
  have er:r=(sa,na,pw):=by simpa using e1
  subst er;cases p with
  |nil=>simp at e2
  |cons r2 p=>
   have ah:r2=(sb,nb,af):=by simpa using e2
   subst ah;obtain⟨h1,h2,h3,h5,h6,h7,h8⟩:=h;have ag:sa=s:=h1;have ai:sb=s+na:=h5;subst ag;have aa:=Stk.le h8;have ae:1<=nb:=h6;have y:1<=na:=h2;subst ai;have aj:Stk lt xs (sa+na+nb) p e:=h8;refine⟨dw _,rfl,y,ae,by have:sa+na+nb+p.length<=e:=aa;(clear aa h5 h6 y ae h1 h2;omega),h3,h7,fun ys k1 k2=>?_⟩;refine⟨rfl,by show 1<=na+nb;(clear aa h5 h6 y h1 h2;omega),?_,?_⟩
   ·show Sg lt ys sa (sa+(na+nb));rw[<- Nat.add_assoc];exact k2
   ·show Stk lt ys (sa+(na+nb)) p e;rw[<- Nat.add_assoc];exact Stk.mono aj fun i hi hj=>k1 i (.inr hi)
 |r::p,s,e,i+1,h,e1,e2=>by
  obtain⟨h1,h2,h3,h4⟩:=h;obtain⟨q1,q2,q3,q4,q5,q6,q7,q8⟩:=Stk.at h4 (by simpa using e1) (by simpa using e2);refine⟨by clear q5 q4 q3 q2 h2 h1;omega,q2,q3,q4,q5,q6,q7,fun ys k1 k2=>?_⟩;refine⟨h1,h2,fun i j hi ac hj=>?_,q8 ys k1 k2⟩;rw[k1 i (.inl (by clear hi q5 q4 q3 q2 h2 h1;omega)),k1 j (.inl (by clear ac hi q5 q4 q3 q2 h2 h1;omega))];exact h3 i j hi ac hj
theorem uS(O:LtOk prog w A E s kd D lt){a₀:Array cz}{i lo:Nat}{st:ik}{Q:Bool->ik->Prop}(h:Ts kd D a₀ st)(hs:Stk lt (ck st) 0 (df st).toList lo)(ac:lo<=a₀.size)(hi:i+1<(df st).size)
  (q:∀st',Ts kd D a₀ st'->Stk lt (ck st') 0 (df st').toList lo->(df st').size+1=(df st).size->(∀j,lo<=j->G (ck st') j=G (ck st) j)->Q true st'):wpS (model prog w) A E s (mergeAt' i) Q st:=by
 obtain⟨⟨sa,na,pw⟩,g1⟩:∃r,(df st)[i]?=some r:=⟨_,mn yw⟩;obtain⟨⟨sb,nb,aa⟩,g2⟩:∃r,(df st)[i+1]?=some r:=⟨_,mn yw⟩;obtain⟨q1,q2,q3,q4,q5,q6,q7,q8⟩:=Stk.at hs (i:=i) (by rw[<- qy]at g1;exact g1) (by rw[<- qy]at g2;exact g2);refine IK O h g1 g2 q2 q3 q4 yw q6 q7 fun st' hT hp hg hS=>?_;have y:(df st').toList=((df st).toList.set i (sa,na+nb,pw)).eraseIdx (i+1):=by
  rw[hp,Array.eraseIdxIfInBounds,dif_pos (by rw[Array.size_setIfInBounds];exact hi),Array.toList_eraseIdx,Array.toList_setIfInBounds]
 refine q st' hT ?_ ?_ fun j hj=>hg j (.inr yw)
 ·rw[y];exact q8 _ hg hS
 ·have:=congrArg List.length y;rw[List.length_eraseIdx_of_lt (by simp;omega),length_set,nj,nj]at this;omega
theorem FL(O:LtOk prog w A E s kd D lt){a₀:Array cz}{st:ik}{Q:Unit->ik->Prop}(h:Ts kd D a₀ st)(aq:df st = #[])(h2:2<=a₀.size)
  (q:∀st',Ts kd D a₀ st'->Sg lt (ck st') 0 a₀.size->Q () st'):wpS (model prog w) A E s sortRuns' Q st:=by
 rw[sortRuns'_eq];refine bz (tq ?_);dsimp only;rw[h.size];generalize minRun' a₀.size a₀.size 0=mr;refine bz (li (iw (a:=0)
  (I:=fun k c st'=>∃lo,c=(none,lo)/\k<=lo/\lo<=a₀.size/\Ts kd D a₀ st'/\Stk lt (ck st') 0 (df st').toList lo)
  (Q:=fun c st'=>∃lo,c=(none,lo)/\lo=a₀.size/\Ts kd D a₀ st'/\Stk lt (ck st') 0 (df st').toList lo) ?step ?fin ⟨0,rfl,dw _,pf _,h,by rw[aq];rfl⟩) ?post)
 case fin=>
  rintro c st' ⟨lo,rfl,k1,k2,hT,hS⟩;exact⟨lo,rfl,yw,hT,hS⟩
 case post=>
  rintro c st' ⟨lo,rfl,rfl,hT,hS⟩;dsimp only;have hz:=Stk.le hS;rw[nj]at hz;refine bz (li (iw (a:=0)
   (I:=fun k c aa=>c=(none,())/\Ts kd D a₀ aa/\Stk lt (ck aa) 0 (df aa).toList a₀.size/\(df aa).size+k<=a₀.size+0\/c=(none,())/\Ts kd D a₀ aa/\Stk lt (ck aa) 0 (df aa).toList a₀.size/\(df aa).size<=1)
   (Q:=fun c aa=>c=(none,())/\Ts kd D a₀ aa/\Stk lt (ck aa) 0 (df aa).toList a₀.size/\(df aa).size<=1) ?stepF ?finF (.inl ⟨rfl,hT,hS,yw⟩)) ?postF)
  case finF=>
   rintro c aa (⟨rfl,h3,h4,h5⟩|hh)
   ·exact⟨rfl,h3,h4,yw⟩
   ·exact hh
  case stepF=>
   rintro k c aa _ hk hh;have ar:c=(none,())/\Ts kd D a₀ aa/\Stk lt (ck aa) 0 (df aa).toList a₀.size/\((df aa).size+k<=a₀.size\/(df aa).size<=1):=by
    rcases hh with ⟨a1,a2,a3,a4⟩|⟨a1,a2,a3,a4⟩
    ·exact⟨a1,a2,a3,.inl yw⟩
    ·exact⟨a1,a2,a3,.inr a4⟩
   obtain⟨rfl,h3,h4,h5⟩:=ar;refine bz (tq ?_)
   try dsimp only
   by_cases d1:(df aa).size<=1
   ·rw[cu d1];exact cf ⟨rfl,h3,h4,d1⟩
   rw[cn d1];generalize hgen:(if (if (df aa).size-2>0 then Option.map (fun x=>x.snd.fst) (df aa)[(df aa).size-2-1]? else none).any (fun x=>decide (x<(df aa)[(df aa).size-2+1]?.elim 0 fun x=>x.snd.fst))=true then (df aa).size-2-1 else (df aa).size-2)=ii;have ap:ii+1<(df aa).size:=by
    have hx:∀(P:Prop) (_:Decidable P),(if P then (df aa).size-2-1 else (df aa).size-2)+1<(df aa).size:=fun P _=>by
     by_cases z:P
     ·rw[cu z];omega
     ·rw[cn z];omega
    rw[<- hgen];exact hx _ _
   refine bz (uS O h3 h4 (dw _) ap fun an h6 s6 z6 g6=>?_);simp only[Bool.not_true,fg,if_false];exact cf (.inl ⟨rfl,h6,s6,yw⟩)
  case postF=>
   rintro c aa ⟨rfl,h3,h4,h5⟩;dsimp only;refine cf (q aa h3 ?_);cases hl:(df aa).toList with
   |nil=>
    rw[hl]at h4;have:0=a₀.size:=h4;omega
   |cons r rest=>
    have hr:rest=[]:=by
     have:=congrArg List.length hl;rw[nj,im]at this;exact gg yw
    rw[hl,hr]at h4;obtain⟨e1,e2,e3,e4⟩:=h4;have au:0+r.2.1=a₀.size:=e4;rw[<- au];exact e3
 case step=>
  rintro k c st' _ hk ⟨lo,rfl,k1,k2,hT,hS⟩;dsimp only;by_cases c1:lo≥a₀.size
  ·rw[cu c1];exact cf ⟨lo,rfl,yw,hT,hS⟩
  rw[cn c1];refine bz (Do O (hT.tb lo) yw yw fun m aa ao m1 m2 am=>?_);dsimp only;by_cases c2:m<mr
  ·rw[cu c2];refine bz (wpS_lift (pc ⟨rfl,?_⟩));refine bz (Fr O ao (n:=min (a₀.size-lo) mr) yw m1 yw am fun ac af ai=>?_);simp only[Bool.not_true,fg,if_false];have n1:1<=min (a₀.size-lo) mr:=yw
   have n2:lo+min (a₀.size-lo) mr<=a₀.size:=yw
   generalize min (a₀.size-lo) mr=n at n1 n2 ai;have ah:Ts kd D a₀ ac:=⟨af.kd,af.fl,af.pm,af.d⟩;have ak:Stk lt (ck ac) 0 (df ac).toList lo:=by
    rw[af.pe];exact Stk.mono hS fun i _ hi=>af.lo i hi
   refine bz (tq ?_);have fin:∀y:ik,Ts kd D a₀ y->Stk lt (ck y) 0 (df y).toList lo->(∀j,lo<=j->G (ck y) j=G (ck ac) j)->Stk lt (ck y) 0 ((df y).push (lo,n,0)).toList (lo+n):=fun y hM ag ae=>by
    rw[Array.toList_push];refine Stk.push ag n1 fun i j hi al hj=>?_;rw[ae i hi,ae j yw];exact ai i j hi al hj
   cases hbk:(df ac).back? with
   |none=>
    try dsimp only
    exact bz (ni (cf ⟨lo+n,rfl,yw,yw,⟨ah.kd,ah.fl,ah.pm,ah.d⟩,fin ac ah ak fun _ _=>rfl⟩))
   |some r=>
    obtain⟨s1,aj,w1⟩:=r
    try dsimp only
    generalize power' a₀.size (2*s1+aj) (2*s1+aj+aj+n) a₀.size=pw;refine bz (li (iw (a:=0)
     (I:=fun _ c y=>c=(none,())/\Ts kd D a₀ y/\Stk lt (ck y) 0 (df y).toList lo/\∀j,lo<=j->G (ck y) j=G (ck ac) j)
     (Q:=fun c y=>c=(none,())/\Ts kd D a₀ y/\Stk lt (ck y) 0 (df y).toList lo/\∀j,lo<=j->G (ck y) j=G (ck ac) j) ?stepM (fun _ _ hh=>hh) ⟨rfl,ah,ak,fun _ _=>rfl⟩) ?postM)
    case stepM=>
     rintro kk c y _ _ ⟨rfl,hM,ag,ae⟩;refine bz (tq ?_)
     try dsimp only
     by_cases d1:(df y).size>1
     ·rw[cu d1];obtain⟨⟨oa,ob,oc⟩,og⟩:∃r,(df y)[(df y).size-2]?=some r:=⟨_,mn yw⟩;rw[og];dsimp only;by_cases d2:oc<=pw
      ·rw[cu d2];exact cf ⟨rfl,hM,ag,ae⟩
      ·rw[cn d2];refine bz (uS O hM ag k2 yw fun an h5 s5 z5 g5=>?_);simp only[Bool.not_true,fg,if_false];exact cf ⟨rfl,h5,s5,fun j hj=>(g5 j hj).trans (ae j hj)⟩
     ·rw[cn d1];exact cf ⟨rfl,hM,ag,ae⟩
    case postM=>
     rintro c y ⟨rfl,hM,ag,ae⟩;dsimp only;refine bz (ni (bz (ni (cf ⟨lo+n,rfl,yw,yw,⟨hM.kd,hM.fl,hM.pm,hM.d⟩,?_⟩))));refine fin (setPending y ((df y).modify ((df y).size-1) fun x=>(x.1,x.2.1,pw))) ⟨hM.kd,hM.fl,hM.pm,hM.d⟩ ?_ ae;show Stk lt (ck y) 0 ((df y).modify ((df y).size-1) fun x=>(x.1,x.2.1,pw)).toList lo;rw[Array.toList_modify];exact Stk.modLast ag _
  ·rw[cn c2];have n1:1<=m:=m1;have n2:lo+m<=a₀.size:=yw
   have ai:=am;have af:=ao;generalize m=n at n1 n2 ai
   revert af ai
   generalize aa=ac;intro af ai;have ah:Ts kd D a₀ ac:=⟨af.kd,af.fl,af.pm,af.d⟩;have ak:Stk lt (ck ac) 0 (df ac).toList lo:=by
    rw[af.pe];exact Stk.mono hS fun i _ hi=>af.lo i hi
   refine bz (tq ?_);have fin:∀y:ik,Ts kd D a₀ y->Stk lt (ck y) 0 (df y).toList lo->(∀j,lo<=j->G (ck y) j=G (ck ac) j)->Stk lt (ck y) 0 ((df y).push (lo,n,0)).toList (lo+n):=fun y hM ag ae=>by
    rw[Array.toList_push];refine Stk.push ag n1 fun i j hi al hj=>?_;rw[ae i hi,ae j yw];exact ai i j hi al hj
   cases hbk:(df ac).back? with
   |none=>
    try dsimp only
    exact bz (ni (cf ⟨lo+n,rfl,yw,yw,⟨ah.kd,ah.fl,ah.pm,ah.d⟩,fin ac ah ak fun _ _=>rfl⟩))
   |some r=>
    obtain⟨s1,aj,w1⟩:=r
    try dsimp only
    generalize power' a₀.size (2*s1+aj) (2*s1+aj+aj+n) a₀.size=pw;refine bz (li (iw (a:=0)
     (I:=fun _ c y=>c=(none,())/\Ts kd D a₀ y/\Stk lt (ck y) 0 (df y).toList lo/\∀j,lo<=j->G (ck y) j=G (ck ac) j)
     (Q:=fun c y=>c=(none,())/\Ts kd D a₀ y/\Stk lt (ck y) 0 (df y).toList lo/\∀j,lo<=j->G (ck y) j=G (ck ac) j) ?stepM (fun _ _ hh=>hh) ⟨rfl,ah,ak,fun _ _=>rfl⟩) ?postM)
    case stepM=>
     rintro kk c y _ _ ⟨rfl,hM,ag,ae⟩;refine bz (tq ?_)
     try dsimp only
     by_cases d1:(df y).size>1
     ·rw[cu d1];obtain⟨⟨oa,ob,oc⟩,og⟩:∃r,(df y)[(df y).size-2]?=some r:=⟨_,mn yw⟩;rw[og];dsimp only;by_cases d2:oc<=pw
      ·rw[cu d2];exact cf ⟨rfl,hM,ag,ae⟩
      ·rw[cn d2];refine bz (uS O hM ag k2 yw fun an h5 s5 z5 g5=>?_);simp only[Bool.not_true,fg,if_false];exact cf ⟨rfl,h5,s5,fun j hj=>(g5 j hj).trans (ae j hj)⟩
     ·rw[cn d1];exact cf ⟨rfl,hM,ag,ae⟩
    case postM=>
     rintro c y ⟨rfl,hM,ag,ae⟩;refine bz (ni (bz (ni (cf ⟨lo+n,rfl,yw,yw,⟨hM.kd,hM.fl,hM.pm,hM.d⟩,?_⟩))));refine fin (setPending y ((df y).modify ((df y).size-1) fun x=>(x.1,x.2.1,pw))) ⟨hM.kd,hM.fl,hM.pm,hM.d⟩ ?_ ae;show Stk lt (ck y) 0 ((df y).modify ((df y).size-1) fun x=>(x.1,x.2.1,pw)).toList lo;rw[Array.toList_modify];exact Stk.modLast ag _
end
end L2
namespace L2
open PySem PySem.Spec PySem.Calls PyProof.Rows PySem.W
theorem sR:∀{a b c:List Int},HT.lexLt a b=true->HT.lexLt b c=true->HT.lexLt a c=true
 | [],[],_,h,_=>by cases h
 | [],_::_,[],_,h=>by cases h
 | [],_::_,_::_,_,_=>rfl
 |_::_,[],_,h,_=>by cases h
 |_::_,_::_,[],_,h=>by cases h
 |x::xs,y::ys,z::zs,h,k=>by
  rw[HT.lexLt_cons]at h k ⊢;split at h
  ·rename_i e;subst e;split at k
   ·rename_i e;subst e;rw[cu rfl];exact sR h k
   ·rename_i e;rw[cn e];exact k
  ·rename_i e;have h':=rg h;split at k
   ·rename_i e2;subst e2;rw[cn e];exact h
   ·have k':=rg k;rw[cn yw];exact jh yw
theorem AO:∀(a b:List Int),HT.lexLt a b=true\/a=b\/HT.lexLt b a=true
 | [],[]=>.inr (.inl rfl)
 | [],_::_=>.inl rfl
 |_::_,[]=>.inr (.inr rfl)
 |x::xs,y::ys=>by
  rw[HT.lexLt_cons,HT.lexLt_cons];by_cases e:x=y
  ·subst e;rw[cu rfl,cu rfl];rcases AO xs ys with h|h|h
   ·exact .inl h
   ·exact .inr (.inl (by rw[h]))
   ·exact .inr (.inr h)
  ·rw[cn e,cn (jq e)];by_cases hl:x<y
   ·exact .inl (jh hl)
   ·exact .inr (.inr (jh yw))
section
variable {prog:fq}{w:gw}{A:gh}{E:bo->bq->Prop}{s:bq}
theorem Cd{α:Type}{r:α->α->Prop}{l:List α}(h:l.length<2):l.Pairwise r:=by
 cases l with
 |nil=>exact .nil
 |cons x l=>
  cases l with
  |nil=>exact List.pairwise_singleton _ _
  |cons y l=>exact absurd h yv
theorem A6{a:Addr}{vs:List bo}{n:Nat}{kd:qz}{lt:cz->cz->Bool}{P:PySem.Fin->bq->Prop}(ho:s.heap.get? a=some (ja "list" vs.toArray n))(hz:vs.length<=10000000)
  (hkd:∀h3,KeptBut a s.heap h3->∀(Q:qz->bq->Prop),2<=vs.length->Q kd { s with heap:=h3 }->cv (model prog w) A (keyKind' vs.toArray) Q E { s with heap:=h3 })
  (hO:∀h3,KeptBut a s.heap h3->LtOk prog w A E { s with heap:=h3 } kd (fun x=>x.1=x.2/\x.1∈vs) lt)
  (h:∀h' c (out:List bo),KeptBut a s.heap h'->out.Perm vs->out.Pairwise (fun x y=>lt (y,y) (x,x)=false)->h'.get? a=some (ja "list" out.toArray c)->P (.done (.ret .none)) { s with heap:=h' }):
  cv (model prog w) A (nk.«list.sort» ⟨[.ref a],[]⟩) P E s:=by
 have ha:a<s.heap.objs.size:=fw ho;have s1:=mh s.heap a (io fun _=>(#[]:Array bo));obtain⟨e1,af⟩:∃e1,(s.heap.update a (io fun _=>(#[]:Array bo))).get? a=some (ja "list" #[] e1):=⟨_,tv ho fun _=>#[]⟩;have keep:KeptBut a s.heap (((s.heap.update a (io fun _=>(#[]:Array bo))).push (ja "tuple" vs.toArray 0)).push (ja "list" #[] 0)):=fun b o nb e=>
  bx _ (bx _ ((s1.2 b nb).trans e))
 have aa:(((s.heap.update a (io fun _=>(#[]:Array bo))).push (ja "tuple" vs.toArray 0)).push (ja "list" #[] 0)).get? a=some (ja "list" #[] e1):=bx _ (bx _ af);rw[list_sort_plain];refine bp (listItems_at ho rfl ?_);refine bp (listUpdate_at ho rfl ?_ (by rw[dy,jy];omega) (pf _));refine bp (seqEpoch_at af rfl ?_);refine bp (wpAny_newTuple ?_ (by show vs.length<=_;rw[jy];omega));refine bp (wpAny_newList ?_ (pf _));refine ie ?_;show cv (model prog w) A _ P E { s with heap:=((s.heap.update a (io fun _=>(#[]:Array bo))).push (ja "tuple" vs.toArray 0)).push (ja "list" #[] 0) };generalize ((s.heap.update a (io fun _=>(#[]:Array bo))).push (ja "tuple" vs.toArray 0)).push (ja "list" #[] 0)=h3 at keep aa ⊢;dsimp only;by_cases hn2:vs.toArray.size<2
 ·rw[cu hn2,cu hn2];refine bp (cr ?_);rw[StateT.run_pure];refine bp (cr ?_);dsimp only;have eo:(ck (SortSt.mk' general' (vs.toArray.zip vs.toArray) #[] 7 none)).map (·.2)=me vs:=by
   apply Array.toList_inj.mp;show ((vs.toArray.zip vs.toArray).map (·.2)).toList=vs;rw[Array.toList_map,Array.toList_zip,List.map_snd_zip (dw _)]
  rw[eo];have s2:=mh h3 a (io fun _=>me vs);obtain⟨c2,ae⟩:∃c2,(h3.update a (io fun _=>me vs)).get? a=some (ja "list" (me vs) c2):=⟨_,tv aa fun _=>me vs⟩;refine bp (seqEpoch_at aa rfl ?_);refine bp (listUpdate_at aa rfl ?_ (pf _) (by show (me vs).size<=_;rw[dy,jy];omega));simp only[bne_self_eq_false,fg,if_false];refine cr (h _ c2 vs (fun b o nb e=>(s2.2 b nb).trans (keep b o nb e)) (List.Perm.refl _) ?_ ae);rw[dy]at hn2;exact Cd hn2
 ·rw[cn hn2,cn hn2];rw[dy]at hn2;refine bp (hkd h3 keep _ yw ?_);have O:=hO h3 keep;have hT:Ts kd (fun x:cz=>x.1=x.2/\x.1∈vs) (pairsOf vs) (SortSt.mk' kd (vs.toArray.zip vs.toArray) #[] 7 none):=⟨rfl,rfl,Array.Perm.refl _,fun x m=>by
   rw[pairsOf_toList]at m;exact mem_zip_self m⟩
  refine bp (kl (FL O (Q:=fun _ st'=>Ts kd (fun x:cz=>x.1=x.2/\x.1∈vs) (pairsOf vs) st'/\Sg lt (ck st') 0 (pairsOf vs).size) hT rfl (by rw[pairsOf_size];omega) fun st' a1 a2=>⟨a1,a2⟩) ?_ fun _ _ e=>e);rintro⟨⟨⟩,st'⟩ s' ⟨rfl,hT',hS'⟩;dsimp only;have hp:((ck st').toList.map (·.2)).Perm vs:=by
   have h1:=(Array.perm_iff_toList_perm.mp hT'.pm).map (·.2);rw[pairsOf_toList,List.map_snd_zip (dw _)]at h1;exact h1
  have hs:((ck st').toList.map (·.2)).Pairwise (fun x y=>lt (y,y) (x,x)=false):=by
   rw[qq,List.pairwise_iff_getElem];intro i j hi hj ah;have ag:i<(pairsOf vs).size:=by rw[<- hT'.size];simpa using hi
   have ac:j<(pairsOf vs).size:=by rw[<- hT'.size];simpa using hj
   have g1:=hT'.at ag;have g2:=hT'.at ac;rw[zX,cy hi]at g1;rw[zX,cy hj]at g2;have d1:=(hT'.dd ag).1;have d2:=(hT'.dd ac).1;rw[gv g1,gv g2];have z1:((G (ck st') i).2,(G (ck st') i).2)=G (ck st') i:=Prod.ext d1.symm rfl;have z2:((G (ck st') j).2,(G (ck st') j).2)=G (ck st') j:=Prod.ext d2.symm rfl;rw[z1,z2];exact hS' i j (pf _) (om ah) ac
  have eo:(ck st').map (·.2)=me ((ck st').toList.map (·.2)):=by
   apply Array.toList_inj.mp;rw[Array.toList_map]
  rw[eo];generalize (ck st').toList.map (·.2)=out at hp hs;have s2:=mh h3 a (io fun _=>me out);obtain⟨c2,ae⟩:∃c2,(h3.update a (io fun _=>me out)).get? a=some (ja "list" (me out) c2):=⟨_,tv aa fun _=>me out⟩;refine bp (seqEpoch_at aa rfl ?_);refine bp (listUpdate_at aa rfl ?_ (pf _) (by show (me out).size<=_;rw[dy,hp.length_eq,jy];omega));rw[hT'.fl];simp only[bne_self_eq_false,fg,if_false];exact cr (h _ c2 out (fun b o nb e=>(s2.2 b nb).trans (keep b o nb e)) hp hs ae)
theorem Bz{kd:qz}{x y:cz}{b:Bool}{st:ik}{Q:Option Bool->ik->Prop}(hk:kindOf st=kd)(h:cv (model prog w) A (keyLt' kd x.1 y.1) (fun c s'=>s'=s/\c=b) (fun _ _=>False) s)(q:Q (some b) st):wpS (model prog w) A E s (lt' x y) Q st:=by
 rw[lt'_eq];refine bz (tq ?_);rw[hk];refine bz (wpS_lift (wpAny_attempt (kl h (fun c s' hc=>?_) fun _ _ e=>e.elim)));obtain⟨rfl,rfl⟩:=hc;exact⟨rfl,cf q⟩
theorem Im{vs:List bo}{ns:List Int}(hI:jr vs ns):LtOk prog w A E s oneType' (fun x=>x.1=x.2/\x.1∈vs) (fun x y=>decide (numOf x.1<numOf y.1)) where
 ask:=fun x y st Q hx hy hk q=>by
  obtain⟨n,t,ex⟩:=hI.all _ hx.2;obtain⟨m,u,ey⟩:=hI.all _ hy.2;refine Bz hk ?_ q;rw[keyLt'_oneType,ex,ey];exact oneLt_int ⟨rfl,rfl⟩
 asym:=fun x y _ _ h=>gu (by have:=rg h;omega)
 tr:=fun x y z _ _ _ h1 h2=>gu (by have:=of_decide_eq_false h1;have:=of_decide_eq_false h2;omega)
theorem vX{Q:Bool->bq->Prop}:∀{xs ys:List bo}{ns ms:List Int} (i k:Nat),jr xs ns->jr ys ms->Q (HT.lexLt ns ms) s->KatLex prog w A true (decide (k+xs.length<k+ys.length)) Q (xs.zip ys) i s
 | [],ys,ns,ms,i,k,h1,h2,q=>by
  cases h1;rw[List.zip_nil_left];refine kat_nil ?_;cases h2 with
  |nil=>
   rw[gu yv];exact q
  |cons n t h2=>
   rw[jh yv];exact q
 |x::xs,[],ns,ms,i,k,h1,h2,q=>by
  cases h2;cases h1 with
  |cons n t h1=>
   rw[List.zip_nil_right];refine kat_nil ?_;rw[gu yv];exact q
 |x::xs,y::ys,ns,ms,i,k,h1,h2,q=>by
  cases h1 with
  |cons n t h1=>
   cases h2 with
   |cons m u h2=>
    rw[List.zip_cons_cons];refine kat_cons (wpAny_eqBool_int ?_);rw[HT.lexLt_cons]at q;refine kat_go (fun e=>?_) fun e=>?_
    ·have e1:n=m:=by simpa using e
     rw[cu e1]at q;refine kat_yes ?_;have:=vX (Q:=Q) (i+1) (k+1) h1 h2 q;have ed:decide (k+((tw n t)::xs).length<k+((tw m u)::ys).length)=decide (k+1+xs.length<k+1+ys.length):=by
      rw[decide_eq_decide,im,im];omega
     rw[ed];exact this
    ·have e1:n≠m:=by simpa using e
     rw[cn e1]at q;refine kat_no ?_;cases hb:(true&&i==0)with
     |true=>exact oneLt_int q
     |false=>exact kat_one _ _ (lt_int q)
def TupI(h:Heap)(v:bo)(ns:List Int):Prop:=ns≠[]/\∃a o xs n,v=.ref a/\h.get? a=some o/\o.cls=.type "tuple"/\o.data=.seq xs n/\jr xs.toList ns
theorem HI{vs:List bo}(aa:bo->List Int)(hT:∀v∈vs,TupI s.heap v (aa v)):LtOk prog w A E s (tuples' true) (fun x=>x.1=x.2/\x.1∈vs) (fun x y=>HT.lexLt (aa x.1) (aa y.1)) where
 ask:=fun x y st Q hx hy hk q=>by
  obtain⟨_,a,o,xs,n,ex,g1,c1,d1,i1⟩:=hT _ hx.2;obtain⟨_,b,o',ys,m,ey,g2,c2,d2,i2⟩:=hT _ hy.2;refine Bz hk ?_ q;rw[ex,ey];refine kat_lt g1 d1 g2 d2 ?_;have:=vX (prog:=prog) (w:=w) (A:=A) (s:=s) (Q:=fun c s'=>s'=s/\c=HT.lexLt (aa (.ref a)) (aa (.ref b))) 0 0 (by rw[ex]at i1;exact i1) (by rw[ey]at i2;exact i2) ⟨rfl,rfl⟩;simpa using this
 asym:=fun x y _ _ h=>by
  cases e:HT.lexLt (aa y.1) (aa x.1)with
  |false=>rfl
  |true=>
   have:=sR h e;rw[HT.lexLt_self]at this;cases this
 tr:=fun x y z _ _ _ h1 h2=>by
  cases e:HT.lexLt (aa z.1) (aa x.1)with
  |false=>rfl
  |true=>
   rcases AO (aa y.1) (aa x.1)with h|h|h
   ·rw[h]at h1;cases h1
   ·rw[h]at h2;rw[h2]at e;cases e
   ·have:=sR e h;rw[this]at h2;cases h2
theorem EH{vs:List bo}(aa:bo->List Int)(hT:∀v∈vs,TupI s.heap v (aa v))(h2:2<=vs.length){Q:qz->bq->Prop}(h:Q (tuples' true) s):cv (model prog w) A (keyKind' vs.toArray) Q E s:=by
 have fs:∀l:List bo,(∀v∈l,TupI s.heap v (aa v))->∃fs:List bo,KatTups s.heap l fs/\fs.length=l.length/\∀f∈fs,∃n t,f=tw n t:=by
  intro l;induction l with
  |nil=>intro _;exact⟨[],KatTups.nil,rfl,(fun f m=>by cases m)⟩
  |cons v l ih=>
   intro hl;obtain⟨fs,k,e,fi⟩:=ih fun x m=>hl x (fu _ m);obtain⟨ac,a,o,xs,n,ev,g1,c1,d1,i1⟩:=hl v iq;subst ev;obtain⟨f,t,hf⟩:∃n t,xs[0]?=some (tw n t):=by
    cases hx:xs.toList with
    |nil=>rw[hx]at i1;cases hn:aa (.ref a)with
     |nil=>exact absurd hn ac
     |cons x y=>rw[hn]at i1;cases i1
    |cons x r=>
     rw[hx]at i1;obtain⟨n,t,rfl⟩:=i1.all x iq;exact⟨n,t,by rw[<- qy,hx];rfl⟩
   refine⟨.int f t::fs,KatTups.cons g1 c1 d1 hf k,by simp[e],fun z m=>?_⟩;rcases mem_cons.mp m with rfl|m
   ·exact⟨f,t,rfl⟩
   ·exact fi z m
 obtain⟨fs,k,e,fi⟩:=fs vs hT;refine kat_kind (T:=.type "int") k yw (fun v m=>?_) rfl ?_
 ·obtain⟨n,t,rfl⟩:=fi v m;exact .now
 ·rw[show (ue "int" != ue "tuple")=true by decide];exact h
theorem C4{vs:List bo}{kd:qz}{lt:cz->cz->Bool}{P:PySem.Fin->bq->Prop}(hz:vs.length<=10000000)
  (hkd:∀(A':gh) (E':bo->bq->Prop) h3,(∀b o,s.heap.get? b=some o->h3.get? b=some o)->∀(Q:qz->bq->Prop),2<=vs.length->Q kd { s with heap:=h3 }->cv (model prog w) A' (keyKind' vs.toArray) Q E' { s with heap:=h3 })
  (hO:∀(A':gh) (E':bo->bq->Prop) h3,(∀b o,s.heap.get? b=some o->h3.get? b=some o)->LtOk prog w A' E' { s with heap:=h3 } kd (fun x=>x.1=x.2/\x.1∈vs) lt)
  (h:∀D h' c (out:List bo),s.heap.objs.size<=D->(∀b o,s.heap.get? b=some o->h'.get? b=some o)->out.Perm vs->out.Pairwise (fun x y=>lt (y,y) (x,x)=false)->h'.get? D=some (ja "list" out.toArray c)->P (.done (.ret (.ref D))) { s with heap:=h' }):
  cv (model prog w) A (newList vs >>= fun l=>holding [l] (call (.builtin "list.sort") [l] []) >>= fun _=>ret l) P E s:=by
 refine bp (wpAny_newList ?_ (by show vs.length<=_;rw[jy];omega));have aa:(s.heap.push (ja "list" vs.toArray 0)).get? s.heap.objs.size=some (ja "list" vs.toArray 0):=ff _ rfl;have keep:∀b o,s.heap.get? b=some o->(s.heap.push (ja "list" vs.toArray 0)).get? b=some o:=fun b o q=>bx _ q;show cv _ _ _ _ _ { s with heap:=s.heap.push (ja "list" vs.toArray 0) };refine bp (ie (lf slot_list_sort ⟨_,aa,rfl⟩ entry_list_sort ?body (args_list_sort _)))
 case body=>
  refine A6 (s:={ s with heap:=s.heap.push (ja "list" vs.toArray 0) }) (kd:=kd) (lt:=lt) aa hz (fun h3 k=>hkd _ _ h3 fun b o e=>k b o (ic (fw e)) (keep b o e)) (fun h3 k=>hO _ _ h3 fun b o e=>k b o (ic (fw e)) (keep b o e)) fun h' c out k1 hp hs k2=>?_;exact⟨_,rfl,cr (h _ h' c out (dw _) (fun b o e=>k1 b o (ic (fw e)) (keep b o e)) hp hs k2)⟩
theorem Dw{l:Addr}{vs:List bo}{kd:qz}{lt:cz->cz->Bool}{Q:bo->bq->Prop}(hl:s.heap.IsList l vs.toArray)(hz:vs.length<=10000000)
  (hkd:∀(A':gh) (E':bo->bq->Prop) h3,(∀b o,s.heap.get? b=some o->h3.get? b=some o)->∀(Q:qz->bq->Prop),2<=vs.length->Q kd { s with heap:=h3 }->cv (model prog w) A' (keyKind' vs.toArray) Q E' { s with heap:=h3 })
  (hO:∀(A':gh) (E':bo->bq->Prop) h3,(∀b o,s.heap.get? b=some o->h3.get? b=some o)->LtOk prog w A' E' { s with heap:=h3 } kd (fun x=>x.1=x.2/\x.1∈vs) lt)
  (h:∀D h' c (out:List bo),s.heap.objs.size<=D->(∀b o,s.heap.get? b=some o->h'.get? b=some o)->out.Perm vs->out.Pairwise (fun x y=>lt (y,y) (x,x)=false)->h'.get? D=some (ja "list" out.toArray c)->Q (.ref D) { s with heap:=h' }):
  cv (model prog w) A (call (.builtin "sorted") [.ref l]) Q E s:=by
 refine Calls.call_function_entry kind_sorted plain_sorted entry_sorted (args_sorted1 _) ?_;unfold nk.«sorted»;refine bp (m:=checkCount "sorted" 1 1 _) (cr ?_);refine bp (collect_list (vs:=vs) hl ?_ (by rw[jy];omega));refine bp (wpAny_newList ?_ (by show vs.length<=_;rw[jy];omega));have ac:((s.heap.push (ja "list" #[] 0)).update s.heap.objs.size (io (· ++ (vs.toArray:Array bo)))).objs.size=s.heap.objs.size+1:=by
  rw[Heap.size_update,size_push']
 have ae:(((s.heap.push (ja "list" #[] 0)).update s.heap.objs.size (io (· ++ (vs.toArray:Array bo)))).push (ja "list" vs.toArray 0)).get? (s.heap.objs.size+1)=some (ja "list" vs.toArray 0):=by
  rw[<- ac];exact ff _ rfl
 have keep:∀b o,s.heap.get? b=some o->(((s.heap.push (ja "list" #[] 0)).update s.heap.objs.size (io (· ++ (vs.toArray:Array bo)))).push (ja "list" vs.toArray 0)).get? b=some o:=fun b o q=>by
  have aa:b<s.heap.objs.size:=fw q;rw[Heap.get?_push_ne _ _ _ (by rw[ac];exact ic (qe aa)),Heap.get?_update_ne _ _ _ _ (ic aa),Heap.get?_push_ne _ _ _ (ic aa)];exact q
 show cv _ _ _ _ _ { s with heap:=((s.heap.push (ja "list" #[] 0)).update s.heap.objs.size (io (· ++ (vs.toArray:Array bo)))).push (ja "list" vs.toArray 0) };rw[ac];refine bp (ie (lf slot_list_sort ⟨_,ae,rfl⟩ entry_list_sort ?body (args_list_sort _)))
 case body=>
  refine A6 (s:={ s with heap:=((s.heap.push (ja "list" #[] 0)).update s.heap.objs.size (io (· ++ (vs.toArray:Array bo)))).push (ja "list" vs.toArray 0) }) (kd:=kd) (lt:=lt) ae hz (fun h3 k=>hkd _ _ h3 fun b o e=>k b o (ic (qe (fw e))) (keep b o e)) (fun h3 k=>hO _ _ h3 fun b o e=>k b o (ic (qe (fw e))) (keep b o e)) fun h' c out k1 hp hs k2=>?_;exact⟨_,rfl,cr ⟨_,rfl,h _ h' c out (le_succ _) (fun b o e=>k1 b o (ic (qe (fw e))) (keep b o e)) hp hs k2⟩⟩
theorem EB{vs:List bo}{ns:List Int}(hI:jr vs ns)(h2:2<=vs.length){Q:qz->bq->Prop}(h:Q oneType' s):cv (model prog w) A (keyKind' vs.toArray) Q E s:=by
 match vs,hI,h2 with
 |v1::v2::r,hI,_=>
  rw[keyKind_ints hI];exact cr h
end
theorem xV:∀{vs:List bo}{ns:List Int},jr vs ns->vs.map numOf=ns
 |_,_,.nil=>rfl
 |_,_,.cons n t h=>by rw[kq,xV h];rfl
theorem vH:∀{vs:List bo},(∀v∈vs,∃n t,v=tw n t)->jr vs (vs.map numOf)
 | [],_=>.nil
 |v::r,h=>by
  obtain⟨n,t,rfl⟩:=h v iq;exact .cons n t (vH fun x m=>h x (fu _ m))
theorem Ez{out vs:List bo}{ns:List Int}(hI:jr vs ns)(hp:out.Perm vs)(hs:out.Pairwise (fun x y=>decide (numOf (y,y).1<numOf (x,x).1)=false)):jr out (out.map numOf)/\(out.map numOf).Perm ns/\(out.map numOf).Pairwise (· <= ·):=by
 refine⟨vH fun v m=>hI.all v (hp.mem_iff.mp m),?_,?_⟩
 ·have:=hp.map numOf
  rwa [xV hI]at this
 ·rw[qq];exact hs.imp fun h=>by have:=of_decide_eq_false h;dsimp only at this;omega
def n8:List XV->Sto->RX->Prop:=fun xs S R=>arg1 xs fun x=>∃m:List (Key×bv),x=.d (.dict (DD.pairs (.k m)))/\∃ns:List Int,m.map (·.1)=ns.map Sum.inl/\ns.length<=10000000/\∀ms:List Int,ms.Perm ns->ms.Pairwise (· <= ·)->R (.d (.list (ms.map cq))) S
def u7:V->Int
 | .int n=>n
 |_=>0
def cO(H:Hp):bo->List Int
 | .ref a=>match H a with
  |some (.tup xs)=>xs.map u7
  |_=>[]
 |_=>[]
theorem vS:∀ns:List Int,(ns.map V.int).map u7=ns
 | []=>rfl
 |n::r=>by rw[kq,kq,vS r];rfl
theorem vK{H:Hp}{a:Addr}{ns:List Int}(e:H a=some (.tup (ns.map V.int))):cO H (.ref a)=ns:=by
 show (match H a with|some (.tup xs)=>xs.map u7|_=>[])=ns;rw[e];exact vS ns
def adr:bo->Addr
 | .ref a=>a
 |_=>0
theorem x4:∀{as:List Addr}{us:List bo},Vals (as.map V.ref) us->us=as.map fv
 | [],_,.nil=>rfl
 |a::r,_,.cons e h=>by rw[x4 h,show _=fv a from e];rfl
theorem Ap{α:Type}:∀zs:List (Addr×α),Vals (zs.map fun z=>V.ref z.1) (zs.map fun z=>fv z.1)
 | []=>.nil
 |a::r=>.cons rfl (Ap r)
theorem HM{P:fq}{w:gw}{H:Hp}{h:Heap}{a:Addr}{ns:List Int}(ok:HOk P w H h)(e:H a=some (.tup (ns.map V.int)))(hn:ns≠[]):TupI h (.ref a) ns:=by
 obtain⟨_,us,rv,ob,hb,cb,n,db⟩:=(show ObjOk P w H h a (.tup (ns.map V.int))from ok a _ e);exact⟨hn,a,ob,us.toArray,n,rfl,hb,cb,db,by simpa using kR rv⟩
theorem TupI.keep{h h':Heap}{v:bo}{ns:List Int}(x:TupI h v ns)(k:∀b o,h.get? b=some o->h'.get? b=some o):TupI h' v ns:=by
 obtain⟨hn,a,o,xs,n,e,g,r⟩:=x;exact⟨hn,a,o,xs,n,e,k _ _ g,r⟩
def BU(K:cw):List V->Hp->VK->Prop:=fun xs H Q=>∃(p:Addr) (zs:List (Addr×List Int)),xs=[.ref p]/\SqL K H p (zs.map fun z=>V.ref z.1)/\(∀z∈zs,H z.1=some (.tup (z.2.map V.int))/\z.2≠[])/\zs.length<=10000000 /\
 ∀(l:Addr) (ys:List (Addr×List Int)),H l=none->ys.Perm zs->ys.Pairwise (fun x y=>HT.lexLt y.2 x.2=false)->Q (.ref l) (upd H l (.lst (ys.map fun z=>V.ref z.1)))
theorem II{H:Hp}{zs:List (Addr×List Int)}{out:List bo}(hz:∀z∈zs,H z.1=some (.tup (z.2.map V.int))/\z.2≠[])(hp:out.Perm (zs.map fun z=>fv z.1))(hs:out.Pairwise (fun x y=>HT.lexLt (cO H (y,y).1) (cO H (x,x).1)=false)):
  (out.map fun v=>(adr v,cO H v)).Perm zs/\(out.map fun v=>(adr v,cO H v)).Pairwise (fun x y=>HT.lexLt y.2 x.2=false)/\out=(out.map fun v=>(adr v,cO H v)).map fun z=>fv z.1:=by
 refine⟨?_,?_,?_⟩
 ·refine(hp.map fun v=>(adr v,cO H v)).trans (List.Perm.of_eq ?_);rw[mo]
  conv=>rhs;rw[<- map_id zs]
  exact map_congr_left fun z m=>Prod.ext rfl (vK (hz z m).1)
 ·rw[qq];exact hs
 ·rw[mo]
  conv=>lhs;rw[<- map_id out]
  refine map_congr_left fun v m=>?_;obtain⟨z,_,rfl⟩:=mem_map.mp (hp.mem_iff.mp m);rfl
theorem Bs{X:Cx}:CallR X (.builtin "sorted") (BU X.K):=by
 intro zd s σ H xs us Q I r h;obtain⟨p,zs,rfl,hq,hz,hn,q⟩:=h;obtain⟨u,rfl,rx⟩:=vals1 r;cases (show u=fv p from rx);obtain⟨aa,rv,pl,_⟩:=I.list hq;have ei:aa=zs.map fun z=>fv z.1:=by
  have:=x4 (as:=zs.map (·.1)) (by rw[mo];exact rv);rw[this,mo];rfl
 subst ei;have hT:∀v∈zs.map (fun z=>fv z.1),TupI s.heap v (cO H v):=fun v m=>by
  obtain⟨z,mz,rfl⟩:=mem_map.mp m;rw[vK (hz z mz).1];exact HM I.hok (hz z mz).1 (hz z mz).2
 refine Dw (kd:=tuples' true) (lt:=fun x y=>HT.lexLt (cO H x.1) (cO H y.1)) pl.isList (by rw[fj];exact hn) (fun A' E' h3 k Q h2 z=>EH (s:={ s with heap:=h3 }) (cO H) (fun v m=>(hT v m).keep k) h2 z) (fun A' E' h3 k=>HI (s:={ s with heap:=h3 }) (cO H) fun v m=>(hT v m).keep k) fun D h' c out hD kp hp hs hg=>?_;obtain⟨o1,o2,o3⟩:=II hz hp hs;refine⟨.ref D,_,I.laid (t':=s.toks) kp hD (show ObjOk X.prog X.w _ h' D (.lst ((out.map fun v=>(adr v,cO H v)).map fun z=>V.ref z.1))from⟨?_,out,c,?_,hg⟩),rfl,q _ _ (I.hok.fresh hD) o1 o2⟩
 ·rw[fj,o1.length_eq,jy];omega
 ·have:=Ap (out.map fun v=>(adr v,cO H v));rw[<- o3]at this;exact this
def fN:List XV->Sto->RX->Prop:=fun xs S R=>arg1 xs fun x=>∃ds,cC S x=some ds/\∃nss:List (List Int),ds=nss.map eV/\nss.length<=10000000/\(∀ns∈nss,ns≠[])/\∀mss:List (List Int),mss.Perm nss->mss.Pairwise (fun x y=>HT.lexLt y x=false)->R (.d (.list (mss.map eV))) S
theorem vU{H:Hp}:∀{nss:List (List Int)}{ws:List V},HasL H (nss.map eV) ws->∃zs:List (Addr×List Int),ws=zs.map (fun z=>V.ref z.1)/\zs.map (·.2)=nss/\∀z∈zs,H z.1=some (.tup (z.2.map V.int))
 | [],ws,l=>⟨[],zx.mp l,rfl,fun z m=>by cases m⟩
 |ns::r,ws,l=>by
  obtain⟨v,t,rfl,h1,h2⟩:=zn.mp l;obtain⟨a,us,rfl,ea,la⟩:=zO.mp h1;rw[iK la]at ea;obtain⟨zs,rfl,e2,hz⟩:=vU h2;refine⟨(a,ns)::zs,rfl,by rw[kq,e2],fun z m=>?_⟩;rcases mem_cons.mp m with rfl|m
  ·exact ea
  ·exact hz z m
theorem xW{H:Hp}:∀{zs:List (Addr×List Int)},(∀z∈zs,H z.1=some (.tup (z.2.map V.int)))->HasL H ((zs.map (·.2)).map eV) (zs.map fun z=>V.ref z.1)
 | [],_=>zx.mpr rfl
 |z::r,h=>zn.mpr ⟨_,_,rfl,zO.mpr ⟨z.1,_,rfl,h z iq,mI z.2⟩,xW fun x m=>h x (fu _ m)⟩
theorem wK{K:cw}:RC (BU K) fN:=fun h o H S xs vs R Q hs hx q c=>by
 obtain⟨x,rfl,ds,hd,ac,rfl,hn,y,q1⟩:=bO q;obtain⟨v,rfl,aa⟩:=hxs1 hx;obtain⟨a,ws,rfl,ea,l⟩:=bQ hs hd aa;obtain⟨zs,rfl,e2,hz⟩:=vU l;subst e2;refine⟨a,zs,rfl,.of ea,fun z m=>⟨zG _ _ (hz z m),y _ (rm m)⟩,by simpa using hn,fun l ys hl pm pw=>?_⟩;exact iU hs (xW (zs:=ys) fun z m=>hz z (pm.mem_iff.mp m)) c (q1 _ (pm.map _) (by rw[qq];exact pw)) l hl
end L2
namespace L2
open PySem PySem.Spec PySem.Calls PyProof.Rows
def l5(j:Nat)(dk dv:DM->DE):DSm:=fun En δ S M=>zi j δ S fun y S1=>∃a m,y=.o (.ref a)/\(a,DD.k m)∈M/\dk M δ S1 fun z S2=>dv M δ S2 fun x S3=>asD z fun k=>asD x fun d=>∃kk,GD k=some kk/\m.length<1000/\if (lkA m kk).isSome=true then En.nx δ S3 M else En.nx δ S3 (Gw M a (.k (ptA m kk d)))
def mM(k:Int)(e:DE):DE:=fun δ S R=>e δ S fun x S1=>asD x fun d=>R (.d (.dict [(.int k,d)])) S1
end L2
namespace L2
theorem len0{α:Type}{l:List α}(h:l.length=0):l=[]:=gg h
theorem len1{α:Type}{l:List α}(h:l.length=1):∃a0,l=[a0]:=by
 cases l with
 |nil=>cases h
 |cons x r=>
  obtain rfl:=len0 (Nat.succ.inj h);exact⟨x,rfl⟩
theorem len2{α:Type}{l:List α}(h:l.length=2):∃a0 a1,l=[a0,a1]:=by
 cases l with
 |nil=>cases h
 |cons x r=>
  obtain⟨a1,rfl⟩:=len1 (Nat.succ.inj h);exact⟨x,a1,rfl⟩
theorem len3{α:Type}{l:List α}(h:l.length=3):∃a0 a1 a2,l=[a0,a1,a2]:=by
 cases l with
 |nil=>cases h
 |cons x r=>
  obtain⟨a1,a2,rfl⟩:=len2 (Nat.succ.inj h);exact⟨x,a1,a2,rfl⟩
theorem len4{α:Type}{l:List α}(h:l.length=4):∃a0 a1 a2 a3,l=[a0,a1,a2,a3]:=by
 cases l with
 |nil=>cases h
 |cons x r=>
  obtain⟨a1,a2,a3,rfl⟩:=len3 (Nat.succ.inj h);exact⟨x,a1,a2,a3,rfl⟩
theorem len5{α:Type}{l:List α}(h:l.length=5):∃a0 a1 a2 a3 a4,l=[a0,a1,a2,a3,a4]:=by
 cases l with
 |nil=>cases h
 |cons x r=>
  obtain⟨a1,a2,a3,a4,rfl⟩:=len4 (Nat.succ.inj h);exact⟨x,a1,a2,a3,a4,rfl⟩
end L2
namespace L2
open PySem PySem.Spec PyProof.Rows
section
def yE(K:cw):List V->Hp->VK->Prop:=fun xs H Q=>∃(p:Addr) (ns:List Int),xs=[.ref p]/\SqT K H p (ns.map V.int)/\ns.length<=10000000/\∀(l:Addr) (ms:List Int),H l=none->ms.Perm ns->ms.Pairwise (· <= ·)->Q (.ref l) (upd H l (.lst (ms.map V.int)))
theorem kH{X:Cx}:CallR X (.builtin "sorted") (yE X.K):=by
 intro zd s σ H xs us Q I r h;obtain⟨p,ns,rfl,hq,hn,q⟩:=h;obtain⟨u,rfl,rx⟩:=vals1 r;cases (show u=fv p from rx);obtain⟨aa,rv,pl,_⟩:=I.tuple hq;have hI:=kR rv;obtain⟨o,ho,hc,n,hd⟩:=pl;refine Calls.call_function_entry kind_sorted plain_sorted entry_sorted (args_sorted1 _) ?_;unfold nk.«sorted»;refine bp (m:=checkCount "sorted" 1 1 _) (cr ?_);refine bp (wpAny_collect_seq p (.inr rfl) ho hc hd (fun h1 ac=>?_) (by rw[jy,dy,tS hI];omega));refine C4 (s:={ s with heap:=h1 }) (vs:=aa) (kd:=oneType') (lt:=fun x y=>decide (numOf x.1<numOf y.1)) (by rw[tS hI];exact hn) (fun A' E' h3 _ Q h2 z=>EB hI h2 z) (fun A' E' h3 _=>Im hI) fun D h' c out hD kp hp hs hg=>?_;obtain⟨o1,o2,o3⟩:=Ez hI hp hs;have I1:Inv X zd σ H { s with heap:=h1 }:=I.kept (t':=s.toks) ac;refine⟨_,rfl,.ref D,_,I1.laid (t':=s.toks) kp hD (show ObjOk X.prog X.w _ h' D (.lst ((out.map numOf).map V.int))from⟨?_,out,c,qW o1,hg⟩),rfl,q _ _ (I1.hok.fresh hD) o2 o3⟩;rw[fj,o2.length_eq,jy];omega
def dP:List XV->Sto->RX->Prop:=fun xs S R=>arg1 xs fun x=>∃ns:List Int,x=.d (.tuple (ns.map cq))/\ns.length<=10000000/\∀ms:List Int,ms.Perm ns->ms.Pairwise (· <= ·)->R (.d (.list (ms.map cq))) S
theorem FE{K:cw}:RC (yE K) dP:=fun h o H S xs vs R Q hs hx q c=>by
 obtain⟨x,rfl,ns,rfl,hn,q1⟩:=bO q;obtain⟨v,rfl,y⟩:=hxs1 hx;obtain⟨a,us,rfl,ea,l⟩:=zO.mp y;rw[iK l]at ea;refine⟨a,ns,rfl,.of (zG _ _ ea),hn,fun l ms hl pm pw=>?_⟩;exact iU hs (mI ms) c (q1 ms pm pw) l hl
theorem Dr{K:cw}{i:Nat}{tc:TT}{t u:XK->TS}{ts:TS}{dc:DT}{d1 d2:DS}(hc:RT tc dc)(h1:RS (i8 K 65 i t ts) d1)(h2:RS (i8 K 65 i u ts) d2):RS (i8 K 65 i (fun Ex=>iZ tc (t Ex) (u Ex)) ts) (aI dc d1 d2):=fun h o H δ σ S E D he hs q c=>
 (show RS (iZ tc (i8 K 65 i t ts) (i8 K 65 i u ts)) (aI dc d1 d2)from eU hc h1 h2) h o H δ σ S E D he hs q c
end
end L2
namespace L2
open PySem PySem.Spec PySem.Calls PyProof.Rows
open Sem (wp)
def nE(a:DA):DE:=fun δ S R=>a δ S fun xs S1=>arg2 xs fun x y=>∃ds,cH x=some ds/\∃es,cH y=some es/\min ds.length es.length<=1000/\R (.d (.list (sD ds es))) S1
end L2
namespace L2
open PySem PySem.Spec PySem.Calls PyProof.Rows
open Sem (wp)
theorem BW(a f v:bo):argsOk "min" ⟨[a],[(gk "key",f),(gk "default",v)]⟩:=by unfold argsOk;kernel_rfl
end L2
namespace L2
open PySem PySem.Spec PySem.Calls PyProof.Rows
def PSXs(X:Cx)(body:List Stmt)(t:XK->TS):Prop:=∀(zd:List (Addr×Obj)) (s:bq) (σ:St) (H:Hp) (D:Ends) (Ex:XK) (E':bo->bq->Prop),Inv X zd σ H s->t Ex D σ H ->
 (∀H1 s1 v s',Inv X zd σ H1 s1->CX1 X.prog X.w X.stack H1 s1 Ex v s'->E' v s')->cv (model X.prog X.w) X.A (execs body X.env) (SP X zd D) E' s
theorem Ev{X:Cx}{c:Expr}{a b:Stmt}{tc:TT}{t u:XK->TS}{pos:Pos}(hx:∀e s,X.xe e s->False)(hc:PT X c tc)(ha:PSX X a t)(hr:∀Ex D σ H,t Ex D σ H->t Ex { D with nx:=fun _ _=>False } σ H)(hb:PSX X b u):PSXs X [.If c [a] [] pos,b] (fun Ex=>iZ tc (t Ex) (u Ex)):=by
 intro zd s σ H D Ex E' I h hX;refine rq (wpAny_If (kl (hc zd s σ H _ I h) (fun d s1 ⟨H1,I1,q1⟩=>?_) fun _ _ z=>(hx _ _ z).elim));cases d with
 |true=>
  refine rq (kl (ha zd s1 σ H1 _ Ex E' I1 (hr Ex D σ H1 q1) hX) (fun fl s2 z=>?_) fun _ _ z=>z);cases fl with
  |next=>obtain⟨_,_,_,z⟩:=z;exact z.elim
  |ret v=>exact z
  |brk=>exact z
  |cont=>exact z
 |false=>
  refine qt ?_;refine rq (kl (hb zd s1 σ H1 D Ex E' I1 q1 hX) (fun fl s2 z=>?_) fun _ _ z=>z);cases fl with
  |next=>exact qt z
  |ret v=>exact z
  |brk=>exact z
  |cont=>exact z
section
variable {X:Cx}{G n:Str}{gp hpos pos:Pos}{i:Nat}{b₀:Stmt}{body suite:List Stmt}{GA:Addr}{iniG:Option bo}{tb:XK->TS}{ts:TS}
theorem HL(hx:∀e s,X.xe e s->False)(aa:X.stack=X.env::X.outer)(ay:X.env.frame=some X.env.locals)(hN:X.N.Nodup)(hi:X.N[i]?=some n)(hl:X.env.kindOf n=some .local)(hg:Gl X G)(hm:X.mg G=some (.ref GA))(qG:ExCls X.K GA iniG)
  (hb:PSXs X body tb) (hs:∀a,PSs (X.suite a) (b₀::suite) ts) (hdb:(G==("__debug__":Str))=false:=by decide):
  PS X (.Try body [.ExceptHandler (some (.Name G gp)) (some n) (b₀::suite) hpos] [] [] pos) (i8 X.K GA i tb ts):=by
 intro zd s σ H D I h;refine wpAny_Try_except (kl (hb zd s σ H D _ (fun e s₁=>cv (model X.prog X.w) X.A (noteFrame e X.env) (fun _ s₂=>cv (model X.prog X.w) X.A (setFlight e none) (fun _ s₃=>cv (model X.prog X.w) X.A (handleBy e X.env [.ExceptHandler (some (.Name G gp)) (some n) (b₀::suite) hpos]) (SP X zd D) X.xe s₃) X.xe s₂) X.xe s₁) I h ?_) (fun fl s1 q=>?_) fun _ _ z=>z)
 rotate_left
 ·cases fl with
  |next=>exact qt q
  |ret v=>exact q
  |brk=>exact q
  |cont=>exact q
 intro H1 s1 v s' I1 cx;obtain⟨H',a,C,dx,rfl,F,C',b,ini,eC,eb,qC,an,a0⟩:=cx;cases eC;cases eb;obtain⟨B,t,fl,kB,eB,tB⟩:=F.fl;rw[aa]at fl;have frames:X.A.frames=some (X.env::X.outer):=by rw[I1.ok.frames,aa]
 refine Ce frames ay fl fun h₄ aj aw=>?_;refine E7 aj fun h₅ af ax=>?_;have bB:∀b o,X.base.get? b=some o->B.get? b=some o:=fun b o e=>kB b o (I1.bk b o e) (I1.bs b o e).2 fun z=>by
  have:=(I1.stack.mem z).1;rw[e]at this;cases this
 have kin:X.K.In h₅:=I1.ok.mod.kin.keeps fun b o e=>af.1 b o (bB b o e);obtain⟨oe,az,aq,_⟩:=af.there;refine wpAny_handleBy_cons (codeAny_handlers_test ?_) (by intro q;cases q);refine Calls.Name_function_global I1.ok.kind hg (Calls.loadGlobal_global (by rw[I1.ok.glob];exact I1.mod.glob.keeps fun b o e=>af.1 b o (bB b o e)) hm ?_) hdb;refine Ee kin qC qG az aq an (codeAny_handlers_suite_as ?_);refine Cw af fun h₆ y ap=>?_;obtain⟨am,ag,al,ak⟩:=y.there;subst ak;have sm:s'.heap.UpToSlots h₆:=(aw.trans ax).trans ap;have na:H' a=none:=by
  cases z:H' a with
  |none=>rfl
  |some u=>
   obtain⟨o,q⟩:=tB a u z;rw[fl.2.1]at q;cases q
 have ar:∀b o,s1.heap.get? b=some o->b≠a:=fun b o q z=>by
  subst z;rcases eB b o q with z|⟨o',z⟩
  ·rw[aa]at z;obtain⟨_,o2,q2,nf⟩:=y.2.2.1.mem z;obtain⟨au,ao,q7,_,d7,_⟩:=y.first
   rw[q2]at q7;cases q7;exact nf _ d7
  ·rw[fl.2.1]at z;cases z
 have I6:Inv X zd σ (upd H' a (exO a C am.dict)) { s' with heap:=h₆ }:=by
  refine I1.call' (ch:=[]) F.os ⟨fun b o q n hb _=>y.1 b o (kB b o q n hb),fun b o q n hb _=>?_,fun b o q n _=>?_,fun b o q _=>?_,fun b xs q=>?_,fun b o u q=>?_,fun b ps q=>?_⟩ ?_ F.bare (fun b z=>absurd z yv)
  ·obtain⟨sl,q1⟩:=F.un.any q n yv;rw[aa]at hb;obtain⟨_,o3,q3,nf⟩:=fl.2.2.1.mem hb;rw[q1]at q3;cases q3;obtain⟨a1,q4⟩:=sm b _ q1 nf;exact⟨a1,q4⟩
  ·rw[zH (ar b o q)];exact F.un.free b o q n yv
  ·rcases eB b o q with z|⟨o',z⟩
   ·rw[aa]at z;obtain⟨_,o3,q3,_⟩:=y.2.2.1.mem z;exact⟨o3,q3⟩
   ·exact⟨o',y.1 b o' z⟩
  ·have q2:=F.un.tups b xs q;rw[zH (zC q2 na)];exact q2
  ·have q2:=F.un.frzs b o u q;rw[zH (zC q2 na)];exact q2
  ·have q2:=F.un.tbls b ps q;rw[zH (zC q2 na)];exact q2
  ·intro b u q;by_cases hb:b=a
   ·subst hb;rw[cP]at q;cases q;exact D9 ag al (by
     obtain⟨au,ao,q7,_,d7,e7⟩:=y.first2;rw[ag]at q7;cases q7;exact⟨_,d7,e7⟩)
   ·rw[zH hb]at q;refine(F.hok b u q).stay (fun c v hc q1=>?_) (fun c q1=>by rw[zH (zC q1 na)];exact q1) fun c xs q1=>by rw[zH (zC q1 na)];exact q1
    have tr:∀c u,H' c=some u->s'.heap.get? c=some v->h₆.get? c=some v:=fun c u e q1=>by
     obtain⟨o',z⟩:=tB c u e;have:=fl.1 c o' z;rw[q1]at this;cases this;exact y.1 c v z
    rcases hc with rfl|hc
    ·exact tr _ _ q q1
    ·exact tr _ _ hc q1
 have a2:σ.length=X.N.length:=I6.len;refine pX (v:=.ref a) I6 hN hi (.inl hl) rfl (fun s7 I7=>?_) (.inr hl);refine kl (hs a zd s7 _ _ _ (I7.suite a) a0) (fun f8 s8 q=>?_) fun _ _ z=>z.elim;cases f8 with
 |ret u=>
  obtain⟨w,σ8,H8,I8,r8,q8⟩:=q;have J:=I8.unsuite I6.ok;obtain⟨m8,ae,_⟩:=J.loc;have ac:(X.env.scope.kind==.class||(X.env.scope.kind==.module&&X.env.locals != X.env.globals))=false:=by rw[J.ok.kind];rfl
  refine wpAny_nameGoes hl ae ac fun h9 m9 ai ah=>?_;exact⟨w,_,H8,J.gone ai ah,r8,q8⟩
 |next=>
  obtain⟨σ8,H8,I8,q8⟩:=q;have J:=I8.unsuite I6.ok;obtain⟨m8,ae,av⟩:=id J.loc;have ac:(X.env.scope.kind==.class||(X.env.scope.kind==.module&&X.env.locals != X.env.globals))=false:=by rw[J.ok.kind];rfl
  refine wpAny_nameGoes_keeps hl ae ac fun h9 v9 ai ah=>?_;exact⟨_,H8,J.goneAt hN hi hl ae av ai ah,q8⟩
 |brk=>obtain⟨_,_,_,z⟩:=q;exact z.elim
 |cont=>obtain⟨_,_,_,z⟩:=q;exact z.elim
end
end L2
namespace L2
open PySem PySem.Spec PyProof.Rows
section
section
variable {X:Cx}
theorem wJ{α β:Type}{r:α->β->Prop}:∀{a:List α}{b:List β}{i:Nat}{v:α}{w:β},Paired r a b->a[i]?=some v->b[i]?=some w->r v w:=by
 intro a b i v w pq;induction pq generalizing i with
 |nil=>intro h;simp at h
 |cons r0 _ ih=>
  cases i with
  |zero=>
   intro h1 h2;rw[nc]at h1 h2;cases h1;cases h2;exact r0
  |succ i=>
   intro h1 h2;rw[ng]at h1 h2;exact ih h1 h2
end
theorem lo{sc:Scope}{x:Str}(h:sc.names.lookup x=some .local:=by rfl):Loc sc x:=jb h
theorem fsd{N P:List Str}{sc:Scope}(h:uI N P sc=true:=by decide +kernel):FnScope N P sc:=fsc h
theorem ID{X:Cx}{i:Nat}{x:Str}{e:Expr}{t:TE}{pos pos':Pos}(hN:X.N.Nodup)(hi:X.N[i]?=some x)(hx:Loc X.env.scope x)(he:QE X e t)(hs:swapsWith e (some (.Name x pos')) pos.line X.env=pure false:=by rfl)(hf:X.fn x=true\/X.env.scope.names.lookup x=some .local:=by first|exact .inl rfl|exact .inr rfl|assumption):
  QS X (.Assign [.Name x pos'] e pos) (j6 t (jP i)):=QS.mk (zJ hN hi hx he.out hs hf)
end
end L2
namespace L2
open PySem PySem.Spec PyProof.Rows
section
def o8:D2:=fun x _ S R=>match x with
 | .d d=>R (.d (.bool (!eZ d))) S
 | .l _=>R (.d (.bool true)) S
 |_=>False
theorem oF{d:bv}{y:XV}{S:Sto}{R:RX}:o8 (.d d) y S R=R (.d (.bool (!eZ d))) S:=rfl
theorem mK{k:Nat}{y:XV}{S:Sto}{R:RX}:o8 (.l k) y S R=R (.d (.bool true)) S:=rfl
theorem Bd{ta:TE}{da:DE}(ha:RE ta da):RE (tOp sF ta (tC .non)) (dOp o8 da (dC .none)):=fun h o H δ σ S R Q he hs q c=>
 ha h o H δ σ S _ _ he hs q fun o1 H1 S1 x v e1 s1 x1 d1=>by
  cases x with
  |d d=>
   have e:=uW (show Has _ d v from x1);exact⟨rfl,by rw[e];exact c o1 H1 S1 _ _ e1 s1 (xB _) d1⟩
  |l k=>
   obtain⟨a,_,rfl⟩:=x1;exact⟨rfl,c o1 H1 S1 _ _ e1 s1 (xB _) d1⟩
  |o w=>exact absurd d1 id
  |x C fs=>exact absurd d1 id
  |p k d=>exact absurd d1 id
end
section
section
variable {prog:fq}{w:gw}{A:gh}{E:bo->bq->Prop}{s:bq}
theorem Ii{T aa y:String}{Bn Bi:nk}{args:List bo}{kw:List (Str×bo)}{S:PySem.Spec}{Q Q₁:bo->bq->Prop}(ft:TypeCalled T aa y)
  (hct:checkTypeCall T ⟨args,kw⟩=pure ()) (hcn:checkBuiltinCall aa ⟨.type T::args,kw⟩=pure ())
  (entryN:entryFor table aa=some Bn) (entryI:entryFor table y=some Bi) (g:Meets (Bn ⟨.type T::args,kw⟩) S)
  (h:S A.in1 (wants Q₁ E) s)
  (hnext:∀obj s₁,Q₁ obj s₁->s₁.TypeIs obj T/\argsOk y ⟨obj::args,kw⟩/\∃Si,Meets (Bi ⟨obj::args,kw⟩) Si/\Si A.in1 (wants (fun r s₂=>r=.none/\Q obj s₂) E) s₁):
  cv (model prog w) A (call (.type T) args kw) Q E s:=by
 obtain⟨c,tl,ah⟩:=ft.mro;have af:=ft.made;have ag:=ft.sub;refine wpAny_call (codeAny_of_tree ?_);show cv _ _ (callAny (.type T) _) _ _ _;refine cr ⟨Code.quiet_builtin _ (by decide +kernel),kh F.entry_type_call ?_⟩;rw[Around.under_plain (weight_type_call_type T args kw) (units_type_call_type T args kw)];have h1:=ft.notType;have h2:=ft.canCreate
 repeat (any_goals (first|assumption|wp_step))
 refine rz (codeAny_call_builtin ft.plain entryN (wpAny_of_eq hcn (g prog w A.in1 _ s h))) fun r s₁ hr=>?_;cases r with
 |error e=>exact hr
 |ok fl=>
  cases fl with
  |ret obj=>
   obtain⟨hT,hok,Si,gi,ae⟩:=hnext _ _ hr;have ai:=ft.init.lookup;have aj:=ft.init.bind obj
   repeat (any_goals (first|assumption|wp_step))
   refine rz (codeAny_call_builtin ft.init.plain entryI (ft.init.check _ _ _ _ _ _ _ _ hT hok (gi prog w A.in1 _ s₁ ae))) fun r₂ s₂ ac=>?_;cases r₂ with
   |error e=>exact ac
   |ok fl₂=>
    cases fl₂ with
    |ret r=>
     obtain⟨rfl,hq⟩:=ac
     repeat (any_goals (first|assumption|wp_step))
    |_=>exact ac.elim
  |_=>exact hr.elim
theorem C7{T y:String}{self:bo}{rest:List bo}{k:Str}{v:bo}(hl:typeLookup (.type T) "__init__" = pure (some (.builtin "object.__init__")))
  (hm:Bind.madeBy (.type T)=pure (some y)) (hne:(some y != some "object.__new__")=true):
  Meets (nk.«object.__init__» ⟨self::rest,[(k,v)]⟩) (fun _ R s=>s.TypeIs self T/\R (.ok (.ret .none)) s):=by
 refine Meets.of_wp fun prog w A R s hs=>?_;obtain⟨hT,hq⟩:=hs;cases rest with
 |nil=>
  repeat (any_goals (first|assumption|wp_step))
  exact⟨_,rfl,hq⟩
 |cons a rest=>
  repeat (any_goals (first|assumption|wp_step))
  exact⟨_,rfl,hq⟩
theorem FI(a:bo)(v:bo):checkTypeCall "enumerate" ⟨[a],[("start",v)]⟩=pure ():=by kernel_rfl
theorem HB(a:bo)(v:bo):checkBuiltinCall "enumerate.__new__" ⟨[.type "enumerate",a],[("start",v)]⟩=pure ():=by kernel_rfl
theorem C6(ob a v:bo):argsOk "object.__init__" ⟨[ob,a],[("start",v)]⟩:=by kernel_rfl
theorem Ix(l:Addr)(items:Array bo)(n:Nat)(y:Option Addr)(sl:Array (Option bo))(aa:Tok):
  Meets (nk.«enumerate.__new__» ⟨[.type "enumerate",.ref l],[("start",.int 1 aa)]⟩) (fun _ R s=>s.heap.get? l=some { cls:=.type "list",dict:=y,data:=.seq items n,slots:=sl } /\
   R (.ok (.ret (.ref (s.heap.push { cls:=.type "list_iterator",data:=.fields #[.ref l,.int 0 0] }).objs.size)))
    { s with heap:=(s.heap.push { cls:=.type "list_iterator",data:=.fields #[.ref l,.int 0 0] }).push { cls:=.type "enumerate",data:=.fields #[.none,.bool false,.ref s.heap.objs.size,qj 1,.none,.none] } }):=
 .of_wp fun prog w A R s h=>by
  obtain⟨hp,g,d,tk,os⟩:=s;obtain⟨hl,h⟩:=h;have ac:=sub_enumerate;have hL:Heap.IsList (Shared.heap ⟨hp,g,d,tk,os⟩) l items:=⟨_,hl,rfl,n,rfl⟩
  wp_walk using wpAny_loadPart' hl
  refine wpAny_stack_any fun st=>cr ?_;split
  ·rename_i c _ _ _ _ _;cases (c==ue "enumerate")
   ·wp_walk using wpAny_loadPart' hl,ju hL
    all_goals exact⟨_,rfl,h⟩
   ·wp_walk using wpAny_loadPart' hl,ju hL
    all_goals exact⟨_,rfl,h⟩
  ·wp_walk using wpAny_loadPart' hl,ju hL
   all_goals exact⟨_,rfl,h⟩
theorem E6{l:Addr}{items:Array bo}{y:Tok}{Q:bo->bq->Prop}(hL:s.heap.IsList l items)
  (hyp:∀g,IsEnum g (s.heap.objs.size+1) s.heap.objs.size 1 .none->g.IsListIter s.heap.objs.size l 0->(∀b o,s.heap.get? b=some o->g.get? b=some o)->Q (.ref (s.heap.objs.size+1)) { s with heap:=g }):cv (model prog w) A (call (.type "enumerate") [.ref l] [("start",.int 1 y)]) Q E s:=by
 obtain⟨⟨c,aa,dt,sl⟩,ht,hc,n,hd⟩:=hL;replace hc:c=.type "list":=hc;replace hd:dt=.seq items n:=hd;subst hc hd;have sz:(s.heap.push { cls:=.type "list_iterator",data:=.fields #[.ref l,.int 0 0] }).objs.size=s.heap.objs.size+1:=size_push ..;have he:=ff (s.heap.push { cls:=.type "list_iterator",data:=.fields #[.ref l,.int 0 0] }) (o:={ cls:=.type "enumerate",data:=.fields #[.none,.bool false,.ref s.heap.objs.size,qj 1,.none,.none] }) rfl;refine Ii (Q₁:=fun ob s₁=>s₁.TypeIs ob "enumerate"/\Q ob s₁) F.called_enumerate (FI _ _) (HB _ _) F.entry_enumerate_new F.entry_object_init (Ix l items n aa sl y) ⟨ht,?_⟩ fun ob s₁ q=>⟨q.1,C6 _ _ _,_,C7 F.called_enumerate.init.lookup F.called_enumerate.made dz,q.1,rfl,q.2⟩;show _/\_;rw[sz]at he ⊢;exact⟨⟨_,he,rfl⟩,hyp _ he ⟨_,bx _ (ff _ rfl),rfl,rfl⟩ fun b o q=>bx _ (bx _ q)⟩
end
section
variable {M:Model}{A:gh}{E:bo->bq->Prop}{s:bq}{env:Env}
theorem Dc{pos:Pos}{T:String}{first:List bo}{args:List (Bool×Sem bo)}{y:List (Option Str×Sem bo)}{Q:bo->bq->Prop}
  (hplain:args.any (·.1)=false) (hkw:y.any (·.1.isNone)=false)
  (h:cv M A (evalArgs (.type T) true args y) (fun a s₁=>cv M A (call (.type T) (first++a.pos) a.kw) Q E s₁) E s):
  cv M A (callWith pos (.type T) first args y) Q E s:=by
 unfold callWith;refine bp (ie (thn h fun a s₁ h₁=>bp (wpAny_standAt ?_)));simp only[hplain,hkw,Bool.or_false];refine bp (cr ?_);exact bp (thn h₁ fun r s₂ hr=>bp (ie (wpAny_point (cr hr))))
theorem Ft{pos:Pos}{T:String}{e:Expr}{rest:List Expr}{y:List Keyword}{Q:bo->bq->Prop}
  (h:cv M A (spliced (kj pos (fc (e::rest) env))) (fun vs s₁=>cv M A (evalAll ((backToKw pos (rl y env)).map (·.2)))
   (fun aa s₂=>cv M A (call (.type T) vs (((backToKw pos (rl y env)).filterMap (·.1)).zip aa)) Q E s₂) E s₁) E s)
  (he:kj pos (fc (e::rest) env)=(false,eval e env)::kj pos (fc rest env))
  (hplain:(kj pos (fc (e::rest) env)).any (·.1)=false)
  (hall:(backToKw pos (rl y env)).all (·.1.isSome)=true)
  (hkw:(backToKw pos (rl y env)).any (·.1.isNone)=false):
  cv M A (callWith pos (.type T) [] (kj pos (fc (e::rest) env)) (backToKw pos (rl y env))) Q E s:=by
 refine Dc hplain hkw ?_;rw[he]at h ⊢;exact PyProof.Rows.evalArgs_kwB hall h
end
def Ite1(K:cw)(a:Addr):It:=
 ⟨fun i H=>∃xs x,SqL K H a xs/\xs[i]?=some x,fun i H x H'=>∃p v,H p=none/\x=.ref p/\H'=upd H p (.tup [.int ((i+1:Nat):Int),v])/\∀xs,SqL K H a xs->xs[i]?=some v,fun i H=>∃xs,SqL K H a xs/\xs.length<=i⟩
theorem FK{P:fq}{w:gw}{K:cw}{elts:List Expr}{n:Nat}{pos:Pos}(a e j:Addr)(ac:e≠j):Turn P w K (.Tuple elts n pos) (Ite1 K a) [e,j] e (fun i h=>(∃y,IsEnum h e j ((i+1:Nat):Int) y)/\h.IsListIter j a i) where
 mem:=by simp
 obj:=fun i h ⟨⟨y,he⟩,hj⟩ b hb=>by
  rcases mem_cons.mp hb with rfl|hb
  ·exact⟨_,he,fun v z=>by
    have z':Data.fields _=Data.cell v:=z;cases z'⟩
  ·rw[mem_singleton.mp hb];obtain⟨o,q,c,d⟩:=hj;exact⟨o,q,fun v z=>by rw[d]at z;cases z⟩
 keep:=fun i h h' ⟨⟨y,he⟩,hj⟩ k=>⟨⟨y,k e yv _ he⟩,hj.at fun o q=>k j yv o q⟩
 item:=by
  intro X hP hw hK hc i zd s σ H E I hf ⟨⟨y,he⟩,hj⟩ hg;subst hP hw hK;obtain⟨xs,x,hq,hx⟩:=hg;obtain⟨aa,rv,p,hz⟩:=I.list hq;obtain⟨u,hu,ru⟩:=rv.get hx;have hT:s.heap.IsList a aa.toArray:=p.isList;refine sW (J:=fun g=>g.IsListIter j a (i+1)) he ac (fun A' Q' E' k=>wpAny_nextOf_list_item hj hT (x:=u) (by simpa using hu) k) (fun g g' z k=>z.at k) fun g e1 j1 t1 k1=>?_;refine⟨_,rfl,wpAny_letOwnedTupleGo_enum (s:={ s with heap:=g,toks:=s.toks+1 }) e1 fun g' e2 b2=>?_⟩;have lt:e<s.heap.objs.size:=fw he;have af:j<s.heap.objs.size:=by
   obtain⟨_,q,_⟩:=hj;exact fw q
  have t2:g'.get? s.heap.objs.size=some { cls:=.type "tuple",data:=.seq #[.int ((i+1:Nat):Int) s.toks,u] }:=(b2.2 _ (ne_of_gt lt)).trans t1;have ae:H s.heap.objs.size=none:=I.hok.fresh (dw _);refine⟨.ref s.heap.objs.size,upd H s.heap.objs.size (.tup [.int ((i+1:Nat):Int),x]),I.turnLaid (ch:=[e,j]) (t':=s.toks+1) (fun b o nb q=>(b2.2 b fun z=>nb (by simp[z])).trans (k1 b o (fun z=>nb (by simp[z])) (fun z=>nb (by simp[z])) q)) hf (dw _) ?_,rfl,
   ⟨_,x,ae,rfl,rfl,fun ys hy=>by rw[I.list_inj hy hq];exact hx⟩,⟨⟨u,by simpa using e2⟩,j1.at fun o q=>(b2.2 j (jq ac)).trans q⟩,fun b hb=>?_⟩
  ·refine⟨⟨by show 2<=fh;decide,_,t2,rfl⟩,[.int ((i+1:Nat):Int) s.toks,u],.cons ⟨s.toks,rfl⟩ (.cons ru .nil),⟨_,t2,rfl,_,rfl⟩⟩
  ·rcases mem_cons.mp hb with rfl|hb
   ·rw[zH (ic lt)];exact(hf _ yv).1
   ·rw[mem_singleton.mp hb,zH (ic af)];exact(hf _ yv).1
 done:=by
  intro X hP hw hK hc i zd s σ H E I hf ⟨⟨y,he⟩,hj⟩ hg;subst hP hw hK;obtain⟨xs,hq,hx⟩:=hg;obtain⟨aa,rv,p,hz⟩:=I.list hq;have hT:s.heap.IsList a aa.toArray:=p.isList;have hl:=rv.length;exact sC (I.ok.hd hc) he (fun A' Q' E' h0 k=>wpAny_nextOf_list_end h0 hj hT (by simp;omega) k) fun g b=>⟨rfl,I.turnedN (ch:=[e,j]) (t':=s.toks) (fun b' o nb q=>b b' o (fun z=>nb (by simp[z])) q) hf⟩
 self:=fun _ _ _ _ _ st h=>by
  obtain⟨⟨y,he⟩,_⟩:=st;exact pz he h
section
variable {X:Cx}{elts:List Expr}{n:Nat}{tpos:Pos}
def Bm(K:cw)(ta:TA):TI:=fun σ H R=>ta σ H fun vs H1=>∃a,vs=[.ref a]/\(∃xs,SqL K H1 a xs)/\R (Ite1 K a) H1
theorem Ha{a:Expr}{ta:TA}{p pos kp cp:Pos}{cj:Nat}(hg:Gl X "enumerate")(hm:X.mg "enumerate" = none)(ha:PA X [a] ta)
  (he:kj pos (fc [a] X.env)=(false,eval a X.env)::kj pos (fc [] X.env):=by rfl) (hpl:(kj pos (fc [a] X.env)).any (·.1)=false:=by rfl):PI X (.Tuple elts n tpos) (.Call (.Name "enumerate" p) [a] [⟨some "start",.Constant (.int 1) cj cp,kp⟩] pos) (Bm X.K ta):=by
 intro zd s σ H R I h;refine jz (eF I hg hm Af ?_);refine Ft (thn (ha pos zd s σ H _ I h) fun us s1 ⟨vs,H1,I1,r1,q1⟩=>?_) he hpl rfl rfl;refine PyProof.Rows.kws_cons (wpAny_Constant_int (PyProof.Rows.kws_nil ?_));obtain⟨b,e,⟨xs,hq⟩,q⟩:=q1;subst e;cases r1 with
 |cons r rr=>
  cases rr;cases r;have I1':=I1.tok (s1.toks+1);obtain⟨y,rv,pl,hz⟩:=I1'.list hq;refine E6 pl.isList fun g he hj k=>?_;refine pz (s:={ s1 with heap:=g,toks:=s1.toks+1 }) he ?_
  have I2:Inv X zd σ H1 { s1 with heap:=g,toks:=s1.toks+1 }:=I1'.kept (t':=s1.toks+1) k;refine⟨s1.heap.objs.size+1,[s1.heap.objs.size+1,s1.heap.objs.size],_,_,H1,rfl,I2,FK b _ _ (succ_ne_self _),⟨⟨_,he⟩,hj⟩,fun c hc=>?_,q⟩;rcases mem_cons.mp hc with rfl|hc
  ·exact I1'.fpOk (le_succ _) (I1'.hok.fresh (le_succ _))
  ·rw[mem_singleton.mp hc];exact I1'.fpOk (dw _) (I1'.hok.fresh (dw _))
def iE(a:DA):DI:=fun δ S R=>a δ S fun xs S1=>arg1 xs fun x=>∃ds,x=.d (.list ds)/\R (dU 1 ds) S1
theorem Hr{K:cw}{ta:TA}{da:DA}(ha:RA ta da):RI (Bm K ta) (iE da):=fun h o H δ σ S R Q he hs q c=>
 ha h o H δ σ S _ _ he hs q fun o1 H1 S1 xs vs e1 s1 x1 d0=>by
  obtain⟨x,rfl,d2⟩:=bO d0;obtain⟨ds,rfl,d1⟩:=d2;obtain⟨v,rfl,hv⟩:=hxs1 x1;obtain⟨a,ws,rfl,ea,l⟩:=zU.mp (show Has (vx h o1 H1) (.list ds) v from hv);have hl:=l.length;have aa:∀{o2 H2},ExH h o1 H1 o2 H2->H2 a=some (.lst ws):=fun e2=>zG _ _ (e2.vx _ _ ea);refine⟨a,rfl,⟨ws,.of (zG _ _ ea)⟩,c o1 H1 S1 _ _ e1 s1 ⟨fun i o2 H2 e2 hi=>⟨ws,.of (aa e2),by rw[kL]at hi;omega⟩,fun i d o2 H2 e2 hi=>?_,fun i d o2 H2 x H3 S2 e2 s2 hi y=>?_⟩ d1⟩
  ·obtain⟨e,h1,rfl⟩:=iM ds 1 i d hi;obtain⟨u,eu,_⟩:=l.get h1;exact⟨ws,u,.of (aa e2),eu⟩
  ·obtain⟨e,h1,rfl⟩:=iM ds 1 i d hi;obtain⟨u,eu,hu⟩:=l.get h1;obtain⟨p,v,hp,rfl,rfl,hy⟩:=y;have ev:=hy ws (.of (aa e2));rw[eu]at ev;cases ev;refine⟨Same.laid hp,zO.mpr ⟨p,_,rfl,s2.laid hp,zn.mpr ⟨_,_,rfl,?_,zn.mpr ⟨_,_,rfl,(hu.mono e2.vx).mono (lV (Same.laid hp)),zx.mpr rfl⟩⟩⟩⟩;rw[Nat.add_comm];exact cM.mpr rfl
end
end
end L2
namespace L2
open PySem PySem.Spec PySem.Calls PyProof.Rows
inductive AllK {α:Type} (F:α->bo->Prop):List α->List bo->Prop
 |nil:AllK F [] []
 |cons {k v ks vs}:F k v->AllK F ks vs->AllK F (k::ks) (v::vs)
end L2
namespace L2
open PySem PySem.Spec PyProof.Rows
section
def hB(b:Bool):Int:=reduceHash (match b with|true=>1|false=>0)
def kB(e:Int×bo):Bool:=match e.2 with
 | .bool b=>b
 |_=>false
end
section
def kX(z:Str)(e:DE):DE:=fun δ S R=>e δ S fun x S1=>(∃d,bS S1 x=some d/\ge d=true/\R (.d (.bool (!PyData.eqv d (.tuple [.str z])))) S1)\/(x=.d (.dict [])/\R (.d (.bool true)) S1)
end
section
abbrev DTm:=XE->Sto->DM->(Bool->Sto->DM->Prop)->Prop
end
end L2
namespace L2
open PySem PySem.Spec PyProof.Rows
section
section
variable {X:Cx}
def qB(K:cw)(Rl:Hp->V->List Int->Prop):List V->Hp->VK->Prop:=fun xs H Q=>∃(p:Addr) (vs:List V) (nss:List (List Int)),xs=[.ref p]/\SqL K H p vs/\vs≠[]/\Paired (Rl H) vs nss /\
 ∀(i:Nat) v ns,vs[i]?=some v->nss[i]?=some ns->(∀ms∈nss,HT.lexLt ms ns=false)->Q v H
theorem Du{Rl:Hp->V->List Int->Prop}(af:∀(s:bq) (H:Hp),HOk X.prog X.w H s.heap->∀(s':bq),(∀b o,s.heap.get? b=some o->s'.heap.get? b=some o)->∀v1 n1 v2 n2 x y,Rl H v1 n1->Rl H v2 n2->RelV v1 x->RelV v2 y->HT.RcLtAt X.A.in1 s' x y (HT.lexLt n1 n2))(hc:X.calm=true):CallR X (.builtin "min") (qB X.K Rl):=by
 intro zd s σ H xs us Q I r h;obtain⟨p,vs,aa,rfl,hq,ag,pr,q⟩:=h;obtain⟨u,rfl,rx⟩:=vals1 r;cases (show u=fv p from rx);obtain⟨ac,rv,pl,_⟩:=I.list hq;have hl:=rv.length;have ak:=Paired.length pr;have ai:0<ac.toArray.size:=by
  rw[dy,<- hl];exact List.length_pos_iff.mpr ag
 have ae:∀(i:Nat) x,ac.toArray[i]?=some x->∃(v:V) (ns:List Int),vs[i]?=some v/\aa[i]?=some ns/\RelV v x/\Rl H v ns:=fun i x hx=>by
  have hi:i<ac.length:=by
   have:=(Array.getElem?_eq_some_iff.mp hx).1;simpa using this
  have e1:vs[i]?=some vs[i]:=cy yw;have e2:aa[i]?=some aa[i]:=cy yw;obtain⟨x',ah,rr⟩:=rv.get e1;have:x=x':=by
   have h2:ac[i]?=some x:=by simpa using hx
   rw[ah]at h2;exact(gv h2).symm
  subst this;exact⟨_,_,e1,e2,rr,wJ pr e1 e2⟩
 refine Iu (I.ok.hd hc) pl.isList ai (fun i j=>HT.lexLt (aa.getD i []) (aa.getD j [])) (fun i j x y s' Q' E' k hx hy q'=>?_) fun v h' tk hv k=>?_
 ·obtain⟨v1,n1,_,f1,r1,a1⟩:=ae i x hx;obtain⟨v2,n2,_,f2,r2,a2⟩:=ae j y hy;have g1:aa.getD i []=n1:=by rw[gy,f1];rfl
  have g2:aa.getD j []=n2:=by rw[gy,f2];rfl
  rw[g1,g2]at q';exact af s H I.hok s' k v1 n1 v2 n2 x y a1 a2 r1 r2 _ _ _ _ q'
 ·obtain⟨v1,n1,e1,f1,r1,_⟩:=ae _ v hv;obtain⟨_,h2⟩:=wI (ns:=fun i=>aa.getD i []) B6 A4 (ac.toArray.size-1);refine⟨v1,H,I.kept (t':=tk) k,r1,q _ v1 n1 e1 f1 fun ms hm=>?_⟩;obtain⟨j,hj⟩:=mem_iff_getElem?.mp hm;have aj:=(List.getElem?_eq_some_iff.mp hj).1;have:=h2 j (by rw[dy];omega);rw[show aa.getD j []=ms by rw[gy,hj];rfl]at this;rw[show aa.getD (td (fun i j=>HT.lexLt (aa.getD i []) (aa.getD j [])) (ac.toArray.size-1)) []=n1 by rw[gy,f1];rfl]at this;exact this
def RlI(H:Hp)(v:V)(ns:List Int):Prop:=∃a b n ms,v=.ref a/\H a=some (.tup [.int n,.ref b])/\H b=some (.lst (ms.map V.int))/\ns=n::ms
theorem IZ(hc:X.calm=true)(hu:X.A.units+64<cLine):CallR X (.builtin "min") (qB X.K RlI):=Du (fun s H ok s' k v1 n1 v2 n2 x y a1 a2 r1 r2=>by
 obtain⟨a,p,n,ms,rfl,ea,ep,rfl⟩:=a1;obtain⟨b,q,n',af,rfl,eb,eq,rfl⟩:=a2;cases r1;cases r2;obtain⟨_,aa,w1,o1,c1,d1⟩:=(show ObjOk X.prog X.w H s.heap a (.tup _)from ok a _ ea);obtain⟨_,ag,w2,o2,c2,d2⟩:=(show ObjOk X.prog X.w H s.heap b (.tup _)from ok b _ eb);obtain⟨_,ac,k1,z1,e1⟩:=(show ObjOk X.prog X.w H s.heap p (.lst _)from ok p _ ep);obtain⟨_,ae,k2,z2,e2⟩:=(show ObjOk X.prog X.w H s.heap q (.lst _)from ok q _ eq);cases w1 with
 |cons ra w1=>cases w1 with
  |cons rb w1=>
   cases w1;cases w2 with
   |cons rc w2=>cases w2 with
    |cons rd w2=>
     cases w2;obtain⟨t,rfl⟩:=ra;obtain⟨t',rfl⟩:=rc;cases rb;cases rd;intro prog w E Q hq;rw[HT.lexLt_cons]at hq;exact HT.lt_tupIL ⟨o1,k _ _ c1,d1⟩ ⟨o2,k _ _ c2,d2⟩ ⟨_,k1,k _ _ e1,rfl,rfl,rfl⟩ ⟨_,k2,k _ _ e2,rfl,rfl,rfl⟩ (kR z1) (kR z2) (by show X.A.units+1+1<cLine;omega) hq) hc
def prL(p:Int×List Int):bv:=.tuple [.int p.1,.list (p.2.map cq)]
def iO:List XV->Sto->RX->Prop:=fun xs S R=>arg1 xs fun x=>∃ds,cC S x=some ds/\∃nss:List (Int×List Int),ds=nss.map prL/\nss≠[]/\∀m,m∈nss->(∀a,a∈nss->HT.lexLt (a.1::a.2) (m.1::m.2)=false)->R (.d (prL m)) S
theorem Ip{K:cw}{α:Type}{Rl:Hp->V->List Int->Prop}{dt:α->bv}{ky:α->List Int}(hr:∀{h o:List Addr}{H:Hp}{a:α}{v:V},Has (vx h o H) (dt a) v->Rl H v (ky a)):
  RC (qB K Rl) fun xs S R=>arg1 xs fun x=>∃ds,cC S x=some ds/\∃y:List α,ds=y.map dt/\y≠[]/\∀m,m∈y->(∀a,a∈y->HT.lexLt (ky a) (ky m)=false)->R (.d (dt m)) S:=fun h o H S xs vs R Q hs hx q c=>by
 obtain⟨x,rfl,ds,hd,y,rfl,hn,q1⟩:=bO q;obtain⟨v,rfl,aa⟩:=hxs1 hx;obtain⟨a,ws,rfl,ea,l⟩:=bQ hs hd aa;have hl:=l.length;refine⟨a,ws,y.map ky,rfl,.of ea,fun z=>hn ?_,?_,fun i v ns e1 e2 hm=>?_⟩
 ·subst z;rw[fj]at hl;exact gg hl.symm
 ·have go:∀{y:List α}{ws:List V},HasL (vx h o H) (y.map dt) ws->Paired (Rl H) ws (y.map ky):=by
   intro y;induction y with
   |nil=>intro ws l;rw[zx.mp l];exact .nil
   |cons n y ih=>
    intro ws l;obtain⟨v,r,rfl,h1,l2⟩:=zn.mp l;exact .cons (hr h1) (ih l2)
  exact go l
 ·rw[gx]at e2;obtain⟨n,e3,rfl⟩:=map_eq_some_iff.mp e2;obtain⟨v',ev,hv⟩:=l.get (show (y.map dt)[i]?=some (dt n) by rw[gx,e3];rfl);rw[e1]at ev;cases ev;exact c o H S (.d (dt n)) v Ex.refl hs hv (q1 n (bw e3) fun a ma=>hm _ (rm ma))
theorem Fo{K:cw}:RC (qB K RlI) iO:=Ip (dt:=prL) (ky:=fun p=>p.1::p.2) fun {h o H p v} hv=>by
 obtain⟨a,vs,rfl,ea,l1⟩:=zO.mp hv;obtain⟨v1,r1,e1,h1,k1⟩:=zn.mp l1;obtain⟨v2,r2,e2,h2,k2⟩:=zn.mp k1;have e3:=zx.mp k2;subst e3 e2 e1;have e4:=cM.mp h1;subst e4;obtain⟨b,ps,rfl,hb,lb⟩:=zU.mp h2;rw[iK lb]at hb;exact⟨a,b,p.1,p.2,rfl,zG _ _ ea,zG _ _ hb,rfl⟩
end
end
end L2
namespace L2
open PySem PySem.Spec PySem.Calls PyProof.Rows PySem.W
section
variable {X:Cx}
def tG(K:cw):List V->Hp->VK->Prop:=fun xs H Q=>∃(p:Addr) (ns:List Int),xs=[.ref p]/\SqT K H p (ns.map V.int)/\ns.length<60/\∀(l:Addr) (ms:List Int),H l=none->ms.Perm ns->ms.Pairwise (· ≥ ·)->Q (.ref l) (upd H l (.lst (ms.map V.int)))
theorem E9{zd:List (Addr×Obj)}{s:bq}{σ:St}{H:Hp}{xs:List V}{us:List bo}{Q:VK}{E:bo->bq->Prop}(I:Inv X zd σ H s)(r:Vals xs us)(h:tG X.K xs H Q):cv (model X.prog X.w) X.A (call (.builtin "sorted") us [(gk "reverse",.bool true)]) (EP X zd σ Q) E s:=by
 obtain⟨p,ns,rfl,hq,hn,q⟩:=h;obtain⟨u,rfl,rx⟩:=vals1 r;cases (show u=fv p from rx);obtain⟨y,rv,pl,_⟩:=I.tuple hq;have hI:=kR rv;have ai:y.length=ns.length:=by have:=hI.length;simpa using this
 obtain⟨o,ho,hc,n,hd⟩:=pl;refine call_function_entry_kw kind_sorted plain_sorted entry_sorted (args_sorted_rev _ _) ?_;unfold nk.«sorted»;refine bp (m:=checkCount "sorted" 1 1 _) (cr ?_);refine bp (wpAny_collect_seq p (.inr rfl) ho hc hd (fun h1 ag=>?_) (by rw[jy,dy];omega));have I1:Inv X zd σ H { s with heap:=h1 }:=I.kept (t':=s.toks) ag;refine bp (wpAny_newList ?_ (by show y.length<=_;rw[jy];omega));have aa:(h1.push (ja "list" y.toArray 0)).get? h1.objs.size=some (ja "list" y.toArray 0):=ff _ rfl;have keep:∀b o,h1.get? b=some o->(h1.push (ja "list" y.toArray 0)).get? b=some o:=fun b o q=>bx _ q;show cv _ _ _ _ _ { s with heap:=h1.push (ja "list" y.toArray 0) };refine bp (ie (wpAny_call_entry_kw slot_list_sort ⟨_,aa,rfl⟩ entry_list_sort (list_sort_tree_rev (s:={ s with heap:=h1.push (ja "list" y.toArray 0) }) (vs:=y) aa hI yw fun out ac a1 a2 a3=>⟨_,rfl,?_⟩) (args_list_sort_rev _ _)));refine cr ⟨_,rfl,?_⟩;have s1:=mh (h1.push (ja "list" y.toArray 0)) h1.objs.size (io fun _=>(#[]:Array bo));obtain⟨e1,af⟩:∃e1,((h1.push (ja "list" y.toArray 0)).update h1.objs.size (io fun _=>(#[]:Array bo))).get? h1.objs.size=some (ja "list" #[] e1):=⟨_,tv aa fun _=>#[]⟩;have ae:((((h1.push (ja "list" y.toArray 0)).update h1.objs.size (io fun _=>(#[]:Array bo))).push (ja "tuple" y.toArray 0)).push (ja "list" #[] 0)).get? h1.objs.size=some (ja "list" #[] e1):=bx _ (bx _ af);obtain⟨c,ah⟩:∃c,(sortedHeap (h1.push (ja "list" y.toArray 0)) h1.objs.size y out).get? h1.objs.size=some (ja "list" out c):=⟨_,tv ae fun _=>out⟩;have s2:=mh ((((h1.push (ja "list" y.toArray 0)).update h1.objs.size (io fun _=>(#[]:Array bo))).push (ja "tuple" y.toArray 0)).push (ja "list" #[] 0)) h1.objs.size (io fun _=>out);have kp:∀b o,h1.get? b=some o->(sortedHeap (h1.push (ja "list" y.toArray 0)) h1.objs.size y out).get? b=some o:=fun b o e=>by
  have nb:b≠h1.objs.size:=ic (fw e);exact(s2.2 b nb).trans (bx _ (bx _ ((s1.2 b nb).trans (keep b o e))))
 have hv:Vals (ac.map V.int) out.toList:=qW a1;have hD:h1.objs.size<=h1.objs.size:=dw _;refine⟨.ref h1.objs.size,_,I1.laid (t':=s.toks) kp hD (show ObjOk X.prog X.w _ (sortedHeap (h1.push (ja "list" y.toArray 0)) h1.objs.size y out) h1.objs.size (.lst (ac.map V.int))from⟨?_,out.toList,c,hv,by simpa using ah⟩),rfl,q _ _ (I1.hok.fresh hD) a2 a3⟩;rw[fj,a2.length_eq,jy];omega
theorem vL{e:Expr}{ta:TA}{p pos kp cp:Pos}{cj:Nat}(hg:Gl X "sorted")(hm:X.mg "sorted" = none)(ha:PA X [e] ta)
  (he:kj pos (fc [e] X.env)=(false,eval e X.env)::kj pos (fc [] X.env):=by rfl) (hpl:(kj pos (fc [e] X.env)).any (·.1)=false:=by rfl):
  PE X (.Call (.Name "sorted" p) [e] [⟨some "reverse",.Constant (.bool true) cj cp,kp⟩] pos) (tCB (tG X.K) ta):=by
 intro zd s σ H Q I h;refine jz (eF I hg hm fA ?_ dz dz);refine PyProof.Rows.callWith_kw (thn (ha pos zd s σ H _ I h) fun us s1 ⟨vs,H1,I1,r1,q1⟩=>?_) he hpl rfl rfl;refine PyProof.Rows.kws_cons (Constant_bool (PyProof.Rows.kws_nil ?_));exact E9 I1 r1 q1
def gK:List XV->Sto->RX->Prop:=fun xs S R=>arg1 xs fun x=>∃ns:List Int,x=.d (.tuple (ns.map cq))/\ns.length<60/\∀ms:List Int,ms.Perm ns->ms.Pairwise (· ≥ ·)->R (.d (.list (ms.map cq))) S
theorem F9{K:cw}:RC (tG K) gK:=fun h o H S xs vs R Q hs hx q c=>by
 obtain⟨x,rfl,ns,rfl,hn,q1⟩:=bO q;obtain⟨v,rfl,y⟩:=hxs1 hx;obtain⟨a,us,rfl,ea,l⟩:=zO.mp y;rw[iK l]at ea;refine⟨a,ns,rfl,.of (zG _ _ ea),hn,fun l ms hl pm pw=>?_⟩;exact iU hs (mI ms) c (q1 ms pm pw) l hl
def v7:V->List V->Hp->VK->Prop:=fun x vs H Q=>∃l xs y,x=.ref l/\vs=[.int 0,y]/\H l=some (.lst xs)/\xs.length<fh/\Q .non (upd H l (.lst (y::xs)))
theorem wR:MtM X "list.insert" v7:=by
 intro zd s σ H x vs v us Q I rx rv h;obtain⟨l,xs,y,rfl,rfl,hH,hz,q⟩:=h;cases rx;obtain⟨u1,u2,rfl,r1,r2⟩:∃u1 u2,us=[u1,u2]/\RelV (.int 0) u1/\RelV y u2:=by
  cases rv with
  |cons ra rv=>cases rv with
   |cons rb rv=>cases rv;exact⟨_,_,rfl,ra,rb⟩
 obtain⟨t,rfl⟩:=r1;obtain⟨z,aa,n,r,hl,e⟩:=I.lstM hH;refine qd F.slot_list_insert ⟨_,e,rfl⟩ F.entry_list_insert (F.args_list_insert_3 _ _ _) (AutoListH.list_insert_list_int_val_1 l aa.toArray n 0 t u2 dz (by rw[dy];omega)) ⟨e,?_⟩;refine⟨.non,_,I.lset (its':=u2::aa) hH e yv (.cons r2 r) ?_,rfl,q⟩;rw[im];omega
def gE:XV->List XV->Sto->RX->Prop:=fun x xs S R=>∃k,x=.l k/\∃ds,S[k]?=some ds/\∃d,xs=[.d (.int 0),.d d]/\ds.length<1000/\R (.d .none) (S.set k (d::ds))
theorem C9:RM v7 gE:=fun h o H S x v xs vs R Q hs hx y q c=>by
 obtain⟨k,rfl,ds,e,d,rfl,hl,q1⟩:=q;obtain⟨a,ea,rfl⟩:=hx;obtain⟨v1,r1,rfl,h1,k1⟩:=y;obtain⟨v2,r2,rfl,h2,k2⟩:=k1;have e3:r2=[]:=k2;subst e3;obtain⟨ws,ew,l⟩:=hs.cont k a ds ea e;rw[aU h1];exact⟨a,ws,v2,rfl,rfl,ew,by rw[l.length];exact small1000 (om hl),c o _ _ (.d .none) _ (Ex.upd ea) (hs.upd ea (zn.mpr ⟨v2,ws,rfl,h2,l⟩)) xN q1⟩
end
end L2
namespace L2
open PySem PySem.Spec PySem.Calls PyProof.Rows PySem.W
section
variable {prog:fq}{w:gw}{A:gh}{R:Result->bq->Prop}{I:Addr}{fp wr:List Addr}{n:Nat}{P:Nat->bo->Prop}{St:Nat->Heap->Prop}
theorem Fu{kw:List (Str×bo)}(W:Walks prog w A.in1 I fp wr n P St)(kf:Nat->Int){g:Heap}(S:Addr)(nS:S∉fp)
  (turn:∀i x (s:bq) (Q:bo->bq->Prop) (E:bo->bq->Prop),P i x->(∀b o,b∉S::wr->g.get? b=some o->s.heap.get? b=some o)->(∀t tk,Q (.int (kf i) t) { s with toks:=tk })->cv (model prog w) A.in1 (call (.builtin "len") [x]) Q E s):
  ∀(d j i:Nat) (s:bq) (y:bo) (tb:Tok) (c:Nat),n=j+1+d->(∀b o,b∉S::wr->g.get? b=some o->s.heap.get? b=some o)->St (j+1) s.heap->P i y->i<=j->(∀j',j'<=j->kf i<=kf j'/\(j'<i->kf i<kf j')) ->
   s.heap.get? S=some { cls:=.type "list",dict:=none,data:=.seq #[y,.int (kf i) tb] c,slots:=#[] } ->
   (∀i v h' tk,i<n->P i v->(∀j',j'<n->kf i<=kf j'/\(j'<i->kf i<kf j'))->(∀b o,b∉S::wr->s.heap.get? b=some o->h'.get? b=some o)->R (.ok (.ret v)) { s with heap:=h',toks:=tk })->sx (model prog w) A (.builtin "min.loop" ⟨[.ref I,.builtin "len",.ref S],kw⟩) R s:=by
 have nw:S∉wr:=fun m=>nS (W.sub _ m);have nm:(qh "min" ++ qh ".loop":String) = "min.loop":=by decide
 intro d;induction d with
 |zero=>
  intro j i s y tb c hd kg st hb ah aa hS fin;have hj:j+1=n:=yw
  refine kh ow ?_;rw[jk iu _];show cv _ A.in1 (ub (.ref S) >>= _) _ _ s;refine bp (ny hS rfl ?_);show cv _ A.in1 (sj (uc (.ref I)) _ >>= _) _ _ s;refine bp (kr (W.done s _ _ (by rw[<- hj];exact st) fun h1 t1 k1=>?_));have ac:=k1 S _ nw hS;show cv _ A.in1 (updateSeq S (fun _=>#[]) >>= _) _ _ _;refine bp (qx ac rfl (bp (qi (cr (fin i y _ t1 yw hb (fun j' ae=>aa j' yw) fun b o hn e=>?_)))));rw[lz,not_or]at hn;exact(ig _ _ (jq hn.1)).trans (k1 b o hn.2 e)
 |succ d ih=>
  intro j i s y tb c hd kg st hb ah aa hS fin;refine kh ow ?_;rw[jk iu _];show cv _ A.in1 (ub (.ref S) >>= _) _ _ s;refine bp (ny hS rfl ?_);show cv _ A.in1 (sj (uc (.ref I)) _ >>= _) _ _ s;refine bp (kr (W.item (j+1) s _ _ yw st fun x h1 t1 hx af k1=>?_));have ac:=k1 S _ nw hS;have ag:∀b o,b∉S::wr->g.get? b=some o->h1.get? b=some o:=fun b o hn e=>k1 b o (fun m=>hn (fu _ m)) (kg b o hn e);show cv _ A.in1 (sj (holding [x] (call (.builtin "len") [x])) _ >>= _) _ _ _;refine bp (kr (ie (turn (j+1) x _ _ _ hx ag fun t2 ak=>?_)));show cv _ A.in1 (sj (holding [x,.int (kf (j+1)) t2] (richCompare .Lt (.int (kf (j+1)) t2) (.int (kf i) tb) >>= _)) _ >>= _) _ _ _;refine bp (kr (ie (bp (CmpOf.ints_lt (prog:=prog) (w:=w) (A:=A.in1) (P:=fun i v=>∃t,v=.int (kf i) t) kf (fun i v h=>h) (j+1) i _ _ _ _ _ ⟨t2,rfl⟩ ⟨tb,rfl⟩ ?_))));refine bp (ie (lv (bp (qi (cr ?_)))));by_cases hb':kf (j+1)<kf i
  ·simp only[hb',decide_true,if_true];refine bp (qx ac rfl (bp (qi ?_)));rw[nm];have keep:∀b o,b∉S::wr->s.heap.get? b=some o->(h1.update S (io fun _=>#[x,.int (kf (j+1)) t2])).get? b=some o:=fun b o hn e=>by
    rw[lz,not_or]at hn;exact(ig _ _ (jq hn.1)).trans (k1 b o hn.2 e)
   refine cr ⟨lq iu _,ih (j+1) (j+1) _ x t2 _ yw (fun b o hn e=>keep b o hn (kg b o hn e)) (W.frame _ _ _ af fun b m o e=>?_) hx (dw _) (fun j' ae=>?_) (mw _ ac rfl) fun i' v h2 t2 hi hv hh k2=>fin i' v h2 t2 hi hv hh fun b o hn e=>k2 b o hn (keep b o hn e)⟩
   ·exact(ig _ _ (fun z:S=b=>nS (by rw[z];exact m))).trans e
   ·by_cases e:j'=j+1
    ·subst e;exact⟨Int.le_refl _,fun z=>absurd z (nz _)⟩
    ·have ai:=aa j' yw;have aj:=ai.1;exact⟨yw,fun _=>by omega⟩
  ·simp only[hb',decide_false,fg,if_false];refine bp (qi ?_);rw[nm];refine cr ⟨lq iu _,ih (j+1) i _ y tb c yw ag af hb yw (fun j' ae=>?_) ac fun i' v h2 t2 hi hv hh k2=>fin i' v h2 t2 hi hv hh fun b o hn e=>k2 b o hn (k1 b o (fun m=>hn (fu _ m)) e)⟩;by_cases e:j'=j+1
   ·subst e;exact⟨yw,fun _=>by omega⟩
   ·exact aa j' yw
theorem E2{kw:List (Str×bo)}(W:Walks prog w A.in1 I fp wr n P St)(kf:Nat->Int)(S:Addr)(nS:S∉fp)(hn:0<n){s:bq}{c:Nat}
  (turn:∀i x (s':bq) (Q:bo->bq->Prop) (E:bo->bq->Prop),P i x->(∀b o,b∉S::wr->s.heap.get? b=some o->s'.heap.get? b=some o)->(∀t tk,Q (.int (kf i) t) { s' with toks:=tk })->cv (model prog w) A.in1 (call (.builtin "len") [x]) Q E s')
  (st:St 0 s.heap) (hS:s.heap.get? S=some { cls:=.type "list",dict:=none,data:=.seq #[] c,slots:=#[] })
  (fin:∀i v h' tk,i<n->P i v->(∀j',j'<n->kf i<=kf j'/\(j'<i->kf i<kf j'))->(∀b o,b∉S::wr->s.heap.get? b=some o->h'.get? b=some o)->R (.ok (.ret v)) { s with heap:=h',toks:=tk }):sx (model prog w) A (.builtin "min.loop" ⟨[.ref I,.builtin "len",.ref S],kw⟩) R s:=by
 have nw:S∉wr:=fun m=>nS (W.sub _ m);have nm:(qh "min" ++ qh ".loop":String) = "min.loop":=by decide
 refine kh ow ?_;rw[jk iu _];show cv _ A.in1 (ub (.ref S) >>= _) _ _ s;refine bp (ny hS rfl ?_);show cv _ A.in1 (sj (uc (.ref I)) _ >>= _) _ _ s;refine bp (kr (W.item 0 s _ _ hn st fun x h1 t1 hx aa k1=>?_));have y:=k1 S _ nw hS;have ac:∀b o,b∉S::wr->s.heap.get? b=some o->h1.get? b=some o:=fun b o hn e=>k1 b o (fun m=>hn (fu _ m)) e;show cv _ A.in1 (sj (holding [x] (call (.builtin "len") [x])) _ >>= _) _ _ _;refine bp (kr (ie (turn 0 x _ _ _ hx ac fun t2 af=>?_)));show cv _ A.in1 (updateSeq S (fun _=>#[x,.int (kf 0) t2]) >>= _) _ _ _;refine bp (qx y rfl ?_);rw[nm];have keep:∀b o,b∉S::wr->s.heap.get? b=some o->(h1.update S (io fun _=>#[x,.int (kf 0) t2])).get? b=some o:=fun b o hn e=>by
  rw[lz,not_or]at hn;exact(ig _ _ (jq hn.1)).trans (k1 b o hn.2 e)
 refine cr ⟨lq iu _,Fu W kf S nS turn (n-1) 0 0 _ x t2 _ yw keep (W.frame _ _ _ aa fun b m o e=>?_) hx (dw _) (fun j' ae=>?_) (mw _ y rfl) fun i' v h2 t2 hi hv hh k2=>fin i' v h2 t2 hi hv hh fun b o hn e=>k2 b o hn (keep b o hn e)⟩
 ·exact(ig _ _ (fun z:S=b=>nS (by rw[z];exact m))).trans e
 ·have e:j'=0:=yw
  subst e;exact⟨Int.le_refl _,fun z=>absurd z (nz _)⟩
end
section
variable {prog:fq}{w:gw}{A:gh}{E:bo->bq->Prop}{s:bq}
theorem Ef{l:Addr}{y:Array bo}{dv:bo}{Q:bo->bq->Prop}(hh:A.handled=none)(hl:s.heap.IsList l y)(ac:0<y.size)(kf:Nat->Int)
  (turn:∀i x (s':bq) (Q:bo->bq->Prop) (E:bo->bq->Prop),y[i]?=some x->(∀b o,s.heap.get? b=some o->s'.heap.get? b=some o)->(∀t tk,Q (.int (kf i) t) { s' with toks:=tk })->cv (model prog w) A.in1 (call (.builtin "len") [x]) Q E s')
  (fin:∀i v h' tk,i<y.size->y[i]?=some v->(∀j',j'<y.size->kf i<=kf j'/\(j'<i->kf i<kf j'))->(∀b o,s.heap.get? b=some o->h'.get? b=some o)->Q v { s with heap:=h',toks:=tk }):cv (model prog w) A (call (.builtin "min") [.ref l] [(gk "key",.builtin "len"),(gk "default",dv)]) Q E s:=by
 have nm:(qh "min" ++ qh ".loop":String) = "min.loop":=by decide
 have lt:l<s.heap.objs.size:=by obtain⟨o,e,_⟩:=hl;exact fw e
 refine kmk_tree F.kind_min F.plain_min F.entry_min (BW _ _ _) ?_;show cv _ A.in1 (jv "min" ["key","default"] 0 ⟨[],[(gk "key",.builtin "len"),(gk "default",dv)]⟩ >>= _) _ _ s;refine bp (wpAny_of_eq (show jv "min" ["key","default"] 0 ⟨[],[(gk "key",.builtin "len"),(gk "default",dv)]⟩=pure [some (.builtin "len"),some dv]from rfl) (bp (cr (bp (ju hl ?_)))));refine bp (ji ?_);rw[nm];have z1:(s.heap.push { cls:=.type "list_iterator",data:=.fields #[.ref l,.int 0 0] }).objs.size=s.heap.objs.size+1:=size_push ..;have nS:(s.heap.push { cls:=.type "list_iterator",data:=.fields #[.ref l,.int 0 0] }).objs.size∉[s.heap.objs.size,l]:=by
  rw[z1];simp only[lz,lg,or_false,not_or];exact⟨succ_ne_self _,ne_of_gt (qe lt)⟩
 have up:∀b o,s.heap.get? b=some o->((s.heap.push { cls:=.type "list_iterator",data:=.fields #[.ref l,.int 0 0] }).push { cls:=.type "list",data:=.seq #[] }).get? b=some o:=fun b o e=>bx _ (bx _ e);have aa:∀b o,s.heap.get? b=some o->b∉(s.heap.push { cls:=.type "list_iterator",data:=.fields #[.ref l,.int 0 0] }).objs.size :: [s.heap.objs.size]:=fun b o e=>by
  rw[z1];simp only[lz,lg,or_false,not_or];have:=fw e;exact⟨ic (qe this),ic this⟩
 refine cr ⟨lq iu _,E2 (Walks.list (A:=A.in1) hh _ l (ic lt) y) kf _ nS ac (fun i x s' Q' E' hx k q=>turn i x s' Q' E' hx (fun b o e=>k b o (aa b o e) (up b o e)) q) ?_ (ff _ rfl) fun i v h' tk hi hv hh k=>fin i v h' tk hi hv hh fun b o e=>k b o (aa b o e) (up b o e)⟩;exact⟨⟨_,bx _ (ff _ rfl),rfl,rfl⟩,(hl.push _).push _⟩
theorem Cv{l:Addr}{dv:bo}{Q:bo->bq->Prop}(hh:A.handled=none)(hl:s.heap.IsList l #[])
  (fin:∀h' tk,(∀b o,s.heap.get? b=some o->h'.get? b=some o)->Q dv { s with heap:=h',toks:=tk }):cv (model prog w) A (call (.builtin "min") [.ref l] [(gk "key",.builtin "len"),(gk "default",dv)]) Q E s:=by
 have nm:(qh "min" ++ qh ".loop":String) = "min.loop":=by decide
 have lt:l<s.heap.objs.size:=by obtain⟨o,e,_⟩:=hl;exact fw e
 refine kmk_tree F.kind_min F.plain_min F.entry_min (BW _ _ _) ?_;show cv _ A.in1 (jv "min" ["key","default"] 0 ⟨[],[(gk "key",.builtin "len"),(gk "default",dv)]⟩ >>= _) _ _ s;refine bp (wpAny_of_eq (show jv "min" ["key","default"] 0 ⟨[],[(gk "key",.builtin "len"),(gk "default",dv)]⟩=pure [some (.builtin "len"),some dv]from rfl) (bp (cr (bp (ju hl ?_)))));refine bp (ji ?_);rw[nm];have z1:(s.heap.push { cls:=.type "list_iterator",data:=.fields #[.ref l,.int 0 0] }).objs.size=s.heap.objs.size+1:=size_push ..;refine cr ⟨lq iu _,?_⟩;refine kh ow ?_;rw[jk iu _];show cv _ A.in1 (ub (.ref _) >>= _) _ _ _;refine bp (ny (ff _ rfl) rfl ?_);show cv _ A.in1 (sj (uc (.ref _)) _ >>= _) _ _ _;refine bp (kr ((Walks.list (prog:=prog) (w:=w) (A:=A.in1) hh s.heap.objs.size l (ic lt) #[]).done _ _ _ ⟨⟨_,bx _ (ff _ rfl),rfl,rfl⟩,(hl.push _).push _⟩ fun h1 t1 k1=>?_));refine bp (pc (cr ?_));exact fin h1 t1 fun b o e=>k1 b o (fun m=>absurd (mem_singleton.mp m▸fw e) (nz _)) (bx _ (bx _ e))
end
section
variable {X:Cx}
def IsLn(H:Hp)(v:V)(n:Nat):Prop:=∃a ws,v=.ref a/\H a=some (.lst ws)/\ws.length=n
def uZ(K:cw):List V->Hp->VK->Prop:=fun xs H Q=>∃(p:Addr) (vs:List V) (ns:List Nat),xs=[.ref p]/\SqL K H p vs/\Paired (IsLn H) vs ns/\(vs=[]->Q .non H) /\
 ∀(i:Nat) v n,vs[i]?=some v->ns[i]?=some n->(∀j m,ns[j]?=some m->n<=m/\(j<i->n<m))->Q v H
theorem Gs(hc:X.calm=true){zd:List (Addr×Obj)}{s:bq}{σ:St}{H:Hp}{xs:List V}{us:List bo}{Q:VK}{E:bo->bq->Prop}(I:Inv X zd σ H s)(r:Vals xs us)(h:uZ X.K xs H Q):cv (model X.prog X.w) X.A (call (.builtin "min") us [(gk "key",.builtin "len"),(gk "default",.none)]) (EP X zd σ Q) E s:=by
 obtain⟨p,vs,ns,rfl,hq,pr,q0,q⟩:=h;obtain⟨u,rfl,rx⟩:=vals1 r;cases (show u=fv p from rx);obtain⟨y,rv,pl,_⟩:=I.list hq;have hl:=rv.length;have aj:=Paired.length pr;cases hv:vs with
 |nil=>
  subst hv;have hi:y=[]:=by cases rv;rfl
  subst hi;exact Cv (I.ok.hd hc) pl.isList fun h' tk k=>⟨.non,H,I.kept (t':=tk) k,rfl,q0 rfl⟩
 |cons v0 vr=>
  have ae:vs≠[]:=by rw[hv];simp
  have ag:0<y.toArray.size:=by
   rw[dy,<- hl];exact List.length_pos_iff.mpr ae
  have aa:∀(i:Nat) x,y.toArray[i]?=some x->∃(v:V) (n:Nat),vs[i]?=some v/\ns[i]?=some n/\RelV v x/\IsLn H v n:=fun i x hx=>by
   have hi:i<y.length:=by
    have:=(Array.getElem?_eq_some_iff.mp hx).1;simpa using this
   have e1:vs[i]?=some vs[i]:=cy yw;have e2:ns[i]?=some ns[i]:=cy yw;obtain⟨x',af,rr⟩:=rv.get e1;have:x=x':=by
    have h2:y[i]?=some x:=by simpa using hx
    rw[af]at h2;exact(gv h2).symm
   subst this;exact⟨_,_,e1,e2,rr,wJ pr e1 e2⟩
  have gd:∀{i n:Nat},ns[i]?=some n->ns.getD i 0=n:=fun {i n} e=>by rw[gy,e];rfl
  refine Ef (I.ok.hd hc) pl.isList ag (fun i=>(ns.getD i 0:Nat)) (fun i x s' Q' E' hx k q'=>?_) fun i v h' tk hi hv hh k=>?_
  ·obtain⟨v1,n1,_,f1,r1,a1,ws,rfl,e1,el⟩:=aa i x hx;cases r1;obtain⟨hz,ac,m1,w1,c1⟩:=(show ObjOk X.prog X.w H s.heap a1 (.lst _)from I.hok a1 _ e1);have hw:=w1.length;have ah:fh=16777216:=jy;refine Calls.call_len_list (items:=ac.toArray) ⟨_,k _ _ c1,rfl,_,rfl⟩ (by rw[dy];omega) ?_;have:=q' (s'.toks+1) (s'.toks+1+1);rw[gd f1]at this;rw[dy,<- hw,el];exact this
  ·obtain⟨v1,n1,e1,f1,r1,_⟩:=aa i v hv;refine⟨v1,H,I.kept (t':=tk) k,r1,q _ v1 n1 e1 f1 fun j m hj=>?_⟩;have ai:=(List.getElem?_eq_some_iff.mp hj).1;have:=hh j (by rw[dy];omega);rw[gd f1,gd hj]at this;exact⟨yw,fun z=>by have:=this.2 z;omega⟩
theorem Et{e:Expr}{ta:TA}{p p' pos kp y cp:Pos}{cj:Nat}(hc:X.calm=true)(hg:Gl X "min")(hm:X.mg "min" = none)(aa:Gl X "len")(ac:X.mg "len" = none)(ha:PA X [e] ta)
  (he:kj pos (fc [e] X.env)=(false,eval e X.env)::kj pos (fc [] X.env):=by rfl) (hpl:(kj pos (fc [e] X.env)).any (·.1)=false:=by rfl):
  PE X (.Call (.Name "min" p) [e] [⟨some "key",.Name "len" p',kp⟩,⟨some "default",.Constant .none cj cp,y⟩] pos) (tCB (uZ X.K) ta):=by
 intro zd s σ H Q I h;refine jz (eF I hg hm rR ?_ dz dz);refine PyProof.Rows.callWith_kw (thn (ha pos zd s σ H _ I h) fun us s1 ⟨vs,H1,I1,r1,q1⟩=>?_) he hpl rfl rfl;refine PyProof.Rows.kws_cons (eF I1 aa ac aV (PyProof.Rows.kws_cons (Constant_none (PyProof.Rows.kws_nil ?_))) dz dz);exact Gs hc I1 r1 q1
def jK:List XV->Sto->RX->Prop:=fun xs S R=>arg1 xs fun x=>∃ds,cC S x=some ds/\∃lss:List (List bv),ds=lss.map ug/\(lss=[]->R (.d .none) S) /\
 ∀(i:Nat) l,lss[i]?=some l->(∀(j:Nat) m,lss[j]?=some m->l.length<=m.length/\(j<i->l.length<m.length))->R (.d (.list l)) S
theorem GR{K:cw}:RC (uZ K) jK:=fun h o H S xs vs R Q hs hx q c=>by
 obtain⟨x,rfl,ds,hd,y,rfl,q0,q1⟩:=bO q;obtain⟨v,rfl,aa⟩:=hxs1 hx;obtain⟨a,ws,rfl,ea,l⟩:=bQ hs hd aa;have hl:=l.length;refine⟨a,ws,y.map List.length,rfl,.of ea,?_,fun z=>?_,fun i v n e1 e2 hm=>?_⟩
 ·have go:∀{y:List (List bv)}{ws:List V},HasL (vx h o H) (y.map ug) ws->Paired (IsLn H) ws (y.map List.length):=by
   intro y;induction y with
   |nil=>intro ws l;rw[zx.mp l];exact .nil
   |cons n nss ih=>
    intro ws l;obtain⟨v,r,rfl,h1,l2⟩:=zn.mp l;obtain⟨b,us,rfl,eb,lb⟩:=zU.mp h1;exact .cons ⟨b,us,rfl,zG _ _ eb,lb.length⟩ (ih l2)
  exact go l
 ·subst z;rw[fj]at hl;exact c o H S (.d .none) _ Ex.refl hs xN (q0 (gg hl.symm))
 ·rw[gx]at e2;obtain⟨m,e3,rfl⟩:=map_eq_some_iff.mp e2;obtain⟨v',ev,hv⟩:=l.get (show (y.map ug)[i]?=some (.list m) by rw[gx,e3];rfl);rw[e1]at ev;cases ev;exact c o H S (.d (.list m)) v Ex.refl hs hv (q1 i m e3 fun j k hj=>hm j _ (by rw[gx,hj];rfl))
end
end L2
namespace L2
open PySem PySem.Spec PyProof.Rows
section
def OkW(S:Sto)(d:bv):Prop:=iG d=true\/∃ns:List Int,d=.list (ns.map cq)/\ns.map cq∉S
def qL(S:Sto)(R:RX):RX:=fun y S'=>match y,S' with
 | .d d,[]=>OkW S d/\R (.d d) S
 |_,_=>False
theorem m4{S:Sto}{R:RX}{d:bv}:qL S R (.d d) []=(OkW S d/\R (.d d) S):=rfl
theorem FR{H:Hp}:∀{d:bv}{i:Int},Has H d (.int i)->d=.int i
 | .none,i,h=>by cases fY.mp h
 | .bool b,i,h=>by cases fP.mp h
 | .int j,i,h=>by cases cM.mp h;rfl
 | .str z,i,h=>by cases fD.mp h
 | .list ds,i,h=>by obtain⟨a,vs,e,_⟩:=zU.mp h;cases e
 | .tuple ds,i,h=>by obtain⟨a,vs,e,_⟩:=zO.mp h;cases e
 | .dict ds,i,h=>by obtain⟨a,vs,e,_⟩:=rA.mp h;cases e
theorem Ai{H:Hp}:∀{ns:List Int}{ds:List bv},HasL H ds (ns.map V.int)->ds=ns.map cq
 | [],ds,l=>by
  cases ds with
  |nil=>rfl
  |cons d ds=>obtain⟨v,r,e,_⟩:=zn.mp l;cases e
 |n::ns,ds,l=>by
  cases ds with
  |nil=>have:=zx.mp l;cases this
  |cons d ds=>
   obtain⟨v,r,e,hv,l2⟩:=zn.mp l;cases e;rw[FR hv,Ai l2];rfl
theorem cnW{h o:List Addr}{H:Hp}{S:Sto}{R:RX}{Q:VK}(hs:RepS h o H S)(c:Cn h o H R Q):Cn h [] H (qL S R) Q:=fun o' H' S' y v e s' hy q=>by
 unfold qL at q;split at q
 ·rename_i d;have sH:Same H H':=fun b u eb=>(e.kp b u yv eb).2;have e0:o'=[]:=gg s'.len.symm;subst e0;have aa:=hs.same sH;obtain⟨q1,q2⟩:=q;rcases q1 with q1|⟨ns,rfl,nS⟩
  ·refine c o H' S (.d d) v (Ex.of_same sH) aa (sS (zG (h:=h) (o:=[])) (fun b m=>?_) d v q1 hy) q2;exact m.elim (aa.hal b) (aa.oam b)
  ·obtain⟨a,vs,rfl,ea,l⟩:=zU.mp (show Has (vx h [] H') (.list (ns.map cq)) v from hy);have ev:=iK l;subst ev;obtain⟨z1,_,z3⟩:=zW.mp ea;have na:a∉o:=fun ma=>by
    obtain⟨k,hk,ek⟩:=List.mem_iff_getElem.mp ma;have e1:o[k]?=some a:=by rw[cy hk,ek]
    have ac:k<S.length:=by rw[aa.len];exact hk
    obtain⟨ws,e2,l2⟩:=aa.cont k a S[k] e1 (cy ac);rw[z3]at e2;cases e2;have:=Ai l2;exact nS (this▸getElem_mem ac)
   exact c o H' S (.d (.list (ns.map cq))) _ (Ex.of_same sH) aa (zU.mpr ⟨a,_,rfl,zW.mpr ⟨z1,na,z3⟩,mI ns⟩) q2
 ·exact q.elim
def gS(m:Nat)(q:PN)(da:DA):DE:=fun δ S R=>da δ S fun xs S1=>∃ds,views S1 xs=some ds/\ds.length=m/\q (ds.map XV.d) [] (qL S1 R)
theorem Gq{ps:List Str}{q:PN}{m:Nat}{t:TA}{da:DA}(ha:RA t da)(hm:ps.length=m:=by rfl):RE (fH (spN ps q) [] E0 t) (gS m q da):=fun h o H δ σ S R Q he hs w c=>
 ha h o H δ σ S _ _ he hs w fun o1 H1 S1 xs vs e1 s1 x1 ⟨ds,e,hl,d1⟩=>by
  obtain⟨z1,z2⟩:=Be s1 e x1;rw[km];exact⟨by rw[z2,hl,hm],h,[],[],_,_,Er s1,z1,d1,cnW s1 (c.pre e1)⟩
end
end L2
namespace L2
open PySem PySem.Spec PyProof.Rows
section
def yJ(sp:Sp)(t:TA):TE:=fun σ H Q=>t σ H fun vs H1=>∀L:List Addr,(∀b u,H1 b=some u->b∈L)->sp vs H1 Q E0
section
variable {X:Cx}{x:Str}{ps:List Str}{k j:Nat}{pos pos':Pos}{e:Expr}{es:List Expr}{t:TA}
theorem De{q:PN}(D:Df X.prog X.w X.K X.mg X.base x ps k (spN ps q))(hr:Room j X.A)(hk:k<=j)(ha:PA X (e::es) t)(hg:Gl X x:=by rfl)(y:(x==("__debug__":Str))=false:=by decide)
  (q1:fc (e::es) X.env=(false,eval e X.env)::fc es X.env:=by rfl) (q2:((kj pos (fc es X.env)).any fun x=>x.fst)=false:=by rfl):PE X (.Call (.Name x pos') (e::es) [] pos) (yJ (spN ps q) t):=by
 obtain⟨f,fd,F,hm,kp,hb⟩:=D.ex;intro zd s σ H Q I h;refine jz (jS I hg hm ?_ y);refine W.callWith_K (h₀:=X.base) I.ok.mod.kin kp (thn (ha pos zd s σ H _ I h) fun us s1 ⟨vs,H1,I1,r,q⟩=>⟨I1.kIn,?_⟩) q1 q2;refine yT (dvs:=[]) (ds:=[]) (E:=E0) F (hr.mono hk) hb .nil pass0 I1 r ?_;rw[km];exact q (ir s1.heap.objs.size) fun b u e=>mem_range.mpr (I1.hok b u e).lt
end
def rE(S:Sto)(R:RX):RX:=fun y S'=>match y,S' with
 | .d .none,[]=>R (.d .none) S
 | .d (.list es),[]=>cS es=true/\R (.l S.length) (S++[es])
 |_,_=>False
theorem mL{S:Sto}{R:RX}:rE S R (.d .none) []=R (.d .none) S:=rfl
theorem m7{S:Sto}{R:RX}{es:List bv}:rE S R (.d (.list es)) []=(cS es=true/\R (.l S.length) (S++[es])):=rfl
def iQ(m:Nat)(q:PN)(da:DA):DE:=fun δ S R=>da δ S fun xs S1=>∃ds,datas xs=some ds/\ds.length=m/\cS ds=true/\q (ds.map XV.d) [] (rE S1 R)
theorem FX{H:Hp}{L:List Addr}(hL:∀b u,H b=some u->b∈L):∃h':List Addr,(∀b∈h',∃u:MO,H b=some u.ho)/\∀b vs,H b=some (.lst vs)->b∈h':=by
 classical
 refine⟨L.filter fun b=>decide (∃vs,H b=some (.lst vs)),fun b m=>?_,fun b vs e=>mem_filter.mpr ⟨hL b _ e,jh ⟨vs,e⟩⟩⟩;obtain⟨vs,e⟩:=rg (mem_filter.mp m).2;exact⟨.l vs,e⟩
theorem AG{ps:List Str}{q:PN}{m:Nat}{t:TA}{da:DA}(ha:RA t da)(hm:ps.length=m:=by rfl):RE (yJ (spN ps q) t) (iQ m q da):=fun h o H δ σ S R Q he hs w c=>
 ha h o H δ σ S _ _ he hs w fun o1 H1 S1 xs vs e1 s1 x1 ⟨ds,e,hl,nl,d1⟩ L hL=>by
  have ex:=eP e;subst ex;have hv:=x1.len;obtain⟨h',hal,all⟩:=FX hL;have ac:∀b∈(h++o1)++h',∃u:MO,H1 b=some u.ho:=fun b m=>by
   rcases mem_append.mp m with m|m
   ·exact(mem_append.mp m).elim (s1.hal b) (s1.oam b)
   ·exact hal b m
  have af:∀(ds:List bv) (vs:List V),cS ds=true->HasXs h o1 H1 (ds.map XV.d) vs->HasXs ((h++o1)++h') [] H1 (ds.map XV.d) vs:=by
   intro ds;induction ds with
   |nil=>intro vs _ z;exact z
   |cons d ds ih=>
    intro vs n z;obtain⟨v,r,e,q,l⟩:=z;simp only[cS,ki]at n;exact⟨v,r,e,sS (zG (h:=h) (o:=o1)) (fun b m=>m.elim (fun z=>ac b z) (fun z=>by cases z)) d v n.1 q,ih r n.2 l⟩
  refine⟨by rw[hv,fj,hl,hm],(h++o1)++h',[],[],_,_,⟨rfl,nodup_nil,fun a ha=>(by cases ha),ac,fun k a ds e=>(by simp at e)⟩,af ds vs nl x1,d1,fun o' H' S' y v e2 s' hy q=>?_⟩;have c1:=c.pre e1;have sH:Same H1 H':=fun b u eb=>(e2.kp b u yv eb).2;unfold rE at q;split at q
  ·have e0:o'=[]:=gg s'.len.symm;subst e0;have ev:=fY.mp (show Has (vx ((h++o1)++h') [] H') PyData.none v from hy);subst ev;exact c1 o1 H' S1 (.d .none) _ (Ex.of_same sH) (s1.same sH) xN q
  ·rename_i es;have e0:o'=[]:=gg s'.len.symm;subst e0;obtain⟨a,aa,rfl,ea,l⟩:=zU.mp (show Has (vx ((h++o1)++h') [] H') (ug es) v from hy);obtain⟨z1,_,z3⟩:=zW.mp ea;have na:a∉h++o1:=fun m=>z1 (jo _ m);have hn:H1 a=none:=by
    cases eh:H1 a with
    |none=>rfl
    |some u=>
     have:=sH a u eh;rw[z3]at this;cases this;exact absurd (gq _ (all a _ eh)) z1
   have e3:Ex o1 H1 (o1++[a]) H':=⟨⟨[a],rfl⟩,fun b u hb eb=>⟨fun m=>(mem_append.mp m).elim hb fun m=>(by rw[mem_singleton.mp m,hn]at eb;cases eb),sH b u eb⟩⟩;have ae:∀b,b∈h\/b∈o1++[a]->∃u:MO,H' b=some u.ho:=fun b m=>by
    rcases m with m|m
    ·obtain⟨u,eb⟩:=s1.hal b m;exact⟨u,sH b _ eb⟩
    ·rcases mem_append.mp m with m|m
     ·obtain⟨u,eb⟩:=s1.oam b m;exact⟨u,sH b _ eb⟩
     ·rw[mem_singleton.mp m];exact⟨.l aa,z3⟩
   have l2:HasL (vx h (o1++[a]) H') es aa:=uQ (zG (h:=(h++o1)++h') (o:=[])) ae es aa q.1 l;refine c1 (o1++[a]) H' (S1++[es]) (.l S1.length) _ e3 ⟨by simp[s1.len],mR s1.nd fun m=>na (gq _ m),fun b hb=>?_,fun b hb=>?_,fun k b ag w1 w2=>?_⟩ ⟨a,by rw[s1.len,fb],rfl⟩ q.2
   ·rcases mem_append.mp hb with hb|hb
    ·exact s1.dis b hb
    ·rw[mem_singleton.mp hb];exact fun m=>na (jo _ m)
   ·obtain⟨u,eb⟩:=s1.hal b hb;exact⟨u,sH b _ eb⟩
   ·by_cases hk:k<o1.length
    ·rw[fy hk]at w1;rw[fy (by rw[s1.len];exact hk)]at w2;obtain⟨ws,e4,l3⟩:=s1.cont k b ag w1 w2;exact⟨ws,sH _ _ e4,l3.mono e3.vx⟩
    ·have ah:k=o1.length:=by
      obtain⟨q,_⟩:=List.getElem?_eq_some_iff.mp w1;rw[fx,jg]at q;omega
     subst ah;rw[fb]at w1;rw[<- s1.len,fb]at w2;cases w1;cases w2;exact⟨aa,z3,l2⟩
  ·exact q.elim
end
section
section
variable {prog:fq}{w:gw}{A:gh}{E:bo->bq->Prop}{s:bq}
open AutoSeq1 (wpAny_loadPart') in
theorem Hv(l b:Addr)(items:Array bo)(n:Nat)(dd aa:Option Addr)(dt:Data)(sl y:Array (Option bo)):
  Meets (nk.«list.__ne__» ⟨[.ref l,.ref b],[]⟩) (fun _ R s=>s.heap.get? l=some { cls:=.type "list",dict:=dd,data:=.seq items n,slots:=sl }/\s.heap.get? b=some { cls:=.type "dict",dict:=aa,data:=dt,slots:=y }/\R (.ok (.ret .notImplemented)) s):=
 .of_wp fun prog w A R s h=>by obtain⟨hp,g,d,tk,os⟩:=s;obtain⟨hl,hb,h⟩:=h;have f1:=F.sub_dict_list;wp_walk using wpAny_loadPart' hl,wpAny_loadPart' hb;exact⟨_,rfl,h⟩
theorem IX{a b:Addr}{oa ob:Obj}{y:Array bo}{n:Nat}(ha:s.heap.get? a=some oa)(ca:oa.cls=.type "dict")(hb:s.heap.get? b=some ob)(cb:ob.cls=.type "list")(db:ob.data=.seq y n)(hu:A.units<cLine){Q:bo->bq->Prop}
  (h:Q (.bool true) s):cv (model prog w) A (kx .NotEq (.ref a) (.ref b)) Q E s:=by
 have aa:a≠b:=fun e=>by
  subst e;rw[ha]at hb;cases hb;rw[ca]at cb;exact absurd cb dz
 have ta:s.TypeIs (.ref a) "dict":=⟨_,ha,ca⟩;have tb:s.TypeIs (.ref b) "list":=⟨_,hb,cb⟩;refine SeqAt.rc_ne_decline_or (k:=false) ta tb dz F.sub_list_dict F.slot_dict_ne F.slot_list_ne_refl (fun Q' hq=>?_) (fun Q' hq=>?_) (fun Q' hq=>wpAny_isSame_ref_other aa ha hb (by rw[ca];simp) hq) (.inr hu) h
 ·refine lf F.slot_dict_ne ta F.entry_dict_ne ?_ (F.args_dict_ne_2 _ _);show cv _ _ (Builtin.Dict.dictSlotArgs "__ne__" ⟨[.ref a,.ref b],[]⟩ >>= _) _ _ s;refine bp ?_;unfold Builtin.Dict.dictSlotArgs;refine bp (wpAny_notOrdered_dict ta ?_);show cv _ _ (pure (fv a,fv b)) _ _ s;refine cr ?_;refine bp (wpAny_isInstance (T:="list") tb F.sub_list_dict ?_);simp only[Bool.not_false,if_true];exact bp (pc (cr ⟨_,rfl,hq⟩))
 ·obtain⟨ai,af,ah,ag⟩:=oa;obtain⟨ak,ae,aj,ac⟩:=ob;simp only at ca cb db;subst ca cb db;exact qd F.slot_list_ne_refl tb F.entry_list_ne (F.args_list_ne_2 _ _) (Hv b a y n ae af ah ac ag) ⟨hb,ha,hq⟩
end
def CC:R2:=fun x y H Q=>tI x y H Q\/(Has H (.dict []) x/\Has H (.list []) y/\Q (.bl true) H)
theorem Ic{X:Cx}(hu:X.A.units+64<cLine):OpR X (kx .NotEq) CC:=by
 refine(kJ hu).or ?_;rintro zd s σ H x y u v Q I rx ry ⟨hx,hy,q⟩;obtain⟨b,ys,rfl,eb,lb⟩:=zU.mp hy;obtain⟨a,vs,rfl,hD,_⟩:=rA.mp hx;cases (show u=fv a from rx);cases (show v=fv b from ry);obtain⟨_,its',n',af,ac⟩:=(show ObjOk X.prog X.w H s.heap b (.lst ys)from I.hok b _ eb);rcases hD with ⟨ob2,m,e1,e2,e3⟩|⟨ob2,p,m,e1,e2,_⟩
 ·have hok:=(show ObjOk X.prog X.w H s.heap a (.frz ob2 (.dK m))from I.hok a _ e1);obtain⟨g1,_,_,ae,_,aa⟩:=hok;obtain⟨o3,g3,c3⟩:=aa.typeIs;exact IX g3 c3 ac rfl rfl yw ⟨.bl _,H,I,rfl,q⟩
 ·cases e2
def jH:D2:=fun x y S R=>dQ x y S R\/(x=.d (.dict [])/\y=.d (.list [])/\R (.d (.bool true)) S)
theorem HJ:RO CC jH:=fun h o H S x y v u R Q hs hx hy q c=>by
 rcases q with q|⟨q1,q2,q⟩
 ·exact .inl (tK h o H S x y v u R Q hs hx hy q c)
 ·subst q1 q2;exact .inr ⟨eX hs rfl hx,eX hs rfl hy,c o H S _ _ Ex.refl hs (xB _) q⟩
end
end L2
namespace My
open PySem L2
def lZ:PN:=fun xs S R=>(aB (cY (dCB c8 (zb (zi 0) (zb (dO (.ty "int")) zo))) (hV (dCB c8 (zb (zi 0) (zb (dO (.ty "bool")) zo)))))) (aG S.length R) (xs.map some++bu 0 none) S
def mG:PN:=fun xs S R=>(aA (aC (dOp (dI (fun _ j=>0<j) fun i j=>i % j) (dOp aN (zi 0) (dC (.int 7919))) (dC (.int 2147483647))) (zm 0)) (aB (dOp (dI (fun _ j=>0<j) fun i j=>i % j) (dOp aN (dOp aN (dOp aX (zi 0) (zi 0)) (dOp aX (dC (.int 48271)) (zi 0))) (dC (.int 12345))) (dC (.int 2147483629))))) (aG S.length R) (xs.map some++bu 0 none) S
def Bu:PN:=fun xs S R=>(aA (aC (dCB (dI2 fun i j=>if j>i then j else i) (zb (zi 0) (zb (dOp (dI0 fun i j=>i-j) (dC (.int 0)) (zi 0)) zo))) (zm 1)) (aB (cK (zb (zi 1) (zb (dCB gT (zb (dOp (dIb fun i j=>decide (j<=i)) (zi 1) (dOp (dI CPow fun i j=>i ^ j.toNat) (dC (.int 10)) (dC (.int 18)))) zo)) (zb (dOp (dI (fun _ j=>0<j) fun i j=>i % j) (zi 1) (dC (.int 1000003))) zo)))))) (aG S.length R) (xs.map some++bu 1 none) S
def pD:PN:=fun xs S R=>(aB (cY (dCB c8 (zb (zi 0) (zb (dO (.ty "int")) zo))) (hV (dCB c8 (zb (zi 0) (zb (dO (.ty "bool")) zo)))))) (aG S.length R) (xs.map some++bu 0 none) S
def zF:PN:=fun xs S R=>(aA (aI (dB (dOp bR (dOp dIx (zi 0) (dC (.int 1))) (dC (.int 1)))) (aA (aC (dOp (dI (fun _ j=>0<j) fun i j=>i % j) (dOp dIx (zi 0) (dC (.int 0))) (zi 1)) (zm 2)) (aA (aC (dOp dFd (dOp dIx (zi 0) (dC (.int 0))) (zi 1)) (gJ (zi 0) (dC (.int 0)))) (aB (zi 2)))) aM) (aA (aC (aE 1 mG (zb (dOp aN (aE 1 mG (zb (dOp dIx (zi 0) (dC (.int 2))) zo)) (dC (.int 7))) zo)) (gJ (zi 0) (dC (.int 2)))) (aB (dOp (dI (fun _ j=>0<j) fun i j=>i % j) (dOp dFd (dOp dIx (zi 0) (dC (.int 2))) (dC (.int 64))) (zi 1))))) (aG S.length R) (xs.map some++bu 1 none) S
def pW:PN:=fun xs S R=>(aA (aC (aW 0 2 zF (zb (zi 0) (zb (dC (.int 8)) zo))) (zm 1)) (aA (aI (dB (dOp (dIb fun i j=>decide (i<j)) (zi 1) (dC (.int 5)))) (aB (dOp (dI0 fun i j=>i-j) (aW 0 2 zF (zb (zi 0) (zb (dC (.int 13)) zo))) (dC (.int 6)))) aM) (aA (aI (dB (dOp (dIb fun i j=>decide (i<j)) (zi 1) (dC (.int 7)))) (aB (dOp (dI0 fun i j=>i-j) (aW 0 2 zF (zb (zi 0) (zb (dC (.int 2001)) zo))) (dC (.int 1000)))) aM) (aB (dOp aX (dOp (dI0 fun i j=>i-j) (aW 0 2 zF (zb (zi 0) (zb (dOp aX (dC (.int 2)) (dOp (dI CPow fun i j=>i ^ j.toNat) (dC (.int 10)) (dC (.int 30)))) zo))) (dOp (dI CPow fun i j=>i ^ j.toNat) (dC (.int 10)) (dC (.int 30)))) (dOp (dI CPow fun i j=>i ^ j.toNat) (dC (.int 10)) (dC (.int 28)))))))) (aG S.length R) (xs.map some++bu 1 none) S
def y4:PN:=fun xs S R=>(aA (aC (aW 0 2 zF (zb (zi 0) (zb (dC (.int 8)) zo))) (zm 1)) (aA (aI (dB (dOp (dIb fun i j=>decide (i<j)) (zi 1) (dC (.int 5)))) (aB (dOp (dI0 fun i j=>i-j) (aW 0 2 zF (zb (zi 0) (zb (dC (.int 13)) zo))) (dC (.int 6)))) aM) (aA (aI (dB (dOp (dIb fun i j=>decide (i<j)) (zi 1) (dC (.int 7)))) (aB (dOp (dI0 fun i j=>i-j) (aW 0 2 zF (zb (zi 0) (zb (dC (.int 2001)) zo))) (dC (.int 1000)))) aM) (aB (dOp aX (dOp (dI0 fun i j=>i-j) (aW 0 2 zF (zb (zi 0) (zb (dOp aX (dC (.int 2)) (dOp (dI CPow fun i j=>i ^ j.toNat) (dC (.int 10)) (dC (.int 30)))) zo))) (dOp (dI CPow fun i j=>i ^ j.toNat) (dC (.int 10)) (dC (.int 30)))) (dOp (dI CPow fun i j=>i ^ j.toNat) (dC (.int 10)) (dC (.int 28)))))))) (aG S.length R) (xs.map some++bu 1 none) S
def lK:PN:=fun xs S R=>(aA (aC (aP (zb (dCB cW (zb (zi 0) (zb (dO (.ref 78)) zo))) (zb (dCB cW (zb (zi 0) (zb (dO (.ref 90)) zo))) (zb (dCB cW (zb (zi 0) (zb (dO (.ref 102)) zo))) (zb (dCB cW (zb (zi 0) (zb (dO (.ref 202)) zo))) zo))))) (zm 1)) (aA (aC (dOp aN (zi 1) (aP (zb (dCB cW (zb (zi 0) (zb (dO (.ref 114)) zo))) (zb (dCB cW (zb (zi 0) (zb (dO (.ref 126)) zo))) (zb (dCB cW (zb (zi 0) (zb (dO (.ref 145)) zo))) (zb (dCB cW (zb (zi 0) (zb (dO (.ref 164)) zo))) zo)))))) (zm 1)) (aA (aC (dOp aN (zi 1) (aP (zb (dCB cW (zb (zi 0) (zb (dO (.ref 183)) zo))) (zb (dCB cW (zb (zi 0) (zb (dO (.ref 221)) zo))) zo)))) (zm 1)) (aA (aI (dOr (bC (aR (dCB cW (zb (zi 0) (zb (dO (.ty "ValueError")) zo))))) (dB (dOp dQ (g8 jQ (zi 1) (zb (dC (.bool true)) zo)) (dC (.int 1))))) (aB (dC (.str "other"))) aM) (aA (aC (aP (zb (dC (.str "span")) (zb (dC (.str "part")) (zb (dC (.str "set")) (zb (dC (.str "text")) (zb (dC (.str "row")) (zb (dC (.str "unlike")) (zb (dC (.str "drawing")) (zb (dC (.str "gap")) (zb (dC (.str "offer")) (zb (dC (.str "great")) zo))))))))))) (zm 2)) (aB (dOp dIx (zi 2) (g8 jE (zi 1) (zb (dC (.bool true)) zo))))))))) (aG S.length R) (xs.map some++bu 2 none) S
def rO:PN:=fun xs S R=>(aA (aC (dCB (dI2 fun i j=>if j>i then j else i) (zb (zi 0) (zb (dOp (dI0 fun i j=>i-j) (dC (.int 0)) (zi 0)) zo))) (zm 1)) (aB (cK (zb (zi 1) (zb (dCB gT (zb (dOp (dIb fun i j=>decide (j<=i)) (zi 1) (dOp (dI CPow fun i j=>i ^ j.toNat) (dC (.int 10)) (dC (.int 18)))) zo)) (zb (dOp (dI (fun _ j=>0<j) fun i j=>i % j) (zi 1) (dC (.int 1000003))) zo)))))) (aG S.length R) (xs.map some++bu 1 none) S
def pT:PN:=fun xs S R=>(aB (dCB iC (zb (bJ [none,none,some 1] (bA (dOp dIx (zi 0) (dC (.int 0)))) (bF 2 (zV (zm 0) (zV (zm 1) bI))) aK (dOp aX (zi 1) (dOp dIx (zi 2) (zi 0)))) zo))) (aG S.length R) (xs.map some++bu 0 none) S
def pI:PN:=fun xs S R=>(aB (f9 (dIb fun i j=>decide (i<=j)) (dIb fun i j=>decide (i<=j)) (dOp dIx (zi 0) (dC (.int 1))) (aE 2 pT (zb (zi 0) (zb (zi 1) zo))) (dOp dIx (zi 0) (dC (.int 2))))) (aG S.length R) (xs.map some++bu 0 none) S
def rC:PN:=fun xs S R=>(aA (aC (zi 0) (bF 3 (zV (zm 3) (zV (zm 4) (zV (zm 5) bI))))) (aB (f9 (dIb fun i j=>decide (i<=j)) (dIb fun i j=>decide (i<=j)) (zi 4) (dOp aN (dOp aX (dOp dIx (dOp dIx (zi 3) (dC (.int 0))) (dC (.int 1))) (zi 1)) (dOp aX (dOp dIx (dOp dIx (zi 3) (dC (.int 1))) (dC (.int 1))) (zi 2))) (zi 5)))) (aG S.length R) (xs.map some++bu 3 none) S
def pY:PN:=fun xs S R=>(aB (gY [none,none,some 0,some 1] (eM (zb (zi 2) zo)) (bF 2 (zV (zm 0) (zV (zm 1) bI))) (aR (aE 2 pI (zb (zi 2) (zb (aH (zb (zi 3) (zb (zi 1) zo))) zo)))) (zi 0))) (aG S.length R) (xs.map some++bu 0 none) S
def mX:PN:=fun xs S R=>(aA (aC (aW 0 2 zF (zb (zi 0) (zb (dOp aN (zi 1) (dC (.int 1))) zo))) (zm 4)) (aA (aI (dB (dOp bR (aW 0 2 zF (zb (zi 0) (zb (dC (.int 8)) zo))) (dC (.int 0)))) (aB (dOp iR (aH (zb (zi 2) zo)) (zi 4))) aM) (aB (dCB gU (zb (bJ [none,some 2,some 0,some 3] (iA (zb (zi 4) zo)) (zm 0) aK (dOp aN (zi 1) (aW 0 2 zF (zb (zi 2) (zb (zi 3) zo))))) zo))))) (aG S.length R) (xs.map some++bu 1 none) S
def pO:PN:=fun xs S R=>(aB (gY [none,some 0,some 2] (bA (zi 1)) (zm 0) aK (aE 3 pY (zb (zi 1) (zb (zi 0) (zb (zi 2) zo)))))) (aG S.length R) (xs.map some++bu 0 none) S
def qV:PN:=fun xs S R=>(aA (aC (aP (zb (aW 0 1 pW (zb (zi 0) zo)) (zb (aW 0 1 pW (zb (zi 0) zo)) zo))) (zm 2)) (aA (aC (dOp dIx (aP (zb (dC (.int 1)) (zb (dC (.int 3)) (zb (dC (.int 8)) (zb (dC (.int 40)) zo))))) (aW 0 2 zF (zb (zi 0) (zb (dC (.int 4)) zo)))) (zm 3)) (aA (aC (bJ [none,some 0] (iA (zb (dC (.int 2)) zo)) (zm 0) aK (dOp dIx (aP (zb (dC (.int 1)) (zb (dUn (dUI fun i=>-i) (dC (.int 1))) (zb (dC (.int 2)) (zb (dUn (dUI fun i=>-i) (dC (.int 2))) (zb (dC (.int 3)) (zb (dUn (dUI fun i=>-i) (dC (.int 3))) zo))))))) (aW 0 2 zF (zb (zi 1) (zb (dC (.int 6)) zo))))) (jN 2 (zV (zm 4) (zV (zm 5) bI)))) (aA (aC (dOp aX (zi 3) (dOp aN (dCB gF (zb (zi 4) zo)) (dCB gF (zb (zi 5) zo)))) (zm 6)) (aA (aC (dOp (dI0 fun i j=>i-j) (dOp aN (dOp aN (dOp aX (zi 4) (dOp dIx (zi 2) (dC (.int 0)))) (dOp aX (zi 5) (dOp dIx (zi 2) (dC (.int 1))))) (aW 0 2 zF (zb (zi 0) (zb (dOp aN (dOp aX (dC (.int 2)) (zi 6)) (dC (.int 1))) zo)))) (zi 6)) (zm 7)) (aA (aC (dOp aN (zi 7) (dOp dIx (aP (zb (dC (.int 0)) (zb (dC (.int 1)) (zb (dC (.int 2)) (zb (zi 3) (zb (zi 6) (zb (dOp aX (dC (.int 3)) (zi 3)) zo))))))) (aW 0 2 zF (zb (zi 0) (zb (dC (.int 6)) zo))))) (zm 8)) (aA (aC (aW 0 4 mX (zb (zi 0) (zb (zi 1) (zb (dOp dIx (zi 2) (dC (.int 0))) (zb (zi 3) zo))))) (zm 9)) (aB (aH (zb (aH (zb (aH (zb (aH (zb (dC (.int 0)) (zb (zi 4) zo))) (zb (aH (zb (dC (.int 1)) (zb (zi 5) zo))) zo))) (zb (zi 7) (zb (zi 8) zo)))) (zb (zi 9) (zb (aW 0 4 mX (zb (zi 0) (zb (zi 1) (zb (dOp dIx (zi 2) (dC (.int 1))) (zb (zi 3) zo))))) zo)))))))))))) (aG S.length R) (xs.map some++bu 8 none) S
def qA:PN:=fun xs S R=>(aA (aC (cK zo) (zm 3)) (aA (bY (eM (zb (aE 3 pO (zb (zi 0) (zb (zi 1) (zb (zi 2) zo)))) zo)) (bF 2 (zV (zm 4) (zV (zm 5) bI))) (dG (dBM gM (zi 3) (zb (bJ [none,some 4] (bA (zi 5)) (zm 0) aK (aH (zb (zi 1) (zb (zi 0) zo)))) zo)))) (aB (zi 3)))) (aG S.length R) (xs.map some++bu 3 none) S
def rD:PN:=fun xs S R=>(aB (dOp bR (dCB aO (zb (aE 3 qA (zb (zi 0) (zb (zi 1) (zb (zi 2) zo)))) zo)) (dOp aX (dCB aO (zb (zi 1) zo)) (dCB aO (zb (zi 2) zo))))) (aG S.length R) (xs.map some++bu 0 none) S
def zN:PN:=fun xs S R=>(aB (dOp bR (dCB aO (zb (bJ [none,none] (bA (zi 0)) (bF 2 (zV (zm 0) (zV (zm 1) bI))) (dB (dOp (dIb fun i j=>decide (i<j)) (zi 1) (dC (.int 0)))) (zi 1)) zo)) (dC (.int 1)))) (aG S.length R) (xs.map some++bu 0 none) S
def qE:PN:=fun xs S R=>(aA (aC (bJ [none,none] (bA (dCB fN (zb (bJ [none,none] (eM (zb (zi 1) zo)) (bF 2 (zV (zm 0) (zV (zm 1) bI))) aK (aH (zb (zi 1) (zb (zi 0) zo)))) zo))) (bF 2 (zV (zm 0) (zV (zm 1) bI))) aK (zi 1)) (zm 3)) (aA (aC (dC (.int 1)) (zm 4)) (aA (aI (dB (dOp (dIb fun i j=>decide (j<i)) (dOp aX (dOp dIx (dOp dIx (dOp dIx (zi 0) (dC (.int 0))) (dC (.int 0))) (dC (.int 1))) (dOp dIx (dOp dIx (dOp dIx (zi 0) (dC (.int 0))) (dC (.int 1))) (dC (.int 1)))) (dC (.int 0)))) (aC (dUn (dUI fun i=>-i) (dC (.int 1))) (zm 4)) aM) (aA (aC (bJ [none,none] (bA (dCB fN (zb (bJ [none,none,some 4] (eM (zb (zi 2) zo)) (bF 2 (zV (zm 0) (zV (zm 1) bI))) aK (aH (zb (dOp aX (zi 2) (zi 1)) (zb (zi 0) zo)))) zo))) (bF 2 (zV (zm 0) (zV (zm 1) bI))) aK (zi 1)) (zm 5)) (aB (aH (zb (zi 3) (zb (zi 5) zo)))))))) (aG S.length R) (xs.map some++bu 3 none) S
def nU:PN:=fun xs S R=>(aA (aI (dB (dOp dQ (dCB aO (zb (zi 1) zo)) (dCB aO (zb (zi 2) zo)))) i9 aM) (aA (aI (aR (aE 1 zN (zb (dOp dIx (zi 0) (dC (.int 0))) zo))) (aB (aH (zb (dCB dP (zb (zi 1) zo)) (zb (dCB dP (zb (zi 2) zo)) zo)))) aM) (aB (aH (zb (dCB dP (zb (zi 1) zo)) (zb (dCB gK (zb (zi 2) zo)) zo)))))) (aG S.length R) (xs.map some++bu 0 none) S
def mJ:PX:=fun xs S R EX=>(aA (aI (dB (dOp dQ (dCB aO (zb (zi 1) zo)) (dCB aO (zb (zi 2) zo)))) (i3 EX 126) aM) (aA (aI (aR (aE 1 zN (zb (dOp dIx (zi 0) (dC (.int 0))) zo))) (aB (aH (zb (dCB dP (zb (zi 1) zo)) (zb (dCB dP (zb (zi 2) zo)) zo)))) aM) (aB (aH (zb (dCB dP (zb (zi 1) zo)) (zb (dCB gK (zb (zi 2) zo)) zo)))))) (aG S.length R) (xs.map some++bu 0 none) S
def zI:PN:=fun xs S R=>(aA (aI (dOr (bC (aR (dCB c8 (zb (zi 1) (zb (dO (.ty "list")) zo))))) (bC (aR (dCB fW (zb (bJ [none] (bA (zi 1)) (zm 0) aK (cY (aE 1 lZ (zb (zi 0) zo)) (dOp (dIb fun i j=>decide (j<=i)) (zi 0) (dC (.int 1))))) zo))))) (aB (dC (.bool false))) aM) (aB (dOp bR (dCB iC (zb (zi 1) zo)) (zi 0)))) (aG S.length R) (xs.map some++bu 0 none) S
def pM:PN:=fun xs S R=>(aA (aC (aE 3 qE (zb (zi 0) (zb (zi 1) (zb (zi 2) zo)))) (bF 2 (zV (zm 4) (zV (zm 5) bI)))) (aA (aC (dC (.int 0)) (zm 6)) (aA (bY (bA (zi 3)) (zm 7) (aA (bY (bA (dSl jL (zi 4) (bH (zi 6)) (bH (dOp aN (zi 6) (zi 7))))) (zm 8) (aI (bC (aR (dCB fW (zb (bJ [none,some 0,some 1,some 8,some 2] (bA (dSl jL (zi 5) (bH (zi 6)) (bH (dOp aN (zi 6) (zi 7))))) (zm 0) aK (aE 3 rC (zb (zi 1) (zb (dOp dIx (zi 2) (zi 3)) (zb (dOp dIx (zi 4) (zi 0)) zo))))) zo)))) (aB (dC (.bool false))) aM)) (aC (dOp aN (zi 6) (zi 7)) (zm 6)))) (aB (dC (.bool true)))))) (aG S.length R) (xs.map some++bu 5 none) S
def kC:PN:=fun xs S R=>(aB (aE 3 rD (zb (zi 0) (zb (dSl jL (dOp dIx (zi 1) (dC (.int 0))) (bH (zi 2)) (bH (dOp aN (zi 2) (zi 3)))) (zb (dSl jL (dOp dIx (zi 1) (dC (.int 1))) (bH (zi 2)) (bH (dOp aN (zi 2) (zi 3)))) zo))))) (aG S.length R) (xs.map some++bu 0 none) S
def kM:PN:=fun xs S R=>(aA (aC (aE 3 nU (zb (zi 0) (zb (zi 1) (zb (zi 2) zo)))) (zm 4)) (aA (aI (bC (aR (aE 2 zI (zb (dCB aO (zb (zi 1) zo)) (zb (zi 3) zo))))) (aB (dC (.bool false))) aM) (aA (aC (dC (.int 0)) (zm 5)) (aA (bY (bA (zi 3)) (zm 6) (aA (aI (bC (aR (aE 4 kC (zb (zi 0) (zb (zi 4) (zb (zi 5) (zb (zi 6) zo))))))) (aB (dC (.bool false))) aM) (aC (dOp aN (zi 5) (zi 6)) (zm 5)))) (aB (dC (.bool true))))))) (aG S.length R) (xs.map some++bu 3 none) S
def pP:PX:=fun xs S R EX=>(aA (aC (gR EX 3 mJ (zb (zi 0) (zb (zi 1) (zb (zi 2) zo)))) (zm 4)) (aA (aI (bC (aR (aE 2 zI (zb (dCB aO (zb (zi 1) zo)) (zb (zi 3) zo))))) (aB (dC (.bool false))) aM) (aA (aC (dC (.int 0)) (zm 5)) (aA (bY (bA (zi 3)) (zm 6) (aA (aI (bC (aR (aE 4 kC (zb (zi 0) (zb (zi 4) (zb (zi 5) (zb (zi 6) zo))))))) (aB (dC (.bool false))) aM) (aC (dOp aN (zi 5) (zi 6)) (zm 5)))) (aB (dC (.bool true))))))) (aG S.length R) (xs.map some++bu 3 none) S
def lS:PN:=fun xs S R=>(aA (aC (cK zo) (zm 4)) (aA (bY (iE (zb (zi 3) zo)) (bF 2 (zV (zm 5) (zV (zm 6) bI))) (aI (gO (dB (dOp jM (zi 6) (dC .none))) (aR (aE 4 kC (zb (zi 0) (zb (zi 1) (zb (zi 2) (zb (zi 5) zo))))))) (dG (dBM fZ (zi 4) (zb (dOp aN (aP (zb (zi 5) zo)) (zi 6)) zo))) aM)) (aB (dCB jK (zb (zi 4) zo))))) (aG S.length R) (xs.map some++bu 3 none) S
def nX:PN:=fun xs S R=>(aA (aC (aE 3 nU (zb (zi 0) (zb (zi 1) (zb (zi 2) zo)))) (zm 3)) (aA (aC (cK (zb (aP zo) zo)) (zm 4)) (aA (bY (gZ (zb (dOp (dI0 fun i j=>i-j) (dCB aO (zb (zi 1) zo)) (dC (.int 1))) (zb (dUn (dUI fun i=>-i) (dC (.int 1))) (zb (dUn (dUI fun i=>-i) (dC (.int 1))) zo)))) (zm 5) (dG (dBM gE (zi 4) (zb (dC (.int 0)) (zb (gS 4 lS (zb (zi 0) (zb (zi 3) (zb (zi 5) (zb (zi 4) zo))))) zo))))) (aB (dOp dIx (zi 4) (dC (.int 0))))))) (aG S.length R) (xs.map some++bu 3 none) S
def pH:PX:=fun xs S R EX=>(aA (aC (gR EX 3 mJ (zb (zi 0) (zb (zi 1) (zb (zi 2) zo)))) (zm 3)) (aA (aC (cK (zb (aP zo) zo)) (zm 4)) (aA (bY (gZ (zb (dOp (dI0 fun i j=>i-j) (dCB aO (zb (zi 1) zo)) (dC (.int 1))) (zb (dUn (dUI fun i=>-i) (dC (.int 1))) (zb (dUn (dUI fun i=>-i) (dC (.int 1))) zo)))) (zm 5) (dG (dBM gE (zi 4) (zb (dC (.int 0)) (zb (gS 4 lS (zb (zi 0) (zb (zi 3) (zb (zi 5) (zb (zi 4) zo))))) zo))))) (aB (dOp dIx (zi 4) (dC (.int 0))))))) (aG S.length R) (xs.map some++bu 3 none) S
def kS:Nat->PN
 | 0=>fun _ _ _=>False
 |n+1=>fun xs S R=>(aA (aI (dB (dOp bR (zi 0) (dC (.int 0)))) (aB (cK (zb (aP zo) zo))) aM) (aA (aC (cK zo) (zm 1)) (aA (bY (iT (zb (dC (.int 1)) (zb (dOp aN (zi 0) (dC (.int 1))) zo))) (zm 2) (dG (dBM gM (zi 1) (zb (bJ [none,some 2] (bA (aE 1 (kS n) (zb (dOp (dI0 fun i j=>i-j) (zi 0) (zi 2)) zo))) (zm 0) aK (dOp aN (aP (zb (zi 1) zo)) (zi 0))) zo)))) (aB (zi 1))))) (aG S.length R) (xs.map some++bu 2 none) S
def Bc:PN:=kS 8
def gL:PN:=fun xs S R=>(aA (aC (aE 4 kM (zb (zi 0) (zb (zi 1) (zb (zi 2) (zb (zi 3) zo))))) (zm 5)) (aB (cY (dCB c8 (zb (zi 5) (zb (dO (.ty "bool")) zo))) (dOp bR (zi 5) (zi 4))))) (aG S.length R) (xs.map some++bu 1 none) S
def oY:PN:=fun xs S R=>(aI (dB (dOp bR (zi 0) (dC (.int 0)))) (gW (knT "told") 3 pH (zb (zi 1) (zb (zi 2) (zb (zi 3) zo))) 4 (aB (aH (zb (hZ lK (zb (zi 4) zo)) (zb (dC .none) zo))))) (gW (knT "told") 4 pP (zb (zi 1) (zb (zi 2) (zb (zi 3) (zb (aP (zb (dCB aO (zb (zi 2) zo)) zo)) zo)))) 4 (aB (aH (zb (hZ lK (zb (zi 4) zo)) (zb (dC .none) zo)))))) (aG S.length R) (xs.map some++bu 1 none) S
def zy:PN:=fun xs S R=>(aA (aI (dB (dOp dQ (dCB aO (zb (zi 1) zo)) (dCB aO (zb (zi 2) zo)))) (aB (f9 bR bR (aE 4 oY (zb (dC (.int 0)) (zb (zi 0) (zb (zi 1) (zb (zi 2) zo))))) (aH (zb (dC (.str "unlike")) (zb (dC .none) zo))) (aE 4 oY (zb (dC (.int 1)) (zb (zi 0) (zb (zi 1) (zb (zi 2) zo))))))) aM) (aA (aC (cK zo) (zm 3)) (aA (bY (bA (aE 1 Bc (zb (dCB aO (zb (zi 1) zo)) zo))) (zm 4) (aA (aC (aE 4 pM (zb (zi 0) (zb (zi 1) (zb (zi 2) (zb (zi 4) zo))))) (zm 5)) (aA (aI (bC (aR (aE 5 gL (zb (zi 0) (zb (zi 1) (zb (zi 2) (zb (zi 4) (zb (zi 5) zo)))))))) (aB (dC (.bool false))) aM) (aI (aR (zi 5)) (dG (dBM fZ (zi 3) (zb (aH (zb (dCB aO (zb (zi 4) zo)) (zb (zi 4) zo))) zo))) aM)))) (aA (aC (aP (zb (dCB gU (zb (dOp aX (aP (zb (dC (.int 1)) zo)) (dCB aO (zb (zi 1) zo))) zo)) (zb (dOp aX (aP (zb (dC (.int 1)) zo)) (dOp aN (dCB aO (zb (zi 1) zo)) (dC (.int 1)))) (zb (dOp aN (aP (zb (dC (.int 0)) zo)) (dOp aX (aP (zb (dC (.int 1)) zo)) (dCB aO (zb (zi 1) zo)))) (zb (aP (zb (dOp aN (dCB aO (zb (zi 1) zo)) (dC (.int 1))) (zb (dUn (dUI fun i=>-i) (dC (.int 1))) zo))) (zb (dC .none) zo)))))) (zm 6)) (aA (bY (bA (dOp aN (zi 6) (aP (zb (dOp aX (aP (zb (dC (.bool true)) zo)) (dCB aO (zb (zi 1) zo))) (zb (aP (zb (dC (.str "1")) zo)) (zb (aP (zb (dC .none) zo)) (zb (dCB aO (zb (zi 1) zo)) (zb (dC (.dict [])) zo)))))))) (zm 7) (aI (gO (dOr (dB (dOp jH (zi 7) (aP zo))) (dB (dOp dQ (zi 1) (aH zo)))) (bC (aR (aE 5 gL (zb (zi 0) (zb (zi 1) (zb (zi 2) (zb (zi 7) (zb (dC (.bool false)) zo))))))))) (aB (dC (.bool false))) aM)) (aA (aC (aE 3 nX (zb (zi 0) (zb (zi 1) (zb (zi 2) zo)))) (zm 8)) (aA (aI (dB (dOp bR (zi 3) (aP zo))) (aB (dOp iY (zi 8) (dC .none))) aM) (aB (cY (dCB c8 (zb (zi 8) (zb (dO (.ty "list")) zo))) (cY (dCB fW (zb (bJ [none] (bA (zi 8)) (zm 0) aK (aE 1 pD (zb (zi 0) zo))) zo)) (dOp bR (zi 8) (dOp dIx (dCB iO (zb (zi 3) zo)) (dC (.int 1)))))))))))))) (aG S.length R) (xs.map some++bu 6 none) S
def rW:DS:=(aA (aC (aH (zb (aH (zb (aH (zb (dC (.int 0)) (zb (dC (.int 1)) zo))) (zb (aH (zb (dC (.int 1)) (zb (dUn (dUI fun i=>-i) (dC (.int 1))) zo))) zo))) (zb (dC (.int 0)) (zb (dC (.int 1)) zo)))) (zm 1)) (aI (dOr (bC (aR (aE 3 zy (zb (zi 1) (zb (aH zo) (zb (aH zo) zo)))))) (dOr (bC (aR (aE 3 zy (zb (zi 1) (zb (aH (zb (dC (.int 3)) (zb (dC (.int 4)) zo))) (zb (aH (zb (dC (.int 3)) (zb (dC (.int 3)) zo))) zo)))))) (bC (aR (aE 3 zy (zb (zi 1) (zb (aH (zb (dC (.int 3)) zo)) (zb (aH zo) zo)))))))) (aB (dC (.bool false))) aM))
def tT:DS:=(aA (aC (aE 1 rO (zb (zi 2) zo)) (zm 3)) (aA (aC (aW 0 2 qV (zb (zi 3) (zb (dC (.int 5)) zo))) (bF 3 (zV (zm 1) (zV (zm 4) (zV (zm 5) bI))))) (aA (aC (dCB (dI2 fun i j=>if j<i then j else i) (zb (dCB aO (zb (zi 4) zo)) (zb (dCB aO (zb (zi 5) zo)) zo))) (zm 6)) (aA (aI (dOr (bC (aR (aE 3 zy (zb (zi 1) (zb (zi 4) (zb (zi 5) zo)))))) (bC (aR (aE 3 zy (zb (zi 1) (zb (dSl cT (zi 4) cU (bH (zi 6))) (zb (dSl cT (zi 5) cU (bH (zi 6))) zo))))))) (aB (dC (.bool false))) aM) (aA (aC (iQ 3 nX (zb (zi 1) (zb (dSl cT (zi 4) cU (bH (zi 6))) (zb (dSl cT (zi 5) cU (bH (zi 6))) zo)))) (zm 7)) (aA (aI (dB (dOp o8 (zi 7) (dC .none))) (dG (dBM fZ (zi 7) (zb (dC (.int 9)) zo))) aM) (aI (dOr (bC (aR (aE 3 zy (zb (zi 1) (zb (dSl cT (zi 4) cU (bH (zi 6))) (zb (dSl cT (zi 5) cU (bH (zi 6))) zo)))))) (bC (aR (aE 3 zy (zb (zi 1) (zb (dOp aN (dSl cT (zi 4) cU (bH (zi 6))) (aH (zb (dC (.int 0)) zo))) (zb (dSl cT (zi 5) cU (bH (zi 6))) zo))))))) (aB (dC (.bool false))) aM)))))))
end My
namespace My
open PySem L2
theorem seq1{t u:DS}{E:DEnds}{δ:XE}{S:Sto}(h:t { E with nx:=u E } δ S):aA t u E δ S:=h
theorem nJ(i j:Int):kv (.int i) (.int j)=decide (i=j):=rfl
theorem mO(i j:Bool):kv (.bool i) (.bool j)=decide (i=j):=by cases i<;>cases j<;>rfl
theorem nH(i:Int):ge (.int i)=true:=rfl
theorem mB(i:Bool):ge (.bool i)=true:=rfl
theorem m3:("int" ∈ f6)=True:=eq_true dz
theorem oR:("bool" ∈ f6)=True:=eq_true dz
theorem l6:("tuple" ∈ f6)=True:=eq_true dz
theorem k8:("list" ∈ f6)=True:=eq_true dz
end My
namespace My
open PySem L2
local macro_rules|`(tactic|walk_at $s:str)=>do
 let xs<-("aC jH iQ mL m7 gS m4 gK jK gE iO kX iE oF mK gZ nE all_cons List.all_nil Bool.and_self iR jN knT i3 lU gR gW k6 l8 oE lI nI lX hZ jQ n5 n8 fN l5 mM dP l7 cT zm zi dC dO dOp dUn zo zb dCB aH aP cK dB bC gO dOr cY oG hV dIf f9 dI dI0 dIb dUI bR dQ iY jM nP nM mH oZ nK mC kZ o0 nQ dFd aR mT cU bH dSl aO lH oH c8 gF gT dI2 gU dBM mE g8 fZ gM lW jE iC fW aE aW lE kE mU m6 mF lF asL nV lJ nG nR n6 lR nN nY nA n9 oJ lQ k9 lO lY nL aB aI dG aM i9 bY bA nZ l9 iA iT eM oX bF zV oW oK lG mV bI gJ bJ gY aK eK mZ jF oD mP lP mW List.replicate map_cons map_nil map_some Option.bind_some Option.bind_none Option.join_some getElem?_cons_zero getElem?_cons_succ set_cons_zero set_cons_succ List.take_succ_cons take_zero List.take_nil length_cons length_nil nil_append cons_append Option.some.injEq exists_eq_left' exists_eq_left List.cons.injEq XV.d.injEq XV.l.injEq XV.o.injEq PyData.int.injEq PyData.list.injEq PyData.tuple.injEq PyData.bool.injEq PyData.str.injEq and_true true_and decide_eq_true_eq Bool.not_true Bool.not_false Bool.false_eq_true Bool.true_eq_false not_true_eq_false not_false_eq_true decide_true decide_false Bool.not_eq_true' eZ decide_eq_false_iff_not Nat.reduceAdd Nat.reduceMul zero_add Nat.reduceLT Nat.reduceLeDiff Nat.reduceEqDiff Int.reduceLT Int.reduceLE Int.reduceNeg Int.reducePow Int.reduceToNat Int.reduceEq Int.reduceAdd Int.reduceSub Int.reduceMul le_refl zero_le length_append length_map nJ mO nH mB List.isEmpty_nil List.isEmpty_cons Int.cast_ofNat_Int Int.natCast_zero Int.natCast_one m3 oR l6 k8 lM mY oA mQ".splitOn " ").toArray.mapM fun n=>`(Lean.Parser.Tactic.simpLemma|$(Lean.mkIdent n.toName):ident)
 match s.getString with
 |"d"=>`(tactic|((try dsimp only[↓reduceIte,$xs,*]);(try simp only[↓reduceIte,$xs,*])))
 |"n"=>`(tactic|(refine seq1 ?_; walk_at "d"))
 |"dX"=>`(tactic|(try simp -implicitDefEqProofs only [↓reduceIte,$xs,*]))
 |"e"=>`(tactic|((try dsimp only[aA,↓reduceIte,$xs,*]);(try simp only[aA,↓reduceIte,$xs,*])))
 |_=>Lean.Macro.throwUnsupported
section
def FitI(F:Nat->Nat->Bool)(b k:Nat):Prop:=∀i j,b<=i->i<b+k->b<=j->j<b+k->F i j=true
inductive Gr (F:Nat->Nat->Bool) (n:Nat):Nat->List Nat->Prop
 |nil:Gr F n n []
 |cons {b k l}:1<=k->b+k<=n->FitI F b k->Gr F n (b+k) l->Gr F n b (k::l)
section
variable {F:Nat->Nat->Bool}{n:Nat}
theorem Gr.sum{b:Nat}{l:List Nat}(h:Gr F n b l):b+l.sum=n:=by
 induction h with
 |nil=>simp
 |cons h1 h2 _ _ ih=>rw[sr];omega
theorem Gr.pos{b:Nat}{l:List Nat}(h:Gr F n b l):∀k∈l,1<=k:=by
 induction h with
 |nil=>intro k m;cases m
 |cons h1 h2 _ _ ih=>
  intro k m;rcases mem_cons.mp m with rfl|m
  ·exact h1
  ·exact ih k m
theorem Gr.len{b:Nat}{l:List Nat}(h:Gr F n b l):b+l.length<=n:=by
 induction h with
 |nil=>simp
 |cons h1 h2 _ _ ih=>rw[im];omega
def ltS:List Nat->List Nat->Prop
 | [],[]=>False
 | [],_::_=>True
 |_::_,[]=>False
 |a::l,b::m=>a<b\/(a=b/\ltS l m)
structure MinG(F:Nat->Nat->Bool)(n b:Nat)(l:List Nat):Prop where
 g:Gr F n b l
 m:∀l',Gr F n b l'->l.length<l'.length\/(l.length=l'.length/\(l=l'\/ltS l l'))
def BestG(F:Nat->Nat->Bool)(n b:Nat):Option (List Nat)->Prop
 |some l=>MinG F n b l
 |none=>∀l,¬ Gr F n b l
def cands(F:Nat->Nat->Bool)(fit:Nat->Bool):Nat->List (Option (List Nat))->List (List Nat)
 |_,[]=>[]
 |z,o::r=>(match o with
   |some f=>if fit z=true then [z::f]else []
   |none=>[])++cands F fit (z+1) r
theorem nW{fit:Nat->Bool}:∀{G:List (Option (List Nat))}{z:Nat}{c:List Nat},c∈cands F fit z G↔∃k f,k<G.length/\G[k]?=some (some f)/\fit (z+k)=true/\c=(z+k)::f
 | [],z,c=>by
  constructor
  ·intro h;cases h
  ·rintro⟨k,f,h,_⟩;cases h
 |o::r,z,c=>by
  unfold cands;rw[rp,nW];constructor
  ·rintro(h|⟨k,f,h1,h2,h3,h4⟩)
   ·cases o with
    |none=>cases h
    |some f=>
     dsimp only at h;split at h
     ·rename_i hz;rw[oq]at h;exact⟨0,f,yv,rfl,hz,h⟩
     ·cases h
   ·exact⟨k+1,f,by simpa using h1,by simpa using h2,by rw[show z+(k+1)=z+1+k from by omega];exact h3,by rw[h4,show z+(k+1)=z+1+k from by omega]⟩
  ·rintro⟨k,f,h1,h2,h3,h4⟩;cases k with
   |zero=>
    left;rw[nc]at h2;cases h2;rw[sq]at h3 h4;dsimp only;rw[cu h3,h4];simp
   |succ k=>
    right;exact⟨k,f,by simpa using h1,by simpa using h2,by rw[show z+1+k=z+(k+1)from by omega];exact h3,by rw[h4,show z+(k+1)=z+1+k from by omega]⟩
theorem AI{fit:Nat->Bool}:∀{G:List (Option (List Nat))}{z:Nat},(cands F fit z G).Pairwise fun a b=>a.headD 0<b.headD 0
 | [],z=>List.Pairwise.nil
 |o::r,z=>by
  unfold cands;rw[List.pairwise_append];refine⟨?_,AI,fun a ma b mb=>?_⟩
  ·cases o with
   |none=>exact .nil
   |some f=>
    dsimp only;split
    ·exact List.pairwise_singleton _ _
    ·exact .nil
  ·obtain⟨k,f,_,_,_,rfl⟩:=nW.mp mb;cases o with
   |none=>cases ma
   |some f'=>
    dsimp only at ma;split at ma
    ·rw[oq]at ma;subst ma;show z<z+1+k;omega
    ·cases ma
def IsMn(c:List (List Nat))(o:Option (List Nat)):Prop:=match o with
 |none=>c=[]
 |some l=>∃i:Nat,c[i]?=some l/\∀(j:Nat) m,c[j]?=some m->l.length<=m.length/\(j<i->l.length<m.length)
theorem FA{G:List (Option (List Nat))}{b:Nat}{fit:Nat->Bool}{o:Option (List Nat)}(hb:b<n)(hl:G.length=n-b)(hG:∀k o',G[k]?=some o'->BestG F n (b+1+k) o')(hf:∀k,1<=k->b+k<=n->(fit k=true↔FitI F b k))(h:IsMn (cands F fit 1 G) o):BestG F n b o:=by
 have cg:∀c,c∈cands F fit 1 G->Gr F n b c:=fun c mc=>by
  obtain⟨k,f,h1,h2,h3,rfl⟩:=nW.mp mc;have hk:=hG k _ h2;have fk:=(hf (1+k) yw yw).mp h3;exact .cons yw yw fk (by rw[show b+(1+k)=b+1+k from by omega];exact hk.g)
 have gc:∀l',Gr F n b l'->∃k f r,l'=k::r/\1<=k/\k::f∈cands F fit 1 G/\MinG F n (b+k) f/\Gr F n (b+k) r:=fun l' g=>by
  cases g with
  |nil=>omega
  | @cons _ k r h1 h2 h3 h4=>
   have hk:k-1<G.length:=yw
   have e1:G[k-1]?=some G[k-1]:=cy hk;have hB:=hG _ _ e1;rw[show b+1+(k-1)=b+k from by omega]at hB;cases hx:G[k-1]with
   |none=>
    rw[hx]at hB;exact absurd h4 (hB r)
   |some f=>
    rw[hx]at hB e1;exact⟨k,f,r,rfl,h1,nW.mpr ⟨k-1,f,hk,e1,by rw[show 1+(k-1)=k from by omega];exact(hf k h1 h2).mpr h3,by rw[show 1+(k-1)=k from by omega]⟩,hB,h4⟩
 cases o with
 |none=>
  have h0:cands F fit 1 G=[]:=h;intro l' g;obtain⟨k,f,r,_,_,mc,_⟩:=gc l' g;rw[h0]at mc;cases mc
 |some l=>
  obtain⟨i,ei,hm⟩:=h;refine⟨cg l (bw ei),fun l' g=>?_⟩;obtain⟨k',f',r,rfl,k1,mc,mf,gr⟩:=gc l' g;obtain⟨j,ej⟩:=mem_iff_getElem?.mp mc;obtain⟨m1,m2⟩:=hm j _ ej;have fr:f'.length<=r.length:=by
   rcases mf.m r gr with z|⟨z,_⟩<;>omega
  rw[im]at m1 m2 ⊢;by_cases hlt:l.length<r.length+1
  ·exact .inl hlt
  ·have e:l.length=r.length+1:=yw
   refine .inr ⟨e,?_⟩;obtain⟨k,f,_,h2,_,aa⟩:=nW.mp (bw ei);have pw:=List.pairwise_iff_getElem.mp (AI (F:=F) (fit:=fit) (G:=G) (z:=1));have ii:=(List.getElem?_eq_some_iff.mp ei).1;have jj:=(List.getElem?_eq_some_iff.mp ej).1;have gi:=(List.getElem?_eq_some_iff.mp ei).2;have gj:=(List.getElem?_eq_some_iff.mp ej).2;rcases Nat.lt_trichotomy j i with z|z|z
   ·have:=m2 z;omega
   ·subst z;rw[ei]at ej;cases ej;rcases mf.m r gr with y|⟨_,rfl|y⟩
    ·rw[im]at e;omega
    ·exact .inl rfl
    ·exact .inr (.inr ⟨rfl,y⟩)
   ·have:=pw i j ii jj z;rw[gi,gj]at this;subst aa;exact .inr (.inl this)
end
theorem qN:∀{a b:List Int},a.Perm b->a.Pairwise (· <= ·)->b.Pairwise (· <= ·)->a=b
 | [],b,p,_,_=>(List.nil_perm.mp p).symm
 |x::a,[],p,_,_=>by have:=p.length_eq;simp at this
 |x::a,y::b,p,h1,h2=>by
  rw[List.pairwise_cons]at h1 h2;have mx:x∈y::b:=p.mem_iff.mp iq;have my:y∈x::a:=p.mem_iff.mpr iq;have e:x=y:=by
   rcases mem_cons.mp mx with e|e
   ·exact e
   ·rcases mem_cons.mp my with e2|e2
    ·exact e2.symm
    ·have:=h1.1 y e2;have:=h2.1 x e;omega
  subst e;rw[qN ((List.perm_cons x).mp p) h1.2 h2.2]
theorem Cz{a b:List Int}(p:a.Perm b)(h1:a.Pairwise (· ≥ ·))(h2:b.Pairwise (· ≥ ·)):a=b:=by
 have:=qN (a:=a.reverse) (b:=b.reverse) ((qb a).trans (p.trans (qb b).symm)) (List.pairwise_reverse.mpr h1) (List.pairwise_reverse.mpr h2);have e:=congrArg List.reverse this;simpa using e
end
section
abbrev Mt:=List (Nat×Nat)
def fmL(f:Nat->Mt->List Nat->Bool×Mt×List Nat)(i:Nat):List Nat->Mt->List Nat->Bool×Mt×List Nat
 | [],M,a=>(false,M,a)
 |j::js,M,a=>
  if j∈a then fmL f i js M a
  else match lkA M j with
   |none=>(true,ptA M j i,a++[j])
   |some i2=>if (f i2 M (a++[j])).1=true then (true,ptA (f i2 M (a++[j])).2.1 j i,(f i2 M (a++[j])).2.2)else fmL f i js (f i2 M (a++[j])).2.1 (f i2 M (a++[j])).2.2
def GE(y:List (List Nat))(i:Nat):List Nat:=y.getD i []
def fm(y:List (List Nat)):Nat->Nat->Mt->List Nat->Bool×Mt×List Nat
 | 0,_,M,a=>(false,M,a)
 |n+1,i,M,a=>fmL (fm y n) i (GE y i) M a
def mmN(y:List (List Nat))(n:Nat):Nat->Mt
 | 0=>[]
 |k+1=>(fm y n k (mmN y n k) []).2.1
def frR(u:List Nat)(r:List Nat):List Nat:=r.filter fun j=>decide (j∉u)
def frs8(u:List Nat)(y:List (List Nat)):List (List Nat):=y.map (frR u)
def nu(n:Nat)(y:List (List Nat)):Nat:=(mmN y n y.length).length
def gr(n:Nat):List (List Nat)->Nat->List Nat->Nat->List (Nat×Nat)
 | [],_,_,_=>[]
 |r::rs,i,u,w=>match (frR u r).find? fun j=>decide (nu n (frs8 (u++[j]) rs)+1=w)with
  |some j=>(i,j)::gr n rs (i+1) (u++[j]) (w-1)
  |none=>gr n rs (i+1) u w
end
section
variable {R:RX}
theorem BG{n:Int}(q:∀m,0<=m->R (.d (.int m)) []):mG [.d (.int n)] [] R:=by
 unfold mG;walk_at "e";have h1:=Int.emod_nonneg (n+7919) (show (2147483647:Int)≠0 by decide);have h2:=Int.emod_lt_of_pos (n+7919) (show (0:Int)<2147483647 by decide);exact⟨dX yw yw,dX dz dz,q _ (Int.emod_nonneg _ dz)⟩
theorem eL{p:List bv}{n:Int}(hp:cE p)(hn:0<n)(hb:n.natAbs.log2<9000)(q:∀r p',0<=r->r<n->cE p'->R (.d (.int r)) [p']):zF [.l 0,.d (.int n)] [p] R:=by
 obtain⟨l,g,sd,rfl,hl⟩:=hp;unfold zF;walk_at "e";split
 ·refine⟨hn,.inl ⟨⟨hn,hb⟩,0,rfl,?_⟩⟩;walk_at "e";exact q _ _ (Int.emod_nonneg _ yw) (Int.emod_lt_of_pos _ hn) ⟨_,_,_,rfl,Int.ediv_nonneg hl yw⟩
 ·refine BG fun m _=>?_;walk_at "e";refine BG fun m' h'=>?_;walk_at "e";refine⟨2,rfl,?_⟩;walk_at "e";exact .inl ⟨⟨by decide,by decide +kernel⟩,hn,q _ _ (Int.emod_nonneg _ yw) (Int.emod_lt_of_pos _ hn) ⟨_,_,_,rfl,hl⟩⟩
theorem HW{n:Int}(q:∀p,cE p->R (.l 0) [p]):Bu [.d (.int n)] [] R:=by
 unfold Bu;walk_at "e";refine⟨⟨by decide,by decide,by decide⟩,?_⟩;refine .inr (q _ ⟨_,_,_,rfl,?_⟩);split<;>omega
theorem Fv{n:Int}(q:∀p,cE p->R (.l 0) [p]):rO [.d (.int n)] [] R:=HW q
theorem F5{p:List bv}(hp:cE p)(q:∀r p',-10 ^ 58<=r->r<=10 ^ 58->cE p'->R (.d (.int r)) [p']):y4 [.l 0] [p] R:=by
 unfold y4;walk_at "e";refine eL hp dz (by decide +kernel) fun r p1 r0 r1 aa=>?_;walk_at "e";split
 ·refine eL aa dz (by decide +kernel) fun r p2 r0 r1 y=>?_;walk_at "e";exact q _ _ yw yw y
 ·split
  ·refine eL aa dz (by decide +kernel) fun r p2 r0 r1 y=>?_;walk_at "e";exact q _ _ yw yw y
  ·refine⟨⟨by decide,by decide,by decide⟩,dX dz dz,?_⟩;have k1:(10:Int) ^ 30=1000000000000000000000000000000:=by decide +kernel
   have k2:(10:Int) ^ 28=10000000000000000000000000000:=by decide +kernel
   refine eL aa (by decide +kernel) (by decide +kernel) fun r p2 r0 r1 y=>?_;walk_at "e"
   try simp only[k1,k2]at r1 ⊢
   refine⟨⟨by decide,by decide,by decide⟩,⟨by decide,by decide,by decide⟩,Hs 128 128 yw (by decide +kernel),q _ _ yw yw y⟩
theorem yM{p:List bv}(hp:cE p)(q:∀r p',-10 ^ 58<=r->r<=10 ^ 58->cE p'->R (.d (.int r)) [p']):pW [.l 0] [p] R:=F5 hp q
end
section
variable {R:RX}
set_option maxHeartbeats 8000000 in
abbrev Part:=Str×Int×Int
theorem B5{α:Type}{f:α->bv}{l:List α}{k:Nat}{x:α}(e:l[k]?=some x):atI (l.map f) (k:Int)=some (f x):=jD (by rw[gx,e];rfl)
end
section
variable {R:RX}{S:Sto}
abbrev Term:=Nat×Int
def tmD(t:Term):bv:=.tuple [.int t.1,.int t.2]
def i6(ts:List Term):bv:=.tuple (ts.map tmD)
structure Gap where
 ts:List Term
 lo:Int
 hi:Int
def aJ(g:Gap):bv:=.tuple [i6 g.ts,.int g.lo,.int g.hi]
theorem jT(g:Gap):aJ g=.tuple [i6 g.ts,.int g.lo,.int g.hi]:=rfl
theorem y8(t:Term):tmD t=.tuple [.int t.1,.int t.2]:=rfl
def aF(ns:List Int):bv:=.tuple (ns.map cq)
structure Tm3(n:Nat)(ts:List Term):Prop where
 len:ts.length<=100
 ok:∀t∈ts,t.1<n/\-3<=t.2/\t.2<=3
def worth(ts:List Term)(ns:List Int):Int:=(ts.map fun t=>t.2*ns.getD t.1 0).sum
theorem G3{ns:List Int}{k:Nat}(h:k<ns.length):ns[k]?=some (ns.getD k 0):=by
 rw[cy h,gy,cy h];rfl
def part(ps:List Part)(k:Nat):Part:=ps.getD k ("",0,0)
theorem jW{α:Type}{f:α->bv}{l:List α}{i:Nat}{d:bv}(h:(l.map f)[i]?=some d):∃x,l[i]?=some x/\d=f x:=by
 rw[gx]at h;obtain⟨x,e,rfl⟩:=map_eq_some_iff.mp h;exact⟨x,e,rfl⟩
theorem tY{ds:List bv}{r:Int}{P:bv->Prop}(h0:0<=r)(h1:r<ds.length)(hP:∀d∈ds,P d):∃d,atI ds r=some d/\P d:=by
 obtain⟨k,rfl⟩:=Int.eq_ofNat_of_zero_le h0;have hk:k<ds.length:=yw
 exact⟨ds[k],jD (cy hk),hP _ (getElem_mem hk)⟩
theorem uM{g:DG}{te:DE}{fin:Sto->Prop}{α:Type}(F:α->Prop)(f:α->bv)(P:XE->Prop):∀(ds:List bv) (acc:List α) (p:List bv) (τ:XE),P τ->cE p->acc.length+ds.length<=1000 ->
  (∀d∈ds,∀ τ p acc (R:XE->RX),P τ->cE p->(∀ τ' x p',P τ'->cE p'->F x->R τ' (.d (f x)) [p',acc])->g (.d d) τ [p,acc] fun τ1 S1=>te τ1 S1 (R τ1)) ->
  (∀xs p',cE p'->(∀x∈xs,F x)->xs.length=ds.length->fin [p',(acc++xs).map f])->aY 1 g aK te fin ds τ [p,acc.map f]
 | [],acc,p,τ,_,hp,_,_,h=>by
  have:=h [] p hp yv rfl;rw[km]at this;exact this
 |d::ds,acc,p,τ,hP,hp,hl,el,h=>by
  show g (.d d) τ [p,acc.map f] fun τ1 S1=>aK τ1 S1 fun b S2=>if b=true then te τ1 S2 fun x S3=>asD x fun e=>∃acc,S3[1]?=some acc/\acc.length<1000/\aY 1 g aK te fin ds τ1 (S3.set 1 (acc++[e]))else aY 1 g aK te fin ds τ1 S2
  simp only[aK,↓reduceIte];rw[im]at hl;refine el d iq τ p (acc.map f) (fun τ1 x S3=>asD x fun e=>∃acc,S3[1]?=some acc/\acc.length<1000/\aY 1 g aK te fin ds τ1 (S3.set 1 (acc++[e]))) hP hp fun τ' x p' aa ac hF=>?_;refine⟨acc.map f,rfl,by rw[fj];omega,?_⟩;have e:([p',acc.map f]:Sto).set 1 (acc.map f++[f x])=[p',(acc++[x]).map f]:=by simp
  rw[e];refine uM F f P ds (acc++[x]) p' τ' aa ac (by rw[fx,jg];omega) (fun e m=>el e (fu _ m)) fun xs p'' hp'' fs hl=>?_;rw[ly];exact h (x::xs) p'' hp'' (fun y m=>(mem_cons.mp m).elim (fun e=>e▸hF) (fs y)) (by simp[hl])
end
section
variable {R:RX}{S:Sto}
theorem IS{g:Gap}{ns:List Int}(h3:Tm3 ns.length g.ts)(q:R (.d (.int (worth g.ts ns))) []):pT [.d (aJ g),.d (aF ns)] [] R:=by
 unfold pT aF;rw[jT,i6];walk_at "e";refine cmp2 (S0:=[]) (fun t:Term=>.int (t.2*ns.getD t.1 0)) rfl g.ts (by have:=h3.len;omega) ?_ ?_
 ·intro t mt u v acc R' hk;obtain⟨t1,t2,t3⟩:=h3.ok t mt;have e:=B5 (f:=cq) (G3 t1);rw[y8];walk_at "e";refine⟨_,e,?_⟩;walk_at "e";exact⟨dX yw yw,hk _ _⟩
 ·walk_at "e";refine⟨g.ts.map fun t:Term=>t.2*ns.getD t.1 0,by rw[mo];rfl,q⟩
def bK(g:Gap)(ns:List Int):Bool:=decide (g.lo<=worth g.ts ns/\worth g.ts ns<=g.hi)
theorem FO{g:Gap}{ns:List Int}(h3:Tm3 ns.length g.ts)(q:R (.d (.bool (bK g ns))) []):pI [.d (aJ g),.d (aF ns)] [] R:=by
 unfold pI;walk_at "e";rw[jT];walk_at "e";rw[<- jT];refine IS h3 ?_;walk_at "e";unfold bK at q;by_cases h:g.lo<=worth g.ts ns
 ·simp only[h,true_and]at q;rw[cu h];exact q
 ·simp only[h,false_and,decide_false]at q;rw[cn h];exact q
end
section
variable {R:RX}{S:Sto}
def tH:bv->Bool
 | .int _=>true
 |_=>false
theorem Ij{d:bv}(q:R (.d (.bool (tH d))) []):pD [.d d] [] R:=by
 unfold pD;cases d<;>(walk_at "e";exact q)
end
section
variable {R:RX}{S:Sto}
def rng(lo:Int)(n:Nat):List Int:=(ir n).map fun k:Nat=>lo+k
def EQ(p:Part):List Int:=rng p.2.1 (p.2.2-p.2.1+1).toNat
def ext(y:List (List Int))(p:Part):List (List Int):=y.flatMap fun a=>(EQ p).map fun x=>a++[x]
end
section
variable {R:RX}{S:Sto}
theorem rep1{base:Int}{n:Nat}:(bu n [cq base]).flatten=(bu n base).map cq:=by
 induction n with
 |zero=>rfl
 |succ n ih=>rw[lw,sf,ih,lw,kq];rfl
theorem BN{p:List bv}{m base y:Int}(hp:cE p)(m0:0<=m)(m1:m<=100)(w0:0<y)(w1:y<=1000)(q:∀(b:List Int) p',(b.length:Int)<=m->(∀x∈b,base<=x/\x<base+y)->cE p'->R (.d (aF b)) [p']):mX [.l 0,.d (.int m),.d (.int base),.d (.int y)] [p] R:=by
 unfold mX;walk_at "d"
 walk_at "n"
 refine eL hp yw (uC yw yw) fun r p1 r0 r1 ae=>?_;walk_at "d"
 walk_at "n"
 refine eL ae dz (by decide +kernel) fun r2 p2 r3 r4 aa=>?_;walk_at "d";split
 ·refine⟨yv,yw,yw,yw,?_⟩;rw[rep1];exact q (bu r.toNat base) p2 (by rw[mv];omega) (fun x m=>by rw[List.mem_replicate]at m;omega) aa
 ·refine uM (α:=Int) (fun x=>base<=x/\x<base+y) cq (fun τ=>∃u,τ=[u,some (.d (.int base)),some (.l 0),some (.d (.int y))]) _ [] p2 _ ⟨_,rfl⟩ aa (by rw[jI];simp;omega) ?_ ?_
  ·rintro d md _ p acc R' ⟨u,rfl⟩ hp hk;walk_at "d";refine eL hp w0 (uC w0 yw) fun r p' r0 r1 af=>?_;walk_at "d";exact hk _ _ p' ⟨_,rfl⟩ af ⟨yw,yw⟩
  ·intro ws p3 ac hw hl;rw[jI]at hl;walk_at "d";exact q ws p3 yw hw ac
structure Tim(s:Int):Prop where
 ne:s≠0
 lo:-3<=s
 hi:s<=3
structure Gp2(g:Gap)(s t:Int):Prop where
 ts:g.ts=[(0,s),(1,t)]
 s3:Tim s
 t3:Tim t
 le:g.lo<=g.hi
 lo:-10 ^ 60<=g.lo
 hi:g.hi<=10 ^ 60
structure Bx(b:List Int):Prop where
 l10:b.length<=10
 lo:∀x∈b,-10 ^ 59<=x
 hi:∀x∈b,x<=10 ^ 59
theorem Tim.mul{s a:Int}(h:Tim s)(h1:-10 ^ 58<=a)(h2:a<=10 ^ 58):-(3*10 ^ 58)<=s*a/\s*a<=3*10 ^ 58:=by
 have:s = -3\/s = -2\/s = -1\/s=0\/s=1\/s=2\/s=3:=by have:=h.lo;have:=h.hi;omega
 rcases this with rfl|rfl|rfl|rfl|rfl|rfl|rfl<;>omega
theorem IL{p:List bv}{m:Int}(hp:cE p)(m0:0<=m)(m1:m<=10)(q:∀(g:Gap) (s t:Int) (one other:List Int) p',Gp2 g s t->Bx one->Bx other->(one.length:Int)<=m->(other.length:Int)<=m->(-10 ^ 59<=g.lo/\g.hi<=10 ^ 59)->cE p'->R (.d (.tuple [aJ g,aF one,aF other])) [p']):qV [.l 0,.d (.int m)] [p] R:=by
 unfold qV;walk_at "dX"
 (refine seq1 ?_;walk_at "dX")
 refine yM hp fun a p1 a1 a2 ah=>?_;walk_at "dX";refine yM ah fun b p2 b1 b2 af=>?_;walk_at "dX"
 (refine seq1 ?_;walk_at "dX")
 refine eL af dz (by decide +kernel) fun r p3 r0 r1 ak=>?_;walk_at "dX";obtain⟨d,ed,w,rfl,w0,w1⟩:=tY (P:=fun d=>∃w:Int,d=.int w/\0<w/\w<=40) (ds:=[cq 1,.int 3,.int 8,.int 40]) r0 r1 (by
  intro d m;simp only[lz,lg,or_false]at m;rcases m with rfl|rfl|rfl|rfl<;>exact⟨_,rfl,by decide,by decide⟩)
 refine⟨_,ed,?_⟩;walk_at "dX"
 (refine seq1 ?_;walk_at "dX")
 have ae:∀d∈[cq 1,.int (-1),.int 2,.int (-2),.int 3,.int (-3)],∃s:Int,d=.int s/\Tim s:=by
  intro d m;simp only[lz,lg,or_false]at m;rcases m with rfl|rfl|rfl|rfl|rfl|rfl<;>exact⟨_,rfl,by decide,by decide,by decide⟩
 refine uM (α:=Int) Tim cq (fun τ=>∃u,τ=[u,some (.l 0)]) _ [] p3 _ ⟨_,rfl⟩ ak (by rw[jI];decide) ?_ ?_
 ·rintro d md _ p acc R' ⟨u,rfl⟩ hp hk;walk_at "dX";refine eL hp dz (by decide +kernel) fun r p' r0 r1 ao=>?_;obtain⟨d,ed,s,rfl,hs⟩:=tY (ds:=[cq 1,.int (-1),.int 2,.int (-2),.int 3,.int (-3)]) r0 r1 ae;walk_at "dX";exact⟨_,ed,hk _ _ p' ⟨_,rfl⟩ ao hs⟩
 intro ss p4 aj y hl;rw[jI]at hl;obtain⟨s,t,rfl⟩:∃s t,ss=[s,t]:=by
  match ss,hl with
  | [s,t],_=>exact⟨s,t,rfl⟩
 have hs:=y s yv;have ht:=y t yv;rw[nil_append];walk_at "dX"
 (refine seq1 ?_;walk_at "dX")
 have f0:0<(if s<0 then -s else s)+(if t<0 then -t else t):=by
  have:=hs.ne;split<;>split<;>omega
 have f1:(if s<0 then -s else s)+(if t<0 then -t else t)<=6:=by
  have:=hs.lo;have:=hs.hi;have:=ht.lo;have:=ht.hi;split<;>split<;>omega
 generalize hF:(if s<0 then -s else s)+(if t<0 then -t else t)=F at f0 f1 ⊢;refine⟨Ah yw yw,?_⟩;have aa:0<w*F:=Int.mul_pos w0 f0;have ac:w*F<=40*6:=Int.mul_le_mul w1 f1 yw yw;generalize hfar:w*F=far at aa ac ⊢
 (refine seq1 ?_;walk_at "dX")
 have sa:=hs.mul a1 a2;have tb:=ht.mul b1 b2;have ar:(10:Int) ^ 59=10*10 ^ 58:=by decide
 have au:(10:Int) ^ 60=100*10 ^ 58:=by decide
 have k0:(1000:Int)<10 ^ 58:=by decide
 have ap:=hs.lo;have aq:=hs.hi;have av:=ht.lo;have aw:=ht.hi;refine⟨dX yw yw,dX yw yw,dX dz dz,?_⟩;generalize s*a=sa' at sa ⊢;generalize t*b=tb' at tb ⊢;refine eL aj yw (uC yw yw) fun r2 p5 r3 r4 am=>?_;walk_at "dX";generalize hlo:sa'+tb'+r2-far=lo
 (refine seq1 ?_;walk_at "dX")
 refine⟨dX dz dz,?_⟩;refine eL am dz (by decide +kernel) fun r5 p6 r6 r7 ai=>?_;obtain⟨d,ag,u,rfl,u0,u1⟩:=tY (P:=fun d=>∃w:Int,d=.int w/\0<=w/\w<=1000) (ds:=[cq 0,.int 1,.int 2,.int w,.int far,.int (3*w)]) r6 r7 (by
  intro d m;simp only[lz,lg,or_false]at m;rcases m with rfl|rfl|rfl|rfl|rfl|rfl<;>exact⟨_,rfl,yw,yw⟩)
 walk_at "dX";refine⟨_,ag,?_⟩;walk_at "dX"
 (refine seq1 ?_;walk_at "dX")
 refine BN ai m0 yw w0 yw fun one p7 o1 o2 an=>?_;walk_at "dX";refine BN an m0 yw w0 yw fun other p8 o3 o4 al=>?_;walk_at "dX";exact q ⟨[(0,s),(1,t)],lo,lo+u⟩ s t one other p8 ⟨rfl,hs,ht,by show lo<=lo+u;omega,by show _<=lo;omega,by show lo+u<=_;omega⟩ ⟨yw,fun x m=>by have:=o2 x m;omega,fun x m=>by have:=o2 x m;omega⟩ ⟨yw,fun x m=>by have:=o4 x m;omega,fun x m=>by have:=o4 x m;omega⟩ o1 o3 ⟨by show _<=lo;omega,by show lo+u<=_;omega⟩ al
end
section
variable {R:RX}{S:Sto}
theorem zz(ns:List Int):aF ns=.tuple (ns.map cq):=rfl
end
section
variable {R:RX}{S:Sto}
theorem pN{α:Type}(f:α->bv)(l:List α)(z:α):dU 0 (l.map f)=(ir l.length).map fun j=>.tuple [.int (j:Nat),f (l.getD j z)]:=by
 apply ext_getElem?;intro i;rw[gx];by_cases h:i<l.length
 ·obtain⟨d,hd⟩:∃d,(dU 0 (l.map f))[i]?=some d:=⟨_,cy (by rw[kL,fj];exact h)⟩;obtain⟨e,h1,h2⟩:=iM _ _ _ _ hd;rw[gx,cy h]at h1;rw[hd,h2,rn h];simp only[map_some,Option.some.injEq]at h1 ⊢;rw[<- h1,zero_add,gy,cy h];rfl
 ·rw[lh (by rw[kL,fj];omega),lh (by rw[jw];omega)];rfl
theorem Gp2.tm{g:Gap}{s t x y:Int}(h:Gp2 g s t):Tm3 [x,y].length g.ts:=by
 have hs:=h.s3;have ht:=h.t3;rw[h.ts];refine⟨yv,fun u m=>?_⟩;simp only[lz,lg,or_false]at m;rcases m with rfl|rfl
 ·exact⟨yv,hs.lo,hs.hi⟩
 ·exact⟨yv,ht.lo,ht.hi⟩
def dS(g:Gap)(x:Int)(other:List Int):List Nat:=(ir other.length).filter fun j=>bK g [x,other.getD j 0]
def bL(c:List Nat):bv:=.list (c.map fun k:Nat=>.int k)
theorem eE(c:List Nat):bL c=.list (c.map fun k:Nat=>.int k):=rfl
theorem EM{g:Gap}{s t x:Int}{other:List Int}{d2:bv}(e2:cH (.d d2)=some (other.map cq))(hg:Gp2 g s t)(hb:other.length<=1000)(q:R (.d (bL (dS g x other))) []\/R (.l 0) [(dS g x other).map fun k:Nat=>.int k]):pY [.d (aJ g),.d (.int x),.d d2] [] R:=by
 unfold pY;walk_at "d";refine⟨_,e2,?_⟩;rw[pN cq other 0];refine cmf2 (S0:=[]) (fun j:Nat=>.int j) (fun j=>bK g [x,other.getD j 0]) rfl (ir other.length) (by rw[jw];exact hb) ?_ ?_
 ·intro j mj u v acc R' hk;walk_at "d";refine FO (ns:=[x,other.getD j 0]) hg.tm ?_;walk_at "d";refine hk _ _ fun _ T hT=>?_;walk_at "d";exact hT
 ·walk_at "d";exact q
theorem Hd{g:Gap}{s t:Int}{one other:List Int}{d1 d2:bv}(e1:cH (.d d1)=some (one.map cq))(e2:cH (.d d2)=some (other.map cq))(hg:Gp2 g s t)(h1:one.length<=1000)(h2:other.length<=1000)(q:R (.d (.list (one.map fun x=>bL (dS g x other)))) []\/R (.l 0) [one.map fun x=>bL (dS g x other)]):pO [.d (aJ g),.d d1,.d d2] [] R:=by
 unfold pO;walk_at "d";refine⟨_,e1,?_⟩;refine cmp1 (S0:=[]) (fun x=>bL (dS g x other)) rfl one h1 ?_ ?_
 ·intro x mx u acc R' hk;walk_at "d";refine EM e2 hg h2 (.inl ?_);walk_at "d";exact hk _
 ·walk_at "d";exact q
abbrev Pr:=Nat×Nat
def prD(p:Pr):bv:=.tuple [.int p.1,.int p.2]
def jA(g:Gap)(one other:List Int)(i:Nat):List Pr:=(dS g (one.getD i 0) other).map fun j=>(i,j)
def prs(g:Gap)(one other:List Int):List Pr:=(ir one.length).flatMap (jA g one other)
theorem rX{g:Gap}{x:Int}{other:List Int}:(dS g x other).length<=other.length:=lu (List.length_filter_le _ _) (by rw[jw];exact dw _)
theorem BZ{g:Gap}{one other:List Int}:∀n:Nat,((ir n).flatMap (jA g one other)).length<=n*other.length
 | 0=>by simp
 |n+1=>by
  have:=BZ (g:=g) (one:=one) (other:=other) n;have h2:=rX (g:=g) (x:=one.getD n 0) (other:=other);rw[List.range_succ,List.flatMap_append,fx,List.flatMap_singleton,Nat.add_mul,Nat.one_mul];unfold jA at this ⊢;rw[fj];omega
theorem Db{g:Gap}{s t:Int}{one other:List Int}{d1 d2:bv}(e1:cH (.d d1)=some (one.map cq))(e2:cH (.d d2)=some (other.map cq))(hg:Gp2 g s t)(h1:one.length<=30)(h2:other.length<=30)(q:R (.d (.list ((prs g one other).map prD))) []\/R (.l 0) [(prs g one other).map prD]):qA [.d (aJ g),.d d1,.d d2] [] R:=by
 unfold qA;walk_at "d"
 walk_at "n"
 walk_at "n";refine Hd e1 e2 hg yw yw (.inl ?_);walk_at "d";rw[pN (fun x=>bL (dS g x other)) one 0];refine eY (fun i δ S=>∃(u v:Option XV),S=[((ir i).flatMap (jA g one other)).map prD]/\δ=[some (.d (aJ g)),some (.d d1),some (.d d2),some (.l 0),u,v]) ⟨_,_,rfl,rfl⟩ ?_ ?_
 ·rintro i d _ _ N hi ⟨u,v,rfl,rfl⟩ hN;obtain⟨j,e,rfl⟩:=jW hi;have il:i<one.length:=by simpa using (List.getElem?_eq_some_iff.mp e).1
  have ej:i=j:=by simpa[rn il]using e
  subst ej;have fl:=rX (g:=g) (x:=one.getD i 0) (other:=other);have pl:=BZ (g:=g) (one:=one) (other:=other) i;have pm:i*other.length<=30*30:=Nat.mul_le_mul yw h2;rw[eE];walk_at "d";refine cmp1 (S0:=[((ir i).flatMap (jA g one other)).map prD]) (fun k:Nat=>prD (i,k)) rfl (dS g (one.getD i 0) other) yw ?_ ?_
  ·intro k mk u acc R' hk;walk_at "d";exact hk _
  ·walk_at "d";refine⟨yw,hN _ _ ⟨_,_,?_,rfl⟩⟩;rw[List.range_succ,List.flatMap_append,List.flatMap_singleton,map_append];unfold jA;rw[mo];rfl
 ·rintro _ _ ⟨u,v,rfl,rfl⟩;rw[fj,jw];walk_at "d";exact q
end
section
variable {R:RX}{S:Sto}
theorem vR{b:List Int}{j:Nat}(h:j<b.length):atI (b.map cq) (j:Int)=some (.int (b.getD j 0)):=B5 (f:=cq) (by rw[gy,cy h];rfl)
end
section
variable {R:RX}{S:Sto}
theorem Bh{d:bv}(q:R (.d (.bool (tH d))) []):lZ [.d d] [] R:=by
 unfold lZ;cases d<;>(walk_at "e";exact q)
theorem worth2{g:Gap}{s t x y:Int}(h:Gp2 g s t):worth g.ts [x,y]=s*x+t*y:=by
 rw[h.ts];simp[worth]
theorem ES{g:Gap}{s t x y:Int}(hg:Gp2 g s t)(q:R (.d (.bool (bK g [x,y]))) []):rC [.d (aJ g),.d (.int x),.d (.int y)] [] R:=by
 have hs:=hg.s3;have ht:=hg.t3;have s1:=hs.lo;have s2:=hs.hi;have t1:=ht.lo;have t2:=ht.hi;unfold rC aJ i6;unfold bK at q;rw[worth2 hg]at q;rw[hg.ts];walk_at "d"
 walk_at "n"
 unfold tmD;walk_at "d";refine⟨dX yw yw,dX yw yw,?_⟩;split
 ·rename_i h;have e:decide (g.lo<=s*x+t*y/\s*x+t*y<=g.hi)=decide (s*x+t*y<=g.hi):=by simp[h]
  rw[e]at q;exact q
 ·rename_i h;have e:decide (g.lo<=s*x+t*y/\s*x+t*y<=g.hi)=false:=by simp[h]
  rw[e]at q;exact q
theorem len2{ds:List bv}(h:ds.length=2):∃x y,ds=[x,y]:=by
 match ds,h with
 | [x,y],_=>exact⟨x,y,rfl⟩
end
section
variable {R:RX}{S:Sto}
theorem shN(u:List Nat):ge (.list (u.map fun k:Nat=>cq k))=true:=(kP (jG fun _ _=>(jX:Shp 0 _))).ok
end
section
variable {R:RX}{S:Sto}
theorem pL{α β:Type}{f:α->β}{l:List α}{b k:Nat}:cN (l.map f) (some (b:Nat)) (some ((b:Int)+(k:Nat)))=((l.drop b).take k).map f:=by
 have hs:∀(i d:Nat),HT.sIx (l.map f).length d (some (i:Nat))=min i (l.map f).length:=fun i d=>by
  unfold HT.sIx;simp;omega
 unfold cN;rw[show ((b:Int)+(k:Nat))=((b+k:Nat):Int)from by omega,hs,hs,<- map_drop,<- map_take,fj];congr 1;by_cases h:b<=l.length
 ·rw[min_eq_left h];by_cases h2:b+k<=l.length
  ·rw[min_eq_left h2,show b+k-b=k from by omega]
  ·rw[Nat.min_eq_right yw,ko (by rw[rk];omega),ko (by rw[rk];omega)]
 ·rw[Nat.min_eq_right yw,Nat.min_eq_right yw,drop_length,List.drop_eq_nil_of_le (show l.length<=b by omega)];simp
def cI(g:Gap)(xs ys:List Int):Bool:=xs.all fun x=>ys.all fun y=>bK g [x,y]
theorem HF{α:Type}{p:α->Bool}:∀{l:List α},(l.filter p).length=l.length↔l.all p=true
 |l=>by
  rw[nq];constructor
  ·intro h;have:=List.filter_sublist (p:=p) (l:=l) |>.eq_of_length h
   exact List.filter_eq_self.mp this
  ·intro h;rw[List.filter_eq_self.mpr h]
theorem IA{g:Gap}{x:Int}{ys:List Int}:(dS g x ys).length=ys.length↔(ys.all fun y=>bK g [x,y])=true:=by
 have e:((ir ys.length).filter fun j=>bK g [x,ys.getD j 0]).length=(ir ys.length).length↔((ir ys.length).all fun j=>bK g [x,ys.getD j 0])=true:=HF;unfold dS;rw[jw]at e;rw[e,nq,nq];constructor
 ·intro h y my;obtain⟨j,hj,rfl⟩:=List.mem_iff_getElem.mp my;have:=h j (mem_range.mpr hj)
  rwa [gy,cy hj]at this
 ·intro h j mj;have hj:=mem_range.mp mj;rw[gy,cy hj];exact h _ (getElem_mem hj)
theorem DW{g:Gap}{ys:List Int}:∀xs:List Int,(prs g xs ys).length<=xs.length*ys.length/\((prs g xs ys).length=xs.length*ys.length↔cI g xs ys=true):=by
 have key:∀(xs:List Int),(prs g xs ys).length=(xs.map fun x=>(dS g x ys).length).sum:=fun xs=>by
  unfold prs;rw[List.length_flatMap];congr 1;apply ext_getElem?;intro i;rw[gx,gx];by_cases h:i<xs.length
  ·rw[rn h,cy h];simp only[map_some,Option.some.injEq];unfold jA;rw[fj,gy,cy h];rfl
  ·rw[lh (by rw[jw];omega),lh yw];rfl
 intro xs;rw[key];induction xs with
 |nil=>simp[cI]
 |cons x xs ih=>
  have fl:=rX (g:=g) (x:=x) (other:=ys);have fa:=IA (g:=g) (x:=x) (ys:=ys);rw[kq,sr,im,Nat.add_mul,Nat.one_mul];refine⟨yw,?_⟩;have ea:cI g (x::xs) ys=((ys.all fun y=>bK g [x,y])&&cI g xs ys):=rfl;rw[ea,ki,<- fa,<- ih.2];have:=ih.1;omega
theorem Ei{g:Gap}{s t:Int}{xs ys:List Int}(hg:Gp2 g s t)(h1:xs.length<=30)(h2:ys.length<=30)(q:R (.d (.bool (cI g xs ys))) []):rD [.d (aJ g),.d (.list (xs.map cq)),.d (.list (ys.map cq))] [] R:=by
 unfold rD;walk_at "d";refine Db (one:=xs) (other:=ys) rfl rfl hg h1 h2 (.inl ?_);walk_at "d";refine⟨Ah yw yw,?_⟩;obtain⟨p1,p2⟩:=DW (g:=g) (ys:=ys) xs;rw[show decide (((prs g xs ys).length:Int)=(xs.length:Int)*(ys.length:Int))=cI g xs ys from ?_]
 ·exact q
 ·rw[qv,<- p2,decide_eq_true_eq,<- Int.natCast_mul,Int.natCast_inj]
structure Rws(g:Gap)(s t:Int)(one other A B:List Int):Prop where
 pa:A.Perm one
 pb:B.Perm other
 sa:A.Pairwise (· <= ·)
 sb:if s*t<0 then B.Pairwise (· <= ·)else B.Pairwise (· ≥ ·)
theorem Rws.uniq{g:Gap}{s t:Int}{one other A B A' B':List Int}(h:Rws g s t one other A B)(h':Rws g s t one other A' B'):A=A'/\B=B':=by
 refine⟨qN (h.pa.trans h'.pa.symm) h.sa h'.sa,?_⟩;have b1:=h.sb;have b2:=h'.sb;by_cases z:s*t<0
 ·rw[cu z]at b1 b2;exact qN (h.pb.trans h'.pb.symm) b1 b2
 ·rw[cn z]at b1 b2;exact Cz (h.pb.trans h'.pb.symm) b1 b2
def cD(g:Gap)(A B:List Int)(i j:Nat):Bool:=bK g [A.getD i 0,B.getD j 0]
def i5(A B:List Int):bv:=.tuple [.list (A.map cq),.list (B.map cq)]
theorem GB(A B:List Int):i5 A B=.tuple [.list (A.map cq),.list (B.map cq)]:=rfl
theorem Ih{s t:Int}(hs:Tim s)(ht:Tim t):(decide (([(0,s),(1,t)].filter fun p:Nat×Int=>decide (p.2<0)).length=1))=decide (s*t<0):=by
 have e1:s = -3\/s = -2\/s = -1\/s=1\/s=2\/s=3:=by have:=hs.lo;have:=hs.hi;have:=hs.ne;omega
 have e2:t = -3\/t = -2\/t = -1\/t=1\/t=2\/t=3:=by have:=ht.lo;have:=ht.hi;have:=ht.ne;omega
 rcases e1 with rfl|rfl|rfl|rfl|rfl|rfl<;>rcases e2 with rfl|rfl|rfl|rfl|rfl|rfl<;>rfl
theorem Ib{g:Gap}{s t:Int}(hg:Gp2 g s t)(q:R (.d (.bool (decide (s*t<0)))) []):zN [.d (.tuple (g.ts.map tmD))] [] R:=by
 unfold zN;walk_at "d";rw[hg.ts];refine cmf2 (S0:=[]) (fun p:Nat×Int=>.int p.2) (fun p=>decide (p.2<0)) rfl [(0,s),(1,t)] yv ?_ ?_
 ·intro p mp u v acc R' hk;rw[y8];walk_at "d";refine hk _ _ fun _ T hT=>?_;walk_at "d";exact hT
 ·walk_at "d";have e:=Ih hg.s3 hg.t3;rw[<- e]at q;rw[show decide ((([(0,s),(1,t)].filter fun p:Nat×Int=>decide (p.2<0)).length:Int)=1)=decide (([(0,s),(1,t)].filter fun p:Nat×Int=>decide (p.2<0)).length=1)from by rw[decide_eq_decide];omega];exact q
theorem uB{g:Gap}{s t:Int}{one other:List Int}(hg:Gp2 g s t)(h1:one.length<=30)(h2:other.length=one.length)(q:∀A B,Rws g s t one other A B->R (.d (i5 A B)) []):nU [.d (aJ g),.d (aF one),.d (aF other)] [] R:=by
 unfold nU;rw[zz,zz];walk_at "d"
 walk_at "n"
 rw[h2,cn yv];rw[jT]
 walk_at "n"
 unfold i6;refine Ib hg ?_;walk_at "d";by_cases z:s*t<0
 ·rw[cu z];refine⟨one,rfl,yw,fun A pa sa=>?_⟩;refine⟨other,rfl,yw,fun B pb sb=>?_⟩;exact q A B ⟨pa,pb,sa,by rw[cu z];exact sb⟩
 ·rw[cn z];refine⟨one,rfl,yw,fun A pa sa=>?_⟩;refine⟨other,rfl,yw,fun B pb sb=>?_⟩;exact q A B ⟨pa,pb,sa,by rw[cn z];exact sb⟩
theorem xY{g:Gap}{s t:Int}{A B:List Int}{b k:Nat}(hg:Gp2 g s t)(h1:A.length<=30)(h2:B.length<=30)(q:R (.d (.bool (cI g ((A.drop b).take k) ((B.drop b).take k)))) []):kC [.d (aJ g),.d (i5 A B),.d (.int (b:Nat)),.d (.int (k:Nat))] [] R:=by
 unfold kC;rw[GB];walk_at "d";rw[pL,pL];refine Ei hg (by rw[kz,rk];omega) (by rw[kz,rk];omega) ?_;walk_at "d";exact q
theorem t6{g:Gap}{A B:List Int}{n b k:Nat}(hA:A.length=n)(hB:B.length=n)(hk:b+k<=n):cI g ((A.drop b).take k) ((B.drop b).take k)=true↔FitI (cD g A B) b k:=by
 have gt:∀{L:List Int} (hL:L.length=n) (i:Nat),b<=i->i<b+k->L.getD i 0∈(L.drop b).take k:=fun {L} hL i h1 h2=>by
  refine mem_iff_getElem?.mpr ⟨i-b,?_⟩;rw[List.getElem?_take_of_lt yw,rf,show b+(i-b)=i from by omega,gy,cy yw];rfl
 have gf:∀{L:List Int} (hL:L.length=n) (x:Int),x∈(L.drop b).take k->∃i,b<=i/\i<b+k/\x=L.getD i 0:=fun {L} hL x m=>by
  obtain⟨i,e⟩:=mem_iff_getElem?.mp m;have il:i<k:=by
   have:=(List.getElem?_eq_some_iff.mp e).1;rw[kz]at this;omega
  rw[List.getElem?_take_of_lt il,rf]at e;exact⟨b+i,yw,yw,by rw[gy,e];rfl⟩
 unfold cI FitI cD;rw[nq];constructor
 ·intro h i j a1 a2 a3 a4;exact all_eq_true.mp (h _ (gt hA i a1 a2)) _ (gt hB j a3 a4)
 ·intro h x mx;rw[nq];intro y my;obtain⟨i,a1,a2,rfl⟩:=gf hA x mx;obtain⟨j,a3,a4,rfl⟩:=gf hB y my;exact h i j a1 a2 a3 a4
def dH:Option (List Nat)->bv
 |none=>.none
 |some l=>bL l
theorem CG{F:Nat->Nat->Bool}{fit:Nat->Bool}:∀{G:List (Option (List Nat))}{z:Nat},(cands F fit z G).length<=G.length
 | [],z=>dw _
 |o::r,z=>by
  unfold cands;rw[fx,im];have:=CG (F:=F) (fit:=fit) (G:=r) (z:=z+1);cases o with
  |none=>simp;omega
  |some f=>
   dsimp only;split<;>simp<;>omega
theorem vM{F:Nat->Nat->Bool}{fit:Nat->Bool}{o:Option (List Nat)}:∀{G:List (Option (List Nat))}{z:Nat},cands F fit z (G++[o])=cands F fit z G++cands F fit (z+G.length) [o]
 | [],z=>rfl
 |o'::r,z=>by
  show _++cands F fit (z+1) (r++[o])=(_++cands F fit (z+1) r)++_;rw[vM,ly,im,show z+1+r.length=z+(r.length+1)from by omega]
theorem FM{g:Gap}{s t:Int}{A B:List Int}{F:Nat->Nat->Bool}{b:Nat}{G:List (Option (List Nat))}(hg:Gp2 g s t)(h1:A.length<=30)(h2:B.length<=30)(hG:G.length<=30)(hl:∀l,some l∈G->l.length<=30)
  (q:∀o,IsMn (cands F (fun k=>cI g ((A.drop b).take k) ((B.drop b).take k)) 1 G) o->R (.d (dH o)) []):lS [.d (aJ g),.d (i5 A B),.d (.int (b:Nat)),.d (.list (G.map dH))] [] R:=by
 unfold lS;walk_at "d"
 walk_at "n"
 walk_at "n";generalize hF:(fun k=>cI g ((A.drop b).take k) ((B.drop b).take k))=fit at q;have fe:∀k,cI g ((A.drop b).take k) ((B.drop b).take k)=fit k:=fun k=>congrFun hF k;refine eY (fun i δ S=>∃(u v:Option XV),S=[(cands F fit 1 (G.take i)).map bL]/\δ=[some (.d (aJ g)),some (.d (i5 A B)),some (.d (.int (b:Nat))),some (.d (.list (G.map dH))),some (.l 0),u,v]) ⟨_,_,rfl,rfl⟩ ?_ ?_
 ·rintro i d _ _ N hi ⟨u,v,rfl,rfl⟩ hN;obtain⟨e,he,rfl⟩:=iM _ _ _ _ hi;obtain⟨o,eo,rfl⟩:=jW he;have il:=(List.getElem?_eq_some_iff.mp eo).1;have cs:cands F fit 1 (G.take (i+1))=cands F fit 1 (G.take i)++cands F fit (1+i) [o]:=by
   rw[take_add_one,eo];have:=vM (F:=F) (fit:=fit) (o:=o) (G:=G.take i) (z:=1);rw[kz,min_eq_left yw]at this;exact this
  have cl:(cands F fit 1 (G.take i)).length<=30:=lu CG (by rw[kz];omega);cases o with
  |none=>
   rw[show dH none=.none from rfl];walk_at "d";exact hN _ _ ⟨_,_,by rw[cs];simp[cands],rfl⟩
  |some l=>
   have ll:=hl l (bw eo);rw[show dH (some l)=.list (l.map fun k:Nat=>.int k)from rfl];walk_at "d";rw[show ((1+i:Nat):Int)=((1+i:Nat):Int)from rfl];refine xY hg h1 h2 ?_;walk_at "d";rw[fe];split
   ·rename_i hf;refine⟨yw,yw,hN _ _ ⟨_,_,?_,rfl⟩⟩;rw[cs,map_append];unfold cands;dsimp only;rw[cu hf];rfl
   ·rename_i hf;refine hN _ _ ⟨_,_,?_,rfl⟩;rw[cs];unfold cands;dsimp only;rw[cn (by simpa using hf)];simp[cands]
 ·rintro _ _ ⟨u,v,rfl,rfl⟩;rw[kL,fj,take_length];walk_at "d";refine⟨(cands F fit 1 G).map fun c=>c.map fun k:Nat=>.int k,by rw[mo];rfl,fun z=>?_,fun i l el hm=>?_⟩
  ·exact q none (List.map_eq_nil_iff.mp z)
  ·rw[gx]at el;obtain⟨c,ec,rfl⟩:=map_eq_some_iff.mp el;refine q (some c) ⟨i,ec,fun j m ej=>?_⟩;have:=hm j (m.map fun k:Nat=>.int k) (by rw[gx,ej];rfl)
   rwa [fj,fj]at this
theorem vO{g:Gap}{s t:Int}{one other:List Int}(hg:Gp2 g s t)(h1:one.length<=20)(h2:other.length=one.length)(q:∀A B o,Rws g s t one other A B->BestG (cD g A B) one.length 0 o->R (.d (dH o)) []):nX [.d (aJ g),.d (aF one),.d (aF other)] [] R:=by
 unfold nX;walk_at "d"
 walk_at "n"
 refine uB hg yw h2 fun A B rw=>?_;walk_at "d";have lA:A.length=one.length:=rw.pa.length_eq;have lB:B.length=one.length:=rw.pb.length_eq.trans h2
 walk_at "n"
 refine seq1 ?_;rw[zz];walk_at "d";refine⟨_,_,⟨rfl,rfl⟩,⟨yw,yw⟩,⟨by decide,by decide⟩,?_⟩;rw[show ((one.length:Int)-1 - -1).toNat=one.length from by omega];refine eY (fun i δ S=>∃(G:List (Option (List Nat))) (u:Option XV),G.length=i+1/\(∀k o',G[k]?=some o'->BestG (cD g A B) one.length (one.length-i+k) o')/\S=[G.map dH]/\δ=[some (.d (aJ g)),some (.d (.tuple (one.map cq))),some (.d (aF other)),some (.d (i5 A B)),some (.l 0),u]) ⟨[some []],_,rfl,?_,rfl,rfl⟩ ?_ ?_
 ·intro k o' e;cases k with
  |zero=>
   cases e;refine⟨.nil,fun l' g'=>?_⟩;cases l' with
   |nil=>exact .inr ⟨rfl,.inl rfl⟩
   |cons x r=>exact .inl yv
  |succ k=>simp at e
 ·rintro i d _ _ N hi ⟨G,u,gl,gb,rfl,rfl⟩ hN;obtain⟨il,rfl⟩:=tE hi;rw[show ((one.length:Int)-1-(i:Nat))=((one.length-1-i:Nat):Int)from by omega];walk_at "d";refine FM (F:=cD g A B) hg yw yw yw (fun l ml=>?_) fun o ho=>?_
  ·obtain⟨k,ek⟩:=mem_iff_getElem?.mp ml;have:=(gb k _ ek).g.len;omega
  ·have hb:BestG (cD g A B) one.length (one.length-1-i) o:=FA yw yw (fun k o' ek=>by rw[show one.length-1-i+1+k=one.length-i+k from by omega];exact gb k o' ek) (fun k k1 kn=>t6 lA lB kn) ho;walk_at "d";refine⟨?_,?_⟩
   ·cases o with
    |none=>exact .inl rfl
    |some l=>
     refine .inr ⟨l.map fun k:Nat=>(k:Int),by show bL l=_;rw[eE,mo];rfl,fun m=>?_⟩;rw[oq]at m;have h0:(G.map dH)[0]?=some (dH G[0]):=by rw[gx,cy yw];rfl
     rw[<- m]at h0;cases l with
     |nil=>simp at h0
     |cons x r=>
      rw[kq,kq,nc,Option.some.injEq]at h0;cases hg0:G[0]with
      |none=>rw[hg0]at h0;cases h0
      |some f=>rw[hg0]at h0;cases h0
   ·refine⟨yw,hN _ _ ⟨o::G,_,by rw[im,gl],fun k o' ek=>?_,rfl,rfl⟩⟩;cases k with
    |zero=>
     cases ek;rw[show one.length-(i+1)+0=one.length-1-i from by omega];exact hb
    |succ k=>
     rw[ng]at ek;rw[show one.length-(i+1)+(k+1)=one.length-i+k from by omega];exact gb k o' ek
 ·rintro _ _ ⟨G,u,gl,gb,rfl,rfl⟩;rw[show (iH ((one.length:Int)-1) one.length).length=one.length from by unfold iH;rw[fj,jw]]at gl gb;have h0:G[0]?=some G[0]:=cy yw;have b0:=gb 0 _ h0;rw[show one.length-one.length+0=0 from by omega]at b0;walk_at "d";refine⟨dH G[0],?_,q A B _ rw b0⟩;refine jD (j:=0) ?_;rw[gx,h0];rfl
theorem Fy(l:List Nat):(l.map fun k:Nat=>(k:Int)).sum=((l.sum:Nat):Int):=by
 induction l with
 |nil=>rfl
 |cons x l ih=>rw[kq,sr,sr,ih];omega
theorem GZ{l:List Nat}{n:Nat}(hp:∀k∈l,1<=k)(hl:l.length<=100)(hs:l.sum=n)(q:R (.d (.bool true)) []):zI [.d (.int (n:Nat)),.d (bL l)] [] R:=by
 unfold zI;rw[eE];walk_at "d"
 walk_at "n"
 refine cmp1 (S0:=[]) (fun k:Nat=>.bool true) rfl l yw ?_ ?_
 ·intro k mk u acc R' hk;have:=hp k mk;walk_at "d";refine Bh ?_;walk_at "d";rw[cu (show tH (.int (k:Nat))=true from rfl)];rw[jh yw];exact hk _
 ·walk_at "d";refine⟨l.map fun _=>true,by rw[mo];rfl,?_⟩;rw[show (l.map fun _=>true).all id=true from by rw[all_map];exact all_eq_true.mpr fun _ _=>rfl];walk_at "d";refine⟨l.map fun k:Nat=>(k:Int),by rw[mo];rfl,?_⟩;rw[Fy,hs,jh rfl];exact q
end
section
variable {R:RX}{S:Sto}
structure LR(g:Gap)(s t:Int)(one other:List Int)(mine yours:List Nat)(A B:List Int):Prop where
 pm:mine.Perm (ir one.length)
 py:yours.Perm (ir other.length)
 ea:mine.map (fun j=>one.getD j 0)=A
 eb:yours.map (fun j=>other.getD j 0)=B
 rw:Rws g s t one other A B
theorem xL(l:List Int):((ir l.length).map fun j=>l.getD j 0)=l:=by
 apply ext_getElem?;intro i;rw[gx];by_cases h:i<l.length
 ·rw[rn h,cy h];simp[h]
 ·rw[lh (by rw[jw];omega),lh yw];rfl
theorem Aj{n:Nat}{f:Nat->Int}{y:List (List Int)}(p:y.Perm ((ir n).map fun j=>[f j,(j:Int)])):∃js:List Nat,js.Perm (ir n)/\y=js.map fun j=>[f j,(j:Int)]:=by
 refine⟨y.map fun ns=>(ns.getD 1 0).toNat,?_,?_⟩
 ·have:=p.map fun ns:List Int=>(ns.getD 1 0).toNat;rw[mo]at this;refine this.trans (List.Perm.of_eq ?_);refine(map_congr_left fun j _=>?_).trans (map_id' _);simp
 ·rw[mo];refine((map_congr_left fun ns m=>?_).trans (map_id' _)).symm;obtain⟨j,_,rfl⟩:=mem_map.mp (p.mem_iff.mp m);simp
theorem Ba{f:Nat->Int}{js:List Nat}(h:(js.map fun j=>[f j,(j:Int)]).Pairwise fun x y=>HT.lexLt y x=false):(js.map f).Pairwise (· <= ·):=by
 rw[qq]at h ⊢;refine h.imp fun {a b} q=>?_;rw[HT.lexLt_cons]at q;by_cases e:f b=f a
 ·omega
 ·rw[cn e]at q;have:=of_decide_eq_false q;omega
theorem D1{g:Gap}{s t:Int}{one other:List Int}(hg:Gp2 g s t)(h1:one.length<=30)(h2:other.length<=30)(q:∀aa y A B,LR g s t one other aa y A B->R (.d (.tuple [bL aa,bL y])) []):qE [.d (aJ g),.d (aF one),.d (aF other)] [] R:=by
 unfold qE;rw[zz,zz];walk_at "d"
 walk_at "n"
 rw[pN cq one 0];refine cmp2 (S0:=[]) (fun j:Nat=>eV [one.getD j 0,(j:Int)]) rfl (ir one.length) (by rw[jw];omega) ?_ ?_
 ·intro j mj u v acc R' hk;walk_at "d";exact hk _ _
 walk_at "d";refine⟨(ir one.length).map fun j=>[one.getD j 0,(j:Int)],by rw[mo];rfl,by rw[fj,jw];omega,fun ns m=>?_,fun af pm sm=>?_⟩
 ·obtain⟨j,_,rfl⟩:=mem_map.mp m;simp
 obtain⟨aa,p1,rfl⟩:=Aj pm;have sA:=Ba sm;have ml:aa.length<=30:=by rw[p1.length_eq,jw];exact h1
 rw[mo];refine cmp2 (S0:=[]) (fun j:Nat=>.int j) rfl aa yw ?_ ?_
 ·intro j mj u v acc R' hk;show bF _ _ (.d (eV [one.getD j 0,(j:Int)])) _ _ _;unfold eV;walk_at "d";exact hk _ _
 walk_at "d";have eg:aJ g=.tuple [.tuple [.tuple [.int 0,.int s],.tuple [.int 1,.int t]],.int g.lo,.int g.hi]:=by
  rw[jT];unfold i6;rw[hg.ts];rfl
 have ac:∀sg:Int,(sg = -1/\¬ s*t<0\/sg=1/\s*t<0)->aA (aC (bJ [none,none] (bA (dCB fN (zb (bJ [none,none,some 4] (eM (zb (zi 2) zo)) (bF 2 (zV (zm 0) (zV (zm 1) bI))) aK (aH (zb (dOp aX (zi 2) (zi 1)) (zb (zi 0) zo)))) zo))) (bF 2 (zV (zm 0) (zV (zm 1) bI))) aK (zi 1)) (zm 5)) (aB (aH (zb (zi 3) (zb (zi 5) zo)))) (aG 0 R)
   [some (.d (aJ g)),some (.d (.tuple (one.map cq))),some (.d (.tuple (other.map cq))),some (.d (.list (aa.map fun j:Nat=>cq j))),some (.d (.int sg)),none] []:=by
  intro sg ae
  walk_at "n"
  rw[pN cq other 0];refine cmp2 (S0:=[]) (fun j:Nat=>eV [sg*other.getD j 0,(j:Int)]) rfl (ir other.length) (by rw[jw];omega) ?_ ?_
  ·intro j mj u v acc R' hk;walk_at "d";refine⟨dX yw yw,?_⟩;exact hk _ _
  walk_at "d";refine⟨(ir other.length).map fun j=>[sg*other.getD j 0,(j:Int)],by rw[mo];rfl,by rw[fj,jw];omega,fun ns m=>?_,fun af pm sm=>?_⟩
  ·obtain⟨j,_,rfl⟩:=mem_map.mp m;simp
  obtain⟨y,p2,rfl⟩:=Aj (f:=fun j=>sg*other.getD j 0) pm;have sB:=Ba (f:=fun j=>sg*other.getD j 0) sm;have yl:y.length<=30:=by rw[p2.length_eq,jw];exact h2
  rw[mo];refine cmp2 (S0:=[]) (fun j:Nat=>.int j) rfl y yw ?_ ?_
  ·intro j mj u v acc R' hk;show bF _ _ (.d (eV [sg*other.getD j 0,(j:Int)])) _ _ _;unfold eV;walk_at "d";exact hk _ _
  walk_at "d";refine q aa y _ _ ⟨p1,p2,rfl,rfl,?_,?_,sA,?_⟩
  ·refine(p1.map fun j=>one.getD j 0).trans (List.Perm.of_eq (xL one))
  ·refine(p2.map fun j=>other.getD j 0).trans (List.Perm.of_eq (xL other))
  ·rw[qq]at sB;rcases ae with ⟨rfl,z⟩|⟨rfl,z⟩
   ·rw[cn z,qq];exact sB.imp fun h=>by omega
   ·rw[cu z,qq];exact sB.imp fun h=>by omega
 walk_at "n"
 refine seq1 ?_;have ts:=hg.s3;have tt:=hg.t3;rw[eg];walk_at "d";refine⟨dX (by have:=ts.lo;omega) (by have:=ts.hi;omega),?_⟩;rw[<- eg];have hz:s*t≠0:=Int.mul_ne_zero ts.ne tt.ne;split
 ·exact ac (-1) (.inl ⟨rfl,yw⟩)
 ·exact ac 1 (.inr ⟨rfl,yw⟩)
theorem LR.lens{g:Gap}{s t:Int}{one other:List Int}{aa y:List Nat}{A B:List Int}(h:LR g s t one other aa y A B):aa.length=one.length/\y.length=other.length/\A.length=one.length/\B.length=other.length:=by
 have l1:=h.pm.length_eq;have l2:=h.py.length_eq;rw[jw]at l1 l2;refine⟨l1,l2,?_,?_⟩
 ·rw[<- h.ea,fj,l1]
 ·rw[<- h.eb,fj,l2]
theorem gC{α β:Type}{f:α->β}{l:List α}{k:Nat}:cN (l.map f) none (some ((k:Nat):Int))=(l.take k).map f:=by
 have hs:∀(i d:Nat),HT.sIx (l.map f).length d (some (i:Nat))=min i (l.map f).length:=fun i d=>by
  unfold HT.sIx;simp;omega
 unfold cN;rw[hs,show HT.sIx (l.map f).length 0 none=0 from rfl,drop_zero,Nat.sub_zero,<- map_take,fj];congr 1;by_cases h:k<=l.length
 ·rw[min_eq_left h]
 ·rw[Nat.min_eq_right yw,ko (dw _),ko yw]
def gap52:Gap:=⟨[(0,1),(1,-1)],0,1⟩
theorem gp52:Gp2 gap52 1 (-1):=⟨rfl,⟨by decide,by decide,by decide⟩,⟨by decide,by decide,by decide⟩,by decide,by decide,by decide⟩
theorem GY:(qp [.tuple [.tuple [.int 0,.int 1],.tuple [.int 1,.int (-1)]],.int 0,.int 1])=aJ gap52:=rfl
end
section
variable {R:RX}{S:Sto}
def uY(C:Addr):Str:=if C=78 then "span" else if C=90 then "part" else if C=102 then "set" else if C=202 then "text" else if C=114 then "row" else if C=126 then "unlike" else if C=145 then "drawing" else if C=164 then "gap" else if C=183 then "offer" else "great"
theorem eR{C D:Addr}{fs:List (Str×bv)}(hC:C∈excs)(hD:D∈excs)(q:R (.d (.bool (decide (C=D)))) S):cW [.x C fs,.o (.ref D)] S R:=⟨C,fs,_,rfl,rfl,hC,.inl ⟨D,rfl,hD,q⟩⟩
theorem GO{C:Addr}{fs:List (Str×bv)}(hC:C∈excs)(q:R (.d (.bool true)) S):cW [.x C fs,.o (.ty "ValueError")] S R:=⟨C,fs,_,rfl,rfl,hC,.inr ⟨rfl,q⟩⟩
theorem v4{C:Addr}{fs:List (Str×bv)}(hC:C∈excs)(q:R (.d (.str (uY C))) []):lK [.x C fs] [] R:=by
 unfold lK;walk_at "d"
 walk_at "n"
 refine eR hC dz ?_;walk_at "d";refine eR hC dz ?_;walk_at "d";refine eR hC dz ?_;walk_at "d";refine eR hC dz ?_;walk_at "d"
 walk_at "n"
 refine eR hC dz ?_;walk_at "d";refine eR hC dz ?_;walk_at "d";refine eR hC dz ?_;walk_at "d";refine eR hC dz ?_;walk_at "d"
 walk_at "n"
 refine eR hC dz ?_;walk_at "d";refine eR hC dz ?_;walk_at "d"
 walk_at "n"
 refine GO hC ?_;walk_at "d";refine⟨[decide (C=78),decide (C=90),decide (C=102),decide (C=202),decide (C=114),decide (C=126),decide (C=145),decide (C=164),decide (C=183),decide (C=221)],rfl,?_⟩;have sh:∀bs:List Bool,ge (.list (bs.map px))=true:=fun bs=>(kP (jG fun _ _=>(Aw:Shp 0 _))).ok;simp only[excs,lz,lg,or_false]at hC;rcases hC with rfl|rfl|rfl|rfl|rfl|rfl|rfl|rfl|rfl|rfl
 ·rw[cn dz]
  walk_at "n"
  exact⟨sh [true,false,false,false,false,false,false,false,false,false],0,⟨_,rfl,rfl⟩,(fun m e hm he=>by rcases m with _|_|_|_|_|_|_|_|_|m<;>first|(exfalso;omega)|(cases he;rfl)),_,rfl,q⟩
 ·rw[cn dz]
  walk_at "n"
  exact⟨sh [false,true,false,false,false,false,false,false,false,false],1,⟨_,rfl,rfl⟩,(fun m e hm he=>by rcases m with _|_|_|_|_|_|_|_|_|m<;>first|(exfalso;omega)|(cases he;rfl)),_,rfl,q⟩
 ·rw[cn dz]
  walk_at "n"
  exact⟨sh [false,false,true,false,false,false,false,false,false,false],2,⟨_,rfl,rfl⟩,(fun m e hm he=>by rcases m with _|_|_|_|_|_|_|_|_|m<;>first|(exfalso;omega)|(cases he;rfl)),_,rfl,q⟩
 ·rw[cn dz]
  walk_at "n"
  exact⟨sh [false,false,false,false,true,false,false,false,false,false],4,⟨_,rfl,rfl⟩,(fun m e hm he=>by rcases m with _|_|_|_|_|_|_|_|_|m<;>first|(exfalso;omega)|(cases he;rfl)),_,rfl,q⟩
 ·rw[cn dz]
  walk_at "n"
  exact⟨sh [false,false,false,false,false,true,false,false,false,false],5,⟨_,rfl,rfl⟩,(fun m e hm he=>by rcases m with _|_|_|_|_|_|_|_|_|m<;>first|(exfalso;omega)|(cases he;rfl)),_,rfl,q⟩
 ·rw[cn dz]
  walk_at "n"
  exact⟨sh [false,false,false,false,false,false,true,false,false,false],6,⟨_,rfl,rfl⟩,(fun m e hm he=>by rcases m with _|_|_|_|_|_|_|_|_|m<;>first|(exfalso;omega)|(cases he;rfl)),_,rfl,q⟩
 ·rw[cn dz]
  walk_at "n"
  exact⟨sh [false,false,false,false,false,false,false,true,false,false],7,⟨_,rfl,rfl⟩,(fun m e hm he=>by rcases m with _|_|_|_|_|_|_|_|_|m<;>first|(exfalso;omega)|(cases he;rfl)),_,rfl,q⟩
 ·rw[cn dz]
  walk_at "n"
  exact⟨sh [false,false,false,false,false,false,false,false,true,false],8,⟨_,rfl,rfl⟩,(fun m e hm he=>by rcases m with _|_|_|_|_|_|_|_|_|m<;>first|(exfalso;omega)|(cases he;rfl)),_,rfl,q⟩
 ·rw[cn dz]
  walk_at "n"
  exact⟨sh [false,false,false,true,false,false,false,false,false,false],3,⟨_,rfl,rfl⟩,(fun m e hm he=>by rcases m with _|_|_|_|_|_|_|_|_|m<;>first|(exfalso;omega)|(cases he;rfl)),_,rfl,q⟩
 ·rw[cn dz]
  walk_at "n"
  exact⟨sh [false,false,false,false,false,false,false,false,false,true],9,⟨_,rfl,rfl⟩,(fun m e hm he=>by rcases m with _|_|_|_|_|_|_|_|_|m<;>first|(exfalso;omega)|(cases he;rfl)),_,rfl,q⟩
end
section
variable {R:RX}{S:Sto}
structure Szs(m:Nat)(L:List (List Nat)):Prop where
 mem:∀l,l∈L↔(∀k∈l,1<=k)/\l.sum=m
 len:L.length<=2 ^ m
structure SzI(m i:Nat)(F:List (List Nat)):Prop where
 mem:∀l,l∈F↔∃k r,l=k::r/\1<=k/\k<=i/\(∀x∈r,1<=x)/\k+r.sum=m
 len:F.length+2 ^ (m-i)<=2 ^ m
theorem szs0:Szs 0 [[]]:=by
 refine⟨fun l=>?_,by decide⟩;rw[oq];constructor
 ·rintro rfl;exact⟨fun k m=>(by cases m),rfl⟩
 ·rintro⟨h1,h2⟩;cases l with
  |nil=>rfl
  |cons x l=>
   have:=h1 x yv;rw[sr]at h2;omega
theorem szi0{m:Nat}:SzI m 0 []:=by
 refine⟨fun l=>⟨fun h=>(by cases h),?_⟩,yv⟩;rintro⟨k,r,_,h1,h2,_⟩;omega
theorem SzI.step{m i:Nat}{F L:List (List Nat)}(hi:i<m)(h:SzI m i F)(hL:Szs (m-(i+1)) L):SzI m (i+1) (F++L.map fun r=>(i+1)::r):=by
 refine⟨fun l=>?_,?_⟩
 ·rw[rp,h.mem,mem_map];constructor
  ·rintro(⟨k,r,e,h1,h2,h3,h4⟩|⟨r,mr,rfl⟩)
   ·exact⟨k,r,e,h1,yw,h3,h4⟩
   ·obtain⟨a1,a2⟩:=(hL.mem r).mp mr;exact⟨i+1,r,rfl,yw,yw,a1,yw⟩
  ·rintro⟨k,r,rfl,h1,h2,h3,h4⟩;by_cases e:k=i+1
   ·subst e;exact .inr ⟨r,(hL.mem r).mpr ⟨h3,yw⟩,rfl⟩
   ·exact .inl ⟨k,r,rfl,h1,yw,h3,h4⟩
 ·rw[fx,fj];have h1:=h.len;have h2:=hL.len;rw[show m-i=(m-(i+1))+1 from by omega,Nat.pow_succ]at h1;omega
theorem SzI.fin{m:Nat}{F:List (List Nat)}(hm:1<=m)(h:SzI m m F):Szs m F:=by
 refine⟨fun l=>?_,lu (Nat.le_add_right _ _) h.len⟩;rw[h.mem];constructor
 ·rintro⟨k,r,rfl,h1,h2,h3,h4⟩;refine⟨fun x mx=>?_,by rw[sr];exact h4⟩;rcases mem_cons.mp mx with rfl|mx
  ·exact h1
  ·exact h3 x mx
 ·rintro⟨h1,h2⟩;cases l with
  |nil=>rw[List.sum_nil]at h2;omega
  |cons x r=>
   rw[sr]at h2;exact⟨x,r,rfl,h1 x yv,yw,fun y my=>h1 y (by simp[my]),h2⟩
theorem x9{m:Nat}(h:m<=8):2 ^ m<=256:=lu (Nat.pow_le_pow_right dz h) dz
theorem Szs.short{m:Nat}{L:List (List Nat)}(h:Szs m L):∀l∈L,l.length<=m:=fun l ml=>by
 obtain⟨h1,h2⟩:=(h.mem l).mp ml;have:∀l:List Nat,(∀k∈l,1<=k)->l.length<=l.sum:=by
  intro l;induction l with
  |nil=>intro _;simp
  |cons x l ih=>
   intro hp;have:=hp x yv;have:=ih fun k mk=>hp k (by simp[mk]);rw[im,sr];omega
 have:=this l h1;omega
theorem wA:∀(f m:Nat) {R:RX},m<f->m<=8->(∀L,Szs m L->R (.d (.list (L.map bL))) [])->kS f [.d (.int (m:Nat))] [] R
 | 0,m,R,h,_,_=>by omega
 |f+1,m,R,h,h8,q=>by
  unfold kS;walk_at "d"
  walk_at "n"
  by_cases z:m=0
  ·subst z;rw[cu yw];exact .inl (q _ szs0)
  ·rw[cn yw]
   walk_at "n"
   walk_at "n";rw[show ((m:Int)+1-1).toNat=m from by omega];refine eY (fun i δ S=>∃(F:List (List Nat)) (u:Option XV),SzI m i F/\S=[F.map bL]/\δ=[some (.d (.int (m:Nat))),some (.l 0),u]) ⟨[],_,szi0,rfl,rfl⟩ ?_ ?_
   ·rintro i d _ _ N hi ⟨F,u,hF,rfl,rfl⟩ hN;obtain⟨il,rfl⟩:=tQ hi;walk_at "d";rw[show (m:Int)-(1+(i:Nat))=((m-(i+1):Nat):Int)from by omega];refine wA f _ yw yw fun L hL=>?_;have p8:=x9 h8;have l1:=hL.len;have l2:=hF.len;have l3:=(hF.step il hL).len;have l4:2 ^ (m-(i+1))<=2 ^ m:=Nat.pow_le_pow_right dz yw;walk_at "d";refine cmp1 (S0:=[F.map bL]) (fun r:List Nat=>bL ((i+1)::r)) rfl L yw ?_ ?_
    ·intro r mr u acc R' hk;have:=hL.short r mr;rw[eE];walk_at "d";refine⟨yw,?_⟩;have:=hk (some (.d (.list (r.map fun k:Nat=>.int k))));rw[eE,kq,show ((i+1:Nat):Int)=1+(i:Int)from by omega]at this;exact this
    ·walk_at "d";rw[fx,fj]at l3;refine⟨yw,hN _ _ ⟨_,_,hF.step il hL,?_,rfl⟩⟩;rw[map_append,mo];rfl
   ·rintro _ _ ⟨F,u,hF,rfl,rfl⟩;rw[jI]at hF;walk_at "d";exact .inl (q _ (hF.fin yw))
theorem Gy{g:Gap}{s t:Int}{one other A0 B0:List Int}{l:List Nat}(hg:Gp2 g s t)(h1:one.length<=20)(h2:other.length=one.length)(ag:Rws g s t one other A0 B0)(lp:∀k∈l,1<=k)(ls:l.sum=one.length)(q:∀c:Bool,(c=true↔Gr (cD g A0 B0) one.length 0 l)->R (.d (.bool c)) []):pM [.d (aJ g),.d (aF one),.d (aF other),.d (bL l)] [] R:=by
 unfold pM;walk_at "d"
 walk_at "n"
 refine D1 hg yw yw fun ac aa A B lr=>?_;obtain⟨rfl,rfl⟩:=ag.uniq lr.rw;obtain⟨l1,l2,lA,lB⟩:=lr.lens;have mr:∀i∈ac,i<one.length:=fun i m=>mem_range.mp (lr.pm.mem_iff.mp m);have yr:∀i∈aa,i<other.length:=fun i m=>mem_range.mp (lr.py.mem_iff.mp m);walk_at "d"
 walk_at "n"
 refine seq1 ?_;rw[eE l,zz,zz,eE ac,eE aa];walk_at "d";refine eY (fun i δ S=>∃(b:Nat) (u v:Option XV),S=[]/\b+(l.drop i).sum=one.length/\(Gr (cD g A0 B0) one.length 0 l↔Gr (cD g A0 B0) one.length b (l.drop i))/\δ=[some (.d (aJ g)),some (.d (.tuple (one.map cq))),some (.d (.tuple (other.map cq))),some (.d (.list (l.map fun k:Nat=>.int k))),some (.d (.list (ac.map fun k:Nat=>.int k))),some (.d (.list (aa.map fun k:Nat=>.int k))),some (.d (.int (b:Nat))),u,v]) ⟨0,_,_,rfl,by rw[drop_zero];omega,by rw[drop_zero],rfl⟩ ?_ ?_
 ·rintro i d _ _ N hi ⟨b,u,v,rfl,bs,gi,rfl⟩ hN;obtain⟨k,ek,rfl⟩:=jW hi;have il:=(List.getElem?_eq_some_iff.mp ek).1;have eg:=(List.getElem?_eq_some_iff.mp ek).2;have k1:=lp k (bw ek);rw[nv il,eg]at gi bs;rw[sr]at bs;have bk:b+k<=one.length:=yw
  have af:=t6 (g:=g) (A:=A0) (B:=B0) (b:=b) (k:=k) lA (lB.trans h2) bk;have eA:(A0.drop b).take k=((ac.drop b).take k).map fun j=>one.getD j 0:=by rw[<- lr.ea,<- map_drop,<- map_take]
  have eB:(B0.drop b).take k=((aa.drop b).take k).map fun j=>other.getD j 0:=by rw[<- lr.eb,<- map_drop,<- map_take]
  rw[eA,eB]at af;have m1:∀i∈(ac.drop b).take k,i<one.length:=fun i m=>mr i (mem_of_mem_drop (sy m));have y1:∀i∈(aa.drop b).take k,i<other.length:=fun i m=>yr i (mem_of_mem_drop (sy m));have yl:((aa.drop b).take k).length<=30:=by rw[kz,rk];omega
  walk_at "d"
  walk_at "n"
  rw[pL];walk_at "d";generalize (ac.drop b).take k=ms at af m1 ⊢;refine eY (fun i δ S=>∃(u:Option XV),S=[]/\(∀x∈ms.take i,(((aa.drop b).take k).all fun j=>bK g [one.getD x 0,other.getD j 0])=true)/\δ=[some (.d (aJ g)),some (.d (.tuple (one.map cq))),some (.d (.tuple (other.map cq))),some (.d (.list (l.map fun k:Nat=>.int k))),some (.d (.list (ac.map fun k:Nat=>.int k))),some (.d (.list (aa.map fun k:Nat=>.int k))),some (.d (.int (b:Nat))),some (.d (.int (k:Nat))),u]) ⟨_,rfl,fun x m=>(by cases m),rfl⟩ ?_ ?_
  ·rintro i2 d _ _ N2 ah ⟨u,rfl,ok,rfl⟩ ae;obtain⟨x,ex,rfl⟩:=jW ah;have xl:=m1 x (bw ex);walk_at "d";rw[pL];generalize (aa.drop b).take k=ys at af y1 yl ok ae ⊢;refine cmp1 (S0:=[]) (fun j:Nat=>.bool (bK g [one.getD x 0,other.getD j 0])) rfl ys yw ?_ ?_
   ·intro j mj u acc R' hk;walk_at "d";refine⟨_,vR xl,_,vR (y1 j mj),?_⟩;refine ES hg ?_;walk_at "d";exact hk _
   ·walk_at "d";refine⟨ys.map fun j=>bK g [one.getD x 0,other.getD j 0],by rw[mo];rfl,?_⟩;rw[all_map,show (id∘fun j=>bK g [one.getD x 0,other.getD j 0])=fun j=>bK g [one.getD x 0,other.getD j 0]from rfl];cases hz:ys.all fun j=>bK g [one.getD x 0,other.getD j 0]with
    |true=>
     rw[cn yv];refine ae _ _ ⟨_,rfl,fun y my=>?_,rfl⟩;rw[take_add_one,ex]at my;rcases mem_append.mp my with my|my
     ·exact ok y my
     ·have:y=x:=by simpa using my
      rw[this];exact hz
    |false=>
     rw[cu rfl];refine q false ⟨fun h=>(by cases h),fun h=>?_⟩;have h':=gi.mp h;cases h' with
     |cons _ _ k3 _=>
      have z:=af.mpr k3;unfold cI at z;rw[nq]at z;have z1:=z _ (rm (bw ex));rw[all_map]at z1;rw[show ((fun y=>bK g [one.getD x 0,y])∘fun j=>other.getD j 0)=fun j=>bK g [one.getD x 0,other.getD j 0]from rfl,hz]at z1;cases z1
  ·rintro _ _ ⟨u,rfl,ok,rfl⟩;rw[fj,take_length]at ok;have fit:=af.mp (by
    unfold cI;rw[all_map,nq];intro x mx;show (List.all _ _)=true;rw[all_map];exact ok x mx)
   walk_at "d";refine hN _ _ ⟨b+k,_,_,rfl,yw,gi.trans ⟨fun h=>?_,fun h=>.cons k1 bk fit h⟩,by rw[Int.natCast_add]⟩;cases h with
   |cons _ _ _ k4=>exact k4
 ·rintro _ _ ⟨b,u,v,rfl,bs,gi,rfl⟩;rw[fj,drop_length]at gi bs;rw[List.sum_nil]at bs;walk_at "d";refine q true ⟨fun _=>gi.mpr ?_,fun _=>rfl⟩;rw[show b=one.length from by omega];exact .nil
def oO:bv->Bool
 | .int k=>decide (1<=k)
 |_=>false
theorem cmp1q{n:Nat}{S0:Sto}{g:DG}{te:DE}{fin:Sto->Prop}{caps:XE}(f:bv->bv)(hn:S0.length=n)(l:List bv){u:Option XV}(hl:l.length<=1000)
  (el:∀x∈l,∀(u:Option XV) acc (R:XE->RX),(∀u',R (u'::caps) (.d (f x)) (S0++[acc]))->g (.d x) (u::caps) (S0++[acc]) fun τ1 S1=>te τ1 S1 (R τ1)) (hf:fin (S0++[l.map f])):aY n g aK te fin l (u::caps) (S0++[[]]):=by
 have:=cmp1 (h:=fun d:bv=>d) (g:=g) (te:=te) (fin:=fin) (caps:=caps) (u:=u) f hn l hl el hf
 rwa [map_id']at this
theorem Cg{x:bv}{u:Option XV}{acc:List bv}{R':XE->RX}(hk:∀u',R' [u'] (.d (.bool (oO x))) [acc]):zm 0 (.d x) [u] [acc] fun τ1 S1=>cY (aE 1 lZ (zb (zi 0) zo)) (dOp (dIb fun i j=>decide (j<=i)) (zi 0) (dC (cq 1))) τ1 S1 (R' τ1):=by
 walk_at "d";refine Bh ?_;cases x<;>(walk_at "d";exact hk _)
theorem zR{l:List bv}{n:Nat}(hl:l.length<=100)(hq:(∃x∈l,oO x=false)\/∃ns:List Int,l=ns.map cq/\ns.sum≠n)(q:R (.d (.bool false)) []):zI [.d (.int (n:Nat)),.d (.list l)] [] R:=by
 unfold zI;walk_at "d"
 walk_at "n"
 refine cmp1q (S0:=[]) (fun x:bv=>.bool (oO x)) rfl l yw (fun x mx u acc R' hk=>Cg hk) ?_;walk_at "d";refine⟨l.map oO,by rw[mo];rfl,?_⟩;rcases hq with ⟨x,mx,hx⟩|⟨ns,e,hs⟩
 ·rw[cu (by
   rw[Bool.eq_false_iff];intro z;have:=all_eq_true.mp z _ (rm (f:=oO) mx);rw[hx]at this;cases this)]
  exact q
 ·split
  ·exact q
  ·refine⟨ns,e,?_⟩;rw[gu hs];exact q
theorem pA{d:bv}{n:Nat}(hd:∀xs,d≠.list xs)(q:R (.d (.bool false)) []):zI [.d (.int (n:Nat)),.d d] [] R:=by
 unfold zI;cases d with
 |list xs=>exact absurd rfl (hd xs)
 |_=>
  walk_at "d";walk_at "n";exact q
theorem Gm{g:Gap}{s t:Int}{one other:List Int}{th:bv}(hg:Gp2 g s t)(h1:one.length<=20)(h2:other.length=one.length)(y:∀{R:RX},R (.d (.bool false)) []->zI [.d (.int (one.length:Nat)),.d th] [] R)(q:R (.d (.bool false)) []):kM [.d (aJ g),.d (aF one),.d (aF other),.d th] [] R:=by
 unfold kM;walk_at "d"
 walk_at "n"
 refine uB hg yw h2 fun A' B' aa=>?_;walk_at "d";rw[zz]
 walk_at "n"
 refine y ?_;walk_at "d";exact q
theorem Hm{g:Gap}{s t:Int}{one other A B:List Int}{l:List Nat}(hg:Gp2 g s t)(h1:one.length<=20)(h2:other.length=one.length)(y:Rws g s t one other A B)(lp:∀k∈l,1<=k)(ll:l.length<=20)(ls:l.sum=one.length)(q:∀c:Bool,(c=true↔Gr (cD g A B) one.length 0 l)->R (.d (.bool c)) []):kM [.d (aJ g),.d (aF one),.d (aF other),.d (bL l)] [] R:=by
 have lA:A.length=one.length:=y.pa.length_eq;have lB:B.length=one.length:=y.pb.length_eq.trans h2;unfold kM;walk_at "d"
 walk_at "n"
 refine uB hg yw h2 fun A' B' aa=>?_;obtain⟨rfl,rfl⟩:=y.uniq aa;walk_at "d";rw[zz]
 walk_at "n"
 refine GZ lp yw ls ?_;walk_at "d"
 walk_at "n"
 refine seq1 ?_;rw[eE];walk_at "d";refine eY (fun i δ S=>∃(b:Nat) (u:Option XV),S=[]/\b+(l.drop i).sum=one.length/\(Gr (cD g A B) one.length 0 l↔Gr (cD g A B) one.length b (l.drop i))/\δ=[some (.d (aJ g)),some (.d (.tuple (one.map cq))),some (.d (aF other)),some (.d (.list (l.map fun k:Nat=>.int k))),some (.d (i5 A B)),some (.d (.int (b:Nat))),u]) ⟨0,_,rfl,by rw[drop_zero];omega,by rw[drop_zero],rfl⟩ ?_ ?_
 ·rintro i d _ _ N hi ⟨b,u,rfl,bs,gi,rfl⟩ hN;obtain⟨k,ek,rfl⟩:=jW hi;have il:=(List.getElem?_eq_some_iff.mp ek).1;have eg:=(List.getElem?_eq_some_iff.mp ek).2;have k1:=lp k (bw ek);rw[nv il,eg]at gi bs;rw[sr]at bs;have bk:b+k<=one.length:=yw
  have af:=t6 (g:=g) (A:=A) (B:=B) (b:=b) (k:=k) lA lB bk;walk_at "d"
  walk_at "n"
  refine xY hg yw yw ?_;walk_at "d";cases hz:cI g ((A.drop b).take k) ((B.drop b).take k)with
  |true=>
   have fit:=af.mp hz;rw[cn yv];walk_at "d";refine hN _ _ ⟨b+k,_,rfl,yw,gi.trans ⟨fun h=>?_,fun h=>.cons k1 bk fit h⟩,by rw[Int.natCast_add]⟩;cases h with
   |cons _ _ _ k4=>exact k4
  |false=>
   rw[cu rfl];refine q false ⟨fun h=>(by cases h),fun h=>?_⟩;have h':=gi.mp h;cases h' with
   |cons _ _ k3 _=>
    rw[af.mpr k3]at hz;cases hz
 ·rintro _ _ ⟨b,u,rfl,bs,gi,rfl⟩;rw[fj,drop_length]at gi bs;rw[List.sum_nil]at bs;walk_at "d";refine q true ⟨fun _=>gi.mpr ?_,fun _=>rfl⟩;rw[show b=one.length from by omega];exact .nil
theorem D6{g:Gap}{s t:Int}{one other:List Int}{th:bv}(hg:Gp2 g s t)(h1:one.length<=20)(h2:other.length=one.length)(y:∀{R:RX},R (.d (.bool false)) []->zI [.d (.int (one.length:Nat)),.d th] [] R)(q:R (.d (.bool true)) []):gL [.d (aJ g),.d (aF one),.d (aF other),.d th,.d (.bool false)] [] R:=by
 unfold gL;walk_at "d"
 walk_at "n"
 refine Gm hg h1 h2 y ?_;walk_at "d";exact q
theorem Hk{g:Gap}{s t:Int}{one other A B:List Int}{l:List Nat}{c:Bool}(hg:Gp2 g s t)(h1:one.length<=20)(h2:other.length=one.length)(aa:Rws g s t one other A B)(lp:∀k∈l,1<=k)(ll:l.length<=20)(ls:l.sum=one.length)(hc:c=true↔Gr (cD g A B) one.length 0 l)(q:R (.d (.bool true)) []):gL [.d (aJ g),.d (aF one),.d (aF other),.d (bL l),.d (.bool c)] [] R:=by
 unfold gL;walk_at "d"
 walk_at "n"
 refine Hm hg h1 h2 aa lp ll ls fun c' y=>?_;have e:c'=c:=by rw[qv,hc,y]
 subst e;walk_at "d";exact q
def fO(F:List (List Nat)):List bv:=F.map fun l=>prL ((l.length:Int),l.map fun k:Nat=>(k:Int))
theorem shG(G:List (List Nat)):ge (.list (fO G))=true:=(kP (n:=2) (jG fun l _=>(sI (n:=1) fun e m=>by
 rcases mem_cons.mp m with rfl|m
 ·exact(jX:Shp 1 _)
 ·rw[oq]at m;subst m;exact(kP (jG fun _ _=>(jX:Shp 0 _)))))).ok
theorem HR(g:Gap)(s t:Int)(one other:List Int):∃A B,Rws g s t one other A B:=by
 have h:∀l:List Int,∃A:List Int,A.Perm l/\A.Pairwise (· <= ·):=fun l=>⟨l.mergeSort fun a b=>decide (a<=b),List.mergeSort_perm _ _,(List.pairwise_mergeSort (fun a b c h1 h2=>by simp at *;omega) (fun a b=>by simp;omega) l).imp fun h=>by simpa using h⟩;obtain⟨A,a1,a2⟩:=h one;obtain⟨B,b1,b2⟩:=h other;by_cases z:s*t<0
 ·exact⟨A,B,a1,b1,a2,by rw[cu z];exact b2⟩
 ·exact⟨A,B.reverse,a1,(qb _).trans b1,a2,by rw[cn z,List.pairwise_reverse];exact b2⟩
theorem wB:∀{a b:List Nat},ltS a b->HT.lexLt (a.map fun k:Nat=>(k:Int)) (b.map fun k:Nat=>(k:Int))=true
 | [],[],h=>by cases h
 | [],y::b,_=>rfl
 |x::a,[],h=>by cases h
 |x::a,y::b,h=>by
  rw[kq,kq,HT.lexLt_cons];rcases h with h|⟨rfl,h⟩
  ·rw[cn yw];exact jh yw
  ·rw[cu rfl];exact wB h
theorem repf(n:Nat)(d:bv):(bu n [d]).flatten=bu n d:=by simp
structure Odd(n:Nat)(th:bv):Prop where
 sh:ge th=true\/th=.dict []
 no:(th=.list []/\n=0)\/∀{R:RX},R (.d (.bool false)) []->zI [.d (.int (n:Nat)),.d th] [] R
theorem qQ(n:Nat)(k:Int):bu n (cq k)=(bu n k).map cq:=by rw[List.map_replicate]
theorem G5(n:Nat):(bu n (1:Int)).sum=n:=by
 induction n with
 |zero=>rfl
 |succ n ih=>rw[lw,sr,ih];omega
theorem shL{ds:List bv}(h:∀d∈ds,Shp 0 d):ge (.list ds)=true:=(kP (n:=0) fun e m=>h e m).ok
def p9(n:Nat):List bv:=[.tuple (bu n (.int 1)),.list (bu (n+1) (.int 1)),.list (.int 0::bu n (.int 1)),.list [.int ((n:Int)+1),.int (-1)],.none]
def wQ(n:Nat):List bv:=[.list (bu n (.bool true)),.list [.str "1"],.list [.none],.int (n:Nat),.dict []]
theorem HH(n:Nat)(hn:n<=6):∀th∈p9 n++wQ n,Odd n th:=by
 intro th m;have i0:∀k:Int,Shp 0 (.int k):=fun k=>jX;unfold p9 wQ at m;simp only[cons_append,nil_append,lz,lg,or_false]at m;have si:∀ns:List Int,ge (.list (ns.map cq))=true:=fun ns=>shL fun d m=>by
  obtain⟨k,_,rfl⟩:=mem_map.mp m;exact i0 k
 rcases m with rfl|rfl|rfl|rfl|rfl|rfl|rfl|rfl|rfl|rfl
 ·exact⟨.inl (by rw[qQ];exact(sI (jG fun _ _=>(jX:Shp 0 _))).ok),.inr fun q=>pA (fun _ h=>by cases h) q⟩
 ·exact⟨.inl (by rw[qQ];exact si _),.inr fun q=>zR (by rw[mv];omega) (.inr ⟨_,qQ _ _,by rw[G5];omega⟩) q⟩
 ·exact⟨.inl (by rw[qQ];exact si (0::bu n 1)),.inr fun q=>zR (by rw[im,mv];omega) (.inl ⟨.int 0,yv,rfl⟩) q⟩
 ·exact⟨.inl (si [(n:Int)+1,-1]),.inr fun q=>zR yv (.inl ⟨.int (-1),yv,rfl⟩) q⟩
 ·exact⟨.inl rfl,.inr fun q=>pA (fun _ h=>by cases h) q⟩
 ·refine⟨.inl (shL fun d m=>?_),?_⟩
  ·rw[List.eq_of_mem_replicate m];exact⟨rfl,pf _⟩
  ·cases n with
   |zero=>exact .inl ⟨rfl,rfl⟩
   |succ n=>exact .inr fun q=>zR (by rw[mv];omega) (.inl ⟨.bool true,yv,rfl⟩) q
 ·exact⟨.inl (by decide +kernel),.inr fun q=>zR yv (.inl ⟨_,mem_singleton.mpr rfl,rfl⟩) q⟩
 ·exact⟨.inl rfl,.inr fun q=>zR yv (.inl ⟨_,mem_singleton.mpr rfl,rfl⟩) q⟩
 ·exact⟨.inl rfl,.inr fun q=>pA (fun _ h=>by cases h) q⟩
 ·exact⟨.inr rfl,.inr fun q=>pA (fun _ h=>by cases h) q⟩
theorem Hb(ds:List bv):kv (.list ds) (.list [])=decide (ds=[]):=by
 cases ds<;>rfl
theorem Gv(ds:List bv):kv (.tuple ds) (.tuple [])=decide (ds=[]):=by
 cases ds<;>rfl
theorem FU{g:Gap}{s t:Int}{one other:List Int}(hg:Gp2 g s t)(h1:one.length<=6)(h2:other.length=one.length)(q:R (.d (.bool true)) []):zy [.d (aJ g),.d (aF one),.d (aF other)] [] R:=by
 unfold zy;rw[zz,zz];walk_at "d"
 walk_at "n"
 rw[h2,cn yv]
 walk_at "n"
 walk_at "n";refine wA _ one.length yw yw fun L hL=>?_;obtain⟨A,B,ac⟩:=HR g s t one other;have p6:2 ^ one.length<=256:=x9 yw;have lL:=hL.len;walk_at "d";refine eY (fun i δ S=>∃(G:List (List Nat)) (u v:Option XV),(∀l,l∈G↔l∈L.take i/\Gr (cD g A B) one.length 0 l)/\G.length<=i/\S=[fO G]/\δ=[some (.d (aJ g)),some (.d (.tuple (one.map cq))),some (.d (.tuple (other.map cq))),some (.l 0),u,v,none,none,none]) ⟨[],_,_,fun l=>⟨fun h=>(by cases h),fun h=>(by cases h.1)⟩,dw _,rfl,rfl⟩ ?_ ?_
 ·rintro i d _ _ N hi ⟨G,u,v,gm,gl,rfl,rfl⟩ hN;obtain⟨l,el,rfl⟩:=jW hi;have il:=(List.getElem?_eq_some_iff.mp el).1;obtain⟨lp,ls⟩:=(hL.mem l).mp (bw el);have ll:=hL.short l (bw el);have af:∀l',l'∈L.take (i+1)↔l'∈L.take i\/l'=l:=fun l'=>by
   rw[take_add_one,el,rp];simp
  walk_at "d"
  walk_at "n"
  rw[<- zz,<- zz];refine Gy hg yw h2 ac lp ls fun c hc=>?_;walk_at "d"
  walk_at "n"
  refine Hk hg yw h2 ac lp yw ls hc ?_;walk_at "d";cases c with
  |true=>
   rw[eE];walk_at "d";refine⟨by unfold fO;rw[fj];omega,hN _ _ ⟨G++[l],_,_,fun l'=>?_,by rw[fx,jg];omega,?_,rfl⟩⟩
   ·rw[rp,gm,af,oq];constructor
    ·rintro(⟨h1,h2⟩|rfl)
     ·exact⟨.inl h1,h2⟩
     ·exact⟨.inr rfl,hc.mp rfl⟩
    ·rintro⟨h1|h1,h2⟩
     ·exact .inl ⟨h1,h2⟩
     ·exact .inr h1
   ·unfold fO prL;rw[map_append,kq,map_nil,mo];rfl
  |false=>
   refine hN _ _ ⟨G,_,_,fun l'=>?_,yw,rfl,rfl⟩;rw[gm,af];constructor
   ·rintro⟨h1,h2⟩;exact⟨.inl h1,h2⟩
   ·rintro⟨h1|rfl,h2⟩
    ·exact⟨h1,h2⟩
    ·exact absurd (hc.mpr h2) yv
 rintro _ _ ⟨G,u,v,gm,gl,rfl,rfl⟩;rw[fj]at gl gm;rw[take_length]at gm;have aa:∀l,l∈G↔Gr (cD g A B) one.length 0 l:=fun l=>by
  rw[gm,hL.mem];exact⟨fun h=>h.2,fun h=>⟨⟨h.pos,by have:=h.sum;omega⟩,h⟩⟩
 walk_at "d"
 walk_at "n"
 have nn:((one.length:Nat):Int).toNat=one.length:=yw
 have ah:((one.length:Int)+1).toNat=one.length+1:=yw
 rw[nn,ah,repf,repf];refine⟨yw,yw,yw,yw,yw,yw,yw,yw,yw,by rw[mv];omega,?_⟩;walk_at "n";rw[nn,repf];refine⟨yw,yw,yw,?_⟩;refine eY (fun i δ S=>∃(u v w:Option XV),S=[fO G]/\δ=[some (.d (aJ g)),some (.d (.tuple (one.map cq))),some (.d (.tuple (other.map cq))),some (.l 0),u,v,some (.d (.list (p9 one.length))),w,none]) ⟨_,_,_,rfl,rfl⟩ ?_ ?_
 ·rintro i th _ _ N hi ⟨u,v,w,rfl,rfl⟩ hN;have od:=HH one.length h1 th (bw hi);have done:N [some (.d (aJ g)),some (.d (.tuple (one.map cq))),some (.d (.tuple (other.map cq))),some (.l 0),u,v,some (.d (.list (p9 one.length))),some (.d th),none] [fO G]:=hN _ _ ⟨_,_,_,rfl,rfl⟩;have ag:ge (.tuple (one.map cq))=true:=(sI (jG fun _ _=>(jX:Shp 0 _))).ok;walk_at "d";rcases od.no with ⟨rfl,h0⟩|no
  ·refine .inl ⟨rfl,rfl,?_⟩;rw[cn dz];refine⟨ag,rfl,?_⟩;rw[Gv,gg h0,cn yv];rw[gg h0]at done;exact done
  ·have y:∀{R1:RX},R1 (.d (.bool true)) []->gL [.d (aJ g),.d (.tuple (one.map cq)),.d (.tuple (other.map cq)),.d th,.d (.bool false)] [] R1:=fun h=>by
    rw[<- zz,<- zz];exact D6 hg yw h2 no h
   rcases od.sh with sh|rfl
   ·refine .inl ⟨sh,rfl,?_⟩;split
    ·refine y ?_;walk_at "d";exact done
    ·refine⟨ag,rfl,?_⟩;split
     ·refine y ?_;walk_at "d";exact done
     ·exact done
   ·refine .inr ⟨rfl,y ?_⟩;walk_at "d";exact done
 rintro _ _ ⟨u,v,w,rfl,rfl⟩;walk_at "d"
 walk_at "n"
 rw[<- zz one,<- zz other];refine vO hg yw h2 fun A' B' o ai hb=>?_;obtain⟨rfl,rfl⟩:=ac.uniq ai;walk_at "d";walk_at "n";refine⟨shG G,rfl,?_⟩;rw[Hb];by_cases gz:G=[]
 ·subst gz;rw[cu (by rfl)];cases o with
  |some l=>exact absurd ((aa l).mpr hb.g) yv
  |none=>exact q
 ·rw[cn (by unfold fO;simpa using gz)];cases o with
  |none=>
   cases G with
   |nil=>exact absurd rfl gz
   |cons l G=>exact absurd ((aa l).mp yv) (hb l)
  |some l=>
   have hm:MinG (cD g A B) one.length 0 l:=hb;have ll:=hm.g.len;rw[show dH (some l)=bL l from rfl,eE];walk_at "d";refine cmp1 (S0:=[fO G]) (fun k:Nat=>.bool true) rfl l yw ?_ ?_
   ·intro k mk u acc R' hk;walk_at "d";refine Ij ?_;walk_at "d";exact hk _
   walk_at "d";refine⟨l.map fun _=>true,by rw[mo];rfl,?_⟩;rw[cu (by rw[all_map];exact all_eq_true.mpr fun _ _=>rfl)];refine⟨G.map fun l=>((l.length:Int),l.map fun k:Nat=>(k:Int)),by unfold fO;rw[mo];rfl,by simpa using gz,fun m mm ae=>?_⟩;obtain⟨l0,aj,rfl⟩:=mem_map.mp mm;have g0:=(aa l0).mp aj;have e:l=l0:=by
    have lx:=ae _ (rm ((aa l).mpr hm.g));dsimp only at lx;rw[HT.lexLt_cons]at lx;rcases hm.m l0 g0 with z|⟨z,rfl|z⟩
    ·rw[cn yw]at lx;have:=of_decide_eq_false lx;omega
    ·rfl
    ·rw[cu yw,wB z]at lx;cases lx
   subst e;unfold prL;walk_at "d";rw[mo,show (cq∘fun k:Nat=>(k:Int))=fun k:Nat=>cq k from rfl,SeqAt.eqv_refl _ (iz (shN l))];exact⟨shN l,shN l,q⟩
theorem CV{EX:EXD}{g:bv}{one other:List Int}(h2:one.length≠other.length)(q:EX 126 []):mJ [.d g,.d (aF one),.d (aF other)] [] R EX:=by
 unfold mJ;rw[zz,zz];walk_at "d"
 walk_at "n"
 rw[cu yw];exact q
theorem Fq{EX:EXD}{g:bv}{one other:List Int}(h2:one.length≠other.length)(q:EX 126 []):pH [.d g,.d (aF one),.d (aF other)] [] R EX:=by
 unfold pH;walk_at "d"
 walk_at "n"
 exact CV h2 q
theorem DJ{EX:EXD}{g th:bv}{one other:List Int}(h2:one.length≠other.length)(q:EX 126 []):pP [.d g,.d (aF one),.d (aF other),.d th] [] R EX:=by
 unfold pP;walk_at "d"
 walk_at "n"
 exact CV h2 q
theorem AA{y:Int}{g:bv}{one other:List Int}(h2:one.length≠other.length)(q:R (.d (.tuple [.str "unlike",.none])) []):oY [.d (.int y),.d g,.d (aF one),.d (aF other)] [] R:=by
 unfold oY;walk_at "d";by_cases w0:y=0
 ·rw[cu w0];refine Fq h2 ⟨by decide,?_⟩;walk_at "d";refine⟨126,_,rfl,v4 dz ?_⟩;rw[show uY 126=gk "unlike" by decide];walk_at "d";exact q
 ·rw[cn w0];rw[zz one];walk_at "d";rw[<- zz one];refine DJ h2 ⟨by decide,?_⟩;walk_at "d";refine⟨126,_,rfl,v4 dz ?_⟩;rw[show uY 126=gk "unlike" by decide];walk_at "d";exact q
theorem Gf{g:Gap}{one other:List Int}(h2:one.length≠other.length)(q:R (.d (.bool true)) []):zy [.d (aJ g),.d (aF one),.d (aF other)] [] R:=by
 unfold zy;rw[zz,zz];walk_at "d"
 walk_at "n"
 rw[cu yw,<- zz one,<- zz other];walk_at "d";have sh:ge (qp [PyData.str (gk "unlike"),PyData.none])=true:=by decide +kernel
 have er:kv (qp [PyData.str (gk "unlike"),PyData.none]) (qp [PyData.str (gk "unlike"),PyData.none])=true:=SeqAt.eqv_refl _ (iz sh);refine AA h2 ?_;walk_at "d";refine⟨sh,sh,?_⟩;rw[cu er];refine AA h2 ?_;walk_at "d";refine⟨sh,sh,?_⟩;rw[er];exact q
end
section
variable {R:RX}{S:Sto}
theorem IP{one other:List Int}{rest:DEnds->XE->Sto->Prop}{E:DEnds}{x0 x1 x2 x3 x6 x7:Option XV}{S:Sto}(h:∀m:Nat,m=min one.length other.length->rest E [x0,x1,x2,x3,some (.d (.tuple (one.map cq))),some (.d (.tuple (other.map cq))),some (.d (.int (m:Nat))),x7] S):
  aA (aC (dCB (dI2 fun i j=>if j<i then j else i) (zb (dCB aO (zb (zi 4) zo)) (zb (dCB aO (zb (zi 5) zo)) zo))) (zm 6)) rest E [x0,x1,x2,x3,some (.d (.tuple (one.map cq))),some (.d (.tuple (other.map cq))),x6,x7] S:=by
 walk_at "n";rw[show (if (other.length:Int)<(one.length:Int)then (other.length:Int)else (one.length:Int))=((min one.length other.length:Nat):Int)from by split<;>omega];exact h _ rfl
theorem xZ(ns:List Int):cS (ns.map cq)=true:=by
 induction ns with
 |nil=>rfl
 |cons x l ih=>exact ih
theorem Cq(ns:List Nat):cS (ns.map fun k:Nat=>cq k)=true:=by
 induction ns with
 |nil=>rfl
 |cons x l ih=>exact ih
theorem fM{g:Gap}{s t:Int}{one other:List Int}(hg:Gp2 g s t)(h1:one.length<=6)(q:R (.d (.bool true)) []):zy [.d (aJ g),.d (aF one),.d (aF other)] [] R:=by
 by_cases e:one.length=other.length
 ·exact FU hg h1 e.symm q
 ·exact Gf e q
theorem FJ(a:Addr)(n:Int):tT (Hz a 7) ((some (.o (.ref a))::bu 7 none).set 2 (some (.d (.int n)))) []:=by
 unfold tT;walk_at "d"
 walk_at "n"
 refine Fv fun p hp=>?_;walk_at "d"
 walk_at "n"
 refine IL hp dz dz fun g s t one other p1 hg h1 h2 l1 l2 hw aa=>?_;walk_at "d";rw[zz,zz];refine IP fun m em=>?_;have o1:(one.take m).length=m:=by rw[kz];omega
 have o2:(other.take m).length=m:=by rw[kz];omega
 have m5:m<=5:=yw
 walk_at "n";rw[<- zz one,<- zz other];refine fM hg yw ?_;walk_at "d";rw[gC,gC,<- zz (one.take m),<- zz (other.take m)];refine fM hg yw ?_;walk_at "d";refine seq1 ?_;rw[zz one,zz other];walk_at "d";have eg:aJ g=.tuple [.tuple [.tuple [.int 0,.int s],.tuple [.int 1,.int t]],.int g.lo,.int g.hi]:=by
  rw[jT];unfold i6;rw[hg.ts];rfl
 have nl:cS [aJ g,qp ((one.take m).map cq),qp ((other.take m).map cq)]=true:=by
  rw[eg];have n1:=xZ (one.take m);have n2:=xZ (other.take m);generalize (one.take m).map cq=x1 at n1 ⊢;generalize (other.take m).map cq=x2 at n2 ⊢;simp[cS,iG,n1,n2]
 rw[gC,gC];refine⟨nl,?_⟩;have ea:(qp ((one.take m).map cq++[cq 0]))=aF (one.take m++[0]):=by rw[zz,map_append];rfl
 have la:(one.take m++[0]).length<=6:=by rw[fx,jg];omega
 rw[<- zz (one.take m),<- zz (other.take m)];refine vO hg yw yw fun A B o y hb=>?_;cases o with
 |none=>
  rw[show dH none=.none from rfl];walk_at "d";walk_at "n";rw[gC,gC,ea,fj,<- zz (one.take m),<- zz (other.take m)];refine fM hg yw ?_;walk_at "d";refine⟨yw,?_⟩;refine fM hg la ?_;walk_at "d"
 |some l=>
  have ll:=(show MinG _ _ _ l from hb).g.len;rw[show dH (some l)=.list (l.map fun k:Nat=>.int k)from rfl];walk_at "d";refine⟨Cq l,?_⟩;walk_at "n";refine⟨yw,?_⟩;rw[gC,gC,ea,fj,<- zz (one.take m),<- zz (other.take m)];refine fM hg yw ?_;walk_at "d";refine⟨yw,?_⟩;refine fM hg la ?_;walk_at "d"
theorem Ik(a:Addr):rW (Bp a 7) (some (.o (.ref a))::bu 7 none) []:=by
 unfold rW;walk_at "d";walk_at "n";rw[GY];refine fM (one:=[]) (other:=[]) gp52 dz ?_;walk_at "d";refine fM (one:=[3,4]) (other:=[3,3]) gp52 dz ?_;walk_at "d";refine fM (one:=[3]) (other:=[]) gp52 dz ?_;walk_at "d"
end
end My
namespace My
open PySem L2
def top (i : Nat) : Stmt := PySem.Challenge.pw_gaugewright_k51_groupings_gone_through.main.body.getD i (.Pass ⟨0, 0, 0, 0⟩)
abbrev B1:Stmt:=top 31
theorem Gc:FnScope ["script","k"] ["script","k"] (zh B1):=fsd
abbrev yK:Stmt:=top 33
theorem CH:FnScope ["cell","left"] ["cell"] (zh yK):=fsd
abbrev AH:Stmt:=top 32
theorem Bk:FnScope ["seed"] ["seed"] (zh AH):=fsd
abbrev Az:Stmt:=top 34
theorem CT:FnScope ["pen","many","found"] ["pen","many"] (zh Az):=fsd
abbrev tX:Stmt:=top 37
theorem Ar:FnScope ["pen","most","base","wide","many"] ["pen","most","base","wide"] (zh tX):=fsd
abbrev yF:Stmt:=top 36
theorem xA:FnScope ["pen","way"] ["pen"] (zh yF):=fsd
abbrev rS:Stmt:=top 38
theorem fJ:FnScope ["pen","most","bases","wide","s","t","far","low","high","one"] ["pen","most"] (zh rS):=fsd
abbrev tO:Stmt:=top 25
theorem IN:FnScope ["terms"] ["terms"] (zh tO):=fsd
abbrev Am:Stmt:=top 24
theorem BB:FnScope ["gap","one","other"] ["gap","one","other"] (zh Am):=fsd
abbrev sK:Stmt:=top 3
theorem Fh:FnScope ["gap","one"] ["gap","one"] (zh sK):=fsd
abbrev AS:Stmt:=top 4
theorem G0:FnScope ["gap","one"] ["gap","one"] (zh AS):=fsd
abbrev sJ:Stmt:=top 8
theorem FV:FnScope ["gap","number","other"] ["gap","number","other"] (zh sJ):=fsd
abbrev rY:Stmt:=top 7
theorem GN:FnScope ["gap","one","other"] ["gap","one","other"] (zh rY):=fsd
abbrev t7:Stmt:=top 6
theorem qR:FnScope ["gap","one","other","found","i","partners"] ["gap","one","other"] (zh t7):=fsd
abbrev A7:Stmt:=top 9
theorem Hi:FnScope ["gap","one","other"] ["gap","one","other"] (zh A7):=fsd
abbrev vZ:Stmt:=top 27
theorem Gh:FnScope ["gap","rows","begin","size"] ["gap","rows","begin","size"] (zh vZ):=fsd
abbrev CA:Stmt:=top 29
theorem qT:FnScope ["gap","rows","begin","behind","found","size","further"] ["gap","rows","begin","behind"] (zh CA):=fsd
abbrev xO:Stmt:=top 28
theorem zY:FnScope ["gap","one","other","rows","groupings","begin"] ["gap","one","other"] (zh xO):=fsd
abbrev rK:Stmt:=top 43
theorem sX:FnScope ["many","found","size"] ["many"] (zh rK):=fsd
abbrev jY:Stmt:=top 41
theorem oU:FnScope ["gap","one","other","mine","sign","yours"] ["gap","one","other"] (zh jY):=fsd
abbrev vT:Stmt:=top 39
theorem qX:FnScope ["gap","here","there","terms","low","high"] ["gap","here","there"] (zh vT):=fsd
abbrev sO:Stmt:=top 42
theorem iN:FnScope ["gap","one","other","sizes","mine","yours","first","size","i"] ["gap","one","other","sizes"] (zh sO):=fsd
abbrev B9:Stmt:=top 1
theorem Ea:FnScope ["thing"] ["thing"] (zh B9):=fsd
abbrev uN:Stmt:=top 26
theorem Ge:FnScope ["pieces","thing"] ["pieces","thing"] (zh uN):=fsd
abbrev BQ:Stmt:=top 23
theorem zB:FnScope ["gap","one","other","thing","rows","begin","size"] ["gap","one","other","thing"] (zh BQ):=fsd
abbrev CI:Stmt:=top 40
theorem oM:FnScope ["e","marks","words"] ["e"] (zh CI):=fsd
abbrev AN:Stmt:=top 44
theorem vQ:FnScope ["way","gap","one","other","e"] ["way","gap","one","other"] (zh AN):=fsd
abbrev yL:Stmt:=top 45
theorem AE:FnScope ["gap","one","other","thing","due","found"] ["gap","one","other","thing","due"] (zh yL):=fsd
abbrev An:Stmt:=top 35
theorem EO:FnScope ["found"] ["found"] (zh An):=fsd
abbrev u5:Stmt:=top 46
theorem jR:FnScope ["gap","one","other","good","sizes","good_here","odd","thing","found"] ["gap","one","other"] (zh u5):=fsd
abbrev s_law:Stmt:=top 47
theorem fL:FnScope ["script","gap","cell","pen","one","other","many","told"] ["script"] (zh s_law):=fsd
structure Txt(mg:Str->Option bo):Prop where
 n_min:mg "min" = none
 n_len:mg "len" = none
 n_max:mg "max" = none
 n_int:mg "int" = none
 n_tuple:mg "tuple" = none
 n_range:mg "range" = none
 n_abs:mg "abs" = none
 n_sorted:mg "sorted" = none
 n_sum:mg "sum" = none
 n_enumerate:mg "enumerate" = none
 n_all:mg "all" = none
 n_isinstance:mg "isinstance" = none
 n_bool:mg "bool" = none
 n_list:mg "list" = none
 n_ValueError:mg "ValueError" = none
structure Dds(K:cw)(mg:Str->Option bo):Prop where
 a0:Dd K mg "_law_cell_at" B1 ["script","k"]
 a1:Dd K mg "_law_pen" yK ["cell"]
 a2:Dd K mg "_law_next" AH ["seed"]
 a3:Dd K mg "_law_draw" Az ["pen","many"]
 a4:Dd K mg "_law_box" tX ["pen","most","base","wide"]
 a5:Dd K mg "_law_number" yF ["pen"]
 a6:Dd K mg "_law_boxes" rS ["pen","most"]
 a7:Dd K mg "just_one_below_nought" tO ["terms"]
 a8:Dd K mg "rows_of" Am ["gap","one","other"]
 a9:Dd K mg "worth_of" sK ["gap","one"]
 a10:Dd K mg "keeps" AS ["gap","one"]
 a11:Dd K mg "fitting_pieces" sJ ["gap","number","other"]
 a12:Dd K mg "partners_of" rY ["gap","one","other"]
 a13:Dd K mg "pairs" t7 ["gap","one","other"]
 a14:Dd K mg "all_fit" A7 ["gap","one","other"]
 a15:Dd K mg "group_fits" vZ ["gap","rows","begin","size"]
 a16:Dd K mg "least_grouping" CA ["gap","rows","begin","behind"]
 a17:Dd K mg "grouping_of" xO ["gap","one","other"]
 a18:Dd K mg "_law_sizes" rK ["many"]
 a19:Dd K mg "_law_rows" jY ["gap","one","other"]
 a20:Dd K mg "_law_fits" vT ["gap","here","there"]
 a21:Dd K mg "_law_holds" sO ["gap","one","other","sizes"]
 a22:Dd K mg "is_whole" B9 ["thing"]
 a23:Dd K mg "is_grouping" uN ["pieces","thing"]
 a24:Dd K mg "grouping_holds" BQ ["gap","one","other","thing"]
 a25:Dd K mg "_law_kind" CI ["e"]
 a26:Dd K mg "_law_tried" AN ["way","gap","one","other"]
 a27:Dd K mg "_law_held" yL ["gap","one","other","thing","due"]
 a28:Dd K mg "_law_whole" An ["found"]
 a29:Dd K mg "_law_right" u5 ["gap","one","other"]
structure Exx(K:cw)(mg:Str->Option bo):Prop where
 ex:Exs K
 m_GaugeError:mg "GaugeError" = some (.ref 65)
 m_NoSpan:mg "NoSpan" = some (.ref 78)
 m_NoPart:mg "NoPart" = some (.ref 90)
 m_NoSet:mg "NoSet" = some (.ref 102)
 m_NoRow:mg "NoRow" = some (.ref 114)
 m_Unlike:mg "Unlike" = some (.ref 126)
 m_NoDrawing:mg "NoDrawing" = some (.ref 145)
 m_NoGap:mg "NoGap" = some (.ref 164)
 m_NoOffer:mg "NoOffer" = some (.ref 183)
 m_NoText:mg "NoText" = some (.ref 202)
 m_TooGreat:mg "TooGreat" = some (.ref 221)
 c_GaugeError:ExCls K 65 none
 c_NoSpan:ExCls K 78 none
 c_NoPart:ExCls K 90 none
 c_NoSet:ExCls K 102 none
 c_NoRow:ExCls K 114 none
 c_Unlike:ExCls K 126 none
section
variable {P:fq}{w:gw}{K:cw}{mg:Str->Option bo}{base:Heap}
local macro_rules|`(tactic|walk_at "r")=>do
 let ts<-("ze 2,zj 0,zp 0,zZ 0,zt 0,bM 1,zL 2,cG 2,jC 0,zL 0,cJ 2,iV 0,fG 0,o7 0,eU 3,iB 1,ze 0,FD 0,uL 0,fK 0,bT 1,c9 1,pF 2,bU 2,d8 1,BI 0,rT 0,eO 4,dZ 1,dR 0,pZ 0,C8 1,rH 0,fF 0,fB 0,r9 0,bM 0,kT 3,Id 0,cG 0,fQ 0,FE 0,oQ 2,oI 0,dL 1,tK 0,fR 1,nF 1,mS 3,kT 0,Hg 5,AD 0,Ak 0,eU 0,dZ 0,c9 0,qK 0,oP 2,iB 0,sE 0,g9 2,BF 0,EY 0,D7 2,wG 0,EF 0,F9 0,At 0,nF 0,mS 0,uK 0,FZ 2,GV 1,C9 0,Gq 2,Gx 1,g9 0,t0 0,oP 0,DF 0,Fz 0,Cs 1,Ey 0,o9 1,Hr 1,Hh 1,GR 0,El 1,Cf 0,HJ 0,Co 1,Fo 0,AG 2,Bd 1,bG 3,aZ 2,aZ 0,jV 1,bG 0,jV 0".splitOn ",").toArray.mapM fun x=>do
  let i:=x.splitOn " "
  let h<-`(term|?_)
  let hs:=Array.replicate ((i.getD 1 "").toNat!) h
  `(Lean.Parser.Tactic.tacticSeq|refine $(Lean.mkIdent (i.getD 0 "").toName) $hs*)
 `(tactic|repeat' (first|with_reducible (first $[|$ts:tacticSeq]*)|rfl))
theorem Eu(T:Txt mg:=by assumption)(dd:Dds K mg:=by assumption):Df P w K mg base "_law_cell_at" ["script","k"] 1 (sp2 (rJ K)):=by
 refine Df.of2 dd.a0 Gc (fun v u=>[some v,some u]) (fun _ _=>rfl) fun f y A outer s H v u Q E hr h=>?_;obtain⟨a,ns,i,rfl,rfl,hS,h0,q⟩:=h;refine⟨_,(zf (aS (bW qU (pv 1) (zk DR (by rfl) T.n_len aV (za (pv 0) zc)) (nomark _)) (zl (zv (aL yN (pv 0) (pv 1) (fun _ _=>rfl)))) zP) (zl (zv zg))),?_⟩;simp only[e9,iZ,rL,tOp,FP,tCB,f7,jU,qM,tC,uF,CF,nc,ng];refine⟨a,_,rfl,.inl hS,?_⟩;simp only[CF,F7,decide_eq_true_eq];refine ite2 (fun hi=>?_) (fun _=>q 0);obtain⟨n,e⟩:=FT h0 hi;exact⟨a,_,i,_,rfl,rfl,hS,e,q n⟩
variable (T:Txt mg:=by assumption) (dd:Dds K mg:=by assumption) (xx:Exx K mg:=by assumption)
include T dd xx
theorem IH:Df P w K mg base "_law_pen" ["cell"] 1 (spN ["cell"] rO):=by
 exact Df.dN dd.a1 CH 1 rfl fun f y A outer s H E hr=>⟨_,_,(zf (zJ (i:=1) CH.nd rfl lo (zk (Gk rfl) (by rfl) T.n_max HQ (za (pv 0) (za (zE gG zg (pv 0)) zc)))) (zl (zv (aQ (za (pv 1) (za (sV Ho (by rfl) T.n_int tZ (za (hU Av (pv 1) (zE qO zg zg) (nomark _)) zc)) (za (zE kY (pv 1) zg) zc))))))),(by walk_at "r"),fun xs S R q=>q⟩
theorem xG:Df P w K mg base "_law_next" ["seed"] 1 (spN ["seed"] mG):=by
 exact Df.dN dd.a2 Bk 0 rfl fun f y A outer s H E hr=>⟨_,_,(zf (zJ (i:=0) Bk.nd rfl lo (zE kY (zE zM (pv 0) zg) zg)) (zl (zv (zE kY (zE zM (zE zM (zE bP (pv 0) (pv 0)) (zE bP zg (pv 0))) zg) zg)))),(by walk_at "r"),fun xs S R q=>q⟩
theorem eH:Df P w K mg base "_law_draw" ["pen","many"] 2 (spN ["pen","many"] zF):=by
 exact Df.dN dd.a3 CT 1 rfl fun f y A outer s H E hr=>⟨_,_,(zf (aS (bW (dW hr.units) (aL zS (pv 0) zg (fun _ _=>rfl)) zg (nomark _)) (zf (zJ (i:=2) CT.nd rfl lo (zE kY (aL zS (pv 0) zg (fun _ _=>rfl)) (pv 1))) (zf (kO (zE wE (aL zS (pv 0) zg (fun _ _=>rfl)) (pv 1)) (BA (pv 0) zg xT)) (zl (zv (pv 2))))) zP) (zf (kO (zu xG hr dz (za (zE zM (zu xG hr dz (za (aL zS (pv 0) zg (fun _ _=>rfl)) zc)) zg) zc)) (BA (pv 0) zg xT)) (zl (zv (zE kY (zE wE (aL zS (pv 0) zg (fun _ _=>rfl)) zg) (pv 1)))))),(by walk_at "r"),fun xs S R q=>q⟩
theorem BH:Df P w K mg base "_law_box" ["pen","most","base","wide"] 3 (spN ["pen","most","base","wide"] mX):=by
 exact Df.dN dd.a4 Ar 1 rfl fun f y A outer s H E hr=>⟨_,_,(zf (zJ (i:=4) Ar.nd rfl lo (zu eH hr dz (za (pv 0) (za (zE zM (pv 1) zg) zc)))) (zf (aS (bW (dW hr.units) (zu eH hr dz (za (pv 0) (za zg zc))) zg (nomark _)) (zl (zv (zE Hf (aT (za (pv 2) zc)) (pv 4)))) zP) (zl (zv (sV xH (by rfl) T.n_tuple Aa (za (dJ (fun _ _ h=>h) rfl (cL rfl rfl rfl rfl (N:=["k","base","pen","wide"]) (caps:=[none,some 2,some 0,some 3]) (by show b8 ["pen","most","base","wide","many"] (zh tX).names _ _ _=true;decide +kernel)) (w8 rfl T.n_range (za (pv 4) zc)) (fun _ _ _ _=>(zr (i:=0) (by show je (["k","base","pen","wide"]:List Str);decide) rfl (jb rfl))) (fun _ _ _ _=>dA) (fun _ _ _ _=>(zE zM (pv 1) (zu eH hr dz (za (pv 2) (za (pv 3) zc)))))) zc)))))),(zL (by walk_at "r") (zL (by walk_at "r") (bM (aZ wG (ze (cZ (Ab (ze zj zp)) zt dE (bG iV zj (pF (i:=0) (ze zj (ze zj zp))))) zp))))),fun xs S R q=>q⟩
theorem Al:Df P w K mg base "_law_number" ["pen"] 3 (spN ["pen"] pW):=by
 exact Df.dN dd.a5 xA 1 rfl fun f y A outer s H E hr=>⟨_,_,(zf (zJ (i:=1) xA.nd rfl lo (zu eH hr dz (za (pv 0) (za zg zc)))) (zf (aS (bW qU (pv 1) zg (nomark _)) (zl (zv (zE gG (zu eH hr dz (za (pv 0) (za zg zc))) zg))) zP) (zf (aS (bW qU (pv 1) zg (nomark _)) (zl (zv (zE gG (zu eH hr dz (za (pv 0) (za zg zc))) zg))) zP) (zl (zv (zE bP (zE gG (zu eH hr dz (za (pv 0) (za (zE bP zg (zE qO zg zg)) zc))) (zE qO zg zg)) (zE qO zg zg))))))),(by walk_at "r"),fun xs S R q=>q⟩
theorem DU:Df P w K mg base "_law_boxes" ["pen","most"] 4 (spN ["pen","most"] qV):=by
 exact Df.dN dd.a6 fJ 8 rfl fun f y A outer s H E hr=>⟨_,_,(zf (zJ (i:=2) fJ.nd rfl lo (aQ (za (zu Al hr dz (za (pv 0) zc)) (za (zu Al hr dz (za (pv 0) zc)) zc)))) (zf (zJ (i:=3) fJ.nd rfl lo (aL zS (aQ (za zg (za zg (za zg (za zg zc))))) (zu eH hr dz (za (pv 0) (za zg zc))) (fun _ _=>rfl))) (zf (kO (dJ (fun _ _ h=>h) rfl (cL rfl rfl rfl rfl (N:=["k","pen"]) (caps:=[none,some 0]) (by show b8 ["pen","most","bases","wide","s","t","far","low","high","one"] (zh rS).names _ _ _=true;decide +kernel)) (w8 rfl T.n_range (za zg zc)) (fun _ _ _ _=>(zr (i:=0) (by show je (["k","pen"]:List Str);decide) rfl (jb rfl))) (fun _ _ _ _=>dA) (fun _ _ _ _=>(aL zS (oC (zK zg (zK (eW e8 zg) (zK zg (zK (eW e8 zg) (zK zg (zK (eW e8 zg) fU))))))) (zu eH hr dz (za (pv 1) (za zg zc))) (fun _ _=>rfl)))) (Dv (n:=2) rfl (zD (zr (i:=4) fJ.nd rfl (jb rfl)) (zD (zr (i:=5) fJ.nd rfl (jb rfl)) dD)))) (zf (zJ (i:=6) fJ.nd rfl lo (zE bP (pv 3) (zE zM (zk BM (by rfl) T.n_abs BS (za (pv 4) zc)) (zk BM (by rfl) T.n_abs BS (za (pv 5) zc))))) (zf (zJ (i:=7) fJ.nd rfl lo (zE gG (zE zM (zE zM (zE bP (pv 4) (aL zS (pv 2) zg (fun _ _=>rfl))) (zE bP (pv 5) (aL zS (pv 2) zg (fun _ _=>rfl)))) (zu eH hr dz (za (pv 0) (za (zE zM (zE bP zg (pv 6)) zg) zc)))) (pv 6))) (zf (zJ (i:=8) fJ.nd rfl lo (zE zM (pv 7) (aL zS (oC (zK zg (zK zg (zK zg (zK (pv 3) (zK (pv 6) (zK (zE bP zg (pv 3)) fU))))))) (zu eH hr dz (za (pv 0) (za zg zc))) (fun _ _=>rfl)))) (zf (zJ (i:=9) fJ.nd rfl lo (zu BH hr dz (za (pv 0) (za (pv 1) (za (aL zS (pv 2) zg (fun _ _=>rfl)) (za (pv 3) zc)))))) (zl (zv (aT (za (aT (za (aT (za (aT (za zg (za (pv 4) zc))) (za (aT (za zg (za (pv 5) zc))) zc))) (za (pv 7) (za (pv 8) zc)))) (za (pv 9) (za (zu BH hr dz (za (pv 0) (za (pv 1) (za (aL zS (pv 2) zg (fun _ _=>rfl)) (za (pv 3) zc))))) zc))))))))))))),(zL (by walk_at "r") (zL (by walk_at "r") (zL (cG (cZ (Ab (ze zZ zp)) zt dE (bG jC (iB (ze zZ (ze (oQ oI zZ) (ze zZ (ze (oQ oI zZ) (ze zZ (ze (oQ oI zZ) zp))))))) (pF (i:=0) (ze zj (ze zZ zp))))) (by walk_at "r")) (by walk_at "r")))),fun xs S R q=>q⟩
theorem w4:Df P w K mg base "just_one_below_nought" ["terms"] 1 (spN ["terms"] zN):=by
 exact Df.dN dd.a7 IN 0 rfl fun f y A outer s H E hr=>⟨_,_,(zl (zv (hU (dW hr.units) (zk zA (by rfl) T.n_len aV (za (dJ (fun _ _ h=>h) rfl (cL (L:=0) rfl rfl rfl rfl (N:=["part","times"]) (caps:=[none,none]) (by show b8 ["terms"] (zh tO).names _ _ _=true;decide +kernel)) (cF (pv 0)) (fun _ _ _ _=>(dY (n:=2) rfl (zD (zr (i:=0) (by show je (["part","times"]:List Str);decide) rfl (jb rfl)) (zD (zr (i:=1) (by show je (["part","times"]:List Str);decide) rfl (jb rfl)) dD)))) (fun _ _ _ _=>(wP (bW qU (pv 1) zg (nomark _)))) (fun _ _ _ _=>(pv 1))) zc)) zg (nomark _)))),(bM (bG rT (aZ o7 (ze (cZ (dL zj) (fR (bU zt (bU zt fQ))) (jV (bG rH zj zZ)) zj) zp)) zZ)),fun xs S R q=>q⟩
theorem Aq:DfX P w K mg base "rows_of" ["gap","one","other"] 2 (spX ["gap","one","other"] mJ):=by
 exact DfX.dN dd.a8 BB 0 rfl fun f y A outer s H E EX hr=>⟨_,_,(zf (aS (PT.nox (bW (kJ hr.units) (zk zA (by rfl) T.n_len aV (za (pv 1) zc)) (zk zA (by rfl) T.n_len aV (za (pv 2) zc)) (nomark _))) (zl (Go rfl raises1 rfl xx.m_Unlike xx.c_Unlike)) zP) (PSs.nox (zf (aS (zQ (zu w4 hr dz (za (aL zS (pv 0) zg (fun _ _=>rfl)) zc)) (fun _=>rfl)) (zl (zv (aT (za (zk kH (by rfl) T.n_sorted fA (za (pv 1) zc)) (za (zk kH (by rfl) T.n_sorted fA (za (pv 2) zc)) zc))))) zP) (zl (zv (aT (za (zk kH (by rfl) T.n_sorted fA (za (pv 1) zc)) (za (vL (by rfl) T.n_sorted (za (pv 2) zc)) zc)))))))),(tN (EE (Fw (by walk_at "r")) Iy (qP fG)) (qP (by walk_at "r"))),fun xs S R q=>q⟩
theorem CN:Df P w K mg base "rows_of" ["gap","one","other"] 2 (spN ["gap","one","other"] nU):=by
 exact Df.dN dd.a8 BB 0 rfl fun f y A outer s H E hr=>⟨_,_,(zf (aS (bW (kJ hr.units) (zk zA (by rfl) T.n_len aV (za (pv 1) zc)) (zk zA (by rfl) T.n_len aV (za (pv 2) zc)) (nomark _)) (zl Ci) zP) (zf (aS (zQ (zu w4 hr dz (za (aL zS (pv 0) zg (fun _ _=>rfl)) zc)) (fun _=>rfl)) (zl (zv (aT (za (zk kH (by rfl) T.n_sorted fA (za (pv 1) zc)) (za (zk kH (by rfl) T.n_sorted fA (za (pv 2) zc)) zc))))) zP) (zl (zv (aT (za (zk kH (by rfl) T.n_sorted fA (za (pv 1) zc)) (za (vL (by rfl) T.n_sorted (za (pv 2) zc)) zc))))))),(by walk_at "r"),fun xs S R q=>q⟩
theorem FW:Df P w K mg base "worth_of" ["gap","one"] 1 (spN ["gap","one"] pT):=by
 exact Df.dN dd.a9 Fh 0 rfl fun f y A outer s H E hr=>⟨_,_,(zl (zv (zk (v5 rfl) (by rfl) T.n_sum xQ (za (dJ (fun _ _ h=>h) rfl (cL rfl rfl rfl rfl (N:=["part","times","one"]) (caps:=[none,none,some 1]) (by show b8 ["gap","one"] (zh sK).names _ _ _=true;decide +kernel)) (cF (aL zS (pv 0) zg (fun _ _=>rfl))) (fun _ _ _ _=>(dY (n:=2) rfl (zD (zr (i:=0) (by show je (["part","times","one"]:List Str);decide) rfl (jb rfl)) (zD (zr (i:=1) (by show je (["part","times","one"]:List Str);decide) rfl (jb rfl)) dD)))) (fun _ _ _ _=>dA) (fun _ _ _ _=>(zE bP (pv 1) (aL zS (pv 2) (pv 0) (fun _ _=>rfl))))) zc)))),(bM (aZ At (ze (cZ (dL (bG jC zj zZ)) (fR (bU zt (bU zt fQ))) dE (bG uL zj (bG jC zj zj))) zp))),fun xs S R q=>q⟩
theorem HU:Df P w K mg base "keeps" ["gap","one"] 2 (spN ["gap","one"] pI):=by
 exact Df.dN dd.a10 G0 0 rfl fun f y A outer s H E hr=>⟨_,_,(zl (zv (uG pR pR (aL zS (pv 0) zg (fun _ _=>rfl)) (zu FW hr dz (za (pv 0) (za (pv 1) zc))) (aL zS (pv 0) zg (fun _ _=>rfl))))),(by walk_at "r"),fun xs S R q=>q⟩
theorem F8:Df P w K mg base "fitting_pieces" ["gap","number","other"] 3 (spN ["gap","number","other"] pY):=by
 exact Df.dN dd.a11 FV 0 rfl fun f y A outer s H E hr=>⟨_,_,(zl (zv (dJ (fun _ _ h=>h) rfl (cL rfl rfl rfl rfl (N:=["j","its_number","gap","number"]) (caps:=[none,none,some 0,some 1]) (by show b8 ["gap","number","other"] (zh sJ).names _ _ _=true;decide +kernel)) (pC rfl T.n_enumerate (za (pv 2) zc)) (fun _ _ _ _=>(dY (n:=2) rfl (zD (zr (i:=0) (by show je (["j","its_number","gap","number"]:List Str);decide) rfl (jb rfl)) (zD (zr (i:=1) (by show je (["j","its_number","gap","number"]:List Str);decide) rfl (jb rfl)) dD)))) (fun _ _ _ _=>(wP (zQ (zu HU hr dz (za (pv 2) (za (aT (za (pv 3) (za (pv 1) zc))) zc))) (fun _=>rfl)))) (fun _ _ _ _=>(pv 0))))),(bM (A3 (o9 (ze zj zp)) (fR (bU zt (bU zt fQ))) (c9 (cJ (ze zj (ze (bT (ze zj (ze zj zp))) zp)))) zj)),fun xs S R q=>q⟩
theorem Cr:Df P w K mg base "partners_of" ["gap","one","other"] 4 (spN ["gap","one","other"] pO):=by
 exact Df.dN dd.a12 GN 0 rfl fun f y A outer s H E hr=>⟨_,_,(zl (zv (dJ (fun _ _ h=>h) rfl (cL rfl rfl rfl rfl (N:=["number","gap","other"]) (caps:=[none,some 0,some 2]) (by show b8 ["gap","one","other"] (zh rY).names _ _ _=true;decide +kernel)) (cF (pv 1)) (fun _ _ _ _=>(zr (i:=0) (by show je (["number","gap","other"]:List Str);decide) rfl (jb rfl))) (fun _ _ _ _=>dA) (fun _ _ _ _=>(zu F8 hr dz (za (pv 1) (za (pv 0) (za (pv 2) zc)))))))),(bM (A3 (dL zj) zt dE (cJ (ze zj (ze zj (ze zj zp)))))),fun xs S R q=>q⟩
theorem Ct:Df P w K mg base "pairs" ["gap","one","other"] 5 (spN ["gap","one","other"] qA):=by
 exact Df.dN dd.a13 qR 3 rfl fun f y A outer s H E hr=>⟨_,_,(zf (zJ (i:=3) qR.nd rfl lo (aQ zc)) (zf (dM jp rfl (pC rfl T.n_enumerate (za (zu Cr hr dz (za (pv 0) (za (pv 1) (za (pv 2) zc)))) zc)) (dY (n:=2) rfl (zD (zr (i:=4) qR.nd rfl (Or.inr rfl)) (zD (zr (i:=5) qR.nd rfl (jb rfl)) dD))) (zl (jO (gA PySem.F.plainAttrs_list PySem.F.slot_list_extend PySem.F.type_list_extend yI (pv 3) (za (dJ (fun _ _ h=>h) rfl (cL rfl rfl rfl rfl (N:=["j","i"]) (caps:=[none,some 4]) (by show b8 ["gap","one","other","found","i","partners"] (zh t7).names _ _ _=true;decide +kernel)) (cF (pv 5)) (fun _ _ _ _=>(zr (i:=0) (by show je (["j","i"]:List Str);decide) rfl (jb rfl))) (fun _ _ _ _=>dA) (fun _ _ _ _=>(aT (za (pv 1) (za (pv 0) zc))))) zc))))) (zl (zv (pv 3))))),(zL (by walk_at "r") (zL (kT (by walk_at "r") (by walk_at "r") (nF (mS uK zj (ze (cZ (dL zj) zt dE (bT (ze zj (ze zj zp)))) zp)))) (bM zj))),fun xs S R q=>q⟩
theorem Cc:Df P w K mg base "all_fit" ["gap","one","other"] 6 (spN ["gap","one","other"] rD):=by
 exact Df.dN dd.a14 Hi 0 rfl fun f y A outer s H E hr=>⟨_,_,(zl (zv (hU (dW hr.units) (zk zA (by rfl) T.n_len aV (za (zu Ct hr dz (za (pv 0) (za (pv 1) (za (pv 2) zc)))) zc)) (zE bP (zk zA (by rfl) T.n_len aV (za (pv 1) zc)) (zk zA (by rfl) T.n_len aV (za (pv 2) zc))) (nomark _)))),(by walk_at "r"),fun xs S R q=>q⟩
theorem sT:Df P w K mg base "group_fits" ["gap","rows","begin","size"] 7 (spN ["gap","rows","begin","size"] kC):=by
 exact Df.dN dd.a15 Gh 0 rfl fun f y A outer s H E hr=>⟨_,_,(zl (zv (zu Cc hr dz (za (pv 0) (za (cX rB (aL zS (pv 1) zg (fun _ _=>rfl)) (bX (pv 2)) (bX (zE zM (pv 2) (pv 3)))) (za (cX rB (aL zS (pv 1) zg (fun _ _=>rfl)) (bX (pv 2)) (bX (zE zM (pv 2) (pv 3)))) zc)))))),(by walk_at "r"),fun xs S R q=>q⟩
theorem wH:Df P w K mg base "least_grouping" ["gap","rows","begin","behind"] 8 (spN ["gap","rows","begin","behind"] lS):=by
 exact Df.dN dd.a16 qT 3 rfl fun f y A outer s H E hr=>⟨_,_,(zf (zJ (i:=4) qT.nd rfl lo (aQ zc)) (zf (dM jp rfl (Ha rfl T.n_enumerate (za (pv 3) zc)) (dY (n:=2) rfl (zD (zr (i:=5) qT.nd rfl (jb rfl)) (zD (zr (i:=6) qT.nd rfl (jb rfl)) dD))) (zl (aS (PW.pt (Bj (bW AZ (pv 6) iW (nomark _)) (wC (zQ (zu sT hr dz (za (pv 0) (za (pv 1) (za (pv 2) (za (pv 5) zc))))) (fun _=>rfl))))) (zl (jO (gA PySem.F.plainAttrs_list PySem.F.slot_list_append PySem.F.type_list_append pE (pv 4) (za (zE zM (aQ (za (pv 5) zc)) (pv 6)) zc)))) zP))) (zl (zv (Et rfl (by rfl) T.n_min (by rfl) T.n_len (za (pv 4) zc)))))),(by walk_at "r"),fun xs S R q=>q⟩
theorem Gp:DfX P w K mg base "grouping_of" ["gap","one","other"] 9 (spX ["gap","one","other"] pH):=by
 exact DfX.dN dd.a17 zY 3 rfl fun f y A outer s H E EX hr=>⟨_,_,(zf (zJ (i:=3) zY.nd rfl lo (AK Aq pass1 hr dz (za (PE.nox (pv 0)) (za (PE.nox (pv 1)) (za (PE.nox (pv 2)) zc))))) (PSs.nox (zf (zJ (i:=4) zY.nd rfl lo (aQ (za (aQ zc) zc))) (zf (dM jp rfl (wY rfl T.n_range (za (zE gG (zk zA (by rfl) T.n_len aV (za (pv 1) zc)) zg) (za (eW e8 zg) (za (eW e8 zg) zc)))) (zr (i:=5) zY.nd rfl (jb rfl)) (zl (jO (gA PySem.F.plainAttrs_list PySem.F.slot_list_insert PySem.F.type_list_insert wR (pv 4) (za zg (za (zu wH hr dz (za (pv 0) (za (pv 3) (za (pv 5) (za (pv 4) zc))))) zc)))))) (zl (zv (aL zS (pv 4) zg (fun _ _=>rfl)))))))),(tN (wF (yU (A8 (by walk_at "r"))) zt) (qP (by walk_at "r"))),fun xs S R q=>q⟩
theorem BY:Df P w K mg base "grouping_of" ["gap","one","other"] 9 (spN ["gap","one","other"] nX):=by
 exact Df.dN dd.a17 zY 3 rfl fun f y A outer s H E hr=>⟨_,_,(zf (zJ (i:=3) zY.nd rfl lo (zu CN hr dz (za (pv 0) (za (pv 1) (za (pv 2) zc))))) (zf (zJ (i:=4) zY.nd rfl lo (aQ (za (aQ zc) zc))) (zf (dM jp rfl (wY rfl T.n_range (za (zE gG (zk zA (by rfl) T.n_len aV (za (pv 1) zc)) zg) (za (eW e8 zg) (za (eW e8 zg) zc)))) (zr (i:=5) zY.nd rfl (jb rfl)) (zl (jO (gA PySem.F.plainAttrs_list PySem.F.slot_list_insert PySem.F.type_list_insert wR (pv 4) (za zg (za (zu wH hr dz (za (pv 0) (za (pv 3) (za (pv 5) (za (pv 4) zc))))) zc)))))) (zl (zv (aL zS (pv 4) zg (fun _ _=>rfl))))))),(by walk_at "r"),fun xs S R q=>q⟩
theorem CQ:∀n,Df P w K mg base "_law_sizes" ["many"] (1+n) (spN ["many"] (kS n))
 | 0=>Df.none dd.a18
 |n+1=>by
  have u4:=CQ  n;show Df P w K mg base "_law_sizes" ["many"] (1+n+1) (spN ["many"] (kS (n+1)));exact Df.dN dd.a18 sX 2 rfl fun f y A outer s H E hr=>⟨_,_,(zf (aS (bW (dW hr.units) (pv 0) zg (nomark _)) (zl (zv (aQ (za (aQ zc) zc)))) zP) (zf (zJ (i:=1) sX.nd rfl lo (aQ zc)) (zf (dM jp rfl (Ek rfl T.n_range (za zg (za (zE zM (pv 0) zg) zc))) (zr (i:=2) sX.nd rfl (Or.inr rfl)) (zl (jO (gA PySem.F.plainAttrs_list PySem.F.slot_list_extend PySem.F.type_list_extend yI (pv 1) (za (dJ (fun _ _ h=>h) rfl (cL rfl rfl rfl rfl (N:=["behind","size"]) (caps:=[none,some 2]) (by show b8 ["many","found","size"] (zh rK).names _ _ _=true;decide +kernel)) (cF (zu u4 hr yw (za (zE gG (pv 0) (pv 2)) zc))) (fun _ _ _ _=>(zr (i:=0) (by show je (["behind","size"]:List Str);decide) rfl (jb rfl))) (fun _ _ _ _=>dA) (fun _ _ _ _=>(zE zM (aQ (za (pv 1) zc)) (pv 0)))) zc))))) (zl (zv (pv 1)))))),(zL (by walk_at "r") (zL (by walk_at "r") (zL (kT (by walk_at "r") zt (nF (mS uK zj (ze (cZ (dL (cJ (ze (bG r9 zj zj) zp))) zt dE (bG iV (iB (ze zj zp)) zj)) zp)))) (bM zj)))),fun xs S R q=>q⟩
theorem u4:Df P w K mg base "_law_sizes" ["many"] 9 (spN ["many"] Bc):=CQ T dd xx  8
theorem HY:Df P w K mg base "_law_rows" ["gap","one","other"] 1 (spN ["gap","one","other"] qE):=by
 exact Df.dN dd.a19 oU 3 rfl fun f y A outer s H E hr=>⟨_,_,(zf (BT (i:=3) (fun _ _ h=>h) rfl (cL rfl rfl rfl rfl (N:=["number","piece"]) (caps:=[none,none]) (by show b8 ["gap","one","other","mine","sign","yours"] (zh jY).names _ _ _=true;decide +kernel)) oU.nd rfl rfl (cF (zk Bs (by rfl) T.n_sorted fA (za (dJ (fun _ _ h=>h) rfl (cL rfl rfl rfl rfl (N:=["piece","number"]) (caps:=[none,none]) (by show b8 ["gap","one","other","mine","sign","yours"] (zh jY).names _ _ _=true;decide +kernel)) (pC rfl T.n_enumerate (za (pv 1) zc)) (fun _ _ _ _=>(dY (n:=2) rfl (zD (zr (i:=0) (by show je (["piece","number"]:List Str);decide) rfl (jb rfl)) (zD (zr (i:=1) (by show je (["piece","number"]:List Str);decide) rfl (jb rfl)) dD)))) (fun _ _ _ _=>dA) (fun _ _ _ _=>(aT (za (pv 1) (za (pv 0) zc))))) zc))) (fun _ _ _ _=>(dY (n:=2) rfl (zD (zr (i:=0) (by show je (["number","piece"]:List Str);decide) rfl (jb rfl)) (zD (zr (i:=1) (by show je (["number","piece"]:List Str);decide) rfl (jb rfl)) dD)))) (fun _ _ _ _=>dA) (fun _ _ _ _=>(pv 1))) (zf (zJ (i:=4) oU.nd rfl (Or.inr rfl) zg) (zf (aS (bW HS (zE bP (aL zS (aL zS (aL zS (pv 0) zg (fun _ _=>rfl)) zg (fun _ _=>rfl)) zg (fun _ _=>rfl)) (aL zS (aL zS (aL zS (pv 0) zg (fun _ _=>rfl)) zg (fun _ _=>rfl)) zg (fun _ _=>rfl))) zg (nomark _)) (zl (zJ (i:=4) oU.nd rfl (Or.inr rfl) (eW e8 zg))) zP) (zf (BT (i:=5) (fun _ _ h=>h) rfl (cL rfl rfl rfl rfl (N:=["number","piece"]) (caps:=[none,none]) (by show b8 ["gap","one","other","mine","sign","yours"] (zh jY).names _ _ _=true;decide +kernel)) oU.nd rfl rfl (cF (zk Bs (by rfl) T.n_sorted fA (za (dJ (fun _ _ h=>h) rfl (cL rfl rfl rfl rfl (N:=["piece","number","sign"]) (caps:=[none,none,some 4]) (by show b8 ["gap","one","other","mine","sign","yours"] (zh jY).names _ _ _=true;decide +kernel)) (pC rfl T.n_enumerate (za (pv 2) zc)) (fun _ _ _ _=>(dY (n:=2) rfl (zD (zr (i:=0) (by show je (["piece","number","sign"]:List Str);decide) rfl (jb rfl)) (zD (zr (i:=1) (by show je (["piece","number","sign"]:List Str);decide) rfl (jb rfl)) dD)))) (fun _ _ _ _=>dA) (fun _ _ _ _=>(aT (za (zE bP (pv 2) (pv 1)) (za (pv 0) zc))))) zc))) (fun _ _ _ _=>(dY (n:=2) rfl (zD (zr (i:=0) (by show je (["number","piece"]:List Str);decide) rfl (jb rfl)) (zD (zr (i:=1) (by show je (["number","piece"]:List Str);decide) rfl (jb rfl)) dD)))) (fun _ _ _ _=>dA) (fun _ _ _ _=>(pv 1))) (zl (zv (aT (za (pv 3) (za (pv 5) zc))))))))),(zL (cG (cZ (dL (aZ wK (ze (cZ (o9 (ze zj zp)) (fR (bU zt (bU zt fQ))) dE (bT (ze zj (ze zj zp)))) zp))) (fR (bU zt (bU zt fQ))) dE zj) zt) (zL (cG zZ zt) (zL (by walk_at "r") (zL (cG (cZ (dL (aZ wK (ze (cZ (o9 (ze zj zp)) (fR (bU zt (bU zt fQ))) dE (bT (ze (bG uL zj zj) (ze zj zp)))) zp))) (fR (bU zt (bU zt fQ))) dE zj) zt) (by walk_at "r"))))),fun xs S R q=>q⟩
theorem GK:Df P w K mg base "_law_fits" ["gap","here","there"] 1 (spN ["gap","here","there"] rC):=by
 exact Df.dN dd.a20 qX 3 rfl fun f y A outer s H E hr=>⟨_,_,(zf (kO (pv 0) (dY (n:=3) rfl (zD (zr (i:=3) qX.nd rfl (jb rfl)) (zD (zr (i:=4) qX.nd rfl (jb rfl)) (zD (zr (i:=5) qX.nd rfl (jb rfl)) dD))))) (zl (zv (uG pR pR (pv 4) (zE zM (zE bP (aL zS (aL zS (pv 3) zg (fun _ _=>rfl)) zg (fun _ _=>rfl)) (pv 1)) (zE bP (aL zS (aL zS (pv 3) zg (fun _ _=>rfl)) zg (fun _ _=>rfl)) (pv 2))) (pv 5))))),(by walk_at "r"),fun xs S R q=>q⟩
theorem DV:Df P w K mg base "_law_holds" ["gap","one","other","sizes"] 2 (spN ["gap","one","other","sizes"] pM):=by
 exact Df.dN dd.a21 iN 5 rfl fun f y A outer s H E hr=>⟨_,_,(zf (kO (zu HY hr dz (za (pv 0) (za (pv 1) (za (pv 2) zc)))) (dY (n:=2) rfl (zD (zr (i:=4) iN.nd rfl (jb rfl)) (zD (zr (i:=5) iN.nd rfl (jb rfl)) dD)))) (zf (zJ (i:=6) iN.nd rfl lo zg) (zf (dM jp rfl (cF (pv 3)) (zr (i:=7) iN.nd rfl (jb rfl)) (zf (dM jp rfl (cF (cX rB (pv 4) (bX (pv 6)) (bX (zE zM (pv 6) (pv 7))))) (zr (i:=8) iN.nd rfl (Or.inr rfl)) (zl (aS (cB (zQ (zk (tL rfl) (by rfl) T.n_all sY (za (dJ (fun _ _ h=>h) rfl (cL rfl rfl rfl rfl (N:=["j","gap","one","i","other"]) (caps:=[none,some 0,some 1,some 8,some 2]) (by show b8 ["gap","one","other","sizes","mine","yours","first","size","i"] (zh sO).names _ _ _=true;decide +kernel)) (cF (cX rB (pv 5) (bX (pv 6)) (bX (zE zM (pv 6) (pv 7))))) (fun _ _ _ _=>(zr (i:=0) (by show je (["j","gap","one","i","other"]:List Str);decide) rfl (jb rfl))) (fun _ _ _ _=>dA) (fun _ _ _ _=>(zu GK hr dz (za (pv 1) (za (aL zS (pv 2) (pv 3) (fun _ _=>rfl)) (za (aL zS (pv 4) (pv 0) (fun _ _=>rfl)) zc)))))) zc)) (fun _=>rfl))) (zl (zv bN)) zP))) (zl (zJ (i:=6) iN.nd rfl lo (zE zM (pv 6) (pv 7)))))) (zl (zv bN))))),(zL (by walk_at "r") (zL (cG zZ zt) (zL (kT (dL zj) zt (zL (kT (by walk_at "r") zt (eU (dZ (c9 (aZ qK (ze (cZ (dL (eO AD zj (d8 zj) (d8 (bG iV zj zj)))) zt dE (cJ (ze zj (ze (bG jC zj zj) (ze (bG jC zj zj) zp))))) zp)))) (bM fK) fG)) (by walk_at "r"))) (bM fK)))),fun xs S R q=>q⟩
theorem GS:Df P w K mg base "is_whole" ["thing"] 1 (spN ["thing"] lZ):=by
 exact Df.dN dd.a22 Ea 0 rfl fun f y A outer s H E hr=>⟨_,_,(zl (zv (kN (zk iF (by rfl) T.n_isinstance zq (za (pv 0) (za (gN rfl T.n_int tZ (v:=.ty "int") rfl) zc))) (oB (Bf (zk iF (by rfl) T.n_isinstance zq (za (pv 0) (za (gN rfl T.n_bool rM (v:=.ty "bool") rfl) zc)))))))),(by walk_at "r"),fun xs S R q=>q⟩
theorem Bt:Df P w K mg base "is_grouping" ["pieces","thing"] 2 (spN ["pieces","thing"] zI):=by
 exact Df.dN dd.a23 Ge 0 rfl fun f y A outer s H E hr=>⟨_,_,(zf (aS (PW.pt (iS (cB (zQ (zk iF (by rfl) T.n_isinstance zq (za (pv 1) (za (gN rfl T.n_list AQ (v:=.ty "list") rfl) zc))) (fun _=>rfl))) (kW (cB (zQ (zk (tL rfl) (by rfl) T.n_all sY (za (dJ (fun _ _ h=>h) rfl (cL (L:=0) rfl rfl rfl rfl (N:=["size"]) (caps:=[none]) (by show b8 ["pieces","thing"] (zh uN).names _ _ _=true;decide +kernel)) (cF (pv 1)) (fun _ _ _ _=>(zr (i:=0) (by show je (["size"]:List Str);decide) rfl (jb rfl))) (fun _ _ _ _=>dA) (fun _ _ _ _=>(kN (zu GS hr dz (za (pv 0) zc)) (oB (hU Av (pv 0) zg (nomark _)))))) zc)) (fun _=>rfl)))))) (zl (zv bN)) zP) (zl (zv (hU (dW hr.units) (zk (v5 rfl) (by rfl) T.n_sum xQ (za (pv 1) zc)) (pv 0) (nomark _))))),(zL (eU (g9 (by walk_at "r") (dZ (c9 (aZ qK (ze (cZ (dL zj) zt dE (oP (cJ (ze zj zp)) (bG rH zj zZ))) zp))))) (bM fK) fG) (by walk_at "r")),fun xs S R q=>q⟩
theorem Fs:DfX P w K mg base "grouping_holds" ["gap","one","other","thing"] 8 (spX ["gap","one","other","thing"] pP):=by
 exact DfX.dN dd.a24 zB 3 rfl fun f y A outer s H E EX hr=>⟨_,_,(zf (zJ (i:=4) zB.nd rfl lo (AK Aq pass1 hr dz (za (PE.nox (pv 0)) (za (PE.nox (pv 1)) (za (PE.nox (pv 2)) zc))))) (PSs.nox (zf (aS (cB (zQ (zu Bt hr dz (za (zk zA (by rfl) T.n_len aV (za (pv 1) zc)) (za (pv 3) zc))) (fun _=>rfl))) (zl (zv bN)) zP) (zf (zJ (i:=5) zB.nd rfl lo zg) (zf (dM jp rfl (cF (pv 3)) (zr (i:=6) zB.nd rfl (jb rfl)) (zf (aS (cB (zQ (zu sT hr dz (za (pv 0) (za (pv 4) (za (pv 5) (za (pv 6) zc))))) (fun _=>rfl))) (zl (zv bN)) zP) (zl (zJ (i:=5) zB.nd rfl lo (zE zM (pv 5) (pv 6)))))) (zl (zv bN))))))),(tN (wF (yU (A8 (by walk_at "r"))) zt) (qP (by walk_at "r"))),fun xs S R q=>q⟩
theorem GM:Df P w K mg base "grouping_holds" ["gap","one","other","thing"] 8 (spN ["gap","one","other","thing"] kM):=by
 exact Df.dN dd.a24 zB 3 rfl fun f y A outer s H E hr=>⟨_,_,(zf (zJ (i:=4) zB.nd rfl lo (zu CN hr dz (za (pv 0) (za (pv 1) (za (pv 2) zc))))) (zf (aS (cB (zQ (zu Bt hr dz (za (zk zA (by rfl) T.n_len aV (za (pv 1) zc)) (za (pv 3) zc))) (fun _=>rfl))) (zl (zv bN)) zP) (zf (zJ (i:=5) zB.nd rfl lo zg) (zf (dM jp rfl (cF (pv 3)) (zr (i:=6) zB.nd rfl (jb rfl)) (zf (aS (cB (zQ (zu sT hr dz (za (pv 0) (za (pv 4) (za (pv 5) (za (pv 6) zc))))) (fun _=>rfl))) (zl (zv bN)) zP) (zl (zJ (i:=5) zB.nd rfl lo (zE zM (pv 5) (pv 6)))))) (zl (zv bN)))))),(by walk_at "r"),fun xs S R q=>q⟩
theorem Gn:DfN P w K mg base "_law_kind" ["e"] 1 (spN ["e"] lK):=by
 exact DfN.dN dd.a25 oM 2 rfl fun f y A outer s H hr=>⟨_,_,(zf (zJ (i:=1) oM.nd rfl lo (oC (zK (zk eJ (by rfl) T.n_isinstance zq (za (pv 0) (za (eQ (v:=.ref 78) rfl xx.m_NoSpan rfl) zc))) (zK (zk eJ (by rfl) T.n_isinstance zq (za (pv 0) (za (eQ (v:=.ref 90) rfl xx.m_NoPart rfl) zc))) (zK (zk eJ (by rfl) T.n_isinstance zq (za (pv 0) (za (eQ (v:=.ref 102) rfl xx.m_NoSet rfl) zc))) (zK (zk eJ (by rfl) T.n_isinstance zq (za (pv 0) (za (eQ (v:=.ref 202) rfl xx.m_NoText rfl) zc))) fU)))))) (zf (zJ (i:=1) oM.nd rfl lo (zE zM (pv 1) (oC (zK (zk eJ (by rfl) T.n_isinstance zq (za (pv 0) (za (eQ (v:=.ref 114) rfl xx.m_NoRow rfl) zc))) (zK (zk eJ (by rfl) T.n_isinstance zq (za (pv 0) (za (eQ (v:=.ref 126) rfl xx.m_Unlike rfl) zc))) (zK (zk eJ (by rfl) T.n_isinstance zq (za (pv 0) (za (eQ (v:=.ref 145) rfl xx.m_NoDrawing rfl) zc))) (zK (zk eJ (by rfl) T.n_isinstance zq (za (pv 0) (za (eQ (v:=.ref 164) rfl xx.m_NoGap rfl) zc))) fU))))))) (zf (zJ (i:=1) oM.nd rfl lo (zE zM (pv 1) (aQ (za (zk eJ (by rfl) T.n_isinstance zq (za (pv 0) (za (eQ (v:=.ref 183) rfl xx.m_NoOffer rfl) zc))) (za (zk eJ (by rfl) T.n_isinstance zq (za (pv 0) (za (eQ (v:=.ref 221) rfl xx.m_TooGreat rfl) zc))) zc))))) (zf (aS (PW.pt (iS (cB (zQ (zk eJ (by rfl) T.n_isinstance zq (za (pv 0) (za (gN rfl T.n_ValueError IF (v:=.ty "ValueError") rfl) zc))) (fun _=>rfl))) (kW (bW (kJ hr.units) (gA PySem.F.plainAttrs_list PySem.F.slot_list_count PySem.F.type_list_count Dq (pv 1) (za bN zc)) zg (nomark _))))) (zl (zv cQ)) zP) (zf (zJ (i:=2) oM.nd rfl lo (oC (zK cQ (zK cQ (zK cQ (zK cQ (zK cQ (zK cQ (zK cQ (zK cQ (zK cQ (zK cQ fU)))))))))))) (zl (zv (aL zS (pv 2) (gA PySem.F.plainAttrs_list PySem.F.slot_list_index PySem.F.type_list_index (HX hr.units) (pv 1) (za bN zc)) (fun _ _=>rfl))))))))),(zL (cG (iB (ze (aZ (dR xx.ex) (by walk_at "r")) (ze (aZ (dR xx.ex) (by walk_at "r")) (ze (aZ (dR xx.ex) (by walk_at "r")) (ze (aZ (dR xx.ex) (by walk_at "r")) zp))))) zt) (zL (cG (bG iV zj (iB (ze (aZ (dR xx.ex) (by walk_at "r")) (ze (aZ (dR xx.ex) (by walk_at "r")) (ze (aZ (dR xx.ex) (by walk_at "r")) (ze (aZ (dR xx.ex) (by walk_at "r")) zp)))))) zt) (zL (cG (bG iV zj (iB (ze (aZ (dR xx.ex) (by walk_at "r")) (ze (aZ (dR xx.ex) (by walk_at "r")) zp)))) zt) (zL (eU (g9 (dZ (c9 (aZ (dR xx.ex) (by walk_at "r")))) (jV (bG tK (t0 Ff zj (ze fK zp)) zZ))) (bM BI) fG) (zL (by walk_at "r") (bM (bG jC zj (t0 HE zj (ze fK zp))))))))),fun xs S R q=>q⟩
theorem AL:Df P w K mg base "_law_tried" ["way","gap","one","other"] 10 (spN ["way","gap","one","other"] oY):=by
 exact Df.dN dd.a26 vQ 1 rfl fun f y A outer s H E hr=>⟨_,_,(zl (HL (i:=4) (fun _ _ z=>z) rfl rfl vQ.nd rfl rfl rfl xx.m_GaugeError xx.c_GaugeError (Ev (fun _ _ z=>z) (bW (dW hr.units) (pv 0) zg (nomark _)) (yW (yA (fun _ _ z=>z) (w6 Gp hr dz (fun _ _ z=>z) (za (pv 1) (za (pv 2) (za (pv 3) zc)))))) (fun _ _ _ _ h=>h) (yW (yA (fun _ _ z=>z) (w6 Fs hr dz (fun _ _ z=>z) (za (pv 1) (za (pv 2) (za (pv 3) (za (aQ (za (zk zA (by rfl) T.n_len aV (za (pv 2) zc)) zc)) zc)))))))) (fun _=>(zl (zv (aT (za (Cb Gn (hr.suite _) dz (za (pv 4) zc)) (za iW zc)))))))),(Dr (jV (bG rT zj zZ)) (xK xx.ex rfl BD (fun _ _ _ _=>rfl) (ze zj (ze zj (ze zj zp))) (bM (bT (ze (vN rfl (ze zj zp)) (ze sE zp))))) (xK xx.ex rfl BD (fun _ _ _ _=>rfl) (ze zj (ze zj (ze zj (ze (iB (ze (aZ o7 (ze zj zp)) zp)) zp)))) (bM (bT (ze (vN rfl (ze zj zp)) (ze sE zp)))))),fun xs S R q=>q⟩
theorem AC:Df P w K mg base "_law_held" ["gap","one","other","thing","due"] 9 (spN ["gap","one","other","thing","due"] gL):=by
 exact Df.dN dd.a27 AE 1 rfl fun f y A outer s H E hr=>⟨_,_,(zf (zJ (i:=5) AE.nd rfl lo (zu GM hr dz (za (pv 0) (za (pv 1) (za (pv 2) (za (pv 3) zc)))))) (zl (zv (kN (zk iF (by rfl) T.n_isinstance zq (za (pv 5) (za (gN rfl T.n_bool rM (v:=.ty "bool") rfl) zc))) (oB (hU (dW hr.units) (pv 5) (pv 4) (nomark _))))))),(by walk_at "r"),fun xs S R q=>q⟩
theorem Hy:Df P w K mg base "_law_whole" ["found"] 1 (spN ["found"] pD):=by
 exact Df.dN dd.a28 EO 0 rfl fun f y A outer s H E hr=>⟨_,_,(zl (zv (kN (zk iF (by rfl) T.n_isinstance zq (za (pv 0) (za (gN rfl T.n_int tZ (v:=.ty "int") rfl) zc))) (oB (Bf (zk iF (by rfl) T.n_isinstance zq (za (pv 0) (za (gN rfl T.n_bool rM (v:=.ty "bool") rfl) zc)))))))),(by walk_at "r"),fun xs S R q=>q⟩
theorem iP:Df P w K mg base "_law_right" ["gap","one","other"] 11 (spN ["gap","one","other"] zy):=by
 exact Df.dN dd.a29 jR 6 rfl fun f y A outer s H E hr=>⟨_,_,(zf (aS (bW (kJ hr.units) (zk zA (by rfl) T.n_len aV (za (pv 1) zc)) (zk zA (by rfl) T.n_len aV (za (pv 2) zc)) (nomark _)) (zl (zv (uG (dW hr.units) (dW hr.units) (zu AL hr dz (za zg (za (pv 0) (za (pv 1) (za (pv 2) zc))))) (aT (za cQ (za iW zc))) (zu AL hr dz (za zg (za (pv 0) (za (pv 1) (za (pv 2) zc)))))))) zP) (zf (zJ (i:=3) jR.nd rfl lo (aQ zc)) (zf (dM jp rfl (cF (zu u4 hr dz (za (zk zA (by rfl) T.n_len aV (za (pv 1) zc)) zc))) (zr (i:=4) jR.nd rfl (jb rfl)) (zf (zJ (i:=5) jR.nd rfl lo (zu DV hr dz (za (pv 0) (za (pv 1) (za (pv 2) (za (pv 4) zc)))))) (zf (aS (cB (zQ (zu AC hr dz (za (pv 0) (za (pv 1) (za (pv 2) (za (pv 4) (za (pv 5) zc)))))) (fun _=>rfl))) (zl (zv bN)) zP) (zl (aS (zQ (pv 5) (fun _=>rfl)) (zl (jO (gA PySem.F.plainAttrs_list PySem.F.slot_list_append PySem.F.type_list_append pE (pv 3) (za (aT (za (zk zA (by rfl) T.n_len aV (za (pv 4) zc)) (za (pv 4) zc))) zc)))) zP))))) (zf (zJ (i:=6) jR.nd rfl lo (aQ (za (sV xH (by rfl) T.n_tuple Aa (za (zE bP (aQ (za zg zc)) (zk zA (by rfl) T.n_len aV (za (pv 1) zc))) zc)) (za (zE bP (aQ (za zg zc)) (zE zM (zk zA (by rfl) T.n_len aV (za (pv 1) zc)) zg)) (za (zE zM (aQ (za zg zc)) (zE bP (aQ (za zg zc)) (zk zA (by rfl) T.n_len aV (za (pv 1) zc)))) (za (aQ (za (zE zM (zk zA (by rfl) T.n_len aV (za (pv 1) zc)) zg) (za (eW e8 zg) zc))) (za iW zc))))))) (zf (dM jp rfl (cF (zE zM (pv 6) (aQ (za (zE bP (aQ (za bN zc)) (zk zA (by rfl) T.n_len aV (za (pv 1) zc))) (za (aQ (za cQ zc)) (za (aQ (za iW zc)) (za (zk zA (by rfl) T.n_len aV (za (pv 1) zc)) (za (DX Fk) zc)))))))) (zr (i:=7) jR.nd rfl (jb rfl)) (zl (aS (PW.pt (Bj (PW.pt (iS (bW (Ic hr.units) (pv 7) (aQ zc) (nomark _)) (kW (bW (kJ hr.units) (pv 1) (aT zc) (nomark _))))) (wC (cB (zQ (zu AC hr dz (za (pv 0) (za (pv 1) (za (pv 2) (za (pv 7) (za bN zc)))))) (fun _=>rfl)))))) (zl (zv bN)) zP))) (zf (zJ (i:=8) jR.nd rfl lo (zu BY hr dz (za (pv 0) (za (pv 1) (za (pv 2) zc))))) (zf (aS (bW (dW hr.units) (pv 3) (aQ zc) (nomark _)) (zl (zv (hU Fa (pv 8) iW (nomark _)))) zP) (zl (zv (kN (zk iF (by rfl) T.n_isinstance zq (za (pv 8) (za (gN rfl T.n_list AQ (v:=.ty "list") rfl) zc))) (kN (zk (tL rfl) (by rfl) T.n_all sY (za (dJ (fun _ _ h=>h) rfl (cL (L:=0) rfl rfl rfl rfl (N:=["size"]) (caps:=[none]) (by show b8 ["gap","one","other","good","sizes","good_here","odd","thing","found"] (zh u5).names _ _ _=true;decide +kernel)) (cF (pv 8)) (fun _ _ _ _=>(zr (i:=0) (by show je (["size"]:List Str);decide) rfl (jb rfl))) (fun _ _ _ _=>dA) (fun _ _ _ _=>(zu Hy hr dz (za (pv 0) zc)))) zc)) (oB (hU (dW hr.units) (pv 8) (aL zS (zk (IZ rfl hr.units) (by rfl) T.n_min rR (za (pv 3) zc)) zg (fun _ _=>rfl)) (nomark _)))))))))))))),(zL (by walk_at "r") (zL (by walk_at "r") (zL (by walk_at "r") (zL (by walk_at "r") (zL (by walk_at "r") (zL (by walk_at "r") (zL (by walk_at "r") (bM (oP (by walk_at "r") (oP (aZ qK (ze (cZ (dL zj) zt dE (cJ (ze zj zp))) zp)) (by walk_at "r"))))))))))),fun xs S R q=>q⟩
theorem ok_law{f:Addr}{fd:pk}(F:Fun K "law" "law" s_law f fd):FnOk P w K mg base CX0 12 f fd ["script"] (sp1 (uO K)):=by
 refine F.ok1 fL (fun v=>[some v,none,none,none,none,none,none,none]) (fun _=>rfl) fun aa A outer s H v Q E hr h=>?_;obtain⟨a,ns,rfl,hS,y,q⟩:=h;refine Io ?_;refine⟨_,(Dl (ID (i:=1) fL.nd rfl (jb rfl) (pK (uP (pK (uP (pK (nB (QE.mk zg) (nB (QE.mk zg) fU))) (uP (pK (nB (QE.mk zg) (GX (QE.mk (eW e8 zg)) fU))) fU))) (nB (QE.mk zg) (nB (QE.mk zg) fU))))) (QSs.mk (zf (aS (PW.pt (iS (cB (zQ (zu iP hr dz (za (pv 1) (za (aT zc) (za (aT zc) zc)))) (fun _=>rfl))) (iS (cB (zQ (zu iP hr dz (za (pv 1) (za (aT (za zg (za zg zc))) (za (aT (za zg (za zg zc))) zc)))) (fun _=>rfl))) (kW (cB (zQ (zu iP hr dz (za (pv 1) (za (aT (za zg zc)) (za (aT zc) zc)))) (fun _=>rfl))))))) (zl (zv bN)) zP) (zf (dM jp rfl (D5 (zE vE (aQ (za (Dg Eu hr dz (pv 0) zg) zc)) (cX vY (pv 0) (bX zg) (bX zg)))) (zr (i:=2) fL.nd rfl (jb rfl)) (zf (zJ (i:=3) fL.nd rfl lo (zu IH hr dz (za (pv 2) zc))) (zf (kO (zu DU hr dz (za (pv 3) (za zg zc))) (dY (n:=3) rfl (zD (zr (i:=1) fL.nd rfl (jb rfl)) (zD (zr (i:=4) fL.nd rfl (jb rfl)) (zD (zr (i:=5) fL.nd rfl (jb rfl)) dD))))) (zf (zJ (i:=6) fL.nd rfl lo (zk (EV rfl) (by rfl) T.n_min rR (za (zk zA (by rfl) T.n_len aV (za (pv 4) zc)) (za (zk zA (by rfl) T.n_len aV (za (pv 5) zc)) zc)))) (zf (aS (PW.pt (iS (cB (zQ (zu iP hr dz (za (pv 1) (za (pv 4) (za (pv 5) zc)))) (fun _=>rfl))) (kW (cB (zQ (zu iP hr dz (za (pv 1) (za (cX gP (pv 4) gI (bX (pv 6))) (za (cX gP (pv 5) gI (bX (pv 6))) zc)))) (fun _=>rfl)))))) (zl (zv bN)) zP) (zf (zJ (i:=7) fL.nd rfl lo (De BY hr dz (za (pv 1) (za (cX gP (pv 4) gI (bX (pv 6))) (za (cX gP (pv 5) gI (bX (pv 6))) zc))))) (zf (aS (bW AZ (pv 7) iW (nomark _)) (zl (jO (gA PySem.F.plainAttrs_list PySem.F.slot_list_append PySem.F.type_list_append pE (pv 7) (za zg zc)))) zP) (zl (aS (PW.pt (iS (cB (zQ (zu iP hr dz (za (pv 1) (za (cX gP (pv 4) gI (bX (pv 6))) (za (cX gP (pv 5) gI (bX (pv 6))) zc)))) (fun _=>rfl))) (kW (cB (zQ (zu iP hr dz (za (pv 1) (za (zE zM (cX gP (pv 4) gI (bX (pv 6))) (aT (za zg zc))) (za (cX gP (pv 5) gI (bX (pv 6))) zc)))) (fun _=>rfl)))))) (zl (zv bN)) zP))))))))) (zl (zv bN)))))),?_⟩;refine HK (a:=a) (m:=7) (dt:=rW) (zL (cG (bT (ze (bT (ze (bT (ze zZ (ze zZ zp))) (ze (bT (ze zZ (ze (oQ oI zZ) zp))) zp))) (ze zZ (ze zZ zp)))) zt) (eU (g9 (dZ (c9 (cJ (ze zj (ze (bT zp) (ze (bT zp) zp)))))) (g9 (dZ (c9 (cJ (ze zj (ze (bT (ze zZ (ze zZ zp))) (ze (bT (ze zZ (ze zZ zp))) zp)))))) (dZ (c9 (cJ (ze zj (ze (bT (ze zZ zp)) (ze (bT zp) zp)))))))) (bM fK) fG)) rfl rfl (Ik a) fun σ1 H1 z0 z1 s1=>?_;exact FY (m:=7) (db:=tT) (zL (cG (cJ (ze zj zp)) zt) (zL (cG (pF (i:=0) (ze zj (ze zZ zp))) (fR (bU zt (bU zt (bU zt fQ))))) (zL (cG (aZ BF (ze (aZ o7 (ze zj zp)) (ze (aZ o7 (ze zj zp)) zp))) zt) (zL (eU (g9 (dZ (c9 (cJ (ze zj (ze zj (ze zj zp)))))) (dZ (c9 (cJ (ze zj (ze (eO fF zj fB (d8 zj)) (ze (eO fF zj fB (d8 zj)) zp))))))) (bM fK) fG) (zL (cG (AG (ze zj (ze (eO fF zj fB (d8 zj)) (ze (eO fF zj fB (d8 zj)) zp)))) zt) (zL (eU (jV (Bd zj)) (nF (mS Ak zj (ze zZ zp))) fG) (eU (g9 (dZ (c9 (cJ (ze zj (ze (eO fF zj fB (d8 zj)) (ze (eO fF zj fB (d8 zj)) zp)))))) (dZ (c9 (cJ (ze zj (ze (bG iV (eO fF zj fB (d8 zj)) (bT (ze zZ zp))) (ze (eO fF zj fB (d8 zj)) zp))))))) (bM fK) fG))))))) z0 z1 (s1.seq hS) y (fun n=>FJ a n) dz fun _ H2 _=>q H2
end
end My
theorem Hn:L2.tabsG=[]:=rfl
namespace PySem.W.Fast
def tw10357240822471081369:Unit:=()
def tw5254674337178433507:Unit:=()
def tw11509659499156240480:Unit:=()
def tw14079912719346760980:Unit:=()
def tw13748997476352656451:Unit:=()
def tw4724422748456519838:Unit:=()
def tw5879408027342505296:Unit:=()
def tw15628194702669028748:Unit:=()
def tw18386190368355254423:Unit:=()
def tw6207100907277977923:Unit:=()
def tw8791149202238872025:Unit:=()
def tw1711353311286952273:Unit:=()
def tw5053105409899565184:Unit:=()
def tw17606027817249009591:Unit:=()
def tw2628765396110790668:Unit:=()
def tw1234545655783834916:Unit:=()
def tw16520151392592584034:Unit:=()
def tw1692557683005593530:Unit:=()
def tw6203574376495381623:Unit:=()
def tw2644807960822044410:Unit:=()
def tw13888929718000902056:Unit:=()
def tw15594887422434306027:Unit:=()
def tw1462174383967821482:Unit:=()
def tw6210998166624094080:Unit:=()
def tw15724561645071439132:Unit:=()
def tw7643687974641548753:Unit:=()
def tw13100298461605202034:Unit:=()
def tw12634050781507077534:Unit:=()
def tw7037357857719608924:Unit:=()
def tw7695037943547322589:Unit:=()
def tw9490962817506808169:Unit:=()
def tw2567874002701051459:Unit:=()
def tw17079232919036312267:Unit:=()
def tw5011414794407776065:Unit:=()
def tw8577378782702295013:Unit:=()
def tw15689680381011502887:Unit:=()
def tw2792916232132515238:Unit:=()
def tw11195489744187513062:Unit:=()
def tw14123171321892019162:Unit:=()
def tw5978277632945895834:Unit:=()
def tw13525215211697596474:Unit:=()
def tw13525806612763876706:Unit:=()
def tw6382617985317019631:Unit:=()
def tw335634853555208443:Unit:=()
def tw3936801658550229352:Unit:=()
def tw6083900857705639729:Unit:=()
def tw9520542358805302134:Unit:=()
def tw14418655596727942278:Unit:=()
def tw14150531488164127126:Unit:=()
def tw2852809179925978262:Unit:=()
def tw1485230567639772786:Unit:=()
def tw9020556498448475044:Unit:=()
def tw1489512657159216903:Unit:=()
def tw567798841724770886:Unit:=()
def tw4684668033853365036:Unit:=()
def tw9223171652729924663:Unit:=()
def tw11415288091286487237:Unit:=()
def tw3116053146945796383:Unit:=()
def tw18171301531479402344:Unit:=()
def tw6977842894022005951:Unit:=()
def tw17950392789430567499:Unit:=()
def tw15987565818746788942:Unit:=()
def tw3483759514724018115:Unit:=()
def tw17288797974500348659:Unit:=()
def tw9462795051903056321:Unit:=()
def tw11018668451279168624:Unit:=()
def tw2489017417203364451:Unit:=()
def tw10459161652715007945:Unit:=()
def tw3144301852332041230:Unit:=()
def tw7372013114412828993:Unit:=()
def tw13120171613749092079:Unit:=()
def tw7216309761187019536:Unit:=()
def tw5041395860263133888:Unit:=()
def tw1366536640084307061:Unit:=()
def tw16407073502266321602:Unit:=()
def tw8002043946215144183:Unit:=()
def tw13356827545434074895:Unit:=()
def tw4025448431743036672:Unit:=()
def tw2659861002068902613:Unit:=()
def tw13182054349386479239:Unit:=()
def tw11974656750682720751:Unit:=()
def tw1381395340066732527:Unit:=()
def tw1690937114513586218:Unit:=()
def tw11592590064146255580:Unit:=()
def tw13663583608971396198:Unit:=()
def tw15321376301025303624:Unit:=()
def tw15026786264966766441:Unit:=()
def tw3768816313203877534:Unit:=()
def tw4855691557462437754:Unit:=()
def tw8640780380827959424:Unit:=()
def tw2067286191272505029:Unit:=()
def tw16479169455717911755:Unit:=()
def tw3294949343550396108:Unit:=()
def tw6013825425708077788:Unit:=()
def tw12035525175712292349:Unit:=()
def tw14209062198160515091:Unit:=()
def tw4542067911832410923:Unit:=()
def tw11912513095582500701:Unit:=()
def tw5232588578964241794:Unit:=()
def tw2013487627826689540:Unit:=()
def tw13129224091779270142:Unit:=()
def tw3326896452080316014:Unit:=()
def tw7799206953838942032:Unit:=()
def tw9945038662718035188:Unit:=()
def tw5407427285827146616:Unit:=()
def tw12107972608724381230:Unit:=()
def tw2667654955242411231:Unit:=()
def tw9755672284788997369:Unit:=()
def tw12621265403122275647:Unit:=()
def tw3546005247067315070:Unit:=()
def tw18308213731894937293:Unit:=()
def tw3456725122501221946:Unit:=()
def tw1630398086376485394:Unit:=()
def tw15570639991196932796:Unit:=()
def tw15392192917016134972:Unit:=()
def tw10762111023848449705:Unit:=()
def tw7776420676286220279:Unit:=()
def tw10878907926751362088:Unit:=()
def tw13205171624858386666:Unit:=()
def tw11518943027153906364:Unit:=()
def tw5499995325929419996:Unit:=()
def tw11890153149972184236:Unit:=()
def tw16767177044552148684:Unit:=()
def tw12031354468218129063:Unit:=()
def tw16974383077948046520:Unit:=()
def tw703760555934571004:Unit:=()
def tw3689988037566780083:Unit:=()
def tw16580650697560308480:Unit:=()
def tw6601323158399390890:Unit:=()
def tw3977696461825951169:Unit:=()
def tw7174913126577076881:Unit:=()
def tw8021027133653698881:Unit:=()
def tw13013205781644906457:Unit:=()
def tw14713715891913870882:Unit:=()
def tw12790096283599529223:Unit:=()
def tw8578142341232086368:Unit:=()
def tw10273258699687771067:Unit:=()
def tw4834100385710970890:Unit:=()
def tw18065164547694830144:Unit:=()
def tw11300231320973059499:Unit:=()
def tw11559449114741426081:Unit:=()
def tw15950768341541874342:Unit:=()
def tw6443101995891265404:Unit:=()
def tw5127051230966679127:Unit:=()
def tw9973959836174995673:Unit:=()
def tw13780881474564590961:Unit:=()
def tw15384099961315492685:Unit:=()
def tw18140015159909690526:Unit:=()
def tw18343590988693768798:Unit:=()
def tw11003402739161504511:Unit:=()
def tw14996403705129626350:Unit:=()
def tw11591700198693245444:Unit:=()
def tw16287015040063193640:Unit:=()
def tw17208502618628596526:Unit:=()
def tw8575894054663365299:Unit:=()
def tw1908147986967745195:Unit:=()
def tw1694456231166361518:Unit:=()
def tw12015841725591033312:Unit:=()
def tw6134510715006211534:Unit:=()
def tw8916301128470130041:Unit:=()
end PySem.W.Fast
open PySem PySem.W PyProof.Rows L2
set_option maxRecDepth 100000 in
set_option maxHeartbeats 0 in
theorem PySem.Challenge.cw_gaugewright_k51_groupings_gone_through_holds : PySem.Challenge.rw_gaugewright_k51_groupings_gone_through.Holds := by
 w_on;o_law;k_head;(case hw=>w_witness2)
 k_fill
 refine L2.walk_law (l := PySem.Challenge.rw_gaugewright_k51_groupings_gone_through) (k := 12) rfl rfl ⟨rfl, by decide, by decide⟩ (fun w h Y => W.kIn_of Y) (fun w h Y => L2.TabsOk.none Hn) ?F
 case F=>
  intro w mg fa h KX G hmg;have d_law:Dd (L2.KOf KX) mg "law" My.s_law ["script"]:=by
   dsimp only[L2.KOf];refine' Dd.mk' KX G ?a ?l ?c ?k ?b
   (case a=>k_is);(case l=>k_is);(case c=>k_is);(case k=>k_is);(case b=>intro _ _ _ _ _ _ us hl;obtain⟨_,rfl⟩:=L2.len1 hl;rfl)
  have T:My.Txt mg:=by
   refine' ⟨jx KX G ?z0,jx KX G ?z1,jx KX G ?z2,jx KX G ?z3,jx KX G ?z4,jx KX G ?z5,jx KX G ?z6,jx KX G ?z7,jx KX G ?z8,jx KX G ?z9,jx KX G ?z10,jx KX G ?z11,jx KX G ?z12,jx KX G ?z13,jx KX G ?z14⟩
   (case z0=>k_is);(case z1=>k_is);(case z2=>k_is);(case z3=>k_is);(case z4=>k_is);(case z5=>k_is);(case z6=>k_is);(case z7=>k_is);(case z8=>k_is);(case z9=>k_is);(case z10=>k_is);(case z11=>k_is);(case z12=>k_is);(case z13=>k_is);(case z14=>k_is)
  have m65:mg "GaugeError" = some (.ref 65):=by
   apply ud KX G
   k_is
  have c65:L2.ExCls (L2.KOf KX) 65 none:=by
   apply L2.exc_of_in;dsimp only[L2.KOf,L2.veB]
   k_exc
  have m78:mg "NoSpan" = some (.ref 78):=by
   apply ud KX G
   k_is
  have k78:L2.ExK (L2.KOf KX) 78:=by
   dsimp only[L2.KOf];refine' L2.ExK.mk' ?a ?b ?c ?d ?e ?f
   (case a=>k_is);(case b=>k_is);(case c=>k_is);(case d=>k_is);(case e=>k_is);(case f=>rfl)
  have c78:L2.ExCls (L2.KOf KX) 78 none:=by
   apply L2.exc_of_in;dsimp only[L2.KOf,L2.veB]
   k_exc
  have m90:mg "NoPart" = some (.ref 90):=by
   apply ud KX G
   k_is
  have k90:L2.ExK (L2.KOf KX) 90:=by
   dsimp only[L2.KOf];refine' L2.ExK.mk' ?a ?b ?c ?d ?e ?f
   (case a=>k_is);(case b=>k_is);(case c=>k_is);(case d=>k_is);(case e=>k_is);(case f=>rfl)
  have c90:L2.ExCls (L2.KOf KX) 90 none:=by
   apply L2.exc_of_in;dsimp only[L2.KOf,L2.veB]
   k_exc
  have m102:mg "NoSet" = some (.ref 102):=by
   apply ud KX G
   k_is
  have k102:L2.ExK (L2.KOf KX) 102:=by
   dsimp only[L2.KOf];refine' L2.ExK.mk' ?a ?b ?c ?d ?e ?f
   (case a=>k_is);(case b=>k_is);(case c=>k_is);(case d=>k_is);(case e=>k_is);(case f=>rfl)
  have c102:L2.ExCls (L2.KOf KX) 102 none:=by
   apply L2.exc_of_in;dsimp only[L2.KOf,L2.veB]
   k_exc
  have m114:mg "NoRow" = some (.ref 114):=by
   apply ud KX G
   k_is
  have k114:L2.ExK (L2.KOf KX) 114:=by
   dsimp only[L2.KOf];refine' L2.ExK.mk' ?a ?b ?c ?d ?e ?f
   (case a=>k_is);(case b=>k_is);(case c=>k_is);(case d=>k_is);(case e=>k_is);(case f=>rfl)
  have c114:L2.ExCls (L2.KOf KX) 114 none:=by
   apply L2.exc_of_in;dsimp only[L2.KOf,L2.veB]
   k_exc
  have m126:mg "Unlike" = some (.ref 126):=by
   apply ud KX G
   k_is
  have k126:L2.ExK (L2.KOf KX) 126:=by
   dsimp only[L2.KOf];refine' L2.ExK.mk' ?a ?b ?c ?d ?e ?f
   (case a=>k_is);(case b=>k_is);(case c=>k_is);(case d=>k_is);(case e=>k_is);(case f=>rfl)
  have c126:L2.ExCls (L2.KOf KX) 126 none:=by
   apply L2.exc_of_in;dsimp only[L2.KOf,L2.veB]
   k_exc
  have m145:mg "NoDrawing" = some (.ref 145):=by
   apply ud KX G
   k_is
  have k145:L2.ExK (L2.KOf KX) 145:=by
   dsimp only[L2.KOf];refine' L2.ExK.mk' ?a ?b ?c ?d ?e ?f
   (case a=>k_is);(case b=>k_is);(case c=>k_is);(case d=>k_is);(case e=>k_is);(case f=>rfl)
  have m164:mg "NoGap" = some (.ref 164):=by
   apply ud KX G
   k_is
  have k164:L2.ExK (L2.KOf KX) 164:=by
   dsimp only[L2.KOf];refine' L2.ExK.mk' ?a ?b ?c ?d ?e ?f
   (case a=>k_is);(case b=>k_is);(case c=>k_is);(case d=>k_is);(case e=>k_is);(case f=>rfl)
  have m183:mg "NoOffer" = some (.ref 183):=by
   apply ud KX G
   k_is
  have k183:L2.ExK (L2.KOf KX) 183:=by
   dsimp only[L2.KOf];refine' L2.ExK.mk' ?a ?b ?c ?d ?e ?f
   (case a=>k_is);(case b=>k_is);(case c=>k_is);(case d=>k_is);(case e=>k_is);(case f=>rfl)
  have m202:mg "NoText" = some (.ref 202):=by
   apply ud KX G
   k_is
  have k202:L2.ExK (L2.KOf KX) 202:=by
   dsimp only[L2.KOf];refine' L2.ExK.mk' ?a ?b ?c ?d ?e ?f
   (case a=>k_is);(case b=>k_is);(case c=>k_is);(case d=>k_is);(case e=>k_is);(case f=>rfl)
  have m221:mg "TooGreat" = some (.ref 221):=by
   apply ud KX G
   k_is
  have k221:L2.ExK (L2.KOf KX) 221:=by
   dsimp only[L2.KOf];refine' L2.ExK.mk' ?a ?b ?c ?d ?e ?f
   (case a=>k_is);(case b=>k_is);(case c=>k_is);(case d=>k_is);(case e=>k_is);(case f=>rfl)
  have sp:L2.SpK (L2.KOf KX):=by
   dsimp only[L2.KOf];refine' ⟨?a,?b⟩
   (case a=>k_is);(case b=>k_is)
  have i78:∃ini,L2.ExCls (L2.KOf KX) 78 ini:=⟨_,c78⟩;have i90:∃ini,L2.ExCls (L2.KOf KX) 90 ini:=⟨_,c90⟩;have i102:∃ini,L2.ExCls (L2.KOf KX) 102 ini:=⟨_,c102⟩;have i114:∃ini,L2.ExCls (L2.KOf KX) 114 ini:=⟨_,c114⟩;have i126:∃ini,L2.ExCls (L2.KOf KX) 126 ini:=⟨_,c126⟩;have i145:∃ini,L2.ExCls (L2.KOf KX) 145 ini:=by
   apply Exists.intro;refine' L2.exc_ofI ?l ?o ?s ?i c65
   (case l=>dsimp only[L2.KOf];k_is);(case o=>dsimp only[L2.KOf];k_is);(case s=>rfl);(case i=>dsimp only[L2.KOf];k_is)
  have i164:∃ini,L2.ExCls (L2.KOf KX) 164 ini:=by
   apply Exists.intro;refine' L2.exc_ofI ?l ?o ?s ?i c65
   (case l=>dsimp only[L2.KOf];k_is);(case o=>dsimp only[L2.KOf];k_is);(case s=>rfl);(case i=>dsimp only[L2.KOf];k_is)
  have i183:∃ini,L2.ExCls (L2.KOf KX) 183 ini:=by
   apply Exists.intro;refine' L2.exc_ofI ?l ?o ?s ?i c65
   (case l=>dsimp only[L2.KOf];k_is);(case o=>dsimp only[L2.KOf];k_is);(case s=>rfl);(case i=>dsimp only[L2.KOf];k_is)
  have i202:∃ini,L2.ExCls (L2.KOf KX) 202 ini:=by
   apply Exists.intro;refine' L2.exc_ofI ?l ?o ?s ?i c65
   (case l=>dsimp only[L2.KOf];k_is);(case o=>dsimp only[L2.KOf];k_is);(case s=>rfl);(case i=>dsimp only[L2.KOf];k_is)
  have i221:∃ini,L2.ExCls (L2.KOf KX) 221 ini:=by
   apply Exists.intro;refine' L2.exc_ofI ?l ?o ?s ?i c65
   (case l=>dsimp only[L2.KOf];k_is);(case o=>dsimp only[L2.KOf];k_is);(case s=>rfl);(case i=>dsimp only[L2.KOf];k_is)
  have ex:L2.Exs (L2.KOf KX):=by
   refine⟨sp,fun C m=>?_,fun C m=>?_,fun C m=>?_⟩
   ·simp only[L2.excs,lz,lg,or_false]at m;rcases m with rfl|rfl|rfl|rfl|rfl|rfl|rfl|rfl|rfl|rfl<;>assumption
   ·simp only[L2.exc0,lz,lg,or_false]at m;rcases m with rfl|rfl|rfl|rfl|rfl<;>assumption
   ·simp only[L2.excs,lz,lg,or_false]at m;rcases m with rfl|rfl|rfl|rfl|rfl|rfl|rfl|rfl|rfl|rfl<;>assumption
  have xx:My.Exx (L2.KOf KX) mg:=⟨ex,m65,m78,m90,m102,m114,m126,m145,m164,m183,m202,m221,c65,c78,c90,c102,c114,c126⟩;have dd:My.Dds (L2.KOf KX) mg:=by constructor<;>(dsimp only[L2.KOf];refine' Dd.mk' KX G ?a ?l ?c ?k ?b;(case a=>k_is);(case l=>k_is);(case c=>k_is);(case k=>k_is);(case b=>(intro _ _ _ _ _ _ us hl;first|(obtain⟨_,rfl⟩:=L2.len1 hl;rfl)|(obtain⟨_,_,rfl⟩:=L2.len2 hl;rfl)|(obtain⟨_,_,_,rfl⟩:=L2.len3 hl;rfl)|(obtain⟨_,_,_,_,rfl⟩:=L2.len4 hl;rfl)|(obtain⟨_,_,_,_,_,rfl⟩:=L2.len5 hl;rfl))))
  obtain⟨f,fd,F,hm,_⟩:=d_law.ex;have e0:=hmg.symm.trans hm;cases e0;exact⟨fd,F.bind1 fun _ _ _ _ _ _ _=>rfl,fun base _ _=>My.ok_law T dd xx F⟩
#print axioms PySem.Challenge.cw_gaugewright_k51_groupings_gone_through_holds
end