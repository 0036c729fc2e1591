import PyProof.Rows.All
import Wide.All
import OpenK.AllK
import Wide.FinOn
import Lean
import PyProof.EqAt
import PyProof.EqKinds
import PyProof.TupleCall
import KE.KTupSum
import KE.KSortTup
import PyProof.SetKind
import PyProof.SetRoads
import PyProof.SetNew
import PyProof.DictKinds
import PyProof.NsDelKeeps
import PyProof.StrWalks
import KE.KEqDict
import KE.KDictList
import PyProof.AttrMissSeq
import PyProof.WalksMore
import KE.KDictOf
import PyProof.Rows.Range3
import KE.KItemsList
import PyProof.FactsAll.dict_3
import KE.KMinKey
import PyProof.Rows.CallKwBuiltin
import PyProof.TupleOfSeq
import KE.KLam
import KE.KNestM
import PyProof.Rows.StrNews
import KE.KIntText
import PyProof.TupleKey
import PyProof.DictFindH
import PyProof.DictRoadsH
import PyProof.DictItems
import PyProof.Rows.TupTab
import Wide.Seal
import PyProof.DictValues
import PyProof.Rows.SortRev
import PySem.Challenge.RW_gaugewright_k57_plans
open Array renaming length_toList→fg,getElem?_eq_getElem→je,getElem?_toList→ox
open Bool renaming and_eq_true→fu,false_ne_true→gw,false_eq_true→iu,and_true→qp
open False renaming elim→ky
open ForInStep renaming yield→oz
open Int renaming le_refl→fy,toNat_natCast→gg,eq_ofNat_of_zero_le→gk,emod_lt_of_pos→lr,emod_nonneg→lz,zero_add→rk
open List renaming replicate→bh,getElem?_eq_getElem→bi,getElem?_concat_length→bo,mem_cons_of_mem→bp,length_map→bq,mem_cons_self→br,length_append→bv,mem_of_getElem?→bw,getD_eq_getElem?_getD→cg,mem_append_right→cp,mem_append_left→cu,length_cons→cw,eq_nil_of_length_eq_zero→cx,getElem?_append_left→dj,range→dm,size_toArray→dn,getElem?_map→fh,length_singleton→fi,map_append→fm,map_cons→ft,Nodup→fz,map_map→ge,append_nil→gl,not_mem_nil→gq,length_take→gz,length_set→ie,map_singleton→ix,append_assoc→ja,mem_cons→jd,getElem?_append_right→jj,lookup_cons→jq,all_eq_true→kq,drop_eq_getElem_cons→kr,getElem?_set_self→kt,getElem_mem→kz,take_length→ld,getElem?_set_ne→lu,mem_of_find?_eq_some→mz,mem_singleton→ni,filterMap_cons→nq,replicate_succ→nr,take_append_drop→nt,map_congr_left→nv,mem_append→oj,getElem?_cons_zero→ol,getElem?_cons_succ→om,length_range→on,sum_singleton→oq,nodup_nil→pf,lookup→qb,length_nil→qd,getElem?_range→qe,sum_append→qh,map_nil→qr,mem_of_mem_take→qu,foldl_cons→qx,length_drop→qz
open List.Perm renaming refl→rj
open List.cons renaming injEq→pb
open MonadExcept renaming tryCatch→rh
open Nat renaming le_refl→cz,lt_of_lt_of_le→fc,ne_of_lt→fk,le_trans→fv,le_of_lt→jc,zero_le→ji,lt_irrefl→jx,lt_succ_of_lt→qo
open Ne renaming symm→ic
open Option.some renaming inj→gb
open Or renaming inl→gj,inr→rf
open PyProof.Rows renaming callWith_type1→gx,IntsAre→nj,seqObj→oo,envOfC→qk
open PySem renaming wpAny_bind→ba,Value→bb,PyData→bc,Shared→bd,wpAny_pure→be,wpAny→bn,starEach→cr,Program→cy,sizeLine→df,Around→ff,World→fq,compareOp→gd,wpAny_newObj_type→gh,codeAny_builtin→gm,bootBuiltins→gn,wpAny_holding→gu,wpAny_truthy_bool→gy,plainId_quiet→ig,mainGlobals→ii,SetTable→jf,wpAny_updateSeq→jm,cLine→jn,wpAny_Call_Name_kw→jo,wpAny_tryCatch→ju,rawInt→jy,wpAny_call_entry→jz,wpAny_isInstance→kj,codeAny→kl,binaryOp→km,sizeLine_eq→ko,wpAny_callSpecial?_slot→ku,backTo→kx,NameKind→lg,wpAny_seqItems→lh,wpAny_setField_rec→lq,pyNext→ls,wpAny_passesOwn→ly,wpAny_pyIter_list→mn,wpAny_setState_of→ng,argBest→nk,wpAny_setEntries_of→nn,wpAny_letGo→nz,wpAny_mono→og,codeAny_mono→oh,FuncData→ou,intItems→oy,Builtin→pj,bindArgs→qc,attributeBase→qm,sysModules→qv,Arguments→qy,sliceBounds→ra,intKind→rc
open PySem.Around renaming under_plainId→fx
open PySem.Builtin.List renaming listExtendWith→io
open PySem.Builtin.Range renaming rangeSize→jr
open PySem.Builtin.Str renaming occurrences→jp
open PySem.Builtin.Tuple renaming tupleHashOf→jg
open PySem.F renaming plain_min_loop→gf,plain_extend_loop→nl,entry_min_loop→nu
open PySem.Heap renaming get?_push_of_some→bf,get?_push_size→cj,lt_size→dw,get?_update_other→gp,SameBut→ij,get?_update_self→ke
open PySem.Heap.SameBut renaming update→jv
open PySem.Obj renaming mapSeq→gi
open PySem.PassesOwn renaming never→gc
open PySem.PyData renaming int→bj,eqv→cv,canLayAll0→im,tuple→iq,depthAll→iy,eqvAll→iz,canLay0→jl,str→kh
open PySem.SeqAt renaming shaped→ci,canLay_of_shaped→fj
open PySem.SetTable renaming below→li,grown→qg
open PySem.Str renaming ofString→mr
open PySem.Value renaming ref→fb,isInt_shape→pi,isInt→px,none→pz,type→qa,int→qi
open PySem.W renaming Frag→bx,mg_none_of→jb,emptyDict→ny,findIn→ot,kia_one→pc,cellsFrom_some→qj,keepIn→ql,fnOf→re,instObj→rn
open ToString renaming toString→rg
open True renaming intro→qw
def ck:=@if_neg
def cq:=@if_pos
def dh:=@decide_eq_false
def fe:=@decide_eq_true
def jh:=@of_decide_eq_true
theorem yw{p:Prop}(h:p:=by omega):p:=h
theorem yv{p:Prop}(h:p:=by simp):p:=h
open Option (isSome_iff_exists isSome_map map_eq_some_iff map_some)
open Nat (add_mul le_of_eq le_of_lt le_refl le_succ le_trans lt_irrefl lt_of_lt_of_le lt_succ_of_lt lt_succ_self lt_trans mul_comm mul_le_mul ne_of_gt ne_of_lt succ_mul zero_add zero_le)
open List (all_cons all_eq_true all_map any_eq_false any_eq_true append_assoc append_nil cons_append drop_eq_getElem_cons drop_length eq_nil_of_length_eq_zero ext_getElem filterMap_cons find?_some flatten_cons foldl_append foldl_cons forall_mem_cons getD_eq_getElem?_getD getElem?_append_left getElem?_append_right getElem?_concat_length getElem?_cons_succ getElem?_cons_zero getElem?_eq_getElem getElem?_eq_none getElem?_map getElem?_range getElem?_set_ne getElem?_set_self getElem_mem length_append length_cons length_drop length_map length_nil length_range length_set length_singleton length_take lookup_cons map_append map_congr_left map_cons map_eq_nil_iff map_map map_nil mem_append mem_append_left mem_append_right mem_cons mem_cons_of_mem mem_cons_self mem_filter mem_flatMap mem_iff_getElem? mem_map mem_of_find?_eq_some mem_of_getElem? mem_of_mem_take mem_range mem_singleton nil_append nodup_append nodup_cons nodup_nil not_mem_nil of_mem_zip pairwise_cons replicate_succ reverse_cons set_cons_succ set_cons_zero size_toArray sum_append sum_cons take_add_one take_append_drop take_length take_zero zip_cons_cons)
open PySem.Heap (get?_push_of_some get?_push_size get?_update_other get?_update_self lt_size size_push)
open Array (getElem?_toList length_toList toList_push)
theorem dz{p:Prop}[Decidable p](h:decide p=true:=by rfl):p:=jh h
set_option Elab.async false
set_option linter.all false
set_option maxRecDepth 100000
set_option maxHeartbeats 8000000
noncomputable section
namespace L2
open PySem PySem.Spec PyProof.Rows
section
abbrev Key:=Sum Int Str
def Ct:Key->bb->Bool
 | .inl k,v=>px k v
 | .inr x,v=>Value.isStrOf x v
def Go(w:fq):Key->Int
 | .inl k=>hashInt k
 | .inr x=>hashStr w x
theorem gM:∀{k:Key}{v:bb},Ct k v=true->(∃i t,k=Sum.inl i/\v=qi i t)\/(∃x t,k=Sum.inr x/\v=Value.str x t)
 | .inl i,v,h=>by
  obtain⟨t,e⟩:=pi (k:=i) (v:=v) h;exact .inl ⟨i,t,rfl,e⟩
 | .inr x,v,h=>by
  obtain⟨t,e⟩:=Value.isStrOf_shape (x:=x) (v:=v) h;exact .inr ⟨x,t,rfl,e⟩
theorem Fg(a b:Int):decide ((Sum.inl a:Key)=Sum.inl b)=(a==b):=by
 by_cases e:a=b
 ·subst e;simp
 ·have h:¬(Sum.inl a:Key)=Sum.inl b:=fun q=>e (Sum.inl.inj q);rw[dh h];exact(beq_eq_false_iff_ne.mpr e).symm
theorem Gk(a b:Str):decide ((Sum.inr a:Key)=Sum.inr b)=decide (a=b):=by
 by_cases e:a=b
 ·subst e;simp
 ·have h:¬(Sum.inr a:Key)=Sum.inr b:=fun q=>e (Sum.inr.inj q);rw[dh h,dh e]
theorem G0(a:Int)(b:Str):decide ((Sum.inl a:Key)=Sum.inr b)=false:=dh (fun q=>nomatch q)
theorem Fd(a:Str)(b:Int):decide ((Sum.inr a:Key)=Sum.inl b)=false:=dh (fun q=>nomatch q)
def wM(prog:cy)(w:fq):PySem.KeyKind prog w Key where
 is:=Ct
 hash:=Go w
 inj:=fun v a b ha hb=>by
  rcases gM ha with ⟨i,t,rfl,rfl⟩|⟨x,t,rfl,rfl⟩
  ·rcases gM hb with ⟨j,u,rfl,e⟩|⟨y,u,rfl,e⟩
   ·injection e with e1 _;rw[e1]
   ·exact nomatch e
  ·rcases gM hb with ⟨j,u,rfl,e⟩|⟨y,u,rfl,e⟩
   ·exact nomatch e
   ·injection e with e1 _;rw[e1]
 byValue:=fun k v h=>by
  rcases gM h with ⟨i,t,rfl,rfl⟩|⟨x,t,rfl,rfl⟩<;>rfl
 pyHash:=fun hv h=>by
  rcases gM hv with ⟨i,t,rfl,rfl⟩|⟨x,t,rfl,rfl⟩
  ·exact wpAny_pyHash_int h
  ·exact wpAny_pyHash_str h
 eqBool:=fun hu hv h=>by
  rcases gM hu with ⟨i,t,rfl,rfl⟩|⟨x,t,rfl,rfl⟩
  ·rcases gM hv with ⟨j,u,rfl,rfl⟩|⟨y,u,rfl,rfl⟩
   ·rw[Fg]at h;exact wpAny_eqBool_int h
   ·rw[G0]at h;exact SeqAt.EqAt.int_str i t y u _ _ _ _ h
  ·rcases gM hv with ⟨j,u,rfl,rfl⟩|⟨y,u,rfl,rfl⟩
   ·rw[Fd]at h;exact SeqAt.EqAt.str_int x t j u _ _ _ _ h
   ·rw[Gk]at h;exact wpAny_eqBool_str h
 «strs»:=fun k x t v h=>by
  rcases gM h with ⟨i,u,rfl,e⟩|⟨y,u,rfl,e⟩
  ·exact nomatch e
  ·injection e with e1 _
   subst e1;cases v<;>rfl
end
section
inductive V where
 |non|bl (b:Bool)|int (i:Int)|str (x:Str)|byt (b:Array UInt8)|flt (b:UInt64)|ref (a:Addr)|ty (n:String)
 deriving DecidableEq
def RelV:V->bb->Prop
 | .non,u=>u=pz
 | .bl b,u=>u=Value.bool b
 | .int i,u=>∃t,u=qi i t
 | .str x,u=>∃t,u=Value.str x t
 | .byt b,u=>∃t,u=Value.bytes b t
 | .flt b,u=>∃t,u=Value.float b t
 | .ref a,u=>u=fb a
 | .ty n,u=>u=qa n
abbrev Vals:List V->List bb->Prop:=Paired RelV
theorem Vals.length{xs:List V}{us:List bb}(r:Vals xs us):xs.length=us.length:=Paired.length r
theorem Vals.get:∀{xs:List V}{us:List bb}{i:Nat}{x:V},Vals xs us->xs[i]?=some x->∃u,us[i]?=some u/\RelV x u
 |_,_,_,_,.nil,e=>by simp at e
 |_,_,0,_,.cons r _,e=>by simp at e;subst e;exact⟨_,rfl,r⟩
 |_,_,i+1,x,.cons _ t,e=>by
  obtain⟨u,h1,h2⟩:=Vals.get (i:=i) (x:=x) t (by simpa using e);exact⟨u,by simpa using h1,h2⟩
theorem Vals.set{x:V}{u:bb}(r:RelV x u):∀{xs:List V}{us:List bb} (i:Nat),Vals xs us->Vals (xs.set i x) (us.set i u)
 |_,_,_,.nil=>.nil
 |_,_,0,.cons _ t=>.cons r t
 |_,_,i+1,.cons q t=>.cons q (Vals.set r i t)
theorem Vals.append:∀{xs ys:List V}{us ws:List bb},Vals xs us->Vals ys ws->Vals (xs++ys) (us++ws)
 |_,_,_,_,.nil,s=>s
 |_,_,_,_,.cons r t,s=>.cons r (Vals.append t s)
theorem Vals.take:∀{xs:List V}{us:List bb} (n:Nat),Vals xs us->Vals (xs.take n) (us.take n)
 |_,_,0,_=>.nil
 |_,_,_+1,.nil=>.nil
 |_,_,n+1,.cons r t=>.cons r (Vals.take n t)
theorem Vals.drop:∀{xs:List V}{us:List bb} (n:Nat),Vals xs us->Vals (xs.drop n) (us.drop n)
 |_,_,0,r=>r
 |_,_,_+1,.nil=>.nil
 |_,_,n+1,.cons _ t=>Vals.drop n t
def RelO:Option V->Option bb->Prop
 |some v,some u=>RelV v u
 |none,none=>True
 |_,_=>False
def KV{κ:Type}:List (κ×V)->List (κ×bb)->Prop:=Paired fun(p:κ×V) (q:κ×bb)=>p.1=q.1/\RelV p.2 q.2
def kV:Key->V
 | .inl i=>.int i
 | .inr x=>.str x
inductive HO where
 |lst (xs:List V)
 |tup (xs:List V)
 |dK (kvs:List (Key×V))|dT (kvs:List (List Key×V))
 |set (S:Int->Bool) (n:Nat)
 |ins (C dx:Addr) (fs:List (Str×V))
 |own (x:Addr)
 |xd (fs:List (Str×V))
 |met (f x:Addr)
 |rng (lo hi:Int)
 |frz (o:Obj) (u:HO)
 |tbl (ps:Array bb)
 |ext (φ:Heap->Prop)
abbrev Hp:=Addr->Option HO
def upd(H:Hp)(a:Addr)(o:HO):Hp:=fun b=>if b=a then some o else H b
theorem zK{H:Hp}{a:Addr}{o:HO}:upd H a o a=some o:=by unfold upd;rw[cq rfl]
theorem zE{H:Hp}{a b:Addr}{o:HO}(h:b≠a):upd H a o b=H b:=by unfold upd;rw[ck h]
theorem Dv{H:Hp}{a:Addr}{o u:HO}:upd (upd H a o) a u=upd H a u:=by
 funext b;unfold upd;split<;>rfl
theorem zL{H:Hp}{a b:Addr}{o:HO}(h:H a=some o)(h':H b=none):a≠b:=by
 intro e;subst e;rw[h]at h';cases h'
def keepG:List ((Addr×Obj)×Str):=([((106,⟨.type "tuple",none,.seq #[.str "keeps" 313] 0,#[]⟩),"keeps"),((107,⟨.type "tuple",none,.seq #[.str "breaks" 315] 0,#[]⟩),"breaks")]:List ((PySem.Addr×PySem.Obj)×PySem.Str))
def KpAt(a:Addr)(o:Obj):Prop:=∀q∈keepG,q.1.1=a->o=q.1.2
def TblOk(H:Hp)(ps qs:Array bb):Prop:=qs = #[]\/∃(l c:bb) (q:Str) (t:Tok) (k:Addr) (oc:Obj) (vs:Array bb) (t':Tok),ps = #[l,c,.str q t]/\qs = #[l,c,.ref k]/\H k=some (.frz oc (.own 0))/\oc.data=.fields vs/\vs[1]?=some (.str q t')
theorem TblOk.stay{H H':Hp}{ps qs:Array bb}(x:TblOk H ps qs)(hf:∀b o u,H b=some (.frz o u)->H' b=some (.frz o u)):TblOk H' ps qs:=by
 rcases x with x|⟨l,c,q,t,k,oc,vs,t',e1,e2,e3,r⟩
 ·exact .inl x
 ·exact .inr ⟨l,c,q,t,k,oc,vs,t',e1,e2,hf _ _ _ e3,r⟩
section
variable (P:cy) (w:fq)
def ObjOk(H:Hp)(h:Heap)(a:Addr):HO->Prop
 | .lst xs=>xs.length<=df/\∃(its:List bb) (n:Nat),Vals xs its/\h.get? a=some { cls:=.type "list",data:=.seq its.toArray n }
 | .tup xs=>(xs.length<=df/\∃o:Obj,h.get? a=some o/\o.dict=none/\KpAt a o)/\∃its:List bb,Vals xs its/\IsTup h a its.toArray
 | .dK kvs=>kvs.length<=df/\(a==qv)=false/\∃vs,KV kvs vs/\h.DictOf (wM P w) a vs
 | .dT kvs=>kvs.length<=df/\(a==qv)=false/\∃xs:List (List Key×Addr×bb),
   Paired (fun(p:List Key×V) (q:List Key×Addr×bb)=>p.1=q.1/\H q.2.1=some (.tup (p.1.map kV))/\RelV p.2 q.2.2) kvs xs /\
   ∃o es ep,h.get? a=some o/\o.ExactDict/\o.data=.dict es ep/\es.toList=xs.map (entryOfKey (tupleKind (wM P w)))/\(xs.map (·.1)).Nodup
 | .set S n=>h.SetOf (rc P w) a S n
 | .ins C dx fs=>H dx=some (.own a)/\fs.length<=1000/\dx≠a/\h.get? a=some (rn C dx) /\
   ∃mA,h.Ns1 dx mA/\(∀f,RelO (fs.lookup f) (mA f))/\PySem.Within mA (fs.map (·.1))
 | .own _=>∃o,h.get? a=some o
 | .xd fs=>∃mA,h.Ns1 a mA/\∀f,RelO (fs.lookup f) (mA f)
 | .rng lo hi=>∃t u v,h.get? a=some { cls:=.type "range",data:=.fields #[.int lo t,.int hi u,.int 1 v] }
 | .frz o u=>h.get? a=some o/\ObjOk H h a u
 | .tbl ps=>∃qs:Array bb,h.get? a=some { cls:=.none,data:=.fields qs }/\TblOk H ps qs
 | .met f x=>h.get? a=some (W.methodObj (.ref f) (.ref x))
 | .ext φ=>φ h/\(∃o,h.get? a=some o)/\∀h1 h2:Heap,φ h1->(∀o,h1.get? a=some o->h2.get? a=some o)->φ h2
def HOk(H:Hp)(h:Heap):Prop:=∀a o,H a=some o->ObjOk P w H h a o
end
section
variable {P:cy}{w:fq}{H H':Hp}{h h':Heap}{a:Addr}{o:HO}
theorem ObjOk.lt(x:ObjOk P w H h a o):a<h.objs.size:=by
 cases o with
 |lst xs=>obtain⟨_,_,_,_,e⟩:=x;exact dw e
 |tup xs=>obtain⟨_,_,_,p⟩:=x;exact p.lt
 |dK kvs=>obtain⟨_,_,_,_,o,_,_,e,_⟩:=x;exact dw e
 |dT kvs=>obtain⟨_,_,_,_,o,_,_,e,_⟩:=x;exact dw e
 |set S n=>obtain⟨o,_,_,_,e,_⟩:=x;exact dw e
 |ins C dx fs=>obtain⟨_,_,_,e,_⟩:=x;exact dw e
 |own y=>obtain⟨_,e⟩:=x;exact dw e
 |xd fs=>obtain⟨_,⟨_,_,_,e,_⟩,_⟩:=x;exact dw e
 |rng lo hi=>obtain⟨_,_,_,e⟩:=x;exact dw e
 |frz ob u=>obtain⟨e,_⟩:=x;exact dw e
 |tbl ps=>obtain⟨_,e,_⟩:=x;exact dw e
 |met f y=>exact dw (show h.get? a=some _ from x)
 |ext φ=>obtain⟨_,⟨_,e⟩,_⟩:=x;exact dw e
theorem Paired.mapP{α β:Type}{F G:α->β->Prop}:∀{l₁:List α}{l₂:List β},Paired F l₁ l₂->(∀a b,F a b->G a b)->Paired G l₁ l₂
 |_,_,.nil,_=>.nil
 |_,_,.cons r t,f=>.cons (f _ _ r) (Paired.mapP t f)
theorem ObjOk.stay(x:ObjOk P w H h a o)(k:∀b u,(b=a\/H b=some (.own a))->h.get? b=some u->h'.get? b=some u)
  (ho:∀b,H b=some (.own a)->H' b=some (.own a)) (ht:∀b xs,H b=some (.tup xs)->H' b=some (.tup xs))
  (hf:∀b o u,H b=some (.frz o u)->H' b=some (.frz o u):=by first|exact fun _ _ _ q=>q|(intro b o u q;rw[zE (zL q (by assumption))];exact q)):ObjOk P w H' h' a o:=by
 induction o with
 |lst xs=>obtain⟨z,aa,n,r,e⟩:=x;exact⟨z,aa,n,r,k _ _ (.inl rfl) e⟩
 |tup xs=>obtain⟨⟨z,o2,e2,d2⟩,aa,r,ob,e,c⟩:=x;exact⟨⟨z,o2,k _ _ (.inl rfl) e2,d2⟩,aa,r,ob,k _ _ (.inl rfl) e,c⟩
 |dK kvs=>obtain⟨z,y,vs,r,ob,es,ep,e,c⟩:=x;exact⟨z,y,vs,r,ob,es,ep,k _ _ (.inl rfl) e,c⟩
 |dT kvs=>
  obtain⟨z,y,xs,r,ob,es,ep,e,c⟩:=x;exact⟨z,y,xs,Paired.mapP r fun p q z=>⟨z.1,ht _ _ z.2.1,z.2.2⟩,ob,es,ep,k _ _ (.inl rfl) e,c⟩
 |set S n=>obtain⟨ob,es,ep,t,e,c⟩:=x;exact⟨ob,es,ep,t,k _ _ (.inl rfl) e,c⟩
 |ins C dx fs=>
  obtain⟨d,z,ne,e,mA,⟨od,es,ep,e2,c⟩,r⟩:=x;exact⟨ho _ d,z,ne,k _ _ (.inl rfl) e,mA,⟨od,es,ep,k _ _ (.inr d) e2,c⟩,r⟩
 |own y=>obtain⟨ob,e⟩:=x;exact⟨ob,k _ _ (.inl rfl) e⟩
 |xd fs=>obtain⟨mA,⟨od,es,ep,e,c⟩,r⟩:=x;exact⟨mA,⟨od,es,ep,k _ _ (.inl rfl) e,c⟩,r⟩
 |rng lo hi=>obtain⟨t,u,v,e⟩:=x;exact⟨t,u,v,k _ _ (.inl rfl) e⟩
 |frz ob u ih=>obtain⟨e,q⟩:=x;exact⟨k _ _ (.inl rfl) e,ih q⟩
 |tbl ps=>
  obtain⟨qs,e,q⟩:=x;exact⟨qs,k a _ (.inl rfl) e,q.stay hf⟩
 |met f y=>
  have e:h.get? a=some (W.methodObj (.ref f) (.ref y)):=x;show h'.get? a=some (W.methodObj (.ref f) (.ref y));exact k a _ (.inl rfl) e
 |ext φ=>obtain⟨p,⟨o,e⟩,st⟩:=x;exact⟨st _ _ p fun o q=>k _ _ (.inl rfl) q,⟨o,k _ _ (.inl rfl) e⟩,st⟩
theorem HOk.lt(x:HOk P w H h)(e:H a=some o):a<h.objs.size:=(x a o e).lt
theorem HOk.fresh(x:HOk P w H h)(e:h.objs.size<=a):H a=none:=by
 cases q:H a with
 |none=>rfl
 |some u=>exact absurd (fc (x.lt q) e) (jx _)
theorem HOk.kept(x:HOk P w H h)(k:∀b u,h.get? b=some u->h'.get? b=some u):HOk P w H h':=fun a o e=>
 (x a o e).stay (fun b u _ q=>k b u q) (fun _ q=>q) fun _ _ q=>q
theorem HOk.laid(x:HOk P w H h)(k:∀b u,h.get? b=some u->h'.get? b=some u)(hp:h.objs.size<=a)(z:ObjOk P w (upd H a o) h' a o):HOk P w (upd H a o) h':=fun b u e=>by
 have hn:=x.fresh hp;by_cases hb:b=a
 ·subst hb;rw[zK]at e;cases e;exact z
 ·rw[zE hb]at e;exact(x b u e).stay (fun c v _ q=>k c v q) (fun c q=>by rw[zE (zL q hn)];exact q) fun c xs q=>by rw[zE (zL q hn)];exact q
end
def Rd(H:Hp)(a:Addr)(u:HO):Prop:=H a=some u\/∃o,H a=some (.frz o u)
theorem Rd.ok{P:cy}{w:fq}{H:Hp}{h:Heap}{a:Addr}{u:HO}(r:Rd H a u)(x:HOk P w H h):ObjOk P w H h a u:=by
 rcases r with r|⟨o,r⟩
 ·exact x a u r
 ·obtain⟨_,q⟩:=x a _ r;exact q
def Mut:Option HO->Prop
 |some (.lst _)=>True
 |some (.dK _)=>True
 |some (.dT _)=>True
 |some (.set _ _)=>True
 |some (.ins _ _ _)=>True
 |some (.ext _)=>True
 |_=>False
section
variable {P:cy}{w:fq}{H:Hp}{h h':Heap}{x e:Addr}{o':HO}
theorem HOk.write(ok:HOk P w H h)(mu:Mut (H x))(he:e=x\/H e=some (.own x))(k:∀b u,b≠e->h.get? b=some u->h'.get? b=some u)(ae:∃u,h'.get? e=some u)
  (new:ObjOk P w (upd H x o') h' x o'):HOk P w (upd H x o') h':=fun b u q=>by
 have aa:∀c y,H c=some (.own y)->c≠x:=fun c y r z=>by subst z;rw[r]at mu;exact mu
 have ac:∀c xs,H c=some (.tup xs)->c≠x:=fun c xs r z=>by subst z;rw[r]at mu;exact mu
 have ab:∀c o u,H c=some (.frz o u)->c≠x:=fun c o u r z=>by subst z;rw[r]at mu;exact mu
 by_cases hb:b=x
 ·subst hb;rw[zK]at q;cases q;exact new
 ·rw[zE hb]at q;by_cases hbe:b=e
  ·have q':H b=some (.own x):=by
    rcases he with z|z
    ·exact absurd (hbe.trans z) hb
    ·rw[hbe];exact z
   rw[q]at q';cases q';obtain⟨v,hv⟩:=ae;exact⟨v,by rw[hbe];exact hv⟩
  ·refine(ok b u q).stay (fun c v hc r=>k c v ?_ r) (fun c r=>by rw[zE (aa c b r)];exact r) (fun c xs r=>by rw[zE (ac c xs r)];exact r) fun c o u r=>by rw[zE (ab c o u r)];exact r
   rcases hc with rfl|hc
   ·exact hbe
   ·rintro rfl;rcases he with z|z
    ·exact aa c b hc z
    ·rw[hc]at z;cases z;exact hb rfl
end
structure Un(fs ex:List Addr)(H H':Hp)(h h':Heap):Prop where
 keep:∀b o,h.get? b=some o->H b=none->b∉fs->b∉ex->h'.get? b=some o
 slot:∀b o,h.get? b=some o->H b=none->b∈fs->b∉ex->∃sl,h'.get? b=some { o with slots:=sl }
 free:∀b o,h.get? b=some o->H b=none->b∉ex->H' b=none
 there:∀b o,h.get? b=some o->b∉ex->∃o',h'.get? b=some o'
 tups:∀b xs,H b=some (.tup xs)->H' b=some (.tup xs)
 frzs:∀b o u,H b=some (.frz o u)->H' b=some (.frz o u)
 tbls:∀b ps,H b=some (.tbl ps)->H' b=some (.tbl ps)
section
variable {fs fs' ex ex':List Addr}{H H1 H2:Hp}{h h1 h2 h':Heap}{a x e:Addr}{o:HO}
theorem Un.any(u:Un fs ex H H1 h h1){b:Addr}{ob:Obj}(q:h.get? b=some ob)(n:H b=none)(hx:b∉ex):∃sl,h1.get? b=some { ob with slots:=sl }:=by
 by_cases hb:b∈fs
 ·exact u.slot b ob q n hb hx
 ·exact⟨ob.slots,u.keep b ob q n hb hx⟩
theorem Un.trans(a:Un fs ex H H1 h h1)(b:Un fs ex H1 H2 h1 h2):Un fs ex H H2 h h2 where
 keep:=fun c ob q n hc hx=>b.keep c ob (a.keep c ob q n hc hx) (a.free c ob q n hx) hc hx
 slot:=fun c ob q n hc hx=>by
  obtain⟨sl,e1⟩:=a.slot c ob q n hc hx;obtain⟨z,e2⟩:=b.slot c _ e1 (a.free c ob q n hx) hc hx;exact⟨z,e2⟩
 free:=fun c ob q n hx=>by
  obtain⟨o',e1⟩:=a.there c ob q hx;exact b.free c o' e1 (a.free c ob q n hx) hx
 there:=fun c ob q hx=>by
  obtain⟨o',e1⟩:=a.there c ob q hx;exact b.there c o' e1 hx
 tups:=fun c xs q=>b.tups c xs (a.tups c xs q)
 frzs:=fun c ob xs q=>b.frzs c ob xs (a.frzs c ob xs q)
 tbls:=fun c ps q=>b.tbls c _ (a.tbls c ps q)
theorem Un.kept(k:∀b u,h.get? b=some u->h'.get? b=some u):Un fs ex H H h h':=
 ⟨fun b ob q _ _ _=>k b ob q,fun b ob q _ _ _=>⟨ob.slots,k b ob q⟩,fun _ _ _ n _=>n,fun b ob q _=>⟨ob,k b ob q⟩,fun _ _ q=>q,fun _ _ _ q=>q,fun _ _ q=>q⟩
theorem Un.refl:Un fs ex H H h h:=Un.kept fun _ _ q=>q
theorem Un.laid(k:∀b u,h.get? b=some u->h'.get? b=some u)(hp:h.objs.size<=a)(hn:H a=none):Un fs ex H (upd H a o) h h' where
 keep:=fun b u q _ _ _=>k b u q
 slot:=fun b u q _ _ _=>⟨u.slots,k b u q⟩
 free:=fun b u q n _=>by rw[zE (fk (fc (dw q) hp))];exact n
 there:=fun b u q _=>⟨u,k b u q⟩
 tups:=fun b xs q=>by rw[zE (zL q hn)];exact q
 frzs:=fun b u xs q=>by rw[zE (zL q hn)];exact q
 tbls:=fun b ps q=>by rw[zE (zL q hn)];exact q
theorem Un.write(mu:Mut (H x))(he:e=x\/H e=some (.own x))(k:∀b u,b≠e->h.get? b=some u->h'.get? b=some u)(aa:∃u,h'.get? e=some u):Un fs ex H (upd H x o) h h':=by
 have hx:∀b,H b=none->b≠x:=fun b n z=>by subst z;rw[n]at mu;exact mu
 have hb:∀b,H b=none->b≠e:=fun b n z=>by
  subst z;rcases he with r|r
  ·exact hx b n r
  ·rw[n]at r;cases r
 have hm:∀b u,H b=some u->¬ Mut (some u)->b≠x:=fun b u q nm z=>by subst z;rw[q]at mu;exact nm mu
 refine⟨fun b u q n _ _=>k b u (hb b n) q,fun b u q n _ _=>⟨u.slots,k b u (hb b n) q⟩,fun b u q n _=>by rw[zE (hx b n)];exact n,fun b u q _=>?_,
  fun b xs q=>by rw[zE (hm b _ q fun z=>z)];exact q,fun b u xs q=>by rw[zE (hm b _ q fun z=>z)];exact q,fun b ps q=>by rw[zE (hm b _ q fun z=>z)];exact q⟩
 by_cases hbe:b=e
 ·subst hbe;exact aa
 ·exact⟨u,k b u hbe q⟩
theorem Un.mono(u:Un fs ex H H1 h h1)(hs:∀b∈fs,b∈fs')(hx:∀b∈ex,b∈ex'):Un fs' ex' H H1 h h1:=
 ⟨fun b ob q n hb he=>u.keep b ob q n (fun z=>hb (hs b z)) fun z=>he (hx b z),fun _ _ q n _ he=>u.any q n fun z=>he (hx _ z),fun b ob q n he=>u.free b ob q n fun z=>he (hx b z),fun b ob q he=>u.there b ob q fun z=>he (hx b z),u.tups,u.frzs,u.tbls⟩
end
def trk(h:Heap)(H:Hp):List Addr:=(dm h.objs.size).filter fun a=>(H a).isSome
def fS(h:Heap)(H:Hp):Heap:=W.hideAll h (trk h H)
theorem LN(h:Heap)(H:Hp):(fS h H).objs.size=h.objs.size:=W.hideAll_size _ _
theorem K0{h:Heap}{H:Hp}{b:Addr}{o:Obj}(e:h.get? b=some o)(n:H b=none):(fS h H).get? b=some o:=
 W.hideAll_get _ e fun hm=>by
  have q:(H b).isSome=true:=(mem_filter.mp hm).2;rw[n]at q;simp at q
theorem HC{h:Heap}{H:Hp}{b:Addr}{o:Obj}(e:(fS h H).get? b=some o):h.get? b=some o/\H b=none:=by
 have e':h.get? b=some o:=W.of_hideAll (trk h H) e;refine⟨e',?_⟩;cases q:H b with
 |none=>rfl
 |some x=>
  have hm:b∈trk h H:=mem_filter.mpr ⟨mem_range.mpr (dw e'),by simp[q]⟩;have z:(fS h H).get? b=none:=W.hideAll_none (trk h H) hm;rw[z]at e;cases e
def JU(g h:Heap)(L:Addr):List (Addr×Obj):=(dm h.objs.size).filterMap fun a=>if a=L\/(g.get? a).isSome=true then none else (h.get? a).map fun o=>(a,o)
def rest(g h:Heap)(L d:Addr):List (Addr×Obj):=(JU g h L).filter fun p=>decide (p.1≠d)
end
section
def tabsG:List ((Addr×Addr)×Array bb):=[((175,173),#[jy ((110:Nat):Int),jy ((93:Nat):Int),.str (("Planner.best" ++ ".<locals>.") ++ "<lambda>") 0])]
def BltAt(base:Heap)(mg:Str->Option bb):Prop:=∃bm ob,mg "__builtins__" = some (.ref bm)/\bm≠builtinsNs/\base.get? bm=some ob/\ob.cls=.type "module"/\ob.dict=some builtinsNs/\ob.data=.plain
structure Frf(fs:List Addr)(H:Hp):Prop where
 free:∀b∈fs,H b=none
 tab:∀q∈tabsG,H q.1.2=some (.tbl q.2)
 kp:∀q∈keepG,H q.1.1=some (.tup [.str q.2])
def KInW(K:bx)(base:Heap):Prop:=∀a o,K.lookup a=some o->base.get? a=some o\/∃q∈keepG,q.1=(a,o)
theorem KInW.all{K:bx}{base h:Heap}(m:KInW K base)(h1:∀b o,base.get? b=some o->h.get? b=some o)(h2:∀q∈keepG,h.get? q.1.1=some q.1.2):K.In h:=fun a o e=>by
 rcases m a o e with z|⟨q,hq,z⟩
 ·exact h1 _ _ z
 ·have:=h2 q hq;rw[z]at this;exact this
theorem Frf.kpIn{fs:List Addr}{H:Hp}{P:cy}{w:fq}{h:Heap}(f:Frf fs H)(ok:HOk P w H h):∀q∈keepG,h.get? q.1.1=some q.1.2:=fun q hq=>by
 obtain⟨⟨_,o,e,_,k⟩,_⟩:=(show ObjOk P w H h q.1.1 (.tup [.str q.2])from ok _ _ (f.kp q hq));rw[e,k q hq rfl]
theorem Frf.kpNew{fs:List Addr}{H:Hp}{P:cy}{w:fq}{h:Heap}(f:Frf fs H)(ok:HOk P w H h){p:Addr}(hp:h.objs.size<=p)(o:Obj):KpAt p o:=fun q hq e=>by
 have:=dw (f.kpIn ok q hq);rw[e]at this;exact absurd this (Nat.not_lt.mpr hp)
structure Mod(K:bx)(mg:Str->Option bb)(base:Heap):Prop where
 kin:KInW K base
 glob:base.Ns ii mg
 blt:∃mb,base.Ns builtinsNs mb/\∀x:Str,x ≠ "__name__"->mb x=gn x
 nolimit:base.NoLimit
 bm:BltAt base mg
 hd:∀q∈tabsG,W.CodeHd base q.1.1 q.1.2
structure Cx where
 prog:cy
 w:fq
 K:bx
 mg:Str->Option bb
 base:Heap
 A:ff
 N:List Str
 s₀:bd
 H₀:Hp
 env:Env
 outer:List Env
 stack:List Env
 ex:List Addr
 fn:Str->Bool
 calm:Bool
 pn:List (Addr×Obj)
 xe:bb->bd->Prop
def frs(l:List Env):List Addr:=l.filterMap (·.frame)
abbrev Cx.fs (X:Cx):List Addr:=frs X.outer
def Vis(sc:Scope)(x:Str):Prop:=sc.names.lookup x=some .local\/sc.names.lookup x=some .cell\/sc.names.lookup x=some .free
def Loc(sc:Scope)(x:Str):Prop:=sc.names.lookup x=some .local\/sc.names.lookup x=some .cell
def Look(env:Env)(h:Heap)(m:Str->Option bb)(x:Str)(u:bb):Prop:=
 (env.kindOf x=some .local/\m x=some u)\/((env.kindOf x=some .cell\/env.kindOf x=some .free)/\∃c,env.cells.lookup x=some c/\h.IsCell c (some u))
structure Cx.Ok(X:Cx):Prop where
 mod:Mod X.K X.mg X.base
 kind:X.env.scope.kind=.function
 glob:X.env.globals=ii
 blt:X.env.builtins=builtinsNs
 above:X.s₀.heap.objs.size<=X.env.locals
 inj:∀x y c,X.env.cells.lookup x=some c->X.env.cells.lookup y=some c->x=y
 has:∀x,(X.env.kindOf x=some .cell\/X.env.kindOf x=some .free)->∃c,X.env.cells.lookup x=some c
 cab:∀x c,X.fn x=true->X.env.cells.lookup x=some c->X.s₀.heap.objs.size<=c
 hd:X.calm=true->X.A.handled=none
 frames:X.A.frames=some X.stack
 stk:X.stack=X.outer\/(X.stack=X.env::X.outer/\X.env.frame=some X.env.locals)
 exf:∀b∈X.ex,b≠X.env.locals/\∀x c,X.env.cells.lookup x=some c->c≠b
 bs:∀b o,X.base.get? b=some o->X.s₀.heap.get? b=some o/\X.H₀ b=none
 bsz:X.base.objs.size<=X.s₀.heap.objs.size
 noex:∀b o,X.base.get? b=some o->b∉X.ex
 exfs:∀b∈X.ex,b∉X.fs
 funs:X.s₀.heap.FunFrames X.base X.outer
 frf:Frf X.fs X.H₀
structure Inv(X:Cx)(zi:List (Addr×Obj))(σ:List (Option V))(H:Hp)(s:bd):Prop where
 ok:X.Ok
 os:s.os=X.s₀.os
 bare:AllBare s.gens
 base:Un X.fs X.ex X.H₀ H X.s₀.heap s.heap
 loc:∃m,s.heap.Ns X.env.locals m/\∀(i:Nat) (x:Str) (v:V),X.N[i]?=some x->σ[i]?=some (some v)->Vis X.env.scope x->∃u,RelV v u/\Look X.env s.heap m x u
 cell:∀x c,X.env.cells.lookup x=some c->∃v,s.heap.IsCell c v
 free:H X.env.locals=none
 freeC:∀x c,X.env.cells.lookup x=some c->H c=none
 pin:∀p∈X.pn++zi,s.heap.get? p.1=some p.2/\H p.1=none/\p.1≠X.env.locals/\p.1∉X.fs/\∀v,p.2.data≠.cell v
 hok:HOk X.prog X.w H s.heap
 len:σ.length=X.N.length
section
variable {X:Cx}{zi:List (Addr×Obj)}{σ:List (Option V)}{H H':Hp}{s:bd}{h':Heap}
theorem Cx.Ok.nofr(ok:X.Ok){b:Addr}{o:Obj}(e:X.base.get? b=some o):b∉X.fs:=fun hb=>by
 have:=(ok.funs.mem hb).1;rw[e]at this;cases this
theorem Inv.bs(I:Inv X zi σ H s):∀b o,X.base.get? b=some o->s.heap.get? b=some o/\H b=none:=fun b o e=>
 ⟨I.base.keep b o (I.ok.bs b o e).1 (I.ok.bs b o e).2 (I.ok.nofr e) (I.ok.noex b o e),I.base.free b o (I.ok.bs b o e).1 (I.ok.bs b o e).2 (I.ok.noex b o e)⟩
theorem Inv.bk(I:Inv X zi σ H s):∀b o,X.base.get? b=some o->s.heap.get? b=some o:=fun b o e=>(I.bs b o e).1
theorem Inv.mod(I:Inv X zi σ H s):Mod X.K X.mg X.base:=I.ok.mod
theorem Inv.frfH(I:Inv X zi σ H s):Frf [] H:=⟨fun _ hb=>absurd hb yv,fun q hq=>I.base.tbls _ _ (I.ok.frf.tab q hq),fun q hq=>I.base.tups _ _ (I.ok.frf.kp q hq)⟩
theorem Inv.kIn(I:Inv X zi σ H s):X.K.In s.heap:=I.ok.mod.kin.all I.bk (I.frfH.kpIn I.hok)
theorem Inv.kpNew(I:Inv X zi σ H s){p:Addr}(hp:s.heap.objs.size<=p:=by exact cz _){o:Obj}:KpAt p o:=I.frfH.kpNew I.hok hp o
theorem Inv.lt(I:Inv X zi σ H s):X.env.locals<s.heap.objs.size:=let ⟨_,hn,_⟩:=I.loc;hn.lt
theorem Inv.sz(I:Inv X zi σ H s):X.s₀.heap.objs.size<=s.heap.objs.size:=fv I.ok.above (jc I.lt)
theorem Inv.nofs(I:Inv X zi σ H s){a:Addr}(h:s.heap.objs.size<=a):a∉X.fs:=fun hb=>by
 obtain⟨_,o,ho,_⟩:=I.ok.funs.mem hb;exact absurd (fc (dw ho) (fv I.sz h)) (jx _)
theorem Inv.cne(I:Inv X zi σ H s):∀x c,X.env.cells.lookup x=some c->c≠X.env.locals:=fun x c e z=>by
 obtain⟨v,o,ho,hd⟩:=I.cell x c e;obtain⟨m,⟨o',es,ep,q,aa,_⟩,_⟩:=I.loc;rw[z,q]at ho;cases ho;rw[aa]at hd;cases hd
theorem Inv.funs(I:Inv X zi σ H s):s.heap.FunFrames X.base X.outer:=by
 have all:∀(l:List Env),(∀b∈frs l,b∈X.fs)->X.s₀.heap.FunFrames X.base l->s.heap.FunFrames X.base l:=by
  intro l;induction l with
  |nil=>intro _ _;trivial
  |cons env r ih=>
   intro hs hl;obtain⟨hk,⟨L,o,hf,hn,ho,hd⟩,hr⟩:=hl;have hL:L∈X.fs:=hs L (by unfold frs;rw[nq,hf];exact br);obtain⟨sl,e⟩:=I.base.slot L o ho (I.ok.frf.free L hL) hL fun z=>I.ok.exfs L z hL;exact⟨hk,⟨L,_,hf,hn,e,hd⟩,ih (fun b hb=>hs b (by unfold frs;rw[nq,hf];exact bp _ hb)) hr⟩
 exact all X.outer (fun _ hb=>hb) I.ok.funs
theorem Inv.stack(I:Inv X zi σ H s):s.heap.FunFrames X.base X.stack:=by
 rcases I.ok.stk with e|⟨e,hf⟩
 ·rw[e];exact I.funs
 ·rw[e];obtain⟨m,hn,_⟩:=I.loc;refine .cons (by rw[I.ok.kind];decide) hf hn ?_ I.funs;exact Heap.get?_none_of_le (fv I.ok.bsz I.ok.above)
theorem Inv.stkSub(I:Inv X zi σ H s):∀b∈frs X.stack,b∈X.env.locals::X.fs:=fun b hb=>by
 rcases I.ok.stk with e|⟨e,hf⟩
 ·rw[e]at hb;exact bp _ hb
 ·rw[e]at hb;unfold frs at hb;rw[nq,hf]at hb;exact hb
theorem Inv.stkFree(I:Inv X zi σ H s):Frf (frs X.stack) H:=⟨fun b hb=>by
 rcases mem_cons.mp (I.stkSub b hb)with e|hb
 ·rw[e];exact I.free
 ·obtain⟨_,o,ho,_⟩:=I.ok.funs.mem hb;exact I.base.free b o ho (I.ok.frf.free b hb) fun z=>I.ok.exfs b z hb,fun q hq=>I.base.tbls _ _ (I.ok.frf.tab q hq),fun q hq=>I.base.tups _ _ (I.ok.frf.kp q hq)⟩
theorem Inv.step{g':Array GenState}{t':Nat}{d':Drawn}{ch:List Addr}(I:Inv X zi σ H s)
  (hch:∀b∈ch,(b∈X.ex\/X.s₀.heap.objs.size<=b)/\b≠X.env.locals/\(∀x c,X.env.cells.lookup x=some c->c≠b)/\∀p∈X.pn++zi,p.1≠b)
  (keep:∀b o,b≠X.env.locals->b∉X.fs->b∉ch->s.heap.get? b=some o->H b=none->h'.get? b=some o)
  (slot:∀b o,b≠X.env.locals->b∈X.fs->b∉ch->s.heap.get? b=some o->H b=none->∃sl,h'.get? b=some { o with slots:=sl }) (free:∀b o,b∉ch->s.heap.get? b=some o->H b=none->H' b=none)
  (there:∀b o,b∉ch->s.heap.get? b=some o->∃o',h'.get? b=some o')
  (tups:∀b xs,H b=some (.tup xs)->H' b=some (.tup xs)) (frzs:∀b o u,H b=some (.frz o u)->H' b=some (.frz o u)) (tbls:∀b ps,H b=some (.tbl ps)->H' b=some (.tbl ps))
  (ns:∀m,s.heap.Ns X.env.locals m->h'.Ns X.env.locals m) (hok:HOk X.prog X.w H' h') (hg:AllBare g'):
  Inv X zi σ H' { s with heap:=h',gens:=g',drawn:=d',toks:=t' }:=by
 have ae:∀b o,X.s₀.heap.get? b=some o->b≠X.env.locals:=fun b o e=>fk (fc (dw e) I.ok.above);have ac:∀b o,X.s₀.heap.get? b=some o->b∉X.ex->b∉ch:=fun b o e hx hb=>by
  rcases(hch b hb).1 with z|z
  ·exact hx z
  ·exact absurd (fc (dw e) z) (jx _)
 have aa:∀x c,X.env.cells.lookup x=some c->∀v,s.heap.IsCell c v->h'.IsCell c v:=fun x c e v ⟨o,ho,hd⟩=>by
  have ab:c∉ch:=fun z=>(hch c z).2.2.1 x c e rfl;by_cases hc:c∈X.fs
  ·obtain⟨sl,q⟩:=slot c o (I.cne x c e) hc ab ho (I.freeC x c e);exact⟨_,q,hd⟩
  ·exact⟨o,keep c o (I.cne x c e) hc ab ho (I.freeC x c e),hd⟩
 refine⟨I.ok,I.os,hg,⟨fun b o e n hb hx=>?_,fun b o e n hb hx=>?_,fun b o e n hx=>?_,fun b o e hx=>?_,fun b xs e=>tups b xs (I.base.tups b xs e),fun b o xs e=>frzs b o xs (I.base.frzs b o xs e),fun b ps e=>?_⟩,?_,fun x c e=>?_,?_,fun x c e=>?_,fun p hp=>?_,hok,I.len⟩
 ·exact keep b o (ae b o e) hb (ac b o e hx) (I.base.keep b o e n hb hx) (I.base.free b o e n hx)
 ·obtain⟨sl,e1⟩:=I.base.slot b o e n hb hx;obtain⟨af,e2⟩:=slot b _ (ae b o e) hb (ac b o e hx) e1 (I.base.free b o e n hx);exact⟨af,e2⟩
 ·obtain⟨o',e1⟩:=I.base.there b o e hx;exact free b o' (ac b o e hx) e1 (I.base.free b o e n hx)
 ·obtain⟨o',e1⟩:=I.base.there b o e hx;exact there b o' (ac b o e hx) e1
 ·exact tbls b _ (I.base.tbls b ps e)
 ·obtain⟨m,hn,hl⟩:=I.loc;refine⟨m,ns m hn,fun i x v e1 e2 e3=>?_⟩;obtain⟨u,r,l⟩:=hl i x v e1 e2 e3;refine⟨u,r,?_⟩;rcases l with l|⟨k,c,e,z⟩
  ·exact .inl l
  ·exact .inr ⟨k,c,e,aa x c e _ z⟩
 ·obtain⟨v,z⟩:=I.cell x c e;exact⟨v,aa x c e v z⟩
 ·obtain⟨m,⟨o,_,_,ho,_⟩,_⟩:=I.loc;exact free _ o (fun z=>(hch _ z).2.1 rfl) ho I.free
 ·obtain⟨v,o,ho,hd⟩:=I.cell x c e;exact free c o (fun z=>(hch c z).2.2.1 x c e rfl) ho (I.freeC x c e)
 ·obtain⟨e,n,ne,nf,d⟩:=I.pin p hp;have ab:p.1∉ch:=fun z=>(hch p.1 z).2.2.2 p hp rfl;exact⟨keep p.1 p.2 ne nf ab e n,free p.1 p.2 ab e n,ne,nf,d⟩
theorem Inv.un{t':Nat}(I:Inv X zi σ H s)(u:Un X.fs [] H H' s.heap h')(hok:HOk X.prog X.w H' h'):Inv X zi σ H' { s with heap:=h',toks:=t' }:=by
 obtain⟨m,⟨o,es,ep,ho,r⟩,_⟩:=id I.loc;obtain⟨sl,hL⟩:=u.any ho I.free yv;exact I.step (g':=s.gens) (d':=s.drawn) (ch:=[]) (fun _ z=>nomatch z) (fun b o _ hb _ e n=>u.keep b o e n hb yv) (fun b o _ hb _ e n=>u.slot b o e n hb yv) (fun b o _ e n=>u.free b o e n yv) (fun b o _ e=>u.there b o e yv) u.tups u.frzs u.tbls (fun m' hm=>by
  obtain⟨o',ab,aa,q,r'⟩:=hm;rw[ho]at q;cases q;exact⟨_,ab,aa,hL,r'⟩) hok I.bare
theorem Inv.call{g':Array GenState}{t':Nat}{d':Drawn}{ch:List Addr}(I:Inv X zi σ H s)(u:Un (frs X.stack) ch H H' s.heap h')(hok:HOk X.prog X.w H' h')(hg:AllBare g')
  (hch:∀b∈ch,(b∈X.ex\/X.s₀.heap.objs.size<=b)/\b≠X.env.locals/\(∀x c,X.env.cells.lookup x=some c->c≠b)/\∀p∈X.pn++zi,p.1≠b):
  Inv X zi σ H' { s with heap:=h',gens:=g',drawn:=d',toks:=t' }:=by
 obtain⟨m,⟨o,es,ep,ho,r⟩,_⟩:=id I.loc;obtain⟨sl,hL⟩:=u.any ho I.free fun z=>(hch _ z).2.1 rfl;exact I.step (ch:=ch) hch (fun b o hL hb hc e n=>u.keep b o e n (fun z=>(mem_cons.mp (I.stkSub b z)).elim hL hb) hc) (fun b o _ _ hc e n=>u.any e n hc) (fun b o hc e n=>u.free b o e n hc) (fun b o hc e=>u.there b o e hc) u.tups u.frzs u.tbls (fun m' hm=>by
  obtain⟨o',ab,aa,q,r'⟩:=hm;rw[ho]at q;cases q;exact⟨_,ab,aa,hL,r'⟩) hok hg
theorem Inv.turned{t':Nat}{it:Addr}(I:Inv X zi σ H s)(k:∀b o,b≠it->s.heap.get? b=some o->h'.get? b=some o)(hn:H it=none)(hL:it≠X.env.locals)
  (h1:it∈X.ex\/X.s₀.heap.objs.size<=it) (h2:∀x c,X.env.cells.lookup x=some c->c≠it) (h3:∀p∈X.pn++zi,p.1≠it):Inv X zi σ H { s with heap:=h',toks:=t' }:=by
 have aa:∀b u,H b=some u->b≠it:=fun b u e z=>by rw[z,hn]at e;cases e
 refine I.step (g':=s.gens) (d':=s.drawn) (ch:=[it]) (fun b hb=>?_) (fun b o _ _ hc e _=>k b o (fun z=>hc (by simp[z])) e) (fun b o _ _ hc e _=>⟨o.slots,k b o (fun z=>hc (by simp[z])) e⟩) (fun _ _ _ _ n=>n)
  (fun b o hc e=>⟨o,k b o (fun z=>hc (by simp[z])) e⟩) (fun _ _ e=>e) (fun _ _ _ e=>e) (fun _ _ e=>e) (fun m hm=>?_) (fun b u e=>?_) I.bare
 ·have e:b=it:=by simpa using hb
  subst e;exact⟨h1,hL,h2,h3⟩
 ·obtain⟨o,es,ep,ho,r⟩:=hm;exact⟨o,es,ep,k _ o (ic hL) ho,r⟩
 ·refine(I.hok b u e).stay (fun c v hc q=>k c v ?_ q) (fun _ q=>q) fun _ _ q=>q;rcases hc with z|z
  ·rw[z];exact aa b u e
  ·exact aa c _ z
theorem Inv.tok(I:Inv X zi σ H s)(t:Nat):Inv X zi σ H { s with toks:=t }:=I.un (h':=s.heap) (t':=t) Un.refl I.hok
theorem Inv.kept{t':Nat}(I:Inv X zi σ H s)(k:∀b u,s.heap.get? b=some u->h'.get? b=some u):Inv X zi σ H { s with heap:=h',toks:=t' }:=I.un (Un.kept k) (I.hok.kept k)
theorem Inv.laid{a:Addr}{o:HO}{t':Nat}(I:Inv X zi σ H s)(k:∀b u,s.heap.get? b=some u->h'.get? b=some u)(hp:s.heap.objs.size<=a)(q:ObjOk X.prog X.w (upd H a o) h' a o):
  Inv X zi σ (upd H a o) { s with heap:=h',toks:=t' }:=I.un (Un.laid k hp (I.hok.fresh hp)) (I.hok.laid k hp q)
theorem Inv.write{x e:Addr}{o:HO}{t':Nat}(I:Inv X zi σ H s)(mu:Mut (H x))(he:e=x\/H e=some (.own x))(k:∀b u,b≠e->s.heap.get? b=some u->h'.get? b=some u)(q:∃u,h'.get? e=some u)
  (new:ObjOk X.prog X.w (upd H x o) h' x o):Inv X zi σ (upd H x o) { s with heap:=h',toks:=t' }:=I.un (Un.write mu he k q) (I.hok.write mu he k q new)
theorem Inv.pins_of{q:List (Addr×Obj)}(I:Inv X zi σ H s)(h:∀p∈q,s.heap.get? p.1=some p.2/\H p.1=none/\p.1≠X.env.locals/\p.1∉X.fs/\∀v,p.2.data≠.cell v):Inv X q σ H s:=
 ⟨I.ok,I.os,I.bare,I.base,I.loc,I.cell,I.free,I.freeC,fun p hp=>(mem_append.mp hp).elim (fun z=>I.pin p (cu _ z)) (h p),I.hok,I.len⟩
theorem EC{N:List Str}(hN:N.Nodup){i j:Nat}{x:Str}(a:N[i]?=some x)(b:N[j]?=some x):i=j:=by
 obtain⟨h1,e1⟩:=List.getElem?_eq_some_iff.mp a;obtain⟨h2,e2⟩:=List.getElem?_eq_some_iff.mp b;exact(List.getElem_inj hN).mp (e1.trans e2.symm)
theorem Gz{M:Model}{A:ff}{E:bb->bd->Prop}{i:Nat}{x:Str}{v:V}{u:bb}{Q:Unit->bd->Prop}(I:Inv X zi σ H s)(hN:X.N.Nodup)(hi:X.N[i]?=some x)(hx:Loc X.env.scope x)(r:RelV v u)
  (h:∀s',Inv X zi (σ.set i (some v)) H s'->(∃a,ij a s.heap s'.heap/\(a=X.env.locals\/X.env.cells.lookup x=some a))->Q () s') (hf:X.fn x=true\/X.env.scope.names.lookup x=some .local:=by first|exact .inl rfl|exact .inr rfl|assumption):bn M A (storeName X.env x u) Q E s:=by
 obtain⟨m,hn,hl⟩:=id I.loc;have aj:(X.env.scope.kind==.class||(X.env.scope.kind==.module&&X.env.locals != X.env.globals))=false:=by rw[I.ok.kind];rfl
 have ag:i<σ.length:=by rw[I.len];exact(List.getElem?_eq_some_iff.mp hi).1
 have ac:=I.cne;have aa:∀{a:Addr}{h':Heap},(∃o,s.heap.get? a=some o/\H a=none)->ij a s.heap h'->HOk X.prog X.w H h':=fun {a h'} ha hs b ob e=>by
  obtain⟨_,_,ab⟩:=ha;refine(I.hok b ob e).stay (fun c w' hc q=>(hs.2 c ?_).trans q) (fun _ q=>q) fun _ _ q=>q;rintro rfl;rcases hc with rfl|hc
  ·rw[ab]at e;cases e
  ·rw[ab]at hc;cases hc
 rcases hx with hk|hk
 ·refine wpAny_storeName_local hk hn (fun h' al hs=>?_) aj;obtain⟨oL,_,_,ak,_⟩:=id hn;refine h _ ⟨I.ok,I.os,I.bare,⟨fun b o e n hb hx=>?_,fun b o e n hb hx=>?_,I.base.free,fun b o e hx=>?_,I.base.tups,I.base.frzs,I.base.tbls⟩,⟨_,al,fun j y v' e1 e2 e3=>?_⟩,fun y c e=>?_,I.free,I.freeC,fun p hp=>?_,aa ⟨oL,ak,I.free⟩ hs,by simpa using I.len⟩ ⟨_,hs,.inl rfl⟩
  ·exact(hs.2 b (fk (fc (dw e) I.ok.above))).trans (I.base.keep b o e n hb hx)
  ·obtain⟨sl,e1⟩:=I.base.slot b o e n hb hx;exact⟨sl,(hs.2 b (fk (fc (dw e) I.ok.above))).trans e1⟩
  ·obtain⟨o',e1⟩:=I.base.there b o e hx;exact⟨o',(hs.2 b (fk (fc (dw e) I.ok.above))).trans e1⟩
  ·by_cases hj:j=i
   ·subst hj;rw[hi]at e1;cases e1;rw[kt ag]at e2;cases e2;exact⟨u,r,.inl ⟨hk,yv⟩⟩
   ·rw[lu (ic hj)]at e2;obtain⟨u',r',q⟩:=hl j y v' e1 e2 e3;refine⟨u',r',?_⟩;rcases q with ⟨k,e⟩|⟨k,c,e,z⟩
    ·refine .inl ⟨k,?_⟩;have:y≠x:=fun e=>hj (EC hN e1 (e▸hi));simp[this,e]
    ·exact .inr ⟨k,c,e,z.sameBut hs (ac y c e)⟩
  ·obtain⟨w',z⟩:=I.cell y c e;exact⟨w',z.sameBut hs (ac y c e)⟩
  ·obtain⟨e,n,ne,nf,d⟩:=I.pin p hp;exact⟨(hs.2 p.1 ne).trans e,n,ne,nf,d⟩
 ·have ae:X.fn x=true:=by
   rcases hf with z|z
   ·exact z
   ·rw[z]at hk;cases hk
  obtain⟨c,hc⟩:=I.ok.has x (.inl hk);obtain⟨w',z⟩:=I.cell x c hc;refine wpAny_storeName_cell I.ok.kind hk hc z (fun h' ah hs=>?_);obtain⟨oc,ai,af⟩:=id z;refine h { s with heap:=h' } ⟨I.ok,I.os,I.bare,⟨fun b o e n hb hx=>?_,fun b o e n hb hx=>?_,I.base.free,fun b o e hx=>?_,I.base.tups,I.base.frzs,I.base.tbls⟩,⟨m,hn.sameBut hs (ic (ac x c hc)),fun j y v' e1 e2 e3=>?_⟩,fun y c' e=>?_,I.free,I.freeC,fun p hp=>?_,aa ⟨oc,ai,I.freeC x c hc⟩ hs,by simpa using I.len⟩ ⟨c,hs,.inr hc⟩
  ·exact(hs.2 b (fk (fc (dw e) (I.ok.cab x c ae hc)))).trans (I.base.keep b o e n hb hx)
  ·obtain⟨sl,e1⟩:=I.base.slot b o e n hb hx;exact⟨sl,(hs.2 b (fk (fc (dw e) (I.ok.cab x c ae hc)))).trans e1⟩
  ·obtain⟨o',e1⟩:=I.base.there b o e hx;exact⟨o',(hs.2 b (fk (fc (dw e) (I.ok.cab x c ae hc)))).trans e1⟩
  ·by_cases hj:j=i
   ·subst hj;rw[hi]at e1;cases e1;rw[kt ag]at e2;cases e2;exact⟨u,r,.inr ⟨.inl hk,c,hc,ah⟩⟩
   ·rw[lu (ic hj)]at e2;obtain⟨u',r',q⟩:=hl j y v' e1 e2 e3;refine⟨u',r',?_⟩;rcases q with q|⟨k,c',e,z'⟩
    ·exact .inl q
    ·refine .inr ⟨k,c',e,z'.sameBut hs ?_⟩;rintro rfl;exact hj (EC hN e1 (I.ok.inj _ _ _ e hc▸hi))
  ·by_cases hcc:c'=c
   ·subst hcc;exact⟨_,ah⟩
   ·obtain⟨w2,z2⟩:=I.cell y c' e;exact⟨w2,z2.sameBut hs hcc⟩
  ·obtain⟨e,n,ne,nf,d⟩:=I.pin p hp;refine⟨(hs.2 p.1 ?_).trans e,n,ne,nf,d⟩;intro q;rw[q,ai]at e;have q':oc=p.2:=gb e;exact d w' (by rw[<- q'];exact af)
theorem vN{M:Model}{A:ff}{E:bb->bd->Prop}{i:Nat}{x:Str}{v:V}{u:bb}{Q:Unit->bd->Prop}(I:Inv X zi σ H s)(hN:X.N.Nodup)(hi:X.N[i]?=some x)(hx:Loc X.env.scope x)(r:RelV v u)
  (h:∀s',Inv X zi (σ.set i (some v)) H s'->Q () s') (hf:X.fn x=true\/X.env.scope.names.lookup x=some .local:=by first|exact .inl rfl|exact .inr rfl|assumption):bn M A (storeName X.env x u) Q E s:=
 Gz I hN hi hx r (fun s' I' _=>h s' I') hf
theorem Inv.call'{s':bd}{ch:List Addr}(I:Inv X zi σ H s)(ho:s'.os=s.os)(u:Un (frs X.stack) ch H H' s.heap s'.heap)(hok:HOk X.prog X.w H' s'.heap)(hg:AllBare s'.gens)
  (hch:∀b∈ch,(b∈X.ex\/X.s₀.heap.objs.size<=b)/\b≠X.env.locals/\(∀x c,X.env.cells.lookup x=some c->c≠b)/\∀p∈X.pn++zi,p.1≠b):Inv X zi σ H' s':=by
 obtain⟨h',g',d',t',o'⟩:=s';have e:o'=s.os:=ho;subst e;exact I.call (g':=g') (t':=t') (d':=d') u hok hg hch
end
abbrev XK:=bb->Option Addr->Hp->Prop
abbrev St:=List (Option V)
abbrev VK:=V->Hp->Prop
abbrev TE:=St->Hp->VK->Prop
abbrev TT:=St->Hp->(Bool->Hp->Prop)->Prop
abbrev TA:=St->Hp->(List V->Hp->Prop)->Prop
structure Ends where
 nx:St->Hp->Prop
 rt:VK
 bk:St->Hp->Prop:=fun _ _=>False
 ct:St->Hp->Prop:=fun _ _=>False
abbrev TS:=Ends->St->Hp->Prop
def EP(X:Cx)(zi:List (Addr×Obj))(σ:St)(Q:VK)(u:bb)(s':bd):Prop:=∃v H',Inv X zi σ H' s'/\RelV v u/\Q v H'
def TP(X:Cx)(zi:List (Addr×Obj))(σ:St)(Q:Bool->Hp->Prop)(b:Bool)(s':bd):Prop:=∃H',Inv X zi σ H' s'/\Q b H'
def AP(X:Cx)(zi:List (Addr×Obj))(σ:St)(Q:List V->Hp->Prop)(us:List bb)(s':bd):Prop:=∃vs H',Inv X zi σ H' s'/\Vals vs us/\Q vs H'
def SP(X:Cx)(zi:List (Addr×Obj))(D:Ends)(f:Flow)(s':bd):Prop:=
 match f with
 | .next=>∃ σ' H',Inv X zi σ' H' s'/\D.nx σ' H'
 | .brk=>∃ σ' H',Inv X zi σ' H' s'/\D.bk σ' H'
 | .cont=>∃ σ' H',Inv X zi σ' H' s'/\D.ct σ' H'
 | .ret u=>∃v σ' H',Inv X zi σ' H' s'/\RelV v u/\D.rt v H'
def PE(X:Cx)(e:Expr)(t:TE):Prop:=
 ∀(zi:List (Addr×Obj)) (s:bd) (σ:St) (H:Hp) (Q:VK),Inv X zi σ H s->t σ H Q->bn (model X.prog X.w) X.A (eval e X.env) (EP X zi σ Q) X.xe s
def PT(X:Cx)(e:Expr)(t:TT):Prop:=
 ∀(zi:List (Addr×Obj)) (s:bd) (σ:St) (H:Hp) (Q:Bool->Hp->Prop),Inv X zi σ H s->t σ H Q->bn (model X.prog X.w) X.A (isTrue e X.env (eval e X.env)) (TP X zi σ Q) X.xe s
def PW(X:Cx)(e:Expr)(t:TT):Prop:=
 ∀(whole:Sem bb) (zi:List (Addr×Obj)) (s:bd) (σ:St) (H:Hp) (Q:Bool->Hp->Prop),Inv X zi σ H s->t σ H Q->bn (model X.prog X.w) X.A (isTrue e X.env whole) (TP X zi σ Q) X.xe s
theorem PW.pt{X:Cx}{e:Expr}{t:TT}(h:PW X e t):PT X e t:=h _
def PA(X:Cx)(es:List Expr)(t:TA):Prop:=
 ∀(pos:Pos) (zi:List (Addr×Obj)) (s:bd) (σ:St) (H:Hp) (Q:List V->Hp->Prop),Inv X zi σ H s->t σ H Q->bn (model X.prog X.w) X.A (spliced (kx pos (cr es X.env))) (AP X zi σ Q) X.xe s
def PS(X:Cx)(st:Stmt)(t:TS):Prop:=
 ∀(zi:List (Addr×Obj)) (s:bd) (σ:St) (H:Hp) (D:Ends),Inv X zi σ H s->t D σ H->bn (model X.prog X.w) X.A (exec st X.env) (SP X zi D) X.xe s
def PSs(X:Cx)(st:List Stmt)(t:TS):Prop:=
 ∀(zi:List (Addr×Obj)) (s:bd) (σ:St) (H:Hp) (D:Ends),Inv X zi σ H s->t D σ H->bn (model X.prog X.w) X.A (execs st X.env) (SP X zi D) X.xe s
theorem thn{α:Type}{t:Sem α}{Q Q':α->bd->Prop}{M:Model}{A:ff}{E:bb->bd->Prop}{s:bd}(h:bn M A t Q E s)(hQ:∀a s,Q a s->Q' a s):bn M A t Q' E s:=og h hQ fun _ _ x=>x
end
section
section
variable {X:Cx}
def bZ(i:Nat):TE:=fun σ H Q=>∃v,σ[i]?=some (some v)/\Q v H
def tC(v:V):TE:=fun _ H Q=>Q v H
theorem HL{i:Nat}{x:Str}{pos:Pos}(hN:X.N[i]?=some x)(hv:Vis X.env.scope x)(hd:(x==("__debug__":Str))=false:=by decide)(q:(x==("__classdict__":Str))=false:=by decide):PE X (.Name x pos) (bZ i):=by
 intro zi s σ H Q I h;obtain⟨v,e,h⟩:=h;obtain⟨m,hn,hl⟩:=I.loc;obtain⟨u,r,l⟩:=hl i x v hN e hv;have fin:EP X zi σ Q u s:=⟨v,H,I,r,h⟩;rcases l with ⟨hk,hm⟩|⟨hk,c,hc,hcell⟩
 ·exact wpAny_Name (wpAny_loadName_local I.ok.kind hk hn hm fin) hd
 ·rcases hk with hk|hk
  ·exact wpAny_Name (wpAny_loadName_cell I.ok.kind hk hc hcell fin) hd
  ·exact wpAny_Name (wpAny_loadName_free I.ok.kind hk hc hcell fin q) hd
theorem zd{i j pos}:PE X (.Constant (.int i) j pos) (tC (.int i)):=fun _ _ _ H _ I h=>wpAny_Constant_int ⟨.int i,H,I.tok _,⟨_,rfl⟩,h⟩
theorem cJ{b j pos}:PE X (.Constant (.bool b) j pos) (tC (.bl b)):=fun _ _ _ H _ I h=>Constant_bool ⟨.bl b,H,I,rfl,h⟩
theorem b7{x j pos}:PE X (.Constant (.str x) j pos) (tC (.str x)):=fun _ _ _ H _ I h=>Calls.Constant_str ⟨.str x,H,I.tok _,⟨_,rfl⟩,h⟩
def Gl(X:Cx)(x:Str):Prop:=X.env.kindOf x=some .globalImplicit
theorem xR{E:bb->bd->Prop}{zi:List (Addr×Obj)}{s:bd}{σ:St}{H:Hp}{x:Str}{u:bb}{pos:Pos}{Q:bb->bd->Prop}(I:Inv X zi σ H s)(hg:Gl X x)(hm:X.mg x=some u)(h:Q u s)
  (hd:(x==("__debug__":Str))=false:=by decide):bn (model X.prog X.w) X.A (eval (.Name x pos) X.env) Q E s:=
 Calls.Name_function_global I.ok.kind hg (Calls.loadGlobal_global (by rw[I.ok.glob];exact I.mod.glob.keeps I.bk) hm h) hd
theorem e9{E:bb->bd->Prop}{zi:List (Addr×Obj)}{s:bd}{σ:St}{H:Hp}{x:Str}{u:bb}{pos:Pos}{Q:bb->bd->Prop}(I:Inv X zi σ H s)(hg:Gl X x)(hm:X.mg x=none)(hv:gn x=some u)(h:Q u s)
  (hn:x ≠ "__name__":=by decide) (hd:(x==("__debug__":Str))=false:=by decide):bn (model X.prog X.w) X.A (eval (.Name x pos) X.env) Q E s:=by
 obtain⟨mb,h1,h2⟩:=I.mod.blt;exact Calls.Name_function_global I.ok.kind hg (Calls.loadGlobal_builtin (by rw[I.ok.glob];exact I.mod.glob.keeps I.bk) hm (by rw[I.ok.blt];exact h1.keeps I.bk) ((h2 x hn).trans hv) h) hd
theorem tG{x:Str}{v:V}{u:bb}{pos:Pos}(hg:Gl X x)(hm:X.mg x=some u)(r:RelV v u)(hd:(x==("__debug__":Str))=false:=by decide):PE X (.Name x pos) (tC v):=
 fun _ _ _ H _ I h=>xR I hg hm ⟨v,H,I,r,h⟩ hd
theorem fW{x:Str}{v:V}{u:bb}{pos:Pos}(hg:Gl X x)(hm:X.mg x=none)(hv:gn x=some u)(r:RelV v u)(hn:x ≠ "__name__":=by decide)(hd:(x==("__debug__":Str))=false:=by decide):PE X (.Name x pos) (tC v):=
 fun _ _ _ H _ I h=>e9 I hg hm hv ⟨v,H,I,r,h⟩ hn hd
variable {a b:Expr}{ta tb:TE}{pos:Pos}
variable {tA tB':TT}{rest:List Expr}
def Bc(t u:TT):TT:=fun σ H Q=>t σ H fun c H1=>if c=true then u σ H1 Q else Q false H1
def tOr(t u:TT):TT:=fun σ H Q=>t σ H fun c H1=>if c=true then Q true H1 else u σ H1 Q
def Bw(t:TT):TT:=fun σ H Q=>t σ H fun c H1=>Q (!c) H1
theorem y0(ha:PT X a tA):PW X (.BoolOp .And [a] pos) tA:=by
 intro wh zi s σ H Q I h;refine isTrue_and (thn (ha zi s σ H Q I h) fun c s1 e=>?_);cases c with
 |true=>exact isTrue_and_nil e
 |false=>exact e
theorem jR(ha:PT X a tA):PW X (.BoolOp .Or [a] pos) tA:=by
 intro wh zi s σ H Q I h;refine isTrue_or (thn (ha zi s σ H Q I h) fun c s1 e=>?_);cases c with
 |false=>exact isTrue_or_nil e
 |true=>exact e
theorem wL(ha:PT X a tA)(hb:PW X (.BoolOp .And (b::rest) pos) tB'):PW X (.BoolOp .And (a::b::rest) pos) (Bc tA tB'):=by
 intro wh zi s σ H Q I h;refine isTrue_and (thn (ha zi s σ H _ I h) fun c s1 ⟨H1,I1,q1⟩=>?_);cases c with
 |true=>exact hb wh zi s1 σ H1 Q I1 q1
 |false=>exact⟨H1,I1,q1⟩
theorem eZ(ha:PT X a tA)(hb:PW X (.BoolOp .Or (b::rest) pos) tB'):PW X (.BoolOp .Or (a::b::rest) pos) (tOr tA tB'):=by
 intro wh zi s σ H Q I h;refine isTrue_or (thn (ha zi s σ H _ I h) fun c s1 ⟨H1,I1,q1⟩=>?_);cases c with
 |true=>exact⟨H1,I1,q1⟩
 |false=>exact hb wh zi s1 σ H1 Q I1 q1
theorem eJ(ha:PT X a tA):PT X (.UnaryOp .Not a pos) (Bw tA):=by
 intro zi s σ H Q I h;exact isTrue_not (ha zi s σ H (fun c H1=>Q (!c) H1) I h)
def BM(ta tb:TE):TE:=fun σ H Q=>ta σ H fun x H1=>∃c,x=.bl c/\if c=true then tb σ H1 Q else Q (.bl false) H1
def BP(ta:TE):TE:=fun σ H Q=>ta σ H fun x H1=>∃c,x=.bl c/\Q (.bl (!c)) H1
theorem wN{op}{t:TE}(h:PE X a t):PE X (.BoolOp op [a] pos) t:=fun zi s σ H Q I hw=>BoolOp_one (h zi s σ H Q I hw)
theorem wC(ha:PE X a ta)(hb:PE X (.BoolOp .And (b::rest) pos) tb):PE X (.BoolOp .And (a::b::rest) pos) (BM ta tb):=by
 intro zi s σ H Q I h;refine BoolOp_and (thn (ha zi s σ H _ I h) fun v s1 ⟨x,H1,I1,r1,q1⟩=>?_);obtain⟨c,rfl,q1⟩:=q1;cases r1;refine gy ?_;cases c with
 |true=>exact hb zi s1 σ H1 Q I1 q1
 |false=>exact⟨.bl false,H1,I1,rfl,q1⟩
theorem EF(ha:PE X a ta):PE X (.UnaryOp .Not a pos) (BP ta):=by
 intro zi s σ H Q I h;refine UnaryOp_ (thn (ha zi s σ H _ I h) fun v s1 ⟨x,H1,I1,r1,q1⟩=>?_);obtain⟨c,rfl,q1⟩:=q1;cases r1;exact not_of (gy ⟨.bl (!c),H1,I1,rfl,q1⟩)
def tIf(t:TT)(ta tb:TE):TE:=fun σ H Q=>t σ H fun c H1=>if c=true then ta σ H1 Q else tb σ H1 Q
theorem Hd{c:Expr}(hc:PT X c tA)(ha:PE X a ta)(hb:PE X b tb):PE X (.IfExp c a b pos) (tIf tA ta tb):=by
 intro zi s σ H Q I h;refine wpAny_IfExp (thn (hc zi s σ H _ I h) fun d s1 ⟨H1,I1,q1⟩=>?_);cases d with
 |true=>exact ha zi s1 σ H1 Q I1 q1
 |false=>exact hb zi s1 σ H1 Q I1 q1
end
end
section
def SqL(K:bx)(H:Hp)(a:Addr)(xs:List V):Prop:=
 Rd H a (.lst xs) \/
  ∃(o:Obj) (its:Array bb) (n:Nat),K.lookup a=some o/\o.cls=.type "list"/\o.dict=none/\o.data=.seq its n/\its.size<=df/\Vals xs its.toList
def SqT(K:bx)(H:Hp)(a:Addr)(xs:List V):Prop:=
 Rd H a (.tup xs) \/
  ∃(o:Obj) (its:Array bb) (n:Nat),K.lookup a=some o/\o.cls=.type "tuple"/\o.data=.seq its n/\its.size<=df/\Vals xs its.toList
def Kl:bb->Option V
 | .none=>some .non
 | .bool b=>some (.bl b)
 | .int i _=>some (.int i)
 | .str x _=>some (.str x)
 | .bytes b _=>some (.byt b)
 | .float b _=>some (.flt b)
 | .ref a=>some (.ref a)
 | .type n=>some (.ty n)
 |_=>none
theorem RelV.abs{x:V}{u:bb}(r:RelV x u):Kl u=some x:=by
 cases x with
 |non=>cases r;rfl
 |bl _=>cases r;rfl
 |int _=>obtain⟨t,rfl⟩:=r;rfl
 |str _=>obtain⟨t,rfl⟩:=r;rfl
 |byt _=>obtain⟨t,rfl⟩:=r;rfl
 |flt _=>obtain⟨t,rfl⟩:=r;rfl
 |ref _=>cases r;rfl
 |ty _=>cases r;rfl
theorem RelV.inj{x y:V}{u:bb}(r:RelV x u)(q:RelV y u):x=y:=gb (r.abs.symm.trans q.abs)
theorem Vals.inj:∀{xs ys:List V}{us:List bb},Vals xs us->Vals ys us->xs=ys
 |_,_,_,.nil,.nil=>rfl
 |_,_,_,.cons r t,.cons r' t'=>by rw[r.inj r',Vals.inj t t']
section
variable {X:Cx}{zi:List (Addr×Obj)}{σ:St}{H:Hp}{s:bd}{a:Addr}{xs ys:List V}
theorem SqL.of{K:bx}(h:H a=some (.lst xs)):SqL K H a xs:=.inl (.inl h)
theorem SqT.of{K:bx}(h:H a=some (.tup xs)):SqT K H a xs:=.inl (.inl h)
theorem Inv.list(I:Inv X zi σ H s)(h:SqL X.K H a xs):∃q:List bb,Vals xs q/\PlainL s.heap a q.toArray/\xs.length<=df:=by
 rcases h with h|⟨o,q,n,hk,hc,hd,hs,hz,r⟩
 ·obtain⟨z,q,n,r,e⟩:=h.ok I.hok;exact⟨q,r,⟨_,n,e,rfl,rfl,rfl⟩,z⟩
 ·refine⟨q.toList,r,⟨o,n,I.kIn a o hk,hc,hd,by simpa using hs⟩,?_⟩;have e:=r.length;simp only[fg]at e;omega
theorem Inv.tuple(I:Inv X zi σ H s)(h:SqT X.K H a xs):∃q:List bb,Vals xs q/\IsTup s.heap a q.toArray/\xs.length<=df:=by
 rcases h with h|⟨o,q,n,hk,hc,hs,hz,r⟩
 ·obtain⟨z,q,r,p⟩:=h.ok I.hok;exact⟨q,r,p,z.1⟩
 ·refine⟨q.toList,r,⟨o,I.kIn a o hk,hc,n,by simpa using hs⟩,?_⟩;have e:=r.length;simp only[fg]at e;omega
theorem Inv.list_inj(I:Inv X zi σ H s)(h:SqL X.K H a xs)(h':SqL X.K H a ys):xs=ys:=by
 obtain⟨q,r,⟨o,n,e,_,_,d⟩,_⟩:=I.list h;obtain⟨its',r',⟨o',n',e',_,_,d'⟩,_⟩:=I.list h';rw[e]at e';cases e';rw[d]at d';injection d' with d1 _
 have:q=its':=by simpa using congrArg Array.toList d1
 subst this;exact r.inj r'
theorem Inv.tuple_inj(I:Inv X zi σ H s)(h:SqT X.K H a xs)(h':SqT X.K H a ys):xs=ys:=by
 obtain⟨q,r,⟨o,e,_,n,d⟩,_⟩:=I.tuple h;obtain⟨its',r',⟨o',e',_,n',d'⟩,_⟩:=I.tuple h';rw[e]at e';cases e';rw[d]at d';injection d' with d1 _
 have:q=its':=by simpa using congrArg Array.toList d1
 subst this;exact r.inj r'
end
abbrev Cx.wish (X:Cx) (E:bb->bd->Prop):Cx:={ X with xe:=E }
abbrev Cx.nox (X:Cx):Cx:=X.wish fun _ _=>False
theorem Cx.Ok.wish{X:Cx}(ok:X.Ok)(E:bb->bd->Prop):(X.wish E).Ok:=
 ⟨ok.mod,ok.kind,ok.glob,ok.blt,ok.above,ok.inj,ok.has,ok.cab,ok.hd,ok.frames,ok.stk,ok.exf,ok.bs,ok.bsz,ok.noex,ok.exfs,ok.funs,ok.frf⟩
theorem Cx.Ok.unwish{X:Cx}{E:bb->bd->Prop}(ok:(X.wish E).Ok):X.Ok:=
 ⟨ok.mod,ok.kind,ok.glob,ok.blt,ok.above,ok.inj,ok.has,ok.cab,ok.hd,ok.frames,ok.stk,ok.exf,ok.bs,ok.bsz,ok.noex,ok.exfs,ok.funs,ok.frf⟩
section
variable {X:Cx}{zi:List (Addr×Obj)}{σ:St}{H:Hp}{s:bd}{E:bb->bd->Prop}
theorem Inv.wish(I:Inv X zi σ H s)(E:bb->bd->Prop):Inv (X.wish E) zi σ H s:=⟨I.ok.wish E,I.os,I.bare,I.base,I.loc,I.cell,I.free,I.freeC,I.pin,I.hok,I.len⟩
theorem Inv.unwish(I:Inv (X.wish E) zi σ H s):Inv X zi σ H s:=⟨I.ok.unwish,I.os,I.bare,I.base,I.loc,I.cell,I.free,I.freeC,I.pin,I.hok,I.len⟩
theorem SP.unwish{D:Ends}{f:Flow}{s':bd}(h:SP (X.wish E) zi D f s'):SP X zi D f s':=by
 cases f with
 |next=>obtain⟨σ',H',I,q⟩:=h;exact⟨σ',H',I.unwish,q⟩
 |brk=>obtain⟨σ',H',I,q⟩:=h;exact⟨σ',H',I.unwish,q⟩
 |cont=>obtain⟨σ',H',I,q⟩:=h;exact⟨σ',H',I.unwish,q⟩
 |ret u=>obtain⟨v,σ',H',I,r,q⟩:=h;exact⟨v,σ',H',I.unwish,r,q⟩
theorem PSs.nox{st:List Stmt}{t:TS}(h:PSs X.nox st t):PSs X st t:=fun zi s σ H D I hw=>
 og (h zi s σ H D (I.wish _) hw) (fun _ _ q=>q.unwish) fun _ _ z=>ky z
end
section
variable {X:Cx}{st:Stmt}{rest:List Stmt}{t u:TS}{e:Expr}{te:TE}{pos:Pos}
def v9:TS:=fun D σ H=>D.nx σ H
def cF(t u:TS):TS:=fun D σ H=>t { D with nx:=u D } σ H
theorem zQ:PSs X [] v9:=fun _ _ σ H _ I h=>wpAny_execs_nil ⟨σ,H,I,h⟩
theorem zf(h1:PS X st t)(h2:PSs X rest u):PSs X (st::rest) (cF t u):=by
 intro zi s σ H D I h;refine wpAny_execs_cons (thn (h1 zi s σ H { D with nx:=u D } I h) fun f s1 q=>?_);cases f with
 |next=>
  obtain⟨σ',H',I',q⟩:=q;exact h2 zi s1 σ' H' D I' q
 |ret v=>exact q
 |brk=>exact q
 |cont=>exact q
theorem zm(h1:PS X st t):PSs X [st] t:=by
 intro zi s σ H D I h;refine wpAny_execs_cons (thn (h1 zi s σ H D I h) fun f s1 q=>?_);cases f with
 |next=>exact wpAny_execs_nil q
 |ret v=>exact q
 |brk=>exact q
 |cont=>exact q
theorem Inv.quiet{zi:List (Addr×Obj)}{σ:St}{H:Hp}{s:bd}(I:Inv X zi σ H s):interactive X.env=false:=by simp[interactive,I.ok.kind]
def yU(te:TE):TS:=fun D σ H=>te σ H fun _ H1=>D.nx σ H1
theorem eA(he:PE X e te)(hs:swapsWith e none pos.line X.env=pure false:=by rfl):PS X (.Expr e pos) (yU te):=by
 intro zi s σ H D I h;exact wpAny_Expr_any (thn (he zi s σ H _ I h) fun v s1 ⟨x,H1,I1,r1,q1⟩=>⟨σ,H1,I1,q1⟩) I.quiet hs
def oU(te:TE):TS:=fun D σ H=>te σ H D.rt
theorem zA(he:PE X e te):PS X (.Return (some e) pos) (oU te):=by
 intro zi s σ H D I h;exact wpAny_Return_some (thn (he zi s σ H _ I h) fun v s1 ⟨x,H1,I1,r1,q1⟩=>⟨x,σ,H1,I1,r1,q1⟩)
def uM(c:TT)(t u:TS):TS:=fun D σ H=>c σ H fun b H1=>if b=true then t D σ H1 else u D σ H1
theorem aP{c:Expr}{a b:List Stmt}{tc:TT}(hc:PT X c tc)(ha:PSs X a t)(hb:PSs X b u):PS X (.If c a b pos) (uM tc t u):=by
 intro zi s σ H D I h;refine wpAny_If (thn (hc zi s σ H _ I h) fun d s1 ⟨H1,I1,q1⟩=>?_);cases d with
 |true=>exact ha zi s1 σ H1 D I1 q1
 |false=>exact hb zi s1 σ H1 D I1 q1
def FA:TS:=fun _ _ _=>False
theorem Gw:PS X st FA:=fun _ _ _ _ _ _ h=>h.elim
end
abbrev TG:=V->St->Hp->(St->Hp->Prop)->Prop
abbrev TGs:=List V->St->Hp->(St->Hp->Prop)->Prop
def PG(X:Cx)(q:Expr)(t:TG):Prop:=
 ∀(zi:List (Addr×Obj)) (s:bd) (σ:St) (H:Hp) (v:V) (u:bb) (Q:St->Hp->Prop),Inv X zi σ H s->RelV v u->t v σ H Q ->
  bn (model X.prog X.w) X.A (assign q X.env u) (fun _ s'=>∃ σ' H',Inv X zi σ' H' s'/\Q σ' H') X.xe s
def PGs(X:Cx)(ts:List Expr)(t:TGs):Prop:=
 ∀(zi:List (Addr×Obj)) (s:bd) (σ:St) (H:Hp) (vs:List V) (us:List bb) (Q:St->Hp->Prop),Inv X zi σ H s->Vals vs us->t vs σ H Q ->
  bn (model X.prog X.w) X.A (assignInOrder ((assignEach ts X.env).map (·.2)) us) (fun _ s'=>∃ σ' H',Inv X zi σ' H' s'/\Q σ' H') X.xe s
abbrev TSet:=V->V->V->Hp->(Hp->Prop)->Prop
def PSet(X:Cx)(t:TSet):Prop:=
 ∀(zi:List (Addr×Obj)) (s:bd) (σ:St) (H:Hp) (o i v:V) (ov iv u:bb) (Q:Hp->Prop),Inv X zi σ H s->RelV o ov->RelV i iv->RelV v u->t o i v H Q ->
  bn (model X.prog X.w) X.A (setItem ov iv u) (fun _ s'=>∃H',Inv X zi σ H' s'/\Q H') X.xe s
section
variable {X:Cx}{pos:Pos}
def kC(i:Nat):TG:=fun v σ H Q=>Q (σ.set i (some v)) H
theorem zw{i:Nat}{x:Str}(hN:X.N.Nodup)(hi:X.N[i]?=some x)(hx:Loc X.env.scope x)(hf:X.fn x=true\/X.env.scope.names.lookup x=some .local:=by first|exact .inl rfl|exact .inr rfl|assumption):PG X (.Name x pos) (kC i):=by
 intro zi s σ H v u Q I r h;exact wpAny_assign_Name (vN I hN hi hx r (fun s' I'=>⟨_,H,I',h⟩) hf)
def EL:TGs:=fun vs σ H Q=>vs=[]/\Q σ H
def Bf(t:TG)(u:TGs):TGs:=fun vs σ H Q=>∃v r,vs=v::r/\t v σ H fun σ' H'=>u r σ' H' Q
theorem jD:PGs X [] EL:=by
 intro zi s σ H vs us Q I r h;obtain⟨e,h⟩:=h;subst e;cases r;exact assignInOrder_nil ⟨σ,H,I,h⟩
theorem cU{e:Expr}{es:List Expr}{t:TG}{u:TGs}(h1:PG X e t)(h2:PGs X es u)
  (hs:(assignEach (e::es) X.env).map (·.2)=assign e X.env::(assignEach es X.env).map (·.2):=by rfl):PGs X (e::es) (Bf t u):=by
 intro zi s σ H vs us Q I r h;obtain⟨v,vr,e1,h⟩:=h;subst e1;cases r with
 |cons r rr=>
  rw[hs];refine assignInOrder_cons (thn (h1 zi s σ H _ _ _ I r h) fun _ s1 ⟨σ1,H1,I1,q1⟩=>?_);exact h2 zi s1 σ1 H1 _ _ Q I1 rr q1
def BT(K:bx)(n:Nat)(t:TGs):TG:=fun v σ H Q=>∃a xs,v=.ref a/\SqT K H a xs/\xs.length=n/\t xs σ H Q
theorem jT{es:List Expr}{k:Nat}{t:TGs}{n:Nat}(hc:X.calm=true)(h:PGs X es t)
  (hn:(assignEach es X.env).length=n:=by rfl) (hst:(assignEach es X.env).findIdx? (·.1)=none:=by rfl):PG X (.Tuple es k pos) (BT X.K n t):=by
 intro zi s σ H v u Q I r hw;obtain⟨a,xs,e1,hq,hl,hw⟩:=hw;subst e1;cases r;obtain⟨q,rv,ht,hz⟩:=I.tuple hq;refine assign_Tuple_tuple (I.ok.hd hc) ht (by simp[hn,<- hl,rv.length]) hst fun h' hx=>?_;have I1:Inv X zi σ H { s with heap:=h' }:=I.kept (t':=s.toks) fun b o e=>hx b o (fk (dw e)) e;exact h zi _ σ H xs _ Q I1 (by simpa using rv) hw
def BD(to ti:TE)(t:TSet):TG:=fun v σ H Q=>to σ H fun o H1=>ti σ H1 fun i H2=>t o i v H2 fun H3=>Q σ H3
theorem B3{o i:Expr}{to ti:TE}{t:TSet}(ho:PE X o to)(hi:PE X i ti)(hs:PSet X t)
  (ha:∀v,assign (.Subscript o i pos) X.env v=(do
   let ov <- holding [v] (eval o X.env)
   let iv <- holding [v,ov] (eval i X.env)
   standAt pos
   holding [v,ov,iv] (setItem ov iv v)
   release [v,ov,iv] []):=by intro _;rfl):PG X (.Subscript o i pos) (BD to ti t):=by
 intro zi s σ H v u Q I r h;rw[ha];refine ba (gu (thn (ho zi s σ H _ I h) fun ov s1 ⟨x,H1,I1,r1,q1⟩=>?_));refine ba (gu (thn (hi zi s1 σ H1 _ I1 q1) fun iv s2 ⟨y,H2,I2,r2,q2⟩=>?_));refine ba (wpAny_standAt (ba (gu (thn (hs zi s2 σ H2 x y v ov iv u _ I2 r1 r2 r q2) fun _ s3 ⟨H3,I3,q3⟩=>?_))));exact wpAny_release ⟨σ,H3,I3,q3⟩
def m8(te:TE)(g:TG):TS:=fun D σ H=>te σ H fun x H1=>g x σ H1 D.nx
theorem nA{tg e:Expr}{te:TE}{g:TG}(he:PE X e te)(hg:PG X tg g)(hs:swapsWithSole [tg] e pos.line X.env=pure false:=by rfl)(hw:swappedStores [tg] e X.env=pure none:=by rfl)
  (h1:(assignEach [tg] X.env).map (·.2)=[assign tg X.env]:=by rfl):PS X (.Assign [tg] e pos) (m8 te g):=by
 intro zi s σ H D I h;refine wpAny_Assign_stores (thn (he zi s σ H _ I h) fun v s1 ⟨x,H1,I1,r1,q1⟩=>?_) hs hw;rw[h1];exact thn (hg zi s1 σ H1 x v _ I1 r1 q1) fun _ s2 q=>q
theorem zy{i:Nat}{x:Str}{e:Expr}{te:TE}{pos':Pos}(hN:X.N.Nodup)(hi:X.N[i]?=some x)(hx:Loc X.env.scope x)(he:PE X e te)(hs:swapsWith e (some (.Name x pos')) pos.line X.env=pure false:=by rfl)(hf:X.fn x=true\/X.env.scope.names.lookup x=some .local:=by first|exact .inl rfl|exact .inr rfl|assumption):
  PS X (.Assign [.Name x pos'] e pos) (m8 te (kC i)):=by
 intro zi s σ H D I h;refine wpAny_Assign_Name (thn (he zi s σ H _ I h) fun v s1 ⟨y,H1,I1,r1,q1⟩=>?_) hs;exact vN I1 hN hi hx r1 (fun s2 I2=>⟨_,H1,I2,q1⟩) hf
end
section
variable {X:Cx}{pos:Pos}
def B0(c:TT)(tb:TS):TS:=fun D σ H=>∃W:Nat->St->Hp->Prop,(∃m,W m σ H)/\∀m σ H,W m σ H ->
 c σ H fun b H1=>if b=true then ∃N:St->Hp->Prop,(∀ σ' H',N σ' H'->∃m',m'<m/\W m' σ' H')/\tb { D with nx:=N,ct:=N,bk:=D.nx } σ H1 else D.nx σ H1
theorem tK{c:Expr}{body:List Stmt}{tc:TT}{tb:TS}(hp:PassesOwn (model X.prog X.w) X.A X.env X.xe)(hc:PT X c tc)(hb:PSs X body tb):PS X (.While c body [] pos) (B0 tc tb):=by
 intro zi s σ H D I h;obtain⟨W,⟨m0,w0⟩,q⟩:=h;refine wpAny_While (codeAny_whileLoop (fun n s'=>∃ σ' H',Inv X zi σ' H' s'/\W n σ' H') ?_ m0 ⟨σ,H,I,w0⟩);rintro n s1 ⟨σ1,H1,I1,w1⟩;refine ly hp (thn (hc zi s1 σ1 H1 _ I1 (q n σ1 H1 w1)) fun b s2 ⟨H2,I2,q2⟩=>?_);cases b with
 |true=>
  obtain⟨N,hN,q2⟩:=q2;rw[cq rfl];refine ly hp (thn (hb zi s2 σ1 H2 _ I2 q2) fun f s3 q3=>?_);cases f with
  |next=>
   obtain⟨σ3,H3,I3,n3⟩:=q3;obtain⟨m',hm,w3⟩:=hN σ3 H3 n3;exact⟨m',hm,σ3,H3,I3,w3⟩
  |cont=>
   obtain⟨σ3,H3,I3,n3⟩:=q3;obtain⟨m',hm,w3⟩:=hN σ3 H3 n3;exact⟨m',hm,σ3,H3,I3,w3⟩
  |brk=>exact q3
  |ret v=>exact q3
 |false=>
  rw[ck gw];exact wpAny_execs_nil ⟨σ1,H2,I2,q2⟩
end
structure It where
 go:Nat->Hp->Prop
 yld:Nat->Hp->V->Hp->Prop
 stop:Nat->Hp->Prop
def FpOk(X:Cx)(zi:List (Addr×Obj))(H:Hp)(b:Addr):Prop:=
 H b=none/\b≠X.env.locals/\b∉X.fs/\(b∈X.ex\/X.s₀.heap.objs.size<=b)/\(∀x c,X.env.cells.lookup x=some c->c≠b)/\∀p∈X.pn++zi,p.1≠b
theorem Inv.fpOk{X:Cx}{zi:List (Addr×Obj)}{σ:St}{H H':Hp}{s:bd}{b:Addr}(I:Inv X zi σ H s)(hb:s.heap.objs.size<=b)(hn:H' b=none):FpOk X zi H' b:=by
 refine⟨hn,ne_of_gt (fc I.lt hb),I.nofs hb,.inr (fv I.sz hb),fun x c e z=>?_,fun p hp z=>?_⟩
 ·obtain⟨v,q⟩:=I.cell x c e;exact absurd (fc q.lt (by rw[z];exact hb)) (jx _)
 ·exact absurd (fc (dw (I.pin p hp).1) (by rw[z];exact hb)) (jx _)
structure Turn(P:cy)(w:fq)(K:bx)(tg:Expr)(J:It)(fp:List Addr)(it:Addr)(tn:Nat->Heap->Prop):Prop where
 mem:it∈fp
 obj:∀i h,tn i h->∀b∈fp,∃o,h.get? b=some o/\∀v,o.data≠.cell v
 keep:∀i h h',tn i h->(∀b∈fp,∀o,h.get? b=some o->h'.get? b=some o)->tn i h'
 item:∀(X:Cx),X.prog=P->X.w=w->X.K=K->X.calm=true->∀(i:Nat) (zi:List (Addr×Obj)) (s:bd) (σ:St) (H:Hp) (E:bb->bd->Prop),Inv X zi σ H s->(∀b∈fp,FpOk X zi H b)->tn i s.heap->J.go i H ->
  bn (model P w) X.A (ls (.ref it)) (fun r s1=>∃u,r=some u /\
   bn (model P w) X.A (letOwnedTupleGo tg (.ref it) u) (fun _ s2=>∃x H',Inv X zi σ H' s2/\RelV x u/\J.yld i H x H'/\tn (i+1) s2.heap/\∀b∈fp,H' b=none) E s1) E s
 done:∀(X:Cx),X.prog=P->X.w=w->X.K=K->X.calm=true->∀(i:Nat) (zi:List (Addr×Obj)) (s:bd) (σ:St) (H:Hp) (E:bb->bd->Prop),Inv X zi σ H s->(∀b∈fp,FpOk X zi H b)->tn i s.heap->J.stop i H ->
  bn (model P w) X.A (ls (.ref it)) (fun r s1=>r=none/\Inv X zi σ H s1) E s
 self:∀(A:ff) (i:Nat) (s:bd) (Q:bb->bd->Prop) (E:bb->bd->Prop),tn i s.heap->Q (.ref it) s->bn (model P w) A (pyIter (.ref it)) Q E s
abbrev TI:=St->Hp->(It->Hp->Prop)->Prop
def PIE(X:Cx)(zi:List (Addr×Obj))(σ:St)(tg:Expr)(R:It->Hp->Prop)(q:bb)(s2:bd):Prop:=
 ∃(it:Addr) (fp:List Addr) (tn:Nat->Heap->Prop) (J:It) (H':Hp),q=.ref it/\Inv X zi σ H' s2/\Turn X.prog X.w X.K tg J fp it tn/\tn 0 s2.heap/\(∀b∈fp,FpOk X zi H' b)/\R J H'
def PI(X:Cx)(tg iter:Expr)(wi:TI):Prop:=
 ∀(zi:List (Addr×Obj)) (s:bd) (σ:St) (H:Hp) (R:It->Hp->Prop),Inv X zi σ H s->wi σ H R ->
  bn (model X.prog X.w) X.A (eval iter X.env) (fun v s1=>bn (model X.prog X.w) X.A (pyIter v) (PIE X zi σ tg R) X.xe s1) X.xe s
theorem rK{M:Model}{A:ff}{E:bb->bd->Prop}{s:bd}{tg:Expr}{it:Addr}{u:bb}{o:Obj}{n:String}{vs:Array bb}{Q:Unit->bd->Prop}(ho:s.heap.get? it=some o)(hc:o.cls=.type n)(hd:o.data=.fields vs)
    (hn:["enumerate","zip","dict_itemiterator","dict_reverseitemiterator","odict_iterator","itertools.zip_longest","itertools.pairwise"].contains n=false) (hQ:Q () s):bn M A (letOwnedTupleGo tg (.ref it) u) Q E s:=by
  unfold letOwnedTupleGo;cases tg<;>first
    |exact be hQ
    | (cases u<;>first
        |exact be hQ
        | (refine ba (wpAny_load ho ?_)
           rw[hc,hd];show bn M A (if (["enumerate","zip","dict_itemiterator","dict_reverseitemiterator","odict_iterator","itertools.zip_longest","itertools.pairwise"].contains n&&vs[0]?==some (jy _))=true then _ else _) Q E s;rw[ck (by intro h;rw[hn,Bool.false_and]at h;cases h)];exact be hQ))
def Itl(K:bx)(a:Addr):It:=
 ⟨fun i H=>∃xs x,SqL K H a xs/\xs[i]?=some x,fun i H x H'=>H'=H/\∀xs,SqL K H a xs->xs[i]?=some x,fun i H=>∃xs,SqL K H a xs/\xs.length<=i⟩
def Itt(K:bx)(a:Addr):It:=
 ⟨fun i H=>∃xs x,SqT K H a xs/\xs[i]?=some x,fun i H x H'=>H'=H/\∀xs,SqT K H a xs->xs[i]?=some x,fun i H=>∃xs,SqT K H a xs/\xs.length<=i⟩
def Itr(lo:Int)(n:Nat):It:=⟨fun i _=>i<n,fun i H x H'=>H'=H/\x=.int (lo+i),fun i _=>n<=i⟩
theorem C9{P:cy}{w:fq}{K:bx}{tg:Expr}(a it:Addr):Turn P w K tg (Itl K a) [it] it (fun i h=>h.IsListIter it a i) where
 mem:=by simp
 obj:=fun i h st b hb=>by
  have e:b=it:=by simpa using hb
  subst e;obtain⟨o,e,c,d⟩:=st;exact⟨o,e,fun v z=>by rw[d]at z;cases z⟩
 keep:=fun i h h' st k=>st.at fun o e=>k it yv o e
 item:=by
  intro X hP hw hK hc i zi s σ H E I hf st hg;subst hP hw hK;obtain⟨xs,x,hq,hx⟩:=hg;obtain⟨aa,rv,p,hz⟩:=I.list hq;obtain⟨u,hu,ru⟩:=rv.get hx;obtain⟨f0,f1,f2,f3,f4,f5⟩:=hf it yv;refine wpAny_pyNext_list_item st p.isList (x:=u) (by simpa using hu) fun h' q sb=>?_;have I1:Inv X zi σ H { s with heap:=h' }:=I.turned (t':=s.toks) (fun b o hb e=>(sb.2 b hb).trans e) f0 f1 f3 f4 f5;obtain⟨o,e,c,d⟩:=id q;exact⟨u,rfl,rK (s:={ s with heap:=h' }) e c d dz ⟨x,H,I1,ru,⟨rfl,fun ys hy=>by rw[I.list_inj hy hq];exact hx⟩,q,fun b hb=>(hf b hb).1⟩⟩
 done:=by
  intro X hP hw hK hc i zi s σ H E I hf st hg;subst hP hw hK;obtain⟨xs,hq,hx⟩:=hg;obtain⟨aa,rv,p,hz⟩:=I.list hq;obtain⟨f0,f1,f2,f3,f4,f5⟩:=hf it yv;have hl:=rv.length;exact wpAny_pyNext_list_end (I.ok.hd hc) st p.isList (by simp;omega) fun h' eb=>⟨rfl,I.turned (t':=s.toks) (fun b o hb e=>eb b o hb e) f0 f1 f3 f4 f5⟩
 self:=fun _ _ _ _ _ st h=>wpAny_pyIter_listiter st h
theorem LC{P:cy}{w:fq}{K:bx}{tg:Expr}(a it:Addr):Turn P w K tg (Itt K a) [it] it (fun i h=>h.IsTupleIter it a i) where
 mem:=by simp
 obj:=fun i h st b hb=>by
  have e:b=it:=by simpa using hb
  subst e;obtain⟨o,e,c,d⟩:=st;exact⟨o,e,fun v z=>by rw[d]at z;cases z⟩
 keep:=fun i h h' st k=>st.at fun o e=>k it yv o e
 item:=by
  intro X hP hw hK hc i zi s σ H E I hf st hg;subst hP hw hK;obtain⟨xs,x,hq,hx⟩:=hg;obtain⟨q,rv,p,hz⟩:=I.tuple hq;obtain⟨u,hu,ru⟩:=rv.get hx;obtain⟨f0,f1,f2,f3,f4,f5⟩:=hf it yv;refine wpAny_pyNext_tuple_item st (show s.heap.IsTuple a q.toArray from p) (x:=u) (by simpa using hu) fun h' aa sb=>?_;have I1:Inv X zi σ H { s with heap:=h' }:=I.turned (t':=s.toks) (fun b o hb e=>(sb.2 b hb).trans e) f0 f1 f3 f4 f5;obtain⟨o,e,c,d⟩:=id aa;exact⟨u,rfl,rK (s:={ s with heap:=h' }) e c d dz ⟨x,H,I1,ru,⟨rfl,fun ys hy=>by rw[I.tuple_inj hy hq];exact hx⟩,aa,fun b hb=>(hf b hb).1⟩⟩
 done:=by
  intro X hP hw hK hc i zi s σ H E I hf st hg;subst hP hw hK;obtain⟨xs,hq,hx⟩:=hg;obtain⟨q,rv,p,hz⟩:=I.tuple hq;obtain⟨f0,f1,f2,f3,f4,f5⟩:=hf it yv;have hl:=rv.length;exact wpAny_pyNext_tuple_end (I.ok.hd hc) st (show s.heap.IsTuple a q.toArray from p) (by simp;omega) fun h' eb=>⟨rfl,I.turned (t':=s.toks) (fun b o hb e=>eb b o hb e) f0 f1 f3 f4 f5⟩
 self:=fun _ _ _ _ _ st h=>wpAny_pyIter_tupleiter st h
theorem Ls{P:cy}{w:fq}{K:bx}{tg:Expr}(it:Addr)(lo:Int)(n:Nat):Turn P w K tg (Itr lo n) [it] it (fun i h=>IsRangeIter h it (lo+(i:Nat)*1) ((n:Int)-(i:Nat)) 1) where
 mem:=by simp
 obj:=fun i h st b hb=>by
  have e:b=it:=by simpa using hb
  subst e;exact⟨_,st,fun v z=>by
   have z':Data.fields _=Data.cell v:=z;cases z'⟩
 keep:=fun i h h' st k=>k it yv _ st
 item:=by
  intro X hP hw hK hc i zi s σ H E I hf st hg;subst hP hw hK;obtain⟨f0,f1,f2,f3,f4,f5⟩:=hf it yv;have W:=Walks.range (prog:=X.prog) (w:=X.w) (I.ok.hd hc) it lo 1 n;refine W.item i s _ _ hg st fun v h' tk hv q kk=>?_;obtain⟨t,rfl⟩:=hv;have I1:Inv X zi σ H { s with heap:=h',toks:=tk }:=I.turned (fun b o hb e=>kk b o (by simpa using hb) e) f0 f1 f3 f4 f5;refine⟨_,rfl,rK (s:={ s with heap:=h',toks:=tk }) (n:="range_iterator") q rfl rfl dz ⟨.int (lo+i),H,I1,⟨t,?_⟩,⟨rfl,rfl⟩,q,fun b hb=>(hf b hb).1⟩⟩;rw[Int.mul_one]
 done:=by
  intro X hP hw hK hc i zi s σ H E I hf st hg;subst hP hw hK;obtain⟨f0,f1,f2,f3,f4,f5⟩:=hf it yv;exact wpAny_pyNext_range_end (I.ok.hd hc) st (by have:n<=i:=hg;omega) fun h' eb=>⟨rfl,I.turned (t':=s.toks) (fun b o hb e=>eb b o hb e) f0 f1 f3 f4 f5⟩
 self:=fun _ _ _ _ _ st h=>wpAny_pyIter_rangeiter st h
end
section
section
variable {X:Cx}{tg:Expr}
def AE(K:bx)(tl:TE):TI:=fun σ H R=>tl σ H fun x H1=>∃a,x=.ref a/\(∃xs,SqL K H1 a xs)/\R (Itl K a) H1
theorem K1{l:Expr}{tl:TE}(hl:PE X l tl):PI X tg l (AE X.K tl):=by
 intro zi s σ H R I h;refine thn (hl zi s σ H _ I h) fun v s1 ⟨x,H1,I1,r1,q1⟩=>?_;obtain⟨a,e,⟨xs,hq⟩,q⟩:=q1;subst e;cases r1;obtain⟨z,rv,p,hz⟩:=I1.list hq;refine mn p.isList ?_;refine⟨s1.heap.objs.size,[s1.heap.objs.size],_,_,H1,rfl,I1.kept (t':=s1.toks) fun b o e=>bf _ e,C9 a _,⟨_,cj _ rfl,rfl,rfl⟩,fun b hb=>?_,q⟩;have e:b=s1.heap.objs.size:=by simpa using hb
 subst e;exact I1.fpOk (cz _) (I1.hok.fresh (cz _))
def pR(wi:TI)(g:TG)(tb:TS):TS:=fun D σ H=>wi σ H fun J H1=>∃W:Nat->Nat->St->Hp->Prop,(∃m,W 0 m σ H1)/\∀i m σ H,W i m σ H ->
 (J.stop i H/\D.nx σ H)\/(J.go i H/\∃N:St->Hp->Prop,(∀ σ' H',N σ' H'->∃m',m'<m/\W (i+1) m' σ' H')/\∀x H',J.yld i H x H'->g x σ H' fun σ2 H2=>tb { D with nx:=N,ct:=N,bk:=D.nx } σ2 H2)
def m7(fp:List Addr)(h:Heap):List (Addr×Obj):=fp.filterMap fun b=>(h.get? b).map fun o=>(b,o)
theorem tD{fp:List Addr}{h:Heap}{b:Addr}{o:Obj}(hb:b∈fp)(e:h.get? b=some o):(b,o)∈m7 fp h:=List.mem_filterMap.mpr ⟨b,hb,by rw[e];rfl⟩
theorem LY{fp:List Addr}{h:Heap}{p:Addr×Obj}(hp:p∈m7 fp h):p.1∈fp/\h.get? p.1=some p.2:=by
 obtain⟨b,hb,e⟩:=List.mem_filterMap.mp hp;cases q:h.get? b with
 |none=>rw[q]at e;cases e
 |some o=>
  rw[q]at e;have e':(b,o)=p:=gb e;subst e';exact⟨hb,q⟩
theorem Inv.pinned{zi:List (Addr×Obj)}{σ:St}{H:Hp}{s:bd}{fp:List Addr}(I:Inv X zi σ H s)(hf:∀b∈fp,FpOk X zi H b)(ho:∀b∈fp,∃o,s.heap.get? b=some o/\∀v,o.data≠.cell v):Inv X (zi++m7 fp s.heap) σ H s:=
 I.pins_of fun p hp=>(mem_append.mp hp).elim (fun z=>I.pin p (cp _ z)) fun z=>by
  obtain⟨hb,e⟩:=LY z;obtain⟨f0,f1,f2,_⟩:=hf p.1 hb;obtain⟨o,e',d⟩:=ho p.1 hb;rw[e]at e';cases e';exact⟨e,f0,f1,f2,d⟩
theorem Inv.unpinned{zi pl:List (Addr×Obj)}{σ:St}{H:Hp}{s:bd}(I:Inv X (zi++pl) σ H s):Inv X zi σ H s:=I.pins_of fun p hp=>I.pin p (cp _ (cu _ hp))
theorem eM{iter:Expr}{body:List Stmt}{wi:TI}{g:TG}{tb:TS}{pos:Pos}(hp:PassesOwn (model X.prog X.w) X.A X.env X.xe)(hc:X.calm=true)(hi:PI X tg iter wi)(hg:PG X tg g)(hb:PSs X body tb)
  (hs:∀x,foldedSetIterable iter X.env x=pure x:=by intro _;rfl):PS X (.For tg iter body [] pos) (pR wi g tb):=by
 intro zi s σ H D I h;refine wpAny_For (thn (hi zi s σ H _ I h) fun v s1 h1=>thn h1 fun ah s2 h2=>?_) hs;obtain⟨it,fp,tn,J,H2,e,I2,T,ag,f2,W,⟨m0,w0⟩,ac⟩:=h2;subst e
 have q:∀{H':Hp},(∀b∈fp,H' b=none)->∀b∈fp,FpOk X zi H' b:=fun hn b hb=>⟨hn b hb,(f2 b hb).2⟩;refine codeAny_forLoop_any (fun n s'=>∃i σ' H',Inv X zi σ' H' s'/\tn i s'.heap/\(∀b∈fp,H' b=none)/\W i n σ' H') ?_ m0 ⟨0,σ,H2,I2,ag,fun b hb=>(f2 b hb).1,w0⟩;rintro n s3 ⟨i,σ3,H3,I3,ae,ab,w3⟩;rcases ac i n σ3 H3 w3 with ⟨stop,qn⟩|⟨go,N,hN,step⟩
 ·refine ly hp (thn (T.done X rfl rfl rfl hc i zi s3 σ3 H3 X.xe I3 (q ab) ae stop) fun r s4 ⟨hr,I4⟩=>?_);subst hr;exact wpAny_execs_nil ⟨σ3,H3,I4,qn⟩
 ·refine ly hp (thn (T.item X rfl rfl rfl hc i zi s3 σ3 H3 X.xe I3 (q ab) ae go) fun r s4 ⟨u,hr,h4⟩=>?_);subst hr;refine ly hp (thn h4 fun _ s5 ⟨x,H5,I5,r5,y5,aa,af⟩=>?_);have I5':=I5.pinned (q af) (T.obj _ _ aa);refine ly hp (thn (hg _ s5 σ3 H5 x u _ I5' r5 (step x H5 y5)) fun _ s6 ⟨σ6,H6,I6,q6⟩=>?_);refine ly hp (thn (hb _ s6 σ6 H6 _ I6 q6) fun f s7 q7=>?_);have z:∀{σ7:St}{H7:Hp},Inv X (zi++m7 fp s5.heap) σ7 H7 s7->N σ7 H7->∃m,m<n/\∃i σ' H',Inv X zi σ' H' s7/\tn i s7.heap/\(∀b∈fp,H' b=none)/\W i m σ' H':=fun {σ7 H7} I7 n7=>by
   obtain⟨m',hm,w7⟩:=hN σ7 H7 n7;refine⟨m',hm,i+1,σ7,H7,I7.unpinned,T.keep _ _ _ aa fun b hb o e=>(I7.pin (b,o) (cp _ (cp _ (tD hb e)))).1,fun b hb=>?_,w7⟩;obtain⟨o,e,d⟩:=T.obj _ _ aa b hb;exact(I7.pin (b,o) (cp _ (cp _ (tD hb e)))).2.1
  cases f with
  |next=>obtain⟨σ7,H7,I7,n7⟩:=q7;exact z I7 n7
  |cont=>obtain⟨σ7,H7,I7,n7⟩:=q7;exact z I7 n7
  |brk=>obtain⟨σ7,H7,I7,q7⟩:=q7;exact⟨σ7,H7,I7.unpinned,q7⟩
  |ret v=>obtain⟨x7,σ7,H7,I7,r7,q7⟩:=q7;exact⟨x7,σ7,H7,I7.unpinned,r7,q7⟩
end
theorem L0{K:bx}{a:Addr}{xs:List V}{g:TG}{tb:TS}{D:Ends}{σ:St}{H:Hp}(Pv:Nat->St->Hp->Prop)(h0:Pv 0 σ H)(hl:∀i σ H,i<=xs.length->Pv i σ H->SqL K H a xs)
  (hs:∀i x σ H,xs[i]?=some x->Pv i σ H->g x σ H fun σ2 H2=>tb { D with nx:=Pv (i+1),ct:=Pv (i+1),bk:=D.nx } σ2 H2) (hd:∀ σ H,Pv xs.length σ H->D.nx σ H):
  ∃W:Nat->Nat->St->Hp->Prop,(∃m,W 0 m σ H)/\∀i m σ H,W i m σ H ->
   ((Itl K a).stop i H/\D.nx σ H)\/((Itl K a).go i H/\∃N:St->Hp->Prop,(∀ σ' H',N σ' H'->∃m',m'<m/\W (i+1) m' σ' H')/\∀x H',(Itl K a).yld i H x H'->g x σ H' fun σ2 H2=>tb { D with nx:=N,ct:=N,bk:=D.nx } σ2 H2):=by
 refine⟨fun i m σ H=>m=xs.length-i/\i<=xs.length/\Pv i σ H,⟨xs.length,yv,ji _,h0⟩,?_⟩;rintro i m σ H ⟨rfl,hi,p⟩;have q:=hl i σ H hi p;by_cases hlt:i<xs.length
 ·refine .inr ⟨⟨xs,xs[i],q,by simp[hlt]⟩,Pv (i+1),fun σ' H' p'=>⟨xs.length-(i+1),yw,rfl,hlt,p'⟩,fun x H' y=>?_⟩;obtain⟨e,y⟩:=y;subst e;exact hs i x σ _ (y xs q) p
 ·have e:i=xs.length:=yw
  subst e;exact .inl ⟨⟨xs,q,cz _⟩,hd σ H p⟩
end
section
abbrev R2:=V->V->Hp->VK->Prop
def OpR(X:Cx)(f:bb->bb->Sem bb)(r:R2):Prop:=
 ∀(zi:List (Addr×Obj)) (s:bd) (σ:St) (H:Hp) (x y:V) (v u:bb) (Q:VK),Inv X zi σ H s->RelV x v->RelV y u->r x y H Q ->
  bn (model X.prog X.w) X.A (f v u) (EP X zi σ Q) X.xe s
def UnR(X:Cx)(f:bb->Sem bb)(r:V->Hp->VK->Prop):Prop:=
 ∀(zi:List (Addr×Obj)) (s:bd) (σ:St) (H:Hp) (x:V) (v:bb) (Q:VK),Inv X zi σ H s->RelV x v->r x H Q ->
  bn (model X.prog X.w) X.A (f v) (EP X zi σ Q) X.xe s
def CallR(X:Cx)(f:bb)(r:List V->Hp->VK->Prop):Prop:=
 ∀(zi:List (Addr×Obj)) (s:bd) (σ:St) (H:Hp) (xs:List V) (us:List bb) (Q:VK),Inv X zi σ H s->Vals xs us->r xs H Q ->
  bn (model X.prog X.w) X.A (call f us) (EP X zi σ Q) X.xe s
def TruR(X:Cx)(r:V->Hp->(Bool->Hp->Prop)->Prop):Prop:=
 ∀(zi:List (Addr×Obj)) (s:bd) (σ:St) (H:Hp) (x:V) (v:bb) (Q:Bool->Hp->Prop),Inv X zi σ H s->RelV x v->r x H Q ->
  bn (model X.prog X.w) X.A (truthy v) (TP X zi σ Q) X.xe s
def tOp(r:R2)(ta tb:TE):TE:=fun σ H Q=>ta σ H fun x H1=>tb σ H1 fun y H2=>r x y H2 Q
def tUn(r:V->Hp->VK->Prop)(ta:TE):TE:=fun σ H Q=>ta σ H fun x H1=>r x H1 Q
def rI(C:Int->Int->Prop)(g:Int->Int->V):R2:=fun x y H Q=>∃i j,x=.int i/\y=.int j/\C i j/\Q (g i j) H
def rI0(g:Int->Int->V):R2:=fun x y H Q=>∃i j,x=.int i/\y=.int j/\Q (g i j) H
def rU(g:Int->V):V->Hp->VK->Prop:=fun x H Q=>∃i,x=.int i/\Q (g i) H
section
variable {X:Cx}{a b c:Expr}{ta tb tc:TE}{pos:Pos}
theorem wH(ha:PE X a ta)(hb:PE X b tb){zi:List (Addr×Obj)}{s:bd}{σ:St}{H:Hp}{R:V->V->Hp->Prop}(I:Inv X zi σ H s)
  (h:ta σ H fun x H1=>tb σ H1 fun y H2=>R x y H2) {Q:bb->bd->Prop}{f:bb->bb->Sem bb}
  (hf:∀v u s2 x y H2,Inv X zi σ H2 s2->RelV x v->RelV y u->R x y H2->bn (model X.prog X.w) X.A (f v u) Q X.xe s2):
  bn (model X.prog X.w) X.A (eval a X.env) (fun v s₁=>bn (model X.prog X.w) X.A (eval b X.env) (fun u s₂=>bn (model X.prog X.w) X.A (f v u) Q X.xe s₂) X.xe s₁) X.xe s:=by
 refine thn (ha zi s σ H _ I h) fun v s1 ⟨x,H1,I1,r1,q1⟩=>?_;refine thn (hb zi s1 σ H1 _ I1 q1) fun u s2 ⟨y,H2,I2,r2,q2⟩=>?_;exact hf v u s2 x y H2 I2 r1 r2 q2
theorem zD{op:Operator}{r:R2}(ho:OpR X (km op) r)(ha:PE X a ta)(hb:PE X b tb):PE X (.BinOp a op b pos) (tOp r ta tb):=by
 intro zi s σ H Q I h;exact wpAny_BinOp (wH ha hb I h fun v u s2 x y H2 I2 rx ry q=>ho zi s2 σ H2 x y v u Q I2 rx ry q)
theorem u6{op:UnaryOp}{r:V->Hp->VK->Prop}(ho:UnR X (unaryOp op) r)(ha:PE X a ta):PE X (.UnaryOp op a pos) (tUn r ta):=by
 intro zi s σ H Q I h;exact UnaryOp_ (thn (ha zi s σ H _ I h) fun v s1 ⟨x,H1,I1,r1,q1⟩=>ho zi s1 σ H1 x v Q I1 r1 q1)
theorem opI{f:bb->bb->Sem bb}{C:Int->Int->Prop}{g:Int->Int->Int}
  (rule:∀(i j:Int) (t u:Tok) (s:bd) (Q:bb->bd->Prop) (E:bb->bd->Prop),C i j->Q (.int (g i j) s.toks) { s with toks:=s.toks+1 }->bn (model X.prog X.w) X.A (f (.int i t) (.int j u)) Q E s):
  OpR X f (rI C fun i j=>.int (g i j)):=by
 intro zi s σ H x y v u Q I rx ry h;obtain⟨i,j,rfl,rfl,hc,q⟩:=h;obtain⟨t,rfl⟩:=rx;obtain⟨t',rfl⟩:=ry;exact rule i j t t' s _ _ hc ⟨.int (g i j),H,I.tok _,⟨_,rfl⟩,q⟩
theorem CJ{f:bb->bb->Sem bb}{g:Int->Int->Int}
  (rule:∀(i j:Int) (t u:Tok) (s:bd) (Q:bb->bd->Prop) (E:bb->bd->Prop),Q (.int (g i j) s.toks) { s with toks:=s.toks+1 }->bn (model X.prog X.w) X.A (f (.int i t) (.int j u)) Q E s):
  OpR X f (rI0 fun i j=>.int (g i j)):=by
 intro zi s σ H x y v u Q I rx ry h;obtain⟨i,j,rfl,rfl,q⟩:=h;obtain⟨t,rfl⟩:=rx;obtain⟨t',rfl⟩:=ry;exact rule i j t t' s _ _ ⟨.int (g i j),H,I.tok _,⟨_,rfl⟩,q⟩
theorem tV{f:bb->bb->Sem bb}{g:Int->Int->Bool}
  (rule:∀(i j:Int) (t u:Tok) (s:bd) (Q:bb->bd->Prop) (E:bb->bd->Prop),Q (.bool (g i j)) s->bn (model X.prog X.w) X.A (f (.int i t) (.int j u)) Q E s):
  OpR X f (rI0 fun i j=>.bl (g i j)):=by
 intro zi s σ H x y v u Q I rx ry h;obtain⟨i,j,rfl,rfl,q⟩:=h;obtain⟨t,rfl⟩:=rx;obtain⟨t',rfl⟩:=ry;exact rule i j t t' s _ _ ⟨.bl (g i j),H,I,rfl,q⟩
def CDivN(i j:Int):Prop:=j≠0/\j.natAbs<1073741824
def CPow(i j:Int):Prop:=0<=j/\j<=1000000/\i.natAbs<2 ^ 64
theorem Ke:OpR X (km .Add) (rI0 fun i j=>.int (i+j)):=CJ fun _ _ _ _ _ _ _ q=>add_int q
theorem d8:OpR X (km .Sub) (rI0 fun i j=>.int (i-j)):=CJ fun _ _ _ _ _ _ _ q=>sub_int q
theorem Fn:OpR X (km .FloorDiv) (rI CDivN fun i j=>.int (i.fdiv j)):=opI fun _ _ _ _ _ _ _ hc q=>floordiv_int hc.1 q (.inl (PyProof.noPylong_small hc.2))
theorem hX:OpR X (km .Mod) (rI (fun _ j=>0<j) fun i j=>.int (i % j)):=opI fun i j _ _ _ _ _ hc q=>by
 have h1:(0:Int)<j:=hc;exact mod_int' yw (by rw[Int.fmod_eq_emod_of_nonneg i yw];exact q)
theorem uP:OpR X (km .Pow) (rI CPow fun i j=>.int (i ^ j.toNat)):=opI fun _ _ _ _ _ _ _ hc q=>pow_int_small hc.1 hc.2.1 hc.2.2 q
theorem unI{f:bb->Sem bb}{g:Int->Int}
  (rule:∀(i:Int) (t:Tok) (s:bd) (Q:bb->bd->Prop) (E:bb->bd->Prop),Q (.int (g i) s.toks) { s with toks:=s.toks+1 }->bn (model X.prog X.w) X.A (f (.int i t)) Q E s):
  UnR X f (rU fun i=>.int (g i)):=by
 intro zi s σ H x v Q I rx h;obtain⟨i,rfl,q⟩:=h;obtain⟨t,rfl⟩:=rx;exact rule i t s _ _ ⟨.int (g i),H,I.tok _,⟨_,rfl⟩,q⟩
theorem rH:UnR X (unaryOp .USub) (rU fun i=>.int (-i)):=unI fun _ _ _ _ _ q=>neg_int q
end
section
variable {X:Cx}{a b c:Expr}{ta tb tc:TE}{pos:Pos}
theorem wR{zi:List (Addr×Obj)}{σ:St}{H:Hp}{s:bd}{Q:VK}{k k':Bool}(I:Inv X zi σ H s)(q:Q (.bl k) H)(e:k=k'):EP X zi σ Q (.bool k') s:=by
 subst e;exact⟨.bl k,H,I,rfl,q⟩
theorem kX:OpR X (gd .Lt) (rI0 fun i j=>.bl (decide (i<j))):=tV fun _ _ _ _ _ _ _ q=>lt_int q
theorem jN:OpR X (gd .LtE) (rI0 fun i j=>.bl (decide (i<=j))):=tV fun _ _ _ _ _ _ _ q=>le_int q
theorem Gg:OpR X (gd .Gt) (rI0 fun i j=>.bl (decide (j<i))):=tV fun _ _ _ _ _ _ _ q=>gt_int q
theorem HU:OpR X (gd .GtE) (rI0 fun i j=>.bl (decide (j<=i))):=tV fun _ _ _ _ _ _ _ q=>ge_int q
theorem Ff:OpR X (gd .In) (fun x y H Q=>∃i j,x=.str i/\y=.str j/\Q (.bl (!(jp j i 0 j.length 1).isEmpty)) H):=by
 intro zi s σ H x y v u Q I rx ry h;obtain⟨i,j,rfl,rfl,q⟩:=h;obtain⟨t,rfl⟩:=rx;obtain⟨t',rfl⟩:=ry;exact in_str (wR I q rfl)
theorem IN:OpR X (gd .NotIn) (fun x y H Q=>∃i j,x=.str i/\y=.str j/\Q (.bl (!(!(jp j i 0 j.length 1).isEmpty))) H):=by
 intro zi s σ H x y v u Q I rx ry h;obtain⟨i,j,rfl,rfl,q⟩:=h;obtain⟨t,rfl⟩:=rx;obtain⟨t',rfl⟩:=ry;exact notIn_str (wR I q rfl)
theorem OpR.or{f:bb->bb->Sem bb}{r r':R2}(h:OpR X f r)(h':OpR X f r'):OpR X f (fun x y H Q=>r x y H Q\/r' x y H Q):=by
 intro zi s σ H x y v u Q I rx ry q;rcases q with q|q
 ·exact h zi s σ H x y v u Q I rx ry q
 ·exact h' zi s σ H x y v u Q I rx ry q
theorem nomark(b:Expr){op:CmpOp}(h:op≠.In:=by decide)(h2:op≠.NotIn:=by decide):behindInMarks op b=false:=by
 have e1:(op==CmpOp.In)=false:=by cases op<;>first|rfl|exact absurd rfl h
 have e2:(op==CmpOp.NotIn)=false:=by cases op<;>first|rfl|exact absurd rfl h2
 cases b<;>simp[behindInMarks,e1,e2]
theorem i5{op:CmpOp}{r:R2}(ho:OpR X (gd op) r)(ha:PE X a ta)(hb:PE X b tb)(hm:behindInMarks op b=false):PE X (.Compare a [op] [b] pos) (tOp r ta tb):=by
 intro zi s σ H Q I h;exact wpAny_Compare1 (wH ha hb I h fun v u s2 x y H2 I2 rx ry q=>ho zi s2 σ H2 x y v u Q I2 rx ry q) hm
def j9(t:TE):TT:=fun σ H Q=>t σ H fun x H'=>∃k,x=.bl k/\Q k H'
theorem zJ{op:CmpOp}{r:R2}(ho:OpR X (gd op) r)(ha:PE X a ta)(hb:PE X b tb)(hm:behindInMarks op b=false):PT X (.Compare a [op] [b] pos) (j9 (tOp r ta tb)):=by
 intro zi s σ H Q I h;refine wpAny_isTrue_Compare1 (thn (ha zi s σ H _ I h) fun v s1 ⟨x,H1,I1,r1,q1⟩=>thn (hb zi s1 σ H1 _ I1 q1) fun u s2 ⟨y,H2,I2,r2,q2⟩=>
  thn (ho zi s2 σ H2 x y v u _ I2 r1 r2 q2) fun c s3 ⟨z,H3,I3,r3,k,e,q3⟩=>?_) hm
 subst e;cases r3;exact gy ⟨H3,I3,q3⟩
def yV(r r':R2)(ta tb tc:TE):TE:=fun σ H Q=>ta σ H fun x H1=>tb σ H1 fun y H2=>r x y H2 fun z H3=>∃k,z=.bl k /\
 (if k=true then tc σ H3 fun w' H4=>r' y w' H4 Q else Q (.bl false) H3)
theorem A5{op q:CmpOp}{r r':R2}(ho:OpR X (gd op) r)(aa:OpR X (gd q) r')(ha:PE X a ta)(hb:PE X b tb)(hc:PE X c tc)
  (hm:lastMarks [op,q] [b,c]=false:=by with_unfolding_all rfl):PE X (.Compare a [op,q] [b,c] pos) (yV r r' ta tb tc):=by
 intro zi s σ H Q I h;refine Compare_chain (thn (ha zi s σ H _ I h) fun v s1 ⟨x,H1,I1,r1,q1⟩=>chain_link (thn (hb zi s1 σ H1 _ I1 q1) fun u s2 ⟨y,H2,I2,r2,q2⟩=>
  thn (ho zi s2 σ H2 x y v u _ I2 r1 r2 q2) fun d s3 ⟨z,H3,I3,r3,k,e,q3⟩=>?_)) hm
 subst e;cases r3;refine gy ?_;cases k with
 |false=>exact ite_ff ⟨.bl false,H3,I3,rfl,q3⟩
 |true=>exact ite_tt (chain_last (thn (hc zi s3 σ H3 _ I3 q3) fun w' s4 ⟨z',H4,I4,r4,q4⟩=>aa zi s4 σ H4 y z' u w' Q I4 r2 r4 q4))
theorem A8{op q:CmpOp}{r r':R2}(ho:OpR X (gd op) r)(aa:OpR X (gd q) r')(ha:PE X a ta)(hb:PE X b tb)(hc:PE X c tc)
  (hm:lastMarks [op,q] [b,c]=false:=by with_unfolding_all rfl):PT X (.Compare a [op,q] [b,c] pos) (j9 (yV r r' ta tb tc)):=by
 intro zi s σ H Q I h;refine isTrue_chain (thn (ha zi s σ H _ I h) fun v s1 ⟨x,H1,I1,r1,q1⟩=>test_link (thn (hb zi s1 σ H1 _ I1 q1) fun u s2 ⟨y,H2,I2,r2,q2⟩=>
  thn (ho zi s2 σ H2 x y v u _ I2 r1 r2 q2) fun d s3 ⟨z,H3,I3,r3,k,e,q3⟩=>?_)) hm
 subst e;cases r3;refine gy ?_;cases k with
 |false=>
  obtain⟨k',e',q'⟩:=q3;cases e';exact ite_ff ⟨H3,I3,q'⟩
 |true=>
  refine ite_tt (test_last (thn (hc zi s3 σ H3 _ I3 q3) fun w' s4 ⟨z',H4,I4,r4,q4⟩=>thn (aa zi s4 σ H4 y z' u w' _ I4 r2 r4 q4) fun d' s5 ⟨z2,H5,I5,r5,k2,e2,q5⟩=>?_));subst e2;cases r5;exact gy ⟨H5,I5,q5⟩
def TruV(K:bx)(x:V)(H:Hp)(k:Bool):Prop:=
 match x with
 | .non=>k=false
 | .bl b=>k=b
 | .int i=>k=(i != 0)
 | .str y=>y.length<=df/\k=((y.length:Int) != 0)
 | .byt y=>y.size<=df/\k=((y.size:Int) != 0)
 | .ref p=>(∃xs,SqL K H p xs/\k=!xs.isEmpty)\/(∃xs,SqT K H p xs/\k=!xs.isEmpty)\/∃kvs,H p=some (.dK kvs)/\k=!kvs.isEmpty
 |_=>False
theorem Fi{κ:Type}{q:List (κ×V)}{vs:List (κ×bb)}(r:KV q vs):(!vs.isEmpty)=!q.isEmpty:=by
 cases r<;>rfl
theorem E6{xs:List V}{q:List bb}(r:Vals xs q):(!q.toArray.isEmpty)=!xs.isEmpty:=by
 cases r<;>simp
theorem line63:(df:Nat)<2 ^ 63:=by rw[ko];decide
theorem Jn:TruR X (fun x H Q=>∃k,TruV X.K x H k/\Q k H):=by
 intro zi s σ H x v Q I rx h;obtain⟨k,e,q⟩:=h;have hl:=line63;have hs:df=16777216:=ko;cases x with
 |non=>
  cases rx;have e':k=false:=e;subst e';exact truthy_none ⟨H,I,q⟩
 |bl b=>
  cases rx;have e':k=b:=e;subst e';exact gy ⟨H,I,q⟩
 |int i=>
  obtain⟨t,rfl⟩:=rx;have e':k=(i != 0):=e;subst e';exact PySem.P.truthy_int ⟨H,I,q⟩
 |str y=>
  obtain⟨t,rfl⟩:=rx;obtain⟨hy,e'⟩:y.length<=df/\k=((y.length:Int) != 0):=e;subst e';exact PySem.P.truthy_str yw ⟨H,I.tok _,q⟩
 |byt y=>
  obtain⟨t,rfl⟩:=rx;obtain⟨hy,e'⟩:y.size<=df/\k=((y.size:Int) != 0):=e;subst e';exact W.truthy_bytes yw ⟨H,I.tok _,q⟩
 |ref p=>
  cases rx;have e':(∃xs,SqL X.K H p xs/\k=!xs.isEmpty)\/(∃xs,SqT X.K H p xs/\k=!xs.isEmpty)\/∃kvs,H p=some (.dK kvs)/\k=!kvs.isEmpty:=e;rcases e' with ⟨xs,hx,e'⟩|⟨xs,hx,e'⟩|⟨kvs,hx,e'⟩
  ·subst e';obtain⟨aa,r,pl,hz⟩:=I.list hx;have z:=r.length;exact wpAny_truthy_list pl.isList (by simp only[dn];omega) ⟨H,I.tok _,by rw[E6 r];exact q⟩
  ·subst e';obtain⟨aa,r,pl,hz⟩:=I.tuple hx;have z:=r.length;exact truthy_tuple pl (by simp only[dn];omega) ⟨H,I.tok _,by rw[E6 r];exact q⟩
  ·subst e';obtain⟨hz,hS,vs,r,m⟩:kvs.length<=df/\(p==qv)=false/\∃vs,KV kvs vs/\s.heap.DictOf (wM X.prog X.w) p vs:=I.hok p _ hx;have z:kvs.length=vs.length:=Paired.length r;exact wpAny_truthy_dict hS m yw ⟨H,I.tok _,by rw[Fi r];exact q⟩
 |_=>exact(show False from e).elim
theorem cY(ha:PE X a ta)(he:∀whole,isTrue a X.env whole=(do let v <- whole;standAt a.pos;holding [v] (truthy v))):
  PT X a (fun σ H Q=>ta σ H fun x H'=>∃k,TruV X.K x H' k/\Q k H'):=by
 intro zi s σ H Q I h;exact isTrue_plain (thn (ha zi s σ H _ I h) fun v s1 ⟨x,H1,I1,r1,q1⟩=>Jn zi s1 σ H1 x v Q I1 r1 q1) (he _)
theorem Ib:OpR X (km .Add) (fun x y H Q=>∃i j,x=.str i/\y=.str j/\i.length+j.length<=df/\Q (.str (i++j)) H):=by
 intro zi s σ H x y v u Q I rx ry h;obtain⟨i,j,rfl,rfl,hz,q⟩:=h;obtain⟨t,rfl⟩:=rx;obtain⟨t',rfl⟩:=ry;exact add_str (fun t' tk=>⟨.str (i++j),H,I.tok _,⟨_,rfl⟩,q⟩) hz
theorem vals1{x:V}{us:List bb}(r:Vals [x] us):∃u,us=[u]/\RelV x u:=by
 cases r with
 |cons r1 r2=>cases r2;exact⟨_,rfl,r1⟩
theorem vals2{x y:V}{us:List bb}(r:Vals [x,y] us):∃u w',us=[u,w']/\RelV x u/\RelV y w':=by
 cases r with
 |cons r1 r2=>
  cases r2 with
  |cons r3 r4=>cases r4;exact⟨_,_,rfl,r1,r3⟩
theorem A3(hc:X.calm=true):CallR X (.builtin "max") (fun xs H Q=>∃i j,xs=[.int i,.int j]/\Q (.int (if j>i then j else i)) H):=by
 intro zi s σ H xs us Q I r h;obtain⟨i,j,rfl,q⟩:=h;obtain⟨u,w',rfl,⟨t,rfl⟩,⟨t',rfl⟩⟩:=vals2 r;refine max_two_ints (I.ok.hd hc) fun h' tk k=>⟨_,H,I.kept k,?_,q⟩;by_cases hj:j>i
 ·rw[cq hj,cq hj];exact⟨_,rfl⟩
 ·rw[ck hj,ck hj];exact⟨_,rfl⟩
theorem BK:CallR X (.type "int") (fun xs H Q=>(∃i,xs=[.int i]/\Q (.int i) H)\/∃k,xs=[.bl k]/\Q (.int (if k then 1 else 0)) H):=by
 intro zi s σ H xs us Q I r h;rcases h with ⟨i,rfl,q⟩|⟨k,rfl,q⟩
 ·obtain⟨u,rfl,t,rfl⟩:=vals1 r;exact call_int_int ⟨.int i,H,I,⟨_,rfl⟩,q⟩
 ·obtain⟨u,rfl,r1⟩:=vals1 r;cases r1;exact call_int_bool ⟨.int (if k then 1 else 0),H,I.tok _,⟨_,rfl⟩,q⟩
end
end
section
structure ObjM(h:Heap)(x dx C:Addr)(mA:Str->Option bb):Prop where
 obj:h.get? x=some (rn C dx)
 ns:h.Ns1 dx mA
 ne:dx≠x
theorem FO{h:Heap}{dx:Addr}{mA:Str->Option bb}(n:h.Ns1 dx mA):∃od,h.get? dx=some od/\∀name,W.lookIn name od=some (mA name):=by
 obtain⟨o,es,ep,ho,hd,hk,_,hm⟩:=n;refine⟨o,ho,fun name=>?_⟩;have e:=hm name;unfold nsFind findBy at e;rw[<- Array.find?_toList]at e;unfold W.lookIn;rw[hd];dsimp only;split
 ·rename_i y q;rw[q]at e;exact congrArg some e
 ·rename_i q;rw[q]at e;have a:es.toList.any (·.refKey)=false:=by
   rw[any_eq_false];intro y hy;obtain⟨z,t,aa⟩:=hk y (Array.mem_toList_iff.mp hy);simp[DictEntry.refKey,aa]
  have a':¬ es.toList.any (·.refKey)=true:=by rw[a];exact gw
  rw[ck a'];exact congrArg some e
theorem ObjM.look{h:Heap}{x dx C:Addr}{mA:Str->Option bb}(I:ObjM h x dx C mA):∃od,W.InstAt h x (rn C dx) C (some od)/\∀name,W.lookIn name od=some (mA name):=
 let ⟨od,ho,hl⟩:=FO I.ns
 ⟨od,⟨I.obj,rfl,rfl,ho⟩,hl⟩
section
variable {prog:cy}{w:fq}{A:ff}{E:bb->bd->Prop}{s:bd}{K:bx}{x dx C f:Addr}{mA:Str->Option bb}{name:Str}{v:bb}
theorem gE{q:Bool}{Q:bb->bd->Prop}(X:K.In s.heap)(I:ObjM s.heap x dx C mA)(hg:W.plainGet K C name=true)(hh:W.hasDictIn K C=true)
  (ha:ot K (.ref C) name=some none) (hv:mA name=some v) (hv':W.handedIn v=true) (h:Q v { s with toks:=s.toks+1 }):
  bn (model prog w) A (getAttr (.ref x) name q) Q E s:=by
 obtain⟨od,J,hl⟩:=I.look;exact W.get_value X J (W.plainGet_of hg).1 (W.findObj_own hh ha rfl (by rw[hl,hv])) hv' h
theorem F1{pl:Sem Bool}{Q:bb×List bb->bd->Prop}(X:K.In s.heap)(I:ObjM s.heap x dx C mA)(hg:W.plainGet K C name=true)
  (hf:ot K (.ref C) name=some (some (.ref f))) (ht:W.isFn K (.ref f)=true) (hv:mA name=none) (h:Q (.ref f,[.ref x]) s):
  bn (model prog w) A (getMethod (.ref x) name pl) Q E s:=by
 obtain⟨od,J,hl⟩:=I.look;exact W.method_fn X J (W.plainGet_of hg).1 (W.plainGet_of hg).2 hf (beq_iff_eq.mp ht) (by show (W.lookIn name od).map (·.isSome)=some false;rw[hl,hv];rfl) h
theorem JN{ns:List Str}{Q:Unit->bd->Prop}(X:K.In s.heap)(I:ObjM s.heap x dx C mA)
  (hs:ot K (.ref C) "__setattr__" = some (some (.builtin "object.__setattr__"))) (hp:W.plainOver K C=true) (ht:W.takerIn K C name=some none) (hh:W.hasDictIn K C=true)
  (hw:PySem.Within mA ns) (hsz:ns.length<=df)
  (h:∀h',ObjM h' x dx C (fun y=>if y=name then some v else mA y)->ij dx s.heap h'->Q () { s with heap:=h',toks:=s.toks+2 }):
  bn (model prog w) A (setAttr (.ref x) name v) Q E s:=by
 obtain⟨od,J,hl⟩:=I.look;refine W.set_plain X J hs (W.osa_open (s:={ s with toks:=s.toks+1 }) (r:=none) X J hp ht fun b=>?_);obtain⟨cd,hc,ac⟩:=W.any_some hh;have hx:s.heap.get? x=some ⟨.ref C,some dx,.plain,#[]⟩:=I.obj;refine ba (be (ba (ba (wpAny_loadPart hx (ba (W.Looks.here (s:={ s with toks:=s.toks+1 }) (W.looks_clsIn X hc) ?_))))));rw[ac];refine be (a:=some dx) (ba (be (ba ?_)));refine wpAny_nsSet1 (s:={ s with toks:=s.toks+1 }) I.ns fun h' q z=>?_;obtain⟨oD,ae,epD,aa,hdD,ab⟩:=q.count (PySem.Within.cons name v hw);refine ba (wpAny_lookBehind aa (by rw[hdD];exact pastItsLine_dict (fv ab (by rw[cw];omega))) ?_);exact be (h _ ⟨(z.2 _ (ic I.ne)).trans I.obj,q,I.ne⟩ z)
theorem Ln{R:Result->bd->Prop}{vs:List bb}{kw:List (Str×bb)}(X:K.In s.heap)(hm:W.makesIn K C=true)
  (hi:ot K (.ref C) "__init__" = some (some (.ref f))) (hf:W.typeIn K (.ref f)=some (.type "function"))
  (h:kl (model prog w) (A.under (.builtin "type.__call__" ⟨.ref C::vs,kw⟩)) (.call (.ref f) ⟨.ref (s.heap.objs.size+1)::vs,kw⟩) (W.InitBack (s.heap.objs.size+1) R)
   { s with heap:=(s.heap.push ny).push (rn C s.heap.objs.size) }):
  kl (model prog w) A (.call (.ref C) ⟨vs,kw⟩) R s:=by
 obtain⟨hh,g,d,t,os⟩:=s;exact W.make_core (W.makes_of X hm) (W.looks_findIn X hi) (fun self=>W.bind_fn X self hf) (.inl rfl) h
end
def bC(f:Str)(v:V):List (Str×V)->List (Str×V)
 | []=>[(f,v)]
 | (g,x)::r=>if g=f then (g,v)::r else (g,x)::bC f v r
theorem Bx(f g:Str)(v:V):∀fs:List (Str×V),(bC f v fs).lookup g=if g=f then some v else fs.lookup g
 | []=>by
  show qb g [(f,v)]=_;by_cases h:g=f
  ·have hb:(g==f)=true:=beq_iff_eq.mpr h;simp only[qb,hb,cq h]
  ·have hb:(g==f)=false:=beq_eq_false_iff_ne.mpr h;simp only[qb,hb,ck h]
 | (k,x)::r=>by
  have ih:=Bx f g v r;rw[show bC f v ((k,x)::r)=(if k=f then (k,v)::r else (k,x)::bC f v r)from rfl];by_cases hk:k=f
  ·rw[cq hk];by_cases h:g=k
   ·have hb:(g==k)=true:=beq_iff_eq.mpr h;simp only[qb,hb,cq (h.trans hk)]
   ·have hb:(g==k)=false:=beq_eq_false_iff_ne.mpr h;simp only[qb,hb,ck (fun e:g=f=>h (e.trans hk.symm))]
  ·rw[ck hk];by_cases h:g=k
   ·have hb:(g==k)=true:=beq_iff_eq.mpr h;simp only[qb,hb,ck (fun e:g=f=>hk (h.symm.trans e))]
   ·have hb:(g==k)=false:=beq_eq_false_iff_ne.mpr h;simp only[qb,hb];exact ih
theorem xY(f:Str)(v:V):∀fs:List (Str×V),f∈(bC f v fs).map (·.1)/\∀g,g∈fs.map (·.1)->g∈(bC f v fs).map (·.1)
 | []=>⟨by simp[bC],fun g h=>by simp at h⟩
 | (k,x)::r=>by
  obtain⟨i1,i2⟩:=xY f v r;rw[show bC f v ((k,x)::r)=(if k=f then (k,v)::r else (k,x)::bC f v r)from rfl];by_cases hk:k=f
  ·rw[cq hk];subst hk;exact⟨yv,fun g h=>by simpa using h⟩
  ·rw[ck hk];refine⟨?_,fun g h=>?_⟩
   ·rw[ft];exact bp _ i1
   ·rw[ft]at h ⊢;rcases mem_cons.mp h with e|e
    ·exact mem_cons.mpr (.inl e)
    ·exact bp _ (i2 g e)
theorem BV(f:Str)(v:V):∀fs:List (Str×V),(bC f v fs).length<=fs.length+1
 | []=>by simp[bC]
 | (k,x)::r=>by
  have ih:=BV f v r;rw[show bC f v ((k,x)::r)=(if k=f then (k,v)::r else (k,x)::bC f v r)from rfl];by_cases hk:k=f
  ·rw[cq hk,cw,cw];omega
  ·rw[ck hk,cw,cw];omega
theorem RelO.some_of{v:V}{o:Option bb}(r:RelO (some v) o):∃u,o=some u/\RelV v u:=by
 cases o with
 |none=>exact(show False from r).elim
 |some u=>exact⟨u,rfl,r⟩
theorem RelO.none_of{o:Option bb}(r:RelO none o):o=none:=by
 cases o with
 |none=>rfl
 |some u=>exact(show False from r).elim
theorem JP{v:V}{u:bb}(r:RelV v u):W.handedIn u=true:=by
 cases v with
 |non=>cases (show u=pz from r);rfl
 |bl b=>cases (show u=Value.bool b from r);rfl
 |int i=>obtain⟨t,e⟩:=(show ∃t,u=qi i t from r);cases e;rfl
 |str x=>obtain⟨t,e⟩:=(show ∃t,u=Value.str x t from r);cases e;rfl
 |byt b=>obtain⟨t,e⟩:=(show ∃t,u=Value.bytes b t from r);cases e;rfl
 |flt b=>obtain⟨t,e⟩:=(show ∃t,u=Value.float b t from r);cases e;rfl
 |ref a=>cases (show u=fb a from r);rfl
 |ty n=>cases (show u=qa n from r);rfl
section
variable {P:cy}{w:fq}{H H':Hp}{h h':Heap}{a C dx:Addr}{fs fs':List (Str×V)}
theorem uU(hok:HOk P w H h)(e:H a=some (.ins C dx fs)):∃mA,ObjM h a dx C mA/\(∀f,RelO (fs.lookup f) (mA f))/\PySem.Within mA (fs.map (·.1))/\fs.length<=1000/\H dx=some (.own a):=by
 obtain⟨d,z,ne,ob,mA,n,r,q⟩:=(show ObjOk P w H h a (.ins C dx fs)from hok a _ e);exact⟨mA,⟨ob,n,ne⟩,r,q,z,d⟩
end
structure Cls(K:bx)(C:Addr):Prop where
 pg:W.plainGet K C Str.empty=true
 hd:W.hasDictIn K C=true
 po:W.plainOver K C=true
 sa:ot K (.ref C) "__setattr__" = some (some (.builtin "object.__setattr__"))
theorem Cls.get{K:bx}{C:Addr}(c:Cls K C)(f:Str):W.plainGet K C f=true:=c.pg
def NoAttr(K:bx)(C:Addr)(f:Str):Prop:=ot K (.ref C) f=some none
theorem NoAttr.taker{K:bx}{C:Addr}{f:Str}(n:NoAttr K C f):W.takerIn K C f=some none:=by
 unfold W.takerIn;rw[show ot K (.ref C) f=some none from n];rfl
structure Meth(K:bx)(C:Addr)(m:Str)(f:Addr):Prop where
 at_:ot K (.ref C) m=some (some (.ref f))
 fn:W.isFn K (.ref f)=true
 kp:ql K (.ref f)=true
section
variable {X:Cx}{zi:List (Addr×Obj)}{σ:St}{H:Hp}{s:bd}{a C dx:Addr}{fs:List (Str×V)}{f:Str}{v:V}{A:ff}{E:bb->bd->Prop}
theorem Hf{b:Bool}{Q:bb->bd->Prop}(I:Inv X zi σ H s)(e:H a=some (.ins C dx fs))(c:Cls X.K C)(n:NoAttr X.K C f)(l:fs.lookup f=some v)
  (h:∀u s',Inv X zi σ H s'->RelV v u->Q u s'):bn (model X.prog X.w) A (getAttr (.ref a) f b) Q E s:=by
 obtain⟨mA,O,r,_,_,_⟩:=uU I.hok e;obtain⟨u,hu,ru⟩:=RelO.some_of (v:=v) (o:=mA f) (by rw[<- l];exact r f);exact gE I.kIn O (c.get f) c.hd n hu (JP ru) (h u _ (I.tok _) ru)
theorem Fx{m:Str}{g:Addr}{pl:Sem Bool}{Q:bb×List bb->bd->Prop}(I:Inv X zi σ H s)(e:H a=some (.ins C dx fs))(c:Cls X.K C)(k:Meth X.K C m g)(l:fs.lookup m=none)
  (h:Q (.ref g,[.ref a]) s):bn (model X.prog X.w) A (getMethod (.ref a) m pl) Q E s:=by
 obtain⟨mA,O,r,_,_,_⟩:=uU I.hok e;have hn:mA m=none:=RelO.none_of (by rw[<- l];exact r m);exact F1 I.kIn O (c.get m) k.at_ k.fn hn h
theorem Fe{y:V}{u:bb}{Q:Unit->bd->Prop}(I:Inv X zi σ H s)(e:H a=some (.ins C dx fs))(c:Cls X.K C)(n:NoAttr X.K C f)(hl:fs.length<1000)(ry:RelV y u)
  (h:∀s',Inv X zi σ (upd H a (.ins C dx (bC f y fs))) s'->Q () s'):bn (model X.prog X.w) A (setAttr (.ref a) f u) Q E s:=by
 obtain⟨mA,O,r,wi,_,ho⟩:=uU I.hok e;have hz:(fs.map (·.1)).length<=df:=by rw[bq,ko];omega
 refine JN I.kIn O c.sa c.po n.taker c.hd wi hz fun h' O' sb=>h _ ?_;have hd:∃o,h'.get? dx=some o:=let ⟨o,_,_,e',_⟩:=O'.ns;⟨o,e'⟩;refine I.write (x:=a) (e:=dx) (by rw[e];exact qw) (.inr ho) (fun b q hb z=>(sb.2 b hb).trans z) hd ?_;refine⟨by rw[zE O.ne];exact ho,?_,O.ne,O'.obj,_,O'.ns,fun g=>?_,fun g hg=>?_⟩
 ·have:=BV f y fs;omega
 ·show RelO ((bC f y fs).lookup g) (if g=f then some u else mA g);rw[Bx];by_cases q:g=f
  ·rw[cq q,cq q];exact ry
  ·rw[ck q,ck q];exact r g
 ·by_cases q:g=f
  ·rw[q];exact(xY f y fs).1
  ·refine(xY f y fs).2 g (wi g fun z=>hg ?_);show (if g=f then some u else mA g)=none;rw[ck q];exact z
theorem Inv.made(I:Inv X zi σ H s):Inv X zi σ (upd (upd H s.heap.objs.size (.own (s.heap.objs.size+1))) (s.heap.objs.size+1) (.ins C s.heap.objs.size []))
  { s with heap:=(s.heap.push ny).push (rn C s.heap.objs.size) }:=by
 have e1:(s.heap.push ny).get? s.heap.objs.size=some ny:=cj s.heap rfl;have e2:((s.heap.push ny).push (rn C s.heap.objs.size)).get? (s.heap.objs.size+1)=some (rn C s.heap.objs.size):=by
  have:=cj (s.heap.push ny) (o:=rn C s.heap.objs.size) rfl
  rwa [size_push]at this
 have e3:(s.heap.push ny).Ns s.heap.objs.size (fun _=>none):=⟨ny,#[],_,e1,rfl,(fun e he=>absurd he yv),fun _=>rfl⟩;have I1:=I.laid (a:=s.heap.objs.size) (o:=.own (s.heap.objs.size+1)) (h':=s.heap.push ny) (t':=s.toks) (fun b u q=>bf _ q) (cz _) ⟨_,e1⟩;refine I1.laid (a:=s.heap.objs.size+1) (o:=.ins C s.heap.objs.size []) (t':=s.toks) (fun b u q=>bf _ q) (le_of_eq (size_push _ _)) ?_;have ne:s.heap.objs.size≠s.heap.objs.size+1:=fk (lt_succ_self _);refine⟨by rw[zE ne,zK],ji _,ne,e2,fun _=>none,(Heap.Ns1.of_empty e3).at fun o q=>bf _ q,fun _=>qw,fun y hy=>absurd rfl hy⟩
theorem Hr{prog:cy}{w:fq}{env:Env}{e:Expr}{f:Str}{pos:Pos}{s:bd}{Q:bb->bd->Prop}(hb:qm e f env (eval e env)=eval e env)
  (h:bn (model prog w) A (eval e env) (fun o s₁=>bn (model prog w) A (getAttr o f true) Q E s₁) E s):bn (model prog w) A (eval (.Attribute e f pos) env) Q E s:=
 Attribute_any_ h (by rw[arm_eval_Attribute,hb])
end
def EG(K:bx)(ta:TE)(f:Str):TE:=fun σ H Q=>ta σ H fun x H1=>∃a C dx fs v,x=.ref a/\H1 a=some (.ins C dx fs)/\Cls K C/\NoAttr K C f/\fs.lookup f=some v/\Q v H1
def jF(K:bx)(ta tv:TE)(f:Str):TS:=fun D σ H=>tv σ H fun y H1=>ta σ H1 fun x H2=>∃a C dx fs,x=.ref a/\H2 a=some (.ins C dx fs)/\Cls K C/\NoAttr K C f/\fs.length<1000 /\
 D.nx σ (upd H2 a (.ins C dx (bC f y fs)))
section
variable {X:Cx}{o e value:Expr}{f:Str}{pos pos' tpos:Pos}{ta tv:TE}
theorem lD(he:PE X e ta)(hb:qm e f X.env (eval e X.env)=eval e X.env):PE X (.Attribute e f pos) (EG X.K ta f):=by
 intro zi s σ H Q I h;refine Hr hb (thn (he zi s σ H _ I h) fun u s1 ⟨x,H1,I1,rx,a,C,dx,fs,v,ex,ea,c,n,l,q⟩=>?_);subst ex;obtain rfl:u=fb a:=rx;exact Hf I1 ea c n l fun u' s2 I2 ru=>⟨v,H1,I2,ru,q⟩
theorem vS(ha:PE X o ta)(hv:PE X value tv)(hs:swapsWith value (some (.Attribute o f pos')) pos.line X.env=pure false):PS X (.Assign [.Attribute o f pos'] value pos) (jF X.K ta tv f):=by
 intro zi s σ H D I h;refine plainObj_wpAny_Assign_Attribute (thn (hv zi s σ H _ I h) fun u s1 ⟨y,H1,I1,ry,q⟩=>thn (ha zi s1 σ H1 _ I1 q) fun ov s2 ⟨x,H2,I2,rx,a,C,dx,fs,ex,ea,c,n,l,q2⟩=>?_) hs;subst ex;obtain rfl:ov=fb a:=rx;exact Fe I2 ea c n l ry fun s3 I3=>⟨σ,_,I3,q2⟩
end
section
variable {X:Cx}{zi:List (Addr×Obj)}{σ:St}{H:Hp}{s:bd}{A:ff}{E:bb->bd->Prop}{Q:bb->bd->Prop}{c:bb}{b:Bool}
inductive TyOf (K:bx) (H:Hp):V->bb->Prop where
 |non:TyOf K H .non (.type "NoneType")
 |bl (x:Bool):TyOf K H (.bl x) (.type "bool")
 |int (i:Int):TyOf K H (.int i) (.type "int")
 |str (x:Str):TyOf K H (.str x) (.type "str")
 |flt (x:UInt64):TyOf K H (.flt x) (.type "float")
 |lst {a:Addr}{xs:List V} (e:H a=some (.lst xs)):TyOf K H (.ref a) (.type "list")
 |frz {a:Addr}{o:Obj}{xs:List V} (e:H a=some (.frz o (.lst xs))):TyOf K H (.ref a) (.type "list")
 |tup {a:Addr}{xs:List V} (e:H a=some (.tup xs)):TyOf K H (.ref a) (.type "tuple")
 |dK {a:Addr}{kvs:List (Key×V)} (e:Rd H a (.dK kvs)):TyOf K H (.ref a) (.type "dict")
 |dT {a:Addr}{kvs:List (List Key×V)} (e:Rd H a (.dT kvs)):TyOf K H (.ref a) (.type "dict")
 |ins {a C dx:Addr}{fs:List (Str×V)} (e:H a=some (.ins C dx fs)) (cl:Cls K C) (ha:ot K (.ref C) "__class__" = some (some (.builtin "object.__class__")))
   (hn:W.specialIn K (.builtin "object.__class__") "__get__" = some (some (.builtin "getset_descriptor.__get__"))) (htk:W.takesIn K (.builtin "object.__class__")=some true)
   (hm:W.mroIn K C (.type "object")=some true):TyOf K H (.ref a) (.ref C)
theorem Ju{x:V}{u t:bb}(I:Inv X zi σ H s)(rx:RelV x u)(ty:TyOf X.K H x t)(e:W.kitOne X.K t c=some b)(h:∀tk,Q (.bool b) { s with toks:=tk }):
  bn (model X.prog X.w) A (call (.builtin "isinstance") [u,c]) Q E s:=by
 cases ty with
 |non=>cases (show u=pz from rx);exact pc W.kitx_none I.kIn qw e (fun z=>nomatch z) h
 |bl y=>cases (show u=Value.bool y from rx);exact pc W.kitx_bool I.kIn qw e (fun z=>nomatch z) h
 |int i=>obtain⟨t,q⟩:=(show ∃t,u=qi i t from rx);cases q;exact pc W.kitx_int I.kIn qw e (fun z=>nomatch z) h
 |str y=>obtain⟨t,q⟩:=(show ∃t,u=Value.str y t from rx);cases q;exact pc W.kitx_str I.kIn qw e (fun z=>nomatch z) h
 |flt y=>obtain⟨t,q⟩:=(show ∃t,u=Value.float y t from rx);cases q;exact pc W.kitx_float I.kIn qw e (fun z=>nomatch z) h
 | @lst a xs ea=>
  cases (show u=fb a from rx);obtain⟨_,_,n,_,h1⟩:=(show ObjOk X.prog X.w H s.heap a (.lst xs)from I.hok a _ ea);exact pc W.kitx_list I.kIn ⟨_,h1,rfl⟩ e (fun z=>nomatch z) h
 | @frz a ob xs ea=>
  cases (show u=fb a from rx);obtain⟨_,_,_,n,_,h1⟩:=(show ObjOk X.prog X.w H s.heap a (.frz ob (.lst xs))from I.hok a _ ea);exact pc W.kitx_list I.kIn ⟨_,h1,rfl⟩ e (fun z=>nomatch z) h
 | @tup a xs ea=>
  cases (show u=fb a from rx);obtain⟨_,_,_,p⟩:=(show ObjOk X.prog X.w H s.heap a (.tup xs)from I.hok a _ ea);obtain⟨o,h1,h2,_⟩:=p;exact pc W.kitx_tuple I.kIn ⟨o,h1,h2⟩ e (fun z=>nomatch z) h
 | @dK a kvs ea=>
  cases (show u=fb a from rx);obtain⟨_,_,vs,_,p⟩:=(show ObjOk X.prog X.w H s.heap a (.dK kvs)from ea.ok I.hok);obtain⟨o,es,ep,h1,h2,_⟩:=p;exact pc W.kitx_dict I.kIn ⟨o,h1,h2.1⟩ e (fun z=>nomatch z) h
 | @dT a kvs ea=>
  cases (show u=fb a from rx);obtain⟨_,_,xs,_,o,es,ep,h1,h2,_⟩:=(show ObjOk X.prog X.w H s.heap a (.dT kvs)from ea.ok I.hok);exact pc W.kitx_dict I.kIn ⟨o,h1,h2.1⟩ e (fun z=>nomatch z) h
 | @ins a C dx fs ea cl ha hn htk hm=>
  cases (show u=fb a from rx);obtain⟨mA,O,_⟩:=uU I.hok ea;obtain⟨od,J,_⟩:=O.look;exact pc (W.kitx_own (cl.get _) cl.hd ha hn htk hm) I.kIn J e (fun z=>nomatch z) h
end
end
section
structure Room(k:Nat)(A:ff):Prop where
 hd:A.handled=none
 dp:A.depth+3*k+5<recursionLimit
 un:A.units+16*k+200<jn
theorem Room.mono{j k:Nat}{A:ff}(r:Room k A)(h:j<=k):Room j A:=⟨r.hd,by have:=r.dp;omega,by have:=r.un;omega⟩
theorem Room.deeper{k:Nat}{A:ff}(r:Room (k+1) A)(env:Env):Room k (A.deeper env):=
 ⟨r.hd,by have:=r.dp;show A.depth+1+3*k+5<_;omega,by have:=r.un;show A.units+3+16*k+200<_;omega⟩
theorem Room.in1{k:Nat}{A:ff}(r:Room (k+1) A):Room k A.in1:=
 ⟨r.hd,by have:=r.dp;show A.depth+3*k+5<_;omega,by have:=r.un;show A.units+1+16*k+200<_;omega⟩
theorem Gb{A:ff}{C:Addr}{us:List bb}{kw:List (Str×bb)}:(A.under (.builtin "type.__call__" ⟨.ref C::us,kw⟩)).depth=A.depth+1:=by
 first|rfl|simp[Around.under,Code.weight,Code.isCreation,Code.isGuard,Code.isCaller,Code.frames,Code.isFrame,guardIds]
theorem Io{A:ff}{C:Addr}{us:List bb}{kw:List (Str×bb)}:(A.under (.builtin "type.__call__" ⟨.ref C::us,kw⟩)).units=A.units+1:=by
 first|rfl|simp[Around.under,Code.cUnits,Code.frames,Code.isFrame]
theorem Room.make{k:Nat}{A:ff}(r:Room (k+1) A)(C:Addr)(us:List bb)(kw:List (Str×bb)):Room k (A.under (.builtin "type.__call__" ⟨.ref C::us,kw⟩)):=
 ⟨r.hd,by have:=r.dp;rw[Gb];omega,by have:=r.un;rw[Io];omega⟩
theorem Room.depth{k:Nat}{A:ff}(r:Room k A):A.depth<recursionLimit:=by have:=r.dp;omega
theorem Room.units{k:Nat}{A:ff}(r:Room k A):A.units+64<jn:=by have:=r.un;omega
def gB:TA:=fun _ H Q=>Q [] H
def eC(ta:TE)(tr:TA):TA:=fun σ H Q=>ta σ H fun x H1=>tr σ H1 fun xs H2=>Q (x::xs) H2
section
variable {X:Cx}{e:Expr}{es:List Expr}{te:TE}{t:TA}{pos:Pos}
theorem ze:PA X [] gB:=fun _ _ _ _ H Q I h=>Calls.spliced_nil ⟨[],H,I,.nil,h⟩
theorem za(ha:PE X e te)(hr:PA X es t)(hs:cr (e::es) X.env=(false,eval e X.env)::cr es X.env:=by rfl):PA X (e::es) (eC te t):=by
 intro pos zi s σ H Q I h;rw[hs];show bn _ _ (spliced ((false,eval e X.env)::kx pos (cr es X.env))) _ _ s;refine Calls.spliced_cons (thn (ha zi s σ H _ I h) fun u s1 ⟨x,H1,I1,r1,q1⟩=>?_);exact thn (hr pos zi s1 σ H1 _ I1 q1) fun us s2 ⟨xs,H2,I2,r2,q2⟩=>⟨x::xs,H2,I2,.cons r1 r2,q2⟩
def FK(t:TA):TE:=fun σ H Q=>t σ H fun xs H1=>xs.length<=df/\∀p,H1 p=none->Q (.ref p) (upd H1 p (.tup xs))
def lJ(t:TA):TE:=fun σ H Q=>t σ H fun xs H1=>xs.length<=df/\∀p,H1 p=none->Q (.ref p) (upd H1 p (.lst xs))
theorem aQ{x1}(h:PA X es t):PE X (.Tuple es x1 pos) (FK t):=by
 intro zi s σ H Q I hq;refine wpAny_Tuple_spliced (thn (h pos zi s σ H _ I hq) fun us s1 ⟨xs,H1,I1,r,z,q⟩=>⟨by rw[<- r.length];exact z,?_⟩);have hf:H1 s1.heap.objs.size=none:=I1.hok.fresh (cz _);refine⟨.ref s1.heap.objs.size,upd H1 s1.heap.objs.size (.tup xs),I1.laid (t':=s1.toks) (fun b u e=>bf _ e) (cz _) ?_,rfl,q _ hf⟩;exact⟨⟨z,_,cj _ rfl,rfl,I1.kpNew⟩,us,r,⟨_,cj _ rfl,rfl,_,rfl⟩⟩
theorem aT(h:PA X es t):PE X (.List es pos) (lJ t):=by
 intro zi s σ H Q I hq;refine wpAny_List_spliced (thn (h pos zi s σ H _ I hq) fun us s1 ⟨xs,H1,I1,r,z,q⟩=>⟨by rw[<- r.length];exact z,?_⟩);have hf:H1 s1.heap.objs.size=none:=I1.hok.fresh (cz _);refine⟨.ref s1.heap.objs.size,upd H1 s1.heap.objs.size (.lst xs),I1.laid (t':=s1.toks) (fun b u e=>bf _ e) (cz _) ?_,rfl,q _ hf⟩;exact⟨z,us,0,r,cj _ rfl⟩
end
abbrev Sp:=List V->Hp->VK->XK->Prop
abbrev CXT:=List Env->Hp->bd->XK->bb->bd->Prop
structure Env0(P:cy)(w:fq)(K:bx)(mg:Str->Option bb)(base:Heap)(A:ff)(outer:List Env)(s:bd)(H:Hp):Prop where
 frames:A.frames=some outer
 mod:Mod K mg base
 bs:∀b o,base.get? b=some o->s.heap.get? b=some o/\H b=none
 bsz:base.objs.size<=s.heap.objs.size
 funs:s.heap.FunFrames base outer
 frf:Frf (frs outer) H
 hok:HOk P w H s.heap
 bare:AllBare s.gens
theorem Env0.kIn{P:cy}{w:fq}{K:bx}{mg:Str->Option bb}{base:Heap}{A:ff}{outer:List Env}{s:bd}{H:Hp}(e0:Env0 P w K mg base A outer s H):K.In s.heap:=e0.mod.kin.all (fun b o e=>(e0.bs b o e).1) (e0.frf.kpIn e0.hok)
def CE(outer:List Env)(P:cy)(w:fq)(H:Hp)(s:bd)(Q:VK)(u:bb)(s':bd):Prop:=
 ∃v H',s'.os=s.os/\AllBare s'.gens/\Un (frs outer) [] H H' s.heap s'.heap/\HOk P w H' s'.heap/\RelV v u/\Q v H'
def CR(CX:CXT)(outer:List Env)(P:cy)(w:fq)(H:Hp)(s:bd)(Q:VK)(E:XK)(r:Result)(s':bd):Prop:=
 match r with
 | .ok (.ret u)=>CE outer P w H s Q u s'
 | .ok _=>False
 | .error e=>CX outer H s E e s'
structure FnOk(P:cy)(w:fq)(K:bx)(mg:Str->Option bb)(base:Heap)(CX:CXT)(k:Nat)(f:Addr)(fd:ou)(ps:List Str)(sp:Sp):Prop where
 len:∀vs H Q E,sp vs H Q E->vs.length=ps.length
 run:∀(A:ff) (outer:List Env) (s:bd) (H:Hp) (args:Args) (us:List bb) (vs:List V) (Q:VK) (E:XK),Room k A->Env0 P w K mg base A outer s H->BindsTo s fd args (ps.zip us)->Vals vs us->sp vs H Q E ->
  kl (model P w) A (.call (.ref f) args) (CR CX outer P w H s Q E) s
theorem Env0.make{P:cy}{w:fq}{K:bx}{mg:Str->Option bb}{base:Heap}{A:ff}{outer:List Env}{s:bd}{H:Hp}(e:Env0 P w K mg base A outer s H)(C:Addr)(us:List bb)(kw:List (Str×bb)):
  Env0 P w K mg base (A.under (.builtin "type.__call__" ⟨.ref C::us,kw⟩)) outer s H:=⟨by first|exact e.frames|(simpa[Around.under,Code.envs,Code.isFrame,pushEnvs]using e.frames),e.mod,e.bs,e.bsz,e.funs,e.frf,e.hok,e.bare⟩
theorem Env0.in1{P:cy}{w:fq}{K:bx}{mg:Str->Option bb}{base:Heap}{A:ff}{outer:List Env}{s:bd}{H:Hp}(e:Env0 P w K mg base A outer s H):
  Env0 P w K mg base A.in1 outer s H:=⟨e.frames,e.mod,e.bs,e.bsz,e.funs,e.frf,e.hok,e.bare⟩
section
variable {X:Cx}{zi:List (Addr×Obj)}{σ:St}{H:Hp}{s s':bd}
theorem Inv.env0(I:Inv X zi σ H s):Env0 X.prog X.w X.K X.mg X.base X.A X.stack s H:=
 ⟨I.ok.frames,I.ok.mod,I.bs,fv I.ok.bsz I.sz,I.stack,I.stkFree,I.hok,I.bare⟩
theorem Inv.after{Q:VK}{u:bb}(I:Inv X zi σ H s)(h:CE X.stack X.prog X.w H s Q u s'):EP X zi σ Q u s':=by
 obtain⟨v,H',os,bare,un,hok,r,q⟩:=h;obtain⟨hh,g,d,t,aa⟩:=s';obtain rfl:aa=s.os:=os;exact⟨v,H',I.call (h':=hh) (g':=g) (d':=d) (t':=t) (ch:=[]) un hok bare (fun b z=>absurd z yv),r,q⟩
end
def g8(sp:Sp)(dvs:List V)(E:XK)(t:TA):TE:=fun σ H Q=>t σ H fun vs H1=>sp (vs++dvs) H1 Q E
def vE(C:Addr)(m:Str)(sp:Sp)(dvs:List V)(E:XK)(ta:TE)(t:TA):TE:=fun σ H Q=>ta σ H fun x H1=>∃a dx fs,x=.ref a/\H1 a=some (.ins C dx fs)/\fs.lookup m=none /\
 t σ H1 fun vs H2=>sp (x::(vs++dvs)) H2 Q E
def AJ(C:Addr)(sp:Sp)(dvs:List V)(E:XK)(t:TA):TE:=fun σ H Q=>t σ H fun vs H1=>∀x dx,H1 x=none->H1 dx=none->dx≠x ->
 sp (.ref x::(vs++dvs)) (upd (upd H1 dx (.own x)) x (.ins C dx [])) (fun v H2=>v=.non/\Q (.ref x) H2) E
def Binds(K:bx)(fd:ou)(ps:List Str)(ds:List bb):Prop:=
 ∀(s:bd) (us:List bb),K.In s.heap->(us++ds).length=ps.length->BindsTo s fd ⟨us,[]⟩ (ps.zip (us++ds))
theorem Binds.all{K:bx}{fd:ou}{ps:List Str}(h:∀us:List bb,us.length=ps.length->qc fd ⟨us,[]⟩=pure (ps.zip us)):Binds K fd ps []:=fun s us _ hl=>by
 rw[gl]at hl ⊢;exact .of_eq (h us hl)
def Passes(CX:CXT)(X:Cx)(E:XK):Prop:=∀(zi:List (Addr×Obj)) (σ:St) (H:Hp) (s:bd) (e:bb) (s':bd),Inv X zi σ H s->CX X.stack H s E e s'->X.xe e s'
section
variable {X:Cx}{CX:CXT}{k:Nat}{f C:Addr}{fd:ou}{ps:List Str}{sp:Sp}{dvs:List V}{ds:List bb}{E:XK}{x m:Str}{p pos apos:Pos}{e o:Expr}{es:List Expr}{ta:TE}{t:TA}
theorem BI{zi:List (Addr×Obj)}{σ:St}{H:Hp}{s:bd}{Q:VK}{us:List bb}{vs:List V}(F:FnOk X.prog X.w X.K X.mg X.base CX k f fd ps sp)(hr:Room k X.A)(hb:Binds X.K fd ps ds)(hd:Vals dvs ds)(hx:Passes CX X E)
  (I:Inv X zi σ H s) (r:Vals vs us) (h:sp (vs++dvs) H Q E):bn (model X.prog X.w) X.A (call (.ref f) us) (EP X zi σ Q) X.xe s:=by
 have r2:Vals (vs++dvs) (us++ds):=r.append hd;have hl:(us++ds).length=ps.length:=by rw[<- r2.length];exact F.len _ _ _ _ h
 refine wpAny_call (oh (F.run X.A X.stack s H ⟨us,[]⟩ (us++ds) (vs++dvs) Q E hr I.env0 (hb s us I.kIn hl) r2 h) fun r s' hq=>?_);cases r with
 |error e=>exact hx zi σ H s e s' I hq
 |ok fl=>
  cases fl with
  |ret u=>exact I.after hq
  |next=>exact ky hq
  |brk=>exact ky hq
  |cont=>exact ky hq
theorem xZ(F:FnOk X.prog X.w X.K X.mg X.base CX k f fd ps sp)(hr:Room k X.A)(hg:Gl X x)(hm:X.mg x=some (.ref f))(hk:ql X.K (.ref f)=true)(hb:Binds X.K fd ps ds)(hd:Vals dvs ds)(hx:Passes CX X E)
  (ha:PA X (e::es) t) (hdb:(x==("__debug__":Str))=false:=by decide) (he:cr (e::es) X.env=(false,eval e X.env)::cr es X.env:=by rfl) (hpl:(kx pos (cr es X.env)).any (·.1)=false:=by rfl):
  PE X (.Call (.Name x p) (e::es) [] pos) (g8 sp dvs E t):=by
 intro zi s σ H Q I h;refine jo (xR I hg hm ?_ hdb);refine W.callWith_K (h₀:=_) I.kIn hk (thn (ha pos zi s σ H _ I h) fun us s1 ⟨vs,H1,I1,r,q⟩=>⟨I1.kIn,?_⟩) he hpl;exact BI F hr hb hd hx I1 r q
theorem FU{pl:Sem Bool}(he:PE X o ta)(c:Cls X.K C)(hm:Meth X.K C m f)(F:FnOk X.prog X.w X.K X.mg X.base CX k f fd ps sp)(hr:Room k X.A)(hb:Binds X.K fd ps ds)(hd:Vals dvs ds)(hx:Passes CX X E)(ha:PA X (e::es) t)
  (hst:cr (e::es) X.env=(false,eval e X.env)::cr es X.env:=by rfl) (hpl:(kx pos (cr es X.env)).any (·.1)=false:=by rfl)
  (ht:eval (.Call (.Attribute o m apos) (e::es) [] pos) X.env=(do
   let ov <- eval o X.env
   standAt apos.atName
   let (f,first) <- holding [ov] (getMethod ov m pl)
   callWith pos f first (kx pos (cr (e::es) X.env)) (backToKw pos (keywordEach [] X.env))):=by rfl):
  PE X (.Call (.Attribute o m apos) (e::es) [] pos) (vE C m sp dvs E ta t):=by
 intro zi s σ H Q I h;refine W.methodCall_KW (pl:=pl) (thn (he zi s σ H _ I h) fun u s1 ⟨x,H1,I1,rx,a,dx,fs,ex,ea,l,q⟩=>?_) ht;subst ex;obtain rfl:u=fb a:=rx;refine Fx I1 ea c hm l ?_;refine W.callWith_K (first:=[.ref a]) (h₀:=_) I.kIn hm.kp (thn (ha pos zi s1 σ H1 _ I1 q) fun us s2 ⟨vs,H2,I2,r,q2⟩=>⟨I2.kIn,?_⟩) hst hpl;exact BI (us:=.ref a::us) (vs:=.ref a::vs) F hr hb hd hx I2 (.cons rfl r) q2
structure Mk(K:bx)(C f:Addr):Prop where
 makes:W.makesIn K C=true
 init:ot K (.ref C) "__init__" = some (some (.ref f))
 fn:W.isFn K (.ref f)=true
 kp:ql K (.ref C)=true
theorem F5{zi:List (Addr×Obj)}{σ:St}{H:Hp}{s:bd}{Q:VK}{us:List bb}{vs:List V}(M:Mk X.K C f)(F:FnOk X.prog X.w X.K X.mg X.base CX k f fd ps sp)(hr:Room (k+1) X.A)(hb:Binds X.K fd ps ds)(hd:Vals dvs ds)
  (hx:Passes CX X E) (I:Inv X zi σ H s) (r:Vals vs us)
  (h:∀x dx,H x=none->H dx=none->dx≠x->sp (.ref x::(vs++dvs)) (upd (upd H dx (.own x)) x (.ins C dx [])) (fun v H2=>v=.non/\Q (.ref x) H2) E):
  bn (model X.prog X.w) X.A (call (.ref C) us) (EP X zi σ Q) X.xe s:=by
 have hq:=h (s.heap.objs.size+1) s.heap.objs.size (I.hok.fresh (le_succ _)) (I.hok.fresh (cz _)) (fk (lt_succ_self _));have I2:=Inv.made (C:=C) I;have r2:Vals (V.ref (s.heap.objs.size+1)::(vs++dvs)) (fb (s.heap.objs.size+1)::(us++ds)):=.cons rfl (r.append hd);have hl:(fb (s.heap.objs.size+1)::us++ds).length=ps.length:=by
  have e:=r2.length;rw[F.len _ _ _ _ hq]at e;exact e.symm
 refine wpAny_call (Ln (f:=f) I.kIn M.makes M.init (beq_iff_eq.mp M.fn) (oh (F.run _ X.stack _ _ ⟨fb (s.heap.objs.size+1)::us,[]⟩ (fb (s.heap.objs.size+1)::(us++ds)) _ _ E (hr.make C us [])
  (I2.env0.make C us []) (hb _ (fb (s.heap.objs.size+1)::us) I2.kIn hl) r2 hq) fun r s' q=>?_))
 cases r with
 |error e=>exact hx zi σ _ _ e s' I2 q
 |ok fl=>
  cases fl with
  |ret u=>
   obtain⟨v,H',I3,rv,ev,q3⟩:=I2.after q;subst ev;exact⟨rv,⟨V.ref (s.heap.objs.size+1),H',I3,rfl,q3⟩⟩
  |next=>exact ky q
  |brk=>exact ky q
  |cont=>exact ky q
theorem IS(M:Mk X.K C f)(F:FnOk X.prog X.w X.K X.mg X.base CX k f fd ps sp)(hr:Room (k+1) X.A)(hg:Gl X x)(hm:X.mg x=some (.ref C))(hb:Binds X.K fd ps ds)(hd:Vals dvs ds)(hx:Passes CX X E)
  (ha:PA X (e::es) t) (hdb:(x==("__debug__":Str))=false:=by decide) (he:cr (e::es) X.env=(false,eval e X.env)::cr es X.env:=by rfl) (hpl:(kx pos (cr es X.env)).any (·.1)=false:=by rfl):
  PE X (.Call (.Name x p) (e::es) [] pos) (AJ C sp dvs E t):=by
 intro zi s σ H Q I h;refine jo (xR I hg hm ?_ hdb);refine W.callWith_K (h₀:=_) I.kIn M.kp (thn (ha pos zi s σ H _ I h) fun us s1 ⟨vs,H1,I1,r,q⟩=>⟨I1.kIn,?_⟩) he hpl;exact F5 M F hr hb hd hx I1 r q
end
structure FnScope(N P:List Str)(sc:Scope):Prop where
 kind:sc.kind=.function
 co:sc.isCoroutine=false
 gen:sc.isGenerator=false
 nd:N.Nodup
 pre:N.take P.length=P
 par:∀x∈P,sc.names.lookup x=some .local\/sc.names.lookup x=some .cell
 nofree:∀y∈sc.names,y.2≠.free
theorem DP{q:Str->Option lg}{x:Str}:∀{binds:List (Str×bb)}{m:Str->Option bb},(∀v,(x,v)∉binds)->bindL q binds m x=m x
 | [],_,_=>rfl
 | (n,v)::r,m,h=>by
  unfold bindL;rw[DP fun w hw=>h w (bp _ hw)];split
  ·have:x≠n:=by rintro rfl;exact h v br
   simp[this]
  ·rfl
theorem DF{q:Str->Option lg}{x:Str}:∀{binds:List (Str×bb)}{m:Str->Option bb},(∀v,(x,v)∉binds)->bindC q binds m x=m x
 | [],_,_=>rfl
 | (n,v)::r,m,h=>by
  unfold bindC;rw[DF fun w hw=>h w (bp _ hw)];split
  ·rfl
  ·have:x≠n:=by rintro rfl;exact h v br
   simp[this]
theorem Db{q:Str->Option lg}{x:Str}{v:bb}:∀{P:List Str}{vs:List bb}{i:Nat}{m:Str->Option bb},P.Nodup->P[i]?=some x->vs[i]?=some v->q x=some .local ->
  bindL q (P.zip vs) m x=some v
 | [],_,_,_,_,h,_,_=>by simp at h
 |_::_,[],_,_,_,_,h,_=>by simp at h
 |p::P,w::vs,0,m,nd,h1,h2,hk=>by
  simp at h1 h2;subst h1;subst h2;show bindL q ((p,w)::P.zip vs) m p=_;unfold bindL;rw[DP fun v hv=>(nodup_cons.mp nd).1 (of_mem_zip hv).1,cq hk];simp
 |p::P,w::vs,i+1,m,nd,h1,h2,hk=>by
  show bindL q ((p,w)::P.zip vs) m x=_;unfold bindL;exact Db (i:=i) (nodup_cons.mp nd).2 (by simpa using h1) (by simpa using h2) hk
theorem FN{q:Str->Option lg}{x:Str}{v:bb}:∀{P:List Str}{vs:List bb}{i:Nat}{m:Str->Option bb},P.Nodup->P[i]?=some x->vs[i]?=some v->q x≠some .local ->
  bindC q (P.zip vs) m x=some v
 | [],_,_,_,_,h,_,_=>by simp at h
 |_::_,[],_,_,_,_,h,_=>by simp at h
 |p::P,w::vs,0,m,nd,h1,h2,hk=>by
  simp at h1 h2;subst h1;subst h2;show bindC q ((p,w)::P.zip vs) m p=_;unfold bindC;rw[DF fun v hv=>(nodup_cons.mp nd).1 (of_mem_zip hv).1,ck hk];simp
 |p::P,w::vs,i+1,m,nd,h1,h2,hk=>by
  show bindC q ((p,w)::P.zip vs) m x=_;unfold bindC;exact FN (i:=i) (nodup_cons.mp nd).2 (by simpa using h1) (by simpa using h2) hk
def start(N:List Str)(vs:List V):St:=vs.map some++bh (N.length-vs.length) none
def dQ(CX:CXT)(P:cy)(w:fq)(K:bx)(mg:Str->Option bb)(base:Heap)(N:List Str)(qual:Str)(scope:Scope)(f:Addr)(cd:bb)(A:ff)(outer:List Env)(s:bd)(H:Hp)(E:XK):Cx where
 prog:=P
 w:=w
 K:=K
 mg:=mg
 base:=base
 A:=A.deeper (qk qual scope s.heap.objs.size f cd)
 N:=N
 s₀:=s
 H₀:=H
 env:=qk qual scope s.heap.objs.size f cd
 outer:=outer
 stack:=qk qual scope s.heap.objs.size f cd::outer
 ex:=[]
 calm:=true
 fn:=fun _=>true
 pn:=[]
 xe:=fun e s'=>bn (model P w) (A.deeper (qk qual scope s.heap.objs.size f cd)) (leaving (qk qual scope s.heap.objs.size f cd) e) (fun _ s''=>CX outer H s E e s'') (fun e' s''=>CX outer H s E e' s'') s'
theorem EE{sc:Scope}{n:Nat}{x:Str}(h:sc.names.lookup x=some .cell):∃c,(cellsFrom n sc.names []).lookup x=some c:=by
 have q:=qj sc.names n [] (.inl h);exact isSome_iff_exists.mp q
theorem Je{CX:CXT}{P:cy}{w:fq}{K:bx}{mg:Str->Option bb}{base:Heap}{N ps:List Str}{qual:Str}{scope:Scope}{f:Addr}{cd:bb}{A:ff}{outer:List Env}{s s1:bd}{H:Hp}{E:XK}{us:List bb}{vs:List V}
  (S:FnScope N ps scope) (hd:A.handled=none) (e0:Env0 P w K mg base A outer s H) (hl:vs.length=ps.length) (r:Vals vs us)
  (x:InCallC s s.heap.objs.size (bindL (qk qual scope s.heap.objs.size f cd).kindOf (ps.zip us) fun _=>none) (cellsFrom (s.heap.objs.size+1) scope.names []) (bindC (qk qual scope s.heap.objs.size f cd).kindOf (ps.zip us) fun _=>none) s1):
  Inv (dQ CX P w K mg base N qual scope f cd A outer s H E) [] (start N vs) H s1:=by
 have ac:ps.length<=N.length:=by have:=congrArg List.length S.pre;rw[gz]at this;omega
 obtain⟨h1,tk,rfl,hk⟩:=x.done;have aa:∀b:Addr,b∉(dQ CX P w K mg base N qual scope f cd A outer s H E).ex:=fun b z=>absurd (show b∈([]:List Addr)from z) yv;refine⟨⟨e0.mod,S.kind,rfl,rfl,cz _,fun y z c h1 h2=>?_,fun y hy=>?_,fun y c _ h=>?_,fun _=>hd,Around.frames_deeper e0.frames,.inr ⟨rfl,rfl⟩,fun b z=>absurd z (aa b),e0.bs,e0.bsz,fun b _ _=>aa b,fun b z=>absurd z (aa b),e0.funs,e0.frf⟩,
  rfl,e0.bare,Un.kept hk,⟨_,x.toInCall.ns,fun i y v h1 h2 h3=>?_⟩,fun y c h=>⟨_,x.cell y c h⟩,e0.hok.fresh (cz _),fun y c h=>?_,fun p hp=>absurd (show p∈([]:List (Addr×Obj))from hp) yv,e0.hok.kept hk,?_⟩
 ·exact name_of_addr x.apart (PySem.mem_of_lookup h1) (PySem.mem_of_lookup h2)
 ·have hy:scope.names.lookup y=some .cell\/scope.names.lookup y=some .free:=hy;rcases hy with hy|hy
  ·exact EE hy
  ·exact absurd rfl (S.nofree _ (PySem.mem_of_lookup hy))
 ·exact jc (x.above y c (PySem.mem_of_lookup h))
 ·have hi:i<vs.length:=by
   unfold start at h2;by_cases hi:i<vs.length
   ·exact hi
   ·rw[jj (by simpa using hi)]at h2;rw[List.getElem?_replicate]at h2;split at h2<;>cases h2
  have ha:vs[i]?=some v:=by
   unfold start at h2;rw[dj (by simpa using hi),fh]at h2;cases e:vs[i]? with
   |none=>rw[e]at h2;cases h2
   |some a=>rw[e]at h2;cases h2;rfl
  obtain⟨u,hu,rv⟩:=r.get ha;have hp:ps[i]?=some y:=by
   rw[<- S.pre,List.getElem?_take_of_lt yw];exact h1
  have ab:ps.Nodup:=by rw[<- S.pre];exact S.nd.sublist (List.take_sublist _ _)
  refine⟨u,rv,?_⟩;rcases S.par y (bw hp)with k|k
  ·exact .inl ⟨k,Db ab hp hu k⟩
  ·obtain⟨c,e⟩:=EE (n:=s.heap.objs.size+1) k;refine .inr ⟨.inl k,c,e,?_⟩;have q:=x.cell y c e;rw[FN ab hp hu (by show scope.names.lookup y≠_;rw[k];decide)]at q;exact q
 ·exact e0.hok.fresh (jc (x.above y c (PySem.mem_of_lookup h)))
 ·unfold start;show _=N.length;rw[bv,bq,List.length_replicate];omega
theorem DL{CX:CXT}{P:cy}{w:fq}{K:bx}{mg:Str->Option bb}{base:Heap}{k:Nat}{f:Addr}{name qual:Str}{params:qy}{body:List Stmt}{scope:Scope}{dV kV ac pm z ct oc:bb}{an od:Option Addr}
  {osl:Array (Option bb)}{N ps:List Str}{sp:Sp} (lk:K.lookup f=some ⟨oc,od,.func (re name qual params body scope dV kV ac pm an z ct),osl⟩) (hcd:W.codeIn K z qual=true) (S:FnScope N ps scope)
  (len:∀vs H Q E,sp vs H Q E->vs.length=ps.length)
  (hbody:∀(A:ff) (outer:List Env) (s:bd) (H:Hp) (vs:List V) (Q:VK) (E:XK),Room k (A.deeper (qk qual scope s.heap.objs.size f z))->sp vs H Q E ->
   ∃t,PSs (dQ CX P w K mg base N qual scope f z A outer s H E) body t/\t { nx:=fun _ H'=>Q .non H',rt:=Q } (start N vs) H):
  FnOk P w K mg base CX (k+1) f (re name qual params body scope dV kV ac pm an z ct) ps sp:=by
 refine⟨len,fun A outer s H args us vs Q E hr e0 hb r ab=>?_⟩;have hl:=len _ _ _ _ ab;have KX:K.In s.heap:=e0.kIn;have ae:s.heap.NoLimit:=e0.mod.nolimit.keeps fun b o e=>(e0.bs b o e).1;have aa:∀y∈ps.zip us,scope.names.lookup y.1=some .local\/(scope.names.lookup y.1=some .cell/\((cellsFrom (s.heap.objs.size+1) scope.names []).lookup y.1).isSome=true):=fun⟨n,v⟩ hy=>by
  rcases S.par n (of_mem_zip hy).1 with q|q
  ·exact .inl q
  ·exact .inr ⟨q,qj _ _ _ (.inl q)⟩
 refine codeAny_call_function hr.depth (KX _ _ lk) rfl S.co S.gen rfl (W.codeRec_of KX hcd) (hb _ _ _ _ ?_);refine wpAny_newFunctionEnv_cells S.kind aa fun env he s1 x=>?_;subst he;refine⟨ae.keeps x.toInCall.keep,codeAny_func ?_⟩;obtain⟨t,ht,hq⟩:=hbody A outer s H vs Q E (hr.deeper _) ab;have I:Inv (dQ CX P w K mg base N qual scope f z A outer s H E) [] (start N vs) H s1:=Je S hr.hd e0 hl r x;refine og (ht [] s1 (start N vs) H _ I hq) (fun fl s' hs=>?_) fun e s' hs=>hs;have fin:∀{σ':St}{H':Hp}{v:V}{u:bb},Inv (dQ CX P w K mg base N qual scope f z A outer s H E) [] σ' H' s'->RelV v u->Q v H'->CE outer P w H s Q u s':=
  fun {σ' H' v u} J rv q=>⟨v,H',J.os,J.bare,J.base,J.hok,rv,q⟩
 cases fl with
 |ret u=>
  obtain⟨v,σ',H',J,rv,q⟩:=hs;exact fin J rv q
 |next=>
  obtain⟨σ',H',J,q⟩:=hs;exact fin (v:=V.non) (u:=pz) J rfl q
 |brk=>
  obtain⟨_,_,_,q⟩:=hs;exact ky q
 |cont=>
  obtain⟨_,_,_,q⟩:=hs;exact ky q
end
section
section
variable {X:Cx}{x:Str}{p pos:Pos}{e:Expr}{es:List Expr}{t:TA}{id T:String}{r:List V->Hp->VK->Prop}
def tCB(r:List V->Hp->VK->Prop)(t:TA):TE:=fun σ H Q=>t σ H fun vs H1=>r vs H1 Q
theorem zx(hc:CallR X (.builtin id) r)(hg:Gl X x)(hm:X.mg x=none)(hv:gn x=some (.builtin id))(ha:PA X (e::es) t)(hn:x ≠ "__name__":=by decide)(q:(x==("__debug__":Str))=false:=by decide)
  (he:cr (e::es) X.env=(false,eval e X.env)::cr es X.env:=by rfl) (hpl:(kx pos (cr es X.env)).any (·.1)=false:=by rfl):PE X (.Call (.Name x p) (e::es) [] pos) (tCB r t):=by
 intro zi s σ H Q I h;refine jo (e9 I hg hm hv ?_ hn q);exact PyProof.Rows.callWith_builtin1 (thn (ha pos zi s σ H _ I h) fun us s1 ⟨vs,H1,I1,r1,q1⟩=>hc zi s1 σ H1 vs us Q I1 r1 q1) he hpl
theorem kN(hc:CallR X (.type T) r)(hg:Gl X x)(hm:X.mg x=none)(hv:gn x=some (.type T))(ha:PA X (e::es) t)(hn:x ≠ "__name__":=by decide)(q:(x==("__debug__":Str))=false:=by decide)
  (he:cr (e::es) X.env=(false,eval e X.env)::cr es X.env:=by rfl) (hpl:(kx pos (cr es X.env)).any (·.1)=false:=by rfl):PE X (.Call (.Name x p) (e::es) [] pos) (tCB r t):=by
 intro zi s σ H Q I h;refine jo (e9 I hg hm hv ?_ hn q);exact gx (thn (ha pos zi s σ H _ I h) fun us s1 ⟨vs,H1,I1,r1,q1⟩=>hc zi s1 σ H1 vs us Q I1 r1 q1) he hpl
end
end
end L2
namespace HT
open PySem PyProof.Rows
def lexLt:List Int->List Int->Bool
 | [],[]=>false
 | [],_::_=>true
 |_::_,[]=>false
 |x::xs,y::ys=>if x=y then lexLt xs ys else decide (x<y)
theorem lexLt_cons(x y:Int)(xs ys:List Int):lexLt (x::xs) (y::ys)=if x=y then lexLt xs ys else decide (x<y):=rfl
theorem Ld:lexLt [] []=false:=rfl
theorem Gh(y:Int)(ys:List Int):lexLt [] (y::ys)=true:=rfl
theorem LB(x:Int)(xs:List Int):lexLt (x::xs) []=false:=rfl
theorem Ig(A:ff)(s:bd)(a:Int)(t:Tok)(c:Int)(u:Tok):∃e,SeqAt.EqAt A s (.int a t) (.int c u) e/\(e=true↔a=c):=
 ⟨(a==c),SeqAt.EqAt.int_int a t c u,yv⟩
theorem Gs(A:ff)(s:bd)(a:Int)(t:Tok)(c:Int)(u:Tok)(prog:cy)(w:fq)(E:bb->bd->Prop)(Q:bb->bd->Prop)(h:Q (.bool (decide (a<c))) s):
  bn (model prog w) A (richCompare .Lt (.int a t) (.int c u)) Q E s:=
 (PyProof.Rows.lt_int h:bn (model prog w) A (gd .Lt (.int a t) (.int c u)) Q E s)
section
open PySem.SeqAt
open PySem.AutoSeq1 (wpAny_loadPart')
open PySem.MeetsSeq PySem.MeetsSeq2 PySem.MeetsSeq3
theorem Hw(l b:Addr)(aa z:Array bb)(n n2:Nat)(dd ae:Option Addr)(sl af:Array (Option bb))(ns ms:List Int)(hi:nj aa.toList ns)(hj:nj z.toList ms):
  Meets (pj.«tuple.__lt__» ⟨[.ref l,.ref b],[]⟩)
   (fun _ R s=>s.heap.get? l=some { cls:=.type "tuple",dict:=dd,data:=.seq aa n,slots:=sl }/\s.heap.get? b=some { cls:=.type "tuple",dict:=ae,data:=.seq z n2,slots:=af } /\
    R (.ok (.ret (.bool (lexLt ns ms)))) s):=
 .of_wp fun prog w A R s h=>by
  obtain⟨hp,g,d,tk,os⟩:=s;obtain⟨hl,hb,h⟩:=h;have f2:=AutoSeq1.sub_tuple_tuple;have z1:aa.size=ns.length:=by rw[<- hi.length];simp
  have z2:z.size=ms.length:=by rw[<- hj.length];simp
  wp_walk using wpAny_loadPart' hl,wpAny_loadPart' hb,wpAny_forIn_list _ (fun rest b s'=>b.1=none/\s'=⟨hp,g,d,tk,os⟩/\∃(vs ws:List bb) (ns' ms':List Int),rest=vs.zip ws /\
   nj vs ns'/\nj ws ms'/\ns'.length+z.size=ms'.length+aa.size/\R (.ok (.ret (.bool (lexLt ns' ms')))) ⟨hp,g,d,tk,os⟩) _
  case turn=>
   rintro⟨y,x⟩ rest b s' ⟨hb',rfl,vs,ws,ns',ms',hz,hvi,hwi,hlen,hR⟩;cases hvi with
   |nil=>rw[List.zip_nil_left]at hz;cases hz
   |cons a t hvi'=>
    cases hwi with
    |nil=>rw[List.zip_nil_right]at hz;cases hz
    |cons c u hwi'=>
     rw[zip_cons_cons]at hz;injection hz with hyx hrest
     injection hyx with hy hx
     subst hy hx;rw[lexLt_cons]at hR;simp only[cw]at hlen;obtain⟨e,he,ab⟩:=Ig A.in1 ⟨hp,g,d,tk,os⟩ a t c u;refine ba (he prog w _ _ ?_);cases e with
     |true=>
      rw[cq (ab.mp rfl)]at hR
      wp_walk
      exact⟨rfl,rfl,_,_,_,_,hrest,hvi',hwi',yw,hR⟩
     |false=>
      rw[ck (fun q=>absurd (ab.mpr q) gw)]at hR;have ac:=Gs A.in1 ⟨hp,g,d,tk,os⟩ a t c u prog w
      wp_walk using ac
      exact⟨_,rfl,by simpa using hR⟩
  case fin=>
   rintro⟨b1,b2⟩ s' ⟨hb',rfl,vs,ws,ns',ms',hz,hvi,hwi,hlen,hR⟩;simp only at hb';subst hb';have hv:lexLt ns' ms'=decide (aa.size<z.size):=by
    cases hvi with
    |nil=>
     cases hwi with
     |nil=>
      simp only[qd]at hlen;rw[Ld];exact(dh yw).symm
     |cons c u hw=>
      simp only[qd,cw]at hlen;rw[Gh];exact(fe yw).symm
    |cons a t hv=>
     cases hwi with
     |nil=>
      simp only[qd,cw]at hlen;rw[LB];exact(dh yw).symm
     |cons c u hw=>
      rw[zip_cons_cons]at hz;cases hz
   rw[hv]at hR
   wp_walk
   exact⟨_,rfl,by simpa[Builtin.Tuple.tupleCompareSizes]using hR⟩
  case h=>
   exact⟨rfl,rfl,aa.toList,z.toList,ns,ms,rfl,hi,hj,yw,h⟩
end
section
variable {prog:cy}{w:fq}{A:ff}{E:bb->bd->Prop}{s:bd}
theorem lt_tupInts{l b:Addr}{z q:Array bb}{ns ms:List Int}{Q:bb->bd->Prop}(hl:IsTup s.heap l z)(hb:IsTup s.heap b q)(hi:nj z.toList ns)(hj:nj q.toList ms)
  (hu:A.units<jn) (h:Q (.bool (lexLt ns ms)) s):bn (model prog w) A (gd .Lt (.ref l) (.ref b)) Q E s:=by
 obtain⟨⟨cls,dd,data,sl⟩,ho,hc,n,hd⟩:=id hl;obtain⟨⟨ah,af,ae,ag⟩,ac,ab,n2,aa⟩:=id hb;simp only at hc hd ab aa;subst hc hd ab aa;exact richCompare_meets_room (op:=.Lt) ⟨_,ho,rfl⟩ ⟨_,ac,rfl⟩ PySem.F.slot_tuple_lt PySem.F.entry_tuple_lt (PySem.F.args_tuple_lt_2 _ _) (Hw l b z q n n2 dd af sl ag ns ms hi hj)
  ⟨ho,ac,show Value.bool (lexLt ns ms)≠Value.notImplemented/\Q (.bool (lexLt ns ms)) s from⟨(fun x=>nomatch x),h⟩⟩ hu
theorem cat_tup{t b:Addr}{vs ws:List bb}{Q:bb->bd->Prop}(ht:IsTup s.heap t vs.toArray)(hb:IsTup s.heap b ws.toArray)(hv:vs≠[])
  (h1:ws=[]->Q (.ref t) s) (h2:ws≠[]->Q (.ref s.heap.objs.size) { s with heap:=s.heap.push { cls:=.type "tuple",data:=.seq (vs++ws).toArray } })
  (hsz:vs.length+ws.length<=df):bn (model prog w) A (km .Add (.ref t) (.ref b)) Q E s:=by
 obtain⟨⟨cls,dd,data,sl⟩,ho,hc,n,hd⟩:=id ht;obtain⟨⟨af,ab,ae,ac⟩,q,aa,n2,z⟩:=id hb;simp only at hc hd aa z;subst hc hd aa z;have e:vs.toArray++ws.toArray=(vs++ws).toArray:=by simp
 by_cases hw:ws=[]
 ·exact concat_meets ⟨_,ho,rfl⟩ ⟨_,q,rfl⟩ noFill_tuple_add seq_tuple_add PySem.F.slot_tuple_add PySem.F.entry_tuple_add (PySem.F.args_tuple_add_2 _ _)
   (tuple_addW1 t b vs.toArray ws.toArray n n2 dd ab sl ac (by simpa using hv) (by simp[hw])) ⟨ho,q,h1 hw⟩
 ·refine concat_meets ⟨_,ho,rfl⟩ ⟨_,q,rfl⟩ noFill_tuple_add seq_tuple_add PySem.F.slot_tuple_add PySem.F.entry_tuple_add (PySem.F.args_tuple_add_2 _ _)
   (tuple_addW2 t b vs.toArray ws.toArray n n2 dd ab sl ac (by simpa using hv) (by simpa using hw) (by rw[dn,dn];exact hsz)) ⟨ho,q,?_⟩
  rw[e];exact h2 hw
def sIx(n d:Nat):Option Int->Nat
 |none=>d
 |some v=>if v<0 then (v+(n:Int)).toNat else min v.toNat n
theorem sIx_nat(n d k:Nat):sIx n d (some (k:Int))=min k n:=by
 show (if (k:Int)<0 then ((k:Int)+(n:Int)).toNat else min (k:Int).toNat n)=min k n;rw[ck yw,gg]
theorem Gf(n d:Nat)(hd:d<=n)(o:Option Int):sIx n d o<=n:=by
 cases o with
 |none=>exact hd
 |some v=>
  show (if v<0 then (v+(n:Int)).toNat else min v.toNat n)<=n;by_cases hv:v<0
  ·rw[cq hv];omega
  ·rw[ck hv];exact Nat.min_le_right _ _
theorem AT(v:Int)(n d:Nat):(if v<0 then max (v+(n:Int)) 0 else min v (n:Int))=((sIx n d (some v):Nat):Int):=by
 show (if v<0 then max (v+(n:Int)) 0 else min v (n:Int))=(((if v<0 then (v+(n:Int)).toNat else min v.toNat n):Nat):Int);by_cases hv:v<0
 ·simp only[cq hv];omega
 ·simp only[ck hv];omega
theorem GT(lo hi:Option Int)(n:Nat):Builtin.Slice.sliceAdjust lo hi 1 (n:Int)=(((sIx n 0 lo:Nat):Int),((sIx n n hi:Nat):Int)):=by
 have h1:¬((1:Int)<0):=yw
 unfold Builtin.Slice.sliceAdjust;simp only[h1,if_false];refine Prod.ext ?_ ?_
 ·cases lo with
  |none=>rfl
  |some v=>exact AT v n 0
 ·cases hi with
  |none=>rfl
  |some v=>exact AT v n n
theorem HJ(i j:Nat):Builtin.Slice.slicePlaces (i:Int) (j:Int) 1=j-i:=by
 unfold Builtin.Slice.slicePlaces;have h1:(1:Int)>0:=yw
 simp only[h1,if_true,Int.ediv_one];split<;>omega
theorem CT{v:bb}{o:Option Int}{Q:Option Int->bd->Prop}(p:IsPart v o)(h:Q o s):bn (model prog w) A (Builtin.Slice.slicePartIndex v) Q E s:=by
 cases p with
 |none=>exact slicePart_none h
 |int i t=>exact slicePart_int h
theorem Iw{sl:Addr}{vl vu:bb}{lo hi:Option Int}{n:Nat}{Q:Int×Int×Nat->bd->Prop}(hs:s.heap.IsSliceOf sl vl vu .none)(pl:IsPart vl lo)(pu:IsPart vu hi)
  (h:Q (((sIx n 0 lo:Nat):Int),1,sIx n n hi-sIx n 0 lo) s):bn (model prog w) A (Builtin.Slice.sliceApplied (.ref sl) (pure (n:Int))) Q E s:=by
 obtain⟨os,q,aa,z⟩:=id hs;unfold Builtin.Slice.sliceApplied Builtin.Slice.sliceFields;refine ba (ba (wpAny_field q z (x:=vl) rfl (ba (wpAny_field q z (x:=vu) rfl (ba (wpAny_field q z (x:=.none) rfl (be ?_)))))));refine ba (slicePart_none ?_);show bn _ _ (if ((1:Int)==0)=true then _ else _) _ _ s;rw[ck dz];refine ba (CT pl (ba (CT pu (ba (be ?_)))));show bn _ _ (match Builtin.Slice.sliceAdjust lo hi 1 (n:Int)with|(lo,hi)=>pure (lo,(1:Int),Builtin.Slice.slicePlaces lo hi 1)) _ _ s;rw[GT lo hi n];show bn _ _ (pure (((sIx n 0 lo:Nat):Int),(1:Int),Builtin.Slice.slicePlaces ((sIx n 0 lo:Nat):Int) ((sIx n n hi:Nat):Int) 1)) _ _ s;rw[HJ];exact be h
theorem Kj(xs:Array bb)(i k:Nat):((dm k).filterMap fun(m:Nat)=>xs[((i:Int)+(m:Int)*1).toNat]?).toArray=((xs.toList.drop i).take k).toArray:=by
 have e:(fun(m:Nat)=>xs[((i:Int)+(m:Int)*1).toNat]?)=fun m=>xs[i+m]?:=by
  funext m;have:((i:Int)+(m:Int)*1).toNat=i+m:=yw
  rw[this]
 rw[e];have:=pick_run xs i k;rw[List.filterMap_map]at this;have e2:((fun x=>xs[x]?)∘fun x=>i+x)=fun m=>xs[i+m]?:=rfl;rw[e2]at this;rw[this]
theorem getItem_tuple_cut{t sl:Addr}{z:Array bb}{vl vu:bb}{lo hi:Option Int}{Q:bb->bd->Prop}(ht:IsTup s.heap t z)(hs:s.heap.IsSliceOf sl vl vu .none)(pl:IsPart vl lo)(pu:IsPart vu hi)
  (hw:¬(sIx z.size 0 lo=0/\sIx z.size z.size hi=z.size))
  (h:Q (.ref s.heap.objs.size) { s with heap:=s.heap.push { cls:=.type "tuple",data:=.seq ((z.toList.drop (sIx z.size 0 lo)).take (sIx z.size z.size hi-sIx z.size 0 lo)).toArray } })
  (hsz:z.size<=df):bn (model prog w) A (getItem (.ref t) (.ref sl)) Q E s:=by
 have aa:sizeOk (.seq ((z.toList.drop (sIx z.size 0 lo)).take (sIx z.size z.size hi-sIx z.size 0 lo)).toArray):=by
  show ((z.toList.drop (sIx z.size 0 lo)).take (sIx z.size z.size hi-sIx z.size 0 lo)).toArray.size<=df;rw[dn,gz,qz,fg];omega
 have hj:sIx z.size z.size hi<=z.size:=Gf _ _ (cz _) hi;obtain⟨os,ae,af,ag⟩:=id hs;have ab:s.TypeIs (.ref sl) "slice":=⟨os,ae,af⟩;unfold getItem
 try with_reducible refine gu ?_
 first|refine ba (be ?_)|skip
 refine ba (wpAny_sequenceKey ht.typeIs dz ?_);refine ba (ku (name:=mr "__getitem__") ht.typeIs PyProof.Rows.slot_tuple_getitem
  (jz PyProof.Rows.slot_tuple_getitem ht.typeIs entry_tuple_getitem ?_ (args_tuple_getitem _ _)))
 show bn _ _ (Builtin.Tuple.tupleItemsOf (.ref t) >>= _) _ _ s;refine ba (tupleItemsOf_ ht ?_);refine ba (wpAny_typeOf ab ?_);rw[cq dz];refine ba (Iw hs pl pu ?_);have ac:¬((((sIx z.size 0 lo:Nat):Int)==0&&(1:Int)==1&&(sIx z.size z.size hi-sIx z.size 0 lo)==z.size)=true):=by
  intro q;rw[fu,fu]at q;have q1:((sIx z.size 0 lo:Nat):Int)=0:=eq_of_beq q.1.1;have q2:sIx z.size z.size hi-sIx z.size 0 lo=z.size:=eq_of_beq q.2;exact hw ⟨yw,yw⟩
 show bn _ _ (if (((sIx z.size 0 lo:Nat):Int)==0&&(1:Int)==1&&(sIx z.size z.size hi-sIx z.size 0 lo)==z.size)=true then _ else _) _ _ s;rw[ck ac,Kj]
 first
  |exact ba (m:=Builtin.Tuple.tupleExact _) (gh (be ⟨_,rfl,be h⟩) aa)
  |exact ba (m:=Builtin.Tuple.tupleExact _) (gh (ba (be (be ⟨_,rfl,be h⟩))) aa)
  |exact ba (ba (m:=Builtin.Tuple.tupleExact _) (gh (be (be ⟨_,rfl,be h⟩)) aa))
  |exact ba (ba (m:=Builtin.Tuple.tupleExact _) (gh (be ⟨_,rfl,be h⟩) aa))
end
end HT
namespace L2
open PySem PySem.Spec PyProof.Rows
section
abbrev TO:=St->Hp->(Option Int->Hp->Prop)->Prop
def PO(X:Cx)(e:Option Expr)(t:TO):Prop:=
 ∀(zi:List (Addr×Obj)) (s:bd) (σ:St) (H:Hp) (Q:Option Int->Hp->Prop),Inv X zi σ H s->t σ H Q ->
  bn (model X.prog X.w) X.A (evalPart e X.env) (fun u s'=>∃o H',Inv X zi σ H' s'/\IsPart u o/\Q o H') X.xe s
def Di:TO:=fun _ H Q=>Q none H
def kT(t:TE):TO:=fun σ H Q=>t σ H fun x H1=>∃i,x=.int i/\Q (some i) H1
theorem gU{ns:List Int}:∀{us:List bb},Vals (ns.map V.int) us->nj us ns:=by
 induction ns with
 |nil=>intro us r;rw[qr]at r;cases r;exact .nil
 |cons n ns ih=>
  intro us r;rw[ft]at r;cases r with
  |cons r1 r2=>
   obtain⟨t,e⟩:=r1;subst e;exact .cons n t (ih r2)
section
variable {X:Cx}{e:Expr}{te:TE}{lo hi:Option Expr}{tl th:TO}{pos p2:Pos}
theorem gW:PO X none Di:=by
 intro zi s σ H Q I h;rw[evalPart_none];exact be ⟨none,H,I,.none,h⟩
theorem fF(h:PE X e te):PO X (some e) (kT te):=by
 intro zi s σ H Q I hw;rw[evalPart_some];refine thn (h zi s σ H _ I hw) fun u s1 ⟨x,H1,I1,r1,q1⟩=>?_;obtain⟨i,rfl,q⟩:=q1;obtain⟨t,rfl⟩:=r1;exact⟨some i,H1,I1,.int i t,q⟩
def SlR(X:Cx)(r:V->Option Int->Option Int->Hp->VK->Prop):Prop:=
 ∀(zi:List (Addr×Obj)) (s:bd) (σ:St) (H:Hp) (x:V) (v vl vu:bb) (lo hi:Option Int) (sl:Addr) (Q:VK),Inv X zi σ H s->RelV x v->s.heap.IsSliceOf sl vl vu .none->IsPart vl lo->IsPart vu hi->r x lo hi H Q ->
  ∃T id,typeLookup (.type T) "__getitem__" = pure (some (.builtin id))/\s.TypeIs v T/\bn (model X.prog X.w) X.A (getItem v (.ref sl)) (EP X zi σ Q) X.xe s
theorem SlR.or{r r':V->Option Int->Option Int->Hp->VK->Prop}(h:SlR X r)(h':SlR X r'):SlR X (fun x lo hi H Q=>r x lo hi H Q\/r' x lo hi H Q):=by
 intro zi s σ H x v vl vu lo hi sl Q I rx hs pl pu q;rcases q with q|q
 ·exact h zi s σ H x v vl vu lo hi sl Q I rx hs pl pu q
 ·exact h' zi s σ H x v vl vu lo hi sl Q I rx hs pl pu q
def tSl(r:V->Option Int->Option Int->Hp->VK->Prop)(te:TE)(tl th:TO):TE:=fun σ H Q=>te σ H fun x H1=>tl σ H1 fun l H2=>th σ H2 fun u H3=>r x l u H3 Q
theorem gG{r:V->Option Int->Option Int->Hp->VK->Prop}(hr:SlR X r)(he:PE X e te)(hl:PO X lo tl)(hu:PO X hi th):PE X (.Subscript e (.Slice lo hi none p2) pos) (tSl r te tl th):=by
 intro zi s σ H Q I h;refine Subscript_ (thn (he zi s σ H _ I h) fun v s1 ⟨x,H1,I1,r1,q1⟩=>?_);refine wpAny_Slice (thn (hl zi s1 σ H1 _ I1 q1) fun vl s2 ⟨l,H2,I2,pl,q2⟩=>thn (hu zi s2 σ H2 _ I2 q2) fun vu s3 ⟨u,H3,I3,pu,q3⟩=>?_);rw[evalPart_none];refine be ?_;have I4:Inv X zi σ H3 { s3 with heap:=s3.heap.push { cls:=.type "slice",data:=.fields #[vl,vu,.none] } }:=I3.kept (t':=s3.toks) fun b ob q=>bf _ q;obtain⟨T,id,hT,ht,hg⟩:=hr zi { s3 with heap:=s3.heap.push { cls:=.type "slice",data:=.fields #[vl,vu,.none] } } σ H3 x v vl vu l u s3.heap.objs.size Q I4 r1 (Heap.IsSliceOf.new ..) pl pu q3;show bn (model X.prog X.w) X.A (subscriptTail e (.Slice lo hi none p2) v (.ref s3.heap.objs.size)) (EP X zi σ Q) X.xe { s3 with heap:=s3.heap.push { cls:=.type "slice",data:=.fields #[vl,vu,.none] } };exact tail_any (ops:=[.ref s3.heap.objs.size,v]) ht hT hg (by with_unfolding_all rfl)
def dX(xs:List V)(lo hi:Option Int):List V:=(xs.drop (HT.sIx xs.length 0 lo)).take (HT.sIx xs.length xs.length hi-HT.sIx xs.length 0 lo)
theorem xX(xs:List V)(lo hi:Option Int):(dX xs lo hi).length<=xs.length:=by
 unfold dX;rw[gz,qz];omega
def yO(K:bx):V->Option Int->Option Int->Hp->VK->Prop:=fun x lo hi H Q=>∃a xs,x=.ref a/\SqT K H a xs /\
 ¬(HT.sIx xs.length 0 lo=0/\HT.sIx xs.length xs.length hi=xs.length)/\∀p,H p=none->Q (.ref p) (upd H p (.tup (dX xs lo hi)))
theorem KJ:SlR X (yO X.K):=by
 intro zi s σ H x v vl vu lo hi sl Q I rx hs pl pu h;obtain⟨a,xs,rfl,hx,hw,q⟩:=h;cases rx;obtain⟨aa,r,ht,hz⟩:=I.tuple hx;have z:aa.toArray.size=xs.length:=by rw[dn];exact r.length.symm
 refine⟨"tuple",_,PyProof.Rows.slot_tuple_getitem.lookup,ht.typeIs,?_⟩;refine HT.getItem_tuple_cut ht hs pl pu (by rw[z];exact hw) ?_ (by rw[z];exact hz);rw[z];refine⟨.ref s.heap.objs.size,_,I.laid (t':=s.toks) (o:=.tup (dX xs lo hi)) (fun b ob q=>bf _ q) (cz _) ?_,rfl,q _ (I.hok.fresh (cz _))⟩;exact⟨⟨fv (xX xs lo hi) hz,_,cj _ rfl,rfl,I.kpNew⟩,_,(r.drop (HT.sIx xs.length 0 lo)).take (HT.sIx xs.length xs.length hi-HT.sIx xs.length 0 lo),IsTup.new _ _⟩
def yJ(K:bx):R2:=fun x y H Q=>∃a b xs ys,x=.ref a/\y=.ref b/\SqT K H a xs/\SqT K H b ys/\xs≠[]/\xs.length+ys.length<=df /\
 (ys=[]->Q (.ref a) H)/\(ys≠[]->∀p,H p=none->Q (.ref p) (upd H p (.tup (xs++ys))))
theorem Vals.nil_iff{xs:List V}{us:List bb}(r:Vals xs us):us=[]↔xs=[]:=by
 cases r with
 |nil=>simp
 |cons _ _=>simp
theorem GD:OpR X (km .Add) (yJ X.K):=by
 intro zi s σ H x y v u Q I rx ry h;obtain⟨a,b,xs,ys,rfl,rfl,ha,hb,hx,hz,q1,q2⟩:=h;cases rx;cases ry;obtain⟨ab,r1,p1,_⟩:=I.tuple ha;obtain⟨aa,r2,p2,_⟩:=I.tuple hb;refine HT.cat_tup p1 p2 (fun z=>hx (r1.nil_iff.mp z)) (fun z=>⟨.ref a,H,I,rfl,q1 (r2.nil_iff.mp z)⟩) (fun z=>?_) (by rw[<- r1.length,<- r2.length];exact hz);refine⟨.ref s.heap.objs.size,_,I.laid (t':=s.toks) (o:=.tup (xs++ys)) (fun b ob q=>bf _ q) (cz _) ?_,rfl,q2 (fun w=>z (r2.nil_iff.mpr w)) _ (I.hok.fresh (cz _))⟩;exact⟨⟨by rw[bv];exact hz,_,cj _ rfl,rfl,I.kpNew⟩,_,r1.append r2,IsTup.new _ _⟩
end
end
section
def ixN(n:Nat)(i:Int):Option Nat:=if 0<=i then (if i<n then some i.toNat else none)else if -(n:Int)<=i then some (i+n).toNat else none
def atI{α:Type}(xs:List α)(i:Int):Option α:=(ixN xs.length i).bind fun j=>xs[j]?
theorem Bq{n:Nat}{i:Int}{j:Nat}(h:ixN n i=some j):seqIndex? i n=some j/\j<n/\-(n:Int)<=i/\i<n:=by
 unfold ixN at h;by_cases h0:0<=i
 ·rw[cq h0]at h;by_cases h1:i<n
  ·rw[cq h1]at h;have e:i.toNat=j:=gb h;exact⟨by rw[seqIndex_of h0 h1,e],yw,yw,h1⟩
  ·rw[ck h1]at h;cases h
 ·rw[ck h0]at h;by_cases h1:-(n:Int)<=i
  ·rw[cq h1]at h;have e:(i+n).toNat=j:=gb h;exact⟨by rw[seqIndex_neg yw h1,e],yw,h1,yw⟩
  ·rw[ck h1]at h;cases h
theorem AK{α:Type}{xs:List α}{i:Int}{v:α}(h:atI xs i=some v):∃j,seqIndex? i xs.length=some j/\xs[j]?=some v/\j<xs.length/\-(xs.length:Int)<=i/\i<xs.length:=by
 unfold atI at h;cases e:ixN xs.length i with
 |none=>rw[e]at h;cases h
 |some j=>
  rw[e]at h;obtain⟨h1,h2,h3,h4⟩:=Bq e;exact⟨j,h1,h,h2,h3,h4⟩
theorem fR{α:Type}{xs:List α}{j:Nat}{v:α}(h:xs[j]?=some v):atI xs (j:Int)=some v:=by
 have hj:j<xs.length:=(List.getElem?_eq_some_iff.mp h).1;have e:ixN xs.length (j:Int)=some j:=by
  unfold ixN;rw[cq yw,cq yw];simp
 unfold atI;rw[e];exact h
def PlainIx(b:Expr):Prop:=∀o i,subscripted b false o i=operate [o,i] (getItem o i)
def IxR(X:Cx)(r:R2):Prop:=
 ∀(value slice:Expr) (zi:List (Addr×Obj)) (s:bd) (σ:St) (H:Hp) (x y:V) (v u:bb) (Q:VK),Inv X zi σ H s->RelV x v->RelV y u->r x y H Q ->
  subscripted slice false v u=operate [v,u] (getItem v u)->bn (model X.prog X.w) X.A (subscriptTail value slice v u) (EP X zi σ Q) X.xe s
def MtR(X:Cx)(id:String)(r:V->List V->Hp->VK->Prop):Prop:=
 ∀(zi:List (Addr×Obj)) (s:bd) (σ:St) (H:Hp) (x:V) (xs:List V) (v:bb) (us:List bb) (Q:VK),Inv X zi σ H s->RelV x v->Vals xs us->r x xs H Q ->
  bn (model X.prog X.w) X.A (call (.builtin id) (v::us)) (EP X zi σ Q) X.xe s
section
variable {X:Cx}{a b:Expr}{ta tb:TE}{pos:Pos}
theorem IxR.or{r r':R2}(h:IxR X r)(h':IxR X r'):IxR X (fun x y H Q=>r x y H Q\/r' x y H Q):=by
 intro value z zi s σ H x y v u Q I rx ry q hs;rcases q with q|q
 ·exact h value z zi s σ H x y v u Q I rx ry q hs
 ·exact h' value z zi s σ H x y v u Q I rx ry q hs
theorem zp{r:R2}(hr:IxR X r)(ha:PE X a ta)(hb:PE X b tb)(hs:PlainIx b):PE X (.Subscript a b pos) (tOp r ta tb):=by
 intro zi s σ H Q I h;exact Subscript_ (wH ha hb I h fun v u s2 x y H2 I2 rx ry q=>hr a b zi s2 σ H2 x y v u Q I2 rx ry q (hs _ _))
def v8(K:bx):R2:=fun x y H Q=>∃p xs i v,x=.ref p/\y=.int i/\SqL K H p xs/\atI xs i=some v/\Q v H
def xE(K:bx):R2:=fun x y H Q=>∃p xs i v,x=.ref p/\y=.int i/\SqT K H p xs/\atI xs i=some v/\Q v H
def yD:R2:=fun x y H Q=>∃z i c,x=.str z/\y=.int i/\z.length<=df/\atI z.cps.toList i=some c/\Q (.str ⟨#[c]⟩) H
theorem DV:IxR X (v8 X.K):=by
 intro value ac zi s σ H x y v u Q I rx ry h hs;obtain⟨p,xs,i,z,rfl,rfl,hq,he,q⟩:=h;cases rx;obtain⟨t,rfl⟩:=ry;obtain⟨ab,r,pl,hz⟩:=I.list hq;obtain⟨j,h1,h2,h3,h4,h5⟩:=AK he;obtain⟨w,ew,aa⟩:=r.get h2;have hl:=r.length;have hn:=line63;have fin:EP X zi σ Q w s:=⟨z,H,I,aa,q⟩;by_cases h0:0<=i
 ·have hj:i.toNat=j:=by
   rw[seqIndex_of h0 h5]at h1;exact gb h1
  exact item_listR pl.isList h0 yw (by rw[hj];simpa using ew) fin hs
 ·have hj:(i+(ab.toArray.size:Int)).toNat=j:=by
   rw[seqIndex_neg yw h4]at h1;rw[dn,<- hl];exact gb h1
  exact subscriptTail_builtinR (x:=w) pl.isList.typeIs slot_list_getitem.lookup
   (wpAny_getItem_list_neg (Q:=fun r s'=>r=w/\EP X zi σ Q r s') pl.isList yw (by rw[dn]<;>omega) yw (by rw[hj];simpa using ew) ⟨rfl,fin⟩) hs
theorem HF:IxR X (xE X.K):=by
 intro value ab zi s σ H x y v u Q I rx ry h hs;obtain⟨p,xs,i,z,rfl,rfl,hq,he,q⟩:=h;cases rx;obtain⟨t,rfl⟩:=ry;obtain⟨ac,r,pl,hz⟩:=I.tuple hq;obtain⟨j,h1,h2,h3,h4,h5⟩:=AK he;obtain⟨w,ew,aa⟩:=r.get h2;have hl:=r.length;have hn:=line63;have fin:EP X zi σ Q w s:=⟨z,H,I,aa,q⟩;exact subscriptTail_builtinR (x:=w) pl.typeIs slot_tuple_getitem.lookup
  (getItem_tuple (j:=j) (Q:=fun r s'=>r=w/\EP X zi σ Q r s') pl yw yw (by rw[dn,<- hl];exact h1) (by simpa using ew) ⟨rfl,fin⟩) hs
theorem Ft:IxR X yD:=by
 intro value aa zi s σ H x y v u Q I rx ry h hs;obtain⟨z,i,c,rfl,rfl,hz,he,q⟩:=h;obtain⟨t,rfl⟩:=rx;obtain⟨t',rfl⟩:=ry;obtain⟨j,h1,h2,h3,h4,h5⟩:=AK he;have hl:z.cps.toList.length=z.length:=by simp[Str.length]
 rw[hl]at h1 h4 h5;have hn:=line63;exact tail_any (typeIs_str s z t) slot_str_getitem.lookup (getItem_str (c:=c) (by
  have e1:decide (i < -(2 ^ 63:Int))=false:=dh yw;have e2:decide (i≥2 ^ 63)=false:=dh yw;rw[e1,e2,Bool.or_false]) (by rw[h1];simpa using h2) ⟨.str ⟨#[c]⟩,H,I.tok _,⟨_,rfl⟩,q⟩) hs
def rIx(K:bx):R2:=fun x y H Q=>v8 K x y H Q\/xE K x y H Q\/yD x y H Q
theorem zn:IxR X (rIx X.K):=DV.or (HF.or Ft)
theorem Ih(q:List bb)(n j:Nat)(u:bb):gi (·.setIfInBounds j u) { cls:=.type "list",data:=.seq q.toArray n } = { cls:=.type "list",data:=.seq (q.set j u).toArray n }:=by
 simp[gi]
theorem Inv.lst{zi:List (Addr×Obj)}{σ:St}{H:Hp}{s:bd}{p:Addr}{xs:List V}(I:Inv X zi σ H s)(h:H p=some (.lst xs)):
  ∃(q:List bb) (n:Nat),Vals xs q/\s.heap.get? p=some { cls:=.type "list",data:=.seq q.toArray n }/\xs.length<=df:=by
 obtain⟨z,q,n,r,e⟩:=I.hok p _ h;exact⟨q,n,r,e,z⟩
theorem Inv.lstUpd{zi:List (Addr×Obj)}{σ:St}{H:Hp}{s:bd}{p:Addr}{xs ys:List V}{z its':List bb}{n n':Nat}{f:Obj->Obj}(I:Inv X zi σ H s)(h:H p=some (.lst xs))
  (ho:s.heap.get? p=some { cls:=.type "list",data:=.seq z.toArray n }) (hf:f { cls:=.type "list",data:=.seq z.toArray n } = { cls:=.type "list",data:=.seq its'.toArray n' }) (r:Vals ys its') (hz:ys.length<=df) (t:Nat):
  Inv X zi σ (upd H p (.lst ys)) { s with heap:=s.heap.update p f,toks:=t }:=by
 have e:(s.heap.update p f).get? p=some { cls:=.type "list",data:=.seq its'.toArray n' }:=by
  rw[ke f ho (by rw[hf]<;>rfl),hf]
 refine I.write (x:=p) (e:=p) (by rw[h];trivial) (.inl rfl) (fun b u hb q=>(gp _ _ (ic hb)).trans q) ⟨_,e⟩ ?_;exact⟨hz,its',n',r,e⟩
def Cp:V->V->V->Hp->(Hp->Prop)->Prop:=fun o i v H Q=>∃p xs k j,o=.ref p/\i=.int k/\H p=some (.lst xs)/\ixN xs.length k=some j/\Q (upd H p (.lst (xs.set j v)))
theorem Ae:PSet X Cp:=by
 intro zi s σ H o i v ov iv u Q I ro ri rv h;obtain⟨p,xs,k,j,rfl,rfl,hp,hj,q⟩:=h;cases ro;obtain⟨t,rfl⟩:=ri;obtain⟨z,n,r,ho,hz⟩:=I.lst hp;obtain⟨h1,h2,h3,h4⟩:=Bq hj;have hl:=r.length;have hn:=line63;have I':Inv X zi σ (upd H p (.lst (xs.set j v))) { s with heap:=s.heap.update p (gi (·.setIfInBounds j u)) } :=
  I.lstUpd hp ho (Ih z n j u) (r.set rv j) (by rw[ie];exact hz) s.toks
 by_cases h0:0<=k
 ·have hk:k.toNat=j:=by
   rw[seqIndex_of h0 h4]at h1;exact gb h1
  exact W.ki_setAt ho h0 yw (by rw[dn,<- hl];exact h4) (by rw[hk];exact⟨_,I',q⟩)
 ·have hk:(k+(z.toArray.size:Int)).toNat=j:=by
   rw[seqIndex_neg yw h3]at h1;rw[dn,<- hl];exact gb h1
  exact W.ki_setBack ho yw (by rw[dn,<- hl];exact h3) yw (by rw[hk];exact⟨_,I',q⟩)
theorem GI(lo hi:Option Int)(n:Nat):(ra lo hi none n).1=((HT.sIx n 0 lo:Nat):Int)/\(ra lo hi none n).2.1=((HT.sIx n n hi:Nat):Int)/\(ra lo hi none n).2.2=1:=by
 refine⟨?_,?_,rfl⟩
 ·cases lo with
  |none=>simp[ra,HT.sIx]
  |some i=>
   simp only[ra,HT.sIx,Option.getD_none,show (1:Int)>0 by decide,if_true];by_cases h:i<0
   ·simp only[h,if_true]<;>omega
   ·simp only[h,if_false]<;>omega
 ·cases hi with
  |none=>simp[ra,HT.sIx]
  |some i=>
   simp only[ra,HT.sIx,Option.getD_none,show (1:Int)>0 by decide,if_true];by_cases h:i<0
   ·simp only[h,if_true]<;>omega
   ·simp only[h,if_false]<;>omega
theorem JD(q:List bb)(lo hi:Option Int):slicePick q.toArray lo hi none=((q.drop (HT.sIx q.length 0 lo)).take (HT.sIx q.length q.length hi-HT.sIx q.length 0 lo)).toArray:=by
 obtain⟨h1,h2,h3⟩:=GI lo hi q.toArray.size;unfold slicePick;rw[h1,h2,h3];simp only[sliceRange_one,pick_run,dn]<;>rfl
def oT(K:bx):V->Option Int->Option Int->Hp->VK->Prop:=fun x lo hi H Q=>∃a xs,x=.ref a/\SqL K H a xs/\∀p,H p=none->Q (.ref p) (upd H p (.lst (dX xs lo hi)))
theorem Bl:SlR X (oT X.K):=by
 intro zi s σ H x v vl vu lo hi sl Q I rx hs pl pu h;obtain⟨a,xs,rfl,hx,q⟩:=h;cases rx;obtain⟨aa,r,ht,hz⟩:=I.list hx;have z:=r.length;refine⟨"list",_,slot_list_getitem.lookup,ht.isList.typeIs,?_⟩;refine wpAny_getItem_list_slice ht.isList hs pl pu .none yv ?_ (by rw[dn]<;>omega);rw[JD,<- z];refine⟨.ref s.heap.objs.size,_,I.laid (t':=s.toks) (o:=.lst (dX xs lo hi)) (fun b ob q=>bf _ q) (cz _) ?_,rfl,q _ (I.hok.fresh (cz _))⟩;exact⟨fv (xX xs lo hi) hz,_,0,(r.drop (HT.sIx xs.length 0 lo)).take (HT.sIx xs.length xs.length hi-HT.sIx xs.length 0 lo),cj _ rfl⟩
theorem Ev:CallR X (.builtin "len") (fun xs H Q=>∃p ys,xs=[.ref p]/\(SqL X.K H p ys\/SqT X.K H p ys)/\Q (.int ys.length) H):=by
 intro zi s σ H xs us Q I r h;obtain⟨p,ys,rfl,hq,q⟩:=h;obtain⟨u,rfl,rx⟩:=vals1 r;cases rx;have hn:=line63;rcases hq with hq|hq
 ·obtain⟨aa,r',pl,hz⟩:=I.list hq;have z:=r'.length;exact Calls.call_len_list pl.isList (by simp only[dn]<;>omega) ⟨.int ys.length,H,I.tok _,⟨s.toks+1,by rw[dn,z]⟩,q⟩
 ·obtain⟨aa,r',pl,hz⟩:=I.tuple hq;have z:=r'.length;exact len_tuple pl (by simp only[dn]<;>omega) ⟨.int ys.length,H,I.tok _,⟨s.toks+1,by rw[dn,z]⟩,q⟩
theorem IV:CallR X (.builtin "len") (fun xs H Q=>∃z,xs=[.str z]/\z.length<=df/\Q (.int z.length) H):=by
 intro zi s σ H xs us Q I r h;obtain⟨z,rfl,hz,q⟩:=h;obtain⟨u,rfl,t,rfl⟩:=vals1 r;have hn:=line63;exact len_str yw ⟨.int z.length,H,I.tok _,⟨_,rfl⟩,q⟩
theorem CallR.or{f:bb}{r r':List V->Hp->VK->Prop}(h:CallR X f r)(h':CallR X f r'):CallR X f (fun xs H Q=>r xs H Q\/r' xs H Q):=by
 intro zi s σ H xs us Q I rs q;rcases q with q|q
 ·exact h zi s σ H xs us Q I rs q
 ·exact h' zi s σ H xs us Q I rs q
theorem sK:CallR X (.type "tuple") (fun xs H Q=>∃p ys,xs=[.ref p]/\((SqL X.K H p ys/\∀l,H l=none->Q (.ref l) (upd H l (.tup ys)))\/(SqT X.K H p ys/\Q (.ref p) H))):=by
 intro zi s σ H xs us Q I r h;obtain⟨p,ys,rfl,h⟩:=h;obtain⟨u,rfl,rx⟩:=vals1 r;cases rx;rcases h with ⟨hq,q⟩|⟨hq,q⟩
 ·obtain⟨z,r',pl,hz⟩:=I.list hq;have aa:=r'.length;refine call_tuple_list pl.isList (fun h' kp=>?_) (by simp only[dn]<;>omega);have I1:Inv X zi σ H { s with heap:=h' }:=I.kept (t':=s.toks) kp;have I2:Inv X zi σ (upd H h'.objs.size (.tup ys)) { s with heap:=h'.push { cls:=.type "tuple",data:=.seq z.toArray } } :=
   I1.laid (t':=s.toks) (fun b o e=>bf _ e) (cz _) (show ObjOk X.prog X.w _ _ _ (.tup ys)from⟨⟨hz,_,cj _ rfl,rfl,I1.kpNew⟩,z,r',IsTup.new _ _⟩)
  exact⟨.ref h'.objs.size,_,I2,rfl,q _ (I1.hok.fresh (cz _))⟩
 ·obtain⟨z,r',pl,hz⟩:=I.tuple hq;exact call_tuple_same pl ⟨.ref p,H,I,rfl,q⟩
def tyV(K:bx)(T:String)(x:V)(H:Hp):Prop:=match x with
 | .str _=>T = "str"
 | .int _=>T = "int"
 | .ref p=>(T = "list"/\∃xs,SqL K H p xs)\/(T = "tuple"/\∃o,K.lookup p=some o/\o.cls=.type "tuple"/\o.dict=none) \/
   (T = "dict"/\((∃kvs,H p=some (.dK kvs))\/∃kvs,H p=some (.dT kvs)))\/(T = "set"/\∃S n,H p=some (.set S n))
 |_=>False
theorem DB{zi:List (Addr×Obj)}{σ:St}{H:Hp}{s:bd}{T:String}{x:V}{v:bb}(I:Inv X zi σ H s)(r:RelV x v)(ty:tyV X.K T x H):
  s.TypeIs v T/\∀a,v=.ref a->∃ob,s.heap.get? a=some ob/\ob.dict=none:=by
 cases x with
 |str z=>
  obtain⟨t,rfl⟩:=r;cases (show T = "str" from ty);exact⟨typeIs_str s z t,fun _ e=>nomatch e⟩
 |int i=>
  obtain⟨t,rfl⟩:=r;cases (show T = "int" from ty);exact⟨typeIs_int s i t,fun _ e=>nomatch e⟩
 |ref p=>
  cases r;rcases ty with ⟨rfl,xs,hq⟩|⟨rfl,o,hk,hc,hd⟩|⟨rfl,hk⟩|⟨rfl,S,n,hk⟩
  ·obtain⟨q,_,pl,_⟩:=I.list hq;refine⟨pl.isList.typeIs,fun a e=>?_⟩;cases e;obtain⟨o,n,e,c,hd,_⟩:=pl;exact⟨o,e,hd⟩
  ·refine⟨⟨o,I.kIn p o hk,hc⟩,fun a e=>?_⟩;cases e;exact⟨o,I.kIn _ o hk,hd⟩
  ·have z:∃o,s.heap.get? p=some o/\o.ExactDict:=by
    rcases hk with ⟨kvs,hk⟩|⟨kvs,hk⟩
    ·obtain⟨_,_,_,_,o,_,_,e,ex,_⟩:=I.hok p _ hk;exact⟨o,e,ex⟩
    ·obtain⟨_,_,_,_,o,_,_,e,ex,_⟩:=I.hok p _ hk;exact⟨o,e,ex⟩
   obtain⟨o,e,ex⟩:=z;refine⟨⟨o,e,ex.1⟩,fun a e2=>?_⟩;cases e2;exact⟨o,e,ex.2.1⟩
  ·obtain⟨o,_,_,_,e,ex,_⟩:=I.hok p _ hk;refine⟨⟨o,e,ex.1⟩,fun a e2=>?_⟩;cases e2;exact⟨o,e,ex.2.1⟩
 |_=>exact ky ty
def Cz(K:bx)(T:String)(r:V->List V->Hp->VK->Prop)(to:TE):TE:=fun σ H Q=>to σ H fun x H1=>tyV K T x H1/\r x [] H1 Q
def tBM(K:bx)(T:String)(r:V->List V->Hp->VK->Prop)(to:TE)(t:TA):TE:=fun σ H Q=>to σ H fun x H1=>tyV K T x H1/\t σ H1 fun xs H2=>r x xs H2 Q
variable {o e:Expr}{es:List Expr}{to:TE}{t:TA}{name:Str}{apos cpos:Pos}{T id:String}{r:V->List V->Hp->VK->Prop}
theorem yX(pa:PlainAttrs T)(slot:Slot T name id)(q:typeOf (.builtin id)=pure (.type "method_descriptor"))(hm:MtR X id r)(ho:PE X o to)
  (hbase:qm o name X.env (eval o X.env)=eval o X.env:=by rfl) (hline:(apos.endLine==cpos.line)=true:=by rfl):PE X (.Call (.Attribute o name apos) [] [] cpos) (Cz X.K T r to):=by
 intro zi s σ H Q I h;refine wpAny_Call_method0_late hbase hline (thn (ho zi s σ H _ I h) fun v s1 ⟨x,H1,I1,r1,ty,q1⟩=>?_);obtain⟨h1,h2⟩:=DB I1 r1 ty;exact⟨T,id,pa,slot,q,h1,h2,Calls.callWith_builtin rfl (PySem.evalArgs_none (hm zi s1 σ H1 x [] v [] Q I1 r1 .nil q1))⟩
theorem e8(pa:PlainAttrs T)(slot:Slot T name id)(q:typeOf (.builtin id)=pure (.type "method_descriptor"))(hm:MtR X id r)(ho:PE X o to)(ha:PA X (e::es) t)
  (hbase:qm o name X.env (eval o X.env)=eval o X.env:=by rfl)
  (hfew:((kx cpos (cr (e::es) X.env)).all (fun x=>!x.1)&&(backToKw cpos (keywordEach [] X.env)).all (fun x=>x.1.isSome)
   && decide ((e::es).length+([]:List Keyword).length+(if ([]:List Keyword).isEmpty then 0 else 1)<30))=true:=by rfl)
  (hline:(apos.endLine==cpos.line)=true:=by rfl) (hs:cr (e::es) X.env=(false,eval e X.env)::cr es X.env:=by rfl) (hplain:(kx cpos (cr es X.env)).any (·.1)=false:=by rfl):
  PE X (.Call (.Attribute o name apos) (e::es) [] cpos) (tBM X.K T r to t):=by
 intro zi s σ H Q I h;refine wpAny_Call_method_late hbase hfew hline rfl (thn (ho zi s σ H _ I h) fun v s1 ⟨x,H1,I1,r1,ty,q1⟩=>?_);obtain⟨h1,h2⟩:=DB I1 r1 ty;refine⟨T,id,pa,slot,q,h1,h2,?_⟩;have hA:=ha cpos zi s1 σ H1 _ I1 q1;rw[hs]at hA ⊢;refine Calls.callWith_builtin (by show (false||(kx cpos (cr es X.env)).any (·.1))=false;rw[hplain]<;>rfl) (Calls.evalArgs_plain ?_);exact thn hA fun us s2 ⟨vs,H2,I2,r2,q2⟩=>hm zi s2 σ H2 x vs v us Q I2 r1 r2 q2
end
end
section
def MtM(X:Cx)(id:String)(r:V->List V->Hp->VK->Prop):Prop:=
 ∀(zi:List (Addr×Obj)) (s:bd) (σ:St) (H:Hp) (x:V) (xs:List V) (v:bb) (us:List bb) (Q:VK),Inv X zi σ H s->RelV x v->Vals xs us->r x xs H Q ->
  bn (model X.prog X.w) X.A (call (.builtin id) (v::us)) (EP X zi σ Q) X.xe s
theorem Vals.one:∀{x:V}{us:List bb},Vals [x] us->∃u,us=[u]/\RelV x u
 |_,_,.cons r .nil=>⟨_,rfl,r⟩
theorem Vals.zero:∀{us:List bb},Vals [] us->us=[]
 |_,.nil=>rfl
theorem Vals.dropLast{xs:List V}{us:List bb}(h:Vals xs us):Vals xs.dropLast us.dropLast:=by
 induction h with
 |nil=>exact .nil
 |cons r t ih=>
  cases t with
  |nil=>exact .nil
  |cons q t'=>exact .cons r ih
theorem Vals.reverse{xs:List V}{us:List bb}(h:Vals xs us):Vals xs.reverse us.reverse:=by
 induction h with
 |nil=>exact .nil
 |cons r t ih=>rw[reverse_cons,reverse_cons];exact Vals.append ih (.cons r .nil)
theorem Vals.rep{xs:List V}{us:List bb}(h:Vals xs us):∀k:Nat,Vals (bh k xs).flatten (bh k us).flatten
 | 0=>.nil
 |k+1=>by
  rw[nr,nr,flatten_cons,flatten_cons];exact Vals.append h (Vals.rep h k)
theorem K5{α:Type}(l:List α):l.eraseIdx (l.length-1)=l.dropLast:=by
 induction l with
 |nil=>rfl
 |cons a r ih=>
  cases r with
  |nil=>rfl
  |cons b r=>
   have e:(a::b::r).length-1=((b::r).length-1)+1:=by
    have h1:(a::b::r).length=r.length+2:=rfl;have h2:(b::r).length=r.length+1:=rfl;omega
   rw[e,List.eraseIdx_cons_succ,ih]
   all_goals rfl
theorem BX(q:List bb):∀(k:Nat) (acc:List bb),
  List.foldl (fun x1 x2=>x1++x2) acc.toArray (bh k q.toArray)=(acc++(bh k q).flatten).toArray
 | 0,acc=>by simp
 |k+1,acc=>by
  have e:acc.toArray++q.toArray=(acc++q).toArray:=by simp
  have e2:(acc++q)++(bh k q).flatten=acc++(bh (k+1) q).flatten:=by
   rw[nr,flatten_cons,ja]
  rw[<- e2,<- BX q k (acc++q),<- e,nr,qx]
section
variable {X:Cx}{zi:List (Addr×Obj)}{σ:St}{H:Hp}{s:bd}{l b:Addr}{xs ys zs:List V}
theorem Inv.lset{z its':List bb}{n:Nat}{f:Array bb->Array bb}{t':Nat}(I:Inv X zi σ H s)(hH:H l=some (.lst xs))
  (e:s.heap.get? l=some { cls:=.type "list",data:=.seq z.toArray n }) (hf:f z.toArray=its'.toArray) (hv:Vals ys its') (hz:ys.length<=df):
  Inv X zi σ (upd H l (.lst ys)) { s with heap:=s.heap.update l (gi f),toks:=t' }:=by
 have q:=PySem.IsL.update e f;rw[hf]at q;refine I.write (x:=l) (e:=l) (by rw[hH];exact trivial) (.inl rfl) (fun b' u hb hu=>(gp s.heap (gi f) (ic hb)).trans hu) ⟨_,q⟩ ?_;exact⟨hz,its',_,hv,q⟩
theorem Inv.lnew{z:List bb}{t':Nat}(I:Inv X zi σ H s)(hv:Vals ys z)(hz:ys.length<=df):
  Inv X zi σ (upd H s.heap.objs.size (.lst ys)) { s with heap:=s.heap.push { cls:=.type "list",data:=.seq z.toArray },toks:=t' } :=
 I.laid (fun _ _ q=>bf _ q) (cz _) ⟨hz,z,0,hv,cj _ rfl⟩
theorem Inv.fresh(I:Inv X zi σ H s):H s.heap.objs.size=none:=I.hok.fresh (cz _)
theorem Inv.lstM(I:Inv X zi σ H s)(hH:H l=some (.lst xs)):xs.length<=df/\∃(q:List bb) (n:Nat),Vals xs q/\xs.length=q.length/\s.heap.get? l=some { cls:=.type "list",data:=.seq q.toArray n }:=by
 obtain⟨z,q,n,r,e⟩:=I.hok l _ hH;exact⟨z,q,n,r,r.length,e⟩
theorem EO{n:Nat}(h:n<=df):Builtin.List.listTooLong n=false:=by
 unfold Builtin.List.listTooLong;exact dh yw
end
section
variable {X:Cx}
def EW:V->List V->Hp->VK->Prop:=fun x vs H Q=>∃l xs y,x=.ref l/\vs=[y]/\H l=some (.lst xs)/\xs.length<df/\Q .non (upd H l (.lst (xs++[y])))
theorem j4:MtM X "list.append" EW:=by
 intro zi s σ H x vs v us Q I rx rv h;obtain⟨l,xs,y,rfl,rfl,hH,hz,q⟩:=h;cases rx;obtain⟨u,rfl,ru⟩:=rv.one;obtain⟨z,aa,n,r,hl,e⟩:=I.lstM hH;refine call_meets F.slot_list_append ⟨_,e,rfl⟩ F.entry_list_append (F.args_list_append_2 _ _) (PySem.list_append l aa.toArray n u (by rw[dn];omega)) ⟨e,?_⟩;refine⟨.non,_,I.lset (its':=aa++[u]) hH e yv (r.append (.cons ru .nil)) ?_,rfl,q⟩;rw[bv,fi];omega
def CF:V->List V->Hp->VK->Prop:=fun x vs H Q=>∃l b xs zs,x=.ref l/\vs=[.ref b]/\H l=some (.lst xs)/\H b=some (.lst zs)/\xs.length+zs.length<=df/\Q .non (upd H l (.lst (xs++zs)))
theorem u9:MtM X "list.extend" CF:=by
 intro zi s σ H x vs v us Q I rx rv h;obtain⟨l,b,xs,zs,rfl,rfl,hH,hB,hz,q⟩:=h;cases rx;obtain⟨u,rfl,ru⟩:=rv.one;cases ru;obtain⟨z,ab,n,r,hl,e⟩:=I.lstM hH;obtain⟨z2,aa,n2,r2,ae,e2⟩:=I.lstM hB;have hsz:ab.toArray.size+aa.toArray.size<=df:=by rw[dn,dn];omega
 have ac:¬(!ab.toArray.isEmpty&&Builtin.List.listTooLong (ab.toArray.size+aa.toArray.size))=true:=by
  rw[EO hsz,Bool.and_false];exact gw
 refine call_meets F.slot_list_extend ⟨_,e,rfl⟩ F.entry_list_extend (F.args_list_extend_2 _ _)
  (AutoSeq1.list_extend_list_list_0 l ab.toArray n b aa.toArray n2 ac (by rw[dn];omega) yw) ⟨e,e2,?_⟩
 refine⟨.non,_,I.lset (its':=ab++aa) hH e yv (r.append r2) ?_,rfl,q⟩;rw[bv];omega
def Al:V->List V->Hp->VK->Prop:=fun x vs H Q=>∃l xs y,x=.ref l/\vs=[]/\H l=some (.lst xs)/\xs[xs.length-1]?=some y/\Q y (upd H l (.lst xs.dropLast))
theorem AR:MtM X "list.pop" Al:=by
 intro zi s σ H x vs v us Q I rx rv h;obtain⟨l,xs,y,rfl,rfl,hH,hy,q⟩:=h;cases rx;have ab:=rv.zero;subst ab;obtain⟨z,aa,n,r,hl,e⟩:=I.lstM hH;obtain⟨u,hu,ru⟩:=r.get hy;have ac:aa.toArray[aa.toArray.size-1]?=some u:=by
  show aa.toArray[aa.length-1]?=some u;rw[<- ox,<- hl];exact hu
 refine call_meets F.slot_list_pop ⟨_,e,rfl⟩ F.entry_list_pop (F.args_list_pop_1 _) (MeetsSeq.list_pop_last l aa.toArray n u ac (by rw[dn];omega)) ⟨e,?_⟩;refine⟨y,_,I.lset (its':=aa.dropLast) hH e ?_ r.dropLast ?_,ru,q⟩
 ·show aa.toArray.eraseIdxIfInBounds (aa.toArray.size-1)=aa.dropLast.toArray;rw[dn,List.eraseIdxIfInBounds_toArray,K5]
 ·rw[List.length_dropLast];omega
def Cm:V->List V->Hp->VK->Prop:=fun x vs H Q=>∃l xs,x=.ref l/\vs=[]/\H l=some (.lst xs)/\Q .non (upd H l (.lst xs.reverse))
theorem Lh:MtM X "list.reverse" Cm:=by
 intro zi s σ H x vs v us Q I rx rv h;obtain⟨l,xs,rfl,rfl,hH,q⟩:=h;cases rx;have ab:=rv.zero;subst ab;obtain⟨z,aa,n,r,hl,e⟩:=I.lstM hH;refine call_meets F.slot_list_reverse ⟨_,e,rfl⟩ F.entry_list_reverse (F.args_list_reverse_1 _) (AutoSeq1.list_reverse_list_0 l aa.toArray n (by rw[dn];omega)) ⟨e,?_⟩;refine⟨.non,_,I.lset (its':=aa.reverse) hH e yv r.reverse ?_,rfl,q⟩;rw[List.length_reverse];omega
def kK:R2:=fun x y H Q=>∃l b xs zs,x=.ref l/\y=.ref b/\H l=some (.lst xs)/\H b=some (.lst zs)/\xs.length+zs.length<=df/\∀p,H p=none->Q (.ref p) (upd H p (.lst (xs++zs)))
theorem yE:OpR X (km .Add) kK:=by
 intro zi s σ H x y v u Q I rx ry h;obtain⟨l,b,xs,zs,rfl,rfl,hH,hB,hz,q⟩:=h;cases rx;cases ry;obtain⟨z,ab,n,r,hl,e⟩:=I.lstM hH;obtain⟨z2,aa,n2,r2,ac,e2⟩:=I.lstM hB;refine PySem.P.add_list e e2 ?_ (by rw[dn,dn];omega);have ea:ab.toArray++aa.toArray=(ab++aa).toArray:=by simp
 rw[ea];exact⟨.ref _,_,I.lnew (t':=s.toks) (r.append r2) (by rw[bv];omega),rfl,q _ I.fresh⟩
def At:R2:=fun x y H Q=>∃l k xs,x=.ref l/\y=.int k/\H l=some (.lst xs)/\-(2 ^ 63)<=k/\k<2 ^ 63/\xs.length*k.toNat<=df /\
 ∀p,H p=none->Q (.ref p) (upd H p (.lst (bh k.toNat xs).flatten))
theorem HG{α:Type}(xs:List α)(k:Nat):(bh k xs).flatten.length=k*xs.length:=by
 induction k with
 |zero=>simp
 |succ k ih=>rw[nr,flatten_cons,bv,ih,succ_mul,Nat.add_comm]
theorem Lw:OpR X (km .Mult) At:=by
 intro zi s σ H x y v u Q I rx ry h;obtain⟨l,k,xs,rfl,rfl,hH,h1,h2,hz,q⟩:=h;cases rx;obtain⟨t,rfl⟩:=ry;obtain⟨z,aa,n,r,hl,e⟩:=I.lstM hH;have ac:aa.toArray.size*k.toNat<=df:=by rw[dn,<- hl];exact hz
 have ag:¬ aa.toArray.size*k.toNat>(2 ^ 63-1)/8:=by
  have:(df:Nat)<=(2 ^ 63-1)/8:=by decide
  omega
 have ae:¬(!Builtin.List.listFitsIndex k)=true:=by
  rw[fitsIndex_both h1 h2];exact gw
 have ab:¬ Builtin.List.listTooLong (aa.toArray.size*k.toNat)=true:=by
  rw[EO ac];exact gw
 have af:List.foldl (fun x1 x2=>x1++x2) #[] (bh (if aa.toArray.isEmpty=true then 0 else k.toNat) aa.toArray)=(bh k.toNat aa).flatten.toArray:=by
  have f0:∀m:Nat,List.foldl (fun x1 x2=>x1++x2) #[] (bh m aa.toArray)=(bh m aa).flatten.toArray:=fun m=>by
   have:=BX aa m [];rw[nil_append]at this;exact this
  rw[f0];cases aa with
  |nil=>simp
  |cons a r'=>rw[ck yv]
 refine wpAny_binaryOp_repeat_ref (T:="list") (U:="int") dz ⟨_,e,rfl⟩ (fun s'=>typeIs_int s' k t) noFill_list_mul F.fills_int_mul F.slot_int_rmul repeat_list F.slot_int_index.lookup
  (call_meets F.slot_int_rmul (typeIs_int s k t) F.entry_int_rmul (F.args_int_rmul_2 _ _) (int___rmul___int_list k t l aa.toArray n)
   ⟨e,rfl,⟨_,e,rfl⟩,call_meets F.slot_list_mul ⟨_,e,rfl⟩ F.entry_list_mul (F.args_list_mul_2 _ _) (AutoListH.list___mul___list_int_3 l aa.toArray n k t ae ag ab) ⟨e,?_⟩⟩)
 rw[af];exact⟨.ref _,_,I.lnew (t':=s.toks) (r.rep k.toNat) (by rw[HG,mul_comm];exact hz),rfl,q _ I.fresh⟩
end
end
section
section
variable {X:Cx}{zi:List (Addr×Obj)}{σ:St}{H:Hp}{s:bd}{a:Addr}{y v:V}{u r:bb}{o:Option V}{A:ff}{E:bb->bd->Prop}
theorem Inv.big(I:Inv X zi σ H s):qv<s.heap.objs.size:=by
 have h:ii<s.heap.objs.size:=(I.mod.glob.keeps I.bk).lt;exact lt_trans dz h
theorem LO{h':Heap}{t':Nat}{ob:HO}(I:Inv X zi σ H s)(mu:Mut (H a))(hs:ij a s.heap h')(he:∃q,h'.get? a=some q)(aa:ObjOk X.prog X.w (upd H a ob) h' a ob):
  Inv X zi σ (upd H a ob) { s with heap:=h',toks:=t' } :=
 I.write (x:=a) (e:=a) mu (.inl rfl) (fun b q hb z=>(hs.2 b hb).trans z) he aa
end
def NoSl(i:Expr):Prop:=∀ov iv,subscripted i false ov iv=operate [ov,iv] (getItem ov iv)
theorem Fv{prog:cy}{w:fq}{A:ff}{E:bb->bd->Prop}{s:bd}{env:Env}{value q:Expr}{pos:Pos}{T id:String}{Q:bb->bd->Prop}
  (hl:typeLookup (.type T) "__getitem__" = pure (some (.builtin id))) (hs:NoSl q)
  (h:bn (model prog w) A (eval value env) (fun o s₁=>bn (model prog w) A (eval q env) (fun i s₂=>s₂.TypeIs o T/\bn (model prog w) A (getItem o i) Q E s₂) E s₁) E s):
  bn (model prog w) A (eval (.Subscript value q pos) env) Q E s:=by
 refine Subscript_ (og h (fun o s₁ h₁=>og h₁ (fun i s₂ h₂=>?_) fun _ _ x=>x) fun _ _ x=>x);obtain⟨hT,h₂⟩:=h₂;unfold subscriptTail;refine ba ?_;rw[getitemInPython_of_ne hT.not_modules];refine ba (wpAny_specialOf hT hl ?_);have fin:bn (model prog w) A (subscripted q false o i) (fun r s₃=>bn (model prog w) A (letTemporaryGo value o r >>= fun _=>pure r) Q E s₃) E s₂:=by
  rw[hs o i];exact wpAny_operating (og h₂ (fun r s₃ h₃=>ba (wpAny_letTemporaryGo (be h₃))) fun _ _ x=>x)
 first
  |exact be (ba fin)
  |exact ba (be (ba fin))
  |exact ba fin
structure M1(X:Cx)(o:Expr)(m:Str)(apos:Pos)(e:Expr)(cpos:Pos):Prop where
 base:qm o m X.env (eval o X.env)=eval o X.env
 few:((kx cpos (cr [e] X.env)).all (fun x=>!x.1)&&(backToKw cpos (keywordEach [] X.env)).all (fun x=>x.1.isSome)
  && decide (([e]:List Expr).length+([]:List Keyword).length+(if ([]:List Keyword).isEmpty then 0 else 1)<30))=true
 line:(apos.endLine==cpos.line)=true
 trees:kx cpos (cr [e] X.env)=[(false,eval e X.env)]
structure M2(X:Cx)(o:Expr)(m:Str)(apos:Pos)(e f:Expr)(cpos:Pos):Prop where
 base:qm o m X.env (eval o X.env)=eval o X.env
 few:((kx cpos (cr [e,f] X.env)).all (fun x=>!x.1)&&(backToKw cpos (keywordEach [] X.env)).all (fun x=>x.1.isSome)
  && decide (([e,f]:List Expr).length+([]:List Keyword).length+(if ([]:List Keyword).isEmpty then 0 else 1)<30))=true
 line:(apos.endLine==cpos.line)=true
 trees:kx cpos (cr [e,f] X.env)=[(false,eval e X.env),(false,eval f X.env)]
def obO(a:Addr)(ob:Obj):HO:=.ext fun h=>h.get? a=some ob
end
end L2
namespace Att
open PySem PySem.W PySem.Calls PyProof.Rows
theorem HZ{P:Params}{h:Heap}:∀(ns:List Int) (vs:List bb),WellAll P h vs (ns.map WData.int)->nj vs ns:=by
 intro ns;induction ns with
 |nil=>
  intro vs w;rw[qr]at w;cases w;exact .nil
 |cons n ns ih=>
  intro vs w;rw[ft]at w;cases w with
  |cons a b=>
   cases a;exact .cons _ _ (ih _ b)
theorem Iy{l:OpenLaw}{n:Nat}(hn:l.most=some n){P:Params}{h:Heap}{args:List WData}{z:List bb}
  (hpre:l.row.toRowW.claim.pre args=true) (hwl:WellAll P h z args):
  ∃a vs ns,z=[fb a]/\args=[WData.list (ns.map WData.int)]/\h.get? a=some { cls:=.type "list",data:=.seq vs.toArray }/\nj vs ns/\ns.length<=n:=by
 have ab:WShape.hasAll [] args [.list .int]=true:=(pre_splitW hpre).1;have hc:l.pre.holds [] { args:=args } = true:=(pre_splitW hpre).2;obtain⟨d,r,rfl,h1,h2⟩:=hasAllW_cons ab;obtain rfl:=hasAllW_nil h2;obtain⟨xs,rfl,h3⟩:=hasW_list h1;obtain⟨ns,rfl⟩:=items_int h3;have aa:ns.length<=n:=by
  unfold OpenLaw.pre at hc;have h4:(WTm.not (.lt (.lit (.int (n:Int))) (.len (.arg 0)))).holds [] { args:=[.list (ns.map .int)] } = true:=by
   have h4:=(holds_andW hc).1;rw[hn]at h4;exact h4
  have h5:=condW_of h4 (w_not (w_lt w_lit (w_len_list (w_arg rfl))));rw[bq]at h5;refine Nat.le_of_not_lt fun q=>?_;have q':(n:Int)<((ns.length:Nat):Int):=yw
  first
   | (rw[fe q']at h5;exact absurd h5 dz)
   | (simp at h5;omega)
 cases hwl with
 |cons w1 w2=>
  cases w2;cases w1 with
  |list ho hall=>exact⟨_,_,ns,rfl,rfl,ho,HZ ns _ hall,aa⟩
theorem IU(l:OpenLaw)(args:List WData):l.row.toRowW.claim.post args (.bool true) args=true:=
 postW_of (r:=l.row.toRowW) (X:=(true==true))
  (show WShape.has [] (.bool true) .bool=true by first|rfl|decide|simp[WShape.has,WShape.arms,WShape.armsAll])
  (show (WTm.eq .res (.lit (.bool true))).value [] { args:=args,res:=some (.bool true),after:=args } = some (.bool (true==true))from w_eq_bool (w_res rfl) w_lit) rfl
theorem attach_call{l:OpenLaw}{n:Nat}{q:cy}{z:List Str}{XP:(Str->Option bb)->Heap->Prop}{YP:fq->Heap->Prop}{d:DefRec}
  (hn:l.most=some n) (hdf:d.params.defaults=[])
  (call:∀(w:fq) (s₀ s₁:bd) (mg mb:Str->Option bb) (fa:Addr) (o:Obj) (pm cd ab:bb) (a:Addr) (vs:List bb) (ns:List Int),
   Ground q z [] XP w s₀ mg mb s₁.heap->YP w s₁.heap ->
   s₁.heap.get? fa=some o->o.data=.func (docDef d.name d.params d.body d.scope pm cd ab)->s₁.heap.CodeRec cd d.name->mg d.name=some (.ref fa) ->
   s₁.heap.get? a=some { cls:=.type "list",data:=.seq vs.toArray }->nj vs ns->ns.length<=n->s₁.gens = #[] ->
   kl (model l.prog w) callerA (.call (.ref fa) ⟨[.ref a],[]⟩) (fun r s'=>r=.ok (.ret (.bool true))/\OldK s₁.heap s'.heap/\s'.os=s₁.os/\AllBare s'.gens) s₁):
  WalkO q z XP YP l.row.toRowW d [] (fun f vs=>PySem.call f vs):=by
 intro w s₀ s₁ mg mb G Y fa o pm cd ab dV kV ho hd ah hD ai hg args aj as af ak am ag al;obtain rfl:dV=.none:=Dflts.none hD hdf;obtain rfl:kV=.none:=Dflts.noKw hD;obtain⟨a,vs,ns,rfl,rfl,ae,aa,ac⟩:=Iy hn af ag;refine enter_call (oh (call w s₀ s₁ mg mb fa o pm cd ab a vs ns G Y ho (fd_plain hd) ah ai ae aa ac hg) fun r s' hq=>?_);obtain⟨rfl,h2,h3,h4⟩:=hq;exact⟨.inl ⟨.bool true,.bool true,[],rfl,fun _=>rfl,.bool true,IU l _,fun _=>⟨List.Pairwise.nil,fun _ hm=>(nomatch hm)⟩⟩,h2,h3,h4⟩
end Att
namespace L2
open PySem PySem.Spec PyProof.Rows
section
theorem AF:∀{vs:List bb}{ns:List Int},nj vs ns->Vals (ns.map V.int) vs
 |_,_,.nil=>.nil
 |_,_,.cons n t h=>.cons ⟨t,rfl⟩ (AF h)
def Only(H:Hp):Prop:=∀b,H b=none\/(∃o xs,H b=some (.frz o (.lst xs)))\/(∃q∈tabsG,q.1.2=b/\H b=some (.tbl q.2))\/∃q∈keepG,q.1.1=b/\H b=some (.tup [.str q.2])
def jU(b:Addr):Option HO:=(tabsG.find? fun q=>q.1.2==b).map fun q=>.tbl q.2
theorem Eg{b:Addr}{u:HO}(e:jU b=some u):∃q∈tabsG,q.1.2=b/\u=.tbl q.2:=by
 unfold jU at e;cases h:tabsG.find? fun q=>q.1.2==b with
 |none=>rw[h]at e;cases e
 |some q=>
  rw[h]at e;cases e;exact⟨q,mz h,by simpa using find?_some h,rfl⟩
theorem ID{l:List ((Addr×Addr)×Array bb)}(nd:(l.map fun q=>q.1.2).Nodup){q:(Addr×Addr)×Array bb}(h:q∈l):l.find? (fun r=>r.1.2==q.1.2)=some q:=by
 induction l with
 |nil=>cases h
 |cons p l ih=>
  rw[ft,nodup_cons]at nd;rcases mem_cons.mp h with e|e
  ·subst e;simp
  ·have ne:¬ p.1.2=q.1.2:=fun z=>nd.1 (by rw[z];exact List.mem_map_of_mem (f:=fun q:(Addr×Addr)×Array bb=>q.1.2) e);rw[List.find?_cons_of_neg (by simpa using ne)];exact ih nd.2 e
theorem HB(nd:(tabsG.map fun q=>q.1.2).Nodup){q:(Addr×Addr)×Array bb}(h:q∈tabsG):jU q.1.2=some (.tbl q.2):=by
 unfold jU;rw[ID nd h];rfl
def cZ(b:Addr):Option HO:=match jU b with
 |some u=>some u
 |none=>(keepG.find? fun q=>q.1.1==b).map fun q=>.tup [.str q.2]
theorem j8{b:Addr}{u:HO}(e:cZ b=some u):(∃q∈tabsG,q.1.2=b/\u=.tbl q.2)\/∃q∈keepG,q.1.1=b/\u=.tup [.str q.2]:=by
 unfold cZ at e;cases ht:jU b with
 |some v=>rw[ht]at e;cases e;exact .inl (Eg ht)
 |none=>
  rw[ht]at e;cases h:keepG.find? fun q=>q.1.1==b with
  |none=>simp[h]at e
  |some q=>
   simp[h]at e;exact .inr ⟨q,mz h,by simpa using find?_some h,e.symm⟩
theorem BQ{l:List ((Addr×Obj)×Str)}(nd:(l.map fun q=>q.1.1).Nodup){q r:(Addr×Obj)×Str}(h:q∈l)(h':r∈l)(e:r.1.1=q.1.1):r=q:=by
 induction l with
 |nil=>cases h
 |cons p l ih=>
  rw[ft,nodup_cons]at nd;rcases mem_cons.mp h with e1|e1
  ·rcases mem_cons.mp h' with e2|e2
   ·rw[e1,e2]
   ·exact absurd (by rw[<- e1,<- e];exact List.mem_map_of_mem (f:=fun q:(Addr×Obj)×Str=>q.1.1) e2) nd.1
  ·rcases mem_cons.mp h' with e2|e2
   ·exact absurd (by rw[<- e2,e];exact List.mem_map_of_mem (f:=fun q:(Addr×Obj)×Str=>q.1.1) e1) nd.1
   ·exact ih nd.2 e1 e2
structure TabsOk(K:bx)(h:Heap):Prop where
 nd:(tabsG.map fun q=>q.1.2).Nodup
 hd:∀q∈tabsG,W.CodeHd h q.1.1 q.1.2
 empty:∀q∈tabsG,h.get? q.1.2=some (W.tabObj #[])
 off:∀q∈tabsG,K.lookup q.1.2=none
 knd:(keepG.map fun q=>q.1.1).Nodup
 kk:∀q∈keepG,K.lookup q.1.1=some q.1.2/\q.1.2.cls=.type "tuple"/\q.1.2.dict=none/\∃t n,q.1.2.data=.seq #[.str q.2 t] n
theorem C6{K:bx}{h:Heap}(TT:TabsOk K h){q:(Addr×Addr)×Array bb}(m:q∈tabsG):cZ q.1.2=some (.tbl q.2):=by
 unfold cZ;rw[HB TT.nd m]
theorem BU{K:bx}{h:Heap}(TT:TabsOk K h){q:(Addr×Obj)×Str}(m:q∈keepG):cZ q.1.1=some (.tup [.str q.2]):=by
 unfold cZ;cases ht:jU q.1.1 with
 |some v=>
  obtain⟨r,hr,e,_⟩:=Eg ht;have:=TT.off r hr;rw[e,(TT.kk q m).1]at this;cases this
 |none=>
  cases hf:keepG.find? fun r=>r.1.1==q.1.1 with
  |none=>exact absurd (List.find?_eq_none.mp hf q m) yv
  |some r=>
   have:=BQ TT.knd m (mz hf) (by simpa using find?_some hf);subst this;rfl
theorem GC{P:cy}{w:fq}{K:bx}{mg mb:Str->Option bb}{CX:CXT}{k:Nat}{fa a:Addr}{fd:ou}{x:Str}{sp:Sp}{s₁:bd}{vs:List bb}{ns:List Int}
  (KX:K.In s₁.heap) (TT:TabsOk K s₁.heap) (hbm:BltAt s₁.heap mg) (hns:s₁.heap.Ns ii mg) (hb:s₁.heap.Ns builtinsNs mb) (hbb:∀x:Str,x ≠ "__name__"->mb x=gn x) (hlim:s₁.heap.NoLimit) (hg:s₁.gens = #[])
  (ha:s₁.heap.get? a=some { cls:=.type "list",data:=.seq vs.toArray }) (hi:nj vs ns) (hl:ns.length<=df) (hr:Room k callerA)
  (F:∀base:Heap,KInW K base->base.Ns ii mg->FnOk P w K mg base CX k fa fd [x] sp) (hbind:∀(s:bd) (u:bb),BindsTo s fd ⟨[u],[]⟩ [(x,u)])
  (hsp:∀H:Hp,Only H->SqL K H a (ns.map V.int)->sp [.ref a] H (fun v _=>v=.bl true) fun _ _ _=>False)
  (hCX:∀H e s',CX [] H s₁ (fun _ _ _=>False) e s'->False):
  kl (model P w) callerA (.call (.ref fa) ⟨[.ref a],[]⟩) (fun r s'=>r=.ok (.ret (.bool true))/\OldK s₁.heap s'.heap/\s'.os=s₁.os/\AllBare s'.gens) s₁:=by
 have rv:=AF hi;have af:=hi.length
 have ae:∀H:Hp,Only H->SqL K H a (ns.map V.int)->HOk P w H s₁.heap->(∀b,H b≠none->b=a\/(∃q∈tabsG,q.1.2=b)\/∃q∈keepG,q.1.1=b)->(H a≠none->K.lookup a=none)->(∀q∈tabsG,H q.1.2=some (.tbl q.2))->(∀q∈keepG,H q.1.1=some (.tup [.str q.2])) ->
   kl (model P w) callerA (.call (.ref fa) ⟨[.ref a],[]⟩) (fun r s'=>r=.ok (.ret (.bool true))/\OldK s₁.heap s'.heap/\s'.os=s₁.os/\AllBare s'.gens) s₁:=by
  intro H hO hS hok hA hK ak an;have ai:∀{b:Addr}{o:Obj},s₁.heap.get? b=some o->o.cls≠.type "list"->o.cls≠.none->o.cls≠.type "tuple"->H b=none:=fun {b o} e c1 c2 c3=>by
   cases q:H b with
   |none=>rfl
   |some u=>
    rcases hA b (by rw[q];simp)with e'|⟨r,hr',e'⟩|⟨r,hr',e'⟩
    ·subst e';rw[ha]at e;cases e;exact absurd rfl c1
    ·have:=TT.empty r hr';rw[e',e]at this;cases this;exact absurd rfl c2
    ·have:=KX _ _ (TT.kk r hr').1;rw[e',e]at this;cases this;exact absurd (TT.kk r hr').2.1 c3
  have aa:∀{b:Addr}{o:Obj},s₁.heap.get? b=some o->H b=none->(fS s₁.heap H).get? b=some o:=fun e n=>K0 e n;have am:∀{b:Addr}{o:Obj}{es:Array DictEntry}{ep:Nat},s₁.heap.get? b=some o->o.data=.dict es ep->H b=none:=fun {b o es ep} e d=>by
   cases q:H b with
   |none=>rfl
   |some u=>
    rcases hA b (by rw[q];simp)with e'|⟨r,hr',e'⟩|⟨r,hr',e'⟩
    ·subst e';rw[ha]at e;cases e;have d':Data.seq vs.toArray _=Data.dict es ep:=d;cases d'
    ·have:=TT.empty r hr';rw[e',e]at this;cases this;cases d
    ·have:=KX _ _ (TT.kk r hr').1;rw[e',e]at this;cases this;obtain⟨t,n,dd⟩:=(TT.kk r hr').2.2.2;rw[d]at dd;cases dd
  have ac:∀{b:Addr}{m:Str->Option bb},s₁.heap.Ns b m->(fS s₁.heap H).Ns b m:=fun {b m} ⟨o,es,ep,e,d,r⟩=>⟨o,es,ep,aa e (am e d),d,r⟩;have aj:KInW K (fS s₁.heap H):=fun b o e=>by
   cases q:H b with
   |none=>exact .inl (aa (KX b o e) q)
   |some u=>
    rcases hA b (by rw[q];simp)with e'|⟨r,hr',e'⟩|⟨r,hr',e'⟩
    ·subst e';rw[hK (by rw[q];simp)]at e;cases e
    ·rw[<- e',TT.off r hr']at e;cases e
    ·refine .inr ⟨r,hr',?_⟩;subst e';rw[(TT.kk r hr').1]at e;cases e;rfl
  have hM:Mod K mg (fS s₁.heap H):=⟨aj,ac hns,⟨mb,ac hb,hbb⟩,let ⟨mc,h1,h2⟩:=hlim;⟨mc,ac h1,h2⟩,
   let ⟨bm,ob,b1,b2,b3,b4,b5⟩:=hbm;⟨bm,ob,b1,b2,aa b3 (ai b3 (by rw[b4];decide) (by rw[b4];decide) (by rw[b4];decide)),b4,b5⟩,
   fun q hq=>let ⟨o,vs,file,tf,flags,tg,inF,text,tt,e1,c1,r⟩:=TT.hd q hq;⟨o,vs,file,tf,flags,tg,inF,text,tt,aa e1 (ai e1 (by rw[c1];decide) (by rw[c1];decide) (by rw[c1];decide)),c1,r⟩⟩
  have e0:Env0 P w K mg (fS s₁.heap H) callerA [] s₁ H:=⟨rfl,hM,fun b o e=>HC e,le_of_eq (LN _ _),trivial,⟨fun b hb=>absurd (show b∈([]:List Addr)from hb) yv,ak,an⟩,hok,.of_eq hg⟩;refine oh ((F _ aj (ac hns)).run callerA [] s₁ H ⟨[.ref a],[]⟩ [.ref a] [.ref a] _ _ hr e0 (hbind s₁ (.ref a)) (.cons rfl .nil) (hsp H hO hS)) fun r s' h=>?_;cases r with
  |error e=>exact(hCX H e s' h).elim
  |ok fl=>
   cases fl with
   |next=>exact ky h
   |brk=>exact ky h
   |cont=>exact ky h
   |ret u=>
    obtain⟨v,H',os,bare,un,ab,r',q⟩:=h;have q':v=.bl true:=q;subst q';obtain rfl:u=Value.bool true:=r';have all:∀b o,s₁.heap.get? b=some o->s'.heap.get? b=some o\/∃q∈tabsG,q.1.2=b/\o=W.tabObj #[]/\∃ps,s'.heap.get? b=some (W.tabObj ps):=fun b o e=>by
     cases q:H b with
     |none=>exact .inl (un.keep b o e q (by intro z;exact absurd (show b∈([]:List Addr)from z) yv) yv)
     |some u=>
      rcases hO b with z|⟨ob,xs,z⟩|⟨r,hr',e',z⟩|⟨r,hr',e',z⟩
      ·rw[q]at z;cases z
      ·have z2:=un.frzs b ob _ z;obtain⟨e1,_⟩:=hok b _ z;obtain⟨e2,_⟩:=ab b _ z2;rw[e]at e1;cases e1;exact .inl e2
      ·obtain⟨qs,e2,_⟩:=ab b _ (un.tbls b _ z);have:=TT.empty r hr';rw[e',e]at this;cases this;exact .inr ⟨r,hr',e',rfl,qs,e2⟩
      ·obtain⟨⟨_,o2,e2,_,k2⟩,_⟩:=(show ObjOk P w H' s'.heap b (.tup [.str r.2])from ab b _ (un.tups b _ z));have:=KX _ _ (TT.kk r hr').1;rw[e',e]at this;cases this;rw[k2 r hr' e']at e2;exact .inl e2
    refine⟨rfl,⟨fun b o e=>?_,fun b o e=>?_⟩,os,bare⟩
    ·rcases all b o e with z|⟨r,hr',rfl,rfl,ps,z⟩
     ·exact .inl z
     ·exact .inr (.inl ⟨((TT.hd r hr').tab (TT.empty r hr')).isCodeTable,rfl,#[],ps,rfl,by rw[Array.empty_append];exact z⟩)
    ·rcases all b o e with z|⟨r,hr',rfl,rfl,ps,z⟩
     ·exact⟨o,z⟩
     ·exact⟨_,z⟩
 have ah:∀q∈tabsG,q.1.2≠a:=fun q hq z=>by
  have:=TT.empty q hq;rw[z,ha]at this;cases this
 have ag:∀q∈keepG,q.1.1≠a:=fun q hq z=>by
  have:=KX _ _ (TT.kk q hq).1;rw[z,ha]at this;have c:=(TT.kk q hq).2.1;rw[<- gb this]at c;exact absurd (show qa "list" = qa "tuple" from c) dz
 have al:∀(H:Hp) (b:Addr) (u:HO),cZ b=some u->ObjOk P w H s₁.heap b u:=fun H b u z=>by
  rcases j8 z with ⟨q,hq,rfl,rfl⟩|⟨q,hq,rfl,rfl⟩
  ·exact⟨#[],TT.empty q hq,.inl rfl⟩
  ·obtain⟨k1,k2,k3,t,n,k4⟩:=TT.kk q hq;exact⟨⟨by show 1<=df;decide,_,KX _ _ k1,k3,fun r hr e=>by rw[BQ TT.knd hq hr e]⟩,[.str q.2 t],.cons ⟨t,rfl⟩ .nil,_,KX _ _ k1,k2,n,k4⟩
 cases hk:K.lookup a with
 |some o=>
  have e:=KX a o hk;rw[ha]at e;cases e;refine ae cZ (fun b=>?_) (.inr ⟨_,vs.toArray,_,hk,rfl,rfl,rfl,by rw[dn,af];exact hl,by simpa using rv⟩) (al cZ) (fun b z=>?_) (fun z=>?_) (fun q hq=>C6 TT hq) fun q hq=>BU TT hq
  ·cases q:cZ b with
   |none=>exact .inl rfl
   |some u=>
    rcases j8 q with ⟨r,hr',e',rfl⟩|⟨r,hr',e',rfl⟩
    ·exact .inr (.inr (.inl ⟨r,hr',e',rfl⟩))
    ·exact .inr (.inr (.inr ⟨r,hr',e',rfl⟩))
  ·cases q:cZ b with
   |none=>exact absurd q z
   |some u=>
    rcases j8 q with ⟨r,hr',e',rfl⟩|⟨r,hr',e',rfl⟩
    ·exact .inr (.inl ⟨r,hr',e'⟩)
    ·exact .inr (.inr ⟨r,hr',e'⟩)
  ·cases q:cZ a with
   |none=>exact absurd q z
   |some u=>
    rcases j8 q with ⟨r,hr',e',rfl⟩|⟨r,hr',e',rfl⟩
    ·exact absurd e' (ah r hr')
    ·exact absurd e' (ag r hr')
 |none=>
  refine ae (fun b=>if b=a then some (.frz { cls:=.type "list",data:=.seq vs.toArray } (.lst (ns.map V.int)))else cZ b) (fun b=>?_) (.inl (.inr ⟨{ cls:=.type "list",data:=.seq vs.toArray },cq rfl⟩)) (fun b u z=>?_) (fun b z=>?_) (fun _=>hk) (fun q hq=>(ck (ah q hq)).trans (C6 TT hq)) fun q hq=>(ck (ag q hq)).trans (BU TT hq)
  ·by_cases hb:b=a
   ·exact .inr (.inl ⟨_,_,cq hb⟩)
   ·cases q:cZ b with
    |none=>exact .inl ((ck hb).trans q)
    |some u=>
     rcases j8 q with ⟨r,hr',e',rfl⟩|⟨r,hr',e',rfl⟩
     ·exact .inr (.inr (.inl ⟨r,hr',e',(ck hb).trans q⟩))
     ·exact .inr (.inr (.inr ⟨r,hr',e',(ck hb).trans q⟩))
  ·by_cases hb:b=a
   ·have z':=(cq hb).symm.trans z;cases z';subst hb;exact⟨ha,by rw[bq];exact hl,vs,_,rv,ha⟩
   ·have z':=(ck hb).symm.trans z;exact al _ b u z'
  ·by_cases hb:b=a
   ·exact .inl hb
   ·cases q:cZ b with
    |none=>exact absurd ((ck hb).trans q) z
    |some u=>
     rcases j8 q with ⟨r,hr',e',rfl⟩|⟨r,hr',e',rfl⟩
     ·exact .inr (.inl ⟨r,hr',e'⟩)
     ·exact .inr (.inr ⟨r,hr',e'⟩)
end
section
abbrev KOf {K:bx}{h:Heap} (_:K.In h):bx:=K
theorem walk_of{l:W.OpenLaw}{n k:Nat}{q:cy}{ab:List Str}{XP:(Str->Option bb)->Heap->Prop}{YP:fq->Heap->Prop}{d:DefRec}{K:Params->bx}{CX:fq->CXT}{sp:fq->Sp}{x:Str}
  (hn:l.most=some n) (hn2:n<=df) (hdf:d.params.defaults=[]) (hr:Room k callerA)
  (hY:∀(w:fq) (h:Heap),YP w h->(K w.params).In h)
  (hT:∀(w:fq) (h:Heap),YP w h->TabsOk (K w.params) h)
  (F:∀(w:fq) (mg:Str->Option bb) (fa:Addr) (h:Heap),(K w.params).In h->h.Ns ii mg->mg d.name=some (.ref fa) ->
   ∃fd:ou,(∀(s:bd) (u:bb),BindsTo s fd ⟨[u],[]⟩ [(x,u)]) /\
    ∀base:Heap,KInW (K w.params) base->base.Ns ii mg->FnOk l.prog w (K w.params) mg base (CX w) k fa fd [x] (sp w))
  (hsp:∀(w:fq) (H:Hp) (a:Addr) (ns:List Int),ns.length<=n->Only H->SqL (K w.params) H a (ns.map V.int)->sp w [.ref a] H (fun v _=>v=.bl true) fun _ _ _=>False)
  (hCX:∀(w:fq) (H:Hp) (s:bd) (e:bb) (s':bd),CX w [] H s (fun _ _ _=>False) e s'->False):
  W.WalkO q ab XP YP l.row.toRowW d [] (fun f vs=>PySem.call f vs):=by
 refine Att.attach_call hn hdf fun w s₀ s₁ mg mb fa o pm cd af a vs ns G Y ho hd ag ae ac aa z hg=>?_;have KX:=hY w _ Y;obtain⟨fd,hb,hF⟩:=F w mg fa _ KX G.T.g ae;exact GC KX (hT w _ Y) (let ⟨bm,ob,a1,a2,a3,a4,a5,a6⟩:=G.T.bmain;⟨bm,ob,a1,a2,a3,a4,a5,a6⟩) G.T.g G.T.b G.T.builtins G.T.nolimit hg ac aa (fv z hn2) hr hF hb (fun H hO hS=>hsp w H a ns z hO hS) fun H e s'=>hCX w H s₁ e s'
end
section
def sZ(s:Stmt)(j:Nat):Stmt:=match s with
 | .ClassDef _ _ _ body _ _ _ _ _ _ _=>body.getD j (.Pass ⟨0,0,0,0⟩)
 |_=>.Pass ⟨0,0,0,0⟩
def dY(s:Stmt):qy:=match s with
 | .FunctionDef _ a _ _ _ _ _ _ _ _=>a
 |_=>{ posonlyargs:=[],args:=[],vararg:=none,kwonlyargs:=[],kw_defaults:=[],kwarg:=none,defaults:=[] }
def bP(s:Stmt):List Stmt:=match s with
 | .FunctionDef _ _ b _ _ _ _ _ _ _=>b
 |_=>[]
def zh(s:Stmt):Scope:=match s with
 | .FunctionDef _ _ _ _ _ _ sc _ _ _=>sc
 |_=>{ kind:=.function,names:=[],isGenerator:=false,isCoroutine:=false }
abbrev CX0:CXT:=fun _ _ _ _ _ _=>False
abbrev E0:XK:=fun _ _ _=>False
theorem pass0{X:Cx}:Passes CX0 X E0:=fun _ _ _ _ _ _ _ h=>h.elim
structure Fun(K:bx)(x qual:Str)(st:Stmt)(f:Addr)(fd:ou):Prop where
 ex:∃(oc:bb) (od:Option Addr) (kV doc pm:bb) (an:Option Addr) (cdv ct:bb) (osl:Array (Option bb)),
  fd=re x qual (dY st) (bP st) (zh st) .none kV doc pm an cdv ct/\K.lookup f=some ⟨oc,od,.func fd,osl⟩/\W.codeIn K cdv qual=true
 kp:ql K (.ref f)=true
section
variable {P:cy}{w:fq}{K:bx}{mg:Str->Option bb}{base:Heap}
theorem Fun.ok{x qual:Str}{st:Stmt}{f:Addr}{fd:ou}{N ps:List Str}{k:Nat}{sp:Sp}(F:Fun K x qual st f fd)(S:FnScope N ps (zh st))(len:∀vs H Q E,sp vs H Q E->vs.length=ps.length)
  (hbody:∀(z:bb) (A:ff) (outer:List Env) (s:bd) (H:Hp) (vs:List V) (Q:VK) (E:XK),Room k (A.deeper (qk qual (zh st) s.heap.objs.size f z))->sp vs H Q E ->
   ∃t,PSs (dQ CX0 P w K mg base N qual (zh st) f z A outer s H E).nox (bP st) t/\t { nx:=fun _ H'=>Q .non H',rt:=Q } (start N vs) H):FnOk P w K mg base CX0 (k+1) f fd ps sp:=by
 obtain⟨oc,od,kV,ac,pm,an,z,ct,ae,rfl,lk,ab⟩:=F.ex;refine DL lk ab S len fun A outer s H vs Q E hr aa=>?_;obtain⟨t,h,q⟩:=hbody z A outer s H vs Q E hr aa;exact⟨t,h.nox,q⟩
theorem Fun.binds{x qual:Str}{st:Stmt}{f:Addr}{fd:ou}{ps:List Str}(F:Fun K x qual st f fd)
  (h:∀(kV z pm:bb) (an:Option Addr) (q ct:bb) (us:List bb),us.length=ps.length->qc (re x qual (dY st) (bP st) (zh st) .none kV z pm an q ct) ⟨us,[]⟩=pure (ps.zip us)):Binds K fd ps []:=by
 obtain⟨oc,od,kV,z,pm,an,q,ct,ab,rfl,lk,aa⟩:=F.ex;exact .all (h kV z pm an q ct)
theorem gP{x qual:Str}{st:Stmt}{f:Addr}{oc:bb}{od an:Option Addr}{aa:Array (Option bb)}{kV z pm q ct:bb}(l:K.lookup f=some ⟨oc,od,.func (re x qual (dY st) (bP st) (zh st) .none kV z pm an q ct),aa⟩)
  (c:W.codeIn K q qual=true) (k:ql K (.ref f)=true):Fun K x qual st f (re x qual (dY st) (bP st) (zh st) .none kV z pm an q ct):=⟨⟨oc,od,kV,z,pm,an,q,ct,aa,rfl,l,c⟩,k⟩
end
theorem small1000{n:Nat}(h:n<=1000):n<df:=Nat.lt_of_le_of_lt h dz
section
variable {X:Cx}
theorem pv(i:Nat){x:Str}{pos:Pos}(hN:X.N[i]?=some x:=by rfl)(hv:Vis X.env.scope x:=by first|exact gj rfl|exact rf (gj rfl)|exact rf (rf rfl))(hd:(x==("__debug__":Str))=false:=by decide)
  (hcd:(x==("__classdict__":Str))=false:=by decide):PE X (.Name x pos) (bZ i):=HL hN hv hd hcd
end
theorem e7{A B:Prop}(h:B):if false=true then A else B:=by
 rw[ck gw];exact h
theorem eT{A B:Prop}(h:A):if true=true then A else B:=by
 rw[cq rfl];exact h
theorem ite2{c A B:Prop}[Decidable c](h1:c->A)(h2:¬ c->B):if c then A else B:=by
 by_cases h:c
 ·rw[cq h];exact h1 h
 ·rw[ck h];exact h2 h
def Same(H H':Hp):Prop:=∀b o,H b=some o->H' b=some o
theorem Same.refl(H:Hp):Same H H:=fun _ _ h=>h
theorem Same.trans{H H1 H2:Hp}(a:Same H H1)(b:Same H1 H2):Same H H2:=fun c o h=>b c o (a c o h)
theorem Same.seq{K:bx}{H H':Hp}{a:Addr}{xs:List V}(e:Same H H')(h:SqL K H a xs):SqL K H' a xs:=by
 rcases h with (h|⟨o,h⟩)|h
 ·exact .inl (.inl (e _ _ h))
 ·exact .inl (.inr ⟨o,e _ _ h⟩)
 ·exact .inr h
end
section
section
variable {X:Cx}
def CDivX(i j:Int):Prop:=0<j/\j.natAbs.log2<9000
theorem G7:OpR X (km .FloorDiv) (rI CDivX fun i j=>.int (i/j)):=opI fun i j _ _ _ _ _ hc q=>by
 have h1:(0:Int)<j:=hc.1;exact floordiv_int yw (by rw[Int.fdiv_eq_ediv_of_nonneg i yw];exact q) (.inl (PyProof.noPylong_of_log2 hc.2))
theorem JX:OpR X (km .Mult) (rI IntMulOk fun i j=>.int (i*j)):=opI fun _ _ _ _ _ _ _ hc q=>mul_int q hc
theorem Bm{k:Int}{n:Nat}(h:k.natAbs<2 ^ n):Builtin.Int.intBits k<=n:=by
 unfold Builtin.Int.intBits;split
 ·exact ji _
 ·rename_i h0;have hk:k.natAbs≠0:=by
   intro z;apply h0;rw[Int.natAbs_eq_zero.mp z];rfl
  have:=(Nat.log2_lt hk).mpr h;omega
theorem HA{i j:Int}(n m:Nat)(hi:i.natAbs<2 ^ n)(hj:j.natAbs<2 ^ m)(hn:n<=2 ^ 20:=by decide)(hm:m<=2 ^ 20:=by decide):IntMulOk i j:=
 .of_bits (fv (Bm hi) hn) (fv (Bm hj) hm)
theorem d9{i j:Int}(h1:-(2 ^ 64)<i)(h2:i<2 ^ 64):IntMulOk i j:=.of_left (intBits_le_64 h1 h2)
theorem BE{n:Int}{k:Nat}(h0:0<n)(h:n<2 ^ k):n.natAbs.log2<k:=by
 refine(Nat.log2_lt yw).mpr ?_;have e:((2 ^ k:Nat):Int)=(2:Int) ^ k:=by simp
 omega
end
def kD:Key->bc
 | .inl i=>.int i
 | .inr x=>.str x
def DOf(H:Hp)(a:Addr)(ks:List bc)(vs:List V):Prop:=
 (∃(ob:Obj) (m:List (Key×V)),H a=some (.frz ob (.dK m))/\ks=m.map (fun p=>kD p.1)/\vs=m.map (·.2)) \/
 ∃(ob:Obj) (p:List Key×V) (m:List (List Key×V)),H a=some (.frz ob (.dT (p::m)))/\ks=(p::m).map (fun p=>.tuple (p.1.map kD))/\vs=(p::m).map (·.2)
mutual
def Has(H:Hp):bc->V->Prop
 | .none,v=>v=.non
 | .bool b,v=>v=.bl b
 | .int i,v=>v=.int i
 | .str x,v=>v=.str x
 | .list ds,v=>∃a vs,v=.ref a/\H a=some (.lst vs)/\HasL H ds vs
 | .tuple ds,v=>∃a vs,v=.ref a/\H a=some (.tup vs)/\HasL H ds vs
 | .dict kvs,v=>∃a vs,v=.ref a/\DOf H a (kvs.map (·.1)) vs/\HasV H kvs vs
def HasL(H:Hp):List bc->List V->Prop
 | [],vs=>vs=[]
 |d::ds,vs=>∃v r,vs=v::r/\Has H d v/\HasL H ds r
def HasV(H:Hp):List (bc×bc)->List V->Prop
 | [],vs=>vs=[]
 |p::ps,vs=>∃v r,vs=v::r/\HasP H p v/\HasV H ps r
def HasP(H:Hp):bc×bc->V->Prop
 | (_,d),v=>Has H d v
end
mutual
theorem Has.mono{H H':Hp}(s:Same H H'):∀(d:bc) (v:V),Has H d v->Has H' d v
 | .none,_,h=>by simp only[Has]at h ⊢;exact h
 | .bool _,_,h=>by simp only[Has]at h ⊢;exact h
 | .int _,_,h=>by simp only[Has]at h ⊢;exact h
 | .str _,_,h=>by simp only[Has]at h ⊢;exact h
 | .list ds,v,h=>by
  simp only[Has]at h ⊢;obtain⟨a,vs,e,q,l⟩:=h;exact⟨a,vs,e,s _ _ q,HasL.mono s ds vs l⟩
 | .tuple ds,v,h=>by
  simp only[Has]at h ⊢;obtain⟨a,vs,e,q,l⟩:=h;exact⟨a,vs,e,s _ _ q,HasL.mono s ds vs l⟩
 | .dict kvs,v,h=>by
  simp only[Has]at h ⊢;obtain⟨a,vs,e,q,l⟩:=h;refine⟨a,vs,e,?_,HasV.mono s kvs vs l⟩;rcases q with ⟨ob,m,e1,e2⟩|⟨ob,p,m,e1,e2⟩
  ·exact .inl ⟨ob,m,s _ _ e1,e2⟩
  ·exact .inr ⟨ob,p,m,s _ _ e1,e2⟩
theorem HasL.mono{H H':Hp}(s:Same H H'):∀(ds:List bc) (vs:List V),HasL H ds vs->HasL H' ds vs
 | [],_,h=>by simp only[HasL]at h ⊢;exact h
 |d::ds,vs,h=>by
  simp only[HasL]at h ⊢;obtain⟨v,r,e,q,l⟩:=h;exact⟨v,r,e,Has.mono s d v q,HasL.mono s ds r l⟩
theorem HasV.mono{H H':Hp}(s:Same H H'):∀(ds:List (bc×bc)) (vs:List V),HasV H ds vs->HasV H' ds vs
 | [],_,h=>by simp only[HasV]at h ⊢;exact h
 |d::ds,vs,h=>by
  simp only[HasV]at h ⊢;obtain⟨v,r,e,q,l⟩:=h;exact⟨v,r,e,HasP.mono s d v q,HasV.mono s ds r l⟩
theorem HasP.mono{H H':Hp}(s:Same H H'):∀(p:bc×bc) (v:V),HasP H p v->HasP H' p v
 | (_,d),v,h=>by
  simp only[HasP]at h ⊢;exact Has.mono s d v h
end
section
variable {H:Hp}{v:V}
theorem kM:Has H .none v↔v=.non:=by simp only[Has]
theorem iD{b:Bool}:Has H (.bool b) v↔v=.bl b:=by simp only[Has]
theorem eU{i:Int}:Has H (.int i) v↔v=.int i:=by simp only[Has]
theorem hV{x:Str}:Has H (.str x) v↔v=.str x:=by simp only[Has]
theorem dA{ds:List bc}:Has H (.list ds) v↔∃a vs,v=.ref a/\H a=some (.lst vs)/\HasL H ds vs:=by simp only[Has]
theorem cO{ds:List bc}:Has H (.tuple ds) v↔∃a vs,v=.ref a/\H a=some (.tup vs)/\HasL H ds vs:=by simp only[Has]
theorem B6{q:List (bc×bc)}:Has H (.dict q) v↔∃a vs,v=.ref a/\DOf H a (q.map (·.1)) vs/\HasV H q vs:=by simp only[Has]
theorem zv{vs:List V}:HasL H [] vs↔vs=[]:=by simp only[HasL]
theorem zo{d:bc}{ds:List bc}{vs:List V}:HasL H (d::ds) vs↔∃v r,vs=v::r/\Has H d v/\HasL H ds r:=by simp only[HasL]
theorem HasL.length:∀{ds:List bc}{vs:List V},HasL H ds vs->vs.length=ds.length
 | [],_,h=>by rw[zv.mp h];rfl
 |d::ds,vs,h=>by
  obtain⟨v,r,e,_,l⟩:=zo.mp h;rw[e,cw,cw,HasL.length l]
theorem HasL.get:∀{ds:List bc}{vs:List V}{i:Nat}{d:bc},HasL H ds vs->ds[i]?=some d->∃v,vs[i]?=some v/\Has H d v
 | [],_,_,_,_,e=>by simp at e
 |c::ds,vs,0,d,h,e=>by
  obtain⟨v,r,rfl,q,_⟩:=zo.mp h;simp at e;subst e;exact⟨v,rfl,q⟩
 |c::ds,vs,i+1,d,h,e=>by
  obtain⟨v,r,rfl,_,l⟩:=zo.mp h;obtain⟨u,e1,e2⟩:=HasL.get (i:=i) (d:=d) l (by simpa using e);exact⟨u,by simpa using e1,e2⟩
theorem HasL.append:∀{ds es:List bc}{vs us:List V},HasL H ds vs->HasL H es us->HasL H (ds++es) (vs++us)
 | [],es,vs,us,h,h'=>by rw[zv.mp h];exact h'
 |d::ds,es,vs,us,h,h'=>by
  obtain⟨v,r,rfl,q,l⟩:=zo.mp h;exact zo.mpr ⟨v,r++us,rfl,q,HasL.append l h'⟩
theorem xQ:∀(ns:List Int),HasL H (ns.map .int) (ns.map V.int)
 | []=>zv.mpr rfl
 |n::ns=>zo.mpr ⟨_,_,rfl,eU.mpr rfl,xQ ns⟩
end
def tyD:bc->String
 | .none=>"NoneType" | .bool _=>"bool" | .int _=>"int" | .str _=>"str" | .list _=>"list" | .tuple _=>"tuple" | .dict _=>"dict"
theorem Has.ty{K:bx}{H:Hp}{d:bc}{v:V}(h:Has H d v):TyOf K H v (.type (tyD d)):=by
 cases d with
 |none=>rw[kM.mp h];exact .non
 |bool b=>rw[iD.mp h];exact .bl b
 |int i=>rw[eU.mp h];exact .int i
 |str x=>rw[hV.mp h];exact .str x
 |list ds=>obtain⟨a,vs,rfl,e,_⟩:=dA.mp h;exact .lst e
 |tuple ds=>obtain⟨a,vs,rfl,e,_⟩:=cO.mp h;exact .tup e
 |dict kvs=>
  obtain⟨a,vs,rfl,e,_⟩:=B6.mp h;rcases e with ⟨ob,m,e,_⟩|⟨ob,p,m,e,_⟩
  ·exact .dK (.inr ⟨ob,e⟩)
  ·exact .dT (.inr ⟨ob,e⟩)
def rW:List String:=["NoneType","bool","int","str","list","tuple","dict"]
def fN:List String:=["int","bool","str","list","tuple","dict"]
def eG(t c:String):Bool:=t==c||(t == "bool" && c == "int")
def iO(d:bc)(c:String):Bool:=eG (tyD d) c
theorem GH(d:bc):tyD d∈rW:=by cases d<;>simp[tyD,rW]
theorem FR(K:bx){t c:String}(ht:t∈rW)(hc:c∈fN):W.kitOne K (.type t) (.type c)=some (eG t c):=by
 simp only[rW,fN,jd,gq,or_false]at ht hc;rcases ht with rfl|rfl|rfl|rfl|rfl|rfl|rfl<;>rcases hc with rfl|rfl|rfl|rfl|rfl|rfl<;>rfl
def yB:List V->Hp->VK->Prop
 | [x,.ty c],H,Q=>∃d,Has H d x/\c∈fN/\Q (.bl (iO d c)) H
 |_,_,_=>False
theorem IH{H:Hp}{d:bc}{x:V}{c:String}{Q:VK}(h:Has H d x)(hc:c∈fN)(q:Q (.bl (iO d c)) H):yB [x,.ty c] H Q:=⟨d,h,hc,q⟩
section
variable {X:Cx}
theorem fX:CallR X (.builtin "isinstance") yB:=by
 intro zi s σ H xs us Q I r h
 match xs,h with
 | [x,.ty c],h=>
  obtain⟨d,hx,hc,q⟩:=h;obtain⟨u,w',rfl,ru,z⟩:=vals2 r;cases (show w'=qa c from z);exact Ju I ru hx.ty (FR X.K (GH d) hc) fun tk=>⟨.bl _,H,I.tok tk,rfl,q⟩
end
def sp1(p:V->Hp->VK->Prop):Sp:=fun vs H Q _=>match vs with | [x]=>p x H Q|_=>False
def sp2(p:V->V->Hp->VK->Prop):Sp:=fun vs H Q _=>match vs with | [x,y]=>p x y H Q|_=>False
theorem EK{p:V->Hp->VK->Prop}:∀(vs:List V) (H:Hp) (Q:VK) (E:XK),sp1 p vs H Q E->∃x,vs=[x]/\p x H Q:=by
 intro vs H Q E h
 match vs,h with
 | [x],h=>exact⟨x,rfl,h⟩
theorem FD{p:V->V->Hp->VK->Prop}:∀(vs:List V) (H:Hp) (Q:VK) (E:XK),sp2 p vs H Q E->∃x y,vs=[x,y]/\p x y H Q:=by
 intro vs H Q E h
 match vs,h with
 | [x,y],h=>exact⟨x,y,rfl,h⟩
structure Dd(K:bx)(mg:Str->Option bb)(x:Str)(st:Stmt)(ps:List Str):Prop where
 ex:∃f fd,Fun K x x st f fd/\mg x=some (.ref f)/\Binds K fd ps []
structure Df(P:cy)(w:fq)(K:bx)(mg:Str->Option bb)(base:Heap)(x:Str)(ps:List Str)(k:Nat)(sp:Sp):Prop where
 ex:∃f fd,FnOk P w K mg base CX0 k f fd ps sp/\mg x=some (.ref f)/\ql K (.ref f)=true/\Binds K fd ps []
section
variable {P:cy}{w:fq}{K:bx}{mg:Str->Option bb}{base:Heap}{x a b c d e:Str}{st:Stmt}{N:List Str}{k:Nat}
theorem Df.of{ps:List Str}{sp:Sp}(D:Dd K mg x st ps)(S:FnScope N ps (zh st))(len:∀vs H Q E,sp vs H Q E->vs.length=ps.length)
  (hbody:∀(f:Addr) (cdv:bb) (A:ff) (outer:List Env) (s:bd) (H:Hp) (vs:List V) (Q:VK) (E:XK),Room k (A.deeper (qk x (zh st) s.heap.objs.size f cdv))->sp vs H Q E ->
   ∃t,PSs (dQ CX0 P w K mg base N x (zh st) f cdv A outer s H E).nox (bP st) t/\t { nx:=fun _ H'=>Q .non H',rt:=Q } (start N vs) H):Df P w K mg base x ps (k+1) sp:=by
 obtain⟨f,fd,F,hm,hb⟩:=D.ex;exact⟨f,fd,F.ok S len (hbody f),hm,F.kp,hb⟩
theorem Df.of2{p:V->V->Hp->VK->Prop}(D:Dd K mg x st [a,b])(S:FnScope N [a,b] (zh st))(σ0:V->V->St)(hs:∀v u,start N [v,u]=σ0 v u)
  (hbody:∀(f:Addr) (q:bb) (A:ff) (outer:List Env) (s:bd) (H:Hp) (v u:V) (Q:VK) (E:XK),Room k (A.deeper (qk x (zh st) s.heap.objs.size f q))->p v u H Q ->
   ∃t,PSs (dQ CX0 P w K mg base N x (zh st) f q A outer s H E).nox (bP st) t/\t { nx:=fun _ H'=>Q .non H',rt:=Q } (σ0 v u) H):Df P w K mg base x [a,b] (k+1) (sp2 p):=by
 refine Df.of D S (fun vs H Q E h=>?_) fun f q A outer s H vs Q E hr h=>?_
 ·obtain⟨x,y,rfl,_⟩:=FD vs H Q E h;rfl
 ·obtain⟨x,y,rfl,h⟩:=FD vs H Q E h;rw[hs];exact hbody f q A outer s H x y Q E hr h
end
def tC2(p:V->V->Hp->VK->Prop)(ta tb:TE):TE:=fun σ H Q=>ta σ H fun x H1=>tb σ H1 fun y H2=>p x y H2 Q
section
variable {X:Cx}{x a b c d e':Str}{k j:Nat}{pos pos':Pos}{e1 e2 e3 e4 e5:Expr}{t1 t2 t3 t4 t5:TE}
theorem J0{p:V->V->Hp->VK->Prop}(D:Df X.prog X.w X.K X.mg X.base x [a,b] k (sp2 p))(hr:Room j X.A)(hk:k<=j)(h1:PE X e1 t1)(h2:PE X e2 t2)(hg:Gl X x:=by rfl)(q:(x==("__debug__":Str))=false:=by decide)
  (q1:cr [e1,e2] X.env=(false,eval e1 X.env)::cr [e2] X.env:=by rfl) (q2:cr [e2] X.env=(false,eval e2 X.env)::cr [] X.env:=by rfl)
  (hpl:(kx pos (cr [e2] X.env)).any (·.1)=false:=by rfl):PE X (.Call (.Name x pos') [e1,e2] [] pos) (tC2 p t1 t2):=by
 obtain⟨f,fd,F,hm,kp,hb⟩:=D.ex;intro zi s σ H Q I h;exact xZ (dvs:=[]) (ds:=[]) (E:=E0) F (hr.mono hk) hg hm kp hb .nil pass0 (za h1 (za h2 ze q2) q1) q q1 hpl zi s σ H Q I h
end
theorem Dd.mk'{K:bx}{h:Heap}{mg:Str->Option bb}(X:K.In h)(G:h.Ns ii mg){x:Str}{st:Stmt}{ps:List Str}{f:Addr}{oc:bb}{od an:Option Addr}{aa:Array (Option bb)}{kV z pm q ct:bb}
  (a:W.nsIn K ii x=some (some (.ref f))) (l:K.lookup f=some ⟨oc,od,.func (re x x (dY st) (bP st) (zh st) .none kV z pm an q ct),aa⟩)
  (c:W.codeIn K q x=true) (k:ql K (.ref f)=true)
  (hb:∀(kV z pm:bb) (an:Option Addr) (q ct:bb) (us:List bb),us.length=ps.length->qc (re x x (dY st) (bP st) (zh st) .none kV z pm an q ct) ⟨us,[]⟩=pure (ps.zip us)):Dd K mg x st ps:=
 ⟨f,_,gP (st:=st) l c k,W.mg_of X G a,(gP (st:=st) l c k).binds hb⟩
theorem cQ:gn "len" = some (.builtin "len"):=by decide +kernel
theorem fY:gn "isinstance" = some (.builtin "isinstance"):=by decide +kernel
theorem k9:gn "max" = some (.builtin "max"):=by decide +kernel
theorem v3:gn "min" = some (.builtin "min"):=by decide +kernel
theorem uH:gn "int" = some (.type "int"):=by decide +kernel
theorem Ac:gn "bool" = some (.type "bool"):=by decide +kernel
theorem KF:gn "str" = some (.type "str"):=by decide +kernel
theorem Hq:gn "list" = some (.type "list"):=by decide +kernel
theorem iL:gn "tuple" = some (.type "tuple"):=by decide +kernel
section
variable {H:Hp}{Q:VK}
theorem Kk{i:Nat}{σ:St}:bZ i σ H Q↔match σ[i]? with|some (some v)=>Q v H|_=>False:=by
 unfold bZ;constructor
 ·rintro⟨v,e,q⟩;rw[e];exact q
 ·intro h;split at h
  ·rename_i v e;exact⟨v,e,h⟩
  ·exact h.elim
theorem B5{g:Int->Int->V}{i j:Int}:rI0 g (.int i) (.int j) H Q↔Q (g i j) H:=
 ⟨fun⟨_,_,e1,e2,q⟩=>by cases e1;cases e2;exact q,fun q=>⟨i,j,rfl,rfl,q⟩⟩
theorem JY{p:Bool->Prop}{b:Bool}:(∃c,V.bl b=V.bl c/\p c)↔p b:=⟨fun⟨_,e,q⟩=>by cases e;exact q,fun q=>⟨b,rfl,q⟩⟩
end
section
variable {K:bx}{H:Hp}{Q:VK}{x y:V}{d:bc}{ds:List bc}
def vW(K:bx):List V->Hp->VK->Prop:=fun xs H Q=>∃p ys,xs=[.ref p]/\(SqL K H p ys\/SqT K H p ys)/\Q (.int ys.length) H
end
section
variable {X:Cx}
theorem Iq:CallR X (.builtin "len") (vW X.K):=Ev
end
def hid(a:Addr)(H:Hp):Hp:=fun b=>if b=a then none else H b
theorem Id{a b:Addr}{H:Hp}(h:b≠a):hid a H b=H b:=ck h
theorem JW{a:Addr}{H:Hp}:hid a H a=none:=cq rfl
theorem Same.laid{H:Hp}{p:Addr}{o:HO}(h:H p=none):Same H (upd H p o):=fun b u e=>by
 rw[zE (zL e h)];exact e
end
section
theorem mN(d:bc):iO d "int" = match d with | .int _=>true | .bool _=>true|_=>false:=by cases d<;>first|rfl|(show eG _ _=_;simp[eG,tyD])
theorem pY(d:bc):iO d "bool" = match d with | .bool _=>true|_=>false:=by cases d<;>first|rfl|(show eG _ _=_;simp[eG,tyD])
theorem mO(d:bc):iO d "tuple" = match d with | .tuple _=>true|_=>false:=by cases d<;>first|rfl|(show eG _ _=_;simp[eG,tyD])
theorem nC(d:bc):iO d "list" = match d with | .list _=>true|_=>false:=by cases d<;>first|rfl|(show eG _ _=_;simp[eG,tyD])
theorem lW(d:bc):iO d "str" = match d with | .str _=>true|_=>false:=by cases d<;>first|rfl|(show eG _ _=_;simp[eG,tyD])
def vw:List Addr->Hp->Hp
 | [],H=>H
 |a::r,H=>hid a (vw r H)
def AC(K:bx):V->V->Hp->VK->Prop:=fun x y H Q=>∃(a:Addr) (ns:List Int) (i:Int),x=.ref a/\y=.int i/\SqL K H a (ns.map V.int)/\0<=i/\∀n,Q (.int n) H
theorem Jy{ns:List Int}{i:Int}(h0:0<=i)(h1:i<((ns.map V.int).length:Int)):∃n,atI (ns.map V.int) i=some (.int n):=by
 obtain⟨k,rfl⟩:=gk h0;have hk:k<ns.length:=by rw[bq]at h1;omega
 exact⟨ns[k],fR (by rw[fh,bi hk];rfl)⟩
theorem Hc{ns:List Int}{lo hi:Option Int}{x:V}(h:x∈dX (ns.map V.int) lo hi):∃n,x=.int n:=by
 have h1:=List.mem_of_mem_drop (qu h);obtain⟨n,_,e⟩:=mem_map.mp h1;exact⟨n,e.symm⟩
theorem Fun.bind1{K:bx}{x a:Str}{st:Stmt}{f:Addr}{fd:ou}(F:Fun K x x st f fd)
  (h:∀(kV z pm:bb) (an:Option Addr) (q ct:bb) (u:bb),qc (re x x (dY st) (bP st) (zh st) .none kV z pm an q ct) ⟨[u],[]⟩=pure [(a,u)]):∀(s:bd) (u:bb),BindsTo s fd ⟨[u],[]⟩ [(a,u)]:=by
 obtain⟨oc,od,kV,z,pm,an,q,ct,ab,rfl,lk,aa⟩:=F.ex;exact fun s u=>.of_eq (h kV z pm an q ct u)
def wT(K:bx):V->Hp->VK->Prop:=fun x H Q=>∃(a:Addr) (ns:List Int),x=.ref a/\SqL K H a (ns.map V.int)/\ns.length<=63/\∀H',Q (.bl true) H'
theorem walk_law{l:W.OpenLaw}{k:Nat}{q:cy}{aa:List Str}{XP:(Str->Option bb)->Heap->Prop}{YP:fq->Heap->Prop}{d:DefRec}{K:Params->bx}(hn:l.most=some 63)(ab:d.params.defaults=[])
  (hr:Room k callerA) (hY:∀(w:fq) (h:Heap),YP w h->(K w.params).In h) (hT:∀(w:fq) (h:Heap),YP w h->TabsOk (K w.params) h)
  (F:∀(w:fq) (mg:Str->Option bb) (fa:Addr) (h:Heap),(K w.params).In h->h.Ns ii mg->mg d.name=some (.ref fa) ->
   ∃fd:ou,(∀(s:bd) (u:bb),BindsTo s fd ⟨[u],[]⟩ [("script",u)])/\∀base:Heap,KInW (K w.params) base->base.Ns ii mg->FnOk l.prog w (K w.params) mg base CX0 k fa fd ["script"] (sp1 (wT (K w.params)))):
  W.WalkO q aa XP YP l.row.toRowW d [] (fun f vs=>PySem.call f vs):=
 L2.walk_of (n:=63) (k:=k) (x:="script") (CX:=fun _=>CX0) (sp:=fun w=>sp1 (wT (K w.params))) hn dz ab hr hY hT F (fun _ _ a ns hl _ hS=>⟨a,ns,rfl,hS,hl,fun _=>rfl⟩) fun _ _ _ _ _ z=>z
theorem Fun.ok1{P:cy}{w:fq}{K:bx}{mg:Str->Option bb}{base:Heap}{x a:Str}{st:Stmt}{f:Addr}{fd:ou}{N:List Str}{k:Nat}{p:V->Hp->VK->Prop}(F:Fun K x x st f fd)(S:FnScope N [a] (zh st))(σ0:V->St)(hs:∀v,start N [v]=σ0 v)
  (hbody:∀(q:bb) (A:ff) (outer:List Env) (s:bd) (H:Hp) (v:V) (Q:VK) (E:XK),Room k (A.deeper (qk x (zh st) s.heap.objs.size f q))->p v H Q ->
   ∃t,PSs (dQ CX0 P w K mg base N x (zh st) f q A outer s H E).nox (bP st) t/\t { nx:=fun _ H'=>Q .non H',rt:=Q } (σ0 v) H):FnOk P w K mg base CX0 (k+1) f fd [a] (sp1 p):=by
 refine F.ok S (fun vs H Q E h=>?_) fun q A outer s H vs Q E hr h=>?_
 ·obtain⟨x,rfl,_⟩:=EK vs H Q E h;rfl
 ·obtain⟨x,rfl,h⟩:=EK vs H Q E h;rw[hs];exact hbody q A outer s H x Q E hr h
end
section
mutual
theorem Has.reads{X:Cx}{zi:List (Addr×Obj)}{σ:St}{H:Hp}{s:bd}(I:Inv X zi σ H s):∀(d:bc) (v:V) (u:bb),Has H d v->d.canLay0=true->RelV v u->∃as,Reads s.heap u d as
 | .none,v,u,h,_,r=>by
  rw[kM.mp h]at r;cases (show u=pz from r);exact⟨_,.none⟩
 | .bool b,v,u,h,_,r=>by
  rw[iD.mp h]at r;cases (show u=Value.bool b from r);exact⟨_,.bool b⟩
 | .int i,v,u,h,_,r=>by
  rw[eU.mp h]at r;obtain⟨t,q⟩:=(show ∃t,u=qi i t from r);cases q;exact⟨_,.int i t⟩
 | .str x,v,u,h,_,r=>by
  rw[hV.mp h]at r;obtain⟨t,q⟩:=(show ∃t,u=Value.str x t from r);cases q;exact⟨_,.str x t⟩
 | .list ds,v,u,h,c,r=>by
  obtain⟨a,vs,rfl,e,l⟩:=dA.mp h;cases (show u=fb a from r);obtain⟨_,z,n,rv,e1⟩:=(show ObjOk X.prog X.w H s.heap a (.lst vs)from I.hok a _ e);obtain⟨as,q⟩:=HasL.reads I ds vs z l (by simpa only[jl]using c) rv;exact⟨_,.list e1 rfl rfl (by simpa using q)⟩
 | .tuple ds,v,u,h,c,r=>by
  obtain⟨a,vs,rfl,e,l⟩:=cO.mp h;cases (show u=fb a from r);obtain⟨_,z,rv,o,e1,e2,n,e3⟩:=(show ObjOk X.prog X.w H s.heap a (.tup vs)from I.hok a _ e);obtain⟨as,q⟩:=HasL.reads I ds vs z l (by simpa only[jl]using c) rv;exact⟨_,.tuple e1 e2 e3 (by simpa using q)⟩
 | .dict _,_,_,_,c,_=>by simp[jl]at c
theorem HasL.reads{X:Cx}{zi:List (Addr×Obj)}{σ:St}{H:Hp}{s:bd}(I:Inv X zi σ H s):∀(ds:List bc) (vs:List V) (us:List bb),HasL H ds vs->im ds=true->Vals vs us->∃as,ReadsAll s.heap us ds as
 | [],vs,us,h,_,r=>by
  rw[zv.mp h]at r;cases r;exact⟨_,.nil⟩
 |d::ds,vs,us,h,c,r=>by
  obtain⟨v,w',rfl,h1,h2⟩:=zo.mp h;have c':d.canLay0=true/\im ds=true:=by simpa[im]using c
  cases r with
  |cons r1 r2=>
   obtain⟨as,q1⟩:=Has.reads I d v _ h1 c'.1 r1;obtain⟨bs,q2⟩:=HasL.reads I ds w' _ h2 c'.2 r2;exact⟨_,.cons q1 q2⟩
end
def Ea:R2:=fun x y H Q=>∃d e,Has H d x/\Has H e y/\ci d=true/\ci e=true/\Q (.bl (cv d e)) H
def Dl:R2:=fun x y H Q=>∃d e,Has H d x/\Has H e y/\ci d=true/\ci e=true/\Q (.bl (!PyData.eqv d e)) H
section
variable {X:Cx}
theorem cE(hu:X.A.units+64<jn):OpR X (gd .Eq) Ea:=by
 intro zi s σ H x y v u Q I rx ry h;obtain⟨d,e,hd,he,sd,se,q⟩:=h;obtain⟨as,q1⟩:=Has.reads I d x v hd (fj sd) rx;obtain⟨bs,q2⟩:=Has.reads I e y u he (fj se) ry;exact eq_dataH q1 q2 sd se hu ⟨.bl _,H,I,rfl,q⟩
theorem iI(hu:X.A.units+64<jn):OpR X (gd .NotEq) Dl:=by
 intro zi s σ H x y v u Q I rx ry h;obtain⟨d,e,hd,he,sd,se,q⟩:=h;obtain⟨as,q1⟩:=Has.reads I d x v hd (fj sd) rx;obtain⟨bs,q2⟩:=Has.reads I e y u he (fj se) ry;exact ne_dataH q1 q2 sd se hu ⟨.bl _,H,I,rfl,q⟩
end
section
variable {prog:cy}{w:fq}{A:ff}{E:bb->bd->Prop}{s:bd}{l:Addr}
theorem Iu{xs:Array (Int×Tok)}{Q:bb->bd->Prop}(hh:A.handled=none)(hl:s.heap.IsTuple l (oy xs))(z:0<xs.size)
  (h:∀v h' tk,(oy xs)[nk (fun i j=>decide (numAt xs i<numAt xs j)) (xs.size-1)]?=some v->(∀b o,s.heap.get? b=some o->h'.get? b=some o)->Q v { s with heap:=h',toks:=tk }):
  bn (model prog w) A (call (.builtin "min") [.ref l]) Q E s:=by
 have q:l<s.heap.objs.size:=by obtain⟨o,e,_⟩:=hl;exact dw e
 refine call_min_walk (wpAny_pyIter_tuple hl ?_);refine⟨_,[_,l],[_],_,_,_,_,rfl,Walks.tuple (A:=A.in1) hh _ l (fk q) (oy xs),⟨⟨_,cj _ rfl,rfl,rfl⟩,hl.push _⟩,fun c hc=>?_,by simpa[oy]using z,CmpOf.ints_lt (numAt xs) (fun _ _=>intItems_at),fun v h' tk hP hk=>?_⟩
 ·show c<(s.heap.push _).objs.size;rw[size_push];rcases mem_cons.mp hc with rfl|hc
  ·exact lt_succ_self _
  ·rcases mem_cons.mp hc with rfl|hc
   ·exact qo q
   ·cases hc
 ·refine h v h' tk (by simpa[oy]using hP) fun b o e=>hk b o (fun hm=>?_) (bf _ e);rcases mem_cons.mp hm with e1|hm
  ·exact absurd (e1▸dw e) (jx _)
  ·cases hm
theorem JL{xs:Array (Int×Tok)}{Q:bb->bd->Prop}(hh:A.handled=none)(hl:s.heap.IsTuple l (oy xs))(z:0<xs.size)
  (h:∀v h' tk,(oy xs)[nk (fun i j=>decide (numAt xs i>numAt xs j)) (xs.size-1)]?=some v->(∀b o,s.heap.get? b=some o->h'.get? b=some o)->Q v { s with heap:=h',toks:=tk }):
  bn (model prog w) A (call (.builtin "max") [.ref l]) Q E s:=by
 have q:l<s.heap.objs.size:=by obtain⟨o,e,_⟩:=hl;exact dw e
 refine call_max_walk (wpAny_pyIter_tuple hl ?_);refine⟨_,[_,l],[_],_,_,_,_,rfl,Walks.tuple (A:=A.in1) hh _ l (fk q) (oy xs),⟨⟨_,cj _ rfl,rfl,rfl⟩,hl.push _⟩,fun c hc=>?_,by simpa[oy]using z,CmpOf.ints_gt (numAt xs) (fun _ _=>intItems_at),fun v h' tk hP hk=>?_⟩
 ·show c<(s.heap.push _).objs.size;rw[size_push];rcases mem_cons.mp hc with rfl|hc
  ·exact lt_succ_self _
  ·rcases mem_cons.mp hc with rfl|hc
   ·exact qo q
   ·cases hc
 ·refine h v h' tk (by simpa[oy]using hP) fun b o e=>hk b o (fun hm=>?_) (bf _ e);rcases mem_cons.mp hm with e1|hm
  ·exact absurd (e1▸dw e) (jx _)
  ·cases hm
theorem qU{vs:List bb}{ns:List Int}(hi:nj vs ns):∃xs:Array (Int×Tok),vs.toArray=oy xs/\ns=xs.toList.map (·.1):=by
 obtain⟨xs,e⟩:=hi.allInts.items;exact⟨xs,e,by rw[<- hi.numsOf,<- nums_intItems,<- e]⟩
end
def yZ(K:bx):List V->Hp->VK->Prop:=fun xs H Q=>∃p ns,xs=[.ref p]/\(SqL K H p (ns.map V.int)\/SqT K H p (ns.map V.int))/\ns≠[]/\∀m,m∈ns->(∀a,a∈ns->m<=a)->Q (.int m) H
def BB(K:bx):List V->Hp->VK->Prop:=fun xs H Q=>∃p ns,xs=[.ref p]/\(SqL K H p (ns.map V.int)\/SqT K H p (ns.map V.int))/\ns≠[]/\∀m,m∈ns->(∀a,a∈ns->a<=m)->Q (.int m) H
section
variable {X:Cx}
theorem J6(hc:X.calm=true):CallR X (.builtin "min") (yZ X.K):=by
 intro zi s σ H xs us Q I r h;obtain⟨p,ns,rfl,hq,aa,q⟩:=h;obtain⟨u,rfl,rx⟩:=vals1 r;cases (show u=fb p from rx);have done:∀(ys:Array (Int×Tok)) (v:bb) (h':Heap) (tk:Nat),ns=ys.toList.map (·.1)->0<ys.size->(oy ys)[nk (fun i j=>decide (numAt ys i<numAt ys j)) (ys.size-1)]?=some v ->
   (∀b o,s.heap.get? b=some o->h'.get? b=some o)->EP X zi σ Q v { s with heap:=h',toks:=tk }:=by
  intro ys v h' tk z hsz hv hk;obtain⟨t,rfl⟩:=intItems_at hv;obtain⟨h1,h2⟩:=argBest_lt (numAt ys) (ys.size-1);refine⟨.int _,H,I.kept (t':=tk) hk,⟨t,rfl⟩,q _ ?_ fun a ha=>?_⟩
  ·rw[z,numAt_eq];exact getD_mem (by rw[bq,fg];omega)
  ·rw[z]at ha;obtain⟨j,hj,rfl⟩:=mem_getD ha;rw[bq,fg]at hj;rw[<- numAt_eq];exact h2 j yw
 rcases hq with hq|hq
 ·obtain⟨ab,rv,pl,_⟩:=I.list hq;obtain⟨ys,e,z⟩:=qU (gU rv);have hsz:0<ys.size:=by
   cases ys with
   |mk l=>cases l with
    |nil=>exact absurd z aa
    |cons _ _=>exact Nat.succ_pos _
  exact min_intList (I.ok.hd hc) (by rw[<- e];exact pl.isList) hsz fun v h' tk hv hk=>done ys v h' tk z hsz hv hk
 ·obtain⟨ab,rv,pl,_⟩:=I.tuple hq;obtain⟨ys,e,z⟩:=qU (gU rv);have hsz:0<ys.size:=by
   cases ys with
   |mk l=>cases l with
    |nil=>exact absurd z aa
    |cons _ _=>exact Nat.succ_pos _
  exact Iu (I.ok.hd hc) (by rw[<- e];exact pl) hsz fun v h' tk hv hk=>done ys v h' tk z hsz hv hk
theorem uN(hc:X.calm=true):CallR X (.builtin "max") (BB X.K):=by
 intro zi s σ H xs us Q I r h;obtain⟨p,ns,rfl,hq,aa,q⟩:=h;obtain⟨u,rfl,rx⟩:=vals1 r;cases (show u=fb p from rx);have done:∀(ys:Array (Int×Tok)) (v:bb) (h':Heap) (tk:Nat),ns=ys.toList.map (·.1)->0<ys.size->(oy ys)[nk (fun i j=>decide (numAt ys i>numAt ys j)) (ys.size-1)]?=some v ->
   (∀b o,s.heap.get? b=some o->h'.get? b=some o)->EP X zi σ Q v { s with heap:=h',toks:=tk }:=by
  intro ys v h' tk z hsz hv hk;obtain⟨t,rfl⟩:=intItems_at hv;obtain⟨h1,h2⟩:=argBest_gt (numAt ys) (ys.size-1);refine⟨.int _,H,I.kept (t':=tk) hk,⟨t,rfl⟩,q _ ?_ fun a ha=>?_⟩
  ·rw[z,numAt_eq];exact getD_mem (by rw[bq,fg];omega)
  ·rw[z]at ha;obtain⟨j,hj,rfl⟩:=mem_getD ha;rw[bq,fg]at hj;rw[<- numAt_eq];exact h2 j yw
 rcases hq with hq|hq
 ·obtain⟨ab,rv,pl,_⟩:=I.list hq;obtain⟨ys,e,z⟩:=qU (gU rv);have hsz:0<ys.size:=by
   cases ys with
   |mk l=>cases l with
    |nil=>exact absurd z aa
    |cons _ _=>exact Nat.succ_pos _
  exact max_intList (I.ok.hd hc) (by rw[<- e];exact pl.isList) hsz fun v h' tk hv hk=>done ys v h' tk z hsz hv hk
 ·obtain⟨ab,rv,pl,_⟩:=I.tuple hq;obtain⟨ys,e,z⟩:=qU (gU rv);have hsz:0<ys.size:=by
   cases ys with
   |mk l=>cases l with
    |nil=>exact absurd z aa
    |cons _ _=>exact Nat.succ_pos _
  exact JL (I.ok.hd hc) (by rw[<- e];exact pl) hsz fun v h' tk hv hk=>done ys v h' tk z hsz hv hk
end
section
variable {K:bx}{o:List Addr}{σ:St}{H0:Hp}{t t1 t2 t3 t4 t5:TE}{ta:TA}{tt tu:TT}{d d1 d2 d3 d4 d5:bc}{ds:List bc}{b c:Bool}
def kW:bc->Bool
 | .none=>true
 |_=>false
end
def spD(a b:Int):bc:=.tuple [.int a,.int b]
end
section
theorem IE{K:bx}{a:Addr}{ns:List Int}{N:Int}{j:Nat}{tb:TS}{D:Ends}{σ:St}{H:Hp}(P:St->Prop)(h0:σ[0]?=some (some (.ref a)))(hS:SqL K H a (ns.map V.int))(q:ns.length<=63)(hP:P σ)
  (turn:∀(n:Int) (σ:St) (H1 H2:Hp),P σ->Same H H1->Same H1 H2->tb { D with nx:=fun σ' H'=>Same H1 H'/\P σ',ct:=fun σ' H'=>Same H1 H'/\P σ',bk:=D.nx } (σ.set j (some (.int n))) H2)
  (done:∀(σ:St) (H1:Hp),P σ->Same H H1->D.nx σ H1):
  pR (AE K (tOp kK (lJ (eC (tC2 (AC K) (bZ 0) (tC (.int 0))) gB)) (tSl (oT K) (bZ 0) (kT (tC (.int 1))) (kT (tC (.int N)))))) (kC j) tb D σ H:=by
 refine⟨_,h0,a,ns,0,rfl,rfl,hS,by decide,fun n0=>⟨by show 1<=df;decide,fun p hp=>?_⟩⟩;have s1:Same H (upd H p (.lst [.int n0])):=Same.laid hp;refine⟨_,h0,_,rfl,_,rfl,a,_,rfl,s1.seq hS,fun p2 z=>?_⟩;have s2:=s1.trans (Same.laid (o:=.lst (dX (ns.map V.int) (some 1) (some N))) z);have np:p≠p2:=zL zK z;have hz:(dX (ns.map V.int) (some 1) (some N)).length<=63:=fv (xX _ _ _) (by rw[bq];exact q);refine⟨p,p2,_,_,rfl,rfl,by rw[zE np,zK],zK,jc (small1000 (by simp only[cw,qd];omega)),fun p3 aa=>?_⟩;have s3:=s2.trans (Same.laid (o:=.lst ([V.int n0]++dX (ns.map V.int) (some 1) (some N))) aa);refine⟨p3,rfl,⟨_,.of zK⟩,L0 (K:=K) (a:=p3) (xs:=[V.int n0]++dX (ns.map V.int) (some 1) (some N)) (fun i σ' H'=>Same _ H'/\P σ') ⟨Same.refl _,hP⟩ (fun i σ H4 _ ⟨s4,_⟩=>.of (s4 _ _ zK)) ?_ ?_⟩
 ·rintro i x σ' H4 hi ⟨s4,p4⟩;obtain⟨n,rfl⟩:∃n,x=.int n:=by
   rcases mem_append.mp (bw hi)with m|m
   ·exact⟨n0,mem_singleton.mp m⟩
   ·exact Hc m
  exact turn n σ' _ H4 p4 s3 s4
 ·rintro σ' H4 ⟨s4,p4⟩;exact done σ' H4 p4 (s3.trans s4)
end
section
section
variable {prog:cy}{w:fq}{A:ff}{E:bb->bd->Prop}{R:Result->bd->Prop}{s:bd}
theorem G3{elt aa iter:Expr}{ifs:List Expr}{scope:Scope}{pos:Pos}{it acc:bb}{env:Env}(I:Nat->bd->Prop)
  (turn:∀n s,I n s->bn (model prog w) A (ls it) (fun r s₁=>match r with
   |none=>R (.ok .next) s₁
   |some v=>bn (model prog w) A (letOwnedTupleGo aa it v) (fun _ s₀=>bn (model prog w) A (assign aa env v) (fun _ s₂=>
     bn (model prog w) A (forIn ifs true fun c r=>if r=true then do let ok <- isTrue c env (eval c env);pure (oz ok)else pure (oz r)) (fun ok s₃=>
      if ok=true then bn (model prog w) A (eval elt env) (fun x s₄=>
       bn (model prog w) A (call (.builtin "list.append") [acc,x]) (fun _ s₅=>∃m,m<n/\I m s₅) (fun _ _=>False) s₄) (fun _ _=>False) s₃
      else ∃m,m<n/\I m s₃) (fun _ _=>False) s₂) (fun _ _=>False) s₀) (fun _ _=>False) s₁) (fun _ _=>False) s)
  (n:Nat) (h:I n s):
  kl (model prog w) A (.compLoop (.ListComp elt [⟨aa,iter,ifs,0⟩] scope pos) 0 it acc env) R s:=by
 have up:∀{α:Type}{t:Sem α}{Q:α->bd->Prop}{E':bb->bd->Prop}{s':bd},bn (model prog w) A t Q (fun _ _=>False) s'->bn (model prog w) A t Q E' s':=fun h=>og h (fun _ _ q=>q) fun _ _ z=>z.elim;refine codeAny_loop rfl I (fun n s hI=>?_) n h;show bn _ A ((compTurn (.ListComp elt [⟨aa,iter,ifs,0⟩] scope pos) 0 it acc env).onRaise (fun x=>do noteFrame x env;theTreesLotGoes x)) _ _ s;refine wpAny_noted ?_;rw[compTurn_list];refine ba (wpAny_standAt (ba (thn (up (turn n s hI)) fun r s₁ h₁=>?_)));cases r with
 |none=>exact be h₁
 |some v=>
  refine ba (thn (up h₁) fun _ s₀ h₀=>?_);refine ba (thn (up h₀) fun _ s₂ h₂=>ba (thn (up h₂) fun ok s₃ h₃=>?_));cases ok with
  |false=>exact be ⟨rfl,h₃⟩
  |true=>
   exact ba (ba (thn (up h₃) fun x s₄ h₄=>ba (thn (up h₄) fun _ s₅ h₅=>be (be ⟨rfl,h₅⟩))))
end
def cM(X:Cx)(scope:Scope)(cl:List (Str×Addr))(C:Addr)(s₃:bd)(H₃:Hp)(fp:List Addr)(N:List Str):Cx where
 prog:=X.prog
 w:=X.w
 K:=X.K
 mg:=X.mg
 base:=X.base
 A:=X.A
 N:=N
 s₀:=s₃
 H₀:=H₃
 env:=compEnvC scope cl C X.env
 outer:=X.stack
 stack:=X.stack
 ex:=fp
 fn:=fun _=>false
 calm:=X.calm
 pn:=[]
 xe:=fun _ _=>False
def PTs(X:Cx)(ifs:List Expr)(t:TT):Prop:=
 ∀(zi:List (Addr×Obj)) (s:bd) (σ:St) (H:Hp) (Q:Bool->Hp->Prop),Inv X zi σ H s->t σ H Q ->
  bn (model X.prog X.w) X.A (forIn ifs true fun c r=>if r=true then do let ok <- isTrue c X.env (eval c X.env);pure (oz ok)else pure (oz r)) (TP X zi σ Q) X.xe s
def Ez:TT:=fun _ H Q=>Q true H
theorem bJ{X:Cx}:PTs X [] Ez:=fun _ _ _ H _ I h=>wpAny_tests_nil ⟨H,I,h⟩
theorem KW{X:Cx}{c:Expr}{t:TT}(h:PT X c t):PTs X [c] t:=fun zi s σ H Q I hw=>wpAny_tests_one (h zi s σ H Q I hw)
def tau(caps:List (Option Nat))(σ:St):St:=caps.map fun o=>o.bind fun i=>(σ[i]?).join
def kQ(caps:List (Option Nat))(wi:TI)(g:TG)(tt:TT)(te:TE):TE:=fun σ H Q=>wi σ H fun J H1=>∀D,H1 D=none->∃W:Nat->Nat->St->Hp->Prop,(∃m,W 0 m (tau caps σ) (upd H1 D (.lst []))) /\
 ∀i m τ H2,W i m τ H2->(J.stop i H2/\Q (.ref D) H2)\/(J.go i H2/\∀x H3,J.yld i H2 x H3->g x τ H3 fun τ4 H4=>tt τ4 H4 fun b H5=>
  if b=true then te τ4 H5 fun v H6=>∃xs,H6 D=some (.lst xs)/\xs.length<df/\∃m',m'<m/\W (i+1) m' τ4 (upd H6 D (.lst (xs++[v])))else ∃m',m'<m/\W (i+1) m' τ4 H5)
structure CompOk(X:Cx)(scope:Scope)(cl:List (Str×Addr))(N:List Str)(caps:List (Option Nat)):Prop where
 clos:closureFor scope X.env=pure cl
 sub:∀x c,cl.lookup x=some c->X.env.cells.lookup x=some c
 kind:scope.kind=.function
 cell:∀y∈scope.names,y.2≠.cell
 names:∀y∈scope.names,y.2=.local->scope.names.lookup y.1=some .local
 has:∀x,((relabel scope X.env).names.lookup x=some .cell\/(relabel scope X.env).names.lookup x=some .free)->∃c,cl.lookup x=some c
 cap:∀(j i:Nat) (x:Str),caps[j]?=some (some i)->N[j]?=some x->X.N[i]?=some x/\Vis X.env.scope x/\¬ X.env.kindOf x=some .local/\∃c,cl.lookup x=some c/\((relabel scope X.env).names.lookup x=some .cell\/(relabel scope X.env).names.lookup x=some .free)
 len:caps.length=N.length
section
variable {X:Cx}{scope:Scope}{cl:List (Str×Addr)}{N:List Str}{caps:List (Option Nat)}{tg iter elt:Expr}{ifs:List Expr}{pos:Pos}{wi:TI}{g:TG}{tt:TT}{te:TE}
theorem Lm{zi:List (Addr×Obj)}{σ:St}{H:Hp}{s:bd}{fp:List Addr}{h₁:Heap}{t':Nat}(c:CompOk X scope cl N caps)(I:Inv X zi σ H s)(f:∀b∈fp,FpOk X zi H b)(fo:∀b∈fp,∃o,s.heap.get? b=some o)
  (hns:h₁.Ns s.heap.objs.size (fun _=>none)) (hk:∀b o,s.heap.get? b=some o->h₁.get? b=some o):
  Inv (cM X scope cl s.heap.objs.size s H fp N) [] (tau caps σ) H { s with heap:=h₁,toks:=t' }:=by
 have lt:∀b∈fp,b<s.heap.objs.size:=fun b hb=>by obtain⟨o,e⟩:=fo b hb;exact dw e
 have ab:∀x k,cl.lookup x=some k->∃v,s.heap.IsCell k v:=fun x k e=>I.cell x k (c.sub x k e);refine⟨⟨I.ok.mod,c.kind,I.ok.glob,I.ok.blt,cz _,fun x y k h1 h2=>I.ok.inj x y k (c.sub x k h1) (c.sub y k h2),fun x hx=>c.has x hx,fun x k h _=>absurd (show false=true from h) dz,I.ok.hd,I.ok.frames,.inl rfl,
  fun b hb=>⟨fk (lt b hb),fun x k e=>(f b hb).2.2.2.2.1 x k (c.sub x k e)⟩,I.bs,fv I.ok.bsz I.sz,fun b o e hb=>?_,fun b hb z=>?_,I.stack,I.stkFree⟩,
  rfl,I.bare,Un.kept hk,⟨_,hns,fun j x v h1 h2 h3=>?_⟩,fun x k e=>?_,I.hok.fresh (cz _),fun x k e=>I.freeC x k (c.sub x k e),fun p hp=>absurd (show p∈([]:List (Addr×Obj))from hp) yv,I.hok.kept hk,?_⟩
 ·rcases(f b hb).2.2.2.1 with q|q
  ·exact I.ok.noex b o e q
  ·exact absurd (fc (dw e) (fv I.ok.bsz q)) (jx _)
 ·rcases mem_cons.mp (I.stkSub b z)with q|q
  ·exact(f b hb).2.1 q
  ·exact(f b hb).2.2.1 q
 ·have aa:(caps.map fun o=>o.bind fun i=>(σ[i]?).join)[j]?=some (some v):=h2;rw[fh]at aa;cases e:caps[j]? with
  |none=>rw[e]at aa;cases aa
  |some oi=>
   rw[e]at aa;have h2'':(oi.bind fun i=>(σ[i]?).join)=some v:=gb aa;cases oi with
   |none=>cases h2''
   |some i=>
    have h4:(σ[i]?).join=some v:=h2'';have h5:σ[i]?=some (some v):=by
     cases q:σ[i]? with
     |none=>rw[q]at h4;cases h4
     |some w'=>rw[q]at h4;exact congrArg some h4
    obtain⟨k1,k2,k3,cc,k4,k5⟩:=c.cap j i x e h1;obtain⟨m,hn,hl⟩:=I.loc;obtain⟨u,r,l⟩:=hl i x v k1 h5 k2;refine⟨u,r,.inr ⟨k5,cc,k4,?_⟩⟩;rcases l with ⟨q,_⟩|⟨_,c',hc',hcell⟩
    ·exact(k3 q).elim
    ·rw[c.sub x cc k4]at hc';cases hc';exact hcell.keeps hk
 ·obtain⟨v,q⟩:=ab x k e;exact⟨v,q.keeps hk⟩
 ·show (caps.map _).length=N.length;rw[bq];exact c.len
theorem Gc{zi:List (Addr×Obj)}{σ τ:St}{H H':Hp}{s s':bd}{h':Heap}{fp:List Addr}(I:Inv X zi σ H s)(f:∀b∈fp,FpOk X zi H b)(J:Inv (cM X scope cl s.heap.objs.size s H fp N) [] τ H' s')(hs:ij s.heap.objs.size s'.heap h'):
  Inv X zi σ H' { s' with heap:=h' }:=by
 have hC:H' s.heap.objs.size=none:=J.free;have keep:∀b o,b≠s.heap.objs.size->s'.heap.get? b=some o->h'.get? b=some o:=fun b o nb e=>hs.extBut b o nb e;have u1:Un (frs X.stack) (s.heap.objs.size::fp) H H' s.heap s'.heap:=Un.mono J.base (fun b hb=>hb) (fun b hb=>bp _ hb);have u2:Un (frs X.stack) (s.heap.objs.size::fp) H' H' s'.heap h':=
  ⟨fun b o e _ _ hx=>keep b o (fun z=>hx (by rw[z];exact br)) e,fun b o e _ _ hx=>⟨o.slots,keep b o (fun z=>hx (by rw[z];exact br)) e⟩,fun _ _ _ n _=>n,fun b o e hx=>⟨o,keep b o (fun z=>hx (by rw[z];exact br)) e⟩,fun _ _ q=>q,fun _ _ _ q=>q,fun _ _ q=>q⟩
 have hok:HOk X.prog X.w H' h':=fun a o e=>(J.hok a o e).stay (fun b u hb q=>keep b u (fun z=>by
  rcases hb with hb|hb
  ·rw[<- hb,z,hC]at e;cases e
  ·rw[z,hC]at hb;cases hb) q) (fun b q=>q) fun b xs q=>q
 refine I.call' (s':={ s' with heap:=h' }) (ch:=s.heap.objs.size::fp) J.os (u1.trans u2) hok J.bare fun b hb=>?_;rcases mem_cons.mp hb with rfl|hb
 ·refine⟨.inr I.sz,ne_of_gt I.lt,fun x k e z=>?_,fun p hp z=>?_⟩
  ·obtain⟨v,q⟩:=I.cell x k e;exact absurd q.lt (by rw[z];exact jx _)
  ·exact absurd (dw (I.pin p hp).1) (by rw[z];exact jx _)
 ·obtain⟨f0,f1,f2,f3,f4,f5⟩:=f b hb;exact⟨f3,f1,f4,f5⟩
theorem BL{zi:List (Addr×Obj)}{σ:St}{H2:Hp}{s2:bd}{it:Addr}{fp:List Addr}{tn:Nat->Heap->Prop}{J:It}{RR:bb->Addr->Result->bd->Prop}{E:bb->bd->Prop}(hc:X.calm=true)(c:CompOk X scope cl N caps)
  (I2:Inv X zi σ H2 s2) (T:Turn X.prog X.w X.K tg J fp it tn) (st2:tn 0 s2.heap) (f2:∀b∈fp,FpOk X zi H2 b)
  (hg:∀C s H fp,PG (cM X scope cl C s H fp N) tg g) (ht:∀C s H fp,PTs (cM X scope cl C s H fp N) ifs tt) (he:∀C s H fp,PE (cM X scope cl C s H fp N) elt te)
  (Q:VK) (hq:∀D,H2 D=none->∃W:Nat->Nat->St->Hp->Prop,(∃m,W 0 m (tau caps σ) (upd H2 D (.lst []))) /\
   ∀i m τ H2,W i m τ H2->(J.stop i H2/\Q (.ref D) H2)\/(J.go i H2/\∀x H3,J.yld i H2 x H3->g x τ H3 fun τ4 H4=>tt τ4 H4 fun b H5=>
    if b=true then te τ4 H5 fun v H6=>∃xs,H6 D=some (.lst xs)/\xs.length<df/\∃m',m'<m/\W (i+1) m' τ4 (upd H6 D (.lst (xs++[v])))else ∃m',m'<m/\W (i+1) m' τ4 H5))
  (hRR:∀(D C:Addr) (H':Hp) (s':bd) (m:Str->Option bb),s'.heap.Ns C m->FpOk X zi H' C->(∀h',ij C s'.heap h'->Inv X zi σ H' { s' with heap:=h' })->Q (.ref D) H'->RR (.ref D) C (.ok .next) s'):
  bn (model X.prog X.w) X.A (newList []) (fun acc s₃=>bn (model X.prog X.w) X.A (newFunctionEnv scope X.env.globals cl [] X.env.qual none .none (some X.env)) (fun ac s₄=>
   kl (model X.prog X.w) X.A (.compStart (.ListComp elt [⟨tg,iter,ifs,0⟩] scope pos) 0 (.ref it) acc { ac with scope:=relabel scope X.env }) (RR acc ac.locals) s₄) E s₃) E s2:=by
 have hD:H2 s2.heap.objs.size=none:=I2.hok.fresh (cz _);obtain⟨W,⟨m0,w0⟩,aj⟩:=hq s2.heap.objs.size hD;have I3:Inv X zi σ (upd H2 s2.heap.objs.size (.lst [])) { s2 with heap:=s2.heap.push { cls:=.type "list",data:=.seq ([]:List bb).toArray } }:=I2.laid (t':=s2.toks) (fun b u e=>bf _ e) (cz _) ⟨ji _,[],0,.nil,cj _ rfl⟩;have fo:∀b∈fp,∃o,s2.heap.get? b=some o:=fun b hb=>by obtain⟨o,e,_⟩:=T.obj 0 _ st2 b hb;exact⟨o,e⟩
 have f3:∀b∈fp,FpOk X zi (upd H2 s2.heap.objs.size (.lst [])) b:=fun b hb=>by
  obtain⟨o,e⟩:=fo b hb;refine⟨?_,(f2 b hb).2⟩;rw[zE (fk (dw e))];exact(f2 b hb).1
 refine gh (wpAny_newFunctionEnv c.cell (by intro y hy;simp at hy) (fun h₁ ag al=>?_) c.kind);have hk:∀b o,(s2.heap.push { cls:=.type "list",data:=.seq ([]:List bb).toArray }).get? b=some o->h₁.get? b=some o:=fun b o e=>al.extBut b o (fk (dw e)) (bf _ e);have ai:tn 0 h₁:=T.keep 0 _ _ st2 fun b _ o e=>hk b o (bf _ e);have I4:=Lm (t':=s2.toks+([]:List (Str×bb)).length) c I3 f3 (fun b hb=>by obtain⟨o,e⟩:=fo b hb;exact⟨o,bf _ e⟩) ag hk;have ab:∀{H':Hp},(∀b∈fp,H' b=none)->∀b∈fp,FpOk (cM X scope cl (s2.heap.push { cls:=.type "list",data:=.seq ([]:List bb).toArray }).objs.size { s2 with heap:=s2.heap.push { cls:=.type "list",data:=.seq ([]:List bb).toArray } } (upd H2 s2.heap.objs.size (.lst [])) fp N) [] H' b:=fun hn b hb=>
  ⟨hn b hb,(I4.ok.exf b hb).1,I4.ok.exfs b hb,.inl hb,(I4.ok.exf b hb).2,fun p hp=>absurd (show p∈([]:List (Addr×Obj))from hp) yv⟩
 have ae:kl (model X.prog X.w) X.A (.compLoop (.ListComp elt [⟨tg,iter,ifs,0⟩] scope pos) 0 (.ref it) (.ref s2.heap.objs.size) (compEnvC scope cl (s2.heap.push { cls:=.type "list",data:=.seq ([]:List bb).toArray }).objs.size X.env))
   (RR (.ref s2.heap.objs.size) (s2.heap.push { cls:=.type "list",data:=.seq ([]:List bb).toArray }).objs.size) { s2 with heap:=h₁,toks:=s2.toks+([]:List (Str×bb)).length }:=by
  refine G3 (fun n s'=>∃i τ H',Inv (cM X scope cl (s2.heap.push { cls:=.type "list",data:=.seq ([]:List bb).toArray }).objs.size { s2 with heap:=s2.heap.push { cls:=.type "list",data:=.seq ([]:List bb).toArray } } (upd H2 s2.heap.objs.size (.lst [])) fp N) [] τ H' s'/\tn i s'.heap/\(∀b∈fp,H' b=none)/\W i n τ H') ?_ m0 ⟨0,_,_,I4,ai,fun b hb=>(f3 b hb).1,w0⟩;rintro n s5 ⟨i,τ,H5,I5,ak,ah,w5⟩;rcases aj i n τ H5 w5 with ⟨stop,qn⟩|⟨go,step⟩
  ·refine thn (T.done (cM X scope cl (s2.heap.push { cls:=.type "list",data:=.seq ([]:List bb).toArray }).objs.size { s2 with heap:=s2.heap.push { cls:=.type "list",data:=.seq ([]:List bb).toArray } } (upd H2 s2.heap.objs.size (.lst [])) fp N) rfl rfl rfl hc i [] s5 τ H5 (fun _ _=>False) I5 (ab ah) ak stop) fun r s6 ⟨hr,I6⟩=>?_;subst hr;obtain⟨m,hn,_⟩:=id I6.loc;exact hRR _ _ H5 s6 m hn (I3.fpOk (cz _) I6.free) (fun h' hs=>Gc I3 f3 I6 hs) qn
  ·refine thn (T.item (cM X scope cl (s2.heap.push { cls:=.type "list",data:=.seq ([]:List bb).toArray }).objs.size { s2 with heap:=s2.heap.push { cls:=.type "list",data:=.seq ([]:List bb).toArray } } (upd H2 s2.heap.objs.size (.lst [])) fp N) rfl rfl rfl hc i [] s5 τ H5 (fun _ _=>False) I5 (ab ah) ak go) fun r s6 ⟨u,hr,h6⟩=>?_;subst hr;refine thn h6 fun _ s7 ⟨x,H7,I7,r7,y7,af,ap⟩=>?_;have I7':=I7.pinned (ab ap) (T.obj _ _ af);refine thn (hg _ _ _ _ _ s7 τ H7 x u _ I7' r7 (step x H7 y7)) fun _ s8 ⟨τ8,H8,I8,q8⟩=>?_;refine thn (ht _ _ _ _ _ s8 τ8 H8 _ I8 q8) fun ok s9 ⟨H9,I9,q9⟩=>?_;have aa:∀{H':Hp}{s':bd}{m:Nat},Inv (cM X scope cl (s2.heap.push { cls:=.type "list",data:=.seq ([]:List bb).toArray }).objs.size { s2 with heap:=s2.heap.push { cls:=.type "list",data:=.seq ([]:List bb).toArray } } (upd H2 s2.heap.objs.size (.lst [])) fp N) ([]++m7 fp s7.heap) τ8 H' s'->(m<n/\W (i+1) m τ8 H') ->
     ∃m,m<n/\∃i τ H',Inv (cM X scope cl (s2.heap.push { cls:=.type "list",data:=.seq ([]:List bb).toArray }).objs.size { s2 with heap:=s2.heap.push { cls:=.type "list",data:=.seq ([]:List bb).toArray } } (upd H2 s2.heap.objs.size (.lst [])) fp N) [] τ H' s'/\tn i s'.heap/\(∀b∈fp,H' b=none)/\W i m τ H':=fun {H' s' m} I' q=>by
    refine⟨m,q.1,i+1,τ8,H',I'.unpinned,T.keep _ _ _ af fun b hb o e=>(I'.pin (b,o) (cp _ (cp _ (tD hb e)))).1,fun b hb=>?_,q.2⟩;obtain⟨o,e,d⟩:=T.obj _ _ af b hb;exact(I'.pin (b,o) (cp _ (cp _ (tD hb e)))).2.1
   cases ok with
   |false=>
    rw[ck gw]at q9 ⊢;obtain⟨m',hm,w9⟩:=q9;exact aa I9 ⟨hm,w9⟩
   |true=>
    rw[cq rfl]at q9 ⊢;refine thn (he _ _ _ _ _ s9 τ8 H9 _ I9 q9) fun v am ⟨z,H10,I10,ao,xs,hx,hz,m',hm,aq⟩=>?_;refine thn (j4 _ am τ8 H10 (.ref s2.heap.objs.size) [z] (.ref s2.heap.objs.size) [v] (fun _ H11=>W (i+1) m' τ8 H11) I10 rfl (.cons ao .nil) ⟨_,xs,z,rfl,rfl,hx,hz,aq⟩) fun _ ar ⟨_,H11,I11,_,an⟩=>?_;exact aa I11 ⟨hm,an⟩
 exact codeAny_compStart_list ae (T.self _ 0 _ _ _ ai ae)
theorem bX(hx:∀e s,X.xe e s->False)(hc:X.calm=true)(c:CompOk X scope cl N caps)(hi:PI X tg iter wi)(hg:∀C s H fp,PG (cM X scope cl C s H fp N) tg g)(ht:∀C s H fp,PTs (cM X scope cl C s H fp N) ifs tt)(he:∀C s H fp,PE (cM X scope cl C s H fp N) elt te)
  (hs:∀x,foldedSetIterable iter X.env x=pure x:=by intro _;rfl):PE X (.ListComp elt [⟨tg,iter,ifs,0⟩] scope pos) (kQ caps wi g tt te):=by
 intro zi s σ H Q I h;rw[eval_ListComp];refine wpAny_comprehension_free (use:=none) rfl hs c.clos c.kind c.names (thn (hi zi s σ H _ I h) fun v s1 h1=>thn h1 fun aa s2 h2=>?_);obtain⟨it,fp,tn,J,H2,e,I2,T,z,f2,q2⟩:=h2;subst e;exact BL (RR:=fun acc C=>compPost (model X.prog X.w) X.A X.xe none (EP X zi σ Q) acc C) hc c I2 T z f2 hg ht he Q q2 fun D C H' s' m hn _ hb q=>⟨m,hn,fun h' hs=>⟨.ref D,H',hb h' hs,rfl,q⟩⟩
theorem nJ{i:Nat}{y:Str}{py aa:Pos}(hx:∀e s,X.xe e s->False)(hc:X.calm=true)(c:CompOk X scope cl N caps)(hN:X.N.Nodup)(ab:X.N[i]?=some y)(hl:X.env.scope.names.lookup y=some .local)(hi:PI X tg iter wi)(hg:∀C s H fp,PG (cM X scope cl C s H fp N) tg g)
  (ht:∀C s H fp,PTs (cM X scope cl C s H fp N) ifs tt) (he:∀C s H fp,PE (cM X scope cl C s H fp N) elt te)
  (hsw:swapsWith (.ListComp elt [⟨tg,iter,ifs,0⟩] scope pos) (some (.Name y py)) aa.line X.env=pure true:=by rfl)
  (hs:∀x,foldedSetIterable iter X.env x=pure x:=by intro _;rfl):PS X (.Assign [.Name y py] (.ListComp elt [⟨tg,iter,ifs,0⟩] scope pos) aa) (m8 (kQ caps wi g tt te) (kC i)):=by
 intro zi s σ H D I h;rw[exec_Assign_Name_used _ _ _ _ hsw];refine ba (wpAny_standAt (ba ?_));show bn _ X.A (do let _ <- comprehension (.ListComp elt [⟨tg,iter,ifs,0⟩] scope pos) scope X.env _ (newList []) false (eval iter X.env) (some (assign (.Name y py) X.env))) _ _ s;refine ba (og (wpAny_comprehension_free (use:=some (assign (.Name y py) X.env)) (Q:=fun _ s'=>SP X zi D .next s') rfl hs c.clos c.kind c.names (thn (hi zi s σ H _ I h) fun v s1 h1=>thn h1 fun ae s2 h2=>?_)) (fun _ s' hq=>be (be hq)) fun _ _ e=>e);obtain⟨it,fp,tn,J,H2,e,I2,T,ac,f2,q2⟩:=h2;subst e;refine BL (RR:=fun acc C=>compPost (model X.prog X.w) X.A X.xe (some (assign (.Name y py) X.env)) (fun _ s'=>SP X zi D .next s') acc C) hc c I2 T ac f2 hg ht he (fun v H'=>D.nx (σ.set i (some v)) H') q2 fun Da C H' s' m hn f hb q=>?_;obtain⟨o,es,ep,ho,hd,r⟩:=hn;have I':Inv X zi σ H' s':=hb s'.heap (Heap.SameBut.refl _ _);have I'':Inv X (zi++[(C,o)]) σ H' s':=I'.pins_of fun p hp=>(mem_append.mp hp).elim (fun z=>I'.pin p (cp _ z)) fun z=>by
  cases mem_singleton.mp z;exact⟨ho,f.1,f.2.1,f.2.2.1,fun v e=>by rw[hd]at e;cases e⟩
 refine wpAny_assign_Name (vN I'' hN ab (.inl hl) (show RelV (V.ref Da) (fb Da)from rfl) (fun s2 J2=>?_) (.inr hl));refine⟨m,⟨o,es,ep,(J2.pin (C,o) (cp _ (cp _ (mem_singleton.mpr rfl)))).1,hd,r⟩,fun h' hs=>?_⟩;exact⟨_,H',J2.unpinned.turned (t':=s2.toks) (fun b ob nb e=>hs.extBut b ob nb e) f.1 f.2.1 f.2.2.2.1 f.2.2.2.2.1 f.2.2.2.2.2,q⟩
end
def cX(env:Env):List (Str×lg)->List (Str×Addr)->List (Str×Addr)
 | [],acc=>acc
 | (n,k)::r,acc=>cX env r (if k==.free then (n,(env.cells.lookup n).getD 0)::acc else acc)
theorem xD{env:Env}{x:Str}{c:Addr}:∀{names:List (Str×lg)}{acc:List (Str×Addr)},(x,c)∈cX env names acc->(x,c)∈acc\/((x,NameKind.free)∈names/\c=(env.cells.lookup x).getD 0)
 | [],_,h=>.inl h
 | (n,k)::r,acc,h=>by
  rcases xD (names:=r) h with h|⟨h,e⟩
  ·by_cases hk:k==.free
   ·rw[cq hk]at h;rcases mem_cons.mp h with h|h
    ·cases h;have:k=.free:=by simpa using hk
     subst this;exact .inr ⟨br,rfl⟩
    ·exact .inl h
   ·rw[ck hk]at h;exact .inl h
  ·exact .inr ⟨bp _ h,e⟩
theorem D6{env:Env}{p:Str×Addr}:∀{names:List (Str×lg)}{acc:List (Str×Addr)},p∈acc->p∈cX env names acc
 | [],_,h=>h
 | (n,k)::r,acc,h=>D6 (names:=r) (by split<;>first|exact bp _ h|exact h)
theorem vB{env:Env}{x:Str}:∀{names:List (Str×lg)}{acc:List (Str×Addr)},(x,NameKind.free)∈names->∃c,(x,c)∈cX env names acc
 | (n,k)::r,acc,h=>by
  rcases mem_cons.mp h with h|h
  ·cases h;exact⟨_,D6 (names:=r) (by rw[cq dz];exact br)⟩
  ·exact vB (names:=r) h
theorem vF{β:Type}{x:Str}{c:β}:∀{l:List (Str×β)},(x,c)∈l->∃c',l.lookup x=some c'
 | (n,v)::r,h=>by
  cases e:x==n with
  |true=>exact⟨v,by rw[jq,e]⟩
  |false=>
   rcases mem_cons.mp h with h|h
   ·cases h;simp at e
   ·obtain⟨c',q⟩:=vF (l:=r) h;exact⟨c',by rw[jq,e];exact q⟩
theorem Ce{env:Env}{scope:Scope}(h:∀y∈scope.names,y.2=.free->(env.cells.lookup y.1).isSome=true):closureFor scope env=pure (cX env scope.names []):=by
 have go:∀(names:List (Str×lg)) (acc:List (Str×Addr)),(∀y∈names,y.2=.free->(env.cells.lookup y.1).isSome=true) ->
   (forIn names acc (fun(x:Str×lg) (cs:List (Str×Addr))=>(if x.2==.free then (do let c <- cellOf env x.1;pure (oz ((x.1,c)::cs)))else pure (oz cs):Sem (ForInStep (List (Str×Addr))))))=(pure (cX env names acc):Sem (List (Str×Addr))):=by
  intro names;induction names with
  |nil=>intro acc _;rfl
  |cons y r ih=>
   intro acc hy;obtain⟨n,k⟩:=y;rw[List.forIn_cons];by_cases hk:k==.free
   ·have hs:=hy (n,k) br (by simpa using hk);obtain⟨c,hc⟩:=isSome_iff_exists.mp hs;have z:env.cells.lookup n=some c:=hc;simp only[hk,if_true,cellOf,z,pure_bind,cX,Option.getD_some];exact ih _ fun y q=>hy y (bp _ q)
   ·simp only[hk,iu,if_false,pure_bind,cX];exact ih _ fun y q=>hy y (bp _ q)
 have g:=go scope.names [] h;exact(bind_pure _).trans g
def aY(DN:List Str)(dsc sc:List (Str×lg))(N:List Str)(caps:List (Option Nat)):Bool:=
 (caps.length==N.length)&&sc.all (fun y=>y.2 != .cell&&(y.2 != .free||dsc.lookup y.1==some .cell)&&(y.2 != .local||sc.lookup y.1==some .local)) &&
 (caps.zip N).all fun p=>match p.1 with|none=>true|some i=>DN[i]?==some p.2&&dsc.lookup p.2==some .cell&&sc.lookup p.2==some .free
theorem wA{dsc:List (Str×lg)}{env:Env}{x:Str}{k:lg}:∀{names:List (Str×lg)},(names.map fun(n,k)=>if (k==.free&&env.scope.kind==.function&&env.kindOf n==some .cell)then (n,.cell)else (n,k)).lookup x=some k ->
  ∃k',names.lookup x=some k'/\(k'=k\/(k'=.free/\k=.cell))
 | [],h=>by simp at h
 | (n,k0)::r,h=>by
  cases e:x==n with
  |true=>
   refine⟨k0,by rw[jq,e],?_⟩;rw[ft]at h;dsimp only at h;split at h
   ·rename_i hc;rw[jq,e]at h;have:k0=.free:=by simp at hc;exact hc.1.1
    cases h;exact .inr ⟨this,rfl⟩
   ·rw[jq,e]at h;cases h;exact .inl rfl
  |false=>
   rw[ft]at h;dsimp only at h;have h':(r.map fun(n,k)=>if (k==NameKind.free&&env.scope.kind==.function&&env.kindOf n==some .cell)then (n,NameKind.cell)else (n,k)).lookup x=some k:=by
    split at h<;>(rw[jq,e]at h;exact h)
   obtain⟨k',q,z⟩:=wA (dsc:=dsc) h';exact⟨k',by rw[jq,e];exact q,z⟩
theorem AS{env:Env}{x:Str}(h1:env.scope.kind=.function)(h2:env.kindOf x=some .cell):∀{names:List (Str×lg)},names.lookup x=some .free ->
  (names.map fun(n,k)=>if (k==.free&&env.scope.kind==.function&&env.kindOf n==some .cell)then (n,.cell)else (n,k)).lookup x=some .cell
 | [],h=>by simp at h
 | (n,k0)::r,h=>by
  rw[ft];cases e:x==n with
  |true=>
   rw[jq,e]at h;cases h;have en:x=n:=by simpa using e
   subst en;dsimp only;rw[cq (by rw[h1,h2];decide),jq,e]
  |false=>
   rw[jq,e]at h;have ih:=AS h1 h2 (names:=r) h;dsimp only;split<;>(rw[jq,e];exact ih)
theorem zI{X:Cx}{dsc:Scope}{L:Nat}{scope:Scope}{N:List Str}{caps:List (Option Nat)}(hd:X.env.scope=dsc)(hc:X.env.cells=cellsFrom L dsc.names [])(af:dsc.kind=.function)(hk:scope.kind=.function)(h:aY X.N dsc.names scope.names N caps=true):
  CompOk X scope (cX X.env scope.names []) N caps:=by
 subst hd;simp only[aY,fu,kq,beq_iff_eq]at h;obtain⟨⟨hl,hs⟩,hz⟩:=h;have aa:∀y∈scope.names,y.2=.free->X.env.scope.names.lookup y.1=some .cell:=fun y hy e=>by
  have q:=(hs y hy).1.2;rw[e]at q;simpa using q
 have ab:∀y∈scope.names,y.2≠.cell:=fun y hy e=>by
  have q:=(hs y hy).1.1;rw[e]at q;simp at q
 have ac:∀x,X.env.scope.names.lookup x=some .cell->(X.env.cells.lookup x).isSome=true:=fun x e=>by
  rw[hc];exact qj _ _ _ (.inl e)
 have sub:∀x c,(cX X.env scope.names []).lookup x=some c->X.env.cells.lookup x=some c:=fun x c e=>by
  rcases xD (PySem.mem_of_lookup e)with q|⟨q,ec⟩
  ·cases q
  ·obtain⟨c',ae⟩:=isSome_iff_exists.mp (ac x (aa _ q rfl));rw[ec,ae];rfl
 refine⟨Ce fun y hy e=>ac y.1 (aa y hy e),sub,hk,ab,fun y hy e=>?_,fun x hx=>?_,fun j i x h1 h2=>?_,hl⟩
 ·have q:=(hs y hy).2;rw[e]at q;simpa using q
 ·have fin:(x,NameKind.free)∈scope.names->∃c,(cX X.env scope.names []).lookup x=some c:=fun m=>by
   obtain⟨c,hm⟩:=vB (env:=X.env) (acc:=[]) m;exact vF hm
  rcases hx with hx|hx
  ·obtain⟨k',q,z⟩:=wA (dsc:=[]) hx;rcases z with rfl|⟨rfl,_⟩
   ·exact absurd rfl (ab _ (PySem.mem_of_lookup q))
   ·exact fin (PySem.mem_of_lookup q)
  ·obtain⟨k',q,z⟩:=wA (dsc:=[]) hx;rcases z with rfl|⟨_,z⟩
   ·exact fin (PySem.mem_of_lookup q)
   ·cases z
 ·have hm:(some i,x)∈caps.zip N:=by
   have:(caps.zip N)[j]?=some (some i,x):=by rw[List.getElem?_zip_eq_some];exact⟨h1,h2⟩
   exact bw this
  have q:=hz _ hm;simp only[fu,beq_iff_eq]at q;obtain⟨⟨q1,q2⟩,q3⟩:=q;obtain⟨c,ag⟩:=vB (env:=X.env) (acc:=[]) (PySem.mem_of_lookup q3);obtain⟨c',ae⟩:=vF ag;refine⟨q1,.inr (.inl q2),fun z=>?_,c',ae,.inl (AS af q2 q3)⟩;have z':X.env.scope.names.lookup x=some .local:=z;rw[q2]at z';cases z'
end
section
section
variable {X:Cx}
def CS:R2:=fun x y H Q=>∃z n,x=.str z/\y=.int n/\z.length<=1000/\n<=1000/\-1000<=n/\Q (.str (PySem.Txt.mul z n)) H
theorem Gr{z:Str}{n:Int}(h1:z.length<=1000)(h2:n<=1000)(h3:-1000<=n):PySem.MulOk z n:=by
 refine⟨by simp;omega,fun a _ b=>?_,fun a _=>?_⟩
 ·have e:(1000:Int)<=(2 ^ 63-1)/n:=by
   rw[Int.le_ediv_iff_mul_le yw];have:=Int.mul_le_mul_of_nonneg_left h2 (show (0:Int)<=1000 by decide);omega
  omega
 ·have e:z.length*n.toNat<=1000*1000:=mul_le_mul h1 yw;unfold Builtin.Str.tooLong;simp only[decide_eq_false_iff_not,Nat.not_lt];exact fv e dz
theorem Fq:OpR X (km .Mult) CS:=by
 intro zi s σ H x y v u Q I rx ry h;obtain⟨z,n,rfl,rfl,h1,h2,h3,q⟩:=h;obtain⟨t,rfl⟩:=rx;obtain⟨t',rfl⟩:=ry;exact PySem.SB.mul (Gr h1 h2 h3) fun _ k=>⟨.str _,H,I.tok _,⟨_,rfl⟩,q⟩
def Cg:V->Option Int->Option Int->Hp->VK->Prop:=fun x lo hi H Q=>∃z,x=.str z/\z.length<=df/\Q (.str (PySem.Txt.slice z lo hi)) H
theorem HM:SlR X Cg:=by
 intro zi s σ H x v vl vu lo hi sl Q I rx hs pl pu h;obtain⟨z,rfl,hz,q⟩:=h;obtain⟨t,rfl⟩:=rx;refine⟨"str",_,F.slot_str_getitem.lookup,typeIs_str _ _ _,?_⟩;have fin:∀(a b:Option (Int×Tok)),a.map (·.1)=lo->b.map (·.1)=hi->s.heap.IsSlice sl a b none->bn (model X.prog X.w) X.A (getItem (.str z t) (.ref sl)) (EP X zi σ Q) X.xe s:=fun a b e1 e2 aa=>by
  subst e1 e2;exact wpAny_getItem_str_slice (l:=a) (u:=b) (st:=none) aa rfl (post_val_or_str ⟨fv (PySem.Txt.slice_le z _ _) hz,fun _ k=>⟨.str _,H,I.tok _,⟨_,rfl⟩,q⟩⟩)
 cases pl with
 |none=>
  cases pu with
  |none=>exact fin none none rfl rfl hs
  |int j tj=>exact fin none (some (j,tj)) rfl rfl hs
 |int i ti=>
  cases pu with
  |none=>exact fin (some (i,ti)) none rfl rfl hs
  |int j tj=>exact fin (some (i,ti)) (some (j,tj)) rfl rfl hs
theorem ER:∀{zs:List Str}{us:List bb},Vals (zs.map V.str) us->StrsAre us zs
 | [],_,.nil=>.nil
 |z::zs,_,.cons r t=>by
  obtain⟨tk,rfl⟩:=r;exact .cons z tk (ER t)
def A0(K:bx):V->List V->Hp->VK->Prop:=fun x vs H Q=>∃z a zs,x=.str z/\vs=[.ref a]/\SqL K H a (zs.map V.str)/\z.length<=16/\zs.length<=1000/\(∀y∈zs,y.length<=1000)/\Q (.str (PySem.Txt.join z zs)) H
theorem Dh{zs:List Str}(h:∀y∈zs,y.length<=1000):(zs.map (·.length)).sum<=zs.length*1000:=by
 induction zs with
 |nil=>simp
 |cons z zs ih=>
  have h1:=h z br;have h2:=ih fun y hy=>h y (bp _ hy);simp only[ft,sum_cons,cw,add_mul,Nat.one_mul];omega
theorem Im:MtR X "str.join" (A0 X.K):=by
 intro zi s σ H x vs v us Q I rx rv h;obtain⟨z,a,zs,rfl,rfl,hq,hz,hn,hl,q⟩:=h;obtain⟨t,rfl⟩:=rx;obtain⟨u,rfl,r1⟩:=rv.one;cases r1;obtain⟨aa,r,pl,hsz⟩:=I.list hq;have hs:=Dh hl;refine join_listW pl.isList (by simpa using ER r) hz yw fun _ k=>⟨.str _,H,I.tok _,⟨_,rfl⟩,q⟩
end
section
variable {K:bx}{o:List Addr}{σ:St}{H0:Hp}{t:TE}{ta:TA}{ds:List bc}
def d7(lo:Int)(n:Nat):List bc:=(dm n).map fun k:Nat=>.int (lo+k)
theorem kZ{lo:Int}{n:Nat}:(d7 lo n).length=n:=by simp[d7]
theorem rO{lo:Int}{n i:Nat}{d:bc}(h:(d7 lo n)[i]?=some d):i<n/\d=.int (lo+i):=by
 have hi:i<n:=by
  have:=List.getElem?_eq_some_iff.mp h;obtain⟨hl,_⟩:=this
  rwa [kZ]at hl
 refine⟨hi,?_⟩;simp only[d7,fh,qe hi,map_some,Option.some.injEq]at h;exact h.symm
end
theorem JK{y:Str}{zs:List Str}(hy:y.length<=16)(hz:∀z∈zs,z.length<=1000):(PySem.Txt.join y zs).length<=zs.length*1016:=by
 show (Builtin.Str.glued y zs).length<=_;rw[StrLaws.glued_eq_join];cases zs with
 |nil=>exact ji _
 |cons a r=>
  rw[len_join_cons];have h1:=Dh hz;have h2:r.length*y.length<=r.length*16:=Nat.mul_le_mul_left _ hy;simp only[cw]at h1 ⊢;omega
def aS{α:Type}(xs:List α)(lo hi:Option Int):List α:=(xs.drop (HT.sIx xs.length 0 lo)).take (HT.sIx xs.length xs.length hi-HT.sIx xs.length 0 lo)
theorem HasL.drop{H:Hp}:∀{ds:List bc}{vs:List V} (n:Nat),HasL H ds vs->HasL H (ds.drop n) (vs.drop n)
 |ds,vs,0,h=>h
 | [],vs,n+1,h=>by rw[zv.mp h];exact zv.mpr rfl
 |d::ds,vs,n+1,h=>by
  obtain⟨v,r,rfl,_,l⟩:=zo.mp h;exact HasL.drop n l
theorem HasL.take{H:Hp}:∀{ds:List bc}{vs:List V} (n:Nat),HasL H ds vs->HasL H (ds.take n) (vs.take n)
 |ds,vs,0,h=>zv.mpr rfl
 | [],vs,n+1,h=>by rw[zv.mp h];exact zv.mpr rfl
 |d::ds,vs,n+1,h=>by
  obtain⟨v,r,rfl,q,l⟩:=zo.mp h;exact zo.mpr ⟨v,_,rfl,q,HasL.take n l⟩
theorem HasL.cut{H:Hp}{ds:List bc}{vs:List V}(lo hi:Option Int)(h:HasL H ds vs):HasL H (aS ds lo hi) (dX vs lo hi):=by
 unfold aS dX;rw[h.length];exact(h.drop _).take _
theorem HasL.rev{H:Hp}:∀{ds:List bc}{vs:List V},HasL H ds vs->HasL H ds.reverse vs.reverse
 | [],vs,h=>by rw[zv.mp h];exact zv.mpr rfl
 |d::ds,vs,h=>by
  obtain⟨v,r,rfl,q,l⟩:=zo.mp h;rw[reverse_cons,reverse_cons];exact(HasL.rev l).append (zo.mpr ⟨v,[],rfl,q,zv.mpr rfl⟩)
end
section
theorem Ag:∀{l:List Addr}{H:Hp}{b:Addr}{u:HO},vw l H b=some u↔b∉l/\H b=some u
 | [],H,b,u=>by simp[vw]
 |a::r,H,b,u=>by
  show hid a (vw r H) b=some u↔_;by_cases h:b=a
  ·subst h;simp[JW]
  ·rw[Id h,Ag];simp[h]
def vx(h o:List Addr)(H:Hp):Hp:=vw (h++o) H
theorem zP{h o:List Addr}{H:Hp}{b:Addr}{u:HO}:vx h o H b=some u↔b∉h/\b∉o/\H b=some u:=by
 unfold vx;rw[Ag];simp[and_assoc]
theorem zW{h o:List Addr}{H:Hp}:Same (vx h o H) H:=fun b u e=>(zP.mp e).2.2
theorem wX{h o:List Addr}{H H':Hp}(s:Same H H'):Same (vx h o H) (vx h o H'):=fun b u e=>by
 obtain⟨h1,h2,h3⟩:=zP.mp e;exact zP.mpr ⟨h1,h2,s b u h3⟩
structure Ex(o:List Addr)(H:Hp)(o':List Addr)(H':Hp):Prop where
 pre:∃r,o'=o++r
 kp:∀b u,b∉o->H b=some u->b∉o'/\H' b=some u
section
variable {h o o' o'':List Addr}{H H' H'':Hp}{S:List (List bc)}{p a:Addr}
theorem Ex.refl:Ex o H o H:=⟨⟨[],yv⟩,fun _ _ a b=>⟨a,b⟩⟩
theorem Ex.trans(a:Ex o H o' H')(b:Ex o' H' o'' H''):Ex o H o'' H'':=by
 obtain⟨⟨r,e⟩,ka⟩:=a;obtain⟨⟨t,e'⟩,kb⟩:=b;refine⟨⟨r++t,by rw[e',e,ja]⟩,fun b u h1 h2=>?_⟩;obtain⟨h3,h4⟩:=ka b u h1 h2;exact kb b u h3 h4
theorem Ex.vx(e:Ex o H o' H'):Same (L2.vx h o H) (L2.vx h o' H'):=fun b u q=>by
 obtain⟨h1,h2,h3⟩:=zP.mp q;obtain⟨h4,h5⟩:=e.kp b u h2 h3;exact zP.mpr ⟨h1,h4,h5⟩
structure ExH(h o:List Addr)(H:Hp)(o':List Addr)(H':Hp):Prop where
 pre:∃r,o'=o++r
 kp:∀b u,b∉h->b∉o->H b=some u->b∉o'/\H' b=some u
theorem Ex.hid(e:Ex o H o' H'):ExH h o H o' H':=⟨e.pre,fun b u _=>e.kp b u⟩
theorem ExH.refl:ExH h o H o H:=Ex.refl.hid
theorem ExH.trans(a:ExH h o H o' H')(b:ExH h o' H' o'' H''):ExH h o H o'' H'':=by
 obtain⟨⟨r,e⟩,ka⟩:=a;obtain⟨⟨t,e'⟩,kb⟩:=b;refine⟨⟨r++t,by rw[e',e,ja]⟩,fun b u h0 h1 h2=>?_⟩;obtain⟨h3,h4⟩:=ka b u h0 h1 h2;exact kb b u h0 h3 h4
theorem ExH.vx(e:ExH h o H o' H'):Same (L2.vx h o H) (L2.vx h o' H'):=fun b u q=>by
 obtain⟨h1,h2,h3⟩:=zP.mp q;obtain⟨h4,h5⟩:=e.kp b u h1 h2 h3;exact zP.mpr ⟨h1,h4,h5⟩
theorem Ex.of_same(s:Same H H'):Ex o H o H':=⟨⟨[],yv⟩,fun b u h e=>⟨h,s b u e⟩⟩
theorem fP{α:Type}{l t:List α}{k:Nat}{a:α}(q:l[k]?=some a):(l++t)[k]?=some a:=by
 obtain⟨hk,_⟩:=List.getElem?_eq_some_iff.mp q;rw[dj hk];exact q
def exO(a C:Addr)(d:Option Addr):HO:=.ext fun h=>∃o,h.get? a=some o/\o.cls=.ref C/\o.dict=d/\∃vs,o.data=.fields vs/\vs[2]?=some .none
def xw(dx:Addr)(fs:List (Str×V)):HO:=.ext fun h=>∃mA,h.Ns1 dx mA/\(∀f,RelO (fs.lookup f) (mA f))/\PySem.Within mA (fs.map (·.1))
def HasE(H:Hp)(C:Addr)(fs:List (Str×bc))(v:V):Prop:=∃a d,v=.ref a/\H a=some (exO a C d)/\∀f dt,fs.lookup f=some dt->∃dx vs u,d=some dx/\H dx=some (xw dx vs)/\vs.lookup f=some u/\Has H dt u
theorem HasE.mono{H H':Hp}{C:Addr}{fs:List (Str×bc)}{v:V}(s:Same H H')(q:HasE H C fs v):HasE H' C fs v:=by
 obtain⟨a,d,e,ha,hf⟩:=q;refine⟨a,d,e,s _ _ ha,fun f dt l=>?_⟩;obtain⟨dx,vs,u,e1,e2,e3,e4⟩:=hf f dt l;exact⟨dx,vs,u,e1,s _ _ e2,e3,Has.mono s _ _ e4⟩
inductive XV where
 |d (d:bc)
 |l (k:Nat)
 |o (v:V)
 |x (C:Addr) (fs:List (Str×bc))
 |p (k:Nat) (d:bc)
 |i (C:Addr) (fs:List (Str×(bc ⊕ V)))
def HasF(H:Hp):bc ⊕ V->V->Prop
 | .inl d,u=>Has H d u
 | .inr w,u=>u=w
def HasI(H:Hp)(C:Addr)(fs:List (Str×(bc ⊕ V)))(v:V):Prop:=∃a dx vs,v=.ref a/\H a=some (.ins C dx vs)/\(∀f,fs.lookup f=none->vs.lookup f=none)/\∀f e,fs.lookup f=some e->∃u,vs.lookup f=some u/\HasF H e u
theorem HasI.mono{H H':Hp}{C:Addr}{fs:List (Str×(bc ⊕ V))}{v:V}(s:Same H H')(q:HasI H C fs v):HasI H' C fs v:=by
 obtain⟨a,dx,vs,e,ha,hn,hf⟩:=q;refine⟨a,dx,vs,e,s _ _ ha,hn,fun f e l=>?_⟩;obtain⟨u,e1,e2⟩:=hf f e l;refine⟨u,e1,?_⟩;cases e with
 |inl d=>exact Has.mono s _ _ e2
 |inr w=>exact e2
def HasLP(h o:List Addr)(H:Hp)(k:Nat)(d:bc)(v:V):Prop:=∃t a u,v=.ref t/\o[k]?=some a/\vx h o H t=some (.tup [.ref a,u])/\Has (vx h o H) d u
theorem HasLP.to{h':List Addr}{k:Nat}{d:bc}{v:V}(s:Same (vx h o H) (vx h' o' H'))(e:∀a,o[k]?=some a->o'[k]?=some a)(q:HasLP h o H k d v):HasLP h' o' H' k d v:=by
 obtain⟨t,a,u,e1,e2,e3,e4⟩:=q;exact⟨t,a,u,e1,e a e2,s _ _ e3,Has.mono s _ _ e4⟩
def HasX(h o:List Addr)(H:Hp):XV->V->Prop
 | .d d,v=>Has (vx h o H) d v
 | .l k,v=>∃a,o[k]?=some a/\v=.ref a
 | .o w,v=>v=w
 | .x C fs,v=>HasE (vx h o H) C fs v
 | .p k d,v=>HasLP h o H k d v
 | .i C fs,v=>HasI (vx h o H) C fs v
theorem HasX.mono(e:Ex o H o' H'):∀{x:XV}{v:V},HasX h o H x v->HasX h o' H' x v
 | .d d,v,q=>Has.mono e.vx d v q
 | .l k,v,⟨a,q,r⟩=>by
  obtain⟨t,rfl⟩:=e.pre;exact⟨a,fP q,r⟩
 | .o w,v,q=>q
 | .x C fs,v,q=>HasE.mono e.vx q
 | .i C fs,v,q=>HasI.mono e.vx q
 | .p k d,v,q=>by
  have ev:=e.vx (h:=h);obtain⟨t,rfl⟩:=e.pre;exact HasLP.to ev (fun a z=>fP z) q
def HasXs(h o:List Addr)(H:Hp):List XV->List V->Prop
 | [],vs=>vs=[]
 |x::xs,vs=>∃v r,vs=v::r/\HasX h o H x v/\HasXs h o H xs r
theorem HasXs.mono(e:Ex o H o' H'):∀{xs:List XV}{vs:List V},HasXs h o H xs vs->HasXs h o' H' xs vs
 | [],_,q=>q
 |x::xs,vs,⟨v,r,e1,q,l⟩=>⟨v,r,e1,q.mono e,HasXs.mono e l⟩
abbrev Sto:=List (List bc)
inductive MO where
 |l (vs:List V)
 |k (m:List (Key×V))
 |t (m:List (List Key×V))
 |x (a:Addr) (ob:Obj)
def MO.ho:MO->HO
 | .l vs=>.lst vs
 | .k m=>.dK m
 | .t m=>.dT m
 | .x a ob=>obO a ob
structure RepS(h o:List Addr)(H:Hp)(S:Sto):Prop where
 len:S.length=o.length
 nd:o.Nodup
 dis:∀a∈o,a∉h
 hal:∀b∈h,∃u:MO,H b=some u.ho
 cont:∀(k:Nat) (a:Addr) (ds:List bc),o[k]?=some a->S[k]?=some ds->∃vs,H a=some (.lst vs)/\HasL (vx h o H) ds vs
theorem HQ{α β:Type}{l:List α}{t:List β}{k:Nat}{a:α}(hl:t.length=l.length)(q:l[k]?=some a):∃b,t[k]?=some b:=by
 obtain⟨hk,_⟩:=List.getElem?_eq_some_iff.mp q;exact⟨t[k]'yw,bi _⟩
theorem RepS.oal(r:RepS h o H S):∀a∈o,∃u,H a=some (.lst u):=fun a ha=>by
 obtain⟨k,hk⟩:=mem_iff_getElem?.mp ha;obtain⟨ds,e⟩:=HQ r.len hk;obtain⟨vs,e',_⟩:=r.cont k a ds hk e;exact⟨_,e'⟩
theorem RepS.oam(r:RepS h o H S):∀a∈o,∃u:MO,H a=some u.ho:=fun a ha=>let ⟨u,e⟩:=r.oal a ha;⟨.l u,e⟩
theorem RepS.fresh(r:RepS h o H S)(hp:H p=none):p∉h/\p∉o:=by
 constructor
 ·intro m;obtain⟨u,e⟩:=r.hal p m;rw[hp]at e;cases e
 ·intro m;obtain⟨u,e⟩:=r.oal p m;rw[hp]at e;cases e
theorem RepS.same(r:RepS h o H S)(s:Same H H'):RepS h o H' S where
 len:=r.len
 nd:=r.nd
 dis:=r.dis
 hal:=fun b m=>by obtain⟨u,e⟩:=r.hal b m;exact⟨u,s b _ e⟩
 cont:=fun k a ds e1 e2=>by
  obtain⟨vs,e3,l⟩:=r.cont k a ds e1 e2;exact⟨vs,s _ _ e3,HasL.mono (wX s) _ _ l⟩
theorem RepS.laid{u:HO}(r:RepS h o H S)(hp:H p=none):vx h o (upd H p u) p=some u:=by
 obtain⟨h1,h2⟩:=r.fresh hp;exact zP.mpr ⟨h1,h2,zK⟩
theorem Ex.new{u:HO}(r:RepS h o H S)(hp:H p=none):Ex o H (o++[p]) (upd H p u):=by
 refine⟨⟨[p],rfl⟩,fun b w hb e=>?_⟩;have ne:b≠p:=zL e hp;exact⟨by simp[hb,ne],by rw[zE ne];exact e⟩
theorem oH{α:Type}{l:List α}{a:α}(h:l.Nodup)(n:a∉l):(l++[a]).Nodup:=by
 rw[nodup_append];refine⟨h,yv,fun x hx y hy e=>?_⟩;rw[ni]at hy;subst hy;subst e;exact n hx
theorem RepS.new{ds:List bc}{vs:List V}(r:RepS h o H S)(hp:H p=none)(l:HasL (vx h o H) ds vs):RepS h (o++[p]) (upd H p (.lst vs)) (S++[ds]):=by
 obtain⟨h1,h2⟩:=r.fresh hp;have ex:Ex o H (o++[p]) (upd H p (.lst vs)):=Ex.new r hp;refine⟨by simp[r.len],oH r.nd h2,fun a ha=>?_,fun b hb=>?_,fun k a es e1 e2=>?_⟩
 ·rcases mem_append.mp ha with ha|ha
  ·exact r.dis a ha
  ·rw[mem_singleton.mp ha];exact h1
 ·obtain⟨u,e⟩:=r.hal b hb;exact⟨u,by rw[zE (zL e hp)];exact e⟩
 ·by_cases hk:k<o.length
  ·rw[dj hk]at e1;rw[dj (by rw[r.len];exact hk)]at e2;obtain⟨ws,e3,l3⟩:=r.cont k a es e1 e2;refine⟨ws,?_,l3.mono ex.vx⟩;rw[zE (zL e3 hp)];exact e3
  ·have z:k=o.length:=by
    obtain⟨q,_⟩:=List.getElem?_eq_some_iff.mp e1;rw[bv,fi]at q;omega
   subst z;rw[bo]at e1;rw[<- r.len,bo]at e2;cases e1;cases e2;exact⟨vs,zK,l.mono ex.vx⟩
theorem Ex.upd{k:Nat}{u:HO}(e:o[k]?=some a):Ex o H o (L2.upd H a u):=
 ⟨⟨[],yv⟩,fun b w hb eb=>⟨hb,by rw[zE (fun z=>hb (by rw[z];exact bw e))];exact eb⟩⟩
theorem pZ{l:List Addr}(h:l.Nodup){i j:Nat}{a:Addr}(e1:l[i]?=some a)(e2:l[j]?=some a):i=j:=by
 obtain⟨hi,e1⟩:=List.getElem?_eq_some_iff.mp e1;obtain⟨hj,e2⟩:=List.getElem?_eq_some_iff.mp e2;exact(List.getElem_inj h).mp (e1.trans e2.symm)
theorem RepS.upd{k:Nat}{ds:List bc}{vs:List V}(r:RepS h o H S)(e:o[k]?=some a)(l:HasL (vx h o H) ds vs):RepS h o (L2.upd H a (.lst vs)) (S.set k ds):=by
 have ex:Ex o H o (L2.upd H a (.lst vs)):=Ex.upd e;refine⟨by simp[r.len],r.nd,r.dis,fun b hb=>?_,fun j b es e1 e2=>?_⟩
 ·obtain⟨u,eb⟩:=r.hal b hb;have ne:b≠a:=fun z=>r.dis a (bw e) (z▸hb);exact⟨u,by rw[zE ne];exact eb⟩
 ·by_cases hj:j=k
  ·subst hj;rw[e1]at e;cases e;obtain⟨hk,_⟩:=List.getElem?_eq_some_iff.mp e1;rw[kt (by rw[r.len];exact hk)]at e2;cases e2;exact⟨vs,zK,l.mono ex.vx⟩
  ·rw[lu (ic hj)]at e2;obtain⟨ws,e3,l3⟩:=r.cont j b es e1 e2;have ne:b≠a:=fun z=>hj (pZ r.nd e1 (z▸e));exact⟨ws,by rw[zE ne];exact e3,l3.mono ex.vx⟩
abbrev XE:=List (Option XV)
structure RepE(h o:List Addr)(H:Hp)(δ:XE)(σ:St):Prop where
 len:δ.length=σ.length
 get:∀(i:Nat) x,δ[i]?=some (some x)->∃v,σ[i]?=some (some v)/\HasX h o H x v
variable {δ:XE}{σ:St}
theorem RepE.mono(r:RepE h o H δ σ)(e:Ex o H o' H'):RepE h o' H' δ σ:=⟨r.len,fun i x q=>by
 obtain⟨v,e1,e2⟩:=r.get i x q;exact⟨v,e1,e2.mono e⟩⟩
theorem RepE.set{i:Nat}{x:XV}{v:V}(r:RepE h o H δ σ)(q:HasX h o H x v):RepE h o H (δ.set i (some x)) (σ.set i (some v)):=by
 refine⟨by simp[r.len],fun j y e=>?_⟩;rw[List.getElem?_set]at e ⊢;by_cases hij:i=j
 ·rw[cq hij]at e ⊢;by_cases hl:i<δ.length
  ·rw[cq hl]at e;rw[cq (by rw[<- r.len];exact hl)];cases e;exact⟨v,rfl,q⟩
  ·rw[ck hl]at e;cases e
 ·rw[ck hij]at e ⊢;exact r.get j y e
def eO(caps:List (Option Nat))(δ:XE):XE:=caps.map fun o=>o.bind fun i=>(δ[i]?).join
theorem RepE.tau{caps:List (Option Nat)}(r:RepE h o H δ σ):RepE h o H (eO caps δ) (L2.tau caps σ):=by
 refine⟨by simp[eO,L2.tau],fun i x e=>?_⟩;unfold eO at e;unfold L2.tau;rw[fh]at e ⊢;cases hc:caps[i]? with
 |none=>rw[hc]at e;cases e
 |some c=>
  rw[hc]at e;cases c with
  |none=>cases e
  |some j=>
   have e':(δ[j]?).join=some x:=by simpa using e
   have e2:δ[j]?=some (some x):=by
    cases hd:δ[j]? with
    |none=>rw[hd]at e';cases e'
    |some y=>rw[hd]at e';exact congrArg some (by simpa using e')
   obtain⟨v,e3,e4⟩:=r.get j x e2;exact⟨v,by simp[e3],e4⟩
end
abbrev RX:=XV->Sto->Prop
abbrev DE:=XE->Sto->RX->Prop
abbrev DT:=XE->Sto->(Bool->Sto->Prop)->Prop
abbrev DA:=XE->Sto->(List XV->Sto->Prop)->Prop
abbrev D2:=XV->XV->Sto->RX->Prop
def Cn(h o:List Addr)(H:Hp)(R:RX)(Q:VK):Prop:=∀o' H' S' x v,Ex o H o' H'->RepS h o' H' S'->HasX h o' H' x v->R x S'->Q v H'
theorem Cn.pre{h o o':List Addr}{H H':Hp}{R:RX}{Q:VK}(c:Cn h o H R Q)(e:Ex o H o' H'):Cn h o' H' R Q:=fun o2 H2 S2 x v e2=>c o2 H2 S2 x v (e.trans e2)
def RE(t:TE)(dt:DE):Prop:=∀(h o:List Addr) (H:Hp) (δ:XE) (σ:St) (S:Sto) (R:RX) (Q:VK),RepE h o H δ σ->RepS h o H S->dt δ S R->Cn h o H R Q->t σ H Q
def RT(t:TT)(dt:DT):Prop:=∀(h o:List Addr) (H:Hp) (δ:XE) (σ:St) (S:Sto) (R:Bool->Sto->Prop) (Q:Bool->Hp->Prop),RepE h o H δ σ->RepS h o H S->dt δ S R ->
 (∀o' H' S' b,Ex o H o' H'->RepS h o' H' S'->R b S'->Q b H')->t σ H Q
def RA(t:TA)(dt:DA):Prop:=∀(h o:List Addr) (H:Hp) (δ:XE) (σ:St) (S:Sto) (R:List XV->Sto->Prop) (Q:List V->Hp->Prop),RepE h o H δ σ->RepS h o H S->dt δ S R ->
 (∀o' H' S' xs vs,Ex o H o' H'->RepS h o' H' S'->HasXs h o' H' xs vs->R xs S'->Q vs H')->t σ H Q
def RO(r:R2)(rd:D2):Prop:=∀(h o:List Addr) (H:Hp) (S:Sto) (x y:XV) (v u:V) (R:RX) (Q:VK),RepS h o H S->HasX h o H x v->HasX h o H y u->rd x y S R->Cn h o H R Q->r v u H Q
def RU(r:V->Hp->VK->Prop)(rd:XV->Sto->RX->Prop):Prop:=∀(h o:List Addr) (H:Hp) (S:Sto) (x:XV) (v:V) (R:RX) (Q:VK),RepS h o H S->HasX h o H x v->rd x S R->Cn h o H R Q->r v H Q
def RC(r:List V->Hp->VK->Prop)(rd:List XV->Sto->RX->Prop):Prop:=∀(h o:List Addr) (H:Hp) (S:Sto) (xs:List XV) (vs:List V) (R:RX) (Q:VK),RepS h o H S->HasXs h o H xs vs->rd xs S R->Cn h o H R Q->r vs H Q
def asI:XV->(Int->Prop)->Prop
 | .d (.int i),k=>k i
 |_,_=>False
def asB:XV->(Bool->Prop)->Prop
 | .d (.bool i),k=>k i
 |_,_=>False
def asS:XV->(Str->Prop)->Prop
 | .d (.str i),k=>k i
 |_,_=>False
def asT:XV->(List bc->Prop)->Prop
 | .d (.tuple i),k=>k i
 |_,_=>False
def dU(S:Sto):XV->Option (List bc)
 | .d (.list ds)=>some ds
 | .l k=>S[k]?
 |_=>none
def asL(S:Sto)(x:XV)(k:List bc->Prop):Prop:=∃ds,dU S x=some ds/\k ds
def bO(S:Sto):XV->Option bc
 | .d d=>some d
 | .l k=>(S[k]?).map .list
 | .o _=>none
 | .x _ _=>none
 | .p k d=>(S[k]?).map fun l=>.tuple [.list l,d]
 | .i _ _=>none
def asD(x:XV)(k:bc->Prop):Prop:=match x with
 | .d d=>k d
 |_=>False
theorem bB{x:XV}{k:Int->Prop}(h:asI x k):∃i,x=.d (.int i)/\k i:=by
 unfold asI at h;split at h
 ·exact⟨_,rfl,h⟩
 ·exact h.elim
theorem i6{x:XV}{k:Bool->Prop}(h:asB x k):∃i,x=.d (.bool i)/\k i:=by
 unfold asB at h;split at h
 ·exact⟨_,rfl,h⟩
 ·exact h.elim
theorem uB{x:XV}{k:Str->Prop}(h:asS x k):∃i,x=.d (.str i)/\k i:=by
 unfold asS at h;split at h
 ·exact⟨_,rfl,h⟩
 ·exact h.elim
theorem p9{x:XV}{k:List bc->Prop}(h:asT x k):∃i,x=.d (.tuple i)/\k i:=by
 unfold asT at h;split at h
 ·exact⟨_,rfl,h⟩
 ·exact h.elim
theorem fI{x:XV}{k:bc->Prop}(h:asD x k):∃i,x=.d i/\k i:=by
 unfold asD at h;split at h
 ·exact⟨_,rfl,h⟩
 ·exact h.elim
section
variable {h o:List Addr}{H:Hp}{S:Sto}{x:XV}{v:V}{i:Int}{b:Bool}{z:Str}{ds:List bc}{d:bc}
theorem bE(q:HasX h o H (.d (.int i)) v):v=.int i:=(eU (H:=vx h o H)).mp q
theorem f6(q:HasX h o H (.d (.bool b)) v):v=.bl b:=(iD (H:=vx h o H)).mp q
theorem dW(q:HasX h o H (.d (.str z)) v):v=.str z:=(hV (H:=vx h o H)).mp q
theorem gL(q:HasX h o H (.d (.tuple ds)) v):∃a vs,v=.ref a/\H a=some (.tup vs)/\HasL (vx h o H) ds vs:=by
 obtain⟨a,vs,e,q,l⟩:=cO.mp (show Has _ _ _ from q);exact⟨a,vs,e,zW _ _ q,l⟩
theorem bV(r:RepS h o H S)(e:dU S x=some ds)(q:HasX h o H x v):∃a vs,v=.ref a/\H a=some (.lst vs)/\HasL (vx h o H) ds vs:=by
 unfold dU at e;split at e
 ·cases e;obtain⟨a,vs,e,q,l⟩:=dA.mp (show Has _ _ _ from q);exact⟨a,vs,e,zW _ _ q,l⟩
 ·obtain⟨a,e1,rfl⟩:=q;obtain⟨vs,e2,l⟩:=r.cont _ a ds e1 e;exact⟨a,vs,rfl,e2,l⟩
 ·cases e
theorem eF(r:RepS h o H S)(e:bO S x=some d)(q:HasX h o H x v):Has H d v:=by
 unfold bO at e;split at e
 ·cases e;exact Has.mono zW _ _ q
 ·rename_i k;obtain⟨a,e1,rfl⟩:=q;cases hs:S[k]? with
  |none=>rw[hs]at e;cases e
  |some es=>
   rw[hs]at e;cases e;obtain⟨vs,e2,l⟩:=r.cont k a es e1 hs;exact dA.mpr ⟨a,vs,rfl,e2,HasL.mono zW _ _ l⟩
 ·cases e
 ·cases e
 ·rename_i k d';obtain⟨t,a,u,rfl,e1,e3,e4⟩:=q;cases hs:S[k]? with
  |none=>rw[hs]at e;cases e
  |some es=>
   rw[hs]at e;cases e;obtain⟨vs,e2,l⟩:=r.cont k a es e1 hs;exact cO.mpr ⟨t,_,rfl,zW _ _ e3,zo.mpr ⟨_,_,rfl,dA.mpr ⟨a,vs,rfl,e2,HasL.mono zW _ _ l⟩,zo.mpr ⟨u,_,rfl,Has.mono zW _ _ e4,zv.mpr rfl⟩⟩⟩
 ·cases e
theorem xI(i:Int):HasX h o H (.d (.int i)) (.int i):=(eU (H:=vx h o H)).mpr rfl
theorem xB(i:Bool):HasX h o H (.d (.bool i)) (.bl i):=(iD (H:=vx h o H)).mpr rfl
theorem xS(i:Str):HasX h o H (.d (.str i)) (.str i):=(hV (H:=vx h o H)).mpr rfl
theorem xN:HasX h o H (.d .none) .non:=(kM (H:=vx h o H)).mpr rfl
theorem rG{vs:List V}{R:RX}{Q:VK}(r:RepS h o H S)(l:HasL (vx h o H) ds vs)(c:Cn h o H R Q)(q:R (.d (.tuple ds)) S):∀p,H p=none->Q (.ref p) (upd H p (.tup vs)):=fun p hp=>
 c o _ S (.d (.tuple ds)) _ (Ex.of_same (Same.laid hp)) (r.same (Same.laid hp)) (cO.mpr ⟨p,vs,rfl,r.laid hp,l.mono (wX (Same.laid hp))⟩) q
theorem lK{vs:List V}{R:RX}{Q:VK}(r:RepS h o H S)(l:HasL (vx h o H) ds vs)(c:Cn h o H R Q)(q:R (.d (.list ds)) S):∀p,H p=none->Q (.ref p) (upd H p (.lst vs)):=fun p hp=>
 c o _ S (.d (.list ds)) _ (Ex.of_same (Same.laid hp)) (r.same (Same.laid hp)) (dA.mpr ⟨p,vs,rfl,r.laid hp,l.mono (wX (Same.laid hp))⟩) q
theorem E2{vs:List V}{R:RX}{Q:VK}(r:RepS h o H S)(l:HasL (vx h o H) ds vs)(c:Cn h o H R Q)(q:R (.l S.length) (S++[ds])):∀p,H p=none->Q (.ref p) (upd H p (.lst vs)):=fun p hp=>
 c (o++[p]) _ (S++[ds]) (.l S.length) _ (Ex.new r hp) (r.new hp l) ⟨p,by rw[r.len,bo],rfl⟩ q
theorem sX:∀{xs:List XV}{vs:List V}{ds:List bc},HasXs h o H xs vs->xs=ds.map XV.d->HasL (vx h o H) ds vs
 | [],vs,[],q,_=>zv.mpr q
 |x::xs,vs,d::ds,⟨v,r,e,q,l⟩,e2=>by
  rw[ft]at e2;cases e2;exact zo.mpr ⟨v,r,e,q,sX l rfl⟩
 |x::xs,vs,[],_,e2=>by cases e2
 | [],vs,d::ds,_,e2=>by cases e2
end
def datas:List XV->Option (List bc)
 | []=>some []
 | .d d::r=>(datas r).map (d :: ·)
 |_::_=>none
theorem jL:∀{xs:List XV}{ds:List bc},datas xs=some ds->xs=ds.map XV.d
 | [],ds,e=>by cases e;rfl
 | .d d::r,ds,e=>by
  unfold datas at e;cases hr:datas r with
  |none=>rw[hr]at e;cases e
  |some es=>
   rw[hr]at e;cases e;rw[jL hr];rfl
 | .l _::_,_,e=>by cases e
 | .o _::_,_,e=>by cases e
 | .x _ _::_,_,e=>by cases e
 | .p _ _::_,_,e=>by cases e
 | .i _ _::_,_,e=>by cases e
def zj(i:Nat):DE:=fun δ S R=>∃x,δ[i]?=some (some x)/\R x S
def dC(d:bc):DE:=fun _ S R=>R (.d d) S
def dO(v:V):DE:=fun _ S R=>R (.o v) S
def dOp(rd:D2)(a b:DE):DE:=fun δ S R=>a δ S fun x S1=>b δ S1 fun y S2=>rd x y S2 R
def dUn(rd:XV->Sto->RX->Prop)(a:DE):DE:=fun δ S R=>a δ S fun x S1=>rd x S1 R
def zq:DA:=fun _ S R=>R [] S
def zc(a:DE)(b:DA):DA:=fun δ S R=>a δ S fun x S1=>b δ S1 fun xs S2=>R (x::xs) S2
def dCB(rd:List XV->Sto->RX->Prop)(a:DA):DE:=fun δ S R=>a δ S fun xs S1=>rd xs S1 R
def aI(a:DA):DE:=fun δ S R=>a δ S fun xs S1=>∃ds,datas xs=some ds/\ds.length<=1000/\R (.d (.tuple ds)) S1
def bA(a:DA):DE:=fun δ S R=>a δ S fun xs S1=>∃ds,datas xs=some ds/\ds.length<=1000/\R (.d (.list ds)) S1
def bT(a:DA):DE:=fun δ S R=>a δ S fun xs S1=>∃ds,datas xs=some ds/\ds.length<=1000/\R (.l S1.length) (S1++[ds])
section
variable {t ta tb tc:TE}{da db dc:DE}{tl:TA}{dl:DA}{tt tu:TT}{dt du:DT}
theorem zg{i:Nat}:RE (bZ i) (zj i):=fun h o H δ σ S R Q he hs ⟨x,e,q⟩ c=>by
 obtain⟨v,e1,e2⟩:=he.get i x e;exact⟨v,e1,c o H S x v Ex.refl hs e2 q⟩
theorem zC{i:Int}:RE (tC (.int i)) (dC (.int i)):=fun h o H δ σ S R Q he hs q c=>c o H S _ _ Ex.refl hs (xI i) q
theorem kU{i:Bool}:RE (tC (.bl i)) (dC (.bool i)):=fun h o H δ σ S R Q he hs q c=>c o H S _ _ Ex.refl hs (xB i) q
theorem oO{i:Str}:RE (tC (.str i)) (dC (.str i)):=fun h o H δ σ S R Q he hs q c=>c o H S _ _ Ex.refl hs (xS i) q
theorem Hb{v:V}:RE (tC v) (dO v):=fun h o H δ σ S R Q he hs q c=>c o H S (.o v) v Ex.refl hs rfl q
theorem zF{r:R2}{rd:D2}(hr:RO r rd)(ha:RE ta da)(hb:RE tb db):RE (tOp r ta tb) (dOp rd da db):=fun h o H δ σ S R Q he hs q c=>
 ha h o H δ σ S _ _ he hs q fun o1 H1 S1 x v e1 s1 x1 d1=>hb h o1 H1 δ σ S1 _ _ (he.mono e1) s1 d1 fun o2 H2 S2 y u e2 s2 y2 d2=>
  hr h o2 H2 S2 x y v u R Q s2 (x1.mono e2) y2 d2 (c.pre (e1.trans e2))
theorem GY{r:V->Hp->VK->Prop}{rd:XV->Sto->RX->Prop}(hr:RU r rd)(ha:RE ta da):RE (tUn r ta) (dUn rd da):=fun h o H δ σ S R Q he hs q c=>
 ha h o H δ σ S _ _ he hs q fun o1 H1 S1 x v e1 s1 x1 d1=>hr h o1 H1 S1 x v R Q s1 x1 d1 (c.pre e1)
theorem zt:RA gB zq:=fun h o H δ σ S R Q he hs q c=>c o H S [] [] Ex.refl hs rfl q
theorem zk(ha:RE ta da)(hb:RA tl dl):RA (eC ta tl) (zc da dl):=fun h o H δ σ S R Q he hs q c=>
 ha h o H δ σ S _ _ he hs q fun o1 H1 S1 x v e1 s1 x1 d1=>hb h o1 H1 δ σ S1 _ _ (he.mono e1) s1 d1 fun o2 H2 S2 xs vs e2 s2 x2 d2=>
  c o2 H2 S2 (x::xs) (v::vs) (e1.trans e2) s2 ⟨v,vs,rfl,x1.mono e2,x2⟩ d2
theorem dP{r:List V->Hp->VK->Prop}{rd:List XV->Sto->RX->Prop}(hr:RC r rd)(ha:RA tl dl):RE (tCB r tl) (dCB rd dl):=fun h o H δ σ S R Q he hs q c=>
 ha h o H δ σ S _ _ he hs q fun o1 H1 S1 xs vs e1 s1 x1 d1=>hr h o1 H1 S1 xs vs R Q s1 x1 d1 (c.pre e1)
theorem cT(ha:RA tl dl):RE (FK tl) (aI dl):=fun h o H δ σ S R Q he hs q c=>
 ha h o H δ σ S _ _ he hs q fun o1 H1 S1 xs vs e1 s1 x1 ⟨ds,e,hl,d1⟩=>by
  have l:=sX x1 (jL e);exact⟨by rw[l.length];exact jc (small1000 hl),rG s1 l (c.pre e1) d1⟩
theorem Do(ha:RA tl dl):RE (lJ tl) (bA dl):=fun h o H δ σ S R Q he hs q c=>
 ha h o H δ σ S _ _ he hs q fun o1 H1 S1 xs vs e1 s1 x1 ⟨ds,e,hl,d1⟩=>by
  have l:=sX x1 (jL e);exact⟨by rw[l.length];exact jc (small1000 hl),lK s1 l (c.pre e1) d1⟩
theorem Li(ha:RA tl dl):RE (lJ tl) (bT dl):=fun h o H δ σ S R Q he hs q c=>
 ha h o H δ σ S _ _ he hs q fun o1 H1 S1 xs vs e1 s1 x1 ⟨ds,e,hl,d1⟩=>by
  have l:=sX x1 (jL e);exact⟨by rw[l.length];exact jc (small1000 hl),E2 s1 l (c.pre e1) d1⟩
def dB(a:DE):DT:=fun δ S R=>a δ S fun x S1=>asB x fun b=>R b S1
def cG(a:DT):DT:=fun δ S R=>a δ S fun b S1=>R (!b) S1
def f8(a b:DT):DT:=fun δ S R=>a δ S fun x S1=>if x=true then b δ S1 R else R false S1
def dOr(a b:DT):DT:=fun δ S R=>a δ S fun x S1=>if x=true then R true S1 else b δ S1 R
def fT(a b:DE):DE:=fun δ S R=>a δ S fun x S1=>asB x fun c=>if c=true then b δ S1 R else R (.d (.bool false)) S1
def qK(a b:DE):DE:=fun δ S R=>a δ S fun x S1=>asB x fun c=>if c=true then R (.d (.bool true)) S1 else b δ S1 R
def gQ(a:DE):DE:=fun δ S R=>a δ S fun x S1=>asB x fun c=>R (.d (.bool (!c))) S1
def dIf(c:DT)(a b:DE):DE:=fun δ S R=>c δ S fun x S1=>if x=true then a δ S1 R else b δ S1 R
theorem i4(ha:RE ta da):RT (j9 ta) (dB da):=fun h o H δ σ S R Q he hs q c=>
 ha h o H δ σ S _ _ he hs q fun o1 H1 S1 x v e1 s1 x1 d1=>by
  replace d1:=i6 d1;obtain⟨b,rfl,d1⟩:=d1;exact⟨b,f6 x1,c o1 H1 S1 b e1 s1 d1⟩
theorem rL(ha:RT tt dt):RT (Bw tt) (cG dt):=fun h o H δ σ S R Q he hs q c=>
 ha h o H δ σ S _ _ he hs q fun o1 H1 S1 b e1 s1 d1=>c o1 H1 S1 _ e1 s1 d1
theorem HD(ha:RT tt dt)(hb:RT tu du):RT (Bc tt tu) (f8 dt du):=fun h o H δ σ S R Q he hs q c=>
 ha h o H δ σ S _ _ he hs q fun o1 H1 S1 b e1 s1 d1=>by
  cases b with
  |true=>exact eT (hb h o1 H1 δ σ S1 R Q (he.mono e1) s1 (by simpa using d1) fun o2 H2 S2 b e2=>c o2 H2 S2 b (e1.trans e2))
  |false=>exact e7 (c o1 H1 S1 false e1 s1 (by simpa using d1))
theorem uL(ha:RT tt dt)(hb:RT tu du):RT (tOr tt tu) (dOr dt du):=fun h o H δ σ S R Q he hs q c=>
 ha h o H δ σ S _ _ he hs q fun o1 H1 S1 b e1 s1 d1=>by
  cases b with
  |false=>exact e7 (hb h o1 H1 δ σ S1 R Q (he.mono e1) s1 (by simpa using d1) fun o2 H2 S2 b e2=>c o2 H2 S2 b (e1.trans e2))
  |true=>exact eT (c o1 H1 S1 true e1 s1 (by simpa using d1))
theorem Jl(ha:RE ta da)(hb:RE tb db):RE (BM ta tb) (fT da db):=fun h o H δ σ S R Q he hs q c=>
 ha h o H δ σ S _ _ he hs q fun o1 H1 S1 x v e1 s1 x1 d1=>by
  replace d1:=i6 d1;obtain⟨b,rfl,d1⟩:=d1;refine⟨b,f6 x1,?_⟩;cases b with
  |true=>exact eT (hb h o1 H1 δ σ S1 R Q (he.mono e1) s1 (by simpa using d1) (c.pre e1))
  |false=>exact e7 (c o1 H1 S1 _ _ e1 s1 (xB false) (by simpa using d1))
theorem KT(ha:RE ta da):RE (BP ta) (gQ da):=fun h o H δ σ S R Q he hs q c=>
 ha h o H δ σ S _ _ he hs q fun o1 H1 S1 x v e1 s1 x1 d1=>by
  replace d1:=i6 d1;obtain⟨b,rfl,d1⟩:=d1;exact⟨b,f6 x1,c o1 H1 S1 _ _ e1 s1 (xB _) d1⟩
theorem Ii(hc:RT tt dt)(ha:RE ta da)(hb:RE tb db):RE (tIf tt ta tb) (dIf dt da db):=fun h o H δ σ S R Q he hs q c=>
 hc h o H δ σ S _ _ he hs q fun o1 H1 S1 b e1 s1 d1=>by
  cases b with
  |true=>exact eT (ha h o1 H1 δ σ S1 R Q (he.mono e1) s1 (by simpa using d1) (c.pre e1))
  |false=>exact e7 (hb h o1 H1 δ σ S1 R Q (he.mono e1) s1 (by simpa using d1) (c.pre e1))
def fE(rd q:D2)(a b e:DE):DE:=fun δ S R=>a δ S fun x S1=>b δ S1 fun y S2=>rd x y S2 fun z S3=>asB z fun k=>if k=true then e δ S3 fun u S4=>q y u S4 R else R (.d (.bool false)) S3
theorem Cs{r r':R2}{rd aa:D2}(hr:RO r rd)(ab:RO r' aa)(ha:RE ta da)(hb:RE tb db)(hc:RE tc dc):RE (yV r r' ta tb tc) (fE rd aa da db dc):=fun h o H δ σ S R Q he hs q c=>
 ha h o H δ σ S _ _ he hs q fun o1 H1 S1 x v e1 s1 x1 d1=>hb h o1 H1 δ σ S1 _ _ (he.mono e1) s1 d1 fun o2 H2 S2 y u e2 s2 y2 d2=>
  hr h o2 H2 S2 x y v u _ _ s2 (x1.mono e2) y2 d2 fun o3 H3 S3 z w e3 s3 z3 d3=>by
   replace d3:=i6 d3;obtain⟨b,rfl,d3⟩:=d3;refine⟨b,f6 z3,?_⟩;cases b with
   |false=>exact e7 (c o3 H3 S3 _ _ ((e1.trans e2).trans e3) s3 (xB false) (by simpa using d3))
   |true=>exact eT (hc h o3 H3 δ σ S3 _ _ (((he.mono e1).mono e2).mono e3) s3 (by simpa using d3) fun o4 H4 S4 k w' e4 s4 k4 d4=>ab h o4 H4 S4 y k u w' R Q s4 ((y2.mono e3).mono e4) k4 d4 (c.pre (((e1.trans e2).trans e3).trans e4)))
end
def dI(C:Int->Int->Prop)(g:Int->Int->Int):D2:=fun x y S R=>asI x fun i=>asI y fun j=>C i j/\R (.d (.int (g i j))) S
def dI0(g:Int->Int->Int):D2:=fun x y S R=>asI x fun i=>asI y fun j=>R (.d (.int (g i j))) S
def dIb(g:Int->Int->Bool):D2:=fun x y S R=>asI x fun i=>asI y fun j=>R (.d (.bool (g i j))) S
def dUI(g:Int->Int):XV->Sto->RX->Prop:=fun x S R=>asI x fun i=>R (.d (.int (g i))) S
def aZ:D2:=fun x y S R=>∃d,bO S x=some d/\∃e,bO S y=some e/\ci d=true/\ci e=true/\R (.d (.bool (cv d e))) S
def dJ:D2:=fun x y S R=>∃d,bO S x=some d/\∃e,bO S y=some e/\ci d=true/\ci e=true/\R (.d (.bool (!PyData.eqv d e))) S
def pV:D2:=fun x _ S R=>asD x fun d=>R (.d (.bool (kW d))) S
def HI:D2:=fun x y S R=>asT x fun ds=>asI y fun i=>∃d,atI ds i=some d/\R (.d d) S
def LS:D2:=fun x y S R=>asL S x fun ds=>asI y fun i=>∃d,atI ds i=some d/\R (.d d) S
def L9:D2:=fun x y S R=>asL S x fun ds=>asL S y fun es=>ds.length+es.length<=1000/\R (.d (.list (ds++es))) S
def Fk:D2:=fun x y S R=>asT x fun ds=>asT y fun es=>ds≠[]/\ds.length+es.length<=1000/\R (.d (.tuple (ds++es))) S
section
theorem jQ{C:Int->Int->Prop}{g:Int->Int->Int}:RO (rI C fun i j=>.int (g i j)) (dI C g):=fun h o H S x y v u R Q hs hx hy q c=>by
 replace q:=bB q;obtain⟨i,rfl,q⟩:=q;replace q:=bB q;obtain⟨j,rfl,hc,q⟩:=q;exact⟨i,j,bE hx,bE hy,hc,c o H S _ _ Ex.refl hs (xI _) q⟩
theorem r9{g:Int->Int->Int}:RO (rI0 fun i j=>.int (g i j)) (dI0 g):=fun h o H S x y v u R Q hs hx hy q c=>by
 replace q:=bB q;obtain⟨i,rfl,q⟩:=q;replace q:=bB q;obtain⟨j,rfl,q⟩:=q;exact⟨i,j,bE hx,bE hy,c o H S _ _ Ex.refl hs (xI _) q⟩
theorem rX{g:Int->Int->Bool}:RO (rI0 fun i j=>.bl (g i j)) (dIb g):=fun h o H S x y v u R Q hs hx hy q c=>by
 replace q:=bB q;obtain⟨i,rfl,q⟩:=q;replace q:=bB q;obtain⟨j,rfl,q⟩:=q;exact⟨i,j,bE hx,bE hy,c o H S _ _ Ex.refl hs (xB _) q⟩
theorem LI{g:Int->Int}:RU (rU fun i=>.int (g i)) (dUI g):=fun h o H S x v R Q hs hx q c=>by
 replace q:=bB q;obtain⟨i,rfl,q⟩:=q;exact⟨i,bE hx,c o H S _ _ Ex.refl hs (xI _) q⟩
theorem sB:RO Ea aZ:=fun h o H S x y v u R Q hs hx hy q c=>by
 obtain⟨d,q1,e,q2,q3,q4,q⟩:=q;exact⟨d,e,eF hs q1 hx,eF hs q2 hy,q3,q4,c o H S _ _ Ex.refl hs (xB _) q⟩
theorem tI:RO Dl dJ:=fun h o H S x y v u R Q hs hx hy q c=>by
 obtain⟨d,q1,e,q2,q3,q4,q⟩:=q;exact⟨d,e,eF hs q1 hx,eF hs q2 hy,q3,q4,c o H S _ _ Ex.refl hs (xB _) q⟩
theorem HasL.atI{H:Hp}{ds:List bc}{vs:List V}{i:Int}{d:bc}(l:HasL H ds vs)(e:L2.atI ds i=some d):∃v,L2.atI vs i=some v/\Has H d v:=by
 unfold L2.atI at e ⊢;rw[l.length];cases hn:ixN ds.length i with
 |none=>rw[hn]at e;cases e
 |some j=>
  rw[hn]at e;exact l.get (show ds[j]?=some d from e)
theorem IY{K:bx}:RO (xE K) HI:=fun h o H S x y v u R Q hs hx hy q c=>by
 replace q:=p9 q;obtain⟨ds,rfl,q⟩:=q;replace q:=bB q;obtain⟨i,rfl,d,e,q⟩:=q;obtain⟨a,vs,rfl,ea,l⟩:=gL hx;obtain⟨w,ew,hw⟩:=l.atI e;exact⟨a,vs,i,w,rfl,bE hy,.of ea,ew,c o H S (.d d) w Ex.refl hs hw q⟩
theorem EY{K:bx}:RO (v8 K) LS:=fun h o H S x y v u R Q hs hx hy q c=>by
 obtain⟨ds,e0,q⟩:=q;replace q:=bB q;obtain⟨i,rfl,d,e,q⟩:=q;obtain⟨a,vs,rfl,ea,l⟩:=bV hs e0 hx;obtain⟨w,ew,hw⟩:=l.atI e;exact⟨a,vs,i,w,rfl,bE hy,.of ea,ew,c o H S (.d d) w Ex.refl hs hw q⟩
theorem GW:RO kK L9:=fun h o H S x y v u R Q hs hx hy q c=>by
 obtain⟨ds,e0,es,e1,hl,q⟩:=q;obtain⟨a,vs,rfl,ea,la⟩:=bV hs e0 hx;obtain⟨b,us,rfl,eb,lb⟩:=bV hs e1 hy;exact⟨a,b,vs,us,rfl,rfl,ea,eb,by rw[la.length,lb.length];exact jc (small1000 hl),lK hs (la.append lb) c q⟩
theorem Jt{K:bx}:RO (yJ K) Fk:=fun h o H S x y v u R Q hs hx hy q c=>by
 replace q:=p9 q;obtain⟨ds,rfl,q⟩:=q;replace q:=p9 q;obtain⟨es,rfl,hn,hl,q⟩:=q;obtain⟨a,vs,rfl,ea,la⟩:=gL hx;obtain⟨b,us,rfl,eb,lb⟩:=gL hy;refine⟨a,b,vs,us,rfl,rfl,.of ea,.of eb,fun z=>?_,by rw[la.length,lb.length];exact jc (small1000 hl),fun z=>?_,fun _=>rG hs (la.append lb) c q⟩
 ·subst z;have:=la.length;exact hn (cx this.symm)
 ·subst z;have e:es=[]:=cx lb.length.symm;subst e;rw[gl]at q;exact c o H S (.d (.tuple ds)) _ Ex.refl hs hx q
end
abbrev DO:=XE->Sto->(Option Int->Sto->Prop)->Prop
def RP(t:TO)(dt:DO):Prop:=∀(h o:List Addr) (H:Hp) (δ:XE) (σ:St) (S:Sto) (R:Option Int->Sto->Prop) (Q:Option Int->Hp->Prop),RepE h o H δ σ->RepS h o H S->dt δ S R ->
 (∀o' H' S' b,Ex o H o' H'->RepS h o' H' S'->R b S'->Q b H')->t σ H Q
def c9:DO:=fun _ S R=>R none S
def dG(a:DE):DO:=fun δ S R=>a δ S fun x S1=>asI x fun i=>R (some i) S1
theorem i3:RP Di c9:=fun h o H δ σ S R Q he hs q c=>c o H S none Ex.refl hs q
theorem i0{t:TE}{da:DE}(ha:RE t da):RP (kT t) (dG da):=fun h o H δ σ S R Q he hs q c=>
 ha h o H δ σ S _ _ he hs q fun o1 H1 S1 x v e1 s1 x1 d1=>by
  replace d1:=bB d1;obtain⟨i,rfl,d1⟩:=d1;exact⟨i,bE x1,c o1 H1 S1 _ e1 s1 d1⟩
abbrev D3:=XV->Option Int->Option Int->Sto->RX->Prop
def RL(r:V->Option Int->Option Int->Hp->VK->Prop)(rd:D3):Prop:=∀(h o:List Addr) (H:Hp) (S:Sto) (x:XV) (v:V) (a b:Option Int) (R:RX) (Q:VK),RepS h o H S->HasX h o H x v->rd x a b S R->Cn h o H R Q->r v a b H Q
def dSl(rd:D3)(e:DE)(a b:DO):DE:=fun δ S R=>e δ S fun x S1=>a δ S1 fun i S2=>b δ S2 fun j S3=>rd x i j S3 R
theorem jY{r:V->Option Int->Option Int->Hp->VK->Prop}{rd:D3}{te:TE}{de:DE}{ta tb:TO}{da db:DO}(hr:RL r rd)(z:RE te de)(ha:RP ta da)(hb:RP tb db):RE (tSl r te ta tb) (dSl rd de da db):=fun h o H δ σ S R Q he hs q c=>
 z h o H δ σ S _ _ he hs q fun o1 H1 S1 x v e1 s1 x1 d1=>ha h o1 H1 δ σ S1 _ _ (he.mono e1) s1 d1 fun o2 H2 S2 i e2 s2 d2=>hb h o2 H2 δ σ S2 _ _ ((he.mono e1).mono e2) s2 d2 fun o3 H3 S3 j e3 s3 d3=>
  hr h o3 H3 S3 x v i j R Q s3 ((x1.mono e2).mono e3) d3 (c.pre ((e1.trans e2).trans e3))
def GZ:D3:=fun x i j S R=>asL S x fun ds=>R (.d (.list (aS ds i j))) S
def Lz:D3:=fun x i j S R=>asT x fun ds=>¬(HT.sIx ds.length 0 i=0/\HT.sIx ds.length ds.length j=ds.length)/\R (.d (.tuple (aS ds i j))) S
theorem FC{K:bx}:RL (oT K) GZ:=fun h o H S x v a b R Q hs hx q c=>by
 obtain⟨ds,e0,q⟩:=q;obtain⟨p,vs,rfl,ea,l⟩:=bV hs e0 hx;exact⟨p,vs,rfl,.of ea,lK hs (l.cut a b) c q⟩
theorem KI{K:bx}:RL (yO K) Lz:=fun h o H S x v a b R Q hs hx q c=>by
 replace q:=p9 q;obtain⟨ds,rfl,hn,q⟩:=q;obtain⟨p,vs,rfl,ea,l⟩:=gL hx;exact⟨p,vs,rfl,.of ea,by rw[l.length];exact hn,rG hs (l.cut a b) c q⟩
def asQ(S:Sto):XV->Option (List bc)
 | .d (.tuple ds)=>some ds
 | .d (.list ds)=>some ds
 | .l k=>S[k]?
 |_=>none
theorem tN{h o:List Addr}{H:Hp}{S:Sto}{x:XV}{v:V}{ds:List bc}(r:RepS h o H S)(e:asQ S x=some ds)(q:HasX h o H x v):∃a vs,v=.ref a/\(H a=some (.tup vs)\/H a=some (.lst vs))/\HasL (vx h o H) ds vs:=by
 unfold asQ at e;split at e
 ·cases e;obtain⟨a,vs,e,q,l⟩:=gL q;exact⟨a,vs,e,.inl q,l⟩
 ·cases e;obtain⟨a,vs,e,q,l⟩:=bV (x:=.d (.list ds)) (ds:=ds) r rfl q;exact⟨a,vs,e,.inr q,l⟩
 ·rename_i k;obtain⟨a,vs,e,q,l⟩:=bV (x:=.l k) r e q;exact⟨a,vs,e,.inr q,l⟩
 ·cases e
def arg1:List XV->(XV->Prop)->Prop
 | [x],k=>k x
 |_,_=>False
def arg2:List XV->(XV->XV->Prop)->Prop
 | [x,y],k=>k x y
 |_,_=>False
theorem cW{xs:List XV}{k:XV->Prop}(h:arg1 xs k):∃x,xs=[x]/\k x:=by
 unfold arg1 at h;split at h
 ·exact⟨_,rfl,h⟩
 ·exact h.elim
theorem sJ{xs:List XV}{k:XV->XV->Prop}(h:arg2 xs k):∃x y,xs=[x,y]/\k x y:=by
 unfold arg2 at h;split at h
 ·exact⟨_,_,rfl,h⟩
 ·exact h.elim
theorem hxs1{h o:List Addr}{H:Hp}{x:XV}{vs:List V}(q:HasXs h o H [x] vs):∃v,vs=[v]/\HasX h o H x v:=by
 obtain⟨v,r,e,hx,hr⟩:=q;cases hr;exact⟨v,e,hx⟩
theorem hxs2{h o:List Addr}{H:Hp}{x y:XV}{vs:List V}(q:HasXs h o H [x,y] vs):∃v u,vs=[v,u]/\HasX h o H x v/\HasX h o H y u:=by
 obtain⟨v,r,e,hx,q⟩:=q;obtain⟨u,e',hy⟩:=hxs1 q;subst e';exact⟨v,u,e,hx,hy⟩
def xP:XV->(String->Prop)->Prop
 | .o v,k=>∃c,v=.ty c/\k c
 |_,_=>False
def yI:XV->(Int->Prop)->Prop
 | .d d,k=>match d with
  | .int i=>k i
  | .bool b=>k (if b then 1 else 0)
  |_=>False
 |_,_=>False
theorem LR{x:XV}{k:String->Prop}(h:xP x k):∃c,x=.o (.ty c)/\k c:=by
 cases x with
 |o v=>
  obtain⟨c,rfl,h⟩:=h;exact⟨c,rfl,h⟩
 |d d=>exact h.elim
 |l j=>exact h.elim
 |x _ _=>exact h.elim
 |p _ _=>exact h.elim
 |i _ _=>exact h.elim
theorem Ix{x:XV}{k:Int->Prop}(h:yI x k):(∃i,x=.d (.int i)/\k i)\/∃b,x=.d (.bool b)/\k (if b then 1 else 0):=by
 cases x with
 |d d=>
  cases d with
  |int i=>exact .inl ⟨i,rfl,h⟩
  |bool b=>exact .inr ⟨b,rfl,h⟩
  |_=>exact h.elim
 |_=>exact h.elim
def Fl:List XV->Sto->RX->Prop:=fun xs S R=>arg1 xs fun x=>∃ds,asQ S x=some ds/\R (.d (.int ds.length)) S
theorem y8{K:bx}:RC (vW K) Fl:=fun h o H S xs vs R Q hs hx q c=>by
 obtain⟨x,rfl,ds,hd,q1⟩:=cW q;obtain⟨v,rfl,aa⟩:=hxs1 hx;obtain⟨a,ws,rfl,ea,l⟩:=tN hs hd aa;refine⟨a,ws,rfl,ea.elim (fun z=>.inr (.of z)) (fun z=>.inl (.of z)),?_⟩;rw[l.length];exact c o H S _ _ Ex.refl hs (xI _) q1
def c8:List XV->Sto->RX->Prop:=fun xs S R=>arg2 xs fun x y=>xP y fun cl=>∃d,bO S x=some d/\cl∈fN/\R (.d (.bool (iO d cl))) S
theorem Kx:RC yB c8:=fun h o H S xs vs R Q hs hx q c=>by
 obtain⟨x,y,rfl,q1⟩:=sJ q;obtain⟨cl,rfl,d,hd,hc,q2⟩:=LR q1;obtain⟨v,u,rfl,z,hu⟩:=hxs2 hx;cases hu;exact IH (eF hs hd z) hc (c o H S _ _ Ex.refl hs (xB _) q2)
def iM:List XV->Sto->RX->Prop:=fun xs S R=>arg1 xs fun x=>yI x fun i=>R (.d (.int i)) S
theorem EB:RC (fun xs H Q=>(∃i,xs=[.int i]/\Q (.int i) H)\/∃k,xs=[.bl k]/\Q (.int (if k then 1 else 0)) H) iM:=fun h o H S xs vs R Q hs hx q c=>by
 obtain⟨x,rfl,q1⟩:=cW q;obtain⟨v,rfl,z⟩:=hxs1 hx;rcases Ix q1 with ⟨i,rfl,q2⟩|⟨b,rfl,q2⟩
 ·exact .inl ⟨_,by rw[bE z],c o H S _ _ Ex.refl hs (xI _) q2⟩
 ·exact .inr ⟨_,by rw[f6 z],c o H S _ _ Ex.refl hs (xI _) q2⟩
def dI2(g:Int->Int->Int):List XV->Sto->RX->Prop:=fun xs S R=>arg2 xs fun x y=>asI x fun i=>asI y fun j=>R (.d (.int (g i j))) S
theorem LX{g:Int->Int->Int}:RC (fun xs H Q=>∃i j,xs=[.int i,.int j]/\Q (.int (g i j)) H) (dI2 g):=fun h o H S xs vs R Q hs hx q c=>by
 obtain⟨x,y,rfl,q1⟩:=sJ q;obtain⟨v,u,rfl,z,hu⟩:=hxs2 hx;obtain⟨i,rfl,q2⟩:=bB q1;obtain⟨j,rfl,q3⟩:=bB q2;exact⟨i,j,by rw[bE z,bE hu],c o H S _ _ Ex.refl hs (xI _) q3⟩
def eQ:List XV->Sto->RX->Prop:=fun xs S R=>arg1 xs fun x=>∃ds,asQ S x=some ds/\R (.d (.tuple ds)) S
theorem wY{K:bx}:RC (fun xs H Q=>∃p ys,xs=[.ref p]/\((SqL K H p ys/\∀l,H l=none->Q (.ref l) (upd H l (.tup ys)))\/(SqT K H p ys/\Q (.ref p) H))) eQ:=fun h o H S xs vs R Q hs hx q c=>by
 obtain⟨x,rfl,ds,hd,q1⟩:=cW q;obtain⟨v,rfl,aa⟩:=hxs1 hx;obtain⟨a,ws,rfl,ea,l⟩:=tN hs hd aa;refine⟨a,ws,rfl,ea.elim (fun z=>.inr ⟨.of z,?_⟩) (fun z=>.inl ⟨.of z,rG hs l c q1⟩)⟩;have hh:HasX h o H (.d (.tuple ds)) (.ref a):=by
  unfold asQ at hd;split at hd
  ·cases hd;exact aa
  ·obtain⟨a',us,e1,e2,_⟩:=bV (x:=.d (.list _)) hs rfl aa;cases e1;rw[z]at e2;cases e2
  ·rename_i k;obtain⟨a',us,e1,e2,_⟩:=bV (x:=.l k) hs hd aa;cases e1;rw[z]at e2;cases e2
  ·cases hd
 exact c o H S _ _ Ex.refl hs hh q1
theorem kS{H:Hp}:∀{ns:List Int}{vs:List V},HasL H (ns.map bj) vs->vs=ns.map V.int
 | [],vs,h=>zv.mp h
 |n::ns,vs,h=>by
  obtain⟨v,r,rfl,h1,h2⟩:=zo.mp h;rw[eU.mp h1,kS h2];rfl
def EV:List XV->Sto->RX->Prop:=fun xs S R=>arg1 xs fun x=>∃ds,asQ S x=some ds/\∃ns,ds=ns.map bj/\ns≠[]/\∀m,m∈ns->(∀a,a∈ns->m<=a)->R (.d (.int m)) S
def lC:List XV->Sto->RX->Prop:=fun xs S R=>arg1 xs fun x=>∃ds,asQ S x=some ds/\∃ns,ds=ns.map bj/\ns≠[]/\∀m,m∈ns->(∀a,a∈ns->a<=m)->R (.d (.int m)) S
theorem GO{K:bx}:RC (yZ K) EV:=fun h o H S xs vs R Q hs hx q c=>by
 obtain⟨x,rfl,ds,hd,ns,rfl,hn,q1⟩:=cW q;obtain⟨v,rfl,aa⟩:=hxs1 hx;obtain⟨a,ws,rfl,ea,l⟩:=tN hs hd aa;rw[kS l]at ea;exact⟨a,ns,rfl,ea.elim (fun z=>.inr (.of z)) (fun z=>.inl (.of z)),hn,fun m m1 m2=>c o H S _ _ Ex.refl hs (xI _) (q1 m m1 m2)⟩
theorem tL{K:bx}:RC (BB K) lC:=fun h o H S xs vs R Q hs hx q c=>by
 obtain⟨x,rfl,ds,hd,ns,rfl,hn,q1⟩:=cW q;obtain⟨v,rfl,aa⟩:=hxs1 hx;obtain⟨a,ws,rfl,ea,l⟩:=tN hs hd aa;rw[kS l]at ea;exact⟨a,ns,rfl,ea.elim (fun z=>.inr (.of z)) (fun z=>.inl (.of z)),hn,fun m m1 m2=>c o H S _ _ Ex.refl hs (xI _) (q1 m m1 m2)⟩
def dBM(rd:XV->List XV->Sto->RX->Prop)(e:DE)(a:DA):DE:=fun δ S R=>e δ S fun x S1=>∃k,x=.l k/\k<S1.length/\a δ S1 fun xs S2=>rd x xs S2 R
def fU(rd:XV->List XV->Sto->RX->Prop)(e:DE):DE:=fun δ S R=>e δ S fun x S1=>∃k,x=.l k/\k<S1.length/\rd x [] S1 R
def RM(r:V->List V->Hp->VK->Prop)(rd:XV->List XV->Sto->RX->Prop):Prop:=∀(h o:List Addr) (H:Hp) (S:Sto) (x:XV) (v:V) (xs:List XV) (vs:List V) (R:RX) (Q:VK),RepS h o H S->HasX h o H x v->HasXs h o H xs vs->rd x xs S R->Cn h o H R Q->r v vs H Q
theorem x4{K:bx}{H:Hp}{a:Addr}{vs:List V}(e:H a=some (.lst vs)):tyV K "list" (.ref a) H:=.inl ⟨rfl,vs,.of e⟩
theorem vV{h o:List Addr}{H:Hp}{S:Sto}{k:Nat}{v:V}(hs:RepS h o H S)(hk:k<S.length)(hx:HasX h o H (.l k) v):∃a vs,v=.ref a/\H a=some (.lst vs):=by
 obtain⟨a,e,rfl⟩:=hx;obtain⟨vs,e2,_⟩:=hs.cont k a _ e (bi hk);exact⟨a,vs,rfl,e2⟩
theorem lF{K:bx}{r:V->List V->Hp->VK->Prop}{rd:XV->List XV->Sto->RX->Prop}{te:TE}{de:DE}{tl:TA}{dl:DA}(hr:RM r rd)(z:RE te de)(ha:RA tl dl):RE (tBM K "list" r te tl) (dBM rd de dl):=fun h o H δ σ S R Q he hs q c=>
 z h o H δ σ S _ _ he hs q fun o1 H1 S1 x v e1 s1 x1 ⟨k,ek,hk,d1⟩=>by
  subst ek;obtain⟨a,ws,rfl,ea⟩:=vV s1 hk x1;exact⟨x4 ea,ha h o1 H1 δ σ S1 _ _ (he.mono e1) s1 d1 fun o2 H2 S2 xs vs e2 s2 x2 d2=>hr h o2 H2 S2 (.l k) _ xs vs R Q s2 (x1.mono e2) x2 d2 (c.pre (e1.trans e2))⟩
theorem Ki{K:bx}{r:V->List V->Hp->VK->Prop}{rd:XV->List XV->Sto->RX->Prop}{te:TE}{de:DE}(hr:RM r rd)(z:RE te de):RE (Cz K "list" r te) (fU rd de):=fun h o H δ σ S R Q he hs q c=>
 z h o H δ σ S _ _ he hs q fun o1 H1 S1 x v e1 s1 x1 ⟨k,ek,hk,d1⟩=>by
  subst ek;obtain⟨a,ws,rfl,ea⟩:=vV s1 hk x1;exact⟨x4 ea,hr h o1 H1 S1 (.l k) _ [] [] R Q s1 x1 rfl d1 (c.pre e1)⟩
def dE:XV->List XV->Sto->RX->Prop:=fun x xs S R=>∃k,x=.l k/\∃ds,S[k]?=some ds/\arg1 xs fun y=>asD y fun d=>ds.length<1000/\R (.d .none) (S.set k (ds++[d]))
theorem Es:RM EW dE:=fun h o H S x v xs vs R Q hs hx z q c=>by
 obtain⟨k,rfl,ds,e,q1⟩:=q;obtain⟨y,rfl,q2⟩:=cW q1;obtain⟨d,rfl,hl,q3⟩:=fI q2;obtain⟨a,ea,rfl⟩:=hx;obtain⟨u,rfl,hu⟩:=hxs1 z;obtain⟨ws,ew,l⟩:=hs.cont k a ds ea e;exact⟨a,ws,u,rfl,rfl,ew,by rw[l.length];exact small1000 (jc hl),c o _ _ (.d .none) _ (Ex.upd ea) (hs.upd ea (l.append (zo.mpr ⟨u,[],rfl,hu,zv.mpr rfl⟩))) xN q3⟩
def i9:XV->List XV->Sto->RX->Prop:=fun x xs S R=>∃k,x=.l k/\∃ds,S[k]?=some ds/\xs=[]/\R (.d .none) (S.set k ds.reverse)
theorem LD:RM Cm i9:=fun h o H S x v xs vs R Q hs hx z q c=>by
 obtain⟨k,rfl,ds,e,rfl,q1⟩:=q;obtain⟨a,ea,rfl⟩:=hx;obtain⟨ws,ew,l⟩:=hs.cont k a ds ea e;cases z;exact⟨a,ws,rfl,rfl,ew,c o _ _ (.d .none) _ (Ex.upd ea) (hs.upd ea l.rev) xN q1⟩
def fG:XV->List XV->Sto->RX->Prop:=fun x xs S R=>∃k,x=.l k/\∃ds,S[k]?=some ds/\arg1 xs fun y=>∃es,dU S y=some es/\ds.length+es.length<=1000/\R (.d .none) (S.set k (ds++es))
theorem qV:RM CF fG:=fun h o H S x v xs vs R Q hs hx z q c=>by
 obtain⟨k,rfl,ds,e,q1⟩:=q;obtain⟨y,rfl,es,ey,hl,q3⟩:=cW q1;obtain⟨a,ea,rfl⟩:=hx;obtain⟨u,rfl,hu⟩:=hxs1 z;obtain⟨ws,ew,l⟩:=hs.cont k a ds ea e;obtain⟨b,zs,rfl,eb,lb⟩:=bV hs ey hu;exact⟨a,b,ws,zs,rfl,rfl,ew,eb,by rw[l.length,lb.length];exact jc (small1000 hl),c o _ _ (.d .none) _ (Ex.upd ea) (hs.upd ea (l.append lb)) xN q3⟩
def ret0(S:Sto)(R:RX):RX:=fun y S'=>match y,S' with
 | .d d,[]=>R (.d d) S
 | .l 0,[ds]=>R (.l S.length) (S++[ds])
 |_,_=>False
def tH(k:Nat)(S:Sto)(R:RX):RX:=fun y S'=>match y,S' with
 | .d d,[p]=>R (.d d) (S.set k p)
 | .l 1,[p,ds]=>R (.l S.length) (S.set k p++[ds])
 |_,_=>False
section
variable {h o:List Addr}{H:Hp}{S:Sto}{R:RX}{Q:VK}
theorem jK{h o h' o':List Addr}{H:Hp}(e:∀b,(b∈h'\/b∈o')↔(b∈h\/b∈o)):vx h' o' H=vx h o H:=by
 funext b;have q:∀u,vx h' o' H b=some u↔vx h o H b=some u:=fun u=>by
  rw[zP,zP];have:=e b;constructor
  ·rintro⟨a1,a2,a3⟩;exact⟨fun m=>(this.mpr (.inl m)).elim a1 a2,fun m=>(this.mpr (.inr m)).elim a1 a2,a3⟩
  ·rintro⟨a1,a2,a3⟩;exact⟨fun m=>(this.mp (.inl m)).elim a1 a2,fun m=>(this.mp (.inr m)).elim a1 a2,a3⟩
 cases e1:vx h' o' H b with
 |some u=>exact((q u).mp e1).symm
 |none=>
  cases e2:vx h o H b with
  |none=>rfl
  |some u=>rw[(q u).mpr e2]at e1;cases e1
theorem rep0(hs:RepS h o H S):RepS (h++o) [] H [] where
 len:=rfl
 nd:=pf
 dis:=fun a ha=>by cases ha
 hal:=fun b hb=>(mem_append.mp hb).elim (hs.hal b) (hs.oam b)
 cont:=fun k a ds e=>by simp at e
theorem hx0{d:bc}{v:V}(hx:HasX h o H (.d d) v):HasX (h++o) [] H (.d d) v:=by
 show Has (vx (h++o) [] H) d v;rw[jK (h:=h) (o:=o) fun b=>by simp];exact hx
theorem hx0'{d:bc}{v:V}(hx:HasX (h++o) [] H (.d d) v):HasX h o H (.d d) v:=by
 show Has (vx h o H) d v;rw[<- jK (h':=h++o) (o':=[]) (h:=h) (o:=o) fun b=>by simp];exact hx
theorem cn0(hs:RepS h o H S)(c:Cn h o H R Q):Cn (h++o) [] H (ret0 S R) Q:=fun o' H' S' y v e s' hy q=>by
 have sm:Same H (vx [] o' H'):=fun b u eb=>by
  obtain⟨a1,a2⟩:=e.kp b u yv eb;exact zP.mpr ⟨yv,a1,a2⟩
 have sH:Same H H':=fun b u eb=>(zP.mp (sm b u eb)).2.2;unfold ret0 at q;split at q
 ·have e0:o'=[]:=cx s'.len.symm;subst e0;exact c o H' S _ v (Ex.of_same sH) (hs.same sH) (hx0' hy) q
 ·rename_i ds;obtain⟨a,rfl⟩:∃a,o'=[a]:=List.length_eq_one_iff.mp s'.len.symm;obtain⟨a',ea,rfl⟩:=hy;cases ea;obtain⟨vs,ev,l⟩:=s'.cont 0 a ds rfl rfl;have na:a∉h++o:=s'.dis a yv;have hn:H a=none:=by
   cases eh:H a with
   |none=>rfl
   |some u=>exact absurd (e.kp a u yv eh).1 yv
  have e2:Ex o H (o++[a]) H':=⟨⟨[a],rfl⟩,fun b u hb eb=>by
   obtain⟨a1,a2⟩:=e.kp b u yv eb;exact⟨by simp only[oj,not_or];exact⟨hb,a1⟩,a2⟩⟩
  have z:vx (h++o) [a] H'=vx h (o++[a]) H':=jK fun b=>by simp[or_assoc]
  rw[z]at l;refine c (o++[a]) H' (S++[ds]) (.l S.length) _ e2 ⟨by simp[hs.len],oH hs.nd fun m=>na (cp _ m),fun b hb=>?_,fun b hb=>?_,fun k b es q1 q2=>?_⟩ ⟨a,by rw[hs.len,bo],rfl⟩ q
  ·rcases mem_append.mp hb with hb|hb
   ·exact hs.dis b hb
   ·rw[mem_singleton.mp hb];exact fun m=>na (cu _ m)
  ·obtain⟨u,eb⟩:=hs.hal b hb;exact⟨u,sH b _ eb⟩
  ·by_cases hk:k<o.length
   ·rw[dj hk]at q1;rw[dj (by rw[hs.len];exact hk)]at q2;obtain⟨ws,e3,l3⟩:=hs.cont k b es q1 q2;exact⟨ws,sH _ _ e3,l3.mono e2.vx⟩
   ·have aa:k=o.length:=by
     obtain⟨q,_⟩:=List.getElem?_eq_some_iff.mp q1;rw[bv,fi]at q;omega
    subst aa;rw[bo]at q1;rw[<- hs.len,bo]at q2;cases q1;cases q2;exact⟨vs,ev,l⟩
 ·exact q.elim
theorem sE{k:Nat}{a:Addr}{p:List bc}(hs:RepS h o H S)(ea:o[k]?=some a)(ep:S[k]?=some p):RepS (h++o.filter (fun b=>b≠a)) [a] H [p] where
 len:=rfl
 nd:=by simp
 dis:=fun b hb=>by
  rw[mem_singleton.mp hb];intro m;rcases mem_append.mp m with m|m
  ·exact hs.dis a (bw ea) m
  ·have:=(mem_filter.mp m).2;simp at this
 hal:=fun b hb=>(mem_append.mp hb).elim (hs.hal b) fun m=>hs.oam b (mem_filter.mp m).1
 cont:=fun j b ds e1 e2=>by
  cases j with
  |succ j=>simp at e1
  |zero=>
   cases e1;cases e2;obtain⟨vs,e3,l⟩:=hs.cont k a p ea ep;refine⟨vs,e3,?_⟩;rw[jK (h:=h) (o:=o) (mem_pen ea)];exact l
where
 mem_pen {h o:List Addr}{k:Nat}{a:Addr} (ea:o[k]?=some a) (b:Addr):(b∈h++o.filter (fun b=>b≠a)\/b∈[a])↔(b∈h\/b∈o):=by
  have ma:=bw ea;by_cases e:b=a
  ·subst e;simp[ma]
  ·simp[e]
theorem hxP{k:Nat}{a:Addr}{d:bc}{v:V}(ea:o[k]?=some a)(hx:HasX h o H (.d d) v):HasX (h++o.filter (fun b=>b≠a)) [a] H (.d d) v:=by
 show Has (vx _ _ H) d v;rw[jK (h:=h) (o:=o) (sE.mem_pen ea)];exact hx
theorem cnP{k:Nat}{a:Addr}{p:List bc}(hs:RepS h o H S)(ea:o[k]?=some a)(ep:S[k]?=some p)(c:Cn h o H R Q):Cn (h++o.filter (fun b=>b≠a)) [a] H (tH k S R) Q:=fun o' H' S' y v e s' hy q=>by
 have ma:=bw ea;have hk:k<o.length:=(List.getElem?_eq_some_iff.mp ea).1;unfold tH at q;split at q
 ·rename_i d p';obtain⟨r,rfl⟩:=e.pre;have er:r=[]:=by
   have:=s'.len;simp at this;exact this
  subst er;have ex:Ex o H o H':=⟨⟨[],yv⟩,fun b u hb eb=>⟨hb,(e.kp b u (fun m=>hb (by rw[mem_singleton.mp m];exact ma)) eb).2⟩⟩;obtain⟨vs,ev,l⟩:=s'.cont 0 a p' rfl rfl;have aa:vx (h++o.filter (fun b=>b≠a)) ([a]++[]) H'=vx h o H':=jK (sE.mem_pen ea);rw[aa]at l;refine c o H' (S.set k p') (.d d) v ex ⟨by simp[hs.len],hs.nd,hs.dis,fun b hb=>?_,fun j b es q1 q2=>?_⟩ (by
   have ab:Has (vx (h++o.filter (fun b=>b≠a)) ([a]++[]) H') d v:=hy;rw[aa]at ab;exact ab) q
  ·obtain⟨u,eb⟩:=hs.hal b hb;exact⟨u,(e.kp b _ (fun m=>hs.dis a ma (by rw[<- mem_singleton.mp m];exact hb)) eb).2⟩
  ·by_cases hj:j=k
   ·subst hj;rw[q1]at ea;cases ea;rw[kt (by rw[hs.len];exact hk)]at q2;cases q2;exact⟨vs,ev,l⟩
   ·rw[lu (ic hj)]at q2;obtain⟨ws,e3,l3⟩:=hs.cont j b es q1 q2;have ne:b≠a:=fun z=>hj (pZ hs.nd q1 (z▸ea));exact⟨ws,(e.kp b _ (by simp[ne]) e3).2,l3.mono ex.vx⟩
 ·rename_i p' ds;obtain⟨r,rfl⟩:=e.pre;obtain⟨a2,rfl⟩:∃a2,r=[a2]:=by
   have:=s'.len;simp at this;exact List.length_eq_one_iff.mp this
  obtain⟨b2,ag,rfl⟩:=hy;cases ag;obtain⟨vs,ev,l⟩:=s'.cont 0 a p' rfl rfl;obtain⟨ac,af,l2⟩:=s'.cont 1 a2 ds rfl rfl;have n2:a2∉h++o.filter (fun b=>b≠a):=s'.dis a2 yv;have n3:a≠a2:=by
   have:=s'.nd;simp at this;exact this
  have n4:a2∉o:=fun m=>n2 (cp _ (mem_filter.mpr ⟨m,by simp[ic n3]⟩));have ex:Ex o H (o++[a2]) H':=⟨⟨[a2],rfl⟩,fun b u hb eb=>by
   obtain⟨z1,z2⟩:=e.kp b u (fun m=>hb (by rw[mem_singleton.mp m];exact ma)) eb;refine⟨?_,z2⟩;simp only[oj,not_or];exact⟨hb,fun m=>z1 (by simp at m ⊢;exact .inr m)⟩⟩
  have aa:vx (h++o.filter (fun b=>b≠a)) ([a]++[a2]) H'=vx h (o++[a2]) H':=jK fun b=>by
   have:=sE.mem_pen (h:=h) ea b;simp only[oj]at this ⊢;rw[<- or_assoc,this,or_assoc]
  rw[aa]at l l2;refine c (o++[a2]) H' (S.set k p'++[ds]) (.l S.length) _ ex ⟨by simp[hs.len],oH hs.nd n4,fun b hb=>?_,fun b hb=>?_,fun j b es q1 q2=>?_⟩ ⟨a2,by rw[hs.len,bo],rfl⟩ q
  ·rcases mem_append.mp hb with hb|hb
   ·exact hs.dis b hb
   ·rw[mem_singleton.mp hb];exact fun m=>n2 (cu _ m)
  ·obtain⟨u,eb⟩:=hs.hal b hb;exact⟨u,(e.kp b _ (fun m=>hs.dis a ma (by rw[<- mem_singleton.mp m];exact hb)) eb).2⟩
  ·by_cases hjo:j<o.length
   ·rw[dj hjo]at q1;rw[dj (by rw[ie,hs.len];exact hjo)]at q2;by_cases hj:j=k
    ·subst hj;rw[q1]at ea;cases ea;rw[kt (by rw[hs.len];exact hk)]at q2;cases q2;exact⟨vs,ev,l⟩
    ·rw[lu (ic hj)]at q2;obtain⟨ws,e3,l3⟩:=hs.cont j b es q1 q2;have ne:b≠a:=fun z=>hj (pZ hs.nd q1 (z▸ea));exact⟨ws,(e.kp b _ (by simp[ne]) e3).2,l3.mono ex.vx⟩
   ·have ae:j=o.length:=by
     obtain⟨q,_⟩:=List.getElem?_eq_some_iff.mp q1;rw[bv,fi]at q;omega
    subst ae;rw[bo]at q1;rw[<- hs.len,<- ie (i:=k) (a:=p'),bo]at q2;cases q1;cases q2;exact⟨ac,af,l2⟩
 ·exact q.elim
end
structure DEnds where
 nx:XE->Sto->Prop
 rt:RX
 bk:XE->Sto->Prop:=fun _ _=>False
 ct:XE->Sto->Prop:=fun _ _=>False
abbrev DS:=DEnds->XE->Sto->Prop
abbrev DG:=XV->XE->Sto->(XE->Sto->Prop)->Prop
abbrev DGs:=List bc->XE->Sto->(XE->Sto->Prop)->Prop
def Nx(h o:List Addr)(H:Hp)(N:XE->Sto->Prop)(M:St->Hp->Prop):Prop:=∀o' H' δ' S' σ',Ex o H o' H'->RepE h o' H' δ' σ'->RepS h o' H' S'->N δ' S'->M σ' H'
theorem Nx.pre{h o o':List Addr}{H H':Hp}{N:XE->Sto->Prop}{M:St->Hp->Prop}(c:Nx h o H N M)(e:Ex o H o' H'):Nx h o' H' N M:=fun o2 H2 δ2 S2 σ2 e2=>c o2 H2 δ2 S2 σ2 (e.trans e2)
structure EOk(h o:List Addr)(H:Hp)(E:DEnds)(D:Ends):Prop where
 nx:Nx h o H E.nx D.nx
 rt:Cn h o H E.rt D.rt
 bk:Nx h o H E.bk D.bk
 ct:Nx h o H E.ct D.ct
theorem EOk.pre{h o o':List Addr}{H H':Hp}{E:DEnds}{D:Ends}(c:EOk h o H E D)(e:Ex o H o' H'):EOk h o' H' E D:=⟨c.nx.pre e,c.rt.pre e,c.bk.pre e,c.ct.pre e⟩
def RS(t:TS)(dt:DS):Prop:=∀(h o:List Addr) (H:Hp) (δ:XE) (σ:St) (S:Sto) (E:DEnds) (D:Ends),RepE h o H δ σ->RepS h o H S->dt E δ S->EOk h o H E D->t D σ H
def RG(t:TG)(dt:DG):Prop:=∀(h o:List Addr) (H:Hp) (δ:XE) (σ:St) (S:Sto) (x:XV) (v:V) (N:XE->Sto->Prop) (M:St->Hp->Prop),RepE h o H δ σ->RepS h o H S->HasX h o H x v->dt x δ S N->Nx h o H N M->t v σ H M
def RGs(t:TGs)(dt:DGs):Prop:=∀(h o:List Addr) (H:Hp) (δ:XE) (σ:St) (S:Sto) (ds:List bc) (vs:List V) (N:XE->Sto->Prop) (M:St->Hp->Prop),RepE h o H δ σ->RepS h o H S->HasL (vx h o H) ds vs->dt ds δ S N->Nx h o H N M->t vs σ H M
def zl(i:Nat):DG:=fun x δ S N=>N (δ.set i (some x)) S
def dS:DGs:=fun ds δ S N=>ds=[]/\N δ S
def hdD:List bc->(bc->List bc->Prop)->Prop
 |d::es,k=>k d es
 | [],_=>False
theorem KY{ds:List bc}{k:bc->List bc->Prop}(h:hdD ds k):∃d es,ds=d::es/\k d es:=by
 cases ds with
 |nil=>exact h.elim
 |cons d es=>exact⟨d,es,rfl,h⟩
theorem qA{d:bc}{es:List bc}{k:bc->List bc->Prop}:hdD (d::es) k=k d es:=rfl
def bN(g:DG)(r:DGs):DGs:=fun ds δ S N=>hdD ds fun d es=>g (.d d) δ S fun δ' S'=>r es δ' S' N
def eB(n:Nat)(r:DGs):DG:=fun x δ S N=>asT x fun ds=>ds.length=n/\r ds δ S N
def iG(a b:DE):DG:=fun x δ S N=>a δ S fun y S1=>b δ S1 fun z S2=>asD x fun d=>∃k,y=.l k/\∃ds,S2[k]?=some ds/\asI z fun i=>∃j,ixN ds.length i=some j/\N δ (S2.set k (ds.set j d))
theorem zr{i:Nat}:RG (kC i) (zl i):=fun h o H δ σ S x v N M he hs hx q c=>c o H _ S _ Ex.refl (he.set hx) hs q
theorem vL:RGs EL dS:=fun h o H δ σ S ds vs N M he hs l ⟨e,q⟩ c=>by
 subst e;exact⟨zv.mp l,c o H δ S σ Ex.refl he hs q⟩
theorem n9{t:TG}{u:TGs}{g:DG}{r:DGs}(h1:RG t g)(h2:RGs u r):RGs (Bf t u) (bN g r):=fun h o H δ σ S ds vs N M he hs l q0 c=>by
 obtain⟨d,es,rfl,q⟩:=KY q0;obtain⟨v,ws,rfl,hv,l⟩:=zo.mp l;exact⟨v,ws,rfl,h1 h o H δ σ S (.d d) v _ _ he hs hv q fun o1 H1 δ1 S1 σ1 e1 z aa q1=>h2 h o1 H1 δ1 σ1 S1 es ws N M z aa (l.mono e1.vx) q1 (c.pre e1)⟩
theorem AQ{K:bx}{n:Nat}{t:TGs}{r:DGs}(h1:RGs t r):RG (BT K n t) (eB n r):=fun h o H δ σ S x v N M he hs hx q c=>by
 replace q:=p9 q;obtain⟨ds,rfl,hn,q⟩:=q;obtain⟨a,vs,rfl,ea,l⟩:=gL hx;exact⟨a,vs,rfl,.of ea,by rw[l.length];exact hn,h1 h o H δ σ S ds vs N M he hs l q c⟩
theorem HasL.setAt{H:Hp}:∀{ds:List bc}{vs:List V}{j:Nat}{d:bc}{v:V},HasL H ds vs->Has H d v->HasL H (ds.set j d) (vs.set j v)
 | [],vs,j,d,v,l,_=>by rw[zv.mp l];exact zv.mpr rfl
 |c::ds,vs,0,d,v,l,q=>by
  obtain⟨u,r,rfl,_,l⟩:=zo.mp l;exact zo.mpr ⟨v,r,rfl,q,l⟩
 |c::ds,vs,j+1,d,v,l,q=>by
  obtain⟨u,r,rfl,hu,l⟩:=zo.mp l;exact zo.mpr ⟨u,r.set j v,rfl,hu,HasL.setAt l q⟩
theorem KC{ta tb:TE}{da db:DE}(ha:RE ta da)(hb:RE tb db):RG (BD ta tb Cp) (iG da db):=fun h o H δ σ S x v N M he hs hx q c=>
 ha h o H δ σ S _ _ he hs q fun o1 H1 S1 y u e1 s1 y1 d1=>hb h o1 H1 δ σ S1 _ _ (he.mono e1) s1 d1 fun o2 H2 S2 z w e2 s2 z2 d0=>by
  obtain⟨d,rfl,k,rfl,ds,es,d2⟩:=fI d0;replace d2:=bB d2;obtain⟨i,rfl,j,ej,d2⟩:=d2;obtain⟨a,ea,rfl⟩:=y1.mono e2;obtain⟨ws,ew,l⟩:=s2.cont k a ds ea es;refine⟨a,ws,i,j,rfl,bE z2,ew,by rw[l.length];exact ej,?_⟩;exact c o2 _ δ _ σ ((e1.trans e2).trans (Ex.upd ea)) (((he.mono e1).mono e2).mono (Ex.upd ea)) (s2.upd ea (l.setAt (hx.mono (e1.trans e2)))) d2
def aG:DS:=fun E δ S=>E.nx δ S
def zX(t u:DS):DS:=fun E δ S=>t { E with nx:=u E } δ S
def aA(e:DE)(g:DG):DS:=fun E δ S=>e δ S fun x S1=>g x δ S1 E.nx
def bW(e:DE):DS:=fun E δ S=>e δ S fun _ S1=>E.nx δ S1
def aB(e:DE):DS:=fun E δ S=>e δ S E.rt
def aL(c:DT)(t u:DS):DS:=fun E δ S=>c δ S fun b S1=>if b=true then t E δ S1 else u E δ S1
section
variable {t u:TS}{dt du:DS}{te:TE}{de:DE}
theorem eK:RS v9 aG:=fun h o H δ σ S E D he hs q c=>c.nx o H δ S σ Ex.refl he hs q
theorem zN(ht:RS t dt)(hu:RS u du):RS (cF t u) (zX dt du):=fun h o H δ σ S E D he hs q c=>
 ht h o H δ σ S _ _ he hs q ⟨fun o1 H1 δ1 S1 σ1 e1 z aa q1=>hu h o1 H1 δ1 σ1 S1 E D z aa q1 (c.pre e1),c.rt,c.bk,c.ct⟩
theorem bR{g:TG}{dg:DG}(z:RE te de)(hg:RG g dg):RS (m8 te g) (aA de dg):=fun h o H δ σ S E D he hs q c=>
 z h o H δ σ S _ _ he hs q fun o1 H1 S1 x v e1 s1 x1 d1=>hg h o1 H1 δ σ S1 x v _ _ (he.mono e1) s1 x1 d1 (c.nx.pre e1)
theorem kA(z:RE te de):RS (yU te) (bW de):=fun h o H δ σ S E D he hs q c=>
 z h o H δ σ S _ _ he hs q fun o1 H1 S1 x v e1 s1 x1 d1=>c.nx o1 H1 δ S1 σ e1 (he.mono e1) s1 d1
theorem cB(z:RE te de):RS (oU te) (aB de):=fun h o H δ σ S E D he hs q c=>z h o H δ σ S _ _ he hs q c.rt
theorem fO{tc:TT}{dc:DT}(hc:RT tc dc)(ht:RS t dt)(hu:RS u du):RS (uM tc t u) (aL dc dt du):=fun h o H δ σ S E D he hs q c=>
 hc h o H δ σ S _ _ he hs q fun o1 H1 S1 b e1 s1 d1=>by
  cases b with
  |true=>exact eT (ht h o1 H1 δ σ S1 E D (he.mono e1) s1 (by simpa using d1) (c.pre e1))
  |false=>exact e7 (hu h o1 H1 δ σ S1 E D (he.mono e1) s1 (by simpa using d1) (c.pre e1))
def frz(n:Nat)(ds:List bc):Option XV->Option XV
 |some (.l k)=>if k=n then some (.d (.list ds))else some (.l k)
 |some (.p k d)=>if k=n then some (.d (.tuple [.list ds,d]))else some (.p k d)
 |y=>y
end
abbrev DI:=XE->Sto->(List bc->Sto->Prop)->Prop
structure WalkX(h o:List Addr)(H:Hp)(J:It)(ds:List bc):Prop where
 stop:∀(i:Nat) o2 H2,ExH h o H o2 H2->ds.length<=i->J.stop i H2
 go:∀(i:Nat) d o2 H2,ExH h o H o2 H2->ds[i]?=some d->J.go i H2
 yld:∀(i:Nat) d o2 H2 x H3 S2,ExH h o H o2 H2->RepS h o2 H2 S2->ds[i]?=some d->J.yld i H2 x H3->Same H2 H3/\Has (vx h o2 H3) d x
def RI(w:TI)(di:DI):Prop:=∀(h o:List Addr) (H:Hp) (δ:XE) (σ:St) (S:Sto) (R:List bc->Sto->Prop) (Q:It->Hp->Prop),RepE h o H δ σ->RepS h o H S->di δ S R ->
 (∀o' H' S' ds J,Ex o H o' H'->RepS h o' H' S'->WalkX h o' H' J ds->R ds S'->Q J H')->w σ H Q
theorem Dz{h o:List Addr}{H:Hp}{lo:Int}{n:Nat}:WalkX h o H (Itr lo n) (d7 lo n) where
 stop:=fun i _ _ _ hi=>by rw[kZ]at hi;exact hi
 go:=fun i d _ _ _ hi=>(rO hi).1
 yld:=fun i d o2 H2 x H3 S2 _ _ hi y=>by
  obtain⟨e,ex⟩:=y;subst e ex;rw[(rO hi).2];exact⟨Same.refl _,eU.mpr rfl⟩
def kL(g:DG)(b:DS):List bc->DS
 | [],E,δ,S=>E.nx δ S
 |d::ds,E,δ,S=>g (.d d) δ S fun δ1 S1=>b { nx:=fun δ2 S2=>kL g b ds E δ2 S2,ct:=fun δ2 S2=>kL g b ds E δ2 S2,bk:=E.nx,rt:=E.rt } δ1 S1
def cL(i:DI)(g:DG)(b:DS):DS:=fun E δ S=>i δ S fun ds S1=>kL g b ds E δ S1
theorem lQ{wi:TI}{g:TG}{tb:TS}{di:DI}{dg:DG}{db:DS}(hi:RI wi di)(hg:RG g dg)(hb:RS tb db):RS (pR wi g tb) (cL di dg db):=fun h o H δ σ S E D he hs q c=>
 hi h o H δ σ S _ _ he hs q fun o1 H1 S1 ds J e1 s1 wk d1=>by
  refine⟨fun i m σ2 H2=>m=ds.length-i/\i<=ds.length/\∃o2 δ2 S2,Ex o1 H1 o2 H2/\RepE h o2 H2 δ2 σ2/\RepS h o2 H2 S2/\kL dg db (ds.drop i) E δ2 S2,⟨ds.length,yv,ji _,o1,δ,S1,Ex.refl,he.mono e1,s1,d1⟩,?_⟩;rintro i m σ2 H2 ⟨rfl,hi,o2,δ2,S2,e2,af,ac,d2⟩;by_cases hlt:i<ds.length
  ·have ed:ds[i]?=some ds[i]:=bi hlt;rw[kr hlt]at d2;refine .inr ⟨wk.go i _ o2 H2 e2.hid ed,fun σ3 H3=>∃o3 δ3 S3,Ex o1 H1 o3 H3/\RepE h o3 H3 δ3 σ3/\RepS h o3 H3 S3/\kL dg db (ds.drop (i+1)) E δ3 S3,fun σ3 H3 n=>⟨ds.length-(i+1),yw,rfl,hlt,n⟩,fun x H3 y=>?_⟩;obtain⟨s3,hx⟩:=wk.yld i _ o2 H2 x H3 S2 e2.hid ac ed y;have ae:Ex o2 H2 o2 H3:=Ex.of_same s3;refine hg h o2 H3 δ2 σ2 S2 (.d ds[i]) x _ _ (af.mono ae) (ac.same s3) hx d2 fun o4 H4 δ4 S4 σ4 e4 ah ag d4=>?_;have ab:Ex o1 H1 o4 H4:=(e2.trans ae).trans e4;have ce:=(c.pre e1).pre ab;exact hb h o4 H4 δ4 σ4 S4 _ _ ah ag d4 ⟨fun o5 H5 δ5 S5 σ5 e5 aa z d5=>⟨o5,δ5,S5,ab.trans e5,aa,z,d5⟩,ce.rt,ce.nx,fun o5 H5 δ5 S5 σ5 e5 aa z d5=>⟨o5,δ5,S5,ab.trans e5,aa,z,d5⟩⟩
  ·have ei:i=ds.length:=yw
   subst ei;rw[drop_length]at d2;exact .inl ⟨wk.stop _ o2 H2 e2.hid (cz _),c.nx o2 H2 δ2 S2 σ2 (e1.trans e2) af ac d2⟩
def kH(cd:DT)(b:DS):DS:=fun E δ S=>∃W:Nat->XE->Sto->Prop,(∃m,W m δ S)/\∀m δ S,W m δ S ->
 cd δ S fun x S1=>if x=true then ∃N:XE->Sto->Prop,(∀ δ' S',N δ' S'->∃m',m'<m/\W m' δ' S')/\b { nx:=N,ct:=N,bk:=E.nx,rt:=E.rt } δ S1 else E.nx δ S1
theorem sP{tc:TT}{tb:TS}{dc:DT}{db:DS}(hc:RT tc dc)(hb:RS tb db):RS (B0 tc tb) (kH dc db):=fun h o H δ σ S E D he hs ⟨W,⟨m0,w0⟩,q⟩ c=>by
 refine⟨fun m σ2 H2=>∃o2 δ2 S2,Ex o H o2 H2/\RepE h o2 H2 δ2 σ2/\RepS h o2 H2 S2/\W m δ2 S2,⟨m0,o,δ,S,Ex.refl,he,hs,w0⟩,?_⟩;rintro m σ2 H2 ⟨o2,δ2,S2,e2,ac,ag,w2⟩;refine hc h o2 H2 δ2 σ2 S2 _ _ ac ag (q m δ2 S2 w2) fun o3 H3 S3 b e3 s3 d3=>?_;cases b with
 |false=>exact e7 (c.nx o3 H3 δ2 S3 σ2 (e2.trans e3) (ac.mono e3) s3 (by simpa using d3))
 |true=>
  refine eT ?_;obtain⟨N,n1,d3⟩:∃N:XE->Sto->Prop,(∀ δ' S',N δ' S'->∃m',m'<m/\W m' δ' S')/\db { nx:=N,ct:=N,bk:=E.nx,rt:=E.rt } δ2 S3:=by simpa using d3
  have z:=e2.trans e3;have ce:=c.pre z;refine⟨fun σ4 H4=>∃o4 δ4 S4,Ex o H o4 H4/\RepE h o4 H4 δ4 σ4/\RepS h o4 H4 S4/\N δ4 S4,fun σ4 H4 ⟨o4,δ4,S4,e4,af,ae,n4⟩=>?_,?_⟩
  ·obtain⟨m',hm,w'⟩:=n1 δ4 S4 n4;exact⟨m',hm,o4,δ4,S4,e4,af,ae,w'⟩
  ·exact hb h o3 H3 δ2 σ2 S3 _ _ (ac.mono e3) s3 d3 ⟨fun o5 H5 δ5 S5 σ5 e5 ab aa d5=>⟨o5,δ5,S5,z.trans e5,ab,aa,d5⟩,ce.rt,ce.nx,fun o5 H5 δ5 S5 σ5 e5 ab aa d5=>⟨o5,δ5,S5,z.trans e5,ab,aa,d5⟩⟩
def aC:DT:=fun _ S R=>R true S
theorem bH:RT Ez aC:=fun h o H δ σ S R Q he hs q c=>c o H S true Ex.refl hs q
def bF(n:Nat)(g:DG)(tt:DT)(te:DE)(fin:Sto->Prop):List bc->XE->Sto->Prop
 | [],_,S=>fin S
 |d::ds,τ,S=>g (.d d) τ S fun τ1 S1=>tt τ1 S1 fun b S2=>if b=true then te τ1 S2 fun x S3=>asD x fun e=>∃acc,S3[n]?=some acc/\acc.length<1000/\bF n g tt te fin ds τ1 (S3.set n (acc++[e]))else bF n g tt te fin ds τ1 S2
def gC(caps:List (Option Nat))(i:DI)(g:DG)(tt:DT)(te:DE):DE:=fun δ S R=>i δ S fun ds S1=>bF S1.length g tt te (fun S2=>R (.l S1.length) S2) ds (eO caps δ) (S1++[[]])
def bD(caps:List (Option Nat))(i:DI)(g:DG)(tt:DT)(te:DE):DE:=fun δ S R=>i δ S fun ds S1=>bF S1.length g tt te (fun S2=>∃S0 acc,S2=S0++[acc]/\S0.length=S1.length/\R (.d (.list acc)) S0) ds (eO caps δ) (S1++[[]])
theorem RepS.pop{h o r:List Addr}{H:Hp}{S0 T:Sto}(hs:RepS h (o++r) H (S0++T))(hl:S0.length=o.length):RepS h o H S0 where
 len:=hl
 nd:=(nodup_append.mp hs.nd).1
 dis:=fun a ha=>hs.dis a (cu _ ha)
 hal:=hs.hal
 cont:=fun k a ds e1 e2=>by
  obtain⟨vs,e3,l⟩:=hs.cont k a ds (fP e1) (fP e2);exact⟨vs,e3,l.mono fun b u e=>by
   obtain⟨z1,z2,z3⟩:=zP.mp e;exact zP.mpr ⟨z1,fun m=>z2 (cu _ m),z3⟩⟩
theorem cH{h o r:List Addr}{H:Hp}:Same (vx h (o++r) H) (vx h o H):=fun b u e=>by
 obtain⟨z1,z2,z3⟩:=zP.mp e;exact zP.mpr ⟨z1,fun m=>z2 (cu _ m),z3⟩
theorem Ex.pop{o o' r:List Addr}{H H':Hp}(e:Ex o H (o++r) H'):Ex o H o H':=⟨⟨[],yv⟩,fun b u hb eb=>⟨hb,(e.kp b u hb eb).2⟩⟩
theorem DH{caps:List (Option Nat)}{wi:TI}{g:TG}{tt:TT}{te:TE}{di:DI}{dg:DG}{ab:DT}{ae:DE}(hi:RI wi di)(hg:RG g dg)(ht:RT tt ab)(ak:RE te ae)
  {h o:List Addr}{H:Hp}{δ:XE}{σ:St}{S:Sto}{Q:VK}{fin:Nat->Sto->Prop} (he:RepE h o H δ σ) (hs:RepS h o H S) (q:di δ S fun ds S1=>bF S1.length dg ab ae (fin S1.length) ds (eO caps δ) (S1++[[]]))
  (c:∀o1 H1 D o2 H2 S2,Ex o H o1 H1->H1 D=none->Ex (o1++[D]) (upd H1 D (.lst [])) o2 H2->RepS h o2 H2 S2->fin o1.length S2->Q (.ref D) H2):kQ caps wi g tt te σ H Q:=by
 refine hi h o H δ σ S _ _ he hs q fun o1 H1 S1 ds J e1 s1 wk d1 D hD=>?_;have eN:Ex o1 H1 (o1++[D]) (upd H1 D (.lst [])):=Ex.new s1 hD;have sN:RepS h (o1++[D]) (upd H1 D (.lst [])) (S1++[[]]):=s1.new hD (zv.mpr rfl);have hn:S1.length=o1.length:=s1.len;refine⟨fun i m τ H2=>m=ds.length-i/\i<=ds.length/\∃o2 δ2 S2,Ex (o1++[D]) (upd H1 D (.lst [])) o2 H2/\RepE h o2 H2 δ2 τ/\RepS h o2 H2 S2/\bF S1.length dg ab ae (fin S1.length) (ds.drop i) δ2 S2,⟨ds.length,yv,ji _,_,_,_,Ex.refl,((he.mono e1).mono eN).tau,sN,d1⟩,?_⟩;rintro i m τ H2 ⟨rfl,hi,o2,δ2,S2,e2,aj,ac,d2⟩;by_cases hlt:i<ds.length
 ·have ed:ds[i]?=some ds[i]:=bi hlt;rw[kr hlt]at d2;refine .inr ⟨wk.go i _ o2 H2 (eN.trans e2).hid ed,fun x H3 y=>?_⟩;obtain⟨s3,hx⟩:=wk.yld i _ o2 H2 x H3 S2 (eN.trans e2).hid ac ed y;have ag:Ex o2 H2 o2 H3:=Ex.of_same s3;refine hg h o2 H3 δ2 τ S2 (.d ds[i]) x _ _ (aj.mono ag) (ac.same s3) hx d2 fun o4 H4 δ4 S4 τ4 e4 aa ai d4=>?_;refine ht h o4 H4 δ4 τ4 S4 _ _ aa ai d4 fun o5 H5 S5 b e5 s5 d5=>?_;have ah:=((e2.trans ag).trans e4).trans e5;cases b with
  |false=>exact e7 ⟨ds.length-(i+1),yw,rfl,hlt,o5,δ4,S5,ah,aa.mono e5,s5,by simpa using d5⟩
  |true=>
   refine eT (ak h o5 H5 δ4 τ4 S5 _ _ (aa.mono e5) s5 (by simpa using d5) fun o6 H6 S6 z v e6 s6 z6 d6=>?_);replace d6:=fI d6;obtain⟨e,rfl,acc,ea,hl,d6⟩:=d6;have af:=ah.trans e6;have eD:o6[S1.length]?=some D:=by
    obtain⟨r,rfl⟩:=af.pre;rw[hn];exact fP (by rw[bo])
   obtain⟨vs,ev,l⟩:=s6.cont _ D acc eD ea;refine⟨vs,ev,by rw[l.length];exact small1000 (jc hl),ds.length-(i+1),yw,rfl,hlt,o6,δ4,_,af.trans (Ex.upd eD),((aa.mono e5).mono e6).mono (Ex.upd eD),s6.upd eD (l.append (zo.mpr ⟨v,[],rfl,z6,zv.mpr rfl⟩)),d6⟩
 ·have ei:i=ds.length:=yw
  subst ei;rw[drop_length]at d2;exact .inl ⟨wk.stop _ o2 H2 (eN.trans e2).hid (cz _),c o1 H1 D o2 H2 S2 e1 hD e2 ac (hn▸d2)⟩
theorem wZ{caps:List (Option Nat)}{wi:TI}{g:TG}{tt:TT}{te:TE}{di:DI}{dg:DG}{aa:DT}{z:DE}(hi:RI wi di)(hg:RG g dg)(ht:RT tt aa)(ab:RE te z):RE (kQ caps wi g tt te) (gC caps di dg aa z):=fun h o H δ σ S R Q he hs q c=>by
 refine DH (fin:=fun n S2=>R (.l n) S2) hi hg ht ab he hs q fun o1 H1 D o2 H2 S2 e1 hD e2 s2 f=>?_;have eN:Ex o1 H1 (o1++[D]) (upd H1 D (.lst [])):=⟨⟨[D],rfl⟩,fun b w hb e=>by
  have ne:b≠D:=zL e hD;exact⟨by simp[hb,ne],by rw[zE ne];exact e⟩⟩
 refine c o2 H2 S2 (.l o1.length) _ ((e1.trans eN).trans e2) s2 ⟨D,?_,rfl⟩ f;obtain⟨r,rfl⟩:=e2.pre;exact fP (by rw[bo])
theorem cA{caps:List (Option Nat)}{wi:TI}{g:TG}{tt:TT}{te:TE}{di:DI}{dg:DG}{aa:DT}{ab:DE}(hi:RI wi di)(hg:RG g dg)(ht:RT tt aa)(ac:RE te ab):RE (kQ caps wi g tt te) (bD caps di dg aa ab):=fun h o H δ σ S R Q he hs q c=>by
 refine DH (fin:=fun n S2=>∃(S0:Sto) (acc:List bc),S2=S0++[acc]/\S0.length=n/\R (.d (.list acc)) S0) hi hg ht ac he hs q fun o1 H1 D o2 H2 S2 e1 hD e2 s2 ⟨S0,acc,eS,hl,f⟩=>?_;subst eS;have eN:Ex o1 H1 (o1++[D]) (upd H1 D (.lst [])):=⟨⟨[D],rfl⟩,fun b w hb e=>by
  have ne:b≠D:=zL e hD;exact⟨by simp[hb,ne],by rw[zE ne];exact e⟩⟩
 have z:=eN.trans e2;obtain⟨r,rfl⟩:=e2.pre;have er:r=[]:=by
  have:=s2.len;simp only[bv,fi,hl]at this;exact cx yw
 subst er;rw[gl]at s2 z;have s0:RepS h o1 H2 S0:=s2.pop hl;refine c o1 H2 S0 (.d (.list acc)) _ (e1.trans (Ex.pop (o':=o1) z)) s0 ?_ f;obtain⟨vs,ev,l⟩:=s2.cont o1.length D acc (by rw[bo]) (by rw[<- hl,bo]);have nD:D∉o1:=by
  have:=(nodup_append.mp s2.nd).2.2;intro m;exact this D m D yv rfl
 exact dA.mpr ⟨D,vs,rfl,zP.mpr ⟨s2.dis D yv,nD,ev⟩,l.mono cH⟩
def fin(n:Nat)(R:RX):RX:=fun y S'=>match y with
 | .l k=>if k<n then R (.l k) (S'.take n)else ∃ds,S'[k]?=some ds/\(R (.d (.list ds)) (S'.take n)\/R (.l n) (S'.take n++[ds]))
 | .p k d=>n<=k/\∃ds,S'[k]?=some ds/\R (.p n d) (S'.take n++[ds])
 |y=>R y (S'.take n)
theorem CB{h o r:List Addr}{H H':Hp}{S S':Sto}{k:Nat}{a:Addr}{ds:List bc}(hs:RepS h o H S)(e:Ex o H (o++r) H')(s':RepS h (o++r) H' S')(hk:¬ k<S.length)(ea:(o++r)[k]?=some a)(aa:S'[k]?=some ds):
  Ex o H (o++[a]) H'/\Same (vx h (o++r) H') (vx h (o++[a]) H')/\RepS h (o++[a]) H' (S'.take S.length++[ds]):=by
 have eS:S'=S'.take S.length++S'.drop S.length:=(nt _ _).symm;have hl:(S'.take S.length).length=o.length:=by
  have:=s'.len;rw[bv]at this;rw[gz,this,hs.len];omega
 have s0:RepS h o H' (S'.take S.length):=by
  rw[eS]at s';exact s'.pop hl
 have e0:Ex o H o H':=Ex.pop (o':=o) e;obtain⟨vs,ev,l⟩:=s'.cont k a ds ea aa;have na:a∉o:=fun m=>by
  obtain⟨j,ej⟩:=mem_iff_getElem?.mp m;have hj:j<o.length:=(List.getElem?_eq_some_iff.mp ej).1;have:=pZ s'.nd (fP (t:=r) ej) ea;rw[hs.len]at hk;omega
 have nh:a∉h:=s'.dis a (bw ea);have hn:H a=none:=by
  cases eh:H a with
  |none=>rfl
  |some u=>exact absurd (bw ea) (e.kp a u na eh).1
 have e1:Ex o H (o++[a]) H':=⟨⟨[a],rfl⟩,fun b u hb eb=>⟨by simp only[oj,ni,not_or];exact⟨hb,zL eb hn⟩,(e0.kp b u hb eb).2⟩⟩;have sub:Same (vx h (o++r) H') (vx h (o++[a]) H'):=fun b u eb=>by
  obtain⟨z1,z2,z3⟩:=zP.mp eb;refine zP.mpr ⟨z1,?_,z3⟩;simp only[oj,ni,not_or];exact⟨fun m=>z2 (cu _ m),fun z=>z2 (by rw[z];exact bw ea)⟩
 refine⟨e1,sub,⟨by rw[bv,bv,hl];rfl,oH hs.nd na,fun b hb=>?_,s0.hal,fun j b es q1 q2=>?_⟩⟩
 ·rcases mem_append.mp hb with hb|hb
  ·exact hs.dis b hb
  ·rw[mem_singleton.mp hb];exact nh
 ·by_cases hj:j<o.length
  ·rw[dj hj]at q1;rw[dj (by rw[hl];exact hj),List.getElem?_take_of_lt (by rw[hs.len];exact hj)]at q2;obtain⟨ws,e3,l3⟩:=s'.cont j b es (fP q1) q2;exact⟨ws,e3,l3.mono sub⟩
  ·have ab:j=o.length:=by
    obtain⟨q,_⟩:=List.getElem?_eq_some_iff.mp q1;rw[bv,fi]at q;omega
   subst ab;rw[bo]at q1;rw[<- hl,bo]at q2;cases q1;cases q2;exact⟨vs,ev,l.mono sub⟩
theorem Cv{h o:List Addr}{H:Hp}{S:Sto}{R:RX}{Q:VK}(hs:RepS h o H S)(c:Cn h o H R Q):Cn h o H (fin S.length R) Q:=fun o' H' S' y v e s' hy q=>by
 obtain⟨r,rfl⟩:=e.pre;have eS:S'=S'.take S.length++S'.drop S.length:=(nt _ _).symm;have hl:(S'.take S.length).length=o.length:=by
  have:=s'.len;rw[bv]at this;rw[gz,this,hs.len];omega
 have s0:RepS h o H' (S'.take S.length):=by
  rw[eS]at s';exact s'.pop hl
 have e0:Ex o H o H':=Ex.pop (o':=o) e;cases y with
 |d d=>exact c o H' _ (.d d) v e0 s0 (Has.mono cH d v hy) q
 |o w=>exact c o H' _ (.o w) v e0 s0 hy q
 |x C fs=>exact c o H' _ (.x C fs) v e0 s0 (HasE.mono cH hy) q
 |i C fs=>exact c o H' _ (.i C fs) v e0 s0 (HasI.mono cH hy) q
 |p k d=>
  obtain⟨hk,ds,z,q⟩:=q;obtain⟨t,a,u,rfl,ea,et,hu⟩:=hy;obtain⟨e1,sub,s1⟩:=CB hs e s' yw ea z;exact c (o++[a]) H' _ (.p S.length d) _ e1 s1 ⟨t,a,u,rfl,by rw[hs.len,bo],sub _ _ et,Has.mono sub _ _ hu⟩ q
 |l k=>
  unfold fin at q;by_cases hk:k<S.length
  ·simp only[hk,↓reduceIte]at q;obtain⟨a,ea,rfl⟩:=hy;exact c o H' _ (.l k) _ e0 s0 ⟨a,by rw[dj (by rw[<- hs.len];exact hk)]at ea;exact ea,rfl⟩ q
  ·simp only[hk,↓reduceIte]at q;obtain⟨ds,z,q⟩:=q;obtain⟨a,ea,rfl⟩:=hy;obtain⟨vs,ev,l⟩:=s'.cont k a ds ea z;have na:a∉o:=fun m=>by
    obtain⟨j,ej⟩:=mem_iff_getElem?.mp m;have hj:j<o.length:=(List.getElem?_eq_some_iff.mp ej).1;have:=pZ s'.nd (fP (t:=r) ej) ea;rw[hs.len]at hk;omega
   have nh:a∉h:=s'.dis a (bw ea);rcases q with q|q
   ·exact c o H' _ (.d (.list ds)) _ e0 s0 (dA.mpr ⟨a,vs,rfl,zP.mpr ⟨nh,na,ev⟩,l.mono cH⟩) q
   ·obtain⟨e1,sub,s1⟩:=CB hs e s' hk ea z;exact c (o++[a]) H' _ (.l S.length) _ e1 s1 ⟨a,by rw[hs.len,bo],rfl⟩ q
def aK(n:Nat)(R:RX):DEnds:={ nx:=fun _ S'=>fin n R (.d .none) S',rt:=fin n R }
theorem eok{h o:List Addr}{H:Hp}{S:Sto}{R:RX}{Q:VK}(hs:RepS h o H S)(c:Cn h o H R Q):EOk h o H (aK S.length R) { nx:=fun _ H'=>Q .non H',rt:=Q } :=
 ⟨fun o' H' δ' S' σ' e he z q=>Cv hs c o' H' S' _ _ e z xN q,Cv hs c,fun _ _ _ _ _ _ _ _ q=>q.elim,fun _ _ _ _ _ _ _ _ q=>q.elim⟩
def aV(p:List bc):Prop:=∃l g s:Int,p=[.int l,.int g,.int s]/\0<=l
end
section
def Dn(K:bx):List V->Hp->VK->Prop:=fun xs H Q=>∃(p:Addr) (ns:List Int),xs=[.ref p]/\SqL K H p (ns.map V.int)/\Q (.int ns.sum) H
def D8(K:bx):List V->Hp->VK->Prop:=fun xs H Q=>∃(p:Addr) (bs:List Bool),xs=[.ref p]/\SqL K H p (bs.map V.bl)/\Q (.bl (bs.all id)) H
theorem FI:gn "sum" = some (.builtin "sum"):=by decide +kernel
theorem yK:gn "all" = some (.builtin "all"):=by decide +kernel
section
variable {X:Cx}
theorem Cy(hc:X.calm=true):CallR X (.builtin "sum") (Dn X.K):=by
 intro zi s σ H xs us Q I r h;obtain⟨p,ns,rfl,hq,q⟩:=h;obtain⟨u,rfl,rx⟩:=vals1 r;cases (show u=fb p from rx);obtain⟨aa,rv,pl,_⟩:=I.list hq;obtain⟨ys,e,z⟩:=qU (gU rv);refine sum_intListG (I.ok.hd hc) (by rw[<- e];exact pl.isList) fun h' tk t' hk=>⟨.int ns.sum,H,I.kept (t':=tk) hk,⟨t',?_⟩,q⟩;have es:preSum (numAt ys) ys.size=ns.sum:=by
  rw[preSum_eq,z,List.take_of_length_le yv]
 rw[es]
theorem De:∀{bs:List Bool}{us:List bb}{i:Nat}{v:bb},Vals (bs.map V.bl) us->us[i]?=some v->∃b,bs[i]?=some b/\v=.bool b
 | [],_,i,v,.nil,e=>by simp at e
 |b::bs,_,0,v,.cons r _,e=>by
  rw[ol]at e;cases e;exact⟨b,rfl,r⟩
 |b::bs,_,i+1,v,.cons _ t,e=>by
  obtain⟨c,e1,e2⟩:=De (i:=i) (v:=v) t (by simpa using e);exact⟨c,by simpa using e1,e2⟩
theorem Kd(bs:List Bool):((dm bs.length).all fun i=>(bs[i]?).getD true)=bs.all id:=by
 rw[Bool.eq_iff_iff,kq,kq];constructor
 ·intro h b hb;obtain⟨i,hi⟩:=mem_iff_getElem?.mp hb;have hl:=(List.getElem?_eq_some_iff.mp hi).1;have:=h i (mem_range.mpr hl);rw[hi]at this;exact this
 ·intro h i hi;have hl:=mem_range.mp hi;rw[bi hl];exact h _ (kz hl)
theorem yH(hc:X.calm=true):CallR X (.builtin "all") (D8 X.K):=by
 intro zi s σ H xs us Q I r h;obtain⟨p,bs,rfl,hq,q⟩:=h;obtain⟨u,rfl,rx⟩:=vals1 r;cases (show u=fb p from rx);obtain⟨z,rv,pl,_⟩:=I.list hq;have hl:=pl.isList;have aa:p<s.heap.objs.size:=by
  obtain⟨_,e,_⟩:=hl;exact dw e
 refine call_all_walk (x:=fb p) (mn hl ?_);refine⟨s.heap.objs.size,[s.heap.objs.size,p],[s.heap.objs.size],z.toArray.size,_,_,fun i=>(bs[i]?).getD true,rfl,
  Walks.list (A:=X.A.in1) (I.ok.hd hc) _ p (fk aa) z.toArray,⟨⟨_,cj _ rfl,rfl,rfl⟩,hl.push _⟩,fun i v s' Q' E' hP hQ=>?_,fun h' tk hk=>?_⟩
 ·obtain⟨b,e,rfl⟩:=De (i:=i) (v:=v) rv (by simpa using hP);have ab:Q' b s':=by simpa[e]using hQ
  exact gy ab
 ·have hz:z.toArray.size=bs.length:=by
   have:=rv.length;rw[bq]at this;simp[this]
  rw[hz,Kd];refine⟨.bl _,H,I.kept (t':=tk) fun b o e=>hk b o (fun hm=>?_) (bf _ e),rfl,q⟩;rw[mem_singleton.mp hm]at e;exact jx _ (dw e)
end
def g7:List XV->Sto->RX->Prop:=fun xs S R=>arg1 xs fun x=>∃ds,dU S x=some ds/\∃ns:List Int,ds=ns.map bj/\R (.d (.int ns.sum)) S
theorem AL{K:bx}:RC (Dn K) g7:=fun h o H S xs vs R Q hs hx q c=>by
 obtain⟨x,rfl,ds,hd,ns,rfl,q1⟩:=cW q;obtain⟨v,rfl,z⟩:=hxs1 hx;obtain⟨a,ws,rfl,ea,l⟩:=bV hs hd z;rw[kS l]at ea;exact⟨a,ns,rfl,.of ea,c o H S _ _ Ex.refl hs (xI _) q1⟩
theorem B7{H:Hp}:∀{ns:List Bool}{vs:List V},HasL H (ns.map PyData.bool) vs->vs=ns.map V.bl
 | [],vs,h=>zv.mp h
 |n::ns,vs,h=>by
  obtain⟨v,r,rfl,h1,h2⟩:=zo.mp h;rw[iD.mp h1,B7 h2];rfl
def f9:List XV->Sto->RX->Prop:=fun xs S R=>arg1 xs fun x=>∃ds,dU S x=some ds/\∃ns:List Bool,ds=ns.map PyData.bool/\R (.d (.bool (ns.all id))) S
theorem rJ{K:bx}:RC (D8 K) f9:=fun h o H S xs vs R Q hs hx q c=>by
 obtain⟨x,rfl,ds,hd,ns,rfl,q1⟩:=cW q;obtain⟨v,rfl,z⟩:=hxs1 hx;obtain⟨a,ws,rfl,ea,l⟩:=bV hs hd z;rw[B7 l]at ea;exact⟨a,ns,rfl,.of ea,c o H S _ _ Ex.refl hs (xB _) q1⟩
section
variable {S:Sto}{i:Int}{b:Bool}{z:Str}{ds:List bc}{d:bc}{k:Nat}{x y:XV}{R:RX}{c:String}{p:List bc}{n:Nat}{v:V}
theorem nQ{K:Int->Prop}:asI (.d (.int i)) K=K i:=rfl
theorem qG{K:Bool->Prop}:asB (.d (.bool b)) K=K b:=rfl
theorem pT{K:Str->Prop}:asS (.d (.str z)) K=K z:=rfl
theorem nE{K:List bc->Prop}:asT (.d (.tuple ds)) K=K ds:=rfl
theorem pI{K:bc->Prop}:asD (.d d) K=K d:=rfl
theorem pM:dU S (.d (.list ds))=some ds:=rfl
theorem mC:asQ S (.d (.list ds))=some ds:=rfl
theorem mU:asQ S (.l k)=S[k]?:=rfl
theorem rE:bO S (.d d)=some d:=rfl
theorem mJ:bO S (.l k)=(S[k]?).map .list:=rfl
theorem qR:ret0 S R (.d d) []=R (.d d) S:=rfl
theorem qY:ret0 S R (.l 0) [ds]=R (.l S.length) (S++[ds]):=rfl
theorem mQ:tH k S R (.d d) [p]=R (.d d) (S.set k p):=rfl
theorem o9:fin n R (.d d) S=R (.d d) (S.take n):=rfl
theorem o7:fin n R (.l k) S=if k<n then R (.l k) (S.take n)else ∃ds,S[k]?=some ds/\(R (.d (.list ds)) (S.take n)\/R (.l n) (S.take n++[ds])):=rfl
theorem qQ{K:XV->Prop}:arg1 [x] K=K x:=rfl
theorem qN{K:XV->XV->Prop}:arg2 [x,y] K=K x y:=rfl
theorem oC{K:String->Prop}:xP (.o (.ty c)) K↔K c:=⟨fun⟨_,e,q⟩=>by cases e;exact q,fun q=>⟨c,rfl,q⟩⟩
theorem oX{K:Int->Prop}:yI (.d (.bool b)) K=K (if b then 1 else 0):=rfl
theorem qC{δ:XE}:(aK n R).nx δ S=fin n R (.d .none) S:=rfl
theorem oV:(aK n R).rt x S=fin n R x S:=rfl
theorem pL:datas []=some []:=rfl
theorem mI{r:List XV}:datas (.d d::r)=(datas r).map (d :: ·):=rfl
end
theorem pG{α:Type}{a:α}{l:List α}:atI (a::l) 0=some a:=fR (j:=0) rfl
theorem lR{α:Type}{a b:α}{l:List α}:atI (a::b::l) 1=some b:=fR (j:=1) rfl
theorem nV{α:Type}{a b c:α}{l:List α}:atI (a::b::c::l) 2=some c:=fR (j:=2) rfl
def Shp(n:Nat)(d:bc):Prop:=d.canLay0=true/\d.depth<=n
theorem j5{n:Nat}{i:Int}:Shp n (.int i):=⟨rfl,ji _⟩
theorem vR{n:Nat}:∀{ds:List bc},(∀d∈ds,Shp n d)->im ds=true/\iy ds<=n
 | [],_=>⟨by simp only[im],by simp only[iy];exact ji _⟩
 |d::ds,h=>by
  obtain⟨h1,h2⟩:=h d br;obtain⟨h3,h4⟩:=vR (ds:=ds) fun e m=>h e (bp _ m);simp only[im,iy,h1,h3,qp,true_and];omega
theorem o8{n:Nat}{ds:List bc}(h:∀d∈ds,Shp n d):Shp (n+1) (.list ds):=by
 obtain⟨h1,h2⟩:=vR h;exact⟨by simp only[jl];exact h1,by simp only[PyData.depth];omega⟩
theorem nO{n:Nat}{ds:List bc}(h:∀d∈ds,Shp n d):Shp (n+1) (.tuple ds):=by
 obtain⟨h1,h2⟩:=vR h;exact⟨by simp only[jl];exact h1,by simp only[PyData.depth];omega⟩
theorem uK{α:Type}{n:Nat}{f:α->bc}{l:List α}(h:∀x∈l,Shp n (f x)):∀d∈l.map f,Shp n d:=fun d m=>by
 obtain⟨x,hx,rfl⟩:=mem_map.mp m;exact h x hx
theorem II{n:Nat}{a b:bc}(h1:Shp n a)(h2:Shp n b):∀d∈[a,b],Shp n d:=by
 intro d m;simp only[jd,gq,or_false]at m;rcases m with rfl|rfl
 ·exact h1
 ·exact h2
theorem Shp.ok{n:Nat}{d:bc}(h:Shp n d)(hn:n<=64:=by decide):ci d=true:=by
 unfold ci;rw[h.1,fe (fv h.2 hn)];rfl
theorem fA{g:DG}{b:DS}{E:DEnds}:∀{ds:List bc}{δ:XE}{S:Sto} (I:Nat->XE->Sto->Prop),I 0 δ S ->
  (∀i d δ S (N:XE->Sto->Prop),ds[i]?=some d->I i δ S->(∀ δ' S',I (i+1) δ' S'->N δ' S')->g (.d d) δ S fun δ1 S1=>b { nx:=N,ct:=N,bk:=E.nx,rt:=E.rt } δ1 S1) ->
  (∀ δ S,I ds.length δ S->E.nx δ S)->kL g b ds E δ S
 | [],δ,S,I,h0,_,fin=>fin δ S h0
 |d::ds,δ,S,I,h0,step,fin=>by
  show g (.d d) δ S fun δ1 S1=>b _ δ1 S1;refine step 0 d δ S _ rfl h0 fun δ' S' h1=>?_;exact fA (ds:=ds) (fun i=>I (i+1)) h1 (fun i e δ S N hi=>step (i+1) e δ S N (by simpa using hi)) fin
theorem sW{α:Type}{l:List α}{a b:α}{n:Nat}(h:l.length=n):(l++[a]).set n b=l++[b]:=by
 subst h;rw[List.set_append_right _ _ (cz _),Nat.sub_self];rfl
theorem Lr{H:Hp}:RepS [] [] H []:=⟨rfl,pf,fun _ h=>(nomatch h),fun _ h=>(nomatch h),fun _ _ _ e=>(by simp at e)⟩
theorem Ex.same_nil{o':List Addr}{H H':Hp}(e:Ex [] H o' H'):Same H H':=fun b u q=>(e.kp b u yv q).2
theorem J5{K:bx}{a:Addr}{ns:List Int}{N:Int}{j m:Nat}{tb:TS}{db:DS}{D:Ends}{σ:St}{H:Hp}(hb:RS tb db)(h0:σ[0]?=some (some (.ref a)))(hl:σ.length=m+1)(hS:SqL K H a (ns.map V.int))(z:ns.length<=63)
  (turn:∀n:Int,db { nx:=fun δ _=>δ[0]?=some (some (.o (.ref a)))/\δ.length=m+1,ct:=fun δ _=>δ[0]?=some (some (.o (.ref a)))/\δ.length=m+1,rt:=fun _ _=>False } ((some (.o (.ref a))::bh m none).set j (some (.d (.int n)))) [])
  (hj:j≠0) (done:∀(σ:St) (H1:Hp),Same H H1->D.nx σ H1):
  pR (AE K (tOp kK (lJ (eC (tC2 (AC K) (bZ 0) (tC (.int 0))) gB)) (tSl (oT K) (bZ 0) (kT (tC (.int 1))) (kT (tC (.int N)))))) (kC j) tb D σ H:=by
 refine IE (a:=a) (ns:=ns) (fun σ=>σ[0]?=some (some (.ref a))/\σ.length=m+1) h0 hS z ⟨h0,hl⟩ ?_ fun σ H1 _ s=>done σ H1 s;rintro n σ1 H1 H2 ⟨z0,z1⟩ s1 s2;refine hb [] [] H2 _ _ [] _ _ ⟨by simp[z1],fun i x e=>?_⟩ Lr (turn n) ⟨?_,fun _ _ _ _ _ _ _ _ q=>q.elim,fun _ _ _ _ _ _ _ _ q=>q.elim,?_⟩
 ·rw[List.getElem?_set]at e ⊢;by_cases hij:j=i
  ·rw[cq hij]at e ⊢;by_cases hjl:j<m+1
   ·rw[cq (by simpa using hjl)]at e;rw[cq (by rw[z1];exact hjl)];cases e;exact⟨.int n,rfl,xI n⟩
   ·rw[ck (by simpa using hjl)]at e;cases e
  ·rw[ck hij]at e ⊢;cases i with
   |zero=>
    cases e;exact⟨.ref a,z0,rfl⟩
   |succ i=>
    rw[om,List.getElem?_replicate]at e;split at e<;>cases e
 ·rintro o' H' δ' S' σ' e he hs ⟨q1,q2⟩;obtain⟨v,ev,hv⟩:=he.get 0 _ q1;cases hv;exact⟨s2.trans e.same_nil,ev,by rw[<- he.len];exact q2⟩
 ·rintro o' H' δ' S' σ' e he hs ⟨q1,q2⟩;obtain⟨v,ev,hv⟩:=he.get 0 _ q1;cases hv;exact⟨s2.trans e.same_nil,ev,by rw[<- he.len];exact q2⟩
end
section
theorem Lk{P:cy}{w:fq}{K:bx}{tg:Expr}(it:Addr)(lo:Int)(n:Nat):Turn P w K tg (Itr lo n) [it] it (fun i h=>IsLongIter h it (lo+(i:Nat)*1) ((n:Int)-(i:Nat)) 1) where
 mem:=by simp
 obj:=fun i h st b hb=>by
  have e:b=it:=by simpa using hb
  subst e;exact⟨_,st,fun v z=>by
   have z':Data.fields _=Data.cell v:=z;cases z'⟩
 keep:=fun i h h' st k=>k it yv _ st
 item:=by
  intro X hP hw hK hc i zi s σ H E I hf st hg;subst hP hw hK;obtain⟨f0,f1,f2,f3,f4,f5⟩:=hf it yv;have W:=Walks.longrange (prog:=X.prog) (w:=X.w) (I.ok.hd hc) it lo 1 n;refine W.item i s _ _ hg st fun v h' tk hv q kk=>?_;obtain⟨t,rfl⟩:=hv;have I1:Inv X zi σ H { s with heap:=h',toks:=tk }:=I.turned (fun b o hb e=>kk b o (by simpa using hb) e) f0 f1 f3 f4 f5;refine⟨_,rfl,rK (s:={ s with heap:=h',toks:=tk }) (n:="longrange_iterator") q rfl rfl dz ⟨.int (lo+i),H,I1,⟨t,?_⟩,⟨rfl,rfl⟩,q,fun b hb=>(hf b hb).1⟩⟩;rw[Int.mul_one]
 done:=by
  intro X hP hw hK hc i zi s σ H E I hf st hg;subst hP hw hK;obtain⟨f0,f1,f2,f3,f4,f5⟩:=hf it yv;exact wpAny_pyNext_long_end (I.ok.hd hc) st (by have:n<=i:=hg;omega) fun h' eb=>⟨rfl,I.turned (t':=s.toks) (fun b o hb e=>eb b o hb e) f0 f1 f3 f4 f5⟩
 self:=fun _ _ _ _ _ st h=>wpAny_pyIter_longiter st h
section
variable {X:Cx}{tg:Expr}
theorem CU{zi:List (Addr×Obj)}{σ:St}{H:Hp}{s:bd}{R:It->Hp->Prop}{E:bb->bd->Prop}{lo hi:Int}{t u v:Tok}{tk:Nat}(I:Inv X zi σ H s)
  (q:R (Itr lo (hi-lo).toNat) H):bn (model X.prog X.w) X.A (pyIter (.ref s.heap.objs.size)) (PIE X zi σ tg R) E { s with heap:=s.heap.push { cls:=.type "range",data:=.fields #[.int lo t,.int hi u,.int 1 v] },toks:=tk }:=by
 have I1:Inv X zi σ H { s with heap:=s.heap.push { cls:=.type "range",data:=.fields #[.int lo t,.int hi u,.int 1 v] },toks:=tk }:=I.kept fun b o e=>bf _ e;have e1:lo+((0:Nat):Int)*1=lo:=by simp
 have e2:(((hi-lo).toNat:Nat):Int)-((0:Nat):Int)=jr lo hi 1:=by rw[rangeSize_one];split<;>omega
 cases hsm:Builtin.Range.small lo hi 1 with
 |true=>
  refine wpAny_pyIter_range (IsRange.new ..) hsm ?_;refine⟨(s.heap.push { cls:=.type "range",data:=.fields #[.int lo t,.int hi u,.int 1 v] }).objs.size,[(s.heap.push { cls:=.type "range",data:=.fields #[.int lo t,.int hi u,.int 1 v] }).objs.size],_,_,H,rfl,
   I1.kept (t':=tk) fun b o e=>bf _ e,Ls _ lo (hi-lo).toNat,?_,fun b hb=>?_,q⟩
  ·show IsRangeIter _ _ (lo+((0:Nat):Int)*1) ((((hi-lo).toNat:Nat):Int)-((0:Nat):Int)) 1;rw[e1,e2];exact cj _ rfl
  ·have e:b=(s.heap.push { cls:=.type "range",data:=.fields #[.int lo t,.int hi u,.int 1 v] }).objs.size:=by simpa using hb
   subst e;exact I1.fpOk (cz _) (I1.hok.fresh (cz _))
 |false=>
  refine wpAny_pyIter_longrange (IsRange.new ..) hsm ?_;refine⟨(s.heap.push { cls:=.type "range",data:=.fields #[.int lo t,.int hi u,.int 1 v] }).objs.size,[(s.heap.push { cls:=.type "range",data:=.fields #[.int lo t,.int hi u,.int 1 v] }).objs.size],_,_,H,rfl,
   I1.kept (t':=tk) fun b o e=>bf _ e,Lk _ lo (hi-lo).toNat,?_,fun b hb=>?_,q⟩
  ·show IsLongIter _ _ (lo+((0:Nat):Int)*1) ((((hi-lo).toNat:Nat):Int)-((0:Nat):Int)) 1;rw[e1,e2];exact cj _ rfl
  ·have e:b=(s.heap.push { cls:=.type "range",data:=.fields #[.int lo t,.int hi u,.int 1 v] }).objs.size:=by simpa using hb
   subst e;exact I1.fpOk (cz _) (I1.hok.fresh (cz _))
def Du(ta:TA):TI:=fun σ H R=>ta σ H fun vs H1=>∃j:Int,vs=[.int j]/\R (Itr 0 j.toNat) H1
def By(ta:TA):TI:=fun σ H R=>ta σ H fun vs H1=>∃i j:Int,vs=[.int i,.int j]/\R (Itr i (j-i).toNat) H1
theorem fM{a:Expr}{ta:TA}{p pos:Pos}(hg:Gl X "range")(hm:X.mg "range" = none)(ha:PA X [a] ta)(hs:cr [a] X.env=[(false,eval a X.env)]:=by rfl):PI X tg (.Call (.Name "range" p) [a] [] pos) (Du ta):=by
 intro zi s σ H R I h;refine Call_ (e9 I hg hm boot_range (gx (thn (ha pos zi s σ H _ I h) fun us s1 ⟨vs,H1,I1,r1,q1⟩=>?_) hs rfl));obtain⟨j,e,q⟩:=q1;subst e;cases r1 with
 |cons r rr=>
  cases rr;obtain⟨t,rfl⟩:=r;exact call_range_1 (CU I1 (by simpa using q))
theorem IA{a b:Expr}{ta:TA}{p pos:Pos}(hg:Gl X "range")(hm:X.mg "range" = none)(ha:PA X [a,b] ta)(hs:cr [a,b] X.env=[(false,eval a X.env),(false,eval b X.env)]:=by rfl)(z:cr [b] X.env=[(false,eval b X.env)]:=by rfl):
  PI X tg (.Call (.Name "range" p) [a,b] [] pos) (By ta):=by
 intro zi s σ H R I h;refine Call_ (e9 I hg hm boot_range (gx (thn (ha pos zi s σ H _ I h) fun us s1 ⟨vs,H1,I1,r1,q1⟩=>?_) (by rw[hs,z]) (by rw[z];rfl)));obtain⟨i,j,e,q⟩:=q1;subst e;cases r1 with
 |cons r rr=>
  cases rr with
  |cons r' rr=>
   cases rr;obtain⟨t,rfl⟩:=r;obtain⟨t',rfl⟩:=r';exact call_range_2 (CU I1 q)
end
def cC(a:DA):DI:=fun δ S R=>a δ S fun xs S1=>arg1 xs fun x=>asI x fun j=>R (d7 0 j.toNat) S1
def i7(a:DA):DI:=fun δ S R=>a δ S fun xs S1=>arg2 xs fun x y=>asI x fun i=>asI y fun j=>R (d7 i (j-i).toNat) S1
theorem gJ{ta:TA}{da:DA}(ha:RA ta da):RI (Du ta) (cC da):=fun h o H δ σ S R Q he hs q c=>
 ha h o H δ σ S _ _ he hs q fun o1 H1 S1 xs vs e1 s1 x1 d0=>by
  obtain⟨x,rfl,d2⟩:=cW d0;obtain⟨j,rfl,d1⟩:=bB d2;obtain⟨v,rfl,hv⟩:=hxs1 x1;rw[bE hv];exact⟨j,rfl,c o1 H1 S1 _ _ e1 s1 Dz d1⟩
theorem LF{ta:TA}{da:DA}(ha:RA ta da):RI (By ta) (i7 da):=fun h o H δ σ S R Q he hs q c=>
 ha h o H δ σ S _ _ he hs q fun o1 H1 S1 xs vs e1 s1 x1 d0=>by
  obtain⟨x,y,rfl,d2⟩:=sJ d0;obtain⟨i,rfl,d3⟩:=bB d2;obtain⟨j,rfl,d1⟩:=bB d3;obtain⟨v,u,rfl,hv,hu⟩:=hxs2 x1;rw[bE hv,bE hu];exact⟨i,j,rfl,c o1 H1 S1 _ _ e1 s1 Dz d1⟩
end
section
open Sem (wp)
open AutoSeq1 (wpAny_loadPart')
def Bh(i:Nat):List bc->List bc
 | []=>[]
 |d::ds=>.tuple [.int i,d]::Bh (i+1) ds
theorem Hu{X:Cx}{x:Str}{i:Int}{pos:Pos}(hg:Gl X x)(hm:∃t,X.mg x=some (.int i t))(hd:(x==("__debug__":Str))=false:=by decide):PE X (.Name x pos) (tC (.int i)):=by
 obtain⟨t,e⟩:=hm;exact tG hg e ⟨t,rfl⟩ hd
end
section
def dIx:D2:=fun x y S R=>asI y fun i=>match x with
 | .d (.tuple ds)=>∃d,atI ds i=some d/\R (.d d) S
 | .d (.list ds)=>∃d,atI ds i=some d/\R (.d d) S
 | .l k=>∃ds,S[k]?=some ds/\∃d,atI ds i=some d/\R (.d d) S
 | .d (.str z)=>z.length<=df/\∃c,atI z.cps.toList i=some c/\R (.d (.str ⟨#[c]⟩)) S
 |_=>False
theorem IC:RO yD (fun x y S R=>asS x fun z=>asI y fun i=>z.length<=df/\∃c,atI z.cps.toList i=some c/\R (.d (.str ⟨#[c]⟩)) S):=fun h o H S x y v u R Q hs hx hy q c=>by
 replace q:=uB q;obtain⟨z,rfl,q⟩:=q;replace q:=bB q;obtain⟨i,rfl,hz,k,ek,q⟩:=q;exact⟨z,i,k,dW hx,bE hy,hz,ek,c o H S _ _ Ex.refl hs (xS _) q⟩
theorem aJ{K:bx}:RO (rIx K) dIx:=fun h o H S x y v u R Q hs hx hy q c=>by
 replace q:=bB q;obtain⟨i,rfl,q⟩:=q;split at q
 ·exact .inr (.inl (IY h o H S _ _ v u R Q hs hx hy q c))
 ·exact .inl (EY h o H S _ _ v u R Q hs hx hy ⟨_,rfl,q⟩ c)
 ·exact .inl (EY h o H S _ _ v u R Q hs hx hy q c)
 ·exact .inr (.inr (IC h o H S _ _ v u R Q hs hx hy q c))
 ·exact q.elim
section
variable {S:Sto}{R:RX}{ds:List bc}{i:Int}{k:Nat}{z:Str}
theorem nB:dIx (.d (.tuple ds)) (.d (.int i)) S R=∃d,atI ds i=some d/\R (.d d) S:=rfl
theorem qZ:dIx (.d (.list ds)) (.d (.int i)) S R=∃d,atI ds i=some d/\R (.d d) S:=rfl
theorem oN:dIx (.l k) (.d (.int i)) S R=∃ds,S[k]?=some ds/\∃d,atI ds i=some d/\R (.d d) S:=rfl
theorem oQ:dIx (.d (.str z)) (.d (.int i)) S R=(z.length<=df/\∃c,atI z.cps.toList i=some c/\R (.d (.str ⟨#[c]⟩)) S):=rfl
end
def xV(K:bx):V->Option Int->Option Int->Hp->VK->Prop:=fun x a b H Q=>oT K x a b H Q\/(yO K x a b H Q\/Cg x a b H Q)
theorem iJ{X:Cx}:SlR X (xV X.K):=Bl.or (KJ.or HM)
def dZ:D3:=fun x i j S R=>match x with
 | .d (.tuple ds)=>¬(HT.sIx ds.length 0 i=0/\HT.sIx ds.length ds.length j=ds.length)/\R (.d (.tuple (aS ds i j))) S
 | .d (.list ds)=>R (.d (.list (aS ds i j))) S
 | .l k=>∃ds,S[k]?=some ds/\R (.d (.list (aS ds i j))) S
 | .d (.str z)=>z.length<=df/\R (.d (.str (PySem.Txt.slice z i j))) S
 |_=>False
theorem jP{K:bx}:RL (xV K) dZ:=fun h o H S x v a b R Q hs hx q c=>by
 unfold dZ at q;split at q
 ·exact .inr (.inl (KI h o H S _ v a b R Q hs hx q c))
 ·exact .inl (FC h o H S _ v a b R Q hs hx ⟨_,rfl,q⟩ c)
 ·exact .inl (FC h o H S _ v a b R Q hs hx q c)
 ·exact .inr (.inr ⟨_,dW hx,q.1,c o H S _ _ Ex.refl hs (xS _) q.2⟩)
 ·exact q.elim
section
variable {S:Sto}{R:RX}{ds:List bc}{i j:Option Int}{k:Nat}{z:Str}
theorem mF:dZ (.d (.tuple ds)) i j S R=(¬(HT.sIx ds.length 0 i=0/\HT.sIx ds.length ds.length j=ds.length)/\R (.d (.tuple (aS ds i j))) S):=rfl
theorem mB:dZ (.l k) i j S R=∃ds,S[k]?=some ds/\R (.d (.list (aS ds i j))) S:=rfl
theorem pA:dZ (.d (.str z)) i j S R=(z.length<=df/\R (.d (.str (PySem.Txt.slice z i j))) S):=rfl
end
def Ci(K:bx):R2:=fun x y H Q=>∃a b ys,x=.ref a/\y=.ref b/\SqT K H a []/\SqT K H b ys/\Q (.ref b) H
theorem Jg{X:Cx}:OpR X (km .Add) (Ci X.K):=by
 intro zi s σ H x y v u Q I rx ry h;obtain⟨a,b,ys,rfl,rfl,ha,hb,q⟩:=h;cases rx;cases ry;obtain⟨aa,r1,p1,_⟩:=I.tuple ha;obtain⟨z,r2,p2,_⟩:=I.tuple hb;cases r1;obtain⟨⟨c1,d1,e1,l1⟩,o1,w1,n1,k1⟩:=id p1;obtain⟨⟨c2,d2,e2,l2⟩,o2,w2,n2,k2⟩:=id p2;simp only at w1 k1 w2 k2;subst w1 k1 w2 k2;exact concat_meets ⟨_,o1,rfl⟩ ⟨_,o2,rfl⟩ noFill_tuple_add seq_tuple_add PySem.F.slot_tuple_add PySem.F.entry_tuple_add (PySem.F.args_tuple_add_2 _ _) (tuple_addW0 a b _ _ n1 n2 d1 d2 l1 l2 yv) ⟨o1,o2,⟨.ref b,H,I,rfl,q⟩⟩
def FG(K:bx):R2:=fun x y H Q=>rI0 (fun i j=>.int (i+j)) x y H Q\/(kK x y H Q\/(yJ K x y H Q\/(Ci K x y H Q\/∃i j,x=.str i/\y=.str j/\i.length+j.length<=df/\Q (.str (i++j)) H)))
theorem zG{X:Cx}:OpR X (km .Add) (FG X.K):=Ke.or (yE.or (GD.or (Jg.or Ib)))
def aD:D2:=fun x y S R=>match x,y with
 | .d (.int i),.d (.int j)=>R (.d (.int (i+j))) S
 | .d (.tuple ds),.d (.tuple es)=>ds.length+es.length<=1000/\R (.d (.tuple (ds++es))) S
 | .d (.str a),.d (.str b)=>a.length+b.length<=df/\R (.d (.str (a++b))) S
 |x,y=>asL S x fun ds=>asL S y fun es=>ds.length+es.length<=1000/\R (.d (.list (ds++es))) S
theorem aU{K:bx}:RO (FG K) aD:=fun h o H S x y v u R Q hs hx hy q c=>by
 unfold aD at q;split at q
 ·exact .inl (r9 h o H S _ _ v u R Q hs hx hy q c)
 ·rename_i ds es;cases ds with
  |cons d ds=>exact .inr (.inr (.inl (Jt h o H S _ _ v u R Q hs hx hy ⟨yv,q⟩ c)))
  |nil=>
   obtain⟨a,vs,rfl,ea,l⟩:=gL hx;obtain⟨b,us,rfl,eb,l'⟩:=gL hy;rw[zv.mp l]at ea;exact .inr (.inr (.inr (.inl ⟨a,b,us,rfl,rfl,.of ea,.of eb,c o H S (.d (.tuple es)) _ Ex.refl hs hy q.2⟩)))
 ·exact .inr (.inr (.inr (.inr ⟨_,_,dW hx,dW hy,q.1,c o H S _ _ Ex.refl hs (xS _) q.2⟩)))
 ·exact .inr (.inl (GW h o H S _ _ v u R Q hs hx hy q c))
section
variable {S:Sto}{R:RX}{ds es:List bc}{i j:Int}{k l:Nat}{a b:Str}
theorem pH:aD (.d (.int i)) (.d (.int j)) S R=R (.d (.int (i+j))) S:=rfl
theorem qX:aD (.d (.tuple ds)) (.d (.tuple es)) S R=(ds.length+es.length<=1000/\R (.d (.tuple (ds++es))) S):=rfl
theorem nK:aD (.d (.list ds)) (.d (.list es)) S R↔(ds.length+es.length<=1000/\R (.d (.list (ds++es))) S):=⟨fun⟨_,e,_,e',q⟩=>by cases e;cases e';exact q,fun q=>⟨_,rfl,_,rfl,q⟩⟩
end
def Bn:R2:=fun x y H Q=>rI IntMulOk (fun i j=>.int (i*j)) x y H Q\/(CS x y H Q\/At x y H Q)
theorem cP{X:Cx}:OpR X (km .Mult) Bn:=JX.or (Fq.or Lw)
def bK:D2:=fun x y S R=>asI y fun j=>match x with
 | .d (.int i)=>IntMulOk i j/\R (.d (.int (i*j))) S
 | .d (.str z)=>z.length<=1000/\j<=1000/\-1000<=j/\R (.d (.str (PySem.Txt.mul z j))) S
 | .d (.list ds)=>j<=1000/\-1000<=j/\ds.length*j.toNat<=1000/\R (.d (.list (bh j.toNat ds).flatten)) S
 |_=>False
theorem HasL.rep{H:Hp}{ds:List bc}{vs:List V}(l:HasL H ds vs):∀n:Nat,HasL H (bh n ds).flatten (bh n vs).flatten
 | 0=>zv.mpr rfl
 |n+1=>by
  rw[nr,nr,flatten_cons,flatten_cons];exact l.append (HasL.rep l n)
theorem g6:RO Bn bK:=fun h o H S x y v u R Q hs hx hy q c=>by
 replace q:=bB q;obtain⟨j,rfl,q⟩:=q;split at q
 ·exact .inl (jQ h o H S _ _ v u R Q hs hx hy q c)
 ·exact .inr (.inl ⟨_,_,dW hx,bE hy,q.1,q.2.1,q.2.2.1,c o H S _ _ Ex.refl hs (xS _) q.2.2.2⟩)
 ·obtain⟨a,vs,rfl,ea,l⟩:=bV (x:=.d (.list _)) hs rfl hx;obtain⟨h1,h2,h3,q⟩:=q;exact .inr (.inr ⟨a,j,vs,rfl,bE hy,ea,yw,yw,by rw[l.length];exact jc (small1000 h3),lK hs (l.rep j.toNat) c q⟩)
 ·exact q.elim
section
variable {S:Sto}{R:RX}{i j:Int}{z:Str}{ds:List bc}
theorem p6:bK (.d (.list ds)) (.d (.int j)) S R=(j<=1000/\-1000<=j/\ds.length*j.toNat<=1000/\R (.d (.list (bh j.toNat ds).flatten)) S):=rfl
theorem oG:bK (.d (.int i)) (.d (.int j)) S R=(IntMulOk i j/\R (.d (.int (i*j))) S):=rfl
theorem pB:bK (.d (.str z)) (.d (.int j)) S R=(z.length<=1000/\j<=1000/\-1000<=j/\R (.d (.str (PySem.Txt.mul z j))) S):=rfl
end
def DK:R2:=fun x y H Q=>rI CDivX (fun i j=>.int (i/j)) x y H Q\/rI CDivN (fun i j=>.int (i.fdiv j)) x y H Q
theorem rA{X:Cx}:OpR X (km .FloorDiv) DK:=G7.or Fn
def dFd:D2:=fun x y S R=>asI x fun i=>asI y fun j=>(CDivX i j/\R (.d (.int (i/j))) S)\/(CDivN i j/\R (.d (.int (i.fdiv j))) S)
theorem Gd:RO DK dFd:=fun h o H S x y v u R Q hs hx hy q c=>by
 replace q:=bB q;obtain⟨i,rfl,q⟩:=q;replace q:=bB q;obtain⟨j,rfl,q⟩:=q;rcases q with q|q
 ·exact .inl (jQ (C:=CDivX) (g:=fun i j=>i/j) h o H S _ _ v u R Q hs hx hy q c)
 ·exact .inr (jQ (C:=CDivN) (g:=fun i j=>i.fdiv j) h o H S _ _ v u R Q hs hx hy q c)
def pE(S:Sto):XV->Option Bool
 | .d .none=>some false
 | .d (.bool b)=>some b
 | .d (.int i)=>some (i != 0)
 | .d (.str z)=>if z.length<=df then some ((z.length:Int) != 0)else none
 | .d (.list ds)=>some (!ds.isEmpty)
 | .d (.tuple ds)=>some (!ds.isEmpty)
 | .l k=>(S[k]?).map fun ds=>!ds.isEmpty
 |_=>none
def bQ(a:DE):DT:=fun δ S R=>a δ S fun x S1=>∃k,pE S1 x=some k/\R k S1
theorem AH{H:Hp}{ds:List bc}{vs:List V}(l:HasL H ds vs):(!ds.isEmpty)=!vs.isEmpty:=by
 have:=l.length;cases ds<;>cases vs<;>simp_all
theorem jJ{K:bx}{ta:TE}{da:DE}(ha:RE ta da):RT (fun σ H Q=>ta σ H fun x H'=>∃k,TruV K x H' k/\Q k H') (bQ da):=fun h o H δ σ S R Q he hs q c=>
 ha h o H δ σ S _ _ he hs q fun o1 H1 S1 x v e1 s1 x1 ⟨k,ek,d1⟩=>by
  refine⟨k,?_,c o1 H1 S1 k e1 s1 d1⟩;unfold pE at ek;split at ek
  ·cases ek;rw[(kM (H:=vx h o1 H1)).mp x1];rfl
  ·cases ek;rw[f6 x1];rfl
  ·cases ek;rw[bE x1];rfl
  ·split at ek
   ·rename_i hz;cases ek;rw[dW x1];exact⟨hz,rfl⟩
   ·cases ek
  ·obtain⟨a,vs,rfl,ea,l⟩:=bV (x:=.d (.list _)) s1 rfl x1;cases ek;exact .inl ⟨vs,.of ea,AH l⟩
  ·obtain⟨a,vs,rfl,ea,l⟩:=gL x1;cases ek;exact .inr (.inl ⟨vs,.of ea,AH l⟩)
  ·rename_i j _;cases hj:S1[j]? with
   |none=>rw[hj]at ek;cases ek
   |some ds=>
    rw[hj]at ek;cases ek;obtain⟨a,vs,rfl,ea,l⟩:=bV (x:=.l j) s1 hj x1;exact .inl ⟨vs,.of ea,AH l⟩
  ·cases ek
section
variable {S:Sto}{b:Bool}{i:Int}{ds:List bc}{k:Nat}
theorem nH:pE S (.d (.bool b))=some b:=rfl
theorem oW:pE S (.d (.tuple ds))=some (!ds.isEmpty):=rfl
theorem qB:pE S (.l k)=(S[k]?).map fun ds=>!ds.isEmpty:=rfl
end
def jW:DS:=fun _ _ _=>False
theorem IG:RS FA jW:=fun h o H δ σ S E D he hs q c=>q.elim
def BG(K:bx)(tl:TE):TI:=fun σ H R=>tl σ H fun x H1=>∃a,x=.ref a/\(((∃xs,SqL K H1 a xs)/\R (Itl K a) H1)\/((∃xs,SqT K H1 a xs)/\R (Itt K a) H1))
theorem bG{X:Cx}{tg:Expr}{l:Expr}{tl:TE}(hl:PE X l tl):PI X tg l (BG X.K tl):=by
 intro zi s σ H R I h;refine thn (hl zi s σ H _ I h) fun v s1 ⟨x,H1,I1,r1,q1⟩=>?_;obtain⟨a,e,⟨⟨xs,hq⟩,q⟩|⟨⟨xs,hq⟩,q⟩⟩:=q1
 ·subst e;cases r1;obtain⟨z,rv,p,hz⟩:=I1.list hq;refine mn p.isList ?_;refine⟨s1.heap.objs.size,[s1.heap.objs.size],_,_,H1,rfl,I1.kept (t':=s1.toks) fun b o e=>bf _ e,C9 a _,⟨_,cj _ rfl,rfl,rfl⟩,fun b hb=>?_,q⟩;have e:b=s1.heap.objs.size:=by simpa using hb
  subst e;exact I1.fpOk (cz _) (I1.hok.fresh (cz _))
 ·subst e;cases r1;obtain⟨z,rv,p,hz⟩:=I1.tuple hq;refine wpAny_pyIter_tuple (show s1.heap.IsTuple a z.toArray from p) ?_;refine⟨s1.heap.objs.size,[s1.heap.objs.size],_,_,H1,rfl,I1.kept (t':=s1.toks) fun b o e=>bf _ e,LC a _,⟨_,cj _ rfl,rfl,rfl⟩,fun b hb=>?_,q⟩;have e:b=s1.heap.objs.size:=by simpa using hb
  subst e;exact I1.fpOk (cz _) (I1.hok.fresh (cz _))
def fD:XV->Option (List bc)
 | .d (.list ds)=>some ds
 | .d (.tuple ds)=>some ds
 |_=>none
theorem nT{ds:List bc}:fD (.d (.list ds))=some ds:=rfl
theorem pK{ds:List bc}:fD (.d (.tuple ds))=some ds:=rfl
def aR(e:DE):DI:=fun δ S R=>e δ S fun x S1=>∃ds,fD x=some ds/\R ds S1
theorem bS{K:bx}{te:TE}{de:DE}(z:RE te de):RI (BG K te) (aR de):=fun h o H δ σ S R Q he hs q c=>
 z h o H δ σ S _ _ he hs q fun o1 H1 S1 x v e1 s1 x1 ⟨ds,ex,d1⟩=>by
  unfold fD at ex;split at ex
  ·cases ex;obtain⟨a,vs,rfl,ea,l⟩:=dA.mp (show Has _ _ _ from x1);have hl:=l.length;refine⟨a,rfl,.inl ⟨⟨vs,.of (zW _ _ ea)⟩,c o1 H1 S1 ds _ e1 s1 ⟨fun i o2 H2 e2 hi=>⟨vs,.of (zW _ _ (e2.vx _ _ ea)),yw⟩,fun i d o2 H2 e2 hi=>?_,fun i d o2 H2 x H3 S2 e2 s2 hi y=>?_⟩ d1⟩⟩
   ·obtain⟨v,ev,_⟩:=l.get hi;exact⟨vs,v,.of (zW _ _ (e2.vx _ _ ea)),ev⟩
   ·obtain⟨v,ev,hv⟩:=l.get hi;have e3:H3=H2:=y.1;subst e3;have ex:=y.2 vs (.of (zW _ _ (e2.vx _ _ ea)));rw[ev]at ex;cases ex;exact⟨Same.refl _,hv.mono e2.vx⟩
  ·cases ex;obtain⟨a,vs,rfl,ea,l⟩:=cO.mp (show Has _ _ _ from x1);have hl:=l.length;refine⟨a,rfl,.inr ⟨⟨vs,.of (zW _ _ ea)⟩,c o1 H1 S1 ds _ e1 s1 ⟨fun i o2 H2 e2 hi=>⟨vs,.of (zW _ _ (e2.vx _ _ ea)),yw⟩,fun i d o2 H2 e2 hi=>?_,fun i d o2 H2 x H3 S2 e2 s2 hi y=>?_⟩ d1⟩⟩
   ·obtain⟨v,ev,_⟩:=l.get hi;exact⟨vs,v,.of (zW _ _ (e2.vx _ _ ea)),ev⟩
   ·obtain⟨v,ev,hv⟩:=l.get hi;have e3:H3=H2:=y.1;subst e3;have ex:=y.2 vs (.of (zW _ _ (e2.vx _ _ ea)));rw[ev]at ex;cases ex;exact⟨Same.refl _,hv.mono e2.vx⟩
  ·cases ex
def fJ(dt:DS):DS:=fun E δ S=>dt { E with nx:=fun δ' S'=>∃S0 ds,S'=S0++[ds]/\S.length<=S0.length/\E.nx (δ'.map (frz S0.length ds)) S0 } δ S
theorem vY{t:TS}{dt:DS}(ht:RS t dt):RS t (fJ dt):=fun h o H δ σ S E D he hs q c=>by
 refine ht h o H δ σ S _ D he hs q ⟨fun o' H' δ' S' σ' e aa ab ⟨S0,ds,eS,hl,n⟩=>?_,c.rt,c.bk,c.ct⟩;subst eS;obtain⟨r,rfl⟩:=e.pre;have hL:=ab.len;simp only[bv,fi]at hL;have hS:=hs.len;have ae:r≠[]:=fun z=>by subst z;simp at hL;omega
 obtain⟨r0,a,rfl⟩:∃r0 a,r=r0++[a]:=⟨r.dropLast,r.getLast ae,(List.dropLast_concat_getLast ae).symm⟩;have ac:S0.length=(o++r0).length:=by simp at hL ⊢;omega
 rw[<- ja]at ab aa e;have nd:=nodup_append.mp ab.nd;have na:a∉o++r0:=fun m=>nd.2.2 a m a yv rfl;have nh:a∉h:=ab.dis a yv;refine c.nx (o++r0) H' _ S0 σ' ⟨⟨r0,rfl⟩,fun b u hb eb=>?_⟩ ⟨by rw[bq];exact aa.len,fun i x ex=>?_⟩ (ab.pop ac) n
 ·obtain⟨z1,z2⟩:=e.kp b u hb eb;exact⟨fun m=>z1 (cu _ m),z2⟩
 ·rw[fh]at ex;obtain⟨y,ey,ex⟩:=map_eq_some_iff.mp ex
  match y,ey,ex with
  |none,ey,ex=>cases ex
  |some (.d d),ey,ex=>
   cases ex;obtain⟨v,e1,e2⟩:=aa.get i _ ey;exact⟨v,e1,Has.mono cH d v e2⟩
  |some (.o w),ey,ex=>
   cases ex;exact aa.get i _ ey
  |some (.x C fs),ey,ex=>
   cases ex;obtain⟨v,e1,e2⟩:=aa.get i _ ey;exact⟨v,e1,HasE.mono cH e2⟩
  |some (.i C fs),ey,ex=>
   cases ex;obtain⟨v,e1,e2⟩:=aa.get i _ ey;exact⟨v,e1,HasI.mono cH e2⟩
  |some (.p k d),ey,ex=>
   obtain⟨v,e1,t,b,u,rfl,eb,et,hu⟩:=aa.get i _ ey;unfold frz at ex;by_cases hk:k=S0.length
   ·simp only[hk,↓reduceIte]at ex;cases ex;rw[hk,ac,bo]at eb;cases eb;obtain⟨vs,ev,l⟩:=ab.cont S0.length a ds (by rw[ac,bo]) (by rw[bo]);exact⟨_,e1,cO.mpr ⟨t,_,rfl,cH _ _ et,zo.mpr ⟨_,_,rfl,dA.mpr ⟨a,vs,rfl,zP.mpr ⟨nh,na,ev⟩,l.mono cH⟩,zo.mpr ⟨u,_,rfl,Has.mono cH _ _ hu,zv.mpr rfl⟩⟩⟩⟩
   ·simp only[hk,↓reduceIte]at ex;cases ex;refine⟨_,e1,t,b,u,rfl,?_,cH _ _ et,Has.mono cH _ _ hu⟩;have ag:k<(o++r0).length:=by
     obtain⟨z,_⟩:=List.getElem?_eq_some_iff.mp eb;rw[bv,fi]at z;omega
    rw[dj ag]at eb;exact eb
  |some (.l k),ey,ex=>
   obtain⟨v,e1,b,eb,rfl⟩:=aa.get i _ ey;unfold frz at ex;by_cases hk:k=S0.length
   ·simp only[hk,↓reduceIte]at ex;cases ex;rw[hk,ac,bo]at eb;cases eb;obtain⟨vs,ev,l⟩:=ab.cont k a ds (by rw[hk,ac,bo]) (by rw[hk,bo]);exact⟨_,e1,dA.mpr ⟨a,vs,rfl,zP.mpr ⟨nh,na,ev⟩,l.mono cH⟩⟩
   ·simp only[hk,↓reduceIte]at ex;cases ex;have af:=(List.getElem?_eq_some_iff.mp eb).1;simp only[bv,fi]at af;simp only[bv]at ac;rw[dj (by simp only[bv];omega)]at eb;exact⟨_,e1,b,eb,rfl⟩
section
variable {t1 t2 t3 t4 t5 t6 t7 t8:TS}{d:DS}
theorem Eb(h:RS (cF (cF t1 t2) t3) d):RS (cF t1 (cF t2 t3)) d:=h
theorem Jk(h:RS (cF (cF t1 (cF t2 t3)) t4) d):RS (cF t1 (cF t2 (cF t3 t4))) d:=h
end
end
section
abbrev PN:=List XV->Sto->RX->Prop
def lfN(q:PN):List V->Hp->VK->Prop:=fun vs H Q=>∃h o S xs R,RepS h o H S/\HasXs h o H xs vs/\q xs S R/\Cn h o H R Q
def spN(ps:List Str)(q:PN):Sp:=fun vs H Q _=>vs.length=ps.length/\lfN q vs H Q
theorem HasXs.len{h o:List Addr}{H:Hp}:∀{xs:List XV}{vs:List V},HasXs h o H xs vs->vs.length=xs.length
 | [],vs,q=>by rw[show vs=[]from q];rfl
 |x::xs,vs,⟨v,r,e,_,l⟩=>by rw[e,cw,cw,HasXs.len l]
theorem HasXs.get{h o:List Addr}{H:Hp}:∀{xs:List XV}{vs:List V}{i:Nat}{x:XV},HasXs h o H xs vs->xs[i]?=some x->∃v,vs[i]?=some v/\HasX h o H x v
 | [],_,i,_,_,e=>by simp at e
 |y::xs,vs,0,x,⟨v,r,e1,q,l⟩,e=>by
  rw[ol]at e;cases e;subst e1;exact⟨v,rfl,q⟩
 |y::xs,vs,i+1,x,⟨v,r,e1,q,l⟩,e=>by
  subst e1;rw[om]at e ⊢;exact HasXs.get l e
theorem m9{h o:List Addr}{H:Hp}{xs:List XV}{vs:List V}{n:Nat}(q:HasXs h o H xs vs):RepE h o H (xs.map some++bh n none) (vs.map some++bh n none):=by
 have hl:=q.len;refine⟨by simp[hl],fun i x e=>?_⟩;by_cases hi:i<xs.length
 ·rw[dj (by rw[bq];exact hi),fh]at e;obtain⟨y,ey,e⟩:=map_eq_some_iff.mp e;cases e;obtain⟨v,ev,hv⟩:=q.get ey;exact⟨v,by rw[dj (by rw[bq,hl];exact hi),fh,ev];rfl,hv⟩
 ·rw[jj (by rw[bq];omega),List.getElem?_replicate]at e;split at e<;>cases e
section
variable {P:cy}{w:fq}{K:bx}{mg:Str->Option bb}{base:Heap}{x:Str}{st:Stmt}{N ps:List Str}{k:Nat}
theorem Df.dN{q:PN}(D:Dd K mg x st ps)(S:FnScope N ps (zh st))(n:Nat)(hn:N.length=ps.length+n)
  (hbody:∀(f:Addr) (z:bb) (A:ff) (outer:List Env) (s:bd) (H:Hp) (E:XK),Room k (A.deeper (qk x (zh st) s.heap.objs.size f z)) ->
   ∃t dt,PSs (dQ CX0 P w K mg base N x (zh st) f z A outer s H E).nox (bP st) t/\RS t dt/\∀xs S R,q xs S R->dt (aK S.length R) (xs.map some++bh n none) S):Df P w K mg base x ps (k+1) (spN ps q):=by
 refine Df.of D S (fun vs H Q E h=>h.1) fun f z A outer s H vs Q E hr ⟨hl,h,o,S',xs,R,aa,hx,hq,c⟩=>?_;obtain⟨t,dt,h1,h2,h3⟩:=hbody f z A outer s H E hr;refine⟨t,h1,h2 h o H _ _ S' _ _ ?_ aa (h3 xs S' R hq) (eok aa c)⟩;have e:N.length-vs.length=n:=yw
 unfold start;rw[e];exact m9 hx
end
section
variable {X:Cx}{x:Str}{ps:List Str}{k j:Nat}{pos pos':Pos}{e:Expr}{es:List Expr}{t:TA}
theorem zB{q:PN}(D:Df X.prog X.w X.K X.mg X.base x ps k (spN ps q))(hr:Room j X.A)(hk:k<=j)(ha:PA X (e::es) t)(hg:Gl X x:=by rfl)(z:(x==("__debug__":Str))=false:=by decide)
  (q1:cr (e::es) X.env=(false,eval e X.env)::cr es X.env:=by rfl) (q2:((kx pos (cr es X.env)).any fun x=>x.fst)=false:=by rfl):PE X (.Call (.Name x pos') (e::es) [] pos) (g8 (spN ps q) [] E0 t):=by
 obtain⟨f,fd,F,hm,kp,hb⟩:=D.ex;exact xZ (dvs:=[]) (ds:=[]) (E:=E0) F (hr.mono hk) hg hm kp hb .nil pass0 ha z q1 q2
end
def aF(m:Nat)(q:PN)(da:DA):DE:=fun δ S R=>da δ S fun xs S1=>∃ds,datas xs=some ds/\ds.length=m/\q (ds.map XV.d) [] (ret0 S1 R)
theorem hxs0{h o:List Addr}{H:Hp}:∀{ds:List bc}{vs:List V},HasXs h o H (ds.map XV.d) vs->HasXs (h++o) [] H (ds.map XV.d) vs
 | [],_,q=>q
 |d::ds,vs,⟨v,r,e,q,l⟩=>⟨v,r,e,hx0 q,hxs0 l⟩
theorem bY{ps:List Str}{q:PN}{m:Nat}{t:TA}{da:DA}(ha:RA t da)(hm:ps.length=m:=by rfl):RE (g8 (spN ps q) [] E0 t) (aF m q da):=fun h o H δ σ S R Q he hs w c=>
 ha h o H δ σ S _ _ he hs w fun o1 H1 S1 xs vs e1 s1 x1 ⟨ds,e,hl,d1⟩=>by
  have ex:=jL e;subst ex;have hv:=x1.len;rw[gl];exact⟨by rw[hv,bq,hl,hm],h++o1,[],[],_,_,rep0 s1,hxs0 x1,d1,cn0 s1 (c.pre e1)⟩
def zZ(i m:Nat)(q:PN)(da:DA):DE:=fun δ S R=>da δ S fun xs S1=>∃k,xs[i]?=some (.l k)/\∃p,S1[k]?=some p/\∃ds,datas (xs.set i (.d .none))=some ds/\ds.length=m/\q ((ds.map XV.d).set i (.l 0)) [p] (tH k S1 R)
theorem B9{h o:List Addr}{H:Hp}{k:Nat}{a:Addr}(ea:o[k]?=some a):∀{xs:List XV}{vs:List V}{ds:List bc}{i:Nat},HasXs h o H xs vs->xs[i]?=some (.l k)->datas (xs.set i (.d .none))=some ds->HasXs (h++o.filter (fun b=>b≠a)) [a] H ((ds.map XV.d).set i (.l 0)) vs
 | [],_,_,i,_,e,_=>by simp at e
 |x::xs,vs,ds,0,⟨v,r,e1,q,l⟩,e,ed=>by
  rw[ol]at e;cases e;rw[set_cons_zero]at ed;obtain⟨z,rfl⟩:∃z,ds=.none::z:=by
   unfold datas at ed;cases hd:datas xs with
   |none=>rw[hd]at ed;cases ed
   |some y=>rw[hd]at ed;cases ed;exact⟨y,rfl⟩
  have aa:datas xs=some z:=by
   unfold datas at ed;cases hd:datas xs with
   |none=>rw[hd]at ed;cases ed
   |some y=>rw[hd]at ed;cases ed;rfl
  have ex:=jL aa;subst ex;obtain⟨b,eb,rfl⟩:=q;rw[ea]at eb;cases eb;exact⟨_,r,e1,⟨a,rfl,rfl⟩,go (ea:=ea) l⟩
 |x::xs,vs,ds,i+1,⟨v,r,e1,q,l⟩,e,ed=>by
  rw[om]at e;rw[set_cons_succ]at ed
  match x,q,ed with
  | .d d,q,ed=>
   unfold datas at ed;cases hd:datas (xs.set i (.d .none))with
   |none=>rw[hd]at ed;cases ed
   |some z=>
    rw[hd]at ed;cases ed;exact⟨v,r,e1,hxP ea q,B9 ea l e hd⟩
  | .l j,q,ed=>cases ed
  | .o w,q,ed=>cases ed
  | .x _ _,q,ed=>cases ed
  | .p _ _,q,ed=>cases ed
  | .i _ _,q,ed=>cases ed
where
 go {h o:List Addr}{H:Hp}{k:Nat}{a:Addr}{ea:o[k]?=some a}:∀{ds:List bc}{vs:List V},HasXs h o H (ds.map XV.d) vs->HasXs (h++o.filter (fun b=>b≠a)) [a] H (ds.map XV.d) vs
 | [],_,q=>q
 |d::ds,vs,⟨v,r,e,q,l⟩=>⟨v,r,e,hxP ea q,go (ea:=ea) l⟩
theorem GA:∀{xs:List XV}{ds:List bc},datas xs=some ds->xs.length=ds.length:=fun e=>by
 rw[jL e,bq]
theorem pN{ps:List Str}{q:PN}{i m:Nat}{t:TA}{da:DA}(ha:RA t da)(hm:ps.length=m:=by rfl):RE (g8 (spN ps q) [] E0 t) (zZ i m q da):=fun h o H δ σ S R Q he hs w c=>
 ha h o H δ σ S _ _ he hs w fun o1 H1 S1 xs vs e1 s1 x1 ⟨k,ek,p,ep,ds,e,hl,d1⟩=>by
  have hv:=x1.len;have hd:=GA e;rw[ie]at hd;obtain⟨v,_,a,ea,_⟩:=x1.get ek;rw[gl];exact⟨by rw[hv,hd,hl,hm],_,[a],[p],_,_,sE s1 ea ep,B9 ea x1 ek e,d1,cnP s1 ea ep (c.pre e1)⟩
mutual
def jI:bc->Bool
 | .list _=>false
 | .dict _=>false
 | .tuple ds=>pO ds
 |_=>true
def pO:List bc->Bool
 | []=>true
 |d::ds=>jI d&&pO ds
end
mutual
theorem Cu{h o:List Addr}{H G:Hp}(sm:Same G H)(hh:∀b,b∈h\/b∈o->∃u:MO,H b=some u.ho):∀(d:bc) (v:V),jI d=true->Has G d v->Has (vx h o H) d v
 | .none,v,_,q=>kM.mpr (kM.mp q)
 | .bool b,v,_,q=>iD.mpr (iD.mp q)
 | .int i,v,_,q=>eU.mpr (eU.mp q)
 | .str z,v,_,q=>hV.mpr (hV.mp q)
 | .list ds,v,n,_=>by simp[jI]at n
 | .dict ds,v,n,_=>by simp[jI]at n
 | .tuple ds,v,n,q=>by
  obtain⟨a,vs,e,ea,l⟩:=cO.mp q;have n':pO ds=true:=by simpa[jI]using n
  have aa:=sm _ _ ea;refine cO.mpr ⟨a,vs,e,zP.mpr ⟨fun m=>?_,fun m=>?_,aa⟩,BA sm hh ds vs n' l⟩
  ·obtain⟨u,eu⟩:=hh a (.inl m);rw[aa]at eu;cases u<;>cases eu
  ·obtain⟨u,eu⟩:=hh a (.inr m);rw[aa]at eu;cases u<;>cases eu
theorem BA{h o:List Addr}{H G:Hp}(sm:Same G H)(hh:∀b,b∈h\/b∈o->∃u:MO,H b=some u.ho):∀(ds:List bc) (vs:List V),pO ds=true->HasL G ds vs->HasL (vx h o H) ds vs
 | [],vs,_,q=>zv.mpr (zv.mp q)
 |d::ds,vs,n,q=>by
  obtain⟨v,r,e,hv,l⟩:=zo.mp q;simp only[pO,fu]at n;exact zo.mpr ⟨v,r,e,Cu sm hh d v n.1 hv,BA sm hh ds r n.2 l⟩
end
def uG(S:Sto)(R:RX):RX:=fun y S'=>match y,S' with
 | .d d,[]=>jI d=true/\R (.d d) S
 |_,_=>False
theorem oE{S:Sto}{R:RX}{d:bc}:uG S R (.d d) []=(jI d=true/\R (.d d) S):=rfl
def views(S:Sto):List XV->Option (List bc)
 | []=>some []
 |x::r=>(bO S x).bind fun d=>(views S r).map (d :: ·)
theorem nF{S:Sto}:views S []=some []:=rfl
theorem lL{S:Sto}{x:XV}{r:List XV}:views S (x::r)=(bO S x).bind fun d=>(views S r).map (d :: ·):=rfl
def iX(m:Nat)(q:PN)(da:DA):DE:=fun δ S R=>da δ S fun xs S1=>∃ds,views S1 xs=some ds/\ds.length=m/\q (ds.map XV.d) [] (uG S1 R)
theorem KH{h o:List Addr}{H:Hp}{S:Sto}(hs:RepS h o H S):RepS h [] H []:=⟨rfl,pf,(fun _ h=>(nomatch h)),hs.hal,(fun _ _ _ e=>(by simp at e))⟩
theorem hxV{h o:List Addr}{H:Hp}{S:Sto}{x:XV}{v:V}{d:bc}(hs:RepS h o H S)(e:bO S x=some d)(q:HasX h o H x v):HasX h [] H (.d d) v:=by
 have sub:Same (vx h o H) (vx h [] H):=fun b u eb=>by
  obtain⟨z1,z2,z3⟩:=zP.mp eb;exact zP.mpr ⟨z1,yv,z3⟩
 unfold bO at e;split at e
 ·cases e;exact Has.mono sub _ _ q
 ·rename_i k;obtain⟨a,ea,rfl⟩:=q;cases hk:S[k]? with
  |none=>rw[hk]at e;cases e
  |some ds=>
   rw[hk]at e;cases e;obtain⟨vs,ev,l⟩:=hs.cont k a ds ea hk;exact dA.mpr ⟨a,vs,rfl,zP.mpr ⟨hs.dis a (bw ea),yv,ev⟩,l.mono sub⟩
 ·cases e
 ·cases e
 ·rename_i k d';obtain⟨t,a,u,rfl,ea,et,hu⟩:=q;cases hk:S[k]? with
  |none=>rw[hk]at e;cases e
  |some ds=>
   rw[hk]at e;cases e;obtain⟨vs,ev,l⟩:=hs.cont k a ds ea hk;exact cO.mpr ⟨t,_,rfl,sub _ _ et,zo.mpr ⟨_,_,rfl,dA.mpr ⟨a,vs,rfl,zP.mpr ⟨hs.dis a (bw ea),yv,ev⟩,l.mono sub⟩,zo.mpr ⟨u,_,rfl,Has.mono sub _ _ hu,zv.mpr rfl⟩⟩⟩
 ·cases e
theorem Dw{h o:List Addr}{H:Hp}{S:Sto}(hs:RepS h o H S):∀{xs:List XV}{vs:List V}{ds:List bc},views S xs=some ds->HasXs h o H xs vs->HasXs h [] H (ds.map XV.d) vs/\vs.length=ds.length
 | [],vs,ds,e,q=>by cases e;exact⟨q,by rw[show vs=[]from q];rfl⟩
 |x::xs,vs,ds,e,⟨v,r,e1,q,l⟩=>by
  rw[lL]at e;cases hd:bO S x with
  |none=>rw[hd]at e;cases e
  |some d=>
   rw[hd,Option.bind_some]at e;cases hr:views S xs with
   |none=>rw[hr]at e;cases e
   |some es=>
    rw[hr]at e;cases e;obtain⟨z1,z2⟩:=Dw hs hr l;exact⟨⟨v,r,e1,hxV hs hd q,z1⟩,by rw[e1,cw,cw,z2]⟩
theorem cnV{h o:List Addr}{H:Hp}{S:Sto}{R:RX}{Q:VK}(hs:RepS h o H S)(c:Cn h o H R Q):Cn h [] H (uG S R) Q:=fun o' H' S' y v e s' hy q=>by
 unfold uG at q;split at q
 ·rename_i d;have sH:Same H H':=fun b u eb=>(e.kp b u yv eb).2;have e0:o'=[]:=cx s'.len.symm;subst e0;have z:=hs.same sH;refine c o H' S (.d d) v (Ex.of_same sH) z (Cu (zW (h:=h) (o:=[])) (fun b m=>?_) d v q.1 hy) q.2;exact m.elim (z.hal b) (z.oam b)
 ·exact q.elim
theorem Ir{ps:List Str}{q:PN}{m:Nat}{t:TA}{da:DA}(ha:RA t da)(hm:ps.length=m:=by rfl):RE (g8 (spN ps q) [] E0 t) (iX m q da):=fun h o H δ σ S R Q he hs w c=>
 ha h o H δ σ S _ _ he hs w fun o1 H1 S1 xs vs e1 s1 x1 ⟨ds,e,hl,d1⟩=>by
  obtain⟨z1,z2⟩:=Dw s1 e x1;rw[gl];exact⟨by rw[z2,hl,hm],h,[],[],_,_,KH s1,z1,d1,cnV s1 (c.pre e1)⟩
end
section
def Ax(K:bx):List V->Hp->VK->Prop:=fun xs H Q=>vW K xs H Q\/∃z,xs=[.str z]/\z.length<=df/\Q (.int z.length) H
theorem c7{X:Cx}:CallR X (.builtin "len") (Ax X.K):=Ev.or IV
def tF(S:Sto):XV->Option Nat
 | .d (.tuple ds)=>some ds.length
 | .d (.list ds)=>some ds.length
 | .l k=>(S[k]?).map List.length
 | .d (.str z)=>if z.length<=df then some z.length else none
 |_=>none
def bL:List XV->Sto->RX->Prop:=fun xs S R=>arg1 xs fun x=>∃n,tF S x=some n/\R (.d (.int n)) S
theorem vU{K:bx}:RC (Ax K) bL:=fun h o H S xs vs R Q hs hx q c=>by
 obtain⟨x,rfl,n,hd,q1⟩:=cW q;unfold tF at hd;split at hd
 ·cases hd;exact .inl (y8 h o H S _ vs R Q hs hx ⟨_,rfl,q1⟩ c)
 ·cases hd;exact .inl (y8 h o H S _ vs R Q hs hx ⟨_,rfl,q1⟩ c)
 ·rename_i k;cases hk:S[k]? with
  |none=>rw[hk]at hd;cases hd
  |some ds=>
   rw[hk]at hd;cases hd;exact .inl (y8 h o H S _ vs R Q hs hx ⟨ds,hk,q1⟩ c)
 ·split at hd
  ·rename_i hz;cases hd;obtain⟨v,rfl,z⟩:=hxs1 hx;exact .inr ⟨_,by rw[dW z],hz,c o H S _ _ Ex.refl hs (xI _) q1⟩
  ·cases hd
 ·cases hd
section
variable {S:Sto}{ds:List bc}{k:Nat}{z:Str}
theorem lV:tF S (.d (.tuple ds))=some ds.length:=rfl
theorem nP:tF S (.d (.list ds))=some ds.length:=rfl
end
def vH(q:Bool):R2:=fun x y H Q=>∃d e ds,Has H d x/\Has H e y/\ci d=true/\ci (.list ds)=true/\(e=.list ds\/e=.tuple ds)/\Q (.bl (if q then !ds.any (fun y=>cv y d)else ds.any (fun y=>cv y d))) H
theorem EH{ds:List bc}(h:ci (.list ds)=true):im ds=true/\iy ds<=63:=by
 have h1:=fj h;have h2:=SeqAt.depth_of_shaped h;simp only[jl,PyData.depth]at h1 h2;exact⟨h1,yw⟩
theorem LM{X:Cx}(hu:X.A.units+64<jn):OpR X (gd .In) (vH false):=by
 intro zi s σ H x y v u Q I rx ry h;obtain⟨d,e,ds,hd,he,sd,se,ee,q⟩:=h;obtain⟨s1,s2⟩:=EH se;obtain⟨as,q1⟩:=Has.reads I d x v hd (fj sd) rx;have hm:X.A.units+1+min (iy ds) d.depth<jn:=by
  have:=Nat.min_le_left (iy ds) d.depth;omega
 rcases ee with rfl|rfl
 ·obtain⟨bs,q2⟩:=Has.reads I (.list ds) y u he (by simpa only[jl]using s1) ry;exact SeqAt.in_list_reads q2 q1 s1 (fj sd) hm ⟨.bl _,H,I,rfl,q⟩
 ·obtain⟨bs,q2⟩:=Has.reads I (.tuple ds) y u he (by simpa only[jl]using s1) ry;exact SeqAt.in_tuple_reads q2 q1 s1 (fj sd) hm ⟨.bl _,H,I,rfl,q⟩
theorem LJ{X:Cx}(hu:X.A.units+64<jn):OpR X (gd .NotIn) (vH true):=by
 intro zi s σ H x y v u Q I rx ry h;obtain⟨d,e,ds,hd,he,sd,se,ee,q⟩:=h;obtain⟨s1,s2⟩:=EH se;obtain⟨as,q1⟩:=Has.reads I d x v hd (fj sd) rx;have hm:X.A.units+1+min (iy ds) d.depth<jn:=by
  have:=Nat.min_le_left (iy ds) d.depth;omega
 rcases ee with rfl|rfl
 ·obtain⟨bs,q2⟩:=Has.reads I (.list ds) y u he (by simpa only[jl]using s1) ry;exact SeqAt.notIn_list_reads q2 q1 s1 (fj sd) hm ⟨.bl _,H,I,rfl,q⟩
 ·obtain⟨bs,q2⟩:=Has.reads I (.tuple ds) y u he (by simpa only[jl]using s1) ry;exact SeqAt.notIn_tuple_reads q2 q1 s1 (fj sd) hm ⟨.bl _,H,I,rfl,q⟩
def Et:R2:=fun x y H Q=>vH false x y H Q\/∃i j,x=.str i/\y=.str j/\Q (.bl (!(jp j i 0 j.length 1).isEmpty)) H
theorem Dp{X:Cx}(hu:X.A.units+64<jn):OpR X (gd .In) Et:=(LM hu).or Ff
def EQ:R2:=fun x y H Q=>vH true x y H Q\/∃i j,x=.str i/\y=.str j/\Q (.bl (!(!(jp j i 0 j.length 1).isEmpty))) H
theorem rV{X:Cx}(hu:X.A.units+64<jn):OpR X (gd .NotIn) EQ:=(LJ hu).or IN
def dIn:D2:=fun x y S R=>match y with
 | .d (.str b)=>asS x fun a=>R (.d (.bool (!(jp b a 0 b.length 1).isEmpty))) S
 |y=>∃d,bO S x=some d/\∃ds,asQ S y=some ds/\ci d=true/\ci (.list ds)=true/\R (.d (.bool (ds.any fun y=>cv y d))) S
def iC:D2:=fun x y S R=>match y with
 | .d (.str b)=>asS x fun a=>R (.d (.bool (!(!(jp b a 0 b.length 1).isEmpty)))) S
 |y=>∃d,bO S x=some d/\∃ds,asQ S y=some ds/\ci d=true/\ci (.list ds)=true/\R (.d (.bool (!ds.any fun y=>cv y d))) S
theorem Bg{h o:List Addr}{H:Hp}{S:Sto}{x:XV}{v:V}{ds:List bc}(hs:RepS h o H S)(e:asQ S x=some ds)(q:HasX h o H x v):∃e,Has H e v/\(e=.list ds\/e=.tuple ds):=by
 unfold asQ at e;split at e
 ·cases e;exact⟨_,eF (x:=.d _) hs rfl q,.inr rfl⟩
 ·cases e;exact⟨_,eF (x:=.d _) hs rfl q,.inl rfl⟩
 ·rename_i k;exact⟨.list ds,eF (x:=.l k) hs (by show (S[k]?).map PyData.list=_;rw[e];rfl) q,.inl rfl⟩
 ·cases e
theorem JR:RO Et dIn:=fun h o H S x y v u R Q hs hx hy q c=>by
 unfold dIn at q;split at q
 ·replace q:=uB q;obtain⟨a,rfl,q⟩:=q;exact .inr ⟨_,_,dW hx,dW hy,c o H S _ _ Ex.refl hs (xB _) q⟩
 ·obtain⟨d,e1,ds,e2,s1,s2,q⟩:=q;obtain⟨e,he,ee⟩:=Bg hs e2 hy;exact .inl ⟨d,e,ds,eF hs e1 hx,he,s1,s2,ee,c o H S _ _ Ex.refl hs (xB _) q⟩
theorem GJ:RO EQ iC:=fun h o H S x y v u R Q hs hx hy q c=>by
 unfold iC at q;split at q
 ·replace q:=uB q;obtain⟨a,rfl,q⟩:=q;exact .inr ⟨_,_,dW hx,dW hy,c o H S _ _ Ex.refl hs (xB _) q⟩
 ·obtain⟨d,e1,ds,e2,s1,s2,q⟩:=q;obtain⟨e,he,ee⟩:=Bg hs e2 hy;exact .inl ⟨d,e,ds,eF hs e1 hx,he,s1,s2,ee,c o H S _ _ Ex.refl hs (xB _) q⟩
section
variable {S:Sto}{ds:List bc}{k:Nat}{a b:Str}{x:XV}{R:RX}
theorem mE:dIn x (.d (.tuple ds)) S R↔∃d,bO S x=some d/\ci d=true/\ci (.list ds)=true/\R (.d (.bool (ds.any fun y=>cv y d))) S:=⟨fun⟨d,e,_,e',q⟩=>by cases e';exact⟨d,e,q⟩,fun⟨d,e,q⟩=>⟨d,e,_,rfl,q⟩⟩
theorem pP:dIn x (.d (.list ds)) S R↔∃d,bO S x=some d/\ci d=true/\ci (.list ds)=true/\R (.d (.bool (ds.any fun y=>cv y d))) S:=⟨fun⟨d,e,_,e',q⟩=>by cases e';exact⟨d,e,q⟩,fun⟨d,e,q⟩=>⟨d,e,_,rfl,q⟩⟩
theorem mK:iC x (.d (.tuple ds)) S R↔∃d,bO S x=some d/\ci d=true/\ci (.list ds)=true/\R (.d (.bool (!ds.any fun y=>cv y d))) S:=⟨fun⟨d,e,_,e',q⟩=>by cases e';exact⟨d,e,q⟩,fun⟨d,e,q⟩=>⟨d,e,_,rfl,q⟩⟩
theorem pX:iC x (.l k) S R↔∃d,bO S x=some d/\∃ds,S[k]?=some ds/\ci d=true/\ci (.list ds)=true/\R (.d (.bool (!ds.any fun y=>cv y d))) S:=Iff.rfl
end
def qE(a:DA):DI:=fun δ S R=>a δ S fun xs S1=>arg1 xs fun x=>∃ds,fD x=some ds/\R (Bh 0 ds) S1
def iQ:XV->List XV->Sto->RX->Prop:=fun x xs S R=>∃k,x=.l k/\∃ds,S[k]?=some ds/\xs=[]/\∃d,ds[ds.length-1]?=some d/\R (.d d) (S.set k ds.dropLast)
theorem HasL.dropLast{H:Hp}:∀{ds:List bc}{vs:List V},HasL H ds vs->HasL H ds.dropLast vs.dropLast
 | [],vs,l=>by rw[zv.mp l];exact zv.mpr rfl
 | [d],vs,l=>by
  obtain⟨v,r,rfl,_,l⟩:=zo.mp l;rw[zv.mp l];exact zv.mpr rfl
 |d::e::ds,vs,l=>by
  obtain⟨v,r,rfl,hv,l⟩:=zo.mp l;obtain⟨w,r,rfl,hw,l'⟩:=zo.mp l;rw[List.dropLast_cons₂,List.dropLast_cons₂];exact zo.mpr ⟨v,_,rfl,hv,HasL.dropLast l⟩
theorem JO:RM Al iQ:=fun h o H S x v xs vs R Q hs hx z q c=>by
 obtain⟨k,rfl,ds,e,rfl,d,ed,q1⟩:=q;obtain⟨a,ea,rfl⟩:=hx;obtain⟨ws,ew,l⟩:=hs.cont k a ds ea e;cases z;obtain⟨y,ey,hy⟩:=l.get ed;exact⟨a,ws,y,rfl,rfl,ew,by rw[l.length];exact ey,c o _ _ (.d d) _ (Ex.upd ea) (hs.upd ea l.dropLast) (HasX.mono (x:=.d d) (Ex.upd ea) hy) q1⟩
def jV(rd:XV->List XV->Sto->RX->Prop)(e:DE)(a:DA):DE:=fun δ S R=>e δ S fun x S1=>∃z,x=.d (.str z)/\a δ S1 fun xs S2=>rd x xs S2 R
theorem ES{K:bx}{r:V->List V->Hp->VK->Prop}{rd:XV->List XV->Sto->RX->Prop}{te:TE}{de:DE}{tl:TA}{dl:DA}(hr:RM r rd)(aa:RE te de)(ha:RA tl dl):RE (tBM K "str" r te tl) (jV rd de dl):=fun h o H δ σ S R Q he hs q c=>
 aa h o H δ σ S _ _ he hs q fun o1 H1 S1 x v e1 s1 x1 ⟨z,ez,d1⟩=>by
  subst ez;cases dW x1;exact⟨rfl,ha h o1 H1 δ σ S1 _ _ (he.mono e1) s1 d1 fun o2 H2 S2 xs vs e2 s2 x2 d2=>hr h o2 H2 S2 (.d (.str z)) _ xs vs R Q s2 (HasX.mono (x:=.d (.str z)) e2 x1) x2 d2 (c.pre (e1.trans e2))⟩
theorem D5{H:Hp}:∀{ns:List Str}{vs:List V},HasL H (ns.map kh) vs->vs=ns.map V.str
 | [],vs,h=>zv.mp h
 |n::ns,vs,h=>by
  obtain⟨v,r,rfl,h1,h2⟩:=zo.mp h;rw[hV.mp h1,D5 h2];rfl
def iT:XV->List XV->Sto->RX->Prop:=fun x xs S R=>asS x fun z=>arg1 xs fun y=>∃ds,dU S y=some ds/\∃zs:List Str,ds=zs.map kh/\z.length<=16/\zs.length<=1000/\(∀y∈zs,y.length<=1000)/\R (.d (.str (PySem.Txt.join z zs))) S
theorem Hz{K:bx}:RM (A0 K) iT:=fun h o H S x v xs vs R Q hs hx aa q c=>by
 replace q:=uB q;obtain⟨z,rfl,q⟩:=q;obtain⟨y,rfl,ds,e,zs,rfl,h1,h2,h3,q1⟩:=cW q;obtain⟨u,rfl,hu⟩:=hxs1 aa;obtain⟨a,ws,rfl,ea,l⟩:=bV hs e hu;rw[D5 l]at ea;exact⟨z,a,zs,dW hx,rfl,.of ea,h1,h2,h3,c o H S _ _ Ex.refl hs (xS _) q1⟩
def jA:D2:=fun x y S R=>asL S x fun ds=>asL S y fun es=>ds.length+es.length<=1000/\R (.l S.length) (S++[ds++es])
theorem GG:RO kK jA:=fun h o H S x y v u R Q hs hx hy q c=>by
 obtain⟨ds,e0,es,e1,hl,q⟩:=q;obtain⟨a,vs,rfl,ea,la⟩:=bV hs e0 hx;obtain⟨b,us,rfl,eb,lb⟩:=bV hs e1 hy;exact⟨a,b,vs,us,rfl,rfl,ea,eb,by rw[la.length,lb.length];exact jc (small1000 hl),E2 hs (la.append lb) c q⟩
abbrev GL (a:Addr) (m:Nat):DEnds:={ nx:=fun δ _=>δ[0]?=some (some (.o (.ref a)))/\δ.length=m+1,ct:=fun δ _=>δ[0]?=some (some (.o (.ref a)))/\δ.length=m+1,rt:=fun _ _=>False }
end
section
open Sem (wp)
def vZ:List bc->List bc->List bc
 |d::ds,e::es=>.tuple [d,e]::vZ ds es
 |_,_=>[]
def p8(a:DA):DI:=fun δ S R=>a δ S fun xs S1=>arg2 xs fun x y=>∃ds,fD x=some ds/\∃es,fD y=some es/\R (vZ ds es) S1
end
section
open Sem (wp)
section
variable {prog:cy}{w:fq}{A:ff}{R:Result->bd->Prop}{I:Addr}{fp wr:List Addr}{n:Nat}{P:Nat->bb->Prop}{St:Nat->Heap->Prop}
def CmpH(prog:cy)(w:fq)(A:ff)(g:Heap)(q:List Addr)(P:Nat->bb->Prop)(bt:Nat->Nat->Bool):Prop:=
 ∀i j x y (s:bd) (Q:bb->bd->Prop) (E:bb->bd->Prop),(∀b o,b∉q->g.get? b=some o->s.heap.get? b=some o)->P i x->P j y->Q (.bool (bt i j)) s->bn (model prog w) A (richCompare .Lt x y) Q E s
theorem Ka(W:Walks prog w A.in1 I fp wr n P St)(bt:Nat->Nat->Bool){g:Heap}(S:Addr)(cm:CmpH prog w A.in1 g (S::wr) P bt)(nS:S∉fp):∀(d j:Nat) (s:bd) (best:bb) (c:Nat),n=j+1+d->(∀b o,b∉S::wr->g.get? b=some o->s.heap.get? b=some o)->St (j+1) s.heap->P (nk bt j) best ->
   s.heap.get? S=some { cls:=.type "list",dict:=none,data:=.seq #[best,best] c,slots:=#[] } ->
   (∀v h' tk,P (nk bt (n-1)) v->(∀b o,b∉S::wr->s.heap.get? b=some o->h'.get? b=some o)->R (.ok (.ret v)) { s with heap:=h',toks:=tk })->kl (model prog w) A (.builtin "min.loop" ⟨[.ref I,.none,.ref S],[]⟩) R s:=by
 have nw:S∉wr:=fun m=>nS (W.sub _ m);have nm:(rg "min" ++ rg ".loop":String) = "min.loop":=by decide
 intro d;induction d with
 |zero=>
  intro j s best c hd kg st hb hS fin;have hj:j+1=n:=yw
  refine gm nu ?_;rw[fx gf _];show bn _ A.in1 (seqItems? (.ref S) >>= _) _ _ s;refine ba (lh hS rfl ?_);show bn _ A.in1 (rh (ls (.ref I)) _ >>= _) _ _ s;refine ba (ju (W.done s _ _ (by rw[<- hj];exact st) fun h1 t1 k1=>?_));have q:=k1 S _ nw hS;show bn _ A.in1 (updateSeq S (fun _=>#[]) >>= _) _ _ _;refine ba (jm q rfl (ba (nz (be (fin best _ t1 (by rw[<- hj];exact hb) fun b o hn e=>?_)))));rw[jd,not_or]at hn;exact(gp _ _ (ic hn.1)).trans (k1 b o hn.2 e)
 |succ d ih=>
  intro j s best c hd kg st hb hS fin;refine gm nu ?_;rw[fx gf _];show bn _ A.in1 (seqItems? (.ref S) >>= _) _ _ s;refine ba (lh hS rfl ?_);show bn _ A.in1 (rh (ls (.ref I)) _ >>= _) _ _ s;refine ba (ju (W.item (j+1) s _ _ yw st fun x h1 t1 hx ab k1=>?_));have q:=k1 S _ nw hS;have aa:∀b o,b∉S::wr->g.get? b=some o->h1.get? b=some o:=fun b o hn e=>k1 b o (fun m=>hn (bp _ m)) (kg b o hn e);show bn _ A.in1 (rh (holding [x,x] (richCompare .Lt x best >>= _)) _ >>= _) _ _ _;refine ba (ju (gu (ba (cm (j+1) (nk bt j) x best _ _ _ aa hx hb (ba (gu (gy (ba (nz (be ?_)))))))))) ;cases ht:bt (j+1) (nk bt j)with
  |true=>
   simp only[if_true];refine ba (jm q rfl (ba (nz ?_)));rw[nm];have keep:∀b o,b∉S::wr->s.heap.get? b=some o->(h1.update S (gi fun _=>#[x,x])).get? b=some o:=fun b o hn e=>by
    rw[jd,not_or]at hn;exact(gp _ _ (ic hn.1)).trans (k1 b o hn.2 e)
   refine be ⟨ig gf _,ih (j+1) _ x _ yw (fun b o hn e=>keep b o hn (kg b o hn e)) (W.frame _ _ _ ab fun b m o e=>?_) (by simp only[nk,ht,if_true];exact hx) (ke _ q rfl) fun v h2 t2 hv k2=>fin v h2 t2 hv fun b o hn e=>k2 b o hn (keep b o hn e)⟩;exact(gp _ _ (fun z:S=b=>nS (by rw[z];exact m))).trans e
  |false=>
   simp only[iu,if_false];refine ba (nz ?_);rw[nm];exact be ⟨ig gf _,ih (j+1) _ best c yw aa ab (by simp only[nk,ht,iu,if_false];exact hb) q fun v h2 t2 hv k2=>fin v h2 t2 hv fun b o hn e=>k2 b o hn (k1 b o (fun m=>hn (bp _ m)) e)⟩
theorem G1(W:Walks prog w A.in1 I fp wr n P St)(bt:Nat->Nat->Bool)(S:Addr)(nS:S∉fp)(hn:0<n){s:bd}{c:Nat}(cm:CmpH prog w A.in1 s.heap (S::wr) P bt)(st:St 0 s.heap)(hS:s.heap.get? S=some { cls:=.type "list",dict:=none,data:=.seq #[] c,slots:=#[] })
  (fin:∀v h' tk,P (nk bt (n-1)) v->(∀b o,b∉S::wr->s.heap.get? b=some o->h'.get? b=some o)->R (.ok (.ret v)) { s with heap:=h',toks:=tk }):kl (model prog w) A (.builtin "min.loop" ⟨[.ref I,.none,.ref S],[]⟩) R s:=by
 have nw:S∉wr:=fun m=>nS (W.sub _ m);have nm:(rg "min" ++ rg ".loop":String) = "min.loop":=by decide
 refine gm nu ?_;rw[fx gf _];show bn _ A.in1 (seqItems? (.ref S) >>= _) _ _ s;refine ba (lh hS rfl ?_);show bn _ A.in1 (rh (ls (.ref I)) _ >>= _) _ _ s;refine ba (ju (W.item 0 s _ _ hn st fun x h1 t1 hx aa k1=>?_));have q:=k1 S _ nw hS;show bn _ A.in1 (updateSeq S (fun _=>#[x,x]) >>= _) _ _ _;refine ba (jm q rfl ?_);rw[nm];have keep:∀b o,b∉S::wr->s.heap.get? b=some o->(h1.update S (gi fun _=>#[x,x])).get? b=some o:=fun b o hn e=>by
  rw[jd,not_or]at hn;exact(gp _ _ (ic hn.1)).trans (k1 b o hn.2 e)
 refine be ⟨ig gf _,Ka W bt S cm nS (n-1) 0 _ x _ yw keep (W.frame _ _ _ aa fun b m o e=>?_) hx (ke _ q rfl) fun v h2 t2 hv k2=>fin v h2 t2 hv fun b o hn e=>k2 b o hn (keep b o hn e)⟩;exact(gp _ _ (fun z:S=b=>nS (by rw[z];exact m))).trans e
end
section
variable {prog:cy}{w:fq}{A:ff}{E:bb->bd->Prop}{s:bd}
theorem GF{l:Addr}{z:Array bb}{Q:bb->bd->Prop}(hh:A.handled=none)(hl:s.heap.IsList l z)(ab:0<z.size)(bt:Nat->Nat->Bool)
  (cm:∀i j x y (s':bd) (Q:bb->bd->Prop) (E:bb->bd->Prop),(∀b o,s.heap.get? b=some o->s'.heap.get? b=some o)->z[i]?=some x->z[j]?=some y->Q (.bool (bt i j)) s'->bn (model prog w) A.in1 (richCompare .Lt x y) Q E s')
  (fin:∀v h' tk,z[nk bt (z.size-1)]?=some v->(∀b o,s.heap.get? b=some o->h'.get? b=some o)->Q v { s with heap:=h',toks:=tk }):bn (model prog w) A (call (.builtin "min") [.ref l]) Q E s:=by
 have nm:(rg "min" ++ rg ".loop":String) = "min.loop":=by decide
 have lt:l<s.heap.objs.size:=by obtain⟨o,e,_⟩:=hl;exact dw e
 refine call_function_tree F.kind_min F.plain_min F.entry_min (F.args_min1 _) ?_;show bn _ A.in1 (Builtin.Builtins.bindParams "min" ["key","default"] 0 ⟨[],[]⟩ >>= _) _ _ s;refine ba (wpAny_of_eq (show Builtin.Builtins.bindParams "min" ["key","default"] 0 ⟨[],[]⟩=pure [none,none]from rfl) (ba (be (ba (mn hl ?_)))));refine ba (gh ?_);rw[nm];have z1:(s.heap.push { cls:=.type "list_iterator",data:=.fields #[.ref l,.int 0 0] }).objs.size=s.heap.objs.size+1:=size_push ..;have nS:(s.heap.push { cls:=.type "list_iterator",data:=.fields #[.ref l,.int 0 0] }).objs.size∉[s.heap.objs.size,l]:=by
  rw[z1];simp only[jd,gq,or_false,not_or];exact⟨Nat.succ_ne_self _,ne_of_gt (qo lt)⟩
 have up:∀b o,s.heap.get? b=some o->((s.heap.push { cls:=.type "list_iterator",data:=.fields #[.ref l,.int 0 0] }).push { cls:=.type "list",data:=.seq #[] }).get? b=some o:=fun b o e=>bf _ (bf _ e);have aa:∀b o,s.heap.get? b=some o->b∉(s.heap.push { cls:=.type "list_iterator",data:=.fields #[.ref l,.int 0 0] }).objs.size :: [s.heap.objs.size]:=fun b o e=>by
  rw[z1];simp only[jd,gq,or_false,not_or];have:=dw e;exact⟨fk (qo this),fk this⟩
 refine be ⟨ig gf _,G1 (Walks.list (A:=A.in1) hh _ l (fk lt) z) bt _ nS ab (fun i j x y s' Q' E' k hi hj q=>cm i j x y s' Q' E' (fun b o e=>k b o (aa b o e) (up b o e)) hi hj q) ?_ (cj _ rfl) fun v h' tk hv k=>fin v h' tk hv fun b o e=>k b o (aa b o e) (up b o e)⟩;exact⟨⟨_,bf _ (cj _ rfl),rfl,rfl⟩,(hl.push _).push _⟩
end
def AU(K:bx):List V->Hp->VK->Prop:=fun xs H Q=>∃(p:Addr) (vs:List V) (nss:List (List Int)),xs=[.ref p]/\SqL K H p vs/\vs≠[]/\Paired (fun(v:V) (ns:List Int)=>∃a,v=.ref a/\H a=some (.tup (ns.map V.int))) vs nss /\
 ∀(i:Nat) v ns,vs[i]?=some v->nss[i]?=some ns->(∀ms∈nss,HT.lexLt ms ns=false)->Q v H
theorem CY{ns:Nat->List Int}(tr:∀a b c:List Int,HT.lexLt a b=false->HT.lexLt b c=false->HT.lexLt a c=false)(as:∀a b:List Int,HT.lexLt a b=true->HT.lexLt b a=false):∀k,nk (fun i j=>HT.lexLt (ns i) (ns j)) k<=k/\∀j,j<=k->HT.lexLt (ns j) (ns (nk (fun i j=>HT.lexLt (ns i) (ns j)) k))=false
 | 0=>⟨cz _,fun j hj=>by
   have:j=0:=yw
   subst this;show HT.lexLt (ns 0) (ns 0)=false;cases h:HT.lexLt (ns 0) (ns 0)with
   |false=>rfl
   |true=>have:=as _ _ h;rw[h]at this;cases this⟩
 |k+1=>by
  obtain⟨h1,h2⟩:=CY tr as (ns:=ns) k;simp only[nk];by_cases hb:HT.lexLt (ns (k+1)) (ns (nk (fun i j=>HT.lexLt (ns i) (ns j)) k))=true
  ·rw[cq hb];refine⟨cz _,fun j hj=>?_⟩;by_cases e:j=k+1
   ·subst e;cases h:HT.lexLt (ns (k+1)) (ns (k+1))with
    |false=>rfl
    |true=>have:=as _ _ h;rw[h]at this;cases this
   ·exact tr _ _ _ (h2 j yw) (as _ _ hb)
  ·rw[ck hb];refine⟨yw,fun j hj=>?_⟩;by_cases e:j=k+1
   ·subst e;exact Bool.eq_false_iff.mpr hb
   ·exact h2 j yw
theorem BN:∀a b:List Int,HT.lexLt a b=true->HT.lexLt b a=false
 | [],[],h=>by cases h
 | [],y::ys,_=>rfl
 |x::xs,[],h=>by cases h
 |x::xs,y::ys,h=>by
  rw[HT.lexLt_cons]at h ⊢;by_cases e:x=y
  ·subst e;rw[cq rfl]at h ⊢;exact BN xs ys h
  ·rw[ck e]at h;rw[ck (ic e)];simp only[decide_eq_true_eq]at h;simp only[decide_eq_false_iff_not];omega
theorem E7:∀a b c:List Int,HT.lexLt a b=false->HT.lexLt b c=false->HT.lexLt a c=false
 |_,_,[],_,_=>by rename_i a b _ _;cases a<;>rfl
 | [],[],z::zs,_,h=>by cases h
 | [],y::ys,z::zs,h,_=>by cases h
 |x::xs,[],z::zs,_,h=>by cases h
 |x::xs,y::ys,z::zs,h,k=>by
  rw[HT.lexLt_cons]at h k ⊢;by_cases e:x=y
  ·subst e;rw[cq rfl]at h;by_cases e2:x=z
   ·subst e2;rw[cq rfl]at k ⊢;exact E7 xs ys zs h k
   ·rw[ck e2]at k ⊢;exact k
  ·rw[ck e]at h;by_cases e2:y=z
   ·subst e2;rw[ck e];exact h
   ·rw[ck e2]at k;simp only[decide_eq_false_iff_not]at h k;rw[ck yw];simp only[decide_eq_false_iff_not];omega
theorem Ky{X:Cx}(hc:X.calm=true)(hu:X.A.units+64<jn):CallR X (.builtin "min") (AU X.K):=by
 intro zi s σ H xs us Q I r h;obtain⟨p,vs,z,rfl,hq,ac,pr,q⟩:=h;obtain⟨u,rfl,rx⟩:=vals1 r;cases (show u=fb p from rx);obtain⟨aa,rv,pl,_⟩:=I.list hq;have hl:=rv.length;have ae:=Paired.length pr;have hsz:0<aa.toArray.size:=by
  rw[dn,<- hl];exact List.length_pos_iff.mpr ac
 have at_:∀(i:Nat) x,aa.toArray[i]?=some x->∃(v:V) (ns:List Int),vs[i]?=some v/\z[i]?=some ns/\RelV v x/\∃a,v=.ref a/\H a=some (.tup (ns.map V.int)):=fun i x hx=>by
  have hi:i<aa.length:=by
   have:=(Array.getElem?_eq_some_iff.mp hx).1;simpa using this
  have e1:vs[i]?=some vs[i]:=bi yw;have e2:z[i]?=some z[i]:=bi yw;obtain⟨x',ab,rr⟩:=rv.get e1;have:x=x':=by
   have h2:aa[i]?=some x:=by simpa using hx
   rw[ab]at h2;exact(gb h2).symm
  subst this;have pg:∀{a:List V}{b:List (List Int)}{i:Nat}{v:V}{ns:List Int},Paired (fun(v:V) (ns:List Int)=>∃a,v=.ref a/\H a=some (.tup (ns.map V.int))) a b->a[i]?=some v->b[i]?=some ns->∃a,v=.ref a/\H a=some (.tup (ns.map V.int)):=by
   intro a b i v ns pq;induction pq generalizing i with
   |nil=>intro h;simp at h
   |cons r0 _ ih=>
    cases i with
    |zero=>
     intro h1 h2;rw[ol]at h1 h2;cases h1;cases h2;exact r0
    |succ i=>
     intro h1 h2;rw[om]at h1 h2;exact ih h1 h2
  exact⟨_,_,e1,e2,rr,pg pr e1 e2⟩
 refine GF (I.ok.hd hc) pl.isList hsz (fun i j=>HT.lexLt (z.getD i []) (z.getD j [])) (fun i j x y s' Q' E' k hx hy q'=>?_) fun v h' tk hv k=>?_
 ·obtain⟨v1,n1,_,f1,r1,a1,rfl,e1⟩:=at_ i x hx;obtain⟨v2,n2,_,f2,r2,a2,rfl,e2⟩:=at_ j y hy;cases r1;cases r2;obtain⟨_,ah,w1,t1⟩:=(show ObjOk X.prog X.w H s.heap a1 (.tup (n1.map V.int))from I.hok a1 _ e1);obtain⟨_,ag,w2,t2⟩:=(show ObjOk X.prog X.w H s.heap a2 (.tup (n2.map V.int))from I.hok a2 _ e2);have g1:z.getD i []=n1:=by rw[cg,f1];rfl
  have g2:z.getD j []=n2:=by rw[cg,f2];rfl
  rw[g1,g2]at q';obtain⟨o1,b1,c1⟩:=t1;obtain⟨o2,b2,c2⟩:=t2;exact HT.lt_tupInts ⟨o1,k _ _ b1,c1⟩ ⟨o2,k _ _ b2,c2⟩ (gU w1) (gU w2) (by show X.A.units+1<jn;omega) q'
 ·obtain⟨v1,n1,e1,f1,r1,_⟩:=at_ _ v hv;obtain⟨_,h2⟩:=CY (ns:=fun i=>z.getD i []) E7 BN (aa.toArray.size-1);refine⟨v1,H,I.kept (t':=tk) k,r1,q _ v1 n1 e1 f1 fun ms hm=>?_⟩;obtain⟨j,hj⟩:=mem_iff_getElem?.mp hm;have af:=(List.getElem?_eq_some_iff.mp hj).1;have:=h2 j (by rw[dn];omega);rw[show z.getD j []=ms by rw[cg,hj];rfl]at this;rw[show z.getD (nk (fun i j=>HT.lexLt (z.getD i []) (z.getD j [])) (aa.toArray.size-1)) []=n1 by rw[cg,f1];rfl]at this;exact this
def Dy(K:bx):List V->Hp->VK->Prop:=fun xs H Q=>yZ K xs H Q\/AU K xs H Q
theorem Co{X:Cx}(hc:X.calm=true)(hu:X.A.units+64<jn):CallR X (.builtin "min") (Dy X.K):=(J6 hc).or (Ky hc hu)
def hZ(ns:List Int):bc:=.tuple (ns.map bj)
def tP:List XV->Sto->RX->Prop:=fun xs S R=>EV xs S R\/arg1 xs fun x=>∃ds,dU S x=some ds/\∃nss:List (List Int),ds=nss.map hZ/\nss≠[]/\∀m,m∈nss->(∀a,a∈nss->HT.lexLt a m=false)->R (.d (hZ m)) S
theorem Kb{K:bx}:RC (Dy K) tP:=fun h o H S xs vs R Q hs hx q c=>by
 rcases q with q|q
 ·exact .inl (GO h o H S xs vs R Q hs hx q c)
 ·obtain⟨x,rfl,ds,hd,aa,rfl,hn,q1⟩:=cW q;obtain⟨v,rfl,ab⟩:=hxs1 hx;obtain⟨a,ws,rfl,ea,l⟩:=bV hs hd ab;have hl:=l.length;refine .inr ⟨a,ws,aa,rfl,.of ea,fun z=>hn ?_,?_,fun i v ns e1 e2 hm=>?_⟩
  ·subst z;rw[bq]at hl;exact cx hl.symm
  ·have go:∀{aa:List (List Int)}{ws:List V},HasL (vx h o H) (aa.map hZ) ws->Paired (fun(v:V) (ns:List Int)=>∃a,v=.ref a/\H a=some (.tup (ns.map V.int))) ws aa:=by
    intro aa;induction aa with
    |nil=>intro ws l;rw[zv.mp l];exact .nil
    |cons n aa ih=>
     intro ws l;obtain⟨v,r,rfl,h1,l2⟩:=zo.mp l;obtain⟨b,us,rfl,eb,lb⟩:=cO.mp h1;rw[kS lb]at eb;exact .cons ⟨b,rfl,zW _ _ eb⟩ (ih l2)
   exact go l
  ·obtain⟨v',ev,hv⟩:=l.get (show (aa.map hZ)[i]?=some (hZ ns) by rw[fh,e2];rfl);rw[e1]at ev;cases ev;exact c o H S (.d (hZ ns)) v Ex.refl hs hv (q1 ns (bw e2) hm)
section
variable {S:Sto}{P:Sto->List bc->Prop}{a b c d:List bc}{x:List bc}
theorem gT{S0:Sto}:(∃T ds,S0++[x]=T++[ds]/\P T ds)↔P S0 x:=by
 constructor
 ·rintro⟨T,ds,e,q⟩;obtain⟨rfl,e2⟩:=List.append_inj' e rfl;cases e2;exact q
 ·exact fun q=>⟨S0,x,rfl,q⟩
theorem lO:(∃T ds,[a]=T++[ds]/\P T ds)↔P [] a:=gT (S0:=[])
theorem rF:(∃T ds,[a,b]=T++[ds]/\P T ds)↔P [a] b:=gT (S0:=[a])
theorem oY:(∃T ds,[a,b,c]=T++[ds]/\P T ds)↔P [a,b] c:=gT (S0:=[a,b])
end
section
variable {n k:Nat}{ds:List bc}{d:bc}{v:V}
theorem p7:frz n ds (some (.d d))=some (.d d):=rfl
theorem lT:frz n ds (some (.l k))=if k=n then some (.d (.list ds))else some (.l k):=rfl
end
section
variable {α:Type}{n:Nat}{g:DG}{tt:DT}{te:DE}{fin:Sto->Prop}{S0:Sto}{caps:XE}
theorem CK{h:α->bc}{f:α->bc}(P:XE->Prop)(hn:S0.length=n)(l:List α)(τ:XE)(hP:P τ)(hl:l.length<=1000)
  (el:∀x∈l,∀ τ acc (R:XE->RX),P τ->(∀ τ',P τ'->R τ' (.d (f x)) (S0++[acc]))->g (.d (h x)) τ (S0++[acc]) fun τ1 S1=>te τ1 S1 (R τ1)) (hf:fin (S0++[l.map f])):bF n g aC te fin (l.map h) τ (S0++[[]]):=by
 have go:∀(l:List α) (acc:List bc) (τ:XE),P τ->acc.length+l.length<=1000->(∀x∈l,∀ τ acc (R:XE->RX),P τ->(∀ τ',P τ'->R τ' (.d (f x)) (S0++[acc]))->g (.d (h x)) τ (S0++[acc]) fun τ1 S1=>te τ1 S1 (R τ1)) ->
   fin (S0++[acc++l.map f])->bF n g aC te fin (l.map h) τ (S0++[acc]):=by
  intro l;induction l with
  |nil=>intro acc τ _ _ _ h;rw[qr,gl]at h;exact h
  |cons x l ih=>
   intro acc τ hP hl el hh;show g (.d (h x)) τ (S0++[acc]) fun τ1 S1=>aC τ1 S1 fun b S2=>if b=true then te τ1 S2 fun x S3=>asD x fun e=>∃acc,S3[n]?=some acc/\acc.length<1000/\bF n g aC te fin (l.map h) τ1 (S3.set n (acc++[e]))else bF n g aC te fin (l.map h) τ1 S2
   simp only[aC,↓reduceIte];rw[cw]at hl;refine el x br τ acc (fun τ1 x S3=>asD x fun e=>∃acc,S3[n]?=some acc/\acc.length<1000/\bF n g aC te fin (l.map h) τ1 (S3.set n (acc++[e]))) hP fun τ' q=>?_;refine⟨acc,by rw[<- hn,bo],yw,?_⟩;rw[sW hn];refine ih (acc++[f x]) τ' q (by rw[bv,fi];omega) (fun e m=>el e (bp _ m)) ?_;rw[ja];exact hh
 exact go l [] τ hP (by simpa using hl) el (by simpa using hf)
theorem cmp1{h:α->bc}(f:α->bc)(hn:S0.length=n)(l:List α){u:Option XV}(hl:l.length<=1000)
  (el:∀x∈l,∀(u:Option XV) acc (R:XE->RX),(∀u',R (u'::caps) (.d (f x)) (S0++[acc]))->g (.d (h x)) (u::caps) (S0++[acc]) fun τ1 S1=>te τ1 S1 (R τ1)) (hf:fin (S0++[l.map f])):bF n g aC te fin (l.map h) (u::caps) (S0++[[]]):=
 CK (fun τ=>∃u,τ=u::caps) hn l _ ⟨u,rfl⟩ hl (fun x m τ acc R ⟨u,e⟩ k=>by subst e;exact el x m u acc R fun u'=>k _ ⟨u',rfl⟩) hf
theorem cmp2{h:α->bc}(f:α->bc)(hn:S0.length=n)(l:List α){u v:Option XV}(hl:l.length<=1000)
  (el:∀x∈l,∀(u v:Option XV) acc (R:XE->RX),(∀u' v',R (u'::v'::caps) (.d (f x)) (S0++[acc]))->g (.d (h x)) (u::v::caps) (S0++[acc]) fun τ1 S1=>te τ1 S1 (R τ1)) (hf:fin (S0++[l.map f])):bF n g aC te fin (l.map h) (u::v::caps) (S0++[[]]):=
 CK (fun τ=>∃u v,τ=u::v::caps) hn l _ ⟨u,v,rfl⟩ hl (fun x m τ acc R ⟨u,v,e⟩ k=>by subst e;exact el x m u v acc R fun u' v'=>k _ ⟨u',v',rfl⟩) hf
theorem J3{h:α->bc}{f:α->bc}{p:α->Bool}(P:XE->Prop)(hn:S0.length=n)(l:List α)(τ:XE)(hP:P τ)(hl:l.length<=1000)
  (el:∀x∈l,∀ τ acc (R:XE->Bool->Sto->Prop),P τ->(∀ τ',P τ'->(p x=true->∀T:RX,T (.d (f x)) (S0++[acc])->te τ' (S0++[acc]) T)->R τ' (p x) (S0++[acc]))->g (.d (h x)) τ (S0++[acc]) fun τ1 S1=>tt τ1 S1 (R τ1))
  (hf:fin (S0++[(l.filter p).map f])):bF n g tt te fin (l.map h) τ (S0++[[]]):=by
 have go:∀(l:List α) (acc:List bc) (τ:XE),P τ->acc.length+l.length<=1000->(∀x∈l,∀ τ acc (R:XE->Bool->Sto->Prop),P τ->(∀ τ',P τ'->(p x=true->∀T:RX,T (.d (f x)) (S0++[acc])->te τ' (S0++[acc]) T)->R τ' (p x) (S0++[acc]))->g (.d (h x)) τ (S0++[acc]) fun τ1 S1=>tt τ1 S1 (R τ1)) ->
   fin (S0++[acc++(l.filter p).map f])->bF n g tt te fin (l.map h) τ (S0++[acc]):=by
  intro l;induction l with
  |nil=>intro acc τ _ _ _ h;rw[List.filter_nil,qr,gl]at h;exact h
  |cons x l ih=>
   intro acc τ hP hl el hh;show g (.d (h x)) τ (S0++[acc]) fun τ1 S1=>tt τ1 S1 fun b S2=>if b=true then te τ1 S2 fun x S3=>asD x fun e=>∃acc,S3[n]?=some acc/\acc.length<1000/\bF n g tt te fin (l.map h) τ1 (S3.set n (acc++[e]))else bF n g tt te fin (l.map h) τ1 S2
   rw[cw]at hl;refine el x br τ acc (fun τ1 b S2=>if b=true then te τ1 S2 fun x S3=>asD x fun e=>∃acc,S3[n]?=some acc/\acc.length<1000/\bF n g tt te fin (l.map h) τ1 (S3.set n (acc++[e]))else bF n g tt te fin (l.map h) τ1 S2) hP fun τ' q ev=>?_;cases hp:p x with
   |false=>
    rw[List.filter_cons_of_neg (by rw[hp];exact gw)]at hh;exact e7 (ih acc τ' q yw (fun e m=>el e (bp _ m)) hh)
   |true=>
    rw[List.filter_cons_of_pos hp,ft]at hh;refine eT (ev hp _ ⟨acc,by rw[<- hn,bo],yw,?_⟩);rw[sW hn];exact ih (acc++[f x]) τ' q (by rw[bv,fi];omega) (fun e m=>el e (bp _ m)) (by rw[ja];exact hh)
 exact go l [] τ hP (by simpa using hl) el (by simpa using hf)
theorem cmf1{h:α->bc}(f:α->bc)(p:α->Bool)(hn:S0.length=n)(l:List α){u:Option XV}(hl:l.length<=1000)
  (el:∀x∈l,∀(u:Option XV) acc (R:XE->Bool->Sto->Prop),(∀u',(p x=true->∀T:RX,T (.d (f x)) (S0++[acc])->te (u'::caps) (S0++[acc]) T)->R (u'::caps) (p x) (S0++[acc]))->g (.d (h x)) (u::caps) (S0++[acc]) fun τ1 S1=>tt τ1 S1 (R τ1)) (hf:fin (S0++[(l.filter p).map f])):bF n g tt te fin (l.map h) (u::caps) (S0++[[]]):=
 J3 (fun τ=>∃u,τ=u::caps) hn l _ ⟨u,rfl⟩ hl (fun x m τ acc R ⟨u,e⟩ k=>by subst e;exact el x m u acc R fun u' hh=>k _ ⟨u',rfl⟩ hh) hf
end
end
section
@[irreducible] def QSs (X:Cx) (st:List Stmt) (t:TS):Prop:=PSs X st t
theorem QSs.out{X:Cx}{st:List Stmt}{t:TS}(h:QSs X st t):PSs X st t:=by unfold QSs at h;exact h
@[irreducible] def QA (X:Cx) (es:List Expr) (t:TA):Prop:=PA X es t
theorem QA.out{X:Cx}{es:List Expr}{t:TA}(h:QA X es t):PA X es t:=by unfold QA at h;exact h
theorem QA.mk{X:Cx}{es:List Expr}{t:TA}(h:PA X es t):QA X es t:=by unfold QA;exact h
theorem AV{X:Cx}:QA X [] gB:=QA.mk ze
theorem eE{X:Cx}{e:Expr}{es:List Expr}{te:TE}{t:TA}(ha:PE X e te)(hr:QA X es t)(hs:cr (e::es) X.env=(false,eval e X.env)::cr es X.env:=by rfl):QA X (e::es) (eC te t):=QA.mk (za ha hr.out hs)
theorem DW{X:Cx}{es:List Expr}{t:TA}{pos:Pos}(h:QA X es t):PE X (.List es pos) (lJ t):=aT h.out
@[irreducible] def QS (X:Cx) (st:Stmt) (t:TS):Prop:=PS X st t
theorem QS.out{X:Cx}{st:Stmt}{t:TS}(h:QS X st t):PS X st t:=by unfold QS at h;exact h
end
section
section
variable {prog:cy}{w:fq}{A:ff}{E:bb->bd->Prop}{s:bd}
abbrev iW (acc:Array bb) (c:Nat):Obj:={ cls:=.type "list",dict:=none,data:=.seq acc c,slots:=#[] }
abbrev uS (lo hi:Int):Obj:={ cls:=.type "longrange_iterator",data:=.fields #[jy lo,jy (jr lo hi 1),jy 1] }
abbrev IntsFrom (lo:Int) (acc:Array bb) (n:Nat):Prop:=ItemsOf (fun i v=>∃t,v=.int (lo+(i:Nat)*1) t) acc n
theorem Gj{R:Result->bd->Prop}{lo:Int}{n L I:Nat}{res:bb}{c0 ac:Nat}{h0:Heap}(hh:A.handled=none)(hn:n<=1000)(ne:L≠I)
  (hI:IsLongIter h0 I (lo+((0:Nat):Int)*1) ((n:Int)-((0:Nat):Int)) 1) (hL:h0.get? L=some (iW #[] c0))
  (hR:∀h' tk acc c,(∀b o,b≠L->b≠I->h0.get? b=some o->h'.get? b=some o)->h'.get? L=some (iW acc c)->IntsFrom lo acc n->R (.ok (.ret res)) { s with heap:=h',toks:=tk }):
  kl (model prog w) A (.builtin "list.extend.loop" ⟨[.ref L,.ref I,res],[]⟩) R { s with heap:=h0,toks:=ac }:=by
 have ab:=(Walks.longrange (prog:=prog) (w:=w) (A:=A.in1) hh I lo 1 n).toS;have z:n<=df:=by rw[ko];omega
 have out:L∉[I]:=by simpa using ne
 refine codeAny_extend_loopS ab z L out res n 0 _ #[] c0 rfl (ji _) hI hL (ItemsOf.nil _) ?_;intro s' acc c q ae aa;rw[Moved.eq_with q];refine hR s'.heap s'.toks acc c (fun b o b1 b2 e=>q.heap b o ?_ e) ae aa;simp only[jd,gq,or_false,not_or];exact⟨b1,b2⟩
theorem F0{R:Result->bd->Prop}{r L:Addr}{lo hi:Int}{t u v:Tok}{n:Nat}(hh:A.handled=none)(hr:IsRange s.heap r lo hi 1 t u v)(ai:Builtin.Range.small lo hi 1=false)(hn:jr lo hi 1=(n:Int))(hl:n<=1000)
  {c0:Nat} (hL:s.heap.get? L=some (iW #[] c0))
  (hR:∀h' tk acc c,(∀b o,b≠L->s.heap.get? b=some o->h'.get? b=some o)->h'.get? L=some (iW acc c)->IntsFrom lo acc n->R (.ok (.ret .none)) { s with heap:=h',toks:=tk }):
  bn (model prog w) A.in1 (io (.ref L) (.ref r) .none)
   (fun f z=>match f with
    | .done g=>R (.ok g) z
    | .again c=>c.quiet=true/\kl (model prog w) A c R z) (fun e z=>R (.error e) z) s:=by
 have ab:L≠r:=fun e=>by
  rw[e,hr]at hL;simp at hL
 have aj:L<s.heap.objs.size:=dw hL;have ne:L≠s.heap.objs.size:=fk aj;have af:Builtin.List.listSameRef (.ref L) (.ref r)=false:=by simp[Builtin.List.listSameRef,ab]
 have k1:(qa "range" == qa "list")=false:=by decide
 have k2:(qa "range" == qa "tuple")=false:=by decide
 unfold io;refine ba (wpAny_typeOf (T:="range") ⟨_,hr,rfl⟩ ?_);simp only[af,k1,k2,Bool.or_false,iu,if_false];refine ba (wpAny_pyIter_longrange hr ai ?_);have ae:IsLongIter (s.heap.push (uS lo hi)) s.heap.objs.size (lo+((0:Nat):Int)*1) ((n:Int)-((0:Nat):Int)) 1:=by
  show IsLongIter _ _ _ _ _;rw[<- hn];simpa using cj _ rfl
 have ac:=bf (uS lo hi) hL;refine ba (gu (wpAny_hint_range (n:=n) (bf _ hr) hn yw ?_));have go:∀{h0:Heap}{c0 ah:Nat},IsLongIter h0 s.heap.objs.size (lo+((0:Nat):Int)*1) ((n:Int)-((0:Nat):Int)) 1->h0.get? L=some (iW #[] c0)->(∀b o,b≠L->s.heap.get? b=some o->h0.get? b=some o) ->
   kl (model prog w) A (.builtin "list.extend.loop" ⟨[.ref L,.ref s.heap.objs.size,.none],[]⟩) R { s with heap:=h0,toks:=ah }:=fun {h0 c0 ah} a1 a2 a3=>
  Gj hh hl ne a1 a2 fun h' tk acc c q1 q2 q3=>hR h' tk acc c (fun b o nb e=>q1 b o nb (fk (dw e)) (a3 b o nb e)) q2 q3
 have q:=ig nl;refine wpAny_ite_split (fun _=>?_) fun _=>be ⟨q _,go ae ac fun b o _ e=>bf _ e⟩;refine ba (wpAny_rule (ba ?_));show bn _ _ (updateSeq L (·.push .none) >>= fun _=>updateSeq L (·.pop)) _ _ _;refine ba (jm ac rfl ?_);have ag:=ke (gi (·.push pz)) ac rfl;refine jm (hz:=by seq_fits) ag rfl ?_;have ak:=ke (gi (·.pop)) ag rfl;have aa:∀b o,b≠L->(s.heap.push (uS lo hi)).get? b=some o->(((s.heap.push (uS lo hi)).update L (gi (·.push pz))).update L (gi (·.pop))).get? b=some o:=fun b o nb e=>
  (gp _ _ (ic nb)).trans ((gp _ _ (ic nb)).trans e)
 exact be ⟨q _,go (aa _ _ (ic ne) ae) ak fun b o nb e=>aa b o nb (bf _ e)⟩
theorem K3{R:Result->bd->Prop}{r L:Addr}{lo hi:Int}{t u v:Tok}{n:Nat}(hh:A.handled=none)(hr:IsRange s.heap r lo hi 1 t u v)(ab:Builtin.Range.small lo hi 1=false)(hn:jr lo hi 1=(n:Int))(hl:n<=1000)
  (hL:s.heap.get? L=some { cls:=.type "list",data:=.seq #[] })
  (hR:∀h' tk acc c,(∀b o,b≠L->s.heap.get? b=some o->h'.get? b=some o)->h'.get? L=some (iW acc c)->IntsFrom lo acc n->R (.ok (.ret .none)) { s with heap:=h',toks:=tk }):
  bn (model prog w) A.in1 (pj.«list.__init__» ⟨[.ref L,.ref r],[]⟩)
   (fun f z=>match f with
    | .done g=>R (.ok g) z
    | .again c=>c.quiet=true/\kl (model prog w) A c R z) (fun e z=>R (.error e) z) s:=by
 have aa:L≠r:=fun e=>by
  rw[e,hr]at hL;simp at hL
 show bn _ _ (do
  let was <- Builtin.List.listItems (.ref L)
  Builtin.List.listUpdate (.ref L) (fun _=>#[])
  letGo was.toList.reverse
  io (.ref L) (.ref r) .none) _ _ s
 unfold Builtin.List.listItems;refine ba (ba (lh hL rfl (be ?_)));show bn _ _ (updateSeq L (fun _=>#[]) >>= fun _=>letGo _ >>= fun _=>io (.ref L) (.ref r) .none) _ _ s;refine ba (jm hL rfl ?_);have ac:=ke (gi (fun _=>(#[]:Array bb))) hL rfl;have q:∀b o,b≠L->s.heap.get? b=some o->(s.heap.update L (gi (fun _=>(#[]:Array bb)))).get? b=some o:=fun b o nb e=>(gp _ _ (ic nb)).trans e;refine ba (nz ?_);refine F0 hh (q r _ (ic aa) hr) ab hn hl ac fun h' tk acc c q1 q2 q3=>?_;exact hR h' tk acc c (fun b o nb e=>q1 b o nb (q b o nb e)) q2 q3
theorem IK{Q:bb->bd->Prop}{r:Addr}{lo hi:Int}{t u v:Tok}{n:Nat}(hh:A.handled=none)(hr:IsRange s.heap r lo hi 1 t u v)(hn:jr lo hi 1=(n:Int))(hl:n<=1000)
  (hQ:∀h' tk acc c,(∀b o,s.heap.get? b=some o->h'.get? b=some o)->h'.get? s.heap.objs.size=some (iW acc c)->IntsFrom lo acc n->Q (.ref s.heap.objs.size) { s with heap:=h',toks:=tk }):
  bn (model prog w) A (call (.type "list") [.ref r]) Q E s:=by
 cases sm:Builtin.Range.small lo hi 1 with
 |true=>exact call_list_range hh hr sm hn yw hQ
 |false=>
  refine callType_codes (Q₁:=fun ob z=>ob=.ref s.heap.objs.size/\z = { s with heap:=s.heap.push { cls:=.type "list",data:=.seq #[] } }) F.called_list (F.typeCall_list_1 _) F.entry_list_init (code_list_new _ ⟨rfl,rfl⟩) ?_;rintro ob z ⟨rfl,rfl⟩;have hL:(s.heap.push { cls:=.type "list",data:=.seq #[] }).get? s.heap.objs.size=some { cls:=.type "list",data:=.seq #[] }:=cj _ rfl;refine⟨⟨_,hL,rfl⟩,F.args_list_init_2 _ _,?_⟩;refine K3 (A:=A.in1) hh (bf _ hr) sm hn hl hL fun h' tk acc c q1 q2 q3=>⟨rfl,hQ h' tk acc c (fun b o e=>?_) q2 q3⟩;exact q1 b o (fk (dw e)) (bf _ e)
end
def Bs(ta:TA):TE:=fun σ H Q=>ta σ H fun vs H1=>∃i j:Int,vs=[.int i,.int j]/\(j-i).toNat<=1000/\∀l,H1 l=none->Q (.ref l) (upd H1 l (.lst ((dm (j-i).toNat).map fun k:Nat=>V.int (i+k))))
theorem BZ:∀(xs:List V) (us:List bb),xs.length=us.length->(∀(k:Nat) (x:V) (u:bb),xs[k]?=some x->us[k]?=some u->RelV x u)->Vals xs us
 | [],[],_,_=>.nil
 |x::xs,u::us,hl,h=>.cons (h 0 x u rfl rfl) (BZ xs us (by simpa using hl) fun k y v e1 e2=>h (k+1) y v e1 e2)
 | [],_::_,hl,_=>by simp at hl
 |_::_,[],hl,_=>by simp at hl
theorem G5{lo:Int}:∀{n:Nat}{acc:Array bb},IntsFrom lo acc n->Vals ((dm n).map fun k:Nat=>V.int (lo+k)) acc.toList:=by
 intro n acc h;obtain⟨hz,hv⟩:=h;refine BZ _ _ (by simp[hz]) fun k x u ex eu=>?_;rw[fh]at ex;have hk:k<n:=by
  have:=(List.getElem?_eq_some_iff.mp eu).1;simpa[hz]using this
 rw[qe hk]at ex;cases ex;obtain⟨tk,rfl⟩:=hv k u (by simpa using eu);exact⟨tk,by rw[Int.mul_one]⟩
theorem Hk{X:Cx}{a b:Expr}{ta:TA}{p p' pos pos':Pos}(hc:X.calm=true)(z:Gl X "list")(aa:X.mg "list" = none)(hg:Gl X "range")(hm:X.mg "range" = none)(ha:PA X [a,b] ta)
  (hs:cr [a,b] X.env=[(false,eval a X.env),(false,eval b X.env)]:=by rfl) (hs2:cr [b] X.env=[(false,eval b X.env)]:=by rfl)
  (hs3:cr [.Call (.Name "range" p) [a,b] [] pos] X.env=[(false,eval (.Call (.Name "range" p) [a,b] [] pos) X.env)]:=by rfl):
  PE X (.Call (.Name "list" p') [.Call (.Name "range" p) [a,b] [] pos] [] pos') (Bs ta):=by
 intro zi s σ H Q I h;refine jo (e9 I z aa Hq ?_ dz dz);refine gx ?_ (by rw[hs3];rfl) rfl;rw[hs3];show bn _ _ (spliced ((false,eval (.Call (.Name "range" p) [a,b] [] pos) X.env) :: [])) _ _ s;refine Calls.spliced_cons (Call_ (e9 I hg hm boot_range (gx (thn (ha pos zi s σ H _ I h) fun us s1 ⟨vs,H1,I1,r1,q1⟩=>?_) (by rw[hs,hs2]) (by rw[hs2];rfl))));obtain⟨i,j,e,hl,q⟩:=q1;subst e;cases r1 with
 |cons r rr=>
  cases rr with
  |cons r' rr=>
   cases rr;obtain⟨t,rfl⟩:=r;obtain⟨t',rfl⟩:=r';refine call_range_2 (Calls.spliced_nil ?_);have I2:=I1.kept (h':=s1.heap.push { cls:=.type "range",data:=.fields #[.int i t,.int j t',.int 1 s1.toks] }) (t':=s1.toks+1) fun b o e=>bf _ e;have en:jr i j 1=(((j-i).toNat:Nat):Int):=by rw[rangeSize_one];split<;>omega
   refine IK (I2.ok.hd hc) (IsRange.new ..) en hl fun h' tk acc c kp e it=>?_;have hv:=G5 it;refine⟨.ref _,_,I2.laid (t':=tk) kp (cz _) (show ObjOk X.prog X.w _ h' _ (.lst _)from⟨?_,acc.toList,c,hv,?_⟩),rfl,q _ (I2.hok.fresh (cz _))⟩
   ·rw[bq,on,ko];omega
   ·simpa using e
def iS(a:DA):DE:=fun δ S R=>a δ S fun xs S1=>arg2 xs fun x y=>asI x fun i=>asI y fun j=>(j-i).toNat<=1000/\R (.d (.list (d7 i (j-i).toNat))) S1
theorem IJ{ta:TA}{da:DA}(ha:RA ta da):RE (Bs ta) (iS da):=fun h o H δ σ S R Q he hs q c=>
 ha h o H δ σ S _ _ he hs q fun o1 H1 S1 xs vs e1 s1 x1 d0=>by
  obtain⟨x,y,rfl,d2⟩:=sJ d0;obtain⟨i,rfl,d3⟩:=bB d2;obtain⟨j,rfl,hl,d4⟩:=bB d3;obtain⟨v,u,rfl,hv,hu⟩:=hxs2 x1;rw[bE hv,bE hu];have l:=xQ (H:=vx h o1 H1) ((dm (j-i).toNat).map fun k:Nat=>i+k);rw[ge,ge]at l;exact⟨i,j,rfl,hl,lK s1 l (c.pre e1) d4⟩
end
end L2
namespace L2
open PySem PySem.Spec PyProof.Rows
section
def lZ:D3:=fun x i j S R=>asT x fun ds=>R (.d (.tuple (aS ds i j))) S
end
section
theorem Df.none{P:cy}{w:fq}{K:bx}{mg:Str->Option bb}{base:Heap}{x:Str}{st:Stmt}{ps:List Str}{k:Nat}(D:Dd K mg x st ps):Df P w K mg base x ps k (spN ps fun _ _ _=>False):=by
 obtain⟨f,fd,F,hm,hb⟩:=D.ex;have no:∀{vs H Q E},spN ps (fun _ _ _=>False) vs H Q E->False:=fun {vs H Q E} h=>by
  obtain⟨_,h,o,S,xs,R,_,_,q,_⟩:=h;exact q
 exact⟨f,fd,⟨fun _ _ _ _ h=>(no h).elim,fun _ _ _ _ _ _ _ _ _ _ _ _ _ h=>(no h).elim⟩,hm,F.kp,hb⟩
theorem Am{r:Addr}{lo hi x:Int}{t u v tx:Tok}:Meets (pj.«range.__contains__» ⟨[.ref r,.int x tx],[]⟩) (fun _ R s=>IsRange s.heap r lo hi 1 t u v/\R (.ok (.ret (.bool (decide (lo<=x/\x<hi))))) s):=by
 rintro prog w A R s ⟨hr,q⟩;have e:(Builtin.Range.rangePlace? lo hi 1 x).isSome=decide (lo<=x/\x<hi):=by
  unfold Builtin.Range.rangePlace?;by_cases h:lo<=x/\x<hi
  ·simp[h]
  ·simp[h]
 rw[<- e]at q;obtain⟨hp,g,d,tk,os⟩:=s
 wp_walk using AutoSeq1.wpAny_loadPart' hr
 exact q
def v6(k:Bool):CmpOp:=if k=true then .NotIn else .In
theorem L8{prog:cy}{w:fq}{A:ff}{E:bb->bd->Prop}{s:bd}{r:Addr}{lo hi x:Int}{t u v tx:Tok}{Q:bb->bd->Prop}{k:Bool}(hr:IsRange s.heap r lo hi 1 t u v)
  (h:Q (.bool (if k=true then !decide (lo<=x/\x<hi)else decide (lo<=x/\x<hi))) s):bn (model prog w) A (gd (v6 k) (.int x tx) (.ref r)) Q E s:=by
 cases k with
 |false=>exact SeqRoads2.in_meets ⟨_,hr,rfl⟩ F.slot_range_contains F.entry_range_contains (F.args_range_contains_2 _ _) (Am (t:=t) (u:=u) (v:=v)) ⟨hr,_,rfl,h⟩
 |true=>exact SeqRoads2.notIn_meets ⟨_,hr,rfl⟩ F.slot_range_contains F.entry_range_contains (F.args_range_contains_2 _ _) (Am (t:=t) (u:=u) (v:=v)) ⟨hr,_,rfl,h⟩
def CV(vs:List V)(a b:Int):Prop:=(vs=[.int b]/\a=0)\/vs=[.int a,.int b]
def w6(k:Bool)(ta:TE)(tb:TA):TE:=fun σ H Q=>ta σ H fun x H1=>tb σ H1 fun ys H2=>∃i a b:Int,x=.int i/\CV ys a b/\Q (.bl (if k=true then !decide (a<=i/\i<b)else decide (a<=i/\i<b))) H2
section
variable {X:Cx}{l e e':Expr}{es:List Expr}{ta:TE}{tb:TA}{p pos pos':Pos}{k:Bool}
theorem J1{zi:List (Addr×Obj)}{s:bd}{σ:St}{H:Hp}{Q:bb->bd->Prop}{vs:List V}{us:List bb}{a b:Int}(I:Inv X zi σ H s)(r:Vals vs us)(h:CV vs a b)
  (q:∀(r:Addr) (t u v:Tok) (s':bd),IsRange s'.heap r a b 1 t u v->Inv X zi σ H s'->Q (.ref r) s'):bn (model X.prog X.w) X.A (call (.type "range") us) Q X.xe s:=by
 rcases h with ⟨rfl,rfl⟩|rfl
 ·cases r with
  |cons r rr=>
   cases rr;obtain⟨t,rfl⟩:=r;exact call_range_1 (q _ _ _ _ _ (IsRange.new ..) (I.kept fun b o e=>bf _ e))
 ·cases r with
  |cons r rr=>
   cases rr with
   |cons r' rr=>
    cases rr;obtain⟨t,rfl⟩:=r;obtain⟨t',rfl⟩:=r';exact call_range_2 (q _ _ _ _ _ (IsRange.new ..) (I.kept fun b o e=>bf _ e))
theorem Jm{zi:List (Addr×Obj)}{s:bd}{σ:St}{H:Hp}{Q:VK}(hg:Gl X "range")(hm:X.mg "range" = none)(ha:PE X l ta)(hb:PA X [e] tb)(hs:cr [e] X.env=[(false,eval e X.env)])(I:Inv X zi σ H s)(h:w6 k ta tb σ H Q):
  bn (model X.prog X.w) X.A (eval l X.env) (fun a s1=>bn (model X.prog X.w) X.A (eval (.Call (.Name "range" p) [e] [] pos) X.env) (fun b s2=>bn (model X.prog X.w) X.A (gd (v6 k) a b) (EP X zi σ Q) X.xe s2) X.xe s1) X.xe s:=by
 refine thn (ha zi s σ H _ I h) fun a s1 ⟨x,H1,I1,r1,q1⟩=>?_;refine Call_ (e9 I1 hg hm boot_range (gx (thn (hb pos zi s1 σ H1 _ I1 q1) fun us s2 ⟨vs,H2,I2,r2,q2⟩=>?_) hs rfl));obtain⟨i,n,m,rfl,hv,q⟩:=q2;obtain⟨tx,rfl⟩:=r1;exact J1 I2 r2 hv fun r t u v s' ir I3=>L8 ir ⟨.bl _,H2,I3,rfl,q⟩
theorem F8(k:Bool){op:CmpOp}(hg:Gl X "range")(hm:X.mg "range" = none)(ha:PE X l ta)(hb:PA X [e] tb)(ho:op=v6 k:=by rfl)(hs:cr [e] X.env=[(false,eval e X.env)]:=by rfl)(hk:behindInMarks op (.Call (.Name "range" p) [e] [] pos)=false:=by rfl):
  PT X (.Compare l [op] [.Call (.Name "range" p) [e] [] pos] pos') (j9 (w6 k ta tb)):=by
 subst ho;intro zi s σ H Q I h;refine wpAny_isTrue_Compare1 (thn (Jm (Q:=fun x H'=>∃k,x=.bl k/\Q k H') hg hm ha hb hs I h) fun a s1 q1=>thn q1 fun b s2 q2=>thn q2 fun c s3 ⟨z,H3,I3,r3,k,e,q3⟩=>?_) hk;subst e;cases r3;exact gy ⟨H3,I3,q3⟩
end
def jE(k:Bool)(a:DE)(b:DA):DE:=fun δ S R=>a δ S fun x S1=>b δ S1 fun ys S2=>asI x fun i=>arg1 ys fun y=>asI y fun n=>R (.d (.bool (if k=true then !decide (0<=i/\i<n)else decide (0<=i/\i<n)))) S2
theorem Gu{k:Bool}{ta:TE}{da:DE}{tb:TA}{db:DA}(ha:RE ta da)(hb:RA tb db):RE (w6 k ta tb) (jE k da db):=fun h o H δ σ S R Q he hs q c=>
 ha h o H δ σ S _ _ he hs q fun o1 H1 S1 x v e1 s1 x1 d1=>hb h o1 H1 δ σ S1 _ _ (he.mono e1) s1 d1 fun o2 H2 S2 ys us e2 s2 y2 d2=>by
  obtain⟨i,rfl,d3⟩:=bB d2;obtain⟨y,rfl,d4⟩:=cW d3;obtain⟨n,rfl,d5⟩:=bB d4;obtain⟨u,rfl,hu⟩:=hxs1 y2;refine⟨i,0,n,bE (x1.mono e2),.inl ⟨by rw[bE hu],rfl⟩,c o2 H2 S2 _ _ (e1.trans e2) s2 (xB _) d5⟩
end
section
def AZ:R2:=fun x y H Q=>∃a b,x=.bl a/\y=.bl b/\Q (.bl (!decide (a=b))) H
theorem JV{X:Cx}:OpR X (gd .IsNot) AZ:=by
 intro zi s σ H x y v u Q I rx ry h;obtain⟨a,b,rfl,rfl,q⟩:=h;cases rx;cases ry;exact wpAny_isNot_plain (by cases a<;>cases b<;>rfl) (wR I q (by cases a<;>cases b<;>rfl))
def iR:D2:=fun x y S R=>asB x fun a=>asB y fun b=>R (.d (.bool (!decide (a=b)))) S
theorem Bp:RO AZ iR:=fun h o H S x y v u R Q hs hx hy q c=>by
 replace q:=i6 q;obtain⟨a,rfl,q⟩:=q;replace q:=i6 q;obtain⟨b,rfl,q⟩:=q;exact⟨a,b,f6 hx,f6 hy,c o H S _ _ Ex.refl hs (xB _) q⟩
end
section
@[irreducible] def QE (X:Cx) (e:Expr) (t:TE):Prop:=PE X e t
theorem QE.out{X:Cx}{e:Expr}{t:TE}(h:QE X e t):PE X e t:=by unfold QE at h;exact h
end
end L2
namespace L2
open PySem PySem.Spec PyProof.Rows
section
def mG:D2:=fun x y S R=>asT x fun ds=>asT y fun es=>∃ns,ds=ns.map bj/\∃ms,es=ms.map bj/\R (.d (.bool (HT.lexLt ns ms))) S
end
section
open Sem (wp)
abbrev IsT (h:Heap) (T:Addr) (xs:Array bb):Prop:=h.get? T=some { cls:=.type "tuple",data:=.seq xs }
end
section
structure Bel(xs:Array Nat)(j r:Nat):Prop where
 le:r<=xs.size
 lo:∀i x,i<r->xs[i]?=some x->x<j
 hi:∀i x,r<=i->xs[i]?=some x->j<=x
abbrev Rise (xs:Array Nat):Prop:=xs.toList.Pairwise (· < ·)
theorem Rise.at{xs:Array Nat}(h:Rise xs){i k x y:Nat}(ik:i<k)(ei:xs[i]?=some x)(ek:xs[k]?=some y):x<y:=by
 rw[<- ox]at ei ek;obtain⟨hi,rfl⟩:=List.getElem?_eq_some_iff.mp ei;obtain⟨hk,rfl⟩:=List.getElem?_eq_some_iff.mp ek;exact List.pairwise_iff_getElem.mp h i k hi hk ik
theorem yA{xs:Array Nat}{j:Nat}(h:Rise xs):∀(fuel lo hi:Nat),lo<=hi->hi<=xs.size->hi-lo<=fuel->(∀i x,i<lo->xs[i]?=some x->x<j)->(∀i x,hi<=i->xs[i]?=some x->j<=x)->Bel xs j (SetTable.below.go xs j fuel lo hi)
 | 0,lo,hi,l1,l2,l3,a,b=>by
  unfold SetTable.below.go;have:hi=lo:=yw
  subst this;exact⟨l2,a,b⟩
 |fuel+1,lo,hi,l1,l2,l3,a,b=>by
  unfold SetTable.below.go;by_cases h1:lo<hi
  ·rw[cq h1];have hm:(lo+hi)/2<xs.size:=yw
   have em:xs[(lo+hi)/2]?=some xs[(lo+hi)/2]:=je hm;have eg:xs.getD ((lo+hi)/2) j=xs[(lo+hi)/2]:=by simp[Array.getD,hm]
   dsimp only;rw[eg];by_cases h2:xs[(lo+hi)/2]<j
   ·rw[cq h2];refine yA h fuel _ _ yw l2 yw (fun i x q e=>?_) b;by_cases h3:i=(lo+hi)/2
    ·subst h3;rw[em]at e;cases e;exact h2
    ·exact lt_trans (h.at yw e em) h2
   ·rw[ck h2];refine yA h fuel _ _ yw yw yw a fun i x q e=>?_;by_cases h3:i=(lo+hi)/2
    ·subst h3;rw[em]at e;cases e;omega
    ·have:=h.at (show (lo+hi)/2<i by omega) em e;omega
  ·rw[ck h1];have:hi=lo:=yw
   subst this;exact⟨l2,a,b⟩
theorem bel{xs:Array Nat}{j:Nat}(h:Rise xs):Bel xs j (li xs j):=by
 unfold li;refine yA h _ _ _ (ji _) (cz _) yw (fun i x z=>absurd z (Nat.not_lt_zero _)) fun i x z e=>?_;have:=(Array.getElem?_eq_some_iff.mp e).1;omega
theorem Dj{xs:Array Nat}{j r q:Nat}(a:Bel xs j r)(b:Bel xs j q):r=q:=by
 rcases Nat.lt_trichotomy r q with h|h|h
 ·have hs:r<xs.size:=by have:=b.le;omega
  have e:=je hs;have:=a.hi r _ (cz _) e;have:=b.lo r _ h e;omega
 ·exact h
 ·have hs:q<xs.size:=by have:=a.le;omega
  have e:=je hs;have:=b.hi q _ (cz _) e;have:=a.lo q _ h e;omega
theorem Kt{xs:Array Nat}{j:Nat}(h:Rise xs)(hn:xs[li xs j]? ≠ some j):Rise (SetTable.insertAt xs (li xs j) j):=by
 have b:=bel (j:=j) h;generalize li xs j=r at b hn;unfold Rise;rw[SetTable.toList_insertAt];have h1:∀x∈xs.toList.take r,x<j:=fun x m=>by
  obtain⟨i,hi⟩:=mem_iff_getElem?.mp m;have il:i<r:=by
   have:=(List.getElem?_eq_some_iff.mp hi).1;rw[gz]at this;omega
  rw[List.getElem?_take,cq il,ox]at hi;exact b.lo i x il hi
 have h2:∀x∈xs.toList.drop r,j<x:=fun x m=>by
  obtain⟨i,hi⟩:=mem_iff_getElem?.mp m;rw[List.getElem?_drop,ox]at hi;have le:=b.hi (r+i) x yw hi;rcases Nat.eq_or_lt_of_le le with e|l
  ·exfalso;subst e;cases i with
   |zero=>exact hn hi
   |succ i=>
    have hs:r<xs.size:=by have:=(Array.getElem?_eq_some_iff.mp hi).1;omega
    have e:=je hs;have:=b.hi r _ (cz _) e;have:=h.at (show r<r+(i+1) by omega) e hi;omega
  ·exact l
 refine List.pairwise_append.mpr ⟨List.Pairwise.sublist (List.take_sublist _ _) h,pairwise_cons.mpr ⟨h2,List.Pairwise.sublist (List.drop_sublist _ _) h⟩,fun x mx y my=>?_⟩;rcases mem_cons.mp my with rfl|my
 ·exact h1 x mx
 ·exact lt_trans (h1 x mx) (h2 y my)
theorem GE{t:jf}(hd:t.dummies = #[])(j:Nat):t.slot j≠.dummy:=by
 unfold SetTable.slot;dsimp only;split
 ·simp
 ·rw[hd];simp[SetTable.has]
theorem JF{t:jf}{j:Nat}(h:t.slot j=.empty):t.place[li t.place j]? ≠ some j:=by
 unfold SetTable.slot at h;dsimp only at h;intro e;rw[e]at h;simp at h
theorem Ca{t:jf}{f:Nat->Int}{h:Int}(hd:t.dummies = #[]):∀(fuel:Nat) (p:SetTable.Probe) (j:Nat) (d:Option Nat),SetTable.probe.go t f h fuel p=some (.empty j d)->t.slot j=.empty/\d=p.dummy
 | 0,p,j,d,e=>by simp[SetTable.probe.go]at e
 |fuel+1,p,j,d,e=>by
  unfold SetTable.probe.go at e;split at e
  ·rename_i hs;cases e;exact⟨hs,rfl⟩
  ·rename_i hs;exact absurd hs (GE hd _)
  ·split at e
   ·cases e
   ·have:=Ca hd fuel _ j d e;refine⟨this.1,this.2.trans ?_⟩;unfold SetTable.advance;split<;>rfl
structure Tab(led:Bool)(t:jf)(n:Nat):Prop where
 fits:t.fits n=true
 rise:Rise t.place
 dum:t.dummies = #[]
 led:t.led=led
theorem JQ(n:Nat):Rise (Array.range n):=by
 unfold Rise;rw[Array.toList_range];exact List.pairwise_lt_range
theorem uQ{led:Bool}{t:jf}(n:Nat)(h:t.led=led):Tab led (t.standIn n) n:=
 ⟨SetTable.standIn_fits t n,JQ n,rfl,h⟩
theorem J7(led:Bool):Tab led (SetTable.fresh 0 0 led) 0:=⟨rfl,List.Pairwise.nil,rfl,rfl⟩
theorem GU{led:Bool}{t:jf}{es:Array (Int×bb)}(h:Tab led t es.size)(hs:Int)(x:bb):Tab led (layNew t es hs x).2.1 (layNew t es hs x).1.size:=by
 unfold layNew;split
 ·rename_i slot wd hf;unfold SetTable.freeSlot at hf;split at hf
  ·rename_i j d hp;cases hf;obtain⟨e1,e2⟩:=Ca h.dum _ _ _ _ hp;have e3:d=none:=e2;subst e3;dsimp only[Option.getD];have hr:=Kt h.rise (JF e1);unfold SetTable.orStandIn;split
   ·rename_i q;refine⟨q,hr,?_,h.led⟩;show (if SetTable.has t.dummies j=true then _ else t.dummies) = #[];rw[h.dum];rfl
   ·exact uQ _ h.led
  ·cases hf
 ·have:=uQ (led:=led) (t:=t) (es.size+1) h.led;simpa using this
theorem FP{led:Bool}{t:jf}{es:Array (Int×bb)}(h:t.led=led)(q:Nat):Tab led (relayAll t es q).2.1 (relayAll t es q).1.size:=by
 have hf:=relayAll_fits t es q;unfold relayAll at hf ⊢;split
 ·rename_i t' z hl;rw[hl]at hf;dsimp only at hf ⊢;split
  ·rename_i hc;rw[cq hc]at hf;unfold SetTable.relaid SetTable.laid at hl;simp only[Option.bind_eq_bind,Option.bind_eq_some_iff,Option.pure_def,Option.some.injEq,Prod.mk.injEq]at hl;obtain⟨owner,_,rfl,_⟩:=hl;refine⟨hf,?_,rfl,h⟩;unfold Rise;dsimp only;rw[List.pairwise_map,List.pairwise_filterMap];refine List.Pairwise.imp (fun {a b} ab x ex y ey=>?_) List.pairwise_lt_range;obtain⟨_,_,rfl⟩:=map_eq_some_iff.mp ex;obtain⟨_,_,rfl⟩:=map_eq_some_iff.mp ey;exact ab
  ·exact uQ _ h
 ·exact uQ _ h
end
section
def kE(e:Int×bb):Int:=match e.2 with
 | .int n _=>n
 |_=>0
def OkE(e:Int×bb):Prop:=∃n t,e.2=.int n t/\e.1=hashInt n
theorem KP{e:Int×bb}{n:Int}{t:Tok}(h:e.2=.int n t):kE e=n:=by
 unfold kE;rw[h]
def SetI(led:Bool)(h:Heap)(a:Addr)(es:Array (Int×bb)):Prop:=∃(o:Obj) (ep:Nat) (t:jf),
 h.get? a=some o/\o.ExactSet/\o.data=.set es ep t/\(∀e∈es.toList,OkE e)/\(es.toList.map kE).Nodup/\es.size<100/\Tab led t es.size
theorem SetI.at{led:Bool}{h g:Heap}{a:Addr}{es:Array (Int×bb)}(q:SetI led h a es)(f:∀o,h.get? a=some o->g.get? a=some o):SetI led g a es:=by
 obtain⟨o,ep,t,h1,r⟩:=q;exact⟨o,ep,t,f o h1,r⟩
section
variable {prog:cy}{w:fq}{A:ff}{E:bb->bd->Prop}{s:bd}{led:Bool}
theorem HH{l:List (Int×bb)}(h:∀e∈l,OkE e):ElemsOf (rc prog w) l:=fun e m=>by
 obtain⟨n,t,e1,e2⟩:=h e m;refine⟨⟨n,?_,e2⟩,?_⟩
 ·rw[e1];simp[rc,px]
 ·rw[e1];rfl
theorem Cw{k:Int}{e:Int×bb}(h:OkE e):px k e.2=true↔kE e=k:=by
 obtain⟨n,t,e1,e2⟩:=h;rw[KP e1,e1];simp[px]
theorem xC{n:Nat}(h:n<100):n<scanBound:=by
 have:scanBound=4096:=rfl;omega
theorem BR{h:Heap}{a:Addr}{o:Obj}{es q:Array (Int×bb)}{ep:Nat}{t t':jf}(ho:h.get? a=some o)(z:o.ExactSet)(hd:o.data=.set es ep t)
  (h1:∀e∈q.toList,OkE e) (h2:(q.toList.map kE).Nodup) (h3:q.size<100) (h4:Tab led t' q.size):
  (h.update a (Obj.putSet q t')).get? a=some { o with data:=.set q (ep+1) t' }/\SetI led (h.update a (Obj.putSet q t')) a q:=by
 have hg:=ke (Obj.putSet q t') ho (by rw[putSet_of q t' hd];rfl);rw[putSet_of q t' hd]at hg;exact⟨hg,_,_,_,hg,z,rfl,h1,h2,h3,h4⟩
theorem DY{g:Bool->Sem Unit}(hg:∀(b:Bool) (s1:bd) (Q':Unit->bd->Prop),Q' () s1->bn (model prog w) A (g b) Q' E s1){a:Addr}{o:Obj}{es q:Array (Int×bb)}{ep:Nat}{t t2:jf}
  (ho:s.heap.get? a=some o) (hex:o.ExactSet) (hd:o.data=.set es ep t) (h1:∀e∈q.toList,OkE e) (h2:(q.toList.map kE).Nodup) (h3:q.size<100) (h4:Tab led t2 q.size) {wd:Bool}{R:Option Bool->bd->Prop}
  (h:∀h' es',ij a s.heap h'->SetI led h' a es'->es'.toList.Perm q.toList->R (some true) { s with heap:=h' }):
  bn (model prog w) A (do
    storeSet a q t2
    if (!wd&&t2.tooFull)=true then do
     g (relayAll t2 q (qg q.size)).2.2
     storeSet a (relayAll t2 q (qg q.size)).1 (relayAll t2 q (qg q.size)).2.1
     pure (some true)
    else pure (some true)) R E s:=by
 obtain⟨aa,ae⟩:=BR (led:=led) ho hex hd h1 h2 h3 h4;have ab:=jv s.heap a (Obj.putSet q t2);refine ba (wpAny_storeSet_of ho hd ?_ (fits_of_scanBound (xC h3)));split
 ·have hp:=relayAll_perm t2 q (qg q.size);have ht:=FP (led:=led) (t:=t2) (es:=q) h4.led (qg q.size);generalize relayAll t2 q (qg q.size)=Rl at hp ht ⊢;obtain⟨z,t3,gv⟩:=Rl;dsimp only at hp ht ⊢;have ez:z.size=q.size:=by
   have:=hp.length_eq
   rwa [fg,fg]at this
  have q1:∀e∈z.toList,OkE e:=fun e m=>h1 e (hp.mem_iff.mp m);have q2:(z.toList.map kE).Nodup:=(hp.map kE).nodup_iff.mpr h2;refine ba (hg _ _ _ ?_);refine ba (wpAny_storeSet_of aa rfl ?_ (fits_of_scanBound (xC yw)));obtain⟨_,ac⟩:=BR (led:=led) aa hex rfl q1 q2 yw ht;exact be (h _ _ (ab.trans (jv _ a _)) ac hp)
 ·exact be (h _ _ ab ae (rj _))
theorem KD{a:Addr}{es:Array (Int×bb)}{k:Int}{tk:Tok}{Q:Bool->bd->Prop}(hS:SetI led s.heap a es)(hr:es.size+1<100)
  (h:∀b h' q,ij a s.heap h'->SetI led h' a q->(∀x,x∈q.toList.map kE↔x∈es.toList.map kE\/x=k)->q.size<=es.size+1->Q b { s with heap:=h' }):
  bn (model prog w) A (setAddHashed a (.int k tk) (hashInt k)) Q E s:=by
 obtain⟨o,ep,t,ho,ab,hd,h1,h2,h3,h4⟩:=hS;have ac:ElemsOf (rc prog w) es.toList:=HH h1;have ae:(rc prog w).is k (.int k tk)=true:=by simp[rc,px]
 unfold setAddHashed setAddHashedIn;refine gu (ba (ng ho hd h4.fits ?_));dsimp only;rw[byScan_of (knd:=rc prog w) rfl (xC h3) ac];simp only[↓reduceIte];unfold setAddByScan;refine ba (ba (wpAny_rule (ba (wpAny_setScan_of (knd:=rc prog w) ae ho hd h4.fits ac ?_))));cases hr':List.findIdx? (fun e=>(rc prog w).is k e.2) es.toList with
 |some j=>
  dsimp only;obtain⟨hj,ag,_⟩:=List.findIdx?_eq_some_iff_getElem.mp hr';have hm:k∈es.toList.map kE:=mem_map.mpr ⟨es.toList[j],kz hj,(Cw (h1 _ (kz hj))).mp ag⟩;refine be (be ?_);have:=h false s.heap es (Heap.SameBut.refl a s.heap) ⟨o,ep,t,ho,ab,hd,h1,h2,h3,h4⟩ (fun x=>⟨.inl,fun z=>z.elim id fun e=>e▸hm⟩) yw;exact this
 |none=>
  dsimp only;have hm:k∉es.toList.map kE:=fun m=>by
   obtain⟨e,me,ek⟩:=mem_map.mp m;have:=List.findIdx?_eq_none_iff.mp hr' e me;rw[show (rc prog w).is k e.2=px k e.2 from rfl,(Cw (h1 e me)).mpr ek]at this;cases this
  have ah:∀(b:Bool) (s1:bd) (Q':Unit->bd->Prop),Q' () s1->bn (model prog w) A (match b with|true=>rule "set.scan.the-table-gave-way" | false=>pure ()) Q' E s1:=
   fun b s1 Q' hq=>by cases b<;>first|exact be hq|exact wpAny_rule hq
  have hp:=layNew_perm t es (hashInt k) (.int k tk);have ht:=GU (led:=led) (es:=es) h4 (hashInt k) (.int k tk);generalize layNew t es (hashInt k) (.int k tk)=L at hp ht ⊢;obtain⟨aa,t1,wd,gv⟩:=L;dsimp only at hp ht ⊢;rw[toList_push]at hp;have ez:aa.size=es.size+1:=by
   have:=hp.length_eq
   rwa [fg,bv,fg,fi]at this
  have kk:kE (hashInt k,qi k tk)=k:=rfl;have q1:∀e∈aa.toList,OkE e:=fun e m=>by
   rcases mem_append.mp (hp.mem_iff.mp m)with m|m
   ·exact h1 e m
   ·rw[mem_singleton.mp m];exact⟨k,tk,rfl,rfl⟩
  have af:(aa.toList.map kE).Perm (es.toList.map kE++[k]):=by
   have:=hp.map kE
   rwa [fm,ix,kk]at this
  have q2:(aa.toList.map kE).Nodup:=by
   rw[af.nodup_iff,nodup_append];exact⟨h2,yv,fun x mx y my e=>by rw[mem_singleton.mp my]at e;rw[e]at mx;exact hm mx⟩
  have fin:∀h' q,ij a s.heap h'->SetI led h' a q->q.toList.Perm aa.toList->Q true { s with heap:=h' }:=fun h' q sb S' p=>
   h true h' q sb S' (fun x=>by
    rw[((p.map kE).trans af).mem_iff,oj,ni]) (by
    have:=p.length_eq;rw[fg,fg]at this;omega)
  refine ba (ah _ _ _ ?_);split
  ·refine ba ?_;show bn _ _ (pure true) _ _ _;refine be ?_;refine DY (led:=led) (fun b s1 Q' hq=>by cases b<;>first|exact be hq|exact wpAny_rule hq) ho ab hd q1 q2 yw ht fun h' q sb S' p=>?_;dsimp only;exact be (fin h' q sb S' p)
  ·refine ba (be ?_);simp only[↓reduceIte];refine DY (led:=led) (fun b s1 Q' hq=>by cases b<;>first|exact be hq|exact wpAny_rule hq) ho ab hd q1 q2 yw ht fun h' q sb S' p=>?_;dsimp only;exact be (fin h' q sb S' p)
theorem LP{a:Addr}{es:Array (Int×bb)}{k:Int}{tk:Tok}{Q:Bool->bd->Prop}(hS:SetI led s.heap a es)(hr:es.size+1<100)
  (h:∀b h' es',ij a s.heap h'->SetI led h' a es'->(∀x,x∈es'.toList.map kE↔x∈es.toList.map kE\/x=k)->es'.size<=es.size+1->Q b { s with heap:=h',toks:=s.toks+1 }):
  bn (model prog w) A (setAdd a (.int k tk)) Q E s:=by
 unfold setAdd;refine gu (ba ((rc prog w).pyHash (k:=k) (by simp[rc,px]) ?_));exact KD (led:=led) (s:={ s with toks:=s.toks+1 }) hS hr h
end
end
section
namespace F4
theorem plain_update_loop:plainId "set.update.loop" = true:=by decide +kernel
theorem entry_update_loop:entryFor table "set.update.loop" = some pj.«set.update.loop»:=entryFor_of_fast (by kernel_rfl)
theorem typeCall_set_1(a:bb):checkTypeCall "set" ⟨[a],[]⟩=pure ():=by kernel_rfl
theorem newCall_set_1(a:bb):checkBuiltinCall "set.__new__" ⟨[.type "set",a],[]⟩=pure ():=by kernel_rfl
theorem sub_list_set:isSubtype (.type "list") (.type "set")=pure false:=by rw[isSubtype_type];kernel_rfl
theorem sub_list_frz:isSubtype (.type "list") (.type "frozenset")=pure false:=by rw[isSubtype_type];kernel_rfl
end F4
section
variable {prog:cy}{w:fq}{A:ff}{E:bb->bd->Prop}{s:bd}
theorem uD{Q:Bool->bd->Prop}(h:Q (w.params.followText "set-order") s):bn (model prog w) A setsByText Q E s:=fun _ _ _=>h
theorem LG{a:bb}{Q:bb->bd->Prop}(h:Q (.ref s.heap.objs.size) { s with heap:=s.heap.push { cls:=.type "set",dict:=none,data:=.set #[] 0 (.fresh 0 0 (!w.params.followText "set-order")) } }):
  kl (model prog w) A (.call (.builtin "set.__new__") ⟨[.type "set",a],[]⟩) (wants Q E) s:=by
 refine codeAny_of_tree ?_;show bn _ A.in1 (do checkBuiltinCall "set.__new__" ⟨[.type "set",a],[]⟩;again (.builtin "set.__new__" ⟨[.type "set",a],[]⟩)) _ _ s;refine ba (wpAny_of_eq (F4.newCall_set_1 a) (be ⟨ig F.plain_set_new _,gm F.entry_set_new ?_⟩));rw[fx F.plain_set_new _];unfold pj.«set.__new__» Builtin.Frozenset.newClass;have q:=sub_set_self;obtain⟨h0,gs,dr,tk,os⟩:=s;dsimp only
 wp_walk
 refine wpAny_askSetting (M:=model prog w) (be ?_);dsimp only;simp only[newObj];exact ba (wpAny_alloc (be (be h)))
theorem HP{M:Model}{self a:bb}{Q:Unit->bd->Prop}(hT:s.TypeIs self "set")(hQ:Q () s):bn M A (checkBuiltinCall "set.__init__" ⟨[self,a],[]⟩) Q E s:=by
 simp only[checkBuiltinCall,kind_set_init,split_set_init,sig_set_init];refine ba (kj hT sub_set_self ?_);simp only[Bool.not_true,iu,if_false];unfold Bind.checkArgs;dsimp only;refine ba (m:=Bind.printed "set" true _ _) (PyProof.Rows.printed_name dz ?_);refine ba (m:=Bind.printed "*" false _ _) (PyProof.Rows.printed_star (sig:=_) (self:=self) rfl hT fun q=>?_);have z:(Manifest.Receiver.self==Manifest.Receiver.none)=false:=by decide
 have h1:(if (Manifest.Receiver.self==Manifest.Receiver.none)=true then [self,a].length else [self,a].length-1)=1:=by simp[z]
 rw[h1];simp only[qr];have hc:Bind.check ⟨.positional,"set","*",.self,[⟨"iterable",.posOnly,false⟩]⟩ "set" q 1 []=pure ():=by
  have aa:(Manifest.ParamKind.posOnly==Manifest.ParamKind.posOnly)=true:=by decide
  simp[Bind.check,Bind.checkCount,Bind.isPositional,aa]
 rw[hc];exact be hQ
end
end
section
namespace F4
theorem slot_si_next:Slot "set_iterator" "__next__" "set_iterator.__next__":=.of (owner:="set_iterator") (n:="__next__") (by rw[typeLookup_type,builtinLookup_eq_fast];kernel_rfl) (by decide +kernel) (by decide +kernel) (by decide +kernel) (by first|exact .inl (by decide +kernel)|exact .inr (by decide +kernel)) (by rw[isSubtype_type];kernel_rfl)
theorem entry_si_next:entryFor table "set_iterator.__next__" = some pj.«set_iterator.__next__»:=entryFor_of_tree (by kernel_rfl)
theorem entry_set_iter:entryFor table "set.__iter__" = some pj.«frozenset.__iter__»:=entryFor_alias (id':="frozenset.__iter__") (by kernel_rfl) rfl (by decide +kernel) (by kernel_rfl)
theorem Kh:Manifest.owners.lookup (String.ofList ['r','o','t','a','r','e','t','i','_','t','e','s'].reverse)=some Manifest.sig_set_iterator:=by kernel_rfl
theorem args_si_next(a:bb):argsOk "set_iterator.__next__" ⟨[a],[]⟩:=by unfold argsOk;rw[signature?_of (id:="set_iterator.__next__") (n:=['_','_','t','x','e','n','_','_']) (o:=['r','o','t','a','r','e','t','i','_','t','e','s']) (by kernel_rfl) Kh];kernel_rfl
end F4
theorem xG{α:Type}:∀(l:List α) (i:Nat) (h:i<l.length),(l[i]::l.eraseIdx i).Perm l
 | [],i,h=>by simp at h
 |a::l,0,h=>rj _
 |a::l,i+1,h=>by
  show (l[i]'(by simpa using h)::a::l.eraseIdx i).Perm (a::l);exact(List.Perm.swap _ _ _).trans (List.Perm.cons _ (xG l i (by simpa using h)))
theorem Ba{α:Type}{next:Nat->Nat}:∀(fuel k:Nat) (left:List α) (out:Array α),left.length=fuel->(pickOrder.go next fuel k left out).toList.Perm (out.toList++left)
 | 0,k,left,out,h=>by
  have:left=[]:=List.length_eq_zero_iff.mp h;subst this;unfold pickOrder.go;simp
 |fuel+1,k,left,out,h=>by
  unfold pickOrder.go;have hl:next k % left.length<left.length:=Nat.mod_lt _ yw;rw[bi hl];dsimp only;refine(Ba fuel (k+1) _ _ (by rw[List.length_eraseIdx,cq hl];omega)).trans ?_;rw[toList_push,ja];refine List.Perm.append_left _ ?_;exact xG _ _ hl
theorem KO{α:Type}(next:Nat->Nat)(xs:Array α):(pickOrder next xs).toList.Perm xs.toList:=by
 unfold pickOrder;have:=Ba (next:=next) xs.size 0 xs.toList #[] (fg);simpa using this
section
variable {prog:cy}{w:fq}{A:ff}{E:bb->bd->Prop}{s:bd}
theorem DX{α:Type}{E:bb->bd->Prop}:∀(n:Nat) (xs:List α) (s:bd) (Q:List α->bd->Prop),xs.length=n->(∀d ys,ys.Perm xs->Q ys { s with drawn:=d })->bn (model prog w) A (drawOrder n xs) Q E s
 | 0,xs,s,Q,h,q=>by
  have:xs=[]:=List.length_eq_zero_iff.mp h;subst this;exact be (q s.drawn [] (rj _))
 |n+1,[],s,Q,h,q=>by cases h
 |n+1,x::xs,s,Q,h,q=>by
  show bn _ _ (choose .order (x::xs).length >>= _) _ _ _;refine ba (fun Γ p hΓ=>⟨yv,?_⟩);show bn (model prog w) A (match (x::xs)[w.draws .order (s.drawn.get .order) % (x::xs).length]? with|some y=>(do let r <- drawOrder n ((x::xs).eraseIdx (w.draws .order (s.drawn.get .order) % (x::xs).length));pure (y::r))|none=>unsupported "internal:drawOrder") Q E { s with drawn:=s.drawn.bump .order };generalize hi:w.draws .order (s.drawn.get .order) % (x::xs).length=i;have hl:i<(x::xs).length:=by rw[<- hi];exact Nat.mod_lt _ yv
  rw[bi hl];dsimp only;refine ba (DX n _ _ _ (by rw[List.length_eraseIdx,cq hl];omega) fun d ys p=>be ?_);exact q d _ ((List.Perm.cons _ p).trans (xG _ _ hl))
abbrev IsSI (h:Heap) (I S:Addr) (f:bb) (i n ep:Nat):Prop:=h.get? I=some { cls:=.type "set_iterator",dict:=none,data:=.fields #[f,jy i,.ref S,jy n,jy ep],slots:=#[] }
theorem hJ{I S:Addr}{f:bb}{i n ep:Nat}(h:IsSI s.heap I S f i n ep):s.TypeIs (.ref I) "set_iterator":=⟨_,h,rfl⟩
theorem ED(i:Nat):jy ((i:Int)+1)=jy ((i+1:Nat):Int):=by simp
theorem CD{Q:PySem.Fin->bd->Prop}(hh:A.handled=none)(h:∀h' e,(∀b o,s.heap.get? b=some o->h'.get? b=some o)->(∃o,h'.get? e=some o/\o.cls=.type "StopIteration")->E (.ref e) { s with heap:=h' }):
  bn (model prog w) A (newExc (.type "StopIteration") [] >>= fun x=>raiseNew x) Q E s:=by
 refine ba ?_;simp only[newExc,newTuple];refine ba (gh ?_ (by size_fits));refine ba (m:=firstArgMember (.type "StopIteration") _) (wpAny_of_eq (a:=pz) (by first|rfl|(simp only[firstArgMember];rfl)) ?_);refine gh ?_ (by size_fits);simp only[raiseNew];refine ba (wpAny_handled ?_);rw[hh];refine ba (be (wpAny_throw ?_));exact h _ _ (fun b o e=>bf _ (bf _ e)) ⟨_,cj _ rfl,rfl⟩
theorem Ji{I S:Addr}{o:Obj}{es:Array (Int×bb)}{t:jf}{slot nx i ep:Nat}{x:bb}{Q:Option bb->bd->Prop}(hI:IsSI s.heap I S (jy slot) i es.size ep)(hS:s.heap.get? S=some o)(hd:o.data=.set es ep t)(hf:t.fits es.size=true)
  (hn:∀(A:ff) (Q:Option (bb×Nat)->bd->Prop) (E:bb->bd->Prop) (s:bd),s.heap.get? S=some o->Q (some (x,nx)) s->bn (model prog w) A (setNext S slot i ep) Q E s)
  (hQ:∀h',IsSI h' I S (jy nx) (i+1) es.size ep->ij I s.heap h'->Q (some x) { s with heap:=h' }):bn (model prog w) A (ls (.ref I)) Q E s:=by
 unfold ls;refine ba (wpAny_attempt (ku (name:=mr "__next__") (hJ hI) F4.slot_si_next (jz F4.slot_si_next (hJ hI) F4.entry_si_next ?_ (F4.args_si_next _))));unfold pj.«set_iterator.__next__»;refine ba (m:=slotArgs "__next__" 0 _) (be ?_);refine ba (wpAny_fieldsOf hI rfl ?_);show bn _ _ (setEntries S >>= _) _ _ s;refine ba (nn hS hd hf ?_);rw[ck yv];show bn _ _ (setNext S ((slot:Int).toNat) ((i:Int).toNat) ((ep:Int).toNat) >>= _) _ _ s;rw[gg,gg,gg];refine ba (hn _ _ _ _ hS ?_);refine ba (lq hI yv fun g1 z1 b1=>?_);refine ba (lq (s:={ s with heap:=g1 }) z1 yv fun g2 z2 b2=>?_);refine be ⟨_,rfl,be (hQ g2 ?_ (b1.trans b2))⟩;rw[ED]at z2;exact z2
theorem G2{I S:Addr}{o:Obj}{es:Array (Int×bb)}{t:jf}{slot i ep:Nat}{Q:Option bb->bd->Prop}(hh:A.handled=none)(hI:IsSI s.heap I S (jy slot) i es.size ep)(hS:s.heap.get? S=some o)(hd:o.data=.set es ep t)(hf:t.fits es.size=true)
  (hn:∀(A:ff) (Q:Option (bb×Nat)->bd->Prop) (E:bb->bd->Prop) (s:bd),s.heap.get? S=some o->Q none s->bn (model prog w) A (setNext S slot i ep) Q E s)
  (hQ:∀h',(∀b o,b≠I->s.heap.get? b=some o->h'.get? b=some o)->Q none { s with heap:=h' }):bn (model prog w) A (ls (.ref I)) Q E s:=by
 unfold ls;refine ba (wpAny_attempt (ku (name:=mr "__next__") (hJ hI) F4.slot_si_next (jz F4.slot_si_next (hJ hI) F4.entry_si_next ?_ (F4.args_si_next _))));unfold pj.«set_iterator.__next__»;refine ba (m:=slotArgs "__next__" 0 _) (be ?_);refine ba (wpAny_fieldsOf hI rfl ?_);show bn _ _ (setEntries S >>= _) _ _ s;refine ba (nn hS hd hf ?_);rw[ck yv];show bn _ _ (setNext S ((slot:Int).toNat) ((i:Int).toNat) ((ep:Int).toNat) >>= _) _ _ s;rw[gg,gg,gg];refine ba (hn _ _ _ _ hS ?_);refine ba (lq hI yv fun g1 z1 b1=>?_);refine CD (s:={ s with heap:=g1 }) hh fun h' e kp ⟨oe,e1,e2⟩=>?_;refine ba (kj (T:="StopIteration") (b:=true) ⟨oe,e1,e2⟩ isSubtype_stop ?_);exact be (hQ _ fun b ob nb eb=>kp b ob (b1.extBut b ob nb eb))
theorem Ip{I S T:Addr}{o:Obj}{es:Array (Int×bb)}{t:jf}{i ep p:Nat}{ps:Array bb}{x:Int×bb}{Q:Option bb->bd->Prop}(hI:IsSI s.heap I S (.ref T) i es.size ep)(hS:s.heap.get? S=some o)(hd:o.data=.set es ep t)(hf:t.fits es.size=true)
  (hT:IsT s.heap T ps) (hp:ps[i]?=some (jy p)) (hx:es[p]?=some x)
  (hQ:∀h',IsSI h' I S (.ref T) (i+1) es.size ep->ij I s.heap h'->Q (some x.2) { s with heap:=h' }):bn (model prog w) A (ls (.ref I)) Q E s:=by
 unfold ls;refine ba (wpAny_attempt (ku (name:=mr "__next__") (hJ hI) F4.slot_si_next (jz F4.slot_si_next (hJ hI) F4.entry_si_next ?_ (F4.args_si_next _))));unfold pj.«set_iterator.__next__»;refine ba (m:=slotArgs "__next__" 0 _) (be ?_);refine ba (wpAny_fieldsOf hI rfl ?_);show bn _ _ (setEntries S >>= _) _ _ s;refine ba (nn hS hd hf ?_);rw[ck yv];show bn _ _ (seqItems? (.ref T) >>= _) _ _ s;refine ba (ba (wpAny_load hT (be ?_)));show bn _ _ (match ps[(i:Int).toNat]? with|some (qi place _)=>_|some _=>_|none=>_) _ _ s;rw[gg,hp];show bn _ _ (setNextDrawn S ((p:Int).toNat) ((ep:Int).toNat) >>= _) _ _ s;rw[gg,gg];unfold setNextDrawn;refine ba (ba (ng hS hd hf ?_));dsimp only;rw[ck yv,hx];refine be ?_;refine ba (lq hI yv fun g1 z1 b1=>?_);refine be ⟨_,rfl,be (hQ g1 ?_ b1)⟩;rw[ED]at z1;exact z1
theorem K2{I S T:Addr}{o:Obj}{es:Array (Int×bb)}{t:jf}{i ep:Nat}{ps:Array bb}{Q:Option bb->bd->Prop}(hh:A.handled=none)(hI:IsSI s.heap I S (.ref T) i es.size ep)(hS:s.heap.get? S=some o)(hd:o.data=.set es ep t)(hf:t.fits es.size=true)
  (hT:IsT s.heap T ps) (hp:ps[i]?=none)
  (hQ:∀h',(∀b o,b≠I->s.heap.get? b=some o->h'.get? b=some o)->Q none { s with heap:=h' }):bn (model prog w) A (ls (.ref I)) Q E s:=by
 unfold ls;refine ba (wpAny_attempt (ku (name:=mr "__next__") (hJ hI) F4.slot_si_next (jz F4.slot_si_next (hJ hI) F4.entry_si_next ?_ (F4.args_si_next _))));unfold pj.«set_iterator.__next__»;refine ba (m:=slotArgs "__next__" 0 _) (be ?_);refine ba (wpAny_fieldsOf hI rfl ?_);show bn _ _ (setEntries S >>= _) _ _ s;refine ba (nn hS hd hf ?_);rw[ck yv];show bn _ _ (seqItems? (.ref T) >>= _) _ _ s;refine ba (ba (wpAny_load hT (be ?_)));show bn _ _ (match ps[(i:Int).toNat]? with|some (qi place _)=>_|some _=>_|none=>_) _ _ s;rw[gg,hp];refine ba (lq hI yv fun g1 z1 b1=>?_);refine ba (lq (s:={ s with heap:=g1 }) z1 yv fun g2 z2 b2=>?_);refine CD (s:={ s with heap:=g2 }) hh fun h' e kp ⟨oe,e1,e2⟩=>?_;refine ba (kj (T:="StopIteration") (b:=true) ⟨oe,e1,e2⟩ isSubtype_stop ?_);exact be (hQ _ fun b ob nb eb=>kp b ob (b2.extBut b ob nb (b1.extBut b ob nb eb)))
end
end
section
section
variable {prog:cy}{w:fq}{A:ff}{E:bb->bd->Prop}{s:bd}
theorem vA{α:Type}{M:Model}{c:Prop}[Decidable c]{a b:Sem α}{Q:α->bd->Prop}(h:¬ c)(q:bn M A b Q E s):bn M A (if c then a else b) Q E s:=by
 rw[ck h];exact q
theorem wE{α:Type}{M:Model}{c:Prop}[Decidable c]{a b:Sem α}{Q:α->bd->Prop}(h:c)(q:bn M A a Q E s):bn M A (if c then a else b) Q E s:=by
 rw[cq h];exact q
theorem EM{S:Addr}{o:Obj}{es:Array (Int×bb)}{t:jf}{slot i ep:Nat}{Q:Option (bb×Nat)->bd->Prop}(hS:s.heap.get? S=some o)(hd:o.data=.set es ep t)(hf:t.fits es.size=true)(hb:w.params.followText "set-order" = true)
  (h:Q ((pickOrder (w.params.setOrder S ep) es)[i]?.map fun e=>(e.2,slot)) s):bn (model prog w) A (setNext S slot i ep) Q E s:=by
 unfold setNext;refine ba (ng hS hd hf (ba (uD ?_)));rw[hb];dsimp only;rw[cq rfl,ck yv];refine ba ?_;unfold setWalk;refine ba (ng hS hd hf (ba (uD ?_)));rw[hb,cq rfl];exact ba (wpAny_askSetting (be (be h)))
theorem Dq{S:Addr}{o:Obj}{es:Array (Int×bb)}{t:jf}{slot i ep:Nat}{Q:Option (bb×Nat)->bd->Prop}(hS:s.heap.get? S=some o)(hd:o.data=.set es ep t)(hf:t.fits es.size=true)(hb:w.params.followText "set-order" = false)
  (hdr:(!t.plain&&decide (es.size>1))=false) (hl:t.led=true) (hi:li t.place slot=i)
  (h:Q (match es[i]?,t.place[i]? with|some (_,x),some j=>some (x,j+1)|_,_=>none) s):bn (model prog w) A (setNext S slot i ep) Q E s:=by
 unfold setNext;refine ba (ng hS hd hf (ba (uD ?_)));rw[hb];dsimp only;rw[ck yv];refine vA (show ¬((!t.plain&&decide (es.size>1))=true) by rw[hdr];simp) ?_;refine ba ?_;show bn _ _ (if (!t.led&&!es.isEmpty)=true then unsupported "set:maker-not-led" else pure ()) _ _ s;rw[ck (by rw[hl];simp)];refine be ?_;rw[hi];exact be h
structure Wk(prog:cy)(w:fq)(A:ff)(I:Addr)(fp:List Addr)(vs:List bb)(St:Nat->Heap->Prop):Prop where
 mem:I∈fp
 frame:∀i h h',St i h->(∀b∈fp,∀o,h.get? b=some o->h'.get? b=some o)->St i h'
 item:∀i v (s:bd) (Q:Option bb->bd->Prop) (E:bb->bd->Prop),vs[i]?=some v->St i s.heap->(∀h',St (i+1) h'->(∀b o,b≠I->s.heap.get? b=some o->h'.get? b=some o)->Q (some v) { s with heap:=h' })->bn (model prog w) A (ls (.ref I)) Q E s
 done:∀(s:bd) (Q:Option bb->bd->Prop) (E:bb->bd->Prop),St vs.length s.heap->(∀h',(∀b o,b≠I->s.heap.get? b=some o->h'.get? b=some o)->Q none { s with heap:=h' })->bn (model prog w) A (ls (.ref I)) Q E s
theorem Ks{R:Result->bd->Prop}{I:Addr}{fp:List Addr}{vs:List bb}{St:Nat->Heap->Prop}(W:Wk prog w A.in1 I fp vs St)(hn:vs.length<=1000)(S:Addr)(ab:S∉fp)(res:bb):
  ∀(m i:Nat) (s:bd) (acc:Array bb) (c:Nat),vs.length-i=m->i<=vs.length->St i s.heap->s.heap.get? S=some (oo "list" acc c)->acc.toList=vs.take i ->
  (∀h' c',(∀b o,b≠S->b≠I->s.heap.get? b=some o->h'.get? b=some o)->h'.get? S=some (oo "list" vs.toArray c')->R (.ok (.ret res)) { s with heap:=h' }) ->
  kl (model prog w) A (.builtin "list.extend.loop" ⟨[.ref S,.ref I,res],[]⟩) R s:=by
 have aa:S≠I:=fun e=>ab (e▸W.mem);intro m;induction m with
 |zero=>
  intro i s acc c hm hi st hS ha hR;obtain rfl:i=vs.length:=yw
  refine gm F.entry_extend_loop ?_;rw[fx nl _];show bn _ A.in1 (ls (.ref I) >>= _) _ _ s;refine ba (W.done s _ _ st fun h' kp=>be (hR h' c (fun b o _ nI e=>kp b o nI e) ?_));have:acc=vs.toArray:=by
   rw[ld]at ha;rw[<- ha]
  rw[<- this];exact kp S _ aa hS
 |succ m ih=>
  intro i s acc c hm hi st hS ha hR;have q:i<vs.length:=yw
  refine gm F.entry_extend_loop ?_;rw[fx nl _];show bn _ A.in1 (ls (.ref I) >>= _) _ _ s;refine ba (W.item i vs[i] s _ _ (bi q) st fun h' ae kp=>?_);have z:=kp S _ aa hS;have sz:acc.size=i:=by rw[<- fg,ha,gz];omega
  show bn _ A.in1 (updateSeq S (·.push vs[i]) >>= _) _ _ _;refine ba (jm (s:={ s with heap:=h' }) z rfl (be ⟨ig nl _,ih (i+1) _ (acc.push vs[i]) _ yw q (W.frame _ h' _ ae fun b hb o e=>?_) (ke _ z rfl) ?_ fun h'' c' ac hS''=>?_⟩)
   (by rw[sz,ko];omega) (by show (acc.push vs[i]).size<=_;rw[Array.size_push,sz,ko];omega))
  ·exact(gp _ _ (fun h:S=b=>ab (by rw[h];exact hb))).trans e
  ·rw[toList_push,ha,List.take_succ_eq_append_getElem q]
  ·exact hR h'' c' (fun b o nS nI e=>ac b o nS nI ((gp _ _ (fun h:S=b=>nS h.symm)).trans (kp b o nI e))) hS''
theorem Ei{I S:Addr}{o:Obj}{es:Array (Int×bb)}{t:jf}{ep:Nat}(hh:A.handled=none)(q:S≠I)(hd:o.data=.set es ep t)(hf:t.fits es.size=true)(us:List (Int×bb))(sl:Nat->Nat)
  (hn:∀i e,us[i]?=some e->∀(A:ff) (Q:Option (bb×Nat)->bd->Prop) (E:bb->bd->Prop) (s:bd),s.heap.get? S=some o->Q (some (e.2,sl (i+1))) s->bn (model prog w) A (setNext S (sl i) i ep) Q E s)
  (he:∀(A:ff) (Q:Option (bb×Nat)->bd->Prop) (E:bb->bd->Prop) (s:bd),s.heap.get? S=some o->Q none s->bn (model prog w) A (setNext S (sl us.length) us.length ep) Q E s):
  Wk prog w A I [I,S] (us.map (·.2)) (fun i h=>IsSI h I S (jy (sl i)) i es.size ep/\h.get? S=some o) where
 mem:=by simp
 frame:=fun i h h' ⟨a,b⟩ k=>⟨k I yv _ a,k S yv _ b⟩
 item:=fun i v s Q E hv ⟨a,b⟩ hQ=>by
  rw[fh]at hv;obtain⟨e,he,rfl⟩:=map_eq_some_iff.mp hv;exact Ji a b hd hf (hn i e he) fun h' z sb=>hQ h' ⟨z,sb.extBut S _ q b⟩ fun b' o' nb e=>sb.extBut b' o' nb e
 done:=fun s Q E ⟨a,b⟩ hQ=>by
  rw[bq]at a;exact G2 hh a b hd hf he fun h' kp=>hQ h' kp
theorem Hx{I S T:Addr}{o:Obj}{es:Array (Int×bb)}{t:jf}{ep:Nat}(hh:A.handled=none)(aa:S≠I)(ab:T≠I)(hd:o.data=.set es ep t)(hf:t.fits es.size=true)(ps:List Nat)(hp:∀p∈ps,p<es.size):
  Wk prog w A I [I,S,T] (ps.map fun p=>(es.getD p (0,.none)).2) (fun i h=>IsSI h I S (.ref T) i es.size ep/\h.get? S=some o/\IsT h T (ps.map fun p:Nat=>jy p).toArray) where
 mem:=by simp
 frame:=fun i h h' ⟨a,b,c⟩ k=>⟨k I yv _ a,k S yv _ b,k T yv _ c⟩
 item:=fun i v s Q E hv ⟨a,b,c⟩ hQ=>by
  rw[fh]at hv;obtain⟨p,q,rfl⟩:=map_eq_some_iff.mp hv;have lp:=hp p (bw q);have ee:es[p]?=some (es.getD p (0,.none)):=by simp[Array.getD,lp]
  refine Ip a b hd hf c (p:=p) (by simp[q]) ee fun h' z sb=>hQ h' ⟨z,sb.extBut S _ aa b,sb.extBut T _ ab c⟩ fun b' o' nb e=>sb.extBut b' o' nb e
 done:=fun s Q E ⟨a,b,c⟩ hQ=>by
  rw[bq]at a;exact K2 hh a b hd hf c yv fun h' kp=>hQ h' kp
end
end
section
def kY(t:jf):Nat->Nat
 | 0=>0
 |i+1=>t.place.getD i 0+1
theorem CM{t:jf}(h:Rise t.place):∀i,i<=t.place.size->li t.place (kY t i)=i
 | 0,_=>Dj (bel h) ⟨ji _,fun _ _ z=>absurd z (Nat.not_lt_zero _),fun _ _ _ _=>ji _⟩
 |i+1,hi=>by
  have il:i<t.place.size:=yw
  have e:=je il;have eg:kY t (i+1)=t.place[i]+1:=by simp[kY,Array.getD,il]
  rw[eg];refine Dj (bel h) ⟨hi,fun k x hk ek=>?_,fun k x hk ek=>?_⟩
  ·by_cases z:k=i
   ·subst z;rw[e]at ek;cases ek;omega
   ·have:=h.at (show k<i by omega) ek e;omega
  ·have:=h.at (show i<k by omega) e ek;omega
theorem HS{t:jf}{n:Nat}(h:t.fits n=true):t.place.size=n:=by
 unfold SetTable.fits at h;rw[fu]at h;simpa using h.1
section
variable {prog:cy}{w:fq}{A:ff}{E:bb->bd->Prop}{s:bd}
theorem L7{S:Addr}{o:Obj}{es:Array (Int×bb)}{t:jf}{ep:Nat}{Q:bb->bd->Prop}(hS:s.heap.get? S=some o)(hx:o.ExactSet)(hd:o.data=.set es ep t)(tb:Tab (!w.params.followText "set-order") t es.size)(hz:es.size<100)
  (h:∀I h' d fp us St,s.heap.objs.size<=I->(∀b∈fp,b=S\/s.heap.objs.size<=b)->(∀b o,s.heap.get? b=some o->h'.get? b=some o)->us.Perm (es.toList.map (·.2))->(∀A':ff,A'.handled=none->Wk prog w A' I fp us St)->St 0 h'->Q (.ref I) { s with heap:=h',drawn:=d }):
  bn (model prog w) A (pyIter (.ref S)) Q E s:=by
 have ty:s.TypeIs (.ref S) "set":=⟨o,hS,hx.1⟩;have lt:=dw hS;have ps:=HS tb.fits;refine wpAny_pyIter_slot ty F.slot_set_iter (jz F.slot_set_iter ty F4.entry_set_iter ?_ (F.args_set_iter_1 _));unfold pj.«frozenset.__iter__»;refine ba (m:=Builtin.Frozenset.slot0 "__iter__" _) (be ?_);refine ba (ba (nn hS hd tb.fits (be ?_)));unfold setDrawn;refine ba ?_;refine ba (ng hS hd tb.fits (ba (uD (be ?_))));show bn _ _ (if (!w.params.followText "set-order" && (!t.plain&&decide (es.size>1)))=true then _ else _) _ _ s;cases hb:w.params.followText "set-order" with
 |true=>
  refine vA yv (ba (be ?_));refine ba (wpAny_setEpoch_of hS hd tb.fits ?_);refine ba (gh (be ⟨_,rfl,"set_iterator",_,⟨_,cj _ rfl,rfl⟩,F4.slot_si_next.lookup,?_⟩));have hp:=KO (w.params.setOrder S ep) es;refine h _ _ s.drawn [s.heap.objs.size,S] ((pickOrder (w.params.setOrder S ep) es).toList.map (·.2)) _ (cz _) (fun b z=>?_) (fun b o e=>bf _ e) (hp.map _)
   (fun A' hh=>Ei hh (fk lt) hd tb.fits (pickOrder (w.params.setOrder S ep) es).toList (fun _=>0) (fun i e hi A Q E s hS q=>EM hS hd tb.fits hb (by rw[ox]at hi;rw[hi];exact q)) fun A Q E s hS q=>EM hS hd tb.fits hb (by rw[fg,Array.getElem?_eq_none (cz _)];exact q))
   ⟨cj _ rfl,bf _ hS⟩
  simp only[jd,gq,or_false]at z;exact z.elim (fun e=>.inr (le_of_eq e.symm)) .inl
 |false=>
  have hl:t.led=true:=by rw[tb.led,hb];rfl
  cases hdr:(!t.plain&&decide (es.size>1))with
  |false=>
   refine vA yv (ba (be ?_));refine ba (wpAny_setEpoch_of hS hd tb.fits ?_);refine ba (gh (be ⟨_,rfl,"set_iterator",_,⟨_,cj _ rfl,rfl⟩,F4.slot_si_next.lookup,?_⟩));refine h _ _ s.drawn [s.heap.objs.size,S] (es.toList.map (·.2)) _ (cz _) (fun b z=>?_) (fun b o e=>bf _ e) (rj _)
    (fun A' hh=>Ei hh (fk lt) hd tb.fits es.toList (kY t) (fun i e hi A Q E s hS q=>Dq (i:=i) hS hd tb.fits hb hdr hl (CM tb.rise i ?_) ?_) fun A Q E s hS q=>Dq hS hd tb.fits hb hdr hl (CM tb.rise _ (by rw[fg];omega)) (by rw[fg,Array.getElem?_eq_none (cz _)];exact q))
    ⟨cj _ rfl,bf _ hS⟩
   ·simp only[jd,gq,or_false]at z;exact z.elim (fun e=>.inr (le_of_eq e.symm)) .inl
   ·have:=(List.getElem?_eq_some_iff.mp hi).1;rw[fg]at this;omega
   ·have il:=(List.getElem?_eq_some_iff.mp hi).1;rw[fg]at il;rw[ox]at hi;have ip:i<t.place.size:=yw
    rw[hi,je ip];have:kY t (i+1)=t.place[i]+1:=by simp[kY,Array.getD,ip]
    rw[this]at q;exact q
  |true=>
   refine wE yv ?_;refine ba (DX es.size (dm es.size) s _ yv fun d ys hp=>ba (wpAny_newTuple ?_ ?_))
   ·have aa:(s.heap.push { cls:=.type "tuple",data:=.seq (ys.map fun i:Nat=>jy i).toArray }).get? S=some o:=bf _ hS;refine ba (wpAny_setEpoch_of (s:={ s with heap:=s.heap.push { cls:=.type "tuple",data:=.seq (ys.map fun i:Nat=>jy i).toArray },drawn:=d }) aa hd tb.fits ?_);refine ba (gh (be ⟨_,rfl,"set_iterator",_,⟨_,cj _ rfl,rfl⟩,F4.slot_si_next.lookup,?_⟩));have sz:(s.heap.push { cls:=.type "tuple",data:=.seq (ys.map fun i:Nat=>jy i).toArray }).objs.size=s.heap.objs.size+1:=size_push ..;refine h _ _ d [(s.heap.push { cls:=.type "tuple",data:=.seq (ys.map fun i:Nat=>jy i).toArray }).objs.size,S,s.heap.objs.size] (ys.map fun p=>(es.getD p (0,.none)).2) _ (by rw[sz];exact le_succ _) (fun b z=>?_) (fun b o e=>bf _ (bf _ e)) ?_
     (fun A' hh=>Hx hh ?_ ?_ hd tb.fits ys fun p m=>?_)
     ⟨cj _ rfl,bf _ aa,bf _ (cj _ rfl)⟩
    ·simp only[jd,gq,or_false]at z;rcases z with e|e|e
     ·exact .inr (by rw[e,sz];exact le_succ _)
     ·exact .inl e
     ·exact .inr (le_of_eq e.symm)
    ·refine(hp.map _).trans ?_;have:(dm es.size).map (fun p=>(es.getD p (0,.none)).2)=es.toList.map (·.2):=by
      refine ext_getElem yv fun i h1 h2=>?_;have hi:i<es.size:=by simpa using h1
      simp[Array.getD,hi]
     rw[this]
    ·rw[sz];exact fk (qo lt)
    ·rw[sz];exact fk (lt_succ_self _)
    ·exact mem_range.mp (hp.mem_iff.mp m)
   ·have:=hp.length_eq;rw[on]at this;rw[bq,ko];omega
end
end
section
namespace F4
theorem len_set:typeLookup (.type "set") "__len__" = pure (some (.builtin "set.__len__")):=by rw[typeLookup_type,builtinLookup_eq_fast];kernel_rfl
end F4
section
variable {prog:cy}{w:fq}{A:ff}{E:bb->bd->Prop}{s:bd}
theorem Kp{L:Addr}{c:Nat}{Q:Unit->bd->Prop}(hL:s.heap.get? L=some (oo "list" #[] c))(h:∀h' c',ij L s.heap h'->h'.get? L=some (oo "list" #[] c')->Q () { s with heap:=h' }):
  bn (model prog w) A (Builtin.List.listTouch (.ref L)) Q E s:=by
 unfold Builtin.List.listTouch;have g1:=get?_update_seq hL (fun xs=>xs.push .none);refine ba (listUpdate_at hL rfl ?_ (ji _) (by show (#[]:Array bb).size+1<=_;simp));have g2:=get?_update_seq g1 (fun xs=>xs.pop);refine listUpdate_at (s:={ s with heap:=s.heap.update L (gi fun xs=>xs.push .none) }) g1 rfl ?_ (by simp[ko]) yv;exact h _ _ ((jv ..).trans (jv ..)) g2
theorem KS{S:Addr}{o:Obj}{es:Array (Int×bb)}{t:jf}{ep:Nat}{Q:List bb->bd->Prop}(hh:A.handled=none)(hS:s.heap.get? S=some o)(hx:o.ExactSet)(hd:o.data=.set es ep t)(tb:Tab (!w.params.followText "set-order") t es.size)(hz:es.size<100)
  (h:∀h' d us,us.Perm (es.toList.map (·.2))->(∀b o,s.heap.get? b=some o->h'.get? b=some o)->Q us { s with heap:=h',drawn:=d }):bn (model prog w) A (collect (.ref S)) Q E s:=by
 have lt:=dw hS;unfold collect;refine ba (wpAny_runValue (gm F.entry_proto_collect ?_));rw[fx F.plain_proto_collect _];show bn _ A.in1 (newList [] >>= fun l=>again (.builtin "list.__iadd__" ⟨[l,.ref S],[]⟩)) _ _ s;refine ba (gh ?_);refine be ⟨ig F.plain_list_iadd _,gm F.entry_list_iadd ?_⟩;rw[fx F.plain_list_iadd _];have hL:(s.heap.push (oo "list" #[] 0)).get? s.heap.objs.size=some (oo "list" #[] 0):=cj _ rfl;have q:(s.heap.push (oo "list" #[] 0)).get? S=some o:=bf _ hS;have sz:(s.heap.push (oo "list" #[] 0)).objs.size=s.heap.objs.size+1:=size_push ..;show bn _ A.in1 (io (.ref s.heap.objs.size) (.ref S) (.ref s.heap.objs.size)) _ _ { s with heap:=s.heap.push (oo "list" #[] 0) };have ty:Shared.TypeIs { s with heap:=s.heap.push (oo "list" #[] 0) } (.ref S) "set":=⟨o,q,hx.1⟩;have sr:Builtin.List.listSameRef (.ref s.heap.objs.size) (.ref S)=false:=by simp[Builtin.List.listSameRef,ne_of_gt lt]
 unfold io;refine ba (wpAny_typeOf ty ?_);rw[ck (by rw[sr];decide)];refine ba (L7 (s:={ s with heap:=s.heap.push (oo "list" #[] 0) }) q hx hd tb hz fun I h' d fp us St hI ab kp hp W ae=>?_);have aa:Shared.TypeIs { s with heap:=h',drawn:=d } (.ref S) "set":=⟨o,kp S o q,hx.1⟩;refine ba (gu ?_);unfold Builtin.List.listLengthHint;refine ba (wpAny_specialOf aa F4.len_set ?_)
 (generalize hid:("set.__len__":String)=id0;(fail_if_success (clear hid id0));wp_delta;rw[show splitId id0=some ("set","__len__")from by subst hid;decide +kernel];subst hid)
 refine ba (kj (b:=true) aa sub_set_self ?_);refine vA dz ?_;refine wE (by decide +kernel) ?_;refine ba (wpAny_typeOf aa (be ?_));refine wE (by decide +kernel) ?_;refine ba (wpAny_rule ?_);have af:h'.get? s.heap.objs.size=some (oo "list" #[] 0):=kp _ _ hL;have nL:s.heap.objs.size∉fp:=fun m=>by
  rcases ab _ m with e|e
  ·exact absurd e (ne_of_gt lt)
  ·have e':s.heap.objs.size+1<=s.heap.objs.size:=by rw[<- sz];exact e
   omega
 refine ba (Kp (s:={ s with heap:=h',drawn:=d }) af fun h2 c2 sb ah=>?_);have W1:=W A.in1 hh;refine be ⟨ig nl _,Ks W1 (by rw[hp.length_eq,bq,fg];omega) _ nL _ _ 0 { s with heap:=h2,drawn:=d } #[] c2 rfl (ji _) (W1.frame 0 h' h2 ae fun b hb ob e=>sb.extBut b ob (fun z=>nL (z▸hb)) e) ah rfl fun h3 c3 ac ai=>?_⟩;refine ba (wpAny_load ai ?_);show bn _ _ (pure us.toArray.toList) _ _ _;rw[List.toList_toArray];refine be (h h3 d us hp fun b ob e=>?_);have lb:=dw e;refine ac b ob (fk lb) (fun z=>?_) (sb.extBut b ob (fk lb) (kp b ob (bf _ e)));rw[z]at lb;have ag:s.heap.objs.size+1<=I:=by rw[<- sz];exact hI
 exact absurd (lt_trans lb ag) (jx _)
theorem sU:∀(l m:List Int),l.Nodup->(∀x∈l,x∈m)->l.length<=m.length
 | [],m,_,_=>ji _
 |a::l,m,nd,h=>by
  obtain⟨n1,n2⟩:=nodup_cons.mp nd;have ma:=h a br;have:=sU l (m.erase a) n2 fun x mx=>(List.mem_erase_of_ne (show x≠a from fun e=>n1 (by rw[<- e];exact mx))).mpr (h x (bp _ mx));rw[List.length_erase_of_mem ma]at this;have:0<m.length:=List.length_pos_of_mem ma;rw[cw];omega
theorem CO:∀{us:List bb} (h:∀v∈us,∃n t,v=qi n t),∃ns,nj us ns/\ns=us.map fun v=>kE (0,v)
 | [],_=>⟨[],.nil,rfl⟩
 |v::us,h=>by
  obtain⟨n,t,rfl⟩:=h v br;obtain⟨ns,h1,h2⟩:=CO (us:=us) fun v m=>h v (bp _ m);exact⟨n::ns,.cons n t h1,by rw[h2];rfl⟩
end
end
section
theorem Inv.drw{X:Cx}{zi:List (Addr×Obj)}{σ:St}{H:Hp}{s:bd}(d:Drawn)(I:Inv X zi σ H s):Inv X zi σ H { s with drawn:=d } :=
 I.call (h':=s.heap) (g':=s.gens) (t':=s.toks) (ch:=[]) Un.refl I.hok I.bare (fun _ z=>nomatch z)
theorem IR:gn "set" = some (.type "set"):=by decide +kernel
theorem Cb:∀{vs:List bb}{ns:List Int},nj vs ns->∀(i:Nat) v,vs[i]?=some v->∃tk,v=.int (ns.getD i 0) tk
 |_,_,.nil,i,v,h=>by simp at h
 |_,_,.cons n t h,0,v,e=>⟨t,by simpa using e.symm⟩
 |_,_,.cons n t h,i+1,v,e=>by
  have:=Cb h i v (by simpa using e);simpa using this
theorem Bu:∀{vs:List bb}{ns:List Int},nj vs ns->vs.length=ns.length
 |_,_,.nil=>rfl
 |_,_,.cons n t h=>by simp[Bu h]
end
section
theorem HOk.stays{P:cy}{w:fq}{H:Hp}{h h':Heap}(x:HOk P w H h)(k:∀b u,H b=some u->∀o,h.get? b=some o->h'.get? b=some o):HOk P w H h':=fun a o e=>
 (x a o e).stay (fun b u hb q=>by
  rcases hb with rfl|hb
  ·exact k _ _ e _ q
  ·exact k _ _ hb _ q) (fun _ q=>q) fun _ _ q=>q
end
end L2
namespace L2
open PySem PySem.Spec PyProof.Rows
section
abbrev EXD:=Addr->List (Str×bc)->Prop
abbrev PX:=List XV->Sto->RX->EXD->Prop
def CnX(h o:List Addr)(H:Hp)(EX:EXD)(E:XK):Prop:=∀o' H' S' C a fs,Ex o H o' H'->RepS h o' H' S'->HasE (vx h o' H') C fs (.ref a)->EX C fs->E (.ref C) (some a) H'
theorem CnX.pre{h o o':List Addr}{H H':Hp}{EX:EXD}{E:XK}(c:CnX h o H EX E)(e:Ex o H o' H'):CnX h o' H' EX E:=fun o2 H2 S2 C a fs e2=>c o2 H2 S2 C a fs (e.trans e2)
def RSx(E:XK)(EX:EXD)(t:TS)(dt:DS):Prop:=∀(h o:List Addr) (H:Hp) (δ:XE) (σ:St) (S:Sto) (En:DEnds) (D:Ends),RepE h o H δ σ->RepS h o H S->dt En δ S->EOk h o H En D->CnX h o H EX E->t D σ H
section
variable {E:XK}{EX:EXD}{t u:TS}{dt du:DS}
theorem Fw(ht:RS t dt):RSx E EX t dt:=fun h o H δ σ S En D he hs q c _=>ht h o H δ σ S En D he hs q c
def lX(EX:EXD)(C:Addr):DS:=fun _ _ _=>EX C []
end
end
end L2
namespace L2
open PySem PySem.Spec PyProof.Rows
section
def qH(EX:EXD)(C:Addr)(ns:List Str)(da:DA):DS:=fun _ δ S=>da δ S fun xs _=>∃ds,datas xs=some ds/\ds.length=ns.length/\EX C (ns.zip ds)
end
end L2
namespace L2
open PySem PySem.Spec PyProof.Rows
section
abbrev Phi:=List Addr->List Addr->Hp->Prop
class Stb (Φ:Phi):Prop where
 st:∀{h o o':List Addr}{H H':Hp},Φ h o H->Ex o H o' H'->Φ h o' H'
def REp(Φ:Phi)(t:TE)(dt:DE):Prop:=∀(h o:List Addr) (H:Hp) (δ:XE) (σ:St) (S:Sto) (R:RX) (Q:VK),RepE h o H δ σ->RepS h o H S->dt δ S R->Cn h o H R Q->Φ h o H->t σ H Q
def RTp(Φ:Phi)(t:TT)(dt:DT):Prop:=∀(h o:List Addr) (H:Hp) (δ:XE) (σ:St) (S:Sto) (R:Bool->Sto->Prop) (Q:Bool->Hp->Prop),RepE h o H δ σ->RepS h o H S->dt δ S R ->
 (∀o' H' S' b,Ex o H o' H'->RepS h o' H' S'->R b S'->Q b H')->Φ h o H->t σ H Q
def RAp(Φ:Phi)(t:TA)(dt:DA):Prop:=∀(h o:List Addr) (H:Hp) (δ:XE) (σ:St) (S:Sto) (R:List XV->Sto->Prop) (Q:List V->Hp->Prop),RepE h o H δ σ->RepS h o H S->dt δ S R ->
 (∀o' H' S' xs vs,Ex o H o' H'->RepS h o' H' S'->HasXs h o' H' xs vs->R xs S'->Q vs H')->Φ h o H->t σ H Q
def RIp(Φ:Phi)(w:TI)(di:DI):Prop:=∀(h o:List Addr) (H:Hp) (δ:XE) (σ:St) (S:Sto) (R:List bc->Sto->Prop) (Q:It->Hp->Prop),RepE h o H δ σ->RepS h o H S->di δ S R ->
 (∀o' H' S' ds J,Ex o H o' H'->RepS h o' H' S'->WalkX h o' H' J ds->R ds S'->Q J H')->Φ h o H->w σ H Q
section
variable {Φ:Phi} [Stb Φ] {ta tb te:TE}{da db de:DE}{tl:TA}{dl:DA}{tt tu:TT}{dt du:DT}
theorem zH(a:RE te de):REp Φ te de:=fun h o H δ σ S R Q he hs q c _=>a h o H δ σ S R Q he hs q c
theorem AX(a:RT tt dt):RTp Φ tt dt:=fun h o H δ σ S R Q he hs q c _=>a h o H δ σ S R Q he hs q c
theorem pW(a:RA tl dl):RAp Φ tl dl:=fun h o H δ σ S R Q he hs q c _=>a h o H δ σ S R Q he hs q c
theorem mP{w:TI}{di:DI}(a:RI w di):RIp Φ w di:=fun h o H δ σ S R Q he hs q c _=>a h o H δ σ S R Q he hs q c
theorem kO(ha:REp Φ ta da)(hb:RAp Φ tl dl):RAp Φ (eC ta tl) (zc da dl):=fun h o H δ σ S R Q he hs q c x=>
 ha h o H δ σ S _ _ he hs q (fun o1 H1 S1 y v e1 s1 x1 d1=>hb h o1 H1 δ σ S1 _ _ (he.mono e1) s1 d1 (fun o2 H2 S2 xs vs e2 s2 x2 d2=>
  c o2 H2 S2 (y::xs) (v::vs) (e1.trans e2) s2 ⟨v,vs,rfl,x1.mono e2,x2⟩ d2) (Stb.st x e1)) x
theorem Av(ha:REp Φ ta da):RTp Φ (j9 ta) (dB da):=fun h o H δ σ S R Q he hs q c w=>
 ha h o H δ σ S _ _ he hs q (fun o1 H1 S1 x v e1 s1 x1 d1=>by
  replace d1:=i6 d1;obtain⟨b,rfl,d1⟩:=d1;exact⟨b,f6 x1,c o1 H1 S1 b e1 s1 d1⟩) w
end
section
variable {E:XK}{EX:EXD}{ta tb te:TE}{da db de:DE}{tl:TA}{dl:DA}{tt tu:TT}{dt du:DT}
def mS(EX:EXD)(m:Nat)(q:PX)(da:DA):DE:=fun δ S R=>da δ S fun xs S1=>∃ds,datas xs=some ds/\ds.length=m/\q (ds.map XV.d) [] (ret0 S1 R) EX
end
def wW(N P:List Str)(sc:Scope):Bool:=decide (sc.kind=.function)&&!sc.isCoroutine&&!sc.isGenerator&&decide N.Nodup&&decide (N.take P.length=P)&&P.all (fun x=>decide (sc.names.lookup x=some .local)||decide (sc.names.lookup x=some .cell))&&sc.names.all fun y=>decide (y.2≠.free)
theorem fsc{N P:List Str}{sc:Scope}(h:wW N P sc=true):FnScope N P sc:=by
 simp only[wW,fu,decide_eq_true_eq,Bool.not_eq_true',kq,Bool.or_eq_true]at h;obtain⟨⟨⟨⟨⟨⟨h1,h2⟩,h3⟩,h4⟩,h5⟩,h6⟩,h7⟩:=h;exact⟨h1,h2,h3,h4,h5,h6,h7⟩
end
section
section
variable {κ α:Type} [DecidableEq κ]
def lkA(m:List (κ×α))(k:κ):Option α:=(m.find? fun p=>decide (p.1=k)).map (·.2)
def ptA(m:List (κ×α))(k:κ)(v:α):List (κ×α):=if (m.any fun p=>decide (p.1=k))=true then m.map (fun p=>if p.1=k then (p.1,v)else p)else m++[(k,v)]
def HasM(H:Hp):List (κ×bc)->List (κ×V)->Prop
 | [],m=>m=[]
 |p::r,m=>∃v m',m=(p.1,v)::m'/\Has H p.2 v/\HasM H r m'
theorem HasM.mono{H H':Hp}(s:Same H H'):∀{m:List (κ×bc)}{m':List (κ×V)},HasM H m m'->HasM H' m m'
 | [],_,q=>q
 |p::r,_,⟨v,t,e,q,l⟩=>⟨v,t,e,Has.mono s _ _ q,HasM.mono s l⟩
end
inductive KSg where
 |int|bool|many (s:KSg)|two (s t:KSg)
def KG:KSg->Type
 | .int=>Int
 | .bool=>Bool
 | .many s=>List (KG s)
 | .two s t=>KG s×KG t
instance decKG:(s:KSg)->DecidableEq (KG s)
 | .int=>inferInstanceAs (DecidableEq Int)
 | .bool=>inferInstanceAs (DecidableEq Bool)
 | .many s=>have:=decKG s;inferInstanceAs (DecidableEq (List (KG s)))
 | .two s t=>have:=decKG s;have:=decKG t;inferInstanceAs (DecidableEq (KG s×KG t))
def khash:(s:KSg)->KG s->Int
 | .int,i=>hashInt i
 | .bool,b=>reduceHash (match (show Bool from b)with|true=>1|false=>0)
 | .many s,ks=>reduceHash (jg (ks.map (khash s)))
 | .two s t,k=>reduceHash (jg [khash s k.1,khash t k.2])
def kdat:(g:KSg)->KG g->bc
 | .int,i=>.int i
 | .bool,b=>.bool b
 | .many g,ks=>.tuple (List.map (kdat g) ks)
 | .two g g',k=>.tuple [kdat g k.1,kdat g' k.2]
def PDict(g:KSg)(ob:Obj)(xs:List (KG g×Addr×bb)):Prop:=ob.ExactDict/\∃es ep,ob.data=.dict es ep/\es.toList=xs.map (fun x=>⟨khash g x.1,.ref x.2.1,x.2.2⟩)/\(xs.map (·.1)).Nodup
def PrG(G:Hp)(g:KSg):List (KG g×bc)->List (KG g×Addr×bb)->Prop
 | [],xs=>xs=[]
 |p::r,xs=>∃q t,xs=q::t/\q.1=p.1/\Has G (kdat g p.1) (.ref q.2.1)/\(∃v,Has G p.2 v/\RelV v q.2.2)/\PrG G g r t
theorem PrG.mono{G G':Hp}{g:KSg}(s:Same G G'):∀{m:List (KG g×bc)}{xs:List (KG g×Addr×bb)},PrG G g m xs->PrG G' g m xs
 | [],_,q=>q
 |p::r,_,⟨q,t,e,e1,h1,⟨v,h2,h3⟩,l⟩=>⟨q,t,e,e1,Has.mono s _ _ h1,⟨v,Has.mono s _ _ h2,h3⟩,PrG.mono s l⟩
inductive DD where
 |k (m:List (Key×bc))
 |t (m:List (List Key×bc))
 |g (g:KSg) (ob:Obj) (m:List (KG g×bc))
def DD.pairs:DD->List (bc×bc)
 | .k m=>m.map fun p=>(kD p.1,p.2)
 | .t m=>m.map fun p=>(.tuple (p.1.map kD),p.2)
 | .g sg _ m=>m.map fun p=>(kdat sg p.1,p.2)
def I0:bc->Option Key
 | .int i=>some (.inl i)
 | .str x=>some (.inr x)
 |_=>none
def DAt(G H:Hp)(a:Addr):DD->Prop
 | .k m=>∃m',H a=some (.dK m')/\HasM G m m'
 | .t m=>∃m',H a=some (.dT m')/\HasM G m m'
 | .g g ob m=>H a=some (obO a ob)/\(a==qv)=false/\∃xs,PDict g ob xs/\PrG G g m xs
theorem DAt.mono{G G' H H':Hp}{a:Addr}{D:DD}(s:Same G G')(e:∀u,H a=some u->H' a=some u)(q:DAt G H a D):DAt G' H' a D:=by
 cases D with
 |k m=>obtain⟨m',e1,l⟩:=q;exact⟨m',e _ e1,l.mono s⟩
 |t m=>obtain⟨m',e1,l⟩:=q;exact⟨m',e _ e1,l.mono s⟩
 |g g ob m=>obtain⟨e1,ha,xs,pd,l⟩:=q;exact⟨e _ e1,ha,xs,pd,l.mono s⟩
theorem DAt.mo{G H:Hp}{a:Addr}{D:DD}(q:DAt G H a D):∃u:MO,H a=some u.ho:=by
 cases D with
 |k m=>obtain⟨m',e1,l⟩:=q;exact⟨.k m',e1⟩
 |t m=>obtain⟨m',e1,l⟩:=q;exact⟨.t m',e1⟩
 |g g ob m=>exact⟨.x a ob,q.1⟩
abbrev DM:=List (Addr×DD)
def ad(M:DM):List Addr:=M.map (·.1)
structure RepM(h o:List Addr)(H:Hp)(M:DM):Prop where
 nd:(ad M).Nodup
 nh:∀a∈ad M,a∉h/\a∉o
 ct:∀a D,(a,D)∈M->DAt (vx (h++ad M) o H) H a D
section
variable {h o o':List Addr}{H H':Hp}{M:DM}{S:Sto}
theorem RepM.at(r:RepM h o H M){a:Addr}(m:a∈ad M):∃D,(a,D)∈M/\DAt (vx (h++ad M) o H) H a D:=by
 obtain⟨p,mp,e⟩:=mem_map.mp m;obtain⟨b,D⟩:=p;cases e;exact⟨D,mp,r.ct _ D mp⟩
theorem RepM.mono(r:RepM h o H M)(e:Ex o H o' H'):RepM h o' H' M:=by
 have k1:∀a∈ad M,∀u,H a=some u->a∉o'/\H' a=some u:=fun a m u z=>e.kp a u (r.nh a m).2 z;refine⟨r.nd,fun a m=>⟨(r.nh a m).1,?_⟩,fun a D m=>?_⟩
 ·obtain⟨D,_,q⟩:=r.at m;obtain⟨u,z⟩:=q.mo;exact(k1 a m _ z).1
 ·exact(r.ct a D m).mono e.vx fun u z=>(k1 a (mem_map.mpr ⟨_,m,rfl⟩) u z).2
theorem RepM.nil:RepM h o H []:=⟨pf,fun a m=>(by cases m),fun a D m=>(by cases m)⟩
def cV(M:DM)(a:Addr)(D:DD):DM:=M.map fun p=>if p.1=a then (a,D)else p
theorem fK{a:Addr}{D:DD}:∀{M:DM},ad (cV M a D)=ad M
 | []=>rfl
 |p::r=>by
  have z:=fK (a:=a) (D:=D) (M:=r);unfold ad cV at z ⊢;rw[ft,ft,ft,z];by_cases e:p.1=a<;>simp[e]
theorem uA{a:Addr}{u:HO}(m:a∈h):Same (vx h o H) (vx h o (upd H a u)):=fun b w e=>by
 obtain⟨z1,z2,z3⟩:=zP.mp e;exact zP.mpr ⟨z1,z2,by rw[zE (fun z=>z1 (by rw[z];exact m))];exact z3⟩
theorem HasX.view(s:Same (vx h o H) (vx h o H')):∀{x:XV}{v:V},HasX h o H x v->HasX h o H' x v
 | .d d,v,q=>Has.mono s d v q
 | .l k,v,q=>q
 | .o w,v,q=>q
 | .x C fs,v,q=>HasE.mono s q
 | .i C fs,v,q=>HasI.mono s q
 | .p k d,v,q=>HasLP.to s (fun _ z=>z) q
theorem RepE.view{δ:XE}{σ:St}(s:Same (vx h o H) (vx h o H'))(r:RepE h o H δ σ):RepE h o H' δ σ:=⟨r.len,fun i x e=>let ⟨v,e1,e2⟩:=r.get i x e;⟨v,e1,e2.view s⟩⟩
theorem RepS.hidden{a:Addr}{u:MO}(r:RepS h o H S)(m:a∈h):RepS h o (L2.upd H a u.ho) S where
 len:=r.len
 nd:=r.nd
 dis:=r.dis
 hal:=fun b mb=>by
  by_cases e:b=a
  ·subst e;exact⟨u,zK⟩
  ·obtain⟨w,z⟩:=r.hal b mb;exact⟨w,by rw[zE e];exact z⟩
 cont:=fun k b ds e1 e2=>by
  obtain⟨vs,e3,l⟩:=r.cont k b ds e1 e2;have ne:b≠a:=fun z=>r.dis b (bw e1) (z▸m);exact⟨vs,by rw[zE ne];exact e3,HasL.mono (uA m) _ _ l⟩
theorem RepM.put{a:Addr}{D D':DD}{u:MO}(r:RepM h o H M)(m:(a,D)∈M)(q:∀H',H' a=some u.ho->DAt (vx (h++ad M) o H) H' a D'):RepM h o (L2.upd H a u.ho) (cV M a D'):=by
 have ma:a∈ad M:=mem_map.mpr ⟨_,m,rfl⟩;refine⟨by rw[fK];exact r.nd,by rw[fK];exact r.nh,fun b D2 mb=>?_⟩;rw[fK];have sv:Same (vx (h++ad M) o H) (vx (h++ad M) o (L2.upd H a u.ho)):=uA (cp _ ma);obtain⟨p,mp,ep⟩:=mem_map.mp mb;by_cases e:p.1=a
 ·rw[cq e]at ep;cases ep;exact(q _ zK).mono sv fun _ z=>z
 ·rw[ck e]at ep;subst ep;exact(r.ct _ _ mp).mono sv fun w z=>by rw[zE e];exact z
theorem RepS.less{l:List Addr}(r:RepS (h++l) o H S):RepS h o H S where
 len:=r.len
 nd:=r.nd
 dis:=fun a ma z=>r.dis a ma (cu _ z)
 hal:=fun b mb=>r.hal b (cu _ mb)
 cont:=fun k b ds e1 e2=>by
  obtain⟨vs,e3,q⟩:=r.cont k b ds e1 e2;exact⟨vs,e3,HasL.mono (fun c u z=>let ⟨z1,z2,z3⟩:=zP.mp z;zP.mpr ⟨fun mm=>z1 (cu _ mm),z2,z3⟩) _ _ q⟩
theorem mZ{l:List Addr}:Same (vx (h++l) o H) (vx h o H):=fun c u z=>let ⟨z1,z2,z3⟩:=zP.mp z;zP.mpr ⟨fun mm=>z1 (cu _ mm),z2,z3⟩
theorem HasX.less{l:List Addr}:∀{x:XV}{v:V},HasX (h++l) o H x v->HasX h o H x v
 | .d d,v,q=>Has.mono mZ d v q
 | .l k,v,q=>q
 | .o w,v,q=>q
 | .x C fs,v,q=>HasE.mono mZ q
 | .i C fs,v,q=>HasI.mono mZ q
 | .p k d,v,q=>HasLP.to mZ (fun _ z=>z) q
end
end
section
structure DEndsM where
 nx:XE->Sto->DM->Prop
 rt:XV->Sto->DM->Prop
 bk:XE->Sto->DM->Prop:=fun _ _ _=>False
 ct:XE->Sto->DM->Prop:=fun _ _ _=>False
abbrev DSm:=DEndsM->XE->Sto->DM->Prop
def Fr(H:Hp)(M:DM):Prop:=∀a∈ad M,H a=none
def NxM(h o:List Addr)(H:Hp)(A:List Addr)(N:XE->Sto->DM->Prop)(Y:St->Hp->Prop):Prop:=∀o' H' δ' S' M' σ',Ex o H o' H'->ad M'=A->RepE (h++ad M') o' H' δ' σ'->RepS (h++ad M') o' H' S'->RepM h o' H' M'->N δ' S' M'->Y σ' H'
structure EOkM(h o:List Addr)(H:Hp)(A:List Addr)(E:DEndsM)(D:Ends):Prop where
 nx:NxM h o H A E.nx D.nx
 rt:∀o' H' S' M' x v,Ex o H o' H'->ad M'=A->RepS (h++ad M') o' H' S'->RepM h o' H' M'->HasX (h++ad M') o' H' x v->E.rt x S' M'->D.rt v H'
 bk:NxM h o H A E.bk D.bk
 ct:NxM h o H A E.ct D.ct
def RSm(E:XK)(EX:EXD)(t:TS)(dt:DSm):Prop:=∀(h o0:List Addr) (H0:Hp) (o:List Addr) (H:Hp) (δ:XE) (σ:St) (S:Sto) (M:DM) (En:DEndsM) (D:Ends),Ex o0 H0 o H->Fr H0 M->RepE (h++ad M) o H δ σ->RepS (h++ad M) o H S->RepM h o H M->dt En δ S M ->
 EOkM h o0 H0 (ad M) En D->CnX h o0 H0 EX E->t D σ H
theorem CnX.inn{E:XK}{EX:EXD}{h o0 o l:List Addr}{H0 H:Hp}(x:CnX h o0 H0 EX E)(e0:Ex o0 H0 o H):CnX (h++l) o H EX E:=fun o' H' S' C a fs e s' hE q=>x o' H' S' C a fs (e0.trans e) s'.less (HasE.mono mZ hE) q
def bU(dt:DS):DSm:=fun En δ S M=>dt { nx:=fun δ' S'=>En.nx δ' S' M,rt:=fun x S'=>En.rt x S' M,bk:=fun δ' S'=>En.bk δ' S' M,ct:=fun δ' S'=>En.ct δ' S' M } δ S
def bI(t u:DSm):DSm:=fun En δ S M=>t { En with nx:=u En } δ S M
def fQ(c:DM->DT)(t u:DSm):DSm:=fun En δ S M=>c M δ S fun b S1=>if b=true then t En δ S1 M else u En δ S1 M
def eY(e:DM->DE):DSm:=fun En δ S M=>e M δ S fun x S1=>En.rt x S1 M
def iE(g:DG)(b:DSm):List bc->DSm
 | [],E,δ,S,M=>E.nx δ S M
 |d::ds,E,δ,S,M=>g (.d d) δ S fun δ1 S1=>b { nx:=fun δ2 S2 M2=>iE g b ds E δ2 S2 M2,ct:=fun δ2 S2 M2=>iE g b ds E δ2 S2 M2,bk:=E.nx,rt:=E.rt } δ1 S1 M
def iU(i:DM->DI)(g:DG)(b:DSm):DSm:=fun En δ S M=>i M δ S fun ds S1=>iE g b ds En δ S1 M
def PhM(M:DM):Phi:=fun h' o H=>∃h,h'=h++ad M/\RepM h o H M
instance {M:DM}:Stb (PhM M):=⟨fun⟨h,e,r⟩ x=>⟨h,e,r.mono x⟩⟩
section
variable {E:XK}{EX:EXD}{t u:TS}{dt du:DSm}
theorem HK{ds:DS}(ht:RSx E EX t ds):RSm E EX t (bU ds):=fun h o0 H0 o H δ σ S M En D e0 fr he hs rm q c x=>
 ht (h++ad M) o H δ σ S _ D he hs q ⟨fun o' H' δ' S' σ' e aa z n=>c.nx o' H' δ' S' M σ' (e0.trans e) rfl aa z (rm.mono e) n,fun o' H' S' y v e z hy n=>c.rt o' H' S' M y v (e0.trans e) rfl z (rm.mono e) hy n,
  fun o' H' δ' S' σ' e aa z n=>c.bk o' H' δ' S' M σ' (e0.trans e) rfl aa z (rm.mono e) n,fun o' H' δ' S' σ' e aa z n=>c.ct o' H' δ' S' M σ' (e0.trans e) rfl aa z (rm.mono e) n⟩ (x.inn e0)
theorem dL{ds:DS}(ht:RS t ds):RSm E EX t (bU ds):=HK (Fw ht)
theorem b8(ht:RSm E EX t dt)(hu:RSm E EX u du):RSm E EX (cF t u) (bI dt du):=fun h o0 H0 o H δ σ S M En D e0 fr he hs rm q c x=>
 ht h o0 H0 o H δ σ S M _ _ e0 fr he hs rm q ⟨fun o1 H1 δ1 S1 M1 σ1 e1 ea z ab aa q1=>hu h o0 H0 o1 H1 δ1 σ1 S1 M1 En D e1 (by unfold Fr;rw[ea];exact fr) z ab aa q1 (by rw[ea];exact c) x,c.rt,c.bk,c.ct⟩ x
theorem uE{tc:TT}{dc:DM->DT}(hc:∀M,RTp (PhM M) tc (dc M))(ht:RSm E EX t dt)(hu:RSm E EX u du):RSm E EX (uM tc t u) (fQ dc dt du):=fun h o0 H0 o H δ σ S M En D e0 fr he hs rm q c x=>
 hc M (h++ad M) o H δ σ S _ _ he hs q (fun o1 H1 S1 b e1 s1 d1=>by
  cases b with
  |true=>exact eT (ht h o0 H0 o1 H1 δ σ S1 M En D (e0.trans e1) fr (he.mono e1) s1 (rm.mono e1) (by simpa using d1) c x)
  |false=>exact e7 (hu h o0 H0 o1 H1 δ σ S1 M En D (e0.trans e1) fr (he.mono e1) s1 (rm.mono e1) (by simpa using d1) c x)) ⟨h,rfl,rm⟩
theorem lN{te:TE}{de:DM->DE}(ha:∀M,REp (PhM M) te (de M)):RSm E EX (oU te) (eY de):=fun h o0 H0 o H δ σ S M En D e0 fr he hs rm q c x=>
 ha M (h++ad M) o H δ σ S _ _ he hs q (fun o1 H1 S1 y v e1 s1 x1 d1=>c.rt o1 H1 S1 M y v (e0.trans e1) rfl s1 (rm.mono e1) x1 d1) ⟨h,rfl,rm⟩
theorem HV{wi:TI}{g:TG}{tb:TS}{di:DM->DI}{dg:DG}{db:DSm}(hi:∀M,RIp (PhM M) wi (di M))(hg:RG g dg)(hb:RSm E EX tb db):RSm E EX (pR wi g tb) (iU di dg db):=fun h o0 H0 o H δ σ S M En D e0 fr he hs rm q c x=>
 hi M (h++ad M) o H δ σ S _ _ he hs q (fun o1 H1 S1 ds J e1 s1 wk d1=>by
  refine⟨fun i m σ2 H2=>m=ds.length-i/\i<=ds.length/\∃o2 δ2 S2 M2,Ex o0 H0 o2 H2/\ExH (h++ad M) o1 H1 o2 H2/\ad M2=ad M/\RepE (h++ad M) o2 H2 δ2 σ2/\RepS (h++ad M) o2 H2 S2/\RepM h o2 H2 M2/\iE dg db (ds.drop i) En δ2 S2 M2,
   ⟨ds.length,yv,ji _,o1,δ,S1,M,e0.trans e1,ExH.refl,rfl,he.mono e1,s1,rm.mono e1,d1⟩,?_⟩
  rintro i m σ2 H2 ⟨rfl,hi,o2,δ2,S2,M2,e2,x2,ea,ak,ah,ai,d2⟩;by_cases hlt:i<ds.length
  ·have ed:ds[i]?=some ds[i]:=bi hlt;rw[kr hlt]at d2;refine .inr ⟨wk.go i _ o2 H2 x2 ed,fun σ3 H3=>∃o3 δ3 S3 M3,Ex o0 H0 o3 H3/\ExH (h++ad M) o1 H1 o3 H3/\ad M3=ad M/\RepE (h++ad M) o3 H3 δ3 σ3/\RepS (h++ad M) o3 H3 S3/\RepM h o3 H3 M3/\iE dg db (ds.drop (i+1)) En δ3 S3 M3,fun σ3 H3 n=>⟨ds.length-(i+1),yw,rfl,hlt,n⟩,fun y H3 yy=>?_⟩;obtain⟨s3,hx⟩:=wk.yld i _ o2 H2 y H3 S2 x2 ah ed yy;have aj:Ex o2 H2 o2 H3:=Ex.of_same s3;refine hg (h++ad M) o2 H3 δ2 σ2 S2 (.d ds[i]) y _ _ (ak.mono aj) (ah.same s3) hx d2 fun o4 H4 δ4 S4 σ4 e4 ao al d4=>?_;have ae:Ex o2 H2 o4 H4:=aj.trans e4;have nM:∀b u,H0 b=some u->b∉ad M:=fun b u z mb=>by
    rw[fr b mb]at z;cases z
   have af:Ex o0 H0 o4 (fun b=>if b∈ad M then none else H4 b):=⟨(e2.trans ae).pre,fun b u nb z=>by
    obtain⟨z1,z2⟩:=(e2.trans ae).kp b u nb z;exact⟨z1,by show (if b∈ad M then none else H4 b)=some u;rw[ck (nM b u z)];exact z2⟩⟩
   have am:∀{o5 H5},Ex o4 (fun b=>if b∈ad M then none else H4 b) o5 H5->ExH (h++ad M) o4 H4 o5 H5:=fun e5=>⟨e5.pre,fun b u n1 n2 z=>e5.kp b u n2 (by show (if b∈ad M then none else H4 b)=some u;rw[ck (fun mb=>n1 (cp _ mb))];exact z)⟩;have ac:∀o5 H5 δ5 S5 M5 σ5,Ex o4 (fun b=>if b∈ad M then none else H4 b) o5 H5->ad M5=ad M2->RepE (h++ad M5) o5 H5 δ5 σ5->RepS (h++ad M5) o5 H5 S5->RepM h o5 H5 M5->iE dg db (ds.drop (i+1)) En δ5 S5 M5 ->
     ∃o3 δ3 S3 M3,Ex o0 H0 o3 H5/\ExH (h++ad M) o1 H1 o3 H5/\ad M3=ad M/\RepE (h++ad M) o3 H5 δ3 σ5/\RepS (h++ad M) o3 H5 S3/\RepM h o3 H5 M3/\iE dg db (ds.drop (i+1)) En δ3 S3 M3:=fun o5 H5 δ5 S5 M5 σ5 e5 a5 ag ab aa d5=>
    ⟨o5,δ5,S5,M5,af.trans e5,(x2.trans ae.hid).trans (am e5),a5.trans ea,by rw[<- ea,<- a5];exact ag,by rw[<- ea,<- a5];exact ab,aa,d5⟩
   refine hb h o4 (fun b=>if b∈ad M then none else H4 b) o4 H4 δ4 σ4 S4 M2 _ _ ⟨⟨[],yv⟩,fun b u nb eb=>?_⟩ (fun a ma=>by show (if a∈ad M then none else H4 a)=none;rw[cq (by rw[<- ea];exact ma)]) (by rw[ea];exact ao) (by rw[ea];exact al) (ai.mono ae) d4
    ⟨ac,fun o5 H5 S5 M5 y5 v5 e5 a5 ab aa an q5=>c.rt o5 H5 S5 M5 y5 v5 (af.trans e5) (a5.trans ea) ab aa an q5,fun o5 H5 δ5 S5 M5 σ5 e5 a5 ag ab aa q5=>c.nx o5 H5 δ5 S5 M5 σ5 (af.trans e5) (a5.trans ea) ag ab aa q5,ac⟩ (x.pre af)
   refine⟨nb,?_⟩;by_cases mb:b∈ad M
   ·simp[mb]at eb
   ·simpa[mb]using eb
  ·have ei:i=ds.length:=yw
   subst ei;rw[drop_length]at d2;exact .inl ⟨wk.stop _ o2 H2 x2 (cz _),c.nx o2 H2 δ2 S2 M2 σ2 e2 ea (by rw[ea];exact ak) (by rw[ea];exact ah) ai d2⟩) ⟨h,rfl,rm⟩
end
end
section
section
variable {h h' o:List Addr}{H H':Hp}
theorem HasX.to(s:Same (vx h o H) (vx h' o H')):∀{x:XV}{v:V},HasX h o H x v->HasX h' o H' x v
 | .d d,v,q=>Has.mono s d v q
 | .l k,v,q=>q
 | .o w,v,q=>q
 | .x C fs,v,q=>HasE.mono s q
 | .i C fs,v,q=>HasI.mono s q
 | .p k d,v,q=>HasLP.to s (fun _ z=>z) q
theorem RepE.to{δ:XE}{σ:St}(s:Same (vx h o H) (vx h' o H'))(r:RepE h o H δ σ):RepE h' o H' δ σ:=⟨r.len,fun i x e=>let ⟨v,e1,e2⟩:=r.get i x e;⟨v,e1,e2.to s⟩⟩
end
def F6(a:Addr)(m:List (Key×bc)):XV->XV
 | .o (.ref b)=>if b=a then .d (.dict (DD.pairs (.k m)))else .o (.ref b)
 |x=>x
theorem iY{M:DM}{a:Addr}{D:DD}:ad (M++[(a,D)])=ad M++[a]:=by simp[ad]
def oK(f:Bool)(i:Nat)(D0:DD)(b:DSm):DSm:=fun En δ S M=>∀a,a∉ad M->b { nx:=(fun δ' S' M'=>if f=true then (∃M1 m,M'=M1++[(a,.k m)]/\δ'[i]?=some (some (.o (.ref a)))/\En.nx (δ'.map (Option.map (F6 a m))) S' M1)else (∃M1 D,M'=M1++[(a,D)]/\En.nx δ' S' M1)),rt:=(fun x S' M'=>∃M1 D,M'=M1++[(a,D)]/\En.rt x S' M1),bk:=(fun δ' S' M'=>∃M1 D,M'=M1++[(a,D)]/\En.bk δ' S' M1),ct:=(fun δ' S' M'=>∃M1 D,M'=M1++[(a,D)]/\En.ct δ' S' M1) } (δ.set i (some (.o (.ref a)))) S (M++[(a,D0)])
section
variable {E:XK}{EX:EXD}{tb:TS}{db:DSm}{i:Nat}
def oR(dt:DSm):DS:=fun En δ S=>dt { nx:=fun δ' S' _=>En.nx δ' S',rt:=fun x S' _=>En.rt x S',bk:=fun δ' S' _=>En.bk δ' S',ct:=fun δ' S' _=>En.ct δ' S' } δ S []
end
end
section
def ROp(Φ:Phi)(r:R2)(rd:D2):Prop:=∀(h o:List Addr) (H:Hp) (S:Sto) (x y:XV) (v u:V) (R:RX) (Q:VK),Φ h o H->RepS h o H S->HasX h o H x v->HasX h o H y u->rd x y S R->Cn h o H R Q->r v u H Q
section
variable {Φ:Phi} [Stb Φ] {ta tb:TE}{da db:DE}
theorem Ec{r:R2}{rd:D2}(hr:ROp Φ r rd)(ha:REp Φ ta da)(hb:REp Φ tb db):REp Φ (tOp r ta tb) (dOp rd da db):=fun h o H δ σ S R Q he hs q c w=>
 ha h o H δ σ S _ _ he hs q (fun o1 H1 S1 x v e1 s1 x1 d1=>hb h o1 H1 δ σ S1 _ _ (he.mono e1) s1 d1 (fun o2 H2 S2 y u e2 s2 y2 d2=>
  hr h o2 H2 S2 x y v u R Q (Stb.st w (e1.trans e2)) s2 (x1.mono e2) y2 d2 (c.pre (e1.trans e2))) (Stb.st w e1)) w
end
theorem yN{t:TE}{de:DE}(a:REp (PhM []) t de):RE t de:=fun h o H δ σ S R Q he hs q c=>a h o H δ σ S R Q he hs q c ⟨h,(gl _).symm,RepM.nil⟩
end
end L2
namespace L2
open PySem PySem.Spec PySem.Calls PyProof.Rows
def DD.itemsD(m:List (Key×bc)):List bc:=m.map fun p=>.tuple [kD p.1,p.2]
def rB(e:DE):DI:=fun δ S R=>e δ S fun x S1=>∃m,x=.d (.dict (DD.pairs (.k m)))/\R (DD.itemsD m) S1
end L2
namespace L2
open PySem PyProof.Rows
section
variable {prog:cy}{w:fq}{A:ff}{E:bb->bd->Prop}{s:bd}{kd:SortKind}{D:Keyed->Prop}{lt:Keyed->Keyed->Bool}
def flt(lt:Keyed->Keyed->Bool):Keyed->Keyed->Bool:=fun x y=>lt y x
def G(xs:Array Keyed)(i:Nat):Keyed:=(xs[i]?).getD (.none,.none)
end
end L2
namespace L2
open PySem PySem.Spec PySem.Calls PyProof.Rows PySem.W
def oB:List XV->Sto->RX->Prop:=fun xs S R=>arg1 xs fun x=>∃m:List (Key×bc),x=.d (.dict (DD.pairs (.k m)))/\∃ns:List Int,m.map (·.1)=ns.map Sum.inl/\ns.length<=10000000/\∀ms:List Int,ms.Perm ns->ms.Pairwise (· <= ·)->R (.d (.list (ms.map bj))) S
def qP:List XV->Sto->RX->Prop:=fun xs S R=>arg1 xs fun x=>∃ds,dU S x=some ds/\∃nss:List (List Int),ds=nss.map hZ/\nss.length<=10000000/\(∀ns∈nss,ns≠[])/\∀mss:List (List Int),mss.Perm nss->mss.Pairwise (fun x y=>HT.lexLt y x=false)->R (.d (.list (mss.map hZ))) S
end L2
namespace L2
open PySem PySem.Spec PySem.Calls PyProof.Rows
def nW(j:Nat)(dk dv:DM->DE):DSm:=fun En δ S M=>zj j δ S fun y S1=>∃a m,y=.o (.ref a)/\(a,DD.k m)∈M/\dk M δ S1 fun z S2=>dv M δ S2 fun x S3=>asD z fun k=>asD x fun d=>∃kk,I0 k=some kk/\m.length<1000/\if (lkA m kk).isSome=true then En.nx δ S3 M else En.nx δ S3 (cV M a (.k (ptA m kk d)))
def rC(k:Int)(e:DE):DE:=fun δ S R=>e δ S fun x S1=>asD x fun d=>R (.d (.dict [(.int k,d)])) S1
end L2
namespace L2
theorem len0{α:Type}{l:List α}(h:l.length=0):l=[]:=cx h
theorem len1{α:Type}{l:List α}(h:l.length=1):∃a0,l=[a0]:=by
 cases l with
 |nil=>cases h
 |cons x r=>
  obtain rfl:=len0 (Nat.succ.inj h);exact⟨x,rfl⟩
theorem len2{α:Type}{l:List α}(h:l.length=2):∃a0 a1,l=[a0,a1]:=by
 cases l with
 |nil=>cases h
 |cons x r=>
  obtain⟨a1,rfl⟩:=len1 (Nat.succ.inj h);exact⟨x,a1,rfl⟩
theorem len3{α:Type}{l:List α}(h:l.length=3):∃a0 a1 a2,l=[a0,a1,a2]:=by
 cases l with
 |nil=>cases h
 |cons x r=>
  obtain⟨a1,a2,rfl⟩:=len2 (Nat.succ.inj h);exact⟨x,a1,a2,rfl⟩
theorem len4{α:Type}{l:List α}(h:l.length=4):∃a0 a1 a2 a3,l=[a0,a1,a2,a3]:=by
 cases l with
 |nil=>cases h
 |cons x r=>
  obtain⟨a1,a2,a3,rfl⟩:=len3 (Nat.succ.inj h);exact⟨x,a1,a2,a3,rfl⟩
end L2
namespace L2
open PySem PySem.Spec PyProof.Rows
section
section
variable {prog:cy}{w:fq}{A:ff}{E:bb->bd->Prop}{s:bd}
theorem SetI.few{led:Bool}{h:Heap}{S:Addr}{es:Array (Int×bb)}(hS:SetI led h S es)(L:List Int)(hk:∀x,x∈es.toList.map kE->x∈L):es.size<=L.length:=by
 obtain⟨o,ep,t,ho,aa,hd,hok,q,z,tb⟩:=hS;have:=sU _ L q hk
 rwa [bq,fg]at this
theorem L1{R:Result->bd->Prop}{I:Addr}{fp wr:List Addr}{G:Array GenState->Array GenState->Prop}{n:Nat}{P:Nat->bb->Prop}{St:Nat->bd->Prop}{led:Bool}(W:WalksS prog w A.in1 I fp wr G n P St)(L:List Int)(hn:L.length<60)(S:Addr)(ae:S∉fp)
  (key:Nat->Int) (hP:∀i v,P i v->∃tk,v=.int (key i) tk) (hkL:∀i,i<n->key i∈L):
  ∀(m i:Nat) (s:bd) (es:Array (Int×bb)),n-i=m->i<=n->St i s->SetI led s.heap S es->(∀x,x∈es.toList.map kE↔∃j,j<i/\x=key j) ->
  (∀s' q,Moved (S::wr) G s s'->SetI led s'.heap S q->(∀x,x∈q.toList.map kE↔∃j,j<n/\x=key j)->R (.ok (.ret .none)) s') ->
  kl (model prog w) A (.builtin "set.update.loop" ⟨[.ref S,.ref I],[]⟩) R s:=by
 have ah:S∉wr:=fun h=>ae (W.sub _ h);have aa:∀b∈wr,b∈S::wr:=fun b hb=>bp _ hb;intro m;induction m with
 |zero=>
  intro i s es hm hi ab hS hk hR;obtain rfl:i=n:=yw
  refine gm F4.entry_update_loop ?_;rw[fx F4.plain_update_loop _];show bn _ A.in1 (ls (.ref I) >>= _) _ _ s;refine ba (W.done s _ _ ab fun s' mv=>?_);exact be (hR s' es (mv.mono aa) (hS.at fun o e=>mv.heap S o ah e) hk)
 |succ m ih=>
  intro i s es hm hi ab hS hk hR;have ac:i<n:=yw
  refine gm F4.entry_update_loop ?_;rw[fx F4.plain_update_loop _];show bn _ A.in1 (ls (.ref I) >>= _) _ _ s;refine ba (W.item i s _ _ ac ab fun v s' hv ag mv=>?_);obtain⟨tk,rfl⟩:=hP i v hv;have af:SetI led s'.heap S es:=hS.at fun o e=>mv.heap S o ah e;have few:=af.few L fun x m=>by
   obtain⟨j,hj,rfl⟩:=(hk x).mp m;exact hkL j yw
  refine ba (gu (LP af yw fun b h' q sb S' mk z'=>?_));refine be ⟨ig F4.plain_update_loop _,ih (i+1) _ q yw ac (W.frame _ s' h' (s'.toks+1) ag (le_succ _) fun b hb o e=>sb.extBut b o (fun z=>ae (z▸hb)) e) S' (fun x=>?_) fun s'' es'' mv'' S'' k''=>?_⟩
  ·rw[mk x,hk x];constructor
   ·rintro(⟨j,hj,e⟩|e)
    ·exact⟨j,yw,e⟩
    ·exact⟨i,yw,e⟩
   ·rintro⟨j,hj,e⟩;by_cases z:j=i
    ·subst z;exact .inr e
    ·exact .inl ⟨j,yw,e⟩
  ·exact hR s'' es'' (Moved.trans W.gtrans ((mv.mono aa).then_heap (le_succ _) fun b o hb e=>sb.extBut b o (fun z=>hb (z▸br)) e) mv'') S'' k''
theorem Ij{S l:Addr}{vs:Array bb}{ns:List Int}{led:Bool}{Q:Unit->bd->Prop}(hh:A.handled=none)(hS:SetI led s.heap S #[])(hl:s.heap.IsList l vs)(hz:vs.size=ns.length)(hv:∀(i:Nat) v,vs[i]?=some v->∃tk,v=.int (ns.getD i 0) tk)(L:List Int)(hn:L.length<60)(hL:∀x∈ns,x∈L)
  (h:∀h' tk es,(∀b o,b≠S->s.heap.get? b=some o->h'.get? b=some o)->SetI led h' S es->(∀x,x∈es.toList.map kE↔x∈ns)->Q () { s with heap:=h',toks:=tk }):
  bn (model prog w) A (Builtin.Frozenset.updateFrom "set.__init__" S (.ref l)) Q E s:=by
 have ty:s.TypeIs (.ref l) "list":=by
  obtain⟨o,e,c,_⟩:=hl;exact⟨o,e,c⟩
 have lS:l≠S:=fun e=>by
  obtain⟨o,_,_,e1,c1,_⟩:=hS;obtain⟨o',e',c',_⟩:=hl;rw[e,e1]at e';cases e';rw[c1.1]at c';simp at c'
 unfold Builtin.Frozenset.updateFrom Builtin.Frozenset.isAnySet;refine ba (ba (kj ty F4.sub_list_set (kj ty F4.sub_list_frz ?_)));simp only[iu,if_false];refine ba (wpAny_typeOf ty ?_);rw[ck dz];refine ba (mn hl ?_);obtain⟨o,eo⟩:∃o,s.heap.get? l=some o:=⟨_,hl.choose_spec.1⟩;obtain⟨oS,eS⟩:∃o,s.heap.get? S=some o:=⟨_,hS.choose_spec.choose_spec.choose_spec.1⟩;have ll:=dw eo;have z:=dw eS;have up:∀b ob,s.heap.get? b=some ob->(s.heap.push { cls:=.type "list_iterator",data:=.fields #[.ref l,.int 0 0] }).get? b=some ob:=fun b ob e=>bf _ e;have W:=(Walks.list (prog:=prog) (w:=w) (A:=A.in1) hh s.heap.objs.size l (fk ll) vs).toS;refine ba (wpAny_runValue (L1 (led:=led) W L hn S (by
  simp only[jd,gq,or_false,not_or];exact⟨fk z,fun e=>lS e.symm⟩) (fun i=>ns.getD i 0) hv (fun j hj=>hL _ (by
   rw[hz]at hj;simp only[cg,bi hj];exact kz hj)) _ 0 _ #[] rfl (ji _) ⟨⟨_,cj _ rfl,rfl,rfl⟩,hl.at fun ob e=>up l ob e⟩ (hS.at fun ob e=>up S ob e) yv fun s' es mv S' ks=>?_))
 refine be ?_;obtain⟨h',ab,aa,q,ac⟩:=s';obtain⟨m1,m2,m3,m4,m5⟩:=mv;dsimp only at m1 m2 m3 m4 m5 S';subst m2 m3 m4;refine h h' q es (fun b ob nb e=>m1 b ob (by
  simp only[jd,gq,or_false,not_or];exact⟨nb,fk (dw e)⟩) (up b ob e)) S' fun x=>?_
 rw[ks x,hz];constructor
 ·rintro⟨j,hj,rfl⟩;rw[cg,bi hj];exact kz hj
 ·intro m;obtain⟨j,hj,e⟩:=List.mem_iff_getElem.mp m;exact⟨j,hj,by rw[cg,bi hj];exact e.symm⟩
theorem HX{l:Addr}{vs:Array bb}{ns:List Int}{Q:bb->bd->Prop}(hh:A.handled=none)(hl:s.heap.IsList l vs)(hz:vs.size=ns.length)(hv:∀(i:Nat) v,vs[i]?=some v->∃tk,v=.int (ns.getD i 0) tk)(L:List Int)(hn:L.length<60)(hL:∀x∈ns,x∈L)
  (h:∀a h' tk es,s.heap.objs.size<=a->(∀b o,s.heap.get? b=some o->h'.get? b=some o)->SetI (!w.params.followText "set-order") h' a es->(∀x,x∈es.toList.map kE↔x∈ns)->Q (.ref a) { s with heap:=h',toks:=tk }):
  bn (model prog w) A (call (.type "set") [.ref l]) Q E s:=by
 obtain⟨c,tl,af⟩:=F.called_set.mro;have z:=F.called_set.made;have ae:=F.called_set.sub;refine wpAny_call (codeAny_of_tree ?_);show bn _ _ (callAny (.type "set") _) _ _ _;refine be ⟨Code.quiet_builtin _ (by decide +kernel),gm F.entry_type_call ?_⟩;rw[Around.under_plain (weight_type_call_type "set" [.ref l] []) rfl];have h1:=F.called_set.notType;have h2:=F.called_set.canCreate;have ai:=F4.typeCall_set_1 (.ref l)
 repeat (any_goals (first|assumption|wp_step))
 generalize hO:({ cls:=.type "set",dict:=none,data:=.set #[] 0 (.fresh 0 0 (!w.params.followText "set-order")) }:Obj)=O;refine oh (LG (E:=E) (Q:=fun ob s1=>ob=.ref s.heap.objs.size/\s1 = { s with heap:=s.heap.push O }) ⟨rfl,by rw[hO]⟩) fun r s1 hr=>?_;cases r with
 |error e=>exact hr
 |ok fl=>
  cases fl with
  |ret obj=>
   obtain⟨rfl,rfl⟩:=hr;have hS:(s.heap.push O).get? s.heap.objs.size=some O:=cj _ (by rw[<- hO];rfl);have hT:Shared.TypeIs { s with heap:=s.heap.push O } (.ref s.heap.objs.size) "set":=⟨_,hS,by rw[<- hO]⟩;have ag:=F.called_set.init.lookup;have ah:=F.called_set.init.bind (.ref s.heap.objs.size)
   repeat (any_goals (first|assumption|wp_step))
   refine oh (codeAny_call_builtin (R:=wants (fun r s2=>r=.none/\Q (.ref s.heap.objs.size) s2) E) F.called_set.init.plain F.entry_set_init (HP hT ?_)) fun r2 s2 q=>?_
   ·unfold pj.«set.__init__» noKeywords;have ab:SetI (!w.params.followText "set-order") (s.heap.push O) s.heap.objs.size #[]:=by
     subst hO;exact⟨_,_,_,hS,⟨rfl,rfl,rfl⟩,rfl,yv,yv,yv,J7 _⟩
    have ac:(s.heap.push O).IsList l vs:=hl.at fun ob e=>bf _ e;subst hO;have aa:=fun Q1=>@Ij prog w A.in1.in1 (fun e s'=>wants (fun r s2=>r=pz/\Q (fb s.heap.objs.size) s2) E (Except.error e) s') { s with heap:=s.heap.push { cls:=.type "set",dict:=none,data:=.set #[] 0 (.fresh 0 0 (!w.params.followText "set-order")) } } s.heap.objs.size l vs ns (!w.params.followText "set-order") Q1 hh ab ac hz hv L hn hL
    wp_walk using aa _
    intro h' tk es kp S' ks;exact be ⟨rfl,h _ h' tk es (cz _) (fun b o e=>kp b o (fk (dw e)) (bf _ e)) S' ks⟩
   ·cases r2 with
    |error e=>exact q
    |ok fl2=>
     cases fl2 with
     |ret r=>
      obtain⟨rfl,hq⟩:=q
      repeat (any_goals (first|assumption|wp_step))
     |_=>exact q.elim
  |_=>exact hr.elim
theorem Lv{l:Addr}{vs:Array bb}{ns:List Int}{Q:bb->bd->Prop}(hh:A.handled=none)(hl:s.heap.IsList l vs)(hz:vs.size=ns.length)(hv:∀(i:Nat) v,vs[i]?=some v->∃tk,v=.int (ns.getD i 0) tk)(L:List Int)(hn:L.length<60)(hL:∀x∈ns,x∈L)
  (h:∀D h' tk d out ms c,s.heap.objs.size<=D->(∀b o,s.heap.get? b=some o->h'.get? b=some o)->nj out ms->ms.Pairwise (· < ·)->(∀x,x∈ms↔x∈ns)->h'.get? D=some (oo "list" out.toArray c)->Q (.ref D) { s with heap:=h',toks:=tk,drawn:=d }):
  bn (model prog w) A (call (.type "set") [.ref l]) (fun a s'=>bn (model prog w) A (call (.builtin "sorted") [a]) Q E s') E s:=by
 refine HX hh hl hz hv L hn hL fun a h1 tk es ha ag af hk=>?_;obtain⟨o,ep,t,ho,ac,hd,hok,z,ae,tb⟩:=af;refine Calls.call_function_entry kind_sorted plain_sorted entry_sorted (args_sorted1 _) ?_;unfold pj.«sorted»;refine ba (m:=checkCount "sorted" 1 1 1) (be ?_);refine ba (KS (s:={ s with heap:=h1,toks:=tk }) (A:=A.in1) hh ho ac hd tb ae fun h2 d us hp aa=>?_);have ul:us.length=es.size:=by rw[hp.length_eq,bq,fg]
 have ui:∀v∈us,∃n t,v=qi n t:=fun v m=>by
  obtain⟨e,me,rfl⟩:=mem_map.mp (hp.mem_iff.mp m);obtain⟨n,t,e1,_⟩:=hok e me;exact⟨n,t,e1⟩
 obtain⟨ab,hI,e0⟩:=CO ui;have p0:ab.Perm (es.toList.map kE):=by
  rw[e0];refine(hp.map fun v=>kE (0,v)).trans ?_;rw[ge];exact rj _
 have el:es.size<=L.length:=by
  have:=sU _ L z fun x m=>hL x ((hk x).mp m)
  rwa [bq,fg]at this
 refine ba (wpAny_newList ?_ (by rw[ul,ko];omega));have q:(h2.push (oo "list" us.toArray 0)).get? h2.objs.size=some (oo "list" us.toArray 0):=cj _ rfl;refine ba (gu (jz slot_list_sort ⟨_,q,rfl⟩ entry_list_sort (list_sort_tree (s:={ s with heap:=h2.push (oo "list" us.toArray 0),toks:=tk,drawn:=d }) q hI yw fun out ms a1 a2 a3=>⟨_,rfl,?_⟩) (args_list_sort _)));have np:ms.Nodup:=(a2.trans p0).nodup_iff.mpr z;obtain⟨c,hc⟩:=sortedHeap_at (out:=out) q;refine be ⟨_,rfl,h h2.objs.size _ tk d out.toList ms c ?_ (fun b o e=>?_) a1 ?_ (fun x=>?_) ?_⟩
 ·exact fv ha (jc (dw (aa a o ho)))
 ·have e2:=aa b o (ag b o e);have lb:=dw e2;rw[sortedHeap_old (fk lb) (by rw[size_push'];exact qo lb)];exact bf _ e2
 ·exact(List.Pairwise.and a3 np).imp fun⟨h1,h2⟩=>by omega
 ·rw[(a2.trans p0).mem_iff,hk x]
 ·simpa using hc
end
def Eo(K:bx):List V->Hp->VK->Prop:=fun xs H Q=>∃(p:Addr) (ns:List Int),xs=[.ref p]/\SqL K H p (ns.map V.int)/\(∃L:List Int,L.length<60/\∀x∈ns,x∈L)/\∀(l:Addr) (ms:List Int),H l=none->ms.Pairwise (· < ·)->(∀x,x∈ms↔x∈ns)->Q (.ref l) (upd H l (.lst (ms.map V.int)))
section
variable {X:Cx}{e:Expr}{t:TA}{p p2 pos pos2:Pos}
theorem Ie(hc:X.calm=true)(ae:Gl X "sorted")(aa:X.mg "sorted" = none)(ab:Gl X "set")(af:X.mg "set" = none)(ha:PA X [e] t)
  (he:cr [e] X.env=(false,eval e X.env)::cr [] X.env:=by rfl) (hpl:(kx pos2 (cr [] X.env)).any (·.1)=false:=by rfl)
  (he2:cr [Expr.Call (.Name "set" p2) [e] [] pos2] X.env=(false,eval (Expr.Call (.Name "set" p2) [e] [] pos2) X.env)::cr [] X.env:=by rfl) (hpl2:(kx pos (cr [] X.env)).any (·.1)=false:=by rfl):
  PE X (.Call (.Name "sorted" p) [.Call (.Name "set" p2) [e] [] pos2] [] pos) (tCB (Eo X.K) t):=by
 intro zi s σ H Q I h;refine jo (e9 I ae aa boot_sorted ?_);refine PyProof.Rows.callWith_builtin1 ?_ he2 hpl2;rw[he2];show bn _ _ (spliced [(false,eval (Expr.Call (.Name "set" p2) [e] [] pos2) X.env)]) _ _ s;refine Calls.spliced_cons ?_;refine jo (e9 I ab af IR ?_);refine gx (thn (ha pos2 zi s σ H _ I h) fun us s1 ⟨vs,H1,I1,r1,q1⟩=>?_) he hpl;obtain⟨pl,ns,rfl,hq,⟨L,hn,hL⟩,q⟩:=q1;obtain⟨u,rfl,rx⟩:=vals1 r1;cases (show u=fb pl from rx);obtain⟨ag,rv,ac,_⟩:=I1.list hq;have hI:=gU rv;refine og (Lv (ns:=ns) (I1.ok.hd hc) ac.isList (by rw[dn];exact Bu hI) (fun i v hv=>Cb hI i v (by simpa using hv)) L hn hL fun D h' tk d out ms c hD kp oI pw mm hg=>?_) (fun a s2 z=>Calls.spliced_nil z) fun _ _ z=>z;refine⟨.ref D,_,((I1.drw d).laid (t':=tk) kp hD (show ObjOk X.prog X.w _ h' D (.lst (ms.map V.int))from⟨?_,out,c,AF oI,hg⟩)),rfl,q D ms (I1.hok.fresh hD) pw mm⟩;have:=sU ms L (pw.imp fun h=>by omega) fun x m=>hL x ((mm x).mp m);rw[bq,ko];omega
end
def j3:List XV->Sto->RX->Prop:=fun xs S R=>arg1 xs fun x=>∃ds,dU S x=some ds/\∃ns:List Int,ds=ns.map bj/\(∃L:List Int,L.length<60/\∀x∈ns,x∈L)/\∀ms:List Int,ms.Pairwise (· < ·)->(∀x,x∈ms↔x∈ns)->R (.d (.list (ms.map bj))) S
theorem Ah{K:bx}:RC (Eo K) j3:=fun h o H S xs vs R Q hs hx q c=>by
 obtain⟨x,rfl,ds,hd,ns,rfl,hn,q1⟩:=cW q;obtain⟨v,rfl,z⟩:=hxs1 hx;obtain⟨a,ws,rfl,ea,l⟩:=bV hs hd z;rw[kS l]at ea;refine⟨a,ns,rfl,.of ea,hn,fun l ms hl pw mm=>?_⟩;exact lK hs (xQ ms) c (q1 ms pw mm) l hl
end
section
def qT:List XV->Sto->RX->Prop:=fun xs S R=>arg1 xs fun x=>∃ns:List Int,x=.d (.tuple (ns.map bj))/\ns.length<=10000000/\∀ms:List Int,ms.Perm ns->ms.Pairwise (· <= ·)->R (.d (.list (ms.map bj))) S
end
end L2
namespace L2
open PySem PySem.Spec PySem.Calls PyProof.Rows
open Sem (wp)
def nG(a:DA):DE:=fun δ S R=>a δ S fun xs S1=>arg2 xs fun x y=>∃ds,fD x=some ds/\∃es,fD y=some es/\min ds.length es.length<=1000/\R (.d (.list (vZ ds es))) S1
end L2
namespace L2
open PySem PySem.Spec PySem.Calls PyProof.Rows
open Sem (wp)
structure LamScope(ps caps:List Str)(sc:Scope):Prop where
 kind:sc.kind=.function
 co:sc.isCoroutine=false
 gen:sc.isGenerator=false
 nd:(ps++caps).Nodup
 par:∀x∈ps,sc.names.lookup x=some .local
 cap:∀x∈caps,sc.names.lookup x=some .free
 nocell:∀y∈sc.names,y.2≠.cell
 free:∀x,sc.names.lookup x=some .free->x∈caps
def cxL(P:cy)(w:fq)(K:bx)(mg:Str->Option bb)(base:Heap)(N:List Str)(qual:Str)(scope:Scope)(cl:List (Str×Addr))(f:Addr)(cd:bb)(A:ff)(outer:List Env)(s:bd)(H:Hp):Cx where
 prog:=P
 w:=w
 K:=K
 mg:=mg
 base:=base
 A:=A.deeper (W.envX qual scope s.heap.objs.size f cd cl)
 N:=N
 s₀:=s
 H₀:=H
 env:=W.envX qual scope s.heap.objs.size f cd cl
 outer:=outer
 stack:=W.envX qual scope s.heap.objs.size f cd cl::outer
 ex:=[]
 calm:=true
 fn:=fun _=>false
 pn:=[]
 xe:=fun _ _=>False
theorem DJ:∀{ps:List Str}{us:List bb}{i:Nat}{y:Str}{u:bb},ps.Nodup->ps[i]?=some y->us[i]?=some u->((ps.zip us).reverse).lookup y=some u
 | [],_,_,_,_,_,e,_=>by simp at e
 |_::_,[],_,_,_,_,_,e=>by simp at e
 |p::ps,v::us,0,y,u,nd,e1,e2=>by
  simp at e1 e2;subst e1 e2;rw[nodup_cons]at nd;rw[zip_cons_cons,reverse_cons,List.lookup_append];have:((ps.zip us).reverse).lookup p=none:=by
   rw[List.lookup_eq_none_iff];intro q mq;have:=(of_mem_zip (List.mem_reverse.mp mq)).1;have ne:p≠q.1:=fun e=>nd.1 (by rw[e];exact this);simpa using ne
  rw[this];simp[qb]
 |p::ps,v::us,i+1,y,u,nd,e1,e2=>by
  rw[nodup_cons]at nd;rw[zip_cons_cons,reverse_cons,List.lookup_append,DJ nd.2 (by simpa using e1) (by simpa using e2)];rfl
section
variable {P:cy}{w:fq}{K:bx}{mg:Str->Option bb}{base:Heap}{A:ff}{outer:List Env}{s:bd}{H:Hp}
structure Caps(H:Hp)(h:Heap)(cl:List (Str×Addr))(caps:List Str)(cs:List V):Prop where
 len:cs.length=caps.length
 inj:∀x y c,cl.lookup x=some c->cl.lookup y=some c->x=y
 has:∀x,x∈caps↔∃c,cl.lookup x=some c
 at_:∀(i:Nat) x v,caps[i]?=some x->cs[i]?=some v->∃c u,cl.lookup x=some c/\RelV v u/\h.IsCell c (some u)
 free:∀x c,cl.lookup x=some c->H c=none/\∃v,h.IsCell c v
theorem Jh{k:Nat}{ps caps:List Str}{name qual:Str}{params:qy}{body:Expr}{scope:Scope}{cl:List (Str×Addr)}{pm ctv:bb}{c' f:Addr}{us:List bb}{vs cs:List V}{Q:VK}{t:TE}
  (S:LamScope ps caps scope) (hr:Room (k+1) A) (e0:Env0 P w K mg base A outer s H) (ho:s.heap.get? f=some (W.kla_obj name qual params body scope cl pm c' ctv)) (hcd:s.heap.CodeRec (.ref c') qual)
  (hbind:qc (W.kla_fn name qual params body scope cl pm (.ref c') ctv) ⟨us,[]⟩=pure (ps.zip us)) (hl:vs.length=ps.length) (r:Vals vs us) (C:Caps H s.heap cl caps cs)
  (hb:PE (cxL P w K mg base (ps++caps) qual scope cl f (.ref c') A outer s H) body t) (q:t (vs.map some++cs.map some) H Q):
  kl (model P w) A (.call (.ref f) ⟨us,[]⟩) (fun r' s'=>match r' with | .ok (.ret u)=>CE outer P w H s Q u s'|_=>False) s:=by
 have KX:K.In s.heap:=e0.kIn;have ag:s.heap.NoLimit:=e0.mod.nolimit.keeps fun b o e=>(e0.bs b o e).1;refine W.kla_callFunE hr.depth ho rfl S.co S.gen rfl hcd ?_;rw[hbind];refine be (wpAny_newFunctionEnv S.nocell (fun y hy=>S.par y.1 (of_mem_zip hy).1) (fun h₁ ah ae=>⟨ag.fresh _ ae,?_⟩) S.kind);show kl _ _ (.expr body (W.envX qual scope s.heap.objs.size f (.ref c') cl)) _ _;have hk:∀b o,s.heap.get? b=some o->h₁.get? b=some o:=fun b o e=>ae.extBut b o (fk (dw e)) (bf _ e);have ab:∀b:Addr,b∉(cxL P w K mg base (ps++caps) qual scope cl f (.ref c') A outer s H).ex:=fun b z=>absurd (show b∈([]:List Addr)from z) yv;have ul:us.length=ps.length:=by rw[<- r.length];exact hl
 have I:Inv (cxL P w K mg base (ps++caps) qual scope cl f (.ref c') A outer s H) [] (vs.map some++cs.map some) H { s with heap:=h₁,toks:=s.toks+(ps.zip us).length }:=by
  refine⟨⟨e0.mod,S.kind,rfl,rfl,cz _,fun x y c h1 h2=>C.inj x y c h1 h2,fun y hy=>?_,fun y c h _=>absurd (show false=true from h) dz,fun _=>hr.hd,Around.frames_deeper e0.frames,.inr ⟨rfl,rfl⟩,fun b z=>absurd z (ab b),e0.bs,e0.bsz,fun b _ _=>ab b,fun b z=>absurd z (ab b),e0.funs,e0.frf⟩,
   rfl,e0.bare,Un.kept hk,⟨_,ah,fun i y v h1 h2 h3=>?_⟩,fun y c h=>?_,e0.hok.fresh (cz _),fun y c h=>(C.free y c h).1,fun p hp=>absurd (show p∈([]:List (Addr×Obj))from hp) yv,e0.hok.kept hk,?_⟩
  ·have hy:scope.names.lookup y=some .cell\/scope.names.lookup y=some .free:=hy;rcases hy with hy|hy
   ·exact absurd rfl (S.nocell _ (PySem.mem_of_lookup hy))
   ·exact(C.has y).mp (S.free y hy)
  ·by_cases hi:i<ps.length
   ·have aa:ps[i]?=some y:=by
     have h1:(ps++caps)[i]?=some y:=h1
     rwa [dj hi]at h1
    have ac:vs[i]?=some v:=by
     rw[dj (by rw[bq];omega),fh]at h2;cases e:vs[i]? with
     |none=>rw[e]at h2;cases h2
     |some a=>rw[e]at h2;cases h2;rfl
    obtain⟨u,hu,rv⟩:=r.get ac;exact⟨u,rv,.inl ⟨S.par y (bw aa),DJ (nodup_append.mp S.nd).1 aa hu⟩⟩
   ·have aa:caps[i-ps.length]?=some y:=by
     have h1:(ps++caps)[i]?=some y:=h1
     rwa [jj yw]at h1
    have ac:cs[i-ps.length]?=some v:=by
     rw[jj (by rw[bq];omega),bq,hl,fh]at h2;cases e:cs[i-ps.length]? with
     |none=>rw[e]at h2;cases h2
     |some a=>rw[e]at h2;cases h2;rfl
    obtain⟨c,u,e1,rv,af⟩:=C.at_ _ y v aa ac;exact⟨u,rv,.inr ⟨.inr (S.cap y (bw aa)),c,e1,af.keeps hk⟩⟩
  ·obtain⟨v,q⟩:=(C.free y c h).2;exact⟨v,q.keeps hk⟩
  ·show (vs.map some++cs.map some).length=(ps++caps).length;simp[hl,C.len]
 refine W.kla_codeExpr (og (hb [] _ _ H _ I q) (fun u s' hs=>?_) fun e s' z=>z.elim);obtain⟨v,H',J,rv,q'⟩:=hs;exact⟨v,H',J.os,J.bare,J.base,J.hok,rv,q'⟩
end
abbrev lamKey (qual:Str) (pos:Pos):Array bb:=#[jy pos.line,jy pos.col,.str qual 0]
abbrev lI (qual:Str) (params:qy) (body:Expr) (scope:Scope) (cl:List (Str×Addr)) (pm:bb) (c':Addr) (ctv:bb):Obj:=W.kla_obj "<lambda>" qual params body scope cl pm c' ctv
section
variable {X:Cx}{zi:List (Addr×Obj)}{σ:St}{H:Hp}{s:bd}{M:Model}{A:ff}{E:bb->bd->Prop}{Q:bb->bd->Prop}{c P:Addr}{qual:Str}{params:qy}{body:Expr}{scope:Scope}{pos:Pos}{cl:List (Str×Addr)}
theorem Iv(I:Inv X zi σ H s)(aa:X.env.code=.ref c)(hT:((c,P),lamKey qual pos)∈tabsG)(ah:closureFor scope X.env=pure cl)
  (h:∀(f c':Addr) (ctv pm:bb) (H':Hp) (s':bd),Inv X zi σ H' s'->Same H H'->H f=none->H' f=some (.frz (lI qual params body scope cl pm c' ctv) (.own 0))->(∃oc vs t',H' c'=some (.frz oc (.own 0))/\oc.data=.fields vs/\vs[1]?=some (.str qual t'))->Q (.ref f) s'):
  bn M A (makeFunction "<lambda>" qual params (.expr body) scope X.env [] [] [] pos pos.line) Q E s:=by
 have hH:H P=some (.tbl (lamKey qual pos)):=I.stkFree.tab _ hT;have C:W.CodeHd X.base c P:=I.mod.hd _ hT;have B:BltAt X.base X.mg:=I.mod.bm;obtain⟨qs,hP,hq⟩:=(show ObjOk X.prog X.w H s.heap P (.tbl (lamKey qual pos))from I.hok P _ hH);have ag:∀b o,X.base.get? b=some o->b≠P:=fun b o e z=>by
  have:=(I.bs b o e).2;rw[z,hH]at this;cases this
 have hg:s.heap.Ns ii X.mg:=I.mod.glob.keeps I.bk;have ak:ii≠P:=by
  obtain⟨o,es,ep,e,_⟩:=I.mod.glob;exact ag _ o e
 have hB:s.heap.BuiltinsAt X.mg P:=by
  obtain⟨bm,ob,b1,b2,b3,b4,b5,b6⟩:=B;refine⟨bm,ob,b1,b2,fun z=>?_,ag _ _ b3,I.bk _ _ b3,b4,b5,b6⟩;obtain⟨o,es,ep,e,d,_⟩:=I.mod.glob;rw[z,e]at b3;cases b3;rw[d]at b6;cases b6
 have hC:=C.keeps I.bk;rcases hq with rfl|⟨l,k,q,t,c',oc,vs,t',e1,rfl,e3,e4,e5⟩
 ·refine W.kla_makeFunction (mg:=X.mg) ah I.ok.glob hg aa hC hP trivial rfl ak hB fun c' ctv h' tk hx ab ae ai af=>?_;obtain⟨c₂,oc,vs,t',e2,am,hd,hv⟩:=ai;cases e2;have hsz:s.heap.objs.size<=h'.objs.size:=jc (Nat.lt_of_le_of_lt ab ae);have nc:H c'=none:=I.hok.fresh ab;have nf:H h'.objs.size=none:=I.hok.fresh hsz;have cf:c'≠h'.objs.size:=fk ae
  let fo:Obj:=lI qual params body scope cl ((X.mg "__name__").getD .none) c' ctv
  let H':Hp:=upd (upd H c' (.frz oc (.own 0))) h'.objs.size (.frz fo (.own 0))
  have gr:Same H H':=(Same.laid nc).trans (Same.laid (by rw[zE (ic cf)];exact nf));have ap:P≠c':=zL hH nc;have ao:P≠h'.objs.size:=zL hH nf;have kp:∀b o,b≠P->s.heap.get? b=some o->(h'.push fo).get? b=some o:=fun b o nb e=>bf _ (hx b o nb e);have eH:∀b,b≠c'->b≠h'.objs.size->H' b=H b:=fun b n1 n2=>by show upd _ _ _ b=_;rw[zE n2,zE n1]
  have ac:H' c'=some (.frz oc (.own 0)):=by show upd _ _ _ c'=_;rw[zE cf,zK]
  have aj:H' h'.objs.size=some (.frz fo (.own 0)):=zK;refine h h'.objs.size c' ctv _ H' _ (I.un ⟨fun b o e n _ _=>kp b o (fun z=>by rw[z,hH]at n;cases n) e,fun b o e n _ _=>⟨o.slots,kp b o (fun z=>by rw[z,hH]at n;cases n) e⟩,fun b o e n _=>?_,fun b o e _=>?_,fun b xs e=>gr b _ e,fun b o u e=>gr b _ e,fun b ps e=>gr b _ e⟩ fun b u e=>?_) gr nf aj ⟨oc,vs,t',ac,hd,hv⟩
  ·have lb:=dw e;rw[eH b (fk (fc lb ab)) (fk (fc lb hsz))];exact n
  ·by_cases hb:b=P
   ·subst hb;exact⟨_,bf _ af⟩
   ·exact⟨o,kp b o hb e⟩
  ·by_cases h1:b=h'.objs.size
   ·subst h1;rw[aj]at e;cases e;have g:=cj h' (o:=fo) rfl;exact⟨g,_,g⟩
   ·by_cases h2:b=c'
    ·subst h2;rw[ac]at e;cases e;have g:=bf fo am;exact⟨g,_,g⟩
    ·rw[eH b h2 h1]at e;by_cases h3:b=P
     ·subst h3;rw[hH]at e;cases e;exact⟨_,bf _ af,.inr ⟨_,_,qual,0,c',oc,vs,t',rfl,rfl,ac,hd,hv⟩⟩
     ·refine(I.hok b u e).stay (fun d v al q1=>kp d v (fun z=>?_) q1) (fun d q1=>gr d _ q1) (fun d xs q1=>gr d _ q1) fun d o u q1=>gr d _ q1;subst z;rcases al with z|z
      ·exact h3 z.symm
      ·rw[hH]at z;cases z
 ·have el:jy pos.line=l:=congrArg (fun a:Array bb=>a.getD 0 .none) e1;have ek:jy pos.col=k:=congrArg (fun a:Array bb=>a.getD 1 .none) e1;have eq:qual=q:=by
   have:=congrArg (fun a:Array bb=>a.getD 2 .none) e1;have z:Value.str qual 0=Value.str q t:=this;cases z;rfl
  subst eq;rw[<- el,<- ek]at hP;have an:codeAmong pos (#[jy pos.line,jy pos.col,fb c']:Array bb).toList=some (.ref c'):=by
   simp[codeAmong,jy]
  refine W.kla_makeFunctionHit (mg:=X.mg) ah I.ok.glob hg aa hC hP trivial an hB fun ctv h' tk kp hsz=>?_;have nf:H h'.objs.size=none:=I.hok.fresh hsz
  let fo:Obj:=lI qual params body scope cl ((X.mg "__name__").getD .none) c' ctv
  have gr:Same H (upd H h'.objs.size (.frz fo (.own 0))):=Same.laid nf;have g:=cj h' (o:=fo) rfl;exact h h'.objs.size c' ctv _ _ _ (I.laid (t':=tk) (o:=.frz fo (.own 0)) (fun b o e=>bf _ (kp b o e)) hsz ⟨g,_,g⟩) gr nf zK ⟨oc,vs,t',gr _ _ e3,e4,e5⟩
end
end L2
namespace L2
open PySem PySem.Spec PySem.Calls PyProof.Rows
open Sem (wp)
section
variable {P:cy}{w:fq}{K:bx}{mg:Str->Option bb}{base:Heap}{A:ff}{outer:List Env}{s s':bd}{H H' H0:Hp}{fs:List Addr}{h0 h h':Heap}
theorem kR{a:Addr}(U:Un fs [] H0 H h0 h)(ha:h0.objs.size<=a)(k:∀b o,b≠a->h.get? b=some o->h'.get? b=some o):Un fs [] H0 H h0 h':=by
 have ne:∀b o,h0.get? b=some o->b≠a:=fun b o e=>fk (fc (dw e) ha);refine⟨fun b o e n hb hx=>k b o (ne b o e) (U.keep b o e n hb hx),fun b o e n hb hx=>?_,U.free,fun b o e hx=>?_,U.tups,U.frzs,U.tbls⟩
 ·obtain⟨sl,q⟩:=U.slot b o e n hb hx;exact⟨sl,k b _ (ne b o e) q⟩
 ·obtain⟨o',q⟩:=U.there b o e hx;exact⟨o',k b o' (ne b o e) q⟩
theorem Env0.after(e0:Env0 P w K mg base A outer s H)(U:Un (frs outer) [] H H' s.heap s'.heap)(hok:HOk P w H' s'.heap)(hb:AllBare s'.gens)(hz:base.objs.size<=s'.heap.objs.size):Env0 P w K mg base A outer s' H':=by
 have z:∀b o,base.get? b=some o->b∉frs outer:=fun b o e hm=>by
  have:=(e0.funs.mem hm).1;rw[e]at this;cases this
 refine⟨e0.frames,e0.mod,fun b o e=>⟨U.keep b o (e0.bs b o e).1 (e0.bs b o e).2 (z b o e) yv,U.free b o (e0.bs b o e).1 (e0.bs b o e).2 yv⟩,hz,?_,⟨fun b hb=>?_,fun q hq=>U.tbls _ _ (e0.frf.tab q hq),fun q hq=>U.tups _ _ (e0.frf.kp q hq)⟩,hok,hb⟩
 ·have go:∀l:List Env,(∀b∈frs l,b∈frs outer)->s.heap.FunFrames base l->s'.heap.FunFrames base l:=by
   intro l;induction l with
   |nil=>intro _ _;trivial
   |cons env r ih=>
    intro hs hl;obtain⟨hk,⟨L,o,hf,hn,ho,hd⟩,hr⟩:=hl;have hL:L∈frs outer:=hs L (by unfold frs;rw[nq,hf];exact br);obtain⟨sl,e⟩:=U.slot L o ho (e0.frf.free L hL) hL yv;exact⟨hk,⟨L,_,hf,hn,e,hd⟩,ih (fun b hb=>hs b (by unfold frs;rw[nq,hf];exact bp _ hb)) hr⟩
  exact go outer (fun _ h=>h) e0.funs
 ·obtain⟨_,o,ho,_⟩:=e0.funs.mem hb;exact U.free b o ho (e0.frf.free b hb) yv
theorem Caps.after{cl:List (Str×Addr)}{caps:List Str}{cs:List V}(C:Caps H h cl caps cs)(U:Un fs [] H H' h h'):Caps H' h' cl caps cs:=by
 have kp:∀c v,H c=none->h.IsCell c v->h'.IsCell c v:=fun c v n ⟨o,e,d⟩=>by
  obtain⟨sl,q⟩:=U.any e n yv;exact⟨_,q,d⟩
 refine⟨C.len,C.inj,C.has,fun i x v e1 e2=>?_,fun x c e=>?_⟩
 ·obtain⟨c,u,q1,q2,q3⟩:=C.at_ i x v e1 e2;exact⟨c,u,q1,q2,kp c _ (C.free x c q1).1 q3⟩
 ·obtain⟨n,v,q⟩:=C.free x c e;obtain⟨o,eo,_⟩:=id q;exact⟨U.free c o eo n yv,v,kp c v n q⟩
theorem Env0.own{a:Addr}(e0:Env0 P w K mg base A outer s H)(na:H a=none)(nb:base.objs.size<=a)(nf:a∉frs outer)(k:∀b o,b≠a->s.heap.get? b=some o->h'.get? b=some o)(hz:s.heap.objs.size<=h'.objs.size)(tk:Nat):Env0 P w K mg base A outer { s with heap:=h',toks:=tk } H:=by
 refine⟨e0.frames,e0.mod,fun b o e=>⟨k b o (fk (fc (dw e) nb)) (e0.bs b o e).1,(e0.bs b o e).2⟩,fv e0.bsz hz,?_,e0.frf,e0.hok.stays fun b u e o q=>k b o (zL e na) q,e0.bare⟩;have go:∀l:List Env,(∀b∈frs l,b∈frs outer)->s.heap.FunFrames base l->h'.FunFrames base l:=by
  intro l;induction l with
  |nil=>intro _ _;trivial
  |cons env r ih=>
   intro hs hl;obtain⟨hk,⟨L,o,hf,hn,ho,hd⟩,hr⟩:=hl;have hL:L∈frs outer:=hs L (by unfold frs;rw[nq,hf];exact br);exact⟨hk,⟨L,o,hf,hn,k L o (fun z=>nf (z▸hL)) ho,hd⟩,ih (fun b hb=>hs b (by unfold frs;rw[nq,hf];exact bp _ hb)) hr⟩
 exact go outer (fun _ h=>h) e0.funs
theorem Caps.own{a:Addr}{cl:List (Str×Addr)}{caps:List Str}{cs:List V}(C:Caps H h cl caps cs)(na:∀x c,cl.lookup x=some c->c≠a)(k:∀b o,b≠a->h.get? b=some o->h'.get? b=some o):Caps H h' cl caps cs:=by
 refine⟨C.len,C.inj,C.has,fun i x v e1 e2=>?_,fun x c e=>?_⟩
 ·obtain⟨c,u,q1,q2,o,q3,q4⟩:=C.at_ i x v e1 e2;exact⟨c,u,q1,q2,o,k c o (na x c q1) q3,q4⟩
 ·obtain⟨n,v,o,q,d⟩:=C.free x c e;exact⟨n,v,o,k c o (na x c e) q,d⟩
def CodeFz(H:Hp)(c':Addr)(qual:Str):Prop:=∃oc vs t',H c'=some (.frz oc (.own 0))/\oc.data=.fields vs/\vs[1]?=some (.str qual t')
theorem CodeFz.rec{c':Addr}{qual:Str}(c:CodeFz H c' qual)(hok:HOk P w H h):h.CodeRec (.ref c') qual:=by
 obtain⟨oc,vs,t',e,d,q⟩:=c;obtain⟨g,_⟩:=(show ObjOk P w H h c' (.frz oc (.own 0))from hok _ _ e);exact⟨c',oc,vs,t',rfl,g,d,q⟩
theorem CodeFz.un{c':Addr}{qual:Str}(c:CodeFz H c' qual)(U:Un fs [] H H' h h'):CodeFz H' c' qual:=by
 obtain⟨oc,vs,t',e,r⟩:=c;exact⟨oc,vs,t',U.frzs _ _ _ e,r⟩
theorem BY{k:Nat}{x:Str}{caps:List Str}{qual:Str}{params:qy}{body:Expr}{scope:Scope}{cl:List (Str×Addr)}{pm ctv:bb}{c' f:Addr}{u:bb}{v:V}{cs:List V}{Q1:VK}{t:TE}{E:bb->bd->Prop}{Q:bb->bd->Prop}
  (S:LamScope [x] caps scope) (hr:Room (k+1) A) (e0:Env0 P w K mg base A outer s H) (hf:H f=some (.frz (lI qual params body scope cl pm c' ctv) (.own 0))) (hc:CodeFz H c' qual)
  (hbind:∀u,qc (W.kla_fn "<lambda>" qual params body scope cl pm (.ref c') ctv) ⟨[u],[]⟩=pure [(x,u)]) (r:RelV v u) (C:Caps H s.heap cl caps cs)
  (hb:PE (cxL P w K mg base ([x]++caps) qual scope cl f (.ref c') A outer s H) body t) (q:t (some v::cs.map some) H Q1) (fin:∀u' s',CE outer P w H s Q1 u' s'->Q u' s'):
  bn (model P w) A (call (.ref f) [u]) Q E s:=by
 obtain⟨g,_⟩:=(show ObjOk P w H s.heap f (.frz _ (.own 0))from e0.hok _ _ hf);refine wpAny_call (oh (Jh (ps:=[x]) (us:=[u]) (vs:=[v]) S hr e0 g (hc.rec e0.hok) (hbind u) rfl (.cons r .nil) C hb q) fun r' s' z=>?_);cases r' with
 |error e=>exact z.elim
 |ok fl=>
  cases fl with
  |ret u'=>exact fin u' s' z
  |next=>exact z.elim
  |brk=>exact z.elim
  |cont=>exact z.elim
end
section
variable {P:cy}{w:fq}{K:bx}{mg:Str->Option bb}{base:Heap}{A:ff}{outer:List Env}{s0:bd}{H0:Hp}{k:Nat}{x:Str}{caps:List Str}{qual:Str}{params:qy}{body:Expr}{scope:Scope}{cl:List (Str×Addr)}{pm ctv:bb}{c' f l it S:Addr}{cs:List V}{Q:VK}{t:TE}{kw:List (Str×bb)}
def MinW(l:Addr)(L:Nat)(cs:List V)(t:TE)(Q:VK)(W:Nat->V->Int->Hp->Prop):Prop:=∀n best kb H,W n best kb H->∃xs,xs.length=L/\H l=some (.lst xs)/\(∀v,xs[n]?=some v->t (some v::cs.map some) H fun kv H'=>∃j,kv=.int j/\if j<kb then W (n+1) v j H' else W (n+1) best kb H')/\(L=n->Q best H)
theorem KA{L:Nat}{W:Nat->V->Int->Hp->Prop}(SC:LamScope [x] caps scope)(hr:Room (k+2) A)(ai:∀u,qc (PySem.W.kla_fn "<lambda>" qual params body scope cl pm (.ref c') ctv) ⟨[u],[]⟩=pure [(x,u)])
  (hb:∀s H,PE (cxL P w K mg base ([x]++caps) qual scope cl f (.ref c') A.in1 outer s H) body t) (hW:MinW l L cs t Q W)
  (b1:base.objs.size<=s0.heap.objs.size) (i1:s0.heap.objs.size<=it) (i2:s0.heap.objs.size<=S) (hIS:S≠it) (cb:∀x c,cl.lookup x=some c->c<s0.heap.objs.size) (ffr:∀b∈frs outer,b<s0.heap.objs.size):
  ∀(d n:Nat) (s:bd) (H:Hp) (best:V) (bu:bb) (kb:Int) (tb:Tok) (c:Nat),n+d=L->Env0 P w K mg base A.in1 outer s H->Un (frs outer) [] H0 H s0.heap s.heap->s.os=s0.os->W n best kb H->s.heap.IsListIter it l n->H it=none ->
   s.heap.get? S=some (oo "list" #[bu,.int kb tb] c)->H S=none->RelV best bu->H f=some (.frz (lI qual params body scope cl pm c' ctv) (.own 0))->CodeFz H c' qual->Caps H s.heap cl caps cs ->
   kl (model P w) A (.builtin "min.loop" ⟨[.ref it,.ref f,.ref S],kw⟩) (fun r s'=>match r with | .ok (.ret u)=>CE outer P w H0 s0 Q u s'|_=>False) s:=by
 have aa:(rg "min" ++ rg ".loop":String) = "min.loop":=by decide
 have hh:A.in1.handled=none:=hr.hd;have ap:it∉frs outer:=fun m=>absurd (fc (ffr _ m) i1) (jx _);have an:S∉frs outer:=fun m=>absurd (fc (ffr _ m) i2) (jx _);intro d;induction d with
 |zero=>
  intro n s H best bu kb tb c hn e0 U os hw ac nI hS nS rb hf hc C;obtain⟨xs,hL,hl,_,hq⟩:=hW n best kb H hw;obtain⟨hz,aj,cap,rv,el⟩:=(show ObjOk P w H s.heap l (.lst xs)from e0.hok l _ hl);have ae:s.heap.IsList l aj.toArray:=⟨_,el,rfl,_,rfl⟩;refine gm nu ?_;rw[fx gf _];show bn _ A.in1 (seqItems? (.ref S) >>= _) _ _ s;refine ba (lh hS rfl ?_);show bn _ A.in1 (rh (ls (.ref it)) _ >>= _) _ _ s;refine ba (ju (wpAny_pyNext_list_end hh ac ae (by have:=rv.length;simp;omega) fun h1 k1=>?_));have ab:=k1 S _ hIS hS;have s1:=jv h1 S (gi fun _=>(#[]:Array bb));show bn _ A.in1 (updateSeq S (fun _=>#[]) >>= _) _ _ _;refine ba (jm ab rfl (ba (nz (be ?_))));have k2:∀b o,b≠S->h1.get? b=some o->(h1.update S (gi fun _=>(#[]:Array bb))).get? b=some o:=fun b o nb e=>(s1.2 b nb).trans e;refine⟨best,H,os,e0.bare,kR (kR U i1 fun b o nb e=>k1 b o nb e) i2 k2,e0.hok.stays fun b u e o q=>k2 b o (zL e nS) (k1 b o (zL e nI) q),rb,hq yw⟩
 |succ d ih=>
  intro n s H best bu kb tb c hn e0 U os hw ac nI hS nS rb hf hc C;obtain⟨xs,hL,hl,af,_⟩:=hW n best kb H hw;obtain⟨hz,aj,cap,rv,el⟩:=(show ObjOk P w H s.heap l (.lst xs)from e0.hok l _ hl);have ae:s.heap.IsList l aj.toArray:=⟨_,el,rfl,_,rfl⟩;have hx:=bi (show n<xs.length by omega);generalize xs[n]'yw=v at hx;obtain⟨u,eu,ru⟩:=rv.get hx;refine gm nu ?_;rw[fx gf _];show bn _ A.in1 (seqItems? (.ref S) >>= _) _ _ s;refine ba (lh hS rfl ?_);show bn _ A.in1 (rh (ls (.ref it)) _ >>= _) _ _ s;refine ba (ju (wpAny_pyNext_list_item ac ae (x:=u) (by simpa using eu) fun h1 aq ao=>?_));have k1:∀b o,b≠it->s.heap.get? b=some o->h1.get? b=some o:=fun b o nb e=>ao.extBut b o nb e;have ax:s.heap.objs.size<=h1.objs.size:=le_of_eq ao.1.symm;have e1:Env0 P w K mg base A.in1 outer { s with heap:=h1 } H:=e0.own nI (fv b1 i1) ap k1 ax s.toks;have C1:Caps H h1 cl caps cs:=C.own (fun x c e=>fk (fc (cb x c e) i1)) k1;show bn _ A.in1 (rh (holding [u] (call (.ref f) [u])) _ >>= _) _ _ _;refine ba (ju (gu (BY (k:=k) (s:={ s with heap:=h1 }) SC hr.in1 e1 hf hc ai ru C1 (hb _ _) (af v hx) fun u2 s2 z=>?_)));obtain⟨kv,H2,av,ag,U2,ar,r2,j,rfl,hj⟩:=z;obtain⟨t2,rfl⟩:=r2;have ab:=k1 S _ hIS hS;have ah:=U2.keep S _ ab nS an yv;obtain⟨oI,eI,cI,dI⟩:=id aq;have ak:=U2.keep it _ eI nI ap yv;have au:s2.heap.IsListIter it l (n+1):=⟨oI,ak,cI,dI⟩;have as:H2 it=none:=U2.free it _ eI nI yv;have al:H2 S=none:=U2.free S _ ab nS yv;have bz:base.objs.size<=s2.heap.objs.size:=fv b1 (fv i1 (jc (dw ak)));have e2:=e1.after U2 ar ag bz;have U02:Un (frs outer) [] H0 H2 s0.heap s2.heap:=(kR U i1 k1).trans U2;have C2:=C1.after U2;have f2:=U2.frzs _ _ _ hf;have c2:=hc.un U2;have am:s2.os=s0.os:=av.trans os;show bn _ A.in1 (rh (holding [u,.int j t2] (richCompare .Lt (.int j t2) (.int kb tb) >>= _)) _ >>= _) _ _ _;refine ba (ju (gu (ba (CmpOf.ints_lt (prog:=P) (w:=w) (A:=A.in1) (P:=fun i v=>∃t,v=.int (if i=0 then kb else j) t) (fun i=>if i=0 then kb else j) (fun i v h=>h) 1 0 _ _ _ _ _ ⟨t2,rfl⟩ ⟨tb,rfl⟩ ?_))));refine ba (gu (gy ?_));refine ba (nz (be ?_));by_cases hb':j<kb
  ·rw[cq hb']at hj;have s3:=jv s2.heap S (gi fun _=>#[u,.int j t2]);obtain⟨cc,aw⟩:∃cc,(s2.heap.update S (gi fun _=>#[u,.int j t2])).get? S=some (oo "list" #[u,.int j t2] cc):=⟨_,get?_update_seq ah fun _=>#[u,.int j t2]⟩;have k3:∀b o,b≠S->s2.heap.get? b=some o->(s2.heap.update S (gi fun _=>#[u,.int j t2])).get? b=some o:=fun b o nb e=>(s3.2 b nb).trans e;simp only[if_true,Nat.one_ne_zero,if_false,hb',decide_true];refine ba ?_;refine jm ah rfl (ba (nz ?_));rw[aa];refine be ⟨ig gf _,ih (n+1) { s2 with heap:=s2.heap.update S (gi fun _=>#[u,.int j t2]) } H2 v u j t2 cc yw (e2.own al (fv b1 i2) an k3 (le_of_eq s3.1.symm) s2.toks) (kR U02 i2 k3) am hj ⟨oI,k3 it oI (ic hIS) ak,cI,dI⟩ as aw al ru f2 c2 (C2.own (fun x c e=>fk (fc (cb x c e) i2)) k3)⟩
  ·rw[ck hb']at hj;simp only[if_true,Nat.one_ne_zero,if_false,hb',decide_false,iu];refine ba (nz ?_);rw[aa];exact be ⟨ig gf _,ih (n+1) s2 H2 best bu kb tb c yw e2 U02 am hj au as ah al rb f2 c2 C2⟩
end
end L2
namespace L2
open PySem PySem.Spec PySem.Calls PyProof.Rows
open Sem (wp)
def gY(DN:List Str)(dsc:List (Str×lg))(sc:Scope)(ps caps:List Str)(ks:List Nat):Bool:=
 (ks.length==caps.length)&&decide ((ps++caps).Nodup)&&ps.all (fun x=>sc.names.lookup x==some .local)&&caps.all (fun x=>sc.names.lookup x==some .free&&dsc.lookup x==some .cell) &&
 sc.names.all (fun y=>y.2 != .cell&&(y.2 != .free||caps.contains y.1))&&(ks.zip caps).all (fun p=>DN[p.1]?==some p.2)
section
variable {X:Cx}{zi:List (Addr×Obj)}{σ:St}{H:Hp}{s:bd}{dsc scope:Scope}{L:Nat}{ps caps:List Str}{ks:List Nat}
theorem Kw(hk:scope.kind=.function)(q:scope.isCoroutine=false)(hg:scope.isGenerator=false)(h:gY X.N dsc.names scope ps caps ks=true):LamScope ps caps scope:=by
 simp only[gY,fu,kq,beq_iff_eq,decide_eq_true_eq]at h;obtain⟨⟨⟨⟨⟨_,nd⟩,hp⟩,hc⟩,hn⟩,_⟩:=h;refine⟨hk,q,hg,nd,hp,fun x hx=>(hc x hx).1,fun y hy e=>?_,fun x e=>?_⟩
 ·have:=(hn y hy).1;rw[e]at this;simp at this
 ·have:=(hn _ (PySem.mem_of_lookup e)).2;simpa using this
theorem EN(hd:X.env.scope=dsc)(hc:X.env.cells=cellsFrom L dsc.names [])(h:gY X.N dsc.names scope ps caps ks=true):closureFor scope X.env=pure (cX X.env scope.names []):=by
 subst hd;simp only[gY,fu,kq,beq_iff_eq,decide_eq_true_eq]at h;obtain⟨⟨⟨⟨⟨_,nd⟩,hp⟩,q⟩,hn⟩,_⟩:=h;refine Ce fun y hy e=>?_;have:=(hn y hy).2;rw[e]at this;rw[hc];exact qj _ _ _ (.inl (q _ (by simpa using this)).2)
theorem Ga{cs:List V}(I:Inv X zi σ H s)(hd:X.env.scope=dsc)(hc:X.env.cells=cellsFrom L dsc.names [])(h:gY X.N dsc.names scope ps caps ks=true)(hσ:ks.map (fun i=>(σ[i]?).join)=cs.map some):Caps H s.heap (cX X.env scope.names []) caps cs:=by
 have ah:=EN hd hc h;subst hd;simp only[gY,fu,kq,beq_iff_eq,decide_eq_true_eq]at h;obtain⟨⟨⟨⟨⟨hl,nd⟩,hp⟩,ac⟩,hn⟩,hz⟩:=h;have ab:∀x,X.env.scope.names.lookup x=some .cell->(X.env.cells.lookup x).isSome=true:=fun x e=>by
  rw[hc];exact qj _ _ _ (.inl e)
 have sub:∀x c,(cX X.env scope.names []).lookup x=some c->X.env.cells.lookup x=some c/\x∈caps:=fun x c e=>by
  rcases xD (PySem.mem_of_lookup e)with q|⟨q,ec⟩
  ·cases q
  ·have hx:x∈caps:=by have:=(hn _ q).2;simpa using this
   obtain⟨c',ag⟩:=isSome_iff_exists.mp (ab x (ac x hx).2);refine⟨?_,hx⟩;rw[ec,ag];rfl
 have has:∀x∈caps,∃c,(cX X.env scope.names []).lookup x=some c:=fun x hx=>by
  obtain⟨c,hm⟩:=vB (env:=X.env) (acc:=[]) (PySem.mem_of_lookup (ac x hx).1);exact vF hm
 have lc:cs.length=caps.length:=by
  have:=congrArg List.length hσ;simp only[bq]at this;omega
 refine⟨lc,fun x y c h1 h2=>I.ok.inj x y c (sub x c h1).1 (sub y c h2).1,fun x=>⟨has x,fun⟨c,e⟩=>(sub x c e).2⟩,fun i x v e1 e2=>?_,fun x c e=>⟨I.freeC x c (sub x c e).1,I.cell x c (sub x c e).1⟩⟩;obtain⟨c,ec⟩:=has x (bw e1);have hi:i<ks.length:=by
  have:=(List.getElem?_eq_some_iff.mp e1).1;omega
 have ek:=bi hi;have aa:(σ[ks[i]]?).join=some v:=by
  have:=congrArg (fun l=>l[i]?) hσ;simp only[fh,e2,ek,map_some]at this;exact gb this
 have ae:σ[ks[i]]?=some (some v):=by
  cases q:σ[ks[i]]? with
  |none=>rw[q]at aa;cases aa
  |some a=>rw[q]at aa;rw[show a=some v from aa]
 have hN:X.N[ks[i]]?=some x:=hz (ks[i],x) (bw (i:=i) (by rw[List.getElem?_zip_eq_some];exact⟨ek,e1⟩));have z:=(ac x (bw e1)).2;obtain⟨m,_,af⟩:=I.loc;obtain⟨u,rv,lk⟩:=af _ x v hN ae (.inr (.inl z));rcases lk with ⟨k1,_⟩|⟨_,c',q1,q2⟩
 ·exact absurd ((show X.env.kindOf x=some .cell from z).symm.trans k1) dz
 ·rw[(sub x c ec).1]at q1;cases q1;exact⟨c,u,ec,rv,q2⟩
end
theorem Eu{h o:List Addr}{H:Hp}{δ:XE}{σ:St}(r:RepE h o H δ σ):∀{ks:List Nat}{cs:List XV},ks.map (fun i=>(δ[i]?).join)=cs.map some->∃vs:List V,ks.map (fun i=>(σ[i]?).join)=vs.map some/\HasXs h o H cs vs
 | [],[],_=>⟨[],rfl,rfl⟩
 | [],_::_,e=>by simp at e
 |_::_,[],e=>by simp at e
 |k::ks,x::cs,e=>by
  simp only[ft,pb]at e;obtain⟨e1,e2⟩:=e;have e3:δ[k]?=some (some x):=by
   cases q:δ[k]? with
   |none=>rw[q]at e1;cases e1
   |some a=>rw[q]at e1;rw[show a=some x from e1]
  obtain⟨v,e4,hv⟩:=r.get k x e3;obtain⟨vs,e5,hl⟩:=Eu r e2;refine⟨v::vs,?_,v,vs,rfl,hv,hl⟩;simp only[ft,e4,e5];rfl
end L2
namespace L2
open PySem PySem.Spec PyProof.Rows
section
theorem lo{sc:Scope}{x:Str}(h:sc.names.lookup x=some .local:=by rfl):Loc sc x:=gj h
theorem fsd{N P:List Str}{sc:Scope}(h:wW N P sc=true:=by decide +kernel):FnScope N P sc:=fsc h
end
end L2
namespace L2
open PySem PySem.Spec PySem.Calls PyProof.Rows
inductive AllK {α:Type} (F:α->bb->Prop):List α->List bb->Prop
 |nil:AllK F [] []
 |cons {k v ks vs}:F k v->AllK F ks vs->AllK F (k::ks) (v::vs)
def KAt(h:Heap):(s:KSg)->KG s->bb->Prop
 | .int,i,v=>px i v=true
 | .bool,b,v=>v=.bool b
 | .many s,ks,v=>∃a vs,v=.ref a/\h.IsTuple a vs/\AllK (KAt h s) ks vs.toList
 | .two s t,k,v=>∃a u w,v=.ref a/\h.IsTuple a #[u,w]/\KAt h s k.1 u/\KAt h t k.2 w
def kdraw:(s:KSg)->KG s->Nat
 | .int,_=>1
 | .bool,_=>1
 | .many s,ks=>(ks.map (kdraw s)).sum+1
 | .two s t,k=>kdraw s k.1+kdraw t k.2+1
def KSg.dp:KSg->Nat
 | .int=>0
 | .bool=>0
 | .many s=>s.dp+1
 | .two s t=>max s.dp t.dp+1
theorem AllK.inj{α:Type}{F:α->bb->Prop}(hi:∀a b v,F a v->F b v->a=b):∀{xs ys:List α}{vs:List bb},AllK F xs vs->AllK F ys vs->xs=ys
 |_,_,_,.nil,.nil=>rfl
 |_,_,_,.cons a l,.cons b m=>by rw[hi _ _ _ a b,AllK.inj hi l m]
theorem AI{h:Heap}{a:Addr}{vs us:Array bb}(x:h.IsTuple a vs)(y:h.IsTuple a us):vs=us:=by
 obtain⟨o,e,c,n,d⟩:=x;obtain⟨o',e',c',n',d'⟩:=y;rw[e]at e';cases e';rw[d]at d';injection d'
theorem KAt.inj{h:Heap}:∀(s:KSg) {x y:KG s}{v:bb},KAt h s x v->KAt h s y v->x=y
 | .int,x,y,v,a,b=>Value.isInt_inj v x y a b
 | .bool,x,y,v,a,b=>by
  have:=(show v=.bool x from a).symm.trans (show v=.bool y from b);injection this
 | .many s,x,y,v,⟨a,vs,e,t,l⟩,⟨a',vs',e',t',l'⟩=>by
  subst e;injection e' with e'
  subst e';rw[AI t' t]at l';exact AllK.inj (F:=KAt h s) (fun _ _ _ p q=>KAt.inj s p q) l l'
 | .two s t,x,y,v,⟨a,u,w,e,tt,l,m⟩,⟨a',u',w',e',tt',l',m'⟩=>by
  subst e;injection e' with e'
  subst e';have z:=AI tt' tt;have z1:u'=u:=by have:=congrArg (fun q=>q[0]?) z;simpa using this
  have z2:w'=w:=by have:=congrArg (fun q=>q[1]?) z;simpa using this
  subst z1 z2;exact Prod.ext (KAt.inj s l l') (KAt.inj t m m')
theorem AllK.imp{α:Type}{F G:α->bb->Prop}(hi:∀a v,F a v->G a v):∀{xs:List α}{vs:List bb},AllK F xs vs->AllK G xs vs
 |_,_,.nil=>.nil
 |_,_,.cons a l=>.cons (hi _ _ a) (l.imp hi)
theorem Dg{h h':Heap}{a d:Addr}{vs:Array bb}{o:Obj}{es ep}(x:h.IsTuple a vs)(ho:h.get? d=some o)(hd:o.data=.dict es ep)(hs:ij d h h'):h'.IsTuple a vs:=by
 obtain⟨o',e,c,n,q⟩:=x;have z:a≠d:=by
  rintro rfl;rw[ho]at e;cases e;rw[hd]at q;cases q
 exact⟨o',(hs.2 a z).trans e,c,n,q⟩
theorem KAt.keeps{h h':Heap}{d:Addr}{o:Obj}{es ep}(ho:h.get? d=some o)(hd:o.data=.dict es ep)(hs:ij d h h'):∀(s:KSg) {k:KG s}{v:bb},KAt h s k v->KAt h' s k v
 | .int,_,_,x=>x
 | .bool,_,_,x=>x
 | .many s,_,_,⟨a,vs,e,t,l⟩=>⟨a,vs,e,Dg t ho hd hs,l.imp fun _ _ q=>KAt.keeps ho hd hs s q⟩
 | .two s t,_,_,⟨a,u,w,e,tt,l,m⟩=>⟨a,u,w,e,Dg tt ho hd hs,KAt.keeps ho hd hs s l,KAt.keeps ho hd hs t m⟩
section
variable {prog:cy}{w:fq}{A:ff}{E:bb->bd->Prop}{s:bd}
theorem Fm{b:Bool}{Q:Int->bd->Prop}(h:Q (reduceHash (match b with|true=>1|false=>0)) { s with toks:=s.toks+1 }):bn (model prog w) A (pyHash (.bool b)) Q E s:=by
 refine W.pyHash_slot (T:="bool") rfl F.slot_bool_hash PySem.entry_int_hash (PySem.args_int_hash _) (beq_builtin_none _) (.inl rfl) ?_;cases b
 ·exact(show bn _ _ (do ret (<- mkInt 0)) _ _ s from ba (wpAny_mkInt (be ⟨_,_,rfl,h⟩)))
 ·exact(show bn _ _ (do ret (<- mkInt 1)) _ _ s from ba (wpAny_mkInt (be ⟨_,_,rfl,h⟩)))
theorem Aw{a:Addr}{vs:Array bb}{Q:Int->bd->Prop}(ht:s.heap.IsTuple a vs)(hu:A.units<jn)(L:List (bb×Int×Nat))(hv:vs.toList=L.map (·.1))
  (hp:∀x∈L,∀(E':bb->bd->Prop) (s':bd) (Q':Int->bd->Prop),s'.heap=s.heap->Q' x.2.1 { s' with toks:=s'.toks+x.2.2 }->bn (model prog w) A.in1 (pyHash x.1) Q' E' s')
  (h:Q (reduceHash (jg (L.map (·.2.1)))) { s with toks:=s.toks+((L.map (·.2.2)).sum+1) }):bn (model prog w) A (pyHash (.ref a)) Q E s:=by
 have hT:s.TypeIs (.ref a) "tuple":=let ⟨o,e,c,_⟩:=ht;⟨o,e,c⟩;obtain⟨o,ho,hc,n,hd⟩:=ht;refine W.pyHash_slot (T:="tuple") hT F.slot_tuple_hash F.entry_tuple_hash (F.args_tuple_hash_1 _) (beq_builtin_none _) (.inr hu) ?_;show bn _ _ (Builtin.Tuple.tupleItemsOf (.ref a) >>= _) _ _ s;refine ba (wpAny_tupleItemsOf ho hd ?_);refine ba ?_;rw[<- Array.forIn_toList];refine wpAny_forIn_list _
  (fun rest (b:Array Int) s'=>∃done left,L=done++left/\rest=left.map (·.1)/\b.toList=done.map (·.2.1)/\s' = { s with toks:=s.toks+(done.map (·.2.2)).sum })
  _ ?_ ?_ _ _ ⟨[],L,rfl,hv,rfl,rfl⟩
 ·rintro x rest b s' ⟨done,left,e,hl,hb,rfl⟩;cases left with
  |nil=>simp at hl
  |cons y left=>
   rw[ft,pb]at hl;rw[hl.1];refine ba (hp y (by rw[e];simp) _ _ _ rfl ?_);have fin:∃done' left',L=done'++left'/\rest=left'.map (·.1)/\(b.push y.2.1).toList=done'.map (·.2.1)/\({ s with toks:=s.toks+(done.map (·.2.2)).sum+y.2.2 }:bd) = { s with toks:=s.toks+(done'.map (·.2.2)).sum } :=
    ⟨done++[y],left,by rw[e];simp,hl.2,by simp[hb],by simp[Nat.add_assoc]⟩
   first
    |exact be fin
    |exact ba (be (be fin))
 ·rintro b s' ⟨done,left,e,hl,hb,rfl⟩;cases left with
  |cons y left=>simp at hl
  |nil=>
   rw[gl]at e;subst e;show bn _ _ (retInt (jg b.toList)) _ _ _;rw[hb];exact(show bn _ _ (do ret (<- mkInt (jg (L.map (·.2.1))))) _ _ _ from ba (wpAny_mkInt (be ⟨_,_,rfl,by simpa[Nat.add_assoc]using h⟩)))
theorem tO:∀(g:KSg) {k:KG g}{v:bb}{A:ff}{E:bb->bd->Prop}{s:bd}{Q:Int->bd->Prop},A.units+g.dp<jn->KAt s.heap g k v->Q (khash g k) { s with toks:=s.toks+kdraw g k }->bn (model prog w) A (pyHash v) Q E s
 | .int,k,v,A,E,s,Q,_,x,h=>by
  obtain⟨t,rfl⟩:=pi x;exact wpAny_pyHash_int h
 | .bool,k,v,A,E,s,Q,_,x,h=>by
  rw[show v=.bool k from x];exact Fm h
 | .many g,k,v,A,E,s,Q,hu,⟨a,vs,e,t,l⟩,h=>by
  subst e;have z:A.units+(g.dp+1)<jn:=hu;have aa:∀(ks:List (KG g)) (us:List bb),AllK (KAt s.heap g) ks us->∃L:List (bb×Int×Nat),us=L.map (·.1)/\L.map (·.2.1)=ks.map (khash g)/\L.map (·.2.2)=ks.map (kdraw g)/\∀x∈L,∃k,KAt s.heap g k x.1/\x.2.1=khash g k/\x.2.2=kdraw g k:=by
   intro ks us q;induction q with
   |nil=>exact⟨[],rfl,rfl,rfl,yv⟩
   | @cons k u ks us q1 _ ih=>
    obtain⟨L,h1,h2,h3,h4⟩:=ih;refine⟨(u,khash g k,kdraw g k)::L,by rw[h1];rfl,by rw[ft,ft,h2],by rw[ft,ft,h3],fun x m=>?_⟩;rcases mem_cons.mp m with rfl|m
    ·exact⟨k,q1,rfl,rfl⟩
    ·exact h4 x m
  obtain⟨L,h1,h2,h3,h4⟩:=aa k vs.toList l;refine Aw t yw L h1 (fun x m E' s' Q' eh hq=>?_) (by rw[h2,h3];exact h);obtain⟨k',q1,q2,q3⟩:=h4 x m;refine tO g (k:=k') (by show A.units+1+g.dp<jn;omega) (by rw[eh];exact q1) ?_;rw[<- q2,<- q3];exact hq
 | .two g g',k,v,A,E,s,Q,hu,⟨a,u,u',e,t,l,m⟩,h=>by
  subst e;have z:A.units+(max g.dp g'.dp+1)<jn:=hu;refine Aw t yw [(u,khash g k.1,kdraw g k.1),(u',khash g' k.2,kdraw g' k.2)] rfl (fun x mx E' s' Q' eh hq=>?_) ?_
  ·simp only[jd,gq,or_false]at mx;rcases mx with rfl|rfl
   ·exact tO g (k:=k.1) (by show A.units+1+g.dp<jn;omega) (by rw[eh];exact l) hq
   ·exact tO g' (k:=k.2) (by show A.units+1+g'.dp<jn;omega) (by rw[eh];exact m) hq
  ·have h':Q (reduceHash (jg [khash g k.1,khash g' k.2])) { s with toks:=s.toks+(kdraw g k.1+kdraw g' k.2+1) }:=h;simpa[Nat.add_assoc]using h'
theorem Jv(a b:Int):(a==b)=decide (a=b):=by by_cases z:a=b<;>simp[z]
theorem JT(a b:Bool):(a==b)=decide (a=b):=by cases a<;>cases b<;>rfl
theorem AllK.length{α:Type}{F:α->bb->Prop}:∀{xs:List α}{vs:List bb},AllK F xs vs->xs.length=vs.length
 |_,_,.nil=>rfl
 |_,_,.cons _ l=>by rw[cw,cw,l.length]
theorem AllK.get{α:Type}{F:α->bb->Prop}:∀{xs:List α}{vs:List bb}{j:Nat}{v:bb},AllK F xs vs->vs[j]?=some v->∃x,xs[j]?=some x/\F x v
 |_,_,0,v,.cons a _,e=>by simp at e;subst e;exact⟨_,rfl,a⟩
 |_,_,j+1,v,.cons _ l,e=>by obtain⟨x,e1,e2⟩:=l.get (j:=j) (by simpa using e);exact⟨x,by simpa using e1,e2⟩
theorem K9{α:Type}[DecidableEq α](x y:List α):((dm (min x.length y.length)).all (fun j=>decide (x[j]?=y[j]?))&&x.length==y.length)=decide (x=y):=by
 by_cases e:x=y
 ·subst e;simp
 ·rw[dh e,Bool.and_eq_false_iff];by_cases hl:x.length=y.length
  ·left;rw[<- Bool.not_eq_true,kq];intro h;refine e (List.ext_getElem? fun j=>?_);rcases Nat.lt_or_ge j x.length with hj|hj
   ·exact jh (h j (mem_range.mpr yw))
   ·rw[getElem?_eq_none hj,getElem?_eq_none yw]
  ·right;exact beq_eq_false_iff_ne.mpr hl
theorem KQ{α:Type}[DecidableEq α]{F:α->bb->Prop}{A:ff}{s:bd}{a a':Addr}{x y:List α}{vs aa:Array bb}(l:AllK F x vs.toList)(l':AllK F y aa.toList)(t:s.heap.IsTuple a vs)(t':s.heap.IsTuple a' aa)(hu:A.units<jn)(ha:a≠a')
  (he:∀k k' u v,F k u->F k' v->PySem.SeqAt.EqAt A.in1 s u v (decide (k=k'))):PySem.SeqAt.EqAt A s (.ref a) (.ref a') (decide (x=y)):=by
 have c:=PySem.SeqAt.RcAt.tuples (A:=A) (e:=fun j=>decide (x[j]?=y[j]?)) t t' hu (fun j h1 h2=>by
  obtain⟨k,e1,k1⟩:=l.get (j:=j) (v:=vs[j]) (by simp[h1]);obtain⟨k',e2,k2⟩:=l'.get (j:=j) (v:=aa[j]) (by simp[h2]);have z:decide (x[j]?=y[j]?)=decide (k=k'):=by
   rw[e1,e2];by_cases q:k=k'<;>simp[q]
  show PySem.SeqAt.EqAt A.in1 s vs[j] aa[j] (decide (x[j]?=y[j]?));rw[z];exact he _ _ _ _ k1 k2)
 have n1:x.length=vs.size:=by rw[l.length,fg]
 have n2:y.length=aa.size:=by rw[l'.length,fg]
 rw[<- n1,<- n2,K9]at c;exact PySem.SeqAt.EqAt.of_refs ha c
theorem Jq{e:Nat->Bool}:(dm 2).all e=(e 0&&e 1):=by
 rw[show dm 2=[0,1]from rfl];simp
theorem vI:∀(g:KSg) {x y:KG g}{u v:bb}{A:ff}{s:bd},A.units+g.dp<jn->KAt s.heap g x u->KAt s.heap g y v->PySem.SeqAt.EqAt A s u v (decide (x=y))
 | .int,x,y,u,v,A,s,_,p,q=>by
  obtain⟨t,rfl⟩:=pi p;obtain⟨t',rfl⟩:=pi q;exact fun prog w E Q h=>wpAny_eqBool_int (by
   have z:((show Int from x)==(show Int from y))=decide (x=y):=Jv x y;rw[z];exact h)
 | .bool,x,y,u,v,A,s,_,p,q=>by
  rw[show u=.bool x from p,show v=.bool y from q];have z:((show Bool from x)==(show Bool from y))=decide (x=y):=JT x y;rw[<- z];exact PySem.SeqAt.EqAt.bool_bool _ _
 | .many g,x,y,u,v,A,s,hu,⟨a,vs,e,t,l⟩,⟨a',vs',e',t',l'⟩=>by
  subst e e';have aa:A.units+(g.dp+1)<jn:=hu;by_cases ha:a=a'
  ·subst ha;rw[AI t' t]at l';rw[fe (show x=y from AllK.inj (F:=KAt s.heap g) (fun _ _ _ p q=>KAt.inj g p q) l l')];exact PySem.SeqAt.EqAt.same _
  ·exact KQ (F:=KAt s.heap g) l l' t t' yw ha fun k k' u v p q=>vI g (by show A.units+1+g.dp<jn;omega) p q
 | .two g g',x,y,u,v,A,s,hu,⟨a,p,q,e,t,l,m⟩,⟨a',p',q',e',t',l',m'⟩=>by
  subst e e';have aa:A.units+(max g.dp g'.dp+1)<jn:=hu;by_cases ha:a=a'
  ·subst ha;rw[fe (show x=y from KAt.inj (.two g g') (v:=.ref a) ⟨a,p,q,rfl,t,l,m⟩ ⟨a,p',q',rfl,t',l',m'⟩)];exact PySem.SeqAt.EqAt.same _
  ·have c:=PySem.SeqAt.RcAt.tuples (A:=A) (e:=fun j=>if j=0 then decide (x.1=y.1)else decide (x.2=y.2)) t t' yw (fun j h1 h2=>by
    have:j=0\/j=1:=by have:j<2:=h1;omega
    rcases this with rfl|rfl
    ·exact vI g (by show A.units+1+g.dp<jn;omega) l l'
    ·exact vI g' (by show A.units+1+g'.dp<jn;omega) m m')
   have e:decide (x=y)=((dm (min (#[p,q]:Array bb).size (#[p',q']:Array bb).size)).all (fun j=>if j=0 then decide (x.1=y.1)else decide (x.2=y.2))&&(#[p,q]:Array bb).size==(#[p',q']:Array bb).size):=by
    show _=((dm 2).all _&&true);rw[Jq,qp];obtain⟨x1,x2⟩:=x;obtain⟨y1,y2⟩:=y;show decide ((x1,x2)=(y1,y2))=(decide (x1=y1)&&decide (x2=y2));by_cases z1:x1=y1<;>by_cases z2:x2=y2<;>simp[z1,z2]
   rw[e];exact PySem.SeqAt.EqAt.of_refs ha c
theorem BF{n:Nat}{a:Addr}{vs:Array bb}{A:ff}{E:bb->bd->Prop}{s:bd}{Q:Bool->bd->Prop}(ht:s.heap.IsTuple a vs)(hq:∀v∈vs.toList,∀(E':bb->bd->Prop) (Q':Bool->bd->Prop),Q' true s->bn (model prog w) A (eqIsQuiet n v) Q' E' s)(h:Q true s):bn (model prog w) A (eqIsQuiet (n+1) (.ref a)) Q E s:=by
 have hT:s.TypeIs (.ref a) "tuple":=let ⟨o,e,c,_⟩:=ht;⟨o,e,c⟩;obtain⟨o,ho,hc,m,hd⟩:=ht;unfold eqIsQuiet;refine ba (wpAny_specialOf hT F.slot_tuple_eq.lookup ?_);show bn _ _ (isInstance (.ref a) (.type "tuple") >>= _) _ _ s;refine ba (kj hT isSubtype_tuple_tuple ?_);simp only[Bool.not_true,iu,if_false];refine ba (lh ho hd ?_);refine ba ?_;show bn _ _ (forIn vs _ _) _ _ s;rw[<- Array.forIn_toList];refine wpAny_forIn_list _ (fun rest r s'=>r.1=none/\s'=s/\∀v∈rest,v∈vs.toList) _ ?_ ?_ _ _ ⟨rfl,rfl,fun v m=>m⟩
 ·rintro v rest r s' ⟨hr,rfl,q⟩;refine ba (hq v (q v br) _ _ ?_);simp only[Bool.not_true,iu,if_false];exact be ⟨rfl,rfl,fun u z=>q u (bp _ z)⟩
 ·rintro⟨r1,r2⟩ s' ⟨hr,rfl,_⟩;simp only at hr;subst hr;exact be h
theorem rY:∀(n:Nat) (g:KSg) {k:KG g}{v:bb}{A:ff}{E:bb->bd->Prop}{s:bd}{Q:Bool->bd->Prop},g.dp<=n->KAt s.heap g k v->Q true s->bn (model prog w) A (eqIsQuiet n v) Q E s
 |n,.int,k,v,A,E,s,Q,_,x,h=>by
  obtain⟨t,rfl⟩:=pi x;rw[eqIsQuiet_byValue n rfl];exact be h
 |n,.bool,k,v,A,E,s,Q,_,x,h=>by
  rw[show v=.bool k from x,eqIsQuiet_byValue n rfl];exact be h
 | 0,.many g,k,v,A,E,s,Q,hn,x,h=>absurd (show g.dp+1<=0 from hn) yw
 | 0,.two g g',k,v,A,E,s,Q,hn,x,h=>absurd (show max g.dp g'.dp+1<=0 from hn) yw
 |n+1,.many g,k,v,A,E,s,Q,hn,⟨a,vs,e,t,l⟩,h=>by
  have z:g.dp+1<=n+1:=hn;subst e;refine BF t (fun v m E' Q' hq=>?_) h;obtain⟨j,hj⟩:=mem_iff_getElem?.mp m;obtain⟨k',_,q⟩:=l.get hj;exact rY n g yw q hq
 |n+1,.two g g',k,v,A,E,s,Q,hn,⟨a,u,u',e,t,l,m⟩,h=>by
  have z:max g.dp g'.dp+1<=n+1:=hn;subst e;refine BF t (fun v mv E' Q' hq=>?_) h;simp only[jd,gq,or_false]at mv;rcases mv with rfl|rfl
  ·exact rY n g yw l hq
  ·exact rY n g' yw m hq
end
def qW(prog:cy)(w:fq)(g:KSg)(hg:g.dp<=8):HeapKind prog w (KG g) where
 is:=fun h k a=>KAt h g k (.ref a)
 hash:=khash g
 draws:=kdraw g
 room:=fun A=>A.units+g.dp<jn
 inj:=fun hx hy=>KAt.inj g hx hy
 keeps:=fun x ho hd hs=>x.keeps ho hd hs
 pyHash:=fun hu hk h=>tO g hu hk h
 eqBool:=fun hu hx hy h=>vI g hu hx hy _ _ _ _ h
 quiet:=fun hk h=>rY 8 g hg hk h
theorem Cr{g:KSg}{h:Heap}{H:Hp}(f:∀{k:KG g}{v:V}{u:bb},Has H (kdat g k) v->RelV v u->KAt h g k u):∀{ks:List (KG g)}{vs:List V}{us:List bb},HasL H (ks.map (kdat g)) vs->Vals vs us->AllK (KAt h g) ks us
 | [],vs,us,l,r=>by rw[zv.mp l]at r;cases r;exact .nil
 |k::ks,vs,us,l,r=>by
  obtain⟨v,t,rfl,q,l⟩:=zo.mp l;cases r with
  |cons r1 r2=>exact .cons (f q r1) (Cr f l r2)
theorem iK{P:cy}{w:fq}{H:Hp}{h:Heap}(ok:HOk P w H h):∀(g:KSg) {k:KG g}{v:V}{u:bb},Has H (kdat g k) v->RelV v u->KAt h g k u
 | .int,k,v,u,q,r=>by
  rw[eU.mp q]at r;obtain⟨t,rfl⟩:=r;exact beq_self_eq_true (α:=Int) k
 | .bool,k,v,u,q,r=>by
  rw[iD.mp q]at r;exact r
 | .many g,k,v,u,q,r=>by
  obtain⟨a,vs,rfl,ea,l⟩:=cO.mp q;obtain rfl:u=fb a:=r;obtain⟨_,z,rv,o,e1,e2,n,e3⟩:=(show ObjOk P w H h a (.tup vs)from ok a _ ea);exact⟨a,z.toArray,rfl,⟨o,e1,e2,n,e3⟩,Cr (fun q r=>iK ok g q r) l rv⟩
 | .two g g',k,v,u,q,r=>by
  obtain⟨a,vs,rfl,ea,l⟩:=cO.mp q;obtain rfl:u=fb a:=r;obtain⟨v1,t1,rfl,q1,l⟩:=zo.mp l;obtain⟨v2,t2,rfl,q2,l⟩:=zo.mp l;obtain rfl:=zv.mp l;obtain⟨_,z,rv,o,e1,e2,n,e3⟩:=(show ObjOk P w H h a (.tup [v1,v2])from ok a _ ea);cases rv with
  |cons r1 rv=>
   cases rv with
   |cons r2 rv=>
    cases rv;exact⟨a,_,_,rfl,⟨o,e1,e2,n,e3⟩,iK ok g q1 r1,iK ok g' q2 r2⟩
theorem qD{P:cy}{w:fq}{H:Hp}{h:Heap}{a:Addr}{ob:Obj}{g:KSg}{xs:List (KG g×Addr×bb)}(hg:g.dp<=8)(ok:HOk P w H h)(e:H a=some (obO a ob))(pd:PDict g ob xs)(hk:∀x∈xs,Has H (kdat g x.1) (.ref x.2.1)):h.DictOfH (qW P w g hg) a xs:=by
 obtain⟨e1,_,_⟩:=(show ObjOk P w H h a (obO a ob)from ok a _ e);obtain⟨hx,es,ep,e2,e3,e4⟩:=pd;exact⟨ob,es,ep,e1,hx,e2,e3,fun x m=>iK ok g (hk x m) rfl,e4⟩
theorem FE{P:cy}{w:fq}{H:Hp}{h:Heap}{a:Addr}{ob:Obj}(e:h.get? a=some ob):ObjOk P w H h a (obO a ob):=⟨e,⟨ob,e⟩,fun h1 h2 q k=>k ob q⟩
def KSg.tup:KSg->Bool
 | .int=>false
 | .bool=>false
 |_=>true
theorem t9{H:Hp}{g:KSg}(hg:g.tup=true){k:KG g}{v:V}(q:Has H (kdat g k) v):∃b,v=.ref b:=by
 cases g with
 |int=>cases hg
 |bool=>cases hg
 |many g=>obtain⟨b,_,rfl,_⟩:=cO.mp q;exact⟨b,rfl⟩
 |two g g'=>obtain⟨b,_,rfl,_⟩:=cO.mp q;exact⟨b,rfl⟩
def ob0:Obj:={ cls:=.type "dict",data:=.dict #[] }
theorem pd0(g:KSg):PDict g ob0 []:=⟨⟨rfl,rfl,rfl⟩,#[],0,rfl,rfl,pf⟩
def uT:TE:=fun _ H Q=>∀p,H p=none->(p==qv)=false->Q (.ref p) (upd H p (obO p ob0))
def GAt(H:Hp)(a:Addr)(g:KSg)(ob:Obj)(xs:List (KG g×Addr×bb)):Prop:=H a=some (obO a ob)/\(a==qv)=false/\PDict g ob xs/\∀x∈xs,Has H (kdat g x.1) (.ref x.2.1)
section
variable {X:Cx}{pos apos cpos:Pos}{o e f:Expr}{td ty tx:TE}
theorem BO:PE X (.Dict [] [] pos) uT:=fun zi s σ H Q I h=>
 wpAny_Dict_empty ⟨.ref s.heap.objs.size,_,I.laid (a:=s.heap.objs.size) (o:=obO s.heap.objs.size ob0) (t':=s.toks) (fun _ _ q=>bf _ q) (cz _) (FE (cj _ rfl)),rfl,h _ (I.hok.fresh (cz _)) (beq_eq_false_iff_ne.mpr (ic (fk I.big)))⟩
end
end L2
namespace L2
open PySem PySem.Spec PySem.Calls PyProof.Rows
section
variable {G:Hp}{g:KSg}
theorem PrG.length:∀{m:List (KG g×bc)}{xs:List (KG g×Addr×bb)},PrG G g m xs->xs.length=m.length
 | [],_,q=>by rw[show _=[]from q];rfl
 |p::r,_,⟨q,t,e,_,_,_,l⟩=>by rw[e,cw,cw,PrG.length l]
theorem PrG.has:∀{m:List (KG g×bc)}{xs:List (KG g×Addr×bb)},PrG G g m xs->∀x∈xs,Has G (kdat g x.1) (.ref x.2.1)
 | [],_,q,x,mx=>by rw[show _=[]from q]at mx;cases mx
 |p::r,_,⟨q,t,e,e1,h1,_,l⟩,x,mx=>by
  rw[e]at mx;rcases mem_cons.mp mx with rfl|mx
  ·rw[e1];exact h1
  ·exact PrG.has l x mx
theorem PrG.at_(k:KG g):∀{m:List (KG g×bc)}{xs:List (KG g×Addr×bb)},PrG G g m xs->(lkA m k=none/\atKey xs k=none)\/∃d p v,lkA m k=some d/\atKey xs k=some p/\Has G d v/\RelV v p.2
 | [],xs,q=>by rw[show xs=[]from q];exact .inl ⟨rfl,rfl⟩
 |p::r,xs,⟨q,t,e,e1,h1,⟨v,h2,h3⟩,l⟩=>by
  subst e;by_cases hk:p.1=k
  ·exact .inr ⟨p.2,q.2,v,by simp[lkA,hk],by simp[atKey,e1,hk],h2,h3⟩
  ·have z1:lkA (p::r) k=lkA r k:=by simp[lkA,hk]
   have z2:atKey (q::t) k=atKey t k:=by simp[atKey,e1,hk]
   rw[z1,z2];exact PrG.at_ k l
theorem PrG.snoc{k:KG g}{b:Addr}{d:bc}{v:V}{r:bb}(h1:Has G (kdat g k) (.ref b))(h2:Has G d v)(h3:RelV v r):∀{m:List (KG g×bc)}{xs:List (KG g×Addr×bb)},PrG G g m xs->PrG G g (m++[(k,d)]) (xs++[(k,b,r)])
 | [],xs,q=>by rw[show xs=[]from q];exact⟨_,[],rfl,rfl,h1,⟨v,h2,h3⟩,rfl⟩
 |p::r,xs,⟨q,t,e,e1,z1,z2,l⟩=>by subst e;exact⟨q,_,rfl,e1,z1,z2,PrG.snoc h1 h2 h3 l⟩
end
end L2
namespace L2
open PySem PySem.Spec PyProof.Rows
section
def hB(b:Bool):Int:=reduceHash (match b with|true=>1|false=>0)
def kB(e:Int×bb):Bool:=match e.2 with
 | .bool b=>b
 |_=>false
end
section
section
variable {prog:cy}{w:fq}{A:ff}{E:bb->bd->Prop}{s:bd}
open AutoSeq1 (wpAny_loadPart') in
theorem J4(l b:Addr)(q:Array bb)(n:Nat)(dd z:Option Addr)(dt:Data)(sl aa:Array (Option bb)):
  Meets (pj.«tuple.__ne__» ⟨[.ref l,.ref b],[]⟩) (fun _ R s=>s.heap.get? l=some { cls:=.type "tuple",dict:=dd,data:=.seq q n,slots:=sl }/\s.heap.get? b=some { cls:=.type "dict",dict:=z,data:=dt,slots:=aa }/\R (.ok (.ret .notImplemented)) s):=
 .of_wp fun prog w A R s h=>by obtain⟨hp,g,d,tk,os⟩:=s;obtain⟨hl,hb,h⟩:=h;have f1:=F.sub_dict_tuple;wp_walk using wpAny_loadPart' hl,wpAny_loadPart' hb;exact⟨_,rfl,h⟩
theorem KM{a b:Addr}{oa ob:Obj}{q:Array bb}{n:Nat}(ha:s.heap.get? a=some oa)(ca:oa.cls=.type "dict")(hb:s.heap.get? b=some ob)(cb:ob.cls=.type "tuple")(db:ob.data=.seq q n)(hu:A.units<jn){Q:bb->bd->Prop}
  (h:Q (.bool true) s):bn (model prog w) A (gd .NotEq (.ref a) (.ref b)) Q E s:=by
 have af:a≠b:=fun e=>by
  subst e;rw[ha]at hb;cases hb;rw[ca]at cb;exact absurd cb dz
 have ta:s.TypeIs (.ref a) "dict":=⟨_,ha,ca⟩;have tb:s.TypeIs (.ref b) "tuple":=⟨_,hb,cb⟩;refine SeqAt.rc_ne_decline_or (k:=false) ta tb dz F.sub_tuple_dict F.slot_dict_ne F.slot_tuple_ne_refl (fun Q' hq=>?_) (fun Q' hq=>?_) (fun Q' hq=>wpAny_isSame_ref_other af ha hb (by rw[ca];simp) hq) (.inr hu) h
 ·refine jz F.slot_dict_ne ta F.entry_dict_ne ?_ (F.args_dict_ne_2 _ _);show bn _ _ (Builtin.Dict.dictSlotArgs "__ne__" ⟨[.ref a,.ref b],[]⟩ >>= _) _ _ s;refine ba ?_;unfold Builtin.Dict.dictSlotArgs;refine ba (wpAny_notOrdered_dict ta ?_);show bn _ _ (pure (fb a,fb b)) _ _ s;refine be ?_;refine ba (kj (T:="tuple") tb F.sub_tuple_dict ?_);simp only[Bool.not_false,if_true];exact ba (wpAny_rule (be ⟨_,rfl,hq⟩))
 ·obtain⟨ah,ae,ab,z⟩:=oa;obtain⟨ag,aa,ai,ac⟩:=ob;simp only at ca cb db;subst ca cb db;exact call_meets F.slot_tuple_ne_refl tb F.entry_tuple_ne (F.args_tuple_ne_2 _ _) (J4 b a q n aa ae ab ac z) ⟨hb,ha,hq⟩
end
def TupG(K:bx)(mg:Str->Option bb)(x z:Str)(a:Addr):Prop:=mg x=some (.ref a)/\∃ob t n,K.lookup a=some ob/\ob.cls=.type "tuple"/\ob.data=.seq #[.str z t] n
theorem TupG.mk'{K:bx}{h:Heap}{mg:Str->Option bb}(X:K.In h)(G:h.Ns ii mg){x z:Str}{a:Addr}{od:Option Addr}{t:Tok}{n:Nat}{q:Array (Option bb)}
  (e:W.nsIn K ii x=some (some (.ref a))) (l:K.lookup a=some ⟨.type "tuple",od,.seq #[.str z t] n,q⟩):∃a,TupG K mg x z a:=⟨a,W.mg_of X G e,_,t,n,l,rfl,rfl⟩
def wS(a:Addr)(z:Str):R2:=fun x y H Q=>y=.ref a/\((∃d,Has H d x/\ci d=true/\Q (.bl (!PyData.eqv d (.tuple [.str z]))) H)\/(Has H (.dict []) x/\Q (.bl true) H))
theorem Ey{X:Cx}{x z:Str}{a:Addr}(hG:TupG X.K X.mg x z a)(hz:ci (.tuple [.str z])=true)(hu:X.A.units+64<jn):OpR X (gd .NotEq) (wS a z):=by
 rintro zi s σ H x y v u Q I rx ry ⟨rfl,q⟩;obtain⟨_,ob,t,n,hl,hc,hd⟩:=hG;cases (show u=fb a from ry);have ea:s.heap.get? a=some ob:=I.kIn _ _ hl;rcases q with ⟨d,hd1,sd,q⟩|⟨hd1,q⟩
 ·obtain⟨as,q1⟩:=Has.reads I d x v hd1 (fj sd) rx;exact ne_dataH q1 (.tuple ea hc hd (.cons (.str z t) .nil)) sd hz hu ⟨.bl _,H,I,rfl,q⟩
 ·obtain⟨b,vs,rfl,hD,_⟩:=B6.mp hd1;cases (show v=fb b from rx);rcases hD with ⟨ob2,m,e1,e2,e3⟩|⟨ob2,p,m,e1,e2,_⟩
  ·have hok:=(show ObjOk X.prog X.w H s.heap b (.frz ob2 (.dK m))from I.hok b _ e1);obtain⟨g1,_,_,ab,_,aa⟩:=hok;obtain⟨o3,g3,c3⟩:=aa.typeIs;exact KM g3 c3 ea hc hd yw ⟨.bl _,H,I,rfl,q⟩
  ·cases e2
def GP(a:Addr)(z:Str):D2:=fun x y S R=>y=.o (.ref a)/\((∃d,bO S x=some d/\ci d=true/\R (.d (.bool (!PyData.eqv d (.tuple [.str z])))) S)\/(x=.d (.dict [])/\R (.d (.bool true)) S))
theorem G6{a:Addr}{z:Str}:RO (wS a z) (GP a z):=fun h o H S x y v u R Q hs hx hy ⟨ey,q⟩ c=>by
 subst ey;refine⟨hy,?_⟩;rcases q with ⟨d,e,sd,q⟩|⟨e,q⟩
 ·exact .inl ⟨d,eF hs e hx,sd,c o H S _ _ Ex.refl hs (xB _) q⟩
 ·subst e;exact .inr ⟨eF hs rfl hx,c o H S _ _ Ex.refl hs (xB _) q⟩
def iB(z:Str)(e:DE):DE:=fun δ S R=>e δ S fun x S1=>(∃d,bO S1 x=some d/\ci d=true/\R (.d (.bool (!PyData.eqv d (.tuple [.str z])))) S1)\/(x=.d (.dict [])/\R (.d (.bool true)) S1)
theorem K4{a:Addr}{z:Str}{te:TE}{de:DE}(aa:RE te de):RE (tOp (wS a z) te (tC (.ref a))) (iB z de):=fun h o H δ σ S R Q he hs q c=>
 aa h o H δ σ S _ _ he hs q fun o1 H1 S1 x v e1 s1 x1 d1=>G6 h o1 H1 S1 x (.o (.ref a)) v (.ref a) R Q s1 x1 rfl ⟨rfl,d1⟩ (c.pre e1)
end
section
def cutH(H:Hp)(A:List Addr):Hp:=fun b=>if b∈A then none else H b
theorem g4{H:Hp}{A:List Addr}{b:Addr}{u:HO}:cutH H A b=some u↔b∉A/\H b=some u:=by
 unfold cutH;split
 ·rename_i m;exact⟨fun z=>(by cases z),fun z=>absurd m z.1⟩
 ·rename_i m;exact⟨fun z=>⟨m,z⟩,fun z=>z.2⟩
theorem yP{o:List Addr}{H:Hp}{A:List Addr}:Ex o (cutH H A) o H:=⟨⟨[],yv⟩,fun b u nb e=>⟨nb,(g4.mp e).2⟩⟩
abbrev PNm:=List XV->Sto->DM->(bc->Sto->DM->Prop)->Prop
def CnM(h o:List Addr)(H:Hp)(A:List Addr)(R:bc->Sto->DM->Prop)(Q:VK):Prop:=∀o' H' S' M' d v,Ex o (cutH H A) o' H'->ad M'=A->RepS (h++ad M') o' H' S'->RepM h o' H' M'->HasX (h++ad M') o' H' (.d d) v->R d S' M'->Q v H'
def lfM(q:PNm):List V->Hp->VK->Prop:=fun vs H Q=>∃h o S M xs R,RepS (h++ad M) o H S/\RepM h o H M/\HasXs (h++ad M) o H xs vs/\q xs S M R/\CnM h o H (ad M) R Q
def spM(ps:List Str)(q:PNm):Sp:=fun vs H Q _=>vs.length=ps.length/\lfM q vs H Q
def iZ(R:bc->Sto->DM->Prop):DEndsM:={ nx:=fun _ S M=>R .none S M,rt:=fun x S M=>∃d,x=.d d/\R d S M }
theorem Js{h o:List Addr}{H:Hp}(r:RepS h o H []):o=[]:=cx (by rw[<- r.len];rfl)
theorem x3{h o:List Addr}{H:Hp}{A:List Addr}{R:bc->Sto->DM->Prop}{Q:VK}(c:CnM h o H A R Q):EOkM h o (cutH H A) A (iZ R) { nx:=fun _ H'=>Q .non H',rt:=Q } :=
 ⟨fun o' H' δ' S' M' σ' e ea he hs rm q=>c o' H' S' M' .none .non e ea hs rm xN q,fun o' H' S' M' x v e ea hs rm hx ⟨d,ed,q⟩=>by
  subst ed;exact c o' H' S' M' d v e ea hs rm hx q,fun _ _ _ _ _ _ _ _ _ _ _ q=>q.elim,fun _ _ _ _ _ _ _ _ _ _ _ q=>q.elim⟩
section
variable {h o o':List Addr}{H H':Hp}{M M':DM}{S:Sto}
theorem rZ{A:List Addr}:Same (vx (h++A) o H) (vx (h++o++A) [] H)/\Same (vx (h++o++A) [] H) (vx (h++A) o H):=by
 refine⟨fun b u e=>?_,fun b u e=>?_⟩
 ·obtain⟨z1,z2,z3⟩:=zP.mp e;refine zP.mpr ⟨fun z=>?_,fun z=>(by cases z),z3⟩;rcases mem_append.mp z with z|z
  ·rcases mem_append.mp z with z|z
   ·exact z1 (cu _ z)
   ·exact z2 z
  ·exact z1 (cp _ z)
 ·obtain⟨z1,_,z3⟩:=zP.mp e;refine zP.mpr ⟨fun z=>?_,fun z=>z1 (cu _ (cp _ z)),z3⟩;rcases mem_append.mp z with z|z
  ·exact z1 (cu _ (cu _ z))
  ·exact z1 (cp _ z)
def gD:XV->Bool
 | .d _=>true
 | .o _=>true
 | .i _ _=>true
 |_=>false
theorem u7{h':List Addr}(s:Same (vx h o H) (vx h' o' H')):∀{x:XV}{v:V},gD x=true->HasX h o H x v->HasX h' o' H' x v
 | .d d,v,_,q=>Has.mono s d v q
 | .o w,v,_,q=>q
 | .i C fs,v,_,q=>HasI.mono s q
theorem EI{h':List Addr}(s:Same (vx h o H) (vx h' o' H')):∀{xs:List XV}{vs:List V},xs.all gD=true->HasXs h o H xs vs->HasXs h' o' H' xs vs
 | [],_,_,q=>q
 |x::xs,vs,n,⟨v,r,e,q,l⟩=>by
  rw[all_cons,fu]at n;exact⟨v,r,e,u7 s n.1 q,EI s n.2 l⟩
theorem KZ{A:List Addr}{b:Addr}(m:b∈h++o++A):b∈(h++A)++o:=by
 rcases mem_append.mp m with z|z
 ·rcases mem_append.mp z with z|z
  ·exact cu _ (cu _ z)
  ·exact cp _ z
 ·exact cu _ (cp _ z)
theorem rQ{q:PNm}{xs:List XV}{vs:List V}{o0:List Addr}{H0:Hp}{δ:XE}{σ:St}{R:bc->DM->Prop}{Q:VK}(e0:Ex o0 H0 o H)(fr:Fr H0 M)(he:RepE (h++ad M) o H δ σ)(hs:RepS (h++ad M) o H S)(rm:RepM h o H M)
  (hn:xs.all gD=true) (hx:HasXs (h++ad M) o H xs vs) (hq:q xs [] M fun d S' M'=>S'=[]/\R d M')
  (c:∀H' M' d v,Ex o0 H0 o H'->ad M'=ad M->RepE (h++ad M') o H' δ σ->RepS (h++ad M') o H' S->RepM h o H' M'->HasX (h++ad M') o H' (.d d) v->R d M'->Q v H'):lfM q vs H Q:=by
 have r0:=rep0 hs;refine⟨h++o,[],[],M,xs,_,⟨rfl,pf,fun a m=>(by cases m),fun b mb=>r0.hal b (KZ mb),fun k a ds e=>(by cases e)⟩,⟨rm.nd,fun a m=>⟨fun z=>?_,fun z=>(by cases z)⟩,fun a D m=>(rm.ct a D m).mono rZ.1 fun u z=>z⟩,EI rZ.1 hn hx,hq,fun o' H' S' M' d v e ea ab aa ac ⟨z,qq⟩=>?_⟩
 ·rcases mem_append.mp z with z|z
  ·exact(rm.nh a m).1 z
  ·exact(rm.nh a m).2 z
 ·subst z;have z:=Js ab;subst z;have kp:∀b u,b∉ad M->H b=some u->H' b=some u:=fun b u nb z=>(e.kp b u (fun w=>(by cases w)) (g4.mpr ⟨nb,z⟩)).2;have sm:Same (vx (h++ad M) o H) (vx (h++ad M) o H'):=fun b u z=>by
   obtain⟨z1,z2,z3⟩:=zP.mp z;exact zP.mpr ⟨z1,z2,kp b u (fun w=>z1 (cp _ w)) z3⟩
  refine c H' M' d v ⟨e0.pre,fun b u nb z=>?_⟩ ea ?_ ?_ ?_ ?_ qq
  ·obtain⟨w1,w2⟩:=e0.kp b u nb z;exact⟨w1,kp b u (fun m=>by have:=fr b m;rw[this]at z;cases z) w2⟩
  ·rw[ea];exact he.view sm
  ·rw[ea]at ab ⊢;refine⟨hs.len,hs.nd,hs.dis,fun b mb=>ab.hal b ?_,fun k a ds e1 e2=>?_⟩
   ·rcases mem_append.mp mb with z|z
    ·exact cu _ (cu _ z)
    ·exact cp _ z
   ·obtain⟨ws,e3,l⟩:=hs.cont k a ds e1 e2;exact⟨ws,kp a _ (fun m=>(rm.nh a m).2 (bw e1)) e3,HasL.mono sm _ _ l⟩
  ·refine⟨aa.nd,fun a m=>⟨fun z=>(aa.nh a m).1 (cu _ z),fun z=>(aa.nh a m).1 (cp _ z)⟩,fun a D m=>(aa.ct a D m).mono rZ.2 fun u z=>z⟩
  ·exact u7 rZ.2 rfl ac
end
abbrev DTm:=XE->Sto->DM->(Bool->Sto->DM->Prop)->Prop
section
variable {X:Cx}{x:Str}{ps:List Str}{k j:Nat}{pos pos':Pos}{e:Expr}{es:List Expr}{t:TA}
theorem x9{q:PNm}(D:Df X.prog X.w X.K X.mg X.base x ps k (spM ps q))(hr:Room j X.A)(hk:k<=j)(ha:PA X (e::es) t)(hg:Gl X x:=by rfl)(z:(x==("__debug__":Str))=false:=by decide)
  (q1:cr (e::es) X.env=(false,eval e X.env)::cr es X.env:=by rfl) (q2:((kx pos (cr es X.env)).any fun x=>x.fst)=false:=by rfl):PE X (.Call (.Name x pos') (e::es) [] pos) (g8 (spM ps q) [] E0 t):=by
 obtain⟨f,fd,F,hm,kp,hb⟩:=D.ex;exact xZ (dvs:=[]) (ds:=[]) (E:=E0) F (hr.mono hk) hg hm kp hb .nil pass0 ha z q1 q2
end
theorem Df.noneM{P:cy}{w:fq}{K:bx}{mg:Str->Option bb}{base:Heap}{x:Str}{st:Stmt}{ps:List Str}{k:Nat}(D:Dd K mg x st ps):Df P w K mg base x ps k (spM ps fun _ _ _ _=>False):=by
 obtain⟨f,fd,F,hm,hb⟩:=D.ex;have no:∀{vs H Q E},spM ps (fun _ _ _ _=>False) vs H Q E->False:=fun {vs H Q E} h=>by
  obtain⟨_,h,o,S,M,xs,R,_,_,_,q,_⟩:=h;exact q
 exact⟨f,fd,⟨fun _ _ _ _ h=>(no h).elim,fun _ _ _ _ _ _ _ _ _ _ _ _ _ h=>(no h).elim⟩,hm,F.kp,hb⟩
theorem A1{p:Addr}{u:MO}{D0:DD}(hD:∀(G H:Hp),H p=some u.ho->DAt G H p D0){h o0:List Addr}{H0:Hp}{o:List Addr}{H:Hp}{δ:XE}{σ:St}{S:Sto}{M:DM}(e0:Ex o0 H0 o H)(fr:Fr H0 M)(he:RepE (h++ad M) o H δ σ)(hs:RepS (h++ad M) o H S)(rm:RepM h o H M)(hp:H p=none):
  p∉ad M/\Ex o0 H0 o (upd H p u.ho)/\Fr H0 (M++[(p,D0)])/\RepE (h++ad (M++[(p,D0)])) o (upd H p u.ho) δ σ/\RepS (h++ad (M++[(p,D0)])) o (upd H p u.ho) S/\RepM h o (upd H p u.ho) (M++[(p,D0)])/\Same (vx (h++ad M) o H) (vx (h++ad (M++[(p,D0)])) o (upd H p u.ho)):=by
 have nM:p∉ad M:=fun m=>by
  obtain⟨D2,_,z⟩:=rm.at m;obtain⟨w,ew⟩:=z.mo;rw[hp]at ew;cases ew
 have f1:=hs.fresh hp;have nh:p∉h:=fun m=>f1.1 (cu _ m);have sH:Same H (upd H p u.ho):=Same.laid hp;have H0p:H0 p=none:=by
  cases z:H0 p with
  |none=>rfl
  |some w=>
   by_cases m:p∈o0
   ·obtain⟨r,er⟩:=e0.pre;exact absurd (show p∈o by rw[er];exact cu _ m) f1.2
   ·have:=(e0.kp p w m z).2;rw[hp]at this;cases this
 have sv:Same (vx (h++ad M) o H) (vx (h++(ad M++[p])) o (upd H p u.ho)):=fun b w z=>by
  obtain⟨z1,z2,z3⟩:=zP.mp z;have ne:b≠p:=zL z3 hp;refine zP.mpr ⟨fun m=>?_,z2,by rw[zE ne];exact z3⟩;rw[<- ja]at m;rcases mem_append.mp m with m|m
  ·exact z1 m
  ·exact ne (mem_singleton.mp m)
 refine⟨nM,e0.trans (Ex.of_same sH),fun a ma=>?_,?_,?_,?_,?_⟩
 ·rw[iY]at ma;rcases mem_append.mp ma with m|m
  ·exact fr a m
  ·rw[mem_singleton.mp m];exact H0p
 ·rw[iY];exact he.to sv
 ·rw[iY];refine⟨hs.len,hs.nd,fun a ma z=>?_,fun b mb=>?_,fun k b ds e1 e2=>?_⟩
  ·rw[<- ja]at z;rcases mem_append.mp z with z|z
   ·exact hs.dis a ma z
   ·rw[mem_singleton.mp z]at ma;exact f1.2 ma
  ·rw[<- ja]at mb;rcases mem_append.mp mb with m|m
   ·obtain⟨w,ew⟩:=hs.hal b m;exact⟨w,sH _ _ ew⟩
   ·rw[mem_singleton.mp m];exact⟨u,zK⟩
  ·obtain⟨vs,e3,l⟩:=hs.cont k b ds e1 e2;exact⟨vs,sH _ _ e3,HasL.mono sv _ _ l⟩
 ·refine⟨by rw[iY];exact oH rm.nd nM,fun a ma=>?_,fun a D2 m=>?_⟩
  ·rw[iY]at ma;rcases mem_append.mp ma with m|m
   ·exact rm.nh a m
   ·rw[mem_singleton.mp m];exact⟨nh,f1.2⟩
  ·rw[iY];rcases mem_append.mp m with m|m
   ·exact(rm.ct a D2 m).mono sv fun w z=>sH _ _ z
   ·have:=mem_singleton.mp m;cases this;exact hD _ _ zK
 ·rw[iY];exact sv
end
end L2
namespace L2
open PySem PySem.Spec PyProof.Rows
section
theorem pS{R:bc->Sto->DM->Prop}{d:bc}{S:Sto}{M:DM}:(iZ R).rt (.d d) S M=R d S M:=propext ⟨fun⟨e,z,q⟩=>by cases z;exact q,fun q=>⟨d,rfl,q⟩⟩
theorem qI{d:bc}:gD (.d d)=true:=rfl
theorem oF{v:V}:gD (.o v)=true:=rfl
end
end L2
namespace L2
open PySem PySem.Spec PySem.Calls PyProof.Rows PySem.W
section
variable {X:Cx}
def mL:List XV->Sto->RX->Prop:=fun xs S R=>arg1 xs fun x=>∃ns:List Int,x=.d (.tuple (ns.map bj))/\ns.length<60/\∀ms:List Int,ms.Perm ns->ms.Pairwise (· ≥ ·)->R (.d (.list (ms.map bj))) S
end
end L2
namespace L2
open PySem PySem.Spec PyProof.Rows
section
abbrev DEm:=XE->Sto->DM->(XV->Sto->DM->Prop)->Prop
abbrev DAm:=XE->Sto->DM->(List XV->Sto->DM->Prop)->Prop
section
variable {h o o' o'' o0:List Addr}{H H' H'' H0:Hp}{A:List Addr}{δ:XE}{σ:St}
theorem sF:vx (h++A) o (cutH H A)=vx (h++A) o H:=by
 funext b;refine Option.ext fun u=>?_;rw[zP,zP,g4];exact⟨fun⟨z1,z2,_,z3⟩=>⟨z1,z2,z3⟩,fun⟨z1,z2,z3⟩=>⟨z1,z2,fun m=>z1 (cp _ m),z3⟩⟩
theorem Jo:∀{x:XV}{v:V},HasX (h++A) o H x v->HasX (h++A) o (cutH H A) x v
 | .d d,v,q=>by
  show Has (vx (h++A) o (cutH H A)) d v;rw[sF];exact q
 | .l k,v,q=>q
 | .o w,v,q=>q
 | .x C fs,v,q=>by
  show HasE (vx (h++A) o (cutH H A)) C fs v;rw[sF];exact q
 | .i C fs,v,q=>by
  show HasI (vx (h++A) o (cutH H A)) C fs v;rw[sF];exact q
 | .p k d,v,q=>by
  show HasLP (h++A) o (cutH H A) k d v;unfold HasLP;rw[sF];exact q
theorem HasX.cut{x:XV}{v:V}(q:HasX (h++A) o H x v)(e:Ex o (cutH H A) o' H'):HasX (h++A) o' H' x v:=(Jo q).mono e
theorem RepE.cut(r:RepE (h++A) o H δ σ)(e:Ex o (cutH H A) o' H'):RepE (h++A) o' H' δ σ:=⟨r.len,fun i x q=>by
 obtain⟨v,e1,e2⟩:=r.get i x q;exact⟨v,e1,e2.cut e⟩⟩
theorem Ex.cut1(e:Ex o H o' H'):Ex o (cutH H A) o' H':=⟨e.pre,fun b u nb z=>e.kp b u nb (g4.mp z).2⟩
theorem Ex.cut2(e:Ex o (cutH H A) o' H')(e2:Ex o' (cutH H' A) o'' H''):Ex o (cutH H A) o'' H'':=⟨by
 obtain⟨r,rfl⟩:=e.pre;obtain⟨r2,rfl⟩:=e2.pre;exact⟨r++r2,by rw[ja]⟩,fun b u nb z=>by
 obtain⟨z1,z2⟩:=e.kp b u nb z;exact e2.kp b u z1 (g4.mpr ⟨(g4.mp z).1,z2⟩)⟩
theorem Ex.cut0(e0:Ex o0 H0 o H)(fr:∀a∈A,H0 a=none)(e:Ex o (cutH H A) o' H'):Ex o0 H0 o' H':=⟨by
 obtain⟨r,rfl⟩:=e0.pre;obtain⟨r2,rfl⟩:=e.pre;exact⟨r++r2,by rw[ja]⟩,fun b u nb z=>by
 obtain⟨z1,z2⟩:=e0.kp b u nb z;exact e.kp b u z1 (g4.mpr ⟨fun m=>(by rw[fr b m]at z;cases z),z2⟩)⟩
theorem Ex.cutH(e:Ex o (cutH H A) o' H'):ExH (h++A) o H o' H':=⟨e.pre,fun b u nh nb z=>e.kp b u nb (g4.mpr ⟨fun m=>nh (cp _ m),z⟩)⟩
end
def REm(t:TE)(dt:DEm):Prop:=∀(h o:List Addr) (H:Hp) (δ:XE) (σ:St) (S:Sto) (M:DM) (R:XV->Sto->DM->Prop) (Q:VK),RepE (h++ad M) o H δ σ->RepS (h++ad M) o H S->RepM h o H M->dt δ S M R ->
 (∀o' H' S' M' x v,Ex o (cutH H (ad M)) o' H'->ad M'=ad M->RepS (h++ad M') o' H' S'->RepM h o' H' M'->HasX (h++ad M') o' H' x v->R x S' M'->Q v H')->t σ H Q
def RAm(t:TA)(dt:DAm):Prop:=∀(h o:List Addr) (H:Hp) (δ:XE) (σ:St) (S:Sto) (M:DM) (R:List XV->Sto->DM->Prop) (Q:List V->Hp->Prop),RepE (h++ad M) o H δ σ->RepS (h++ad M) o H S->RepM h o H M->dt δ S M R ->
 (∀o' H' S' M' xs vs,Ex o (cutH H (ad M)) o' H'->ad M'=ad M->RepS (h++ad M') o' H' S'->RepM h o' H' M'->HasXs (h++ad M') o' H' xs vs->R xs S' M'->Q vs H')->t σ H Q
def dmE(d:DM->DE):DEm:=fun δ S M R=>d M δ S fun x S'=>R x S' M
def gN(m:Nat)(q:PNm)(da:DM->DA):DEm:=fun δ S M R=>da M δ S fun xs S1=>xs.length=m/\xs.all gD=true/\q xs [] M fun d S' M'=>S'=[]/\R (.d d) S1 M'
def fH(rd:D2)(a b:DEm):DEm:=fun δ S M R=>a δ S M fun x S1 M1=>b δ S1 M1 fun y S2 M2=>rd x y S2 fun z S3=>R z S3 M2
def f7:DAm:=fun _ S M R=>R [] S M
def gK(a:DEm)(b:DAm):DAm:=fun δ S M R=>a δ S M fun x S1 M1=>b δ S1 M1 fun xs S2 M2=>R (x::xs) S2 M2
def g9(rd:List XV->Sto->RX->Prop)(a:DAm):DEm:=fun δ S M R=>a δ S M fun xs S1 M1=>rd xs S1 fun z S2=>R z S2 M1
def jZ(rd:XV->List XV->Sto->RX->Prop)(e:DM->DE)(a:DAm):DEm:=fun δ S M R=>e M δ S fun x S1=>∃k,x=.l k/\k<S1.length/\a δ S1 M fun xs S2 M2=>rd x xs S2 fun z S3=>R z S3 M2
def gO(e:DEm)(g:DG):DSm:=fun En δ S M=>e δ S M fun x S1 M1=>g x δ S1 fun δ' S'=>En.nx δ' S' M1
def jG(e:DEm):DSm:=fun En δ S M=>e δ S M fun _ S1 M1=>En.nx δ S1 M1
def j2(e:DEm):DSm:=fun En δ S M=>e δ S M En.rt
def iH(n:Nat)(g:DG)(tt:DT)(te:DEm)(fin:Sto->DM->Prop):List bc->XE->Sto->DM->Prop
 | [],_,S,M=>fin S M
 |d::ds,τ,S,M=>g (.d d) τ S fun τ1 S1=>tt τ1 S1 fun b S2=>if b=true then te τ1 S2 M fun x S3 M3=>asD x fun e=>∃acc,S3[n]?=some acc/\acc.length<1000/\iH n g tt te fin ds τ1 (S3.set n (acc++[e])) M3 else iH n g tt te fin ds τ1 S2 M
def fL(caps:List (Option Nat))(i:DM->DI)(g:DG)(tt:DT)(te:DEm):DEm:=fun δ S M R=>i M δ S fun ds S1=>iH S1.length g tt te (fun S2 M2=>∃S0 acc,S2=S0++[acc]/\S0.length=S1.length/\R (.d (.list acc)) S0 M2) ds (eO caps δ) (S1++[[]]) M
section
variable {ta tb te:TE}{da db de:DEm}{tl:TA}{dl:DAm}{E:XK}{EX:EXD}
theorem yL{d:DM->DE}(hc:∀M,REp (PhM M) te (d M)):REm te (dmE d):=fun h o H δ σ S M R Q he hs rm q c=>
 hc M (h++ad M) o H δ σ S _ _ he hs q (fun o1 H1 S1 x v e1 s1 x1 d1=>c o1 H1 S1 M x v e1.cut1 rfl s1 (rm.mono e1) x1 d1) ⟨h,rfl,rm⟩
theorem D9{ps:List Str}{q:PNm}{m:Nat}{ta:TA}{da:DM->DA}(ha:∀M,RAp (PhM M) ta (da M))(hm:ps.length=m:=by rfl):REm (g8 (spM ps q) [] E0 ta) (gN m q da):=fun h o H δ σ S M R Q he hs rm w c=>
 ha M (h++ad M) o H δ σ S _ _ he hs w (fun o1 H1 S1 xs vs e1 s1 x1 ⟨hl,hn,d1⟩=>by
  have hv:=x1.len;rw[gl];exact⟨by rw[hv,hl,hm],rQ (o0:=o) (H0:=L2.cutH H (ad M)) e1.cut1 (fun a m=>by unfold L2.cutH;rw[cq m]) (he.mono e1) s1 (rm.mono e1) hn x1 d1 fun H' M' d v e2 ea ac ab z aa r=>c o1 H' S1 M' (.d d) v e2 ea ab z aa r⟩) ⟨h,rfl,rm⟩
theorem AB{r:R2}{rd:D2}(hr:RO r rd)(ha:REm ta da)(hb:REm tb db):REm (tOp r ta tb) (fH rd da db):=fun h o H δ σ S M R Q he hs rm q c=>
 ha h o H δ σ S M _ _ he hs rm q fun o1 H1 S1 M1 x v e1 aa s1 ae x1 d1=>
  hb h o1 H1 δ σ S1 M1 _ _ (by rw[aa];exact he.cut e1) s1 ae d1 fun o2 H2 S2 M2 y u e2 ab s2 ac y2 d2=>
   hr (h++ad M2) o2 H2 S2 x y v u _ Q s2 (by rw[ab];exact x1.cut e2) y2 d2 fun o3 H3 S3 z w e3 s3 z3 d3=>c o3 H3 S3 M2 z w ((e1.cut2 (by rw[aa]at e2;exact e2)).cut2 e3.cut1) (ab.trans aa) s3 (ac.mono e3) z3 d3
theorem wO:RAm gB f7:=fun h o H δ σ S M R Q he hs rm q c=>c o H S M [] [] (Ex.cut1 Ex.refl) rfl hs rm rfl q
theorem vT(ha:REm ta da)(hb:RAm tl dl):RAm (eC ta tl) (gK da dl):=fun h o H δ σ S M R Q he hs rm q c=>
 ha h o H δ σ S M _ _ he hs rm q fun o1 H1 S1 M1 x v e1 z s1 ac x1 d1=>
  hb h o1 H1 δ σ S1 M1 _ _ (by rw[z];exact he.cut e1) s1 ac d1 fun o2 H2 S2 M2 xs vs e2 aa s2 ab x2 d2=>
   c o2 H2 S2 M2 (x::xs) (v::vs) (e1.cut2 (by rw[z]at e2;exact e2)) (aa.trans z) s2 ab ⟨v,vs,rfl,by rw[aa];exact x1.cut e2,x2⟩ d2
theorem Cf{r:List V->Hp->VK->Prop}{rd:List XV->Sto->RX->Prop}(hr:RC r rd)(ha:RAm tl dl):REm (tCB r tl) (g9 rd dl):=fun h o H δ σ S M R Q he hs rm q c=>
 ha h o H δ σ S M _ _ he hs rm q fun o1 H1 S1 M1 xs vs e1 ab s1 aa x1 d1=>hr (h++ad M1) o1 H1 S1 xs vs _ Q s1 x1 d1 fun o3 H3 S3 z w e3 s3 z3 d3=>c o3 H3 S3 M1 z w (e1.cut2 e3.cut1) ab s3 (aa.mono e3) z3 d3
theorem Ja{K:bx}{r:V->List V->Hp->VK->Prop}{rd:XV->List XV->Sto->RX->Prop}{d:DM->DE}(hr:RM r rd)(ac:∀M,REp (PhM M) te (d M))(ha:RAm tl dl):REm (tBM K "list" r te tl) (jZ rd d dl):=fun h o H δ σ S M R Q he hs rm q c=>
 ac M (h++ad M) o H δ σ S _ _ he hs q (fun o1 H1 S1 x v e1 s1 x1 ⟨k,ek,hk,d1⟩=>by
  subst ek;obtain⟨a,ws,rfl,ea⟩:=vV s1 hk x1;exact⟨x4 ea,ha h o1 H1 δ σ S1 M _ _ (he.mono e1) s1 (rm.mono e1) d1 fun o2 H2 S2 M2 xs vs e2 aa s2 ab x2 d2=>hr (h++ad M2) o2 H2 S2 (.l k) _ xs vs _ Q s2 (by rw[aa];exact x1.cut e2) x2 d2 fun o3 H3 S3 z w e3 s3 z3 d3=>c o3 H3 S3 M2 z w ((e1.cut1.cut2 e2).cut2 e3.cut1) aa s3 (ab.mono e3) z3 d3⟩) ⟨h,rfl,rm⟩
theorem vK{g:TG}{dg:DG}(ha:REm te de)(hg:RG g dg):RSm E EX (m8 te g) (gO de dg):=fun h o0 H0 o H δ σ S M En D e0 fr he hs rm q c x=>
 ha h o H δ σ S M _ _ he hs rm q fun o1 H1 S1 M1 y v e1 z s1 aa x1 d1=>hg (h++ad M1) o1 H1 δ σ S1 y v _ _ (by rw[z];exact he.cut e1) s1 x1 d1 fun o2 H2 δ2 S2 σ2 e2 ab ac n2=>c.nx o2 H2 δ2 S2 M1 σ2 (e0.cut0 fr (e1.cut2 e2.cut1)) z ab ac (aa.mono e2) n2
theorem Ak(ha:REm te de):RSm E EX (yU te) (jG de):=fun h o0 H0 o H δ σ S M En D e0 fr he hs rm q c x=>
 ha h o H δ σ S M _ _ he hs rm q fun o1 H1 S1 M1 y v e1 z s1 aa x1 d1=>c.nx o1 H1 δ S1 M1 σ (e0.cut0 fr e1) z (by rw[z];exact he.cut e1) s1 aa d1
theorem GR(ha:REm te de):RSm E EX (oU te) (j2 de):=fun h o0 H0 o H δ σ S M En D e0 fr he hs rm q c x=>
 ha h o H δ σ S M _ _ he hs rm q fun o1 H1 S1 M1 y v e1 z s1 aa x1 d1=>c.rt o1 H1 S1 M1 y v (e0.cut0 fr e1) z s1 aa x1 d1
theorem RepM.pop{h o r:List Addr}{H:Hp}{M:DM}(rm:RepM h (o++r) H M):RepM h o H M:=⟨rm.nd,fun a m=>⟨(rm.nh a m).1,fun z=>(rm.nh a m).2 (cu _ z)⟩,fun a D m=>(rm.ct a D m).mono cH fun u z=>z⟩
theorem sG{caps:List (Option Nat)}{wi:TI}{g:TG}{tt:TT}{te:TE}{di:DM->DI}{dg:DG}{af:DT}{ag:DEm}(hi:∀M,RIp (PhM M) wi (di M))(hg:RG g dg)(ht:RT tt af)(ar:REm te ag):REm (kQ caps wi g tt te) (fL caps di dg af ag):=fun h o H δ σ S M R Q he hs rm q c=>by
 refine hi M (h++ad M) o H δ σ S _ _ he hs q (fun o1 H1 S1 ds J e1 s1 wk d1 D hD=>?_) ⟨h,rfl,rm⟩;have eN:Ex o1 H1 (o1++[D]) (upd H1 D (.lst [])):=Ex.new s1 hD;have sN:RepS (h++ad M) (o1++[D]) (upd H1 D (.lst [])) (S1++[[]]):=s1.new hD (zv.mpr rfl);have hn:S1.length=o1.length:=s1.len;have rN:RepM h (o1++[D]) (upd H1 D (.lst [])) M:=(rm.mono e1).mono eN;refine⟨fun i m τ H2=>m=ds.length-i/\i<=ds.length/\∃o2 δ2 S2 M2,Ex (o1++[D]) (L2.cutH (upd H1 D (.lst [])) (ad M)) o2 H2/\ad M2=ad M/\RepE (h++ad M) o2 H2 δ2 τ/\RepS (h++ad M) o2 H2 S2/\RepM h o2 H2 M2/\iH S1.length dg af ag (fun S2 M2=>∃S0 acc,S2=S0++[acc]/\S0.length=S1.length/\R (.d (.list acc)) S0 M2) (ds.drop i) δ2 S2 M2,⟨ds.length,yv,ji _,_,_,_,M,Ex.cut1 Ex.refl,rfl,((he.mono e1).mono eN).tau,sN,rN,d1⟩,?_⟩;rintro i m τ H2 ⟨rfl,hi,o2,δ2,S2,M2,e2,aa,ap,ab,ae,d2⟩;have eH:ExH (h++ad M) o1 H1 o2 H2:=eN.hid.trans e2.cutH;by_cases hlt:i<ds.length
 ·have ed:ds[i]?=some ds[i]:=bi hlt;rw[kr hlt]at d2;refine .inr ⟨wk.go i _ o2 H2 eH ed,fun x H3 y=>?_⟩;obtain⟨s3,hx⟩:=wk.yld i _ o2 H2 x H3 S2 eH ab ed y;have al:Ex o2 H2 o2 H3:=Ex.of_same s3;refine hg (h++ad M) o2 H3 δ2 τ S2 (.d ds[i]) x _ _ (ap.mono al) (ab.same s3) hx d2 fun o4 H4 δ4 S4 τ4 e4 ac ao d4=>?_;refine ht (h++ad M) o4 H4 δ4 τ4 S4 _ _ ac ao d4 fun o5 H5 S5 b e5 s5 d5=>?_;have ah:Ex o2 H2 o5 H5:=(al.trans e4).trans e5;have an:Ex (o1++[D]) (L2.cutH (upd H1 D (.lst [])) (ad M)) o5 H5:=e2.cut2 ah.cut1;have am:RepM h o5 H5 M2:=ae.mono ah;cases b with
  |false=>exact e7 ⟨ds.length-(i+1),yw,rfl,hlt,o5,δ4,S5,M2,an,aa,ac.mono e5,s5,am,by simpa using d5⟩
  |true=>
   refine eT (ar h o5 H5 δ4 τ4 S5 M2 _ _ (by rw[aa];exact ac.mono e5) (by rw[aa];exact s5) am (by simpa using d5) fun o6 H6 S6 M6 z v e6 aj s6 aq z6 d6=>?_);replace d6:=fI d6;obtain⟨e,rfl,acc,ea,hl,d6⟩:=d6;rw[aa]at e6;have ak:=an.cut2 e6;have eD:o6[S1.length]?=some D:=by
    obtain⟨r,rfl⟩:=ak.pre;rw[hn];exact fP (by rw[bo])
   rw[aj,aa]at s6 z6;obtain⟨vs,ev,l⟩:=s6.cont _ D acc eD ea;refine⟨vs,ev,by rw[l.length];exact small1000 (jc hl),ds.length-(i+1),yw,rfl,hlt,o6,δ4,_,M6,ak.cut2 (Ex.upd eD).cut1,aj.trans aa,((ac.mono e5).cut e6).mono (Ex.upd eD),s6.upd eD (l.append (zo.mpr ⟨v,[],rfl,z6,zv.mpr rfl⟩)),aq.mono (Ex.upd eD),d6⟩
 ·have ei:i=ds.length:=yw
  subst ei;rw[drop_length]at d2;refine .inl ⟨wk.stop _ o2 H2 eH (cz _),?_⟩;obtain⟨S0,acc,eS,hl,f⟩:=d2;subst eS;have ai:Ex o1 (L2.cutH H1 (ad M)) o2 H2:=eN.cut1.cut2 e2;obtain⟨r,rfl⟩:=e2.pre;have er:r=[]:=by
   have:=ab.len;simp only[bv,fi,hl]at this;exact cx yw
  subst er;rw[gl]at ab ai ae;have s0:RepS (h++ad M) o1 H2 S0:=ab.pop (hl.trans hn);refine c o1 H2 S0 M2 (.d (.list acc)) _ (e1.cut1.cut2 (Ex.pop (o':=o1) ai)) aa (by rw[aa];exact s0) ae.pop ?_ f;obtain⟨vs,ev,l⟩:=ab.cont o1.length D acc (by rw[bo]) (by rw[<- hn,<- hl,bo]);have nD:D∉o1:=by
   have:=(nodup_append.mp ab.nd).2.2;intro m;exact this D m D yv rfl
  rw[aa];exact dA.mpr ⟨D,vs,rfl,zP.mpr ⟨ab.dis D yv,nD,ev⟩,l.mono cH⟩
end
end
section
section
variable {X:Cx}{zi:List (Addr×Obj)}{σ:St}{H:Hp}{s:bd}{a b:Addr}{ob:Obj}{g:KSg}{xs:List (KG g×Addr×bb)}{k:KG g}{r:bb}{v:V}{A:ff}{E:bb->bd->Prop}
theorem L3{Q:bb->bd->Prop}(hg:g.dp<=8)(hu:A.units+64<jn)(I:Inv X zi σ H s)(ga:GAt H a g ob xs)(hy:Has H (kdat g k) (.ref b))(h:∀s',Inv X zi σ H s'->Q (.bool (atKey xs k).isSome) s'):
  bn (model X.prog X.w) A (gd .In (.ref b) (.ref a)) Q E s:=by
 obtain⟨e,hd,pd,hk⟩:=ga;refine wpAny_in_heap (knd:=qW X.prog X.w g hg) ?_ (iK I.hok g hy rfl) hd (qD hg I.hok e pd hk) (h _ (I.tok _));show A.units+1+g.dp<jn;omega
theorem LU{Q:bb->bd->Prop}(hg:g.dp<=8)(hu:A.units+64<jn)(I:Inv X zi σ H s)(ga:GAt H a g ob xs)(hy:Has H (kdat g k) (.ref b))(h:∀s',Inv X zi σ H s'->Q (.bool (!(atKey xs k).isSome)) s'):
  bn (model X.prog X.w) A (gd .NotIn (.ref b) (.ref a)) Q E s:=by
 obtain⟨e,hd,pd,hk⟩:=ga;refine wpAny_notIn_heap (knd:=qW X.prog X.w g hg) ?_ (iK I.hok g hy rfl) hd (qD hg I.hok e pd hk) (h _ (I.tok _));show A.units+1+g.dp<jn;omega
theorem Lj{Q:bb->bd->Prop}{p:Addr×bb}(hg:g.dp<=8)(hu:A.units+64<jn)(I:Inv X zi σ H s)(ga:GAt H a g ob xs)(hy:Has H (kdat g k) (.ref b))(hp:atKey xs k=some p)(h:∀s',Inv X zi σ H s'->Q p.2 s'):
  bn (model X.prog X.w) A (getItem (.ref a) (.ref b)) Q E s:=by
 obtain⟨e,hd,pd,hk⟩:=ga;refine wpAny_getItem_heap (knd:=qW X.prog X.w g hg) ?_ (iK I.hok g hy rfl) (qD hg I.hok e pd hk) hp (h _ (I.tok _));show A.units+1+g.dp<jn;omega
theorem FS{Q:Unit->bd->Prop}(hg:g.dp<=8)(hu:A.units+64<jn)(I:Inv X zi σ H s)(ga:GAt H a g ob xs)(hz:xs.length<1000)(hy:Has H (kdat g k) (.ref b))(h:∀ob' s',PDict g ob' (storedH xs k b r)->Inv X zi σ (upd H a (obO a ob')) s'->Q () s'):
  bn (model X.prog X.w) A (setItem (.ref a) (.ref b) r) Q E s:=by
 obtain⟨e,hd,pd,hk⟩:=ga;refine wpAny_setItem_heap (knd:=qW X.prog X.w g hg) (hsz:=jc (small1000 (jc hz))) ?_ (iK I.hok g hy rfl) (qD hg I.hok e pd hk) fun h' q hs=>?_
 ·show A.units+1+g.dp<jn;omega
 ·obtain⟨o',es,ep,q1,q2,q3,q4,_,q5⟩:=q;exact h o' _ ⟨q2,es,ep,q3,q4,q5⟩ (LO I (by rw[e];exact qw) hs ⟨o',q1⟩ (FE q1))
end
def xM(g:KSg)(n:Bool):R2:=fun y x H Q=>∃a ob xs k,x=.ref a/\GAt H a g ob xs/\Has H (kdat g k) y/\Q (.bl (if n=true then !(atKey xs k).isSome else (atKey xs k).isSome)) H
def Af(g:KSg)(td ty:TE):TE:=fun σ H Q=>td σ H fun x H1=>ty σ H1 fun y H2=>∃a ob xs k p v,x=.ref a/\GAt H2 a g ob xs/\Has H2 (kdat g k) y/\atKey xs k=some p/\RelV v p.2/\Q v H2
def xT(g:KSg)(td ty tv:TE):TS:=fun D σ H=>tv σ H fun v H1=>td σ H1 fun x H2=>ty σ H2 fun y H3=>∃a ob xs k,x=.ref a/\GAt H3 a g ob xs/\xs.length<1000/\Has H3 (kdat g k) y/\∀ob' b r,y=.ref b->RelV v r->PDict g ob' (storedH xs k b r)->D.nx σ (upd H3 a (obO a ob'))
section
variable {X:Cx}{pos pos':Pos}{o i value:Expr}{td ty tv:TE}{g:KSg}
theorem Hl(hg:g.dp<=8)(ht:g.tup=true)(hu:X.A.units+64<jn):OpR X (gd .In) (xM g false):=fun zi s σ H y x v u Q I ry rx ⟨a,ob,xs,k,e,ga,hy,q⟩=>by
 subst e;obtain⟨b,rfl⟩:=t9 ht hy;obtain rfl:v=fb b:=ry;obtain rfl:u=fb a:=rx;exact L3 hg hu I ga hy fun s3 I3=>⟨.bl _,H,I3,rfl,q⟩
theorem F3(hg:g.dp<=8)(ht:g.tup=true)(hu:X.A.units+64<jn):OpR X (gd .NotIn) (xM g true):=fun zi s σ H y x v u Q I ry rx ⟨a,ob,xs,k,e,ga,hy,q⟩=>by
 subst e;obtain⟨b,rfl⟩:=t9 ht hy;obtain rfl:v=fb b:=ry;obtain rfl:u=fb a:=rx;exact LU hg hu I ga hy fun s3 I3=>⟨.bl _,H,I3,rfl,q⟩
theorem qM(hg:g.dp<=8)(ht:g.tup=true)(hu:X.A.units+64<jn)(ho:PE X o td)(hi:PE X i ty)(hs:NoSl i):PE X (.Subscript o i pos) (Af g td ty):=by
 intro zi s σ H Q I h;refine Fv PySem.F.slot_dict_getitem.lookup hs (thn (ho zi s σ H _ I h) fun u s1 ⟨x,H1,I1,rx,q1⟩=>thn (hi zi s1 σ H1 _ I1 q1) fun iv s2 ⟨y,H2,I2,ry,a,ob,xs,k,p,v,ex,ga,hy,hp,rv,q2⟩=>?_);subst ex;obtain⟨b,rfl⟩:=t9 ht hy;obtain rfl:u=fb a:=rx;obtain rfl:iv=fb b:=ry;exact⟨(qD hg I2.hok ga.1 ga.2.2.1 ga.2.2.2).typeIs,Lj hg hu I2 ga hy hp fun s3 I3=>⟨v,H2,I3,rv,q2⟩⟩
theorem tU(hg:g.dp<=8)(ht:g.tup=true)(hu:X.A.units+64<jn)(ho:PE X o td)(hi:PE X i ty)(hv:PE X value tv)(hs:swapsWith value (some (.Subscript o i pos')) pos.line X.env=pure false):
  PS X (.Assign [.Subscript o i pos'] value pos) (xT g td ty tv):=by
 intro zi s σ H D I h;refine wpAny_Assign_Subscript (thn (hv zi s σ H _ I h) fun r s1 ⟨v,H1,I1,rv,q1⟩=>thn (ho zi s1 σ H1 _ I1 q1) fun u s2 ⟨x,H2,I2,rx,q2⟩=>thn (hi zi s2 σ H2 _ I2 q2) fun iv s3 ⟨y,H3,I3,ry,a,ob,xs,k,ex,ga,hz,hy,q3⟩=>?_) hs;subst ex;obtain⟨b,rfl⟩:=t9 ht hy;obtain rfl:u=fb a:=rx;obtain rfl:iv=fb b:=ry;exact FS hg hu I3 ga hz hy fun z s4 q I4=>⟨σ,_,I4,q3 z b r rfl rv q⟩
end
def stG{g:KSg}(m:List (KG g×bc))(k:KG g)(d:bc):List (KG g×bc):=if (lkA m k).isSome=true then m.map fun p=>if p.1=k then (p.1,d)else p else m++[(k,d)]
section
variable {G:Hp}{g:KSg}
theorem PrG.map{k:KG g}{d:bc}{v:V}{r:bb}(h2:Has G d v)(h3:RelV v r):∀{m:List (KG g×bc)}{xs:List (KG g×Addr×bb)},PrG G g m xs->PrG G g (m.map fun p=>if p.1=k then (p.1,d)else p) (xs.map (putAt k r))
 | [],xs,q=>by rw[show xs=[]from q];rfl
 |p::m,xs,⟨q,t,e,e1,z1,z2,l⟩=>by
  subst e;by_cases hk:p.1=k
  ·rw[ft,cq hk];exact⟨(q.1,q.2.1,r),t.map (putAt k r),by rw[ft,show putAt k r q=(q.1,q.2.1,r)from cq (e1.trans hk)],e1,z1,⟨v,h2,h3⟩,PrG.map h2 h3 l⟩
  ·rw[ft,ck hk];exact⟨q,t.map (putAt k r),by rw[ft,show putAt k r q=q from ck (fun z=>hk (e1.symm.trans z))],e1,z1,z2,PrG.map h2 h3 l⟩
theorem PrG.put{k:KG g}{b:Addr}{d:bc}{v:V}{r:bb}{m:List (KG g×bc)}{xs:List (KG g×Addr×bb)}(h1:Has G (kdat g k) (.ref b))(h2:Has G d v)(h3:RelV v r)(l:PrG G g m xs):PrG G g (stG m k d) (storedH xs k b r):=by
 unfold stG;rcases l.at_ k with ⟨y1,y2⟩|⟨d',p',w',y1,y2,y3,y4⟩
 ·rw[y1,storedH_new y2];exact l.snoc h1 h2 h3
 ·rw[y1,storedH_old y2];exact l.map h2 h3
end
def gZ(M:DM)(g:KSg)(n:Bool):D2:=fun y x S R=>asD y fun k=>∃a ob m kk,x=.o (.ref a)/\(a,DD.g g ob m)∈M/\k=kdat g kk/\R (.d (.bool (if n=true then !(lkA m kk).isSome else (lkA m kk).isSome))) S
def eR(M:DM)(g:KSg)(dd dy:DE):DE:=fun δ S R=>dd δ S fun x S1=>dy δ S1 fun y S2=>asD y fun k=>∃a ob m kk d,x=.o (.ref a)/\(a,DD.g g ob m)∈M/\k=kdat g kk/\lkA m kk=some d/\R (.d d) S2
def fZ(g:KSg)(j:Nat)(dk dv:DM->DE):DSm:=fun En δ S M=>dv M δ S fun x S1=>asD x fun d=>zj j δ S1 fun y S2=>∃a ob m,y=.o (.ref a)/\(a,DD.g g ob m)∈M/\dk M δ S2 fun z S3=>asD z fun k=>∃kk,k=kdat g kk/\m.length<1000/\∀ob',En.nx δ S3 (cV M a (.g g ob' (stG m kk d)))
theorem wI{M:DM}{g:KSg}{n:Bool}:ROp (PhM M) (xM g n) (gZ M g n):=fun h o H S y x v u R Q φ hs hy hx q c=>by
 obtain⟨k,rfl,a,ob,m,kk,rfl,mD,rfl,q2⟩:=fI q;obtain rfl:u=.ref a:=hx;obtain⟨h2,ab,z⟩:=φ;obtain⟨e3,aa,xs,pd,l⟩:=z.ct a (.g g ob m) mD;refine⟨a,ob,xs,kk,rfl,⟨e3,aa,pd,fun x mx=>Has.mono zW _ _ (l.has x mx)⟩,Has.mono zW _ _ (show Has _ _ v from hy),?_⟩;have:(atKey xs kk).isSome=(lkA m kk).isSome:=by
  rcases l.at_ kk with ⟨y1,y2⟩|⟨d',p',w',y1,y2,y3,y4⟩<;>rw[y1,y2]<;>rfl
 rw[this];exact c o H S _ _ Ex.refl hs (xB _) q2
theorem pC{M:DM}{g:KSg}{td ty:TE}{dd dy:DE}(hd:REp (PhM M) td dd)(hy:REp (PhM M) ty dy):REp (PhM M) (Af g td ty) (eR M g dd dy):=fun h o H δ σ S R Q he hs q c w=>
 hd h o H δ σ S _ _ he hs q (fun o1 H1 S1 x v e1 s1 x1 d1=>hy h o1 H1 δ σ S1 _ _ (he.mono e1) s1 d1 (fun o2 H2 S2 y u e2 s2 y2 d2=>by
  obtain⟨k,rfl,a,ob,m,kk,d,rfl,mD,rfl,ed,n⟩:=fI d2;obtain rfl:v=.ref a:=x1;obtain⟨h2,ab,z⟩:=Stb.st (Φ:=PhM M) w (e1.trans e2);obtain⟨e3,aa,xs,pd,l⟩:=z.ct a (.g g ob m) mD;rw[<- ab]at l;rcases l.at_ kk with ⟨z1,z2⟩|⟨d',p',w',z1,z2,z3,z4⟩
  ·rw[z1]at ed;cases ed
  ·rw[z1]at ed;cases ed;exact⟨a,ob,xs,kk,p',w',rfl,⟨e3,aa,pd,fun x mx=>Has.mono zW _ _ (l.has x mx)⟩,Has.mono zW _ _ y2,z2,z4,c o2 H2 S2 (.d d) w' (e1.trans e2) s2 z3 n⟩) (Stb.st w e1)) w
theorem vD{E:XK}{EX:EXD}{g:KSg}{j:Nat}{ty tv:TE}{dk dv:DM->DE}(ht:g.tup=true)(hk:∀M,REp (PhM M) ty (dk M))(hv:∀M,REp (PhM M) tv (dv M)):RSm E EX (xT g (bZ j) ty tv) (fZ g j dk dv):=fun h o0 H0 o H δ σ S M En D e0 fr he hs rm q c x=>
 hv M (h++ad M) o H δ σ S _ _ he hs q (fun o1 H1 S1 y v e1 s1 x1 d1=>by
  obtain⟨d,rfl,y1,ey,a,ob,m,rfl,mD,d2⟩:=fI d1;have ac:=he.mono e1;obtain⟨v1,ev,ag⟩:=ac.get j _ ey;have ai:v1=.ref a:=ag;subst ai;refine⟨_,ev,hk M (h++ad M) o1 H1 δ σ S1 _ _ ac s1 d2 (fun o2 H2 S2 z u e2 s2 z2 d3=>?_) ⟨h,rfl,rm.mono e1⟩⟩;obtain⟨k,rfl,kk,rfl,hl,n⟩:=fI d3;have ab:=e1.trans e2;have ae:=rm.mono ab;have ma:a∈ad M:=mem_map.mpr ⟨_,mD,rfl⟩;obtain⟨e3,af,xs,pd,l⟩:=ae.ct a (.g g ob m) mD;have mh:a∈h++ad M:=cp _ ma;refine⟨a,ob,xs,kk,rfl,⟨e3,af,pd,fun x mx=>Has.mono zW _ _ (l.has x mx)⟩,by rw[l.length];exact hl,Has.mono zW _ _ z2,fun aa b r eb rz ah=>?_⟩;subst eb;have fin:∀H',H' a=some (MO.x a aa).ho->DAt (vx (h++ad M) o2 H2) H' a (.g g aa (stG m kk d)):=fun H' z=>⟨z,af,_,ah,l.put z2 (x1.mono e2) rz⟩;refine c.nx o2 _ δ S2 (cV M a (.g g aa (stG m kk d))) σ ⟨(e0.trans ab).pre,fun b w' nb zb=>?_⟩ fK ?_ ?_ (ae.put mD fin) (n aa)
  ·obtain⟨z1,z3⟩:=(e0.trans ab).kp b w' nb zb;exact⟨z1,by rw[zE (fun z=>by rw[z,fr a ma]at zb;cases zb)];exact z3⟩
  ·rw[fK];exact(ac.mono e2).view (uA mh)
  ·rw[fK];exact s2.hidden (u:=.x a aa) mh) ⟨h,rfl,rm⟩
end
section
structure Dt(K:bx)(C:Addr)(m qual:Str)(st:Stmt)(ps:List Str):Prop where
 ex:∃f fd,Fun K m qual st f fd/\Meth K C m f/\Binds K fd ps []
structure Dm(P:cy)(w:fq)(K:bx)(mg:Str->Option bb)(base:Heap)(C:Addr)(m:Str)(ps:List Str)(k:Nat)(sp:Sp):Prop where
 ex:∃f fd,FnOk P w K mg base CX0 k f fd ps sp/\Meth K C m f/\Binds K fd ps []
section
variable {P:cy}{w:fq}{K:bx}{mg:Str->Option bb}{base:Heap}{C:Addr}{m qual:Str}{st:Stmt}{N ps:List Str}{k:Nat}
theorem Dm.dM{q:PNm}(D:Dt K C m qual st ps)(S:FnScope N ps (zh st))(n:Nat)(hn:N.length=ps.length+n)
  (hbody:∀(f:Addr) (aa:bb) (A:ff) (outer:List Env) (s:bd) (H:Hp) (E:XK),Room k (A.deeper (qk qual (zh st) s.heap.objs.size f aa)) ->
   ∃t dt,PSs (dQ CX0 P w K mg base N qual (zh st) f aa A outer s H E).nox (bP st) t/\RSm E0 (fun _ _=>False) t dt/\∀xs S M R,q xs S M R->dt (iZ R) (xs.map some++bh n Option.none) S M):Dm P w K mg base C m ps (k+1) (spM ps q):=by
 obtain⟨f,fd,F,hm,hb⟩:=D.ex;refine⟨f,fd,F.ok S (fun vs H Q E h=>h.1) fun aa A outer s H vs Q E hr ⟨hl,h,o,S',M,xs,R,ab,rm,hx,hq,c⟩=>?_,hm,hb⟩;obtain⟨t,dt,h1,h2,h3⟩:=hbody f aa A outer s H E hr;refine⟨t,h1,h2 h o (cutH H (ad M)) o H _ _ S' M _ _ yP (fun a m=>?_) ?_ ab rm (h3 xs S' M R hq) (x3 c) fun _ _ _ _ _ _ _ _ _ z=>z.elim⟩
 ·unfold cutH;rw[cq m]
 ·have e:N.length-vs.length=n:=yw
  unfold start;rw[e];exact m9 hx
theorem Dm.noneM(D:Dt K C m qual st ps):Dm P w K mg base C m ps k (spM ps fun _ _ _ _=>False):=by
 obtain⟨f,fd,F,hm,hb⟩:=D.ex;have no:∀{vs H Q E},spM ps (fun _ _ _ _=>False) vs H Q E->False:=fun {vs H Q E} h=>by
  obtain⟨_,h,o,S,M,xs,R,_,_,_,q,_⟩:=h;exact q
 exact⟨f,fd,⟨fun _ _ _ _ h=>(no h).elim,fun _ _ _ _ _ _ _ _ _ _ _ _ _ h=>(no h).elim⟩,hm,hb⟩
end
section
variable {X:Cx}{C:Addr}{m:Str}{ps:List Str}{k j:Nat}{pos apos:Pos}{o e:Expr}{es:List Expr}{ta:TE}{t:TA}
theorem uF{pl:Sem Bool}{q:PNm}(c:Cls X.K C)(D:Dm X.prog X.w X.K X.mg X.base C m ps k (spM ps q))(hr:Room j X.A)(hk:k<=j)(he:PE X o ta)(ha:PA X (e::es) t)
  (hst:cr (e::es) X.env=(false,eval e X.env)::cr es X.env:=by rfl) (hpl:(kx pos (cr es X.env)).any (·.1)=false:=by rfl)
  (ht:eval (.Call (.Attribute o m apos) (e::es) [] pos) X.env=(do
   let ov <- eval o X.env
   standAt apos.atName
   let (f,first) <- holding [ov] (getMethod ov m pl)
   callWith pos f first (kx pos (cr (e::es) X.env)) (backToKw pos (keywordEach [] X.env))):=by rfl):
  PE X (.Call (.Attribute o m apos) (e::es) [] pos) (vE C m (spM ps q) [] E0 ta t):=by
 obtain⟨f,fd,F,hm,hb⟩:=D.ex;exact FU (dvs:=[]) (ds:=[]) (E:=E0) he c hm F (hr.mono hk) hb .nil pass0 ha hst hpl ht
end
def lH(R:RX):bc ⊕ V->Sto->Prop
 | .inl d,S=>R (.d d) S
 | .inr w,S=>R (.o w) S
def eP(C:Addr)(f:Str)(de:DE):DE:=fun δ S R=>de δ S fun x S1=>∃fs e,x=.i C fs/\fs.lookup f=some e/\lH R e S1
def gH(C:Addr)(m:Str)(n:Nat)(q:PNm)(de:DM->DE)(da:DM->DA):DEm:=fun δ S M R=>de M δ S fun x S1=>∃fs,x=.i C fs/\fs.lookup m=none/\da M δ S1 fun xs S2=>xs.length+1=n/\xs.all gD=true/\q (x::xs) [] M fun d S' M'=>S'=[]/\R (.d d) S2 M'
section
variable {K:bx}{C:Addr}{f m:Str}{Φ:Phi} [Stb Φ] {ta:TE}{da:DE}
theorem lG(c:Cls K C)(n:NoAttr K C f)(ha:REp Φ ta da):REp Φ (EG K ta f) (eP C f da):=fun h o H δ σ S R Q he hs q cn w=>
 ha h o H δ σ S _ _ he hs q (fun o1 H1 S1 x v e1 s1 x1 ⟨fs,e,ex,l,d1⟩=>by
  subst ex;obtain⟨a,dx,vs,rfl,ea,hn,hf⟩:=x1;obtain⟨u,eu,hu⟩:=hf f e l;refine⟨a,C,dx,vs,u,rfl,zW _ _ ea,c,n,eu,?_⟩;cases e with
  |inl d=>exact cn o1 H1 S1 (.d d) u e1 s1 hu d1
  |inr w=>exact cn o1 H1 S1 (.o w) u e1 s1 hu d1) w
theorem AA{ps:List Str}{q:PNm}{n:Nat}{tl:TA}{de:DM->DE}{dl:DM->DA}(ah:∀M,REp (PhM M) ta (de M))(ab:∀M,RAp (PhM M) tl (dl M))(hm:ps.length=n:=by rfl):REm (vE C m (spM ps q) [] E0 ta tl) (gH C m n q de dl):=fun h o H δ σ S M R Q he hs rm w c=>
 ah M (h++ad M) o H δ σ S _ _ he hs w (fun o1 H1 S1 x v e1 s1 x1 ⟨fs,ex,lk,d1⟩=>by
  subst ex;obtain⟨a,dx,vs,rfl,ea,hn,hf⟩:=id x1;refine⟨a,dx,vs,rfl,zW _ _ ea,hn m lk,ab M (h++ad M) o1 H1 δ σ S1 _ _ (he.mono e1) s1 d1 (fun o2 H2 S2 xs us e2 s2 x2 ⟨hl,af,d2⟩=>?_) ⟨h,rfl,rm.mono e1⟩⟩;have hv:=x2.len;rw[gl];have z:=e1.trans e2;refine⟨by rw[cw,hv,hm,hl],rQ (o0:=o) (H0:=L2.cutH H (ad M)) z.cut1 (fun a m=>by unfold L2.cutH;rw[cq m]) (he.mono z) s2 (rm.mono z) (xs:=.i C fs::xs) ?_ ⟨_,us,rfl,x1.mono e2,x2⟩ d2 fun H' M' d v e3 ag ai ae ac aa r=>c o2 H' S2 M' (.d d) v e3 ag ae ac aa r⟩;rw[all_cons,af];rfl) ⟨h,rfl,rm⟩
end
def u8(C:Addr)(f1 f2 f3:Str):Sp:=fun vs H Q _=>∃x v1 v2 dx,vs=[.ref x,v1,v2]/\H x=some (.ins C dx [])/\∀p,H p=none->(p==qv)=false->Q .non (upd (upd H x (.ins C dx [(f1,v1),(f2,v2),(f3,.ref p)])) p (obO p ob0))
theorem lk3{α:Type}{f1 f2 f3 f:Str}{x y z:α}:([(f1,x),(f2,y),(f3,z)]:List (Str×α)).lookup f=if f=f1 then some x else if f=f2 then some y else if f=f3 then some z else none:=by
 have b:∀g:Str,(f==g)=decide (f=g):=fun g=>by
  by_cases e:f=g
  ·subst e;simp
  ·simp[e]
 rw[jq,jq,jq,b,b,b];by_cases h1:f=f1
 ·rw[cq h1,fe h1]
 ·rw[ck h1,dh h1];by_cases h2:f=f2
  ·rw[cq h2,fe h2]
  ·rw[ck h2,dh h2];by_cases h3:f=f3
   ·rw[cq h3,fe h3]
   ·rw[ck h3,dh h3];rfl
def jB(C:Addr)(f1 f2 f3:Str)(g:KSg)(n:Nat)(q:PNm)(da db:DE)(dl:DA):DE:=fun δ S R=>da δ S fun x S1=>db δ S1 fun y S2=>∃d1 d2,x=.d d1/\y=.d d2/\dl δ S2 fun xs S3=>xs.length+1=n/\xs.all gD=true/\∀p,q (.i C [(f1,.inl d1),(f2,.inl d2),(f3,.inr (.ref p))]::xs) [] [(p,.g g ob0 [])] fun d S' _=>S'=[]/\R (.d d) S3
theorem C7{C:Addr}{f1 f2 f3 m:Str}{g:KSg}{ps:List Str}{q:PNm}{n:Nat}{ta tb:TE}{tl:TA}{da db:DE}{dl:DA}(ha:RE ta da)(hb:RE tb db)(hl:RA tl dl)(hf:f1≠f2/\f1≠f3/\f2≠f3/\m≠f1/\m≠f2/\m≠f3)(hm:ps.length=n:=by rfl):
  RE (vE C m (spM ps q) [] E0 (AJ C (u8 C f1 f2 f3) [] E0 (eC ta (eC tb gB))) tl) (jB C f1 f2 f3 g n q da db dl):=fun h o H δ σ S R Q he hs w cn=>
 ha h o H δ σ S _ _ he hs w fun o1 H1 S1 x v e1 s1 x1 d1=>hb h o1 H1 δ σ S1 _ _ (he.mono e1) s1 d1 fun o2 H2 S2 y u e2 s2 y2 ⟨b1,b2,ex,ey,d2⟩=>by
  subst ex ey;intro a dx ah al ne;obtain⟨n1,n2,n3,n4,n5,n6⟩:=hf;refine⟨a,v,u,dx,rfl,zK,fun p hp ai=>⟨rfl,?_⟩⟩;rw[Dv];have aa:p≠a:=fun z=>by rw[z,zK]at hp;cases hp
  rw[zE aa]at hp;have ag:p≠dx:=fun z=>by rw[z,zK]at hp;cases hp
  rw[zE ag]at hp;have sm:Same H2 (upd (upd H2 dx (.own a)) a (.ins C dx [(f1,v),(f2,u),(f3,.ref p)])):=(Same.laid al).trans (Same.laid (by rw[zE (ic ne)];exact ah));have af:upd (upd H2 dx (.own a)) a (.ins C dx [(f1,v),(f2,u),(f3,.ref p)]) p=none:=by rw[zE aa,zE ag];exact hp
  have ac:upd (upd H2 dx (.own a)) a (.ins C dx [(f1,v),(f2,u),(f3,.ref p)]) a=some (.ins C dx [(f1,v),(f2,u),(f3,.ref p)]):=zK;generalize upd (upd H2 dx (.own a)) a (.ins C dx [(f1,v),(f2,u),(f3,.ref p)])=H3 at sm af ac ⊢;have e3:Ex o2 H2 o2 H3:=Ex.of_same sm;have ab:=e2.trans e3;have hn:h++ad ([]:DM)=h:=gl h;obtain⟨_,m1,m2,m3,m4,m5,m6⟩:=A1 (p:=p) (u:=.x p ob0) (D0:=.g g ob0 []) (fun G H z=>⟨z,ai,[],pd0 g,rfl⟩) (h:=h) (M:=[]) (Ex.refl (o:=o2) (H:=H3)) (fun a m=>(by cases m)) (by rw[hn];exact he.mono (e1.trans ab)) (by rw[hn];exact s2.same sm) ⟨pf,fun a m=>(by cases m),fun a D m=>(by cases m)⟩ af;rw[hn]at m6;have fa:=s2.fresh ah;have as:f2≠f1:=ic n1;have aq:f3≠f1:=ic n2;have f3'':f3≠f2:=ic n3;have hv:Has (vx (h++ad [(p,DD.g g ob0 [])]) o2 (upd H3 p (obO p ob0))) b1 v:=Has.mono m6 _ _ (show HasX h o2 H3 (.d b1) v from x1.mono ab);have hu:Has (vx (h++ad [(p,DD.g g ob0 [])]) o2 (upd H3 p (obO p ob0))) b2 u:=Has.mono m6 _ _ (show HasX h o2 H3 (.d b2) u from y2.mono e3);have hI:HasX (h++ad [(p,DD.g g ob0 [])]) o2 (upd H3 p (obO p ob0)) (.i C [(f1,.inl b1),(f2,.inl b2),(f3,.inr (.ref p))]) (.ref a):=by
   refine⟨a,dx,[(f1,v),(f2,u),(f3,.ref p)],rfl,zP.mpr ⟨fun z=>?_,fa.2,by rw[zE (ic aa)];exact ac⟩,fun f l=>?_,fun f e l=>?_⟩
   ·rcases mem_append.mp z with z|z
    ·exact fa.1 z
    ·exact aa (mem_singleton.mp z).symm
   ·rw[lk3]at l ⊢;by_cases h1:f=f1
    ·rw[cq h1]at l;cases l
    ·rw[ck h1]at l ⊢;by_cases h2:f=f2
     ·rw[cq h2]at l;cases l
     ·rw[ck h2]at l ⊢;by_cases h3:f=f3
      ·rw[cq h3]at l;cases l
      ·rw[ck h3]
   ·rw[lk3]at l ⊢;by_cases h1:f=f1
    ·rw[cq h1]at l ⊢;cases l;exact⟨v,rfl,hv⟩
    ·rw[ck h1]at l ⊢;by_cases h2:f=f2
     ·rw[cq h2]at l ⊢;cases l;exact⟨u,rfl,hu⟩
     ·rw[ck h2]at l ⊢;by_cases h3:f=f3
      ·rw[cq h3]at l ⊢;cases l;exact⟨_,rfl,rfl⟩
      ·rw[ck h3]at l;cases l
  refine⟨a,dx,[(f1,v),(f2,u),(f3,.ref p)],rfl,by rw[zE (ic aa)];exact ac,by rw[lk3,ck n4,ck n5,ck n6],?_⟩;refine hl (h++ad [(p,DD.g g ob0 [])]) o2 (upd H3 p (obO p ob0)) δ σ S2 _ _ m3 m4 d2 fun o5 H5 S5 xs us e5 s5 x5 ⟨ae,am,d5⟩=>?_;have aj:=x5.len;rw[gl];refine⟨by rw[cw,aj,hm,ae],rQ (o0:=o2) (H0:=H3) (m1.trans e5) m2 (m3.mono e5) s5 (m5.mono e5) (xs:=.i C [(f1,.inl b1),(f2,.inl b2),(f3,.inr (.ref p))]::xs) ?_ ⟨_,us,rfl,hI.mono e5,x5⟩ (R:=fun d _=>R (.d d) S5) (d5 p) fun H' M' d v e6 ao ar ak ap an r=>cn o5 H' S5 (.d d) v ((e1.trans ab).trans e6) ak.less an.less r⟩;rw[all_cons,am];rfl
theorem Hi{K:bx}{C:Addr}{f1 f2 f3:Str}(c:Cls K C)(n1:NoAttr K C f1)(n2:NoAttr K C f2)(n3:NoAttr K C f3)(hf:f1≠f2/\f1≠f3/\f2≠f3){vs:List V}{H:Hp}{Q:VK}{E:XK}(h:u8 C f1 f2 f3 vs H Q E):
  cF (jF K (bZ 0) (bZ 1) f1) (cF (jF K (bZ 0) (bZ 2) f2) (jF K (bZ 0) uT f3)) { nx:=fun _ H'=>Q .non H',rt:=Q } (vs.map some) H:=by
 obtain⟨x,v1,v2,dx,rfl,hx,q⟩:=h;obtain⟨m1,m2,m3⟩:=hf;refine⟨v1,rfl,.ref x,rfl,x,C,dx,[],rfl,hx,c,n1,by decide,?_⟩;refine⟨v2,rfl,.ref x,rfl,x,C,dx,_,rfl,zK,c,n2,by simp[bC],?_⟩;intro p hp ab;have aa:p≠x:=fun z=>by rw[z,zK]at hp;cases hp
 rw[Dv,zE aa]at hp;refine⟨.ref x,rfl,x,C,dx,_,rfl,by rw[zE (ic aa),zK],c,n3,by simp[bC,m1],?_⟩;have e:bC f3 (.ref p) (bC f2 v2 (bC f1 v1 []))=[(f1,v1),(f2,v2),(f3,.ref p)]:=by simp[bC,m1,m2,m3]
 rw[e];have eH:upd (upd (upd (upd H x (.ins C dx (bC f1 v1 []))) x (.ins C dx (bC f2 v2 (bC f1 v1 [])))) p (obO p ob0)) x (.ins C dx [(f1,v1),(f2,v2),(f3,.ref p)])=upd (upd H x (.ins C dx [(f1,v1),(f2,v2),(f3,.ref p)])) p (obO p ob0):=by
  funext b;by_cases hb:b=x
  ·subst hb;rw[zK,zE (ic aa),zK]
  ·by_cases hb2:b=p
   ·subst hb2;rw[zE hb,zK,zK]
   ·rw[zE hb,zE hb2,zE hb,zE hb,zE hb2,zE hb]
 show Q .non _;rw[eH];exact q p hp ab
structure Dk(P:cy)(w:fq)(K:bx)(mg:Str->Option bb)(base:Heap)(x:Str)(C:Addr)(ps:List Str)(k:Nat)(sp:Sp):Prop where
 ex:∃f fd,Mk K C f/\FnOk P w K mg base CX0 k f fd ps sp/\mg x=some (.ref C)/\Binds K fd ps []
structure Dki(K:bx)(mg:Str->Option bb)(x:Str)(C:Addr)(qual:Str)(st:Stmt)(ps:List Str):Prop where
 ex:∃f fd,Mk K C f/\Fun K "__init__" qual st f fd/\mg x=some (.ref C)/\Binds K fd ps []
theorem Dk.mk3{P:cy}{w:fq}{K:bx}{mg:Str->Option bb}{base:Heap}{x:Str}{C:Addr}{qual:Str}{st:Stmt}{p0 p1 p2 f1 f2 f3:Str}{k:Nat}(D:Dki K mg x C qual st [p0,p1,p2])(S:FnScope [p0,p1,p2] [p0,p1,p2] (zh st))(c:Cls K C)(n1:NoAttr K C f1)(n2:NoAttr K C f2)(n3:NoAttr K C f3)(hf:f1≠f2/\f1≠f3/\f2≠f3)
  (hbody:∀(f:Addr) (q:bb) (A:ff) (outer:List Env) (s:bd) (H:Hp) (E:XK),Room k (A.deeper (qk qual (zh st) s.heap.objs.size f q)) ->
   PSs (dQ CX0 P w K mg base [p0,p1,p2] qual (zh st) f q A outer s H E).nox (bP st) (cF (jF K (bZ 0) (bZ 1) f1) (cF (jF K (bZ 0) (bZ 2) f2) (jF K (bZ 0) uT f3)))):Dk P w K mg base x C [p0,p1,p2] (k+1) (u8 C f1 f2 f3):=by
 obtain⟨f,fd,M,F,hm,hb⟩:=D.ex;refine⟨f,fd,M,F.ok S (fun vs H Q E h=>?_) fun q A outer s H vs Q E hr h=>⟨_,hbody f q A outer s H E hr,?_⟩,hm,hb⟩
 ·obtain⟨_,_,_,_,rfl,_⟩:=h;rfl
 ·have:=Hi c n1 n2 n3 hf h;obtain⟨_,_,_,_,rfl,_⟩:=h;exact this
section
variable {X:Cx}{x:Str}{C:Addr}{ps:List Str}{k j:Nat}{pos p:Pos}{e:Expr}{es:List Expr}{t:TA}{sp:Sp}
theorem Ik(D:Dk X.prog X.w X.K X.mg X.base x C ps k sp)(hr:Room j X.A)(hk:k+1<=j)(ha:PA X (e::es) t)(hg:Gl X x:=by rfl)(q:(x==("__debug__":Str))=false:=by decide)
  (q1:cr (e::es) X.env=(false,eval e X.env)::cr es X.env:=by rfl) (q2:((kx pos (cr es X.env)).any fun x=>x.fst)=false:=by rfl):PE X (.Call (.Name x p) (e::es) [] pos) (AJ C sp [] E0 t):=by
 obtain⟨f,fd,M,F,hm,hb⟩:=D.ex;exact IS (dvs:=[]) (ds:=[]) (E:=E0) M F (hr.mono hk) hg hm hb .nil pass0 ha q q1 q2
end
end
end L2
namespace L2
open PySem PySem.Spec PySem.Calls PyProof.Rows
open Sem (wp)
theorem Gm(a f:bb):argsOk "min" ⟨[a],[(mr "key",f)]⟩:=by unfold argsOk;kernel_rfl
section
variable {X:Cx}{zi:List (Addr×Obj)}{σ:St}{H:Hp}{s:bd}{k:Nat}{x:Str}{caps:List Str}{qual:Str}{params:qy}{body:Expr}{scope:Scope}{cl:List (Str×Addr)}{pm ctv:bb}{c' f l:Addr}{cs xs:List V}{Q:VK}{t:TE}{E:bb->bd->Prop}
theorem G4{W:Nat->V->Int->Hp->Prop}(SC:LamScope [x] caps scope)(hr:Room (k+2) X.A)(q:∀u,qc (PySem.W.kla_fn "<lambda>" qual params body scope cl pm (.ref c') ctv) ⟨[u],[]⟩=pure [(x,u)])
  (hb:∀s H,PE (cxL X.prog X.w X.K X.mg X.base ([x]++caps) qual scope cl f (.ref c') X.A.in1 X.stack s H) body t) (hW:MinW l xs.length cs t Q W)
  (I:Inv X zi σ H s) (hl:H l=some (.lst xs)) (h0:xs≠[]) (h1:∀v,xs[0]?=some v->t (some v::cs.map some) H fun kv H'=>∃j,kv=.int j/\W 1 v j H')
  (hf:H f=some (.frz (lI qual params body scope cl pm c' ctv) (.own 0))) (hc:CodeFz H c' qual) (C:Caps H s.heap cl caps cs):
  bn (model X.prog X.w) X.A (call (.builtin "min") [.ref l] [(mr "key",.ref f)]) (EP X zi σ Q) E s:=by
 have nm:(rg "min" ++ rg ".loop":String) = "min.loop":=by decide
 have e0:Env0 X.prog X.w X.K X.mg X.base X.A.in1 X.stack s H:=I.env0.in1;have hh:X.A.in1.handled=none:=hr.hd;obtain⟨hz,ah,cap,rv,el⟩:=(show ObjOk X.prog X.w H s.heap l (.lst xs)from I.hok l _ hl);have ar:s.heap.IsList l ah.toArray:=⟨_,el,rfl,_,rfl⟩;have lt:l<s.heap.objs.size:=dw el;have ac:∀b∈frs X.stack,b<s.heap.objs.size:=fun b hb=>by
  obtain⟨_,o,ho,_⟩:=I.stack.mem hb;exact dw ho
 have cb:∀x c,cl.lookup x=some c->c<s.heap.objs.size:=fun x c e=>by
  obtain⟨_,v,o,ho,_⟩:=C.free x c e;exact dw ho
 have b1:X.base.objs.size<=s.heap.objs.size:=e0.bsz;refine kmk_tree F.kind_min F.plain_min F.entry_min (Gm _ _) ?_;show bn _ X.A.in1 (Builtin.Builtins.bindParams "min" ["key","default"] 0 ⟨[],[(mr "key",.ref f)]⟩ >>= _) _ _ s;refine ba (wpAny_of_eq (show Builtin.Builtins.bindParams "min" ["key","default"] 0 ⟨[],[(mr "key",.ref f)]⟩=pure [some (.ref f),none]from rfl) (ba (be (ba (mn ar ?_)))));refine ba (gh ?_);rw[nm];have z1:(s.heap.push { cls:=.type "list_iterator",data:=.fields #[.ref l,.int 0 0] }).objs.size=s.heap.objs.size+1:=size_push ..;generalize hg1:s.heap.push { cls:=.type "list_iterator",data:=.fields #[.ref l,.int 0 0] } = g1 at z1 ⊢;have gI:g1.get? s.heap.objs.size=some { cls:=.type "list_iterator",data:=.fields #[.ref l,.int 0 0] }:=by rw[<- hg1];exact cj _ rfl
 have as:∀b o,s.heap.get? b=some o->g1.get? b=some o:=fun b o e=>by rw[<- hg1];exact bf _ e
 generalize hg2:g1.push { cls:=.type "list",data:=.seq #[] } = g2;have gS:g2.get? g1.objs.size=some (oo "list" #[] 0):=by rw[<- hg2];exact cj _ rfl
 have ap:∀b o,g1.get? b=some o->g2.get? b=some o:=fun b o e=>by rw[<- hg2];exact bf _ e
 have kp:∀b o,s.heap.get? b=some o->g2.get? b=some o:=fun b o e=>ap b o (as b o e);have zz:s.heap.objs.size<=g2.objs.size:=fv (show s.heap.objs.size<=g1.objs.size by rw[z1];exact le_succ _) (jc (dw gS));have I2:Inv X zi σ H { s with heap:=g2 }:=I.kept (t':=s.toks) kp;have e2:Env0 X.prog X.w X.K X.mg X.base X.A.in1 X.stack { s with heap:=g2 } H:=I2.env0.in1;have ab:g1.objs.size≠s.heap.objs.size:=by rw[z1];exact Nat.succ_ne_self _
 have i2:s.heap.objs.size<=g1.objs.size:=by rw[z1];exact le_succ _
 have nI:H s.heap.objs.size=none:=I.hok.fresh (cz _);have nS:H g1.objs.size=none:=I.hok.fresh i2;have ai:s.heap.objs.size∉frs X.stack:=fun m=>absurd (ac _ m) (jx _);have ag:g1.objs.size∉frs X.stack:=fun m=>absurd (fc (ac _ m) i2) (jx _);have U2:Un (frs X.stack) [] H H s.heap g2:=Un.kept kp;have C2:Caps H g2 cl caps cs:=C.after U2;have ae:g2.IsList l ah.toArray:=⟨_,kp _ _ el,rfl,_,rfl⟩;have aq:g2.IsListIter s.heap.objs.size l 0:=⟨_,ap _ _ gI,rfl,rfl⟩;refine be ⟨ig gf _,?_⟩;show kl _ X.A (.builtin "min.loop" ⟨[.ref s.heap.objs.size,.ref f,.ref g1.objs.size],[]⟩) _ { s with heap:=g2 };refine oh (R:=fun r s'=>match r with | .ok (.ret u)=>CE X.stack X.prog X.w H s Q u s'|_=>False) ?_ fun r s' z=>?_
 rotate_left
 ·cases r with
  |error e=>exact z.elim
  |ok fl=>
   cases fl with
   |ret u=>exact I.after z
   |next=>exact z.elim
   |brk=>exact z.elim
   |cont=>exact z.elim
 refine gm nu ?_;rw[fx gf _];show bn _ X.A.in1 (seqItems? (.ref g1.objs.size) >>= _) _ _ _;refine ba (lh gS rfl ?_);show bn _ X.A.in1 (rh (ls (.ref s.heap.objs.size)) _ >>= _) _ _ _;cases hxs:xs with
 |nil=>exact absurd hxs h0
 |cons v r=>
  have hx:xs[0]?=some v:=by rw[hxs];rfl
  obtain⟨u,eu,ru⟩:=rv.get hx;refine ba (ju (wpAny_pyNext_list_item (s:={ s with heap:=g2 }) aq ae (x:=u) (by simpa using eu) fun h3 ak aj=>?_));have k3:∀b o,b≠s.heap.objs.size->g2.get? b=some o->h3.get? b=some o:=fun b o nb e=>aj.extBut b o nb e;have e3:Env0 X.prog X.w X.K X.mg X.base X.A.in1 X.stack { s with heap:=h3 } H:=e2.own nI b1 ai k3 (le_of_eq aj.1.symm) s.toks;have C3:Caps H h3 cl caps cs:=C2.own (fun x c e=>fk (cb x c e)) k3;show bn _ X.A.in1 (rh (holding [u] (call (.ref f) [u])) _ >>= _) _ _ _;refine ba (ju (gu (BY (k:=k) (s:={ s with heap:=h3 }) SC hr.in1 e3 hf hc q ru C3 (hb _ _) (h1 v hx) fun u2 s2 z=>?_)));obtain⟨kv,H2,av,aa,U3,an,r2,j,rfl,hj⟩:=z;obtain⟨t2,rfl⟩:=r2;have al:=k3 _ _ ab gS;have af:=U3.keep _ _ al nS ag yv;obtain⟨oI,eI,cI,dI⟩:=id ak;have am:=U3.keep _ _ eI nI ai yv;have au:H2 s.heap.objs.size=none:=U3.free _ _ eI nI yv;have ao:H2 g1.objs.size=none:=U3.free _ _ al nS yv;have bz:X.base.objs.size<=s2.heap.objs.size:=fv b1 (jc (dw am));have e4:=e3.after U3 an aa bz;have U4:Un (frs X.stack) [] H H2 s.heap s2.heap:=(kR U2 (cz _) k3).trans U3;have s3:=jv s2.heap g1.objs.size (gi fun _=>#[u,.int j t2]);obtain⟨cc,aw⟩:∃cc,(s2.heap.update g1.objs.size (gi fun _=>#[u,.int j t2])).get? g1.objs.size=some (oo "list" #[u,.int j t2] cc):=⟨_,get?_update_seq af fun _=>#[u,.int j t2]⟩;have k4:∀b o,b≠g1.objs.size->s2.heap.get? b=some o->(s2.heap.update g1.objs.size (gi fun _=>#[u,.int j t2])).get? b=some o:=fun b o nb e=>(s3.2 b nb).trans e;show bn _ X.A.in1 (updateSeq g1.objs.size (fun _=>#[u,.int j t2]) >>= _) _ _ _;refine ba (jm af rfl ?_);rw[nm];refine be ⟨ig gf _,KA (k:=k) SC hr q hb hW b1 (cz _) i2 ab cb ac r.length 1 { s2 with heap:=s2.heap.update g1.objs.size (gi fun _=>#[u,.int j t2]) } H2 v u j t2 cc (by rw[hxs,cw];omega) (e4.own ao (fv b1 i2) ag k4 (le_of_eq s3.1.symm) s2.toks) (kR U4 i2 k4) av hj ⟨oI,k4 _ oI (ic ab) am,cI,dI⟩ au aw ao ru (U3.frzs _ _ _ hf) (hc.un U3) ((C3.after U3).own (fun x c e=>fk (fc (cb x c e) i2)) k4)⟩
end
def wJ(ks:List Nat)(tb:TE)(σ:St)(Q:VK)(x:V)(H1:Hp):Prop:=∃l xs cs,x=.ref l/\H1 l=some (.lst xs)/\ks.map (fun i=>(σ[i]?).join)=cs.map some/\∀H2,Same H1 H2 ->
 ∃W,MinW l xs.length cs tb Q W/\xs≠[]/\∀v,xs[0]?=some v->tb (some v::cs.map some) H2 fun kv H'=>∃j,kv=.int j/\W 1 v j H'
def Ho(ks:List Nat)(tb:TE)(σ:St)(Q:VK):List V->Hp->Prop
 | [x],H1=>wJ ks tb σ Q x H1
 |_,_=>False
def CN(ks:List Nat)(te tb:TE):TE:=fun σ H Q=>te σ H fun x H1=>wJ ks tb σ Q x H1
theorem Gy{X:Cx}{e body:Expr}{te tb:TE}{dsc scope:Scope}{L k:Nat}{x:Str}{caps:List Str}{ks:List Nat}{params:qy}{c P:Addr}{p pos kp lp:Pos}
  (hT:((c,P),lamKey (X.env.qual ++ "<lambda>") lp)∈tabsG) (hcode:X.env.code=.ref c) (hd:X.env.scope=dsc) (hc:X.env.cells=cellsFrom L dsc.names []) (hk:scope.kind=.function) (hco:scope.isCoroutine=false) (hgn:scope.isGenerator=false) (hl:gY X.N dsc.names scope [x] caps ks=true)
  (hdf:defaultsOf params X.env=([],[])) (hbind:∀cl pm c' ctv u,qc (PySem.W.kla_fn "<lambda>" (X.env.qual ++ "<lambda>") params body scope cl pm (.ref c') ctv) ⟨[u],[]⟩=pure [(x,u)])
  (hr:Room (k+2) X.A) (hg:Gl X "min") (hm:X.mg "min" = none) (he':PE X e te)
  (hb:∀cl f c' s H,Room k (X.A.in1.deeper (PySem.W.envX (X.env.qual ++ "<lambda>") scope s.heap.objs.size f (.ref c') cl))->PE (cxL X.prog X.w X.K X.mg X.base ([x]++caps) (X.env.qual ++ "<lambda>") scope cl f (.ref c') X.A.in1 X.stack s H) body tb)
  (he0:cr [e] X.env=(false,eval e X.env)::cr [] X.env:=by rfl) (he:kx pos (cr [e] X.env)=(false,eval e X.env)::kx pos (cr [] X.env):=by rfl) (hpl:(kx pos (cr [e] X.env)).any (·.1)=false:=by rfl):
  PE X (.Call (.Name "min" p) [e] [⟨some "key",.Lambda params body scope lp,kp⟩] pos) (CN ks te tb):=by
 intro zi s σ H Q I h;refine jo (e9 I hg hm v3 ?_ dz dz);refine PyProof.Rows.callWith_kw (thn (za he' ze he0 pos zi s σ H (Ho ks tb σ Q) I h) fun us s1 ⟨vs,H1,I1,r1,q1⟩=>?_) he hpl rfl rfl
 match vs,r1,q1 with
 | [v],.cons rv .nil,⟨l,xs,cs,ev,el,hcs,hW⟩=>
  subst ev;cases rv;refine PyProof.Rows.kws_cons (PySem.W.kla_eval hdf (Iv I1 hcode hT (EN hd hc hl) fun f c' ctv pm H2 s2 I2 sm nf hf q=>PyProof.Rows.kws_nil ?_));obtain⟨W,w1,w2,w3⟩:=hW H2 sm;exact G4 (k:=k) (Kw (X:=X) hk hco hgn hl) hr (fun u=>hbind _ _ _ _ u) (fun s H=>hb _ _ _ s H (hr.in1.deeper _)) w1 I2 (sm _ _ el) w2 w3 hf q (Ga I2 hd hc hl hcs)
theorem IZ{h o1:List Addr}{H1:Hp}{δ:XE}{σ:St}{S1:Sto}{x:XV}{v:V}{ds:List bc}{cs:List XV}{kf:bc->Int}{ks:List Nat}{tb:TE}{db:DE}{Q:VK}(h2:RE tb db)(he:RepE h o1 H1 δ σ)(s1:RepS h o1 H1 S1)(x1:HasX h o1 H1 x v)(ek:dU S1 x=some ds)
  (hcs:ks.map (fun i=>(δ[i]?).join)=cs.map some) (hk:∀d∈ds,∀R':RX,R' (.d (.int (kf d))) S1->db (some (.d d)::cs.map some) S1 R') (h0:ds≠[])
  (c:∀o' H' d w pre post,Ex o1 H1 o' H'->RepS h o' H' S1->HasX h o' H' (.d d) w->ds=pre++d::post->(∀a∈pre,kf d<kf a)->(∀a∈post,kf d<=kf a)->Q w H'):wJ ks tb σ Q v H1:=by
 obtain⟨a,vs,rfl,ea,l⟩:=bV s1 ek x1;obtain⟨aa,ag,hx⟩:=Eu he hcs;refine⟨a,vs,aa,rfl,ea,ag,fun H2 sm=>?_⟩;have lv:vs.length=ds.length:=l.length;have at_:∀o' H',Ex o1 H1 o' H'->RepS h o' H' S1->∃xs,xs.length=vs.length/\H' a=some (.lst xs)/\HasL (vx h o' H') ds xs:=fun o' H' e' s'=>by
  obtain⟨a',xs,af,q1,q2⟩:=bV s' ek (x1.mono e');cases af;exact⟨xs,q2.length.trans lv.symm,q1,q2⟩
 have ac:∀o' H',Ex o1 H1 o' H'->RepS h o' H' S1->∀d',d'∈ds->∀v',HasX h o' H' (.d d') v'->∀Q':VK,(∀o2 H3,Ex o1 H1 o2 H3->RepS h o2 H3 S1->Ex o' H' o2 H3->Q' (.int (kf d')) H3)->tb (some v'::aa.map some) H' Q':=by
  intro o' H' e' s' d' hd v' hv Q' hQ;have rp:RepE h o' H' (some (.d d')::cs.map some) (some v'::aa.map some):=by
   have:=m9 (n:=0) (show HasXs h o' H' (.d d'::cs) (v'::aa)from⟨v',aa,rfl,hv,hx.mono e'⟩);simpa using this
  refine h2 h o' H' _ _ S1 (fun kv S'=>kv=.d (.int (kf d'))/\S'=S1) _ rp s' (hk d' hd _ ⟨rfl,rfl⟩) fun o2 H3 S2 x v e2 s2 x2 ⟨ex,eS⟩=>?_;subst ex eS;obtain rfl:=eU.mp (show Has (vx h o2 H3) (.int (kf d')) v from x2);exact hQ o2 H3 (e'.trans e2) s2 e2
 refine⟨fun n best kb H'=>∃o' pre d post q,Ex o1 H1 o' H'/\RepS h o' H' S1/\ds=pre++d::(post++q)/\n=pre.length+1+post.length/\HasX h o' H' (.d d) best/\kb=kf d/\(∀a∈pre,kf d<kf a)/\∀a∈post,kf d<=kf a,fun n best kb H' ⟨o',pre,d,post,q,ex,rs,ed,en,hb,ai,hp,hq⟩=>?_,?_,fun v hv=>?_⟩
 ·obtain⟨xs,lx,ex',ah⟩:=at_ o' H' ex rs;have dl:ds.length=n+q.length:=by rw[ed];simp only[bv,cw];omega
  refine⟨xs,lx,ex',fun v' hv=>?_,fun hn=>?_⟩
  ·have aj:n<ds.length:=by have:=(List.getElem?_eq_some_iff.mp hv).1;omega
   cases q with
   |nil=>simp only[qd]at dl;omega
   |cons d' q=>
    have ae:ds[n]?=some d':=by
     rw[ed,show pre++d::(post++d'::q)=(pre++d::post)++d'::q by simp,jj (by simp only[bv,cw];omega),show n-(pre++d::post).length=0 by simp only[bv,cw];omega];rfl
    obtain⟨v2,e2,ab⟩:=ah.get ae;rw[hv]at e2;cases e2;refine ac o' H' ex rs d' (bw ae) v' ab _ fun o2 H3 e3 s3 e4=>⟨kf d',rfl,?_⟩;by_cases hj:kf d'<kb
    ·rw[cq hj];refine⟨o2,pre++d::post,d',[],q,e3,s3,by rw[ed];simp,by simp only[bv,cw,qd];omega,HasX.mono e4 (x:=.d d') ab,rfl,fun a ha=>?_,fun a z=>nomatch z⟩;rcases mem_append.mp ha with ha|ha
     ·have:=hp a ha;omega
     ·rcases mem_cons.mp ha with rfl|ha
      ·omega
      ·have:=hq a ha;omega
    ·rw[ck hj];refine⟨o2,pre,d,post++[d'],q,e3,s3,by rw[ed];simp,by simp only[bv,cw,qd];omega,HasX.mono e4 (x:=.d d) hb,ai,hp,fun a ha=>?_⟩;rcases mem_append.mp ha with ha|ha
     ·exact hq a ha
     ·rw[mem_singleton.mp ha];omega
  ·have p2:q=[]:=cx yw;subst p2;exact c o' H' d best pre post ex rs hb (by rw[ed,gl]) hp hq
 ·intro z;subst z;exact h0 (cx lv.symm)
 ·have ex:=Ex.of_same (o:=o1) sm;cases ds with
  |nil=>rw[cx lv]at hv;cases hv
  |cons d rest=>
   obtain⟨v2,e2,ab⟩:=l.get (i:=0) (d:=d) rfl;rw[hv]at e2;cases e2;refine ac o1 H2 ex (s1.same sm) d br v (HasX.mono ex (x:=.d d) ab) _ fun o2 H3 e3 s3 e4=>⟨kf d,rfl,o2,[],d,[],rest,e3,s3,rfl,rfl,HasX.mono e3 (x:=.d d) ab,rfl,(fun a z=>nomatch z),fun a z=>nomatch z⟩
def jX(ks:List Nat)(de:DEm)(db:DE):DEm:=fun δ S M R=>de δ S M fun x S1 M1=>∃(ds:List bc) (cs:List XV) (kf:bc->Int),dU S1 x=some ds/\ks.map (fun i=>(δ[i]?).join)=cs.map some /\
 (∀d∈ds,∀R':RX,R' (.d (.int (kf d))) S1->db (some (.d d)::cs.map some) S1 R')/\ds≠[] /\
 ∀pre d post,ds=pre++d::post->(∀a∈pre,kf d<kf a)->(∀a∈post,kf d<=kf a)->R (.d d) S1 M1
theorem F9{ks:List Nat}{te tb:TE}{de:DEm}{db:DE}(h1:REm te de)(h2:RE tb db):REm (CN ks te tb) (jX ks de db):=fun h o H δ σ S M R Q he hs rm q c=>
 h1 h o H δ σ S M _ _ he hs rm q fun o1 H1 S1 M1 x v e1 z s1 aa x1 ⟨ds,cs,kf,ek,ab,hk,h0,hf⟩=>
  IZ h2 (by rw[z];exact he.cut e1) s1 x1 ek ab hk h0 fun o' H' d w pre post e2 s2 w2 ed hp hq=>c o' H' S1 M1 (.d d) w (e1.cut2 e2.cut1) z s2 (aa.mono e2) w2 (hf pre d post ed hp hq)
def TupK(mg:Str->Option bb)(x z:Str)(a:Addr):Prop:=mg x=some (.ref a)/\∃ob,((a,ob),z)∈keepG
def tKp(a:Addr)(z:Str):TE:=fun _ H Q=>H a=some (.tup [.str z])->Q (.ref a) H
theorem FB{X:Cx}{x z:Str}{a:Addr}{pos:Pos}(h:TupK X.mg x z a)(hg:Gl X x:=by rfl)(aa:(x==("__debug__":Str))=false:=by decide):PE X (.Name x pos) (tKp a z):=fun zi s σ H Q I q=>by
 obtain⟨hm,ob,hk⟩:=h;exact tG (v:=.ref a) hg hm rfl aa zi s σ H Q I (q (I.frfH.kp _ hk))
theorem El{a:Addr}{z:Str}:RE (tKp a z) (dC (.tuple [.str z])):=fun h o H δ σ S R Q he hs q c ha=>by
 have nh:a∉h:=fun m=>by
  obtain⟨u,e⟩:=hs.hal a m;rw[ha]at e;cases u<;>cases e
 have no:a∉o:=fun m=>by
  obtain⟨u,e⟩:=hs.oal a m;rw[ha]at e;cases e
 refine c o H S (.d (.tuple [.str z])) (.ref a) Ex.refl hs ?_ q;exact cO.mpr ⟨a,[.str z],rfl,zP.mpr ⟨nh,no,ha⟩,zo.mpr ⟨.str z,[],rfl,hV.mpr rfl,zv.mpr rfl⟩⟩
def jH(g:KSg)(dd dk:DM->DE)(dv:DEm):DSm:=fun En δ S M=>dv δ S M fun x S1 M1=>asD x fun d=>dd M1 δ S1 fun y S2=>∃a ob m,y=.o (.ref a)/\(a,DD.g g ob m)∈M1/\dk M1 δ S2 fun z S3=>asD z fun k=>∃kk,k=kdat g kk/\m.length<1000/\∀ob',En.nx δ S3 (cV M1 a (.g g ob' (stG m kk d)))
theorem Lc{E:XK}{EX:EXD}{g:KSg}{td ty tv:TE}{dd dk:DM->DE}{dv:DEm}(ht:g.tup=true)(hd:∀M,REp (PhM M) td (dd M))(hk:∀M,REp (PhM M) ty (dk M))(hv:REm tv dv):RSm E EX (xT g td ty tv) (jH g dd dk dv):=fun h o0 H0 o H δ σ S M En D e0 fr he hs rm q c x=>
 hv h o H δ σ S M _ _ he hs rm q fun o1 H1 S1 M1 y v e1 af s1 ac x1 d1=>by
  obtain⟨d,rfl,d2⟩:=fI d1;have ae:RepE (h++ad M1) o1 H1 δ σ:=by rw[af];exact he.cut e1
  have ak:Ex o0 H0 o1 H1:=e0.cut0 fr e1;refine hd M1 (h++ad M1) o1 H1 δ σ S1 _ _ ae s1 d2 (fun o2 H2 S2 y v2 e2 s2 y2 ⟨a,ob,m,ey,mD,d3⟩=>?_) ⟨h,rfl,ac⟩;subst ey;obtain rfl:v2=.ref a:=y2;refine hk M1 (h++ad M1) o2 H2 δ σ S2 _ _ (ae.mono e2) s2 d3 (fun o3 H3 S3 z u e3 s3 z3 d4=>?_) ⟨h,rfl,ac.mono e2⟩;obtain⟨k,rfl,kk,rfl,hl,n⟩:=fI d4;have ab:=e2.trans e3;have ai:=ac.mono ab;have ma:a∈ad M1:=mem_map.mpr ⟨_,mD,rfl⟩;obtain⟨q3,ah,xs,pd,l⟩:=ai.ct a (.g g ob m) mD;have mh:a∈h++ad M1:=cp _ ma;refine⟨a,ob,xs,kk,rfl,⟨q3,ah,pd,fun x mx=>Has.mono zW _ _ (l.has x mx)⟩,by rw[l.length];exact hl,Has.mono zW _ _ z3,fun aa b r eb rz aj=>?_⟩;subst eb;have fin:∀H',H' a=some (MO.x a aa).ho->DAt (vx (h++ad M1) o3 H3) H' a (.g g aa (stG m kk d)):=fun H' z=>⟨z,ah,_,aj,l.put z3 (x1.mono ab) rz⟩;have ag:=ak.trans ab;refine c.nx o3 _ δ S3 (cV M1 a (.g g aa (stG m kk d))) σ ⟨ag.pre,fun b w' nb zb=>?_⟩ (fK.trans af) ?_ ?_ (ai.put mD fin) (n aa)
  ·obtain⟨z1,z4⟩:=ag.kp b w' nb zb;exact⟨z1,by rw[zE (fun z=>by rw[z,fr a (by rw[<- af];exact ma)]at zb;cases zb)];exact z4⟩
  ·rw[fK];exact(ae.mono ab).view (uA mh)
  ·rw[fK];exact s3.hidden (u:=.x a aa) mh
structure DtC(K:bx)(C:Addr)(m qual:Str)(st:Stmt)(ps:List Str)(cc:Addr):Prop where
 ex:∃f fd,Fun K m qual st f fd/\Meth K C m f/\Binds K fd ps []/\fd.code=.ref cc
section
variable {K:bx}{C:Addr}{m qual:Str}{st:Stmt}{ps:List Str}
theorem Dt.mk'{f:Addr}{oc:bb}{od an:Option Addr}{aa:Array (Option bb)}{kV z pm q ct:bb}
  (a:ot K (.ref C) m=some (some (.ref f))) (l:K.lookup f=some ⟨oc,od,.func (re m qual (dY st) (bP st) (zh st) .none kV z pm an q ct),aa⟩)
  (c:W.codeIn K q qual=true) (k:ql K (.ref f)=true) (i:W.isFn K (.ref f)=true)
  (hb:∀(kV z pm:bb) (an:Option Addr) (q ct:bb) (us:List bb),us.length=ps.length->qc (re m qual (dY st) (bP st) (zh st) .none kV z pm an q ct) ⟨us,[]⟩=pure (ps.zip us)):Dt K C m qual st ps:=
 ⟨f,_,gP (st:=st) l c k,⟨a,i,k⟩,(gP (st:=st) l c k).binds hb⟩
theorem DtC.mk'{f cc:Addr}{oc:bb}{od an:Option Addr}{z:Array (Option bb)}{kV q pm ct:bb}
  (a:ot K (.ref C) m=some (some (.ref f))) (l:K.lookup f=some ⟨oc,od,.func (re m qual (dY st) (bP st) (zh st) .none kV q pm an (.ref cc) ct),z⟩)
  (c:W.codeIn K (.ref cc) qual=true) (k:ql K (.ref f)=true) (i:W.isFn K (.ref f)=true)
  (hb:∀(kV q pm:bb) (an:Option Addr) (cdv ct:bb) (us:List bb),us.length=ps.length->qc (re m qual (dY st) (bP st) (zh st) .none kV q pm an cdv ct) ⟨us,[]⟩=pure (ps.zip us)):DtC K C m qual st ps cc:=
 ⟨f,_,gP (st:=st) l c k,⟨a,i,k⟩,(gP (st:=st) l c k).binds hb,rfl⟩
theorem Dki.mk'{h:Heap}{mg:Str->Option bb}(X:K.In h)(G:h.Ns ii mg){x:Str}{f:Addr}{oc:bb}{od an:Option Addr}{aa:Array (Option bb)}{kV z pm q ct:bb}
  (a:W.nsIn K ii x=some (some (.ref C))) (mk:W.makesIn K C=true) (i:ot K (.ref C) "__init__" = some (some (.ref f))) (l:K.lookup f=some ⟨oc,od,.func (re "__init__" qual (dY st) (bP st) (zh st) .none kV z pm an q ct),aa⟩)
  (c:W.codeIn K q qual=true) (k:ql K (.ref f)=true) (fn:W.isFn K (.ref f)=true) (kc:ql K (.ref C)=true)
  (hb:∀(kV z pm:bb) (an:Option Addr) (q ct:bb) (us:List bb),us.length=ps.length->qc (re "__init__" qual (dY st) (bP st) (zh st) .none kV z pm an q ct) ⟨us,[]⟩=pure (ps.zip us)):Dki K mg x C qual st ps:=
 ⟨f,_,⟨mk,i,fn,kc⟩,gP (st:=st) l c k,W.mg_of X G a,(gP (st:=st) l c k).binds hb⟩
end
section
variable {P:cy}{w:fq}{K:bx}{mg:Str->Option bb}{base:Heap}{C cc:Addr}{m qual:Str}{st:Stmt}{N ps:List Str}{k:Nat}
theorem Dm.dMC{q:PNm}(D:DtC K C m qual st ps cc)(S:FnScope N ps (zh st))(n:Nat)(hn:N.length=ps.length+n)
  (hbody:∀(f:Addr) (A:ff) (outer:List Env) (s:bd) (H:Hp) (E:XK),Room k (A.deeper (qk qual (zh st) s.heap.objs.size f (.ref cc))) ->
   ∃t dt,PSs (dQ CX0 P w K mg base N qual (zh st) f (.ref cc) A outer s H E).nox (bP st) t/\RSm E0 (fun _ _=>False) t dt/\∀xs S M R,q xs S M R->dt (iZ R) (xs.map some++bh n Option.none) S M):Dm P w K mg base C m ps (k+1) (spM ps q):=by
 obtain⟨f,fd,F,hm,hb,hc⟩:=D.ex;obtain⟨oc,od,kV,ae,pm,an,ac,ct,af,rfl,lk,ab⟩:=F.ex;obtain rfl:ac=.ref cc:=hc;refine⟨f,_,DL lk ab S (fun vs H Q E h=>h.1) fun A outer s H vs Q E hr ⟨hl,h,o,S',M,xs,R,aa,rm,hx,hq,c⟩=>?_,hm,hb⟩;obtain⟨t,dt,h1,h2,h3⟩:=hbody f A outer s H E hr;refine⟨t,h1.nox,h2 h o (cutH H (ad M)) o H _ _ S' M _ _ yP (fun a m=>?_) ?_ aa rm (h3 xs S' M R hq) (x3 c) fun _ _ _ _ _ _ _ _ _ z=>z.elim⟩
 ·unfold cutH;rw[cq m]
 ·have e:N.length-vs.length=n:=yw
  unfold start;rw[e];exact m9 hx
end
end L2
namespace L2
open PySem PySem.Spec PyProof.Rows
section
def iV(g:KSg)(q:PNm)(da db:DE):DE:=fun δ S R=>da δ S fun x S1=>db δ S1 fun y S2=>[x,y].all gD=true/\∀p,q [x,y,.o (.ref p)] [] [(p,.g g ob0 [])] fun d S' _=>S'=[]/\R (.d d) S2
theorem B1{ps:List Str}{q:PNm}{g:KSg}{ta tb:TE}{da db:DE}(ha:RE ta da)(hb:RE tb db)(hm:ps.length=3:=by rfl):RE (g8 (spM ps q) [] E0 (eC ta (eC tb (eC uT gB)))) (iV g q da db):=fun h o H δ σ S R Q he hs w cn=>
 ha h o H δ σ S _ _ he hs w fun o1 H1 S1 x1 v1 e1 s1 af d1=>hb h o1 H1 δ σ S1 _ _ (he.mono e1) s1 d1 fun o2 H2 S2 x2 v2 e2 s2 ah ⟨hn,d2⟩ p hp ag=>by
  have aa:h++ad ([]:DM)=h:=gl h;obtain⟨_,m1,m2,m3,m4,m5,m6⟩:=A1 (p:=p) (u:=.x p ob0) (D0:=.g g ob0 []) (fun G H z=>⟨z,ag,[],pd0 g,rfl⟩) (h:=h) (M:=[]) (Ex.refl (o:=o2) (H:=H2)) (fun a m=>(by cases m)) (by rw[aa];exact he.mono (e1.trans e2)) (by rw[aa];exact s2) ⟨pf,fun a m=>(by cases m),fun a D m=>(by cases m)⟩ hp;rw[aa]at m6;simp only[all_cons,List.all_nil,qp,fu]at hn;obtain⟨ac,ab⟩:=hn;refine⟨by rw[hm];rfl,rQ (o0:=o2) (H0:=H2) m1 m2 m3 m4 m5 (xs:=[x1,x2,.o (.ref p)]) (by simp only[all_cons,List.all_nil,ac,ab];rfl) ⟨v1,_,rfl,u7 m6 ac (af.mono e2),v2,_,rfl,u7 m6 ab ah,.ref p,[],rfl,rfl,rfl⟩ (R:=fun d _=>R (.d d) S2) (d2 p) fun H' M' d v e6 aj al ae ak ai r=>cn o2 H' S2 (.d d) v ((e1.trans e2).trans e6) ae.less ai.less r⟩
theorem JH{X:Cx}{K:bx}(hK:X.K=K):SlR X (xV K):=by
 subst hK;exact iJ
end
section
def sT(n:Nat)(R:bc->Sto->DM->Prop):DEndsM:={ nx:=fun _ S M=>R .none (S.take n) M,rt:=fun x S M=>∃d,x=.d d/\R d (S.take n) M }
theorem pU{n:Nat}{R:bc->Sto->DM->Prop}{d:bc}{S:Sto}{M:DM}:(sT n R).rt (.d d) S M=R d (S.take n) M:=propext ⟨fun⟨e,z,q⟩=>by cases z;exact q,fun q=>⟨d,rfl,q⟩⟩
theorem IP{h o:List Addr}{H:Hp}{A:List Addr}{n:Nat}{R:bc->Sto->DM->Prop}{Q:VK}(hn:n=o.length)(c:CnM h o H A R Q):CnM h o H A (fun d S M=>R d (S.take n) M) Q:=fun o' H' S' M' d v e ea hs rm hx q=>by
 obtain⟨⟨r,er⟩,kp⟩:=e;subst er;have hl:=hs.len;rw[bv]at hl;have es:S'=S'.take n++S'.drop n:=(nt n S').symm;rw[es]at hs;have lt:(S'.take n).length=o.length:=by rw[gz];omega
 refine c o H' (S'.take n) M' d v ⟨⟨[],yv⟩,fun b u nb z=>?_⟩ ea (hs.pop lt) rm.pop (Has.mono cH _ _ hx) q;obtain⟨k1,k2⟩:=kp b u nb z;exact⟨fun m=>k1 (cu _ m),k2⟩
theorem MA{h o:List Addr}{H:Hp}{A:List Addr}{S:Sto}{R:bc->Sto->DM->Prop}{Q:VK}(hn:S.length=o.length)(c:CnM h o H A R Q):EOkM h o (cutH H A) A (sT S.length R) { nx:=fun _ H'=>Q .non H',rt:=Q } :=
 x3 (IP hn c)
section
variable {P:cy}{w:fq}{K:bx}{mg:Str->Option bb}{base:Heap}{x:Str}{st:Stmt}{N ps:List Str}{k:Nat}
theorem Df.dMt{q:PNm}(D:Dd K mg x st ps)(S:FnScope N ps (zh st))(n:Nat)(hn:N.length=ps.length+n)
  (hbody:∀(f:Addr) (aa:bb) (A:ff) (outer:List Env) (s:bd) (H:Hp) (E:XK),Room k (A.deeper (qk x (zh st) s.heap.objs.size f aa)) ->
   ∃t dt,PSs (dQ CX0 P w K mg base N x (zh st) f aa A outer s H E).nox (bP st) t/\RSm E0 (fun _ _=>False) t dt/\∀xs S M R,q xs S M R->dt (sT S.length R) (xs.map some++bh n Option.none) S M):Df P w K mg base x ps (k+1) (spM ps q):=by
 refine Df.of D S (fun vs H Q E h=>h.1) fun f aa A outer s H vs Q E hr ⟨hl,h,o,S',M,xs,R,ab,rm,hx,hq,c⟩=>?_;obtain⟨t,dt,h1,h2,h3⟩:=hbody f aa A outer s H E hr;refine⟨t,h1,h2 h o (cutH H (ad M)) o H _ _ S' M _ _ yP (fun a m=>?_) ?_ ab rm (h3 xs S' M R hq) (MA ab.len c) fun _ _ _ _ _ _ _ _ _ z=>z.elim⟩
 ·unfold cutH;rw[cq m]
 ·have e:N.length-vs.length=n:=yw
  unfold start;rw[e];exact m9 hx
end
end
end L2
namespace My
open PySem L2
def sS:PN:=fun xs S R=>(aB (fT (dCB c8 (zc (zj 0) (zc (dO (.ty "int")) zq))) (gQ (dCB c8 (zc (zj 0) (zc (dO (.ty "bool")) zq)))))) (aK S.length R) (xs.map some++bh 0 none) S
def oP:PN:=fun xs S R=>(zX (aA (dOp (dI (fun _ j=>0<j) fun i j=>i % j) (dOp aD (zj 0) (dC (.int 7919))) (dC (.int 2147483647))) (zl 0)) (aB (dOp (dI (fun _ j=>0<j) fun i j=>i % j) (dOp aD (dOp aD (dOp bK (zj 0) (zj 0)) (dOp bK (dC (.int 48271)) (zj 0))) (dC (.int 12345))) (dC (.int 2147483629))))) (aK S.length R) (xs.map some++bh 0 none) S
def tM:PN:=fun xs S R=>(zX (aA (dCB (dI2 fun i j=>if j>i then j else i) (zc (zj 0) (zc (dOp (dI0 fun i j=>i-j) (dC (.int 0)) (zj 0)) zq))) (zl 1)) (aB (bT (zc (zj 1) (zc (dCB iM (zc (dOp (dIb fun i j=>decide (j<=i)) (zj 1) (dOp (dI CPow fun i j=>i ^ j.toNat) (dC (.int 10)) (dC (.int 18)))) zq)) (zc (dOp (dI (fun _ j=>0<j) fun i j=>i % j) (zj 1) (dC (.int 1000003))) zq)))))) (aK S.length R) (xs.map some++bh 1 none) S
def l0:PN:=fun xs S R=>(aB (fT (dCB c8 (zc (zj 0) (zc (dO (.ty "int")) zq))) (gQ (dCB c8 (zc (zj 0) (zc (dO (.ty "bool")) zq)))))) (aK S.length R) (xs.map some++bh 0 none) S
def zu:PN:=fun xs S R=>(zX (aL (dB (dOp aZ (dOp dIx (zj 0) (dC (.int 1))) (dC (.int 1)))) (zX (aA (dOp (dI (fun _ j=>0<j) fun i j=>i % j) (dOp dIx (zj 0) (dC (.int 0))) (zj 1)) (zl 2)) (zX (aA (dOp dFd (dOp dIx (zj 0) (dC (.int 0))) (zj 1)) (iG (zj 0) (dC (.int 0)))) (aB (zj 2)))) aG) (zX (aA (aF 1 oP (zc (dOp aD (aF 1 oP (zc (dOp dIx (zj 0) (dC (.int 2))) zq)) (dC (.int 7))) zq)) (iG (zj 0) (dC (.int 2)))) (aB (dOp (dI (fun _ j=>0<j) fun i j=>i % j) (dOp dFd (dOp dIx (zj 0) (dC (.int 2))) (dC (.int 64))) (zj 1))))) (aK S.length R) (xs.map some++bh 1 none) S
def sL:PN:=fun xs S R=>(zX (aA (zZ 0 2 zu (zc (zj 0) (zc (dC (.int 8)) zq))) (zl 1)) (zX (aL (dB (dOp (dIb fun i j=>decide (i<j)) (zj 1) (dC (.int 5)))) (aB (dOp (dI0 fun i j=>i-j) (zZ 0 2 zu (zc (zj 0) (zc (dC (.int 13)) zq))) (dC (.int 6)))) aG) (zX (aL (dB (dOp (dIb fun i j=>decide (i<j)) (zj 1) (dC (.int 7)))) (aB (dOp (dI0 fun i j=>i-j) (zZ 0 2 zu (zc (zj 0) (zc (dC (.int 2001)) zq))) (dC (.int 1000)))) aG) (aB (dOp bK (dOp (dI0 fun i j=>i-j) (zZ 0 2 zu (zc (zj 0) (zc (dOp bK (dC (.int 2)) (dOp (dI CPow fun i j=>i ^ j.toNat) (dC (.int 10)) (dC (.int 30)))) zq))) (dOp (dI CPow fun i j=>i ^ j.toNat) (dC (.int 10)) (dC (.int 30)))) (dOp (dI CPow fun i j=>i ^ j.toNat) (dC (.int 10)) (dC (.int 28)))))))) (aK S.length R) (xs.map some++bh 1 none) S
def Ap:PN:=fun xs S R=>(zX (aA (zZ 0 2 zu (zc (zj 0) (zc (dC (.int 8)) zq))) (zl 1)) (zX (aL (dB (dOp (dIb fun i j=>decide (i<j)) (zj 1) (dC (.int 5)))) (aB (dOp (dI0 fun i j=>i-j) (zZ 0 2 zu (zc (zj 0) (zc (dC (.int 13)) zq))) (dC (.int 6)))) aG) (zX (aL (dB (dOp (dIb fun i j=>decide (i<j)) (zj 1) (dC (.int 7)))) (aB (dOp (dI0 fun i j=>i-j) (zZ 0 2 zu (zc (zj 0) (zc (dC (.int 2001)) zq))) (dC (.int 1000)))) aG) (aB (dOp bK (dOp (dI0 fun i j=>i-j) (zZ 0 2 zu (zc (zj 0) (zc (dOp bK (dC (.int 2)) (dOp (dI CPow fun i j=>i ^ j.toNat) (dC (.int 10)) (dC (.int 30)))) zq))) (dOp (dI CPow fun i j=>i ^ j.toNat) (dC (.int 10)) (dC (.int 30)))) (dOp (dI CPow fun i j=>i ^ j.toNat) (dC (.int 10)) (dC (.int 28)))))))) (aK S.length R) (xs.map some++bh 1 none) S
def qS:PN:=fun xs S R=>(aB (dOp aD (dOp (dI0 fun i j=>i-j) (dOp dIx (zj 0) (dC (.int 1))) (dOp dIx (zj 0) (dC (.int 0)))) (dC (.int 1)))) (aK S.length R) (xs.map some++bh 0 none) S
def nZ:PN:=fun xs S R=>(zX (aA (dC (.str "abcdefghijklmnopqrstuvwxyz")) (zl 1)) (zX (aA (zZ 0 2 zu (zc (zj 0) (zc (dC (.int 3)) zq))) (zl 2)) (zX (aA (zZ 0 2 zu (zc (zj 0) (zc (dC (.int 26)) zq))) (zl 3)) (zX (aA (gC [none,some 1,some 3] (cC (zc (dC (.int 8)) zq)) (zl 0) aC (dOp bK (dOp dIx (zj 1) (dOp (dI (fun _ j=>0<j) fun i j=>i % j) (dOp aD (zj 2) (dOp bK (dC (.int 5)) (zj 0))) (dC (.int 26)))) (dOp aD (dC (.int 1)) (dOp (dI (fun _ j=>0<j) fun i j=>i % j) (dOp aD (zj 2) (dOp bK (dC (.int 3)) (zj 0))) (dC (.int 8)))))) (zl 4)) (zX (aL (dB (dOp aZ (zj 2) (dC (.int 0)))) (zX (aA (jV iT (dC (.str "")) (zc (bD [none,some 1,some 3] (cC (zc (dC (.int 8)) zq)) (zl 0) aC (dOp dIx (zj 1) (dOp (dI (fun _ j=>0<j) fun i j=>i % j) (dOp aD (zj 2) (dOp bK (dC (.int 7)) (zj 0))) (dC (.int 26))))) zq)) (zl 5)) (aA (gC [none,some 5] (cC (zc (dC (.int 8)) zq)) (zl 0) aC (dSl dZ (zj 1) c9 (dG (dOp aD (zj 0) (dC (.int 1)))))) (zl 4))) aG) (zX (aL (dB (dOp aZ (zj 2) (dC (.int 1)))) (aA (bT (zc (dC (.str "part")) (zc (dC (.str "gap")) (zc (dC (.str "cut")) (zc (dC (.str "a")) (zc (dC (.str "aa")) (zc (dC (.str "dear")) (zc (dC (.str "b")) (zc (dC (.str "keeps")) zq))))))))) (zl 4)) aG) (zX (aA (zZ 0 2 zu (zc (zj 0) (zc (dC (.int 8)) zq))) (zl 6)) (zX (aA (dOp jA (dSl dZ (zj 4) (dG (zj 6)) c9) (dSl dZ (zj 4) c9 (dG (zj 6)))) (zl 4)) (zX (aL (dB (dOp aZ (zZ 0 2 zu (zc (zj 0) (zc (dC (.int 2)) zq))) (dC (.int 1)))) (bW (fU i9 (zj 4))) aG) (aB (zj 4))))))))))) (aK S.length R) (xs.map some++bh 6 none) S
def kJ:PN:=fun xs S R=>(aB (aI (zc (dOp dIx (zj 0) (dC (.int 1))) (zc (dOp dIx (zj 0) (dC (.int 2))) zq)))) (aK S.length R) (xs.map some++bh 0 none) S
def uW:PN:=fun xs S R=>(zX (aA (bT zq) (zl 2)) (zX (cL (aR (zj 0)) (zl 3) (bW (dBM fG (zj 2) (zc (bD [none,some 3] (aR (zj 1)) (zl 0) aC (dOp aD (zj 1) (aI (zc (zj 0) zq)))) zq)))) (aB (zj 2)))) (aK S.length R) (xs.map some++bh 2 none) S
def sO:PN:=fun xs S R=>(zX (aA (dC (.int 1)) (zl 1)) (zX (cL (aR (zj 0)) (zl 2) (aA (dOp bK (zj 1) (aF 1 qS (zc (aF 1 kJ (zc (zj 2) zq)) zq))) (zl 1))) (aB (zj 1)))) (aK S.length R) (xs.map some++bh 2 none) S
def zV:PN:=fun xs S R=>(zX (aA (aF 1 sO (zc (zj 0) zq)) (zl 1)) (aL (dB (dOp (dIb fun i j=>decide (j<i)) (zj 1) (dC (.int 300)))) jW aG)) (aK S.length R) (xs.map some++bh 1 none) S
def sD:PN:=fun xs S R=>(zX (bW (aF 1 zV (zc (zj 0) zq))) (zX (aA (bA (zc (aI zq) zq)) (zl 1)) (zX (cL (aR (zj 0)) (zl 2) (aA (aF 2 uW (zc (zj 1) (zc (iS (zc (dOp dIx (zj 2) (dC (.int 1))) (zc (dOp aD (dOp dIx (zj 2) (dC (.int 2))) (dC (.int 1))) zq))) zq))) (zl 1))) (aB (zj 1))))) (aK S.length R) (xs.map some++bh 2 none) S
def sC:PN:=fun xs S R=>(aB (dCB g7 (zc (bD [none,none,some 1] (aR (dOp dIx (zj 0) (dC (.int 0)))) (eB 2 (bN (zl 0) (bN (zl 1) dS))) aC (dOp bK (zj 1) (dOp dIx (zj 2) (zj 0)))) zq))) (aK S.length R) (xs.map some++bh 0 none) S
def sM:PN:=fun xs S R=>(aB (fE (dIb fun i j=>decide (i<=j)) (dIb fun i j=>decide (i<=j)) (dOp dIx (zj 0) (dC (.int 1))) (aF 2 sC (zc (zj 0) (zc (zj 1) zq))) (dOp dIx (zj 0) (dC (.int 2))))) (aK S.length R) (xs.map some++bh 0 none) S
def rS:PN:=fun xs S R=>(zX (aA (dC (.int 0)) (zl 2)) (zX (aA (dC (.int 0)) (zl 3)) (zX (cL (aR (zj 1)) (eB 2 (bN (zl 4) (bN (zl 5) dS))) (zX (aA (bA (zc (dOp bK (zj 5) (dOp dIx (dOp dIx (zj 0) (zj 4)) (dC (.int 1)))) (zc (dOp bK (zj 5) (dOp dIx (dOp dIx (zj 0) (zj 4)) (dC (.int 2)))) zq))) (zl 6)) (zX (aA (dOp aD (zj 2) (dCB tP (zc (zj 6) zq))) (zl 2)) (aA (dOp aD (zj 3) (dCB lC (zc (zj 6) zq))) (zl 3))))) (aB (aI (zc (zj 2) (zc (zj 3) zq))))))) (aK S.length R) (xs.map some++bh 5 none) S
def tT:PN:=fun xs S R=>(zX (aA (bA (zc (aI zq) zq)) (zl 1)) (zX (cL (aR (zj 0)) (eB 3 (bN (zl 2) (bN (zl 3) (bN (zl 4) dS)))) (zX (fJ (zX (aA (bT zq) (zl 5)) (cL (aR (zj 1)) (zl 6) (bW (dBM fG (zj 5) (zc (bD [none,some 6,some 3] (cC (zc (dOp aD (dOp (dI0 fun i j=>i-j) (zj 4) (zj 3)) (dC (.int 1))) zq)) (zl 0) aC (dOp aD (zj 1) (aI (zc (dOp aD (zj 2) (zj 0)) zq)))) zq)))))) (aA (zj 5) (zl 1)))) (aB (zj 1)))) (aK S.length R) (xs.map some++bh 6 none) S
def sV:PN:=fun xs S R=>(zX (aA (bT zq) (zl 2)) (zX (cL (cC (zc (dCB bL (zc (zj 1) zq)) zq)) (zl 3) (zX (aA (dOp (dI0 fun i j=>i-j) (zZ 0 2 zu (zc (zj 0) (zc (dC (.int 9)) zq))) (dC (.int 4))) (zl 4)) (aL (dB (dOp iC (zj 4) (aI (zc (dUn (dUI fun i=>-i) (dC (.int 4))) (zc (dC (.int 0)) (zc (dC (.int 4)) zq)))))) (bW (dBM dE (zj 2) (zc (aI (zc (zj 3) (zc (zj 4) zq))) zq))) aG))) (zX (aL (dB (dOp aZ (zj 2) (bA zq))) (aA (bT (zc (aI (zc (zZ 0 2 zu (zc (zj 0) (zc (dCB bL (zc (zj 1) zq)) zq))) (zc (dOp dIx (bA (zc (dC (.int 1)) (zc (dUn (dUI fun i=>-i) (dC (.int 1))) (zc (dC (.int 2)) (zc (dUn (dUI fun i=>-i) (dC (.int 3))) zq))))) (zZ 0 2 zu (zc (zj 0) (zc (dC (.int 4)) zq)))) zq))) zq)) (zl 2)) aG) (zX (aA (iX 2 rS (zc (zj 1) (zc (zj 2) zq))) (eB 2 (bN (zl 5) (bN (zl 6) dS)))) (zX (aA (dOp (dI0 fun i j=>i-j) (zj 6) (zj 5)) (zl 7)) (zX (aA (dOp aD (zj 5) (dOp dIx (bA (zc (dC (.int 0)) (zc (dC (.int 1)) (zc (dUn (dUI fun i=>-i) (dC (.int 1))) (zc (dOp dFd (zj 7) (dC (.int 2))) (zc (dOp dFd (zj 7) (dC (.int 3))) (zc (dOp aD (zj 7) (dC (.int 1))) zq))))))) (zZ 0 2 zu (zc (zj 0) (zc (dC (.int 6)) zq))))) (zl 8)) (zX (aA (dOp aD (zj 8) (dOp dIx (bA (zc (dC (.int 0)) (zc (dC (.int 1)) (zc (dC (.int 2)) (zc (dOp dFd (zj 7) (dC (.int 2))) (zc (zj 7) (zc (dOp aD (zj 7) (dC (.int 2))) zq))))))) (zZ 0 2 zu (zc (zj 0) (zc (dC (.int 6)) zq))))) (zl 9)) (aB (aI (zc (dCB eQ (zc (zj 2) zq)) (zc (zj 8) (zc (zj 9) zq)))))))))))) (aK S.length R) (xs.map some++bh 8 none) S
def sR:PN:=fun xs S R=>(zX (fJ (zX (aA (bT zq) (zl 3)) (zX (aA (zj 0) (zl 4)) (kH (dB (dOp aZ (dOp dIx (zj 4) (dC (.int 0))) (dC (.str "measure")))) (zX (aA (dOp dIx (zj 4) (dC (.int 1))) (zl 5)) (zX (bW (dBM dE (zj 3) (zc (zj 5) zq))) (aA (dOp dIx (dOp dIx (zj 4) (dC (.int 2))) (dOp (dI0 fun i j=>i-j) (dOp dIx (zj 2) (zj 5)) (dOp dIx (dOp dIx (zj 1) (zj 5)) (dC (.int 1))))) (zl 4)))))))) (aB (aI (zc (zj 3) (zc (dOp dIx (zj 4) (dC (.int 0))) zq))))) (aK S.length R) (xs.map some++bh 3 none) S
def jS:PN:=fun xs S R=>(zX (aA (dCB g7 (zc (bD [none,none,some 1] (aR (dOp dIx (zj 0) (dC (.int 0)))) (eB 2 (bN (zl 0) (bN (zl 1) dS))) aC (dOp bK (zj 1) (dOp dIx (zj 2) (zj 0)))) zq)) (zl 2)) (aB (fE (dIb fun i j=>decide (i<=j)) (dIb fun i j=>decide (i<=j)) (dOp dIx (zj 0) (dC (.int 1))) (zj 2) (dOp dIx (zj 0) (dC (.int 2)))))) (aK S.length R) (xs.map some++bh 1 none) S
def uC:PN:=fun xs S R=>(zX (aL (dOr (cG (bQ (dCB c8 (zc (zj 1) (zc (dO (.ty "tuple")) zq))))) (dOr (dB (dOp dJ (dCB bL (zc (zj 1) zq)) (dC (.int 3)))) (dB (dOp dJ (dOp dIx (zj 1) (dC (.int 0))) (dC (.str "measure")))))) (aB (dC (.bool false))) aG) (zX (aL (dOr (cG (bQ (aF 1 sS (zc (dOp dIx (zj 1) (dC (.int 1))) zq)))) (cG (dB (fE (dIb fun i j=>decide (i<=j)) (dIb fun i j=>decide (i<j)) (dC (.int 0)) (dOp dIx (zj 1) (dC (.int 1))) (dCB bL (zc (zj 0) zq)))))) (aB (dC (.bool false))) aG) (aB (fT (dCB c8 (zc (dOp dIx (zj 1) (dC (.int 2))) (zc (dO (.ty "tuple")) zq))) (dOp aZ (dCB bL (zc (dOp dIx (zj 1) (dC (.int 2))) zq)) (aF 1 qS (zc (aF 1 kJ (zc (dOp dIx (zj 0) (dOp dIx (zj 1) (dC (.int 1)))) zq)) zq))))))) (aK S.length R) (xs.map some++bh 0 none) S
def tY:PN:=fun xs S R=>(zX (aA (bT (zc (aI (zc (zj 1) (zc (aI zq) zq))) zq)) (zl 2)) (zX (kH (bQ (zj 2)) (zX (aA (fU iQ (zj 2)) (zl 3)) (zX (aA (dOp dIx (zj 3) (dC (.int 0))) (zl 4)) (zX (aA (dOp dIx (zj 3) (dC (.int 1))) (zl 5)) (aL (f8 (bQ (aF 2 uC (zc (zj 0) (zc (zj 4) zq)))) (dB (dOp iC (dOp dIx (zj 4) (dC (.int 1))) (zj 5)))) (bW (dBM fG (zj 2) (zc (bD [none,some 5,some 4] (aR (dOp dIx (zj 4) (dC (.int 2)))) (zl 0) aC (aI (zc (zj 0) (zc (dOp aD (zj 1) (aI (zc (dOp dIx (zj 2) (dC (.int 1))) zq))) zq)))) zq))) (aL (f8 (dB (iB "keeps" (zj 4))) (dB (iB "breaks" (zj 4)))) (aB (dC (.bool false))) aG)))))) (aB (dC (.bool true))))) (aK S.length R) (xs.map some++bh 4 none) S
def uJ:PN:=fun xs S R=>(zX (aA (aF 1 sD (zc (zj 0) zq)) (zl 3)) (zX (aL (cG (bQ (aF 2 tY (zc (zj 0) (zc (zj 2) zq))))) (aB (dC (.bool false))) aG) (aB (dCB f9 (zc (bD [none,some 1,some 2,some 0] (aR (zj 3)) (zl 0) aC (dOp aZ (dOp aZ (dOp dIx (aF 3 sR (zc (zj 2) (zc (zj 3) (zc (zj 0) zq)))) (dC (.int 1))) (dC (.str "keeps"))) (aF 2 sM (zc (zj 1) (zc (zj 0) zq))))) zq))))) (aK S.length R) (xs.map some++bh 1 none) S
def rR:PN:=fun xs S R=>(zX (aA (bT zq) (zl 1)) (zX (cL (aR (zj 0)) (zl 2) (aL (dB (dOp iC (zj 2) (zj 1))) (bW (dBM dE (zj 1) (zc (zj 2) zq))) aG)) (aB (zj 1)))) (aK S.length R) (xs.map some++bh 2 none) S
def Ar:PN:=fun xs S R=>(zX (fJ (zX (aA (bT zq) (zl 3)) (kH (dB (dOp aZ (dCB bL (zc (zj 0) zq)) (dC (.int 3)))) (zX (bW (dBM dE (zj 3) (zc (dOp dIx (zj 0) (dC (.int 1))) zq))) (aA (dOp dIx (dOp dIx (zj 0) (dC (.int 2))) (dOp (dI0 fun i j=>i-j) (dOp dIx (zj 2) (dOp dIx (zj 0) (dC (.int 1)))) (dOp dIx (dOp dIx (zj 1) (dOp dIx (zj 0) (dC (.int 1)))) (dC (.int 1))))) (zl 0)))))) (aB (aI (zc (zj 3) (zc (dOp dIx (zj 0) (dC (.int 0))) zq))))) (aK S.length R) (xs.map some++bh 1 none) S
def oA:PN:=fun xs S R=>(zX (aA (dOp dIx (zj 0) (zj 1)) (eB 2 (bN (zl 2) (bN (zl 3) dS)))) (aB (gC [none,some 0,some 1,some 2] (cC (zc (dOp aD (dOp (dI0 fun i j=>i-j) (zj 3) (zj 2)) (dC (.int 1))) zq)) (zl 0) aC (dOp aD (dOp aD (dSl dZ (zj 1) c9 (dG (zj 2))) (aI (zc (aI (zc (dOp aD (zj 3) (zj 0)) (zc (dOp aD (zj 3) (zj 0)) zq))) zq))) (dSl dZ (zj 1) (dG (dOp aD (zj 2) (dC (.int 1)))) c9))))) (aK S.length R) (xs.map some++bh 2 none) S
def lM:PN:=fun xs S R=>(zX (aA (dC (.int 0)) (zl 1)) (zX (aA (bT (zc (aI (zc (zj 0) (zc (dC (.int 0)) zq))) zq)) (zl 2)) (zX (kH (bQ (zj 2)) (zX (aA (fU iQ (zj 2)) (zl 3)) (zX (aA (dCB (dI2 fun i j=>if j>i then j else i) (zc (zj 1) (zc (dOp dIx (zj 3) (dC (.int 1))) zq))) (zl 1)) (aL (dB (dOp aZ (dOp dIx (dOp dIx (zj 3) (dC (.int 0))) (dC (.int 0))) (dC (.str "measure")))) (bW (dBM fG (zj 2) (zc (bD [none,some 3] (aR (aF 1 rR (zc (dOp dIx (dOp dIx (zj 3) (dC (.int 0))) (dC (.int 2))) zq))) (zl 0) aC (aI (zc (zj 0) (zc (dOp aD (dOp dIx (zj 1) (dC (.int 1))) (dC (.int 1))) zq)))) zq))) aG)))) (aB (zj 1))))) (aK S.length R) (xs.map some++bh 3 none) S
def wP:PN:=fun xs S R=>(zX (aA (zZ 0 1 nZ (zc (zj 0) zq)) (zl 2)) (zX (aA (bD [none,some 0] (cC (zc (dOp aD (dC (.int 1)) (zZ 0 2 zu (zc (zj 0) (zc (zj 1) zq)))) zq)) (zl 0) aC (dOp aD (dC (.int 1)) (zZ 0 2 zu (zc (zj 1) (zc (dC (.int 3)) zq))))) (zl 3)) (zX (aL (dB (dOp aZ (zZ 0 2 zu (zc (zj 0) (zc (dC (.int 12)) zq))) (dC (.int 0)))) (aA (dOp dIx (bA (zc (dOp bK (bA (zc (dC (.int 2)) zq)) (dC (.int 6))) (zc (bA (zc (dC (.int 17)) (zc (dC (.int 17)) zq))) (zc (bA (zc (dC (.int 300)) zq)) (zc (dOp bK (bA (zc (dC (.int 1)) zq)) (dC (.int 8))) zq))))) (zZ 0 2 zu (zc (zj 0) (zc (dC (.int 4)) zq)))) (zl 3)) aG) (zX (aA (bT zq) (zl 4)) (zX (cL (cC (zc (dCB bL (zc (zj 3) zq)) zq)) (zl 5) (zX (aA (zZ 0 1 sL (zc (zj 0) zq)) (zl 6)) (bW (dBM dE (zj 4) (zc (aI (zc (dOp dIx (zj 2) (zj 5)) (zc (zj 6) (zc (dOp (dI0 fun i j=>i-j) (dOp aD (zj 6) (dOp dIx (zj 3) (zj 5))) (dC (.int 1))) zq)))) zq))))) (aB (dCB eQ (zc (zj 4) zq)))))))) (aK S.length R) (xs.map some++bh 5 none) S
def zM:Nat->PNm
 | 0=>fun _ _ _ _=>False
 |n+1=>fun xs S M R=>(bI (fQ (fun M=>(dB (dOp (gZ M (.many (.many .int)) false) (zj 0) (zj 2)))) (eY (fun M=>(eR M (.many (.many .int)) (zj 2) (zj 0)))) (bU aG)) (bI (bU (aA (bD [none,some 0] (cC (zc (dCB bL (zc (zj 0) zq)) zq)) (zl 0) (dB (dOp (dIb fun i j=>decide (i<j)) (dOp dIx (dOp dIx (zj 1) (zj 0)) (dC (.int 0))) (dOp dIx (dOp dIx (zj 1) (zj 0)) (dC (.int 1))))) (zj 0)) (zl 3))) (bI (fQ (fun M=>(dB (dOp aZ (zj 3) (bA zq)))) (bI (fZ (.many (.many .int)) 2 (fun M=>(zj 0)) (fun M=>(aI (zc (dCB iM (zc (aF 2 jS (zc (zj 1) (zc (bD [none] (aR (zj 0)) (zl 0) aC (dOp dIx (zj 0) (dC (.int 0)))) zq))) zq)) (zc (dC (.int 0)) zq))))) (eY (fun M=>(eR M (.many (.many .int)) (zj 2) (zj 0))))) (bU aG)) (bI (gO (g9 j3 (gK (fL [none,some 1,some 2] (fun M=>(aR (aF 2 oA (zc (zj 0) (zc (dOp dIx (zj 3) (dC (.int 0))) zq))))) (zl 0) aC (fH dIx (gN 3 (zM n) (fun M=>(zc (zj 0) (zc (zj 1) (zc (zj 2) zq))))) (dmE (fun M=>(dC (.int 0)))))) f7)) (zl 4)) (bI (fQ (fun M=>(f8 (dB (dOp aZ (dCB bL (zc (zj 4) zq)) (dC (.int 1)))) (dB (dOp (dIb fun i j=>decide (i<j)) (dOp dIx (zj 4) (dC (.int 0))) (dC (.int 2)))))) (bI (fZ (.many (.many .int)) 2 (fun M=>(zj 0)) (fun M=>(aI (zc (dOp dIx (zj 4) (dC (.int 0))) (zc (dC (.int 0)) zq))))) (eY (fun M=>(eR M (.many (.many .int)) (zj 2) (zj 0))))) (bU aG)) (bI (bU (aA (bT zq) (zl 5))) (bI (iU (fun M=>(aR (zj 3))) (zl 6) (jG (jZ dE (fun M=>zj 5) (gK (fH aD (dmE (fun M=>(dC (.int 1)))) (g9 lC (gK (fL [none,some 1,some 2] (fun M=>(aR (aF 2 oA (zc (zj 0) (zc (zj 6) zq))))) (zl 0) aC (fH dIx (gN 3 (zM n) (fun M=>(zc (zj 0) (zc (zj 1) (zc (zj 2) zq))))) (dmE (fun M=>(dC (.int 1)))))) f7))) f7)))) (bI (fZ (.many (.many .int)) 2 (fun M=>(zj 0)) (fun M=>(aI (zc (dC (.int 2)) (zc (dCB tP (zc (zj 5) zq)) zq))))) (eY (fun M=>(eR M (.many (.many .int)) (zj 2) (zj 0)))))))))))) (sT S.length R) (xs.map some++bh 4 none) S M
def Dr:PNm:=zM 12
def tB(C:Addr)(q:PNm):PNm:=fun xs S M R=>(bI (bU (aA (dOp dIx (dOp dIx (zj 1) (zj 2)) (dC (.int 0))) (zl 4))) (bI (bU (aA (aF 1 kJ (zc (dOp dIx (eP C "drawing" (zj 0)) (zj 4)) zq)) (zl 5))) (bI (bU (aA (dOp aD (dSl dZ (zj 1) c9 (dG (zj 2))) (dSl dZ (zj 1) (dG (dOp aD (zj 2) (dC (.int 1)))) c9)) (zl 6))) (bI (bU (aA (bD [none,some 3,some 1,some 2] (i7 (zc (dOp dIx (zj 5) (dC (.int 0))) (zc (dOp aD (dOp dIx (zj 5) (dC (.int 1))) (dC (.int 1))) zq))) (zl 0) aC (dOp aD (zj 1) (dOp bK (dOp dIx (dOp dIx (zj 2) (zj 3)) (dC (.int 1))) (zj 0)))) (zl 7))) (bI (gO (fL [none,some 6,some 0] (fun M=>(aR (zj 7))) (zl 0) aC (gH C "least" 3 q (fun M=>zj 2) (fun M=>(zc (zj 1) (zc (zj 0) zq))))) (zl 8)) (bI (bU (aA (dCB lC (zc (bD [none] (aR (zj 8)) (zl 0) aC (dOp dIx (zj 0) (dC (.int 0)))) zq)) (zl 9))) (bI (bU (aL (bQ (dCB f9 (zc (bD [none,some 8] (aR (zj 8)) (zl 0) aC (dOp aZ (zj 0) (dOp dIx (zj 1) (dC (.int 0))))) zq))) (aB (dOp dIx (zj 8) (dC (.int 0)))) aG)) (bU (aB (aI (zc (dOp aD (zj 9) (dC (.int 1))) (zc (aI (zc (dC (.str "measure")) (zc (zj 4) (zc (dCB eQ (zc (bD [none] (aR (zj 8)) (zl 0) aC (dOp dIx (zj 0) (dC (.int 1)))) zq)) zq)))) zq)))))))))))) (iZ R) (xs.map some++bh 6 none) S M
def r8(C:Addr)(q:PNm):PNm:=fun xs S M R=>(bI (bU (aL (cG (bQ (zj 1))) (aB (aI (zc (dC (.int 0)) (zc (dIf (dB (fE (dIb fun i j=>decide (i<=j)) (dIb fun i j=>decide (i<=j)) (dOp dIx (eP C "gap" (zj 0)) (dC (.int 1))) (zj 2) (dOp dIx (eP C "gap" (zj 0)) (dC (.int 2))))) (dC (.tuple [.str "keeps"])) (dC (.tuple [.str "breaks"]))) zq)))) aG)) (j2 (jX [] (fL [none,some 1,some 2,some 0] (fun M=>(cC (zc (dCB bL (zc (zj 1) zq)) zq))) (zl 0) aC (gH C "measuring" 4 q (fun M=>zj 3) (fun M=>(zc (zj 1) (zc (zj 0) (zc (zj 2) zq)))))) (dOp dIx (zj 0) (dC (.int 0)))))) (iZ R) (xs.map some++bh 0 none) S M
def mW(C:Addr):Nat->PNm
 | 0=>fun _ _ _ _=>False
 |n+1=>fun xs S M R=>(bI (fQ (fun M=>(dB (dOp (gZ M (.two (.many (.many .int)) .int) true) (aI (zc (zj 1) (zc (zj 2) zq))) (eP C "known" (zj 0))))) (jH (.two (.many (.many .int)) .int) (fun M=>(eP C "known" (zj 0))) (fun M=>(aI (zc (zj 1) (zc (zj 2) zq)))) (gH C "best" 3 (r8 C (tB C (mW C n))) (fun M=>zj 0) (fun M=>(zc (zj 1) (zc (zj 2) zq))))) (bU aG)) (eY (fun M=>(eR M (.two (.many (.many .int)) .int) (eP C "known" (zj 0)) (aI (zc (zj 1) (zc (zj 2) zq))))))) (iZ R) (xs.map some++bh 0 none) S M
def qJ:PN:=fun xs S R=>∀C:Addr,(zX (bW (aF 1 zV (zc (zj 0) zq))) (aB (dOp dIx (jB C "drawing" "gap" "known" (.two (.many (.many .int)) .int) 3 (mW C 9) (zj 0) (zj 1) (zc (dOp dIx (zj 1) (dC (.int 0))) (zc (dC (.int 0)) zq))) (dC (.int 1))))) (aK S.length R) (xs.map some++bh 0 none) S
def k7:Nat->PN
 | 0=>fun _ _ _=>False
 |n+1=>fun xs S R=>(zX (aL (dB (dOp aZ (dCB bL (zc (zj 0) zq)) (dC (.int 1)))) (aB (dC (.int 0))) aG) (aB (dOp aD (dC (.int 1)) (dCB lC (zc (bD [none] (aR (dOp dIx (zj 0) (dC (.int 2)))) (zl 0) aC (aF 1 (k7 n) (zc (zj 0) zq))) zq))))) (aK S.length R) (xs.map some++bh 0 none) S
def E4:PN:=k7 160
def k6:Nat->PN
 | 0=>fun _ _ _=>False
 |n+1=>fun xs S R=>(zX (aL (dOr (cG (bQ (dCB c8 (zc (zj 2) (zc (dO (.ty "tuple")) zq))))) (dOr (dB (dOp iC (dCB bL (zc (zj 2) zq)) (aI (zc (dC (.int 1)) (zc (dC (.int 3)) zq))))) (cG (bQ (dCB c8 (zc (dOp dIx (zj 2) (dC (.int 0))) (zc (dO (.ty "str")) zq))))))) (aB (dC (.bool false))) aG) (zX (aL (dB (dOp aZ (dCB bL (zc (zj 2) zq)) (dC (.int 1)))) (aB (dOp dIn (dOp dIx (zj 2) (dC (.int 0))) (aI (zc (dC (.str "keeps")) (zc (dC (.str "breaks")) zq))))) aG) (zX (aL (dOr (dB (dOp dJ (dOp dIx (zj 2) (dC (.int 0))) (dC (.str "measure")))) (dOr (cG (bQ (aF 1 l0 (zc (dOp dIx (zj 2) (dC (.int 1))) zq)))) (dB (jE true (dOp dIx (zj 2) (dC (.int 1))) (zc (dCB bL (zc (zj 0) zq)) zq))))) (aB (dC (.bool false))) aG) (zX (aL (dOr (dB (dOp dIn (dOp dIx (zj 2) (dC (.int 1))) (zj 1))) (cG (bQ (dCB c8 (zc (dOp dIx (zj 2) (dC (.int 2))) (zc (dO (.ty "tuple")) zq)))))) (aB (dC (.bool false))) aG) (zX (aA (dOp dIx (zj 0) (dOp dIx (zj 2) (dC (.int 1)))) (eB 3 (bN (zl 3) (bN (zl 4) (bN (zl 5) dS))))) (zX (aL (dB (dOp dJ (dCB bL (zc (dOp dIx (zj 2) (dC (.int 2))) zq)) (dOp aD (dOp (dI0 fun i j=>i-j) (zj 5) (zj 4)) (dC (.int 1))))) (aB (dC (.bool false))) aG) (aB (dCB f9 (zc (bD [none,some 0,some 1,some 2] (aR (dOp dIx (zj 2) (dC (.int 2)))) (zl 0) aC (aF 3 (k6 n) (zc (zj 1) (zc (dOp aD (zj 2) (bA (zc (dOp dIx (zj 3) (dC (.int 1))) zq))) (zc (zj 0) zq))))) zq))))))))) (aK S.length R) (xs.map some++bh 3 none) S
def BC:PN:=k6 160
def tE:PN:=fun xs S R=>(zX (aL (cG (bQ (aF 3 BC (zc (zj 0) (zc (bA zq) (zc (zj 2) zq)))))) (aB (dC (.bool false))) aG) (zX (cL (aR (aF 1 tT (zc (zj 0) zq))) (zl 3) (aL (dB (dOp dJ (dOp aZ (dOp dIx (aF 3 Ar (zc (zj 2) (zc (zj 0) (zc (zj 3) zq)))) (dC (.int 1))) (dC (.str "keeps"))) (aF 2 jS (zc (zj 1) (zc (zj 3) zq))))) (aB (dC (.bool false))) aG)) (aB (dC (.bool true))))) (aK S.length R) (xs.map some++bh 1 none) S
def yY:DS:=(zX (aA (aF 1 tM (zc (zj 1) zq)) (zl 2)) (zX (aA (zZ 0 2 wP (zc (zj 2) (zc (dC (.int 4)) zq))) (zl 3)) (zX (aA (zZ 0 2 sV (zc (zj 2) (zc (zj 3) zq))) (zl 4)) (zX (aA (dOp dIx (iV (.many (.many .int)) Dr (dCB eQ (zc (bD [none] (aR (zj 3)) (zl 0) aC (dSl dZ (zj 0) (dG (dC (.int 1))) c9)) zq)) (zj 4)) (dC (.int 1))) (zl 5)) (zX (aA (aF 2 qJ (zc (zj 3) (zc (zj 4) zq))) (zl 6)) (zX (aL (dOr (cG (bQ (aF 3 tE (zc (zj 3) (zc (zj 4) (zc (zj 6) zq)))))) (dB (dOp iR (aF 3 uJ (zc (zj 3) (zc (zj 4) (zc (zj 6) zq)))) (dC (.bool true))))) (aB (dC (.bool false))) aG) (zX (aL (dOr (dB (dOp dJ (aF 1 E4 (zc (zj 6) zq)) (zj 5))) (dOr (cG (bQ (aF 1 l0 (zc (aF 1 lM (zc (zj 6) zq)) zq)))) (dB (dOp dJ (aF 1 lM (zc (zj 6) zq)) (zj 5))))) (aB (dC (.bool false))) aG) (aL (dB (dOp dJ (aF 2 qJ (zc (zj 3) (zc (zj 4) zq))) (zj 6))) (aB (dC (.bool false))) aG))))))))
def Ew:PN:=fun xs S R=>(zX (fJ (zX (aA (bT zq) (zl 3)) (kH (dB (dOp aZ (dCB bL (zc (zj 0) zq)) (dC (.int 3)))) (zX (bW (dBM dE (zj 3) (zc (dOp dIx (zj 0) (dC (.int 1))) zq))) (aA (dOp dIx (dOp dIx (zj 0) (dC (.int 2))) (dOp (dI0 fun i j=>i-j) (dOp dIx (zj 2) (dOp dIx (zj 0) (dC (.int 1)))) (dOp dIx (dOp dIx (zj 1) (dOp dIx (zj 0) (dC (.int 1)))) (dC (.int 1))))) (zl 0)))))) (aB (aI (zc (zj 3) (zc (dOp dIx (zj 0) (dC (.int 0))) zq))))) (aK S.length R) (xs.map some++bh 1 none) S
end My
namespace My
open PySem L2
theorem seq1{t u:DS}{E:DEnds}{δ:XE}{S:Sto}(h:t { E with nx:=u E } δ S):zX t u E δ S:=h
theorem seqm{t u:DSm}{E:DEndsM}{δ:XE}{S:Sto}{M:DM}(h:t { E with nx:=u E } δ S M):bI t u E δ S M:=h
theorem cut{t u:DS}{E:DEnds}{δ:XE}{S:Sto}(I:XE->Sto->Prop)(h1:∀N:XE->Sto->Prop,(∀ δ' S',I δ' S'->N δ' S')->t { E with nx:=N } δ S)(h2:∀ δ' S',I δ' S'->u E δ' S'):zX t u E δ S:=h1 _ h2
theorem fC(i j:Int):cv (.int i) (.int j)=decide (i=j):=rfl
theorem iP(i j:Bool):cv (.bool i) (.bool j)=decide (i=j):=by cases i<;>cases j<;>rfl
theorem l6(i:Int):ci (.int i)=true:=rfl
theorem mY(i:Bool):ci (.bool i)=true:=rfl
theorem mM:("int" ∈ fN)=True:=eq_true dz
theorem mV:("bool" ∈ fN)=True:=eq_true dz
theorem oZ:("tuple" ∈ fN)=True:=eq_true dz
theorem qF:("list" ∈ fN)=True:=eq_true dz
theorem pJ:("str" ∈ fN)=True:=eq_true dz
theorem mT:ci .none=true:=rfl
end My
namespace My
open PySem L2
local macro_rules|`(tactic|walk_at $s:str)=>do
 let xs<-("aA iV eP lH gZ eR fZ jH dmE gH fL jX gO j2 gN fH g9 f7 gK jZ jG jB mL pS pU qI oF iB nG all_cons List.all_nil Bool.and_self lX qH mS oR oK bU fQ eY iU rB iS jE iR oB qP nW rC qT j3 mG lZ zl zj dC dO dOp dUn zq zc dCB aI bA bT dB cG f8 dOr fT qK gQ dIf fE dI dI0 dIb dUI aZ dJ pV nB qZ oN oQ mF mB pA pH qX nK oG pB p6 dFd bQ nH oW qB c9 dG dSl bL lV nP c8 iM dI2 eQ dBM fU jV dE i9 fG iQ iT jA g7 f9 aF zZ iX oE nF lL mE pP mK pX nQ qG nE pT asL pM mC mU pI rE mJ qR qY mQ o9 o7 qC oV qQ qN oC oX aB aL bW aG jW cL aR nT pK cC i7 qE p8 eB bN qA pG lR nV dS iG bD gC aC eO fJ p7 lT gT lO rF oY pL mI List.replicate map_cons map_nil map_some Option.bind_some Option.bind_none Option.join_some getElem?_cons_zero getElem?_cons_succ set_cons_zero set_cons_succ List.take_succ_cons take_zero List.take_nil length_cons length_nil nil_append cons_append Option.some.injEq exists_eq_left' exists_eq_left List.cons.injEq XV.d.injEq XV.l.injEq XV.o.injEq PyData.int.injEq PyData.list.injEq PyData.tuple.injEq PyData.bool.injEq PyData.str.injEq and_true true_and decide_eq_true_eq Bool.not_true Bool.not_false Bool.false_eq_true Bool.true_eq_false not_true_eq_false not_false_eq_true decide_true decide_false Bool.not_eq_true' kW decide_eq_false_iff_not Nat.reduceAdd Nat.reduceMul zero_add Nat.reduceLT Nat.reduceLeDiff Nat.reduceEqDiff Int.reduceLT Int.reduceLE Int.reduceNeg Int.reducePow Int.reduceToNat Int.reduceEq Int.reduceAdd Int.reduceSub Int.reduceMul le_refl zero_le length_append length_map fC iP l6 mY mT List.isEmpty_nil List.isEmpty_cons Int.cast_ofNat_Int Int.natCast_zero Int.natCast_one mM mV oZ qF pJ mN pY mO nC lW".splitOn " ").toArray.mapM fun n=>`(Lean.Parser.Tactic.simpLemma|$(Lean.mkIdent n.toName):ident)
 match s.getString with
 |"d"=>`(tactic|((try dsimp only[↓reduceIte,$xs,*]);(try simp only[↓reduceIte,$xs,*])))
 |"n"=>`(tactic|(refine seq1 ?_; walk_at "d"))
 |"dX"=>`(tactic|(try simp -implicitDefEqProofs only [↓reduceIte,$xs,*]))
 |"e"=>`(tactic|((try dsimp only[zX,bI,↓reduceIte,$xs,*]);(try simp only[zX,bI,↓reduceIte,$xs,*])))
 |_=>Lean.Macro.throwUnsupported
section
variable {R:RX}
theorem Bd{n:Int}(q:∀m,0<=m->R (.d (.int m)) []):oP [.d (.int n)] [] R:=by
 unfold oP;walk_at "e";have h1:=lz (n+7919) (show (2147483647:Int)≠0 by decide);have h2:=lr (n+7919) (show (0:Int)<2147483647 by decide);exact⟨d9 yw yw,d9 dz dz,q _ (lz _ dz)⟩
theorem zO{p:List bc}{n:Int}(hp:aV p)(hn:0<n)(hb:n.natAbs.log2<9000)(q:∀r p',0<=r->r<n->aV p'->R (.d (.int r)) [p']):zu [.l 0,.d (.int n)] [p] R:=by
 obtain⟨l,g,sd,rfl,hl⟩:=hp;unfold zu;walk_at "e";split
 ·refine⟨hn,.inl ⟨⟨hn,hb⟩,0,rfl,?_⟩⟩;walk_at "e";exact q _ _ (lz _ yw) (lr _ hn) ⟨_,_,_,rfl,Int.ediv_nonneg hl yw⟩
 ·refine Bd fun m _=>?_;walk_at "e";refine Bd fun m' h'=>?_;walk_at "e";refine⟨2,rfl,?_⟩;walk_at "e";exact .inl ⟨⟨by decide,by decide +kernel⟩,hn,q _ _ (lz _ yw) (lr _ hn) ⟨_,_,_,rfl,hl⟩⟩
theorem Km{n:Int}(q:∀p,aV p->R (.l 0) [p]):tM [.d (.int n)] [] R:=by
 unfold tM;walk_at "e";refine⟨⟨by decide,by decide,by decide⟩,?_⟩;refine .inr (q _ ⟨_,_,_,rfl,?_⟩);split<;>omega
theorem Jz{p:List bc}(hp:aV p)(q:∀r p',-10 ^ 58<=r->r<=10 ^ 58->aV p'->R (.d (.int r)) [p']):Ap [.l 0] [p] R:=by
 unfold Ap;walk_at "e";refine zO hp dz (by decide +kernel) fun r p1 r0 r1 aa=>?_;walk_at "e";split
 ·refine zO aa dz (by decide +kernel) fun r p2 r0 r1 z=>?_;walk_at "e";exact q _ _ yw yw z
 ·split
  ·refine zO aa dz (by decide +kernel) fun r p2 r0 r1 z=>?_;walk_at "e";exact q _ _ yw yw z
  ·refine⟨⟨by decide,by decide,by decide⟩,d9 dz dz,?_⟩;have k1:(10:Int) ^ 30=1000000000000000000000000000000:=by decide +kernel
   have k2:(10:Int) ^ 28=10000000000000000000000000000:=by decide +kernel
   refine zO aa (by decide +kernel) (by decide +kernel) fun r p2 r0 r1 z=>?_;walk_at "e"
   try simp only[k1,k2]at r1 ⊢
   refine⟨⟨by decide,by decide,by decide⟩,⟨by decide,by decide,by decide⟩,HA 128 128 yw (by decide +kernel),q _ _ yw yw z⟩
theorem HE{p:List bc}(hp:aV p)(q:∀r p',-10 ^ 58<=r->r<=10 ^ 58->aV p'->R (.d (.int r)) [p']):sL [.l 0] [p] R:=Jz hp q
end
section
variable {R:RX}
theorem KU{α:Type}[Inhabited α]{l:List α}{i:Int}(h0:0<=i)(h1:i<l.length)(d:α):atI l i=some (l.getD i.toNat d):=by
 obtain⟨k,rfl⟩:=gk h0;have hk:k<l.length:=yw
 rw[fR (bi hk)];simp[cg,hk]
theorem CI:("abcdefghijklmnopqrstuvwxyz":Str).length=26:=by decide
theorem IB:("abcdefghijklmnopqrstuvwxyz":Str).cps.toList.length=26:=by rw[<- CI];simp[Str.length]
theorem Ai:("abcdefghijklmnopqrstuvwxyz":Str).length<=df:=jc (small1000 (by rw[CI];decide))
theorem len1(c:Nat):(⟨#[c]⟩:Str).length=1:=rfl
abbrev lsgn (i:Int):Str:=⟨#[("abcdefghijklmnopqrstuvwxyz":Str).cps.toList.getD i.toNat 0]⟩
theorem Ay{i:Int}(h0:0<=i)(h1:i<26):atI ("abcdefghijklmnopqrstuvwxyz":Str).cps.toList i=some (("abcdefghijklmnopqrstuvwxyz":Str).cps.toList.getD i.toNat 0):=KU h0 (by rw[IB];exact h1) 0
theorem FJ{ds:List bc}{a b:Option Int}{d:bc}(m:d∈aS ds a b):d∈ds:=by
 unfold aS at m;exact List.mem_of_mem_drop (qu m)
def gV(z:Str):Bool:=decide (z.length<=100)&&PyData.strOk z&&!decide (z = "zy")
theorem Gn:∀f<26,∀k<8,gV (PySem.Txt.mul (lsgn (((f:Nat)+5*(0+((k:Nat):Int))) % 26)) (1+((f:Nat)+3*(0+((k:Nat):Int))) % 8))=true:=by decide +kernel
theorem Lq:∀f<26,∀k<8,gV (PySem.Txt.slice (PySem.Txt.join "" ((dm 8).map fun k:Nat=>lsgn (((f:Nat)+7*(0+(k:Int))) % 26))) none (some (0+((k:Nat):Int)+1)))=true:=by decide +kernel
theorem Fu{ds:List bc}(h:∀d∈ds,∃z:Str,d=.str z/\gV z=true):∃zs:List Str,ds=zs.map kh/\zs.length=ds.length/\∀z∈zs,gV z=true:=by
 induction ds with
 |nil=>exact⟨[],rfl,rfl,yv⟩
 |cons d ds ih=>
  obtain⟨z,rfl,hz⟩:=h d br;obtain⟨zs,rfl,hl,q⟩:=ih fun d m=>h d (bp _ m);refine⟨z::zs,rfl,yv,fun y m=>?_⟩;rcases mem_cons.mp m with rfl|m
  ·exact hz
  ·exact q y m
theorem Cj(a b:Str):(a++b).length=a.length+b.length:=strLen_append a b
theorem CZ:∀zs:List Str,(∀z∈zs,z.length<=1)->(Str.join "" zs).length<=zs.length
 | [],_=>cz 0
 | [a],h=>h a br
 |a::b::r,h=>by
  show (a ++ "" ++ Str.join "" (b::r)).length<=_;rw[Cj,Cj];have e:("":Str).length=0:=rfl;have h1:=h a br;have h2:=CZ (b::r) fun z m=>h z (bp _ m);rw[e];simp only[cw]at h2 ⊢;omega
def nY(ds:List bc):Prop:=∀d∈ds,∃z:Str,d=.str z/\gV z=true
theorem JI{ds:List bc}{a:Int}(h0:0<=a)(h1:a<=ds.length):(aS ds (some a) none++aS ds none (some a)).length=ds.length:=by
 obtain⟨k,rfl⟩:=gk h0;have e1:HT.sIx ds.length 0 (some (k:Int))=k:=by rw[HT.sIx_nat];omega
 have e2:HT.sIx ds.length ds.length (some (k:Int))=k:=by rw[HT.sIx_nat];omega
 have e3:HT.sIx ds.length ds.length none=ds.length:=rfl;have e4:HT.sIx ds.length 0 none=0:=rfl;unfold aS;rw[e1,e2,e3,e4,bv,gz,gz,qz,qz];omega
def xJ:List Str:=["part","gap","cut","a","aa","dear","b","keeps"]
set_option maxHeartbeats 8000000 in
theorem Kz{p:List bc}(hp:aV p)(q:∀(ns:List Str) p',ns.length=8->(∀z∈ns,gV z=true)->aV p'->R (.d (.list (ns.map kh))) [p']):nZ [.l 0] [p] R:=by
 unfold nZ;walk_at "dX"
 (refine seq1 ?_;walk_at "dX")
 (refine seq1 ?_;walk_at "dX")
 refine zO hp dz (by decide +kernel) fun ah p1 w0 w1 al=>?_;walk_at "dX"
 (refine seq1 ?_;walk_at "dX")
 refine zO al dz (by decide +kernel) fun aa p2 f0 f1 aj=>?_;walk_at "dX";refine cut (fun δ' S'=>∃(ds:List bc),nY ds/\ds.length=8/\S'=[p2,ds]/\δ'=[some (.l 0),some (.d (.str ("abcdefghijklmnopqrstuvwxyz":Str))),some (.d (.int ah)),some (.d (.int aa)),some (.l 1),none,none]) (fun N hN=>?_) ?_
 ·walk_at "dX";refine cmp1 (S0:=[p2]) (fun k:Nat=>.str (PySem.Txt.mul (lsgn ((aa+5*(0+k)) % 26)) (1+(aa+3*(0+k)) % 8))) rfl (dm 8) yv ?_ ?_
  ·intro k mk u acc R' hk;have b1:=lz (aa+5*(0+(k:Int))) (show (26:Int)≠0 by decide);have b2:=lr (aa+5*(0+(k:Int))) (show (0:Int)<26 by decide);have b3:=lz (aa+3*(0+(k:Int))) (show (8:Int)≠0 by decide);have b4:=lr (aa+3*(0+(k:Int))) (show (0:Int)<8 by decide);walk_at "dX";refine⟨d9 dz dz,Ai,_,Ay b1 b2,?_⟩;walk_at "dX";refine⟨d9 dz dz,?_⟩;walk_at "dX";exact⟨by rw[len1];decide,yw,yw,hk _⟩
  ·refine hN _ _ ⟨_,?_,yv,rfl,rfl⟩;intro d m;obtain⟨k,mk,rfl⟩:=mem_map.mp m;obtain⟨f,rfl⟩:=gk f0;exact⟨_,rfl,Gn f yw k (mem_range.mp mk)⟩
 rintro _ _ ⟨ds,ac,hl,rfl,rfl⟩;refine cut (fun δ' S'=>∃(ds:List bc) (T:Sto) (k:Nat) (u:Option XV),nY ds/\ds.length=8/\T[k]?=some ds/\S'=p2::T/\δ'=[some (.l 0),some (.d (.str ("abcdefghijklmnopqrstuvwxyz":Str))),some (.d (.int ah)),some (.d (.int aa)),some (.l (k+1)),u,none]) (fun N hN=>?_) ?_
 ·walk_at "dX";split
  ·refine seq1 ?_;walk_at "dX";refine cmp1 (S0:=[p2,ds]) (fun k:Nat=>.str (lsgn ((aa+7*(0+k)) % 26))) rfl (dm 8) yv ?_ ?_
   ·intro k mk u acc R' hk;have b1:=lz (aa+7*(0+(k:Int))) (show (26:Int)≠0 by decide);have b2:=lr (aa+7*(0+(k:Int))) (show (0:Int)<26 by decide);walk_at "dX";refine⟨d9 dz dz,Ai,_,Ay b1 b2,?_⟩;exact hk _
   ·walk_at "dX";refine⟨(dm 8).map fun k:Nat=>lsgn ((aa+7*(0+k)) % 26),by rw[ge];rfl,by decide,yv,fun y m=>?_,?_⟩
    ·obtain⟨k,_,rfl⟩:=mem_map.mp m;show 1<=1000;decide
    ·have wl:(PySem.Txt.join "" ((dm 8).map fun k:Nat=>lsgn ((aa+7*(0+k)) % 26))).length<=8*1016:=by
      have:=JK (y:=("":Str)) (zs:=(dm 8).map fun k:Nat=>lsgn ((aa+7*(0+k)) % 26)) dz (fun y m=>by
       obtain⟨k,_,rfl⟩:=mem_map.mp m;show 1<=1000;decide)
      simpa using this
     have an:(PySem.Txt.join "" ((dm 8).map fun k:Nat=>lsgn ((aa+7*(0+k)) % 26))).length<=8:=by
      show (Builtin.Str.glued _ _).length<=_;rw[StrLaws.glued_eq_join];have:=CZ ((dm 8).map fun k:Nat=>lsgn ((aa+7*(0+k)) % 26)) (fun y m=>by
       obtain⟨k,_,rfl⟩:=mem_map.mp m;exact cz 1)
      simpa using this
     walk_at "dX";refine cmp1 (S0:=[p2,ds]) (fun k:Nat=>.str (PySem.Txt.slice (PySem.Txt.join "" ((dm 8).map fun k:Nat=>lsgn ((aa+7*(0+k)) % 26))) none (some (0+k+1)))) rfl (dm 8) yv ?_ ?_
     ·intro k mk u acc R' hk;walk_at "dX";exact⟨fv wl (by rw[ko];decide),hk _⟩
     ·refine hN _ _ ⟨_,[ds,_],1,_,?_,?_,rfl,rfl,rfl⟩
      ·intro d m;obtain⟨k,mk,rfl⟩:=mem_map.mp m;obtain⟨f,rfl⟩:=gk f0;exact⟨_,rfl,Lq f yw k (mem_range.mp mk)⟩
      ·simp
  ·exact hN _ _ ⟨ds,[ds],0,none,ac,hl,rfl,rfl,rfl⟩
 rintro _ _ ⟨ds,T,k,u,ac,hl,hk,rfl,rfl⟩;refine cut (fun δ' S'=>∃(ds:List bc) (T:Sto) (k:Nat),nY ds/\ds.length=8/\T[k]?=some ds/\S'=p2::T/\δ'=[some (.l 0),some (.d (.str ("abcdefghijklmnopqrstuvwxyz":Str))),some (.d (.int ah)),some (.d (.int aa)),some (.l (k+1)),u,none]) (fun N hN=>?_) ?_
 ·walk_at "dX";split
  ·refine hN _ _ ⟨xJ.map kh,T++[xJ.map kh],T.length,?_,rfl,by rw[bo],rfl,rfl⟩;intro d m;obtain⟨z,hz,rfl⟩:=mem_map.mp m;refine⟨z,rfl,?_⟩;simp only[xJ,jd,gq,or_false]at hz;rcases hz with rfl|rfl|rfl|rfl|rfl|rfl|rfl|rfl<;>decide +kernel
  ·exact hN _ _ ⟨ds,T,k,ac,hl,hk,rfl,rfl⟩
 rintro _ _ ⟨ds,T,k,ac,hl,hk,rfl,rfl⟩
 (refine seq1 ?_;walk_at "dX")
 refine zO aj dz (by decide +kernel) fun ab p3 a0 a1 ak=>?_;walk_at "dX"
 (refine seq1 ?_;walk_at "dX")
 refine⟨ds,hk,ds,hk,?_⟩;have hc:=JI (ds:=ds) a0 yw;rw[bv]at hc;refine⟨yw,?_⟩;have ai:(T++[aS ds (some ab) none++aS ds none (some ab)])[T.length]?=some (aS ds (some ab) none++aS ds none (some ab)):=by rw[bo]
 have af:nY (aS ds (some ab) none++aS ds none (some ab)):=fun d m=>(mem_append.mp m).elim (fun m=>ac d (FJ m)) fun m=>ac d (FJ m);have ag:(aS ds (some ab) none++aS ds none (some ab)).length=8:=by rw[bv];omega
 generalize aS ds (some ab) none++aS ds none (some ab)=es at ai af ag ⊢;refine seq1 ?_;walk_at "dX";refine zO ak dz (by decide +kernel) fun r p4 r0 r1 am=>?_;walk_at "dX";have ae:∀(fs:List bc),nY fs->fs.length=8->R (.d (.list fs)) [p4]:=by
  intro fs h1 h2;obtain⟨zs,rfl,z1,z2⟩:=Fu h1;exact q zs p4 yw z2 am
 split
 ·refine⟨yv,es,ai,?_⟩;walk_at "dX";rw[ck yw];refine⟨es.reverse,by simp[sW],.inl (ae _ (fun d m=>af d (List.mem_reverse.mp m)) (by simpa using ag))⟩
 ·rw[ck yw];exact⟨es,ai,.inl (ae _ af ag)⟩
abbrev Part:=Str×Int×Int
def bM(p:Part):bc:=.tuple [.str p.1,.int p.2.1,.int p.2.2]
def aM(ps:List Part):bc:=.tuple (ps.map bM)
structure Prt(p:Part):Prop where
 nm:gV p.1=true
 le:p.2.1<=p.2.2
 lo:-10 ^ 58<=p.2.1
 hi:p.2.2<=10 ^ 59
structure Drw(ps:List Part):Prop where
 l1:1<=ps.length
 l8:ps.length<=8
 all:∀p∈ps,Prt p
theorem cK{α:Type}{f:α->bc}{l:List α}{k:Nat}{x:α}(e:l[k]?=some x):atI (l.map f) (k:Int)=some (f x):=fR (by rw[fh,e];rfl)
end
section
variable {R:RX}{S:Sto}
theorem Jf{a b m:Int}(h1:m∈[a,b])(h2:∀x,x∈[a,b]->m<=x):m=min a b:=by
 have ha:=h2 a yv;have hb:=h2 b yv;simp only[jd,gq,or_false]at h1;omega
theorem IF{a b m:Int}(h1:m∈[a,b])(h2:∀x,x∈[a,b]->x<=m):m=max a b:=by
 have ha:=h2 a yv;have hb:=h2 b yv;simp only[jd,gq,or_false]at h1;omega
theorem Jd{a b:Int}(q:R (.d (.int (min a b))) S):tP [.d (.list [.int a,.int b])] S R:=.inl ⟨_,rfl,[a,b],rfl,yv,fun m h1 h2=>by rw[Jf h1 h2];exact q⟩
theorem GX{a b:Int}(q:R (.d (.int (max a b))) S):lC [.d (.list [.int a,.int b])] S R:=⟨_,rfl,[a,b],rfl,yv,fun m h1 h2=>by rw[IF h1 h2];exact q⟩
abbrev Term:=Nat×Int
def tmD(t:Term):bc:=.tuple [.int t.1,.int t.2]
def dR(ts:List Term):bc:=.tuple (ts.map tmD)
structure Gap where
 ts:List Term
 lo:Int
 hi:Int
def cR(g:Gap):bc:=.tuple [dR g.ts,.int g.lo,.int g.hi]
theorem gF(g:Gap):cR g=.tuple [dR g.ts,.int g.lo,.int g.hi]:=rfl
theorem nX(t:Term):tmD t=.tuple [.int t.1,.int t.2]:=rfl
theorem lB(p:Part):bM p=.tuple [.str p.1,.int p.2.1,.int p.2.2]:=rfl
def aN(ns:List Int):bc:=.tuple (ns.map bj)
structure Tms(n:Nat)(ts:List Term):Prop where
 ne:ts≠[]
 len:ts.length<=n
 ok:∀t∈ts,t.1<n/\t.2≠0/\-3<=t.2/\t.2<=3
 srt:ts.Pairwise fun t u=>t.1<u.1
structure Tm3(n:Nat)(ts:List Term):Prop where
 len:ts.length<=100
 ok:∀t∈ts,t.1<n/\-3<=t.2/\t.2<=3
theorem Tms.tm3{n:Nat}{ts:List Term}(h:Tms n ts)(hn:n<=8):Tm3 n ts:=⟨by have:=h.len;omega,fun t m=>⟨(h.ok t m).1,(h.ok t m).2.2⟩⟩
def worth(ts:List Term)(ns:List Int):Int:=(ts.map fun t=>t.2*ns.getD t.1 0).sum
theorem pQ{ns:List Int}{k:Nat}(h:k<ns.length):ns[k]?=some (ns.getD k 0):=by
 rw[bi h,cg,bi h];rfl
def part(ps:List Part)(k:Nat):Part:=ps.getD k ("",0,0)
theorem eX{ps:List Part}{k:Nat}(h:k<ps.length):ps[k]?=some (part ps k):=by
 unfold part;rw[bi h,cg,bi h];rfl
theorem GV{ps:List Part}{k:Nat}(h:k<ps.length):part ps k∈ps:=bw (eX h)
def plo(ps:List Part)(k:Nat):Int:=(part ps k).2.1
def phi(ps:List Part)(k:Nat):Int:=(part ps k).2.2
def tLo(ps:List Part)(t:Term):Int:=min (t.2*plo ps t.1) (t.2*phi ps t.1)
def tHi(ps:List Part)(t:Term):Int:=max (t.2*plo ps t.1) (t.2*phi ps t.1)
def cN(ps:List Part)(ts:List Term):Int:=(ts.map (tLo ps)).sum
def cS(ps:List Part)(ts:List Term):Int:=(ts.map (tHi ps)).sum
theorem Lp{ps:List Part}{t:Term}{ts:List Term}:cN ps (t::ts)=tLo ps t+cN ps ts:=by simp[cN]
theorem JC{ps:List Part}{t:Term}{ts:List Term}:cS ps (t::ts)=tHi ps t+cS ps ts:=by simp[cS]
theorem Kq{ps:List Part}{ts:List Term}{i:Nat}{t:Term}(h:ts[i]?=some t):cN ps (ts.take (i+1))=cN ps (ts.take i)+tLo ps t:=by
 unfold cN;rw[take_add_one,h];simp
theorem HW{ps:List Part}{ts:List Term}{i:Nat}{t:Term}(h:ts[i]?=some t):cS ps (ts.take (i+1))=cS ps (ts.take i)+tHi ps t:=by
 unfold cS;rw[take_add_one,h];simp
theorem D7(ps:List Part):∀ts:List Term,cN ps ts<=cS ps ts
 | []=>by simp[cN,cS]
 |t::ts=>by
  have:=D7 ps ts;rw[Lp,JC];unfold tLo tHi;omega
theorem gE{α:Type}{f:α->bc}{l:List α}{i:Nat}{d:bc}(h:(l.map f)[i]?=some d):∃x,l[i]?=some x/\d=f x:=by
 rw[fh]at h;obtain⟨x,e,rfl⟩:=map_eq_some_iff.mp h;exact⟨x,e,rfl⟩
theorem JJ{ps:List Part}{ts:List Term}{t:bc}(ht:fD (.d t)=some (ts.map tmD))(h3:Tm3 ps.length ts)(q:R (.d (spD (cN ps ts) (cS ps ts))) []):rS [.d (aM ps),.d t] [] R:=by
 unfold rS aM;walk_at "d"
 walk_at "n"
 walk_at "n"
 walk_at "n";refine⟨_,ht,?_⟩;refine fA (fun i δ S=>∃(u1 u2 u3:Option XV),S=[]/\δ=[some (.d (.tuple (ps.map bM))),some (.d t),some (.d (.int (cN ps (ts.take i)))),some (.d (.int (cS ps (ts.take i)))),u1,u2,u3]) ⟨_,_,_,rfl,rfl⟩ ?_ ?_
 ·rintro i d _ _ N hi ⟨u1,u2,u3,rfl,rfl⟩ hN;obtain⟨t,ht,rfl⟩:=gE hi;obtain⟨t1,t2,t3⟩:=h3.ok t (bw ht);have ep:=cK (f:=bM) (eX t1);unfold tmD;walk_at "d"
  walk_at "n"
  refine⟨_,ep,?_⟩;unfold bM;walk_at "d";refine⟨d9 yw yw,_,ep,?_⟩;unfold bM;walk_at "d";refine⟨d9 yw yw,?_⟩
  walk_at "n"
  refine Jd ?_;walk_at "d";refine GX ?_;walk_at "d";exact hN _ _ ⟨_,_,_,rfl,by rw[Kq ht,HW ht];rfl⟩
 ·rintro _ _ ⟨u1,u2,u3,rfl,rfl⟩;rw[bq,ld];walk_at "d";exact q
theorem rP{ds:List bc}{r:Int}{P:bc->Prop}(h0:0<=r)(h1:r<ds.length)(hP:∀d∈ds,P d):∃d,atI ds r=some d/\P d:=by
 obtain⟨k,rfl⟩:=gk h0;have hk:k<ds.length:=yw
 exact⟨ds[k],fR (bi hk),hP _ (kz hk)⟩
theorem Kr(ds:List bc):cv (.list ds) (.list [])=decide (ds=[]):=by
 cases ds with
 |nil=>rfl
 |cons d ds=>rfl
theorem Gq(t:Term):Shp 1 (tmD t):=nO (II j5 j5)
theorem Le(ts:List Term):ci (.list (ts.map tmD))=true:=(o8 (uK fun t _=>Gq t)).ok
structure GapOk(n:Nat)(g:Gap):Prop where
 ts:Tms n g.ts
 le:g.lo<=g.hi
theorem G8{p:List bc}{ps:List Part}(hp:aV p)(hd:Drw ps)(q:∀g p',GapOk ps.length g->aV p'->R (.d (cR g)) [p']):sV [.l 0,.d (aM ps)] [p] R:=by
 have h8:=hd.l8;have h1:=hd.l1;unfold sV;walk_at "d"
 walk_at "n"
 refine cut (fun δ S=>∃(p:List bc) (ts:List Term) (u1 u2:Option XV),aV p/\ts.length<=ps.length/\(∀t∈ts,t.1<ps.length/\t.2≠0/\-3<=t.2/\t.2<=3)/\(ts.Pairwise fun t u=>t.1<u.1)/\S=[p,ts.map tmD]/\δ=[some (.l 0),some (.d (aM ps)),some (.l 1),u1,u2,none,none,none,none,none]) (fun N hN=>?_) ?_
 ·walk_at "d";refine⟨ps.length,by unfold aM;walk_at "d",?_⟩;refine fA (fun i δ S=>∃(p:List bc) (ts:List Term) (u1 u2:Option XV),aV p/\ts.length<=i/\(∀t∈ts,t.1<i/\t.2≠0/\-3<=t.2/\t.2<=3)/\(ts.Pairwise fun t u=>t.1<u.1)/\S=[p,ts.map tmD]/\δ=[some (.l 0),some (.d (aM ps)),some (.l 1),u1,u2,none,none,none,none,none]) ⟨p,[],_,_,hp,cz _,yv,.nil,rfl,rfl⟩ ?_ ?_
  ·rintro i d _ _ N hi ⟨p,ts,u1,u2,hp,hl,ht,hw,rfl,rfl⟩ hN;obtain⟨ae,rfl⟩:=rO hi;have ah:i<ps.length:=by simpa using ae
   walk_at "d"
   walk_at "n"
   refine zO hp dz (by decide +kernel) fun r p2 r0 r1 aa=>?_;walk_at "d";refine⟨rfl,?_⟩;simp only[List.any_cons,List.any_nil,Bool.or_false,fC];have ag:=hN [some (.l 0),some (.d (aM ps)),some (.l 1),some (.d (.int (0+(i:Int)))),some (.d (.int (r-4))),none,none,none,none,none] [p2,ts.map tmD] ⟨p2,ts,_,_,aa,yw,fun t m=>⟨by have:=(ht t m).1;omega,(ht t m).2⟩,hw,rfl,rfl⟩;by_cases hz:r-4 = -4\/r-4=0\/r-4=4
   ·have e:(decide ((-4:Int)=r-4)||(decide ((0:Int)=r-4)||decide ((4:Int)=r-4)))=true:=by
     rcases hz with h|h|h<;>simp[h]
    rw[e];walk_at "d";exact ag
   ·have e:(decide ((-4:Int)=r-4)||(decide ((0:Int)=r-4)||decide ((4:Int)=r-4)))=false:=by
     simp;omega
    rw[e];walk_at "d";refine⟨yw,hN _ _ ⟨p2,ts++[(i,r-4)],_,_,aa,by simp;omega,fun t m=>?_,?_,by simp[tmD],rfl⟩⟩
    ·rcases mem_append.mp m with m|m
     ·exact⟨by have:=(ht t m).1;omega,(ht t m).2⟩
     ·rw[mem_singleton.mp m];exact⟨yv,by simp only;omega,by simp only;omega,by simp only;omega⟩
    ·rw[List.pairwise_append];exact⟨hw,yv,fun t m u m'=>by rw[mem_singleton.mp m'];exact(ht t m).1⟩
  ·rintro _ _ ⟨p,ts,u1,u2,hp,hl,ht,hw,rfl,rfl⟩;rw[kZ]at hl ht;have hz:(ps.length:Int).toNat=ps.length:=by simp
   rw[hz]at hl ht;exact hN _ _ ⟨p,ts,u1,u2,hp,hl,ht,hw,rfl,rfl⟩
 rintro _ _ ⟨p,ts,u1,u2,hp,hl,ht,hw,rfl,rfl⟩;refine cut (fun δ S=>∃(p:List bc) (ts:List Term) (T:Sto) (k:Nat),aV p/\Tms ps.length ts/\T[k]?=some (ts.map tmD)/\S=p::T/\δ=[some (.l 0),some (.d (aM ps)),some (.l (k+1)),u1,u2,none,none,none,none,none]) (fun N hN=>?_) ?_
 ·walk_at "d";refine⟨Le ts,rfl,?_⟩;rw[Kr];walk_at "d";split
  ·refine⟨ps.length,by unfold aM;walk_at "d",?_⟩;refine zO hp yw (BE yw yw) fun r p2 r0 r1 aa=>?_;walk_at "d";refine zO aa dz (by decide +kernel) fun r3 p3 r2 r4 ab=>?_;obtain⟨d,ed,n,rfl,hn⟩:=rP (ds:=[bj 1,bj (-1),bj 2,bj (-3)]) (P:=fun d=>∃n,d=.int n/\n≠0/\-3<=n/\n<=3) r2 r4 (by
    intro d m;simp only[jd,gq,or_false]at m;rcases m with rfl|rfl|rfl|rfl<;>exact⟨_,rfl,by decide,by decide,by decide⟩)
   obtain⟨k,rfl⟩:=gk r0;walk_at "d";refine⟨_,ed,?_⟩;walk_at "d";refine hN _ _ ⟨p3,[(k,n)],[ts.map tmD,[tmD (k,n)]],1,ab,⟨yv,by simpa using h1,fun t m=>by rw[mem_singleton.mp m];exact⟨by simp only;omega,hn⟩,yv⟩,rfl,rfl,rfl⟩
  ·rename_i af;exact hN _ _ ⟨p,ts,[ts.map tmD],0,hp,⟨fun z=>af (by rw[z];rfl),hl,ht,hw⟩,rfl,rfl,rfl⟩
 rintro _ _ ⟨p,ts,T,k,hp,ac,hk,rfl,rfl⟩
 walk_at "n"
 rw[hk];walk_at "d";refine JJ rfl (ac.tm3 h8) ?_;have lm:=D7 ps ts;unfold spD;walk_at "d";refine⟨rfl,?_⟩;walk_at "d"
 walk_at "n"
 walk_at "n"
 refine .inl ⟨⟨by decide,by decide +kernel⟩,.inl ⟨⟨by decide,by decide +kernel⟩,?_⟩⟩;walk_at "d";refine zO hp dz (by decide +kernel) fun r p2 r0 r1 aa=>?_;obtain⟨d,ed,n,rfl⟩:=rP (P:=fun d=>∃n,d=.int n) (ds:=[bj 0,bj 1,bj (-1),bj ((cS ps ts-cN ps ts)/2),bj ((cS ps ts-cN ps ts)/3),bj (cS ps ts-cN ps ts+1)]) r0 r1 yv;walk_at "d";refine⟨_,ed,?_⟩;walk_at "d"
 walk_at "n"
 refine .inl ⟨⟨by decide,by decide +kernel⟩,?_⟩;walk_at "d";refine zO aa dz (by decide +kernel) fun r' p3 r2 r3 ab=>?_;obtain⟨d,ed,n',rfl,h0⟩:=rP (P:=fun d=>∃n,d=.int n/\0<=n) (ds:=[bj 0,bj 1,bj 2,bj ((cS ps ts-cN ps ts)/2),bj (cS ps ts-cN ps ts),bj (cS ps ts-cN ps ts+2)]) r2 r3 (by simp;omega);walk_at "d";refine⟨_,ed,?_⟩;walk_at "d";refine⟨_,hk,?_⟩;walk_at "d";exact q ⟨ts,_,_⟩ p3 ⟨ac,by simp only;omega⟩ ab
theorem ET{g:DG}{te:DE}{fin:Sto->Prop}{α:Type}(F:α->Prop)(f:α->bc)(P:XE->Prop):∀(ds:List bc) (acc:List α) (p:List bc) (τ:XE),P τ->aV p->acc.length+ds.length<=1000 ->
  (∀d∈ds,∀ τ p acc (R:XE->RX),P τ->aV p->(∀ τ' x p',P τ'->aV p'->F x->R τ' (.d (f x)) [p',acc])->g (.d d) τ [p,acc] fun τ1 S1=>te τ1 S1 (R τ1)) ->
  (∀xs p',aV p'->(∀x∈xs,F x)->xs.length=ds.length->fin [p',(acc++xs).map f])->bF 1 g aC te fin ds τ [p,acc.map f]
 | [],acc,p,τ,_,hp,_,_,h=>by
  have:=h [] p hp yv rfl;rw[gl]at this;exact this
 |d::ds,acc,p,τ,hP,hp,hl,el,h=>by
  show g (.d d) τ [p,acc.map f] fun τ1 S1=>aC τ1 S1 fun b S2=>if b=true then te τ1 S2 fun x S3=>asD x fun e=>∃acc,S3[1]?=some acc/\acc.length<1000/\bF 1 g aC te fin ds τ1 (S3.set 1 (acc++[e]))else bF 1 g aC te fin ds τ1 S2
  simp only[aC,↓reduceIte];rw[cw]at hl;refine el d br τ p (acc.map f) (fun τ1 x S3=>asD x fun e=>∃acc,S3[1]?=some acc/\acc.length<1000/\bF 1 g aC te fin ds τ1 (S3.set 1 (acc++[e]))) hP hp fun τ' x p' q z hF=>?_;refine⟨acc.map f,rfl,by rw[bq];omega,?_⟩;have e:([p',acc.map f]:Sto).set 1 (acc.map f++[f x])=[p',(acc++[x]).map f]:=by simp
  rw[e];refine ET F f P ds (acc++[x]) p' τ' q z (by rw[bv,fi];omega) (fun e m=>el e (bp _ m)) fun xs p'' hp'' fs hl=>?_;rw[ja];exact h (x::xs) p'' hp'' (fun y m=>(mem_cons.mp m).elim (fun e=>e▸hF) (fs y)) (by simp[hl])
end
section
variable {R:RX}{S:Sto}
theorem yG{p:Part}(q:R (.d (spD p.2.1 p.2.2)) []):kJ [.d (bM p)] [] R:=by
 unfold kJ bM;walk_at "e";exact q
theorem Bb{a b:Int}(q:R (.d (.int (b-a+1))) []):qS [.d (spD a b)] [] R:=by
 unfold qS spD;walk_at "e";exact q
theorem Is{g:Gap}{ns:List Int}(h3:Tm3 ns.length g.ts)(q:R (.d (.int (worth g.ts ns))) []):sC [.d (cR g),.d (aN ns)] [] R:=by
 unfold sC aN;rw[gF,dR];walk_at "e";refine cmp2 (S0:=[]) (fun t:Term=>.int (t.2*ns.getD t.1 0)) rfl g.ts (by have:=h3.len;omega) ?_ ?_
 ·intro t mt u v acc R' hk;obtain⟨t1,t2,t3⟩:=h3.ok t mt;have e:=cK (f:=bj) (pQ t1);rw[nX];walk_at "e";refine⟨_,e,?_⟩;walk_at "e";exact⟨d9 yw yw,hk _ _⟩
 ·walk_at "e";refine⟨g.ts.map fun t:Term=>t.2*ns.getD t.1 0,by rw[ge];rfl,q⟩
def zT(g:Gap)(ns:List Int):Bool:=decide (g.lo<=worth g.ts ns/\worth g.ts ns<=g.hi)
theorem Fa{g:Gap}{ns:List Int}(h3:Tm3 ns.length g.ts)(q:R (.d (.bool (zT g ns))) []):sM [.d (cR g),.d (aN ns)] [] R:=by
 unfold sM;walk_at "e";rw[gF];walk_at "e";rw[<- gF];refine Is h3 ?_;walk_at "e";unfold zT at q;by_cases h:g.lo<=worth g.ts ns
 ·simp only[h,true_and]at q;rw[cq h];exact q
 ·simp only[h,false_and,decide_false]at q;rw[ck h];exact q
def J8(a t:Int):Int:=-(a/(-t))
def pick(ps:List Part)(t:Term)(ts:List Term)(left:Int):Int:=if t.2<0 then max (plo ps t.1) (J8 (left-cN ps ts) t.2)else plo ps t.1
structure InBox(ps:List Part)(ns:List Int):Prop where
 len:ns.length=ps.length
 ok:∀k,k<ps.length->plo ps k<=ns.getD k 0/\ns.getD k 0<=phi ps k
def Ord(ps:List Part):Prop:=∀p∈ps,p.2.1<=p.2.2
theorem Drw.ord{ps:List Part}(h:Drw ps):Ord ps:=fun p m=>(h.all p m).le
theorem Ord.at{ps:List Part}(h:Ord ps){k:Nat}(hk:k<ps.length):plo ps k<=phi ps k:=h _ (GV hk)
theorem DC{α:Type}{f:α->bc}{ts:List α}{i:Nat}(il:i<ts.length):aS (ts.map f) (some ((i:Int)+1)) none=(ts.drop (i+1)).map f:=by
 have ei:(i:Int)+1=((i+1:Nat):Int):=yw
 unfold aS;have e1:HT.sIx ts.length ts.length none=ts.length:=rfl;rw[bq,ei,e1,HT.sIx_nat,Nat.min_eq_left il,List.take_of_length_le yv,List.map_drop]
end
section
variable {R:RX}{S:Sto}
def mH:bc->Bool
 | .int _=>true
 |_=>false
theorem EJ{d:bc}(q:R (.d (.bool (mH d))) []):l0 [.d d] [] R:=by
 unfold l0;cases d<;>(walk_at "e";exact q)
end
section
variable {R:RX}{S:Sto}
def rng(lo:Int)(n:Nat):List Int:=(dm n).map fun k:Nat=>lo+k
theorem rT{lo x:Int}{n:Nat}:x∈rng lo n↔lo<=x/\x<lo+n:=by
 unfold rng;rw[mem_map];constructor
 ·rintro⟨k,hk,rfl⟩;have:=mem_range.mp hk;omega
 ·rintro⟨h1,h2⟩;exact⟨(x-lo).toNat,mem_range.mpr yw,yw⟩
def aH(p:Part):List Int:=rng p.2.1 (p.2.2-p.2.1+1).toNat
theorem g5(p:Part):(aH p).length=(p.2.2-p.2.1+1).toNat:=by simp[aH,rng]
def cD:List Part->List (List Int)
 | []=>[[]]
 |p::ps=>(aH p).flatMap fun x=>(cD ps).map (x :: ·)
def ext(q:List (List Int))(p:Part):List (List Int):=q.flatMap fun a=>(aH p).map fun x=>a++[x]
theorem BJ:∀(ps:List Part) (found:List (List Int)),ps.foldl ext found=found.flatMap fun a=>(cD ps).map (a ++ ·)
 | [],found=>by simp[cD]
 |p::ps,found=>by
  rw[qx,BJ ps];unfold ext;simp only[cD,List.flatMap_assoc,List.map_flatMap,List.flatMap_map,ge];congr 1;funext a;congr 1;funext x;congr 1;funext t;simp
theorem tX(ps:List Part):ps.foldl ext [[]]=cD ps:=by
 rw[BJ];simp
theorem Fy{ms:List Int}:InBox [] ms↔ms=[]:=⟨fun h=>cx h.len,fun h=>by subst h;exact⟨rfl,fun k hk=>by simp at hk⟩⟩
theorem wD{p:Part}{ps:List Part}{k:Nat}:part (p::ps) (k+1)=part ps k:=by simp[part]
theorem Fc{p:Part}{ps:List Part}{ms:List Int}:InBox (p::ps) ms↔∃x t,ms=x::t/\p.2.1<=x/\x<=p.2.2/\InBox ps t:=by
 constructor
 ·intro h;cases ms with
  |nil=>have:=h.len;simp at this
  |cons x t=>
   have h0:=h.ok 0 yv;refine⟨x,t,rfl,h0.1,h0.2,by have:=h.len;simpa using this,fun k hk=>?_⟩;have:=h.ok (k+1) (by simpa using hk);unfold plo phi at this ⊢;rw[wD]at this;simpa using this
 ·rintro⟨x,t,rfl,h1,h2,h3⟩;refine⟨by simp[h3.len],fun k hk=>?_⟩;cases k with
  |zero=>exact⟨h1,h2⟩
  |succ k=>
   have:=h3.ok k (by simpa using hk);unfold plo phi at this ⊢;rw[wD];simpa using this
theorem iN:∀{ps:List Part}{ms:List Int},ms∈cD ps↔InBox ps ms
 | [],ms=>by rw[Fy];simp[cD]
 |p::ps,ms=>by
  rw[Fc,cD,mem_flatMap];constructor
  ·rintro⟨x,hx,h⟩;obtain⟨t,ht,rfl⟩:=mem_map.mp h;unfold aH at hx;rw[rT]at hx;exact⟨x,t,rfl,yw,yw,iN.mp ht⟩
  ·rintro⟨x,t,rfl,h1,h2,h3⟩;exact⟨x,by unfold aH;rw[rT];omega,mem_map.mpr ⟨t,iN.mpr h3,rfl⟩⟩
def aO:List Nat->Nat
 | []=>1
 |x::xs=>x*aO xs
def aE(ps:List Part):Nat:=aO (ps.map fun p=>(p.2.2-p.2.1+1).toNat)
theorem AD{α β:Type}{f:α->List β}{n:Nat}:∀{l:List α},(∀x∈l,(f x).length=n)->(l.flatMap f).length=l.length*n
 | [],_=>by simp
 |x::l,h=>by
  rw[List.flatMap_cons,bv,h x br,AD fun y m=>h y (bp _ m),cw,succ_mul,Nat.add_comm]
theorem uX:∀ps:List Part,(cD ps).length=aE ps
 | []=>rfl
 |p::ps=>by
  rw[cD,AD (n:=aE ps) fun x _=>by rw[bq,uX ps],g5];rfl
theorem oM{q:List (List Int)}{p:Part}:(ext q p).length=q.length*(p.2.2-p.2.1+1).toNat:=by
 unfold ext;exact AD fun x _=>by rw[bq,g5]
theorem l7{q:List (List Int)}:∀{ps:List Part},(ps.foldl ext q).length=q.length*aE ps
 | []=>by simp[aE,aO]
 |p::ps=>by
  rw[qx,l7 (ps:=ps),oM];simp[aE,aO,Nat.mul_assoc]
theorem qL:∀{l:List Nat},(∀x∈l,1<=x)->1<=aO l
 | [],_=>cz _
 |x::l,h=>mul_le_mul (h x br) (qL fun y m=>h y (bp _ m))
theorem tJ{ps:List Part}(ho:Ord ps):1<=aE ps:=qL fun x m=>by
 obtain⟨p,mp,rfl⟩:=mem_map.mp m;have:=ho p mp;omega
theorem uR:∀(a b:List Nat),aO (a++b)=aO a*aO b
 | [],b=>by simp[aO]
 |x::a,b=>by simp[aO,uR a b,Nat.mul_assoc]
theorem lA{ps:List Part}(ho:Ord ps)(i:Nat):aE (ps.take i)<=aE ps:=by
 have e:aE ps=aE (ps.take i)*aE (ps.drop i):=by
  unfold aE;rw[<- uR,<- fm,nt]
 have:=tJ (ps:=ps.drop i) fun p m=>ho p (List.mem_of_mem_drop m);rw[e];exact Nat.le_mul_of_pos_right _ this
theorem gA{α:Type}{l:List α}{i:Nat}{x:α}(h:l[i]?=some x):l.take (i+1)=l.take i++[x]:=by rw[take_add_one,h];rfl
theorem E9(a:List Int)(x:Int):iq (a.map bj++[.int x])=aN (a++[x]):=by simp[aN]
theorem Hv{ps:List Part}(ho:Ord ps)(ac:ps.length<=100)(hs:aE ps<=300)(q:R (.d (.list ((cD ps).map aN))) []):tT [.d (aM ps)] [] R:=by
 unfold tT;rw[aM];walk_at "d"
 walk_at "n"
 walk_at "n";refine fA (fun i δ S=>∃(u1 u2 u3 u4 u5:Option XV),S=[]/\δ=[some (.d (.tuple (ps.map bM))),some (.d (.list (((ps.take i).foldl ext [[]]).map aN))),u1,u2,u3,u4,u5]) ⟨_,_,_,_,_,rfl,rfl⟩ ?_ ?_
 ·rintro i d _ _ N hi ⟨u1,u2,u3,u4,u5,rfl,rfl⟩ hN;obtain⟨p,hp,rfl⟩:=gE hi;have tk:=gA hp;have il:i<ps.length:=(List.getElem?_eq_some_iff.mp hp).1;have op:=ho p (bw hp);have l1:=lA ho i;have l2:=lA ho (i+1);have f1:((ps.take i).foldl ext [[]]).length=aE (ps.take i):=by rw[l7];simp
  have f2:(ext ((ps.take i).foldl ext [[]]) p).length=aE (ps.take (i+1)):=by
   have:(ps.take (i+1)).foldl ext [[]]=ext ((ps.take i).foldl ext [[]]) p:=by rw[tk,foldl_append];rfl
   rw[<- this,l7];simp
  have fl:∀a∈(ps.take i).foldl ext [[]],a.length<=i:=by
   rw[tX];intro a m;have:=(iN.mp m).len;rw[this,gz];omega
  have z:=fun u1 u2 u3 u4 u5=>hN [some (.d (.tuple (ps.map bM))),some (.d (.list ((ext ((ps.take i).foldl ext [[]]) p).map aN))),u1,u2,u3,u4,u5] [] ⟨u1,u2,u3,u4,u5,rfl,by rw[tk,foldl_append];rfl⟩;generalize (ps.take i).foldl ext [[]]=found at f1 f2 fl z ⊢;rw[lB];walk_at "d";walk_at "n";walk_at "n";refine fA (fun j δ S=>∃(u:Option XV),S=[(ext (found.take j) p).map aN]/\δ=[some (.d (.tuple (ps.map bM))),some (.d (.list (found.map aN))),some (.d (.str p.1)),some (.d (.int p.2.1)),some (.d (.int p.2.2)),some (.l 0),u]) ⟨_,rfl,rfl⟩ ?_ ?_
  ·rintro j d _ _ N' hj ⟨u,rfl,rfl⟩ ab;obtain⟨a,ha,rfl⟩:=gE hj;have aa:=gA ha;have al:=fl a (bw ha);have ej:ext (found.take (j+1)) p=ext (found.take j) p++(aH p).map fun x=>a++[x]:=by
    rw[aa];unfold ext;rw[List.flatMap_append];simp
   have lj:(ext (found.take (j+1)) p).length<=(ext found p).length:=by
    rw[oM,oM,gz];exact Nat.mul_le_mul_right _ yw
   have pl:(p.2.2-p.2.1+1).toNat<=1000:=by
    have:=g5 p;rw[ej,bv,bq]at lj;omega
   rw[aN];walk_at "d";refine cmp1 (S0:=[(ext (found.take j) p).map aN]) (fun k:Nat=>aN (a++[p.2.1+(0+(k:Int))])) rfl (dm (p.2.2-p.2.1+1).toNat) (by simpa using pl) ?_ ?_
   ·intro k mk u acc R' hk;walk_at "d";refine⟨yw,?_⟩;rw[E9];exact hk _
   ·walk_at "d";have er:(dm (p.2.2-p.2.1+1).toNat).map (fun k:Nat=>aN (a++[p.2.1+(0+(k:Int))]))=((aH p).map fun x=>a++[x]).map aN:=by
     unfold aH rng;rw[ge,ge];simp[Function.comp_def]
    rw[er];refine⟨by rw[ej,bv]at lj;simp only[bq,on]at lj ⊢;rw[g5]at lj;omega,ab _ _ ⟨_,by rw[ej,fm],rfl⟩⟩
  ·rintro _ _ ⟨u,rfl,rfl⟩;rw[bq,ld];walk_at "d";exact z _ _ _ _ _
 ·rintro _ _ ⟨u1,u2,u3,u4,u5,rfl,rfl⟩;rw[bq,ld,tX];walk_at "d";exact q
end
section
variable {R:RX}{S:Sto}
structure Wds(ws:List Int):Prop where
 l1:1<=ws.length
 l8:ws.length<=8
 pos:∀x∈ws,1<=x
 le:∀x∈ws,x<=300
 prod:aO (ws.map Int.toNat)<=300
theorem prod3:∀{ws:List Int},(∀x∈ws,1<=x/\x<=3)->aO (ws.map Int.toNat)<=3 ^ ws.length
 | [],_=>by simp[aO]
 |x::ws,h=>by
  have h1:=h x br;have h2:=prod3 fun y m=>h y (bp _ m);rw[ft,aO,cw,Nat.pow_succ,mul_comm];exact mul_le_mul h2 yw
theorem wds3{ws:List Int}(l1:1<=ws.length)(l4:ws.length<=4)(h:∀x∈ws,1<=x/\x<=3):Wds ws:=by
 refine⟨l1,yw,fun x m=>(h x m).1,fun x m=>by have:=(h x m).2;omega,fv (prod3 h) ?_⟩;have:ws.length=1\/ws.length=2\/ws.length=3\/ws.length=4:=yw
 rcases this with e|e|e|e<;>rw[e]<;>decide
end
section
variable {R:RX}
theorem wG{ps:List Part}{i:Nat}{p:Part}(e:ps[i]?=some p):aE (ps.take (i+1))=aE (ps.take i)*(p.2.2-p.2.1+1).toNat:=by
 unfold aE;rw[gA e,fm,uR];simp[aO]
theorem FV{ps:List Part}(ho:Ord ps)(hs:aE ps<=300)(q:R (.d (.int (aE ps))) []):sO [.d (aM ps)] [] R:=by
 unfold sO;rw[aM];walk_at "d"
 walk_at "n"
 walk_at "n";refine fA (fun i δ S=>∃(u:Option XV),S=[]/\δ=[some (.d (.tuple (ps.map bM))),some (.d (.int (aE (ps.take i)))),u]) ⟨_,rfl,rfl⟩ ?_ ?_
 ·rintro i d _ _ N hi ⟨u,rfl,rfl⟩ hN;obtain⟨p,e,rfl⟩:=gE hi;have op:=ho p (bw e);have l1:=lA ho i;walk_at "d";refine yG ?_;walk_at "d";refine Bb ?_;walk_at "d";refine⟨d9 yw yw,hN _ _ ⟨some (.d (bM p)),rfl,?_⟩⟩;rw[wG e,Int.natCast_mul,Int.toNat_of_nonneg yw]
 ·rintro _ _ ⟨u,rfl,rfl⟩;rw[bq,ld];walk_at "d";exact q
theorem Ed{ps:List Part}(ho:Ord ps)(hs:aE ps<=300)(q:R (.d .none) []):zV [.d (aM ps)] [] R:=by
 unfold zV;walk_at "d"
 walk_at "n"
 refine FV ho hs ?_;walk_at "d";have:¬(300:Int)<(aE ps:Int):=yw
 simp only[this,decide_false];walk_at "d";exact q
theorem D1(p:Part):d7 p.2.1 (p.2.2+1-p.2.1).toNat=(aH p).map bj:=by
 unfold d7 aH rng;rw[ge,show p.2.2+1-p.2.1=p.2.2-p.2.1+1 by omega];rfl
theorem Iz{z:List (List Int)}{p:Part}(hl:(ext z p).length<=1000)(fl:∀a∈z,a.length<=100)(h1:1<=z.length)(q:R (.d (.list ((ext z p).map aN))) []):uW [.d (.list (z.map aN)),.d (.list ((aH p).map bj))] [] R:=by
 unfold uW;walk_at "d"
 walk_at "n"
 walk_at "n";refine fA (fun j δ S=>∃(u:Option XV),S=[(ext (z.take j) p).map aN]/\δ=[some (.d (.list (z.map aN))),some (.d (.list ((aH p).map bj))),some (.l 0),u]) ⟨_,rfl,rfl⟩ ?_ ?_
 ·rintro j d _ _ N hj ⟨u,rfl,rfl⟩ hN;obtain⟨a,ha,rfl⟩:=gE hj;have al:=fl a (bw ha);have ej:ext (z.take (j+1)) p=ext (z.take j) p++(aH p).map fun x=>a++[x]:=by
   rw[gA ha];unfold ext;rw[List.flatMap_append];simp
  have lj:(ext (z.take (j+1)) p).length<=(ext z p).length:=by
   rw[oM,oM,gz];exact Nat.mul_le_mul_right _ yw
  have sm:(ext (z.take j) p).length+(aH p).length<=1000:=by
   rw[ej,bv,bq]at lj;omega
  rw[aN];walk_at "d";refine cmp1 (S0:=[(ext (z.take j) p).map aN]) (fun x:Int=>aN (a++[x])) rfl (aH p) yw ?_ ?_
  ·intro x mx u acc R' hk;walk_at "d";refine⟨yw,?_⟩;rw[E9];exact hk _
  ·walk_at "d";refine⟨sm,hN _ _ ⟨_,?_,rfl⟩⟩;rw[ej,fm,ge];rfl
 ·rintro _ _ ⟨u,rfl,rfl⟩;rw[bq,ld];walk_at "d";exact .inl q
theorem KK{ps:List Part}(ho:Ord ps)(z:ps.length<=100)(hs:aE ps<=300)(q:R (.d (.list ((cD ps).map aN))) []):sD [.d (aM ps)] [] R:=by
 unfold sD;walk_at "d"
 walk_at "n"
 refine Ed ho hs ?_;rw[aM];walk_at "d"
 walk_at "n"
 walk_at "n";refine fA (fun i δ S=>∃(u:Option XV),S=[]/\δ=[some (.d (.tuple (ps.map bM))),some (.d (.list (((ps.take i).foldl ext [[]]).map aN))),u]) ⟨_,rfl,rfl⟩ ?_ ?_
 ·rintro i d _ _ N hi ⟨u,rfl,rfl⟩ hN;obtain⟨p,e,rfl⟩:=gE hi;have op:=ho p (bw e);have l1:=lA ho i;have l2:=lA ho (i+1);have il:i<ps.length:=(List.getElem?_eq_some_iff.mp e).1;have f1:((ps.take i).foldl ext [[]]).length=aE (ps.take i):=by rw[l7];simp
  have nx:(ps.take (i+1)).foldl ext [[]]=ext ((ps.take i).foldl ext [[]]) p:=by rw[gA e,foldl_append];rfl
  have f2:(ext ((ps.take i).foldl ext [[]]) p).length=aE (ps.take (i+1)):=by
   rw[<- nx,l7];simp
  have fl:∀a∈(ps.take i).foldl ext [[]],a.length<=100:=by
   rw[tX];intro a m;have:=(iN.mp m).len;rw[this,gz];omega
  have pos:1<=aE (ps.take i):=tJ fun p m=>ho p (qu m);have pl:(p.2.2+1-p.2.1).toNat<=1000:=by
   have e1:=wG e;have e2:(p.2.2-p.2.1+1).toNat<=aE (ps.take i)*(p.2.2-p.2.1+1).toNat:=Nat.le_mul_of_pos_left _ pos;omega
  rw[lB];walk_at "d";refine⟨pl,?_⟩;rw[D1];refine Iz yw fl yw ?_;walk_at "d";exact hN _ _ ⟨_,rfl,by rw[nx]⟩
 ·rintro _ _ ⟨u,rfl,rfl⟩;rw[bq,ld,tX];walk_at "d";exact q
end
section
variable {R:RX}{S:Sto}
theorem gR(ps:List Part):aM ps=.tuple (ps.map bM):=rfl
theorem FY{g:Gap}{ns:List Int}(h3:Tm3 ns.length g.ts)(q:R (.d (.bool (zT g ns))) []):jS [.d (cR g),.d (aN ns)] [] R:=by
 unfold jS aN;rw[gF,dR];walk_at "d"
 walk_at "n"
 refine cmp2 (S0:=[]) (fun t:Term=>.int (t.2*ns.getD t.1 0)) rfl g.ts (by have:=h3.len;omega) ?_ ?_
 ·intro t mt u v acc R' hk;obtain⟨t1,t2,t3⟩:=h3.ok t mt;have e:=cK (f:=bj) (pQ t1);rw[nX];walk_at "d";refine⟨_,e,?_⟩;walk_at "d";exact⟨d9 yw yw,hk _ _⟩
 ·walk_at "d";refine⟨g.ts.map fun t:Term=>t.2*ns.getD t.1 0,by rw[ge];rfl,?_⟩;have e0:zT g ns=decide (g.lo<=worth g.ts ns/\worth g.ts ns<=g.hi):=rfl;have e1:(g.ts.map fun t:Term=>t.2*ns.getD t.1 0).sum=worth g.ts ns:=rfl;rw[e1];rw[e0]at q;split
  ·rename_i h1;simpa[h1]using q
  ·rename_i h1;simpa[h1]using q
def atC(ns:List Int)(c:List Nat):List Int:=c.map fun k=>ns.getD k 0
def unI:bc->Int
 | .int k=>k
 |_=>0
end
section
variable {R:RX}{S:Sto}
inductive IsPl (ps:List Part):List Nat->Nat->bc->Prop
 |leaf {ms n}{w:Str} (h:w = "breaks"\/w = "keeps"):IsPl ps ms n (.tuple [.str w])
 |node {ms n} (k:Nat) (l:List bc) (hk:k<ps.length) (hm:k∉ms) (hl:(l.length:Int)=phi ps k-plo ps k+1) (h:∀d∈l,IsPl ps (ms++[k]) n d):IsPl ps ms (n+1) (.tuple [.str "measure",.int k,.tuple l])
def nlD(ms:List Nat):bc:=.list (ms.map fun k:Nat=>.int k)
theorem j6{ps:List Part}(ho:Ord ps){k:Nat}(hk:k<ps.length):(phi ps k-plo ps k+1).toNat<=aE ps:=by
 have h1:=lA ho (k+1);rw[wG (eX hk)]at h1;have h2:=tJ (ps:=ps.take k) fun p m=>ho p (qu m);refine fv ?_ h1;exact Nat.le_mul_of_pos_left _ h2
inductive Led (lo:Nat->Int) (one:List Int):bc->List Nat->Str->Prop
 |leaf {w:Str} (h:w = "breaks"\/w = "keeps"):Led lo one (.tuple [.str w]) [] w
 |node {k i:Nat}{l:List bc}{d:bc}{js:List Nat}{w:Str} (hk:k<one.length) (hi:one.getD k 0=lo k+i) (hd:l[i]?=some d) (h:Led lo one d js w):Led lo one (.tuple [.str "measure",.int k,.tuple l]) (k::js) w
theorem IsPl.led{ps:List Part}{q:List Int}(hb:InBox ps q):∀{n:Nat}{ms:List Nat}{d:bc},IsPl ps ms n d->∃js w,Led (plo ps) q d js w/\js.length<=n/\∀j∈js,j<ps.length:=by
 intro n ms d h;induction h with
 |leaf h=>exact⟨[],_,.leaf h,ji _,yv⟩
 | @node ms n k l hk hm hl h ih=>
  obtain⟨b1,b2⟩:=hb.ok k hk;have hi:(q.getD k 0-plo ps k).toNat<l.length:=yw
  obtain⟨js,w,h1,h2,h3⟩:=ih _ (kz hi);refine⟨k::js,w,.node (i:=(q.getD k 0-plo ps k).toNat) (by rw[hb.len];exact hk) yw (bi hi) h1,by simp;omega,fun j mj=>?_⟩;rcases mem_cons.mp mj with rfl|mj
  ·exact hk
  ·exact h3 j mj
theorem Jp{ps:List Part}{aa:List Int}{d:bc}{js:List Nat}{w:Str}(hL:Led (plo ps) aa d js w)(hj:∀j∈js,j<ps.length)(hl:js.length<=100)(q:R (.d (.tuple [nlD js,.str w])) []):Ew [.d d,.d (aM ps),.d (aN aa)] [] R:=by
 unfold Ew;walk_at "d";walk_at "n";walk_at "n";refine⟨fun m δ S=>∃(d:bc) (j0 j1:List Nat),Led (plo ps) aa d j1 w/\j0++j1=js/\m=j1.length/\S=[j0.map fun k:Nat=>.int k]/\δ=[some (.d d),some (.d (aM ps)),some (.d (aN aa)),some (.l 0)],⟨_,d,[],js,hL,rfl,rfl,rfl,rfl⟩,?_⟩;rintro m _ _ ⟨d,j0,j1,h1,h2,rfl,rfl,rfl⟩;cases h1 with
 |leaf h=>
  walk_at "d";rw[gl]at h2;rw[h2];exact q
 | @node k i l d js' _ hk hi hd h=>
  walk_at "d";have kp:=hj k (by rw[<- h2];simp);have lj:j0.length+(js'.length+1)=js.length:=by rw[<- h2,bv,cw]
  have ep:=cK (f:=bM) (eX kp);have eo:=cK (f:=bj) (pQ (ns:=aa) (k:=k) hk);refine⟨fun δ' S'=>∃m',m'<js'.length+1/\∃(d:bc) (j0 j1:List Nat),Led (plo ps) aa d j1 w/\j0++j1=js/\m'=j1.length/\S'=[j0.map fun k:Nat=>.int k]/\δ'=[some (.d d),some (.d (aM ps)),some (.d (aN aa)),some (.l 0)],fun _ _ z=>z,?_⟩;rw[gR,aN];walk_at "n";refine⟨yw,?_⟩;refine⟨_,eo,_,ep,?_⟩;rw[lB];walk_at "d";have e1:(part ps k).2.1=plo ps k:=rfl;have ei:aa.getD k 0-(part ps k).2.1=i:=by rw[e1];omega
  rw[ei];exact⟨d,fR hd,js'.length,yw,d,j0++[k],js',h,by rw[<- h2];simp,rfl,by rw[fm];rfl,rfl⟩
theorem FZ{ps:List Part}{aa:List Int}{d:bc}{js:List Nat}{w:Str}(hL:Led (plo ps) aa d js w)(hj:∀j∈js,j<ps.length)(hl:js.length<=100)(q:R (.d (.tuple [nlD js,.str w])) []):sR [.d d,.d (aM ps),.d (aN aa)] [] R:=by
 unfold sR;walk_at "d";walk_at "n";walk_at "n";walk_at "n";refine⟨fun m δ S=>∃(d':bc) (j0 j1:List Nat) (u:Option XV),Led (plo ps) aa d' j1 w/\j0++j1=js/\m=j1.length/\S=[j0.map fun k:Nat=>.int k]/\δ=[some (.d d),some (.d (aM ps)),some (.d (aN aa)),some (.l 0),some (.d d'),u],⟨_,d,[],js,none,hL,rfl,rfl,rfl,rfl⟩,?_⟩;rintro m _ _ ⟨d',j0,j1,u,h1,h2,rfl,rfl,rfl⟩;cases h1 with
 |leaf h=>
  walk_at "d";rw[gl]at h2;have hn:ci (.str w)=true/\(kh w).eqv (.str "measure")=false:=by rcases h with rfl|rfl<;>exact⟨by decide +kernel,by decide +kernel⟩
  refine⟨hn.1,by decide +kernel,?_⟩;rw[ck (by rw[hn.2];exact gw),h2];exact q
 | @node k i l d2 js' _ hk hi hd h=>
  walk_at "d";have kp:=hj k (by rw[<- h2];simp);have lj:j0.length+(js'.length+1)=js.length:=by rw[<- h2,bv,cw]
  have ep:=cK (f:=bM) (eX kp);have eo:=cK (f:=bj) (pQ (ns:=aa) (k:=k) hk);refine⟨by decide +kernel,by decide +kernel,?_⟩;rw[cq (by decide +kernel)];refine⟨fun δ' S'=>∃m',m'<js'.length+1/\∃(d':bc) (j0 j1:List Nat) (u:Option XV),Led (plo ps) aa d' j1 w/\j0++j1=js/\m'=j1.length/\S'=[j0.map fun k:Nat=>.int k]/\δ'=[some (.d d),some (.d (aM ps)),some (.d (aN aa)),some (.l 0),some (.d d'),u],fun _ _ z=>z,?_⟩;rw[gR,aN];walk_at "n";walk_at "n";refine⟨yw,?_⟩;refine⟨_,eo,_,ep,?_⟩;rw[lB];walk_at "d";have e1:(part ps k).2.1=plo ps k:=rfl;have ei:aa.getD k 0-(part ps k).2.1=i:=by rw[e1];omega
  rw[ei];exact⟨d2,fR hd,js'.length,yw,d2,j0++[k],js',_,h,by rw[<- h2];simp,rfl,by rw[fm];rfl,rfl,rfl⟩
theorem cmp1p{n:Nat}{S0:Sto}{g:DG}{te:DE}{fin:Sto->Prop}{caps:XE}(f:bc->bc)(hn:S0.length=n)(l:List bc){u:Option XV}(hl:l.length<=1000)
  (el:∀x∈l,∀(u:Option XV) acc (R:XE->RX),(∀u',R (u'::caps) (.d (f x)) (S0++[acc]))->g (.d x) (u::caps) (S0++[acc]) fun τ1 S1=>te τ1 S1 (R τ1)) (hf:fin (S0++[l.map f])):bF n g aC te fin l (u::caps) (S0++[[]]):=by
 have:=cmp1 (h:=fun d:bc=>d) (g:=g) (te:=te) (fin:=fin) (caps:=caps) (u:=u) f hn l hl el hf
 rwa [List.map_id']at this
def mxN(l:List Nat):Nat:=l.foldl max 0
theorem kP:∀(l:List Nat) (a:Nat),a<=l.foldl max a/\(∀x∈l,x<=l.foldl max a)/\(l.foldl max a=a\/l.foldl max a∈l)
 | [],a=>⟨cz _,yv,.inl rfl⟩
 |x::l,a=>by
  obtain⟨h1,h2,h3⟩:=kP l (max a x);refine⟨by rw[qx];omega,fun y my=>?_,?_⟩
  ·rw[qx];rcases mem_cons.mp my with rfl|my
   ·omega
   ·exact h2 y my
  ·rw[qx];rcases h3 with h3|h3
   ·rw[h3];by_cases z:a<=x
    ·exact .inr (by rw[Nat.max_eq_right z];exact br)
    ·exact .inl yw
   ·exact .inr (bp _ h3)
theorem uI{l:List Nat}{m:Int}(h1:∃x∈l,m=(x:Nat))(h2:∀a∈l,((a:Nat):Int)<=m):m=(mxN l:Nat):=by
 obtain⟨x,mx,rfl⟩:=h1;obtain⟨_,g2,g3⟩:=kP l 0;have a1:=g2 x mx;unfold mxN;rcases g3 with g3|g3
 ·omega
 ·have:=h2 _ g3;omega
def dpF:Nat->bc->Nat
 |n+1,.tuple [_,_,.tuple l]=>1+mxN (l.map (dpF n))
 |_,_=>0
theorem AW{ps:List Part}(ho:Ord ps)(hw:∀k,k<ps.length->(phi ps k-plo ps k+1)<=300):∀{f n:Nat}{ms:List Nat}{d:bc}{R:RX},IsPl ps ms n d->n<f->R (.d (.int (dpF n d))) []->k7 f [.d d] [] R
 | 0,n,ms,d,R,_,h,_=>by omega
 |f+1,n,ms,d,R,hp,h,q=>by
  rw[k7];cases hp with
  | @leaf _ _ w hw=>
   walk_at "n";have e:dpF n (.tuple [.str w])=0:=by cases n<;>rfl
   rw[e]at q;exact q
  | @node _ n k l hk hm hl hc=>
   have:=ho.at hk;have:=hw k hk;walk_at "n";refine cmp1p (S0:=[]) (fun d=>.int (dpF n d)) rfl l yw ?_ ?_
   ·intro d md u acc R' z;walk_at "d";refine AW ho hw (hc d md) yw ?_;walk_at "d";exact z _
   ·walk_at "d";refine⟨_,rfl,l.map fun d=>((dpF n d:Nat):Int),by rw[ge];rfl,?_,fun m m1 m2=>?_⟩
    ·intro e;have:=congrArg List.length e;rw[bq,qd]at this;omega
    ·walk_at "d";have em:m=(mxN (l.map (dpF n)):Nat):=by
      refine uI (l:=l.map (dpF n)) ?_ fun a ma=>?_
      ·obtain⟨d,md,rfl⟩:=mem_map.mp m1;exact⟨_,mem_map.mpr ⟨d,md,rfl⟩,rfl⟩
      ·obtain⟨d,md,rfl⟩:=mem_map.mp ma;exact m2 _ (mem_map.mpr ⟨d,md,rfl⟩)
     have e2:((dpF (n+1) (.tuple [.str "measure",.int k,.tuple l]):Nat):Int)=1+m:=by rw[em];exact Int.natCast_add _ _
     rw[e2]at q;exact q
theorem CW:∀{xs ys:List bc},(∀x∈xs,∀y∈ys,cv x y=true->x=y)->iz xs ys=true->xs=ys
 | [],[],_,_=>rfl
 | [],_::_,_,h=>by simp[iz]at h
 |_::_,[],_,h=>by simp[iz]at h
 |x::xs,y::ys,f,h=>by
  simp only[iz,fu]at h;rw[f x br y br h.1,CW (fun a ma b mb=>f a (bp _ ma) b (bp _ mb)) h.2]
theorem IsPl.eqv{ps:List Part}:∀{n ms x},IsPl ps ms n x->∀{n' q y},IsPl ps q n' y->cv x y=true->x=y:=by
 intro n ms x h;induction h with
 | @leaf _ _ w _=>
  intro n' q y hy e;cases hy with
  | @leaf _ _ v _=>
   simp only[cv,iz,qp]at e;rw[eq_of_beq e]
  |node k l=>simp[cv,iz]at e
 | @node _ n k l _ _ _ _ ih=>
  intro n' q y hy e;cases hy with
  |leaf=>simp[cv,iz]at e
  | @node _ _ k' l' _ _ _ h'=>
   simp only[cv,iz,qp,fu]at e;obtain⟨_,e1,e2⟩:=e;have ek:(k:Int)=k':=by simpa using e1
   rw[ek,CW (fun x mx y my z=>ih x mx (h' y my) z) e2]
theorem DU{n:Nat}{z:Str}(h:PyData.strOk z=true):Shp n (.str z):=⟨h,ji _⟩
theorem IsPl.shp{ps:List Part}{n:Nat}{ms:List Nat}{d:bc}(h:IsPl ps ms n d):Shp (2*n+1) d:=by
 induction h with
 |leaf h=>
  refine nO fun d md=>?_;rw[mem_singleton.mp md];rcases h with rfl|rfl<;>exact DU (by decide +kernel)
 | @node _ n k l _ _ _ _ ih=>
  refine nO fun d md=>?_;simp only[jd,gq,or_false]at md;rcases md with rfl|rfl|rfl
  ·exact DU (by decide +kernel)
  ·exact j5
  ·exact nO (n:=2*n+1) ih
theorem JS{ps:List Part}{ms:List Nat}{n:Nat}{l:List bc}(hl:l.length<=300)(hn:n<=8)(h:∀d∈l,IsPl ps ms n d)(q:∀us:List bc,(∀x,x∈us↔x∈l)->us.length<=l.length->R (.d (.list us)) []):rR [.d (.tuple l)] [] R:=by
 unfold rR;walk_at "d"
 walk_at "n"
 walk_at "n";refine fA (fun i δ S=>∃(us:List bc) (u:Option XV),(∀x,x∈us↔x∈l.take i)/\us.length<=i/\S=[us]/\δ=[some (.d (.tuple l)),some (.l 0),u]) ⟨[],_,yv,cz _,rfl,rfl⟩ ?_ ?_
 ·rintro i d _ _ N hi ⟨us,u,hu,aa,rfl,rfl⟩ hN;have md:=bw hi;have il:i<l.length:=(List.getElem?_eq_some_iff.mp hi).1;have hd:=h d md;have ab:∀x∈us,IsPl ps ms n x:=fun x mx=>h x (qu ((hu x).mp mx));have s1:ci d=true:=hd.shp.ok yw;have s2:ci (.list us)=true:=(o8 fun x mx=>(ab x mx).shp).ok yw;walk_at "d";refine⟨s1,s2,?_⟩;by_cases z:d∈us
  ·rw[show (us.any fun y=>cv y d)=true from any_eq_true.mpr ⟨d,z,SeqAt.eqv_refl d hd.shp.1⟩];refine hN _ _ ⟨us,_,fun x=>?_,yw,rfl,rfl⟩;rw[gA hi,oj,ni,<- hu x];exact⟨.inl,fun c=>c.elim id fun e=>e▸z⟩
  ·rw[show (us.any fun y=>cv y d)=false from any_eq_false.mpr fun y my e=>z ((ab y my).eqv hd e▸my)];refine⟨yw,hN _ _ ⟨us++[d],_,fun x=>?_,by simp;omega,rfl,rfl⟩⟩;rw[gA hi,oj,oj,<- hu x]
 ·rintro _ _ ⟨us,u,hu,aa,rfl,rfl⟩;rw[ld]at hu;walk_at "d";exact .inl (q us hu aa)
theorem Cl:∀{l:List Nat},(∀x∈l,1<=x)->l.sum<=aO l+l.length
 | [],_=>by simp
 |x::l,h=>by
  have h1:=h x br;have h2:=Cl fun y m=>h y (bp x m);have h3:1<=aO l:=qL fun y m=>h y (bp x m);have h4:x+aO l<=x*aO l+1:=by
   obtain⟨a,rfl⟩:∃a,x=a+1:=⟨x-1,yw⟩;obtain⟨b,hb⟩:∃b,aO l=b+1:=⟨aO l-1,yw⟩;rw[hb,Nat.mul_add,add_mul];omega
  have h5:aO (x::l)=x*aO l:=rfl;rw[sum_cons,cw,h5];omega
theorem uO{f:Nat->Nat}:∀{n:Nat}{ms:List Nat},ms.Nodup->(∀j∈ms,j<n)->(ms.map f).sum<=((dm n).map f).sum
 | 0,[],_,_=>by simp
 | 0,j::ms,_,h=>by have:=h j br;omega
 |n+1,ms,hd,h=>by
  rw[List.range_succ,fm,qh,ix,oq];by_cases z:n∈ms
  ·have p:=(List.perm_cons_erase z).map f;rw[p.sum_nat,ft,sum_cons];have:=uO (f:=f) (n:=n) (hd.erase n) fun j mj=>by
    have h1:=h j (List.mem_of_mem_erase mj);have h2:j≠n:=fun e=>((List.Nodup.mem_erase_iff hd).mp (e▸mj)).1 rfl;omega
   omega
  ·have:=uO (f:=f) (n:=n) hd fun j mj=>by
    have h1:=h j mj;have h2:j≠n:=fun e=>z (e▸mj);omega
   omega
def wdN(ps:List Part)(k:Nat):Nat:=(phi ps k-plo ps k+1).toNat
theorem B8{ps:List Part}(ho:Ord ps)(hz:aE ps<=300)(h8:ps.length<=8){ms:List Nat}(hd:ms.Nodup)(h:∀j∈ms,j<ps.length):(ms.map (wdN ps)).sum<=308:=by
 have h1:=uO (f:=wdN ps) hd h;have e:(dm ps.length).map (wdN ps)=ps.map fun p=>(p.2.2-p.2.1+1).toNat:=by
  refine List.ext_getElem? fun i=>?_;rw[fh,fh];by_cases hi:i<ps.length
  ·rw[qe hi,eX hi];rfl
  ·rw[getElem?_eq_none (by simpa using hi),getElem?_eq_none yw];rfl
 have h2:=Cl (l:=ps.map fun p=>(p.2.2-p.2.1+1).toNat) fun x m=>by
  obtain⟨p,mp,rfl⟩:=mem_map.mp m;have:=ho p mp;omega
 rw[e]at h1;rw[bq]at h2;have h3:aO (ps.map fun p=>(p.2.2-p.2.1+1).toNat)=aE ps:=rfl;omega
structure En where
 n:Nat
 ms:List Nat
 d:bc
 k:Nat
def enD(e:En):bc:=.tuple [e.d,.int e.k]
structure EnOk(ps:List Part)(e:En):Prop where
 pl:IsPl ps e.ms e.n e.d
 n8:e.n<=8
 k8:e.k+e.n<=8
 nd:e.ms.Nodup
 lt:∀j∈e.ms,j<ps.length
def enV(e:En):Nat:=e.k+dpF e.n e.d
theorem wB{α:Type}{f:α->Nat}{b:Nat}:∀{l:List α},(∀x∈l,f x<=b)->(l.map f).sum<=l.length*b
 | [],_=>by simp
 |x::l,h=>by
  have h1:=h x br;have h2:=wB (l:=l) fun y m=>h y (bp x m);rw[ft,sum_cons,cw,add_mul];omega
theorem v0:∀(l:List Nat) (a:Nat),l.foldl max a=max a (l.foldl max 0)
 | [],a=>by simp
 |x::l,a=>by
  rw[qx,qx,v0 l (max a x),v0 l (max 0 x)];omega
theorem Bz(a b:List Nat):mxN (a++b)=max (mxN a) (mxN b):=by
 unfold mxN;rw[foldl_append,v0]
theorem Kc(a:Nat):mxN [a]=a:=by simp[mxN]
theorem Hn{f:bc->Nat}{c:Nat}{us l:List bc}(hu:∀x,x∈us↔x∈l)(hl:l≠[]):mxN (us.map fun x=>c+f x)=c+mxN (l.map f):=by
 obtain⟨_,g2,g3⟩:=kP (l.map f) 0;have e:∃x∈l,mxN (l.map f)=f x:=by
  rcases g3 with g3|g3
  ·obtain⟨x,mx⟩:=List.exists_mem_of_ne_nil _ hl;have:=g2 _ (mem_map.mpr ⟨x,mx,rfl⟩);exact⟨x,mx,by unfold mxN;omega⟩
  ·obtain⟨x,mx,ex⟩:=mem_map.mp g3;exact⟨x,mx,ex.symm⟩
 obtain⟨x,mx,ex⟩:=e;have:=uI (l:=us.map fun x=>c+f x) (m:=((c+mxN (l.map f):Nat):Int)) ⟨_,mem_map.mpr ⟨x,(hu x).mpr mx,rfl⟩,by rw[ex]⟩ fun a ma=>by
  obtain⟨y,my,rfl⟩:=mem_map.mp ma;have h:=g2 _ (mem_map.mpr ⟨y,(hu y).mp my,rfl⟩);have h':f y<=mxN (l.map f):=h;omega
 omega
theorem Lb{ps:List Part}(ho:Ord ps)(hz:aE ps<=300)(h8:ps.length<=8){n:Nat}(hn:n<=8){d:bc}(hd:IsPl ps [] n d)(q:R (.d (.int (dpF n d))) []):lM [.d d] [] R:=by
 unfold lM;walk_at "d"
 walk_at "n"
 walk_at "n";walk_at "n";refine⟨fun m δ S=>∃(st:List En) (best:Nat) (u:Option XV),(∀e∈st,EnOk ps e)/\(∀(p:Nat) e,st[p]?=some e->p<=(e.ms.map (wdN ps)).sum)/\max best (mxN (st.map enV))=dpF n d/\m=(st.map fun e=>301 ^ e.n).sum/\S=[st.map enD]/\δ=[some (.d d),some (.d (.int best)),some (.l 0),u],⟨_,[⟨n,[],d,0⟩],0,none,?_,?_,?_,rfl,rfl,rfl⟩,?_⟩
 ·intro e me;rw[mem_singleton.mp me];exact⟨hd,hn,by simpa using hn,yv,yv⟩
 ·intro p e hp;have:p<1:=(List.getElem?_eq_some_iff.mp hp).1;omega
 ·simp[enV,mxN]
 rintro m _ _ ⟨st,best,u,h1,h2,h3,rfl,rfl,rfl⟩;rcases List.eq_nil_or_concat st with rfl|⟨st,e,rfl⟩
 ·walk_at "d";have e0:best=dpF n d:=by rw[<- h3];simp[mxN]
  rw[e0];exact q
 ·rw[List.concat_eq_append]at h1 h2 h3 ⊢;rw[fm,ix];walk_at "d";rw[cq yv];have he:=h1 e yv;have pe:=h2 st.length e yv;have hw:=B8 ho hz h8 he.nd he.lt;have ag:∀(ac:List En) (ab:Nat),(∀x∈ac,EnOk ps x/\(e.ms.map (wdN ps)).sum+ac.length<=(x.ms.map (wdN ps)).sum/\x.n+1=e.n)->ac.length<=300->max ab (mxN (ac.map enV))=max best (enV e)->best<=ab ->
    ∃m',m'<((st++[e]).map fun e=>301 ^ e.n).sum/\∃(aa:List En) (best2:Nat),(∀e∈aa,EnOk ps e)/\(∀(p:Nat) e,aa[p]?=some e->p<=(e.ms.map (wdN ps)).sum)/\max best2 (mxN (aa.map enV))=dpF n d/\m'=(aa.map fun e=>301 ^ e.n).sum/\(st++ac).map enD=aa.map enD/\ab=best2:=by
   intro ac ab af hl ak hb;refine⟨_,?_,st++ac,ab,fun x mx=>?_,fun p x hp=>?_,?_,rfl,rfl,rfl⟩
   ·rw[fm,fm,qh,qh,ix,oq];have a1:(ac.map fun x=>301 ^ x.n).sum<=ac.length*301 ^ (e.n-1):=wB fun x mx=>by
     have:=(af x mx).2.2;rw[show x.n=e.n-1 by omega];exact cz _
    have a2:0<301 ^ (e.n-1):=Nat.pow_pos dz;have a3:ac.length*301 ^ (e.n-1)<=300*301 ^ (e.n-1):=Nat.mul_le_mul_right _ hl;by_cases z:ac=[]
    ·subst z;have:0<301 ^ e.n:=Nat.pow_pos dz;simp;omega
    ·obtain⟨x,mx⟩:=List.exists_mem_of_ne_nil _ z;have:=(af x mx).2.2;have a4:301 ^ e.n=301*301 ^ (e.n-1):=by rw[<- Nat.pow_succ'];congr 1;omega
     omega
   ·rcases mem_append.mp mx with mx|mx
    ·exact h1 x (by simp[mx])
    ·exact(af x mx).1
   ·by_cases z:p<st.length
    ·refine h2 p x ?_;rw[dj z]at hp ⊢;exact hp
    ·have lp:=(List.getElem?_eq_some_iff.mp hp).1;rw[bv]at lp;rw[jj yw]at hp;have:=(af x (bw hp)).2.1;omega
   ·rw[<- h3,fm,fm,Bz,Bz,ix,Kc];omega
  refine⟨fun δ' S'=>∃m',m'<((st++[e]).map fun e=>301 ^ e.n).sum/\∃(aa:List En) (best2:Nat) (u2:Option XV),(∀e∈aa,EnOk ps e)/\(∀(p:Nat) e,aa[p]?=some e->p<=(e.ms.map (wdN ps)).sum)/\max best2 (mxN (aa.map enV))=dpF n d/\m'=(aa.map fun e=>301 ^ e.n).sum/\S'=[aa.map enD]/\δ'=[some (.d d),some (.d (.int best2)),some (.l 0),u2],?_,?_⟩
  ·intro δ' S' z;exact z
  have eg:(st.map enD++[enD e])[st.length+1-1]?=some (enD e):=by simp
  walk_at "n"
  refine⟨_,eg,?_⟩;obtain⟨en,ae,ed,ek⟩:=e;have ai:IsPl ps ae en ed:=he.pl;have ee:enD ⟨en,ae,ed,ek⟩=.tuple [ed,.int ek]:=rfl;rw[ee];refine seq1 ?_;cases ai with
  | @leaf _ _ w h=>
   walk_at "d";have hn:ci (.str w)=true/\(kh w).eqv (.str "measure")=false:=by rcases h with rfl|rfl<;>exact⟨by decide +kernel,by decide +kernel⟩
   refine⟨hn.1,by decide +kernel,?_⟩;rw[ck (by rw[hn.2];exact gw)];have e0:dpF en (.tuple [.str w])=0:=by cases en<;>rfl
   obtain⟨m',a,aa,b2,c1,c2,c3,c4,c5,c6⟩:=ag [] (max best ek) yv yv (by simp[enV,e0,mxN]) yw;refine⟨m',a,aa,b2,_,c1,c2,c3,c4,?_,?_,rfl⟩
   ·rw[List.dropLast_concat,<- c5,gl]
   ·rw[<- c6];split<;>omega
  | @node _ n' k l hk hm hl hc=>
   have w1:=j6 ho hk;have w2:=ho.at hk;walk_at "d";refine⟨by decide +kernel,by decide +kernel,?_⟩;rw[cq (by decide +kernel)];have n8:=he.n8;refine JS (ps:=ps) (ms:=ae++[k]) (n:=n') yw (by simpa using Nat.le_of_succ_le n8) hc fun us hu aj=>?_;walk_at "d";rw[List.dropLast_concat];refine cmp1p (S0:=[st.map enD]) (fun x=>.tuple [x,.int (ek+1)]) rfl us yw ?_ ?_
   ·intro x mx u acc R' ah;walk_at "d";exact ah _
   ·walk_at "d";have kk:=he.k8;have lw:(((ae++[k]).map (wdN ps)).sum)=(ae.map (wdN ps)).sum+wdN ps k:=by rw[fm,qh,ix,oq]
    have lk:l.length<=wdN ps k:=by unfold wdN;omega
    have sl:st.length<=308:=fv pe hw;obtain⟨m',a,aa,b2,c1,c2,c3,c4,c5,c6⟩:=ag (us.map fun x=>⟨n',ae++[k],x,ek+1⟩) (max best ek) (fun x mx=>by
     obtain⟨y,my,rfl⟩:=mem_map.mp mx;refine⟨⟨hc y ((hu y).mp my),?_,?_,?_,fun j mj=>?_⟩,?_,rfl⟩
     ·show n'<=8;simp at n8;omega
     ·show ek+1+n'<=8;simp at kk;omega
     ·rw[nodup_append];exact⟨he.nd,yv,fun a ma b mb e=>by rw[mem_singleton.mp mb]at e;rw[e]at ma;exact hm ma⟩
     ·rcases mem_append.mp mj with mj|mj
      ·exact he.lt j mj
      ·rw[mem_singleton.mp mj];exact hk
     ·show (ae.map (wdN ps)).sum+(us.map _).length<=((ae++[k]).map (wdN ps)).sum;rw[lw,bq];omega) (by rw[bq];omega) (by
     have ln:l≠[]:=fun e=>by rw[e]at hl;simp at hl;omega
     have em:=Hn (f:=dpF n') (c:=ek+1) hu ln;rw[ge];have e1:enV ⟨n'+1,ae,.tuple [.str "measure",.int k,.tuple l],ek⟩=ek+(1+mxN (l.map (dpF n'))):=rfl;have e2:mxN (us.map (enV∘fun x=>(⟨n',ae++[k],x,ek+1⟩:En)))=ek+1+mxN (l.map (dpF n')):=em;rw[e1,e2];omega) yw
    refine⟨?_,m',a,aa,b2,_,c1,c2,c3,c4,?_,?_,rfl⟩
    ·omega
    ·rw[<- c5,fm,ge];rfl
    ·rw[<- c6];split<;>omega
end
section
variable {R:RX}{S:Sto}
theorem IsPl.weak{ps:List Part}:∀{n ms d},IsPl ps ms n d->∀{q n'},(∀k∈q,k∈ms)->n<=n'->IsPl ps q n' d:=by
 intro n ms d h;induction h with
 |leaf h=>intro q n' _ _;exact .leaf h
 | @node n ms k l hk hm hl h ih=>
  intro q n' h1 h2;obtain⟨n',rfl⟩:∃m,n'=m+1:=⟨n'-1,yw⟩;refine .node k l hk (fun z=>hm (h1 k z)) hl fun d md=>ih d md (fun j mj=>?_) yw;rcases mem_append.mp mj with mj|mj
  ·exact cu _ (h1 j mj)
  ·exact cp _ mj
abbrev PlT:=Nat×bc
def ptD(x:PlT):bc:=.tuple [.int x.1,x.2]
theorem kF(x:PlT):ptD x=.tuple [.int x.1,x.2]:=rfl
def lfW(g:Gap)(w:Int):Str:=if g.lo<=w/\w<=g.hi then "keeps" else "breaks"
theorem yM(g:Gap)(w:Int):lfW g w = "breaks"\/lfW g w = "keeps":=by
 unfold lfW;split
 ·exact .inr rfl
 ·exact .inl rfl
def lf(g:Gap)(w:Int):PlT:=(0,.tuple [.str (lfW g w)])
def fB:List PlT->PlT
 | []=>(0,.none)
 |x::r=>if (r.isEmpty||decide (x.1<=(fB r).1))=true then x else fB r
theorem tQ(x:PlT)(r:List PlT):fB (x::r)=if (r.isEmpty||decide (x.1<=(fB r).1))=true then x else fB r:=rfl
theorem vP:∀{l:List PlT},l≠[]->fB l∈l
 | [],h=>absurd rfl h
 |x::r,_=>by
  rw[tQ];split
  ·exact br
  ·rename_i h;refine bp _ (vP fun z=>h ?_);rw[z];rfl
theorem A7:∀{l:List PlT}{y:PlT},y∈l->(fB l).1<=y.1
 | [],_,m=>nomatch m
 |x::r,y,m=>by
  rw[tQ];have ih:=fun z=>A7 (l:=r) (y:=y) z;split
  ·rename_i h;rcases mem_cons.mp m with z|z
   ·rw[z];exact cz _
   ·rw[Bool.or_eq_true,decide_eq_true_eq]at h;rcases h with h|h
    ·rw[List.isEmpty_iff.mp h]at z;cases z
    ·exact fv h (ih z)
  ·rename_i h;rcases mem_cons.mp m with z|z
   ·rw[z];rw[Bool.or_eq_true,decide_eq_true_eq]at h;have:¬ x.1<=(fB r).1:=fun a=>h (.inr a);omega
   ·exact ih z
theorem Au:∀{pre:List PlT}{d:PlT}{post:List PlT},(∀a∈pre,d.1<a.1)->(∀a∈post,d.1<=a.1)->fB (pre++d::post)=d
 | [],d,post,_,h=>by
  rw[nil_append,tQ,cq];cases post with
  |nil=>rfl
  |cons a b=>
   have:=h _ (vP (l:=a::b) yv);simp[this]
 |a::pre,d,post,h1,h2=>by
  have e:=Au (pre:=pre) (d:=d) (post:=post) (fun x m=>h1 x (bp _ m)) h2;have:=h1 a br;rw[cons_append,tQ,e,ck];simp;omega
def aW(ts:List Term)(i:Nat):List Term:=ts.take i++ts.drop (i+1)
def join(p:Nat)(fs:List PlT):PlT:=if (fs.all fun y=>cv (ptD y) (ptD (fs.headD (0,.none))))=true then fs.headD (0,.none)else (mxN (fs.map (·.1))+1,.tuple [.str "measure",.int p,.tuple (fs.map (·.2))])
def meas(ps:List Part)(f:List Term->Int->PlT)(ts:List Term)(w:Int)(t:Term)(i:Nat):PlT:=join t.1 ((aH (part ps t.1)).map fun x=>f (aW ts i) (w+t.2*x))
def t0:Term:=(0,0)
def best(ps:List Part)(g:Gap)(f:List Term->Int->PlT)(ts:List Term)(w:Int):PlT:=if ts.isEmpty=true then lf g w else fB ((dm ts.length).map fun i=>meas ps f ts w (ts.getD i t0) i)
def plF(ps:List Part)(g:Gap):Nat->List Term->Int->PlT
 | 0=>fun _ w=>lf g w
 |n+1=>best ps g (plF ps g n)
def plT(ps:List Part)(g:Gap)(ts:List Term)(w:Int):PlT:=plF ps g ts.length ts w
theorem l5{ts:List Term}{i:Nat}(h:i<ts.length):(aW ts i).length=ts.length-1:=by
 unfold aW;rw[bv,gz,qz];omega
theorem xW{ps:List Part}{g:Gap}{ts:List Term}{w:Int}(h:ts≠[]):plT ps g ts w=fB ((dm ts.length).map fun i=>meas ps (plT ps g) ts w (ts.getD i t0) i):=by
 unfold plT;obtain⟨n,hn⟩:∃n,ts.length=n+1:=⟨ts.length-1,by have:=List.length_pos_iff.mpr h;omega⟩;rw[hn];show best ps g (plF ps g n) ts w=_;unfold best;rw[ck (by rw[List.isEmpty_iff];exact h),hn];congr 1;refine nv fun i mi=>?_;have:=mem_range.mp mi;unfold meas;congr 1;refine nv fun x _=>?_;show plF ps g n _ _=plF ps g (aW ts i).length _ _;rw[l5 yw,show ts.length-1=n by omega]
theorem vC{ts:List Term}{i:Nat}{t:Term}(e:ts[i]?=some t):ts=ts.take i++t::ts.drop (i+1):=by
 have h:=(List.getElem?_eq_some_iff.mp e).1;have e2:ts[i]=t:=by
  rw[bi h]at e;exact gb e
 conv=>lhs;rw[<- nt i ts,kr h,e2]
theorem vJ{ts:List Term}{i:Nat}{t:Term}(e:ts[i]?=some t)(q:List Int):worth ts q=t.2*q.getD t.1 0+worth (aW ts i) q:=by
 conv=>lhs;rw[vC e]
 unfold worth aW;rw[fm,fm,qh,qh,ft,sum_cons];omega
structure TsOk(n:Nat)(ts:List Term):Prop where
 ok:∀t∈ts,t.1<n
 srt:ts.Pairwise fun t u=>t.1<u.1
theorem TsOk.sub{n:Nat}{ts us:List Term}(h:TsOk n ts)(s:us.Sublist ts):TsOk n us:=⟨fun t m=>h.ok t (s.subset m),h.srt.sublist s⟩
theorem lU{ts:List Term}{i:Nat}{t:Term}(e:ts[i]?=some t):(aW ts i).Sublist ts:=by
 conv=>rhs;rw[vC e]
 exact List.Sublist.append (List.Sublist.refl _) (List.sublist_cons_self ..)
theorem TsOk.cut{n:Nat}{ts:List Term}{i:Nat}{t:Term}(h:TsOk n ts)(e:ts[i]?=some t):TsOk n (aW ts i):=h.sub (lU e)
theorem TsOk.ne{n:Nat}{ts:List Term}{i:Nat}{t u:Term}(h:TsOk n ts)(e:ts[i]?=some t)(m:u∈aW ts i):u.1≠t.1:=by
 have hs:=h.srt;rw[vC e,List.pairwise_append]at hs;obtain⟨_,h2,h3⟩:=hs;rcases mem_append.mp m with m|m
 ·have:=h3 u m t br;omega
 ·have:=(pairwise_cons.mp h2).1 u m;omega
structure GoodP(ps:List Part)(g:Gap)(ts:List Term)(w:Int)(x:PlT):Prop where
 pl:∀ms,(∀t∈ts,t.1∉ms)->IsPl ps ms x.1 x.2
 dp:∀m,x.1<=m->dpF m x.2=x.1
 led:∀one,InBox ps one->∃js,Led (plo ps) one x.2 js (lfW g (w+worth ts one))
theorem La(ps:List Part)(g:Gap)(w:Int):GoodP ps g [] w (lf g w):=
 ⟨fun ms _=>.leaf (yM g w),fun m _=>by cases m<;>rfl,fun q _=>⟨[],by
  rw[show w+worth [] q=w by simp[worth]];exact .leaf (yM g w)⟩⟩
theorem IM{ps:List Part}{ms q:List Nat}{x y:PlT}(hx:IsPl ps ms x.1 x.2)(hy:IsPl ps q y.1 y.2)(e:cv (ptD x) (ptD y)=true):x=y:=by
 rw[kF,kF]at e;simp only[cv,iz,qp,fu]at e;obtain⟨e1,e2⟩:=e;have:(x.1:Int)=(y.1:Int):=by simpa using e1
 exact Prod.ext yw (hx.eqv hy e2)
theorem E1{ps:List Part}{ms:List Nat}{x:PlT}(hx:IsPl ps ms x.1 x.2):Shp (2*x.1+2) (ptD x):=by
 refine nO fun d md=>?_;simp only[jd,gq,or_false]at md;rcases md with rfl|rfl
 ·exact j5
 ·exact hx.shp
theorem mX{p:Part}{x:Int}(h:p.2.1<=p.2.2):x∈aH p↔p.2.1<=x/\x<=p.2.2:=by
 unfold aH;rw[rT];omega
theorem y6{p:Part}(h:p.2.1<=p.2.2):∃r,aH p=p.2.1::r:=by
 unfold aH rng;obtain⟨n,hn⟩:∃n,(p.2.2-p.2.1+1).toNat=n+1:=⟨(p.2.2-p.2.1).toNat,yw⟩;rw[hn,List.range_succ_eq_map,ft];exact⟨_,by rw[show p.2.1+((0:Nat):Int)=p.2.1 by omega]⟩
theorem JZ{p:Part}{i:Nat}(h:p.2.1+i<=p.2.2):(aH p)[i]?=some (p.2.1+i):=by
 unfold aH rng;rw[fh,qe yw];rfl
theorem vG{l:List Nat}{x:Nat}(m:x∈l):x<=mxN l:=(kP l 0).2.1 x m
theorem Fj{l:List Nat}{k:Nat}(h:∀x∈l,x<=k):mxN l<=k:=by
 rcases(kP l 0).2.2 with e|e
 ·unfold mxN;omega
 ·exact h _ e
theorem JA{ps:List Part}{g:Gap}{ts:List Term}{w:Int}{i:Nat}{t:Term}{f:Int->PlT}(e:ts[i]?=some t)(hT:TsOk ps.length ts)(ho:Ord ps)
  (hf:∀x,plo ps t.1<=x->x<=phi ps t.1->GoodP ps g (aW ts i) (w+t.2*x) (f x)):GoodP ps g ts w (join t.1 ((aH (part ps t.1)).map f)):=by
 have mt:=bw e;have ht:=hT.ok t mt;have ab:(part ps t.1).2.1<=(part ps t.1).2.2:=ho.at ht;obtain⟨r,er⟩:=y6 ab;have hd:((aH (part ps t.1)).map f).headD (0,.none)=f (plo ps t.1):=by rw[er];rfl
 have ag:∀q,InBox ps q->plo ps t.1<=q.getD t.1 0/\q.getD t.1 0<=phi ps t.1:=fun q h=>h.ok t.1 ht;have ew:∀q,w+worth ts q=w+t.2*q.getD t.1 0+worth (aW ts i) q:=fun q=>by rw[vJ e];omega
 unfold join;rw[hd];split
 ·rename_i ae;have af:∀x,plo ps t.1<=x->x<=phi ps t.1->f x=f (plo ps t.1):=fun x h1 h2=>by
   have:=all_eq_true.mp ae (f x) (mem_map.mpr ⟨x,(mX ab).mpr ⟨h1,h2⟩,rfl⟩);exact IM ((hf x h1 h2).pl [] yv) ((hf _ (fy _) ab).pl [] yv) this
  have h0:=hf _ (fy _) ab;refine⟨fun ms hm=>h0.pl ms fun u mu=>hm u ((lU e).subset mu),h0.dp,fun q aa=>?_⟩;obtain⟨h1,h2⟩:=ag q aa;obtain⟨js,hj⟩:=(hf _ h1 h2).led q aa;rw[af _ h1 h2]at hj;exact⟨js,by rw[ew];exact hj⟩
 ·have mem:∀y∈(aH (part ps t.1)).map f,∃x,plo ps t.1<=x/\x<=phi ps t.1/\y=f x:=fun y my=>by
   obtain⟨x,mx,rfl⟩:=mem_map.mp my;obtain⟨h1,h2⟩:=(mX ab).mp mx;exact⟨x,h1,h2,rfl⟩
  refine⟨fun ms hm=>?_,fun m hm=>?_,fun q aa=>?_⟩
  ·refine .node _ _ ht (hm t mt) (by rw[bq,bq,g5];unfold plo phi;omega) fun d md=>?_;obtain⟨y,my,rfl⟩:=mem_map.mp md;obtain⟨x,h1,h2,rfl⟩:=mem y my;refine((hf x h1 h2).pl (ms++[t.1]) fun u mu z=>?_).weak (fun _ z=>z) (vG (mem_map.mpr ⟨_,my,rfl⟩));rcases mem_append.mp z with z|z
   ·exact hm u ((lU e).subset mu) z
   ·exact hT.ne e mu (mem_singleton.mp z)
  ·obtain⟨m,rfl⟩:∃k,m=k+1:=⟨m-1,by simp only at hm;omega⟩;simp only at hm;show 1+mxN ((((aH (part ps t.1)).map f).map (·.2)).map (dpF m))=_;have:(((aH (part ps t.1)).map f).map (·.2)).map (dpF m)=((aH (part ps t.1)).map f).map (·.1):=by
    rw[ge];refine nv fun y my=>?_;have hy:=vG (mem_map.mpr ⟨y,my,rfl⟩:y.1∈((aH (part ps t.1)).map f).map (·.1));obtain⟨x,h1,h2,rfl⟩:=mem y my;exact(hf x h1 h2).dp m yw
   rw[this];simp only;omega
  ·obtain⟨h1,h2⟩:=ag q aa;obtain⟨js,hj⟩:=(hf _ h1 h2).led q aa;obtain⟨j,ac⟩:∃j:Nat,q.getD t.1 0=plo ps t.1+j:=⟨(q.getD t.1 0-plo ps t.1).toNat,yw⟩;refine⟨t.1::js,.node (i:=j) (by rw[aa.len];exact ht) ac ?_ (by rw[ew];exact hj)⟩;have e1:=JZ (p:=part ps t.1) (i:=j) (by have ah:q.getD t.1 0<=(part ps t.1).2.2:=h2;have ai:q.getD t.1 0=(part ps t.1).2.1+j:=ac;omega);rw[fh,fh,e1,ac];rfl
theorem FF{ps:List Part}{g:Gap}(ho:Ord ps):∀(n:Nat) {ts:List Term}{w:Int},ts.length=n->TsOk ps.length ts->GoodP ps g ts w (plT ps g ts w)
 | 0,ts,w,h,_=>by
  obtain rfl:=cx h;exact La ps g w
 |n+1,ts,w,h,hT=>by
  have ne:ts≠[]:=fun z=>by rw[z]at h;cases h
  rw[xW ne];have hm:=vP (l:=(dm ts.length).map fun i=>meas ps (plT ps g) ts w (ts.getD i t0) i) (fun z=>by rw[map_eq_nil_iff,List.range_eq_nil]at z;omega);obtain⟨i,mi,ei⟩:=mem_map.mp hm;have hi:=mem_range.mp mi;have et:ts[i]?=some (ts.getD i t0):=by rw[bi hi,cg,bi hi];rfl
  rw[<- ei];exact JA et hT ho fun x _ _=>FF ho n (by rw[l5 hi];omega) (hT.cut et)
theorem uY{ps:List Part}{g:Gap}{ts:List Term}{w:Int}(ho:Ord ps)(hT:TsOk ps.length ts):GoodP ps g ts w (plT ps g ts w):=FF ho _ rfl hT
def iF(D:Nat->Bool)(ts:List Term):Nat:=ts.countP fun t=>D t.1
theorem Fh{D:Nat->Bool}{ts:List Term}{i:Nat}{t:Term}(e:ts[i]?=some t):iF D ts=(if D t.1=true then 1 else 0)+iF D (aW ts i):=by
 unfold iF aW
 conv=>lhs;rw[vC e]
 rw[List.countP_append,List.countP_append,List.countP_cons];omega
def DecD(ps:List Part)(g:Gap)(D:Nat->Bool)(ts:List Term)(w:Int):Prop:=∀a b,InBox ps a->InBox ps b->(∀k,D k=true->a.getD k 0=b.getD k 0)->lfW g (w+worth ts a)=lfW g (w+worth ts b)
theorem nN{a:List Int}{k:Nat}{x:Int}(h:k<a.length):(a.set k x).getD k 0=x:=by rw[cg,kt h];rfl
theorem kI{a:List Int}{k j:Nat}{x:Int}(h:j≠k):(a.set k x).getD j 0=a.getD j 0:=by rw[cg,lu (fun z=>h z.symm),<- cg]
theorem InBox.set{ps:List Part}{a:List Int}{k:Nat}{x:Int}(h:InBox ps a)(hk:k<ps.length)(h1:plo ps k<=x)(h2:x<=phi ps k):InBox ps (a.set k x):=by
 refine⟨by rw[ie];exact h.len,fun j hj=>?_⟩;by_cases z:j=k
 ·rw[z,nN (by rw[h.len];exact hk)];exact⟨h1,h2⟩
 ·rw[kI z];exact h.ok j hj
theorem Jr{ts:List Term}{a:List Int}{k:Nat}{x:Int}(h:∀u∈ts,u.1≠k):worth ts (a.set k x)=worth ts a:=by
 unfold worth;congr 1;refine nv fun u mu=>?_;rw[kI (h u mu)]
theorem yC{ps:List Part}{ts:List Term}{i:Nat}{t:Term}{a:List Int}{x:Int}(hT:TsOk ps.length ts)(e:ts[i]?=some t)(ha:InBox ps a):worth ts (a.set t.1 x)=t.2*x+worth (aW ts i) a:=by
 rw[vJ e,nN (by rw[ha.len];exact hT.ok t (bw e)),Jr fun u mu=>hT.ne e mu]
theorem DecD.cut{ps:List Part}{g:Gap}{D:Nat->Bool}{ts:List Term}{w:Int}{i:Nat}{t:Term}{x:Int}(h:DecD ps g D ts w)(hT:TsOk ps.length ts)(e:ts[i]?=some t)(h1:plo ps t.1<=x)(h2:x<=phi ps t.1):DecD ps g D (aW ts i) (w+t.2*x):=by
 intro a b ha hb q;have ht:=hT.ok t (bw e);have:=h (a.set t.1 x) (b.set t.1 x) (ha.set ht h1 h2) (hb.set ht h1 h2) fun k hk=>by
  by_cases z:k=t.1
  ·rw[z,nN (by rw[ha.len];exact ht),nN (by rw[hb.len];exact ht)]
  ·rw[kI z,kI z];exact q k hk
 rw[yC hT e ha,yC hT e hb,<- Int.add_assoc,<- Int.add_assoc]at this;exact this
theorem leaf0{ps:List Part}{g:Gap}{ts:List Term}{w:Int}{x:PlT}{a:List Int}(h:GoodP ps g ts w x)(h0:x.1=0)(ha:InBox ps a):x=(0,.tuple [.str (lfW g (w+worth ts a))]):=by
 obtain⟨n,d⟩:=x;simp only at h0;subst h0;have hp:=h.pl [] yv;obtain⟨js,hj⟩:=h.led a ha;simp only at hp hj;cases hp with
 |leaf hw=>
  cases hj with
  |leaf _=>rfl
theorem Ge{ps:List Part}(ho:Ord ps):∃a,InBox ps a:=by
 have hs:=uX ps;have ne:cD ps≠[]:=fun e=>by
  have:=tJ ho;rw[e]at hs;simp at hs;omega
 obtain⟨b,mb⟩:=List.exists_mem_of_ne_nil _ ne;exact⟨b,iN.mp mb⟩
theorem CL{p:Nat}{fs:List PlT}{k:Nat}(h0:fs≠[])(h:∀y∈fs,y.1<=k):(join p fs).1<=k+1:=by
 unfold join;split
 ·cases fs with
  |nil=>exact absurd rfl h0
  |cons a r=>exact Nat.le_succ_of_le (h a br)
 ·show mxN _+1<=k+1;have:=Fj (l:=fs.map (·.1)) (k:=k) fun x mx=>by
   obtain⟨y,my,rfl⟩:=mem_map.mp mx;exact h y my
  omega
theorem He{p:Nat}{fs:List PlT}{x:PlT}(h0:fs≠[])(hs:ci (ptD x)=true)(h:∀y∈fs,y=x):join p fs=x:=by
 have hd:fs.headD (0,.none)=x:=by
  cases fs with
  |nil=>exact absurd rfl h0
  |cons a r=>exact h a br
 unfold join;rw[hd,cq];refine all_eq_true.mpr fun y my=>?_;rw[h y my];exact SeqAt.eqv_refl _ (fj hs)
theorem yR{ps:List Part}{g:Gap}{ts:List Term}{w:Int}{i:Nat}{t:Term}(e:ts[i]?=some t):(plT ps g ts w).1<=(meas ps (plT ps g) ts w t i).1:=by
 have hi:=(List.getElem?_eq_some_iff.mp e).1;rw[xW fun z=>by rw[z]at hi;cases hi];refine A7 (mem_map.mpr ⟨i,mem_range.mpr hi,?_⟩);rw[cg,e];rfl
theorem v7{ps:List Part}{f:Int->PlT}{k:Nat}(ho:Ord ps)(hk:k<ps.length):(aH (part ps k)).map f≠[]:=fun z=>by
 obtain⟨r,er⟩:=y6 (p:=part ps k) (ho.at hk);rw[er]at z;cases z
theorem Er{ps:List Part}{g:Gap}{D:Nat->Bool}(ho:Ord ps):∀(n:Nat) {ts:List Term}{w:Int},ts.length=n->TsOk ps.length ts->DecD ps g D ts w->(plT ps g ts w).1<=iF D ts
 | 0,ts,w,h,_,_=>by
  obtain rfl:=cx h;exact ji _
 |n+1,ts,w,h,hT,hD=>by
  have ih:∀{i:Nat}{t:Term}{x:Int},ts[i]?=some t->plo ps t.1<=x->x<=phi ps t.1->(plT ps g (aW ts i) (w+t.2*x)).1<=iF D (aW ts i):=fun {i t x} e h1 h2=>by
   have hi:=(List.getElem?_eq_some_iff.mp e).1;exact Er ho n (by rw[l5 hi];omega) (hT.cut e) (hD.cut hT e h1 h2)
  have aa:∀{t:Term}{y:PlT}{i:Nat},t∈ts->y∈(aH (part ps t.1)).map (fun x=>plT ps g (aW ts i) (w+t.2*x))->∃x,plo ps t.1<=x/\x<=phi ps t.1/\y=plT ps g (aW ts i) (w+t.2*x):=fun {t y i} mt my=>by
   obtain⟨x,mx,rfl⟩:=mem_map.mp my;obtain⟨h1,h2⟩:=(mX (p:=part ps t.1) (ho.at (hT.ok t mt))).mp mx;exact⟨x,h1,h2,rfl⟩
  by_cases hx:∃(i:Nat) (t:Term),ts[i]?=some t/\D t.1=true
  ·obtain⟨i,t,e,hd⟩:=hx;have mt:=bw e;refine fv (yR e) ?_;rw[Fh e,cq hd,Nat.add_comm];refine CL (v7 ho (hT.ok t mt)) fun y my=>?_;obtain⟨x,h1,h2,rfl⟩:=aa mt my;exact ih e h1 h2
  ·have q:∀t∈ts,¬ D t.1=true:=fun t mt z=>by
    obtain⟨i,hi,rfl⟩:=List.mem_iff_getElem.mp mt;exact hx ⟨i,_,bi hi,z⟩
   have h0:0<ts.length:=yw
   have e:=bi h0;generalize ts[0]=t at e;have mt:=bw e;have ht:=hT.ok t mt;have c0:iF D (aW ts 0)=0:=List.countP_eq_zero.mpr fun u mu=>q u ((lU e).subset mu);refine fv (yR e) ?_;obtain⟨a,ha⟩:=Ge ho;have hl:∀x,plo ps t.1<=x->x<=phi ps t.1->plT ps g (aW ts 0) (w+t.2*x)=(0,.tuple [.str (lfW g (w+worth ts a))]):=fun x h1 h2=>by
    have z:=ih e h1 h2;rw[leaf0 (uY ho (hT.cut e)) yw ha];have:=hD (a.set t.1 x) a (ha.set ht h1 h2) ha fun k hk=>kI fun z=>by
     rw[z]at hk;exact q t mt hk
    rw[yC hT e ha,<- Int.add_assoc]at this;rw[this]
   unfold meas;rw[He (v7 ho ht) (x:=(0,.tuple [.str (lfW g (w+worth ts a))])) ?_ fun y my=>?_]
   ·exact ji _
   ·exact(E1 (ps:=ps) (ms:=[]) (x:=(0,.tuple [.str (lfW g (w+worth ts a))])) (.leaf (yM _ _))).ok (by show 2*0+2<=64;decide)
   ·obtain⟨x,h1,h2,rfl⟩:=aa mt my;exact hl x h1 h2
theorem CC{ps:List Part}{g:Gap}{D:Nat->Bool}{ts:List Term}{w:Int}(ho:Ord ps)(hT:TsOk ps.length ts)(hD:DecD ps g D ts w):(plT ps g ts w).1<=iF D ts:=Er ho _ rfl hT hD
end
section
variable {R:RX}{S:Sto}
theorem AN{α:Type}[DecidableEq α]:∀{l l':List α},l.Nodup->(∀x∈l,x∈l')->l.length<=l'.length
 | [],_,_,_=>ji _
 |x::l,l',nd,h=>by
  rw[nodup_cons]at nd;have mx:=h x br;have:=AN (l:=l) (l':=l'.erase x) nd.2 fun y my=>by
   have ne:y≠x:=fun e=>nd.1 (e▸my);exact(List.mem_erase_of_ne ne).mpr (h y (bp _ my))
  rw[List.length_erase_of_mem mx]at this;have:0<l'.length:=List.length_pos_of_mem mx;rw[cw];omega
abbrev GK:KSg:=.two (.many (.many .int)) .int
abbrev QK:=List Term×Int
def kyT(q:QK):KG GK:=(q.1.map fun t=>[(t.1:Int),t.2],q.2)
theorem Jw{p q:QK}(h:kyT p=kyT q):p=q:=by
 obtain⟨a,i⟩:=p;obtain⟨b,j⟩:=q;have h1:a.map (fun t:Term=>[(t.1:Int),t.2])=b.map fun t:Term=>[(t.1:Int),t.2]:=congrArg Prod.fst h;have h2:i=j:=congrArg Prod.snd h;rw[h2,(List.map_inj_right fun x y e=>by
  obtain⟨x1,x2⟩:=x;obtain⟨y1,y2⟩:=y;simp only[pb,and_true]at e;exact Prod.ext (by simp only;omega) e.2).mp h1]
theorem kdT(q:QK):kdat GK (kyT q)=.tuple [dR q.1,.int q.2]:=by
 show iq [.tuple (List.map (fun l:List Int=>iq (List.map bj l)) (q.1.map fun t:Term=>[(t.1:Int),t.2])),.int q.2]=_;rw[ge];rfl
def ksT(ps:List Part):List Term->Int->List QK
 | [],w=>[([],w)]
 |t::ts,w=>(ksT ps ts w).map (fun p=>(t::p.1,p.2))++(aH (part ps t.1)).flatMap fun x=>ksT ps ts (w+t.2*x)
theorem Ck(ps:List Part):∀(ts:List Term) (w:Int),(ts,w)∈ksT ps ts w
 | [],w=>mem_singleton.mpr rfl
 |t::ts,w=>cu _ (mem_map.mpr ⟨_,Ck ps ts w,rfl⟩)
theorem yQ{ps:List Part}:∀{ts:List Term}{w:Int}{q:QK},q∈ksT ps ts w->q.1.Sublist ts
 | [],w,q,h=>by rw[mem_singleton.mp h];exact List.Sublist.refl _
 |t::ts,w,q,h=>by
  rcases mem_append.mp h with h|h
  ·obtain⟨p,mp,rfl⟩:=mem_map.mp h;exact(yQ mp).cons_cons t
  ·obtain⟨x,_,mp⟩:=mem_flatMap.mp h;exact(yQ mp).cons t
theorem xU{ps:List Part}:∀{ts:List Term}{w v s:Int}{q:List Term},(q,v)∈ksT ps ts w->(q,v+s)∈ksT ps ts (w+s)
 | [],w,v,s,q,h=>by
  cases mem_singleton.mp h;exact mem_singleton.mpr rfl
 |t::ts,w,v,s,q,h=>by
  rcases mem_append.mp h with h|h
  ·obtain⟨p,mp,e⟩:=mem_map.mp h;obtain⟨p1,p2⟩:=p;cases e;exact cu _ (mem_map.mpr ⟨_,xU mp,rfl⟩)
  ·obtain⟨x,mx,mp⟩:=mem_flatMap.mp h;refine cp _ (mem_flatMap.mpr ⟨x,mx,?_⟩);rw[show w+s+t.2*x=w+t.2*x+s by omega];exact xU mp
theorem AG{ps:List Part}:∀{ts:List Term}{w v x:Int}{q:List Term}{i:Nat}{t:Term},(q,v)∈ksT ps ts w->q[i]?=some t->x∈aH (part ps t.1)->(aW q i,v+t.2*x)∈ksT ps ts w
 | [],w,v,x,q,i,t,h,e,_=>by
  cases mem_singleton.mp h;cases e
 |t1::ts,w,v,x,q,i,t,h,e,hx=>by
  rcases mem_append.mp h with h|h
  ·obtain⟨p,mp,e2⟩:=mem_map.mp h;obtain⟨p1,p2⟩:=p;cases e2;cases i with
   |zero=>
    cases e;exact cp _ (mem_flatMap.mpr ⟨x,hx,xU mp⟩)
   |succ i=>
    exact cu _ (mem_map.mpr ⟨_,AG mp (by simpa using e) hx,rfl⟩)
  ·obtain⟨y,my,mp⟩:=mem_flatMap.mp h;exact cp _ (mem_flatMap.mpr ⟨y,my,AG mp e hx⟩)
def wd1(ps:List Part)(k:Nat):Nat:=(phi ps k-plo ps k+1).toNat+1
def szK(ps:List Part):Nat:=aO (ps.map fun p=>(p.2.2-p.2.1+1).toNat+1)
theorem yT{α β:Type}{f:α->List β}{m:Nat}:∀{l:List α},(∀x∈l,(f x).length=m)->(l.flatMap f).length=l.length*m
 | [],_=>by simp
 |x::l,h=>by
  rw[List.flatMap_cons,bv,h x br,yT fun y my=>h y (bp _ my),cw,succ_mul];omega
theorem wV{ps:List Part}:∀{ts:List Term}{w:Int},(ksT ps ts w).length=aO (ts.map fun t=>wd1 ps t.1)
 | [],w=>rfl
 |t::ts,w=>by
  show ((ksT ps ts w).map _++_).length=wd1 ps t.1*aO (ts.map fun t=>wd1 ps t.1);rw[bv,bq,wV,yT (m:=aO (ts.map fun t=>wd1 ps t.1)) fun x _=>wV,g5];unfold wd1 plo phi;rw[succ_mul,Nat.add_comm]
theorem BS{ps:List Part}:∀{ts:List Term}{j:Nat},(∀t∈ts,j<=t.1/\t.1<ps.length)->(ts.Pairwise fun t u=>t.1<u.1)->aO (ts.map fun t=>wd1 ps t.1)<=aO ((ps.drop j).map fun p=>(p.2.2-p.2.1+1).toNat+1)
 | [],j,_,_=>qL fun x m=>by
  obtain⟨p,_,rfl⟩:=mem_map.mp m;omega
 |t::ts,j,h,hs=>by
  obtain⟨h1,h2⟩:=h t br;obtain⟨s1,s2⟩:=pairwise_cons.mp hs;have ih:=BS (ps:=ps) (ts:=ts) (j:=t.1+1) (fun u mu=>⟨s1 u mu,(h u (bp _ mu)).2⟩) s2;have e:ps.drop t.1=part ps t.1::ps.drop (t.1+1):=by
   rw[kr h2];congr 1;have:=eX h2;rw[bi h2]at this;exact gb this
  have e2:ps.drop j=(ps.drop j).take (t.1-j)++ps.drop t.1:=by
   conv=>lhs;rw[<- nt (t.1-j) (ps.drop j),List.drop_drop]
   rw[show j+(t.1-j)=t.1 by omega]
  have pos:1<=aO (((ps.drop j).take (t.1-j)).map fun p=>(p.2.2-p.2.1+1).toNat+1):=qL fun x m=>by
   obtain⟨p,_,rfl⟩:=mem_map.mp m;omega
  rw[e2,e,fm,uR];refine fv ?_ (Nat.le_mul_of_pos_left _ pos);show wd1 ps t.1*_<=_*aO _;exact mul_le_mul (cz _) ih
theorem KR{ps:List Part}{ts:List Term}{w:Int}(h:TsOk ps.length ts):(ksT ps ts w).length<=szK ps:=by
 rw[wV];exact BS (j:=0) (fun t m=>⟨ji _,h.ok t m⟩) h.srt
structure Kn(ps:List Part)(g:Gap)(T0:List Term)(m:List (KG GK×bc)):Prop where
 of:∀p∈m,∃q∈ksT ps T0 0,p=(kyT q,ptD (plT ps g q.1 q.2))
 nd:(m.map (·.1)).Nodup
theorem Kn.len{ps:List Part}{g:Gap}{T0:List Term}{m:List (KG GK×bc)}(h:Kn ps g T0 m)(hT:TsOk ps.length T0):m.length<=szK ps:=by
 have:=AN (l':=(ksT ps T0 0).map kyT) h.nd fun x mx=>by
  obtain⟨p,mp,rfl⟩:=mem_map.mp mx;obtain⟨q,mq,rfl⟩:=h.of p mp;exact mem_map.mpr ⟨q,mq,rfl⟩
 rw[bq,bq]at this;exact fv this (KR hT)
theorem Ly{m:List (KG GK×bc)}{k:KG GK}{d:bc}(h:lkA m k=some d):(k,d)∈m:=by
 unfold lkA at h;obtain⟨q,e,e2⟩:=map_eq_some_iff.mp h;have h3:=find?_some e;have h1:q.1=k:=jh h3;have h2:=mz e;obtain⟨q1,q2⟩:=q;simp only at h1 e2;rw[h1,e2]at h2;exact h2
theorem Kn.get{ps:List Part}{g:Gap}{T0:List Term}{m:List (KG GK×bc)}{q:QK}{d:bc}(h:Kn ps g T0 m)(e:lkA m (kyT q)=some d):d=ptD (plT ps g q.1 q.2):=by
 obtain⟨q',_,e2⟩:=h.of _ (Ly e);have h1:=Jw (congrArg Prod.fst e2);have h2:=congrArg Prod.snd e2;simp only at h2;rw[h2,h1]
theorem Be{m:List (KG GK×bc)}{k:KG GK}:(lkA m k).isSome=true↔k∈m.map (·.1):=by
 unfold lkA;rw[isSome_map,List.find?_isSome];constructor
 ·rintro⟨x,mx,e⟩;exact mem_map.mpr ⟨x,mx,jh e⟩
 ·intro z;obtain⟨x,mx,e⟩:=mem_map.mp z;exact⟨x,mx,fe e⟩
theorem Ku{m:List (KG GK×bc)}{k:KG GK}{d:bc}:lkA (stG m k d) k=some d:=by
 unfold stG;split
 ·rename_i h;have h:=Be.mp h;have:∀{m:List (KG GK×bc)},k∈m.map (·.1)->lkA (m.map fun p=>if p.1=k then (p.1,d)else p) k=some d:=by
   intro m;induction m with
   |nil=>intro z;cases z
   |cons a m ih=>
    intro z;unfold lkA;rw[ft];by_cases e:a.1=k
    ·rw[cq e,List.find?_cons_of_pos (by simpa using e)];rfl
    ·rw[ck e,List.find?_cons_of_neg (by simpa using e)];rw[ft]at z;rcases mem_cons.mp z with z|z
     ·exact absurd z.symm e
     ·exact ih z
  exact this h
 ·rename_i h;unfold lkA at h ⊢;rw[List.find?_append];cases e:m.find? fun p=>decide (p.1=k)with
  |some x=>rw[e]at h;exact absurd rfl h
  |none=>simp
theorem Kn.put{ps:List Part}{g:Gap}{T0:List Term}{m:List (KG GK×bc)}{q:QK}(h:Kn ps g T0 m)(hq:q∈ksT ps T0 0):Kn ps g T0 (stG m (kyT q) (ptD (plT ps g q.1 q.2))):=by
 unfold stG;split
 ·refine⟨fun p mp=>?_,?_⟩
  ·obtain⟨x,mx,e⟩:=mem_map.mp mp;split at e
   ·rename_i e2;rw[<- e,e2];exact⟨q,hq,rfl⟩
   ·rw[<- e];exact h.of x mx
  ·rw[ge,nv (g:=fun p=>p.1) fun x _=>by
    simp only[Function.comp];split<;>rfl]
   exact h.nd
 ·rename_i hn;refine⟨fun p mp=>?_,?_⟩
  ·rcases mem_append.mp mp with mp|mp
   ·exact h.of p mp
   ·rw[mem_singleton.mp mp];exact⟨q,hq,rfl⟩
  ·rw[fm,nodup_append];refine⟨h.nd,yv,fun a ma b mb e=>?_⟩;rw[ft,qr,ni]at mb;rw[e,mb]at ma;exact hn (Be.mpr ma)
section
variable {α:Type}{n:Nat}{S0:Sto}{g:DG}{te:DEm}{fin:Sto->DM->Prop}{caps:XE}
theorem cmpm{h:α->bc}(I:DM->Prop)(f:α->bc)(hn:S0.length=n)(l:List α){u:Option XV}{M:DM}(hl:l.length<=1000)(hI:I M)
  (el:∀x∈l,∀(u:Option XV) acc M (R:XE->XV->Sto->DM->Prop),I M->(∀u' M',I M'->R (u'::caps) (.d (f x)) (S0++[acc]) M')->g (.d (h x)) (u::caps) (S0++[acc]) fun τ1 S1=>te τ1 S1 M (R τ1))
  (hf:∀M',I M'->fin (S0++[l.map f]) M'):iH n g aC te fin (l.map h) (u::caps) (S0++[[]]) M:=by
 have go:∀(l:List α) (acc:List bc) (u:Option XV) (M:DM),I M->acc.length+l.length<=1000->(∀x∈l,∀(u:Option XV) acc M (R:XE->XV->Sto->DM->Prop),I M->(∀u' M',I M'->R (u'::caps) (.d (f x)) (S0++[acc]) M')->g (.d (h x)) (u::caps) (S0++[acc]) fun τ1 S1=>te τ1 S1 M (R τ1)) ->
   (∀M',I M'->fin (S0++[acc++l.map f]) M')->iH n g aC te fin (l.map h) (u::caps) (S0++[acc]) M:=by
  intro l;induction l with
  |nil=>
   intro acc u M hI _ _ hh;have:=hh M hI;rw[qr,gl]at this;exact this
  |cons x l ih=>
   intro acc u M hI hl el hh;show g _ _ _ _;rw[cw]at hl;simp only[aC,↓reduceIte];refine el x br u acc M (fun τ1 x S3 M3=>asD x fun e=>∃acc,S3[n]?=some acc/\acc.length<1000/\iH n g aC te fin (l.map h) τ1 (S3.set n (acc++[e])) M3) hI fun u' M' z=>?_;refine⟨acc,by rw[<- hn,bo],yw,?_⟩;rw[sW hn];refine ih (acc++[f x]) u' M' z (by rw[bv,fi];omega) (fun e m=>el e (bp _ m)) fun M2 q=>?_;have:=hh M2 q;rw[ft,show acc++f x::l.map f=acc++[f x]++l.map f by simp]at this;exact this
 exact go l [] u M hI (by simpa using hl) el (by simpa using hf)
end
end
section
variable {R:RX}{S:Sto}
theorem Kg{d:bc}(q:R (.d (.bool (mH d))) []):sS [.d d] [] R:=by
 unfold sS;cases d<;>(walk_at "d";exact q)
def Thn(d:bc):Prop:=ci d=true\/d=.dict []
theorem rM{ds:List bc}(h:ci (.tuple ds)=true):∀x∈ds,ci x=true:=by
 intro x m;unfold ci at h ⊢;simp only[fu,decide_eq_true_eq]at h ⊢;have a1:∀{l:List bc},im l=true->∀x∈l,x.canLay0=true:=by
  intro l;induction l with
  |nil=>intro _ x m;cases m
  |cons a l ih=>
   intro h x m;simp only[im,fu]at h;rcases mem_cons.mp m with rfl|m
   ·exact h.1
   ·exact ih h.2 x m
 have a2:∀{l:List bc},∀x∈l,x.depth<=iy l:=by
  intro l;induction l with
  |nil=>intro x m;cases m
  |cons a l ih=>
   intro x m;simp only[iy];rcases mem_cons.mp m with rfl|m
   ·exact Nat.le_max_left ..
   ·exact fv (ih x m) (Nat.le_max_right ..)
 have e1:im ds=true:=by simpa only[jl]using h.1
 have e2:=a2 x m;have e3:PyData.depth (.tuple ds)=iy ds+1:=by simp only[PyData.depth]
 exact⟨a1 e1 x m,yw⟩
theorem pF{d:bc}{z:Str}:cv d (.str z)=true->d=.str z:=by
 cases d with
 |str y=>intro h;rw[show cv (.str y) (.str z)=(y==z)from rfl]at h;rw[eq_of_beq h]
 |_=>intro h;exact absurd h (by simp[cv])
theorem EA{d:bc}{z:Str}(h:cv d (.tuple [.str z])=true):d=.tuple [.str z]:=by
 cases d with
 |tuple ds=>
  rw[show cv (.tuple ds) (.tuple [.str z])=iz ds [.str z]from rfl]at h
  match ds,h with
  | [x],h=>
   simp only[iz,fu]at h;rw[pF h.1]
  | [],h=>simp[iz]at h
  |x::y::r,h=>simp[iz]at h
 |_=>exact absurd h (by simp[cv])
def Msr(ps:List Part)(d:bc)(k:Nat)(l:List bc):Prop:=d=.tuple [.str "measure",.int k,.tuple l]/\k<ps.length/\(l.length:Int)=phi ps k-plo ps k+1
theorem Gv{ps:List Part}{d:bc}(hd:Thn d)(qt:∀k l,Msr ps d k l->R (.d (.bool true)) [])(qf:(∀k l,¬ Msr ps d k l)->R (.d (.bool false)) []):uC [.d (aM ps),.d d] [] R:=by
 unfold uC;walk_at "d";have no:(∀ds,d≠.tuple ds)->∀k l,¬ Msr ps d k l:=fun h k l m=>h _ m.1;cases d with
 |tuple ds=>
  have hs:=hd.resolve_right yv;walk_at "d";walk_at "n";by_cases h3:ds.length=3
  ·obtain⟨x,y,z,rfl⟩:∃x y z,ds=[x,y,z]:=by
    match ds,h3 with
    | [x,y,z],_=>exact⟨x,y,z,rfl⟩
   have sx:=rM hs x yv;walk_at "d";refine⟨sx,by decide +kernel,?_⟩;by_cases hx:cv x (.str "measure")=true
   ·have ex:=pF hx;subst ex;rw[ck (by rw[hx];decide)];walk_at "n";refine Kg ?_;cases y with
    |int k=>
     rw[show mH (.int k)=true from rfl];walk_at "d";refine ite2 (fun h0=>?_) fun h0=>?_
     ·refine⟨ps.length,by unfold aM;walk_at "d",?_⟩;refine ite2 (fun h1=>?_) fun h1=>?_
      ·exact qf fun k' l m=>by
        cases m.1;have:=m.2.1;omega
      ·obtain⟨k,rfl⟩:=gk h0;have hk:k<ps.length:=yw
       cases z with
       |tuple l=>
        walk_at "d";have ep:=cK (f:=bM) (eX hk);rw[gR];walk_at "d";refine⟨_,ep,?_⟩;walk_at "d";refine yG ?_;walk_at "d";refine Bb ?_;walk_at "d";by_cases hl:(l.length:Int)=phi ps k-plo ps k+1
        ·rw[fe (show (l.length:Int)=(part ps k).2.2-(part ps k).2.1+1 from hl)];exact qt k l ⟨rfl,hk,hl⟩
        ·rw[dh (show ¬(l.length:Int)=(part ps k).2.2-(part ps k).2.1+1 from hl)];exact qf fun k' l' m=>by
          cases m.1;exact hl m.2.2
       |_=>
        walk_at "d";exact qf fun k' l' m=>by cases m.1
     ·exact qf fun k' l m=>by
       cases m.1;omega
    |_=>
     walk_at "d";exact qf fun k' l' m=>by cases m.1
   ·rw[cq (by simpa using hx)];refine qf fun k l m=>hx ?_;cases m.1;decide +kernel
  ·rw[cq yw];refine qf fun k l m=>h3 ?_;cases m.1;rfl
 |_=>
  walk_at "n";exact qf (no yv)
structure Ep where
 ms:List Nat
 d:bc
def mtD(ms:List Nat):bc:=.tuple (ms.map fun k:Nat=>.int k)
def epD(e:Ep):bc:=.tuple [e.d,mtD e.ms]
structure EpOk(ps:List Part)(e:Ep):Prop where
 th:Thn e.d
 nd:e.ms.Nodup
 lt:∀j∈e.ms,j<ps.length
theorem tR{ms:List Nat}{n:Nat}(hd:ms.Nodup)(h:∀j∈ms,j<n):ms.length<=n:=by
 have:=uO (f:=fun _=>1) hd h;rw[List.map_const',List.map_const',List.sum_replicate_nat,List.sum_replicate_nat,on]at this;omega
theorem EZ{ms:List Nat}{n k:Nat}(hd:ms.Nodup)(h:∀j∈ms,j<n)(hk:k<n)(hm:k∉ms):(ms++[k]).Nodup/\∀j∈ms++[k],j<n:=by
 refine⟨?_,fun j mj=>?_⟩
 ·rw[nodup_append];exact⟨hd,yv,fun a ma b mb e=>by rw[mem_singleton.mp mb]at e;rw[e]at ma;exact hm ma⟩
 ·rcases mem_append.mp mj with mj|mj
  ·exact h j mj
  ·rw[mem_singleton.mp mj];exact hk
def Pl(ps:List Part)(ms:List Nat)(d:bc):Prop:=IsPl ps ms (9-ms.length) d
theorem Pl.node{ps:List Part}{ms:List Nat}{d:bc}{k:Nat}{l:List bc}(m:Msr ps d k l)(hm:k∉ms)(h8:ms.length<=7):Pl ps ms d↔∀x∈l,Pl ps (ms++[k]) x:=by
 obtain⟨rfl,hk,hl⟩:=m;have e:9-ms.length=(9-(ms++[k]).length)+1:=by rw[bv,fi];omega
 unfold Pl;rw[e];constructor
 ·intro h;cases h with
  |node k l hk hm hl h=>exact h
 ·intro h;exact .node k l hk hm hl h
theorem Pl.leaf{ps:List Part}{ms:List Nat}{d:bc}(h:∀k l,Msr ps d k l->k∈ms):Pl ps ms d↔d=.tuple [.str "breaks"]\/d=.tuple [.str "keeps"]:=by
 constructor
 ·intro p;unfold Pl at p;generalize 9-ms.length=n at p;cases p with
  |leaf hh=>rcases hh with rfl|rfl<;>simp
  |node k l hk hm hl _=>exact absurd (h k l ⟨rfl,hk,hl⟩) hm
 ·rintro(rfl|rfl)
  ·exact IsPl.leaf (.inl rfl)
  ·exact IsPl.leaf (.inr rfl)
theorem leaf58{ps:List Part}{ms:List Nat}{d:bc}{A B:Prop}(q:Thn d)(aa:∀k l,Msr ps d k l->k∈ms)(ha:Pl ps ms d->A)(hb:¬ Pl ps ms d->B):
  (ci d=true/\if d.eqv (.tuple [.str "keeps"])=false then (ci d=true/\if d.eqv (.tuple [.str "breaks"])=false then B else A)\/d=.dict []/\B else A)\/d=.dict []/\((ci d=true/\if d.eqv (.tuple [.str "breaks"])=false then B else A)\/d=.dict []/\B):=by
 have e:=Pl.leaf aa;rcases q with h|h
 ·refine .inl ⟨h,?_⟩;by_cases z:d.eqv (.tuple [.str "keeps"])=true
  ·rw[ck (by rw[z];decide)];exact ha (e.mpr (.inr (EA z)))
  ·rw[cq (by simpa using z)];refine .inl ⟨h,?_⟩;by_cases y:d.eqv (.tuple [.str "breaks"])=true
   ·rw[ck (by rw[y];decide)];exact ha (e.mpr (.inl (EA y)))
   ·rw[cq (by simpa using y)];refine hb fun p=>?_;rcases e.mp p with rfl|rfl
    ·exact y (by decide +kernel)
    ·exact z (by decide +kernel)
 ·refine .inr ⟨h,.inr ⟨h,hb fun p=>?_⟩⟩;subst h;rcases e.mp p with h|h<;>cases h
theorem Thn.kids{ps:List Part}{d:bc}{k:Nat}{l:List bc}(h:Thn d)(m:Msr ps d k l):∀x∈l,Thn x:=by
 obtain⟨rfl,_,_⟩:=m;have hs:=h.resolve_right yv;intro x mx;exact .inl (rM (rM hs (.tuple l) yv) x mx)
theorem JE{ps:List Part}(ho:Ord ps)(hz:aE ps<=300)(h8:ps.length<=8){d:bc}(hd:Thn d)(qt:Pl ps [] d->R (.d (.bool true)) [])(qf:¬ Pl ps [] d->R (.d (.bool false)) []):tY [.d (aM ps),.d d] [] R:=by
 unfold tY;walk_at "d"
 walk_at "n"
 walk_at "n";refine⟨fun m δ S=>∃(st:List Ep) (u3 u4 u5:Option XV),(∀e∈st,EpOk ps e)/\(∀(p:Nat) e,st[p]?=some e->p<=(e.ms.map (wdN ps)).sum)/\((∀e∈st,Pl ps e.ms e.d)↔Pl ps [] d)/\m=(st.map fun e=>301 ^ (9-e.ms.length)).sum/\S=[st.map epD]/\δ=[some (.d (aM ps)),some (.d d),some (.l 0),u3,u4,u5],⟨_,[⟨[],d⟩],none,none,none,?_,?_,?_,rfl,rfl,rfl⟩,?_⟩
 ·intro e me;rw[mem_singleton.mp me];exact⟨hd,yv,yv⟩
 ·intro p e hp;have:p<1:=(List.getElem?_eq_some_iff.mp hp).1;omega
 ·simp
 rintro m _ _ ⟨st,u3,u4,u5,h1,h2,h3,rfl,rfl,rfl⟩;rcases List.eq_nil_or_concat st with rfl|⟨st,e,rfl⟩
 ·walk_at "d";exact qt (h3.mp yv)
 ·rw[List.concat_eq_append]at h1 h2 h3 ⊢;rw[fm,ix];walk_at "d";rw[cq yv];have he:=h1 e yv;have pe:=h2 st.length e yv;have hw:=B8 ho hz h8 he.nd he.lt;have am:∀(ab:List Ep),(∀x∈ab,EpOk ps x/\(e.ms.map (wdN ps)).sum+ab.length<=(x.ms.map (wdN ps)).sum/\x.ms.length=e.ms.length+1/\e.ms.length<=7)->ab.length<=300->((∀x∈ab,Pl ps x.ms x.d)↔Pl ps e.ms e.d) ->
    ∃m',m'<((st++[e]).map fun e=>301 ^ (9-e.ms.length)).sum/\∃(aa:List Ep),(∀e∈aa,EpOk ps e)/\(∀(p:Nat) e,aa[p]?=some e->p<=(e.ms.map (wdN ps)).sum)/\((∀e∈aa,Pl ps e.ms e.d)↔Pl ps [] d)/\m'=(aa.map fun e=>301 ^ (9-e.ms.length)).sum/\(st++ab).map epD=aa.map epD:=by
   intro ab ac hl al;refine⟨_,?_,st++ab,fun x mx=>?_,fun p x hp=>?_,?_,rfl,rfl⟩
   ·rw[fm,fm,qh,qh,ix,oq];have a1:(ab.map fun x=>301 ^ (9-x.ms.length)).sum<=ab.length*301 ^ (9-e.ms.length-1):=wB fun x mx=>by
     have:=(ac x mx).2.2.1;rw[show 9-x.ms.length=9-e.ms.length-1 by omega];exact cz _
    have a2:0<301 ^ (9-e.ms.length-1):=Nat.pow_pos dz;have a3:ab.length*301 ^ (9-e.ms.length-1)<=300*301 ^ (9-e.ms.length-1):=Nat.mul_le_mul_right _ hl;by_cases z:ab=[]
    ·subst z;have:0<301 ^ (9-e.ms.length):=Nat.pow_pos dz;simp;omega
    ·obtain⟨x,mx⟩:=List.exists_mem_of_ne_nil _ z;have:=(ac x mx).2.2.2;have a4:301 ^ (9-e.ms.length)=301*301 ^ (9-e.ms.length-1):=by rw[<- Nat.pow_succ'];congr 1;omega
     omega
   ·rcases mem_append.mp mx with mx|mx
    ·exact h1 x (by simp[mx])
    ·exact(ac x mx).1
   ·by_cases z:p<st.length
    ·refine h2 p x ?_;rw[dj z]at hp ⊢;exact hp
    ·have lp:=(List.getElem?_eq_some_iff.mp hp).1;rw[bv]at lp;rw[jj yw]at hp;have:=(ac x (bw hp)).2.1;omega
   ·rw[<- h3];simp only[oj,ni];constructor
    ·rintro h x (mx|rfl)
     ·exact h x (.inl mx)
     ·exact al.mp fun y my=>h y (.inr my)
    ·rintro h x (mx|mx)
     ·exact h x (.inl mx)
     ·exact al.mpr (h e (.inr rfl)) x mx
  refine⟨fun δ' S'=>∃m',m'<((st++[e]).map fun e=>301 ^ (9-e.ms.length)).sum/\∃(aa:List Ep) (u3 u4 u5:Option XV),(∀e∈aa,EpOk ps e)/\(∀(p:Nat) e,aa[p]?=some e->p<=(e.ms.map (wdN ps)).sum)/\((∀e∈aa,Pl ps e.ms e.d)↔Pl ps [] d)/\m'=(aa.map fun e=>301 ^ (9-e.ms.length)).sum/\S'=[aa.map epD]/\δ'=[some (.d (aM ps)),some (.d d),some (.l 0),u3,u4,u5],?_,?_⟩
  ·intro δ' S' z;exact z
  have eg:(st.map epD++[epD e])[st.length+1-1]?=some (epD e):=by simp
  walk_at "n"
  refine⟨_,eg,?_⟩;obtain⟨q,ed⟩:=e;have ee:epD ⟨q,ed⟩=.tuple [ed,mtD q]:=rfl;rw[ee,List.dropLast_concat];walk_at "n";walk_at "n";have ag:Thn ed:=he.th;have ak:q.Nodup:=he.nd;have ah:∀j∈q,j<ps.length:=he.lt;have l8:=tR ak ah;have aj:¬ Pl ps q ed->R (.d (.bool false)) []:=fun n=>qf fun p=>n (h3.mpr p ⟨q,ed⟩ yv);have af:Pl ps q ed->∃m',m'<((st++[(⟨q,ed⟩:Ep)]).map fun e:Ep=>301 ^ (9-e.ms.length)).sum/\∃(aa:List Ep),(∀e∈aa,EpOk ps e)/\(∀(p:Nat) e,aa[p]?=some e->p<=(e.ms.map (wdN ps)).sum)/\((∀e∈aa,Pl ps e.ms e.d)↔Pl ps [] d)/\m'=(aa.map fun e=>301 ^ (9-e.ms.length)).sum/\(st++[]).map epD=aa.map epD:=fun p=>am [] yv yv (by simpa using p);rw[gl]at af;have fin:∀ae:(∀k l,Msr ps ed k l->k∈q),_:=fun ae=>leaf58 ag ae (fun p=>(by
   obtain⟨m',a,aa,b1,b2,b3,b4,b5⟩:=af p;exact(⟨m',a,aa,some (XV.d (iq [ed,mtD q])),some (XV.d ed),some (XV.d (mtD q)),b1,b2,b3,b4,by rw[b5],rfl,rfl,rfl⟩:∃m',m'<((st++[(⟨q,ed⟩:Ep)]).map fun e:Ep=>301 ^ (9-e.ms.length)).sum/\∃(aa:List Ep) (u3 u4 u5:Option XV),(∀e∈aa,EpOk ps e)/\(∀(p:Nat) e,aa[p]?=some e->p<=(e.ms.map (wdN ps)).sum)/\((∀e∈aa,Pl ps e.ms e.d)↔Pl ps [] d)/\m'=(aa.map fun e=>301 ^ (9-e.ms.length)).sum/\[st.map epD]=[aa.map epD]/\some (XV.d (iq [ed,mtD q]))=u3/\some (XV.d ed)=u4/\some (XV.d (mtD q))=u5))) aj
  refine Gv ag (fun k l m=>?_) (fun ae=>?_)
  ·obtain⟨rfl,hk,hl⟩:=id m;have ao:ci (.list (q.map fun k:Nat=>bj k))=true:=(o8 (n:=0) (uK fun _ _=>j5)).ok;have ai:((q.map fun k:Nat=>bj k).any fun y=>cv y (.int k))=decide (k∈q):=by
    rw[List.any_map];by_cases hk:k∈q
    ·rw[fe hk,any_eq_true];exact⟨k,hk,by simp[fC]⟩
    ·rw[dh hk,any_eq_false];intro j mj e;have:(j:Int)=k:=by simpa[fC]using e
     exact hk ((Int.ofNat_inj.mp this)▸mj)
   unfold mtD;walk_at "d";refine⟨ao,?_⟩;rw[ai];by_cases hm:k∈q
   ·rw[fe hm];walk_at "d";exact fin fun k' l' m'=>by cases m'.1;exact hm
   ·rw[dh hm];walk_at "d";have w1:=j6 ho hk;have lw:(((q++[k]).map (wdN ps)).sum)=(q.map (wdN ps)).sum+wdN ps k:=by rw[fm,qh,ix,oq]
    have lk:l.length<=wdN ps k:=by unfold wdN;omega
    have sl:st.length<=308:=fv pe hw;obtain⟨n1,n2⟩:=EZ ak ah hk hm;have l9:=tR n1 n2;rw[bv,fi]at l9;refine cmp1p (S0:=[st.map epD]) (fun x=>.tuple [x,mtD (q++[k])]) rfl l yw ?_ ?_
    ·intro x mx u acc R' an;walk_at "d";have em:iq (q.map (fun k:Nat=>bj k)++[.int k])=mtD (q++[k]):=by unfold mtD;rw[fm];rfl
     rw[em];exact⟨yw,an _⟩
    ·walk_at "d";obtain⟨m',a,aa,b1,b2,b3,b4,b5⟩:=am (l.map fun x=>⟨q++[k],x⟩) (fun x mx=>by
      obtain⟨y,my,rfl⟩:=mem_map.mp mx;refine⟨⟨ag.kids m y my,n1,n2⟩,?_,?_,?_⟩
      ·show (q.map (wdN ps)).sum+(l.map _).length<=((q++[k]).map (wdN ps)).sum;rw[lw,bq];omega
      ·show (q++[k]).length=q.length+1;rw[bv,fi]
      ·show q.length<=7;omega) (by rw[bq];omega) (by
      rw[Pl.node m hm yw];simp)
     refine⟨yw,m',a,aa,_,_,_,b1,b2,b3,b4,?_,rfl,rfl,rfl⟩;rw[<- b5,fm,ge];rfl
  ·have f2:=fin fun k l m=>absurd m (ae k l);simp only[pb,and_true]at f2;walk_at "d";exact f2
theorem Pl.form{ps:List Part}{ms:List Nat}{d:bc}(p:Pl ps ms d):(d=.tuple [.str "breaks"]\/d=.tuple [.str "keeps"])\/∃k l,Msr ps d k l/\k∉ms:=by
 unfold Pl at p;generalize 9-ms.length=n at p;cases p with
 |leaf hh=>rcases hh with rfl|rfl<;>simp
 |node k l hk hm hl _=>exact .inr ⟨k,l,⟨rfl,hk,hl⟩,hm⟩
theorem Ch{ps:List Part}(ho:Ord ps)(hz:aE ps<=300)(h8:ps.length<=8):∀{f:Nat}{ms:List Nat}{d:bc}{R:RX},Thn d->ms.Nodup->(∀j∈ms,j<ps.length)->9<f+ms.length->(Pl ps ms d->R (.d (.bool true)) [])->(¬ Pl ps ms d->R (.d (.bool false)) [])->k6 f [.d (aM ps),.d (nlD ms),.d d] [] R
 | 0,ms,d,R,hd,hn,hl,hf,qt,qf=>by
  have:=tR hn hl;omega
 |f+1,ms,d,R,hd,hn,hl,hf,qt,qf=>by
  rw[k6];walk_at "d";cases d with
  |tuple ds=>
   have hs:=hd.resolve_right yv;have ae:=rM hs;walk_at "n";refine⟨by decide +kernel,?_⟩;by_cases h1:ds.length=1
   ·obtain⟨x,rfl⟩:=List.length_eq_one_iff.mp h1;have e1:([bj 1,.int 3].any fun y=>cv y (.int ([x].length:Nat)))=true:=rfl;rw[ck (by rw[e1];decide)];refine⟨x,rfl,?_⟩;cases x with
    |str z=>
     walk_at "d";walk_at "n";refine⟨ae _ yv,by decide +kernel,?_⟩;by_cases hz:z = "keeps"\/z = "breaks"
     ·have e2:([kh "keeps",.str "breaks"].any fun y=>cv y (.str z))=true:=by rcases hz with rfl|rfl<;>decide +kernel
      rw[e2];exact qt (IsPl.leaf hz.symm)
     ·have e2:([kh "keeps",.str "breaks"].any fun y=>cv y (.str z))=false:=by
       rw[any_eq_false];intro y my e;have ey:=pF e;simp only[jd,gq,or_false]at my;rcases my with rfl|rfl<;>cases ey<;>simp at hz
      rw[e2];refine qf fun p=>hz ?_;rcases p.form with (h|h)|⟨k,l,m,_⟩
      ·cases h;exact .inr rfl
      ·cases h;exact .inl rfl
      ·cases m.1
    |_=>
     walk_at "d";refine qf fun p=>?_;rcases p.form with (h|h)|⟨k,l,m,_⟩
     ·cases h
     ·cases h
     ·cases m.1
   ·by_cases h3:ds.length=3
    ·obtain⟨x,y,z,rfl⟩:∃x y z,ds=[x,y,z]:=by
      match ds,h3 with
      | [x,y,z],_=>exact⟨x,y,z,rfl⟩
     have e1:([bj 1,.int 3].any fun v=>cv v (.int ([x,y,z].length:Nat)))=true:=rfl;rw[ck (by rw[e1];decide)];refine⟨x,rfl,?_⟩;have q:¬(iq [x,y,z]=.tuple [.str "breaks"]\/iq [x,y,z]=.tuple [.str "keeps"]):=by simp
     cases x with
     |str w=>
      walk_at "d";walk_at "n";walk_at "n";refine⟨ae _ yv,by decide +kernel,?_⟩;by_cases hw:cv (.str w) (.str "measure")=true
      ·cases pF hw;rw[ck (by rw[hw];decide)];refine EJ ?_;cases y with
       |int k=>
        rw[show mH (.int k)=true from rfl];walk_at "d";refine⟨ps.length,by unfold aM;walk_at "d",?_⟩;refine ite2 (fun hk=>?_) fun hk=>?_
        ·refine qf fun p=>?_;rcases p.form with h|⟨k',l,m,_⟩
         ·exact q h
         ·cases m.1;have:=m.2.1;omega
        ·obtain⟨h0,hk⟩:0<=k/\k<ps.length:=Classical.byContradiction hk;obtain⟨k,rfl⟩:=gk h0;have hk:k<ps.length:=yw
         have ag:ci (.list (ms.map fun k:Nat=>bj k))=true:=(o8 (n:=0) (uK fun _ _=>j5)).ok;have ac:((ms.map fun k:Nat=>bj k).any fun y=>cv y (.int k))=decide (k∈ms):=by
          rw[List.any_map];by_cases hk:k∈ms
          ·rw[fe hk,any_eq_true];exact⟨k,hk,by simp[fC]⟩
          ·rw[dh hk,any_eq_false];intro j mj e;have:(j:Int)=k:=by simpa[fC]using e
           exact hk ((Int.ofNat_inj.mp this)▸mj)
         refine seq1 ?_;rw[nlD];walk_at "d";refine⟨ag,?_⟩;rw[ac];by_cases hm:k∈ms
         ·rw[cq (fe hm)];refine qf fun p=>?_;rcases p.form with h|⟨k',l,m,aa⟩
          ·exact q h
          ·cases m.1;exact aa hm
         ·rw[ck (by rw[dh hm];decide)];cases z with
          |tuple l=>
           walk_at "d";have ep:=cK (f:=bM) (eX hk);refine seq1 ?_;rw[gR];walk_at "d";refine⟨_,ep,?_⟩;rw[lB];walk_at "d";walk_at "n";have w1:=j6 ho hk;refine ite2 (fun ab=>?_) fun ab=>?_
           ·refine qf fun p=>?_;rcases p.form with h|⟨k',l,m,aa⟩
            ·exact q h
            ·cases m.1;have:=m.2.2;exact absurd this ab
           ·have af:(l.length:Int)=phi ps k-plo ps k+1:=Classical.byContradiction ab;have m:Msr ps (.tuple [.str "measure",.int k,.tuple l]) k l:=⟨rfl,hk,af⟩;obtain⟨n1,n2⟩:=EZ hn hl hk hm;have l9:=tR n1 n2;rw[bv,fi]at l9;have pn:=Pl.node m hm yw
            classical
            refine cmp1p (S0:=[]) (fun x=>.bool (decide (Pl ps (ms++[k]) x))) rfl l yw ?_ ?_
            ·intro x mx u acc R' aa;walk_at "d";refine⟨yw,?_⟩;rw[show PyData.list (ms.map (fun k:Nat=>bj k)++[.int k])=nlD (ms++[k]) by unfold nlD;rw[fm];rfl,<- gR];refine Ch ho hz h8 (hd.kids m x mx) n1 n2 (by rw[bv,fi];omega) (fun p=>?_) fun p=>?_
             ·walk_at "d";have:=aa (some (.d x));rw[fe p]at this;exact this
             ·walk_at "d";have:=aa (some (.d x));rw[dh p]at this;exact this
            ·walk_at "d";refine⟨l.map fun x=>decide (Pl ps (ms++[k]) x),by rw[ge];rfl,?_⟩;by_cases hp:Pl ps ms (.tuple [.str "measure",.int k,.tuple l])
             ·rw[show (l.map fun x=>decide (Pl ps (ms++[k]) x)).all id=true by rw[all_map,kq];exact fun x mx=>fe (pn.mp hp x mx)];exact qt hp
             ·rw[show (l.map fun x=>decide (Pl ps (ms++[k]) x)).all id=false by
               rw[Bool.eq_false_iff];intro h;rw[all_map,kq]at h;exact hp (pn.mpr fun x mx=>jh (h x mx))]
              exact qf hp
          |_=>
           walk_at "d";refine qf fun p=>?_;rcases p.form with h|⟨k',l,m,aa⟩
           ·exact q h
           ·cases m.1
       |_=>
        walk_at "d";refine qf fun p=>?_;rcases p.form with h|⟨k,l,m,_⟩
        ·exact q h
        ·cases m.1
      ·rw[cq (by simpa using hw)];refine qf fun p=>?_;rcases p.form with h|⟨k,l,m,_⟩
       ·exact q h
       ·cases m.1;exact hw (by decide +kernel)
     |_=>
      walk_at "d";refine qf fun p=>?_;rcases p.form with h|⟨k,l,m,_⟩
      ·exact q h
      ·cases m.1
    ·have e1:([bj 1,.int 3].any fun v=>cv v (.int (ds.length:Nat)))=false:=by
      simp[fC];omega
     rw[cq e1];refine qf fun p=>?_;rcases p.form with (h|h)|⟨k,l,m,_⟩
     ·cases h;exact h1 rfl
     ·cases h;exact h1 rfl
     ·cases m.1;exact h3 rfl
  |_=>
   walk_at "n";refine qf fun p=>?_;rcases p.form with (h|h)|⟨k,l,m,_⟩
   ·cases h
   ·cases h
   ·cases m.1
theorem Led.uniq{lo:Nat->Int}{z:List Int}{d:bc}{js q:List Nat}{w w':Str}(h:Led lo z d js w)(h':Led lo z d q w'):js=q/\w=w':=by
 induction h generalizing q w' with
 |leaf h=>
  cases h' with
  |leaf _=>exact⟨rfl,rfl⟩
 | @node k i l d js w hk hi hd h ih=>
  cases h' with
  | @node _ i' _ d' js2 _ hk' hi' hd' h2=>
   have e:i=i':=yw
   subst e;rw[hd]at hd';cases hd';obtain⟨rfl,rfl⟩:=ih h2;exact⟨rfl,rfl⟩
def Mt(ps:List Part)(g:Gap)(d:bc)(a:List Int):Prop:=(∃js,Led (plo ps) a d js "keeps")↔zT g a=true
def PlOk(ps:List Part)(g:Gap)(d:bc):Prop:=Pl ps [] d/\∀a∈cD ps,Mt ps g d a
open Classical in
theorem E5{ps:List Part}{g:Gap}{d:bc}{a:List Int}{js:List Nat}{w:Str}(hL:Led (plo ps) a d js w):cv (.bool (cv (.str w) (.str "keeps"))) (.bool (zT g a))=decide (Mt ps g d a):=by
 have e:cv (.str w) (.str "keeps")=decide (∃js,Led (plo ps) a d js "keeps"):=by
  by_cases h:cv (.str w) (.str "keeps")=true
  ·rw[h];cases pF h;exact(fe ⟨js,hL⟩).symm
  ·rw[Bool.eq_false_iff.mpr h];refine(dh ?_).symm;rintro⟨js',h'⟩;obtain⟨_,rfl⟩:=hL.uniq h';exact h (by decide +kernel)
 rw[e,iP];unfold Mt;by_cases h1:∃js,Led (plo ps) a d js "keeps"
 ·rw[fe h1];cases h2:zT g a<;>simp[h1]
 ·rw[dh h1];cases h2:zT g a<;>simp[h1]
theorem Az{w:Str}(h:w = "breaks"\/w = "keeps"):ci (.str w)=true:=by rcases h with rfl|rfl<;>decide +kernel
theorem Led.word58{lo:Nat->Int}{q:List Int}{d:bc}{js:List Nat}{w:Str}(h:Led lo q d js w):w = "breaks"\/w = "keeps":=by
 induction h with
 |leaf h=>exact h
 |node _ _ _ _ ih=>exact ih
open Classical in
theorem HY{ps:List Part}{g:Gap}(ho:Ord ps)(hz:aE ps<=300)(h8:ps.length<=8)(hg:Tm3 ps.length g.ts){d:bc}(hd:Thn d)(q:R (.d (.bool (decide (PlOk ps g d)))) []):uJ [.d (aM ps),.d (cR g),.d d] [] R:=by
 unfold uJ;walk_at "d"
 walk_at "n"
 refine KK ho yw hz ?_;walk_at "d";walk_at "n";have bl:=uX ps;refine JE ho hz h8 hd (fun p=>?_) fun p=>?_
 ·walk_at "d";refine cmp1 (S0:=[]) (h:=aN) (fun a=>.bool (decide (Mt ps g d a))) rfl (cD ps) yw ?_ ?_
  ·intro a ma u acc R' hk;have ib:=iN.mp ma;obtain⟨js,w,hL,aa,hj⟩:=IsPl.led ib p;walk_at "d";refine FZ hL hj (by simp at aa;omega) ?_;walk_at "d";refine⟨Az hL.word58,by decide +kernel,?_⟩;refine Fa (by rw[ib.len];exact hg) ?_;walk_at "d";have:=hk (some (.d (aN a)));rw[<- E5 hL,iP]at this;exact this
  ·walk_at "d";refine⟨(cD ps).map fun a=>decide (Mt ps g d a),by rw[ge];rfl,?_⟩;rw[show ((cD ps).map fun a=>decide (Mt ps g d a)).all id=decide (PlOk ps g d) by
    rw[all_map];by_cases h:PlOk ps g d
    ·rw[fe h,kq];exact fun a ma=>fe (h.2 a ma)
    ·rw[dh h,Bool.eq_false_iff];intro z;rw[kq]at z;exact h ⟨p,fun a ma=>jh (z a ma)⟩]
   exact q
 ·walk_at "d";rw[dh fun h=>p h.1]at q;exact q
open Classical in
theorem K7{ps:List Part}{g:Gap}(ho:Ord ps)(hz:aE ps<=300)(h8:ps.length<=8)(hg:Tm3 ps.length g.ts){d:bc}(hd:Thn d)(q:R (.d (.bool (decide (PlOk ps g d)))) []):tE [.d (aM ps),.d (cR g),.d d] [] R:=by
 unfold tE;walk_at "d";walk_at "n";have bl:=uX ps;refine Ch (f:=160) (ms:=[]) ho hz h8 hd yv yv yv (fun p=>?_) fun p=>?_
 ·walk_at "d";walk_at "n";refine Hv ho yw hz ?_;walk_at "d";refine fA (fun i δ S=>∃(u:Option XV),S=[]/\(∀a∈(cD ps).take i,Mt ps g d a)/\δ=[some (.d (aM ps)),some (.d (cR g)),some (.d d),u]) ⟨_,rfl,yv,rfl⟩ ?_ ?_
  ·rintro i x _ _ N hi ⟨u,rfl,ha,rfl⟩ hN;rw[fh]at hi;obtain⟨a,ea,rfl⟩:=map_eq_some_iff.mp hi;have ma:=bw ea;have ib:=iN.mp ma;obtain⟨js,w,hL,z,hj⟩:=IsPl.led ib p;walk_at "d";refine Jp hL hj (by simp at z;omega) ?_;walk_at "d";refine⟨Az hL.word58,by decide +kernel,?_⟩;refine FY (by rw[ib.len];exact hg) ?_;walk_at "d";have e:=E5 (g:=g) hL;rw[iP]at e;by_cases hM:Mt ps g d a
   ·rw[fe hM]at e;rw[ck (by rw[jh e];simp)];refine hN _ _ ⟨_,rfl,fun b mb=>?_,rfl⟩;rw[take_add_one,ea]at mb;rcases mem_append.mp mb with mb|mb
    ·exact ha b mb
    ·simp at mb;rw[mb];exact hM
   ·rw[dh hM]at e;rw[cq (of_decide_eq_false e)];rw[dh fun h=>hM (h.2 a ma)]at q;exact q
  ·rintro _ _ ⟨u,rfl,ha,rfl⟩;walk_at "d";rw[fe ⟨p,fun a ma=>ha a (by rwa [bq,ld])⟩]at q;exact q
 ·walk_at "d";rw[dh fun h=>p h.1]at q;exact q
open Classical in
end
section
variable {R:RX}
abbrev KB:KSg:=.two (.many .int) .bool
abbrev Fs:=List ((List Int×Bool)×List Int)
abbrev Lks:=List (List Int×Bool)
def mD(m:Fs):List (KG KB×bc):=m.map fun q=>(q.1,aN q.2)
theorem Ee{g:DG}{b:DSm}{E:DEndsM}:∀{ds:List bc}{δ:XE}{S:Sto}{M:DM} (I:Nat->XE->Sto->DM->Prop),I 0 δ S M ->
  (∀i d δ S M (N:XE->Sto->DM->Prop),ds[i]?=some d->I i δ S M->(∀ δ' S' M',I (i+1) δ' S' M'->N δ' S' M')->g (.d d) δ S fun δ1 S1=>b { nx:=N,ct:=N,bk:=E.nx,rt:=E.rt } δ1 S1 M) ->
  (∀ δ S M,I ds.length δ S M->E.nx δ S M)->iE g b ds E δ S M
 | [],δ,S,M,I,h0,_,fin=>fin δ S M h0
 |d::ds,δ,S,M,I,h0,step,fin=>by
  show g (.d d) δ S fun δ1 S1=>b _ δ1 S1 M;refine step 0 d δ S M _ rfl h0 fun δ' S' M' h1=>?_;exact Ee (ds:=ds) (fun i=>I (i+1)) h1 (fun i e δ S M N hi=>step (i+1) e δ S M N (by simpa using hi)) fin
end
section
variable {R:RX}{S:Sto}
structure WdsS(ws:List Int):Prop where
 w:Wds ws
 k:aO (ws.map fun x=>x.toNat+1)<=729
theorem Cc:∀{ws:List Int},(∀x∈ws,1<=x/\x<=3)->aO (ws.map fun x=>x.toNat+1)<=4 ^ ws.length
 | [],_=>by simp[aO]
 |x::ws,h=>by
  have:=Cc (ws:=ws) fun y m=>h y (bp _ m);have hx:=h x br;show (x.toNat+1)*_<=4 ^ (ws.length+1);rw[Nat.pow_succ,mul_comm (4 ^ ws.length)];exact mul_le_mul yw this
theorem LH{ws:List Int}(l1:1<=ws.length)(l4:ws.length<=4)(h:∀x∈ws,1<=x/\x<=3):WdsS ws:=by
 refine⟨wds3 l1 l4 h,fv (Cc h) ?_⟩;have:ws.length=1\/ws.length=2\/ws.length=3\/ws.length=4:=yw
 rcases this with e|e|e|e<;>rw[e]<;>decide
theorem Lf{ps:List Part}{ws:List Int}(h:ps.map (fun p=>(p.2.2-p.2.1+1).toNat)=ws.map Int.toNat)(hk:aO (ws.map fun x=>x.toNat+1)<=729):szK ps<=729:=by
 have e:ps.map (fun p=>(p.2.2-p.2.1+1).toNat+1)=ws.map fun x=>x.toNat+1:=by
  have:=congrArg (List.map (· + 1)) h;rw[ge,ge]at this;exact this
 unfold szK;rw[e];exact hk
theorem Lu{Q names number:PN}{p:List bc}{m:Int}(hQ:Q=fun xs S R=>(zX (aA (zZ 0 1 names (zc (zj 0) zq)) (zl 2)) (zX (aA (bD [none,some 0] (cC (zc (dOp aD (dC (.int 1)) (zZ 0 2 zu (zc (zj 0) (zc (zj 1) zq)))) zq)) (zl 0) aC (dOp aD (dC (.int 1)) (zZ 0 2 zu (zc (zj 1) (zc (dC (.int 3)) zq))))) (zl 3)) (zX (aL (dB (dOp aZ (zZ 0 2 zu (zc (zj 0) (zc (dC (.int 12)) zq))) (dC (.int 0)))) (aA (dOp dIx (bA (zc (dOp bK (bA (zc (dC (.int 2)) zq)) (dC (.int 6))) (zc (bA (zc (dC (.int 17)) (zc (dC (.int 17)) zq))) (zc (bA (zc (dC (.int 300)) zq)) (zc (dOp bK (bA (zc (dC (.int 1)) zq)) (dC (.int 8))) zq))))) (zZ 0 2 zu (zc (zj 0) (zc (dC (.int 4)) zq)))) (zl 3)) aG) (zX (aA (bT zq) (zl 4)) (zX (cL (cC (zc (dCB bL (zc (zj 3) zq)) zq)) (zl 5) (zX (aA (zZ 0 1 number (zc (zj 0) zq)) (zl 6)) (bW (dBM dE (zj 4) (zc (aI (zc (dOp dIx (zj 2) (zj 5)) (zc (zj 6) (zc (dOp (dI0 fun i j=>i-j) (dOp aD (zj 6) (dOp dIx (zj 3) (zj 5))) (dC (.int 1))) zq)))) zq))))) (aB (dCB eQ (zc (zj 4) zq)))))))) (aK S.length R) (xs.map some++bh 5 none) S)
  (hnames:∀{p:List bc}{R:RX},aV p->(∀(ns:List Str) p',ns.length=8->(∀z∈ns,gV z=true)->aV p'->R (.d (.list (ns.map kh))) [p'])->names [.l 0] [p] R)
  (hnumber:∀{p:List bc}{R:RX},aV p->(∀r p',-10 ^ 58<=r->r<=10 ^ 58->aV p'->R (.d (.int r)) [p'])->number [.l 0] [p] R)
  (hp:aV p) (m1:0<m) (m4:m<=4) (q:∀(ps:List Part) p',Drw ps->aE ps<=300->szK ps<=729->aV p'->R (.d (aM ps)) [p']):Q [.l 0,.d (.int m)] [p] R:=by
 subst hQ;walk_at "d"
 walk_at "n"
 refine hnames hp fun ns p1 hn hz ag=>?_;walk_at "d"
 walk_at "n"
 refine zO ag m1 (BE m1 yw) fun r p2 r0 r1 al=>?_;walk_at "d";refine ET (α:=Int) (fun x=>1<=x/\x<=3) bj (fun τ=>∃u,τ=[u,some (.l 0)]) _ [] p2 _ ⟨_,rfl⟩ al (by rw[kZ];simp;omega) ?_ ?_
 ·rintro d md _ p acc R' ⟨u,rfl⟩ hp hk;walk_at "d";refine zO hp dz (by decide +kernel) fun r p' r0 r1 am=>?_;walk_at "d";exact hk _ _ p' ⟨_,rfl⟩ am ⟨yw,yw⟩
 ·intro ws p3 ab hw hl;rw[kZ]at hl;have aa:WdsS ws:=LH yw yw hw;rw[nil_append];walk_at "d";refine cut (fun δ S=>∃(p:List bc) (ws:List Int),aV p/\WdsS ws/\S=[p]/\δ=[some (.l 0),some (.d (.int m)),some (.d (.list (ns.map kh))),some (.d (.list (ws.map bj))),none,none,none]) (fun N hN=>?_) ?_
  ·walk_at "d";refine zO ab dz (by decide +kernel) fun r2 p4 r3 r4 ac=>?_;walk_at "d";split
   ·refine zO ac dz (by decide +kernel) fun r5 p5 r6 r7 ai=>?_;obtain⟨d,ed,af,rfl,ae⟩:=rP (P:=fun d=>∃ws:List Int,d=.list (ws.map bj)/\WdsS ws) (ds:=[PyData.list (bh 6 [bj 2]).flatten,.list [.int 17,.int 17],.list [.int 300],.list (bh 8 [bj 1]).flatten]) r6 r7 (by
     intro d m;simp only[jd,gq,or_false]at m;rcases m with rfl|rfl|rfl|rfl
     ·exact⟨[2,2,2,2,2,2],rfl,⟨by decide,by decide,by decide,by decide,by decide⟩,by decide⟩
     ·exact⟨[17,17],rfl,⟨by decide,by decide,by decide,by decide,by decide⟩,by decide⟩
     ·exact⟨[300],rfl,⟨by decide,by decide,by decide,by decide,by decide⟩,by decide⟩
     ·exact⟨[1,1,1,1,1,1,1,1],rfl,⟨by decide,by decide,by decide,by decide,by decide⟩,by decide⟩)
    walk_at "d";refine⟨_,ed,hN _ _ ⟨p5,af,ai,ae,rfl,rfl⟩⟩
   ·exact hN _ _ ⟨p4,ws,ac,aa,rfl,rfl⟩
  rintro _ _ ⟨p,ws,hp,⟨aa,aj⟩,rfl,rfl⟩;have w8:=aa.l8
  walk_at "n"
  walk_at "n";refine fA (fun i δ S=>∃(p:List bc) (ps:List Part) (u1 u2:Option XV),aV p/\ps.length=i/\(∀p∈ps,Prt p)/\ps.map (fun p=>(p.2.2-p.2.1+1).toNat)=(ws.take i).map Int.toNat/\S=[p,ps.map bM]/\δ=[some (.l 0),some (.d (.int m)),some (.d (.list (ns.map kh))),some (.d (.list (ws.map bj))),some (.l 1),u1,u2]) ⟨p,[],_,_,hp,rfl,yv,rfl,rfl,rfl⟩ ?_ ?_
  ·rintro i d _ _ N hi ⟨p,ps,u1,u2,hp,hl,ha,hs,rfl,rfl⟩ hN;obtain⟨ak,rfl⟩:=rO hi;have iw:i<ws.length:=by simpa using ak
   have i8:i<ns.length:=yw
   have e:=cK (f:=kh) (bi i8);have ew:=cK (f:=bj) (bi iw);have w1:=aa.pos _ (kz iw);have an:=aa.le _ (kz iw);have e0:(0:Int)+(i:Int)=(i:Int):=yw
   walk_at "d"
   walk_at "n"
   refine hnumber hp fun lo p3 h1 h2 ab=>?_;walk_at "d";rw[e0];refine⟨_,e,?_⟩;walk_at "d";refine⟨_,ew,?_⟩;walk_at "d";refine⟨yw,hN _ _ ⟨p3,ps++[(ns[i],lo,lo+ws[i]-1)],_,_,ab,by simp[hl],fun x hx=>?_,?_,by simp[bM],rfl⟩⟩
   ·rcases mem_append.mp hx with hx|hx
    ·exact ha x hx
    ·rw[mem_singleton.mp hx];exact⟨hz _ (kz i8),by simp only;omega,h1,by simp only;omega⟩
   ·rw[fm,hs,gA (bi iw),fm];congr 1;simp only[ft,qr,pb,and_true];omega
  ·rintro _ _ ⟨p,ps,u1,u2,hp,hl,ha,hs,rfl,rfl⟩;rw[kZ]at hl hs;have ah:(ws.length:Int).toNat=ws.length:=by simp
   rw[ah]at hl hs;rw[ld]at hs;walk_at "d";have ao:=aa.l1;exact q ps p ⟨yw,yw,ha⟩ (by unfold aE;rw[hs];exact aa.prod) (Lf hs aj) hp
theorem Ej{ps:List Part}{g:Gap}{ts:List Term}{w:Int}(ho:Ord ps)(hT:TsOk ps.length ts):(plT ps g ts w).1<=ts.length:=by
 have:=CC (g:=g) (D:=fun _=>true) (w:=w) ho hT fun a b ha hb h=>by
  have:a=b:=ext_getElem (by rw[ha.len,hb.len]) fun k h1 h2=>by
   have:=h k rfl;rw[cg,cg,bi h1,bi h2]at this;exact this
  rw[this]
 exact fv this List.countP_le_length
section
variable {C a:Addr}{ps:List Part}{g:Gap}{T0:List Term}
abbrev slf (C a:Addr) (ps:List Part) (g:Gap):XV:=.i C [("drawing",.inl (aM ps)),("gap",.inl (cR g)),("known",.inr (.ref a))]
def xF:bc->Int
 | .tuple [.int k,_]=>k
 |_=>0
theorem LV{aa:PNm}{ts:List Term}{w:Int}{ob:Obj}{m:List (KG GK×bc)}{R:bc->Sto->DM->Prop}(hT:TsOk ps.length ts)(hl:ts.length<=8)(hK:Kn ps g T0 m)
  (hq:∀{i:Nat}{t:Term}{ob:Obj}{m:List (KG GK×bc)}{R:bc->Sto->DM->Prop},ts[i]?=some t->Kn ps g T0 m->(∀ac m',Kn ps g T0 m'->R (ptD (meas ps (plT ps g) ts w t i)) [] [(a,.g GK ac m')])->aa [slf C a ps g,.d (dR ts),.d (.int i),.d (.int w)] [] [(a,.g GK ob m)] R)
  (q:∀ac m',Kn ps g T0 m'->R (ptD (plT ps g ts w)) [] [(a,.g GK ac m')]):r8 C aa [slf C a ps g,.d (dR ts),.d (.int w)] [] [(a,.g GK ob m)] R:=by
 unfold r8;walk_at "d";refine seqm ?_;walk_at "d";cases ts with
 |nil=>
  refine⟨false,rfl,?_⟩;rw[cq rfl];have ab:R (ptD (lf g w)) [] [(a,.g GK ob m)]:=q ob m hK;unfold ptD lf lfW at ab;refine⟨_,.inl (cR g),rfl,rfl,?_⟩;rw[gF];walk_at "d";by_cases h1:g.lo<=w
  ·rw[cq h1];refine⟨_,.inl (cR g),rfl,rfl,?_⟩;rw[gF];walk_at "d";by_cases h2:w<=g.hi
   ·rw[cq h2];rw[cq ⟨h1,h2⟩]at ab;exact ab
   ·rw[ck h2];rw[ck fun z=>h2 z.2]at ab;exact ab
  ·rw[ck h1];rw[ck fun z=>h1 z.1]at ab;exact ab
 |cons t1 ts1=>
  refine⟨true,rfl,?_⟩;rw[ck dz];generalize hts:t1::ts1=ts at *;have ne:ts≠[]:=by rw[<- hts];simp
  walk_at "d";refine⟨ts.length,by unfold dR;walk_at "d",?_⟩;rw[gg,d7];refine cmpm (S0:=[]) (h:=fun k:Nat=>.int (0+k)) (fun M=>∃ob m,Kn ps g T0 m/\M=[(a,.g GK ob m)]) (fun i:Nat=>ptD (meas ps (plT ps g) ts w (ts.getD i t0) i)) rfl (dm ts.length) (by simp;omega) ⟨ob,m,hK,rfl⟩ ?_ ?_
  ·rintro i mi u acc _ R' ⟨ob,m,hK,rfl⟩ hk;have hi:=mem_range.mp mi;have et:ts[i]?=some (ts.getD i t0):=by rw[bi hi,cg,bi hi];rfl
   walk_at "d";refine⟨_,rfl,rfl,?_⟩;rw[rk];exact hq et hK fun ac m' ae=>⟨rfl,hk _ _ ⟨ac,m',ae,rfl⟩⟩
  ·rintro _ ⟨ob,m,hK,rfl⟩;obtain⟨l,el⟩:∃l,l=(dm ts.length).map fun i=>meas ps (plT ps g) ts w (ts.getD i t0) i:=⟨_,rfl⟩;have em:(dm ts.length).map (fun i:Nat=>ptD (meas ps (plT ps g) ts w (ts.getD i t0) i))=l.map ptD:=by rw[el,ge];rfl
   rw[em];refine⟨[],l.map ptD,rfl,rfl,l.map ptD,[],xF,rfl,rfl,fun d md R' hR=>?_,fun z=>?_,fun pre d post e h1 h2=>?_⟩
   ·obtain⟨x,_,rfl⟩:=mem_map.mp md;rw[kF]at hR ⊢;walk_at "d";exact hR
   ·rw[map_eq_nil_iff,el,map_eq_nil_iff,List.range_eq_nil]at z;exact ne (cx z)
   ·obtain⟨l1,l2,rfl,rfl,e2⟩:=List.map_eq_append_iff.mp e;obtain⟨x,l3,rfl,rfl,rfl⟩:=List.map_eq_cons_iff.mp e2;have:plT ps g ts w=x:=by
     rw[xW ne,<- el];refine Au (fun y my=>?_) fun y my=>?_
     ·have:=h1 (ptD y) (mem_map.mpr ⟨y,my,rfl⟩);unfold xF ptD at this;simp only at this;omega
     ·have:=h2 (ptD y) (mem_map.mpr ⟨y,my,rfl⟩);unfold xF ptD at this;simp only at this;omega
    rw[<- this];exact q ob m hK
theorem C4{α:Type}{f:α->bc}{ts:List α}{i:Nat}(il:i<=ts.length):aS (ts.map f) none (some (i:Int))=(ts.take i).map f:=by
 have e1:HT.sIx (ts.map f).length (ts.map f).length (some (i:Int))=i:=by rw[HT.sIx_nat,bq];omega
 have e2:HT.sIx (ts.map f).length 0 none=0:=rfl;unfold aS;rw[e1,e2,Nat.sub_zero,List.drop_zero,List.map_take]
theorem F7{aa:PNm}{ts:List Term}{w:Int}{i:Nat}{t:Term}{ob:Obj}{m:List (KG GK×bc)}{R:bc->Sto->DM->Prop}(ho:Ord ps)(hs:aE ps<=300)(hT:TsOk ps.length ts)(h3:∀t∈ts,-3<=t.2/\t.2<=3)(hl:ts.length<=8)(e:ts[i]?=some t)(hK:Kn ps g T0 m)
  (hq:∀{x:Int}{ob:Obj}{m:List (KG GK×bc)}{R:bc->Sto->DM->Prop},x∈aH (part ps t.1)->Kn ps g T0 m->(∀ac m',Kn ps g T0 m'->R (ptD (plT ps g (aW ts i) (w+t.2*x))) [] [(a,.g GK ac m')])->aa [slf C a ps g,.d (dR (aW ts i)),.d (.int (w+t.2*x))] [] [(a,.g GK ob m)] R)
  (q:∀ac m',Kn ps g T0 m'->R (ptD (meas ps (plT ps g) ts w t i)) [] [(a,.g GK ac m')]):tB C aa [slf C a ps g,.d (dR ts),.d (.int i),.d (.int w)] [] [(a,.g GK ob m)] R:=by
 unfold tB;have mt:=bw e;have ht:=hT.ok t mt;have ei:=cK (f:=tmD) e;have ep:=cK (f:=bM) (eX ht);have il:=(List.getElem?_eq_some_iff.mp e).1;unfold dR at hq ⊢;walk_at "d";refine seqm ?_;walk_at "d";refine⟨_,ei,?_⟩;rw[nX];walk_at "d";refine seqm ?_;walk_at "d";refine⟨_,.inl (aM ps),rfl,rfl,?_⟩;rw[gR];walk_at "d";refine⟨_,ep,?_⟩;walk_at "d";refine yG ?_;walk_at "d";refine seqm ?_;walk_at "d";have ag:(ts.take i).length=i:=by rw[gz];omega
 have aj:(ts.drop (i+1)).length=ts.length-(i+1):=qz ..;rw[C4 yw,DC il,<- fm];refine⟨fun z=>?_,fun z=>?_,by rw[bq,bq,ag,aj];omega,?_⟩
 ·have:=z.2;rw[HT.sIx_nat]at this;omega
 ·have:=z.1;rw[show ((i:Int)+1)=((i+1:Nat):Int) by omega,HT.sIx_nat]at this;omega
 show bI _ _ _ [_,_,_,_,_,_,some (.d (.tuple ((aW ts i).map tmD))),_,_,_] _ _;refine seqm ?_;unfold spD;walk_at "d";rw[D1];have ah:(part ps t.1).2.1<=(part ps t.1).2.2:=ho.at ht;have hw:=j6 ho ht;have rl:(aH (part ps t.1)).length<=300:=by
  rw[g5];have e1:phi ps t.1=(part ps t.1).2.2:=rfl;have e2:plo ps t.1=(part ps t.1).2.1:=rfl;rw[e1,e2]at hw;omega
 refine cmp1 (S0:=[]) (h:=bj) (fun x:Int=>.int (w+t.2*x)) rfl (aH (part ps t.1)) yw ?_ ?_
 ·intro x mx u acc R' hk;have:=h3 t mt;walk_at "d";refine⟨_,ei,?_⟩;rw[nX];walk_at "d";exact⟨d9 yw yw,hk _⟩
 walk_at "d";refine seqm ?_;walk_at "d";refine cmpm (S0:=[]) (h:=fun x:Int=>.int (w+t.2*x)) (fun M=>∃ob m,Kn ps g T0 m/\M=[(a,.g GK ob m)]) (fun x:Int=>ptD (plT ps g (aW ts i) (w+t.2*x))) rfl (aH (part ps t.1)) yw ⟨ob,m,hK,rfl⟩ ?_ ?_
 ·rintro x mx u acc _ R' ⟨ob,m,hK,rfl⟩ hk;walk_at "d";refine⟨_,rfl,rfl,?_⟩;exact hq mx hK fun ac m' al=>⟨rfl,hk _ _ ⟨ac,m',al,rfl⟩⟩
 rintro _ ⟨ob,m,hK,rfl⟩;obtain⟨fs,ab⟩:∃fs,fs=(aH (part ps t.1)).map fun x=>plT ps g (aW ts i) (w+t.2*x):=⟨_,rfl⟩;have em:(aH (part ps t.1)).map (fun x:Int=>ptD (plT ps g (aW ts i) (w+t.2*x)))=fs.map ptD:=by rw[ab,ge];rfl
 have fl:fs.length<=300:=by rw[ab,bq];exact rl
 obtain⟨f0,fr,ef⟩:∃f0 fr,fs=f0::fr:=by
  obtain⟨r,er⟩:=y6 ah;rw[ab,er];exact⟨_,_,rfl⟩
 rw[em];have af:∀y∈fs,ci (ptD y)=true:=fun y my=>by
  rw[ab]at my;obtain⟨x,_,rfl⟩:=mem_map.mp my;have:=Ej (g:=g) (w:=w+t.2*x) ho (hT.cut e);rw[l5 il]at this;exact(E1 ((uY ho (hT.cut e)).pl [] yv)).ok yw
 have ak:meas ps (plT ps g) ts w t i=join t.1 fs:=by rw[ab];rfl
 rw[ak]at q;refine⟨[],fs.map ptD,rfl,rfl,?_⟩;refine seqm ?_;walk_at "d";refine cmp1 (S0:=[]) (h:=ptD) (fun y:PlT=>.int y.1) rfl fs yw ?_ ?_
 ·intro y my u acc R' hk;rw[kF];walk_at "d";exact hk _
 walk_at "d";refine⟨_,rfl,fs.map fun y=>((y.1:Nat):Int),by rw[ge];rfl,by rw[ef];simp,fun mx m1 m2=>?_⟩;have ai:mx=(mxN (fs.map (·.1)):Nat):=by
  refine uI (l:=fs.map (·.1)) ?_ fun a ma=>?_
  ·obtain⟨y,my,rfl⟩:=mem_map.mp m1;exact⟨_,mem_map.mpr ⟨y,my,rfl⟩,rfl⟩
  ·obtain⟨y,my,rfl⟩:=mem_map.mp ma;exact m2 _ (mem_map.mpr ⟨y,my,rfl⟩)
 subst ai;walk_at "d";refine seqm ?_;walk_at "d";have e0:atI (fs.map ptD) 0=some (ptD f0):=by
  have:fs[0]?=some f0:=by rw[ef];rfl
  exact cK (f:=ptD) (k:=0) this
 refine cmp1 (S0:=[]) (h:=ptD) (fun y:PlT=>.bool (cv (ptD y) (ptD f0))) rfl fs yw ?_ ?_
 ·intro y my u acc R' hk;walk_at "d";refine⟨_,e0,?_⟩;walk_at "d";exact⟨af y my,af f0 (by rw[ef];exact br),hk _⟩
 walk_at "d";refine⟨fs.map fun y=>cv (ptD y) (ptD f0),by rw[ge];rfl,?_⟩;have ae:(fs.map fun y=>cv (ptD y) (ptD f0)).all id=fs.all fun y=>cv (ptD y) (ptD (fs.headD (0,.none))):=by
  rw[all_map,show fs.headD (0,.none)=f0 by rw[ef];rfl];rfl
 rw[ae];unfold join at q;by_cases hall:(fs.all fun y=>cv (ptD y) (ptD (fs.headD (0,.none))))=true
 ·rw[cq hall];rw[cq hall,show fs.headD (0,.none)=f0 by rw[ef];rfl]at q;exact⟨_,e0,q ob m hK⟩
 ·rw[ck hall];rw[ck hall]at q;refine cmp1 (S0:=[]) (h:=ptD) (fun y:PlT=>y.2) rfl fs yw ?_ ⟨[],fs.map (·.2),rfl,rfl,?_⟩
  ·intro y my u acc R' hk;rw[kF];walk_at "d";exact hk _
  ·exact q ob m hK
theorem CH(ho:Ord ps)(hs:aE ps<=300)(hk:szK ps<=729)(aa:TsOk ps.length T0)(h3:∀t∈T0,-3<=t.2/\t.2<=3)(hl:T0.length<=8):∀{n:Nat}{ts:List Term}{w:Int}{ob:Obj}{m:List (KG GK×bc)}{R:bc->Sto->DM->Prop},ts.length<n->(ts,w)∈ksT ps T0 0->Kn ps g T0 m ->
  (∀z m',Kn ps g T0 m'->R (ptD (plT ps g ts w)) [] [(a,.g GK z m')])->mW C n [slf C a ps g,.d (dR ts),.d (.int w)] [] [(a,.g GK ob m)] R
 | 0,ts,w,ob,m,R,h,_,_,_=>by omega
 |n+1,ts,w,ob,m,R,h,hm,hK,q=>by
  have sub:=yQ hm;have hT:=aa.sub sub;have l8:ts.length<=T0.length:=sub.length_le;rw[mW];walk_at "d";refine seqm ?_;walk_at "d";refine⟨_,.inr (.ref a),rfl,rfl,?_⟩;walk_at "d";refine⟨a,ob,m,kyT (ts,w),rfl,yv,(kdT (ts,w)).symm,?_⟩;by_cases hin:(lkA m (kyT (ts,w))).isSome=true
  ·rw[ck (by rw[hin];decide)];obtain⟨d,ed⟩:=isSome_iff_exists.mp hin;refine⟨_,.inr (.ref a),rfl,rfl,?_⟩;walk_at "d";refine⟨a,ob,m,kyT (ts,w),d,rfl,yv,(kdT (ts,w)).symm,ed,?_⟩;rw[hK.get ed];exact q ob m hK
  ·rw[cq (by simpa using hin)];refine⟨_,rfl,rfl,?_⟩;refine LV (g:=g) (T0:=T0) hT yw hK (fun {i t ob m R} e hK q'=>?_) fun z m' ab=>⟨rfl,?_⟩
   ·refine F7 ho hs hT (fun t mt=>h3 t (sub.subset mt)) yw e hK (fun {x ob m R} mx hK q''=>?_) q';have il:=(List.getElem?_eq_some_iff.mp e).1;exact CH ho hs hk aa h3 hl (by rw[l5 il];omega) (AG hm e mx) hK q''
   ·walk_at "d";refine⟨_,.inr (.ref a),rfl,rfl,?_⟩;walk_at "d";have ml:=ab.len aa;refine⟨a,z,m',rfl,yv,kyT (ts,w),(kdT (ts,w)).symm,yw,fun ac=>?_⟩;refine⟨_,.inr (.ref a),rfl,rfl,?_⟩;walk_at "d";refine⟨a,ac,stG m' (kyT (ts,w)) (ptD (plT ps g ts w)),kyT (ts,w),ptD (plT ps g ts w),rfl,by simp[cV],(kdT (ts,w)).symm,Ku,?_⟩;simp only[cV,ft,qr,if_true];exact q _ _ (ab.put hm)
end
theorem Cq{ps:List Part}{g:Gap}(ho:Ord ps)(hs:aE ps<=300)(hk:szK ps<=729)(hT:Tms ps.length g.ts)(h8:ps.length<=8)(q:R (.d (plT ps g g.ts 0).2) []):qJ [.d (aM ps),.d (cR g)] [] R:=by
 unfold qJ;intro C;walk_at "d"
 walk_at "n"
 refine Ed ho hs ?_;walk_at "d";have z:TsOk ps.length g.ts:=⟨fun t m=>(hT.ok t m).1,hT.srt⟩;refine⟨_,_,rfl,rfl,?_⟩;rw[gF];walk_at "d";intro p;rw[<- gF];refine CH (T0:=g.ts) ho hs hk z (fun t m=>(hT.ok t m).2.2) (by have:=hT.len;omega) (by have:=hT.len;omega) (Ck ps g.ts 0) ⟨fun p m=>(by cases m),pf⟩ fun aa m' _=>⟨rfl,?_⟩;rw[kF];walk_at "d";exact q
end
section
variable {R:RX}{S:Sto}
abbrev Spn:=Int×Int
def sA(sp:List Spn)(k:Nat):Spn:=sp.getD k (0,0)
structure InB(sp:List Spn)(a:List Int):Prop where
 len:a.length=sp.length
 ok:∀k,k<sp.length->(sA sp k).1<=a.getD k 0/\a.getD k 0<=(sA sp k).2
def Cst(g:Gap)(sp:List Spn):Prop:=∀a b,InB sp a->InB sp b->zT g a=zT g b
inductive Dc (g:Gap):Nat->List Spn->Prop
 |cst {n sp} (h:Cst g sp):Dc g n sp
 |meas {n sp} (k:Nat) (hk:k<sp.length) (h:∀x,(sA sp k).1<=x->x<=(sA sp k).2->Dc g n (sp.set k (x,x))):Dc g (n+1) sp
theorem Dc.mono{g:Gap}{n:Nat}{sp:List Spn}(h:Dc g n sp):∀{m:Nat},n<=m->Dc g m sp:=by
 induction h with
 |cst h=>intro m _;exact .cst h
 | @meas n sp k hk h ih=>
  intro m hm;obtain⟨m,rfl⟩:∃j,m=j+1:=⟨m-1,yw⟩;exact .meas k hk fun x h1 h2=>ih x h1 h2 yw
theorem iA{sp:List Spn}{k:Nat}{s:Spn}(h:k<sp.length):sA (sp.set k s) k=s:=by
 unfold sA;rw[cg,kt h];rfl
theorem fV{sp:List Spn}{k j:Nat}{s:Spn}(h:j≠k):sA (sp.set k s) j=sA sp j:=by
 unfold sA;rw[cg,lu (fun z=>h z.symm),<- cg]
theorem pD{sp:List Spn}{k:Nat}(h:k<sp.length):sp[k]?=some (sA sp k):=by
 unfold sA;rw[cg,bi h];rfl
theorem InB.up{sp:List Spn}{k:Nat}{x:Int}{a:List Int}(hk:k<sp.length)(h1:(sA sp k).1<=x)(h2:x<=(sA sp k).2)(h:InB (sp.set k (x,x)) a):InB sp a/\a.getD k 0=x:=by
 have hl:=h.len;rw[ie]at hl;have hx:=h.ok k (by rw[ie];exact hk);rw[iA hk]at hx;have e:a.getD k 0=x:=by simp only at hx;omega
 refine⟨⟨hl,fun j hj=>?_⟩,e⟩;by_cases z:j=k
 ·rw[z,e];exact⟨h1,h2⟩
 ·have:=h.ok j (by rw[ie];exact hj)
  rwa [fV z]at this
theorem InB.down{sp:List Spn}{k:Nat}{a:List Int}(hk:k<sp.length)(h:InB sp a):InB (sp.set k (a.getD k 0,a.getD k 0)) a:=by
 refine⟨by rw[ie];exact h.len,fun j hj=>?_⟩;rw[ie]at hj;by_cases z:j=k
 ·rw[z,iA hk];exact⟨fy _,fy _⟩
 ·rw[fV z];exact h.ok j hj
def dD(ps:List Part):List Spn:=ps.map fun p=>(p.2.1,p.2.2)
theorem hU(ps:List Part):(dD ps).length=ps.length:=bq ..
theorem kG{ps:List Part}{k:Nat}(h:k<ps.length):sA (dD ps) k=(plo ps k,phi ps k):=by
 unfold sA dD;rw[cg,fh,eX h];rfl
theorem Fb{ps:List Part}{a:List Int}:InB (dD ps) a↔InBox ps a:=by
 constructor
 ·intro h;refine⟨by rw[h.len,hU],fun k hk=>?_⟩;have:=h.ok k (by rw[hU];exact hk)
  rwa [kG hk]at this
 ·intro h;refine⟨by rw[h.len,hU],fun k hk=>?_⟩;rw[hU]at hk;rw[kG hk];exact h.ok k hk
def wdS(g:Gap)(a:List Int):Str:=if zT g a=true then "keeps" else "breaks"
theorem LQ{g:Gap}{a b:List Int}(h:wdS g a=wdS g b):zT g a=zT g b:=by
 unfold wdS at h;cases ha:zT g a<;>cases hb:zT g b<;>rw[ha,hb]at h<;>first|rfl|exact absurd h dz
structure Sub(ps:List Part)(sp:List Spn):Prop where
 len:sp.length=ps.length
 ok:∀k,k<ps.length->plo ps k<=(sA sp k).1/\(sA sp k).2<=phi ps k
theorem Sub.set{ps:List Part}{sp:List Spn}{k:Nat}{x:Int}(h:Sub ps sp)(hk:k<ps.length)(h1:(sA sp k).1<=x)(h2:x<=(sA sp k).2):Sub ps (sp.set k (x,x)):=by
 refine⟨by rw[ie];exact h.len,fun j hj=>?_⟩;by_cases z:j=k
 ·have:=h.ok k hk;rw[z,iA (by rw[h.len];exact hk)];simp only;omega
 ·rw[fV z];exact h.ok j hj
theorem Gx{ps:List Part}{g:Gap}:∀{n:Nat}{ms:List Nat}{d:bc},IsPl ps ms n d->∀{sp:List Spn},Sub ps sp->(∀a,InB sp a->∃js,Led (plo ps) a d js (wdS g a))->Dc g n sp:=by
 intro n ms d h;induction h with
 | @leaf ms n w hw=>
  intro sp _ hL;refine .cst fun a b ha hb=>?_;obtain⟨_,h1⟩:=hL a ha;obtain⟨_,h2⟩:=hL b hb;exact LQ ((h1.uniq (.leaf hw)).2.trans (h2.uniq (.leaf hw)).2.symm)
 | @node ms n k l hk hm hl h ih=>
  intro sp hs hL;have ks:k<sp.length:=by rw[hs.len];exact hk
  refine .meas k ks fun x h1 h2=>?_;have b:=hs.ok k hk;have hi:(x-plo ps k).toNat<l.length:=yw
  refine ih _ (kz hi) (hs.set hk h1 h2) fun a ha=>?_;obtain⟨ia,ea⟩:=ha.up ks h1 h2;obtain⟨js,hj⟩:=hL a ia;cases hj with
  | @node _ i _ d' js' _ hk' hi' hd' h'=>
   have:i=(x-plo ps k).toNat:=yw
   subst this;rw[bi hi]at hd';cases hd';exact⟨js',h'⟩
theorem xK(g:Gap)(a:List Int):lfW g (worth g.ts a)=wdS g a:=by
 unfold lfW wdS zT;simp only[decide_eq_true_eq]
theorem IT{ps:List Part}:Sub ps (dD ps):=⟨hU ps,fun k hk=>by rw[kG hk];exact⟨fy _,fy _⟩⟩
theorem HN{ps:List Part}{g:Gap}(ho:Ord ps)(hT:TsOk ps.length g.ts):Dc g (plT ps g g.ts 0).1 (dD ps):=by
 have hg:=uY (g:=g) (w:=0) ho hT;refine Gx (hg.pl [] yv) IT fun a ha=>?_;obtain⟨js,hj⟩:=hg.led a (Fb.mp ha);rw[rk,xK]at hj;exact⟨js,hj⟩
structure Rp(ps:List Part)(g:Gap)(sp:List Spn)(ts:List Term)(w:Int):Prop where
 len:sp.length=ps.length
 ful:∀k,k<ps.length->sA sp k=(plo ps k,phi ps k)\/∃x,plo ps k<=x/\x<=phi ps k/\sA sp k=(x,x)
 frt:∀t∈ts,sA sp t.1=(plo ps t.1,phi ps t.1)
 ok:TsOk ps.length ts
 w:∀a,InB sp a->w+worth ts a=worth g.ts a
theorem Rp.set{ps:List Part}{g:Gap}{sp:List Spn}{ts us:List Term}{w v x:Int}{k:Nat}(h:Rp ps g sp ts w)(ho:Ord ps)(hk:k<ps.length)(h1:(sA sp k).1<=x)(h2:x<=(sA sp k).2)(hu:us.Sublist ts)(hn:∀u∈us,u.1≠k)
  (hw:∀a,InB (sp.set k (x,x)) a->v+worth us a=w+worth ts a):Rp ps g (sp.set k (x,x)) us v:=by
 have ks:k<sp.length:=by rw[h.len];exact hk
 refine⟨by rw[ie];exact h.len,fun j hj=>?_,fun u mu=>?_,h.ok.sub hu,fun a ha=>?_⟩
 ·by_cases z:j=k
  ·rw[z,iA ks];refine .inr ⟨x,?_,?_,rfl⟩
   ·rcases h.ful k hk with e|⟨y,y1,y2,e⟩<;>rw[e]at h1 h2<;>simp only at h1 h2<;>omega
   ·rcases h.ful k hk with e|⟨y,y1,y2,e⟩<;>rw[e]at h1 h2<;>simp only at h1 h2<;>omega
  ·rw[fV z];exact h.ful j hj
 ·rw[fV (hn u mu)];exact h.frt u (hu.subset mu)
 ·rw[hw a ha];exact h.w a (ha.up ks h1 h2).1
theorem JB{ps:List Part}{g:Gap}(ho:Ord ps):∀{n:Nat}{sp:List Spn},Dc g n sp->∀{ts:List Term}{w:Int},Rp ps g sp ts w->(plT ps g ts w).1<=n:=by
 intro n sp h;induction h with
 | @cst n sp h=>
  intro ts w hr;have af:∀a,InBox ps a->∃a',InB sp a'/\worth ts a'=worth ts a:=fun a ha=>by
   refine⟨(dm ps.length).map fun k=>if sA sp k=(plo ps k,phi ps k)then a.getD k 0 else (sA sp k).1,⟨by rw[bq,on,hr.len],fun k hk=>?_⟩,?_⟩
   ·rw[hr.len]at hk;rw[cg,fh,qe hk];simp only[map_some,Option.getD_some];by_cases e:sA sp k=(plo ps k,phi ps k)
    ·rw[cq e,e];exact ha.ok k hk
    ·rw[ck e];rcases hr.ful k hk with z|⟨x,x1,x2,z⟩
     ·exact absurd z e
     ·rw[z];exact⟨fy _,fy _⟩
   ·unfold worth;congr 1;refine nv fun t mt=>?_;have ht:=hr.ok.ok t mt;rw[cg,fh,qe ht];simp only[map_some,Option.getD_some];rw[cq (hr.frt t mt)]
  have:=CC (g:=g) (D:=fun _=>false) (w:=w) ho hr.ok fun a b ha hb _=>by
   obtain⟨a',i1,e1⟩:=af a ha;obtain⟨b',i2,e2⟩:=af b hb;rw[<- e1,<- e2,hr.w a' i1,hr.w b' i2,xK,xK];unfold wdS;rw[h a' b' i1 i2]
  have z:iF (fun _=>false) ts=0:=List.countP_eq_zero.mpr fun _ _=>by simp
  omega
 | @meas n sp k hk h ih=>
  intro ts w hr;have aa:k<ps.length:=by rw[<- hr.len];exact hk
  have ae:=ho.at aa;have q:(sA sp k).1<=(sA sp k).2:=by
   rcases hr.ful k aa with e|⟨x,x1,x2,e⟩
   ·rw[e];exact ae
   ·rw[e];exact fy _
  by_cases hm:∃(i:Nat) (t:Term),ts[i]?=some t/\t.1=k
  ·obtain⟨i,t,e,et⟩:=hm;subst et;have mt:=bw e;have es:=hr.frt t mt;refine fv (yR e) (CL (v7 ho aa) fun y my=>?_);obtain⟨x,mx,rfl⟩:=mem_map.mp my;obtain⟨b1,b2⟩:=(mX (p:=part ps t.1) ae).mp mx;have ab:(sA sp t.1).1<=x:=by rw[es];exact b1
   have ac:x<=(sA sp t.1).2:=by rw[es];exact b2
   refine ih x ab ac (hr.set ho aa ab ac (lU e) (fun u mu=>hr.ok.ne e mu) fun a ha=>?_);rw[vJ e,(ha.up hk ab ac).2];omega
  ·have ag:∀u∈ts,u.1≠k:=fun u mu z=>by
    obtain⟨i,hi,rfl⟩:=List.mem_iff_getElem.mp mu;exact hm ⟨i,_,bi hi,z⟩
   exact Nat.le_succ_of_le (ih _ (fy _) q (hr.set ho aa (fy _) q (List.Sublist.refl _) ag fun a _=>rfl))
theorem J9{ps:List Part}{g:Gap}(hT:TsOk ps.length g.ts):Rp ps g (dD ps) g.ts 0:=⟨hU ps,fun k hk=>.inl (kG hk),fun t mt=>kG (hT.ok t mt),hT,fun a _=>rk _⟩
structure Lst(g:Gap)(sp:List Spn)(d:Nat):Prop where
 dc:Dc g d sp
 le:∀n,Dc g n sp->d<=n
theorem Lst.uniq{g:Gap}{sp:List Spn}{d e:Nat}(h:Lst g sp d)(h':Lst g sp e):d=e:=Nat.le_antisymm (h.le _ h'.dc) (h'.le _ h.dc)
theorem Gp{ps:List Part}{g:Gap}(ho:Ord ps)(hT:TsOk ps.length g.ts):Lst g (dD ps) (plT ps g g.ts 0).1:=⟨HN ho hT,fun _ h=>JB ho h (J9 hT)⟩
theorem vO{g:Gap}:∀(j:Nat) {sp:List Spn},j<=sp.length->(∀k,j<=k->k<sp.length->(sA sp k).2<=(sA sp k).1)->Dc g j sp
 | 0,sp,_,h=>.cst fun a b ha hb=>by
  have e:a=b:=ext_getElem (by rw[ha.len,hb.len]) fun k h1 h2=>by
   have hk:k<sp.length:=by rw[<- ha.len];exact h1
   have x:=ha.ok k hk;have y:=hb.ok k hk;have z:=h k (ji _) hk;rw[cg,bi h1]at x;rw[cg,bi h2]at y;simp only[Option.getD_some]at x y;omega
  rw[e]
 |j+1,sp,hj,h=>.meas j yw fun x _ _=>vO j (by rw[ie];omega) fun k h1 h2=>by
   rw[ie]at h2;by_cases z:k=j
   ·rw[z,iA yw];exact fy _
   ·rw[fV z];exact h k yw h2
theorem Fo{g:Gap}{sp:List Spn}:∀n,Dc g n sp->∃d,Lst g sp d:=fun n=>by
 induction n using Nat.strongRecOn with
 |ind n ih=>
  intro h;by_cases z:∃m,m<n/\Dc g m sp
  ·obtain⟨m,h1,h2⟩:=z;exact ih m h1 h2
  ·exact⟨n,h,fun m hm=>Nat.le_of_not_lt fun hl=>z ⟨m,hl,hm⟩⟩
noncomputable def dF (g:Gap) (sp:List Spn):Nat:=Classical.epsilon fun d=>Lst g sp d
theorem lE(g:Gap)(sp:List Spn):Lst g sp (dF g sp):=Classical.epsilon_spec (Fo _ (vO (g:=g) sp.length (cz _) fun k h1 h2=>by omega))
open Classical in
noncomputable def wF (g:Gap) (sp:List Spn):Nat:=if ∀a,InB sp a->zT g a=true then 1 else if ∀a,InB sp a->zT g a=false then 0 else 2
theorem Il(g:Gap)(sp:List Spn):wF g sp<=2:=by
 unfold wF;split
 ·decide
 ·split
  ·decide
  ·decide
theorem Kv{g:Gap}{sp:List Spn}(h:∀a,InB sp a->zT g a=true):wF g sp=1:=by
 unfold wF;rw[cq h]
theorem G9{g:Gap}{sp:List Spn}{a:List Int}(ha:InB sp a)(h:∀a,InB sp a->zT g a=false):wF g sp=0:=by
 have no:¬ ∀a,InB sp a->zT g a=true:=fun z=>by
  have:=z a ha;rw[h a ha]at this;cases this
 unfold wF;rw[ck no,cq h]
theorem yF{g:Gap}{sp:List Spn}{a:List Int}(ha:InB sp a)(h:Cst g sp):wF g sp=(zT g a).toNat:=by
 cases hk:zT g a with
 |true=>exact Kv fun b hb=>by rw[h b a hb ha,hk]
 |false=>exact G9 ha fun b hb=>by rw[h b a hb ha,hk]
theorem LW{g:Gap}{sp:List Spn}{b:Bool}(h:wF g sp=b.toNat):∀a,InB sp a->zT g a=b:=by
 unfold wF at h;split at h
 ·rename_i z;cases b
  ·cases h
  ·exact z
 ·split at h
  ·rename_i z;cases b
   ·exact z
   ·cases h
  ·cases b<;>cases h
theorem Jj{g:Gap}{sp:List Spn}(h:¬ Cst g sp):wF g sp=2:=by
 unfold wF;rw[ck fun z=>h fun a b ha hb=>by rw[z a ha,z b hb],ck fun z=>h fun a b ha hb=>by rw[z a ha,z b hb]]
theorem IX{g:Gap}{sp:List Spn}{k:Nat}{b:Bool}(hk:k<sp.length)(h:∀x,(sA sp k).1<=x->x<=(sA sp k).2->wF g (sp.set k (x,x))=b.toNat):∀a,InB sp a->zT g a=b:=fun a ha=>
 LW (h (a.getD k 0) (ha.ok k hk).1 (ha.ok k hk).2) a (ha.down hk)
theorem Lo{g:Gap}{sp:List Spn}{k:Nat}{b:Bool}{x:Int}{a:List Int}(hk:k<sp.length)(h:∀a,InB sp a->zT g a=b)(h1:(sA sp k).1<=x)(h2:x<=(sA sp k).2)(ha:InB (sp.set k (x,x)) a):wF g (sp.set k (x,x))=b.toNat:=by
 have hc:Cst g (sp.set k (x,x)):=fun u v hu hv=>by rw[h u (hu.up hk h1 h2).1,h v (hv.up hk h1 h2).1]
 rw[yF ha hc,h a (ha.up hk h1 h2).1]
theorem Jx{sp:List Spn}{k:Nat}{s:Spn}(hk:k<sp.length)(e:sA sp k=s):sp.set k s=sp:=by
 refine ext_getElem (ie ..) fun j h1 h2=>?_;by_cases z:j=k
 ·subst z;rw[List.getElem_set_self];have:=pD h2;rw[bi h2]at this;rw[<- e];exact(gb this).symm
 ·rw[List.getElem_set_ne fun y=>z y.symm]
theorem Ht{g:Gap}{sp:List Spn}{W:List Nat}{mx:Nat->Nat}{m:Nat}(aa:∀k,k<sp.length->(sA sp k).1<=(sA sp k).2)(hW:∀k,k∈W↔k<sp.length/\(sA sp k).1<(sA sp k).2)(q:¬ Cst g sp)
  (h1:∀k∈W,∀x,(sA sp k).1<=x->x<=(sA sp k).2->dF g (sp.set k (x,x))<=mx k) (h2:∀k∈W,∃x,(sA sp k).1<=x/\x<=(sA sp k).2/\dF g (sp.set k (x,x))=mx k) (m1:∃k∈W,m=1+mx k) (m2:∀k∈W,m<=1+mx k):Lst g sp m:=by
 refine⟨?_,fun n=>?_⟩
 ·obtain⟨k,mk,rfl⟩:=m1;rw[Nat.add_comm];exact .meas k ((hW k).mp mk).1 fun x a b=>(lE g _).dc.mono (h1 k mk x a b)
 ·induction n with
  |zero=>
   intro h;cases h with
   |cst h=>exact absurd h q
  |succ n ih=>
   intro h;cases h with
   |cst h=>exact absurd h q
   |meas k hk h=>
    by_cases z:(sA sp k).1<(sA sp k).2
    ·have mk:=(hW k).mpr ⟨hk,z⟩;obtain⟨x,x1,x2,e⟩:=h2 k mk;have:=(lE g (sp.set k (x,x))).le n (h x x1 x2);have:=m2 k mk;omega
    ·have hl:=aa k hk;have e:sA sp k=((sA sp k).1,(sA sp k).1):=Prod.ext rfl (by simp only;omega);have:=h _ (fy _) hl;rw[Jx hk e]at this;have:=ih this;omega
end
section
variable {R:RX}{S:Sto}
def s2D(s:Spn):bc:=.tuple [.int s.1,.int s.2]
theorem uV(s:Spn):s2D s=.tuple [.int s.1,.int s.2]:=rfl
def dH(sp:List Spn):bc:=.tuple (sp.map s2D)
def b9(s:Spn):List Int:=rng s.1 (s.2-s.1+1).toNat
theorem jO{s:Spn}(h:s.1<=s.2){x:Int}:x∈b9 s↔s.1<=x/\x<=s.2:=by
 unfold b9;rw[rT];omega
def qO(sp:List Spn)(k:Nat):List (List Spn):=(b9 (sA sp k)).map fun x=>sp.set k (x,x)
theorem K8{sp:List Spn}{k:Nat}{s:Spn}(hk:k<sp.length):sp.take k++[s]++sp.drop (k+1)=sp.set k s:=by
 rw[List.set_eq_take_append_cons_drop,cq hk,ja];rfl
theorem CA{sp:List Spn}{k:Nat}(hk:k<sp.length)(h8:sp.length<=8)(hw:(sA sp k).2-(sA sp k).1+1<=300)(q:R (.d (.list ((qO sp k).map dH))) []):oA [.d (dH sp),.d (.int k)] [] R:=by
 unfold oA;have e:=cK (f:=s2D) (pD hk);unfold dH;walk_at "n";refine⟨_,e,?_⟩;rw[uV];walk_at "d";have ek:(((k:Nat):Int)+1)=((k+1:Nat):Int):=yw
 have aa:(sp.take k).length=k:=by rw[gz];omega
 have ac:(sp.drop (k+1)).length=sp.length-(k+1):=qz ..;rw[d7];refine cmp1 (S0:=[]) (h:=fun j:Nat=>bj (0+j)) (fun j:Nat=>dH (sp.set k ((sA sp k).1+j,(sA sp k).1+j))) rfl (dm ((sA sp k).2-(sA sp k).1+1).toNat) (by simp;omega) ?_ ?_
 ·intro j mj u acc R' ab;rw[rk];unfold dH at ab;walk_at "d";rw[C4 yw,DC hk];refine⟨fun z=>?_,?_⟩
  ·have:=z.2;rw[HT.sIx_nat]at this;omega
  refine⟨by rw[bq,aa];omega,fun z=>?_,?_⟩
  ·have:=z.1;rw[ek,HT.sIx_nat]at this;omega
  refine⟨by rw[bq,bq,aa,ac];omega,?_⟩;have es:(sp.take k).map s2D++[iq [.int ((sA sp k).1+j),.int ((sA sp k).1+j)]]++(sp.drop (k+1)).map s2D=(sp.set k ((sA sp k).1+j,(sA sp k).1+j)).map s2D:=by
   rw[<- K8 hk,fm,fm];rfl
  rw[es];exact ab _
 ·have em:(dm ((sA sp k).2-(sA sp k).1+1).toNat).map (fun j:Nat=>dH (sp.set k ((sA sp k).1+j,(sA sp k).1+j)))=(qO sp k).map dH:=by
   unfold qO b9 rng;rw[ge,ge];rfl
  rw[em];exact⟨_,rfl,.inl q⟩
theorem GN{g:Gap}{ns:List Int}(h3:Tm3 ns.length g.ts)(q:R (.d (.bool (zT g ns))) []):jS [.d (cR g),.d (.list (ns.map bj))] [] R:=by
 unfold jS;rw[gF,dR];walk_at "d"
 walk_at "n"
 refine cmp2 (S0:=[]) (fun t:Term=>.int (t.2*ns.getD t.1 0)) rfl g.ts (by have:=h3.len;omega) ?_ ?_
 ·intro t mt u v acc R' hk;obtain⟨t1,t2,t3⟩:=h3.ok t mt;have e:=cK (f:=bj) (pQ t1);rw[nX];walk_at "d";refine⟨_,e,?_⟩;walk_at "d";exact⟨d9 yw yw,hk _ _⟩
 ·walk_at "d";refine⟨g.ts.map fun t:Term=>t.2*ns.getD t.1 0,by rw[ge];rfl,?_⟩;have e0:zT g ns=decide (g.lo<=worth g.ts ns/\worth g.ts ns<=g.hi):=rfl;have e1:(g.ts.map fun t:Term=>t.2*ns.getD t.1 0).sum=worth g.ts ns:=rfl;rw[e1];rw[e0]at q;split
  ·rename_i h1;simpa[h1]using q
  ·rename_i h1;simpa[h1]using q
abbrev GS:KSg:=.many (.many .int)
def kyS(sp:List Spn):KG GS:=sp.map fun s=>[s.1,s.2]
theorem Gi{a b:List Spn}(h:kyS a=kyS b):a=b:=(List.map_inj_right fun x y e=>by
 have e:[x.1,x.2]=[y.1,y.2]:=e;simp only[pb,and_true]at e;exact Prod.ext e.1 e.2).mp h
theorem kdS(sp:List Spn):kdat GS (kyS sp)=dH sp:=by
 show iq (List.map (fun l:List Int=>iq (List.map bj l)) (sp.map fun s=>[s.1,s.2]))=_;rw[ge];rfl
def kb:List Part->List (List Spn)
 | []=>[[]]
 |p::ps=>((p.2.1,p.2.2)::(aH p).map fun x=>(x,x)).flatMap fun s=>(kb ps).map (s :: ·)
theorem A9:∀ps:List Part,(kb ps).length=szK ps
 | []=>rfl
 |p::ps=>by
  show (List.flatMap _ _).length=_;rw[yT (m:=szK ps) fun s _=>by rw[bq,A9 ps],cw,bq,g5];rfl
structure InK(ps:List Part)(sp:List Spn):Prop where
 len:sp.length=ps.length
 ok:∀k,k<ps.length->sA sp k=(plo ps k,phi ps k)\/∃x,plo ps k<=x/\x<=phi ps k/\sA sp k=(x,x)
theorem InK.mem:∀{ps:List Part},Ord ps->∀{sp:List Spn},InK ps sp->sp∈kb ps
 | [],_,sp,h=>by
  rw[cx h.len];exact mem_singleton.mpr rfl
 |p::ps,ho,[],h=>by
  have:=h.len;cases this
 |p::ps,ho,s::sp,h=>by
  refine mem_flatMap.mpr ⟨s,?_,mem_map.mpr ⟨sp,InK.mem (fun q m=>ho q (bp _ m)) ⟨by have:=h.len;simpa using this,fun k hk=>?_⟩,rfl⟩⟩
  ·rcases h.ok 0 yv with e|⟨x,x1,x2,e⟩
   ·have:s=(p.2.1,p.2.2):=e;rw[this];exact br
   ·have:s=(x,x):=e;rw[this];exact bp _ (mem_map.mpr ⟨x,(mX (ho p br)).mpr ⟨x1,x2⟩,rfl⟩)
  ·have:=h.ok (k+1) (by simpa using hk);unfold plo phi at this ⊢;rw[wD]at this;simpa[sA]using this
theorem InK.set{ps:List Part}{sp:List Spn}{k:Nat}{x:Int}(h:InK ps sp)(hk:k<ps.length)(h1:(sA sp k).1<=x)(h2:x<=(sA sp k).2):InK ps (sp.set k (x,x)):=by
 refine⟨by rw[ie];exact h.len,fun j hj=>?_⟩;by_cases z:j=k
 ·rw[z,iA (by rw[h.len];exact hk)];refine .inr ⟨x,?_,?_,rfl⟩
  ·rcases h.ok k hk with e|⟨y,y1,y2,e⟩<;>rw[e]at h1 h2<;>simp only at h1 h2<;>omega
  ·rcases h.ok k hk with e|⟨y,y1,y2,e⟩<;>rw[e]at h1 h2<;>simp only at h1 h2<;>omega
 ·rw[fV z];exact h.ok j hj
theorem InK.full(ps:List Part):InK ps (dD ps):=⟨hU ps,fun k hk=>.inl (kG hk)⟩
theorem InK.le{ps:List Part}{sp:List Spn}(h:InK ps sp)(ho:Ord ps){k:Nat}(hk:k<ps.length):(sA sp k).1<=(sA sp k).2:=by
 rcases h.ok k hk with e|⟨y,y1,y2,e⟩
 ·rw[e];exact ho.at hk
 ·rw[e];exact fy _
noncomputable def lsV (g:Gap) (sp:List Spn):bc:=.tuple [.int (wF g sp),.int (dF g sp)]
theorem lY(g:Gap)(sp:List Spn):lsV g sp=.tuple [.int (wF g sp),.int (dF g sp)]:=rfl
structure KnS(ps:List Part)(g:Gap)(m:List (KG GS×bc)):Prop where
 of:∀p∈m,∃sp,InK ps sp/\p=(kyS sp,lsV g sp)
 nd:(m.map (·.1)).Nodup
theorem KnS.len{ps:List Part}{g:Gap}{m:List (KG GS×bc)}(h:KnS ps g m)(ho:Ord ps):m.length<=szK ps:=by
 have:=AN (l':=(kb ps).map kyS) h.nd fun x mx=>by
  obtain⟨p,mp,rfl⟩:=mem_map.mp mx;obtain⟨q,mq,rfl⟩:=h.of p mp;exact mem_map.mpr ⟨q,mq.mem ho,rfl⟩
 rw[bq,bq,A9]at this;exact this
section
variable {G:KSg}{m:List (KG G×bc)}{k:KG G}{d:bc}
theorem L5(h:lkA m k=some d):(k,d)∈m:=by
 unfold lkA at h;obtain⟨q,e,e2⟩:=map_eq_some_iff.mp h;have h3:=find?_some e;have h1:q.1=k:=jh h3;have h2:=mz e;obtain⟨q1,q2⟩:=q;simp only at h1 e2;rw[h1,e2]at h2;exact h2
theorem Bt:(lkA m k).isSome=true↔k∈m.map (·.1):=by
 unfold lkA;rw[isSome_map,List.find?_isSome];constructor
 ·rintro⟨x,mx,e⟩;exact mem_map.mpr ⟨x,mx,jh e⟩
 ·intro z;obtain⟨x,mx,e⟩:=mem_map.mp z;exact⟨x,mx,fe e⟩
theorem vM:lkA (stG m k d) k=some d:=by
 unfold stG;split
 ·rename_i h;have h:=Bt.mp h;have:∀{m:List (KG G×bc)},k∈m.map (·.1)->lkA (m.map fun p=>if p.1=k then (p.1,d)else p) k=some d:=by
   intro m;induction m with
   |nil=>intro z;cases z
   |cons a m ih=>
    intro z;unfold lkA;rw[ft];by_cases e:a.1=k
    ·rw[cq e,List.find?_cons_of_pos (by simpa using e)];rfl
    ·rw[ck e,List.find?_cons_of_neg (by simpa using e)];rw[ft]at z;rcases mem_cons.mp z with z|z
     ·exact absurd z.symm e
     ·exact ih z
  exact this h
 ·rename_i h;unfold lkA at h ⊢;rw[List.find?_append];cases e:m.find? fun p=>decide (p.1=k)with
  |some x=>rw[e]at h;exact absurd rfl h
  |none=>simp
end
theorem KnS.get{ps:List Part}{g:Gap}{m:List (KG GS×bc)}{sp:List Spn}{d:bc}(h:KnS ps g m)(e:lkA m (kyS sp)=some d):d=lsV g sp:=by
 obtain⟨q',_,e2⟩:=h.of _ (L5 e);have h1:=Gi (congrArg Prod.fst e2);have h2:=congrArg Prod.snd e2;simp only at h2;rw[h2,h1]
theorem KnS.put{ps:List Part}{g:Gap}{m:List (KG GS×bc)}{sp:List Spn}(h:KnS ps g m)(hq:InK ps sp):KnS ps g (stG m (kyS sp) (lsV g sp)):=by
 unfold stG;split
 ·refine⟨fun p mp=>?_,?_⟩
  ·obtain⟨x,mx,e⟩:=mem_map.mp mp;split at e
   ·rename_i e2;rw[<- e,e2];exact⟨sp,hq,rfl⟩
   ·rw[<- e];exact h.of x mx
  ·rw[ge,nv (g:=fun p=>p.1) fun x _=>by
    simp only[Function.comp];split<;>rfl]
   exact h.nd
 ·rename_i hn;refine⟨fun p mp=>?_,?_⟩
  ·rcases mem_append.mp mp with mp|mp
   ·exact h.of p mp
   ·rw[mem_singleton.mp mp];exact⟨sp,hq,rfl⟩
  ·rw[fm,nodup_append];refine⟨h.nd,yv,fun a ma b mb e=>?_⟩;rw[ft,qr,ni]at mb;rw[e,mb]at ma;exact hn (Bt.mpr ma)
end
section
variable {R:RX}{S:Sto}
def aX(sp:List Spn):List Nat:=(dm sp.length).filter fun k=>decide ((sA sp k).1<(sA sp k).2)
theorem gX{sp:List Spn}{k:Nat}:k∈aX sp↔k<sp.length/\(sA sp k).1<(sA sp k).2:=by
 unfold aX;rw[mem_filter,mem_range,decide_eq_true_eq]
theorem Ha{sp:List Spn}{k:Nat}{x:Int}(h:k∈aX sp):(aX (sp.set k (x,x))).length<(aX sp).length:=by
 have hk:=(gX.mp h).1;have e:aX (sp.set k (x,x))=(aX sp).filter fun j=>j != k:=by
  unfold aX;rw[List.filter_filter,ie];refine List.filter_congr fun j _=>?_;by_cases z:j=k
  ·rw[z,iA hk];simp
  ·rw[fV z];simp[z]
 rw[e];exact List.length_filter_lt_length_iff_exists.mpr ⟨k,h,yv⟩
section
variable {a:Addr}{ps:List Part}{g:Gap}
theorem C5(ho:Ord ps)(hz:aE ps<=300)(hk:szK ps<=729)(h8:ps.length<=8)(h3:Tm3 ps.length g.ts):∀{f:Nat}{sp:List Spn}{ob:Obj}{m:List (KG GS×bc)}{R:bc->Sto->DM->Prop},InK ps sp->(aX sp).length<f->KnS ps g m ->
  (∀aa m',KnS ps g m'->R (lsV g sp) [] [(a,.g GS aa m')])->zM f [.d (dH sp),.d (cR g),.o (.ref a)] [] [(a,.g GS ob m)] R
 | 0,sp,ob,m,R,_,h,_,_=>by omega
 |f+1,sp,ob,m,R,hI,hf,hK,q=>by
  have sl:=hI.len;have ac:=fun k hk=>hI.le ho (k:=k) hk;rw[zM];walk_at "d";refine seqm ?_;walk_at "d";refine⟨a,ob,m,kyS sp,rfl,yv,(kdS sp).symm,?_⟩;by_cases af:(lkA m (kyS sp)).isSome=true
  ·rw[cq af];obtain⟨d,ed⟩:=isSome_iff_exists.mp af;refine⟨a,ob,m,kyS sp,d,rfl,yv,(kdS sp).symm,ed,?_⟩;rw[hK.get ed];exact q ob m hK
  rw[ck af];refine seqm ?_;unfold dH;walk_at "d";rw[d7,gg];refine cmf1 (S0:=[]) (h:=fun k:Nat=>.int (0+k)) (fun k:Nat=>.int k) (fun k=>decide ((sA sp k).1<(sA sp k).2)) rfl (dm sp.length) (by simp;omega) ?_ ?_
  ·intro k mk u acc R' ab;have e:=cK (f:=s2D) (pD (mem_range.mp mk));rw[rk];walk_at "d";refine⟨_,e,?_⟩;rw[uV];walk_at "d";refine⟨_,e,?_⟩;rw[uV];walk_at "d";exact ab (some (.d (.int k))) fun _ T hT=>by walk_at "d";exact hT
  walk_at "d";have eW:(dm sp.length).filter (fun k=>decide ((sA sp k).1<(sA sp k).2))=aX sp:=rfl;rw[eW];have fin:∀(d:bc) (ob:Obj) (m:List (KG GS×bc)),KnS ps g m->d=lsV g sp->∀aa,R (lsV g sp) [] [(a,.g GS aa (stG m (kyS sp) d))]:=fun d ob m hK e aa=>by
   rw[e];exact q _ _ (hK.put hI)
  have a3:ci (.list ((aX sp).map fun k:Nat=>bj k))=true:=(o8 (n:=0) (uK fun _ _=>j5)).ok;refine seqm ?_;walk_at "d";refine⟨a3,rfl,?_⟩;cases hW:aX sp with
  |nil=>
   rw[show cv (.list (([]:List Nat).map fun k:Nat=>bj k)) (.list [])=true from rfl,cq rfl];refine seqm ?_;walk_at "d";refine cmp1 (S0:=[]) (h:=s2D) (fun s:Spn=>.int s.1) rfl sp yw ?_ ?_
   ·intro s ms u acc R' ab;rw[uV];walk_at "d";exact ab _
   walk_at "d";have au:∀k,k<sp.length->(sA sp k).2<=(sA sp k).1:=fun k hk=>by
    have:¬ k∈aX sp:=by rw[hW];simp
    rw[gX]at this;omega
   have aw:InB sp (sp.map fun s=>s.1):=⟨bq ..,fun k hk=>by
    have e:(sp.map fun s=>s.1).getD k 0=(sA sp k).1:=by
     rw[cg,fh,pD hk];rfl
    rw[e];exact⟨fy _,ac k yw⟩⟩
   have as:Dc g 0 sp:=vO 0 (ji _) fun k _ h2=>au k h2;have ax:Cst g sp:=by
    cases as with
    |cst h=>exact h
   have eV:iq [.int ((zT g (sp.map fun s=>s.1)).toNat:Nat),.int 0]=lsV g sp:=by
    rw[lY,yF aw ax,Nat.le_zero.mp ((lE g sp).le 0 as)];rfl
   have a0:Tm3 (sp.map fun s=>s.1).length g.ts:=by rw[bq,sl];exact h3
   have em:(sp.map fun s:Spn=>bj s.1)=(sp.map fun s=>s.1).map bj:=by rw[ge];rfl
   rw[em];refine GN a0 ?_;walk_at "d";have ml:=hK.len ho;have eb:∀b:Bool,iq [.int (if b=true then 1 else 0),.int 0]=.tuple [.int (b.toNat:Nat),.int 0]:=fun b=>by cases b<;>rfl
   rw[eb,eV];refine⟨a,ob,m,rfl,yv,kyS sp,(kdS sp).symm,yw,fun aa=>⟨a,aa,stG m (kyS sp) (lsV g sp),kyS sp,lsV g sp,rfl,by simp[cV],(kdS sp).symm,vM,?_⟩⟩;simp only[cV,ft,qr,if_true];exact fin _ ob m hK rfl aa
  |cons k0 W=>
   rw[show cv (.list ((k0::W).map fun k:Nat=>bj k)) (.list [])=false from rfl,ck dz];refine seqm ?_;walk_at "d";have m0:k0∈aX sp:=by rw[hW];exact br
   have am:∀k,k<sp.length->(sA sp k).2-(sA sp k).1+1<=300:=fun k hk=>by
    have ab:k<ps.length:=yw
    have:=j6 ho ab;rcases hI.ok k ab with e|⟨x,_,_,e⟩
    ·rw[e];show phi ps k-plo ps k+1<=300;omega
    ·rw[e];show x-x+1<=300;omega
   have rl:∀k,k<sp.length->(b9 (sA sp k)).length<=300:=fun k hk=>by
    have:=am k hk;unfold b9 rng;rw[bq,on];omega
   have aj:∀(i:Int) (pick:List Spn->Nat),(∀s,atI [bj (wF g s),.int (dF g s)] i=some (.int (pick s)))->∀k,k∈aX sp->∀(S0:Sto) (ob:Obj) (m:List (KG GS×bc)) (u:Option XV) (fn:Sto->DM->Prop),KnS ps g m ->
     (∀aa m',KnS ps g m'->fn (S0++[(b9 (sA sp k)).map fun x=>.int (pick (sp.set k (x,x)))]) [(a,.g GS aa m')]) ->
     iH S0.length (zl 0) aC (fH dIx (gN 3 (zM f) fun M=>zc (zj 0) (zc (zj 1) (zc (zj 2) zq))) (dmE fun M=>dC (.int i))) fn ((qO sp k).map dH) [u,some (.d (cR g)),some (.o (.ref a))] (S0++[[]]) [(a,.g GS ob m)]:=fun i pick hp k mk S0 ob m u fn hK a6=>by
    have ai:=(gX.mp mk).1;unfold qO;rw[ge];refine cmpm (S0:=S0) (h:=dH∘fun x:Int=>sp.set k (x,x)) (fun M=>∃ob m,KnS ps g m/\M=[(a,.g GS ob m)]) (fun x:Int=>.int (pick (sp.set k (x,x)))) rfl (b9 (sA sp k)) (by have:=rl k ai;omega) ⟨ob,m,hK,rfl⟩ ?_ (by rintro _ ⟨ob,m,hK,rfl⟩;exact a6 ob m hK);rintro x mx u acc _ R' ⟨ob,m,hK,rfl⟩ ab;obtain⟨b1,b2⟩:=(jO (ac k yw)).mp mx;rw[show (dH∘fun x:Int=>sp.set k (x,x)) x=dH (sp.set k (x,x))from rfl];walk_at "d";refine C5 ho hz hk h8 h3 (hI.set yw b1 b2) (by have:=Ha (x:=x) mk;omega) hK fun aa m' a9=>⟨rfl,?_⟩;rw[lY];walk_at "d";exact⟨_,hp _,ab _ _ ⟨aa,m',a9,rfl⟩⟩
   have ae:=(gX.mp m0).1;refine CA (sp:=sp) ae yw (am k0 ae) ?_;walk_at "d";refine aj 0 (wF g) (fun _=>rfl) k0 m0 [] ob m none _ hK fun ob m hK=>?_;walk_at "d";obtain⟨ws,al⟩:∃ws,ws=(b9 (sA sp k0)).map fun x=>wF g (sp.set k0 (x,x)):=⟨_,rfl⟩;have em:(b9 (sA sp k0)).map (fun x=>bj (wF g (sp.set k0 (x,x)):Nat))=(ws.map fun w:Nat=>(w:Int)).map bj:=by rw[al,ge,ge];rfl
   rw[em];refine⟨_,rfl,⟨[0,1,2],by decide,fun x mx=>?_⟩,fun ms ak ay=>?_⟩
   ·obtain⟨w,mw,rfl⟩:=mem_map.mp mx;rw[al]at mw;obtain⟨y,_,rfl⟩:=mem_map.mp mw;have:=Il g (sp.set k0 (y,y));have:wF g (sp.set k0 (y,y))=0\/wF g (sp.set k0 (y,y))=1\/wF g (sp.set k0 (y,y))=2:=yw
    rcases this with e|e|e<;>rw[e]<;>decide
   refine seqm ?_;walk_at "d";have a4:∃b,InB sp b:=⟨sp.map fun s=>s.1,bq ..,fun k hk=>by
    have e:(sp.map fun s=>s.1).getD k 0=(sA sp k).1:=by
     rw[cg,fh,pD hk];rfl
    rw[e];exact⟨fy _,ac k yw⟩⟩
   obtain⟨lw,ah⟩:=a4;have b0:=ac k0 yw;have ag:∀x:Int,x∈ms↔∃y,(sA sp k0).1<=y/\y<=(sA sp k0).2/\x=(wF g (sp.set k0 (y,y)):Nat):=fun x=>by
    rw[ay,al,ge,mem_map];constructor
    ·rintro⟨y,my,e⟩;obtain⟨h1,h2⟩:=(jO b0).mp my;exact⟨y,h1,h2,e.symm⟩
    ·rintro⟨y,h1,h2,e⟩;exact⟨y,(jO b0).mpr ⟨h1,h2⟩,e.symm⟩
   have ml:=hK.len ho;by_cases hc:Cst g sp
   ·have av:∀b,InB sp b->zT g b=zT g lw:=fun b hb=>hc b lw hb ah;have ar:∀y,(sA sp k0).1<=y->y<=(sA sp k0).2->wF g (sp.set k0 (y,y))=(zT g lw).toNat:=fun y h1 h2=>by
     have af:InB (sp.set k0 (y,y)) (lw.set k0 y):=⟨by rw[ie,ie];exact ah.len,fun j hj=>by
      rw[ie]at hj;by_cases z:j=k0
      ·rw[z,iA ae,nN (by rw[ah.len];exact ae)];exact⟨fy _,fy _⟩
      ·rw[fV z,kI z];exact ah.ok j hj⟩
     exact Lo ae av h1 h2 af
    have a2:ms=[(((zT g lw).toNat:Nat):Int)]:=by
     have h1:(((zT g lw).toNat:Nat):Int)∈ms:=(ag _).mpr ⟨_,fy _,b0,by rw[ar _ (fy _) b0]⟩;have h2:∀x∈ms,x=(((zT g lw).toNat:Nat):Int):=fun x mx=>by
      obtain⟨y,y1,y2,e⟩:=(ag x).mp mx;rw[e,ar y y1 y2]
     match ms,ak,h1,h2 with
     | [x],_,_,h2=>rw[h2 x br]
     |x::y::r,ak,_,h2=>
      have:=(pairwise_cons.mp ak).1 y br;have e1:=h2 x br;have e2:=h2 y (bp _ br);omega
    have eV:iq [.int ((zT g lw).toNat:Nat),.int 0]=lsV g sp:=by
     rw[lY,yF ah hc,Nat.le_zero.mp ((lE g sp).le 0 (.cst hc))];rfl
    have a1:(((zT g lw).toNat:Nat):Int)<2:=by cases zT g lw<;>decide
    rw[a2];walk_at "d";rw[cq a1];refine seqm ?_;walk_at "d";rw[eV];refine⟨a,ob,m,rfl,yv,kyS sp,(kdS sp).symm,yw,fun aa=>⟨a,aa,stG m (kyS sp) (lsV g sp),kyS sp,lsV g sp,rfl,by simp[cV],(kdS sp).symm,vM,?_⟩⟩;simp only[cV,ft,qr,if_true];exact fin _ ob m hK rfl aa
   ·have ao:∀(A B:Prop),B->(if (ms.length:Int)=1 then ∃d,atI (ms.map bj) 0=some d/\asI (.d d) (fun i=>if i<2 then A else B)else B):=fun A B hB=>by
     by_cases h1:(ms.length:Int)=1
     ·rw[cq h1]
      match ms,ag,h1 with
      | [x],ag,_=>
       refine⟨_,rfl,?_⟩;show if x<2 then A else B
       by_cases h2:x<2
       ·exfalso;have hx:∀y,(sA sp k0).1<=y->y<=(sA sp k0).2->((wF g (sp.set k0 (y,y)):Nat):Int)=x:=fun y y1 y2=>mem_singleton.mp ((ag _).mpr ⟨y,y1,y2,rfl⟩);have x0:=hx _ (fy _) b0;have:∃b:Bool,x=((b.toNat:Nat):Int):=by
         have:x=0\/x=1:=yw
         rcases this with e|e
         ·exact⟨false,e⟩
         ·exact⟨true,e⟩
        obtain⟨b,eb⟩:=this;have:=IX (g:=g) (b:=b) ae fun y y1 y2=>by
         have:=hx y y1 y2;omega
        exact hc fun u v hu hv=>by rw[this u hu,this v hv]
       ·rw[ck h2];exact hB
      |x::y::r,_,h1=>simp at h1;omega
     ·rw[ck h1];exact hB
    refine ao _ _ ?_;refine seqm ?_;walk_at "d";refine seqm ?_;walk_at "d";have eL:bj k0::W.map (fun k:Nat=>bj k)=(aX sp).map fun k:Nat=>bj k:=by rw[hW];rfl
    rw[eL];obtain⟨mx,an⟩:∃mx:Nat->Nat,mx=fun k=>mxN ((b9 (sA sp k)).map fun x=>dF g (sp.set k (x,x))):=⟨_,rfl⟩;have wl:(aX sp).length<=8:=by
     unfold aX;refine fv (List.length_filter_le _ _) ?_;rw[on];omega
    refine Ee (fun i δ S M=>∃(u:Option XV) (ob:Obj) (m:List (KG GS×bc)),KnS ps g m/\S=[((aX sp).take i).map fun k=>bj ((1+mx k:Nat):Int)]/\M=[(a,.g GS ob m)]/\δ=[some (.d (.tuple (sp.map s2D))),some (.d (cR g)),some (.o (.ref a)),some (.d (.list ((aX sp).map fun k:Nat=>bj k))),some (.d (.list (ms.map bj))),some (.l 0),u]) ⟨_,ob,m,hK,rfl,rfl,rfl⟩ ?_ ?_
    ·rintro i d _ _ _ N hi ⟨u,ob,m,hK,rfl,rfl,rfl⟩ hN;obtain⟨k,ek,rfl⟩:=gE hi;have mk:=bw ek;have ai:=(gX.mp mk).1;have bk:=ac k yw;walk_at "d";refine CA (sp:=sp) ai yw (am k ai) ?_;walk_at "d";refine aj 1 (dF g) (fun _=>rfl) k mk [_] ob m none _ hK fun ob m hK=>?_;walk_at "d";have aq:(b9 (sA sp k)).map (fun x=>dF g (sp.set k (x,x)))≠[]:=fun z=>by
      rw[map_eq_nil_iff]at z;have:=(jO bk (x:=(sA sp k).1)).mpr ⟨fy _,bk⟩;rw[z]at this;cases this
     have ap:mx k=mxN ((b9 (sA sp k)).map fun x=>dF g (sp.set k (x,x))):=by rw[an]
     have e2:(b9 (sA sp k)).map (fun x=>bj (dF g (sp.set k (x,x)):Nat))=(((b9 (sA sp k)).map fun x=>dF g (sp.set k (x,x))).map fun d:Nat=>(d:Int)).map bj:=by rw[ge,ge];rfl
     rw[e2];generalize hds:(b9 (sA sp k)).map (fun x=>dF g (sp.set k (x,x)))=ds at aq ap;refine⟨_,rfl,ds.map fun d:Nat=>(d:Int),rfl,fun z=>aq (map_eq_nil_iff.mp z),fun y m1 m2=>?_⟩;have ey:y=(mx k:Nat):=by
      rw[ap];refine uI (l:=ds) ?_ fun b mb=>m2 _ (mem_map.mpr ⟨b,mb,rfl⟩);obtain⟨b,mb,rfl⟩:=mem_map.mp m1;exact⟨b,mb,rfl⟩
     subst ey;have il:i<(aX sp).length:=(List.getElem?_eq_some_iff.mp ek).1;walk_at "d";refine⟨by rw[gz];omega,hN _ _ _ ⟨_,ob,m,hK,?_,rfl,rfl⟩⟩;rw[gA ek,fm];simp
    ·rintro _ _ _ ⟨u,ob,m,hK,rfl,rfl,rfl⟩;rw[bq,ld];walk_at "d";refine seqm ?_;walk_at "d";have az:(aX sp).map (fun k=>bj ((1+mx k:Nat):Int))=((aX sp).map fun k=>((1+mx k:Nat):Int)).map bj:=by rw[ge];rfl
     refine .inl ⟨_,rfl,(aX sp).map fun k=>((1+mx k:Nat):Int),az,fun z=>?_,fun y m1 m2=>?_⟩
     ·rw[map_eq_nil_iff,hW]at z;cases z
     obtain⟨k1,a8,rfl⟩:=mem_map.mp m1;have hL:Lst g sp (1+mx k1):=by
      refine Ht (W:=aX sp) (mx:=mx) (fun k hk=>ac k yw) (fun k=>gX) hc (fun k mk x x1 x2=>?_) (fun k mk=>?_) ⟨k1,a8,rfl⟩ fun k mk=>?_
      ·rw[an];exact vG (mem_map.mpr ⟨x,(jO (ac k (by have:=(gX.mp mk).1;omega))).mpr ⟨x1,x2⟩,rfl⟩)
      ·have bk:=ac k (by have:=(gX.mp mk).1;omega);rw[an];simp only;have a7:dF g (sp.set k ((sA sp k).1,(sA sp k).1))∈(b9 (sA sp k)).map fun x=>dF g (sp.set k (x,x)):=mem_map.mpr ⟨_,(jO bk (x:=(sA sp k).1)).mpr ⟨fy _,bk⟩,rfl⟩;rcases(kP ((b9 (sA sp k)).map fun x=>dF g (sp.set k (x,x))) 0).2.2 with e|e
       ·have z:=vG a7;have e':mxN ((b9 (sA sp k)).map fun x=>dF g (sp.set k (x,x)))=0:=e;exact⟨_,fy _,bk,yw⟩
       ·obtain⟨x,a5,ex⟩:=mem_map.mp e;obtain⟨x1,x2⟩:=(jO bk).mp a5;exact⟨x,x1,x2,ex⟩
      ·have:=m2 _ (mem_map.mpr ⟨k,mk,rfl⟩);omega
     have eV:iq [.int 2,.int ((1+mx k1:Nat):Int)]=lsV g sp:=by
      rw[lY,Jj hc,hL.uniq (lE g sp)];rfl
     have ml:=hK.len ho;walk_at "d";rw[eV];refine⟨a,ob,m,rfl,yv,kyS sp,(kdS sp).symm,yw,fun aa=>⟨a,aa,stG m (kyS sp) (lsV g sp),kyS sp,lsV g sp,rfl,by simp[cV],(kdS sp).symm,vM,?_⟩⟩;simp only[cV,ft,qr,if_true];exact fin _ ob m hK rfl aa
end
end
section
variable {R:RX}
def bt(c:List Nat)(l:Lks)(q:List Int):Int:=(if (l.any fun p=>decide (atC p.1 c=q)&&!p.2)=true then 1 else 0)+(if (l.any fun p=>decide (atC p.1 c=q)&&p.2)=true then 2 else 0)
end
section
variable {R:RX}{S:Sto}
section
variable {ps:List Part}{g:Gap}{c c':List Nat}
theorem IQ(g:Gap)(a:List Int):lfW g (0+worth g.ts a)=if zT g a=true then ("keeps":Str)else ("breaks":Str):=by
 unfold lfW zT;rw[rk];simp only[decide_eq_true_eq]
theorem sY(ho:Ord ps)(hT:Tms ps.length g.ts):GoodP ps g g.ts 0 (plT ps g g.ts 0):=uY ho ⟨fun t m=>(hT.ok t m).1,hT.srt⟩
theorem sI(ho:Ord ps)(hT:Tms ps.length g.ts):IsPl ps [] (plT ps g g.ts 0).1 (plT ps g g.ts 0).2:=(sY ho hT).pl [] yv
theorem tZ(ho:Ord ps)(hT:Tms ps.length g.ts)(h8:ps.length<=8):(plT ps g g.ts 0).1<=8:=by
 have:=Ej (g:=g) (w:=0) ho (⟨fun t m=>(hT.ok t m).1,hT.srt⟩:TsOk ps.length g.ts);have:=hT.len;omega
theorem AY(ho:Ord ps)(hT:Tms ps.length g.ts)(h8:ps.length<=8):PlOk ps g (plT ps g g.ts 0).2:=by
 have hl:=tZ ho hT h8;refine⟨(sI ho hT).weak (fun _ z=>z) (by simp only[qd];omega),fun a ma=>?_⟩;obtain⟨js,hj⟩:=(sY ho hT).led a (iN.mp ma);rw[IQ]at hj;unfold Mt;cases hk:zT g a with
 |true=>
  rw[hk,cq rfl]at hj;exact⟨fun _=>rfl,fun _=>⟨js,hj⟩⟩
 |false=>
  rw[hk,ck dz]at hj;refine⟨fun⟨q,h'⟩=>?_,fun z=>nomatch z⟩;exact absurd (hj.uniq h').2 dz
theorem JM(ho:Ord ps)(hT:Tms ps.length g.ts)(h8:ps.length<=8):Thn (plT ps g g.ts 0).2:=.inl ((sI ho hT).shp.ok (by have:=tZ ho hT h8;omega))
theorem C0(ho:Ord ps)(hz:aE ps<=300)(hT:Tms ps.length g.ts)(h8:ps.length<=8)(q:R (.d (.int (plT ps g g.ts 0).1)) []):lM [.d (plT ps g g.ts 0).2] [] R:=by
 refine Lb ho hz h8 (tZ ho hT h8) (sI ho hT) ?_;rw[(sY ho hT).dp _ (cz _)];exact q
end
end
section
variable {R:RX}{S:Sto}
theorem Ko{p:List bc}{m:Int}(hp:aV p)(m1:0<m)(m4:m<=4)(q:∀(ps:List Part) p',Drw ps->aE ps<=300->szK ps<=729->aV p'->R (.d (aM ps)) [p']):wP [.l 0,.d (.int m)] [p] R:=
 Lu (names:=nZ) (number:=sL) rfl Kz HE hp m1 m4 q
open Classical in
theorem FT(a:Addr)(n:Int):yY (GL a 6) ((some (.o (.ref a))::bh 6 none).set 1 (some (.d (.int n)))) []:=by
 unfold yY;walk_at "d"
 walk_at "n"
 refine Km fun p hp=>?_;walk_at "d"
 walk_at "n"
 refine Ko hp dz dz fun ps p1 hd hs hk ab=>?_;walk_at "d"
 walk_at "n"
 refine G8 ab hd fun g p2 hg af=>?_;have l8:=hd.l8;have l1:=hd.l1;have ho:=hd.ord;have hT:=hg.ts;have h3:Tm3 ps.length g.ts:=hT.tm3 l8;have ae:TsOk ps.length g.ts:=⟨fun t m=>(hT.ok t m).1,hT.srt⟩;walk_at "d";refine seq1 ?_;rw[gR];walk_at "d";refine cmp1 (S0:=[p2]) (h:=bM) (fun p:Part=>s2D (p.2.1,p.2.2)) rfl ps yw ?_ ?_
 ·intro x mx u acc R' ac;rw[lB];walk_at "d";exact⟨by decide,ac _⟩
 have ef:(ps.map fun p:Part=>s2D (p.2.1,p.2.2))=(dD ps).map s2D:=by unfold dD;rw[ge];rfl
 rw[ef];refine⟨[p2],_,rfl,rfl,fun b=>?_⟩;have wl:(aX (dD ps)).length<12:=by
  unfold aX;refine Nat.lt_of_le_of_lt (List.length_filter_le _ _) ?_;rw[on,hU];omega
 refine C5 ho hs hk l8 h3 (InK.full ps) wl ⟨fun p m=>(by cases m),pf⟩ fun ah m' _=>⟨rfl,?_⟩;have ed:dF g (dD ps)=(plT ps g g.ts 0).1:=(lE g (dD ps)).uniq (Gp ho ae);rw[lY,ed];have ag:=tZ (g:=g) ho hT l8;have aa:=sI (g:=g) ho hT;have z:=JM (g:=g) ho hT l8;have q:ci (plT ps g g.ts 0).2=true:=aa.shp.ok yw;have hw:∀k,k<ps.length->(phi ps k-plo ps k+1)<=300:=fun k hk=>by
  have:=j6 ho hk;omega
 walk_at "d";walk_at "n";rw[<- gR];refine Cq ho hs hk hT l8 ?_;walk_at "d";walk_at "n";refine K7 ho hs l8 h3 z ?_;rw[fe (AY ho hT l8)];walk_at "d";refine HY ho hs l8 h3 z ?_;rw[fe (AY ho hT l8)];walk_at "d";walk_at "n";refine AW ho hw aa yw ?_;rw[(sY ho hT).dp _ (cz _)];walk_at "d";refine C0 ho hs hT l8 ?_;walk_at "d";refine EJ ?_;rw[show mH (.int ((plT ps g g.ts 0).1:Nat))=true from rfl];walk_at "d";refine C0 ho hs hT l8 ?_;walk_at "d";refine Cq ho hs hk hT l8 ?_;walk_at "d";refine⟨q,q,?_⟩;rw[SeqAt.eqv_refl _ (fj q),ck dz];trivial
end
end My
namespace My
open PySem L2
def top (i : Nat) : Stmt := PySem.Challenge.pw_gaugewright_k57_plans.main.body.getD i (.Pass ⟨0, 0, 0, 0⟩)
abbrev CQ:Stmt:=top 29
theorem Fp:FnScope ["script","k"] ["script","k"] (zh CQ):=fsd
abbrev Ao:Stmt:=top 31
theorem Ef:FnScope ["cell","left"] ["cell"] (zh Ao):=fsd
abbrev EU:Stmt:=top 30
theorem Cd:FnScope ["seed"] ["seed"] (zh EU):=fsd
abbrev Br:Stmt:=top 38
theorem g0:FnScope ["drawing","terms","least","most","part","times","ends"] ["drawing","terms"] (zh Br):=fsd
abbrev A6:Stmt:=top 6
theorem GQ:FnScope ["one"] ["one"] (zh A6):=fsd
abbrev Em:Stmt:=top 9
theorem Hm:FnScope ["part"] ["part"] (zh Em):=fsd
abbrev xO:Stmt:=top 42
theorem Aq:FnScope ["gap","one","worth"] ["gap","one"] (zh xO):=fsd
abbrev x8:Stmt:=top 47
theorem v4:FnScope ["spans","part","low","high"] ["spans","part"] (zh x8):=fsd
abbrev vX:Stmt:=top 41
theorem h9:FnScope ["drawing","found","name","low","high","longer","ahead"] ["drawing"] (zh vX):=fsd
abbrev Ds:Stmt:=top 33
theorem Jb:FnScope ["found"] ["found"] (zh Ds):=fsd
abbrev B4:Stmt:=top 44
theorem xH:FnScope ["plan","drawing","one","parts"] ["plan","drawing","one"] (zh B4):=fsd
abbrev x6:Stmt:=top 13
theorem AO:FnScope ["beginnings","numbers","longer","beginning"] ["beginnings","numbers"] (zh x6):=fsd
abbrev E8:Stmt:=top 4
theorem Ia:FnScope ["thing"] ["thing"] (zh E8):=fsd
abbrev vQ:Stmt:=top 15
theorem LK:FnScope ["gap","one"] ["gap","one"] (zh vQ):=fsd
abbrev Ek:Stmt:=top 22
theorem nU:FnScope ["plan","drawing","one","parts","at","part"] ["plan","drawing","one"] (zh Ek):=fsd
abbrev CG:Stmt:=top 21
theorem wU:FnScope ["plans","found","plan"] ["plans"] (zh CG):=fsd
abbrev C8:Stmt:=top 32
theorem Bk:FnScope ["pen","many","found"] ["pen","many"] (zh C8):=fsd
abbrev FL:Stmt:=top 10
theorem uZ:FnScope ["drawing","many","part"] ["drawing"] (zh FL):=fsd
abbrev FM:Stmt:=top 25
theorem FX:FnScope ["drawing","thing"] ["drawing","thing"] (zh FM):=fsd
abbrev Aa:Stmt:=top 16
theorem L6:FnScope ["gap","one"] ["gap","one"] (zh Aa):=fsd
abbrev xL:Stmt:=top 20
theorem lP:FnScope ["plan","deepest","left","asked"] ["plan"] (zh xL):=fsd
abbrev rD:Stmt:=top 36
theorem zS:FnScope ["pen","letters","way","first","names","word","at"] ["pen"] (zh rD):=fsd
abbrev B2:Stmt:=top 34
theorem BW:FnScope ["pen","way"] ["pen"] (zh B2):=fsd
abbrev A4:Stmt:=top 39
theorem zY:FnScope ["pen","drawing","terms","part","times","least","most","wide","low","high"] ["pen","drawing"] (zh A4):=fsd
abbrev DZ:Stmt:=top 11
theorem Dx:FnScope ["drawing","many"] ["drawing"] (zh DZ):=fsd
abbrev wQ:Stmt:=top 24
theorem nR:FnScope ["drawing","thing","left","asked","plan","measured"] ["drawing","thing"] (zh wQ):=fsd
abbrev wK:Stmt:=top 37
theorem jC:FnScope ["pen","most","names","wides","drawing","k","low"] ["pen","most"] (zh wK):=fsd
abbrev BH:Stmt:=top 12
theorem u0:FnScope ["drawing","beginnings","part"] ["drawing"] (zh BH):=fsd
abbrev yW:Stmt:=top 23
theorem Aj:FnScope ["drawing","gap","thing","sets"] ["drawing","gap","thing"] (zh yW):=fsd
abbrev j7:Stmt:=top 48
theorem mR:FnScope ["spans","gap","known","wide","words","deep","part"] ["spans","gap","known"] (zh j7):=fsd
abbrev DQ:Stmt:=top 26
theorem IL:FnScope ["drawing","gap"] ["drawing","gap"] (zh DQ):=fsd
abbrev yS:Stmt:=top 46
theorem HR:FnScope ["plan"] ["plan"] (zh yS):=fsd
abbrev y9:Stmt:=top 43
theorem tW:FnScope ["drawing","measured","thing","name","low","high"] ["drawing","measured","thing"] (zh y9):=fsd
abbrev An:Stmt:=top 45
theorem A2:FnScope ["drawing","gap","thing","one"] ["drawing","gap","thing"] (zh An):=fsd
abbrev s_law:Stmt:=top 49
theorem jM:FnScope ["script","cell","pen","drawing","gap","due","found"] ["script"] (zh s_law):=fsd
structure Txt(mg:Str->Option bb):Prop where
 n_tuple:mg "tuple" = none
 n_min:mg "min" = none
 n_range:mg "range" = none
 n_len:mg "len" = none
 n_max:mg "max" = none
 n_all:mg "all" = none
 n_int:mg "int" = none
 n_sum:mg "sum" = none
 n_isinstance:mg "isinstance" = none
 n_bool:mg "bool" = none
 n_list:mg "list" = none
 n_sorted:mg "sorted" = none
 n_set:mg "set" = none
 n_str:mg "str" = none
 g_MOST_SETS:∃t,mg "MOST_SETS" = some (.int 300 t)
structure Dds(K:bx)(mg:Str->Option bb):Prop where
 a0:Dd K mg "_law_cell_at" CQ ["script","k"]
 a1:Dd K mg "_law_pen_of" Ao ["cell"]
 a2:Dd K mg "_law_next" EU ["seed"]
 a3:Dd K mg "_law_ends_of" Br ["drawing","terms"]
 a4:Dd K mg "size_of" A6 ["one"]
 a5:Dd K mg "span_of" Em ["part"]
 a6:Dd K mg "_law_kept" xO ["gap","one"]
 a7:Dd K mg "_law_singles" x8 ["spans","part"]
 a8:Dd K mg "_law_all_of" vX ["drawing"]
 a9:Dd K mg "_law_whole" Ds ["found"]
 a10:Dd K mg "_law_led" B4 ["plan","drawing","one"]
 a11:Dd K mg "each_longer" x6 ["beginnings","numbers"]
 a12:Dd K mg "is_whole" E8 ["thing"]
 a13:Dd K mg "worth_of" vQ ["gap","one"]
 a14:Dd K mg "led" Ek ["plan","drawing","one"]
 a15:Dd K mg "unlike_ones" CG ["plans"]
 a16:Dd K mg "_law_draw" C8 ["pen","many"]
 a17:Dd K mg "how_many" FL ["drawing"]
 a18:Dd K mg "is_measure" FM ["drawing","thing"]
 a19:Dd K mg "keeps" Aa ["gap","one"]
 a20:Dd K mg "depth" xL ["plan"]
 a21:Dd K mg "_law_names_of" rD ["pen"]
 a22:Dd K mg "_law_number" B2 ["pen"]
 a23:Dd K mg "_law_gap_of" A4 ["pen","drawing"]
 a24:Dd K mg "refuse_too_many_sets" DZ ["drawing"]
 a25:Dd K mg "is_plan" wQ ["drawing","thing"]
 a26:Dd K mg "_law_few" wK ["pen","most"]
 a27:Dd K mg "all_sets" BH ["drawing"]
 a28:Dd K mg "plan_holds" yW ["drawing","gap","thing"]
 a29:Dd K mg "_law_least_of" j7 ["spans","gap","known"]
 a30:Dd K mg "plan_of" DQ ["drawing","gap"]
 a31:Dd K mg "_law_deep_of" yS ["plan"]
 a32:Dd K mg "_law_is_plan" y9 ["drawing","measured","thing"]
 a33:Dd K mg "_law_plan_right" An ["drawing","gap","thing"]
 t_BREAKS:∃a,L2.TupG K mg "BREAKS" "breaks" a
 t_KEEPS:∃a,L2.TupG K mg "KEEPS" "keeps" a
abbrev s_Planner_least:Stmt:=sZ (top 27) 1
theorem Hh:FnScope ["self","terms","worth"] ["self","terms","worth"] (zh s_Planner_least):=fsd
abbrev s_Planner_best:Stmt:=sZ (top 27) 2
theorem LL:FnScope ["self","terms","worth"] ["self","terms","worth"] (zh s_Planner_best):=fsd
abbrev s_Planner_measuring:Stmt:=sZ (top 27) 3
theorem zR:FnScope ["self","terms","place","worth","part","span","others","worths","found","deepest"] ["self","terms","place","worth"] (zh s_Planner_measuring):=fsd
abbrev s_Planner_init:Stmt:=sZ (top 27) 0
theorem Fz:FnScope ["self","drawing","gap"] ["self","drawing","gap"] (zh s_Planner_init):=fsd
structure PlK(K:bx)(mg:Str->Option bb)(C cc:Addr):Prop where
 c:Cls K C
 n_drawing:NoAttr K C "drawing"
 n_gap:NoAttr K C "gap"
 n_known:NoAttr K C "known"
 i:Dki K mg "Planner" C "Planner.__init__" s_Planner_init ["self","drawing","gap"]
 m_least:Dt K C "least" "Planner.least" s_Planner_least ["self","terms","worth"]
 m_measuring:Dt K C "measuring" "Planner.measuring" s_Planner_measuring ["self","terms","place","worth"]
 m_best:DtC K C "best" "Planner.best" s_Planner_best ["self","terms","worth"] cc
 tb:∃P',((cc,P'),L2.lamKey (("Planner.best" ++ ".<locals>.") ++ "<lambda>") ⟨110,93,0,0⟩)∈L2.tabsG
 kE:∃a,TupK mg "KEEPS" "keeps" a
 kB:∃a,TupK mg "BREAKS" "breaks" a
section
variable {P:cy}{w:fq}{K:bx}{mg:Str->Option bb}{base:Heap}
local macro_rules|`(tactic|walk_at "r")=>do
 let ts<-("zg 0,zk 2,zC 0,zt 0,zr 0,aJ 0,bR 2,zN 2,cB 1,zN 0,eK 0,bY 2,fO 3,pN 2,cT 1,oO 0,aU 0,kU 0,zk 0,sB 0,Do 1,Li 1,vU 0,jJ 1,n9 2,r9 0,rX 0,uL 2,rL 1,jQ 0,g6 0,bS 1,Kx 0,Hb 0,kA 1,tI 0,lQ 3,bR 0,cB 0,Es 0,AQ 1,vL 0,lF 3,Gd 0,kA 0,lF 0,qV 0,GJ 0,GY 2,LI 0,lN 0,tL 0,Cs 5,lQ 0,Jl 2,Ki 2,fO 0,wY 0,HD 2,vD 0,LX 0,EB 0,Kb 0,AL 0,KT 1,sP 2,KC 2,sP 0,JO 0,jY 4,jP 0,i0 1,i3 0,gJ 1,K4 1,rJ 0,JR 0,ES 0,GG 0,LD 0,Ir 2,IG 0,IJ 1,wI 0,cT 0,bY 1,vK 0,Ah 0,Ak 0,C7 0,Gu 2,B1 0,Bp 0,zF 3,i4 1,dP 2,dP 0,zF 0".splitOn ",").toArray.mapM fun x=>do
  let i:=x.splitOn " "
  let h<-`(term|?_)
  let hs:=Array.replicate ((i.getD 1 "").toNat!) h
  `(Lean.Parser.Tactic.tacticSeq|refine $(Lean.mkIdent (i.getD 0 "").toName) $hs*)
 `(tactic|repeat' (first|with_reducible (first $[|$ts:tacticSeq]*)|rfl))
theorem GB(T:Txt mg:=by assumption)(dd:Dds K mg:=by assumption):Df P w K mg base "_law_cell_at" ["script","k"] 1 (sp2 (AC K)):=by
 refine Df.of2 dd.a0 Fp (fun v u=>[some v,some u]) (fun _ _=>rfl) fun f z A outer s H v u Q E hr h=>?_;obtain⟨a,ns,i,rfl,rfl,hS,h0,q⟩:=h;refine⟨_,(zf (aP (zJ kX (pv 1) (zx Iq (by rfl) T.n_len cQ (za (pv 0) ze)) (nomark _)) (zm (zA (zp DV (pv 0) (pv 1) (fun _ _=>rfl)))) zQ) (zm (zA zd))),?_⟩;simp only[cF,uM,j9,tOp,Kk,tCB,eC,gB,oU,tC,v9,B5,ol,om];refine⟨a,_,rfl,.inl hS,?_⟩;simp only[B5,JY,decide_eq_true_eq];refine ite2 (fun hi=>?_) (fun _=>q 0);obtain⟨n,e⟩:=Jy h0 hi;exact⟨a,_,i,_,rfl,rfl,hS,e,q n⟩
variable (T:Txt mg:=by assumption) (dd:Dds K mg:=by assumption) (kk0:∃C cc,PlK K mg C cc:=by assumption)
include T dd kk0
theorem Jc:Df P w K mg base "_law_pen_of" ["cell"] 1 (spN ["cell"] tM):=by
 exact Df.dN dd.a1 Ef 1 rfl fun f z A outer s H E hr=>⟨_,_,(zf (zy (i:=1) Ef.nd rfl lo (zx (A3 rfl) (by rfl) T.n_max k9 (za (pv 0) (za (zD d8 zd (pv 0)) ze)))) (zm (zA (aT (za (pv 1) (za (kN BK (by rfl) T.n_int uH (za (i5 HU (pv 1) (zD uP zd zd) (nomark _)) ze)) (za (zD hX (pv 1) zd) ze))))))),(by walk_at "r"),fun xs S R q=>q⟩
theorem Eh:Df P w K mg base "_law_next" ["seed"] 1 (spN ["seed"] oP):=by
 exact Df.dN dd.a2 Cd 0 rfl fun f z A outer s H E hr=>⟨_,_,(zf (zy (i:=0) Cd.nd rfl lo (zD hX (zD zG (pv 0) zd) zd)) (zm (zA (zD hX (zD zG (zD zG (zD cP (pv 0) (pv 0)) (zD cP zd (pv 0))) zd) zd)))),(by walk_at "r"),fun xs S R q=>q⟩
theorem JG:Df P w K mg base "_law_ends_of" ["drawing","terms"] 1 (spN ["drawing","terms"] rS):=by
 exact Df.dN dd.a3 g0 5 rfl fun f z A outer s H E hr=>⟨_,_,(zf (zy (i:=2) g0.nd rfl lo zd) (zf (zy (i:=3) g0.nd rfl lo zd) (zf (eM gc rfl (bG (pv 1)) (jT (n:=2) rfl (cU (zw (i:=4) g0.nd rfl (gj rfl)) (cU (zw (i:=5) g0.nd rfl (gj rfl)) jD))) (zf (zy (i:=6) g0.nd rfl lo (aT (za (zD cP (pv 5) (zp zn (zp zn (pv 0) (pv 4) (fun _ _=>rfl)) zd (fun _ _=>rfl))) (za (zD cP (pv 5) (zp zn (zp zn (pv 0) (pv 4) (fun _ _=>rfl)) zd (fun _ _=>rfl))) ze)))) (zf (zy (i:=2) g0.nd rfl lo (zD zG (pv 2) (zx (Co rfl hr.units) (by rfl) T.n_min v3 (za (pv 6) ze)))) (zm (zy (i:=3) g0.nd rfl lo (zD zG (pv 3) (zx (uN rfl) (by rfl) T.n_max k9 (za (pv 6) ze)))))))) (zm (zA (aQ (za (pv 2) (za (pv 3) ze)))))))),(by walk_at "r"),fun xs S R q=>q⟩
theorem Ad:Df P w K mg base "size_of" ["one"] 1 (spN ["one"] qS):=by
 exact Df.dN dd.a4 GQ 0 rfl fun f z A outer s H E hr=>⟨_,_,(zm (zA (zD zG (zD d8 (zp zn (pv 0) zd (fun _ _=>rfl)) (zp zn (pv 0) zd (fun _ _=>rfl))) zd))),(by walk_at "r"),fun xs S R q=>q⟩
theorem w4:Df P w K mg base "span_of" ["part"] 1 (spN ["part"] kJ):=by
 exact Df.dN dd.a5 Hm 0 rfl fun f z A outer s H E hr=>⟨_,_,(zm (zA (aQ (za (zp zn (pv 0) zd (fun _ _=>rfl)) (za (zp zn (pv 0) zd (fun _ _=>rfl)) ze))))),(by walk_at "r"),fun xs S R q=>q⟩
theorem Bv:Df P w K mg base "_law_kept" ["gap","one"] 1 (spN ["gap","one"] jS):=by
 exact Df.dN dd.a6 Aq 1 rfl fun f z A outer s H E hr=>⟨_,_,(zf (zy (i:=2) Aq.nd rfl lo (zx (Cy rfl) (by rfl) T.n_sum FI (za (bX (fun _ _ h=>h) rfl (zI rfl rfl rfl rfl (N:=["part","times","one"]) (caps:=[none,none,some 1]) (by show aY ["gap","one","worth"] (zh xO).names _ _ _=true;decide +kernel)) (bG (zp zn (pv 0) zd (fun _ _=>rfl))) (fun _ _ _ _=>(jT (n:=2) rfl (cU (zw (i:=0) (by show fz (["part","times","one"]:List Str);decide) rfl (gj rfl)) (cU (zw (i:=1) (by show fz (["part","times","one"]:List Str);decide) rfl (gj rfl)) jD)))) (fun _ _ _ _=>bJ) (fun _ _ _ _=>(zD cP (pv 1) (zp zn (pv 2) (pv 0) (fun _ _=>rfl))))) ze))) (zm (zA (A5 jN jN (zp zn (pv 0) zd (fun _ _=>rfl)) (pv 2) (zp zn (pv 0) zd (fun _ _=>rfl)))))),(zN (bR (dP AL (zk (cA (bS (zF aJ zg zC)) (AQ (n9 zr (n9 zr vL))) bH (zF g6 zg (zF aJ zg zg))) zt)) zr) (by walk_at "r")),fun xs S R q=>q⟩
theorem DR:Df P w K mg base "_law_singles" ["spans","part"] 1 (spN ["spans","part"] oA):=by
 exact Df.dN dd.a7 v4 2 rfl fun f z A outer s H E hr=>⟨_,_,(zf (nA (zp zn (pv 0) (pv 1) (fun _ _=>rfl)) (jT (n:=2) rfl (cU (zw (i:=2) v4.nd rfl (rf rfl)) (cU (zw (i:=3) v4.nd rfl (gj rfl)) jD)))) (zm (zA (bX (fun _ _ h=>h) rfl (zI rfl rfl rfl rfl (N:=["k","spans","part","low"]) (caps:=[none,some 0,some 1,some 2]) (by show aY ["spans","part","low","high"] (zh x8).names _ _ _=true;decide +kernel)) (fM rfl T.n_range (za (zD zG (zD d8 (pv 3) (pv 2)) zd) ze)) (fun _ _ _ _=>(zw (i:=0) (by show fz (["k","spans","part","low"]:List Str);decide) rfl (gj rfl))) (fun _ _ _ _=>bJ) (fun _ _ _ _=>(zD zG (zD zG (gG iJ (pv 1) gW (fF (pv 2))) (aQ (za (aQ (za (zD zG (pv 3) (pv 0)) (za (zD zG (pv 3) (pv 0)) ze))) ze))) (gG iJ (pv 1) (fF (zD zG (pv 2) zd)) gW))))))),(zN (by walk_at "r") (cB (wZ (gJ (zk (zF aU (zF r9 zg zg) zC) zt)) zr bH (zF aU (zF aU (jY jP zg i3 (i0 zg)) (cT (zk (cT (zk (zF aU zg zg) (zk (zF aU zg zg) zt))) zt))) (jY jP zg (i0 (zF aU zg zC)) i3))))),fun xs S R q=>q⟩
theorem Hs:Df P w K mg base "_law_all_of" ["drawing"] 1 (spN ["drawing"] tT):=by
 exact Df.dN dd.a8 h9 6 rfl fun f z A outer s H E hr=>⟨_,_,(zf (zy (i:=1) h9.nd rfl lo (aT (za (aQ ze) ze))) (zf (eM gc rfl (bG (pv 0)) (jT (n:=3) rfl (cU (zw (i:=2) h9.nd rfl (gj rfl)) (cU (zw (i:=3) h9.nd rfl (rf rfl)) (cU (zw (i:=4) h9.nd rfl (gj rfl)) jD)))) (zf (zy (i:=5) h9.nd rfl lo (aT ze)) (zf (eM gc rfl (bG (pv 1)) (zw (i:=6) h9.nd rfl (rf rfl)) (zm (eA (e8 PySem.F.plainAttrs_list PySem.F.slot_list_extend PySem.F.type_list_extend u9 (pv 5) (za (bX (fun _ _ h=>h) rfl (zI rfl rfl rfl rfl (N:=["k","ahead","low"]) (caps:=[none,some 6,some 3]) (by show aY ["drawing","found","name","low","high","longer","ahead"] (zh vX).names _ _ _=true;decide +kernel)) (fM rfl T.n_range (za (zD zG (zD d8 (pv 4) (pv 3)) zd) ze)) (fun _ _ _ _=>(zw (i:=0) (by show fz (["k","ahead","low"]:List Str);decide) rfl (gj rfl))) (fun _ _ _ _=>bJ) (fun _ _ _ _=>(zD zG (pv 1) (aQ (za (zD zG (pv 2) (pv 0)) ze))))) ze))))) (zm (zy (i:=1) h9.nd rfl lo (pv 5)))))) (zm (zA (pv 1))))),(zN (by walk_at "r") (zN (lQ (bS zg) (by walk_at "r") (Eb (zN (vY (zN (by walk_at "r") (lQ (bS zg) zr (kA (lF qV zg (zk (cA (gJ (zk (zF aU (zF r9 zg zg) zC) zt)) zr bH (zF aU zg (cT (zk (zF aU zg zg) zt)))) zt)))))) (bR zg zr)))) (cB zg))),fun xs S R q=>q⟩
theorem Ab:Df P w K mg base "_law_whole" ["found"] 1 (spN ["found"] l0):=by
 exact Df.dN dd.a9 Jb 0 rfl fun f z A outer s H E hr=>⟨_,_,(zm (zA (wC (zx fX (by rfl) T.n_isinstance fY (za (pv 0) (za (fW rfl T.n_int uH (v:=.ty "int") rfl) ze))) (wN (EF (zx fX (by rfl) T.n_isinstance fY (za (pv 0) (za (fW rfl T.n_bool Ac (v:=.ty "bool") rfl) ze)))))))),(by walk_at "r"),fun xs S R q=>q⟩
theorem Lx:Df P w K mg base "_law_led" ["plan","drawing","one"] 1 (spN ["plan","drawing","one"] Ar):=by
 exact Df.dN dd.a10 xH 1 rfl fun f z A outer s H E hr=>⟨_,_,(zf (zy (i:=3) xH.nd rfl lo (aT ze)) (zf (tK gc (zJ (cE hr.units) (zx c7 (by rfl) T.n_len cQ (za (pv 0) ze)) zd (nomark _)) (zf (eA (e8 PySem.F.plainAttrs_list PySem.F.slot_list_append PySem.F.type_list_append j4 (pv 3) (za (zp zn (pv 0) zd (fun _ _=>rfl)) ze))) (zm (zy (i:=0) xH.nd rfl lo (zp zn (zp zn (pv 0) zd (fun _ _=>rfl)) (zD d8 (zp zn (pv 2) (zp zn (pv 0) zd (fun _ _=>rfl)) (fun _ _=>rfl)) (zp zn (zp zn (pv 1) (zp zn (pv 0) zd (fun _ _=>rfl)) (fun _ _=>rfl)) zd (fun _ _=>rfl))) (fun _ _=>rfl)))))) (zm (zA (aQ (za (pv 3) (za (zp zn (pv 0) zd (fun _ _=>rfl)) ze))))))),(Eb (zN (vY (by walk_at "r")) (by walk_at "r"))),fun xs S R q=>q⟩
theorem FW:Df P w K mg base "each_longer" ["beginnings","numbers"] 1 (spN ["beginnings","numbers"] uW):=by
 exact Df.dN dd.a11 AO 2 rfl fun f z A outer s H E hr=>⟨_,_,(zf (zy (i:=2) AO.nd rfl lo (aT ze)) (zf (eM gc rfl (bG (pv 0)) (zw (i:=3) AO.nd rfl (rf rfl)) (zm (eA (e8 PySem.F.plainAttrs_list PySem.F.slot_list_extend PySem.F.type_list_extend u9 (pv 2) (za (bX (fun _ _ h=>h) rfl (zI rfl rfl rfl rfl (N:=["number","beginning"]) (caps:=[none,some 3]) (by show aY ["beginnings","numbers","longer","beginning"] (zh x6).names _ _ _=true;decide +kernel)) (bG (pv 1)) (fun _ _ _ _=>(zw (i:=0) (by show fz (["number","beginning"]:List Str);decide) rfl (gj rfl))) (fun _ _ _ _=>bJ) (fun _ _ _ _=>(zD zG (pv 1) (aQ (za (pv 0) ze))))) ze))))) (zm (zA (pv 2))))),(zN (by walk_at "r") (zN (lQ (bS zg) zr (kA (lF qV zg (zk (cA (bS zg) zr bH (zF aU zg (cT (zk zg zt)))) zt)))) (cB zg))),fun xs S R q=>q⟩
theorem Hj:Df P w K mg base "is_whole" ["thing"] 1 (spN ["thing"] sS):=by
 exact Df.dN dd.a12 Ia 0 rfl fun f z A outer s H E hr=>⟨_,_,(zm (zA (wC (zx fX (by rfl) T.n_isinstance fY (za (pv 0) (za (fW rfl T.n_int uH (v:=.ty "int") rfl) ze))) (wN (EF (zx fX (by rfl) T.n_isinstance fY (za (pv 0) (za (fW rfl T.n_bool Ac (v:=.ty "bool") rfl) ze)))))))),(by walk_at "r"),fun xs S R q=>q⟩
theorem K6:Df P w K mg base "worth_of" ["gap","one"] 1 (spN ["gap","one"] sC):=by
 exact Df.dN dd.a13 LK 0 rfl fun f z A outer s H E hr=>⟨_,_,(zm (zA (zx (Cy rfl) (by rfl) T.n_sum FI (za (bX (fun _ _ h=>h) rfl (zI rfl rfl rfl rfl (N:=["part","times","one"]) (caps:=[none,none,some 1]) (by show aY ["gap","one"] (zh vQ).names _ _ _=true;decide +kernel)) (bG (zp zn (pv 0) zd (fun _ _=>rfl))) (fun _ _ _ _=>(jT (n:=2) rfl (cU (zw (i:=0) (by show fz (["part","times","one"]:List Str);decide) rfl (gj rfl)) (cU (zw (i:=1) (by show fz (["part","times","one"]:List Str);decide) rfl (gj rfl)) jD)))) (fun _ _ _ _=>bJ) (fun _ _ _ _=>(zD cP (pv 1) (zp zn (pv 2) (pv 0) (fun _ _=>rfl))))) ze)))),(cB (dP AL (zk (cA (bS (zF aJ zg zC)) (AQ (n9 zr (n9 zr vL))) bH (zF g6 zg (zF aJ zg zg))) zt))),fun xs S R q=>q⟩
theorem KN:Df P w K mg base "led" ["plan","drawing","one"] 1 (spN ["plan","drawing","one"] sR):=by
 exact Df.dN dd.a14 nU 3 rfl fun f z A outer s H E hr=>⟨_,_,(zf (zy (i:=3) nU.nd rfl lo (aT ze)) (zf (zy (i:=4) nU.nd rfl lo (pv 0)) (zf (tK gc (zJ (cE hr.units) (zp zn (pv 4) zd (fun _ _=>rfl)) b7 (nomark _)) (zf (zy (i:=5) nU.nd rfl lo (zp zn (pv 4) zd (fun _ _=>rfl))) (zf (eA (e8 PySem.F.plainAttrs_list PySem.F.slot_list_append PySem.F.type_list_append j4 (pv 3) (za (pv 5) ze))) (zm (zy (i:=4) nU.nd rfl lo (zp zn (zp zn (pv 4) zd (fun _ _=>rfl)) (zD d8 (zp zn (pv 2) (pv 5) (fun _ _=>rfl)) (zp zn (zp zn (pv 1) (pv 5) (fun _ _=>rfl)) zd (fun _ _=>rfl))) (fun _ _=>rfl))))))) (zm (zA (aQ (za (pv 3) (za (zp zn (pv 4) zd (fun _ _=>rfl)) ze)))))))),(Jk (zN (vY (by walk_at "r")) (by walk_at "r"))),fun xs S R q=>q⟩
theorem MB:Df P w K mg base "unlike_ones" ["plans"] 1 (spN ["plans"] rR):=by
 exact Df.dN dd.a15 wU 2 rfl fun f z A outer s H E hr=>⟨_,_,(zf (zy (i:=1) wU.nd rfl lo (aT ze)) (zf (eM gc rfl (bG (pv 0)) (zw (i:=2) wU.nd rfl (gj rfl)) (zm (aP (zJ (rV hr.units) (pv 2) (pv 1) (by rfl)) (zm (eA (e8 PySem.F.plainAttrs_list PySem.F.slot_list_append PySem.F.type_list_append j4 (pv 1) (za (pv 2) ze)))) zQ))) (zm (zA (pv 1))))),(by walk_at "r"),fun xs S R q=>q⟩
theorem zU:Df P w K mg base "_law_draw" ["pen","many"] 2 (spN ["pen","many"] zu):=by
 exact Df.dN dd.a16 Bk 1 rfl fun f z A outer s H E hr=>⟨_,_,(zf (aP (zJ (cE hr.units) (zp zn (pv 0) zd (fun _ _=>rfl)) zd (nomark _)) (zf (zy (i:=2) Bk.nd rfl lo (zD hX (zp zn (pv 0) zd (fun _ _=>rfl)) (pv 1))) (zf (nA (zD rA (zp zn (pv 0) zd (fun _ _=>rfl)) (pv 1)) (B3 (pv 0) zd Ae)) (zm (zA (pv 2))))) zQ) (zf (nA (zB Eh hr dz (za (zD zG (zB Eh hr dz (za (zp zn (pv 0) zd (fun _ _=>rfl)) ze)) zd) ze)) (B3 (pv 0) zd Ae)) (zm (zA (zD hX (zD rA (zp zn (pv 0) zd (fun _ _=>rfl)) zd) (pv 1)))))),(by walk_at "r"),fun xs S R q=>q⟩
theorem Hy:Df P w K mg base "how_many" ["drawing"] 2 (spN ["drawing"] sO):=by
 exact Df.dN dd.a17 uZ 2 rfl fun f z A outer s H E hr=>⟨_,_,(zf (zy (i:=1) uZ.nd rfl lo zd) (zf (eM gc rfl (bG (pv 0)) (zw (i:=2) uZ.nd rfl (gj rfl)) (zm (zy (i:=1) uZ.nd rfl lo (zD cP (pv 1) (zB Ad hr dz (za (zB w4 hr dz (za (pv 2) ze)) ze)))))) (zm (zA (pv 1))))),(by walk_at "r"),fun xs S R q=>q⟩
theorem Ll:Df P w K mg base "is_measure" ["drawing","thing"] 2 (spN ["drawing","thing"] uC):=by
 exact Df.dN dd.a18 FX 0 rfl fun f z A outer s H E hr=>⟨_,_,(zf (aP (PW.pt (eZ (eJ (cY (zx fX (by rfl) T.n_isinstance fY (za (pv 1) (za (fW rfl T.n_tuple iL (v:=.ty "tuple") rfl) ze))) (fun _=>rfl))) (eZ (zJ (iI hr.units) (zx c7 (by rfl) T.n_len cQ (za (pv 1) ze)) zd (nomark _)) (jR (zJ (iI hr.units) (zp zn (pv 1) zd (fun _ _=>rfl)) b7 (nomark _)))))) (zm (zA cJ)) zQ) (zf (aP (PW.pt (eZ (eJ (cY (zB Hj hr dz (za (zp zn (pv 1) zd (fun _ _=>rfl)) ze)) (fun _=>rfl))) (jR (eJ (A8 jN kX zd (zp zn (pv 1) zd (fun _ _=>rfl)) (zx c7 (by rfl) T.n_len cQ (za (pv 0) ze))))))) (zm (zA cJ)) zQ) (zm (zA (wC (zx fX (by rfl) T.n_isinstance fY (za (zp zn (pv 1) zd (fun _ _=>rfl)) (za (fW rfl T.n_tuple iL (v:=.ty "tuple") rfl) ze))) (wN (i5 (cE hr.units) (zx c7 (by rfl) T.n_len cQ (za (zp zn (pv 1) zd (fun _ _=>rfl)) ze)) (zB Ad hr dz (za (zB w4 hr dz (za (zp zn (pv 0) (zp zn (pv 1) zd (fun _ _=>rfl)) (fun _ _=>rfl)) ze)) ze)) (nomark _)))))))),(by walk_at "r"),fun xs S R q=>q⟩
theorem Kf:Df P w K mg base "keeps" ["gap","one"] 2 (spN ["gap","one"] sM):=by
 exact Df.dN dd.a19 L6 0 rfl fun f z A outer s H E hr=>⟨_,_,(zm (zA (A5 jN jN (zp zn (pv 0) zd (fun _ _=>rfl)) (zB K6 hr dz (za (pv 0) (za (pv 1) ze))) (zp zn (pv 0) zd (fun _ _=>rfl))))),(by walk_at "r"),fun xs S R q=>q⟩
theorem D4:Df P w K mg base "depth" ["plan"] 2 (spN ["plan"] lM):=by
 exact Df.dN dd.a20 lP 3 rfl fun f z A outer s H E hr=>⟨_,_,(zf (zy (i:=1) lP.nd rfl lo zd) (zf (zy (i:=2) lP.nd rfl lo (aT (za (aQ (za (pv 0) (za zd ze))) ze))) (zf (tK gc (cY (pv 2) (fun _=>rfl)) (zf (zy (i:=3) lP.nd rfl (rf rfl) (yX PySem.F.plainAttrs_list PySem.F.slot_list_pop PySem.F.type_list_pop AR (pv 2))) (zf (zy (i:=1) lP.nd rfl lo (zx (A3 rfl) (by rfl) T.n_max k9 (za (pv 1) (za (zp zn (pv 3) zd (fun _ _=>rfl)) ze)))) (zm (aP (zJ (cE hr.units) (zp zn (zp zn (pv 3) zd (fun _ _=>rfl)) zd (fun _ _=>rfl)) b7 (nomark _)) (zm (eA (e8 PySem.F.plainAttrs_list PySem.F.slot_list_extend PySem.F.type_list_extend u9 (pv 2) (za (bX (fun _ _ h=>h) rfl (zI rfl rfl rfl rfl (N:=["further","asked"]) (caps:=[none,some 3]) (by show aY ["plan","deepest","left","asked"] (zh xL).names _ _ _=true;decide +kernel)) (bG (zB MB hr dz (za (zp zn (zp zn (pv 3) zd (fun _ _=>rfl)) zd (fun _ _=>rfl)) ze))) (fun _ _ _ _=>(zw (i:=0) (by show fz (["further","asked"]:List Str);decide) rfl (gj rfl))) (fun _ _ _ _=>bJ) (fun _ _ _ _=>(aQ (za (pv 0) (za (zD zG (zp zn (pv 1) zd (fun _ _=>rfl)) zd) ze))))) ze)))) zQ))))) (zm (zA (pv 1)))))),(zN (bR zC zr) (zN (by walk_at "r") (zN (sP (jJ zg) (zN (by walk_at "r") (zN (by walk_at "r") (fO (by walk_at "r") (kA (lF qV zg (zk (cA (bS (bY (zk (zF aJ (zF aJ zg zC) zC) zt))) zr bH (cT (zk zg (zk (zF aU (zF aJ zg zC) zC) zt)))) zt))) eK)))) (cB zg)))),fun xs S R q=>q⟩
theorem L4:Df P w K mg base "_law_names_of" ["pen"] 3 (spN ["pen"] nZ):=by
 exact Df.dN dd.a21 zS 6 rfl fun f z A outer s H E hr=>⟨_,_,(zf (zy (i:=1) zS.nd rfl (rf rfl) b7) (zf (zy (i:=2) zS.nd rfl lo (zB zU hr dz (za (pv 0) (za zd ze)))) (zf (zy (i:=3) zS.nd rfl (rf rfl) (zB zU hr dz (za (pv 0) (za zd ze)))) (zf (nJ (i:=4) (fun _ _ h=>h) rfl (zI rfl rfl rfl rfl (N:=["k","letters","first"]) (caps:=[none,some 1,some 3]) (by show aY ["pen","letters","way","first","names","word","at"] (zh rD).names _ _ _=true;decide +kernel)) zS.nd rfl rfl (fM rfl T.n_range (za zd ze)) (fun _ _ _ _=>(zw (i:=0) (by show fz (["k","letters","first"]:List Str);decide) rfl (gj rfl))) (fun _ _ _ _=>bJ) (fun _ _ _ _=>(zD cP (zp zn (pv 1) (zD hX (zD zG (pv 2) (zD cP zd (pv 0))) zd) (fun _ _=>rfl)) (zD zG zd (zD hX (zD zG (pv 2) (zD cP zd (pv 0))) zd))))) (zf (aP (zJ (cE hr.units) (pv 2) zd (nomark _)) (zf (zy (i:=5) zS.nd rfl (rf rfl) (e8 PySem.F.plainAttrs_str PySem.F.slot_str_join PySem.F.type_str_join Im b7 (za (bX (fun _ _ h=>h) rfl (zI rfl rfl rfl rfl (N:=["k","letters","first"]) (caps:=[none,some 1,some 3]) (by show aY ["pen","letters","way","first","names","word","at"] (zh rD).names _ _ _=true;decide +kernel)) (fM rfl T.n_range (za zd ze)) (fun _ _ _ _=>(zw (i:=0) (by show fz (["k","letters","first"]:List Str);decide) rfl (gj rfl))) (fun _ _ _ _=>bJ) (fun _ _ _ _=>(zp zn (pv 1) (zD hX (zD zG (pv 2) (zD cP zd (pv 0))) zd) (fun _ _=>rfl)))) ze))) (zm (nJ (i:=4) (fun _ _ h=>h) rfl (zI rfl rfl rfl rfl (N:=["k","word"]) (caps:=[none,some 5]) (by show aY ["pen","letters","way","first","names","word","at"] (zh rD).names _ _ _=true;decide +kernel)) zS.nd rfl rfl (fM rfl T.n_range (za zd ze)) (fun _ _ _ _=>(zw (i:=0) (by show fz (["k","word"]:List Str);decide) rfl (gj rfl))) (fun _ _ _ _=>bJ) (fun _ _ _ _=>(gG iJ (pv 1) gW (fF (zD zG (pv 0) zd))))))) zQ) (zf (aP (zJ (cE hr.units) (pv 2) zd (nomark _)) (zm (zy (i:=4) zS.nd rfl lo (aT (za b7 (za b7 (za b7 (za b7 (za b7 (za b7 (za b7 (za b7 ze))))))))))) zQ) (zf (zy (i:=6) zS.nd rfl lo (zB zU hr dz (za (pv 0) (za zd ze)))) (zf (zy (i:=4) zS.nd rfl lo (zD yE (gG iJ (pv 4) (fF (pv 6)) gW) (gG iJ (pv 4) gW (fF (pv 6))))) (zf (aP (zJ (cE hr.units) (zB zU hr dz (za (pv 0) (za zd ze))) zd (nomark _)) (zm (eA (yX PySem.F.plainAttrs_list PySem.F.slot_list_reverse PySem.F.type_list_reverse Lh (pv 4)))) zQ) (zm (zA (pv 4)))))))))))),(zN (bR oO zr) (zN (by walk_at "r") (zN (by walk_at "r") (zN (bR (wZ (gJ (zk zC zt)) zr bH (zF g6 (zF aJ zg (zF jQ (zF aU zg (zF g6 zC zg)) zC)) (zF aU zC (zF jQ (zF aU zg (zF g6 zC zg)) zC)))) zr) (zN (fO (by walk_at "r") (zN (bR (ES Hz oO (zk (cA (gJ (zk zC zt)) zr bH (zF aJ zg (zF jQ (zF aU zg (zF g6 zC zg)) zC))) zt)) zr) (bR (wZ (gJ (zk zC zt)) zr bH (jY jP zg i3 (i0 (zF aU zg zC)))) zr)) eK) (by walk_at "r")))))),fun xs S R q=>q⟩
theorem Hg:Df P w K mg base "_law_number" ["pen"] 3 (spN ["pen"] sL):=by
 exact Df.dN dd.a22 BW 1 rfl fun f z A outer s H E hr=>⟨_,_,(zf (zy (i:=1) BW.nd rfl lo (zB zU hr dz (za (pv 0) (za zd ze)))) (zf (aP (zJ kX (pv 1) zd (nomark _)) (zm (zA (zD d8 (zB zU hr dz (za (pv 0) (za zd ze))) zd))) zQ) (zf (aP (zJ kX (pv 1) zd (nomark _)) (zm (zA (zD d8 (zB zU hr dz (za (pv 0) (za zd ze))) zd))) zQ) (zm (zA (zD cP (zD d8 (zB zU hr dz (za (pv 0) (za (zD cP zd (zD uP zd zd)) ze))) (zD uP zd zd)) (zD uP zd zd))))))),(by walk_at "r"),fun xs S R q=>q⟩
theorem IW:Df P w K mg base "_law_gap_of" ["pen","drawing"] 3 (spN ["pen","drawing"] sV):=by
 exact Df.dN dd.a23 zY 8 rfl fun f z A outer s H E hr=>⟨_,_,(zf (zy (i:=2) zY.nd rfl lo (aT ze)) (zf (eM gc rfl (fM rfl T.n_range (za (zx c7 (by rfl) T.n_len cQ (za (pv 1) ze)) ze)) (zw (i:=3) zY.nd rfl (gj rfl)) (zf (zy (i:=4) zY.nd rfl lo (zD d8 (zB zU hr dz (za (pv 0) (za zd ze))) zd)) (zm (aP (zJ (rV hr.units) (pv 4) (aQ (za (u6 rH zd) (za zd (za zd ze)))) (by rfl)) (zm (eA (e8 PySem.F.plainAttrs_list PySem.F.slot_list_append PySem.F.type_list_append j4 (pv 2) (za (aQ (za (pv 3) (za (pv 4) ze))) ze)))) zQ)))) (zf (aP (zJ (cE hr.units) (pv 2) (aT ze) (nomark _)) (zm (zy (i:=2) zY.nd rfl lo (aT (za (aQ (za (zB zU hr dz (za (pv 0) (za (zx c7 (by rfl) T.n_len cQ (za (pv 1) ze)) ze))) (za (zp zn (aT (za zd (za (u6 rH zd) (za zd (za (u6 rH zd) ze))))) (zB zU hr dz (za (pv 0) (za zd ze))) (fun _ _=>rfl)) ze))) ze)))) zQ) (zf (nA (zB JG hr dz (za (pv 1) (za (pv 2) ze))) (jT (n:=2) rfl (cU (zw (i:=5) zY.nd rfl (gj rfl)) (cU (zw (i:=6) zY.nd rfl (gj rfl)) jD)))) (zf (zy (i:=7) zY.nd rfl lo (zD d8 (pv 6) (pv 5))) (zf (zy (i:=8) zY.nd rfl lo (zD zG (pv 5) (zp zn (DW (eE zd (eE zd (eE (u6 rH zd) (eE (zD rA (pv 7) zd) (eE (zD rA (pv 7) zd) (eE (zD zG (pv 7) zd) AV))))))) (zB zU hr dz (za (pv 0) (za zd ze))) (fun _ _=>rfl)))) (zf (zy (i:=9) zY.nd rfl lo (zD zG (pv 8) (zp zn (DW (eE zd (eE zd (eE zd (eE (zD rA (pv 7) zd) (eE (pv 7) (eE (zD zG (pv 7) zd) AV))))))) (zB zU hr dz (za (pv 0) (za zd ze))) (fun _ _=>rfl)))) (zm (zA (aQ (za (kN sK (by rfl) T.n_tuple iL (za (pv 2) ze)) (za (pv 8) (za (pv 9) ze))))))))))))),(by walk_at "r"),fun xs S R q=>q⟩
theorem CP:Df P w K mg base "refuse_too_many_sets" ["drawing"] 3 (spN ["drawing"] zV):=by
 exact Df.dN dd.a24 Dx 1 rfl fun f z A outer s H E hr=>⟨_,_,(zf (zy (i:=1) Dx.nd rfl lo (zB Hy hr dz (za (pv 0) ze))) (zm (aP (zJ Gg (pv 1) (Hu rfl T.g_MOST_SETS) (nomark _)) (zm Gw) zQ))),(by walk_at "r"),fun xs S R q=>q⟩
theorem Lg:Df P w K mg base "is_plan" ["drawing","thing"] 3 (spN ["drawing","thing"] tY):=by
 obtain⟨z,t_BREAKS⟩:=dd.t_BREAKS;obtain⟨aa,t_KEEPS⟩:=dd.t_KEEPS;exact Df.dN dd.a25 nR 4 rfl fun f ab A outer s H E hr=>⟨_,_,(zf (zy (i:=2) nR.nd rfl lo (aT (za (aQ (za (pv 1) (za (aQ ze) ze))) ze))) (zf (tK gc (cY (pv 2) (fun _=>rfl)) (zf (zy (i:=3) nR.nd rfl lo (yX PySem.F.plainAttrs_list PySem.F.slot_list_pop PySem.F.type_list_pop AR (pv 2))) (zf (zy (i:=4) nR.nd rfl (rf rfl) (zp zn (pv 3) zd (fun _ _=>rfl))) (zf (zy (i:=5) nR.nd rfl (rf rfl) (zp zn (pv 3) zd (fun _ _=>rfl))) (zm (aP (PW.pt (wL (cY (zB Ll hr dz (za (pv 0) (za (pv 4) ze))) (fun _=>rfl)) (y0 (zJ (rV hr.units) (zp zn (pv 4) zd (fun _ _=>rfl)) (pv 5) (by rfl))))) (zm (eA (e8 PySem.F.plainAttrs_list PySem.F.slot_list_extend PySem.F.type_list_extend u9 (pv 2) (za (bX (fun _ _ h=>h) rfl (zI rfl rfl rfl rfl (N:=["further","measured","plan"]) (caps:=[none,some 5,some 4]) (by show aY ["drawing","thing","left","asked","plan","measured"] (zh wQ).names _ _ _=true;decide +kernel)) (bG (zp zn (pv 4) zd (fun _ _=>rfl))) (fun _ _ _ _=>(zw (i:=0) (by show fz (["further","measured","plan"]:List Str);decide) rfl (gj rfl))) (fun _ _ _ _=>bJ) (fun _ _ _ _=>(aQ (za (pv 0) (za (zD zG (pv 1) (aQ (za (zp zn (pv 2) zd (fun _ _=>rfl)) ze))) ze))))) ze)))) (zm (aP (PW.pt (wL (zJ (Ey t_KEEPS (by decide +kernel) hr.units) (pv 4) (tG (v:=.ref aa) rfl t_KEEPS.1 rfl) (nomark _)) (y0 (zJ (Ey t_BREAKS (by decide +kernel) hr.units) (pv 4) (tG (v:=.ref z) rfl t_BREAKS.1 rfl) (nomark _))))) (zm (zA cJ)) zQ)))))))) (zm (zA cJ)))),(zN (by walk_at "r") (zN (sP (jJ zg) (zN (by walk_at "r") (zN (by walk_at "r") (zN (by walk_at "r") (fO (by walk_at "r") (kA (lF qV zg (zk (cA (bS (zF aJ zg zC)) zr bH (cT (zk zg (zk (zF aU zg (cT (zk (zF aJ zg zC) zt))) zt)))) zt))) (by walk_at "r")))))) (cB kU))),fun xs S R q=>q⟩
theorem LA:Df P w K mg base "_law_few" ["pen","most"] 4 (spN ["pen","most"] wP):=by
 exact Df.dN dd.a26 jC 5 rfl fun f z A outer s H E hr=>⟨_,_,(zf (zy (i:=2) jC.nd rfl lo (zB L4 hr dz (za (pv 0) ze))) (zf (nJ (i:=3) (fun _ _ h=>h) rfl (zI rfl rfl rfl rfl (N:=["k","pen"]) (caps:=[none,some 0]) (by show aY ["pen","most","names","wides","drawing","k","low"] (zh wK).names _ _ _=true;decide +kernel)) jC.nd rfl rfl (fM rfl T.n_range (za (zD zG zd (zB zU hr dz (za (pv 0) (za (pv 1) ze)))) ze)) (fun _ _ _ _=>(zw (i:=0) (by show fz (["k","pen"]:List Str);decide) rfl (gj rfl))) (fun _ _ _ _=>bJ) (fun _ _ _ _=>(zD zG zd (zB zU hr dz (za (pv 1) (za zd ze)))))) (zf (aP (zJ (cE hr.units) (zB zU hr dz (za (pv 0) (za zd ze))) zd (nomark _)) (zm (zy (i:=3) jC.nd rfl lo (zp zn (aT (za (zD cP (aT (za zd ze)) zd) (za (aT (za zd (za zd ze))) (za (aT (za zd ze)) (za (zD cP (aT (za zd ze)) zd) ze))))) (zB zU hr dz (za (pv 0) (za zd ze))) (fun _ _=>rfl)))) zQ) (zf (zy (i:=4) jC.nd rfl lo (aT ze)) (zf (eM gc rfl (fM rfl T.n_range (za (zx c7 (by rfl) T.n_len cQ (za (pv 3) ze)) ze)) (zw (i:=5) jC.nd rfl (gj rfl)) (zf (zy (i:=6) jC.nd rfl lo (zB Hg hr dz (za (pv 0) ze))) (zm (eA (e8 PySem.F.plainAttrs_list PySem.F.slot_list_append PySem.F.type_list_append j4 (pv 4) (za (aQ (za (zp zn (pv 2) (pv 5) (fun _ _=>rfl)) (za (pv 6) (za (zD d8 (zD zG (pv 6) (zp zn (pv 3) (pv 5) (fun _ _=>rfl))) zd) ze)))) ze)))))) (zm (zA (kN sK (by rfl) T.n_tuple iL (za (pv 4) ze))))))))),(zN (by walk_at "r") (zN (bR (cA (gJ (zk (zF aU zC (pN (i:=0) (zk zg (zk zg zt)))) zt)) zr bH (zF aU zC (pN (i:=0) (zk zg (zk zC zt))))) zr) (by walk_at "r"))),fun xs S R q=>q⟩
theorem LZ:Df P w K mg base "all_sets" ["drawing"] 4 (spN ["drawing"] sD):=by
 exact Df.dN dd.a27 u0 2 rfl fun f z A outer s H E hr=>⟨_,_,(zf (eA (zB CP hr dz (za (pv 0) ze))) (zf (zy (i:=1) u0.nd rfl lo (aT (za (aQ ze) ze))) (zf (eM gc rfl (bG (pv 0)) (zw (i:=2) u0.nd rfl (gj rfl)) (zm (zy (i:=1) u0.nd rfl lo (zB FW hr dz (za (pv 1) (za (Hk rfl rfl T.n_list rfl T.n_range (za (zp zn (pv 2) zd (fun _ _=>rfl)) (za (zD zG (zp zn (pv 2) zd (fun _ _=>rfl)) zd) ze))) ze)))))) (zm (zA (pv 1)))))),(by walk_at "r"),fun xs S R q=>q⟩
theorem Ic:Df P w K mg base "plan_holds" ["drawing","gap","thing"] 5 (spN ["drawing","gap","thing"] uJ):=by
 exact Df.dN dd.a28 Aj 1 rfl fun f z A outer s H E hr=>⟨_,_,(zf (zy (i:=3) Aj.nd rfl lo (zB LZ hr dz (za (pv 0) ze))) (zf (aP (eJ (cY (zB Lg hr dz (za (pv 0) (za (pv 2) ze))) (fun _=>rfl))) (zm (zA cJ)) zQ) (zm (zA (zx (yH rfl) (by rfl) T.n_all yK (za (bX (fun _ _ h=>h) rfl (zI rfl rfl rfl rfl (N:=["one","gap","thing","drawing"]) (caps:=[none,some 1,some 2,some 0]) (by show aY ["drawing","gap","thing","sets"] (zh yW).names _ _ _=true;decide +kernel)) (bG (pv 3)) (fun _ _ _ _=>(zw (i:=0) (by show fz (["one","gap","thing","drawing"]:List Str);decide) rfl (gj rfl))) (fun _ _ _ _=>bJ) (fun _ _ _ _=>(i5 (cE hr.units) (i5 (cE hr.units) (zp zn (zB KN hr dz (za (pv 2) (za (pv 3) (za (pv 0) ze)))) zd (fun _ _=>rfl)) b7 (nomark _)) (zB Kf hr dz (za (pv 1) (za (pv 0) ze))) (nomark _)))) ze)))))),(zN (by walk_at "r") (zN (by walk_at "r") (cB (dP rJ (zk (cA (bS zg) zr bH (zF sB (zF sB (zF aJ (bY (zk zg (zk zg (zk zg zt)))) zC) oO) (bY (zk zg (zk zg zt))))) zt))))),fun xs S R q=>q⟩
theorem E3:∀n,Df P w K mg base "_law_least_of" ["spans","gap","known"] (2+n) (spM ["spans","gap","known"] (zM n))
 | 0=>Df.noneM dd.a29
 |n+1=>by
  have tS:=E3  n;show Df P w K mg base "_law_least_of" ["spans","gap","known"] (2+n+1) (spM ["spans","gap","known"] (zM (n+1)));exact Df.dMt dd.a29 mR 4 rfl fun f z A outer s H E hr=>⟨_,_,(zf (aP (zJ (Hl (g:=(.many (.many .int))) dz rfl hr.units) (pv 0) (pv 2) (by rfl)) (zm (zA (qM (g:=(.many (.many .int))) dz rfl hr.units (pv 2) (pv 0) (fun _ _=>rfl)))) zQ) (zf (nJ (i:=3) (fun _ _ h=>h) rfl (zI rfl rfl rfl rfl (N:=["part","spans"]) (caps:=[none,some 0]) (by show aY ["spans","gap","known","wide","words","deep","part"] (zh j7).names _ _ _=true;decide +kernel)) mR.nd rfl rfl (fM rfl T.n_range (za (zx c7 (by rfl) T.n_len cQ (za (pv 0) ze)) ze)) (fun _ _ _ _=>(zw (i:=0) (by show fz (["part","spans"]:List Str);decide) rfl (gj rfl))) (fun _ _ _ _=>(KW (zJ kX (zp zn (zp zn (pv 1) (pv 0) (fun _ _=>rfl)) zd (fun _ _=>rfl)) (zp zn (zp zn (pv 1) (pv 0) (fun _ _=>rfl)) zd (fun _ _=>rfl)) (nomark _)))) (fun _ _ _ _=>(pv 0))) (zf (aP (zJ (cE hr.units) (pv 3) (aT ze) (nomark _)) (zf (tU (g:=(.many (.many .int))) dz rfl hr.units (pv 2) (pv 0) (aQ (za (kN BK (by rfl) T.n_int uH (za (zB Bv hr yw (za (pv 1) (za (bX (fun _ _ h=>h) rfl (zI rfl rfl rfl rfl (N:=["span"]) (caps:=[none]) (by show aY ["spans","gap","known","wide","words","deep","part"] (zh j7).names _ _ _=true;decide +kernel)) (bG (pv 0)) (fun _ _ _ _=>(zw (i:=0) (by show fz (["span"]:List Str);decide) rfl (gj rfl))) (fun _ _ _ _=>bJ) (fun _ _ _ _=>(zp zn (pv 0) zd (fun _ _=>rfl)))) ze))) ze)) (za zd ze))) rfl) (zm (zA (qM (g:=(.many (.many .int))) dz rfl hr.units (pv 2) (pv 0) (fun _ _=>rfl))))) zQ) (zf (zy (i:=4) mR.nd rfl lo (Ie rfl rfl T.n_sorted rfl T.n_set (za (bX (fun _ _ h=>h) rfl (zI rfl rfl rfl rfl (N:=["one","gap","known"]) (caps:=[none,some 1,some 2]) (by show aY ["spans","gap","known","wide","words","deep","part"] (zh j7).names _ _ _=true;decide +kernel)) (bG (zB DR hr yw (za (pv 0) (za (zp zn (pv 3) zd (fun _ _=>rfl)) ze)))) (fun _ _ _ _=>(zw (i:=0) (by show fz (["one","gap","known"]:List Str);decide) rfl (gj rfl))) (fun _ _ _ _=>bJ) (fun _ _ _ _=>(zp zn (x9 tS hr yw (za (pv 0) (za (pv 1) (za (pv 2) ze)))) zd (fun _ _=>rfl)))) ze))) (zf (aP (PW.pt (wL (zJ (cE hr.units) (zx c7 (by rfl) T.n_len cQ (za (pv 4) ze)) zd (nomark _)) (y0 (zJ kX (zp zn (pv 4) zd (fun _ _=>rfl)) zd (nomark _))))) (zf (tU (g:=(.many (.many .int))) dz rfl hr.units (pv 2) (pv 0) (aQ (za (zp zn (pv 4) zd (fun _ _=>rfl)) (za zd ze))) rfl) (zm (zA (qM (g:=(.many (.many .int))) dz rfl hr.units (pv 2) (pv 0) (fun _ _=>rfl))))) zQ) (zf (zy (i:=5) mR.nd rfl lo (aT ze)) (zf (eM gc rfl (bG (pv 3)) (zw (i:=6) mR.nd rfl (gj rfl)) (zm (eA (e8 PySem.F.plainAttrs_list PySem.F.slot_list_append PySem.F.type_list_append j4 (pv 5) (za (zD zG zd (zx (uN rfl) (by rfl) T.n_max k9 (za (bX (fun _ _ h=>h) rfl (zI rfl rfl rfl rfl (N:=["one","gap","known"]) (caps:=[none,some 1,some 2]) (by show aY ["spans","gap","known","wide","words","deep","part"] (zh j7).names _ _ _=true;decide +kernel)) (bG (zB DR hr yw (za (pv 0) (za (pv 6) ze)))) (fun _ _ _ _=>(zw (i:=0) (by show fz (["one","gap","known"]:List Str);decide) rfl (gj rfl))) (fun _ _ _ _=>bJ) (fun _ _ _ _=>(zp zn (x9 tS hr yw (za (pv 0) (za (pv 1) (za (pv 2) ze)))) zd (fun _ _=>rfl)))) ze))) ze))))) (zf (tU (g:=(.many (.many .int))) dz rfl hr.units (pv 2) (pv 0) (aQ (za zd (za (zx (Co rfl hr.units) (by rfl) T.n_min v3 (za (pv 5) ze)) ze))) rfl) (zm (zA (qM (g:=(.many (.many .int))) dz rfl hr.units (pv 2) (pv 0) (fun _ _=>rfl)))))))))))),(b8 (uE (fun M=>(Av (Ec wI (zH zg) (zH zg)))) (lN (fun M=>(pC (zH zg) (zH zg)))) (dL eK)) (b8 (dL (bR (cA (gJ (zk (dP vU (zk zg zt)) zt)) zr (i4 (zF rX (zF aJ (zF aJ zg zg) zC) (zF aJ (zF aJ zg zg) zC))) zg) zr)) (b8 (uE (fun M=>(AX (by walk_at "r"))) (b8 (vD rfl (fun M=>(zH zg)) (fun M=>(zH (cT (zk (dP EB (zk (bY (zk zg (zk (cA (bS zg) zr bH (zF aJ zg zC)) zt))) zt)) (zk zC zt)))))) (lN (fun M=>(pC (zH zg) (zH zg))))) (dL eK)) (b8 (vK (Cf Ah (vT (sG (fun M=>mP (bS (bY (zk zg (zk (zF aJ zg zC) zt))))) zr bH (AB aJ (D9 (fun M=>(kO (zH zg) (kO (zH zg) (kO (zH zg) (pW zt)))))) (yL (fun M=>zH zC)))) wO)) zr) (b8 (uE (fun M=>(AX (by walk_at "r"))) (b8 (vD rfl (fun M=>(zH zg)) (fun M=>(zH (by walk_at "r")))) (lN (fun M=>(pC (zH zg) (zH zg))))) (dL eK)) (b8 (dL (by walk_at "r")) (b8 (HV (fun M=>mP (bS zg)) zr (Ak (Ja Es (fun M=>zH zg) (vT (AB aU (yL (fun M=>zH zC)) (Cf tL (vT (sG (fun M=>mP (bS (bY (zk zg (zk zg zt))))) zr bH (AB aJ (D9 (fun M=>(kO (zH zg) (kO (zH zg) (kO (zH zg) (pW zt)))))) (yL (fun M=>zH zC)))) wO))) wO)))) (b8 (vD rfl (fun M=>(zH zg)) (fun M=>(zH (by walk_at "r")))) (lN (fun M=>(pC (zH zg) (zH zg)))))))))))),fun xs S M R q=>q⟩
theorem tS:Df P w K mg base "_law_least_of" ["spans","gap","known"] 14 (spM ["spans","gap","known"] Dr):=E3 T dd kk0  12
theorem KL{C cc:Addr}(pk:PlK K mg C cc):Dk P w K mg base "Planner" C ["self","drawing","gap"] 1 (u8 C "drawing" "gap" "known"):=Dk.mk3 pk.i Fz pk.c pk.n_drawing pk.n_gap pk.n_known (by decide +kernel) fun f q A outer s H E hr=>(zf (vS (pv 0) (pv 1) rfl) (zf (vS (pv 0) (pv 2) rfl) (zm (vS (pv 0) BO rfl))))
theorem F2{C cc:Addr}(pk:PlK K mg C cc){j:Nat}(hj:2<=j){z:PNm}(D_least:Dm P w K mg base C "least" ["self","terms","worth"] (j) (spM ["self","terms","worth"] z)):Dm P w K mg base C "measuring" ["self","terms","place","worth"] (j+1) (spM ["self","terms","place","worth"] (tB C z)):=Dm.dM pk.m_measuring zR 6 rfl fun f aa A outer s H E hr=>⟨_,_,(zf (zy (i:=4) zR.nd rfl lo (zp zn (zp zn (pv 1) (pv 2) (fun _ _=>rfl)) zd (fun _ _=>rfl))) (zf (zy (i:=5) zR.nd rfl lo (zB w4 hr yw (za (zp zn (lD (pv 0) rfl) (pv 4) (fun _ _=>rfl)) ze))) (zf (zy (i:=6) zR.nd rfl (rf rfl) (zD zG (gG iJ (pv 1) gW (fF (pv 2))) (gG iJ (pv 1) (fF (zD zG (pv 2) zd)) gW))) (zf (nJ (i:=7) (fun _ _ h=>h) rfl (zI rfl rfl rfl rfl (N:=["number","worth","terms","place"]) (caps:=[none,some 3,some 1,some 2]) (by show aY ["self","terms","place","worth","part","span","others","worths","found","deepest"] (zh s_Planner_measuring).names _ _ _=true;decide +kernel)) zR.nd rfl rfl (IA rfl T.n_range (za (zp zn (pv 5) zd (fun _ _=>rfl)) (za (zD zG (zp zn (pv 5) zd (fun _ _=>rfl)) zd) ze))) (fun _ _ _ _=>(zw (i:=0) (by show fz (["number","worth","terms","place"]:List Str);decide) rfl (gj rfl))) (fun _ _ _ _=>bJ) (fun _ _ _ _=>(zD zG (pv 1) (zD cP (zp zn (zp zn (pv 2) (pv 3) (fun _ _=>rfl)) zd (fun _ _=>rfl)) (pv 0))))) (zf (zy (i:=8) zR.nd rfl (rf rfl) (bX (fun _ _ h=>h) rfl (zI rfl rfl rfl rfl (N:=["each","others","self"]) (caps:=[none,some 6,some 0]) (by show aY ["self","terms","place","worth","part","span","others","worths","found","deepest"] (zh s_Planner_measuring).names _ _ _=true;decide +kernel)) (bG (pv 7)) (fun _ _ _ _=>(zw (i:=0) (by show fz (["each","others","self"]:List Str);decide) rfl (gj rfl))) (fun _ _ _ _=>bJ) (fun _ _ _ _=>(uF pk.c D_least hr yw (pv 2) (za (pv 1) (za (pv 0) ze)))))) (zf (zy (i:=9) zR.nd rfl lo (zx (uN rfl) (by rfl) T.n_max k9 (za (bX (fun _ _ h=>h) rfl (zI rfl rfl rfl rfl (N:=["further"]) (caps:=[none]) (by show aY ["self","terms","place","worth","part","span","others","worths","found","deepest"] (zh s_Planner_measuring).names _ _ _=true;decide +kernel)) (bG (pv 8)) (fun _ _ _ _=>(zw (i:=0) (by show fz (["further"]:List Str);decide) rfl (gj rfl))) (fun _ _ _ _=>bJ) (fun _ _ _ _=>(zp zn (pv 0) zd (fun _ _=>rfl)))) ze))) (zf (aP (cY (zx (yH rfl) (by rfl) T.n_all yK (za (bX (fun _ _ h=>h) rfl (zI rfl rfl rfl rfl (N:=["further","found"]) (caps:=[none,some 8]) (by show aY ["self","terms","place","worth","part","span","others","worths","found","deepest"] (zh s_Planner_measuring).names _ _ _=true;decide +kernel)) (bG (pv 8)) (fun _ _ _ _=>(zw (i:=0) (by show fz (["further","found"]:List Str);decide) rfl (gj rfl))) (fun _ _ _ _=>bJ) (fun _ _ _ _=>(i5 (cE hr.units) (pv 0) (zp zn (pv 1) zd (fun _ _=>rfl)) (nomark _)))) ze)) (fun _=>rfl)) (zm (zA (zp zn (pv 8) zd (fun _ _=>rfl)))) zQ) (zm (zA (aQ (za (zD zG (pv 9) zd) (za (aQ (za b7 (za (pv 4) (za (kN sK (by rfl) T.n_tuple iL (za (bX (fun _ _ h=>h) rfl (zI rfl rfl rfl rfl (N:=["further"]) (caps:=[none]) (by show aY ["self","terms","place","worth","part","span","others","worths","found","deepest"] (zh s_Planner_measuring).names _ _ _=true;decide +kernel)) (bG (pv 8)) (fun _ _ _ _=>(zw (i:=0) (by show fz (["further"]:List Str);decide) rfl (gj rfl))) (fun _ _ _ _=>bJ) (fun _ _ _ _=>(zp zn (pv 0) zd (fun _ _=>rfl)))) ze)) ze)))) ze)))))))))))),(b8 (dL (bR (zF aJ (zF aJ zg zg) zC) zr)) (b8 (dL (bR (bY (zk (zF aJ (yN (lG pk.c pk.n_drawing (zH zg))) zg) zt)) zr)) (b8 (dL (bR (zF aU (jY jP zg i3 (i0 zg)) (jY jP zg (i0 (zF aU zg zC)) i3)) zr)) (b8 (dL (bR (cA (LF (zk (zF aJ zg zC) (zk (zF aU (zF aJ zg zC) zC) zt))) zr bH (zF aU zg (zF g6 (zF aJ (zF aJ zg zg) zC) zg))) zr)) (b8 (vK (sG (fun M=>mP (bS zg)) zr bH (AA (fun M=>zH zg) (fun M=>pW (zk zg (zk zg zt))))) zr) (b8 (dL (bR (dP tL (zk (cA (bS zg) zr bH (zF aJ zg zC)) zt)) zr)) (b8 (dL (fO (jJ (dP rJ (zk (cA (bS zg) zr bH (zF sB zg (zF aJ zg zC))) zt))) (cB (zF aJ zg zC)) eK)) (dL (cB (cT (zk (zF aU zg zC) (zk (cT (zk oO (zk zg (zk (dP wY (zk (cA (bS zg) zr bH (zF aJ zg zC)) zt)) zt)))) zt)))))))))))),fun xs S M R q=>q⟩
theorem FQ{C cc:Addr}(pk:PlK K mg C cc){j:Nat}{z:PNm}(D_measuring:Dm P w K mg base C "measuring" ["self","terms","place","worth"] (j) (spM ["self","terms","place","worth"] z)):Dm P w K mg base C "best" ["self","terms","worth"] (j+3) (spM ["self","terms","worth"] (r8 C z)):=by
 obtain⟨P',ht⟩:=pk.tb;obtain⟨a1,t_KEEPS⟩:=pk.kE;obtain⟨a2,t_BREAKS⟩:=pk.kB;exact Dm.dMC pk.m_best LL 0 rfl fun f A outer s H E hr=>⟨_,_,(zf (aP (eJ (cY (pv 1) (fun _=>rfl))) (zm (zA (aQ (za zd (za (Hd (A8 jN jN (zp zn (lD (pv 0) rfl) zd (fun _ _=>rfl)) (pv 2) (zp zn (lD (pv 0) rfl) zd (fun _ _=>rfl))) (FB t_KEEPS) (FB t_BREAKS)) ze))))) zQ) (zm (zA (Gy (k:=j) (x:="plan") (caps:=[]) (ks:=[]) ht rfl rfl rfl rfl rfl rfl (by show gY ["self","terms","worth"] (zh s_Planner_best).names _ _ _ _=true;decide +kernel) rfl (fun _ _ _ _ _=>rfl) hr rfl T.n_min (bX (fun _ _ h=>h) rfl (zI rfl rfl rfl rfl (N:=["place","terms","worth","self"]) (caps:=[none,some 1,some 2,some 0]) (by show aY ["self","terms","worth"] (zh s_Planner_best).names _ _ _=true;decide +kernel)) (fM rfl T.n_range (za (zx c7 (by rfl) T.n_len cQ (za (pv 1) ze)) ze)) (fun _ _ _ _=>(zw (i:=0) (by show fz (["place","terms","worth","self"]:List Str);decide) rfl (gj rfl))) (fun _ _ _ _=>bJ) (fun _ _ _ _=>(uF pk.c D_measuring hr yw (pv 3) (za (pv 1) (za (pv 0) (za (pv 2) ze)))))) (fun cl f c' s H hr=>(zp zn (pv 0) zd (fun _ _=>rfl))))))),(b8 (dL (fO (rL (jJ zg)) (cB (cT (zk zC (zk (Ii (i4 (Cs rX rX (zF aJ (yN (lG pk.c pk.n_gap (zH zg))) zC) zg (zF aJ (yN (lG pk.c pk.n_gap (zH zg))) zC))) El El) zt)))) eK)) (GR (F9 (sG (fun M=>mP (gJ (zk (dP vU (zk zg zt)) zt))) zr bH (AA (fun M=>zH zg) (fun M=>pW (zk zg (zk zg (zk zg zt)))))) (zF aJ zg zC)))),fun xs S M R q=>q⟩
theorem Bj{C cc:Addr}(pk:PlK K mg C cc):∀n,Dm P w K mg base C "least" ["self","terms","worth"] (2+5*n) (spM ["self","terms","worth"] (mW C n))
 | 0=>Dm.noneM pk.m_least
 |n+1=>by
  have D_least:=Bj (pk:=pk) n;have D_measuring:=F2 (pk:=pk) (hj:=yw) (D_least:=D_least);have D_best:=FQ (pk:=pk) (D_measuring:=D_measuring);exact Dm.dM (k:=2+5*n+4) pk.m_least Hh 0 rfl fun f z A outer s H E hr=>⟨_,_,(zf (aP (zJ (F3 (g:=(.two (.many (.many .int)) .int)) dz rfl hr.units) (aQ (za (pv 1) (za (pv 2) ze))) (lD (pv 0) rfl) (by rfl)) (zm (tU (g:=(.two (.many (.many .int)) .int)) dz rfl hr.units (lD (pv 0) rfl) (aQ (za (pv 1) (za (pv 2) ze))) (uF pk.c D_best hr yw (pv 0) (za (pv 1) (za (pv 2) ze))) rfl)) zQ) (zm (zA (qM (g:=(.two (.many (.many .int)) .int)) dz rfl hr.units (lD (pv 0) rfl) (aQ (za (pv 1) (za (pv 2) ze))) (fun _ _=>rfl))))),(b8 (uE (fun M=>(Av (Ec wI (zH (cT (zk zg (zk zg zt)))) (lG pk.c pk.n_known (zH zg))))) (Lc rfl (fun M=>(lG pk.c pk.n_known (zH zg))) (fun M=>(zH (cT (zk zg (zk zg zt))))) (AA (fun M=>zH zg) (fun M=>pW (zk zg (zk zg zt))))) (dL eK)) (lN (fun M=>(pC (lG pk.c pk.n_known (zH zg)) (zH (cT (zk zg (zk zg zt)))))))),fun xs S M R q=>q⟩
theorem Bo:Df P w K mg base "plan_of" ["drawing","gap"] 48 (spN ["drawing","gap"] qJ):=by
 have z:=kk0;obtain⟨C,cc,pk⟩:=z;have D_init:=KL (P:=P) (w:=w) (base:=base) (pk:=pk);have D_l0:=Bj (P:=P) (w:=w) (base:=base) (pk:=pk);have D_least:=D_l0 9;exact Df.dN dd.a30 IL 0 rfl fun f aa A outer s H E hr=>⟨_,_,(zf (eA (zB CP hr dz (za (pv 0) ze))) (zm (zA (zp zn (uF pk.c D_least hr dz (Ik D_init hr dz (za (pv 0) (za (pv 1) ze))) (za (zp zn (pv 1) zd (fun _ _=>rfl)) (za zd ze))) zd (fun _ _=>rfl))))),(zN (by walk_at "r") (cB (zF aJ (C7 zg zg (by walk_at "r") (by decide +kernel)) zC))),fun xs S R q=>q C⟩
theorem Bi:∀n,Df P w K mg base "_law_deep_of" ["plan"] (1+n) (spN ["plan"] (k7 n))
 | 0=>Df.none dd.a31
 |n+1=>by
  have xA:=Bi  n;show Df P w K mg base "_law_deep_of" ["plan"] (1+n+1) (spN ["plan"] (k7 (n+1)));exact Df.dN dd.a31 HR 0 rfl fun f z A outer s H E hr=>⟨_,_,(zf (aP (zJ (cE hr.units) (zx c7 (by rfl) T.n_len cQ (za (pv 0) ze)) zd (nomark _)) (zm (zA zd)) zQ) (zm (zA (zD zG zd (zx (uN rfl) (by rfl) T.n_max k9 (za (bX (fun _ _ h=>h) rfl (zI (L:=0) rfl rfl rfl rfl (N:=["one"]) (caps:=[none]) (by show aY ["plan"] (zh yS).names _ _ _=true;decide +kernel)) (bG (zp zn (pv 0) zd (fun _ _=>rfl))) (fun _ _ _ _=>(zw (i:=0) (by show fz (["one"]:List Str);decide) rfl (gj rfl))) (fun _ _ _ _=>bJ) (fun _ _ _ _=>(zB xA hr yw (za (pv 0) ze)))) ze)))))),(zN (by walk_at "r") (cB (zF aU zC (dP tL (zk (cA (bS (zF aJ zg zC)) zr bH (bY (zk zg zt))) zt))))),fun xs S R q=>q⟩
theorem xA:Df P w K mg base "_law_deep_of" ["plan"] 161 (spN ["plan"] E4):=Bi T dd kk0  160
theorem FH:∀n,Df P w K mg base "_law_is_plan" ["drawing","measured","thing"] (2+n) (spN ["drawing","measured","thing"] (k6 n))
 | 0=>Df.none dd.a32
 |n+1=>by
  have AM:=FH  n;show Df P w K mg base "_law_is_plan" ["drawing","measured","thing"] (2+n+1) (spN ["drawing","measured","thing"] (k6 (n+1)));exact Df.dN dd.a32 tW 3 rfl fun f z A outer s H E hr=>⟨_,_,(zf (aP (PW.pt (eZ (eJ (cY (zx fX (by rfl) T.n_isinstance fY (za (pv 2) (za (fW rfl T.n_tuple iL (v:=.ty "tuple") rfl) ze))) (fun _=>rfl))) (eZ (zJ (rV hr.units) (zx c7 (by rfl) T.n_len cQ (za (pv 2) ze)) (aQ (za zd (za zd ze))) (by rfl)) (jR (eJ (cY (zx fX (by rfl) T.n_isinstance fY (za (zp zn (pv 2) zd (fun _ _=>rfl)) (za (fW rfl T.n_str KF (v:=.ty "str") rfl) ze))) (fun _=>rfl))))))) (zm (zA cJ)) zQ) (zf (aP (zJ (cE hr.units) (zx c7 (by rfl) T.n_len cQ (za (pv 2) ze)) zd (nomark _)) (zm (zA (i5 (Dp hr.units) (zp zn (pv 2) zd (fun _ _=>rfl)) (aQ (za b7 (za b7 ze))) (by rfl)))) zQ) (zf (aP (PW.pt (eZ (zJ (iI hr.units) (zp zn (pv 2) zd (fun _ _=>rfl)) b7 (nomark _)) (eZ (eJ (cY (zB Ab hr yw (za (zp zn (pv 2) zd (fun _ _=>rfl)) ze)) (fun _=>rfl))) (jR (F8 true rfl T.n_range (zp zn (pv 2) zd (fun _ _=>rfl)) (za (zx c7 (by rfl) T.n_len cQ (za (pv 0) ze)) ze)))))) (zm (zA cJ)) zQ) (zf (aP (PW.pt (eZ (zJ (Dp hr.units) (zp zn (pv 2) zd (fun _ _=>rfl)) (pv 1) (by rfl)) (jR (eJ (cY (zx fX (by rfl) T.n_isinstance fY (za (zp zn (pv 2) zd (fun _ _=>rfl)) (za (fW rfl T.n_tuple iL (v:=.ty "tuple") rfl) ze))) (fun _=>rfl)))))) (zm (zA cJ)) zQ) (zf (nA (zp zn (pv 0) (zp zn (pv 2) zd (fun _ _=>rfl)) (fun _ _=>rfl)) (jT (n:=3) rfl (cU (zw (i:=3) tW.nd rfl (gj rfl)) (cU (zw (i:=4) tW.nd rfl (gj rfl)) (cU (zw (i:=5) tW.nd rfl (gj rfl)) jD))))) (zf (aP (zJ (iI hr.units) (zx c7 (by rfl) T.n_len cQ (za (zp zn (pv 2) zd (fun _ _=>rfl)) ze)) (zD zG (zD d8 (pv 5) (pv 4)) zd) (nomark _)) (zm (zA cJ)) zQ) (zm (zA (zx (yH rfl) (by rfl) T.n_all yK (za (bX (fun _ _ h=>h) rfl (zI rfl rfl rfl rfl (N:=["one","drawing","measured","thing"]) (caps:=[none,some 0,some 1,some 2]) (by show aY ["drawing","measured","thing","name","low","high"] (zh y9).names _ _ _=true;decide +kernel)) (bG (zp zn (pv 2) zd (fun _ _=>rfl))) (fun _ _ _ _=>(zw (i:=0) (by show fz (["one","drawing","measured","thing"]:List Str);decide) rfl (gj rfl))) (fun _ _ _ _=>bJ) (fun _ _ _ _=>(zB AM hr yw (za (pv 1) (za (zD zG (pv 2) (aT (za (zp zn (pv 3) zd (fun _ _=>rfl)) ze))) (za (pv 0) ze)))))) ze)))))))))),(zN (by walk_at "r") (zN (by walk_at "r") (zN (by walk_at "r") (zN (by walk_at "r") (zN (by walk_at "r") (zN (by walk_at "r") (cB (dP rJ (zk (cA (bS (zF aJ zg zC)) zr bH (bY (zk zg (zk (zF aU zg (Do (zk (zF aJ zg zC) zt))) (zk zg zt))))) zt))))))))),fun xs S R q=>q⟩
theorem AM:Df P w K mg base "_law_is_plan" ["drawing","measured","thing"] 162 (spN ["drawing","measured","thing"] BC):=FH T dd kk0  160
theorem GM:Df P w K mg base "_law_plan_right" ["drawing","gap","thing"] 163 (spN ["drawing","gap","thing"] tE):=by
 exact Df.dN dd.a33 A2 1 rfl fun f z A outer s H E hr=>⟨_,_,(zf (aP (eJ (cY (zB AM hr dz (za (pv 0) (za (aT ze) (za (pv 2) ze)))) (fun _=>rfl))) (zm (zA cJ)) zQ) (zf (eM gc rfl (bG (zB Hs hr dz (za (pv 0) ze))) (zw (i:=3) A2.nd rfl (gj rfl)) (zm (aP (zJ (iI hr.units) (i5 (cE hr.units) (zp zn (zB Lx hr dz (za (pv 2) (za (pv 0) (za (pv 3) ze)))) zd (fun _ _=>rfl)) b7 (nomark _)) (zB Bv hr dz (za (pv 1) (za (pv 3) ze))) (nomark _)) (zm (zA cJ)) zQ))) (zm (zA cJ)))),(by walk_at "r"),fun xs S R q=>q⟩
theorem ok_law{f:Addr}{fd:ou}(F:Fun K "law" "law" s_law f fd):FnOk P w K mg base CX0 164 f fd ["script"] (sp1 (wT K)):=by
 refine F.ok1 jM (fun v=>[some v,none,none,none,none,none,none]) (fun _=>rfl) fun aa A outer s H v Q E hr h=>?_;obtain⟨a,ns,rfl,hS,z,q⟩:=h;refine⟨_,(zf (eM gc rfl (K1 (zD yE (aT (za (J0 GB hr dz (pv 0) zd) ze)) (gG Bl (pv 0) (fF zd) (fF zd)))) (zw (i:=1) jM.nd rfl (gj rfl)) (zf (zy (i:=2) jM.nd rfl lo (zB Jc hr dz (za (pv 1) ze))) (zf (zy (i:=3) jM.nd rfl lo (zB LA hr dz (za (pv 2) (za zd ze)))) (zf (zy (i:=4) jM.nd rfl lo (zB IW hr dz (za (pv 2) (za (pv 3) ze)))) (zf (zy (i:=5) jM.nd rfl lo (zp zn (x9 tS hr dz (za (kN sK (by rfl) T.n_tuple iL (za (bX (fun _ _ h=>h) rfl (zI (L:=0) rfl rfl rfl rfl (N:=["part"]) (caps:=[none]) (by show aY ["script","cell","pen","drawing","gap","due","found"] (zh s_law).names _ _ _=true;decide +kernel)) (bG (pv 3)) (fun _ _ _ _=>(zw (i:=0) (by show fz (["part"]:List Str);decide) rfl (gj rfl))) (fun _ _ _ _=>bJ) (fun _ _ _ _=>(gG (JH (K:=K) rfl) (pv 0) (fF zd) gW))) ze)) (za (pv 4) (za BO ze)))) zd (fun _ _=>rfl))) (zf (zy (i:=6) jM.nd rfl lo (zB Bo hr dz (za (pv 3) (za (pv 4) ze)))) (zf (aP (PW.pt (eZ (eJ (cY (zB GM hr dz (za (pv 3) (za (pv 4) (za (pv 6) ze)))) (fun _=>rfl))) (jR (zJ JV (zB Ic hr dz (za (pv 3) (za (pv 4) (za (pv 6) ze)))) cJ (nomark _))))) (zm (zA cJ)) zQ) (zf (aP (PW.pt (eZ (zJ (iI hr.units) (zB xA hr dz (za (pv 6) ze)) (pv 5) (nomark _)) (eZ (eJ (cY (zB Ab hr dz (za (zB D4 hr dz (za (pv 6) ze)) ze)) (fun _=>rfl))) (jR (zJ (iI hr.units) (zB D4 hr dz (za (pv 6) ze)) (pv 5) (nomark _)))))) (zm (zA cJ)) zQ) (zm (aP (zJ (iI hr.units) (zB Bo hr dz (za (pv 3) (za (pv 4) ze))) (pv 6) (nomark _)) (zm (zA cJ)) zQ)))))))))) (zm (zA cJ))),?_⟩;exact J5 (m:=6) (db:=yY) (zN (bR (bY (zk zg zt)) zr) (zN (bR (pN (i:=0) (zk zg (zk zC zt))) zr) (zN (bR (pN (i:=0) (zk zg (zk zg zt))) zr) (zN (bR (zF aJ (B1 (dP wY (zk (cA (bS zg) zr bH (jY jP zg (i0 zC) i3)) zt)) zg) zC) zr) (zN (bR (bY (zk zg (zk zg zt))) zr) (zN (fO (uL (rL (jJ (bY (zk zg (zk zg (zk zg zt)))))) (i4 (zF Bp (bY (zk zg (zk zg (zk zg zt)))) kU))) (cB kU) eK) (zN (fO (uL (i4 (zF tI (bY (zk zg zt)) zg)) (uL (rL (jJ (bY (zk (bY (zk zg zt)) zt)))) (i4 (zF tI (bY (zk zg zt)) zg)))) (cB kU) eK) (fO (i4 (zF tI (bY (zk zg (zk zg zt))) zg)) (cB kU) eK)))))))) rfl rfl hS z (fun n=>FT a n) dz fun _ H2 _=>q H2
end
end My
theorem oJ:L2.tabsG=[((175,173),L2.lamKey (("Planner.best" ++ ".<locals>.") ++ "<lambda>") ⟨110,93,0,0⟩)]:=rfl
theorem sQ:L2.keepG=([((106,⟨.type "tuple",none,.seq #[.str "keeps" 313] 0,#[]⟩),"keeps"),((107,⟨.type "tuple",none,.seq #[.str "breaks" 315] 0,#[]⟩),"breaks")]:List ((PySem.Addr×PySem.Obj)×PySem.Str)):=rfl
namespace PySem.W.Fast
def tw12783816607865930858:Unit:=()
def tw17903326410743277171:Unit:=()
def tw5618883140282626492:Unit:=()
def tw5865902433926616598:Unit:=()
def tw17615197026609710222:Unit:=()
def tw10641977865404095526:Unit:=()
def tw4007167284016731944:Unit:=()
def tw6405536930377422537:Unit:=()
def tw10838311401609200804:Unit:=()
def tw14950473803011011574:Unit:=()
def tw17361258447558791550:Unit:=()
def tw863791204893728110:Unit:=()
def tw15964750781699393904:Unit:=()
def tw18417035068906432135:Unit:=()
def tw3775939456644664574:Unit:=()
def tw3055446482859748486:Unit:=()
def tw3858897150576256801:Unit:=()
def tw6439794787081506751:Unit:=()
def tw10982415741136796710:Unit:=()
def tw16420821334146182168:Unit:=()
def tw15896259276081974666:Unit:=()
def tw2853869833899248239:Unit:=()
def tw7373935223778565840:Unit:=()
def tw8376660056627893623:Unit:=()
def tw8208777395042416182:Unit:=()
def tw532051821437176463:Unit:=()
def tw2156160205352813303:Unit:=()
def tw883402552563896811:Unit:=()
def tw10372085698846466173:Unit:=()
def tw1285746727209860618:Unit:=()
def tw7065522325966679768:Unit:=()
def tw2150732386212120400:Unit:=()
def tw8976525873046422053:Unit:=()
def tw2173082632020805774:Unit:=()
def tw251190009753503200:Unit:=()
def tw7392026373799445667:Unit:=()
def tw18031214696565711368:Unit:=()
def tw914732814356842653:Unit:=()
def tw8194648714431973160:Unit:=()
def tw18421805199264687812:Unit:=()
def tw11913292209934886654:Unit:=()
def tw9561260362519360751:Unit:=()
def tw8269121061000254625:Unit:=()
def tw2121529542975782366:Unit:=()
def tw12246704903990551238:Unit:=()
def tw7415405560114981987:Unit:=()
def tw6448056907801811462:Unit:=()
def tw18244412493472967169:Unit:=()
def tw17991044262522119759:Unit:=()
def tw13856026940614968396:Unit:=()
def tw95533989091765373:Unit:=()
def tw7794315712298252513:Unit:=()
def tw1878723981232293678:Unit:=()
def tw12147094011201200112:Unit:=()
def tw14381786038760259528:Unit:=()
def tw5713673158403233785:Unit:=()
def tw13339007378505186719:Unit:=()
def tw15756117524140769142:Unit:=()
def tw2708431274570620099:Unit:=()
def tw8541792135921730869:Unit:=()
def tw7344512317751367151:Unit:=()
def tw16083219270471996023:Unit:=()
def tw3411194095948394880:Unit:=()
def tw16803372508534196241:Unit:=()
def tw2248816922052783178:Unit:=()
def tw14033087732574042612:Unit:=()
def tw13718347517281248070:Unit:=()
def tw9217197431286603455:Unit:=()
def tw14895150598967106485:Unit:=()
def tw14664548458321737218:Unit:=()
def tw13619306022123064266:Unit:=()
def tw3283016695633674186:Unit:=()
def tw14942716310634561991:Unit:=()
def tw11330474831074896458:Unit:=()
def tw4235062984478777544:Unit:=()
def tw12489573935473001287:Unit:=()
def tw11068803124623325118:Unit:=()
def tw4611736566145486499:Unit:=()
def tw11568866881811535021:Unit:=()
def tw2777036957648291509:Unit:=()
def tw16453654781860115955:Unit:=()
def tw12287408257650897460:Unit:=()
def tw14330537269435964117:Unit:=()
def tw3594696243740238993:Unit:=()
def tw10828517194094708391:Unit:=()
def tw4948741433565408799:Unit:=()
def tw13297313141564242939:Unit:=()
def tw6810463773740574983:Unit:=()
def tw1918665047441017881:Unit:=()
def tw16186480167206029927:Unit:=()
def tw10457263505659789205:Unit:=()
def tw17122588597249156195:Unit:=()
def tw4247844110782009024:Unit:=()
def tw1550144832754148885:Unit:=()
def tw11513645037185153659:Unit:=()
def tw13336169868095861255:Unit:=()
def tw5206582904946659525:Unit:=()
def tw1488252941623727965:Unit:=()
def tw1323892239668230215:Unit:=()
def tw5595792034462005997:Unit:=()
def tw6649350705006806622:Unit:=()
def tw12486241235595076731:Unit:=()
def tw4257667315609947893:Unit:=()
def tw14657283666174257612:Unit:=()
def tw12314243067358207776:Unit:=()
def tw6916762596192329375:Unit:=()
def tw7203896104411277541:Unit:=()
def tw14030337711138489221:Unit:=()
def tw9073436730843485836:Unit:=()
def tw12939848613683318208:Unit:=()
def tw12424237158233100998:Unit:=()
def tw3328661679944343265:Unit:=()
def tw15045399415859168814:Unit:=()
end PySem.W.Fast
open PySem PySem.W PyProof.Rows L2
set_option maxRecDepth 100000 in
set_option maxHeartbeats 0 in
theorem PySem.Challenge.cw_gaugewright_k57_plans_holds : PySem.Challenge.rw_gaugewright_k57_plans.Holds := by
 w_on;o_law;k_head;(case hw=>w_witness2)
 k_fill
 refine L2.walk_law (l := PySem.Challenge.rw_gaugewright_k57_plans) (k := 164) rfl rfl ⟨rfl, by decide, by decide⟩ (fun w h Y => W.km_in_of Y) ?TT ?F
 case TT=>
  intro w h Y;have KX:=W.km_in_of Y;have t8:=W.km_tabs_of Y;refine⟨?nd,?hd,?em,?of,?kn,?kk⟩
  case kn=>rw[sQ];show ([106,107]:List Nat).Nodup;decide
  case kk=>rw[sQ];exact forall_mem_cons.mpr ⟨⟨by kernel_rfl,rfl,rfl,_,_,rfl⟩,forall_mem_cons.mpr ⟨⟨by kernel_rfl,rfl,rfl,_,_,rfl⟩,fun _ h=>nomatch h⟩⟩
  case nd=>rw[oJ];exact nodup_cons.mpr ⟨yv,pf⟩
  case hd=>rw[oJ];exact forall_mem_cons.mpr ⟨W.codeHd_of_K (c:=175) (P:=173) KX (by kernel_rfl),fun _ h=>nomatch h⟩
  case em=>rw[oJ];exact forall_mem_cons.mpr ⟨t8 173 (by k_mem),fun _ h=>nomatch h⟩
  case of=>rw[oJ];exact forall_mem_cons.mpr ⟨(by kernel_rfl),fun _ h=>nomatch h⟩
 case F=>
  intro w mg fa h KX G hmg;have d_law:Dd (L2.KOf KX) mg "law" My.s_law ["script"]:=by
   dsimp only[L2.KOf];refine' Dd.mk' KX G ?a ?l ?c ?k ?b
   (case a=>k_is);(case l=>k_is);(case c=>k_is);(case k=>k_is);(case b=>intro _ _ _ _ _ _ us hl;obtain⟨_,rfl⟩:=L2.len1 hl;rfl)
  have g14:∃t,mg "MOST_SETS" = some (.int 300 t):=by
   apply Exists.intro;apply W.mg_of KX G
   k_is
  have T:My.Txt mg:=by
   refine' ⟨jb KX G ?z0,jb KX G ?z1,jb KX G ?z2,jb KX G ?z3,jb KX G ?z4,jb KX G ?z5,jb KX G ?z6,jb KX G ?z7,jb KX G ?z8,jb KX G ?z9,jb KX G ?z10,jb KX G ?z11,jb KX G ?z12,jb KX G ?z13,g14⟩
   (case z0=>k_is);(case z1=>k_is);(case z2=>k_is);(case z3=>k_is);(case z4=>k_is);(case z5=>k_is);(case z6=>k_is);(case z7=>k_is);(case z8=>k_is);(case z9=>k_is);(case z10=>k_is);(case z11=>k_is);(case z12=>k_is);(case z13=>k_is)
  have kc:L2.Cls (L2.KOf KX) 184:=by
   refine' ⟨?a,?b,?c,?d⟩
   (case a=>dsimp only[L2.KOf];k_is);(case b=>dsimp only[L2.KOf];k_is);(case c=>dsimp only[L2.KOf];k_is);(case d=>dsimp only[L2.KOf];k_is)
  have na_drawing:L2.NoAttr (L2.KOf KX) 184 "drawing":=by
   unfold L2.NoAttr;dsimp only[L2.KOf];k_is
  have na_gap:L2.NoAttr (L2.KOf KX) 184 "gap":=by
   unfold L2.NoAttr;dsimp only[L2.KOf];k_is
  have na_known:L2.NoAttr (L2.KOf KX) 184 "known":=by
   unfold L2.NoAttr;dsimp only[L2.KOf];k_is
  have ki:L2.Dki (L2.KOf KX) mg "Planner" 184 "Planner.__init__" My.s_Planner_init ["self","drawing","gap"]:=by
   dsimp only[L2.KOf];refine' L2.Dki.mk' KX G ?a ?mk ?i ?l ?c ?k ?fn ?kc ?hb
   (case a=>k_is);(case mk=>k_is);(case i=>k_is);(case l=>k_is);(case c=>k_is);(case k=>k_is);(case fn=>k_is);(case kc=>k_is);(case hb=>intro _ _ _ _ _ _ us hl;obtain⟨_,_,_,rfl⟩:=L2.len3 hl;rfl)
  have km_least:L2.Dt (L2.KOf KX) 184 "least" "Planner.least" My.s_Planner_least ["self","terms","worth"]:=by
   dsimp only[L2.KOf];refine' L2.Dt.mk' ?a ?l ?c ?k ?i ?hb
   (case a=>k_is);(case l=>k_is);(case c=>k_is);(case k=>k_is);(case i=>k_is);(case hb=>intro _ _ _ _ _ _ us hl;obtain⟨_,_,_,rfl⟩:=L2.len3 hl;rfl)
  have km_measuring:L2.Dt (L2.KOf KX) 184 "measuring" "Planner.measuring" My.s_Planner_measuring ["self","terms","place","worth"]:=by
   dsimp only[L2.KOf];refine' L2.Dt.mk' ?a ?l ?c ?k ?i ?hb
   (case a=>k_is);(case l=>k_is);(case c=>k_is);(case k=>k_is);(case i=>k_is);(case hb=>intro _ _ _ _ _ _ us hl;obtain⟨_,_,_,_,rfl⟩:=L2.len4 hl;rfl)
  have km_best:L2.DtC (L2.KOf KX) 184 "best" "Planner.best" My.s_Planner_best ["self","terms","worth"] 175:=by
   dsimp only[L2.KOf];refine' L2.DtC.mk' ?a ?l ?c ?k ?i ?hb
   (case a=>k_is);(case l=>k_is);(case c=>k_is);(case k=>k_is);(case i=>k_is);(case hb=>intro _ _ _ _ _ _ us hl;obtain⟨_,_,_,rfl⟩:=L2.len3 hl;rfl)
  have kt_KEEPS:L2.TupK mg "KEEPS" "keeps" 106:=by
   refine' ⟨W.mg_of KX G ?a,⟨.type "tuple",none,.seq #[.str "keeps" 313] 0,#[]⟩,?b⟩
   (case a=>k_is);(case b=>rw[sQ];exact br)
  have kt_BREAKS:L2.TupK mg "BREAKS" "breaks" 107:=by
   refine' ⟨W.mg_of KX G ?a,⟨.type "tuple",none,.seq #[.str "breaks" 315] 0,#[]⟩,?b⟩
   (case a=>k_is);(case b=>rw[sQ];exact bp _ br)
  have kk0:∃C cc,My.PlK (L2.KOf KX) mg C cc:=⟨184,175,kc,na_drawing,na_gap,na_known,ki,km_least,km_measuring,km_best,⟨173,by rw[oJ];exact br⟩,⟨_,kt_KEEPS⟩,⟨_,kt_BREAKS⟩⟩;have dd:My.Dds (L2.KOf KX) mg:=by constructor<;>first|(dsimp only[L2.KOf];refine' Dd.mk' KX G ?a ?l ?c ?k ?b;(case a=>k_is);(case l=>k_is);(case c=>k_is);(case k=>k_is);(case b=>(intro _ _ _ _ _ _ us hl;first|(obtain⟨_,rfl⟩:=L2.len1 hl;rfl)|(obtain⟨_,_,rfl⟩:=L2.len2 hl;rfl)|(obtain⟨_,_,_,rfl⟩:=L2.len3 hl;rfl))))|(dsimp only[L2.KOf];refine' L2.TupG.mk' KX G ?a ?l;(case a=>k_is);(case l=>k_is))
  obtain⟨f,fd,F,hm,_⟩:=d_law.ex;have e0:=hmg.symm.trans hm;cases e0;exact⟨fd,F.bind1 fun _ _ _ _ _ _ _=>rfl,fun base _ _=>My.ok_law T dd kk0 F⟩
#print axioms PySem.Challenge.cw_gaugewright_k57_plans_holds
end