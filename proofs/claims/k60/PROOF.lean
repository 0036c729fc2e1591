import PyProof.Rows.All
import Wide.All
import OpenK.AllK
import Wide.FinOn
import Lean
import PyProof.EqAt
import PyProof.EqKinds
import PyProof.TupleCall
import KE.KTupSum
import KE.KSortTup
import PyProof.SetKind
import PyProof.SetRoads
import PyProof.SetNew
import PyProof.DictKinds
import PyProof.NsDelKeeps
import PyProof.StrWalks
import KE.KEqDict
import KE.KDictList
import PyProof.AttrMissSeq
import PyProof.WalksMore
import KE.KDictOf
import PyProof.Rows.Range3
import KE.KItemsList
import PyProof.FactsAll.dict_3
import KE.KMinKey
import PyProof.Rows.CallKwBuiltin
import PyProof.TupleOfSeq
import KE.KLam
import KE.KNestM
import PyProof.Rows.StrNews
import KE.KIntText
import PyProof.TupleKey
import PyProof.DictFindH
import PyProof.DictRoadsH
import PyProof.DictItems
import PyProof.Rows.TupTab
import Wide.Seal
import PyProof.DictValues
import PyProof.Rows.SortRev
import PySem.Challenge.RW_gaugewright_k60_whole_what_decides
open Array renaming length_toList→fu,getElem?_eq_getElem→jl,getElem?_toList→qb
open Bool renaming and_eq_true→gc,false_ne_true→gj,false_eq_true→jm,true_and→ql,and_true→um
open False renaming elim→ou
open ForInStep renaming yield→si
open Int renaming toNat_natCast→gn,eq_ofNat_of_zero_le→jh,emod_lt_of_pos→pw,emod_nonneg→qd,zero_add→uh
open List renaming replicate→bh,getElem?_eq_getElem→bn,mem_cons_of_mem→bq,getElem?_concat_length→bw,length_map→cg,mem_of_getElem?→ci,length_append→ck,mem_cons_self→cp,mem_append_left→cu,mem_append_right→cw,length_cons→cx,eq_nil_of_length_eq_zero→df,getD_eq_getElem?_getD→fc,range→fh,getElem?_append_left→fi,size_toArray→fk,map_cons→fm,length_singleton→fq,getElem?_map→gh,Nodup→gl,not_mem_nil→gt,map_append→gw,append_assoc→gy,mem_cons→ja,append_nil→jg,map_map→jj,map_singleton→jy,length_take→ku,getElem?_append_right→kz,lookup_cons→lu,drop_eq_getElem_cons→mf,take_length→mr,getElem_mem→nr,all_eq_true→ox,take_append_drop→oy,getElem?_set_self→qe,mem_of_find?_eq_some→qg,mem_singleton→qi,filterMap_cons→qr,replicate_succ→qu,mem_append→rc,getElem?_cons_zero→re,getElem?_cons_succ→rf,sum_singleton→rh,getElem?_set_ne→rk,zip_cons_cons→sn,lookup→sw,length_nil→tp,map_congr_left→uc,sum_append→ud,mem_of_mem_take→uq,foldl_cons→ut,nodup_nil→ux,map_nil→vb
open List.Perm renaming refl→vf
open List.cons renaming injEq→qc
open MonadExcept renaming tryCatch→vd
open Nat renaming le_refl→dh,lt_of_lt_of_le→fw,ne_of_lt→ge,le_trans→gm,le_of_lt→jn,zero_le→lh,lt_irrefl→nj,lt_succ_of_lt→uk,ne_of_gt→uz
open Ne renaming symm→gq
open Option.some renaming inj→ic
open Or renaming inl→ig,inr→qw
open PyProof.Rows renaming callWith_type1→je,b2i→km,seqObj→qk,IntsAre→uo,envOfC→ur
open PySem renaming wpAny_bind→ba,Value→bb,PyData→bc,Shared→bd,wpAny_pure→be,wpAny→bo,Program→cz,sizeLine→dn,starEach→dq,Around→ft,World→fy,wpAny_newObj_type→gb,wpAny_setField_rec→gf,wpAny_callSpecial?_slot→gx,wpAny_call_entry→ia,wpAny_holding→iq,compareOp→ir,wpAny_seqItems→iy,codeAny_builtin→jb,bootBuiltins→jc,wpAny_field→jf,wpAny_truthy_bool→ji,plainId_quiet→jp,mainGlobals→jq,sysModules→jt,rawInt→kh,wpAny_isInstance→kl,cLine→kq,SetTable→kr,wpAny_updateSeq→li,wpAny_Call_Name_kw→lq,wpAny_tryCatch→ni,sizeLine_eq→nq,wpAny_letGo→nu,pyNext→nv,Builtin→ny,codeAny→ol,binaryOp→on,wpAny_pyIter_list→oo,backTo→ow,NameKind→pb,wpAny_rule→pf,wpAny_passesOwn→px,wpAny_setState_of→qh,wpAny_attempt→qj,argBest→qm,wpAny_setEntries_of→qp,wpAny_mono→qz,codeAny_mono→ra,IsPair→rg,FuncData→rq,intItems→sf,attributeBase→sj,bindArgs→tm,firstArgMember→tq,wpAny_fieldsOf→tw,IsItemIter→tz,atKey→ua,DictEntry→uf,seqItems?→ug,Arguments→uv,sliceBounds→uw,updateSeq→uy
open PySem.Around renaming under_plainId→gu
open PySem.Builtin.List renaming listExtendWith→jw
open PySem.Builtin.Range renaming rangeSize→mn
open PySem.Builtin.SmallTypes renaming nextOf→gz
open PySem.Builtin.Str renaming occurrences→ls
open PySem.Builtin.Tuple renaming tupleHashOf→kt
open PySem.Calls renaming spliced_cons→oz,spliced_nil→su
open PySem.F renaming plain_min_loop→iu,plain_extend_loop→qo,entry_min_loop→qx
open PySem.Heap renaming get?_push_of_some→bf,get?_push_size→bv,SameBut→fg,lt_size→fj,get?_update_other→jd,get?_update_self→kj,size_push→qa
open PySem.Heap.SameBut renaming update→ie
open PySem.Obj renaming mapSeq→ix
open PySem.PassesOwn renaming never→gi
open PySem.PyData renaming int→bp,eqv→dm,eqvAll→jk,canLayAll0→jv,depthAll→ke,canLay0→lg,tuple→ng,str→ph,bool→vm
open PySem.SeqAt renaming shaped→cv,canLay_of_shaped→fx
open PySem.SetTable renaming below→pp,grown→ub
open PySem.Shared renaming TypeIs→vk
open PySem.Str renaming ofString→ju
open PySem.Value renaming ref→dw,none→jr,bool→jx,type→oh,isInt_shape→ss,int→vh,str→vi
open PySem.W renaming Frag→cq,mg_none_of→ko,emptyDict→qy,findIn→rn,kia_one→sk,cellsFrom_some→ue,keepIn→uj,fnOf→va,instObj→vj
open ToString renaming toString→vc
open True renaming intro→sy
def cr:=@if_neg
def cy:=@if_pos
def ff:=@decide_eq_false
def fz:=@decide_eq_true
def mw:=@of_decide_eq_true
theorem yw{p:Prop}(h:p:=by omega):p:=h
theorem yv{p:Prop}(h:p:=by simp):p:=h
open Option (isSome_iff_exists isSome_map map_eq_some_iff map_some)
open Nat (add_mul le_of_eq le_of_lt le_refl le_succ le_trans lt_irrefl lt_of_lt_of_le lt_or_ge lt_succ_of_lt lt_succ_self lt_trans mul_comm mul_le_mul ne_of_gt ne_of_lt not_lt_zero succ_mul zero_add zero_le)
open List (all_cons all_eq_true all_map any_eq_false any_eq_true append_assoc append_nil cons_append drop_eq_getElem_cons drop_length eq_nil_of_length_eq_zero ext_getElem filterMap_cons find?_some flatten_cons foldl_cons forIn_cons forall_mem_cons getD_eq_getElem?_getD getElem?_append_left getElem?_append_right getElem?_concat_length getElem?_cons_succ getElem?_cons_zero getElem?_eq_getElem getElem?_eq_none getElem?_map getElem?_range getElem?_set_ne getElem?_set_self getElem_mem getElem_zip length_append length_cons length_drop length_map length_nil length_set length_singleton length_take lookup_cons map_append map_congr_left map_cons map_id' map_map map_nil mem_append mem_append_left mem_append_right mem_cons mem_cons_of_mem mem_cons_self mem_filter mem_flatMap mem_iff_getElem mem_iff_getElem? mem_map mem_of_find?_eq_some mem_of_getElem? mem_of_mem_take mem_range mem_singleton nil_append nodup_append nodup_cons nodup_nil not_mem_nil of_mem_zip pairwise_cons pairwise_map replicate_succ reverse_cons set_cons_succ set_cons_zero size_toArray sum_append sum_cons take_append_drop take_length take_zero zip_cons_cons)
open PySem.Heap (get?_push_of_some get?_push_size get?_update_other get?_update_self lt_size size_push)
open Array (getElem?_toList length_toList toList_push)
theorem dz{p:Prop}[Decidable p](h:decide p=true:=by rfl):p:=mw h
set_option Elab.async false
set_option linter.all false
set_option maxRecDepth 100000
set_option maxHeartbeats 8000000
noncomputable section
namespace L2
open PySem PySem.Spec PyProof.Rows
section
abbrev Key:=Sum Int Str
def lP:Key->bb->Bool
 | .inl k,v=>Value.isInt k v
 | .inr x,v=>Value.isStrOf x v
def IT(w:fy):Key->Int
 | .inl k=>hashInt k
 | .inr x=>hashStr w x
theorem gM:∀{k:Key}{v:bb},lP k v=true->(∃i t,k=Sum.inl i/\v=vh i t)\/(∃x t,k=Sum.inr x/\v=vi x t)
 | .inl i,v,h=>by
  obtain⟨t,e⟩:=ss (k:=i) (v:=v) h;exact .inl ⟨i,t,rfl,e⟩
 | .inr x,v,h=>by
  obtain⟨t,e⟩:=Value.isStrOf_shape (x:=x) (v:=v) h;exact .inr ⟨x,t,rfl,e⟩
theorem Gb(i:Int)(t:Tok):lP (.inl i) (.int i t)=true:=by simp[lP,Value.isInt]
theorem N0(x:Str)(t:Tok):lP (.inr x) (.str x t)=true:=by simp[lP,Value.isStrOf]
theorem Mm(a b:Int):decide ((Sum.inl a:Key)=Sum.inl b)=(a==b):=by
 by_cases e:a=b
 ·subst e;simp
 ·have h:¬(Sum.inl a:Key)=Sum.inl b:=fun q=>e (Sum.inl.inj q);rw[ff h];exact(beq_eq_false_iff_ne.mpr e).symm
theorem MI(a b:Str):decide ((Sum.inr a:Key)=Sum.inr b)=decide (a=b):=by
 by_cases e:a=b
 ·subst e;simp
 ·have h:¬(Sum.inr a:Key)=Sum.inr b:=fun q=>e (Sum.inr.inj q);rw[ff h,ff e]
theorem L7(a:Int)(b:Str):decide ((Sum.inl a:Key)=Sum.inr b)=false:=ff (fun q=>nomatch q)
theorem MC(a:Str)(b:Int):decide ((Sum.inr a:Key)=Sum.inl b)=false:=ff (fun q=>nomatch q)
def fM(prog:cz)(w:fy):PySem.KeyKind prog w Key where
 is:=lP
 hash:=IT w
 inj:=fun v a b ha hb=>by
  rcases gM ha with ⟨i,t,rfl,rfl⟩|⟨x,t,rfl,rfl⟩
  ·rcases gM hb with ⟨j,u,rfl,e⟩|⟨y,u,rfl,e⟩
   ·injection e with e1 _;rw[e1]
   ·exact nomatch e
  ·rcases gM hb with ⟨j,u,rfl,e⟩|⟨y,u,rfl,e⟩
   ·exact nomatch e
   ·injection e with e1 _;rw[e1]
 byValue:=fun k v h=>by
  rcases gM h with ⟨i,t,rfl,rfl⟩|⟨x,t,rfl,rfl⟩<;>rfl
 pyHash:=fun hv h=>by
  rcases gM hv with ⟨i,t,rfl,rfl⟩|⟨x,t,rfl,rfl⟩
  ·exact wpAny_pyHash_int h
  ·exact wpAny_pyHash_str h
 eqBool:=fun hu hv h=>by
  rcases gM hu with ⟨i,t,rfl,rfl⟩|⟨x,t,rfl,rfl⟩
  ·rcases gM hv with ⟨j,u,rfl,rfl⟩|⟨y,u,rfl,rfl⟩
   ·rw[Mm]at h;exact wpAny_eqBool_int h
   ·rw[L7]at h;exact SeqAt.EqAt.int_str i t y u _ _ _ _ h
  ·rcases gM hv with ⟨j,u,rfl,rfl⟩|⟨y,u,rfl,rfl⟩
   ·rw[MC]at h;exact SeqAt.EqAt.str_int x t j u _ _ _ _ h
   ·rw[MI]at h;exact wpAny_eqBool_str h
 «strs»:=fun k x t v h=>by
  rcases gM h with ⟨i,u,rfl,e⟩|⟨y,u,rfl,e⟩
  ·exact nomatch e
  ·injection e with e1 _
   subst e1;cases v<;>rfl
theorem KA(prog:cz)(w:fy)(i:Int)(t:Tok):(fM prog w).is (.inl i) (.int i t)=true:=Gb i t
theorem Hc(prog:cz)(w:fy)(x:Str)(t:Tok):(fM prog w).is (.inr x) (.str x t)=true:=N0 x t
end
section
inductive V where
 |non|bl (b:Bool)|int (i:Int)|str (x:Str)|byt (b:Array UInt8)|flt (b:UInt64)|ref (a:Addr)|ty (n:String)
 deriving DecidableEq
def RelV:V->bb->Prop
 | .non,u=>u=jr
 | .bl b,u=>u=jx b
 | .int i,u=>∃t,u=vh i t
 | .str x,u=>∃t,u=vi x t
 | .byt b,u=>∃t,u=Value.bytes b t
 | .flt b,u=>∃t,u=Value.float b t
 | .ref a,u=>u=dw a
 | .ty n,u=>u=oh n
abbrev Vals:List V->List bb->Prop:=Paired RelV
theorem Vals.length{xs:List V}{us:List bb}(r:Vals xs us):xs.length=us.length:=Paired.length r
theorem Vals.get:∀{xs:List V}{us:List bb}{i:Nat}{x:V},Vals xs us->xs[i]?=some x->∃u,us[i]?=some u/\RelV x u
 |_,_,_,_,.nil,e=>by simp at e
 |_,_,0,_,.cons r _,e=>by simp at e;subst e;exact⟨_,rfl,r⟩
 |_,_,i+1,x,.cons _ t,e=>by
  obtain⟨u,h1,h2⟩:=Vals.get (i:=i) (x:=x) t (by simpa using e);exact⟨u,by simpa using h1,h2⟩
theorem Vals.set{x:V}{u:bb}(r:RelV x u):∀{xs:List V}{us:List bb} (i:Nat),Vals xs us->Vals (xs.set i x) (us.set i u)
 |_,_,_,.nil=>.nil
 |_,_,0,.cons _ t=>.cons r t
 |_,_,i+1,.cons q t=>.cons q (Vals.set r i t)
theorem Vals.append:∀{xs ys:List V}{us ws:List bb},Vals xs us->Vals ys ws->Vals (xs++ys) (us++ws)
 |_,_,_,_,.nil,s=>s
 |_,_,_,_,.cons r t,s=>.cons r (Vals.append t s)
theorem Vals.take:∀{xs:List V}{us:List bb} (n:Nat),Vals xs us->Vals (xs.take n) (us.take n)
 |_,_,0,_=>.nil
 |_,_,_+1,.nil=>.nil
 |_,_,n+1,.cons r t=>.cons r (Vals.take n t)
theorem Vals.drop:∀{xs:List V}{us:List bb} (n:Nat),Vals xs us->Vals (xs.drop n) (us.drop n)
 |_,_,0,r=>r
 |_,_,_+1,.nil=>.nil
 |_,_,n+1,.cons _ t=>Vals.drop n t
def RelO:Option V->Option bb->Prop
 |some v,some u=>RelV v u
 |none,none=>True
 |_,_=>False
def KV{κ:Type}:List (κ×V)->List (κ×bb)->Prop:=Paired fun(p:κ×V) (q:κ×bb)=>p.1=q.1/\RelV p.2 q.2
def kV:Key->V
 | .inl i=>.int i
 | .inr x=>.str x
inductive HO where
 |lst (xs:List V)
 |tup (xs:List V)
 |dK (kvs:List (Key×V))|dT (kvs:List (List Key×V))
 |set (S:Int->Bool) (n:Nat)
 |ins (C dx:Addr) (fs:List (Str×V))
 |own (x:Addr)
 |xd (fs:List (Str×V))
 |met (f x:Addr)
 |rng (lo hi:Int)
 |frz (o:Obj) (u:HO)
 |tbl (ps:Array bb)
 |ext (φ:Heap->Prop)
abbrev Hp:=Addr->Option HO
def upd(H:Hp)(a:Addr)(o:HO):Hp:=fun b=>if b=a then some o else H b
theorem zF{H:Hp}{a:Addr}{o:HO}:upd H a o a=some o:=by unfold upd;rw[cy rfl]
theorem zC{H:Hp}{a b:Addr}{o:HO}(h:b≠a):upd H a o b=H b:=by unfold upd;rw[cr h]
theorem F0{H:Hp}{a:Addr}{o u:HO}:upd (upd H a o) a u=upd H a u:=by
 funext b;unfold upd;split<;>rfl
theorem zJ{H:Hp}{a b:Addr}{o:HO}(h:H a=some o)(h':H b=none):a≠b:=by
 intro e;subst e;rw[h]at h';cases h'
def keepG:List ((Addr×Obj)×Str):=([((192,⟨.type "tuple",none,.seq #[.str "keeps" 435] 0,#[]⟩),"keeps"),((193,⟨.type "tuple",none,.seq #[.str "breaks" 437] 0,#[]⟩),"breaks")]:List ((PySem.Addr×PySem.Obj)×PySem.Str))
def KpAt(a:Addr)(o:Obj):Prop:=∀q∈keepG,q.1.1=a->o=q.1.2
def TblOk(H:Hp)(ps qs:Array bb):Prop:=qs = #[]\/∃(l c:bb) (q:Str) (t:Tok) (k:Addr) (oc:Obj) (vs:Array bb) (t':Tok),ps = #[l,c,.str q t]/\qs = #[l,c,.ref k]/\H k=some (.frz oc (.own 0))/\oc.data=.fields vs/\vs[1]?=some (.str q t')
theorem TblOk.stay{H H':Hp}{ps qs:Array bb}(x:TblOk H ps qs)(hf:∀b o u,H b=some (.frz o u)->H' b=some (.frz o u)):TblOk H' ps qs:=by
 rcases x with x|⟨l,c,q,t,k,oc,vs,t',e1,e2,e3,r⟩
 ·exact .inl x
 ·exact .inr ⟨l,c,q,t,k,oc,vs,t',e1,e2,hf _ _ _ e3,r⟩
section
variable (P:cz) (w:fy)
def ObjOk(H:Hp)(h:Heap)(a:Addr):HO->Prop
 | .lst xs=>xs.length<=dn/\∃(its:List bb) (n:Nat),Vals xs its/\h.get? a=some { cls:=.type "list",data:=.seq its.toArray n }
 | .tup xs=>(xs.length<=dn/\∃o:Obj,h.get? a=some o/\o.dict=none/\KpAt a o)/\∃its:List bb,Vals xs its/\IsTup h a its.toArray
 | .dK kvs=>kvs.length<=dn/\(a==jt)=false/\∃vs,KV kvs vs/\h.DictOf (fM P w) a vs
 | .dT kvs=>kvs.length<=dn/\(a==jt)=false/\∃xs:List (List Key×Addr×bb),
   Paired (fun(p:List Key×V) (q:List Key×Addr×bb)=>p.1=q.1/\H q.2.1=some (.tup (p.1.map kV))/\RelV p.2 q.2.2) kvs xs /\
   ∃o es ep,h.get? a=some o/\o.ExactDict/\o.data=.dict es ep/\es.toList=xs.map (entryOfKey (tupleKind (fM P w)))/\(xs.map (·.1)).Nodup
 | .set S n=>h.SetOf (intKind P w) a S n
 | .ins C dx fs=>H dx=some (.own a)/\fs.length<=1000/\dx≠a/\h.get? a=some (vj C dx) /\
   ∃mA,h.Ns1 dx mA/\(∀f,RelO (fs.lookup f) (mA f))/\PySem.Within mA (fs.map (·.1))
 | .own _=>∃o,h.get? a=some o
 | .xd fs=>∃mA,h.Ns1 a mA/\∀f,RelO (fs.lookup f) (mA f)
 | .rng lo hi=>∃t u v,h.get? a=some { cls:=.type "range",data:=.fields #[.int lo t,.int hi u,.int 1 v] }
 | .frz o u=>h.get? a=some o/\ObjOk H h a u
 | .tbl ps=>∃qs:Array bb,h.get? a=some { cls:=.none,data:=.fields qs }/\TblOk H ps qs
 | .met f x=>h.get? a=some (W.methodObj (.ref f) (.ref x))
 | .ext φ=>φ h/\(∃o,h.get? a=some o)/\∀h1 h2:Heap,φ h1->(∀o,h1.get? a=some o->h2.get? a=some o)->φ h2
def HOk(H:Hp)(h:Heap):Prop:=∀a o,H a=some o->ObjOk P w H h a o
end
section
variable {P:cz}{w:fy}{H H':Hp}{h h':Heap}{a:Addr}{o:HO}
theorem ObjOk.lt(x:ObjOk P w H h a o):a<h.objs.size:=by
 cases o with
 |lst xs=>obtain⟨_,_,_,_,e⟩:=x;exact fj e
 |tup xs=>obtain⟨_,_,_,p⟩:=x;exact p.lt
 |dK kvs=>obtain⟨_,_,_,_,o,_,_,e,_⟩:=x;exact fj e
 |dT kvs=>obtain⟨_,_,_,_,o,_,_,e,_⟩:=x;exact fj e
 |set S n=>obtain⟨o,_,_,_,e,_⟩:=x;exact fj e
 |ins C dx fs=>obtain⟨_,_,_,e,_⟩:=x;exact fj e
 |own y=>obtain⟨_,e⟩:=x;exact fj e
 |xd fs=>obtain⟨_,⟨_,_,_,e,_⟩,_⟩:=x;exact fj e
 |rng lo hi=>obtain⟨_,_,_,e⟩:=x;exact fj e
 |frz ob u=>obtain⟨e,_⟩:=x;exact fj e
 |tbl ps=>obtain⟨_,e,_⟩:=x;exact fj e
 |met f y=>exact fj (show h.get? a=some _ from x)
 |ext φ=>obtain⟨_,⟨_,e⟩,_⟩:=x;exact fj e
theorem Paired.mapP{α β:Type}{F G:α->β->Prop}:∀{l₁:List α}{l₂:List β},Paired F l₁ l₂->(∀a b,F a b->G a b)->Paired G l₁ l₂
 |_,_,.nil,_=>.nil
 |_,_,.cons r t,f=>.cons (f _ _ r) (Paired.mapP t f)
theorem ObjOk.stay(x:ObjOk P w H h a o)(k:∀b u,(b=a\/H b=some (.own a))->h.get? b=some u->h'.get? b=some u)
  (ho:∀b,H b=some (.own a)->H' b=some (.own a)) (ht:∀b xs,H b=some (.tup xs)->H' b=some (.tup xs))
  (hf:∀b o u,H b=some (.frz o u)->H' b=some (.frz o u):=by first|exact fun _ _ _ q=>q|(intro b o u q;rw[zC (zJ q (by assumption))];exact q)):ObjOk P w H' h' a o:=by
 induction o with
 |lst xs=>obtain⟨z,aa,n,r,e⟩:=x;exact⟨z,aa,n,r,k _ _ (.inl rfl) e⟩
 |tup xs=>obtain⟨⟨z,o2,e2,d2⟩,aa,r,ob,e,c⟩:=x;exact⟨⟨z,o2,k _ _ (.inl rfl) e2,d2⟩,aa,r,ob,k _ _ (.inl rfl) e,c⟩
 |dK kvs=>obtain⟨z,y,vs,r,ob,es,ep,e,c⟩:=x;exact⟨z,y,vs,r,ob,es,ep,k _ _ (.inl rfl) e,c⟩
 |dT kvs=>
  obtain⟨z,y,xs,r,ob,es,ep,e,c⟩:=x;exact⟨z,y,xs,Paired.mapP r fun p q z=>⟨z.1,ht _ _ z.2.1,z.2.2⟩,ob,es,ep,k _ _ (.inl rfl) e,c⟩
 |set S n=>obtain⟨ob,es,ep,t,e,c⟩:=x;exact⟨ob,es,ep,t,k _ _ (.inl rfl) e,c⟩
 |ins C dx fs=>
  obtain⟨d,z,ne,e,mA,⟨od,es,ep,e2,c⟩,r⟩:=x;exact⟨ho _ d,z,ne,k _ _ (.inl rfl) e,mA,⟨od,es,ep,k _ _ (.inr d) e2,c⟩,r⟩
 |own y=>obtain⟨ob,e⟩:=x;exact⟨ob,k _ _ (.inl rfl) e⟩
 |xd fs=>obtain⟨mA,⟨od,es,ep,e,c⟩,r⟩:=x;exact⟨mA,⟨od,es,ep,k _ _ (.inl rfl) e,c⟩,r⟩
 |rng lo hi=>obtain⟨t,u,v,e⟩:=x;exact⟨t,u,v,k _ _ (.inl rfl) e⟩
 |frz ob u ih=>obtain⟨e,q⟩:=x;exact⟨k _ _ (.inl rfl) e,ih q⟩
 |tbl ps=>
  obtain⟨qs,e,q⟩:=x;exact⟨qs,k a _ (.inl rfl) e,q.stay hf⟩
 |met f y=>
  have e:h.get? a=some (W.methodObj (.ref f) (.ref y)):=x;show h'.get? a=some (W.methodObj (.ref f) (.ref y));exact k a _ (.inl rfl) e
 |ext φ=>obtain⟨p,⟨o,e⟩,st⟩:=x;exact⟨st _ _ p fun o q=>k _ _ (.inl rfl) q,⟨o,k _ _ (.inl rfl) e⟩,st⟩
theorem HOk.lt(x:HOk P w H h)(e:H a=some o):a<h.objs.size:=(x a o e).lt
theorem HOk.fresh(x:HOk P w H h)(e:h.objs.size<=a):H a=none:=by
 cases q:H a with
 |none=>rfl
 |some u=>exact absurd (fw (x.lt q) e) (nj _)
theorem HOk.kept(x:HOk P w H h)(k:∀b u,h.get? b=some u->h'.get? b=some u):HOk P w H h':=fun a o e=>
 (x a o e).stay (fun b u _ q=>k b u q) (fun _ q=>q) fun _ _ q=>q
theorem HOk.laid(x:HOk P w H h)(k:∀b u,h.get? b=some u->h'.get? b=some u)(hp:h.objs.size<=a)(z:ObjOk P w (upd H a o) h' a o):HOk P w (upd H a o) h':=fun b u e=>by
 have hn:=x.fresh hp;by_cases hb:b=a
 ·subst hb;rw[zF]at e;cases e;exact z
 ·rw[zC hb]at e;exact(x b u e).stay (fun c v _ q=>k c v q) (fun c q=>by rw[zC (zJ q hn)];exact q) fun c xs q=>by rw[zC (zJ q hn)];exact q
end
def Rd(H:Hp)(a:Addr)(u:HO):Prop:=H a=some u\/∃o,H a=some (.frz o u)
theorem Rd.ok{P:cz}{w:fy}{H:Hp}{h:Heap}{a:Addr}{u:HO}(r:Rd H a u)(x:HOk P w H h):ObjOk P w H h a u:=by
 rcases r with r|⟨o,r⟩
 ·exact x a u r
 ·obtain⟨_,q⟩:=x a _ r;exact q
def Mut:Option HO->Prop
 |some (.lst _)=>True
 |some (.dK _)=>True
 |some (.dT _)=>True
 |some (.set _ _)=>True
 |some (.ins _ _ _)=>True
 |some (.ext _)=>True
 |_=>False
section
variable {P:cz}{w:fy}{H:Hp}{h h':Heap}{x e:Addr}{o':HO}
theorem HOk.write(ok:HOk P w H h)(mu:Mut (H x))(he:e=x\/H e=some (.own x))(k:∀b u,b≠e->h.get? b=some u->h'.get? b=some u)(ae:∃u,h'.get? e=some u)
  (new:ObjOk P w (upd H x o') h' x o'):HOk P w (upd H x o') h':=fun b u q=>by
 have aa:∀c y,H c=some (.own y)->c≠x:=fun c y r z=>by subst z;rw[r]at mu;exact mu
 have ab:∀c xs,H c=some (.tup xs)->c≠x:=fun c xs r z=>by subst z;rw[r]at mu;exact mu
 have ac:∀c o u,H c=some (.frz o u)->c≠x:=fun c o u r z=>by subst z;rw[r]at mu;exact mu
 by_cases hb:b=x
 ·subst hb;rw[zF]at q;cases q;exact new
 ·rw[zC hb]at q;by_cases hbe:b=e
  ·have q':H b=some (.own x):=by
    rcases he with z|z
    ·exact absurd (hbe.trans z) hb
    ·rw[hbe];exact z
   rw[q]at q';cases q';obtain⟨v,hv⟩:=ae;exact⟨v,by rw[hbe];exact hv⟩
  ·refine(ok b u q).stay (fun c v hc r=>k c v ?_ r) (fun c r=>by rw[zC (aa c b r)];exact r) (fun c xs r=>by rw[zC (ab c xs r)];exact r) fun c o u r=>by rw[zC (ac c o u r)];exact r
   rcases hc with rfl|hc
   ·exact hbe
   ·rintro rfl;rcases he with z|z
    ·exact aa c b hc z
    ·rw[hc]at z;cases z;exact hb rfl
end
structure Un(fs ex:List Addr)(H H':Hp)(h h':Heap):Prop where
 keep:∀b o,h.get? b=some o->H b=none->b∉fs->b∉ex->h'.get? b=some o
 slot:∀b o,h.get? b=some o->H b=none->b∈fs->b∉ex->∃sl,h'.get? b=some { o with slots:=sl }
 free:∀b o,h.get? b=some o->H b=none->b∉ex->H' b=none
 there:∀b o,h.get? b=some o->b∉ex->∃o',h'.get? b=some o'
 tups:∀b xs,H b=some (.tup xs)->H' b=some (.tup xs)
 frzs:∀b o u,H b=some (.frz o u)->H' b=some (.frz o u)
 tbls:∀b ps,H b=some (.tbl ps)->H' b=some (.tbl ps)
section
variable {fs fs' ex ex':List Addr}{H H1 H2:Hp}{h h1 h2 h':Heap}{a x e:Addr}{o:HO}
theorem Un.any(u:Un fs ex H H1 h h1){b:Addr}{ob:Obj}(q:h.get? b=some ob)(n:H b=none)(hx:b∉ex):∃sl,h1.get? b=some { ob with slots:=sl }:=by
 by_cases hb:b∈fs
 ·exact u.slot b ob q n hb hx
 ·exact⟨ob.slots,u.keep b ob q n hb hx⟩
theorem Un.trans(a:Un fs ex H H1 h h1)(b:Un fs ex H1 H2 h1 h2):Un fs ex H H2 h h2 where
 keep:=fun c ob q n hc hx=>b.keep c ob (a.keep c ob q n hc hx) (a.free c ob q n hx) hc hx
 slot:=fun c ob q n hc hx=>by
  obtain⟨sl,e1⟩:=a.slot c ob q n hc hx;obtain⟨z,e2⟩:=b.slot c _ e1 (a.free c ob q n hx) hc hx;exact⟨z,e2⟩
 free:=fun c ob q n hx=>by
  obtain⟨o',e1⟩:=a.there c ob q hx;exact b.free c o' e1 (a.free c ob q n hx) hx
 there:=fun c ob q hx=>by
  obtain⟨o',e1⟩:=a.there c ob q hx;exact b.there c o' e1 hx
 tups:=fun c xs q=>b.tups c xs (a.tups c xs q)
 frzs:=fun c ob xs q=>b.frzs c ob xs (a.frzs c ob xs q)
 tbls:=fun c ps q=>b.tbls c _ (a.tbls c ps q)
theorem Un.kept(k:∀b u,h.get? b=some u->h'.get? b=some u):Un fs ex H H h h':=
 ⟨fun b ob q _ _ _=>k b ob q,fun b ob q _ _ _=>⟨ob.slots,k b ob q⟩,fun _ _ _ n _=>n,fun b ob q _=>⟨ob,k b ob q⟩,fun _ _ q=>q,fun _ _ _ q=>q,fun _ _ q=>q⟩
theorem Un.refl:Un fs ex H H h h:=Un.kept fun _ _ q=>q
theorem Un.laid(k:∀b u,h.get? b=some u->h'.get? b=some u)(hp:h.objs.size<=a)(hn:H a=none):Un fs ex H (upd H a o) h h' where
 keep:=fun b u q _ _ _=>k b u q
 slot:=fun b u q _ _ _=>⟨u.slots,k b u q⟩
 free:=fun b u q n _=>by rw[zC (ge (fw (fj q) hp))];exact n
 there:=fun b u q _=>⟨u,k b u q⟩
 tups:=fun b xs q=>by rw[zC (zJ q hn)];exact q
 frzs:=fun b u xs q=>by rw[zC (zJ q hn)];exact q
 tbls:=fun b ps q=>by rw[zC (zJ q hn)];exact q
theorem Un.write(mu:Mut (H x))(he:e=x\/H e=some (.own x))(k:∀b u,b≠e->h.get? b=some u->h'.get? b=some u)(aa:∃u,h'.get? e=some u):Un fs ex H (upd H x o) h h':=by
 have hx:∀b,H b=none->b≠x:=fun b n z=>by subst z;rw[n]at mu;exact mu
 have hb:∀b,H b=none->b≠e:=fun b n z=>by
  subst z;rcases he with r|r
  ·exact hx b n r
  ·rw[n]at r;cases r
 have hm:∀b u,H b=some u->¬ Mut (some u)->b≠x:=fun b u q nm z=>by subst z;rw[q]at mu;exact nm mu
 refine⟨fun b u q n _ _=>k b u (hb b n) q,fun b u q n _ _=>⟨u.slots,k b u (hb b n) q⟩,fun b u q n _=>by rw[zC (hx b n)];exact n,fun b u q _=>?_,
  fun b xs q=>by rw[zC (hm b _ q fun z=>z)];exact q,fun b u xs q=>by rw[zC (hm b _ q fun z=>z)];exact q,fun b ps q=>by rw[zC (hm b _ q fun z=>z)];exact q⟩
 by_cases hbe:b=e
 ·subst hbe;exact aa
 ·exact⟨u,k b u hbe q⟩
theorem Un.mono(u:Un fs ex H H1 h h1)(hs:∀b∈fs,b∈fs')(hx:∀b∈ex,b∈ex'):Un fs' ex' H H1 h h1:=
 ⟨fun b ob q n hb he=>u.keep b ob q n (fun z=>hb (hs b z)) fun z=>he (hx b z),fun _ _ q n _ he=>u.any q n fun z=>he (hx _ z),fun b ob q n he=>u.free b ob q n fun z=>he (hx b z),fun b ob q he=>u.there b ob q fun z=>he (hx b z),u.tups,u.frzs,u.tbls⟩
end
def trk(h:Heap)(H:Hp):List Addr:=(fh h.objs.size).filter fun a=>(H a).isSome
def gD(h:Heap)(H:Hp):Heap:=W.hideAll h (trk h H)
theorem HV(h:Heap)(H:Hp):(gD h H).objs.size=h.objs.size:=W.hideAll_size _ _
theorem Gz{h:Heap}{H:Hp}{b:Addr}{o:Obj}(e:h.get? b=some o)(n:H b=none):(gD h H).get? b=some o:=
 W.hideAll_get _ e fun hm=>by
  have q:(H b).isSome=true:=(mem_filter.mp hm).2;rw[n]at q;simp at q
theorem Kt{h:Heap}{H:Hp}{b:Addr}{o:Obj}(e:(gD h H).get? b=some o):h.get? b=some o/\H b=none:=by
 have e':h.get? b=some o:=W.of_hideAll (trk h H) e;refine⟨e',?_⟩;cases q:H b with
 |none=>rfl
 |some x=>
  have hm:b∈trk h H:=mem_filter.mpr ⟨mem_range.mpr (fj e'),by simp[q]⟩;have z:(gD h H).get? b=none:=W.hideAll_none (trk h H) hm;rw[z]at e;cases e
def K0(g h:Heap)(L:Addr):List (Addr×Obj):=(fh h.objs.size).filterMap fun a=>if a=L\/(g.get? a).isSome=true then none else (h.get? a).map fun o=>(a,o)
def rest(g h:Heap)(L d:Addr):List (Addr×Obj):=(K0 g h L).filter fun p=>decide (p.1≠d)
end
section
def tabsG:List ((Addr×Addr)×Array bb):=[((261,259),#[kh ((171:Nat):Int),kh ((93:Nat):Int),.str (("Planner.best" ++ ".<locals>.") ++ "<lambda>") 0])]
def BltAt(base:Heap)(mg:Str->Option bb):Prop:=∃bm ob,mg "__builtins__" = some (.ref bm)/\bm≠builtinsNs/\base.get? bm=some ob/\ob.cls=.type "module"/\ob.dict=some builtinsNs/\ob.data=.plain
structure Frf(fs:List Addr)(H:Hp):Prop where
 free:∀b∈fs,H b=none
 tab:∀q∈tabsG,H q.1.2=some (.tbl q.2)
 kp:∀q∈keepG,H q.1.1=some (.tup [.str q.2])
def KInW(K:cq)(base:Heap):Prop:=∀a o,K.lookup a=some o->base.get? a=some o\/∃q∈keepG,q.1=(a,o)
theorem KInW.all{K:cq}{base h:Heap}(m:KInW K base)(h1:∀b o,base.get? b=some o->h.get? b=some o)(h2:∀q∈keepG,h.get? q.1.1=some q.1.2):K.In h:=fun a o e=>by
 rcases m a o e with z|⟨q,hq,z⟩
 ·exact h1 _ _ z
 ·have:=h2 q hq;rw[z]at this;exact this
theorem Frf.kpIn{fs:List Addr}{H:Hp}{P:cz}{w:fy}{h:Heap}(f:Frf fs H)(ok:HOk P w H h):∀q∈keepG,h.get? q.1.1=some q.1.2:=fun q hq=>by
 obtain⟨⟨_,o,e,_,k⟩,_⟩:=(show ObjOk P w H h q.1.1 (.tup [.str q.2])from ok _ _ (f.kp q hq));rw[e,k q hq rfl]
theorem Frf.kpNew{fs:List Addr}{H:Hp}{P:cz}{w:fy}{h:Heap}(f:Frf fs H)(ok:HOk P w H h){p:Addr}(hp:h.objs.size<=p)(o:Obj):KpAt p o:=fun q hq e=>by
 have:=fj (f.kpIn ok q hq);rw[e]at this;exact absurd this (Nat.not_lt.mpr hp)
structure Mod(K:cq)(mg:Str->Option bb)(base:Heap):Prop where
 kin:KInW K base
 glob:base.Ns jq mg
 blt:∃mb,base.Ns builtinsNs mb/\∀x:Str,x ≠ "__name__"->mb x=jc x
 nolimit:base.NoLimit
 bm:BltAt base mg
 hd:∀q∈tabsG,W.CodeHd base q.1.1 q.1.2
structure Cx where
 prog:cz
 w:fy
 K:cq
 mg:Str->Option bb
 base:Heap
 A:ft
 N:List Str
 s₀:bd
 H₀:Hp
 env:Env
 outer:List Env
 stack:List Env
 ex:List Addr
 fn:Str->Bool
 calm:Bool
 pn:List (Addr×Obj)
 xe:bb->bd->Prop
def frs(l:List Env):List Addr:=l.filterMap (·.frame)
abbrev Cx.fs (X:Cx):List Addr:=frs X.outer
def Vis(sc:Scope)(x:Str):Prop:=sc.names.lookup x=some .local\/sc.names.lookup x=some .cell\/sc.names.lookup x=some .free
def Loc(sc:Scope)(x:Str):Prop:=sc.names.lookup x=some .local\/sc.names.lookup x=some .cell
def Look(env:Env)(h:Heap)(m:Str->Option bb)(x:Str)(u:bb):Prop:=
 (env.kindOf x=some .local/\m x=some u)\/((env.kindOf x=some .cell\/env.kindOf x=some .free)/\∃c,env.cells.lookup x=some c/\h.IsCell c (some u))
structure Cx.Ok(X:Cx):Prop where
 mod:Mod X.K X.mg X.base
 kind:X.env.scope.kind=.function
 glob:X.env.globals=jq
 blt:X.env.builtins=builtinsNs
 above:X.s₀.heap.objs.size<=X.env.locals
 inj:∀x y c,X.env.cells.lookup x=some c->X.env.cells.lookup y=some c->x=y
 has:∀x,(X.env.kindOf x=some .cell\/X.env.kindOf x=some .free)->∃c,X.env.cells.lookup x=some c
 cab:∀x c,X.fn x=true->X.env.cells.lookup x=some c->X.s₀.heap.objs.size<=c
 hd:X.calm=true->X.A.handled=none
 frames:X.A.frames=some X.stack
 stk:X.stack=X.outer\/(X.stack=X.env::X.outer/\X.env.frame=some X.env.locals)
 exf:∀b∈X.ex,b≠X.env.locals/\∀x c,X.env.cells.lookup x=some c->c≠b
 bs:∀b o,X.base.get? b=some o->X.s₀.heap.get? b=some o/\X.H₀ b=none
 bsz:X.base.objs.size<=X.s₀.heap.objs.size
 noex:∀b o,X.base.get? b=some o->b∉X.ex
 exfs:∀b∈X.ex,b∉X.fs
 funs:X.s₀.heap.FunFrames X.base X.outer
 frf:Frf X.fs X.H₀
structure Inv(X:Cx)(zi:List (Addr×Obj))(σ:List (Option V))(H:Hp)(s:bd):Prop where
 ok:X.Ok
 os:s.os=X.s₀.os
 bare:AllBare s.gens
 base:Un X.fs X.ex X.H₀ H X.s₀.heap s.heap
 loc:∃m,s.heap.Ns X.env.locals m/\∀(i:Nat) (x:Str) (v:V),X.N[i]?=some x->σ[i]?=some (some v)->Vis X.env.scope x->∃u,RelV v u/\Look X.env s.heap m x u
 cell:∀x c,X.env.cells.lookup x=some c->∃v,s.heap.IsCell c v
 free:H X.env.locals=none
 freeC:∀x c,X.env.cells.lookup x=some c->H c=none
 pin:∀p∈X.pn++zi,s.heap.get? p.1=some p.2/\H p.1=none/\p.1≠X.env.locals/\p.1∉X.fs/\∀v,p.2.data≠.cell v
 hok:HOk X.prog X.w H s.heap
 len:σ.length=X.N.length
section
variable {X:Cx}{zi:List (Addr×Obj)}{σ:List (Option V)}{H H':Hp}{s:bd}{h':Heap}
theorem Cx.Ok.nofr(ok:X.Ok){b:Addr}{o:Obj}(e:X.base.get? b=some o):b∉X.fs:=fun hb=>by
 have:=(ok.funs.mem hb).1;rw[e]at this;cases this
theorem Inv.bs(I:Inv X zi σ H s):∀b o,X.base.get? b=some o->s.heap.get? b=some o/\H b=none:=fun b o e=>
 ⟨I.base.keep b o (I.ok.bs b o e).1 (I.ok.bs b o e).2 (I.ok.nofr e) (I.ok.noex b o e),I.base.free b o (I.ok.bs b o e).1 (I.ok.bs b o e).2 (I.ok.noex b o e)⟩
theorem Inv.bk(I:Inv X zi σ H s):∀b o,X.base.get? b=some o->s.heap.get? b=some o:=fun b o e=>(I.bs b o e).1
theorem Inv.mod(I:Inv X zi σ H s):Mod X.K X.mg X.base:=I.ok.mod
theorem Inv.frfH(I:Inv X zi σ H s):Frf [] H:=⟨fun _ hb=>absurd hb yv,fun q hq=>I.base.tbls _ _ (I.ok.frf.tab q hq),fun q hq=>I.base.tups _ _ (I.ok.frf.kp q hq)⟩
theorem Inv.kIn(I:Inv X zi σ H s):X.K.In s.heap:=I.ok.mod.kin.all I.bk (I.frfH.kpIn I.hok)
theorem Inv.kpNew(I:Inv X zi σ H s){p:Addr}(hp:s.heap.objs.size<=p:=by exact dh _){o:Obj}:KpAt p o:=I.frfH.kpNew I.hok hp o
theorem Inv.lt(I:Inv X zi σ H s):X.env.locals<s.heap.objs.size:=let ⟨_,hn,_⟩:=I.loc;hn.lt
theorem Inv.sz(I:Inv X zi σ H s):X.s₀.heap.objs.size<=s.heap.objs.size:=gm I.ok.above (jn I.lt)
theorem Inv.nofs(I:Inv X zi σ H s){a:Addr}(h:s.heap.objs.size<=a):a∉X.fs:=fun hb=>by
 obtain⟨_,o,ho,_⟩:=I.ok.funs.mem hb;exact absurd (fw (fj ho) (gm I.sz h)) (nj _)
theorem Inv.cne(I:Inv X zi σ H s):∀x c,X.env.cells.lookup x=some c->c≠X.env.locals:=fun x c e z=>by
 obtain⟨v,o,ho,hd⟩:=I.cell x c e;obtain⟨m,⟨o',es,ep,q,aa,_⟩,_⟩:=I.loc;rw[z,q]at ho;cases ho;rw[aa]at hd;cases hd
theorem Inv.funs(I:Inv X zi σ H s):s.heap.FunFrames X.base X.outer:=by
 have all:∀(l:List Env),(∀b∈frs l,b∈X.fs)->X.s₀.heap.FunFrames X.base l->s.heap.FunFrames X.base l:=by
  intro l;induction l with
  |nil=>intro _ _;trivial
  |cons env r ih=>
   intro hs hl;obtain⟨hk,⟨L,o,hf,hn,ho,hd⟩,hr⟩:=hl;have hL:L∈X.fs:=hs L (by unfold frs;rw[qr,hf];exact cp);obtain⟨sl,e⟩:=I.base.slot L o ho (I.ok.frf.free L hL) hL fun z=>I.ok.exfs L z hL;exact⟨hk,⟨L,_,hf,hn,e,hd⟩,ih (fun b hb=>hs b (by unfold frs;rw[qr,hf];exact bq _ hb)) hr⟩
 exact all X.outer (fun _ hb=>hb) I.ok.funs
theorem Inv.stack(I:Inv X zi σ H s):s.heap.FunFrames X.base X.stack:=by
 rcases I.ok.stk with e|⟨e,hf⟩
 ·rw[e];exact I.funs
 ·rw[e];obtain⟨m,hn,_⟩:=I.loc;refine .cons (by rw[I.ok.kind];decide) hf hn ?_ I.funs;exact Heap.get?_none_of_le (gm I.ok.bsz I.ok.above)
theorem Inv.stkSub(I:Inv X zi σ H s):∀b∈frs X.stack,b∈X.env.locals::X.fs:=fun b hb=>by
 rcases I.ok.stk with e|⟨e,hf⟩
 ·rw[e]at hb;exact bq _ hb
 ·rw[e]at hb;unfold frs at hb;rw[qr,hf]at hb;exact hb
theorem Inv.stkFree(I:Inv X zi σ H s):Frf (frs X.stack) H:=⟨fun b hb=>by
 rcases mem_cons.mp (I.stkSub b hb)with e|hb
 ·rw[e];exact I.free
 ·obtain⟨_,o,ho,_⟩:=I.ok.funs.mem hb;exact I.base.free b o ho (I.ok.frf.free b hb) fun z=>I.ok.exfs b z hb,fun q hq=>I.base.tbls _ _ (I.ok.frf.tab q hq),fun q hq=>I.base.tups _ _ (I.ok.frf.kp q hq)⟩
theorem Inv.step{g':Array GenState}{t':Nat}{d':Drawn}{ch:List Addr}(I:Inv X zi σ H s)
  (hch:∀b∈ch,(b∈X.ex\/X.s₀.heap.objs.size<=b)/\b≠X.env.locals/\(∀x c,X.env.cells.lookup x=some c->c≠b)/\∀p∈X.pn++zi,p.1≠b)
  (keep:∀b o,b≠X.env.locals->b∉X.fs->b∉ch->s.heap.get? b=some o->H b=none->h'.get? b=some o)
  (slot:∀b o,b≠X.env.locals->b∈X.fs->b∉ch->s.heap.get? b=some o->H b=none->∃sl,h'.get? b=some { o with slots:=sl }) (free:∀b o,b∉ch->s.heap.get? b=some o->H b=none->H' b=none)
  (there:∀b o,b∉ch->s.heap.get? b=some o->∃o',h'.get? b=some o')
  (tups:∀b xs,H b=some (.tup xs)->H' b=some (.tup xs)) (frzs:∀b o u,H b=some (.frz o u)->H' b=some (.frz o u)) (tbls:∀b ps,H b=some (.tbl ps)->H' b=some (.tbl ps))
  (ns:∀m,s.heap.Ns X.env.locals m->h'.Ns X.env.locals m) (hok:HOk X.prog X.w H' h') (hg:AllBare g'):
  Inv X zi σ H' { s with heap:=h',gens:=g',drawn:=d',toks:=t' }:=by
 have ae:∀b o,X.s₀.heap.get? b=some o->b≠X.env.locals:=fun b o e=>ge (fw (fj e) I.ok.above);have ac:∀b o,X.s₀.heap.get? b=some o->b∉X.ex->b∉ch:=fun b o e hx hb=>by
  rcases(hch b hb).1 with z|z
  ·exact hx z
  ·exact absurd (fw (fj e) z) (nj _)
 have ab:∀x c,X.env.cells.lookup x=some c->∀v,s.heap.IsCell c v->h'.IsCell c v:=fun x c e v ⟨o,ho,hd⟩=>by
  have aa:c∉ch:=fun z=>(hch c z).2.2.1 x c e rfl;by_cases hc:c∈X.fs
  ·obtain⟨sl,q⟩:=slot c o (I.cne x c e) hc aa ho (I.freeC x c e);exact⟨_,q,hd⟩
  ·exact⟨o,keep c o (I.cne x c e) hc aa ho (I.freeC x c e),hd⟩
 refine⟨I.ok,I.os,hg,⟨fun b o e n hb hx=>?_,fun b o e n hb hx=>?_,fun b o e n hx=>?_,fun b o e hx=>?_,fun b xs e=>tups b xs (I.base.tups b xs e),fun b o xs e=>frzs b o xs (I.base.frzs b o xs e),fun b ps e=>?_⟩,?_,fun x c e=>?_,?_,fun x c e=>?_,fun p hp=>?_,hok,I.len⟩
 ·exact keep b o (ae b o e) hb (ac b o e hx) (I.base.keep b o e n hb hx) (I.base.free b o e n hx)
 ·obtain⟨sl,e1⟩:=I.base.slot b o e n hb hx;obtain⟨af,e2⟩:=slot b _ (ae b o e) hb (ac b o e hx) e1 (I.base.free b o e n hx);exact⟨af,e2⟩
 ·obtain⟨o',e1⟩:=I.base.there b o e hx;exact free b o' (ac b o e hx) e1 (I.base.free b o e n hx)
 ·obtain⟨o',e1⟩:=I.base.there b o e hx;exact there b o' (ac b o e hx) e1
 ·exact tbls b _ (I.base.tbls b ps e)
 ·obtain⟨m,hn,hl⟩:=I.loc;refine⟨m,ns m hn,fun i x v e1 e2 e3=>?_⟩;obtain⟨u,r,l⟩:=hl i x v e1 e2 e3;refine⟨u,r,?_⟩;rcases l with l|⟨k,c,e,z⟩
  ·exact .inl l
  ·exact .inr ⟨k,c,e,ab x c e _ z⟩
 ·obtain⟨v,z⟩:=I.cell x c e;exact⟨v,ab x c e v z⟩
 ·obtain⟨m,⟨o,_,_,ho,_⟩,_⟩:=I.loc;exact free _ o (fun z=>(hch _ z).2.1 rfl) ho I.free
 ·obtain⟨v,o,ho,hd⟩:=I.cell x c e;exact free c o (fun z=>(hch c z).2.2.1 x c e rfl) ho (I.freeC x c e)
 ·obtain⟨e,n,ne,nf,d⟩:=I.pin p hp;have aa:p.1∉ch:=fun z=>(hch p.1 z).2.2.2 p hp rfl;exact⟨keep p.1 p.2 ne nf aa e n,free p.1 p.2 aa e n,ne,nf,d⟩
theorem Inv.un{t':Nat}(I:Inv X zi σ H s)(u:Un X.fs [] H H' s.heap h')(hok:HOk X.prog X.w H' h'):Inv X zi σ H' { s with heap:=h',toks:=t' }:=by
 obtain⟨m,⟨o,es,ep,ho,r⟩,_⟩:=id I.loc;obtain⟨sl,hL⟩:=u.any ho I.free yv;exact I.step (g':=s.gens) (d':=s.drawn) (ch:=[]) (fun _ z=>nomatch z) (fun b o _ hb _ e n=>u.keep b o e n hb yv) (fun b o _ hb _ e n=>u.slot b o e n hb yv) (fun b o _ e n=>u.free b o e n yv) (fun b o _ e=>u.there b o e yv) u.tups u.frzs u.tbls (fun m' hm=>by
  obtain⟨o',ab,aa,q,r'⟩:=hm;rw[ho]at q;cases q;exact⟨_,ab,aa,hL,r'⟩) hok I.bare
theorem Inv.call{g':Array GenState}{t':Nat}{d':Drawn}{ch:List Addr}(I:Inv X zi σ H s)(u:Un (frs X.stack) ch H H' s.heap h')(hok:HOk X.prog X.w H' h')(hg:AllBare g')
  (hch:∀b∈ch,(b∈X.ex\/X.s₀.heap.objs.size<=b)/\b≠X.env.locals/\(∀x c,X.env.cells.lookup x=some c->c≠b)/\∀p∈X.pn++zi,p.1≠b):
  Inv X zi σ H' { s with heap:=h',gens:=g',drawn:=d',toks:=t' }:=by
 obtain⟨m,⟨o,es,ep,ho,r⟩,_⟩:=id I.loc;obtain⟨sl,hL⟩:=u.any ho I.free fun z=>(hch _ z).2.1 rfl;exact I.step (ch:=ch) hch (fun b o hL hb hc e n=>u.keep b o e n (fun z=>(mem_cons.mp (I.stkSub b z)).elim hL hb) hc) (fun b o _ _ hc e n=>u.any e n hc) (fun b o hc e n=>u.free b o e n hc) (fun b o hc e=>u.there b o e hc) u.tups u.frzs u.tbls (fun m' hm=>by
  obtain⟨o',ab,aa,q,r'⟩:=hm;rw[ho]at q;cases q;exact⟨_,ab,aa,hL,r'⟩) hok hg
theorem Inv.turned{t':Nat}{it:Addr}(I:Inv X zi σ H s)(k:∀b o,b≠it->s.heap.get? b=some o->h'.get? b=some o)(hn:H it=none)(hL:it≠X.env.locals)
  (h1:it∈X.ex\/X.s₀.heap.objs.size<=it) (h2:∀x c,X.env.cells.lookup x=some c->c≠it) (h3:∀p∈X.pn++zi,p.1≠it):Inv X zi σ H { s with heap:=h',toks:=t' }:=by
 have aa:∀b u,H b=some u->b≠it:=fun b u e z=>by rw[z,hn]at e;cases e
 refine I.step (g':=s.gens) (d':=s.drawn) (ch:=[it]) (fun b hb=>?_) (fun b o _ _ hc e _=>k b o (fun z=>hc (by simp[z])) e) (fun b o _ _ hc e _=>⟨o.slots,k b o (fun z=>hc (by simp[z])) e⟩) (fun _ _ _ _ n=>n)
  (fun b o hc e=>⟨o,k b o (fun z=>hc (by simp[z])) e⟩) (fun _ _ e=>e) (fun _ _ _ e=>e) (fun _ _ e=>e) (fun m hm=>?_) (fun b u e=>?_) I.bare
 ·have e:b=it:=by simpa using hb
  subst e;exact⟨h1,hL,h2,h3⟩
 ·obtain⟨o,es,ep,ho,r⟩:=hm;exact⟨o,es,ep,k _ o (gq hL) ho,r⟩
 ·refine(I.hok b u e).stay (fun c v hc q=>k c v ?_ q) (fun _ q=>q) fun _ _ q=>q;rcases hc with z|z
  ·rw[z];exact aa b u e
  ·exact aa c _ z
theorem Inv.tok(I:Inv X zi σ H s)(t:Nat):Inv X zi σ H { s with toks:=t }:=I.un (h':=s.heap) (t':=t) Un.refl I.hok
theorem Inv.kept{t':Nat}(I:Inv X zi σ H s)(k:∀b u,s.heap.get? b=some u->h'.get? b=some u):Inv X zi σ H { s with heap:=h',toks:=t' }:=I.un (Un.kept k) (I.hok.kept k)
theorem Inv.laid{a:Addr}{o:HO}{t':Nat}(I:Inv X zi σ H s)(k:∀b u,s.heap.get? b=some u->h'.get? b=some u)(hp:s.heap.objs.size<=a)(q:ObjOk X.prog X.w (upd H a o) h' a o):
  Inv X zi σ (upd H a o) { s with heap:=h',toks:=t' }:=I.un (Un.laid k hp (I.hok.fresh hp)) (I.hok.laid k hp q)
theorem Inv.write{x e:Addr}{o:HO}{t':Nat}(I:Inv X zi σ H s)(mu:Mut (H x))(he:e=x\/H e=some (.own x))(k:∀b u,b≠e->s.heap.get? b=some u->h'.get? b=some u)(q:∃u,h'.get? e=some u)
  (new:ObjOk X.prog X.w (upd H x o) h' x o):Inv X zi σ (upd H x o) { s with heap:=h',toks:=t' }:=I.un (Un.write mu he k q) (I.hok.write mu he k q new)
theorem Inv.pins_of{q:List (Addr×Obj)}(I:Inv X zi σ H s)(h:∀p∈q,s.heap.get? p.1=some p.2/\H p.1=none/\p.1≠X.env.locals/\p.1∉X.fs/\∀v,p.2.data≠.cell v):Inv X q σ H s:=
 ⟨I.ok,I.os,I.bare,I.base,I.loc,I.cell,I.free,I.freeC,fun p hp=>(mem_append.mp hp).elim (fun z=>I.pin p (cu _ z)) (h p),I.hok,I.len⟩
theorem BA{N:List Str}(hN:N.Nodup){i j:Nat}{x:Str}(a:N[i]?=some x)(b:N[j]?=some x):i=j:=by
 obtain⟨h1,e1⟩:=List.getElem?_eq_some_iff.mp a;obtain⟨h2,e2⟩:=List.getElem?_eq_some_iff.mp b;exact(List.getElem_inj hN).mp (e1.trans e2.symm)
theorem II{M:Model}{A:ft}{E:bb->bd->Prop}{i:Nat}{x:Str}{v:V}{u:bb}{Q:Unit->bd->Prop}(I:Inv X zi σ H s)(hN:X.N.Nodup)(hi:X.N[i]?=some x)(hx:Loc X.env.scope x)(r:RelV v u)
  (h:∀s',Inv X zi (σ.set i (some v)) H s'->(∃a,fg a s.heap s'.heap/\(a=X.env.locals\/X.env.cells.lookup x=some a))->Q () s') (hf:X.fn x=true\/X.env.scope.names.lookup x=some .local:=by first|exact .inl rfl|exact .inr rfl|assumption):bo M A (storeName X.env x u) Q E s:=by
 obtain⟨m,hn,hl⟩:=id I.loc;have aj:(X.env.scope.kind==.class||(X.env.scope.kind==.module&&X.env.locals != X.env.globals))=false:=by rw[I.ok.kind];rfl
 have ag:i<σ.length:=by rw[I.len];exact(List.getElem?_eq_some_iff.mp hi).1
 have ae:=I.cne;have aa:∀{a:Addr}{h':Heap},(∃o,s.heap.get? a=some o/\H a=none)->fg a s.heap h'->HOk X.prog X.w H h':=fun {a h'} ha hs b ob e=>by
  obtain⟨_,_,ab⟩:=ha;refine(I.hok b ob e).stay (fun c w' hc q=>(hs.2 c ?_).trans q) (fun _ q=>q) fun _ _ q=>q;rintro rfl;rcases hc with rfl|hc
  ·rw[ab]at e;cases e
  ·rw[ab]at hc;cases hc
 rcases hx with hk|hk
 ·refine wpAny_storeName_local hk hn (fun h' al hs=>?_) aj;obtain⟨oL,_,_,ak,_⟩:=id hn;refine h _ ⟨I.ok,I.os,I.bare,⟨fun b o e n hb hx=>?_,fun b o e n hb hx=>?_,I.base.free,fun b o e hx=>?_,I.base.tups,I.base.frzs,I.base.tbls⟩,⟨_,al,fun j y v' e1 e2 e3=>?_⟩,fun y c e=>?_,I.free,I.freeC,fun p hp=>?_,aa ⟨oL,ak,I.free⟩ hs,by simpa using I.len⟩ ⟨_,hs,.inl rfl⟩
  ·exact(hs.2 b (ge (fw (fj e) I.ok.above))).trans (I.base.keep b o e n hb hx)
  ·obtain⟨sl,e1⟩:=I.base.slot b o e n hb hx;exact⟨sl,(hs.2 b (ge (fw (fj e) I.ok.above))).trans e1⟩
  ·obtain⟨o',e1⟩:=I.base.there b o e hx;exact⟨o',(hs.2 b (ge (fw (fj e) I.ok.above))).trans e1⟩
  ·by_cases hj:j=i
   ·subst hj;rw[hi]at e1;cases e1;rw[qe ag]at e2;cases e2;exact⟨u,r,.inl ⟨hk,yv⟩⟩
   ·rw[rk (gq hj)]at e2;obtain⟨u',r',q⟩:=hl j y v' e1 e2 e3;refine⟨u',r',?_⟩;rcases q with ⟨k,e⟩|⟨k,c,e,z⟩
    ·refine .inl ⟨k,?_⟩;have:y≠x:=fun e=>hj (BA hN e1 (e▸hi));simp[this,e]
    ·exact .inr ⟨k,c,e,z.sameBut hs (ae y c e)⟩
  ·obtain⟨w',z⟩:=I.cell y c e;exact⟨w',z.sameBut hs (ae y c e)⟩
  ·obtain⟨e,n,ne,nf,d⟩:=I.pin p hp;exact⟨(hs.2 p.1 ne).trans e,n,ne,nf,d⟩
 ·have ac:X.fn x=true:=by
   rcases hf with z|z
   ·exact z
   ·rw[z]at hk;cases hk
  obtain⟨c,hc⟩:=I.ok.has x (.inl hk);obtain⟨w',z⟩:=I.cell x c hc;refine wpAny_storeName_cell I.ok.kind hk hc z (fun h' af hs=>?_);obtain⟨oc,ah,ai⟩:=id z;refine h { s with heap:=h' } ⟨I.ok,I.os,I.bare,⟨fun b o e n hb hx=>?_,fun b o e n hb hx=>?_,I.base.free,fun b o e hx=>?_,I.base.tups,I.base.frzs,I.base.tbls⟩,⟨m,hn.sameBut hs (gq (ae x c hc)),fun j y v' e1 e2 e3=>?_⟩,fun y c' e=>?_,I.free,I.freeC,fun p hp=>?_,aa ⟨oc,ah,I.freeC x c hc⟩ hs,by simpa using I.len⟩ ⟨c,hs,.inr hc⟩
  ·exact(hs.2 b (ge (fw (fj e) (I.ok.cab x c ac hc)))).trans (I.base.keep b o e n hb hx)
  ·obtain⟨sl,e1⟩:=I.base.slot b o e n hb hx;exact⟨sl,(hs.2 b (ge (fw (fj e) (I.ok.cab x c ac hc)))).trans e1⟩
  ·obtain⟨o',e1⟩:=I.base.there b o e hx;exact⟨o',(hs.2 b (ge (fw (fj e) (I.ok.cab x c ac hc)))).trans e1⟩
  ·by_cases hj:j=i
   ·subst hj;rw[hi]at e1;cases e1;rw[qe ag]at e2;cases e2;exact⟨u,r,.inr ⟨.inl hk,c,hc,af⟩⟩
   ·rw[rk (gq hj)]at e2;obtain⟨u',r',q⟩:=hl j y v' e1 e2 e3;refine⟨u',r',?_⟩;rcases q with q|⟨k,c',e,z'⟩
    ·exact .inl q
    ·refine .inr ⟨k,c',e,z'.sameBut hs ?_⟩;rintro rfl;exact hj (BA hN e1 (I.ok.inj _ _ _ e hc▸hi))
  ·by_cases hcc:c'=c
   ·subst hcc;exact⟨_,af⟩
   ·obtain⟨w2,z2⟩:=I.cell y c' e;exact⟨w2,z2.sameBut hs hcc⟩
  ·obtain⟨e,n,ne,nf,d⟩:=I.pin p hp;refine⟨(hs.2 p.1 ?_).trans e,n,ne,nf,d⟩;intro q;rw[q,ah]at e;have q':oc=p.2:=ic e;exact d w' (by rw[<- q'];exact ai)
theorem wN{M:Model}{A:ft}{E:bb->bd->Prop}{i:Nat}{x:Str}{v:V}{u:bb}{Q:Unit->bd->Prop}(I:Inv X zi σ H s)(hN:X.N.Nodup)(hi:X.N[i]?=some x)(hx:Loc X.env.scope x)(r:RelV v u)
  (h:∀s',Inv X zi (σ.set i (some v)) H s'->Q () s') (hf:X.fn x=true\/X.env.scope.names.lookup x=some .local:=by first|exact .inl rfl|exact .inr rfl|assumption):bo M A (storeName X.env x u) Q E s:=
 II I hN hi hx r (fun s' I' _=>h s' I') hf
theorem Inv.call'{s':bd}{ch:List Addr}(I:Inv X zi σ H s)(ho:s'.os=s.os)(u:Un (frs X.stack) ch H H' s.heap s'.heap)(hok:HOk X.prog X.w H' s'.heap)(hg:AllBare s'.gens)
  (hch:∀b∈ch,(b∈X.ex\/X.s₀.heap.objs.size<=b)/\b≠X.env.locals/\(∀x c,X.env.cells.lookup x=some c->c≠b)/\∀p∈X.pn++zi,p.1≠b):Inv X zi σ H' s':=by
 obtain⟨h',g',d',t',o'⟩:=s';have e:o'=s.os:=ho;subst e;exact I.call (g':=g') (t':=t') (d':=d') u hok hg hch
end
abbrev XK:=bb->Option Addr->Hp->Prop
abbrev St:=List (Option V)
abbrev VK:=V->Hp->Prop
abbrev TE:=St->Hp->VK->Prop
abbrev TT:=St->Hp->(Bool->Hp->Prop)->Prop
abbrev TA:=St->Hp->(List V->Hp->Prop)->Prop
structure Ends where
 nx:St->Hp->Prop
 rt:VK
 bk:St->Hp->Prop:=fun _ _=>False
 ct:St->Hp->Prop:=fun _ _=>False
abbrev TS:=Ends->St->Hp->Prop
def EP(X:Cx)(zi:List (Addr×Obj))(σ:St)(Q:VK)(u:bb)(s':bd):Prop:=∃v H',Inv X zi σ H' s'/\RelV v u/\Q v H'
def TP(X:Cx)(zi:List (Addr×Obj))(σ:St)(Q:Bool->Hp->Prop)(b:Bool)(s':bd):Prop:=∃H',Inv X zi σ H' s'/\Q b H'
def AP(X:Cx)(zi:List (Addr×Obj))(σ:St)(Q:List V->Hp->Prop)(us:List bb)(s':bd):Prop:=∃vs H',Inv X zi σ H' s'/\Vals vs us/\Q vs H'
def SP(X:Cx)(zi:List (Addr×Obj))(D:Ends)(f:Flow)(s':bd):Prop:=
 match f with
 | .next=>∃ σ' H',Inv X zi σ' H' s'/\D.nx σ' H'
 | .brk=>∃ σ' H',Inv X zi σ' H' s'/\D.bk σ' H'
 | .cont=>∃ σ' H',Inv X zi σ' H' s'/\D.ct σ' H'
 | .ret u=>∃v σ' H',Inv X zi σ' H' s'/\RelV v u/\D.rt v H'
def PE(X:Cx)(e:Expr)(t:TE):Prop:=
 ∀(zi:List (Addr×Obj)) (s:bd) (σ:St) (H:Hp) (Q:VK),Inv X zi σ H s->t σ H Q->bo (model X.prog X.w) X.A (eval e X.env) (EP X zi σ Q) X.xe s
def PT(X:Cx)(e:Expr)(t:TT):Prop:=
 ∀(zi:List (Addr×Obj)) (s:bd) (σ:St) (H:Hp) (Q:Bool->Hp->Prop),Inv X zi σ H s->t σ H Q->bo (model X.prog X.w) X.A (isTrue e X.env (eval e X.env)) (TP X zi σ Q) X.xe s
def PW(X:Cx)(e:Expr)(t:TT):Prop:=
 ∀(whole:Sem bb) (zi:List (Addr×Obj)) (s:bd) (σ:St) (H:Hp) (Q:Bool->Hp->Prop),Inv X zi σ H s->t σ H Q->bo (model X.prog X.w) X.A (isTrue e X.env whole) (TP X zi σ Q) X.xe s
theorem PW.pt{X:Cx}{e:Expr}{t:TT}(h:PW X e t):PT X e t:=h _
def PA(X:Cx)(es:List Expr)(t:TA):Prop:=
 ∀(pos:Pos) (zi:List (Addr×Obj)) (s:bd) (σ:St) (H:Hp) (Q:List V->Hp->Prop),Inv X zi σ H s->t σ H Q->bo (model X.prog X.w) X.A (spliced (ow pos (dq es X.env))) (AP X zi σ Q) X.xe s
def PS(X:Cx)(st:Stmt)(t:TS):Prop:=
 ∀(zi:List (Addr×Obj)) (s:bd) (σ:St) (H:Hp) (D:Ends),Inv X zi σ H s->t D σ H->bo (model X.prog X.w) X.A (exec st X.env) (SP X zi D) X.xe s
def PSs(X:Cx)(st:List Stmt)(t:TS):Prop:=
 ∀(zi:List (Addr×Obj)) (s:bd) (σ:St) (H:Hp) (D:Ends),Inv X zi σ H s->t D σ H->bo (model X.prog X.w) X.A (execs st X.env) (SP X zi D) X.xe s
theorem thn{α:Type}{t:Sem α}{Q Q':α->bd->Prop}{M:Model}{A:ft}{E:bb->bd->Prop}{s:bd}(h:bo M A t Q E s)(hQ:∀a s,Q a s->Q' a s):bo M A t Q' E s:=qz h hQ fun _ _ x=>x
end
section
section
variable {X:Cx}
def b0(i:Nat):TE:=fun σ H Q=>∃v,σ[i]?=some (some v)/\Q v H
def tC(v:V):TE:=fun _ H Q=>Q v H
theorem MV{i:Nat}{x:Str}{pos:Pos}(hN:X.N[i]?=some x)(hv:Vis X.env.scope x)(hd:(x==("__debug__":Str))=false:=by decide)(q:(x==("__classdict__":Str))=false:=by decide):PE X (.Name x pos) (b0 i):=by
 intro zi s σ H Q I h;obtain⟨v,e,h⟩:=h;obtain⟨m,hn,hl⟩:=I.loc;obtain⟨u,r,l⟩:=hl i x v hN e hv;have fin:EP X zi σ Q u s:=⟨v,H,I,r,h⟩;rcases l with ⟨hk,hm⟩|⟨hk,c,hc,hcell⟩
 ·exact wpAny_Name (wpAny_loadName_local I.ok.kind hk hn hm fin) hd
 ·rcases hk with hk|hk
  ·exact wpAny_Name (wpAny_loadName_cell I.ok.kind hk hc hcell fin) hd
  ·exact wpAny_Name (wpAny_loadName_free I.ok.kind hk hc hcell fin q) hd
theorem zg{i j pos}:PE X (.Constant (.int i) j pos) (tC (.int i)):=fun _ _ _ H _ I h=>wpAny_Constant_int ⟨.int i,H,I.tok _,⟨_,rfl⟩,h⟩
theorem bR{b j pos}:PE X (.Constant (.bool b) j pos) (tC (.bl b)):=fun _ _ _ H _ I h=>Constant_bool ⟨.bl b,H,I,rfl,h⟩
theorem nV{j pos}:PE X (.Constant .none j pos) (tC .non):=fun _ _ _ H _ I h=>Constant_none ⟨.non,H,I,rfl,h⟩
theorem c8{x j pos}:PE X (.Constant (.str x) j pos) (tC (.str x)):=fun _ _ _ H _ I h=>Calls.Constant_str ⟨.str x,H,I.tok _,⟨_,rfl⟩,h⟩
def Gl(X:Cx)(x:Str):Prop:=X.env.kindOf x=some .globalImplicit
theorem yI{E:bb->bd->Prop}{zi:List (Addr×Obj)}{s:bd}{σ:St}{H:Hp}{x:Str}{u:bb}{pos:Pos}{Q:bb->bd->Prop}(I:Inv X zi σ H s)(hg:Gl X x)(hm:X.mg x=some u)(h:Q u s)
  (hd:(x==("__debug__":Str))=false:=by decide):bo (model X.prog X.w) X.A (eval (.Name x pos) X.env) Q E s:=
 Calls.Name_function_global I.ok.kind hg (Calls.loadGlobal_global (by rw[I.ok.glob];exact I.mod.glob.keeps I.bk) hm h) hd
theorem fI{E:bb->bd->Prop}{zi:List (Addr×Obj)}{s:bd}{σ:St}{H:Hp}{x:Str}{u:bb}{pos:Pos}{Q:bb->bd->Prop}(I:Inv X zi σ H s)(hg:Gl X x)(hm:X.mg x=none)(hv:jc x=some u)(h:Q u s)
  (hn:x ≠ "__name__":=by decide) (hd:(x==("__debug__":Str))=false:=by decide):bo (model X.prog X.w) X.A (eval (.Name x pos) X.env) Q E s:=by
 obtain⟨mb,h1,h2⟩:=I.mod.blt;exact Calls.Name_function_global I.ok.kind hg (Calls.loadGlobal_builtin (by rw[I.ok.glob];exact I.mod.glob.keeps I.bk) hm (by rw[I.ok.blt];exact h1.keeps I.bk) ((h2 x hn).trans hv) h) hd
theorem sY{x:Str}{v:V}{u:bb}{pos:Pos}(hg:Gl X x)(hm:X.mg x=some u)(r:RelV v u)(hd:(x==("__debug__":Str))=false:=by decide):PE X (.Name x pos) (tC v):=
 fun _ _ _ H _ I h=>yI I hg hm ⟨v,H,I,r,h⟩ hd
theorem iJ{x:Str}{v:V}{u:bb}{pos:Pos}(hg:Gl X x)(hm:X.mg x=none)(hv:jc x=some u)(r:RelV v u)(hn:x ≠ "__name__":=by decide)(hd:(x==("__debug__":Str))=false:=by decide):PE X (.Name x pos) (tC v):=
 fun _ _ _ H _ I h=>fI I hg hm hv ⟨v,H,I,r,h⟩ hn hd
variable {a b:Expr}{ta tb:TE}{pos:Pos}
variable {tA tB':TT}{rest:List Expr}
def CT(t u:TT):TT:=fun σ H Q=>t σ H fun c H1=>if c=true then u σ H1 Q else Q false H1
def tOr(t u:TT):TT:=fun σ H Q=>t σ H fun c H1=>if c=true then Q true H1 else u σ H1 Q
def Ef(t:TT):TT:=fun σ H Q=>t σ H fun c H1=>Q (!c) H1
theorem nH(ha:PT X a tA):PW X (.BoolOp .And [a] pos) tA:=by
 intro wh zi s σ H Q I h;refine isTrue_and (thn (ha zi s σ H Q I h) fun c s1 e=>?_);cases c with
 |true=>exact isTrue_and_nil e
 |false=>exact e
theorem e7(ha:PT X a tA):PW X (.BoolOp .Or [a] pos) tA:=by
 intro wh zi s σ H Q I h;refine isTrue_or (thn (ha zi s σ H Q I h) fun c s1 e=>?_);cases c with
 |false=>exact isTrue_or_nil e
 |true=>exact e
theorem pO(ha:PT X a tA)(hb:PW X (.BoolOp .And (b::rest) pos) tB'):PW X (.BoolOp .And (a::b::rest) pos) (CT tA tB'):=by
 intro wh zi s σ H Q I h;refine isTrue_and (thn (ha zi s σ H _ I h) fun c s1 ⟨H1,I1,q1⟩=>?_);cases c with
 |true=>exact hb wh zi s1 σ H1 Q I1 q1
 |false=>exact⟨H1,I1,q1⟩
theorem c7(ha:PT X a tA)(hb:PW X (.BoolOp .Or (b::rest) pos) tB'):PW X (.BoolOp .Or (a::b::rest) pos) (tOr tA tB'):=by
 intro wh zi s σ H Q I h;refine isTrue_or (thn (ha zi s σ H _ I h) fun c s1 ⟨H1,I1,q1⟩=>?_);cases c with
 |true=>exact⟨H1,I1,q1⟩
 |false=>exact hb wh zi s1 σ H1 Q I1 q1
theorem cD(ha:PT X a tA):PT X (.UnaryOp .Not a pos) (Ef tA):=by
 intro zi s σ H Q I h;exact isTrue_not (ha zi s σ H (fun c H1=>Q (!c) H1) I h)
def Ak(ta tb:TE):TE:=fun σ H Q=>ta σ H fun x H1=>∃c,x=.bl c/\if c=true then tb σ H1 Q else Q (.bl false) H1
def Eb(ta:TE):TE:=fun σ H Q=>ta σ H fun x H1=>∃c,x=.bl c/\Q (.bl (!c)) H1
theorem qB{op}{t:TE}(h:PE X a t):PE X (.BoolOp op [a] pos) t:=fun zi s σ H Q I hw=>BoolOp_one (h zi s σ H Q I hw)
theorem jW(ha:PE X a ta)(hb:PE X (.BoolOp .And (b::rest) pos) tb):PE X (.BoolOp .And (a::b::rest) pos) (Ak ta tb):=by
 intro zi s σ H Q I h;refine BoolOp_and (thn (ha zi s σ H _ I h) fun v s1 ⟨x,H1,I1,r1,q1⟩=>?_);obtain⟨c,rfl,q1⟩:=q1;cases r1;refine ji ?_;cases c with
 |true=>exact hb zi s1 σ H1 Q I1 q1
 |false=>exact⟨.bl false,H1,I1,rfl,q1⟩
theorem DK(ha:PE X a ta):PE X (.UnaryOp .Not a pos) (Eb ta):=by
 intro zi s σ H Q I h;refine UnaryOp_ (thn (ha zi s σ H _ I h) fun v s1 ⟨x,H1,I1,r1,q1⟩=>?_);obtain⟨c,rfl,q1⟩:=q1;cases r1;exact not_of (ji ⟨.bl (!c),H1,I1,rfl,q1⟩)
def tIf(t:TT)(ta tb:TE):TE:=fun σ H Q=>t σ H fun c H1=>if c=true then ta σ H1 Q else tb σ H1 Q
theorem y8{c:Expr}(hc:PT X c tA)(ha:PE X a ta)(hb:PE X b tb):PE X (.IfExp c a b pos) (tIf tA ta tb):=by
 intro zi s σ H Q I h;refine wpAny_IfExp (thn (hc zi s σ H _ I h) fun d s1 ⟨H1,I1,q1⟩=>?_);cases d with
 |true=>exact ha zi s1 σ H1 Q I1 q1
 |false=>exact hb zi s1 σ H1 Q I1 q1
end
end
section
def SqL(K:cq)(H:Hp)(a:Addr)(xs:List V):Prop:=
 Rd H a (.lst xs) \/
  ∃(o:Obj) (its:Array bb) (n:Nat),K.lookup a=some o/\o.cls=.type "list"/\o.dict=none/\o.data=.seq its n/\its.size<=dn/\Vals xs its.toList
def SqT(K:cq)(H:Hp)(a:Addr)(xs:List V):Prop:=
 Rd H a (.tup xs) \/
  ∃(o:Obj) (its:Array bb) (n:Nat),K.lookup a=some o/\o.cls=.type "tuple"/\o.data=.seq its n/\its.size<=dn/\Vals xs its.toList
def I0:bb->Option V
 | .none=>some .non
 | .bool b=>some (.bl b)
 | .int i _=>some (.int i)
 | .str x _=>some (.str x)
 | .bytes b _=>some (.byt b)
 | .float b _=>some (.flt b)
 | .ref a=>some (.ref a)
 | .type n=>some (.ty n)
 |_=>none
theorem RelV.abs{x:V}{u:bb}(r:RelV x u):I0 u=some x:=by
 cases x with
 |non=>cases r;rfl
 |bl _=>cases r;rfl
 |int _=>obtain⟨t,rfl⟩:=r;rfl
 |str _=>obtain⟨t,rfl⟩:=r;rfl
 |byt _=>obtain⟨t,rfl⟩:=r;rfl
 |flt _=>obtain⟨t,rfl⟩:=r;rfl
 |ref _=>cases r;rfl
 |ty _=>cases r;rfl
theorem RelV.inj{x y:V}{u:bb}(r:RelV x u)(q:RelV y u):x=y:=ic (r.abs.symm.trans q.abs)
theorem Vals.inj:∀{xs ys:List V}{us:List bb},Vals xs us->Vals ys us->xs=ys
 |_,_,_,.nil,.nil=>rfl
 |_,_,_,.cons r t,.cons r' t'=>by rw[r.inj r',Vals.inj t t']
section
variable {X:Cx}{zi:List (Addr×Obj)}{σ:St}{H:Hp}{s:bd}{a:Addr}{xs ys:List V}
theorem SqL.of{K:cq}(h:H a=some (.lst xs)):SqL K H a xs:=.inl (.inl h)
theorem SqT.of{K:cq}(h:H a=some (.tup xs)):SqT K H a xs:=.inl (.inl h)
theorem Inv.list(I:Inv X zi σ H s)(h:SqL X.K H a xs):∃q:List bb,Vals xs q/\PlainL s.heap a q.toArray/\xs.length<=dn:=by
 rcases h with h|⟨o,q,n,hk,hc,hd,hs,hz,r⟩
 ·obtain⟨z,q,n,r,e⟩:=h.ok I.hok;exact⟨q,r,⟨_,n,e,rfl,rfl,rfl⟩,z⟩
 ·refine⟨q.toList,r,⟨o,n,I.kIn a o hk,hc,hd,by simpa using hs⟩,?_⟩;have e:=r.length;simp only[fu]at e;omega
theorem Inv.tuple(I:Inv X zi σ H s)(h:SqT X.K H a xs):∃q:List bb,Vals xs q/\IsTup s.heap a q.toArray/\xs.length<=dn:=by
 rcases h with h|⟨o,q,n,hk,hc,hs,hz,r⟩
 ·obtain⟨z,q,r,p⟩:=h.ok I.hok;exact⟨q,r,p,z.1⟩
 ·refine⟨q.toList,r,⟨o,I.kIn a o hk,hc,n,by simpa using hs⟩,?_⟩;have e:=r.length;simp only[fu]at e;omega
theorem Inv.list_inj(I:Inv X zi σ H s)(h:SqL X.K H a xs)(h':SqL X.K H a ys):xs=ys:=by
 obtain⟨q,r,⟨o,n,e,_,_,d⟩,_⟩:=I.list h;obtain⟨its',r',⟨o',n',e',_,_,d'⟩,_⟩:=I.list h';rw[e]at e';cases e';rw[d]at d';injection d' with d1 _
 have:q=its':=by simpa using congrArg Array.toList d1
 subst this;exact r.inj r'
theorem Inv.tuple_inj(I:Inv X zi σ H s)(h:SqT X.K H a xs)(h':SqT X.K H a ys):xs=ys:=by
 obtain⟨q,r,⟨o,e,_,n,d⟩,_⟩:=I.tuple h;obtain⟨its',r',⟨o',e',_,n',d'⟩,_⟩:=I.tuple h';rw[e]at e';cases e';rw[d]at d';injection d' with d1 _
 have:q=its':=by simpa using congrArg Array.toList d1
 subst this;exact r.inj r'
end
abbrev Cx.wish (X:Cx) (E:bb->bd->Prop):Cx:={ X with xe:=E }
abbrev Cx.nox (X:Cx):Cx:=X.wish fun _ _=>False
theorem Cx.Ok.wish{X:Cx}(ok:X.Ok)(E:bb->bd->Prop):(X.wish E).Ok:=
 ⟨ok.mod,ok.kind,ok.glob,ok.blt,ok.above,ok.inj,ok.has,ok.cab,ok.hd,ok.frames,ok.stk,ok.exf,ok.bs,ok.bsz,ok.noex,ok.exfs,ok.funs,ok.frf⟩
theorem Cx.Ok.unwish{X:Cx}{E:bb->bd->Prop}(ok:(X.wish E).Ok):X.Ok:=
 ⟨ok.mod,ok.kind,ok.glob,ok.blt,ok.above,ok.inj,ok.has,ok.cab,ok.hd,ok.frames,ok.stk,ok.exf,ok.bs,ok.bsz,ok.noex,ok.exfs,ok.funs,ok.frf⟩
section
variable {X:Cx}{zi:List (Addr×Obj)}{σ:St}{H:Hp}{s:bd}{E:bb->bd->Prop}
theorem Inv.wish(I:Inv X zi σ H s)(E:bb->bd->Prop):Inv (X.wish E) zi σ H s:=⟨I.ok.wish E,I.os,I.bare,I.base,I.loc,I.cell,I.free,I.freeC,I.pin,I.hok,I.len⟩
theorem Inv.unwish(I:Inv (X.wish E) zi σ H s):Inv X zi σ H s:=⟨I.ok.unwish,I.os,I.bare,I.base,I.loc,I.cell,I.free,I.freeC,I.pin,I.hok,I.len⟩
theorem SP.unwish{D:Ends}{f:Flow}{s':bd}(h:SP (X.wish E) zi D f s'):SP X zi D f s':=by
 cases f with
 |next=>obtain⟨σ',H',I,q⟩:=h;exact⟨σ',H',I.unwish,q⟩
 |brk=>obtain⟨σ',H',I,q⟩:=h;exact⟨σ',H',I.unwish,q⟩
 |cont=>obtain⟨σ',H',I,q⟩:=h;exact⟨σ',H',I.unwish,q⟩
 |ret u=>obtain⟨v,σ',H',I,r,q⟩:=h;exact⟨v,σ',H',I.unwish,r,q⟩
theorem PSs.nox{st:List Stmt}{t:TS}(h:PSs X.nox st t):PSs X st t:=fun zi s σ H D I hw=>
 qz (h zi s σ H D (I.wish _) hw) (fun _ _ q=>q.unwish) fun _ _ z=>ou z
end
section
variable {X:Cx}{st:Stmt}{rest:List Stmt}{t u:TS}{e:Expr}{te:TE}{pos:Pos}
def wO:TS:=fun D σ H=>D.nx σ H
def cH(t u:TS):TS:=fun D σ H=>t { D with nx:=u D } σ H
theorem zL:PSs X [] wO:=fun _ _ σ H _ I h=>wpAny_execs_nil ⟨σ,H,I,h⟩
theorem ze(h1:PS X st t)(h2:PSs X rest u):PSs X (st::rest) (cH t u):=by
 intro zi s σ H D I h;refine wpAny_execs_cons (thn (h1 zi s σ H { D with nx:=u D } I h) fun f s1 q=>?_);cases f with
 |next=>
  obtain⟨σ',H',I',q⟩:=q;exact h2 zi s1 σ' H' D I' q
 |ret v=>exact q
 |brk=>exact q
 |cont=>exact q
theorem zn(h1:PS X st t):PSs X [st] t:=by
 intro zi s σ H D I h;refine wpAny_execs_cons (thn (h1 zi s σ H D I h) fun f s1 q=>?_);cases f with
 |next=>exact wpAny_execs_nil q
 |ret v=>exact q
 |brk=>exact q
 |cont=>exact q
theorem Inv.quiet{zi:List (Addr×Obj)}{σ:St}{H:Hp}{s:bd}(I:Inv X zi σ H s):interactive X.env=false:=by simp[interactive,I.ok.kind]
def yD(te:TE):TS:=fun D σ H=>te σ H fun _ H1=>D.nx σ H1
theorem eX(he:PE X e te)(hs:swapsWith e none pos.line X.env=pure false:=by rfl):PS X (.Expr e pos) (yD te):=by
 intro zi s σ H D I h;exact wpAny_Expr_any (thn (he zi s σ H _ I h) fun v s1 ⟨x,H1,I1,r1,q1⟩=>⟨σ,H1,I1,q1⟩) I.quiet hs
def qH(te:TE):TS:=fun D σ H=>te σ H D.rt
theorem zy(he:PE X e te):PS X (.Return (some e) pos) (qH te):=by
 intro zi s σ H D I h;exact wpAny_Return_some (thn (he zi s σ H _ I h) fun v s1 ⟨x,H1,I1,r1,q1⟩=>⟨x,σ,H1,I1,r1,q1⟩)
def tR(c:TT)(t u:TS):TS:=fun D σ H=>c σ H fun b H1=>if b=true then t D σ H1 else u D σ H1
theorem aN{c:Expr}{a b:List Stmt}{tc:TT}(hc:PT X c tc)(ha:PSs X a t)(hb:PSs X b u):PS X (.If c a b pos) (tR tc t u):=by
 intro zi s σ H D I h;refine wpAny_If (thn (hc zi s σ H _ I h) fun d s1 ⟨H1,I1,q1⟩=>?_);cases d with
 |true=>exact ha zi s1 σ H1 D I1 q1
 |false=>exact hb zi s1 σ H1 D I1 q1
def FI:TS:=fun _ _ _=>False
theorem L8:PS X st FI:=fun _ _ _ _ _ _ h=>h.elim
end
abbrev TG:=V->St->Hp->(St->Hp->Prop)->Prop
abbrev TGs:=List V->St->Hp->(St->Hp->Prop)->Prop
def PG(X:Cx)(q:Expr)(t:TG):Prop:=
 ∀(zi:List (Addr×Obj)) (s:bd) (σ:St) (H:Hp) (v:V) (u:bb) (Q:St->Hp->Prop),Inv X zi σ H s->RelV v u->t v σ H Q ->
  bo (model X.prog X.w) X.A (assign q X.env u) (fun _ s'=>∃ σ' H',Inv X zi σ' H' s'/\Q σ' H') X.xe s
def PGs(X:Cx)(ts:List Expr)(t:TGs):Prop:=
 ∀(zi:List (Addr×Obj)) (s:bd) (σ:St) (H:Hp) (vs:List V) (us:List bb) (Q:St->Hp->Prop),Inv X zi σ H s->Vals vs us->t vs σ H Q ->
  bo (model X.prog X.w) X.A (assignInOrder ((assignEach ts X.env).map (·.2)) us) (fun _ s'=>∃ σ' H',Inv X zi σ' H' s'/\Q σ' H') X.xe s
abbrev TSet:=V->V->V->Hp->(Hp->Prop)->Prop
def PSet(X:Cx)(t:TSet):Prop:=
 ∀(zi:List (Addr×Obj)) (s:bd) (σ:St) (H:Hp) (o i v:V) (ov iv u:bb) (Q:Hp->Prop),Inv X zi σ H s->RelV o ov->RelV i iv->RelV v u->t o i v H Q ->
  bo (model X.prog X.w) X.A (setItem ov iv u) (fun _ s'=>∃H',Inv X zi σ H' s'/\Q H') X.xe s
section
variable {X:Cx}{pos:Pos}
def jO(i:Nat):TG:=fun v σ H Q=>Q (σ.set i (some v)) H
theorem zw{i:Nat}{x:Str}(hN:X.N.Nodup)(hi:X.N[i]?=some x)(hx:Loc X.env.scope x)(hf:X.fn x=true\/X.env.scope.names.lookup x=some .local:=by first|exact .inl rfl|exact .inr rfl|assumption):PG X (.Name x pos) (jO i):=by
 intro zi s σ H v u Q I r h;exact wpAny_assign_Name (wN I hN hi hx r (fun s' I'=>⟨_,H,I',h⟩) hf)
def Ey:TGs:=fun vs σ H Q=>vs=[]/\Q σ H
def DJ(t:TG)(u:TGs):TGs:=fun vs σ H Q=>∃v r,vs=v::r/\t v σ H fun σ' H'=>u r σ' H' Q
theorem gV:PGs X [] Ey:=by
 intro zi s σ H vs us Q I r h;obtain⟨e,h⟩:=h;subst e;cases r;exact assignInOrder_nil ⟨σ,H,I,h⟩
theorem cN{e:Expr}{es:List Expr}{t:TG}{u:TGs}(h1:PG X e t)(h2:PGs X es u)
  (hs:(assignEach (e::es) X.env).map (·.2)=assign e X.env::(assignEach es X.env).map (·.2):=by rfl):PGs X (e::es) (DJ t u):=by
 intro zi s σ H vs us Q I r h;obtain⟨v,vr,e1,h⟩:=h;subst e1;cases r with
 |cons r rr=>
  rw[hs];refine assignInOrder_cons (thn (h1 zi s σ H _ _ _ I r h) fun _ s1 ⟨σ1,H1,I1,q1⟩=>?_);exact h2 zi s1 σ1 H1 _ _ Q I1 rr q1
def Ew(K:cq)(n:Nat)(t:TGs):TG:=fun v σ H Q=>∃a xs,v=.ref a/\SqT K H a xs/\xs.length=n/\t xs σ H Q
theorem gR{es:List Expr}{k:Nat}{t:TGs}{n:Nat}(hc:X.calm=true)(h:PGs X es t)
  (hn:(assignEach es X.env).length=n:=by rfl) (hst:(assignEach es X.env).findIdx? (·.1)=none:=by rfl):PG X (.Tuple es k pos) (Ew X.K n t):=by
 intro zi s σ H v u Q I r hw;obtain⟨a,xs,e1,hq,hl,hw⟩:=hw;subst e1;cases r;obtain⟨q,rv,ht,hz⟩:=I.tuple hq;refine assign_Tuple_tuple (I.ok.hd hc) ht (by simp[hn,<- hl,rv.length]) hst fun h' hx=>?_;have I1:Inv X zi σ H { s with heap:=h' }:=I.kept (t':=s.toks) fun b o e=>hx b o (ge (fj e)) e;exact h zi _ σ H xs _ Q I1 (by simpa using rv) hw
def FC(to ti:TE)(t:TSet):TG:=fun v σ H Q=>to σ H fun o H1=>ti σ H1 fun i H2=>t o i v H2 fun H3=>Q σ H3
theorem Dl{o i:Expr}{to ti:TE}{t:TSet}(ho:PE X o to)(hi:PE X i ti)(hs:PSet X t)
  (ha:∀v,assign (.Subscript o i pos) X.env v=(do
   let ov <- holding [v] (eval o X.env)
   let iv <- holding [v,ov] (eval i X.env)
   standAt pos
   holding [v,ov,iv] (setItem ov iv v)
   release [v,ov,iv] []):=by intro _;rfl):PG X (.Subscript o i pos) (FC to ti t):=by
 intro zi s σ H v u Q I r h;rw[ha];refine ba (iq (thn (ho zi s σ H _ I h) fun ov s1 ⟨x,H1,I1,r1,q1⟩=>?_));refine ba (iq (thn (hi zi s1 σ H1 _ I1 q1) fun iv s2 ⟨y,H2,I2,r2,q2⟩=>?_));refine ba (wpAny_standAt (ba (iq (thn (hs zi s2 σ H2 x y v ov iv u _ I2 r1 r2 r q2) fun _ s3 ⟨H3,I3,q3⟩=>?_))));exact wpAny_release ⟨σ,H3,I3,q3⟩
def jV(te:TE)(g:TG):TS:=fun D σ H=>te σ H fun x H1=>g x σ H1 D.nx
theorem pD{tg e:Expr}{te:TE}{g:TG}(he:PE X e te)(hg:PG X tg g)(hs:swapsWithSole [tg] e pos.line X.env=pure false:=by rfl)(hw:swappedStores [tg] e X.env=pure none:=by rfl)
  (h1:(assignEach [tg] X.env).map (·.2)=[assign tg X.env]:=by rfl):PS X (.Assign [tg] e pos) (jV te g):=by
 intro zi s σ H D I h;refine wpAny_Assign_stores (thn (he zi s σ H _ I h) fun v s1 ⟨x,H1,I1,r1,q1⟩=>?_) hs hw;rw[h1];exact thn (hg zi s1 σ H1 x v _ I1 r1 q1) fun _ s2 q=>q
theorem zx{i:Nat}{x:Str}{e:Expr}{te:TE}{pos':Pos}(hN:X.N.Nodup)(hi:X.N[i]?=some x)(hx:Loc X.env.scope x)(he:PE X e te)(hs:swapsWith e (some (.Name x pos')) pos.line X.env=pure false:=by rfl)(hf:X.fn x=true\/X.env.scope.names.lookup x=some .local:=by first|exact .inl rfl|exact .inr rfl|assumption):
  PS X (.Assign [.Name x pos'] e pos) (jV te (jO i)):=by
 intro zi s σ H D I h;refine wpAny_Assign_Name (thn (he zi s σ H _ I h) fun v s1 ⟨y,H1,I1,r1,q1⟩=>?_) hs;exact wN I1 hN hi hx r1 (fun s2 I2=>⟨_,H1,I2,q1⟩) hf
end
section
variable {X:Cx}{pos:Pos}
def CK(c:TT)(tb:TS):TS:=fun D σ H=>∃W:Nat->St->Hp->Prop,(∃m,W m σ H)/\∀m σ H,W m σ H ->
 c σ H fun b H1=>if b=true then ∃N:St->Hp->Prop,(∀ σ' H',N σ' H'->∃m',m'<m/\W m' σ' H')/\tb { D with nx:=N,ct:=N,bk:=D.nx } σ H1 else D.nx σ H1
theorem xR{c:Expr}{body:List Stmt}{tc:TT}{tb:TS}(hp:PassesOwn (model X.prog X.w) X.A X.env X.xe)(hc:PT X c tc)(hb:PSs X body tb):PS X (.While c body [] pos) (CK tc tb):=by
 intro zi s σ H D I h;obtain⟨W,⟨m0,w0⟩,q⟩:=h;refine wpAny_While (codeAny_whileLoop (fun n s'=>∃ σ' H',Inv X zi σ' H' s'/\W n σ' H') ?_ m0 ⟨σ,H,I,w0⟩);rintro n s1 ⟨σ1,H1,I1,w1⟩;refine px hp (thn (hc zi s1 σ1 H1 _ I1 (q n σ1 H1 w1)) fun b s2 ⟨H2,I2,q2⟩=>?_);cases b with
 |true=>
  obtain⟨N,hN,q2⟩:=q2;rw[cy rfl];refine px hp (thn (hb zi s2 σ1 H2 _ I2 q2) fun f s3 q3=>?_);cases f with
  |next=>
   obtain⟨σ3,H3,I3,n3⟩:=q3;obtain⟨m',hm,w3⟩:=hN σ3 H3 n3;exact⟨m',hm,σ3,H3,I3,w3⟩
  |cont=>
   obtain⟨σ3,H3,I3,n3⟩:=q3;obtain⟨m',hm,w3⟩:=hN σ3 H3 n3;exact⟨m',hm,σ3,H3,I3,w3⟩
  |brk=>exact q3
  |ret v=>exact q3
 |false=>
  rw[cr gj];exact wpAny_execs_nil ⟨σ1,H2,I2,q2⟩
end
structure It where
 go:Nat->Hp->Prop
 yld:Nat->Hp->V->Hp->Prop
 stop:Nat->Hp->Prop
def FpOk(X:Cx)(zi:List (Addr×Obj))(H:Hp)(b:Addr):Prop:=
 H b=none/\b≠X.env.locals/\b∉X.fs/\(b∈X.ex\/X.s₀.heap.objs.size<=b)/\(∀x c,X.env.cells.lookup x=some c->c≠b)/\∀p∈X.pn++zi,p.1≠b
theorem Inv.fpOk{X:Cx}{zi:List (Addr×Obj)}{σ:St}{H H':Hp}{s:bd}{b:Addr}(I:Inv X zi σ H s)(hb:s.heap.objs.size<=b)(hn:H' b=none):FpOk X zi H' b:=by
 refine⟨hn,uz (fw I.lt hb),I.nofs hb,.inr (gm I.sz hb),fun x c e z=>?_,fun p hp z=>?_⟩
 ·obtain⟨v,q⟩:=I.cell x c e;exact absurd (fw q.lt (by rw[z];exact hb)) (nj _)
 ·exact absurd (fw (fj (I.pin p hp).1) (by rw[z];exact hb)) (nj _)
structure Turn(P:cz)(w:fy)(K:cq)(tg:Expr)(J:It)(fp:List Addr)(it:Addr)(tn:Nat->Heap->Prop):Prop where
 mem:it∈fp
 obj:∀i h,tn i h->∀b∈fp,∃o,h.get? b=some o/\∀v,o.data≠.cell v
 keep:∀i h h',tn i h->(∀b∈fp,∀o,h.get? b=some o->h'.get? b=some o)->tn i h'
 item:∀(X:Cx),X.prog=P->X.w=w->X.K=K->X.calm=true->∀(i:Nat) (zi:List (Addr×Obj)) (s:bd) (σ:St) (H:Hp) (E:bb->bd->Prop),Inv X zi σ H s->(∀b∈fp,FpOk X zi H b)->tn i s.heap->J.go i H ->
  bo (model P w) X.A (nv (.ref it)) (fun r s1=>∃u,r=some u /\
   bo (model P w) X.A (letOwnedTupleGo tg (.ref it) u) (fun _ s2=>∃x H',Inv X zi σ H' s2/\RelV x u/\J.yld i H x H'/\tn (i+1) s2.heap/\∀b∈fp,H' b=none) E s1) E s
 done:∀(X:Cx),X.prog=P->X.w=w->X.K=K->X.calm=true->∀(i:Nat) (zi:List (Addr×Obj)) (s:bd) (σ:St) (H:Hp) (E:bb->bd->Prop),Inv X zi σ H s->(∀b∈fp,FpOk X zi H b)->tn i s.heap->J.stop i H ->
  bo (model P w) X.A (nv (.ref it)) (fun r s1=>r=none/\Inv X zi σ H s1) E s
 self:∀(A:ft) (i:Nat) (s:bd) (Q:bb->bd->Prop) (E:bb->bd->Prop),tn i s.heap->Q (.ref it) s->bo (model P w) A (pyIter (.ref it)) Q E s
abbrev TI:=St->Hp->(It->Hp->Prop)->Prop
def PIE(X:Cx)(zi:List (Addr×Obj))(σ:St)(tg:Expr)(R:It->Hp->Prop)(q:bb)(s2:bd):Prop:=
 ∃(it:Addr) (fp:List Addr) (tn:Nat->Heap->Prop) (J:It) (H':Hp),q=.ref it/\Inv X zi σ H' s2/\Turn X.prog X.w X.K tg J fp it tn/\tn 0 s2.heap/\(∀b∈fp,FpOk X zi H' b)/\R J H'
def PI(X:Cx)(tg iter:Expr)(wi:TI):Prop:=
 ∀(zi:List (Addr×Obj)) (s:bd) (σ:St) (H:Hp) (R:It->Hp->Prop),Inv X zi σ H s->wi σ H R ->
  bo (model X.prog X.w) X.A (eval iter X.env) (fun v s1=>bo (model X.prog X.w) X.A (pyIter v) (PIE X zi σ tg R) X.xe s1) X.xe s
theorem tZ{M:Model}{A:ft}{E:bb->bd->Prop}{s:bd}{tg:Expr}{it:Addr}{u:bb}{o:Obj}{n:String}{vs:Array bb}{Q:Unit->bd->Prop}(ho:s.heap.get? it=some o)(hc:o.cls=.type n)(hd:o.data=.fields vs)
    (hn:["enumerate","zip","dict_itemiterator","dict_reverseitemiterator","odict_iterator","itertools.zip_longest","itertools.pairwise"].contains n=false) (hQ:Q () s):bo M A (letOwnedTupleGo tg (.ref it) u) Q E s:=by
  unfold letOwnedTupleGo;cases tg<;>first
    |exact be hQ
    | (cases u<;>first
        |exact be hQ
        | (refine ba (wpAny_load ho ?_)
           rw[hc,hd];show bo M A (if (["enumerate","zip","dict_itemiterator","dict_reverseitemiterator","odict_iterator","itertools.zip_longest","itertools.pairwise"].contains n&&vs[0]?==some (kh _))=true then _ else _) Q E s;rw[cr (by intro h;rw[hn,Bool.false_and]at h;cases h)];exact be hQ))
def Itl(K:cq)(a:Addr):It:=
 ⟨fun i H=>∃xs x,SqL K H a xs/\xs[i]?=some x,fun i H x H'=>H'=H/\∀xs,SqL K H a xs->xs[i]?=some x,fun i H=>∃xs,SqL K H a xs/\xs.length<=i⟩
def Itt(K:cq)(a:Addr):It:=
 ⟨fun i H=>∃xs x,SqT K H a xs/\xs[i]?=some x,fun i H x H'=>H'=H/\∀xs,SqT K H a xs->xs[i]?=some x,fun i H=>∃xs,SqT K H a xs/\xs.length<=i⟩
def Itr(lo:Int)(n:Nat):It:=⟨fun i _=>i<n,fun i H x H'=>H'=H/\x=.int (lo+i),fun i _=>n<=i⟩
theorem GN{P:cz}{w:fy}{K:cq}{tg:Expr}(a it:Addr):Turn P w K tg (Itl K a) [it] it (fun i h=>h.IsListIter it a i) where
 mem:=by simp
 obj:=fun i h st b hb=>by
  have e:b=it:=by simpa using hb
  subst e;obtain⟨o,e,c,d⟩:=st;exact⟨o,e,fun v z=>by rw[d]at z;cases z⟩
 keep:=fun i h h' st k=>st.at fun o e=>k it yv o e
 item:=by
  intro X hP hw hK hc i zi s σ H E I hf st hg;subst hP hw hK;obtain⟨xs,x,hq,hx⟩:=hg;obtain⟨aa,rv,p,hz⟩:=I.list hq;obtain⟨u,hu,ru⟩:=rv.get hx;obtain⟨f0,f1,f2,f3,f4,f5⟩:=hf it yv;refine wpAny_pyNext_list_item st p.isList (x:=u) (by simpa using hu) fun h' q sb=>?_;have I1:Inv X zi σ H { s with heap:=h' }:=I.turned (t':=s.toks) (fun b o hb e=>(sb.2 b hb).trans e) f0 f1 f3 f4 f5;obtain⟨o,e,c,d⟩:=id q;exact⟨u,rfl,tZ (s:={ s with heap:=h' }) e c d dz ⟨x,H,I1,ru,⟨rfl,fun ys hy=>by rw[I.list_inj hy hq];exact hx⟩,q,fun b hb=>(hf b hb).1⟩⟩
 done:=by
  intro X hP hw hK hc i zi s σ H E I hf st hg;subst hP hw hK;obtain⟨xs,hq,hx⟩:=hg;obtain⟨aa,rv,p,hz⟩:=I.list hq;obtain⟨f0,f1,f2,f3,f4,f5⟩:=hf it yv;have hl:=rv.length;exact wpAny_pyNext_list_end (I.ok.hd hc) st p.isList (by simp;omega) fun h' eb=>⟨rfl,I.turned (t':=s.toks) (fun b o hb e=>eb b o hb e) f0 f1 f3 f4 f5⟩
 self:=fun _ _ _ _ _ st h=>wpAny_pyIter_listiter st h
theorem L6{P:cz}{w:fy}{K:cq}{tg:Expr}(a it:Addr):Turn P w K tg (Itt K a) [it] it (fun i h=>h.IsTupleIter it a i) where
 mem:=by simp
 obj:=fun i h st b hb=>by
  have e:b=it:=by simpa using hb
  subst e;obtain⟨o,e,c,d⟩:=st;exact⟨o,e,fun v z=>by rw[d]at z;cases z⟩
 keep:=fun i h h' st k=>st.at fun o e=>k it yv o e
 item:=by
  intro X hP hw hK hc i zi s σ H E I hf st hg;subst hP hw hK;obtain⟨xs,x,hq,hx⟩:=hg;obtain⟨q,rv,p,hz⟩:=I.tuple hq;obtain⟨u,hu,ru⟩:=rv.get hx;obtain⟨f0,f1,f2,f3,f4,f5⟩:=hf it yv;refine wpAny_pyNext_tuple_item st (show s.heap.IsTuple a q.toArray from p) (x:=u) (by simpa using hu) fun h' aa sb=>?_;have I1:Inv X zi σ H { s with heap:=h' }:=I.turned (t':=s.toks) (fun b o hb e=>(sb.2 b hb).trans e) f0 f1 f3 f4 f5;obtain⟨o,e,c,d⟩:=id aa;exact⟨u,rfl,tZ (s:={ s with heap:=h' }) e c d dz ⟨x,H,I1,ru,⟨rfl,fun ys hy=>by rw[I.tuple_inj hy hq];exact hx⟩,aa,fun b hb=>(hf b hb).1⟩⟩
 done:=by
  intro X hP hw hK hc i zi s σ H E I hf st hg;subst hP hw hK;obtain⟨xs,hq,hx⟩:=hg;obtain⟨q,rv,p,hz⟩:=I.tuple hq;obtain⟨f0,f1,f2,f3,f4,f5⟩:=hf it yv;have hl:=rv.length;exact wpAny_pyNext_tuple_end (I.ok.hd hc) st (show s.heap.IsTuple a q.toArray from p) (by simp;omega) fun h' eb=>⟨rfl,I.turned (t':=s.toks) (fun b o hb e=>eb b o hb e) f0 f1 f3 f4 f5⟩
 self:=fun _ _ _ _ _ st h=>wpAny_pyIter_tupleiter st h
theorem JM{P:cz}{w:fy}{K:cq}{tg:Expr}(it:Addr)(lo:Int)(n:Nat):Turn P w K tg (Itr lo n) [it] it (fun i h=>IsRangeIter h it (lo+(i:Nat)*1) ((n:Int)-(i:Nat)) 1) where
 mem:=by simp
 obj:=fun i h st b hb=>by
  have e:b=it:=by simpa using hb
  subst e;exact⟨_,st,fun v z=>by
   have z':Data.fields _=Data.cell v:=z;cases z'⟩
 keep:=fun i h h' st k=>k it yv _ st
 item:=by
  intro X hP hw hK hc i zi s σ H E I hf st hg;subst hP hw hK;obtain⟨f0,f1,f2,f3,f4,f5⟩:=hf it yv;have W:=Walks.range (prog:=X.prog) (w:=X.w) (I.ok.hd hc) it lo 1 n;refine W.item i s _ _ hg st fun v h' tk hv q kk=>?_;obtain⟨t,rfl⟩:=hv;have I1:Inv X zi σ H { s with heap:=h',toks:=tk }:=I.turned (fun b o hb e=>kk b o (by simpa using hb) e) f0 f1 f3 f4 f5;refine⟨_,rfl,tZ (s:={ s with heap:=h',toks:=tk }) (n:="range_iterator") q rfl rfl dz ⟨.int (lo+i),H,I1,⟨t,?_⟩,⟨rfl,rfl⟩,q,fun b hb=>(hf b hb).1⟩⟩;rw[Int.mul_one]
 done:=by
  intro X hP hw hK hc i zi s σ H E I hf st hg;subst hP hw hK;obtain⟨f0,f1,f2,f3,f4,f5⟩:=hf it yv;exact wpAny_pyNext_range_end (I.ok.hd hc) st (by have:n<=i:=hg;omega) fun h' eb=>⟨rfl,I.turned (t':=s.toks) (fun b o hb e=>eb b o hb e) f0 f1 f3 f4 f5⟩
 self:=fun _ _ _ _ _ st h=>wpAny_pyIter_rangeiter st h
end
section
section
variable {X:Cx}{tg:Expr}
def xO(K:cq)(tl:TE):TI:=fun σ H R=>tl σ H fun x H1=>∃a,x=.ref a/\(∃xs,SqL K H1 a xs)/\R (Itl K a) H1
theorem N6{l:Expr}{tl:TE}(hl:PE X l tl):PI X tg l (xO X.K tl):=by
 intro zi s σ H R I h;refine thn (hl zi s σ H _ I h) fun v s1 ⟨x,H1,I1,r1,q1⟩=>?_;obtain⟨a,e,⟨xs,hq⟩,q⟩:=q1;subst e;cases r1;obtain⟨z,rv,p,hz⟩:=I1.list hq;refine oo p.isList ?_;refine⟨s1.heap.objs.size,[s1.heap.objs.size],_,_,H1,rfl,I1.kept (t':=s1.toks) fun b o e=>bf _ e,GN a _,⟨_,bv _ rfl,rfl,rfl⟩,fun b hb=>?_,q⟩;have e:b=s1.heap.objs.size:=by simpa using hb
 subst e;exact I1.fpOk (dh _) (I1.hok.fresh (dh _))
def lO(wi:TI)(g:TG)(tb:TS):TS:=fun D σ H=>wi σ H fun J H1=>∃W:Nat->Nat->St->Hp->Prop,(∃m,W 0 m σ H1)/\∀i m σ H,W i m σ H ->
 (J.stop i H/\D.nx σ H)\/(J.go i H/\∃N:St->Hp->Prop,(∀ σ' H',N σ' H'->∃m',m'<m/\W (i+1) m' σ' H')/\∀x H',J.yld i H x H'->g x σ H' fun σ2 H2=>tb { D with nx:=N,ct:=N,bk:=D.nx } σ2 H2)
def sE(fp:List Addr)(h:Heap):List (Addr×Obj):=fp.filterMap fun b=>(h.get? b).map fun o=>(b,o)
theorem sJ{fp:List Addr}{h:Heap}{b:Addr}{o:Obj}(hb:b∈fp)(e:h.get? b=some o):(b,o)∈sE fp h:=List.mem_filterMap.mpr ⟨b,hb,by rw[e];rfl⟩
theorem OR{fp:List Addr}{h:Heap}{p:Addr×Obj}(hp:p∈sE fp h):p.1∈fp/\h.get? p.1=some p.2:=by
 obtain⟨b,hb,e⟩:=List.mem_filterMap.mp hp;cases q:h.get? b with
 |none=>rw[q]at e;cases e
 |some o=>
  rw[q]at e;have e':(b,o)=p:=ic e;subst e';exact⟨hb,q⟩
theorem Inv.pinned{zi:List (Addr×Obj)}{σ:St}{H:Hp}{s:bd}{fp:List Addr}(I:Inv X zi σ H s)(hf:∀b∈fp,FpOk X zi H b)(ho:∀b∈fp,∃o,s.heap.get? b=some o/\∀v,o.data≠.cell v):Inv X (zi++sE fp s.heap) σ H s:=
 I.pins_of fun p hp=>(mem_append.mp hp).elim (fun z=>I.pin p (cw _ z)) fun z=>by
  obtain⟨hb,e⟩:=OR z;obtain⟨f0,f1,f2,_⟩:=hf p.1 hb;obtain⟨o,e',d⟩:=ho p.1 hb;rw[e]at e';cases e';exact⟨e,f0,f1,f2,d⟩
theorem Inv.unpinned{zi pl:List (Addr×Obj)}{σ:St}{H:Hp}{s:bd}(I:Inv X (zi++pl) σ H s):Inv X zi σ H s:=I.pins_of fun p hp=>I.pin p (cw _ (cu _ hp))
theorem cV{iter:Expr}{body:List Stmt}{wi:TI}{g:TG}{tb:TS}{pos:Pos}(hp:PassesOwn (model X.prog X.w) X.A X.env X.xe)(hc:X.calm=true)(hi:PI X tg iter wi)(hg:PG X tg g)(hb:PSs X body tb)
  (hs:∀x,foldedSetIterable iter X.env x=pure x:=by intro _;rfl):PS X (.For tg iter body [] pos) (lO wi g tb):=by
 intro zi s σ H D I h;refine wpAny_For (thn (hi zi s σ H _ I h) fun v s1 h1=>thn h1 fun ah s2 h2=>?_) hs;obtain⟨it,fp,tn,J,H2,e,I2,T,ag,f2,W,⟨m0,w0⟩,ac⟩:=h2;subst e
 have z:∀{H':Hp},(∀b∈fp,H' b=none)->∀b∈fp,FpOk X zi H' b:=fun hn b hb=>⟨hn b hb,(f2 b hb).2⟩;refine codeAny_forLoop_any (fun n s'=>∃i σ' H',Inv X zi σ' H' s'/\tn i s'.heap/\(∀b∈fp,H' b=none)/\W i n σ' H') ?_ m0 ⟨0,σ,H2,I2,ag,fun b hb=>(f2 b hb).1,w0⟩;rintro n s3 ⟨i,σ3,H3,I3,ab,ae,w3⟩;rcases ac i n σ3 H3 w3 with ⟨stop,qn⟩|⟨go,N,hN,step⟩
 ·refine px hp (thn (T.done X rfl rfl rfl hc i zi s3 σ3 H3 X.xe I3 (z ae) ab stop) fun r s4 ⟨hr,I4⟩=>?_);subst hr;exact wpAny_execs_nil ⟨σ3,H3,I4,qn⟩
 ·refine px hp (thn (T.item X rfl rfl rfl hc i zi s3 σ3 H3 X.xe I3 (z ae) ab go) fun r s4 ⟨u,hr,h4⟩=>?_);subst hr;refine px hp (thn h4 fun _ s5 ⟨x,H5,I5,r5,y5,aa,af⟩=>?_);have I5':=I5.pinned (z af) (T.obj _ _ aa);refine px hp (thn (hg _ s5 σ3 H5 x u _ I5' r5 (step x H5 y5)) fun _ s6 ⟨σ6,H6,I6,q6⟩=>?_);refine px hp (thn (hb _ s6 σ6 H6 _ I6 q6) fun f s7 q7=>?_);have q:∀{σ7:St}{H7:Hp},Inv X (zi++sE fp s5.heap) σ7 H7 s7->N σ7 H7->∃m,m<n/\∃i σ' H',Inv X zi σ' H' s7/\tn i s7.heap/\(∀b∈fp,H' b=none)/\W i m σ' H':=fun {σ7 H7} I7 n7=>by
   obtain⟨m',hm,w7⟩:=hN σ7 H7 n7;refine⟨m',hm,i+1,σ7,H7,I7.unpinned,T.keep _ _ _ aa fun b hb o e=>(I7.pin (b,o) (cw _ (cw _ (sJ hb e)))).1,fun b hb=>?_,w7⟩;obtain⟨o,e,d⟩:=T.obj _ _ aa b hb;exact(I7.pin (b,o) (cw _ (cw _ (sJ hb e)))).2.1
  cases f with
  |next=>obtain⟨σ7,H7,I7,n7⟩:=q7;exact q I7 n7
  |cont=>obtain⟨σ7,H7,I7,n7⟩:=q7;exact q I7 n7
  |brk=>obtain⟨σ7,H7,I7,q7⟩:=q7;exact⟨σ7,H7,I7.unpinned,q7⟩
  |ret v=>obtain⟨x7,σ7,H7,I7,r7,q7⟩:=q7;exact⟨x7,σ7,H7,I7.unpinned,r7,q7⟩
end
theorem Ll{K:cq}{a:Addr}{xs:List V}{g:TG}{tb:TS}{D:Ends}{σ:St}{H:Hp}(Pv:Nat->St->Hp->Prop)(h0:Pv 0 σ H)(hl:∀i σ H,i<=xs.length->Pv i σ H->SqL K H a xs)
  (hs:∀i x σ H,xs[i]?=some x->Pv i σ H->g x σ H fun σ2 H2=>tb { D with nx:=Pv (i+1),ct:=Pv (i+1),bk:=D.nx } σ2 H2) (hd:∀ σ H,Pv xs.length σ H->D.nx σ H):
  ∃W:Nat->Nat->St->Hp->Prop,(∃m,W 0 m σ H)/\∀i m σ H,W i m σ H ->
   ((Itl K a).stop i H/\D.nx σ H)\/((Itl K a).go i H/\∃N:St->Hp->Prop,(∀ σ' H',N σ' H'->∃m',m'<m/\W (i+1) m' σ' H')/\∀x H',(Itl K a).yld i H x H'->g x σ H' fun σ2 H2=>tb { D with nx:=N,ct:=N,bk:=D.nx } σ2 H2):=by
 refine⟨fun i m σ H=>m=xs.length-i/\i<=xs.length/\Pv i σ H,⟨xs.length,yv,lh _,h0⟩,?_⟩;rintro i m σ H ⟨rfl,hi,p⟩;have q:=hl i σ H hi p;by_cases hlt:i<xs.length
 ·refine .inr ⟨⟨xs,xs[i],q,by simp[hlt]⟩,Pv (i+1),fun σ' H' p'=>⟨xs.length-(i+1),yw,rfl,hlt,p'⟩,fun x H' y=>?_⟩;obtain⟨e,y⟩:=y;subst e;exact hs i x σ _ (y xs q) p
 ·have e:i=xs.length:=yw
  subst e;exact .inl ⟨⟨xs,q,dh _⟩,hd σ H p⟩
end
section
abbrev R2:=V->V->Hp->VK->Prop
def OpR(X:Cx)(f:bb->bb->Sem bb)(r:R2):Prop:=
 ∀(zi:List (Addr×Obj)) (s:bd) (σ:St) (H:Hp) (x y:V) (v u:bb) (Q:VK),Inv X zi σ H s->RelV x v->RelV y u->r x y H Q ->
  bo (model X.prog X.w) X.A (f v u) (EP X zi σ Q) X.xe s
def UnR(X:Cx)(f:bb->Sem bb)(r:V->Hp->VK->Prop):Prop:=
 ∀(zi:List (Addr×Obj)) (s:bd) (σ:St) (H:Hp) (x:V) (v:bb) (Q:VK),Inv X zi σ H s->RelV x v->r x H Q ->
  bo (model X.prog X.w) X.A (f v) (EP X zi σ Q) X.xe s
def CallR(X:Cx)(f:bb)(r:List V->Hp->VK->Prop):Prop:=
 ∀(zi:List (Addr×Obj)) (s:bd) (σ:St) (H:Hp) (xs:List V) (us:List bb) (Q:VK),Inv X zi σ H s->Vals xs us->r xs H Q ->
  bo (model X.prog X.w) X.A (call f us) (EP X zi σ Q) X.xe s
def TruR(X:Cx)(r:V->Hp->(Bool->Hp->Prop)->Prop):Prop:=
 ∀(zi:List (Addr×Obj)) (s:bd) (σ:St) (H:Hp) (x:V) (v:bb) (Q:Bool->Hp->Prop),Inv X zi σ H s->RelV x v->r x H Q ->
  bo (model X.prog X.w) X.A (truthy v) (TP X zi σ Q) X.xe s
def tOp(r:R2)(ta tb:TE):TE:=fun σ H Q=>ta σ H fun x H1=>tb σ H1 fun y H2=>r x y H2 Q
def tUn(r:V->Hp->VK->Prop)(ta:TE):TE:=fun σ H Q=>ta σ H fun x H1=>r x H1 Q
def rI(C:Int->Int->Prop)(g:Int->Int->V):R2:=fun x y H Q=>∃i j,x=.int i/\y=.int j/\C i j/\Q (g i j) H
def rI0(g:Int->Int->V):R2:=fun x y H Q=>∃i j,x=.int i/\y=.int j/\Q (g i j) H
def rU(g:Int->V):V->Hp->VK->Prop:=fun x H Q=>∃i,x=.int i/\Q (g i) H
section
variable {X:Cx}{a b c:Expr}{ta tb tc:TE}{pos:Pos}
theorem wR(ha:PE X a ta)(hb:PE X b tb){zi:List (Addr×Obj)}{s:bd}{σ:St}{H:Hp}{R:V->V->Hp->Prop}(I:Inv X zi σ H s)
  (h:ta σ H fun x H1=>tb σ H1 fun y H2=>R x y H2) {Q:bb->bd->Prop}{f:bb->bb->Sem bb}
  (hf:∀v u s2 x y H2,Inv X zi σ H2 s2->RelV x v->RelV y u->R x y H2->bo (model X.prog X.w) X.A (f v u) Q X.xe s2):
  bo (model X.prog X.w) X.A (eval a X.env) (fun v s₁=>bo (model X.prog X.w) X.A (eval b X.env) (fun u s₂=>bo (model X.prog X.w) X.A (f v u) Q X.xe s₂) X.xe s₁) X.xe s:=by
 refine thn (ha zi s σ H _ I h) fun v s1 ⟨x,H1,I1,r1,q1⟩=>?_;refine thn (hb zi s1 σ H1 _ I1 q1) fun u s2 ⟨y,H2,I2,r2,q2⟩=>?_;exact hf v u s2 x y H2 I2 r1 r2 q2
theorem zO{op:Operator}{r:R2}(ho:OpR X (on op) r)(ha:PE X a ta)(hb:PE X b tb):PE X (.BinOp a op b pos) (tOp r ta tb):=by
 intro zi s σ H Q I h;exact wpAny_BinOp (wR ha hb I h fun v u s2 x y H2 I2 rx ry q=>ho zi s2 σ H2 x y v u Q I2 rx ry q)
theorem oH{op:UnaryOp}{r:V->Hp->VK->Prop}(ho:UnR X (unaryOp op) r)(ha:PE X a ta):PE X (.UnaryOp op a pos) (tUn r ta):=by
 intro zi s σ H Q I h;exact UnaryOp_ (thn (ha zi s σ H _ I h) fun v s1 ⟨x,H1,I1,r1,q1⟩=>ho zi s1 σ H1 x v Q I1 r1 q1)
theorem opI{f:bb->bb->Sem bb}{C:Int->Int->Prop}{g:Int->Int->Int}
  (rule:∀(i j:Int) (t u:Tok) (s:bd) (Q:bb->bd->Prop) (E:bb->bd->Prop),C i j->Q (.int (g i j) s.toks) { s with toks:=s.toks+1 }->bo (model X.prog X.w) X.A (f (.int i t) (.int j u)) Q E s):
  OpR X f (rI C fun i j=>.int (g i j)):=by
 intro zi s σ H x y v u Q I rx ry h;obtain⟨i,j,rfl,rfl,hc,q⟩:=h;obtain⟨t,rfl⟩:=rx;obtain⟨t',rfl⟩:=ry;exact rule i j t t' s _ _ hc ⟨.int (g i j),H,I.tok _,⟨_,rfl⟩,q⟩
theorem Bs{f:bb->bb->Sem bb}{g:Int->Int->Int}
  (rule:∀(i j:Int) (t u:Tok) (s:bd) (Q:bb->bd->Prop) (E:bb->bd->Prop),Q (.int (g i j) s.toks) { s with toks:=s.toks+1 }->bo (model X.prog X.w) X.A (f (.int i t) (.int j u)) Q E s):
  OpR X f (rI0 fun i j=>.int (g i j)):=by
 intro zi s σ H x y v u Q I rx ry h;obtain⟨i,j,rfl,rfl,q⟩:=h;obtain⟨t,rfl⟩:=rx;obtain⟨t',rfl⟩:=ry;exact rule i j t t' s _ _ ⟨.int (g i j),H,I.tok _,⟨_,rfl⟩,q⟩
theorem tQ{f:bb->bb->Sem bb}{g:Int->Int->Bool}
  (rule:∀(i j:Int) (t u:Tok) (s:bd) (Q:bb->bd->Prop) (E:bb->bd->Prop),Q (.bool (g i j)) s->bo (model X.prog X.w) X.A (f (.int i t) (.int j u)) Q E s):
  OpR X f (rI0 fun i j=>.bl (g i j)):=by
 intro zi s σ H x y v u Q I rx ry h;obtain⟨i,j,rfl,rfl,q⟩:=h;obtain⟨t,rfl⟩:=rx;obtain⟨t',rfl⟩:=ry;exact rule i j t t' s _ _ ⟨.bl (g i j),H,I,rfl,q⟩
def CDivN(i j:Int):Prop:=j≠0/\j.natAbs<1073741824
def CPow(i j:Int):Prop:=0<=j/\j<=1000000/\i.natAbs<2 ^ 64
theorem Im:OpR X (on .Add) (rI0 fun i j=>.int (i+j)):=Bs fun _ _ _ _ _ _ _ q=>add_int q
theorem fY:OpR X (on .Sub) (rI0 fun i j=>.int (i-j)):=Bs fun _ _ _ _ _ _ _ q=>sub_int q
theorem Gf:OpR X (on .FloorDiv) (rI CDivN fun i j=>.int (i.fdiv j)):=opI fun _ _ _ _ _ _ _ hc q=>floordiv_int hc.1 q (.inl (PyProof.noPylong_small hc.2))
theorem h9:OpR X (on .Mod) (rI (fun _ j=>0<j) fun i j=>.int (i % j)):=opI fun i j _ _ _ _ _ hc q=>by
 have h1:(0:Int)<j:=hc;exact mod_int' yw (by rw[Int.fmod_eq_emod_of_nonneg i yw];exact q)
theorem uD:OpR X (on .Pow) (rI CPow fun i j=>.int (i ^ j.toNat)):=opI fun _ _ _ _ _ _ _ hc q=>pow_int_small hc.1 hc.2.1 hc.2.2 q
theorem unI{f:bb->Sem bb}{g:Int->Int}
  (rule:∀(i:Int) (t:Tok) (s:bd) (Q:bb->bd->Prop) (E:bb->bd->Prop),Q (.int (g i) s.toks) { s with toks:=s.toks+1 }->bo (model X.prog X.w) X.A (f (.int i t)) Q E s):
  UnR X f (rU fun i=>.int (g i)):=by
 intro zi s σ H x v Q I rx h;obtain⟨i,rfl,q⟩:=h;obtain⟨t,rfl⟩:=rx;exact rule i t s _ _ ⟨.int (g i),H,I.tok _,⟨_,rfl⟩,q⟩
theorem qT:UnR X (unaryOp .USub) (rU fun i=>.int (-i)):=unI fun _ _ _ _ _ q=>neg_int q
end
section
variable {X:Cx}{a b c:Expr}{ta tb tc:TE}{pos:Pos}
theorem vC{zi:List (Addr×Obj)}{σ:St}{H:Hp}{s:bd}{Q:VK}{k k':Bool}(I:Inv X zi σ H s)(q:Q (.bl k) H)(e:k=k'):EP X zi σ Q (.bool k') s:=by
 subst e;exact⟨.bl k,H,I,rfl,q⟩
theorem v4:OpR X (ir .Lt) (rI0 fun i j=>.bl (decide (i<j))):=tQ fun _ _ _ _ _ _ _ q=>lt_int q
theorem jE:OpR X (ir .LtE) (rI0 fun i j=>.bl (decide (i<=j))):=tQ fun _ _ _ _ _ _ _ q=>le_int q
theorem uZ:OpR X (ir .Gt) (rI0 fun i j=>.bl (decide (j<i))):=tQ fun _ _ _ _ _ _ _ q=>gt_int q
theorem LC:OpR X (ir .GtE) (rI0 fun i j=>.bl (decide (j<=i))):=tQ fun _ _ _ _ _ _ _ q=>ge_int q
theorem Nr:OpR X (ir .In) (fun x y H Q=>∃i j,x=.str i/\y=.str j/\Q (.bl (!(ls j i 0 j.length 1).isEmpty)) H):=by
 intro zi s σ H x y v u Q I rx ry h;obtain⟨i,j,rfl,rfl,q⟩:=h;obtain⟨t,rfl⟩:=rx;obtain⟨t',rfl⟩:=ry;exact in_str (vC I q rfl)
theorem LG:OpR X (ir .Is) (fun x y H Q=>y=.non/\Q (.bl (decide (x=.non))) H):=by
 intro zi s σ H x y v u Q I rx ry h;obtain⟨rfl,q⟩:=h;cases ry;refine is_none_gen (vC I q ?_);cases x<;>first
  | (cases rx;rfl)
  | (obtain⟨t,rfl⟩:=rx;rfl)
theorem MF:OpR X (ir .IsNot) (fun x y H Q=>y=.non/\Q (.bl (!decide (x=.non))) H):=by
 intro zi s σ H x y v u Q I rx ry h;obtain⟨rfl,q⟩:=h;cases ry;refine isnot_none_gen (vC I q ?_);cases x<;>first
  | (cases rx;rfl)
  | (obtain⟨t,rfl⟩:=rx;rfl)
theorem Nk:OpR X (ir .NotIn) (fun x y H Q=>∃i j,x=.str i/\y=.str j/\Q (.bl (!(!(ls j i 0 j.length 1).isEmpty))) H):=by
 intro zi s σ H x y v u Q I rx ry h;obtain⟨i,j,rfl,rfl,q⟩:=h;obtain⟨t,rfl⟩:=rx;obtain⟨t',rfl⟩:=ry;exact notIn_str (vC I q rfl)
theorem OpR.or{f:bb->bb->Sem bb}{r r':R2}(h:OpR X f r)(h':OpR X f r'):OpR X f (fun x y H Q=>r x y H Q\/r' x y H Q):=by
 intro zi s σ H x y v u Q I rx ry q;rcases q with q|q
 ·exact h zi s σ H x y v u Q I rx ry q
 ·exact h' zi s σ H x y v u Q I rx ry q
theorem nomark(b:Expr){op:CmpOp}(h:op≠.In:=by decide)(h2:op≠.NotIn:=by decide):behindInMarks op b=false:=by
 have e1:(op==CmpOp.In)=false:=by cases op<;>first|rfl|exact absurd rfl h
 have e2:(op==CmpOp.NotIn)=false:=by cases op<;>first|rfl|exact absurd rfl h2
 cases b<;>simp[behindInMarks,e1,e2]
theorem dW{op:CmpOp}{r:R2}(ho:OpR X (ir op) r)(ha:PE X a ta)(hb:PE X b tb)(hm:behindInMarks op b=false):PE X (.Compare a [op] [b] pos) (tOp r ta tb):=by
 intro zi s σ H Q I h;exact wpAny_Compare1 (wR ha hb I h fun v u s2 x y H2 I2 rx ry q=>ho zi s2 σ H2 x y v u Q I2 rx ry q) hm
def oY(t:TE):TT:=fun σ H Q=>t σ H fun x H'=>∃k,x=.bl k/\Q k H'
theorem zR{op:CmpOp}{r:R2}(ho:OpR X (ir op) r)(ha:PE X a ta)(hb:PE X b tb)(hm:behindInMarks op b=false):PT X (.Compare a [op] [b] pos) (oY (tOp r ta tb)):=by
 intro zi s σ H Q I h;refine wpAny_isTrue_Compare1 (thn (ha zi s σ H _ I h) fun v s1 ⟨x,H1,I1,r1,q1⟩=>thn (hb zi s1 σ H1 _ I1 q1) fun u s2 ⟨y,H2,I2,r2,q2⟩=>
  thn (ho zi s2 σ H2 x y v u _ I2 r1 r2 q2) fun c s3 ⟨z,H3,I3,r3,k,e,q3⟩=>?_) hm
 subst e;cases r3;exact ji ⟨H3,I3,q3⟩
def wF(r r':R2)(ta tb tc:TE):TE:=fun σ H Q=>ta σ H fun x H1=>tb σ H1 fun y H2=>r x y H2 fun z H3=>∃k,z=.bl k /\
 (if k=true then tc σ H3 fun w' H4=>r' y w' H4 Q else Q (.bl false) H3)
theorem GH{op q:CmpOp}{r r':R2}(ho:OpR X (ir op) r)(aa:OpR X (ir q) r')(ha:PE X a ta)(hb:PE X b tb)(hc:PE X c tc)
  (hm:lastMarks [op,q] [b,c]=false:=by with_unfolding_all rfl):PE X (.Compare a [op,q] [b,c] pos) (wF r r' ta tb tc):=by
 intro zi s σ H Q I h;refine Compare_chain (thn (ha zi s σ H _ I h) fun v s1 ⟨x,H1,I1,r1,q1⟩=>chain_link (thn (hb zi s1 σ H1 _ I1 q1) fun u s2 ⟨y,H2,I2,r2,q2⟩=>
  thn (ho zi s2 σ H2 x y v u _ I2 r1 r2 q2) fun d s3 ⟨z,H3,I3,r3,k,e,q3⟩=>?_)) hm
 subst e;cases r3;refine ji ?_;cases k with
 |false=>exact ite_ff ⟨.bl false,H3,I3,rfl,q3⟩
 |true=>exact ite_tt (chain_last (thn (hc zi s3 σ H3 _ I3 q3) fun w' s4 ⟨z',H4,I4,r4,q4⟩=>aa zi s4 σ H4 y z' u w' Q I4 r2 r4 q4))
theorem GB{op q:CmpOp}{r r':R2}(ho:OpR X (ir op) r)(aa:OpR X (ir q) r')(ha:PE X a ta)(hb:PE X b tb)(hc:PE X c tc)
  (hm:lastMarks [op,q] [b,c]=false:=by with_unfolding_all rfl):PT X (.Compare a [op,q] [b,c] pos) (oY (wF r r' ta tb tc)):=by
 intro zi s σ H Q I h;refine isTrue_chain (thn (ha zi s σ H _ I h) fun v s1 ⟨x,H1,I1,r1,q1⟩=>test_link (thn (hb zi s1 σ H1 _ I1 q1) fun u s2 ⟨y,H2,I2,r2,q2⟩=>
  thn (ho zi s2 σ H2 x y v u _ I2 r1 r2 q2) fun d s3 ⟨z,H3,I3,r3,k,e,q3⟩=>?_)) hm
 subst e;cases r3;refine ji ?_;cases k with
 |false=>
  obtain⟨k',e',q'⟩:=q3;cases e';exact ite_ff ⟨H3,I3,q'⟩
 |true=>
  refine ite_tt (test_last (thn (hc zi s3 σ H3 _ I3 q3) fun w' s4 ⟨z',H4,I4,r4,q4⟩=>thn (aa zi s4 σ H4 y z' u w' _ I4 r2 r4 q4) fun d' s5 ⟨z2,H5,I5,r5,k2,e2,q5⟩=>?_));subst e2;cases r5;exact ji ⟨H5,I5,q5⟩
def TruV(K:cq)(x:V)(H:Hp)(k:Bool):Prop:=
 match x with
 | .non=>k=false
 | .bl b=>k=b
 | .int i=>k=(i != 0)
 | .str y=>y.length<=dn/\k=((y.length:Int) != 0)
 | .byt y=>y.size<=dn/\k=((y.size:Int) != 0)
 | .ref p=>(∃xs,SqL K H p xs/\k=!xs.isEmpty)\/(∃xs,SqT K H p xs/\k=!xs.isEmpty)\/∃kvs,H p=some (.dK kvs)/\k=!kvs.isEmpty
 |_=>False
theorem Mx{κ:Type}{q:List (κ×V)}{vs:List (κ×bb)}(r:KV q vs):(!vs.isEmpty)=!q.isEmpty:=by
 cases r<;>rfl
theorem B9{xs:List V}{q:List bb}(r:Vals xs q):(!q.toArray.isEmpty)=!xs.isEmpty:=by
 cases r<;>simp
theorem line63:(dn:Nat)<2 ^ 63:=by rw[nq];decide
theorem JA:TruR X (fun x H Q=>∃k,TruV X.K x H k/\Q k H):=by
 intro zi s σ H x v Q I rx h;obtain⟨k,e,q⟩:=h;have hl:=line63;have hs:dn=16777216:=nq;cases x with
 |non=>
  cases rx;have e':k=false:=e;subst e';exact truthy_none ⟨H,I,q⟩
 |bl b=>
  cases rx;have e':k=b:=e;subst e';exact ji ⟨H,I,q⟩
 |int i=>
  obtain⟨t,rfl⟩:=rx;have e':k=(i != 0):=e;subst e';exact PySem.P.truthy_int ⟨H,I,q⟩
 |str y=>
  obtain⟨t,rfl⟩:=rx;obtain⟨hy,e'⟩:y.length<=dn/\k=((y.length:Int) != 0):=e;subst e';exact PySem.P.truthy_str yw ⟨H,I.tok _,q⟩
 |byt y=>
  obtain⟨t,rfl⟩:=rx;obtain⟨hy,e'⟩:y.size<=dn/\k=((y.size:Int) != 0):=e;subst e';exact W.truthy_bytes yw ⟨H,I.tok _,q⟩
 |ref p=>
  cases rx;have e':(∃xs,SqL X.K H p xs/\k=!xs.isEmpty)\/(∃xs,SqT X.K H p xs/\k=!xs.isEmpty)\/∃kvs,H p=some (.dK kvs)/\k=!kvs.isEmpty:=e;rcases e' with ⟨xs,hx,e'⟩|⟨xs,hx,e'⟩|⟨kvs,hx,e'⟩
  ·subst e';obtain⟨aa,r,pl,hz⟩:=I.list hx;have z:=r.length;exact wpAny_truthy_list pl.isList (by simp only[fk];omega) ⟨H,I.tok _,by rw[B9 r];exact q⟩
  ·subst e';obtain⟨aa,r,pl,hz⟩:=I.tuple hx;have z:=r.length;exact truthy_tuple pl (by simp only[fk];omega) ⟨H,I.tok _,by rw[B9 r];exact q⟩
  ·subst e';obtain⟨hz,hS,vs,r,m⟩:kvs.length<=dn/\(p==jt)=false/\∃vs,KV kvs vs/\s.heap.DictOf (fM X.prog X.w) p vs:=I.hok p _ hx;have z:kvs.length=vs.length:=Paired.length r;exact wpAny_truthy_dict hS m yw ⟨H,I.tok _,by rw[Mx r];exact q⟩
 |_=>exact(show False from e).elim
theorem zM(ha:PE X a ta)(he:∀whole,isTrue a X.env whole=(do let v <- whole;standAt a.pos;holding [v] (truthy v))):
  PT X a (fun σ H Q=>ta σ H fun x H'=>∃k,TruV X.K x H' k/\Q k H'):=by
 intro zi s σ H Q I h;exact isTrue_plain (thn (ha zi s σ H _ I h) fun v s1 ⟨x,H1,I1,r1,q1⟩=>JA zi s1 σ H1 x v Q I1 r1 q1) (he _)
theorem Je:OpR X (on .Add) (fun x y H Q=>∃i j,x=.str i/\y=.str j/\i.length+j.length<=dn/\Q (.str (i++j)) H):=by
 intro zi s σ H x y v u Q I rx ry h;obtain⟨i,j,rfl,rfl,hz,q⟩:=h;obtain⟨t,rfl⟩:=rx;obtain⟨t',rfl⟩:=ry;exact add_str (fun t' tk=>⟨.str (i++j),H,I.tok _,⟨_,rfl⟩,q⟩) hz
theorem vals1{x:V}{us:List bb}(r:Vals [x] us):∃u,us=[u]/\RelV x u:=by
 cases r with
 |cons r1 r2=>cases r2;exact⟨_,rfl,r1⟩
theorem vals2{x y:V}{us:List bb}(r:Vals [x,y] us):∃u w',us=[u,w']/\RelV x u/\RelV y w':=by
 cases r with
 |cons r1 r2=>
  cases r2 with
  |cons r3 r4=>cases r4;exact⟨_,_,rfl,r1,r3⟩
theorem GF(hc:X.calm=true):CallR X (.builtin "max") (fun xs H Q=>∃i j,xs=[.int i,.int j]/\Q (.int (if j>i then j else i)) H):=by
 intro zi s σ H xs us Q I r h;obtain⟨i,j,rfl,q⟩:=h;obtain⟨u,w',rfl,⟨t,rfl⟩,⟨t',rfl⟩⟩:=vals2 r;refine max_two_ints (I.ok.hd hc) fun h' tk k=>⟨_,H,I.kept k,?_,q⟩;by_cases hj:j>i
 ·rw[cy hj,cy hj];exact⟨_,rfl⟩
 ·rw[cr hj,cr hj];exact⟨_,rfl⟩
theorem Lj:CallR X (.type "int") (fun xs H Q=>(∃i,xs=[.int i]/\Q (.int i) H)\/∃k,xs=[.bl k]/\Q (.int (if k then 1 else 0)) H):=by
 intro zi s σ H xs us Q I r h;rcases h with ⟨i,rfl,q⟩|⟨k,rfl,q⟩
 ·obtain⟨u,rfl,t,rfl⟩:=vals1 r;exact call_int_int ⟨.int i,H,I,⟨_,rfl⟩,q⟩
 ·obtain⟨u,rfl,r1⟩:=vals1 r;cases r1;exact call_int_bool ⟨.int (if k then 1 else 0),H,I.tok _,⟨_,rfl⟩,q⟩
end
end
section
structure ObjM(h:Heap)(x dx C:Addr)(mA:Str->Option bb):Prop where
 obj:h.get? x=some (vj C dx)
 ns:h.Ns1 dx mA
 ne:dx≠x
theorem Jg{h:Heap}{dx:Addr}{mA:Str->Option bb}(n:h.Ns1 dx mA):∃od,h.get? dx=some od/\∀name,W.lookIn name od=some (mA name):=by
 obtain⟨o,es,ep,ho,hd,hk,_,hm⟩:=n;refine⟨o,ho,fun name=>?_⟩;have e:=hm name;unfold nsFind findBy at e;rw[<- Array.find?_toList]at e;unfold W.lookIn;rw[hd];dsimp only;split
 ·rename_i y q;rw[q]at e;exact congrArg some e
 ·rename_i q;rw[q]at e;have a:es.toList.any (·.refKey)=false:=by
   rw[any_eq_false];intro y hy;obtain⟨z,t,aa⟩:=hk y (Array.mem_toList_iff.mp hy);simp[DictEntry.refKey,aa]
  have a':¬ es.toList.any (·.refKey)=true:=by rw[a];exact gj
  rw[cr a'];exact congrArg some e
theorem ObjM.look{h:Heap}{x dx C:Addr}{mA:Str->Option bb}(I:ObjM h x dx C mA):∃od,W.InstAt h x (vj C dx) C (some od)/\∀name,W.lookIn name od=some (mA name):=
 let ⟨od,ho,hl⟩:=Jg I.ns
 ⟨od,⟨I.obj,rfl,rfl,ho⟩,hl⟩
section
variable {prog:cz}{w:fy}{A:ft}{E:bb->bd->Prop}{s:bd}{K:cq}{x dx C f:Addr}{mA:Str->Option bb}{name:Str}{v:bb}
theorem eL{q:Bool}{Q:bb->bd->Prop}(X:K.In s.heap)(I:ObjM s.heap x dx C mA)(hg:W.plainGet K C name=true)(hh:W.hasDictIn K C=true)
  (ha:rn K (.ref C) name=some none) (hv:mA name=some v) (hv':W.handedIn v=true) (h:Q v { s with toks:=s.toks+1 }):
  bo (model prog w) A (getAttr (.ref x) name q) Q E s:=by
 obtain⟨od,J,hl⟩:=I.look;exact W.get_value X J (W.plainGet_of hg).1 (W.findObj_own hh ha rfl (by rw[hl,hv])) hv' h
theorem Gi{pl:Sem Bool}{Q:bb×List bb->bd->Prop}(X:K.In s.heap)(I:ObjM s.heap x dx C mA)(hg:W.plainGet K C name=true)
  (hf:rn K (.ref C) name=some (some (.ref f))) (ht:W.isFn K (.ref f)=true) (hv:mA name=none) (h:Q (.ref f,[.ref x]) s):
  bo (model prog w) A (getMethod (.ref x) name pl) Q E s:=by
 obtain⟨od,J,hl⟩:=I.look;exact W.method_fn X J (W.plainGet_of hg).1 (W.plainGet_of hg).2 hf (beq_iff_eq.mp ht) (by show (W.lookIn name od).map (·.isSome)=some false;rw[hl,hv];rfl) h
theorem Gs{ns:List Str}{Q:Unit->bd->Prop}(X:K.In s.heap)(I:ObjM s.heap x dx C mA)
  (hs:rn K (.ref C) "__setattr__" = some (some (.builtin "object.__setattr__"))) (hp:W.plainOver K C=true) (ht:W.takerIn K C name=some none) (hh:W.hasDictIn K C=true)
  (hw:PySem.Within mA ns) (hsz:ns.length<=dn)
  (h:∀h',ObjM h' x dx C (fun y=>if y=name then some v else mA y)->fg dx s.heap h'->Q () { s with heap:=h',toks:=s.toks+2 }):
  bo (model prog w) A (setAttr (.ref x) name v) Q E s:=by
 obtain⟨od,J,hl⟩:=I.look;refine W.set_plain X J hs (W.osa_open (s:={ s with toks:=s.toks+1 }) (r:=none) X J hp ht fun b=>?_);obtain⟨cd,hc,ab⟩:=W.any_some hh;have hx:s.heap.get? x=some ⟨.ref C,some dx,.plain,#[]⟩:=I.obj;refine ba (be (ba (ba (wpAny_loadPart hx (ba (W.Looks.here (s:={ s with toks:=s.toks+1 }) (W.looks_clsIn X hc) ?_))))));rw[ab];refine be (a:=some dx) (ba (be (ba ?_)));refine wpAny_nsSet1 (s:={ s with toks:=s.toks+1 }) I.ns fun h' q z=>?_;obtain⟨oD,ae,epD,ac,hdD,aa⟩:=q.count (PySem.Within.cons name v hw);refine ba (wpAny_lookBehind ac (by rw[hdD];exact pastItsLine_dict (gm aa (by rw[cx];omega))) ?_);exact be (h _ ⟨(z.2 _ (gq I.ne)).trans I.obj,q,I.ne⟩ z)
theorem N2{R:Result->bd->Prop}{vs:List bb}{kw:List (Str×bb)}(X:K.In s.heap)(hm:W.makesIn K C=true)
  (hi:rn K (.ref C) "__init__" = some (some (.ref f))) (hf:W.typeIn K (.ref f)=some (.type "function"))
  (h:ol (model prog w) (A.under (.builtin "type.__call__" ⟨.ref C::vs,kw⟩)) (.call (.ref f) ⟨.ref (s.heap.objs.size+1)::vs,kw⟩) (W.InitBack (s.heap.objs.size+1) R)
   { s with heap:=(s.heap.push qy).push (vj C s.heap.objs.size) }):
  ol (model prog w) A (.call (.ref C) ⟨vs,kw⟩) R s:=by
 obtain⟨hh,g,d,t,os⟩:=s;exact W.make_core (W.makes_of X hm) (W.looks_findIn X hi) (fun self=>W.bind_fn X self hf) (.inl rfl) h
end
def bM(f:Str)(v:V):List (Str×V)->List (Str×V)
 | []=>[(f,v)]
 | (g,x)::r=>if g=f then (g,v)::r else (g,x)::bM f v r
theorem CP(f g:Str)(v:V):∀fs:List (Str×V),(bM f v fs).lookup g=if g=f then some v else fs.lookup g
 | []=>by
  show sw g [(f,v)]=_;by_cases h:g=f
  ·have hb:(g==f)=true:=beq_iff_eq.mpr h;simp only[sw,hb,cy h]
  ·have hb:(g==f)=false:=beq_eq_false_iff_ne.mpr h;simp only[sw,hb,cr h]
 | (k,x)::r=>by
  have ih:=CP f g v r;rw[show bM f v ((k,x)::r)=(if k=f then (k,v)::r else (k,x)::bM f v r)from rfl];by_cases hk:k=f
  ·rw[cy hk];by_cases h:g=k
   ·have hb:(g==k)=true:=beq_iff_eq.mpr h;simp only[sw,hb,cy (h.trans hk)]
   ·have hb:(g==k)=false:=beq_eq_false_iff_ne.mpr h;simp only[sw,hb,cr (fun e:g=f=>h (e.trans hk.symm))]
  ·rw[cr hk];by_cases h:g=k
   ·have hb:(g==k)=true:=beq_iff_eq.mpr h;simp only[sw,hb,cr (fun e:g=f=>hk (h.symm.trans e))]
   ·have hb:(g==k)=false:=beq_eq_false_iff_ne.mpr h;simp only[sw,hb];exact ih
theorem x8(f:Str)(v:V):∀fs:List (Str×V),f∈(bM f v fs).map (·.1)/\∀g,g∈fs.map (·.1)->g∈(bM f v fs).map (·.1)
 | []=>⟨by simp[bM],fun g h=>by simp at h⟩
 | (k,x)::r=>by
  obtain⟨i1,i2⟩:=x8 f v r;rw[show bM f v ((k,x)::r)=(if k=f then (k,v)::r else (k,x)::bM f v r)from rfl];by_cases hk:k=f
  ·rw[cy hk];subst hk;exact⟨yv,fun g h=>by simpa using h⟩
  ·rw[cr hk];refine⟨?_,fun g h=>?_⟩
   ·rw[fm];exact bq _ i1
   ·rw[fm]at h ⊢;rcases mem_cons.mp h with e|e
    ·exact mem_cons.mpr (.inl e)
    ·exact bq _ (i2 g e)
theorem EA(f:Str)(v:V):∀fs:List (Str×V),(bM f v fs).length<=fs.length+1
 | []=>by simp[bM]
 | (k,x)::r=>by
  have ih:=EA f v r;rw[show bM f v ((k,x)::r)=(if k=f then (k,v)::r else (k,x)::bM f v r)from rfl];by_cases hk:k=f
  ·rw[cy hk,cx,cx];omega
  ·rw[cr hk,cx,cx];omega
theorem RelO.some_of{v:V}{o:Option bb}(r:RelO (some v) o):∃u,o=some u/\RelV v u:=by
 cases o with
 |none=>exact(show False from r).elim
 |some u=>exact⟨u,rfl,r⟩
theorem RelO.none_of{o:Option bb}(r:RelO none o):o=none:=by
 cases o with
 |none=>rfl
 |some u=>exact(show False from r).elim
theorem LL{v:V}{u:bb}(r:RelV v u):W.handedIn u=true:=by
 cases v with
 |non=>cases (show u=jr from r);rfl
 |bl b=>cases (show u=jx b from r);rfl
 |int i=>obtain⟨t,e⟩:=(show ∃t,u=vh i t from r);cases e;rfl
 |str x=>obtain⟨t,e⟩:=(show ∃t,u=vi x t from r);cases e;rfl
 |byt b=>obtain⟨t,e⟩:=(show ∃t,u=Value.bytes b t from r);cases e;rfl
 |flt b=>obtain⟨t,e⟩:=(show ∃t,u=Value.float b t from r);cases e;rfl
 |ref a=>cases (show u=dw a from r);rfl
 |ty n=>cases (show u=oh n from r);rfl
section
variable {P:cz}{w:fy}{H H':Hp}{h h':Heap}{a C dx:Addr}{fs fs':List (Str×V)}
theorem uB(hok:HOk P w H h)(e:H a=some (.ins C dx fs)):∃mA,ObjM h a dx C mA/\(∀f,RelO (fs.lookup f) (mA f))/\PySem.Within mA (fs.map (·.1))/\fs.length<=1000/\H dx=some (.own a):=by
 obtain⟨d,z,ne,ob,mA,n,r,q⟩:=(show ObjOk P w H h a (.ins C dx fs)from hok a _ e);exact⟨mA,⟨ob,n,ne⟩,r,q,z,d⟩
end
structure Cls(K:cq)(C:Addr):Prop where
 pg:W.plainGet K C Str.empty=true
 hd:W.hasDictIn K C=true
 po:W.plainOver K C=true
 sa:rn K (.ref C) "__setattr__" = some (some (.builtin "object.__setattr__"))
theorem Cls.get{K:cq}{C:Addr}(c:Cls K C)(f:Str):W.plainGet K C f=true:=c.pg
def NoAttr(K:cq)(C:Addr)(f:Str):Prop:=rn K (.ref C) f=some none
theorem NoAttr.taker{K:cq}{C:Addr}{f:Str}(n:NoAttr K C f):W.takerIn K C f=some none:=by
 unfold W.takerIn;rw[show rn K (.ref C) f=some none from n];rfl
structure Meth(K:cq)(C:Addr)(m:Str)(f:Addr):Prop where
 at_:rn K (.ref C) m=some (some (.ref f))
 fn:W.isFn K (.ref f)=true
 kp:uj K (.ref f)=true
section
variable {X:Cx}{zi:List (Addr×Obj)}{σ:St}{H:Hp}{s:bd}{a C dx:Addr}{fs:List (Str×V)}{f:Str}{v:V}{A:ft}{E:bb->bd->Prop}
theorem MD{b:Bool}{Q:bb->bd->Prop}(I:Inv X zi σ H s)(e:H a=some (.ins C dx fs))(c:Cls X.K C)(n:NoAttr X.K C f)(l:fs.lookup f=some v)
  (h:∀u s',Inv X zi σ H s'->RelV v u->Q u s'):bo (model X.prog X.w) A (getAttr (.ref a) f b) Q E s:=by
 obtain⟨mA,O,r,_,_,_⟩:=uB I.hok e;obtain⟨u,hu,ru⟩:=RelO.some_of (v:=v) (o:=mA f) (by rw[<- l];exact r f);exact eL I.kIn O (c.get f) c.hd n hu (LL ru) (h u _ (I.tok _) ru)
theorem K5{m:Str}{g:Addr}{pl:Sem Bool}{Q:bb×List bb->bd->Prop}(I:Inv X zi σ H s)(e:H a=some (.ins C dx fs))(c:Cls X.K C)(k:Meth X.K C m g)(l:fs.lookup m=none)
  (h:Q (.ref g,[.ref a]) s):bo (model X.prog X.w) A (getMethod (.ref a) m pl) Q E s:=by
 obtain⟨mA,O,r,_,_,_⟩:=uB I.hok e;have hn:mA m=none:=RelO.none_of (by rw[<- l];exact r m);exact Gi I.kIn O (c.get m) k.at_ k.fn hn h
theorem Nj{y:V}{u:bb}{Q:Unit->bd->Prop}(I:Inv X zi σ H s)(e:H a=some (.ins C dx fs))(c:Cls X.K C)(n:NoAttr X.K C f)(hl:fs.length<1000)(ry:RelV y u)
  (h:∀s',Inv X zi σ (upd H a (.ins C dx (bM f y fs))) s'->Q () s'):bo (model X.prog X.w) A (setAttr (.ref a) f u) Q E s:=by
 obtain⟨mA,O,r,wi,_,ho⟩:=uB I.hok e;have hz:(fs.map (·.1)).length<=dn:=by rw[cg,nq];omega
 refine Gs I.kIn O c.sa c.po n.taker c.hd wi hz fun h' O' sb=>h _ ?_;have hd:∃o,h'.get? dx=some o:=let ⟨o,_,_,e',_⟩:=O'.ns;⟨o,e'⟩;refine I.write (x:=a) (e:=dx) (by rw[e];exact sy) (.inr ho) (fun b q hb z=>(sb.2 b hb).trans z) hd ?_;refine⟨by rw[zC O.ne];exact ho,?_,O.ne,O'.obj,_,O'.ns,fun g=>?_,fun g hg=>?_⟩
 ·have:=EA f y fs;omega
 ·show RelO ((bM f y fs).lookup g) (if g=f then some u else mA g);rw[CP];by_cases q:g=f
  ·rw[cy q,cy q];exact ry
  ·rw[cr q,cr q];exact r g
 ·by_cases q:g=f
  ·rw[q];exact(x8 f y fs).1
  ·refine(x8 f y fs).2 g (wi g fun z=>hg ?_);show (if g=f then some u else mA g)=none;rw[cr q];exact z
theorem Inv.made(I:Inv X zi σ H s):Inv X zi σ (upd (upd H s.heap.objs.size (.own (s.heap.objs.size+1))) (s.heap.objs.size+1) (.ins C s.heap.objs.size []))
  { s with heap:=(s.heap.push qy).push (vj C s.heap.objs.size) }:=by
 have e1:(s.heap.push qy).get? s.heap.objs.size=some qy:=bv s.heap rfl;have e2:((s.heap.push qy).push (vj C s.heap.objs.size)).get? (s.heap.objs.size+1)=some (vj C s.heap.objs.size):=by
  have:=bv (s.heap.push qy) (o:=vj C s.heap.objs.size) rfl
  rwa [qa]at this
 have e3:(s.heap.push qy).Ns s.heap.objs.size (fun _=>none):=⟨qy,#[],_,e1,rfl,(fun e he=>absurd he yv),fun _=>rfl⟩;have I1:=I.laid (a:=s.heap.objs.size) (o:=.own (s.heap.objs.size+1)) (h':=s.heap.push qy) (t':=s.toks) (fun b u q=>bf _ q) (dh _) ⟨_,e1⟩;refine I1.laid (a:=s.heap.objs.size+1) (o:=.ins C s.heap.objs.size []) (t':=s.toks) (fun b u q=>bf _ q) (le_of_eq (qa _ _)) ?_;have ne:s.heap.objs.size≠s.heap.objs.size+1:=ge (lt_succ_self _);refine⟨by rw[zC ne,zF],lh _,ne,e2,fun _=>none,(Heap.Ns1.of_empty e3).at fun o q=>bf _ q,fun _=>sy,fun y hy=>absurd rfl hy⟩
theorem JH{prog:cz}{w:fy}{env:Env}{e:Expr}{f:Str}{pos:Pos}{s:bd}{Q:bb->bd->Prop}(hb:sj e f env (eval e env)=eval e env)
  (h:bo (model prog w) A (eval e env) (fun o s₁=>bo (model prog w) A (getAttr o f true) Q E s₁) E s):bo (model prog w) A (eval (.Attribute e f pos) env) Q E s:=
 Attribute_any_ h (by rw[arm_eval_Attribute,hb])
end
def CW(K:cq)(ta:TE)(f:Str):TE:=fun σ H Q=>ta σ H fun x H1=>∃a C dx fs v,x=.ref a/\H1 a=some (.ins C dx fs)/\Cls K C/\NoAttr K C f/\fs.lookup f=some v/\Q v H1
def i9(K:cq)(ta tv:TE)(f:Str):TS:=fun D σ H=>tv σ H fun y H1=>ta σ H1 fun x H2=>∃a C dx fs,x=.ref a/\H2 a=some (.ins C dx fs)/\Cls K C/\NoAttr K C f/\fs.length<1000 /\
 D.nx σ (upd H2 a (.ins C dx (bM f y fs)))
section
variable {X:Cx}{o e value:Expr}{f:Str}{pos pos' tpos:Pos}{ta tv:TE}
theorem lU(he:PE X e ta)(hb:sj e f X.env (eval e X.env)=eval e X.env):PE X (.Attribute e f pos) (CW X.K ta f):=by
 intro zi s σ H Q I h;refine JH hb (thn (he zi s σ H _ I h) fun u s1 ⟨x,H1,I1,rx,a,C,dx,fs,v,ex,ea,c,n,l,q⟩=>?_);subst ex;obtain rfl:u=dw a:=rx;exact MD I1 ea c n l fun u' s2 I2 ru=>⟨v,H1,I2,ru,q⟩
theorem yH(ha:PE X o ta)(hv:PE X value tv)(hs:swapsWith value (some (.Attribute o f pos')) pos.line X.env=pure false):PS X (.Assign [.Attribute o f pos'] value pos) (i9 X.K ta tv f):=by
 intro zi s σ H D I h;refine plainObj_wpAny_Assign_Attribute (thn (hv zi s σ H _ I h) fun u s1 ⟨y,H1,I1,ry,q⟩=>thn (ha zi s1 σ H1 _ I1 q) fun ov s2 ⟨x,H2,I2,rx,a,C,dx,fs,ex,ea,c,n,l,q2⟩=>?_) hs;subst ex;obtain rfl:ov=dw a:=rx;exact Nj I2 ea c n l ry fun s3 I3=>⟨σ,_,I3,q2⟩
end
section
variable {X:Cx}{zi:List (Addr×Obj)}{σ:St}{H:Hp}{s:bd}{A:ft}{E:bb->bd->Prop}{Q:bb->bd->Prop}{c:bb}{b:Bool}
inductive TyOf (K:cq) (H:Hp):V->bb->Prop where
 |non:TyOf K H .non (.type "NoneType")
 |bl (x:Bool):TyOf K H (.bl x) (.type "bool")
 |int (i:Int):TyOf K H (.int i) (.type "int")
 |str (x:Str):TyOf K H (.str x) (.type "str")
 |flt (x:UInt64):TyOf K H (.flt x) (.type "float")
 |lst {a:Addr}{xs:List V} (e:H a=some (.lst xs)):TyOf K H (.ref a) (.type "list")
 |frz {a:Addr}{o:Obj}{xs:List V} (e:H a=some (.frz o (.lst xs))):TyOf K H (.ref a) (.type "list")
 |tup {a:Addr}{xs:List V} (e:H a=some (.tup xs)):TyOf K H (.ref a) (.type "tuple")
 |dK {a:Addr}{kvs:List (Key×V)} (e:Rd H a (.dK kvs)):TyOf K H (.ref a) (.type "dict")
 |dT {a:Addr}{kvs:List (List Key×V)} (e:Rd H a (.dT kvs)):TyOf K H (.ref a) (.type "dict")
 |ins {a C dx:Addr}{fs:List (Str×V)} (e:H a=some (.ins C dx fs)) (cl:Cls K C) (ha:rn K (.ref C) "__class__" = some (some (.builtin "object.__class__")))
   (hn:W.specialIn K (.builtin "object.__class__") "__get__" = some (some (.builtin "getset_descriptor.__get__"))) (htk:W.takesIn K (.builtin "object.__class__")=some true)
   (hm:W.mroIn K C (.type "object")=some true):TyOf K H (.ref a) (.ref C)
theorem KZ{x:V}{u t:bb}(I:Inv X zi σ H s)(rx:RelV x u)(ty:TyOf X.K H x t)(e:W.kitOne X.K t c=some b)(h:∀tk,Q (.bool b) { s with toks:=tk }):
  bo (model X.prog X.w) A (call (.builtin "isinstance") [u,c]) Q E s:=by
 cases ty with
 |non=>cases (show u=jr from rx);exact sk W.kitx_none I.kIn sy e (fun z=>nomatch z) h
 |bl y=>cases (show u=jx y from rx);exact sk W.kitx_bool I.kIn sy e (fun z=>nomatch z) h
 |int i=>obtain⟨t,q⟩:=(show ∃t,u=vh i t from rx);cases q;exact sk W.kitx_int I.kIn sy e (fun z=>nomatch z) h
 |str y=>obtain⟨t,q⟩:=(show ∃t,u=vi y t from rx);cases q;exact sk W.kitx_str I.kIn sy e (fun z=>nomatch z) h
 |flt y=>obtain⟨t,q⟩:=(show ∃t,u=Value.float y t from rx);cases q;exact sk W.kitx_float I.kIn sy e (fun z=>nomatch z) h
 | @lst a xs ea=>
  cases (show u=dw a from rx);obtain⟨_,_,n,_,h1⟩:=(show ObjOk X.prog X.w H s.heap a (.lst xs)from I.hok a _ ea);exact sk W.kitx_list I.kIn ⟨_,h1,rfl⟩ e (fun z=>nomatch z) h
 | @frz a ob xs ea=>
  cases (show u=dw a from rx);obtain⟨_,_,_,n,_,h1⟩:=(show ObjOk X.prog X.w H s.heap a (.frz ob (.lst xs))from I.hok a _ ea);exact sk W.kitx_list I.kIn ⟨_,h1,rfl⟩ e (fun z=>nomatch z) h
 | @tup a xs ea=>
  cases (show u=dw a from rx);obtain⟨_,_,_,p⟩:=(show ObjOk X.prog X.w H s.heap a (.tup xs)from I.hok a _ ea);obtain⟨o,h1,h2,_⟩:=p;exact sk W.kitx_tuple I.kIn ⟨o,h1,h2⟩ e (fun z=>nomatch z) h
 | @dK a kvs ea=>
  cases (show u=dw a from rx);obtain⟨_,_,vs,_,p⟩:=(show ObjOk X.prog X.w H s.heap a (.dK kvs)from ea.ok I.hok);obtain⟨o,es,ep,h1,h2,_⟩:=p;exact sk W.kitx_dict I.kIn ⟨o,h1,h2.1⟩ e (fun z=>nomatch z) h
 | @dT a kvs ea=>
  cases (show u=dw a from rx);obtain⟨_,_,xs,_,o,es,ep,h1,h2,_⟩:=(show ObjOk X.prog X.w H s.heap a (.dT kvs)from ea.ok I.hok);exact sk W.kitx_dict I.kIn ⟨o,h1,h2.1⟩ e (fun z=>nomatch z) h
 | @ins a C dx fs ea cl ha hn htk hm=>
  cases (show u=dw a from rx);obtain⟨mA,O,_⟩:=uB I.hok ea;obtain⟨od,J,_⟩:=O.look;exact sk (W.kitx_own (cl.get _) cl.hd ha hn htk hm) I.kIn J e (fun z=>nomatch z) h
end
end
section
structure Room(k:Nat)(A:ft):Prop where
 hd:A.handled=none
 dp:A.depth+3*k+5<recursionLimit
 un:A.units+16*k+200<kq
theorem Room.mono{j k:Nat}{A:ft}(r:Room k A)(h:j<=k):Room j A:=⟨r.hd,by have:=r.dp;omega,by have:=r.un;omega⟩
theorem Room.deeper{k:Nat}{A:ft}(r:Room (k+1) A)(env:Env):Room k (A.deeper env):=
 ⟨r.hd,by have:=r.dp;show A.depth+1+3*k+5<_;omega,by have:=r.un;show A.units+3+16*k+200<_;omega⟩
theorem Room.in1{k:Nat}{A:ft}(r:Room (k+1) A):Room k A.in1:=
 ⟨r.hd,by have:=r.dp;show A.depth+3*k+5<_;omega,by have:=r.un;show A.units+1+16*k+200<_;omega⟩
theorem OX{A:ft}{C:Addr}{us:List bb}{kw:List (Str×bb)}:(A.under (.builtin "type.__call__" ⟨.ref C::us,kw⟩)).depth=A.depth+1:=by
 first|rfl|simp[Around.under,Code.weight,Code.isCreation,Code.isGuard,Code.isCaller,Code.frames,Code.isFrame,guardIds]
theorem Gw{A:ft}{C:Addr}{us:List bb}{kw:List (Str×bb)}:(A.under (.builtin "type.__call__" ⟨.ref C::us,kw⟩)).units=A.units+1:=by
 first|rfl|simp[Around.under,Code.cUnits,Code.frames,Code.isFrame]
theorem Room.make{k:Nat}{A:ft}(r:Room (k+1) A)(C:Addr)(us:List bb)(kw:List (Str×bb)):Room k (A.under (.builtin "type.__call__" ⟨.ref C::us,kw⟩)):=
 ⟨r.hd,by have:=r.dp;rw[OX];omega,by have:=r.un;rw[Gw];omega⟩
theorem Room.depth{k:Nat}{A:ft}(r:Room k A):A.depth<recursionLimit:=by have:=r.dp;omega
theorem Room.units{k:Nat}{A:ft}(r:Room k A):A.units+64<kq:=by have:=r.un;omega
def j7:TA:=fun _ H Q=>Q [] H
def gZ(ta:TE)(tr:TA):TA:=fun σ H Q=>ta σ H fun x H1=>tr σ H1 fun xs H2=>Q (x::xs) H2
section
variable {X:Cx}{e:Expr}{es:List Expr}{te:TE}{t:TA}{pos:Pos}
theorem zd:PA X [] j7:=fun _ _ _ _ H Q I h=>su ⟨[],H,I,.nil,h⟩
theorem za(ha:PE X e te)(hr:PA X es t)(hs:dq (e::es) X.env=(false,eval e X.env)::dq es X.env:=by rfl):PA X (e::es) (gZ te t):=by
 intro pos zi s σ H Q I h;rw[hs];show bo _ _ (spliced ((false,eval e X.env)::ow pos (dq es X.env))) _ _ s;refine oz (thn (ha zi s σ H _ I h) fun u s1 ⟨x,H1,I1,r1,q1⟩=>?_);exact thn (hr pos zi s1 σ H1 _ I1 q1) fun us s2 ⟨xs,H2,I2,r2,q2⟩=>⟨x::xs,H2,I2,.cons r1 r2,q2⟩
def CZ(t:TA):TE:=fun σ H Q=>t σ H fun xs H1=>xs.length<=dn/\∀p,H1 p=none->Q (.ref p) (upd H1 p (.tup xs))
def mO(t:TA):TE:=fun σ H Q=>t σ H fun xs H1=>xs.length<=dn/\∀p,H1 p=none->Q (.ref p) (upd H1 p (.lst xs))
theorem aW{x1}(h:PA X es t):PE X (.Tuple es x1 pos) (CZ t):=by
 intro zi s σ H Q I hq;refine wpAny_Tuple_spliced (thn (h pos zi s σ H _ I hq) fun us s1 ⟨xs,H1,I1,r,z,q⟩=>⟨by rw[<- r.length];exact z,?_⟩);have hf:H1 s1.heap.objs.size=none:=I1.hok.fresh (dh _);refine⟨.ref s1.heap.objs.size,upd H1 s1.heap.objs.size (.tup xs),I1.laid (t':=s1.toks) (fun b u e=>bf _ e) (dh _) ?_,rfl,q _ hf⟩;exact⟨⟨z,_,bv _ rfl,rfl,I1.kpNew⟩,us,r,⟨_,bv _ rfl,rfl,_,rfl⟩⟩
theorem bO(h:PA X es t):PE X (.List es pos) (mO t):=by
 intro zi s σ H Q I hq;refine wpAny_List_spliced (thn (h pos zi s σ H _ I hq) fun us s1 ⟨xs,H1,I1,r,z,q⟩=>⟨by rw[<- r.length];exact z,?_⟩);have hf:H1 s1.heap.objs.size=none:=I1.hok.fresh (dh _);refine⟨.ref s1.heap.objs.size,upd H1 s1.heap.objs.size (.lst xs),I1.laid (t':=s1.toks) (fun b u e=>bf _ e) (dh _) ?_,rfl,q _ hf⟩;exact⟨z,us,0,r,bv _ rfl⟩
end
abbrev Sp:=List V->Hp->VK->XK->Prop
abbrev CXT:=List Env->Hp->bd->XK->bb->bd->Prop
structure Env0(P:cz)(w:fy)(K:cq)(mg:Str->Option bb)(base:Heap)(A:ft)(outer:List Env)(s:bd)(H:Hp):Prop where
 frames:A.frames=some outer
 mod:Mod K mg base
 bs:∀b o,base.get? b=some o->s.heap.get? b=some o/\H b=none
 bsz:base.objs.size<=s.heap.objs.size
 funs:s.heap.FunFrames base outer
 frf:Frf (frs outer) H
 hok:HOk P w H s.heap
 bare:AllBare s.gens
theorem Env0.kIn{P:cz}{w:fy}{K:cq}{mg:Str->Option bb}{base:Heap}{A:ft}{outer:List Env}{s:bd}{H:Hp}(e0:Env0 P w K mg base A outer s H):K.In s.heap:=e0.mod.kin.all (fun b o e=>(e0.bs b o e).1) (e0.frf.kpIn e0.hok)
def CE(outer:List Env)(P:cz)(w:fy)(H:Hp)(s:bd)(Q:VK)(u:bb)(s':bd):Prop:=
 ∃v H',s'.os=s.os/\AllBare s'.gens/\Un (frs outer) [] H H' s.heap s'.heap/\HOk P w H' s'.heap/\RelV v u/\Q v H'
def CR(CX:CXT)(outer:List Env)(P:cz)(w:fy)(H:Hp)(s:bd)(Q:VK)(E:XK)(r:Result)(s':bd):Prop:=
 match r with
 | .ok (.ret u)=>CE outer P w H s Q u s'
 | .ok _=>False
 | .error e=>CX outer H s E e s'
structure FnOk(P:cz)(w:fy)(K:cq)(mg:Str->Option bb)(base:Heap)(CX:CXT)(k:Nat)(f:Addr)(fd:rq)(ps:List Str)(sp:Sp):Prop where
 len:∀vs H Q E,sp vs H Q E->vs.length=ps.length
 run:∀(A:ft) (outer:List Env) (s:bd) (H:Hp) (args:Args) (us:List bb) (vs:List V) (Q:VK) (E:XK),Room k A->Env0 P w K mg base A outer s H->BindsTo s fd args (ps.zip us)->Vals vs us->sp vs H Q E ->
  ol (model P w) A (.call (.ref f) args) (CR CX outer P w H s Q E) s
theorem Env0.make{P:cz}{w:fy}{K:cq}{mg:Str->Option bb}{base:Heap}{A:ft}{outer:List Env}{s:bd}{H:Hp}(e:Env0 P w K mg base A outer s H)(C:Addr)(us:List bb)(kw:List (Str×bb)):
  Env0 P w K mg base (A.under (.builtin "type.__call__" ⟨.ref C::us,kw⟩)) outer s H:=⟨by first|exact e.frames|(simpa[Around.under,Code.envs,Code.isFrame,pushEnvs]using e.frames),e.mod,e.bs,e.bsz,e.funs,e.frf,e.hok,e.bare⟩
theorem Env0.in1{P:cz}{w:fy}{K:cq}{mg:Str->Option bb}{base:Heap}{A:ft}{outer:List Env}{s:bd}{H:Hp}(e:Env0 P w K mg base A outer s H):
  Env0 P w K mg base A.in1 outer s H:=⟨e.frames,e.mod,e.bs,e.bsz,e.funs,e.frf,e.hok,e.bare⟩
section
variable {X:Cx}{zi:List (Addr×Obj)}{σ:St}{H:Hp}{s s':bd}
theorem Inv.env0(I:Inv X zi σ H s):Env0 X.prog X.w X.K X.mg X.base X.A X.stack s H:=
 ⟨I.ok.frames,I.ok.mod,I.bs,gm I.ok.bsz I.sz,I.stack,I.stkFree,I.hok,I.bare⟩
theorem Inv.after{Q:VK}{u:bb}(I:Inv X zi σ H s)(h:CE X.stack X.prog X.w H s Q u s'):EP X zi σ Q u s':=by
 obtain⟨v,H',os,bare,un,hok,r,q⟩:=h;obtain⟨hh,g,d,t,aa⟩:=s';obtain rfl:aa=s.os:=os;exact⟨v,H',I.call (h':=hh) (g':=g) (d':=d) (t':=t) (ch:=[]) un hok bare (fun b z=>absurd z yv),r,q⟩
end
def qV(sp:Sp)(dvs:List V)(E:XK)(t:TA):TE:=fun σ H Q=>t σ H fun vs H1=>sp (vs++dvs) H1 Q E
def sI(C:Addr)(m:Str)(sp:Sp)(dvs:List V)(E:XK)(ta:TE)(t:TA):TE:=fun σ H Q=>ta σ H fun x H1=>∃a dx fs,x=.ref a/\H1 a=some (.ins C dx fs)/\fs.lookup m=none /\
 t σ H1 fun vs H2=>sp (x::(vs++dvs)) H2 Q E
def yE(C:Addr)(sp:Sp)(dvs:List V)(E:XK)(t:TA):TE:=fun σ H Q=>t σ H fun vs H1=>∀x dx,H1 x=none->H1 dx=none->dx≠x ->
 sp (.ref x::(vs++dvs)) (upd (upd H1 dx (.own x)) x (.ins C dx [])) (fun v H2=>v=.non/\Q (.ref x) H2) E
def Binds(K:cq)(fd:rq)(ps:List Str)(ds:List bb):Prop:=
 ∀(s:bd) (us:List bb),K.In s.heap->(us++ds).length=ps.length->BindsTo s fd ⟨us,[]⟩ (ps.zip (us++ds))
theorem Binds.all{K:cq}{fd:rq}{ps:List Str}(h:∀us:List bb,us.length=ps.length->tm fd ⟨us,[]⟩=pure (ps.zip us)):Binds K fd ps []:=fun s us _ hl=>by
 rw[jg]at hl ⊢;exact .of_eq (h us hl)
def Passes(CX:CXT)(X:Cx)(E:XK):Prop:=∀(zi:List (Addr×Obj)) (σ:St) (H:Hp) (s:bd) (e:bb) (s':bd),Inv X zi σ H s->CX X.stack H s E e s'->X.xe e s'
section
variable {X:Cx}{CX:CXT}{k:Nat}{f C:Addr}{fd:rq}{ps:List Str}{sp:Sp}{dvs:List V}{ds:List bb}{E:XK}{x m:Str}{p pos apos:Pos}{e o:Expr}{es:List Expr}{ta:TE}{t:TA}
theorem F1{zi:List (Addr×Obj)}{σ:St}{H:Hp}{s:bd}{Q:VK}{us:List bb}{vs:List V}(F:FnOk X.prog X.w X.K X.mg X.base CX k f fd ps sp)(hr:Room k X.A)(hb:Binds X.K fd ps ds)(hd:Vals dvs ds)(hx:Passes CX X E)
  (I:Inv X zi σ H s) (r:Vals vs us) (h:sp (vs++dvs) H Q E):bo (model X.prog X.w) X.A (call (.ref f) us) (EP X zi σ Q) X.xe s:=by
 have r2:Vals (vs++dvs) (us++ds):=r.append hd;have hl:(us++ds).length=ps.length:=by rw[<- r2.length];exact F.len _ _ _ _ h
 refine wpAny_call (ra (F.run X.A X.stack s H ⟨us,[]⟩ (us++ds) (vs++dvs) Q E hr I.env0 (hb s us I.kIn hl) r2 h) fun r s' hq=>?_);cases r with
 |error e=>exact hx zi σ H s e s' I hq
 |ok fl=>
  cases fl with
  |ret u=>exact I.after hq
  |next=>exact ou hq
  |brk=>exact ou hq
  |cont=>exact ou hq
theorem DF(F:FnOk X.prog X.w X.K X.mg X.base CX k f fd ps sp)(hr:Room k X.A)(hg:Gl X x)(hm:X.mg x=some (.ref f))(hk:uj X.K (.ref f)=true)(hb:Binds X.K fd ps ds)(hd:Vals dvs ds)(hx:Passes CX X E)
  (ha:PA X (e::es) t) (hdb:(x==("__debug__":Str))=false:=by decide) (he:dq (e::es) X.env=(false,eval e X.env)::dq es X.env:=by rfl) (hpl:(ow pos (dq es X.env)).any (·.1)=false:=by rfl):
  PE X (.Call (.Name x p) (e::es) [] pos) (qV sp dvs E t):=by
 intro zi s σ H Q I h;refine lq (yI I hg hm ?_ hdb);refine W.callWith_K (h₀:=_) I.kIn hk (thn (ha pos zi s σ H _ I h) fun us s1 ⟨vs,H1,I1,r,q⟩=>⟨I1.kIn,?_⟩) he hpl;exact F1 F hr hb hd hx I1 r q
theorem Nt{pl:Sem Bool}(he:PE X o ta)(c:Cls X.K C)(hm:Meth X.K C m f)(F:FnOk X.prog X.w X.K X.mg X.base CX k f fd ps sp)(hr:Room k X.A)(hb:Binds X.K fd ps ds)(hd:Vals dvs ds)(hx:Passes CX X E)(ha:PA X (e::es) t)
  (hst:dq (e::es) X.env=(false,eval e X.env)::dq es X.env:=by rfl) (hpl:(ow pos (dq es X.env)).any (·.1)=false:=by rfl)
  (ht:eval (.Call (.Attribute o m apos) (e::es) [] pos) X.env=(do
   let ov <- eval o X.env
   standAt apos.atName
   let (f,first) <- holding [ov] (getMethod ov m pl)
   callWith pos f first (ow pos (dq (e::es) X.env)) (backToKw pos (keywordEach [] X.env))):=by rfl):
  PE X (.Call (.Attribute o m apos) (e::es) [] pos) (sI C m sp dvs E ta t):=by
 intro zi s σ H Q I h;refine W.methodCall_KW (pl:=pl) (thn (he zi s σ H _ I h) fun u s1 ⟨x,H1,I1,rx,a,dx,fs,ex,ea,l,q⟩=>?_) ht;subst ex;obtain rfl:u=dw a:=rx;refine K5 I1 ea c hm l ?_;refine W.callWith_K (first:=[.ref a]) (h₀:=_) I.kIn hm.kp (thn (ha pos zi s1 σ H1 _ I1 q) fun us s2 ⟨vs,H2,I2,r,q2⟩=>⟨I2.kIn,?_⟩) hst hpl;exact F1 (us:=.ref a::us) (vs:=.ref a::vs) F hr hb hd hx I2 (.cons rfl r) q2
structure Mk(K:cq)(C f:Addr):Prop where
 makes:W.makesIn K C=true
 init:rn K (.ref C) "__init__" = some (some (.ref f))
 fn:W.isFn K (.ref f)=true
 kp:uj K (.ref C)=true
theorem Ks{zi:List (Addr×Obj)}{σ:St}{H:Hp}{s:bd}{Q:VK}{us:List bb}{vs:List V}(M:Mk X.K C f)(F:FnOk X.prog X.w X.K X.mg X.base CX k f fd ps sp)(hr:Room (k+1) X.A)(hb:Binds X.K fd ps ds)(hd:Vals dvs ds)
  (hx:Passes CX X E) (I:Inv X zi σ H s) (r:Vals vs us)
  (h:∀x dx,H x=none->H dx=none->dx≠x->sp (.ref x::(vs++dvs)) (upd (upd H dx (.own x)) x (.ins C dx [])) (fun v H2=>v=.non/\Q (.ref x) H2) E):
  bo (model X.prog X.w) X.A (call (.ref C) us) (EP X zi σ Q) X.xe s:=by
 have hq:=h (s.heap.objs.size+1) s.heap.objs.size (I.hok.fresh (le_succ _)) (I.hok.fresh (dh _)) (ge (lt_succ_self _));have I2:=Inv.made (C:=C) I;have r2:Vals (V.ref (s.heap.objs.size+1)::(vs++dvs)) (dw (s.heap.objs.size+1)::(us++ds)):=.cons rfl (r.append hd);have hl:(dw (s.heap.objs.size+1)::us++ds).length=ps.length:=by
  have e:=r2.length;rw[F.len _ _ _ _ hq]at e;exact e.symm
 refine wpAny_call (N2 (f:=f) I.kIn M.makes M.init (beq_iff_eq.mp M.fn) (ra (F.run _ X.stack _ _ ⟨dw (s.heap.objs.size+1)::us,[]⟩ (dw (s.heap.objs.size+1)::(us++ds)) _ _ E (hr.make C us [])
  (I2.env0.make C us []) (hb _ (dw (s.heap.objs.size+1)::us) I2.kIn hl) r2 hq) fun r s' q=>?_))
 cases r with
 |error e=>exact hx zi σ _ _ e s' I2 q
 |ok fl=>
  cases fl with
  |ret u=>
   obtain⟨v,H',I3,rv,ev,q3⟩:=I2.after q;subst ev;exact⟨rv,⟨V.ref (s.heap.objs.size+1),H',I3,rfl,q3⟩⟩
  |next=>exact ou q
  |brk=>exact ou q
  |cont=>exact ou q
theorem Hw(M:Mk X.K C f)(F:FnOk X.prog X.w X.K X.mg X.base CX k f fd ps sp)(hr:Room (k+1) X.A)(hg:Gl X x)(hm:X.mg x=some (.ref C))(hb:Binds X.K fd ps ds)(hd:Vals dvs ds)(hx:Passes CX X E)
  (ha:PA X (e::es) t) (hdb:(x==("__debug__":Str))=false:=by decide) (he:dq (e::es) X.env=(false,eval e X.env)::dq es X.env:=by rfl) (hpl:(ow pos (dq es X.env)).any (·.1)=false:=by rfl):
  PE X (.Call (.Name x p) (e::es) [] pos) (yE C sp dvs E t):=by
 intro zi s σ H Q I h;refine lq (yI I hg hm ?_ hdb);refine W.callWith_K (h₀:=_) I.kIn M.kp (thn (ha pos zi s σ H _ I h) fun us s1 ⟨vs,H1,I1,r,q⟩=>⟨I1.kIn,?_⟩) he hpl;exact Ks M F hr hb hd hx I1 r q
end
structure FnScope(N P:List Str)(sc:Scope):Prop where
 kind:sc.kind=.function
 co:sc.isCoroutine=false
 gen:sc.isGenerator=false
 nd:N.Nodup
 pre:N.take P.length=P
 par:∀x∈P,sc.names.lookup x=some .local\/sc.names.lookup x=some .cell
 nofree:∀y∈sc.names,y.2≠.free
theorem Aj{q:Str->Option pb}{x:Str}:∀{binds:List (Str×bb)}{m:Str->Option bb},(∀v,(x,v)∉binds)->bindL q binds m x=m x
 | [],_,_=>rfl
 | (n,v)::r,m,h=>by
  unfold bindL;rw[Aj fun w hw=>h w (bq _ hw)];split
  ·have:x≠n:=by rintro rfl;exact h v cp
   simp[this]
  ·rfl
theorem EJ{q:Str->Option pb}{x:Str}:∀{binds:List (Str×bb)}{m:Str->Option bb},(∀v,(x,v)∉binds)->bindC q binds m x=m x
 | [],_,_=>rfl
 | (n,v)::r,m,h=>by
  unfold bindC;rw[EJ fun w hw=>h w (bq _ hw)];split
  ·rfl
  ·have:x≠n:=by rintro rfl;exact h v cp
   simp[this]
theorem E7{q:Str->Option pb}{x:Str}{v:bb}:∀{P:List Str}{vs:List bb}{i:Nat}{m:Str->Option bb},P.Nodup->P[i]?=some x->vs[i]?=some v->q x=some .local ->
  bindL q (P.zip vs) m x=some v
 | [],_,_,_,_,h,_,_=>by simp at h
 |_::_,[],_,_,_,_,h,_=>by simp at h
 |p::P,w::vs,0,m,nd,h1,h2,hk=>by
  simp at h1 h2;subst h1;subst h2;show bindL q ((p,w)::P.zip vs) m p=_;unfold bindL;rw[Aj fun v hv=>(nodup_cons.mp nd).1 (of_mem_zip hv).1,cy hk];simp
 |p::P,w::vs,i+1,m,nd,h1,h2,hk=>by
  show bindL q ((p,w)::P.zip vs) m x=_;unfold bindL;exact E7 (i:=i) (nodup_cons.mp nd).2 (by simpa using h1) (by simpa using h2) hk
theorem Dy{q:Str->Option pb}{x:Str}{v:bb}:∀{P:List Str}{vs:List bb}{i:Nat}{m:Str->Option bb},P.Nodup->P[i]?=some x->vs[i]?=some v->q x≠some .local ->
  bindC q (P.zip vs) m x=some v
 | [],_,_,_,_,h,_,_=>by simp at h
 |_::_,[],_,_,_,_,h,_=>by simp at h
 |p::P,w::vs,0,m,nd,h1,h2,hk=>by
  simp at h1 h2;subst h1;subst h2;show bindC q ((p,w)::P.zip vs) m p=_;unfold bindC;rw[EJ fun v hv=>(nodup_cons.mp nd).1 (of_mem_zip hv).1,cr hk];simp
 |p::P,w::vs,i+1,m,nd,h1,h2,hk=>by
  show bindC q ((p,w)::P.zip vs) m x=_;unfold bindC;exact Dy (i:=i) (nodup_cons.mp nd).2 (by simpa using h1) (by simpa using h2) hk
def start(N:List Str)(vs:List V):St:=vs.map some++bh (N.length-vs.length) none
def eF(CX:CXT)(P:cz)(w:fy)(K:cq)(mg:Str->Option bb)(base:Heap)(N:List Str)(qual:Str)(scope:Scope)(f:Addr)(cd:bb)(A:ft)(outer:List Env)(s:bd)(H:Hp)(E:XK):Cx where
 prog:=P
 w:=w
 K:=K
 mg:=mg
 base:=base
 A:=A.deeper (ur qual scope s.heap.objs.size f cd)
 N:=N
 s₀:=s
 H₀:=H
 env:=ur qual scope s.heap.objs.size f cd
 outer:=outer
 stack:=ur qual scope s.heap.objs.size f cd::outer
 ex:=[]
 calm:=true
 fn:=fun _=>true
 pn:=[]
 xe:=fun e s'=>bo (model P w) (A.deeper (ur qual scope s.heap.objs.size f cd)) (leaving (ur qual scope s.heap.objs.size f cd) e) (fun _ s''=>CX outer H s E e s'') (fun e' s''=>CX outer H s E e' s'') s'
theorem Bi{sc:Scope}{n:Nat}{x:Str}(h:sc.names.lookup x=some .cell):∃c,(cellsFrom n sc.names []).lookup x=some c:=by
 have q:=ue sc.names n [] (.inl h);exact isSome_iff_exists.mp q
theorem Hd{CX:CXT}{P:cz}{w:fy}{K:cq}{mg:Str->Option bb}{base:Heap}{N ps:List Str}{qual:Str}{scope:Scope}{f:Addr}{cd:bb}{A:ft}{outer:List Env}{s s1:bd}{H:Hp}{E:XK}{us:List bb}{vs:List V}
  (S:FnScope N ps scope) (hd:A.handled=none) (e0:Env0 P w K mg base A outer s H) (hl:vs.length=ps.length) (r:Vals vs us)
  (x:InCallC s s.heap.objs.size (bindL (ur qual scope s.heap.objs.size f cd).kindOf (ps.zip us) fun _=>none) (cellsFrom (s.heap.objs.size+1) scope.names []) (bindC (ur qual scope s.heap.objs.size f cd).kindOf (ps.zip us) fun _=>none) s1):
  Inv (eF CX P w K mg base N qual scope f cd A outer s H E) [] (start N vs) H s1:=by
 have ac:ps.length<=N.length:=by have:=congrArg List.length S.pre;rw[ku]at this;omega
 obtain⟨h1,tk,rfl,hk⟩:=x.done;have aa:∀b:Addr,b∉(eF CX P w K mg base N qual scope f cd A outer s H E).ex:=fun b z=>absurd (show b∈([]:List Addr)from z) yv;refine⟨⟨e0.mod,S.kind,rfl,rfl,dh _,fun y z c h1 h2=>?_,fun y hy=>?_,fun y c _ h=>?_,fun _=>hd,Around.frames_deeper e0.frames,.inr ⟨rfl,rfl⟩,fun b z=>absurd z (aa b),e0.bs,e0.bsz,fun b _ _=>aa b,fun b z=>absurd z (aa b),e0.funs,e0.frf⟩,
  rfl,e0.bare,Un.kept hk,⟨_,x.toInCall.ns,fun i y v h1 h2 h3=>?_⟩,fun y c h=>⟨_,x.cell y c h⟩,e0.hok.fresh (dh _),fun y c h=>?_,fun p hp=>absurd (show p∈([]:List (Addr×Obj))from hp) yv,e0.hok.kept hk,?_⟩
 ·exact name_of_addr x.apart (PySem.mem_of_lookup h1) (PySem.mem_of_lookup h2)
 ·have hy:scope.names.lookup y=some .cell\/scope.names.lookup y=some .free:=hy;rcases hy with hy|hy
  ·exact Bi hy
  ·exact absurd rfl (S.nofree _ (PySem.mem_of_lookup hy))
 ·exact jn (x.above y c (PySem.mem_of_lookup h))
 ·have hi:i<vs.length:=by
   unfold start at h2;by_cases hi:i<vs.length
   ·exact hi
   ·rw[kz (by simpa using hi)]at h2;rw[List.getElem?_replicate]at h2;split at h2<;>cases h2
  have ha:vs[i]?=some v:=by
   unfold start at h2;rw[fi (by simpa using hi),gh]at h2;cases e:vs[i]? with
   |none=>rw[e]at h2;cases h2
   |some a=>rw[e]at h2;cases h2;rfl
  obtain⟨u,hu,rv⟩:=r.get ha;have hp:ps[i]?=some y:=by
   rw[<- S.pre,List.getElem?_take_of_lt yw];exact h1
  have ab:ps.Nodup:=by rw[<- S.pre];exact S.nd.sublist (List.take_sublist _ _)
  refine⟨u,rv,?_⟩;rcases S.par y (ci hp)with k|k
  ·exact .inl ⟨k,E7 ab hp hu k⟩
  ·obtain⟨c,e⟩:=Bi (n:=s.heap.objs.size+1) k;refine .inr ⟨.inl k,c,e,?_⟩;have q:=x.cell y c e;rw[Dy ab hp hu (by show scope.names.lookup y≠_;rw[k];decide)]at q;exact q
 ·exact e0.hok.fresh (jn (x.above y c (PySem.mem_of_lookup h)))
 ·unfold start;show _=N.length;rw[ck,cg,List.length_replicate];omega
theorem BX{CX:CXT}{P:cz}{w:fy}{K:cq}{mg:Str->Option bb}{base:Heap}{k:Nat}{f:Addr}{name qual:Str}{params:uv}{body:List Stmt}{scope:Scope}{dV kV ab pm z ct oc:bb}{an od:Option Addr}
  {osl:Array (Option bb)}{N ps:List Str}{sp:Sp} (lk:K.lookup f=some ⟨oc,od,.func (va name qual params body scope dV kV ab pm an z ct),osl⟩) (hcd:W.codeIn K z qual=true) (S:FnScope N ps scope)
  (len:∀vs H Q E,sp vs H Q E->vs.length=ps.length)
  (hbody:∀(A:ft) (outer:List Env) (s:bd) (H:Hp) (vs:List V) (Q:VK) (E:XK),Room k (A.deeper (ur qual scope s.heap.objs.size f z))->sp vs H Q E ->
   ∃t,PSs (eF CX P w K mg base N qual scope f z A outer s H E) body t/\t { nx:=fun _ H'=>Q .non H',rt:=Q } (start N vs) H):
  FnOk P w K mg base CX (k+1) f (va name qual params body scope dV kV ab pm an z ct) ps sp:=by
 refine⟨len,fun A outer s H args us vs Q E hr e0 hb r ac=>?_⟩;have hl:=len _ _ _ _ ac;have KX:K.In s.heap:=e0.kIn;have ae:s.heap.NoLimit:=e0.mod.nolimit.keeps fun b o e=>(e0.bs b o e).1;have aa:∀y∈ps.zip us,scope.names.lookup y.1=some .local\/(scope.names.lookup y.1=some .cell/\((cellsFrom (s.heap.objs.size+1) scope.names []).lookup y.1).isSome=true):=fun⟨n,v⟩ hy=>by
  rcases S.par n (of_mem_zip hy).1 with q|q
  ·exact .inl q
  ·exact .inr ⟨q,ue _ _ _ (.inl q)⟩
 refine codeAny_call_function hr.depth (KX _ _ lk) rfl S.co S.gen rfl (W.codeRec_of KX hcd) (hb _ _ _ _ ?_);refine wpAny_newFunctionEnv_cells S.kind aa fun env he s1 x=>?_;subst he;refine⟨ae.keeps x.toInCall.keep,codeAny_func ?_⟩;obtain⟨t,ht,hq⟩:=hbody A outer s H vs Q E (hr.deeper _) ac;have I:Inv (eF CX P w K mg base N qual scope f z A outer s H E) [] (start N vs) H s1:=Hd S hr.hd e0 hl r x;refine qz (ht [] s1 (start N vs) H _ I hq) (fun fl s' hs=>?_) fun e s' hs=>hs;have fin:∀{σ':St}{H':Hp}{v:V}{u:bb},Inv (eF CX P w K mg base N qual scope f z A outer s H E) [] σ' H' s'->RelV v u->Q v H'->CE outer P w H s Q u s':=
  fun {σ' H' v u} J rv q=>⟨v,H',J.os,J.bare,J.base,J.hok,rv,q⟩
 cases fl with
 |ret u=>
  obtain⟨v,σ',H',J,rv,q⟩:=hs;exact fin J rv q
 |next=>
  obtain⟨σ',H',J,q⟩:=hs;exact fin (v:=V.non) (u:=jr) J rfl q
 |brk=>
  obtain⟨_,_,_,q⟩:=hs;exact ou q
 |cont=>
  obtain⟨_,_,_,q⟩:=hs;exact ou q
end
section
section
variable {X:Cx}{x:Str}{p pos:Pos}{e:Expr}{es:List Expr}{t:TA}{id T:String}{r:List V->Hp->VK->Prop}
def tCB(r:List V->Hp->VK->Prop)(t:TA):TE:=fun σ H Q=>t σ H fun vs H1=>r vs H1 Q
theorem zv(hc:CallR X (.builtin id) r)(hg:Gl X x)(hm:X.mg x=none)(hv:jc x=some (.builtin id))(ha:PA X (e::es) t)(hn:x ≠ "__name__":=by decide)(q:(x==("__debug__":Str))=false:=by decide)
  (he:dq (e::es) X.env=(false,eval e X.env)::dq es X.env:=by rfl) (hpl:(ow pos (dq es X.env)).any (·.1)=false:=by rfl):PE X (.Call (.Name x p) (e::es) [] pos) (tCB r t):=by
 intro zi s σ H Q I h;refine lq (fI I hg hm hv ?_ hn q);exact PyProof.Rows.callWith_builtin1 (thn (ha pos zi s σ H _ I h) fun us s1 ⟨vs,H1,I1,r1,q1⟩=>hc zi s1 σ H1 vs us Q I1 r1 q1) he hpl
theorem iG(hc:CallR X (.type T) r)(hg:Gl X x)(hm:X.mg x=none)(hv:jc x=some (.type T))(ha:PA X (e::es) t)(hn:x ≠ "__name__":=by decide)(q:(x==("__debug__":Str))=false:=by decide)
  (he:dq (e::es) X.env=(false,eval e X.env)::dq es X.env:=by rfl) (hpl:(ow pos (dq es X.env)).any (·.1)=false:=by rfl):PE X (.Call (.Name x p) (e::es) [] pos) (tCB r t):=by
 intro zi s σ H Q I h;refine lq (fI I hg hm hv ?_ hn q);exact je (thn (ha pos zi s σ H _ I h) fun us s1 ⟨vs,H1,I1,r1,q1⟩=>hc zi s1 σ H1 vs us Q I1 r1 q1) he hpl
end
end
end L2
namespace HT
open PySem PyProof.Rows
def lexLt:List Int->List Int->Bool
 | [],[]=>false
 | [],_::_=>true
 |_::_,[]=>false
 |x::xs,y::ys=>if x=y then lexLt xs ys else decide (x<y)
theorem lexLt_cons(x y:Int)(xs ys:List Int):lexLt (x::xs) (y::ys)=if x=y then lexLt xs ys else decide (x<y):=rfl
theorem Gu:lexLt [] []=false:=rfl
theorem Li(y:Int)(ys:List Int):lexLt [] (y::ys)=true:=rfl
theorem HC(x:Int)(xs:List Int):lexLt (x::xs) []=false:=rfl
theorem NJ(A:ft)(s:bd)(a:Int)(t:Tok)(c:Int)(u:Tok):∃e,SeqAt.EqAt A s (.int a t) (.int c u) e/\(e=true↔a=c):=
 ⟨(a==c),SeqAt.EqAt.int_int a t c u,yv⟩
theorem JL(A:ft)(s:bd)(a:Int)(t:Tok)(c:Int)(u:Tok)(prog:cz)(w:fy)(E:bb->bd->Prop)(Q:bb->bd->Prop)(h:Q (.bool (decide (a<c))) s):
  bo (model prog w) A (richCompare .Lt (.int a t) (.int c u)) Q E s:=
 (PyProof.Rows.lt_int h:bo (model prog w) A (ir .Lt (.int a t) (.int c u)) Q E s)
section
open PySem.SeqAt
open PySem.AutoSeq1 (wpAny_loadPart')
open PySem.MeetsSeq PySem.MeetsSeq2 PySem.MeetsSeq3
theorem Kk(l b:Addr)(aa z:Array bb)(n n2:Nat)(dd af:Option Addr)(sl ae:Array (Option bb))(ns ms:List Int)(hi:uo aa.toList ns)(hj:uo z.toList ms):
  Meets (ny.«tuple.__lt__» ⟨[.ref l,.ref b],[]⟩)
   (fun _ R s=>s.heap.get? l=some { cls:=.type "tuple",dict:=dd,data:=.seq aa n,slots:=sl }/\s.heap.get? b=some { cls:=.type "tuple",dict:=af,data:=.seq z n2,slots:=ae } /\
    R (.ok (.ret (.bool (lexLt ns ms)))) s):=
 .of_wp fun prog w A R s h=>by
  obtain⟨hp,g,d,tk,os⟩:=s;obtain⟨hl,hb,h⟩:=h;have f2:=AutoSeq1.sub_tuple_tuple;have z1:aa.size=ns.length:=by rw[<- hi.length];simp
  have z2:z.size=ms.length:=by rw[<- hj.length];simp
  wp_walk using wpAny_loadPart' hl,wpAny_loadPart' hb,wpAny_forIn_list _ (fun rest b s'=>b.1=none/\s'=⟨hp,g,d,tk,os⟩/\∃(vs ws:List bb) (ns' ms':List Int),rest=vs.zip ws /\
   uo vs ns'/\uo ws ms'/\ns'.length+z.size=ms'.length+aa.size/\R (.ok (.ret (.bool (lexLt ns' ms')))) ⟨hp,g,d,tk,os⟩) _
  case turn=>
   rintro⟨y,x⟩ rest b s' ⟨hb',rfl,vs,ws,ns',ms',hz,hvi,hwi,hlen,hR⟩;cases hvi with
   |nil=>rw[List.zip_nil_left]at hz;cases hz
   |cons a t hvi'=>
    cases hwi with
    |nil=>rw[List.zip_nil_right]at hz;cases hz
    |cons c u hwi'=>
     rw[sn]at hz;injection hz with hyx hrest
     injection hyx with hy hx
     subst hy hx;rw[lexLt_cons]at hR;simp only[cx]at hlen;obtain⟨e,he,ab⟩:=NJ A.in1 ⟨hp,g,d,tk,os⟩ a t c u;refine ba (he prog w _ _ ?_);cases e with
     |true=>
      rw[cy (ab.mp rfl)]at hR
      wp_walk
      exact⟨rfl,rfl,_,_,_,_,hrest,hvi',hwi',yw,hR⟩
     |false=>
      rw[cr (fun q=>absurd (ab.mpr q) gj)]at hR;have ac:=JL A.in1 ⟨hp,g,d,tk,os⟩ a t c u prog w
      wp_walk using ac
      exact⟨_,rfl,by simpa using hR⟩
  case fin=>
   rintro⟨b1,b2⟩ s' ⟨hb',rfl,vs,ws,ns',ms',hz,hvi,hwi,hlen,hR⟩;simp only at hb';subst hb';have hv:lexLt ns' ms'=decide (aa.size<z.size):=by
    cases hvi with
    |nil=>
     cases hwi with
     |nil=>
      simp only[tp]at hlen;rw[Gu];exact(ff yw).symm
     |cons c u hw=>
      simp only[tp,cx]at hlen;rw[Li];exact(fz yw).symm
    |cons a t hv=>
     cases hwi with
     |nil=>
      simp only[tp,cx]at hlen;rw[HC];exact(ff yw).symm
     |cons c u hw=>
      rw[sn]at hz;cases hz
   rw[hv]at hR
   wp_walk
   exact⟨_,rfl,by simpa[Builtin.Tuple.tupleCompareSizes]using hR⟩
  case h=>
   exact⟨rfl,rfl,aa.toList,z.toList,ns,ms,rfl,hi,hj,yw,h⟩
end
section
variable {prog:cz}{w:fy}{A:ft}{E:bb->bd->Prop}{s:bd}
theorem lt_tupInts{l b:Addr}{z q:Array bb}{ns ms:List Int}{Q:bb->bd->Prop}(hl:IsTup s.heap l z)(hb:IsTup s.heap b q)(hi:uo z.toList ns)(hj:uo q.toList ms)
  (hu:A.units<kq) (h:Q (.bool (lexLt ns ms)) s):bo (model prog w) A (ir .Lt (.ref l) (.ref b)) Q E s:=by
 obtain⟨⟨cls,dd,data,sl⟩,ho,hc,n,hd⟩:=id hl;obtain⟨⟨ah,ae,ag,af⟩,ac,aa,n2,ab⟩:=id hb;simp only at hc hd aa ab;subst hc hd aa ab;exact richCompare_meets_room (op:=.Lt) ⟨_,ho,rfl⟩ ⟨_,ac,rfl⟩ PySem.F.slot_tuple_lt PySem.F.entry_tuple_lt (PySem.F.args_tuple_lt_2 _ _) (Kk l b z q n n2 dd ae sl af ns ms hi hj)
  ⟨ho,ac,show jx (lexLt ns ms)≠Value.notImplemented/\Q (.bool (lexLt ns ms)) s from⟨(fun x=>nomatch x),h⟩⟩ hu
theorem cat_tup{t b:Addr}{vs ws:List bb}{Q:bb->bd->Prop}(ht:IsTup s.heap t vs.toArray)(hb:IsTup s.heap b ws.toArray)(hv:vs≠[])
  (h1:ws=[]->Q (.ref t) s) (h2:ws≠[]->Q (.ref s.heap.objs.size) { s with heap:=s.heap.push { cls:=.type "tuple",data:=.seq (vs++ws).toArray } })
  (hsz:vs.length+ws.length<=dn):bo (model prog w) A (on .Add (.ref t) (.ref b)) Q E s:=by
 obtain⟨⟨cls,dd,data,sl⟩,ho,hc,n,hd⟩:=id ht;obtain⟨⟨af,aa,ae,ab⟩,q,z,n2,ac⟩:=id hb;simp only at hc hd z ac;subst hc hd z ac;have e:vs.toArray++ws.toArray=(vs++ws).toArray:=by simp
 by_cases hw:ws=[]
 ·exact concat_meets ⟨_,ho,rfl⟩ ⟨_,q,rfl⟩ noFill_tuple_add seq_tuple_add PySem.F.slot_tuple_add PySem.F.entry_tuple_add (PySem.F.args_tuple_add_2 _ _)
   (tuple_addW1 t b vs.toArray ws.toArray n n2 dd aa sl ab (by simpa using hv) (by simp[hw])) ⟨ho,q,h1 hw⟩
 ·refine concat_meets ⟨_,ho,rfl⟩ ⟨_,q,rfl⟩ noFill_tuple_add seq_tuple_add PySem.F.slot_tuple_add PySem.F.entry_tuple_add (PySem.F.args_tuple_add_2 _ _)
   (tuple_addW2 t b vs.toArray ws.toArray n n2 dd aa sl ab (by simpa using hv) (by simpa using hw) (by rw[fk,fk];exact hsz)) ⟨ho,q,?_⟩
  rw[e];exact h2 hw
def sIx(n d:Nat):Option Int->Nat
 |none=>d
 |some v=>if v<0 then (v+(n:Int)).toNat else min v.toNat n
theorem sIx_nat(n d k:Nat):sIx n d (some (k:Int))=min k n:=by
 show (if (k:Int)<0 then ((k:Int)+(n:Int)).toNat else min (k:Int).toNat n)=min k n;rw[cr yw,gn]
theorem Jw(n d:Nat)(hd:d<=n)(o:Option Int):sIx n d o<=n:=by
 cases o with
 |none=>exact hd
 |some v=>
  show (if v<0 then (v+(n:Int)).toNat else min v.toNat n)<=n;by_cases hv:v<0
  ·rw[cy hv];omega
  ·rw[cr hv];exact Nat.min_le_right _ _
theorem E1(v:Int)(n d:Nat):(if v<0 then max (v+(n:Int)) 0 else min v (n:Int))=((sIx n d (some v):Nat):Int):=by
 show (if v<0 then max (v+(n:Int)) 0 else min v (n:Int))=(((if v<0 then (v+(n:Int)).toNat else min v.toNat n):Nat):Int);by_cases hv:v<0
 ·simp only[cy hv];omega
 ·simp only[cr hv];omega
theorem Nn(lo hi:Option Int)(n:Nat):Builtin.Slice.sliceAdjust lo hi 1 (n:Int)=(((sIx n 0 lo:Nat):Int),((sIx n n hi:Nat):Int)):=by
 have h1:¬((1:Int)<0):=yw
 unfold Builtin.Slice.sliceAdjust;simp only[h1,if_false];refine Prod.ext ?_ ?_
 ·cases lo with
  |none=>rfl
  |some v=>exact E1 v n 0
 ·cases hi with
  |none=>rfl
  |some v=>exact E1 v n n
theorem K6(i j:Nat):Builtin.Slice.slicePlaces (i:Int) (j:Int) 1=j-i:=by
 unfold Builtin.Slice.slicePlaces;have h1:(1:Int)>0:=yw
 simp only[h1,if_true,Int.ediv_one];split<;>omega
theorem DB{v:bb}{o:Option Int}{Q:Option Int->bd->Prop}(p:IsPart v o)(h:Q o s):bo (model prog w) A (Builtin.Slice.slicePartIndex v) Q E s:=by
 cases p with
 |none=>exact slicePart_none h
 |int i t=>exact slicePart_int h
theorem Ky{sl:Addr}{vl vu:bb}{lo hi:Option Int}{n:Nat}{Q:Int×Int×Nat->bd->Prop}(hs:s.heap.IsSliceOf sl vl vu .none)(pl:IsPart vl lo)(pu:IsPart vu hi)
  (h:Q (((sIx n 0 lo:Nat):Int),1,sIx n n hi-sIx n 0 lo) s):bo (model prog w) A (Builtin.Slice.sliceApplied (.ref sl) (pure (n:Int))) Q E s:=by
 obtain⟨os,q,aa,z⟩:=id hs;unfold Builtin.Slice.sliceApplied Builtin.Slice.sliceFields;refine ba (ba (jf q z (x:=vl) rfl (ba (jf q z (x:=vu) rfl (ba (jf q z (x:=.none) rfl (be ?_)))))));refine ba (slicePart_none ?_);show bo _ _ (if ((1:Int)==0)=true then _ else _) _ _ s;rw[cr dz];refine ba (DB pl (ba (DB pu (ba (be ?_)))));show bo _ _ (match Builtin.Slice.sliceAdjust lo hi 1 (n:Int)with|(lo,hi)=>pure (lo,(1:Int),Builtin.Slice.slicePlaces lo hi 1)) _ _ s;rw[Nn lo hi n];show bo _ _ (pure (((sIx n 0 lo:Nat):Int),(1:Int),Builtin.Slice.slicePlaces ((sIx n 0 lo:Nat):Int) ((sIx n n hi:Nat):Int) 1)) _ _ s;rw[K6];exact be h
theorem HE(xs:Array bb)(i k:Nat):((fh k).filterMap fun(m:Nat)=>xs[((i:Int)+(m:Int)*1).toNat]?).toArray=((xs.toList.drop i).take k).toArray:=by
 have e:(fun(m:Nat)=>xs[((i:Int)+(m:Int)*1).toNat]?)=fun m=>xs[i+m]?:=by
  funext m;have:((i:Int)+(m:Int)*1).toNat=i+m:=yw
  rw[this]
 rw[e];have:=pick_run xs i k;rw[List.filterMap_map]at this;have e2:((fun x=>xs[x]?)∘fun x=>i+x)=fun m=>xs[i+m]?:=rfl;rw[e2]at this;rw[this]
theorem getItem_tuple_cut{t sl:Addr}{z:Array bb}{vl vu:bb}{lo hi:Option Int}{Q:bb->bd->Prop}(ht:IsTup s.heap t z)(hs:s.heap.IsSliceOf sl vl vu .none)(pl:IsPart vl lo)(pu:IsPart vu hi)
  (hw:¬(sIx z.size 0 lo=0/\sIx z.size z.size hi=z.size))
  (h:Q (.ref s.heap.objs.size) { s with heap:=s.heap.push { cls:=.type "tuple",data:=.seq ((z.toList.drop (sIx z.size 0 lo)).take (sIx z.size z.size hi-sIx z.size 0 lo)).toArray } })
  (hsz:z.size<=dn):bo (model prog w) A (getItem (.ref t) (.ref sl)) Q E s:=by
 have aa:sizeOk (.seq ((z.toList.drop (sIx z.size 0 lo)).take (sIx z.size z.size hi-sIx z.size 0 lo)).toArray):=by
  show ((z.toList.drop (sIx z.size 0 lo)).take (sIx z.size z.size hi-sIx z.size 0 lo)).toArray.size<=dn;rw[fk,ku,length_drop,fu];omega
 have hj:sIx z.size z.size hi<=z.size:=Jw _ _ (dh _) hi;obtain⟨os,ab,af,ag⟩:=id hs;have ac:s.TypeIs (.ref sl) "slice":=⟨os,ab,af⟩;unfold getItem
 try with_reducible refine iq ?_
 first|refine ba (be ?_)|skip
 refine ba (wpAny_sequenceKey ht.typeIs dz ?_);refine ba (gx (name:=ju "__getitem__") ht.typeIs PyProof.Rows.slot_tuple_getitem
  (ia PyProof.Rows.slot_tuple_getitem ht.typeIs entry_tuple_getitem ?_ (args_tuple_getitem _ _)))
 show bo _ _ (Builtin.Tuple.tupleItemsOf (.ref t) >>= _) _ _ s;refine ba (tupleItemsOf_ ht ?_);refine ba (wpAny_typeOf ac ?_);rw[cy dz];refine ba (Ky hs pl pu ?_);have ae:¬((((sIx z.size 0 lo:Nat):Int)==0&&(1:Int)==1&&(sIx z.size z.size hi-sIx z.size 0 lo)==z.size)=true):=by
  intro q;rw[gc,gc]at q;have q1:((sIx z.size 0 lo:Nat):Int)=0:=eq_of_beq q.1.1;have q2:sIx z.size z.size hi-sIx z.size 0 lo=z.size:=eq_of_beq q.2;exact hw ⟨yw,yw⟩
 show bo _ _ (if (((sIx z.size 0 lo:Nat):Int)==0&&(1:Int)==1&&(sIx z.size z.size hi-sIx z.size 0 lo)==z.size)=true then _ else _) _ _ s;rw[cr ae,HE]
 first
  |exact ba (m:=Builtin.Tuple.tupleExact _) (gb (be ⟨_,rfl,be h⟩) aa)
  |exact ba (m:=Builtin.Tuple.tupleExact _) (gb (ba (be (be ⟨_,rfl,be h⟩))) aa)
  |exact ba (ba (m:=Builtin.Tuple.tupleExact _) (gb (be (be ⟨_,rfl,be h⟩)) aa))
  |exact ba (ba (m:=Builtin.Tuple.tupleExact _) (gb (be ⟨_,rfl,be h⟩) aa))
end
end HT
namespace L2
open PySem PySem.Spec PyProof.Rows
section
abbrev TO:=St->Hp->(Option Int->Hp->Prop)->Prop
def PO(X:Cx)(e:Option Expr)(t:TO):Prop:=
 ∀(zi:List (Addr×Obj)) (s:bd) (σ:St) (H:Hp) (Q:Option Int->Hp->Prop),Inv X zi σ H s->t σ H Q ->
  bo (model X.prog X.w) X.A (evalPart e X.env) (fun u s'=>∃o H',Inv X zi σ H' s'/\IsPart u o/\Q o H') X.xe s
def DY:TO:=fun _ H Q=>Q none H
def lY(t:TE):TO:=fun σ H Q=>t σ H fun x H1=>∃i,x=.int i/\Q (some i) H1
theorem jH{ns:List Int}:∀{us:List bb},Vals (ns.map V.int) us->uo us ns:=by
 induction ns with
 |nil=>intro us r;rw[vb]at r;cases r;exact .nil
 |cons n ns ih=>
  intro us r;rw[fm]at r;cases r with
  |cons r1 r2=>
   obtain⟨t,e⟩:=r1;subst e;exact .cons n t (ih r2)
section
variable {X:Cx}{e:Expr}{te:TE}{lo hi:Option Expr}{tl th:TO}{pos p2:Pos}
theorem rP:PO X none DY:=by
 intro zi s σ H Q I h;rw[evalPart_none];exact be ⟨none,H,I,.none,h⟩
theorem lB(h:PE X e te):PO X (some e) (lY te):=by
 intro zi s σ H Q I hw;rw[evalPart_some];refine thn (h zi s σ H _ I hw) fun u s1 ⟨x,H1,I1,r1,q1⟩=>?_;obtain⟨i,rfl,q⟩:=q1;obtain⟨t,rfl⟩:=r1;exact⟨some i,H1,I1,.int i t,q⟩
def SlR(X:Cx)(r:V->Option Int->Option Int->Hp->VK->Prop):Prop:=
 ∀(zi:List (Addr×Obj)) (s:bd) (σ:St) (H:Hp) (x:V) (v vl vu:bb) (lo hi:Option Int) (sl:Addr) (Q:VK),Inv X zi σ H s->RelV x v->s.heap.IsSliceOf sl vl vu .none->IsPart vl lo->IsPart vu hi->r x lo hi H Q ->
  ∃T id,typeLookup (.type T) "__getitem__" = pure (some (.builtin id))/\s.TypeIs v T/\bo (model X.prog X.w) X.A (getItem v (.ref sl)) (EP X zi σ Q) X.xe s
theorem SlR.or{r r':V->Option Int->Option Int->Hp->VK->Prop}(h:SlR X r)(h':SlR X r'):SlR X (fun x lo hi H Q=>r x lo hi H Q\/r' x lo hi H Q):=by
 intro zi s σ H x v vl vu lo hi sl Q I rx hs pl pu q;rcases q with q|q
 ·exact h zi s σ H x v vl vu lo hi sl Q I rx hs pl pu q
 ·exact h' zi s σ H x v vl vu lo hi sl Q I rx hs pl pu q
def tSl(r:V->Option Int->Option Int->Hp->VK->Prop)(te:TE)(tl th:TO):TE:=fun σ H Q=>te σ H fun x H1=>tl σ H1 fun l H2=>th σ H2 fun u H3=>r x l u H3 Q
theorem lL{r:V->Option Int->Option Int->Hp->VK->Prop}(hr:SlR X r)(he:PE X e te)(hl:PO X lo tl)(hu:PO X hi th):PE X (.Subscript e (.Slice lo hi none p2) pos) (tSl r te tl th):=by
 intro zi s σ H Q I h;refine Subscript_ (thn (he zi s σ H _ I h) fun v s1 ⟨x,H1,I1,r1,q1⟩=>?_);refine wpAny_Slice (thn (hl zi s1 σ H1 _ I1 q1) fun vl s2 ⟨l,H2,I2,pl,q2⟩=>thn (hu zi s2 σ H2 _ I2 q2) fun vu s3 ⟨u,H3,I3,pu,q3⟩=>?_);rw[evalPart_none];refine be ?_;have I4:Inv X zi σ H3 { s3 with heap:=s3.heap.push { cls:=.type "slice",data:=.fields #[vl,vu,.none] } }:=I3.kept (t':=s3.toks) fun b ob q=>bf _ q;obtain⟨T,id,hT,ht,hg⟩:=hr zi { s3 with heap:=s3.heap.push { cls:=.type "slice",data:=.fields #[vl,vu,.none] } } σ H3 x v vl vu l u s3.heap.objs.size Q I4 r1 (Heap.IsSliceOf.new ..) pl pu q3;show bo (model X.prog X.w) X.A (subscriptTail e (.Slice lo hi none p2) v (.ref s3.heap.objs.size)) (EP X zi σ Q) X.xe { s3 with heap:=s3.heap.push { cls:=.type "slice",data:=.fields #[vl,vu,.none] } };exact tail_any (ops:=[.ref s3.heap.objs.size,v]) ht hT hg (by with_unfolding_all rfl)
def dY(xs:List V)(lo hi:Option Int):List V:=(xs.drop (HT.sIx xs.length 0 lo)).take (HT.sIx xs.length xs.length hi-HT.sIx xs.length 0 lo)
theorem wP(xs:List V)(lo hi:Option Int):(dY xs lo hi).length<=xs.length:=by
 unfold dY;rw[ku,length_drop];omega
def A3(K:cq):V->Option Int->Option Int->Hp->VK->Prop:=fun x lo hi H Q=>∃a xs,x=.ref a/\SqT K H a xs /\
 ¬(HT.sIx xs.length 0 lo=0/\HT.sIx xs.length xs.length hi=xs.length)/\∀p,H p=none->Q (.ref p) (upd H p (.tup (dY xs lo hi)))
theorem Ho:SlR X (A3 X.K):=by
 intro zi s σ H x v vl vu lo hi sl Q I rx hs pl pu h;obtain⟨a,xs,rfl,hx,hw,q⟩:=h;cases rx;obtain⟨aa,r,ht,hz⟩:=I.tuple hx;have z:aa.toArray.size=xs.length:=by rw[fk];exact r.length.symm
 refine⟨"tuple",_,PyProof.Rows.slot_tuple_getitem.lookup,ht.typeIs,?_⟩;refine HT.getItem_tuple_cut ht hs pl pu (by rw[z];exact hw) ?_ (by rw[z];exact hz);rw[z];refine⟨.ref s.heap.objs.size,_,I.laid (t':=s.toks) (o:=.tup (dY xs lo hi)) (fun b ob q=>bf _ q) (dh _) ?_,rfl,q _ (I.hok.fresh (dh _))⟩;exact⟨⟨gm (wP xs lo hi) hz,_,bv _ rfl,rfl,I.kpNew⟩,_,(r.drop (HT.sIx xs.length 0 lo)).take (HT.sIx xs.length xs.length hi-HT.sIx xs.length 0 lo),IsTup.new _ _⟩
def wM(K:cq):R2:=fun x y H Q=>∃a b xs ys,x=.ref a/\y=.ref b/\SqT K H a xs/\SqT K H b ys/\xs≠[]/\xs.length+ys.length<=dn /\
 (ys=[]->Q (.ref a) H)/\(ys≠[]->∀p,H p=none->Q (.ref p) (upd H p (.tup (xs++ys))))
theorem Vals.nil_iff{xs:List V}{us:List bb}(r:Vals xs us):us=[]↔xs=[]:=by
 cases r with
 |nil=>simp
 |cons _ _=>simp
theorem Jb:OpR X (on .Add) (wM X.K):=by
 intro zi s σ H x y v u Q I rx ry h;obtain⟨a,b,xs,ys,rfl,rfl,ha,hb,hx,hz,q1,q2⟩:=h;cases rx;cases ry;obtain⟨ab,r1,p1,_⟩:=I.tuple ha;obtain⟨aa,r2,p2,_⟩:=I.tuple hb;refine HT.cat_tup p1 p2 (fun z=>hx (r1.nil_iff.mp z)) (fun z=>⟨.ref a,H,I,rfl,q1 (r2.nil_iff.mp z)⟩) (fun z=>?_) (by rw[<- r1.length,<- r2.length];exact hz);refine⟨.ref s.heap.objs.size,_,I.laid (t':=s.toks) (o:=.tup (xs++ys)) (fun b ob q=>bf _ q) (dh _) ?_,rfl,q2 (fun w=>z (r2.nil_iff.mpr w)) _ (I.hok.fresh (dh _))⟩;exact⟨⟨by rw[ck];exact hz,_,bv _ rfl,rfl,I.kpNew⟩,_,r1.append r2,IsTup.new _ _⟩
end
end
section
def ixN(n:Nat)(i:Int):Option Nat:=if 0<=i then (if i<n then some i.toNat else none)else if -(n:Int)<=i then some (i+n).toNat else none
def atI{α:Type}(xs:List α)(i:Int):Option α:=(ixN xs.length i).bind fun j=>xs[j]?
theorem Fx{n:Nat}{i:Int}{j:Nat}(h:ixN n i=some j):seqIndex? i n=some j/\j<n/\-(n:Int)<=i/\i<n:=by
 unfold ixN at h;by_cases h0:0<=i
 ·rw[cy h0]at h;by_cases h1:i<n
  ·rw[cy h1]at h;have e:i.toNat=j:=ic h;exact⟨by rw[seqIndex_of h0 h1,e],yw,yw,h1⟩
  ·rw[cr h1]at h;cases h
 ·rw[cr h0]at h;by_cases h1:-(n:Int)<=i
  ·rw[cy h1]at h;have e:(i+n).toNat=j:=ic h;exact⟨by rw[seqIndex_neg yw h1,e],yw,h1,yw⟩
  ·rw[cr h1]at h;cases h
theorem xW{α:Type}{xs:List α}{i:Int}{v:α}(h:atI xs i=some v):∃j,seqIndex? i xs.length=some j/\xs[j]?=some v/\j<xs.length/\-(xs.length:Int)<=i/\i<xs.length:=by
 unfold atI at h;cases e:ixN xs.length i with
 |none=>rw[e]at h;cases h
 |some j=>
  rw[e]at h;obtain⟨h1,h2,h3,h4⟩:=Fx e;exact⟨j,h1,h,h2,h3,h4⟩
theorem hZ{α:Type}{xs:List α}{j:Nat}{v:α}(h:xs[j]?=some v):atI xs (j:Int)=some v:=by
 have hj:j<xs.length:=(List.getElem?_eq_some_iff.mp h).1;have e:ixN xs.length (j:Int)=some j:=by
  unfold ixN;rw[cy yw,cy yw];simp
 unfold atI;rw[e];exact h
def PlainIx(b:Expr):Prop:=∀o i,subscripted b false o i=operate [o,i] (getItem o i)
def IxR(X:Cx)(r:R2):Prop:=
 ∀(value slice:Expr) (zi:List (Addr×Obj)) (s:bd) (σ:St) (H:Hp) (x y:V) (v u:bb) (Q:VK),Inv X zi σ H s->RelV x v->RelV y u->r x y H Q ->
  subscripted slice false v u=operate [v,u] (getItem v u)->bo (model X.prog X.w) X.A (subscriptTail value slice v u) (EP X zi σ Q) X.xe s
def MtR(X:Cx)(id:String)(r:V->List V->Hp->VK->Prop):Prop:=
 ∀(zi:List (Addr×Obj)) (s:bd) (σ:St) (H:Hp) (x:V) (xs:List V) (v:bb) (us:List bb) (Q:VK),Inv X zi σ H s->RelV x v->Vals xs us->r x xs H Q ->
  bo (model X.prog X.w) X.A (call (.builtin id) (v::us)) (EP X zi σ Q) X.xe s
section
variable {X:Cx}{a b:Expr}{ta tb:TE}{pos:Pos}
theorem IxR.or{r r':R2}(h:IxR X r)(h':IxR X r'):IxR X (fun x y H Q=>r x y H Q\/r' x y H Q):=by
 intro value z zi s σ H x y v u Q I rx ry q hs;rcases q with q|q
 ·exact h value z zi s σ H x y v u Q I rx ry q hs
 ·exact h' value z zi s σ H x y v u Q I rx ry q hs
theorem zD{r:R2}(hr:IxR X r)(ha:PE X a ta)(hb:PE X b tb)(hs:PlainIx b):PE X (.Subscript a b pos) (tOp r ta tb):=by
 intro zi s σ H Q I h;exact Subscript_ (wR ha hb I h fun v u s2 x y H2 I2 rx ry q=>hr a b zi s2 σ H2 x y v u Q I2 rx ry q (hs _ _))
def xD(K:cq):R2:=fun x y H Q=>∃p xs i v,x=.ref p/\y=.int i/\SqL K H p xs/\atI xs i=some v/\Q v H
def AR(K:cq):R2:=fun x y H Q=>∃p xs i v,x=.ref p/\y=.int i/\SqT K H p xs/\atI xs i=some v/\Q v H
def A1:R2:=fun x y H Q=>∃z i c,x=.str z/\y=.int i/\z.length<=dn/\atI z.cps.toList i=some c/\Q (.str ⟨#[c]⟩) H
theorem Bb:IxR X (xD X.K):=by
 intro value ab zi s σ H x y v u Q I rx ry h hs;obtain⟨p,xs,i,z,rfl,rfl,hq,he,q⟩:=h;cases rx;obtain⟨t,rfl⟩:=ry;obtain⟨aa,r,pl,hz⟩:=I.list hq;obtain⟨j,h1,h2,h3,h4,h5⟩:=xW he;obtain⟨w,ew,ac⟩:=r.get h2;have hl:=r.length;have hn:=line63;have fin:EP X zi σ Q w s:=⟨z,H,I,ac,q⟩;by_cases h0:0<=i
 ·have hj:i.toNat=j:=by
   rw[seqIndex_of h0 h5]at h1;exact ic h1
  exact item_listR pl.isList h0 yw (by rw[hj];simpa using ew) fin hs
 ·have hj:(i+(aa.toArray.size:Int)).toNat=j:=by
   rw[seqIndex_neg yw h4]at h1;rw[fk,<- hl];exact ic h1
  exact subscriptTail_builtinR (x:=w) pl.isList.typeIs slot_list_getitem.lookup
   (wpAny_getItem_list_neg (Q:=fun r s'=>r=w/\EP X zi σ Q r s') pl.isList yw (by rw[fk]<;>omega) yw (by rw[hj];simpa using ew) ⟨rfl,fin⟩) hs
theorem JW:IxR X (AR X.K):=by
 intro value aa zi s σ H x y v u Q I rx ry h hs;obtain⟨p,xs,i,z,rfl,rfl,hq,he,q⟩:=h;cases rx;obtain⟨t,rfl⟩:=ry;obtain⟨ac,r,pl,hz⟩:=I.tuple hq;obtain⟨j,h1,h2,h3,h4,h5⟩:=xW he;obtain⟨w,ew,ab⟩:=r.get h2;have hl:=r.length;have hn:=line63;have fin:EP X zi σ Q w s:=⟨z,H,I,ab,q⟩;exact subscriptTail_builtinR (x:=w) pl.typeIs slot_tuple_getitem.lookup
  (getItem_tuple (j:=j) (Q:=fun r s'=>r=w/\EP X zi σ Q r s') pl yw yw (by rw[fk,<- hl];exact h1) (by simpa using ew) ⟨rfl,fin⟩) hs
theorem KF:IxR X A1:=by
 intro value aa zi s σ H x y v u Q I rx ry h hs;obtain⟨z,i,c,rfl,rfl,hz,he,q⟩:=h;obtain⟨t,rfl⟩:=rx;obtain⟨t',rfl⟩:=ry;obtain⟨j,h1,h2,h3,h4,h5⟩:=xW he;have hl:z.cps.toList.length=z.length:=by simp[Str.length]
 rw[hl]at h1 h4 h5;have hn:=line63;exact tail_any (typeIs_str s z t) slot_str_getitem.lookup (getItem_str (c:=c) (by
  have e1:decide (i < -(2 ^ 63:Int))=false:=ff yw;have e2:decide (i≥2 ^ 63)=false:=ff yw;rw[e1,e2,Bool.or_false]) (by rw[h1];simpa using h2) ⟨.str ⟨#[c]⟩,H,I.tok _,⟨_,rfl⟩,q⟩) hs
def rIx(K:cq):R2:=fun x y H Q=>xD K x y H Q\/AR K x y H Q\/A1 x y H Q
theorem zr:IxR X (rIx X.K):=Bb.or (JW.or KF)
theorem HP(q:List bb)(n j:Nat)(u:bb):ix (·.setIfInBounds j u) { cls:=.type "list",data:=.seq q.toArray n } = { cls:=.type "list",data:=.seq (q.set j u).toArray n }:=by
 simp[ix]
theorem Inv.lst{zi:List (Addr×Obj)}{σ:St}{H:Hp}{s:bd}{p:Addr}{xs:List V}(I:Inv X zi σ H s)(h:H p=some (.lst xs)):
  ∃(q:List bb) (n:Nat),Vals xs q/\s.heap.get? p=some { cls:=.type "list",data:=.seq q.toArray n }/\xs.length<=dn:=by
 obtain⟨z,q,n,r,e⟩:=I.hok p _ h;exact⟨q,n,r,e,z⟩
theorem Inv.lstUpd{zi:List (Addr×Obj)}{σ:St}{H:Hp}{s:bd}{p:Addr}{xs ys:List V}{z its':List bb}{n n':Nat}{f:Obj->Obj}(I:Inv X zi σ H s)(h:H p=some (.lst xs))
  (ho:s.heap.get? p=some { cls:=.type "list",data:=.seq z.toArray n }) (hf:f { cls:=.type "list",data:=.seq z.toArray n } = { cls:=.type "list",data:=.seq its'.toArray n' }) (r:Vals ys its') (hz:ys.length<=dn) (t:Nat):
  Inv X zi σ (upd H p (.lst ys)) { s with heap:=s.heap.update p f,toks:=t }:=by
 have e:(s.heap.update p f).get? p=some { cls:=.type "list",data:=.seq its'.toArray n' }:=by
  rw[kj f ho (by rw[hf]<;>rfl),hf]
 refine I.write (x:=p) (e:=p) (by rw[h];trivial) (.inl rfl) (fun b u hb q=>(jd _ _ (gq hb)).trans q) ⟨_,e⟩ ?_;exact⟨hz,its',n',r,e⟩
def Ao:V->V->V->Hp->(Hp->Prop)->Prop:=fun o i v H Q=>∃p xs k j,o=.ref p/\i=.int k/\H p=some (.lst xs)/\ixN xs.length k=some j/\Q (upd H p (.lst (xs.set j v)))
theorem Ah:PSet X Ao:=by
 intro zi s σ H o i v ov iv u Q I ro ri rv h;obtain⟨p,xs,k,j,rfl,rfl,hp,hj,q⟩:=h;cases ro;obtain⟨t,rfl⟩:=ri;obtain⟨z,n,r,ho,hz⟩:=I.lst hp;obtain⟨h1,h2,h3,h4⟩:=Fx hj;have hl:=r.length;have hn:=line63;have I':Inv X zi σ (upd H p (.lst (xs.set j v))) { s with heap:=s.heap.update p (ix (·.setIfInBounds j u)) } :=
  I.lstUpd hp ho (HP z n j u) (r.set rv j) (by rw[length_set];exact hz) s.toks
 by_cases h0:0<=k
 ·have hk:k.toNat=j:=by
   rw[seqIndex_of h0 h4]at h1;exact ic h1
  exact W.ki_setAt ho h0 yw (by rw[fk,<- hl];exact h4) (by rw[hk];exact⟨_,I',q⟩)
 ·have hk:(k+(z.toArray.size:Int)).toNat=j:=by
   rw[seqIndex_neg yw h3]at h1;rw[fk,<- hl];exact ic h1
  exact W.ki_setBack ho yw (by rw[fk,<- hl];exact h3) yw (by rw[hk];exact⟨_,I',q⟩)
theorem IV(lo hi:Option Int)(n:Nat):(uw lo hi none n).1=((HT.sIx n 0 lo:Nat):Int)/\(uw lo hi none n).2.1=((HT.sIx n n hi:Nat):Int)/\(uw lo hi none n).2.2=1:=by
 refine⟨?_,?_,rfl⟩
 ·cases lo with
  |none=>simp[uw,HT.sIx]
  |some i=>
   simp only[uw,HT.sIx,Option.getD_none,show (1:Int)>0 by decide,if_true];by_cases h:i<0
   ·simp only[h,if_true]<;>omega
   ·simp only[h,if_false]<;>omega
 ·cases hi with
  |none=>simp[uw,HT.sIx]
  |some i=>
   simp only[uw,HT.sIx,Option.getD_none,show (1:Int)>0 by decide,if_true];by_cases h:i<0
   ·simp only[h,if_true]<;>omega
   ·simp only[h,if_false]<;>omega
theorem N3(q:List bb)(lo hi:Option Int):slicePick q.toArray lo hi none=((q.drop (HT.sIx q.length 0 lo)).take (HT.sIx q.length q.length hi-HT.sIx q.length 0 lo)).toArray:=by
 obtain⟨h1,h2,h3⟩:=IV lo hi q.toArray.size;unfold slicePick;rw[h1,h2,h3];simp only[sliceRange_one,pick_run,fk]<;>rfl
def qW(K:cq):V->Option Int->Option Int->Hp->VK->Prop:=fun x lo hi H Q=>∃a xs,x=.ref a/\SqL K H a xs/\∀p,H p=none->Q (.ref p) (upd H p (.lst (dY xs lo hi)))
theorem Fg:SlR X (qW X.K):=by
 intro zi s σ H x v vl vu lo hi sl Q I rx hs pl pu h;obtain⟨a,xs,rfl,hx,q⟩:=h;cases rx;obtain⟨aa,r,ht,hz⟩:=I.list hx;have z:=r.length;refine⟨"list",_,slot_list_getitem.lookup,ht.isList.typeIs,?_⟩;refine wpAny_getItem_list_slice ht.isList hs pl pu .none yv ?_ (by rw[fk]<;>omega);rw[N3,<- z];refine⟨.ref s.heap.objs.size,_,I.laid (t':=s.toks) (o:=.lst (dY xs lo hi)) (fun b ob q=>bf _ q) (dh _) ?_,rfl,q _ (I.hok.fresh (dh _))⟩;exact⟨gm (wP xs lo hi) hz,_,0,(r.drop (HT.sIx xs.length 0 lo)).take (HT.sIx xs.length xs.length hi-HT.sIx xs.length 0 lo),bv _ rfl⟩
theorem By:CallR X (.builtin "len") (fun xs H Q=>∃p ys,xs=[.ref p]/\(SqL X.K H p ys\/SqT X.K H p ys)/\Q (.int ys.length) H):=by
 intro zi s σ H xs us Q I r h;obtain⟨p,ys,rfl,hq,q⟩:=h;obtain⟨u,rfl,rx⟩:=vals1 r;cases rx;have hn:=line63;rcases hq with hq|hq
 ·obtain⟨aa,r',pl,hz⟩:=I.list hq;have z:=r'.length;exact Calls.call_len_list pl.isList (by simp only[fk]<;>omega) ⟨.int ys.length,H,I.tok _,⟨s.toks+1,by rw[fk,z]⟩,q⟩
 ·obtain⟨aa,r',pl,hz⟩:=I.tuple hq;have z:=r'.length;exact len_tuple pl (by simp only[fk]<;>omega) ⟨.int ys.length,H,I.tok _,⟨s.toks+1,by rw[fk,z]⟩,q⟩
theorem Nl:CallR X (.builtin "len") (fun xs H Q=>∃z,xs=[.str z]/\z.length<=dn/\Q (.int z.length) H):=by
 intro zi s σ H xs us Q I r h;obtain⟨z,rfl,hz,q⟩:=h;obtain⟨u,rfl,t,rfl⟩:=vals1 r;have hn:=line63;exact len_str yw ⟨.int z.length,H,I.tok _,⟨_,rfl⟩,q⟩
theorem CallR.or{f:bb}{r r':List V->Hp->VK->Prop}(h:CallR X f r)(h':CallR X f r'):CallR X f (fun xs H Q=>r xs H Q\/r' xs H Q):=by
 intro zi s σ H xs us Q I rs q;rcases q with q|q
 ·exact h zi s σ H xs us Q I rs q
 ·exact h' zi s σ H xs us Q I rs q
theorem kH:CallR X (.type "tuple") (fun xs H Q=>∃p ys,xs=[.ref p]/\((SqL X.K H p ys/\∀l,H l=none->Q (.ref l) (upd H l (.tup ys)))\/(SqT X.K H p ys/\Q (.ref p) H))):=by
 intro zi s σ H xs us Q I r h;obtain⟨p,ys,rfl,h⟩:=h;obtain⟨u,rfl,rx⟩:=vals1 r;cases rx;rcases h with ⟨hq,q⟩|⟨hq,q⟩
 ·obtain⟨z,r',pl,hz⟩:=I.list hq;have aa:=r'.length;refine call_tuple_list pl.isList (fun h' kp=>?_) (by simp only[fk]<;>omega);have I1:Inv X zi σ H { s with heap:=h' }:=I.kept (t':=s.toks) kp;have I2:Inv X zi σ (upd H h'.objs.size (.tup ys)) { s with heap:=h'.push { cls:=.type "tuple",data:=.seq z.toArray } } :=
   I1.laid (t':=s.toks) (fun b o e=>bf _ e) (dh _) (show ObjOk X.prog X.w _ _ _ (.tup ys)from⟨⟨hz,_,bv _ rfl,rfl,I1.kpNew⟩,z,r',IsTup.new _ _⟩)
  exact⟨.ref h'.objs.size,_,I2,rfl,q _ (I1.hok.fresh (dh _))⟩
 ·obtain⟨z,r',pl,hz⟩:=I.tuple hq;exact call_tuple_same pl ⟨.ref p,H,I,rfl,q⟩
def tyV(K:cq)(T:String)(x:V)(H:Hp):Prop:=match x with
 | .str _=>T = "str"
 | .int _=>T = "int"
 | .ref p=>(T = "list"/\∃xs,SqL K H p xs)\/(T = "tuple"/\∃o,K.lookup p=some o/\o.cls=.type "tuple"/\o.dict=none) \/
   (T = "dict"/\((∃kvs,H p=some (.dK kvs))\/∃kvs,H p=some (.dT kvs)))\/(T = "set"/\∃S n,H p=some (.set S n))
 |_=>False
theorem EI{zi:List (Addr×Obj)}{σ:St}{H:Hp}{s:bd}{T:String}{x:V}{v:bb}(I:Inv X zi σ H s)(r:RelV x v)(ty:tyV X.K T x H):
  s.TypeIs v T/\∀a,v=.ref a->∃ob,s.heap.get? a=some ob/\ob.dict=none:=by
 cases x with
 |str z=>
  obtain⟨t,rfl⟩:=r;cases (show T = "str" from ty);exact⟨typeIs_str s z t,fun _ e=>nomatch e⟩
 |int i=>
  obtain⟨t,rfl⟩:=r;cases (show T = "int" from ty);exact⟨typeIs_int s i t,fun _ e=>nomatch e⟩
 |ref p=>
  cases r;rcases ty with ⟨rfl,xs,hq⟩|⟨rfl,o,hk,hc,hd⟩|⟨rfl,hk⟩|⟨rfl,S,n,hk⟩
  ·obtain⟨q,_,pl,_⟩:=I.list hq;refine⟨pl.isList.typeIs,fun a e=>?_⟩;cases e;obtain⟨o,n,e,c,hd,_⟩:=pl;exact⟨o,e,hd⟩
  ·refine⟨⟨o,I.kIn p o hk,hc⟩,fun a e=>?_⟩;cases e;exact⟨o,I.kIn _ o hk,hd⟩
  ·have z:∃o,s.heap.get? p=some o/\o.ExactDict:=by
    rcases hk with ⟨kvs,hk⟩|⟨kvs,hk⟩
    ·obtain⟨_,_,_,_,o,_,_,e,ex,_⟩:=I.hok p _ hk;exact⟨o,e,ex⟩
    ·obtain⟨_,_,_,_,o,_,_,e,ex,_⟩:=I.hok p _ hk;exact⟨o,e,ex⟩
   obtain⟨o,e,ex⟩:=z;refine⟨⟨o,e,ex.1⟩,fun a e2=>?_⟩;cases e2;exact⟨o,e,ex.2.1⟩
  ·obtain⟨o,_,_,_,e,ex,_⟩:=I.hok p _ hk;refine⟨⟨o,e,ex.1⟩,fun a e2=>?_⟩;cases e2;exact⟨o,e,ex.2.1⟩
 |_=>exact ou ty
def BU(K:cq)(T:String)(r:V->List V->Hp->VK->Prop)(to:TE):TE:=fun σ H Q=>to σ H fun x H1=>tyV K T x H1/\r x [] H1 Q
def tBM(K:cq)(T:String)(r:V->List V->Hp->VK->Prop)(to:TE)(t:TA):TE:=fun σ H Q=>to σ H fun x H1=>tyV K T x H1/\t σ H1 fun xs H2=>r x xs H2 Q
variable {o e:Expr}{es:List Expr}{to:TE}{t:TA}{name:Str}{apos cpos:Pos}{T id:String}{r:V->List V->Hp->VK->Prop}
theorem y6(pa:PlainAttrs T)(slot:Slot T name id)(q:typeOf (.builtin id)=pure (.type "method_descriptor"))(hm:MtR X id r)(ho:PE X o to)
  (hbase:sj o name X.env (eval o X.env)=eval o X.env:=by rfl) (hline:(apos.endLine==cpos.line)=true:=by rfl):PE X (.Call (.Attribute o name apos) [] [] cpos) (BU X.K T r to):=by
 intro zi s σ H Q I h;refine wpAny_Call_method0_late hbase hline (thn (ho zi s σ H _ I h) fun v s1 ⟨x,H1,I1,r1,ty,q1⟩=>?_);obtain⟨h1,h2⟩:=EI I1 r1 ty;exact⟨T,id,pa,slot,q,h1,h2,Calls.callWith_builtin rfl (PySem.evalArgs_none (hm zi s1 σ H1 x [] v [] Q I1 r1 .nil q1))⟩
theorem gT(pa:PlainAttrs T)(slot:Slot T name id)(q:typeOf (.builtin id)=pure (.type "method_descriptor"))(hm:MtR X id r)(ho:PE X o to)(ha:PA X (e::es) t)
  (hbase:sj o name X.env (eval o X.env)=eval o X.env:=by rfl)
  (hfew:((ow cpos (dq (e::es) X.env)).all (fun x=>!x.1)&&(backToKw cpos (keywordEach [] X.env)).all (fun x=>x.1.isSome)
   && decide ((e::es).length+([]:List Keyword).length+(if ([]:List Keyword).isEmpty then 0 else 1)<30))=true:=by rfl)
  (hline:(apos.endLine==cpos.line)=true:=by rfl) (hs:dq (e::es) X.env=(false,eval e X.env)::dq es X.env:=by rfl) (hplain:(ow cpos (dq es X.env)).any (·.1)=false:=by rfl):
  PE X (.Call (.Attribute o name apos) (e::es) [] cpos) (tBM X.K T r to t):=by
 intro zi s σ H Q I h;refine wpAny_Call_method_late hbase hfew hline rfl (thn (ho zi s σ H _ I h) fun v s1 ⟨x,H1,I1,r1,ty,q1⟩=>?_);obtain⟨h1,h2⟩:=EI I1 r1 ty;refine⟨T,id,pa,slot,q,h1,h2,?_⟩;have hA:=ha cpos zi s1 σ H1 _ I1 q1;rw[hs]at hA ⊢;refine Calls.callWith_builtin (by show (false||(ow cpos (dq es X.env)).any (·.1))=false;rw[hplain]<;>rfl) (Calls.evalArgs_plain ?_);exact thn hA fun us s2 ⟨vs,H2,I2,r2,q2⟩=>hm zi s2 σ H2 x vs v us Q I2 r1 r2 q2
end
end
section
def MtM(X:Cx)(id:String)(r:V->List V->Hp->VK->Prop):Prop:=
 ∀(zi:List (Addr×Obj)) (s:bd) (σ:St) (H:Hp) (x:V) (xs:List V) (v:bb) (us:List bb) (Q:VK),Inv X zi σ H s->RelV x v->Vals xs us->r x xs H Q ->
  bo (model X.prog X.w) X.A (call (.builtin id) (v::us)) (EP X zi σ Q) X.xe s
theorem Vals.one:∀{x:V}{us:List bb},Vals [x] us->∃u,us=[u]/\RelV x u
 |_,_,.cons r .nil=>⟨_,rfl,r⟩
theorem Vals.zero:∀{us:List bb},Vals [] us->us=[]
 |_,.nil=>rfl
theorem Vals.dropLast{xs:List V}{us:List bb}(h:Vals xs us):Vals xs.dropLast us.dropLast:=by
 induction h with
 |nil=>exact .nil
 |cons r t ih=>
  cases t with
  |nil=>exact .nil
  |cons q t'=>exact .cons r ih
theorem Vals.reverse{xs:List V}{us:List bb}(h:Vals xs us):Vals xs.reverse us.reverse:=by
 induction h with
 |nil=>exact .nil
 |cons r t ih=>rw[reverse_cons,reverse_cons];exact Vals.append ih (.cons r .nil)
theorem Vals.rep{xs:List V}{us:List bb}(h:Vals xs us):∀k:Nat,Vals (bh k xs).flatten (bh k us).flatten
 | 0=>.nil
 |k+1=>by
  rw[qu,qu,flatten_cons,flatten_cons];exact Vals.append h (Vals.rep h k)
theorem IQ{α:Type}(l:List α):l.eraseIdx (l.length-1)=l.dropLast:=by
 induction l with
 |nil=>rfl
 |cons a r ih=>
  cases r with
  |nil=>rfl
  |cons b r=>
   have e:(a::b::r).length-1=((b::r).length-1)+1:=by
    have h1:(a::b::r).length=r.length+2:=rfl;have h2:(b::r).length=r.length+1:=rfl;omega
   rw[e,List.eraseIdx_cons_succ,ih]
   all_goals rfl
theorem Af(q:List bb):∀(k:Nat) (acc:List bb),
  List.foldl (fun x1 x2=>x1++x2) acc.toArray (bh k q.toArray)=(acc++(bh k q).flatten).toArray
 | 0,acc=>by simp
 |k+1,acc=>by
  have e:acc.toArray++q.toArray=(acc++q).toArray:=by simp
  have e2:(acc++q)++(bh k q).flatten=acc++(bh (k+1) q).flatten:=by
   rw[qu,flatten_cons,gy]
  rw[<- e2,<- Af q k (acc++q),<- e,qu,ut]
section
variable {X:Cx}{zi:List (Addr×Obj)}{σ:St}{H:Hp}{s:bd}{l b:Addr}{xs ys zs:List V}
theorem Inv.lset{z its':List bb}{n:Nat}{f:Array bb->Array bb}{t':Nat}(I:Inv X zi σ H s)(hH:H l=some (.lst xs))
  (e:s.heap.get? l=some { cls:=.type "list",data:=.seq z.toArray n }) (hf:f z.toArray=its'.toArray) (hv:Vals ys its') (hz:ys.length<=dn):
  Inv X zi σ (upd H l (.lst ys)) { s with heap:=s.heap.update l (ix f),toks:=t' }:=by
 have q:=PySem.IsL.update e f;rw[hf]at q;refine I.write (x:=l) (e:=l) (by rw[hH];exact trivial) (.inl rfl) (fun b' u hb hu=>(jd s.heap (ix f) (gq hb)).trans hu) ⟨_,q⟩ ?_;exact⟨hz,its',_,hv,q⟩
theorem Inv.lnew{z:List bb}{t':Nat}(I:Inv X zi σ H s)(hv:Vals ys z)(hz:ys.length<=dn):
  Inv X zi σ (upd H s.heap.objs.size (.lst ys)) { s with heap:=s.heap.push { cls:=.type "list",data:=.seq z.toArray },toks:=t' } :=
 I.laid (fun _ _ q=>bf _ q) (dh _) ⟨hz,z,0,hv,bv _ rfl⟩
theorem Inv.fresh(I:Inv X zi σ H s):H s.heap.objs.size=none:=I.hok.fresh (dh _)
theorem Inv.lstM(I:Inv X zi σ H s)(hH:H l=some (.lst xs)):xs.length<=dn/\∃(q:List bb) (n:Nat),Vals xs q/\xs.length=q.length/\s.heap.get? l=some { cls:=.type "list",data:=.seq q.toArray n }:=by
 obtain⟨z,q,n,r,e⟩:=I.hok l _ hH;exact⟨z,q,n,r,r.length,e⟩
theorem GG{n:Nat}(h:n<=dn):Builtin.List.listTooLong n=false:=by
 unfold Builtin.List.listTooLong;exact ff yw
end
section
variable {X:Cx}
def Fq:V->List V->Hp->VK->Prop:=fun x vs H Q=>∃l xs y,x=.ref l/\vs=[y]/\H l=some (.lst xs)/\xs.length<dn/\Q .non (upd H l (.lst (xs++[y])))
theorem l6:MtM X "list.append" Fq:=by
 intro zi s σ H x vs v us Q I rx rv h;obtain⟨l,xs,y,rfl,rfl,hH,hz,q⟩:=h;cases rx;obtain⟨u,rfl,ru⟩:=rv.one;obtain⟨z,aa,n,r,hl,e⟩:=I.lstM hH;refine call_meets F.slot_list_append ⟨_,e,rfl⟩ F.entry_list_append (F.args_list_append_2 _ _) (PySem.list_append l aa.toArray n u (by rw[fk];omega)) ⟨e,?_⟩;refine⟨.non,_,I.lset (its':=aa++[u]) hH e yv (r.append (.cons ru .nil)) ?_,rfl,q⟩;rw[ck,fq];omega
def Fy:V->List V->Hp->VK->Prop:=fun x vs H Q=>∃l b xs zs,x=.ref l/\vs=[.ref b]/\H l=some (.lst xs)/\H b=some (.lst zs)/\xs.length+zs.length<=dn/\Q .non (upd H l (.lst (xs++zs)))
theorem Ad:MtM X "list.extend" Fy:=by
 intro zi s σ H x vs v us Q I rx rv h;obtain⟨l,b,xs,zs,rfl,rfl,hH,hB,hz,q⟩:=h;cases rx;obtain⟨u,rfl,ru⟩:=rv.one;cases ru;obtain⟨z,ab,n,r,hl,e⟩:=I.lstM hH;obtain⟨z2,aa,n2,r2,ae,e2⟩:=I.lstM hB;have hsz:ab.toArray.size+aa.toArray.size<=dn:=by rw[fk,fk];omega
 have ac:¬(!ab.toArray.isEmpty&&Builtin.List.listTooLong (ab.toArray.size+aa.toArray.size))=true:=by
  rw[GG hsz,Bool.and_false];exact gj
 refine call_meets F.slot_list_extend ⟨_,e,rfl⟩ F.entry_list_extend (F.args_list_extend_2 _ _)
  (AutoSeq1.list_extend_list_list_0 l ab.toArray n b aa.toArray n2 ac (by rw[fk];omega) yw) ⟨e,e2,?_⟩
 refine⟨.non,_,I.lset (its':=ab++aa) hH e yv (r.append r2) ?_,rfl,q⟩;rw[ck];omega
def Du:V->List V->Hp->VK->Prop:=fun x vs H Q=>∃l xs y,x=.ref l/\vs=[]/\H l=some (.lst xs)/\xs[xs.length-1]?=some y/\Q y (upd H l (.lst xs.dropLast))
theorem FE:MtM X "list.pop" Du:=by
 intro zi s σ H x vs v us Q I rx rv h;obtain⟨l,xs,y,rfl,rfl,hH,hy,q⟩:=h;cases rx;have ab:=rv.zero;subst ab;obtain⟨z,aa,n,r,hl,e⟩:=I.lstM hH;obtain⟨u,hu,ru⟩:=r.get hy;have ac:aa.toArray[aa.toArray.size-1]?=some u:=by
  show aa.toArray[aa.length-1]?=some u;rw[<- qb,<- hl];exact hu
 refine call_meets F.slot_list_pop ⟨_,e,rfl⟩ F.entry_list_pop (F.args_list_pop_1 _) (MeetsSeq.list_pop_last l aa.toArray n u ac (by rw[fk];omega)) ⟨e,?_⟩;refine⟨y,_,I.lset (its':=aa.dropLast) hH e ?_ r.dropLast ?_,ru,q⟩
 ·show aa.toArray.eraseIdxIfInBounds (aa.toArray.size-1)=aa.dropLast.toArray;rw[fk,List.eraseIdxIfInBounds_toArray,IQ]
 ·rw[List.length_dropLast];omega
def CV:V->List V->Hp->VK->Prop:=fun x vs H Q=>∃l xs,x=.ref l/\vs=[]/\H l=some (.lst xs)/\Q .non (upd H l (.lst xs.reverse))
theorem Hb:MtM X "list.reverse" CV:=by
 intro zi s σ H x vs v us Q I rx rv h;obtain⟨l,xs,rfl,rfl,hH,q⟩:=h;cases rx;have ab:=rv.zero;subst ab;obtain⟨z,aa,n,r,hl,e⟩:=I.lstM hH;refine call_meets F.slot_list_reverse ⟨_,e,rfl⟩ F.entry_list_reverse (F.args_list_reverse_1 _) (AutoSeq1.list_reverse_list_0 l aa.toArray n (by rw[fk];omega)) ⟨e,?_⟩;refine⟨.non,_,I.lset (its':=aa.reverse) hH e yv r.reverse ?_,rfl,q⟩;rw[List.length_reverse];omega
def l0:R2:=fun x y H Q=>∃l b xs zs,x=.ref l/\y=.ref b/\H l=some (.lst xs)/\H b=some (.lst zs)/\xs.length+zs.length<=dn/\∀p,H p=none->Q (.ref p) (upd H p (.lst (xs++zs)))
theorem AZ:OpR X (on .Add) l0:=by
 intro zi s σ H x y v u Q I rx ry h;obtain⟨l,b,xs,zs,rfl,rfl,hH,hB,hz,q⟩:=h;cases rx;cases ry;obtain⟨z,ab,n,r,hl,e⟩:=I.lstM hH;obtain⟨z2,aa,n2,r2,ac,e2⟩:=I.lstM hB;refine PySem.P.add_list e e2 ?_ (by rw[fk,fk];omega);have ea:ab.toArray++aa.toArray=(ab++aa).toArray:=by simp
 rw[ea];exact⟨.ref _,_,I.lnew (t':=s.toks) (r.append r2) (by rw[ck];omega),rfl,q _ I.fresh⟩
def F3:R2:=fun x y H Q=>∃l k xs,x=.ref l/\y=.int k/\H l=some (.lst xs)/\-(2 ^ 63)<=k/\k<2 ^ 63/\xs.length*k.toNat<=dn /\
 ∀p,H p=none->Q (.ref p) (upd H p (.lst (bh k.toNat xs).flatten))
theorem G0{α:Type}(xs:List α)(k:Nat):(bh k xs).flatten.length=k*xs.length:=by
 induction k with
 |zero=>simp
 |succ k ih=>rw[qu,flatten_cons,ck,ih,succ_mul,Nat.add_comm]
theorem Ik:OpR X (on .Mult) F3:=by
 intro zi s σ H x y v u Q I rx ry h;obtain⟨l,k,xs,rfl,rfl,hH,h1,h2,hz,q⟩:=h;cases rx;obtain⟨t,rfl⟩:=ry;obtain⟨z,aa,n,r,hl,e⟩:=I.lstM hH;have ag:aa.toArray.size*k.toNat<=dn:=by rw[fk,<- hl];exact hz
 have af:¬ aa.toArray.size*k.toNat>(2 ^ 63-1)/8:=by
  have:(dn:Nat)<=(2 ^ 63-1)/8:=by decide
  omega
 have ae:¬(!Builtin.List.listFitsIndex k)=true:=by
  rw[fitsIndex_both h1 h2];exact gj
 have ab:¬ Builtin.List.listTooLong (aa.toArray.size*k.toNat)=true:=by
  rw[GG ag];exact gj
 have ac:List.foldl (fun x1 x2=>x1++x2) #[] (bh (if aa.toArray.isEmpty=true then 0 else k.toNat) aa.toArray)=(bh k.toNat aa).flatten.toArray:=by
  have f0:∀m:Nat,List.foldl (fun x1 x2=>x1++x2) #[] (bh m aa.toArray)=(bh m aa).flatten.toArray:=fun m=>by
   have:=Af aa m [];rw[nil_append]at this;exact this
  rw[f0];cases aa with
  |nil=>simp
  |cons a r'=>rw[cr yv]
 refine wpAny_binaryOp_repeat_ref (T:="list") (U:="int") dz ⟨_,e,rfl⟩ (fun s'=>typeIs_int s' k t) noFill_list_mul F.fills_int_mul F.slot_int_rmul repeat_list F.slot_int_index.lookup
  (call_meets F.slot_int_rmul (typeIs_int s k t) F.entry_int_rmul (F.args_int_rmul_2 _ _) (int___rmul___int_list k t l aa.toArray n)
   ⟨e,rfl,⟨_,e,rfl⟩,call_meets F.slot_list_mul ⟨_,e,rfl⟩ F.entry_list_mul (F.args_list_mul_2 _ _) (AutoListH.list___mul___list_int_3 l aa.toArray n k t ae af ab) ⟨e,?_⟩⟩)
 rw[ac];exact⟨.ref _,_,I.lnew (t':=s.toks) (r.rep k.toNat) (by rw[G0,mul_comm];exact hz),rfl,q _ I.fresh⟩
end
end
section
theorem Js{P:cz}{w:fy}{k:Key}{u:bb}(r:RelV (kV k) u):(fM P w).is k u=true:=by
 cases k with
 |inl i=>obtain⟨t,e⟩:=(show ∃t,u=vh i t from r);subst e;exact KA P w i t
 |inr x=>obtain⟨t,e⟩:=(show ∃t,u=vi x t from r);subst e;exact Hc P w x t
theorem DR{P:cz}{w:fy}:∀{ks:List Key}{us:List bb},Vals (ks.map kV) us->ItemsAre (fM P w) ks us
 | [],_,r=>by rw[vb]at r;cases r;exact .nil
 |k::ks,_,r=>by
  rw[fm]at r;cases r with
  |cons h t=>exact .cons (Js h) (DR t)
abbrev KT (H:Hp):List (List Key×V)->List (List Key×Addr×bb)->Prop:=Paired fun p q=>p.1=q.1/\H q.2.1=some (.tup (p.1.map kV))/\RelV p.2 q.2.2
section
variable {P:cz}{w:fy}{H:Hp}{h:Heap}{a:Addr}
theorem D9{u:HO}(ok:HOk P w H h)(e:Rd H a u):ObjOk P w H h a u:=e.ok ok
theorem Kz{q:List (Key×V)}(ok:HOk P w H h)(e:Rd H a (.dK q)):q.length<=dn/\(a==jt)=false/\∃vs,KV q vs/\h.DictOf (fM P w) a vs:=
 show ObjOk P w H h a (.dK q)from D9 ok e
theorem Ko{ks:List Key}(ok:HOk P w H h)(e:H a=some (.tup (ks.map kV))):(tupleKind (fM P w)).is h ks a:=by
 obtain⟨_,q,r,o,h1,h2,n,h3⟩:=(show ObjOk P w H h a (.tup (ks.map kV))from ok a _ e);exact⟨o,q.toArray,n,h1,h2,h3,by simpa using DR r⟩
theorem NP{aa:List (List Key×V)}(ok:HOk P w H h)(e:Rd H a (.dT aa)):aa.length<=dn/\(a==jt)=false /\
  ∃xs,KT H aa xs/\h.DictOfH (tupleKind (fM P w)) a xs:=by
 obtain⟨z,y,xs,r,o,es,ep,h1,h2,h3,h4,h5⟩:=(show ObjOk P w H h a (.dT aa)from D9 ok e);refine⟨z,y,xs,r,o,es,ep,h1,h2,h3,h4,fun x hx=>?_,h5⟩;have all:∀{l:List (List Key×V)}{m:List (List Key×Addr×bb)},KT H l m->∀x∈m,(tupleKind (fM P w)).is h x.1 x.2.1:=by
  intro l m q;induction q with
  |nil=>intro x hx;exact nomatch hx
  | @cons p q ps qs hq t ih=>
   intro x hx;rcases mem_cons.mp hx with e|hx
   ·subst e;exact Ko ok (by rw[<- hq.1];exact hq.2.1)
   ·exact ih x hx
 exact all r x hx
end
section
variable {X:Cx}{zi:List (Addr×Obj)}{σ:St}{H:Hp}{s:bd}{a:Addr}{y v:V}{u r:bb}{o:Option V}{A:ft}{E:bb->bd->Prop}
theorem Inv.big(I:Inv X zi σ H s):jt<s.heap.objs.size:=by
 have h:jq<s.heap.objs.size:=(I.mod.glob.keeps I.bk).lt;exact lt_trans dz h
theorem Bj{h':Heap}{t':Nat}{ob:HO}(I:Inv X zi σ H s)(mu:Mut (H a))(hs:fg a s.heap h')(he:∃q,h'.get? a=some q)(aa:ObjOk X.prog X.w (upd H a ob) h' a ob):
  Inv X zi σ (upd H a ob) { s with heap:=h',toks:=t' } :=
 I.write (x:=a) (e:=a) mu (.inl rfl) (fun b q hb z=>(hs.2 b hb).trans z) he aa
end
def NoSl(i:Expr):Prop:=∀ov iv,subscripted i false ov iv=operate [ov,iv] (getItem ov iv)
theorem G5{prog:cz}{w:fy}{A:ft}{E:bb->bd->Prop}{s:bd}{env:Env}{value q:Expr}{pos:Pos}{T id:String}{Q:bb->bd->Prop}
  (hl:typeLookup (.type T) "__getitem__" = pure (some (.builtin id))) (hs:NoSl q)
  (h:bo (model prog w) A (eval value env) (fun o s₁=>bo (model prog w) A (eval q env) (fun i s₂=>s₂.TypeIs o T/\bo (model prog w) A (getItem o i) Q E s₂) E s₁) E s):
  bo (model prog w) A (eval (.Subscript value q pos) env) Q E s:=by
 refine Subscript_ (qz h (fun o s₁ h₁=>qz h₁ (fun i s₂ h₂=>?_) fun _ _ x=>x) fun _ _ x=>x);obtain⟨hT,h₂⟩:=h₂;unfold subscriptTail;refine ba ?_;rw[getitemInPython_of_ne hT.not_modules];refine ba (wpAny_specialOf hT hl ?_);have fin:bo (model prog w) A (subscripted q false o i) (fun r s₃=>bo (model prog w) A (letTemporaryGo value o r >>= fun _=>pure r) Q E s₃) E s₂:=by
  rw[hs o i];exact wpAny_operating (qz h₂ (fun r s₃ h₃=>ba (wpAny_letTemporaryGo (be h₃))) fun _ _ x=>x)
 first
  |exact be (ba fin)
  |exact ba (be (ba fin))
  |exact ba fin
structure M1(X:Cx)(o:Expr)(m:Str)(apos:Pos)(e:Expr)(cpos:Pos):Prop where
 base:sj o m X.env (eval o X.env)=eval o X.env
 few:((ow cpos (dq [e] X.env)).all (fun x=>!x.1)&&(backToKw cpos (keywordEach [] X.env)).all (fun x=>x.1.isSome)
  && decide (([e]:List Expr).length+([]:List Keyword).length+(if ([]:List Keyword).isEmpty then 0 else 1)<30))=true
 line:(apos.endLine==cpos.line)=true
 trees:ow cpos (dq [e] X.env)=[(false,eval e X.env)]
structure M2(X:Cx)(o:Expr)(m:Str)(apos:Pos)(e f:Expr)(cpos:Pos):Prop where
 base:sj o m X.env (eval o X.env)=eval o X.env
 few:((ow cpos (dq [e,f] X.env)).all (fun x=>!x.1)&&(backToKw cpos (keywordEach [] X.env)).all (fun x=>x.1.isSome)
  && decide (([e,f]:List Expr).length+([]:List Keyword).length+(if ([]:List Keyword).isEmpty then 0 else 1)<30))=true
 line:(apos.endLine==cpos.line)=true
 trees:ow cpos (dq [e,f] X.env)=[(false,eval e X.env),(false,eval f X.env)]
def obO(a:Addr)(ob:Obj):HO:=.ext fun h=>h.get? a=some ob
def IsD(H:Hp)(a:Addr):Prop:=(∃kvs,Rd H a (.dK kvs))\/(∃kvs,Rd H a (.dT kvs))\/∃ob,H a=some (obO a ob)/\ob.ExactDict/\(a==jt)=false
theorem EN{X:Cx}{zi:List (Addr×Obj)}{σ:St}{H:Hp}{s:bd}{a:Addr}(I:Inv X zi σ H s)(d:IsD H a):
  s.TypeIs (.ref a) "dict"/\(∀b,dw a=.ref b->∃ob,s.heap.get? b=some ob/\ob.dict=none)/\(a==jt)=false:=by
 rcases d with ⟨kvs,e⟩|⟨kvs,e⟩|⟨ob,e,hx,hd⟩
 rotate_left 2
 ·obtain⟨g,_,_⟩:=(show ObjOk X.prog X.w H s.heap a (obO a ob)from I.hok a _ e);exact⟨⟨ob,g,hx.1⟩,fun b q=>by cases q;exact⟨ob,g,hx.2.1⟩,hd⟩
 ·obtain⟨_,hd,vs,_,dd⟩:=Kz I.hok e;refine⟨dd.typeIs,fun b q=>?_,hd⟩;cases q;obtain⟨ob,_,_,h1,h2,_⟩:=dd;exact⟨ob,h1,h2.2.1⟩
 ·obtain⟨_,hd,xs,_,dd⟩:=NP I.hok e;refine⟨dd.typeIs,fun b q=>?_,hd⟩;cases q;obtain⟨ob,_,_,h1,h2,_⟩:=dd;exact⟨ob,h1,h2.2.1⟩
end
end L2
namespace Att
open PySem PySem.W PySem.Calls PyProof.Rows
theorem Kl{P:Params}{h:Heap}:∀(ns:List Int) (vs:List bb),WellAll P h vs (ns.map WData.int)->uo vs ns:=by
 intro ns;induction ns with
 |nil=>
  intro vs w;rw[vb]at w;cases w;exact .nil
 |cons n ns ih=>
  intro vs w;rw[fm]at w;cases w with
  |cons a b=>
   cases a;exact .cons _ _ (ih _ b)
theorem JI{l:OpenLaw}{n:Nat}(hn:l.most=some n){P:Params}{h:Heap}{args:List WData}{z:List bb}
  (hpre:l.row.toRowW.claim.pre args=true) (hwl:WellAll P h z args):
  ∃a vs ns,z=[dw a]/\args=[WData.list (ns.map WData.int)]/\h.get? a=some { cls:=.type "list",data:=.seq vs.toArray }/\uo vs ns/\ns.length<=n:=by
 have ab:WShape.hasAll [] args [.list .int]=true:=(pre_splitW hpre).1;have hc:l.pre.holds [] { args:=args } = true:=(pre_splitW hpre).2;obtain⟨d,r,rfl,h1,h2⟩:=hasAllW_cons ab;obtain rfl:=hasAllW_nil h2;obtain⟨xs,rfl,h3⟩:=hasW_list h1;obtain⟨ns,rfl⟩:=items_int h3;have aa:ns.length<=n:=by
  unfold OpenLaw.pre at hc;have h4:(WTm.not (.lt (.lit (.int (n:Int))) (.len (.arg 0)))).holds [] { args:=[.list (ns.map .int)] } = true:=by
   have h4:=(holds_andW hc).1;rw[hn]at h4;exact h4
  have h5:=condW_of h4 (w_not (w_lt w_lit (w_len_list (w_arg rfl))));rw[cg]at h5;refine Nat.le_of_not_lt fun q=>?_;have q':(n:Int)<((ns.length:Nat):Int):=yw
  first
   | (rw[fz q']at h5;exact absurd h5 dz)
   | (simp at h5;omega)
 cases hwl with
 |cons w1 w2=>
  cases w2;cases w1 with
  |list ho hall=>exact⟨_,_,ns,rfl,rfl,ho,Kl ns _ hall,aa⟩
theorem Gx(l:OpenLaw)(args:List WData):l.row.toRowW.claim.post args (.bool true) args=true:=
 postW_of (r:=l.row.toRowW) (X:=(true==true))
  (show WShape.has [] (.bool true) .bool=true by first|rfl|decide|simp[WShape.has,WShape.arms,WShape.armsAll])
  (show (WTm.eq .res (.lit (.bool true))).value [] { args:=args,res:=some (.bool true),after:=args } = some (.bool (true==true))from w_eq_bool (w_res rfl) w_lit) rfl
theorem attach_call{l:OpenLaw}{n:Nat}{q:cz}{z:List Str}{XP:(Str->Option bb)->Heap->Prop}{YP:fy->Heap->Prop}{d:DefRec}
  (hn:l.most=some n) (hdf:d.params.defaults=[])
  (call:∀(w:fy) (s₀ s₁:bd) (mg mb:Str->Option bb) (fa:Addr) (o:Obj) (pm cd aa:bb) (a:Addr) (vs:List bb) (ns:List Int),
   Ground q z [] XP w s₀ mg mb s₁.heap->YP w s₁.heap ->
   s₁.heap.get? fa=some o->o.data=.func (docDef d.name d.params d.body d.scope pm cd aa)->s₁.heap.CodeRec cd d.name->mg d.name=some (.ref fa) ->
   s₁.heap.get? a=some { cls:=.type "list",data:=.seq vs.toArray }->uo vs ns->ns.length<=n->s₁.gens = #[] ->
   ol (model l.prog w) callerA (.call (.ref fa) ⟨[.ref a],[]⟩) (fun r s'=>r=.ok (.ret (.bool true))/\OldK s₁.heap s'.heap/\s'.os=s₁.os/\AllBare s'.gens) s₁):
  WalkO q z XP YP l.row.toRowW d [] (fun f vs=>PySem.call f vs):=by
 intro w s₀ s₁ mg mb G Y fa o pm cd aa dV kV ho hd ag hD ah hg args aj as ac ak am ai al;obtain rfl:dV=.none:=Dflts.none hD hdf;obtain rfl:kV=.none:=Dflts.noKw hD;obtain⟨a,vs,ns,rfl,rfl,ae,ab,af⟩:=JI hn ac ai;refine enter_call (ra (call w s₀ s₁ mg mb fa o pm cd aa a vs ns G Y ho (fd_plain hd) ag ah ae ab af hg) fun r s' hq=>?_);obtain⟨rfl,h2,h3,h4⟩:=hq;exact⟨.inl ⟨.bool true,.bool true,[],rfl,fun _=>rfl,.bool true,Gx l _,fun _=>⟨List.Pairwise.nil,fun _ hm=>(nomatch hm)⟩⟩,h2,h3,h4⟩
end Att
namespace L2
open PySem PySem.Spec PyProof.Rows
section
theorem Bp:∀{vs:List bb}{ns:List Int},uo vs ns->Vals (ns.map V.int) vs
 |_,_,.nil=>.nil
 |_,_,.cons n t h=>.cons ⟨t,rfl⟩ (Bp h)
def Only(H:Hp):Prop:=∀b,H b=none\/(∃o xs,H b=some (.frz o (.lst xs)))\/(∃q∈tabsG,q.1.2=b/\H b=some (.tbl q.2))\/∃q∈keepG,q.1.1=b/\H b=some (.tup [.str q.2])
def kI(b:Addr):Option HO:=(tabsG.find? fun q=>q.1.2==b).map fun q=>.tbl q.2
theorem Eg{b:Addr}{u:HO}(e:kI b=some u):∃q∈tabsG,q.1.2=b/\u=.tbl q.2:=by
 unfold kI at e;cases h:tabsG.find? fun q=>q.1.2==b with
 |none=>rw[h]at e;cases e
 |some q=>
  rw[h]at e;cases e;exact⟨q,qg h,by simpa using find?_some h,rfl⟩
theorem NR{l:List ((Addr×Addr)×Array bb)}(nd:(l.map fun q=>q.1.2).Nodup){q:(Addr×Addr)×Array bb}(h:q∈l):l.find? (fun r=>r.1.2==q.1.2)=some q:=by
 induction l with
 |nil=>cases h
 |cons p l ih=>
  rw[fm,nodup_cons]at nd;rcases mem_cons.mp h with e|e
  ·subst e;simp
  ·have ne:¬ p.1.2=q.1.2:=fun z=>nd.1 (by rw[z];exact List.mem_map_of_mem (f:=fun q:(Addr×Addr)×Array bb=>q.1.2) e);rw[List.find?_cons_of_neg (by simpa using ne)];exact ih nd.2 e
theorem Jn(nd:(tabsG.map fun q=>q.1.2).Nodup){q:(Addr×Addr)×Array bb}(h:q∈tabsG):kI q.1.2=some (.tbl q.2):=by
 unfold kI;rw[NR nd h];rfl
def dE(b:Addr):Option HO:=match kI b with
 |some u=>some u
 |none=>(keepG.find? fun q=>q.1.1==b).map fun q=>.tup [.str q.2]
theorem lK{b:Addr}{u:HO}(e:dE b=some u):(∃q∈tabsG,q.1.2=b/\u=.tbl q.2)\/∃q∈keepG,q.1.1=b/\u=.tup [.str q.2]:=by
 unfold dE at e;cases ht:kI b with
 |some v=>rw[ht]at e;cases e;exact .inl (Eg ht)
 |none=>
  rw[ht]at e;cases h:keepG.find? fun q=>q.1.1==b with
  |none=>simp[h]at e
  |some q=>
   simp[h]at e;exact .inr ⟨q,qg h,by simpa using find?_some h,e.symm⟩
theorem E2{l:List ((Addr×Obj)×Str)}(nd:(l.map fun q=>q.1.1).Nodup){q r:(Addr×Obj)×Str}(h:q∈l)(h':r∈l)(e:r.1.1=q.1.1):r=q:=by
 induction l with
 |nil=>cases h
 |cons p l ih=>
  rw[fm,nodup_cons]at nd;rcases mem_cons.mp h with e1|e1
  ·rcases mem_cons.mp h' with e2|e2
   ·rw[e1,e2]
   ·exact absurd (by rw[<- e1,<- e];exact List.mem_map_of_mem (f:=fun q:(Addr×Obj)×Str=>q.1.1) e2) nd.1
  ·rcases mem_cons.mp h' with e2|e2
   ·exact absurd (by rw[<- e2,e];exact List.mem_map_of_mem (f:=fun q:(Addr×Obj)×Str=>q.1.1) e1) nd.1
   ·exact ih nd.2 e1 e2
structure TabsOk(K:cq)(h:Heap):Prop where
 nd:(tabsG.map fun q=>q.1.2).Nodup
 hd:∀q∈tabsG,W.CodeHd h q.1.1 q.1.2
 empty:∀q∈tabsG,h.get? q.1.2=some (W.tabObj #[])
 off:∀q∈tabsG,K.lookup q.1.2=none
 knd:(keepG.map fun q=>q.1.1).Nodup
 kk:∀q∈keepG,K.lookup q.1.1=some q.1.2/\q.1.2.cls=.type "tuple"/\q.1.2.dict=none/\∃t n,q.1.2.data=.seq #[.str q.2 t] n
theorem Em{K:cq}{h:Heap}(TT:TabsOk K h){q:(Addr×Addr)×Array bb}(m:q∈tabsG):dE q.1.2=some (.tbl q.2):=by
 unfold dE;rw[Jn TT.nd m]
theorem CB{K:cq}{h:Heap}(TT:TabsOk K h){q:(Addr×Obj)×Str}(m:q∈keepG):dE q.1.1=some (.tup [.str q.2]):=by
 unfold dE;cases ht:kI q.1.1 with
 |some v=>
  obtain⟨r,hr,e,_⟩:=Eg ht;have:=TT.off r hr;rw[e,(TT.kk q m).1]at this;cases this
 |none=>
  cases hf:keepG.find? fun r=>r.1.1==q.1.1 with
  |none=>exact absurd (List.find?_eq_none.mp hf q m) yv
  |some r=>
   have:=E2 TT.knd m (qg hf) (by simpa using find?_some hf);subst this;rfl
theorem ID{P:cz}{w:fy}{K:cq}{mg mb:Str->Option bb}{CX:CXT}{k:Nat}{fa a:Addr}{fd:rq}{x:Str}{sp:Sp}{s₁:bd}{vs:List bb}{ns:List Int}
  (KX:K.In s₁.heap) (TT:TabsOk K s₁.heap) (hbm:BltAt s₁.heap mg) (hns:s₁.heap.Ns jq mg) (hb:s₁.heap.Ns builtinsNs mb) (hbb:∀x:Str,x ≠ "__name__"->mb x=jc x) (hlim:s₁.heap.NoLimit) (hg:s₁.gens = #[])
  (ha:s₁.heap.get? a=some { cls:=.type "list",data:=.seq vs.toArray }) (hi:uo vs ns) (hl:ns.length<=dn) (hr:Room k callerA)
  (F:∀base:Heap,KInW K base->base.Ns jq mg->FnOk P w K mg base CX k fa fd [x] sp) (hbind:∀(s:bd) (u:bb),BindsTo s fd ⟨[u],[]⟩ [(x,u)])
  (hsp:∀H:Hp,Only H->SqL K H a (ns.map V.int)->sp [.ref a] H (fun v _=>v=.bl true) fun _ _ _=>False)
  (hCX:∀H e s',CX [] H s₁ (fun _ _ _=>False) e s'->False):
  ol (model P w) callerA (.call (.ref fa) ⟨[.ref a],[]⟩) (fun r s'=>r=.ok (.ret (.bool true))/\OldK s₁.heap s'.heap/\s'.os=s₁.os/\AllBare s'.gens) s₁:=by
 have rv:=Bp hi;have al:=hi.length
 have ae:∀H:Hp,Only H->SqL K H a (ns.map V.int)->HOk P w H s₁.heap->(∀b,H b≠none->b=a\/(∃q∈tabsG,q.1.2=b)\/∃q∈keepG,q.1.1=b)->(H a≠none->K.lookup a=none)->(∀q∈tabsG,H q.1.2=some (.tbl q.2))->(∀q∈keepG,H q.1.1=some (.tup [.str q.2])) ->
   ol (model P w) callerA (.call (.ref fa) ⟨[.ref a],[]⟩) (fun r s'=>r=.ok (.ret (.bool true))/\OldK s₁.heap s'.heap/\s'.os=s₁.os/\AllBare s'.gens) s₁:=by
  intro H hO hS hok hA hK ag an;have af:∀{b:Addr}{o:Obj},s₁.heap.get? b=some o->o.cls≠.type "list"->o.cls≠.none->o.cls≠.type "tuple"->H b=none:=fun {b o} e c1 c2 c3=>by
   cases q:H b with
   |none=>rfl
   |some u=>
    rcases hA b (by rw[q];simp)with e'|⟨r,hr',e'⟩|⟨r,hr',e'⟩
    ·subst e';rw[ha]at e;cases e;exact absurd rfl c1
    ·have:=TT.empty r hr';rw[e',e]at this;cases this;exact absurd rfl c2
    ·have:=KX _ _ (TT.kk r hr').1;rw[e',e]at this;cases this;exact absurd (TT.kk r hr').2.1 c3
  have aa:∀{b:Addr}{o:Obj},s₁.heap.get? b=some o->H b=none->(gD s₁.heap H).get? b=some o:=fun e n=>Gz e n;have am:∀{b:Addr}{o:Obj}{es:Array uf}{ep:Nat},s₁.heap.get? b=some o->o.data=.dict es ep->H b=none:=fun {b o es ep} e d=>by
   cases q:H b with
   |none=>rfl
   |some u=>
    rcases hA b (by rw[q];simp)with e'|⟨r,hr',e'⟩|⟨r,hr',e'⟩
    ·subst e';rw[ha]at e;cases e;have d':Data.seq vs.toArray _=Data.dict es ep:=d;cases d'
    ·have:=TT.empty r hr';rw[e',e]at this;cases this;cases d
    ·have:=KX _ _ (TT.kk r hr').1;rw[e',e]at this;cases this;obtain⟨t,n,dd⟩:=(TT.kk r hr').2.2.2;rw[d]at dd;cases dd
  have ac:∀{b:Addr}{m:Str->Option bb},s₁.heap.Ns b m->(gD s₁.heap H).Ns b m:=fun {b m} ⟨o,es,ep,e,d,r⟩=>⟨o,es,ep,aa e (am e d),d,r⟩;have ai:KInW K (gD s₁.heap H):=fun b o e=>by
   cases q:H b with
   |none=>exact .inl (aa (KX b o e) q)
   |some u=>
    rcases hA b (by rw[q];simp)with e'|⟨r,hr',e'⟩|⟨r,hr',e'⟩
    ·subst e';rw[hK (by rw[q];simp)]at e;cases e
    ·rw[<- e',TT.off r hr']at e;cases e
    ·refine .inr ⟨r,hr',?_⟩;subst e';rw[(TT.kk r hr').1]at e;cases e;rfl
  have hM:Mod K mg (gD s₁.heap H):=⟨ai,ac hns,⟨mb,ac hb,hbb⟩,let ⟨mc,h1,h2⟩:=hlim;⟨mc,ac h1,h2⟩,
   let ⟨bm,ob,b1,b2,b3,b4,b5⟩:=hbm;⟨bm,ob,b1,b2,aa b3 (af b3 (by rw[b4];decide) (by rw[b4];decide) (by rw[b4];decide)),b4,b5⟩,
   fun q hq=>let ⟨o,vs,file,tf,flags,tg,inF,text,tt,e1,c1,r⟩:=TT.hd q hq;⟨o,vs,file,tf,flags,tg,inF,text,tt,aa e1 (af e1 (by rw[c1];decide) (by rw[c1];decide) (by rw[c1];decide)),c1,r⟩⟩
  have e0:Env0 P w K mg (gD s₁.heap H) callerA [] s₁ H:=⟨rfl,hM,fun b o e=>Kt e,le_of_eq (HV _ _),trivial,⟨fun b hb=>absurd (show b∈([]:List Addr)from hb) yv,ag,an⟩,hok,.of_eq hg⟩;refine ra ((F _ ai (ac hns)).run callerA [] s₁ H ⟨[.ref a],[]⟩ [.ref a] [.ref a] _ _ hr e0 (hbind s₁ (.ref a)) (.cons rfl .nil) (hsp H hO hS)) fun r s' h=>?_;cases r with
  |error e=>exact(hCX H e s' h).elim
  |ok fl=>
   cases fl with
   |next=>exact ou h
   |brk=>exact ou h
   |cont=>exact ou h
   |ret u=>
    obtain⟨v,H',os,bare,un,ab,r',q⟩:=h;have q':v=.bl true:=q;subst q';obtain rfl:u=jx true:=r';have all:∀b o,s₁.heap.get? b=some o->s'.heap.get? b=some o\/∃q∈tabsG,q.1.2=b/\o=W.tabObj #[]/\∃ps,s'.heap.get? b=some (W.tabObj ps):=fun b o e=>by
     cases q:H b with
     |none=>exact .inl (un.keep b o e q (by intro z;exact absurd (show b∈([]:List Addr)from z) yv) yv)
     |some u=>
      rcases hO b with z|⟨ob,xs,z⟩|⟨r,hr',e',z⟩|⟨r,hr',e',z⟩
      ·rw[q]at z;cases z
      ·have z2:=un.frzs b ob _ z;obtain⟨e1,_⟩:=hok b _ z;obtain⟨e2,_⟩:=ab b _ z2;rw[e]at e1;cases e1;exact .inl e2
      ·obtain⟨qs,e2,_⟩:=ab b _ (un.tbls b _ z);have:=TT.empty r hr';rw[e',e]at this;cases this;exact .inr ⟨r,hr',e',rfl,qs,e2⟩
      ·obtain⟨⟨_,o2,e2,_,k2⟩,_⟩:=(show ObjOk P w H' s'.heap b (.tup [.str r.2])from ab b _ (un.tups b _ z));have:=KX _ _ (TT.kk r hr').1;rw[e',e]at this;cases this;rw[k2 r hr' e']at e2;exact .inl e2
    refine⟨rfl,⟨fun b o e=>?_,fun b o e=>?_⟩,os,bare⟩
    ·rcases all b o e with z|⟨r,hr',rfl,rfl,ps,z⟩
     ·exact .inl z
     ·exact .inr (.inl ⟨((TT.hd r hr').tab (TT.empty r hr')).isCodeTable,rfl,#[],ps,rfl,by rw[Array.empty_append];exact z⟩)
    ·rcases all b o e with z|⟨r,hr',rfl,rfl,ps,z⟩
     ·exact⟨o,z⟩
     ·exact⟨_,z⟩
 have ak:∀q∈tabsG,q.1.2≠a:=fun q hq z=>by
  have:=TT.empty q hq;rw[z,ha]at this;cases this
 have aj:∀q∈keepG,q.1.1≠a:=fun q hq z=>by
  have:=KX _ _ (TT.kk q hq).1;rw[z,ha]at this;have c:=(TT.kk q hq).2.1;rw[<- ic this]at c;exact absurd (show oh "list" = oh "tuple" from c) dz
 have ah:∀(H:Hp) (b:Addr) (u:HO),dE b=some u->ObjOk P w H s₁.heap b u:=fun H b u z=>by
  rcases lK z with ⟨q,hq,rfl,rfl⟩|⟨q,hq,rfl,rfl⟩
  ·exact⟨#[],TT.empty q hq,.inl rfl⟩
  ·obtain⟨k1,k2,k3,t,n,k4⟩:=TT.kk q hq;exact⟨⟨by show 1<=dn;decide,_,KX _ _ k1,k3,fun r hr e=>by rw[E2 TT.knd hq hr e]⟩,[.str q.2 t],.cons ⟨t,rfl⟩ .nil,_,KX _ _ k1,k2,n,k4⟩
 cases hk:K.lookup a with
 |some o=>
  have e:=KX a o hk;rw[ha]at e;cases e;refine ae dE (fun b=>?_) (.inr ⟨_,vs.toArray,_,hk,rfl,rfl,rfl,by rw[fk,al];exact hl,by simpa using rv⟩) (ah dE) (fun b z=>?_) (fun z=>?_) (fun q hq=>Em TT hq) fun q hq=>CB TT hq
  ·cases q:dE b with
   |none=>exact .inl rfl
   |some u=>
    rcases lK q with ⟨r,hr',e',rfl⟩|⟨r,hr',e',rfl⟩
    ·exact .inr (.inr (.inl ⟨r,hr',e',rfl⟩))
    ·exact .inr (.inr (.inr ⟨r,hr',e',rfl⟩))
  ·cases q:dE b with
   |none=>exact absurd q z
   |some u=>
    rcases lK q with ⟨r,hr',e',rfl⟩|⟨r,hr',e',rfl⟩
    ·exact .inr (.inl ⟨r,hr',e'⟩)
    ·exact .inr (.inr ⟨r,hr',e'⟩)
  ·cases q:dE a with
   |none=>exact absurd q z
   |some u=>
    rcases lK q with ⟨r,hr',e',rfl⟩|⟨r,hr',e',rfl⟩
    ·exact absurd e' (ak r hr')
    ·exact absurd e' (aj r hr')
 |none=>
  refine ae (fun b=>if b=a then some (.frz { cls:=.type "list",data:=.seq vs.toArray } (.lst (ns.map V.int)))else dE b) (fun b=>?_) (.inl (.inr ⟨{ cls:=.type "list",data:=.seq vs.toArray },cy rfl⟩)) (fun b u z=>?_) (fun b z=>?_) (fun _=>hk) (fun q hq=>(cr (ak q hq)).trans (Em TT hq)) fun q hq=>(cr (aj q hq)).trans (CB TT hq)
  ·by_cases hb:b=a
   ·exact .inr (.inl ⟨_,_,cy hb⟩)
   ·cases q:dE b with
    |none=>exact .inl ((cr hb).trans q)
    |some u=>
     rcases lK q with ⟨r,hr',e',rfl⟩|⟨r,hr',e',rfl⟩
     ·exact .inr (.inr (.inl ⟨r,hr',e',(cr hb).trans q⟩))
     ·exact .inr (.inr (.inr ⟨r,hr',e',(cr hb).trans q⟩))
  ·by_cases hb:b=a
   ·have z':=(cy hb).symm.trans z;cases z';subst hb;exact⟨ha,by rw[cg];exact hl,vs,_,rv,ha⟩
   ·have z':=(cr hb).symm.trans z;exact ah _ b u z'
  ·by_cases hb:b=a
   ·exact .inl hb
   ·cases q:dE b with
    |none=>exact absurd ((cr hb).trans q) z
    |some u=>
     rcases lK q with ⟨r,hr',e',rfl⟩|⟨r,hr',e',rfl⟩
     ·exact .inr (.inl ⟨r,hr',e'⟩)
     ·exact .inr (.inr ⟨r,hr',e'⟩)
end
section
abbrev KOf {K:cq}{h:Heap} (_:K.In h):cq:=K
theorem walk_of{l:W.OpenLaw}{n k:Nat}{q:cz}{ab:List Str}{XP:(Str->Option bb)->Heap->Prop}{YP:fy->Heap->Prop}{d:DefRec}{K:Params->cq}{CX:fy->CXT}{sp:fy->Sp}{x:Str}
  (hn:l.most=some n) (hn2:n<=dn) (hdf:d.params.defaults=[]) (hr:Room k callerA)
  (hY:∀(w:fy) (h:Heap),YP w h->(K w.params).In h)
  (hT:∀(w:fy) (h:Heap),YP w h->TabsOk (K w.params) h)
  (F:∀(w:fy) (mg:Str->Option bb) (fa:Addr) (h:Heap),(K w.params).In h->h.Ns jq mg->mg d.name=some (.ref fa) ->
   ∃fd:rq,(∀(s:bd) (u:bb),BindsTo s fd ⟨[u],[]⟩ [(x,u)]) /\
    ∀base:Heap,KInW (K w.params) base->base.Ns jq mg->FnOk l.prog w (K w.params) mg base (CX w) k fa fd [x] (sp w))
  (hsp:∀(w:fy) (H:Hp) (a:Addr) (ns:List Int),ns.length<=n->Only H->SqL (K w.params) H a (ns.map V.int)->sp w [.ref a] H (fun v _=>v=.bl true) fun _ _ _=>False)
  (hCX:∀(w:fy) (H:Hp) (s:bd) (e:bb) (s':bd),CX w [] H s (fun _ _ _=>False) e s'->False):
  W.WalkO q ab XP YP l.row.toRowW d [] (fun f vs=>PySem.call f vs):=by
 refine Att.attach_call hn hdf fun w s₀ s₁ mg mb fa o pm cd af a vs ns G Y ho hd ag ae ac aa z hg=>?_;have KX:=hY w _ Y;obtain⟨fd,hb,hF⟩:=F w mg fa _ KX G.T.g ae;exact ID KX (hT w _ Y) (let ⟨bm,ob,a1,a2,a3,a4,a5,a6⟩:=G.T.bmain;⟨bm,ob,a1,a2,a3,a4,a5,a6⟩) G.T.g G.T.b G.T.builtins G.T.nolimit hg ac aa (gm z hn2) hr hF hb (fun H hO hS=>hsp w H a ns z hO hS) fun H e s'=>hCX w H s₁ e s'
end
section
def tD(s:Stmt)(j:Nat):Stmt:=match s with
 | .ClassDef _ _ _ body _ _ _ _ _ _ _=>body.getD j (.Pass ⟨0,0,0,0⟩)
 |_=>.Pass ⟨0,0,0,0⟩
def eC(s:Stmt):uv:=match s with
 | .FunctionDef _ a _ _ _ _ _ _ _ _=>a
 |_=>{ posonlyargs:=[],args:=[],vararg:=none,kwonlyargs:=[],kw_defaults:=[],kwarg:=none,defaults:=[] }
def cA(s:Stmt):List Stmt:=match s with
 | .FunctionDef _ _ b _ _ _ _ _ _ _=>b
 |_=>[]
def zf(s:Stmt):Scope:=match s with
 | .FunctionDef _ _ _ _ _ _ sc _ _ _=>sc
 |_=>{ kind:=.function,names:=[],isGenerator:=false,isCoroutine:=false }
abbrev CX0:CXT:=fun _ _ _ _ _ _=>False
abbrev E0:XK:=fun _ _ _=>False
theorem pass0{X:Cx}:Passes CX0 X E0:=fun _ _ _ _ _ _ _ h=>h.elim
structure Fun(K:cq)(x qual:Str)(st:Stmt)(f:Addr)(fd:rq):Prop where
 ex:∃(oc:bb) (od:Option Addr) (kV doc pm:bb) (an:Option Addr) (cdv ct:bb) (osl:Array (Option bb)),
  fd=va x qual (eC st) (cA st) (zf st) .none kV doc pm an cdv ct/\K.lookup f=some ⟨oc,od,.func fd,osl⟩/\W.codeIn K cdv qual=true
 kp:uj K (.ref f)=true
section
variable {P:cz}{w:fy}{K:cq}{mg:Str->Option bb}{base:Heap}
theorem Fun.ok{x qual:Str}{st:Stmt}{f:Addr}{fd:rq}{N ps:List Str}{k:Nat}{sp:Sp}(F:Fun K x qual st f fd)(S:FnScope N ps (zf st))(len:∀vs H Q E,sp vs H Q E->vs.length=ps.length)
  (hbody:∀(z:bb) (A:ft) (outer:List Env) (s:bd) (H:Hp) (vs:List V) (Q:VK) (E:XK),Room k (A.deeper (ur qual (zf st) s.heap.objs.size f z))->sp vs H Q E ->
   ∃t,PSs (eF CX0 P w K mg base N qual (zf st) f z A outer s H E).nox (cA st) t/\t { nx:=fun _ H'=>Q .non H',rt:=Q } (start N vs) H):FnOk P w K mg base CX0 (k+1) f fd ps sp:=by
 obtain⟨oc,od,kV,ae,pm,an,z,ct,ac,rfl,lk,aa⟩:=F.ex;refine BX lk aa S len fun A outer s H vs Q E hr ab=>?_;obtain⟨t,h,q⟩:=hbody z A outer s H vs Q E hr ab;exact⟨t,h.nox,q⟩
theorem Fun.binds{x qual:Str}{st:Stmt}{f:Addr}{fd:rq}{ps:List Str}(F:Fun K x qual st f fd)
  (h:∀(kV z pm:bb) (an:Option Addr) (q ct:bb) (us:List bb),us.length=ps.length->tm (va x qual (eC st) (cA st) (zf st) .none kV z pm an q ct) ⟨us,[]⟩=pure (ps.zip us)):Binds K fd ps []:=by
 obtain⟨oc,od,kV,z,pm,an,q,ct,aa,rfl,lk,ab⟩:=F.ex;exact .all (h kV z pm an q ct)
theorem iD{x qual:Str}{st:Stmt}{f:Addr}{oc:bb}{od an:Option Addr}{aa:Array (Option bb)}{kV z pm q ct:bb}(l:K.lookup f=some ⟨oc,od,.func (va x qual (eC st) (cA st) (zf st) .none kV z pm an q ct),aa⟩)
  (c:W.codeIn K q qual=true) (k:uj K (.ref f)=true):Fun K x qual st f (va x qual (eC st) (cA st) (zf st) .none kV z pm an q ct):=⟨⟨oc,od,kV,z,pm,an,q,ct,aa,rfl,l,c⟩,k⟩
end
theorem small1000{n:Nat}(h:n<=1000):n<dn:=Nat.lt_of_le_of_lt h dz
section
variable {X:Cx}
theorem pv(i:Nat){x:Str}{pos:Pos}(hN:X.N[i]?=some x:=by rfl)(hv:Vis X.env.scope x:=by first|exact ig rfl|exact qw (ig rfl)|exact qw (qw rfl))(hd:(x==("__debug__":Str))=false:=by decide)
  (hcd:(x==("__classdict__":Str))=false:=by decide):PE X (.Name x pos) (b0 i):=MV hN hv hd hcd
end
theorem fK{A B:Prop}(h:B):if false=true then A else B:=by
 rw[cr gj];exact h
theorem fO{A B:Prop}(h:A):if true=true then A else B:=by
 rw[cy rfl];exact h
theorem ite2{c A B:Prop}[Decidable c](h1:c->A)(h2:¬ c->B):if c then A else B:=by
 by_cases h:c
 ·rw[cy h];exact h1 h
 ·rw[cr h];exact h2 h
def Same(H H':Hp):Prop:=∀b o,H b=some o->H' b=some o
theorem Same.refl(H:Hp):Same H H:=fun _ _ h=>h
theorem Same.trans{H H1 H2:Hp}(a:Same H H1)(b:Same H1 H2):Same H H2:=fun c o h=>b c o (a c o h)
theorem Same.seq{K:cq}{H H':Hp}{a:Addr}{xs:List V}(e:Same H H')(h:SqL K H a xs):SqL K H' a xs:=by
 rcases h with (h|⟨o,h⟩)|h
 ·exact .inl (.inl (e _ _ h))
 ·exact .inl (.inr ⟨o,e _ _ h⟩)
 ·exact .inr h
end
section
section
variable {X:Cx}
def CDivX(i j:Int):Prop:=0<j/\j.natAbs.log2<9000
theorem IX:OpR X (on .FloorDiv) (rI CDivX fun i j=>.int (i/j)):=opI fun i j _ _ _ _ _ hc q=>by
 have h1:(0:Int)<j:=hc.1;exact floordiv_int yw (by rw[Int.fdiv_eq_ediv_of_nonneg i yw];exact q) (.inl (PyProof.noPylong_of_log2 hc.2))
theorem MU:OpR X (on .Mult) (rI IntMulOk fun i j=>.int (i*j)):=opI fun _ _ _ _ _ _ _ hc q=>mul_int q hc
theorem Av{k:Int}{n:Nat}(h:k.natAbs<2 ^ n):Builtin.Int.intBits k<=n:=by
 unfold Builtin.Int.intBits;split
 ·exact lh _
 ·rename_i h0;have hk:k.natAbs≠0:=by
   intro z;apply h0;rw[Int.natAbs_eq_zero.mp z];rfl
  have:=(Nat.log2_lt hk).mpr h;omega
theorem KH{i j:Int}(n m:Nat)(hi:i.natAbs<2 ^ n)(hj:j.natAbs<2 ^ m)(hn:n<=2 ^ 20:=by decide)(hm:m<=2 ^ 20:=by decide):IntMulOk i j:=
 .of_bits (gm (Av hi) hn) (gm (Av hj) hm)
theorem fJ{i j:Int}(h1:-(2 ^ 64)<i)(h2:i<2 ^ 64):IntMulOk i j:=.of_left (intBits_le_64 h1 h2)
theorem vH{n:Int}{k:Nat}(h0:0<n)(h:n<2 ^ k):n.natAbs.log2<k:=by
 refine(Nat.log2_lt yw).mpr ?_;have e:((2 ^ k:Nat):Int)=(2:Int) ^ k:=by simp
 omega
end
def kD:Key->bc
 | .inl i=>.int i
 | .inr x=>.str x
def DOf(H:Hp)(a:Addr)(ks:List bc)(vs:List V):Prop:=
 (∃(ob:Obj) (m:List (Key×V)),H a=some (.frz ob (.dK m))/\ks=m.map (fun p=>kD p.1)/\vs=m.map (·.2)) \/
 ∃(ob:Obj) (p:List Key×V) (m:List (List Key×V)),H a=some (.frz ob (.dT (p::m)))/\ks=(p::m).map (fun p=>.tuple (p.1.map kD))/\vs=(p::m).map (·.2)
mutual
def Has(H:Hp):bc->V->Prop
 | .none,v=>v=.non
 | .bool b,v=>v=.bl b
 | .int i,v=>v=.int i
 | .str x,v=>v=.str x
 | .list ds,v=>∃a vs,v=.ref a/\H a=some (.lst vs)/\HasL H ds vs
 | .tuple ds,v=>∃a vs,v=.ref a/\H a=some (.tup vs)/\HasL H ds vs
 | .dict kvs,v=>∃a vs,v=.ref a/\DOf H a (kvs.map (·.1)) vs/\HasV H kvs vs
def HasL(H:Hp):List bc->List V->Prop
 | [],vs=>vs=[]
 |d::ds,vs=>∃v r,vs=v::r/\Has H d v/\HasL H ds r
def HasV(H:Hp):List (bc×bc)->List V->Prop
 | [],vs=>vs=[]
 |p::ps,vs=>∃v r,vs=v::r/\HasP H p v/\HasV H ps r
def HasP(H:Hp):bc×bc->V->Prop
 | (_,d),v=>Has H d v
end
mutual
theorem Has.mono{H H':Hp}(s:Same H H'):∀(d:bc) (v:V),Has H d v->Has H' d v
 | .none,_,h=>by simp only[Has]at h ⊢;exact h
 | .bool _,_,h=>by simp only[Has]at h ⊢;exact h
 | .int _,_,h=>by simp only[Has]at h ⊢;exact h
 | .str _,_,h=>by simp only[Has]at h ⊢;exact h
 | .list ds,v,h=>by
  simp only[Has]at h ⊢;obtain⟨a,vs,e,q,l⟩:=h;exact⟨a,vs,e,s _ _ q,HasL.mono s ds vs l⟩
 | .tuple ds,v,h=>by
  simp only[Has]at h ⊢;obtain⟨a,vs,e,q,l⟩:=h;exact⟨a,vs,e,s _ _ q,HasL.mono s ds vs l⟩
 | .dict kvs,v,h=>by
  simp only[Has]at h ⊢;obtain⟨a,vs,e,q,l⟩:=h;refine⟨a,vs,e,?_,HasV.mono s kvs vs l⟩;rcases q with ⟨ob,m,e1,e2⟩|⟨ob,p,m,e1,e2⟩
  ·exact .inl ⟨ob,m,s _ _ e1,e2⟩
  ·exact .inr ⟨ob,p,m,s _ _ e1,e2⟩
theorem HasL.mono{H H':Hp}(s:Same H H'):∀(ds:List bc) (vs:List V),HasL H ds vs->HasL H' ds vs
 | [],_,h=>by simp only[HasL]at h ⊢;exact h
 |d::ds,vs,h=>by
  simp only[HasL]at h ⊢;obtain⟨v,r,e,q,l⟩:=h;exact⟨v,r,e,Has.mono s d v q,HasL.mono s ds r l⟩
theorem HasV.mono{H H':Hp}(s:Same H H'):∀(ds:List (bc×bc)) (vs:List V),HasV H ds vs->HasV H' ds vs
 | [],_,h=>by simp only[HasV]at h ⊢;exact h
 |d::ds,vs,h=>by
  simp only[HasV]at h ⊢;obtain⟨v,r,e,q,l⟩:=h;exact⟨v,r,e,HasP.mono s d v q,HasV.mono s ds r l⟩
theorem HasP.mono{H H':Hp}(s:Same H H'):∀(p:bc×bc) (v:V),HasP H p v->HasP H' p v
 | (_,d),v,h=>by
  simp only[HasP]at h ⊢;exact Has.mono s d v h
end
section
variable {H:Hp}{v:V}
theorem i4:Has H .none v↔v=.non:=by simp only[Has]
theorem fE{b:Bool}:Has H (.bool b) v↔v=.bl b:=by simp only[Has]
theorem eY{i:Int}:Has H (.int i) v↔v=.int i:=by simp only[Has]
theorem gC{x:Str}:Has H (.str x) v↔v=.str x:=by simp only[Has]
theorem dA{ds:List bc}:Has H (.list ds) v↔∃a vs,v=.ref a/\H a=some (.lst vs)/\HasL H ds vs:=by simp only[Has]
theorem cJ{ds:List bc}:Has H (.tuple ds) v↔∃a vs,v=.ref a/\H a=some (.tup vs)/\HasL H ds vs:=by simp only[Has]
theorem tE{q:List (bc×bc)}:Has H (.dict q) v↔∃a vs,v=.ref a/\DOf H a (q.map (·.1)) vs/\HasV H q vs:=by simp only[Has]
theorem Hg{vs:List V}:HasV H [] vs↔vs=[]:=by simp only[HasV]
theorem B6{p:bc×bc}{ds:List (bc×bc)}{vs:List V}:HasV H (p::ds) vs↔∃v r,vs=v::r/\Has H p.2 v/\HasV H ds r:=by
 obtain⟨k,d⟩:=p;simp only[HasV,HasP]
theorem zA{vs:List V}:HasL H [] vs↔vs=[]:=by simp only[HasL]
theorem zp{d:bc}{ds:List bc}{vs:List V}:HasL H (d::ds) vs↔∃v r,vs=v::r/\Has H d v/\HasL H ds r:=by simp only[HasL]
theorem HasL.length:∀{ds:List bc}{vs:List V},HasL H ds vs->vs.length=ds.length
 | [],_,h=>by rw[zA.mp h];rfl
 |d::ds,vs,h=>by
  obtain⟨v,r,e,_,l⟩:=zp.mp h;rw[e,cx,cx,HasL.length l]
theorem HasL.get:∀{ds:List bc}{vs:List V}{i:Nat}{d:bc},HasL H ds vs->ds[i]?=some d->∃v,vs[i]?=some v/\Has H d v
 | [],_,_,_,_,e=>by simp at e
 |c::ds,vs,0,d,h,e=>by
  obtain⟨v,r,rfl,q,_⟩:=zp.mp h;simp at e;subst e;exact⟨v,rfl,q⟩
 |c::ds,vs,i+1,d,h,e=>by
  obtain⟨v,r,rfl,_,l⟩:=zp.mp h;obtain⟨u,e1,e2⟩:=HasL.get (i:=i) (d:=d) l (by simpa using e);exact⟨u,by simpa using e1,e2⟩
theorem HasL.append:∀{ds es:List bc}{vs us:List V},HasL H ds vs->HasL H es us->HasL H (ds++es) (vs++us)
 | [],es,vs,us,h,h'=>by rw[zA.mp h];exact h'
 |d::ds,es,vs,us,h,h'=>by
  obtain⟨v,r,rfl,q,l⟩:=zp.mp h;exact zp.mpr ⟨v,r++us,rfl,q,HasL.append l h'⟩
theorem BJ:∀(ns:List Int),HasL H (ns.map .int) (ns.map V.int)
 | []=>zA.mpr rfl
 |n::ns=>zp.mpr ⟨_,_,rfl,eY.mpr rfl,BJ ns⟩
end
def tyD:bc->String
 | .none=>"NoneType" | .bool _=>"bool" | .int _=>"int" | .str _=>"str" | .list _=>"list" | .tuple _=>"tuple" | .dict _=>"dict"
theorem Has.ty{K:cq}{H:Hp}{d:bc}{v:V}(h:Has H d v):TyOf K H v (.type (tyD d)):=by
 cases d with
 |none=>rw[i4.mp h];exact .non
 |bool b=>rw[fE.mp h];exact .bl b
 |int i=>rw[eY.mp h];exact .int i
 |str x=>rw[gC.mp h];exact .str x
 |list ds=>obtain⟨a,vs,rfl,e,_⟩:=dA.mp h;exact .lst e
 |tuple ds=>obtain⟨a,vs,rfl,e,_⟩:=cJ.mp h;exact .tup e
 |dict kvs=>
  obtain⟨a,vs,rfl,e,_⟩:=tE.mp h;rcases e with ⟨ob,m,e,_⟩|⟨ob,p,m,e,_⟩
  ·exact .dK (.inr ⟨ob,e⟩)
  ·exact .dT (.inr ⟨ob,e⟩)
def uL:List String:=["NoneType","bool","int","str","list","tuple","dict"]
def f9:List String:=["int","bool","str","list","tuple","dict"]
def fT(t c:String):Bool:=t==c||(t == "bool" && c == "int")
def jA(d:bc)(c:String):Bool:=fT (tyD d) c
theorem OW(d:bc):tyD d∈uL:=by cases d<;>simp[tyD,uL]
theorem Iv(K:cq){t c:String}(ht:t∈uL)(hc:c∈f9):W.kitOne K (.type t) (.type c)=some (fT t c):=by
 simp only[uL,f9,ja,gt,or_false]at ht hc;rcases ht with rfl|rfl|rfl|rfl|rfl|rfl|rfl<;>rcases hc with rfl|rfl|rfl|rfl|rfl|rfl<;>rfl
def xH:List V->Hp->VK->Prop
 | [x,.ty c],H,Q=>∃d,Has H d x/\c∈f9/\Q (.bl (jA d c)) H
 |_,_,_=>False
theorem LW{H:Hp}{d:bc}{x:V}{c:String}{Q:VK}(h:Has H d x)(hc:c∈f9)(q:Q (.bl (jA d c)) H):xH [x,.ty c] H Q:=⟨d,h,hc,q⟩
section
variable {X:Cx}
theorem iU:CallR X (.builtin "isinstance") xH:=by
 intro zi s σ H xs us Q I r h
 match xs,h with
 | [x,.ty c],h=>
  obtain⟨d,hx,hc,q⟩:=h;obtain⟨u,w',rfl,ru,z⟩:=vals2 r;cases (show w'=oh c from z);exact KZ I ru hx.ty (Iv X.K (OW d) hc) fun tk=>⟨.bl _,H,I.tok tk,rfl,q⟩
end
def sp1(p:V->Hp->VK->Prop):Sp:=fun vs H Q _=>match vs with | [x]=>p x H Q|_=>False
def sp2(p:V->V->Hp->VK->Prop):Sp:=fun vs H Q _=>match vs with | [x,y]=>p x y H Q|_=>False
theorem F9{p:V->Hp->VK->Prop}:∀(vs:List V) (H:Hp) (Q:VK) (E:XK),sp1 p vs H Q E->∃x,vs=[x]/\p x H Q:=by
 intro vs H Q E h
 match vs,h with
 | [x],h=>exact⟨x,rfl,h⟩
theorem GA{p:V->V->Hp->VK->Prop}:∀(vs:List V) (H:Hp) (Q:VK) (E:XK),sp2 p vs H Q E->∃x y,vs=[x,y]/\p x y H Q:=by
 intro vs H Q E h
 match vs,h with
 | [x,y],h=>exact⟨x,y,rfl,h⟩
structure Dd(K:cq)(mg:Str->Option bb)(x:Str)(st:Stmt)(ps:List Str):Prop where
 ex:∃f fd,Fun K x x st f fd/\mg x=some (.ref f)/\Binds K fd ps []
structure Df(P:cz)(w:fy)(K:cq)(mg:Str->Option bb)(base:Heap)(x:Str)(ps:List Str)(k:Nat)(sp:Sp):Prop where
 ex:∃f fd,FnOk P w K mg base CX0 k f fd ps sp/\mg x=some (.ref f)/\uj K (.ref f)=true/\Binds K fd ps []
section
variable {P:cz}{w:fy}{K:cq}{mg:Str->Option bb}{base:Heap}{x a b c d e:Str}{st:Stmt}{N:List Str}{k:Nat}
theorem Df.of{ps:List Str}{sp:Sp}(D:Dd K mg x st ps)(S:FnScope N ps (zf st))(len:∀vs H Q E,sp vs H Q E->vs.length=ps.length)
  (hbody:∀(f:Addr) (cdv:bb) (A:ft) (outer:List Env) (s:bd) (H:Hp) (vs:List V) (Q:VK) (E:XK),Room k (A.deeper (ur x (zf st) s.heap.objs.size f cdv))->sp vs H Q E ->
   ∃t,PSs (eF CX0 P w K mg base N x (zf st) f cdv A outer s H E).nox (cA st) t/\t { nx:=fun _ H'=>Q .non H',rt:=Q } (start N vs) H):Df P w K mg base x ps (k+1) sp:=by
 obtain⟨f,fd,F,hm,hb⟩:=D.ex;exact⟨f,fd,F.ok S len (hbody f),hm,F.kp,hb⟩
theorem Df.of2{p:V->V->Hp->VK->Prop}(D:Dd K mg x st [a,b])(S:FnScope N [a,b] (zf st))(σ0:V->V->St)(hs:∀v u,start N [v,u]=σ0 v u)
  (hbody:∀(f:Addr) (q:bb) (A:ft) (outer:List Env) (s:bd) (H:Hp) (v u:V) (Q:VK) (E:XK),Room k (A.deeper (ur x (zf st) s.heap.objs.size f q))->p v u H Q ->
   ∃t,PSs (eF CX0 P w K mg base N x (zf st) f q A outer s H E).nox (cA st) t/\t { nx:=fun _ H'=>Q .non H',rt:=Q } (σ0 v u) H):Df P w K mg base x [a,b] (k+1) (sp2 p):=by
 refine Df.of D S (fun vs H Q E h=>?_) fun f q A outer s H vs Q E hr h=>?_
 ·obtain⟨x,y,rfl,_⟩:=GA vs H Q E h;rfl
 ·obtain⟨x,y,rfl,h⟩:=GA vs H Q E h;rw[hs];exact hbody f q A outer s H x y Q E hr h
end
def tC2(p:V->V->Hp->VK->Prop)(ta tb:TE):TE:=fun σ H Q=>ta σ H fun x H1=>tb σ H1 fun y H2=>p x y H2 Q
section
variable {X:Cx}{x a b c d e':Str}{k j:Nat}{pos pos':Pos}{e1 e2 e3 e4 e5:Expr}{t1 t2 t3 t4 t5:TE}
theorem HY{p:V->V->Hp->VK->Prop}(D:Df X.prog X.w X.K X.mg X.base x [a,b] k (sp2 p))(hr:Room j X.A)(hk:k<=j)(h1:PE X e1 t1)(h2:PE X e2 t2)(hg:Gl X x:=by rfl)(q:(x==("__debug__":Str))=false:=by decide)
  (q1:dq [e1,e2] X.env=(false,eval e1 X.env)::dq [e2] X.env:=by rfl) (q2:dq [e2] X.env=(false,eval e2 X.env)::dq [] X.env:=by rfl)
  (hpl:(ow pos (dq [e2] X.env)).any (·.1)=false:=by rfl):PE X (.Call (.Name x pos') [e1,e2] [] pos) (tC2 p t1 t2):=by
 obtain⟨f,fd,F,hm,kp,hb⟩:=D.ex;intro zi s σ H Q I h;exact DF (dvs:=[]) (ds:=[]) (E:=E0) F (hr.mono hk) hg hm kp hb .nil pass0 (za h1 (za h2 zd q2) q1) q q1 hpl zi s σ H Q I h
end
theorem Dd.mk'{K:cq}{h:Heap}{mg:Str->Option bb}(X:K.In h)(G:h.Ns jq mg){x:Str}{st:Stmt}{ps:List Str}{f:Addr}{oc:bb}{od an:Option Addr}{aa:Array (Option bb)}{kV z pm q ct:bb}
  (a:W.nsIn K jq x=some (some (.ref f))) (l:K.lookup f=some ⟨oc,od,.func (va x x (eC st) (cA st) (zf st) .none kV z pm an q ct),aa⟩)
  (c:W.codeIn K q x=true) (k:uj K (.ref f)=true)
  (hb:∀(kV z pm:bb) (an:Option Addr) (q ct:bb) (us:List bb),us.length=ps.length->tm (va x x (eC st) (cA st) (zf st) .none kV z pm an q ct) ⟨us,[]⟩=pure (ps.zip us)):Dd K mg x st ps:=
 ⟨f,_,iD (st:=st) l c k,W.mg_of X G a,(iD (st:=st) l c k).binds hb⟩
theorem bI:jc "len" = some (.builtin "len"):=by decide +kernel
theorem i0:jc "isinstance" = some (.builtin "isinstance"):=by decide +kernel
theorem tF:jc "max" = some (.builtin "max"):=by decide +kernel
theorem F6:jc "min" = some (.builtin "min"):=by decide +kernel
theorem CG:jc "int" = some (.type "int"):=by decide +kernel
theorem OU:jc "bool" = some (.type "bool"):=by decide +kernel
theorem EY:jc "list" = some (.type "list"):=by decide +kernel
theorem eZ:jc "tuple" = some (.type "tuple"):=by decide +kernel
section
variable {H:Hp}{Q:VK}
theorem Me{i:Nat}{σ:St}:b0 i σ H Q↔match σ[i]? with|some (some v)=>Q v H|_=>False:=by
 unfold b0;constructor
 ·rintro⟨v,e,q⟩;rw[e];exact q
 ·intro h;split at h
  ·rename_i v e;exact⟨v,e,h⟩
  ·exact h.elim
theorem BZ{g:Int->Int->V}{i j:Int}:rI0 g (.int i) (.int j) H Q↔Q (g i j) H:=
 ⟨fun⟨_,_,e1,e2,q⟩=>by cases e1;cases e2;exact q,fun q=>⟨i,j,rfl,rfl,q⟩⟩
theorem Nu{p:Bool->Prop}{b:Bool}:(∃c,V.bl b=V.bl c/\p c)↔p b:=⟨fun⟨_,e,q⟩=>by cases e;exact q,fun q=>⟨b,rfl,q⟩⟩
end
section
variable {K:cq}{H:Hp}{Q:VK}{x y:V}{d:bc}{ds:List bc}
def AJ(K:cq):List V->Hp->VK->Prop:=fun xs H Q=>∃p ys,xs=[.ref p]/\(SqL K H p ys\/SqT K H p ys)/\Q (.int ys.length) H
end
section
variable {X:Cx}
theorem Hj:CallR X (.builtin "len") (AJ X.K):=By
end
def hid(a:Addr)(H:Hp):Hp:=fun b=>if b=a then none else H b
theorem LV{a b:Addr}{H:Hp}(h:b≠a):hid a H b=H b:=cr h
theorem OJ{a:Addr}{H:Hp}:hid a H a=none:=cy rfl
theorem Same.laid{H:Hp}{p:Addr}{o:HO}(h:H p=none):Same H (upd H p o):=fun b u e=>by
 rw[zC (zJ e h)];exact e
section
variable {X:Cx}{zi:List (Addr×Obj)}{σ:St}{H:Hp}{s:bd}{a:Addr}{m:List (Key×V)}
def Io(i:Nat)(t:TS):TS:=fun D σ H=>t { D with nx:=fun σ' H'=>∃a m,σ'[i]?=some (some (.ref a))/\H' a=some (.dK m)/\∀ob,D.nx σ' (upd H' a (.frz ob (.dK m))) } σ H
end
end
section
theorem rZ(d:bc):jA d "int" = match d with | .int _=>true | .bool _=>true|_=>false:=by cases d<;>first|rfl|(show fT _ _=_;simp[fT,tyD])
theorem oT(d:bc):jA d "bool" = match d with | .bool _=>true|_=>false:=by cases d<;>first|rfl|(show fT _ _=_;simp[fT,tyD])
theorem pP(d:bc):jA d "tuple" = match d with | .tuple _=>true|_=>false:=by cases d<;>first|rfl|(show fT _ _=_;simp[fT,tyD])
theorem oW(d:bc):jA d "list" = match d with | .list _=>true|_=>false:=by cases d<;>first|rfl|(show fT _ _=_;simp[fT,tyD])
def vw:List Addr->Hp->Hp
 | [],H=>H
 |a::r,H=>hid a (vw r H)
def yR(K:cq):V->V->Hp->VK->Prop:=fun x y H Q=>∃(a:Addr) (ns:List Int) (i:Int),x=.ref a/\y=.int i/\SqL K H a (ns.map V.int)/\0<=i/\∀n,Q (.int n) H
theorem KD{ns:List Int}{i:Int}(h0:0<=i)(h1:i<((ns.map V.int).length:Int)):∃n,atI (ns.map V.int) i=some (.int n):=by
 obtain⟨k,rfl⟩:=jh h0;have hk:k<ns.length:=by rw[cg]at h1;omega
 exact⟨ns[k],hZ (by rw[gh,bn hk];rfl)⟩
theorem Kh{ns:List Int}{lo hi:Option Int}{x:V}(h:x∈dY (ns.map V.int) lo hi):∃n,x=.int n:=by
 have h1:=List.mem_of_mem_drop (uq h);obtain⟨n,_,e⟩:=mem_map.mp h1;exact⟨n,e.symm⟩
theorem Fun.bind1{K:cq}{x a:Str}{st:Stmt}{f:Addr}{fd:rq}(F:Fun K x x st f fd)
  (h:∀(kV z pm:bb) (an:Option Addr) (q ct:bb) (u:bb),tm (va x x (eC st) (cA st) (zf st) .none kV z pm an q ct) ⟨[u],[]⟩=pure [(a,u)]):∀(s:bd) (u:bb),BindsTo s fd ⟨[u],[]⟩ [(a,u)]:=by
 obtain⟨oc,od,kV,z,pm,an,q,ct,aa,rfl,lk,ab⟩:=F.ex;exact fun s u=>.of_eq (h kV z pm an q ct u)
def AH(K:cq):V->Hp->VK->Prop:=fun x H Q=>∃(a:Addr) (ns:List Int),x=.ref a/\SqL K H a (ns.map V.int)/\ns.length<=63/\∀H',Q (.bl true) H'
theorem walk_law{l:W.OpenLaw}{k:Nat}{q:cz}{aa:List Str}{XP:(Str->Option bb)->Heap->Prop}{YP:fy->Heap->Prop}{d:DefRec}{K:Params->cq}(hn:l.most=some 63)(ab:d.params.defaults=[])
  (hr:Room k callerA) (hY:∀(w:fy) (h:Heap),YP w h->(K w.params).In h) (hT:∀(w:fy) (h:Heap),YP w h->TabsOk (K w.params) h)
  (F:∀(w:fy) (mg:Str->Option bb) (fa:Addr) (h:Heap),(K w.params).In h->h.Ns jq mg->mg d.name=some (.ref fa) ->
   ∃fd:rq,(∀(s:bd) (u:bb),BindsTo s fd ⟨[u],[]⟩ [("script",u)])/\∀base:Heap,KInW (K w.params) base->base.Ns jq mg->FnOk l.prog w (K w.params) mg base CX0 k fa fd ["script"] (sp1 (AH (K w.params)))):
  W.WalkO q aa XP YP l.row.toRowW d [] (fun f vs=>PySem.call f vs):=
 L2.walk_of (n:=63) (k:=k) (x:="script") (CX:=fun _=>CX0) (sp:=fun w=>sp1 (AH (K w.params))) hn dz ab hr hY hT F (fun _ _ a ns hl _ hS=>⟨a,ns,rfl,hS,hl,fun _=>rfl⟩) fun _ _ _ _ _ z=>z
theorem Fun.ok1{P:cz}{w:fy}{K:cq}{mg:Str->Option bb}{base:Heap}{x a:Str}{st:Stmt}{f:Addr}{fd:rq}{N:List Str}{k:Nat}{p:V->Hp->VK->Prop}(F:Fun K x x st f fd)(S:FnScope N [a] (zf st))(σ0:V->St)(hs:∀v,start N [v]=σ0 v)
  (hbody:∀(q:bb) (A:ft) (outer:List Env) (s:bd) (H:Hp) (v:V) (Q:VK) (E:XK),Room k (A.deeper (ur x (zf st) s.heap.objs.size f q))->p v H Q ->
   ∃t,PSs (eF CX0 P w K mg base N x (zf st) f q A outer s H E).nox (cA st) t/\t { nx:=fun _ H'=>Q .non H',rt:=Q } (σ0 v) H):FnOk P w K mg base CX0 (k+1) f fd [a] (sp1 p):=by
 refine F.ok S (fun vs H Q E h=>?_) fun q A outer s H vs Q E hr h=>?_
 ·obtain⟨x,rfl,_⟩:=F9 vs H Q E h;rfl
 ·obtain⟨x,rfl,h⟩:=F9 vs H Q E h;rw[hs];exact hbody q A outer s H x Q E hr h
end
section
mutual
theorem Has.reads{X:Cx}{zi:List (Addr×Obj)}{σ:St}{H:Hp}{s:bd}(I:Inv X zi σ H s):∀(d:bc) (v:V) (u:bb),Has H d v->d.canLay0=true->RelV v u->∃as,Reads s.heap u d as
 | .none,v,u,h,_,r=>by
  rw[i4.mp h]at r;cases (show u=jr from r);exact⟨_,.none⟩
 | .bool b,v,u,h,_,r=>by
  rw[fE.mp h]at r;cases (show u=jx b from r);exact⟨_,.bool b⟩
 | .int i,v,u,h,_,r=>by
  rw[eY.mp h]at r;obtain⟨t,q⟩:=(show ∃t,u=vh i t from r);cases q;exact⟨_,.int i t⟩
 | .str x,v,u,h,_,r=>by
  rw[gC.mp h]at r;obtain⟨t,q⟩:=(show ∃t,u=vi x t from r);cases q;exact⟨_,.str x t⟩
 | .list ds,v,u,h,c,r=>by
  obtain⟨a,vs,rfl,e,l⟩:=dA.mp h;cases (show u=dw a from r);obtain⟨_,z,n,rv,e1⟩:=(show ObjOk X.prog X.w H s.heap a (.lst vs)from I.hok a _ e);obtain⟨as,q⟩:=HasL.reads I ds vs z l (by simpa only[lg]using c) rv;exact⟨_,.list e1 rfl rfl (by simpa using q)⟩
 | .tuple ds,v,u,h,c,r=>by
  obtain⟨a,vs,rfl,e,l⟩:=cJ.mp h;cases (show u=dw a from r);obtain⟨_,z,rv,o,e1,e2,n,e3⟩:=(show ObjOk X.prog X.w H s.heap a (.tup vs)from I.hok a _ e);obtain⟨as,q⟩:=HasL.reads I ds vs z l (by simpa only[lg]using c) rv;exact⟨_,.tuple e1 e2 e3 (by simpa using q)⟩
 | .dict _,_,_,_,c,_=>by simp[lg]at c
theorem HasL.reads{X:Cx}{zi:List (Addr×Obj)}{σ:St}{H:Hp}{s:bd}(I:Inv X zi σ H s):∀(ds:List bc) (vs:List V) (us:List bb),HasL H ds vs->jv ds=true->Vals vs us->∃as,ReadsAll s.heap us ds as
 | [],vs,us,h,_,r=>by
  rw[zA.mp h]at r;cases r;exact⟨_,.nil⟩
 |d::ds,vs,us,h,c,r=>by
  obtain⟨v,w',rfl,h1,h2⟩:=zp.mp h;have c':d.canLay0=true/\jv ds=true:=by simpa[jv]using c
  cases r with
  |cons r1 r2=>
   obtain⟨as,q1⟩:=Has.reads I d v _ h1 c'.1 r1;obtain⟨bs,q2⟩:=HasL.reads I ds w' _ h2 c'.2 r2;exact⟨_,.cons q1 q2⟩
end
def Fw:R2:=fun x y H Q=>∃d e,Has H d x/\Has H e y/\cv d=true/\cv e=true/\Q (.bl (dm d e)) H
def EF:R2:=fun x y H Q=>∃d e,Has H d x/\Has H e y/\cv d=true/\cv e=true/\Q (.bl (!PyData.eqv d e)) H
section
variable {X:Cx}
theorem bY(hu:X.A.units+64<kq):OpR X (ir .Eq) Fw:=by
 intro zi s σ H x y v u Q I rx ry h;obtain⟨d,e,hd,he,sd,se,q⟩:=h;obtain⟨as,q1⟩:=Has.reads I d x v hd (fx sd) rx;obtain⟨bs,q2⟩:=Has.reads I e y u he (fx se) ry;exact eq_dataH q1 q2 sd se hu ⟨.bl _,H,I,rfl,q⟩
theorem fQ(hu:X.A.units+64<kq):OpR X (ir .NotEq) EF:=by
 intro zi s σ H x y v u Q I rx ry h;obtain⟨d,e,hd,he,sd,se,q⟩:=h;obtain⟨as,q1⟩:=Has.reads I d x v hd (fx sd) rx;obtain⟨bs,q2⟩:=Has.reads I e y u he (fx se) ry;exact ne_dataH q1 q2 sd se hu ⟨.bl _,H,I,rfl,q⟩
end
section
variable {prog:cz}{w:fy}{A:ft}{E:bb->bd->Prop}{s:bd}{l:Addr}
theorem Kp{xs:Array (Int×Tok)}{Q:bb->bd->Prop}(hh:A.handled=none)(hl:s.heap.IsTuple l (sf xs))(z:0<xs.size)
  (h:∀v h' tk,(sf xs)[qm (fun i j=>decide (numAt xs i<numAt xs j)) (xs.size-1)]?=some v->(∀b o,s.heap.get? b=some o->h'.get? b=some o)->Q v { s with heap:=h',toks:=tk }):
  bo (model prog w) A (call (.builtin "min") [.ref l]) Q E s:=by
 have q:l<s.heap.objs.size:=by obtain⟨o,e,_⟩:=hl;exact fj e
 refine call_min_walk (wpAny_pyIter_tuple hl ?_);refine⟨_,[_,l],[_],_,_,_,_,rfl,Walks.tuple (A:=A.in1) hh _ l (ge q) (sf xs),⟨⟨_,bv _ rfl,rfl,rfl⟩,hl.push _⟩,fun c hc=>?_,by simpa[sf]using z,CmpOf.ints_lt (numAt xs) (fun _ _=>intItems_at),fun v h' tk hP hk=>?_⟩
 ·show c<(s.heap.push _).objs.size;rw[qa];rcases mem_cons.mp hc with rfl|hc
  ·exact lt_succ_self _
  ·rcases mem_cons.mp hc with rfl|hc
   ·exact uk q
   ·cases hc
 ·refine h v h' tk (by simpa[sf]using hP) fun b o e=>hk b o (fun hm=>?_) (bf _ e);rcases mem_cons.mp hm with e1|hm
  ·exact absurd (e1▸fj e) (nj _)
  ·cases hm
theorem Nf{xs:Array (Int×Tok)}{Q:bb->bd->Prop}(hh:A.handled=none)(hl:s.heap.IsTuple l (sf xs))(z:0<xs.size)
  (h:∀v h' tk,(sf xs)[qm (fun i j=>decide (numAt xs i>numAt xs j)) (xs.size-1)]?=some v->(∀b o,s.heap.get? b=some o->h'.get? b=some o)->Q v { s with heap:=h',toks:=tk }):
  bo (model prog w) A (call (.builtin "max") [.ref l]) Q E s:=by
 have q:l<s.heap.objs.size:=by obtain⟨o,e,_⟩:=hl;exact fj e
 refine call_max_walk (wpAny_pyIter_tuple hl ?_);refine⟨_,[_,l],[_],_,_,_,_,rfl,Walks.tuple (A:=A.in1) hh _ l (ge q) (sf xs),⟨⟨_,bv _ rfl,rfl,rfl⟩,hl.push _⟩,fun c hc=>?_,by simpa[sf]using z,CmpOf.ints_gt (numAt xs) (fun _ _=>intItems_at),fun v h' tk hP hk=>?_⟩
 ·show c<(s.heap.push _).objs.size;rw[qa];rcases mem_cons.mp hc with rfl|hc
  ·exact lt_succ_self _
  ·rcases mem_cons.mp hc with rfl|hc
   ·exact uk q
   ·cases hc
 ·refine h v h' tk (by simpa[sf]using hP) fun b o e=>hk b o (fun hm=>?_) (bf _ e);rcases mem_cons.mp hm with e1|hm
  ·exact absurd (e1▸fj e) (nj _)
  ·cases hm
theorem nX{vs:List bb}{ns:List Int}(hi:uo vs ns):∃xs:Array (Int×Tok),vs.toArray=sf xs/\ns=xs.toList.map (·.1):=by
 obtain⟨xs,e⟩:=hi.allInts.items;exact⟨xs,e,by rw[<- hi.numsOf,<- nums_intItems,<- e]⟩
end
def yT(K:cq):List V->Hp->VK->Prop:=fun xs H Q=>∃p ns,xs=[.ref p]/\(SqL K H p (ns.map V.int)\/SqT K H p (ns.map V.int))/\ns≠[]/\∀m,m∈ns->(∀a,a∈ns->m<=a)->Q (.int m) H
def D6(K:cq):List V->Hp->VK->Prop:=fun xs H Q=>∃p ns,xs=[.ref p]/\(SqL K H p (ns.map V.int)\/SqT K H p (ns.map V.int))/\ns≠[]/\∀m,m∈ns->(∀a,a∈ns->a<=m)->Q (.int m) H
section
variable {X:Cx}
theorem IG(hc:X.calm=true):CallR X (.builtin "min") (yT X.K):=by
 intro zi s σ H xs us Q I r h;obtain⟨p,ns,rfl,hq,aa,q⟩:=h;obtain⟨u,rfl,rx⟩:=vals1 r;cases (show u=dw p from rx);have done:∀(ys:Array (Int×Tok)) (v:bb) (h':Heap) (tk:Nat),ns=ys.toList.map (·.1)->0<ys.size->(sf ys)[qm (fun i j=>decide (numAt ys i<numAt ys j)) (ys.size-1)]?=some v ->
   (∀b o,s.heap.get? b=some o->h'.get? b=some o)->EP X zi σ Q v { s with heap:=h',toks:=tk }:=by
  intro ys v h' tk z hsz hv hk;obtain⟨t,rfl⟩:=intItems_at hv;obtain⟨h1,h2⟩:=argBest_lt (numAt ys) (ys.size-1);refine⟨.int _,H,I.kept (t':=tk) hk,⟨t,rfl⟩,q _ ?_ fun a ha=>?_⟩
  ·rw[z,numAt_eq];exact getD_mem (by rw[cg,fu];omega)
  ·rw[z]at ha;obtain⟨j,hj,rfl⟩:=mem_getD ha;rw[cg,fu]at hj;rw[<- numAt_eq];exact h2 j yw
 rcases hq with hq|hq
 ·obtain⟨ab,rv,pl,_⟩:=I.list hq;obtain⟨ys,e,z⟩:=nX (jH rv);have hsz:0<ys.size:=by
   cases ys with
   |mk l=>cases l with
    |nil=>exact absurd z aa
    |cons _ _=>exact Nat.succ_pos _
  exact min_intList (I.ok.hd hc) (by rw[<- e];exact pl.isList) hsz fun v h' tk hv hk=>done ys v h' tk z hsz hv hk
 ·obtain⟨ab,rv,pl,_⟩:=I.tuple hq;obtain⟨ys,e,z⟩:=nX (jH rv);have hsz:0<ys.size:=by
   cases ys with
   |mk l=>cases l with
    |nil=>exact absurd z aa
    |cons _ _=>exact Nat.succ_pos _
  exact Kp (I.ok.hd hc) (by rw[<- e];exact pl) hsz fun v h' tk hv hk=>done ys v h' tk z hsz hv hk
theorem Fd(hc:X.calm=true):CallR X (.builtin "max") (D6 X.K):=by
 intro zi s σ H xs us Q I r h;obtain⟨p,ns,rfl,hq,aa,q⟩:=h;obtain⟨u,rfl,rx⟩:=vals1 r;cases (show u=dw p from rx);have done:∀(ys:Array (Int×Tok)) (v:bb) (h':Heap) (tk:Nat),ns=ys.toList.map (·.1)->0<ys.size->(sf ys)[qm (fun i j=>decide (numAt ys i>numAt ys j)) (ys.size-1)]?=some v ->
   (∀b o,s.heap.get? b=some o->h'.get? b=some o)->EP X zi σ Q v { s with heap:=h',toks:=tk }:=by
  intro ys v h' tk z hsz hv hk;obtain⟨t,rfl⟩:=intItems_at hv;obtain⟨h1,h2⟩:=argBest_gt (numAt ys) (ys.size-1);refine⟨.int _,H,I.kept (t':=tk) hk,⟨t,rfl⟩,q _ ?_ fun a ha=>?_⟩
  ·rw[z,numAt_eq];exact getD_mem (by rw[cg,fu];omega)
  ·rw[z]at ha;obtain⟨j,hj,rfl⟩:=mem_getD ha;rw[cg,fu]at hj;rw[<- numAt_eq];exact h2 j yw
 rcases hq with hq|hq
 ·obtain⟨ab,rv,pl,_⟩:=I.list hq;obtain⟨ys,e,z⟩:=nX (jH rv);have hsz:0<ys.size:=by
   cases ys with
   |mk l=>cases l with
    |nil=>exact absurd z aa
    |cons _ _=>exact Nat.succ_pos _
  exact max_intList (I.ok.hd hc) (by rw[<- e];exact pl.isList) hsz fun v h' tk hv hk=>done ys v h' tk z hsz hv hk
 ·obtain⟨ab,rv,pl,_⟩:=I.tuple hq;obtain⟨ys,e,z⟩:=nX (jH rv);have hsz:0<ys.size:=by
   cases ys with
   |mk l=>cases l with
    |nil=>exact absurd z aa
    |cons _ _=>exact Nat.succ_pos _
  exact Nf (I.ok.hd hc) (by rw[<- e];exact pl) hsz fun v h' tk hv hk=>done ys v h' tk z hsz hv hk
end
section
variable {K:cq}{o:List Addr}{σ:St}{H0:Hp}{t t1 t2 t3 t4 t5:TE}{ta:TA}{tt tu:TT}{d d1 d2 d3 d4 d5:bc}{ds:List bc}{b c:Bool}
def iQ:bc->Bool
 | .none=>true
 |_=>false
theorem EH{H:Hp}{v:V}(h:Has H d v):decide (v=.non)=iQ d:=by
 cases d with
 |none=>rw[i4.mp h];rfl
 |bool _=>rw[fE.mp h];rfl
 |int _=>rw[eY.mp h];rfl
 |str _=>rw[gC.mp h];rfl
 |list _=>obtain⟨a,vs,rfl,_⟩:=dA.mp h;rfl
 |tuple _=>obtain⟨a,vs,rfl,_⟩:=cJ.mp h;rfl
 |dict _=>obtain⟨a,vs,rfl,_⟩:=tE.mp h;rfl
def E4:R2:=fun x y H Q=>y=.non/\Q (.bl (decide (x=.non))) H
def Cd:R2:=fun x y H Q=>y=.non/\Q (.bl (!decide (x=.non))) H
theorem xY{X:Cx}:OpR X (ir .Is) E4:=LG
theorem MA{X:Cx}:OpR X (ir .IsNot) Cd:=MF
end
def spD(a b:Int):bc:=.tuple [.int a,.int b]
end
section
theorem NZ{K:cq}{a:Addr}{ns:List Int}{N:Int}{j:Nat}{tb:TS}{D:Ends}{σ:St}{H:Hp}(P:St->Prop)(h0:σ[0]?=some (some (.ref a)))(hS:SqL K H a (ns.map V.int))(z:ns.length<=63)(hP:P σ)
  (turn:∀(n:Int) (σ:St) (H1 H2:Hp),P σ->Same H H1->Same H1 H2->tb { D with nx:=fun σ' H'=>Same H1 H'/\P σ',ct:=fun σ' H'=>Same H1 H'/\P σ',bk:=D.nx } (σ.set j (some (.int n))) H2)
  (done:∀(σ:St) (H1:Hp),P σ->Same H H1->D.nx σ H1):
  lO (xO K (tOp l0 (mO (gZ (tC2 (yR K) (b0 0) (tC (.int 0))) j7)) (tSl (qW K) (b0 0) (lY (tC (.int 1))) (lY (tC (.int N)))))) (jO j) tb D σ H:=by
 refine⟨_,h0,a,ns,0,rfl,rfl,hS,by decide,fun n0=>⟨by show 1<=dn;decide,fun p hp=>?_⟩⟩;have s1:Same H (upd H p (.lst [.int n0])):=Same.laid hp;refine⟨_,h0,_,rfl,_,rfl,a,_,rfl,s1.seq hS,fun p2 q=>?_⟩;have s2:=s1.trans (Same.laid (o:=.lst (dY (ns.map V.int) (some 1) (some N))) q);have np:p≠p2:=zJ zF q;have hz:(dY (ns.map V.int) (some 1) (some N)).length<=63:=gm (wP _ _ _) (by rw[cg];exact z);refine⟨p,p2,_,_,rfl,rfl,by rw[zC np,zF],zF,jn (small1000 (by simp only[cx,tp];omega)),fun p3 aa=>?_⟩;have s3:=s2.trans (Same.laid (o:=.lst ([V.int n0]++dY (ns.map V.int) (some 1) (some N))) aa);refine⟨p3,rfl,⟨_,.of zF⟩,Ll (K:=K) (a:=p3) (xs:=[V.int n0]++dY (ns.map V.int) (some 1) (some N)) (fun i σ' H'=>Same _ H'/\P σ') ⟨Same.refl _,hP⟩ (fun i σ H4 _ ⟨s4,_⟩=>.of (s4 _ _ zF)) ?_ ?_⟩
 ·rintro i x σ' H4 hi ⟨s4,p4⟩;obtain⟨n,rfl⟩:∃n,x=.int n:=by
   rcases mem_append.mp (ci hi)with m|m
   ·exact⟨n0,mem_singleton.mp m⟩
   ·exact Kh m
  exact turn n σ' _ H4 p4 s3 s4
 ·rintro σ' H4 ⟨s4,p4⟩;exact done σ' H4 p4 (s3.trans s4)
end
section
section
variable {prog:cz}{w:fy}{A:ft}{E:bb->bd->Prop}{R:Result->bd->Prop}{s:bd}
theorem IC{elt aa iter:Expr}{ifs:List Expr}{scope:Scope}{pos:Pos}{it acc:bb}{env:Env}(I:Nat->bd->Prop)
  (turn:∀n s,I n s->bo (model prog w) A (nv it) (fun r s₁=>match r with
   |none=>R (.ok .next) s₁
   |some v=>bo (model prog w) A (letOwnedTupleGo aa it v) (fun _ s₀=>bo (model prog w) A (assign aa env v) (fun _ s₂=>
     bo (model prog w) A (forIn ifs true fun c r=>if r=true then do let ok <- isTrue c env (eval c env);pure (si ok)else pure (si r)) (fun ok s₃=>
      if ok=true then bo (model prog w) A (eval elt env) (fun x s₄=>
       bo (model prog w) A (call (.builtin "list.append") [acc,x]) (fun _ s₅=>∃m,m<n/\I m s₅) (fun _ _=>False) s₄) (fun _ _=>False) s₃
      else ∃m,m<n/\I m s₃) (fun _ _=>False) s₂) (fun _ _=>False) s₀) (fun _ _=>False) s₁) (fun _ _=>False) s)
  (n:Nat) (h:I n s):
  ol (model prog w) A (.compLoop (.ListComp elt [⟨aa,iter,ifs,0⟩] scope pos) 0 it acc env) R s:=by
 have up:∀{α:Type}{t:Sem α}{Q:α->bd->Prop}{E':bb->bd->Prop}{s':bd},bo (model prog w) A t Q (fun _ _=>False) s'->bo (model prog w) A t Q E' s':=fun h=>qz h (fun _ _ q=>q) fun _ _ z=>z.elim;refine codeAny_loop rfl I (fun n s hI=>?_) n h;show bo _ A ((compTurn (.ListComp elt [⟨aa,iter,ifs,0⟩] scope pos) 0 it acc env).onRaise (fun x=>do noteFrame x env;theTreesLotGoes x)) _ _ s;refine wpAny_noted ?_;rw[compTurn_list];refine ba (wpAny_standAt (ba (thn (up (turn n s hI)) fun r s₁ h₁=>?_)));cases r with
 |none=>exact be h₁
 |some v=>
  refine ba (thn (up h₁) fun _ s₀ h₀=>?_);refine ba (thn (up h₀) fun _ s₂ h₂=>ba (thn (up h₂) fun ok s₃ h₃=>?_));cases ok with
  |false=>exact be ⟨rfl,h₃⟩
  |true=>
   exact ba (ba (thn (up h₃) fun x s₄ h₄=>ba (thn (up h₄) fun _ s₅ h₅=>be (be ⟨rfl,h₅⟩))))
end
def cU(X:Cx)(scope:Scope)(cl:List (Str×Addr))(C:Addr)(s₃:bd)(H₃:Hp)(fp:List Addr)(N:List Str):Cx where
 prog:=X.prog
 w:=X.w
 K:=X.K
 mg:=X.mg
 base:=X.base
 A:=X.A
 N:=N
 s₀:=s₃
 H₀:=H₃
 env:=compEnvC scope cl C X.env
 outer:=X.stack
 stack:=X.stack
 ex:=fp
 fn:=fun _=>false
 calm:=X.calm
 pn:=[]
 xe:=fun _ _=>False
def PTs(X:Cx)(ifs:List Expr)(t:TT):Prop:=
 ∀(zi:List (Addr×Obj)) (s:bd) (σ:St) (H:Hp) (Q:Bool->Hp->Prop),Inv X zi σ H s->t σ H Q ->
  bo (model X.prog X.w) X.A (forIn ifs true fun c r=>if r=true then do let ok <- isTrue c X.env (eval c X.env);pure (si ok)else pure (si r)) (TP X zi σ Q) X.xe s
def ER:TT:=fun _ H Q=>Q true H
theorem bP{X:Cx}:PTs X [] ER:=fun _ _ _ H _ I h=>wpAny_tests_nil ⟨H,I,h⟩
theorem xF{X:Cx}{c:Expr}{t:TT}(h:PT X c t):PTs X [c] t:=fun zi s σ H Q I hw=>wpAny_tests_one (h zi s σ H Q I hw)
def tau(caps:List (Option Nat))(σ:St):St:=caps.map fun o=>o.bind fun i=>(σ[i]?).join
def l7(caps:List (Option Nat))(wi:TI)(g:TG)(tt:TT)(te:TE):TE:=fun σ H Q=>wi σ H fun J H1=>∀D,H1 D=none->∃W:Nat->Nat->St->Hp->Prop,(∃m,W 0 m (tau caps σ) (upd H1 D (.lst []))) /\
 ∀i m τ H2,W i m τ H2->(J.stop i H2/\Q (.ref D) H2)\/(J.go i H2/\∀x H3,J.yld i H2 x H3->g x τ H3 fun τ4 H4=>tt τ4 H4 fun b H5=>
  if b=true then te τ4 H5 fun v H6=>∃xs,H6 D=some (.lst xs)/\xs.length<dn/\∃m',m'<m/\W (i+1) m' τ4 (upd H6 D (.lst (xs++[v])))else ∃m',m'<m/\W (i+1) m' τ4 H5)
structure CompOk(X:Cx)(scope:Scope)(cl:List (Str×Addr))(N:List Str)(caps:List (Option Nat)):Prop where
 clos:closureFor scope X.env=pure cl
 sub:∀x c,cl.lookup x=some c->X.env.cells.lookup x=some c
 kind:scope.kind=.function
 cell:∀y∈scope.names,y.2≠.cell
 names:∀y∈scope.names,y.2=.local->scope.names.lookup y.1=some .local
 has:∀x,((relabel scope X.env).names.lookup x=some .cell\/(relabel scope X.env).names.lookup x=some .free)->∃c,cl.lookup x=some c
 cap:∀(j i:Nat) (x:Str),caps[j]?=some (some i)->N[j]?=some x->X.N[i]?=some x/\Vis X.env.scope x/\¬ X.env.kindOf x=some .local/\∃c,cl.lookup x=some c/\((relabel scope X.env).names.lookup x=some .cell\/(relabel scope X.env).names.lookup x=some .free)
 len:caps.length=N.length
section
variable {X:Cx}{scope:Scope}{cl:List (Str×Addr)}{N:List Str}{caps:List (Option Nat)}{tg iter elt:Expr}{ifs:List Expr}{pos:Pos}{wi:TI}{g:TG}{tt:TT}{te:TE}
theorem HL{zi:List (Addr×Obj)}{σ:St}{H:Hp}{s:bd}{fp:List Addr}{h₁:Heap}{t':Nat}(c:CompOk X scope cl N caps)(I:Inv X zi σ H s)(f:∀b∈fp,FpOk X zi H b)(fo:∀b∈fp,∃o,s.heap.get? b=some o)
  (hns:h₁.Ns s.heap.objs.size (fun _=>none)) (hk:∀b o,s.heap.get? b=some o->h₁.get? b=some o):
  Inv (cU X scope cl s.heap.objs.size s H fp N) [] (tau caps σ) H { s with heap:=h₁,toks:=t' }:=by
 have lt:∀b∈fp,b<s.heap.objs.size:=fun b hb=>by obtain⟨o,e⟩:=fo b hb;exact fj e
 have ab:∀x k,cl.lookup x=some k->∃v,s.heap.IsCell k v:=fun x k e=>I.cell x k (c.sub x k e);refine⟨⟨I.ok.mod,c.kind,I.ok.glob,I.ok.blt,dh _,fun x y k h1 h2=>I.ok.inj x y k (c.sub x k h1) (c.sub y k h2),fun x hx=>c.has x hx,fun x k h _=>absurd (show false=true from h) dz,I.ok.hd,I.ok.frames,.inl rfl,
  fun b hb=>⟨ge (lt b hb),fun x k e=>(f b hb).2.2.2.2.1 x k (c.sub x k e)⟩,I.bs,gm I.ok.bsz I.sz,fun b o e hb=>?_,fun b hb z=>?_,I.stack,I.stkFree⟩,
  rfl,I.bare,Un.kept hk,⟨_,hns,fun j x v h1 h2 h3=>?_⟩,fun x k e=>?_,I.hok.fresh (dh _),fun x k e=>I.freeC x k (c.sub x k e),fun p hp=>absurd (show p∈([]:List (Addr×Obj))from hp) yv,I.hok.kept hk,?_⟩
 ·rcases(f b hb).2.2.2.1 with q|q
  ·exact I.ok.noex b o e q
  ·exact absurd (fw (fj e) (gm I.ok.bsz q)) (nj _)
 ·rcases mem_cons.mp (I.stkSub b z)with q|q
  ·exact(f b hb).2.1 q
  ·exact(f b hb).2.2.1 q
 ·have aa:(caps.map fun o=>o.bind fun i=>(σ[i]?).join)[j]?=some (some v):=h2;rw[gh]at aa;cases e:caps[j]? with
  |none=>rw[e]at aa;cases aa
  |some oi=>
   rw[e]at aa;have h2'':(oi.bind fun i=>(σ[i]?).join)=some v:=ic aa;cases oi with
   |none=>cases h2''
   |some i=>
    have h4:(σ[i]?).join=some v:=h2'';have h5:σ[i]?=some (some v):=by
     cases q:σ[i]? with
     |none=>rw[q]at h4;cases h4
     |some w'=>rw[q]at h4;exact congrArg some h4
    obtain⟨k1,k2,k3,cc,k4,k5⟩:=c.cap j i x e h1;obtain⟨m,hn,hl⟩:=I.loc;obtain⟨u,r,l⟩:=hl i x v k1 h5 k2;refine⟨u,r,.inr ⟨k5,cc,k4,?_⟩⟩;rcases l with ⟨q,_⟩|⟨_,c',hc',hcell⟩
    ·exact(k3 q).elim
    ·rw[c.sub x cc k4]at hc';cases hc';exact hcell.keeps hk
 ·obtain⟨v,q⟩:=ab x k e;exact⟨v,q.keeps hk⟩
 ·show (caps.map _).length=N.length;rw[cg];exact c.len
theorem HG{zi:List (Addr×Obj)}{σ τ:St}{H H':Hp}{s s':bd}{h':Heap}{fp:List Addr}(I:Inv X zi σ H s)(f:∀b∈fp,FpOk X zi H b)(J:Inv (cU X scope cl s.heap.objs.size s H fp N) [] τ H' s')(hs:fg s.heap.objs.size s'.heap h'):
  Inv X zi σ H' { s' with heap:=h' }:=by
 have hC:H' s.heap.objs.size=none:=J.free;have keep:∀b o,b≠s.heap.objs.size->s'.heap.get? b=some o->h'.get? b=some o:=fun b o nb e=>hs.extBut b o nb e;have u1:Un (frs X.stack) (s.heap.objs.size::fp) H H' s.heap s'.heap:=Un.mono J.base (fun b hb=>hb) (fun b hb=>bq _ hb);have u2:Un (frs X.stack) (s.heap.objs.size::fp) H' H' s'.heap h':=
  ⟨fun b o e _ _ hx=>keep b o (fun z=>hx (by rw[z];exact cp)) e,fun b o e _ _ hx=>⟨o.slots,keep b o (fun z=>hx (by rw[z];exact cp)) e⟩,fun _ _ _ n _=>n,fun b o e hx=>⟨o,keep b o (fun z=>hx (by rw[z];exact cp)) e⟩,fun _ _ q=>q,fun _ _ _ q=>q,fun _ _ q=>q⟩
 have hok:HOk X.prog X.w H' h':=fun a o e=>(J.hok a o e).stay (fun b u hb q=>keep b u (fun z=>by
  rcases hb with hb|hb
  ·rw[<- hb,z,hC]at e;cases e
  ·rw[z,hC]at hb;cases hb) q) (fun b q=>q) fun b xs q=>q
 refine I.call' (s':={ s' with heap:=h' }) (ch:=s.heap.objs.size::fp) J.os (u1.trans u2) hok J.bare fun b hb=>?_;rcases mem_cons.mp hb with rfl|hb
 ·refine⟨.inr I.sz,uz I.lt,fun x k e z=>?_,fun p hp z=>?_⟩
  ·obtain⟨v,q⟩:=I.cell x k e;exact absurd q.lt (by rw[z];exact nj _)
  ·exact absurd (fj (I.pin p hp).1) (by rw[z];exact nj _)
 ·obtain⟨f0,f1,f2,f3,f4,f5⟩:=f b hb;exact⟨f3,f1,f4,f5⟩
theorem Am{zi:List (Addr×Obj)}{σ:St}{H2:Hp}{s2:bd}{it:Addr}{fp:List Addr}{tn:Nat->Heap->Prop}{J:It}{RR:bb->Addr->Result->bd->Prop}{E:bb->bd->Prop}(hc:X.calm=true)(c:CompOk X scope cl N caps)
  (I2:Inv X zi σ H2 s2) (T:Turn X.prog X.w X.K tg J fp it tn) (st2:tn 0 s2.heap) (f2:∀b∈fp,FpOk X zi H2 b)
  (hg:∀C s H fp,PG (cU X scope cl C s H fp N) tg g) (ht:∀C s H fp,PTs (cU X scope cl C s H fp N) ifs tt) (he:∀C s H fp,PE (cU X scope cl C s H fp N) elt te)
  (Q:VK) (hq:∀D,H2 D=none->∃W:Nat->Nat->St->Hp->Prop,(∃m,W 0 m (tau caps σ) (upd H2 D (.lst []))) /\
   ∀i m τ H2,W i m τ H2->(J.stop i H2/\Q (.ref D) H2)\/(J.go i H2/\∀x H3,J.yld i H2 x H3->g x τ H3 fun τ4 H4=>tt τ4 H4 fun b H5=>
    if b=true then te τ4 H5 fun v H6=>∃xs,H6 D=some (.lst xs)/\xs.length<dn/\∃m',m'<m/\W (i+1) m' τ4 (upd H6 D (.lst (xs++[v])))else ∃m',m'<m/\W (i+1) m' τ4 H5))
  (hRR:∀(D C:Addr) (H':Hp) (s':bd) (m:Str->Option bb),s'.heap.Ns C m->FpOk X zi H' C->(∀h',fg C s'.heap h'->Inv X zi σ H' { s' with heap:=h' })->Q (.ref D) H'->RR (.ref D) C (.ok .next) s'):
  bo (model X.prog X.w) X.A (newList []) (fun acc s₃=>bo (model X.prog X.w) X.A (newFunctionEnv scope X.env.globals cl [] X.env.qual none .none (some X.env)) (fun ae s₄=>
   ol (model X.prog X.w) X.A (.compStart (.ListComp elt [⟨tg,iter,ifs,0⟩] scope pos) 0 (.ref it) acc { ae with scope:=relabel scope X.env }) (RR acc ae.locals) s₄) E s₃) E s2:=by
 have hD:H2 s2.heap.objs.size=none:=I2.hok.fresh (dh _);obtain⟨W,⟨m0,w0⟩,ah⟩:=hq s2.heap.objs.size hD;have I3:Inv X zi σ (upd H2 s2.heap.objs.size (.lst [])) { s2 with heap:=s2.heap.push { cls:=.type "list",data:=.seq ([]:List bb).toArray } }:=I2.laid (t':=s2.toks) (fun b u e=>bf _ e) (dh _) ⟨lh _,[],0,.nil,bv _ rfl⟩;have fo:∀b∈fp,∃o,s2.heap.get? b=some o:=fun b hb=>by obtain⟨o,e,_⟩:=T.obj 0 _ st2 b hb;exact⟨o,e⟩
 have f3:∀b∈fp,FpOk X zi (upd H2 s2.heap.objs.size (.lst [])) b:=fun b hb=>by
  obtain⟨o,e⟩:=fo b hb;refine⟨?_,(f2 b hb).2⟩;rw[zC (ge (fj e))];exact(f2 b hb).1
 refine gb (wpAny_newFunctionEnv c.cell (by intro y hy;simp at hy) (fun h₁ al ai=>?_) c.kind);have hk:∀b o,(s2.heap.push { cls:=.type "list",data:=.seq ([]:List bb).toArray }).get? b=some o->h₁.get? b=some o:=fun b o e=>ai.extBut b o (ge (fj e)) (bf _ e);have ak:tn 0 h₁:=T.keep 0 _ _ st2 fun b _ o e=>hk b o (bf _ e);have I4:=HL (t':=s2.toks+([]:List (Str×bb)).length) c I3 f3 (fun b hb=>by obtain⟨o,e⟩:=fo b hb;exact⟨o,bf _ e⟩) al hk;have ab:∀{H':Hp},(∀b∈fp,H' b=none)->∀b∈fp,FpOk (cU X scope cl (s2.heap.push { cls:=.type "list",data:=.seq ([]:List bb).toArray }).objs.size { s2 with heap:=s2.heap.push { cls:=.type "list",data:=.seq ([]:List bb).toArray } } (upd H2 s2.heap.objs.size (.lst [])) fp N) [] H' b:=fun hn b hb=>
  ⟨hn b hb,(I4.ok.exf b hb).1,I4.ok.exfs b hb,.inl hb,(I4.ok.exf b hb).2,fun p hp=>absurd (show p∈([]:List (Addr×Obj))from hp) yv⟩
 have ac:ol (model X.prog X.w) X.A (.compLoop (.ListComp elt [⟨tg,iter,ifs,0⟩] scope pos) 0 (.ref it) (.ref s2.heap.objs.size) (compEnvC scope cl (s2.heap.push { cls:=.type "list",data:=.seq ([]:List bb).toArray }).objs.size X.env))
   (RR (.ref s2.heap.objs.size) (s2.heap.push { cls:=.type "list",data:=.seq ([]:List bb).toArray }).objs.size) { s2 with heap:=h₁,toks:=s2.toks+([]:List (Str×bb)).length }:=by
  refine IC (fun n s'=>∃i τ H',Inv (cU X scope cl (s2.heap.push { cls:=.type "list",data:=.seq ([]:List bb).toArray }).objs.size { s2 with heap:=s2.heap.push { cls:=.type "list",data:=.seq ([]:List bb).toArray } } (upd H2 s2.heap.objs.size (.lst [])) fp N) [] τ H' s'/\tn i s'.heap/\(∀b∈fp,H' b=none)/\W i n τ H') ?_ m0 ⟨0,_,_,I4,ak,fun b hb=>(f3 b hb).1,w0⟩;rintro n s5 ⟨i,τ,H5,I5,ag,aj,w5⟩;rcases ah i n τ H5 w5 with ⟨stop,qn⟩|⟨go,step⟩
  ·refine thn (T.done (cU X scope cl (s2.heap.push { cls:=.type "list",data:=.seq ([]:List bb).toArray }).objs.size { s2 with heap:=s2.heap.push { cls:=.type "list",data:=.seq ([]:List bb).toArray } } (upd H2 s2.heap.objs.size (.lst [])) fp N) rfl rfl rfl hc i [] s5 τ H5 (fun _ _=>False) I5 (ab aj) ag stop) fun r s6 ⟨hr,I6⟩=>?_;subst hr;obtain⟨m,hn,_⟩:=id I6.loc;exact hRR _ _ H5 s6 m hn (I3.fpOk (dh _) I6.free) (fun h' hs=>HG I3 f3 I6 hs) qn
  ·refine thn (T.item (cU X scope cl (s2.heap.push { cls:=.type "list",data:=.seq ([]:List bb).toArray }).objs.size { s2 with heap:=s2.heap.push { cls:=.type "list",data:=.seq ([]:List bb).toArray } } (upd H2 s2.heap.objs.size (.lst [])) fp N) rfl rfl rfl hc i [] s5 τ H5 (fun _ _=>False) I5 (ab aj) ag go) fun r s6 ⟨u,hr,h6⟩=>?_;subst hr;refine thn h6 fun _ s7 ⟨x,H7,I7,r7,y7,af,ao⟩=>?_;have I7':=I7.pinned (ab ao) (T.obj _ _ af);refine thn (hg _ _ _ _ _ s7 τ H7 x u _ I7' r7 (step x H7 y7)) fun _ s8 ⟨τ8,H8,I8,q8⟩=>?_;refine thn (ht _ _ _ _ _ s8 τ8 H8 _ I8 q8) fun ok s9 ⟨H9,I9,q9⟩=>?_;have aa:∀{H':Hp}{s':bd}{m:Nat},Inv (cU X scope cl (s2.heap.push { cls:=.type "list",data:=.seq ([]:List bb).toArray }).objs.size { s2 with heap:=s2.heap.push { cls:=.type "list",data:=.seq ([]:List bb).toArray } } (upd H2 s2.heap.objs.size (.lst [])) fp N) ([]++sE fp s7.heap) τ8 H' s'->(m<n/\W (i+1) m τ8 H') ->
     ∃m,m<n/\∃i τ H',Inv (cU X scope cl (s2.heap.push { cls:=.type "list",data:=.seq ([]:List bb).toArray }).objs.size { s2 with heap:=s2.heap.push { cls:=.type "list",data:=.seq ([]:List bb).toArray } } (upd H2 s2.heap.objs.size (.lst [])) fp N) [] τ H' s'/\tn i s'.heap/\(∀b∈fp,H' b=none)/\W i m τ H':=fun {H' s' m} I' q=>by
    refine⟨m,q.1,i+1,τ8,H',I'.unpinned,T.keep _ _ _ af fun b hb o e=>(I'.pin (b,o) (cw _ (cw _ (sJ hb e)))).1,fun b hb=>?_,q.2⟩;obtain⟨o,e,d⟩:=T.obj _ _ af b hb;exact(I'.pin (b,o) (cw _ (cw _ (sJ hb e)))).2.1
   cases ok with
   |false=>
    rw[cr gj]at q9 ⊢;obtain⟨m',hm,w9⟩:=q9;exact aa I9 ⟨hm,w9⟩
   |true=>
    rw[cy rfl]at q9 ⊢;refine thn (he _ _ _ _ _ s9 τ8 H9 _ I9 q9) fun v an ⟨z,H10,I10,ap,xs,hx,hz,m',hm,am⟩=>?_;refine thn (l6 _ an τ8 H10 (.ref s2.heap.objs.size) [z] (.ref s2.heap.objs.size) [v] (fun _ H11=>W (i+1) m' τ8 H11) I10 rfl (.cons ap .nil) ⟨_,xs,z,rfl,rfl,hx,hz,am⟩) fun _ ar ⟨_,H11,I11,_,aq⟩=>?_;exact aa I11 ⟨hm,aq⟩
 exact codeAny_compStart_list ac (T.self _ 0 _ _ _ ak ac)
theorem bV(hx:∀e s,X.xe e s->False)(hc:X.calm=true)(c:CompOk X scope cl N caps)(hi:PI X tg iter wi)(hg:∀C s H fp,PG (cU X scope cl C s H fp N) tg g)(ht:∀C s H fp,PTs (cU X scope cl C s H fp N) ifs tt)(he:∀C s H fp,PE (cU X scope cl C s H fp N) elt te)
  (hs:∀x,foldedSetIterable iter X.env x=pure x:=by intro _;rfl):PE X (.ListComp elt [⟨tg,iter,ifs,0⟩] scope pos) (l7 caps wi g tt te):=by
 intro zi s σ H Q I h;rw[eval_ListComp];refine wpAny_comprehension_free (use:=none) rfl hs c.clos c.kind c.names (thn (hi zi s σ H _ I h) fun v s1 h1=>thn h1 fun aa s2 h2=>?_);obtain⟨it,fp,tn,J,H2,e,I2,T,z,f2,q2⟩:=h2;subst e;exact Am (RR:=fun acc C=>compPost (model X.prog X.w) X.A X.xe none (EP X zi σ Q) acc C) hc c I2 T z f2 hg ht he Q q2 fun D C H' s' m hn _ hb q=>⟨m,hn,fun h' hs=>⟨.ref D,H',hb h' hs,rfl,q⟩⟩
theorem sU{i:Nat}{y:Str}{py aa:Pos}(hx:∀e s,X.xe e s->False)(hc:X.calm=true)(c:CompOk X scope cl N caps)(hN:X.N.Nodup)(ac:X.N[i]?=some y)(hl:X.env.scope.names.lookup y=some .local)(hi:PI X tg iter wi)(hg:∀C s H fp,PG (cU X scope cl C s H fp N) tg g)
  (ht:∀C s H fp,PTs (cU X scope cl C s H fp N) ifs tt) (he:∀C s H fp,PE (cU X scope cl C s H fp N) elt te)
  (hsw:swapsWith (.ListComp elt [⟨tg,iter,ifs,0⟩] scope pos) (some (.Name y py)) aa.line X.env=pure true:=by rfl)
  (hs:∀x,foldedSetIterable iter X.env x=pure x:=by intro _;rfl):PS X (.Assign [.Name y py] (.ListComp elt [⟨tg,iter,ifs,0⟩] scope pos) aa) (jV (l7 caps wi g tt te) (jO i)):=by
 intro zi s σ H D I h;rw[exec_Assign_Name_used _ _ _ _ hsw];refine ba (wpAny_standAt (ba ?_));show bo _ X.A (do let _ <- comprehension (.ListComp elt [⟨tg,iter,ifs,0⟩] scope pos) scope X.env _ (newList []) false (eval iter X.env) (some (assign (.Name y py) X.env))) _ _ s;refine ba (qz (wpAny_comprehension_free (use:=some (assign (.Name y py) X.env)) (Q:=fun _ s'=>SP X zi D .next s') rfl hs c.clos c.kind c.names (thn (hi zi s σ H _ I h) fun v s1 h1=>thn h1 fun ae s2 h2=>?_)) (fun _ s' hq=>be (be hq)) fun _ _ e=>e);obtain⟨it,fp,tn,J,H2,e,I2,T,ab,f2,q2⟩:=h2;subst e;refine Am (RR:=fun acc C=>compPost (model X.prog X.w) X.A X.xe (some (assign (.Name y py) X.env)) (fun _ s'=>SP X zi D .next s') acc C) hc c I2 T ab f2 hg ht he (fun v H'=>D.nx (σ.set i (some v)) H') q2 fun Da C H' s' m hn f hb q=>?_;obtain⟨o,es,ep,ho,hd,r⟩:=hn;have I':Inv X zi σ H' s':=hb s'.heap (Heap.SameBut.refl _ _);have I'':Inv X (zi++[(C,o)]) σ H' s':=I'.pins_of fun p hp=>(mem_append.mp hp).elim (fun z=>I'.pin p (cw _ z)) fun z=>by
  cases mem_singleton.mp z;exact⟨ho,f.1,f.2.1,f.2.2.1,fun v e=>by rw[hd]at e;cases e⟩
 refine wpAny_assign_Name (wN I'' hN ac (.inl hl) (show RelV (V.ref Da) (dw Da)from rfl) (fun s2 J2=>?_) (.inr hl));refine⟨m,⟨o,es,ep,(J2.pin (C,o) (cw _ (cw _ (mem_singleton.mpr rfl)))).1,hd,r⟩,fun h' hs=>?_⟩;exact⟨_,H',J2.unpinned.turned (t':=s2.toks) (fun b ob nb e=>hs.extBut b ob nb e) f.1 f.2.1 f.2.2.2.1 f.2.2.2.2.1 f.2.2.2.2.2,q⟩
end
def dJ(env:Env):List (Str×pb)->List (Str×Addr)->List (Str×Addr)
 | [],acc=>acc
 | (n,k)::r,acc=>dJ env r (if k==.free then (n,(env.cells.lookup n).getD 0)::acc else acc)
theorem yB{env:Env}{x:Str}{c:Addr}:∀{names:List (Str×pb)}{acc:List (Str×Addr)},(x,c)∈dJ env names acc->(x,c)∈acc\/((x,NameKind.free)∈names/\c=(env.cells.lookup x).getD 0)
 | [],_,h=>.inl h
 | (n,k)::r,acc,h=>by
  rcases yB (names:=r) h with h|⟨h,e⟩
  ·by_cases hk:k==.free
   ·rw[cy hk]at h;rcases mem_cons.mp h with h|h
    ·cases h;have:k=.free:=by simpa using hk
     subst this;exact .inr ⟨cp,rfl⟩
    ·exact .inl h
   ·rw[cr hk]at h;exact .inl h
  ·exact .inr ⟨bq _ h,e⟩
theorem D5{env:Env}{p:Str×Addr}:∀{names:List (Str×pb)}{acc:List (Str×Addr)},p∈acc->p∈dJ env names acc
 | [],_,h=>h
 | (n,k)::r,acc,h=>D5 (names:=r) (by split<;>first|exact bq _ h|exact h)
theorem sX{env:Env}{x:Str}:∀{names:List (Str×pb)}{acc:List (Str×Addr)},(x,NameKind.free)∈names->∃c,(x,c)∈dJ env names acc
 | (n,k)::r,acc,h=>by
  rcases mem_cons.mp h with h|h
  ·cases h;exact⟨_,D5 (names:=r) (by rw[cy dz];exact cp)⟩
  ·exact sX (names:=r) h
theorem tW{β:Type}{x:Str}{c:β}:∀{l:List (Str×β)},(x,c)∈l->∃c',l.lookup x=some c'
 | (n,v)::r,h=>by
  cases e:x==n with
  |true=>exact⟨v,by rw[lu,e]⟩
  |false=>
   rcases mem_cons.mp h with h|h
   ·cases h;simp at e
   ·obtain⟨c',q⟩:=tW (l:=r) h;exact⟨c',by rw[lu,e];exact q⟩
theorem FT{env:Env}{scope:Scope}(h:∀y∈scope.names,y.2=.free->(env.cells.lookup y.1).isSome=true):closureFor scope env=pure (dJ env scope.names []):=by
 have go:∀(names:List (Str×pb)) (acc:List (Str×Addr)),(∀y∈names,y.2=.free->(env.cells.lookup y.1).isSome=true) ->
   (forIn names acc (fun(x:Str×pb) (cs:List (Str×Addr))=>(if x.2==.free then (do let c <- cellOf env x.1;pure (si ((x.1,c)::cs)))else pure (si cs):Sem (ForInStep (List (Str×Addr))))))=(pure (dJ env names acc):Sem (List (Str×Addr))):=by
  intro names;induction names with
  |nil=>intro acc _;rfl
  |cons y r ih=>
   intro acc hy;obtain⟨n,k⟩:=y;rw[forIn_cons];by_cases hk:k==.free
   ·have hs:=hy (n,k) cp (by simpa using hk);obtain⟨c,hc⟩:=isSome_iff_exists.mp hs;have z:env.cells.lookup n=some c:=hc;simp only[hk,if_true,cellOf,z,pure_bind,dJ,Option.getD_some];exact ih _ fun y q=>hy y (bq _ q)
   ·simp only[hk,jm,if_false,pure_bind,dJ];exact ih _ fun y q=>hy y (bq _ q)
 have g:=go scope.names [] h;exact(bind_pure _).trans g
def bD(DN:List Str)(dsc sc:List (Str×pb))(N:List Str)(caps:List (Option Nat)):Bool:=
 (caps.length==N.length)&&sc.all (fun y=>y.2 != .cell&&(y.2 != .free||dsc.lookup y.1==some .cell)&&(y.2 != .local||sc.lookup y.1==some .local)) &&
 (caps.zip N).all fun p=>match p.1 with|none=>true|some i=>DN[i]?==some p.2&&dsc.lookup p.2==some .cell&&sc.lookup p.2==some .free
theorem wQ{dsc:List (Str×pb)}{env:Env}{x:Str}{k:pb}:∀{names:List (Str×pb)},(names.map fun(n,k)=>if (k==.free&&env.scope.kind==.function&&env.kindOf n==some .cell)then (n,.cell)else (n,k)).lookup x=some k ->
  ∃k',names.lookup x=some k'/\(k'=k\/(k'=.free/\k=.cell))
 | [],h=>by simp at h
 | (n,k0)::r,h=>by
  cases e:x==n with
  |true=>
   refine⟨k0,by rw[lu,e],?_⟩;rw[fm]at h;dsimp only at h;split at h
   ·rename_i hc;rw[lu,e]at h;have:k0=.free:=by simp at hc;exact hc.1.1
    cases h;exact .inr ⟨this,rfl⟩
   ·rw[lu,e]at h;cases h;exact .inl rfl
  |false=>
   rw[fm]at h;dsimp only at h;have h':(r.map fun(n,k)=>if (k==NameKind.free&&env.scope.kind==.function&&env.kindOf n==some .cell)then (n,NameKind.cell)else (n,k)).lookup x=some k:=by
    split at h<;>(rw[lu,e]at h;exact h)
   obtain⟨k',q,z⟩:=wQ (dsc:=dsc) h';exact⟨k',by rw[lu,e];exact q,z⟩
theorem BN{env:Env}{x:Str}(h1:env.scope.kind=.function)(h2:env.kindOf x=some .cell):∀{names:List (Str×pb)},names.lookup x=some .free ->
  (names.map fun(n,k)=>if (k==.free&&env.scope.kind==.function&&env.kindOf n==some .cell)then (n,.cell)else (n,k)).lookup x=some .cell
 | [],h=>by simp at h
 | (n,k0)::r,h=>by
  rw[fm];cases e:x==n with
  |true=>
   rw[lu,e]at h;cases h;have en:x=n:=by simpa using e
   subst en;dsimp only;rw[cy (by rw[h1,h2];decide),lu,e]
  |false=>
   rw[lu,e]at h;have ih:=BN h1 h2 (names:=r) h;dsimp only;split<;>(rw[lu,e];exact ih)
theorem zH{X:Cx}{dsc:Scope}{L:Nat}{scope:Scope}{N:List Str}{caps:List (Option Nat)}(hd:X.env.scope=dsc)(hc:X.env.cells=cellsFrom L dsc.names [])(af:dsc.kind=.function)(hk:scope.kind=.function)(h:bD X.N dsc.names scope.names N caps=true):
  CompOk X scope (dJ X.env scope.names []) N caps:=by
 subst hd;simp only[bD,gc,ox,beq_iff_eq]at h;obtain⟨⟨hl,hs⟩,hz⟩:=h;have aa:∀y∈scope.names,y.2=.free->X.env.scope.names.lookup y.1=some .cell:=fun y hy e=>by
  have q:=(hs y hy).1.2;rw[e]at q;simpa using q
 have ab:∀y∈scope.names,y.2≠.cell:=fun y hy e=>by
  have q:=(hs y hy).1.1;rw[e]at q;simp at q
 have ac:∀x,X.env.scope.names.lookup x=some .cell->(X.env.cells.lookup x).isSome=true:=fun x e=>by
  rw[hc];exact ue _ _ _ (.inl e)
 have sub:∀x c,(dJ X.env scope.names []).lookup x=some c->X.env.cells.lookup x=some c:=fun x c e=>by
  rcases yB (PySem.mem_of_lookup e)with q|⟨q,ec⟩
  ·cases q
  ·obtain⟨c',ae⟩:=isSome_iff_exists.mp (ac x (aa _ q rfl));rw[ec,ae];rfl
 refine⟨FT fun y hy e=>ac y.1 (aa y hy e),sub,hk,ab,fun y hy e=>?_,fun x hx=>?_,fun j i x h1 h2=>?_,hl⟩
 ·have q:=(hs y hy).2;rw[e]at q;simpa using q
 ·have fin:(x,NameKind.free)∈scope.names->∃c,(dJ X.env scope.names []).lookup x=some c:=fun m=>by
   obtain⟨c,hm⟩:=sX (env:=X.env) (acc:=[]) m;exact tW hm
  rcases hx with hx|hx
  ·obtain⟨k',q,z⟩:=wQ (dsc:=[]) hx;rcases z with rfl|⟨rfl,_⟩
   ·exact absurd rfl (ab _ (PySem.mem_of_lookup q))
   ·exact fin (PySem.mem_of_lookup q)
  ·obtain⟨k',q,z⟩:=wQ (dsc:=[]) hx;rcases z with rfl|⟨_,z⟩
   ·exact fin (PySem.mem_of_lookup q)
   ·cases z
 ·have hm:(some i,x)∈caps.zip N:=by
   have:(caps.zip N)[j]?=some (some i,x):=by rw[List.getElem?_zip_eq_some];exact⟨h1,h2⟩
   exact ci this
  have q:=hz _ hm;simp only[gc,beq_iff_eq]at q;obtain⟨⟨q1,q2⟩,q3⟩:=q;obtain⟨c,ag⟩:=sX (env:=X.env) (acc:=[]) (PySem.mem_of_lookup q3);obtain⟨c',ae⟩:=tW ag;refine⟨q1,.inr (.inl q2),fun z=>?_,c',ae,.inl (BN af q2 q3)⟩;have z':X.env.scope.names.lookup x=some .local:=z;rw[q2]at z';cases z'
end
section
section
variable {X:Cx}
def At:R2:=fun x y H Q=>∃z n,x=.str z/\y=.int n/\z.length<=1000/\n<=1000/\-1000<=n/\Q (.str (PySem.Txt.mul z n)) H
theorem Km{z:Str}{n:Int}(h1:z.length<=1000)(h2:n<=1000)(h3:-1000<=n):PySem.MulOk z n:=by
 refine⟨by simp;omega,fun a _ b=>?_,fun a _=>?_⟩
 ·have e:(1000:Int)<=(2 ^ 63-1)/n:=by
   rw[Int.le_ediv_iff_mul_le yw];have:=Int.mul_le_mul_of_nonneg_left h2 (show (0:Int)<=1000 by decide);omega
  omega
 ·have e:z.length*n.toNat<=1000*1000:=mul_le_mul h1 yw;unfold Builtin.Str.tooLong;simp only[decide_eq_false_iff_not,Nat.not_lt];exact gm e dz
theorem Ka:OpR X (on .Mult) At:=by
 intro zi s σ H x y v u Q I rx ry h;obtain⟨z,n,rfl,rfl,h1,h2,h3,q⟩:=h;obtain⟨t,rfl⟩:=rx;obtain⟨t',rfl⟩:=ry;exact PySem.SB.mul (Km h1 h2 h3) fun _ k=>⟨.str _,H,I.tok _,⟨_,rfl⟩,q⟩
def Cz:V->Option Int->Option Int->Hp->VK->Prop:=fun x lo hi H Q=>∃z,x=.str z/\z.length<=dn/\Q (.str (PySem.Txt.slice z lo hi)) H
theorem Ib:SlR X Cz:=by
 intro zi s σ H x v vl vu lo hi sl Q I rx hs pl pu h;obtain⟨z,rfl,hz,q⟩:=h;obtain⟨t,rfl⟩:=rx;refine⟨"str",_,F.slot_str_getitem.lookup,typeIs_str _ _ _,?_⟩;have fin:∀(a b:Option (Int×Tok)),a.map (·.1)=lo->b.map (·.1)=hi->s.heap.IsSlice sl a b none->bo (model X.prog X.w) X.A (getItem (.str z t) (.ref sl)) (EP X zi σ Q) X.xe s:=fun a b e1 e2 aa=>by
  subst e1 e2;exact wpAny_getItem_str_slice (l:=a) (u:=b) (st:=none) aa rfl (post_val_or_str ⟨gm (PySem.Txt.slice_le z _ _) hz,fun _ k=>⟨.str _,H,I.tok _,⟨_,rfl⟩,q⟩⟩)
 cases pl with
 |none=>
  cases pu with
  |none=>exact fin none none rfl rfl hs
  |int j tj=>exact fin none (some (j,tj)) rfl rfl hs
 |int i ti=>
  cases pu with
  |none=>exact fin (some (i,ti)) none rfl rfl hs
  |int j tj=>exact fin (some (i,ti)) (some (j,tj)) rfl rfl hs
theorem An:∀{zs:List Str}{us:List bb},Vals (zs.map V.str) us->StrsAre us zs
 | [],_,.nil=>.nil
 |z::zs,_,.cons r t=>by
  obtain⟨tk,rfl⟩:=r;exact .cons z tk (An t)
def Az(K:cq):V->List V->Hp->VK->Prop:=fun x vs H Q=>∃z a zs,x=.str z/\vs=[.ref a]/\SqL K H a (zs.map V.str)/\z.length<=16/\zs.length<=1000/\(∀y∈zs,y.length<=1000)/\Q (.str (PySem.Txt.join z zs)) H
theorem GE{zs:List Str}(h:∀y∈zs,y.length<=1000):(zs.map (·.length)).sum<=zs.length*1000:=by
 induction zs with
 |nil=>simp
 |cons z zs ih=>
  have h1:=h z cp;have h2:=ih fun y hy=>h y (bq _ hy);simp only[fm,sum_cons,cx,add_mul,Nat.one_mul];omega
theorem Lf:MtR X "str.join" (Az X.K):=by
 intro zi s σ H x vs v us Q I rx rv h;obtain⟨z,a,zs,rfl,rfl,hq,hz,hn,hl,q⟩:=h;obtain⟨t,rfl⟩:=rx;obtain⟨u,rfl,r1⟩:=rv.one;cases r1;obtain⟨aa,r,pl,hsz⟩:=I.list hq;have hs:=GE hl;refine join_listW pl.isList (by simpa using An r) hz yw fun _ k=>⟨.str _,H,I.tok _,⟨_,rfl⟩,q⟩
end
section
variable {K:cq}{o:List Addr}{σ:St}{H0:Hp}{t:TE}{ta:TA}{ds:List bc}
def eK(lo:Int)(n:Nat):List bc:=(fh n).map fun k:Nat=>.int (lo+k)
theorem fR{lo:Int}{n:Nat}:(eK lo n).length=n:=by simp[eK]
theorem gO{lo:Int}{n i:Nat}{d:bc}(h:(eK lo n)[i]?=some d):i<n/\d=.int (lo+i):=by
 have hi:i<n:=by
  have:=List.getElem?_eq_some_iff.mp h;obtain⟨hl,_⟩:=this
  rwa [fR]at hl
 refine⟨hi,?_⟩;simp only[eK,gh,getElem?_range hi,map_some,Option.some.injEq]at h;exact h.symm
end
theorem NB{y:Str}{zs:List Str}(hy:y.length<=16)(hz:∀z∈zs,z.length<=1000):(PySem.Txt.join y zs).length<=zs.length*1016:=by
 show (Builtin.Str.glued y zs).length<=_;rw[StrLaws.glued_eq_join];cases zs with
 |nil=>exact lh _
 |cons a r=>
  rw[len_join_cons];have h1:=GE hz;have h2:r.length*y.length<=r.length*16:=Nat.mul_le_mul_left _ hy;simp only[cx]at h1 ⊢;omega
def bE{α:Type}(xs:List α)(lo hi:Option Int):List α:=(xs.drop (HT.sIx xs.length 0 lo)).take (HT.sIx xs.length xs.length hi-HT.sIx xs.length 0 lo)
theorem HasL.drop{H:Hp}:∀{ds:List bc}{vs:List V} (n:Nat),HasL H ds vs->HasL H (ds.drop n) (vs.drop n)
 |ds,vs,0,h=>h
 | [],vs,n+1,h=>by rw[zA.mp h];exact zA.mpr rfl
 |d::ds,vs,n+1,h=>by
  obtain⟨v,r,rfl,_,l⟩:=zp.mp h;exact HasL.drop n l
theorem HasL.take{H:Hp}:∀{ds:List bc}{vs:List V} (n:Nat),HasL H ds vs->HasL H (ds.take n) (vs.take n)
 |ds,vs,0,h=>zA.mpr rfl
 | [],vs,n+1,h=>by rw[zA.mp h];exact zA.mpr rfl
 |d::ds,vs,n+1,h=>by
  obtain⟨v,r,rfl,q,l⟩:=zp.mp h;exact zp.mpr ⟨v,_,rfl,q,HasL.take n l⟩
theorem HasL.cut{H:Hp}{ds:List bc}{vs:List V}(lo hi:Option Int)(h:HasL H ds vs):HasL H (bE ds lo hi) (dY vs lo hi):=by
 unfold bE dY;rw[h.length];exact(h.drop _).take _
theorem HasL.rev{H:Hp}:∀{ds:List bc}{vs:List V},HasL H ds vs->HasL H ds.reverse vs.reverse
 | [],vs,h=>by rw[zA.mp h];exact zA.mpr rfl
 |d::ds,vs,h=>by
  obtain⟨v,r,rfl,q,l⟩:=zp.mp h;rw[reverse_cons,reverse_cons];exact(HasL.rev l).append (zp.mpr ⟨v,[],rfl,q,zA.mpr rfl⟩)
end
section
theorem GY:∀{l:List Addr}{H:Hp}{b:Addr}{u:HO},vw l H b=some u↔b∉l/\H b=some u
 | [],H,b,u=>by simp[vw]
 |a::r,H,b,u=>by
  show hid a (vw r H) b=some u↔_;by_cases h:b=a
  ·subst h;simp[OJ]
  ·rw[LV h,GY];simp[h]
def vx(h o:List Addr)(H:Hp):Hp:=vw (h++o) H
theorem zN{h o:List Addr}{H:Hp}{b:Addr}{u:HO}:vx h o H b=some u↔b∉h/\b∉o/\H b=some u:=by
 unfold vx;rw[GY];simp[and_assoc]
theorem zZ{h o:List Addr}{H:Hp}:Same (vx h o H) H:=fun b u e=>(zN.mp e).2.2
theorem pM{h o:List Addr}{H H':Hp}(s:Same H H'):Same (vx h o H) (vx h o H'):=fun b u e=>by
 obtain⟨h1,h2,h3⟩:=zN.mp e;exact zN.mpr ⟨h1,h2,s b u h3⟩
structure Ex(o:List Addr)(H:Hp)(o':List Addr)(H':Hp):Prop where
 pre:∃r,o'=o++r
 kp:∀b u,b∉o->H b=some u->b∉o'/\H' b=some u
section
variable {h o o' o'':List Addr}{H H' H'':Hp}{S:List (List bc)}{p a:Addr}
theorem Ex.refl:Ex o H o H:=⟨⟨[],yv⟩,fun _ _ a b=>⟨a,b⟩⟩
theorem Ex.trans(a:Ex o H o' H')(b:Ex o' H' o'' H''):Ex o H o'' H'':=by
 obtain⟨⟨r,e⟩,ka⟩:=a;obtain⟨⟨t,e'⟩,kb⟩:=b;refine⟨⟨r++t,by rw[e',e,gy]⟩,fun b u h1 h2=>?_⟩;obtain⟨h3,h4⟩:=ka b u h1 h2;exact kb b u h3 h4
theorem Ex.vx(e:Ex o H o' H'):Same (L2.vx h o H) (L2.vx h o' H'):=fun b u q=>by
 obtain⟨h1,h2,h3⟩:=zN.mp q;obtain⟨h4,h5⟩:=e.kp b u h2 h3;exact zN.mpr ⟨h1,h4,h5⟩
structure ExH(h o:List Addr)(H:Hp)(o':List Addr)(H':Hp):Prop where
 pre:∃r,o'=o++r
 kp:∀b u,b∉h->b∉o->H b=some u->b∉o'/\H' b=some u
theorem Ex.hid(e:Ex o H o' H'):ExH h o H o' H':=⟨e.pre,fun b u _=>e.kp b u⟩
theorem ExH.refl:ExH h o H o H:=Ex.refl.hid
theorem ExH.trans(a:ExH h o H o' H')(b:ExH h o' H' o'' H''):ExH h o H o'' H'':=by
 obtain⟨⟨r,e⟩,ka⟩:=a;obtain⟨⟨t,e'⟩,kb⟩:=b;refine⟨⟨r++t,by rw[e',e,gy]⟩,fun b u h0 h1 h2=>?_⟩;obtain⟨h3,h4⟩:=ka b u h0 h1 h2;exact kb b u h0 h3 h4
theorem ExH.vx(e:ExH h o H o' H'):Same (L2.vx h o H) (L2.vx h o' H'):=fun b u q=>by
 obtain⟨h1,h2,h3⟩:=zN.mp q;obtain⟨h4,h5⟩:=e.kp b u h1 h2 h3;exact zN.mpr ⟨h1,h4,h5⟩
theorem Ex.of_same(s:Same H H'):Ex o H o H':=⟨⟨[],yv⟩,fun b u h e=>⟨h,s b u e⟩⟩
theorem fZ{α:Type}{l t:List α}{k:Nat}{a:α}(q:l[k]?=some a):(l++t)[k]?=some a:=by
 obtain⟨hk,_⟩:=List.getElem?_eq_some_iff.mp q;rw[fi hk];exact q
def exO(a C:Addr)(d:Option Addr):HO:=.ext fun h=>∃o,h.get? a=some o/\o.cls=.ref C/\o.dict=d/\∃vs,o.data=.fields vs/\vs[2]?=some .none
def xw(dx:Addr)(fs:List (Str×V)):HO:=.ext fun h=>∃mA,h.Ns1 dx mA/\(∀f,RelO (fs.lookup f) (mA f))/\PySem.Within mA (fs.map (·.1))
def HasE(H:Hp)(C:Addr)(fs:List (Str×bc))(v:V):Prop:=∃a d,v=.ref a/\H a=some (exO a C d)/\∀f dt,fs.lookup f=some dt->∃dx vs u,d=some dx/\H dx=some (xw dx vs)/\vs.lookup f=some u/\Has H dt u
theorem HasE.mono{H H':Hp}{C:Addr}{fs:List (Str×bc)}{v:V}(s:Same H H')(q:HasE H C fs v):HasE H' C fs v:=by
 obtain⟨a,d,e,ha,hf⟩:=q;refine⟨a,d,e,s _ _ ha,fun f dt l=>?_⟩;obtain⟨dx,vs,u,e1,e2,e3,e4⟩:=hf f dt l;exact⟨dx,vs,u,e1,s _ _ e2,e3,Has.mono s _ _ e4⟩
inductive XV where
 |d (d:bc)
 |l (k:Nat)
 |o (v:V)
 |x (C:Addr) (fs:List (Str×bc))
 |p (k:Nat) (d:bc)
 |i (C:Addr) (fs:List (Str×(bc ⊕ V)))
def HasF(H:Hp):bc ⊕ V->V->Prop
 | .inl d,u=>Has H d u
 | .inr w,u=>u=w
def HasI(H:Hp)(C:Addr)(fs:List (Str×(bc ⊕ V)))(v:V):Prop:=∃a dx vs,v=.ref a/\H a=some (.ins C dx vs)/\(∀f,fs.lookup f=none->vs.lookup f=none)/\∀f e,fs.lookup f=some e->∃u,vs.lookup f=some u/\HasF H e u
theorem HasI.mono{H H':Hp}{C:Addr}{fs:List (Str×(bc ⊕ V))}{v:V}(s:Same H H')(q:HasI H C fs v):HasI H' C fs v:=by
 obtain⟨a,dx,vs,e,ha,hn,hf⟩:=q;refine⟨a,dx,vs,e,s _ _ ha,hn,fun f e l=>?_⟩;obtain⟨u,e1,e2⟩:=hf f e l;refine⟨u,e1,?_⟩;cases e with
 |inl d=>exact Has.mono s _ _ e2
 |inr w=>exact e2
def HasLP(h o:List Addr)(H:Hp)(k:Nat)(d:bc)(v:V):Prop:=∃t a u,v=.ref t/\o[k]?=some a/\vx h o H t=some (.tup [.ref a,u])/\Has (vx h o H) d u
theorem HasLP.to{h':List Addr}{k:Nat}{d:bc}{v:V}(s:Same (vx h o H) (vx h' o' H'))(e:∀a,o[k]?=some a->o'[k]?=some a)(q:HasLP h o H k d v):HasLP h' o' H' k d v:=by
 obtain⟨t,a,u,e1,e2,e3,e4⟩:=q;exact⟨t,a,u,e1,e a e2,s _ _ e3,Has.mono s _ _ e4⟩
def HasX(h o:List Addr)(H:Hp):XV->V->Prop
 | .d d,v=>Has (vx h o H) d v
 | .l k,v=>∃a,o[k]?=some a/\v=.ref a
 | .o w,v=>v=w
 | .x C fs,v=>HasE (vx h o H) C fs v
 | .p k d,v=>HasLP h o H k d v
 | .i C fs,v=>HasI (vx h o H) C fs v
theorem HasX.mono(e:Ex o H o' H'):∀{x:XV}{v:V},HasX h o H x v->HasX h o' H' x v
 | .d d,v,q=>Has.mono e.vx d v q
 | .l k,v,⟨a,q,r⟩=>by
  obtain⟨t,rfl⟩:=e.pre;exact⟨a,fZ q,r⟩
 | .o w,v,q=>q
 | .x C fs,v,q=>HasE.mono e.vx q
 | .i C fs,v,q=>HasI.mono e.vx q
 | .p k d,v,q=>by
  have ev:=e.vx (h:=h);obtain⟨t,rfl⟩:=e.pre;exact HasLP.to ev (fun a z=>fZ z) q
def HasXs(h o:List Addr)(H:Hp):List XV->List V->Prop
 | [],vs=>vs=[]
 |x::xs,vs=>∃v r,vs=v::r/\HasX h o H x v/\HasXs h o H xs r
theorem HasXs.mono(e:Ex o H o' H'):∀{xs:List XV}{vs:List V},HasXs h o H xs vs->HasXs h o' H' xs vs
 | [],_,q=>q
 |x::xs,vs,⟨v,r,e1,q,l⟩=>⟨v,r,e1,q.mono e,HasXs.mono e l⟩
abbrev Sto:=List (List bc)
inductive MO where
 |l (vs:List V)
 |k (m:List (Key×V))
 |t (m:List (List Key×V))
 |x (a:Addr) (ob:Obj)
def MO.ho:MO->HO
 | .l vs=>.lst vs
 | .k m=>.dK m
 | .t m=>.dT m
 | .x a ob=>obO a ob
structure RepS(h o:List Addr)(H:Hp)(S:Sto):Prop where
 len:S.length=o.length
 nd:o.Nodup
 dis:∀a∈o,a∉h
 hal:∀b∈h,∃u:MO,H b=some u.ho
 cont:∀(k:Nat) (a:Addr) (ds:List bc),o[k]?=some a->S[k]?=some ds->∃vs,H a=some (.lst vs)/\HasL (vx h o H) ds vs
theorem Jh{α β:Type}{l:List α}{t:List β}{k:Nat}{a:α}(hl:t.length=l.length)(q:l[k]?=some a):∃b,t[k]?=some b:=by
 obtain⟨hk,_⟩:=List.getElem?_eq_some_iff.mp q;exact⟨t[k]'yw,bn _⟩
theorem RepS.oal(r:RepS h o H S):∀a∈o,∃u,H a=some (.lst u):=fun a ha=>by
 obtain⟨k,hk⟩:=mem_iff_getElem?.mp ha;obtain⟨ds,e⟩:=Jh r.len hk;obtain⟨vs,e',_⟩:=r.cont k a ds hk e;exact⟨_,e'⟩
theorem RepS.oam(r:RepS h o H S):∀a∈o,∃u:MO,H a=some u.ho:=fun a ha=>let ⟨u,e⟩:=r.oal a ha;⟨.l u,e⟩
theorem RepS.fresh(r:RepS h o H S)(hp:H p=none):p∉h/\p∉o:=by
 constructor
 ·intro m;obtain⟨u,e⟩:=r.hal p m;rw[hp]at e;cases e
 ·intro m;obtain⟨u,e⟩:=r.oal p m;rw[hp]at e;cases e
theorem RepS.same(r:RepS h o H S)(s:Same H H'):RepS h o H' S where
 len:=r.len
 nd:=r.nd
 dis:=r.dis
 hal:=fun b m=>by obtain⟨u,e⟩:=r.hal b m;exact⟨u,s b _ e⟩
 cont:=fun k a ds e1 e2=>by
  obtain⟨vs,e3,l⟩:=r.cont k a ds e1 e2;exact⟨vs,s _ _ e3,HasL.mono (pM s) _ _ l⟩
theorem RepS.laid{u:HO}(r:RepS h o H S)(hp:H p=none):vx h o (upd H p u) p=some u:=by
 obtain⟨h1,h2⟩:=r.fresh hp;exact zN.mpr ⟨h1,h2,zF⟩
theorem Ex.new{u:HO}(r:RepS h o H S)(hp:H p=none):Ex o H (o++[p]) (upd H p u):=by
 refine⟨⟨[p],rfl⟩,fun b w hb e=>?_⟩;have ne:b≠p:=zJ e hp;exact⟨by simp[hb,ne],by rw[zC ne];exact e⟩
theorem mN{α:Type}{l:List α}{a:α}(h:l.Nodup)(n:a∉l):(l++[a]).Nodup:=by
 rw[nodup_append];refine⟨h,yv,fun x hx y hy e=>?_⟩;rw[qi]at hy;subst hy;subst e;exact n hx
theorem RepS.new{ds:List bc}{vs:List V}(r:RepS h o H S)(hp:H p=none)(l:HasL (vx h o H) ds vs):RepS h (o++[p]) (upd H p (.lst vs)) (S++[ds]):=by
 obtain⟨h1,h2⟩:=r.fresh hp;have ex:Ex o H (o++[p]) (upd H p (.lst vs)):=Ex.new r hp;refine⟨by simp[r.len],mN r.nd h2,fun a ha=>?_,fun b hb=>?_,fun k a es e1 e2=>?_⟩
 ·rcases mem_append.mp ha with ha|ha
  ·exact r.dis a ha
  ·rw[mem_singleton.mp ha];exact h1
 ·obtain⟨u,e⟩:=r.hal b hb;exact⟨u,by rw[zC (zJ e hp)];exact e⟩
 ·by_cases hk:k<o.length
  ·rw[fi hk]at e1;rw[fi (by rw[r.len];exact hk)]at e2;obtain⟨ws,e3,l3⟩:=r.cont k a es e1 e2;refine⟨ws,?_,l3.mono ex.vx⟩;rw[zC (zJ e3 hp)];exact e3
  ·have z:k=o.length:=by
    obtain⟨q,_⟩:=List.getElem?_eq_some_iff.mp e1;rw[ck,fq]at q;omega
   subst z;rw[bw]at e1;rw[<- r.len,bw]at e2;cases e1;cases e2;exact⟨vs,zF,l.mono ex.vx⟩
theorem Ex.upd{k:Nat}{u:HO}(e:o[k]?=some a):Ex o H o (L2.upd H a u):=
 ⟨⟨[],yv⟩,fun b w hb eb=>⟨hb,by rw[zC (fun z=>hb (by rw[z];exact ci e))];exact eb⟩⟩
theorem mU{l:List Addr}(h:l.Nodup){i j:Nat}{a:Addr}(e1:l[i]?=some a)(e2:l[j]?=some a):i=j:=by
 obtain⟨hi,e1⟩:=List.getElem?_eq_some_iff.mp e1;obtain⟨hj,e2⟩:=List.getElem?_eq_some_iff.mp e2;exact(List.getElem_inj h).mp (e1.trans e2.symm)
theorem RepS.upd{k:Nat}{ds:List bc}{vs:List V}(r:RepS h o H S)(e:o[k]?=some a)(l:HasL (vx h o H) ds vs):RepS h o (L2.upd H a (.lst vs)) (S.set k ds):=by
 have ex:Ex o H o (L2.upd H a (.lst vs)):=Ex.upd e;refine⟨by simp[r.len],r.nd,r.dis,fun b hb=>?_,fun j b es e1 e2=>?_⟩
 ·obtain⟨u,eb⟩:=r.hal b hb;have ne:b≠a:=fun z=>r.dis a (ci e) (z▸hb);exact⟨u,by rw[zC ne];exact eb⟩
 ·by_cases hj:j=k
  ·subst hj;rw[e1]at e;cases e;obtain⟨hk,_⟩:=List.getElem?_eq_some_iff.mp e1;rw[qe (by rw[r.len];exact hk)]at e2;cases e2;exact⟨vs,zF,l.mono ex.vx⟩
  ·rw[rk (gq hj)]at e2;obtain⟨ws,e3,l3⟩:=r.cont j b es e1 e2;have ne:b≠a:=fun z=>hj (mU r.nd e1 (z▸e));exact⟨ws,by rw[zC ne];exact e3,l3.mono ex.vx⟩
abbrev XE:=List (Option XV)
structure RepE(h o:List Addr)(H:Hp)(δ:XE)(σ:St):Prop where
 len:δ.length=σ.length
 get:∀(i:Nat) x,δ[i]?=some (some x)->∃v,σ[i]?=some (some v)/\HasX h o H x v
variable {δ:XE}{σ:St}
theorem RepE.mono(r:RepE h o H δ σ)(e:Ex o H o' H'):RepE h o' H' δ σ:=⟨r.len,fun i x q=>by
 obtain⟨v,e1,e2⟩:=r.get i x q;exact⟨v,e1,e2.mono e⟩⟩
theorem RepE.set{i:Nat}{x:XV}{v:V}(r:RepE h o H δ σ)(q:HasX h o H x v):RepE h o H (δ.set i (some x)) (σ.set i (some v)):=by
 refine⟨by simp[r.len],fun j y e=>?_⟩;rw[List.getElem?_set]at e ⊢;by_cases hij:i=j
 ·rw[cy hij]at e ⊢;by_cases hl:i<δ.length
  ·rw[cy hl]at e;rw[cy (by rw[<- r.len];exact hl)];cases e;exact⟨v,rfl,q⟩
  ·rw[cr hl]at e;cases e
 ·rw[cr hij]at e ⊢;exact r.get j y e
def eV(caps:List (Option Nat))(δ:XE):XE:=caps.map fun o=>o.bind fun i=>(δ[i]?).join
theorem RepE.tau{caps:List (Option Nat)}(r:RepE h o H δ σ):RepE h o H (eV caps δ) (L2.tau caps σ):=by
 refine⟨by simp[eV,L2.tau],fun i x e=>?_⟩;unfold eV at e;unfold L2.tau;rw[gh]at e ⊢;cases hc:caps[i]? with
 |none=>rw[hc]at e;cases e
 |some c=>
  rw[hc]at e;cases c with
  |none=>cases e
  |some j=>
   have e':(δ[j]?).join=some x:=by simpa using e
   have e2:δ[j]?=some (some x):=by
    cases hd:δ[j]? with
    |none=>rw[hd]at e';cases e'
    |some y=>rw[hd]at e';exact congrArg some (by simpa using e')
   obtain⟨v,e3,e4⟩:=r.get j x e2;exact⟨v,by simp[e3],e4⟩
end
abbrev RX:=XV->Sto->Prop
abbrev DE:=XE->Sto->RX->Prop
abbrev DT:=XE->Sto->(Bool->Sto->Prop)->Prop
abbrev DA:=XE->Sto->(List XV->Sto->Prop)->Prop
abbrev D2:=XV->XV->Sto->RX->Prop
def Cn(h o:List Addr)(H:Hp)(R:RX)(Q:VK):Prop:=∀o' H' S' x v,Ex o H o' H'->RepS h o' H' S'->HasX h o' H' x v->R x S'->Q v H'
theorem Cn.pre{h o o':List Addr}{H H':Hp}{R:RX}{Q:VK}(c:Cn h o H R Q)(e:Ex o H o' H'):Cn h o' H' R Q:=fun o2 H2 S2 x v e2=>c o2 H2 S2 x v (e.trans e2)
def RE(t:TE)(dt:DE):Prop:=∀(h o:List Addr) (H:Hp) (δ:XE) (σ:St) (S:Sto) (R:RX) (Q:VK),RepE h o H δ σ->RepS h o H S->dt δ S R->Cn h o H R Q->t σ H Q
def RT(t:TT)(dt:DT):Prop:=∀(h o:List Addr) (H:Hp) (δ:XE) (σ:St) (S:Sto) (R:Bool->Sto->Prop) (Q:Bool->Hp->Prop),RepE h o H δ σ->RepS h o H S->dt δ S R ->
 (∀o' H' S' b,Ex o H o' H'->RepS h o' H' S'->R b S'->Q b H')->t σ H Q
def RA(t:TA)(dt:DA):Prop:=∀(h o:List Addr) (H:Hp) (δ:XE) (σ:St) (S:Sto) (R:List XV->Sto->Prop) (Q:List V->Hp->Prop),RepE h o H δ σ->RepS h o H S->dt δ S R ->
 (∀o' H' S' xs vs,Ex o H o' H'->RepS h o' H' S'->HasXs h o' H' xs vs->R xs S'->Q vs H')->t σ H Q
def RO(r:R2)(rd:D2):Prop:=∀(h o:List Addr) (H:Hp) (S:Sto) (x y:XV) (v u:V) (R:RX) (Q:VK),RepS h o H S->HasX h o H x v->HasX h o H y u->rd x y S R->Cn h o H R Q->r v u H Q
def RU(r:V->Hp->VK->Prop)(rd:XV->Sto->RX->Prop):Prop:=∀(h o:List Addr) (H:Hp) (S:Sto) (x:XV) (v:V) (R:RX) (Q:VK),RepS h o H S->HasX h o H x v->rd x S R->Cn h o H R Q->r v H Q
def RC(r:List V->Hp->VK->Prop)(rd:List XV->Sto->RX->Prop):Prop:=∀(h o:List Addr) (H:Hp) (S:Sto) (xs:List XV) (vs:List V) (R:RX) (Q:VK),RepS h o H S->HasXs h o H xs vs->rd xs S R->Cn h o H R Q->r vs H Q
def asI:XV->(Int->Prop)->Prop
 | .d (.int i),k=>k i
 |_,_=>False
def asB:XV->(Bool->Prop)->Prop
 | .d (.bool i),k=>k i
 |_,_=>False
def asS:XV->(Str->Prop)->Prop
 | .d (.str i),k=>k i
 |_,_=>False
def asT:XV->(List bc->Prop)->Prop
 | .d (.tuple i),k=>k i
 |_,_=>False
def dZ(S:Sto):XV->Option (List bc)
 | .d (.list ds)=>some ds
 | .l k=>S[k]?
 |_=>none
def asL(S:Sto)(x:XV)(k:List bc->Prop):Prop:=∃ds,dZ S x=some ds/\k ds
def cC(S:Sto):XV->Option bc
 | .d d=>some d
 | .l k=>(S[k]?).map .list
 | .o _=>none
 | .x _ _=>none
 | .p k d=>(S[k]?).map fun l=>.tuple [.list l,d]
 | .i _ _=>none
def asD(x:XV)(k:bc->Prop):Prop:=match x with
 | .d d=>k d
 |_=>False
theorem bT{x:XV}{k:Int->Prop}(h:asI x k):∃i,x=.d (.int i)/\k i:=by
 unfold asI at h;split at h
 ·exact⟨_,rfl,h⟩
 ·exact h.elim
theorem rG{x:XV}{k:Bool->Prop}(h:asB x k):∃i,x=.d (.bool i)/\k i:=by
 unfold asB at h;split at h
 ·exact⟨_,rfl,h⟩
 ·exact h.elim
theorem uU{x:XV}{k:Str->Prop}(h:asS x k):∃i,x=.d (.str i)/\k i:=by
 unfold asS at h;split at h
 ·exact⟨_,rfl,h⟩
 ·exact h.elim
theorem rH{x:XV}{k:List bc->Prop}(h:asT x k):∃i,x=.d (.tuple i)/\k i:=by
 unfold asT at h;split at h
 ·exact⟨_,rfl,h⟩
 ·exact h.elim
theorem eE{x:XV}{k:bc->Prop}(h:asD x k):∃i,x=.d i/\k i:=by
 unfold asD at h;split at h
 ·exact⟨_,rfl,h⟩
 ·exact h.elim
section
variable {h o:List Addr}{H:Hp}{S:Sto}{x:XV}{v:V}{i:Int}{b:Bool}{z:Str}{ds:List bc}{d:bc}
theorem bU(q:HasX h o H (.d (.int i)) v):v=.int i:=(eY (H:=vx h o H)).mp q
theorem jI(q:HasX h o H (.d (.bool b)) v):v=.bl b:=(fE (H:=vx h o H)).mp q
theorem d8(q:HasX h o H (.d (.str z)) v):v=.str z:=(gC (H:=vx h o H)).mp q
theorem gQ(q:HasX h o H (.d (.tuple ds)) v):∃a vs,v=.ref a/\H a=some (.tup vs)/\HasL (vx h o H) ds vs:=by
 obtain⟨a,vs,e,q,l⟩:=cJ.mp (show Has _ _ _ from q);exact⟨a,vs,e,zZ _ _ q,l⟩
theorem cG(r:RepS h o H S)(e:dZ S x=some ds)(q:HasX h o H x v):∃a vs,v=.ref a/\H a=some (.lst vs)/\HasL (vx h o H) ds vs:=by
 unfold dZ at e;split at e
 ·cases e;obtain⟨a,vs,e,q,l⟩:=dA.mp (show Has _ _ _ from q);exact⟨a,vs,e,zZ _ _ q,l⟩
 ·obtain⟨a,e1,rfl⟩:=q;obtain⟨vs,e2,l⟩:=r.cont _ a ds e1 e;exact⟨a,vs,rfl,e2,l⟩
 ·cases e
theorem eP(r:RepS h o H S)(e:cC S x=some d)(q:HasX h o H x v):Has H d v:=by
 unfold cC at e;split at e
 ·cases e;exact Has.mono zZ _ _ q
 ·rename_i k;obtain⟨a,e1,rfl⟩:=q;cases hs:S[k]? with
  |none=>rw[hs]at e;cases e
  |some es=>
   rw[hs]at e;cases e;obtain⟨vs,e2,l⟩:=r.cont k a es e1 hs;exact dA.mpr ⟨a,vs,rfl,e2,HasL.mono zZ _ _ l⟩
 ·cases e
 ·cases e
 ·rename_i k d';obtain⟨t,a,u,rfl,e1,e3,e4⟩:=q;cases hs:S[k]? with
  |none=>rw[hs]at e;cases e
  |some es=>
   rw[hs]at e;cases e;obtain⟨vs,e2,l⟩:=r.cont k a es e1 hs;exact cJ.mpr ⟨t,_,rfl,zZ _ _ e3,zp.mpr ⟨_,_,rfl,dA.mpr ⟨a,vs,rfl,e2,HasL.mono zZ _ _ l⟩,zp.mpr ⟨u,_,rfl,Has.mono zZ _ _ e4,zA.mpr rfl⟩⟩⟩
 ·cases e
theorem xI(i:Int):HasX h o H (.d (.int i)) (.int i):=(eY (H:=vx h o H)).mpr rfl
theorem xB(i:Bool):HasX h o H (.d (.bool i)) (.bl i):=(fE (H:=vx h o H)).mpr rfl
theorem xS(i:Str):HasX h o H (.d (.str i)) (.str i):=(gC (H:=vx h o H)).mpr rfl
theorem xN:HasX h o H (.d .none) .non:=(i4 (H:=vx h o H)).mpr rfl
theorem v0{vs:List V}{R:RX}{Q:VK}(r:RepS h o H S)(l:HasL (vx h o H) ds vs)(c:Cn h o H R Q)(q:R (.d (.tuple ds)) S):∀p,H p=none->Q (.ref p) (upd H p (.tup vs)):=fun p hp=>
 c o _ S (.d (.tuple ds)) _ (Ex.of_same (Same.laid hp)) (r.same (Same.laid hp)) (cJ.mpr ⟨p,vs,rfl,r.laid hp,l.mono (pM (Same.laid hp))⟩) q
theorem lX{vs:List V}{R:RX}{Q:VK}(r:RepS h o H S)(l:HasL (vx h o H) ds vs)(c:Cn h o H R Q)(q:R (.d (.list ds)) S):∀p,H p=none->Q (.ref p) (upd H p (.lst vs)):=fun p hp=>
 c o _ S (.d (.list ds)) _ (Ex.of_same (Same.laid hp)) (r.same (Same.laid hp)) (dA.mpr ⟨p,vs,rfl,r.laid hp,l.mono (pM (Same.laid hp))⟩) q
theorem Fe{vs:List V}{R:RX}{Q:VK}(r:RepS h o H S)(l:HasL (vx h o H) ds vs)(c:Cn h o H R Q)(q:R (.l S.length) (S++[ds])):∀p,H p=none->Q (.ref p) (upd H p (.lst vs)):=fun p hp=>
 c (o++[p]) _ (S++[ds]) (.l S.length) _ (Ex.new r hp) (r.new hp l) ⟨p,by rw[r.len,bw],rfl⟩ q
theorem u9:∀{xs:List XV}{vs:List V}{ds:List bc},HasXs h o H xs vs->xs=ds.map XV.d->HasL (vx h o H) ds vs
 | [],vs,[],q,_=>zA.mpr q
 |x::xs,vs,d::ds,⟨v,r,e,q,l⟩,e2=>by
  rw[fm]at e2;cases e2;exact zp.mpr ⟨v,r,e,q,u9 l rfl⟩
 |x::xs,vs,[],_,e2=>by cases e2
 | [],vs,d::ds,_,e2=>by cases e2
end
def datas:List XV->Option (List bc)
 | []=>some []
 | .d d::r=>(datas r).map (d :: ·)
 |_::_=>none
theorem jB:∀{xs:List XV}{ds:List bc},datas xs=some ds->xs=ds.map XV.d
 | [],ds,e=>by cases e;rfl
 | .d d::r,ds,e=>by
  unfold datas at e;cases hr:datas r with
  |none=>rw[hr]at e;cases e
  |some es=>
   rw[hr]at e;cases e;rw[jB hr];rfl
 | .l _::_,_,e=>by cases e
 | .o _::_,_,e=>by cases e
 | .x _ _::_,_,e=>by cases e
 | .p _ _::_,_,e=>by cases e
 | .i _ _::_,_,e=>by cases e
def zk(i:Nat):DE:=fun δ S R=>∃x,δ[i]?=some (some x)/\R x S
def dC(d:bc):DE:=fun _ S R=>R (.d d) S
def dO(v:V):DE:=fun _ S R=>R (.o v) S
def dOp(rd:D2)(a b:DE):DE:=fun δ S R=>a δ S fun x S1=>b δ S1 fun y S2=>rd x y S2 R
def dUn(rd:XV->Sto->RX->Prop)(a:DE):DE:=fun δ S R=>a δ S fun x S1=>rd x S1 R
def zq:DA:=fun _ S R=>R [] S
def zc(a:DE)(b:DA):DA:=fun δ S R=>a δ S fun x S1=>b δ S1 fun xs S2=>R (x::xs) S2
def dCB(rd:List XV->Sto->RX->Prop)(a:DA):DE:=fun δ S R=>a δ S fun xs S1=>rd xs S1 R
def aO(a:DA):DE:=fun δ S R=>a δ S fun xs S1=>∃ds,datas xs=some ds/\ds.length<=1000/\R (.d (.tuple ds)) S1
def bS(a:DA):DE:=fun δ S R=>a δ S fun xs S1=>∃ds,datas xs=some ds/\ds.length<=1000/\R (.d (.list ds)) S1
def cO(a:DA):DE:=fun δ S R=>a δ S fun xs S1=>∃ds,datas xs=some ds/\ds.length<=1000/\R (.l S1.length) (S1++[ds])
section
variable {t ta tb tc:TE}{da db dc:DE}{tl:TA}{dl:DA}{tt tu:TT}{dt du:DT}
theorem zh{i:Nat}:RE (b0 i) (zk i):=fun h o H δ σ S R Q he hs ⟨x,e,q⟩ c=>by
 obtain⟨v,e1,e2⟩:=he.get i x e;exact⟨v,e1,c o H S x v Ex.refl hs e2 q⟩
theorem zS{i:Int}:RE (tC (.int i)) (dC (.int i)):=fun h o H δ σ S R Q he hs q c=>c o H S _ _ Ex.refl hs (xI i) q
theorem iO{i:Bool}:RE (tC (.bl i)) (dC (.bool i)):=fun h o H δ σ S R Q he hs q c=>c o H S _ _ Ex.refl hs (xB i) q
theorem mR{i:Str}:RE (tC (.str i)) (dC (.str i)):=fun h o H δ σ S R Q he hs q c=>c o H S _ _ Ex.refl hs (xS i) q
theorem DC:RE (tC .non) (dC .none):=fun h o H δ σ S R Q he hs q c=>c o H S _ _ Ex.refl hs xN q
theorem Jd{v:V}:RE (tC v) (dO v):=fun h o H δ σ S R Q he hs q c=>c o H S (.o v) v Ex.refl hs rfl q
theorem zT{r:R2}{rd:D2}(hr:RO r rd)(ha:RE ta da)(hb:RE tb db):RE (tOp r ta tb) (dOp rd da db):=fun h o H δ σ S R Q he hs q c=>
 ha h o H δ σ S _ _ he hs q fun o1 H1 S1 x v e1 s1 x1 d1=>hb h o1 H1 δ σ S1 _ _ (he.mono e1) s1 d1 fun o2 H2 S2 y u e2 s2 y2 d2=>
  hr h o2 H2 S2 x y v u R Q s2 (x1.mono e2) y2 d2 (c.pre (e1.trans e2))
theorem Mc{r:V->Hp->VK->Prop}{rd:XV->Sto->RX->Prop}(hr:RU r rd)(ha:RE ta da):RE (tUn r ta) (dUn rd da):=fun h o H δ σ S R Q he hs q c=>
 ha h o H δ σ S _ _ he hs q fun o1 H1 S1 x v e1 s1 x1 d1=>hr h o1 H1 S1 x v R Q s1 x1 d1 (c.pre e1)
theorem zu:RA j7 zq:=fun h o H δ σ S R Q he hs q c=>c o H S [] [] Ex.refl hs rfl q
theorem zj(ha:RE ta da)(hb:RA tl dl):RA (gZ ta tl) (zc da dl):=fun h o H δ σ S R Q he hs q c=>
 ha h o H δ σ S _ _ he hs q fun o1 H1 S1 x v e1 s1 x1 d1=>hb h o1 H1 δ σ S1 _ _ (he.mono e1) s1 d1 fun o2 H2 S2 xs vs e2 s2 x2 d2=>
  c o2 H2 S2 (x::xs) (v::vs) (e1.trans e2) s2 ⟨v,vs,rfl,x1.mono e2,x2⟩ d2
theorem bX{r:List V->Hp->VK->Prop}{rd:List XV->Sto->RX->Prop}(hr:RC r rd)(ha:RA tl dl):RE (tCB r tl) (dCB rd dl):=fun h o H δ σ S R Q he hs q c=>
 ha h o H δ σ S _ _ he hs q fun o1 H1 S1 xs vs e1 s1 x1 d1=>hr h o1 H1 S1 xs vs R Q s1 x1 d1 (c.pre e1)
theorem dQ(ha:RA tl dl):RE (CZ tl) (aO dl):=fun h o H δ σ S R Q he hs q c=>
 ha h o H δ σ S _ _ he hs q fun o1 H1 S1 xs vs e1 s1 x1 ⟨ds,e,hl,d1⟩=>by
  have l:=u9 x1 (jB e);exact⟨by rw[l.length];exact jn (small1000 hl),v0 s1 l (c.pre e1) d1⟩
theorem Gp(ha:RA tl dl):RE (mO tl) (bS dl):=fun h o H δ σ S R Q he hs q c=>
 ha h o H δ σ S _ _ he hs q fun o1 H1 S1 xs vs e1 s1 x1 ⟨ds,e,hl,d1⟩=>by
  have l:=u9 x1 (jB e);exact⟨by rw[l.length];exact jn (small1000 hl),lX s1 l (c.pre e1) d1⟩
theorem G6(ha:RA tl dl):RE (mO tl) (cO dl):=fun h o H δ σ S R Q he hs q c=>
 ha h o H δ σ S _ _ he hs q fun o1 H1 S1 xs vs e1 s1 x1 ⟨ds,e,hl,d1⟩=>by
  have l:=u9 x1 (jB e);exact⟨by rw[l.length];exact jn (small1000 hl),Fe s1 l (c.pre e1) d1⟩
def dB(a:DE):DT:=fun δ S R=>a δ S fun x S1=>asB x fun b=>R b S1
def aY(a:DT):DT:=fun δ S R=>a δ S fun b S1=>R (!b) S1
def eT(a b:DT):DT:=fun δ S R=>a δ S fun x S1=>if x=true then b δ S1 R else R false S1
def dOr(a b:DT):DT:=fun δ S R=>a δ S fun x S1=>if x=true then R true S1 else b δ S1 R
def eA(a b:DE):DE:=fun δ S R=>a δ S fun x S1=>asB x fun c=>if c=true then b δ S1 R else R (.d (.bool false)) S1
def nW(a b:DE):DE:=fun δ S R=>a δ S fun x S1=>asB x fun c=>if c=true then R (.d (.bool true)) S1 else b δ S1 R
def iT(a:DE):DE:=fun δ S R=>a δ S fun x S1=>asB x fun c=>R (.d (.bool (!c))) S1
def dIf(c:DT)(a b:DE):DE:=fun δ S R=>c δ S fun x S1=>if x=true then a δ S1 R else b δ S1 R
theorem gG(ha:RE ta da):RT (oY ta) (dB da):=fun h o H δ σ S R Q he hs q c=>
 ha h o H δ σ S _ _ he hs q fun o1 H1 S1 x v e1 s1 x1 d1=>by
  replace d1:=rG d1;obtain⟨b,rfl,d1⟩:=d1;exact⟨b,jI x1,c o1 H1 S1 b e1 s1 d1⟩
theorem lF(ha:RT tt dt):RT (Ef tt) (aY dt):=fun h o H δ σ S R Q he hs q c=>
 ha h o H δ σ S _ _ he hs q fun o1 H1 S1 b e1 s1 d1=>c o1 H1 S1 _ e1 s1 d1
theorem AB(ha:RT tt dt)(hb:RT tu du):RT (CT tt tu) (eT dt du):=fun h o H δ σ S R Q he hs q c=>
 ha h o H δ σ S _ _ he hs q fun o1 H1 S1 b e1 s1 d1=>by
  cases b with
  |true=>exact fO (hb h o1 H1 δ σ S1 R Q (he.mono e1) s1 (by simpa using d1) fun o2 H2 S2 b e2=>c o2 H2 S2 b (e1.trans e2))
  |false=>exact fK (c o1 H1 S1 false e1 s1 (by simpa using d1))
theorem oK(ha:RT tt dt)(hb:RT tu du):RT (tOr tt tu) (dOr dt du):=fun h o H δ σ S R Q he hs q c=>
 ha h o H δ σ S _ _ he hs q fun o1 H1 S1 b e1 s1 d1=>by
  cases b with
  |false=>exact fK (hb h o1 H1 δ σ S1 R Q (he.mono e1) s1 (by simpa using d1) fun o2 H2 S2 b e2=>c o2 H2 S2 b (e1.trans e2))
  |true=>exact fO (c o1 H1 S1 true e1 s1 (by simpa using d1))
theorem oJ(ha:RE ta da)(hb:RE tb db):RE (Ak ta tb) (eA da db):=fun h o H δ σ S R Q he hs q c=>
 ha h o H δ σ S _ _ he hs q fun o1 H1 S1 x v e1 s1 x1 d1=>by
  replace d1:=rG d1;obtain⟨b,rfl,d1⟩:=d1;refine⟨b,jI x1,?_⟩;cases b with
  |true=>exact fO (hb h o1 H1 δ σ S1 R Q (he.mono e1) s1 (by simpa using d1) (c.pre e1))
  |false=>exact fK (c o1 H1 S1 _ _ e1 s1 (xB false) (by simpa using d1))
theorem Jc(ha:RE ta da):RE (Eb ta) (iT da):=fun h o H δ σ S R Q he hs q c=>
 ha h o H δ σ S _ _ he hs q fun o1 H1 S1 x v e1 s1 x1 d1=>by
  replace d1:=rG d1;obtain⟨b,rfl,d1⟩:=d1;exact⟨b,jI x1,c o1 H1 S1 _ _ e1 s1 (xB _) d1⟩
theorem De(hc:RT tt dt)(ha:RE ta da)(hb:RE tb db):RE (tIf tt ta tb) (dIf dt da db):=fun h o H δ σ S R Q he hs q c=>
 hc h o H δ σ S _ _ he hs q fun o1 H1 S1 b e1 s1 d1=>by
  cases b with
  |true=>exact fO (ha h o1 H1 δ σ S1 R Q (he.mono e1) s1 (by simpa using d1) (c.pre e1))
  |false=>exact fK (hb h o1 H1 δ σ S1 R Q (he.mono e1) s1 (by simpa using d1) (c.pre e1))
def fU(rd q:D2)(a b e:DE):DE:=fun δ S R=>a δ S fun x S1=>b δ S1 fun y S2=>rd x y S2 fun z S3=>asB z fun k=>if k=true then e δ S3 fun u S4=>q y u S4 R else R (.d (.bool false)) S3
theorem wH{r r':R2}{rd aa:D2}(hr:RO r rd)(ab:RO r' aa)(ha:RE ta da)(hb:RE tb db)(hc:RE tc dc):RE (wF r r' ta tb tc) (fU rd aa da db dc):=fun h o H δ σ S R Q he hs q c=>
 ha h o H δ σ S _ _ he hs q fun o1 H1 S1 x v e1 s1 x1 d1=>hb h o1 H1 δ σ S1 _ _ (he.mono e1) s1 d1 fun o2 H2 S2 y u e2 s2 y2 d2=>
  hr h o2 H2 S2 x y v u _ _ s2 (x1.mono e2) y2 d2 fun o3 H3 S3 z w e3 s3 z3 d3=>by
   replace d3:=rG d3;obtain⟨b,rfl,d3⟩:=d3;refine⟨b,jI z3,?_⟩;cases b with
   |false=>exact fK (c o3 H3 S3 _ _ ((e1.trans e2).trans e3) s3 (xB false) (by simpa using d3))
   |true=>exact fO (hc h o3 H3 δ σ S3 _ _ (((he.mono e1).mono e2).mono e3) s3 (by simpa using d3) fun o4 H4 S4 k w' e4 s4 k4 d4=>ab h o4 H4 S4 y k u w' R Q s4 ((y2.mono e3).mono e4) k4 d4 (c.pre (((e1.trans e2).trans e3).trans e4)))
end
def dI(C:Int->Int->Prop)(g:Int->Int->Int):D2:=fun x y S R=>asI x fun i=>asI y fun j=>C i j/\R (.d (.int (g i j))) S
def dI0(g:Int->Int->Int):D2:=fun x y S R=>asI x fun i=>asI y fun j=>R (.d (.int (g i j))) S
def dIb(g:Int->Int->Bool):D2:=fun x y S R=>asI x fun i=>asI y fun j=>R (.d (.bool (g i j))) S
def dUI(g:Int->Int):XV->Sto->RX->Prop:=fun x S R=>asI x fun i=>R (.d (.int (g i))) S
def aU:D2:=fun x y S R=>∃d,cC S x=some d/\∃e,cC S y=some e/\cv d=true/\cv e=true/\R (.d (.bool (dm d e))) S
def cQ:D2:=fun x y S R=>∃d,cC S x=some d/\∃e,cC S y=some e/\cv d=true/\cv e=true/\R (.d (.bool (!PyData.eqv d e))) S
def gE:D2:=fun x _ S R=>asD x fun d=>R (.d (.bool (iQ d))) S
def j9:D2:=fun x _ S R=>asD x fun d=>R (.d (.bool (!iQ d))) S
def IL:D2:=fun x y S R=>asT x fun ds=>asI y fun i=>∃d,atI ds i=some d/\R (.d d) S
def Mu:D2:=fun x y S R=>asL S x fun ds=>asI y fun i=>∃d,atI ds i=some d/\R (.d d) S
def Ki:D2:=fun x y S R=>asL S x fun ds=>asL S y fun es=>ds.length+es.length<=1000/\R (.d (.list (ds++es))) S
def Ls:D2:=fun x y S R=>asT x fun ds=>asT y fun es=>ds≠[]/\ds.length+es.length<=1000/\R (.d (.tuple (ds++es))) S
section
theorem kC{C:Int->Int->Prop}{g:Int->Int->Int}:RO (rI C fun i j=>.int (g i j)) (dI C g):=fun h o H S x y v u R Q hs hx hy q c=>by
 replace q:=bT q;obtain⟨i,rfl,q⟩:=q;replace q:=bT q;obtain⟨j,rfl,hc,q⟩:=q;exact⟨i,j,bU hx,bU hy,hc,c o H S _ _ Ex.refl hs (xI _) q⟩
theorem EG{g:Int->Int->Int}:RO (rI0 fun i j=>.int (g i j)) (dI0 g):=fun h o H S x y v u R Q hs hx hy q c=>by
 replace q:=bT q;obtain⟨i,rfl,q⟩:=q;replace q:=bT q;obtain⟨j,rfl,q⟩:=q;exact⟨i,j,bU hx,bU hy,c o H S _ _ Ex.refl hs (xI _) q⟩
theorem qM{g:Int->Int->Bool}:RO (rI0 fun i j=>.bl (g i j)) (dIb g):=fun h o H S x y v u R Q hs hx hy q c=>by
 replace q:=bT q;obtain⟨i,rfl,q⟩:=q;replace q:=bT q;obtain⟨j,rfl,q⟩:=q;exact⟨i,j,bU hx,bU hy,c o H S _ _ Ex.refl hs (xB _) q⟩
theorem Gq{g:Int->Int}:RU (rU fun i=>.int (g i)) (dUI g):=fun h o H S x v R Q hs hx q c=>by
 replace q:=bT q;obtain⟨i,rfl,q⟩:=q;exact⟨i,bU hx,c o H S _ _ Ex.refl hs (xI _) q⟩
theorem gJ:RO Fw aU:=fun h o H S x y v u R Q hs hx hy q c=>by
 obtain⟨d,q1,e,q2,q3,q4,q⟩:=q;exact⟨d,e,eP hs q1 hx,eP hs q2 hy,q3,q4,c o H S _ _ Ex.refl hs (xB _) q⟩
theorem sS:RO EF cQ:=fun h o H S x y v u R Q hs hx hy q c=>by
 obtain⟨d,q1,e,q2,q3,q4,q⟩:=q;exact⟨d,e,eP hs q1 hx,eP hs q2 hy,q3,q4,c o H S _ _ Ex.refl hs (xB _) q⟩
theorem LB{ta:TE}{da:DE}(ha:RE ta da):RE (tOp E4 ta (tC .non)) (dOp gE da (dC .none)):=fun h o H δ σ S R Q he hs q c=>
 ha h o H δ σ S _ _ he hs q fun o1 H1 S1 x v e1 s1 x1 d1=>by
  replace d1:=eE d1;obtain⟨d,rfl,d1⟩:=d1;have e:=EH (show Has _ d v from x1);exact⟨rfl,by rw[e];exact c o1 H1 S1 _ _ e1 s1 (xB _) d1⟩
theorem ND{ta:TE}{da:DE}(ha:RE ta da):RE (tOp Cd ta (tC .non)) (dOp j9 da (dC .none)):=fun h o H δ σ S R Q he hs q c=>
 ha h o H δ σ S _ _ he hs q fun o1 H1 S1 x v e1 s1 x1 d1=>by
  replace d1:=eE d1;obtain⟨d,rfl,d1⟩:=d1;have e:=EH (show Has _ d v from x1);exact⟨rfl,by rw[e];exact c o1 H1 S1 _ _ e1 s1 (xB _) d1⟩
theorem HasL.atI{H:Hp}{ds:List bc}{vs:List V}{i:Int}{d:bc}(l:HasL H ds vs)(e:L2.atI ds i=some d):∃v,L2.atI vs i=some v/\Has H d v:=by
 unfold L2.atI at e ⊢;rw[l.length];cases hn:ixN ds.length i with
 |none=>rw[hn]at e;cases e
 |some j=>
  rw[hn]at e;exact l.get (show ds[j]?=some d from e)
theorem K4{K:cq}:RO (AR K) IL:=fun h o H S x y v u R Q hs hx hy q c=>by
 replace q:=rH q;obtain⟨ds,rfl,q⟩:=q;replace q:=bT q;obtain⟨i,rfl,d,e,q⟩:=q;obtain⟨a,vs,rfl,ea,l⟩:=gQ hx;obtain⟨w,ew,hw⟩:=l.atI e;exact⟨a,vs,i,w,rfl,bU hy,.of ea,ew,c o H S (.d d) w Ex.refl hs hw q⟩
theorem Bx{K:cq}:RO (xD K) Mu:=fun h o H S x y v u R Q hs hx hy q c=>by
 obtain⟨ds,e0,q⟩:=q;replace q:=bT q;obtain⟨i,rfl,d,e,q⟩:=q;obtain⟨a,vs,rfl,ea,l⟩:=cG hs e0 hx;obtain⟨w,ew,hw⟩:=l.atI e;exact⟨a,vs,i,w,rfl,bU hy,.of ea,ew,c o H S (.d d) w Ex.refl hs hw q⟩
theorem KQ:RO l0 Ki:=fun h o H S x y v u R Q hs hx hy q c=>by
 obtain⟨ds,e0,es,e1,hl,q⟩:=q;obtain⟨a,vs,rfl,ea,la⟩:=cG hs e0 hx;obtain⟨b,us,rfl,eb,lb⟩:=cG hs e1 hy;exact⟨a,b,vs,us,rfl,rfl,ea,eb,by rw[la.length,lb.length];exact jn (small1000 hl),lX hs (la.append lb) c q⟩
theorem Lo{K:cq}:RO (wM K) Ls:=fun h o H S x y v u R Q hs hx hy q c=>by
 replace q:=rH q;obtain⟨ds,rfl,q⟩:=q;replace q:=rH q;obtain⟨es,rfl,hn,hl,q⟩:=q;obtain⟨a,vs,rfl,ea,la⟩:=gQ hx;obtain⟨b,us,rfl,eb,lb⟩:=gQ hy;refine⟨a,b,vs,us,rfl,rfl,.of ea,.of eb,fun z=>?_,by rw[la.length,lb.length];exact jn (small1000 hl),fun z=>?_,fun _=>v0 hs (la.append lb) c q⟩
 ·subst z;have:=la.length;exact hn (df this.symm)
 ·subst z;have e:es=[]:=df lb.length.symm;subst e;rw[jg]at q;exact c o H S (.d (.tuple ds)) _ Ex.refl hs hx q
end
abbrev DO:=XE->Sto->(Option Int->Sto->Prop)->Prop
def RP(t:TO)(dt:DO):Prop:=∀(h o:List Addr) (H:Hp) (δ:XE) (σ:St) (S:Sto) (R:Option Int->Sto->Prop) (Q:Option Int->Hp->Prop),RepE h o H δ σ->RepS h o H S->dt δ S R ->
 (∀o' H' S' b,Ex o H o' H'->RepS h o' H' S'->R b S'->Q b H')->t σ H Q
def fB:DO:=fun _ S R=>R none S
def fH(a:DE):DO:=fun δ S R=>a δ S fun x S1=>asI x fun i=>R (some i) S1
theorem tK:RP DY fB:=fun h o H δ σ S R Q he hs q c=>c o H S none Ex.refl hs q
theorem vG{t:TE}{da:DE}(ha:RE t da):RP (lY t) (fH da):=fun h o H δ σ S R Q he hs q c=>
 ha h o H δ σ S _ _ he hs q fun o1 H1 S1 x v e1 s1 x1 d1=>by
  replace d1:=bT d1;obtain⟨i,rfl,d1⟩:=d1;exact⟨i,bU x1,c o1 H1 S1 _ e1 s1 d1⟩
abbrev D3:=XV->Option Int->Option Int->Sto->RX->Prop
def RL(r:V->Option Int->Option Int->Hp->VK->Prop)(rd:D3):Prop:=∀(h o:List Addr) (H:Hp) (S:Sto) (x:XV) (v:V) (a b:Option Int) (R:RX) (Q:VK),RepS h o H S->HasX h o H x v->rd x a b S R->Cn h o H R Q->r v a b H Q
def dSl(rd:D3)(e:DE)(a b:DO):DE:=fun δ S R=>e δ S fun x S1=>a δ S1 fun i S2=>b δ S2 fun j S3=>rd x i j S3 R
theorem uG{r:V->Option Int->Option Int->Hp->VK->Prop}{rd:D3}{te:TE}{de:DE}{ta tb:TO}{da db:DO}(hr:RL r rd)(z:RE te de)(ha:RP ta da)(hb:RP tb db):RE (tSl r te ta tb) (dSl rd de da db):=fun h o H δ σ S R Q he hs q c=>
 z h o H δ σ S _ _ he hs q fun o1 H1 S1 x v e1 s1 x1 d1=>ha h o1 H1 δ σ S1 _ _ (he.mono e1) s1 d1 fun o2 H2 S2 i e2 s2 d2=>hb h o2 H2 δ σ S2 _ _ ((he.mono e1).mono e2) s2 d2 fun o3 H3 S3 j e3 s3 d3=>
  hr h o3 H3 S3 x v i j R Q s3 ((x1.mono e2).mono e3) d3 (c.pre ((e1.trans e2).trans e3))
def MN:D3:=fun x i j S R=>asL S x fun ds=>R (.d (.list (bE ds i j))) S
def Hx:D3:=fun x i j S R=>asT x fun ds=>¬(HT.sIx ds.length 0 i=0/\HT.sIx ds.length ds.length j=ds.length)/\R (.d (.tuple (bE ds i j))) S
theorem Fm{K:cq}:RL (qW K) MN:=fun h o H S x v a b R Q hs hx q c=>by
 obtain⟨ds,e0,q⟩:=q;obtain⟨p,vs,rfl,ea,l⟩:=cG hs e0 hx;exact⟨p,vs,rfl,.of ea,lX hs (l.cut a b) c q⟩
theorem JY{K:cq}:RL (A3 K) Hx:=fun h o H S x v a b R Q hs hx q c=>by
 replace q:=rH q;obtain⟨ds,rfl,hn,q⟩:=q;obtain⟨p,vs,rfl,ea,l⟩:=gQ hx;exact⟨p,vs,rfl,.of ea,by rw[l.length];exact hn,v0 hs (l.cut a b) c q⟩
def asQ(S:Sto):XV->Option (List bc)
 | .d (.tuple ds)=>some ds
 | .d (.list ds)=>some ds
 | .l k=>S[k]?
 |_=>none
theorem vN{h o:List Addr}{H:Hp}{S:Sto}{x:XV}{v:V}{ds:List bc}(r:RepS h o H S)(e:asQ S x=some ds)(q:HasX h o H x v):∃a vs,v=.ref a/\(H a=some (.tup vs)\/H a=some (.lst vs))/\HasL (vx h o H) ds vs:=by
 unfold asQ at e;split at e
 ·cases e;obtain⟨a,vs,e,q,l⟩:=gQ q;exact⟨a,vs,e,.inl q,l⟩
 ·cases e;obtain⟨a,vs,e,q,l⟩:=cG (x:=.d (.list ds)) (ds:=ds) r rfl q;exact⟨a,vs,e,.inr q,l⟩
 ·rename_i k;obtain⟨a,vs,e,q,l⟩:=cG (x:=.l k) r e q;exact⟨a,vs,e,.inr q,l⟩
 ·cases e
def arg1:List XV->(XV->Prop)->Prop
 | [x],k=>k x
 |_,_=>False
def arg2:List XV->(XV->XV->Prop)->Prop
 | [x,y],k=>k x y
 |_,_=>False
theorem dU{xs:List XV}{k:XV->Prop}(h:arg1 xs k):∃x,xs=[x]/\k x:=by
 unfold arg1 at h;split at h
 ·exact⟨_,rfl,h⟩
 ·exact h.elim
theorem mY{xs:List XV}{k:XV->XV->Prop}(h:arg2 xs k):∃x y,xs=[x,y]/\k x y:=by
 unfold arg2 at h;split at h
 ·exact⟨_,_,rfl,h⟩
 ·exact h.elim
theorem hxs1{h o:List Addr}{H:Hp}{x:XV}{vs:List V}(q:HasXs h o H [x] vs):∃v,vs=[v]/\HasX h o H x v:=by
 obtain⟨v,r,e,hx,hr⟩:=q;cases hr;exact⟨v,e,hx⟩
theorem hxs2{h o:List Addr}{H:Hp}{x y:XV}{vs:List V}(q:HasXs h o H [x,y] vs):∃v u,vs=[v,u]/\HasX h o H x v/\HasX h o H y u:=by
 obtain⟨v,r,e,hx,q⟩:=q;obtain⟨u,e',hy⟩:=hxs1 q;subst e';exact⟨v,u,e,hx,hy⟩
def AA:XV->(String->Prop)->Prop
 | .o v,k=>∃c,v=.ty c/\k c
 |_,_=>False
def AK:XV->(Int->Prop)->Prop
 | .d d,k=>match d with
  | .int i=>k i
  | .bool b=>k (if b then 1 else 0)
  |_=>False
 |_,_=>False
theorem Ij{x:XV}{k:String->Prop}(h:AA x k):∃c,x=.o (.ty c)/\k c:=by
 cases x with
 |o v=>
  obtain⟨c,rfl,h⟩:=h;exact⟨c,rfl,h⟩
 |d d=>exact h.elim
 |l j=>exact h.elim
 |x _ _=>exact h.elim
 |p _ _=>exact h.elim
 |i _ _=>exact h.elim
theorem Gv{x:XV}{k:Int->Prop}(h:AK x k):(∃i,x=.d (.int i)/\k i)\/∃b,x=.d (.bool b)/\k (if b then 1 else 0):=by
 cases x with
 |d d=>
  cases d with
  |int i=>exact .inl ⟨i,rfl,h⟩
  |bool b=>exact .inr ⟨b,rfl,h⟩
  |_=>exact h.elim
 |_=>exact h.elim
def Ic:List XV->Sto->RX->Prop:=fun xs S R=>arg1 xs fun x=>∃ds,asQ S x=some ds/\R (.d (.int ds.length)) S
theorem wS{K:cq}:RC (AJ K) Ic:=fun h o H S xs vs R Q hs hx q c=>by
 obtain⟨x,rfl,ds,hd,q1⟩:=dU q;obtain⟨v,rfl,aa⟩:=hxs1 hx;obtain⟨a,ws,rfl,ea,l⟩:=vN hs hd aa;refine⟨a,ws,rfl,ea.elim (fun z=>.inr (.of z)) (fun z=>.inl (.of z)),?_⟩;rw[l.length];exact c o H S _ _ Ex.refl hs (xI _) q1
def dR:List XV->Sto->RX->Prop:=fun xs S R=>arg2 xs fun x y=>AA y fun cl=>∃d,cC S x=some d/\cl∈f9/\R (.d (.bool (jA d cl))) S
theorem Lz:RC xH dR:=fun h o H S xs vs R Q hs hx q c=>by
 obtain⟨x,y,rfl,q1⟩:=mY q;obtain⟨cl,rfl,d,hd,hc,q2⟩:=Ij q1;obtain⟨v,u,rfl,z,hu⟩:=hxs2 hx;cases hu;exact LW (eP hs hd z) hc (c o H S _ _ Ex.refl hs (xB _) q2)
def j3:List XV->Sto->RX->Prop:=fun xs S R=>arg1 xs fun x=>AK x fun i=>R (.d (.int i)) S
theorem OE:RC (fun xs H Q=>(∃i,xs=[.int i]/\Q (.int i) H)\/∃k,xs=[.bl k]/\Q (.int (if k then 1 else 0)) H) j3:=fun h o H S xs vs R Q hs hx q c=>by
 obtain⟨x,rfl,q1⟩:=dU q;obtain⟨v,rfl,z⟩:=hxs1 hx;rcases Gv q1 with ⟨i,rfl,q2⟩|⟨b,rfl,q2⟩
 ·exact .inl ⟨_,by rw[bU z],c o H S _ _ Ex.refl hs (xI _) q2⟩
 ·exact .inr ⟨_,by rw[jI z],c o H S _ _ Ex.refl hs (xI _) q2⟩
def dI2(g:Int->Int->Int):List XV->Sto->RX->Prop:=fun xs S R=>arg2 xs fun x y=>asI x fun i=>asI y fun j=>R (.d (.int (g i j))) S
theorem NN{g:Int->Int->Int}:RC (fun xs H Q=>∃i j,xs=[.int i,.int j]/\Q (.int (g i j)) H) (dI2 g):=fun h o H S xs vs R Q hs hx q c=>by
 obtain⟨x,y,rfl,q1⟩:=mY q;obtain⟨v,u,rfl,z,hu⟩:=hxs2 hx;obtain⟨i,rfl,q2⟩:=bT q1;obtain⟨j,rfl,q3⟩:=bT q2;exact⟨i,j,by rw[bU z,bU hu],c o H S _ _ Ex.refl hs (xI _) q3⟩
def dS:List XV->Sto->RX->Prop:=fun xs S R=>arg1 xs fun x=>∃ds,asQ S x=some ds/\R (.d (.tuple ds)) S
theorem lM{K:cq}:RC (fun xs H Q=>∃p ys,xs=[.ref p]/\((SqL K H p ys/\∀l,H l=none->Q (.ref l) (upd H l (.tup ys)))\/(SqT K H p ys/\Q (.ref p) H))) dS:=fun h o H S xs vs R Q hs hx q c=>by
 obtain⟨x,rfl,ds,hd,q1⟩:=dU q;obtain⟨v,rfl,aa⟩:=hxs1 hx;obtain⟨a,ws,rfl,ea,l⟩:=vN hs hd aa;refine⟨a,ws,rfl,ea.elim (fun z=>.inr ⟨.of z,?_⟩) (fun z=>.inl ⟨.of z,v0 hs l c q1⟩)⟩;have hh:HasX h o H (.d (.tuple ds)) (.ref a):=by
  unfold asQ at hd;split at hd
  ·cases hd;exact aa
  ·obtain⟨a',us,e1,e2,_⟩:=cG (x:=.d (.list _)) hs rfl aa;cases e1;rw[z]at e2;cases e2
  ·rename_i k;obtain⟨a',us,e1,e2,_⟩:=cG (x:=.l k) hs hd aa;cases e1;rw[z]at e2;cases e2
  ·cases hd
 exact c o H S _ _ Ex.refl hs hh q1
theorem mT{H:Hp}:∀{ns:List Int}{vs:List V},HasL H (ns.map bp) vs->vs=ns.map V.int
 | [],vs,h=>zA.mp h
 |n::ns,vs,h=>by
  obtain⟨v,r,rfl,h1,h2⟩:=zp.mp h;rw[eY.mp h1,mT h2];rfl
def FH:List XV->Sto->RX->Prop:=fun xs S R=>arg1 xs fun x=>∃ds,asQ S x=some ds/\∃ns,ds=ns.map bp/\ns≠[]/\∀m,m∈ns->(∀a,a∈ns->m<=a)->R (.d (.int m)) S
def sL:List XV->Sto->RX->Prop:=fun xs S R=>arg1 xs fun x=>∃ds,asQ S x=some ds/\∃ns,ds=ns.map bp/\ns≠[]/\∀m,m∈ns->(∀a,a∈ns->a<=m)->R (.d (.int m)) S
theorem J3{K:cq}:RC (yT K) FH:=fun h o H S xs vs R Q hs hx q c=>by
 obtain⟨x,rfl,ds,hd,ns,rfl,hn,q1⟩:=dU q;obtain⟨v,rfl,aa⟩:=hxs1 hx;obtain⟨a,ws,rfl,ea,l⟩:=vN hs hd aa;rw[mT l]at ea;exact⟨a,ns,rfl,ea.elim (fun z=>.inr (.of z)) (fun z=>.inl (.of z)),hn,fun m m1 m2=>c o H S _ _ Ex.refl hs (xI _) (q1 m m1 m2)⟩
theorem El{K:cq}:RC (D6 K) sL:=fun h o H S xs vs R Q hs hx q c=>by
 obtain⟨x,rfl,ds,hd,ns,rfl,hn,q1⟩:=dU q;obtain⟨v,rfl,aa⟩:=hxs1 hx;obtain⟨a,ws,rfl,ea,l⟩:=vN hs hd aa;rw[mT l]at ea;exact⟨a,ns,rfl,ea.elim (fun z=>.inr (.of z)) (fun z=>.inl (.of z)),hn,fun m m1 m2=>c o H S _ _ Ex.refl hs (xI _) (q1 m m1 m2)⟩
def dBM(rd:XV->List XV->Sto->RX->Prop)(e:DE)(a:DA):DE:=fun δ S R=>e δ S fun x S1=>∃k,x=.l k/\k<S1.length/\a δ S1 fun xs S2=>rd x xs S2 R
def gU(rd:XV->List XV->Sto->RX->Prop)(e:DE):DE:=fun δ S R=>e δ S fun x S1=>∃k,x=.l k/\k<S1.length/\rd x [] S1 R
def RM(r:V->List V->Hp->VK->Prop)(rd:XV->List XV->Sto->RX->Prop):Prop:=∀(h o:List Addr) (H:Hp) (S:Sto) (x:XV) (v:V) (xs:List XV) (vs:List V) (R:RX) (Q:VK),RepS h o H S->HasX h o H x v->HasXs h o H xs vs->rd x xs S R->Cn h o H R Q->r v vs H Q
theorem Cu{K:cq}{H:Hp}{a:Addr}{vs:List V}(e:H a=some (.lst vs)):tyV K "list" (.ref a) H:=.inl ⟨rfl,vs,.of e⟩
theorem Ag{h o:List Addr}{H:Hp}{S:Sto}{k:Nat}{v:V}(hs:RepS h o H S)(hk:k<S.length)(hx:HasX h o H (.l k) v):∃a vs,v=.ref a/\H a=some (.lst vs):=by
 obtain⟨a,e,rfl⟩:=hx;obtain⟨vs,e2,_⟩:=hs.cont k a _ e (bn hk);exact⟨a,vs,rfl,e2⟩
theorem sD{K:cq}{r:V->List V->Hp->VK->Prop}{rd:XV->List XV->Sto->RX->Prop}{te:TE}{de:DE}{tl:TA}{dl:DA}(hr:RM r rd)(z:RE te de)(ha:RA tl dl):RE (tBM K "list" r te tl) (dBM rd de dl):=fun h o H δ σ S R Q he hs q c=>
 z h o H δ σ S _ _ he hs q fun o1 H1 S1 x v e1 s1 x1 ⟨k,ek,hk,d1⟩=>by
  subst ek;obtain⟨a,ws,rfl,ea⟩:=Ag s1 hk x1;exact⟨Cu ea,ha h o1 H1 δ σ S1 _ _ (he.mono e1) s1 d1 fun o2 H2 S2 xs vs e2 s2 x2 d2=>hr h o2 H2 S2 (.l k) _ xs vs R Q s2 (x1.mono e2) x2 d2 (c.pre (e1.trans e2))⟩
theorem HK{K:cq}{r:V->List V->Hp->VK->Prop}{rd:XV->List XV->Sto->RX->Prop}{te:TE}{de:DE}(hr:RM r rd)(z:RE te de):RE (BU K "list" r te) (gU rd de):=fun h o H δ σ S R Q he hs q c=>
 z h o H δ σ S _ _ he hs q fun o1 H1 S1 x v e1 s1 x1 ⟨k,ek,hk,d1⟩=>by
  subst ek;obtain⟨a,ws,rfl,ea⟩:=Ag s1 hk x1;exact⟨Cu ea,hr h o1 H1 S1 (.l k) _ [] [] R Q s1 x1 rfl d1 (c.pre e1)⟩
def d9:XV->List XV->Sto->RX->Prop:=fun x xs S R=>∃k,x=.l k/\∃ds,S[k]?=some ds/\arg1 xs fun y=>asD y fun d=>ds.length<1000/\R (.d .none) (S.set k (ds++[d]))
theorem LP:RM Fq d9:=fun h o H S x v xs vs R Q hs hx z q c=>by
 obtain⟨k,rfl,ds,e,q1⟩:=q;obtain⟨y,rfl,q2⟩:=dU q1;obtain⟨d,rfl,hl,q3⟩:=eE q2;obtain⟨a,ea,rfl⟩:=hx;obtain⟨u,rfl,hu⟩:=hxs1 z;obtain⟨ws,ew,l⟩:=hs.cont k a ds ea e;exact⟨a,ws,u,rfl,rfl,ew,by rw[l.length];exact small1000 (jn hl),c o _ _ (.d .none) _ (Ex.upd ea) (hs.upd ea (l.append (zp.mpr ⟨u,[],rfl,hu,zA.mpr rfl⟩))) xN q3⟩
def jR:XV->List XV->Sto->RX->Prop:=fun x xs S R=>∃k,x=.l k/\∃ds,S[k]?=some ds/\xs=[]/\R (.d .none) (S.set k ds.reverse)
theorem Jl:RM CV jR:=fun h o H S x v xs vs R Q hs hx z q c=>by
 obtain⟨k,rfl,ds,e,rfl,q1⟩:=q;obtain⟨a,ea,rfl⟩:=hx;obtain⟨ws,ew,l⟩:=hs.cont k a ds ea e;cases z;exact⟨a,ws,rfl,rfl,ew,c o _ _ (.d .none) _ (Ex.upd ea) (hs.upd ea l.rev) xN q1⟩
def gH:XV->List XV->Sto->RX->Prop:=fun x xs S R=>∃k,x=.l k/\∃ds,S[k]?=some ds/\arg1 xs fun y=>∃es,dZ S y=some es/\ds.length+es.length<=1000/\R (.d .none) (S.set k (ds++es))
theorem uT:RM Fy gH:=fun h o H S x v xs vs R Q hs hx z q c=>by
 obtain⟨k,rfl,ds,e,q1⟩:=q;obtain⟨y,rfl,es,ey,hl,q3⟩:=dU q1;obtain⟨a,ea,rfl⟩:=hx;obtain⟨u,rfl,hu⟩:=hxs1 z;obtain⟨ws,ew,l⟩:=hs.cont k a ds ea e;obtain⟨b,zs,rfl,eb,lb⟩:=cG hs ey hu;exact⟨a,b,ws,zs,rfl,rfl,ew,eb,by rw[l.length,lb.length];exact jn (small1000 hl),c o _ _ (.d .none) _ (Ex.upd ea) (hs.upd ea (l.append lb)) xN q3⟩
def ret0(S:Sto)(R:RX):RX:=fun y S'=>match y,S' with
 | .d d,[]=>R (.d d) S
 | .l 0,[ds]=>R (.l S.length) (S++[ds])
 |_,_=>False
def uV(k:Nat)(S:Sto)(R:RX):RX:=fun y S'=>match y,S' with
 | .d d,[p]=>R (.d d) (S.set k p)
 | .l 1,[p,ds]=>R (.l S.length) (S.set k p++[ds])
 |_,_=>False
section
variable {h o:List Addr}{H:Hp}{S:Sto}{R:RX}{Q:VK}
theorem jJ{h o h' o':List Addr}{H:Hp}(e:∀b,(b∈h'\/b∈o')↔(b∈h\/b∈o)):vx h' o' H=vx h o H:=by
 funext b;have q:∀u,vx h' o' H b=some u↔vx h o H b=some u:=fun u=>by
  rw[zN,zN];have:=e b;constructor
  ·rintro⟨a1,a2,a3⟩;exact⟨fun m=>(this.mpr (.inl m)).elim a1 a2,fun m=>(this.mpr (.inr m)).elim a1 a2,a3⟩
  ·rintro⟨a1,a2,a3⟩;exact⟨fun m=>(this.mp (.inl m)).elim a1 a2,fun m=>(this.mp (.inr m)).elim a1 a2,a3⟩
 cases e1:vx h' o' H b with
 |some u=>exact((q u).mp e1).symm
 |none=>
  cases e2:vx h o H b with
  |none=>rfl
  |some u=>rw[(q u).mpr e2]at e1;cases e1
theorem rep0(hs:RepS h o H S):RepS (h++o) [] H [] where
 len:=rfl
 nd:=ux
 dis:=fun a ha=>by cases ha
 hal:=fun b hb=>(mem_append.mp hb).elim (hs.hal b) (hs.oam b)
 cont:=fun k a ds e=>by simp at e
theorem hx0{d:bc}{v:V}(hx:HasX h o H (.d d) v):HasX (h++o) [] H (.d d) v:=by
 show Has (vx (h++o) [] H) d v;rw[jJ (h:=h) (o:=o) fun b=>by simp];exact hx
theorem hx0'{d:bc}{v:V}(hx:HasX (h++o) [] H (.d d) v):HasX h o H (.d d) v:=by
 show Has (vx h o H) d v;rw[<- jJ (h':=h++o) (o':=[]) (h:=h) (o:=o) fun b=>by simp];exact hx
theorem cn0(hs:RepS h o H S)(c:Cn h o H R Q):Cn (h++o) [] H (ret0 S R) Q:=fun o' H' S' y v e s' hy q=>by
 have sm:Same H (vx [] o' H'):=fun b u eb=>by
  obtain⟨a1,a2⟩:=e.kp b u yv eb;exact zN.mpr ⟨yv,a1,a2⟩
 have sH:Same H H':=fun b u eb=>(zN.mp (sm b u eb)).2.2;unfold ret0 at q;split at q
 ·have e0:o'=[]:=df s'.len.symm;subst e0;exact c o H' S _ v (Ex.of_same sH) (hs.same sH) (hx0' hy) q
 ·rename_i ds;obtain⟨a,rfl⟩:∃a,o'=[a]:=List.length_eq_one_iff.mp s'.len.symm;obtain⟨a',ea,rfl⟩:=hy;cases ea;obtain⟨vs,ev,l⟩:=s'.cont 0 a ds rfl rfl;have na:a∉h++o:=s'.dis a yv;have hn:H a=none:=by
   cases eh:H a with
   |none=>rfl
   |some u=>exact absurd (e.kp a u yv eh).1 yv
  have e2:Ex o H (o++[a]) H':=⟨⟨[a],rfl⟩,fun b u hb eb=>by
   obtain⟨a1,a2⟩:=e.kp b u yv eb;exact⟨by simp only[rc,not_or];exact⟨hb,a1⟩,a2⟩⟩
  have aa:vx (h++o) [a] H'=vx h (o++[a]) H':=jJ fun b=>by simp[or_assoc]
  rw[aa]at l;refine c (o++[a]) H' (S++[ds]) (.l S.length) _ e2 ⟨by simp[hs.len],mN hs.nd fun m=>na (cw _ m),fun b hb=>?_,fun b hb=>?_,fun k b es q1 q2=>?_⟩ ⟨a,by rw[hs.len,bw],rfl⟩ q
  ·rcases mem_append.mp hb with hb|hb
   ·exact hs.dis b hb
   ·rw[mem_singleton.mp hb];exact fun m=>na (cu _ m)
  ·obtain⟨u,eb⟩:=hs.hal b hb;exact⟨u,sH b _ eb⟩
  ·by_cases hk:k<o.length
   ·rw[fi hk]at q1;rw[fi (by rw[hs.len];exact hk)]at q2;obtain⟨ws,e3,l3⟩:=hs.cont k b es q1 q2;exact⟨ws,sH _ _ e3,l3.mono e2.vx⟩
   ·have z:k=o.length:=by
     obtain⟨q,_⟩:=List.getElem?_eq_some_iff.mp q1;rw[ck,fq]at q;omega
    subst z;rw[bw]at q1;rw[<- hs.len,bw]at q2;cases q1;cases q2;exact⟨vs,ev,l⟩
 ·exact q.elim
theorem t9{k:Nat}{a:Addr}{p:List bc}(hs:RepS h o H S)(ea:o[k]?=some a)(ep:S[k]?=some p):RepS (h++o.filter (fun b=>b≠a)) [a] H [p] where
 len:=rfl
 nd:=by simp
 dis:=fun b hb=>by
  rw[mem_singleton.mp hb];intro m;rcases mem_append.mp m with m|m
  ·exact hs.dis a (ci ea) m
  ·have:=(mem_filter.mp m).2;simp at this
 hal:=fun b hb=>(mem_append.mp hb).elim (hs.hal b) fun m=>hs.oam b (mem_filter.mp m).1
 cont:=fun j b ds e1 e2=>by
  cases j with
  |succ j=>simp at e1
  |zero=>
   cases e1;cases e2;obtain⟨vs,e3,l⟩:=hs.cont k a p ea ep;refine⟨vs,e3,?_⟩;rw[jJ (h:=h) (o:=o) (mem_pen ea)];exact l
where
 mem_pen {h o:List Addr}{k:Nat}{a:Addr} (ea:o[k]?=some a) (b:Addr):(b∈h++o.filter (fun b=>b≠a)\/b∈[a])↔(b∈h\/b∈o):=by
  have ma:=ci ea;by_cases e:b=a
  ·subst e;simp[ma]
  ·simp[e]
theorem hxP{k:Nat}{a:Addr}{d:bc}{v:V}(ea:o[k]?=some a)(hx:HasX h o H (.d d) v):HasX (h++o.filter (fun b=>b≠a)) [a] H (.d d) v:=by
 show Has (vx _ _ H) d v;rw[jJ (h:=h) (o:=o) (t9.mem_pen ea)];exact hx
theorem cnP{k:Nat}{a:Addr}{p:List bc}(hs:RepS h o H S)(ea:o[k]?=some a)(ep:S[k]?=some p)(c:Cn h o H R Q):Cn (h++o.filter (fun b=>b≠a)) [a] H (uV k S R) Q:=fun o' H' S' y v e s' hy q=>by
 have ma:=ci ea;have hk:k<o.length:=(List.getElem?_eq_some_iff.mp ea).1;unfold uV at q;split at q
 ·rename_i d p';obtain⟨r,rfl⟩:=e.pre;have er:r=[]:=by
   have:=s'.len;simp at this;exact this
  subst er;have ex:Ex o H o H':=⟨⟨[],yv⟩,fun b u hb eb=>⟨hb,(e.kp b u (fun m=>hb (by rw[mem_singleton.mp m];exact ma)) eb).2⟩⟩;obtain⟨vs,ev,l⟩:=s'.cont 0 a p' rfl rfl;have aa:vx (h++o.filter (fun b=>b≠a)) ([a]++[]) H'=vx h o H':=jJ (t9.mem_pen ea);rw[aa]at l;refine c o H' (S.set k p') (.d d) v ex ⟨by simp[hs.len],hs.nd,hs.dis,fun b hb=>?_,fun j b es q1 q2=>?_⟩ (by
   have ab:Has (vx (h++o.filter (fun b=>b≠a)) ([a]++[]) H') d v:=hy;rw[aa]at ab;exact ab) q
  ·obtain⟨u,eb⟩:=hs.hal b hb;exact⟨u,(e.kp b _ (fun m=>hs.dis a ma (by rw[<- mem_singleton.mp m];exact hb)) eb).2⟩
  ·by_cases hj:j=k
   ·subst hj;rw[q1]at ea;cases ea;rw[qe (by rw[hs.len];exact hk)]at q2;cases q2;exact⟨vs,ev,l⟩
   ·rw[rk (gq hj)]at q2;obtain⟨ws,e3,l3⟩:=hs.cont j b es q1 q2;have ne:b≠a:=fun z=>hj (mU hs.nd q1 (z▸ea));exact⟨ws,(e.kp b _ (by simp[ne]) e3).2,l3.mono ex.vx⟩
 ·rename_i p' ds;obtain⟨r,rfl⟩:=e.pre;obtain⟨a2,rfl⟩:∃a2,r=[a2]:=by
   have:=s'.len;simp at this;exact List.length_eq_one_iff.mp this
  obtain⟨b2,ae,rfl⟩:=hy;cases ae;obtain⟨vs,ev,l⟩:=s'.cont 0 a p' rfl rfl;obtain⟨ag,af,l2⟩:=s'.cont 1 a2 ds rfl rfl;have n2:a2∉h++o.filter (fun b=>b≠a):=s'.dis a2 yv;have n3:a≠a2:=by
   have:=s'.nd;simp at this;exact this
  have n4:a2∉o:=fun m=>n2 (cw _ (mem_filter.mpr ⟨m,by simp[gq n3]⟩));have ex:Ex o H (o++[a2]) H':=⟨⟨[a2],rfl⟩,fun b u hb eb=>by
   obtain⟨z1,z2⟩:=e.kp b u (fun m=>hb (by rw[mem_singleton.mp m];exact ma)) eb;refine⟨?_,z2⟩;simp only[rc,not_or];exact⟨hb,fun m=>z1 (by simp at m ⊢;exact .inr m)⟩⟩
  have aa:vx (h++o.filter (fun b=>b≠a)) ([a]++[a2]) H'=vx h (o++[a2]) H':=jJ fun b=>by
   have:=t9.mem_pen (h:=h) ea b;simp only[rc]at this ⊢;rw[<- or_assoc,this,or_assoc]
  rw[aa]at l l2;refine c (o++[a2]) H' (S.set k p'++[ds]) (.l S.length) _ ex ⟨by simp[hs.len],mN hs.nd n4,fun b hb=>?_,fun b hb=>?_,fun j b es q1 q2=>?_⟩ ⟨a2,by rw[hs.len,bw],rfl⟩ q
  ·rcases mem_append.mp hb with hb|hb
   ·exact hs.dis b hb
   ·rw[mem_singleton.mp hb];exact fun m=>n2 (cu _ m)
  ·obtain⟨u,eb⟩:=hs.hal b hb;exact⟨u,(e.kp b _ (fun m=>hs.dis a ma (by rw[<- mem_singleton.mp m];exact hb)) eb).2⟩
  ·by_cases hjo:j<o.length
   ·rw[fi hjo]at q1;rw[fi (by rw[length_set,hs.len];exact hjo)]at q2;by_cases hj:j=k
    ·subst hj;rw[q1]at ea;cases ea;rw[qe (by rw[hs.len];exact hk)]at q2;cases q2;exact⟨vs,ev,l⟩
    ·rw[rk (gq hj)]at q2;obtain⟨ws,e3,l3⟩:=hs.cont j b es q1 q2;have ne:b≠a:=fun z=>hj (mU hs.nd q1 (z▸ea));exact⟨ws,(e.kp b _ (by simp[ne]) e3).2,l3.mono ex.vx⟩
   ·have ac:j=o.length:=by
     obtain⟨q,_⟩:=List.getElem?_eq_some_iff.mp q1;rw[ck,fq]at q;omega
    subst ac;rw[bw]at q1;rw[<- hs.len,<- length_set (i:=k) (a:=p'),bw]at q2;cases q1;cases q2;exact⟨ag,af,l2⟩
 ·exact q.elim
end
structure DEnds where
 nx:XE->Sto->Prop
 rt:RX
 bk:XE->Sto->Prop:=fun _ _=>False
 ct:XE->Sto->Prop:=fun _ _=>False
abbrev DS:=DEnds->XE->Sto->Prop
abbrev DG:=XV->XE->Sto->(XE->Sto->Prop)->Prop
abbrev DGs:=List bc->XE->Sto->(XE->Sto->Prop)->Prop
def Nx(h o:List Addr)(H:Hp)(N:XE->Sto->Prop)(M:St->Hp->Prop):Prop:=∀o' H' δ' S' σ',Ex o H o' H'->RepE h o' H' δ' σ'->RepS h o' H' S'->N δ' S'->M σ' H'
theorem Nx.pre{h o o':List Addr}{H H':Hp}{N:XE->Sto->Prop}{M:St->Hp->Prop}(c:Nx h o H N M)(e:Ex o H o' H'):Nx h o' H' N M:=fun o2 H2 δ2 S2 σ2 e2=>c o2 H2 δ2 S2 σ2 (e.trans e2)
structure EOk(h o:List Addr)(H:Hp)(E:DEnds)(D:Ends):Prop where
 nx:Nx h o H E.nx D.nx
 rt:Cn h o H E.rt D.rt
 bk:Nx h o H E.bk D.bk
 ct:Nx h o H E.ct D.ct
theorem EOk.pre{h o o':List Addr}{H H':Hp}{E:DEnds}{D:Ends}(c:EOk h o H E D)(e:Ex o H o' H'):EOk h o' H' E D:=⟨c.nx.pre e,c.rt.pre e,c.bk.pre e,c.ct.pre e⟩
def RS(t:TS)(dt:DS):Prop:=∀(h o:List Addr) (H:Hp) (δ:XE) (σ:St) (S:Sto) (E:DEnds) (D:Ends),RepE h o H δ σ->RepS h o H S->dt E δ S->EOk h o H E D->t D σ H
def RG(t:TG)(dt:DG):Prop:=∀(h o:List Addr) (H:Hp) (δ:XE) (σ:St) (S:Sto) (x:XV) (v:V) (N:XE->Sto->Prop) (M:St->Hp->Prop),RepE h o H δ σ->RepS h o H S->HasX h o H x v->dt x δ S N->Nx h o H N M->t v σ H M
def RGs(t:TGs)(dt:DGs):Prop:=∀(h o:List Addr) (H:Hp) (δ:XE) (σ:St) (S:Sto) (ds:List bc) (vs:List V) (N:XE->Sto->Prop) (M:St->Hp->Prop),RepE h o H δ σ->RepS h o H S->HasL (vx h o H) ds vs->dt ds δ S N->Nx h o H N M->t vs σ H M
def zm(i:Nat):DG:=fun x δ S N=>N (δ.set i (some x)) S
def dL:DGs:=fun ds δ S N=>ds=[]/\N δ S
def hdD:List bc->(bc->List bc->Prop)->Prop
 |d::es,k=>k d es
 | [],_=>False
theorem Hs{ds:List bc}{k:bc->List bc->Prop}(h:hdD ds k):∃d es,ds=d::es/\k d es:=by
 cases ds with
 |nil=>exact h.elim
 |cons d es=>exact⟨d,es,rfl,h⟩
theorem pC{d:bc}{es:List bc}{k:bc->List bc->Prop}:hdD (d::es) k=k d es:=rfl
def bQ(g:DG)(r:DGs):DGs:=fun ds δ S N=>hdD ds fun d es=>g (.d d) δ S fun δ' S'=>r es δ' S' N
def dG(n:Nat)(r:DGs):DG:=fun x δ S N=>asT x fun ds=>ds.length=n/\r ds δ S N
def hV(a b:DE):DG:=fun x δ S N=>a δ S fun y S1=>b δ S1 fun z S2=>asD x fun d=>∃k,y=.l k/\∃ds,S2[k]?=some ds/\asI z fun i=>∃j,ixN ds.length i=some j/\N δ (S2.set k (ds.set j d))
theorem zB{i:Nat}:RG (jO i) (zm i):=fun h o H δ σ S x v N M he hs hx q c=>c o H _ S _ Ex.refl (he.set hx) hs q
theorem tS:RGs Ey dL:=fun h o H δ σ S ds vs N M he hs l ⟨e,q⟩ c=>by
 subst e;exact⟨zA.mp l,c o H δ S σ Ex.refl he hs q⟩
theorem lH{t:TG}{u:TGs}{g:DG}{r:DGs}(h1:RG t g)(h2:RGs u r):RGs (DJ t u) (bQ g r):=fun h o H δ σ S ds vs N M he hs l q0 c=>by
 obtain⟨d,es,rfl,q⟩:=Hs q0;obtain⟨v,ws,rfl,hv,l⟩:=zp.mp l;exact⟨v,ws,rfl,h1 h o H δ σ S (.d d) v _ _ he hs hv q fun o1 H1 δ1 S1 σ1 e1 aa z q1=>h2 h o1 H1 δ1 σ1 S1 es ws N M aa z (l.mono e1.vx) q1 (c.pre e1)⟩
theorem tL{K:cq}{n:Nat}{t:TGs}{r:DGs}(h1:RGs t r):RG (Ew K n t) (dG n r):=fun h o H δ σ S x v N M he hs hx q c=>by
 replace q:=rH q;obtain⟨ds,rfl,hn,q⟩:=q;obtain⟨a,vs,rfl,ea,l⟩:=gQ hx;exact⟨a,vs,rfl,.of ea,by rw[l.length];exact hn,h1 h o H δ σ S ds vs N M he hs l q c⟩
theorem HasL.setAt{H:Hp}:∀{ds:List bc}{vs:List V}{j:Nat}{d:bc}{v:V},HasL H ds vs->Has H d v->HasL H (ds.set j d) (vs.set j v)
 | [],vs,j,d,v,l,_=>by rw[zA.mp l];exact zA.mpr rfl
 |c::ds,vs,0,d,v,l,q=>by
  obtain⟨u,r,rfl,_,l⟩:=zp.mp l;exact zp.mpr ⟨v,r,rfl,q,l⟩
 |c::ds,vs,j+1,d,v,l,q=>by
  obtain⟨u,r,rfl,hu,l⟩:=zp.mp l;exact zp.mpr ⟨u,r.set j v,rfl,hu,HasL.setAt l q⟩
theorem La{ta tb:TE}{da db:DE}(ha:RE ta da)(hb:RE tb db):RG (FC ta tb Ao) (hV da db):=fun h o H δ σ S x v N M he hs hx q c=>
 ha h o H δ σ S _ _ he hs q fun o1 H1 S1 y u e1 s1 y1 d1=>hb h o1 H1 δ σ S1 _ _ (he.mono e1) s1 d1 fun o2 H2 S2 z w e2 s2 z2 d0=>by
  obtain⟨d,rfl,k,rfl,ds,es,d2⟩:=eE d0;replace d2:=bT d2;obtain⟨i,rfl,j,ej,d2⟩:=d2;obtain⟨a,ea,rfl⟩:=y1.mono e2;obtain⟨ws,ew,l⟩:=s2.cont k a ds ea es;refine⟨a,ws,i,j,rfl,bU z2,ew,by rw[l.length];exact ej,?_⟩;exact c o2 _ δ _ σ ((e1.trans e2).trans (Ex.upd ea)) (((he.mono e1).mono e2).mono (Ex.upd ea)) (s2.upd ea (l.setAt (hx.mono (e1.trans e2)))) d2
def aH:DS:=fun E δ S=>E.nx δ S
def aA(t u:DS):DS:=fun E δ S=>t { E with nx:=u E } δ S
def aB(e:DE)(g:DG):DS:=fun E δ S=>e δ S fun x S1=>g x δ S1 E.nx
def cM(e:DE):DS:=fun E δ S=>e δ S fun _ S1=>E.nx δ S1
def aC(e:DE):DS:=fun E δ S=>e δ S E.rt
def aI(c:DT)(t u:DS):DS:=fun E δ S=>c δ S fun b S1=>if b=true then t E δ S1 else u E δ S1
section
variable {t u:TS}{dt du:DS}{te:TE}{de:DE}
theorem eU:RS wO aH:=fun h o H δ σ S E D he hs q c=>c.nx o H δ S σ Ex.refl he hs q
theorem zG(ht:RS t dt)(hu:RS u du):RS (cH t u) (aA dt du):=fun h o H δ σ S E D he hs q c=>
 ht h o H δ σ S _ _ he hs q ⟨fun o1 H1 δ1 S1 σ1 e1 aa z q1=>hu h o1 H1 δ1 σ1 S1 E D aa z q1 (c.pre e1),c.rt,c.bk,c.ct⟩
theorem cL{g:TG}{dg:DG}(z:RE te de)(hg:RG g dg):RS (jV te g) (aB de dg):=fun h o H δ σ S E D he hs q c=>
 z h o H δ σ S _ _ he hs q fun o1 H1 S1 x v e1 s1 x1 d1=>hg h o1 H1 δ σ S1 x v _ _ (he.mono e1) s1 x1 d1 (c.nx.pre e1)
theorem qD(z:RE te de):RS (yD te) (cM de):=fun h o H δ σ S E D he hs q c=>
 z h o H δ σ S _ _ he hs q fun o1 H1 S1 x v e1 s1 x1 d1=>c.nx o1 H1 δ S1 σ e1 (he.mono e1) s1 d1
theorem bL(z:RE te de):RS (qH te) (aC de):=fun h o H δ σ S E D he hs q c=>z h o H δ σ S _ _ he hs q c.rt
theorem eG{tc:TT}{dc:DT}(hc:RT tc dc)(ht:RS t dt)(hu:RS u du):RS (tR tc t u) (aI dc dt du):=fun h o H δ σ S E D he hs q c=>
 hc h o H δ σ S _ _ he hs q fun o1 H1 S1 b e1 s1 d1=>by
  cases b with
  |true=>exact fO (ht h o1 H1 δ σ S1 E D (he.mono e1) s1 (by simpa using d1) (c.pre e1))
  |false=>exact fK (hu h o1 H1 δ σ S1 E D (he.mono e1) s1 (by simpa using d1) (c.pre e1))
def frz(n:Nat)(ds:List bc):Option XV->Option XV
 |some (.l k)=>if k=n then some (.d (.list ds))else some (.l k)
 |some (.p k d)=>if k=n then some (.d (.tuple [.list ds,d]))else some (.p k d)
 |y=>y
end
abbrev DI:=XE->Sto->(List bc->Sto->Prop)->Prop
structure WalkX(h o:List Addr)(H:Hp)(J:It)(ds:List bc):Prop where
 stop:∀(i:Nat) o2 H2,ExH h o H o2 H2->ds.length<=i->J.stop i H2
 go:∀(i:Nat) d o2 H2,ExH h o H o2 H2->ds[i]?=some d->J.go i H2
 yld:∀(i:Nat) d o2 H2 x H3 S2,ExH h o H o2 H2->RepS h o2 H2 S2->ds[i]?=some d->J.yld i H2 x H3->Same H2 H3/\Has (vx h o2 H3) d x
def RI(w:TI)(di:DI):Prop:=∀(h o:List Addr) (H:Hp) (δ:XE) (σ:St) (S:Sto) (R:List bc->Sto->Prop) (Q:It->Hp->Prop),RepE h o H δ σ->RepS h o H S->di δ S R ->
 (∀o' H' S' ds J,Ex o H o' H'->RepS h o' H' S'->WalkX h o' H' J ds->R ds S'->Q J H')->w σ H Q
theorem ET{h o:List Addr}{H:Hp}{lo:Int}{n:Nat}:WalkX h o H (Itr lo n) (eK lo n) where
 stop:=fun i _ _ _ hi=>by rw[fR]at hi;exact hi
 go:=fun i d _ _ _ hi=>(gO hi).1
 yld:=fun i d o2 H2 x H3 S2 _ _ hi y=>by
  obtain⟨e,ex⟩:=y;subst e ex;rw[(gO hi).2];exact⟨Same.refl _,eY.mpr rfl⟩
def jT(g:DG)(b:DS):List bc->DS
 | [],E,δ,S=>E.nx δ S
 |d::ds,E,δ,S=>g (.d d) δ S fun δ1 S1=>b { nx:=fun δ2 S2=>jT g b ds E δ2 S2,ct:=fun δ2 S2=>jT g b ds E δ2 S2,bk:=E.nx,rt:=E.rt } δ1 S1
def b9(i:DI)(g:DG)(b:DS):DS:=fun E δ S=>i δ S fun ds S1=>jT g b ds E δ S1
theorem v6{wi:TI}{g:TG}{tb:TS}{di:DI}{dg:DG}{db:DS}(hi:RI wi di)(hg:RG g dg)(hb:RS tb db):RS (lO wi g tb) (b9 di dg db):=fun h o H δ σ S E D he hs q c=>
 hi h o H δ σ S _ _ he hs q fun o1 H1 S1 ds J e1 s1 wk d1=>by
  refine⟨fun i m σ2 H2=>m=ds.length-i/\i<=ds.length/\∃o2 δ2 S2,Ex o1 H1 o2 H2/\RepE h o2 H2 δ2 σ2/\RepS h o2 H2 S2/\jT dg db (ds.drop i) E δ2 S2,⟨ds.length,yv,lh _,o1,δ,S1,Ex.refl,he.mono e1,s1,d1⟩,?_⟩;rintro i m σ2 H2 ⟨rfl,hi,o2,δ2,S2,e2,ae,ac,d2⟩;by_cases hlt:i<ds.length
  ·have ed:ds[i]?=some ds[i]:=bn hlt;rw[mf hlt]at d2;refine .inr ⟨wk.go i _ o2 H2 e2.hid ed,fun σ3 H3=>∃o3 δ3 S3,Ex o1 H1 o3 H3/\RepE h o3 H3 δ3 σ3/\RepS h o3 H3 S3/\jT dg db (ds.drop (i+1)) E δ3 S3,fun σ3 H3 n=>⟨ds.length-(i+1),yw,rfl,hlt,n⟩,fun x H3 y=>?_⟩;obtain⟨s3,hx⟩:=wk.yld i _ o2 H2 x H3 S2 e2.hid ac ed y;have af:Ex o2 H2 o2 H3:=Ex.of_same s3;refine hg h o2 H3 δ2 σ2 S2 (.d ds[i]) x _ _ (ae.mono af) (ac.same s3) hx d2 fun o4 H4 δ4 S4 σ4 e4 ag ah d4=>?_;have z:Ex o1 H1 o4 H4:=(e2.trans af).trans e4;have ce:=(c.pre e1).pre z;exact hb h o4 H4 δ4 σ4 S4 _ _ ag ah d4 ⟨fun o5 H5 δ5 S5 σ5 e5 ab aa d5=>⟨o5,δ5,S5,z.trans e5,ab,aa,d5⟩,ce.rt,ce.nx,fun o5 H5 δ5 S5 σ5 e5 ab aa d5=>⟨o5,δ5,S5,z.trans e5,ab,aa,d5⟩⟩
  ·have ei:i=ds.length:=yw
   subst ei;rw[drop_length]at d2;exact .inl ⟨wk.stop _ o2 H2 e2.hid (dh _),c.nx o2 H2 δ2 S2 σ2 (e1.trans e2) ae ac d2⟩
def vP(cd:DT)(b:DS):DS:=fun E δ S=>∃W:Nat->XE->Sto->Prop,(∃m,W m δ S)/\∀m δ S,W m δ S ->
 cd δ S fun x S1=>if x=true then ∃N:XE->Sto->Prop,(∀ δ' S',N δ' S'->∃m',m'<m/\W m' δ' S')/\b { nx:=N,ct:=N,bk:=E.nx,rt:=E.rt } δ S1 else E.nx δ S1
theorem uE{tc:TT}{tb:TS}{dc:DT}{db:DS}(hc:RT tc dc)(hb:RS tb db):RS (CK tc tb) (vP dc db):=fun h o H δ σ S E D he hs ⟨W,⟨m0,w0⟩,q⟩ c=>by
 refine⟨fun m σ2 H2=>∃o2 δ2 S2,Ex o H o2 H2/\RepE h o2 H2 δ2 σ2/\RepS h o2 H2 S2/\W m δ2 S2,⟨m0,o,δ,S,Ex.refl,he,hs,w0⟩,?_⟩;rintro m σ2 H2 ⟨o2,δ2,S2,e2,z,ag,w2⟩;refine hc h o2 H2 δ2 σ2 S2 _ _ z ag (q m δ2 S2 w2) fun o3 H3 S3 b e3 s3 d3=>?_;cases b with
 |false=>exact fK (c.nx o3 H3 δ2 S3 σ2 (e2.trans e3) (z.mono e3) s3 (by simpa using d3))
 |true=>
  refine fO ?_;obtain⟨N,n1,d3⟩:∃N:XE->Sto->Prop,(∀ δ' S',N δ' S'->∃m',m'<m/\W m' δ' S')/\db { nx:=N,ct:=N,bk:=E.nx,rt:=E.rt } δ2 S3:=by simpa using d3
  have ab:=e2.trans e3;have ce:=c.pre ab;refine⟨fun σ4 H4=>∃o4 δ4 S4,Ex o H o4 H4/\RepE h o4 H4 δ4 σ4/\RepS h o4 H4 S4/\N δ4 S4,fun σ4 H4 ⟨o4,δ4,S4,e4,ae,af,n4⟩=>?_,?_⟩
  ·obtain⟨m',hm,w'⟩:=n1 δ4 S4 n4;exact⟨m',hm,o4,δ4,S4,e4,ae,af,w'⟩
  ·exact hb h o3 H3 δ2 σ2 S3 _ _ (z.mono e3) s3 d3 ⟨fun o5 H5 δ5 S5 σ5 e5 ac aa d5=>⟨o5,δ5,S5,ab.trans e5,ac,aa,d5⟩,ce.rt,ce.nx,fun o5 H5 δ5 S5 σ5 e5 ac aa d5=>⟨o5,δ5,S5,ab.trans e5,ac,aa,d5⟩⟩
def aG:DT:=fun _ S R=>R true S
theorem bN:RT ER aG:=fun h o H δ σ S R Q he hs q c=>c o H S true Ex.refl hs q
def aX(n:Nat)(g:DG)(tt:DT)(te:DE)(fin:Sto->Prop):List bc->XE->Sto->Prop
 | [],_,S=>fin S
 |d::ds,τ,S=>g (.d d) τ S fun τ1 S1=>tt τ1 S1 fun b S2=>if b=true then te τ1 S2 fun x S3=>asD x fun e=>∃acc,S3[n]?=some acc/\acc.length<1000/\aX n g tt te fin ds τ1 (S3.set n (acc++[e]))else aX n g tt te fin ds τ1 S2
def f6(caps:List (Option Nat))(i:DI)(g:DG)(tt:DT)(te:DE):DE:=fun δ S R=>i δ S fun ds S1=>aX S1.length g tt te (fun S2=>R (.l S1.length) S2) ds (eV caps δ) (S1++[[]])
def bC(caps:List (Option Nat))(i:DI)(g:DG)(tt:DT)(te:DE):DE:=fun δ S R=>i δ S fun ds S1=>aX S1.length g tt te (fun S2=>∃S0 acc,S2=S0++[acc]/\S0.length=S1.length/\R (.d (.list acc)) S0) ds (eV caps δ) (S1++[[]])
theorem RepS.pop{h o r:List Addr}{H:Hp}{S0 T:Sto}(hs:RepS h (o++r) H (S0++T))(hl:S0.length=o.length):RepS h o H S0 where
 len:=hl
 nd:=(nodup_append.mp hs.nd).1
 dis:=fun a ha=>hs.dis a (cu _ ha)
 hal:=hs.hal
 cont:=fun k a ds e1 e2=>by
  obtain⟨vs,e3,l⟩:=hs.cont k a ds (fZ e1) (fZ e2);exact⟨vs,e3,l.mono fun b u e=>by
   obtain⟨z1,z2,z3⟩:=zN.mp e;exact zN.mpr ⟨z1,fun m=>z2 (cu _ m),z3⟩⟩
theorem c9{h o r:List Addr}{H:Hp}:Same (vx h (o++r) H) (vx h o H):=fun b u e=>by
 obtain⟨z1,z2,z3⟩:=zN.mp e;exact zN.mpr ⟨z1,fun m=>z2 (cu _ m),z3⟩
theorem Ex.pop{o o' r:List Addr}{H H':Hp}(e:Ex o H (o++r) H'):Ex o H o H':=⟨⟨[],yv⟩,fun b u hb eb=>⟨hb,(e.kp b u hb eb).2⟩⟩
theorem BO{caps:List (Option Nat)}{wi:TI}{g:TG}{tt:TT}{te:TE}{di:DI}{dg:DG}{ae:DT}{ab:DE}(hi:RI wi di)(hg:RG g dg)(ht:RT tt ae)(aj:RE te ab)
  {h o:List Addr}{H:Hp}{δ:XE}{σ:St}{S:Sto}{Q:VK}{fin:Nat->Sto->Prop} (he:RepE h o H δ σ) (hs:RepS h o H S) (q:di δ S fun ds S1=>aX S1.length dg ae ab (fin S1.length) ds (eV caps δ) (S1++[[]]))
  (c:∀o1 H1 D o2 H2 S2,Ex o H o1 H1->H1 D=none->Ex (o1++[D]) (upd H1 D (.lst [])) o2 H2->RepS h o2 H2 S2->fin o1.length S2->Q (.ref D) H2):l7 caps wi g tt te σ H Q:=by
 refine hi h o H δ σ S _ _ he hs q fun o1 H1 S1 ds J e1 s1 wk d1 D hD=>?_;have eN:Ex o1 H1 (o1++[D]) (upd H1 D (.lst [])):=Ex.new s1 hD;have sN:RepS h (o1++[D]) (upd H1 D (.lst [])) (S1++[[]]):=s1.new hD (zA.mpr rfl);have hn:S1.length=o1.length:=s1.len;refine⟨fun i m τ H2=>m=ds.length-i/\i<=ds.length/\∃o2 δ2 S2,Ex (o1++[D]) (upd H1 D (.lst [])) o2 H2/\RepE h o2 H2 δ2 τ/\RepS h o2 H2 S2/\aX S1.length dg ae ab (fin S1.length) (ds.drop i) δ2 S2,⟨ds.length,yv,lh _,_,_,_,Ex.refl,((he.mono e1).mono eN).tau,sN,d1⟩,?_⟩;rintro i m τ H2 ⟨rfl,hi,o2,δ2,S2,e2,ai,ac,d2⟩;by_cases hlt:i<ds.length
 ·have ed:ds[i]?=some ds[i]:=bn hlt;rw[mf hlt]at d2;refine .inr ⟨wk.go i _ o2 H2 (eN.trans e2).hid ed,fun x H3 y=>?_⟩;obtain⟨s3,hx⟩:=wk.yld i _ o2 H2 x H3 S2 (eN.trans e2).hid ac ed y;have ag:Ex o2 H2 o2 H3:=Ex.of_same s3;refine hg h o2 H3 δ2 τ S2 (.d ds[i]) x _ _ (ai.mono ag) (ac.same s3) hx d2 fun o4 H4 δ4 S4 τ4 e4 aa ak d4=>?_;refine ht h o4 H4 δ4 τ4 S4 _ _ aa ak d4 fun o5 H5 S5 b e5 s5 d5=>?_;have ah:=((e2.trans ag).trans e4).trans e5;cases b with
  |false=>exact fK ⟨ds.length-(i+1),yw,rfl,hlt,o5,δ4,S5,ah,aa.mono e5,s5,by simpa using d5⟩
  |true=>
   refine fO (aj h o5 H5 δ4 τ4 S5 _ _ (aa.mono e5) s5 (by simpa using d5) fun o6 H6 S6 z v e6 s6 z6 d6=>?_);replace d6:=eE d6;obtain⟨e,rfl,acc,ea,hl,d6⟩:=d6;have af:=ah.trans e6;have eD:o6[S1.length]?=some D:=by
    obtain⟨r,rfl⟩:=af.pre;rw[hn];exact fZ (by rw[bw])
   obtain⟨vs,ev,l⟩:=s6.cont _ D acc eD ea;refine⟨vs,ev,by rw[l.length];exact small1000 (jn hl),ds.length-(i+1),yw,rfl,hlt,o6,δ4,_,af.trans (Ex.upd eD),((aa.mono e5).mono e6).mono (Ex.upd eD),s6.upd eD (l.append (zp.mpr ⟨v,[],rfl,z6,zA.mpr rfl⟩)),d6⟩
 ·have ei:i=ds.length:=yw
  subst ei;rw[drop_length]at d2;exact .inl ⟨wk.stop _ o2 H2 (eN.trans e2).hid (dh _),c o1 H1 D o2 H2 S2 e1 hD e2 ac (hn▸d2)⟩
theorem vU{caps:List (Option Nat)}{wi:TI}{g:TG}{tt:TT}{te:TE}{di:DI}{dg:DG}{aa:DT}{z:DE}(hi:RI wi di)(hg:RG g dg)(ht:RT tt aa)(ab:RE te z):RE (l7 caps wi g tt te) (f6 caps di dg aa z):=fun h o H δ σ S R Q he hs q c=>by
 refine BO (fin:=fun n S2=>R (.l n) S2) hi hg ht ab he hs q fun o1 H1 D o2 H2 S2 e1 hD e2 s2 f=>?_;have eN:Ex o1 H1 (o1++[D]) (upd H1 D (.lst [])):=⟨⟨[D],rfl⟩,fun b w hb e=>by
  have ne:b≠D:=zJ e hD;exact⟨by simp[hb,ne],by rw[zC ne];exact e⟩⟩
 refine c o2 H2 S2 (.l o1.length) _ ((e1.trans eN).trans e2) s2 ⟨D,?_,rfl⟩ f;obtain⟨r,rfl⟩:=e2.pre;exact fZ (by rw[bw])
theorem bZ{caps:List (Option Nat)}{wi:TI}{g:TG}{tt:TT}{te:TE}{di:DI}{dg:DG}{aa:DT}{z:DE}(hi:RI wi di)(hg:RG g dg)(ht:RT tt aa)(ac:RE te z):RE (l7 caps wi g tt te) (bC caps di dg aa z):=fun h o H δ σ S R Q he hs q c=>by
 refine BO (fin:=fun n S2=>∃(S0:Sto) (acc:List bc),S2=S0++[acc]/\S0.length=n/\R (.d (.list acc)) S0) hi hg ht ac he hs q fun o1 H1 D o2 H2 S2 e1 hD e2 s2 ⟨S0,acc,eS,hl,f⟩=>?_;subst eS;have eN:Ex o1 H1 (o1++[D]) (upd H1 D (.lst [])):=⟨⟨[D],rfl⟩,fun b w hb e=>by
  have ne:b≠D:=zJ e hD;exact⟨by simp[hb,ne],by rw[zC ne];exact e⟩⟩
 have ab:=eN.trans e2;obtain⟨r,rfl⟩:=e2.pre;have er:r=[]:=by
  have:=s2.len;simp only[ck,fq,hl]at this;exact df yw
 subst er;rw[jg]at s2 ab;have s0:RepS h o1 H2 S0:=s2.pop hl;refine c o1 H2 S0 (.d (.list acc)) _ (e1.trans (Ex.pop (o':=o1) ab)) s0 ?_ f;obtain⟨vs,ev,l⟩:=s2.cont o1.length D acc (by rw[bw]) (by rw[<- hl,bw]);have nD:D∉o1:=by
  have:=(nodup_append.mp s2.nd).2.2;intro m;exact this D m D yv rfl
 exact dA.mpr ⟨D,vs,rfl,zN.mpr ⟨s2.dis D yv,nD,ev⟩,l.mono c9⟩
def fin(n:Nat)(R:RX):RX:=fun y S'=>match y with
 | .l k=>if k<n then R (.l k) (S'.take n)else ∃ds,S'[k]?=some ds/\(R (.d (.list ds)) (S'.take n)\/R (.l n) (S'.take n++[ds]))
 | .p k d=>n<=k/\∃ds,S'[k]?=some ds/\R (.p n d) (S'.take n++[ds])
 |y=>R y (S'.take n)
theorem GI{h o r:List Addr}{H H':Hp}{S S':Sto}{k:Nat}{a:Addr}{ds:List bc}(hs:RepS h o H S)(e:Ex o H (o++r) H')(s':RepS h (o++r) H' S')(hk:¬ k<S.length)(ea:(o++r)[k]?=some a)(ab:S'[k]?=some ds):
  Ex o H (o++[a]) H'/\Same (vx h (o++r) H') (vx h (o++[a]) H')/\RepS h (o++[a]) H' (S'.take S.length++[ds]):=by
 have eS:S'=S'.take S.length++S'.drop S.length:=(oy _ _).symm;have hl:(S'.take S.length).length=o.length:=by
  have:=s'.len;rw[ck]at this;rw[ku,this,hs.len];omega
 have s0:RepS h o H' (S'.take S.length):=by
  rw[eS]at s';exact s'.pop hl
 have e0:Ex o H o H':=Ex.pop (o':=o) e;obtain⟨vs,ev,l⟩:=s'.cont k a ds ea ab;have na:a∉o:=fun m=>by
  obtain⟨j,ej⟩:=mem_iff_getElem?.mp m;have hj:j<o.length:=(List.getElem?_eq_some_iff.mp ej).1;have:=mU s'.nd (fZ (t:=r) ej) ea;rw[hs.len]at hk;omega
 have nh:a∉h:=s'.dis a (ci ea);have hn:H a=none:=by
  cases eh:H a with
  |none=>rfl
  |some u=>exact absurd (ci ea) (e.kp a u na eh).1
 have e1:Ex o H (o++[a]) H':=⟨⟨[a],rfl⟩,fun b u hb eb=>⟨by simp only[rc,qi,not_or];exact⟨hb,zJ eb hn⟩,(e0.kp b u hb eb).2⟩⟩;have sub:Same (vx h (o++r) H') (vx h (o++[a]) H'):=fun b u eb=>by
  obtain⟨z1,z2,z3⟩:=zN.mp eb;refine zN.mpr ⟨z1,?_,z3⟩;simp only[rc,qi,not_or];exact⟨fun m=>z2 (cu _ m),fun z=>z2 (by rw[z];exact ci ea)⟩
 refine⟨e1,sub,⟨by rw[ck,ck,hl];rfl,mN hs.nd na,fun b hb=>?_,s0.hal,fun j b es q1 q2=>?_⟩⟩
 ·rcases mem_append.mp hb with hb|hb
  ·exact hs.dis b hb
  ·rw[mem_singleton.mp hb];exact nh
 ·by_cases hj:j<o.length
  ·rw[fi hj]at q1;rw[fi (by rw[hl];exact hj),List.getElem?_take_of_lt (by rw[hs.len];exact hj)]at q2;obtain⟨ws,e3,l3⟩:=s'.cont j b es (fZ q1) q2;exact⟨ws,e3,l3.mono sub⟩
  ·have aa:j=o.length:=by
    obtain⟨q,_⟩:=List.getElem?_eq_some_iff.mp q1;rw[ck,fq]at q;omega
   subst aa;rw[bw]at q1;rw[<- hl,bw]at q2;cases q1;cases q2;exact⟨vs,ev,l.mono sub⟩
theorem CS{h o:List Addr}{H:Hp}{S:Sto}{R:RX}{Q:VK}(hs:RepS h o H S)(c:Cn h o H R Q):Cn h o H (fin S.length R) Q:=fun o' H' S' y v e s' hy q=>by
 obtain⟨r,rfl⟩:=e.pre;have eS:S'=S'.take S.length++S'.drop S.length:=(oy _ _).symm;have hl:(S'.take S.length).length=o.length:=by
  have:=s'.len;rw[ck]at this;rw[ku,this,hs.len];omega
 have s0:RepS h o H' (S'.take S.length):=by
  rw[eS]at s';exact s'.pop hl
 have e0:Ex o H o H':=Ex.pop (o':=o) e;cases y with
 |d d=>exact c o H' _ (.d d) v e0 s0 (Has.mono c9 d v hy) q
 |o w=>exact c o H' _ (.o w) v e0 s0 hy q
 |x C fs=>exact c o H' _ (.x C fs) v e0 s0 (HasE.mono c9 hy) q
 |i C fs=>exact c o H' _ (.i C fs) v e0 s0 (HasI.mono c9 hy) q
 |p k d=>
  obtain⟨hk,ds,z,q⟩:=q;obtain⟨t,a,u,rfl,ea,et,hu⟩:=hy;obtain⟨e1,sub,s1⟩:=GI hs e s' yw ea z;exact c (o++[a]) H' _ (.p S.length d) _ e1 s1 ⟨t,a,u,rfl,by rw[hs.len,bw],sub _ _ et,Has.mono sub _ _ hu⟩ q
 |l k=>
  unfold fin at q;by_cases hk:k<S.length
  ·simp only[hk,↓reduceIte]at q;obtain⟨a,ea,rfl⟩:=hy;exact c o H' _ (.l k) _ e0 s0 ⟨a,by rw[fi (by rw[<- hs.len];exact hk)]at ea;exact ea,rfl⟩ q
  ·simp only[hk,↓reduceIte]at q;obtain⟨ds,z,q⟩:=q;obtain⟨a,ea,rfl⟩:=hy;obtain⟨vs,ev,l⟩:=s'.cont k a ds ea z;have na:a∉o:=fun m=>by
    obtain⟨j,ej⟩:=mem_iff_getElem?.mp m;have hj:j<o.length:=(List.getElem?_eq_some_iff.mp ej).1;have:=mU s'.nd (fZ (t:=r) ej) ea;rw[hs.len]at hk;omega
   have nh:a∉h:=s'.dis a (ci ea);rcases q with q|q
   ·exact c o H' _ (.d (.list ds)) _ e0 s0 (dA.mpr ⟨a,vs,rfl,zN.mpr ⟨nh,na,ev⟩,l.mono c9⟩) q
   ·obtain⟨e1,sub,s1⟩:=GI hs e s' hk ea z;exact c (o++[a]) H' _ (.l S.length) _ e1 s1 ⟨a,by rw[hs.len,bw],rfl⟩ q
def aJ(n:Nat)(R:RX):DEnds:={ nx:=fun _ S'=>fin n R (.d .none) S',rt:=fin n R }
theorem eok{h o:List Addr}{H:Hp}{S:Sto}{R:RX}{Q:VK}(hs:RepS h o H S)(c:Cn h o H R Q):EOk h o H (aJ S.length R) { nx:=fun _ H'=>Q .non H',rt:=Q } :=
 ⟨fun o' H' δ' S' σ' e he z q=>CS hs c o' H' S' _ _ e z xN q,CS hs c,fun _ _ _ _ _ _ _ _ q=>q.elim,fun _ _ _ _ _ _ _ _ q=>q.elim⟩
def aR(p:List bc):Prop:=∃l g s:Int,p=[.int l,.int g,.int s]/\0<=l
end
section
def GT(K:cq):List V->Hp->VK->Prop:=fun xs H Q=>∃(p:Addr) (ns:List Int),xs=[.ref p]/\SqL K H p (ns.map V.int)/\Q (.int ns.sum) H
def B8(K:cq):List V->Hp->VK->Prop:=fun xs H Q=>∃(p:Addr) (bs:List Bool),xs=[.ref p]/\SqL K H p (bs.map V.bl)/\Q (.bl (bs.all id)) H
theorem J7:jc "sum" = some (.builtin "sum"):=by decide +kernel
theorem jQ:jc "all" = some (.builtin "all"):=by decide +kernel
section
variable {X:Cx}
theorem MQ(hc:X.calm=true):CallR X (.builtin "sum") (GT X.K):=by
 intro zi s σ H xs us Q I r h;obtain⟨p,ns,rfl,hq,q⟩:=h;obtain⟨u,rfl,rx⟩:=vals1 r;cases (show u=dw p from rx);obtain⟨aa,rv,pl,_⟩:=I.list hq;obtain⟨ys,e,z⟩:=nX (jH rv);refine sum_intListG (I.ok.hd hc) (by rw[<- e];exact pl.isList) fun h' tk t' hk=>⟨.int ns.sum,H,I.kept (t':=tk) hk,⟨t',?_⟩,q⟩;have es:preSum (numAt ys) ys.size=ns.sum:=by
  rw[preSum_eq,z,List.take_of_length_le yv]
 rw[es]
theorem Dg:∀{bs:List Bool}{us:List bb}{i:Nat}{v:bb},Vals (bs.map V.bl) us->us[i]?=some v->∃b,bs[i]?=some b/\v=.bool b
 | [],_,i,v,.nil,e=>by simp at e
 |b::bs,_,0,v,.cons r _,e=>by
  rw[re]at e;cases e;exact⟨b,rfl,r⟩
 |b::bs,_,i+1,v,.cons _ t,e=>by
  obtain⟨c,e1,e2⟩:=Dg (i:=i) (v:=v) t (by simpa using e);exact⟨c,by simpa using e1,e2⟩
theorem JD(bs:List Bool):((fh bs.length).all fun i=>(bs[i]?).getD true)=bs.all id:=by
 rw[Bool.eq_iff_iff,ox,ox];constructor
 ·intro h b hb;obtain⟨i,hi⟩:=mem_iff_getElem?.mp hb;have hl:=(List.getElem?_eq_some_iff.mp hi).1;have:=h i (mem_range.mpr hl);rw[hi]at this;exact this
 ·intro h i hi;have hl:=mem_range.mp hi;rw[bn hl];exact h _ (nr hl)
theorem jF(hc:X.calm=true):CallR X (.builtin "all") (B8 X.K):=by
 intro zi s σ H xs us Q I r h;obtain⟨p,bs,rfl,hq,q⟩:=h;obtain⟨u,rfl,rx⟩:=vals1 r;cases (show u=dw p from rx);obtain⟨z,rv,pl,_⟩:=I.list hq;have hl:=pl.isList;have aa:p<s.heap.objs.size:=by
  obtain⟨_,e,_⟩:=hl;exact fj e
 refine call_all_walk (x:=dw p) (oo hl ?_);refine⟨s.heap.objs.size,[s.heap.objs.size,p],[s.heap.objs.size],z.toArray.size,_,_,fun i=>(bs[i]?).getD true,rfl,
  Walks.list (A:=X.A.in1) (I.ok.hd hc) _ p (ge aa) z.toArray,⟨⟨_,bv _ rfl,rfl,rfl⟩,hl.push _⟩,fun i v s' Q' E' hP hQ=>?_,fun h' tk hk=>?_⟩
 ·obtain⟨b,e,rfl⟩:=Dg (i:=i) (v:=v) rv (by simpa using hP);have ab:Q' b s':=by simpa[e]using hQ
  exact ji ab
 ·have hz:z.toArray.size=bs.length:=by
   have:=rv.length;rw[cg]at this;simp[this]
  rw[hz,JD];refine⟨.bl _,H,I.kept (t':=tk) fun b o e=>hk b o (fun hm=>?_) (bf _ e),rfl,q⟩;rw[mem_singleton.mp hm]at e;exact nj _ (fj e)
end
def jK:List XV->Sto->RX->Prop:=fun xs S R=>arg1 xs fun x=>∃ds,dZ S x=some ds/\∃ns:List Int,ds=ns.map bp/\R (.d (.int ns.sum)) S
theorem Bz{K:cq}:RC (GT K) jK:=fun h o H S xs vs R Q hs hx q c=>by
 obtain⟨x,rfl,ds,hd,ns,rfl,q1⟩:=dU q;obtain⟨v,rfl,z⟩:=hxs1 hx;obtain⟨a,ws,rfl,ea,l⟩:=cG hs hd z;rw[mT l]at ea;exact⟨a,ns,rfl,.of ea,c o H S _ _ Ex.refl hs (xI _) q1⟩
theorem CQ{H:Hp}:∀{ns:List Bool}{vs:List V},HasL H (ns.map vm) vs->vs=ns.map V.bl
 | [],vs,h=>zA.mp h
 |n::ns,vs,h=>by
  obtain⟨v,r,rfl,h1,h2⟩:=zp.mp h;rw[fE.mp h1,CQ h2];rfl
def d7:List XV->Sto->RX->Prop:=fun xs S R=>arg1 xs fun x=>∃ds,dZ S x=some ds/\∃ns:List Bool,ds=ns.map vm/\R (.d (.bool (ns.all id))) S
theorem iW{K:cq}:RC (B8 K) d7:=fun h o H S xs vs R Q hs hx q c=>by
 obtain⟨x,rfl,ds,hd,ns,rfl,q1⟩:=dU q;obtain⟨v,rfl,z⟩:=hxs1 hx;obtain⟨a,ws,rfl,ea,l⟩:=cG hs hd z;rw[CQ l]at ea;exact⟨a,ns,rfl,.of ea,c o H S _ _ Ex.refl hs (xB _) q1⟩
section
variable {S:Sto}{i:Int}{b:Bool}{z:Str}{ds:List bc}{d:bc}{k:Nat}{x y:XV}{R:RX}{c:String}{p:List bc}{n:Nat}{v:V}
theorem qU{K:Int->Prop}:asI (.d (.int i)) K=K i:=rfl
theorem nN{K:Bool->Prop}:asB (.d (.bool b)) K=K b:=rfl
theorem oE{K:Str->Prop}:asS (.d (.str z)) K=K z:=rfl
theorem nE{K:List bc->Prop}:asT (.d (.tuple ds)) K=K ds:=rfl
theorem rJ{K:bc->Prop}:asD (.d d) K=K d:=rfl
theorem rY:dZ S (.d (.list ds))=some ds:=rfl
theorem qL:asQ S (.d (.list ds))=some ds:=rfl
theorem rX:asQ S (.l k)=S[k]?:=rfl
theorem qC:cC S (.d d)=some d:=rfl
theorem nG:cC S (.l k)=(S[k]?).map .list:=rfl
theorem rK:ret0 S R (.d d) []=R (.d d) S:=rfl
theorem qF:ret0 S R (.l 0) [ds]=R (.l S.length) (S++[ds]):=rfl
theorem mQ:uV k S R (.d d) [p]=R (.d d) (S.set k p):=rfl
theorem o9:fin n R (.d d) S=R (.d d) (S.take n):=rfl
theorem oO:fin n R (.l k) S=if k<n then R (.l k) (S.take n)else ∃ds,S[k]?=some ds/\(R (.d (.list ds)) (S.take n)\/R (.l n) (S.take n++[ds])):=rfl
theorem oR{K:XV->Prop}:arg1 [x] K=K x:=rfl
theorem rW{K:XV->XV->Prop}:arg2 [x,y] K=K x y:=rfl
theorem pU{K:String->Prop}:AA (.o (.ty c)) K↔K c:=⟨fun⟨_,e,q⟩=>by cases e;exact q,fun q=>⟨c,rfl,q⟩⟩
theorem rF{K:Int->Prop}:AK (.d (.bool b)) K=K (if b then 1 else 0):=rfl
theorem oA{δ:XE}:(aJ n R).nx δ S=fin n R (.d .none) S:=rfl
theorem rS:(aJ n R).rt x S=fin n R x S:=rfl
theorem rT:datas []=some []:=rfl
theorem mP{r:List XV}:datas (.d d::r)=(datas r).map (d :: ·):=rfl
end
theorem sB{α:Type}{a:α}{l:List α}:atI (a::l) 0=some a:=hZ (j:=0) rfl
theorem pX{α:Type}{a b:α}{l:List α}:atI (a::b::l) 1=some b:=hZ (j:=1) rfl
theorem pE{α:Type}{a b c:α}{l:List α}:atI (a::b::c::l) 2=some c:=hZ (j:=2) rfl
def Shp(n:Nat)(d:bc):Prop:=d.canLay0=true/\d.depth<=n
theorem gP{n:Nat}{i:Int}:Shp n (.int i):=⟨rfl,lh _⟩
theorem wT{n:Nat}:∀{ds:List bc},(∀d∈ds,Shp n d)->jv ds=true/\ke ds<=n
 | [],_=>⟨by simp only[jv],by simp only[ke];exact lh _⟩
 |d::ds,h=>by
  obtain⟨h1,h2⟩:=h d cp;obtain⟨h3,h4⟩:=wT (ds:=ds) fun e m=>h e (bq _ m);simp only[jv,ke,h1,h3,um,true_and];omega
theorem v7{n:Nat}{ds:List bc}(h:∀d∈ds,Shp n d):Shp (n+1) (.list ds):=by
 obtain⟨h1,h2⟩:=wT h;exact⟨by simp only[lg];exact h1,by simp only[PyData.depth];omega⟩
theorem gL{n:Nat}{ds:List bc}(h:∀d∈ds,Shp n d):Shp (n+1) (.tuple ds):=by
 obtain⟨h1,h2⟩:=wT h;exact⟨by simp only[lg];exact h1,by simp only[PyData.depth];omega⟩
theorem uO{α:Type}{n:Nat}{f:α->bc}{l:List α}(h:∀x∈l,Shp n (f x)):∀d∈l.map f,Shp n d:=fun d m=>by
 obtain⟨x,hx,rfl⟩:=mem_map.mp m;exact h x hx
theorem Bq{n:Nat}{a b:bc}(h1:Shp n a)(h2:Shp n b):∀d∈[a,b],Shp n d:=by
 intro d m;simp only[ja,gt,or_false]at m;rcases m with rfl|rfl
 ·exact h1
 ·exact h2
theorem Shp.ok{n:Nat}{d:bc}(h:Shp n d)(hn:n<=64:=by decide):cv d=true:=by
 unfold cv;rw[h.1,fz (gm h.2 hn)];rfl
theorem cX{g:DG}{b:DS}{E:DEnds}:∀{ds:List bc}{δ:XE}{S:Sto} (I:Nat->XE->Sto->Prop),I 0 δ S ->
  (∀i d δ S (N:XE->Sto->Prop),ds[i]?=some d->I i δ S->(∀ δ' S',I (i+1) δ' S'->N δ' S')->g (.d d) δ S fun δ1 S1=>b { nx:=N,ct:=N,bk:=E.nx,rt:=E.rt } δ1 S1) ->
  (∀ δ S,I ds.length δ S->E.nx δ S)->jT g b ds E δ S
 | [],δ,S,I,h0,_,fin=>fin δ S h0
 |d::ds,δ,S,I,h0,step,fin=>by
  show g (.d d) δ S fun δ1 S1=>b _ δ1 S1;refine step 0 d δ S _ rfl h0 fun δ' S' h1=>?_;exact cX (ds:=ds) (fun i=>I (i+1)) h1 (fun i e δ S N hi=>step (i+1) e δ S N (by simpa using hi)) fin
theorem vB{α:Type}{l:List α}{a b:α}{n:Nat}(h:l.length=n):(l++[a]).set n b=l++[b]:=by
 subst h;rw[List.set_append_right _ _ (dh _),Nat.sub_self];rfl
theorem ME{H:Hp}:RepS [] [] H []:=⟨rfl,ux,fun _ h=>(nomatch h),fun _ h=>(nomatch h),fun _ _ _ e=>(by simp at e)⟩
theorem Ex.same_nil{o':List Addr}{H H':Hp}(e:Ex [] H o' H'):Same H H':=fun b u q=>(e.kp b u yv q).2
theorem MH{K:cq}{a:Addr}{ns:List Int}{N:Int}{j m:Nat}{tb:TS}{db:DS}{D:Ends}{σ:St}{H:Hp}(hb:RS tb db)(h0:σ[0]?=some (some (.ref a)))(hl:σ.length=m+1)(hS:SqL K H a (ns.map V.int))(z:ns.length<=63)
  (turn:∀n:Int,db { nx:=fun δ _=>δ[0]?=some (some (.o (.ref a)))/\δ.length=m+1,ct:=fun δ _=>δ[0]?=some (some (.o (.ref a)))/\δ.length=m+1,rt:=fun _ _=>False } ((some (.o (.ref a))::bh m none).set j (some (.d (.int n)))) [])
  (hj:j≠0) (done:∀(σ:St) (H1:Hp),Same H H1->D.nx σ H1):
  lO (xO K (tOp l0 (mO (gZ (tC2 (yR K) (b0 0) (tC (.int 0))) j7)) (tSl (qW K) (b0 0) (lY (tC (.int 1))) (lY (tC (.int N)))))) (jO j) tb D σ H:=by
 refine NZ (a:=a) (ns:=ns) (fun σ=>σ[0]?=some (some (.ref a))/\σ.length=m+1) h0 hS z ⟨h0,hl⟩ ?_ fun σ H1 _ s=>done σ H1 s;rintro n σ1 H1 H2 ⟨z0,z1⟩ s1 s2;refine hb [] [] H2 _ _ [] _ _ ⟨by simp[z1],fun i x e=>?_⟩ ME (turn n) ⟨?_,fun _ _ _ _ _ _ _ _ q=>q.elim,fun _ _ _ _ _ _ _ _ q=>q.elim,?_⟩
 ·rw[List.getElem?_set]at e ⊢;by_cases hij:j=i
  ·rw[cy hij]at e ⊢;by_cases hjl:j<m+1
   ·rw[cy (by simpa using hjl)]at e;rw[cy (by rw[z1];exact hjl)];cases e;exact⟨.int n,rfl,xI n⟩
   ·rw[cr (by simpa using hjl)]at e;cases e
  ·rw[cr hij]at e ⊢;cases i with
   |zero=>
    cases e;exact⟨.ref a,z0,rfl⟩
   |succ i=>
    rw[rf,List.getElem?_replicate]at e;split at e<;>cases e
 ·rintro o' H' δ' S' σ' e he hs ⟨q1,q2⟩;obtain⟨v,ev,hv⟩:=he.get 0 _ q1;cases hv;exact⟨s2.trans e.same_nil,ev,by rw[<- he.len];exact q2⟩
 ·rintro o' H' δ' S' σ' e he hs ⟨q1,q2⟩;obtain⟨v,ev,hv⟩:=he.get 0 _ q1;cases hv;exact⟨s2.trans e.same_nil,ev,by rw[<- he.len];exact q2⟩
end
section
theorem No{P:cz}{w:fy}{K:cq}{tg:Expr}(it:Addr)(lo:Int)(n:Nat):Turn P w K tg (Itr lo n) [it] it (fun i h=>IsLongIter h it (lo+(i:Nat)*1) ((n:Int)-(i:Nat)) 1) where
 mem:=by simp
 obj:=fun i h st b hb=>by
  have e:b=it:=by simpa using hb
  subst e;exact⟨_,st,fun v z=>by
   have z':Data.fields _=Data.cell v:=z;cases z'⟩
 keep:=fun i h h' st k=>k it yv _ st
 item:=by
  intro X hP hw hK hc i zi s σ H E I hf st hg;subst hP hw hK;obtain⟨f0,f1,f2,f3,f4,f5⟩:=hf it yv;have W:=Walks.longrange (prog:=X.prog) (w:=X.w) (I.ok.hd hc) it lo 1 n;refine W.item i s _ _ hg st fun v h' tk hv q kk=>?_;obtain⟨t,rfl⟩:=hv;have I1:Inv X zi σ H { s with heap:=h',toks:=tk }:=I.turned (fun b o hb e=>kk b o (by simpa using hb) e) f0 f1 f3 f4 f5;refine⟨_,rfl,tZ (s:={ s with heap:=h',toks:=tk }) (n:="longrange_iterator") q rfl rfl dz ⟨.int (lo+i),H,I1,⟨t,?_⟩,⟨rfl,rfl⟩,q,fun b hb=>(hf b hb).1⟩⟩;rw[Int.mul_one]
 done:=by
  intro X hP hw hK hc i zi s σ H E I hf st hg;subst hP hw hK;obtain⟨f0,f1,f2,f3,f4,f5⟩:=hf it yv;exact wpAny_pyNext_long_end (I.ok.hd hc) st (by have:n<=i:=hg;omega) fun h' eb=>⟨rfl,I.turned (t':=s.toks) (fun b o hb e=>eb b o hb e) f0 f1 f3 f4 f5⟩
 self:=fun _ _ _ _ _ st h=>wpAny_pyIter_longiter st h
section
variable {X:Cx}{tg:Expr}
theorem FA{zi:List (Addr×Obj)}{σ:St}{H:Hp}{s:bd}{R:It->Hp->Prop}{E:bb->bd->Prop}{lo hi:Int}{t u v:Tok}{tk:Nat}(I:Inv X zi σ H s)
  (q:R (Itr lo (hi-lo).toNat) H):bo (model X.prog X.w) X.A (pyIter (.ref s.heap.objs.size)) (PIE X zi σ tg R) E { s with heap:=s.heap.push { cls:=.type "range",data:=.fields #[.int lo t,.int hi u,.int 1 v] },toks:=tk }:=by
 have I1:Inv X zi σ H { s with heap:=s.heap.push { cls:=.type "range",data:=.fields #[.int lo t,.int hi u,.int 1 v] },toks:=tk }:=I.kept fun b o e=>bf _ e;have e1:lo+((0:Nat):Int)*1=lo:=by simp
 have e2:(((hi-lo).toNat:Nat):Int)-((0:Nat):Int)=mn lo hi 1:=by rw[rangeSize_one];split<;>omega
 cases hsm:Builtin.Range.small lo hi 1 with
 |true=>
  refine wpAny_pyIter_range (IsRange.new ..) hsm ?_;refine⟨(s.heap.push { cls:=.type "range",data:=.fields #[.int lo t,.int hi u,.int 1 v] }).objs.size,[(s.heap.push { cls:=.type "range",data:=.fields #[.int lo t,.int hi u,.int 1 v] }).objs.size],_,_,H,rfl,
   I1.kept (t':=tk) fun b o e=>bf _ e,JM _ lo (hi-lo).toNat,?_,fun b hb=>?_,q⟩
  ·show IsRangeIter _ _ (lo+((0:Nat):Int)*1) ((((hi-lo).toNat:Nat):Int)-((0:Nat):Int)) 1;rw[e1,e2];exact bv _ rfl
  ·have e:b=(s.heap.push { cls:=.type "range",data:=.fields #[.int lo t,.int hi u,.int 1 v] }).objs.size:=by simpa using hb
   subst e;exact I1.fpOk (dh _) (I1.hok.fresh (dh _))
 |false=>
  refine wpAny_pyIter_longrange (IsRange.new ..) hsm ?_;refine⟨(s.heap.push { cls:=.type "range",data:=.fields #[.int lo t,.int hi u,.int 1 v] }).objs.size,[(s.heap.push { cls:=.type "range",data:=.fields #[.int lo t,.int hi u,.int 1 v] }).objs.size],_,_,H,rfl,
   I1.kept (t':=tk) fun b o e=>bf _ e,No _ lo (hi-lo).toNat,?_,fun b hb=>?_,q⟩
  ·show IsLongIter _ _ (lo+((0:Nat):Int)*1) ((((hi-lo).toNat:Nat):Int)-((0:Nat):Int)) 1;rw[e1,e2];exact bv _ rfl
  ·have e:b=(s.heap.push { cls:=.type "range",data:=.fields #[.int lo t,.int hi u,.int 1 v] }).objs.size:=by simpa using hb
   subst e;exact I1.fpOk (dh _) (I1.hok.fresh (dh _))
def Fz(ta:TA):TI:=fun σ H R=>ta σ H fun vs H1=>∃j:Int,vs=[.int j]/\R (Itr 0 j.toNat) H1
def BE(ta:TA):TI:=fun σ H R=>ta σ H fun vs H1=>∃i j:Int,vs=[.int i,.int j]/\R (Itr i (j-i).toNat) H1
theorem fA{a:Expr}{ta:TA}{p pos:Pos}(hg:Gl X "range")(hm:X.mg "range" = none)(ha:PA X [a] ta)(hs:dq [a] X.env=[(false,eval a X.env)]:=by rfl):PI X tg (.Call (.Name "range" p) [a] [] pos) (Fz ta):=by
 intro zi s σ H R I h;refine Call_ (fI I hg hm boot_range (je (thn (ha pos zi s σ H _ I h) fun us s1 ⟨vs,H1,I1,r1,q1⟩=>?_) hs rfl));obtain⟨j,e,q⟩:=q1;subst e;cases r1 with
 |cons r rr=>
  cases rr;obtain⟨t,rfl⟩:=r;exact call_range_1 (FA I1 (by simpa using q))
theorem CL{a b:Expr}{ta:TA}{p pos:Pos}(hg:Gl X "range")(hm:X.mg "range" = none)(ha:PA X [a,b] ta)(hs:dq [a,b] X.env=[(false,eval a X.env),(false,eval b X.env)]:=by rfl)(z:dq [b] X.env=[(false,eval b X.env)]:=by rfl):
  PI X tg (.Call (.Name "range" p) [a,b] [] pos) (BE ta):=by
 intro zi s σ H R I h;refine Call_ (fI I hg hm boot_range (je (thn (ha pos zi s σ H _ I h) fun us s1 ⟨vs,H1,I1,r1,q1⟩=>?_) (by rw[hs,z]) (by rw[z];rfl)));obtain⟨i,j,e,q⟩:=q1;subst e;cases r1 with
 |cons r rr=>
  cases rr with
  |cons r' rr=>
   cases rr;obtain⟨t,rfl⟩:=r;obtain⟨t',rfl⟩:=r';exact call_range_2 (FA I1 q)
end
def cK(a:DA):DI:=fun δ S R=>a δ S fun xs S1=>arg1 xs fun x=>asI x fun j=>R (eK 0 j.toNat) S1
def iY(a:DA):DI:=fun δ S R=>a δ S fun xs S1=>arg2 xs fun x y=>asI x fun i=>asI y fun j=>R (eK i (j-i).toNat) S1
theorem hJ{ta:TA}{da:DA}(ha:RA ta da):RI (Fz ta) (cK da):=fun h o H δ σ S R Q he hs q c=>
 ha h o H δ σ S _ _ he hs q fun o1 H1 S1 xs vs e1 s1 x1 d0=>by
  obtain⟨x,rfl,d2⟩:=dU d0;obtain⟨j,rfl,d1⟩:=bT d2;obtain⟨v,rfl,hv⟩:=hxs1 x1;rw[bU hv];exact⟨j,rfl,c o1 H1 S1 _ _ e1 s1 ET d1⟩
theorem Fh{ta:TA}{da:DA}(ha:RA ta da):RI (BE ta) (iY da):=fun h o H δ σ S R Q he hs q c=>
 ha h o H δ σ S _ _ he hs q fun o1 H1 S1 xs vs e1 s1 x1 d0=>by
  obtain⟨x,y,rfl,d2⟩:=mY d0;obtain⟨i,rfl,d3⟩:=bT d2;obtain⟨j,rfl,d1⟩:=bT d3;obtain⟨v,u,rfl,hv,hu⟩:=hxs2 x1;rw[bU hv,bU hu];exact⟨i,j,rfl,c o1 H1 S1 _ _ e1 s1 ET d1⟩
end
section
open Sem (wp)
open AutoSeq1 (wpAny_loadPart')
section
variable {X:Cx}{zi:List (Addr×Obj)}{σ:St}{H:Hp}{s:bd}{h':Heap}
theorem Inv.turnLaid{t':Nat}{ch:List Addr}{T:Addr}{o:HO}(I:Inv X zi σ H s)(k:∀b u,b∉ch->s.heap.get? b=some u->h'.get? b=some u)(hf:∀b∈ch,FpOk X zi H b)(hT:s.heap.objs.size<=T)
  (new:ObjOk X.prog X.w (upd H T o) h' T o):Inv X zi σ (upd H T o) { s with heap:=h',toks:=t' }:=by
 have hn:H T=none:=I.hok.fresh hT;have aa:∀b u,H b=some u->b∉ch:=fun b u e m=>by rw[(hf b m).1]at e;cases e
 have ab:∀b u,s.heap.get? b=some u->b≠T:=fun b u e z=>absurd (fw (fj e) hT) (by rw[z];exact nj _);have up:∀b u,H b=some u->upd H T o b=some u:=fun b u e=>(zC (zJ e hn)).trans e;refine I.step (g':=s.gens) (d':=s.drawn) (ch:=ch) (fun b hb=>?_) (fun b u _ _ hc e _=>k b u hc e) (fun b u _ _ hc e _=>⟨u.slots,k b u hc e⟩) (fun b u _ e n=>(zC (ab b u e)).trans n)
  (fun b u hc e=>⟨u,k b u hc e⟩) (fun b xs e=>up b _ e) (fun b u v e=>up b _ e) (fun b ps e=>up b _ e) (fun m hm=>?_) (fun b u e=>?_) I.bare
 ·obtain⟨_,f1,_,f3,f4,f5⟩:=hf b hb;exact⟨f3,f1,f4,f5⟩
 ·obtain⟨ob,es,ep,ho,r⟩:=hm;exact⟨ob,es,ep,k _ ob (fun z=>(hf _ z).2.1 rfl) ho,r⟩
 ·by_cases hb:b=T
  ·subst hb;rw[zF]at e;cases e;exact new
  ·rw[zC hb]at e;refine(I.hok b u e).stay (fun c v hc q=>k c v ?_ q) (fun c q=>up c _ q) (fun c xs q=>up c _ q) fun c o u q=>up c _ q;rcases hc with z|z
   ·rw[z];exact aa b u e
   ·exact aa c _ z
theorem Inv.turnedN{t':Nat}{ch:List Addr}(I:Inv X zi σ H s)(k:∀b u,b∉ch->s.heap.get? b=some u->h'.get? b=some u)(hf:∀b∈ch,FpOk X zi H b):Inv X zi σ H { s with heap:=h',toks:=t' }:=by
 have aa:∀b u,H b=some u->b∉ch:=fun b u e m=>by rw[(hf b m).1]at e;cases e
 refine I.step (g':=s.gens) (d':=s.drawn) (ch:=ch) (fun b hb=>?_) (fun b u _ _ hc e _=>k b u hc e) (fun b u _ _ hc e _=>⟨u.slots,k b u hc e⟩) (fun b u _ e n=>n)
  (fun b u hc e=>⟨u,k b u hc e⟩) (fun b xs e=>e) (fun b u v e=>e) (fun b ps e=>e) (fun m hm=>?_) (fun b u e=>?_) I.bare
 ·obtain⟨_,f1,_,f3,f4,f5⟩:=hf b hb;exact⟨f3,f1,f4,f5⟩
 ·obtain⟨ob,es,ep,ho,r⟩:=hm;exact⟨ob,es,ep,k _ ob (fun z=>(hf _ z).2.1 rfl) ho,r⟩
 ·refine(I.hok b u e).stay (fun c v hc q=>k c v ?_ q) (fun _ q=>q) fun _ _ q=>q;rcases hc with z|z
  ·rw[z];exact aa b u e
  ·exact aa c _ z
end
section
variable {prog:cz}{w:fy}{A:ft}{E:bb->bd->Prop}{s:bd}
theorem Nd{j t:Addr}{i:Nat}{vs:Array bb}{x:bb}{Q:bb->bd->Prop}(hj:s.heap.IsTupleIter j t i)(ht:s.heap.IsTuple t vs)(hx:vs[i]?=some x)
  (hQ:∀g,g.IsTupleIter j t (i+1)->fg j s.heap g->Q x { s with heap:=g }):bo (model prog w) A (gz (.ref j)) Q E s:=by
 obtain⟨oj,ej,cj,dj⟩:=id hj;obtain⟨ot,et,_,nt,dt⟩:=ht;unfold gz;refine ba (gx (name:=ju "__next__") hj.typeIs F.slot_tuple_iterator_next (ia F.slot_tuple_iterator_next hj.typeIs F.entry_tuple_iterator_next ?_ (F.args_tuple_iterator_next_1 _)));show bo _ _ (field (.ref j) 0 >>= _) _ _ s;refine ba (jf ej dj (x:=.ref t) rfl ?_);show bo _ _ (ite ((dw t==jr)=true) _ _) _ _ s;refine(cr (show ¬((dw t==jr)=true)from gj))▸?_;show bo _ _ (field (.ref j) 1 >>= _) _ _ s;refine ba (jf ej dj (x:=.int i 0) rfl ?_);refine ba (m:=ug (.ref t)) (iy et dt ?_);simp only[hx,gn];refine ba (wpAny_setField ej dj yv (be ⟨x,rfl,be (hQ _ ⟨_,kj _ ej (Obj.isFreed_of_fields (Obj.data_mapFields dj _)),(Obj.cls_mapFields ..).trans cj,?_⟩ (ie ..))⟩));rw[Obj.data_mapFields dj];simp[kh]
theorem LR{j t:Addr}{i:Nat}{vs:Array bb}{Q:bb->bd->Prop}(hh:A.handled=none)(hj:s.heap.IsTupleIter j t i)(ht:s.heap.IsTuple t vs)(hx:vs[i]?=none)
  (hE:∀g e,Heap.ExtBut j s.heap g->(∃o,g.get? e=some o/\o.cls=.type "StopIteration")->E (.ref e) { s with heap:=g }):bo (model prog w) A (gz (.ref j)) Q E s:=by
 obtain⟨oj,ej,cj,dj⟩:=id hj;obtain⟨ot,et,_,nt,dt⟩:=ht;unfold gz;refine ba (gx (name:=ju "__next__") hj.typeIs F.slot_tuple_iterator_next (ia F.slot_tuple_iterator_next hj.typeIs F.entry_tuple_iterator_next ?_ (F.args_tuple_iterator_next_1 _)));show bo _ _ (field (.ref j) 0 >>= _) _ _ s;refine ba (jf ej dj (x:=.ref t) rfl ?_);show bo _ _ (ite ((dw t==jr)=true) _ _) _ _ s;refine(cr (show ¬((dw t==jr)=true)from gj))▸?_;show bo _ _ (field (.ref j) 1 >>= _) _ _ s;refine ba (jf ej dj (x:=.int i 0) rfl ?_);refine ba (m:=ug (.ref t)) (iy et dt ?_);simp only[hx,gn];refine ba (pf (ba (wpAny_setField ej dj yv ?_)));show bo _ _ (newExc (.type "StopIteration") [] >>= _) _ _ _;refine ba ?_;simp only[newExc,newTuple];refine ba (gb ?_ (by size_fits));refine ba (m:=tq _ _) (wpAny_of_eq (a:=jr) (by first|rfl|(simp only[tq];rfl)) ?_);refine gb ?_ (by size_fits);simp only[raiseNew];refine ba (wpAny_handled ?_)
 first|rw[show A.in1.handled=none from hh]|rw[hh]
 exact ba (be (wpAny_throw (hE _ _ (((ie ..).extBut.push _).push _) ⟨_,bv _ rfl,rfl⟩)))
end
def Bc(i:Nat):List bc->List bc
 | []=>[]
 |d::ds=>.tuple [.int i,d]::Bc (i+1) ds
theorem Kr{X:Cx}{x:Str}{i:Int}{pos:Pos}(hg:Gl X x)(hm:∃t,X.mg x=some (.int i t))(hd:(x==("__debug__":Str))=false:=by decide):PE X (.Name x pos) (tC (.int i)):=by
 obtain⟨t,e⟩:=hm;exact sY hg e ⟨t,rfl⟩ hd
end
section
def dIx:D2:=fun x y S R=>asI y fun i=>match x with
 | .d (.tuple ds)=>∃d,atI ds i=some d/\R (.d d) S
 | .d (.list ds)=>∃d,atI ds i=some d/\R (.d d) S
 | .l k=>∃ds,S[k]?=some ds/\∃d,atI ds i=some d/\R (.d d) S
 | .d (.str z)=>z.length<=dn/\∃c,atI z.cps.toList i=some c/\R (.d (.str ⟨#[c]⟩)) S
 |_=>False
theorem Kv:RO A1 (fun x y S R=>asS x fun z=>asI y fun i=>z.length<=dn/\∃c,atI z.cps.toList i=some c/\R (.d (.str ⟨#[c]⟩)) S):=fun h o H S x y v u R Q hs hx hy q c=>by
 replace q:=uU q;obtain⟨z,rfl,q⟩:=q;replace q:=bT q;obtain⟨i,rfl,hz,k,ek,q⟩:=q;exact⟨z,i,k,d8 hx,bU hy,hz,ek,c o H S _ _ Ex.refl hs (xS _) q⟩
theorem aT{K:cq}:RO (rIx K) dIx:=fun h o H S x y v u R Q hs hx hy q c=>by
 replace q:=bT q;obtain⟨i,rfl,q⟩:=q;split at q
 ·exact .inr (.inl (K4 h o H S _ _ v u R Q hs hx hy q c))
 ·exact .inl (Bx h o H S _ _ v u R Q hs hx hy ⟨_,rfl,q⟩ c)
 ·exact .inl (Bx h o H S _ _ v u R Q hs hx hy q c)
 ·exact .inr (.inr (Kv h o H S _ _ v u R Q hs hx hy q c))
 ·exact q.elim
section
variable {S:Sto}{R:RX}{ds:List bc}{i:Int}{k:Nat}{z:Str}
theorem pG:dIx (.d (.tuple ds)) (.d (.int i)) S R=∃d,atI ds i=some d/\R (.d d) S:=rfl
theorem rA:dIx (.d (.list ds)) (.d (.int i)) S R=∃d,atI ds i=some d/\R (.d d) S:=rfl
theorem pV:dIx (.l k) (.d (.int i)) S R=∃ds,S[k]?=some ds/\∃d,atI ds i=some d/\R (.d d) S:=rfl
theorem oZ:dIx (.d (.str z)) (.d (.int i)) S R=(z.length<=dn/\∃c,atI z.cps.toList i=some c/\R (.d (.str ⟨#[c]⟩)) S):=rfl
end
def Fj(K:cq):V->Option Int->Option Int->Hp->VK->Prop:=fun x a b H Q=>qW K x a b H Q\/(A3 K x a b H Q\/Cz x a b H Q)
theorem rR{X:Cx}:SlR X (Fj X.K):=Fg.or (Ho.or Ib)
def fS:D3:=fun x i j S R=>match x with
 | .d (.tuple ds)=>¬(HT.sIx ds.length 0 i=0/\HT.sIx ds.length ds.length j=ds.length)/\R (.d (.tuple (bE ds i j))) S
 | .d (.list ds)=>R (.d (.list (bE ds i j))) S
 | .l k=>∃ds,S[k]?=some ds/\R (.d (.list (bE ds i j))) S
 | .d (.str z)=>z.length<=dn/\R (.d (.str (PySem.Txt.slice z i j))) S
 |_=>False
theorem vK{K:cq}:RL (Fj K) fS:=fun h o H S x v a b R Q hs hx q c=>by
 unfold fS at q;split at q
 ·exact .inr (.inl (JY h o H S _ v a b R Q hs hx q c))
 ·exact .inl (Fm h o H S _ v a b R Q hs hx ⟨_,rfl,q⟩ c)
 ·exact .inl (Fm h o H S _ v a b R Q hs hx q c)
 ·exact .inr (.inr ⟨_,d8 hx,q.1,c o H S _ _ Ex.refl hs (xS _) q.2⟩)
 ·exact q.elim
section
variable {S:Sto}{R:RX}{ds:List bc}{i j:Option Int}{k:Nat}{z:Str}
theorem pJ:fS (.d (.tuple ds)) i j S R=(¬(HT.sIx ds.length 0 i=0/\HT.sIx ds.length ds.length j=ds.length)/\R (.d (.tuple (bE ds i j))) S):=rfl
theorem pH:fS (.l k) i j S R=∃ds,S[k]?=some ds/\R (.d (.list (bE ds i j))) S:=rfl
theorem rM:fS (.d (.str z)) i j S R=(z.length<=dn/\R (.d (.str (PySem.Txt.slice z i j))) S):=rfl
end
def C6(K:cq):R2:=fun x y H Q=>∃a b ys,x=.ref a/\y=.ref b/\SqT K H a []/\SqT K H b ys/\Q (.ref b) H
theorem Ni{X:Cx}:OpR X (on .Add) (C6 X.K):=by
 intro zi s σ H x y v u Q I rx ry h;obtain⟨a,b,ys,rfl,rfl,ha,hb,q⟩:=h;cases rx;cases ry;obtain⟨aa,r1,p1,_⟩:=I.tuple ha;obtain⟨z,r2,p2,_⟩:=I.tuple hb;cases r1;obtain⟨⟨c1,d1,e1,l1⟩,o1,w1,n1,k1⟩:=id p1;obtain⟨⟨c2,d2,e2,l2⟩,o2,w2,n2,k2⟩:=id p2;simp only at w1 k1 w2 k2;subst w1 k1 w2 k2;exact concat_meets ⟨_,o1,rfl⟩ ⟨_,o2,rfl⟩ noFill_tuple_add seq_tuple_add PySem.F.slot_tuple_add PySem.F.entry_tuple_add (PySem.F.args_tuple_add_2 _ _) (tuple_addW0 a b _ _ n1 n2 d1 d2 l1 l2 yv) ⟨o1,o2,⟨.ref b,H,I,rfl,q⟩⟩
def E6(K:cq):R2:=fun x y H Q=>rI0 (fun i j=>.int (i+j)) x y H Q\/(l0 x y H Q\/(wM K x y H Q\/(C6 K x y H Q\/∃i j,x=.str i/\y=.str j/\i.length+j.length<=dn/\Q (.str (i++j)) H)))
theorem zU{X:Cx}:OpR X (on .Add) (E6 X.K):=Im.or (AZ.or (Jb.or (Ni.or Je)))
def aL:D2:=fun x y S R=>match x,y with
 | .d (.int i),.d (.int j)=>R (.d (.int (i+j))) S
 | .d (.tuple ds),.d (.tuple es)=>ds.length+es.length<=1000/\R (.d (.tuple (ds++es))) S
 | .d (.str a),.d (.str b)=>a.length+b.length<=dn/\R (.d (.str (a++b))) S
 |x,y=>asL S x fun ds=>asL S y fun es=>ds.length+es.length<=1000/\R (.d (.list (ds++es))) S
theorem cT{K:cq}:RO (E6 K) aL:=fun h o H S x y v u R Q hs hx hy q c=>by
 unfold aL at q;split at q
 ·exact .inl (EG h o H S _ _ v u R Q hs hx hy q c)
 ·rename_i ds es;cases ds with
  |cons d ds=>exact .inr (.inr (.inl (Lo h o H S _ _ v u R Q hs hx hy ⟨yv,q⟩ c)))
  |nil=>
   obtain⟨a,vs,rfl,ea,l⟩:=gQ hx;obtain⟨b,us,rfl,eb,l'⟩:=gQ hy;rw[zA.mp l]at ea;exact .inr (.inr (.inr (.inl ⟨a,b,us,rfl,rfl,.of ea,.of eb,c o H S (.d (.tuple es)) _ Ex.refl hs hy q.2⟩)))
 ·exact .inr (.inr (.inr (.inr ⟨_,_,d8 hx,d8 hy,q.1,c o H S _ _ Ex.refl hs (xS _) q.2⟩)))
 ·exact .inr (.inl (KQ h o H S _ _ v u R Q hs hx hy q c))
section
variable {S:Sto}{R:RX}{ds es:List bc}{i j:Int}{k l:Nat}{a b:Str}
theorem qQ:aL (.d (.int i)) (.d (.int j)) S R=R (.d (.int (i+j))) S:=rfl
theorem o7:aL (.d (.tuple ds)) (.d (.tuple es)) S R=(ds.length+es.length<=1000/\R (.d (.tuple (ds++es))) S):=rfl
end
def Ee:R2:=fun x y H Q=>rI IntMulOk (fun i j=>.int (i*j)) x y H Q\/(At x y H Q\/F3 x y H Q)
theorem dH{X:Cx}:OpR X (on .Mult) Ee:=MU.or (Ka.or Ik)
def bW:D2:=fun x y S R=>asI y fun j=>match x with
 | .d (.int i)=>IntMulOk i j/\R (.d (.int (i*j))) S
 | .d (.str z)=>z.length<=1000/\j<=1000/\-1000<=j/\R (.d (.str (PySem.Txt.mul z j))) S
 | .d (.list ds)=>j<=1000/\-1000<=j/\ds.length*j.toNat<=1000/\R (.d (.list (bh j.toNat ds).flatten)) S
 |_=>False
theorem HasL.rep{H:Hp}{ds:List bc}{vs:List V}(l:HasL H ds vs):∀n:Nat,HasL H (bh n ds).flatten (bh n vs).flatten
 | 0=>zA.mpr rfl
 |n+1=>by
  rw[qu,qu,flatten_cons,flatten_cons];exact l.append (HasL.rep l n)
theorem kU:RO Ee bW:=fun h o H S x y v u R Q hs hx hy q c=>by
 replace q:=bT q;obtain⟨j,rfl,q⟩:=q;split at q
 ·exact .inl (kC h o H S _ _ v u R Q hs hx hy q c)
 ·exact .inr (.inl ⟨_,_,d8 hx,bU hy,q.1,q.2.1,q.2.2.1,c o H S _ _ Ex.refl hs (xS _) q.2.2.2⟩)
 ·obtain⟨a,vs,rfl,ea,l⟩:=cG (x:=.d (.list _)) hs rfl hx;obtain⟨h1,h2,h3,q⟩:=q;exact .inr (.inr ⟨a,j,vs,rfl,bU hy,ea,yw,yw,by rw[l.length];exact jn (small1000 h3),lX hs (l.rep j.toNat) c q⟩)
 ·exact q.elim
section
variable {S:Sto}{R:RX}{i j:Int}{z:Str}{ds:List bc}
theorem oX:bW (.d (.list ds)) (.d (.int j)) S R=(j<=1000/\-1000<=j/\ds.length*j.toNat<=1000/\R (.d (.list (bh j.toNat ds).flatten)) S):=rfl
theorem oB:bW (.d (.int i)) (.d (.int j)) S R=(IntMulOk i j/\R (.d (.int (i*j))) S):=rfl
theorem qG:bW (.d (.str z)) (.d (.int j)) S R=(z.length<=1000/\j<=1000/\-1000<=j/\R (.d (.str (PySem.Txt.mul z j))) S):=rfl
end
def Ap:R2:=fun x y H Q=>rI CDivX (fun i j=>.int (i/j)) x y H Q\/rI CDivN (fun i j=>.int (i.fdiv j)) x y H Q
theorem nF{X:Cx}:OpR X (on .FloorDiv) Ap:=IX.or Gf
def dFd:D2:=fun x y S R=>asI x fun i=>asI y fun j=>(CDivX i j/\R (.d (.int (i/j))) S)\/(CDivN i j/\R (.d (.int (i.fdiv j))) S)
theorem Jr:RO Ap dFd:=fun h o H S x y v u R Q hs hx hy q c=>by
 replace q:=bT q;obtain⟨i,rfl,q⟩:=q;replace q:=bT q;obtain⟨j,rfl,q⟩:=q;rcases q with q|q
 ·exact .inl (kC (C:=CDivX) (g:=fun i j=>i/j) h o H S _ _ v u R Q hs hx hy q c)
 ·exact .inr (kC (C:=CDivN) (g:=fun i j=>i.fdiv j) h o H S _ _ v u R Q hs hx hy q c)
def m8(S:Sto):XV->Option Bool
 | .d .none=>some false
 | .d (.bool b)=>some b
 | .d (.int i)=>some (i != 0)
 | .d (.str z)=>if z.length<=dn then some ((z.length:Int) != 0)else none
 | .d (.list ds)=>some (!ds.isEmpty)
 | .d (.tuple ds)=>some (!ds.isEmpty)
 | .l k=>(S[k]?).map fun ds=>!ds.isEmpty
 |_=>none
def aM(a:DE):DT:=fun δ S R=>a δ S fun x S1=>∃k,m8 S1 x=some k/\R k S1
theorem wK{H:Hp}{ds:List bc}{vs:List V}(l:HasL H ds vs):(!ds.isEmpty)=!vs.isEmpty:=by
 have:=l.length;cases ds<;>cases vs<;>simp_all
theorem dX{K:cq}{ta:TE}{da:DE}(ha:RE ta da):RT (fun σ H Q=>ta σ H fun x H'=>∃k,TruV K x H' k/\Q k H') (aM da):=fun h o H δ σ S R Q he hs q c=>
 ha h o H δ σ S _ _ he hs q fun o1 H1 S1 x v e1 s1 x1 ⟨k,ek,d1⟩=>by
  refine⟨k,?_,c o1 H1 S1 k e1 s1 d1⟩;unfold m8 at ek;split at ek
  ·cases ek;rw[(i4 (H:=vx h o1 H1)).mp x1];rfl
  ·cases ek;rw[jI x1];rfl
  ·cases ek;rw[bU x1];rfl
  ·split at ek
   ·rename_i hz;cases ek;rw[d8 x1];exact⟨hz,rfl⟩
   ·cases ek
  ·obtain⟨a,vs,rfl,ea,l⟩:=cG (x:=.d (.list _)) s1 rfl x1;cases ek;exact .inl ⟨vs,.of ea,wK l⟩
  ·obtain⟨a,vs,rfl,ea,l⟩:=gQ x1;cases ek;exact .inr (.inl ⟨vs,.of ea,wK l⟩)
  ·rename_i j _;cases hj:S1[j]? with
   |none=>rw[hj]at ek;cases ek
   |some ds=>
    rw[hj]at ek;cases ek;obtain⟨a,vs,rfl,ea,l⟩:=cG (x:=.l j) s1 hj x1;exact .inl ⟨vs,.of ea,wK l⟩
  ·cases ek
section
variable {S:Sto}{b:Bool}{i:Int}{ds:List bc}{k:Nat}
theorem pY:m8 S (.d (.bool b))=some b:=rfl
theorem mZ:m8 S (.d (.tuple ds))=some (!ds.isEmpty):=rfl
theorem pF:m8 S (.l k)=(S[k]?).map fun ds=>!ds.isEmpty:=rfl
end
def lG:DS:=fun _ _ _=>False
theorem Nb:RS FI lG:=fun h o H δ σ S E D he hs q c=>q.elim
def EL(K:cq)(tl:TE):TI:=fun σ H R=>tl σ H fun x H1=>∃a,x=.ref a/\(((∃xs,SqL K H1 a xs)/\R (Itl K a) H1)\/((∃xs,SqT K H1 a xs)/\R (Itt K a) H1))
theorem bK{X:Cx}{tg:Expr}{l:Expr}{tl:TE}(hl:PE X l tl):PI X tg l (EL X.K tl):=by
 intro zi s σ H R I h;refine thn (hl zi s σ H _ I h) fun v s1 ⟨x,H1,I1,r1,q1⟩=>?_;obtain⟨a,e,⟨⟨xs,hq⟩,q⟩|⟨⟨xs,hq⟩,q⟩⟩:=q1
 ·subst e;cases r1;obtain⟨z,rv,p,hz⟩:=I1.list hq;refine oo p.isList ?_;refine⟨s1.heap.objs.size,[s1.heap.objs.size],_,_,H1,rfl,I1.kept (t':=s1.toks) fun b o e=>bf _ e,GN a _,⟨_,bv _ rfl,rfl,rfl⟩,fun b hb=>?_,q⟩;have e:b=s1.heap.objs.size:=by simpa using hb
  subst e;exact I1.fpOk (dh _) (I1.hok.fresh (dh _))
 ·subst e;cases r1;obtain⟨z,rv,p,hz⟩:=I1.tuple hq;refine wpAny_pyIter_tuple (show s1.heap.IsTuple a z.toArray from p) ?_;refine⟨s1.heap.objs.size,[s1.heap.objs.size],_,_,H1,rfl,I1.kept (t':=s1.toks) fun b o e=>bf _ e,L6 a _,⟨_,bv _ rfl,rfl,rfl⟩,fun b hb=>?_,q⟩;have e:b=s1.heap.objs.size:=by simpa using hb
  subst e;exact I1.fpOk (dh _) (I1.hok.fresh (dh _))
def eQ:XV->Option (List bc)
 | .d (.list ds)=>some ds
 | .d (.tuple ds)=>some ds
 |_=>none
theorem oM{ds:List bc}:eQ (.d (.list ds))=some ds:=rfl
theorem p7{ds:List bc}:eQ (.d (.tuple ds))=some ds:=rfl
def aS(e:DE):DI:=fun δ S R=>e δ S fun x S1=>∃ds,eQ x=some ds/\R ds S1
theorem cB{K:cq}{te:TE}{de:DE}(z:RE te de):RI (EL K te) (aS de):=fun h o H δ σ S R Q he hs q c=>
 z h o H δ σ S _ _ he hs q fun o1 H1 S1 x v e1 s1 x1 ⟨ds,ex,d1⟩=>by
  unfold eQ at ex;split at ex
  ·cases ex;obtain⟨a,vs,rfl,ea,l⟩:=dA.mp (show Has _ _ _ from x1);have hl:=l.length;refine⟨a,rfl,.inl ⟨⟨vs,.of (zZ _ _ ea)⟩,c o1 H1 S1 ds _ e1 s1 ⟨fun i o2 H2 e2 hi=>⟨vs,.of (zZ _ _ (e2.vx _ _ ea)),yw⟩,fun i d o2 H2 e2 hi=>?_,fun i d o2 H2 x H3 S2 e2 s2 hi y=>?_⟩ d1⟩⟩
   ·obtain⟨v,ev,_⟩:=l.get hi;exact⟨vs,v,.of (zZ _ _ (e2.vx _ _ ea)),ev⟩
   ·obtain⟨v,ev,hv⟩:=l.get hi;have e3:H3=H2:=y.1;subst e3;have ex:=y.2 vs (.of (zZ _ _ (e2.vx _ _ ea)));rw[ev]at ex;cases ex;exact⟨Same.refl _,hv.mono e2.vx⟩
  ·cases ex;obtain⟨a,vs,rfl,ea,l⟩:=cJ.mp (show Has _ _ _ from x1);have hl:=l.length;refine⟨a,rfl,.inr ⟨⟨vs,.of (zZ _ _ ea)⟩,c o1 H1 S1 ds _ e1 s1 ⟨fun i o2 H2 e2 hi=>⟨vs,.of (zZ _ _ (e2.vx _ _ ea)),yw⟩,fun i d o2 H2 e2 hi=>?_,fun i d o2 H2 x H3 S2 e2 s2 hi y=>?_⟩ d1⟩⟩
   ·obtain⟨v,ev,_⟩:=l.get hi;exact⟨vs,v,.of (zZ _ _ (e2.vx _ _ ea)),ev⟩
   ·obtain⟨v,ev,hv⟩:=l.get hi;have e3:H3=H2:=y.1;subst e3;have ex:=y.2 vs (.of (zZ _ _ (e2.vx _ _ ea)));rw[ev]at ex;cases ex;exact⟨Same.refl _,hv.mono e2.vx⟩
  ·cases ex
def jD(dt:DS):DS:=fun E δ S=>dt { E with nx:=fun δ' S'=>∃S0 ds,S'=S0++[ds]/\S.length<=S0.length/\E.nx (δ'.map (frz S0.length ds)) S0 } δ S
theorem OA{t:TS}{dt:DS}(ht:RS t dt):RS t (jD dt):=fun h o H δ σ S E D he hs q c=>by
 refine ht h o H δ σ S _ D he hs q ⟨fun o' H' δ' S' σ' e aa ab ⟨S0,ds,eS,hl,n⟩=>?_,c.rt,c.bk,c.ct⟩;subst eS;obtain⟨r,rfl⟩:=e.pre;have hL:=ab.len;simp only[ck,fq]at hL;have hS:=hs.len;have ae:r≠[]:=fun z=>by subst z;simp at hL;omega
 obtain⟨r0,a,rfl⟩:∃r0 a,r=r0++[a]:=⟨r.dropLast,r.getLast ae,(List.dropLast_concat_getLast ae).symm⟩;have ac:S0.length=(o++r0).length:=by simp at hL ⊢;omega
 rw[<- gy]at ab aa e;have nd:=nodup_append.mp ab.nd;have na:a∉o++r0:=fun m=>nd.2.2 a m a yv rfl;have nh:a∉h:=ab.dis a yv;refine c.nx (o++r0) H' _ S0 σ' ⟨⟨r0,rfl⟩,fun b u hb eb=>?_⟩ ⟨by rw[cg];exact aa.len,fun i x ex=>?_⟩ (ab.pop ac) n
 ·obtain⟨z1,z2⟩:=e.kp b u hb eb;exact⟨fun m=>z1 (cu _ m),z2⟩
 ·rw[gh]at ex;obtain⟨y,ey,ex⟩:=map_eq_some_iff.mp ex
  match y,ey,ex with
  |none,ey,ex=>cases ex
  |some (.d d),ey,ex=>
   cases ex;obtain⟨v,e1,e2⟩:=aa.get i _ ey;exact⟨v,e1,Has.mono c9 d v e2⟩
  |some (.o w),ey,ex=>
   cases ex;exact aa.get i _ ey
  |some (.x C fs),ey,ex=>
   cases ex;obtain⟨v,e1,e2⟩:=aa.get i _ ey;exact⟨v,e1,HasE.mono c9 e2⟩
  |some (.i C fs),ey,ex=>
   cases ex;obtain⟨v,e1,e2⟩:=aa.get i _ ey;exact⟨v,e1,HasI.mono c9 e2⟩
  |some (.p k d),ey,ex=>
   obtain⟨v,e1,t,b,u,rfl,eb,et,hu⟩:=aa.get i _ ey;unfold frz at ex;by_cases hk:k=S0.length
   ·simp only[hk,↓reduceIte]at ex;cases ex;rw[hk,ac,bw]at eb;cases eb;obtain⟨vs,ev,l⟩:=ab.cont S0.length a ds (by rw[ac,bw]) (by rw[bw]);exact⟨_,e1,cJ.mpr ⟨t,_,rfl,c9 _ _ et,zp.mpr ⟨_,_,rfl,dA.mpr ⟨a,vs,rfl,zN.mpr ⟨nh,na,ev⟩,l.mono c9⟩,zp.mpr ⟨u,_,rfl,Has.mono c9 _ _ hu,zA.mpr rfl⟩⟩⟩⟩
   ·simp only[hk,↓reduceIte]at ex;cases ex;refine⟨_,e1,t,b,u,rfl,?_,c9 _ _ et,Has.mono c9 _ _ hu⟩;have af:k<(o++r0).length:=by
     obtain⟨z,_⟩:=List.getElem?_eq_some_iff.mp eb;rw[ck,fq]at z;omega
    rw[fi af]at eb;exact eb
  |some (.l k),ey,ex=>
   obtain⟨v,e1,b,eb,rfl⟩:=aa.get i _ ey;unfold frz at ex;by_cases hk:k=S0.length
   ·simp only[hk,↓reduceIte]at ex;cases ex;rw[hk,ac,bw]at eb;cases eb;obtain⟨vs,ev,l⟩:=ab.cont k a ds (by rw[hk,ac,bw]) (by rw[hk,bw]);exact⟨_,e1,dA.mpr ⟨a,vs,rfl,zN.mpr ⟨nh,na,ev⟩,l.mono c9⟩⟩
   ·simp only[hk,↓reduceIte]at ex;cases ex;have ag:=(List.getElem?_eq_some_iff.mp eb).1;simp only[ck,fq]at ag;simp only[ck]at ac;rw[fi (by simp only[ck];omega)]at eb;exact⟨_,e1,b,eb,rfl⟩
section
variable {t1 t2 t3 t4 t5 t6 t7 t8:TS}{d:DS}
theorem N1(h:RS (cH (cH t1 (cH t2 t3)) t4) d):RS (cH t1 (cH t2 (cH t3 t4))) d:=h
end
end
section
abbrev PN:=List XV->Sto->RX->Prop
def lfN(q:PN):List V->Hp->VK->Prop:=fun vs H Q=>∃h o S xs R,RepS h o H S/\HasXs h o H xs vs/\q xs S R/\Cn h o H R Q
def spN(ps:List Str)(q:PN):Sp:=fun vs H Q _=>vs.length=ps.length/\lfN q vs H Q
theorem HasXs.len{h o:List Addr}{H:Hp}:∀{xs:List XV}{vs:List V},HasXs h o H xs vs->vs.length=xs.length
 | [],vs,q=>by rw[show vs=[]from q];rfl
 |x::xs,vs,⟨v,r,e,_,l⟩=>by rw[e,cx,cx,HasXs.len l]
theorem HasXs.get{h o:List Addr}{H:Hp}:∀{xs:List XV}{vs:List V}{i:Nat}{x:XV},HasXs h o H xs vs->xs[i]?=some x->∃v,vs[i]?=some v/\HasX h o H x v
 | [],_,i,_,_,e=>by simp at e
 |y::xs,vs,0,x,⟨v,r,e1,q,l⟩,e=>by
  rw[re]at e;cases e;subst e1;exact⟨v,rfl,q⟩
 |y::xs,vs,i+1,x,⟨v,r,e1,q,l⟩,e=>by
  subst e1;rw[rf]at e ⊢;exact HasXs.get l e
theorem vA{h o:List Addr}{H:Hp}{xs:List XV}{vs:List V}{n:Nat}(q:HasXs h o H xs vs):RepE h o H (xs.map some++bh n none) (vs.map some++bh n none):=by
 have hl:=q.len;refine⟨by simp[hl],fun i x e=>?_⟩;by_cases hi:i<xs.length
 ·rw[fi (by rw[cg];exact hi),gh]at e;obtain⟨y,ey,e⟩:=map_eq_some_iff.mp e;cases e;obtain⟨v,ev,hv⟩:=q.get ey;exact⟨v,by rw[fi (by rw[cg,hl];exact hi),gh,ev];rfl,hv⟩
 ·rw[kz (by rw[cg];omega),List.getElem?_replicate]at e;split at e<;>cases e
section
variable {P:cz}{w:fy}{K:cq}{mg:Str->Option bb}{base:Heap}{x:Str}{st:Stmt}{N ps:List Str}{k:Nat}
theorem Df.dN{q:PN}(D:Dd K mg x st ps)(S:FnScope N ps (zf st))(n:Nat)(hn:N.length=ps.length+n)
  (hbody:∀(f:Addr) (z:bb) (A:ft) (outer:List Env) (s:bd) (H:Hp) (E:XK),Room k (A.deeper (ur x (zf st) s.heap.objs.size f z)) ->
   ∃t dt,PSs (eF CX0 P w K mg base N x (zf st) f z A outer s H E).nox (cA st) t/\RS t dt/\∀xs S R,q xs S R->dt (aJ S.length R) (xs.map some++bh n none) S):Df P w K mg base x ps (k+1) (spN ps q):=by
 refine Df.of D S (fun vs H Q E h=>h.1) fun f z A outer s H vs Q E hr ⟨hl,h,o,S',xs,R,aa,hx,hq,c⟩=>?_;obtain⟨t,dt,h1,h2,h3⟩:=hbody f z A outer s H E hr;refine⟨t,h1,h2 h o H _ _ S' _ _ ?_ aa (h3 xs S' R hq) (eok aa c)⟩;have e:N.length-vs.length=n:=yw
 unfold start;rw[e];exact vA hx
end
section
variable {X:Cx}{x:Str}{ps:List Str}{k j:Nat}{pos pos':Pos}{e:Expr}{es:List Expr}{t:TA}
theorem zo{q:PN}(D:Df X.prog X.w X.K X.mg X.base x ps k (spN ps q))(hr:Room j X.A)(hk:k<=j)(ha:PA X (e::es) t)(hg:Gl X x:=by rfl)(z:(x==("__debug__":Str))=false:=by decide)
  (q1:dq (e::es) X.env=(false,eval e X.env)::dq es X.env:=by rfl) (q2:((ow pos (dq es X.env)).any fun x=>x.fst)=false:=by rfl):PE X (.Call (.Name x pos') (e::es) [] pos) (qV (spN ps q) [] E0 t):=by
 obtain⟨f,fd,F,hm,kp,hb⟩:=D.ex;exact DF (dvs:=[]) (ds:=[]) (E:=E0) F (hr.mono hk) hg hm kp hb .nil pass0 ha z q1 q2
end
def zI(m:Nat)(q:PN)(da:DA):DE:=fun δ S R=>da δ S fun xs S1=>∃ds,datas xs=some ds/\ds.length=m/\q (ds.map XV.d) [] (ret0 S1 R)
theorem hxs0{h o:List Addr}{H:Hp}:∀{ds:List bc}{vs:List V},HasXs h o H (ds.map XV.d) vs->HasXs (h++o) [] H (ds.map XV.d) vs
 | [],_,q=>q
 |d::ds,vs,⟨v,r,e,q,l⟩=>⟨v,r,e,hx0 q,hxs0 l⟩
theorem bH{ps:List Str}{q:PN}{m:Nat}{t:TA}{da:DA}(ha:RA t da)(hm:ps.length=m:=by rfl):RE (qV (spN ps q) [] E0 t) (zI m q da):=fun h o H δ σ S R Q he hs w c=>
 ha h o H δ σ S _ _ he hs w fun o1 H1 S1 xs vs e1 s1 x1 ⟨ds,e,hl,d1⟩=>by
  have ex:=jB e;subst ex;have hv:=x1.len;rw[jg];exact⟨by rw[hv,cg,hl,hm],h++o1,[],[],_,_,rep0 s1,hxs0 x1,d1,cn0 s1 (c.pre e1)⟩
def zY(i m:Nat)(q:PN)(da:DA):DE:=fun δ S R=>da δ S fun xs S1=>∃k,xs[i]?=some (.l k)/\∃p,S1[k]?=some p/\∃ds,datas (xs.set i (.d .none))=some ds/\ds.length=m/\q ((ds.map XV.d).set i (.l 0)) [p] (uV k S1 R)
theorem Bu{h o:List Addr}{H:Hp}{k:Nat}{a:Addr}(ea:o[k]?=some a):∀{xs:List XV}{vs:List V}{ds:List bc}{i:Nat},HasXs h o H xs vs->xs[i]?=some (.l k)->datas (xs.set i (.d .none))=some ds->HasXs (h++o.filter (fun b=>b≠a)) [a] H ((ds.map XV.d).set i (.l 0)) vs
 | [],_,_,i,_,e,_=>by simp at e
 |x::xs,vs,ds,0,⟨v,r,e1,q,l⟩,e,ed=>by
  rw[re]at e;cases e;rw[set_cons_zero]at ed;obtain⟨z,rfl⟩:∃z,ds=.none::z:=by
   unfold datas at ed;cases hd:datas xs with
   |none=>rw[hd]at ed;cases ed
   |some y=>rw[hd]at ed;cases ed;exact⟨y,rfl⟩
  have aa:datas xs=some z:=by
   unfold datas at ed;cases hd:datas xs with
   |none=>rw[hd]at ed;cases ed
   |some y=>rw[hd]at ed;cases ed;rfl
  have ex:=jB aa;subst ex;obtain⟨b,eb,rfl⟩:=q;rw[ea]at eb;cases eb;exact⟨_,r,e1,⟨a,rfl,rfl⟩,go (ea:=ea) l⟩
 |x::xs,vs,ds,i+1,⟨v,r,e1,q,l⟩,e,ed=>by
  rw[rf]at e;rw[set_cons_succ]at ed
  match x,q,ed with
  | .d d,q,ed=>
   unfold datas at ed;cases hd:datas (xs.set i (.d .none))with
   |none=>rw[hd]at ed;cases ed
   |some z=>
    rw[hd]at ed;cases ed;exact⟨v,r,e1,hxP ea q,Bu ea l e hd⟩
  | .l j,q,ed=>cases ed
  | .o w,q,ed=>cases ed
  | .x _ _,q,ed=>cases ed
  | .p _ _,q,ed=>cases ed
  | .i _ _,q,ed=>cases ed
where
 go {h o:List Addr}{H:Hp}{k:Nat}{a:Addr}{ea:o[k]?=some a}:∀{ds:List bc}{vs:List V},HasXs h o H (ds.map XV.d) vs->HasXs (h++o.filter (fun b=>b≠a)) [a] H (ds.map XV.d) vs
 | [],_,q=>q
 |d::ds,vs,⟨v,r,e,q,l⟩=>⟨v,r,e,hxP ea q,go (ea:=ea) l⟩
theorem Jx:∀{xs:List XV}{ds:List bc},datas xs=some ds->xs.length=ds.length:=fun e=>by
 rw[jB e,cg]
theorem iC{ps:List Str}{q:PN}{i m:Nat}{t:TA}{da:DA}(ha:RA t da)(hm:ps.length=m:=by rfl):RE (qV (spN ps q) [] E0 t) (zY i m q da):=fun h o H δ σ S R Q he hs w c=>
 ha h o H δ σ S _ _ he hs w fun o1 H1 S1 xs vs e1 s1 x1 ⟨k,ek,p,ep,ds,e,hl,d1⟩=>by
  have hv:=x1.len;have hd:=Jx e;rw[length_set]at hd;obtain⟨v,_,a,ea,_⟩:=x1.get ek;rw[jg];exact⟨by rw[hv,hd,hl,hm],_,[a],[p],_,_,t9 s1 ea ep,Bu ea x1 ek e,d1,cnP s1 ea ep (c.pre e1)⟩
mutual
def kR:bc->Bool
 | .list _=>false
 | .dict _=>false
 | .tuple ds=>qZ ds
 |_=>true
def qZ:List bc->Bool
 | []=>true
 |d::ds=>kR d&&qZ ds
end
mutual
theorem Cq{h o:List Addr}{H G:Hp}(sm:Same G H)(hh:∀b,b∈h\/b∈o->∃u:MO,H b=some u.ho):∀(d:bc) (v:V),kR d=true->Has G d v->Has (vx h o H) d v
 | .none,v,_,q=>i4.mpr (i4.mp q)
 | .bool b,v,_,q=>fE.mpr (fE.mp q)
 | .int i,v,_,q=>eY.mpr (eY.mp q)
 | .str z,v,_,q=>gC.mpr (gC.mp q)
 | .list ds,v,n,_=>by simp[kR]at n
 | .dict ds,v,n,_=>by simp[kR]at n
 | .tuple ds,v,n,q=>by
  obtain⟨a,vs,e,ea,l⟩:=cJ.mp q;have n':qZ ds=true:=by simpa[kR]using n
  have aa:=sm _ _ ea;refine cJ.mpr ⟨a,vs,e,zN.mpr ⟨fun m=>?_,fun m=>?_,aa⟩,Fa sm hh ds vs n' l⟩
  ·obtain⟨u,eu⟩:=hh a (.inl m);rw[aa]at eu;cases u<;>cases eu
  ·obtain⟨u,eu⟩:=hh a (.inr m);rw[aa]at eu;cases u<;>cases eu
theorem Fa{h o:List Addr}{H G:Hp}(sm:Same G H)(hh:∀b,b∈h\/b∈o->∃u:MO,H b=some u.ho):∀(ds:List bc) (vs:List V),qZ ds=true->HasL G ds vs->HasL (vx h o H) ds vs
 | [],vs,_,q=>zA.mpr (zA.mp q)
 |d::ds,vs,n,q=>by
  obtain⟨v,r,e,hv,l⟩:=zp.mp q;simp only[qZ,gc]at n;exact zp.mpr ⟨v,r,e,Cq sm hh d v n.1 hv,Fa sm hh ds r n.2 l⟩
end
def tI(S:Sto)(R:RX):RX:=fun y S'=>match y,S' with
 | .d d,[]=>kR d=true/\R (.d d) S
 |_,_=>False
theorem nU{S:Sto}{R:RX}{d:bc}:tI S R (.d d) []=(kR d=true/\R (.d d) S):=rfl
def views(S:Sto):List XV->Option (List bc)
 | []=>some []
 |x::r=>(cC S x).bind fun d=>(views S r).map (d :: ·)
theorem rD{S:Sto}:views S []=some []:=rfl
theorem lR{S:Sto}{x:XV}{r:List XV}:views S (x::r)=(cC S x).bind fun d=>(views S r).map (d :: ·):=rfl
def kX(m:Nat)(q:PN)(da:DA):DE:=fun δ S R=>da δ S fun xs S1=>∃ds,views S1 xs=some ds/\ds.length=m/\q (ds.map XV.d) [] (tI S1 R)
theorem JP{h o:List Addr}{H:Hp}{S:Sto}(hs:RepS h o H S):RepS h [] H []:=⟨rfl,ux,(fun _ h=>(nomatch h)),hs.hal,(fun _ _ _ e=>(by simp at e))⟩
theorem hxV{h o:List Addr}{H:Hp}{S:Sto}{x:XV}{v:V}{d:bc}(hs:RepS h o H S)(e:cC S x=some d)(q:HasX h o H x v):HasX h [] H (.d d) v:=by
 have sub:Same (vx h o H) (vx h [] H):=fun b u eb=>by
  obtain⟨z1,z2,z3⟩:=zN.mp eb;exact zN.mpr ⟨z1,yv,z3⟩
 unfold cC at e;split at e
 ·cases e;exact Has.mono sub _ _ q
 ·rename_i k;obtain⟨a,ea,rfl⟩:=q;cases hk:S[k]? with
  |none=>rw[hk]at e;cases e
  |some ds=>
   rw[hk]at e;cases e;obtain⟨vs,ev,l⟩:=hs.cont k a ds ea hk;exact dA.mpr ⟨a,vs,rfl,zN.mpr ⟨hs.dis a (ci ea),yv,ev⟩,l.mono sub⟩
 ·cases e
 ·cases e
 ·rename_i k d';obtain⟨t,a,u,rfl,ea,et,hu⟩:=q;cases hk:S[k]? with
  |none=>rw[hk]at e;cases e
  |some ds=>
   rw[hk]at e;cases e;obtain⟨vs,ev,l⟩:=hs.cont k a ds ea hk;exact cJ.mpr ⟨t,_,rfl,sub _ _ et,zp.mpr ⟨_,_,rfl,dA.mpr ⟨a,vs,rfl,zN.mpr ⟨hs.dis a (ci ea),yv,ev⟩,l.mono sub⟩,zp.mpr ⟨u,_,rfl,Has.mono sub _ _ hu,zA.mpr rfl⟩⟩⟩
 ·cases e
theorem GW{h o:List Addr}{H:Hp}{S:Sto}(hs:RepS h o H S):∀{xs:List XV}{vs:List V}{ds:List bc},views S xs=some ds->HasXs h o H xs vs->HasXs h [] H (ds.map XV.d) vs/\vs.length=ds.length
 | [],vs,ds,e,q=>by cases e;exact⟨q,by rw[show vs=[]from q];rfl⟩
 |x::xs,vs,ds,e,⟨v,r,e1,q,l⟩=>by
  rw[lR]at e;cases hd:cC S x with
  |none=>rw[hd]at e;cases e
  |some d=>
   rw[hd,Option.bind_some]at e;cases hr:views S xs with
   |none=>rw[hr]at e;cases e
   |some es=>
    rw[hr]at e;cases e;obtain⟨z1,z2⟩:=GW hs hr l;exact⟨⟨v,r,e1,hxV hs hd q,z1⟩,by rw[e1,cx,cx,z2]⟩
theorem cnV{h o:List Addr}{H:Hp}{S:Sto}{R:RX}{Q:VK}(hs:RepS h o H S)(c:Cn h o H R Q):Cn h [] H (tI S R) Q:=fun o' H' S' y v e s' hy q=>by
 unfold tI at q;split at q
 ·rename_i d;have sH:Same H H':=fun b u eb=>(e.kp b u yv eb).2;have e0:o'=[]:=df s'.len.symm;subst e0;have z:=hs.same sH;refine c o H' S (.d d) v (Ex.of_same sH) z (Cq (zZ (h:=h) (o:=[])) (fun b m=>?_) d v q.1 hy) q.2;exact m.elim (z.hal b) (z.oam b)
 ·exact q.elim
theorem Mz{ps:List Str}{q:PN}{m:Nat}{t:TA}{da:DA}(ha:RA t da)(hm:ps.length=m:=by rfl):RE (qV (spN ps q) [] E0 t) (kX m q da):=fun h o H δ σ S R Q he hs w c=>
 ha h o H δ σ S _ _ he hs w fun o1 H1 S1 xs vs e1 s1 x1 ⟨ds,e,hl,d1⟩=>by
  obtain⟨z1,z2⟩:=GW s1 e x1;rw[jg];exact⟨by rw[z2,hl,hm],h,[],[],_,_,JP s1,z1,d1,cnV s1 (c.pre e1)⟩
end
section
def DH(K:cq):List V->Hp->VK->Prop:=fun xs H Q=>AJ K xs H Q\/∃z,xs=[.str z]/\z.length<=dn/\Q (.int z.length) H
theorem zP{X:Cx}:CallR X (.builtin "len") (DH X.K):=By.or Nl
def tN(S:Sto):XV->Option Nat
 | .d (.tuple ds)=>some ds.length
 | .d (.list ds)=>some ds.length
 | .l k=>(S[k]?).map List.length
 | .d (.str z)=>if z.length<=dn then some z.length else none
 |_=>none
def aV:List XV->Sto->RX->Prop:=fun xs S R=>arg1 xs fun x=>∃n,tN S x=some n/\R (.d (.int n)) S
theorem lQ{K:cq}:RC (DH K) aV:=fun h o H S xs vs R Q hs hx q c=>by
 obtain⟨x,rfl,n,hd,q1⟩:=dU q;unfold tN at hd;split at hd
 ·cases hd;exact .inl (wS h o H S _ vs R Q hs hx ⟨_,rfl,q1⟩ c)
 ·cases hd;exact .inl (wS h o H S _ vs R Q hs hx ⟨_,rfl,q1⟩ c)
 ·rename_i k;cases hk:S[k]? with
  |none=>rw[hk]at hd;cases hd
  |some ds=>
   rw[hk]at hd;cases hd;exact .inl (wS h o H S _ vs R Q hs hx ⟨ds,hk,q1⟩ c)
 ·split at hd
  ·rename_i hz;cases hd;obtain⟨v,rfl,z⟩:=hxs1 hx;exact .inr ⟨_,by rw[d8 z],hz,c o H S _ _ Ex.refl hs (xI _) q1⟩
  ·cases hd
 ·cases hd
section
variable {S:Sto}{ds:List bc}{k:Nat}{z:Str}
theorem pZ:tN S (.d (.tuple ds))=some ds.length:=rfl
theorem mV:tN S (.d (.list ds))=some ds.length:=rfl
end
def tH(q:Bool):R2:=fun x y H Q=>∃d e ds,Has H d x/\Has H e y/\cv d=true/\cv (.list ds)=true/\(e=.list ds\/e=.tuple ds)/\Q (.bl (if q then !ds.any (fun y=>dm y d)else ds.any (fun y=>dm y d))) H
theorem Ff{ds:List bc}(h:cv (.list ds)=true):jv ds=true/\ke ds<=63:=by
 have h1:=fx h;have h2:=SeqAt.depth_of_shaped h;simp only[lg,PyData.depth]at h1 h2;exact⟨h1,yw⟩
theorem OI{X:Cx}(hu:X.A.units+64<kq):OpR X (ir .In) (tH false):=by
 intro zi s σ H x y v u Q I rx ry h;obtain⟨d,e,ds,hd,he,sd,se,ee,q⟩:=h;obtain⟨s1,s2⟩:=Ff se;obtain⟨as,q1⟩:=Has.reads I d x v hd (fx sd) rx;have hm:X.A.units+1+min (ke ds) d.depth<kq:=by
  have:=Nat.min_le_left (ke ds) d.depth;omega
 rcases ee with rfl|rfl
 ·obtain⟨bs,q2⟩:=Has.reads I (.list ds) y u he (by simpa only[lg]using s1) ry;exact SeqAt.in_list_reads q2 q1 s1 (fx sd) hm ⟨.bl _,H,I,rfl,q⟩
 ·obtain⟨bs,q2⟩:=Has.reads I (.tuple ds) y u he (by simpa only[lg]using s1) ry;exact SeqAt.in_tuple_reads q2 q1 s1 (fx sd) hm ⟨.bl _,H,I,rfl,q⟩
theorem Il{X:Cx}(hu:X.A.units+64<kq):OpR X (ir .NotIn) (tH true):=by
 intro zi s σ H x y v u Q I rx ry h;obtain⟨d,e,ds,hd,he,sd,se,ee,q⟩:=h;obtain⟨s1,s2⟩:=Ff se;obtain⟨as,q1⟩:=Has.reads I d x v hd (fx sd) rx;have hm:X.A.units+1+min (ke ds) d.depth<kq:=by
  have:=Nat.min_le_left (ke ds) d.depth;omega
 rcases ee with rfl|rfl
 ·obtain⟨bs,q2⟩:=Has.reads I (.list ds) y u he (by simpa only[lg]using s1) ry;exact SeqAt.notIn_list_reads q2 q1 s1 (fx sd) hm ⟨.bl _,H,I,rfl,q⟩
 ·obtain⟨bs,q2⟩:=Has.reads I (.tuple ds) y u he (by simpa only[lg]using s1) ry;exact SeqAt.notIn_tuple_reads q2 q1 s1 (fx sd) hm ⟨.bl _,H,I,rfl,q⟩
def Fl:R2:=fun x y H Q=>tH false x y H Q\/∃i j,x=.str i/\y=.str j/\Q (.bl (!(ls j i 0 j.length 1).isEmpty)) H
theorem N9{X:Cx}(hu:X.A.units+64<kq):OpR X (ir .In) Fl:=(OI hu).or Nr
def F7:R2:=fun x y H Q=>tH true x y H Q\/∃i j,x=.str i/\y=.str j/\Q (.bl (!(!(ls j i 0 j.length 1).isEmpty))) H
theorem A2{X:Cx}(hu:X.A.units+64<kq):OpR X (ir .NotIn) F7:=(Il hu).or Nk
def dIn:D2:=fun x y S R=>match y with
 | .d (.str b)=>asS x fun a=>R (.d (.bool (!(ls b a 0 b.length 1).isEmpty))) S
 |y=>∃d,cC S x=some d/\∃ds,asQ S y=some ds/\cv d=true/\cv (.list ds)=true/\R (.d (.bool (ds.any fun y=>dm y d))) S
def j6:D2:=fun x y S R=>match y with
 | .d (.str b)=>asS x fun a=>R (.d (.bool (!(!(ls b a 0 b.length 1).isEmpty)))) S
 |y=>∃d,cC S x=some d/\∃ds,asQ S y=some ds/\cv d=true/\cv (.list ds)=true/\R (.d (.bool (!ds.any fun y=>dm y d))) S
theorem Es{h o:List Addr}{H:Hp}{S:Sto}{x:XV}{v:V}{ds:List bc}(hs:RepS h o H S)(e:asQ S x=some ds)(q:HasX h o H x v):∃e,Has H e v/\(e=.list ds\/e=.tuple ds):=by
 unfold asQ at e;split at e
 ·cases e;exact⟨_,eP (x:=.d _) hs rfl q,.inr rfl⟩
 ·cases e;exact⟨_,eP (x:=.d _) hs rfl q,.inl rfl⟩
 ·rename_i k;exact⟨.list ds,eP (x:=.l k) hs (by show (S[k]?).map PyData.list=_;rw[e];rfl) q,.inl rfl⟩
 ·cases e
theorem NO:RO Fl dIn:=fun h o H S x y v u R Q hs hx hy q c=>by
 unfold dIn at q;split at q
 ·replace q:=uU q;obtain⟨a,rfl,q⟩:=q;exact .inr ⟨_,_,d8 hx,d8 hy,c o H S _ _ Ex.refl hs (xB _) q⟩
 ·obtain⟨d,e1,ds,e2,s1,s2,q⟩:=q;obtain⟨e,he,ee⟩:=Es hs e2 hy;exact .inl ⟨d,e,ds,eP hs e1 hx,he,s1,s2,ee,c o H S _ _ Ex.refl hs (xB _) q⟩
theorem HB:RO F7 j6:=fun h o H S x y v u R Q hs hx hy q c=>by
 unfold j6 at q;split at q
 ·replace q:=uU q;obtain⟨a,rfl,q⟩:=q;exact .inr ⟨_,_,d8 hx,d8 hy,c o H S _ _ Ex.refl hs (xB _) q⟩
 ·obtain⟨d,e1,ds,e2,s1,s2,q⟩:=q;obtain⟨e,he,ee⟩:=Es hs e2 hy;exact .inl ⟨d,e,ds,eP hs e1 hx,he,s1,s2,ee,c o H S _ _ Ex.refl hs (xB _) q⟩
section
variable {S:Sto}{ds:List bc}{k:Nat}{a b:Str}{x:XV}{R:RX}
theorem qS:dIn x (.d (.tuple ds)) S R↔∃d,cC S x=some d/\cv d=true/\cv (.list ds)=true/\R (.d (.bool (ds.any fun y=>dm y d))) S:=⟨fun⟨d,e,_,e',q⟩=>by cases e';exact⟨d,e,q⟩,fun⟨d,e,q⟩=>⟨d,e,_,rfl,q⟩⟩
theorem pK:j6 x (.d (.tuple ds)) S R↔∃d,cC S x=some d/\cv d=true/\cv (.list ds)=true/\R (.d (.bool (!ds.any fun y=>dm y d))) S:=⟨fun⟨d,e,_,e',q⟩=>by cases e';exact⟨d,e,q⟩,fun⟨d,e,q⟩=>⟨d,e,_,rfl,q⟩⟩
theorem qA:j6 x (.l k) S R↔∃d,cC S x=some d/\∃ds,S[k]?=some ds/\cv d=true/\cv (.list ds)=true/\R (.d (.bool (!ds.any fun y=>dm y d))) S:=Iff.rfl
end
def pL(a:DA):DI:=fun δ S R=>a δ S fun xs S1=>arg1 xs fun x=>∃ds,eQ x=some ds/\R (Bc 0 ds) S1
def iS:XV->List XV->Sto->RX->Prop:=fun x xs S R=>∃k,x=.l k/\∃ds,S[k]?=some ds/\xs=[]/\∃d,ds[ds.length-1]?=some d/\R (.d d) (S.set k ds.dropLast)
theorem HasL.dropLast{H:Hp}:∀{ds:List bc}{vs:List V},HasL H ds vs->HasL H ds.dropLast vs.dropLast
 | [],vs,l=>by rw[zA.mp l];exact zA.mpr rfl
 | [d],vs,l=>by
  obtain⟨v,r,rfl,_,l⟩:=zp.mp l;rw[zA.mp l];exact zA.mpr rfl
 |d::e::ds,vs,l=>by
  obtain⟨v,r,rfl,hv,l⟩:=zp.mp l;obtain⟨w,r,rfl,hw,l'⟩:=zp.mp l;rw[List.dropLast_cons₂,List.dropLast_cons₂];exact zp.mpr ⟨v,_,rfl,hv,HasL.dropLast l⟩
theorem Ji:RM Du iS:=fun h o H S x v xs vs R Q hs hx z q c=>by
 obtain⟨k,rfl,ds,e,rfl,d,ed,q1⟩:=q;obtain⟨a,ea,rfl⟩:=hx;obtain⟨ws,ew,l⟩:=hs.cont k a ds ea e;cases z;obtain⟨y,ey,hy⟩:=l.get ed;exact⟨a,ws,y,rfl,rfl,ew,by rw[l.length];exact ey,c o _ _ (.d d) _ (Ex.upd ea) (hs.upd ea l.dropLast) (HasX.mono (x:=.d d) (Ex.upd ea) hy) q1⟩
def kJ(rd:XV->List XV->Sto->RX->Prop)(e:DE)(a:DA):DE:=fun δ S R=>e δ S fun x S1=>∃z,x=.d (.str z)/\a δ S1 fun xs S2=>rd x xs S2 R
theorem F5{K:cq}{r:V->List V->Hp->VK->Prop}{rd:XV->List XV->Sto->RX->Prop}{te:TE}{de:DE}{tl:TA}{dl:DA}(hr:RM r rd)(aa:RE te de)(ha:RA tl dl):RE (tBM K "str" r te tl) (kJ rd de dl):=fun h o H δ σ S R Q he hs q c=>
 aa h o H δ σ S _ _ he hs q fun o1 H1 S1 x v e1 s1 x1 ⟨z,ez,d1⟩=>by
  subst ez;cases d8 x1;exact⟨rfl,ha h o1 H1 δ σ S1 _ _ (he.mono e1) s1 d1 fun o2 H2 S2 xs vs e2 s2 x2 d2=>hr h o2 H2 S2 (.d (.str z)) _ xs vs R Q s2 (HasX.mono (x:=.d (.str z)) e2 x1) x2 d2 (c.pre (e1.trans e2))⟩
theorem Cm{H:Hp}:∀{ns:List Str}{vs:List V},HasL H (ns.map ph) vs->vs=ns.map V.str
 | [],vs,h=>zA.mp h
 |n::ns,vs,h=>by
  obtain⟨v,r,rfl,h1,h2⟩:=zp.mp h;rw[gC.mp h1,Cm h2];rfl
def kT:XV->List XV->Sto->RX->Prop:=fun x xs S R=>asS x fun z=>arg1 xs fun y=>∃ds,dZ S y=some ds/\∃zs:List Str,ds=zs.map ph/\z.length<=16/\zs.length<=1000/\(∀y∈zs,y.length<=1000)/\R (.d (.str (PySem.Txt.join z zs))) S
theorem Nq{K:cq}:RM (Az K) kT:=fun h o H S x v xs vs R Q hs hx aa q c=>by
 replace q:=uU q;obtain⟨z,rfl,q⟩:=q;obtain⟨y,rfl,ds,e,zs,rfl,h1,h2,h3,q1⟩:=dU q;obtain⟨u,rfl,hu⟩:=hxs1 aa;obtain⟨a,ws,rfl,ea,l⟩:=cG hs e hu;rw[Cm l]at ea;exact⟨z,a,zs,d8 hx,rfl,.of ea,h1,h2,h3,c o H S _ _ Ex.refl hs (xS _) q1⟩
def kF:D2:=fun x y S R=>asL S x fun ds=>asL S y fun es=>ds.length+es.length<=1000/\R (.l S.length) (S++[ds++es])
theorem IZ:RO l0 kF:=fun h o H S x y v u R Q hs hx hy q c=>by
 obtain⟨ds,e0,es,e1,hl,q⟩:=q;obtain⟨a,vs,rfl,ea,la⟩:=cG hs e0 hx;obtain⟨b,us,rfl,eb,lb⟩:=cG hs e1 hy;exact⟨a,b,vs,us,rfl,rfl,ea,eb,by rw[la.length,lb.length];exact jn (small1000 hl),Fe hs (la.append lb) c q⟩
abbrev BP (a:Addr) (m:Nat):DEnds:={ nx:=fun δ _=>δ[0]?=some (some (.o (.ref a)))/\δ.length=m+1,ct:=fun δ _=>δ[0]?=some (some (.o (.ref a)))/\δ.length=m+1,rt:=fun _ _=>False }
end
section
open Sem (wp)
def ItK(t:Bool)(h:Heap)(j a:Addr)(k:Nat):Prop:=match t with
 |true=>h.IsTupleIter j a k
 |false=>h.IsListIter j a k
def SqK(t:Bool)(h:Heap)(a:Addr)(xs:Array bb):Prop:=match t with
 |true=>h.IsTuple a xs
 |false=>h.IsList a xs
theorem ItK.at{t:Bool}{h g:Heap}{j a:Addr}{k:Nat}(q:ItK t h j a k)(f:∀o,h.get? j=some o->g.get? j=some o):ItK t g j a k:=by
 cases t
 ·exact Heap.IsListIter.at (show h.IsListIter j a k from q) f
 ·exact Heap.IsTupleIter.at (show h.IsTupleIter j a k from q) f
theorem ItK.here{t:Bool}{h:Heap}{j a:Addr}{k:Nat}(q:ItK t h j a k):∃o,h.get? j=some o/\∀v,o.data≠.cell v:=by
 cases t<;>(obtain⟨o,e,c,d⟩:=q;exact⟨o,e,fun v z=>by rw[d]at z;cases z⟩)
theorem SqK.at{t:Bool}{h g:Heap}{a:Addr}{xs:Array bb}(q:SqK t h a xs)(f:∀o,h.get? a=some o->g.get? a=some o):SqK t g a xs:=by
 cases t<;>(obtain⟨o,e,r⟩:=q;exact⟨o,f o e,r⟩)
theorem SqK.here{t:Bool}{h:Heap}{a:Addr}{xs:Array bb}(q:SqK t h a xs):∃o,h.get? a=some o:=by
 cases t<;>(obtain⟨o,e,r⟩:=q;exact⟨o,e⟩)
section
variable {prog:cz}{w:fy}{A:ft}{E:bb->bd->Prop}{s:bd}
theorem yS{t:Bool}{j a:Addr}{k:Nat}{xs:Array bb}{x:bb}{Q:bb->bd->Prop}(hj:ItK t s.heap j a k)(ha:SqK t s.heap a xs)(hx:xs[k]?=some x)
  (hQ:∀g,ItK t g j a (k+1)->fg j s.heap g->Q x { s with heap:=g }):bo (model prog w) A (gz (.ref j)) Q E s:=by
 cases t
 ·exact wpAny_nextOf_list_item hj ha hx hQ
 ·exact Nd hj ha hx hQ
theorem Ft{t:Bool}{j a:Addr}{k:Nat}{xs:Array bb}{Q:bb->bd->Prop}(hh:A.handled=none)(hj:ItK t s.heap j a k)(ha:SqK t s.heap a xs)(hx:xs[k]?=none)
  (hE:∀g e,Heap.ExtBut j s.heap g->(∃o,g.get? e=some o/\o.cls=.type "StopIteration")->E (.ref e) { s with heap:=g }):bo (model prog w) A (gz (.ref j)) Q E s:=by
 cases t
 ·exact wpAny_nextOf_list_end hh hj ha hx hE
 ·exact LR hh hj ha hx hE
theorem CO{t:Bool}{a:Addr}{xs:Array bb}{Q:bb->bd->Prop}(ha:SqK t s.heap a xs)(hQ:Q (.ref s.heap.objs.size) { s with heap:=s.heap.push { cls:=.type (if t then "tuple_iterator" else "list_iterator"),data:=.fields #[.ref a,.int 0 0] } }):bo (model prog w) A (pyIter (.ref a)) Q E s:=by
 cases t
 ·exact oo ha hQ
 ·exact wpAny_pyIter_tuple ha hQ
theorem AF{T:Addr}{c d x:bb}{k:Nat}{Q:Unit->bd->Prop}(hT:rg s.heap T c d)(hQ:∀g,g.get? T=some { cls:=.type "tuple",data:=.seq ((#[c,d]:Array bb).setIfInBounds k x) }->fg T s.heap g->Q () { s with heap:=g }):
  bo (model prog w) A (uy T (·.setIfInBounds k x)) Q E s:=wpAny_updateSeq_pair hT hQ
structure ZAp(z p r i j a b:Addr):Prop where
 pz:p≠z
 rz:r≠z
 iz:i≠z
 jz:j≠z
 pr:p≠r
 pi:p≠i
 pj:p≠j
 ri:r≠i
 rj:r≠j
 ij:i≠j
 az:a≠z
 ar:a≠r
 ai:a≠i
 aj:a≠j
 bz:b≠z
 br:b≠r
 bi:b≠i
 bj:b≠j
theorem L0{t u:Bool}{z p r i j a b:Addr}{k m:Nat}{xs ys:Array bb}{x y c d:bb}{Q:bb->bd->Prop}(D:ZAp z p r i j a b)(hz:IsZip s.heap z p r .none)(hp:rg s.heap p (.ref i) (.ref j))(hr:rg s.heap r c d)
  (hi:ItK t s.heap i a k) (hj:ItK u s.heap j b m) (ha:SqK t s.heap a xs) (hb:SqK u s.heap b ys) (hx:xs[k]?=some x) (hy:ys[m]?=some y)
  (hQ:∀g,IsZip g z p r (kh s.heap.objs.size)->rg g r x y->ItK t g i a (k+1)->ItK u g j b (m+1)->rg g s.heap.objs.size x y ->
   (∀q o,q≠z->q≠r->q≠i->q≠j->s.heap.get? q=some o->g.get? q=some o)->Q (.ref s.heap.objs.size) { s with heap:=g }):
  bo (model prog w) A (ny.«zip.__next__» ⟨[.ref z],[]⟩) (fun fn s'=>∃v,fn=.done (.ret v)/\Q v s') E s:=by
 obtain⟨h0,gs,dr,tk,os⟩:=s;show bo _ _ (field (.ref z) 2 >>= _) _ _ ⟨h0,gs,dr,tk,os⟩;refine ba (jf hz rfl (x:=.bool false) rfl ?_);show bo _ _ (field (.ref z) 3 >>= _) _ _ ⟨h0,gs,dr,tk,os⟩;refine ba (jf hz rfl (x:=.ref p) rfl (ba (iy hp rfl ?_)));show bo _ _ (Builtin.SmallTypes.ownedTupleIsFree (.ref z) >>= _) _ _ ⟨h0,gs,dr,tk,os⟩;refine ba ?_;unfold Builtin.SmallTypes.ownedTupleIsFree;refine ba (jf hz rfl (x:=.none) rfl (be ?_));simp only[if_true];refine ba (pf (ba (jf hz rfl (x:=.ref r) rfl (ba (gf hz yv fun g1 z1 b1=>?_)))));replace z1:IsZip g1 z p r .ellipsis:=z1;replace b1:fg z h0 g1:=b1;refine ba ?_;simp only[List.zipIdx_cons,List.zipIdx_nil,forIn_cons,List.forIn_nil];refine ba (ba (wpAny_onRaise ?_));show bo _ _ (gz (.ref i) >>= _) _ _ ⟨g1,gs,dr,tk,os⟩;refine ba (yS (s:=⟨g1,gs,dr,tk,os⟩) (hi.at fun o e=>b1.extBut i o D.iz e) (ha.at fun o e=>b1.extBut a o D.az e) hx fun g2 i2 b2=>be ?_);replace b2:fg i g1 g2:=b2;have r2:rg g2 r c d:=b2.extBut r _ D.ri (b1.extBut r _ D.rz hr);refine ba (iy (s:=⟨g2,gs,dr,tk,os⟩) r2 rfl (ba (AF (s:=⟨g2,gs,dr,tk,os⟩) r2 fun g3 r3 b3=>?_)));replace r3:rg g3 r x d:=r3;replace b3:fg r g2 g3:=b3;refine ba (nu (be (ba (ba (wpAny_onRaise ?_)))));show bo _ _ (gz (.ref j) >>= _) _ _ ⟨g3,gs,dr,tk,os⟩;have aa:∀q o,q≠z->q≠r->q≠i->h0.get? q=some o->g3.get? q=some o:=fun q o n1 n2 n3 e=>b3.extBut q o n2 (b2.extBut q o n3 (b1.extBut q o n1 e));refine ba (yS (s:=⟨g3,gs,dr,tk,os⟩) (hj.at fun o e=>aa j o D.jz (gq D.rj) (gq D.ij) e) (hb.at fun o e=>aa b o D.bz D.br D.bi e) hy fun g4 j4 b4=>be ?_);replace b4:fg j g3 g4:=b4;have r4:rg g4 r x d:=b4.extBut r _ D.rj r3;refine ba (iy (s:=⟨g4,gs,dr,tk,os⟩) r4 rfl (ba (AF (s:=⟨g4,gs,dr,tk,os⟩) r4 fun g5 r5 b5=>?_)));replace r5:rg g5 r x y:=r5;replace b5:fg r g4 g5:=b5;refine ba (nu (be (be (ba (iy (s:=⟨g5,gs,dr,tk,os⟩) r5 rfl (ba (wpAny_newTuple ?_)))))));have sz:g5.objs.size=h0.objs.size:=by rw[b5.1,b4.1,b3.1,b2.1,b1.1]
 have z5:IsZip g5 z p r .ellipsis:=b5.extBut z _ (gq D.rz) (b4.extBut z _ (gq D.jz) (b3.extBut z _ (gq D.rz) (b2.extBut z _ (gq D.iz) z1)));have k5:∀q o,q≠z->q≠r->q≠i->q≠j->h0.get? q=some o->g5.get? q=some o:=fun q o n1 n2 n3 n4 e=>b5.extBut q o n2 (b4.extBut q o n4 (aa q o n1 n2 n3 e));have i5:ItK t g5 i a (k+1):=ItK.at i2 fun o e=>b5.extBut i o (gq D.ri) (b4.extBut i o D.ij (b3.extBut i o (gq D.ri) e));have j5:ItK u g5 j b (m+1):=ItK.at j4 fun o e=>b5.extBut j o (gq D.rj) e;have zl:z<g5.objs.size:=fj z5;show bo _ _ (Builtin.SmallTypes.ownedTupleHandOut (.ref z) (.ref g5.objs.size) >>= _) _ _ _;refine ba ?_;unfold Builtin.SmallTypes.ownedTupleHandOut;have z6:IsZip (g5.push { cls:=.type "tuple",data:=.seq #[x,y] }) z p r .ellipsis:=bf _ z5;refine ba (gf z6 yv fun g7 z7 b7=>?_);replace z7:IsZip g7 z p r (kh g5.objs.size):=z7;replace b7:fg z (g5.push { cls:=.type "tuple",data:=.seq #[x,y] }) g7:=b7;refine gf z7 yv fun g8 z8 b8=>?_;replace z8:IsZip g8 z p r (kh g5.objs.size):=z8;replace b8:fg z g7 g8:=b8;have up:∀q o,q≠z->g5.get? q=some o->g8.get? q=some o:=fun q o n e=>b8.extBut q o n (b7.extBut q o n (bf _ e));have t8:rg g8 g5.objs.size x y:=b8.extBut _ _ (uz zl) (b7.extBut _ _ (uz zl) (bv _ rfl));rw[sz]at z8 t8;refine be ⟨_,rfl,?_⟩;show Q (.ref g5.objs.size) _;rw[sz];exact hQ g8 z8 (up r _ D.rz r5) (i5.at fun o e=>up i o D.iz e) (j5.at fun o e=>up j o D.jz e) t8 fun q o n1 n2 n3 n4 e=>up q o n1 (k5 q o n1 n2 n3 n4 e)
theorem J6{t u:Bool}{z p r i j a b:Addr}{k m:Nat}{xs ys:Array bb}{c d:bb}{Q:Fin->bd->Prop}(hh:A.handled=none)(D:ZAp z p r i j a b)(hz:IsZip s.heap z p r .none)(hp:rg s.heap p (.ref i) (.ref j))(hr:rg s.heap r c d)
  (hi:ItK t s.heap i a k) (hj:ItK u s.heap j b m) (ha:SqK t s.heap a xs) (hb:SqK u s.heap b ys) (hend:xs[k]?=none\/ys[m]?=none)
  (hE:∀g e,(∀q o,q≠z->q≠r->q≠i->q≠j->s.heap.get? q=some o->g.get? q=some o)->(∃o,g.get? e=some o/\o.cls=.type "StopIteration")->E (.ref e) { s with heap:=g }):
  bo (model prog w) A (ny.«zip.__next__» ⟨[.ref z],[]⟩) Q E s:=by
 obtain⟨h0,gs,dr,tk,os⟩:=s;show bo _ _ (field (.ref z) 2 >>= _) _ _ ⟨h0,gs,dr,tk,os⟩;refine ba (jf hz rfl (x:=.bool false) rfl ?_);show bo _ _ (field (.ref z) 3 >>= _) _ _ ⟨h0,gs,dr,tk,os⟩;refine ba (jf hz rfl (x:=.ref p) rfl (ba (iy hp rfl ?_)));show bo _ _ (Builtin.SmallTypes.ownedTupleIsFree (.ref z) >>= _) _ _ ⟨h0,gs,dr,tk,os⟩;refine ba ?_;unfold Builtin.SmallTypes.ownedTupleIsFree;refine ba (jf hz rfl (x:=.none) rfl (be ?_));simp only[if_true];refine ba (pf (ba (jf hz rfl (x:=.ref r) rfl (ba (gf hz yv fun g1 z1 b1=>?_)))));replace z1:IsZip g1 z p r .ellipsis:=z1;replace b1:fg z h0 g1:=b1;refine ba ?_;simp only[List.zipIdx_cons,List.zipIdx_nil,forIn_cons,List.forIn_nil];refine ba (ba (wpAny_onRaise ?_));show bo _ _ (gz (.ref i) >>= _) _ _ ⟨g1,gs,dr,tk,os⟩;have aa:∀{g:Heap}{e:Addr}{o:Obj},IsZip g z p r .ellipsis->g.get? e=some o->o.cls=.type "StopIteration"->e≠z:=fun h1 h2 h3 w=>by
  subst w;rw[h1]at h2;cases h2;simp at h3
 cases hx:xs[k]? with
 |none=>
  refine ba (Ft (s:=⟨g1,gs,dr,tk,os⟩) hh (hi.at fun o e=>b1.extBut i o D.iz e) (ha.at fun o e=>b1.extBut a o D.az e) hx fun g2 e b2 he=>?_);obtain⟨oe,e1,e2⟩:=he;have z2:IsZip g2 z p r .ellipsis:=b2 z _ (gq D.iz) z1;exact gf z2 yv fun g3 _ b3=>hE g3 e (fun q o n1 _ n3 _ w=>b3.extBut q o n1 (b2 q o n3 (b1.extBut q o n1 w))) ⟨oe,b3.extBut e oe (aa z2 e1 e2) e1,e2⟩
 |some x=>
  have hy:ys[m]?=none:=hend.elim (fun w=>by rw[hx]at w;cases w) id;refine ba (yS (s:=⟨g1,gs,dr,tk,os⟩) (hi.at fun o e=>b1.extBut i o D.iz e) (ha.at fun o e=>b1.extBut a o D.az e) hx fun g2 i2 b2=>be ?_);replace b2:fg i g1 g2:=b2;have r2:rg g2 r c d:=b2.extBut r _ D.ri (b1.extBut r _ D.rz hr);refine ba (iy (s:=⟨g2,gs,dr,tk,os⟩) r2 rfl (ba (AF (s:=⟨g2,gs,dr,tk,os⟩) r2 fun g3 r3 b3=>?_)));replace b3:fg r g2 g3:=b3;refine ba (nu (be (ba (ba (wpAny_onRaise ?_)))));show bo _ _ (gz (.ref j) >>= _) _ _ ⟨g3,gs,dr,tk,os⟩;have ab:∀q o,q≠z->q≠r->q≠i->h0.get? q=some o->g3.get? q=some o:=fun q o n1 n2 n3 e=>b3.extBut q o n2 (b2.extBut q o n3 (b1.extBut q o n1 e));refine ba (Ft (s:=⟨g3,gs,dr,tk,os⟩) hh (hj.at fun o e=>ab j o D.jz (gq D.rj) (gq D.ij) e) (hb.at fun o e=>ab b o D.bz D.br D.bi e) hy fun g4 e b4 he=>?_);obtain⟨oe,e1,e2⟩:=he;have z4:IsZip g4 z p r .ellipsis:=b4 z _ (gq D.jz) (b3.extBut z _ (gq D.rz) (b2.extBut z _ (gq D.iz) z1));exact gf z4 yv fun g5 _ b5=>hE g5 e (fun q o n1 n2 n3 n4 w=>b5.extBut q o n1 (b4 q o n4 (ab q o n1 n2 n3 w))) ⟨oe,b5.extBut e oe (aa z4 e1 e2) e1,e2⟩
abbrev kK (t:Bool) (h:Heap) (a:Addr):Heap:=h.push { cls:=.type (if t then "tuple_iterator" else "list_iterator"),data:=.fields #[.ref a,.int 0 0] }
abbrev iM (t u:Bool) (h:Heap) (a b:Addr):Heap:=(kK t h a).push { cls:=.type (if u then "tuple_iterator" else "list_iterator"),data:=.fields #[.ref b,.int 0 0] }
abbrev i7 (t u:Bool) (h:Heap) (a b:Addr):Heap:=(iM t u h a b).push { cls:=.type "tuple",data:=.seq #[.ref h.objs.size,.ref (kK t h a).objs.size] }
abbrev kQ (t u:Bool) (h:Heap) (a b:Addr):Heap:=(i7 t u h a b).push { cls:=.type "tuple",data:=.seq #[.none,.none] }
abbrev xA (t u:Bool) (h:Heap) (a b:Addr):Heap:=(kQ t u h a b).push { cls:=.type "zip",data:=.fields #[.none,.bool false,.bool false,.ref (iM t u h a b).objs.size,.ref (i7 t u h a b).objs.size] }
theorem HJ(t u:Bool)(a b:Addr)(xs ys:Array bb):Meets (ny.«zip.__new__» ⟨[.type "zip",.ref a,.ref b],[]⟩) (fun _ R s=>SqK t s.heap a xs/\SqK u s.heap b ys /\
   ∀g,IsZip g (s.heap.objs.size+4) (s.heap.objs.size+2) (s.heap.objs.size+3) .none->rg g (s.heap.objs.size+2) (.ref s.heap.objs.size) (.ref (s.heap.objs.size+1))->rg g (s.heap.objs.size+3) .none .none ->
    ItK t g s.heap.objs.size a 0->ItK u g (s.heap.objs.size+1) b 0->(∀q o,s.heap.get? q=some o->g.get? q=some o)->R (.ok (.ret (.ref (s.heap.objs.size+4)))) { s with heap:=g }):=
 .of_wp fun prog w A R s z=>by
  obtain⟨g0,gs,dr,tk,os⟩:=s;obtain⟨ha,hb,z⟩:=z;have sub:=sub_zip;have hA:SqK t (Shared.heap ⟨g0,gs,dr,tk,os⟩) a xs:=ha;have hB:SqK u (Shared.heap ⟨g0.push { cls:=.type (if t then "tuple_iterator" else "list_iterator"),data:=.fields #[.ref a,.int 0 0] },gs,dr,tk,os⟩) b ys:=SqK.at hb fun o e=>bf _ e
  wp_walk using CO hA,CO hB
  refine⟨_,rfl,?_⟩;have z1:(kK t g0 a).objs.size=g0.objs.size+1:=qa ..;have z2:(iM t u g0 a b).objs.size=g0.objs.size+2:=by rw[qa,z1]
  have z3:(i7 t u g0 a b).objs.size=g0.objs.size+3:=by rw[qa,z2]
  have z4:(kQ t u g0 a b).objs.size=g0.objs.size+4:=by rw[qa,z3]
  have f1:=bv g0 (o:={ cls:=.type (if t then "tuple_iterator" else "list_iterator"),data:=.fields #[.ref a,.int 0 0] }) (by cases t<;>rfl);have f2:=bv (kK t g0 a) (o:={ cls:=.type (if u then "tuple_iterator" else "list_iterator"),data:=.fields #[.ref b,.int 0 0] }) (by cases u<;>rfl);have f3:=bv (iM t u g0 a b) (o:={ cls:=.type "tuple",data:=.seq #[.ref g0.objs.size,.ref (kK t g0 a).objs.size] }) rfl;have f4:=bv (i7 t u g0 a b) (o:={ cls:=.type "tuple",data:=.seq #[.none,.none] }) rfl;have f5:=bv (kQ t u g0 a b) (o:={ cls:=.type "zip",data:=.fields #[.none,.bool false,.bool false,.ref (iM t u g0 a b).objs.size,.ref (i7 t u g0 a b).objs.size] }) rfl;have c1:∀q o,g0.get? q=some o->(kK t g0 a).get? q=some o:=fun q o e=>bf _ e;have c2:∀q o,(kK t g0 a).get? q=some o->(iM t u g0 a b).get? q=some o:=fun q o e=>bf _ e;have c3:∀q o,(iM t u g0 a b).get? q=some o->(i7 t u g0 a b).get? q=some o:=fun q o e=>bf _ e;have c4:∀q o,(i7 t u g0 a b).get? q=some o->(kQ t u g0 a b).get? q=some o:=fun q o e=>bf _ e;have c5:∀q o,(kQ t u g0 a b).get? q=some o->(xA t u g0 a b).get? q=some o:=fun q o e=>bf _ e;have y1:=c5 _ _ (c4 _ _ (c3 _ _ (c2 _ _ f1)));have y2:=c5 _ _ (c4 _ _ (c3 _ _ f2));have y3:=c5 _ _ (c4 _ _ f3);have y4:=c5 _ _ f4;have y5:(xA t u g0 a b).get? (kQ t u g0 a b).objs.size=some { cls:=.type "zip",data:=.fields #[.none,.bool false,.bool false,.ref (iM t u g0 a b).objs.size,.ref (i7 t u g0 a b).objs.size] }:=f5;have fin:R (.ok (.ret (.ref (kQ t u g0 a b).objs.size))) ⟨xA t u g0 a b,gs,dr,tk,os⟩:=by
   rw[z4,z2,z3]at y5;rw[z2,z1]at y3;rw[z3]at y4;rw[z1]at y2;rw[z4];refine z _ y5 y3 y4 ?_ ?_ fun q o e=>c5 q o (c4 q o (c3 q o (c2 q o (c1 q o e))))
   ·cases t<;>exact⟨_,y1,rfl,rfl⟩
   ·cases u<;>exact⟨_,y2,rfl,rfl⟩
  exact fin
theorem IF{t u:Bool}{a b:Addr}{xs ys:Array bb}{Q:bb->bd->Prop}(ha:SqK t s.heap a xs)(hb:SqK u s.heap b ys)
  (hyp:∀g,IsZip g (s.heap.objs.size+4) (s.heap.objs.size+2) (s.heap.objs.size+3) .none->rg g (s.heap.objs.size+2) (.ref s.heap.objs.size) (.ref (s.heap.objs.size+1))->rg g (s.heap.objs.size+3) .none .none ->
    ItK t g s.heap.objs.size a 0->ItK u g (s.heap.objs.size+1) b 0->(∀q o,s.heap.get? q=some o->g.get? q=some o)->Q (.ref (s.heap.objs.size+4)) { s with heap:=g }):bo (model prog w) A (call (.type "zip") [.ref a,.ref b]) Q E s:=by
 refine callType_new F.called_zip dz (F.typeCall_zip_2 _ _) (F.newCall_zip_2 _ _) (fun ob=>F.args_object_init_3 ob _ _) F.entry_zip_new (HJ t u a b xs ys) ⟨ha,hb,fun g h1 h2 h3 h4 h5 h6=>?_⟩;exact⟨⟨_,h1,rfl⟩,hyp g h1 h2 h3 h4 h5 h6⟩
end
def Itz(S1 S2:Hp->Addr->List V->Prop)(a b:Addr):It:=
 ⟨fun i H=>∃xs ys x y,S1 H a xs/\S2 H b ys/\xs[i]?=some x/\ys[i]?=some y,fun i H x H'=>∃p v u,H p=none/\x=.ref p/\H'=upd H p (.tup [v,u])/\(∀xs,S1 H a xs->xs[i]?=some v)/\(∀ys,S2 H b ys->ys[i]?=some u),fun i H=>∃xs ys,S1 H a xs/\S2 H b ys/\(xs.length<=i\/ys.length<=i)⟩
def SqV(K:cq)(t:Bool)(H:Hp)(a:Addr)(xs:List V):Prop:=match t with
 |true=>SqT K H a xs
 |false=>SqL K H a xs
theorem Inv.seqK{X:Cx}{zi:List (Addr×Obj)}{σ:St}{H:Hp}{s:bd}{t:Bool}{a:Addr}{xs:List V}(I:Inv X zi σ H s)(h:SqV X.K t H a xs):∃q:List bb,Vals xs q/\SqK t s.heap a q.toArray/\∀ys,SqV X.K t H a ys->ys=xs:=by
 cases t
 ·obtain⟨q,rv,p,_⟩:=I.list h;exact⟨q,rv,p.isList,fun ys hy=>I.list_inj hy h⟩
 ·obtain⟨q,rv,p,_⟩:=I.tuple h;exact⟨q,rv,p,fun ys hy=>I.tuple_inj hy h⟩
theorem G7{P:cz}{w:fy}{K:cq}{elts:List Expr}{n:Nat}{pos:Pos}(t u:Bool)(z p r i j a b:Addr)(D:ZAp z p r i j a b):Turn P w K (.Tuple elts n pos) (Itz (SqV K t) (SqV K u) a b) [z,p,r,i,j] z
  (fun k h=>IsZip h z p r .none/\rg h p (.ref i) (.ref j)/\(∃c d,rg h r c d)/\ItK t h i a k/\ItK u h j b k) where
 mem:=by simp
 obj:=fun k h ⟨h1,h2,⟨c,d,h3⟩,h4,h5⟩ q hq=>by
  simp only[ja,gt,or_false]at hq;rcases hq with rfl|rfl|rfl|rfl|rfl
  ·exact⟨_,h1,fun v e=>by cases (show Data.fields _=Data.cell v from e)⟩
  ·exact⟨_,h2,fun v e=>by cases (show Data.seq _ _=Data.cell v from e)⟩
  ·exact⟨_,h3,fun v e=>by cases (show Data.seq _ _=Data.cell v from e)⟩
  ·exact h4.here
  ·exact h5.here
 keep:=fun k h h' ⟨h1,h2,⟨c,d,h3⟩,h4,h5⟩ f=>⟨f z yv _ h1,f p yv _ h2,⟨c,d,f r yv _ h3⟩,h4.at fun o e=>f i yv o e,h5.at fun o e=>f j yv o e⟩
 item:=by
  intro X hP hw hK hc k zi s σ H E I hf st hg;subst hP hw hK;obtain⟨xs,ys,x,y,q1,q2,ex,ey⟩:=hg;obtain⟨ai,rv,sq,inj⟩:=I.seqK q1;obtain⟨af,ae,ac,aa⟩:=I.seqK q2;obtain⟨v1,e1,r1⟩:=rv.get ex;obtain⟨v2,e2,r2⟩:=ae.get ey;obtain⟨h1,h2,⟨c,d,h3⟩,h4,h5⟩:=st;have ty:s.TypeIs (.ref z) "zip":=⟨_,h1,rfl⟩;unfold nv;refine ba (qj (gx (name:=ju "__next__") ty F.slot_zip_next (ia F.slot_zip_next ty F.entry_zip_next
   (L0 D h1 h2 h3 h4 h5 sq ac (by simpa using e1) (by simpa using e2) fun g a1 a2 a3 a4 a5 kk=>be ⟨_,rfl,?_⟩) (F.args_zip_next_1 _))))
  refine wpAny_letOwnedTupleGo_zip (s:={ s with heap:=g }) a1 fun g' z' b'=>?_;have lt:∀{q o},s.heap.get? q=some o->s.heap.objs.size≠q:=fun e=>uz (fj e);have b'':fg z g g':=b';have pT:rg g' s.heap.objs.size v1 v2:=b''.extBut _ _ (lt h1) a5;have hn:=I.hok.fresh (dh s.heap.objs.size);have ag:∀q o,q∉[z,r,i,j]->s.heap.get? q=some o->g'.get? q=some o:=fun q o hq e=>by
   simp only[ja,gt,or_false,not_or]at hq;exact b''.extBut q o hq.1 (kk q o hq.1 hq.2.1 hq.2.2.1 hq.2.2.2 e)
  have I1:Inv X zi σ (upd H s.heap.objs.size (.tup [x,y])) { s with heap:=g' }:=I.turnLaid (t':=s.toks) (ch:=[z,r,i,j]) ag (fun q hq=>hf q (by
   simp only[ja,gt,or_false]at hq ⊢;rcases hq with h|h|h|h
   ·exact .inl h
   ·exact .inr (.inr (.inl h))
   ·exact .inr (.inr (.inr (.inl h)))
   ·exact .inr (.inr (.inr (.inr h))))) (dh _) ⟨⟨by show 2<=dn;decide,_,pT,rfl,I.kpNew⟩,[v1,v2],.cons r1 (.cons r2 .nil),⟨_,pT,rfl,_,rfl⟩⟩
  have ab:∀q,q∈[z,p,r,i,j]->q≠s.heap.objs.size:=fun q hq w=>by
   simp only[ja,gt,or_false]at hq;obtain⟨o1,w1,_⟩:=h4.here;obtain⟨o2,w2,_⟩:=h5.here;rcases hq with h|h|h|h|h
   ·exact lt h1 (w.symm.trans h)
   ·exact lt h2 (w.symm.trans h)
   ·exact lt h3 (w.symm.trans h)
   ·exact lt w1 (w.symm.trans h)
   ·exact lt w2 (w.symm.trans h)
  refine⟨.ref s.heap.objs.size,_,I1,rfl,⟨_,x,y,hn,rfl,rfl,fun zs hz=>by rw[inj zs hz];exact ex,fun zs hz=>by rw[aa zs hz];exact ey⟩,⟨z',ag p _ (by simp[D.pz,D.pr,D.pi,D.pj]) h2,⟨_,_,b''.extBut r _ D.rz a2⟩,a3.at fun o e=>b''.extBut i o D.iz e,a4.at fun o e=>b''.extBut j o D.jz e⟩,fun q hq=>?_⟩;rw[zC (ab q hq)];exact(hf q hq).1
 done:=by
  intro X hP hw hK hc k zi s σ H E I hf st hg;subst hP hw hK;obtain⟨xs,ys,q1,q2,hl⟩:=hg;obtain⟨ai,rv,sq,inj⟩:=I.seqK q1;obtain⟨af,ae,ac,aa⟩:=I.seqK q2;obtain⟨h1,h2,⟨c,d,h3⟩,h4,h5⟩:=st;have l1:=rv.length;have l2:=ae.length;have ty:s.TypeIs (.ref z) "zip":=⟨_,h1,rfl⟩;unfold nv;refine ba (qj (gx (name:=ju "__next__") ty F.slot_zip_next (ia F.slot_zip_next ty F.entry_zip_next
   (J6 (I.ok.hd hc) D h1 h2 h3 h4 h5 sq ac (hl.elim (fun h=>.inl (by simp;omega)) fun h=>.inr (by simp;omega)) fun g e kk he=>?_) (F.args_zip_next_1 _))))
  obtain⟨o,ho,ah⟩:=he;refine ba (kl (T:="StopIteration") (b:=true) ⟨o,ho,ah⟩ isSubtype_stop (be ⟨rfl,?_⟩));refine I.turnedN (t':=s.toks) (ch:=[z,r,i,j]) (fun q o hq e=>?_) fun q hq=>hf q (by
   simp only[ja,gt,or_false]at hq ⊢;rcases hq with h|h|h|h
   ·exact .inl h
   ·exact .inr (.inr (.inl h))
   ·exact .inr (.inr (.inr (.inl h)))
   ·exact .inr (.inr (.inr (.inr h))))
  simp only[ja,gt,or_false,not_or]at hq;exact kk q o hq.1 hq.2.1 hq.2.2.1 hq.2.2.2 e
 self:=fun _ _ _ _ _ st h=>wpAny_pyIter_zip st.1 h
theorem nne{a b:Nat}(h:a<b\/b<a):(show Addr from a)≠(show Addr from b):=fun e=>by
 have e':a=b:=e;omega
theorem NL(N a b:Nat)(ha:a<N)(hb:b<N):ZAp (N+4) (N+2) (N+3) N (N+1) a b:=by
 constructor<;>exact nne yw
theorem JE(N q:Nat)(hq:q=N+4\/q=N+2\/q=N+3\/q=N\/q=N+1):N<=q:=yw
section
variable {X:Cx}{elts:List Expr}{n:Nat}{tpos:Pos}
theorem NH:jc "zip" = some (.type "zip"):=by decide +kernel
def Ar(K:cq)(ta:TA):TI:=fun σ H R=>ta σ H fun vs H1=>∃a b t u,vs=[.ref a,.ref b]/\(∃xs,SqV K t H1 a xs)/\(∃ys,SqV K u H1 b ys)/\R (Itz (SqV K t) (SqV K u) a b) H1
theorem B1{e1 e2:Expr}{ta:TA}{p pos:Pos}(hg:Gl X "zip")(hm:X.mg "zip" = none)(ha:PA X [e1,e2] ta)(hs:dq [e1,e2] X.env=[(false,eval e1 X.env),(false,eval e2 X.env)]:=by rfl)(aa:dq [e2] X.env=[(false,eval e2 X.env)]:=by rfl):
  PI X (.Tuple elts n tpos) (.Call (.Name "zip" p) [e1,e2] [] pos) (Ar X.K ta):=by
 intro zi s σ H R I h;refine Call_ (fI I hg hm NH (je (thn (ha pos zi s σ H _ I h) fun us s1 ⟨vs,H1,I1,r1,q1⟩=>?_) (by rw[hs,aa]) (by rw[aa];rfl)));obtain⟨a,b,t,u,e,⟨xs,q1⟩,⟨ys,q2⟩,q⟩:=q1;subst e;cases r1 with
 |cons r rr=>
  cases rr with
  |cons r' rr=>
   cases rr;cases r;cases r';obtain⟨ac,rv,sq,_⟩:=I1.seqK q1;obtain⟨ab,ae,z,_⟩:=I1.seqK q2;refine IF sq z fun g h1 h2 h3 h4 h5 k=>?_;refine wpAny_pyIter_zip (s:={ s1 with heap:=g }) h1 ?_
   have I2:Inv X zi σ H1 { s1 with heap:=g }:=I1.kept (t':=s1.toks) k;obtain⟨oa,fa⟩:=sq.here;obtain⟨ob,fb⟩:=z.here;have la:=fj fa;have lb:=fj fb;have D:ZAp (s1.heap.objs.size+4) (s1.heap.objs.size+2) (s1.heap.objs.size+3) s1.heap.objs.size (s1.heap.objs.size+1) a b:=NL _ _ _ la lb;refine⟨_,[s1.heap.objs.size+4,s1.heap.objs.size+2,s1.heap.objs.size+3,s1.heap.objs.size,s1.heap.objs.size+1],_,_,H1,rfl,I2,G7 t u _ _ _ _ _ a b D,⟨h1,h2,⟨_,_,h3⟩,h4,h5⟩,fun q hq=>?_,q⟩;have hl:s1.heap.objs.size<=q:=by
    simp only[ja,gt,or_false]at hq;exact JE _ _ hq
   exact I1.fpOk hl (I1.hok.fresh hl)
end
def cP:List bc->List bc->List bc
 |d::ds,e::es=>.tuple [d,e]::cP ds es
 |_,_=>[]
theorem Ab:∀(ds es:List bc) (k:Nat) (x:bc),(cP ds es)[k]?=some x->∃d e,ds[k]?=some d/\es[k]?=some e/\x=.tuple [d,e]
 | [],_,_,_,h=>by simp[cP]at h
 |_::_,[],_,_,h=>by simp[cP]at h
 |d::ds,e::es,0,x,h=>by
  have e':ng [d,e]=x:=by simpa[cP]using h
  exact⟨d,e,rfl,rfl,e'.symm⟩
 |d::ds,e::es,k+1,x,h=>by
  obtain⟨d',e',h1,h2,h3⟩:=Ab ds es k x (by simpa[cP]using h);exact⟨d',e',by simpa using h1,by simpa using h2,h3⟩
theorem Bh:∀(ds es:List bc),(cP ds es).length=min ds.length es.length
 | [],_=>by simp[cP]
 |_::_,[]=>by simp[cP]
 |d::ds,e::es=>by simp[cP,Bh ds es];try omega
theorem xE{α β:Type}(f:α->bc)(g:β->bc):∀(xs:List α) (ys:List β),cP (xs.map f) (ys.map g)=(xs.zip ys).map fun q=>.tuple [f q.1,g q.2]
 | [],_=>by simp[cP]
 |_::_,[]=>by simp[cP]
 |x::xs,y::ys=>by simp[cP,xE f g xs ys]
def hU(a:DA):DI:=fun δ S R=>a δ S fun xs S1=>arg2 xs fun x y=>∃ds,eQ x=some ds/\∃es,eQ y=some es/\R (cP ds es) S1
theorem EB{K:cq}{h o:List Addr}{H:Hp}{x:XV}{v:V}{ds:List bc}(e:eQ x=some ds)(q:HasX h o H x v):∃t a ws,v=.ref a/\HasL (vx h o H) ds ws/\∀{o2 H2},ExH h o H o2 H2->SqV K t H2 a ws:=by
 unfold eQ at e;split at e
 ·cases e;obtain⟨a,ws,rfl,ea,l⟩:=dA.mp (show Has (vx h o H) (.list ds) v from q);exact⟨false,a,ws,rfl,l,fun e2=>(SqL.of (zZ _ _ (e2.vx _ _ ea)):SqL K _ a ws)⟩
 ·cases e;obtain⟨a,ws,rfl,ea,l⟩:=cJ.mp (show Has (vx h o H) (.tuple ds) v from q);exact⟨true,a,ws,rfl,l,fun e2=>(SqT.of (zZ _ _ (e2.vx _ _ ea)):SqT K _ a ws)⟩
 ·cases e
theorem Dr{K:cq}{ta:TA}{da:DA}(ha:RA ta da):RI (Ar K ta) (hU da):=fun h o H δ σ S R Q he hs q c=>
 ha h o H δ σ S _ _ he hs q fun o1 H1 S1 xs vs e1 s1 x1 d0=>by
  obtain⟨x,y,rfl,ds,hd,es,ac,d1⟩:=mY d0;obtain⟨v,u,rfl,hv,hu⟩:=hxs2 x1;obtain⟨t,a,ws,rfl,l,k1⟩:=EB (K:=K) hd hv;obtain⟨t',b,zs,rfl,l',k2⟩:=EB (K:=K) ac hu;have hl:=l.length;have af:=l'.length;refine⟨a,b,t,t',rfl,⟨ws,k1 ExH.refl⟩,⟨zs,k2 ExH.refl⟩,c o1 H1 S1 _ _ e1 s1 ⟨fun i o2 H2 e2 hi=>⟨ws,zs,k1 e2,k2 e2,by rw[Bh]at hi;omega⟩,fun i d o2 H2 e2 hi=>?_,fun i d o2 H2 x H3 S2 e2 s2 hi y=>?_⟩ d1⟩
  ·obtain⟨d',e',h1,h2,rfl⟩:=Ab ds es i d hi;obtain⟨u1,z,_⟩:=l.get h1;obtain⟨u2,aa,_⟩:=l'.get h2;exact⟨ws,zs,u1,u2,k1 e2,k2 e2,z,aa⟩
  ·obtain⟨d',e',h1,h2,rfl⟩:=Ab ds es i d hi;obtain⟨u1,z,ab⟩:=l.get h1;obtain⟨u2,aa,ae⟩:=l'.get h2;obtain⟨p,v,u,hp,rfl,rfl,y1,y2⟩:=y;have f1:=y1 ws (k1 e2);have f2:=y2 zs (k2 e2);rw[z]at f1;rw[aa]at f2;cases f1;cases f2;exact⟨Same.laid hp,cJ.mpr ⟨p,_,rfl,s2.laid hp,zp.mpr ⟨_,_,rfl,(ab.mono e2.vx).mono (pM (Same.laid hp)),zp.mpr ⟨_,_,rfl,(ae.mono e2.vx).mono (pM (Same.laid hp)),zA.mpr rfl⟩⟩⟩⟩
end
section
open Sem (wp)
section
variable {prog:cz}{w:fy}{A:ft}{R:Result->bd->Prop}{I:Addr}{fp wr:List Addr}{n:Nat}{P:Nat->bb->Prop}{St:Nat->Heap->Prop}
def CmpH(prog:cz)(w:fy)(A:ft)(g:Heap)(q:List Addr)(P:Nat->bb->Prop)(bt:Nat->Nat->Bool):Prop:=
 ∀i j x y (s:bd) (Q:bb->bd->Prop) (E:bb->bd->Prop),(∀b o,b∉q->g.get? b=some o->s.heap.get? b=some o)->P i x->P j y->Q (.bool (bt i j)) s->bo (model prog w) A (richCompare .Lt x y) Q E s
theorem Mf(W:Walks prog w A.in1 I fp wr n P St)(bt:Nat->Nat->Bool){g:Heap}(S:Addr)(cm:CmpH prog w A.in1 g (S::wr) P bt)(nS:S∉fp):∀(d j:Nat) (s:bd) (best:bb) (c:Nat),n=j+1+d->(∀b o,b∉S::wr->g.get? b=some o->s.heap.get? b=some o)->St (j+1) s.heap->P (qm bt j) best ->
   s.heap.get? S=some { cls:=.type "list",dict:=none,data:=.seq #[best,best] c,slots:=#[] } ->
   (∀v h' tk,P (qm bt (n-1)) v->(∀b o,b∉S::wr->s.heap.get? b=some o->h'.get? b=some o)->R (.ok (.ret v)) { s with heap:=h',toks:=tk })->ol (model prog w) A (.builtin "min.loop" ⟨[.ref I,.none,.ref S],[]⟩) R s:=by
 have nw:S∉wr:=fun m=>nS (W.sub _ m);have nm:(vc "min" ++ vc ".loop":String) = "min.loop":=by decide
 intro d;induction d with
 |zero=>
  intro j s best c hd kg st hb hS fin;have hj:j+1=n:=yw
  refine jb qx ?_;rw[gu iu _];show bo _ A.in1 (ug (.ref S) >>= _) _ _ s;refine ba (iy hS rfl ?_);show bo _ A.in1 (vd (nv (.ref I)) _ >>= _) _ _ s;refine ba (ni (W.done s _ _ (by rw[<- hj];exact st) fun h1 t1 k1=>?_));have q:=k1 S _ nw hS;show bo _ A.in1 (uy S (fun _=>#[]) >>= _) _ _ _;refine ba (li q rfl (ba (nu (be (fin best _ t1 (by rw[<- hj];exact hb) fun b o hn e=>?_)))));rw[ja,not_or]at hn;exact(jd _ _ (gq hn.1)).trans (k1 b o hn.2 e)
 |succ d ih=>
  intro j s best c hd kg st hb hS fin;refine jb qx ?_;rw[gu iu _];show bo _ A.in1 (ug (.ref S) >>= _) _ _ s;refine ba (iy hS rfl ?_);show bo _ A.in1 (vd (nv (.ref I)) _ >>= _) _ _ s;refine ba (ni (W.item (j+1) s _ _ yw st fun x h1 t1 hx aa k1=>?_));have q:=k1 S _ nw hS;have ab:∀b o,b∉S::wr->g.get? b=some o->h1.get? b=some o:=fun b o hn e=>k1 b o (fun m=>hn (bq _ m)) (kg b o hn e);show bo _ A.in1 (vd (holding [x,x] (richCompare .Lt x best >>= _)) _ >>= _) _ _ _;refine ba (ni (iq (ba (cm (j+1) (qm bt j) x best _ _ _ ab hx hb (ba (iq (ji (ba (nu (be ?_)))))))))) ;cases ht:bt (j+1) (qm bt j)with
  |true=>
   simp only[if_true];refine ba (li q rfl (ba (nu ?_)));rw[nm];have keep:∀b o,b∉S::wr->s.heap.get? b=some o->(h1.update S (ix fun _=>#[x,x])).get? b=some o:=fun b o hn e=>by
    rw[ja,not_or]at hn;exact(jd _ _ (gq hn.1)).trans (k1 b o hn.2 e)
   refine be ⟨jp iu _,ih (j+1) _ x _ yw (fun b o hn e=>keep b o hn (kg b o hn e)) (W.frame _ _ _ aa fun b m o e=>?_) (by simp only[qm,ht,if_true];exact hx) (kj _ q rfl) fun v h2 t2 hv k2=>fin v h2 t2 hv fun b o hn e=>k2 b o hn (keep b o hn e)⟩;exact(jd _ _ (fun z:S=b=>nS (by rw[z];exact m))).trans e
  |false=>
   simp only[jm,if_false];refine ba (nu ?_);rw[nm];exact be ⟨jp iu _,ih (j+1) _ best c yw ab aa (by simp only[qm,ht,jm,if_false];exact hb) q fun v h2 t2 hv k2=>fin v h2 t2 hv fun b o hn e=>k2 b o hn (k1 b o (fun m=>hn (bq _ m)) e)⟩
theorem G3(W:Walks prog w A.in1 I fp wr n P St)(bt:Nat->Nat->Bool)(S:Addr)(nS:S∉fp)(hn:0<n){s:bd}{c:Nat}(cm:CmpH prog w A.in1 s.heap (S::wr) P bt)(st:St 0 s.heap)(hS:s.heap.get? S=some { cls:=.type "list",dict:=none,data:=.seq #[] c,slots:=#[] })
  (fin:∀v h' tk,P (qm bt (n-1)) v->(∀b o,b∉S::wr->s.heap.get? b=some o->h'.get? b=some o)->R (.ok (.ret v)) { s with heap:=h',toks:=tk }):ol (model prog w) A (.builtin "min.loop" ⟨[.ref I,.none,.ref S],[]⟩) R s:=by
 have nw:S∉wr:=fun m=>nS (W.sub _ m);have nm:(vc "min" ++ vc ".loop":String) = "min.loop":=by decide
 refine jb qx ?_;rw[gu iu _];show bo _ A.in1 (ug (.ref S) >>= _) _ _ s;refine ba (iy hS rfl ?_);show bo _ A.in1 (vd (nv (.ref I)) _ >>= _) _ _ s;refine ba (ni (W.item 0 s _ _ hn st fun x h1 t1 hx aa k1=>?_));have q:=k1 S _ nw hS;show bo _ A.in1 (uy S (fun _=>#[x,x]) >>= _) _ _ _;refine ba (li q rfl ?_);rw[nm];have keep:∀b o,b∉S::wr->s.heap.get? b=some o->(h1.update S (ix fun _=>#[x,x])).get? b=some o:=fun b o hn e=>by
  rw[ja,not_or]at hn;exact(jd _ _ (gq hn.1)).trans (k1 b o hn.2 e)
 refine be ⟨jp iu _,Mf W bt S cm nS (n-1) 0 _ x _ yw keep (W.frame _ _ _ aa fun b m o e=>?_) hx (kj _ q rfl) fun v h2 t2 hv k2=>fin v h2 t2 hv fun b o hn e=>k2 b o hn (keep b o hn e)⟩;exact(jd _ _ (fun z:S=b=>nS (by rw[z];exact m))).trans e
end
section
variable {prog:cz}{w:fy}{A:ft}{E:bb->bd->Prop}{s:bd}
theorem Ge{l:Addr}{z:Array bb}{Q:bb->bd->Prop}(hh:A.handled=none)(hl:s.heap.IsList l z)(ab:0<z.size)(bt:Nat->Nat->Bool)
  (cm:∀i j x y (s':bd) (Q:bb->bd->Prop) (E:bb->bd->Prop),(∀b o,s.heap.get? b=some o->s'.heap.get? b=some o)->z[i]?=some x->z[j]?=some y->Q (.bool (bt i j)) s'->bo (model prog w) A.in1 (richCompare .Lt x y) Q E s')
  (fin:∀v h' tk,z[qm bt (z.size-1)]?=some v->(∀b o,s.heap.get? b=some o->h'.get? b=some o)->Q v { s with heap:=h',toks:=tk }):bo (model prog w) A (call (.builtin "min") [.ref l]) Q E s:=by
 have nm:(vc "min" ++ vc ".loop":String) = "min.loop":=by decide
 have lt:l<s.heap.objs.size:=by obtain⟨o,e,_⟩:=hl;exact fj e
 refine call_function_tree F.kind_min F.plain_min F.entry_min (F.args_min1 _) ?_;show bo _ A.in1 (Builtin.Builtins.bindParams "min" ["key","default"] 0 ⟨[],[]⟩ >>= _) _ _ s;refine ba (wpAny_of_eq (show Builtin.Builtins.bindParams "min" ["key","default"] 0 ⟨[],[]⟩=pure [none,none]from rfl) (ba (be (ba (oo hl ?_)))));refine ba (gb ?_);rw[nm];have z1:(s.heap.push { cls:=.type "list_iterator",data:=.fields #[.ref l,.int 0 0] }).objs.size=s.heap.objs.size+1:=qa ..;have nS:(s.heap.push { cls:=.type "list_iterator",data:=.fields #[.ref l,.int 0 0] }).objs.size∉[s.heap.objs.size,l]:=by
  rw[z1];simp only[ja,gt,or_false,not_or];exact⟨Nat.succ_ne_self _,uz (uk lt)⟩
 have up:∀b o,s.heap.get? b=some o->((s.heap.push { cls:=.type "list_iterator",data:=.fields #[.ref l,.int 0 0] }).push { cls:=.type "list",data:=.seq #[] }).get? b=some o:=fun b o e=>bf _ (bf _ e);have aa:∀b o,s.heap.get? b=some o->b∉(s.heap.push { cls:=.type "list_iterator",data:=.fields #[.ref l,.int 0 0] }).objs.size :: [s.heap.objs.size]:=fun b o e=>by
  rw[z1];simp only[ja,gt,or_false,not_or];have:=fj e;exact⟨ge (uk this),ge this⟩
 refine be ⟨jp iu _,G3 (Walks.list (A:=A.in1) hh _ l (ge lt) z) bt _ nS ab (fun i j x y s' Q' E' k hi hj q=>cm i j x y s' Q' E' (fun b o e=>k b o (aa b o e) (up b o e)) hi hj q) ?_ (bv _ rfl) fun v h' tk hv k=>fin v h' tk hv fun b o e=>k b o (aa b o e) (up b o e)⟩;exact⟨⟨_,bf _ (bv _ rfl),rfl,rfl⟩,(hl.push _).push _⟩
end
def BQ(K:cq):List V->Hp->VK->Prop:=fun xs H Q=>∃(p:Addr) (vs:List V) (nss:List (List Int)),xs=[.ref p]/\SqL K H p vs/\vs≠[]/\Paired (fun(v:V) (ns:List Int)=>∃a,v=.ref a/\H a=some (.tup (ns.map V.int))) vs nss /\
 ∀(i:Nat) v ns,vs[i]?=some v->nss[i]?=some ns->(∀ms∈nss,HT.lexLt ms ns=false)->Q v H
theorem Ae{ns:Nat->List Int}(tr:∀a b c:List Int,HT.lexLt a b=false->HT.lexLt b c=false->HT.lexLt a c=false)(as:∀a b:List Int,HT.lexLt a b=true->HT.lexLt b a=false):∀k,qm (fun i j=>HT.lexLt (ns i) (ns j)) k<=k/\∀j,j<=k->HT.lexLt (ns j) (ns (qm (fun i j=>HT.lexLt (ns i) (ns j)) k))=false
 | 0=>⟨dh _,fun j hj=>by
   have:j=0:=yw
   subst this;show HT.lexLt (ns 0) (ns 0)=false;cases h:HT.lexLt (ns 0) (ns 0)with
   |false=>rfl
   |true=>have:=as _ _ h;rw[h]at this;cases this⟩
 |k+1=>by
  obtain⟨h1,h2⟩:=Ae tr as (ns:=ns) k;simp only[qm];by_cases hb:HT.lexLt (ns (k+1)) (ns (qm (fun i j=>HT.lexLt (ns i) (ns j)) k))=true
  ·rw[cy hb];refine⟨dh _,fun j hj=>?_⟩;by_cases e:j=k+1
   ·subst e;cases h:HT.lexLt (ns (k+1)) (ns (k+1))with
    |false=>rfl
    |true=>have:=as _ _ h;rw[h]at this;cases this
   ·exact tr _ _ _ (h2 j yw) (as _ _ hb)
  ·rw[cr hb];refine⟨yw,fun j hj=>?_⟩;by_cases e:j=k+1
   ·subst e;exact Bool.eq_false_iff.mpr hb
   ·exact h2 j yw
theorem D4:∀a b:List Int,HT.lexLt a b=true->HT.lexLt b a=false
 | [],[],h=>by cases h
 | [],y::ys,_=>rfl
 |x::xs,[],h=>by cases h
 |x::xs,y::ys,h=>by
  rw[HT.lexLt_cons]at h ⊢;by_cases e:x=y
  ·subst e;rw[cy rfl]at h ⊢;exact D4 xs ys h
  ·rw[cr e]at h;rw[cr (gq e)];simp only[decide_eq_true_eq]at h;simp only[decide_eq_false_iff_not];omega
theorem Bo:∀a b c:List Int,HT.lexLt a b=false->HT.lexLt b c=false->HT.lexLt a c=false
 |_,_,[],_,_=>by rename_i a b _ _;cases a<;>rfl
 | [],[],z::zs,_,h=>by cases h
 | [],y::ys,z::zs,h,_=>by cases h
 |x::xs,[],z::zs,_,h=>by cases h
 |x::xs,y::ys,z::zs,h,k=>by
  rw[HT.lexLt_cons]at h k ⊢;by_cases e:x=y
  ·subst e;rw[cy rfl]at h;by_cases e2:x=z
   ·subst e2;rw[cy rfl]at k ⊢;exact Bo xs ys zs h k
   ·rw[cr e2]at k ⊢;exact k
  ·rw[cr e]at h;by_cases e2:y=z
   ·subst e2;rw[cr e];exact h
   ·rw[cr e2]at k;simp only[decide_eq_false_iff_not]at h k;rw[cr yw];simp only[decide_eq_false_iff_not];omega
theorem Ms{X:Cx}(hc:X.calm=true)(hu:X.A.units+64<kq):CallR X (.builtin "min") (BQ X.K):=by
 intro zi s σ H xs us Q I r h;obtain⟨p,vs,z,rfl,hq,ab,pr,q⟩:=h;obtain⟨u,rfl,rx⟩:=vals1 r;cases (show u=dw p from rx);obtain⟨aa,rv,pl,_⟩:=I.list hq;have hl:=rv.length;have af:=Paired.length pr;have hsz:0<aa.toArray.size:=by
  rw[fk,<- hl];exact List.length_pos_iff.mpr ab
 have at_:∀(i:Nat) x,aa.toArray[i]?=some x->∃(v:V) (ns:List Int),vs[i]?=some v/\z[i]?=some ns/\RelV v x/\∃a,v=.ref a/\H a=some (.tup (ns.map V.int)):=fun i x hx=>by
  have hi:i<aa.length:=by
   have:=(Array.getElem?_eq_some_iff.mp hx).1;simpa using this
  have e1:vs[i]?=some vs[i]:=bn yw;have e2:z[i]?=some z[i]:=bn yw;obtain⟨x',ac,rr⟩:=rv.get e1;have:x=x':=by
   have h2:aa[i]?=some x:=by simpa using hx
   rw[ac]at h2;exact(ic h2).symm
  subst this;have pg:∀{a:List V}{b:List (List Int)}{i:Nat}{v:V}{ns:List Int},Paired (fun(v:V) (ns:List Int)=>∃a,v=.ref a/\H a=some (.tup (ns.map V.int))) a b->a[i]?=some v->b[i]?=some ns->∃a,v=.ref a/\H a=some (.tup (ns.map V.int)):=by
   intro a b i v ns pq;induction pq generalizing i with
   |nil=>intro h;simp at h
   |cons r0 _ ih=>
    cases i with
    |zero=>
     intro h1 h2;rw[re]at h1 h2;cases h1;cases h2;exact r0
    |succ i=>
     intro h1 h2;rw[rf]at h1 h2;exact ih h1 h2
  exact⟨_,_,e1,e2,rr,pg pr e1 e2⟩
 refine Ge (I.ok.hd hc) pl.isList hsz (fun i j=>HT.lexLt (z.getD i []) (z.getD j [])) (fun i j x y s' Q' E' k hx hy q'=>?_) fun v h' tk hv k=>?_
 ·obtain⟨v1,n1,_,f1,r1,a1,rfl,e1⟩:=at_ i x hx;obtain⟨v2,n2,_,f2,r2,a2,rfl,e2⟩:=at_ j y hy;cases r1;cases r2;obtain⟨_,ag,w1,t1⟩:=(show ObjOk X.prog X.w H s.heap a1 (.tup (n1.map V.int))from I.hok a1 _ e1);obtain⟨_,ah,w2,t2⟩:=(show ObjOk X.prog X.w H s.heap a2 (.tup (n2.map V.int))from I.hok a2 _ e2);have g1:z.getD i []=n1:=by rw[fc,f1];rfl
  have g2:z.getD j []=n2:=by rw[fc,f2];rfl
  rw[g1,g2]at q';obtain⟨o1,b1,c1⟩:=t1;obtain⟨o2,b2,c2⟩:=t2;exact HT.lt_tupInts ⟨o1,k _ _ b1,c1⟩ ⟨o2,k _ _ b2,c2⟩ (jH w1) (jH w2) (by show X.A.units+1<kq;omega) q'
 ·obtain⟨v1,n1,e1,f1,r1,_⟩:=at_ _ v hv;obtain⟨_,h2⟩:=Ae (ns:=fun i=>z.getD i []) Bo D4 (aa.toArray.size-1);refine⟨v1,H,I.kept (t':=tk) k,r1,q _ v1 n1 e1 f1 fun ms hm=>?_⟩;obtain⟨j,hj⟩:=mem_iff_getElem?.mp hm;have ae:=(List.getElem?_eq_some_iff.mp hj).1;have:=h2 j (by rw[fk];omega);rw[show z.getD j []=ms by rw[fc,hj];rfl]at this;rw[show z.getD (qm (fun i j=>HT.lexLt (z.getD i []) (z.getD j [])) (aa.toArray.size-1)) []=n1 by rw[fc,f1];rfl]at this;exact this
def GS(K:cq):List V->Hp->VK->Prop:=fun xs H Q=>yT K xs H Q\/BQ K xs H Q
theorem Jm{X:Cx}(hc:X.calm=true)(hu:X.A.units+64<kq):CallR X (.builtin "min") (GS X.K):=(IG hc).or (Ms hc hu)
def i6(ns:List Int):bc:=.tuple (ns.map bp)
def AD:List XV->Sto->RX->Prop:=fun xs S R=>FH xs S R\/arg1 xs fun x=>∃ds,dZ S x=some ds/\∃nss:List (List Int),ds=nss.map i6/\nss≠[]/\∀m,m∈nss->(∀a,a∈nss->HT.lexLt a m=false)->R (.d (i6 m)) S
theorem Le{K:cq}:RC (GS K) AD:=fun h o H S xs vs R Q hs hx q c=>by
 rcases q with q|q
 ·exact .inl (J3 h o H S xs vs R Q hs hx q c)
 ·obtain⟨x,rfl,ds,hd,aa,rfl,hn,q1⟩:=dU q;obtain⟨v,rfl,ab⟩:=hxs1 hx;obtain⟨a,ws,rfl,ea,l⟩:=cG hs hd ab;have hl:=l.length;refine .inr ⟨a,ws,aa,rfl,.of ea,fun z=>hn ?_,?_,fun i v ns e1 e2 hm=>?_⟩
  ·subst z;rw[cg]at hl;exact df hl.symm
  ·have go:∀{aa:List (List Int)}{ws:List V},HasL (vx h o H) (aa.map i6) ws->Paired (fun(v:V) (ns:List Int)=>∃a,v=.ref a/\H a=some (.tup (ns.map V.int))) ws aa:=by
    intro aa;induction aa with
    |nil=>intro ws l;rw[zA.mp l];exact .nil
    |cons n aa ih=>
     intro ws l;obtain⟨v,r,rfl,h1,l2⟩:=zp.mp l;obtain⟨b,us,rfl,eb,lb⟩:=cJ.mp h1;rw[mT lb]at eb;exact .cons ⟨b,rfl,zZ _ _ eb⟩ (ih l2)
   exact go l
  ·obtain⟨v',ev,hv⟩:=l.get (show (aa.map i6)[i]?=some (i6 ns) by rw[gh,e2];rfl);rw[e1]at ev;cases ev;exact c o H S (.d (i6 ns)) v Ex.refl hs hv (q1 ns (ci e2) hm)
section
variable {S:Sto}{P:Sto->List bc->Prop}{a b c d:List bc}{x:List bc}
theorem iL{S0:Sto}:(∃T ds,S0++[x]=T++[ds]/\P T ds)↔P S0 x:=by
 constructor
 ·rintro⟨T,ds,e,q⟩;obtain⟨rfl,e2⟩:=List.append_inj' e rfl;cases e2;exact q
 ·exact fun q=>⟨S0,x,rfl,q⟩
theorem rV:(∃T ds,[a]=T++[ds]/\P T ds)↔P [] a:=iL (S0:=[])
theorem qO:(∃T ds,[a,b]=T++[ds]/\P T ds)↔P [a] b:=iL (S0:=[a])
theorem oC:(∃T ds,[a,b,c]=T++[ds]/\P T ds)↔P [a,b] c:=iL (S0:=[a,b])
end
section
variable {n k:Nat}{ds:List bc}{d:bc}{v:V}
theorem m9:frz n ds (some (.d d))=some (.d d):=rfl
theorem m7:frz n ds (some (.l k))=if k=n then some (.d (.list ds))else some (.l k):=rfl
end
section
variable {α:Type}{n:Nat}{g:DG}{tt:DT}{te:DE}{fin:Sto->Prop}{S0:Sto}{caps:XE}
theorem Br{h:α->bc}{f:α->bc}(P:XE->Prop)(hn:S0.length=n)(l:List α)(τ:XE)(hP:P τ)(hl:l.length<=1000)
  (el:∀x∈l,∀ τ acc (R:XE->RX),P τ->(∀ τ',P τ'->R τ' (.d (f x)) (S0++[acc]))->g (.d (h x)) τ (S0++[acc]) fun τ1 S1=>te τ1 S1 (R τ1)) (hf:fin (S0++[l.map f])):aX n g aG te fin (l.map h) τ (S0++[[]]):=by
 have go:∀(l:List α) (acc:List bc) (τ:XE),P τ->acc.length+l.length<=1000->(∀x∈l,∀ τ acc (R:XE->RX),P τ->(∀ τ',P τ'->R τ' (.d (f x)) (S0++[acc]))->g (.d (h x)) τ (S0++[acc]) fun τ1 S1=>te τ1 S1 (R τ1)) ->
   fin (S0++[acc++l.map f])->aX n g aG te fin (l.map h) τ (S0++[acc]):=by
  intro l;induction l with
  |nil=>intro acc τ _ _ _ h;rw[vb,jg]at h;exact h
  |cons x l ih=>
   intro acc τ hP hl el hh;show g (.d (h x)) τ (S0++[acc]) fun τ1 S1=>aG τ1 S1 fun b S2=>if b=true then te τ1 S2 fun x S3=>asD x fun e=>∃acc,S3[n]?=some acc/\acc.length<1000/\aX n g aG te fin (l.map h) τ1 (S3.set n (acc++[e]))else aX n g aG te fin (l.map h) τ1 S2
   simp only[aG,↓reduceIte];rw[cx]at hl;refine el x cp τ acc (fun τ1 x S3=>asD x fun e=>∃acc,S3[n]?=some acc/\acc.length<1000/\aX n g aG te fin (l.map h) τ1 (S3.set n (acc++[e]))) hP fun τ' q=>?_;refine⟨acc,by rw[<- hn,bw],yw,?_⟩;rw[vB hn];refine ih (acc++[f x]) τ' q (by rw[ck,fq];omega) (fun e m=>el e (bq _ m)) ?_;rw[gy];exact hh
 exact go l [] τ hP (by simpa using hl) el (by simpa using hf)
theorem cmp1{h:α->bc}(f:α->bc)(hn:S0.length=n)(l:List α){u:Option XV}(hl:l.length<=1000)
  (el:∀x∈l,∀(u:Option XV) acc (R:XE->RX),(∀u',R (u'::caps) (.d (f x)) (S0++[acc]))->g (.d (h x)) (u::caps) (S0++[acc]) fun τ1 S1=>te τ1 S1 (R τ1)) (hf:fin (S0++[l.map f])):aX n g aG te fin (l.map h) (u::caps) (S0++[[]]):=
 Br (fun τ=>∃u,τ=u::caps) hn l _ ⟨u,rfl⟩ hl (fun x m τ acc R ⟨u,e⟩ k=>by subst e;exact el x m u acc R fun u'=>k _ ⟨u',rfl⟩) hf
theorem cmp2{h:α->bc}(f:α->bc)(hn:S0.length=n)(l:List α){u v:Option XV}(hl:l.length<=1000)
  (el:∀x∈l,∀(u v:Option XV) acc (R:XE->RX),(∀u' v',R (u'::v'::caps) (.d (f x)) (S0++[acc]))->g (.d (h x)) (u::v::caps) (S0++[acc]) fun τ1 S1=>te τ1 S1 (R τ1)) (hf:fin (S0++[l.map f])):aX n g aG te fin (l.map h) (u::v::caps) (S0++[[]]):=
 Br (fun τ=>∃u v,τ=u::v::caps) hn l _ ⟨u,v,rfl⟩ hl (fun x m τ acc R ⟨u,v,e⟩ k=>by subst e;exact el x m u v acc R fun u' v'=>k _ ⟨u',v',rfl⟩) hf
theorem Jv{h:α->bc}{f:α->bc}{p:α->Bool}(P:XE->Prop)(hn:S0.length=n)(l:List α)(τ:XE)(hP:P τ)(hl:l.length<=1000)
  (el:∀x∈l,∀ τ acc (R:XE->Bool->Sto->Prop),P τ->(∀ τ',P τ'->(p x=true->∀T:RX,T (.d (f x)) (S0++[acc])->te τ' (S0++[acc]) T)->R τ' (p x) (S0++[acc]))->g (.d (h x)) τ (S0++[acc]) fun τ1 S1=>tt τ1 S1 (R τ1))
  (hf:fin (S0++[(l.filter p).map f])):aX n g tt te fin (l.map h) τ (S0++[[]]):=by
 have go:∀(l:List α) (acc:List bc) (τ:XE),P τ->acc.length+l.length<=1000->(∀x∈l,∀ τ acc (R:XE->Bool->Sto->Prop),P τ->(∀ τ',P τ'->(p x=true->∀T:RX,T (.d (f x)) (S0++[acc])->te τ' (S0++[acc]) T)->R τ' (p x) (S0++[acc]))->g (.d (h x)) τ (S0++[acc]) fun τ1 S1=>tt τ1 S1 (R τ1)) ->
   fin (S0++[acc++(l.filter p).map f])->aX n g tt te fin (l.map h) τ (S0++[acc]):=by
  intro l;induction l with
  |nil=>intro acc τ _ _ _ h;rw[List.filter_nil,vb,jg]at h;exact h
  |cons x l ih=>
   intro acc τ hP hl el hh;show g (.d (h x)) τ (S0++[acc]) fun τ1 S1=>tt τ1 S1 fun b S2=>if b=true then te τ1 S2 fun x S3=>asD x fun e=>∃acc,S3[n]?=some acc/\acc.length<1000/\aX n g tt te fin (l.map h) τ1 (S3.set n (acc++[e]))else aX n g tt te fin (l.map h) τ1 S2
   rw[cx]at hl;refine el x cp τ acc (fun τ1 b S2=>if b=true then te τ1 S2 fun x S3=>asD x fun e=>∃acc,S3[n]?=some acc/\acc.length<1000/\aX n g tt te fin (l.map h) τ1 (S3.set n (acc++[e]))else aX n g tt te fin (l.map h) τ1 S2) hP fun τ' q ev=>?_;cases hp:p x with
   |false=>
    rw[List.filter_cons_of_neg (by rw[hp];exact gj)]at hh;exact fK (ih acc τ' q yw (fun e m=>el e (bq _ m)) hh)
   |true=>
    rw[List.filter_cons_of_pos hp,fm]at hh;refine fO (ev hp _ ⟨acc,by rw[<- hn,bw],yw,?_⟩);rw[vB hn];exact ih (acc++[f x]) τ' q (by rw[ck,fq];omega) (fun e m=>el e (bq _ m)) (by rw[gy];exact hh)
 exact go l [] τ hP (by simpa using hl) el (by simpa using hf)
theorem cmf1{h:α->bc}(f:α->bc)(p:α->Bool)(hn:S0.length=n)(l:List α){u:Option XV}(hl:l.length<=1000)
  (el:∀x∈l,∀(u:Option XV) acc (R:XE->Bool->Sto->Prop),(∀u',(p x=true->∀T:RX,T (.d (f x)) (S0++[acc])->te (u'::caps) (S0++[acc]) T)->R (u'::caps) (p x) (S0++[acc]))->g (.d (h x)) (u::caps) (S0++[acc]) fun τ1 S1=>tt τ1 S1 (R τ1)) (hf:fin (S0++[(l.filter p).map f])):aX n g tt te fin (l.map h) (u::caps) (S0++[[]]):=
 Jv (fun τ=>∃u,τ=u::caps) hn l _ ⟨u,rfl⟩ hl (fun x m τ acc R ⟨u,e⟩ k=>by subst e;exact el x m u acc R fun u' hh=>k _ ⟨u',rfl⟩ hh) hf
end
end
section
@[irreducible] def QSs (X:Cx) (st:List Stmt) (t:TS):Prop:=PSs X st t
theorem QSs.out{X:Cx}{st:List Stmt}{t:TS}(h:QSs X st t):PSs X st t:=by unfold QSs at h;exact h
@[irreducible] def QA (X:Cx) (es:List Expr) (t:TA):Prop:=PA X es t
theorem QA.out{X:Cx}{es:List Expr}{t:TA}(h:QA X es t):PA X es t:=by unfold QA at h;exact h
theorem QA.mk{X:Cx}{es:List Expr}{t:TA}(h:PA X es t):QA X es t:=by unfold QA;exact h
theorem FJ{X:Cx}:QA X [] j7:=QA.mk zd
theorem eW{X:Cx}{e:Expr}{es:List Expr}{te:TE}{t:TA}(ha:PE X e te)(hr:QA X es t)(hs:dq (e::es) X.env=(false,eval e X.env)::dq es X.env:=by rfl):QA X (e::es) (gZ te t):=QA.mk (za ha hr.out hs)
theorem CA{X:Cx}{es:List Expr}{t:TA}{pos:Pos}(h:QA X es t):PE X (.List es pos) (mO t):=bO h.out
@[irreducible] def QS (X:Cx) (st:Stmt) (t:TS):Prop:=PS X st t
theorem QS.out{X:Cx}{st:Stmt}{t:TS}(h:QS X st t):PS X st t:=by unfold QS at h;exact h
end
section
section
variable {prog:cz}{w:fy}{A:ft}{E:bb->bd->Prop}{s:bd}
abbrev jY (acc:Array bb) (c:Nat):Obj:={ cls:=.type "list",dict:=none,data:=.seq acc c,slots:=#[] }
abbrev tO (lo hi:Int):Obj:={ cls:=.type "longrange_iterator",data:=.fields #[kh lo,kh (mn lo hi 1),kh 1] }
abbrev IntsFrom (lo:Int) (acc:Array bb) (n:Nat):Prop:=ItemsOf (fun i v=>∃t,v=.int (lo+(i:Nat)*1) t) acc n
theorem Ku{R:Result->bd->Prop}{lo:Int}{n L I:Nat}{res:bb}{c0 ac:Nat}{h0:Heap}(hh:A.handled=none)(hn:n<=1000)(ne:L≠I)
  (hI:IsLongIter h0 I (lo+((0:Nat):Int)*1) ((n:Int)-((0:Nat):Int)) 1) (hL:h0.get? L=some (jY #[] c0))
  (hR:∀h' tk acc c,(∀b o,b≠L->b≠I->h0.get? b=some o->h'.get? b=some o)->h'.get? L=some (jY acc c)->IntsFrom lo acc n->R (.ok (.ret res)) { s with heap:=h',toks:=tk }):
  ol (model prog w) A (.builtin "list.extend.loop" ⟨[.ref L,.ref I,res],[]⟩) R { s with heap:=h0,toks:=ac }:=by
 have ab:=(Walks.longrange (prog:=prog) (w:=w) (A:=A.in1) hh I lo 1 n).toS;have aa:n<=dn:=by rw[nq];omega
 have out:L∉[I]:=by simpa using ne
 refine codeAny_extend_loopS ab aa L out res n 0 _ #[] c0 rfl (lh _) hI hL (ItemsOf.nil _) ?_;intro s' acc c q ae z;rw[Moved.eq_with q];refine hR s'.heap s'.toks acc c (fun b o b1 b2 e=>q.heap b o ?_ e) ae z;simp only[ja,gt,or_false,not_or];exact⟨b1,b2⟩
theorem LK{R:Result->bd->Prop}{r L:Addr}{lo hi:Int}{t u v:Tok}{n:Nat}(hh:A.handled=none)(hr:IsRange s.heap r lo hi 1 t u v)(ai:Builtin.Range.small lo hi 1=false)(hn:mn lo hi 1=(n:Int))(hl:n<=1000)
  {c0:Nat} (hL:s.heap.get? L=some (jY #[] c0))
  (hR:∀h' tk acc c,(∀b o,b≠L->s.heap.get? b=some o->h'.get? b=some o)->h'.get? L=some (jY acc c)->IntsFrom lo acc n->R (.ok (.ret .none)) { s with heap:=h',toks:=tk }):
  bo (model prog w) A.in1 (jw (.ref L) (.ref r) .none)
   (fun f z=>match f with
    | .done g=>R (.ok g) z
    | .again c=>c.quiet=true/\ol (model prog w) A c R z) (fun e z=>R (.error e) z) s:=by
 have ac:L≠r:=fun e=>by
  rw[e,hr]at hL;simp at hL
 have aj:L<s.heap.objs.size:=fj hL;have ne:L≠s.heap.objs.size:=ge aj;have ae:Builtin.List.listSameRef (.ref L) (.ref r)=false:=by simp[Builtin.List.listSameRef,ac]
 have k1:(oh "range" == oh "list")=false:=by decide
 have k2:(oh "range" == oh "tuple")=false:=by decide
 unfold jw;refine ba (wpAny_typeOf (T:="range") ⟨_,hr,rfl⟩ ?_);simp only[ae,k1,k2,Bool.or_false,jm,if_false];refine ba (wpAny_pyIter_longrange hr ai ?_);have ag:IsLongIter (s.heap.push (tO lo hi)) s.heap.objs.size (lo+((0:Nat):Int)*1) ((n:Int)-((0:Nat):Int)) 1:=by
  show IsLongIter _ _ _ _ _;rw[<- hn];simpa using bv _ rfl
 have ab:=bf (tO lo hi) hL;refine ba (iq (wpAny_hint_range (n:=n) (bf _ hr) hn yw ?_));have go:∀{h0:Heap}{c0 af:Nat},IsLongIter h0 s.heap.objs.size (lo+((0:Nat):Int)*1) ((n:Int)-((0:Nat):Int)) 1->h0.get? L=some (jY #[] c0)->(∀b o,b≠L->s.heap.get? b=some o->h0.get? b=some o) ->
   ol (model prog w) A (.builtin "list.extend.loop" ⟨[.ref L,.ref s.heap.objs.size,.none],[]⟩) R { s with heap:=h0,toks:=af }:=fun {h0 c0 af} a1 a2 a3=>
  Ku hh hl ne a1 a2 fun h' tk acc c q1 q2 q3=>hR h' tk acc c (fun b o nb e=>q1 b o nb (ge (fj e)) (a3 b o nb e)) q2 q3
 have q:=jp qo;refine wpAny_ite_split (fun _=>?_) fun _=>be ⟨q _,go ag ab fun b o _ e=>bf _ e⟩;refine ba (pf (ba ?_));show bo _ _ (uy L (·.push .none) >>= fun _=>uy L (·.pop)) _ _ _;refine ba (li ab rfl ?_);have ah:=kj (ix (·.push jr)) ab rfl;refine li (hz:=by seq_fits) ah rfl ?_;have ak:=kj (ix (·.pop)) ah rfl;have aa:∀b o,b≠L->(s.heap.push (tO lo hi)).get? b=some o->(((s.heap.push (tO lo hi)).update L (ix (·.push jr))).update L (ix (·.pop))).get? b=some o:=fun b o nb e=>
  (jd _ _ (gq nb)).trans ((jd _ _ (gq nb)).trans e)
 exact be ⟨q _,go (aa _ _ (gq ne) ag) ak fun b o nb e=>aa b o nb (bf _ e)⟩
theorem Ng{R:Result->bd->Prop}{r L:Addr}{lo hi:Int}{t u v:Tok}{n:Nat}(hh:A.handled=none)(hr:IsRange s.heap r lo hi 1 t u v)(ac:Builtin.Range.small lo hi 1=false)(hn:mn lo hi 1=(n:Int))(hl:n<=1000)
  (hL:s.heap.get? L=some { cls:=.type "list",data:=.seq #[] })
  (hR:∀h' tk acc c,(∀b o,b≠L->s.heap.get? b=some o->h'.get? b=some o)->h'.get? L=some (jY acc c)->IntsFrom lo acc n->R (.ok (.ret .none)) { s with heap:=h',toks:=tk }):
  bo (model prog w) A.in1 (ny.«list.__init__» ⟨[.ref L,.ref r],[]⟩)
   (fun f z=>match f with
    | .done g=>R (.ok g) z
    | .again c=>c.quiet=true/\ol (model prog w) A c R z) (fun e z=>R (.error e) z) s:=by
 have aa:L≠r:=fun e=>by
  rw[e,hr]at hL;simp at hL
 show bo _ _ (do
  let was <- Builtin.List.listItems (.ref L)
  Builtin.List.listUpdate (.ref L) (fun _=>#[])
  letGo was.toList.reverse
  jw (.ref L) (.ref r) .none) _ _ s
 unfold Builtin.List.listItems;refine ba (ba (iy hL rfl (be ?_)));show bo _ _ (uy L (fun _=>#[]) >>= fun _=>letGo _ >>= fun _=>jw (.ref L) (.ref r) .none) _ _ s;refine ba (li hL rfl ?_);have ab:=kj (ix (fun _=>(#[]:Array bb))) hL rfl;have q:∀b o,b≠L->s.heap.get? b=some o->(s.heap.update L (ix (fun _=>(#[]:Array bb)))).get? b=some o:=fun b o nb e=>(jd _ _ (gq nb)).trans e;refine ba (nu ?_);refine LK hh (q r _ (gq aa) hr) ac hn hl ab fun h' tk acc c q1 q2 q3=>?_;exact hR h' tk acc c (fun b o nb e=>q1 b o nb (q b o nb e)) q2 q3
theorem JU{Q:bb->bd->Prop}{r:Addr}{lo hi:Int}{t u v:Tok}{n:Nat}(hh:A.handled=none)(hr:IsRange s.heap r lo hi 1 t u v)(hn:mn lo hi 1=(n:Int))(hl:n<=1000)
  (hQ:∀h' tk acc c,(∀b o,s.heap.get? b=some o->h'.get? b=some o)->h'.get? s.heap.objs.size=some (jY acc c)->IntsFrom lo acc n->Q (.ref s.heap.objs.size) { s with heap:=h',toks:=tk }):
  bo (model prog w) A (call (.type "list") [.ref r]) Q E s:=by
 cases sm:Builtin.Range.small lo hi 1 with
 |true=>exact call_list_range hh hr sm hn yw hQ
 |false=>
  refine callType_codes (Q₁:=fun ob z=>ob=.ref s.heap.objs.size/\z = { s with heap:=s.heap.push { cls:=.type "list",data:=.seq #[] } }) F.called_list (F.typeCall_list_1 _) F.entry_list_init (code_list_new _ ⟨rfl,rfl⟩) ?_;rintro ob z ⟨rfl,rfl⟩;have hL:(s.heap.push { cls:=.type "list",data:=.seq #[] }).get? s.heap.objs.size=some { cls:=.type "list",data:=.seq #[] }:=bv _ rfl;refine⟨⟨_,hL,rfl⟩,F.args_list_init_2 _ _,?_⟩;refine Ng (A:=A.in1) hh (bf _ hr) sm hn hl hL fun h' tk acc c q1 q2 q3=>⟨rfl,hQ h' tk acc c (fun b o e=>?_) q2 q3⟩;exact q1 b o (ge (fj e)) (bf _ e)
end
def EK(ta:TA):TE:=fun σ H Q=>ta σ H fun vs H1=>∃i j:Int,vs=[.int i,.int j]/\(j-i).toNat<=1000/\∀l,H1 l=none->Q (.ref l) (upd H1 l (.lst ((fh (j-i).toNat).map fun k:Nat=>V.int (i+k))))
theorem Ec:∀(xs:List V) (us:List bb),xs.length=us.length->(∀(k:Nat) (x:V) (u:bb),xs[k]?=some x->us[k]?=some u->RelV x u)->Vals xs us
 | [],[],_,_=>.nil
 |x::xs,u::us,hl,h=>.cons (h 0 x u rfl rfl) (Ec xs us (by simpa using hl) fun k y v e1 e2=>h (k+1) y v e1 e2)
 | [],_::_,hl,_=>by simp at hl
 |_::_,[],hl,_=>by simp at hl
theorem MG{lo:Int}:∀{n:Nat}{acc:Array bb},IntsFrom lo acc n->Vals ((fh n).map fun k:Nat=>V.int (lo+k)) acc.toList:=by
 intro n acc h;obtain⟨hz,hv⟩:=h;refine Ec _ _ (by simp[hz]) fun k x u ex eu=>?_;rw[gh]at ex;have hk:k<n:=by
  have:=(List.getElem?_eq_some_iff.mp eu).1;simpa[hz]using this
 rw[getElem?_range hk]at ex;cases ex;obtain⟨tk,rfl⟩:=hv k u (by simpa using eu);exact⟨tk,by rw[Int.mul_one]⟩
theorem NC{X:Cx}{a b:Expr}{ta:TA}{p p' pos pos':Pos}(hc:X.calm=true)(aa:Gl X "list")(z:X.mg "list" = none)(hg:Gl X "range")(hm:X.mg "range" = none)(ha:PA X [a,b] ta)
  (hs:dq [a,b] X.env=[(false,eval a X.env),(false,eval b X.env)]:=by rfl) (hs2:dq [b] X.env=[(false,eval b X.env)]:=by rfl)
  (hs3:dq [.Call (.Name "range" p) [a,b] [] pos] X.env=[(false,eval (.Call (.Name "range" p) [a,b] [] pos) X.env)]:=by rfl):
  PE X (.Call (.Name "list" p') [.Call (.Name "range" p) [a,b] [] pos] [] pos') (EK ta):=by
 intro zi s σ H Q I h;refine lq (fI I aa z EY ?_ dz dz);refine je ?_ (by rw[hs3];rfl) rfl;rw[hs3];show bo _ _ (spliced ((false,eval (.Call (.Name "range" p) [a,b] [] pos) X.env) :: [])) _ _ s;refine oz (Call_ (fI I hg hm boot_range (je (thn (ha pos zi s σ H _ I h) fun us s1 ⟨vs,H1,I1,r1,q1⟩=>?_) (by rw[hs,hs2]) (by rw[hs2];rfl))));obtain⟨i,j,e,hl,q⟩:=q1;subst e;cases r1 with
 |cons r rr=>
  cases rr with
  |cons r' rr=>
   cases rr;obtain⟨t,rfl⟩:=r;obtain⟨t',rfl⟩:=r';refine call_range_2 (su ?_);have I2:=I1.kept (h':=s1.heap.push { cls:=.type "range",data:=.fields #[.int i t,.int j t',.int 1 s1.toks] }) (t':=s1.toks+1) fun b o e=>bf _ e;have en:mn i j 1=(((j-i).toNat:Nat):Int):=by rw[rangeSize_one];split<;>omega
   refine JU (I2.ok.hd hc) (IsRange.new ..) en hl fun h' tk acc c kp e it=>?_;have hv:=MG it;refine⟨.ref _,_,I2.laid (t':=tk) kp (dh _) (show ObjOk X.prog X.w _ h' _ (.lst _)from⟨?_,acc.toList,c,hv,?_⟩),rfl,q _ (I2.hok.fresh (dh _))⟩
   ·rw[cg,List.length_range,nq];omega
   ·simpa using e
def lE(a:DA):DE:=fun δ S R=>a δ S fun xs S1=>arg2 xs fun x y=>asI x fun i=>asI y fun j=>(j-i).toNat<=1000/\R (.d (.list (eK i (j-i).toNat))) S1
theorem MX{ta:TA}{da:DA}(ha:RA ta da):RE (EK ta) (lE da):=fun h o H δ σ S R Q he hs q c=>
 ha h o H δ σ S _ _ he hs q fun o1 H1 S1 xs vs e1 s1 x1 d0=>by
  obtain⟨x,y,rfl,d2⟩:=mY d0;obtain⟨i,rfl,d3⟩:=bT d2;obtain⟨j,rfl,hl,d4⟩:=bT d3;obtain⟨v,u,rfl,hv,hu⟩:=hxs2 x1;rw[bU hv,bU hu];have l:=BJ (H:=vx h o1 H1) ((fh (j-i).toNat).map fun k:Nat=>i+k);rw[jj,jj]at l;exact⟨i,j,rfl,hl,lX s1 l (c.pre e1) d4⟩
end
end L2
namespace L2
open PySem PySem.Spec PyProof.Rows
section
def qJ:D3:=fun x i j S R=>asT x fun ds=>R (.d (.tuple (bE ds i j))) S
end
section
@[irreducible] def QE (X:Cx) (e:Expr) (t:TE):Prop:=PE X e t
theorem QE.out{X:Cx}{e:Expr}{t:TE}(h:QE X e t):PE X e t:=by unfold QE at h;exact h
end
end L2
namespace L2
open PySem PySem.Spec PyProof.Rows
section
def qX:D2:=fun x y S R=>asT x fun ds=>asT y fun es=>∃ns,ds=ns.map bp/\∃ms,es=ms.map bp/\R (.d (.bool (HT.lexLt ns ms))) S
end
section
open Sem (wp)
abbrev IsT (h:Heap) (T:Addr) (xs:Array bb):Prop:=h.get? T=some { cls:=.type "tuple",data:=.seq xs }
end
section
structure Bel(xs:Array Nat)(j r:Nat):Prop where
 le:r<=xs.size
 lo:∀i x,i<r->xs[i]?=some x->x<j
 hi:∀i x,r<=i->xs[i]?=some x->j<=x
abbrev Rise (xs:Array Nat):Prop:=xs.toList.Pairwise (· < ·)
theorem Rise.at{xs:Array Nat}(h:Rise xs){i k x y:Nat}(ik:i<k)(ei:xs[i]?=some x)(ek:xs[k]?=some y):x<y:=by
 rw[<- qb]at ei ek;obtain⟨hi,rfl⟩:=List.getElem?_eq_some_iff.mp ei;obtain⟨hk,rfl⟩:=List.getElem?_eq_some_iff.mp ek;exact List.pairwise_iff_getElem.mp h i k hi hk ik
theorem AG{xs:Array Nat}{j:Nat}(h:Rise xs):∀(fuel lo hi:Nat),lo<=hi->hi<=xs.size->hi-lo<=fuel->(∀i x,i<lo->xs[i]?=some x->x<j)->(∀i x,hi<=i->xs[i]?=some x->j<=x)->Bel xs j (SetTable.below.go xs j fuel lo hi)
 | 0,lo,hi,l1,l2,l3,a,b=>by
  unfold SetTable.below.go;have:hi=lo:=yw
  subst this;exact⟨l2,a,b⟩
 |fuel+1,lo,hi,l1,l2,l3,a,b=>by
  unfold SetTable.below.go;by_cases h1:lo<hi
  ·rw[cy h1];have hm:(lo+hi)/2<xs.size:=yw
   have em:xs[(lo+hi)/2]?=some xs[(lo+hi)/2]:=jl hm;have eg:xs.getD ((lo+hi)/2) j=xs[(lo+hi)/2]:=by simp[Array.getD,hm]
   dsimp only;rw[eg];by_cases h2:xs[(lo+hi)/2]<j
   ·rw[cy h2];refine AG h fuel _ _ yw l2 yw (fun i x q e=>?_) b;by_cases h3:i=(lo+hi)/2
    ·subst h3;rw[em]at e;cases e;exact h2
    ·exact lt_trans (h.at yw e em) h2
   ·rw[cr h2];refine AG h fuel _ _ yw yw yw a fun i x q e=>?_;by_cases h3:i=(lo+hi)/2
    ·subst h3;rw[em]at e;cases e;omega
    ·have:=h.at (show (lo+hi)/2<i by omega) em e;omega
  ·rw[cr h1];have:hi=lo:=yw
   subst this;exact⟨l2,a,b⟩
theorem bel{xs:Array Nat}{j:Nat}(h:Rise xs):Bel xs j (pp xs j):=by
 unfold pp;refine AG h _ _ _ (lh _) (dh _) yw (fun i x z=>absurd z (not_lt_zero _)) fun i x z e=>?_;have:=(Array.getElem?_eq_some_iff.mp e).1;omega
theorem Dh{xs:Array Nat}{j r q:Nat}(a:Bel xs j r)(b:Bel xs j q):r=q:=by
 rcases Nat.lt_trichotomy r q with h|h|h
 ·have hs:r<xs.size:=by have:=b.le;omega
  have e:=jl hs;have:=a.hi r _ (dh _) e;have:=b.lo r _ h e;omega
 ·exact h
 ·have hs:q<xs.size:=by have:=a.le;omega
  have e:=jl hs;have:=b.hi q _ (dh _) e;have:=a.lo q _ h e;omega
theorem HZ{xs:Array Nat}{j:Nat}(h:Rise xs)(hn:xs[pp xs j]? ≠ some j):Rise (SetTable.insertAt xs (pp xs j) j):=by
 have b:=bel (j:=j) h;generalize pp xs j=r at b hn;unfold Rise;rw[SetTable.toList_insertAt];have h1:∀x∈xs.toList.take r,x<j:=fun x m=>by
  obtain⟨i,hi⟩:=mem_iff_getElem?.mp m;have il:i<r:=by
   have:=(List.getElem?_eq_some_iff.mp hi).1;rw[ku]at this;omega
  rw[List.getElem?_take,cy il,qb]at hi;exact b.lo i x il hi
 have h2:∀x∈xs.toList.drop r,j<x:=fun x m=>by
  obtain⟨i,hi⟩:=mem_iff_getElem?.mp m;rw[List.getElem?_drop,qb]at hi;have le:=b.hi (r+i) x yw hi;rcases Nat.eq_or_lt_of_le le with e|l
  ·exfalso;subst e;cases i with
   |zero=>exact hn hi
   |succ i=>
    have hs:r<xs.size:=by have:=(Array.getElem?_eq_some_iff.mp hi).1;omega
    have e:=jl hs;have:=b.hi r _ (dh _) e;have:=h.at (show r<r+(i+1) by omega) e hi;omega
  ·exact l
 refine List.pairwise_append.mpr ⟨List.Pairwise.sublist (List.take_sublist _ _) h,pairwise_cons.mpr ⟨h2,List.Pairwise.sublist (List.drop_sublist _ _) h⟩,fun x mx y my=>?_⟩;rcases mem_cons.mp my with rfl|my
 ·exact h1 x mx
 ·exact lt_trans (h1 x mx) (h2 y my)
theorem Kd{t:kr}(hd:t.dummies = #[])(j:Nat):t.slot j≠.dummy:=by
 unfold SetTable.slot;dsimp only;split
 ·simp
 ·rw[hd];simp[SetTable.has]
theorem Nc{t:kr}{j:Nat}(h:t.slot j=.empty):t.place[pp t.place j]? ≠ some j:=by
 unfold SetTable.slot at h;dsimp only at h;intro e;rw[e]at h;simp at h
theorem Ed{t:kr}{f:Nat->Int}{h:Int}(hd:t.dummies = #[]):∀(fuel:Nat) (p:SetTable.Probe) (j:Nat) (d:Option Nat),SetTable.probe.go t f h fuel p=some (.empty j d)->t.slot j=.empty/\d=p.dummy
 | 0,p,j,d,e=>by simp[SetTable.probe.go]at e
 |fuel+1,p,j,d,e=>by
  unfold SetTable.probe.go at e;split at e
  ·rename_i hs;cases e;exact⟨hs,rfl⟩
  ·rename_i hs;exact absurd hs (Kd hd _)
  ·split at e
   ·cases e
   ·have:=Ed hd fuel _ j d e;refine⟨this.1,this.2.trans ?_⟩;unfold SetTable.advance;split<;>rfl
structure Tab(led:Bool)(t:kr)(n:Nat):Prop where
 fits:t.fits n=true
 rise:Rise t.place
 dum:t.dummies = #[]
 led:t.led=led
theorem KM(n:Nat):Rise (Array.range n):=by
 unfold Rise;rw[Array.toList_range];exact List.pairwise_lt_range
theorem tT{led:Bool}{t:kr}(n:Nat)(h:t.led=led):Tab led (t.standIn n) n:=
 ⟨SetTable.standIn_fits t n,KM n,rfl,h⟩
theorem NK(led:Bool):Tab led (SetTable.fresh 0 0 led) 0:=⟨rfl,List.Pairwise.nil,rfl,rfl⟩
theorem Gg{led:Bool}{t:kr}{es:Array (Int×bb)}(h:Tab led t es.size)(hs:Int)(x:bb):Tab led (layNew t es hs x).2.1 (layNew t es hs x).1.size:=by
 unfold layNew;split
 ·rename_i slot wd hf;unfold SetTable.freeSlot at hf;split at hf
  ·rename_i j d hp;cases hf;obtain⟨e1,e2⟩:=Ed h.dum _ _ _ _ hp;have e3:d=none:=e2;subst e3;dsimp only[Option.getD];have hr:=HZ h.rise (Nc e1);unfold SetTable.orStandIn;split
   ·rename_i q;refine⟨q,hr,?_,h.led⟩;show (if SetTable.has t.dummies j=true then _ else t.dummies) = #[];rw[h.dum];rfl
   ·exact tT _ h.led
  ·cases hf
 ·have:=tT (led:=led) (t:=t) (es.size+1) h.led;simpa using this
theorem LY{led:Bool}{t:kr}{es:Array (Int×bb)}(h:t.led=led)(q:Nat):Tab led (relayAll t es q).2.1 (relayAll t es q).1.size:=by
 have hf:=relayAll_fits t es q;unfold relayAll at hf ⊢;split
 ·rename_i t' z hl;rw[hl]at hf;dsimp only at hf ⊢;split
  ·rename_i hc;rw[cy hc]at hf;unfold SetTable.relaid SetTable.laid at hl;simp only[Option.bind_eq_bind,Option.bind_eq_some_iff,Option.pure_def,Option.some.injEq,Prod.mk.injEq]at hl;obtain⟨owner,_,rfl,_⟩:=hl;refine⟨hf,?_,rfl,h⟩;unfold Rise;dsimp only;rw[pairwise_map,List.pairwise_filterMap];refine List.Pairwise.imp (fun {a b} ab x ex y ey=>?_) List.pairwise_lt_range;obtain⟨_,_,rfl⟩:=map_eq_some_iff.mp ex;obtain⟨_,_,rfl⟩:=map_eq_some_iff.mp ey;exact ab
  ·exact tT _ h
 ·exact tT _ h
end
section
def kE(e:Int×bb):Int:=match e.2 with
 | .int n _=>n
 |_=>0
section
variable {prog:cz}{w:fy}{A:ft}{E:bb->bd->Prop}{s:bd}{led:Bool}
theorem wG{n:Nat}(h:n<100):n<scanBound:=by
 have:scanBound=4096:=rfl;omega
end
end
section
namespace F4
theorem plain_update_loop:plainId "set.update.loop" = true:=by decide +kernel
theorem entry_update_loop:entryFor table "set.update.loop" = some ny.«set.update.loop»:=entryFor_of_fast (by kernel_rfl)
theorem typeCall_set_1(a:bb):checkTypeCall "set" ⟨[a],[]⟩=pure ():=by kernel_rfl
theorem newCall_set_1(a:bb):checkBuiltinCall "set.__new__" ⟨[.type "set",a],[]⟩=pure ():=by kernel_rfl
theorem sub_list_set:isSubtype (.type "list") (.type "set")=pure false:=by rw[isSubtype_type];kernel_rfl
theorem sub_list_frz:isSubtype (.type "list") (.type "frozenset")=pure false:=by rw[isSubtype_type];kernel_rfl
end F4
section
variable {prog:cz}{w:fy}{A:ft}{E:bb->bd->Prop}{s:bd}
theorem vM{Q:Bool->bd->Prop}(h:Q (w.params.followText "set-order") s):bo (model prog w) A setsByText Q E s:=fun _ _ _=>h
theorem HI{a:bb}{Q:bb->bd->Prop}(h:Q (.ref s.heap.objs.size) { s with heap:=s.heap.push { cls:=.type "set",dict:=none,data:=.set #[] 0 (.fresh 0 0 (!w.params.followText "set-order")) } }):
  ol (model prog w) A (.call (.builtin "set.__new__") ⟨[.type "set",a],[]⟩) (wants Q E) s:=by
 refine codeAny_of_tree ?_;show bo _ A.in1 (do checkBuiltinCall "set.__new__" ⟨[.type "set",a],[]⟩;again (.builtin "set.__new__" ⟨[.type "set",a],[]⟩)) _ _ s;refine ba (wpAny_of_eq (F4.newCall_set_1 a) (be ⟨jp F.plain_set_new _,jb F.entry_set_new ?_⟩));rw[gu F.plain_set_new _];unfold ny.«set.__new__» Builtin.Frozenset.newClass;have q:=sub_set_self;obtain⟨h0,gs,dr,tk,os⟩:=s;dsimp only
 wp_walk
 refine wpAny_askSetting (M:=model prog w) (be ?_);dsimp only;simp only[newObj];exact ba (wpAny_alloc (be (be h)))
theorem Lh{M:Model}{self a:bb}{Q:Unit->bd->Prop}(hT:s.TypeIs self "set")(hQ:Q () s):bo M A (checkBuiltinCall "set.__init__" ⟨[self,a],[]⟩) Q E s:=by
 simp only[checkBuiltinCall,kind_set_init,split_set_init,sig_set_init];refine ba (kl hT sub_set_self ?_);simp only[Bool.not_true,jm,if_false];unfold Bind.checkArgs;dsimp only;refine ba (m:=Bind.printed "set" true _ _) (PyProof.Rows.printed_name dz ?_);refine ba (m:=Bind.printed "*" false _ _) (PyProof.Rows.printed_star (sig:=_) (self:=self) rfl hT fun q=>?_);have z:(Manifest.Receiver.self==Manifest.Receiver.none)=false:=by decide
 have h1:(if (Manifest.Receiver.self==Manifest.Receiver.none)=true then [self,a].length else [self,a].length-1)=1:=by simp[z]
 rw[h1];simp only[vb];have hc:Bind.check ⟨.positional,"set","*",.self,[⟨"iterable",.posOnly,false⟩]⟩ "set" q 1 []=pure ():=by
  have aa:(Manifest.ParamKind.posOnly==Manifest.ParamKind.posOnly)=true:=by decide
  simp[Bind.check,Bind.checkCount,Bind.isPositional,aa]
 rw[hc];exact be hQ
end
end
section
namespace F4
theorem slot_si_next:Slot "set_iterator" "__next__" "set_iterator.__next__":=.of (owner:="set_iterator") (n:="__next__") (by rw[typeLookup_type,builtinLookup_eq_fast];kernel_rfl) (by decide +kernel) (by decide +kernel) (by decide +kernel) (by first|exact .inl (by decide +kernel)|exact .inr (by decide +kernel)) (by rw[isSubtype_type];kernel_rfl)
theorem entry_si_next:entryFor table "set_iterator.__next__" = some ny.«set_iterator.__next__»:=entryFor_of_tree (by kernel_rfl)
theorem entry_set_iter:entryFor table "set.__iter__" = some ny.«frozenset.__iter__»:=entryFor_alias (id':="frozenset.__iter__") (by kernel_rfl) rfl (by decide +kernel) (by kernel_rfl)
theorem IB:Manifest.owners.lookup (String.ofList ['r','o','t','a','r','e','t','i','_','t','e','s'].reverse)=some Manifest.sig_set_iterator:=by kernel_rfl
theorem args_si_next(a:bb):argsOk "set_iterator.__next__" ⟨[a],[]⟩:=by unfold argsOk;rw[signature?_of (id:="set_iterator.__next__") (n:=['_','_','t','x','e','n','_','_']) (o:=['r','o','t','a','r','e','t','i','_','t','e','s']) (by kernel_rfl) IB];kernel_rfl
end F4
theorem yN{α:Type}:∀(l:List α) (i:Nat) (h:i<l.length),(l[i]::l.eraseIdx i).Perm l
 | [],i,h=>by simp at h
 |a::l,0,h=>vf _
 |a::l,i+1,h=>by
  show (l[i]'(by simpa using h)::a::l.eraseIdx i).Perm (a::l);exact(List.Perm.swap _ _ _).trans (List.Perm.cons _ (yN l i (by simpa using h)))
theorem DV{α:Type}{next:Nat->Nat}:∀(fuel k:Nat) (left:List α) (out:Array α),left.length=fuel->(pickOrder.go next fuel k left out).toList.Perm (out.toList++left)
 | 0,k,left,out,h=>by
  have:left=[]:=List.length_eq_zero_iff.mp h;subst this;unfold pickOrder.go;simp
 |fuel+1,k,left,out,h=>by
  unfold pickOrder.go;have hl:next k % left.length<left.length:=Nat.mod_lt _ yw;rw[bn hl];dsimp only;refine(DV fuel (k+1) _ _ (by rw[List.length_eraseIdx,cy hl];omega)).trans ?_;rw[toList_push,gy];refine List.Perm.append_left _ ?_;exact yN _ _ hl
theorem IS{α:Type}(next:Nat->Nat)(xs:Array α):(pickOrder next xs).toList.Perm xs.toList:=by
 unfold pickOrder;have:=DV (next:=next) xs.size 0 xs.toList #[] (fu);simpa using this
section
variable {prog:cz}{w:fy}{A:ft}{E:bb->bd->Prop}{s:bd}
theorem EU{α:Type}{E:bb->bd->Prop}:∀(n:Nat) (xs:List α) (s:bd) (Q:List α->bd->Prop),xs.length=n->(∀d ys,ys.Perm xs->Q ys { s with drawn:=d })->bo (model prog w) A (drawOrder n xs) Q E s
 | 0,xs,s,Q,h,q=>by
  have:xs=[]:=List.length_eq_zero_iff.mp h;subst this;exact be (q s.drawn [] (vf _))
 |n+1,[],s,Q,h,q=>by cases h
 |n+1,x::xs,s,Q,h,q=>by
  show bo _ _ (choose .order (x::xs).length >>= _) _ _ _;refine ba (fun Γ p hΓ=>⟨yv,?_⟩);show bo (model prog w) A (match (x::xs)[w.draws .order (s.drawn.get .order) % (x::xs).length]? with|some y=>(do let r <- drawOrder n ((x::xs).eraseIdx (w.draws .order (s.drawn.get .order) % (x::xs).length));pure (y::r))|none=>unsupported "internal:drawOrder") Q E { s with drawn:=s.drawn.bump .order };generalize hi:w.draws .order (s.drawn.get .order) % (x::xs).length=i;have hl:i<(x::xs).length:=by rw[<- hi];exact Nat.mod_lt _ yv
  rw[bn hl];dsimp only;refine ba (EU n _ _ _ (by rw[List.length_eraseIdx,cy hl];omega) fun d ys p=>be ?_);exact q d _ ((List.Perm.cons _ p).trans (yN _ _ hl))
abbrev IsSI (h:Heap) (I S:Addr) (f:bb) (i n ep:Nat):Prop:=h.get? I=some { cls:=.type "set_iterator",dict:=none,data:=.fields #[f,kh i,.ref S,kh n,kh ep],slots:=#[] }
theorem iX{I S:Addr}{f:bb}{i n ep:Nat}(h:IsSI s.heap I S f i n ep):s.TypeIs (.ref I) "set_iterator":=⟨_,h,rfl⟩
theorem C9(i:Nat):kh ((i:Int)+1)=kh ((i+1:Nat):Int):=by simp
theorem Fb{Q:PySem.Fin->bd->Prop}(hh:A.handled=none)(h:∀h' e,(∀b o,s.heap.get? b=some o->h'.get? b=some o)->(∃o,h'.get? e=some o/\o.cls=.type "StopIteration")->E (.ref e) { s with heap:=h' }):
  bo (model prog w) A (newExc (.type "StopIteration") [] >>= fun x=>raiseNew x) Q E s:=by
 refine ba ?_;simp only[newExc,newTuple];refine ba (gb ?_ (by size_fits));refine ba (m:=tq (.type "StopIteration") _) (wpAny_of_eq (a:=jr) (by first|rfl|(simp only[tq];rfl)) ?_);refine gb ?_ (by size_fits);simp only[raiseNew];refine ba (wpAny_handled ?_);rw[hh];refine ba (be (wpAny_throw ?_));exact h _ _ (fun b o e=>bf _ (bf _ e)) ⟨_,bv _ rfl,rfl⟩
theorem Md{I S:Addr}{o:Obj}{es:Array (Int×bb)}{t:kr}{slot nx i ep:Nat}{x:bb}{Q:Option bb->bd->Prop}(hI:IsSI s.heap I S (kh slot) i es.size ep)(hS:s.heap.get? S=some o)(hd:o.data=.set es ep t)(hf:t.fits es.size=true)
  (hn:∀(A:ft) (Q:Option (bb×Nat)->bd->Prop) (E:bb->bd->Prop) (s:bd),s.heap.get? S=some o->Q (some (x,nx)) s->bo (model prog w) A (setNext S slot i ep) Q E s)
  (hQ:∀h',IsSI h' I S (kh nx) (i+1) es.size ep->fg I s.heap h'->Q (some x) { s with heap:=h' }):bo (model prog w) A (nv (.ref I)) Q E s:=by
 unfold nv;refine ba (qj (gx (name:=ju "__next__") (iX hI) F4.slot_si_next (ia F4.slot_si_next (iX hI) F4.entry_si_next ?_ (F4.args_si_next _))));unfold ny.«set_iterator.__next__»;refine ba (m:=slotArgs "__next__" 0 _) (be ?_);refine ba (tw hI rfl ?_);show bo _ _ (setEntries S >>= _) _ _ s;refine ba (qp hS hd hf ?_);rw[cr yv];show bo _ _ (setNext S ((slot:Int).toNat) ((i:Int).toNat) ((ep:Int).toNat) >>= _) _ _ s;rw[gn,gn,gn];refine ba (hn _ _ _ _ hS ?_);refine ba (gf hI yv fun g1 z1 b1=>?_);refine ba (gf (s:={ s with heap:=g1 }) z1 yv fun g2 z2 b2=>?_);refine be ⟨_,rfl,be (hQ g2 ?_ (b1.trans b2))⟩;rw[C9]at z2;exact z2
theorem HQ{I S:Addr}{o:Obj}{es:Array (Int×bb)}{t:kr}{slot i ep:Nat}{Q:Option bb->bd->Prop}(hh:A.handled=none)(hI:IsSI s.heap I S (kh slot) i es.size ep)(hS:s.heap.get? S=some o)(hd:o.data=.set es ep t)(hf:t.fits es.size=true)
  (hn:∀(A:ft) (Q:Option (bb×Nat)->bd->Prop) (E:bb->bd->Prop) (s:bd),s.heap.get? S=some o->Q none s->bo (model prog w) A (setNext S slot i ep) Q E s)
  (hQ:∀h',(∀b o,b≠I->s.heap.get? b=some o->h'.get? b=some o)->Q none { s with heap:=h' }):bo (model prog w) A (nv (.ref I)) Q E s:=by
 unfold nv;refine ba (qj (gx (name:=ju "__next__") (iX hI) F4.slot_si_next (ia F4.slot_si_next (iX hI) F4.entry_si_next ?_ (F4.args_si_next _))));unfold ny.«set_iterator.__next__»;refine ba (m:=slotArgs "__next__" 0 _) (be ?_);refine ba (tw hI rfl ?_);show bo _ _ (setEntries S >>= _) _ _ s;refine ba (qp hS hd hf ?_);rw[cr yv];show bo _ _ (setNext S ((slot:Int).toNat) ((i:Int).toNat) ((ep:Int).toNat) >>= _) _ _ s;rw[gn,gn,gn];refine ba (hn _ _ _ _ hS ?_);refine ba (gf hI yv fun g1 z1 b1=>?_);refine Fb (s:={ s with heap:=g1 }) hh fun h' e kp ⟨oe,e1,e2⟩=>?_;refine ba (kl (T:="StopIteration") (b:=true) ⟨oe,e1,e2⟩ isSubtype_stop ?_);exact be (hQ _ fun b ob nb eb=>kp b ob (b1.extBut b ob nb eb))
theorem HS{I S T:Addr}{o:Obj}{es:Array (Int×bb)}{t:kr}{i ep p:Nat}{ps:Array bb}{x:Int×bb}{Q:Option bb->bd->Prop}(hI:IsSI s.heap I S (.ref T) i es.size ep)(hS:s.heap.get? S=some o)(hd:o.data=.set es ep t)(hf:t.fits es.size=true)
  (hT:IsT s.heap T ps) (hp:ps[i]?=some (kh p)) (hx:es[p]?=some x)
  (hQ:∀h',IsSI h' I S (.ref T) (i+1) es.size ep->fg I s.heap h'->Q (some x.2) { s with heap:=h' }):bo (model prog w) A (nv (.ref I)) Q E s:=by
 unfold nv;refine ba (qj (gx (name:=ju "__next__") (iX hI) F4.slot_si_next (ia F4.slot_si_next (iX hI) F4.entry_si_next ?_ (F4.args_si_next _))));unfold ny.«set_iterator.__next__»;refine ba (m:=slotArgs "__next__" 0 _) (be ?_);refine ba (tw hI rfl ?_);show bo _ _ (setEntries S >>= _) _ _ s;refine ba (qp hS hd hf ?_);rw[cr yv];show bo _ _ (ug (.ref T) >>= _) _ _ s;refine ba (ba (wpAny_load hT (be ?_)));show bo _ _ (match ps[(i:Int).toNat]? with|some (vh place _)=>_|some _=>_|none=>_) _ _ s;rw[gn,hp];show bo _ _ (setNextDrawn S ((p:Int).toNat) ((ep:Int).toNat) >>= _) _ _ s;rw[gn,gn];unfold setNextDrawn;refine ba (ba (qh hS hd hf ?_));dsimp only;rw[cr yv,hx];refine be ?_;refine ba (gf hI yv fun g1 z1 b1=>?_);refine be ⟨_,rfl,be (hQ g1 ?_ b1)⟩;rw[C9]at z1;exact z1
theorem Jz{I S T:Addr}{o:Obj}{es:Array (Int×bb)}{t:kr}{i ep:Nat}{ps:Array bb}{Q:Option bb->bd->Prop}(hh:A.handled=none)(hI:IsSI s.heap I S (.ref T) i es.size ep)(hS:s.heap.get? S=some o)(hd:o.data=.set es ep t)(hf:t.fits es.size=true)
  (hT:IsT s.heap T ps) (hp:ps[i]?=none)
  (hQ:∀h',(∀b o,b≠I->s.heap.get? b=some o->h'.get? b=some o)->Q none { s with heap:=h' }):bo (model prog w) A (nv (.ref I)) Q E s:=by
 unfold nv;refine ba (qj (gx (name:=ju "__next__") (iX hI) F4.slot_si_next (ia F4.slot_si_next (iX hI) F4.entry_si_next ?_ (F4.args_si_next _))));unfold ny.«set_iterator.__next__»;refine ba (m:=slotArgs "__next__" 0 _) (be ?_);refine ba (tw hI rfl ?_);show bo _ _ (setEntries S >>= _) _ _ s;refine ba (qp hS hd hf ?_);rw[cr yv];show bo _ _ (ug (.ref T) >>= _) _ _ s;refine ba (ba (wpAny_load hT (be ?_)));show bo _ _ (match ps[(i:Int).toNat]? with|some (vh place _)=>_|some _=>_|none=>_) _ _ s;rw[gn,hp];refine ba (gf hI yv fun g1 z1 b1=>?_);refine ba (gf (s:={ s with heap:=g1 }) z1 yv fun g2 z2 b2=>?_);refine Fb (s:={ s with heap:=g2 }) hh fun h' e kp ⟨oe,e1,e2⟩=>?_;refine ba (kl (T:="StopIteration") (b:=true) ⟨oe,e1,e2⟩ isSubtype_stop ?_);exact be (hQ _ fun b ob nb eb=>kp b ob (b2.extBut b ob nb (b1.extBut b ob nb eb)))
end
end
section
section
variable {prog:cz}{w:fy}{A:ft}{E:bb->bd->Prop}{s:bd}
theorem tB{α:Type}{M:Model}{c:Prop}[Decidable c]{a b:Sem α}{Q:α->bd->Prop}(h:¬ c)(q:bo M A b Q E s):bo M A (if c then a else b) Q E s:=by
 rw[cr h];exact q
theorem xJ{α:Type}{M:Model}{c:Prop}[Decidable c]{a b:Sem α}{Q:α->bd->Prop}(h:c)(q:bo M A a Q E s):bo M A (if c then a else b) Q E s:=by
 rw[cy h];exact q
theorem Cv{S:Addr}{o:Obj}{es:Array (Int×bb)}{t:kr}{slot i ep:Nat}{Q:Option (bb×Nat)->bd->Prop}(hS:s.heap.get? S=some o)(hd:o.data=.set es ep t)(hf:t.fits es.size=true)(hb:w.params.followText "set-order" = true)
  (h:Q ((pickOrder (w.params.setOrder S ep) es)[i]?.map fun e=>(e.2,slot)) s):bo (model prog w) A (setNext S slot i ep) Q E s:=by
 unfold setNext;refine ba (qh hS hd hf (ba (vM ?_)));rw[hb];dsimp only;rw[cy rfl,cr yv];refine ba ?_;unfold setWalk;refine ba (qh hS hd hf (ba (vM ?_)));rw[hb,cy rfl];exact ba (wpAny_askSetting (be (be h)))
theorem Ax{S:Addr}{o:Obj}{es:Array (Int×bb)}{t:kr}{slot i ep:Nat}{Q:Option (bb×Nat)->bd->Prop}(hS:s.heap.get? S=some o)(hd:o.data=.set es ep t)(hf:t.fits es.size=true)(hb:w.params.followText "set-order" = false)
  (hdr:(!t.plain&&decide (es.size>1))=false) (hl:t.led=true) (hi:pp t.place slot=i)
  (h:Q (match es[i]?,t.place[i]? with|some (_,x),some j=>some (x,j+1)|_,_=>none) s):bo (model prog w) A (setNext S slot i ep) Q E s:=by
 unfold setNext;refine ba (qh hS hd hf (ba (vM ?_)));rw[hb];dsimp only;rw[cr yv];refine tB (show ¬((!t.plain&&decide (es.size>1))=true) by rw[hdr];simp) ?_;refine ba ?_;show bo _ _ (if (!t.led&&!es.isEmpty)=true then unsupported "set:maker-not-led" else pure ()) _ _ s;rw[cr (by rw[hl];simp)];refine be ?_;rw[hi];exact be h
structure Wk(prog:cz)(w:fy)(A:ft)(I:Addr)(fp:List Addr)(vs:List bb)(St:Nat->Heap->Prop):Prop where
 mem:I∈fp
 frame:∀i h h',St i h->(∀b∈fp,∀o,h.get? b=some o->h'.get? b=some o)->St i h'
 item:∀i v (s:bd) (Q:Option bb->bd->Prop) (E:bb->bd->Prop),vs[i]?=some v->St i s.heap->(∀h',St (i+1) h'->(∀b o,b≠I->s.heap.get? b=some o->h'.get? b=some o)->Q (some v) { s with heap:=h' })->bo (model prog w) A (nv (.ref I)) Q E s
 done:∀(s:bd) (Q:Option bb->bd->Prop) (E:bb->bd->Prop),St vs.length s.heap->(∀h',(∀b o,b≠I->s.heap.get? b=some o->h'.get? b=some o)->Q none { s with heap:=h' })->bo (model prog w) A (nv (.ref I)) Q E s
theorem G2{R:Result->bd->Prop}{I:Addr}{fp:List Addr}{vs:List bb}{St:Nat->Heap->Prop}(W:Wk prog w A.in1 I fp vs St)(hn:vs.length<=1000)(S:Addr)(ab:S∉fp)(res:bb):
  ∀(m i:Nat) (s:bd) (acc:Array bb) (c:Nat),vs.length-i=m->i<=vs.length->St i s.heap->s.heap.get? S=some (qk "list" acc c)->acc.toList=vs.take i ->
  (∀h' c',(∀b o,b≠S->b≠I->s.heap.get? b=some o->h'.get? b=some o)->h'.get? S=some (qk "list" vs.toArray c')->R (.ok (.ret res)) { s with heap:=h' }) ->
  ol (model prog w) A (.builtin "list.extend.loop" ⟨[.ref S,.ref I,res],[]⟩) R s:=by
 have aa:S≠I:=fun e=>ab (e▸W.mem);intro m;induction m with
 |zero=>
  intro i s acc c hm hi st hS ha hR;obtain rfl:i=vs.length:=yw
  refine jb F.entry_extend_loop ?_;rw[gu qo _];show bo _ A.in1 (nv (.ref I) >>= _) _ _ s;refine ba (W.done s _ _ st fun h' kp=>be (hR h' c (fun b o _ nI e=>kp b o nI e) ?_));have:acc=vs.toArray:=by
   rw[mr]at ha;rw[<- ha]
  rw[<- this];exact kp S _ aa hS
 |succ m ih=>
  intro i s acc c hm hi st hS ha hR;have q:i<vs.length:=yw
  refine jb F.entry_extend_loop ?_;rw[gu qo _];show bo _ A.in1 (nv (.ref I) >>= _) _ _ s;refine ba (W.item i vs[i] s _ _ (bn q) st fun h' ac kp=>?_);have z:=kp S _ aa hS;have sz:acc.size=i:=by rw[<- fu,ha,ku];omega
  show bo _ A.in1 (uy S (·.push vs[i]) >>= _) _ _ _;refine ba (li (s:={ s with heap:=h' }) z rfl (be ⟨jp qo _,ih (i+1) _ (acc.push vs[i]) _ yw q (W.frame _ h' _ ac fun b hb o e=>?_) (kj _ z rfl) ?_ fun h'' c' ae hS''=>?_⟩)
   (by rw[sz,nq];omega) (by show (acc.push vs[i]).size<=_;rw[Array.size_push,sz,nq];omega))
  ·exact(jd _ _ (fun h:S=b=>ab (by rw[h];exact hb))).trans e
  ·rw[toList_push,ha,List.take_succ_eq_append_getElem q]
  ·exact hR h'' c' (fun b o nS nI e=>ae b o nS nI ((jd _ _ (fun h:S=b=>nS h.symm)).trans (kp b o nI e))) hS''
theorem CN{I S:Addr}{o:Obj}{es:Array (Int×bb)}{t:kr}{ep:Nat}(hh:A.handled=none)(q:S≠I)(hd:o.data=.set es ep t)(hf:t.fits es.size=true)(us:List (Int×bb))(sl:Nat->Nat)
  (hn:∀i e,us[i]?=some e->∀(A:ft) (Q:Option (bb×Nat)->bd->Prop) (E:bb->bd->Prop) (s:bd),s.heap.get? S=some o->Q (some (e.2,sl (i+1))) s->bo (model prog w) A (setNext S (sl i) i ep) Q E s)
  (he:∀(A:ft) (Q:Option (bb×Nat)->bd->Prop) (E:bb->bd->Prop) (s:bd),s.heap.get? S=some o->Q none s->bo (model prog w) A (setNext S (sl us.length) us.length ep) Q E s):
  Wk prog w A I [I,S] (us.map (·.2)) (fun i h=>IsSI h I S (kh (sl i)) i es.size ep/\h.get? S=some o) where
 mem:=by simp
 frame:=fun i h h' ⟨a,b⟩ k=>⟨k I yv _ a,k S yv _ b⟩
 item:=fun i v s Q E hv ⟨a,b⟩ hQ=>by
  rw[gh]at hv;obtain⟨e,he,rfl⟩:=map_eq_some_iff.mp hv;exact Md a b hd hf (hn i e he) fun h' z sb=>hQ h' ⟨z,sb.extBut S _ q b⟩ fun b' o' nb e=>sb.extBut b' o' nb e
 done:=fun s Q E ⟨a,b⟩ hQ=>by
  rw[cg]at a;exact HQ hh a b hd hf he fun h' kp=>hQ h' kp
theorem JJ{I S T:Addr}{o:Obj}{es:Array (Int×bb)}{t:kr}{ep:Nat}(hh:A.handled=none)(ab:S≠I)(aa:T≠I)(hd:o.data=.set es ep t)(hf:t.fits es.size=true)(ps:List Nat)(hp:∀p∈ps,p<es.size):
  Wk prog w A I [I,S,T] (ps.map fun p=>(es.getD p (0,.none)).2) (fun i h=>IsSI h I S (.ref T) i es.size ep/\h.get? S=some o/\IsT h T (ps.map fun p:Nat=>kh p).toArray) where
 mem:=by simp
 frame:=fun i h h' ⟨a,b,c⟩ k=>⟨k I yv _ a,k S yv _ b,k T yv _ c⟩
 item:=fun i v s Q E hv ⟨a,b,c⟩ hQ=>by
  rw[gh]at hv;obtain⟨p,q,rfl⟩:=map_eq_some_iff.mp hv;have lp:=hp p (ci q);have ee:es[p]?=some (es.getD p (0,.none)):=by simp[Array.getD,lp]
  refine HS a b hd hf c (p:=p) (by simp[q]) ee fun h' z sb=>hQ h' ⟨z,sb.extBut S _ ab b,sb.extBut T _ aa c⟩ fun b' o' nb e=>sb.extBut b' o' nb e
 done:=fun s Q E ⟨a,b,c⟩ hQ=>by
  rw[cg]at a;exact Jz hh a b hd hf c yv fun h' kp=>hQ h' kp
end
end
section
def lZ(t:kr):Nat->Nat
 | 0=>0
 |i+1=>t.place.getD i 0+1
theorem DX{t:kr}(h:Rise t.place):∀i,i<=t.place.size->pp t.place (lZ t i)=i
 | 0,_=>Dh (bel h) ⟨lh _,fun _ _ z=>absurd z (not_lt_zero _),fun _ _ _ _=>lh _⟩
 |i+1,hi=>by
  have il:i<t.place.size:=yw
  have e:=jl il;have eg:lZ t (i+1)=t.place[i]+1:=by simp[lZ,Array.getD,il]
  rw[eg];refine Dh (bel h) ⟨hi,fun k x hk ek=>?_,fun k x hk ek=>?_⟩
  ·by_cases z:k=i
   ·subst z;rw[e]at ek;cases ek;omega
   ·have:=h.at (show k<i by omega) ek e;omega
  ·have:=h.at (show i<k by omega) e ek;omega
theorem HD{t:kr}{n:Nat}(h:t.fits n=true):t.place.size=n:=by
 unfold SetTable.fits at h;rw[gc]at h;simpa using h.1
section
variable {prog:cz}{w:fy}{A:ft}{E:bb->bd->Prop}{s:bd}
theorem G4{S:Addr}{o:Obj}{es:Array (Int×bb)}{t:kr}{ep:Nat}{Q:bb->bd->Prop}(hS:s.heap.get? S=some o)(hx:o.ExactSet)(hd:o.data=.set es ep t)(tb:Tab (!w.params.followText "set-order") t es.size)(hz:es.size<100)
  (h:∀I h' d fp us St,s.heap.objs.size<=I->(∀b∈fp,b=S\/s.heap.objs.size<=b)->(∀b o,s.heap.get? b=some o->h'.get? b=some o)->us.Perm (es.toList.map (·.2))->(∀A':ft,A'.handled=none->Wk prog w A' I fp us St)->St 0 h'->Q (.ref I) { s with heap:=h',drawn:=d }):
  bo (model prog w) A (pyIter (.ref S)) Q E s:=by
 have ty:s.TypeIs (.ref S) "set":=⟨o,hS,hx.1⟩;have lt:=fj hS;have ps:=HD tb.fits;refine wpAny_pyIter_slot ty F.slot_set_iter (ia F.slot_set_iter ty F4.entry_set_iter ?_ (F.args_set_iter_1 _));unfold ny.«frozenset.__iter__»;refine ba (m:=Builtin.Frozenset.slot0 "__iter__" _) (be ?_);refine ba (ba (qp hS hd tb.fits (be ?_)));unfold setDrawn;refine ba ?_;refine ba (qh hS hd tb.fits (ba (vM (be ?_))));show bo _ _ (if (!w.params.followText "set-order" && (!t.plain&&decide (es.size>1)))=true then _ else _) _ _ s;cases hb:w.params.followText "set-order" with
 |true=>
  refine tB yv (ba (be ?_));refine ba (wpAny_setEpoch_of hS hd tb.fits ?_);refine ba (gb (be ⟨_,rfl,"set_iterator",_,⟨_,bv _ rfl,rfl⟩,F4.slot_si_next.lookup,?_⟩));have hp:=IS (w.params.setOrder S ep) es;refine h _ _ s.drawn [s.heap.objs.size,S] ((pickOrder (w.params.setOrder S ep) es).toList.map (·.2)) _ (dh _) (fun b z=>?_) (fun b o e=>bf _ e) (hp.map _)
   (fun A' hh=>CN hh (ge lt) hd tb.fits (pickOrder (w.params.setOrder S ep) es).toList (fun _=>0) (fun i e hi A Q E s hS q=>Cv hS hd tb.fits hb (by rw[qb]at hi;rw[hi];exact q)) fun A Q E s hS q=>Cv hS hd tb.fits hb (by rw[fu,Array.getElem?_eq_none (dh _)];exact q))
   ⟨bv _ rfl,bf _ hS⟩
  simp only[ja,gt,or_false]at z;exact z.elim (fun e=>.inr (le_of_eq e.symm)) .inl
 |false=>
  have hl:t.led=true:=by rw[tb.led,hb];rfl
  cases hdr:(!t.plain&&decide (es.size>1))with
  |false=>
   refine tB yv (ba (be ?_));refine ba (wpAny_setEpoch_of hS hd tb.fits ?_);refine ba (gb (be ⟨_,rfl,"set_iterator",_,⟨_,bv _ rfl,rfl⟩,F4.slot_si_next.lookup,?_⟩));refine h _ _ s.drawn [s.heap.objs.size,S] (es.toList.map (·.2)) _ (dh _) (fun b z=>?_) (fun b o e=>bf _ e) (vf _)
    (fun A' hh=>CN hh (ge lt) hd tb.fits es.toList (lZ t) (fun i e hi A Q E s hS q=>Ax (i:=i) hS hd tb.fits hb hdr hl (DX tb.rise i ?_) ?_) fun A Q E s hS q=>Ax hS hd tb.fits hb hdr hl (DX tb.rise _ (by rw[fu];omega)) (by rw[fu,Array.getElem?_eq_none (dh _)];exact q))
    ⟨bv _ rfl,bf _ hS⟩
   ·simp only[ja,gt,or_false]at z;exact z.elim (fun e=>.inr (le_of_eq e.symm)) .inl
   ·have:=(List.getElem?_eq_some_iff.mp hi).1;rw[fu]at this;omega
   ·have il:=(List.getElem?_eq_some_iff.mp hi).1;rw[fu]at il;rw[qb]at hi;have ip:i<t.place.size:=yw
    rw[hi,jl ip];have:lZ t (i+1)=t.place[i]+1:=by simp[lZ,Array.getD,ip]
    rw[this]at q;exact q
  |true=>
   refine xJ yv ?_;refine ba (EU es.size (fh es.size) s _ yv fun d ys hp=>ba (wpAny_newTuple ?_ ?_))
   ·have aa:(s.heap.push { cls:=.type "tuple",data:=.seq (ys.map fun i:Nat=>kh i).toArray }).get? S=some o:=bf _ hS;refine ba (wpAny_setEpoch_of (s:={ s with heap:=s.heap.push { cls:=.type "tuple",data:=.seq (ys.map fun i:Nat=>kh i).toArray },drawn:=d }) aa hd tb.fits ?_);refine ba (gb (be ⟨_,rfl,"set_iterator",_,⟨_,bv _ rfl,rfl⟩,F4.slot_si_next.lookup,?_⟩));have sz:(s.heap.push { cls:=.type "tuple",data:=.seq (ys.map fun i:Nat=>kh i).toArray }).objs.size=s.heap.objs.size+1:=qa ..;refine h _ _ d [(s.heap.push { cls:=.type "tuple",data:=.seq (ys.map fun i:Nat=>kh i).toArray }).objs.size,S,s.heap.objs.size] (ys.map fun p=>(es.getD p (0,.none)).2) _ (by rw[sz];exact le_succ _) (fun b z=>?_) (fun b o e=>bf _ (bf _ e)) ?_
     (fun A' hh=>JJ hh ?_ ?_ hd tb.fits ys fun p m=>?_)
     ⟨bv _ rfl,bf _ aa,bf _ (bv _ rfl)⟩
    ·simp only[ja,gt,or_false]at z;rcases z with e|e|e
     ·exact .inr (by rw[e,sz];exact le_succ _)
     ·exact .inl e
     ·exact .inr (le_of_eq e.symm)
    ·refine(hp.map _).trans ?_;have:(fh es.size).map (fun p=>(es.getD p (0,.none)).2)=es.toList.map (·.2):=by
      refine ext_getElem yv fun i h1 h2=>?_;have hi:i<es.size:=by simpa using h1
      simp[Array.getD,hi]
     rw[this]
    ·rw[sz];exact ge (uk lt)
    ·rw[sz];exact ge (lt_succ_self _)
    ·exact mem_range.mp (hp.mem_iff.mp m)
   ·have:=hp.length_eq;rw[List.length_range]at this;rw[cg,nq];omega
end
end
section
namespace F4
theorem len_set:typeLookup (.type "set") "__len__" = pure (some (.builtin "set.__len__")):=by rw[typeLookup_type,builtinLookup_eq_fast];kernel_rfl
end F4
section
variable {prog:cz}{w:fy}{A:ft}{E:bb->bd->Prop}{s:bd}
theorem KI{L:Addr}{c:Nat}{Q:Unit->bd->Prop}(hL:s.heap.get? L=some (qk "list" #[] c))(h:∀h' c',fg L s.heap h'->h'.get? L=some (qk "list" #[] c')->Q () { s with heap:=h' }):
  bo (model prog w) A (Builtin.List.listTouch (.ref L)) Q E s:=by
 unfold Builtin.List.listTouch;have g1:=get?_update_seq hL (fun xs=>xs.push .none);refine ba (listUpdate_at hL rfl ?_ (lh _) (by show (#[]:Array bb).size+1<=_;simp));have g2:=get?_update_seq g1 (fun xs=>xs.pop);refine listUpdate_at (s:={ s with heap:=s.heap.update L (ix fun xs=>xs.push .none) }) g1 rfl ?_ (by simp[nq]) yv;exact h _ _ ((ie ..).trans (ie ..)) g2
theorem Kf{S:Addr}{o:Obj}{es:Array (Int×bb)}{t:kr}{ep:Nat}{Q:List bb->bd->Prop}(hh:A.handled=none)(hS:s.heap.get? S=some o)(hx:o.ExactSet)(hd:o.data=.set es ep t)(tb:Tab (!w.params.followText "set-order") t es.size)(hz:es.size<100)
  (h:∀h' d us,us.Perm (es.toList.map (·.2))->(∀b o,s.heap.get? b=some o->h'.get? b=some o)->Q us { s with heap:=h',drawn:=d }):bo (model prog w) A (collect (.ref S)) Q E s:=by
 have lt:=fj hS;unfold collect;refine ba (wpAny_runValue (jb F.entry_proto_collect ?_));rw[gu F.plain_proto_collect _];show bo _ A.in1 (newList [] >>= fun l=>again (.builtin "list.__iadd__" ⟨[l,.ref S],[]⟩)) _ _ s;refine ba (gb ?_);refine be ⟨jp F.plain_list_iadd _,jb F.entry_list_iadd ?_⟩;rw[gu F.plain_list_iadd _];have hL:(s.heap.push (qk "list" #[] 0)).get? s.heap.objs.size=some (qk "list" #[] 0):=bv _ rfl;have aa:(s.heap.push (qk "list" #[] 0)).get? S=some o:=bf _ hS;have sz:(s.heap.push (qk "list" #[] 0)).objs.size=s.heap.objs.size+1:=qa ..;show bo _ A.in1 (jw (.ref s.heap.objs.size) (.ref S) (.ref s.heap.objs.size)) _ _ { s with heap:=s.heap.push (qk "list" #[] 0) };have ty:vk { s with heap:=s.heap.push (qk "list" #[] 0) } (.ref S) "set":=⟨o,aa,hx.1⟩;have sr:Builtin.List.listSameRef (.ref s.heap.objs.size) (.ref S)=false:=by simp[Builtin.List.listSameRef,uz lt]
 unfold jw;refine ba (wpAny_typeOf ty ?_);rw[cr (by rw[sr];decide)];refine ba (G4 (s:={ s with heap:=s.heap.push (qk "list" #[] 0) }) aa hx hd tb hz fun I h' d fp us St hI ac kp hp W ae=>?_);have q:vk { s with heap:=h',drawn:=d } (.ref S) "set":=⟨o,kp S o aa,hx.1⟩;refine ba (iq ?_);unfold Builtin.List.listLengthHint;refine ba (wpAny_specialOf q F4.len_set ?_)
 (generalize hid:("set.__len__":String)=id0;(fail_if_success (clear hid id0));wp_delta;rw[show splitId id0=some ("set","__len__")from by subst hid;decide +kernel];subst hid)
 refine ba (kl (b:=true) q sub_set_self ?_);refine tB dz ?_;refine xJ (by decide +kernel) ?_;refine ba (wpAny_typeOf q (be ?_));refine xJ (by decide +kernel) ?_;refine ba (pf ?_);have ag:h'.get? s.heap.objs.size=some (qk "list" #[] 0):=kp _ _ hL;have nL:s.heap.objs.size∉fp:=fun m=>by
  rcases ac _ m with e|e
  ·exact absurd e (uz lt)
  ·have e':s.heap.objs.size+1<=s.heap.objs.size:=by rw[<- sz];exact e
   omega
 refine ba (KI (s:={ s with heap:=h',drawn:=d }) ag fun h2 c2 sb ah=>?_);have W1:=W A.in1 hh;refine be ⟨jp qo _,G2 W1 (by rw[hp.length_eq,cg,fu];omega) _ nL _ _ 0 { s with heap:=h2,drawn:=d } #[] c2 rfl (lh _) (W1.frame 0 h' h2 ae fun b hb ob e=>sb.extBut b ob (fun z=>nL (z▸hb)) e) ah rfl fun h3 c3 af ai=>?_⟩;refine ba (wpAny_load ai ?_);show bo _ _ (pure us.toArray.toList) _ _ _;rw[List.toList_toArray];refine be (h h3 d us hp fun b ob e=>?_);have lb:=fj e;refine af b ob (ge lb) (fun z=>?_) (sb.extBut b ob (ge lb) (kp b ob (bf _ e)));rw[z]at lb;have ab:s.heap.objs.size+1<=I:=by rw[<- sz];exact hI
 exact absurd (lt_trans lb ab) (nj _)
end
end
section
theorem Inv.drw{X:Cx}{zi:List (Addr×Obj)}{σ:St}{H:Hp}{s:bd}(d:Drawn)(I:Inv X zi σ H s):Inv X zi σ H { s with drawn:=d } :=
 I.call (h':=s.heap) (g':=s.gens) (t':=s.toks) (ch:=[]) Un.refl I.hok I.bare (fun _ z=>nomatch z)
theorem LQ:jc "set" = some (.type "set"):=by decide +kernel
end
section
theorem HOk.stays{P:cz}{w:fy}{H:Hp}{h h':Heap}(x:HOk P w H h)(k:∀b u,H b=some u->∀o,h.get? b=some o->h'.get? b=some o):HOk P w H h':=fun a o e=>
 (x a o e).stay (fun b u hb q=>by
  rcases hb with rfl|hb
  ·exact k _ _ e _ q
  ·exact k _ _ hb _ q) (fun _ q=>q) fun _ _ q=>q
end
end L2
namespace L2
open PySem PySem.Spec PyProof.Rows
section
abbrev EXD:=Addr->List (Str×bc)->Prop
abbrev PX:=List XV->Sto->RX->EXD->Prop
def CnX(h o:List Addr)(H:Hp)(EX:EXD)(E:XK):Prop:=∀o' H' S' C a fs,Ex o H o' H'->RepS h o' H' S'->HasE (vx h o' H') C fs (.ref a)->EX C fs->E (.ref C) (some a) H'
theorem CnX.pre{h o o':List Addr}{H H':Hp}{EX:EXD}{E:XK}(c:CnX h o H EX E)(e:Ex o H o' H'):CnX h o' H' EX E:=fun o2 H2 S2 C a fs e2=>c o2 H2 S2 C a fs (e.trans e2)
def RSx(E:XK)(EX:EXD)(t:TS)(dt:DS):Prop:=∀(h o:List Addr) (H:Hp) (δ:XE) (σ:St) (S:Sto) (En:DEnds) (D:Ends),RepE h o H δ σ->RepS h o H S->dt En δ S->EOk h o H En D->CnX h o H EX E->t D σ H
section
variable {E:XK}{EX:EXD}{t u:TS}{dt du:DS}
theorem Mn(ht:RS t dt):RSx E EX t dt:=fun h o H δ σ S En D he hs q c _=>ht h o H δ σ S En D he hs q c
def qP(EX:EXD)(C:Addr):DS:=fun _ _ _=>EX C []
end
end
end L2
namespace L2
open PySem PySem.Spec PyProof.Rows
section
def oN(EX:EXD)(C:Addr)(ns:List Str)(da:DA):DS:=fun _ δ S=>da δ S fun xs _=>∃ds,datas xs=some ds/\ds.length=ns.length/\EX C (ns.zip ds)
end
end L2
namespace L2
open PySem PySem.Spec PyProof.Rows
section
abbrev Phi:=List Addr->List Addr->Hp->Prop
class Stb (Φ:Phi):Prop where
 st:∀{h o o':List Addr}{H H':Hp},Φ h o H->Ex o H o' H'->Φ h o' H'
def REp(Φ:Phi)(t:TE)(dt:DE):Prop:=∀(h o:List Addr) (H:Hp) (δ:XE) (σ:St) (S:Sto) (R:RX) (Q:VK),RepE h o H δ σ->RepS h o H S->dt δ S R->Cn h o H R Q->Φ h o H->t σ H Q
def RTp(Φ:Phi)(t:TT)(dt:DT):Prop:=∀(h o:List Addr) (H:Hp) (δ:XE) (σ:St) (S:Sto) (R:Bool->Sto->Prop) (Q:Bool->Hp->Prop),RepE h o H δ σ->RepS h o H S->dt δ S R ->
 (∀o' H' S' b,Ex o H o' H'->RepS h o' H' S'->R b S'->Q b H')->Φ h o H->t σ H Q
def RAp(Φ:Phi)(t:TA)(dt:DA):Prop:=∀(h o:List Addr) (H:Hp) (δ:XE) (σ:St) (S:Sto) (R:List XV->Sto->Prop) (Q:List V->Hp->Prop),RepE h o H δ σ->RepS h o H S->dt δ S R ->
 (∀o' H' S' xs vs,Ex o H o' H'->RepS h o' H' S'->HasXs h o' H' xs vs->R xs S'->Q vs H')->Φ h o H->t σ H Q
def RIp(Φ:Phi)(w:TI)(di:DI):Prop:=∀(h o:List Addr) (H:Hp) (δ:XE) (σ:St) (S:Sto) (R:List bc->Sto->Prop) (Q:It->Hp->Prop),RepE h o H δ σ->RepS h o H S->di δ S R ->
 (∀o' H' S' ds J,Ex o H o' H'->RepS h o' H' S'->WalkX h o' H' J ds->R ds S'->Q J H')->Φ h o H->w σ H Q
section
variable {Φ:Phi} [Stb Φ] {ta tb te:TE}{da db de:DE}{tl:TA}{dl:DA}{tt tu:TT}{dt du:DT}
theorem cZ(a:RE te de):REp Φ te de:=fun h o H δ σ S R Q he hs q c _=>a h o H δ σ S R Q he hs q c
theorem AW(a:RA tl dl):RAp Φ tl dl:=fun h o H δ σ S R Q he hs q c _=>a h o H δ σ S R Q he hs q c
theorem yJ{w:TI}{di:DI}(a:RI w di):RIp Φ w di:=fun h o H δ σ S R Q he hs q c _=>a h o H δ σ S R Q he hs q c
theorem IR(ha:REp Φ ta da):RTp Φ (oY ta) (dB da):=fun h o H δ σ S R Q he hs q c w=>
 ha h o H δ σ S _ _ he hs q (fun o1 H1 S1 x v e1 s1 x1 d1=>by
  replace d1:=rG d1;obtain⟨b,rfl,d1⟩:=d1;exact⟨b,jI x1,c o1 H1 S1 b e1 s1 d1⟩) w
end
section
variable {E:XK}{EX:EXD}{ta tb te:TE}{da db de:DE}{tl:TA}{dl:DA}{tt tu:TT}{dt du:DT}
def nB(EX:EXD)(m:Nat)(q:PX)(da:DA):DE:=fun δ S R=>da δ S fun xs S1=>∃ds,datas xs=some ds/\ds.length=m/\q (ds.map XV.d) [] (ret0 S1 R) EX
end
def AX(N P:List Str)(sc:Scope):Bool:=decide (sc.kind=.function)&&!sc.isCoroutine&&!sc.isGenerator&&decide N.Nodup&&decide (N.take P.length=P)&&P.all (fun x=>decide (sc.names.lookup x=some .local)||decide (sc.names.lookup x=some .cell))&&sc.names.all fun y=>decide (y.2≠.free)
theorem fsc{N P:List Str}{sc:Scope}(h:AX N P sc=true):FnScope N P sc:=by
 simp only[AX,gc,decide_eq_true_eq,Bool.not_eq_true',ox,Bool.or_eq_true]at h;obtain⟨⟨⟨⟨⟨⟨h1,h2⟩,h3⟩,h4⟩,h5⟩,h6⟩,h7⟩:=h;exact⟨h1,h2,h3,h4,h5,h6,h7⟩
end
section
section
variable {κ α:Type} [DecidableEq κ]
def lkA(m:List (κ×α))(k:κ):Option α:=(m.find? fun p=>decide (p.1=k)).map (·.2)
def ptA(m:List (κ×α))(k:κ)(v:α):List (κ×α):=if (m.any fun p=>decide (p.1=k))=true then m.map (fun p=>if p.1=k then (p.1,v)else p)else m++[(k,v)]
def HasM(H:Hp):List (κ×bc)->List (κ×V)->Prop
 | [],m=>m=[]
 |p::r,m=>∃v m',m=(p.1,v)::m'/\Has H p.2 v/\HasM H r m'
theorem HasM.mono{H H':Hp}(s:Same H H'):∀{m:List (κ×bc)}{m':List (κ×V)},HasM H m m'->HasM H' m m'
 | [],_,q=>q
 |p::r,_,⟨v,t,e,q,l⟩=>⟨v,t,e,Has.mono s _ _ q,HasM.mono s l⟩
end
inductive KSg where
 |int|bool|many (s:KSg)|two (s t:KSg)
def KG:KSg->Type
 | .int=>Int
 | .bool=>Bool
 | .many s=>List (KG s)
 | .two s t=>KG s×KG t
instance decKG:(s:KSg)->DecidableEq (KG s)
 | .int=>inferInstanceAs (DecidableEq Int)
 | .bool=>inferInstanceAs (DecidableEq Bool)
 | .many s=>have:=decKG s;inferInstanceAs (DecidableEq (List (KG s)))
 | .two s t=>have:=decKG s;have:=decKG t;inferInstanceAs (DecidableEq (KG s×KG t))
def khash:(s:KSg)->KG s->Int
 | .int,i=>hashInt i
 | .bool,b=>reduceHash (match (show Bool from b)with|true=>1|false=>0)
 | .many s,ks=>reduceHash (kt (ks.map (khash s)))
 | .two s t,k=>reduceHash (kt [khash s k.1,khash t k.2])
def kdat:(g:KSg)->KG g->bc
 | .int,i=>.int i
 | .bool,b=>.bool b
 | .many g,ks=>.tuple (List.map (kdat g) ks)
 | .two g g',k=>.tuple [kdat g k.1,kdat g' k.2]
def PDict(g:KSg)(ob:Obj)(xs:List (KG g×Addr×bb)):Prop:=ob.ExactDict/\∃es ep,ob.data=.dict es ep/\es.toList=xs.map (fun x=>⟨khash g x.1,.ref x.2.1,x.2.2⟩)/\(xs.map (·.1)).Nodup
def PrG(G:Hp)(g:KSg):List (KG g×bc)->List (KG g×Addr×bb)->Prop
 | [],xs=>xs=[]
 |p::r,xs=>∃q t,xs=q::t/\q.1=p.1/\Has G (kdat g p.1) (.ref q.2.1)/\(∃v,Has G p.2 v/\RelV v q.2.2)/\PrG G g r t
theorem PrG.mono{G G':Hp}{g:KSg}(s:Same G G'):∀{m:List (KG g×bc)}{xs:List (KG g×Addr×bb)},PrG G g m xs->PrG G' g m xs
 | [],_,q=>q
 |p::r,_,⟨q,t,e,e1,h1,⟨v,h2,h3⟩,l⟩=>⟨q,t,e,e1,Has.mono s _ _ h1,⟨v,Has.mono s _ _ h2,h3⟩,PrG.mono s l⟩
inductive DD where
 |k (m:List (Key×bc))
 |t (m:List (List Key×bc))
 |g (g:KSg) (ob:Obj) (m:List (KG g×bc))
def DD.pairs:DD->List (bc×bc)
 | .k m=>m.map fun p=>(kD p.1,p.2)
 | .t m=>m.map fun p=>(.tuple (p.1.map kD),p.2)
 | .g sg _ m=>m.map fun p=>(kdat sg p.1,p.2)
def Lw:bc->Option Key
 | .int i=>some (.inl i)
 | .str x=>some (.inr x)
 |_=>none
def RAt(G H:Hp)(a:Addr):DD->Prop
 | .k m=>∃m',Rd H a (.dK m')/\HasM G m m'
 | .t m=>∃m',Rd H a (.dT m')/\HasM G m m'
 | .g g ob m=>H a=some (obO a ob)/\(a==jt)=false/\∃xs,PDict g ob xs/\PrG G g m xs
def DAt(G H:Hp)(a:Addr):DD->Prop
 | .k m=>∃m',H a=some (.dK m')/\HasM G m m'
 | .t m=>∃m',H a=some (.dT m')/\HasM G m m'
 | .g g ob m=>H a=some (obO a ob)/\(a==jt)=false/\∃xs,PDict g ob xs/\PrG G g m xs
theorem DAt.mono{G G' H H':Hp}{a:Addr}{D:DD}(s:Same G G')(e:∀u,H a=some u->H' a=some u)(q:DAt G H a D):DAt G' H' a D:=by
 cases D with
 |k m=>obtain⟨m',e1,l⟩:=q;exact⟨m',e _ e1,l.mono s⟩
 |t m=>obtain⟨m',e1,l⟩:=q;exact⟨m',e _ e1,l.mono s⟩
 |g g ob m=>obtain⟨e1,ha,xs,pd,l⟩:=q;exact⟨e _ e1,ha,xs,pd,l.mono s⟩
theorem DAt.rd{G H:Hp}{a:Addr}{D:DD}(q:DAt G H a D):RAt G H a D:=by
 cases D with
 |k m=>obtain⟨m',e1,l⟩:=q;exact⟨m',.inl e1,l⟩
 |t m=>obtain⟨m',e1,l⟩:=q;exact⟨m',.inl e1,l⟩
 |g g ob m=>exact q
theorem DAt.mo{G H:Hp}{a:Addr}{D:DD}(q:DAt G H a D):∃u:MO,H a=some u.ho:=by
 cases D with
 |k m=>obtain⟨m',e1,l⟩:=q;exact⟨.k m',e1⟩
 |t m=>obtain⟨m',e1,l⟩:=q;exact⟨.t m',e1⟩
 |g g ob m=>exact⟨.x a ob,q.1⟩
theorem RAt.isD{G H:Hp}{a:Addr}{D:DD}(q:RAt G H a D):IsD H a:=by
 cases D with
 |k m=>obtain⟨m',e1,_⟩:=q;exact .inl ⟨m',e1⟩
 |t m=>obtain⟨m',e1,_⟩:=q;exact .inr (.inl ⟨m',e1⟩)
 |g g ob m=>obtain⟨e1,ha,xs,pd,l⟩:=q;exact .inr (.inr ⟨ob,e1,pd.1,ha⟩)
theorem HW{a b:Key}(e:kD a=kD b):a=b:=by
 cases a<;>cases b<;>cases e<;>rfl
theorem Eu{H:Hp}:∀{m:List (Key×bc)}{m':List (Key×V)},HasM H m m'->HasV H (m.map fun p=>(kD p.1,p.2)) (m'.map (·.2))/\m'.map (fun p=>kD p.1)=m.map fun p=>kD p.1
 | [],m',q=>by rw[show m'=[]from q];exact⟨Hg.mpr rfl,rfl⟩
 |p::r,m',⟨v,t,e,q,l⟩=>by
  subst e;obtain⟨z1,z2⟩:=Eu l;exact⟨B6.mpr ⟨v,_,rfl,q,z1⟩,by rw[fm,fm,z2]⟩
theorem Cw{H:Hp}:∀{m:List (Key×bc)}{m':List (Key×V)},HasV H (m.map fun p=>(kD p.1,p.2)) (m'.map (·.2))->m.map (fun p=>kD p.1)=m'.map (fun p=>kD p.1)->HasM H m m'
 | [],[],_,_=>rfl
 | [],_::_,_,e=>by simp at e
 |_::_,[],_,e=>by simp at e
 |p::r,q::t,h,e=>by
  rw[fm,fm]at h;obtain⟨v,s,e1,e2,e3⟩:=B6.mp h;rw[qc]at e1;rw[fm,fm,qc]at e;have z:=HW e.1;obtain⟨q1,q2⟩:=q;refine⟨q2,t,by rw[z],?_,Cw (by rw[e1.2];exact e3) e.2⟩;have z1:q2=v:=e1.1;rw[z1];exact e2
theorem LO{H:Hp}{m:List (Key×bc)}{v:V}:Has H (.dict (DD.pairs (.k m))) v↔∃a ob m',v=.ref a/\H a=some (.frz ob (.dK m'))/\HasM H m m':=by
 rw[tE];constructor
 ·rintro⟨a,vs,rfl,⟨ob,m',e,e1,e2⟩|⟨ob,p,m',e,e1,e2⟩,l⟩
  rotate_left
  ·cases m with
   |nil=>cases e1
   |cons q r=>
    have z:=congrArg List.head? e1;simp only[DD.pairs,fm,List.head?_cons,Option.some.injEq]at z;cases h:q.1<;>rw[h]at z<;>cases z
  subst e2;refine⟨a,ob,m',rfl,e,Cw l ?_⟩;rw[<- e1];simp[DD.pairs]
 ·rintro⟨a,ob,m',rfl,e,l⟩;obtain⟨z1,z2⟩:=Eu l;exact⟨a,_,rfl,.inl ⟨ob,m',e,by rw[z2];simp[DD.pairs],rfl⟩,z1⟩
abbrev DM:=List (Addr×DD)
def ad(M:DM):List Addr:=M.map (·.1)
structure RepM(h o:List Addr)(H:Hp)(M:DM):Prop where
 nd:(ad M).Nodup
 nh:∀a∈ad M,a∉h/\a∉o
 ct:∀a D,(a,D)∈M->DAt (vx (h++ad M) o H) H a D
section
variable {h o o':List Addr}{H H':Hp}{M:DM}{S:Sto}
theorem RepM.at(r:RepM h o H M){a:Addr}(m:a∈ad M):∃D,(a,D)∈M/\DAt (vx (h++ad M) o H) H a D:=by
 obtain⟨p,mp,e⟩:=mem_map.mp m;obtain⟨b,D⟩:=p;cases e;exact⟨D,mp,r.ct _ D mp⟩
theorem RepM.mono(r:RepM h o H M)(e:Ex o H o' H'):RepM h o' H' M:=by
 have k1:∀a∈ad M,∀u,H a=some u->a∉o'/\H' a=some u:=fun a m u z=>e.kp a u (r.nh a m).2 z;refine⟨r.nd,fun a m=>⟨(r.nh a m).1,?_⟩,fun a D m=>?_⟩
 ·obtain⟨D,_,q⟩:=r.at m;obtain⟨u,z⟩:=q.mo;exact(k1 a m _ z).1
 ·exact(r.ct a D m).mono e.vx fun u z=>(k1 a (mem_map.mpr ⟨_,m,rfl⟩) u z).2
theorem RepM.nil:RepM h o H []:=⟨ux,fun a m=>(by cases m),fun a D m=>(by cases m)⟩
def fL(M:DM)(a:Addr)(D:DD):DM:=M.map fun p=>if p.1=a then (a,D)else p
theorem f7{a:Addr}{D:DD}:∀{M:DM},ad (fL M a D)=ad M
 | []=>rfl
 |p::r=>by
  have z:=f7 (a:=a) (D:=D) (M:=r);unfold ad fL at z ⊢;rw[fm,fm,fm,z];by_cases e:p.1=a<;>simp[e]
theorem uI{a:Addr}{u:HO}(m:a∈h):Same (vx h o H) (vx h o (upd H a u)):=fun b w e=>by
 obtain⟨z1,z2,z3⟩:=zN.mp e;exact zN.mpr ⟨z1,z2,by rw[zC (fun z=>z1 (by rw[z];exact m))];exact z3⟩
theorem HasX.view(s:Same (vx h o H) (vx h o H')):∀{x:XV}{v:V},HasX h o H x v->HasX h o H' x v
 | .d d,v,q=>Has.mono s d v q
 | .l k,v,q=>q
 | .o w,v,q=>q
 | .x C fs,v,q=>HasE.mono s q
 | .i C fs,v,q=>HasI.mono s q
 | .p k d,v,q=>HasLP.to s (fun _ z=>z) q
theorem RepE.view{δ:XE}{σ:St}(s:Same (vx h o H) (vx h o H'))(r:RepE h o H δ σ):RepE h o H' δ σ:=⟨r.len,fun i x e=>let ⟨v,e1,e2⟩:=r.get i x e;⟨v,e1,e2.view s⟩⟩
theorem RepS.hidden{a:Addr}{u:MO}(r:RepS h o H S)(m:a∈h):RepS h o (L2.upd H a u.ho) S where
 len:=r.len
 nd:=r.nd
 dis:=r.dis
 hal:=fun b mb=>by
  by_cases e:b=a
  ·subst e;exact⟨u,zF⟩
  ·obtain⟨w,z⟩:=r.hal b mb;exact⟨w,by rw[zC e];exact z⟩
 cont:=fun k b ds e1 e2=>by
  obtain⟨vs,e3,l⟩:=r.cont k b ds e1 e2;have ne:b≠a:=fun z=>r.dis b (ci e1) (z▸m);exact⟨vs,by rw[zC ne];exact e3,HasL.mono (uI m) _ _ l⟩
theorem RepM.put{a:Addr}{D D':DD}{u:MO}(r:RepM h o H M)(m:(a,D)∈M)(q:∀H',H' a=some u.ho->DAt (vx (h++ad M) o H) H' a D'):RepM h o (L2.upd H a u.ho) (fL M a D'):=by
 have ma:a∈ad M:=mem_map.mpr ⟨_,m,rfl⟩;refine⟨by rw[f7];exact r.nd,by rw[f7];exact r.nh,fun b D2 mb=>?_⟩;rw[f7];have sv:Same (vx (h++ad M) o H) (vx (h++ad M) o (L2.upd H a u.ho)):=uI (cw _ ma);obtain⟨p,mp,ep⟩:=mem_map.mp mb;by_cases e:p.1=a
 ·rw[cy e]at ep;cases ep;exact(q _ zF).mono sv fun _ z=>z
 ·rw[cr e]at ep;subst ep;exact(r.ct _ _ mp).mono sv fun w z=>by rw[zC e];exact z
theorem RepS.less{l:List Addr}(r:RepS (h++l) o H S):RepS h o H S where
 len:=r.len
 nd:=r.nd
 dis:=fun a ma z=>r.dis a ma (cu _ z)
 hal:=fun b mb=>r.hal b (cu _ mb)
 cont:=fun k b ds e1 e2=>by
  obtain⟨vs,e3,q⟩:=r.cont k b ds e1 e2;exact⟨vs,e3,HasL.mono (fun c u z=>let ⟨z1,z2,z3⟩:=zN.mp z;zN.mpr ⟨fun mm=>z1 (cu _ mm),z2,z3⟩) _ _ q⟩
theorem kZ{l:List Addr}:Same (vx (h++l) o H) (vx h o H):=fun c u z=>let ⟨z1,z2,z3⟩:=zN.mp z;zN.mpr ⟨fun mm=>z1 (cu _ mm),z2,z3⟩
theorem HasX.less{l:List Addr}:∀{x:XV}{v:V},HasX (h++l) o H x v->HasX h o H x v
 | .d d,v,q=>Has.mono kZ d v q
 | .l k,v,q=>q
 | .o w,v,q=>q
 | .x C fs,v,q=>HasE.mono kZ q
 | .i C fs,v,q=>HasI.mono kZ q
 | .p k d,v,q=>HasLP.to kZ (fun _ z=>z) q
end
end
section
structure DEndsM where
 nx:XE->Sto->DM->Prop
 rt:XV->Sto->DM->Prop
 bk:XE->Sto->DM->Prop:=fun _ _ _=>False
 ct:XE->Sto->DM->Prop:=fun _ _ _=>False
abbrev DSm:=DEndsM->XE->Sto->DM->Prop
def Fr(H:Hp)(M:DM):Prop:=∀a∈ad M,H a=none
def NxM(h o:List Addr)(H:Hp)(A:List Addr)(N:XE->Sto->DM->Prop)(Y:St->Hp->Prop):Prop:=∀o' H' δ' S' M' σ',Ex o H o' H'->ad M'=A->RepE (h++ad M') o' H' δ' σ'->RepS (h++ad M') o' H' S'->RepM h o' H' M'->N δ' S' M'->Y σ' H'
structure EOkM(h o:List Addr)(H:Hp)(A:List Addr)(E:DEndsM)(D:Ends):Prop where
 nx:NxM h o H A E.nx D.nx
 rt:∀o' H' S' M' x v,Ex o H o' H'->ad M'=A->RepS (h++ad M') o' H' S'->RepM h o' H' M'->HasX (h++ad M') o' H' x v->E.rt x S' M'->D.rt v H'
 bk:NxM h o H A E.bk D.bk
 ct:NxM h o H A E.ct D.ct
def RSm(E:XK)(EX:EXD)(t:TS)(dt:DSm):Prop:=∀(h o0:List Addr) (H0:Hp) (o:List Addr) (H:Hp) (δ:XE) (σ:St) (S:Sto) (M:DM) (En:DEndsM) (D:Ends),Ex o0 H0 o H->Fr H0 M->RepE (h++ad M) o H δ σ->RepS (h++ad M) o H S->RepM h o H M->dt En δ S M ->
 EOkM h o0 H0 (ad M) En D->CnX h o0 H0 EX E->t D σ H
theorem CnX.inn{E:XK}{EX:EXD}{h o0 o l:List Addr}{H0 H:Hp}(x:CnX h o0 H0 EX E)(e0:Ex o0 H0 o H):CnX (h++l) o H EX E:=fun o' H' S' C a fs e s' hE q=>x o' H' S' C a fs (e0.trans e) s'.less (HasE.mono kZ hE) q
def cS(dt:DS):DSm:=fun En δ S M=>dt { nx:=fun δ' S'=>En.nx δ' S' M,rt:=fun x S'=>En.rt x S' M,bk:=fun δ' S'=>En.bk δ' S' M,ct:=fun δ' S'=>En.ct δ' S' M } δ S
def cY(t u:DSm):DSm:=fun En δ S M=>t { En with nx:=u En } δ S M
def kY(c:DM->DT)(t u:DSm):DSm:=fun En δ S M=>c M δ S fun b S1=>if b=true then t En δ S1 M else u En δ S1 M
def kM(e:DM->DE)(g:DG):DSm:=fun En δ S M=>e M δ S fun x S1=>g x δ S1 fun δ' S'=>En.nx δ' S' M
def kO(e:DM->DE):DSm:=fun En δ S M=>e M δ S fun x S1=>En.rt x S1 M
def gX(g:DG)(b:DSm):List bc->DSm
 | [],E,δ,S,M=>E.nx δ S M
 |d::ds,E,δ,S,M=>g (.d d) δ S fun δ1 S1=>b { nx:=fun δ2 S2 M2=>gX g b ds E δ2 S2 M2,ct:=fun δ2 S2 M2=>gX g b ds E δ2 S2 M2,bk:=E.nx,rt:=E.rt } δ1 S1 M
def j2(i:DM->DI)(g:DG)(b:DSm):DSm:=fun En δ S M=>i M δ S fun ds S1=>gX g b ds En δ S1 M
def PhM(M:DM):Phi:=fun h' o H=>∃h,h'=h++ad M/\RepM h o H M
instance {M:DM}:Stb (PhM M):=⟨fun⟨h,e,r⟩ x=>⟨h,e,r.mono x⟩⟩
section
variable {E:XK}{EX:EXD}{t u:TS}{dt du:DSm}
theorem Gr{ds:DS}(ht:RSx E EX t ds):RSm E EX t (cS ds):=fun h o0 H0 o H δ σ S M En D e0 fr he hs rm q c x=>
 ht (h++ad M) o H δ σ S _ D he hs q ⟨fun o' H' δ' S' σ' e aa z n=>c.nx o' H' δ' S' M σ' (e0.trans e) rfl aa z (rm.mono e) n,fun o' H' S' y v e z hy n=>c.rt o' H' S' M y v (e0.trans e) rfl z (rm.mono e) hy n,
  fun o' H' δ' S' σ' e aa z n=>c.bk o' H' δ' S' M σ' (e0.trans e) rfl aa z (rm.mono e) n,fun o' H' δ' S' σ' e aa z n=>c.ct o' H' δ' S' M σ' (e0.trans e) rfl aa z (rm.mono e) n⟩ (x.inn e0)
theorem fX{ds:DS}(ht:RS t ds):RSm E EX t (cS ds):=Gr (Mn ht)
theorem fD(ht:RSm E EX t dt)(hu:RSm E EX u du):RSm E EX (cH t u) (cY dt du):=fun h o0 H0 o H δ σ S M En D e0 fr he hs rm q c x=>
 ht h o0 H0 o H δ σ S M _ _ e0 fr he hs rm q ⟨fun o1 H1 δ1 S1 M1 σ1 e1 ea aa z ab q1=>hu h o0 H0 o1 H1 δ1 σ1 S1 M1 En D e1 (by unfold Fr;rw[ea];exact fr) aa z ab q1 (by rw[ea];exact c) x,c.rt,c.bk,c.ct⟩ x
theorem Np{tc:TT}{dc:DM->DT}(hc:∀M,RTp (PhM M) tc (dc M))(ht:RSm E EX t dt)(hu:RSm E EX u du):RSm E EX (tR tc t u) (kY dc dt du):=fun h o0 H0 o H δ σ S M En D e0 fr he hs rm q c x=>
 hc M (h++ad M) o H δ σ S _ _ he hs q (fun o1 H1 S1 b e1 s1 d1=>by
  cases b with
  |true=>exact fO (ht h o0 H0 o1 H1 δ σ S1 M En D (e0.trans e1) fr (he.mono e1) s1 (rm.mono e1) (by simpa using d1) c x)
  |false=>exact fK (hu h o0 H0 o1 H1 δ σ S1 M En D (e0.trans e1) fr (he.mono e1) s1 (rm.mono e1) (by simpa using d1) c x)) ⟨h,rfl,rm⟩
theorem Er{te:TE}{de:DM->DE}{g:TG}{dg:DG}(ha:∀M,REp (PhM M) te (de M))(hg:RG g dg):RSm E EX (jV te g) (kM de dg):=fun h o0 H0 o H δ σ S M En D e0 fr he hs rm q c x=>
 ha M (h++ad M) o H δ σ S _ _ he hs q (fun o1 H1 S1 y v e1 s1 x1 d1=>hg (h++ad M) o1 H1 δ σ S1 y v _ _ (he.mono e1) s1 x1 d1 fun o2 H2 δ2 S2 σ2 e2 z aa n2=>c.nx o2 H2 δ2 S2 M σ2 (e0.trans (e1.trans e2)) rfl z aa (rm.mono (e1.trans e2)) n2) ⟨h,rfl,rm⟩
theorem JX{te:TE}{de:DM->DE}(ha:∀M,REp (PhM M) te (de M)):RSm E EX (qH te) (kO de):=fun h o0 H0 o H δ σ S M En D e0 fr he hs rm q c x=>
 ha M (h++ad M) o H δ σ S _ _ he hs q (fun o1 H1 S1 y v e1 s1 x1 d1=>c.rt o1 H1 S1 M y v (e0.trans e1) rfl s1 (rm.mono e1) x1 d1) ⟨h,rfl,rm⟩
theorem Ih{wi:TI}{g:TG}{tb:TS}{di:DM->DI}{dg:DG}{db:DSm}(hi:∀M,RIp (PhM M) wi (di M))(hg:RG g dg)(hb:RSm E EX tb db):RSm E EX (lO wi g tb) (j2 di dg db):=fun h o0 H0 o H δ σ S M En D e0 fr he hs rm q c x=>
 hi M (h++ad M) o H δ σ S _ _ he hs q (fun o1 H1 S1 ds J e1 s1 wk d1=>by
  refine⟨fun i m σ2 H2=>m=ds.length-i/\i<=ds.length/\∃o2 δ2 S2 M2,Ex o0 H0 o2 H2/\ExH (h++ad M) o1 H1 o2 H2/\ad M2=ad M/\RepE (h++ad M) o2 H2 δ2 σ2/\RepS (h++ad M) o2 H2 S2/\RepM h o2 H2 M2/\gX dg db (ds.drop i) En δ2 S2 M2,
   ⟨ds.length,yv,lh _,o1,δ,S1,M,e0.trans e1,ExH.refl,rfl,he.mono e1,s1,rm.mono e1,d1⟩,?_⟩
  rintro i m σ2 H2 ⟨rfl,hi,o2,δ2,S2,M2,e2,x2,ea,ai,ag,ak,d2⟩;by_cases hlt:i<ds.length
  ·have ed:ds[i]?=some ds[i]:=bn hlt;rw[mf hlt]at d2;refine .inr ⟨wk.go i _ o2 H2 x2 ed,fun σ3 H3=>∃o3 δ3 S3 M3,Ex o0 H0 o3 H3/\ExH (h++ad M) o1 H1 o3 H3/\ad M3=ad M/\RepE (h++ad M) o3 H3 δ3 σ3/\RepS (h++ad M) o3 H3 S3/\RepM h o3 H3 M3/\gX dg db (ds.drop (i+1)) En δ3 S3 M3,fun σ3 H3 n=>⟨ds.length-(i+1),yw,rfl,hlt,n⟩,fun y H3 yy=>?_⟩;obtain⟨s3,hx⟩:=wk.yld i _ o2 H2 y H3 S2 x2 ag ed yy;have aj:Ex o2 H2 o2 H3:=Ex.of_same s3;refine hg (h++ad M) o2 H3 δ2 σ2 S2 (.d ds[i]) y _ _ (ai.mono aj) (ag.same s3) hx d2 fun o4 H4 δ4 S4 σ4 e4 al an d4=>?_;have af:Ex o2 H2 o4 H4:=aj.trans e4;have nM:∀b u,H0 b=some u->b∉ad M:=fun b u z mb=>by
    rw[fr b mb]at z;cases z
   have ae:Ex o0 H0 o4 (fun b=>if b∈ad M then none else H4 b):=⟨(e2.trans af).pre,fun b u nb z=>by
    obtain⟨z1,z2⟩:=(e2.trans af).kp b u nb z;exact⟨z1,by show (if b∈ad M then none else H4 b)=some u;rw[cr (nM b u z)];exact z2⟩⟩
   have am:∀{o5 H5},Ex o4 (fun b=>if b∈ad M then none else H4 b) o5 H5->ExH (h++ad M) o4 H4 o5 H5:=fun e5=>⟨e5.pre,fun b u n1 n2 z=>e5.kp b u n2 (by show (if b∈ad M then none else H4 b)=some u;rw[cr (fun mb=>n1 (cw _ mb))];exact z)⟩;have aa:∀o5 H5 δ5 S5 M5 σ5,Ex o4 (fun b=>if b∈ad M then none else H4 b) o5 H5->ad M5=ad M2->RepE (h++ad M5) o5 H5 δ5 σ5->RepS (h++ad M5) o5 H5 S5->RepM h o5 H5 M5->gX dg db (ds.drop (i+1)) En δ5 S5 M5 ->
     ∃o3 δ3 S3 M3,Ex o0 H0 o3 H5/\ExH (h++ad M) o1 H1 o3 H5/\ad M3=ad M/\RepE (h++ad M) o3 H5 δ3 σ5/\RepS (h++ad M) o3 H5 S3/\RepM h o3 H5 M3/\gX dg db (ds.drop (i+1)) En δ3 S3 M3:=fun o5 H5 δ5 S5 M5 σ5 e5 a5 ah ac ab d5=>
    ⟨o5,δ5,S5,M5,ae.trans e5,(x2.trans af.hid).trans (am e5),a5.trans ea,by rw[<- ea,<- a5];exact ah,by rw[<- ea,<- a5];exact ac,ab,d5⟩
   refine hb h o4 (fun b=>if b∈ad M then none else H4 b) o4 H4 δ4 σ4 S4 M2 _ _ ⟨⟨[],yv⟩,fun b u nb eb=>?_⟩ (fun a ma=>by show (if a∈ad M then none else H4 a)=none;rw[cy (by rw[<- ea];exact ma)]) (by rw[ea];exact al) (by rw[ea];exact an) (ak.mono af) d4
    ⟨aa,fun o5 H5 S5 M5 y5 v5 e5 a5 ac ab ao q5=>c.rt o5 H5 S5 M5 y5 v5 (ae.trans e5) (a5.trans ea) ac ab ao q5,fun o5 H5 δ5 S5 M5 σ5 e5 a5 ah ac ab q5=>c.nx o5 H5 δ5 S5 M5 σ5 (ae.trans e5) (a5.trans ea) ah ac ab q5,aa⟩ (x.pre ae)
   refine⟨nb,?_⟩;by_cases mb:b∈ad M
   ·simp[mb]at eb
   ·simpa[mb]using eb
  ·have ei:i=ds.length:=yw
   subst ei;rw[drop_length]at d2;exact .inl ⟨wk.stop _ o2 H2 x2 (dh _),c.nx o2 H2 δ2 S2 M2 σ2 e2 ea (by rw[ea];exact ai) (by rw[ea];exact ag) ak d2⟩) ⟨h,rfl,rm⟩
end
end
section
section
variable {h h' o:List Addr}{H H':Hp}
theorem HasX.to(s:Same (vx h o H) (vx h' o H')):∀{x:XV}{v:V},HasX h o H x v->HasX h' o H' x v
 | .d d,v,q=>Has.mono s d v q
 | .l k,v,q=>q
 | .o w,v,q=>q
 | .x C fs,v,q=>HasE.mono s q
 | .i C fs,v,q=>HasI.mono s q
 | .p k d,v,q=>HasLP.to s (fun _ z=>z) q
theorem RepE.to{δ:XE}{σ:St}(s:Same (vx h o H) (vx h' o H'))(r:RepE h o H δ σ):RepE h' o H' δ σ:=⟨r.len,fun i x e=>let ⟨v,e1,e2⟩:=r.get i x e;⟨v,e1,e2.to s⟩⟩
end
def pN(a:Addr)(m:List (Key×bc)):XV->XV
 | .o (.ref b)=>if b=a then .d (.dict (DD.pairs (.k m)))else .o (.ref b)
 |x=>x
theorem IH{h h' o:List Addr}{H H':Hp}{a:Addr}{m:List (Key×bc)}{m':List (Key×V)}{ob:Obj}(s:Same (vx h o H) (vx h' o H'))(e:vx h' o H' a=some (.frz ob (.dK m')))(l:HasM (vx h o H) m m'):∀{x:XV}{v:V},HasX h o H x v->HasX h' o H' (pN a m x) v
 | .d d,v,z=>Has.mono s d v z
 | .l k,v,z=>z
 | .x C fs,v,z=>HasE.mono s z
 | .i C fs,v,z=>HasI.mono s z
 | .p k d,v,z=>HasLP.to s (fun _ z=>z) z
 | .o w,v,z=>by
  cases w with
  |ref b=>
   unfold pN;dsimp only;split
   ·rename_i eb;subst eb;rw[show v=.ref b from z];exact LO.mpr ⟨b,ob,m',rfl,e,l.mono s⟩
   ·exact z
  |_=>exact z
theorem Ip{h h' o:List Addr}{H H':Hp}{a:Addr}{m:List (Key×bc)}{m':List (Key×V)}{ob:Obj}{δ:XE}{σ:St}(s:Same (vx h o H) (vx h' o H'))(e:vx h' o H' a=some (.frz ob (.dK m')))(l:HasM (vx h o H) m m')(r:RepE h o H δ σ):RepE h' o H' (δ.map (Option.map (pN a m))) σ:=by
 refine⟨by rw[cg];exact r.len,fun i x ex=>?_⟩;rw[gh]at ex;cases hd:δ[i]? with
 |none=>rw[hd]at ex;cases ex
 |some y=>
  rw[hd]at ex;cases y with
  |none=>cases ex
  |some y=>
   cases ex;obtain⟨v,e1,e2⟩:=r.get i y hd;exact⟨v,e1,IH s e l e2⟩
theorem bB{M:DM}{a:Addr}{D:DD}:ad (M++[(a,D)])=ad M++[a]:=by simp[ad]
theorem RepM.init{h o:List Addr}{H:Hp}{M:DM}{a:Addr}{D:DD}(r:RepM h o H (M++[(a,D)])):RepM h o H M:=by
 have nd:=r.nd;rw[bB]at nd;refine⟨(nodup_append.mp nd).1,fun b m=>r.nh b (by rw[bB];exact cu _ m),fun b D2 m=>?_⟩;have z:=r.ct b D2 (cu _ m);rw[bB,<- gy]at z;exact z.mono kZ fun _ z=>z
def iA(f:Bool)(i:Nat)(D0:DD)(b:DSm):DSm:=fun En δ S M=>∀a,a∉ad M->b { nx:=(fun δ' S' M'=>if f=true then (∃M1 m,M'=M1++[(a,.k m)]/\δ'[i]?=some (some (.o (.ref a)))/\En.nx (δ'.map (Option.map (pN a m))) S' M1)else (∃M1 D,M'=M1++[(a,D)]/\En.nx δ' S' M1)),rt:=(fun x S' M'=>∃M1 D,M'=M1++[(a,D)]/\En.rt x S' M1),bk:=(fun δ' S' M'=>∃M1 D,M'=M1++[(a,D)]/\En.bk δ' S' M1),ct:=(fun δ' S' M'=>∃M1 D,M'=M1++[(a,D)]/\En.ct δ' S' M1) } (δ.set i (some (.o (.ref a)))) S (M++[(a,D0)])
section
variable {E:XK}{EX:EXD}{tb:TS}{db:DSm}{i:Nat}
theorem N8{f:Bool}{p:Addr}{u:MO}{D0:DD}(hD:∀(G H:Hp),H p=some u.ho->DAt G H p D0)(hb:RSm E EX tb db){h o0:List Addr}{H0:Hp}{o:List Addr}{H:Hp}{δ:XE}{σ:St}{S:Sto}{M:DM}{En:DEndsM}{D:Ends}(e0:Ex o0 H0 o H)(fr:Fr H0 M)(he:RepE (h++ad M) o H δ σ)(hs:RepS (h++ad M) o H S)(rm:RepM h o H M)
  (q:iA f i D0 db En δ S M) (c:EOkM h o0 H0 (ad M) En D) (x:CnX h o0 H0 EX E) (hp:H p=none):(if f=true then Io i tb else tb) D (σ.set i (some (.ref p))) (upd H p u.ho):=by
 have nM:p∉ad M:=fun m=>by
  obtain⟨D2,_,z⟩:=rm.at m;obtain⟨w,ew⟩:=z.mo;rw[hp]at ew;cases ew
 have f1:=hs.fresh hp;have nh:p∉h:=fun m=>f1.1 (cu _ m);have sH:Same H (upd H p u.ho):=Same.laid hp;have e1:Ex o0 H0 o (upd H p u.ho):=e0.trans (Ex.of_same sH);have H0p:H0 p=none:=by
  cases z:H0 p with
  |none=>rfl
  |some w=>
   by_cases m:p∈o0
   ·obtain⟨r,er⟩:=e0.pre;exact absurd (show p∈o by rw[er];exact cu _ m) f1.2
   ·have:=(e0.kp p w m z).2;rw[hp]at this;cases this
 have sv:Same (vx (h++ad M) o H) (vx (h++(ad M++[p])) o (upd H p u.ho)):=fun b w z=>by
  obtain⟨z1,z2,z3⟩:=zN.mp z;have ne:b≠p:=zJ z3 hp;refine zN.mpr ⟨fun m=>?_,z2,by rw[zC ne];exact z3⟩;rw[<- gy]at m;rcases mem_append.mp m with m|m
  ·exact z1 m
  ·exact ne (mem_singleton.mp m)
 have sM:RepS (h++ad (M++[(p,D0)])) o (upd H p u.ho) S:=by
  rw[bB];refine⟨hs.len,hs.nd,fun a ma z=>?_,fun b mb=>?_,fun k b ds e1 e2=>?_⟩
  ·rw[<- gy]at z;rcases mem_append.mp z with z|z
   ·exact hs.dis a ma z
   ·rw[mem_singleton.mp z]at ma;exact f1.2 ma
  ·rw[<- gy]at mb;rcases mem_append.mp mb with m|m
   ·obtain⟨w,ew⟩:=hs.hal b m;exact⟨w,sH _ _ ew⟩
   ·rw[mem_singleton.mp m];exact⟨u,zF⟩
  ·obtain⟨vs,e3,l⟩:=hs.cont k b ds e1 e2;exact⟨vs,sH _ _ e3,HasL.mono sv _ _ l⟩
 have mM:RepM h o (upd H p u.ho) (M++[(p,D0)]):=by
  refine⟨by rw[bB];exact mN rm.nd nM,fun a ma=>?_,fun a D2 m=>?_⟩
  ·rw[bB]at ma;rcases mem_append.mp ma with m|m
   ·exact rm.nh a m
   ·rw[mem_singleton.mp m];exact⟨nh,f1.2⟩
  ·rw[bB];rcases mem_append.mp m with m|m
   ·exact(rm.ct a D2 m).mono sv fun w z=>sH _ _ z
   ·have:=mem_singleton.mp m;cases this;exact hD _ _ zF
 have hE:RepE (h++ad (M++[(p,D0)])) o (upd H p u.ho) (δ.set i (some (.o (.ref p)))) (σ.set i (some (.ref p))):=by
  rw[bB];exact(he.to sv).set (show HasX _ _ _ (.o (.ref p)) (.ref p)from rfl)
 have ah:Fr H0 (M++[(p,D0)]):=fun a ma=>by
  rw[bB]at ma;rcases mem_append.mp ma with m|m
  ·exact fr a m
  ·rw[mem_singleton.mp m];exact H0p
 have ac:∀{N:XE->Sto->DM->Prop}{Y:St->Hp->Prop},NxM h o0 H0 (ad M) N Y->NxM h o0 H0 (ad (M++[(p,D0)])) (fun δ' S' M'=>∃M1 D,M'=M1++[(p,D)]/\N δ' S' M1) Y:=fun {N Y} nx o' H' δ' S' M' σ' ex ea ae aa ab ⟨M1,D2,eM,n⟩=>by
  subst eM;rw[bB,bB]at ea;rw[bB,<- gy]at ae aa;exact nx o' H' _ S' M1 σ' ex (List.append_inj_left' ea rfl) (ae.to kZ) aa.less ab.init n
 have ag:∀o' H' S' M' y v,Ex o0 H0 o' H'->ad M'=ad (M++[(p,D0)])->RepS (h++ad M') o' H' S'->RepM h o' H' M'->HasX (h++ad M') o' H' y v->(∃M1 D,M'=M1++[(p,D)]/\En.rt y S' M1)->D.rt v H':=by
  rintro o' H' S' M' y v ex ea aa ab af ⟨M1,D2,eM,n⟩;subst eM;rw[bB,bB]at ea;rw[bB,<- gy]at af aa;exact c.rt o' H' S' M1 _ v ex (List.append_inj_left' ea rfl) aa.less ab.init af.less n
 have qq:=q p nM;cases f with
 |false=>
  refine hb h o0 H0 o _ _ _ S (M++[(p,D0)]) _ D e1 ah hE sM mM qq ⟨?_,ag,ac c.bk,ac c.ct⟩ x;exact fun o' H' δ' S' M' σ' ex ea ae aa ab n=>ac c.nx o' H' δ' S' M' σ' ex ea ae aa ab (by simpa using n)
 |true=>
  refine hb h o0 H0 o _ _ _ S (M++[(p,D0)]) _ { D with nx:=fun σ' H'=>∃a m,σ'[i]?=some (some (.ref a))/\H' a=some (.dK m)/\∀ob,D.nx σ' (upd H' a (.frz ob (.dK m))) } e1 ah hE sM mM qq ⟨?_,ag,ac c.bk,ac c.ct⟩ x;intro o' H' δ' S' M' σ' ex ea ae aa ab n;obtain⟨M1,m,eM,ei,n2⟩:∃M1 m,M'=M1++[(p,DD.k m)]/\δ'[i]?=some (some (.o (.ref p)))/\En.nx (δ'.map (Option.map (pN p m))) S' M1:=by simpa using n
  subst eM;obtain⟨v,ev,hv⟩:=ae.get i _ ei;have ai:v=.ref p:=hv;subst ai;have nn:=ab.nh p (by rw[bB];simp);have nd:=ab.nd;rw[bB,bB]at ea;rw[bB]at nd;have pn:p∉ad M1:=fun m=>(nodup_append.mp nd).2.2 p m p yv rfl;obtain⟨m',em,l⟩:=ab.ct p (.k m) yv;refine⟨p,m',ev,em,fun ob=>?_⟩;have np:p∉h++ad M1:=fun z=>(mem_append.mp z).elim nn.1 pn;have s2:Same (vx (h++ad (M1++[(p,DD.k m)])) o' H') (vx (h++ad M1) o' (upd H' p (.frz ob (.dK m')))):=fun b w z=>by
   obtain⟨z1,z2,z3⟩:=zN.mp z;rw[bB,<- gy]at z1;have ne:b≠p:=fun z=>z1 (by rw[z];simp);exact zN.mpr ⟨fun mm=>z1 (cu _ mm),z2,by rw[zC ne];exact z3⟩
  refine c.nx o' _ _ S' M1 σ' ⟨ex.pre,fun b w nb zb=>?_⟩ (List.append_inj_left' ea rfl) (Ip s2 (zN.mpr ⟨np,nn.2,zF⟩) l ae) ?_ ?_ n2
  ·obtain⟨z1,z3⟩:=ex.kp b w nb zb;exact⟨z1,by rw[zC (fun z=>by rw[z,H0p]at zb;cases zb)];exact z3⟩
  ·refine⟨aa.len,aa.nd,fun a ma z=>aa.dis a ma (by rw[bB,<- gy];exact cu _ z),fun b mb=>?_,fun k b ds q1 q2=>?_⟩
   ·obtain⟨w,ew⟩:=aa.hal b (by rw[bB,<- gy];exact cu _ mb);exact⟨w,by rw[zC (fun z=>np (by rw[<- z];exact mb))];exact ew⟩
   ·obtain⟨vs,q3,l3⟩:=aa.cont k b ds q1 q2;exact⟨vs,by rw[zC (fun z=>nn.2 (by rw[<- z];exact ci q1))];exact q3,HasL.mono s2 _ _ l3⟩
  ·have r1:=ab.init;refine⟨r1.nd,r1.nh,fun b D3 mb=>?_⟩;have nb:b≠p:=fun z=>pn (by rw[<- z];exact mem_map.mpr ⟨_,mb,rfl⟩);exact(ab.ct b D3 (cu _ mb)).mono s2 fun w z=>by rw[zC nb];exact z
def i3(dt:DSm):DS:=fun En δ S=>dt { nx:=fun δ' S' _=>En.nx δ' S',rt:=fun x S' _=>En.rt x S',bk:=fun δ' S' _=>En.bk δ' S',ct:=fun δ' S' _=>En.ct δ' S' } δ S []
theorem OV{t:TS}{dt:DSm}(ht:RSm E EX t dt):RSx E EX t (i3 dt):=fun h o H δ σ S En D he hs q c x=>by
 have z:h++ad []=h:=jg _;have nx:∀{N:XE->Sto->Prop}{Y:St->Hp->Prop},Nx h o H N Y->NxM h o H (ad []) (fun δ' S' _=>N δ' S') Y:=fun {N Y} n o' H' δ' S' M' σ' ex ea ab aa _ q'=>by
  rw[ea,z]at ab aa;exact n o' H' δ' S' σ' ex ab aa q'
 refine ht h o H o H δ σ S [] _ D Ex.refl (fun a m=>by cases m) (by rw[z];exact he) (by rw[z];exact hs) RepM.nil q ⟨nx c.nx,?_,nx c.bk,nx c.ct⟩ x;rintro o' H' S' M' y v ex ea aa _ ac q';rw[ea,z]at aa ac;exact c.rt o' H' S' y v ex aa ac q'
theorem OQ{t:TS}{dt:DSm}(ht:RSm E0 (fun _ _=>False) t dt):RS t (i3 dt):=fun h o H δ σ S En D he hs q c=>OV ht h o H δ σ S En D he hs q c fun _ _ _ _ _ _ _ _ _ z=>z.elim
end
end
section
def ROp(Φ:Phi)(r:R2)(rd:D2):Prop:=∀(h o:List Addr) (H:Hp) (S:Sto) (x y:XV) (v u:V) (R:RX) (Q:VK),Φ h o H->RepS h o H S->HasX h o H x v->HasX h o H y u->rd x y S R->Cn h o H R Q->r v u H Q
section
variable {Φ:Phi} [Stb Φ] {ta tb:TE}{da db:DE}
theorem K2{r:R2}{rd:D2}(hr:ROp Φ r rd)(ha:REp Φ ta da)(hb:REp Φ tb db):REp Φ (tOp r ta tb) (dOp rd da db):=fun h o H δ σ S R Q he hs q c w=>
 ha h o H δ σ S _ _ he hs q (fun o1 H1 S1 x v e1 s1 x1 d1=>hb h o1 H1 δ σ S1 _ _ (he.mono e1) s1 d1 (fun o2 H2 S2 y u e2 s2 y2 d2=>
  hr h o2 H2 S2 x y v u R Q (Stb.st w (e1.trans e2)) s2 (x1.mono e2) y2 d2 (c.pre (e1.trans e2))) (Stb.st w e1)) w
end
theorem yK{t:TE}{de:DE}(a:REp (PhM []) t de):RE t de:=fun h o H δ σ S R Q he hs q c=>a h o H δ σ S R Q he hs q c ⟨h,(jg _).symm,RepM.nil⟩
theorem KW{t t':TS}{d:DS}(h:RS t d)(e:t'=t:=by rfl):RS t' d:=e▸h
end
end L2
namespace L2
open PySem PySem.Spec PySem.Calls PyProof.Rows
theorem Nz:entryFor table "dict_itemiterator.__iter__" = some ny.«dict_keyiterator.__iter__» :=
 entryFor_alias (id':="dict_keyiterator.__iter__") (by kernel_rfl) rfl (by decide +kernel) (by kernel_rfl)
theorem Hh{prog:cz}{w:fy}{A:ft}{E:bb->bd->Prop}{s:bd}{it d:Addr}{i n ep:Nat}{ok ov:bb}{Q:bb->bd->Prop}(q:tz s.heap it d i n ep ok ov)(h:Q (.ref it) s):bo (model prog w) A (pyIter (.ref it)) Q E s:=by
 have hT:s.TypeIs (.ref it) "dict_itemiterator":=⟨_,q,rfl⟩;refine wpAny_pyIter_slot hT F.slot_dict_itemiterator_iter (ia F.slot_dict_itemiterator_iter hT Nz ?_ (F.args_dict_itemiterator_iter_1 _));show bo _ _ (ret (.ref it)) _ _ s;exact be ⟨_,rfl,"dict_itemiterator",_,hT,F.slot_dict_itemiterator_next.lookup,h⟩
def DD.itemsD(m:List (Key×bc)):List bc:=m.map fun p=>.tuple [kD p.1,p.2]
def sA(e:DE):DI:=fun δ S R=>e δ S fun x S1=>∃m,x=.d (.dict (DD.pairs (.k m)))/\R (DD.itemsD m) S1
end L2
namespace L2
open PySem PySem.Spec PyProof.Rows
section
section
variable {E:XK}{EX:EXD}{a b c d e f u:TS}{dt du:DS}{i:Nat}
theorem Ig(h:RS (cH a (cH b c)) dt)(hu:RS u du):RS (cH a (cH b (cH c u))) (aA dt du):=KW (zG h hu)
end
end
end L2
namespace L2
open PySem PyProof.Rows
section
variable {prog:cz}{w:fy}{A:ft}{E:bb->bd->Prop}{s:bd}{kd:SortKind}{D:Keyed->Prop}{lt:Keyed->Keyed->Bool}
def flt(lt:Keyed->Keyed->Bool):Keyed->Keyed->Bool:=fun x y=>lt y x
def G(xs:Array Keyed)(i:Nat):Keyed:=(xs[i]?).getD (.none,.none)
end
end L2
namespace L2
open PySem PySem.Spec PySem.Calls PyProof.Rows PySem.W
def pW:List XV->Sto->RX->Prop:=fun xs S R=>arg1 xs fun x=>∃m:List (Key×bc),x=.d (.dict (DD.pairs (.k m)))/\∃ns:List Int,m.map (·.1)=ns.map Sum.inl/\ns.length<=10000000/\∀ms:List Int,ms.Perm ns->ms.Pairwise (· <= ·)->R (.d (.list (ms.map bp))) S
def nY:List XV->Sto->RX->Prop:=fun xs S R=>arg1 xs fun x=>∃ds,dZ S x=some ds/\∃nss:List (List Int),ds=nss.map i6/\nss.length<=10000000/\(∀ns∈nss,ns≠[])/\∀mss:List (List Int),mss.Perm nss->mss.Pairwise (fun x y=>HT.lexLt y x=false)->R (.d (.list (mss.map i6))) S
end L2
namespace L2
open PySem PySem.Spec PySem.Calls PyProof.Rows
def pS(j:Nat)(dk dv:DM->DE):DSm:=fun En δ S M=>zk j δ S fun y S1=>∃a m,y=.o (.ref a)/\(a,DD.k m)∈M/\dk M δ S1 fun z S2=>dv M δ S2 fun x S3=>asD z fun k=>asD x fun d=>∃kk,Lw k=some kk/\m.length<1000/\if (lkA m kk).isSome=true then En.nx δ S3 M else En.nx δ S3 (fL M a (.k (ptA m kk d)))
def qE(k:Int)(e:DE):DE:=fun δ S R=>e δ S fun x S1=>asD x fun d=>R (.d (.dict [(.int k,d)])) S1
end L2
namespace L2
theorem len0{α:Type}{l:List α}(h:l.length=0):l=[]:=df h
theorem len1{α:Type}{l:List α}(h:l.length=1):∃a0,l=[a0]:=by
 cases l with
 |nil=>cases h
 |cons x r=>
  obtain rfl:=len0 (Nat.succ.inj h);exact⟨x,rfl⟩
theorem len2{α:Type}{l:List α}(h:l.length=2):∃a0 a1,l=[a0,a1]:=by
 cases l with
 |nil=>cases h
 |cons x r=>
  obtain⟨a1,rfl⟩:=len1 (Nat.succ.inj h);exact⟨x,a1,rfl⟩
theorem len3{α:Type}{l:List α}(h:l.length=3):∃a0 a1 a2,l=[a0,a1,a2]:=by
 cases l with
 |nil=>cases h
 |cons x r=>
  obtain⟨a1,a2,rfl⟩:=len2 (Nat.succ.inj h);exact⟨x,a1,a2,rfl⟩
theorem len4{α:Type}{l:List α}(h:l.length=4):∃a0 a1 a2 a3,l=[a0,a1,a2,a3]:=by
 cases l with
 |nil=>cases h
 |cons x r=>
  obtain⟨a1,a2,a3,rfl⟩:=len3 (Nat.succ.inj h);exact⟨x,a1,a2,a3,rfl⟩
end L2
namespace L2
open PySem PySem.Spec PyProof.Rows
section
def qK:List XV->Sto->RX->Prop:=fun xs S R=>arg1 xs fun x=>∃ns:List Int,x=.d (.tuple (ns.map bp))/\ns.length<=10000000/\∀ms:List Int,ms.Perm ns->ms.Pairwise (· <= ·)->R (.d (.list (ms.map bp))) S
end
end L2
namespace L2
open PySem PySem.Spec PySem.Calls PyProof.Rows
open Sem (wp)
def nZ(a:DA):DE:=fun δ S R=>a δ S fun xs S1=>arg2 xs fun x y=>∃ds,eQ x=some ds/\∃es,eQ y=some es/\min ds.length es.length<=1000/\R (.d (.list (cP ds es))) S1
end L2
namespace L2
open PySem PySem.Spec PySem.Calls PyProof.Rows
open Sem (wp)
structure LamScope(ps caps:List Str)(sc:Scope):Prop where
 kind:sc.kind=.function
 co:sc.isCoroutine=false
 gen:sc.isGenerator=false
 nd:(ps++caps).Nodup
 par:∀x∈ps,sc.names.lookup x=some .local
 cap:∀x∈caps,sc.names.lookup x=some .free
 nocell:∀y∈sc.names,y.2≠.cell
 free:∀x,sc.names.lookup x=some .free->x∈caps
def cxL(P:cz)(w:fy)(K:cq)(mg:Str->Option bb)(base:Heap)(N:List Str)(qual:Str)(scope:Scope)(cl:List (Str×Addr))(f:Addr)(cd:bb)(A:ft)(outer:List Env)(s:bd)(H:Hp):Cx where
 prog:=P
 w:=w
 K:=K
 mg:=mg
 base:=base
 A:=A.deeper (W.envX qual scope s.heap.objs.size f cd cl)
 N:=N
 s₀:=s
 H₀:=H
 env:=W.envX qual scope s.heap.objs.size f cd cl
 outer:=outer
 stack:=W.envX qual scope s.heap.objs.size f cd cl::outer
 ex:=[]
 calm:=true
 fn:=fun _=>false
 pn:=[]
 xe:=fun _ _=>False
theorem DZ:∀{ps:List Str}{us:List bb}{i:Nat}{y:Str}{u:bb},ps.Nodup->ps[i]?=some y->us[i]?=some u->((ps.zip us).reverse).lookup y=some u
 | [],_,_,_,_,_,e,_=>by simp at e
 |_::_,[],_,_,_,_,_,e=>by simp at e
 |p::ps,v::us,0,y,u,nd,e1,e2=>by
  simp at e1 e2;subst e1 e2;rw[nodup_cons]at nd;rw[sn,reverse_cons,List.lookup_append];have:((ps.zip us).reverse).lookup p=none:=by
   rw[List.lookup_eq_none_iff];intro q mq;have:=(of_mem_zip (List.mem_reverse.mp mq)).1;have ne:p≠q.1:=fun e=>nd.1 (by rw[e];exact this);simpa using ne
  rw[this];simp[sw]
 |p::ps,v::us,i+1,y,u,nd,e1,e2=>by
  rw[nodup_cons]at nd;rw[sn,reverse_cons,List.lookup_append,DZ nd.2 (by simpa using e1) (by simpa using e2)];rfl
section
variable {P:cz}{w:fy}{K:cq}{mg:Str->Option bb}{base:Heap}{A:ft}{outer:List Env}{s:bd}{H:Hp}
structure Caps(H:Hp)(h:Heap)(cl:List (Str×Addr))(caps:List Str)(cs:List V):Prop where
 len:cs.length=caps.length
 inj:∀x y c,cl.lookup x=some c->cl.lookup y=some c->x=y
 has:∀x,x∈caps↔∃c,cl.lookup x=some c
 at_:∀(i:Nat) x v,caps[i]?=some x->cs[i]?=some v->∃c u,cl.lookup x=some c/\RelV v u/\h.IsCell c (some u)
 free:∀x c,cl.lookup x=some c->H c=none/\∃v,h.IsCell c v
theorem Mb{k:Nat}{ps caps:List Str}{name qual:Str}{params:uv}{body:Expr}{scope:Scope}{cl:List (Str×Addr)}{pm ctv:bb}{c' f:Addr}{us:List bb}{vs cs:List V}{Q:VK}{t:TE}
  (S:LamScope ps caps scope) (hr:Room (k+1) A) (e0:Env0 P w K mg base A outer s H) (ho:s.heap.get? f=some (W.kla_obj name qual params body scope cl pm c' ctv)) (hcd:s.heap.CodeRec (.ref c') qual)
  (hbind:tm (W.kla_fn name qual params body scope cl pm (.ref c') ctv) ⟨us,[]⟩=pure (ps.zip us)) (hl:vs.length=ps.length) (r:Vals vs us) (C:Caps H s.heap cl caps cs)
  (hb:PE (cxL P w K mg base (ps++caps) qual scope cl f (.ref c') A outer s H) body t) (q:t (vs.map some++cs.map some) H Q):
  ol (model P w) A (.call (.ref f) ⟨us,[]⟩) (fun r' s'=>match r' with | .ok (.ret u)=>CE outer P w H s Q u s'|_=>False) s:=by
 have KX:K.In s.heap:=e0.kIn;have af:s.heap.NoLimit:=e0.mod.nolimit.keeps fun b o e=>(e0.bs b o e).1;refine W.kla_callFunE hr.depth ho rfl S.co S.gen rfl hcd ?_;rw[hbind];refine be (wpAny_newFunctionEnv S.nocell (fun y hy=>S.par y.1 (of_mem_zip hy).1) (fun h₁ ah ae=>⟨af.fresh _ ae,?_⟩) S.kind);show ol _ _ (.expr body (W.envX qual scope s.heap.objs.size f (.ref c') cl)) _ _;have hk:∀b o,s.heap.get? b=some o->h₁.get? b=some o:=fun b o e=>ae.extBut b o (ge (fj e)) (bf _ e);have ac:∀b:Addr,b∉(cxL P w K mg base (ps++caps) qual scope cl f (.ref c') A outer s H).ex:=fun b z=>absurd (show b∈([]:List Addr)from z) yv;have ul:us.length=ps.length:=by rw[<- r.length];exact hl
 have I:Inv (cxL P w K mg base (ps++caps) qual scope cl f (.ref c') A outer s H) [] (vs.map some++cs.map some) H { s with heap:=h₁,toks:=s.toks+(ps.zip us).length }:=by
  refine⟨⟨e0.mod,S.kind,rfl,rfl,dh _,fun x y c h1 h2=>C.inj x y c h1 h2,fun y hy=>?_,fun y c h _=>absurd (show false=true from h) dz,fun _=>hr.hd,Around.frames_deeper e0.frames,.inr ⟨rfl,rfl⟩,fun b z=>absurd z (ac b),e0.bs,e0.bsz,fun b _ _=>ac b,fun b z=>absurd z (ac b),e0.funs,e0.frf⟩,
   rfl,e0.bare,Un.kept hk,⟨_,ah,fun i y v h1 h2 h3=>?_⟩,fun y c h=>?_,e0.hok.fresh (dh _),fun y c h=>(C.free y c h).1,fun p hp=>absurd (show p∈([]:List (Addr×Obj))from hp) yv,e0.hok.kept hk,?_⟩
  ·have hy:scope.names.lookup y=some .cell\/scope.names.lookup y=some .free:=hy;rcases hy with hy|hy
   ·exact absurd rfl (S.nocell _ (PySem.mem_of_lookup hy))
   ·exact(C.has y).mp (S.free y hy)
  ·by_cases hi:i<ps.length
   ·have aa:ps[i]?=some y:=by
     have h1:(ps++caps)[i]?=some y:=h1
     rwa [fi hi]at h1
    have ab:vs[i]?=some v:=by
     rw[fi (by rw[cg];omega),gh]at h2;cases e:vs[i]? with
     |none=>rw[e]at h2;cases h2
     |some a=>rw[e]at h2;cases h2;rfl
    obtain⟨u,hu,rv⟩:=r.get ab;exact⟨u,rv,.inl ⟨S.par y (ci aa),DZ (nodup_append.mp S.nd).1 aa hu⟩⟩
   ·have aa:caps[i-ps.length]?=some y:=by
     have h1:(ps++caps)[i]?=some y:=h1
     rwa [kz yw]at h1
    have ab:cs[i-ps.length]?=some v:=by
     rw[kz (by rw[cg];omega),cg,hl,gh]at h2;cases e:cs[i-ps.length]? with
     |none=>rw[e]at h2;cases h2
     |some a=>rw[e]at h2;cases h2;rfl
    obtain⟨c,u,e1,rv,ag⟩:=C.at_ _ y v aa ab;exact⟨u,rv,.inr ⟨.inr (S.cap y (ci aa)),c,e1,ag.keeps hk⟩⟩
  ·obtain⟨v,q⟩:=(C.free y c h).2;exact⟨v,q.keeps hk⟩
  ·show (vs.map some++cs.map some).length=(ps++caps).length;simp[hl,C.len]
 refine W.kla_codeExpr (qz (hb [] _ _ H _ I q) (fun u s' hs=>?_) fun e s' z=>z.elim);obtain⟨v,H',J,rv,q'⟩:=hs;exact⟨v,H',J.os,J.bare,J.base,J.hok,rv,q'⟩
end
abbrev lamKey (qual:Str) (pos:Pos):Array bb:=#[kh pos.line,kh pos.col,.str qual 0]
abbrev lT (qual:Str) (params:uv) (body:Expr) (scope:Scope) (cl:List (Str×Addr)) (pm:bb) (c':Addr) (ctv:bb):Obj:=W.kla_obj "<lambda>" qual params body scope cl pm c' ctv
section
variable {X:Cx}{zi:List (Addr×Obj)}{σ:St}{H:Hp}{s:bd}{M:Model}{A:ft}{E:bb->bd->Prop}{Q:bb->bd->Prop}{c P:Addr}{qual:Str}{params:uv}{body:Expr}{scope:Scope}{pos:Pos}{cl:List (Str×Addr)}
theorem IY(I:Inv X zi σ H s)(aa:X.env.code=.ref c)(hT:((c,P),lamKey qual pos)∈tabsG)(ag:closureFor scope X.env=pure cl)
  (h:∀(f c':Addr) (ctv pm:bb) (H':Hp) (s':bd),Inv X zi σ H' s'->Same H H'->H f=none->H' f=some (.frz (lT qual params body scope cl pm c' ctv) (.own 0))->(∃oc vs t',H' c'=some (.frz oc (.own 0))/\oc.data=.fields vs/\vs[1]?=some (.str qual t'))->Q (.ref f) s'):
  bo M A (makeFunction "<lambda>" qual params (.expr body) scope X.env [] [] [] pos pos.line) Q E s:=by
 have hH:H P=some (.tbl (lamKey qual pos)):=I.stkFree.tab _ hT;have C:W.CodeHd X.base c P:=I.mod.hd _ hT;have B:BltAt X.base X.mg:=I.mod.bm;obtain⟨qs,hP,hq⟩:=(show ObjOk X.prog X.w H s.heap P (.tbl (lamKey qual pos))from I.hok P _ hH);have af:∀b o,X.base.get? b=some o->b≠P:=fun b o e z=>by
  have:=(I.bs b o e).2;rw[z,hH]at this;cases this
 have hg:s.heap.Ns jq X.mg:=I.mod.glob.keeps I.bk;have ak:jq≠P:=by
  obtain⟨o,es,ep,e,_⟩:=I.mod.glob;exact af _ o e
 have hB:s.heap.BuiltinsAt X.mg P:=by
  obtain⟨bm,ob,b1,b2,b3,b4,b5,b6⟩:=B;refine⟨bm,ob,b1,b2,fun z=>?_,af _ _ b3,I.bk _ _ b3,b4,b5,b6⟩;obtain⟨o,es,ep,e,d,_⟩:=I.mod.glob;rw[z,e]at b3;cases b3;rw[d]at b6;cases b6
 have hC:=C.keeps I.bk;rcases hq with rfl|⟨l,k,q,t,c',oc,vs,t',e1,rfl,e3,e4,e5⟩
 ·refine W.kla_makeFunction (mg:=X.mg) ag I.ok.glob hg aa hC hP trivial rfl ak hB fun c' ctv h' tk hx ac ai ae ah=>?_;obtain⟨c₂,oc,vs,t',e2,am,hd,hv⟩:=ae;cases e2;have hsz:s.heap.objs.size<=h'.objs.size:=jn (Nat.lt_of_le_of_lt ac ai);have nc:H c'=none:=I.hok.fresh ac;have nf:H h'.objs.size=none:=I.hok.fresh hsz;have cf:c'≠h'.objs.size:=ge ai
  let fo:Obj:=lT qual params body scope cl ((X.mg "__name__").getD .none) c' ctv
  let H':Hp:=upd (upd H c' (.frz oc (.own 0))) h'.objs.size (.frz fo (.own 0))
  have gr:Same H H':=(Same.laid nc).trans (Same.laid (by rw[zC (gq cf)];exact nf));have ap:P≠c':=zJ hH nc;have ao:P≠h'.objs.size:=zJ hH nf;have kp:∀b o,b≠P->s.heap.get? b=some o->(h'.push fo).get? b=some o:=fun b o nb e=>bf _ (hx b o nb e);have eH:∀b,b≠c'->b≠h'.objs.size->H' b=H b:=fun b n1 n2=>by show upd _ _ _ b=_;rw[zC n2,zC n1]
  have ab:H' c'=some (.frz oc (.own 0)):=by show upd _ _ _ c'=_;rw[zC cf,zF]
  have aj:H' h'.objs.size=some (.frz fo (.own 0)):=zF;refine h h'.objs.size c' ctv _ H' _ (I.un ⟨fun b o e n _ _=>kp b o (fun z=>by rw[z,hH]at n;cases n) e,fun b o e n _ _=>⟨o.slots,kp b o (fun z=>by rw[z,hH]at n;cases n) e⟩,fun b o e n _=>?_,fun b o e _=>?_,fun b xs e=>gr b _ e,fun b o u e=>gr b _ e,fun b ps e=>gr b _ e⟩ fun b u e=>?_) gr nf aj ⟨oc,vs,t',ab,hd,hv⟩
  ·have lb:=fj e;rw[eH b (ge (fw lb ac)) (ge (fw lb hsz))];exact n
  ·by_cases hb:b=P
   ·subst hb;exact⟨_,bf _ ah⟩
   ·exact⟨o,kp b o hb e⟩
  ·by_cases h1:b=h'.objs.size
   ·subst h1;rw[aj]at e;cases e;have g:=bv h' (o:=fo) rfl;exact⟨g,_,g⟩
   ·by_cases h2:b=c'
    ·subst h2;rw[ab]at e;cases e;have g:=bf fo am;exact⟨g,_,g⟩
    ·rw[eH b h2 h1]at e;by_cases h3:b=P
     ·subst h3;rw[hH]at e;cases e;exact⟨_,bf _ ah,.inr ⟨_,_,qual,0,c',oc,vs,t',rfl,rfl,ab,hd,hv⟩⟩
     ·refine(I.hok b u e).stay (fun d v an q1=>kp d v (fun z=>?_) q1) (fun d q1=>gr d _ q1) (fun d xs q1=>gr d _ q1) fun d o u q1=>gr d _ q1;subst z;rcases an with z|z
      ·exact h3 z.symm
      ·rw[hH]at z;cases z
 ·have el:kh pos.line=l:=congrArg (fun a:Array bb=>a.getD 0 .none) e1;have ek:kh pos.col=k:=congrArg (fun a:Array bb=>a.getD 1 .none) e1;have eq:qual=q:=by
   have:=congrArg (fun a:Array bb=>a.getD 2 .none) e1;have z:vi qual 0=vi q t:=this;cases z;rfl
  subst eq;rw[<- el,<- ek]at hP;have al:codeAmong pos (#[kh pos.line,kh pos.col,dw c']:Array bb).toList=some (.ref c'):=by
   simp[codeAmong,kh]
  refine W.kla_makeFunctionHit (mg:=X.mg) ag I.ok.glob hg aa hC hP trivial al hB fun ctv h' tk kp hsz=>?_;have nf:H h'.objs.size=none:=I.hok.fresh hsz
  let fo:Obj:=lT qual params body scope cl ((X.mg "__name__").getD .none) c' ctv
  have gr:Same H (upd H h'.objs.size (.frz fo (.own 0))):=Same.laid nf;have g:=bv h' (o:=fo) rfl;exact h h'.objs.size c' ctv _ _ _ (I.laid (t':=tk) (o:=.frz fo (.own 0)) (fun b o e=>bf _ (kp b o e)) hsz ⟨g,_,g⟩) gr nf zF ⟨oc,vs,t',gr _ _ e3,e4,e5⟩
end
end L2
namespace L2
open PySem PySem.Spec PySem.Calls PyProof.Rows
open Sem (wp)
section
variable {P:cz}{w:fy}{K:cq}{mg:Str->Option bb}{base:Heap}{A:ft}{outer:List Env}{s s':bd}{H H' H0:Hp}{fs:List Addr}{h0 h h':Heap}
theorem lN{a:Addr}(U:Un fs [] H0 H h0 h)(ha:h0.objs.size<=a)(k:∀b o,b≠a->h.get? b=some o->h'.get? b=some o):Un fs [] H0 H h0 h':=by
 have ne:∀b o,h0.get? b=some o->b≠a:=fun b o e=>ge (fw (fj e) ha);refine⟨fun b o e n hb hx=>k b o (ne b o e) (U.keep b o e n hb hx),fun b o e n hb hx=>?_,U.free,fun b o e hx=>?_,U.tups,U.frzs,U.tbls⟩
 ·obtain⟨sl,q⟩:=U.slot b o e n hb hx;exact⟨sl,k b _ (ne b o e) q⟩
 ·obtain⟨o',q⟩:=U.there b o e hx;exact⟨o',k b o' (ne b o e) q⟩
theorem Env0.after(e0:Env0 P w K mg base A outer s H)(U:Un (frs outer) [] H H' s.heap s'.heap)(hok:HOk P w H' s'.heap)(hb:AllBare s'.gens)(hz:base.objs.size<=s'.heap.objs.size):Env0 P w K mg base A outer s' H':=by
 have z:∀b o,base.get? b=some o->b∉frs outer:=fun b o e hm=>by
  have:=(e0.funs.mem hm).1;rw[e]at this;cases this
 refine⟨e0.frames,e0.mod,fun b o e=>⟨U.keep b o (e0.bs b o e).1 (e0.bs b o e).2 (z b o e) yv,U.free b o (e0.bs b o e).1 (e0.bs b o e).2 yv⟩,hz,?_,⟨fun b hb=>?_,fun q hq=>U.tbls _ _ (e0.frf.tab q hq),fun q hq=>U.tups _ _ (e0.frf.kp q hq)⟩,hok,hb⟩
 ·have go:∀l:List Env,(∀b∈frs l,b∈frs outer)->s.heap.FunFrames base l->s'.heap.FunFrames base l:=by
   intro l;induction l with
   |nil=>intro _ _;trivial
   |cons env r ih=>
    intro hs hl;obtain⟨hk,⟨L,o,hf,hn,ho,hd⟩,hr⟩:=hl;have hL:L∈frs outer:=hs L (by unfold frs;rw[qr,hf];exact cp);obtain⟨sl,e⟩:=U.slot L o ho (e0.frf.free L hL) hL yv;exact⟨hk,⟨L,_,hf,hn,e,hd⟩,ih (fun b hb=>hs b (by unfold frs;rw[qr,hf];exact bq _ hb)) hr⟩
  exact go outer (fun _ h=>h) e0.funs
 ·obtain⟨_,o,ho,_⟩:=e0.funs.mem hb;exact U.free b o ho (e0.frf.free b hb) yv
theorem Caps.after{cl:List (Str×Addr)}{caps:List Str}{cs:List V}(C:Caps H h cl caps cs)(U:Un fs [] H H' h h'):Caps H' h' cl caps cs:=by
 have kp:∀c v,H c=none->h.IsCell c v->h'.IsCell c v:=fun c v n ⟨o,e,d⟩=>by
  obtain⟨sl,q⟩:=U.any e n yv;exact⟨_,q,d⟩
 refine⟨C.len,C.inj,C.has,fun i x v e1 e2=>?_,fun x c e=>?_⟩
 ·obtain⟨c,u,q1,q2,q3⟩:=C.at_ i x v e1 e2;exact⟨c,u,q1,q2,kp c _ (C.free x c q1).1 q3⟩
 ·obtain⟨n,v,q⟩:=C.free x c e;obtain⟨o,eo,_⟩:=id q;exact⟨U.free c o eo n yv,v,kp c v n q⟩
theorem Env0.own{a:Addr}(e0:Env0 P w K mg base A outer s H)(na:H a=none)(nb:base.objs.size<=a)(nf:a∉frs outer)(k:∀b o,b≠a->s.heap.get? b=some o->h'.get? b=some o)(hz:s.heap.objs.size<=h'.objs.size)(tk:Nat):Env0 P w K mg base A outer { s with heap:=h',toks:=tk } H:=by
 refine⟨e0.frames,e0.mod,fun b o e=>⟨k b o (ge (fw (fj e) nb)) (e0.bs b o e).1,(e0.bs b o e).2⟩,gm e0.bsz hz,?_,e0.frf,e0.hok.stays fun b u e o q=>k b o (zJ e na) q,e0.bare⟩;have go:∀l:List Env,(∀b∈frs l,b∈frs outer)->s.heap.FunFrames base l->h'.FunFrames base l:=by
  intro l;induction l with
  |nil=>intro _ _;trivial
  |cons env r ih=>
   intro hs hl;obtain⟨hk,⟨L,o,hf,hn,ho,hd⟩,hr⟩:=hl;have hL:L∈frs outer:=hs L (by unfold frs;rw[qr,hf];exact cp);exact⟨hk,⟨L,o,hf,hn,k L o (fun z=>nf (z▸hL)) ho,hd⟩,ih (fun b hb=>hs b (by unfold frs;rw[qr,hf];exact bq _ hb)) hr⟩
 exact go outer (fun _ h=>h) e0.funs
theorem Caps.own{a:Addr}{cl:List (Str×Addr)}{caps:List Str}{cs:List V}(C:Caps H h cl caps cs)(na:∀x c,cl.lookup x=some c->c≠a)(k:∀b o,b≠a->h.get? b=some o->h'.get? b=some o):Caps H h' cl caps cs:=by
 refine⟨C.len,C.inj,C.has,fun i x v e1 e2=>?_,fun x c e=>?_⟩
 ·obtain⟨c,u,q1,q2,o,q3,q4⟩:=C.at_ i x v e1 e2;exact⟨c,u,q1,q2,o,k c o (na x c q1) q3,q4⟩
 ·obtain⟨n,v,o,q,d⟩:=C.free x c e;exact⟨n,v,o,k c o (na x c e) q,d⟩
def CodeFz(H:Hp)(c':Addr)(qual:Str):Prop:=∃oc vs t',H c'=some (.frz oc (.own 0))/\oc.data=.fields vs/\vs[1]?=some (.str qual t')
theorem CodeFz.rec{c':Addr}{qual:Str}(c:CodeFz H c' qual)(hok:HOk P w H h):h.CodeRec (.ref c') qual:=by
 obtain⟨oc,vs,t',e,d,q⟩:=c;obtain⟨g,_⟩:=(show ObjOk P w H h c' (.frz oc (.own 0))from hok _ _ e);exact⟨c',oc,vs,t',rfl,g,d,q⟩
theorem CodeFz.un{c':Addr}{qual:Str}(c:CodeFz H c' qual)(U:Un fs [] H H' h h'):CodeFz H' c' qual:=by
 obtain⟨oc,vs,t',e,r⟩:=c;exact⟨oc,vs,t',U.frzs _ _ _ e,r⟩
theorem Fc{k:Nat}{x:Str}{caps:List Str}{qual:Str}{params:uv}{body:Expr}{scope:Scope}{cl:List (Str×Addr)}{pm ctv:bb}{c' f:Addr}{u:bb}{v:V}{cs:List V}{Q1:VK}{t:TE}{E:bb->bd->Prop}{Q:bb->bd->Prop}
  (S:LamScope [x] caps scope) (hr:Room (k+1) A) (e0:Env0 P w K mg base A outer s H) (hf:H f=some (.frz (lT qual params body scope cl pm c' ctv) (.own 0))) (hc:CodeFz H c' qual)
  (hbind:∀u,tm (W.kla_fn "<lambda>" qual params body scope cl pm (.ref c') ctv) ⟨[u],[]⟩=pure [(x,u)]) (r:RelV v u) (C:Caps H s.heap cl caps cs)
  (hb:PE (cxL P w K mg base ([x]++caps) qual scope cl f (.ref c') A outer s H) body t) (q:t (some v::cs.map some) H Q1) (fin:∀u' s',CE outer P w H s Q1 u' s'->Q u' s'):
  bo (model P w) A (call (.ref f) [u]) Q E s:=by
 obtain⟨g,_⟩:=(show ObjOk P w H s.heap f (.frz _ (.own 0))from e0.hok _ _ hf);refine wpAny_call (ra (Mb (ps:=[x]) (us:=[u]) (vs:=[v]) S hr e0 g (hc.rec e0.hok) (hbind u) rfl (.cons r .nil) C hb q) fun r' s' z=>?_);cases r' with
 |error e=>exact z.elim
 |ok fl=>
  cases fl with
  |ret u'=>exact fin u' s' z
  |next=>exact z.elim
  |brk=>exact z.elim
  |cont=>exact z.elim
end
section
variable {P:cz}{w:fy}{K:cq}{mg:Str->Option bb}{base:Heap}{A:ft}{outer:List Env}{s0:bd}{H0:Hp}{k:Nat}{x:Str}{caps:List Str}{qual:Str}{params:uv}{body:Expr}{scope:Scope}{cl:List (Str×Addr)}{pm ctv:bb}{c' f l it S:Addr}{cs:List V}{Q:VK}{t:TE}{kw:List (Str×bb)}
def MinW(l:Addr)(L:Nat)(cs:List V)(t:TE)(Q:VK)(W:Nat->V->Int->Hp->Prop):Prop:=∀n best kb H,W n best kb H->∃xs,xs.length=L/\H l=some (.lst xs)/\(∀v,xs[n]?=some v->t (some v::cs.map some) H fun kv H'=>∃j,kv=.int j/\if j<kb then W (n+1) v j H' else W (n+1) best kb H')/\(L=n->Q best H)
theorem Iq{L:Nat}{W:Nat->V->Int->Hp->Prop}(SC:LamScope [x] caps scope)(hr:Room (k+2) A)(aj:∀u,tm (PySem.W.kla_fn "<lambda>" qual params body scope cl pm (.ref c') ctv) ⟨[u],[]⟩=pure [(x,u)])
  (hb:∀s H,PE (cxL P w K mg base ([x]++caps) qual scope cl f (.ref c') A.in1 outer s H) body t) (hW:MinW l L cs t Q W)
  (b1:base.objs.size<=s0.heap.objs.size) (i1:s0.heap.objs.size<=it) (i2:s0.heap.objs.size<=S) (hIS:S≠it) (cb:∀x c,cl.lookup x=some c->c<s0.heap.objs.size) (ffr:∀b∈frs outer,b<s0.heap.objs.size):
  ∀(d n:Nat) (s:bd) (H:Hp) (best:V) (bu:bb) (kb:Int) (tb:Tok) (c:Nat),n+d=L->Env0 P w K mg base A.in1 outer s H->Un (frs outer) [] H0 H s0.heap s.heap->s.os=s0.os->W n best kb H->s.heap.IsListIter it l n->H it=none ->
   s.heap.get? S=some (qk "list" #[bu,.int kb tb] c)->H S=none->RelV best bu->H f=some (.frz (lT qual params body scope cl pm c' ctv) (.own 0))->CodeFz H c' qual->Caps H s.heap cl caps cs ->
   ol (model P w) A (.builtin "min.loop" ⟨[.ref it,.ref f,.ref S],kw⟩) (fun r s'=>match r with | .ok (.ret u)=>CE outer P w H0 s0 Q u s'|_=>False) s:=by
 have aa:(vc "min" ++ vc ".loop":String) = "min.loop":=by decide
 have hh:A.in1.handled=none:=hr.hd;have am:it∉frs outer:=fun m=>absurd (fw (ffr _ m) i1) (nj _);have ao:S∉frs outer:=fun m=>absurd (fw (ffr _ m) i2) (nj _);intro d;induction d with
 |zero=>
  intro n s H best bu kb tb c hn e0 U os hw ak nI hS nS rb hf hc C;obtain⟨xs,hL,hl,_,hq⟩:=hW n best kb H hw;obtain⟨hz,af,cap,rv,el⟩:=(show ObjOk P w H s.heap l (.lst xs)from e0.hok l _ hl);have ai:s.heap.IsList l af.toArray:=⟨_,el,rfl,_,rfl⟩;refine jb qx ?_;rw[gu iu _];show bo _ A.in1 (ug (.ref S) >>= _) _ _ s;refine ba (iy hS rfl ?_);show bo _ A.in1 (vd (nv (.ref it)) _ >>= _) _ _ s;refine ba (ni (wpAny_pyNext_list_end hh ak ai (by have:=rv.length;simp;omega) fun h1 k1=>?_));have ab:=k1 S _ hIS hS;have s1:=ie h1 S (ix fun _=>(#[]:Array bb));show bo _ A.in1 (uy S (fun _=>#[]) >>= _) _ _ _;refine ba (li ab rfl (ba (nu (be ?_))));have k2:∀b o,b≠S->h1.get? b=some o->(h1.update S (ix fun _=>(#[]:Array bb))).get? b=some o:=fun b o nb e=>(s1.2 b nb).trans e;refine⟨best,H,os,e0.bare,lN (lN U i1 fun b o nb e=>k1 b o nb e) i2 k2,e0.hok.stays fun b u e o q=>k2 b o (zJ e nS) (k1 b o (zJ e nI) q),rb,hq yw⟩
 |succ d ih=>
  intro n s H best bu kb tb c hn e0 U os hw ak nI hS nS rb hf hc C;obtain⟨xs,hL,hl,al,_⟩:=hW n best kb H hw;obtain⟨hz,af,cap,rv,el⟩:=(show ObjOk P w H s.heap l (.lst xs)from e0.hok l _ hl);have ai:s.heap.IsList l af.toArray:=⟨_,el,rfl,_,rfl⟩;have hx:=bn (show n<xs.length by omega);generalize xs[n]'yw=v at hx;obtain⟨u,eu,ru⟩:=rv.get hx;refine jb qx ?_;rw[gu iu _];show bo _ A.in1 (ug (.ref S) >>= _) _ _ s;refine ba (iy hS rfl ?_);show bo _ A.in1 (vd (nv (.ref it)) _ >>= _) _ _ s;refine ba (ni (wpAny_pyNext_list_item ak ai (x:=u) (by simpa using eu) fun h1 au as=>?_));have k1:∀b o,b≠it->s.heap.get? b=some o->h1.get? b=some o:=fun b o nb e=>as.extBut b o nb e;have av:s.heap.objs.size<=h1.objs.size:=le_of_eq as.1.symm;have e1:Env0 P w K mg base A.in1 outer { s with heap:=h1 } H:=e0.own nI (gm b1 i1) am k1 av s.toks;have C1:Caps H h1 cl caps cs:=C.own (fun x c e=>ge (fw (cb x c e) i1)) k1;show bo _ A.in1 (vd (holding [u] (call (.ref f) [u])) _ >>= _) _ _ _;refine ba (ni (iq (Fc (k:=k) (s:={ s with heap:=h1 }) SC hr.in1 e1 hf hc aj ru C1 (hb _ _) (al v hx) fun u2 s2 z=>?_)));obtain⟨kv,H2,ax,ae,U2,ap,r2,j,rfl,hj⟩:=z;obtain⟨t2,rfl⟩:=r2;have ab:=k1 S _ hIS hS;have ag:=U2.keep S _ ab nS ao yv;obtain⟨oI,eI,cI,dI⟩:=id au;have ac:=U2.keep it _ eI nI am yv;have ar:s2.heap.IsListIter it l (n+1):=⟨oI,ac,cI,dI⟩;have an:H2 it=none:=U2.free it _ eI nI yv;have ah:H2 S=none:=U2.free S _ ab nS yv;have bz:base.objs.size<=s2.heap.objs.size:=gm b1 (gm i1 (jn (fj ac)));have e2:=e1.after U2 ap ae bz;have U02:Un (frs outer) [] H0 H2 s0.heap s2.heap:=(lN U i1 k1).trans U2;have C2:=C1.after U2;have f2:=U2.frzs _ _ _ hf;have c2:=hc.un U2;have aq:s2.os=s0.os:=ax.trans os;show bo _ A.in1 (vd (holding [u,.int j t2] (richCompare .Lt (.int j t2) (.int kb tb) >>= _)) _ >>= _) _ _ _;refine ba (ni (iq (ba (CmpOf.ints_lt (prog:=P) (w:=w) (A:=A.in1) (P:=fun i v=>∃t,v=.int (if i=0 then kb else j) t) (fun i=>if i=0 then kb else j) (fun i v h=>h) 1 0 _ _ _ _ _ ⟨t2,rfl⟩ ⟨tb,rfl⟩ ?_))));refine ba (iq (ji ?_));refine ba (nu (be ?_));by_cases hb':j<kb
  ·rw[cy hb']at hj;have s3:=ie s2.heap S (ix fun _=>#[u,.int j t2]);obtain⟨cc,aw⟩:∃cc,(s2.heap.update S (ix fun _=>#[u,.int j t2])).get? S=some (qk "list" #[u,.int j t2] cc):=⟨_,get?_update_seq ag fun _=>#[u,.int j t2]⟩;have k3:∀b o,b≠S->s2.heap.get? b=some o->(s2.heap.update S (ix fun _=>#[u,.int j t2])).get? b=some o:=fun b o nb e=>(s3.2 b nb).trans e;simp only[if_true,Nat.one_ne_zero,if_false,hb',decide_true];refine ba ?_;refine li ag rfl (ba (nu ?_));rw[aa];refine be ⟨jp iu _,ih (n+1) { s2 with heap:=s2.heap.update S (ix fun _=>#[u,.int j t2]) } H2 v u j t2 cc yw (e2.own ah (gm b1 i2) ao k3 (le_of_eq s3.1.symm) s2.toks) (lN U02 i2 k3) aq hj ⟨oI,k3 it oI (gq hIS) ac,cI,dI⟩ an aw ah ru f2 c2 (C2.own (fun x c e=>ge (fw (cb x c e) i2)) k3)⟩
  ·rw[cr hb']at hj;simp only[if_true,Nat.one_ne_zero,if_false,hb',decide_false,jm];refine ba (nu ?_);rw[aa];exact be ⟨jp iu _,ih (n+1) s2 H2 best bu kb tb c yw e2 U02 aq hj ar an ag ah rb f2 c2 C2⟩
end
end L2
namespace L2
open PySem PySem.Spec PySem.Calls PyProof.Rows
open Sem (wp)
def hX(DN:List Str)(dsc:List (Str×pb))(sc:Scope)(ps caps:List Str)(ks:List Nat):Bool:=
 (ks.length==caps.length)&&decide ((ps++caps).Nodup)&&ps.all (fun x=>sc.names.lookup x==some .local)&&caps.all (fun x=>sc.names.lookup x==some .free&&dsc.lookup x==some .cell) &&
 sc.names.all (fun y=>y.2 != .cell&&(y.2 != .free||caps.contains y.1))&&(ks.zip caps).all (fun p=>DN[p.1]?==some p.2)
section
variable {X:Cx}{zi:List (Addr×Obj)}{σ:St}{H:Hp}{s:bd}{dsc scope:Scope}{L:Nat}{ps caps:List Str}{ks:List Nat}
theorem Gh(hk:scope.kind=.function)(q:scope.isCoroutine=false)(hg:scope.isGenerator=false)(h:hX X.N dsc.names scope ps caps ks=true):LamScope ps caps scope:=by
 simp only[hX,gc,ox,beq_iff_eq,decide_eq_true_eq]at h;obtain⟨⟨⟨⟨⟨_,nd⟩,hp⟩,hc⟩,hn⟩,_⟩:=h;refine⟨hk,q,hg,nd,hp,fun x hx=>(hc x hx).1,fun y hy e=>?_,fun x e=>?_⟩
 ·have:=(hn y hy).1;rw[e]at this;simp at this
 ·have:=(hn _ (PySem.mem_of_lookup e)).2;simpa using this
theorem Dx(hd:X.env.scope=dsc)(hc:X.env.cells=cellsFrom L dsc.names [])(h:hX X.N dsc.names scope ps caps ks=true):closureFor scope X.env=pure (dJ X.env scope.names []):=by
 subst hd;simp only[hX,gc,ox,beq_iff_eq,decide_eq_true_eq]at h;obtain⟨⟨⟨⟨⟨_,nd⟩,hp⟩,q⟩,hn⟩,_⟩:=h;refine FT fun y hy e=>?_;have:=(hn y hy).2;rw[e]at this;rw[hc];exact ue _ _ _ (.inl (q _ (by simpa using this)).2)
theorem LS{cs:List V}(I:Inv X zi σ H s)(hd:X.env.scope=dsc)(hc:X.env.cells=cellsFrom L dsc.names [])(h:hX X.N dsc.names scope ps caps ks=true)(hσ:ks.map (fun i=>(σ[i]?).join)=cs.map some):Caps H s.heap (dJ X.env scope.names []) caps cs:=by
 have ah:=Dx hd hc h;subst hd;simp only[hX,gc,ox,beq_iff_eq,decide_eq_true_eq]at h;obtain⟨⟨⟨⟨⟨hl,nd⟩,hp⟩,ac⟩,hn⟩,hz⟩:=h;have ab:∀x,X.env.scope.names.lookup x=some .cell->(X.env.cells.lookup x).isSome=true:=fun x e=>by
  rw[hc];exact ue _ _ _ (.inl e)
 have sub:∀x c,(dJ X.env scope.names []).lookup x=some c->X.env.cells.lookup x=some c/\x∈caps:=fun x c e=>by
  rcases yB (PySem.mem_of_lookup e)with q|⟨q,ec⟩
  ·cases q
  ·have hx:x∈caps:=by have:=(hn _ q).2;simpa using this
   obtain⟨c',ae⟩:=isSome_iff_exists.mp (ab x (ac x hx).2);refine⟨?_,hx⟩;rw[ec,ae];rfl
 have has:∀x∈caps,∃c,(dJ X.env scope.names []).lookup x=some c:=fun x hx=>by
  obtain⟨c,hm⟩:=sX (env:=X.env) (acc:=[]) (PySem.mem_of_lookup (ac x hx).1);exact tW hm
 have lc:cs.length=caps.length:=by
  have:=congrArg List.length hσ;simp only[cg]at this;omega
 refine⟨lc,fun x y c h1 h2=>I.ok.inj x y c (sub x c h1).1 (sub y c h2).1,fun x=>⟨has x,fun⟨c,e⟩=>(sub x c e).2⟩,fun i x v e1 e2=>?_,fun x c e=>⟨I.freeC x c (sub x c e).1,I.cell x c (sub x c e).1⟩⟩;obtain⟨c,ec⟩:=has x (ci e1);have hi:i<ks.length:=by
  have:=(List.getElem?_eq_some_iff.mp e1).1;omega
 have ek:=bn hi;have aa:(σ[ks[i]]?).join=some v:=by
  have:=congrArg (fun l=>l[i]?) hσ;simp only[gh,e2,ek,map_some]at this;exact ic this
 have ag:σ[ks[i]]?=some (some v):=by
  cases q:σ[ks[i]]? with
  |none=>rw[q]at aa;cases aa
  |some a=>rw[q]at aa;rw[show a=some v from aa]
 have hN:X.N[ks[i]]?=some x:=hz (ks[i],x) (ci (i:=i) (by rw[List.getElem?_zip_eq_some];exact⟨ek,e1⟩));have z:=(ac x (ci e1)).2;obtain⟨m,_,af⟩:=I.loc;obtain⟨u,rv,lk⟩:=af _ x v hN ag (.inr (.inl z));rcases lk with ⟨k1,_⟩|⟨_,c',q1,q2⟩
 ·exact absurd ((show X.env.kindOf x=some .cell from z).symm.trans k1) dz
 ·rw[(sub x c ec).1]at q1;cases q1;exact⟨c,u,ec,rv,q2⟩
end
theorem FS{h o:List Addr}{H:Hp}{δ:XE}{σ:St}(r:RepE h o H δ σ):∀{ks:List Nat}{cs:List XV},ks.map (fun i=>(δ[i]?).join)=cs.map some->∃vs:List V,ks.map (fun i=>(σ[i]?).join)=vs.map some/\HasXs h o H cs vs
 | [],[],_=>⟨[],rfl,rfl⟩
 | [],_::_,e=>by simp at e
 |_::_,[],e=>by simp at e
 |k::ks,x::cs,e=>by
  simp only[fm,qc]at e;obtain⟨e1,e2⟩:=e;have e3:δ[k]?=some (some x):=by
   cases q:δ[k]? with
   |none=>rw[q]at e1;cases e1
   |some a=>rw[q]at e1;rw[show a=some x from e1]
  obtain⟨v,e4,hv⟩:=r.get k x e3;obtain⟨vs,e5,hl⟩:=FS r e2;refine⟨v::vs,?_,v,vs,rfl,hv,hl⟩;simp only[fm,e4,e5];rfl
end L2
namespace L2
open PySem PySem.Spec PyProof.Rows
section
theorem lo{sc:Scope}{x:Str}(h:sc.names.lookup x=some .local:=by rfl):Loc sc x:=ig h
theorem fsd{N P:List Str}{sc:Scope}(h:AX N P sc=true:=by decide +kernel):FnScope N P sc:=fsc h
end
end L2
namespace L2
open PySem PySem.Spec PySem.Calls PyProof.Rows
inductive AllK {α:Type} (F:α->bb->Prop):List α->List bb->Prop
 |nil:AllK F [] []
 |cons {k v ks vs}:F k v->AllK F ks vs->AllK F (k::ks) (v::vs)
def KAt(h:Heap):(s:KSg)->KG s->bb->Prop
 | .int,i,v=>Value.isInt i v=true
 | .bool,b,v=>v=.bool b
 | .many s,ks,v=>∃a vs,v=.ref a/\h.IsTuple a vs/\AllK (KAt h s) ks vs.toList
 | .two s t,k,v=>∃a u w,v=.ref a/\h.IsTuple a #[u,w]/\KAt h s k.1 u/\KAt h t k.2 w
def kdraw:(s:KSg)->KG s->Nat
 | .int,_=>1
 | .bool,_=>1
 | .many s,ks=>(ks.map (kdraw s)).sum+1
 | .two s t,k=>kdraw s k.1+kdraw t k.2+1
def KSg.dp:KSg->Nat
 | .int=>0
 | .bool=>0
 | .many s=>s.dp+1
 | .two s t=>max s.dp t.dp+1
theorem AllK.inj{α:Type}{F:α->bb->Prop}(hi:∀a b v,F a v->F b v->a=b):∀{xs ys:List α}{vs:List bb},AllK F xs vs->AllK F ys vs->xs=ys
 |_,_,_,.nil,.nil=>rfl
 |_,_,_,.cons a l,.cons b m=>by rw[hi _ _ _ a b,AllK.inj hi l m]
theorem yL{h:Heap}{a:Addr}{vs us:Array bb}(x:h.IsTuple a vs)(y:h.IsTuple a us):vs=us:=by
 obtain⟨o,e,c,n,d⟩:=x;obtain⟨o',e',c',n',d'⟩:=y;rw[e]at e';cases e';rw[d]at d';injection d'
theorem KAt.inj{h:Heap}:∀(s:KSg) {x y:KG s}{v:bb},KAt h s x v->KAt h s y v->x=y
 | .int,x,y,v,a,b=>Value.isInt_inj v x y a b
 | .bool,x,y,v,a,b=>by
  have:=(show v=.bool x from a).symm.trans (show v=.bool y from b);injection this
 | .many s,x,y,v,⟨a,vs,e,t,l⟩,⟨a',vs',e',t',l'⟩=>by
  subst e;injection e' with e'
  subst e';rw[yL t' t]at l';exact AllK.inj (F:=KAt h s) (fun _ _ _ p q=>KAt.inj s p q) l l'
 | .two s t,x,y,v,⟨a,u,w,e,tt,l,m⟩,⟨a',u',w',e',tt',l',m'⟩=>by
  subst e;injection e' with e'
  subst e';have z:=yL tt' tt;have z1:u'=u:=by have:=congrArg (fun q=>q[0]?) z;simpa using this
  have z2:w'=w:=by have:=congrArg (fun q=>q[1]?) z;simpa using this
  subst z1 z2;exact Prod.ext (KAt.inj s l l') (KAt.inj t m m')
theorem AllK.imp{α:Type}{F G:α->bb->Prop}(hi:∀a v,F a v->G a v):∀{xs:List α}{vs:List bb},AllK F xs vs->AllK G xs vs
 |_,_,.nil=>.nil
 |_,_,.cons a l=>.cons (hi _ _ a) (l.imp hi)
theorem BY{h h':Heap}{a d:Addr}{vs:Array bb}{o:Obj}{es ep}(x:h.IsTuple a vs)(ho:h.get? d=some o)(hd:o.data=.dict es ep)(hs:fg d h h'):h'.IsTuple a vs:=by
 obtain⟨o',e,c,n,q⟩:=x;have z:a≠d:=by
  rintro rfl;rw[ho]at e;cases e;rw[hd]at q;cases q
 exact⟨o',(hs.2 a z).trans e,c,n,q⟩
theorem KAt.keeps{h h':Heap}{d:Addr}{o:Obj}{es ep}(ho:h.get? d=some o)(hd:o.data=.dict es ep)(hs:fg d h h'):∀(s:KSg) {k:KG s}{v:bb},KAt h s k v->KAt h' s k v
 | .int,_,_,x=>x
 | .bool,_,_,x=>x
 | .many s,_,_,⟨a,vs,e,t,l⟩=>⟨a,vs,e,BY t ho hd hs,l.imp fun _ _ q=>KAt.keeps ho hd hs s q⟩
 | .two s t,_,_,⟨a,u,w,e,tt,l,m⟩=>⟨a,u,w,e,BY tt ho hd hs,KAt.keeps ho hd hs s l,KAt.keeps ho hd hs t m⟩
section
variable {prog:cz}{w:fy}{A:ft}{E:bb->bd->Prop}{s:bd}
theorem EQ{b:Bool}{Q:Int->bd->Prop}(h:Q (reduceHash (match b with|true=>1|false=>0)) { s with toks:=s.toks+1 }):bo (model prog w) A (pyHash (.bool b)) Q E s:=by
 refine W.pyHash_slot (T:="bool") rfl F.slot_bool_hash PySem.entry_int_hash (PySem.args_int_hash _) (beq_builtin_none _) (.inl rfl) ?_;cases b
 ·exact(show bo _ _ (do ret (<- mkInt 0)) _ _ s from ba (wpAny_mkInt (be ⟨_,_,rfl,h⟩)))
 ·exact(show bo _ _ (do ret (<- mkInt 1)) _ _ s from ba (wpAny_mkInt (be ⟨_,_,rfl,h⟩)))
theorem E9{a:Addr}{vs:Array bb}{Q:Int->bd->Prop}(ht:s.heap.IsTuple a vs)(hu:A.units<kq)(L:List (bb×Int×Nat))(hv:vs.toList=L.map (·.1))
  (hp:∀x∈L,∀(E':bb->bd->Prop) (s':bd) (Q':Int->bd->Prop),s'.heap=s.heap->Q' x.2.1 { s' with toks:=s'.toks+x.2.2 }->bo (model prog w) A.in1 (pyHash x.1) Q' E' s')
  (h:Q (reduceHash (kt (L.map (·.2.1)))) { s with toks:=s.toks+((L.map (·.2.2)).sum+1) }):bo (model prog w) A (pyHash (.ref a)) Q E s:=by
 have hT:s.TypeIs (.ref a) "tuple":=let ⟨o,e,c,_⟩:=ht;⟨o,e,c⟩;obtain⟨o,ho,hc,n,hd⟩:=ht;refine W.pyHash_slot (T:="tuple") hT F.slot_tuple_hash F.entry_tuple_hash (F.args_tuple_hash_1 _) (beq_builtin_none _) (.inr hu) ?_;show bo _ _ (Builtin.Tuple.tupleItemsOf (.ref a) >>= _) _ _ s;refine ba (wpAny_tupleItemsOf ho hd ?_);refine ba ?_;rw[<- Array.forIn_toList];refine wpAny_forIn_list _
  (fun rest (b:Array Int) s'=>∃done left,L=done++left/\rest=left.map (·.1)/\b.toList=done.map (·.2.1)/\s' = { s with toks:=s.toks+(done.map (·.2.2)).sum })
  _ ?_ ?_ _ _ ⟨[],L,rfl,hv,rfl,rfl⟩
 ·rintro x rest b s' ⟨done,left,e,hl,hb,rfl⟩;cases left with
  |nil=>simp at hl
  |cons y left=>
   rw[fm,qc]at hl;rw[hl.1];refine ba (hp y (by rw[e];simp) _ _ _ rfl ?_);have fin:∃done' left',L=done'++left'/\rest=left'.map (·.1)/\(b.push y.2.1).toList=done'.map (·.2.1)/\({ s with toks:=s.toks+(done.map (·.2.2)).sum+y.2.2 }:bd) = { s with toks:=s.toks+(done'.map (·.2.2)).sum } :=
    ⟨done++[y],left,by rw[e];simp,hl.2,by simp[hb],by simp[Nat.add_assoc]⟩
   first
    |exact be fin
    |exact ba (be (be fin))
 ·rintro b s' ⟨done,left,e,hl,hb,rfl⟩;cases left with
  |cons y left=>simp at hl
  |nil=>
   rw[jg]at e;subst e;show bo _ _ (retInt (kt b.toList)) _ _ _;rw[hb];exact(show bo _ _ (do ret (<- mkInt (kt (L.map (·.2.1))))) _ _ _ from ba (wpAny_mkInt (be ⟨_,_,rfl,by simpa[Nat.add_assoc]using h⟩)))
theorem tX:∀(g:KSg) {k:KG g}{v:bb}{A:ft}{E:bb->bd->Prop}{s:bd}{Q:Int->bd->Prop},A.units+g.dp<kq->KAt s.heap g k v->Q (khash g k) { s with toks:=s.toks+kdraw g k }->bo (model prog w) A (pyHash v) Q E s
 | .int,k,v,A,E,s,Q,_,x,h=>by
  obtain⟨t,rfl⟩:=ss x;exact wpAny_pyHash_int h
 | .bool,k,v,A,E,s,Q,_,x,h=>by
  rw[show v=.bool k from x];exact EQ h
 | .many g,k,v,A,E,s,Q,hu,⟨a,vs,e,t,l⟩,h=>by
  subst e;have aa:A.units+(g.dp+1)<kq:=hu;have z:∀(ks:List (KG g)) (us:List bb),AllK (KAt s.heap g) ks us->∃L:List (bb×Int×Nat),us=L.map (·.1)/\L.map (·.2.1)=ks.map (khash g)/\L.map (·.2.2)=ks.map (kdraw g)/\∀x∈L,∃k,KAt s.heap g k x.1/\x.2.1=khash g k/\x.2.2=kdraw g k:=by
   intro ks us q;induction q with
   |nil=>exact⟨[],rfl,rfl,rfl,yv⟩
   | @cons k u ks us q1 _ ih=>
    obtain⟨L,h1,h2,h3,h4⟩:=ih;refine⟨(u,khash g k,kdraw g k)::L,by rw[h1];rfl,by rw[fm,fm,h2],by rw[fm,fm,h3],fun x m=>?_⟩;rcases mem_cons.mp m with rfl|m
    ·exact⟨k,q1,rfl,rfl⟩
    ·exact h4 x m
  obtain⟨L,h1,h2,h3,h4⟩:=z k vs.toList l;refine E9 t yw L h1 (fun x m E' s' Q' eh hq=>?_) (by rw[h2,h3];exact h);obtain⟨k',q1,q2,q3⟩:=h4 x m;refine tX g (k:=k') (by show A.units+1+g.dp<kq;omega) (by rw[eh];exact q1) ?_;rw[<- q2,<- q3];exact hq
 | .two g g',k,v,A,E,s,Q,hu,⟨a,u,u',e,t,l,m⟩,h=>by
  subst e;have aa:A.units+(max g.dp g'.dp+1)<kq:=hu;refine E9 t yw [(u,khash g k.1,kdraw g k.1),(u',khash g' k.2,kdraw g' k.2)] rfl (fun x mx E' s' Q' eh hq=>?_) ?_
  ·simp only[ja,gt,or_false]at mx;rcases mx with rfl|rfl
   ·exact tX g (k:=k.1) (by show A.units+1+g.dp<kq;omega) (by rw[eh];exact l) hq
   ·exact tX g' (k:=k.2) (by show A.units+1+g'.dp<kq;omega) (by rw[eh];exact m) hq
  ·have h':Q (reduceHash (kt [khash g k.1,khash g' k.2])) { s with toks:=s.toks+(kdraw g k.1+kdraw g' k.2+1) }:=h;simpa[Nat.add_assoc]using h'
theorem NG(a b:Int):(a==b)=decide (a=b):=by by_cases z:a=b<;>simp[z]
theorem Fv(a b:Bool):(a==b)=decide (a=b):=by cases a<;>cases b<;>rfl
theorem AllK.length{α:Type}{F:α->bb->Prop}:∀{xs:List α}{vs:List bb},AllK F xs vs->xs.length=vs.length
 |_,_,.nil=>rfl
 |_,_,.cons _ l=>by rw[cx,cx,l.length]
theorem AllK.get{α:Type}{F:α->bb->Prop}:∀{xs:List α}{vs:List bb}{j:Nat}{v:bb},AllK F xs vs->vs[j]?=some v->∃x,xs[j]?=some x/\F x v
 |_,_,0,v,.cons a _,e=>by simp at e;subst e;exact⟨_,rfl,a⟩
 |_,_,j+1,v,.cons _ l,e=>by obtain⟨x,e1,e2⟩:=l.get (j:=j) (by simpa using e);exact⟨x,by simpa using e1,e2⟩
theorem Ha{α:Type}[DecidableEq α](x y:List α):((fh (min x.length y.length)).all (fun j=>decide (x[j]?=y[j]?))&&x.length==y.length)=decide (x=y):=by
 by_cases e:x=y
 ·subst e;simp
 ·rw[ff e,Bool.and_eq_false_iff];by_cases hl:x.length=y.length
  ·left;rw[<- Bool.not_eq_true,ox];intro h;refine e (List.ext_getElem? fun j=>?_);rcases lt_or_ge j x.length with hj|hj
   ·exact mw (h j (mem_range.mpr yw))
   ·rw[getElem?_eq_none hj,getElem?_eq_none yw]
  ·right;exact beq_eq_false_iff_ne.mpr hl
theorem MK{α:Type}[DecidableEq α]{F:α->bb->Prop}{A:ft}{s:bd}{a a':Addr}{x y:List α}{vs aa:Array bb}(l:AllK F x vs.toList)(l':AllK F y aa.toList)(t:s.heap.IsTuple a vs)(t':s.heap.IsTuple a' aa)(hu:A.units<kq)(ha:a≠a')
  (he:∀k k' u v,F k u->F k' v->PySem.SeqAt.EqAt A.in1 s u v (decide (k=k'))):PySem.SeqAt.EqAt A s (.ref a) (.ref a') (decide (x=y)):=by
 have c:=PySem.SeqAt.RcAt.tuples (A:=A) (e:=fun j=>decide (x[j]?=y[j]?)) t t' hu (fun j h1 h2=>by
  obtain⟨k,e1,k1⟩:=l.get (j:=j) (v:=vs[j]) (by simp[h1]);obtain⟨k',e2,k2⟩:=l'.get (j:=j) (v:=aa[j]) (by simp[h2]);have z:decide (x[j]?=y[j]?)=decide (k=k'):=by
   rw[e1,e2];by_cases q:k=k'<;>simp[q]
  show PySem.SeqAt.EqAt A.in1 s vs[j] aa[j] (decide (x[j]?=y[j]?));rw[z];exact he _ _ _ _ k1 k2)
 have n1:x.length=vs.size:=by rw[l.length,fu]
 have n2:y.length=aa.size:=by rw[l'.length,fu]
 rw[<- n1,<- n2,Ha]at c;exact PySem.SeqAt.EqAt.of_refs ha c
theorem NF{e:Nat->Bool}:(fh 2).all e=(e 0&&e 1):=by
 rw[show fh 2=[0,1]from rfl];simp
theorem u7:∀(g:KSg) {x y:KG g}{u v:bb}{A:ft}{s:bd},A.units+g.dp<kq->KAt s.heap g x u->KAt s.heap g y v->PySem.SeqAt.EqAt A s u v (decide (x=y))
 | .int,x,y,u,v,A,s,_,p,q=>by
  obtain⟨t,rfl⟩:=ss p;obtain⟨t',rfl⟩:=ss q;exact fun prog w E Q h=>wpAny_eqBool_int (by
   have z:((show Int from x)==(show Int from y))=decide (x=y):=NG x y;rw[z];exact h)
 | .bool,x,y,u,v,A,s,_,p,q=>by
  rw[show u=.bool x from p,show v=.bool y from q];have z:((show Bool from x)==(show Bool from y))=decide (x=y):=Fv x y;rw[<- z];exact PySem.SeqAt.EqAt.bool_bool _ _
 | .many g,x,y,u,v,A,s,hu,⟨a,vs,e,t,l⟩,⟨a',vs',e',t',l'⟩=>by
  subst e e';have aa:A.units+(g.dp+1)<kq:=hu;by_cases ha:a=a'
  ·subst ha;rw[yL t' t]at l';rw[fz (show x=y from AllK.inj (F:=KAt s.heap g) (fun _ _ _ p q=>KAt.inj g p q) l l')];exact PySem.SeqAt.EqAt.same _
  ·exact MK (F:=KAt s.heap g) l l' t t' yw ha fun k k' u v p q=>u7 g (by show A.units+1+g.dp<kq;omega) p q
 | .two g g',x,y,u,v,A,s,hu,⟨a,p,q,e,t,l,m⟩,⟨a',p',q',e',t',l',m'⟩=>by
  subst e e';have aa:A.units+(max g.dp g'.dp+1)<kq:=hu;by_cases ha:a=a'
  ·subst ha;rw[fz (show x=y from KAt.inj (.two g g') (v:=.ref a) ⟨a,p,q,rfl,t,l,m⟩ ⟨a,p',q',rfl,t',l',m'⟩)];exact PySem.SeqAt.EqAt.same _
  ·have c:=PySem.SeqAt.RcAt.tuples (A:=A) (e:=fun j=>if j=0 then decide (x.1=y.1)else decide (x.2=y.2)) t t' yw (fun j h1 h2=>by
    have:j=0\/j=1:=by have:j<2:=h1;omega
    rcases this with rfl|rfl
    ·exact u7 g (by show A.units+1+g.dp<kq;omega) l l'
    ·exact u7 g' (by show A.units+1+g'.dp<kq;omega) m m')
   have e:decide (x=y)=((fh (min (#[p,q]:Array bb).size (#[p',q']:Array bb).size)).all (fun j=>if j=0 then decide (x.1=y.1)else decide (x.2=y.2))&&(#[p,q]:Array bb).size==(#[p',q']:Array bb).size):=by
    show _=((fh 2).all _&&true);rw[NF,um];obtain⟨x1,x2⟩:=x;obtain⟨y1,y2⟩:=y;show decide ((x1,x2)=(y1,y2))=(decide (x1=y1)&&decide (x2=y2));by_cases z1:x1=y1<;>by_cases z2:x2=y2<;>simp[z1,z2]
   rw[e];exact PySem.SeqAt.EqAt.of_refs ha c
theorem B4{n:Nat}{a:Addr}{vs:Array bb}{A:ft}{E:bb->bd->Prop}{s:bd}{Q:Bool->bd->Prop}(ht:s.heap.IsTuple a vs)(hq:∀v∈vs.toList,∀(E':bb->bd->Prop) (Q':Bool->bd->Prop),Q' true s->bo (model prog w) A (eqIsQuiet n v) Q' E' s)(h:Q true s):bo (model prog w) A (eqIsQuiet (n+1) (.ref a)) Q E s:=by
 have hT:s.TypeIs (.ref a) "tuple":=let ⟨o,e,c,_⟩:=ht;⟨o,e,c⟩;obtain⟨o,ho,hc,m,hd⟩:=ht;unfold eqIsQuiet;refine ba (wpAny_specialOf hT F.slot_tuple_eq.lookup ?_);show bo _ _ (isInstance (.ref a) (.type "tuple") >>= _) _ _ s;refine ba (kl hT isSubtype_tuple_tuple ?_);simp only[Bool.not_true,jm,if_false];refine ba (iy ho hd ?_);refine ba ?_;show bo _ _ (forIn vs _ _) _ _ s;rw[<- Array.forIn_toList];refine wpAny_forIn_list _ (fun rest r s'=>r.1=none/\s'=s/\∀v∈rest,v∈vs.toList) _ ?_ ?_ _ _ ⟨rfl,rfl,fun v m=>m⟩
 ·rintro v rest r s' ⟨hr,rfl,q⟩;refine ba (hq v (q v cp) _ _ ?_);simp only[Bool.not_true,jm,if_false];exact be ⟨rfl,rfl,fun u z=>q u (bq _ z)⟩
 ·rintro⟨r1,r2⟩ s' ⟨hr,rfl,_⟩;simp only at hr;subst hr;exact be h
theorem sP:∀(n:Nat) (g:KSg) {k:KG g}{v:bb}{A:ft}{E:bb->bd->Prop}{s:bd}{Q:Bool->bd->Prop},g.dp<=n->KAt s.heap g k v->Q true s->bo (model prog w) A (eqIsQuiet n v) Q E s
 |n,.int,k,v,A,E,s,Q,_,x,h=>by
  obtain⟨t,rfl⟩:=ss x;rw[eqIsQuiet_byValue n rfl];exact be h
 |n,.bool,k,v,A,E,s,Q,_,x,h=>by
  rw[show v=.bool k from x,eqIsQuiet_byValue n rfl];exact be h
 | 0,.many g,k,v,A,E,s,Q,hn,x,h=>absurd (show g.dp+1<=0 from hn) yw
 | 0,.two g g',k,v,A,E,s,Q,hn,x,h=>absurd (show max g.dp g'.dp+1<=0 from hn) yw
 |n+1,.many g,k,v,A,E,s,Q,hn,⟨a,vs,e,t,l⟩,h=>by
  have z:g.dp+1<=n+1:=hn;subst e;refine B4 t (fun v m E' Q' hq=>?_) h;obtain⟨j,hj⟩:=mem_iff_getElem?.mp m;obtain⟨k',_,q⟩:=l.get hj;exact sP n g yw q hq
 |n+1,.two g g',k,v,A,E,s,Q,hn,⟨a,u,u',e,t,l,m⟩,h=>by
  have z:max g.dp g'.dp+1<=n+1:=hn;subst e;refine B4 t (fun v mv E' Q' hq=>?_) h;simp only[ja,gt,or_false]at mv;rcases mv with rfl|rfl
  ·exact sP n g yw l hq
  ·exact sP n g' yw m hq
end
def lW(prog:cz)(w:fy)(g:KSg)(hg:g.dp<=8):HeapKind prog w (KG g) where
 is:=fun h k a=>KAt h g k (.ref a)
 hash:=khash g
 draws:=kdraw g
 room:=fun A=>A.units+g.dp<kq
 inj:=fun hx hy=>KAt.inj g hx hy
 keeps:=fun x ho hd hs=>x.keeps ho hd hs
 pyHash:=fun hu hk h=>tX g hu hk h
 eqBool:=fun hu hx hy h=>u7 g hu hx hy _ _ _ _ h
 quiet:=fun hk h=>sP 8 g hg hk h
section
variable {prog:cz}{w:fy}{K:Type} [DecidableEq K] {knd:HeapKind prog w K}
theorem ON{A:ft}{E:bb->bd->Prop}{s:bd}{d a:Addr}{xs:List (K×Addr×bb)}{k:K}{v:bb}{Q:bb->bd->Prop}(hu:knd.room A)(q:knd.is s.heap k a)(hm:s.heap.DictOfH knd d xs)(hsz:xs.length<=dn)
  (h1:∀p,ua xs k=some p->Q p.2 { s with toks:=s.toks+knd.draws k })
  (h2:ua xs k=none->∀h',h'.DictOfH knd d (xs++[(k,a,v)])->fg d s.heap h'->Q v { s with heap:=h',toks:=s.toks+knd.draws k }):bo (model prog w) A (dictSetDefault d (.ref a) v) Q E s:=by
 obtain⟨o,es,ep,ho,hc,hd,he,ab,hn⟩:=hm;unfold dictSetDefault
 try with_reducible refine iq ?_
 refine ba (knd.pyHash hu q (ba (wpAny_dictFind_heap (s:={ s with toks:=s.toks+knd.draws k }) hu q ho hd he ab hn ?_ ?_)))
 ·intro aa;have z:k∉xs.map (·.1):=not_mem_keys_of_get aa;refine ba (pf (ba (wpAny_updateDictKeys (hz:=by have e:=size_of_entries he;omega) (s:={ s with toks:=s.toks+knd.draws k }) ho hd (be (h2 (atKey_none_of_get aa) _ ⟨_,_,ep+1,kj _ ho (Obj.isFreed_of_dict (Obj.data_mapDictKeys hd _)),hc.mapDictKeys _,Obj.data_mapDictKeys hd _,?_,?_,?_⟩ (ie ..))))))
  ·simp[he,entryOfKey]
  ·intro x hx;rcases mem_append.mp hx with hx|hx
   ·exact knd.keeps (ab x hx) ho hd (ie ..)
   ·rw[mem_singleton.mp hx];exact knd.keeps q ho hd (ie ..)
  ·rw[gw,nodup_append];refine⟨hn,yv,fun x hx y hy e=>?_⟩;simp only[fm,vb,qi]at hy;subst hy;exact z (e▸hx)
 ·intro j p hj;refine ba (wpAny_dictEntries (s:={ s with toks:=s.toks+knd.draws k }) ho hd ?_);rw[entry_at he j,hj];exact ba (pf (be (h1 p (atKey_of_get hn hj))))
theorem M9{d a:Addr}(hd:(d==jt)=false)(v:bb):
  MeetsIn prog w (ny.«dict.setdefault» ⟨[.ref d,.ref a,v],[]⟩) (fun A R s=>knd.room A.in1/\∃(k:K) (xs:List (K×Addr×bb)),knd.is s.heap k a/\s.heap.DictOfH knd d xs/\xs.length<=dn/\(∀p,ua xs k=some p->R (.ok (.ret p.2)) { s with toks:=s.toks+knd.draws k }) /\
   (ua xs k=none->∀h',h'.DictOfH knd d (xs++[(k,a,v)])->fg d s.heap h'->R (.ok (.ret v)) { s with heap:=h',toks:=s.toks+knd.draws k })):=
 .of_wp fun A R s ⟨hu,k,xs,hk,hm,hsz,h1,h2⟩=>by
  unfold ny.«dict.setdefault» Builtin.Dict.keyAndDefault;refine ba (ba (wpAny_notOrdered_dict hm.typeIs ?_));show bo _ _ (pure (d,dw a,some v)) _ _ s;refine be ?_;simp only[hd,jm,if_false];exact ba (ON hu hk hm hsz (fun p e=>be ⟨_,rfl,h1 p e⟩) fun e h' d' sb=>be ⟨v,rfl,h2 e h' d' sb⟩)
end
section
variable {prog:cz}{w:fy}{A:ft}{E:bb->bd->Prop}{s:bd}
structure DOb(h:Heap)(d:Addr)(ob:Obj)(es:Array uf)(ep:Nat):Prop where
 at_:h.get? d=some ob
 ex:ob.ExactDict
 dt:ob.data=.dict es ep
theorem OT{d:Addr}(hd:(d==jt)=false):MeetsIn prog w (ny.«dict.items» ⟨[.ref d],[]⟩) (fun _ R s=>s.TypeIs (.ref d) "dict" /\
   R (.ok (.ret (.ref s.heap.objs.size))) { s with heap:=s.heap.push { cls:=.type "dict_items",data:=.fields #[.ref d] } }):=
 .of_wp fun A R s ⟨hT,h⟩=>by
  unfold ny.«dict.items» Builtin.Dict.noArgs Builtin.Dict.showsAll;refine ba (ba (wpAny_notOrdered_dict hT ?_));show bo _ _ (pure d) _ _ s;refine be ?_;show bo _ _ ((if (d==jt)=true then _ else _) >>= _) _ _ s;rw[cr (by rw[hd];exact gj)];exact ba (be (ba (gb (be ⟨_,rfl,h⟩))))
theorem NV{v d:Addr}{ob:Obj}{es:Array uf}{ep:Nat}{Q:bb->bd->Prop}(hv:s.heap.IsItemsView v d)(hm:DOb s.heap d ob es ep)
  (hQ:Q (.ref s.heap.objs.size) { s with heap:=s.heap.push { cls:=.type "dict_itemiterator",data:=.fields #[.none,.bool false,.ref d,.int 0 0,.int es.size 0,.int ep 0,.none,.none] } }):bo (model prog w) A (pyIter (.ref v)) Q E s:=by
 obtain⟨ov,z,ab,aa⟩:=id hv;have q:Builtin.Dict_items.ownsTuple "dict_itemiterator" = true:=by decide
 refine wpAny_pyIter_slot hv.typeIs F.slot_dict_items_iter (ia F.slot_dict_items_iter hv.typeIs F.entry_dict_items_iter ?_ (F.args_dict_items_iter_1 _));unfold ny.«dict_items.__iter__» Builtin.Dict_items.dictOf Builtin.Dict_items.newIterator;refine ba (be (ba (ba (jf z aa (x:=.ref d) rfl (be (ba (ba (wpAny_dictEntries hm.at_ hm.dt (ba (wpAny_dictEpoch hm.at_ hm.dt ?_)))))))))) ;simp only[q,if_true];refine gb (be ⟨_,rfl,"dict_itemiterator",_,⟨_,bv _ rfl,rfl⟩,F.slot_dict_itemiterator_next.lookup,?_⟩) (by simp only[sizeOk,Builtin.Dict_items.ownedTupleFields,fk,ck,cx,tp,nq];omega);simpa[kh,Builtin.Dict_items.ownedTupleFields]using hQ
theorem LU{it d:Addr}{ob:Obj}{es:Array uf}{i ep:Nat}{e:uf}{ok ov:bb}{Q:Option bb->bd->Prop}(z:tz s.heap it d i es.size ep ok ov)(hm:DOb s.heap d ob es ep)(hx:es[i]?=some e)
  (hQ:∀h',IsItemIterOut h' it d (i+1) es.size ep e.key e.val s.heap.objs.size->h'.get? s.heap.objs.size=some { cls:=.type "tuple",data:=.seq #[e.key,e.val] }->h'.objs.size=s.heap.objs.size+1 ->
   (∀b o,b≠it->s.heap.get? b=some o->h'.get? b=some o)->Q (some (.ref s.heap.objs.size)) { s with heap:=h' }):bo (model prog w) A (nv (.ref it)) Q E s:=by
 obtain⟨hp,g,dr,tk,os⟩:=s;have hT:vk ⟨hp,g,dr,tk,os⟩ (.ref it) "dict_itemiterator":=⟨_,z,rfl⟩;have ab:Builtin.Dict_items.ownsTuple "dict_itemiterator" = true:=by decide
 have ac:i<es.size:=(Array.getElem?_eq_some_iff.mp hx).1;unfold nv;refine ba (qj (gx (name:=ju "__next__") hT F.slot_dict_itemiterator_next (ia F.slot_dict_itemiterator_next hT F.entry_dict_itemiterator_next ?_ (F.args_dict_itemiterator_next_1 _))));refine ba (be (ba (ba ?_)))
 first|refine ba (wpAny_typeNameOfWhole_itemiter hT (be ?_))|refine ba (wpAny_typeNameOf_itemiter hT (be ?_))
 refine ba (tw z rfl ?_);simp only[ab,if_true];show bo _ _ (if (dw d==jr)=true then _ else _) _ _ _;rw[cr (show ¬((dw d==jr)=true)from gj)];refine ba (be (ba (wpAny_dictEntries hm.at_ hm.dt ?_)));rw[cr yv];refine ba (be (ba (wpAny_dictEpoch hm.at_ hm.dt ?_)));rw[cr yv];refine be ?_;simp only[show ¬((i:Int)<0)from by omega,if_false,gn,hx];refine ba ?_
 first|refine ba (wpAny_typeNameOfWhole_itemiter hT (be ?_))|refine ba (wpAny_typeNameOf_itemiter hT (be ?_))
 refine ba (wpAny_isOneOf_itemiter hT ?_);show bo _ _ (setField (.ref it) 3 (kh ((i:Int)+1)) >>= _) _ _ ⟨hp,g,dr,tk,os⟩;refine ba (gf z yv fun g1 z1 b1=>?_);replace b1:fg it hp g1:=b1;replace z1:tz g1 it d (i+1) es.size ep ok ov:=by
  have e:((i+1:Nat):Int)=(i:Int)+1:=yw
  unfold tz;rw[e];simpa[kh]using z1
 have aa:vk ⟨g1,g,dr,tk,os⟩ (.ref it) "dict_itemiterator":=⟨_,z1,rfl⟩;refine ba (iq (ba (wpAny_isOneOf_itemiter aa (ba (wpAny_isOneOf_itemiter aa ?_)))));show bo _ _ (Builtin.Dict_items.pairFromOwner (.ref it) 6 e.key e.val) _ _ ⟨g1,g,dr,tk,os⟩;unfold Builtin.Dict_items.pairFromOwner;refine ba (wpAny_newTuple ?_);have z2:tz (g1.push { cls:=.type "tuple",data:=.seq #[e.key,e.val] }) it d (i+1) es.size ep ok ov:=bf _ z1;have sz:g1.objs.size=hp.objs.size:=b1.1;have il:it<hp.objs.size:=fj z;obtain⟨g2,e2⟩:∃g2,g2=g1.push { cls:=.type "tuple",data:=.seq #[e.key,e.val] }:=⟨_,rfl⟩;rw[<- e2]at z2 ⊢;have t2:g2.get? hp.objs.size=some { cls:=.type "tuple",data:=.seq #[e.key,e.val] }:=by rw[e2,<- sz];exact bv _ rfl
 have s2:g2.objs.size=hp.objs.size+1:=by rw[e2,qa,sz]
 have k2:∀b o,b≠it->hp.get? b=some o->g2.get? b=some o:=fun b o hb q=>by rw[e2];exact bf _ (b1.extBut b o hb q)
 show bo _ _ (Builtin.Dict_items.ownedTupleIsFree (.ref it) >>= _) _ _ ⟨g2,g,dr,tk,os⟩;rw[sz];clear e2 z1 b1 aa sz g1;unfold Builtin.Dict_items.ownedTupleIsFree;refine ba (ba (jf z2 rfl (x:=.none) rfl (be ?_)));simp only[if_true];refine ba (jf z2 rfl (x:=ok) rfl (ba (jf z2 rfl (x:=ov) rfl ?_)));refine ba (gf z2 yv fun g3 z3 b3=>?_);replace b3:fg it g2 g3:=b3;replace z3:tz g3 it d (i+1) es.size ep e.key ov:=z3;refine ba (gf z3 yv fun g4 z4 b4=>?_);replace b4:fg it g3 g4:=b4;replace z4:tz g4 it d (i+1) es.size ep e.key e.val:=z4;refine ba (gf z4 yv fun g5 z5 b5=>?_);replace b5:fg it g4 g5:=b5;replace z5:IsItemIterOut g5 it d (i+1) es.size ep e.key e.val hp.objs.size:=z5;refine ba (gf z5 yv fun g6 z6 b6=>?_);replace b6:fg it g5 g6:=b6;replace z6:IsItemIterOut g6 it d (i+1) es.size ep e.key e.val hp.objs.size:=z6;have all:∀b o,b≠it->g2.get? b=some o->g6.get? b=some o:=fun b o hb q=>b6.extBut b o hb (b5.extBut b o hb (b4.extBut b o hb (b3.extBut b o hb q)));exact ba (nu (be (be ⟨_,rfl,be (hQ g6 z6 (all _ _ (uz il) t2) (by show g6.objs.size=hp.objs.size+1;rw[b6.1,b5.1,b4.1,b3.1,s2]) fun b o hb q=>all b o hb (k2 b o hb q))⟩)))
theorem Ma{it d:Addr}{ob:Obj}{es:Array uf}{i ep:Nat}{ok ov:bb}{Q:Option bb->bd->Prop}(hh:A.handled=none)(q:tz s.heap it d i es.size ep ok ov)(hm:DOb s.heap d ob es ep)(hx:es.size<=i)
  (hQ:∀h',Heap.ExtBut it s.heap h'->Q none { s with heap:=h' }):bo (model prog w) A (nv (.ref it)) Q E s:=by
 have hT:s.TypeIs (.ref it) "dict_itemiterator":=⟨_,q,rfl⟩;have z:Builtin.Dict_items.ownsTuple "dict_itemiterator" = true:=by decide
 unfold nv;refine ba (qj (gx (name:=ju "__next__") hT F.slot_dict_itemiterator_next (ia F.slot_dict_itemiterator_next hT F.entry_dict_itemiterator_next ?_ (F.args_dict_itemiterator_next_1 _))));refine ba (be (ba (ba ?_)))
 first|refine ba (wpAny_typeNameOfWhole_itemiter hT (be ?_))|refine ba (wpAny_typeNameOf_itemiter hT (be ?_))
 refine ba (tw q rfl ?_);simp only[z,if_true];show bo _ _ (if (dw d==jr)=true then _ else _) _ _ s;rw[cr (show ¬((dw d==jr)=true)from gj)];refine ba (be (ba (wpAny_dictEntries hm.at_ hm.dt ?_)));rw[cr yv];refine ba (be (ba (wpAny_dictEpoch hm.at_ hm.dt ?_)));rw[cr yv];refine be ?_;simp only[show ¬((i:Int)<0)from by omega,if_false,gn,Array.getElem?_eq_none hx];refine ba ?_
 first|refine ba (wpAny_typeNameOfWhole_itemiter hT (be ?_))|refine ba (wpAny_typeNameOf_itemiter hT (be ?_))
 show bo _ _ (setField (.ref it) 2 .none >>= _) _ _ s;refine ba (wpAny_setField q rfl yv ?_);show bo _ _ (newExc (.type "StopIteration") [] >>= _) _ _ _;simp only[newExc,newTuple];refine ba (ba (gb ?_ (by size_fits)));refine ba (m:=tq _ _) (wpAny_of_eq (a:=jr) (by first|rfl|(simp only[tq];rfl)) ?_);refine gb ?_ (by size_fits);simp only[raiseNew];refine ba (wpAny_handled ?_);rw[show A.in1.handled=none from hh];refine ba (be (wpAny_throw ?_));refine ba (kl (T:="StopIteration") (b:=true) ⟨_,bv _ rfl,rfl⟩ isSubtype_stop ?_);exact be (hQ _ (((ie ..).extBut.push _).push _))
end
theorem FW{g:KSg}{h:Heap}{H:Hp}(f:∀{k:KG g}{v:V}{u:bb},Has H (kdat g k) v->RelV v u->KAt h g k u):∀{ks:List (KG g)}{vs:List V}{us:List bb},HasL H (ks.map (kdat g)) vs->Vals vs us->AllK (KAt h g) ks us
 | [],vs,us,l,r=>by rw[zA.mp l]at r;cases r;exact .nil
 |k::ks,vs,us,l,r=>by
  obtain⟨v,t,rfl,q,l⟩:=zp.mp l;cases r with
  |cons r1 r2=>exact .cons (f q r1) (FW f l r2)
theorem gK{P:cz}{w:fy}{H:Hp}{h:Heap}(ok:HOk P w H h):∀(g:KSg) {k:KG g}{v:V}{u:bb},Has H (kdat g k) v->RelV v u->KAt h g k u
 | .int,k,v,u,q,r=>by
  rw[eY.mp q]at r;obtain⟨t,rfl⟩:=r;exact beq_self_eq_true (α:=Int) k
 | .bool,k,v,u,q,r=>by
  rw[fE.mp q]at r;exact r
 | .many g,k,v,u,q,r=>by
  obtain⟨a,vs,rfl,ea,l⟩:=cJ.mp q;obtain rfl:u=dw a:=r;obtain⟨_,z,rv,o,e1,e2,n,e3⟩:=(show ObjOk P w H h a (.tup vs)from ok a _ ea);exact⟨a,z.toArray,rfl,⟨o,e1,e2,n,e3⟩,FW (fun q r=>gK ok g q r) l rv⟩
 | .two g g',k,v,u,q,r=>by
  obtain⟨a,vs,rfl,ea,l⟩:=cJ.mp q;obtain rfl:u=dw a:=r;obtain⟨v1,t1,rfl,q1,l⟩:=zp.mp l;obtain⟨v2,t2,rfl,q2,l⟩:=zp.mp l;obtain rfl:=zA.mp l;obtain⟨_,z,rv,o,e1,e2,n,e3⟩:=(show ObjOk P w H h a (.tup [v1,v2])from ok a _ ea);cases rv with
  |cons r1 rv=>
   cases rv with
   |cons r2 rv=>
    cases rv;exact⟨a,_,_,rfl,⟨o,e1,e2,n,e3⟩,gK ok g q1 r1,gK ok g' q2 r2⟩
theorem mK{P:cz}{w:fy}{H:Hp}{h:Heap}{a:Addr}{ob:Obj}{g:KSg}{xs:List (KG g×Addr×bb)}(hg:g.dp<=8)(ok:HOk P w H h)(e:H a=some (obO a ob))(pd:PDict g ob xs)(hk:∀x∈xs,Has H (kdat g x.1) (.ref x.2.1)):h.DictOfH (lW P w g hg) a xs:=by
 obtain⟨e1,_,_⟩:=(show ObjOk P w H h a (obO a ob)from ok a _ e);obtain⟨hx,es,ep,e2,e3,e4⟩:=pd;exact⟨ob,es,ep,e1,hx,e2,e3,fun x m=>gK ok g (hk x m) rfl,e4⟩
theorem A7{P:cz}{w:fy}{H:Hp}{h:Heap}{a:Addr}{ob:Obj}(e:h.get? a=some ob):ObjOk P w H h a (obO a ob):=⟨e,⟨ob,e⟩,fun h1 h2 q k=>k ob q⟩
section
variable {X:Cx}{zi:List (Addr×Obj)}{σ:St}{H:Hp}{s:bd}{a b:Addr}{ob:Obj}{g:KSg}{xs:List (KG g×Addr×bb)}{k:KG g}{r:bb}{v:V}{A:ft}{E:bb->bd->Prop}
theorem HF{Q:bb->bd->Prop}(hg:g.dp<=8)(hu:A.units+64<kq)(I:Inv X zi σ H s)(e:H a=some (obO a ob))(hd:(a==jt)=false)(pd:PDict g ob xs)(hk:∀x∈xs,Has H (kdat g x.1) (.ref x.2.1))(hz:xs.length<1000)(hy:Has H (kdat g k) (.ref b))
  (h1:∀p s',ua xs k=some p->Inv X zi σ H s'->Q p.2 s') (h2:ua xs k=none->∀ob' s',PDict g ob' (xs++[(k,b,r)])->Inv X zi σ (upd H a (obO a ob')) s'->Q r s'):
  bo (model X.prog X.w) A (call (.builtin "dict.setdefault") [.ref a,.ref b,r]) Q E s:=by
 have dd:=mK hg I.hok e pd hk;refine call_meetsIn PySem.F.slot_dict_setdefault dd.typeIs PySem.F.entry_dict_setdefault (PySem.F.args_dict_setdefault_3 _ _ _) (M9 (knd:=lW X.prog X.w g hg) hd r) ⟨?_,k,xs,gK I.hok g hy rfl,dd,jn (small1000 (jn hz)),fun p ep=>h1 p _ ep (I.tok _),fun en h' q hs=>?_⟩
 ·show A.units+1+g.dp<kq;omega
 ·obtain⟨o',es,ep,q1,q2,q3,q4,_,q5⟩:=q;exact h2 en o' _ ⟨q2,es,ep,q3,q4,q5⟩ (Bj I (by rw[e];exact sy) hs ⟨o',q1⟩ (A7 q1))
theorem MR{Q:bb->bd->Prop}(hg:g.dp<=8)(hu:A.units+64<kq)(I:Inv X zi σ H s)(e:H a=some (obO a ob))(hd:(a==jt)=false)(pd:PDict g ob xs)(hk:∀x∈xs,Has H (kdat g x.1) (.ref x.2.1))(hy:Has H (kdat g k) (.ref b))
  (h1:∀s',Inv X zi σ H s'->Q (((ua xs k).map (·.2)).getD .none) s'):
  bo (model X.prog X.w) A (call (.builtin "dict.get") [.ref a,.ref b]) Q E s:=by
 have dd:=mK hg I.hok e pd hk;refine call_meetsIn PySem.F.slot_dict_get dd.typeIs PySem.F.entry_dict_get (PySem.F.args_dict_get_2 _ _) (meetsH_dict_get (lW X.prog X.w g hg) a b hd) ⟨?_,k,xs,gK I.hok g hy rfl,dd,h1 _ (I.tok _)⟩;show A.units+1+g.dp<kq;omega
end
def KSg.tup:KSg->Bool
 | .int=>false
 | .bool=>false
 |_=>true
theorem nJ{H:Hp}{g:KSg}(hg:g.tup=true){k:KG g}{v:V}(q:Has H (kdat g k) v):∃b,v=.ref b:=by
 cases g with
 |int=>cases hg
 |bool=>cases hg
 |many g=>obtain⟨b,_,rfl,_⟩:=cJ.mp q;exact⟨b,rfl⟩
 |two g g'=>obtain⟨b,_,rfl,_⟩:=cJ.mp q;exact⟨b,rfl⟩
def ob0:Obj:={ cls:=.type "dict",data:=.dict #[] }
theorem pd0(g:KSg):PDict g ob0 []:=⟨⟨rfl,rfl,rfl⟩,#[],0,rfl,rfl,ux⟩
def vF:TE:=fun _ H Q=>∀p,H p=none->(p==jt)=false->Q (.ref p) (upd H p (obO p ob0))
def GAt(H:Hp)(a:Addr)(g:KSg)(ob:Obj)(xs:List (KG g×Addr×bb)):Prop:=H a=some (obO a ob)/\(a==jt)=false/\PDict g ob xs/\∀x∈xs,Has H (kdat g x.1) (.ref x.2.1)
def GX(g:KSg)(td ty tx:TE):TE:=fun σ H Q=>td σ H fun x H1=>∃a,x=.ref a/\IsD H1 a/\ty σ H1 fun y H2=>tx σ H2 fun z H3=>∃ob xs k,GAt H3 a g ob xs/\xs.length<1000/\Has H3 (kdat g k) y/\(∀p,ua xs k=some p->∃v,RelV v p.2/\Q v H3)/\(ua xs k=none->∀ob' b r,y=.ref b->RelV z r->PDict g ob' (xs++[(k,b,r)])->Q z (upd H3 a (obO a ob')))
def B3(g:KSg)(td ty:TE):TE:=fun σ H Q=>td σ H fun x H1=>∃a,x=.ref a/\IsD H1 a/\ty σ H1 fun y H2=>∃ob xs k,GAt H2 a g ob xs/\Has H2 (kdat g k) y/\(∀p,ua xs k=some p->∃v,RelV v p.2/\Q v H2)/\(ua xs k=none->Q .non H2)
section
variable {X:Cx}{pos apos cpos:Pos}{o e f:Expr}{td ty tx:TE}
theorem FO:PE X (.Dict [] [] pos) vF:=fun zi s σ H Q I h=>
 wpAny_Dict_empty ⟨.ref s.heap.objs.size,_,I.laid (a:=s.heap.objs.size) (o:=obO s.heap.objs.size ob0) (t':=s.toks) (fun _ _ q=>bf _ q) (dh _) (A7 (bv _ rfl)),rfl,h _ (I.hok.fresh (dh _)) (beq_eq_false_iff_ne.mpr (gq (ge I.big)))⟩
theorem Kc{g:KSg}(hg:g.dp<=8)(ht:g.tup=true)(hu:X.A.units+64<kq)(ho:PE X o td)(he:PE X e ty)(hf:PE X f tx)(m:M2 X o "setdefault" apos e f cpos):PE X (.Call (.Attribute o "setdefault" apos) [e,f] [] cpos) (GX g td ty tx):=by
 intro zi s σ H Q I h;refine wpAny_Call_method m.base m.few m.line PySem.F.plainAttrs_dict PySem.F.slot_dict_setdefault PySem.F.type_dict_setdefault (thn (ho zi s σ H _ I h) fun u s1 ⟨x,H1,I1,rx,a,ex,d,q1⟩=>?_);subst ex;obtain rfl:u=dw a:=rx;obtain⟨t1,t2,_⟩:=EN I1 d;refine⟨t1,t2,?_⟩;rw[m.trees];refine Calls.callWith_builtin rfl (Calls.evalArgs_plain (oz (thn (he zi s1 σ H1 _ I1 q1) fun iv s2 ⟨y,H2,I2,ry,q2⟩=>
  oz (thn (hf zi s2 σ H2 _ I2 q2) fun fv s3 ⟨z,H3,I3,rz,ob,xs,k,⟨ga,gd,gp,gk⟩,hz,hy,q3,q4⟩=>su ?_))))
 obtain⟨b,rfl⟩:=nJ ht hy;obtain rfl:iv=dw b:=ry;refine HF hg hu I3 ga gd gp gk hz hy (fun p s' ep I4=>?_) fun en aa s' ab I4=>⟨z,_,I4,rz,q4 en aa b fv rfl rz ab⟩;obtain⟨v,rv,q⟩:=q3 p ep;exact⟨v,H3,I4,rv,q⟩
theorem Mv{g:KSg}(hg:g.dp<=8)(ht:g.tup=true)(hu:X.A.units+64<kq)(ho:PE X o td)(he:PE X e ty)(m:M1 X o "get" apos e cpos):PE X (.Call (.Attribute o "get" apos) [e] [] cpos) (B3 g td ty):=by
 intro zi s σ H Q I h;refine wpAny_Call_method m.base m.few m.line PySem.F.plainAttrs_dict PySem.F.slot_dict_get PySem.F.type_dict_get (thn (ho zi s σ H _ I h) fun u s1 ⟨x,H1,I1,rx,a,ex,d,q1⟩=>?_);subst ex;obtain rfl:u=dw a:=rx;obtain⟨t1,t2,_⟩:=EN I1 d;refine⟨t1,t2,?_⟩;rw[m.trees];refine Calls.callWith_builtin rfl (Calls.evalArgs_plain (oz (thn (he zi s1 σ H1 _ I1 q1) fun iv s2 ⟨y,H2,I2,ry,ob,xs,k,⟨ga,gd,gp,gk⟩,hy,q3,q4⟩=>su ?_)));obtain⟨b,rfl⟩:=nJ ht hy;obtain rfl:iv=dw b:=ry;refine MR hg hu I2 ga gd gp gk hy fun s' I4=>?_;cases ek:ua xs k with
 |none=>exact⟨.non,H2,I4,rfl,q4 ek⟩
 |some p=>
  obtain⟨v,rv,q⟩:=q3 p ek;exact⟨v,H2,I4,rv,q⟩
end
abbrev VE:List (V×V)->List uf->Prop:=Paired fun p e=>RelV p.1 e.key/\RelV p.2 e.val
theorem VE.get{vs:List (V×V)}{es:List uf}(r:VE vs es):∀{i:Nat}{p:V×V},vs[i]?=some p->∃e,es[i]?=some e/\RelV p.1 e.key/\RelV p.2 e.val:=by
 induction r with
 |nil=>intro i p e;simp at e
 | @cons p q ps qs h t ih=>
  intro i x e;cases i with
  |zero=>simp at e;subst e;exact⟨q,rfl,h⟩
  |succ i=>obtain⟨u,e1,e2⟩:=ih (i:=i) (p:=x) (by simpa using e);exact⟨u,by simpa using e1,e2⟩
theorem VE.length{vs:List (V×V)}{es:List uf}(r:VE vs es):vs.length=es.length:=by
 induction r with
 |nil=>rfl
 |cons _ _ ih=>rw[cx,cx,ih]
def ItiG(a:Addr)(ob:Obj)(vs:List (V×V)):It:=⟨fun i H=>i<vs.length/\H a=some (obO a ob),fun i H x H'=>∃p b,vs[i]?=some p/\H b=none/\x=.ref b/\H'=upd H b (.tup [p.1,p.2]),fun i H=>vs.length<=i/\H a=some (obO a ob)⟩
def tnG(it a:Addr)(n ep:Nat)(i:Nat)(h:Heap):Prop:=∃ok ov,tz h it a i n ep ok ov
theorem wL{P:cz}{w:fy}{H:Hp}{h:Heap}{a:Addr}{ob:Obj}(ok:HOk P w H h)(e:H a=some (obO a ob)):h.get? a=some ob:=(show ObjOk P w H h a (obO a ob)from ok a _ e).1
theorem MZ{P:cz}{w:fy}{K:cq}{elts:List Expr}{n:Nat}{tpos:Pos}(a it:Addr)(ob:Obj)(vs:List (V×V))(es:Array uf)(ep:Nat)(hx:ob.ExactDict)(hd:ob.data=.dict es ep)(ve:VE vs es.toList):Turn P w K (.Tuple elts n tpos) (ItiG a ob vs) [it] it (tnG it a es.size ep) where
 mem:=by simp
 obj:=fun i h ⟨_,_,st⟩ b hb=>by
  have e:b=it:=by simpa using hb
  subst e;exact⟨_,st,fun v z=>by cases z⟩
 keep:=fun i h h' ⟨ok,ov,st⟩ k=>⟨ok,ov,k it yv _ st⟩
 item:=by
  intro X hP hw hK hc i zi s σ H E I hf st hg;subst hP hw hK;obtain⟨ok,ov,st⟩:=st;obtain⟨hi,ea⟩:=hg;obtain⟨e,ee,r1,r2⟩:=ve.get (bn hi);refine LU st ⟨wL I.hok ea,hx,hd⟩ (e:=e) (by rw[<- qb];exact ee) fun h' ab t1 sz kp=>?_;refine⟨_,rfl,wpAny_letOwnedTupleGo_items (s:={ s with heap:=h' }) ab fun g' e2 b2=>?_⟩;have lt:it<s.heap.objs.size:=fj st;have t2:g'.get? s.heap.objs.size=some { cls:=.type "tuple",data:=.seq #[e.key,e.val] }:=(b2.2 _ (uz lt)).trans t1;have aa:H s.heap.objs.size=none:=I.hok.fresh (dh _);refine⟨.ref s.heap.objs.size,upd H s.heap.objs.size (.tup [vs[i].1,vs[i].2]),I.turnLaid (ch:=[it]) (t':=s.toks) (fun b o nb q=>(b2.2 b fun z=>nb (by simp[z])).trans (kp b o (fun z=>nb (by simp[z])) q)) hf (dh _) ?_,rfl,
   ⟨vs[i],_,bn hi,aa,rfl,rfl⟩,⟨_,_,e2⟩,fun b hb=>?_⟩
  ·exact⟨⟨by show 2<=dn;decide,_,t2,rfl,I.kpNew⟩,[e.key,e.val],.cons r1 (.cons r2 .nil),⟨_,t2,rfl,_,rfl⟩⟩
  ·rw[mem_singleton.mp hb,zC (ge lt)];exact(hf _ yv).1
 done:=by
  intro X hP hw hK hc i zi s σ H E I hf st hg;subst hP hw hK;obtain⟨ok,ov,st⟩:=st;obtain⟨hi,ea⟩:=hg;obtain⟨f0,f1,f2,f3,f4,f5⟩:=hf it yv;exact Ma (I.ok.hd hc) st ⟨wL I.hok ea,hx,hd⟩ (by rw[<- fu,<- ve.length];exact hi) fun h' eb=>⟨rfl,I.turned (t':=s.toks) (fun b o hb e=>eb b o hb e) f0 f1 f3 f4 f5⟩
 self:=fun _ _ _ _ _ ⟨_,_,st⟩ h=>Hh st h
section
variable {X:Cx}{elts:List Expr}{n:Nat}{tpos apos cpos:Pos}
def FV(te:TE):TI:=fun σ H R=>te σ H fun x H1=>∃a ob es ep vs,x=.ref a/\H1 a=some (obO a ob)/\(a==jt)=false/\ob.ExactDict/\ob.data=.dict es ep/\VE vs es.toList/\R (ItiG a ob vs) H1
theorem JQ{l:Expr}{te:TE}(hl:PE X l te)(aa:sj l "items" X.env (eval l X.env)=eval l X.env)(z:(apos.endLine==cpos.line)=true):PI X (.Tuple elts n tpos) (.Call (.Attribute l "items" apos) [] [] cpos) (FV te):=by
 intro zi s σ H R I h;refine wpAny_Call_method (T:="dict") (id:="dict.items") aa rfl z F.plainAttrs_dict F.slot_dict_items F.type_dict_items (thn (hl zi s σ H _ I h) fun v s1 ⟨x,H1,I1,r1,q1⟩=>?_);obtain⟨a,ob,es,ep,vs,e,ea,ab,hx,hd,ve,q⟩:=q1;subst e;cases r1;have g1:=wL I1.hok ea;have hT:s1.TypeIs (.ref a) "dict":=⟨ob,g1,hx.1⟩;refine⟨hT,fun b q=>by cases q;exact⟨ob,g1,hx.2.1⟩,?_⟩;show bo _ _ (callWith cpos (.builtin "dict.items") [.ref a] [] []) _ _ s1;refine method_meetsIn F.slot_dict_items F.entry_dict_items rfl (PyProof.Rows.evalArgs_none ⟨rfl,hT,F.args_dict_items_1 _,_,OT ab,hT,?_⟩);refine NV (s:={ s1 with heap:=s1.heap.push { cls:=.type "dict_items",data:=.fields #[.ref a] } }) ⟨_,bv _ rfl,rfl,rfl⟩ ⟨bf _ g1,hx,hd⟩ ?_;have I2:Inv X zi σ H1 { s1 with heap:=s1.heap.push { cls:=.type "dict_items",data:=.fields #[.ref a] } }:=I1.kept (t':=s1.toks) fun b o e=>bf _ e;refine⟨_,[_],_,_,H1,rfl,I2.kept (t':=s1.toks) fun b o e=>bf _ e,MZ a _ ob vs es ep hx hd ve,⟨_,_,bv _ rfl⟩,fun b hb=>?_,q⟩;rw[mem_singleton.mp hb];exact I2.fpOk (dh _) (I2.hok.fresh (dh _))
end
end L2
namespace L2
open PySem PySem.Spec PySem.Calls PyProof.Rows
section
variable {G:Hp}{g:KSg}
theorem PrG.length:∀{m:List (KG g×bc)}{xs:List (KG g×Addr×bb)},PrG G g m xs->xs.length=m.length
 | [],_,q=>by rw[show _=[]from q];rfl
 |p::r,_,⟨q,t,e,_,_,_,l⟩=>by rw[e,cx,cx,PrG.length l]
theorem PrG.has:∀{m:List (KG g×bc)}{xs:List (KG g×Addr×bb)},PrG G g m xs->∀x∈xs,Has G (kdat g x.1) (.ref x.2.1)
 | [],_,q,x,mx=>by rw[show _=[]from q]at mx;cases mx
 |p::r,_,⟨q,t,e,e1,h1,_,l⟩,x,mx=>by
  rw[e]at mx;rcases mem_cons.mp mx with rfl|mx
  ·rw[e1];exact h1
  ·exact PrG.has l x mx
theorem PrG.at_(k:KG g):∀{m:List (KG g×bc)}{xs:List (KG g×Addr×bb)},PrG G g m xs->(lkA m k=none/\ua xs k=none)\/∃d p v,lkA m k=some d/\ua xs k=some p/\Has G d v/\RelV v p.2
 | [],xs,q=>by rw[show xs=[]from q];exact .inl ⟨rfl,rfl⟩
 |p::r,xs,⟨q,t,e,e1,h1,⟨v,h2,h3⟩,l⟩=>by
  subst e;by_cases hk:p.1=k
  ·exact .inr ⟨p.2,q.2,v,by simp[lkA,hk],by simp[ua,e1,hk],h2,h3⟩
  ·have z1:lkA (p::r) k=lkA r k:=by simp[lkA,hk]
   have z2:ua (q::t) k=ua t k:=by simp[ua,e1,hk]
   rw[z1,z2];exact PrG.at_ k l
theorem PrG.snoc{k:KG g}{b:Addr}{d:bc}{v:V}{r:bb}(h1:Has G (kdat g k) (.ref b))(h2:Has G d v)(h3:RelV v r):∀{m:List (KG g×bc)}{xs:List (KG g×Addr×bb)},PrG G g m xs->PrG G g (m++[(k,d)]) (xs++[(k,b,r)])
 | [],xs,q=>by rw[show xs=[]from q];exact⟨_,[],rfl,rfl,h1,⟨v,h2,h3⟩,rfl⟩
 |p::r,xs,⟨q,t,e,e1,z1,z2,l⟩=>by subst e;exact⟨q,_,rfl,e1,z1,z2,PrG.snoc h1 h2 h3 l⟩
theorem PrG.vals:∀{m:List (KG g×bc)}{xs:List (KG g×Addr×bb)},PrG G g m xs->∃vs:List (V×V),vs.length=m.length/\VE vs (xs.map fun x=>⟨khash g x.1,.ref x.2.1,x.2.2⟩)/\∀(i:Nat) (p:KG g×bc),m[i]?=some p->∃q:V×V,vs[i]?=some q/\Has G (kdat g p.1) q.1/\Has G p.2 q.2
 | [],xs,q=>by rw[show xs=[]from q];exact⟨[],rfl,.nil,fun i p e=>by simp at e⟩
 |p::r,xs,⟨q,t,e,e1,z1,⟨v,h2,h3⟩,l⟩=>by
  subst e;obtain⟨vs,a1,a2,a3⟩:=PrG.vals l;refine⟨(.ref q.2.1,v)::vs,by rw[cx,cx,a1],.cons ⟨rfl,h3⟩ a2,fun i x ex=>?_⟩;cases i with
  |zero=>simp at ex;subst ex;exact⟨_,rfl,z1,h2⟩
  |succ i=>obtain⟨y,b1,b2⟩:=a3 i x (by simpa using ex);exact⟨y,by simpa using b1,b2⟩
end
section
variable {E:XK}{EX:EXD}{i j:Nat}{tb:TS}{db:DSm}
theorem Bg{g:KSg}(hb:RSm E EX tb db):RSm E EX (cH (jV vF (jO i)) tb) (iA false i (.g g ob0 []) db):=fun h o0 H0 o H δ σ S M En D e0 fr he hs rm q c x p hp aa=>
 N8 (f:=false) (D0:=.g g ob0 []) (u:=.x p ob0) (fun G H z=>⟨z,aa,[],pd0 g,rfl⟩) hb e0 fr he hs rm q c x hp
def j8(g:KSg)(j:Nat)(dk dv:DM->DE):DSm:=fun En δ S M=>zk j δ S fun y S1=>∃a ob m,y=.o (.ref a)/\(a,DD.g g ob m)∈M/\dk M δ S1 fun z S2=>dv M δ S2 fun x S3=>asD z fun k=>asD x fun d=>∃kk,k=kdat g kk/\m.length<1000/\if (lkA m kk).isSome=true then En.nx δ S3 M else ∀ob',En.nx δ S3 (fL M a (.g g ob' (m++[(kk,d)])))
theorem Ea{g:KSg}(ht:g.tup=true){ty tv:TE}{dk dv:DM->DE}(hk:∀M,REp (PhM M) ty (dk M))(hv:∀M,REp (PhM M) tv (dv M)):RSm E EX (yD (GX g (b0 j) ty tv)) (j8 g j dk dv):=fun h o0 H0 o H δ σ S M En D e0 fr he hs rm q c x=>by
 obtain⟨y1,ey,a,ob,m,rfl,mD,d2⟩:=q;obtain⟨v1,ev,af⟩:=he.get j _ ey;have ah:v1=.ref a:=af;subst ah;refine⟨_,ev,a,rfl,(rm.ct a _ mD).rd.isD,hk M (h++ad M) o H δ σ S _ _ he hs d2 (fun o1 H1 S1 z u e1 s1 z1 d3=>hv M (h++ad M) o1 H1 δ σ S1 _ _ (he.mono e1) s1 d3 (fun o2 H2 S2 y v e2 s2 x2 d4=>?_) ⟨h,rfl,rm.mono e1⟩) ⟨h,rfl,rm⟩⟩;replace d4:=eE d4;obtain⟨k,rfl,d4⟩:=d4;obtain⟨d,rfl,kk,rfl,hl,n⟩:=eE d4;have aa:=e1.trans e2;have ac:=rm.mono aa;have ma:a∈ad M:=mem_map.mpr ⟨_,mD,rfl⟩;obtain⟨e3,ae,xs,pd,l⟩:=ac.ct a (.g g ob m) mD;have mh:a∈h++ad M:=cw _ ma;have z2:Has (vx (h++ad M) o2 H2) (kdat g kk) u:=z1.mono e2;refine⟨ob,xs,kk,⟨e3,ae,pd,fun x mx=>Has.mono zZ _ _ (l.has x mx)⟩,by rw[l.length];exact hl,Has.mono zZ _ _ z2,fun p ep=>?_,fun en ab b r eb rz ag=>?_⟩
 ·rcases l.at_ kk with ⟨y1,y2⟩|⟨d',p',w',y1,y2,y3,y4⟩
  ·rw[y2]at ep;cases ep
  ·rw[y2]at ep;cases ep;rw[y1]at n;exact⟨w',y4,c.nx o2 H2 δ S2 M σ (e0.trans aa) rfl (he.mono aa) s2 ac n⟩
 ·rcases l.at_ kk with ⟨y1,y2⟩|⟨d',p',w',y1,y2,y3,y4⟩
  ·rw[y1]at n;subst eb;have n2:=n ab;have fin:∀H',H' a=some (MO.x a ab).ho->DAt (vx (h++ad M) o2 H2) H' a (.g g ab (m++[(kk,d)])):=fun H' z=>⟨z,ae,_,ag,PrG.snoc z2 x2 rz l⟩;refine c.nx o2 _ δ S2 (fL M a (.g g ab (m++[(kk,d)]))) σ ⟨(e0.trans aa).pre,fun b w' nb zb=>?_⟩ f7 ?_ ?_ (ac.put mD fin) n2
   ·obtain⟨z1,z3⟩:=(e0.trans aa).kp b w' nb zb;exact⟨z1,by rw[zC (fun z=>by rw[z,fr a ma]at zb;cases zb)];exact z3⟩
   ·rw[f7];exact(he.mono aa).view (uI mh)
   ·rw[f7];exact s2.hidden (u:=.x a ab) mh
  ·rw[y2]at en;cases en
def kP(M:DM)(g:KSg)(dd dy:DE):DE:=fun δ S R=>dd δ S fun x S1=>∃a ob m,x=.o (.ref a)/\(a,DD.g g ob m)∈M/\dy δ S1 fun y S2=>asD y fun k=>∃kk,k=kdat g kk/\R (.d ((lkA m kk).getD .none)) S2
theorem Hf{M:DM}{g:KSg}{td ty:TE}{dd dy:DE}(hd:REp (PhM M) td dd)(hy:REp (PhM M) ty dy):REp (PhM M) (B3 g td ty) (kP M g dd dy):=fun h o H δ σ S R Q he hs q c w=>
 hd h o H δ σ S _ _ he hs q (fun o1 H1 S1 x v e1 s1 x1 ⟨a,ob,m,ex,mD,d1⟩=>by
  subst ex;obtain rfl:v=.ref a:=x1;obtain⟨h1,eh,z⟩:=Stb.st (Φ:=PhM M) w e1;refine⟨a,rfl,(z.ct a _ mD).rd.isD,hy h o1 H1 δ σ S1 _ _ (he.mono e1) s1 d1 (fun o2 H2 S2 y u e2 s2 y2 d2=>?_) (Stb.st w e1)⟩;obtain⟨k,rfl,kk,rfl,n⟩:=eE d2;obtain⟨h2,aa,ab⟩:=Stb.st (Φ:=PhM M) w (e1.trans e2);obtain⟨e3,ac,xs,pd,l⟩:=ab.ct a (.g g ob m) mD;rw[<- aa]at l;refine⟨ob,xs,kk,⟨e3,ac,pd,fun x mx=>Has.mono zZ _ _ (l.has x mx)⟩,Has.mono zZ _ _ y2,fun p ep=>?_,fun en=>?_⟩
  ·rcases l.at_ kk with ⟨y1,y2⟩|⟨d',p',w',y1,y2,y3,y4⟩
   ·rw[y2]at ep;cases ep
   ·rw[y2]at ep;cases ep;rw[y1]at n;exact⟨w',y4,c o2 H2 S2 (.d d') w' (e1.trans e2) s2 y3 n⟩
  ·rcases l.at_ kk with ⟨y1,y2⟩|⟨d',p',w',y1,y2,y3,y4⟩
   ·rw[y1]at n;exact c o2 H2 S2 (.d .none) .non (e1.trans e2) s2 (show Has (vx h o2 H2) .none .non from i4.mpr rfl) n
   ·rw[y2]at en;cases en) w
def dmLoopG(a:Addr)(D0:DD)(dg:DG)(db:DSm):List bc->DSm
 | [],E,δ,S,M=>(a,D0)∈M/\E.nx δ S M
 |d::ds,E,δ,S,M=>(a,D0)∈M/\dg (.d d) δ S fun δ1 S1=>db { nx:=fun δ2 S2 M2=>dmLoopG a D0 dg db ds E δ2 S2 M2,ct:=fun δ2 S2 M2=>dmLoopG a D0 dg db ds E δ2 S2 M2,bk:=E.nx,rt:=E.rt } δ1 S1 M
theorem dmLoopG.mem{a:Addr}{D0:DD}{dg:DG}{db:DSm}:∀{ds:List bc}{E:DEndsM}{δ:XE}{S:Sto}{M:DM},dmLoopG a D0 dg db ds E δ S M->(a,D0)∈M
 | [],_,_,_,_,h=>h.1
 |_::_,_,_,_,_,h=>h.1
def lI(g:KSg)(m:List (KG g×bc)):List bc:=m.map fun p=>.tuple [kdat g p.1,p.2]
def lC(g:KSg)(j:Nat)(dg:DG)(db:DSm):DSm:=fun En δ S M=>zk j δ S fun y S1=>∃a ob m,y=.o (.ref a)/\(a,DD.g g ob m)∈M/\dmLoopG a (.g g ob m) dg db (lI g m) En δ S1 M
theorem E3{gg:KSg}{g:TG}{dg:DG}(hg:RG g dg)(hb:RSm E EX tb db):RSm E EX (lO (FV (b0 j)) g tb) (lC gg j dg db):=fun h o0 H0 o H δ σ S M En D e0 fr he hs rm q c x=>by
 obtain⟨y1,ey,a,ob,m,rfl,mD,d1⟩:=q;obtain⟨v1,ev,ap⟩:=he.get j _ ey;have au:v1=.ref a:=ap;subst au;obtain⟨e3,ax,xs,⟨hx,es,ep,hd,ao,ay⟩,l⟩:=rm.ct a (.g gg ob m) mD;obtain⟨vs,vl,ve,vg⟩:=l.vals;rw[<- ao]at ve;refine⟨_,ev,a,ob,es,ep,vs,rfl,e3,ax,hx,hd,ve,?_⟩;have il:(lI gg m).length=vs.length:=by unfold lI;rw[cg,vl]
 generalize hds:lI gg m=ds at d1 il;refine⟨fun i n σ2 H2=>n=ds.length-i/\i<=ds.length/\∃o2 δ2 S2 M2,Ex o0 H0 o2 H2/\ExH (h++ad M) o H o2 H2/\ad M2=ad M/\RepE (h++ad M) o2 H2 δ2 σ2/\RepS (h++ad M) o2 H2 S2/\RepM h o2 H2 M2/\dmLoopG a (.g gg ob m) dg db (ds.drop i) En δ2 S2 M2,
   ⟨ds.length,yv,lh _,o,δ,S,M,e0,ExH.refl,rfl,he,hs,rm,d1⟩,?_⟩
 rintro i n σ2 H2 ⟨rfl,hi,o2,δ2,S2,M2,e2,x2,ea,ak,ai,ag,d2⟩;have al:H2 a=some (obO a ob):=(ag.ct a _ d2.mem).1;by_cases hlt:i<ds.length
 ·have ed:ds[i]?=some ds[i]:=bn hlt;rw[mf hlt]at d2;refine .inr ⟨⟨yw,al⟩,fun σ3 H3=>∃o3 δ3 S3 M3,Ex o0 H0 o3 H3/\ExH (h++ad M) o H o3 H3/\ad M3=ad M/\RepE (h++ad M) o3 H3 δ3 σ3/\RepS (h++ad M) o3 H3 S3/\RepM h o3 H3 M3/\dmLoopG a (.g gg ob m) dg db (ds.drop (i+1)) En δ3 S3 M3,fun σ3 H3 n=>⟨ds.length-(i+1),yw,rfl,yw,n⟩,fun y H3 yy=>?_⟩;obtain⟨p,b,ep,nb,as,eH⟩:=yy;subst as eH;have s3:Same H2 (upd H2 b (.tup [p.1,p.2])):=Same.laid nb;have ah:Ex o2 H2 o2 (upd H2 b (.tup [p.1,p.2])):=Ex.of_same s3;have aw:HasX (h++ad M) o2 (upd H2 b (.tup [p.1,p.2])) (.d ds[i]) (.ref b):=by
   have em:∃r,m[i]?=some r/\ds[i]=.tuple [kdat gg r.1,r.2]:=by
    have hm:i<m.length:=by rw[<- vl,<- il];exact hlt
    refine⟨m[i],bn hm,?_⟩;have z:ds[i]?=some (ng [kdat gg m[i].1,m[i].2]):=by rw[<- hds];unfold lI;rw[gh,bn hm];rfl
    rw[ed]at z;exact ic z
   obtain⟨r,er,ar⟩:=em;obtain⟨qv,eq,k1,k2⟩:=vg i r er;rw[ep]at eq;cases eq;rw[ar];have sv:Same (vx (h++ad M) o H) (vx (h++ad M) o2 (upd H2 b (.tup [p.1,p.2]))):=fun c u z=>ah.vx c u (x2.vx c u z);have f1:=ai.fresh nb;exact cJ.mpr ⟨b,_,rfl,zN.mpr ⟨f1.1,f1.2,zF⟩,zp.mpr ⟨_,_,rfl,Has.mono sv _ _ k1,zp.mpr ⟨_,_,rfl,Has.mono sv _ _ k2,zA.mpr rfl⟩⟩⟩
  obtain⟨_,d2⟩:=d2;refine hg (h++ad M) o2 _ δ2 σ2 S2 (.d ds[i]) _ _ _ (ak.mono ah) (ai.same s3) aw d2 fun o4 H4 δ4 S4 σ4 e4 am aq d4=>?_;have af:Ex o2 H2 o4 H4:=ah.trans e4;have nM:∀b u,H0 b=some u->b∉ad M:=fun b u z mb=>by
   rw[fr b mb]at z;cases z
  have ae:Ex o0 H0 o4 (fun b=>if b∈ad M then none else H4 b):=⟨(e2.trans af).pre,fun b u nb z=>by
   obtain⟨z1,z2⟩:=(e2.trans af).kp b u nb z;exact⟨z1,by show (if b∈ad M then none else H4 b)=some u;rw[cr (nM b u z)];exact z2⟩⟩
  have an:∀{o5 H5},Ex o4 (fun b=>if b∈ad M then none else H4 b) o5 H5->ExH (h++ad M) o4 H4 o5 H5:=fun e5=>⟨e5.pre,fun b u n1 n2 z=>e5.kp b u n2 (by show (if b∈ad M then none else H4 b)=some u;rw[cr (fun mb=>n1 (cw _ mb))];exact z)⟩;have aa:∀o5 H5 δ5 S5 M5 σ5,Ex o4 (fun b=>if b∈ad M then none else H4 b) o5 H5->ad M5=ad M2->RepE (h++ad M5) o5 H5 δ5 σ5->RepS (h++ad M5) o5 H5 S5->RepM h o5 H5 M5->dmLoopG a (.g gg ob m) dg db (ds.drop (i+1)) En δ5 S5 M5 ->
    ∃o3 δ3 S3 M3,Ex o0 H0 o3 H5/\ExH (h++ad M) o H o3 H5/\ad M3=ad M/\RepE (h++ad M) o3 H5 δ3 σ5/\RepS (h++ad M) o3 H5 S3/\RepM h o3 H5 M3/\dmLoopG a (.g gg ob m) dg db (ds.drop (i+1)) En δ3 S3 M3:=fun o5 H5 δ5 S5 M5 σ5 e5 a5 aj ac ab d5=>
   ⟨o5,δ5,S5,M5,ae.trans e5,(x2.trans af.hid).trans (an e5),a5.trans ea,by rw[<- ea,<- a5];exact aj,by rw[<- ea,<- a5];exact ac,ab,d5⟩
  refine hb h o4 (fun b=>if b∈ad M then none else H4 b) o4 H4 δ4 σ4 S4 M2 _ _ ⟨⟨[],yv⟩,fun b u nb eb=>?_⟩ (fun a ma=>by show (if a∈ad M then none else H4 a)=none;rw[cy (by rw[<- ea];exact ma)]) (by rw[ea];exact am) (by rw[ea];exact aq) (ag.mono af) d4
   ⟨aa,fun o5 H5 S5 M5 y5 v5 e5 a5 ac ab av q5=>c.rt o5 H5 S5 M5 y5 v5 (ae.trans e5) (a5.trans ea) ac ab av q5,fun o5 H5 δ5 S5 M5 σ5 e5 a5 aj ac ab q5=>c.nx o5 H5 δ5 S5 M5 σ5 (ae.trans e5) (a5.trans ea) aj ac ab q5,aa⟩ (x.pre ae)
  refine⟨nb,?_⟩;by_cases mb:b∈ad M
  ·simp[mb]at eb
  ·simpa[mb]using eb
 ·have ei:i=ds.length:=yw
  subst ei;rw[drop_length]at d2;exact .inl ⟨⟨yw,al⟩,c.nx o2 H2 δ2 S2 M2 σ2 e2 ea (by rw[ea];exact ak) (by rw[ea];exact ai) ag d2.2⟩
end
end L2
namespace L2
open PySem PySem.Spec PyProof.Rows
section
def hB(b:Bool):Int:=reduceHash (match b with|true=>1|false=>0)
def mI(b:Bool):bb->Bool
 | .bool c=>b==c
 |_=>false
theorem pR{b:Bool}{v:bb}(h:mI b v=true):v=.bool b:=by
 cases v with
 |bool c=>rw[eq_of_beq (show (b==c)=true from h)]
 |_=>cases h
theorem HU{prog:cz}{w:fy}{A:ft}{E:bb->bd->Prop}{s:bd}{a b:Bool}{u v:bb}{Q:Bool->bd->Prop}(hu:mI a u=true)(hv:mI b v=true)(h:Q (decide (a=b)) s):bo (model prog w) A (eqBool u v) Q E s:=by
 rw[pR hu,pR hv];exact PySem.SeqAt.EqAt.bool_bool a b _ _ _ _ (by rw[Fv];exact h)
def iH(prog:cz)(w:fy):KeyKind prog w Bool where
 is:=mI
 hash:=hB
 inj:=fun v a b h1 h2=>by
  rw[pR h1]at h2;exact(eq_of_beq (show (b==a)=true from h2)).symm
 byValue:=fun k v h=>by rw[pR h];rfl
 pyHash:=fun hv h=>by rw[pR hv];exact EQ h
 eqBool:=fun hu hv h=>HU hu hv h
 «strs»:=fun _ _ _ _ h=>nomatch h
def kB(e:Int×bb):Bool:=match e.2 with
 | .bool b=>b
 |_=>false
def OkB(e:Int×bb):Prop:=∃n,e.2=.bool n/\e.1=hB n
theorem Mg{e:Int×bb}{n:Bool}(h:e.2=.bool n):kB e=n:=by
 unfold kB;rw[h]
def SetB(led:Bool)(h:Heap)(a:Addr)(es:Array (Int×bb)):Prop:=∃(o:Obj) (ep:Nat) (t:kr),
 h.get? a=some o/\o.ExactSet/\o.data=.set es ep t/\(∀e∈es.toList,OkB e)/\(es.toList.map kB).Nodup/\es.size<100/\Tab led t es.size
theorem SetB.at{led:Bool}{h g:Heap}{a:Addr}{es:Array (Int×bb)}(q:SetB led h a es)(f:∀o,h.get? a=some o->g.get? a=some o):SetB led g a es:=by
 obtain⟨o,ep,t,h1,r⟩:=q;exact⟨o,ep,t,f o h1,r⟩
section
variable {prog:cz}{w:fy}{A:ft}{E:bb->bd->Prop}{s:bd}{led:Bool}
theorem J9{l:List (Int×bb)}(h:∀e∈l,OkB e):ElemsOf (iH prog w) l:=fun e m=>by
 obtain⟨n,e1,e2⟩:=h e m;refine⟨⟨n,?_,e2⟩,?_⟩
 ·rw[e1];exact beq_self_eq_true n
 ·rw[e1];rfl
theorem Ck{k:Bool}{e:Int×bb}(h:OkB e):mI k e.2=true↔kB e=k:=by
 obtain⟨n,e1,e2⟩:=h;rw[Mg e1,e1];show (k==n)=true↔n=k;rw[beq_iff_eq];exact eq_comm
theorem Bm{h:Heap}{a:Addr}{o:Obj}{es q:Array (Int×bb)}{ep:Nat}{t t':kr}(ho:h.get? a=some o)(z:o.ExactSet)(hd:o.data=.set es ep t)
  (h1:∀e∈q.toList,OkB e) (h2:(q.toList.map kB).Nodup) (h3:q.size<100) (h4:Tab led t' q.size):
  (h.update a (Obj.putSet q t')).get? a=some { o with data:=.set q (ep+1) t' }/\SetB led (h.update a (Obj.putSet q t')) a q:=by
 have hg:=kj (Obj.putSet q t') ho (by rw[putSet_of q t' hd];rfl);rw[putSet_of q t' hd]at hg;exact⟨hg,_,_,_,hg,z,rfl,h1,h2,h3,h4⟩
theorem F8{g:Bool->Sem Unit}(hg:∀(b:Bool) (s1:bd) (Q':Unit->bd->Prop),Q' () s1->bo (model prog w) A (g b) Q' E s1){a:Addr}{o:Obj}{es q:Array (Int×bb)}{ep:Nat}{t t2:kr}
  (ho:s.heap.get? a=some o) (hex:o.ExactSet) (hd:o.data=.set es ep t) (h1:∀e∈q.toList,OkB e) (h2:(q.toList.map kB).Nodup) (h3:q.size<100) (h4:Tab led t2 q.size) {wd:Bool}{R:Option Bool->bd->Prop}
  (h:∀h' es',fg a s.heap h'->SetB led h' a es'->es'.toList.Perm q.toList->R (some true) { s with heap:=h' }):
  bo (model prog w) A (do
    storeSet a q t2
    if (!wd&&t2.tooFull)=true then do
     g (relayAll t2 q (ub q.size)).2.2
     storeSet a (relayAll t2 q (ub q.size)).1 (relayAll t2 q (ub q.size)).2.1
     pure (some true)
    else pure (some true)) R E s:=by
 obtain⟨aa,ac⟩:=Bm (led:=led) ho hex hd h1 h2 h3 h4;have ab:=ie s.heap a (Obj.putSet q t2);refine ba (wpAny_storeSet_of ho hd ?_ (fits_of_scanBound (wG h3)));split
 ·have hp:=relayAll_perm t2 q (ub q.size);have ht:=LY (led:=led) (t:=t2) (es:=q) h4.led (ub q.size);generalize relayAll t2 q (ub q.size)=Rl at hp ht ⊢;obtain⟨z,t3,gv⟩:=Rl;dsimp only at hp ht ⊢;have ez:z.size=q.size:=by
   have:=hp.length_eq
   rwa [fu,fu]at this
  have q1:∀e∈z.toList,OkB e:=fun e m=>h1 e (hp.mem_iff.mp m);have q2:(z.toList.map kB).Nodup:=(hp.map kB).nodup_iff.mpr h2;refine ba (hg _ _ _ ?_);refine ba (wpAny_storeSet_of aa rfl ?_ (fits_of_scanBound (wG yw)));obtain⟨_,ae⟩:=Bm (led:=led) aa hex rfl q1 q2 yw ht;exact be (h _ _ (ab.trans (ie _ a _)) ae hp)
 ·exact be (h _ _ ab ac (vf _))
theorem Nm{a:Addr}{es:Array (Int×bb)}{k:Bool}{Q:Bool->bd->Prop}(hS:SetB led s.heap a es)(hr:es.size+1<100)
  (h:∀b h' q,fg a s.heap h'->SetB led h' a q->(∀x,x∈q.toList.map kB↔x∈es.toList.map kB\/x=k)->q.size<=es.size+1->Q b { s with heap:=h' }):
  bo (model prog w) A (setAddHashed a (.bool k) (hB k)) Q E s:=by
 obtain⟨o,ep,t,ho,ab,hd,h1,h2,h3,h4⟩:=hS;have af:ElemsOf (iH prog w) es.toList:=J9 h1;have ac:(iH prog w).is k (.bool k)=true:=beq_self_eq_true k;unfold setAddHashed setAddHashedIn;refine iq (ba (qh ho hd h4.fits ?_));dsimp only;rw[byScan_of (knd:=iH prog w) rfl (wG h3) af];simp only[↓reduceIte];unfold setAddByScan;refine ba (ba (pf (ba (wpAny_setScan_of (knd:=iH prog w) ac ho hd h4.fits af ?_))));cases hr':List.findIdx? (fun e=>(iH prog w).is k e.2) es.toList with
 |some j=>
  dsimp only;obtain⟨hj,ah,_⟩:=List.findIdx?_eq_some_iff_getElem.mp hr';have hm:k∈es.toList.map kB:=mem_map.mpr ⟨es.toList[j],nr hj,(Ck (h1 _ (nr hj))).mp ah⟩;refine be (be ?_);have:=h false s.heap es (Heap.SameBut.refl a s.heap) ⟨o,ep,t,ho,ab,hd,h1,h2,h3,h4⟩ (fun x=>⟨.inl,fun z=>z.elim id fun e=>e▸hm⟩) yw;exact this
 |none=>
  dsimp only;have hm:k∉es.toList.map kB:=fun m=>by
   obtain⟨e,me,ek⟩:=mem_map.mp m;have:=List.findIdx?_eq_none_iff.mp hr' e me;rw[show (iH prog w).is k e.2=mI k e.2 from rfl,(Ck (h1 e me)).mpr ek]at this;cases this
  have ag:∀(b:Bool) (s1:bd) (Q':Unit->bd->Prop),Q' () s1->bo (model prog w) A (match b with|true=>rule "set.scan.the-table-gave-way" | false=>pure ()) Q' E s1:=
   fun b s1 Q' hq=>by cases b<;>first|exact be hq|exact pf hq
  have hp:=layNew_perm t es (hB k) (.bool k);have ht:=Gg (led:=led) (es:=es) h4 (hB k) (.bool k);generalize layNew t es (hB k) (.bool k)=L at hp ht ⊢;obtain⟨aa,t1,wd,gv⟩:=L;dsimp only at hp ht ⊢;rw[toList_push]at hp;have ez:aa.size=es.size+1:=by
   have:=hp.length_eq
   rwa [fu,ck,fu,fq]at this
  have kk:kB (hB k,jx k)=k:=rfl;have q1:∀e∈aa.toList,OkB e:=fun e m=>by
   rcases mem_append.mp (hp.mem_iff.mp m)with m|m
   ·exact h1 e m
   ·rw[mem_singleton.mp m];exact⟨k,rfl,rfl⟩
  have ae:(aa.toList.map kB).Perm (es.toList.map kB++[k]):=by
   have:=hp.map kB
   rwa [gw,jy,kk]at this
  have q2:(aa.toList.map kB).Nodup:=by
   rw[ae.nodup_iff,nodup_append];exact⟨h2,yv,fun x mx y my e=>by rw[mem_singleton.mp my]at e;rw[e]at mx;exact hm mx⟩
  have fin:∀h' q,fg a s.heap h'->SetB led h' a q->q.toList.Perm aa.toList->Q true { s with heap:=h' }:=fun h' q sb S' p=>
   h true h' q sb S' (fun x=>by
    rw[((p.map kB).trans ae).mem_iff,rc,qi]) (by
    have:=p.length_eq;rw[fu,fu]at this;omega)
  refine ba (ag _ _ _ ?_);split
  ·refine ba ?_;show bo _ _ (pure true) _ _ _;refine be ?_;refine F8 (led:=led) (fun b s1 Q' hq=>by cases b<;>first|exact be hq|exact pf hq) ho ab hd q1 q2 yw ht fun h' q sb S' p=>?_;dsimp only;exact be (fin h' q sb S' p)
  ·refine ba (be ?_);simp only[↓reduceIte];refine F8 (led:=led) (fun b s1 Q' hq=>by cases b<;>first|exact be hq|exact pf hq) ho ab hd q1 q2 yw ht fun h' q sb S' p=>?_;dsimp only;exact be (fin h' q sb S' p)
theorem MP{a:Addr}{es:Array (Int×bb)}{k:Bool}{Q:Bool->bd->Prop}(hS:SetB led s.heap a es)(hr:es.size+1<100)
  (h:∀b h' es',fg a s.heap h'->SetB led h' a es'->(∀x,x∈es'.toList.map kB↔x∈es.toList.map kB\/x=k)->es'.size<=es.size+1->Q b { s with heap:=h',toks:=s.toks+1 }):
  bo (model prog w) A (setAdd a (.bool k)) Q E s:=by
 unfold setAdd;refine iq (ba ((iH prog w).pyHash (k:=k) (beq_self_eq_true k) ?_));exact Nm (led:=led) (s:={ s with toks:=s.toks+1 }) hS hr h
theorem two_most(l:List Bool)(h:l.Nodup):l.length<=2:=by
 rcases lt_or_ge 2 l.length with z|z
 ·exfalso
  match l,h,z with
  |a::b::c::r,h,_=>
   simp only[nodup_cons,ja,not_or]at h;obtain⟨⟨h1,h2,_⟩,⟨h3,_⟩,_⟩:=h;cases a<;>cases b<;>cases c<;>simp_all
 ·exact z
theorem SetB.two{led:Bool}{h:Heap}{a:Addr}{es:Array (Int×bb)}(q:SetB led h a es):es.size<=2:=by
 obtain⟨_,_,_,_,_,_,_,nd,_⟩:=q;have:=two_most _ nd
 rwa [cg,fu]at this
theorem HH{R:Result->bd->Prop}{I:Addr}{fp wr:List Addr}{G:Array GenState->Array GenState->Prop}{n:Nat}{P:Nat->bb->Prop}{St:Nat->bd->Prop}{led:Bool}(W:WalksS prog w A.in1 I fp wr G n P St)(S:Addr)(ah:S∉fp)
  (key:Nat->Bool) (hP:∀i v,P i v->v=.bool (key i)):
  ∀(m i:Nat) (s:bd) (es:Array (Int×bb)),n-i=m->i<=n->St i s->SetB led s.heap S es->(∀x,x∈es.toList.map kB↔∃j,j<i/\x=key j) ->
  (∀s' q,Moved (S::wr) G s s'->SetB led s'.heap S q->(∀x,x∈q.toList.map kB↔∃j,j<n/\x=key j)->R (.ok (.ret .none)) s') ->
  ol (model prog w) A (.builtin "set.update.loop" ⟨[.ref S,.ref I],[]⟩) R s:=by
 have ag:S∉wr:=fun h=>ah (W.sub _ h);have aa:∀b∈wr,b∈S::wr:=fun b hb=>bq _ hb;intro m;induction m with
 |zero=>
  intro i s es hm hi ab hS hk hR;obtain rfl:i=n:=yw
  refine jb F4.entry_update_loop ?_;rw[gu F4.plain_update_loop _];show bo _ A.in1 (nv (.ref I) >>= _) _ _ s;refine ba (W.done s _ _ ab fun s' mv=>?_);exact be (hR s' es (mv.mono aa) (hS.at fun o e=>mv.heap S o ag e) hk)
 |succ m ih=>
  intro i s es hm hi ab hS hk hR;have af:i<n:=yw
  refine jb F4.entry_update_loop ?_;rw[gu F4.plain_update_loop _];show bo _ A.in1 (nv (.ref I) >>= _) _ _ s;refine ba (W.item i s _ _ af ab fun v s' hv ae mv=>?_);obtain rfl:=hP i v hv;have ac:SetB led s'.heap S es:=hS.at fun o e=>mv.heap S o ag e;refine ba (iq (MP ac (by have:=ac.two;omega) fun b h' q sb S' mk z'=>?_));refine be ⟨jp F4.plain_update_loop _,ih (i+1) _ q yw af (W.frame _ s' h' (s'.toks+1) ae (le_succ _) fun b hb o e=>sb.extBut b o (fun z=>ah (z▸hb)) e) S' (fun x=>?_) fun s'' es'' mv'' S'' k''=>?_⟩
  ·rw[mk x,hk x];constructor
   ·rintro(⟨j,hj,e⟩|e)
    ·exact⟨j,yw,e⟩
    ·exact⟨i,yw,e⟩
   ·rintro⟨j,hj,e⟩;by_cases z:j=i
    ·subst z;exact .inr e
    ·exact .inl ⟨j,yw,e⟩
  ·exact hR s'' es'' (Moved.trans W.gtrans ((mv.mono aa).then_heap (le_succ _) fun b o hb e=>sb.extBut b o (fun z=>hb (z▸cp)) e) mv'') S'' k''
theorem Kw{S l:Addr}{vs:Array bb}{ns:List Bool}{led:Bool}{Q:Unit->bd->Prop}(hh:A.handled=none)(hS:SetB led s.heap S #[])(hl:s.heap.IsList l vs)(hz:vs.size=ns.length)(hv:∀(i:Nat) v,vs[i]?=some v->v=.bool (ns.getD i false))
  (h:∀h' tk es,(∀b o,b≠S->s.heap.get? b=some o->h'.get? b=some o)->SetB led h' S es->(∀x,x∈es.toList.map kB↔x∈ns)->Q () { s with heap:=h',toks:=tk }):
  bo (model prog w) A (Builtin.Frozenset.updateFrom "set.__init__" S (.ref l)) Q E s:=by
 have ty:s.TypeIs (.ref l) "list":=by
  obtain⟨o,e,c,_⟩:=hl;exact⟨o,e,c⟩
 have lS:l≠S:=fun e=>by
  obtain⟨o,_,_,e1,c1,_⟩:=hS;obtain⟨o',e',c',_⟩:=hl;rw[e,e1]at e';cases e';rw[c1.1]at c';simp at c'
 unfold Builtin.Frozenset.updateFrom Builtin.Frozenset.isAnySet;refine ba (ba (kl ty F4.sub_list_set (kl ty F4.sub_list_frz ?_)));simp only[jm,if_false];refine ba (wpAny_typeOf ty ?_);rw[cr dz];refine ba (oo hl ?_);obtain⟨o,eo⟩:∃o,s.heap.get? l=some o:=⟨_,hl.choose_spec.1⟩;obtain⟨oS,eS⟩:∃o,s.heap.get? S=some o:=⟨_,hS.choose_spec.choose_spec.choose_spec.1⟩;have ll:=fj eo;have z:=fj eS;have up:∀b ob,s.heap.get? b=some ob->(s.heap.push { cls:=.type "list_iterator",data:=.fields #[.ref l,.int 0 0] }).get? b=some ob:=fun b ob e=>bf _ e;have W:=(Walks.list (prog:=prog) (w:=w) (A:=A.in1) hh s.heap.objs.size l (ge ll) vs).toS;refine ba (wpAny_runValue (HH (led:=led) W S (by
  simp only[ja,gt,or_false,not_or];exact⟨ge z,fun e=>lS e.symm⟩) (fun i=>ns.getD i false) hv _ 0 _ #[] rfl (lh _) ⟨⟨_,bv _ rfl,rfl,rfl⟩,hl.at fun ob e=>up l ob e⟩ (hS.at fun ob e=>up S ob e) yv fun s' es mv S' ks=>?_))
 refine be ?_;obtain⟨h',aa,ab,q,ac⟩:=s';obtain⟨m1,m2,m3,m4,m5⟩:=mv;dsimp only at m1 m2 m3 m4 m5 S';subst m2 m3 m4;refine h h' q es (fun b ob nb e=>m1 b ob (by
  simp only[ja,gt,or_false,not_or];exact⟨nb,ge (fj e)⟩) (up b ob e)) S' fun x=>?_
 rw[ks x,hz];constructor
 ·rintro⟨j,hj,rfl⟩;rw[fc,bn hj];exact nr hj
 ·intro m;obtain⟨j,hj,e⟩:=mem_iff_getElem.mp m;exact⟨j,hj,by rw[fc,bn hj];exact e.symm⟩
theorem GZ{l:Addr}{vs:Array bb}{ns:List Bool}{Q:bb->bd->Prop}(hh:A.handled=none)(hl:s.heap.IsList l vs)(hz:vs.size=ns.length)(hv:∀(i:Nat) v,vs[i]?=some v->v=.bool (ns.getD i false))
  (h:∀a h' tk es,s.heap.objs.size<=a->(∀b o,s.heap.get? b=some o->h'.get? b=some o)->SetB (!w.params.followText "set-order") h' a es->(∀x,x∈es.toList.map kB↔x∈ns)->Q (.ref a) { s with heap:=h',toks:=tk }):
  bo (model prog w) A (call (.type "set") [.ref l]) Q E s:=by
 obtain⟨c,tl,ae⟩:=F.called_set.mro;have z:=F.called_set.made;have af:=F.called_set.sub;refine wpAny_call (codeAny_of_tree ?_);show bo _ _ (callAny (.type "set") _) _ _ _;refine be ⟨Code.quiet_builtin _ (by decide +kernel),jb F.entry_type_call ?_⟩;rw[Around.under_plain (weight_type_call_type "set" [.ref l] []) rfl];have h1:=F.called_set.notType;have h2:=F.called_set.canCreate;have ag:=F4.typeCall_set_1 (.ref l)
 repeat (any_goals (first|assumption|wp_step))
 generalize hO:({ cls:=.type "set",dict:=none,data:=.set #[] 0 (.fresh 0 0 (!w.params.followText "set-order")) }:Obj)=O;refine ra (HI (E:=E) (Q:=fun ob s1=>ob=.ref s.heap.objs.size/\s1 = { s with heap:=s.heap.push O }) ⟨rfl,by rw[hO]⟩) fun r s1 hr=>?_;cases r with
 |error e=>exact hr
 |ok fl=>
  cases fl with
  |ret obj=>
   obtain⟨rfl,rfl⟩:=hr;have hS:(s.heap.push O).get? s.heap.objs.size=some O:=bv _ (by rw[<- hO];rfl);have hT:vk { s with heap:=s.heap.push O } (.ref s.heap.objs.size) "set":=⟨_,hS,by rw[<- hO]⟩;have ah:=F.called_set.init.lookup;have ai:=F.called_set.init.bind (.ref s.heap.objs.size)
   repeat (any_goals (first|assumption|wp_step))
   refine ra (codeAny_call_builtin (R:=wants (fun r s2=>r=.none/\Q (.ref s.heap.objs.size) s2) E) F.called_set.init.plain F.entry_set_init (Lh hT ?_)) fun r2 s2 q=>?_
   ·unfold ny.«set.__init__» noKeywords;have ab:SetB (!w.params.followText "set-order") (s.heap.push O) s.heap.objs.size #[]:=by
     subst hO;exact⟨_,_,_,hS,⟨rfl,rfl,rfl⟩,rfl,yv,yv,yv,NK _⟩
    have ac:(s.heap.push O).IsList l vs:=hl.at fun ob e=>bf _ e;subst hO;have aa:=fun Q1=>@Kw prog w A.in1.in1 (fun e s'=>wants (fun r s2=>r=jr/\Q (dw s.heap.objs.size) s2) E (Except.error e) s') { s with heap:=s.heap.push { cls:=.type "set",dict:=none,data:=.set #[] 0 (.fresh 0 0 (!w.params.followText "set-order")) } } s.heap.objs.size l vs ns (!w.params.followText "set-order") Q1 hh ab ac hz hv
    wp_walk using aa _
    intro h' tk es kp S' ks;exact be ⟨rfl,h _ h' tk es (dh _) (fun b o e=>kp b o (ge (fj e)) (bf _ e)) S' ks⟩
   ·cases r2 with
    |error e=>exact q
    |ok fl2=>
     cases fl2 with
     |ret r=>
      obtain⟨rfl,hq⟩:=q
      repeat (any_goals (first|assumption|wp_step))
     |_=>exact q.elim
  |_=>exact hr.elim
end
end
section
section
variable {prog:cz}{w:fy}{A:ft}{E:bb->bd->Prop}{s:bd}{led:Bool}
theorem Gj{a b:Bool}{Q:Bool->bd->Prop}(h:Q (decide (km a<km b)) s):bo (model prog w) A (oneLt' true (.bool a) (.bool b)) Q E s:=by
 rw[oneLt'_eq];simp only[if_true];refine ba (wpAny_cRoomFor_byValue rfl ?_);refine ba (wpAny_callSpecialIfBound?_slot (typeIs_bool' s a) F.slot_bool_lt (call_gives F.slot_bool_lt (typeIs_bool' s a) F.entry_int_lt (F.args_int_lt_2 _ _) (gives_int_lt_bools a b) ?_));refine ji ?_;cases a<;>cases b<;>exact h
def blV:bb->Bool
 | .bool b=>b
 |_=>false
theorem wD{α:Type}(f:bb->Sem α)(y:α)(hf:∀b,f (.bool b)=pure y):∀{vs:List bb},(∀v∈vs,∃b,v=jx b)->vs.mapM f=pure (vs.map fun _=>y)
 | [],_=>rfl
 |v::vs,h=>by
  obtain⟨b,rfl⟩:=h v cp;rw[List.mapM_cons,hf b,wD f y hf fun v m=>h v (bq _ m)];rfl
def cR(bs:List Bool):List Bool:=(if false∈bs then [false]else [])++(if true∈bs then [true]else [])
theorem OD:∀{ms bs:List Bool},ms.Pairwise (fun x y=>¬ km y<km x)->ms.Nodup->(∀x,x∈ms↔x∈bs)->ms=cR bs
 | [],bs,_,_,h=>by
  unfold cR;rw[cr (fun z=>nomatch (h false).mpr z),cr (fun z=>nomatch (h true).mpr z)];rfl
 | [false],bs,_,_,h=>by
  unfold cR;rw[cy ((h false).mp yv),cr (fun z=>by simpa using (h true).mpr z)];rfl
 | [true],bs,_,_,h=>by
  unfold cR;rw[cr (fun z=>by simpa using (h false).mpr z),cy ((h true).mp yv)];rfl
 | [false,true],bs,_,_,h=>by
  unfold cR;rw[cy ((h false).mp yv),cy ((h true).mp yv)];rfl
 |true::false::_,bs,p,_,_=>by
  have:=(pairwise_cons.mp p).1 false yv;exact absurd dz this
 |false::false::_,bs,_,n,_=>by simp at n
 |true::true::_,bs,_,n,_=>by simp at n
 |false::true::b::r,bs,_,n,_=>by cases b<;>simp at n
def gA:PyProof.Rows.KeyKind where
 α:=Bool
 blt:=fun a b=>!a&&b
 irrefl:=by decide
 trans:=by decide
 negTrans:=by decide
 total:=by decide
 keyOf:=fun v=>match v with | .bool b=>some b|_=>none
 dflt:=false
theorem Jk:gA.OneLt:=fun prog w A E s x y a b Q hx hy h=>by
 have e:∀{v:bb}{c:Bool},gA.keyOf v=some c->v=.bool c:=fun {v c} z=>by
  cases v<;>first|(cases z;rfl)|cases z
 rw[e hx,e hy];refine Gj ?_;have:decide (km a<km b)=(!a&&b):=by cases a<;>cases b<;>rfl
 rw[this];exact h
theorem Ke{vs:List bb}(hI:∀v∈vs,∃b,v=jx b)(v1 v2:bb)(r:List bb)(ev:vs=v1::v2::r):keyKind' (v1::v2::r).toArray=pure oneType':=by
 subst ev;rw[keyKind'_eq,List.mapM_toArray,wD _ none (fun _=>rfl) hI];simp only[map_pure,pure_bind];rw[cr yv,cr yv,oneTypeOnly'_eq,List.mapM_toArray,wD _ (oh "bool") (fun _=>rfl) hI];simp only[map_pure,pure_bind];have q:((List.map (fun _=>oh "bool") (v1::v2::r)).toArray.all fun x=>x==oh "bool")=true:=by
  simp only[List.all_toArray,all_map,ox];intro _ _;rfl
 have h0:(List.map (fun _=>oh "bool") (v1::v2::r)).toArray[0]?=some (oh "bool"):=by simp
 rw[h0];simp only[q,if_true,pure_bind,Option.isSome_some]
theorem Hn{vs:List bb}(hI:∀v∈vs,∃b,v=jx b){q:Array Keyed}(hp:q.Perm (pairsOf vs))(hs:SortedToK gA q (pairsOf vs).size):(q.map fun x=>x.2).toList.Perm vs/\(q.map fun x=>x.2).toList.Pairwise (fun x y=>decide (km (blV y)<km (blV x))=false):=by
 have hl:=Array.perm_iff_toList_perm.mp hp;have ez:(pairsOf vs).toList=vs.zip vs:=by unfold pairsOf;simp
 have ac:∀p∈q.toList,p.1=p.2/\p.1∈vs:=fun p mp=>by
  have:=hl.mem_iff.mp mp;rw[ez]at this;obtain⟨i,hi,e⟩:=mem_iff_getElem.mp this;rw[getElem_zip]at e;rw[<- e];exact⟨rfl,nr _⟩
 rw[Array.toList_map];refine⟨?_,?_⟩
 ·have:=hl.map fun x:Keyed=>x.2
  rwa [ez,List.map_snd_zip (dh _)]at this
 ·rw[pairwise_map,List.pairwise_iff_getElem];intro i j hi hj ab;have sz:q.toList.length=(pairsOf vs).size:=by rw[fu];exact hp.size_eq
  have h1:=hs i j (jn ab) (by rw[<- sz];exact hj);have z:∀(k:Nat) (hk:k<q.toList.length),KK gA q k=blV (q.toList[k]).2:=fun k hk=>by
   have aa:k<q.size:=by rwa [fu]at hk
   obtain⟨e1,e2⟩:=ac _ (nr hk);obtain⟨b,eb⟩:=hI _ e2;unfold KK;rw[jl aa];rw[Array.getElem_toList]at e1 eb ⊢;simp only;rw[<- e1,eb];rfl
  have h2:gA.blt (KK gA q j) (KK gA q i)=false:=h1;rw[z i hi,z j hj]at h2;have:∀a b:Bool,(!b&&a)=false->decide (km b<km a)=false:=by decide
  exact this _ _ h2
theorem Ln{l:Addr}{vs:Array bb}{ns:List Bool}{Q:bb->bd->Prop}(hh:A.handled=none)(hl:s.heap.IsList l vs)(hz:vs.size=ns.length)(hv:∀(i:Nat) v,vs[i]?=some v->v=.bool (ns.getD i false))
  (h:∀D h' tk d c,s.heap.objs.size<=D->(∀b o,s.heap.get? b=some o->h'.get? b=some o)->h'.get? D=some (qk "list" ((cR ns).map jx).toArray c)->Q (.ref D) { s with heap:=h',toks:=tk,drawn:=d }):
  bo (model prog w) A (call (.type "set") [.ref l]) (fun a s'=>bo (model prog w) A (call (.builtin "sorted") [a]) Q E s') E s:=by
 refine GZ hh hl hz hv fun a h1 tk es ha ah ag hk=>?_;obtain⟨o,ep,t,ho,af,hd,hok,ab,ak,tb⟩:=ag;refine Calls.call_function_entry kind_sorted plain_sorted entry_sorted (args_sorted1 _) ?_;unfold ny.«sorted»;refine ba (m:=checkCount "sorted" 1 1 1) (be ?_);refine ba (Kf (s:={ s with heap:=h1,toks:=tk }) (A:=A.in1) hh ho af hd tb ak fun h2 d us hp ac=>?_);have ul:us.length=es.size:=by rw[hp.length_eq,cg,fu]
 have ui:∀v∈us,∃n,v=jx n:=fun v m=>by
  obtain⟨e,me,rfl⟩:=mem_map.mp (hp.mem_iff.mp m);obtain⟨n,e1,_⟩:=hok e me;exact⟨n,e1⟩
 have al:es.size<=2:=by
  have:∀l:List Bool,l.Nodup->l.length<=2:=fun l n=>by
   match l,n with
   | [],_=>exact lh _
   | [_],_=>exact le_succ _
   | [_,_],_=>exact dh _
   |a::b::c::r,n=>
    simp only[nodup_cons,ja,not_or]at n;obtain⟨⟨n1,n2,_⟩,⟨n3,_⟩,_⟩:=n;cases a<;>cases b<;>cases c<;>first|exact absurd rfl n1|exact absurd rfl n2|exact absurd rfl n3
  have:=this _ ab
  rwa [cg,fu]at this
 refine ba (wpAny_newList ?_ (by rw[ul,nq];omega));have aa:(h2.push (qk "list" us.toArray 0)).get? h2.objs.size=some (qk "list" us.toArray 0):=bv _ rfl;have hK:KeysOf gA (pairsOf us):=fun p mp=>by
  have ez:(pairsOf us).toList=us.zip us:=by unfold pairsOf;simp
  rw[ez]at mp;obtain⟨b,eb⟩:=ui _ (of_mem_zip mp).1;exact⟨b,by rw[eb];rfl⟩
 refine ba (iq (ia slot_list_sort ⟨_,aa,rfl⟩ entry_list_sort (list_sort_treeK (κ:=gA) (s:={ s with heap:=h2.push (qk "list" us.toArray 0),toks:=tk,drawn:=d }) Jk aa hK (fun v1 v2 r e=>Ke ui v1 v2 r e) yw fun ae ai aj=>⟨_,rfl,?_⟩) (args_list_sort _)));obtain⟨q,hs⟩:=Hn ui ai aj;generalize hout:(Array.map (fun x=>x.2) (arrOf ae))=outA at q hs;obtain⟨c,hc⟩:=sortedHeap_at (out:=outA) aa;obtain⟨out,eo⟩:∃out,out=outA.toList:=⟨_,rfl⟩;rw[<- eo]at q hs;have oi:∀v∈out,∃n,v=jx n:=fun v m=>ui v (q.mem_iff.mp m);have om:out=(out.map blV).map jx:=by
  rw[jj];refine(List.map_id _).symm.trans (uc fun v m=>?_);obtain⟨n,rfl⟩:=oi v m;rfl
 have pB:(out.map blV).Perm (es.toList.map kB):=by
  refine((q.trans hp).map blV).trans ?_;rw[jj];exact vf _
 have eB:out.map blV=cR ns:=by
  refine OD ?_ (pB.nodup_iff.mpr ab) fun x=>by rw[pB.mem_iff,hk x]
  rw[pairwise_map];exact hs.imp fun z=>of_decide_eq_false z
 have hg:(sortedHeap (h2.push (qk "list" us.toArray 0)) h2.objs.size us outA).get? h2.objs.size=some (qk "list" ((cR ns).map jx).toArray c):=by
  rw[<- eB,<- om,eo];simpa using hc
 refine be ⟨_,rfl,h h2.objs.size _ tk d c (gm ha (jn (fj (ac a o ho)))) (fun b ob e=>?_) hg⟩;have e2:=ac b ob (ah b ob e);have lb:=fj e2;rw[sortedHeap_old (ge lb) (by rw[size_push'];exact uk lb)];exact bf _ e2
end
theorem OP(bs:List Bool):(cR bs).length<=2:=by
 unfold cR;split<;>split<;>simp
theorem Ei:∀(bs:List Bool),Vals (bs.map V.bl) (bs.map jx)
 | []=>.nil
 |b::bs=>.cons rfl (Ei bs)
theorem D7:∀{bs:List Bool}{us:List bb},Vals (bs.map V.bl) us->us=bs.map jx
 | [],_,.nil=>rfl
 |b::bs,u::us,.cons h t=>by
  cases (show u=jx b from h);rw[fm,<- D7 t]
theorem Ay{H:Hp}:∀{bs:List Bool}{vs:List V},HasL H (bs.map vm) vs->vs=bs.map V.bl
 | [],_,h=>zA.mp h
 |b::bs,_,h=>by
  obtain⟨v,t,rfl,hv,ht⟩:=zp.mp h;rw[fE.mp hv,Ay ht];rfl
theorem EW{H:Hp}:∀(bs:List Bool),HasL H (bs.map vm) (bs.map V.bl)
 | []=>zA.mpr rfl
 |b::bs=>zp.mpr ⟨_,_,rfl,fE.mpr rfl,EW bs⟩
def BB(K:cq):List V->Hp->VK->Prop:=fun xs H Q=>∃(p:Addr) (ns:List Bool),xs=[.ref p]/\SqL K H p (ns.map V.bl)/\∀(l:Addr),H l=none->Q (.ref l) (upd H l (.lst ((cR ns).map V.bl)))
section
variable {X:Cx}{e:Expr}{t:TA}{p p2 pos pos2:Pos}
theorem Gy(hc:X.calm=true)(ae:Gl X "sorted")(af:X.mg "sorted" = none)(ac:Gl X "set")(aa:X.mg "set" = none)(ha:PA X [e] t)
  (he:dq [e] X.env=(false,eval e X.env)::dq [] X.env:=by rfl) (hpl:(ow pos2 (dq [] X.env)).any (·.1)=false:=by rfl)
  (he2:dq [Expr.Call (.Name "set" p2) [e] [] pos2] X.env=(false,eval (Expr.Call (.Name "set" p2) [e] [] pos2) X.env)::dq [] X.env:=by rfl) (hpl2:(ow pos (dq [] X.env)).any (·.1)=false:=by rfl):
  PE X (.Call (.Name "sorted" p) [.Call (.Name "set" p2) [e] [] pos2] [] pos) (tCB (BB X.K) t):=by
 intro zi s σ H Q I h;refine lq (fI I ae af boot_sorted ?_);refine PyProof.Rows.callWith_builtin1 ?_ he2 hpl2;rw[he2];show bo _ _ (spliced [(false,eval (Expr.Call (.Name "set" p2) [e] [] pos2) X.env)]) _ _ s;refine oz ?_;refine lq (fI I ac aa LQ ?_);refine je (thn (ha pos2 zi s σ H _ I h) fun us s1 ⟨vs,H1,I1,r1,q1⟩=>?_) he hpl;obtain⟨pl,ns,rfl,hq,q⟩:=q1;obtain⟨u,rfl,rx⟩:=vals1 r1;cases (show u=dw pl from rx);obtain⟨ag,rv,ab,_⟩:=I1.list hq;have hI:=D7 rv;refine qz (Ln (ns:=ns) (I1.ok.hd hc) ab.isList (by rw[fk,hI,cg]) (fun i v hv=>?_) fun D h' tk d c hD kp hg=>?_) (fun a s2 z=>su z) fun _ _ z=>z
 ·rw[List.getElem?_toArray,hI,gh]at hv;obtain⟨b,eb,rfl⟩:=map_eq_some_iff.mp hv;rw[fc,eb];rfl
 refine⟨.ref D,_,((I1.drw d).laid (t':=tk) kp hD (show ObjOk X.prog X.w _ h' D (.lst ((cR ns).map V.bl))from⟨?_,_,c,Ei _,hg⟩)),rfl,q D (I1.hok.fresh hD)⟩;have:=OP ns;rw[cg,nq];omega
end
def gY:List XV->Sto->RX->Prop:=fun xs S R=>arg1 xs fun x=>∃ds,dZ S x=some ds/\∃ns:List Bool,ds=ns.map vm/\R (.d (.list ((cR ns).map vm))) S
theorem Eo{K:cq}:RC (BB K) gY:=fun h o H S xs vs R Q hs hx q c=>by
 obtain⟨x,rfl,ds,hd,ns,rfl,q1⟩:=dU q;obtain⟨v,rfl,z⟩:=hxs1 hx;obtain⟨a,ws,rfl,ea,l⟩:=cG hs hd z;rw[Ay l]at ea;refine⟨a,ns,rfl,.of ea,fun l hl=>?_⟩;exact lX hs (EW (cR ns)) c q1 l hl
end
section
section
variable {prog:cz}{w:fy}{A:ft}{E:bb->bd->Prop}{s:bd}
open AutoSeq1 (wpAny_loadPart') in
theorem MM(l b:Addr)(q:Array bb)(n:Nat)(dd z:Option Addr)(dt:Data)(sl aa:Array (Option bb)):
  Meets (ny.«tuple.__ne__» ⟨[.ref l,.ref b],[]⟩) (fun _ R s=>s.heap.get? l=some { cls:=.type "tuple",dict:=dd,data:=.seq q n,slots:=sl }/\s.heap.get? b=some { cls:=.type "dict",dict:=z,data:=dt,slots:=aa }/\R (.ok (.ret .notImplemented)) s):=
 .of_wp fun prog w A R s h=>by obtain⟨hp,g,d,tk,os⟩:=s;obtain⟨hl,hb,h⟩:=h;have f1:=F.sub_dict_tuple;wp_walk using wpAny_loadPart' hl,wpAny_loadPart' hb;exact⟨_,rfl,h⟩
theorem Jj{a b:Addr}{oa ob:Obj}{q:Array bb}{n:Nat}(ha:s.heap.get? a=some oa)(ca:oa.cls=.type "dict")(hb:s.heap.get? b=some ob)(cb:ob.cls=.type "tuple")(db:ob.data=.seq q n)(hu:A.units<kq){Q:bb->bd->Prop}
  (h:Q (.bool true) s):bo (model prog w) A (ir .NotEq (.ref a) (.ref b)) Q E s:=by
 have af:a≠b:=fun e=>by
  subst e;rw[ha]at hb;cases hb;rw[ca]at cb;exact absurd cb dz
 have ta:s.TypeIs (.ref a) "dict":=⟨_,ha,ca⟩;have tb:s.TypeIs (.ref b) "tuple":=⟨_,hb,cb⟩;refine SeqAt.rc_ne_decline_or (k:=false) ta tb dz F.sub_tuple_dict F.slot_dict_ne F.slot_tuple_ne_refl (fun Q' hq=>?_) (fun Q' hq=>?_) (fun Q' hq=>wpAny_isSame_ref_other af ha hb (by rw[ca];simp) hq) (.inr hu) h
 ·refine ia F.slot_dict_ne ta F.entry_dict_ne ?_ (F.args_dict_ne_2 _ _);show bo _ _ (Builtin.Dict.dictSlotArgs "__ne__" ⟨[.ref a,.ref b],[]⟩ >>= _) _ _ s;refine ba ?_;unfold Builtin.Dict.dictSlotArgs;refine ba (wpAny_notOrdered_dict ta ?_);show bo _ _ (pure (dw a,dw b)) _ _ s;refine be ?_;refine ba (kl (T:="tuple") tb F.sub_tuple_dict ?_);simp only[Bool.not_false,if_true];exact ba (pf (be ⟨_,rfl,hq⟩))
 ·obtain⟨ah,ab,z,ae⟩:=oa;obtain⟨ag,aa,ai,ac⟩:=ob;simp only at ca cb db;subst ca cb db;exact call_meets F.slot_tuple_ne_refl tb F.entry_tuple_ne (F.args_tuple_ne_2 _ _) (MM b a q n aa ab z ac ae) ⟨hb,ha,hq⟩
end
def TupG(K:cq)(mg:Str->Option bb)(x z:Str)(a:Addr):Prop:=mg x=some (.ref a)/\∃ob t n,K.lookup a=some ob/\ob.cls=.type "tuple"/\ob.data=.seq #[.str z t] n
theorem TupG.mk'{K:cq}{h:Heap}{mg:Str->Option bb}(X:K.In h)(G:h.Ns jq mg){x z:Str}{a:Addr}{od:Option Addr}{t:Tok}{n:Nat}{q:Array (Option bb)}
  (e:W.nsIn K jq x=some (some (.ref a))) (l:K.lookup a=some ⟨.type "tuple",od,.seq #[.str z t] n,q⟩):∃a,TupG K mg x z a:=⟨a,W.mg_of X G e,_,t,n,l,rfl,rfl⟩
def yP(a:Addr)(z:Str):R2:=fun x y H Q=>y=.ref a/\((∃d,Has H d x/\cv d=true/\Q (.bl (!PyData.eqv d (.tuple [.str z]))) H)\/(Has H (.dict []) x/\Q (.bl true) H))
theorem EM{X:Cx}{x z:Str}{a:Addr}(hG:TupG X.K X.mg x z a)(hz:cv (.tuple [.str z])=true)(hu:X.A.units+64<kq):OpR X (ir .NotEq) (yP a z):=by
 rintro zi s σ H x y v u Q I rx ry ⟨rfl,q⟩;obtain⟨_,ob,t,n,hl,hc,hd⟩:=hG;cases (show u=dw a from ry);have ea:s.heap.get? a=some ob:=I.kIn _ _ hl;rcases q with ⟨d,hd1,sd,q⟩|⟨hd1,q⟩
 ·obtain⟨as,q1⟩:=Has.reads I d x v hd1 (fx sd) rx;exact ne_dataH q1 (.tuple ea hc hd (.cons (.str z t) .nil)) sd hz hu ⟨.bl _,H,I,rfl,q⟩
 ·obtain⟨b,vs,rfl,hD,_⟩:=tE.mp hd1;cases (show v=dw b from rx);rcases hD with ⟨ob2,m,e1,e2,e3⟩|⟨ob2,p,m,e1,e2,_⟩
  ·have hok:=(show ObjOk X.prog X.w H s.heap b (.frz ob2 (.dK m))from I.hok b _ e1);obtain⟨g1,_,_,ab,_,aa⟩:=hok;obtain⟨o3,g3,c3⟩:=aa.typeIs;exact Jj g3 c3 ea hc hd yw ⟨.bl _,H,I,rfl,q⟩
  ·cases e2
def KJ(a:Addr)(z:Str):D2:=fun x y S R=>y=.o (.ref a)/\((∃d,cC S x=some d/\cv d=true/\R (.d (.bool (!PyData.eqv d (.tuple [.str z])))) S)\/(x=.d (.dict [])/\R (.d (.bool true)) S))
theorem LA{a:Addr}{z:Str}:RO (yP a z) (KJ a z):=fun h o H S x y v u R Q hs hx hy ⟨ey,q⟩ c=>by
 subst ey;refine⟨hy,?_⟩;rcases q with ⟨d,e,sd,q⟩|⟨e,q⟩
 ·exact .inl ⟨d,eP hs e hx,sd,c o H S _ _ Ex.refl hs (xB _) q⟩
 ·subst e;exact .inr ⟨eP hs rfl hx,c o H S _ _ Ex.refl hs (xB _) q⟩
def iE(z:Str)(e:DE):DE:=fun δ S R=>e δ S fun x S1=>(∃d,cC S1 x=some d/\cv d=true/\R (.d (.bool (!PyData.eqv d (.tuple [.str z])))) S1)\/(x=.d (.dict [])/\R (.d (.bool true)) S1)
theorem Ny{a:Addr}{z:Str}{te:TE}{de:DE}(aa:RE te de):RE (tOp (yP a z) te (tC (.ref a))) (iE z de):=fun h o H δ σ S R Q he hs q c=>
 aa h o H δ σ S _ _ he hs q fun o1 H1 S1 x v e1 s1 x1 d1=>LA h o1 H1 S1 x (.o (.ref a)) v (.ref a) R Q s1 x1 rfl ⟨rfl,d1⟩ (c.pre e1)
end
section
def cutH(H:Hp)(A:List Addr):Hp:=fun b=>if b∈A then none else H b
theorem iV{H:Hp}{A:List Addr}{b:Addr}{u:HO}:cutH H A b=some u↔b∉A/\H b=some u:=by
 unfold cutH;split
 ·rename_i m;exact⟨fun z=>(by cases z),fun z=>absurd m z.1⟩
 ·rename_i m;exact⟨fun z=>⟨m,z⟩,fun z=>z.2⟩
theorem Cb{o:List Addr}{H:Hp}{A:List Addr}:Ex o (cutH H A) o H:=⟨⟨[],yv⟩,fun b u nb e=>⟨nb,(iV.mp e).2⟩⟩
abbrev PNm:=List XV->Sto->DM->(bc->Sto->DM->Prop)->Prop
def CnM(h o:List Addr)(H:Hp)(A:List Addr)(R:bc->Sto->DM->Prop)(Q:VK):Prop:=∀o' H' S' M' d v,Ex o (cutH H A) o' H'->ad M'=A->RepS (h++ad M') o' H' S'->RepM h o' H' M'->HasX (h++ad M') o' H' (.d d) v->R d S' M'->Q v H'
def lfM(q:PNm):List V->Hp->VK->Prop:=fun vs H Q=>∃h o S M xs R,RepS (h++ad M) o H S/\RepM h o H M/\HasXs (h++ad M) o H xs vs/\q xs S M R/\CnM h o H (ad M) R Q
def spM(ps:List Str)(q:PNm):Sp:=fun vs H Q _=>vs.length=ps.length/\lfM q vs H Q
def jL(R:bc->Sto->DM->Prop):DEndsM:={ nx:=fun _ S M=>R .none S M,rt:=fun x S M=>∃d,x=.d d/\R d S M }
theorem JG{h o:List Addr}{H:Hp}(r:RepS h o H []):o=[]:=df (by rw[<- r.len];rfl)
theorem B5{h o:List Addr}{H:Hp}{A:List Addr}{R:bc->Sto->DM->Prop}{Q:VK}(c:CnM h o H A R Q):EOkM h o (cutH H A) A (jL R) { nx:=fun _ H'=>Q .non H',rt:=Q } :=
 ⟨fun o' H' δ' S' M' σ' e ea he hs rm q=>c o' H' S' M' .none .non e ea hs rm xN q,fun o' H' S' M' x v e ea hs rm hx ⟨d,ed,q⟩=>by
  subst ed;exact c o' H' S' M' d v e ea hs rm hx q,fun _ _ _ _ _ _ _ _ _ _ _ q=>q.elim,fun _ _ _ _ _ _ _ _ _ _ _ q=>q.elim⟩
section
variable {h o o':List Addr}{H H':Hp}{M M':DM}{S:Sto}
theorem vQ{A:List Addr}:Same (vx (h++A) o H) (vx (h++o++A) [] H)/\Same (vx (h++o++A) [] H) (vx (h++A) o H):=by
 refine⟨fun b u e=>?_,fun b u e=>?_⟩
 ·obtain⟨z1,z2,z3⟩:=zN.mp e;refine zN.mpr ⟨fun z=>?_,fun z=>(by cases z),z3⟩;rcases mem_append.mp z with z|z
  ·rcases mem_append.mp z with z|z
   ·exact z1 (cu _ z)
   ·exact z2 z
  ·exact z1 (cw _ z)
 ·obtain⟨z1,_,z3⟩:=zN.mp e;refine zN.mpr ⟨fun z=>?_,fun z=>z1 (cu _ (cw _ z)),z3⟩;rcases mem_append.mp z with z|z
  ·exact z1 (cu _ (cu _ z))
  ·exact z1 (cw _ z)
def lV:XV->Bool
 | .d _=>true
 | .o _=>true
 | .i _ _=>true
 |_=>false
theorem BR{h':List Addr}(s:Same (vx h o H) (vx h' o' H')):∀{x:XV}{v:V},lV x=true->HasX h o H x v->HasX h' o' H' x v
 | .d d,v,_,q=>Has.mono s d v q
 | .o w,v,_,q=>q
 | .i C fs,v,_,q=>HasI.mono s q
theorem D1{h':List Addr}(s:Same (vx h o H) (vx h' o' H')):∀{xs:List XV}{vs:List V},xs.all lV=true->HasXs h o H xs vs->HasXs h' o' H' xs vs
 | [],_,_,q=>q
 |x::xs,vs,n,⟨v,r,e,q,l⟩=>by
  rw[all_cons,gc]at n;exact⟨v,r,e,BR s n.1 q,D1 s n.2 l⟩
theorem Kg{A:List Addr}{b:Addr}(m:b∈h++o++A):b∈(h++A)++o:=by
 rcases mem_append.mp m with z|z
 ·rcases mem_append.mp z with z|z
  ·exact cu _ (cu _ z)
  ·exact cw _ z
 ·exact cu _ (cw _ z)
theorem B2{q:PNm}{xs:List XV}{vs:List V}{o0:List Addr}{H0:Hp}{δ:XE}{σ:St}{R:bc->DM->Prop}{Q:VK}(e0:Ex o0 H0 o H)(fr:Fr H0 M)(he:RepE (h++ad M) o H δ σ)(hs:RepS (h++ad M) o H S)(rm:RepM h o H M)
  (hn:xs.all lV=true) (hx:HasXs (h++ad M) o H xs vs) (hq:q xs [] M fun d S' M'=>S'=[]/\R d M')
  (c:∀H' M' d v,Ex o0 H0 o H'->ad M'=ad M->RepE (h++ad M') o H' δ σ->RepS (h++ad M') o H' S->RepM h o H' M'->HasX (h++ad M') o H' (.d d) v->R d M'->Q v H'):lfM q vs H Q:=by
 have r0:=rep0 hs;refine⟨h++o,[],[],M,xs,_,⟨rfl,ux,fun a m=>(by cases m),fun b mb=>r0.hal b (Kg mb),fun k a ds e=>(by cases e)⟩,⟨rm.nd,fun a m=>⟨fun z=>?_,fun z=>(by cases z)⟩,fun a D m=>(rm.ct a D m).mono vQ.1 fun u z=>z⟩,D1 vQ.1 hn hx,hq,fun o' H' S' M' d v e ea ab aa ac ⟨z,qq⟩=>?_⟩
 ·rcases mem_append.mp z with z|z
  ·exact(rm.nh a m).1 z
  ·exact(rm.nh a m).2 z
 ·subst z;have z:=JG ab;subst z;have kp:∀b u,b∉ad M->H b=some u->H' b=some u:=fun b u nb z=>(e.kp b u (fun w=>(by cases w)) (iV.mpr ⟨nb,z⟩)).2;have sm:Same (vx (h++ad M) o H) (vx (h++ad M) o H'):=fun b u z=>by
   obtain⟨z1,z2,z3⟩:=zN.mp z;exact zN.mpr ⟨z1,z2,kp b u (fun w=>z1 (cw _ w)) z3⟩
  refine c H' M' d v ⟨e0.pre,fun b u nb z=>?_⟩ ea ?_ ?_ ?_ ?_ qq
  ·obtain⟨w1,w2⟩:=e0.kp b u nb z;exact⟨w1,kp b u (fun m=>by have:=fr b m;rw[this]at z;cases z) w2⟩
  ·rw[ea];exact he.view sm
  ·rw[ea]at ab ⊢;refine⟨hs.len,hs.nd,hs.dis,fun b mb=>ab.hal b ?_,fun k a ds e1 e2=>?_⟩
   ·rcases mem_append.mp mb with z|z
    ·exact cu _ (cu _ z)
    ·exact cw _ z
   ·obtain⟨ws,e3,l⟩:=hs.cont k a ds e1 e2;exact⟨ws,kp a _ (fun m=>(rm.nh a m).2 (ci e1)) e3,HasL.mono sm _ _ l⟩
  ·refine⟨aa.nd,fun a m=>⟨fun z=>(aa.nh a m).1 (cu _ z),fun z=>(aa.nh a m).1 (cw _ z)⟩,fun a D m=>(aa.ct a D m).mono vQ.2 fun u z=>z⟩
  ·exact BR vQ.2 rfl ac
end
abbrev DTm:=XE->Sto->DM->(Bool->Sto->DM->Prop)->Prop
theorem K1{p:Addr}{u:MO}{D0:DD}(hD:∀(G H:Hp),H p=some u.ho->DAt G H p D0){h o0:List Addr}{H0:Hp}{o:List Addr}{H:Hp}{δ:XE}{σ:St}{S:Sto}{M:DM}(e0:Ex o0 H0 o H)(fr:Fr H0 M)(he:RepE (h++ad M) o H δ σ)(hs:RepS (h++ad M) o H S)(rm:RepM h o H M)(hp:H p=none):
  p∉ad M/\Ex o0 H0 o (upd H p u.ho)/\Fr H0 (M++[(p,D0)])/\RepE (h++ad (M++[(p,D0)])) o (upd H p u.ho) δ σ/\RepS (h++ad (M++[(p,D0)])) o (upd H p u.ho) S/\RepM h o (upd H p u.ho) (M++[(p,D0)])/\Same (vx (h++ad M) o H) (vx (h++ad (M++[(p,D0)])) o (upd H p u.ho)):=by
 have nM:p∉ad M:=fun m=>by
  obtain⟨D2,_,z⟩:=rm.at m;obtain⟨w,ew⟩:=z.mo;rw[hp]at ew;cases ew
 have f1:=hs.fresh hp;have nh:p∉h:=fun m=>f1.1 (cu _ m);have sH:Same H (upd H p u.ho):=Same.laid hp;have H0p:H0 p=none:=by
  cases z:H0 p with
  |none=>rfl
  |some w=>
   by_cases m:p∈o0
   ·obtain⟨r,er⟩:=e0.pre;exact absurd (show p∈o by rw[er];exact cu _ m) f1.2
   ·have:=(e0.kp p w m z).2;rw[hp]at this;cases this
 have sv:Same (vx (h++ad M) o H) (vx (h++(ad M++[p])) o (upd H p u.ho)):=fun b w z=>by
  obtain⟨z1,z2,z3⟩:=zN.mp z;have ne:b≠p:=zJ z3 hp;refine zN.mpr ⟨fun m=>?_,z2,by rw[zC ne];exact z3⟩;rw[<- gy]at m;rcases mem_append.mp m with m|m
  ·exact z1 m
  ·exact ne (mem_singleton.mp m)
 refine⟨nM,e0.trans (Ex.of_same sH),fun a ma=>?_,?_,?_,?_,?_⟩
 ·rw[bB]at ma;rcases mem_append.mp ma with m|m
  ·exact fr a m
  ·rw[mem_singleton.mp m];exact H0p
 ·rw[bB];exact he.to sv
 ·rw[bB];refine⟨hs.len,hs.nd,fun a ma z=>?_,fun b mb=>?_,fun k b ds e1 e2=>?_⟩
  ·rw[<- gy]at z;rcases mem_append.mp z with z|z
   ·exact hs.dis a ma z
   ·rw[mem_singleton.mp z]at ma;exact f1.2 ma
  ·rw[<- gy]at mb;rcases mem_append.mp mb with m|m
   ·obtain⟨w,ew⟩:=hs.hal b m;exact⟨w,sH _ _ ew⟩
   ·rw[mem_singleton.mp m];exact⟨u,zF⟩
  ·obtain⟨vs,e3,l⟩:=hs.cont k b ds e1 e2;exact⟨vs,sH _ _ e3,HasL.mono sv _ _ l⟩
 ·refine⟨by rw[bB];exact mN rm.nd nM,fun a ma=>?_,fun a D2 m=>?_⟩
  ·rw[bB]at ma;rcases mem_append.mp ma with m|m
   ·exact rm.nh a m
   ·rw[mem_singleton.mp m];exact⟨nh,f1.2⟩
  ·rw[bB];rcases mem_append.mp m with m|m
   ·exact(rm.ct a D2 m).mono sv fun w z=>sH _ _ z
   ·have:=mem_singleton.mp m;cases this;exact hD _ _ zF
 ·rw[bB];exact sv
end
end L2
namespace L2
open PySem PySem.Spec PyProof.Rows
section
theorem mX{R:bc->Sto->DM->Prop}{d:bc}{S:Sto}{M:DM}:(jL R).rt (.d d) S M=R d S M:=propext ⟨fun⟨e,z,q⟩=>by cases z;exact q,fun q=>⟨d,rfl,q⟩⟩
theorem rE{d:bc}:lV (.d d)=true:=rfl
end
end L2
namespace L2
open PySem PySem.Spec PySem.Calls PyProof.Rows PySem.W
section
variable {X:Cx}
def sC:List XV->Sto->RX->Prop:=fun xs S R=>arg1 xs fun x=>∃ns:List Int,x=.d (.tuple (ns.map bp))/\ns.length<60/\∀ms:List Int,ms.Perm ns->ms.Pairwise (· ≥ ·)->R (.d (.list (ms.map bp))) S
end
end L2
namespace L2
open PySem PySem.Spec PyProof.Rows
section
abbrev DEm:=XE->Sto->DM->(XV->Sto->DM->Prop)->Prop
abbrev DAm:=XE->Sto->DM->(List XV->Sto->DM->Prop)->Prop
section
variable {h o o' o'' o0:List Addr}{H H' H'' H0:Hp}{A:List Addr}{δ:XE}{σ:St}
theorem u8:vx (h++A) o (cutH H A)=vx (h++A) o H:=by
 funext b;refine Option.ext fun u=>?_;rw[zN,zN,iV];exact⟨fun⟨z1,z2,_,z3⟩=>⟨z1,z2,z3⟩,fun⟨z1,z2,z3⟩=>⟨z1,z2,fun m=>z1 (cw _ m),z3⟩⟩
theorem Gk:∀{x:XV}{v:V},HasX (h++A) o H x v->HasX (h++A) o (cutH H A) x v
 | .d d,v,q=>by
  show Has (vx (h++A) o (cutH H A)) d v;rw[u8];exact q
 | .l k,v,q=>q
 | .o w,v,q=>q
 | .x C fs,v,q=>by
  show HasE (vx (h++A) o (cutH H A)) C fs v;rw[u8];exact q
 | .i C fs,v,q=>by
  show HasI (vx (h++A) o (cutH H A)) C fs v;rw[u8];exact q
 | .p k d,v,q=>by
  show HasLP (h++A) o (cutH H A) k d v;unfold HasLP;rw[u8];exact q
theorem HasX.cut{x:XV}{v:V}(q:HasX (h++A) o H x v)(e:Ex o (cutH H A) o' H'):HasX (h++A) o' H' x v:=(Gk q).mono e
theorem RepE.cut(r:RepE (h++A) o H δ σ)(e:Ex o (cutH H A) o' H'):RepE (h++A) o' H' δ σ:=⟨r.len,fun i x q=>by
 obtain⟨v,e1,e2⟩:=r.get i x q;exact⟨v,e1,e2.cut e⟩⟩
theorem Ex.cut1(e:Ex o H o' H'):Ex o (cutH H A) o' H':=⟨e.pre,fun b u nb z=>e.kp b u nb (iV.mp z).2⟩
theorem Ex.cut2(e:Ex o (cutH H A) o' H')(e2:Ex o' (cutH H' A) o'' H''):Ex o (cutH H A) o'' H'':=⟨by
 obtain⟨r,rfl⟩:=e.pre;obtain⟨r2,rfl⟩:=e2.pre;exact⟨r++r2,by rw[gy]⟩,fun b u nb z=>by
 obtain⟨z1,z2⟩:=e.kp b u nb z;exact e2.kp b u z1 (iV.mpr ⟨(iV.mp z).1,z2⟩)⟩
theorem Ex.cut0(e0:Ex o0 H0 o H)(fr:∀a∈A,H0 a=none)(e:Ex o (cutH H A) o' H'):Ex o0 H0 o' H':=⟨by
 obtain⟨r,rfl⟩:=e0.pre;obtain⟨r2,rfl⟩:=e.pre;exact⟨r++r2,by rw[gy]⟩,fun b u nb z=>by
 obtain⟨z1,z2⟩:=e0.kp b u nb z;exact e.kp b u z1 (iV.mpr ⟨fun m=>(by rw[fr b m]at z;cases z),z2⟩)⟩
theorem Ex.cutH(e:Ex o (cutH H A) o' H'):ExH (h++A) o H o' H':=⟨e.pre,fun b u nh nb z=>e.kp b u nb (iV.mpr ⟨fun m=>nh (cw _ m),z⟩)⟩
end
def REm(t:TE)(dt:DEm):Prop:=∀(h o:List Addr) (H:Hp) (δ:XE) (σ:St) (S:Sto) (M:DM) (R:XV->Sto->DM->Prop) (Q:VK),RepE (h++ad M) o H δ σ->RepS (h++ad M) o H S->RepM h o H M->dt δ S M R ->
 (∀o' H' S' M' x v,Ex o (cutH H (ad M)) o' H'->ad M'=ad M->RepS (h++ad M') o' H' S'->RepM h o' H' M'->HasX (h++ad M') o' H' x v->R x S' M'->Q v H')->t σ H Q
def kG(e:DEm)(g:DG):DSm:=fun En δ S M=>e δ S M fun x S1 M1=>g x δ S1 fun δ' S'=>En.nx δ' S' M1
def kN(e:DEm):DSm:=fun En δ S M=>e δ S M En.rt
def jP(n:Nat)(g:DG)(tt:DT)(te:DEm)(fin:Sto->DM->Prop):List bc->XE->Sto->DM->Prop
 | [],_,S,M=>fin S M
 |d::ds,τ,S,M=>g (.d d) τ S fun τ1 S1=>tt τ1 S1 fun b S2=>if b=true then te τ1 S2 M fun x S3 M3=>asD x fun e=>∃acc,S3[n]?=some acc/\acc.length<1000/\jP n g tt te fin ds τ1 (S3.set n (acc++[e])) M3 else jP n g tt te fin ds τ1 S2 M
def iB(caps:List (Option Nat))(i:DM->DI)(g:DG)(tt:DT)(te:DEm):DEm:=fun δ S M R=>i M δ S fun ds S1=>jP S1.length g tt te (fun S2 M2=>∃S0 acc,S2=S0++[acc]/\S0.length=S1.length/\R (.d (.list acc)) S0 M2) ds (eV caps δ) (S1++[[]]) M
section
variable {ta tb te:TE}{da db de:DEm}{tl:TA}{dl:DAm}{E:XK}{EX:EXD}
theorem Kx{g:TG}{dg:DG}(ha:REm te de)(hg:RG g dg):RSm E EX (jV te g) (kG de dg):=fun h o0 H0 o H δ σ S M En D e0 fr he hs rm q c x=>
 ha h o H δ σ S M _ _ he hs rm q fun o1 H1 S1 M1 y v e1 z s1 aa x1 d1=>hg (h++ad M1) o1 H1 δ σ S1 y v _ _ (by rw[z];exact he.cut e1) s1 x1 d1 fun o2 H2 δ2 S2 σ2 e2 ab ac n2=>c.nx o2 H2 δ2 S2 M1 σ2 (e0.cut0 fr (e1.cut2 e2.cut1)) z ab ac (aa.mono e2) n2
theorem Nh(ha:REm te de):RSm E EX (qH te) (kN de):=fun h o0 H0 o H δ σ S M En D e0 fr he hs rm q c x=>
 ha h o H δ σ S M _ _ he hs rm q fun o1 H1 S1 M1 y v e1 aa s1 z x1 d1=>c.rt o1 H1 S1 M1 y v (e0.cut0 fr e1) aa s1 z x1 d1
theorem RepM.pop{h o r:List Addr}{H:Hp}{M:DM}(rm:RepM h (o++r) H M):RepM h o H M:=⟨rm.nd,fun a m=>⟨(rm.nh a m).1,fun z=>(rm.nh a m).2 (cu _ z)⟩,fun a D m=>(rm.ct a D m).mono c9 fun u z=>z⟩
theorem Dz{caps:List (Option Nat)}{wi:TI}{g:TG}{tt:TT}{te:TE}{di:DM->DI}{dg:DG}{af:DT}{ae:DEm}(hi:∀M,RIp (PhM M) wi (di M))(hg:RG g dg)(ht:RT tt af)(ap:REm te ae):REm (l7 caps wi g tt te) (iB caps di dg af ae):=fun h o H δ σ S M R Q he hs rm q c=>by
 refine hi M (h++ad M) o H δ σ S _ _ he hs q (fun o1 H1 S1 ds J e1 s1 wk d1 D hD=>?_) ⟨h,rfl,rm⟩;have eN:Ex o1 H1 (o1++[D]) (upd H1 D (.lst [])):=Ex.new s1 hD;have sN:RepS (h++ad M) (o1++[D]) (upd H1 D (.lst [])) (S1++[[]]):=s1.new hD (zA.mpr rfl);have hn:S1.length=o1.length:=s1.len;have rN:RepM h (o1++[D]) (upd H1 D (.lst [])) M:=(rm.mono e1).mono eN;refine⟨fun i m τ H2=>m=ds.length-i/\i<=ds.length/\∃o2 δ2 S2 M2,Ex (o1++[D]) (L2.cutH (upd H1 D (.lst [])) (ad M)) o2 H2/\ad M2=ad M/\RepE (h++ad M) o2 H2 δ2 τ/\RepS (h++ad M) o2 H2 S2/\RepM h o2 H2 M2/\jP S1.length dg af ae (fun S2 M2=>∃S0 acc,S2=S0++[acc]/\S0.length=S1.length/\R (.d (.list acc)) S0 M2) (ds.drop i) δ2 S2 M2,⟨ds.length,yv,lh _,_,_,_,M,Ex.cut1 Ex.refl,rfl,((he.mono e1).mono eN).tau,sN,rN,d1⟩,?_⟩;rintro i m τ H2 ⟨rfl,hi,o2,δ2,S2,M2,e2,aa,ao,ab,ag,d2⟩;have eH:ExH (h++ad M) o1 H1 o2 H2:=eN.hid.trans e2.cutH;by_cases hlt:i<ds.length
 ·have ed:ds[i]?=some ds[i]:=bn hlt;rw[mf hlt]at d2;refine .inr ⟨wk.go i _ o2 H2 eH ed,fun x H3 y=>?_⟩;obtain⟨s3,hx⟩:=wk.yld i _ o2 H2 x H3 S2 eH ab ed y;have aj:Ex o2 H2 o2 H3:=Ex.of_same s3;refine hg (h++ad M) o2 H3 δ2 τ S2 (.d ds[i]) x _ _ (ao.mono aj) (ab.same s3) hx d2 fun o4 H4 δ4 S4 τ4 e4 ac aq d4=>?_;refine ht (h++ad M) o4 H4 δ4 τ4 S4 _ _ ac aq d4 fun o5 H5 S5 b e5 s5 d5=>?_;have ai:Ex o2 H2 o5 H5:=(aj.trans e4).trans e5;have am:Ex (o1++[D]) (L2.cutH (upd H1 D (.lst [])) (ad M)) o5 H5:=e2.cut2 ai.cut1;have ak:RepM h o5 H5 M2:=ag.mono ai;cases b with
  |false=>exact fK ⟨ds.length-(i+1),yw,rfl,hlt,o5,δ4,S5,M2,am,aa,ac.mono e5,s5,ak,by simpa using d5⟩
  |true=>
   refine fO (ap h o5 H5 δ4 τ4 S5 M2 _ _ (by rw[aa];exact ac.mono e5) (by rw[aa];exact s5) ak (by simpa using d5) fun o6 H6 S6 M6 z v e6 al s6 ar z6 d6=>?_);replace d6:=eE d6;obtain⟨e,rfl,acc,ea,hl,d6⟩:=d6;rw[aa]at e6;have ah:=am.cut2 e6;have eD:o6[S1.length]?=some D:=by
    obtain⟨r,rfl⟩:=ah.pre;rw[hn];exact fZ (by rw[bw])
   rw[al,aa]at s6 z6;obtain⟨vs,ev,l⟩:=s6.cont _ D acc eD ea;refine⟨vs,ev,by rw[l.length];exact small1000 (jn hl),ds.length-(i+1),yw,rfl,hlt,o6,δ4,_,M6,ah.cut2 (Ex.upd eD).cut1,al.trans aa,((ac.mono e5).cut e6).mono (Ex.upd eD),s6.upd eD (l.append (zp.mpr ⟨v,[],rfl,z6,zA.mpr rfl⟩)),ar.mono (Ex.upd eD),d6⟩
 ·have ei:i=ds.length:=yw
  subst ei;rw[drop_length]at d2;refine .inl ⟨wk.stop _ o2 H2 eH (dh _),?_⟩;obtain⟨S0,acc,eS,hl,f⟩:=d2;subst eS;have an:Ex o1 (L2.cutH H1 (ad M)) o2 H2:=eN.cut1.cut2 e2;obtain⟨r,rfl⟩:=e2.pre;have er:r=[]:=by
   have:=ab.len;simp only[ck,fq,hl]at this;exact df yw
  subst er;rw[jg]at ab an ag;have s0:RepS (h++ad M) o1 H2 S0:=ab.pop (hl.trans hn);refine c o1 H2 S0 M2 (.d (.list acc)) _ (e1.cut1.cut2 (Ex.pop (o':=o1) an)) aa (by rw[aa];exact s0) ag.pop ?_ f;obtain⟨vs,ev,l⟩:=ab.cont o1.length D acc (by rw[bw]) (by rw[<- hn,<- hl,bw]);have nD:D∉o1:=by
   have:=(nodup_append.mp ab.nd).2.2;intro m;exact this D m D yv rfl
  rw[aa];exact dA.mpr ⟨D,vs,rfl,zN.mpr ⟨ab.dis D yv,nD,ev⟩,l.mono c9⟩
end
end
section
section
variable {X:Cx}{zi:List (Addr×Obj)}{σ:St}{H:Hp}{s:bd}{a b:Addr}{ob:Obj}{g:KSg}{xs:List (KG g×Addr×bb)}{k:KG g}{r:bb}{v:V}{A:ft}{E:bb->bd->Prop}
theorem L1{Q:bb->bd->Prop}(hg:g.dp<=8)(hu:A.units+64<kq)(I:Inv X zi σ H s)(ga:GAt H a g ob xs)(hy:Has H (kdat g k) (.ref b))(h:∀s',Inv X zi σ H s'->Q (.bool (!(ua xs k).isSome)) s'):
  bo (model X.prog X.w) A (ir .NotIn (.ref b) (.ref a)) Q E s:=by
 obtain⟨e,hd,pd,hk⟩:=ga;refine wpAny_notIn_heap (knd:=lW X.prog X.w g hg) ?_ (gK I.hok g hy rfl) hd (mK hg I.hok e pd hk) (h _ (I.tok _));show A.units+1+g.dp<kq;omega
theorem IA{Q:bb->bd->Prop}{p:Addr×bb}(hg:g.dp<=8)(hu:A.units+64<kq)(I:Inv X zi σ H s)(ga:GAt H a g ob xs)(hy:Has H (kdat g k) (.ref b))(hp:ua xs k=some p)(h:∀s',Inv X zi σ H s'->Q p.2 s'):
  bo (model X.prog X.w) A (getItem (.ref a) (.ref b)) Q E s:=by
 obtain⟨e,hd,pd,hk⟩:=ga;refine wpAny_getItem_heap (knd:=lW X.prog X.w g hg) ?_ (gK I.hok g hy rfl) (mK hg I.hok e pd hk) hp (h _ (I.tok _));show A.units+1+g.dp<kq;omega
theorem OO{Q:Unit->bd->Prop}(hg:g.dp<=8)(hu:A.units+64<kq)(I:Inv X zi σ H s)(ga:GAt H a g ob xs)(hz:xs.length<1000)(hy:Has H (kdat g k) (.ref b))(h:∀ob' s',PDict g ob' (storedH xs k b r)->Inv X zi σ (upd H a (obO a ob')) s'->Q () s'):
  bo (model X.prog X.w) A (setItem (.ref a) (.ref b) r) Q E s:=by
 obtain⟨e,hd,pd,hk⟩:=ga;refine wpAny_setItem_heap (knd:=lW X.prog X.w g hg) (hsz:=jn (small1000 (jn hz))) ?_ (gK I.hok g hy rfl) (mK hg I.hok e pd hk) fun h' q hs=>?_
 ·show A.units+1+g.dp<kq;omega
 ·obtain⟨o',es,ep,q1,q2,q3,q4,_,q5⟩:=q;exact h o' _ ⟨q2,es,ep,q3,q4,q5⟩ (Bj I (by rw[e];exact sy) hs ⟨o',q1⟩ (A7 q1))
end
def C0(g:KSg)(n:Bool):R2:=fun y x H Q=>∃a ob xs k,x=.ref a/\GAt H a g ob xs/\Has H (kdat g k) y/\Q (.bl (if n=true then !(ua xs k).isSome else (ua xs k).isSome)) H
def BV(g:KSg)(td ty:TE):TE:=fun σ H Q=>td σ H fun x H1=>ty σ H1 fun y H2=>∃a ob xs k p v,x=.ref a/\GAt H2 a g ob xs/\Has H2 (kdat g k) y/\ua xs k=some p/\RelV v p.2/\Q v H2
def CC(g:KSg)(td ty tv:TE):TS:=fun D σ H=>tv σ H fun v H1=>td σ H1 fun x H2=>ty σ H2 fun y H3=>∃a ob xs k,x=.ref a/\GAt H3 a g ob xs/\xs.length<1000/\Has H3 (kdat g k) y/\∀ob' b r,y=.ref b->RelV v r->PDict g ob' (storedH xs k b r)->D.nx σ (upd H3 a (obO a ob'))
section
variable {X:Cx}{pos pos':Pos}{o i value:Expr}{td ty tv:TE}{g:KSg}
theorem NW(hg:g.dp<=8)(ht:g.tup=true)(hu:X.A.units+64<kq):OpR X (ir .NotIn) (C0 g true):=fun zi s σ H y x v u Q I ry rx ⟨a,ob,xs,k,e,ga,hy,q⟩=>by
 subst e;obtain⟨b,rfl⟩:=nJ ht hy;obtain rfl:v=dw b:=ry;obtain rfl:u=dw a:=rx;exact L1 hg hu I ga hy fun s3 I3=>⟨.bl _,H,I3,rfl,q⟩
theorem KU(hg:g.dp<=8)(ht:g.tup=true)(hu:X.A.units+64<kq)(ho:PE X o td)(hi:PE X i ty)(hs:NoSl i):PE X (.Subscript o i pos) (BV g td ty):=by
 intro zi s σ H Q I h;refine G5 PySem.F.slot_dict_getitem.lookup hs (thn (ho zi s σ H _ I h) fun u s1 ⟨x,H1,I1,rx,q1⟩=>thn (hi zi s1 σ H1 _ I1 q1) fun iv s2 ⟨y,H2,I2,ry,a,ob,xs,k,p,v,ex,ga,hy,hp,rv,q2⟩=>?_);subst ex;obtain⟨b,rfl⟩:=nJ ht hy;obtain rfl:u=dw a:=rx;obtain rfl:iv=dw b:=ry;exact⟨(mK hg I2.hok ga.1 ga.2.2.1 ga.2.2.2).typeIs,IA hg hu I2 ga hy hp fun s3 I3=>⟨v,H2,I3,rv,q2⟩⟩
theorem Lv(hg:g.dp<=8)(ht:g.tup=true)(hu:X.A.units+64<kq)(ho:PE X o td)(hi:PE X i ty)(hv:PE X value tv)(hs:swapsWith value (some (.Subscript o i pos')) pos.line X.env=pure false):
  PS X (.Assign [.Subscript o i pos'] value pos) (CC g td ty tv):=by
 intro zi s σ H D I h;refine wpAny_Assign_Subscript (thn (hv zi s σ H _ I h) fun r s1 ⟨v,H1,I1,rv,q1⟩=>thn (ho zi s1 σ H1 _ I1 q1) fun u s2 ⟨x,H2,I2,rx,q2⟩=>thn (hi zi s2 σ H2 _ I2 q2) fun iv s3 ⟨y,H3,I3,ry,a,ob,xs,k,ex,ga,hz,hy,q3⟩=>?_) hs;subst ex;obtain⟨b,rfl⟩:=nJ ht hy;obtain rfl:u=dw a:=rx;obtain rfl:iv=dw b:=ry;exact OO hg hu I3 ga hz hy fun q s4 z I4=>⟨σ,_,I4,q3 q b r rfl rv z⟩
end
def stG{g:KSg}(m:List (KG g×bc))(k:KG g)(d:bc):List (KG g×bc):=if (lkA m k).isSome=true then m.map fun p=>if p.1=k then (p.1,d)else p else m++[(k,d)]
section
variable {G:Hp}{g:KSg}
theorem PrG.map{k:KG g}{d:bc}{v:V}{r:bb}(h2:Has G d v)(h3:RelV v r):∀{m:List (KG g×bc)}{xs:List (KG g×Addr×bb)},PrG G g m xs->PrG G g (m.map fun p=>if p.1=k then (p.1,d)else p) (xs.map (putAt k r))
 | [],xs,q=>by rw[show xs=[]from q];rfl
 |p::m,xs,⟨q,t,e,e1,z1,z2,l⟩=>by
  subst e;by_cases hk:p.1=k
  ·rw[fm,cy hk];exact⟨(q.1,q.2.1,r),t.map (putAt k r),by rw[fm,show putAt k r q=(q.1,q.2.1,r)from cy (e1.trans hk)],e1,z1,⟨v,h2,h3⟩,PrG.map h2 h3 l⟩
  ·rw[fm,cr hk];exact⟨q,t.map (putAt k r),by rw[fm,show putAt k r q=q from cr (fun z=>hk (e1.symm.trans z))],e1,z1,z2,PrG.map h2 h3 l⟩
theorem PrG.put{k:KG g}{b:Addr}{d:bc}{v:V}{r:bb}{m:List (KG g×bc)}{xs:List (KG g×Addr×bb)}(h1:Has G (kdat g k) (.ref b))(h2:Has G d v)(h3:RelV v r)(l:PrG G g m xs):PrG G g (stG m k d) (storedH xs k b r):=by
 unfold stG;rcases l.at_ k with ⟨y1,y2⟩|⟨d',p',w',y1,y2,y3,y4⟩
 ·rw[y1,storedH_new y2];exact l.snoc h1 h2 h3
 ·rw[y1,storedH_old y2];exact l.map h2 h3
end
def lD(M:DM)(g:KSg)(n:Bool):D2:=fun y x S R=>asD y fun k=>∃a ob m kk,x=.o (.ref a)/\(a,DD.g g ob m)∈M/\k=kdat g kk/\R (.d (.bool (if n=true then !(lkA m kk).isSome else (lkA m kk).isSome))) S
def k6(M:DM)(g:KSg)(dd dy:DE):DE:=fun δ S R=>dd δ S fun x S1=>dy δ S1 fun y S2=>asD y fun k=>∃a ob m kk d,x=.o (.ref a)/\(a,DD.g g ob m)∈M/\k=kdat g kk/\lkA m kk=some d/\R (.d d) S2
theorem J0{M:DM}{g:KSg}{n:Bool}:ROp (PhM M) (C0 g n) (lD M g n):=fun h o H S y x v u R Q φ hs hy hx q c=>by
 obtain⟨k,rfl,a,ob,m,kk,rfl,mD,rfl,q2⟩:=eE q;obtain rfl:u=.ref a:=hx;obtain⟨h2,ab,z⟩:=φ;obtain⟨e3,aa,xs,pd,l⟩:=z.ct a (.g g ob m) mD;refine⟨a,ob,xs,kk,rfl,⟨e3,aa,pd,fun x mx=>Has.mono zZ _ _ (l.has x mx)⟩,Has.mono zZ _ _ (show Has _ _ v from hy),?_⟩;have:(ua xs kk).isSome=(lkA m kk).isSome:=by
  rcases l.at_ kk with ⟨y1,y2⟩|⟨d',p',w',y1,y2,y3,y4⟩<;>rw[y1,y2]<;>rfl
 rw[this];exact c o H S _ _ Ex.refl hs (xB _) q2
theorem Iw{M:DM}{g:KSg}{td ty:TE}{dd dy:DE}(hd:REp (PhM M) td dd)(hy:REp (PhM M) ty dy):REp (PhM M) (BV g td ty) (k6 M g dd dy):=fun h o H δ σ S R Q he hs q c w=>
 hd h o H δ σ S _ _ he hs q (fun o1 H1 S1 x v e1 s1 x1 d1=>hy h o1 H1 δ σ S1 _ _ (he.mono e1) s1 d1 (fun o2 H2 S2 y u e2 s2 y2 d2=>by
  obtain⟨k,rfl,a,ob,m,kk,d,rfl,mD,rfl,ed,n⟩:=eE d2;obtain rfl:v=.ref a:=x1;obtain⟨h2,z,aa⟩:=Stb.st (Φ:=PhM M) w (e1.trans e2);obtain⟨e3,ab,xs,pd,l⟩:=aa.ct a (.g g ob m) mD;rw[<- z]at l;rcases l.at_ kk with ⟨z1,z2⟩|⟨d',p',w',z1,z2,z3,z4⟩
  ·rw[z1]at ed;cases ed
  ·rw[z1]at ed;cases ed;exact⟨a,ob,xs,kk,p',w',rfl,⟨e3,ab,pd,fun x mx=>Has.mono zZ _ _ (l.has x mx)⟩,Has.mono zZ _ _ y2,z2,z4,c o2 H2 S2 (.d d) w' (e1.trans e2) s2 z3 n⟩) (Stb.st w e1)) w
end
section
structure Dt(K:cq)(C:Addr)(m qual:Str)(st:Stmt)(ps:List Str):Prop where
 ex:∃f fd,Fun K m qual st f fd/\Meth K C m f/\Binds K fd ps []
structure Dm(P:cz)(w:fy)(K:cq)(mg:Str->Option bb)(base:Heap)(C:Addr)(m:Str)(ps:List Str)(k:Nat)(sp:Sp):Prop where
 ex:∃f fd,FnOk P w K mg base CX0 k f fd ps sp/\Meth K C m f/\Binds K fd ps []
section
variable {P:cz}{w:fy}{K:cq}{mg:Str->Option bb}{base:Heap}{C:Addr}{m qual:Str}{st:Stmt}{N ps:List Str}{k:Nat}
theorem Dm.dM{q:PNm}(D:Dt K C m qual st ps)(S:FnScope N ps (zf st))(n:Nat)(hn:N.length=ps.length+n)
  (hbody:∀(f:Addr) (aa:bb) (A:ft) (outer:List Env) (s:bd) (H:Hp) (E:XK),Room k (A.deeper (ur qual (zf st) s.heap.objs.size f aa)) ->
   ∃t dt,PSs (eF CX0 P w K mg base N qual (zf st) f aa A outer s H E).nox (cA st) t/\RSm E0 (fun _ _=>False) t dt/\∀xs S M R,q xs S M R->dt (jL R) (xs.map some++bh n Option.none) S M):Dm P w K mg base C m ps (k+1) (spM ps q):=by
 obtain⟨f,fd,F,hm,hb⟩:=D.ex;refine⟨f,fd,F.ok S (fun vs H Q E h=>h.1) fun aa A outer s H vs Q E hr ⟨hl,h,o,S',M,xs,R,ab,rm,hx,hq,c⟩=>?_,hm,hb⟩;obtain⟨t,dt,h1,h2,h3⟩:=hbody f aa A outer s H E hr;refine⟨t,h1,h2 h o (cutH H (ad M)) o H _ _ S' M _ _ Cb (fun a m=>?_) ?_ ab rm (h3 xs S' M R hq) (B5 c) fun _ _ _ _ _ _ _ _ _ z=>z.elim⟩
 ·unfold cutH;rw[cy m]
 ·have e:N.length-vs.length=n:=yw
  unfold start;rw[e];exact vA hx
theorem Dm.noneM(D:Dt K C m qual st ps):Dm P w K mg base C m ps k (spM ps fun _ _ _ _=>False):=by
 obtain⟨f,fd,F,hm,hb⟩:=D.ex;have no:∀{vs H Q E},spM ps (fun _ _ _ _=>False) vs H Q E->False:=fun {vs H Q E} h=>by
  obtain⟨_,h,o,S,M,xs,R,_,_,_,q,_⟩:=h;exact q
 exact⟨f,fd,⟨fun _ _ _ _ h=>(no h).elim,fun _ _ _ _ _ _ _ _ _ _ _ _ _ h=>(no h).elim⟩,hm,hb⟩
end
section
variable {X:Cx}{C:Addr}{m:Str}{ps:List Str}{k j:Nat}{pos apos:Pos}{o e:Expr}{es:List Expr}{ta:TE}{t:TA}
theorem vR{pl:Sem Bool}{q:PNm}(c:Cls X.K C)(D:Dm X.prog X.w X.K X.mg X.base C m ps k (spM ps q))(hr:Room j X.A)(hk:k<=j)(he:PE X o ta)(ha:PA X (e::es) t)
  (hst:dq (e::es) X.env=(false,eval e X.env)::dq es X.env:=by rfl) (hpl:(ow pos (dq es X.env)).any (·.1)=false:=by rfl)
  (ht:eval (.Call (.Attribute o m apos) (e::es) [] pos) X.env=(do
   let ov <- eval o X.env
   standAt apos.atName
   let (f,first) <- holding [ov] (getMethod ov m pl)
   callWith pos f first (ow pos (dq (e::es) X.env)) (backToKw pos (keywordEach [] X.env))):=by rfl):
  PE X (.Call (.Attribute o m apos) (e::es) [] pos) (sI C m (spM ps q) [] E0 ta t):=by
 obtain⟨f,fd,F,hm,hb⟩:=D.ex;exact Nt (dvs:=[]) (ds:=[]) (E:=E0) he c hm F (hr.mono hk) hb .nil pass0 ha hst hpl ht
end
def mH(R:RX):bc ⊕ V->Sto->Prop
 | .inl d,S=>R (.d d) S
 | .inr w,S=>R (.o w) S
def eO(C:Addr)(f:Str)(de:DE):DE:=fun δ S R=>de δ S fun x S1=>∃fs e,x=.i C fs/\fs.lookup f=some e/\mH R e S1
def gF(C:Addr)(m:Str)(n:Nat)(q:PNm)(de:DM->DE)(da:DM->DA):DEm:=fun δ S M R=>de M δ S fun x S1=>∃fs,x=.i C fs/\fs.lookup m=none/\da M δ S1 fun xs S2=>xs.length+1=n/\xs.all lV=true/\q (x::xs) [] M fun d S' M'=>S'=[]/\R (.d d) S2 M'
section
variable {K:cq}{C:Addr}{f m:Str}{Φ:Phi} [Stb Φ] {ta:TE}{da:DE}
theorem mB(c:Cls K C)(n:NoAttr K C f)(ha:REp Φ ta da):REp Φ (CW K ta f) (eO C f da):=fun h o H δ σ S R Q he hs q cn w=>
 ha h o H δ σ S _ _ he hs q (fun o1 H1 S1 x v e1 s1 x1 ⟨fs,e,ex,l,d1⟩=>by
  subst ex;obtain⟨a,dx,vs,rfl,ea,hn,hf⟩:=x1;obtain⟨u,eu,hu⟩:=hf f e l;refine⟨a,C,dx,vs,u,rfl,zZ _ _ ea,c,n,eu,?_⟩;cases e with
  |inl d=>exact cn o1 H1 S1 (.d d) u e1 s1 hu d1
  |inr w=>exact cn o1 H1 S1 (.o w) u e1 s1 hu d1) w
theorem A9{ps:List Str}{q:PNm}{n:Nat}{tl:TA}{de:DM->DE}{dl:DM->DA}(ac:∀M,REp (PhM M) ta (de M))(ab:∀M,RAp (PhM M) tl (dl M))(hm:ps.length=n:=by rfl):REm (sI C m (spM ps q) [] E0 ta tl) (gF C m n q de dl):=fun h o H δ σ S M R Q he hs rm w c=>
 ac M (h++ad M) o H δ σ S _ _ he hs w (fun o1 H1 S1 x v e1 s1 x1 ⟨fs,ex,lk,d1⟩=>by
  subst ex;obtain⟨a,dx,vs,rfl,ea,hn,hf⟩:=id x1;refine⟨a,dx,vs,rfl,zZ _ _ ea,hn m lk,ab M (h++ad M) o1 H1 δ σ S1 _ _ (he.mono e1) s1 d1 (fun o2 H2 S2 xs us e2 s2 x2 ⟨hl,ag,d2⟩=>?_) ⟨h,rfl,rm.mono e1⟩⟩;have hv:=x2.len;rw[jg];have z:=e1.trans e2;refine⟨by rw[cx,hv,hm,hl],B2 (o0:=o) (H0:=L2.cutH H (ad M)) z.cut1 (fun a m=>by unfold L2.cutH;rw[cy m]) (he.mono z) s2 (rm.mono z) (xs:=.i C fs::xs) ?_ ⟨_,us,rfl,x1.mono e2,x2⟩ d2 fun H' M' d v e3 ah ai aa af ae r=>c o2 H' S2 M' (.d d) v e3 ah aa af ae r⟩;rw[all_cons,ag];rfl) ⟨h,rfl,rm⟩
end
def uW(C:Addr)(f1 f2 f3:Str):Sp:=fun vs H Q _=>∃x v1 v2 dx,vs=[.ref x,v1,v2]/\H x=some (.ins C dx [])/\∀p,H p=none->(p==jt)=false->Q .non (upd (upd H x (.ins C dx [(f1,v1),(f2,v2),(f3,.ref p)])) p (obO p ob0))
theorem lk3{α:Type}{f1 f2 f3 f:Str}{x y z:α}:([(f1,x),(f2,y),(f3,z)]:List (Str×α)).lookup f=if f=f1 then some x else if f=f2 then some y else if f=f3 then some z else none:=by
 have b:∀g:Str,(f==g)=decide (f=g):=fun g=>by
  by_cases e:f=g
  ·subst e;simp
  ·simp[e]
 rw[lu,lu,lu,b,b,b];by_cases h1:f=f1
 ·rw[cy h1,fz h1]
 ·rw[cr h1,ff h1];by_cases h2:f=f2
  ·rw[cy h2,fz h2]
  ·rw[cr h2,ff h2];by_cases h3:f=f3
   ·rw[cy h3,fz h3]
   ·rw[cr h3,ff h3];rfl
def kW(C:Addr)(f1 f2 f3:Str)(g:KSg)(n:Nat)(q:PNm)(da db:DE)(dl:DA):DE:=fun δ S R=>da δ S fun x S1=>db δ S1 fun y S2=>∃d1 d2,x=.d d1/\y=.d d2/\dl δ S2 fun xs S3=>xs.length+1=n/\xs.all lV=true/\∀p,q (.i C [(f1,.inl d1),(f2,.inl d2),(f3,.inr (.ref p))]::xs) [] [(p,.g g ob0 [])] fun d S' _=>S'=[]/\R (.d d) S3
theorem Fp{C:Addr}{f1 f2 f3 m:Str}{g:KSg}{ps:List Str}{q:PNm}{n:Nat}{ta tb:TE}{tl:TA}{da db:DE}{dl:DA}(ha:RE ta da)(hb:RE tb db)(hl:RA tl dl)(hf:f1≠f2/\f1≠f3/\f2≠f3/\m≠f1/\m≠f2/\m≠f3)(hm:ps.length=n:=by rfl):
  RE (sI C m (spM ps q) [] E0 (yE C (uW C f1 f2 f3) [] E0 (gZ ta (gZ tb j7))) tl) (kW C f1 f2 f3 g n q da db dl):=fun h o H δ σ S R Q he hs w cn=>
 ha h o H δ σ S _ _ he hs w fun o1 H1 S1 x v e1 s1 x1 d1=>hb h o1 H1 δ σ S1 _ _ (he.mono e1) s1 d1 fun o2 H2 S2 y u e2 s2 y2 ⟨b1,b2,ex,ey,d2⟩=>by
  subst ex ey;intro a dx ae ai ne;obtain⟨n1,n2,n3,n4,n5,n6⟩:=hf;refine⟨a,v,u,dx,rfl,zF,fun p hp an=>⟨rfl,?_⟩⟩;rw[F0];have aa:p≠a:=fun z=>by rw[z,zF]at hp;cases hp
  rw[zC aa]at hp;have af:p≠dx:=fun z=>by rw[z,zF]at hp;cases hp
  rw[zC af]at hp;have sm:Same H2 (upd (upd H2 dx (.own a)) a (.ins C dx [(f1,v),(f2,u),(f3,.ref p)])):=(Same.laid ai).trans (Same.laid (by rw[zC (gq ne)];exact ae));have ag:upd (upd H2 dx (.own a)) a (.ins C dx [(f1,v),(f2,u),(f3,.ref p)]) p=none:=by rw[zC aa,zC af];exact hp
  have ac:upd (upd H2 dx (.own a)) a (.ins C dx [(f1,v),(f2,u),(f3,.ref p)]) a=some (.ins C dx [(f1,v),(f2,u),(f3,.ref p)]):=zF;generalize upd (upd H2 dx (.own a)) a (.ins C dx [(f1,v),(f2,u),(f3,.ref p)])=H3 at sm ag ac ⊢;have e3:Ex o2 H2 o2 H3:=Ex.of_same sm;have ab:=e2.trans e3;have hn:h++ad ([]:DM)=h:=jg h;obtain⟨_,m1,m2,m3,m4,m5,m6⟩:=K1 (p:=p) (u:=.x p ob0) (D0:=.g g ob0 []) (fun G H z=>⟨z,an,[],pd0 g,rfl⟩) (h:=h) (M:=[]) (Ex.refl (o:=o2) (H:=H3)) (fun a m=>(by cases m)) (by rw[hn];exact he.mono (e1.trans ab)) (by rw[hn];exact s2.same sm) ⟨ux,fun a m=>(by cases m),fun a D m=>(by cases m)⟩ ag;rw[hn]at m6;have fa:=s2.fresh ae;have as:f2≠f1:=gq n1;have ao:f3≠f1:=gq n2;have f3'':f3≠f2:=gq n3;have hv:Has (vx (h++ad [(p,DD.g g ob0 [])]) o2 (upd H3 p (obO p ob0))) b1 v:=Has.mono m6 _ _ (show HasX h o2 H3 (.d b1) v from x1.mono ab);have hu:Has (vx (h++ad [(p,DD.g g ob0 [])]) o2 (upd H3 p (obO p ob0))) b2 u:=Has.mono m6 _ _ (show HasX h o2 H3 (.d b2) u from y2.mono e3);have hI:HasX (h++ad [(p,DD.g g ob0 [])]) o2 (upd H3 p (obO p ob0)) (.i C [(f1,.inl b1),(f2,.inl b2),(f3,.inr (.ref p))]) (.ref a):=by
   refine⟨a,dx,[(f1,v),(f2,u),(f3,.ref p)],rfl,zN.mpr ⟨fun z=>?_,fa.2,by rw[zC (gq aa)];exact ac⟩,fun f l=>?_,fun f e l=>?_⟩
   ·rcases mem_append.mp z with z|z
    ·exact fa.1 z
    ·exact aa (mem_singleton.mp z).symm
   ·rw[lk3]at l ⊢;by_cases h1:f=f1
    ·rw[cy h1]at l;cases l
    ·rw[cr h1]at l ⊢;by_cases h2:f=f2
     ·rw[cy h2]at l;cases l
     ·rw[cr h2]at l ⊢;by_cases h3:f=f3
      ·rw[cy h3]at l;cases l
      ·rw[cr h3]
   ·rw[lk3]at l ⊢;by_cases h1:f=f1
    ·rw[cy h1]at l ⊢;cases l;exact⟨v,rfl,hv⟩
    ·rw[cr h1]at l ⊢;by_cases h2:f=f2
     ·rw[cy h2]at l ⊢;cases l;exact⟨u,rfl,hu⟩
     ·rw[cr h2]at l ⊢;by_cases h3:f=f3
      ·rw[cy h3]at l ⊢;cases l;exact⟨_,rfl,rfl⟩
      ·rw[cr h3]at l;cases l
  refine⟨a,dx,[(f1,v),(f2,u),(f3,.ref p)],rfl,by rw[zC (gq aa)];exact ac,by rw[lk3,cr n4,cr n5,cr n6],?_⟩;refine hl (h++ad [(p,DD.g g ob0 [])]) o2 (upd H3 p (obO p ob0)) δ σ S2 _ _ m3 m4 d2 fun o5 H5 S5 xs us e5 s5 x5 ⟨ah,am,d5⟩=>?_;have ak:=x5.len;rw[jg];refine⟨by rw[cx,ak,hm,ah],B2 (o0:=o2) (H0:=H3) (m1.trans e5) m2 (m3.mono e5) s5 (m5.mono e5) (xs:=.i C [(f1,.inl b1),(f2,.inl b2),(f3,.inr (.ref p))]::xs) ?_ ⟨_,us,rfl,hI.mono e5,x5⟩ (R:=fun d _=>R (.d d) S5) (d5 p) fun H' M' d v e6 ar ap aj aq al r=>cn o5 H' S5 (.d d) v ((e1.trans ab).trans e6) aj.less al.less r⟩;rw[all_cons,am];rfl
theorem G8{K:cq}{C:Addr}{f1 f2 f3:Str}(c:Cls K C)(n1:NoAttr K C f1)(n2:NoAttr K C f2)(n3:NoAttr K C f3)(hf:f1≠f2/\f1≠f3/\f2≠f3){vs:List V}{H:Hp}{Q:VK}{E:XK}(h:uW C f1 f2 f3 vs H Q E):
  cH (i9 K (b0 0) (b0 1) f1) (cH (i9 K (b0 0) (b0 2) f2) (i9 K (b0 0) vF f3)) { nx:=fun _ H'=>Q .non H',rt:=Q } (vs.map some) H:=by
 obtain⟨x,v1,v2,dx,rfl,hx,q⟩:=h;obtain⟨m1,m2,m3⟩:=hf;refine⟨v1,rfl,.ref x,rfl,x,C,dx,[],rfl,hx,c,n1,by decide,?_⟩;refine⟨v2,rfl,.ref x,rfl,x,C,dx,_,rfl,zF,c,n2,by simp[bM],?_⟩;intro p hp ab;have aa:p≠x:=fun z=>by rw[z,zF]at hp;cases hp
 rw[F0,zC aa]at hp;refine⟨.ref x,rfl,x,C,dx,_,rfl,by rw[zC (gq aa),zF],c,n3,by simp[bM,m1],?_⟩;have e:bM f3 (.ref p) (bM f2 v2 (bM f1 v1 []))=[(f1,v1),(f2,v2),(f3,.ref p)]:=by simp[bM,m1,m2,m3]
 rw[e];have eH:upd (upd (upd (upd H x (.ins C dx (bM f1 v1 []))) x (.ins C dx (bM f2 v2 (bM f1 v1 [])))) p (obO p ob0)) x (.ins C dx [(f1,v1),(f2,v2),(f3,.ref p)])=upd (upd H x (.ins C dx [(f1,v1),(f2,v2),(f3,.ref p)])) p (obO p ob0):=by
  funext b;by_cases hb:b=x
  ·subst hb;rw[zF,zC (gq aa),zF]
  ·by_cases hb2:b=p
   ·subst hb2;rw[zC hb,zF,zF]
   ·rw[zC hb,zC hb2,zC hb,zC hb,zC hb2,zC hb]
 show Q .non _;rw[eH];exact q p hp ab
structure Dk(P:cz)(w:fy)(K:cq)(mg:Str->Option bb)(base:Heap)(x:Str)(C:Addr)(ps:List Str)(k:Nat)(sp:Sp):Prop where
 ex:∃f fd,Mk K C f/\FnOk P w K mg base CX0 k f fd ps sp/\mg x=some (.ref C)/\Binds K fd ps []
structure Dki(K:cq)(mg:Str->Option bb)(x:Str)(C:Addr)(qual:Str)(st:Stmt)(ps:List Str):Prop where
 ex:∃f fd,Mk K C f/\Fun K "__init__" qual st f fd/\mg x=some (.ref C)/\Binds K fd ps []
theorem Dk.mk3{P:cz}{w:fy}{K:cq}{mg:Str->Option bb}{base:Heap}{x:Str}{C:Addr}{qual:Str}{st:Stmt}{p0 p1 p2 f1 f2 f3:Str}{k:Nat}(D:Dki K mg x C qual st [p0,p1,p2])(S:FnScope [p0,p1,p2] [p0,p1,p2] (zf st))(c:Cls K C)(n1:NoAttr K C f1)(n2:NoAttr K C f2)(n3:NoAttr K C f3)(hf:f1≠f2/\f1≠f3/\f2≠f3)
  (hbody:∀(f:Addr) (q:bb) (A:ft) (outer:List Env) (s:bd) (H:Hp) (E:XK),Room k (A.deeper (ur qual (zf st) s.heap.objs.size f q)) ->
   PSs (eF CX0 P w K mg base [p0,p1,p2] qual (zf st) f q A outer s H E).nox (cA st) (cH (i9 K (b0 0) (b0 1) f1) (cH (i9 K (b0 0) (b0 2) f2) (i9 K (b0 0) vF f3)))):Dk P w K mg base x C [p0,p1,p2] (k+1) (uW C f1 f2 f3):=by
 obtain⟨f,fd,M,F,hm,hb⟩:=D.ex;refine⟨f,fd,M,F.ok S (fun vs H Q E h=>?_) fun q A outer s H vs Q E hr h=>⟨_,hbody f q A outer s H E hr,?_⟩,hm,hb⟩
 ·obtain⟨_,_,_,_,rfl,_⟩:=h;rfl
 ·have:=G8 c n1 n2 n3 hf h;obtain⟨_,_,_,_,rfl,_⟩:=h;exact this
section
variable {X:Cx}{x:Str}{C:Addr}{ps:List Str}{k j:Nat}{pos p:Pos}{e:Expr}{es:List Expr}{t:TA}{sp:Sp}
theorem JT(D:Dk X.prog X.w X.K X.mg X.base x C ps k sp)(hr:Room j X.A)(hk:k+1<=j)(ha:PA X (e::es) t)(hg:Gl X x:=by rfl)(q:(x==("__debug__":Str))=false:=by decide)
  (q1:dq (e::es) X.env=(false,eval e X.env)::dq es X.env:=by rfl) (q2:((ow pos (dq es X.env)).any fun x=>x.fst)=false:=by rfl):PE X (.Call (.Name x p) (e::es) [] pos) (yE C sp [] E0 t):=by
 obtain⟨f,fd,M,F,hm,hb⟩:=D.ex;exact Hw (dvs:=[]) (ds:=[]) (E:=E0) M F (hr.mono hk) hg hm hb .nil pass0 ha q q1 q2
end
end
end L2
namespace L2
open PySem PySem.Spec PySem.Calls PyProof.Rows
open Sem (wp)
theorem OM(a f:bb):argsOk "min" ⟨[a],[(ju "key",f)]⟩:=by unfold argsOk;kernel_rfl
section
variable {X:Cx}{zi:List (Addr×Obj)}{σ:St}{H:Hp}{s:bd}{k:Nat}{x:Str}{caps:List Str}{qual:Str}{params:uv}{body:Expr}{scope:Scope}{cl:List (Str×Addr)}{pm ctv:bb}{c' f l:Addr}{cs xs:List V}{Q:VK}{t:TE}{E:bb->bd->Prop}
theorem OF{W:Nat->V->Int->Hp->Prop}(SC:LamScope [x] caps scope)(hr:Room (k+2) X.A)(q:∀u,tm (PySem.W.kla_fn "<lambda>" qual params body scope cl pm (.ref c') ctv) ⟨[u],[]⟩=pure [(x,u)])
  (hb:∀s H,PE (cxL X.prog X.w X.K X.mg X.base ([x]++caps) qual scope cl f (.ref c') X.A.in1 X.stack s H) body t) (hW:MinW l xs.length cs t Q W)
  (I:Inv X zi σ H s) (hl:H l=some (.lst xs)) (h0:xs≠[]) (h1:∀v,xs[0]?=some v->t (some v::cs.map some) H fun kv H'=>∃j,kv=.int j/\W 1 v j H')
  (hf:H f=some (.frz (lT qual params body scope cl pm c' ctv) (.own 0))) (hc:CodeFz H c' qual) (C:Caps H s.heap cl caps cs):
  bo (model X.prog X.w) X.A (call (.builtin "min") [.ref l] [(ju "key",.ref f)]) (EP X zi σ Q) E s:=by
 have nm:(vc "min" ++ vc ".loop":String) = "min.loop":=by decide
 have e0:Env0 X.prog X.w X.K X.mg X.base X.A.in1 X.stack s H:=I.env0.in1;have hh:X.A.in1.handled=none:=hr.hd;obtain⟨hz,af,cap,rv,el⟩:=(show ObjOk X.prog X.w H s.heap l (.lst xs)from I.hok l _ hl);have ar:s.heap.IsList l af.toArray:=⟨_,el,rfl,_,rfl⟩;have lt:l<s.heap.objs.size:=fj el;have ac:∀b∈frs X.stack,b<s.heap.objs.size:=fun b hb=>by
  obtain⟨_,o,ho,_⟩:=I.stack.mem hb;exact fj ho
 have cb:∀x c,cl.lookup x=some c->c<s.heap.objs.size:=fun x c e=>by
  obtain⟨_,v,o,ho,_⟩:=C.free x c e;exact fj ho
 have b1:X.base.objs.size<=s.heap.objs.size:=e0.bsz;refine kmk_tree F.kind_min F.plain_min F.entry_min (OM _ _) ?_;show bo _ X.A.in1 (Builtin.Builtins.bindParams "min" ["key","default"] 0 ⟨[],[(ju "key",.ref f)]⟩ >>= _) _ _ s;refine ba (wpAny_of_eq (show Builtin.Builtins.bindParams "min" ["key","default"] 0 ⟨[],[(ju "key",.ref f)]⟩=pure [some (.ref f),none]from rfl) (ba (be (ba (oo ar ?_)))));refine ba (gb ?_);rw[nm];have z1:(s.heap.push { cls:=.type "list_iterator",data:=.fields #[.ref l,.int 0 0] }).objs.size=s.heap.objs.size+1:=qa ..;generalize hg1:s.heap.push { cls:=.type "list_iterator",data:=.fields #[.ref l,.int 0 0] } = g1 at z1 ⊢;have gI:g1.get? s.heap.objs.size=some { cls:=.type "list_iterator",data:=.fields #[.ref l,.int 0 0] }:=by rw[<- hg1];exact bv _ rfl
 have av:∀b o,s.heap.get? b=some o->g1.get? b=some o:=fun b o e=>by rw[<- hg1];exact bf _ e
 generalize hg2:g1.push { cls:=.type "list",data:=.seq #[] } = g2;have gS:g2.get? g1.objs.size=some (qk "list" #[] 0):=by rw[<- hg2];exact bv _ rfl
 have ap:∀b o,g1.get? b=some o->g2.get? b=some o:=fun b o e=>by rw[<- hg2];exact bf _ e
 have kp:∀b o,s.heap.get? b=some o->g2.get? b=some o:=fun b o e=>ap b o (av b o e);have zz:s.heap.objs.size<=g2.objs.size:=gm (show s.heap.objs.size<=g1.objs.size by rw[z1];exact le_succ _) (jn (fj gS));have I2:Inv X zi σ H { s with heap:=g2 }:=I.kept (t':=s.toks) kp;have e2:Env0 X.prog X.w X.K X.mg X.base X.A.in1 X.stack { s with heap:=g2 } H:=I2.env0.in1;have ab:g1.objs.size≠s.heap.objs.size:=by rw[z1];exact Nat.succ_ne_self _
 have i2:s.heap.objs.size<=g1.objs.size:=by rw[z1];exact le_succ _
 have nI:H s.heap.objs.size=none:=I.hok.fresh (dh _);have nS:H g1.objs.size=none:=I.hok.fresh i2;have ai:s.heap.objs.size∉frs X.stack:=fun m=>absurd (ac _ m) (nj _);have ak:g1.objs.size∉frs X.stack:=fun m=>absurd (fw (ac _ m) i2) (nj _);have U2:Un (frs X.stack) [] H H s.heap g2:=Un.kept kp;have C2:Caps H g2 cl caps cs:=C.after U2;have am:g2.IsList l af.toArray:=⟨_,kp _ _ el,rfl,_,rfl⟩;have au:g2.IsListIter s.heap.objs.size l 0:=⟨_,ap _ _ gI,rfl,rfl⟩;refine be ⟨jp iu _,?_⟩;show ol _ X.A (.builtin "min.loop" ⟨[.ref s.heap.objs.size,.ref f,.ref g1.objs.size],[]⟩) _ { s with heap:=g2 };refine ra (R:=fun r s'=>match r with | .ok (.ret u)=>CE X.stack X.prog X.w H s Q u s'|_=>False) ?_ fun r s' z=>?_
 rotate_left
 ·cases r with
  |error e=>exact z.elim
  |ok fl=>
   cases fl with
   |ret u=>exact I.after z
   |next=>exact z.elim
   |brk=>exact z.elim
   |cont=>exact z.elim
 refine jb qx ?_;rw[gu iu _];show bo _ X.A.in1 (ug (.ref g1.objs.size) >>= _) _ _ _;refine ba (iy gS rfl ?_);show bo _ X.A.in1 (vd (nv (.ref s.heap.objs.size)) _ >>= _) _ _ _;cases hxs:xs with
 |nil=>exact absurd hxs h0
 |cons v r=>
  have hx:xs[0]?=some v:=by rw[hxs];rfl
  obtain⟨u,eu,ru⟩:=rv.get hx;refine ba (ni (wpAny_pyNext_list_item (s:={ s with heap:=g2 }) au am (x:=u) (by simpa using eu) fun h3 an al=>?_));have k3:∀b o,b≠s.heap.objs.size->g2.get? b=some o->h3.get? b=some o:=fun b o nb e=>al.extBut b o nb e;have e3:Env0 X.prog X.w X.K X.mg X.base X.A.in1 X.stack { s with heap:=h3 } H:=e2.own nI b1 ai k3 (le_of_eq al.1.symm) s.toks;have C3:Caps H h3 cl caps cs:=C2.own (fun x c e=>ge (cb x c e)) k3;show bo _ X.A.in1 (vd (holding [u] (call (.ref f) [u])) _ >>= _) _ _ _;refine ba (ni (iq (Fc (k:=k) (s:={ s with heap:=h3 }) SC hr.in1 e3 hf hc q ru C3 (hb _ _) (h1 v hx) fun u2 s2 z=>?_)));obtain⟨kv,H2,aw,aa,U3,ao,r2,j,rfl,hj⟩:=z;obtain⟨t2,rfl⟩:=r2;have aj:=k3 _ _ ab gS;have ag:=U3.keep _ _ aj nS ak yv;obtain⟨oI,eI,cI,dI⟩:=id an;have ae:=U3.keep _ _ eI nI ai yv;have aq:H2 s.heap.objs.size=none:=U3.free _ _ eI nI yv;have ah:H2 g1.objs.size=none:=U3.free _ _ aj nS yv;have bz:X.base.objs.size<=s2.heap.objs.size:=gm b1 (jn (fj ae));have e4:=e3.after U3 ao aa bz;have U4:Un (frs X.stack) [] H H2 s.heap s2.heap:=(lN U2 (dh _) k3).trans U3;have s3:=ie s2.heap g1.objs.size (ix fun _=>#[u,.int j t2]);obtain⟨cc,as⟩:∃cc,(s2.heap.update g1.objs.size (ix fun _=>#[u,.int j t2])).get? g1.objs.size=some (qk "list" #[u,.int j t2] cc):=⟨_,get?_update_seq ag fun _=>#[u,.int j t2]⟩;have k4:∀b o,b≠g1.objs.size->s2.heap.get? b=some o->(s2.heap.update g1.objs.size (ix fun _=>#[u,.int j t2])).get? b=some o:=fun b o nb e=>(s3.2 b nb).trans e;show bo _ X.A.in1 (uy g1.objs.size (fun _=>#[u,.int j t2]) >>= _) _ _ _;refine ba (li ag rfl ?_);rw[nm];refine be ⟨jp iu _,Iq (k:=k) SC hr q hb hW b1 (dh _) i2 ab cb ac r.length 1 { s2 with heap:=s2.heap.update g1.objs.size (ix fun _=>#[u,.int j t2]) } H2 v u j t2 cc (by rw[hxs,cx];omega) (e4.own ah (gm b1 i2) ak k4 (le_of_eq s3.1.symm) s2.toks) (lN U4 i2 k4) aw hj ⟨oI,k4 _ oI (gq ab) ae,cI,dI⟩ aq as ah ru (U3.frzs _ _ _ hf) (hc.un U3) ((C3.after U3).own (fun x c e=>ge (fw (cb x c e) i2)) k4)⟩
end
def xT(ks:List Nat)(tb:TE)(σ:St)(Q:VK)(x:V)(H1:Hp):Prop:=∃l xs cs,x=.ref l/\H1 l=some (.lst xs)/\ks.map (fun i=>(σ[i]?).join)=cs.map some/\∀H2,Same H1 H2 ->
 ∃W,MinW l xs.length cs tb Q W/\xs≠[]/\∀v,xs[0]?=some v->tb (some v::cs.map some) H2 fun kv H'=>∃j,kv=.int j/\W 1 v j H'
def Ml(ks:List Nat)(tb:TE)(σ:St)(Q:VK):List V->Hp->Prop
 | [x],H1=>xT ks tb σ Q x H1
 |_,_=>False
def GV(ks:List Nat)(te tb:TE):TE:=fun σ H Q=>te σ H fun x H1=>xT ks tb σ Q x H1
theorem L9{X:Cx}{e body:Expr}{te tb:TE}{dsc scope:Scope}{L k:Nat}{x:Str}{caps:List Str}{ks:List Nat}{params:uv}{c P:Addr}{p pos kp lp:Pos}
  (hT:((c,P),lamKey (X.env.qual ++ "<lambda>") lp)∈tabsG) (hcode:X.env.code=.ref c) (hd:X.env.scope=dsc) (hc:X.env.cells=cellsFrom L dsc.names []) (hk:scope.kind=.function) (hco:scope.isCoroutine=false) (hgn:scope.isGenerator=false) (hl:hX X.N dsc.names scope [x] caps ks=true)
  (hdf:defaultsOf params X.env=([],[])) (hbind:∀cl pm c' ctv u,tm (PySem.W.kla_fn "<lambda>" (X.env.qual ++ "<lambda>") params body scope cl pm (.ref c') ctv) ⟨[u],[]⟩=pure [(x,u)])
  (hr:Room (k+2) X.A) (hg:Gl X "min") (hm:X.mg "min" = none) (he':PE X e te)
  (hb:∀cl f c' s H,Room k (X.A.in1.deeper (PySem.W.envX (X.env.qual ++ "<lambda>") scope s.heap.objs.size f (.ref c') cl))->PE (cxL X.prog X.w X.K X.mg X.base ([x]++caps) (X.env.qual ++ "<lambda>") scope cl f (.ref c') X.A.in1 X.stack s H) body tb)
  (he0:dq [e] X.env=(false,eval e X.env)::dq [] X.env:=by rfl) (he:ow pos (dq [e] X.env)=(false,eval e X.env)::ow pos (dq [] X.env):=by rfl) (hpl:(ow pos (dq [e] X.env)).any (·.1)=false:=by rfl):
  PE X (.Call (.Name "min" p) [e] [⟨some "key",.Lambda params body scope lp,kp⟩] pos) (GV ks te tb):=by
 intro zi s σ H Q I h;refine lq (fI I hg hm F6 ?_ dz dz);refine PyProof.Rows.callWith_kw (thn (za he' zd he0 pos zi s σ H (Ml ks tb σ Q) I h) fun us s1 ⟨vs,H1,I1,r1,q1⟩=>?_) he hpl rfl rfl
 match vs,r1,q1 with
 | [v],.cons rv .nil,⟨l,xs,cs,ev,el,hcs,hW⟩=>
  subst ev;cases rv;refine PyProof.Rows.kws_cons (PySem.W.kla_eval hdf (IY I1 hcode hT (Dx hd hc hl) fun f c' ctv pm H2 s2 I2 sm nf hf q=>PyProof.Rows.kws_nil ?_));obtain⟨W,w1,w2,w3⟩:=hW H2 sm;exact OF (k:=k) (Gh (X:=X) hk hco hgn hl) hr (fun u=>hbind _ _ _ _ u) (fun s H=>hb _ _ _ s H (hr.in1.deeper _)) w1 I2 (sm _ _ el) w2 w3 hf q (LS I2 hd hc hl hcs)
theorem Na{h o1:List Addr}{H1:Hp}{δ:XE}{σ:St}{S1:Sto}{x:XV}{v:V}{ds:List bc}{cs:List XV}{kf:bc->Int}{ks:List Nat}{tb:TE}{db:DE}{Q:VK}(h2:RE tb db)(he:RepE h o1 H1 δ σ)(s1:RepS h o1 H1 S1)(x1:HasX h o1 H1 x v)(ek:dZ S1 x=some ds)
  (hcs:ks.map (fun i=>(δ[i]?).join)=cs.map some) (hk:∀d∈ds,∀R':RX,R' (.d (.int (kf d))) S1->db (some (.d d)::cs.map some) S1 R') (h0:ds≠[])
  (c:∀o' H' d w pre post,Ex o1 H1 o' H'->RepS h o' H' S1->HasX h o' H' (.d d) w->ds=pre++d::post->(∀a∈pre,kf d<kf a)->(∀a∈post,kf d<=kf a)->Q w H'):xT ks tb σ Q v H1:=by
 obtain⟨a,vs,rfl,ea,l⟩:=cG s1 ek x1;obtain⟨aa,ah,hx⟩:=FS he hcs;refine⟨a,vs,aa,rfl,ea,ah,fun H2 sm=>?_⟩;have lv:vs.length=ds.length:=l.length;have at_:∀o' H',Ex o1 H1 o' H'->RepS h o' H' S1->∃xs,xs.length=vs.length/\H' a=some (.lst xs)/\HasL (vx h o' H') ds xs:=fun o' H' e' s'=>by
  obtain⟨a',xs,ag,q1,q2⟩:=cG s' ek (x1.mono e');cases ag;exact⟨xs,q2.length.trans lv.symm,q1,q2⟩
 have ac:∀o' H',Ex o1 H1 o' H'->RepS h o' H' S1->∀d',d'∈ds->∀v',HasX h o' H' (.d d') v'->∀Q':VK,(∀o2 H3,Ex o1 H1 o2 H3->RepS h o2 H3 S1->Ex o' H' o2 H3->Q' (.int (kf d')) H3)->tb (some v'::aa.map some) H' Q':=by
  intro o' H' e' s' d' hd v' hv Q' hQ;have rp:RepE h o' H' (some (.d d')::cs.map some) (some v'::aa.map some):=by
   have:=vA (n:=0) (show HasXs h o' H' (.d d'::cs) (v'::aa)from⟨v',aa,rfl,hv,hx.mono e'⟩);simpa using this
  refine h2 h o' H' _ _ S1 (fun kv S'=>kv=.d (.int (kf d'))/\S'=S1) _ rp s' (hk d' hd _ ⟨rfl,rfl⟩) fun o2 H3 S2 x v e2 s2 x2 ⟨ex,eS⟩=>?_;subst ex eS;obtain rfl:=eY.mp (show Has (vx h o2 H3) (.int (kf d')) v from x2);exact hQ o2 H3 (e'.trans e2) s2 e2
 refine⟨fun n best kb H'=>∃o' pre d post q,Ex o1 H1 o' H'/\RepS h o' H' S1/\ds=pre++d::(post++q)/\n=pre.length+1+post.length/\HasX h o' H' (.d d) best/\kb=kf d/\(∀a∈pre,kf d<kf a)/\∀a∈post,kf d<=kf a,fun n best kb H' ⟨o',pre,d,post,q,ex,rs,ed,en,hb,af,hp,hq⟩=>?_,?_,fun v hv=>?_⟩
 ·obtain⟨xs,lx,ex',ai⟩:=at_ o' H' ex rs;have dl:ds.length=n+q.length:=by rw[ed];simp only[ck,cx];omega
  refine⟨xs,lx,ex',fun v' hv=>?_,fun hn=>?_⟩
  ·have aj:n<ds.length:=by have:=(List.getElem?_eq_some_iff.mp hv).1;omega
   cases q with
   |nil=>simp only[tp]at dl;omega
   |cons d' q=>
    have ae:ds[n]?=some d':=by
     rw[ed,show pre++d::(post++d'::q)=(pre++d::post)++d'::q by simp,kz (by simp only[ck,cx];omega),show n-(pre++d::post).length=0 by simp only[ck,cx];omega];rfl
    obtain⟨v2,e2,ab⟩:=ai.get ae;rw[hv]at e2;cases e2;refine ac o' H' ex rs d' (ci ae) v' ab _ fun o2 H3 e3 s3 e4=>⟨kf d',rfl,?_⟩;by_cases hj:kf d'<kb
    ·rw[cy hj];refine⟨o2,pre++d::post,d',[],q,e3,s3,by rw[ed];simp,by simp only[ck,cx,tp];omega,HasX.mono e4 (x:=.d d') ab,rfl,fun a ha=>?_,fun a z=>nomatch z⟩;rcases mem_append.mp ha with ha|ha
     ·have:=hp a ha;omega
     ·rcases mem_cons.mp ha with rfl|ha
      ·omega
      ·have:=hq a ha;omega
    ·rw[cr hj];refine⟨o2,pre,d,post++[d'],q,e3,s3,by rw[ed];simp,by simp only[ck,cx,tp];omega,HasX.mono e4 (x:=.d d) hb,af,hp,fun a ha=>?_⟩;rcases mem_append.mp ha with ha|ha
     ·exact hq a ha
     ·rw[mem_singleton.mp ha];omega
  ·have p2:q=[]:=df yw;subst p2;exact c o' H' d best pre post ex rs hb (by rw[ed,jg]) hp hq
 ·intro z;subst z;exact h0 (df lv.symm)
 ·have ex:=Ex.of_same (o:=o1) sm;cases ds with
  |nil=>rw[df lv]at hv;cases hv
  |cons d rest=>
   obtain⟨v2,e2,ab⟩:=l.get (i:=0) (d:=d) rfl;rw[hv]at e2;cases e2;refine ac o1 H2 ex (s1.same sm) d cp v (HasX.mono ex (x:=.d d) ab) _ fun o2 H3 e3 s3 e4=>⟨kf d,rfl,o2,[],d,[],rest,e3,s3,rfl,rfl,HasX.mono e3 (x:=.d d) ab,rfl,(fun a z=>nomatch z),fun a z=>nomatch z⟩
def kS(ks:List Nat)(de:DEm)(db:DE):DEm:=fun δ S M R=>de δ S M fun x S1 M1=>∃(ds:List bc) (cs:List XV) (kf:bc->Int),dZ S1 x=some ds/\ks.map (fun i=>(δ[i]?).join)=cs.map some /\
 (∀d∈ds,∀R':RX,R' (.d (.int (kf d))) S1->db (some (.d d)::cs.map some) S1 R')/\ds≠[] /\
 ∀pre d post,ds=pre++d::post->(∀a∈pre,kf d<kf a)->(∀a∈post,kf d<=kf a)->R (.d d) S1 M1
theorem JC{ks:List Nat}{te tb:TE}{de:DEm}{db:DE}(h1:REm te de)(h2:RE tb db):REm (GV ks te tb) (kS ks de db):=fun h o H δ σ S M R Q he hs rm q c=>
 h1 h o H δ σ S M _ _ he hs rm q fun o1 H1 S1 M1 x v e1 z s1 aa x1 ⟨ds,cs,kf,ek,ab,hk,h0,hf⟩=>
  Na h2 (by rw[z];exact he.cut e1) s1 x1 ek ab hk h0 fun o' H' d w pre post e2 s2 w2 ed hp hq=>c o' H' S1 M1 (.d d) w (e1.cut2 e2.cut1) z s2 (aa.mono e2) w2 (hf pre d post ed hp hq)
def TupK(mg:Str->Option bb)(x z:Str)(a:Addr):Prop:=mg x=some (.ref a)/\∃ob,((a,ob),z)∈keepG
def tKp(a:Addr)(z:Str):TE:=fun _ H Q=>H a=some (.tup [.str z])->Q (.ref a) H
theorem BL{X:Cx}{x z:Str}{a:Addr}{pos:Pos}(h:TupK X.mg x z a)(hg:Gl X x:=by rfl)(aa:(x==("__debug__":Str))=false:=by decide):PE X (.Name x pos) (tKp a z):=fun zi s σ H Q I q=>by
 obtain⟨hm,ob,hk⟩:=h;exact sY (v:=.ref a) hg hm rfl aa zi s σ H Q I (q (I.frfH.kp _ hk))
theorem Cr{a:Addr}{z:Str}:RE (tKp a z) (dC (.tuple [.str z])):=fun h o H δ σ S R Q he hs q c ha=>by
 have nh:a∉h:=fun m=>by
  obtain⟨u,e⟩:=hs.hal a m;rw[ha]at e;cases u<;>cases e
 have no:a∉o:=fun m=>by
  obtain⟨u,e⟩:=hs.oal a m;rw[ha]at e;cases e
 refine c o H S (.d (.tuple [.str z])) (.ref a) Ex.refl hs ?_ q;exact cJ.mpr ⟨a,[.str z],rfl,zN.mpr ⟨nh,no,ha⟩,zp.mpr ⟨.str z,[],rfl,gC.mpr rfl,zA.mpr rfl⟩⟩
def jX(g:KSg)(dd dk:DM->DE)(dv:DEm):DSm:=fun En δ S M=>dv δ S M fun x S1 M1=>asD x fun d=>dd M1 δ S1 fun y S2=>∃a ob m,y=.o (.ref a)/\(a,DD.g g ob m)∈M1/\dk M1 δ S2 fun z S3=>asD z fun k=>∃kk,k=kdat g kk/\m.length<1000/\∀ob',En.nx δ S3 (fL M1 a (.g g ob' (stG m kk d)))
theorem NT{E:XK}{EX:EXD}{g:KSg}{td ty tv:TE}{dd dk:DM->DE}{dv:DEm}(ht:g.tup=true)(hd:∀M,REp (PhM M) td (dd M))(hk:∀M,REp (PhM M) ty (dk M))(hv:REm tv dv):RSm E EX (CC g td ty tv) (jX g dd dk dv):=fun h o0 H0 o H δ σ S M En D e0 fr he hs rm q c x=>
 hv h o H δ σ S M _ _ he hs rm q fun o1 H1 S1 M1 y v e1 ae s1 ac x1 d1=>by
  obtain⟨d,rfl,d2⟩:=eE d1;have af:RepE (h++ad M1) o1 H1 δ σ:=by rw[ae];exact he.cut e1
  have aj:Ex o0 H0 o1 H1:=e0.cut0 fr e1;refine hd M1 (h++ad M1) o1 H1 δ σ S1 _ _ af s1 d2 (fun o2 H2 S2 y v2 e2 s2 y2 ⟨a,ob,m,ey,mD,d3⟩=>?_) ⟨h,rfl,ac⟩;subst ey;obtain rfl:v2=.ref a:=y2;refine hk M1 (h++ad M1) o2 H2 δ σ S2 _ _ (af.mono e2) s2 d3 (fun o3 H3 S3 z u e3 s3 z3 d4=>?_) ⟨h,rfl,ac.mono e2⟩;obtain⟨k,rfl,kk,rfl,hl,n⟩:=eE d4;have ab:=e2.trans e3;have ah:=ac.mono ab;have ma:a∈ad M1:=mem_map.mpr ⟨_,mD,rfl⟩;obtain⟨q3,ai,xs,pd,l⟩:=ah.ct a (.g g ob m) mD;have mh:a∈h++ad M1:=cw _ ma;refine⟨a,ob,xs,kk,rfl,⟨q3,ai,pd,fun x mx=>Has.mono zZ _ _ (l.has x mx)⟩,by rw[l.length];exact hl,Has.mono zZ _ _ z3,fun aa b r eb rz ak=>?_⟩;subst eb;have fin:∀H',H' a=some (MO.x a aa).ho->DAt (vx (h++ad M1) o3 H3) H' a (.g g aa (stG m kk d)):=fun H' z=>⟨z,ai,_,ak,l.put z3 (x1.mono ab) rz⟩;have ag:=aj.trans ab;refine c.nx o3 _ δ S3 (fL M1 a (.g g aa (stG m kk d))) σ ⟨ag.pre,fun b w' nb zb=>?_⟩ (f7.trans ae) ?_ ?_ (ah.put mD fin) (n aa)
  ·obtain⟨z1,z4⟩:=ag.kp b w' nb zb;exact⟨z1,by rw[zC (fun z=>by rw[z,fr a (by rw[<- ae];exact ma)]at zb;cases zb)];exact z4⟩
  ·rw[f7];exact(af.mono ab).view (uI mh)
  ·rw[f7];exact s3.hidden (u:=.x a aa) mh
structure DtC(K:cq)(C:Addr)(m qual:Str)(st:Stmt)(ps:List Str)(cc:Addr):Prop where
 ex:∃f fd,Fun K m qual st f fd/\Meth K C m f/\Binds K fd ps []/\fd.code=.ref cc
section
variable {K:cq}{C:Addr}{m qual:Str}{st:Stmt}{ps:List Str}
theorem Dt.mk'{f:Addr}{oc:bb}{od an:Option Addr}{aa:Array (Option bb)}{kV z pm q ct:bb}
  (a:rn K (.ref C) m=some (some (.ref f))) (l:K.lookup f=some ⟨oc,od,.func (va m qual (eC st) (cA st) (zf st) .none kV z pm an q ct),aa⟩)
  (c:W.codeIn K q qual=true) (k:uj K (.ref f)=true) (i:W.isFn K (.ref f)=true)
  (hb:∀(kV z pm:bb) (an:Option Addr) (q ct:bb) (us:List bb),us.length=ps.length->tm (va m qual (eC st) (cA st) (zf st) .none kV z pm an q ct) ⟨us,[]⟩=pure (ps.zip us)):Dt K C m qual st ps:=
 ⟨f,_,iD (st:=st) l c k,⟨a,i,k⟩,(iD (st:=st) l c k).binds hb⟩
theorem DtC.mk'{f cc:Addr}{oc:bb}{od an:Option Addr}{z:Array (Option bb)}{kV q pm ct:bb}
  (a:rn K (.ref C) m=some (some (.ref f))) (l:K.lookup f=some ⟨oc,od,.func (va m qual (eC st) (cA st) (zf st) .none kV q pm an (.ref cc) ct),z⟩)
  (c:W.codeIn K (.ref cc) qual=true) (k:uj K (.ref f)=true) (i:W.isFn K (.ref f)=true)
  (hb:∀(kV q pm:bb) (an:Option Addr) (cdv ct:bb) (us:List bb),us.length=ps.length->tm (va m qual (eC st) (cA st) (zf st) .none kV q pm an cdv ct) ⟨us,[]⟩=pure (ps.zip us)):DtC K C m qual st ps cc:=
 ⟨f,_,iD (st:=st) l c k,⟨a,i,k⟩,(iD (st:=st) l c k).binds hb,rfl⟩
theorem Dki.mk'{h:Heap}{mg:Str->Option bb}(X:K.In h)(G:h.Ns jq mg){x:Str}{f:Addr}{oc:bb}{od an:Option Addr}{aa:Array (Option bb)}{kV z pm q ct:bb}
  (a:W.nsIn K jq x=some (some (.ref C))) (mk:W.makesIn K C=true) (i:rn K (.ref C) "__init__" = some (some (.ref f))) (l:K.lookup f=some ⟨oc,od,.func (va "__init__" qual (eC st) (cA st) (zf st) .none kV z pm an q ct),aa⟩)
  (c:W.codeIn K q qual=true) (k:uj K (.ref f)=true) (fn:W.isFn K (.ref f)=true) (kc:uj K (.ref C)=true)
  (hb:∀(kV z pm:bb) (an:Option Addr) (q ct:bb) (us:List bb),us.length=ps.length->tm (va "__init__" qual (eC st) (cA st) (zf st) .none kV z pm an q ct) ⟨us,[]⟩=pure (ps.zip us)):Dki K mg x C qual st ps:=
 ⟨f,_,⟨mk,i,fn,kc⟩,iD (st:=st) l c k,W.mg_of X G a,(iD (st:=st) l c k).binds hb⟩
end
section
variable {P:cz}{w:fy}{K:cq}{mg:Str->Option bb}{base:Heap}{C cc:Addr}{m qual:Str}{st:Stmt}{N ps:List Str}{k:Nat}
theorem Dm.dMC{q:PNm}(D:DtC K C m qual st ps cc)(S:FnScope N ps (zf st))(n:Nat)(hn:N.length=ps.length+n)
  (hbody:∀(f:Addr) (A:ft) (outer:List Env) (s:bd) (H:Hp) (E:XK),Room k (A.deeper (ur qual (zf st) s.heap.objs.size f (.ref cc))) ->
   ∃t dt,PSs (eF CX0 P w K mg base N qual (zf st) f (.ref cc) A outer s H E).nox (cA st) t/\RSm E0 (fun _ _=>False) t dt/\∀xs S M R,q xs S M R->dt (jL R) (xs.map some++bh n Option.none) S M):Dm P w K mg base C m ps (k+1) (spM ps q):=by
 obtain⟨f,fd,F,hm,hb,hc⟩:=D.ex;obtain⟨oc,od,kV,af,pm,an,ac,ct,ae,rfl,lk,ab⟩:=F.ex;obtain rfl:ac=.ref cc:=hc;refine⟨f,_,BX lk ab S (fun vs H Q E h=>h.1) fun A outer s H vs Q E hr ⟨hl,h,o,S',M,xs,R,aa,rm,hx,hq,c⟩=>?_,hm,hb⟩;obtain⟨t,dt,h1,h2,h3⟩:=hbody f A outer s H E hr;refine⟨t,h1.nox,h2 h o (cutH H (ad M)) o H _ _ S' M _ _ Cb (fun a m=>?_) ?_ aa rm (h3 xs S' M R hq) (B5 c) fun _ _ _ _ _ _ _ _ _ z=>z.elim⟩
 ·unfold cutH;rw[cy m]
 ·have e:N.length-vs.length=n:=yw
  unfold start;rw[e];exact vA hx
end
end L2
namespace My
open PySem L2
def iP:PN:=fun xs S R=>(aC (eA (dCB dR (zc (zk 0) (zc (dO (.ty "int")) zq))) (iT (dCB dR (zc (zk 0) (zc (dO (.ty "bool")) zq)))))) (aJ S.length R) (xs.map some++bh 0 none) S
def p6:PN:=fun xs S R=>(aA (aB (dOp (dI (fun _ j=>0<j) fun i j=>i % j) (dOp aL (zk 0) (dC (.int 7919))) (dC (.int 2147483647))) (zm 0)) (aC (dOp (dI (fun _ j=>0<j) fun i j=>i % j) (dOp aL (dOp aL (dOp bW (zk 0) (zk 0)) (dOp bW (dC (.int 48271)) (zk 0))) (dC (.int 12345))) (dC (.int 2147483629))))) (aJ S.length R) (xs.map some++bh 0 none) S
def sW:PN:=fun xs S R=>(aA (aB (dCB (dI2 fun i j=>if j>i then j else i) (zc (zk 0) (zc (dOp (dI0 fun i j=>i-j) (dC (.int 0)) (zk 0)) zq))) (zm 1)) (aC (cO (zc (zk 1) (zc (dCB j3 (zc (dOp (dIb fun i j=>decide (j<=i)) (zk 1) (dOp (dI CPow fun i j=>i ^ j.toNat) (dC (.int 10)) (dC (.int 18)))) zq)) (zc (dOp (dI (fun _ j=>0<j) fun i j=>i % j) (zk 1) (dC (.int 1000003))) zq)))))) (aJ S.length R) (xs.map some++bh 1 none) S
def zt:PN:=fun xs S R=>(aA (aI (dB (dOp aU (dOp dIx (zk 0) (dC (.int 1))) (dC (.int 1)))) (aA (aB (dOp (dI (fun _ j=>0<j) fun i j=>i % j) (dOp dIx (zk 0) (dC (.int 0))) (zk 1)) (zm 2)) (aA (aB (dOp dFd (dOp dIx (zk 0) (dC (.int 0))) (zk 1)) (hV (zk 0) (dC (.int 0)))) (aC (zk 2)))) aH) (aA (aB (zI 1 p6 (zc (dOp aL (zI 1 p6 (zc (dOp dIx (zk 0) (dC (.int 2))) zq)) (dC (.int 7))) zq)) (hV (zk 0) (dC (.int 2)))) (aC (dOp (dI (fun _ j=>0<j) fun i j=>i % j) (dOp dFd (dOp dIx (zk 0) (dC (.int 2))) (dC (.int 64))) (zk 1))))) (aJ S.length R) (xs.map some++bh 1 none) S
def uC:PN:=fun xs S R=>(aA (aB (zY 0 2 zt (zc (zk 0) (zc (dC (.int 8)) zq))) (zm 1)) (aA (aI (dB (dOp (dIb fun i j=>decide (i<j)) (zk 1) (dC (.int 5)))) (aC (dOp (dI0 fun i j=>i-j) (zY 0 2 zt (zc (zk 0) (zc (dC (.int 13)) zq))) (dC (.int 6)))) aH) (aA (aI (dB (dOp (dIb fun i j=>decide (i<j)) (zk 1) (dC (.int 7)))) (aC (dOp (dI0 fun i j=>i-j) (zY 0 2 zt (zc (zk 0) (zc (dC (.int 2001)) zq))) (dC (.int 1000)))) aH) (aC (dOp bW (dOp (dI0 fun i j=>i-j) (zY 0 2 zt (zc (zk 0) (zc (dOp bW (dC (.int 2)) (dOp (dI CPow fun i j=>i ^ j.toNat) (dC (.int 10)) (dC (.int 30)))) zq))) (dOp (dI CPow fun i j=>i ^ j.toNat) (dC (.int 10)) (dC (.int 30)))) (dOp (dI CPow fun i j=>i ^ j.toNat) (dC (.int 10)) (dC (.int 28)))))))) (aJ S.length R) (xs.map some++bh 1 none) S
def CF:PN:=fun xs S R=>(aA (aB (zY 0 2 zt (zc (zk 0) (zc (dC (.int 8)) zq))) (zm 1)) (aA (aI (dB (dOp (dIb fun i j=>decide (i<j)) (zk 1) (dC (.int 5)))) (aC (dOp (dI0 fun i j=>i-j) (zY 0 2 zt (zc (zk 0) (zc (dC (.int 13)) zq))) (dC (.int 6)))) aH) (aA (aI (dB (dOp (dIb fun i j=>decide (i<j)) (zk 1) (dC (.int 7)))) (aC (dOp (dI0 fun i j=>i-j) (zY 0 2 zt (zc (zk 0) (zc (dC (.int 2001)) zq))) (dC (.int 1000)))) aH) (aC (dOp bW (dOp (dI0 fun i j=>i-j) (zY 0 2 zt (zc (zk 0) (zc (dOp bW (dC (.int 2)) (dOp (dI CPow fun i j=>i ^ j.toNat) (dC (.int 10)) (dC (.int 30)))) zq))) (dOp (dI CPow fun i j=>i ^ j.toNat) (dC (.int 10)) (dC (.int 30)))) (dOp (dI CPow fun i j=>i ^ j.toNat) (dC (.int 10)) (dC (.int 28)))))))) (aJ S.length R) (xs.map some++bh 1 none) S
def nQ:PN:=fun xs S R=>(aC (dOp aL (dOp (dI0 fun i j=>i-j) (dOp dIx (zk 0) (dC (.int 1))) (dOp dIx (zk 0) (dC (.int 0)))) (dC (.int 1)))) (aJ S.length R) (xs.map some++bh 0 none) S
def rC:PN:=fun xs S R=>(aA (aB (dC (.str "abcdefghijklmnopqrstuvwxyz")) (zm 1)) (aA (aB (zY 0 2 zt (zc (zk 0) (zc (dC (.int 3)) zq))) (zm 2)) (aA (aB (zY 0 2 zt (zc (zk 0) (zc (dC (.int 26)) zq))) (zm 3)) (aA (aB (f6 [none,some 1,some 3] (cK (zc (dC (.int 8)) zq)) (zm 0) aG (dOp bW (dOp dIx (zk 1) (dOp (dI (fun _ j=>0<j) fun i j=>i % j) (dOp aL (zk 2) (dOp bW (dC (.int 5)) (zk 0))) (dC (.int 26)))) (dOp aL (dC (.int 1)) (dOp (dI (fun _ j=>0<j) fun i j=>i % j) (dOp aL (zk 2) (dOp bW (dC (.int 3)) (zk 0))) (dC (.int 8)))))) (zm 4)) (aA (aI (dB (dOp aU (zk 2) (dC (.int 0)))) (aA (aB (kJ kT (dC (.str "")) (zc (bC [none,some 1,some 3] (cK (zc (dC (.int 8)) zq)) (zm 0) aG (dOp dIx (zk 1) (dOp (dI (fun _ j=>0<j) fun i j=>i % j) (dOp aL (zk 2) (dOp bW (dC (.int 7)) (zk 0))) (dC (.int 26))))) zq)) (zm 5)) (aB (f6 [none,some 5] (cK (zc (dC (.int 8)) zq)) (zm 0) aG (dSl fS (zk 1) fB (fH (dOp aL (zk 0) (dC (.int 1)))))) (zm 4))) aH) (aA (aI (dB (dOp aU (zk 2) (dC (.int 1)))) (aB (cO (zc (dC (.str "part")) (zc (dC (.str "gap")) (zc (dC (.str "cut")) (zc (dC (.str "a")) (zc (dC (.str "aa")) (zc (dC (.str "dear")) (zc (dC (.str "b")) (zc (dC (.str "keeps")) zq))))))))) (zm 4)) aH) (aA (aB (zY 0 2 zt (zc (zk 0) (zc (dC (.int 8)) zq))) (zm 6)) (aA (aB (dOp kF (dSl fS (zk 4) (fH (zk 6)) fB) (dSl fS (zk 4) fB (fH (zk 6)))) (zm 4)) (aA (aI (dB (dOp aU (zY 0 2 zt (zc (zk 0) (zc (dC (.int 2)) zq))) (dC (.int 1)))) (cM (gU jR (zk 4))) aH) (aC (zk 4))))))))))) (aJ S.length R) (xs.map some++bh 6 none) S
def jU:PN:=fun xs S R=>(aA (aI (dOr (aY (aM (dCB dR (zc (zk 1) (zc (dO (.ty "tuple")) zq))))) (dB (dOp cQ (dCB aV (zc (zk 1) zq)) (dCB aV (zc (zk 0) zq))))) (aC (dC (.bool false))) aH) (aC (dCB d7 (zc (bC [none,none] (hU (zc (zk 1) (zc (zk 0) zq))) (dG 2 (bQ (zm 0) (bQ (zm 1) dL))) aG (eA (zI 1 iP (zc (zk 0) zq)) (fU (dIb fun i j=>decide (i<=j)) (dIb fun i j=>decide (i<=j)) (dOp dIx (zk 1) (dC (.int 1))) (zk 0) (dOp dIx (zk 1) (dC (.int 2)))))) zq)))) (aJ S.length R) (xs.map some++bh 0 none) S
def mF:PN:=fun xs S R=>(aC (aO (zc (dOp dIx (zk 0) (dC (.int 1))) (zc (dOp dIx (zk 0) (dC (.int 2))) zq)))) (aJ S.length R) (xs.map some++bh 0 none) S
def uN:PN:=fun xs S R=>(aA (aB (cO zq) (zm 2)) (aA (b9 (aS (zk 0)) (zm 3) (cM (dBM gH (zk 2) (zc (bC [none,some 3] (aS (zk 1)) (zm 0) aG (dOp aL (zk 1) (aO (zc (zk 0) zq)))) zq)))) (aC (zk 2)))) (aJ S.length R) (xs.map some++bh 2 none) S
def uS:PN:=fun xs S R=>(aA (aB (dC (.int 1)) (zm 1)) (aA (b9 (aS (zk 0)) (zm 2) (aB (dOp bW (zk 1) (zI 1 nQ (zc (zI 1 mF (zc (zk 2) zq)) zq))) (zm 1))) (aC (zk 1)))) (aJ S.length R) (xs.map some++bh 2 none) S
def oQ:PN:=fun xs S R=>(aA (aB (zI 1 uS (zc (zk 0) zq)) (zm 1)) (aI (dB (dOp (dIb fun i j=>decide (j<i)) (zk 1) (dC (.int 300)))) lG aH)) (aJ S.length R) (xs.map some++bh 1 none) S
def g9:PN:=fun xs S R=>(aA (cM (zI 1 oQ (zc (zk 0) zq))) (aA (aB (bS (zc (aO zq) zq)) (zm 1)) (aA (b9 (aS (zk 0)) (zm 2) (aB (zI 2 uN (zc (zk 1) (zc (lE (zc (dOp dIx (zk 2) (dC (.int 1))) (zc (dOp aL (dOp dIx (zk 2) (dC (.int 2))) (dC (.int 1))) zq))) zq))) (zm 1))) (aC (zk 1))))) (aJ S.length R) (xs.map some++bh 2 none) S
def tY:PN:=fun xs S R=>(aC (dCB jK (zc (bC [none,none,some 1] (aS (dOp dIx (zk 0) (dC (.int 0)))) (dG 2 (bQ (zm 0) (bQ (zm 1) dL))) aG (dOp bW (zk 1) (dOp dIx (zk 2) (zk 0)))) zq))) (aJ S.length R) (xs.map some++bh 0 none) S
def eR:PN:=fun xs S R=>(aC (fU (dIb fun i j=>decide (i<=j)) (dIb fun i j=>decide (i<=j)) (dOp dIx (zk 0) (dC (.int 1))) (zI 2 tY (zc (zk 0) (zc (zk 1) zq))) (dOp dIx (zk 0) (dC (.int 2))))) (aJ S.length R) (xs.map some++bh 0 none) S
def uA:PN:=fun xs S R=>(aA (aB (dC (.int 0)) (zm 2)) (aA (aB (dC (.int 0)) (zm 3)) (aA (b9 (aS (zk 1)) (dG 2 (bQ (zm 4) (bQ (zm 5) dL))) (aA (aB (bS (zc (dOp bW (zk 5) (dOp dIx (dOp dIx (zk 0) (zk 4)) (dC (.int 1)))) (zc (dOp bW (zk 5) (dOp dIx (dOp dIx (zk 0) (zk 4)) (dC (.int 2)))) zq))) (zm 6)) (aA (aB (dOp aL (zk 2) (dCB AD (zc (zk 6) zq))) (zm 2)) (aB (dOp aL (zk 3) (dCB sL (zc (zk 6) zq))) (zm 3))))) (aC (aO (zc (zk 2) (zc (zk 3) zq))))))) (aJ S.length R) (xs.map some++bh 5 none) S
def sQ:PN:=fun xs S R=>(aA (aB (cO zq) (zm 2)) (aA (b9 (cK (zc (dCB aV (zc (zk 1) zq)) zq)) (zm 3) (aA (aB (dOp (dI0 fun i j=>i-j) (zY 0 2 zt (zc (zk 0) (zc (dC (.int 9)) zq))) (dC (.int 4))) (zm 4)) (aI (dB (dOp j6 (zk 4) (aO (zc (dUn (dUI fun i=>-i) (dC (.int 4))) (zc (dC (.int 0)) (zc (dC (.int 4)) zq)))))) (cM (dBM d9 (zk 2) (zc (aO (zc (zk 3) (zc (zk 4) zq))) zq))) aH))) (aA (aI (dB (dOp aU (zk 2) (bS zq))) (aB (cO (zc (aO (zc (zY 0 2 zt (zc (zk 0) (zc (dCB aV (zc (zk 1) zq)) zq))) (zc (dOp dIx (bS (zc (dC (.int 1)) (zc (dUn (dUI fun i=>-i) (dC (.int 1))) (zc (dC (.int 2)) (zc (dUn (dUI fun i=>-i) (dC (.int 3))) zq))))) (zY 0 2 zt (zc (zk 0) (zc (dC (.int 4)) zq)))) zq))) zq)) (zm 2)) aH) (aA (aB (kX 2 uA (zc (zk 1) (zc (zk 2) zq))) (dG 2 (bQ (zm 5) (bQ (zm 6) dL)))) (aA (aB (dOp (dI0 fun i j=>i-j) (zk 6) (zk 5)) (zm 7)) (aA (aB (dOp aL (zk 5) (dOp dIx (bS (zc (dC (.int 0)) (zc (dC (.int 1)) (zc (dUn (dUI fun i=>-i) (dC (.int 1))) (zc (dOp dFd (zk 7) (dC (.int 2))) (zc (dOp dFd (zk 7) (dC (.int 3))) (zc (dOp aL (zk 7) (dC (.int 1))) zq))))))) (zY 0 2 zt (zc (zk 0) (zc (dC (.int 6)) zq))))) (zm 8)) (aA (aB (dOp aL (zk 8) (dOp dIx (bS (zc (dC (.int 0)) (zc (dC (.int 1)) (zc (dC (.int 2)) (zc (dOp dFd (zk 7) (dC (.int 2))) (zc (zk 7) (zc (dOp aL (zk 7) (dC (.int 2))) zq))))))) (zY 0 2 zt (zc (zk 0) (zc (dC (.int 6)) zq))))) (zm 9)) (aC (aO (zc (dCB dS (zc (zk 2) zq)) (zc (zk 8) (zc (zk 9) zq)))))))))))) (aJ S.length R) (xs.map some++bh 8 none) S
def v3:PN:=fun xs S R=>(aA (aB (cO zq) (zm 2)) (aA (b9 (aS (zk 0)) (zm 3) (aA (aB (dIf (aM (zk 3)) (dOp aL (dOp dIx (zk 3) (dUn (dUI fun i=>-i) (dC (.int 1)))) (dC (.int 1))) (dC (.int 0))) (zm 4)) (b9 (iY (zc (zk 4) (zc (zk 1) zq))) (zm 5) (cM (dBM d9 (zk 2) (zc (dOp aL (zk 3) (aO (zc (zk 5) zq))) zq)))))) (aC (zk 2)))) (aJ S.length R) (xs.map some++bh 4 none) S
def pQ:PN:=fun xs S R=>(aA (aB (bS (zc (aO zq) zq)) (zm 2)) (aA (b9 (cK (zc (zk 1) zq)) (zm 3) (aB (zI 2 v3 (zc (zk 2) (zc (zk 0) zq))) (zm 2))) (aC (zk 2)))) (aJ S.length R) (xs.map some++bh 2 none) S
def lJ:PN:=fun xs S R=>(aC (dCB dS (zc (bC [none,some 0] (aS (zk 1)) (zm 0) aG (dOp dIx (zk 1) (zk 0))) zq))) (aJ S.length R) (xs.map some++bh 0 none) S
def mJ:PN:=fun xs S R=>(aA (jD (aA (aB (cO zq) (zm 3)) (aA (aB (zk 0) (zm 4)) (vP (dB (dOp aU (dOp dIx (zk 4) (dC (.int 0))) (dC (.str "measure")))) (aA (aB (dOp dIx (zk 4) (dC (.int 1))) (zm 5)) (aA (cM (dBM d9 (zk 3) (zc (zk 5) zq))) (aB (dOp dIx (dOp dIx (zk 4) (dC (.int 2))) (dOp (dI0 fun i j=>i-j) (dOp dIx (zk 2) (zk 5)) (dOp dIx (dOp dIx (zk 1) (zk 5)) (dC (.int 1))))) (zm 4)))))))) (aC (aO (zc (zk 3) (zc (dOp dIx (zk 4) (dC (.int 0))) zq))))) (aJ S.length R) (xs.map some++bh 3 none) S
def mC:PN:=fun xs S R=>(aA (i3 (iA false 2 (.g (.two (.many .int) .bool) ob0 []) (cY (j2 (fun M=>(aS (zk 0))) (dG 2 (bQ (zm 3) (bQ (zm 4) dL))) (j8 (.two (.many .int) .bool) 2 (fun M=>(aO (zc (zI 2 lJ (zc (zk 3) (zc (zk 1) zq))) (zc (zk 4) zq)))) (fun M=>(zk 3)))) (lC (.two (.many .int) .bool) 2 (dG 2 (bQ (zm 5) (bQ (zm 3) dL))) (cY (kM (fun M=>(kP M (.two (.many .int) .bool) (zk 2) (aO (zc (dOp dIx (zk 5) (dC (.int 0))) (zc (dC (.bool false)) zq))))) (zm 6)) (cS (aI (eT (aM (dOp dIx (zk 5) (dC (.int 1)))) (dB (dOp j9 (zk 6) (dC .none)))) (aC (aO (zc (zk 3) (zc (zk 6) zq)))) aH))))))) (aC (dC .none))) (aJ S.length R) (xs.map some++bh 5 none) S
def tU:PN:=fun xs S R=>(aA (aI (dOr (aY (aM (dCB dR (zc (zk 1) (zc (dO (.ty "tuple")) zq))))) (dOr (dB (dOp cQ (dCB aV (zc (zk 1) zq)) (dC (.int 3)))) (dB (dOp cQ (dOp dIx (zk 1) (dC (.int 0))) (dC (.str "measure")))))) (aC (dC (.bool false))) aH) (aA (aI (dOr (aY (aM (zI 1 iP (zc (dOp dIx (zk 1) (dC (.int 1))) zq)))) (aY (dB (fU (dIb fun i j=>decide (i<=j)) (dIb fun i j=>decide (i<j)) (dC (.int 0)) (dOp dIx (zk 1) (dC (.int 1))) (dCB aV (zc (zk 0) zq)))))) (aC (dC (.bool false))) aH) (aC (eA (dCB dR (zc (dOp dIx (zk 1) (dC (.int 2))) (zc (dO (.ty "tuple")) zq))) (dOp aU (dCB aV (zc (dOp dIx (zk 1) (dC (.int 2))) zq)) (zI 1 nQ (zc (zI 1 mF (zc (dOp dIx (zk 0) (dOp dIx (zk 1) (dC (.int 1)))) zq)) zq))))))) (aJ S.length R) (xs.map some++bh 0 none) S
def nP:PN:=fun xs S R=>(aC (dIf (dB (dOp (dIb fun i j=>decide (j<i)) (zk 1) (dC (.int 0)))) (zI 2 pQ (zc (dCB aV (zc (zk 0) zq)) (zc (dOp (dI0 fun i j=>i-j) (zk 1) (dC (.int 1))) zq))) (bS zq))) (aJ S.length R) (xs.map some++bh 0 none) S
def uJ:PN:=fun xs S R=>(aA (aB (cO (zc (aO (zc (zk 1) (zc (aO zq) zq))) zq)) (zm 2)) (aA (vP (aM (zk 2)) (aA (aB (gU iS (zk 2)) (zm 3)) (aA (aB (dOp dIx (zk 3) (dC (.int 0))) (zm 4)) (aA (aB (dOp dIx (zk 3) (dC (.int 1))) (zm 5)) (aI (eT (aM (zI 2 tU (zc (zk 0) (zc (zk 4) zq)))) (dB (dOp j6 (dOp dIx (zk 4) (dC (.int 1))) (zk 5)))) (cM (dBM gH (zk 2) (zc (bC [none,some 5,some 4] (aS (dOp dIx (zk 4) (dC (.int 2)))) (zm 0) aG (aO (zc (zk 0) (zc (dOp aL (zk 1) (aO (zc (dOp dIx (zk 2) (dC (.int 1))) zq))) zq)))) zq))) (aI (eT (dB (iE "keeps" (zk 4))) (dB (iE "breaks" (zk 4)))) (aC (dC (.bool false))) aH)))))) (aC (dC (.bool true))))) (aJ S.length R) (xs.map some++bh 4 none) S
def l5:PN:=fun xs S R=>(aC (f6 [none,some 1] (aS (zI 1 g9 (zc (zk 0) zq))) (zm 0) aG (aO (zc (zk 0) (zc (zI 2 eR (zc (zk 1) (zc (zk 0) zq))) zq))))) (aJ S.length R) (xs.map some++bh 0 none) S
def vW:PN:=fun xs S R=>(aA (aB (zI 1 g9 (zc (zk 0) zq)) (zm 3)) (aA (aI (aY (aM (zI 2 uJ (zc (zk 0) (zc (zk 2) zq))))) (aC (dC (.bool false))) aH) (aC (dCB d7 (zc (bC [none,some 1,some 2,some 0] (aS (zk 3)) (zm 0) aG (dOp aU (dOp aU (dOp dIx (zI 3 mJ (zc (zk 2) (zc (zk 3) (zc (zk 0) zq)))) (dC (.int 1))) (dC (.str "keeps"))) (zI 2 eR (zc (zk 1) (zc (zk 0) zq))))) zq))))) (aJ S.length R) (xs.map some++bh 1 none) S
def qI:PN:=fun xs S R=>(aC (zI 2 mC (zc (zI 2 l5 (zc (zk 0) (zc (zk 1) zq))) (zc (zk 2) zq)))) (aJ S.length R) (xs.map some++bh 0 none) S
def kA:PN:=fun xs S R=>(aA (aB (zI 2 l5 (zc (zk 0) (zc (zk 1) zq))) (zm 2)) (b9 (cK (zc (dOp aL (dCB aV (zc (zk 0) zq)) (dC (.int 1))) zq)) (zm 3) (b9 (aS (zI 2 pQ (zc (dCB aV (zc (zk 0) zq)) (zc (zk 3) zq)))) (zm 4) (aI (dB (dOp gE (zI 2 mC (zc (zk 2) (zc (zk 4) zq))) (dC .none))) (aC (zk 4)) aH)))) (aJ S.length R) (xs.map some++bh 3 none) S
def f8:PN:=fun xs S R=>(aC (dOp gE (zI 3 qI (zc (zk 0) (zc (zk 1) (zc (zk 2) zq)))) (dC .none))) (aJ S.length R) (xs.map some++bh 0 none) S
def uR:PN:=fun xs S R=>(aA (aB (zI 2 l5 (zc (zk 0) (zc (zk 1) zq))) (zm 2)) (aC (f6 [none,some 2] (aS (zI 2 nP (zc (zk 0) (zc (dCB aV (zc (zI 2 kA (zc (zk 0) (zc (zk 1) zq))) zq)) zq)))) (zm 0) aG (dOp aL (aO (zc (zk 0) zq)) (zI 2 mC (zc (zk 1) (zc (zk 0) zq))))))) (aJ S.length R) (xs.map some++bh 1 none) S
def tG:PN:=fun xs S R=>(aC (eA (dCB dR (zc (zk 0) (zc (dO (.ty "tuple")) zq))) (eA (dCB d7 (zc (bC [none] (aS (zk 0)) (zm 0) aG (zI 1 iP (zc (zk 0) zq))) zq)) (dOp aU (zk 0) (zk 1))))) (aJ S.length R) (xs.map some++bh 0 none) S
def uH:PN:=fun xs S R=>(aA (aI (dOr (aY (aM (dCB dR (zc (zk 3) (zc (dO (.ty "tuple")) zq))))) (dOr (dB (dOp cQ (dCB aV (zc (zk 3) zq)) (dC (.int 3)))) (aY (aM (zI 2 tG (zc (dOp dIx (zk 3) (dC (.int 0))) (zc (zk 2) zq))))))) (aC (dC (.bool false))) aH) (aA (aI (dOr (aY (aM (zI 2 jU (zc (zk 0) (zc (dOp dIx (zk 3) (dC (.int 1))) zq))))) (aY (aM (zI 2 jU (zc (zk 0) (zc (dOp dIx (zk 3) (dC (.int 2))) zq)))))) (aC (dC (.bool false))) aH) (aC (eA (dOp aU (zI 2 lJ (zc (dOp dIx (zk 3) (dC (.int 1))) (zc (zk 2) zq))) (zI 2 lJ (zc (dOp dIx (zk 3) (dC (.int 2))) (zc (zk 2) zq)))) (eA (zI 2 eR (zc (zk 1) (zc (dOp dIx (zk 3) (dC (.int 1))) zq))) (iT (zI 2 eR (zc (zk 1) (zc (dOp dIx (zk 3) (dC (.int 2))) zq))))))))) (aJ S.length R) (xs.map some++bh 0 none) S
def tV:PN:=fun xs S R=>(aA (aI (dOr (aY (aM (dCB dR (zc (zk 3) (zc (dO (.ty "list")) zq))))) (dB (dOp (dIb fun i j=>decide (j<i)) (zk 2) (dOp aL (dCB aV (zc (zk 0) zq)) (dC (.int 1)))))) (aC (dC (.bool false))) aH) (aA (aB (zI 2 nP (zc (zk 0) (zc (zk 2) zq))) (zm 4)) (aA (aI (dB (dOp cQ (dCB aV (zc (zk 3) zq)) (dCB aV (zc (zk 4) zq)))) (aC (dC (.bool false))) aH) (aC (dCB d7 (zc (bC [none,none,some 0,some 1] (hU (zc (zk 4) (zc (zk 3) zq))) (dG 2 (bQ (zm 0) (bQ (zm 1) dL))) aG (zI 4 uH (zc (zk 2) (zc (zk 3) (zc (zk 0) (zc (zk 1) zq)))))) zq)))))) (aJ S.length R) (xs.map some++bh 1 none) S
def vS:PN:=fun xs S R=>(aA (aB (cO zq) (zm 1)) (aA (b9 (aS (zk 0)) (zm 2) (aI (dB (dOp j6 (zk 2) (zk 1))) (cM (dBM d9 (zk 1) (zc (zk 2) zq))) aH)) (aC (zk 1)))) (aJ S.length R) (xs.map some++bh 2 none) S
def lA:PN:=fun xs S R=>(aA (aB (dC (.int 0)) (zm 1)) (aA (aB (cO (zc (aO (zc (zk 0) (zc (dC (.int 0)) zq))) zq)) (zm 2)) (aA (vP (aM (zk 2)) (aA (aB (gU iS (zk 2)) (zm 3)) (aA (aB (dCB (dI2 fun i j=>if j>i then j else i) (zc (zk 1) (zc (dOp dIx (zk 3) (dC (.int 1))) zq))) (zm 1)) (aI (dB (dOp aU (dOp dIx (dOp dIx (zk 3) (dC (.int 0))) (dC (.int 0))) (dC (.str "measure")))) (cM (dBM gH (zk 2) (zc (bC [none,some 3] (aS (zI 1 vS (zc (dOp dIx (dOp dIx (zk 3) (dC (.int 0))) (dC (.int 2))) zq))) (zm 0) aG (aO (zc (zk 0) (zc (dOp aL (dOp dIx (zk 1) (dC (.int 1))) (dC (.int 1))) zq)))) zq))) aH)))) (aC (zk 1))))) (aJ S.length R) (xs.map some++bh 3 none) S
def uF(C:Addr)(q:PNm):PNm:=fun xs S M R=>(cY (cS (aB (dOp dIx (dOp dIx (zk 1) (zk 2)) (dC (.int 0))) (zm 4))) (cY (cS (aB (zI 1 mF (zc (dOp dIx (eO C "drawing" (zk 0)) (zk 4)) zq)) (zm 5))) (cY (cS (aB (dOp aL (dSl fS (zk 1) fB (fH (zk 2))) (dSl fS (zk 1) (fH (dOp aL (zk 2) (dC (.int 1)))) fB)) (zm 6))) (cY (cS (aB (bC [none,some 3,some 1,some 2] (iY (zc (dOp dIx (zk 5) (dC (.int 0))) (zc (dOp aL (dOp dIx (zk 5) (dC (.int 1))) (dC (.int 1))) zq))) (zm 0) aG (dOp aL (zk 1) (dOp bW (dOp dIx (dOp dIx (zk 2) (zk 3)) (dC (.int 1))) (zk 0)))) (zm 7))) (cY (kG (iB [none,some 6,some 0] (fun M=>(aS (zk 7))) (zm 0) aG (gF C "least" 3 q (fun M=>zk 2) (fun M=>(zc (zk 1) (zc (zk 0) zq))))) (zm 8)) (cY (cS (aB (dCB sL (zc (bC [none] (aS (zk 8)) (zm 0) aG (dOp dIx (zk 0) (dC (.int 0)))) zq)) (zm 9))) (cY (cS (aI (aM (dCB d7 (zc (bC [none,some 8] (aS (zk 8)) (zm 0) aG (dOp aU (zk 0) (dOp dIx (zk 1) (dC (.int 0))))) zq))) (aC (dOp dIx (zk 8) (dC (.int 0)))) aH)) (cS (aC (aO (zc (dOp aL (zk 9) (dC (.int 1))) (zc (aO (zc (dC (.str "measure")) (zc (zk 4) (zc (dCB dS (zc (bC [none] (aS (zk 8)) (zm 0) aG (dOp dIx (zk 0) (dC (.int 1)))) zq)) zq)))) zq)))))))))))) (jL R) (xs.map some++bh 6 none) S M
def sT(C:Addr)(q:PNm):PNm:=fun xs S M R=>(cY (cS (aI (aY (aM (zk 1))) (aC (aO (zc (dC (.int 0)) (zc (dIf (dB (fU (dIb fun i j=>decide (i<=j)) (dIb fun i j=>decide (i<=j)) (dOp dIx (eO C "gap" (zk 0)) (dC (.int 1))) (zk 2) (dOp dIx (eO C "gap" (zk 0)) (dC (.int 2))))) (dC (.tuple [.str "keeps"])) (dC (.tuple [.str "breaks"]))) zq)))) aH)) (kN (kS [] (iB [none,some 1,some 2,some 0] (fun M=>(cK (zc (dCB aV (zc (zk 1) zq)) zq))) (zm 0) aG (gF C "measuring" 4 q (fun M=>zk 3) (fun M=>(zc (zk 1) (zc (zk 0) (zc (zk 2) zq)))))) (dOp dIx (zk 0) (dC (.int 0)))))) (jL R) (xs.map some++bh 0 none) S M
def nT(C:Addr):Nat->PNm
 | 0=>fun _ _ _ _=>False
 |n+1=>fun xs S M R=>(cY (kY (fun M=>(dB (dOp (lD M (.two (.many (.many .int)) .int) true) (aO (zc (zk 1) (zc (zk 2) zq))) (eO C "known" (zk 0))))) (jX (.two (.many (.many .int)) .int) (fun M=>(eO C "known" (zk 0))) (fun M=>(aO (zc (zk 1) (zc (zk 2) zq)))) (gF C "best" 3 (sT C (uF C (nT C n))) (fun M=>zk 0) (fun M=>(zc (zk 1) (zc (zk 2) zq))))) (cS aH)) (kO (fun M=>(k6 M (.two (.many (.many .int)) .int) (eO C "known" (zk 0)) (aO (zc (zk 1) (zc (zk 2) zq))))))) (jL R) (xs.map some++bh 0 none) S M
def mE:PN:=fun xs S R=>∀C:Addr,(aA (cM (zI 1 oQ (zc (zk 0) zq))) (aC (dOp dIx (kW C "drawing" "gap" "known" (.two (.many (.many .int)) .int) 3 (nT C 9) (zk 0) (zk 1) (zc (dOp dIx (zk 1) (dC (.int 0))) (zc (dC (.int 0)) zq))) (dC (.int 1))))) (aJ S.length R) (xs.map some++bh 0 none) S
def xK:PN:=fun xs S R=>(aA (aB (zY 0 1 rC (zc (zk 0) zq)) (zm 2)) (aA (aB (bC [none,some 0] (cK (zc (dOp aL (dC (.int 1)) (zY 0 2 zt (zc (zk 0) (zc (zk 1) zq)))) zq)) (zm 0) aG (dOp aL (dC (.int 1)) (zY 0 2 zt (zc (zk 1) (zc (dC (.int 3)) zq))))) (zm 3)) (aA (aI (dB (dOp aU (zY 0 2 zt (zc (zk 0) (zc (dC (.int 12)) zq))) (dC (.int 0)))) (aB (dOp dIx (bS (zc (dOp bW (bS (zc (dC (.int 2)) zq)) (dC (.int 6))) (zc (bS (zc (dC (.int 17)) (zc (dC (.int 17)) zq))) (zc (bS (zc (dC (.int 300)) zq)) (zc (dOp bW (bS (zc (dC (.int 1)) zq)) (dC (.int 8))) zq))))) (zY 0 2 zt (zc (zk 0) (zc (dC (.int 4)) zq)))) (zm 3)) aH) (aA (aB (cO zq) (zm 4)) (aA (b9 (cK (zc (dCB aV (zc (zk 3) zq)) zq)) (zm 5) (aA (aB (zY 0 1 uC (zc (zk 0) zq)) (zm 6)) (cM (dBM d9 (zk 4) (zc (aO (zc (dOp dIx (zk 2) (zk 5)) (zc (zk 6) (zc (dOp (dI0 fun i j=>i-j) (dOp aL (zk 6) (dOp dIx (zk 3) (zk 5))) (dC (.int 1))) zq)))) zq))))) (aC (dCB dS (zc (zk 4) zq)))))))) (aJ S.length R) (xs.map some++bh 5 none) S
def jN:PN:=fun xs S R=>(aA (aB (zI 3 qI (zc (zk 0) (zc (zk 1) (zc (zk 2) zq)))) (zm 3)) (aA (aI (aM (zI 3 f8 (zc (zk 0) (zc (zk 1) (zc (zk 2) zq))))) (aC (dOp gE (zk 3) (dC .none))) aH) (aA (aB (zk 3) (dG 2 (bQ (zm 4) (bQ (zm 5) dL)))) (aA (aI (dOr (aY (aM (zI 2 jU (zc (zk 0) (zc (zk 4) zq))))) (dOr (aY (aM (zI 2 jU (zc (zk 0) (zc (zk 5) zq))))) (dOr (aY (aM (zI 2 eR (zc (zk 1) (zc (zk 4) zq))))) (aM (zI 2 eR (zc (zk 1) (zc (zk 5) zq))))))) (aC (dC (.bool false))) aH) (aC (dCB d7 (zc (bC [none,some 4,some 5] (aS (zk 2)) (zm 0) aG (dOp aU (dOp dIx (zk 1) (zk 0)) (dOp dIx (zk 2) (zk 0)))) zq))))))) (aJ S.length R) (xs.map some++bh 3 none) S
def oG:PN:=fun xs S R=>(aA (aI (aY (aM (zI 3 f8 (zc (zk 0) (zc (zk 1) (zc (zk 2) zq)))))) (aC (dC (.bool false))) aH) (aA (b9 (aS (zk 2)) (zm 3) (aI (aM (zI 3 f8 (zc (zk 0) (zc (zk 1) (zc (dCB dS (zc (bC [none,some 3] (aS (zk 2)) (zm 0) (dB (dOp cQ (zk 0) (zk 1))) (zk 0)) zq)) zq))))) (aC (dC (.bool false))) aH)) (aA (aB (zI 2 uR (zc (zk 0) (zc (zk 1) zq))) (zm 4)) (aA (b9 (cK (zc (dOp aL (dCB aV (zc (zk 0) zq)) (dC (.int 2))) zq)) (zm 5) (aI (dB (dOp cQ (zI 4 tV (zc (zk 0) (zc (zk 1) (zc (zk 5) (zc (zk 4) zq))))) (dOp aU (zk 5) (dCB aV (zc (zk 2) zq))))) (aC (dC (.bool false))) aH)) (aC (dC (.bool true))))))) (aJ S.length R) (xs.map some++bh 3 none) S
def mW:PN:=fun xs S R=>(aA (aB (zI 2 mE (zc (zk 0) (zc (zk 1) zq))) (zm 4)) (aA (aI (dOr (aY (aM (zI 3 vW (zc (zk 0) (zc (zk 1) (zc (zk 4) zq)))))) (dB (dOp (dIb fun i j=>decide (j<i)) (zI 1 lA (zc (zk 4) zq)) (dCB aV (zc (zk 2) zq))))) (aC (dC (.bool false))) aH) (aA (aB (zI 1 g9 (zc (zk 0) zq)) (zm 5)) (aA (aB (dOp dIx (zk 5) (zY 0 2 zt (zc (zk 3) (zc (dCB aV (zc (zk 5) zq)) zq)))) (zm 6)) (aA (aB (dOp dIx (zk 5) (zY 0 2 zt (zc (zk 3) (zc (dCB aV (zc (zk 5) zq)) zq)))) (zm 7)) (aA (aB (zI 3 mJ (zc (zk 4) (zc (zk 0) (zc (zk 6) zq)))) (dG 2 (bQ (zm 8) (bQ (zm 9) dL)))) (aA (aI (dB (dOp cQ (dOp aU (zk 9) (dC (.str "keeps"))) (zI 2 eR (zc (zk 1) (zc (zk 6) zq))))) (aC (dC (.bool false))) aH) (aA (aI (aM (dCB d7 (zc (bC [none,some 6,some 7] (aS (zk 8)) (zm 0) aG (dOp aU (dOp dIx (zk 1) (zk 0)) (dOp dIx (zk 2) (zk 0)))) zq))) (aC (dOp aU (zI 3 mJ (zc (zk 4) (zc (zk 0) (zc (zk 7) zq)))) (aO (zc (zk 8) (zc (zk 9) zq))))) aH) (aC (dC (.bool true))))))))))) (aJ S.length R) (xs.map some++bh 6 none) S
def wC:DS:=(aA (aB (zI 1 sW (zc (zk 1) zq)) (zm 2)) (aA (aB (zY 0 2 xK (zc (zk 2) (zc (dC (.int 4)) zq))) (zm 3)) (aA (aB (zY 0 2 sQ (zc (zk 2) (zc (zk 3) zq))) (zm 4)) (aA (aB (zI 2 kA (zc (zk 3) (zc (zk 4) zq))) (zm 5)) (aA (aB (dCB dS (zc (bC [none,some 2] (cK (zc (dCB aV (zc (zk 3) zq)) zq)) (zm 0) (dB (dOp aU (zY 0 2 zt (zc (zk 1) (zc (dC (.int 2)) zq))) (dC (.int 1)))) (zk 0)) zq)) (zm 6)) (aA (aB (dCB dS (zc (bC [none,some 6,some 2] (cK (zc (dCB aV (zc (zk 3) zq)) zq)) (zm 0) (dOr (dB (dOp dIn (zk 0) (zk 1))) (dB (dOp aU (zY 0 2 zt (zc (zk 2) (zc (dC (.int 2)) zq))) (dC (.int 1))))) (zk 0)) zq)) (zm 7)) (aA (aI (eT (aM (zI 3 f8 (zc (zk 3) (zc (zk 4) (zc (zk 6) zq))))) (aY (aM (zI 3 f8 (zc (zk 3) (zc (zk 4) (zc (zk 7) zq))))))) (aC (dC (.bool false))) aH) (aA (aI (dOr (aY (aM (zI 3 jN (zc (zk 3) (zc (zk 4) (zc (zk 6) zq)))))) (aY (aM (zI 3 jN (zc (zk 3) (zc (zk 4) (zc (zk 7) zq))))))) (aC (dC (.bool false))) aH) (aA (aI (dOr (aY (aM (zI 3 oG (zc (zk 3) (zc (zk 4) (zc (zk 5) zq)))))) (aY (aM (zY 3 4 mW (zc (zk 3) (zc (zk 4) (zc (zk 5) (zc (zk 2) zq)))))))) (aC (dC (.bool false))) aH) (aA (aB (dCB gY (zc (bC [none,some 4] (aS (zI 1 g9 (zc (zk 3) zq))) (zm 0) aG (zI 2 eR (zc (zk 1) (zc (zk 0) zq)))) zq)) (zm 8)) (aI (eT (dB (dOp aU (dCB aV (zc (zk 8) zq)) (dC (.int 1)))) (dOr (dB (dOp cQ (zk 5) (aO zq))) (dB (dOp cQ (zI 1 lA (zc (zI 2 mE (zc (zk 3) (zc (zk 4) zq))) zq)) (dC (.int 0)))))) (aC (dC (.bool false))) aH)))))))))))
end My
namespace My
open PySem L2
theorem seq1{t u:DS}{E:DEnds}{δ:XE}{S:Sto}(h:t { E with nx:=u E } δ S):aA t u E δ S:=h
theorem seqm{t u:DSm}{E:DEndsM}{δ:XE}{S:Sto}{M:DM}(h:t { E with nx:=u E } δ S M):cY t u E δ S M:=h
theorem cut{t u:DS}{E:DEnds}{δ:XE}{S:Sto}(I:XE->Sto->Prop)(h1:∀N:XE->Sto->Prop,(∀ δ' S',I δ' S'->N δ' S')->t { E with nx:=N } δ S)(h2:∀ δ' S',I δ' S'->u E δ' S'):aA t u E δ S:=h1 _ h2
theorem e8(i j:Int):dm (.int i) (.int j)=decide (i=j):=rfl
theorem jS(i j:Bool):dm (.bool i) (.bool j)=decide (i=j):=by cases i<;>cases j<;>rfl
theorem rL(i:Int):cv (.int i)=true:=rfl
theorem nA(i:Bool):cv (.bool i)=true:=rfl
theorem rQ:("int" ∈ f9)=True:=eq_true dz
theorem n9:("bool" ∈ f9)=True:=eq_true dz
theorem nO:("tuple" ∈ f9)=True:=eq_true dz
theorem qY:("list" ∈ f9)=True:=eq_true dz
theorem rB:cv .none=true:=rfl
end My
namespace My
open PySem L2
local macro_rules|`(tactic|walk_at $s:str)=>do
 let xs<-("aB eO mH lD k6 jX gF iB kS kG kN kW sC mX rE iE nZ all_cons List.all_nil Bool.and_self qP oN nB i3 iA cS kY kM kO j2 sA lE pW nY pS j8 lC kP qE gY qK qX qJ zm zk dC dO dOp dUn zq zc dCB aO bS cO dB aY eT dOr eA nW iT dIf fU dI dI0 dIb dUI aU cQ gE j9 pG rA pV oZ pJ pH rM qQ o7 oB qG oX dFd aM pY mZ pF fB fH dSl aV pZ mV dR j3 dI2 dS dBM gU kJ d9 jR gH iS kT kF jK d7 zI zY kX nU rD lR qS pK qA qU nN nE oE asL rY qL rX rJ qC nG rK qF mQ o9 oO oA rS oR rW pU rF aC aI cM aH lG b9 aS oM p7 cK iY pL hU dG bQ pC sB pX pE dL hV bC f6 aG eV jD m9 m7 iL rV qO oC rT mP List.replicate map_cons map_nil map_some Option.bind_some Option.bind_none Option.join_some getElem?_cons_zero getElem?_cons_succ set_cons_zero set_cons_succ List.take_succ_cons take_zero List.take_nil length_cons length_nil nil_append cons_append Option.some.injEq exists_eq_left' exists_eq_left List.cons.injEq XV.d.injEq XV.l.injEq XV.o.injEq PyData.int.injEq PyData.list.injEq PyData.tuple.injEq PyData.bool.injEq PyData.str.injEq and_true true_and decide_eq_true_eq Bool.not_true Bool.not_false Bool.false_eq_true Bool.true_eq_false not_true_eq_false not_false_eq_true decide_true decide_false Bool.not_eq_true' iQ decide_eq_false_iff_not Nat.reduceAdd Nat.reduceMul zero_add Nat.reduceLT Nat.reduceLeDiff Nat.reduceEqDiff Int.reduceLT Int.reduceLE Int.reduceNeg Int.reducePow Int.reduceToNat Int.reduceEq Int.reduceAdd Int.reduceSub Int.reduceMul le_refl zero_le length_append length_map e8 jS rL nA rB List.isEmpty_nil List.isEmpty_cons Int.cast_ofNat_Int Int.natCast_zero Int.natCast_one rQ n9 nO qY rZ oT pP oW".splitOn " ").toArray.mapM fun n=>`(Lean.Parser.Tactic.simpLemma|$(Lean.mkIdent n.toName):ident)
 match s.getString with
 |"d"=>`(tactic|((try dsimp only[↓reduceIte,$xs,*]);(try simp only[↓reduceIte,$xs,*])))
 |"n"=>`(tactic|(refine seq1 ?_; walk_at "d"))
 |"dX"=>`(tactic|(try simp -implicitDefEqProofs only [↓reduceIte,$xs,*]))
 |"e"=>`(tactic|((try dsimp only[aA,cY,↓reduceIte,$xs,*]);(try simp only[aA,cY,↓reduceIte,$xs,*])))
 |_=>Lean.Macro.throwUnsupported
section
variable {R:RX}
theorem BF{n:Int}(q:∀m,0<=m->R (.d (.int m)) []):p6 [.d (.int n)] [] R:=by
 unfold p6;walk_at "e";have h1:=qd (n+7919) (show (2147483647:Int)≠0 by decide);have h2:=pw (n+7919) (show (0:Int)<2147483647 by decide);exact⟨fJ yw yw,fJ dz dz,q _ (qd _ dz)⟩
theorem zE{p:List bc}{n:Int}(hp:aR p)(hn:0<n)(hb:n.natAbs.log2<9000)(q:∀r p',0<=r->r<n->aR p'->R (.d (.int r)) [p']):zt [.l 0,.d (.int n)] [p] R:=by
 obtain⟨l,g,sd,rfl,hl⟩:=hp;unfold zt;walk_at "e";split
 ·refine⟨hn,.inl ⟨⟨hn,hb⟩,0,rfl,?_⟩⟩;walk_at "e";exact q _ _ (qd _ yw) (pw _ hn) ⟨_,_,_,rfl,Int.ediv_nonneg hl yw⟩
 ·refine BF fun m _=>?_;walk_at "e";refine BF fun m' h'=>?_;walk_at "e";refine⟨2,rfl,?_⟩;walk_at "e";exact .inl ⟨⟨by decide,by decide +kernel⟩,hn,q _ _ (qd _ yw) (pw _ hn) ⟨_,_,_,rfl,hl⟩⟩
theorem Mr{n:Int}(q:∀p,aR p->R (.l 0) [p]):sW [.d (.int n)] [] R:=by
 unfold sW;walk_at "e";refine⟨⟨by decide,by decide,by decide⟩,?_⟩;refine .inr (q _ ⟨_,_,_,rfl,?_⟩);split<;>omega
theorem JO{p:List bc}(hp:aR p)(q:∀r p',-10 ^ 58<=r->r<=10 ^ 58->aR p'->R (.d (.int r)) [p']):CF [.l 0] [p] R:=by
 unfold CF;walk_at "e";refine zE hp dz (by decide +kernel) fun r p1 r0 r1 aa=>?_;walk_at "e";split
 ·refine zE aa dz (by decide +kernel) fun r p2 r0 r1 z=>?_;walk_at "e";exact q _ _ yw yw z
 ·split
  ·refine zE aa dz (by decide +kernel) fun r p2 r0 r1 z=>?_;walk_at "e";exact q _ _ yw yw z
  ·refine⟨⟨by decide,by decide,by decide⟩,fJ dz dz,?_⟩;have k1:(10:Int) ^ 30=1000000000000000000000000000000:=by decide +kernel
   have k2:(10:Int) ^ 28=10000000000000000000000000000:=by decide +kernel
   refine zE aa (by decide +kernel) (by decide +kernel) fun r p2 r0 r1 z=>?_;walk_at "e"
   try simp only[k1,k2]at r1 ⊢
   refine⟨⟨by decide,by decide,by decide⟩,⟨by decide,by decide,by decide⟩,KH 128 128 yw (by decide +kernel),q _ _ yw yw z⟩
theorem IM{p:List bc}(hp:aR p)(q:∀r p',-10 ^ 58<=r->r<=10 ^ 58->aR p'->R (.d (.int r)) [p']):uC [.l 0] [p] R:=JO hp q
end
section
variable {R:RX}
theorem Hy{α:Type}[Inhabited α]{l:List α}{i:Int}(h0:0<=i)(h1:i<l.length)(d:α):atI l i=some (l.getD i.toNat d):=by
 obtain⟨k,rfl⟩:=jh h0;have hk:k<l.length:=yw
 rw[hZ (bn hk)];simp[fc,hk]
theorem Di:("abcdefghijklmnopqrstuvwxyz":Str).length=26:=by decide
theorem Jt:("abcdefghijklmnopqrstuvwxyz":Str).cps.toList.length=26:=by rw[<- Di];simp[Str.length]
theorem FX:("abcdefghijklmnopqrstuvwxyz":Str).length<=dn:=jn (small1000 (by rw[Di];decide))
theorem len1(c:Nat):(⟨#[c]⟩:Str).length=1:=rfl
abbrev lsgn (i:Int):Str:=⟨#[("abcdefghijklmnopqrstuvwxyz":Str).cps.toList.getD i.toNat 0]⟩
theorem CM{i:Int}(h0:0<=i)(h1:i<26):atI ("abcdefghijklmnopqrstuvwxyz":Str).cps.toList i=some (("abcdefghijklmnopqrstuvwxyz":Str).cps.toList.getD i.toNat 0):=Hy h0 (by rw[Jt];exact h1) 0
theorem Bt{ds:List bc}{a b:Option Int}{d:bc}(m:d∈bE ds a b):d∈ds:=by
 unfold bE at m;exact List.mem_of_mem_drop (uq m)
def iN(z:Str):Bool:=decide (z.length<=100)&&PyData.strOk z&&!decide (z = "zy")
theorem Lm:∀f<26,∀k<8,iN (PySem.Txt.mul (lsgn (((f:Nat)+5*(0+((k:Nat):Int))) % 26)) (1+((f:Nat)+3*(0+((k:Nat):Int))) % 8))=true:=by decide +kernel
theorem LD:∀f<26,∀k<8,iN (PySem.Txt.slice (PySem.Txt.join "" ((fh 8).map fun k:Nat=>lsgn (((f:Nat)+7*(0+(k:Int))) % 26))) none (some (0+((k:Nat):Int)+1)))=true:=by decide +kernel
theorem Gd{ds:List bc}(h:∀d∈ds,∃z:Str,d=.str z/\iN z=true):∃zs:List Str,ds=zs.map ph/\zs.length=ds.length/\∀z∈zs,iN z=true:=by
 induction ds with
 |nil=>exact⟨[],rfl,rfl,yv⟩
 |cons d ds ih=>
  obtain⟨z,rfl,hz⟩:=h d cp;obtain⟨zs,rfl,hl,q⟩:=ih fun d m=>h d (bq _ m);refine⟨z::zs,rfl,yv,fun y m=>?_⟩;rcases mem_cons.mp m with rfl|m
  ·exact hz
  ·exact q y m
theorem FF(a b:Str):(a++b).length=a.length+b.length:=strLen_append a b
theorem Dj:∀zs:List Str,(∀z∈zs,z.length<=1)->(Str.join "" zs).length<=zs.length
 | [],_=>dh 0
 | [a],h=>h a cp
 |a::b::r,h=>by
  show (a ++ "" ++ Str.join "" (b::r)).length<=_;rw[FF,FF];have e:("":Str).length=0:=rfl;have h1:=h a cp;have h2:=Dj (b::r) fun z m=>h z (bq _ m);rw[e];simp only[cx]at h2 ⊢;omega
def qN(ds:List bc):Prop:=∀d∈ds,∃z:Str,d=.str z/\iN z=true
theorem NU{ds:List bc}{a:Int}(h0:0<=a)(h1:a<=ds.length):(bE ds (some a) none++bE ds none (some a)).length=ds.length:=by
 obtain⟨k,rfl⟩:=jh h0;have e1:HT.sIx ds.length 0 (some (k:Int))=k:=by rw[HT.sIx_nat];omega
 have e2:HT.sIx ds.length ds.length (some (k:Int))=k:=by rw[HT.sIx_nat];omega
 have e3:HT.sIx ds.length ds.length none=ds.length:=rfl;have e4:HT.sIx ds.length 0 none=0:=rfl;unfold bE;rw[e1,e2,e3,e4,ck,ku,ku,length_drop,length_drop];omega
def wU:List Str:=["part","gap","cut","a","aa","dear","b","keeps"]
set_option maxHeartbeats 8000000 in
theorem Ht{p:List bc}(hp:aR p)(q:∀(ns:List Str) p',ns.length=8->(∀z∈ns,iN z=true)->aR p'->R (.d (.list (ns.map ph))) [p']):rC [.l 0] [p] R:=by
 unfold rC;walk_at "dX"
 (refine seq1 ?_;walk_at "dX")
 (refine seq1 ?_;walk_at "dX")
 refine zE hp dz (by decide +kernel) fun ag p1 w0 w1 ak=>?_;walk_at "dX"
 (refine seq1 ?_;walk_at "dX")
 refine zE ak dz (by decide +kernel) fun fst p2 f0 f1 al=>?_;walk_at "dX";refine cut (fun δ' S'=>∃(ds:List bc),qN ds/\ds.length=8/\S'=[p2,ds]/\δ'=[some (.l 0),some (.d (.str ("abcdefghijklmnopqrstuvwxyz":Str))),some (.d (.int ag)),some (.d (.int fst)),some (.l 1),none,none]) (fun N hN=>?_) ?_
 ·walk_at "dX";refine cmp1 (S0:=[p2]) (fun k:Nat=>.str (PySem.Txt.mul (lsgn ((fst+5*(0+k)) % 26)) (1+(fst+3*(0+k)) % 8))) rfl (fh 8) yv ?_ ?_
  ·intro k mk u acc R' hk;have b1:=qd (fst+5*(0+(k:Int))) (show (26:Int)≠0 by decide);have b2:=pw (fst+5*(0+(k:Int))) (show (0:Int)<26 by decide);have b3:=qd (fst+3*(0+(k:Int))) (show (8:Int)≠0 by decide);have b4:=pw (fst+3*(0+(k:Int))) (show (0:Int)<8 by decide);walk_at "dX";refine⟨fJ dz dz,FX,_,CM b1 b2,?_⟩;walk_at "dX";refine⟨fJ dz dz,?_⟩;walk_at "dX";exact⟨by rw[len1];decide,yw,yw,hk _⟩
  ·refine hN _ _ ⟨_,?_,yv,rfl,rfl⟩;intro d m;obtain⟨k,mk,rfl⟩:=mem_map.mp m;obtain⟨f,rfl⟩:=jh f0;exact⟨_,rfl,Lm f yw k (mem_range.mp mk)⟩
 rintro _ _ ⟨ds,ab,hl,rfl,rfl⟩;refine cut (fun δ' S'=>∃(ds:List bc) (T:Sto) (k:Nat) (u:Option XV),qN ds/\ds.length=8/\T[k]?=some ds/\S'=p2::T/\δ'=[some (.l 0),some (.d (.str ("abcdefghijklmnopqrstuvwxyz":Str))),some (.d (.int ag)),some (.d (.int fst)),some (.l (k+1)),u,none]) (fun N hN=>?_) ?_
 ·walk_at "dX";split
  ·refine seq1 ?_;walk_at "dX";refine cmp1 (S0:=[p2,ds]) (fun k:Nat=>.str (lsgn ((fst+7*(0+k)) % 26))) rfl (fh 8) yv ?_ ?_
   ·intro k mk u acc R' hk;have b1:=qd (fst+7*(0+(k:Int))) (show (26:Int)≠0 by decide);have b2:=pw (fst+7*(0+(k:Int))) (show (0:Int)<26 by decide);walk_at "dX";refine⟨fJ dz dz,FX,_,CM b1 b2,?_⟩;exact hk _
   ·walk_at "dX";refine⟨(fh 8).map fun k:Nat=>lsgn ((fst+7*(0+k)) % 26),by rw[jj];rfl,by decide,yv,fun y m=>?_,?_⟩
    ·obtain⟨k,_,rfl⟩:=mem_map.mp m;show 1<=1000;decide
    ·have wl:(PySem.Txt.join "" ((fh 8).map fun k:Nat=>lsgn ((fst+7*(0+k)) % 26))).length<=8*1016:=by
      have:=NB (y:=("":Str)) (zs:=(fh 8).map fun k:Nat=>lsgn ((fst+7*(0+k)) % 26)) dz (fun y m=>by
       obtain⟨k,_,rfl⟩:=mem_map.mp m;show 1<=1000;decide)
      simpa using this
     have am:(PySem.Txt.join "" ((fh 8).map fun k:Nat=>lsgn ((fst+7*(0+k)) % 26))).length<=8:=by
      show (Builtin.Str.glued _ _).length<=_;rw[StrLaws.glued_eq_join];have:=Dj ((fh 8).map fun k:Nat=>lsgn ((fst+7*(0+k)) % 26)) (fun y m=>by
       obtain⟨k,_,rfl⟩:=mem_map.mp m;exact dh 1)
      simpa using this
     walk_at "dX";refine cmp1 (S0:=[p2,ds]) (fun k:Nat=>.str (PySem.Txt.slice (PySem.Txt.join "" ((fh 8).map fun k:Nat=>lsgn ((fst+7*(0+k)) % 26))) none (some (0+k+1)))) rfl (fh 8) yv ?_ ?_
     ·intro k mk u acc R' hk;walk_at "dX";exact⟨gm wl (by rw[nq];decide),hk _⟩
     ·refine hN _ _ ⟨_,[ds,_],1,_,?_,?_,rfl,rfl,rfl⟩
      ·intro d m;obtain⟨k,mk,rfl⟩:=mem_map.mp m;obtain⟨f,rfl⟩:=jh f0;exact⟨_,rfl,LD f yw k (mem_range.mp mk)⟩
      ·simp
  ·exact hN _ _ ⟨ds,[ds],0,none,ab,hl,rfl,rfl,rfl⟩
 rintro _ _ ⟨ds,T,k,u,ab,hl,hk,rfl,rfl⟩;refine cut (fun δ' S'=>∃(ds:List bc) (T:Sto) (k:Nat),qN ds/\ds.length=8/\T[k]?=some ds/\S'=p2::T/\δ'=[some (.l 0),some (.d (.str ("abcdefghijklmnopqrstuvwxyz":Str))),some (.d (.int ag)),some (.d (.int fst)),some (.l (k+1)),u,none]) (fun N hN=>?_) ?_
 ·walk_at "dX";split
  ·refine hN _ _ ⟨wU.map ph,T++[wU.map ph],T.length,?_,rfl,by rw[bw],rfl,rfl⟩;intro d m;obtain⟨z,hz,rfl⟩:=mem_map.mp m;refine⟨z,rfl,?_⟩;simp only[wU,ja,gt,or_false]at hz;rcases hz with rfl|rfl|rfl|rfl|rfl|rfl|rfl|rfl<;>decide +kernel
  ·exact hN _ _ ⟨ds,T,k,ab,hl,hk,rfl,rfl⟩
 rintro _ _ ⟨ds,T,k,ab,hl,hk,rfl,rfl⟩
 (refine seq1 ?_;walk_at "dX")
 refine zE al dz (by decide +kernel) fun aa p3 a0 a1 aj=>?_;walk_at "dX"
 (refine seq1 ?_;walk_at "dX")
 refine⟨ds,hk,ds,hk,?_⟩;have hc:=NU (ds:=ds) a0 yw;rw[ck]at hc;refine⟨yw,?_⟩;have af:(T++[bE ds (some aa) none++bE ds none (some aa)])[T.length]?=some (bE ds (some aa) none++bE ds none (some aa)):=by rw[bw]
 have ah:qN (bE ds (some aa) none++bE ds none (some aa)):=fun d m=>(mem_append.mp m).elim (fun m=>ab d (Bt m)) fun m=>ab d (Bt m);have ae:(bE ds (some aa) none++bE ds none (some aa)).length=8:=by rw[ck];omega
 generalize bE ds (some aa) none++bE ds none (some aa)=es at af ah ae ⊢;refine seq1 ?_;walk_at "dX";refine zE aj dz (by decide +kernel) fun r p4 r0 r1 ai=>?_;walk_at "dX";have ac:∀(fs:List bc),qN fs->fs.length=8->R (.d (.list fs)) [p4]:=by
  intro fs h1 h2;obtain⟨zs,rfl,z1,z2⟩:=Gd h1;exact q zs p4 yw z2 ai
 split
 ·refine⟨yv,es,af,?_⟩;walk_at "dX";rw[cr yw];refine⟨es.reverse,by simp[vB],.inl (ac _ (fun d m=>ah d (List.mem_reverse.mp m)) (by simpa using ae))⟩
 ·rw[cr yw];exact⟨es,af,.inl (ac _ ah ae)⟩
abbrev Part:=Str×Int×Int
def cE(p:Part):bc:=.tuple [.str p.1,.int p.2.1,.int p.2.2]
def aF(ps:List Part):bc:=.tuple (ps.map cE)
structure Prt(p:Part):Prop where
 nm:iN p.1=true
 le:p.2.1<=p.2.2
 lo:-10 ^ 58<=p.2.1
 hi:p.2.2<=10 ^ 59
structure Drw(ps:List Part):Prop where
 l1:1<=ps.length
 l8:ps.length<=8
 all:∀p∈ps,Prt p
theorem dF{α:Type}{f:α->bc}{l:List α}{k:Nat}{x:α}(e:l[k]?=some x):atI (l.map f) (k:Int)=some (f x):=hZ (by rw[gh,e];rfl)
end
section
variable {R:RX}{S:Sto}
theorem Ir{a b m:Int}(h1:m∈[a,b])(h2:∀x,x∈[a,b]->m<=x):m=min a b:=by
 have ha:=h2 a yv;have hb:=h2 b yv;simp only[ja,gt,or_false]at h1;omega
theorem Mi{a b m:Int}(h1:m∈[a,b])(h2:∀x,x∈[a,b]->x<=m):m=max a b:=by
 have ha:=h2 a yv;have hb:=h2 b yv;simp only[ja,gt,or_false]at h1;omega
theorem Iu{a b:Int}(q:R (.d (.int (min a b))) S):AD [.d (.list [.int a,.int b])] S R:=.inl ⟨_,rfl,[a,b],rfl,yv,fun m h1 h2=>by rw[Ir h1 h2];exact q⟩
theorem Hr{a b:Int}(q:R (.d (.int (max a b))) S):sL [.d (.list [.int a,.int b])] S R:=⟨_,rfl,[a,b],rfl,yv,fun m h1 h2=>by rw[Mi h1 h2];exact q⟩
abbrev Term:=Nat×Int
def tmD(t:Term):bc:=.tuple [.int t.1,.int t.2]
def fF(ts:List Term):bc:=.tuple (ts.map tmD)
structure Gap where
 ts:List Term
 lo:Int
 hi:Int
def bG(g:Gap):bc:=.tuple [fF g.ts,.int g.lo,.int g.hi]
theorem kL(g:Gap):bG g=.tuple [fF g.ts,.int g.lo,.int g.hi]:=rfl
theorem yO(t:Term):tmD t=.tuple [.int t.1,.int t.2]:=rfl
theorem Aa(p:Part):cE p=.tuple [.str p.1,.int p.2.1,.int p.2.2]:=rfl
def aD(ns:List Int):bc:=.tuple (ns.map bp)
structure Tms(n:Nat)(ts:List Term):Prop where
 ne:ts≠[]
 len:ts.length<=n
 ok:∀t∈ts,t.1<n/\t.2≠0/\-3<=t.2/\t.2<=3
 srt:ts.Pairwise fun t u=>t.1<u.1
structure Tm3(n:Nat)(ts:List Term):Prop where
 len:ts.length<=100
 ok:∀t∈ts,t.1<n/\-3<=t.2/\t.2<=3
theorem Tms.tm3{n:Nat}{ts:List Term}(h:Tms n ts)(hn:n<=8):Tm3 n ts:=⟨by have:=h.len;omega,fun t m=>⟨(h.ok t m).1,(h.ok t m).2.2⟩⟩
def worth(ts:List Term)(ns:List Int):Int:=(ts.map fun t=>t.2*ns.getD t.1 0).sum
theorem k7{ns:List Int}{k:Nat}(h:k<ns.length):ns[k]?=some (ns.getD k 0):=by
 rw[bn h,fc,bn h];rfl
def part(ps:List Part)(k:Nat):Part:=ps.getD k ("",0,0)
theorem gB{ps:List Part}{k:Nat}(h:k<ps.length):ps[k]?=some (part ps k):=by
 unfold part;rw[bn h,fc,bn h];rfl
theorem KR{ps:List Part}{k:Nat}(h:k<ps.length):part ps k∈ps:=ci (gB h)
def plo(ps:List Part)(k:Nat):Int:=(part ps k).2.1
def phi(ps:List Part)(k:Nat):Int:=(part ps k).2.2
def tLo(ps:List Part)(t:Term):Int:=min (t.2*plo ps t.1) (t.2*phi ps t.1)
def tHi(ps:List Part)(t:Term):Int:=max (t.2*plo ps t.1) (t.2*phi ps t.1)
def cW(ps:List Part)(ts:List Term):Int:=(ts.map (tLo ps)).sum
def dD(ps:List Part)(ts:List Term):Int:=(ts.map (tHi ps)).sum
theorem KC{ps:List Part}{t:Term}{ts:List Term}:cW ps (t::ts)=tLo ps t+cW ps ts:=by simp[cW]
theorem MT{ps:List Part}{t:Term}{ts:List Term}:dD ps (t::ts)=tHi ps t+dD ps ts:=by simp[dD]
theorem Ju{ps:List Part}{ts:List Term}{i:Nat}{t:Term}(h:ts[i]?=some t):cW ps (ts.take (i+1))=cW ps (ts.take i)+tLo ps t:=by
 unfold cW;rw[List.take_add_one,h];simp
theorem Lc{ps:List Part}{ts:List Term}{i:Nat}{t:Term}(h:ts[i]?=some t):dD ps (ts.take (i+1))=dD ps (ts.take i)+tHi ps t:=by
 unfold dD;rw[List.take_add_one,h];simp
theorem Aq(ps:List Part):∀ts:List Term,cW ps ts<=dD ps ts
 | []=>by simp[cW,dD]
 |t::ts=>by
  have:=Aq ps ts;rw[KC,MT];unfold tLo tHi;omega
theorem eL{α:Type}{f:α->bc}{l:List α}{i:Nat}{d:bc}(h:(l.map f)[i]?=some d):∃x,l[i]?=some x/\d=f x:=by
 rw[gh]at h;obtain⟨x,e,rfl⟩:=map_eq_some_iff.mp h;exact⟨x,e,rfl⟩
theorem HM{ps:List Part}{ts:List Term}{t:bc}(ht:eQ (.d t)=some (ts.map tmD))(h3:Tm3 ps.length ts)(q:R (.d (spD (cW ps ts) (dD ps ts))) []):uA [.d (aF ps),.d t] [] R:=by
 unfold uA aF;walk_at "d"
 walk_at "n"
 walk_at "n"
 walk_at "n";refine⟨_,ht,?_⟩;refine cX (fun i δ S=>∃(u1 u2 u3:Option XV),S=[]/\δ=[some (.d (.tuple (ps.map cE))),some (.d t),some (.d (.int (cW ps (ts.take i)))),some (.d (.int (dD ps (ts.take i)))),u1,u2,u3]) ⟨_,_,_,rfl,rfl⟩ ?_ ?_
 ·rintro i d _ _ N hi ⟨u1,u2,u3,rfl,rfl⟩ hN;obtain⟨t,ht,rfl⟩:=eL hi;obtain⟨t1,t2,t3⟩:=h3.ok t (ci ht);have ep:=dF (f:=cE) (gB t1);unfold tmD;walk_at "d"
  walk_at "n"
  refine⟨_,ep,?_⟩;unfold cE;walk_at "d";refine⟨fJ yw yw,_,ep,?_⟩;unfold cE;walk_at "d";refine⟨fJ yw yw,?_⟩
  walk_at "n"
  refine Iu ?_;walk_at "d";refine Hr ?_;walk_at "d";exact hN _ _ ⟨_,_,_,rfl,by rw[Ju ht,Lc ht];rfl⟩
 ·rintro _ _ ⟨u1,u2,u3,rfl,rfl⟩;rw[cg,mr];walk_at "d";exact q
theorem oV{ds:List bc}{r:Int}{P:bc->Prop}(h0:0<=r)(h1:r<ds.length)(hP:∀d∈ds,P d):∃d,atI ds r=some d/\P d:=by
 obtain⟨k,rfl⟩:=jh h0;have hk:k<ds.length:=yw
 exact⟨ds[k],hZ (bn hk),hP _ (nr hk)⟩
theorem OC(ds:List bc):dm (.list ds) (.list [])=decide (ds=[]):=by
 cases ds with
 |nil=>rfl
 |cons d ds=>rfl
theorem Iz(t:Term):Shp 1 (tmD t):=gL (Bq gP gP)
theorem L5(ts:List Term):cv (.list (ts.map tmD))=true:=(v7 (uO fun t _=>Iz t)).ok
structure GapOk(n:Nat)(g:Gap):Prop where
 ts:Tms n g.ts
 le:g.lo<=g.hi
theorem LX{p:List bc}{ps:List Part}(hp:aR p)(hd:Drw ps)(q:∀g p',GapOk ps.length g->aR p'->R (.d (bG g)) [p']):sQ [.l 0,.d (aF ps)] [p] R:=by
 have h8:=hd.l8;have h1:=hd.l1;unfold sQ;walk_at "d"
 walk_at "n"
 refine cut (fun δ S=>∃(p:List bc) (ts:List Term) (u1 u2:Option XV),aR p/\ts.length<=ps.length/\(∀t∈ts,t.1<ps.length/\t.2≠0/\-3<=t.2/\t.2<=3)/\(ts.Pairwise fun t u=>t.1<u.1)/\S=[p,ts.map tmD]/\δ=[some (.l 0),some (.d (aF ps)),some (.l 1),u1,u2,none,none,none,none,none]) (fun N hN=>?_) ?_
 ·walk_at "d";refine⟨ps.length,by unfold aF;walk_at "d",?_⟩;refine cX (fun i δ S=>∃(p:List bc) (ts:List Term) (u1 u2:Option XV),aR p/\ts.length<=i/\(∀t∈ts,t.1<i/\t.2≠0/\-3<=t.2/\t.2<=3)/\(ts.Pairwise fun t u=>t.1<u.1)/\S=[p,ts.map tmD]/\δ=[some (.l 0),some (.d (aF ps)),some (.l 1),u1,u2,none,none,none,none,none]) ⟨p,[],_,_,hp,dh _,yv,.nil,rfl,rfl⟩ ?_ ?_
  ·rintro i d _ _ N hi ⟨p,ts,u1,u2,hp,hl,ht,hw,rfl,rfl⟩ hN;obtain⟨ag,rfl⟩:=gO hi;have ah:i<ps.length:=by simpa using ag
   walk_at "d"
   walk_at "n"
   refine zE hp dz (by decide +kernel) fun r p2 r0 r1 aa=>?_;walk_at "d";refine⟨rfl,?_⟩;simp only[List.any_cons,List.any_nil,Bool.or_false,e8];have af:=hN [some (.l 0),some (.d (aF ps)),some (.l 1),some (.d (.int (0+(i:Int)))),some (.d (.int (r-4))),none,none,none,none,none] [p2,ts.map tmD] ⟨p2,ts,_,_,aa,yw,fun t m=>⟨by have:=(ht t m).1;omega,(ht t m).2⟩,hw,rfl,rfl⟩;by_cases hz:r-4 = -4\/r-4=0\/r-4=4
   ·have e:(decide ((-4:Int)=r-4)||(decide ((0:Int)=r-4)||decide ((4:Int)=r-4)))=true:=by
     rcases hz with h|h|h<;>simp[h]
    rw[e];walk_at "d";exact af
   ·have e:(decide ((-4:Int)=r-4)||(decide ((0:Int)=r-4)||decide ((4:Int)=r-4)))=false:=by
     simp;omega
    rw[e];walk_at "d";refine⟨yw,hN _ _ ⟨p2,ts++[(i,r-4)],_,_,aa,by simp;omega,fun t m=>?_,?_,by simp[tmD],rfl⟩⟩
    ·rcases mem_append.mp m with m|m
     ·exact⟨by have:=(ht t m).1;omega,(ht t m).2⟩
     ·rw[mem_singleton.mp m];exact⟨yv,by simp only;omega,by simp only;omega,by simp only;omega⟩
    ·rw[List.pairwise_append];exact⟨hw,yv,fun t m u m'=>by rw[mem_singleton.mp m'];exact(ht t m).1⟩
  ·rintro _ _ ⟨p,ts,u1,u2,hp,hl,ht,hw,rfl,rfl⟩;rw[fR]at hl ht;have hz:(ps.length:Int).toNat=ps.length:=by simp
   rw[hz]at hl ht;exact hN _ _ ⟨p,ts,u1,u2,hp,hl,ht,hw,rfl,rfl⟩
 rintro _ _ ⟨p,ts,u1,u2,hp,hl,ht,hw,rfl,rfl⟩;refine cut (fun δ S=>∃(p:List bc) (ts:List Term) (T:Sto) (k:Nat),aR p/\Tms ps.length ts/\T[k]?=some (ts.map tmD)/\S=p::T/\δ=[some (.l 0),some (.d (aF ps)),some (.l (k+1)),u1,u2,none,none,none,none,none]) (fun N hN=>?_) ?_
 ·walk_at "d";refine⟨L5 ts,rfl,?_⟩;rw[OC];walk_at "d";split
  ·refine⟨ps.length,by unfold aF;walk_at "d",?_⟩;refine zE hp yw (vH yw yw) fun r p2 r0 r1 aa=>?_;walk_at "d";refine zE aa dz (by decide +kernel) fun r3 p3 r2 r4 ab=>?_;obtain⟨d,ed,n,rfl,hn⟩:=oV (ds:=[bp 1,bp (-1),bp 2,bp (-3)]) (P:=fun d=>∃n,d=.int n/\n≠0/\-3<=n/\n<=3) r2 r4 (by
    intro d m;simp only[ja,gt,or_false]at m;rcases m with rfl|rfl|rfl|rfl<;>exact⟨_,rfl,by decide,by decide,by decide⟩)
   obtain⟨k,rfl⟩:=jh r0;walk_at "d";refine⟨_,ed,?_⟩;walk_at "d";refine hN _ _ ⟨p3,[(k,n)],[ts.map tmD,[tmD (k,n)]],1,ab,⟨yv,by simpa using h1,fun t m=>by rw[mem_singleton.mp m];exact⟨by simp only;omega,hn⟩,yv⟩,rfl,rfl,rfl⟩
  ·rename_i ae;exact hN _ _ ⟨p,ts,[ts.map tmD],0,hp,⟨fun z=>ae (by rw[z];rfl),hl,ht,hw⟩,rfl,rfl,rfl⟩
 rintro _ _ ⟨p,ts,T,k,hp,ac,hk,rfl,rfl⟩
 walk_at "n"
 rw[hk];walk_at "d";refine HM rfl (ac.tm3 h8) ?_;have lm:=Aq ps ts;unfold spD;walk_at "d";refine⟨rfl,?_⟩;walk_at "d"
 walk_at "n"
 walk_at "n"
 refine .inl ⟨⟨by decide,by decide +kernel⟩,.inl ⟨⟨by decide,by decide +kernel⟩,?_⟩⟩;walk_at "d";refine zE hp dz (by decide +kernel) fun r p2 r0 r1 aa=>?_;obtain⟨d,ed,n,rfl⟩:=oV (P:=fun d=>∃n,d=.int n) (ds:=[bp 0,bp 1,bp (-1),bp ((dD ps ts-cW ps ts)/2),bp ((dD ps ts-cW ps ts)/3),bp (dD ps ts-cW ps ts+1)]) r0 r1 yv;walk_at "d";refine⟨_,ed,?_⟩;walk_at "d"
 walk_at "n"
 refine .inl ⟨⟨by decide,by decide +kernel⟩,?_⟩;walk_at "d";refine zE aa dz (by decide +kernel) fun r' p3 r2 r3 ab=>?_;obtain⟨d,ed,n',rfl,h0⟩:=oV (P:=fun d=>∃n,d=.int n/\0<=n) (ds:=[bp 0,bp 1,bp 2,bp ((dD ps ts-cW ps ts)/2),bp (dD ps ts-cW ps ts),bp (dD ps ts-cW ps ts+2)]) r2 r3 (by simp;omega);walk_at "d";refine⟨_,ed,?_⟩;walk_at "d";refine⟨_,hk,?_⟩;walk_at "d";exact q ⟨ts,_,_⟩ p3 ⟨ac,by simp only;omega⟩ ab
theorem GL{g:DG}{te:DE}{fin:Sto->Prop}{α:Type}(F:α->Prop)(f:α->bc)(P:XE->Prop):∀(ds:List bc) (acc:List α) (p:List bc) (τ:XE),P τ->aR p->acc.length+ds.length<=1000 ->
  (∀d∈ds,∀ τ p acc (R:XE->RX),P τ->aR p->(∀ τ' x p',P τ'->aR p'->F x->R τ' (.d (f x)) [p',acc])->g (.d d) τ [p,acc] fun τ1 S1=>te τ1 S1 (R τ1)) ->
  (∀xs p',aR p'->(∀x∈xs,F x)->xs.length=ds.length->fin [p',(acc++xs).map f])->aX 1 g aG te fin ds τ [p,acc.map f]
 | [],acc,p,τ,_,hp,_,_,h=>by
  have:=h [] p hp yv rfl;rw[jg]at this;exact this
 |d::ds,acc,p,τ,hP,hp,hl,el,h=>by
  show g (.d d) τ [p,acc.map f] fun τ1 S1=>aG τ1 S1 fun b S2=>if b=true then te τ1 S2 fun x S3=>asD x fun e=>∃acc,S3[1]?=some acc/\acc.length<1000/\aX 1 g aG te fin ds τ1 (S3.set 1 (acc++[e]))else aX 1 g aG te fin ds τ1 S2
  simp only[aG,↓reduceIte];rw[cx]at hl;refine el d cp τ p (acc.map f) (fun τ1 x S3=>asD x fun e=>∃acc,S3[1]?=some acc/\acc.length<1000/\aX 1 g aG te fin ds τ1 (S3.set 1 (acc++[e]))) hP hp fun τ' x p' z q hF=>?_;refine⟨acc.map f,rfl,by rw[cg];omega,?_⟩;have e:([p',acc.map f]:Sto).set 1 (acc.map f++[f x])=[p',(acc++[x]).map f]:=by simp
  rw[e];refine GL F f P ds (acc++[x]) p' τ' z q (by rw[ck,fq];omega) (fun e m=>el e (bq _ m)) fun xs p'' hp'' fs hl=>?_;rw[gy];exact h (x::xs) p'' hp'' (fun y m=>(mem_cons.mp m).elim (fun e=>e▸hF) (fs y)) (by simp[hl])
end
section
variable {R:RX}{S:Sto}
theorem xV{p:Part}(q:R (.d (spD p.2.1 p.2.2)) []):mF [.d (cE p)] [] R:=by
 unfold mF cE;walk_at "e";exact q
theorem BG{a b:Int}(q:R (.d (.int (b-a+1))) []):nQ [.d (spD a b)] [] R:=by
 unfold nQ spD;walk_at "e";exact q
theorem KY{g:Gap}{ns:List Int}(h3:Tm3 ns.length g.ts)(q:R (.d (.int (worth g.ts ns))) []):tY [.d (bG g),.d (aD ns)] [] R:=by
 unfold tY aD;rw[kL,fF];walk_at "e";refine cmp2 (S0:=[]) (fun t:Term=>.int (t.2*ns.getD t.1 0)) rfl g.ts (by have:=h3.len;omega) ?_ ?_
 ·intro t mt u v acc R' hk;obtain⟨t1,t2,t3⟩:=h3.ok t mt;have e:=dF (f:=bp) (k7 t1);rw[yO];walk_at "e";refine⟨_,e,?_⟩;walk_at "e";exact⟨fJ yw yw,hk _ _⟩
 ·walk_at "e";refine⟨g.ts.map fun t:Term=>t.2*ns.getD t.1 0,by rw[jj];rfl,q⟩
def bA(g:Gap)(ns:List Int):Bool:=decide (g.lo<=worth g.ts ns/\worth g.ts ns<=g.hi)
theorem iI{g:Gap}{ns:List Int}(h3:Tm3 ns.length g.ts)(q:R (.d (.bool (bA g ns))) []):eR [.d (bG g),.d (aD ns)] [] R:=by
 unfold eR;walk_at "e";rw[kL];walk_at "e";rw[<- kL];refine KY h3 ?_;walk_at "e";unfold bA at q;by_cases h:g.lo<=worth g.ts ns
 ·simp only[h,true_and]at q;rw[cy h];exact q
 ·simp only[h,false_and,decide_false]at q;rw[cr h];exact q
def NA(a t:Int):Int:=-(a/(-t))
def pick(ps:List Part)(t:Term)(ts:List Term)(left:Int):Int:=if t.2<0 then max (plo ps t.1) (NA (left-cW ps ts) t.2)else plo ps t.1
structure InBox(ps:List Part)(ns:List Int):Prop where
 len:ns.length=ps.length
 ok:∀k,k<ps.length->plo ps k<=ns.getD k 0/\ns.getD k 0<=phi ps k
def Ord(ps:List Part):Prop:=∀p∈ps,p.2.1<=p.2.2
theorem Drw.ord{ps:List Part}(h:Drw ps):Ord ps:=fun p m=>(h.all p m).le
theorem Ord.at{ps:List Part}(h:Ord ps){k:Nat}(hk:k<ps.length):plo ps k<=phi ps k:=h _ (KR hk)
theorem He{α:Type}{f:α->bc}{ts:List α}{i:Nat}(il:i<ts.length):bE (ts.map f) (some ((i:Int)+1)) none=(ts.drop (i+1)).map f:=by
 have ei:(i:Int)+1=((i+1:Nat):Int):=yw
 unfold bE;have e1:HT.sIx ts.length ts.length none=ts.length:=rfl;rw[cg,ei,e1,HT.sIx_nat,Nat.min_eq_left il,List.take_of_length_le yv,List.map_drop]
end
section
variable {R:RX}{S:Sto}
def cF:bc->Bool
 | .int _=>true
 |_=>false
end
section
variable {R:RX}{S:Sto}
def rng(lo:Int)(n:Nat):List Int:=(fh n).map fun k:Nat=>lo+k
theorem AS{lo x:Int}{n:Nat}:x∈rng lo n↔lo<=x/\x<lo+n:=by
 unfold rng;rw[mem_map];constructor
 ·rintro⟨k,hk,rfl⟩;have:=mem_range.mp hk;omega
 ·rintro⟨h1,h2⟩;exact⟨(x-lo).toNat,mem_range.mpr yw,yw⟩
def aP(p:Part):List Int:=rng p.2.1 (p.2.2-p.2.1+1).toNat
theorem nR(p:Part):(aP p).length=(p.2.2-p.2.1+1).toNat:=by simp[aP,rng]
def bJ:List Part->List (List Int)
 | []=>[[]]
 |p::ps=>(aP p).flatMap fun x=>(bJ ps).map (x :: ·)
def ext(q:List (List Int))(p:Part):List (List Int):=q.flatMap fun a=>(aP p).map fun x=>a++[x]
theorem Dw:∀(ps:List Part) (found:List (List Int)),ps.foldl ext found=found.flatMap fun a=>(bJ ps).map (a ++ ·)
 | [],found=>by simp[bJ]
 |p::ps,found=>by
  rw[ut,Dw ps];unfold ext;simp only[bJ,List.flatMap_assoc,List.map_flatMap,List.flatMap_map,jj];congr 1;funext a;congr 1;funext x;congr 1;funext t;simp
theorem FR(ps:List Part):ps.foldl ext [[]]=bJ ps:=by
 rw[Dw];simp
theorem OL{ms:List Int}:InBox [] ms↔ms=[]:=⟨fun h=>df h.len,fun h=>by subst h;exact⟨rfl,fun k hk=>by simp at hk⟩⟩
theorem Al{p:Part}{ps:List Part}{k:Nat}:part (p::ps) (k+1)=part ps k:=by simp[part]
theorem Ja{p:Part}{ps:List Part}{ms:List Int}:InBox (p::ps) ms↔∃x t,ms=x::t/\p.2.1<=x/\x<=p.2.2/\InBox ps t:=by
 constructor
 ·intro h;cases ms with
  |nil=>have:=h.len;simp at this
  |cons x t=>
   have h0:=h.ok 0 yv;refine⟨x,t,rfl,h0.1,h0.2,by have:=h.len;simpa using this,fun k hk=>?_⟩;have:=h.ok (k+1) (by simpa using hk);unfold plo phi at this ⊢;rw[Al]at this;simpa using this
 ·rintro⟨x,t,rfl,h1,h2,h3⟩;refine⟨by simp[h3.len],fun k hk=>?_⟩;cases k with
  |zero=>exact⟨h1,h2⟩
  |succ k=>
   have:=h3.ok k (by simpa using hk);unfold plo phi at this ⊢;rw[Al];simpa using this
theorem eJ:∀{ps:List Part}{ms:List Int},ms∈bJ ps↔InBox ps ms
 | [],ms=>by rw[OL];simp[bJ]
 |p::ps,ms=>by
  rw[Ja,bJ,mem_flatMap];constructor
  ·rintro⟨x,hx,h⟩;obtain⟨t,ht,rfl⟩:=mem_map.mp h;unfold aP at hx;rw[AS]at hx;exact⟨x,t,rfl,yw,yw,eJ.mp ht⟩
  ·rintro⟨x,t,rfl,h1,h2,h3⟩;exact⟨x,by unfold aP;rw[AS];omega,mem_map.mpr ⟨t,eJ.mpr h3,rfl⟩⟩
def aQ:List Nat->Nat
 | []=>1
 |x::xs=>x*aQ xs
def aK(ps:List Part):Nat:=aQ (ps.map fun p=>(p.2.2-p.2.1+1).toNat)
theorem AY{α β:Type}{f:α->List β}{n:Nat}:∀{l:List α},(∀x∈l,(f x).length=n)->(l.flatMap f).length=l.length*n
 | [],_=>by simp
 |x::l,h=>by
  rw[List.flatMap_cons,ck,h x cp,AY fun y m=>h y (bq _ m),cx,succ_mul,Nat.add_comm]
theorem fW:∀ps:List Part,(bJ ps).length=aK ps
 | []=>rfl
 |p::ps=>by
  rw[bJ,AY (n:=aK ps) fun x _=>by rw[cg,fW ps],nR];rfl
theorem AN{q:List (List Int)}{p:Part}:(ext q p).length=q.length*(p.2.2-p.2.1+1).toNat:=by
 unfold ext;exact AY fun x _=>by rw[cg,nR]
theorem y9{q:List (List Int)}:∀{ps:List Part},(ps.foldl ext q).length=q.length*aK ps
 | []=>by simp[aK,aQ]
 |p::ps=>by
  rw[ut,y9 (ps:=ps),AN];simp[aK,aQ,Nat.mul_assoc]
theorem oF:∀{l:List Nat},(∀x∈l,1<=x)->1<=aQ l
 | [],_=>dh _
 |x::l,h=>mul_le_mul (h x cp) (oF fun y m=>h y (bq _ m))
theorem o8{ps:List Part}(ho:Ord ps):1<=aK ps:=oF fun x m=>by
 obtain⟨p,mp,rfl⟩:=mem_map.mp m;have:=ho p mp;omega
theorem sR:∀(a b:List Nat),aQ (a++b)=aQ a*aQ b
 | [],b=>by simp[aQ]
 |x::a,b=>by simp[aQ,sR a b,Nat.mul_assoc]
theorem uM{ps:List Part}(ho:Ord ps)(i:Nat):aK (ps.take i)<=aK ps:=by
 have e:aK ps=aK (ps.take i)*aK (ps.drop i):=by
  unfold aK;rw[<- sR,<- gw,oy]
 have:=o8 (ps:=ps.drop i) fun p m=>ho p (List.mem_of_mem_drop m);rw[e];exact Nat.le_mul_of_pos_right _ this
theorem zK{α:Type}{l:List α}{i:Nat}{x:α}(h:l[i]?=some x):l.take (i+1)=l.take i++[x]:=by rw[List.take_add_one,h];rfl
theorem Mw(a:List Int)(x:Int):ng (a.map bp++[.int x])=aD (a++[x]):=by simp[aD]
end
section
variable {R:RX}{S:Sto}
structure Wds(ws:List Int):Prop where
 l1:1<=ws.length
 l8:ws.length<=8
 pos:∀x∈ws,1<=x
 le:∀x∈ws,x<=300
 prod:aQ (ws.map Int.toNat)<=300
theorem prod3:∀{ws:List Int},(∀x∈ws,1<=x/\x<=3)->aQ (ws.map Int.toNat)<=3 ^ ws.length
 | [],_=>by simp[aQ]
 |x::ws,h=>by
  have h1:=h x cp;have h2:=prod3 fun y m=>h y (bq _ m);rw[fm,aQ,cx,Nat.pow_succ,mul_comm];exact mul_le_mul h2 yw
theorem wds3{ws:List Int}(l1:1<=ws.length)(l4:ws.length<=4)(h:∀x∈ws,1<=x/\x<=3):Wds ws:=by
 refine⟨l1,yw,fun x m=>(h x m).1,fun x m=>by have:=(h x m).2;omega,gm (prod3 h) ?_⟩;have:ws.length=1\/ws.length=2\/ws.length=3\/ws.length=4:=yw
 rcases this with e|e|e|e<;>rw[e]<;>decide
theorem E5:∀(a b:List Int),jk (a.map bp) (b.map bp)=decide (a=b)
 | [],[]=>rfl
 | [],_::_=>rfl
 |_::_,[]=>rfl
 |x::a,y::b=>by
  show (dm (.int x) (.int y)&&jk (a.map bp) (b.map bp))=_;rw[e8,E5 a b];by_cases h1:x=y<;>by_cases h2:a=b<;>simp[h1,h2]
theorem FD(a b:List Int):dm (aD a) (aD b)=decide (a=b):=E5 a b
end
section
variable {R:RX}{S:Sto}
theorem NY{n:Nat}(h:1<=n):ixN n (-1)=some (n-1):=by
 unfold ixN;rw[cr yw,cy yw];congr 1;omega
end
section
variable {R:RX}
theorem wB{ps:List Part}{i:Nat}{p:Part}(e:ps[i]?=some p):aK (ps.take (i+1))=aK (ps.take i)*(p.2.2-p.2.1+1).toNat:=by
 unfold aK;rw[zK e,gw,sR];simp[aQ]
theorem MJ{ps:List Part}(ho:Ord ps)(hs:aK ps<=300)(q:R (.d (.int (aK ps))) []):uS [.d (aF ps)] [] R:=by
 unfold uS;rw[aF];walk_at "d"
 walk_at "n"
 walk_at "n";refine cX (fun i δ S=>∃(u:Option XV),S=[]/\δ=[some (.d (.tuple (ps.map cE))),some (.d (.int (aK (ps.take i)))),u]) ⟨_,rfl,rfl⟩ ?_ ?_
 ·rintro i d _ _ N hi ⟨u,rfl,rfl⟩ hN;obtain⟨p,e,rfl⟩:=eL hi;have op:=ho p (ci e);have l1:=uM ho i;walk_at "d";refine xV ?_;walk_at "d";refine BG ?_;walk_at "d";refine⟨fJ yw yw,hN _ _ ⟨some (.d (cE p)),rfl,?_⟩⟩;rw[wB e,Int.natCast_mul,Int.toNat_of_nonneg yw]
 ·rintro _ _ ⟨u,rfl,rfl⟩;rw[cg,mr];walk_at "d";exact q
theorem Be{ps:List Part}(ho:Ord ps)(hs:aK ps<=300)(q:R (.d .none) []):oQ [.d (aF ps)] [] R:=by
 unfold oQ;walk_at "d"
 walk_at "n"
 refine MJ ho hs ?_;walk_at "d";have:¬(300:Int)<(aK ps:Int):=yw
 simp only[this,decide_false];walk_at "d";exact q
theorem EZ(p:Part):eK p.2.1 (p.2.2+1-p.2.1).toNat=(aP p).map bp:=by
 unfold eK aP rng;rw[jj,show p.2.2+1-p.2.1=p.2.2-p.2.1+1 by omega];rfl
theorem Hl{z:List (List Int)}{p:Part}(hl:(ext z p).length<=1000)(fl:∀a∈z,a.length<=100)(h1:1<=z.length)(q:R (.d (.list ((ext z p).map aD))) []):uN [.d (.list (z.map aD)),.d (.list ((aP p).map bp))] [] R:=by
 unfold uN;walk_at "d"
 walk_at "n"
 walk_at "n";refine cX (fun j δ S=>∃(u:Option XV),S=[(ext (z.take j) p).map aD]/\δ=[some (.d (.list (z.map aD))),some (.d (.list ((aP p).map bp))),some (.l 0),u]) ⟨_,rfl,rfl⟩ ?_ ?_
 ·rintro j d _ _ N hj ⟨u,rfl,rfl⟩ hN;obtain⟨a,ha,rfl⟩:=eL hj;have al:=fl a (ci ha);have ej:ext (z.take (j+1)) p=ext (z.take j) p++(aP p).map fun x=>a++[x]:=by
   rw[zK ha];unfold ext;rw[List.flatMap_append];simp
  have lj:(ext (z.take (j+1)) p).length<=(ext z p).length:=by
   rw[AN,AN,ku];exact Nat.mul_le_mul_right _ yw
  have sm:(ext (z.take j) p).length+(aP p).length<=1000:=by
   rw[ej,ck,cg]at lj;omega
  rw[aD];walk_at "d";refine cmp1 (S0:=[(ext (z.take j) p).map aD]) (fun x:Int=>aD (a++[x])) rfl (aP p) yw ?_ ?_
  ·intro x mx u acc R' hk;walk_at "d";refine⟨yw,?_⟩;rw[Mw];exact hk _
  ·walk_at "d";refine⟨sm,hN _ _ ⟨_,?_,rfl⟩⟩;rw[ej,gw,jj];rfl
 ·rintro _ _ ⟨u,rfl,rfl⟩;rw[cg,mr];walk_at "d";exact .inl q
theorem vZ{ps:List Part}(ho:Ord ps)(z:ps.length<=100)(hs:aK ps<=300)(q:R (.d (.list ((bJ ps).map aD))) []):g9 [.d (aF ps)] [] R:=by
 unfold g9;walk_at "d"
 walk_at "n"
 refine Be ho hs ?_;rw[aF];walk_at "d"
 walk_at "n"
 walk_at "n";refine cX (fun i δ S=>∃(u:Option XV),S=[]/\δ=[some (.d (.tuple (ps.map cE))),some (.d (.list (((ps.take i).foldl ext [[]]).map aD))),u]) ⟨_,rfl,rfl⟩ ?_ ?_
 ·rintro i d _ _ N hi ⟨u,rfl,rfl⟩ hN;obtain⟨p,e,rfl⟩:=eL hi;have op:=ho p (ci e);have l1:=uM ho i;have l2:=uM ho (i+1);have il:i<ps.length:=(List.getElem?_eq_some_iff.mp e).1;have f1:((ps.take i).foldl ext [[]]).length=aK (ps.take i):=by rw[y9];simp
  have nx:(ps.take (i+1)).foldl ext [[]]=ext ((ps.take i).foldl ext [[]]) p:=by rw[zK e,List.foldl_append];rfl
  have f2:(ext ((ps.take i).foldl ext [[]]) p).length=aK (ps.take (i+1)):=by
   rw[<- nx,y9];simp
  have fl:∀a∈(ps.take i).foldl ext [[]],a.length<=100:=by
   rw[FR];intro a m;have:=(eJ.mp m).len;rw[this,ku];omega
  have pos:1<=aK (ps.take i):=o8 fun p m=>ho p (uq m);have pl:(p.2.2+1-p.2.1).toNat<=1000:=by
   have e1:=wB e;have e2:(p.2.2-p.2.1+1).toNat<=aK (ps.take i)*(p.2.2-p.2.1+1).toNat:=Nat.le_mul_of_pos_left _ pos;omega
  rw[Aa];walk_at "d";refine⟨pl,?_⟩;rw[EZ];refine Hl yw fl yw ?_;walk_at "d";exact hN _ _ ⟨_,rfl,by rw[nx]⟩
 ·rintro _ _ ⟨u,rfl,rfl⟩;rw[cg,mr,FR];walk_at "d";exact q
def aE(c:List Nat):bc:=.tuple (c.map fun k:Nat=>.int k)
def nxt(c:List Nat):Nat:=match c.getLast? with|some x=>x+1|none=>0
def one1(n:Nat)(c:List Nat):List (List Nat):=(fh (n-nxt c)).map fun k=>c++[nxt c+k]
def ewm(cs:List (List Nat))(n:Nat):List (List Nat):=cs.flatMap (one1 n)
theorem Mh(c:List Nat)(k:Nat):ng ((c.map fun k:Nat=>bp k)++[.int (k:Int)])=aE (c++[k]):=by simp[aE]
theorem J1{c:List Nat}{x:Nat}(h:c.getLast?=some x):atI (c.map fun k:Nat=>bp k) (-1)=some (.int x):=by
 have ne:c≠[]:=fun z=>by rw[z]at h;cases h
 have l:1<=c.length:=List.length_pos_iff.mpr ne;unfold atI;rw[cg,NY l];show (c.map fun k:Nat=>bp k)[c.length-1]?=_;rw[gh,<- List.getLast?_eq_getElem?,h];rfl
theorem NQ{cs:List (List Nat)}{n:Nat}(hl:(ewm cs n).length<=900)(hc:∀c∈cs,c.length<=100)(q:R (.d (.list ((ewm cs n).map aE))) []):v3 [.d (.list (cs.map aE)),.d (.int n)] [] R:=by
 unfold v3;walk_at "d"
 walk_at "n"
 walk_at "n";refine cX (fun i δ S=>∃(u1 u2 u3:Option XV),S=[(ewm (cs.take i) n).map aE]/\δ=[some (.d (.list (cs.map aE))),some (.d (.int n)),some (.l 0),u1,u2,u3]) ⟨_,_,_,rfl,rfl⟩ ?_ ?_
 ·rintro i d _ _ N hi ⟨u1,u2,u3,rfl,rfl⟩ hN;obtain⟨c,e,rfl⟩:=eL hi;have cl:=hc c (ci e);have ee:ewm (cs.take (i+1)) n=ewm (cs.take i) n++one1 n c:=by
   unfold ewm;rw[zK e,List.flatMap_append];simp
  have le:(ewm (cs.take (i+1)) n).length<=(ewm cs n).length:=by
   have:ewm cs n=ewm (cs.take (i+1)) n++ewm (cs.drop (i+1)) n:=by
    unfold ewm;rw[<- List.flatMap_append,oy]
   rw[this,ck];omega
  rw[ee,ck]at le;have l1:(one1 n c).length=n-nxt c:=by simp[one1]
  have body:∀f:Int,f=(nxt c:Nat)->jT (zm 5) (cM (dBM d9 (zk 2) (zc (dOp aL (zk 3) (aO (zc (zk 5) zq))) zq))) (eK f ((n:Int)-f).toNat) { nx:=N,rt:=(aJ 0 R).rt,bk:=aC (zk 2) (aJ 0 R),ct:=N } [some (.d (.list (cs.map aE))),some (.d (.int n)),some (.l 0),some (.d (.tuple (c.map fun k:Nat=>.int k))),some (.d (.int f)),u3] [(ewm (cs.take i) n).map aE]:=by
   rintro f rfl;refine cX (fun j δ S=>∃(u3:Option XV),S=[(ewm (cs.take i) n++(one1 n c).take j).map aE]/\δ=[some (.d (.list (cs.map aE))),some (.d (.int n)),some (.l 0),some (.d (.tuple (c.map fun k:Nat=>.int k))),some (.d (.int (nxt c:Nat))),u3]) ⟨_,yv,rfl⟩ ?_ ?_
   ·rintro j d _ _ N' hj ⟨u3,rfl,rfl⟩ aa;obtain⟨ac,rfl⟩:=gO hj;have z:j<n-nxt c:=yw
    have eo:(one1 n c)[j]?=some (c++[nxt c+j]):=by
     unfold one1;rw[gh,getElem?_range z];rfl
    have lt:(ewm (cs.take i) n).length+((one1 n c).take j).length<=900:=by
     rw[ku];omega
    walk_at "d";refine⟨yw,yw,aa _ _ ⟨_,?_,rfl⟩⟩;rw[zK eo,<- gy,gw (l₂:=[c++[nxt c+j]])];have:=Mh c (nxt c+j);rw[Int.natCast_add]at this;rw[this];rfl
   ·rintro _ _ ⟨u3,rfl,rfl⟩;refine hN _ _ ⟨_,_,_,?_,rfl⟩;rw[ee,fR,List.take_of_length_le (l:=one1 n c) yw]
  rw[aE];walk_at "d";cases hz:c.getLast? with
  |none=>
   have c0:c=[]:=List.getLast?_eq_none_iff.mp hz;subst c0
   walk_at "n"
   exact body 0 rfl
  |some x=>
   have e0:nxt c=x+1:=by unfold nxt;rw[hz]
   have ab:c.isEmpty=false:=by
    cases c with
    |nil=>cases hz
    |cons _ _=>rfl
   walk_at "n";rw[cy (by rw[List.isEmpty_map];exact ab)];refine⟨_,J1 hz,?_⟩;walk_at "d";exact body _ (by rw[e0];omega)
 ·rintro _ _ ⟨u1,u2,u3,rfl,rfl⟩;rw[cg,mr];walk_at "d";exact .inl q
theorem xZ{n:Nat}(c:List Nat):Shp (n+1) (aE c):=gL (uO fun _ _=>gP)
end
section
variable {R:RX}{S:Sto}
def CH(n:Nat):Nat->List (List Nat)
 | 0=>[[]]
 |m+1=>ewm (CH n m) n
theorem BS:∀n<9,∀m<10,(CH n m).length<=900:=by decide +kernel
theorem fP:∀n<9,∀m<9,∀c∈CH n m,c.length=m/\∀k∈c,k<n:=by decide +kernel
theorem yG{n m:Nat}(hn:n<=8)(hm:m<=8)(q:R (.d (.list ((CH n m).map aE))) []):pQ [.d (.int n),.d (.int m)] [] R:=by
 unfold pQ;walk_at "d"
 walk_at "n"
 walk_at "n";refine cX (fun i δ S=>∃u:Option XV,S=[]/\δ=[some (.d (.int n)),some (.d (.int m)),some (.d (.list ((CH n i).map aE))),u]) ⟨_,rfl,rfl⟩ ?_ ?_
 ·rintro i d _ _ N hi ⟨u,rfl,rfl⟩ hN;obtain⟨z,rfl⟩:=gO hi;have aa:i<m:=by simpa using z
  walk_at "d";refine NQ (cs:=CH n i) (BS n yw (i+1) yw) (fun c mc=>by have:=(fP n yw i yw c mc).1;omega) ?_;walk_at "d";exact hN _ _ ⟨_,rfl,rfl⟩
 ·rintro _ _ ⟨u,rfl,rfl⟩;rw[fR];walk_at "d";rw[show ((m:Int)).toNat=m by simp];exact q
end
section
variable {R:RX}{S:Sto}
theorem mG(ps:List Part):aF ps=.tuple (ps.map cE):=rfl
theorem BH{d:bc}(q:R (.d (.bool (cF d))) []):iP [.d d] [] R:=by
 unfold iP;cases d<;>(walk_at "e";exact q)
def inP(p:Part):bc->Bool
 | .int k=>decide (p.2.1<=k/\k<=p.2.2)
 |_=>false
def fN(ps:List Part):bc->Bool
 | .tuple ds=>decide (ds.length=ps.length)&&((ds.zip ps).map fun q=>inP q.2 q.1).all id
 |_=>false
theorem uX(ps:List Part)(ds:List bc):fN ps (.tuple ds)=(decide (ds.length=ps.length)&&((ds.zip ps).map fun q=>inP q.2 q.1).all id):=rfl
theorem tP{ps:List Part}{d:bc}(hl:ps.length<=100)(q:R (.d (.bool (fN ps d))) []):jU [.d (aF ps),.d d] [] R:=by
 unfold jU;rw[mG];cases d with
 |tuple ds=>
  walk_at "d"
  walk_at "n"
  by_cases h:ds.length=ps.length
  ·rw[cr yw];rw[uX,fz h,ql]at q;have ez:cP ds (ps.map cE)=(ds.zip ps).map fun q=>.tuple [q.1,cE q.2]:=by
    have:=xE (fun d:bc=>d) cE ds ps
    rwa [map_id']at this
   walk_at "d";rw[ez];refine cmp2 (S0:=[]) (fun q:bc×Part=>.bool (inP q.2 q.1)) rfl (ds.zip ps) (by simp;omega) ?_ ?_
   ·intro x mx u v acc R' hk;obtain⟨d,p⟩:=x;rw[Aa];walk_at "d";refine BH ?_;cases d with
    |int k=>
     simp only[cF];walk_at "d";have e0:inP p (.int k)=decide (p.2.1<=k/\k<=p.2.2):=rfl;have z:=hk (some (.d (.int k))) (some (.d (.tuple [.str p.1,.int p.2.1,.int p.2.2])));rw[e0]at z;split
     ·rename_i h1;simpa[h1]using z
     ·rename_i h1;simpa[h1]using z
    |none=>(simp only[cF];walk_at "d";exact hk _ _)
    |bool b=>(simp only[cF];walk_at "d";exact hk _ _)
    |str b=>(simp only[cF];walk_at "d";exact hk _ _)
    |list b=>(simp only[cF];walk_at "d";exact hk _ _)
    |dict b=>(simp only[cF];walk_at "d";exact hk _ _)
    |tuple b=>(simp only[cF];walk_at "d";exact hk _ _)
   ·walk_at "d";exact⟨_,by rw[jj];rfl,q⟩
  ·rw[cy yw];rw[uX,ff h]at q;exact q
 |none=>(walk_at "d";walk_at "n";exact q)
 |bool b=>(walk_at "d";walk_at "n";exact q)
 |int b=>(walk_at "d";walk_at "n";exact q)
 |str b=>(walk_at "d";walk_at "n";exact q)
 |list b=>(walk_at "d";walk_at "n";exact q)
 |dict b=>(walk_at "d";walk_at "n";exact q)
def atC(ns:List Int)(c:List Nat):List Int:=c.map fun k=>ns.getD k 0
theorem yC{ns:List Int}{c:List Nat}(hc:∀k∈c,k<ns.length)(hl:c.length<=100)(q:R (.d (aD (atC ns c))) []):lJ [.d (aD ns),.d (aE c)] [] R:=by
 unfold lJ aD aE;walk_at "d";refine cmp1 (S0:=[]) (fun k:Nat=>.int (ns.getD k 0)) rfl c yw ?_ ?_
 ·intro k mk u acc R' hk;walk_at "d";exact⟨_,dF (f:=bp) (k7 (hc k mk)),hk _⟩
 ·walk_at "d";have e:(c.map fun k:Nat=>bp (ns.getD k 0))=(atC ns c).map bp:=by unfold atC;rw[jj];rfl
  rw[e];exact q
theorem NS{g:DG}{te:DE}{fin:Sto->Prop}{S0:Sto}{n:Nat}{caps:XE}(f:bc->bc)(hn:S0.length=n)(ds:List bc){u:Option XV}(hl:ds.length<=1000)
  (el:∀x∈ds,∀(u:Option XV) acc (R:XE->RX),(∀u',R (u'::caps) (.d (f x)) (S0++[acc]))->g (.d x) (u::caps) (S0++[acc]) fun τ1 S1=>te τ1 S1 (R τ1)) (hf:fin (S0++[ds.map f])):aX n g aG te fin ds (u::caps) (S0++[[]]):=by
 have:=cmp1 (h:=fun d:bc=>d) (u:=u) f hn ds hl el hf;simpa only[map_id']using this
def iR(c:List Nat):bc->Bool
 | .tuple ds=>ds.all cF&&dm (.tuple ds) (aE c)
 |_=>false
theorem Eh(c:List Nat)(ds:List bc):iR c (.tuple ds)=(ds.all cF&&dm (.tuple ds) (aE c)):=rfl
theorem Hk{ds:List bc}(h:ds.all cF=true):cv (.tuple ds)=true:=(gL (n:=0) fun e m=>by
 have:=all_eq_true.mp h e m;cases e with
 |int i=>exact gP
 |_=>cases this).ok
def DW:bc->Nat
 | .tuple ds=>ds.length
 |_=>0
theorem Lr{c:List Nat}{d:bc}(hd:DW d<=900)(q:R (.d (.bool (iR c d))) []):tG [.d d,.d (aE c)] [] R:=by
 unfold tG;cases d with
 |tuple ds=>
  walk_at "d";rw[Eh]at q;refine NS (S0:=[]) (fun d=>.bool (cF d)) rfl ds (gm hd dz) ?_ ?_
  ·intro x mx u acc R' hk;walk_at "d";refine BH ?_;walk_at "d";exact hk _
  ·walk_at "d";refine⟨ds.map cF,by rw[jj];rfl,?_⟩;rw[all_map,show ds.all (id∘cF)=ds.all cF from rfl];cases hw:ds.all cF with
   |false=>
    rw[hw]at q;exact q
   |true=>
    rw[hw,ql]at q;exact⟨Hk hw,(xZ (n:=0) c).ok,q⟩
 |none=>(walk_at "d";exact q)
 |bool b=>(walk_at "d";exact q)
 |int b=>(walk_at "d";exact q)
 |str b=>(walk_at "d";exact q)
 |list b=>(walk_at "d";exact q)
 |dict b=>(walk_at "d";exact q)
def unI:bc->Int
 | .int k=>k
 |_=>0
def vI:bc->List Int
 | .tuple ds=>ds.map unI
 |_=>[]
theorem xL:∀{ds:List bc},(∀d∈ds,∃k,d=.int k)->ds=(ds.map unI).map bp
 | [],_=>rfl
 |d::r,h=>by
  obtain⟨k,rfl⟩:=h d cp;rw[fm,fm,<- xL fun e m=>h e (bq _ m)];rfl
theorem C5{ps:List Part}{d:bc}(h:fN ps d=true):d=aD (vI d)/\(vI d).length=ps.length:=by
 cases d with
 |tuple ds=>
  rw[uX,gc,decide_eq_true_eq]at h;obtain⟨h1,h2⟩:=h;refine⟨?_,by simp[vI,h1]⟩;have:∀d∈ds,∃k,d=.int k:=fun d m=>by
   obtain⟨i,hi,rfl⟩:=mem_iff_getElem.mp m;have hz:i<(ds.zip ps).length:=by simp;omega
   have mz:((ds.zip ps)[i])∈ds.zip ps:=nr hz;have:=all_eq_true.mp h2 _ (mem_map.mpr ⟨_,mz,rfl⟩);simp only[getElem_zip,id]at this;generalize ds[i]=d at this;cases d with
   |int k=>exact⟨k,rfl⟩
   |_=>cases this
  show ng ds=.tuple ((ds.map unI).map bp);rw[<- xL this]
 |_=>cases h
def iK(ps:List Part)(g:Gap)(c:List Nat):bc->Bool
 | .tuple [x,y,z]=>iR c x&&((fN ps y&&fN ps z)&&(decide (atC (vI y) c=atC (vI z) c)&&(bA g (vI y)&&!bA g (vI z))))
 |_=>false
theorem row3(ps:List Part)(g:Gap)(c:List Nat)(x y z:bc):iK ps g c (.tuple [x,y,z])=(iR c x&&((fN ps y&&fN ps z)&&(decide (atC (vI y) c=atC (vI z) c)&&(bA g (vI y)&&!bA g (vI z))))):=rfl
def B0:bc->Prop
 | .tuple (x::_)=>DW x<=900
 |_=>True
theorem Cg(ns:List Int):cv (aD ns)=true:=(gL (n:=0) fun e m=>by
 obtain⟨k,_,rfl⟩:=mem_map.mp m;exact gP).ok
theorem KP{ps:List Part}{g:Gap}{c:List Nat}{d:bc}(hp:ps.length<=100)(h3:Tm3 ps.length g.ts)(hc:∀k∈c,k<ps.length)(hl:c.length<=100)(hd:B0 d)(q:R (.d (.bool (iK ps g c d))) []):uH [.d (aF ps),.d (bG g),.d (aE c),.d d] [] R:=by
 unfold uH;cases d with
 |tuple ds=>
  walk_at "d";walk_at "n"
  match ds,hd,q with
  | [x,y,z],hd,q=>
   rw[row3]at q;walk_at "d";refine Lr hd ?_;cases hs:iR c x with
   |false=>
    rw[hs]at q;walk_at "d";exact q
   |true=>
    rw[hs,ql]at q;walk_at "d";walk_at "n";refine tP hp ?_;cases hy:fN ps y with
    |false=>
     rw[hy]at q;walk_at "d";exact q
    |true=>
     walk_at "d";refine tP hp ?_;cases hz:fN ps z with
     |false=>
      rw[hy,hz]at q;walk_at "d";exact q
     |true=>
      rw[hy,hz,ql,ql]at q;obtain⟨ey,ly⟩:=C5 hy;obtain⟨ez,lz⟩:=C5 hz;generalize vI y=a at ey ly q;generalize vI z=b at ez lz q;subst ey ez;walk_at "d";refine yC (by rw[ly];exact hc) hl ?_;walk_at "d";refine yC (by rw[lz];exact hc) hl ?_;walk_at "d";refine⟨Cg _,Cg _,?_⟩;rw[FD];cases he:decide (atC a c=atC b c)with
      |false=>
       rw[he]at q;walk_at "d";exact q
      |true=>
       rw[he,ql]at q;walk_at "d";refine iI (by rw[ly];exact h3) ?_;cases hk:bA g a with
       |false=>
        rw[hk]at q;walk_at "d";exact q
       |true=>
        rw[hk,ql]at q;walk_at "d";refine iI (by rw[lz];exact h3) ?_;walk_at "d";exact q
  | [],_,q=>(walk_at "d";exact q)
  | [x],_,q=>(walk_at "d";exact q)
  | [x,y],_,q=>(walk_at "d";exact q)
  |x::y::z::u::r,_,q=>
   walk_at "d";rw[cy yw];exact q
 |none=>(walk_at "d";walk_at "n";exact q)
 |bool b=>(walk_at "d";walk_at "n";exact q)
 |int b=>(walk_at "d";walk_at "n";exact q)
 |str b=>(walk_at "d";walk_at "n";exact q)
 |list b=>(walk_at "d";walk_at "n";exact q)
 |dict b=>(walk_at "d";walk_at "n";exact q)
def pB(c:List Nat)(k:Nat):Bool:=match c.getLast? with
 |none=>true
 |some x=>decide (x<k)
def aZ(n m:Nat):List (List Nat):=if m=0 then []else CH n (m-1)
theorem yU{n m:Nat}(hn:n<=8)(hm:m<=n+1):(aZ n m).length<=900/\∀c∈aZ n m,c.length<=100/\∀k∈c,k<n:=by
 unfold aZ;split
 ·exact⟨by decide,fun c m=>by cases m⟩
 ·refine⟨BS n yw (m-1) yw,fun c mc=>?_⟩;obtain⟨h1,h2⟩:=fP n yw (m-1) yw c mc;exact⟨yw,h2⟩
def mS(ps:List Part)(g:Gap)(cs:List (List Nat)):bc->Bool
 | .list ds=>decide (ds.length=cs.length)&&(ds.zip cs).all fun q=>iK ps g q.2 q.1
 |_=>false
theorem xM(ps:List Part)(g:Gap)(cs:List (List Nat))(ds:List bc):mS ps g cs (.list ds)=(decide (ds.length=cs.length)&&(ds.zip cs).all fun q=>iK ps g q.2 q.1):=rfl
def FZ:bc->Prop
 | .list ds=>∀d∈ds,B0 d
 |_=>True
theorem L3(ds:List bc)(cs:List (List Nat)):cP (cs.map aE) ds=(cs.zip ds).map fun q=>.tuple [aE q.1,q.2]:=by
 have:=xE aE (fun d:bc=>d) cs ds
 rwa [map_id']at this
theorem HN(ds:List bc)(cs:List (List Nat))(f:bc->List Nat->Bool):((cs.zip ds).map fun q=>f q.2 q.1).all id=(ds.zip cs).all fun q=>f q.1 q.2:=by
 induction ds generalizing cs with
 |nil=>cases cs<;>rfl
 |cons d r ih=>
  cases cs with
  |nil=>rfl
  |cons c cs=>
   rw[sn,sn,fm,all_cons,all_cons,ih];rfl
theorem GP{ps:List Part}{m:Nat}(hp:ps.length<=8)(hm:m<=ps.length+1)(q:R (.d (.list ((aZ ps.length m).map aE))) []):nP [.d (.tuple (ps.map cE)),.d (.int m)] [] R:=by
 unfold nP;unfold aZ at q;walk_at "d";by_cases h:m=0
 ·rw[cy h]at q;rw[cr yw];exact q
 ·rw[cr h]at q;rw[cy yw,show (m:Int)-1=((m-1:Nat):Int) by omega];refine yG hp yw ?_;walk_at "d";exact q
theorem Gn{ps:List Part}{g:Gap}{m:Nat}{d:bc}(hp:ps.length<=8)(hm:m<=ps.length+1)(h3:Tm3 ps.length g.ts)(hd:FZ d)(q:R (.d (.bool (mS ps g (aZ ps.length m) d))) []):tV [.d (aF ps),.d (bG g),.d (.int m),.d d] [] R:=by
 obtain⟨dl,de⟩:=yU hp hm;unfold tV;cases d with
 |list ds=>
  rw[xM]at q;rw[mG];walk_at "d";walk_at "n";rw[cr yw]
  walk_at "n"
  refine GP hp hm ?_;generalize aZ ps.length m=cs at dl de q;walk_at "d";walk_at "n";by_cases hl:ds.length=cs.length
  ·rw[cr yw];rw[fz hl,ql]at q;rw[L3];refine cmp2 (S0:=[]) (fun q:List Nat×bc=>.bool (iK ps g q.1 q.2)) rfl (cs.zip ds) (by simp;omega) ?_ ?_
   ·intro x mx u v acc R' hk;obtain⟨c,d⟩:=x;obtain⟨m1,m2⟩:=of_mem_zip mx;walk_at "d";rw[<- mG];refine KP yw h3 (de c m1).2 (de c m1).1 (hd d m2) ?_;walk_at "d";exact hk _ _
   ·walk_at "d";refine⟨(cs.zip ds).map fun q=>iK ps g q.1 q.2,by rw[jj];rfl,?_⟩;have e:=HN ds cs fun d c=>iK ps g c d;rw[e];exact q
  ·rw[cy yw];rw[ff hl]at q;exact q
 |none=>(walk_at "d";walk_at "n";exact q)
 |bool b=>(walk_at "d";walk_at "n";exact q)
 |int b=>(walk_at "d";walk_at "n";exact q)
 |str b=>(walk_at "d";walk_at "n";exact q)
 |tuple b=>(walk_at "d";walk_at "n";exact q)
 |dict b=>(walk_at "d";walk_at "n";exact q)
theorem Jf{ds:List bc}{c:List Nat}(hw:ds.all cF=true)(h:ds.length≠c.length):dm (.tuple ds) (aE c)=false:=by
 have e:=xL (ds:=ds) fun d m=>by
  have:=all_eq_true.mp hw d m;cases d with
  |int k=>exact⟨k,rfl⟩
  |_=>cases this
 have en:aE c=aD (c.map fun k:Nat=>(k:Int)):=by unfold aE aD;rw[jj];rfl
 rw[en];have es:ng ds=aD (ds.map unI):=by unfold aD;rw[<- e]
 rw[es,FD];refine ff fun z=>h ?_;have:=congrArg List.length z;simpa using this
def rwD(r:List Nat×List Int×List Int):bc:=.tuple [aE r.1,aD r.2.1,aD r.2.2]
theorem GC(r:List Nat×List Int×List Int):rwD r=.tuple [aE r.1,aD r.2.1,aD r.2.2]:=rfl
end
section
variable {R:RX}{S:Sto}
inductive IsPl (ps:List Part):List Nat->Nat->bc->Prop
 |leaf {ms n}{w:Str} (h:w = "breaks"\/w = "keeps"):IsPl ps ms n (.tuple [.str w])
 |node {ms n} (k:Nat) (l:List bc) (hk:k<ps.length) (hm:k∉ms) (hl:(l.length:Int)=phi ps k-plo ps k+1) (h:∀d∈l,IsPl ps (ms++[k]) n d):IsPl ps ms (n+1) (.tuple [.str "measure",.int k,.tuple l])
def nlD(ms:List Nat):bc:=.list (ms.map fun k:Nat=>.int k)
theorem AU{ps:List Part}(ho:Ord ps){k:Nat}(hk:k<ps.length):(phi ps k-plo ps k+1).toNat<=aK ps:=by
 have h1:=uM ho (k+1);rw[wB (gB hk)]at h1;have h2:=o8 (ps:=ps.take k) fun p m=>ho p (uq m);refine gm ?_ h1;exact Nat.le_mul_of_pos_left _ h2
inductive Led (lo:Nat->Int) (one:List Int):bc->List Nat->Str->Prop
 |leaf {w:Str} (h:w = "breaks"\/w = "keeps"):Led lo one (.tuple [.str w]) [] w
 |node {k i:Nat}{l:List bc}{d:bc}{js:List Nat}{w:Str} (hk:k<one.length) (hi:one.getD k 0=lo k+i) (hd:l[i]?=some d) (h:Led lo one d js w):Led lo one (.tuple [.str "measure",.int k,.tuple l]) (k::js) w
theorem IsPl.led{ps:List Part}{q:List Int}(hb:InBox ps q):∀{n:Nat}{ms:List Nat}{d:bc},IsPl ps ms n d->∃js w,Led (plo ps) q d js w/\js.length<=n/\∀j∈js,j<ps.length:=by
 intro n ms d h;induction h with
 |leaf h=>exact⟨[],_,.leaf h,lh _,yv⟩
 | @node ms n k l hk hm hl h ih=>
  obtain⟨b1,b2⟩:=hb.ok k hk;have hi:(q.getD k 0-plo ps k).toNat<l.length:=yw
  obtain⟨js,w,h1,h2,h3⟩:=ih _ (nr hi);refine⟨k::js,w,.node (i:=(q.getD k 0-plo ps k).toNat) (by rw[hb.len];exact hk) yw (bn hi) h1,by simp;omega,fun j mj=>?_⟩;rcases mem_cons.mp mj with rfl|mj
  ·exact hk
  ·exact h3 j mj
theorem A5{ps:List Part}{aa:List Int}{d:bc}{js:List Nat}{w:Str}(hL:Led (plo ps) aa d js w)(hj:∀j∈js,j<ps.length)(hl:js.length<=100)(q:R (.d (.tuple [nlD js,.str w])) []):mJ [.d d,.d (aF ps),.d (aD aa)] [] R:=by
 unfold mJ;walk_at "d";walk_at "n";walk_at "n";walk_at "n";refine⟨fun m δ S=>∃(d':bc) (j0 j1:List Nat) (u:Option XV),Led (plo ps) aa d' j1 w/\j0++j1=js/\m=j1.length/\S=[j0.map fun k:Nat=>.int k]/\δ=[some (.d d),some (.d (aF ps)),some (.d (aD aa)),some (.l 0),some (.d d'),u],⟨_,d,[],js,none,hL,rfl,rfl,rfl,rfl⟩,?_⟩;rintro m _ _ ⟨d',j0,j1,u,h1,h2,rfl,rfl,rfl⟩;cases h1 with
 |leaf h=>
  walk_at "d";rw[jg]at h2;have hn:cv (.str w)=true/\(ph w).eqv (.str "measure")=false:=by rcases h with rfl|rfl<;>exact⟨by decide +kernel,by decide +kernel⟩
  refine⟨hn.1,by decide +kernel,?_⟩;rw[cr (by rw[hn.2];exact gj),h2];exact q
 | @node k i l d2 js' _ hk hi hd h=>
  walk_at "d";have kp:=hj k (by rw[<- h2];simp);have lj:j0.length+(js'.length+1)=js.length:=by rw[<- h2,ck,cx]
  have ep:=dF (f:=cE) (gB kp);have eo:=dF (f:=bp) (k7 (ns:=aa) (k:=k) hk);refine⟨by decide +kernel,by decide +kernel,?_⟩;rw[cy (by decide +kernel)];refine⟨fun δ' S'=>∃m',m'<js'.length+1/\∃(d':bc) (j0 j1:List Nat) (u:Option XV),Led (plo ps) aa d' j1 w/\j0++j1=js/\m'=j1.length/\S'=[j0.map fun k:Nat=>.int k]/\δ'=[some (.d d),some (.d (aF ps)),some (.d (aD aa)),some (.l 0),some (.d d'),u],fun _ _ z=>z,?_⟩;rw[mG,aD];walk_at "n";walk_at "n";refine⟨yw,?_⟩;refine⟨_,eo,_,ep,?_⟩;rw[Aa];walk_at "d";have e1:(part ps k).2.1=plo ps k:=rfl;have ei:aa.getD k 0-(part ps k).2.1=i:=by rw[e1];omega
  rw[ei];exact⟨d2,hZ hd,js'.length,yw,d2,j0++[k],js',_,h,by rw[<- h2];simp,rfl,by rw[gw];rfl,rfl,rfl⟩
theorem cmp1p{n:Nat}{S0:Sto}{g:DG}{te:DE}{fin:Sto->Prop}{caps:XE}(f:bc->bc)(hn:S0.length=n)(l:List bc){u:Option XV}(hl:l.length<=1000)
  (el:∀x∈l,∀(u:Option XV) acc (R:XE->RX),(∀u',R (u'::caps) (.d (f x)) (S0++[acc]))->g (.d x) (u::caps) (S0++[acc]) fun τ1 S1=>te τ1 S1 (R τ1)) (hf:fin (S0++[l.map f])):aX n g aG te fin l (u::caps) (S0++[[]]):=by
 have:=cmp1 (h:=fun d:bc=>d) (g:=g) (te:=te) (fin:=fin) (caps:=caps) (u:=u) f hn l hl el hf
 rwa [map_id']at this
def mxN(l:List Nat):Nat:=l.foldl max 0
theorem r8:∀(l:List Nat) (a:Nat),a<=l.foldl max a/\(∀x∈l,x<=l.foldl max a)/\(l.foldl max a=a\/l.foldl max a∈l)
 | [],a=>⟨dh _,yv,.inl rfl⟩
 |x::l,a=>by
  obtain⟨h1,h2,h3⟩:=r8 l (max a x);refine⟨by rw[ut];omega,fun y my=>?_,?_⟩
  ·rw[ut];rcases mem_cons.mp my with rfl|my
   ·omega
   ·exact h2 y my
  ·rw[ut];rcases h3 with h3|h3
   ·rw[h3];by_cases z:a<=x
    ·exact .inr (by rw[Nat.max_eq_right z];exact cp)
    ·exact .inl yw
   ·exact .inr (bq _ h3)
theorem ED{l:List Nat}{m:Int}(h1:∃x∈l,m=(x:Nat))(h2:∀a∈l,((a:Nat):Int)<=m):m=(mxN l:Nat):=by
 obtain⟨x,mx,rfl⟩:=h1;obtain⟨_,g2,g3⟩:=r8 l 0;have a1:=g2 x mx;unfold mxN;rcases g3 with g3|g3
 ·omega
 ·have:=h2 _ g3;omega
def dpF:Nat->bc->Nat
 |n+1,.tuple [_,_,.tuple l]=>1+mxN (l.map (dpF n))
 |_,_=>0
theorem Dn:∀{xs ys:List bc},(∀x∈xs,∀y∈ys,dm x y=true->x=y)->jk xs ys=true->xs=ys
 | [],[],_,_=>rfl
 | [],_::_,_,h=>by simp[jk]at h
 |_::_,[],_,h=>by simp[jk]at h
 |x::xs,y::ys,f,h=>by
  simp only[jk,gc]at h;rw[f x cp y cp h.1,Dn (fun a ma b mb=>f a (bq _ ma) b (bq _ mb)) h.2]
theorem IsPl.eqv{ps:List Part}:∀{n ms x},IsPl ps ms n x->∀{n' q y},IsPl ps q n' y->dm x y=true->x=y:=by
 intro n ms x h;induction h with
 | @leaf _ _ w _=>
  intro n' q y hy e;cases hy with
  | @leaf _ _ v _=>
   simp only[dm,jk,um]at e;rw[eq_of_beq e]
  |node k l=>simp[dm,jk]at e
 | @node _ n k l _ _ _ _ ih=>
  intro n' q y hy e;cases hy with
  |leaf=>simp[dm,jk]at e
  | @node _ _ k' l' _ _ _ h'=>
   simp only[dm,jk,um,gc]at e;obtain⟨_,e1,e2⟩:=e;have ek:(k:Int)=k':=by simpa using e1
   rw[ek,Dn (fun x mx y my z=>ih x mx (h' y my) z) e2]
theorem xX{n:Nat}{z:Str}(h:PyData.strOk z=true):Shp n (.str z):=⟨h,lh _⟩
theorem IsPl.shp{ps:List Part}{n:Nat}{ms:List Nat}{d:bc}(h:IsPl ps ms n d):Shp (2*n+1) d:=by
 induction h with
 |leaf h=>
  refine gL fun d md=>?_;rw[mem_singleton.mp md];rcases h with rfl|rfl<;>exact xX (by decide +kernel)
 | @node _ n k l _ _ _ _ ih=>
  refine gL fun d md=>?_;simp only[ja,gt,or_false]at md;rcases md with rfl|rfl|rfl
  ·exact xX (by decide +kernel)
  ·exact gP
  ·exact gL (n:=2*n+1) ih
theorem MY{ps:List Part}{ms:List Nat}{n:Nat}{l:List bc}(hl:l.length<=300)(hn:n<=8)(h:∀d∈l,IsPl ps ms n d)(q:∀us:List bc,(∀x,x∈us↔x∈l)->us.length<=l.length->R (.d (.list us)) []):vS [.d (.tuple l)] [] R:=by
 unfold vS;walk_at "d"
 walk_at "n"
 walk_at "n";refine cX (fun i δ S=>∃(us:List bc) (u:Option XV),(∀x,x∈us↔x∈l.take i)/\us.length<=i/\S=[us]/\δ=[some (.d (.tuple l)),some (.l 0),u]) ⟨[],_,yv,dh _,rfl,rfl⟩ ?_ ?_
 ·rintro i d _ _ N hi ⟨us,u,hu,ab,rfl,rfl⟩ hN;have md:=ci hi;have il:i<l.length:=(List.getElem?_eq_some_iff.mp hi).1;have hd:=h d md;have aa:∀x∈us,IsPl ps ms n x:=fun x mx=>h x (uq ((hu x).mp mx));have s1:cv d=true:=hd.shp.ok yw;have s2:cv (.list us)=true:=(v7 fun x mx=>(aa x mx).shp).ok yw;walk_at "d";refine⟨s1,s2,?_⟩;by_cases z:d∈us
  ·rw[show (us.any fun y=>dm y d)=true from any_eq_true.mpr ⟨d,z,SeqAt.eqv_refl d hd.shp.1⟩];refine hN _ _ ⟨us,_,fun x=>?_,yw,rfl,rfl⟩;rw[zK hi,rc,qi,<- hu x];exact⟨.inl,fun c=>c.elim id fun e=>e▸z⟩
  ·rw[show (us.any fun y=>dm y d)=false from any_eq_false.mpr fun y my e=>z ((aa y my).eqv hd e▸my)];refine⟨yw,hN _ _ ⟨us++[d],_,fun x=>?_,by simp;omega,rfl,rfl⟩⟩;rw[zK hi,rc,rc,<- hu x]
 ·rintro _ _ ⟨us,u,hu,ab,rfl,rfl⟩;rw[mr]at hu;walk_at "d";exact .inl (q us hu ab)
theorem D8:∀{l:List Nat},(∀x∈l,1<=x)->l.sum<=aQ l+l.length
 | [],_=>by simp
 |x::l,h=>by
  have h1:=h x cp;have h2:=D8 fun y m=>h y (bq x m);have h3:1<=aQ l:=oF fun y m=>h y (bq x m);have h4:x+aQ l<=x*aQ l+1:=by
   obtain⟨a,rfl⟩:∃a,x=a+1:=⟨x-1,yw⟩;obtain⟨b,hb⟩:∃b,aQ l=b+1:=⟨aQ l-1,yw⟩;rw[hb,Nat.mul_add,add_mul];omega
  have h5:aQ (x::l)=x*aQ l:=rfl;rw[sum_cons,cx,h5];omega
theorem vL{f:Nat->Nat}:∀{n:Nat}{ms:List Nat},ms.Nodup->(∀j∈ms,j<n)->(ms.map f).sum<=((fh n).map f).sum
 | 0,[],_,_=>by simp
 | 0,j::ms,_,h=>by have:=h j cp;omega
 |n+1,ms,hd,h=>by
  rw[List.range_succ,gw,ud,jy,rh];by_cases z:n∈ms
  ·have p:=(List.perm_cons_erase z).map f;rw[p.sum_nat,fm,sum_cons];have:=vL (f:=f) (n:=n) (hd.erase n) fun j mj=>by
    have h1:=h j (List.mem_of_mem_erase mj);have h2:j≠n:=fun e=>((List.Nodup.mem_erase_iff hd).mp (e▸mj)).1 rfl;omega
   omega
  ·have:=vL (f:=f) (n:=n) hd fun j mj=>by
    have h1:=h j mj;have h2:j≠n:=fun e=>z (e▸mj);omega
   omega
def wdN(ps:List Part)(k:Nat):Nat:=(phi ps k-plo ps k+1).toNat
theorem CY{ps:List Part}(ho:Ord ps)(hz:aK ps<=300)(h8:ps.length<=8){ms:List Nat}(hd:ms.Nodup)(h:∀j∈ms,j<ps.length):(ms.map (wdN ps)).sum<=308:=by
 have h1:=vL (f:=wdN ps) hd h;have e:(fh ps.length).map (wdN ps)=ps.map fun p=>(p.2.2-p.2.1+1).toNat:=by
  refine List.ext_getElem? fun i=>?_;rw[gh,gh];by_cases hi:i<ps.length
  ·rw[getElem?_range hi,gB hi];rfl
  ·rw[getElem?_eq_none (by simpa using hi),getElem?_eq_none yw];rfl
 have h2:=D8 (l:=ps.map fun p=>(p.2.2-p.2.1+1).toNat) fun x m=>by
  obtain⟨p,mp,rfl⟩:=mem_map.mp m;have:=ho p mp;omega
 rw[e]at h1;rw[cg]at h2;have h3:aQ (ps.map fun p=>(p.2.2-p.2.1+1).toNat)=aK ps:=rfl;omega
structure En where
 n:Nat
 ms:List Nat
 d:bc
 k:Nat
def enD(e:En):bc:=.tuple [e.d,.int e.k]
structure EnOk(ps:List Part)(e:En):Prop where
 pl:IsPl ps e.ms e.n e.d
 n8:e.n<=8
 k8:e.k+e.n<=8
 nd:e.ms.Nodup
 lt:∀j∈e.ms,j<ps.length
def enV(e:En):Nat:=e.k+dpF e.n e.d
theorem A6{α:Type}{f:α->Nat}{b:Nat}:∀{l:List α},(∀x∈l,f x<=b)->(l.map f).sum<=l.length*b
 | [],_=>by simp
 |x::l,h=>by
  have h1:=h x cp;have h2:=A6 (l:=l) fun y m=>h y (bq x m);rw[fm,sum_cons,cx,add_mul];omega
theorem AT:∀(l:List Nat) (a:Nat),l.foldl max a=max a (l.foldl max 0)
 | [],a=>by simp
 |x::l,a=>by
  rw[ut,ut,AT l (max a x),AT l (max 0 x)];omega
theorem Ch(a b:List Nat):mxN (a++b)=max (mxN a) (mxN b):=by
 unfold mxN;rw[List.foldl_append,AT]
theorem G1(a:Nat):mxN [a]=a:=by simp[mxN]
theorem Mp{f:bc->Nat}{c:Nat}{us l:List bc}(hu:∀x,x∈us↔x∈l)(hl:l≠[]):mxN (us.map fun x=>c+f x)=c+mxN (l.map f):=by
 obtain⟨_,g2,g3⟩:=r8 (l.map f) 0;have e:∃x∈l,mxN (l.map f)=f x:=by
  rcases g3 with g3|g3
  ·obtain⟨x,mx⟩:=List.exists_mem_of_ne_nil _ hl;have:=g2 _ (mem_map.mpr ⟨x,mx,rfl⟩);exact⟨x,mx,by unfold mxN;omega⟩
  ·obtain⟨x,mx,ex⟩:=mem_map.mp g3;exact⟨x,mx,ex.symm⟩
 obtain⟨x,mx,ex⟩:=e;have:=ED (l:=us.map fun x=>c+f x) (m:=((c+mxN (l.map f):Nat):Int)) ⟨_,mem_map.mpr ⟨x,(hu x).mpr mx,rfl⟩,by rw[ex]⟩ fun a ma=>by
  obtain⟨y,my,rfl⟩:=mem_map.mp ma;have h:=g2 _ (mem_map.mpr ⟨y,(hu y).mp my,rfl⟩);have h':f y<=mxN (l.map f):=h;omega
 omega
theorem Hz{ps:List Part}(ho:Ord ps)(hz:aK ps<=300)(h8:ps.length<=8){n:Nat}(hn:n<=8){d:bc}(hd:IsPl ps [] n d)(q:R (.d (.int (dpF n d))) []):lA [.d d] [] R:=by
 unfold lA;walk_at "d"
 walk_at "n"
 walk_at "n";walk_at "n";refine⟨fun m δ S=>∃(st:List En) (best:Nat) (u:Option XV),(∀e∈st,EnOk ps e)/\(∀(p:Nat) e,st[p]?=some e->p<=(e.ms.map (wdN ps)).sum)/\max best (mxN (st.map enV))=dpF n d/\m=(st.map fun e=>301 ^ e.n).sum/\S=[st.map enD]/\δ=[some (.d d),some (.d (.int best)),some (.l 0),u],⟨_,[⟨n,[],d,0⟩],0,none,?_,?_,?_,rfl,rfl,rfl⟩,?_⟩
 ·intro e me;rw[mem_singleton.mp me];exact⟨hd,hn,by simpa using hn,yv,yv⟩
 ·intro p e hp;have:p<1:=(List.getElem?_eq_some_iff.mp hp).1;omega
 ·simp[enV,mxN]
 rintro m _ _ ⟨st,best,u,h1,h2,h3,rfl,rfl,rfl⟩;rcases List.eq_nil_or_concat st with rfl|⟨st,e,rfl⟩
 ·walk_at "d";have e0:best=dpF n d:=by rw[<- h3];simp[mxN]
  rw[e0];exact q
 ·rw[List.concat_eq_append]at h1 h2 h3 ⊢;rw[gw,jy];walk_at "d";rw[cy yv];have he:=h1 e yv;have pe:=h2 st.length e yv;have hw:=CY ho hz h8 he.nd he.lt;have ag:∀(ab:List En) (ac:Nat),(∀x∈ab,EnOk ps x/\(e.ms.map (wdN ps)).sum+ab.length<=(x.ms.map (wdN ps)).sum/\x.n+1=e.n)->ab.length<=300->max ac (mxN (ab.map enV))=max best (enV e)->best<=ac ->
    ∃m',m'<((st++[e]).map fun e=>301 ^ e.n).sum/\∃(aa:List En) (best2:Nat),(∀e∈aa,EnOk ps e)/\(∀(p:Nat) e,aa[p]?=some e->p<=(e.ms.map (wdN ps)).sum)/\max best2 (mxN (aa.map enV))=dpF n d/\m'=(aa.map fun e=>301 ^ e.n).sum/\(st++ab).map enD=aa.map enD/\ac=best2:=by
   intro ab ac af hl aj hb;refine⟨_,?_,st++ab,ac,fun x mx=>?_,fun p x hp=>?_,?_,rfl,rfl,rfl⟩
   ·rw[gw,gw,ud,ud,jy,rh];have a1:(ab.map fun x=>301 ^ x.n).sum<=ab.length*301 ^ (e.n-1):=A6 fun x mx=>by
     have:=(af x mx).2.2;rw[show x.n=e.n-1 by omega];exact dh _
    have a2:0<301 ^ (e.n-1):=Nat.pow_pos dz;have a3:ab.length*301 ^ (e.n-1)<=300*301 ^ (e.n-1):=Nat.mul_le_mul_right _ hl;by_cases z:ab=[]
    ·subst z;have:0<301 ^ e.n:=Nat.pow_pos dz;simp;omega
    ·obtain⟨x,mx⟩:=List.exists_mem_of_ne_nil _ z;have:=(af x mx).2.2;have a4:301 ^ e.n=301*301 ^ (e.n-1):=by rw[<- Nat.pow_succ'];congr 1;omega
     omega
   ·rcases mem_append.mp mx with mx|mx
    ·exact h1 x (by simp[mx])
    ·exact(af x mx).1
   ·by_cases z:p<st.length
    ·refine h2 p x ?_;rw[fi z]at hp ⊢;exact hp
    ·have lp:=(List.getElem?_eq_some_iff.mp hp).1;rw[ck]at lp;rw[kz yw]at hp;have:=(af x (ci hp)).2.1;omega
   ·rw[<- h3,gw,gw,Ch,Ch,jy,G1];omega
  refine⟨fun δ' S'=>∃m',m'<((st++[e]).map fun e=>301 ^ e.n).sum/\∃(aa:List En) (best2:Nat) (u2:Option XV),(∀e∈aa,EnOk ps e)/\(∀(p:Nat) e,aa[p]?=some e->p<=(e.ms.map (wdN ps)).sum)/\max best2 (mxN (aa.map enV))=dpF n d/\m'=(aa.map fun e=>301 ^ e.n).sum/\S'=[aa.map enD]/\δ'=[some (.d d),some (.d (.int best2)),some (.l 0),u2],?_,?_⟩
  ·intro δ' S' z;exact z
  have eg:(st.map enD++[enD e])[st.length+1-1]?=some (enD e):=by simp
  walk_at "n"
  refine⟨_,eg,?_⟩;obtain⟨en,ae,ed,ek⟩:=e;have ah:IsPl ps ae en ed:=he.pl;have ee:enD ⟨en,ae,ed,ek⟩=.tuple [ed,.int ek]:=rfl;rw[ee];refine seq1 ?_;cases ah with
  | @leaf _ _ w h=>
   walk_at "d";have hn:cv (.str w)=true/\(ph w).eqv (.str "measure")=false:=by rcases h with rfl|rfl<;>exact⟨by decide +kernel,by decide +kernel⟩
   refine⟨hn.1,by decide +kernel,?_⟩;rw[cr (by rw[hn.2];exact gj)];have e0:dpF en (.tuple [.str w])=0:=by cases en<;>rfl
   obtain⟨m',a,aa,b2,c1,c2,c3,c4,c5,c6⟩:=ag [] (max best ek) yv yv (by simp[enV,e0,mxN]) yw;refine⟨m',a,aa,b2,_,c1,c2,c3,c4,?_,?_,rfl⟩
   ·rw[List.dropLast_concat,<- c5,jg]
   ·rw[<- c6];split<;>omega
  | @node _ n' k l hk hm hl hc=>
   have w1:=AU ho hk;have w2:=ho.at hk;walk_at "d";refine⟨by decide +kernel,by decide +kernel,?_⟩;rw[cy (by decide +kernel)];have n8:=he.n8;refine MY (ps:=ps) (ms:=ae++[k]) (n:=n') yw (by simpa using Nat.le_of_succ_le n8) hc fun us hu ak=>?_;walk_at "d";rw[List.dropLast_concat];refine cmp1p (S0:=[st.map enD]) (fun x=>.tuple [x,.int (ek+1)]) rfl us yw ?_ ?_
   ·intro x mx u acc R' ai;walk_at "d";exact ai _
   ·walk_at "d";have kk:=he.k8;have lw:(((ae++[k]).map (wdN ps)).sum)=(ae.map (wdN ps)).sum+wdN ps k:=by rw[gw,ud,jy,rh]
    have lk:l.length<=wdN ps k:=by unfold wdN;omega
    have sl:st.length<=308:=gm pe hw;obtain⟨m',a,aa,b2,c1,c2,c3,c4,c5,c6⟩:=ag (us.map fun x=>⟨n',ae++[k],x,ek+1⟩) (max best ek) (fun x mx=>by
     obtain⟨y,my,rfl⟩:=mem_map.mp mx;refine⟨⟨hc y ((hu y).mp my),?_,?_,?_,fun j mj=>?_⟩,?_,rfl⟩
     ·show n'<=8;simp at n8;omega
     ·show ek+1+n'<=8;simp at kk;omega
     ·rw[nodup_append];exact⟨he.nd,yv,fun a ma b mb e=>by rw[mem_singleton.mp mb]at e;rw[e]at ma;exact hm ma⟩
     ·rcases mem_append.mp mj with mj|mj
      ·exact he.lt j mj
      ·rw[mem_singleton.mp mj];exact hk
     ·show (ae.map (wdN ps)).sum+(us.map _).length<=((ae++[k]).map (wdN ps)).sum;rw[lw,cg];omega) (by rw[cg];omega) (by
     have ln:l≠[]:=fun e=>by rw[e]at hl;simp at hl;omega
     have em:=Mp (f:=dpF n') (c:=ek+1) hu ln;rw[jj];have e1:enV ⟨n'+1,ae,.tuple [.str "measure",.int k,.tuple l],ek⟩=ek+(1+mxN (l.map (dpF n'))):=rfl;have e2:mxN (us.map (enV∘fun x=>(⟨n',ae++[k],x,ek+1⟩:En)))=ek+1+mxN (l.map (dpF n')):=em;rw[e1,e2];omega) yw
    refine⟨?_,m',a,aa,b2,_,c1,c2,c3,c4,?_,?_,rfl⟩
    ·omega
    ·rw[<- c5,gw,jj];rfl
    ·rw[<- c6];split<;>omega
end
section
variable {R:RX}{S:Sto}
theorem IsPl.weak{ps:List Part}:∀{n ms d},IsPl ps ms n d->∀{q n'},(∀k∈q,k∈ms)->n<=n'->IsPl ps q n' d:=by
 intro n ms d h;induction h with
 |leaf h=>intro q n' _ _;exact .leaf h
 | @node n ms k l hk hm hl h ih=>
  intro q n' h1 h2;obtain⟨n',rfl⟩:∃m,n'=m+1:=⟨n'-1,yw⟩;refine .node k l hk (fun z=>hm (h1 k z)) hl fun d md=>ih d md (fun j mj=>?_) yw;rcases mem_append.mp mj with mj|mj
  ·exact cu _ (h1 j mj)
  ·exact cw _ mj
abbrev PlT:=Nat×bc
def ptD(x:PlT):bc:=.tuple [.int x.1,x.2]
theorem mL(x:PlT):ptD x=.tuple [.int x.1,x.2]:=rfl
def lfW(g:Gap)(w:Int):Str:=if g.lo<=w/\w<=g.hi then "keeps" else "breaks"
theorem AV(g:Gap)(w:Int):lfW g w = "breaks"\/lfW g w = "keeps":=by
 unfold lfW;split
 ·exact .inr rfl
 ·exact .inl rfl
def lf(g:Gap)(w:Int):PlT:=(0,.tuple [.str (lfW g w)])
def fC:List PlT->PlT
 | []=>(0,.none)
 |x::r=>if (r.isEmpty||decide (x.1<=(fC r).1))=true then x else fC r
theorem v8(x:PlT)(r:List PlT):fC (x::r)=if (r.isEmpty||decide (x.1<=(fC r).1))=true then x else fC r:=rfl
theorem wZ:∀{l:List PlT},l≠[]->fC l∈l
 | [],h=>absurd rfl h
 |x::r,_=>by
  rw[v8];split
  ·exact cp
  ·rename_i h;refine bq _ (wZ fun z=>h ?_);rw[z];rfl
theorem C8:∀{l:List PlT}{y:PlT},y∈l->(fC l).1<=y.1
 | [],_,m=>nomatch m
 |x::r,y,m=>by
  rw[v8];have ih:=fun z=>C8 (l:=r) (y:=y) z;split
  ·rename_i h;rcases mem_cons.mp m with z|z
   ·rw[z];exact dh _
   ·rw[Bool.or_eq_true,decide_eq_true_eq]at h;rcases h with h|h
    ·rw[List.isEmpty_iff.mp h]at z;cases z
    ·exact gm h (ih z)
  ·rename_i h;rcases mem_cons.mp m with z|z
   ·rw[z];rw[Bool.or_eq_true,decide_eq_true_eq]at h;have:¬ x.1<=(fC r).1:=fun a=>h (.inr a);omega
   ·exact ih z
theorem FQ:∀{pre:List PlT}{d:PlT}{post:List PlT},(∀a∈pre,d.1<a.1)->(∀a∈post,d.1<=a.1)->fC (pre++d::post)=d
 | [],d,post,_,h=>by
  rw[nil_append,v8,cy];cases post with
  |nil=>rfl
  |cons a b=>
   have:=h _ (wZ (l:=a::b) yv);simp[this]
 |a::pre,d,post,h1,h2=>by
  have e:=FQ (pre:=pre) (d:=d) (post:=post) (fun x m=>h1 x (bq _ m)) h2;have:=h1 a cp;rw[cons_append,v8,e,cr];simp;omega
def bF(ts:List Term)(i:Nat):List Term:=ts.take i++ts.drop (i+1)
def join(p:Nat)(fs:List PlT):PlT:=if (fs.all fun y=>dm (ptD y) (ptD (fs.headD (0,.none))))=true then fs.headD (0,.none)else (mxN (fs.map (·.1))+1,.tuple [.str "measure",.int p,.tuple (fs.map (·.2))])
def meas(ps:List Part)(f:List Term->Int->PlT)(ts:List Term)(w:Int)(t:Term)(i:Nat):PlT:=join t.1 ((aP (part ps t.1)).map fun x=>f (bF ts i) (w+t.2*x))
def t0:Term:=(0,0)
def best(ps:List Part)(g:Gap)(f:List Term->Int->PlT)(ts:List Term)(w:Int):PlT:=if ts.isEmpty=true then lf g w else fC ((fh ts.length).map fun i=>meas ps f ts w (ts.getD i t0) i)
def plF(ps:List Part)(g:Gap):Nat->List Term->Int->PlT
 | 0=>fun _ w=>lf g w
 |n+1=>best ps g (plF ps g n)
def plT(ps:List Part)(g:Gap)(ts:List Term)(w:Int):PlT:=plF ps g ts.length ts w
theorem pI{ts:List Term}{i:Nat}(h:i<ts.length):(bF ts i).length=ts.length-1:=by
 unfold bF;rw[ck,ku,length_drop];omega
theorem AQ{ps:List Part}{g:Gap}{ts:List Term}{w:Int}(h:ts≠[]):plT ps g ts w=fC ((fh ts.length).map fun i=>meas ps (plT ps g) ts w (ts.getD i t0) i):=by
 unfold plT;obtain⟨n,hn⟩:∃n,ts.length=n+1:=⟨ts.length-1,by have:=List.length_pos_iff.mpr h;omega⟩;rw[hn];show best ps g (plF ps g n) ts w=_;unfold best;rw[cr (by rw[List.isEmpty_iff];exact h),hn];congr 1;refine uc fun i mi=>?_;have:=mem_range.mp mi;unfold meas;congr 1;refine uc fun x _=>?_;show plF ps g n _ _=plF ps g (bF ts i).length _ _;rw[pI yw,show ts.length-1=n by omega]
theorem sO{ts:List Term}{i:Nat}{t:Term}(e:ts[i]?=some t):ts=ts.take i++t::ts.drop (i+1):=by
 have h:=(List.getElem?_eq_some_iff.mp e).1;have e2:ts[i]=t:=by
  rw[bn h]at e;exact ic e
 conv=>lhs;rw[<- oy i ts,mf h,e2]
theorem Cj{ts:List Term}{i:Nat}{t:Term}(e:ts[i]?=some t)(q:List Int):worth ts q=t.2*q.getD t.1 0+worth (bF ts i) q:=by
 conv=>lhs;rw[sO e]
 unfold worth bF;rw[gw,gw,ud,ud,fm,sum_cons];omega
structure TsOk(n:Nat)(ts:List Term):Prop where
 ok:∀t∈ts,t.1<n
 srt:ts.Pairwise fun t u=>t.1<u.1
theorem TsOk.sub{n:Nat}{ts us:List Term}(h:TsOk n ts)(s:us.Sublist ts):TsOk n us:=⟨fun t m=>h.ok t (s.subset m),h.srt.sublist s⟩
theorem uK{ts:List Term}{i:Nat}{t:Term}(e:ts[i]?=some t):(bF ts i).Sublist ts:=by
 conv=>rhs;rw[sO e]
 exact List.Sublist.append (List.Sublist.refl _) (List.sublist_cons_self ..)
theorem TsOk.cut{n:Nat}{ts:List Term}{i:Nat}{t:Term}(h:TsOk n ts)(e:ts[i]?=some t):TsOk n (bF ts i):=h.sub (uK e)
theorem TsOk.ne{n:Nat}{ts:List Term}{i:Nat}{t u:Term}(h:TsOk n ts)(e:ts[i]?=some t)(m:u∈bF ts i):u.1≠t.1:=by
 have hs:=h.srt;rw[sO e,List.pairwise_append]at hs;obtain⟨_,h2,h3⟩:=hs;rcases mem_append.mp m with m|m
 ·have:=h3 u m t cp;omega
 ·have:=(pairwise_cons.mp h2).1 u m;omega
structure GoodP(ps:List Part)(g:Gap)(ts:List Term)(w:Int)(x:PlT):Prop where
 pl:∀ms,(∀t∈ts,t.1∉ms)->IsPl ps ms x.1 x.2
 dp:∀m,x.1<=m->dpF m x.2=x.1
 led:∀one,InBox ps one->∃js,Led (plo ps) one x.2 js (lfW g (w+worth ts one))
theorem Lb(ps:List Part)(g:Gap)(w:Int):GoodP ps g [] w (lf g w):=
 ⟨fun ms _=>.leaf (AV g w),fun m _=>by cases m<;>rfl,fun q _=>⟨[],by
  rw[show w+worth [] q=w by simp[worth]];exact .leaf (AV g w)⟩⟩
theorem N7{ps:List Part}{ms q:List Nat}{x y:PlT}(hx:IsPl ps ms x.1 x.2)(hy:IsPl ps q y.1 y.2)(e:dm (ptD x) (ptD y)=true):x=y:=by
 rw[mL,mL]at e;simp only[dm,jk,um,gc]at e;obtain⟨e1,e2⟩:=e;have:(x.1:Int)=(y.1:Int):=by simpa using e1
 exact Prod.ext yw (hx.eqv hy e2)
theorem GO{ps:List Part}{ms:List Nat}{x:PlT}(hx:IsPl ps ms x.1 x.2):Shp (2*x.1+2) (ptD x):=by
 refine gL fun d md=>?_;simp only[ja,gt,or_false]at md;rcases md with rfl|rfl
 ·exact gP
 ·exact hx.shp
theorem A0{p:Part}{x:Int}(h:p.2.1<=p.2.2):x∈aP p↔p.2.1<=x/\x<=p.2.2:=by
 unfold aP;rw[AS];omega
theorem yM{p:Part}(h:p.2.1<=p.2.2):∃r,aP p=p.2.1::r:=by
 unfold aP rng;obtain⟨n,hn⟩:∃n,(p.2.2-p.2.1+1).toNat=n+1:=⟨(p.2.2-p.2.1).toNat,yw⟩;rw[hn,List.range_succ_eq_map,fm];exact⟨_,by rw[show p.2.1+((0:Nat):Int)=p.2.1 by omega]⟩
theorem NM{p:Part}{i:Nat}(h:p.2.1+i<=p.2.2):(aP p)[i]?=some (p.2.1+i):=by
 unfold aP rng;rw[gh,getElem?_range yw];rfl
theorem C7{l:List Nat}{x:Nat}(m:x∈l):x<=mxN l:=(r8 l 0).2.1 x m
theorem Lu{l:List Nat}{k:Nat}(h:∀x∈l,x<=k):mxN l<=k:=by
 rcases(r8 l 0).2.2 with e|e
 ·unfold mxN;omega
 ·exact h _ e
theorem JB{ps:List Part}{g:Gap}{ts:List Term}{w:Int}{i:Nat}{t:Term}{f:Int->PlT}(e:ts[i]?=some t)(hT:TsOk ps.length ts)(ho:Ord ps)
  (hf:∀x,plo ps t.1<=x->x<=phi ps t.1->GoodP ps g (bF ts i) (w+t.2*x) (f x)):GoodP ps g ts w (join t.1 ((aP (part ps t.1)).map f)):=by
 have mt:=ci e;have ht:=hT.ok t mt;have ab:(part ps t.1).2.1<=(part ps t.1).2.2:=ho.at ht;obtain⟨r,er⟩:=yM ab;have hd:((aP (part ps t.1)).map f).headD (0,.none)=f (plo ps t.1):=by rw[er];rfl
 have ae:∀q,InBox ps q->plo ps t.1<=q.getD t.1 0/\q.getD t.1 0<=phi ps t.1:=fun q h=>h.ok t.1 ht;have ew:∀q,w+worth ts q=w+t.2*q.getD t.1 0+worth (bF ts i) q:=fun q=>by rw[Cj e];omega
 unfold join;rw[hd];split
 ·rename_i ag;have af:∀x,plo ps t.1<=x->x<=phi ps t.1->f x=f (plo ps t.1):=fun x h1 h2=>by
   have:=all_eq_true.mp ag (f x) (mem_map.mpr ⟨x,(A0 ab).mpr ⟨h1,h2⟩,rfl⟩);exact N7 ((hf x h1 h2).pl [] yv) ((hf _ (Int.le_refl _) ab).pl [] yv) this
  have h0:=hf _ (Int.le_refl _) ab;refine⟨fun ms hm=>h0.pl ms fun u mu=>hm u ((uK e).subset mu),h0.dp,fun q aa=>?_⟩;obtain⟨h1,h2⟩:=ae q aa;obtain⟨js,hj⟩:=(hf _ h1 h2).led q aa;rw[af _ h1 h2]at hj;exact⟨js,by rw[ew];exact hj⟩
 ·have mem:∀y∈(aP (part ps t.1)).map f,∃x,plo ps t.1<=x/\x<=phi ps t.1/\y=f x:=fun y my=>by
   obtain⟨x,mx,rfl⟩:=mem_map.mp my;obtain⟨h1,h2⟩:=(A0 ab).mp mx;exact⟨x,h1,h2,rfl⟩
  refine⟨fun ms hm=>?_,fun m hm=>?_,fun q aa=>?_⟩
  ·refine .node _ _ ht (hm t mt) (by rw[cg,cg,nR];unfold plo phi;omega) fun d md=>?_;obtain⟨y,my,rfl⟩:=mem_map.mp md;obtain⟨x,h1,h2,rfl⟩:=mem y my;refine((hf x h1 h2).pl (ms++[t.1]) fun u mu z=>?_).weak (fun _ z=>z) (C7 (mem_map.mpr ⟨_,my,rfl⟩));rcases mem_append.mp z with z|z
   ·exact hm u ((uK e).subset mu) z
   ·exact hT.ne e mu (mem_singleton.mp z)
  ·obtain⟨m,rfl⟩:∃k,m=k+1:=⟨m-1,by simp only at hm;omega⟩;simp only at hm;show 1+mxN ((((aP (part ps t.1)).map f).map (·.2)).map (dpF m))=_;have:(((aP (part ps t.1)).map f).map (·.2)).map (dpF m)=((aP (part ps t.1)).map f).map (·.1):=by
    rw[jj];refine uc fun y my=>?_;have hy:=C7 (mem_map.mpr ⟨y,my,rfl⟩:y.1∈((aP (part ps t.1)).map f).map (·.1));obtain⟨x,h1,h2,rfl⟩:=mem y my;exact(hf x h1 h2).dp m yw
   rw[this];simp only;omega
  ·obtain⟨h1,h2⟩:=ae q aa;obtain⟨js,hj⟩:=(hf _ h1 h2).led q aa;obtain⟨j,ac⟩:∃j:Nat,q.getD t.1 0=plo ps t.1+j:=⟨(q.getD t.1 0-plo ps t.1).toNat,yw⟩;refine⟨t.1::js,.node (i:=j) (by rw[aa.len];exact ht) ac ?_ (by rw[ew];exact hj)⟩;have e1:=NM (p:=part ps t.1) (i:=j) (by have ah:q.getD t.1 0<=(part ps t.1).2.2:=h2;have ai:q.getD t.1 0=(part ps t.1).2.1+j:=ac;omega);rw[gh,gh,e1,ac];rfl
theorem BI{ps:List Part}{g:Gap}(ho:Ord ps):∀(n:Nat) {ts:List Term}{w:Int},ts.length=n->TsOk ps.length ts->GoodP ps g ts w (plT ps g ts w)
 | 0,ts,w,h,_=>by
  obtain rfl:=df h;exact Lb ps g w
 |n+1,ts,w,h,hT=>by
  have ne:ts≠[]:=fun z=>by rw[z]at h;cases h
  rw[AQ ne];have hm:=wZ (l:=(fh ts.length).map fun i=>meas ps (plT ps g) ts w (ts.getD i t0) i) (fun z=>by rw[List.map_eq_nil_iff,List.range_eq_nil]at z;omega);obtain⟨i,mi,ei⟩:=mem_map.mp hm;have hi:=mem_range.mp mi;have et:ts[i]?=some (ts.getD i t0):=by rw[bn hi,fc,bn hi];rfl
  rw[<- ei];exact JB et hT ho fun x _ _=>BI ho n (by rw[pI hi];omega) (hT.cut et)
theorem wV{ps:List Part}{g:Gap}{ts:List Term}{w:Int}(ho:Ord ps)(hT:TsOk ps.length ts):GoodP ps g ts w (plT ps g ts w):=BI ho _ rfl hT
def gW(D:Nat->Bool)(ts:List Term):Nat:=ts.countP fun t=>D t.1
theorem IU{D:Nat->Bool}{ts:List Term}{i:Nat}{t:Term}(e:ts[i]?=some t):gW D ts=(if D t.1=true then 1 else 0)+gW D (bF ts i):=by
 unfold gW bF
 conv=>lhs;rw[sO e]
 rw[List.countP_append,List.countP_append,List.countP_cons];omega
def DecD(ps:List Part)(g:Gap)(D:Nat->Bool)(ts:List Term)(w:Int):Prop:=∀a b,InBox ps a->InBox ps b->(∀k,D k=true->a.getD k 0=b.getD k 0)->lfW g (w+worth ts a)=lfW g (w+worth ts b)
theorem vE{a:List Int}{k:Nat}{x:Int}(h:k<a.length):(a.set k x).getD k 0=x:=by rw[fc,qe h];rfl
theorem oP{a:List Int}{k j:Nat}{x:Int}(h:j≠k):(a.set k x).getD j 0=a.getD j 0:=by rw[fc,rk (fun z=>h z.symm),<- fc]
theorem InBox.set{ps:List Part}{a:List Int}{k:Nat}{x:Int}(h:InBox ps a)(hk:k<ps.length)(h1:plo ps k<=x)(h2:x<=phi ps k):InBox ps (a.set k x):=by
 refine⟨by rw[length_set];exact h.len,fun j hj=>?_⟩;by_cases z:j=k
 ·rw[z,vE (by rw[h.len];exact hk)];exact⟨h1,h2⟩
 ·rw[oP z];exact h.ok j hj
theorem Gc{ts:List Term}{a:List Int}{k:Nat}{x:Int}(h:∀u∈ts,u.1≠k):worth ts (a.set k x)=worth ts a:=by
 unfold worth;congr 1;refine uc fun u mu=>?_;rw[oP (h u mu)]
theorem yY{ps:List Part}{ts:List Term}{i:Nat}{t:Term}{a:List Int}{x:Int}(hT:TsOk ps.length ts)(e:ts[i]?=some t)(ha:InBox ps a):worth ts (a.set t.1 x)=t.2*x+worth (bF ts i) a:=by
 rw[Cj e,vE (by rw[ha.len];exact hT.ok t (ci e)),Gc fun u mu=>hT.ne e mu]
theorem DecD.cut{ps:List Part}{g:Gap}{D:Nat->Bool}{ts:List Term}{w:Int}{i:Nat}{t:Term}{x:Int}(h:DecD ps g D ts w)(hT:TsOk ps.length ts)(e:ts[i]?=some t)(h1:plo ps t.1<=x)(h2:x<=phi ps t.1):DecD ps g D (bF ts i) (w+t.2*x):=by
 intro a b ha hb q;have ht:=hT.ok t (ci e);have:=h (a.set t.1 x) (b.set t.1 x) (ha.set ht h1 h2) (hb.set ht h1 h2) fun k hk=>by
  by_cases z:k=t.1
  ·rw[z,vE (by rw[ha.len];exact ht),vE (by rw[hb.len];exact ht)]
  ·rw[oP z,oP z];exact q k hk
 rw[yY hT e ha,yY hT e hb,<- Int.add_assoc,<- Int.add_assoc]at this;exact this
theorem leaf0{ps:List Part}{g:Gap}{ts:List Term}{w:Int}{x:PlT}{a:List Int}(h:GoodP ps g ts w x)(h0:x.1=0)(ha:InBox ps a):x=(0,.tuple [.str (lfW g (w+worth ts a))]):=by
 obtain⟨n,d⟩:=x;simp only at h0;subst h0;have hp:=h.pl [] yv;obtain⟨js,hj⟩:=h.led a ha;simp only at hp hj;cases hp with
 |leaf hw=>
  cases hj with
  |leaf _=>rfl
theorem Jq{ps:List Part}(ho:Ord ps):∃a,InBox ps a:=by
 have hs:=fW ps;have ne:bJ ps≠[]:=fun e=>by
  have:=o8 ho;rw[e]at hs;simp at hs;omega
 obtain⟨b,mb⟩:=List.exists_mem_of_ne_nil _ ne;exact⟨b,eJ.mp mb⟩
theorem IN{p:Nat}{fs:List PlT}{k:Nat}(h0:fs≠[])(h:∀y∈fs,y.1<=k):(join p fs).1<=k+1:=by
 unfold join;split
 ·cases fs with
  |nil=>exact absurd rfl h0
  |cons a r=>exact Nat.le_succ_of_le (h a cp)
 ·show mxN _+1<=k+1;have:=Lu (l:=fs.map (·.1)) (k:=k) fun x mx=>by
   obtain⟨y,my,rfl⟩:=mem_map.mp mx;exact h y my
  omega
theorem HR{p:Nat}{fs:List PlT}{x:PlT}(h0:fs≠[])(hs:cv (ptD x)=true)(h:∀y∈fs,y=x):join p fs=x:=by
 have hd:fs.headD (0,.none)=x:=by
  cases fs with
  |nil=>exact absurd rfl h0
  |cons a r=>exact h a cp
 unfold join;rw[hd,cy];refine all_eq_true.mpr fun y my=>?_;rw[h y my];exact SeqAt.eqv_refl _ (fx hs)
theorem CI{ps:List Part}{g:Gap}{ts:List Term}{w:Int}{i:Nat}{t:Term}(e:ts[i]?=some t):(plT ps g ts w).1<=(meas ps (plT ps g) ts w t i).1:=by
 have hi:=(List.getElem?_eq_some_iff.mp e).1;rw[AQ fun z=>by rw[z]at hi;cases hi];refine C8 (mem_map.mpr ⟨i,mem_range.mpr hi,?_⟩);rw[fc,e];rfl
theorem Bk{ps:List Part}{f:Int->PlT}{k:Nat}(ho:Ord ps)(hk:k<ps.length):(aP (part ps k)).map f≠[]:=fun z=>by
 obtain⟨r,er⟩:=yM (p:=part ps k) (ho.at hk);rw[er]at z;cases z
theorem GD{ps:List Part}{g:Gap}{D:Nat->Bool}(ho:Ord ps):∀(n:Nat) {ts:List Term}{w:Int},ts.length=n->TsOk ps.length ts->DecD ps g D ts w->(plT ps g ts w).1<=gW D ts
 | 0,ts,w,h,_,_=>by
  obtain rfl:=df h;exact lh _
 |n+1,ts,w,h,hT,hD=>by
  have ih:∀{i:Nat}{t:Term}{x:Int},ts[i]?=some t->plo ps t.1<=x->x<=phi ps t.1->(plT ps g (bF ts i) (w+t.2*x)).1<=gW D (bF ts i):=fun {i t x} e h1 h2=>by
   have hi:=(List.getElem?_eq_some_iff.mp e).1;exact GD ho n (by rw[pI hi];omega) (hT.cut e) (hD.cut hT e h1 h2)
  have aa:∀{t:Term}{y:PlT}{i:Nat},t∈ts->y∈(aP (part ps t.1)).map (fun x=>plT ps g (bF ts i) (w+t.2*x))->∃x,plo ps t.1<=x/\x<=phi ps t.1/\y=plT ps g (bF ts i) (w+t.2*x):=fun {t y i} mt my=>by
   obtain⟨x,mx,rfl⟩:=mem_map.mp my;obtain⟨h1,h2⟩:=(A0 (p:=part ps t.1) (ho.at (hT.ok t mt))).mp mx;exact⟨x,h1,h2,rfl⟩
  by_cases hx:∃(i:Nat) (t:Term),ts[i]?=some t/\D t.1=true
  ·obtain⟨i,t,e,hd⟩:=hx;have mt:=ci e;refine gm (CI e) ?_;rw[IU e,cy hd,Nat.add_comm];refine IN (Bk ho (hT.ok t mt)) fun y my=>?_;obtain⟨x,h1,h2,rfl⟩:=aa mt my;exact ih e h1 h2
  ·have q:∀t∈ts,¬ D t.1=true:=fun t mt z=>by
    obtain⟨i,hi,rfl⟩:=mem_iff_getElem.mp mt;exact hx ⟨i,_,bn hi,z⟩
   have h0:0<ts.length:=yw
   have e:=bn h0;generalize ts[0]=t at e;have mt:=ci e;have ht:=hT.ok t mt;have c0:gW D (bF ts 0)=0:=List.countP_eq_zero.mpr fun u mu=>q u ((uK e).subset mu);refine gm (CI e) ?_;obtain⟨a,ha⟩:=Jq ho;have hl:∀x,plo ps t.1<=x->x<=phi ps t.1->plT ps g (bF ts 0) (w+t.2*x)=(0,.tuple [.str (lfW g (w+worth ts a))]):=fun x h1 h2=>by
    have z:=ih e h1 h2;rw[leaf0 (wV ho (hT.cut e)) yw ha];have:=hD (a.set t.1 x) a (ha.set ht h1 h2) ha fun k hk=>oP fun z=>by
     rw[z]at hk;exact q t mt hk
    rw[yY hT e ha,<- Int.add_assoc]at this;rw[this]
   unfold meas;rw[HR (Bk ho ht) (x:=(0,.tuple [.str (lfW g (w+worth ts a))])) ?_ fun y my=>?_]
   ·exact lh _
   ·exact(GO (ps:=ps) (ms:=[]) (x:=(0,.tuple [.str (lfW g (w+worth ts a))])) (.leaf (AV _ _))).ok (by show 2*0+2<=64;decide)
   ·obtain⟨x,h1,h2,rfl⟩:=aa mt my;exact hl x h1 h2
theorem Ez{ps:List Part}{g:Gap}{D:Nat->Bool}{ts:List Term}{w:Int}(ho:Ord ps)(hT:TsOk ps.length ts)(hD:DecD ps g D ts w):(plT ps g ts w).1<=gW D ts:=GD ho _ rfl hT hD
end
section
variable {R:RX}{S:Sto}
theorem wY{α:Type}[DecidableEq α]:∀{l l':List α},l.Nodup->(∀x∈l,x∈l')->l.length<=l'.length
 | [],_,_,_=>lh _
 |x::l,l',nd,h=>by
  rw[nodup_cons]at nd;have mx:=h x cp;have:=wY (l:=l) (l':=l'.erase x) nd.2 fun y my=>by
   have ne:y≠x:=fun e=>nd.1 (e▸my);exact(List.mem_erase_of_ne ne).mpr (h y (bq _ my))
  rw[List.length_erase_of_mem mx]at this;have:0<l'.length:=List.length_pos_of_mem mx;rw[cx];omega
abbrev GK:KSg:=.two (.many (.many .int)) .int
abbrev QK:=List Term×Int
def kyT(q:QK):KG GK:=(q.1.map fun t=>[(t.1:Int),t.2],q.2)
theorem Nv{p q:QK}(h:kyT p=kyT q):p=q:=by
 obtain⟨a,i⟩:=p;obtain⟨b,j⟩:=q;have h1:a.map (fun t:Term=>[(t.1:Int),t.2])=b.map fun t:Term=>[(t.1:Int),t.2]:=congrArg Prod.fst h;have h2:i=j:=congrArg Prod.snd h;rw[h2,(List.map_inj_right fun x y e=>by
  obtain⟨x1,x2⟩:=x;obtain⟨y1,y2⟩:=y;simp only[qc,and_true]at e;exact Prod.ext (by simp only;omega) e.2).mp h1]
theorem kdT(q:QK):kdat GK (kyT q)=.tuple [fF q.1,.int q.2]:=by
 show ng [.tuple (List.map (fun l:List Int=>ng (List.map bp l)) (q.1.map fun t:Term=>[(t.1:Int),t.2])),.int q.2]=_;rw[jj];rfl
def ksT(ps:List Part):List Term->Int->List QK
 | [],w=>[([],w)]
 |t::ts,w=>(ksT ps ts w).map (fun p=>(t::p.1,p.2))++(aP (part ps t.1)).flatMap fun x=>ksT ps ts (w+t.2*x)
theorem Db(ps:List Part):∀(ts:List Term) (w:Int),(ts,w)∈ksT ps ts w
 | [],w=>mem_singleton.mpr rfl
 |t::ts,w=>cu _ (mem_map.mpr ⟨_,Db ps ts w,rfl⟩)
theorem yA{ps:List Part}:∀{ts:List Term}{w:Int}{q:QK},q∈ksT ps ts w->q.1.Sublist ts
 | [],w,q,h=>by rw[mem_singleton.mp h];exact List.Sublist.refl _
 |t::ts,w,q,h=>by
  rcases mem_append.mp h with h|h
  ·obtain⟨p,mp,rfl⟩:=mem_map.mp h;exact(yA mp).cons_cons t
  ·obtain⟨x,_,mp⟩:=mem_flatMap.mp h;exact(yA mp).cons t
theorem xG{ps:List Part}:∀{ts:List Term}{w v s:Int}{q:List Term},(q,v)∈ksT ps ts w->(q,v+s)∈ksT ps ts (w+s)
 | [],w,v,s,q,h=>by
  cases mem_singleton.mp h;exact mem_singleton.mpr rfl
 |t::ts,w,v,s,q,h=>by
  rcases mem_append.mp h with h|h
  ·obtain⟨p,mp,e⟩:=mem_map.mp h;obtain⟨p1,p2⟩:=p;cases e;exact cu _ (mem_map.mpr ⟨_,xG mp,rfl⟩)
  ·obtain⟨x,mx,mp⟩:=mem_flatMap.mp h;refine cw _ (mem_flatMap.mpr ⟨x,mx,?_⟩);rw[show w+s+t.2*x=w+t.2*x+s by omega];exact xG mp
theorem yX{ps:List Part}:∀{ts:List Term}{w v x:Int}{q:List Term}{i:Nat}{t:Term},(q,v)∈ksT ps ts w->q[i]?=some t->x∈aP (part ps t.1)->(bF q i,v+t.2*x)∈ksT ps ts w
 | [],w,v,x,q,i,t,h,e,_=>by
  cases mem_singleton.mp h;cases e
 |t1::ts,w,v,x,q,i,t,h,e,hx=>by
  rcases mem_append.mp h with h|h
  ·obtain⟨p,mp,e2⟩:=mem_map.mp h;obtain⟨p1,p2⟩:=p;cases e2;cases i with
   |zero=>
    cases e;exact cw _ (mem_flatMap.mpr ⟨x,hx,xG mp⟩)
   |succ i=>
    exact cu _ (mem_map.mpr ⟨_,yX mp (by simpa using e) hx,rfl⟩)
  ·obtain⟨y,my,mp⟩:=mem_flatMap.mp h;exact cw _ (mem_flatMap.mpr ⟨y,my,yX mp e hx⟩)
def wd1(ps:List Part)(k:Nat):Nat:=(phi ps k-plo ps k+1).toNat+1
def szK(ps:List Part):Nat:=aQ (ps.map fun p=>(p.2.2-p.2.1+1).toNat+1)
theorem BK{α β:Type}{f:α->List β}{m:Nat}:∀{l:List α},(∀x∈l,(f x).length=m)->(l.flatMap f).length=l.length*m
 | [],_=>by simp
 |x::l,h=>by
  rw[List.flatMap_cons,ck,h x cp,BK fun y my=>h y (bq _ my),cx,succ_mul];omega
theorem w4{ps:List Part}:∀{ts:List Term}{w:Int},(ksT ps ts w).length=aQ (ts.map fun t=>wd1 ps t.1)
 | [],w=>rfl
 |t::ts,w=>by
  show ((ksT ps ts w).map _++_).length=wd1 ps t.1*aQ (ts.map fun t=>wd1 ps t.1);rw[ck,cg,w4,BK (m:=aQ (ts.map fun t=>wd1 ps t.1)) fun x _=>w4,nR];unfold wd1 plo phi;rw[succ_mul,Nat.add_comm]
theorem Dc{ps:List Part}:∀{ts:List Term}{j:Nat},(∀t∈ts,j<=t.1/\t.1<ps.length)->(ts.Pairwise fun t u=>t.1<u.1)->aQ (ts.map fun t=>wd1 ps t.1)<=aQ ((ps.drop j).map fun p=>(p.2.2-p.2.1+1).toNat+1)
 | [],j,_,_=>oF fun x m=>by
  obtain⟨p,_,rfl⟩:=mem_map.mp m;omega
 |t::ts,j,h,hs=>by
  obtain⟨h1,h2⟩:=h t cp;obtain⟨s1,s2⟩:=pairwise_cons.mp hs;have ih:=Dc (ps:=ps) (ts:=ts) (j:=t.1+1) (fun u mu=>⟨s1 u mu,(h u (bq _ mu)).2⟩) s2;have e:ps.drop t.1=part ps t.1::ps.drop (t.1+1):=by
   rw[mf h2];congr 1;have:=gB h2;rw[bn h2]at this;exact ic this
  have e2:ps.drop j=(ps.drop j).take (t.1-j)++ps.drop t.1:=by
   conv=>lhs;rw[<- oy (t.1-j) (ps.drop j),List.drop_drop]
   rw[show j+(t.1-j)=t.1 by omega]
  have pos:1<=aQ (((ps.drop j).take (t.1-j)).map fun p=>(p.2.2-p.2.1+1).toNat+1):=oF fun x m=>by
   obtain⟨p,_,rfl⟩:=mem_map.mp m;omega
  rw[e2,e,gw,sR];refine gm ?_ (Nat.le_mul_of_pos_left _ pos);show wd1 ps t.1*_<=_*aQ _;exact mul_le_mul (dh _) ih
theorem NE{ps:List Part}{ts:List Term}{w:Int}(h:TsOk ps.length ts):(ksT ps ts w).length<=szK ps:=by
 rw[w4];exact Dc (j:=0) (fun t m=>⟨lh _,h.ok t m⟩) h.srt
structure Kn(ps:List Part)(g:Gap)(T0:List Term)(m:List (KG GK×bc)):Prop where
 of:∀p∈m,∃q∈ksT ps T0 0,p=(kyT q,ptD (plT ps g q.1 q.2))
 nd:(m.map (·.1)).Nodup
theorem Kn.len{ps:List Part}{g:Gap}{T0:List Term}{m:List (KG GK×bc)}(h:Kn ps g T0 m)(hT:TsOk ps.length T0):m.length<=szK ps:=by
 have:=wY (l':=(ksT ps T0 0).map kyT) h.nd fun x mx=>by
  obtain⟨p,mp,rfl⟩:=mem_map.mp mx;obtain⟨q,mq,rfl⟩:=h.of p mp;exact mem_map.mpr ⟨q,mq,rfl⟩
 rw[cg,cg]at this;exact gm this (NE hT)
theorem Lk{m:List (KG GK×bc)}{k:KG GK}{d:bc}(h:lkA m k=some d):(k,d)∈m:=by
 unfold lkA at h;obtain⟨q,e,e2⟩:=map_eq_some_iff.mp h;have h3:=find?_some e;have h1:q.1=k:=mw h3;have h2:=qg e;obtain⟨q1,q2⟩:=q;simp only at h1 e2;rw[h1,e2]at h2;exact h2
theorem Kn.get{ps:List Part}{g:Gap}{T0:List Term}{m:List (KG GK×bc)}{q:QK}{d:bc}(h:Kn ps g T0 m)(e:lkA m (kyT q)=some d):d=ptD (plT ps g q.1 q.2):=by
 obtain⟨q',_,e2⟩:=h.of _ (Lk e);have h1:=Nv (congrArg Prod.fst e2);have h2:=congrArg Prod.snd e2;simp only at h2;rw[h2,h1]
theorem Fk{m:List (KG GK×bc)}{k:KG GK}:(lkA m k).isSome=true↔k∈m.map (·.1):=by
 unfold lkA;rw[isSome_map,List.find?_isSome];constructor
 ·rintro⟨x,mx,e⟩;exact mem_map.mpr ⟨x,mx,mw e⟩
 ·intro z;obtain⟨x,mx,e⟩:=mem_map.mp z;exact⟨x,mx,fz e⟩
theorem OS{m:List (KG GK×bc)}{k:KG GK}{d:bc}:lkA (stG m k d) k=some d:=by
 unfold stG;split
 ·rename_i h;have h:=Fk.mp h;have:∀{m:List (KG GK×bc)},k∈m.map (·.1)->lkA (m.map fun p=>if p.1=k then (p.1,d)else p) k=some d:=by
   intro m;induction m with
   |nil=>intro z;cases z
   |cons a m ih=>
    intro z;unfold lkA;rw[fm];by_cases e:a.1=k
    ·rw[cy e,List.find?_cons_of_pos (by simpa using e)];rfl
    ·rw[cr e,List.find?_cons_of_neg (by simpa using e)];rw[fm]at z;rcases mem_cons.mp z with z|z
     ·exact absurd z.symm e
     ·exact ih z
  exact this h
 ·rename_i h;unfold lkA at h ⊢;rw[List.find?_append];cases e:m.find? fun p=>decide (p.1=k)with
  |some x=>rw[e]at h;exact absurd rfl h
  |none=>simp
theorem Kn.put{ps:List Part}{g:Gap}{T0:List Term}{m:List (KG GK×bc)}{q:QK}(h:Kn ps g T0 m)(hq:q∈ksT ps T0 0):Kn ps g T0 (stG m (kyT q) (ptD (plT ps g q.1 q.2))):=by
 unfold stG;split
 ·refine⟨fun p mp=>?_,?_⟩
  ·obtain⟨x,mx,e⟩:=mem_map.mp mp;split at e
   ·rename_i e2;rw[<- e,e2];exact⟨q,hq,rfl⟩
   ·rw[<- e];exact h.of x mx
  ·rw[jj,uc (g:=fun p=>p.1) fun x _=>by
    simp only[Function.comp];split<;>rfl]
   exact h.nd
 ·rename_i hn;refine⟨fun p mp=>?_,?_⟩
  ·rcases mem_append.mp mp with mp|mp
   ·exact h.of p mp
   ·rw[mem_singleton.mp mp];exact⟨q,hq,rfl⟩
  ·rw[gw,nodup_append];refine⟨h.nd,yv,fun a ma b mb e=>?_⟩;rw[fm,vb,qi]at mb;rw[e,mb]at ma;exact hn (Fk.mpr ma)
section
variable {α:Type}{n:Nat}{S0:Sto}{g:DG}{te:DEm}{fin:Sto->DM->Prop}{caps:XE}
theorem cmpm{h:α->bc}(I:DM->Prop)(f:α->bc)(hn:S0.length=n)(l:List α){u:Option XV}{M:DM}(hl:l.length<=1000)(hI:I M)
  (el:∀x∈l,∀(u:Option XV) acc M (R:XE->XV->Sto->DM->Prop),I M->(∀u' M',I M'->R (u'::caps) (.d (f x)) (S0++[acc]) M')->g (.d (h x)) (u::caps) (S0++[acc]) fun τ1 S1=>te τ1 S1 M (R τ1))
  (hf:∀M',I M'->fin (S0++[l.map f]) M'):jP n g aG te fin (l.map h) (u::caps) (S0++[[]]) M:=by
 have go:∀(l:List α) (acc:List bc) (u:Option XV) (M:DM),I M->acc.length+l.length<=1000->(∀x∈l,∀(u:Option XV) acc M (R:XE->XV->Sto->DM->Prop),I M->(∀u' M',I M'->R (u'::caps) (.d (f x)) (S0++[acc]) M')->g (.d (h x)) (u::caps) (S0++[acc]) fun τ1 S1=>te τ1 S1 M (R τ1)) ->
   (∀M',I M'->fin (S0++[acc++l.map f]) M')->jP n g aG te fin (l.map h) (u::caps) (S0++[acc]) M:=by
  intro l;induction l with
  |nil=>
   intro acc u M hI _ _ hh;have:=hh M hI;rw[vb,jg]at this;exact this
  |cons x l ih=>
   intro acc u M hI hl el hh;show g _ _ _ _;rw[cx]at hl;simp only[aG,↓reduceIte];refine el x cp u acc M (fun τ1 x S3 M3=>asD x fun e=>∃acc,S3[n]?=some acc/\acc.length<1000/\jP n g aG te fin (l.map h) τ1 (S3.set n (acc++[e])) M3) hI fun u' M' q=>?_;refine⟨acc,by rw[<- hn,bw],yw,?_⟩;rw[vB hn];refine ih (acc++[f x]) u' M' q (by rw[ck,fq];omega) (fun e m=>el e (bq _ m)) fun M2 z=>?_;have:=hh M2 z;rw[fm,show acc++f x::l.map f=acc++[f x]++l.map f by simp]at this;exact this
 exact go l [] u M hI (by simpa using hl) el (by simpa using hf)
end
end
section
variable {R:RX}{S:Sto}
theorem LJ{d:bc}(q:R (.d (.bool (cF d))) []):iP [.d d] [] R:=by
 unfold iP;cases d<;>(walk_at "d";exact q)
def Thn(d:bc):Prop:=cv d=true\/d=.dict []
theorem x3{ds:List bc}(h:cv (.tuple ds)=true):∀x∈ds,cv x=true:=by
 intro x m;unfold cv at h ⊢;simp only[gc,decide_eq_true_eq]at h ⊢;have a1:∀{l:List bc},jv l=true->∀x∈l,x.canLay0=true:=by
  intro l;induction l with
  |nil=>intro _ x m;cases m
  |cons a l ih=>
   intro h x m;simp only[jv,gc]at h;rcases mem_cons.mp m with rfl|m
   ·exact h.1
   ·exact ih h.2 x m
 have a2:∀{l:List bc},∀x∈l,x.depth<=ke l:=by
  intro l;induction l with
  |nil=>intro x m;cases m
  |cons a l ih=>
   intro x m;simp only[ke];rcases mem_cons.mp m with rfl|m
   ·exact Nat.le_max_left ..
   ·exact gm (ih x m) (Nat.le_max_right ..)
 have e1:jv ds=true:=by simpa only[lg]using h.1
 have e2:=a2 x m;have e3:PyData.depth (.tuple ds)=ke ds+1:=by simp only[PyData.depth]
 exact⟨a1 e1 x m,yw⟩
theorem yW{d:bc}{z:Str}:dm d (.str z)=true->d=.str z:=by
 cases d with
 |str y=>intro h;rw[show dm (.str y) (.str z)=(y==z)from rfl]at h;rw[eq_of_beq h]
 |_=>intro h;exact absurd h (by simp[dm])
theorem Dv{d:bc}{z:Str}(h:dm d (.tuple [.str z])=true):d=.tuple [.str z]:=by
 cases d with
 |tuple ds=>
  rw[show dm (.tuple ds) (.tuple [.str z])=jk ds [.str z]from rfl]at h
  match ds,h with
  | [x],h=>
   simp only[jk,gc]at h;rw[yW h.1]
  | [],h=>simp[jk]at h
  |x::y::r,h=>simp[jk]at h
 |_=>exact absurd h (by simp[dm])
def Msr(ps:List Part)(d:bc)(k:Nat)(l:List bc):Prop:=d=.tuple [.str "measure",.int k,.tuple l]/\k<ps.length/\(l.length:Int)=phi ps k-plo ps k+1
theorem NI{ps:List Part}{d:bc}(hd:Thn d)(qt:∀k l,Msr ps d k l->R (.d (.bool true)) [])(qf:(∀k l,¬ Msr ps d k l)->R (.d (.bool false)) []):tU [.d (aF ps),.d d] [] R:=by
 unfold tU;walk_at "d";have no:(∀ds,d≠.tuple ds)->∀k l,¬ Msr ps d k l:=fun h k l m=>h _ m.1;cases d with
 |tuple ds=>
  have hs:=hd.resolve_right yv;walk_at "d";walk_at "n";by_cases h3:ds.length=3
  ·obtain⟨x,y,z,rfl⟩:∃x y z,ds=[x,y,z]:=by
    match ds,h3 with
    | [x,y,z],_=>exact⟨x,y,z,rfl⟩
   have sx:=x3 hs x yv;walk_at "d";refine⟨sx,by decide +kernel,?_⟩;by_cases hx:dm x (.str "measure")=true
   ·have ex:=yW hx;subst ex;rw[cr (by rw[hx];decide)];walk_at "n";refine LJ ?_;cases y with
    |int k=>
     rw[show cF (.int k)=true from rfl];walk_at "d";refine ite2 (fun h0=>?_) fun h0=>?_
     ·refine⟨ps.length,by unfold aF;walk_at "d",?_⟩;refine ite2 (fun h1=>?_) fun h1=>?_
      ·exact qf fun k' l m=>by
        cases m.1;have:=m.2.1;omega
      ·obtain⟨k,rfl⟩:=jh h0;have hk:k<ps.length:=yw
       cases z with
       |tuple l=>
        walk_at "d";have ep:=dF (f:=cE) (gB hk);rw[mG];walk_at "d";refine⟨_,ep,?_⟩;walk_at "d";refine xV ?_;walk_at "d";refine BG ?_;walk_at "d";by_cases hl:(l.length:Int)=phi ps k-plo ps k+1
        ·rw[fz (show (l.length:Int)=(part ps k).2.2-(part ps k).2.1+1 from hl)];exact qt k l ⟨rfl,hk,hl⟩
        ·rw[ff (show ¬(l.length:Int)=(part ps k).2.2-(part ps k).2.1+1 from hl)];exact qf fun k' l' m=>by
          cases m.1;exact hl m.2.2
       |_=>
        walk_at "d";exact qf fun k' l' m=>by cases m.1
     ·exact qf fun k' l m=>by
       cases m.1;omega
    |_=>
     walk_at "d";exact qf fun k' l' m=>by cases m.1
   ·rw[cy (by simpa using hx)];refine qf fun k l m=>hx ?_;cases m.1;decide +kernel
  ·rw[cy yw];refine qf fun k l m=>h3 ?_;cases m.1;rfl
 |_=>
  walk_at "n";exact qf (no yv)
structure Ep where
 ms:List Nat
 d:bc
def mtD(ms:List Nat):bc:=.tuple (ms.map fun k:Nat=>.int k)
def epD(e:Ep):bc:=.tuple [e.d,mtD e.ms]
structure EpOk(ps:List Part)(e:Ep):Prop where
 th:Thn e.d
 nd:e.ms.Nodup
 lt:∀j∈e.ms,j<ps.length
theorem Cf{ms:List Nat}{n:Nat}(hd:ms.Nodup)(h:∀j∈ms,j<n):ms.length<=n:=by
 have:=vL (f:=fun _=>1) hd h;rw[List.map_const',List.map_const',List.sum_replicate_nat,List.sum_replicate_nat,List.length_range]at this;omega
theorem N5{ms:List Nat}{n k:Nat}(hd:ms.Nodup)(h:∀j∈ms,j<n)(hk:k<n)(hm:k∉ms):(ms++[k]).Nodup/\∀j∈ms++[k],j<n:=by
 refine⟨?_,fun j mj=>?_⟩
 ·rw[nodup_append];exact⟨hd,yv,fun a ma b mb e=>by rw[mem_singleton.mp mb]at e;rw[e]at ma;exact hm ma⟩
 ·rcases mem_append.mp mj with mj|mj
  ·exact h j mj
  ·rw[mem_singleton.mp mj];exact hk
def Pl(ps:List Part)(ms:List Nat)(d:bc):Prop:=IsPl ps ms (9-ms.length) d
theorem Pl.node{ps:List Part}{ms:List Nat}{d:bc}{k:Nat}{l:List bc}(m:Msr ps d k l)(hm:k∉ms)(h8:ms.length<=7):Pl ps ms d↔∀x∈l,Pl ps (ms++[k]) x:=by
 obtain⟨rfl,hk,hl⟩:=m;have e:9-ms.length=(9-(ms++[k]).length)+1:=by rw[ck,fq];omega
 unfold Pl;rw[e];constructor
 ·intro h;cases h with
  |node k l hk hm hl h=>exact h
 ·intro h;exact .node k l hk hm hl h
theorem Pl.leaf{ps:List Part}{ms:List Nat}{d:bc}(h:∀k l,Msr ps d k l->k∈ms):Pl ps ms d↔d=.tuple [.str "breaks"]\/d=.tuple [.str "keeps"]:=by
 constructor
 ·intro p;unfold Pl at p;generalize 9-ms.length=n at p;cases p with
  |leaf hh=>rcases hh with rfl|rfl<;>simp
  |node k l hk hm hl _=>exact absurd (h k l ⟨rfl,hk,hl⟩) hm
 ·rintro(rfl|rfl)
  ·exact IsPl.leaf (.inl rfl)
  ·exact IsPl.leaf (.inr rfl)
theorem leaf58{ps:List Part}{ms:List Nat}{d:bc}{A B:Prop}(q:Thn d)(aa:∀k l,Msr ps d k l->k∈ms)(ha:Pl ps ms d->A)(hb:¬ Pl ps ms d->B):
  (cv d=true/\if d.eqv (.tuple [.str "keeps"])=false then (cv d=true/\if d.eqv (.tuple [.str "breaks"])=false then B else A)\/d=.dict []/\B else A)\/d=.dict []/\((cv d=true/\if d.eqv (.tuple [.str "breaks"])=false then B else A)\/d=.dict []/\B):=by
 have e:=Pl.leaf aa;rcases q with h|h
 ·refine .inl ⟨h,?_⟩;by_cases z:d.eqv (.tuple [.str "keeps"])=true
  ·rw[cr (by rw[z];decide)];exact ha (e.mpr (.inr (Dv z)))
  ·rw[cy (by simpa using z)];refine .inl ⟨h,?_⟩;by_cases y:d.eqv (.tuple [.str "breaks"])=true
   ·rw[cr (by rw[y];decide)];exact ha (e.mpr (.inl (Dv y)))
   ·rw[cy (by simpa using y)];refine hb fun p=>?_;rcases e.mp p with rfl|rfl
    ·exact y (by decide +kernel)
    ·exact z (by decide +kernel)
 ·refine .inr ⟨h,.inr ⟨h,hb fun p=>?_⟩⟩;subst h;rcases e.mp p with h|h<;>cases h
theorem Thn.kids{ps:List Part}{d:bc}{k:Nat}{l:List bc}(h:Thn d)(m:Msr ps d k l):∀x∈l,Thn x:=by
 obtain⟨rfl,_,_⟩:=m;have hs:=h.resolve_right yv;intro x mx;exact .inl (x3 (x3 hs (.tuple l) yv) x mx)
theorem Jy{ps:List Part}(ho:Ord ps)(hz:aK ps<=300)(h8:ps.length<=8){d:bc}(hd:Thn d)(qt:Pl ps [] d->R (.d (.bool true)) [])(qf:¬ Pl ps [] d->R (.d (.bool false)) []):uJ [.d (aF ps),.d d] [] R:=by
 unfold uJ;walk_at "d"
 walk_at "n"
 walk_at "n";refine⟨fun m δ S=>∃(st:List Ep) (u3 u4 u5:Option XV),(∀e∈st,EpOk ps e)/\(∀(p:Nat) e,st[p]?=some e->p<=(e.ms.map (wdN ps)).sum)/\((∀e∈st,Pl ps e.ms e.d)↔Pl ps [] d)/\m=(st.map fun e=>301 ^ (9-e.ms.length)).sum/\S=[st.map epD]/\δ=[some (.d (aF ps)),some (.d d),some (.l 0),u3,u4,u5],⟨_,[⟨[],d⟩],none,none,none,?_,?_,?_,rfl,rfl,rfl⟩,?_⟩
 ·intro e me;rw[mem_singleton.mp me];exact⟨hd,yv,yv⟩
 ·intro p e hp;have:p<1:=(List.getElem?_eq_some_iff.mp hp).1;omega
 ·simp
 rintro m _ _ ⟨st,u3,u4,u5,h1,h2,h3,rfl,rfl,rfl⟩;rcases List.eq_nil_or_concat st with rfl|⟨st,e,rfl⟩
 ·walk_at "d";exact qt (h3.mp yv)
 ·rw[List.concat_eq_append]at h1 h2 h3 ⊢;rw[gw,jy];walk_at "d";rw[cy yv];have he:=h1 e yv;have pe:=h2 st.length e yv;have hw:=CY ho hz h8 he.nd he.lt;have ak:∀(ab:List Ep),(∀x∈ab,EpOk ps x/\(e.ms.map (wdN ps)).sum+ab.length<=(x.ms.map (wdN ps)).sum/\x.ms.length=e.ms.length+1/\e.ms.length<=7)->ab.length<=300->((∀x∈ab,Pl ps x.ms x.d)↔Pl ps e.ms e.d) ->
    ∃m',m'<((st++[e]).map fun e=>301 ^ (9-e.ms.length)).sum/\∃(aa:List Ep),(∀e∈aa,EpOk ps e)/\(∀(p:Nat) e,aa[p]?=some e->p<=(e.ms.map (wdN ps)).sum)/\((∀e∈aa,Pl ps e.ms e.d)↔Pl ps [] d)/\m'=(aa.map fun e=>301 ^ (9-e.ms.length)).sum/\(st++ab).map epD=aa.map epD:=by
   intro ab ac hl al;refine⟨_,?_,st++ab,fun x mx=>?_,fun p x hp=>?_,?_,rfl,rfl⟩
   ·rw[gw,gw,ud,ud,jy,rh];have a1:(ab.map fun x=>301 ^ (9-x.ms.length)).sum<=ab.length*301 ^ (9-e.ms.length-1):=A6 fun x mx=>by
     have:=(ac x mx).2.2.1;rw[show 9-x.ms.length=9-e.ms.length-1 by omega];exact dh _
    have a2:0<301 ^ (9-e.ms.length-1):=Nat.pow_pos dz;have a3:ab.length*301 ^ (9-e.ms.length-1)<=300*301 ^ (9-e.ms.length-1):=Nat.mul_le_mul_right _ hl;by_cases z:ab=[]
    ·subst z;have:0<301 ^ (9-e.ms.length):=Nat.pow_pos dz;simp;omega
    ·obtain⟨x,mx⟩:=List.exists_mem_of_ne_nil _ z;have:=(ac x mx).2.2.2;have a4:301 ^ (9-e.ms.length)=301*301 ^ (9-e.ms.length-1):=by rw[<- Nat.pow_succ'];congr 1;omega
     omega
   ·rcases mem_append.mp mx with mx|mx
    ·exact h1 x (by simp[mx])
    ·exact(ac x mx).1
   ·by_cases z:p<st.length
    ·refine h2 p x ?_;rw[fi z]at hp ⊢;exact hp
    ·have lp:=(List.getElem?_eq_some_iff.mp hp).1;rw[ck]at lp;rw[kz yw]at hp;have:=(ac x (ci hp)).2.1;omega
   ·rw[<- h3];simp only[rc,qi];constructor
    ·rintro h x (mx|rfl)
     ·exact h x (.inl mx)
     ·exact al.mp fun y my=>h y (.inr my)
    ·rintro h x (mx|mx)
     ·exact h x (.inl mx)
     ·exact al.mpr (h e (.inr rfl)) x mx
  refine⟨fun δ' S'=>∃m',m'<((st++[e]).map fun e=>301 ^ (9-e.ms.length)).sum/\∃(aa:List Ep) (u3 u4 u5:Option XV),(∀e∈aa,EpOk ps e)/\(∀(p:Nat) e,aa[p]?=some e->p<=(e.ms.map (wdN ps)).sum)/\((∀e∈aa,Pl ps e.ms e.d)↔Pl ps [] d)/\m'=(aa.map fun e=>301 ^ (9-e.ms.length)).sum/\S'=[aa.map epD]/\δ'=[some (.d (aF ps)),some (.d d),some (.l 0),u3,u4,u5],?_,?_⟩
  ·intro δ' S' z;exact z
  have eg:(st.map epD++[epD e])[st.length+1-1]?=some (epD e):=by simp
  walk_at "n"
  refine⟨_,eg,?_⟩;obtain⟨q,ed⟩:=e;have ee:epD ⟨q,ed⟩=.tuple [ed,mtD q]:=rfl;rw[ee,List.dropLast_concat];walk_at "n";walk_at "n";have ag:Thn ed:=he.th;have ah:q.Nodup:=he.nd;have am:∀j∈q,j<ps.length:=he.lt;have l8:=Cf ah am;have ai:¬ Pl ps q ed->R (.d (.bool false)) []:=fun n=>qf fun p=>n (h3.mpr p ⟨q,ed⟩ yv);have af:Pl ps q ed->∃m',m'<((st++[(⟨q,ed⟩:Ep)]).map fun e:Ep=>301 ^ (9-e.ms.length)).sum/\∃(aa:List Ep),(∀e∈aa,EpOk ps e)/\(∀(p:Nat) e,aa[p]?=some e->p<=(e.ms.map (wdN ps)).sum)/\((∀e∈aa,Pl ps e.ms e.d)↔Pl ps [] d)/\m'=(aa.map fun e=>301 ^ (9-e.ms.length)).sum/\(st++[]).map epD=aa.map epD:=fun p=>ak [] yv yv (by simpa using p);rw[jg]at af;have fin:∀ae:(∀k l,Msr ps ed k l->k∈q),_:=fun ae=>leaf58 ag ae (fun p=>(by
   obtain⟨m',a,aa,b1,b2,b3,b4,b5⟩:=af p;exact(⟨m',a,aa,some (XV.d (ng [ed,mtD q])),some (XV.d ed),some (XV.d (mtD q)),b1,b2,b3,b4,by rw[b5],rfl,rfl,rfl⟩:∃m',m'<((st++[(⟨q,ed⟩:Ep)]).map fun e:Ep=>301 ^ (9-e.ms.length)).sum/\∃(aa:List Ep) (u3 u4 u5:Option XV),(∀e∈aa,EpOk ps e)/\(∀(p:Nat) e,aa[p]?=some e->p<=(e.ms.map (wdN ps)).sum)/\((∀e∈aa,Pl ps e.ms e.d)↔Pl ps [] d)/\m'=(aa.map fun e=>301 ^ (9-e.ms.length)).sum/\[st.map epD]=[aa.map epD]/\some (XV.d (ng [ed,mtD q]))=u3/\some (XV.d ed)=u4/\some (XV.d (mtD q))=u5))) ai
  refine NI ag (fun k l m=>?_) (fun ae=>?_)
  ·obtain⟨rfl,hk,hl⟩:=id m;have ao:cv (.list (q.map fun k:Nat=>bp k))=true:=(v7 (n:=0) (uO fun _ _=>gP)).ok;have aj:((q.map fun k:Nat=>bp k).any fun y=>dm y (.int k))=decide (k∈q):=by
    rw[List.any_map];by_cases hk:k∈q
    ·rw[fz hk,any_eq_true];exact⟨k,hk,by simp[e8]⟩
    ·rw[ff hk,any_eq_false];intro j mj e;have:(j:Int)=k:=by simpa[e8]using e
     exact hk ((Int.ofNat_inj.mp this)▸mj)
   unfold mtD;walk_at "d";refine⟨ao,?_⟩;rw[aj];by_cases hm:k∈q
   ·rw[fz hm];walk_at "d";exact fin fun k' l' m'=>by cases m'.1;exact hm
   ·rw[ff hm];walk_at "d";have w1:=AU ho hk;have lw:(((q++[k]).map (wdN ps)).sum)=(q.map (wdN ps)).sum+wdN ps k:=by rw[gw,ud,jy,rh]
    have lk:l.length<=wdN ps k:=by unfold wdN;omega
    have sl:st.length<=308:=gm pe hw;obtain⟨n1,n2⟩:=N5 ah am hk hm;have l9:=Cf n1 n2;rw[ck,fq]at l9;refine cmp1p (S0:=[st.map epD]) (fun x=>.tuple [x,mtD (q++[k])]) rfl l yw ?_ ?_
    ·intro x mx u acc R' an;walk_at "d";have em:ng (q.map (fun k:Nat=>bp k)++[.int k])=mtD (q++[k]):=by unfold mtD;rw[gw];rfl
     rw[em];exact⟨yw,an _⟩
    ·walk_at "d";obtain⟨m',a,aa,b1,b2,b3,b4,b5⟩:=ak (l.map fun x=>⟨q++[k],x⟩) (fun x mx=>by
      obtain⟨y,my,rfl⟩:=mem_map.mp mx;refine⟨⟨ag.kids m y my,n1,n2⟩,?_,?_,?_⟩
      ·show (q.map (wdN ps)).sum+(l.map _).length<=((q++[k]).map (wdN ps)).sum;rw[lw,cg];omega
      ·show (q++[k]).length=q.length+1;rw[ck,fq]
      ·show q.length<=7;omega) (by rw[cg];omega) (by
      rw[Pl.node m hm yw];simp)
     refine⟨yw,m',a,aa,_,_,_,b1,b2,b3,b4,?_,rfl,rfl,rfl⟩;rw[<- b5,gw,jj];rfl
  ·have f2:=fin fun k l m=>absurd m (ae k l);simp only[qc,and_true]at f2;walk_at "d";exact f2
theorem Led.uniq{lo:Nat->Int}{z:List Int}{d:bc}{js q:List Nat}{w w':Str}(h:Led lo z d js w)(h':Led lo z d q w'):js=q/\w=w':=by
 induction h generalizing q w' with
 |leaf h=>
  cases h' with
  |leaf _=>exact⟨rfl,rfl⟩
 | @node k i l d js w hk hi hd h ih=>
  cases h' with
  | @node _ i' _ d' js2 _ hk' hi' hd' h2=>
   have e:i=i':=yw
   subst e;rw[hd]at hd';cases hd';obtain⟨rfl,rfl⟩:=ih h2;exact⟨rfl,rfl⟩
def Mt(ps:List Part)(g:Gap)(d:bc)(a:List Int):Prop:=(∃js,Led (plo ps) a d js "keeps")↔bA g a=true
def PlOk(ps:List Part)(g:Gap)(d:bc):Prop:=Pl ps [] d/\∀a∈bJ ps,Mt ps g d a
open Classical in
theorem JV{ps:List Part}{g:Gap}{d:bc}{a:List Int}{js:List Nat}{w:Str}(hL:Led (plo ps) a d js w):dm (.bool (dm (.str w) (.str "keeps"))) (.bool (bA g a))=decide (Mt ps g d a):=by
 have e:dm (.str w) (.str "keeps")=decide (∃js,Led (plo ps) a d js "keeps"):=by
  by_cases h:dm (.str w) (.str "keeps")=true
  ·rw[h];cases yW h;exact(fz ⟨js,hL⟩).symm
  ·rw[Bool.eq_false_iff.mpr h];refine(ff ?_).symm;rintro⟨js',h'⟩;obtain⟨_,rfl⟩:=hL.uniq h';exact h (by decide +kernel)
 rw[e,jS];unfold Mt;by_cases h1:∃js,Led (plo ps) a d js "keeps"
 ·rw[fz h1];cases h2:bA g a<;>simp[h1]
 ·rw[ff h1];cases h2:bA g a<;>simp[h1]
theorem Ek{w:Str}(h:w = "breaks"\/w = "keeps"):cv (.str w)=true:=by rcases h with rfl|rfl<;>decide +kernel
theorem Led.word58{lo:Nat->Int}{q:List Int}{d:bc}{js:List Nat}{w:Str}(h:Led lo q d js w):w = "breaks"\/w = "keeps":=by
 induction h with
 |leaf h=>exact h
 |node _ _ _ _ ih=>exact ih
open Classical in
theorem LN{ps:List Part}{g:Gap}(ho:Ord ps)(hz:aK ps<=300)(h8:ps.length<=8)(hg:Tm3 ps.length g.ts){d:bc}(hd:Thn d)(q:R (.d (.bool (decide (PlOk ps g d)))) []):vW [.d (aF ps),.d (bG g),.d d] [] R:=by
 unfold vW;walk_at "d"
 walk_at "n"
 refine vZ ho yw hz ?_;walk_at "d";walk_at "n";have bl:=fW ps;refine Jy ho hz h8 hd (fun p=>?_) fun p=>?_
 ·walk_at "d";refine cmp1 (S0:=[]) (h:=aD) (fun a=>.bool (decide (Mt ps g d a))) rfl (bJ ps) yw ?_ ?_
  ·intro a ma u acc R' hk;have ib:=eJ.mp ma;obtain⟨js,w,hL,aa,hj⟩:=IsPl.led ib p;walk_at "d";refine A5 hL hj (by simp at aa;omega) ?_;walk_at "d";refine⟨Ek hL.word58,by decide +kernel,?_⟩;refine iI (by rw[ib.len];exact hg) ?_;walk_at "d";have:=hk (some (.d (aD a)));rw[<- JV hL,jS]at this;exact this
  ·walk_at "d";refine⟨(bJ ps).map fun a=>decide (Mt ps g d a),by rw[jj];rfl,?_⟩;rw[show ((bJ ps).map fun a=>decide (Mt ps g d a)).all id=decide (PlOk ps g d) by
    rw[all_map];by_cases h:PlOk ps g d
    ·rw[fz h,ox];exact fun a ma=>fz (h.2 a ma)
    ·rw[ff h,Bool.eq_false_iff];intro z;rw[ox]at z;exact h ⟨p,fun a ma=>mw (z a ma)⟩]
   exact q
 ·walk_at "d";rw[ff fun h=>p h.1]at q;exact q
open Classical in
open Classical in
end
section
variable {R:RX}
abbrev KB:KSg:=.two (.many .int) .bool
abbrev Fs:=List ((List Int×Bool)×List Int)
abbrev Lks:=List (List Int×Bool)
def fG(p:List Int×Bool):bc:=.tuple [aD p.1,.bool p.2]
theorem IK(p:List Int×Bool):fG p=.tuple [aD p.1,.bool p.2]:=rfl
def zX(ps:List Part)(g:Gap):Lks:=(bJ ps).map fun s=>(s,bA g s)
def k9(c:List Nat)(m:Fs)(p:List Int×Bool):Fs:=if (lkA m (atC p.1 c,p.2)).isSome=true then m else m++[((atC p.1 c,p.2),p.1)]
def frs(c:List Nat)(q:Lks):Fs:=q.foldl (k9 c) []
theorem y0(c:List Nat)(l:Lks)(p:List Int×Bool):frs c (l++[p])=k9 c (frs c l) p:=by
 unfold frs;rw[List.foldl_append];rfl
def mD(m:Fs):List (KG KB×bc):=m.map fun q=>(q.1,aD q.2)
theorem FY(r:List Int)(b:Bool):kdat KB (r,b)=.tuple [aD r,.bool b]:=by
 show ng [.tuple (List.map (kdat .int) r),.bool b]=_;rfl
theorem Fu{κ α:Type}[DecidableEq κ]{p:κ×α}{r:List (κ×α)}{k:κ}(h:p.1=k):lkA (p::r) k=some p.2:=by simp[lkA,h]
theorem B7{κ α:Type}[DecidableEq κ]{p:κ×α}{r:List (κ×α)}{k:κ}(h:p.1≠k):lkA (p::r) k=lkA r k:=by simp[lkA,h]
theorem AE(k:List Int×Bool):∀m:Fs,lkA (κ:=KG KB) (mD m) k=(lkA m k).map aD
 | []=>rfl
 |q::r=>by
  by_cases e:q.1=k
  ·exact(Fu (κ:=KG KB) (p:=(q.1,aD q.2)) (r:=mD r) e).trans (by rw[Fu e];rfl)
  ·exact(B7 (κ:=KG KB) (p:=(q.1,aD q.2)) (r:=mD r) e).trans (by rw[B7 e];exact AE k r)
def onF(m:Fs)(q:(List Int×Bool)×List Int):Option (List Int×List Int):=if q.1.2=true then (lkA m (q.1.1,false)).map fun y=>(q.2,y)else none
def twF(c:List Nat)(q:Lks):Option (List Int×List Int):=(frs c q).findSome? (onF (frs c q))
def twD:Option (List Int×List Int)->bc
 |none=>.none
 |some p=>.tuple [aD p.1,aD p.2]
theorem E8{m:Fs}{k:List Int×Bool}{x:List Int}(h:lkA m k=some x):(k,x)∈m:=by
 unfold lkA at h;obtain⟨q,e,e2⟩:=map_eq_some_iff.mp h;have h1:=find?_some e;have h2:=qg e;have h3:=mw h1;obtain⟨q1,q2⟩:=q;cases h3;cases e2;exact h2
theorem KN{m r:Fs}{k:List Int×Bool}(h:(lkA m k).isSome=true):lkA (m++r) k=lkA m k:=by
 unfold lkA at h ⊢;rw[List.find?_append];cases e:m.find? fun p=>decide (p.1=k)with
 |none=>rw[e]at h;cases h
 |some q=>rfl
structure Fi(c:List Nat)(l:Lks)(m:Fs):Prop where
 of:∀q∈m,∃p∈l,q=((atC p.1 c,p.2),p.1)
 has:∀p∈l,(lkA m (atC p.1 c,p.2)).isSome=true
theorem Fi.step{c:List Nat}{l:Lks}{m:Fs}{p:List Int×Bool}(h:Fi c l m):Fi c (l++[p]) (k9 c m p):=by
 unfold k9;split
 ·rename_i e;refine⟨fun q mq=>?_,fun x mx=>?_⟩
  ·obtain⟨y,my,rfl⟩:=h.of q mq;exact⟨y,cu _ my,rfl⟩
  ·rcases mem_append.mp mx with mx|mx
   ·exact h.has x mx
   ·rw[mem_singleton.mp mx];exact e
 ·rename_i e;refine⟨fun q mq=>?_,fun x mx=>?_⟩
  ·rcases mem_append.mp mq with mq|mq
   ·obtain⟨y,my,rfl⟩:=h.of q mq;exact⟨y,cu _ my,rfl⟩
   ·exact⟨p,yv,mem_singleton.mp mq⟩
  ·rcases mem_append.mp mx with mx|mx
   ·rw[KN (h.has x mx)];exact h.has x mx
   ·rw[mem_singleton.mp mx];unfold lkA;rw[List.find?_append];cases m.find? fun q=>decide (q.1=(atC p.1 c,p.2))with
    |none=>simp
    |some q=>rfl
theorem EE(c:List Nat)(l:Lks):∀n,n<=l.length->Fi c (l.take n) (frs c (l.take n))
 | 0,_=>by
  rw[take_zero];exact⟨fun q m=>(by cases m),fun p m=>(by cases m)⟩
 |n+1,h=>by
  rw[zK (bn (show n<l.length by omega)),y0];exact(EE c l n yw).step
theorem vX(c:List Nat)(l:Lks):Fi c l (frs c l):=by
 have:=EE c l l.length (dh _)
 rwa [mr]at this
theorem tw_some{c:List Nat}{l:Lks}{x y:List Int}(h:twF c l=some (x,y)):(x,true)∈l/\(y,false)∈l/\atC x c=atC y c:=by
 unfold twF at h;obtain⟨q,mq,hq⟩:=List.exists_of_findSome?_eq_some h;unfold onF at hq;split at hq
 ·rename_i e;obtain⟨z,ez,e2⟩:=map_eq_some_iff.mp hq;obtain⟨p,mp,rfl⟩:=(vX c l).of q mq;obtain⟨p',aa,e3⟩:=(vX c l).of _ (E8 ez);cases e2;rw[Prod.mk.injEq,Prod.mk.injEq]at e3;obtain⟨⟨e4,e5⟩,e6⟩:=e3;obtain⟨p1,p2⟩:=p;obtain⟨ac,ab⟩:=p';simp only at e e4 e5 e6 ⊢;subst e e6;rw[<- e5]at aa;exact⟨mp,aa,e4⟩
 ·cases hq
theorem tw_none{c:List Nat}{l:Lks}{x y:List Int}(h:twF c l=none)(mx:(x,true)∈l)(my:(y,false)∈l):atC x c≠atC y c:=by
 intro e;unfold twF at h;have h1:=(vX c l).has _ mx;have h2:=(vX c l).has _ my;obtain⟨x0,ex⟩:=isSome_iff_exists.mp h1;have:=List.findSome?_eq_none_iff.mp h _ (E8 ex);unfold onF at this;rw[cy rfl]at this;simp only at this;rw[show atC x c=atC y c from e]at this;rw[Option.map_eq_none_iff]at this;simp only at h2;rw[this]at h2;cases h2
theorem dP{ps:List Part}{g:Gap}{x:List Int}{b:Bool}:(x,b)∈zX ps g↔InBox ps x/\bA g x=b:=by
 unfold zX;rw[mem_map];constructor
 ·rintro⟨s,ms,e⟩;cases e;exact⟨eJ.mp ms,rfl⟩
 ·rintro⟨h,rfl⟩;exact⟨x,eJ.mpr h,rfl⟩
theorem Ej{x:List Int}{n:Nat}(h:x.length=n):atC x (fh n)=x:=by
 unfold atC;refine ext_getElem (by simp[h]) fun i h1 h2=>?_;simp only[List.getElem_map,List.getElem_range];simp[fc,h2]
theorem tw_all{ps:List Part}{g:Gap}:twF (fh ps.length) (zX ps g)=none:=by
 cases h:twF (fh ps.length) (zX ps g)with
 |none=>rfl
 |some p=>
  obtain⟨x,y⟩:=p;obtain⟨h1,h2,h3⟩:=tw_some h;obtain⟨a1,a2⟩:=dP.mp h1;obtain⟨b1,b2⟩:=dP.mp h2;rw[Ej a1.len,Ej b1.len]at h3;rw[h3,b2]at a2;cases a2
theorem FN:∀n<9,fh n∈CH n n:=by decide +kernel
structure Few(ps:List Part)(g:Gap)(m:Nat):Prop where
 le:m<=ps.length
 no:∃c∈CH ps.length m,twF c (zX ps g)=none
 all:∀k,k<m->∀c∈CH ps.length k,∃p,twF c (zX ps g)=some p
theorem Few.uniq{ps:List Part}{g:Gap}{m m':Nat}(h:Few ps g m)(h':Few ps g m'):m=m':=by
 rcases Nat.lt_trichotomy m m' with z|z|z
 ·obtain⟨c,mc,e⟩:=h.no;obtain⟨p,e2⟩:=h'.all m z c mc;rw[e]at e2;cases e2
 ·exact z
 ·obtain⟨c,mc,e⟩:=h'.no;obtain⟨p,e2⟩:=h.all m' z c mc;rw[e]at e2;cases e2
def jM(ps:List Part)(g:Gap)(c:List Nat):List Nat×List Int×List Int:=(c,(twF c (zX ps g)).getD ([],[]))
def e9(ps:List Part)(g:Gap)(m:Nat):List bc:=(aZ ps.length m).map fun c=>rwD (jM ps g c)
theorem uQ{ps:List Part}{s:List Int}(h:InBox ps s):fN ps (aD s)=true:=by
 show fN ps (.tuple (s.map bp))=true;rw[uX,gc,decide_eq_true_eq,cg];refine⟨h.len,all_eq_true.mpr fun b mb=>?_⟩;obtain⟨q,mq,rfl⟩:=mem_map.mp mb;obtain⟨i,hi,rfl⟩:=mem_iff_getElem.mp mq;have hs:i<s.length:=by simp at hi;omega
 have hp:i<ps.length:=by simp at hi;omega
 have ok:=h.ok i hp;simp only[getElem_zip,List.getElem_map,id];show decide (ps[i].2.1<=s[i]/\s[i]<=ps[i].2.2)=true;rw[decide_eq_true_eq];have e1:s.getD i 0=s[i]:=by simp[fc,hs]
 rw[e1]at ok;have e2:part ps i=ps[i]:=by
  have:=gB hp;rw[bn hp]at this;exact(ic this).symm
 unfold plo phi at ok;rw[e2]at ok;exact ok
theorem Bl(s:List Int):vI (aD s)=s:=by
 show (s.map bp).map unI=s;rw[jj];exact map_id' s
theorem Lx(c:List Nat):iR c (aE c)=true:=by
 show ((c.map fun k:Nat=>bp k).all cF&&dm (aE c) (aE c))=true;rw[SeqAt.eqv_refl _ (fx (xZ (n:=0) c).ok),um,all_map];exact all_eq_true.mpr fun k _=>rfl
theorem JF{ps:List Part}{g:Gap}{c:List Nat}{p:List Int×List Int}(h:twF c (zX ps g)=some p):iK ps g c (rwD (jM ps g c))=true:=by
 obtain⟨x,y⟩:=p;obtain⟨h1,h2,h3⟩:=tw_some h;obtain⟨a1,a2⟩:=dP.mp h1;obtain⟨b1,b2⟩:=dP.mp h2;unfold jM;rw[h,Option.getD_some,GC,row3,Lx,uQ a1,uQ b1,Bl,Bl,a2,b2,fz h3];rfl
theorem Lg{ps:List Part}{g:Gap}{m:Nat}(h:Few ps g m):mS ps g (aZ ps.length m) (.list (e9 ps g m))=true:=by
 rw[xM,gc,decide_eq_true_eq];unfold e9;refine⟨cg ..,all_eq_true.mpr fun q mq=>?_⟩;obtain⟨i,hi,rfl⟩:=mem_iff_getElem.mp mq;have hd:i<(aZ ps.length m).length:=by simp at hi;omega
 simp only[getElem_zip,List.getElem_map];have mc:(aZ ps.length m)[i]∈aZ ps.length m:=nr hd;generalize (aZ ps.length m)[i]=c at mc ⊢;unfold aZ at mc;split at mc
 ·cases mc
 ·rename_i hm;obtain⟨p,e⟩:=h.all (m-1) yw c mc;exact JF e
theorem CJ{g:DG}{b:DSm}{E:DEndsM}:∀{ds:List bc}{δ:XE}{S:Sto}{M:DM} (I:Nat->XE->Sto->DM->Prop),I 0 δ S M ->
  (∀i d δ S M (N:XE->Sto->DM->Prop),ds[i]?=some d->I i δ S M->(∀ δ' S' M',I (i+1) δ' S' M'->N δ' S' M')->g (.d d) δ S fun δ1 S1=>b { nx:=N,ct:=N,bk:=E.nx,rt:=E.rt } δ1 S1 M) ->
  (∀ δ S M,I ds.length δ S M->E.nx δ S M)->gX g b ds E δ S M
 | [],δ,S,M,I,h0,_,fin=>fin δ S M h0
 |d::ds,δ,S,M,I,h0,step,fin=>by
  show g (.d d) δ S fun δ1 S1=>b _ δ1 S1 M;refine step 0 d δ S M _ rfl h0 fun δ' S' M' h1=>?_;exact CJ (ds:=ds) (fun i=>I (i+1)) h1 (fun i e δ S M N hi=>step (i+1) e δ S M N (by simpa using hi)) fin
theorem Et{a:Addr}{D0:L2.DD}{g:DG}{b:DSm}{E:DEndsM}:∀{ds:List bc}{δ:XE}{S:Sto}{M:DM} (I:Nat->XE->Sto->DM->Prop),I 0 δ S M->(∀i δ S M,I i δ S M->(a,D0)∈M) ->
  (∀i d δ S M (N:XE->Sto->DM->Prop),ds[i]?=some d->I i δ S M->(∀ δ' S' M',I (i+1) δ' S' M'->N δ' S' M')->g (.d d) δ S fun δ1 S1=>b { nx:=N,ct:=N,bk:=E.nx,rt:=E.rt } δ1 S1 M) ->
  (∀ δ S M,I ds.length δ S M->E.nx δ S M)->dmLoopG a D0 g b ds E δ S M
 | [],δ,S,M,I,h0,hm,_,fin=>⟨hm _ _ _ _ h0,fin δ S M h0⟩
 |d::ds,δ,S,M,I,h0,hm,step,fin=>by
  refine⟨hm _ _ _ _ h0,?_⟩;show g (.d d) δ S fun δ1 S1=>b _ δ1 S1 M;refine step 0 d δ S M _ rfl h0 fun δ' S' M' h1=>?_;exact Et (ds:=ds) (fun i=>I (i+1)) h1 (fun i=>hm (i+1)) (fun i e δ S M N hi=>step (i+1) e δ S M N (by simpa using hi)) fin
theorem HX(c:List Nat)(l:Lks):(frs c l).length<=l.length:=by
 have:∀n,n<=l.length->(frs c (l.take n)).length<=n:=by
  intro n;induction n with
  |zero=>intro _;rw[take_zero];exact dh _
  |succ n ih=>
   intro h;rw[zK (bn (show n<l.length by omega)),y0];have:=ih yw;unfold k9;split
   ·omega
   ·rw[ck,fq];omega
 have:=this l.length (dh _)
 rwa [mr]at this
def itF(q:(List Int×Bool)×List Int):bc:=.tuple [.tuple [aD q.1.1,.bool q.1.2],aD q.2]
theorem Iy(q:(List Int×Bool)×List Int):itF q=.tuple [.tuple [aD q.1.1,.bool q.1.2],aD q.2]:=rfl
theorem IW(F:Fs):lI KB (mD F)=F.map itF:=by
 unfold lI mD;rw[jj];rfl
theorem MS{α β:Type}(f:α->Option β){l:List α}{i:Nat}{p:α}(ep:l[i]?=some p)(hn:(l.take i).findSome? f=none):l.findSome? f=(f p).or ((l.drop (i+1)).findSome? f):=by
 conv=>lhs;rw[<- oy (i+1) l]
 rw[List.findSome?_append,zK ep,List.findSome?_append,hn];simp
theorem vO{aa:Lks}{c:List Nat}(hl:aa.length<=300)(hc:∀p∈aa,∀k∈c,k<p.1.length)(ac:c.length<=100)(q:R (.d (twD (twF c aa))) []):mC [.d (.list (aa.map fG)),.d (aE c)] [] R:=by
 unfold mC;walk_at "n";intro a _;walk_at "d";refine seqm ?_;walk_at "d";refine CJ (fun i δ S M=>∃(u3 u4:Option XV) (ob:Obj),S=[]/\M=[(a,L2.DD.g KB ob (mD (frs c (aa.take i))))]/\δ=[some (.d (.list (aa.map fG))),some (.d (aE c)),some (.o (.ref a)),u3,u4,none,none]) ⟨_,_,ob0,rfl,rfl,rfl⟩ ?_ ?_
 ·rintro i d _ _ _ N hi ⟨u3,u4,ob,rfl,rfl,rfl⟩ hN;obtain⟨p,ep,rfl⟩:=eL hi;have mp:=ci ep;have af:i<aa.length:=(List.getElem?_eq_some_iff.mp ep).1;rw[IK];walk_at "d";refine⟨a,ob,mD (frs c (aa.take i)),rfl,yv,?_⟩;walk_at "d";refine yC (hc p mp) ac ?_;walk_at "d";obtain⟨kp,ek⟩:∃kp:List Int×Bool,kp=(atC p.1 c,p.2):=⟨_,rfl⟩;refine⟨kp,by rw[ek];exact(FY _ _).symm,?_,?_⟩
  ·have:=HX c (aa.take i);rw[ku]at this;show (List.map _ _).length<1000;rw[cg];omega
  ·have ef:frs c (aa.take (i+1))=k9 c (frs c (aa.take i)) p:=by rw[zK ep,y0]
   unfold k9 at ef;rw[<- ek]at ef;rw[AE kp,isSome_map];split
   ·rename_i hs;rw[cy hs]at ef;exact hN _ _ _ ⟨_,_,ob,rfl,by rw[ef],rfl⟩
   ·rename_i hs;rw[cr hs]at ef;intro ae;refine hN _ _ _ ⟨_,_,ae,rfl,?_,rfl⟩;rw[ef];simp only[fL,fm,vb,if_true];rw[show mD (frs c (aa.take i)++[(kp,p.1)])=mD (frs c (aa.take i))++[Prod.mk (α:=KG KB) kp (aD p.1)]from gw]
 ·rintro _ _ _ ⟨u3,u4,ob,rfl,rfl,rfl⟩;rw[cg,mr];unfold twF at q;generalize frs c aa=F at q ⊢;walk_at "d";refine⟨a,ob,mD F,rfl,yv,?_⟩;rw[IW];refine Et (fun i δ S M=>∃(u3 u4 u5 u6:Option XV),(F.take i).findSome? (onF F)=none/\S=[]/\M=[(a,L2.DD.g KB ob (mD F))]/\δ=[some (.d (.list (aa.map fG))),some (.d (aE c)),some (.o (.ref a)),u3,u4,u5,u6]) ⟨_,_,_,_,rfl,rfl,rfl,rfl⟩ (by rintro i _ _ _ ⟨_,_,_,_,_,_,rfl,_⟩;simp) ?_ ?_
  ·rintro i d _ _ _ N hi ⟨u3,u4,u5,u6,hn,rfl,rfl,rfl⟩ hN;obtain⟨p,ep,rfl⟩:=eL hi;have af:i<F.length:=(List.getElem?_eq_some_iff.mp ep).1;have et:=MS (onF F) ep hn;rw[Iy];walk_at "d";refine seqm ?_;walk_at "d";refine⟨a,ob,mD F,rfl,yv,?_⟩;walk_at "d";obtain⟨kp,ek⟩:∃kp:List Int×Bool,kp=(p.1.1,false):=⟨_,rfl⟩;refine⟨kp,by rw[ek];exact(FY _ _).symm,?_⟩;rw[AE kp];have ab:onF F p=none->∀u6,N [some (.d (.list (aa.map fG))),some (.d (aE c)),some (.o (.ref a)),some (.d (aD p.2)),u4,some (.d (.tuple [aD p.1.1,.bool p.1.2])),u6] [] [(a,L2.DD.g KB ob (mD F))]:=fun z u6=>hN _ _ _ ⟨_,_,_,u6,by rw[zK ep,List.findSome?_append,hn];simp[z],rfl,rfl,rfl⟩;obtain⟨⟨p1,p2⟩,p3⟩:=p;cases p2 with
   |false=>
    have z:onF F ((p1,false),p3)=none:=rfl;walk_at "d";exact ab z _
   |true=>
    have z:onF F ((p1,true),p3)=(lkA F (p1,false)).map fun y=>(p3,y):=rfl;cases hk:lkA F (p1,false)with
    |none=>
     rw[hk]at z;rw[ek,hk,Option.map_none,Option.getD_none];walk_at "d";exact ab z _
    |some y=>
     rw[hk]at z;rw[z]at et;rw[et]at q;rw[ek,hk,map_some,Option.getD_some];have hq:R (.d (.tuple [aD p3,aD y])) []:=q;unfold aD at hq ⊢;walk_at "d";exact⟨[],_,rfl,hq⟩
  ·rintro _ _ _ ⟨u3,u4,u5,u6,hn,rfl,rfl,rfl⟩;rw[cg,mr]at hn;rw[hn]at q;exact⟨[],_,rfl,q⟩
theorem vD{ps:List Part}{g:Gap}(ho:Ord ps)(z:ps.length<=100)(hs:aK ps<=300)(h3:Tm3 ps.length g.ts)(q:R (.d (.list ((zX ps g).map fG))) []):l5 [.d (aF ps),.d (bG g)] [] R:=by
 unfold l5;walk_at "d";refine vZ ho z hs ?_;walk_at "d";refine cmp1 (S0:=[]) (h:=aD) (fun s=>fG (s,bA g s)) rfl (bJ ps) (by rw[fW];omega) ?_ ?_
 ·intro s ms u acc R' hk;have hb:=eJ.mp ms;walk_at "d";refine iI (by rw[hb.len];exact h3) ?_;walk_at "d";exact hk _
 ·walk_at "d";refine .inl ?_;unfold zX at q;rw[jj]at q;exact q
theorem K8{ps:List Part}{g:Gap}(ho:Ord ps)(h8:ps.length<=8)(hs:aK ps<=300)(h3:Tm3 ps.length g.ts)(q:∀c,Few ps g c.length->R (.d (aE c)) []):kA [.d (aF ps),.d (bG g)] [] R:=by
 have ll:(zX ps g).length<=300:=by unfold zX;rw[cg,fW];exact hs
 have lc:∀m,m<=ps.length->∀c∈CH ps.length m,∀p∈zX ps g,∀k∈c,k<p.1.length:=fun m hm c mc p mp k mk=>by
  obtain⟨x,b⟩:=p;have:=(dP.mp mp).1.len;have h2:=(fP ps.length yw m yw c mc).2 k mk;simp only;omega
 unfold kA;walk_at "d"
 walk_at "n"
 refine vD ho yw hs h3 ?_;walk_at "d";refine⟨ps.length,by unfold aF;walk_at "d",?_⟩;walk_at "d";refine cX (fun i δ S=>∃(u3 u4:Option XV),(∀k,k<i->∀c∈CH ps.length k,∃p,twF c (zX ps g)=some p)/\S=[]/\δ=[some (.d (aF ps)),some (.d (bG g)),some (.d (.list ((zX ps g).map fG))),u3,u4]) ⟨_,_,fun k hk=>absurd hk (not_lt_zero k),rfl,rfl⟩ ?_ ?_
 ·rintro i d _ _ N hi ⟨u3,u4,ha,rfl,rfl⟩ hN;obtain⟨ab,rfl⟩:=gO hi;have im:i<=ps.length:=yw
  rw[uh];walk_at "d";refine⟨ps.length,by unfold aF;walk_at "d",?_⟩;walk_at "d";refine yG h8 yw ?_;walk_at "d";refine cX (fun j δ S=>∃(u4:Option XV),(∀c∈(CH ps.length i).take j,∃p,twF c (zX ps g)=some p)/\S=[]/\δ=[some (.d (aF ps)),some (.d (bG g)),some (.d (.list ((zX ps g).map fG))),some (.d (.int i)),u4]) ⟨_,fun c m=>(by rw[take_zero]at m;cases m),rfl,rfl⟩ ?_ ?_
  ·rintro j d _ _ N' hj ⟨u4,hb,rfl,rfl⟩ aa;obtain⟨c,ec,rfl⟩:=eL hj;have mc:=ci ec;have cl:=(fP ps.length yw i yw c mc).1;walk_at "d";refine vO ll (lc i im c mc) yw ?_;walk_at "d";cases hz:twF c (zX ps g)with
   |none=>
    unfold twD;walk_at "d";exact q c ⟨by rw[cl];exact im,⟨c,by rw[cl];exact mc,hz⟩,by rw[cl];exact ha⟩
   |some p=>
    unfold twD;walk_at "d";refine aa _ _ ⟨_,fun x mx=>?_,rfl,rfl⟩;rw[zK ec]at mx;rcases mem_append.mp mx with mx|mx
    ·exact hb x mx
    ·rw[mem_singleton.mp mx];exact⟨p,hz⟩
  ·rintro _ _ ⟨u4,hb,rfl,rfl⟩;rw[cg,mr]at hb;refine hN _ _ ⟨_,_,fun k hk=>?_,rfl,rfl⟩;rcases lt_or_ge k i with z|z
   ·exact ha k z
   ·rw[show k=i by omega];exact hb
 ·rintro _ _ ⟨u3,u4,ha,rfl,rfl⟩;rw[fR]at ha;obtain⟨p,e⟩:=ha ps.length yw _ (FN ps.length yw);rw[tw_all]at e;cases e
theorem NX{ps:List Part}{g:Gap}{m:Nat}(hf:Few ps g m)(ho:Ord ps)(h8:ps.length<=8)(hs:aK ps<=300)(h3:Tm3 ps.length g.ts)(q:R (.d (.list (e9 ps g m))) []\/R (.l 0) [e9 ps g m]):uR [.d (aF ps),.d (bG g)] [] R:=by
 have ll:(zX ps g).length<=300:=by unfold zX;rw[cg,fW];exact hs
 have hm:=hf.le;obtain⟨dl,de⟩:=yU h8 (show m<=ps.length+1 by omega);unfold uR;walk_at "d"
 walk_at "n"
 refine vD ho yw hs h3 ?_;walk_at "d";refine K8 ho h8 hs h3 fun c hc=>?_;have ec:=hc.uniq hf;unfold aE;walk_at "d";rw[ec];refine GP h8 yw ?_;walk_at "d";refine cmp1 (S0:=[]) (h:=aE) (fun c=>rwD (jM ps g c)) rfl (aZ ps.length m) yw ?_ ?_
 ·intro c mc u acc R' hk;obtain⟨c1,c2⟩:=de c mc;have hz:∃p,twF c (zX ps g)=some p:=by
   unfold aZ at mc;split at mc
   ·cases mc
   ·exact hf.all (m-1) yw c mc
  obtain⟨⟨x,y⟩,hz⟩:=hz;have lc:∀p∈zX ps g,∀k∈c,k<p.1.length:=fun p mp k mk=>by
   obtain⟨x,b⟩:=p;have:=(dP.mp mp).1.len;have h2:=c2 k mk;simp only;omega
  walk_at "d";refine vO ll lc c1 ?_;rw[hz];unfold twD;have e:rwD (jM ps g c)=.tuple [aE c,aD x,aD y]:=by
   unfold jM;rw[hz];rfl
  rw[e]at hk;walk_at "d";exact hk _
 ·walk_at "d";exact q
theorem IP{ps:List Part}{g:Gap}{m:Nat}(h8:ps.length<=8)(hm:m<=ps.length+1):FZ (.list (e9 ps g m)):=fun d md=>by
 obtain⟨c,mc,rfl⟩:=mem_map.mp md;obtain⟨c1,_⟩:=(yU h8 hm).2 c mc;show (c.map fun k:Nat=>bp k).length<=900;rw[cg];omega
end
section
variable {R:RX}{S:Sto}
structure WdsS(ws:List Int):Prop where
 w:Wds ws
 k:aQ (ws.map fun x=>x.toNat+1)<=729
theorem FP:∀{ws:List Int},(∀x∈ws,1<=x/\x<=3)->aQ (ws.map fun x=>x.toNat+1)<=4 ^ ws.length
 | [],_=>by simp[aQ]
 |x::ws,h=>by
  have:=FP (ws:=ws) fun y m=>h y (bq _ m);have hx:=h x cp;show (x.toNat+1)*_<=4 ^ (ws.length+1);rw[Nat.pow_succ,mul_comm (4 ^ ws.length)];exact mul_le_mul yw this
theorem KL{ws:List Int}(l1:1<=ws.length)(l4:ws.length<=4)(h:∀x∈ws,1<=x/\x<=3):WdsS ws:=by
 refine⟨wds3 l1 l4 h,gm (FP h) ?_⟩;have:ws.length=1\/ws.length=2\/ws.length=3\/ws.length=4:=yw
 rcases this with e|e|e|e<;>rw[e]<;>decide
theorem JK{ps:List Part}{ws:List Int}(h:ps.map (fun p=>(p.2.2-p.2.1+1).toNat)=ws.map Int.toNat)(hk:aQ (ws.map fun x=>x.toNat+1)<=729):szK ps<=729:=by
 have e:ps.map (fun p=>(p.2.2-p.2.1+1).toNat+1)=ws.map fun x=>x.toNat+1:=by
  have:=congrArg (List.map (· + 1)) h;rw[jj,jj]at this;exact this
 unfold szK;rw[e];exact hk
theorem J4{Q names number:PN}{p:List bc}{m:Int}(hQ:Q=fun xs S R=>(aA (aB (zY 0 1 names (zc (zk 0) zq)) (zm 2)) (aA (aB (bC [none,some 0] (cK (zc (dOp aL (dC (.int 1)) (zY 0 2 zt (zc (zk 0) (zc (zk 1) zq)))) zq)) (zm 0) aG (dOp aL (dC (.int 1)) (zY 0 2 zt (zc (zk 1) (zc (dC (.int 3)) zq))))) (zm 3)) (aA (aI (dB (dOp aU (zY 0 2 zt (zc (zk 0) (zc (dC (.int 12)) zq))) (dC (.int 0)))) (aB (dOp dIx (bS (zc (dOp bW (bS (zc (dC (.int 2)) zq)) (dC (.int 6))) (zc (bS (zc (dC (.int 17)) (zc (dC (.int 17)) zq))) (zc (bS (zc (dC (.int 300)) zq)) (zc (dOp bW (bS (zc (dC (.int 1)) zq)) (dC (.int 8))) zq))))) (zY 0 2 zt (zc (zk 0) (zc (dC (.int 4)) zq)))) (zm 3)) aH) (aA (aB (cO zq) (zm 4)) (aA (b9 (cK (zc (dCB aV (zc (zk 3) zq)) zq)) (zm 5) (aA (aB (zY 0 1 number (zc (zk 0) zq)) (zm 6)) (cM (dBM d9 (zk 4) (zc (aO (zc (dOp dIx (zk 2) (zk 5)) (zc (zk 6) (zc (dOp (dI0 fun i j=>i-j) (dOp aL (zk 6) (dOp dIx (zk 3) (zk 5))) (dC (.int 1))) zq)))) zq))))) (aC (dCB dS (zc (zk 4) zq)))))))) (aJ S.length R) (xs.map some++bh 5 none) S)
  (hnames:∀{p:List bc}{R:RX},aR p->(∀(ns:List Str) p',ns.length=8->(∀z∈ns,iN z=true)->aR p'->R (.d (.list (ns.map ph))) [p'])->names [.l 0] [p] R)
  (hnumber:∀{p:List bc}{R:RX},aR p->(∀r p',-10 ^ 58<=r->r<=10 ^ 58->aR p'->R (.d (.int r)) [p'])->number [.l 0] [p] R)
  (hp:aR p) (m1:0<m) (m4:m<=4) (q:∀(ps:List Part) p',Drw ps->aK ps<=300->szK ps<=729->aR p'->R (.d (aF ps)) [p']):Q [.l 0,.d (.int m)] [p] R:=by
 subst hQ;walk_at "d"
 walk_at "n"
 refine hnames hp fun ns p1 hn hz al=>?_;walk_at "d"
 walk_at "n"
 refine zE al m1 (vH m1 yw) fun r p2 r0 r1 ai=>?_;walk_at "d";refine GL (α:=Int) (fun x=>1<=x/\x<=3) bp (fun τ=>∃u,τ=[u,some (.l 0)]) _ [] p2 _ ⟨_,rfl⟩ ai (by rw[fR];simp;omega) ?_ ?_
 ·rintro d md _ p acc R' ⟨u,rfl⟩ hp hk;walk_at "d";refine zE hp dz (by decide +kernel) fun r p' r0 r1 ak=>?_;walk_at "d";exact hk _ _ p' ⟨_,rfl⟩ ak ⟨yw,yw⟩
 ·intro ws p3 ab hw hl;rw[fR]at hl;have aa:WdsS ws:=KL yw yw hw;rw[nil_append];walk_at "d";refine cut (fun δ S=>∃(p:List bc) (ws:List Int),aR p/\WdsS ws/\S=[p]/\δ=[some (.l 0),some (.d (.int m)),some (.d (.list (ns.map ph))),some (.d (.list (ws.map bp))),none,none,none]) (fun N hN=>?_) ?_
  ·walk_at "d";refine zE ab dz (by decide +kernel) fun r2 p4 r3 r4 ac=>?_;walk_at "d";split
   ·refine zE ac dz (by decide +kernel) fun r5 p5 r6 r7 aj=>?_;obtain⟨d,ed,ae,rfl,af⟩:=oV (P:=fun d=>∃ws:List Int,d=.list (ws.map bp)/\WdsS ws) (ds:=[PyData.list (bh 6 [bp 2]).flatten,.list [.int 17,.int 17],.list [.int 300],.list (bh 8 [bp 1]).flatten]) r6 r7 (by
     intro d m;simp only[ja,gt,or_false]at m;rcases m with rfl|rfl|rfl|rfl
     ·exact⟨[2,2,2,2,2,2],rfl,⟨by decide,by decide,by decide,by decide,by decide⟩,by decide⟩
     ·exact⟨[17,17],rfl,⟨by decide,by decide,by decide,by decide,by decide⟩,by decide⟩
     ·exact⟨[300],rfl,⟨by decide,by decide,by decide,by decide,by decide⟩,by decide⟩
     ·exact⟨[1,1,1,1,1,1,1,1],rfl,⟨by decide,by decide,by decide,by decide,by decide⟩,by decide⟩)
    walk_at "d";refine⟨_,ed,hN _ _ ⟨p5,ae,aj,af,rfl,rfl⟩⟩
   ·exact hN _ _ ⟨p4,ws,ac,aa,rfl,rfl⟩
  rintro _ _ ⟨p,ws,hp,⟨aa,ag⟩,rfl,rfl⟩;have w8:=aa.l8
  walk_at "n"
  walk_at "n";refine cX (fun i δ S=>∃(p:List bc) (ps:List Part) (u1 u2:Option XV),aR p/\ps.length=i/\(∀p∈ps,Prt p)/\ps.map (fun p=>(p.2.2-p.2.1+1).toNat)=(ws.take i).map Int.toNat/\S=[p,ps.map cE]/\δ=[some (.l 0),some (.d (.int m)),some (.d (.list (ns.map ph))),some (.d (.list (ws.map bp))),some (.l 1),u1,u2]) ⟨p,[],_,_,hp,rfl,yv,rfl,rfl,rfl⟩ ?_ ?_
  ·rintro i d _ _ N hi ⟨p,ps,u1,u2,hp,hl,ha,hs,rfl,rfl⟩ hN;obtain⟨ah,rfl⟩:=gO hi;have iw:i<ws.length:=by simpa using ah
   have i8:i<ns.length:=yw
   have e:=dF (f:=ph) (bn i8);have ew:=dF (f:=bp) (bn iw);have w1:=aa.pos _ (nr iw);have an:=aa.le _ (nr iw);have e0:(0:Int)+(i:Int)=(i:Int):=yw
   walk_at "d"
   walk_at "n"
   refine hnumber hp fun lo p3 h1 h2 ab=>?_;walk_at "d";rw[e0];refine⟨_,e,?_⟩;walk_at "d";refine⟨_,ew,?_⟩;walk_at "d";refine⟨yw,hN _ _ ⟨p3,ps++[(ns[i],lo,lo+ws[i]-1)],_,_,ab,by simp[hl],fun x hx=>?_,?_,by simp[cE],rfl⟩⟩
   ·rcases mem_append.mp hx with hx|hx
    ·exact ha x hx
    ·rw[mem_singleton.mp hx];exact⟨hz _ (nr i8),by simp only;omega,h1,by simp only;omega⟩
   ·rw[gw,hs,zK (bn iw),gw];congr 1;simp only[fm,vb,qc,and_true];omega
  ·rintro _ _ ⟨p,ps,u1,u2,hp,hl,ha,hs,rfl,rfl⟩;rw[fR]at hl hs;have am:(ws.length:Int).toNat=ws.length:=by simp
   rw[am]at hl hs;rw[mr]at hs;walk_at "d";have ao:=aa.l1;exact q ps p ⟨yw,yw,ha⟩ (by unfold aK;rw[hs];exact aa.prod) (JK hs ag) hp
theorem Lp{p:List bc}{m:Int}(hp:aR p)(m1:0<m)(m4:m<=4)(q:∀(ps:List Part) p',Drw ps->aK ps<=300->szK ps<=729->aR p'->R (.d (aF ps)) [p']):xK [.l 0,.d (.int m)] [p] R:=
 J4 (names:=rC) (number:=uC) rfl Ht IM hp m1 m4 q
theorem BW{ps:List Part}{g:Gap}{ts:List Term}{w:Int}(ho:Ord ps)(hT:TsOk ps.length ts):(plT ps g ts w).1<=ts.length:=by
 have:=Ez (g:=g) (D:=fun _=>true) (w:=w) ho hT fun a b ha hb h=>by
  have:a=b:=ext_getElem (by rw[ha.len,hb.len]) fun k h1 h2=>by
   have:=h k rfl;rw[fc,fc,bn h1,bn h2]at this;exact this
  rw[this]
 exact gm this List.countP_le_length
section
variable {C a:Addr}{ps:List Part}{g:Gap}{T0:List Term}
abbrev slf (C a:Addr) (ps:List Part) (g:Gap):XV:=.i C [("drawing",.inl (aF ps)),("gap",.inl (bG g)),("known",.inr (.ref a))]
def v9:bc->Int
 | .tuple [.int k,_]=>k
 |_=>0
theorem Ly{aa:PNm}{ts:List Term}{w:Int}{ob:Obj}{m:List (KG GK×bc)}{R:bc->Sto->DM->Prop}(hT:TsOk ps.length ts)(hl:ts.length<=8)(hK:Kn ps g T0 m)
  (hq:∀{i:Nat}{t:Term}{ob:Obj}{m:List (KG GK×bc)}{R:bc->Sto->DM->Prop},ts[i]?=some t->Kn ps g T0 m->(∀ac m',Kn ps g T0 m'->R (ptD (meas ps (plT ps g) ts w t i)) [] [(a,.g GK ac m')])->aa [slf C a ps g,.d (fF ts),.d (.int i),.d (.int w)] [] [(a,.g GK ob m)] R)
  (q:∀ac m',Kn ps g T0 m'->R (ptD (plT ps g ts w)) [] [(a,.g GK ac m')]):sT C aa [slf C a ps g,.d (fF ts),.d (.int w)] [] [(a,.g GK ob m)] R:=by
 unfold sT;walk_at "d";refine seqm ?_;walk_at "d";cases ts with
 |nil=>
  refine⟨false,rfl,?_⟩;rw[cy rfl];have ab:R (ptD (lf g w)) [] [(a,.g GK ob m)]:=q ob m hK;unfold ptD lf lfW at ab;refine⟨_,.inl (bG g),rfl,rfl,?_⟩;rw[kL];walk_at "d";by_cases h1:g.lo<=w
  ·rw[cy h1];refine⟨_,.inl (bG g),rfl,rfl,?_⟩;rw[kL];walk_at "d";by_cases h2:w<=g.hi
   ·rw[cy h2];rw[cy ⟨h1,h2⟩]at ab;exact ab
   ·rw[cr h2];rw[cr fun z=>h2 z.2]at ab;exact ab
  ·rw[cr h1];rw[cr fun z=>h1 z.1]at ab;exact ab
 |cons t1 ts1=>
  refine⟨true,rfl,?_⟩;rw[cr dz];generalize hts:t1::ts1=ts at *;have ne:ts≠[]:=by rw[<- hts];simp
  walk_at "d";refine⟨ts.length,by unfold fF;walk_at "d",?_⟩;rw[gn,eK];refine cmpm (S0:=[]) (h:=fun k:Nat=>.int (0+k)) (fun M=>∃ob m,Kn ps g T0 m/\M=[(a,.g GK ob m)]) (fun i:Nat=>ptD (meas ps (plT ps g) ts w (ts.getD i t0) i)) rfl (fh ts.length) (by simp;omega) ⟨ob,m,hK,rfl⟩ ?_ ?_
  ·rintro i mi u acc _ R' ⟨ob,m,hK,rfl⟩ hk;have hi:=mem_range.mp mi;have et:ts[i]?=some (ts.getD i t0):=by rw[bn hi,fc,bn hi];rfl
   walk_at "d";refine⟨_,rfl,rfl,?_⟩;rw[uh];exact hq et hK fun ac m' ae=>⟨rfl,hk _ _ ⟨ac,m',ae,rfl⟩⟩
  ·rintro _ ⟨ob,m,hK,rfl⟩;obtain⟨l,el⟩:∃l,l=(fh ts.length).map fun i=>meas ps (plT ps g) ts w (ts.getD i t0) i:=⟨_,rfl⟩;have em:(fh ts.length).map (fun i:Nat=>ptD (meas ps (plT ps g) ts w (ts.getD i t0) i))=l.map ptD:=by rw[el,jj];rfl
   rw[em];refine⟨[],l.map ptD,rfl,rfl,l.map ptD,[],v9,rfl,rfl,fun d md R' hR=>?_,fun z=>?_,fun pre d post e h1 h2=>?_⟩
   ·obtain⟨x,_,rfl⟩:=mem_map.mp md;rw[mL]at hR ⊢;walk_at "d";exact hR
   ·rw[List.map_eq_nil_iff,el,List.map_eq_nil_iff,List.range_eq_nil]at z;exact ne (df z)
   ·obtain⟨l1,l2,rfl,rfl,e2⟩:=List.map_eq_append_iff.mp e;obtain⟨x,l3,rfl,rfl,rfl⟩:=List.map_eq_cons_iff.mp e2;have:plT ps g ts w=x:=by
     rw[AQ ne,<- el];refine FQ (fun y my=>?_) fun y my=>?_
     ·have:=h1 (ptD y) (mem_map.mpr ⟨y,my,rfl⟩);unfold v9 ptD at this;simp only at this;omega
     ·have:=h2 (ptD y) (mem_map.mpr ⟨y,my,rfl⟩);unfold v9 ptD at this;simp only at this;omega
    rw[<- this];exact q ob m hK
theorem Mj{α:Type}{f:α->bc}{ts:List α}{i:Nat}(il:i<=ts.length):bE (ts.map f) none (some (i:Int))=(ts.take i).map f:=by
 have e1:HT.sIx (ts.map f).length (ts.map f).length (some (i:Int))=i:=by rw[HT.sIx_nat,cg];omega
 have e2:HT.sIx (ts.map f).length 0 none=0:=rfl;unfold bE;rw[e1,e2,Nat.sub_zero,List.drop_zero,List.map_take]
theorem JS{aa:PNm}{ts:List Term}{w:Int}{i:Nat}{t:Term}{ob:Obj}{m:List (KG GK×bc)}{R:bc->Sto->DM->Prop}(ho:Ord ps)(hs:aK ps<=300)(hT:TsOk ps.length ts)(h3:∀t∈ts,-3<=t.2/\t.2<=3)(hl:ts.length<=8)(e:ts[i]?=some t)(hK:Kn ps g T0 m)
  (hq:∀{x:Int}{ob:Obj}{m:List (KG GK×bc)}{R:bc->Sto->DM->Prop},x∈aP (part ps t.1)->Kn ps g T0 m->(∀ab m',Kn ps g T0 m'->R (ptD (plT ps g (bF ts i) (w+t.2*x))) [] [(a,.g GK ab m')])->aa [slf C a ps g,.d (fF (bF ts i)),.d (.int (w+t.2*x))] [] [(a,.g GK ob m)] R)
  (q:∀ab m',Kn ps g T0 m'->R (ptD (meas ps (plT ps g) ts w t i)) [] [(a,.g GK ab m')]):uF C aa [slf C a ps g,.d (fF ts),.d (.int i),.d (.int w)] [] [(a,.g GK ob m)] R:=by
 unfold uF;have mt:=ci e;have ht:=hT.ok t mt;have ei:=dF (f:=tmD) e;have ep:=dF (f:=cE) (gB ht);have il:=(List.getElem?_eq_some_iff.mp e).1;unfold fF at hq ⊢;walk_at "d";refine seqm ?_;walk_at "d";refine⟨_,ei,?_⟩;rw[yO];walk_at "d";refine seqm ?_;walk_at "d";refine⟨_,.inl (aF ps),rfl,rfl,?_⟩;rw[mG];walk_at "d";refine⟨_,ep,?_⟩;walk_at "d";refine xV ?_;walk_at "d";refine seqm ?_;walk_at "d";have al:(ts.take i).length=i:=by rw[ku];omega
 have ah:(ts.drop (i+1)).length=ts.length-(i+1):=length_drop ..;rw[Mj yw,He il,<- gw];refine⟨fun z=>?_,fun z=>?_,by rw[cg,cg,al,ah];omega,?_⟩
 ·have:=z.2;rw[HT.sIx_nat]at this;omega
 ·have:=z.1;rw[show ((i:Int)+1)=((i+1:Nat):Int) by omega,HT.sIx_nat]at this;omega
 show cY _ _ _ [_,_,_,_,_,_,some (.d (.tuple ((bF ts i).map tmD))),_,_,_] _ _;refine seqm ?_;unfold spD;walk_at "d";rw[EZ];have aj:(part ps t.1).2.1<=(part ps t.1).2.2:=ho.at ht;have hw:=AU ho ht;have rl:(aP (part ps t.1)).length<=300:=by
  rw[nR];have e1:phi ps t.1=(part ps t.1).2.2:=rfl;have e2:plo ps t.1=(part ps t.1).2.1:=rfl;rw[e1,e2]at hw;omega
 refine cmp1 (S0:=[]) (h:=bp) (fun x:Int=>.int (w+t.2*x)) rfl (aP (part ps t.1)) yw ?_ ?_
 ·intro x mx u acc R' hk;have:=h3 t mt;walk_at "d";refine⟨_,ei,?_⟩;rw[yO];walk_at "d";exact⟨fJ yw yw,hk _⟩
 walk_at "d";refine seqm ?_;walk_at "d";refine cmpm (S0:=[]) (h:=fun x:Int=>.int (w+t.2*x)) (fun M=>∃ob m,Kn ps g T0 m/\M=[(a,.g GK ob m)]) (fun x:Int=>ptD (plT ps g (bF ts i) (w+t.2*x))) rfl (aP (part ps t.1)) yw ⟨ob,m,hK,rfl⟩ ?_ ?_
 ·rintro x mx u acc _ R' ⟨ob,m,hK,rfl⟩ hk;walk_at "d";refine⟨_,rfl,rfl,?_⟩;exact hq mx hK fun ab m' ak=>⟨rfl,hk _ _ ⟨ab,m',ak,rfl⟩⟩
 rintro _ ⟨ob,m,hK,rfl⟩;obtain⟨fs,ac⟩:∃fs,fs=(aP (part ps t.1)).map fun x=>plT ps g (bF ts i) (w+t.2*x):=⟨_,rfl⟩;have em:(aP (part ps t.1)).map (fun x:Int=>ptD (plT ps g (bF ts i) (w+t.2*x)))=fs.map ptD:=by rw[ac,jj];rfl
 have fl:fs.length<=300:=by rw[ac,cg];exact rl
 obtain⟨f0,fr,ef⟩:∃f0 fr,fs=f0::fr:=by
  obtain⟨r,er⟩:=yM aj;rw[ac,er];exact⟨_,_,rfl⟩
 rw[em];have af:∀y∈fs,cv (ptD y)=true:=fun y my=>by
  rw[ac]at my;obtain⟨x,_,rfl⟩:=mem_map.mp my;have:=BW (g:=g) (w:=w+t.2*x) ho (hT.cut e);rw[pI il]at this;exact(GO ((wV ho (hT.cut e)).pl [] yv)).ok yw
 have ag:meas ps (plT ps g) ts w t i=join t.1 fs:=by rw[ac];rfl
 rw[ag]at q;refine⟨[],fs.map ptD,rfl,rfl,?_⟩;refine seqm ?_;walk_at "d";refine cmp1 (S0:=[]) (h:=ptD) (fun y:PlT=>.int y.1) rfl fs yw ?_ ?_
 ·intro y my u acc R' hk;rw[mL];walk_at "d";exact hk _
 walk_at "d";refine⟨_,rfl,fs.map fun y=>((y.1:Nat):Int),by rw[jj];rfl,by rw[ef];simp,fun mx m1 m2=>?_⟩;have ai:mx=(mxN (fs.map (·.1)):Nat):=by
  refine ED (l:=fs.map (·.1)) ?_ fun a ma=>?_
  ·obtain⟨y,my,rfl⟩:=mem_map.mp m1;exact⟨_,mem_map.mpr ⟨y,my,rfl⟩,rfl⟩
  ·obtain⟨y,my,rfl⟩:=mem_map.mp ma;exact m2 _ (mem_map.mpr ⟨y,my,rfl⟩)
 subst ai;walk_at "d";refine seqm ?_;walk_at "d";have e0:atI (fs.map ptD) 0=some (ptD f0):=by
  have:fs[0]?=some f0:=by rw[ef];rfl
  exact dF (f:=ptD) (k:=0) this
 refine cmp1 (S0:=[]) (h:=ptD) (fun y:PlT=>.bool (dm (ptD y) (ptD f0))) rfl fs yw ?_ ?_
 ·intro y my u acc R' hk;walk_at "d";refine⟨_,e0,?_⟩;walk_at "d";exact⟨af y my,af f0 (by rw[ef];exact cp),hk _⟩
 walk_at "d";refine⟨fs.map fun y=>dm (ptD y) (ptD f0),by rw[jj];rfl,?_⟩;have ae:(fs.map fun y=>dm (ptD y) (ptD f0)).all id=fs.all fun y=>dm (ptD y) (ptD (fs.headD (0,.none))):=by
  rw[all_map,show fs.headD (0,.none)=f0 by rw[ef];rfl];rfl
 rw[ae];unfold join at q;by_cases hall:(fs.all fun y=>dm (ptD y) (ptD (fs.headD (0,.none))))=true
 ·rw[cy hall];rw[cy hall,show fs.headD (0,.none)=f0 by rw[ef];rfl]at q;exact⟨_,e0,q ob m hK⟩
 ·rw[cr hall];rw[cr hall]at q;refine cmp1 (S0:=[]) (h:=ptD) (fun y:PlT=>y.2) rfl fs yw ?_ ⟨[],fs.map (·.2),rfl,rfl,?_⟩
  ·intro y my u acc R' hk;rw[mL];walk_at "d";exact hk _
  ·exact q ob m hK
theorem FM(ho:Ord ps)(hs:aK ps<=300)(hk:szK ps<=729)(aa:TsOk ps.length T0)(h3:∀t∈T0,-3<=t.2/\t.2<=3)(hl:T0.length<=8):∀{n:Nat}{ts:List Term}{w:Int}{ob:Obj}{m:List (KG GK×bc)}{R:bc->Sto->DM->Prop},ts.length<n->(ts,w)∈ksT ps T0 0->Kn ps g T0 m ->
  (∀z m',Kn ps g T0 m'->R (ptD (plT ps g ts w)) [] [(a,.g GK z m')])->nT C n [slf C a ps g,.d (fF ts),.d (.int w)] [] [(a,.g GK ob m)] R
 | 0,ts,w,ob,m,R,h,_,_,_=>by omega
 |n+1,ts,w,ob,m,R,h,hm,hK,q=>by
  have sub:=yA hm;have hT:=aa.sub sub;have l8:ts.length<=T0.length:=sub.length_le;rw[nT];walk_at "d";refine seqm ?_;walk_at "d";refine⟨_,.inr (.ref a),rfl,rfl,?_⟩;walk_at "d";refine⟨a,ob,m,kyT (ts,w),rfl,yv,(kdT (ts,w)).symm,?_⟩;by_cases hin:(lkA m (kyT (ts,w))).isSome=true
  ·rw[cr (by rw[hin];decide)];obtain⟨d,ed⟩:=isSome_iff_exists.mp hin;refine⟨_,.inr (.ref a),rfl,rfl,?_⟩;walk_at "d";refine⟨a,ob,m,kyT (ts,w),d,rfl,yv,(kdT (ts,w)).symm,ed,?_⟩;rw[hK.get ed];exact q ob m hK
  ·rw[cy (by simpa using hin)];refine⟨_,rfl,rfl,?_⟩;refine Ly (g:=g) (T0:=T0) hT yw hK (fun {i t ob m R} e hK q'=>?_) fun z m' ab=>⟨rfl,?_⟩
   ·refine JS ho hs hT (fun t mt=>h3 t (sub.subset mt)) yw e hK (fun {x ob m R} mx hK q''=>?_) q';have il:=(List.getElem?_eq_some_iff.mp e).1;exact FM ho hs hk aa h3 hl (by rw[pI il];omega) (yX hm e mx) hK q''
   ·walk_at "d";refine⟨_,.inr (.ref a),rfl,rfl,?_⟩;walk_at "d";have ml:=ab.len aa;refine⟨a,z,m',rfl,yv,kyT (ts,w),(kdT (ts,w)).symm,yw,fun ac=>?_⟩;refine⟨_,.inr (.ref a),rfl,rfl,?_⟩;walk_at "d";refine⟨a,ac,stG m' (kyT (ts,w)) (ptD (plT ps g ts w)),kyT (ts,w),ptD (plT ps g ts w),rfl,by simp[fL],(kdT (ts,w)).symm,OS,?_⟩;simp only[fL,fm,vb,if_true];exact q _ _ (ab.put hm)
end
theorem FB{ps:List Part}{g:Gap}(ho:Ord ps)(hs:aK ps<=300)(hk:szK ps<=729)(hT:Tms ps.length g.ts)(h8:ps.length<=8)(q:R (.d (plT ps g g.ts 0).2) []):mE [.d (aF ps),.d (bG g)] [] R:=by
 unfold mE;intro C;walk_at "d"
 walk_at "n"
 refine Be ho hs ?_;walk_at "d";have z:TsOk ps.length g.ts:=⟨fun t m=>(hT.ok t m).1,hT.srt⟩;refine⟨_,_,rfl,rfl,?_⟩;rw[kL];walk_at "d";intro p;rw[<- kL];refine FM (T0:=g.ts) ho hs hk z (fun t m=>(hT.ok t m).2.2) (by have:=hT.len;omega) (by have:=hT.len;omega) (Db ps g.ts 0) ⟨fun p m=>(by cases m),ux⟩ fun aa m' _=>⟨rfl,?_⟩;rw[mL];walk_at "d";exact q
end
section
variable {R:RX}
structure FewC(ps:List Part)(g:Gap)(c:List Nat):Prop where
 few:Few ps g c.length
 no:twF c (zX ps g)=none
 fst:∃j:Nat,(CH ps.length c.length)[j]?=some c/\∀d∈(CH ps.length c.length).take j,∃p,twF d (zX ps g)=some p
theorem Ix{ps:List Part}{g:Gap}(ho:Ord ps)(h8:ps.length<=8)(hs:aK ps<=300)(h3:Tm3 ps.length g.ts)(q:∀c,FewC ps g c->R (.d (aE c)) []):kA [.d (aF ps),.d (bG g)] [] R:=by
 have ll:(zX ps g).length<=300:=by unfold zX;rw[cg,fW];exact hs
 have lc:∀m,m<=ps.length->∀c∈CH ps.length m,∀p∈zX ps g,∀k∈c,k<p.1.length:=fun m hm c mc p mp k mk=>by
  obtain⟨x,b⟩:=p;have:=(dP.mp mp).1.len;have h2:=(fP ps.length yw m yw c mc).2 k mk;simp only;omega
 unfold kA;walk_at "d"
 walk_at "n"
 refine vD ho yw hs h3 ?_;walk_at "d";refine⟨ps.length,by unfold aF;walk_at "d",?_⟩;walk_at "d";refine cX (fun i δ S=>∃(u3 u4:Option XV),(∀k,k<i->∀c∈CH ps.length k,∃p,twF c (zX ps g)=some p)/\S=[]/\δ=[some (.d (aF ps)),some (.d (bG g)),some (.d (.list ((zX ps g).map fG))),u3,u4]) ⟨_,_,fun k hk=>absurd hk (not_lt_zero k),rfl,rfl⟩ ?_ ?_
 ·rintro i d _ _ N hi ⟨u3,u4,ha,rfl,rfl⟩ hN;obtain⟨ab,rfl⟩:=gO hi;have im:i<=ps.length:=yw
  rw[uh];walk_at "d";refine⟨ps.length,by unfold aF;walk_at "d",?_⟩;walk_at "d";refine yG h8 yw ?_;walk_at "d";refine cX (fun j δ S=>∃(u4:Option XV),(∀c∈(CH ps.length i).take j,∃p,twF c (zX ps g)=some p)/\S=[]/\δ=[some (.d (aF ps)),some (.d (bG g)),some (.d (.list ((zX ps g).map fG))),some (.d (.int i)),u4]) ⟨_,fun c m=>(by rw[take_zero]at m;cases m),rfl,rfl⟩ ?_ ?_
  ·rintro j d _ _ N' hj ⟨u4,hb,rfl,rfl⟩ aa;obtain⟨c,ec,rfl⟩:=eL hj;have mc:=ci ec;have cl:=(fP ps.length yw i yw c mc).1;walk_at "d";refine vO ll (lc i im c mc) yw ?_;walk_at "d";cases hz:twF c (zX ps g)with
   |none=>
    unfold twD;walk_at "d";exact q c ⟨⟨by rw[cl];exact im,⟨c,by rw[cl];exact mc,hz⟩,by rw[cl];exact ha⟩,hz,j,by rw[cl];exact ec,by rw[cl];exact hb⟩
   |some p=>
    unfold twD;walk_at "d";refine aa _ _ ⟨_,fun x mx=>?_,rfl,rfl⟩;rw[zK ec]at mx;rcases mem_append.mp mx with mx|mx
    ·exact hb x mx
    ·rw[mem_singleton.mp mx];exact⟨p,hz⟩
  ·rintro _ _ ⟨u4,hb,rfl,rfl⟩;rw[cg,mr]at hb;refine hN _ _ ⟨_,_,fun k hk=>?_,rfl,rfl⟩;rcases lt_or_ge k i with z|z
   ·exact ha k z
   ·rw[show k=i by omega];exact hb
 ·rintro _ _ ⟨u3,u4,ha,rfl,rfl⟩;rw[fR]at ha;obtain⟨p,e⟩:=ha ps.length yw _ (FN ps.length yw);rw[tw_all]at e;cases e
def bt(c:List Nat)(l:Lks)(q:List Int):Int:=(if (l.any fun p=>decide (atC p.1 c=q)&&!p.2)=true then 1 else 0)+(if (l.any fun p=>decide (atC p.1 c=q)&&p.2)=true then 2 else 0)
end
section
variable {R:RX}{S:Sto}
section
variable {ps:List Part}{g:Gap}{c c':List Nat}
def Det(ps:List Part)(g:Gap)(c:List Nat):Prop:=∀a b,InBox ps a->InBox ps b->(∀k∈c,a.getD k 0=b.getD k 0)->bA g a=bA g b
theorem sV{a b:List Int}:atC a c=atC b c↔∀k∈c,a.getD k 0=b.getD k 0:=by
 unfold atC;rw[List.map_inj_left]
theorem GU(h:twF c (zX ps g)=none):Det ps g c:=fun a b ha hb e=>by
 have no:=fun {x y:List Int} (hx:InBox ps x) (hy:InBox ps y) (kx:bA g x=true) (ky:bA g y=false)=>tw_none h (dP.mpr ⟨hx,kx⟩) (dP.mpr ⟨hy,ky⟩);cases ka:bA g a with
 |true=>
  cases kb:bA g b with
  |true=>rfl
  |false=>exact absurd (sV.mpr e) (no ha hb ka kb)
 |false=>
  cases kb:bA g b with
  |false=>rfl
  |true=>exact absurd (sV.mpr e).symm (no hb ha kb ka)
theorem GJ(h:Det ps g c):twF c (zX ps g)=none:=by
 cases e:twF c (zX ps g)with
 |none=>rfl
 |some p=>
  obtain⟨x,y⟩:=p;obtain⟨h1,h2,h3⟩:=tw_some e;obtain⟨a1,a2⟩:=dP.mp h1;obtain⟨b1,b2⟩:=dP.mp h2;have:=h x y a1 b1 (sV.mp h3);rw[a2,b2]at this;cases this
theorem Det.mono(h:Det ps g c)(hc:∀k∈c,k∈c'):Det ps g c':=fun a b ha hb e=>h a b ha hb fun k m=>e k (hc k m)
theorem vJ(g:Gap)(a:List Int):lfW g (0+worth g.ts a)=if bA g a=true then ("keeps":Str)else ("breaks":Str):=by
 unfold lfW bA;rw[uh];simp only[decide_eq_true_eq]
theorem BM(ho:Ord ps)(hT:Tms ps.length g.ts)(h:Det ps g c):(plT ps g g.ts 0).1<=c.length:=by
 have q:TsOk ps.length g.ts:=⟨fun t m=>(hT.ok t m).1,hT.srt⟩;have h1:=Ez (g:=g) (D:=fun k=>decide (k∈c)) (w:=0) ho q fun a b ha hb e=>by
  rw[vJ,vJ,h a b ha hb fun k m=>e k (fz m)]
 refine gm h1 ?_;unfold gW;rw[List.countP_eq_length_filter];have nd:((g.ts.filter fun t=>decide (t.1∈c)).map (·.1)).Nodup:=by
  have:(g.ts.map (·.1)).Nodup:=by
   rw[gl,pairwise_map];exact hT.srt.imp fun h=>by omega
  exact this.sublist ((List.filter_sublist).map _)
 have:=wY (l':=c) nd fun x mx=>by
  obtain⟨t,mt,rfl⟩:=mem_map.mp mx;exact mw (mem_filter.mp mt).2
 rwa [cg]at this
theorem vY(ho:Ord ps)(hT:Tms ps.length g.ts):GoodP ps g g.ts 0 (plT ps g g.ts 0):=wV ho ⟨fun t m=>(hT.ok t m).1,hT.srt⟩
theorem sK(ho:Ord ps)(hT:Tms ps.length g.ts):IsPl ps [] (plT ps g g.ts 0).1 (plT ps g g.ts 0).2:=(vY ho hT).pl [] yv
theorem vT(ho:Ord ps)(hT:Tms ps.length g.ts)(h8:ps.length<=8):(plT ps g g.ts 0).1<=8:=by
 have:=BW (g:=g) (w:=0) ho (⟨fun t m=>(hT.ok t m).1,hT.srt⟩:TsOk ps.length g.ts);have:=hT.len;omega
theorem JR(ho:Ord ps)(hT:Tms ps.length g.ts)(h8:ps.length<=8):PlOk ps g (plT ps g g.ts 0).2:=by
 have hl:=vT ho hT h8;refine⟨(sK ho hT).weak (fun _ z=>z) (by simp only[tp];omega),fun a ma=>?_⟩;obtain⟨js,hj⟩:=(vY ho hT).led a (eJ.mp ma);rw[vJ]at hj;unfold Mt;cases hk:bA g a with
 |true=>
  rw[hk,cy rfl]at hj;exact⟨fun _=>rfl,fun _=>⟨js,hj⟩⟩
 |false=>
  rw[hk,cr dz]at hj;refine⟨fun⟨q,h'⟩=>?_,fun z=>nomatch z⟩;exact absurd (hj.uniq h').2 dz
theorem Mq(ho:Ord ps)(hT:Tms ps.length g.ts)(h8:ps.length<=8):Thn (plT ps g g.ts 0).2:=.inl ((sK ho hT).shp.ok (by have:=vT ho hT h8;omega))
theorem Dp(ho:Ord ps)(hz:aK ps<=300)(hT:Tms ps.length g.ts)(h8:ps.length<=8)(q:R (.d (.int (plT ps g g.ts 0).1)) []):lA [.d (plT ps g g.ts 0).2] [] R:=by
 refine Hz ho hz h8 (vT ho hT h8) (sK ho hT) ?_;rw[(vY ho hT).dp _ (dh _)];exact q
end
section
variable {ps:List Part}{g:Gap}{c:List Nat}
theorem EC(ho:Ord ps)(z:ps.length<=100)(hs:aK ps<=300)(h3:Tm3 ps.length g.ts)(hc:∀k∈c,k<ps.length)(aa:c.length<=100)(q:R (.d (twD (twF c (zX ps g)))) []):qI [.d (aF ps),.d (bG g),.d (aE c)] [] R:=by
 unfold qI;walk_at "d";refine vD ho z hs h3 ?_;walk_at "d";refine vO (by unfold zX;rw[cg,fW];exact hs) (fun p m k mk=>?_) aa ?_
 ·obtain⟨p1,p2⟩:=p;have:=(dP.mp m).1.len;have:=hc k mk;show k<p1.length;omega
 ·walk_at "d";exact q
theorem p9(ho:Ord ps)(z:ps.length<=100)(hs:aK ps<=300)(h3:Tm3 ps.length g.ts)(hc:∀k∈c,k<ps.length)(aa:c.length<=100)(q:R (.d (.bool (twF c (zX ps g)).isNone)) []):f8 [.d (aF ps),.d (bG g),.d (aE c)] [] R:=by
 unfold f8;walk_at "d";refine EC ho z hs h3 hc aa ?_;cases h:twF c (zX ps g)with
 |none=>
  rw[h]at q;unfold twD;walk_at "d";exact q
 |some p=>
  rw[h]at q;unfold twD;walk_at "d";exact q
end
theorem x9{fin:Sto->Prop}:∀(ds acc:List Nat) (p:List bc) (u:Option XV),aR p->acc.length+ds.length<=100->(∀(c:List Nat) p',aR p'->(∀k∈c,k∈acc\/k∈ds)->c.length<=acc.length+ds.length->fin [p',c.map fun k:Nat=>bp k]) ->
  aX 1 (zm 0) (dB (dOp aU (zY 0 2 zt (zc (zk 1) (zc (dC (.int 2)) zq))) (dC (.int 1)))) (zk 0) fin (ds.map fun k:Nat=>bp (0+k)) [u,some (.l 0)] [p,acc.map fun k:Nat=>bp k]
 | [],acc,p,u,hp,_,q=>q acc p hp (fun k m=>.inl m) yv
 |d::ds,acc,p,u,hp,hl,q=>by
  rw[fm,aX];walk_at "d";refine zE hp dz (by decide +kernel) fun r p1 r0 r1 ab=>?_;walk_at "d";rw[cx]at hl;rw[uh];split
  ·refine⟨yw,?_⟩;have e:(acc.map fun k:Nat=>bp k)++[bp (d:Nat)]=(acc++[d]).map fun k:Nat=>bp k:=by simp
   rw[e];refine x9 ds (acc++[d]) p1 _ ab (by rw[ck,fq];omega) fun c p' aa hm hc=>q c p' aa (fun k m=>?_) (by rw[ck,fq]at hc;rw[cx];omega);rcases hm k m with z|z
   ·rcases mem_append.mp z with z|z
    ·exact .inl z
    ·exact .inr (by rw[mem_singleton.mp z];exact cp)
   ·exact .inr (bq _ z)
  ·refine x9 ds acc p1 _ ab yw fun c p' aa hm hc=>q c p' aa (fun k m=>?_) (by rw[cx];omega);rcases hm k m with z|z
   ·exact .inl z
   ·exact .inr (bq _ z)
theorem Hu:((fh 9).all fun n=>(fh 9).all fun m=>(CH n m).all fun c=>c.all fun x=>(CH n (m-1)).contains (c.filter fun k=>k != x))=true:=by decide +kernel
theorem K3{n m:Nat}(hn:n<9)(hm:m<9){c:List Nat}(mc:c∈CH n m){x:Nat}(mx:x∈c):c.filter (fun k=>k != x)∈CH n (m-1):=by
 have h1:=all_eq_true.mp Hu n (mem_range.mpr hn);have h2:=all_eq_true.mp h1 m (mem_range.mpr hm);have h3:=all_eq_true.mp h2 c mc;have h4:=all_eq_true.mp h3 x mx;exact List.contains_iff_mem.mp h4
theorem Ac:∀n<9,∀m<n+1,CH n m≠[]:=by decide +kernel
theorem KO:∀n<9,CH n 0=[[]]:=by decide +kernel
theorem Ld{ps:List Part}{g:Gap}{m k:Nat}(h:Few ps g m)(h8:ps.length<=8)(hk:k<=ps.length+1)(ne:k≠m):mS ps g (aZ ps.length k) (.list (e9 ps g m))=false:=by
 have hm:=h.le;rw[xM];by_cases hl:(e9 ps g m).length=(aZ ps.length k).length
 ·have e1:(e9 ps g m).length=(aZ ps.length m).length:=by unfold e9;rw[cg]
  by_cases m0:m=0
  ·have:k≠0:=yw
   have z:aZ ps.length m=[]:=by unfold aZ;rw[cy m0]
   rw[e1,z]at hl;have y:aZ ps.length k=CH ps.length (k-1):=by unfold aZ;rw[cr this]
   rw[y]at hl;exact absurd (df hl.symm) (Ac ps.length yw (k-1) yw)
  ·have y:aZ ps.length m=CH ps.length (m-1):=by unfold aZ;rw[cr m0]
   have nz:=Ac ps.length yw (m-1) yw;by_cases k0:k=0
   ·have z:aZ ps.length k=[]:=by unfold aZ;rw[cy k0]
    rw[e1,z,y]at hl;exact absurd (df hl) nz
   ·have yk:aZ ps.length k=CH ps.length (k-1):=by unfold aZ;rw[cr k0]
    have nk:=Ac ps.length yw (k-1) yw;have em:=fP ps.length yw (m-1) yw;have ek:=fP ps.length yw (k-1) yw;rw[Bool.and_eq_false_iff];refine .inr ?_;unfold e9;rw[y,yk];obtain⟨c,cs,ec⟩:∃c cs,CH ps.length (m-1)=c::cs:=List.exists_cons_of_ne_nil nz;obtain⟨d,ds,ed⟩:∃d ds,CH ps.length (k-1)=d::ds:=List.exists_cons_of_ne_nil nk;have lc:=(em c (by rw[ec];exact cp)).1;have ld:=(ek d (by rw[ed];exact cp)).1;rw[ec,ed,fm,sn,all_cons,Bool.and_eq_false_iff];refine .inl ?_;rw[GC,row3];have:iR d (aE (jM ps g c).1)=false:=by
     show iR d (.tuple (c.map fun k:Nat=>bp k))=false;have hw:(c.map fun k:Nat=>bp k).all cF=true:=by
      rw[all_map];exact all_eq_true.mpr fun _ _=>rfl
     rw[Eh,Jf hw (by rw[cg];omega),Bool.and_false]
    rw[this];rfl
 ·rw[ff hl];rfl
theorem Hm(pr:List Nat)(k:Nat):((pr.map fun k:Nat=>bp k).any fun y=>dm y (.int k))=decide (k∈pr):=by
 rw[List.any_map];by_cases hk:k∈pr
 ·rw[fz hk,any_eq_true];exact⟨k,hk,by simp[e8]⟩
 ·rw[ff hk,any_eq_false];intro j mj e;have:(j:Int)=k:=by simpa[e8]using e
  exact hk ((Int.ofNat_inj.mp this)▸mj)
theorem w6{fin:Sto->Prop}{pr:List Nat}:∀(ds acc:List Nat) (p:List bc) (u:Option XV),aR p->acc.length+ds.length<=100->(∀(c:List Nat) p',aR p'->(∀k∈c,k∈acc\/k∈ds)->(∀k,k∈acc\/k∈ds/\k∈pr->k∈c)->c.length<=acc.length+ds.length->fin [p',c.map fun k:Nat=>bp k]) ->
  aX 1 (zm 0) (dOr (dB (dOp dIn (zk 0) (zk 1))) (dB (dOp aU (zY 0 2 zt (zc (zk 2) (zc (dC (.int 2)) zq))) (dC (.int 1))))) (zk 0) fin (ds.map fun k:Nat=>bp (0+k)) [u,some (.d (aE pr)),some (.l 0)] [p,acc.map fun k:Nat=>bp k]
 | [],acc,p,u,hp,_,q=>q acc p hp (fun k m=>.inl m) (fun k m=>by
   rcases m with m|m
   ·exact m
   ·cases m.1) yv
 |d::ds,acc,p,u,hp,hl,q=>by
  have sh:cv (aE pr)=true:=(xZ (n:=0) pr).ok;have e:(acc.map fun k:Nat=>bp k)++[bp (d:Nat)]=(acc++[d]).map fun k:Nat=>bp k:=by simp
  rw[cx]at hl;have ac:∀p1 u,aR p1->aX 1 (zm 0) (dOr (dB (dOp dIn (zk 0) (zk 1))) (dB (dOp aU (zY 0 2 zt (zc (zk 2) (zc (dC (.int 2)) zq))) (dC (.int 1))))) (zk 0) fin (ds.map fun k:Nat=>bp (0+k)) [u,some (.d (aE pr)),some (.l 0)] [p1,(acc++[d]).map fun k:Nat=>bp k]:=fun p1 u aa=>by
   refine w6 ds (acc++[d]) p1 u aa (by rw[ck,fq];omega) fun c p' ab hm ha hc=>q c p' ab (fun k m=>?_) (fun k m=>ha k ?_) (by rw[ck,fq]at hc;rw[cx];omega)
   ·rcases hm k m with z|z
    ·rcases mem_append.mp z with z|z
     ·exact .inl z
     ·exact .inr (by rw[mem_singleton.mp z];exact cp)
    ·exact .inr (bq _ z)
   ·rcases m with m|⟨m,m2⟩
    ·exact .inl (cu _ m)
    ·rcases mem_cons.mp m with z|z
     ·exact .inl (cw _ (mem_singleton.mpr z))
     ·exact .inr ⟨z,m2⟩
  rw[fm,aX];unfold aE at sh ac ⊢;walk_at "d";rw[uh];refine⟨sh,?_⟩;rw[Hm];by_cases hd:d∈pr
  ·rw[fz hd];walk_at "d";refine⟨yw,?_⟩;rw[e];exact ac p _ hp
  ·rw[ff hd];walk_at "d";refine zE hp dz (by decide +kernel) fun r p1 r0 r1 aa=>?_;walk_at "d";split
   ·refine⟨yw,?_⟩;rw[e];exact ac p1 _ aa
   ·refine w6 ds acc p1 _ aa yw fun c p' ab hm ha hc=>q c p' ab (fun k m=>?_) (fun k m=>ha k ?_) (by rw[cx];omega)
    ·rcases hm k m with z|z
     ·exact .inl z
     ·exact .inr (bq _ z)
    ·rcases m with m|⟨m,m2⟩
     ·exact .inl m
     ·rcases mem_cons.mp m with z|z
      ·rw[z]at m2;exact absurd m2 hd
      ·exact .inr ⟨z,m2⟩
section
variable {ps:List Part}{g:Gap}{c:List Nat}
theorem BC(ho:Ord ps)(z:ps.length<=100)(hs:aK ps<=300)(h3:Tm3 ps.length g.ts)(hc:∀k∈c,k<ps.length)(aa:c.length<=100)(q:R (.d (.bool true)) []):jN [.d (aF ps),.d (bG g),.d (aE c)] [] R:=by
 unfold jN;walk_at "d";walk_at "n";refine EC ho z hs h3 hc aa ?_;walk_at "d";walk_at "n";refine p9 ho z hs h3 hc aa ?_;cases h:twF c (zX ps g)with
 |none=>
  unfold twD;walk_at "d";exact q
 |some p=>
  obtain⟨x,y⟩:=p;obtain⟨h1,h2,ab⟩:=tw_some h;obtain⟨a1,a2⟩:=dP.mp h1;obtain⟨b1,b2⟩:=dP.mp h2;unfold twD;walk_at "d";rw[show (some (x,y)).isNone=false from rfl,cr dz];walk_at "n";walk_at "n";refine tP z ?_;rw[uQ a1];walk_at "d";refine tP z ?_;rw[uQ b1];walk_at "d";refine iI (by rw[a1.len];exact h3) ?_;rw[a2];walk_at "d";refine iI (by rw[b1.len];exact h3) ?_;rw[b2];walk_at "d";have he:=sV.mp ab;unfold aE;walk_at "d";refine cmp1 (S0:=[]) (h:=fun k:Nat=>bp k) (fun _=>.bool true) rfl c yw ?_ ?_
  ·intro k mk u acc R' hk;have ex:=dF (f:=bp) (k7 (ns:=x) (k:=k) (by rw[a1.len];exact hc k mk));have ey:=dF (f:=bp) (k7 (ns:=y) (k:=k) (by rw[b1.len];exact hc k mk));unfold aD;walk_at "d";refine⟨_,ex,_,ey,?_⟩;rw[he k mk];walk_at "d";exact hk _
  ·walk_at "d";refine⟨c.map fun _=>true,by rw[jj];rfl,?_⟩;rw[show (c.map fun _=>true).all id=true by rw[all_map];exact all_eq_true.mpr fun _ _=>rfl];exact q
theorem MB(ho:Ord ps)(h8:ps.length<=8)(hs:aK ps<=300)(h3:Tm3 ps.length g.ts)(hf:FewC ps g c)(q:R (.d (.bool true)) []):oG [.d (aF ps),.d (bG g),.d (aE c)] [] R:=by
 have hm:=hf.few.le;obtain⟨j,ej,_⟩:=hf.fst;have mc:=ci ej;have hc:=(fP ps.length yw c.length yw c mc).2;unfold oG;walk_at "d";walk_at "n";refine p9 ho yw hs h3 hc yw ?_;rw[show (twF c (zX ps g)).isNone=true by rw[hf.no];rfl];walk_at "d";refine seq1 ?_;unfold aE;walk_at "d";refine cX (fun i δ S=>∃(u3:Option XV),S=[]/\δ=[some (.d (aF ps)),some (.d (bG g)),some (.d (aE c)),u3,none,none]) ⟨_,rfl,rfl⟩ ?_ ?_
 ·rintro i d _ _ N hi ⟨u3,rfl,rfl⟩ hN;obtain⟨x,ex,rfl⟩:=eL hi;have mx:=ci ex;have mo:=K3 (n:=ps.length) (m:=c.length) yw yw mc mx;have aa:=(fP ps.length yw (c.length-1) yw _ mo).2;have ab:=(fP ps.length yw (c.length-1) yw _ mo).1;have lc:1<=c.length:=List.length_pos_of_mem mx;obtain⟨p,ep⟩:=hf.few.all (c.length-1) yw _ mo;unfold aE at hN ⊢;walk_at "d";refine cmf1 (S0:=[]) (h:=fun k:Nat=>bp k) (fun k:Nat=>bp k) (fun k=>k != x) rfl c yw ?_ ?_
  ·intro k mk u acc R' hk;walk_at "d";have e:(!decide ((k:Int)=(x:Int)))=(k != x):=by
    rw[Bool.eq_iff_iff];simp;omega
   rw[e];exact hk _ fun _ T hT=>by walk_at "d";exact hT
  ·walk_at "d";show f8 [_,_,.d (aE (c.filter fun k=>k != x))] [] _;refine p9 ho yw hs h3 aa yw ?_;rw[ep,show (some p).isNone=false from rfl];walk_at "d";exact hN _ _ ⟨_,rfl,rfl⟩
 ·rintro _ _ ⟨u3,rfl,rfl⟩;have th:=IP (g:=g) h8 (show c.length<=ps.length+1 by omega);walk_at "d";walk_at "n";refine NX hf.few ho h8 hs h3 (.inl ?_);walk_at "d";walk_at "n";refine⟨ps.length,by unfold aF;walk_at "d",?_⟩;refine cX (fun i δ S=>∃(u5:Option XV),S=[]/\δ=[some (.d (aF ps)),some (.d (bG g)),some (.d (aE c)),u3,some (.d (.list (e9 ps g c.length))),u5]) ⟨_,rfl,rfl⟩ ?_ ?_
  ·rintro i d _ _ N hi ⟨u5,rfl,rfl⟩ hN;obtain⟨ac,rfl⟩:=gO hi;have hk:i<=ps.length+1:=yw
   rw[uh];walk_at "d";refine Gn (m:=i) h8 hk h3 th ?_;have e:mS ps g (aZ ps.length i) (.list (e9 ps g c.length))=decide (i=c.length):=by
    by_cases z:i=c.length
    ·rw[z,Lg hf.few,fz rfl]
    ·rw[Ld hf.few h8 hk z,ff z]
   rw[e];unfold aE at hN ⊢;walk_at "d";have e2:decide ((i:Int)=(c.length:Int))=decide (i=c.length):=by
    rw[Bool.eq_iff_iff];simp;omega
   rw[e2,cr yv];exact hN _ _ ⟨_,rfl,rfl⟩
  ·rintro _ _ ⟨u5,rfl,rfl⟩;walk_at "d";exact q
theorem Led.agree{lo:Nat->Int}{a b:List Int}{d:bc}{js:List Nat}{w:Str}(h:Led lo a d js w)(hl:a.length=b.length)(e:∀j∈js,a.getD j 0=b.getD j 0):Led lo b d js w:=by
 induction h with
 |leaf h=>exact .leaf h
 | @node k i l d js w hk hi hd h ih=>exact .node (i:=i) (by rw[<- hl];exact hk) (by rw[<- e k cp];exact hi) hd (ih fun j mj=>e j (bq _ mj))
open Classical in
theorem ML{p:List bc}(hd:Drw ps)(hz:aK ps<=300)(hk:szK ps<=729)(hT:Tms ps.length g.ts)(hp:aR p)(hf:Det ps g c)(q:∀p',aR p'->R (.d (.bool true)) [p']):mW [.d (aF ps),.d (bG g),.d (aE c),.l 0] [p] R:=by
 have ho:=hd.ord;have h8:=hd.l8;have h3:=hT.tm3 h8;have hb:=fW ps;have ao:=o8 ho;have dl:=BM ho hT hf;have p8:=vT (g:=g) ho hT h8;unfold mW;walk_at "d";walk_at "n";refine FB ho hz hk hT h8 ?_;walk_at "d";walk_at "n";refine LN ho hz h8 h3 (Mq ho hT h8) ?_;rw[fz (JR ho hT h8)];walk_at "d";refine Dp ho hz hT h8 ?_;unfold aE;walk_at "d";rw[cr yw];walk_at "n";refine vZ ho yw hz ?_;walk_at "d";walk_at "n";have pick:∀{r:Int},0<=r->r<(bJ ps).length->∃b,atI ((bJ ps).map aD) r=some (aD b)/\InBox ps b:=fun {r} r0 r1=>by
  obtain⟨d,ed,b,mb,rfl⟩:=oV (P:=fun d=>∃b:List Int,b∈bJ ps/\d=aD b) (ds:=(bJ ps).map aD) r0 (by simpa using r1) (fun d m=>by
   obtain⟨k,mk,rfl⟩:=mem_map.mp m;exact⟨_,mk,rfl⟩)
  exact⟨b,ed,eJ.mp mb⟩
 refine zE hp yw (vH yw yw) fun r p1 r0 r1 aj=>?_;obtain⟨x,ex,bx⟩:=pick r0 r1;walk_at "d";refine⟨_,ex,?_⟩;walk_at "d";walk_at "n";refine zE aj yw (vH yw yw) fun r2 p2 aa ai z=>?_;obtain⟨y,ey,yb⟩:=pick aa ai;walk_at "d";refine⟨_,ey,?_⟩;walk_at "d";walk_at "n";obtain⟨js,w,hL,am,hj⟩:=(sK (g:=g) ho hT).led bx;obtain⟨an,ag⟩:=(vY (g:=g) ho hT).led x bx;obtain⟨_,ew⟩:=hL.uniq ag;rw[vJ]at ew;refine A5 hL hj yw ?_;have af:dm (.str w) (.str "keeps")=bA g x:=by
  rw[ew];cases bA g x
  ·decide +kernel
  ·decide +kernel
 have ah:=Ek hL.word58;have sh:cv (.tuple [nlD js,.str w])=true:=(gL (n:=1) (Bq (v7 (uO fun _ _=>gP)) (xX (by rcases hL.word58 with rfl|rfl<;>decide +kernel)))).ok;have ae:∀j∈js,j<x.length:=fun j mj=>by rw[bx.len];exact hj j mj
 have al:∀j∈js,j<y.length:=fun j mj=>by rw[yb.len];exact hj j mj
 walk_at "d";walk_at "n";refine⟨ah,by decide +kernel,?_⟩;refine iI (by rw[bx.len];exact h3) ?_;rw[af];walk_at "d";refine seq1 ?_;unfold nlD;walk_at "d";refine cmp1 (S0:=[p2]) (h:=fun k:Nat=>bp k) (fun k:Nat=>.bool (decide (x.getD k 0=y.getD k 0))) rfl js yw ?_ ?_
 ·intro k mk u acc R' ab;have ac:=dF (f:=bp) (k7 (ae k mk));have ak:=dF (f:=bp) (k7 (al k mk));unfold aD;walk_at "d";refine⟨_,ac,_,ak,?_⟩;rw[e8];exact⟨rfl,rfl,ab _⟩
 ·walk_at "d";refine⟨js.map fun k=>decide (x.getD k 0=y.getD k 0),by rw[jj];rfl,?_⟩;by_cases hall:(js.map fun k=>decide (x.getD k 0=y.getD k 0)).all id=true
  ·rw[cy hall];have he:∀j∈js,x.getD j 0=y.getD j 0:=fun j mj=>by
    rw[all_map]at hall;exact mw (all_eq_true.mp hall j mj)
   refine A5 (hL.agree (by rw[bx.len,yb.len]) he) hj yw ?_;unfold nlD at sh ⊢;walk_at "d";refine⟨sh,sh,?_⟩;rw[SeqAt.eqv_refl _ (fx sh)];exact q _ z
  ·rw[cr hall];exact q _ z
end
theorem Hq{bs:List Bool}(h:(cR bs).length=1):∀x y,x∈bs->y∈bs->x=y:=by
 intro x y hx hy;unfold cR at h;by_cases h1:false∈bs
 ·by_cases h2:true∈bs
  ·rw[cy h1,cy h2]at h;cases h
  ·cases x
   ·cases y
    ·rfl
    ·exact absurd hy h2
   ·exact absurd hx h2
 ·cases x
  ·exact absurd hx h1
  ·cases y
   ·exact absurd hy h1
   ·rfl
theorem Gm(a:Addr)(n:Int):wC (BP a 8) ((some (.o (.ref a))::bh 8 none).set 1 (some (.d (.int n)))) []:=by
 unfold wC;walk_at "d"
 walk_at "n"
 refine Mr fun p hp=>?_;walk_at "d"
 walk_at "n"
 refine Lp hp dz dz fun ps p1 hd hs hk aq=>?_;walk_at "d"
 walk_at "n"
 refine LX aq hd fun g p2 hg ar=>?_;have l8:=hd.l8;have l1:=hd.l1;have ho:=hd.ord;have hT:=hg.ts;have h3:Tm3 ps.length g.ts:=hT.tm3 l8;walk_at "d"
 walk_at "n"
 refine Ix ho l8 hs h3 fun c hf=>?_;have hm:=hf.few.le;have ah:=GU hf.no;walk_at "d"
 walk_at "n"
 refine⟨ps.length,by unfold aF;walk_at "d",?_⟩;refine x9 (fh ps.length) [] p2 none ar (by simp;omega) fun pr p3 ao ap am=>?_;have ab:∀k∈pr,k<ps.length:=fun k m=>by
  rcases ap k m with z|z
  ·cases z
  ·exact mem_range.mp z
 have aa:pr.length<=100:=by simp at am;omega
 refine⟨[p3],_,rfl,rfl,?_⟩;walk_at "n";refine⟨ps.length,by unfold aF;walk_at "d",?_⟩;refine w6 (pr:=pr) (fh ps.length) [] p3 none ao (by simp;omega) fun mo p4 an aj ak al=>?_;have ag:∀k∈mo,k<ps.length:=fun k m=>by
  rcases aj k m with z|z
  ·cases z
  ·exact mem_range.mp z
 have q:mo.length<=100:=by simp at al;omega
 refine⟨[p4],_,rfl,rfl,?_⟩;show aA _ _ _ [_,_,_,_,_,_,some (.d (aE pr)),some (.d (aE mo)),_] _;have af:∀k∈pr,k∈mo:=fun k m=>ak k (.inr ⟨mem_range.mpr (ab k m),m⟩);walk_at "n";refine p9 ho yw hs h3 ab aa ?_;have ae:aA (aI (dOr (aY (aM (zI 3 jN (zc (zk 3) (zc (zk 4) (zc (zk 6) zq)))))) (aY (aM (zI 3 jN (zc (zk 3) (zc (zk 4) (zc (zk 7) zq))))))) (aC (dC (.bool false))) aH) (aA (aI (dOr (aY (aM (zI 3 oG (zc (zk 3) (zc (zk 4) (zc (zk 5) zq)))))) (aY (aM (zY 3 4 mW (zc (zk 3) (zc (zk 4) (zc (zk 5) (zc (zk 2) zq)))))))) (aC (dC (.bool false))) aH) (aA (aB (dCB gY (zc (bC [none,some 4] (aS (zI 1 g9 (zc (zk 3) zq))) (zm 0) aG (zI 2 eR (zc (zk 1) (zc (zk 0) zq)))) zq)) (zm 8)) (aI (eT (dB (dOp aU (dCB aV (zc (zk 8) zq)) (dC (.int 1)))) (dOr (dB (dOp cQ (zk 5) (aO zq))) (dB (dOp cQ (zI 1 lA (zc (zI 2 mE (zc (zk 3) (zc (zk 4) zq))) zq)) (dC (.int 0)))))) (aC (dC (.bool false))) aH))) (BP a 8) [some (.o (.ref a)),some (.d (.int n)),some (.l 0),some (.d (aF ps)),some (.d (bG g)),some (.d (aE c)),some (.d (aE pr)),some (.d (aE mo)),none] [p4]:=by
  walk_at "n";refine BC ho yw hs h3 ab aa ?_;walk_at "d";refine BC ho yw hs h3 ag q ?_;walk_at "d";walk_at "n";refine MB ho l8 hs h3 hf ?_;walk_at "d";refine ML hd hs hk hT an ah fun p5 as=>?_;walk_at "d";walk_at "n";refine vZ ho yw hs ?_;walk_at "d";have bl:=fW ps;refine cmp1 (S0:=[p5]) (h:=aD) (fun s=>.bool (bA g s)) rfl (bJ ps) yw ?_ ?_
  ·intro s ms u acc R' ai;have hb:=eJ.mp ms;walk_at "d";refine iI (by rw[hb.len];exact h3) ?_;walk_at "d";exact ai _
  ·walk_at "d";refine⟨(bJ ps).map fun s=>bA g s,by rw[jj];rfl,?_⟩;by_cases h1:((cR ((bJ ps).map fun s=>bA g s)).length:Int)=1
   ·rw[cy h1];have ac:=Hq (by omega:(cR ((bJ ps).map fun s=>bA g s)).length=1);have d0:Det ps g []:=fun x y hx hy _=>ac _ _ (mem_map.mpr ⟨x,eJ.mpr hx,rfl⟩) (mem_map.mpr ⟨y,eJ.mpr hy,rfl⟩);have c0:c=[]:=by
     have:¬ 0<c.length:=fun z=>by
      obtain⟨p,e⟩:=hf.few.all 0 z [] (by rw[KO ps.length yw];exact mem_singleton.mpr rfl);rw[GJ d0]at e;cases e
     exact df yw
    have pd:(plT ps g g.ts 0).1=0:=by
     have:=BM ho hT d0;simpa using this
    rw[c0];refine⟨rfl,rfl,?_⟩;rw[show dm (aE []) (.tuple [])=true from rfl,cr dz];refine FB ho hs hk hT l8 ?_;walk_at "d";refine Dp ho hs hT l8 ?_;rw[pd];walk_at "d"
   ·rw[cr h1];trivial
 cases hpn:(twF pr (zX ps g)).isNone with
 |true=>
  walk_at "d";refine p9 ho yw hs h3 ag q ?_;rw[show (twF mo (zX ps g)).isNone=true by rw[GJ ((GU (Option.isNone_iff_eq_none.mp hpn)).mono af)];rfl];walk_at "d";exact ae
 |false=>
  walk_at "d";exact ae
end
end My
namespace My
open PySem L2
def top (i : Nat) : Stmt := PySem.Challenge.pw_gaugewright_k60_whole_what_decides.main.body.getD i (.Pass ⟨0, 0, 0, 0⟩)
abbrev GR:Stmt:=top 45
theorem M4:FnScope ["script","k"] ["script","k"] (zf GR):=fsd
abbrev CD:Stmt:=top 47
theorem Do:FnScope ["cell","left"] ["cell"] (zf CD):=fsd
abbrev FU:Stmt:=top 46
theorem EO:FnScope ["seed"] ["seed"] (zf FU):=fsd
abbrev Dq:Stmt:=top 53
theorem iF:FnScope ["drawing","terms","least","most","part","times","ends"] ["drawing","terms"] (zf Dq):=fsd
abbrev wI:Stmt:=top 17
theorem J5:FnScope ["gap","one"] ["gap","one"] (zf wI):=fsd
abbrev Ce:Stmt:=top 7
theorem Ia:FnScope ["one"] ["one"] (zf Ce):=fsd
abbrev Bd:Stmt:=top 10
theorem Hv:FnScope ["part"] ["part"] (zf Bd):=fsd
abbrev yZ:Stmt:=top 15
theorem wW:FnScope ["beginnings","numbers","longer","beginning"] ["beginnings","numbers"] (zf yZ):=fsd
abbrev F2:Stmt:=top 21
theorem nC:FnScope ["choices","size","longer","choice","first","number"] ["choices","size"] (zf F2):=fsd
abbrev AI:Stmt:=top 27
theorem K7:FnScope ["one","parts"] ["one","parts"] (zf AI):=fsd
abbrev GM:Stmt:=top 4
theorem Ii:FnScope ["thing"] ["thing"] (zf GM):=fsd
abbrev Ci:Stmt:=top 38
theorem r9:FnScope ["plan","drawing","one","parts","at","part"] ["plan","drawing","one"] (zf Ci):=fsd
abbrev FG:Stmt:=top 37
theorem xQ:FnScope ["plans","found","plan"] ["plans"] (zf FG):=fsd
abbrev Co:Stmt:=top 48
theorem CU:FnScope ["pen","many","found"] ["pen","many"] (zf Co):=fsd
abbrev Cp:Stmt:=top 18
theorem M8:FnScope ["gap","one"] ["gap","one"] (zf Cp):=fsd
abbrev Cc:Stmt:=top 12
theorem tM:FnScope ["drawing","many","part"] ["drawing"] (zf Cc):=fsd
abbrev Ai:Stmt:=top 20
theorem sG:FnScope ["size","many","choices","step"] ["size","many"] (zf Ai):=fsd
abbrev Ba:Stmt:=top 26
theorem jZ:FnScope ["looks","parts","firsts","one","kept","seen","breaking"] ["looks","parts"] (zf Ba):=fsd
abbrev x6:Stmt:=top 11
theorem Lq:FnScope ["drawing","thing"] ["drawing","thing"] (zf x6):=fsd
abbrev A4:Stmt:=top 5
theorem HA:FnScope ["thing","numbers"] ["thing","numbers"] (zf A4):=fsd
abbrev Ev:Stmt:=top 41
theorem J8:FnScope ["drawing","thing"] ["drawing","thing"] (zf Ev):=fsd
abbrev x4:Stmt:=top 36
theorem pA:FnScope ["plan","deepest","left","asked"] ["plan"] (zf x4):=fsd
abbrev rO:Stmt:=top 51
theorem zW:FnScope ["pen","letters","way","first","names","word","at"] ["pen"] (zf rO):=fsd
abbrev Ds:Stmt:=top 49
theorem DU:FnScope ["pen","way"] ["pen"] (zf Ds):=fsd
abbrev Cy:Stmt:=top 54
theorem fV:FnScope ["pen","drawing","terms","part","times","least","most","wide","low","high"] ["pen","drawing"] (zf Cy):=fsd
abbrev Ca:Stmt:=top 13
theorem GQ:FnScope ["drawing","many"] ["drawing"] (zf Ca):=fsd
abbrev Bw:Stmt:=top 30
theorem Jp:FnScope ["drawing","many"] ["drawing","many"] (zf Bw):=fsd
abbrev EV:Stmt:=top 32
theorem OB:FnScope ["drawing","gap","parts","row"] ["drawing","gap","parts","row"] (zf EV):=fsd
abbrev AL:Stmt:=top 40
theorem oU:FnScope ["drawing","thing","left","asked","plan","measured"] ["drawing","thing"] (zf AL):=fsd
abbrev wJ:Stmt:=top 52
theorem jG:FnScope ["pen","most","names","wides","drawing","k","low"] ["pen","most"] (zf wJ):=fsd
abbrev FL:Stmt:=top 14
theorem sZ:FnScope ["drawing","beginnings","part"] ["drawing"] (zf FL):=fsd
abbrev wE:Stmt:=top 31
theorem BD:FnScope ["drawing","gap","many","thing","wanted"] ["drawing","gap","many","thing"] (zf wE):=fsd
abbrev AM:Stmt:=top 25
theorem Kq:FnScope ["drawing","gap"] ["drawing","gap"] (zf AM):=fsd
abbrev yV:Stmt:=top 39
theorem DL:FnScope ["drawing","gap","thing","sets"] ["drawing","gap","thing"] (zf yV):=fsd
abbrev Cs:Stmt:=top 28
theorem uY:FnScope ["drawing","gap","looks","many","parts"] ["drawing","gap"] (zf Cs):=fsd
abbrev C4:Stmt:=top 24
theorem Ie:FnScope ["drawing","gap","parts"] ["drawing","gap","parts"] (zf C4):=fsd
abbrev Fo:Stmt:=top 23
theorem KS:FnScope ["drawing","gap","parts"] ["drawing","gap","parts"] (zf Fo):=fsd
abbrev wA:Stmt:=top 29
theorem Fn:FnScope ["drawing","gap","looks"] ["drawing","gap"] (zf wA):=fsd
abbrev wX:Stmt:=top 56
theorem tJ:FnScope ["drawing","gap","parts","found","one","other"] ["drawing","gap","parts"] (zf wX):=fsd
abbrev xC:Stmt:=top 58
theorem uP:FnScope ["drawing","gap","few","left","witness","many"] ["drawing","gap","few"] (zf xC):=fsd
abbrev BT:Stmt:=top 42
theorem M0:FnScope ["drawing","gap"] ["drawing","gap"] (zf BT):=fsd
abbrev xP:Stmt:=top 57
theorem jC:FnScope ["drawing","gap","few","pen","plan","some","one","other","parts","word"] ["drawing","gap","few","pen"] (zf xP):=fsd
abbrev s_law:Stmt:=top 59
theorem gN:FnScope ["script","cell","pen","drawing","gap","few","parts","more","words"] ["script"] (zf s_law):=fsd
structure Txt(mg:Str->Option bb):Prop where
 n_tuple:mg "tuple" = none
 n_range:mg "range" = none
 n_len:mg "len" = none
 n_sorted:mg "sorted" = none
 n_set:mg "set" = none
 n_min:mg "min" = none
 n_max:mg "max" = none
 n_all:mg "all" = none
 n_int:mg "int" = none
 n_sum:mg "sum" = none
 n_isinstance:mg "isinstance" = none
 n_bool:mg "bool" = none
 n_zip:mg "zip" = none
 n_list:mg "list" = none
 g_MOST_SETS:∃t,mg "MOST_SETS" = some (.int 300 t)
structure Dds(K:cq)(mg:Str->Option bb):Prop where
 a0:Dd K mg "_law_cell_at" GR ["script","k"]
 a1:Dd K mg "_law_pen_of" CD ["cell"]
 a2:Dd K mg "_law_next" FU ["seed"]
 a3:Dd K mg "_law_ends_of" Dq ["drawing","terms"]
 a4:Dd K mg "worth_of" wI ["gap","one"]
 a5:Dd K mg "size_of" Ce ["one"]
 a6:Dd K mg "span_of" Bd ["part"]
 a7:Dd K mg "each_longer" yZ ["beginnings","numbers"]
 a8:Dd K mg "each_with_one_more" F2 ["choices","size"]
 a9:Dd K mg "numbers_at" AI ["one","parts"]
 a10:Dd K mg "is_whole" GM ["thing"]
 a11:Dd K mg "led" Ci ["plan","drawing","one"]
 a12:Dd K mg "unlike_ones" FG ["plans"]
 a13:Dd K mg "_law_draw" Co ["pen","many"]
 a14:Dd K mg "keeps" Cp ["gap","one"]
 a15:Dd K mg "how_many" Cc ["drawing"]
 a16:Dd K mg "choices_of" Ai ["size","many"]
 a17:Dd K mg "twins_among" Ba ["looks","parts"]
 a18:Dd K mg "is_set" x6 ["drawing","thing"]
 a19:Dd K mg "is_same" A4 ["thing","numbers"]
 a20:Dd K mg "is_measure" Ev ["drawing","thing"]
 a21:Dd K mg "depth" x4 ["plan"]
 a22:Dd K mg "_law_names_of" rO ["pen"]
 a23:Dd K mg "_law_number" Ds ["pen"]
 a24:Dd K mg "_law_gap_of" Cy ["pen","drawing"]
 a25:Dd K mg "refuse_too_many_sets" Ca ["drawing"]
 a26:Dd K mg "one_part_less" Bw ["drawing","many"]
 a27:Dd K mg "is_witness_row" EV ["drawing","gap","parts","row"]
 a28:Dd K mg "is_plan" AL ["drawing","thing"]
 a29:Dd K mg "_law_few_of" wJ ["pen","most"]
 a30:Dd K mg "all_sets" FL ["drawing"]
 a31:Dd K mg "witness_holds" wE ["drawing","gap","many","thing"]
 a32:Dd K mg "looked_at" AM ["drawing","gap"]
 a33:Dd K mg "plan_holds" yV ["drawing","gap","thing"]
 a34:Dd K mg "fewest" Cs ["drawing","gap"]
 a35:Dd K mg "twins" C4 ["drawing","gap","parts"]
 a36:Dd K mg "decides" Fo ["drawing","gap","parts"]
 a37:Dd K mg "witness_of" wA ["drawing","gap"]
 a38:Dd K mg "_law_twins_of" wX ["drawing","gap","parts"]
 a39:Dd K mg "_law_few_right" xC ["drawing","gap","few"]
 a40:Dd K mg "plan_of" BT ["drawing","gap"]
 a41:Dd K mg "_law_plan_of_it" xP ["drawing","gap","few","pen"]
 t_BREAKS:∃a,L2.TupG K mg "BREAKS" "breaks" a
 t_KEEPS:∃a,L2.TupG K mg "KEEPS" "keeps" a
abbrev s_Planner_least:Stmt:=tD (top 43) 1
theorem G9:FnScope ["self","terms","worth"] ["self","terms","worth"] (zf s_Planner_least):=fsd
abbrev s_Planner_best:Stmt:=tD (top 43) 2
theorem LM:FnScope ["self","terms","worth"] ["self","terms","worth"] (zf s_Planner_best):=fsd
abbrev s_Planner_measuring:Stmt:=tD (top 43) 3
theorem zV:FnScope ["self","terms","place","worth","part","span","others","worths","found","deepest"] ["self","terms","place","worth"] (zf s_Planner_measuring):=fsd
abbrev s_Planner_init:Stmt:=tD (top 43) 0
theorem Kj:FnScope ["self","drawing","gap"] ["self","drawing","gap"] (zf s_Planner_init):=fsd
structure PlK(K:cq)(mg:Str->Option bb)(C cc:Addr):Prop where
 c:Cls K C
 n_drawing:NoAttr K C "drawing"
 n_gap:NoAttr K C "gap"
 n_known:NoAttr K C "known"
 i:Dki K mg "Planner" C "Planner.__init__" s_Planner_init ["self","drawing","gap"]
 m_least:Dt K C "least" "Planner.least" s_Planner_least ["self","terms","worth"]
 m_measuring:Dt K C "measuring" "Planner.measuring" s_Planner_measuring ["self","terms","place","worth"]
 m_best:DtC K C "best" "Planner.best" s_Planner_best ["self","terms","worth"] cc
 tb:∃P',((cc,P'),L2.lamKey (("Planner.best" ++ ".<locals>.") ++ "<lambda>") ⟨171,93,0,0⟩)∈L2.tabsG
 kE:∃a,TupK mg "KEEPS" "keeps" a
 kB:∃a,TupK mg "BREAKS" "breaks" a
section
variable {P:cz}{w:fy}{K:cq}{mg:Str->Option bb}{base:Heap}
local macro_rules|`(tactic|walk_at "r")=>do
 let ts<-("zh 0,zj 2,zu 0,zS 0,zB 0,cL 2,aT 0,bH 2,bL 1,zG 2,zG 0,eU 0,eG 3,dX 1,iO 0,iC 2,lQ 0,lF 1,dQ 1,zj 0,cT 0,gJ 0,oK 2,mR 0,Gp 1,v6 3,lH 2,G6 1,qM 0,EG 0,bL 0,kC 0,kU 0,cB 1,sS 0,qD 1,Lz 0,Jd 0,cL 0,tL 1,tS 0,lM 0,iW 0,Mc 2,Gq 0,sD 3,LP 0,Jr 0,hJ 1,AB 2,eG 0,oJ 2,qD 0,sD 0,uT 0,HB 0,HK 2,LB 1,NN 0,v6 0,De 3,Jc 1,La 2,wH 5,oJ 0,uE 0,Ji 0,uG 4,vK 0,vG 1,tK 0,Ny 1,dX 0,OE 0,Le 0,El 0,Bz 0,Fh 1,uE 2,Bg 0,Ea 0,E3 0,Er 0,ND 1,DC 0,F5 0,IZ 0,Jl 0,Mz 2,Nb 0,MX 1,bH 1,Fp 0,Eo 0,zT 3,bX 2,gG 1,bX 0,zT 0".splitOn ",").toArray.mapM fun x=>do
  let i:=x.splitOn " "
  let h<-`(term|?_)
  let hs:=Array.replicate ((i.getD 1 "").toNat!) h
  `(Lean.Parser.Tactic.tacticSeq|refine $(Lean.mkIdent (i.getD 0 "").toName) $hs*)
 `(tactic|repeat' (first|with_reducible (first $[|$ts:tacticSeq]*)|rfl))
theorem K9(T:Txt mg:=by assumption)(dd:Dds K mg:=by assumption):Df P w K mg base "_law_cell_at" ["script","k"] 1 (sp2 (yR K)):=by
 refine Df.of2 dd.a0 M4 (fun v u=>[some v,some u]) (fun _ _=>rfl) fun f z A outer s H v u Q E hr h=>?_;obtain⟨a,ns,i,rfl,rfl,hS,h0,q⟩:=h;refine⟨_,(ze (aN (zR v4 (pv 1) (zv Hj (by rfl) T.n_len bI (za (pv 0) zd)) (nomark _)) (zn (zy (zD Bb (pv 0) (pv 1) (fun _ _=>rfl)))) zL) (zn (zy zg))),?_⟩;simp only[cH,tR,oY,tOp,Me,tCB,gZ,j7,qH,tC,wO,BZ,re,rf];refine⟨a,_,rfl,.inl hS,?_⟩;simp only[BZ,Nu,decide_eq_true_eq];refine ite2 (fun hi=>?_) (fun _=>q 0);obtain⟨n,e⟩:=KD h0 hi;exact⟨a,_,i,_,rfl,rfl,hS,e,q n⟩
variable (T:Txt mg:=by assumption) (dd:Dds K mg:=by assumption) (kk0:∃C cc,PlK K mg C cc:=by assumption)
include T dd kk0
theorem OK:Df P w K mg base "_law_pen_of" ["cell"] 1 (spN ["cell"] sW):=by
 exact Df.dN dd.a1 Do 1 rfl fun f z A outer s H E hr=>⟨_,_,(ze (zx (i:=1) Do.nd rfl lo (zv (GF rfl) (by rfl) T.n_max tF (za (pv 0) (za (zO fY zg (pv 0)) zd)))) (zn (zy (bO (za (pv 1) (za (iG Lj (by rfl) T.n_int CG (za (dW LC (pv 1) (zO uD zg zg) (nomark _)) zd)) (za (zO h9 (pv 1) zg) zd))))))),(by walk_at "r"),fun xs S R q=>q⟩
theorem Ct:Df P w K mg base "_law_next" ["seed"] 1 (spN ["seed"] p6):=by
 exact Df.dN dd.a2 EO 0 rfl fun f z A outer s H E hr=>⟨_,_,(ze (zx (i:=0) EO.nd rfl lo (zO h9 (zO zU (pv 0) zg) zg)) (zn (zy (zO h9 (zO zU (zO zU (zO dH (pv 0) (pv 0)) (zO dH zg (pv 0))) zg) zg)))),(by walk_at "r"),fun xs S R q=>q⟩
theorem M7:Df P w K mg base "_law_ends_of" ["drawing","terms"] 1 (spN ["drawing","terms"] uA):=by
 exact Df.dN dd.a3 iF 5 rfl fun f z A outer s H E hr=>⟨_,_,(ze (zx (i:=2) iF.nd rfl lo zg) (ze (zx (i:=3) iF.nd rfl lo zg) (ze (cV gi rfl (bK (pv 1)) (gR (n:=2) rfl (cN (zw (i:=4) iF.nd rfl (ig rfl)) (cN (zw (i:=5) iF.nd rfl (ig rfl)) gV))) (ze (zx (i:=6) iF.nd rfl lo (bO (za (zO dH (pv 5) (zD zr (zD zr (pv 0) (pv 4) (fun _ _=>rfl)) zg (fun _ _=>rfl))) (za (zO dH (pv 5) (zD zr (zD zr (pv 0) (pv 4) (fun _ _=>rfl)) zg (fun _ _=>rfl))) zd)))) (ze (zx (i:=2) iF.nd rfl lo (zO zU (pv 2) (zv (Jm rfl hr.units) (by rfl) T.n_min F6 (za (pv 6) zd)))) (zn (zx (i:=3) iF.nd rfl lo (zO zU (pv 3) (zv (Fd rfl) (by rfl) T.n_max tF (za (pv 6) zd)))))))) (zn (zy (aW (za (pv 2) (za (pv 3) zd)))))))),(by walk_at "r"),fun xs S R q=>q⟩
theorem LH:Df P w K mg base "worth_of" ["gap","one"] 1 (spN ["gap","one"] tY):=by
 exact Df.dN dd.a4 J5 0 rfl fun f z A outer s H E hr=>⟨_,_,(zn (zy (zv (MQ rfl) (by rfl) T.n_sum J7 (za (bV (fun _ _ h=>h) rfl (zH rfl rfl rfl rfl (N:=["part","times","one"]) (caps:=[none,none,some 1]) (by show bD ["gap","one"] (zf wI).names _ _ _=true;decide +kernel)) (bK (zD zr (pv 0) zg (fun _ _=>rfl))) (fun _ _ _ _=>(gR (n:=2) rfl (cN (zw (i:=0) (by show gl (["part","times","one"]:List Str);decide) rfl (ig rfl)) (cN (zw (i:=1) (by show gl (["part","times","one"]:List Str);decide) rfl (ig rfl)) gV)))) (fun _ _ _ _=>bP) (fun _ _ _ _=>(zO dH (pv 1) (zD zr (pv 2) (pv 0) (fun _ _=>rfl))))) zd)))),(bL (bX Bz (zj (bZ (cB (zT aT zh zS)) (tL (lH zB (lH zB tS))) bN (zT kU zh (zT aT zh zh))) zu))),fun xs S R q=>q⟩
theorem Au:Df P w K mg base "size_of" ["one"] 1 (spN ["one"] nQ):=by
 exact Df.dN dd.a5 Ia 0 rfl fun f z A outer s H E hr=>⟨_,_,(zn (zy (zO zU (zO fY (zD zr (pv 0) zg (fun _ _=>rfl)) (zD zr (pv 0) zg (fun _ _=>rfl))) zg))),(by walk_at "r"),fun xs S R q=>q⟩
theorem A8:Df P w K mg base "span_of" ["part"] 1 (spN ["part"] mF):=by
 exact Df.dN dd.a6 Hv 0 rfl fun f z A outer s H E hr=>⟨_,_,(zn (zy (aW (za (zD zr (pv 0) zg (fun _ _=>rfl)) (za (zD zr (pv 0) zg (fun _ _=>rfl)) zd))))),(by walk_at "r"),fun xs S R q=>q⟩
theorem Jo:Df P w K mg base "each_longer" ["beginnings","numbers"] 1 (spN ["beginnings","numbers"] uN):=by
 exact Df.dN dd.a7 wW 2 rfl fun f z A outer s H E hr=>⟨_,_,(ze (zx (i:=2) wW.nd rfl lo (bO zd)) (ze (cV gi rfl (bK (pv 0)) (zw (i:=3) wW.nd rfl (qw rfl)) (zn (eX (gT PySem.F.plainAttrs_list PySem.F.slot_list_extend PySem.F.type_list_extend Ad (pv 2) (za (bV (fun _ _ h=>h) rfl (zH rfl rfl rfl rfl (N:=["number","beginning"]) (caps:=[none,some 3]) (by show bD ["beginnings","numbers","longer","beginning"] (zf yZ).names _ _ _=true;decide +kernel)) (bK (pv 1)) (fun _ _ _ _=>(zw (i:=0) (by show gl (["number","beginning"]:List Str);decide) rfl (ig rfl))) (fun _ _ _ _=>bP) (fun _ _ _ _=>(zO zU (pv 1) (aW (za (pv 0) zd))))) zd))))) (zn (zy (pv 2))))),(zG (by walk_at "r") (zG (v6 (cB zh) zB (qD (sD uT zh (zj (bZ (cB zh) zB bN (zT cT zh (dQ (zj zh zu)))) zu)))) (bL zh))),fun xs S R q=>q⟩
theorem IJ:Df P w K mg base "each_with_one_more" ["choices","size"] 1 (spN ["choices","size"] v3):=by
 exact Df.dN dd.a8 nC 4 rfl fun f z A outer s H E hr=>⟨_,_,(ze (zx (i:=2) nC.nd rfl lo (bO zd)) (ze (cV gi rfl (bK (pv 0)) (zw (i:=3) nC.nd rfl (ig rfl)) (ze (zx (i:=4) nC.nd rfl lo (y8 (zM (pv 3) (fun _=>rfl)) (zO zU (zD zr (pv 3) (oH qT zg) (fun _ _=>rfl)) zg) zg)) (zn (cV gi rfl (CL rfl T.n_range (za (pv 4) (za (pv 1) zd))) (zw (i:=5) nC.nd rfl (ig rfl)) (zn (eX (gT PySem.F.plainAttrs_list PySem.F.slot_list_append PySem.F.type_list_append l6 (pv 2) (za (zO zU (pv 3) (aW (za (pv 5) zd))) zd)))))))) (zn (zy (pv 2))))),(by walk_at "r"),fun xs S R q=>q⟩
theorem yQ:Df P w K mg base "numbers_at" ["one","parts"] 1 (spN ["one","parts"] lJ):=by
 exact Df.dN dd.a9 K7 0 rfl fun f z A outer s H E hr=>⟨_,_,(zn (zy (iG kH (by rfl) T.n_tuple eZ (za (bV (fun _ _ h=>h) rfl (zH rfl rfl rfl rfl (N:=["part","one"]) (caps:=[none,some 0]) (by show bD ["one","parts"] (zf AI).names _ _ _=true;decide +kernel)) (bK (pv 1)) (fun _ _ _ _=>(zw (i:=0) (by show gl (["part","one"]:List Str);decide) rfl (ig rfl))) (fun _ _ _ _=>bP) (fun _ _ _ _=>(zD zr (pv 1) (pv 0) (fun _ _=>rfl)))) zd)))),(bL (bX lM (zj (bZ (cB zh) zB bN (zT aT zh zh)) zu))),fun xs S R q=>q⟩
theorem AO:Df P w K mg base "is_whole" ["thing"] 1 (spN ["thing"] iP):=by
 exact Df.dN dd.a10 Ii 0 rfl fun f z A outer s H E hr=>⟨_,_,(zn (zy (jW (zv iU (by rfl) T.n_isinstance i0 (za (pv 0) (za (iJ rfl T.n_int CG (v:=.ty "int") rfl) zd))) (qB (DK (zv iU (by rfl) T.n_isinstance i0 (za (pv 0) (za (iJ rfl T.n_bool OU (v:=.ty "bool") rfl) zd)))))))),(by walk_at "r"),fun xs S R q=>q⟩
theorem AC:Df P w K mg base "led" ["plan","drawing","one"] 1 (spN ["plan","drawing","one"] mJ):=by
 exact Df.dN dd.a11 r9 3 rfl fun f z A outer s H E hr=>⟨_,_,(ze (zx (i:=3) r9.nd rfl lo (bO zd)) (ze (zx (i:=4) r9.nd rfl lo (pv 0)) (ze (xR gi (zR (bY hr.units) (zD zr (pv 4) zg (fun _ _=>rfl)) c8 (nomark _)) (ze (zx (i:=5) r9.nd rfl lo (zD zr (pv 4) zg (fun _ _=>rfl))) (ze (eX (gT PySem.F.plainAttrs_list PySem.F.slot_list_append PySem.F.type_list_append l6 (pv 3) (za (pv 5) zd))) (zn (zx (i:=4) r9.nd rfl lo (zD zr (zD zr (pv 4) zg (fun _ _=>rfl)) (zO fY (zD zr (pv 2) (pv 5) (fun _ _=>rfl)) (zD zr (zD zr (pv 1) (pv 5) (fun _ _=>rfl)) zg (fun _ _=>rfl))) (fun _ _=>rfl))))))) (zn (zy (aW (za (pv 3) (za (zD zr (pv 4) zg (fun _ _=>rfl)) zd)))))))),(N1 (zG (OA (by walk_at "r")) (by walk_at "r"))),fun xs S R q=>q⟩
theorem JZ:Df P w K mg base "unlike_ones" ["plans"] 1 (spN ["plans"] vS):=by
 exact Df.dN dd.a12 xQ 2 rfl fun f z A outer s H E hr=>⟨_,_,(ze (zx (i:=1) xQ.nd rfl lo (bO zd)) (ze (cV gi rfl (bK (pv 0)) (zw (i:=2) xQ.nd rfl (ig rfl)) (zn (aN (zR (A2 hr.units) (pv 2) (pv 1) (by rfl)) (zn (eX (gT PySem.F.plainAttrs_list PySem.F.slot_list_append PySem.F.type_list_append l6 (pv 1) (za (pv 2) zd)))) zL))) (zn (zy (pv 1))))),(by walk_at "r"),fun xs S R q=>q⟩
theorem zQ:Df P w K mg base "_law_draw" ["pen","many"] 2 (spN ["pen","many"] zt):=by
 exact Df.dN dd.a13 CU 1 rfl fun f z A outer s H E hr=>⟨_,_,(ze (aN (zR (bY hr.units) (zD zr (pv 0) zg (fun _ _=>rfl)) zg (nomark _)) (ze (zx (i:=2) CU.nd rfl lo (zO h9 (zD zr (pv 0) zg (fun _ _=>rfl)) (pv 1))) (ze (pD (zO nF (zD zr (pv 0) zg (fun _ _=>rfl)) (pv 1)) (Dl (pv 0) zg Ah)) (zn (zy (pv 2))))) zL) (ze (pD (zo Ct hr dz (za (zO zU (zo Ct hr dz (za (zD zr (pv 0) zg (fun _ _=>rfl)) zd)) zg) zd)) (Dl (pv 0) zg Ah)) (zn (zy (zO h9 (zO nF (zD zr (pv 0) zg (fun _ _=>rfl)) zg) (pv 1)))))),(by walk_at "r"),fun xs S R q=>q⟩
theorem iZ:Df P w K mg base "keeps" ["gap","one"] 2 (spN ["gap","one"] eR):=by
 exact Df.dN dd.a14 M8 0 rfl fun f z A outer s H E hr=>⟨_,_,(zn (zy (GH jE jE (zD zr (pv 0) zg (fun _ _=>rfl)) (zo LH hr dz (za (pv 0) (za (pv 1) zd))) (zD zr (pv 0) zg (fun _ _=>rfl))))),(by walk_at "r"),fun xs S R q=>q⟩
theorem MW:Df P w K mg base "how_many" ["drawing"] 2 (spN ["drawing"] uS):=by
 exact Df.dN dd.a15 tM 2 rfl fun f z A outer s H E hr=>⟨_,_,(ze (zx (i:=1) tM.nd rfl lo zg) (ze (cV gi rfl (bK (pv 0)) (zw (i:=2) tM.nd rfl (ig rfl)) (zn (zx (i:=1) tM.nd rfl lo (zO dH (pv 1) (zo Au hr dz (za (zo A8 hr dz (za (pv 2) zd)) zd)))))) (zn (zy (pv 1))))),(by walk_at "r"),fun xs S R q=>q⟩
theorem DQ:Df P w K mg base "choices_of" ["size","many"] 2 (spN ["size","many"] pQ):=by
 exact Df.dN dd.a16 sG 2 rfl fun f z A outer s H E hr=>⟨_,_,(ze (zx (i:=2) sG.nd rfl lo (bO (za (aW zd) zd))) (ze (cV gi rfl (fA rfl T.n_range (za (pv 1) zd)) (zw (i:=3) sG.nd rfl (ig rfl)) (zn (zx (i:=2) sG.nd rfl lo (zo IJ hr dz (za (pv 2) (za (pv 0) zd)))))) (zn (zy (pv 2))))),(by walk_at "r"),fun xs S R q=>q⟩
theorem yF:Df P w K mg base "twins_among" ["looks","parts"] 2 (spN ["looks","parts"] mC):=by
 exact Df.dN dd.a17 jZ 5 rfl fun f z A outer s H E hr=>⟨_,_,(ze (zx (i:=2) jZ.nd rfl lo FO) (ze (cV gi rfl (bK (pv 0)) (gR (n:=2) rfl (cN (zw (i:=3) jZ.nd rfl (ig rfl)) (cN (zw (i:=4) jZ.nd rfl (ig rfl)) gV))) (zn (eX (Kc (g:=(.two (.many .int) .bool)) dz rfl hr.units (pv 2) (aW (za (zo yQ hr dz (za (pv 3) (za (pv 1) zd))) (za (pv 4) zd))) (pv 3) ⟨rfl,rfl,rfl,rfl⟩)))) (ze (cV gi rfl (JQ (pv 2) rfl rfl) (gR (n:=2) rfl (cN (zw (i:=5) jZ.nd rfl (ig rfl)) (cN (zw (i:=3) jZ.nd rfl (ig rfl)) gV))) (ze (zx (i:=6) jZ.nd rfl lo (Mv (g:=(.two (.many .int) .bool)) dz rfl hr.units (pv 2) (aW (za (zD zr (pv 5) zg (fun _ _=>rfl)) (za bR zd))) ⟨rfl,rfl,rfl,rfl⟩)) (zn (aN (PW.pt (pO (zM (zD zr (pv 5) zg (fun _ _=>rfl)) (fun _=>rfl)) (nH (zR MA (pv 6) nV (nomark _))))) (zn (zy (aW (za (pv 3) (za (pv 6) zd))))) zL)))) (zn (zy nV))))),(Ig (OQ (Bg (fD (Ih (fun M=>yJ (cB zh)) (by walk_at "r") (Ea rfl (fun M=>(cZ (by walk_at "r"))) (fun M=>(cZ zh)))) (E3 (by walk_at "r") (fD (Er (fun M=>(Hf (cZ zh) (cZ (by walk_at "r")))) zB) (fX (by walk_at "r"))))))) (bL DC)),fun xs S R q=>q⟩
theorem u0:Df P w K mg base "is_set" ["drawing","thing"] 2 (spN ["drawing","thing"] jU):=by
 exact Df.dN dd.a18 Lq 0 rfl fun f z A outer s H E hr=>⟨_,_,(ze (aN (PW.pt (c7 (cD (zM (zv iU (by rfl) T.n_isinstance i0 (za (pv 1) (za (iJ rfl T.n_tuple eZ (v:=.ty "tuple") rfl) zd))) (fun _=>rfl))) (e7 (zR (fQ hr.units) (zv zP (by rfl) T.n_len bI (za (pv 1) zd)) (zv zP (by rfl) T.n_len bI (za (pv 0) zd)) (nomark _))))) (zn (zy bR)) zL) (zn (zy (zv (jF rfl) (by rfl) T.n_all jQ (za (bV (fun _ _ h=>h) rfl (zH (L:=0) rfl rfl rfl rfl (N:=["number","part"]) (caps:=[none,none]) (by show bD ["drawing","thing"] (zf x6).names _ _ _=true;decide +kernel)) (B1 rfl T.n_zip (za (pv 1) (za (pv 0) zd))) (fun _ _ _ _=>(gR (n:=2) rfl (cN (zw (i:=0) (by show gl (["number","part"]:List Str);decide) rfl (ig rfl)) (cN (zw (i:=1) (by show gl (["number","part"]:List Str);decide) rfl (ig rfl)) gV)))) (fun _ _ _ _=>bP) (fun _ _ _ _=>(jW (zo AO hr dz (za (pv 0) zd)) (qB (GH jE jE (zD zr (pv 1) zg (fun _ _=>rfl)) (pv 0) (zD zr (pv 1) zg (fun _ _=>rfl))))))) zd))))),(zG (by walk_at "r") (bL (bX iW (zj (bZ (Dr (zj zh (zj zh zu))) (tL (lH zB (lH zB tS))) bN (oJ (bH (zj zh zu)) (wH qM qM (zT aT zh zS) zh (zT aT zh zS)))) zu)))),fun xs S R q=>q⟩
theorem N4:Df P w K mg base "is_same" ["thing","numbers"] 2 (spN ["thing","numbers"] tG):=by
 exact Df.dN dd.a19 HA 0 rfl fun f z A outer s H E hr=>⟨_,_,(zn (zy (jW (zv iU (by rfl) T.n_isinstance i0 (za (pv 0) (za (iJ rfl T.n_tuple eZ (v:=.ty "tuple") rfl) zd))) (jW (zv (jF rfl) (by rfl) T.n_all jQ (za (bV (fun _ _ h=>h) rfl (zH (L:=0) rfl rfl rfl rfl (N:=["number"]) (caps:=[none]) (by show bD ["thing","numbers"] (zf A4).names _ _ _=true;decide +kernel)) (bK (pv 0)) (fun _ _ _ _=>(zw (i:=0) (by show gl (["number"]:List Str);decide) rfl (ig rfl))) (fun _ _ _ _=>bP) (fun _ _ _ _=>(zo AO hr dz (za (pv 0) zd)))) zd)) (qB (dW (bY hr.units) (pv 0) (pv 1) (nomark _))))))),(bL (oJ (by walk_at "r") (oJ (bX iW (zj (bZ (cB zh) zB bN (bH (zj zh zu))) zu)) (by walk_at "r")))),fun xs S R q=>q⟩
theorem Go:Df P w K mg base "is_measure" ["drawing","thing"] 2 (spN ["drawing","thing"] tU):=by
 exact Df.dN dd.a20 J8 0 rfl fun f z A outer s H E hr=>⟨_,_,(ze (aN (PW.pt (c7 (cD (zM (zv iU (by rfl) T.n_isinstance i0 (za (pv 1) (za (iJ rfl T.n_tuple eZ (v:=.ty "tuple") rfl) zd))) (fun _=>rfl))) (c7 (zR (fQ hr.units) (zv zP (by rfl) T.n_len bI (za (pv 1) zd)) zg (nomark _)) (e7 (zR (fQ hr.units) (zD zr (pv 1) zg (fun _ _=>rfl)) c8 (nomark _)))))) (zn (zy bR)) zL) (ze (aN (PW.pt (c7 (cD (zM (zo AO hr dz (za (zD zr (pv 1) zg (fun _ _=>rfl)) zd)) (fun _=>rfl))) (e7 (cD (GB jE v4 zg (zD zr (pv 1) zg (fun _ _=>rfl)) (zv zP (by rfl) T.n_len bI (za (pv 0) zd))))))) (zn (zy bR)) zL) (zn (zy (jW (zv iU (by rfl) T.n_isinstance i0 (za (zD zr (pv 1) zg (fun _ _=>rfl)) (za (iJ rfl T.n_tuple eZ (v:=.ty "tuple") rfl) zd))) (qB (dW (bY hr.units) (zv zP (by rfl) T.n_len bI (za (zD zr (pv 1) zg (fun _ _=>rfl)) zd)) (zo Au hr dz (za (zo A8 hr dz (za (zD zr (pv 0) (zD zr (pv 1) zg (fun _ _=>rfl)) (fun _ _=>rfl)) zd)) zd)) (nomark _)))))))),(by walk_at "r"),fun xs S R q=>q⟩
theorem DP:Df P w K mg base "depth" ["plan"] 2 (spN ["plan"] lA):=by
 exact Df.dN dd.a21 pA 3 rfl fun f z A outer s H E hr=>⟨_,_,(ze (zx (i:=1) pA.nd rfl lo zg) (ze (zx (i:=2) pA.nd rfl lo (bO (za (aW (za (pv 0) (za zg zd))) zd))) (ze (xR gi (zM (pv 2) (fun _=>rfl)) (ze (zx (i:=3) pA.nd rfl (qw rfl) (y6 PySem.F.plainAttrs_list PySem.F.slot_list_pop PySem.F.type_list_pop FE (pv 2))) (ze (zx (i:=1) pA.nd rfl lo (zv (GF rfl) (by rfl) T.n_max tF (za (pv 1) (za (zD zr (pv 3) zg (fun _ _=>rfl)) zd)))) (zn (aN (zR (bY hr.units) (zD zr (zD zr (pv 3) zg (fun _ _=>rfl)) zg (fun _ _=>rfl)) c8 (nomark _)) (zn (eX (gT PySem.F.plainAttrs_list PySem.F.slot_list_extend PySem.F.type_list_extend Ad (pv 2) (za (bV (fun _ _ h=>h) rfl (zH rfl rfl rfl rfl (N:=["further","asked"]) (caps:=[none,some 3]) (by show bD ["plan","deepest","left","asked"] (zf x4).names _ _ _=true;decide +kernel)) (bK (zo JZ hr dz (za (zD zr (zD zr (pv 3) zg (fun _ _=>rfl)) zg (fun _ _=>rfl)) zd))) (fun _ _ _ _=>(zw (i:=0) (by show gl (["further","asked"]:List Str);decide) rfl (ig rfl))) (fun _ _ _ _=>bP) (fun _ _ _ _=>(aW (za (pv 0) (za (zO zU (zD zr (pv 1) zg (fun _ _=>rfl)) zg) zd))))) zd)))) zL))))) (zn (zy (pv 1)))))),(zG (cL zS zB) (zG (by walk_at "r") (zG (uE (dX zh) (zG (by walk_at "r") (zG (by walk_at "r") (eG (by walk_at "r") (qD (sD uT zh (zj (bZ (cB (bH (zj (zT aT (zT aT zh zS) zS) zu))) zB bN (dQ (zj zh (zj (zT cT (zT aT zh zS) zS) zu)))) zu))) eU)))) (bL zh)))),fun xs S R q=>q⟩
theorem Id:Df P w K mg base "_law_names_of" ["pen"] 3 (spN ["pen"] rC):=by
 exact Df.dN dd.a22 zW 6 rfl fun f z A outer s H E hr=>⟨_,_,(ze (zx (i:=1) zW.nd rfl (qw rfl) c8) (ze (zx (i:=2) zW.nd rfl lo (zo zQ hr dz (za (pv 0) (za zg zd)))) (ze (zx (i:=3) zW.nd rfl (qw rfl) (zo zQ hr dz (za (pv 0) (za zg zd)))) (ze (sU (i:=4) (fun _ _ h=>h) rfl (zH rfl rfl rfl rfl (N:=["k","letters","first"]) (caps:=[none,some 1,some 3]) (by show bD ["pen","letters","way","first","names","word","at"] (zf rO).names _ _ _=true;decide +kernel)) zW.nd rfl rfl (fA rfl T.n_range (za zg zd)) (fun _ _ _ _=>(zw (i:=0) (by show gl (["k","letters","first"]:List Str);decide) rfl (ig rfl))) (fun _ _ _ _=>bP) (fun _ _ _ _=>(zO dH (zD zr (pv 1) (zO h9 (zO zU (pv 2) (zO dH zg (pv 0))) zg) (fun _ _=>rfl)) (zO zU zg (zO h9 (zO zU (pv 2) (zO dH zg (pv 0))) zg))))) (ze (aN (zR (bY hr.units) (pv 2) zg (nomark _)) (ze (zx (i:=5) zW.nd rfl (qw rfl) (gT PySem.F.plainAttrs_str PySem.F.slot_str_join PySem.F.type_str_join Lf c8 (za (bV (fun _ _ h=>h) rfl (zH rfl rfl rfl rfl (N:=["k","letters","first"]) (caps:=[none,some 1,some 3]) (by show bD ["pen","letters","way","first","names","word","at"] (zf rO).names _ _ _=true;decide +kernel)) (fA rfl T.n_range (za zg zd)) (fun _ _ _ _=>(zw (i:=0) (by show gl (["k","letters","first"]:List Str);decide) rfl (ig rfl))) (fun _ _ _ _=>bP) (fun _ _ _ _=>(zD zr (pv 1) (zO h9 (zO zU (pv 2) (zO dH zg (pv 0))) zg) (fun _ _=>rfl)))) zd))) (zn (sU (i:=4) (fun _ _ h=>h) rfl (zH rfl rfl rfl rfl (N:=["k","word"]) (caps:=[none,some 5]) (by show bD ["pen","letters","way","first","names","word","at"] (zf rO).names _ _ _=true;decide +kernel)) zW.nd rfl rfl (fA rfl T.n_range (za zg zd)) (fun _ _ _ _=>(zw (i:=0) (by show gl (["k","word"]:List Str);decide) rfl (ig rfl))) (fun _ _ _ _=>bP) (fun _ _ _ _=>(lL rR (pv 1) rP (lB (zO zU (pv 0) zg))))))) zL) (ze (aN (zR (bY hr.units) (pv 2) zg (nomark _)) (zn (zx (i:=4) zW.nd rfl lo (bO (za c8 (za c8 (za c8 (za c8 (za c8 (za c8 (za c8 (za c8 zd))))))))))) zL) (ze (zx (i:=6) zW.nd rfl lo (zo zQ hr dz (za (pv 0) (za zg zd)))) (ze (zx (i:=4) zW.nd rfl lo (zO AZ (lL rR (pv 4) (lB (pv 6)) rP) (lL rR (pv 4) rP (lB (pv 6))))) (ze (aN (zR (bY hr.units) (zo zQ hr dz (za (pv 0) (za zg zd))) zg (nomark _)) (zn (eX (y6 PySem.F.plainAttrs_list PySem.F.slot_list_reverse PySem.F.type_list_reverse Hb (pv 4)))) zL) (zn (zy (pv 4)))))))))))),(zG (cL mR zB) (zG (by walk_at "r") (zG (by walk_at "r") (zG (cL (vU (hJ (zj zS zu)) zB bN (zT kU (zT aT zh (zT kC (zT cT zh (zT kU zS zh)) zS)) (zT cT zS (zT kC (zT cT zh (zT kU zS zh)) zS)))) zB) (zG (eG (by walk_at "r") (zG (cL (F5 Nq mR (zj (bZ (hJ (zj zS zu)) zB bN (zT aT zh (zT kC (zT cT zh (zT kU zS zh)) zS))) zu)) zB) (cL (vU (hJ (zj zS zu)) zB bN (uG vK zh tK (vG (zT cT zh zS)))) zB)) eU) (by walk_at "r")))))),fun xs S R q=>q⟩
theorem Hi:Df P w K mg base "_law_number" ["pen"] 3 (spN ["pen"] uC):=by
 exact Df.dN dd.a23 DU 1 rfl fun f z A outer s H E hr=>⟨_,_,(ze (zx (i:=1) DU.nd rfl lo (zo zQ hr dz (za (pv 0) (za zg zd)))) (ze (aN (zR v4 (pv 1) zg (nomark _)) (zn (zy (zO fY (zo zQ hr dz (za (pv 0) (za zg zd))) zg))) zL) (ze (aN (zR v4 (pv 1) zg (nomark _)) (zn (zy (zO fY (zo zQ hr dz (za (pv 0) (za zg zd))) zg))) zL) (zn (zy (zO dH (zO fY (zo zQ hr dz (za (pv 0) (za (zO dH zg (zO uD zg zg)) zd))) (zO uD zg zg)) (zO uD zg zg))))))),(by walk_at "r"),fun xs S R q=>q⟩
theorem LI:Df P w K mg base "_law_gap_of" ["pen","drawing"] 3 (spN ["pen","drawing"] sQ):=by
 exact Df.dN dd.a24 fV 8 rfl fun f z A outer s H E hr=>⟨_,_,(ze (zx (i:=2) fV.nd rfl lo (bO zd)) (ze (cV gi rfl (fA rfl T.n_range (za (zv zP (by rfl) T.n_len bI (za (pv 1) zd)) zd)) (zw (i:=3) fV.nd rfl (ig rfl)) (ze (zx (i:=4) fV.nd rfl lo (zO fY (zo zQ hr dz (za (pv 0) (za zg zd))) zg)) (zn (aN (zR (A2 hr.units) (pv 4) (aW (za (oH qT zg) (za zg (za zg zd)))) (by rfl)) (zn (eX (gT PySem.F.plainAttrs_list PySem.F.slot_list_append PySem.F.type_list_append l6 (pv 2) (za (aW (za (pv 3) (za (pv 4) zd))) zd)))) zL)))) (ze (aN (zR (bY hr.units) (pv 2) (bO zd) (nomark _)) (zn (zx (i:=2) fV.nd rfl lo (bO (za (aW (za (zo zQ hr dz (za (pv 0) (za (zv zP (by rfl) T.n_len bI (za (pv 1) zd)) zd))) (za (zD zr (bO (za zg (za (oH qT zg) (za zg (za (oH qT zg) zd))))) (zo zQ hr dz (za (pv 0) (za zg zd))) (fun _ _=>rfl)) zd))) zd)))) zL) (ze (pD (zo M7 hr dz (za (pv 1) (za (pv 2) zd))) (gR (n:=2) rfl (cN (zw (i:=5) fV.nd rfl (ig rfl)) (cN (zw (i:=6) fV.nd rfl (ig rfl)) gV)))) (ze (zx (i:=7) fV.nd rfl lo (zO fY (pv 6) (pv 5))) (ze (zx (i:=8) fV.nd rfl lo (zO zU (pv 5) (zD zr (CA (eW zg (eW zg (eW (oH qT zg) (eW (zO nF (pv 7) zg) (eW (zO nF (pv 7) zg) (eW (zO zU (pv 7) zg) FJ))))))) (zo zQ hr dz (za (pv 0) (za zg zd))) (fun _ _=>rfl)))) (ze (zx (i:=9) fV.nd rfl lo (zO zU (pv 8) (zD zr (CA (eW zg (eW zg (eW zg (eW (zO nF (pv 7) zg) (eW (pv 7) (eW (zO zU (pv 7) zg) FJ))))))) (zo zQ hr dz (za (pv 0) (za zg zd))) (fun _ _=>rfl)))) (zn (zy (aW (za (iG kH (by rfl) T.n_tuple eZ (za (pv 2) zd)) (za (pv 8) (za (pv 9) zd))))))))))))),(by walk_at "r"),fun xs S R q=>q⟩
theorem FK:Df P w K mg base "refuse_too_many_sets" ["drawing"] 3 (spN ["drawing"] oQ):=by
 exact Df.dN dd.a25 GQ 1 rfl fun f z A outer s H E hr=>⟨_,_,(ze (zx (i:=1) GQ.nd rfl lo (zo MW hr dz (za (pv 0) zd))) (zn (aN (zR uZ (pv 1) (Kr rfl T.g_MOST_SETS) (nomark _)) (zn L8) zL))),(by walk_at "r"),fun xs S R q=>q⟩
theorem Cl:Df P w K mg base "one_part_less" ["drawing","many"] 3 (spN ["drawing","many"] nP):=by
 exact Df.dN dd.a26 Jp 0 rfl fun f z A outer s H E hr=>⟨_,_,(zn (zy (y8 (zR uZ (pv 1) zg (nomark _)) (zo DQ hr dz (za (zv zP (by rfl) T.n_len bI (za (pv 0) zd)) (za (zO fY (pv 1) zg) zd))) (bO zd)))),(by walk_at "r"),fun xs S R q=>q⟩
theorem Mo:Df P w K mg base "is_witness_row" ["drawing","gap","parts","row"] 3 (spN ["drawing","gap","parts","row"] uH):=by
 exact Df.dN dd.a27 OB 0 rfl fun f z A outer s H E hr=>⟨_,_,(ze (aN (PW.pt (c7 (cD (zM (zv iU (by rfl) T.n_isinstance i0 (za (pv 3) (za (iJ rfl T.n_tuple eZ (v:=.ty "tuple") rfl) zd))) (fun _=>rfl))) (c7 (zR (fQ hr.units) (zv zP (by rfl) T.n_len bI (za (pv 3) zd)) zg (nomark _)) (e7 (cD (zM (zo N4 hr dz (za (zD zr (pv 3) zg (fun _ _=>rfl)) (za (pv 2) zd))) (fun _=>rfl))))))) (zn (zy bR)) zL) (ze (aN (PW.pt (c7 (cD (zM (zo u0 hr dz (za (pv 0) (za (zD zr (pv 3) zg (fun _ _=>rfl)) zd))) (fun _=>rfl))) (e7 (cD (zM (zo u0 hr dz (za (pv 0) (za (zD zr (pv 3) zg (fun _ _=>rfl)) zd))) (fun _=>rfl)))))) (zn (zy bR)) zL) (zn (zy (jW (dW (bY hr.units) (zo yQ hr dz (za (zD zr (pv 3) zg (fun _ _=>rfl)) (za (pv 2) zd))) (zo yQ hr dz (za (zD zr (pv 3) zg (fun _ _=>rfl)) (za (pv 2) zd))) (nomark _)) (jW (zo iZ hr dz (za (pv 1) (za (zD zr (pv 3) zg (fun _ _=>rfl)) zd))) (qB (DK (zo iZ hr dz (za (pv 1) (za (zD zr (pv 3) zg (fun _ _=>rfl)) zd))))))))))),(by walk_at "r"),fun xs S R q=>q⟩
theorem Kb:Df P w K mg base "is_plan" ["drawing","thing"] 3 (spN ["drawing","thing"] uJ):=by
 obtain⟨z,t_BREAKS⟩:=dd.t_BREAKS;obtain⟨aa,t_KEEPS⟩:=dd.t_KEEPS;exact Df.dN dd.a28 oU 4 rfl fun f ab A outer s H E hr=>⟨_,_,(ze (zx (i:=2) oU.nd rfl lo (bO (za (aW (za (pv 1) (za (aW zd) zd))) zd))) (ze (xR gi (zM (pv 2) (fun _=>rfl)) (ze (zx (i:=3) oU.nd rfl lo (y6 PySem.F.plainAttrs_list PySem.F.slot_list_pop PySem.F.type_list_pop FE (pv 2))) (ze (zx (i:=4) oU.nd rfl (qw rfl) (zD zr (pv 3) zg (fun _ _=>rfl))) (ze (zx (i:=5) oU.nd rfl (qw rfl) (zD zr (pv 3) zg (fun _ _=>rfl))) (zn (aN (PW.pt (pO (zM (zo Go hr dz (za (pv 0) (za (pv 4) zd))) (fun _=>rfl)) (nH (zR (A2 hr.units) (zD zr (pv 4) zg (fun _ _=>rfl)) (pv 5) (by rfl))))) (zn (eX (gT PySem.F.plainAttrs_list PySem.F.slot_list_extend PySem.F.type_list_extend Ad (pv 2) (za (bV (fun _ _ h=>h) rfl (zH rfl rfl rfl rfl (N:=["further","measured","plan"]) (caps:=[none,some 5,some 4]) (by show bD ["drawing","thing","left","asked","plan","measured"] (zf AL).names _ _ _=true;decide +kernel)) (bK (zD zr (pv 4) zg (fun _ _=>rfl))) (fun _ _ _ _=>(zw (i:=0) (by show gl (["further","measured","plan"]:List Str);decide) rfl (ig rfl))) (fun _ _ _ _=>bP) (fun _ _ _ _=>(aW (za (pv 0) (za (zO zU (pv 1) (aW (za (zD zr (pv 2) zg (fun _ _=>rfl)) zd))) zd))))) zd)))) (zn (aN (PW.pt (pO (zR (EM t_KEEPS (by decide +kernel) hr.units) (pv 4) (sY (v:=.ref aa) rfl t_KEEPS.1 rfl) (nomark _)) (nH (zR (EM t_BREAKS (by decide +kernel) hr.units) (pv 4) (sY (v:=.ref z) rfl t_BREAKS.1 rfl) (nomark _))))) (zn (zy bR)) zL)))))))) (zn (zy bR)))),(zG (by walk_at "r") (zG (uE (dX zh) (zG (by walk_at "r") (zG (by walk_at "r") (zG (by walk_at "r") (eG (by walk_at "r") (qD (sD uT zh (zj (bZ (cB (zT aT zh zS)) zB bN (dQ (zj zh (zj (zT cT zh (dQ (zj (zT aT zh zS) zu))) zu)))) zu))) (by walk_at "r")))))) (bL iO))),fun xs S R q=>q⟩
theorem OG:Df P w K mg base "_law_few_of" ["pen","most"] 4 (spN ["pen","most"] xK):=by
 exact Df.dN dd.a29 jG 5 rfl fun f z A outer s H E hr=>⟨_,_,(ze (zx (i:=2) jG.nd rfl lo (zo Id hr dz (za (pv 0) zd))) (ze (sU (i:=3) (fun _ _ h=>h) rfl (zH rfl rfl rfl rfl (N:=["k","pen"]) (caps:=[none,some 0]) (by show bD ["pen","most","names","wides","drawing","k","low"] (zf wJ).names _ _ _=true;decide +kernel)) jG.nd rfl rfl (fA rfl T.n_range (za (zO zU zg (zo zQ hr dz (za (pv 0) (za (pv 1) zd)))) zd)) (fun _ _ _ _=>(zw (i:=0) (by show gl (["k","pen"]:List Str);decide) rfl (ig rfl))) (fun _ _ _ _=>bP) (fun _ _ _ _=>(zO zU zg (zo zQ hr dz (za (pv 1) (za zg zd)))))) (ze (aN (zR (bY hr.units) (zo zQ hr dz (za (pv 0) (za zg zd))) zg (nomark _)) (zn (zx (i:=3) jG.nd rfl lo (zD zr (bO (za (zO dH (bO (za zg zd)) zg) (za (bO (za zg (za zg zd))) (za (bO (za zg zd)) (za (zO dH (bO (za zg zd)) zg) zd))))) (zo zQ hr dz (za (pv 0) (za zg zd))) (fun _ _=>rfl)))) zL) (ze (zx (i:=4) jG.nd rfl lo (bO zd)) (ze (cV gi rfl (fA rfl T.n_range (za (zv zP (by rfl) T.n_len bI (za (pv 3) zd)) zd)) (zw (i:=5) jG.nd rfl (ig rfl)) (ze (zx (i:=6) jG.nd rfl lo (zo Hi hr dz (za (pv 0) zd))) (zn (eX (gT PySem.F.plainAttrs_list PySem.F.slot_list_append PySem.F.type_list_append l6 (pv 4) (za (aW (za (zD zr (pv 2) (pv 5) (fun _ _=>rfl)) (za (pv 6) (za (zO fY (zO zU (pv 6) (zD zr (pv 3) (pv 5) (fun _ _=>rfl))) zg) zd)))) zd)))))) (zn (zy (iG kH (by rfl) T.n_tuple eZ (za (pv 4) zd))))))))),(zG (by walk_at "r") (zG (cL (bZ (hJ (zj (zT cT zS (iC (i:=0) (zj zh (zj zh zu)))) zu)) zB bN (zT cT zS (iC (i:=0) (zj zh (zj zS zu))))) zB) (by walk_at "r"))),fun xs S R q=>q⟩
theorem sF:Df P w K mg base "all_sets" ["drawing"] 4 (spN ["drawing"] g9):=by
 exact Df.dN dd.a30 sZ 2 rfl fun f z A outer s H E hr=>⟨_,_,(ze (eX (zo FK hr dz (za (pv 0) zd))) (ze (zx (i:=1) sZ.nd rfl lo (bO (za (aW zd) zd))) (ze (cV gi rfl (bK (pv 0)) (zw (i:=2) sZ.nd rfl (ig rfl)) (zn (zx (i:=1) sZ.nd rfl lo (zo Jo hr dz (za (pv 1) (za (NC rfl rfl T.n_list rfl T.n_range (za (zD zr (pv 2) zg (fun _ _=>rfl)) (za (zO zU (zD zr (pv 2) zg (fun _ _=>rfl)) zg) zd))) zd)))))) (zn (zy (pv 1)))))),(by walk_at "r"),fun xs S R q=>q⟩
theorem LF:Df P w K mg base "witness_holds" ["drawing","gap","many","thing"] 4 (spN ["drawing","gap","many","thing"] tV):=by
 exact Df.dN dd.a31 BD 1 rfl fun f z A outer s H E hr=>⟨_,_,(ze (aN (PW.pt (c7 (cD (zM (zv iU (by rfl) T.n_isinstance i0 (za (pv 3) (za (iJ rfl T.n_list EY (v:=.ty "list") rfl) zd))) (fun _=>rfl))) (e7 (zR uZ (pv 2) (zO zU (zv zP (by rfl) T.n_len bI (za (pv 0) zd)) zg) (nomark _))))) (zn (zy bR)) zL) (ze (zx (i:=4) BD.nd rfl lo (zo Cl hr dz (za (pv 0) (za (pv 2) zd)))) (ze (aN (zR (fQ hr.units) (zv zP (by rfl) T.n_len bI (za (pv 3) zd)) (zv zP (by rfl) T.n_len bI (za (pv 4) zd)) (nomark _)) (zn (zy bR)) zL) (zn (zy (zv (jF rfl) (by rfl) T.n_all jQ (za (bV (fun _ _ h=>h) rfl (zH rfl rfl rfl rfl (N:=["parts","row","drawing","gap"]) (caps:=[none,none,some 0,some 1]) (by show bD ["drawing","gap","many","thing","wanted"] (zf wE).names _ _ _=true;decide +kernel)) (B1 rfl T.n_zip (za (pv 4) (za (pv 3) zd))) (fun _ _ _ _=>(gR (n:=2) rfl (cN (zw (i:=0) (by show gl (["parts","row","drawing","gap"]:List Str);decide) rfl (ig rfl)) (cN (zw (i:=1) (by show gl (["parts","row","drawing","gap"]:List Str);decide) rfl (ig rfl)) gV)))) (fun _ _ _ _=>bP) (fun _ _ _ _=>(zo Mo hr dz (za (pv 2) (za (pv 3) (za (pv 0) (za (pv 1) zd))))))) zd))))))),(zG (by walk_at "r") (zG (by walk_at "r") (zG (by walk_at "r") (bL (bX iW (zj (bZ (Dr (zj zh (zj zh zu))) (tL (lH zB (lH zB tS))) bN (bH (zj zh (zj zh (zj zh (zj zh zu)))))) zu)))))),fun xs S R q=>q⟩
theorem xU:Df P w K mg base "looked_at" ["drawing","gap"] 5 (spN ["drawing","gap"] l5):=by
 exact Df.dN dd.a32 Kq 0 rfl fun f z A outer s H E hr=>⟨_,_,(zn (zy (bV (fun _ _ h=>h) rfl (zH rfl rfl rfl rfl (N:=["one","gap"]) (caps:=[none,some 1]) (by show bD ["drawing","gap"] (zf AM).names _ _ _=true;decide +kernel)) (bK (zo sF hr dz (za (pv 0) zd))) (fun _ _ _ _=>(zw (i:=0) (by show gl (["one","gap"]:List Str);decide) rfl (ig rfl))) (fun _ _ _ _=>bP) (fun _ _ _ _=>(aW (za (pv 0) (za (zo iZ hr dz (za (pv 1) (za (pv 0) zd))) zd))))))),(bL (vU (cB (bH (zj zh zu))) zB bN (dQ (zj zh (zj (bH (zj zh (zj zh zu))) zu))))),fun xs S R q=>q⟩
theorem JN:Df P w K mg base "plan_holds" ["drawing","gap","thing"] 5 (spN ["drawing","gap","thing"] vW):=by
 exact Df.dN dd.a33 DL 1 rfl fun f z A outer s H E hr=>⟨_,_,(ze (zx (i:=3) DL.nd rfl lo (zo sF hr dz (za (pv 0) zd))) (ze (aN (cD (zM (zo Kb hr dz (za (pv 0) (za (pv 2) zd))) (fun _=>rfl))) (zn (zy bR)) zL) (zn (zy (zv (jF rfl) (by rfl) T.n_all jQ (za (bV (fun _ _ h=>h) rfl (zH rfl rfl rfl rfl (N:=["one","gap","thing","drawing"]) (caps:=[none,some 1,some 2,some 0]) (by show bD ["drawing","gap","thing","sets"] (zf yV).names _ _ _=true;decide +kernel)) (bK (pv 3)) (fun _ _ _ _=>(zw (i:=0) (by show gl (["one","gap","thing","drawing"]:List Str);decide) rfl (ig rfl))) (fun _ _ _ _=>bP) (fun _ _ _ _=>(dW (bY hr.units) (dW (bY hr.units) (zD zr (zo AC hr dz (za (pv 2) (za (pv 3) (za (pv 0) zd)))) zg (fun _ _=>rfl)) c8 (nomark _)) (zo iZ hr dz (za (pv 1) (za (pv 0) zd))) (nomark _)))) zd)))))),(zG (by walk_at "r") (zG (by walk_at "r") (bL (bX iW (zj (bZ (cB zh) zB bN (zT gJ (zT gJ (zT aT (bH (zj zh (zj zh (zj zh zu)))) zS) mR) (bH (zj zh (zj zh zu))))) zu))))),fun xs S R q=>q⟩
theorem ES:Df P w K mg base "fewest" ["drawing","gap"] 6 (spN ["drawing","gap"] kA):=by
 exact Df.dN dd.a34 uY 3 rfl fun f z A outer s H E hr=>⟨_,_,(ze (zx (i:=2) uY.nd rfl lo (zo xU hr dz (za (pv 0) (za (pv 1) zd)))) (zn (cV gi rfl (fA rfl T.n_range (za (zO zU (zv zP (by rfl) T.n_len bI (za (pv 0) zd)) zg) zd)) (zw (i:=3) uY.nd rfl (ig rfl)) (zn (cV gi rfl (bK (zo DQ hr dz (za (zv zP (by rfl) T.n_len bI (za (pv 0) zd)) (za (pv 3) zd)))) (zw (i:=4) uY.nd rfl (ig rfl)) (zn (aN (zR xY (zo yF hr dz (za (pv 2) (za (pv 4) zd))) nV (nomark _)) (zn (zy (pv 4))) zL))))))),(by walk_at "r"),fun xs S R q=>q⟩
theorem Bv:Df P w K mg base "twins" ["drawing","gap","parts"] 6 (spN ["drawing","gap","parts"] qI):=by
 exact Df.dN dd.a35 Ie 0 rfl fun f z A outer s H E hr=>⟨_,_,(zn (zy (zo yF hr dz (za (zo xU hr dz (za (pv 0) (za (pv 1) zd))) (za (pv 2) zd))))),(by walk_at "r"),fun xs S R q=>q⟩
theorem nK:Df P w K mg base "decides" ["drawing","gap","parts"] 7 (spN ["drawing","gap","parts"] f8):=by
 exact Df.dN dd.a36 KS 0 rfl fun f z A outer s H E hr=>⟨_,_,(zn (zy (dW xY (zo Bv hr dz (za (pv 0) (za (pv 1) (za (pv 2) zd)))) nV (nomark _)))),(by walk_at "r"),fun xs S R q=>q⟩
theorem LZ:Df P w K mg base "witness_of" ["drawing","gap"] 7 (spN ["drawing","gap"] uR):=by
 exact Df.dN dd.a37 Fn 1 rfl fun f z A outer s H E hr=>⟨_,_,(ze (zx (i:=2) Fn.nd rfl (qw rfl) (zo xU hr dz (za (pv 0) (za (pv 1) zd)))) (zn (zy (bV (fun _ _ h=>h) rfl (zH rfl rfl rfl rfl (N:=["parts","looks"]) (caps:=[none,some 2]) (by show bD ["drawing","gap","looks"] (zf wA).names _ _ _=true;decide +kernel)) (bK (zo Cl hr dz (za (pv 0) (za (zv zP (by rfl) T.n_len bI (za (zo ES hr dz (za (pv 0) (za (pv 1) zd))) zd)) zd)))) (fun _ _ _ _=>(zw (i:=0) (by show gl (["parts","looks"]:List Str);decide) rfl (ig rfl))) (fun _ _ _ _=>bP) (fun _ _ _ _=>(zO zU (aW (za (pv 0) zd)) (zo yF hr dz (za (pv 1) (za (pv 0) zd))))))))),(zG (by walk_at "r") (bL (vU (cB (bH (zj zh (zj (bX lQ (zj (bH (zj zh (zj zh zu))) zu)) zu)))) zB bN (zT cT (dQ (zj zh zu)) (bH (zj zh (zj zh zu))))))),fun xs S R q=>q⟩
theorem Aw:Df P w K mg base "_law_twins_of" ["drawing","gap","parts"] 8 (spN ["drawing","gap","parts"] jN):=by
 exact Df.dN dd.a38 tJ 3 rfl fun f z A outer s H E hr=>⟨_,_,(ze (zx (i:=3) tJ.nd rfl lo (zo Bv hr dz (za (pv 0) (za (pv 1) (za (pv 2) zd))))) (ze (aN (zM (zo nK hr dz (za (pv 0) (za (pv 1) (za (pv 2) zd)))) (fun _=>rfl)) (zn (zy (dW xY (pv 3) nV (nomark _)))) zL) (ze (pD (pv 3) (gR (n:=2) rfl (cN (zw (i:=4) tJ.nd rfl (qw rfl)) (cN (zw (i:=5) tJ.nd rfl (qw rfl)) gV)))) (ze (aN (PW.pt (c7 (cD (zM (zo u0 hr dz (za (pv 0) (za (pv 4) zd))) (fun _=>rfl))) (c7 (cD (zM (zo u0 hr dz (za (pv 0) (za (pv 5) zd))) (fun _=>rfl))) (c7 (cD (zM (zo iZ hr dz (za (pv 1) (za (pv 4) zd))) (fun _=>rfl))) (e7 (zM (zo iZ hr dz (za (pv 1) (za (pv 5) zd))) (fun _=>rfl))))))) (zn (zy bR)) zL) (zn (zy (zv (jF rfl) (by rfl) T.n_all jQ (za (bV (fun _ _ h=>h) rfl (zH rfl rfl rfl rfl (N:=["part","one","other"]) (caps:=[none,some 4,some 5]) (by show bD ["drawing","gap","parts","found","one","other"] (zf wX).names _ _ _=true;decide +kernel)) (bK (pv 2)) (fun _ _ _ _=>(zw (i:=0) (by show gl (["part","one","other"]:List Str);decide) rfl (ig rfl))) (fun _ _ _ _=>bP) (fun _ _ _ _=>(dW (bY hr.units) (zD zr (pv 1) (pv 0) (fun _ _=>rfl)) (zD zr (pv 2) (pv 0) (fun _ _=>rfl)) (nomark _)))) zd)))))))),(zG (by walk_at "r") (zG (by walk_at "r") (zG (by walk_at "r") (zG (by walk_at "r") (bL (bX iW (zj (bZ (cB zh) zB bN (zT gJ (zT aT zh zh) (zT aT zh zh))) zu))))))),fun xs S R q=>q⟩
theorem OH:Df P w K mg base "_law_few_right" ["drawing","gap","few"] 8 (spN ["drawing","gap","few"] oG):=by
 exact Df.dN dd.a39 uP 3 rfl fun f z A outer s H E hr=>⟨_,_,(ze (aN (cD (zM (zo nK hr dz (za (pv 0) (za (pv 1) (za (pv 2) zd)))) (fun _=>rfl))) (zn (zy bR)) zL) (ze (cV gi rfl (bK (pv 2)) (zw (i:=3) uP.nd rfl (qw rfl)) (zn (aN (zM (zo nK hr dz (za (pv 0) (za (pv 1) (za (iG kH (by rfl) T.n_tuple eZ (za (bV (fun _ _ h=>h) rfl (zH rfl rfl rfl rfl (N:=["part","left"]) (caps:=[none,some 3]) (by show bD ["drawing","gap","few","left","witness","many"] (zf xC).names _ _ _=true;decide +kernel)) (bK (pv 2)) (fun _ _ _ _=>(zw (i:=0) (by show gl (["part","left"]:List Str);decide) rfl (ig rfl))) (fun _ _ _ _=>(xF (zR (fQ hr.units) (pv 0) (pv 1) (nomark _)))) (fun _ _ _ _=>(pv 0))) zd)) zd)))) (fun _=>rfl)) (zn (zy bR)) zL))) (ze (zx (i:=4) uP.nd rfl lo (zo LZ hr dz (za (pv 0) (za (pv 1) zd)))) (ze (cV gi rfl (fA rfl T.n_range (za (zO zU (zv zP (by rfl) T.n_len bI (za (pv 0) zd)) zg) zd)) (zw (i:=5) uP.nd rfl (ig rfl)) (zn (aN (zR (fQ hr.units) (zo LF hr dz (za (pv 0) (za (pv 1) (za (pv 5) (za (pv 4) zd))))) (dW (bY hr.units) (pv 5) (zv zP (by rfl) T.n_len bI (za (pv 2) zd)) (nomark _)) (nomark _)) (zn (zy bR)) zL))) (zn (zy bR)))))),(zG (by walk_at "r") (zG (v6 (cB zh) zB (eG (dX (bH (zj zh (zj zh (zj (bX lM (zj (bZ (cB zh) zB (gG (zT sS zh zh)) zh) zu)) zu))))) (bL iO) eU)) (by walk_at "r"))),fun xs S R q=>q⟩
theorem Ga{C cc:Addr}(pk:PlK K mg C cc):Dk P w K mg base "Planner" C ["self","drawing","gap"] 1 (uW C "drawing" "gap" "known"):=Dk.mk3 pk.i Kj pk.c pk.n_drawing pk.n_gap pk.n_known (by decide +kernel) fun f q A outer s H E hr=>(ze (yH (pv 0) (pv 1) rfl) (ze (yH (pv 0) (pv 2) rfl) (zn (yH (pv 0) FO rfl))))
theorem L4{C cc:Addr}(pk:PlK K mg C cc){j:Nat}(hj:2<=j){z:PNm}(D_least:Dm P w K mg base C "least" ["self","terms","worth"] (j) (spM ["self","terms","worth"] z)):Dm P w K mg base C "measuring" ["self","terms","place","worth"] (j+1) (spM ["self","terms","place","worth"] (uF C z)):=Dm.dM pk.m_measuring zV 6 rfl fun f aa A outer s H E hr=>⟨_,_,(ze (zx (i:=4) zV.nd rfl lo (zD zr (zD zr (pv 1) (pv 2) (fun _ _=>rfl)) zg (fun _ _=>rfl))) (ze (zx (i:=5) zV.nd rfl lo (zo A8 hr yw (za (zD zr (lU (pv 0) rfl) (pv 4) (fun _ _=>rfl)) zd))) (ze (zx (i:=6) zV.nd rfl (qw rfl) (zO zU (lL rR (pv 1) rP (lB (pv 2))) (lL rR (pv 1) (lB (zO zU (pv 2) zg)) rP))) (ze (sU (i:=7) (fun _ _ h=>h) rfl (zH rfl rfl rfl rfl (N:=["number","worth","terms","place"]) (caps:=[none,some 3,some 1,some 2]) (by show bD ["self","terms","place","worth","part","span","others","worths","found","deepest"] (zf s_Planner_measuring).names _ _ _=true;decide +kernel)) zV.nd rfl rfl (CL rfl T.n_range (za (zD zr (pv 5) zg (fun _ _=>rfl)) (za (zO zU (zD zr (pv 5) zg (fun _ _=>rfl)) zg) zd))) (fun _ _ _ _=>(zw (i:=0) (by show gl (["number","worth","terms","place"]:List Str);decide) rfl (ig rfl))) (fun _ _ _ _=>bP) (fun _ _ _ _=>(zO zU (pv 1) (zO dH (zD zr (zD zr (pv 2) (pv 3) (fun _ _=>rfl)) zg (fun _ _=>rfl)) (pv 0))))) (ze (zx (i:=8) zV.nd rfl (qw rfl) (bV (fun _ _ h=>h) rfl (zH rfl rfl rfl rfl (N:=["each","others","self"]) (caps:=[none,some 6,some 0]) (by show bD ["self","terms","place","worth","part","span","others","worths","found","deepest"] (zf s_Planner_measuring).names _ _ _=true;decide +kernel)) (bK (pv 7)) (fun _ _ _ _=>(zw (i:=0) (by show gl (["each","others","self"]:List Str);decide) rfl (ig rfl))) (fun _ _ _ _=>bP) (fun _ _ _ _=>(vR pk.c D_least hr yw (pv 2) (za (pv 1) (za (pv 0) zd)))))) (ze (zx (i:=9) zV.nd rfl lo (zv (Fd rfl) (by rfl) T.n_max tF (za (bV (fun _ _ h=>h) rfl (zH rfl rfl rfl rfl (N:=["further"]) (caps:=[none]) (by show bD ["self","terms","place","worth","part","span","others","worths","found","deepest"] (zf s_Planner_measuring).names _ _ _=true;decide +kernel)) (bK (pv 8)) (fun _ _ _ _=>(zw (i:=0) (by show gl (["further"]:List Str);decide) rfl (ig rfl))) (fun _ _ _ _=>bP) (fun _ _ _ _=>(zD zr (pv 0) zg (fun _ _=>rfl)))) zd))) (ze (aN (zM (zv (jF rfl) (by rfl) T.n_all jQ (za (bV (fun _ _ h=>h) rfl (zH rfl rfl rfl rfl (N:=["further","found"]) (caps:=[none,some 8]) (by show bD ["self","terms","place","worth","part","span","others","worths","found","deepest"] (zf s_Planner_measuring).names _ _ _=true;decide +kernel)) (bK (pv 8)) (fun _ _ _ _=>(zw (i:=0) (by show gl (["further","found"]:List Str);decide) rfl (ig rfl))) (fun _ _ _ _=>bP) (fun _ _ _ _=>(dW (bY hr.units) (pv 0) (zD zr (pv 1) zg (fun _ _=>rfl)) (nomark _)))) zd)) (fun _=>rfl)) (zn (zy (zD zr (pv 8) zg (fun _ _=>rfl)))) zL) (zn (zy (aW (za (zO zU (pv 9) zg) (za (aW (za c8 (za (pv 4) (za (iG kH (by rfl) T.n_tuple eZ (za (bV (fun _ _ h=>h) rfl (zH rfl rfl rfl rfl (N:=["further"]) (caps:=[none]) (by show bD ["self","terms","place","worth","part","span","others","worths","found","deepest"] (zf s_Planner_measuring).names _ _ _=true;decide +kernel)) (bK (pv 8)) (fun _ _ _ _=>(zw (i:=0) (by show gl (["further"]:List Str);decide) rfl (ig rfl))) (fun _ _ _ _=>bP) (fun _ _ _ _=>(zD zr (pv 0) zg (fun _ _=>rfl)))) zd)) zd)))) zd)))))))))))),(fD (fX (cL (zT aT (zT aT zh zh) zS) zB)) (fD (fX (cL (bH (zj (zT aT (yK (mB pk.c pk.n_drawing (cZ zh))) zh) zu)) zB)) (fD (fX (cL (zT cT (uG vK zh tK (vG zh)) (uG vK zh (vG (zT cT zh zS)) tK)) zB)) (fD (fX (cL (bZ (Fh (zj (zT aT zh zS) (zj (zT cT (zT aT zh zS) zS) zu))) zB bN (zT cT zh (zT kU (zT aT (zT aT zh zh) zS) zh))) zB)) (fD (Kx (Dz (fun M=>yJ (cB zh)) zB bN (A9 (fun M=>cZ zh) (fun M=>AW (zj zh (zj zh zu))))) zB) (fD (fX (cL (bX El (zj (bZ (cB zh) zB bN (zT aT zh zS)) zu)) zB)) (fD (fX (eG (dX (bX iW (zj (bZ (cB zh) zB bN (zT gJ zh (zT aT zh zS))) zu))) (bL (zT aT zh zS)) eU)) (fX (bL (dQ (zj (zT cT zh zS) (zj (dQ (zj mR (zj zh (zj (bX lM (zj (bZ (cB zh) zB bN (zT aT zh zS)) zu)) zu)))) zu)))))))))))),fun xs S M R q=>q⟩
theorem Nw{C cc:Addr}(pk:PlK K mg C cc){j:Nat}{z:PNm}(D_measuring:Dm P w K mg base C "measuring" ["self","terms","place","worth"] (j) (spM ["self","terms","place","worth"] z)):Dm P w K mg base C "best" ["self","terms","worth"] (j+3) (spM ["self","terms","worth"] (sT C z)):=by
 obtain⟨P',ht⟩:=pk.tb;obtain⟨a1,t_KEEPS⟩:=pk.kE;obtain⟨a2,t_BREAKS⟩:=pk.kB;exact Dm.dMC pk.m_best LM 0 rfl fun f A outer s H E hr=>⟨_,_,(ze (aN (cD (zM (pv 1) (fun _=>rfl))) (zn (zy (aW (za zg (za (y8 (GB jE jE (zD zr (lU (pv 0) rfl) zg (fun _ _=>rfl)) (pv 2) (zD zr (lU (pv 0) rfl) zg (fun _ _=>rfl))) (BL t_KEEPS) (BL t_BREAKS)) zd))))) zL) (zn (zy (L9 (k:=j) (x:="plan") (caps:=[]) (ks:=[]) ht rfl rfl rfl rfl rfl rfl (by show hX ["self","terms","worth"] (zf s_Planner_best).names _ _ _ _=true;decide +kernel) rfl (fun _ _ _ _ _=>rfl) hr rfl T.n_min (bV (fun _ _ h=>h) rfl (zH rfl rfl rfl rfl (N:=["place","terms","worth","self"]) (caps:=[none,some 1,some 2,some 0]) (by show bD ["self","terms","worth"] (zf s_Planner_best).names _ _ _=true;decide +kernel)) (fA rfl T.n_range (za (zv zP (by rfl) T.n_len bI (za (pv 1) zd)) zd)) (fun _ _ _ _=>(zw (i:=0) (by show gl (["place","terms","worth","self"]:List Str);decide) rfl (ig rfl))) (fun _ _ _ _=>bP) (fun _ _ _ _=>(vR pk.c D_measuring hr yw (pv 3) (za (pv 1) (za (pv 0) (za (pv 2) zd)))))) (fun cl f c' s H hr=>(zD zr (pv 0) zg (fun _ _=>rfl))))))),(fD (fX (eG (lF (dX zh)) (bL (dQ (zj zS (zj (De (gG (wH qM qM (zT aT (yK (mB pk.c pk.n_gap (cZ zh))) zS) zh (zT aT (yK (mB pk.c pk.n_gap (cZ zh))) zS))) Cr Cr) zu)))) eU)) (Nh (JC (Dz (fun M=>yJ (hJ (zj (bX lQ (zj zh zu)) zu))) zB bN (A9 (fun M=>cZ zh) (fun M=>AW (zj zh (zj zh (zj zh zu)))))) (zT aT zh zS)))),fun xs S M R q=>q⟩
theorem Bf{C cc:Addr}(pk:PlK K mg C cc):∀n,Dm P w K mg base C "least" ["self","terms","worth"] (2+5*n) (spM ["self","terms","worth"] (nT C n))
 | 0=>Dm.noneM pk.m_least
 |n+1=>by
  have D_least:=Bf (pk:=pk) n;have D_measuring:=L4 (pk:=pk) (hj:=yw) (D_least:=D_least);have D_best:=Nw (pk:=pk) (D_measuring:=D_measuring);exact Dm.dM (k:=2+5*n+4) pk.m_least G9 0 rfl fun f z A outer s H E hr=>⟨_,_,(ze (aN (zR (NW (g:=(.two (.many (.many .int)) .int)) dz rfl hr.units) (aW (za (pv 1) (za (pv 2) zd))) (lU (pv 0) rfl) (by rfl)) (zn (Lv (g:=(.two (.many (.many .int)) .int)) dz rfl hr.units (lU (pv 0) rfl) (aW (za (pv 1) (za (pv 2) zd))) (vR pk.c D_best hr yw (pv 0) (za (pv 1) (za (pv 2) zd))) rfl)) zL) (zn (zy (KU (g:=(.two (.many (.many .int)) .int)) dz rfl hr.units (lU (pv 0) rfl) (aW (za (pv 1) (za (pv 2) zd))) (fun _ _=>rfl))))),(fD (Np (fun M=>(IR (K2 J0 (cZ (dQ (zj zh (zj zh zu)))) (mB pk.c pk.n_known (cZ zh))))) (NT rfl (fun M=>(mB pk.c pk.n_known (cZ zh))) (fun M=>(cZ (dQ (zj zh (zj zh zu))))) (A9 (fun M=>cZ zh) (fun M=>AW (zj zh (zj zh zu))))) (fX eU)) (JX (fun M=>(Iw (mB pk.c pk.n_known (cZ zh)) (cZ (dQ (zj zh (zj zh zu)))))))),fun xs S M R q=>q⟩
theorem Bn:Df P w K mg base "plan_of" ["drawing","gap"] 48 (spN ["drawing","gap"] mE):=by
 have z:=kk0;obtain⟨C,cc,pk⟩:=z;have D_init:=Ga (P:=P) (w:=w) (base:=base) (pk:=pk);have D_l0:=Bf (P:=P) (w:=w) (base:=base) (pk:=pk);have D_least:=D_l0 9;exact Df.dN dd.a40 M0 0 rfl fun f aa A outer s H E hr=>⟨_,_,(ze (eX (zo FK hr dz (za (pv 0) zd))) (zn (zy (zD zr (vR pk.c D_least hr dz (JT D_init hr dz (za (pv 0) (za (pv 1) zd))) (za (zD zr (pv 1) zg (fun _ _=>rfl)) (za zg zd))) zg (fun _ _=>rfl))))),(zG (by walk_at "r") (bL (zT aT (Fp zh zh (by walk_at "r") (by decide +kernel)) zS))),fun xs S R q=>q C⟩
theorem IE:Df P w K mg base "_law_plan_of_it" ["drawing","gap","few","pen"] 49 (spN ["drawing","gap","few","pen"] mW):=by
 exact Df.dN dd.a41 jC 6 rfl fun f z A outer s H E hr=>⟨_,_,(ze (zx (i:=4) jC.nd rfl lo (zo Bn hr dz (za (pv 0) (za (pv 1) zd)))) (ze (aN (PW.pt (c7 (cD (zM (zo JN hr dz (za (pv 0) (za (pv 1) (za (pv 4) zd)))) (fun _=>rfl))) (e7 (zR uZ (zo DP hr dz (za (pv 4) zd)) (zv zP (by rfl) T.n_len bI (za (pv 2) zd)) (nomark _))))) (zn (zy bR)) zL) (ze (zx (i:=5) jC.nd rfl lo (zo sF hr dz (za (pv 0) zd))) (ze (zx (i:=6) jC.nd rfl (qw rfl) (zD zr (pv 5) (zo zQ hr dz (za (pv 3) (za (zv zP (by rfl) T.n_len bI (za (pv 5) zd)) zd))) (fun _ _=>rfl))) (ze (zx (i:=7) jC.nd rfl (qw rfl) (zD zr (pv 5) (zo zQ hr dz (za (pv 3) (za (zv zP (by rfl) T.n_len bI (za (pv 5) zd)) zd))) (fun _ _=>rfl))) (ze (pD (zo AC hr dz (za (pv 4) (za (pv 0) (za (pv 6) zd)))) (gR (n:=2) rfl (cN (zw (i:=8) jC.nd rfl (ig rfl)) (cN (zw (i:=9) jC.nd rfl (ig rfl)) gV)))) (ze (aN (zR (fQ hr.units) (dW (bY hr.units) (pv 9) c8 (nomark _)) (zo iZ hr dz (za (pv 1) (za (pv 6) zd))) (nomark _)) (zn (zy bR)) zL) (ze (aN (zM (zv (jF rfl) (by rfl) T.n_all jQ (za (bV (fun _ _ h=>h) rfl (zH rfl rfl rfl rfl (N:=["part","one","other"]) (caps:=[none,some 6,some 7]) (by show bD ["drawing","gap","few","pen","plan","some","one","other","parts","word"] (zf xP).names _ _ _=true;decide +kernel)) (bK (pv 8)) (fun _ _ _ _=>(zw (i:=0) (by show gl (["part","one","other"]:List Str);decide) rfl (ig rfl))) (fun _ _ _ _=>bP) (fun _ _ _ _=>(dW (bY hr.units) (zD zr (pv 1) (pv 0) (fun _ _=>rfl)) (zD zr (pv 2) (pv 0) (fun _ _=>rfl)) (nomark _)))) zd)) (fun _=>rfl)) (zn (zy (dW (bY hr.units) (zo AC hr dz (za (pv 4) (za (pv 0) (za (pv 7) zd)))) (aW (za (pv 8) (za (pv 9) zd))) (nomark _)))) zL) (zn (zy bR)))))))))),(zG (by walk_at "r") (zG (by walk_at "r") (zG (by walk_at "r") (zG (by walk_at "r") (zG (by walk_at "r") (zG (by walk_at "r") (zG (by walk_at "r") (zG (eG (dX (bX iW (zj (bZ (cB zh) zB bN (zT gJ (zT aT zh zh) (zT aT zh zh))) zu))) (by walk_at "r") eU) (bL iO))))))))),fun xs S R q=>q⟩
theorem ok_law{f:Addr}{fd:rq}(F:Fun K "law" "law" s_law f fd):FnOk P w K mg base CX0 50 f fd ["script"] (sp1 (AH K)):=by
 refine F.ok1 gN (fun v=>[some v,none,none,none,none,none,none,none,none]) (fun _=>rfl) fun aa A outer s H v Q E hr h=>?_;obtain⟨a,ns,rfl,hS,z,q⟩:=h;refine⟨_,(ze (cV gi rfl (N6 (zO AZ (bO (za (HY K9 hr dz (pv 0) zg) zd)) (lL Fg (pv 0) (lB zg) (lB zg)))) (zw (i:=1) gN.nd rfl (ig rfl)) (ze (zx (i:=2) gN.nd rfl (qw rfl) (zo OK hr dz (za (pv 1) zd))) (ze (zx (i:=3) gN.nd rfl lo (zo OG hr dz (za (pv 2) (za zg zd)))) (ze (zx (i:=4) gN.nd rfl (qw rfl) (zo LI hr dz (za (pv 2) (za (pv 3) zd)))) (ze (zx (i:=5) gN.nd rfl lo (zo ES hr dz (za (pv 3) (za (pv 4) zd)))) (ze (zx (i:=6) gN.nd rfl (qw rfl) (iG kH (by rfl) T.n_tuple eZ (za (bV (fun _ _ h=>h) rfl (zH rfl rfl rfl rfl (N:=["part","pen"]) (caps:=[none,some 2]) (by show bD ["script","cell","pen","drawing","gap","few","parts","more","words"] (zf s_law).names _ _ _=true;decide +kernel)) (fA rfl T.n_range (za (zv zP (by rfl) T.n_len bI (za (pv 3) zd)) zd)) (fun _ _ _ _=>(zw (i:=0) (by show gl (["part","pen"]:List Str);decide) rfl (ig rfl))) (fun _ _ _ _=>(xF (zR (bY hr.units) (zo zQ hr dz (za (pv 1) (za zg zd))) zg (nomark _)))) (fun _ _ _ _=>(pv 0))) zd))) (ze (zx (i:=7) gN.nd rfl lo (iG kH (by rfl) T.n_tuple eZ (za (bV (fun _ _ h=>h) rfl (zH rfl rfl rfl rfl (N:=["part","parts","pen"]) (caps:=[none,some 6,some 2]) (by show bD ["script","cell","pen","drawing","gap","few","parts","more","words"] (zf s_law).names _ _ _=true;decide +kernel)) (fA rfl T.n_range (za (zv zP (by rfl) T.n_len bI (za (pv 3) zd)) zd)) (fun _ _ _ _=>(zw (i:=0) (by show gl (["part","parts","pen"]:List Str);decide) rfl (ig rfl))) (fun _ _ _ _=>(xF (PW.pt (c7 (zR (N9 hr.units) (pv 0) (pv 1) (by rfl)) (e7 (zR (bY hr.units) (zo zQ hr dz (za (pv 2) (za zg zd))) zg (nomark _))))))) (fun _ _ _ _=>(pv 0))) zd))) (ze (aN (PW.pt (pO (zM (zo nK hr dz (za (pv 3) (za (pv 4) (za (pv 6) zd)))) (fun _=>rfl)) (nH (cD (zM (zo nK hr dz (za (pv 3) (za (pv 4) (za (pv 7) zd)))) (fun _=>rfl)))))) (zn (zy bR)) zL) (ze (aN (PW.pt (c7 (cD (zM (zo Aw hr dz (za (pv 3) (za (pv 4) (za (pv 6) zd)))) (fun _=>rfl))) (e7 (cD (zM (zo Aw hr dz (za (pv 3) (za (pv 4) (za (pv 7) zd)))) (fun _=>rfl)))))) (zn (zy bR)) zL) (ze (aN (PW.pt (c7 (cD (zM (zo OH hr dz (za (pv 3) (za (pv 4) (za (pv 5) zd)))) (fun _=>rfl))) (e7 (cD (zM (zo IE hr dz (za (pv 3) (za (pv 4) (za (pv 5) (za (pv 2) zd))))) (fun _=>rfl)))))) (zn (zy bR)) zL) (ze (zx (i:=8) gN.nd rfl lo (Gy rfl rfl T.n_sorted rfl T.n_set (za (bV (fun _ _ h=>h) rfl (zH rfl rfl rfl rfl (N:=["one","gap"]) (caps:=[none,some 4]) (by show bD ["script","cell","pen","drawing","gap","few","parts","more","words"] (zf s_law).names _ _ _=true;decide +kernel)) (bK (zo sF hr dz (za (pv 3) zd))) (fun _ _ _ _=>(zw (i:=0) (by show gl (["one","gap"]:List Str);decide) rfl (ig rfl))) (fun _ _ _ _=>bP) (fun _ _ _ _=>(zo iZ hr dz (za (pv 1) (za (pv 0) zd))))) zd))) (zn (aN (PW.pt (pO (zR (bY hr.units) (zv zP (by rfl) T.n_len bI (za (pv 8) zd)) zg (nomark _)) (nH (PW.pt (c7 (zR (fQ hr.units) (pv 5) (aW zd) (nomark _)) (e7 (zR (fQ hr.units) (zo DP hr dz (za (zo Bn hr dz (za (pv 3) (za (pv 4) zd))) zd)) zg (nomark _)))))))) (zn (zy bR)) zL))))))))))))) (zn (zy bR))),?_⟩;exact MH (m:=8) (db:=wC) (zG (cL (bH (zj zh zu)) zB) (zG (cL (iC (i:=0) (zj zh (zj zS zu))) zB) (zG (cL (iC (i:=0) (zj zh (zj zh zu))) zB) (zG (cL (bH (zj zh (zj zh zu))) zB) (zG (cL (bX lM (zj (bZ (hJ (zj (bX lQ (zj zh zu)) zu)) zB (gG (zT gJ (iC (i:=0) (zj zh (zj zS zu))) zS)) zh) zu)) zB) (zG (cL (bX lM (zj (bZ (hJ (zj (bX lQ (zj zh zu)) zu)) zB (oK (gG (zT NO zh zh)) (gG (zT gJ (iC (i:=0) (zj zh (zj zS zu))) zS))) zh) zu)) zB) (zG (eG (AB (dX (bH (zj zh (zj zh (zj zh zu))))) (lF (dX (bH (zj zh (zj zh (zj zh zu))))))) (bL iO) eU) (zG (eG (oK (lF (dX (bH (zj zh (zj zh (zj zh zu)))))) (lF (dX (bH (zj zh (zj zh (zj zh zu))))))) (bL iO) eU) (zG (eG (oK (lF (dX (bH (zj zh (zj zh (zj zh zu)))))) (lF (dX (iC (i:=3) (zj zh (zj zh (zj zh (zj zh zu)))))))) (bL iO) eU) (zG (cL (bX Eo (zj (bZ (cB (bH (zj zh zu))) zB bN (bH (zj zh (zj zh zu)))) zu)) zB) (eG (AB (gG (zT gJ (bX lQ (zj zh zu)) zS)) (oK (gG (zT sS zh (dQ zu))) (gG (zT sS (bH (zj (bH (zj zh (zj zh zu))) zu)) zS)))) (bL iO) eU))))))))))) rfl rfl hS z (fun n=>Gm a n) dz fun _ H2 _=>q H2
end
end My
theorem qR:L2.tabsG=[((261,259),L2.lamKey (("Planner.best" ++ ".<locals>.") ++ "<lambda>") ⟨171,93,0,0⟩)]:=rfl
theorem vV:L2.keepG=([((192,⟨.type "tuple",none,.seq #[.str "keeps" 435] 0,#[]⟩),"keeps"),((193,⟨.type "tuple",none,.seq #[.str "breaks" 437] 0,#[]⟩),"breaks")]:List ((PySem.Addr×PySem.Obj)×PySem.Str)):=rfl
namespace PySem.W.Fast
def tw2365558014835971520:Unit:=()
def tw16410538450033666464:Unit:=()
def tw769105955302913684:Unit:=()
def tw7966678331366479127:Unit:=()
def tw6519166096070962917:Unit:=()
def tw10464023410279976235:Unit:=()
def tw15767580546652360097:Unit:=()
def tw10186482810989467147:Unit:=()
def tw15475697814306294665:Unit:=()
def tw14254821757819828315:Unit:=()
def tw90711567729344750:Unit:=()
def tw16224339443547395511:Unit:=()
def tw10241777241689163813:Unit:=()
def tw10071758950567079785:Unit:=()
def tw11026903116102130900:Unit:=()
def tw11798378042554154822:Unit:=()
def tw18006927810569477677:Unit:=()
def tw122301020951677711:Unit:=()
def tw3658662879508224006:Unit:=()
def tw2415816162746060383:Unit:=()
def tw13046088242786769590:Unit:=()
def tw17777409827983203819:Unit:=()
def tw17657656176866204498:Unit:=()
def tw13160691719264892213:Unit:=()
def tw11250782405788947680:Unit:=()
def tw10652726779017220275:Unit:=()
def tw10737451725935690558:Unit:=()
def tw17241820382818055952:Unit:=()
def tw13224241389088211483:Unit:=()
def tw14338187848440252513:Unit:=()
def tw11355823137176977425:Unit:=()
def tw12951371369532820453:Unit:=()
def tw14640666497705562613:Unit:=()
def tw8693459016212015485:Unit:=()
def tw5320174102540556202:Unit:=()
def tw1882390964956928111:Unit:=()
def tw8501696971860089868:Unit:=()
def tw12903777838150221994:Unit:=()
def tw2536491240234278976:Unit:=()
def tw16800590087054166988:Unit:=()
def tw16383415811626698165:Unit:=()
def tw3849560483200539907:Unit:=()
def tw1765511080053780270:Unit:=()
def tw14048929474572757577:Unit:=()
def tw11949347693602659687:Unit:=()
def tw7730617392663992166:Unit:=()
def tw4999374937545567838:Unit:=()
def tw13479998622756482184:Unit:=()
def tw16306527998045138116:Unit:=()
def tw14629632695684383029:Unit:=()
def tw6100106794602399180:Unit:=()
def tw3422316124754037187:Unit:=()
def tw16001259217277513173:Unit:=()
def tw6708479775877633655:Unit:=()
def tw15095228005326597803:Unit:=()
def tw18365494385737906455:Unit:=()
def tw5559228852369507906:Unit:=()
def tw15133793798513994771:Unit:=()
def tw2104423403492914442:Unit:=()
def tw9292756326673047165:Unit:=()
def tw14498825461651874401:Unit:=()
def tw16879406999260272507:Unit:=()
def tw5210137925905828035:Unit:=()
def tw9268342435253588730:Unit:=()
def tw17835832341699007010:Unit:=()
def tw6284012966575380117:Unit:=()
def tw9745223325163717741:Unit:=()
def tw12808668377465756919:Unit:=()
def tw15961340334176259294:Unit:=()
def tw12767960875732522499:Unit:=()
def tw7044469644921510785:Unit:=()
def tw9156823001419650591:Unit:=()
def tw17569641129994352456:Unit:=()
def tw11535857783958387730:Unit:=()
def tw3260125545274453776:Unit:=()
def tw2458551581258832472:Unit:=()
def tw10236162544597246660:Unit:=()
def tw17882085563817140371:Unit:=()
def tw16426440797996319838:Unit:=()
def tw4363498644264668536:Unit:=()
def tw2831729667551105594:Unit:=()
def tw4903178660505040841:Unit:=()
def tw12933073078989735214:Unit:=()
def tw14909087271025604628:Unit:=()
def tw5170349950193033215:Unit:=()
def tw7208484893688189560:Unit:=()
def tw16758332623081309020:Unit:=()
def tw1659795577515557232:Unit:=()
def tw4784509797322621188:Unit:=()
def tw6283788376567093593:Unit:=()
def tw2103648607818552621:Unit:=()
def tw2867193872083804681:Unit:=()
def tw12904394452664929264:Unit:=()
def tw5438248528687790665:Unit:=()
def tw5640821073670419413:Unit:=()
def tw12669765311662999760:Unit:=()
def tw12200206253616055263:Unit:=()
def tw8983277279747666434:Unit:=()
def tw9998022838431498469:Unit:=()
def tw13500124820104512931:Unit:=()
def tw6684230855274838581:Unit:=()
def tw1599014326984350803:Unit:=()
def tw17631284724869586005:Unit:=()
def tw4309541760143547901:Unit:=()
def tw1961861943438378248:Unit:=()
def tw11935705177856934206:Unit:=()
def tw6165884567108448540:Unit:=()
def tw16187836902450826588:Unit:=()
def tw6662769969528695303:Unit:=()
def tw12609100062436627844:Unit:=()
def tw15173313045946957468:Unit:=()
def tw7916319716641310839:Unit:=()
def tw12653524463796265101:Unit:=()
def tw5495931413331554455:Unit:=()
def tw16359134264771468323:Unit:=()
def tw13183763671472054460:Unit:=()
def tw6938781061637585440:Unit:=()
def tw15811903242066588037:Unit:=()
def tw17476392451453632141:Unit:=()
def tw12345324434459235250:Unit:=()
def tw12806815446525041821:Unit:=()
def tw12968620257775674345:Unit:=()
def tw5097697006638676196:Unit:=()
def tw17574945394372593395:Unit:=()
def tw7828713620283931990:Unit:=()
def tw421540899658485760:Unit:=()
def tw13272150954447350414:Unit:=()
def tw13488347296666132436:Unit:=()
def tw6660994756318151443:Unit:=()
def tw17668656995203508684:Unit:=()
def tw3459004306272588197:Unit:=()
def tw9627728469677037428:Unit:=()
def tw14463850959494346351:Unit:=()
def tw4085313474945162373:Unit:=()
def tw8344736623424738438:Unit:=()
def tw4393658724837611977:Unit:=()
end PySem.W.Fast
open PySem PySem.W PyProof.Rows L2
set_option maxRecDepth 100000 in
set_option maxHeartbeats 0 in
theorem PySem.Challenge.cw_gaugewright_k60_whole_what_decides_holds : PySem.Challenge.rw_gaugewright_k60_whole_what_decides.Holds := by
 w_on;o_law;k_head;(case hw=>w_witness2)
 k_fill
 refine L2.walk_law (l := PySem.Challenge.rw_gaugewright_k60_whole_what_decides) (k := 50) rfl rfl ⟨rfl, by decide, by decide⟩ (fun w h Y => W.km_in_of Y) ?TT ?F
 case TT=>
  intro w h Y;have KX:=W.km_in_of Y;have t8:=W.km_tabs_of Y;refine⟨?nd,?hd,?em,?of,?kn,?kk⟩
  case kn=>rw[vV];show ([192,193]:List Nat).Nodup;decide
  case kk=>rw[vV];exact forall_mem_cons.mpr ⟨⟨by kernel_rfl,rfl,rfl,_,_,rfl⟩,forall_mem_cons.mpr ⟨⟨by kernel_rfl,rfl,rfl,_,_,rfl⟩,fun _ h=>nomatch h⟩⟩
  case nd=>rw[qR];exact nodup_cons.mpr ⟨yv,ux⟩
  case hd=>rw[qR];exact forall_mem_cons.mpr ⟨W.codeHd_of_K (c:=261) (P:=259) KX (by kernel_rfl),fun _ h=>nomatch h⟩
  case em=>rw[qR];exact forall_mem_cons.mpr ⟨t8 259 (by k_mem),fun _ h=>nomatch h⟩
  case of=>rw[qR];exact forall_mem_cons.mpr ⟨(by kernel_rfl),fun _ h=>nomatch h⟩
 case F=>
  intro w mg fa h KX G hmg;have d_law:Dd (L2.KOf KX) mg "law" My.s_law ["script"]:=by
   dsimp only[L2.KOf];refine' Dd.mk' KX G ?a ?l ?c ?k ?b
   (case a=>k_is);(case l=>k_is);(case c=>k_is);(case k=>k_is);(case b=>intro _ _ _ _ _ _ us hl;obtain⟨_,rfl⟩:=L2.len1 hl;rfl)
  have g14:∃t,mg "MOST_SETS" = some (.int 300 t):=by
   apply Exists.intro;apply W.mg_of KX G
   k_is
  have T:My.Txt mg:=by
   refine' ⟨ko KX G ?z0,ko KX G ?z1,ko KX G ?z2,ko KX G ?z3,ko KX G ?z4,ko KX G ?z5,ko KX G ?z6,ko KX G ?z7,ko KX G ?z8,ko KX G ?z9,ko KX G ?z10,ko KX G ?z11,ko KX G ?z12,ko KX G ?z13,g14⟩
   (case z0=>k_is);(case z1=>k_is);(case z2=>k_is);(case z3=>k_is);(case z4=>k_is);(case z5=>k_is);(case z6=>k_is);(case z7=>k_is);(case z8=>k_is);(case z9=>k_is);(case z10=>k_is);(case z11=>k_is);(case z12=>k_is);(case z13=>k_is)
  have kc:L2.Cls (L2.KOf KX) 270:=by
   refine' ⟨?a,?b,?c,?d⟩
   (case a=>dsimp only[L2.KOf];k_is);(case b=>dsimp only[L2.KOf];k_is);(case c=>dsimp only[L2.KOf];k_is);(case d=>dsimp only[L2.KOf];k_is)
  have na_drawing:L2.NoAttr (L2.KOf KX) 270 "drawing":=by
   unfold L2.NoAttr;dsimp only[L2.KOf];k_is
  have na_gap:L2.NoAttr (L2.KOf KX) 270 "gap":=by
   unfold L2.NoAttr;dsimp only[L2.KOf];k_is
  have na_known:L2.NoAttr (L2.KOf KX) 270 "known":=by
   unfold L2.NoAttr;dsimp only[L2.KOf];k_is
  have ki:L2.Dki (L2.KOf KX) mg "Planner" 270 "Planner.__init__" My.s_Planner_init ["self","drawing","gap"]:=by
   dsimp only[L2.KOf];refine' L2.Dki.mk' KX G ?a ?mk ?i ?l ?c ?k ?fn ?kc ?hb
   (case a=>k_is);(case mk=>k_is);(case i=>k_is);(case l=>k_is);(case c=>k_is);(case k=>k_is);(case fn=>k_is);(case kc=>k_is);(case hb=>intro _ _ _ _ _ _ us hl;obtain⟨_,_,_,rfl⟩:=L2.len3 hl;rfl)
  have km_least:L2.Dt (L2.KOf KX) 270 "least" "Planner.least" My.s_Planner_least ["self","terms","worth"]:=by
   dsimp only[L2.KOf];refine' L2.Dt.mk' ?a ?l ?c ?k ?i ?hb
   (case a=>k_is);(case l=>k_is);(case c=>k_is);(case k=>k_is);(case i=>k_is);(case hb=>intro _ _ _ _ _ _ us hl;obtain⟨_,_,_,rfl⟩:=L2.len3 hl;rfl)
  have km_measuring:L2.Dt (L2.KOf KX) 270 "measuring" "Planner.measuring" My.s_Planner_measuring ["self","terms","place","worth"]:=by
   dsimp only[L2.KOf];refine' L2.Dt.mk' ?a ?l ?c ?k ?i ?hb
   (case a=>k_is);(case l=>k_is);(case c=>k_is);(case k=>k_is);(case i=>k_is);(case hb=>intro _ _ _ _ _ _ us hl;obtain⟨_,_,_,_,rfl⟩:=L2.len4 hl;rfl)
  have km_best:L2.DtC (L2.KOf KX) 270 "best" "Planner.best" My.s_Planner_best ["self","terms","worth"] 261:=by
   dsimp only[L2.KOf];refine' L2.DtC.mk' ?a ?l ?c ?k ?i ?hb
   (case a=>k_is);(case l=>k_is);(case c=>k_is);(case k=>k_is);(case i=>k_is);(case hb=>intro _ _ _ _ _ _ us hl;obtain⟨_,_,_,rfl⟩:=L2.len3 hl;rfl)
  have kt_KEEPS:L2.TupK mg "KEEPS" "keeps" 192:=by
   refine' ⟨W.mg_of KX G ?a,⟨.type "tuple",none,.seq #[.str "keeps" 435] 0,#[]⟩,?b⟩
   (case a=>k_is);(case b=>rw[vV];exact cp)
  have kt_BREAKS:L2.TupK mg "BREAKS" "breaks" 193:=by
   refine' ⟨W.mg_of KX G ?a,⟨.type "tuple",none,.seq #[.str "breaks" 437] 0,#[]⟩,?b⟩
   (case a=>k_is);(case b=>rw[vV];exact bq _ cp)
  have kk0:∃C cc,My.PlK (L2.KOf KX) mg C cc:=⟨270,261,kc,na_drawing,na_gap,na_known,ki,km_least,km_measuring,km_best,⟨259,by rw[qR];exact cp⟩,⟨_,kt_KEEPS⟩,⟨_,kt_BREAKS⟩⟩;have dd:My.Dds (L2.KOf KX) mg:=by constructor<;>first|(dsimp only[L2.KOf];refine' Dd.mk' KX G ?a ?l ?c ?k ?b;(case a=>k_is);(case l=>k_is);(case c=>k_is);(case k=>k_is);(case b=>(intro _ _ _ _ _ _ us hl;first|(obtain⟨_,rfl⟩:=L2.len1 hl;rfl)|(obtain⟨_,_,rfl⟩:=L2.len2 hl;rfl)|(obtain⟨_,_,_,rfl⟩:=L2.len3 hl;rfl)|(obtain⟨_,_,_,_,rfl⟩:=L2.len4 hl;rfl))))|(dsimp only[L2.KOf];refine' L2.TupG.mk' KX G ?a ?l;(case a=>k_is);(case l=>k_is))
  obtain⟨f,fd,F,hm,_⟩:=d_law.ex;have e0:=hmg.symm.trans hm;cases e0;exact⟨fd,F.bind1 fun _ _ _ _ _ _ _=>rfl,fun base _ _=>My.ok_law T dd kk0 F⟩
#print axioms PySem.Challenge.cw_gaugewright_k60_whole_what_decides_holds
end