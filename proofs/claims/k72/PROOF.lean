import PyProof.Rows.All
import Wide.All
import OpenK.AllK
import Wide.FinOn
import Lean
import PyProof.EqAt
import PyProof.EqKinds
import PyProof.TupleCall
import KE.KTupSum
import KE.KSortTup
import PyProof.SetKind
import PyProof.SetRoads
import PyProof.SetNew
import PyProof.DictKinds
import PyProof.NsDelKeeps
import PyProof.StrWalks
import KE.KEqDict
import KE.KDictList
import PyProof.AttrMissSeq
import PyProof.WalksMore
import KE.KDictOf
import PyProof.Rows.Range3
import KE.KItemsList
import PyProof.FactsAll.dict_3
import KE.KMinKey
import PyProof.Rows.CallKwBuiltin
import PyProof.TupleOfSeq
import KE.KLam
import KE.KNestM
import PyProof.Rows.StrNews
import KE.KIntText
import PyProof.TupleKey
import PyProof.DictFindH
import PyProof.DictRoadsH
import PyProof.DictItems
import PyProof.Rows.TupTab
import Wide.Seal
import PyProof.DictValues
import PyProof.Rows.SortRev
import PyProof.StrLawsTight
import PyProof.StrLawsChain
import PyProof.Rows.CatFin
import PyProof.StrLawsIn
import PySem.Challenge.RW_gaugewright_k72_texts_refused
open Array renaming length_toList→pe
open Bool renaming and_eq_true→cy,true_and→jg,false_ne_true→jo,false_eq_true→kr,eq_iff_iff→nj,false_and→ph,not_eq_true'→qr,or_false→rl
open Exists renaming intro→kq
open False renaming elim→ib
open ForInStep renaming yield→ln
open Int renaming eq_ofNat_of_zero_le→gw,emod_lt_of_pos→om,emod_nonneg→oq,toNat_natCast→oy
open List renaming replicate→bo,length_map→cg,getElem?_concat_length→ck,mem_cons_of_mem→cn,length_append→cq,mem_cons_self→cw,length_cons→cz,mem_of_getElem?→dh,getElem?_eq_getElem→dn,mem_append_right→fh,mem_append_left→fk,getElem?_append_left→fq,size_toArray→fy,length_singleton→gb,length_take→gc,map_cons→gk,eq_nil_of_length_eq_zero→gm,map_append→gu,getElem?_map→gx,not_mem_nil→ia,range→iq,length_drop→iu,append_assoc→ja,append_nil→jf,drop_eq_getElem_cons→jk,mem_cons→jt,lookup_cons→ke,Nodup→kg,getElem?_cons_succ→ku,map→li,getElem?_append_right→ls,take_add_one→mf,replicate_succ→mn,flatMap_cons→pc,take_length→qa,getElem?_replicate→qd,contains_cons→qe,mem_of_mem_take→qi,getElem?_set_self→qp,drop_length→qy,flatten_cons→rb,take_append_drop→re,getElem?_set_ne→rn,lookup→sk,length→sr
open List.cons renaming inj→mj,injEq→sf
open Nat renaming lt_of_lt_of_le→fc,le_refl→fe,le_trans→ie,ne_of_lt→jq,lt_irrefl→jw,le_of_lt→lg,zero_le→qc,ne_of_gt→qg,lt_succ_of_lt→qo,lt_of_le_of_lt→qw
open Ne renaming symm→gj
open Option renaming map→tz
open Option.some renaming inj→fg
open Or renaming inl→ii
open PyProof.Rows renaming envOfC→ip,callWith_type1→jh
open PySem renaming Value→bb,wpAny_bind→bc,Shared→bf,PyData→bg,wpAny_pure→bp,wpAny→bq,sizeLine→bw,starEach→cu,Program→df,Around→fm,wpAny_field→fw,World→gg,wpAny_loadPart_at→gy,sizeLine_eq→ig,bootBuiltins→ik,wpAny_mono→ix,wpAny_setField_rec→iy,compareOp→jd,wpAny_newObj_type→js,wpAny_callSpecial?_slot→jx,wpAny_holding→kh,FuncData→ki,wpAny_truthy_bool→kj,backTo→kl,wpAny_seqItems→lh,wpAny_isSubtype_exc→lj,binaryOp→lq,wpAny_Call_Name_kw→lv,wpAny_call_entry→lx,wpAny_standAt→ly,Builtin→lz,rawInt→ml,wpAny_pyIter_list→my,noteFrame→ng,IsPair→nq,mainGlobals→nu,sysModules→oh,wpAny_pyIter_tuple→ol,wpAny_execs_nil→on,wpAny_loadPart'→oo,codeAny_mono→ou,NameKind→ow,codeAny_call_builtin→pb,wpAny_setField→pq,sliceBounds→px,intItems→qj,codeAny_builtin→qk,keywordEach→qu,call_meets→qv,wpAny_execs_cons→qz,setFlight→rg,attributeBase→rk,wpAny_passesOwn→rp,wpAny_call→si,swapsWith→sj,cLine→so,excClassObj→sy
open PySem.Builtin.SmallTypes renaming nextOf→fb,ownedTupleIsFree→gq
open PySem.Builtin.Str renaming occurrences→im
open PySem.Builtin.Tuple renaming tupleExact→km
open PySem.Heap renaming get?_push_of_some→bn,get?_push_size→cv,lt_size→fi,SameBut→fj,get?_update_other→iw,get?_update_self→je,size_push→su,size_update→tq
open PySem.Obj renaming mapFields→io,mapSeq→jj,data_mapFields→jp,isFreed_of_fields→jr
open PySem.PassesOwn renaming never→ji
open PySem.PyData renaming str→be,int→dq,strOk→fu,eqv→jc,canLay0→jy,depthAll→ko,canLayAll0→nc,bool→nv,tuple→rf
open PySem.SeqAt renaming shaped→dy,canLay_of_shaped→gh
open PySem.Str renaming ofString→dw,join→jm
open PySem.StrLaws renaming glued_eq_join→jb,join_split→qf
open PySem.Value renaming ref→bv,none→gf,bool→lc,type→og
open PySem.W renaming Frag→bt,mg_none_of→jv,hideAll→mq,mg_of→nk,kia_one→pk,keepIn→pp,hideAll_get→qm,mroIn→ra,findIn→rh,clsIn→ua
open Sum renaming inr→pf
open ToString renaming toString→qh
open True renaming intro→ni
def bu:=@decide_eq_false
def bx:=@decide_eq_true
def cb:=@if_neg
def cm:=@if_pos
def kz:=@of_decide_eq_true
theorem yw{p:Prop}(h:p:=by omega):p:=h
theorem yv{p:Prop}(h:p:=by simp):p:=h
open Option (isSome_iff_exists isSome_map map_eq_some_iff map_some toList_some)
open Nat (le_add_right le_of_lt le_refl le_succ le_trans lt_irrefl lt_of_le_of_lt lt_of_lt_of_le lt_succ_of_lt lt_succ_self ne_of_gt ne_of_lt zero_add zero_le)
open List (all_cons all_eq_true all_map any_cons append_assoc append_nil cons_append drop_eq_getElem_cons drop_length eq_nil_of_length_eq_zero filterMap_cons find?_cons find?_some flatMap_cons flatten_cons foldl_cons forIn_cons forIn_nil getElem?_append_left getElem?_append_right getElem?_concat_length getElem?_cons_succ getElem?_cons_zero getElem?_eq_getElem getElem?_eq_none getElem?_map getElem?_replicate getElem?_set getElem?_set_ne getElem?_set_self getElem_mem length_append length_cons length_drop length_map length_nil length_set length_singleton length_take lookup_cons map_append map_cons map_drop map_map map_nil map_take mem_append mem_append_left mem_append_right mem_cons mem_cons_of_mem mem_cons_self mem_filter mem_filterMap mem_flatMap mem_iff_getElem? mem_map mem_map_of_mem mem_of_getElem? mem_of_mem_take mem_range mem_singleton nil_append nodup_append nodup_cons nodup_nil not_mem_nil of_mem_zip replicate_succ reverse_cons set_cons_succ set_cons_zero size_toArray sum_cons take_add_one take_append_drop take_length take_zero)
open PySem.Heap (get?_push_of_some get?_push_size get?_update_ne get?_update_other get?_update_self lt_size size_push size_update)
open Array (length_toList)
theorem dz{p:Prop}[Decidable p](h:decide p=true:=by rfl):p:=kz h
set_option Elab.async false
set_option linter.all false
set_option maxRecDepth 100000
set_option maxHeartbeats 8000000
noncomputable section
namespace L2
open PySem PySem.Spec PyProof.Rows
section
abbrev Key:=Sum Int Str
def nK:Key->bb->Bool
 | .inl k,v=>Value.isInt k v
 | .inr x,v=>Value.isStrOf x v
def JY(w:gg):Key->Int
 | .inl k=>hashInt k
 | .inr x=>hashStr w x
theorem jA:∀{k:Key}{v:bb},nK k v=true->(∃i t,k=Sum.inl i/\v=Value.int i t)\/(∃x t,k=pf x/\v=Value.str x t)
 | .inl i,v,h=>by
  obtain⟨t,e⟩:=Value.isInt_shape (k:=i) (v:=v) h;exact .inl ⟨i,t,rfl,e⟩
 | .inr x,v,h=>by
  obtain⟨t,e⟩:=Value.isStrOf_shape (x:=x) (v:=v) h;exact .inr ⟨x,t,rfl,e⟩
theorem Nq(i:Int)(t:Tok):nK (.inl i) (.int i t)=true:=by simp[nK,Value.isInt]
theorem NM(x:Str)(t:Tok):nK (.inr x) (.str x t)=true:=by simp[nK,Value.isStrOf]
theorem MB(a b:Int):decide ((Sum.inl a:Key)=Sum.inl b)=(a==b):=by
 by_cases e:a=b
 ·subst e;simp
 ·have h:¬(Sum.inl a:Key)=Sum.inl b:=fun q=>e (Sum.inl.inj q);rw[bu h];exact(beq_eq_false_iff_ne.mpr e).symm
theorem NO(a b:Str):decide ((pf a:Key)=pf b)=decide (a=b):=by
 by_cases e:a=b
 ·subst e;simp
 ·have h:¬(pf a:Key)=pf b:=fun q=>e (Sum.inr.inj q);rw[bu h,bu e]
theorem JE(a:Int)(b:Str):decide ((Sum.inl a:Key)=pf b)=false:=bu (fun q=>nomatch q)
theorem KY(a:Str)(b:Int):decide ((pf a:Key)=Sum.inl b)=false:=bu (fun q=>nomatch q)
def fA(prog:df)(w:gg):PySem.KeyKind prog w Key where
 is:=nK
 hash:=JY w
 inj:=fun v a b ha hb=>by
  rcases jA ha with ⟨i,t,rfl,rfl⟩|⟨x,t,rfl,rfl⟩
  ·rcases jA hb with ⟨j,u,rfl,e⟩|⟨y,u,rfl,e⟩
   ·injection e with e1 _;rw[e1]
   ·exact nomatch e
  ·rcases jA hb with ⟨j,u,rfl,e⟩|⟨y,u,rfl,e⟩
   ·exact nomatch e
   ·injection e with e1 _;rw[e1]
 byValue:=fun k v h=>by
  rcases jA h with ⟨i,t,rfl,rfl⟩|⟨x,t,rfl,rfl⟩<;>rfl
 pyHash:=fun hv h=>by
  rcases jA hv with ⟨i,t,rfl,rfl⟩|⟨x,t,rfl,rfl⟩
  ·exact wpAny_pyHash_int h
  ·exact wpAny_pyHash_str h
 eqBool:=fun hu hv h=>by
  rcases jA hu with ⟨i,t,rfl,rfl⟩|⟨x,t,rfl,rfl⟩
  ·rcases jA hv with ⟨j,u,rfl,rfl⟩|⟨y,u,rfl,rfl⟩
   ·rw[MB]at h;exact wpAny_eqBool_int h
   ·rw[JE]at h;exact SeqAt.EqAt.int_str i t y u _ _ _ _ h
  ·rcases jA hv with ⟨j,u,rfl,rfl⟩|⟨y,u,rfl,rfl⟩
   ·rw[KY]at h;exact SeqAt.EqAt.str_int x t j u _ _ _ _ h
   ·rw[NO]at h;exact wpAny_eqBool_str h
 «strs»:=fun k x t v h=>by
  rcases jA h with ⟨i,u,rfl,e⟩|⟨y,u,rfl,e⟩
  ·exact nomatch e
  ·injection e with e1 _
   subst e1;cases v<;>rfl
theorem Jk(prog:df)(w:gg)(i:Int)(t:Tok):(fA prog w).is (.inl i) (.int i t)=true:=Nq i t
theorem LG(prog:df)(w:gg)(x:Str)(t:Tok):(fA prog w).is (.inr x) (.str x t)=true:=NM x t
end
section
inductive V where
 |non|bl (b:Bool)|int (i:Int)|str (x:Str)|byt (b:Array UInt8)|flt (b:UInt64)|ref (a:Addr)|ty (n:String)
 deriving DecidableEq
def RelV:V->bb->Prop
 | .non,u=>u=gf
 | .bl b,u=>u=lc b
 | .int i,u=>∃t,u=Value.int i t
 | .str x,u=>∃t,u=Value.str x t
 | .byt b,u=>∃t,u=Value.bytes b t
 | .flt b,u=>∃t,u=Value.float b t
 | .ref a,u=>u=bv a
 | .ty n,u=>u=og n
abbrev Vals:List V->List bb->Prop:=Paired RelV
theorem Vals.length{xs:List V}{us:List bb}(r:Vals xs us):xs.length=us.length:=Paired.length r
theorem Vals.get:∀{xs:List V}{us:List bb}{i:Nat}{x:V},Vals xs us->xs[i]?=some x->∃u,us[i]?=some u/\RelV x u
 |_,_,_,_,.nil,e=>by simp at e
 |_,_,0,_,.cons r _,e=>by simp at e;subst e;exact⟨_,rfl,r⟩
 |_,_,i+1,x,.cons _ t,e=>by
  obtain⟨u,h1,h2⟩:=Vals.get (i:=i) (x:=x) t (by simpa using e);exact⟨u,by simpa using h1,h2⟩
theorem Vals.set{x:V}{u:bb}(r:RelV x u):∀{xs:List V}{us:List bb} (i:Nat),Vals xs us->Vals (xs.set i x) (us.set i u)
 |_,_,_,.nil=>.nil
 |_,_,0,.cons _ t=>.cons r t
 |_,_,i+1,.cons q t=>.cons q (Vals.set r i t)
theorem Vals.append:∀{xs ys:List V}{us ws:List bb},Vals xs us->Vals ys ws->Vals (xs++ys) (us++ws)
 |_,_,_,_,.nil,s=>s
 |_,_,_,_,.cons r t,s=>.cons r (Vals.append t s)
theorem Vals.take:∀{xs:List V}{us:List bb} (n:Nat),Vals xs us->Vals (xs.take n) (us.take n)
 |_,_,0,_=>.nil
 |_,_,_+1,.nil=>.nil
 |_,_,n+1,.cons r t=>.cons r (Vals.take n t)
theorem Vals.drop:∀{xs:List V}{us:List bb} (n:Nat),Vals xs us->Vals (xs.drop n) (us.drop n)
 |_,_,0,r=>r
 |_,_,_+1,.nil=>.nil
 |_,_,n+1,.cons _ t=>Vals.drop n t
def RelO:Option V->Option bb->Prop
 |some v,some u=>RelV v u
 |none,none=>True
 |_,_=>False
def KV{κ:Type}:List (κ×V)->List (κ×bb)->Prop:=Paired fun(p:κ×V) (q:κ×bb)=>p.1=q.1/\RelV p.2 q.2
def kV:Key->V
 | .inl i=>.int i
 | .inr x=>.str x
inductive HO where
 |lst (xs:List V)
 |tup (xs:List V)
 |dK (kvs:List (Key×V))|dT (kvs:List (List Key×V))
 |set (S:Int->Bool) (n:Nat)
 |ins (C dx:Addr) (fs:List (Str×V))
 |own (x:Addr)
 |xd (fs:List (Str×V))
 |met (f x:Addr)
 |rng (lo hi:Int)
 |frz (o:Obj) (u:HO)
 |tbl (ps:Array bb)
 |ext (φ:Heap->Prop)
abbrev Hp:=Addr->Option HO
def upd(H:Hp)(a:Addr)(o:HO):Hp:=fun b=>if b=a then some o else H b
theorem zQ{H:Hp}{a:Addr}{o:HO}:upd H a o a=some o:=by unfold upd;rw[cm rfl]
theorem zL{H:Hp}{a b:Addr}{o:HO}(h:b≠a):upd H a o b=H b:=by unfold upd;rw[cb h]
theorem NC{H:Hp}{a:Addr}{o u:HO}:upd (upd H a o) a u=upd H a u:=by
 funext b;unfold upd;split<;>rfl
theorem Nr{H:Hp}{a b:Addr}{o u:HO}(h:H a=some o)(h':H b=some u)(d:o≠u):a≠b:=by
 intro e;subst e;rw[h]at h';exact d (fg h')
theorem zO{H:Hp}{a b:Addr}{o:HO}(h:H a=some o)(h':H b=none):a≠b:=by
 intro e;subst e;rw[h]at h';cases h'
def keepG:List ((Addr×Obj)×Str):=([]:List ((PySem.Addr×PySem.Obj)×PySem.Str))
def KpAt(a:Addr)(o:Obj):Prop:=∀q∈keepG,q.1.1=a->o=q.1.2
def TblOk(H:Hp)(ps qs:Array bb):Prop:=qs = #[]\/∃(l c:bb) (q:Str) (t:Tok) (k:Addr) (oc:Obj) (vs:Array bb) (t':Tok),ps = #[l,c,.str q t]/\qs = #[l,c,.ref k]/\H k=some (.frz oc (.own 0))/\oc.data=.fields vs/\vs[1]?=some (.str q t')
theorem TblOk.stay{H H':Hp}{ps qs:Array bb}(x:TblOk H ps qs)(hf:∀b o u,H b=some (.frz o u)->H' b=some (.frz o u)):TblOk H' ps qs:=by
 rcases x with x|⟨l,c,q,t,k,oc,vs,t',e1,e2,e3,r⟩
 ·exact .inl x
 ·exact .inr ⟨l,c,q,t,k,oc,vs,t',e1,e2,hf _ _ _ e3,r⟩
section
variable (P:df) (w:gg)
def ObjOk(H:Hp)(h:Heap)(a:Addr):HO->Prop
 | .lst xs=>xs.length<=bw/\∃(its:List bb) (n:Nat),Vals xs its/\h.get? a=some { cls:=.type "list",data:=.seq its.toArray n }
 | .tup xs=>(xs.length<=bw/\∃o:Obj,h.get? a=some o/\o.dict=none/\KpAt a o)/\∃its:List bb,Vals xs its/\IsTup h a its.toArray
 | .dK kvs=>kvs.length<=bw/\(a==oh)=false/\∃vs,KV kvs vs/\h.DictOf (fA P w) a vs
 | .dT kvs=>kvs.length<=bw/\(a==oh)=false/\∃xs:List (List Key×Addr×bb),
   Paired (fun(p:List Key×V) (q:List Key×Addr×bb)=>p.1=q.1/\H q.2.1=some (.tup (p.1.map kV))/\RelV p.2 q.2.2) kvs xs /\
   ∃o es ep,h.get? a=some o/\o.ExactDict/\o.data=.dict es ep/\es.toList=xs.map (entryOfKey (tupleKind (fA P w)))/\(xs.map (·.1)).Nodup
 | .set S n=>h.SetOf (intKind P w) a S n
 | .ins C dx fs=>H dx=some (.own a)/\fs.length<=1000/\dx≠a/\h.get? a=some (W.instObj C dx) /\
   ∃mA,h.Ns1 dx mA/\(∀f,RelO (fs.lookup f) (mA f))/\PySem.Within mA (fs.map (·.1))
 | .own _=>∃o,h.get? a=some o
 | .xd fs=>∃mA,h.Ns1 a mA/\∀f,RelO (fs.lookup f) (mA f)
 | .rng lo hi=>∃t u v,h.get? a=some { cls:=.type "range",data:=.fields #[.int lo t,.int hi u,.int 1 v] }
 | .frz o u=>h.get? a=some o/\ObjOk H h a u
 | .tbl ps=>∃qs:Array bb,h.get? a=some { cls:=.none,data:=.fields qs }/\TblOk H ps qs
 | .met f x=>h.get? a=some (W.methodObj (.ref f) (.ref x))
 | .ext φ=>φ h/\(∃o,h.get? a=some o)/\∀h1 h2:Heap,φ h1->(∀o,h1.get? a=some o->h2.get? a=some o)->φ h2
def HOk(H:Hp)(h:Heap):Prop:=∀a o,H a=some o->ObjOk P w H h a o
end
section
variable {P:df}{w:gg}{H H':Hp}{h h':Heap}{a:Addr}{o:HO}
theorem ObjOk.lt(x:ObjOk P w H h a o):a<h.objs.size:=by
 cases o with
 |lst xs=>obtain⟨_,_,_,_,e⟩:=x;exact fi e
 |tup xs=>obtain⟨_,_,_,p⟩:=x;exact p.lt
 |dK kvs=>obtain⟨_,_,_,_,o,_,_,e,_⟩:=x;exact fi e
 |dT kvs=>obtain⟨_,_,_,_,o,_,_,e,_⟩:=x;exact fi e
 |set S n=>obtain⟨o,_,_,_,e,_⟩:=x;exact fi e
 |ins C dx fs=>obtain⟨_,_,_,e,_⟩:=x;exact fi e
 |own y=>obtain⟨_,e⟩:=x;exact fi e
 |xd fs=>obtain⟨_,⟨_,_,_,e,_⟩,_⟩:=x;exact fi e
 |rng lo hi=>obtain⟨_,_,_,e⟩:=x;exact fi e
 |frz ob u=>obtain⟨e,_⟩:=x;exact fi e
 |tbl ps=>obtain⟨_,e,_⟩:=x;exact fi e
 |met f y=>exact fi (show h.get? a=some _ from x)
 |ext φ=>obtain⟨_,⟨_,e⟩,_⟩:=x;exact fi e
theorem Paired.mapP{α β:Type}{F G:α->β->Prop}:∀{l₁:List α}{l₂:List β},Paired F l₁ l₂->(∀a b,F a b->G a b)->Paired G l₁ l₂
 |_,_,.nil,_=>.nil
 |_,_,.cons r t,f=>.cons (f _ _ r) (Paired.mapP t f)
theorem ObjOk.stay(x:ObjOk P w H h a o)(k:∀b u,(b=a\/H b=some (.own a))->h.get? b=some u->h'.get? b=some u)
  (ho:∀b,H b=some (.own a)->H' b=some (.own a)) (ht:∀b xs,H b=some (.tup xs)->H' b=some (.tup xs))
  (hf:∀b o u,H b=some (.frz o u)->H' b=some (.frz o u):=by first|exact fun _ _ _ q=>q|(intro b o u q;rw[zL (zO q (by assumption))];exact q)):ObjOk P w H' h' a o:=by
 induction o with
 |lst xs=>obtain⟨z,aa,n,r,e⟩:=x;exact⟨z,aa,n,r,k _ _ (.inl rfl) e⟩
 |tup xs=>obtain⟨⟨z,o2,e2,d2⟩,aa,r,ob,e,c⟩:=x;exact⟨⟨z,o2,k _ _ (.inl rfl) e2,d2⟩,aa,r,ob,k _ _ (.inl rfl) e,c⟩
 |dK kvs=>obtain⟨z,y,vs,r,ob,es,ep,e,c⟩:=x;exact⟨z,y,vs,r,ob,es,ep,k _ _ (.inl rfl) e,c⟩
 |dT kvs=>
  obtain⟨z,y,xs,r,ob,es,ep,e,c⟩:=x;exact⟨z,y,xs,Paired.mapP r fun p q z=>⟨z.1,ht _ _ z.2.1,z.2.2⟩,ob,es,ep,k _ _ (.inl rfl) e,c⟩
 |set S n=>obtain⟨ob,es,ep,t,e,c⟩:=x;exact⟨ob,es,ep,t,k _ _ (.inl rfl) e,c⟩
 |ins C dx fs=>
  obtain⟨d,z,ne,e,mA,⟨od,es,ep,e2,c⟩,r⟩:=x;exact⟨ho _ d,z,ne,k _ _ (.inl rfl) e,mA,⟨od,es,ep,k _ _ (.inr d) e2,c⟩,r⟩
 |own y=>obtain⟨ob,e⟩:=x;exact⟨ob,k _ _ (.inl rfl) e⟩
 |xd fs=>obtain⟨mA,⟨od,es,ep,e,c⟩,r⟩:=x;exact⟨mA,⟨od,es,ep,k _ _ (.inl rfl) e,c⟩,r⟩
 |rng lo hi=>obtain⟨t,u,v,e⟩:=x;exact⟨t,u,v,k _ _ (.inl rfl) e⟩
 |frz ob u ih=>obtain⟨e,q⟩:=x;exact⟨k _ _ (.inl rfl) e,ih q⟩
 |tbl ps=>
  obtain⟨qs,e,q⟩:=x;exact⟨qs,k a _ (.inl rfl) e,q.stay hf⟩
 |met f y=>
  have e:h.get? a=some (W.methodObj (.ref f) (.ref y)):=x;show h'.get? a=some (W.methodObj (.ref f) (.ref y));exact k a _ (.inl rfl) e
 |ext φ=>obtain⟨p,⟨o,e⟩,st⟩:=x;exact⟨st _ _ p fun o q=>k _ _ (.inl rfl) q,⟨o,k _ _ (.inl rfl) e⟩,st⟩
theorem HOk.lt(x:HOk P w H h)(e:H a=some o):a<h.objs.size:=(x a o e).lt
theorem HOk.fresh(x:HOk P w H h)(e:h.objs.size<=a):H a=none:=by
 cases q:H a with
 |none=>rfl
 |some u=>exact absurd (fc (x.lt q) e) (jw _)
theorem HOk.kept(x:HOk P w H h)(k:∀b u,h.get? b=some u->h'.get? b=some u):HOk P w H h':=fun a o e=>
 (x a o e).stay (fun b u _ q=>k b u q) (fun _ q=>q) fun _ _ q=>q
theorem HOk.laid(x:HOk P w H h)(k:∀b u,h.get? b=some u->h'.get? b=some u)(hp:h.objs.size<=a)(aa:ObjOk P w (upd H a o) h' a o):HOk P w (upd H a o) h':=fun b u e=>by
 have hn:=x.fresh hp;by_cases hb:b=a
 ·subst hb;rw[zQ]at e;cases e;exact aa
 ·rw[zL hb]at e;exact(x b u e).stay (fun c v _ q=>k c v q) (fun c q=>by rw[zL (zO q hn)];exact q) fun c xs q=>by rw[zL (zO q hn)];exact q
end
def Rd(H:Hp)(a:Addr)(u:HO):Prop:=H a=some u\/∃o,H a=some (.frz o u)
theorem Rd.ok{P:df}{w:gg}{H:Hp}{h:Heap}{a:Addr}{u:HO}(r:Rd H a u)(x:HOk P w H h):ObjOk P w H h a u:=by
 rcases r with r|⟨o,r⟩
 ·exact x a u r
 ·obtain⟨_,q⟩:=x a _ r;exact q
def Mut:Option HO->Prop
 |some (.lst _)=>True
 |some (.dK _)=>True
 |some (.dT _)=>True
 |some (.set _ _)=>True
 |some (.ins _ _ _)=>True
 |some (.ext _)=>True
 |_=>False
section
variable {P:df}{w:gg}{H:Hp}{h h':Heap}{x e:Addr}{o':HO}
theorem HOk.write(ok:HOk P w H h)(mu:Mut (H x))(he:e=x\/H e=some (.own x))(k:∀b u,b≠e->h.get? b=some u->h'.get? b=some u)(af:∃u,h'.get? e=some u)
  (new:ObjOk P w (upd H x o') h' x o'):HOk P w (upd H x o') h':=fun b u q=>by
 have aa:∀c y,H c=some (.own y)->c≠x:=fun c y r z=>by subst z;rw[r]at mu;exact mu
 have ae:∀c xs,H c=some (.tup xs)->c≠x:=fun c xs r z=>by subst z;rw[r]at mu;exact mu
 have ac:∀c o u,H c=some (.frz o u)->c≠x:=fun c o u r z=>by subst z;rw[r]at mu;exact mu
 by_cases hb:b=x
 ·subst hb;rw[zQ]at q;cases q;exact new
 ·rw[zL hb]at q;by_cases hbe:b=e
  ·have q':H b=some (.own x):=by
    rcases he with z|z
    ·exact absurd (hbe.trans z) hb
    ·rw[hbe];exact z
   rw[q]at q';cases q';obtain⟨v,hv⟩:=af;exact⟨v,by rw[hbe];exact hv⟩
  ·refine(ok b u q).stay (fun c v hc r=>k c v ?_ r) (fun c r=>by rw[zL (aa c b r)];exact r) (fun c xs r=>by rw[zL (ae c xs r)];exact r) fun c o u r=>by rw[zL (ac c o u r)];exact r
   rcases hc with rfl|hc
   ·exact hbe
   ·rintro rfl;rcases he with z|z
    ·exact aa c b hc z
    ·rw[hc]at z;cases z;exact hb rfl
end
structure Un(fs ex:List Addr)(H H':Hp)(h h':Heap):Prop where
 keep:∀b o,h.get? b=some o->H b=none->b∉fs->b∉ex->h'.get? b=some o
 slot:∀b o,h.get? b=some o->H b=none->b∈fs->b∉ex->∃sl,h'.get? b=some { o with slots:=sl }
 free:∀b o,h.get? b=some o->H b=none->b∉ex->H' b=none
 there:∀b o,h.get? b=some o->b∉ex->∃o',h'.get? b=some o'
 tups:∀b xs,H b=some (.tup xs)->H' b=some (.tup xs)
 frzs:∀b o u,H b=some (.frz o u)->H' b=some (.frz o u)
 tbls:∀b ps,H b=some (.tbl ps)->H' b=some (.tbl ps)
section
variable {fs fs' ex ex':List Addr}{H H1 H2:Hp}{h h1 h2 h':Heap}{a x e:Addr}{o:HO}
theorem Un.any(u:Un fs ex H H1 h h1){b:Addr}{ob:Obj}(q:h.get? b=some ob)(n:H b=none)(hx:b∉ex):∃sl,h1.get? b=some { ob with slots:=sl }:=by
 by_cases hb:b∈fs
 ·exact u.slot b ob q n hb hx
 ·exact⟨ob.slots,u.keep b ob q n hb hx⟩
theorem Un.trans(a:Un fs ex H H1 h h1)(b:Un fs ex H1 H2 h1 h2):Un fs ex H H2 h h2 where
 keep:=fun c ob q n hc hx=>b.keep c ob (a.keep c ob q n hc hx) (a.free c ob q n hx) hc hx
 slot:=fun c ob q n hc hx=>by
  obtain⟨sl,e1⟩:=a.slot c ob q n hc hx;obtain⟨aa,e2⟩:=b.slot c _ e1 (a.free c ob q n hx) hc hx;exact⟨aa,e2⟩
 free:=fun c ob q n hx=>by
  obtain⟨o',e1⟩:=a.there c ob q hx;exact b.free c o' e1 (a.free c ob q n hx) hx
 there:=fun c ob q hx=>by
  obtain⟨o',e1⟩:=a.there c ob q hx;exact b.there c o' e1 hx
 tups:=fun c xs q=>b.tups c xs (a.tups c xs q)
 frzs:=fun c ob xs q=>b.frzs c ob xs (a.frzs c ob xs q)
 tbls:=fun c ps q=>b.tbls c _ (a.tbls c ps q)
theorem Un.kept(k:∀b u,h.get? b=some u->h'.get? b=some u):Un fs ex H H h h':=
 ⟨fun b ob q _ _ _=>k b ob q,fun b ob q _ _ _=>⟨ob.slots,k b ob q⟩,fun _ _ _ n _=>n,fun b ob q _=>⟨ob,k b ob q⟩,fun _ _ q=>q,fun _ _ _ q=>q,fun _ _ q=>q⟩
theorem Un.refl:Un fs ex H H h h:=Un.kept fun _ _ q=>q
theorem Un.laid(k:∀b u,h.get? b=some u->h'.get? b=some u)(hp:h.objs.size<=a)(hn:H a=none):Un fs ex H (upd H a o) h h' where
 keep:=fun b u q _ _ _=>k b u q
 slot:=fun b u q _ _ _=>⟨u.slots,k b u q⟩
 free:=fun b u q n _=>by rw[zL (jq (fc (fi q) hp))];exact n
 there:=fun b u q _=>⟨u,k b u q⟩
 tups:=fun b xs q=>by rw[zL (zO q hn)];exact q
 frzs:=fun b u xs q=>by rw[zL (zO q hn)];exact q
 tbls:=fun b ps q=>by rw[zL (zO q hn)];exact q
theorem Un.write(mu:Mut (H x))(he:e=x\/H e=some (.own x))(k:∀b u,b≠e->h.get? b=some u->h'.get? b=some u)(aa:∃u,h'.get? e=some u):Un fs ex H (upd H x o) h h':=by
 have hx:∀b,H b=none->b≠x:=fun b n z=>by subst z;rw[n]at mu;exact mu
 have hb:∀b,H b=none->b≠e:=fun b n z=>by
  subst z;rcases he with r|r
  ·exact hx b n r
  ·rw[n]at r;cases r
 have hm:∀b u,H b=some u->¬ Mut (some u)->b≠x:=fun b u q nm z=>by subst z;rw[q]at mu;exact nm mu
 refine⟨fun b u q n _ _=>k b u (hb b n) q,fun b u q n _ _=>⟨u.slots,k b u (hb b n) q⟩,fun b u q n _=>by rw[zL (hx b n)];exact n,fun b u q _=>?_,
  fun b xs q=>by rw[zL (hm b _ q fun z=>z)];exact q,fun b u xs q=>by rw[zL (hm b _ q fun z=>z)];exact q,fun b ps q=>by rw[zL (hm b _ q fun z=>z)];exact q⟩
 by_cases hbe:b=e
 ·subst hbe;exact aa
 ·exact⟨u,k b u hbe q⟩
theorem Un.mono(u:Un fs ex H H1 h h1)(hs:∀b∈fs,b∈fs')(hx:∀b∈ex,b∈ex'):Un fs' ex' H H1 h h1:=
 ⟨fun b ob q n hb he=>u.keep b ob q n (fun z=>hb (hs b z)) fun z=>he (hx b z),fun _ _ q n _ he=>u.any q n fun z=>he (hx _ z),fun b ob q n he=>u.free b ob q n fun z=>he (hx b z),fun b ob q he=>u.there b ob q fun z=>he (hx b z),u.tups,u.frzs,u.tbls⟩
end
def trk(h:Heap)(H:Hp):List Addr:=(iq h.objs.size).filter fun a=>(H a).isSome
def iN(h:Heap)(H:Hp):Heap:=mq h (trk h H)
theorem KS(h:Heap)(H:Hp):(iN h H).objs.size=h.objs.size:=W.hideAll_size _ _
theorem PD{h:Heap}{H:Hp}{b:Addr}{o:Obj}(e:h.get? b=some o)(n:H b=none):(iN h H).get? b=some o:=
 qm _ e fun hm=>by
  have q:(H b).isSome=true:=(mem_filter.mp hm).2;rw[n]at q;simp at q
theorem JU{h:Heap}{H:Hp}{b:Addr}{o:Obj}(e:(iN h H).get? b=some o):h.get? b=some o/\H b=none:=by
 have e':h.get? b=some o:=W.of_hideAll (trk h H) e;refine⟨e',?_⟩;cases q:H b with
 |none=>rfl
 |some x=>
  have hm:b∈trk h H:=mem_filter.mpr ⟨mem_range.mpr (fi e'),by simp[q]⟩;have z:(iN h H).get? b=none:=W.hideAll_none (trk h H) hm;rw[z]at e;cases e
def Kq(g h:Heap)(L:Addr):List (Addr×Obj):=(iq h.objs.size).filterMap fun a=>if a=L\/(g.get? a).isSome=true then none else (h.get? a).map fun o=>(a,o)
def rest(g h:Heap)(L d:Addr):List (Addr×Obj):=(Kq g h L).filter fun p=>decide (p.1≠d)
end
section
def tabsG:List ((Addr×Addr)×Array bb):=[]
def BltAt(base:Heap)(mg:Str->Option bb):Prop:=∃bm ob,mg "__builtins__" = some (.ref bm)/\bm≠builtinsNs/\base.get? bm=some ob/\ob.cls=.type "module"/\ob.dict=some builtinsNs/\ob.data=.plain
structure Frf(fs:List Addr)(H:Hp):Prop where
 free:∀b∈fs,H b=none
 tab:∀q∈tabsG,H q.1.2=some (.tbl q.2)
 kp:∀q∈keepG,H q.1.1=some (.tup [.str q.2])
def KInW(K:bt)(base:Heap):Prop:=∀a o,K.lookup a=some o->base.get? a=some o\/∃q∈keepG,q.1=(a,o)
theorem KInW.all{K:bt}{base h:Heap}(m:KInW K base)(h1:∀b o,base.get? b=some o->h.get? b=some o)(h2:∀q∈keepG,h.get? q.1.1=some q.1.2):K.In h:=fun a o e=>by
 rcases m a o e with z|⟨q,hq,z⟩
 ·exact h1 _ _ z
 ·have:=h2 q hq;rw[z]at this;exact this
theorem Frf.kpIn{fs:List Addr}{H:Hp}{P:df}{w:gg}{h:Heap}(f:Frf fs H)(ok:HOk P w H h):∀q∈keepG,h.get? q.1.1=some q.1.2:=fun q hq=>by
 obtain⟨⟨_,o,e,_,k⟩,_⟩:=(show ObjOk P w H h q.1.1 (.tup [.str q.2])from ok _ _ (f.kp q hq));rw[e,k q hq rfl]
theorem Frf.kpNew{fs:List Addr}{H:Hp}{P:df}{w:gg}{h:Heap}(f:Frf fs H)(ok:HOk P w H h){p:Addr}(hp:h.objs.size<=p)(o:Obj):KpAt p o:=fun q hq e=>by
 have:=fi (f.kpIn ok q hq);rw[e]at this;exact absurd this (Nat.not_lt.mpr hp)
structure Mod(K:bt)(mg:Str->Option bb)(base:Heap):Prop where
 kin:KInW K base
 glob:base.Ns nu mg
 blt:∃mb,base.Ns builtinsNs mb/\∀x:Str,x ≠ "__name__"->mb x=ik x
 nolimit:base.NoLimit
 bm:BltAt base mg
 hd:∀q∈tabsG,W.CodeHd base q.1.1 q.1.2
structure Cx where
 prog:df
 w:gg
 K:bt
 mg:Str->Option bb
 base:Heap
 A:fm
 N:List Str
 s₀:bf
 H₀:Hp
 env:Env
 outer:List Env
 stack:List Env
 ex:List Addr
 fn:Str->Bool
 calm:Bool
 pn:List (Addr×Obj)
 xe:bb->bf->Prop
def frs(l:List Env):List Addr:=l.filterMap (·.frame)
abbrev Cx.fs (X:Cx):List Addr:=frs X.outer
def Vis(sc:Scope)(x:Str):Prop:=sc.names.lookup x=some .local\/sc.names.lookup x=some .cell\/sc.names.lookup x=some .free
def Loc(sc:Scope)(x:Str):Prop:=sc.names.lookup x=some .local\/sc.names.lookup x=some .cell
def Look(env:Env)(h:Heap)(m:Str->Option bb)(x:Str)(u:bb):Prop:=
 (env.kindOf x=some .local/\m x=some u)\/((env.kindOf x=some .cell\/env.kindOf x=some .free)/\∃c,env.cells.lookup x=some c/\h.IsCell c (some u))
structure Cx.Ok(X:Cx):Prop where
 mod:Mod X.K X.mg X.base
 kind:X.env.scope.kind=.function
 glob:X.env.globals=nu
 blt:X.env.builtins=builtinsNs
 above:X.s₀.heap.objs.size<=X.env.locals
 inj:∀x y c,X.env.cells.lookup x=some c->X.env.cells.lookup y=some c->x=y
 has:∀x,(X.env.kindOf x=some .cell\/X.env.kindOf x=some .free)->∃c,X.env.cells.lookup x=some c
 cab:∀x c,X.fn x=true->X.env.cells.lookup x=some c->X.s₀.heap.objs.size<=c
 hd:X.calm=true->X.A.handled=none
 frames:X.A.frames=some X.stack
 stk:X.stack=X.outer\/(X.stack=X.env::X.outer/\X.env.frame=some X.env.locals)
 exf:∀b∈X.ex,b≠X.env.locals/\∀x c,X.env.cells.lookup x=some c->c≠b
 bs:∀b o,X.base.get? b=some o->X.s₀.heap.get? b=some o/\X.H₀ b=none
 bsz:X.base.objs.size<=X.s₀.heap.objs.size
 noex:∀b o,X.base.get? b=some o->b∉X.ex
 exfs:∀b∈X.ex,b∉X.fs
 funs:X.s₀.heap.FunFrames X.base X.outer
 frf:Frf X.fs X.H₀
structure Inv(X:Cx)(zg:List (Addr×Obj))(σ:List (Option V))(H:Hp)(s:bf):Prop where
 ok:X.Ok
 os:s.os=X.s₀.os
 bare:AllBare s.gens
 base:Un X.fs X.ex X.H₀ H X.s₀.heap s.heap
 loc:∃m,s.heap.Ns X.env.locals m/\∀(i:Nat) (x:Str) (v:V),X.N[i]?=some x->σ[i]?=some (some v)->Vis X.env.scope x->∃u,RelV v u/\Look X.env s.heap m x u
 cell:∀x c,X.env.cells.lookup x=some c->∃v,s.heap.IsCell c v
 free:H X.env.locals=none
 freeC:∀x c,X.env.cells.lookup x=some c->H c=none
 pin:∀p∈X.pn++zg,s.heap.get? p.1=some p.2/\H p.1=none/\p.1≠X.env.locals/\p.1∉X.fs/\∀v,p.2.data≠.cell v
 hok:HOk X.prog X.w H s.heap
 len:σ.length=X.N.length
section
variable {X:Cx}{zg:List (Addr×Obj)}{σ:List (Option V)}{H H':Hp}{s:bf}{h':Heap}
theorem Cx.Ok.nofr(ok:X.Ok){b:Addr}{o:Obj}(e:X.base.get? b=some o):b∉X.fs:=fun hb=>by
 have:=(ok.funs.mem hb).1;rw[e]at this;cases this
theorem Inv.bs(I:Inv X zg σ H s):∀b o,X.base.get? b=some o->s.heap.get? b=some o/\H b=none:=fun b o e=>
 ⟨I.base.keep b o (I.ok.bs b o e).1 (I.ok.bs b o e).2 (I.ok.nofr e) (I.ok.noex b o e),I.base.free b o (I.ok.bs b o e).1 (I.ok.bs b o e).2 (I.ok.noex b o e)⟩
theorem Inv.bk(I:Inv X zg σ H s):∀b o,X.base.get? b=some o->s.heap.get? b=some o:=fun b o e=>(I.bs b o e).1
theorem Inv.mod(I:Inv X zg σ H s):Mod X.K X.mg X.base:=I.ok.mod
theorem Inv.frfH(I:Inv X zg σ H s):Frf [] H:=⟨fun _ hb=>absurd hb yv,fun q hq=>I.base.tbls _ _ (I.ok.frf.tab q hq),fun q hq=>I.base.tups _ _ (I.ok.frf.kp q hq)⟩
theorem Inv.kIn(I:Inv X zg σ H s):X.K.In s.heap:=I.ok.mod.kin.all I.bk (I.frfH.kpIn I.hok)
theorem Inv.kpNew(I:Inv X zg σ H s){p:Addr}(hp:s.heap.objs.size<=p:=by exact fe _){o:Obj}:KpAt p o:=I.frfH.kpNew I.hok hp o
theorem Inv.lt(I:Inv X zg σ H s):X.env.locals<s.heap.objs.size:=let ⟨_,hn,_⟩:=I.loc;hn.lt
theorem Inv.sz(I:Inv X zg σ H s):X.s₀.heap.objs.size<=s.heap.objs.size:=ie I.ok.above (lg I.lt)
theorem Inv.nofs(I:Inv X zg σ H s){a:Addr}(h:s.heap.objs.size<=a):a∉X.fs:=fun hb=>by
 obtain⟨_,o,ho,_⟩:=I.ok.funs.mem hb;exact absurd (fc (fi ho) (ie I.sz h)) (jw _)
theorem Inv.cne(I:Inv X zg σ H s):∀x c,X.env.cells.lookup x=some c->c≠X.env.locals:=fun x c e z=>by
 obtain⟨v,o,ho,hd⟩:=I.cell x c e;obtain⟨m,⟨o',es,ep,ac,aa,_⟩,_⟩:=I.loc;rw[z,ac]at ho;cases ho;rw[aa]at hd;cases hd
theorem Inv.funs(I:Inv X zg σ H s):s.heap.FunFrames X.base X.outer:=by
 have all:∀(l:List Env),(∀b∈frs l,b∈X.fs)->X.s₀.heap.FunFrames X.base l->s.heap.FunFrames X.base l:=by
  intro l;induction l with
  |nil=>intro _ _;trivial
  |cons env r ih=>
   intro hs hl;obtain⟨hk,⟨L,o,hf,hn,ho,hd⟩,hr⟩:=hl;have hL:L∈X.fs:=hs L (by unfold frs;rw[filterMap_cons,hf];exact cw);obtain⟨sl,e⟩:=I.base.slot L o ho (I.ok.frf.free L hL) hL fun z=>I.ok.exfs L z hL;exact⟨hk,⟨L,_,hf,hn,e,hd⟩,ih (fun b hb=>hs b (by unfold frs;rw[filterMap_cons,hf];exact cn _ hb)) hr⟩
 exact all X.outer (fun _ hb=>hb) I.ok.funs
theorem Inv.stack(I:Inv X zg σ H s):s.heap.FunFrames X.base X.stack:=by
 rcases I.ok.stk with e|⟨e,hf⟩
 ·rw[e];exact I.funs
 ·rw[e];obtain⟨m,hn,_⟩:=I.loc;refine .cons (by rw[I.ok.kind];decide) hf hn ?_ I.funs;exact Heap.get?_none_of_le (ie I.ok.bsz I.ok.above)
theorem Inv.stkSub(I:Inv X zg σ H s):∀b∈frs X.stack,b∈X.env.locals::X.fs:=fun b hb=>by
 rcases I.ok.stk with e|⟨e,hf⟩
 ·rw[e]at hb;exact cn _ hb
 ·rw[e]at hb;unfold frs at hb;rw[filterMap_cons,hf]at hb;exact hb
theorem Inv.stkFree(I:Inv X zg σ H s):Frf (frs X.stack) H:=⟨fun b hb=>by
 rcases mem_cons.mp (I.stkSub b hb)with e|hb
 ·rw[e];exact I.free
 ·obtain⟨_,o,ho,_⟩:=I.ok.funs.mem hb;exact I.base.free b o ho (I.ok.frf.free b hb) fun z=>I.ok.exfs b z hb,fun q hq=>I.base.tbls _ _ (I.ok.frf.tab q hq),fun q hq=>I.base.tups _ _ (I.ok.frf.kp q hq)⟩
theorem Inv.step{g':Array GenState}{t':Nat}{d':Drawn}{ch:List Addr}(I:Inv X zg σ H s)
  (hch:∀b∈ch,(b∈X.ex\/X.s₀.heap.objs.size<=b)/\b≠X.env.locals/\(∀x c,X.env.cells.lookup x=some c->c≠b)/\∀p∈X.pn++zg,p.1≠b)
  (keep:∀b o,b≠X.env.locals->b∉X.fs->b∉ch->s.heap.get? b=some o->H b=none->h'.get? b=some o)
  (slot:∀b o,b≠X.env.locals->b∈X.fs->b∉ch->s.heap.get? b=some o->H b=none->∃sl,h'.get? b=some { o with slots:=sl }) (free:∀b o,b∉ch->s.heap.get? b=some o->H b=none->H' b=none)
  (there:∀b o,b∉ch->s.heap.get? b=some o->∃o',h'.get? b=some o')
  (tups:∀b xs,H b=some (.tup xs)->H' b=some (.tup xs)) (frzs:∀b o u,H b=some (.frz o u)->H' b=some (.frz o u)) (tbls:∀b ps,H b=some (.tbl ps)->H' b=some (.tbl ps))
  (ns:∀m,s.heap.Ns X.env.locals m->h'.Ns X.env.locals m) (hok:HOk X.prog X.w H' h') (hg:AllBare g'):
  Inv X zg σ H' { s with heap:=h',gens:=g',drawn:=d',toks:=t' }:=by
 have af:∀b o,X.s₀.heap.get? b=some o->b≠X.env.locals:=fun b o e=>jq (fc (fi e) I.ok.above);have ae:∀b o,X.s₀.heap.get? b=some o->b∉X.ex->b∉ch:=fun b o e hx hb=>by
  rcases(hch b hb).1 with z|z
  ·exact hx z
  ·exact absurd (fc (fi e) z) (jw _)
 have ac:∀x c,X.env.cells.lookup x=some c->∀v,s.heap.IsCell c v->h'.IsCell c v:=fun x c e v ⟨o,ho,hd⟩=>by
  have aa:c∉ch:=fun z=>(hch c z).2.2.1 x c e rfl;by_cases hc:c∈X.fs
  ·obtain⟨sl,q⟩:=slot c o (I.cne x c e) hc aa ho (I.freeC x c e);exact⟨_,q,hd⟩
  ·exact⟨o,keep c o (I.cne x c e) hc aa ho (I.freeC x c e),hd⟩
 refine⟨I.ok,I.os,hg,⟨fun b o e n hb hx=>?_,fun b o e n hb hx=>?_,fun b o e n hx=>?_,fun b o e hx=>?_,fun b xs e=>tups b xs (I.base.tups b xs e),fun b o xs e=>frzs b o xs (I.base.frzs b o xs e),fun b ps e=>?_⟩,?_,fun x c e=>?_,?_,fun x c e=>?_,fun p hp=>?_,hok,I.len⟩
 ·exact keep b o (af b o e) hb (ae b o e hx) (I.base.keep b o e n hb hx) (I.base.free b o e n hx)
 ·obtain⟨sl,e1⟩:=I.base.slot b o e n hb hx;obtain⟨ag,e2⟩:=slot b _ (af b o e) hb (ae b o e hx) e1 (I.base.free b o e n hx);exact⟨ag,e2⟩
 ·obtain⟨o',e1⟩:=I.base.there b o e hx;exact free b o' (ae b o e hx) e1 (I.base.free b o e n hx)
 ·obtain⟨o',e1⟩:=I.base.there b o e hx;exact there b o' (ae b o e hx) e1
 ·exact tbls b _ (I.base.tbls b ps e)
 ·obtain⟨m,hn,hl⟩:=I.loc;refine⟨m,ns m hn,fun i x v e1 e2 e3=>?_⟩;obtain⟨u,r,l⟩:=hl i x v e1 e2 e3;refine⟨u,r,?_⟩;rcases l with l|⟨k,c,e,z⟩
  ·exact .inl l
  ·exact .inr ⟨k,c,e,ac x c e _ z⟩
 ·obtain⟨v,z⟩:=I.cell x c e;exact⟨v,ac x c e v z⟩
 ·obtain⟨m,⟨o,_,_,ho,_⟩,_⟩:=I.loc;exact free _ o (fun z=>(hch _ z).2.1 rfl) ho I.free
 ·obtain⟨v,o,ho,hd⟩:=I.cell x c e;exact free c o (fun z=>(hch c z).2.2.1 x c e rfl) ho (I.freeC x c e)
 ·obtain⟨e,n,ne,nf,d⟩:=I.pin p hp;have aa:p.1∉ch:=fun z=>(hch p.1 z).2.2.2 p hp rfl;exact⟨keep p.1 p.2 ne nf aa e n,free p.1 p.2 aa e n,ne,nf,d⟩
theorem Inv.un{t':Nat}(I:Inv X zg σ H s)(u:Un X.fs [] H H' s.heap h')(hok:HOk X.prog X.w H' h'):Inv X zg σ H' { s with heap:=h',toks:=t' }:=by
 obtain⟨m,⟨o,es,ep,ho,r⟩,_⟩:=id I.loc;obtain⟨sl,hL⟩:=u.any ho I.free yv;exact I.step (g':=s.gens) (d':=s.drawn) (ch:=[]) (fun _ z=>nomatch z) (fun b o _ hb _ e n=>u.keep b o e n hb yv) (fun b o _ hb _ e n=>u.slot b o e n hb yv) (fun b o _ e n=>u.free b o e n yv) (fun b o _ e=>u.there b o e yv) u.tups u.frzs u.tbls (fun m' hm=>by
  obtain⟨o',ae,ac,aa,r'⟩:=hm;rw[ho]at aa;cases aa;exact⟨_,ae,ac,hL,r'⟩) hok I.bare
theorem Inv.call{g':Array GenState}{t':Nat}{d':Drawn}{ch:List Addr}(I:Inv X zg σ H s)(u:Un (frs X.stack) ch H H' s.heap h')(hok:HOk X.prog X.w H' h')(hg:AllBare g')
  (hch:∀b∈ch,(b∈X.ex\/X.s₀.heap.objs.size<=b)/\b≠X.env.locals/\(∀x c,X.env.cells.lookup x=some c->c≠b)/\∀p∈X.pn++zg,p.1≠b):
  Inv X zg σ H' { s with heap:=h',gens:=g',drawn:=d',toks:=t' }:=by
 obtain⟨m,⟨o,es,ep,ho,r⟩,_⟩:=id I.loc;obtain⟨sl,hL⟩:=u.any ho I.free fun z=>(hch _ z).2.1 rfl;exact I.step (ch:=ch) hch (fun b o hL hb hc e n=>u.keep b o e n (fun z=>(mem_cons.mp (I.stkSub b z)).elim hL hb) hc) (fun b o _ _ hc e n=>u.any e n hc) (fun b o hc e n=>u.free b o e n hc) (fun b o hc e=>u.there b o e hc) u.tups u.frzs u.tbls (fun m' hm=>by
  obtain⟨o',ae,ac,aa,r'⟩:=hm;rw[ho]at aa;cases aa;exact⟨_,ae,ac,hL,r'⟩) hok hg
theorem Inv.turned{t':Nat}{it:Addr}(I:Inv X zg σ H s)(k:∀b o,b≠it->s.heap.get? b=some o->h'.get? b=some o)(hn:H it=none)(hL:it≠X.env.locals)
  (h1:it∈X.ex\/X.s₀.heap.objs.size<=it) (h2:∀x c,X.env.cells.lookup x=some c->c≠it) (h3:∀p∈X.pn++zg,p.1≠it):Inv X zg σ H { s with heap:=h',toks:=t' }:=by
 have aa:∀b u,H b=some u->b≠it:=fun b u e z=>by rw[z,hn]at e;cases e
 refine I.step (g':=s.gens) (d':=s.drawn) (ch:=[it]) (fun b hb=>?_) (fun b o _ _ hc e _=>k b o (fun z=>hc (by simp[z])) e) (fun b o _ _ hc e _=>⟨o.slots,k b o (fun z=>hc (by simp[z])) e⟩) (fun _ _ _ _ n=>n)
  (fun b o hc e=>⟨o,k b o (fun z=>hc (by simp[z])) e⟩) (fun _ _ e=>e) (fun _ _ _ e=>e) (fun _ _ e=>e) (fun m hm=>?_) (fun b u e=>?_) I.bare
 ·have e:b=it:=by simpa using hb
  subst e;exact⟨h1,hL,h2,h3⟩
 ·obtain⟨o,es,ep,ho,r⟩:=hm;exact⟨o,es,ep,k _ o (gj hL) ho,r⟩
 ·refine(I.hok b u e).stay (fun c v hc q=>k c v ?_ q) (fun _ q=>q) fun _ _ q=>q;rcases hc with z|z
  ·rw[z];exact aa b u e
  ·exact aa c _ z
theorem Inv.tok(I:Inv X zg σ H s)(t:Nat):Inv X zg σ H { s with toks:=t }:=I.un (h':=s.heap) (t':=t) Un.refl I.hok
theorem Inv.kept{t':Nat}(I:Inv X zg σ H s)(k:∀b u,s.heap.get? b=some u->h'.get? b=some u):Inv X zg σ H { s with heap:=h',toks:=t' }:=I.un (Un.kept k) (I.hok.kept k)
theorem Inv.laid{a:Addr}{o:HO}{t':Nat}(I:Inv X zg σ H s)(k:∀b u,s.heap.get? b=some u->h'.get? b=some u)(hp:s.heap.objs.size<=a)(aa:ObjOk X.prog X.w (upd H a o) h' a o):
  Inv X zg σ (upd H a o) { s with heap:=h',toks:=t' }:=I.un (Un.laid k hp (I.hok.fresh hp)) (I.hok.laid k hp aa)
theorem Inv.write{x e:Addr}{o:HO}{t':Nat}(I:Inv X zg σ H s)(mu:Mut (H x))(he:e=x\/H e=some (.own x))(k:∀b u,b≠e->s.heap.get? b=some u->h'.get? b=some u)(aa:∃u,h'.get? e=some u)
  (new:ObjOk X.prog X.w (upd H x o) h' x o):Inv X zg σ (upd H x o) { s with heap:=h',toks:=t' }:=I.un (Un.write mu he k aa) (I.hok.write mu he k aa new)
theorem Inv.pins_of{aa:List (Addr×Obj)}(I:Inv X zg σ H s)(h:∀p∈aa,s.heap.get? p.1=some p.2/\H p.1=none/\p.1≠X.env.locals/\p.1∉X.fs/\∀v,p.2.data≠.cell v):Inv X aa σ H s:=
 ⟨I.ok,I.os,I.bare,I.base,I.loc,I.cell,I.free,I.freeC,fun p hp=>(mem_append.mp hp).elim (fun z=>I.pin p (fk _ z)) (h p),I.hok,I.len⟩
theorem BM{N:List Str}(hN:N.Nodup){i j:Nat}{x:Str}(a:N[i]?=some x)(b:N[j]?=some x):i=j:=by
 obtain⟨h1,e1⟩:=List.getElem?_eq_some_iff.mp a;obtain⟨h2,e2⟩:=List.getElem?_eq_some_iff.mp b;exact(List.getElem_inj hN).mp (e1.trans e2.symm)
theorem PH{M:Model}{A:fm}{E:bb->bf->Prop}{i:Nat}{x:Str}{v:V}{u:bb}{Q:Unit->bf->Prop}(I:Inv X zg σ H s)(hN:X.N.Nodup)(hi:X.N[i]?=some x)(hx:Loc X.env.scope x)(r:RelV v u)
  (h:∀s',Inv X zg (σ.set i (some v)) H s'->(∃a,fj a s.heap s'.heap/\(a=X.env.locals\/X.env.cells.lookup x=some a))->Q () s') (hf:X.fn x=true\/X.env.scope.names.lookup x=some .local:=by first|exact .inl rfl|exact .inr rfl|assumption):bq M A (storeName X.env x u) Q E s:=by
 obtain⟨m,hn,hl⟩:=id I.loc;have ag:(X.env.scope.kind==.class||(X.env.scope.kind==.module&&X.env.locals != X.env.globals))=false:=by rw[I.ok.kind];rfl
 have ai:i<σ.length:=by rw[I.len];exact(List.getElem?_eq_some_iff.mp hi).1
 have af:=I.cne;have aa:∀{a:Addr}{h':Heap},(∃o,s.heap.get? a=some o/\H a=none)->fj a s.heap h'->HOk X.prog X.w H h':=fun {a h'} ha hs b ob e=>by
  obtain⟨_,_,ac⟩:=ha;refine(I.hok b ob e).stay (fun c w' hc q=>(hs.2 c ?_).trans q) (fun _ q=>q) fun _ _ q=>q;rintro rfl;rcases hc with rfl|hc
  ·rw[ac]at e;cases e
  ·rw[ac]at hc;cases hc
 rcases hx with hk|hk
 ·refine wpAny_storeName_local hk hn (fun h' am hs=>?_) ag;obtain⟨oL,_,_,al,_⟩:=id hn;refine h _ ⟨I.ok,I.os,I.bare,⟨fun b o e n hb hx=>?_,fun b o e n hb hx=>?_,I.base.free,fun b o e hx=>?_,I.base.tups,I.base.frzs,I.base.tbls⟩,⟨_,am,fun j y v' e1 e2 e3=>?_⟩,fun y c e=>?_,I.free,I.freeC,fun p hp=>?_,aa ⟨oL,al,I.free⟩ hs,by simpa using I.len⟩ ⟨_,hs,.inl rfl⟩
  ·exact(hs.2 b (jq (fc (fi e) I.ok.above))).trans (I.base.keep b o e n hb hx)
  ·obtain⟨sl,e1⟩:=I.base.slot b o e n hb hx;exact⟨sl,(hs.2 b (jq (fc (fi e) I.ok.above))).trans e1⟩
  ·obtain⟨o',e1⟩:=I.base.there b o e hx;exact⟨o',(hs.2 b (jq (fc (fi e) I.ok.above))).trans e1⟩
  ·by_cases hj:j=i
   ·subst hj;rw[hi]at e1;cases e1;rw[qp ai]at e2;cases e2;exact⟨u,r,.inl ⟨hk,yv⟩⟩
   ·rw[rn (gj hj)]at e2;obtain⟨u',r',q⟩:=hl j y v' e1 e2 e3;refine⟨u',r',?_⟩;rcases q with ⟨k,e⟩|⟨k,c,e,z⟩
    ·refine .inl ⟨k,?_⟩;have:y≠x:=fun e=>hj (BM hN e1 (e▸hi));simp[this,e]
    ·exact .inr ⟨k,c,e,z.sameBut hs (af y c e)⟩
  ·obtain⟨w',z⟩:=I.cell y c e;exact⟨w',z.sameBut hs (af y c e)⟩
  ·obtain⟨e,n,ne,nf,d⟩:=I.pin p hp;exact⟨(hs.2 p.1 ne).trans e,n,ne,nf,d⟩
 ·have ae:X.fn x=true:=by
   rcases hf with z|z
   ·exact z
   ·rw[z]at hk;cases hk
  obtain⟨c,hc⟩:=I.ok.has x (.inl hk);obtain⟨w',z⟩:=I.cell x c hc;refine wpAny_storeName_cell I.ok.kind hk hc z (fun h' ah hs=>?_);obtain⟨oc,aj,ak⟩:=id z;refine h { s with heap:=h' } ⟨I.ok,I.os,I.bare,⟨fun b o e n hb hx=>?_,fun b o e n hb hx=>?_,I.base.free,fun b o e hx=>?_,I.base.tups,I.base.frzs,I.base.tbls⟩,⟨m,hn.sameBut hs (gj (af x c hc)),fun j y v' e1 e2 e3=>?_⟩,fun y c' e=>?_,I.free,I.freeC,fun p hp=>?_,aa ⟨oc,aj,I.freeC x c hc⟩ hs,by simpa using I.len⟩ ⟨c,hs,.inr hc⟩
  ·exact(hs.2 b (jq (fc (fi e) (I.ok.cab x c ae hc)))).trans (I.base.keep b o e n hb hx)
  ·obtain⟨sl,e1⟩:=I.base.slot b o e n hb hx;exact⟨sl,(hs.2 b (jq (fc (fi e) (I.ok.cab x c ae hc)))).trans e1⟩
  ·obtain⟨o',e1⟩:=I.base.there b o e hx;exact⟨o',(hs.2 b (jq (fc (fi e) (I.ok.cab x c ae hc)))).trans e1⟩
  ·by_cases hj:j=i
   ·subst hj;rw[hi]at e1;cases e1;rw[qp ai]at e2;cases e2;exact⟨u,r,.inr ⟨.inl hk,c,hc,ah⟩⟩
   ·rw[rn (gj hj)]at e2;obtain⟨u',r',q⟩:=hl j y v' e1 e2 e3;refine⟨u',r',?_⟩;rcases q with q|⟨k,c',e,z'⟩
    ·exact .inl q
    ·refine .inr ⟨k,c',e,z'.sameBut hs ?_⟩;rintro rfl;exact hj (BM hN e1 (I.ok.inj _ _ _ e hc▸hi))
  ·by_cases hcc:c'=c
   ·subst hcc;exact⟨_,ah⟩
   ·obtain⟨w2,z2⟩:=I.cell y c' e;exact⟨w2,z2.sameBut hs hcc⟩
  ·obtain⟨e,n,ne,nf,d⟩:=I.pin p hp;refine⟨(hs.2 p.1 ?_).trans e,n,ne,nf,d⟩;intro q;rw[q,aj]at e;have q':oc=p.2:=fg e;exact d w' (by rw[<- q'];exact ak)
theorem nU{M:Model}{A:fm}{E:bb->bf->Prop}{i:Nat}{x:Str}{v:V}{u:bb}{Q:Unit->bf->Prop}(I:Inv X zg σ H s)(hN:X.N.Nodup)(hi:X.N[i]?=some x)(hx:Loc X.env.scope x)(r:RelV v u)
  (h:∀s',Inv X zg (σ.set i (some v)) H s'->Q () s') (hf:X.fn x=true\/X.env.scope.names.lookup x=some .local:=by first|exact .inl rfl|exact .inr rfl|assumption):bq M A (storeName X.env x u) Q E s:=
 PH I hN hi hx r (fun s' I' _=>h s' I') hf
theorem Inv.call'{s':bf}{ch:List Addr}(I:Inv X zg σ H s)(ho:s'.os=s.os)(u:Un (frs X.stack) ch H H' s.heap s'.heap)(hok:HOk X.prog X.w H' s'.heap)(hg:AllBare s'.gens)
  (hch:∀b∈ch,(b∈X.ex\/X.s₀.heap.objs.size<=b)/\b≠X.env.locals/\(∀x c,X.env.cells.lookup x=some c->c≠b)/\∀p∈X.pn++zg,p.1≠b):Inv X zg σ H' s':=by
 obtain⟨h',g',d',t',o'⟩:=s';have e:o'=s.os:=ho;subst e;exact I.call (g':=g') (t':=t') (d':=d') u hok hg hch
end
abbrev XK:=bb->Option Addr->Hp->Prop
abbrev St:=List (Option V)
abbrev VK:=V->Hp->Prop
abbrev TE:=St->Hp->VK->Prop
abbrev TT:=St->Hp->(Bool->Hp->Prop)->Prop
abbrev TA:=St->Hp->(List V->Hp->Prop)->Prop
structure Ends where
 nx:St->Hp->Prop
 rt:VK
 bk:St->Hp->Prop:=fun _ _=>False
 ct:St->Hp->Prop:=fun _ _=>False
abbrev TS:=Ends->St->Hp->Prop
def EP(X:Cx)(zg:List (Addr×Obj))(σ:St)(Q:VK)(u:bb)(s':bf):Prop:=∃v H',Inv X zg σ H' s'/\RelV v u/\Q v H'
def TP(X:Cx)(zg:List (Addr×Obj))(σ:St)(Q:Bool->Hp->Prop)(b:Bool)(s':bf):Prop:=∃H',Inv X zg σ H' s'/\Q b H'
def AP(X:Cx)(zg:List (Addr×Obj))(σ:St)(Q:List V->Hp->Prop)(us:List bb)(s':bf):Prop:=∃vs H',Inv X zg σ H' s'/\Vals vs us/\Q vs H'
def SP(X:Cx)(zg:List (Addr×Obj))(D:Ends)(f:Flow)(s':bf):Prop:=
 match f with
 | .next=>∃ σ' H',Inv X zg σ' H' s'/\D.nx σ' H'
 | .brk=>∃ σ' H',Inv X zg σ' H' s'/\D.bk σ' H'
 | .cont=>∃ σ' H',Inv X zg σ' H' s'/\D.ct σ' H'
 | .ret u=>∃v σ' H',Inv X zg σ' H' s'/\RelV v u/\D.rt v H'
def PE(X:Cx)(e:Expr)(t:TE):Prop:=
 ∀(zg:List (Addr×Obj)) (s:bf) (σ:St) (H:Hp) (Q:VK),Inv X zg σ H s->t σ H Q->bq (model X.prog X.w) X.A (eval e X.env) (EP X zg σ Q) X.xe s
def PT(X:Cx)(e:Expr)(t:TT):Prop:=
 ∀(zg:List (Addr×Obj)) (s:bf) (σ:St) (H:Hp) (Q:Bool->Hp->Prop),Inv X zg σ H s->t σ H Q->bq (model X.prog X.w) X.A (isTrue e X.env (eval e X.env)) (TP X zg σ Q) X.xe s
def PW(X:Cx)(e:Expr)(t:TT):Prop:=
 ∀(whole:Sem bb) (zg:List (Addr×Obj)) (s:bf) (σ:St) (H:Hp) (Q:Bool->Hp->Prop),Inv X zg σ H s->t σ H Q->bq (model X.prog X.w) X.A (isTrue e X.env whole) (TP X zg σ Q) X.xe s
theorem PW.pt{X:Cx}{e:Expr}{t:TT}(h:PW X e t):PT X e t:=h _
def PA(X:Cx)(es:List Expr)(t:TA):Prop:=
 ∀(pos:Pos) (zg:List (Addr×Obj)) (s:bf) (σ:St) (H:Hp) (Q:List V->Hp->Prop),Inv X zg σ H s->t σ H Q->bq (model X.prog X.w) X.A (spliced (kl pos (cu es X.env))) (AP X zg σ Q) X.xe s
def PS(X:Cx)(st:Stmt)(t:TS):Prop:=
 ∀(zg:List (Addr×Obj)) (s:bf) (σ:St) (H:Hp) (D:Ends),Inv X zg σ H s->t D σ H->bq (model X.prog X.w) X.A (exec st X.env) (SP X zg D) X.xe s
def PSs(X:Cx)(st:List Stmt)(t:TS):Prop:=
 ∀(zg:List (Addr×Obj)) (s:bf) (σ:St) (H:Hp) (D:Ends),Inv X zg σ H s->t D σ H->bq (model X.prog X.w) X.A (execs st X.env) (SP X zg D) X.xe s
theorem thn{α:Type}{t:Sem α}{Q Q':α->bf->Prop}{M:Model}{A:fm}{E:bb->bf->Prop}{s:bf}(h:bq M A t Q E s)(hQ:∀a s,Q a s->Q' a s):bq M A t Q' E s:=ix h hQ fun _ _ x=>x
end
section
section
variable {X:Cx}
def f6(i:Nat):TE:=fun σ H Q=>∃v,σ[i]?=some (some v)/\Q v H
def tC(v:V):TE:=fun _ H Q=>Q v H
theorem Ia{i:Nat}{x:Str}{pos:Pos}(hN:X.N[i]?=some x)(hv:Vis X.env.scope x)(hd:(x==("__debug__":Str))=false:=by decide)(aa:(x==("__classdict__":Str))=false:=by decide):PE X (.Name x pos) (f6 i):=by
 intro zg s σ H Q I h;obtain⟨v,e,h⟩:=h;obtain⟨m,hn,hl⟩:=I.loc;obtain⟨u,r,l⟩:=hl i x v hN e hv;have fin:EP X zg σ Q u s:=⟨v,H,I,r,h⟩;rcases l with ⟨hk,hm⟩|⟨hk,c,hc,hcell⟩
 ·exact wpAny_Name (wpAny_loadName_local I.ok.kind hk hn hm fin) hd
 ·rcases hk with hk|hk
  ·exact wpAny_Name (wpAny_loadName_cell I.ok.kind hk hc hcell fin) hd
  ·exact wpAny_Name (wpAny_loadName_free I.ok.kind hk hc hcell fin aa) hd
theorem ze{i j pos}:PE X (.Constant (.int i) j pos) (tC (.int i)):=fun _ _ _ H _ I h=>wpAny_Constant_int ⟨.int i,H,I.tok _,⟨_,rfl⟩,h⟩
theorem cJ{b j pos}:PE X (.Constant (.bool b) j pos) (tC (.bl b)):=fun _ _ _ H _ I h=>Constant_bool ⟨.bl b,H,I,rfl,h⟩
theorem kP{j pos}:PE X (.Constant .none j pos) (tC .non):=fun _ _ _ H _ I h=>Constant_none ⟨.non,H,I,rfl,h⟩
theorem zq{x j pos}:PE X (.Constant (.str x) j pos) (tC (.str x)):=fun _ _ _ H _ I h=>Calls.Constant_str ⟨.str x,H,I.tok _,⟨_,rfl⟩,h⟩
def Gl(X:Cx)(x:Str):Prop:=X.env.kindOf x=some .globalImplicit
theorem nF{E:bb->bf->Prop}{zg:List (Addr×Obj)}{s:bf}{σ:St}{H:Hp}{x:Str}{u:bb}{pos:Pos}{Q:bb->bf->Prop}(I:Inv X zg σ H s)(hg:Gl X x)(hm:X.mg x=some u)(h:Q u s)
  (hd:(x==("__debug__":Str))=false:=by decide):bq (model X.prog X.w) X.A (eval (.Name x pos) X.env) Q E s:=
 Calls.Name_function_global I.ok.kind hg (Calls.loadGlobal_global (by rw[I.ok.glob];exact I.mod.glob.keeps I.bk) hm h) hd
theorem gY{E:bb->bf->Prop}{zg:List (Addr×Obj)}{s:bf}{σ:St}{H:Hp}{x:Str}{u:bb}{pos:Pos}{Q:bb->bf->Prop}(I:Inv X zg σ H s)(hg:Gl X x)(hm:X.mg x=none)(hv:ik x=some u)(h:Q u s)
  (hn:x ≠ "__name__":=by decide) (hd:(x==("__debug__":Str))=false:=by decide):bq (model X.prog X.w) X.A (eval (.Name x pos) X.env) Q E s:=by
 obtain⟨mb,h1,h2⟩:=I.mod.blt;exact Calls.Name_function_global I.ok.kind hg (Calls.loadGlobal_builtin (by rw[I.ok.glob];exact I.mod.glob.keeps I.bk) hm (by rw[I.ok.blt];exact h1.keeps I.bk) ((h2 x hn).trans hv) h) hd
theorem fZ{x:Str}{v:V}{u:bb}{pos:Pos}(hg:Gl X x)(hm:X.mg x=some u)(r:RelV v u)(hd:(x==("__debug__":Str))=false:=by decide):PE X (.Name x pos) (tC v):=
 fun _ _ _ H _ I h=>nF I hg hm ⟨v,H,I,r,h⟩ hd
theorem fS{x:Str}{v:V}{u:bb}{pos:Pos}(hg:Gl X x)(hm:X.mg x=none)(hv:ik x=some u)(r:RelV v u)(hn:x ≠ "__name__":=by decide)(hd:(x==("__debug__":Str))=false:=by decide):PE X (.Name x pos) (tC v):=
 fun _ _ _ H _ I h=>gY I hg hm hv ⟨v,H,I,r,h⟩ hn hd
variable {a b:Expr}{ta tb:TE}{pos:Pos}
def tB(t:TE):TT:=fun σ H Q=>t σ H fun x H1=>∃c,x=.bl c/\Q c H1
variable {tA tB':TT}{rest:List Expr}
def CG(t u:TT):TT:=fun σ H Q=>t σ H fun c H1=>if c=true then u σ H1 Q else Q false H1
def tOr(t u:TT):TT:=fun σ H Q=>t σ H fun c H1=>if c=true then Q true H1 else u σ H1 Q
def Ek(t:TT):TT:=fun σ H Q=>t σ H fun c H1=>Q (!c) H1
theorem mC(ha:PT X a tA):PW X (.BoolOp .And [a] pos) tA:=by
 intro wh zg s σ H Q I h;refine isTrue_and (thn (ha zg s σ H Q I h) fun c s1 e=>?_);cases c with
 |true=>exact isTrue_and_nil e
 |false=>exact e
theorem dQ(ha:PT X a tA):PW X (.BoolOp .Or [a] pos) tA:=by
 intro wh zg s σ H Q I h;refine isTrue_or (thn (ha zg s σ H Q I h) fun c s1 e=>?_);cases c with
 |false=>exact isTrue_or_nil e
 |true=>exact e
theorem i9(ha:PT X a tA)(hb:PW X (.BoolOp .And (b::rest) pos) tB'):PW X (.BoolOp .And (a::b::rest) pos) (CG tA tB'):=by
 intro wh zg s σ H Q I h;refine isTrue_and (thn (ha zg s σ H _ I h) fun c s1 ⟨H1,I1,q1⟩=>?_);cases c with
 |true=>exact hb wh zg s1 σ H1 Q I1 q1
 |false=>exact⟨H1,I1,q1⟩
theorem cU(ha:PT X a tA)(hb:PW X (.BoolOp .Or (b::rest) pos) tB'):PW X (.BoolOp .Or (a::b::rest) pos) (tOr tA tB'):=by
 intro wh zg s σ H Q I h;refine isTrue_or (thn (ha zg s σ H _ I h) fun c s1 ⟨H1,I1,q1⟩=>?_);cases c with
 |true=>exact⟨H1,I1,q1⟩
 |false=>exact hb wh zg s1 σ H1 Q I1 q1
theorem bY(ha:PT X a tA):PT X (.UnaryOp .Not a pos) (Ek tA):=by
 intro zg s σ H Q I h;exact isTrue_not (ha zg s σ H (fun c H1=>Q (!c) H1) I h)
def BZ(ta tb:TE):TE:=fun σ H Q=>ta σ H fun x H1=>∃c,x=.bl c/\if c=true then tb σ H1 Q else Q (.bl false) H1
def FX(ta:TE):TE:=fun σ H Q=>ta σ H fun x H1=>∃c,x=.bl c/\Q (.bl (!c)) H1
theorem gT{op}{t:TE}(h:PE X a t):PE X (.BoolOp op [a] pos) t:=fun zg s σ H Q I hw=>BoolOp_one (h zg s σ H Q I hw)
theorem eV(ha:PE X a ta)(hb:PE X (.BoolOp .And (b::rest) pos) tb):PE X (.BoolOp .And (a::b::rest) pos) (BZ ta tb):=by
 intro zg s σ H Q I h;refine BoolOp_and (thn (ha zg s σ H _ I h) fun v s1 ⟨x,H1,I1,r1,q1⟩=>?_);obtain⟨c,rfl,q1⟩:=q1;cases r1;refine kj ?_;cases c with
 |true=>exact hb zg s1 σ H1 Q I1 q1
 |false=>exact⟨.bl false,H1,I1,rfl,q1⟩
theorem Ev(ha:PE X a ta):PE X (.UnaryOp .Not a pos) (FX ta):=by
 intro zg s σ H Q I h;refine UnaryOp_ (thn (ha zg s σ H _ I h) fun v s1 ⟨x,H1,I1,r1,q1⟩=>?_);obtain⟨c,rfl,q1⟩:=q1;cases r1;exact not_of (kj ⟨.bl (!c),H1,I1,rfl,q1⟩)
def tIf(t:TT)(ta tb:TE):TE:=fun σ H Q=>t σ H fun c H1=>if c=true then ta σ H1 Q else tb σ H1 Q
theorem wK{c:Expr}(hc:PT X c tA)(ha:PE X a ta)(hb:PE X b tb):PE X (.IfExp c a b pos) (tIf tA ta tb):=by
 intro zg s σ H Q I h;refine wpAny_IfExp (thn (hc zg s σ H _ I h) fun d s1 ⟨H1,I1,q1⟩=>?_);cases d with
 |true=>exact ha zg s1 σ H1 Q I1 q1
 |false=>exact hb zg s1 σ H1 Q I1 q1
end
end
section
def SqL(K:bt)(H:Hp)(a:Addr)(xs:List V):Prop:=
 Rd H a (.lst xs) \/
  ∃(o:Obj) (its:Array bb) (n:Nat),K.lookup a=some o/\o.cls=.type "list"/\o.dict=none/\o.data=.seq its n/\its.size<=bw/\Vals xs its.toList
def SqT(K:bt)(H:Hp)(a:Addr)(xs:List V):Prop:=
 Rd H a (.tup xs) \/
  ∃(o:Obj) (its:Array bb) (n:Nat),K.lookup a=some o/\o.cls=.type "tuple"/\o.data=.seq its n/\its.size<=bw/\Vals xs its.toList
def Hx:bb->Option V
 | .none=>some .non
 | .bool b=>some (.bl b)
 | .int i _=>some (.int i)
 | .str x _=>some (.str x)
 | .bytes b _=>some (.byt b)
 | .float b _=>some (.flt b)
 | .ref a=>some (.ref a)
 | .type n=>some (.ty n)
 |_=>none
theorem RelV.abs{x:V}{u:bb}(r:RelV x u):Hx u=some x:=by
 cases x with
 |non=>cases r;rfl
 |bl _=>cases r;rfl
 |int _=>obtain⟨t,rfl⟩:=r;rfl
 |str _=>obtain⟨t,rfl⟩:=r;rfl
 |byt _=>obtain⟨t,rfl⟩:=r;rfl
 |flt _=>obtain⟨t,rfl⟩:=r;rfl
 |ref _=>cases r;rfl
 |ty _=>cases r;rfl
theorem RelV.inj{x y:V}{u:bb}(r:RelV x u)(q:RelV y u):x=y:=fg (r.abs.symm.trans q.abs)
theorem Vals.inj:∀{xs ys:List V}{us:List bb},Vals xs us->Vals ys us->xs=ys
 |_,_,_,.nil,.nil=>rfl
 |_,_,_,.cons r t,.cons r' t'=>by rw[r.inj r',Vals.inj t t']
section
variable {X:Cx}{zg:List (Addr×Obj)}{σ:St}{H:Hp}{s:bf}{a:Addr}{xs ys:List V}
theorem SqL.of{K:bt}(h:H a=some (.lst xs)):SqL K H a xs:=.inl (.inl h)
theorem SqT.of{K:bt}(h:H a=some (.tup xs)):SqT K H a xs:=.inl (.inl h)
theorem Inv.list(I:Inv X zg σ H s)(h:SqL X.K H a xs):∃aa:List bb,Vals xs aa/\PlainL s.heap a aa.toArray/\xs.length<=bw:=by
 rcases h with h|⟨o,aa,n,hk,hc,hd,hs,hz,r⟩
 ·obtain⟨z,aa,n,r,e⟩:=h.ok I.hok;exact⟨aa,r,⟨_,n,e,rfl,rfl,rfl⟩,z⟩
 ·refine⟨aa.toList,r,⟨o,n,I.kIn a o hk,hc,hd,by simpa using hs⟩,?_⟩;have e:=r.length;simp only[pe]at e;omega
theorem Inv.tuple(I:Inv X zg σ H s)(h:SqT X.K H a xs):∃aa:List bb,Vals xs aa/\IsTup s.heap a aa.toArray/\xs.length<=bw:=by
 rcases h with h|⟨o,aa,n,hk,hc,hs,hz,r⟩
 ·obtain⟨z,aa,r,p⟩:=h.ok I.hok;exact⟨aa,r,p,z.1⟩
 ·refine⟨aa.toList,r,⟨o,I.kIn a o hk,hc,n,by simpa using hs⟩,?_⟩;have e:=r.length;simp only[pe]at e;omega
theorem Inv.list_inj(I:Inv X zg σ H s)(h:SqL X.K H a xs)(h':SqL X.K H a ys):xs=ys:=by
 obtain⟨aa,r,⟨o,n,e,_,_,d⟩,_⟩:=I.list h;obtain⟨its',r',⟨o',n',e',_,_,d'⟩,_⟩:=I.list h';rw[e]at e';cases e';rw[d]at d';injection d' with d1 _
 have:aa=its':=by simpa using congrArg Array.toList d1
 subst this;exact r.inj r'
theorem Inv.tuple_inj(I:Inv X zg σ H s)(h:SqT X.K H a xs)(h':SqT X.K H a ys):xs=ys:=by
 obtain⟨aa,r,⟨o,e,_,n,d⟩,_⟩:=I.tuple h;obtain⟨its',r',⟨o',e',_,n',d'⟩,_⟩:=I.tuple h';rw[e]at e';cases e';rw[d]at d';injection d' with d1 _
 have:aa=its':=by simpa using congrArg Array.toList d1
 subst this;exact r.inj r'
end
abbrev Cx.wish (X:Cx) (E:bb->bf->Prop):Cx:={ X with xe:=E }
abbrev Cx.nox (X:Cx):Cx:=X.wish fun _ _=>False
theorem Cx.Ok.wish{X:Cx}(ok:X.Ok)(E:bb->bf->Prop):(X.wish E).Ok:=
 ⟨ok.mod,ok.kind,ok.glob,ok.blt,ok.above,ok.inj,ok.has,ok.cab,ok.hd,ok.frames,ok.stk,ok.exf,ok.bs,ok.bsz,ok.noex,ok.exfs,ok.funs,ok.frf⟩
theorem Cx.Ok.unwish{X:Cx}{E:bb->bf->Prop}(ok:(X.wish E).Ok):X.Ok:=
 ⟨ok.mod,ok.kind,ok.glob,ok.blt,ok.above,ok.inj,ok.has,ok.cab,ok.hd,ok.frames,ok.stk,ok.exf,ok.bs,ok.bsz,ok.noex,ok.exfs,ok.funs,ok.frf⟩
section
variable {X:Cx}{zg:List (Addr×Obj)}{σ:St}{H:Hp}{s:bf}{E:bb->bf->Prop}
theorem Inv.wish(I:Inv X zg σ H s)(E:bb->bf->Prop):Inv (X.wish E) zg σ H s:=⟨I.ok.wish E,I.os,I.bare,I.base,I.loc,I.cell,I.free,I.freeC,I.pin,I.hok,I.len⟩
theorem Inv.unwish(I:Inv (X.wish E) zg σ H s):Inv X zg σ H s:=⟨I.ok.unwish,I.os,I.bare,I.base,I.loc,I.cell,I.free,I.freeC,I.pin,I.hok,I.len⟩
theorem SP.unwish{D:Ends}{f:Flow}{s':bf}(h:SP (X.wish E) zg D f s'):SP X zg D f s':=by
 cases f with
 |next=>obtain⟨σ',H',I,q⟩:=h;exact⟨σ',H',I.unwish,q⟩
 |brk=>obtain⟨σ',H',I,q⟩:=h;exact⟨σ',H',I.unwish,q⟩
 |cont=>obtain⟨σ',H',I,q⟩:=h;exact⟨σ',H',I.unwish,q⟩
 |ret u=>obtain⟨v,σ',H',I,r,q⟩:=h;exact⟨v,σ',H',I.unwish,r,q⟩
theorem PE.nox{e:Expr}{t:TE}(h:PE X.nox e t):PE X e t:=fun zg s σ H Q I hw=>
 ix (h zg s σ H Q (I.wish _) hw) (fun _ _ ⟨v,H',I',r,q⟩=>⟨v,H',I'.unwish,r,q⟩) fun _ _ z=>ib z
theorem PT.nox{e:Expr}{t:TT}(h:PT X.nox e t):PT X e t:=fun zg s σ H Q I hw=>
 ix (h zg s σ H Q (I.wish _) hw) (fun _ _ ⟨H',I',q⟩=>⟨H',I'.unwish,q⟩) fun _ _ z=>ib z
theorem PSs.nox{st:List Stmt}{t:TS}(h:PSs X.nox st t):PSs X st t:=fun zg s σ H D I hw=>
 ix (h zg s σ H D (I.wish _) hw) (fun _ _ q=>q.unwish) fun _ _ z=>ib z
end
section
variable {X:Cx}{st:Stmt}{rest:List Stmt}{t u:TS}{e:Expr}{te:TE}{pos:Pos}
def AO:TS:=fun D σ H=>D.nx σ H
def bM(t u:TS):TS:=fun D σ H=>t { D with nx:=u D } σ H
theorem zJ:PSs X [] AO:=fun _ _ σ H _ I h=>on ⟨σ,H,I,h⟩
theorem zf(h1:PS X st t)(h2:PSs X rest u):PSs X (st::rest) (bM t u):=by
 intro zg s σ H D I h;refine qz (thn (h1 zg s σ H { D with nx:=u D } I h) fun f s1 q=>?_);cases f with
 |next=>
  obtain⟨σ',H',I',q⟩:=q;exact h2 zg s1 σ' H' D I' q
 |ret v=>exact q
 |brk=>exact q
 |cont=>exact q
theorem zi(h1:PS X st t):PSs X [st] t:=by
 intro zg s σ H D I h;refine qz (thn (h1 zg s σ H D I h) fun f s1 q=>?_);cases f with
 |next=>exact on q
 |ret v=>exact q
 |brk=>exact q
 |cont=>exact q
theorem Inv.quiet{zg:List (Addr×Obj)}{σ:St}{H:Hp}{s:bf}(I:Inv X zg σ H s):interactive X.env=false:=by simp[interactive,I.ok.kind]
def EH(te:TE):TS:=fun D σ H=>te σ H fun _ H1=>D.nx σ H1
theorem kQ(he:PE X e te)(hs:sj e none pos.line X.env=pure false:=by rfl):PS X (.Expr e pos) (EH te):=by
 intro zg s σ H D I h;exact wpAny_Expr_any (thn (he zg s σ H _ I h) fun v s1 ⟨x,H1,I1,r1,q1⟩=>⟨σ,H1,I1,q1⟩) I.quiet hs
def u8(te:TE):TS:=fun D σ H=>te σ H D.rt
theorem zC(he:PE X e te):PS X (.Return (some e) pos) (u8 te):=by
 intro zg s σ H D I h;exact wpAny_Return_some (thn (he zg s σ H _ I h) fun v s1 ⟨x,H1,I1,r1,q1⟩=>⟨x,σ,H1,I1,r1,q1⟩)
def uE(c:TT)(t u:TS):TS:=fun D σ H=>c σ H fun b H1=>if b=true then t D σ H1 else u D σ H1
theorem aF{c:Expr}{a b:List Stmt}{tc:TT}(hc:PT X c tc)(ha:PSs X a t)(hb:PSs X b u):PS X (.If c a b pos) (uE tc t u):=by
 intro zg s σ H D I h;refine wpAny_If (thn (hc zg s σ H _ I h) fun d s1 ⟨H1,I1,q1⟩=>?_);cases d with
 |true=>exact ha zg s1 σ H1 D I1 q1
 |false=>exact hb zg s1 σ H1 D I1 q1
end
abbrev TG:=V->St->Hp->(St->Hp->Prop)->Prop
abbrev TGs:=List V->St->Hp->(St->Hp->Prop)->Prop
def PG(X:Cx)(aa:Expr)(t:TG):Prop:=
 ∀(zg:List (Addr×Obj)) (s:bf) (σ:St) (H:Hp) (v:V) (u:bb) (Q:St->Hp->Prop),Inv X zg σ H s->RelV v u->t v σ H Q ->
  bq (model X.prog X.w) X.A (assign aa X.env u) (fun _ s'=>∃ σ' H',Inv X zg σ' H' s'/\Q σ' H') X.xe s
def PGs(X:Cx)(ts:List Expr)(t:TGs):Prop:=
 ∀(zg:List (Addr×Obj)) (s:bf) (σ:St) (H:Hp) (vs:List V) (us:List bb) (Q:St->Hp->Prop),Inv X zg σ H s->Vals vs us->t vs σ H Q ->
  bq (model X.prog X.w) X.A (assignInOrder ((assignEach ts X.env).map (·.2)) us) (fun _ s'=>∃ σ' H',Inv X zg σ' H' s'/\Q σ' H') X.xe s
abbrev TSet:=V->V->V->Hp->(Hp->Prop)->Prop
def PSet(X:Cx)(t:TSet):Prop:=
 ∀(zg:List (Addr×Obj)) (s:bf) (σ:St) (H:Hp) (o i v:V) (ov iv u:bb) (Q:Hp->Prop),Inv X zg σ H s->RelV o ov->RelV i iv->RelV v u->t o i v H Q ->
  bq (model X.prog X.w) X.A (setItem ov iv u) (fun _ s'=>∃H',Inv X zg σ H' s'/\Q H') X.xe s
section
variable {X:Cx}{pos:Pos}
def gP(i:Nat):TG:=fun v σ H Q=>Q (σ.set i (some v)) H
theorem zM{i:Nat}{x:Str}(hN:X.N.Nodup)(hi:X.N[i]?=some x)(hx:Loc X.env.scope x)(hf:X.fn x=true\/X.env.scope.names.lookup x=some .local:=by first|exact .inl rfl|exact .inr rfl|assumption):PG X (.Name x pos) (gP i):=by
 intro zg s σ H v u Q I r h;exact wpAny_assign_Name (nU I hN hi hx r (fun s' I'=>⟨_,H,I',h⟩) hf)
def EB:TGs:=fun vs σ H Q=>vs=[]/\Q σ H
def Go(t:TG)(u:TGs):TGs:=fun vs σ H Q=>∃v r,vs=v::r/\t v σ H fun σ' H'=>u r σ' H' Q
theorem jF:PGs X [] EB:=by
 intro zg s σ H vs us Q I r h;obtain⟨e,h⟩:=h;subst e;cases r;exact assignInOrder_nil ⟨σ,H,I,h⟩
theorem cL{e:Expr}{es:List Expr}{t:TG}{u:TGs}(h1:PG X e t)(h2:PGs X es u)
  (hs:(assignEach (e::es) X.env).map (·.2)=assign e X.env::(assignEach es X.env).map (·.2):=by rfl):PGs X (e::es) (Go t u):=by
 intro zg s σ H vs us Q I r h;obtain⟨v,vr,e1,h⟩:=h;subst e1;cases r with
 |cons r rr=>
  rw[hs];refine assignInOrder_cons (thn (h1 zg s σ H _ _ _ I r h) fun _ s1 ⟨σ1,H1,I1,q1⟩=>?_);exact h2 zg s1 σ1 H1 _ _ Q I1 rr q1
def CH(K:bt)(n:Nat)(t:TGs):TG:=fun v σ H Q=>∃a xs,v=.ref a/\SqT K H a xs/\xs.length=n/\t xs σ H Q
theorem iR{es:List Expr}{k:Nat}{t:TGs}{n:Nat}(hc:X.calm=true)(h:PGs X es t)
  (hn:(assignEach es X.env).length=n:=by rfl) (hst:(assignEach es X.env).findIdx? (·.1)=none:=by rfl):PG X (.Tuple es k pos) (CH X.K n t):=by
 intro zg s σ H v u Q I r hw;obtain⟨a,xs,e1,hq,hl,hw⟩:=hw;subst e1;cases r;obtain⟨aa,rv,ht,hz⟩:=I.tuple hq;refine assign_Tuple_tuple (I.ok.hd hc) ht (by simp[hn,<- hl,rv.length]) hst fun h' hx=>?_;have I1:Inv X zg σ H { s with heap:=h' }:=I.kept (t':=s.toks) fun b o e=>hx b o (jq (fi e)) e;exact h zg _ σ H xs _ Q I1 (by simpa using rv) hw
def Fs(to ti:TE)(t:TSet):TG:=fun v σ H Q=>to σ H fun o H1=>ti σ H1 fun i H2=>t o i v H2 fun H3=>Q σ H3
theorem AM{o i:Expr}{to ti:TE}{t:TSet}(ho:PE X o to)(hi:PE X i ti)(hs:PSet X t)
  (ha:∀v,assign (.Subscript o i pos) X.env v=(do
   let ov <- holding [v] (eval o X.env)
   let iv <- holding [v,ov] (eval i X.env)
   standAt pos
   holding [v,ov,iv] (setItem ov iv v)
   release [v,ov,iv] []):=by intro _;rfl):PG X (.Subscript o i pos) (Fs to ti t):=by
 intro zg s σ H v u Q I r h;rw[ha];refine bc (kh (thn (ho zg s σ H _ I h) fun ov s1 ⟨x,H1,I1,r1,q1⟩=>?_));refine bc (kh (thn (hi zg s1 σ H1 _ I1 q1) fun iv s2 ⟨y,H2,I2,r2,q2⟩=>?_));refine bc (ly (bc (kh (thn (hs zg s2 σ H2 x y v ov iv u _ I2 r1 r2 r q2) fun _ s3 ⟨H3,I3,q3⟩=>?_))));exact wpAny_release ⟨σ,H3,I3,q3⟩
def iH(te:TE)(g:TG):TS:=fun D σ H=>te σ H fun x H1=>g x σ H1 D.nx
theorem vP{tg e:Expr}{te:TE}{g:TG}(he:PE X e te)(hg:PG X tg g)(hs:swapsWithSole [tg] e pos.line X.env=pure false:=by rfl)(hw:swappedStores [tg] e X.env=pure none:=by rfl)
  (h1:(assignEach [tg] X.env).map (·.2)=[assign tg X.env]:=by rfl):PS X (.Assign [tg] e pos) (iH te g):=by
 intro zg s σ H D I h;refine wpAny_Assign_stores (thn (he zg s σ H _ I h) fun v s1 ⟨x,H1,I1,r1,q1⟩=>?_) hs hw;rw[h1];exact thn (hg zg s1 σ H1 x v _ I1 r1 q1) fun _ s2 q=>q
theorem zF{i:Nat}{x:Str}{e:Expr}{te:TE}{pos':Pos}(hN:X.N.Nodup)(hi:X.N[i]?=some x)(hx:Loc X.env.scope x)(he:PE X e te)(hs:sj e (some (.Name x pos')) pos.line X.env=pure false:=by rfl)(hf:X.fn x=true\/X.env.scope.names.lookup x=some .local:=by first|exact .inl rfl|exact .inr rfl|assumption):
  PS X (.Assign [.Name x pos'] e pos) (iH te (gP i)):=by
 intro zg s σ H D I h;refine wpAny_Assign_Name (thn (he zg s σ H _ I h) fun v s1 ⟨y,H1,I1,r1,q1⟩=>?_) hs;exact nU I1 hN hi hx r1 (fun s2 I2=>⟨_,H1,I2,q1⟩) hf
end
structure It where
 go:Nat->Hp->Prop
 yld:Nat->Hp->V->Hp->Prop
 stop:Nat->Hp->Prop
def FpOk(X:Cx)(zg:List (Addr×Obj))(H:Hp)(b:Addr):Prop:=
 H b=none/\b≠X.env.locals/\b∉X.fs/\(b∈X.ex\/X.s₀.heap.objs.size<=b)/\(∀x c,X.env.cells.lookup x=some c->c≠b)/\∀p∈X.pn++zg,p.1≠b
theorem Inv.fpOk{X:Cx}{zg:List (Addr×Obj)}{σ:St}{H H':Hp}{s:bf}{b:Addr}(I:Inv X zg σ H s)(hb:s.heap.objs.size<=b)(hn:H' b=none):FpOk X zg H' b:=by
 refine⟨hn,qg (fc I.lt hb),I.nofs hb,.inr (ie I.sz hb),fun x c e z=>?_,fun p hp z=>?_⟩
 ·obtain⟨v,q⟩:=I.cell x c e;exact absurd (fc q.lt (by rw[z];exact hb)) (jw _)
 ·exact absurd (fc (fi (I.pin p hp).1) (by rw[z];exact hb)) (jw _)
structure Turn(P:df)(w:gg)(K:bt)(tg:Expr)(J:It)(fp:List Addr)(it:Addr)(tn:Nat->Heap->Prop):Prop where
 mem:it∈fp
 obj:∀i h,tn i h->∀b∈fp,∃o,h.get? b=some o/\∀v,o.data≠.cell v
 keep:∀i h h',tn i h->(∀b∈fp,∀o,h.get? b=some o->h'.get? b=some o)->tn i h'
 item:∀(X:Cx),X.prog=P->X.w=w->X.K=K->X.calm=true->∀(i:Nat) (zg:List (Addr×Obj)) (s:bf) (σ:St) (H:Hp) (E:bb->bf->Prop),Inv X zg σ H s->(∀b∈fp,FpOk X zg H b)->tn i s.heap->J.go i H ->
  bq (model P w) X.A (pyNext (.ref it)) (fun r s1=>∃u,r=some u /\
   bq (model P w) X.A (letOwnedTupleGo tg (.ref it) u) (fun _ s2=>∃x H',Inv X zg σ H' s2/\RelV x u/\J.yld i H x H'/\tn (i+1) s2.heap/\∀b∈fp,H' b=none) E s1) E s
 done:∀(X:Cx),X.prog=P->X.w=w->X.K=K->X.calm=true->∀(i:Nat) (zg:List (Addr×Obj)) (s:bf) (σ:St) (H:Hp) (E:bb->bf->Prop),Inv X zg σ H s->(∀b∈fp,FpOk X zg H b)->tn i s.heap->J.stop i H ->
  bq (model P w) X.A (pyNext (.ref it)) (fun r s1=>r=none/\Inv X zg σ H s1) E s
 self:∀(A:fm) (i:Nat) (s:bf) (Q:bb->bf->Prop) (E:bb->bf->Prop),tn i s.heap->Q (.ref it) s->bq (model P w) A (pyIter (.ref it)) Q E s
abbrev TI:=St->Hp->(It->Hp->Prop)->Prop
def PIE(X:Cx)(zg:List (Addr×Obj))(σ:St)(tg:Expr)(R:It->Hp->Prop)(aa:bb)(s2:bf):Prop:=
 ∃(it:Addr) (fp:List Addr) (tn:Nat->Heap->Prop) (J:It) (H':Hp),aa=.ref it/\Inv X zg σ H' s2/\Turn X.prog X.w X.K tg J fp it tn/\tn 0 s2.heap/\(∀b∈fp,FpOk X zg H' b)/\R J H'
def PI(X:Cx)(tg iter:Expr)(wi:TI):Prop:=
 ∀(zg:List (Addr×Obj)) (s:bf) (σ:St) (H:Hp) (R:It->Hp->Prop),Inv X zg σ H s->wi σ H R ->
  bq (model X.prog X.w) X.A (eval iter X.env) (fun v s1=>bq (model X.prog X.w) X.A (pyIter v) (PIE X zg σ tg R) X.xe s1) X.xe s
theorem lT{M:Model}{A:fm}{E:bb->bf->Prop}{s:bf}{tg:Expr}{it:Addr}{u:bb}{o:Obj}{n:String}{vs:Array bb}{Q:Unit->bf->Prop}(ho:s.heap.get? it=some o)(hc:o.cls=.type n)(hd:o.data=.fields vs)
    (hn:["enumerate","zip","dict_itemiterator","dict_reverseitemiterator","odict_iterator","itertools.zip_longest","itertools.pairwise"].contains n=false) (hQ:Q () s):bq M A (letOwnedTupleGo tg (.ref it) u) Q E s:=by
  unfold letOwnedTupleGo;cases tg<;>first
    |exact bp hQ
    | (cases u<;>first
        |exact bp hQ
        | (refine bc (wpAny_load ho ?_)
           rw[hc,hd];show bq M A (if (["enumerate","zip","dict_itemiterator","dict_reverseitemiterator","odict_iterator","itertools.zip_longest","itertools.pairwise"].contains n&&vs[0]?==some (ml _))=true then _ else _) Q E s;rw[cb (by intro h;rw[hn,ph]at h;cases h)];exact bp hQ))
def Itl(K:bt)(a:Addr):It:=
 ⟨fun i H=>∃xs x,SqL K H a xs/\xs[i]?=some x,fun i H x H'=>H'=H/\∀xs,SqL K H a xs->xs[i]?=some x,fun i H=>∃xs,SqL K H a xs/\xs.length<=i⟩
def Itt(K:bt)(a:Addr):It:=
 ⟨fun i H=>∃xs x,SqT K H a xs/\xs[i]?=some x,fun i H x H'=>H'=H/\∀xs,SqT K H a xs->xs[i]?=some x,fun i H=>∃xs,SqT K H a xs/\xs.length<=i⟩
def Itr(lo:Int)(n:Nat):It:=⟨fun i _=>i<n,fun i H x H'=>H'=H/\x=.int (lo+i),fun i _=>n<=i⟩
theorem BP{P:df}{w:gg}{K:bt}{tg:Expr}(a it:Addr):Turn P w K tg (Itl K a) [it] it (fun i h=>h.IsListIter it a i) where
 mem:=by simp
 obj:=fun i h st b hb=>by
  have e:b=it:=by simpa using hb
  subst e;obtain⟨o,e,c,d⟩:=st;exact⟨o,e,fun v z=>by rw[d]at z;cases z⟩
 keep:=fun i h h' st k=>st.at fun o e=>k it yv o e
 item:=by
  intro X hP hw hK hc i zg s σ H E I hf st hg;subst hP hw hK;obtain⟨xs,x,hq,hx⟩:=hg;obtain⟨ac,rv,p,hz⟩:=I.list hq;obtain⟨u,hu,ru⟩:=rv.get hx;obtain⟨f0,f1,f2,f3,f4,f5⟩:=hf it yv;refine wpAny_pyNext_list_item st p.isList (x:=u) (by simpa using hu) fun h' aa sb=>?_;have I1:Inv X zg σ H { s with heap:=h' }:=I.turned (t':=s.toks) (fun b o hb e=>(sb.2 b hb).trans e) f0 f1 f3 f4 f5;obtain⟨o,e,c,d⟩:=id aa;exact⟨u,rfl,lT (s:={ s with heap:=h' }) e c d dz ⟨x,H,I1,ru,⟨rfl,fun ys hy=>by rw[I.list_inj hy hq];exact hx⟩,aa,fun b hb=>(hf b hb).1⟩⟩
 done:=by
  intro X hP hw hK hc i zg s σ H E I hf st hg;subst hP hw hK;obtain⟨xs,hq,hx⟩:=hg;obtain⟨ac,rv,p,hz⟩:=I.list hq;obtain⟨f0,f1,f2,f3,f4,f5⟩:=hf it yv;have hl:=rv.length;exact wpAny_pyNext_list_end (I.ok.hd hc) st p.isList (by simp;omega) fun h' eb=>⟨rfl,I.turned (t':=s.toks) (fun b o hb e=>eb b o hb e) f0 f1 f3 f4 f5⟩
 self:=fun _ _ _ _ _ st h=>wpAny_pyIter_listiter st h
theorem Lb{P:df}{w:gg}{K:bt}{tg:Expr}(a it:Addr):Turn P w K tg (Itt K a) [it] it (fun i h=>h.IsTupleIter it a i) where
 mem:=by simp
 obj:=fun i h st b hb=>by
  have e:b=it:=by simpa using hb
  subst e;obtain⟨o,e,c,d⟩:=st;exact⟨o,e,fun v z=>by rw[d]at z;cases z⟩
 keep:=fun i h h' st k=>st.at fun o e=>k it yv o e
 item:=by
  intro X hP hw hK hc i zg s σ H E I hf st hg;subst hP hw hK;obtain⟨xs,x,hq,hx⟩:=hg;obtain⟨aa,rv,p,hz⟩:=I.tuple hq;obtain⟨u,hu,ru⟩:=rv.get hx;obtain⟨f0,f1,f2,f3,f4,f5⟩:=hf it yv;refine wpAny_pyNext_tuple_item st (show s.heap.IsTuple a aa.toArray from p) (x:=u) (by simpa using hu) fun h' ac sb=>?_;have I1:Inv X zg σ H { s with heap:=h' }:=I.turned (t':=s.toks) (fun b o hb e=>(sb.2 b hb).trans e) f0 f1 f3 f4 f5;obtain⟨o,e,c,d⟩:=id ac;exact⟨u,rfl,lT (s:={ s with heap:=h' }) e c d dz ⟨x,H,I1,ru,⟨rfl,fun ys hy=>by rw[I.tuple_inj hy hq];exact hx⟩,ac,fun b hb=>(hf b hb).1⟩⟩
 done:=by
  intro X hP hw hK hc i zg s σ H E I hf st hg;subst hP hw hK;obtain⟨xs,hq,hx⟩:=hg;obtain⟨aa,rv,p,hz⟩:=I.tuple hq;obtain⟨f0,f1,f2,f3,f4,f5⟩:=hf it yv;have hl:=rv.length;exact wpAny_pyNext_tuple_end (I.ok.hd hc) st (show s.heap.IsTuple a aa.toArray from p) (by simp;omega) fun h' eb=>⟨rfl,I.turned (t':=s.toks) (fun b o hb e=>eb b o hb e) f0 f1 f3 f4 f5⟩
 self:=fun _ _ _ _ _ st h=>wpAny_pyIter_tupleiter st h
theorem LZ{P:df}{w:gg}{K:bt}{tg:Expr}(it:Addr)(lo:Int)(n:Nat):Turn P w K tg (Itr lo n) [it] it (fun i h=>IsRangeIter h it (lo+(i:Nat)*1) ((n:Int)-(i:Nat)) 1) where
 mem:=by simp
 obj:=fun i h st b hb=>by
  have e:b=it:=by simpa using hb
  subst e;exact⟨_,st,fun v z=>by
   have z':Data.fields _=Data.cell v:=z;cases z'⟩
 keep:=fun i h h' st k=>k it yv _ st
 item:=by
  intro X hP hw hK hc i zg s σ H E I hf st hg;subst hP hw hK;obtain⟨f0,f1,f2,f3,f4,f5⟩:=hf it yv;have W:=Walks.range (prog:=X.prog) (w:=X.w) (I.ok.hd hc) it lo 1 n;refine W.item i s _ _ hg st fun v h' tk hv aa kk=>?_;obtain⟨t,rfl⟩:=hv;have I1:Inv X zg σ H { s with heap:=h',toks:=tk }:=I.turned (fun b o hb e=>kk b o (by simpa using hb) e) f0 f1 f3 f4 f5;refine⟨_,rfl,lT (s:={ s with heap:=h',toks:=tk }) (n:="range_iterator") aa rfl rfl dz ⟨.int (lo+i),H,I1,⟨t,?_⟩,⟨rfl,rfl⟩,aa,fun b hb=>(hf b hb).1⟩⟩;rw[Int.mul_one]
 done:=by
  intro X hP hw hK hc i zg s σ H E I hf st hg;subst hP hw hK;obtain⟨f0,f1,f2,f3,f4,f5⟩:=hf it yv;exact wpAny_pyNext_range_end (I.ok.hd hc) st (by have:n<=i:=hg;omega) fun h' eb=>⟨rfl,I.turned (t':=s.toks) (fun b o hb e=>eb b o hb e) f0 f1 f3 f4 f5⟩
 self:=fun _ _ _ _ _ st h=>wpAny_pyIter_rangeiter st h
end
section
section
variable {X:Cx}{tg:Expr}
def AL(K:bt)(tl:TE):TI:=fun σ H R=>tl σ H fun x H1=>∃a,x=.ref a/\(∃xs,SqL K H1 a xs)/\R (Itl K a) H1
theorem Nu{l:Expr}{tl:TE}(hl:PE X l tl):PI X tg l (AL X.K tl):=by
 intro zg s σ H R I h;refine thn (hl zg s σ H _ I h) fun v s1 ⟨x,H1,I1,r1,q1⟩=>?_;obtain⟨a,e,⟨xs,hq⟩,q⟩:=q1;subst e;cases r1;obtain⟨aa,rv,p,hz⟩:=I1.list hq;refine my p.isList ?_;refine⟨s1.heap.objs.size,[s1.heap.objs.size],_,_,H1,rfl,I1.kept (t':=s1.toks) fun b o e=>bn _ e,BP a _,⟨_,cv _ rfl,rfl,rfl⟩,fun b hb=>?_,q⟩;have e:b=s1.heap.objs.size:=by simpa using hb
 subst e;exact I1.fpOk (fe _) (I1.hok.fresh (fe _))
def oY(wi:TI)(g:TG)(tb:TS):TS:=fun D σ H=>wi σ H fun J H1=>∃W:Nat->Nat->St->Hp->Prop,(∃m,W 0 m σ H1)/\∀i m σ H,W i m σ H ->
 (J.stop i H/\D.nx σ H)\/(J.go i H/\∃N:St->Hp->Prop,(∀ σ' H',N σ' H'->∃m',m'<m/\W (i+1) m' σ' H')/\∀x H',J.yld i H x H'->g x σ H' fun σ2 H2=>tb { D with nx:=N,ct:=N,bk:=D.nx } σ2 H2)
def tL(fp:List Addr)(h:Heap):List (Addr×Obj):=fp.filterMap fun b=>(h.get? b).map fun o=>(b,o)
theorem v7{fp:List Addr}{h:Heap}{b:Addr}{o:Obj}(hb:b∈fp)(e:h.get? b=some o):(b,o)∈tL fp h:=mem_filterMap.mpr ⟨b,hb,by rw[e];rfl⟩
theorem MI{fp:List Addr}{h:Heap}{p:Addr×Obj}(hp:p∈tL fp h):p.1∈fp/\h.get? p.1=some p.2:=by
 obtain⟨b,hb,e⟩:=mem_filterMap.mp hp;cases q:h.get? b with
 |none=>rw[q]at e;cases e
 |some o=>
  rw[q]at e;have e':(b,o)=p:=fg e;subst e';exact⟨hb,q⟩
theorem Inv.pinned{zg:List (Addr×Obj)}{σ:St}{H:Hp}{s:bf}{fp:List Addr}(I:Inv X zg σ H s)(hf:∀b∈fp,FpOk X zg H b)(ho:∀b∈fp,∃o,s.heap.get? b=some o/\∀v,o.data≠.cell v):Inv X (zg++tL fp s.heap) σ H s:=
 I.pins_of fun p hp=>(mem_append.mp hp).elim (fun z=>I.pin p (fh _ z)) fun z=>by
  obtain⟨hb,e⟩:=MI z;obtain⟨f0,f1,f2,_⟩:=hf p.1 hb;obtain⟨o,e',d⟩:=ho p.1 hb;rw[e]at e';cases e';exact⟨e,f0,f1,f2,d⟩
theorem Inv.unpinned{zg pl:List (Addr×Obj)}{σ:St}{H:Hp}{s:bf}(I:Inv X (zg++pl) σ H s):Inv X zg σ H s:=I.pins_of fun p hp=>I.pin p (fh _ (fk _ hp))
theorem eG{iter:Expr}{ae:List Stmt}{wi:TI}{g:TG}{tb:TS}{pos:Pos}(hp:PassesOwn (model X.prog X.w) X.A X.env X.xe)(hc:X.calm=true)(hi:PI X tg iter wi)(hg:PG X tg g)(hb:PSs X ae tb)
  (hs:∀x,foldedSetIterable iter X.env x=pure x:=by intro _;rfl):PS X (.For tg iter ae [] pos) (oY wi g tb):=by
 intro zg s σ H D I h;refine wpAny_For (thn (hi zg s σ H _ I h) fun v s1 h1=>thn h1 fun al s2 h2=>?_) hs;obtain⟨it,fp,tn,J,H2,e,I2,T,aj,f2,W,⟨m0,w0⟩,ag⟩:=h2;subst e
 have ac:∀{H':Hp},(∀b∈fp,H' b=none)->∀b∈fp,FpOk X zg H' b:=fun hn b hb=>⟨hn b hb,(f2 b hb).2⟩;refine codeAny_forLoop_any (fun n s'=>∃i σ' H',Inv X zg σ' H' s'/\tn i s'.heap/\(∀b∈fp,H' b=none)/\W i n σ' H') ?_ m0 ⟨0,σ,H2,I2,aj,fun b hb=>(f2 b hb).1,w0⟩;rintro n s3 ⟨i,σ3,H3,I3,ai,ah,w3⟩;rcases ag i n σ3 H3 w3 with ⟨stop,qn⟩|⟨go,N,hN,step⟩
 ·refine rp hp (thn (T.done X rfl rfl rfl hc i zg s3 σ3 H3 X.xe I3 (ac ah) ai stop) fun r s4 ⟨hr,I4⟩=>?_);subst hr;exact on ⟨σ3,H3,I4,qn⟩
 ·refine rp hp (thn (T.item X rfl rfl rfl hc i zg s3 σ3 H3 X.xe I3 (ac ah) ai go) fun r s4 ⟨u,hr,h4⟩=>?_);subst hr;refine rp hp (thn h4 fun _ s5 ⟨x,H5,I5,r5,y5,af,ak⟩=>?_);have I5':=I5.pinned (ac ak) (T.obj _ _ af);refine rp hp (thn (hg _ s5 σ3 H5 x u _ I5' r5 (step x H5 y5)) fun _ s6 ⟨σ6,H6,I6,q6⟩=>?_);refine rp hp (thn (hb _ s6 σ6 H6 _ I6 q6) fun f s7 q7=>?_);have aa:∀{σ7:St}{H7:Hp},Inv X (zg++tL fp s5.heap) σ7 H7 s7->N σ7 H7->∃m,m<n/\∃i σ' H',Inv X zg σ' H' s7/\tn i s7.heap/\(∀b∈fp,H' b=none)/\W i m σ' H':=fun {σ7 H7} I7 n7=>by
   obtain⟨m',hm,w7⟩:=hN σ7 H7 n7;refine⟨m',hm,i+1,σ7,H7,I7.unpinned,T.keep _ _ _ af fun b hb o e=>(I7.pin (b,o) (fh _ (fh _ (v7 hb e)))).1,fun b hb=>?_,w7⟩;obtain⟨o,e,d⟩:=T.obj _ _ af b hb;exact(I7.pin (b,o) (fh _ (fh _ (v7 hb e)))).2.1
  cases f with
  |next=>obtain⟨σ7,H7,I7,n7⟩:=q7;exact aa I7 n7
  |cont=>obtain⟨σ7,H7,I7,n7⟩:=q7;exact aa I7 n7
  |brk=>obtain⟨σ7,H7,I7,q7⟩:=q7;exact⟨σ7,H7,I7.unpinned,q7⟩
  |ret v=>obtain⟨x7,σ7,H7,I7,r7,q7⟩:=q7;exact⟨x7,σ7,H7,I7.unpinned,r7,q7⟩
end
theorem LY{K:bt}{a:Addr}{xs:List V}{g:TG}{tb:TS}{D:Ends}{σ:St}{H:Hp}(Pv:Nat->St->Hp->Prop)(h0:Pv 0 σ H)(hl:∀i σ H,i<=xs.length->Pv i σ H->SqL K H a xs)
  (hs:∀i x σ H,xs[i]?=some x->Pv i σ H->g x σ H fun σ2 H2=>tb { D with nx:=Pv (i+1),ct:=Pv (i+1),bk:=D.nx } σ2 H2) (hd:∀ σ H,Pv xs.length σ H->D.nx σ H):
  ∃W:Nat->Nat->St->Hp->Prop,(∃m,W 0 m σ H)/\∀i m σ H,W i m σ H ->
   ((Itl K a).stop i H/\D.nx σ H)\/((Itl K a).go i H/\∃N:St->Hp->Prop,(∀ σ' H',N σ' H'->∃m',m'<m/\W (i+1) m' σ' H')/\∀x H',(Itl K a).yld i H x H'->g x σ H' fun σ2 H2=>tb { D with nx:=N,ct:=N,bk:=D.nx } σ2 H2):=by
 refine⟨fun i m σ H=>m=xs.length-i/\i<=xs.length/\Pv i σ H,⟨xs.length,yv,qc _,h0⟩,?_⟩;rintro i m σ H ⟨rfl,hi,p⟩;have q:=hl i σ H hi p;by_cases hlt:i<xs.length
 ·refine .inr ⟨⟨xs,xs[i],q,by simp[hlt]⟩,Pv (i+1),fun σ' H' p'=>⟨xs.length-(i+1),yw,rfl,hlt,p'⟩,fun x H' y=>?_⟩;obtain⟨e,y⟩:=y;subst e;exact hs i x σ _ (y xs q) p
 ·have e:i=xs.length:=yw
  subst e;exact .inl ⟨⟨xs,q,fe _⟩,hd σ H p⟩
end
section
abbrev R2:=V->V->Hp->VK->Prop
def OpR(X:Cx)(f:bb->bb->Sem bb)(r:R2):Prop:=
 ∀(zg:List (Addr×Obj)) (s:bf) (σ:St) (H:Hp) (x y:V) (v u:bb) (Q:VK),Inv X zg σ H s->RelV x v->RelV y u->r x y H Q ->
  bq (model X.prog X.w) X.A (f v u) (EP X zg σ Q) X.xe s
def UnR(X:Cx)(f:bb->Sem bb)(r:V->Hp->VK->Prop):Prop:=
 ∀(zg:List (Addr×Obj)) (s:bf) (σ:St) (H:Hp) (x:V) (v:bb) (Q:VK),Inv X zg σ H s->RelV x v->r x H Q ->
  bq (model X.prog X.w) X.A (f v) (EP X zg σ Q) X.xe s
def CallR(X:Cx)(f:bb)(r:List V->Hp->VK->Prop):Prop:=
 ∀(zg:List (Addr×Obj)) (s:bf) (σ:St) (H:Hp) (xs:List V) (us:List bb) (Q:VK),Inv X zg σ H s->Vals xs us->r xs H Q ->
  bq (model X.prog X.w) X.A (call f us) (EP X zg σ Q) X.xe s
def TruR(X:Cx)(r:V->Hp->(Bool->Hp->Prop)->Prop):Prop:=
 ∀(zg:List (Addr×Obj)) (s:bf) (σ:St) (H:Hp) (x:V) (v:bb) (Q:Bool->Hp->Prop),Inv X zg σ H s->RelV x v->r x H Q ->
  bq (model X.prog X.w) X.A (truthy v) (TP X zg σ Q) X.xe s
def tOp(r:R2)(ta tb:TE):TE:=fun σ H Q=>ta σ H fun x H1=>tb σ H1 fun y H2=>r x y H2 Q
def tUn(r:V->Hp->VK->Prop)(ta:TE):TE:=fun σ H Q=>ta σ H fun x H1=>r x H1 Q
def rI(C:Int->Int->Prop)(g:Int->Int->V):R2:=fun x y H Q=>∃i j,x=.int i/\y=.int j/\C i j/\Q (g i j) H
def rI0(g:Int->Int->V):R2:=fun x y H Q=>∃i j,x=.int i/\y=.int j/\Q (g i j) H
def rU(g:Int->V):V->Hp->VK->Prop:=fun x H Q=>∃i,x=.int i/\Q (g i) H
section
variable {X:Cx}{a b c:Expr}{ta tb tc:TE}{pos:Pos}
theorem yJ(ha:PE X a ta)(hb:PE X b tb){zg:List (Addr×Obj)}{s:bf}{σ:St}{H:Hp}{R:V->V->Hp->Prop}(I:Inv X zg σ H s)
  (h:ta σ H fun x H1=>tb σ H1 fun y H2=>R x y H2) {Q:bb->bf->Prop}{f:bb->bb->Sem bb}
  (hf:∀v u s2 x y H2,Inv X zg σ H2 s2->RelV x v->RelV y u->R x y H2->bq (model X.prog X.w) X.A (f v u) Q X.xe s2):
  bq (model X.prog X.w) X.A (eval a X.env) (fun v s₁=>bq (model X.prog X.w) X.A (eval b X.env) (fun u s₂=>bq (model X.prog X.w) X.A (f v u) Q X.xe s₂) X.xe s₁) X.xe s:=by
 refine thn (ha zg s σ H _ I h) fun v s1 ⟨x,H1,I1,r1,q1⟩=>?_;refine thn (hb zg s1 σ H1 _ I1 q1) fun u s2 ⟨y,H2,I2,r2,q2⟩=>?_;exact hf v u s2 x y H2 I2 r1 r2 q2
theorem zy{op:Operator}{r:R2}(ho:OpR X (lq op) r)(ha:PE X a ta)(hb:PE X b tb):PE X (.BinOp a op b pos) (tOp r ta tb):=by
 intro zg s σ H Q I h;exact wpAny_BinOp (yJ ha hb I h fun v u s2 x y H2 I2 rx ry q=>ho zg s2 σ H2 x y v u Q I2 rx ry q)
theorem gI{op:UnaryOp}{r:V->Hp->VK->Prop}(ho:UnR X (unaryOp op) r)(ha:PE X a ta):PE X (.UnaryOp op a pos) (tUn r ta):=by
 intro zg s σ H Q I h;exact UnaryOp_ (thn (ha zg s σ H _ I h) fun v s1 ⟨x,H1,I1,r1,q1⟩=>ho zg s1 σ H1 x v Q I1 r1 q1)
theorem opI{f:bb->bb->Sem bb}{C:Int->Int->Prop}{g:Int->Int->Int}
  (rule:∀(i j:Int) (t u:Tok) (s:bf) (Q:bb->bf->Prop) (E:bb->bf->Prop),C i j->Q (.int (g i j) s.toks) { s with toks:=s.toks+1 }->bq (model X.prog X.w) X.A (f (.int i t) (.int j u)) Q E s):
  OpR X f (rI C fun i j=>.int (g i j)):=by
 intro zg s σ H x y v u Q I rx ry h;obtain⟨i,j,rfl,rfl,hc,q⟩:=h;obtain⟨t,rfl⟩:=rx;obtain⟨t',rfl⟩:=ry;exact rule i j t t' s _ _ hc ⟨.int (g i j),H,I.tok _,⟨_,rfl⟩,q⟩
theorem FS{f:bb->bb->Sem bb}{g:Int->Int->Int}
  (rule:∀(i j:Int) (t u:Tok) (s:bf) (Q:bb->bf->Prop) (E:bb->bf->Prop),Q (.int (g i j) s.toks) { s with toks:=s.toks+1 }->bq (model X.prog X.w) X.A (f (.int i t) (.int j u)) Q E s):
  OpR X f (rI0 fun i j=>.int (g i j)):=by
 intro zg s σ H x y v u Q I rx ry h;obtain⟨i,j,rfl,rfl,q⟩:=h;obtain⟨t,rfl⟩:=rx;obtain⟨t',rfl⟩:=ry;exact rule i j t t' s _ _ ⟨.int (g i j),H,I.tok _,⟨_,rfl⟩,q⟩
theorem vW{f:bb->bb->Sem bb}{g:Int->Int->Bool}
  (rule:∀(i j:Int) (t u:Tok) (s:bf) (Q:bb->bf->Prop) (E:bb->bf->Prop),Q (.bool (g i j)) s->bq (model X.prog X.w) X.A (f (.int i t) (.int j u)) Q E s):
  OpR X f (rI0 fun i j=>.bl (g i j)):=by
 intro zg s σ H x y v u Q I rx ry h;obtain⟨i,j,rfl,rfl,q⟩:=h;obtain⟨t,rfl⟩:=rx;obtain⟨t',rfl⟩:=ry;exact rule i j t t' s _ _ ⟨.bl (g i j),H,I,rfl,q⟩
def CDivN(i j:Int):Prop:=j≠0/\j.natAbs<1073741824
def CPow(i j:Int):Prop:=0<=j/\j<=1000000/\i.natAbs<2 ^ 64
theorem HK:OpR X (lq .Add) (rI0 fun i j=>.int (i+j)):=FS fun _ _ _ _ _ _ _ q=>add_int q
theorem nG:OpR X (lq .Sub) (rI0 fun i j=>.int (i-j)):=FS fun _ _ _ _ _ _ _ q=>sub_int q
theorem HU:OpR X (lq .FloorDiv) (rI CDivN fun i j=>.int (i.fdiv j)):=opI fun _ _ _ _ _ _ _ hc q=>floordiv_int hc.1 q (.inl (PyProof.noPylong_small hc.2))
theorem iK:OpR X (lq .Mod) (rI (fun _ j=>0<j) fun i j=>.int (i % j)):=opI fun i j _ _ _ _ _ hc q=>by
 have h1:(0:Int)<j:=hc;exact mod_int' yw (by rw[Int.fmod_eq_emod_of_nonneg i yw];exact q)
theorem nN:OpR X (lq .Pow) (rI CPow fun i j=>.int (i ^ j.toNat)):=opI fun _ _ _ _ _ _ _ hc q=>pow_int_small hc.1 hc.2.1 hc.2.2 q
theorem unI{f:bb->Sem bb}{g:Int->Int}
  (rule:∀(i:Int) (t:Tok) (s:bf) (Q:bb->bf->Prop) (E:bb->bf->Prop),Q (.int (g i) s.toks) { s with toks:=s.toks+1 }->bq (model X.prog X.w) X.A (f (.int i t)) Q E s):
  UnR X f (rU fun i=>.int (g i)):=by
 intro zg s σ H x v Q I rx h;obtain⟨i,rfl,q⟩:=h;obtain⟨t,rfl⟩:=rx;exact rule i t s _ _ ⟨.int (g i),H,I.tok _,⟨_,rfl⟩,q⟩
theorem gU:UnR X (unaryOp .USub) (rU fun i=>.int (-i)):=unI fun _ _ _ _ _ q=>neg_int q
end
section
variable {X:Cx}{a b c:Expr}{ta tb tc:TE}{pos:Pos}
theorem vQ{zg:List (Addr×Obj)}{σ:St}{H:Hp}{s:bf}{Q:VK}{k k':Bool}(I:Inv X zg σ H s)(q:Q (.bl k) H)(e:k=k'):EP X zg σ Q (.bool k') s:=by
 subst e;exact⟨.bl k,H,I,rfl,q⟩
theorem iB:OpR X (jd .Lt) (rI0 fun i j=>.bl (decide (i<j))):=vW fun _ _ _ _ _ _ _ q=>lt_int q
theorem dM:OpR X (jd .LtE) (rI0 fun i j=>.bl (decide (i<=j))):=vW fun _ _ _ _ _ _ _ q=>le_int q
theorem Io:OpR X (jd .Gt) (rI0 fun i j=>.bl (decide (j<i))):=vW fun _ _ _ _ _ _ _ q=>gt_int q
theorem Ja:OpR X (jd .GtE) (rI0 fun i j=>.bl (decide (j<=i))):=vW fun _ _ _ _ _ _ _ q=>ge_int q
theorem K3:OpR X (jd .In) (fun x y H Q=>∃i j,x=.str i/\y=.str j/\Q (.bl (!(im j i 0 j.length 1).isEmpty)) H):=by
 intro zg s σ H x y v u Q I rx ry h;obtain⟨i,j,rfl,rfl,q⟩:=h;obtain⟨t,rfl⟩:=rx;obtain⟨t',rfl⟩:=ry;exact in_str (vQ I q rfl)
theorem LX:OpR X (jd .Is) (fun x y H Q=>y=.non/\Q (.bl (decide (x=.non))) H):=by
 intro zg s σ H x y v u Q I rx ry h;obtain⟨rfl,q⟩:=h;cases ry;refine is_none_gen (vQ I q ?_);cases x<;>first
  | (cases rx;rfl)
  | (obtain⟨t,rfl⟩:=rx;rfl)
theorem JG:OpR X (jd .IsNot) (fun x y H Q=>y=.non/\Q (.bl (!decide (x=.non))) H):=by
 intro zg s σ H x y v u Q I rx ry h;obtain⟨rfl,q⟩:=h;cases ry;refine isnot_none_gen (vQ I q ?_);cases x<;>first
  | (cases rx;rfl)
  | (obtain⟨t,rfl⟩:=rx;rfl)
theorem Kg:OpR X (jd .NotIn) (fun x y H Q=>∃i j,x=.str i/\y=.str j/\Q (.bl (!(!(im j i 0 j.length 1).isEmpty))) H):=by
 intro zg s σ H x y v u Q I rx ry h;obtain⟨i,j,rfl,rfl,q⟩:=h;obtain⟨t,rfl⟩:=rx;obtain⟨t',rfl⟩:=ry;exact notIn_str (vQ I q rfl)
theorem OpR.or{f:bb->bb->Sem bb}{r r':R2}(h:OpR X f r)(h':OpR X f r'):OpR X f (fun x y H Q=>r x y H Q\/r' x y H Q):=by
 intro zg s σ H x y v u Q I rx ry q;rcases q with q|q
 ·exact h zg s σ H x y v u Q I rx ry q
 ·exact h' zg s σ H x y v u Q I rx ry q
theorem nomark(b:Expr){op:CmpOp}(h:op≠.In:=by decide)(h2:op≠.NotIn:=by decide):behindInMarks op b=false:=by
 have e1:(op==CmpOp.In)=false:=by cases op<;>first|rfl|exact absurd rfl h
 have e2:(op==CmpOp.NotIn)=false:=by cases op<;>first|rfl|exact absurd rfl h2
 cases b<;>simp[behindInMarks,e1,e2]
theorem fO{op:CmpOp}{r:R2}(ho:OpR X (jd op) r)(ha:PE X a ta)(hb:PE X b tb)(hm:behindInMarks op b=false):PE X (.Compare a [op] [b] pos) (tOp r ta tb):=by
 intro zg s σ H Q I h;exact wpAny_Compare1 (yJ ha hb I h fun v u s2 x y H2 I2 rx ry q=>ho zg s2 σ H2 x y v u Q I2 rx ry q) hm
def oS(t:TE):TT:=fun σ H Q=>t σ H fun x H'=>∃k,x=.bl k/\Q k H'
theorem zA{op:CmpOp}{r:R2}(ho:OpR X (jd op) r)(ha:PE X a ta)(hb:PE X b tb)(hm:behindInMarks op b=false):PT X (.Compare a [op] [b] pos) (oS (tOp r ta tb)):=by
 intro zg s σ H Q I h;refine wpAny_isTrue_Compare1 (thn (ha zg s σ H _ I h) fun v s1 ⟨x,H1,I1,r1,q1⟩=>thn (hb zg s1 σ H1 _ I1 q1) fun u s2 ⟨y,H2,I2,r2,q2⟩=>
  thn (ho zg s2 σ H2 x y v u _ I2 r1 r2 q2) fun c s3 ⟨z,H3,I3,r3,k,e,q3⟩=>?_) hm
 subst e;cases r3;exact kj ⟨H3,I3,q3⟩
def yF(r r':R2)(ta tb tc:TE):TE:=fun σ H Q=>ta σ H fun x H1=>tb σ H1 fun y H2=>r x y H2 fun z H3=>∃k,z=.bl k /\
 (if k=true then tc σ H3 fun w' H4=>r' y w' H4 Q else Q (.bl false) H3)
theorem BI{op aa:CmpOp}{r r':R2}(ho:OpR X (jd op) r)(ac:OpR X (jd aa) r')(ha:PE X a ta)(hb:PE X b tb)(hc:PE X c tc)
  (hm:lastMarks [op,aa] [b,c]=false:=by with_unfolding_all rfl):PE X (.Compare a [op,aa] [b,c] pos) (yF r r' ta tb tc):=by
 intro zg s σ H Q I h;refine Compare_chain (thn (ha zg s σ H _ I h) fun v s1 ⟨x,H1,I1,r1,q1⟩=>chain_link (thn (hb zg s1 σ H1 _ I1 q1) fun u s2 ⟨y,H2,I2,r2,q2⟩=>
  thn (ho zg s2 σ H2 x y v u _ I2 r1 r2 q2) fun d s3 ⟨z,H3,I3,r3,k,e,q3⟩=>?_)) hm
 subst e;cases r3;refine kj ?_;cases k with
 |false=>exact ite_ff ⟨.bl false,H3,I3,rfl,q3⟩
 |true=>exact ite_tt (chain_last (thn (hc zg s3 σ H3 _ I3 q3) fun w' s4 ⟨z',H4,I4,r4,q4⟩=>ac zg s4 σ H4 y z' u w' Q I4 r2 r4 q4))
theorem vD{op aa:CmpOp}{r r':R2}(ho:OpR X (jd op) r)(ac:OpR X (jd aa) r')(ha:PE X a ta)(hb:PE X b tb)(hc:PE X c tc)
  (hm:lastMarks [op,aa] [b,c]=false:=by with_unfolding_all rfl):PT X (.Compare a [op,aa] [b,c] pos) (oS (yF r r' ta tb tc)):=by
 intro zg s σ H Q I h;refine isTrue_chain (thn (ha zg s σ H _ I h) fun v s1 ⟨x,H1,I1,r1,q1⟩=>test_link (thn (hb zg s1 σ H1 _ I1 q1) fun u s2 ⟨y,H2,I2,r2,q2⟩=>
  thn (ho zg s2 σ H2 x y v u _ I2 r1 r2 q2) fun d s3 ⟨z,H3,I3,r3,k,e,q3⟩=>?_)) hm
 subst e;cases r3;refine kj ?_;cases k with
 |false=>
  obtain⟨k',e',q'⟩:=q3;cases e';exact ite_ff ⟨H3,I3,q'⟩
 |true=>
  refine ite_tt (test_last (thn (hc zg s3 σ H3 _ I3 q3) fun w' s4 ⟨z',H4,I4,r4,q4⟩=>thn (ac zg s4 σ H4 y z' u w' _ I4 r2 r4 q4) fun d' s5 ⟨z2,H5,I5,r5,k2,e2,q5⟩=>?_));subst e2;cases r5;exact kj ⟨H5,I5,q5⟩
def TruV(K:bt)(x:V)(H:Hp)(k:Bool):Prop:=
 match x with
 | .non=>k=false
 | .bl b=>k=b
 | .int i=>k=(i != 0)
 | .str y=>y.length<=bw/\k=((y.length:Int) != 0)
 | .byt y=>y.size<=bw/\k=((y.size:Int) != 0)
 | .ref p=>(∃xs,SqL K H p xs/\k=!xs.isEmpty)\/(∃xs,SqT K H p xs/\k=!xs.isEmpty)\/∃kvs,H p=some (.dK kvs)/\k=!kvs.isEmpty
 |_=>False
theorem PF{κ:Type}{aa:List (κ×V)}{vs:List (κ×bb)}(r:KV aa vs):(!vs.isEmpty)=!aa.isEmpty:=by
 cases r<;>rfl
theorem Fw{xs:List V}{aa:List bb}(r:Vals xs aa):(!aa.toArray.isEmpty)=!xs.isEmpty:=by
 cases r<;>simp
theorem line63:(bw:Nat)<2 ^ 63:=by rw[ig];decide
theorem Nw:TruR X (fun x H Q=>∃k,TruV X.K x H k/\Q k H):=by
 intro zg s σ H x v Q I rx h;obtain⟨k,e,q⟩:=h;have hl:=line63;have hs:bw=16777216:=ig;cases x with
 |non=>
  cases rx;have e':k=false:=e;subst e';exact truthy_none ⟨H,I,q⟩
 |bl b=>
  cases rx;have e':k=b:=e;subst e';exact kj ⟨H,I,q⟩
 |int i=>
  obtain⟨t,rfl⟩:=rx;have e':k=(i != 0):=e;subst e';exact PySem.P.truthy_int ⟨H,I,q⟩
 |str y=>
  obtain⟨t,rfl⟩:=rx;obtain⟨hy,e'⟩:y.length<=bw/\k=((y.length:Int) != 0):=e;subst e';exact PySem.P.truthy_str yw ⟨H,I.tok _,q⟩
 |byt y=>
  obtain⟨t,rfl⟩:=rx;obtain⟨hy,e'⟩:y.size<=bw/\k=((y.size:Int) != 0):=e;subst e';exact W.truthy_bytes yw ⟨H,I.tok _,q⟩
 |ref p=>
  cases rx;have e':(∃xs,SqL X.K H p xs/\k=!xs.isEmpty)\/(∃xs,SqT X.K H p xs/\k=!xs.isEmpty)\/∃kvs,H p=some (.dK kvs)/\k=!kvs.isEmpty:=e;rcases e' with ⟨xs,hx,e'⟩|⟨xs,hx,e'⟩|⟨kvs,hx,e'⟩
  ·subst e';obtain⟨ac,r,pl,hz⟩:=I.list hx;have aa:=r.length;exact wpAny_truthy_list pl.isList (by simp only[fy];omega) ⟨H,I.tok _,by rw[Fw r];exact q⟩
  ·subst e';obtain⟨ac,r,pl,hz⟩:=I.tuple hx;have aa:=r.length;exact truthy_tuple pl (by simp only[fy];omega) ⟨H,I.tok _,by rw[Fw r];exact q⟩
  ·subst e';obtain⟨hz,hS,vs,r,m⟩:kvs.length<=bw/\(p==oh)=false/\∃vs,KV kvs vs/\s.heap.DictOf (fA X.prog X.w) p vs:=I.hok p _ hx;have aa:kvs.length=vs.length:=Paired.length r;exact wpAny_truthy_dict hS m yw ⟨H,I.tok _,by rw[PF r];exact q⟩
 |_=>exact(show False from e).elim
theorem bZ(ha:PE X a ta)(he:∀whole,isTrue a X.env whole=(do let v <- whole;standAt a.pos;holding [v] (truthy v))):
  PT X a (fun σ H Q=>ta σ H fun x H'=>∃k,TruV X.K x H' k/\Q k H'):=by
 intro zg s σ H Q I h;exact isTrue_plain (thn (ha zg s σ H _ I h) fun v s1 ⟨x,H1,I1,r1,q1⟩=>Nw zg s1 σ H1 x v Q I1 r1 q1) (he _)
theorem Jw:OpR X (lq .Add) (fun x y H Q=>∃i j,x=.str i/\y=.str j/\i.length+j.length<=bw/\Q (.str (i++j)) H):=by
 intro zg s σ H x y v u Q I rx ry h;obtain⟨i,j,rfl,rfl,hz,q⟩:=h;obtain⟨t,rfl⟩:=rx;obtain⟨t',rfl⟩:=ry;exact add_str (fun t' tk=>⟨.str (i++j),H,I.tok _,⟨_,rfl⟩,q⟩) hz
theorem vals1{x:V}{us:List bb}(r:Vals [x] us):∃u,us=[u]/\RelV x u:=by
 cases r with
 |cons r1 r2=>cases r2;exact⟨_,rfl,r1⟩
theorem vals2{x y:V}{us:List bb}(r:Vals [x,y] us):∃u w',us=[u,w']/\RelV x u/\RelV y w':=by
 cases r with
 |cons r1 r2=>
  cases r2 with
  |cons r3 r4=>cases r4;exact⟨_,_,rfl,r1,r3⟩
theorem Gk:CallR X (.builtin "abs") (fun xs H Q=>∃i,xs=[.int i]/\Q (.int (if i<0 then -i else i)) H):=by
 intro zg s σ H xs us Q I r h;obtain⟨i,rfl,q⟩:=h;obtain⟨u,rfl,t,rfl⟩:=vals1 r;exact call_abs_int fun u tk=>⟨.int (if i<0 then -i else i),H,I.tok _,⟨_,rfl⟩,q⟩
theorem KR(hc:X.calm=true):CallR X (.builtin "max") (fun xs H Q=>∃i j,xs=[.int i,.int j]/\Q (.int (if j>i then j else i)) H):=by
 intro zg s σ H xs us Q I r h;obtain⟨i,j,rfl,q⟩:=h;obtain⟨u,w',rfl,⟨t,rfl⟩,⟨t',rfl⟩⟩:=vals2 r;refine max_two_ints (I.ok.hd hc) fun h' tk k=>⟨_,H,I.kept k,?_,q⟩;by_cases hj:j>i
 ·rw[cm hj,cm hj];exact⟨_,rfl⟩
 ·rw[cb hj,cb hj];exact⟨_,rfl⟩
theorem LQ:CallR X (.type "int") (fun xs H Q=>(∃i,xs=[.int i]/\Q (.int i) H)\/∃k,xs=[.bl k]/\Q (.int (if k then 1 else 0)) H):=by
 intro zg s σ H xs us Q I r h;rcases h with ⟨i,rfl,q⟩|⟨k,rfl,q⟩
 ·obtain⟨u,rfl,t,rfl⟩:=vals1 r;exact call_int_int ⟨.int i,H,I,⟨_,rfl⟩,q⟩
 ·obtain⟨u,rfl,r1⟩:=vals1 r;cases r1;exact call_int_bool ⟨.int (if k then 1 else 0),H,I.tok _,⟨_,rfl⟩,q⟩
theorem jL:CallR X (.type "str") (fun xs H Q=>∃i,xs=[.int i]/\i.natAbs.log2<1920/\Q (.str (qh i)) H):=by
 intro zg s σ H xs us Q I r h;obtain⟨i,rfl,hz,q⟩:=h;obtain⟨u,rfl,t,rfl⟩:=vals1 r;exact PySem.P.str_of_int hz ⟨.str _,H,I.tok _,⟨_,rfl⟩,q⟩
end
end
section
structure ObjM(h:Heap)(x dx C:Addr)(mA:Str->Option bb):Prop where
 obj:h.get? x=some (W.instObj C dx)
 ns:h.Ns1 dx mA
 ne:dx≠x
theorem DF{h:Heap}{dx:Addr}{mA:Str->Option bb}(n:h.Ns1 dx mA):∃od,h.get? dx=some od/\∀name,W.lookIn name od=some (mA name):=by
 obtain⟨o,es,ep,ho,hd,hk,_,hm⟩:=n;refine⟨o,ho,fun name=>?_⟩;have e:=hm name;unfold nsFind findBy at e;rw[<- Array.find?_toList]at e;unfold W.lookIn;rw[hd];dsimp only;split
 ·rename_i y q;rw[q]at e;exact congrArg some e
 ·rename_i q;rw[q]at e;have a:es.toList.any (·.refKey)=false:=by
   rw[List.any_eq_false];intro y hy;obtain⟨z,t,aa⟩:=hk y (Array.mem_toList_iff.mp hy);simp[DictEntry.refKey,aa]
  have a':¬ es.toList.any (·.refKey)=true:=by rw[a];exact jo
  rw[cb a'];exact congrArg some e
theorem ObjM.look{h:Heap}{x dx C:Addr}{mA:Str->Option bb}(I:ObjM h x dx C mA):∃od,W.InstAt h x (W.instObj C dx) C (some od)/\∀name,W.lookIn name od=some (mA name):=
 let ⟨od,ho,hl⟩:=DF I.ns
 ⟨od,⟨I.obj,rfl,rfl,ho⟩,hl⟩
def fN(f:Str)(v:V):List (Str×V)->List (Str×V)
 | []=>[(f,v)]
 | (g,x)::r=>if g=f then (g,v)::r else (g,x)::fN f v r
theorem yA(f g:Str)(v:V):∀fs:List (Str×V),(fN f v fs).lookup g=if g=f then some v else fs.lookup g
 | []=>by
  show sk g [(f,v)]=_;by_cases h:g=f
  ·have hb:(g==f)=true:=beq_iff_eq.mpr h;simp only[sk,hb,cm h]
  ·have hb:(g==f)=false:=beq_eq_false_iff_ne.mpr h;simp only[sk,hb,cb h]
 | (k,x)::r=>by
  have ih:=yA f g v r;rw[show fN f v ((k,x)::r)=(if k=f then (k,v)::r else (k,x)::fN f v r)from rfl];by_cases hk:k=f
  ·rw[cm hk];by_cases h:g=k
   ·have hb:(g==k)=true:=beq_iff_eq.mpr h;simp only[sk,hb,cm (h.trans hk)]
   ·have hb:(g==k)=false:=beq_eq_false_iff_ne.mpr h;simp only[sk,hb,cb (fun e:g=f=>h (e.trans hk.symm))]
  ·rw[cb hk];by_cases h:g=k
   ·have hb:(g==k)=true:=beq_iff_eq.mpr h;simp only[sk,hb,cb (fun e:g=f=>hk (h.symm.trans e))]
   ·have hb:(g==k)=false:=beq_eq_false_iff_ne.mpr h;simp only[sk,hb];exact ih
theorem yN(f:Str)(v:V):∀fs:List (Str×V),f∈(fN f v fs).map (·.1)/\∀g,g∈fs.map (·.1)->g∈(fN f v fs).map (·.1)
 | []=>⟨by simp[fN],fun g h=>by simp at h⟩
 | (k,x)::r=>by
  obtain⟨i1,i2⟩:=yN f v r;rw[show fN f v ((k,x)::r)=(if k=f then (k,v)::r else (k,x)::fN f v r)from rfl];by_cases hk:k=f
  ·rw[cm hk];subst hk;exact⟨yv,fun g h=>by simpa using h⟩
  ·rw[cb hk];refine⟨?_,fun g h=>?_⟩
   ·rw[gk];exact cn _ i1
   ·rw[gk]at h ⊢;rcases mem_cons.mp h with e|e
    ·exact mem_cons.mpr (.inl e)
    ·exact cn _ (i2 g e)
theorem OM{v:V}{u:bb}(r:RelV v u):W.handedIn u=true:=by
 cases v with
 |non=>cases (show u=gf from r);rfl
 |bl b=>cases (show u=lc b from r);rfl
 |int i=>obtain⟨t,e⟩:=(show ∃t,u=Value.int i t from r);cases e;rfl
 |str x=>obtain⟨t,e⟩:=(show ∃t,u=Value.str x t from r);cases e;rfl
 |byt b=>obtain⟨t,e⟩:=(show ∃t,u=Value.bytes b t from r);cases e;rfl
 |flt b=>obtain⟨t,e⟩:=(show ∃t,u=Value.float b t from r);cases e;rfl
 |ref a=>cases (show u=bv a from r);rfl
 |ty n=>cases (show u=og n from r);rfl
section
variable {P:df}{w:gg}{H H':Hp}{h h':Heap}{a C dx:Addr}{fs fs':List (Str×V)}
theorem Kl(hok:HOk P w H h)(e:H a=some (.ins C dx fs)):∃mA,ObjM h a dx C mA/\(∀f,RelO (fs.lookup f) (mA f))/\PySem.Within mA (fs.map (·.1))/\fs.length<=1000/\H dx=some (.own a):=by
 obtain⟨d,z,ne,ob,mA,n,r,q⟩:=(show ObjOk P w H h a (.ins C dx fs)from hok a _ e);exact⟨mA,⟨ob,n,ne⟩,r,q,z,d⟩
end
structure Cls(K:bt)(C:Addr):Prop where
 pg:W.plainGet K C Str.empty=true
 hd:W.hasDictIn K C=true
 po:W.plainOver K C=true
 sa:rh K (.ref C) "__setattr__" = some (some (.builtin "object.__setattr__"))
theorem Cls.get{K:bt}{C:Addr}(c:Cls K C)(f:Str):W.plainGet K C f=true:=c.pg
def NoAttr(K:bt)(C:Addr)(f:Str):Prop:=rh K (.ref C) f=some none
section
variable {X:Cx}{zg:List (Addr×Obj)}{σ:St}{H:Hp}{s:bf}{a C dx:Addr}{fs:List (Str×V)}{f:Str}{v:V}{A:fm}{E:bb->bf->Prop}
theorem Ls{prog:df}{w:gg}{env:Env}{e:Expr}{f:Str}{pos:Pos}{s:bf}{Q:bb->bf->Prop}(hb:rk e f env (eval e env)=eval e env)
  (h:bq (model prog w) A (eval e env) (fun o s₁=>bq (model prog w) A (getAttr o f true) Q E s₁) E s):bq (model prog w) A (eval (.Attribute e f pos) env) Q E s:=
 Attribute_any_ h (by rw[arm_eval_Attribute,hb])
end
section
variable {X:Cx}{zg:List (Addr×Obj)}{σ:St}{H:Hp}{s:bf}{A:fm}{E:bb->bf->Prop}{Q:bb->bf->Prop}{c:bb}{b:Bool}
inductive TyOf (K:bt) (H:Hp):V->bb->Prop where
 |non:TyOf K H .non (.type "NoneType")
 |bl (x:Bool):TyOf K H (.bl x) (.type "bool")
 |int (i:Int):TyOf K H (.int i) (.type "int")
 |str (x:Str):TyOf K H (.str x) (.type "str")
 |flt (x:UInt64):TyOf K H (.flt x) (.type "float")
 |lst {a:Addr}{xs:List V} (e:H a=some (.lst xs)):TyOf K H (.ref a) (.type "list")
 |frz {a:Addr}{o:Obj}{xs:List V} (e:H a=some (.frz o (.lst xs))):TyOf K H (.ref a) (.type "list")
 |tup {a:Addr}{xs:List V} (e:H a=some (.tup xs)):TyOf K H (.ref a) (.type "tuple")
 |dK {a:Addr}{kvs:List (Key×V)} (e:Rd H a (.dK kvs)):TyOf K H (.ref a) (.type "dict")
 |dT {a:Addr}{kvs:List (List Key×V)} (e:Rd H a (.dT kvs)):TyOf K H (.ref a) (.type "dict")
 |ins {a C dx:Addr}{fs:List (Str×V)} (e:H a=some (.ins C dx fs)) (cl:Cls K C) (ha:rh K (.ref C) "__class__" = some (some (.builtin "object.__class__")))
   (hn:W.specialIn K (.builtin "object.__class__") "__get__" = some (some (.builtin "getset_descriptor.__get__"))) (htk:W.takesIn K (.builtin "object.__class__")=some true)
   (hm:ra K C (.type "object")=some true):TyOf K H (.ref a) (.ref C)
theorem N5{x:V}{u t:bb}(I:Inv X zg σ H s)(rx:RelV x u)(ty:TyOf X.K H x t)(e:W.kitOne X.K t c=some b)(h:∀tk,Q (.bool b) { s with toks:=tk }):
  bq (model X.prog X.w) A (call (.builtin "isinstance") [u,c]) Q E s:=by
 cases ty with
 |non=>cases (show u=gf from rx);exact pk W.kitx_none I.kIn ni e (fun z=>nomatch z) h
 |bl y=>cases (show u=lc y from rx);exact pk W.kitx_bool I.kIn ni e (fun z=>nomatch z) h
 |int i=>obtain⟨t,q⟩:=(show ∃t,u=Value.int i t from rx);cases q;exact pk W.kitx_int I.kIn ni e (fun z=>nomatch z) h
 |str y=>obtain⟨t,q⟩:=(show ∃t,u=Value.str y t from rx);cases q;exact pk W.kitx_str I.kIn ni e (fun z=>nomatch z) h
 |flt y=>obtain⟨t,q⟩:=(show ∃t,u=Value.float y t from rx);cases q;exact pk W.kitx_float I.kIn ni e (fun z=>nomatch z) h
 | @lst a xs ea=>
  cases (show u=bv a from rx);obtain⟨_,_,n,_,h1⟩:=(show ObjOk X.prog X.w H s.heap a (.lst xs)from I.hok a _ ea);exact pk W.kitx_list I.kIn ⟨_,h1,rfl⟩ e (fun z=>nomatch z) h
 | @frz a ob xs ea=>
  cases (show u=bv a from rx);obtain⟨_,_,_,n,_,h1⟩:=(show ObjOk X.prog X.w H s.heap a (.frz ob (.lst xs))from I.hok a _ ea);exact pk W.kitx_list I.kIn ⟨_,h1,rfl⟩ e (fun z=>nomatch z) h
 | @tup a xs ea=>
  cases (show u=bv a from rx);obtain⟨_,_,_,p⟩:=(show ObjOk X.prog X.w H s.heap a (.tup xs)from I.hok a _ ea);obtain⟨o,h1,h2,_⟩:=p;exact pk W.kitx_tuple I.kIn ⟨o,h1,h2⟩ e (fun z=>nomatch z) h
 | @dK a kvs ea=>
  cases (show u=bv a from rx);obtain⟨_,_,vs,_,p⟩:=(show ObjOk X.prog X.w H s.heap a (.dK kvs)from ea.ok I.hok);obtain⟨o,es,ep,h1,h2,_⟩:=p;exact pk W.kitx_dict I.kIn ⟨o,h1,h2.1⟩ e (fun z=>nomatch z) h
 | @dT a kvs ea=>
  cases (show u=bv a from rx);obtain⟨_,_,xs,_,o,es,ep,h1,h2,_⟩:=(show ObjOk X.prog X.w H s.heap a (.dT kvs)from ea.ok I.hok);exact pk W.kitx_dict I.kIn ⟨o,h1,h2.1⟩ e (fun z=>nomatch z) h
 | @ins a C dx fs ea cl ha hn htk hm=>
  cases (show u=bv a from rx);obtain⟨mA,O,_⟩:=Kl I.hok ea;obtain⟨od,J,_⟩:=O.look;exact pk (W.kitx_own (cl.get _) cl.hd ha hn htk hm) I.kIn J e (fun z=>nomatch z) h
end
end
section
structure Room(k:Nat)(A:fm):Prop where
 hd:A.handled=none
 dp:A.depth+3*k+5<recursionLimit
 un:A.units+16*k+200<so
theorem Room.mono{j k:Nat}{A:fm}(r:Room k A)(h:j<=k):Room j A:=⟨r.hd,by have:=r.dp;omega,by have:=r.un;omega⟩
theorem Room.deeper{k:Nat}{A:fm}(r:Room (k+1) A)(env:Env):Room k (A.deeper env):=
 ⟨r.hd,by have:=r.dp;show A.depth+1+3*k+5<_;omega,by have:=r.un;show A.units+3+16*k+200<_;omega⟩
theorem OW{A:fm}{C:Addr}{us:List bb}{kw:List (Str×bb)}:(A.under (.builtin "type.__call__" ⟨.ref C::us,kw⟩)).depth=A.depth+1:=by
 first|rfl|simp[Around.under,Code.weight,Code.isCreation,Code.isGuard,Code.isCaller,Code.frames,Code.isFrame,guardIds]
theorem Nv{A:fm}{C:Addr}{us:List bb}{kw:List (Str×bb)}:(A.under (.builtin "type.__call__" ⟨.ref C::us,kw⟩)).units=A.units+1:=by
 first|rfl|simp[Around.under,Code.cUnits,Code.frames,Code.isFrame]
theorem Room.make{k:Nat}{A:fm}(r:Room (k+1) A)(C:Addr)(us:List bb)(kw:List (Str×bb)):Room k (A.under (.builtin "type.__call__" ⟨.ref C::us,kw⟩)):=
 ⟨r.hd,by have:=r.dp;rw[OW];omega,by have:=r.un;rw[Nv];omega⟩
theorem Room.depth{k:Nat}{A:fm}(r:Room k A):A.depth<recursionLimit:=by have:=r.dp;omega
theorem Room.units{k:Nat}{A:fm}(r:Room k A):A.units+64<so:=by have:=r.un;omega
def nY:TA:=fun _ H Q=>Q [] H
def fQ(ta:TE)(tr:TA):TA:=fun σ H Q=>ta σ H fun x H1=>tr σ H1 fun xs H2=>Q (x::xs) H2
section
variable {X:Cx}{e:Expr}{es:List Expr}{te:TE}{t:TA}{pos:Pos}
theorem zd:PA X [] nY:=fun _ _ _ _ H Q I h=>Calls.spliced_nil ⟨[],H,I,.nil,h⟩
theorem za(ha:PE X e te)(hr:PA X es t)(hs:cu (e::es) X.env=(false,eval e X.env)::cu es X.env:=by rfl):PA X (e::es) (fQ te t):=by
 intro pos zg s σ H Q I h;rw[hs];show bq _ _ (spliced ((false,eval e X.env)::kl pos (cu es X.env))) _ _ s;refine Calls.spliced_cons (thn (ha zg s σ H _ I h) fun u s1 ⟨x,H1,I1,r1,q1⟩=>?_);exact thn (hr pos zg s1 σ H1 _ I1 q1) fun us s2 ⟨xs,H2,I2,r2,q2⟩=>⟨x::xs,H2,I2,.cons r1 r2,q2⟩
def wB(t:TA):TE:=fun σ H Q=>t σ H fun xs H1=>xs.length<=bw/\∀p,H1 p=none->Q (.ref p) (upd H1 p (.tup xs))
def kC(t:TA):TE:=fun σ H Q=>t σ H fun xs H1=>xs.length<=bw/\∀p,H1 p=none->Q (.ref p) (upd H1 p (.lst xs))
theorem cZ{x1}(h:PA X es t):PE X (.Tuple es x1 pos) (wB t):=by
 intro zg s σ H Q I hq;refine wpAny_Tuple_spliced (thn (h pos zg s σ H _ I hq) fun us s1 ⟨xs,H1,I1,r,z,q⟩=>⟨by rw[<- r.length];exact z,?_⟩);have hf:H1 s1.heap.objs.size=none:=I1.hok.fresh (fe _);refine⟨.ref s1.heap.objs.size,upd H1 s1.heap.objs.size (.tup xs),I1.laid (t':=s1.toks) (fun b u e=>bn _ e) (fe _) ?_,rfl,q _ hf⟩;exact⟨⟨z,_,cv _ rfl,rfl,I1.kpNew⟩,us,r,⟨_,cv _ rfl,rfl,_,rfl⟩⟩
theorem bF(h:PA X es t):PE X (.List es pos) (kC t):=by
 intro zg s σ H Q I hq;refine wpAny_List_spliced (thn (h pos zg s σ H _ I hq) fun us s1 ⟨xs,H1,I1,r,z,q⟩=>⟨by rw[<- r.length];exact z,?_⟩);have hf:H1 s1.heap.objs.size=none:=I1.hok.fresh (fe _);refine⟨.ref s1.heap.objs.size,upd H1 s1.heap.objs.size (.lst xs),I1.laid (t':=s1.toks) (fun b u e=>bn _ e) (fe _) ?_,rfl,q _ hf⟩;exact⟨z,us,0,r,cv _ rfl⟩
end
abbrev Sp:=List V->Hp->VK->XK->Prop
abbrev CXT:=List Env->Hp->bf->XK->bb->bf->Prop
structure Env0(P:df)(w:gg)(K:bt)(mg:Str->Option bb)(base:Heap)(A:fm)(outer:List Env)(s:bf)(H:Hp):Prop where
 frames:A.frames=some outer
 mod:Mod K mg base
 bs:∀b o,base.get? b=some o->s.heap.get? b=some o/\H b=none
 bsz:base.objs.size<=s.heap.objs.size
 funs:s.heap.FunFrames base outer
 frf:Frf (frs outer) H
 hok:HOk P w H s.heap
 bare:AllBare s.gens
theorem Env0.kIn{P:df}{w:gg}{K:bt}{mg:Str->Option bb}{base:Heap}{A:fm}{outer:List Env}{s:bf}{H:Hp}(e0:Env0 P w K mg base A outer s H):K.In s.heap:=e0.mod.kin.all (fun b o e=>(e0.bs b o e).1) (e0.frf.kpIn e0.hok)
def CE(outer:List Env)(P:df)(w:gg)(H:Hp)(s:bf)(Q:VK)(u:bb)(s':bf):Prop:=
 ∃v H',s'.os=s.os/\AllBare s'.gens/\Un (frs outer) [] H H' s.heap s'.heap/\HOk P w H' s'.heap/\RelV v u/\Q v H'
def CR(CX:CXT)(outer:List Env)(P:df)(w:gg)(H:Hp)(s:bf)(Q:VK)(E:XK)(r:Result)(s':bf):Prop:=
 match r with
 | .ok (.ret u)=>CE outer P w H s Q u s'
 | .ok _=>False
 | .error e=>CX outer H s E e s'
structure FnOk(P:df)(w:gg)(K:bt)(mg:Str->Option bb)(base:Heap)(CX:CXT)(k:Nat)(f:Addr)(fd:ki)(ps:List Str)(sp:Sp):Prop where
 len:∀vs H Q E,sp vs H Q E->vs.length=ps.length
 run:∀(A:fm) (outer:List Env) (s:bf) (H:Hp) (args:Args) (us:List bb) (vs:List V) (Q:VK) (E:XK),Room k A->Env0 P w K mg base A outer s H->BindsTo s fd args (ps.zip us)->Vals vs us->sp vs H Q E ->
  codeAny (model P w) A (.call (.ref f) args) (CR CX outer P w H s Q E) s
theorem Env0.make{P:df}{w:gg}{K:bt}{mg:Str->Option bb}{base:Heap}{A:fm}{outer:List Env}{s:bf}{H:Hp}(e:Env0 P w K mg base A outer s H)(C:Addr)(us:List bb)(kw:List (Str×bb)):
  Env0 P w K mg base (A.under (.builtin "type.__call__" ⟨.ref C::us,kw⟩)) outer s H:=⟨by first|exact e.frames|(simpa[Around.under,Code.envs,Code.isFrame,pushEnvs]using e.frames),e.mod,e.bs,e.bsz,e.funs,e.frf,e.hok,e.bare⟩
section
variable {X:Cx}{zg:List (Addr×Obj)}{σ:St}{H:Hp}{s s':bf}
theorem Inv.env0(I:Inv X zg σ H s):Env0 X.prog X.w X.K X.mg X.base X.A X.stack s H:=
 ⟨I.ok.frames,I.ok.mod,I.bs,ie I.ok.bsz I.sz,I.stack,I.stkFree,I.hok,I.bare⟩
theorem Inv.after{Q:VK}{u:bb}(I:Inv X zg σ H s)(h:CE X.stack X.prog X.w H s Q u s'):EP X zg σ Q u s':=by
 obtain⟨v,H',os,bare,un,hok,r,q⟩:=h;obtain⟨hh,g,d,t,aa⟩:=s';obtain rfl:aa=s.os:=os;exact⟨v,H',I.call (h':=hh) (g':=g) (d':=d) (t':=t) (ch:=[]) un hok bare (fun b z=>absurd z yv),r,q⟩
end
def iT(sp:Sp)(dvs:List V)(E:XK)(t:TA):TE:=fun σ H Q=>t σ H fun vs H1=>sp (vs++dvs) H1 Q E
def Binds(K:bt)(fd:ki)(ps:List Str)(ds:List bb):Prop:=
 ∀(s:bf) (us:List bb),K.In s.heap->(us++ds).length=ps.length->BindsTo s fd ⟨us,[]⟩ (ps.zip (us++ds))
theorem Binds.all{K:bt}{fd:ki}{ps:List Str}(h:∀us:List bb,us.length=ps.length->bindArgs fd ⟨us,[]⟩=pure (ps.zip us)):Binds K fd ps []:=fun s us _ hl=>by
 rw[jf]at hl ⊢;exact .of_eq (h us hl)
def Passes(CX:CXT)(X:Cx)(E:XK):Prop:=∀(zg:List (Addr×Obj)) (σ:St) (H:Hp) (s:bf) (e:bb) (s':bf),Inv X zg σ H s->CX X.stack H s E e s'->X.xe e s'
section
variable {X:Cx}{CX:CXT}{k:Nat}{f C:Addr}{fd:ki}{ps:List Str}{sp:Sp}{dvs:List V}{ds:List bb}{E:XK}{x m:Str}{p pos apos:Pos}{e o:Expr}{es:List Expr}{ta:TE}{t:TA}
theorem Lj{zg:List (Addr×Obj)}{σ:St}{H:Hp}{s:bf}{Q:VK}{us:List bb}{vs:List V}(F:FnOk X.prog X.w X.K X.mg X.base CX k f fd ps sp)(hr:Room k X.A)(hb:Binds X.K fd ps ds)(hd:Vals dvs ds)(hx:Passes CX X E)
  (I:Inv X zg σ H s) (r:Vals vs us) (h:sp (vs++dvs) H Q E):bq (model X.prog X.w) X.A (call (.ref f) us) (EP X zg σ Q) X.xe s:=by
 have r2:Vals (vs++dvs) (us++ds):=r.append hd;have hl:(us++ds).length=ps.length:=by rw[<- r2.length];exact F.len _ _ _ _ h
 refine si (ou (F.run X.A X.stack s H ⟨us,[]⟩ (us++ds) (vs++dvs) Q E hr I.env0 (hb s us I.kIn hl) r2 h) fun r s' hq=>?_);cases r with
 |error e=>exact hx zg σ H s e s' I hq
 |ok fl=>
  cases fl with
  |ret u=>exact I.after hq
  |next=>exact ib hq
  |brk=>exact ib hq
  |cont=>exact ib hq
theorem A4(F:FnOk X.prog X.w X.K X.mg X.base CX k f fd ps sp)(hr:Room k X.A)(hg:Gl X x)(hm:X.mg x=some (.ref f))(hk:pp X.K (.ref f)=true)(hb:Binds X.K fd ps ds)(hd:Vals dvs ds)(hx:Passes CX X E)
  (ha:PA X (e::es) t) (hdb:(x==("__debug__":Str))=false:=by decide) (he:cu (e::es) X.env=(false,eval e X.env)::cu es X.env:=by rfl) (hpl:(kl pos (cu es X.env)).any (·.1)=false:=by rfl):
  PE X (.Call (.Name x p) (e::es) [] pos) (iT sp dvs E t):=by
 intro zg s σ H Q I h;refine lv (nF I hg hm ?_ hdb);refine W.callWith_K (h₀:=_) I.kIn hk (thn (ha pos zg s σ H _ I h) fun us s1 ⟨vs,H1,I1,r,q⟩=>⟨I1.kIn,?_⟩) he hpl;exact Lj F hr hb hd hx I1 r q
end
structure FnScope(N P:List Str)(sc:Scope):Prop where
 kind:sc.kind=.function
 co:sc.isCoroutine=false
 gen:sc.isGenerator=false
 nd:N.Nodup
 pre:N.take P.length=P
 par:∀x∈P,sc.names.lookup x=some .local\/sc.names.lookup x=some .cell
 nofree:∀y∈sc.names,y.2≠.free
theorem GB{aa:Str->Option ow}{x:Str}:∀{binds:List (Str×bb)}{m:Str->Option bb},(∀v,(x,v)∉binds)->bindL aa binds m x=m x
 | [],_,_=>rfl
 | (n,v)::r,m,h=>by
  unfold bindL;rw[GB fun w hw=>h w (cn _ hw)];split
  ·have:x≠n:=by rintro rfl;exact h v cw
   simp[this]
  ·rfl
theorem FH{aa:Str->Option ow}{x:Str}:∀{binds:List (Str×bb)}{m:Str->Option bb},(∀v,(x,v)∉binds)->bindC aa binds m x=m x
 | [],_,_=>rfl
 | (n,v)::r,m,h=>by
  unfold bindC;rw[FH fun w hw=>h w (cn _ hw)];split
  ·rfl
  ·have:x≠n:=by rintro rfl;exact h v cw
   simp[this]
theorem Fz{aa:Str->Option ow}{x:Str}{v:bb}:∀{P:List Str}{vs:List bb}{i:Nat}{m:Str->Option bb},P.Nodup->P[i]?=some x->vs[i]?=some v->aa x=some .local ->
  bindL aa (P.zip vs) m x=some v
 | [],_,_,_,_,h,_,_=>by simp at h
 |_::_,[],_,_,_,_,h,_=>by simp at h
 |p::P,w::vs,0,m,nd,h1,h2,hk=>by
  simp at h1 h2;subst h1;subst h2;show bindL aa ((p,w)::P.zip vs) m p=_;unfold bindL;rw[GB fun v hv=>(nodup_cons.mp nd).1 (of_mem_zip hv).1,cm hk];simp
 |p::P,w::vs,i+1,m,nd,h1,h2,hk=>by
  show bindL aa ((p,w)::P.zip vs) m x=_;unfold bindL;exact Fz (i:=i) (nodup_cons.mp nd).2 (by simpa using h1) (by simpa using h2) hk
theorem Ew{aa:Str->Option ow}{x:Str}{v:bb}:∀{P:List Str}{vs:List bb}{i:Nat}{m:Str->Option bb},P.Nodup->P[i]?=some x->vs[i]?=some v->aa x≠some .local ->
  bindC aa (P.zip vs) m x=some v
 | [],_,_,_,_,h,_,_=>by simp at h
 |_::_,[],_,_,_,_,h,_=>by simp at h
 |p::P,w::vs,0,m,nd,h1,h2,hk=>by
  simp at h1 h2;subst h1;subst h2;show bindC aa ((p,w)::P.zip vs) m p=_;unfold bindC;rw[FH fun v hv=>(nodup_cons.mp nd).1 (of_mem_zip hv).1,cb hk];simp
 |p::P,w::vs,i+1,m,nd,h1,h2,hk=>by
  show bindC aa ((p,w)::P.zip vs) m x=_;unfold bindC;exact Ew (i:=i) (nodup_cons.mp nd).2 (by simpa using h1) (by simpa using h2) hk
def start(N:List Str)(vs:List V):St:=vs.map some++bo (N.length-vs.length) none
def bH(CX:CXT)(P:df)(w:gg)(K:bt)(mg:Str->Option bb)(base:Heap)(N:List Str)(qual:Str)(scope:Scope)(f:Addr)(cd:bb)(A:fm)(outer:List Env)(s:bf)(H:Hp)(E:XK):Cx where
 prog:=P
 w:=w
 K:=K
 mg:=mg
 base:=base
 A:=A.deeper (ip qual scope s.heap.objs.size f cd)
 N:=N
 s₀:=s
 H₀:=H
 env:=ip qual scope s.heap.objs.size f cd
 outer:=outer
 stack:=ip qual scope s.heap.objs.size f cd::outer
 ex:=[]
 calm:=true
 fn:=fun _=>true
 pn:=[]
 xe:=fun e s'=>bq (model P w) (A.deeper (ip qual scope s.heap.objs.size f cd)) (leaving (ip qual scope s.heap.objs.size f cd) e) (fun _ s''=>CX outer H s E e s'') (fun e' s''=>CX outer H s E e' s'') s'
theorem Es{sc:Scope}{n:Nat}{x:Str}(h:sc.names.lookup x=some .cell):∃c,(cellsFrom n sc.names []).lookup x=some c:=by
 have q:=W.cellsFrom_some sc.names n [] (.inl h);exact isSome_iff_exists.mp q
theorem Gc{CX:CXT}{P:df}{w:gg}{K:bt}{mg:Str->Option bb}{base:Heap}{N ps:List Str}{qual:Str}{scope:Scope}{f:Addr}{cd:bb}{A:fm}{outer:List Env}{s s1:bf}{H:Hp}{E:XK}{us:List bb}{vs:List V}
  (S:FnScope N ps scope) (hd:A.handled=none) (e0:Env0 P w K mg base A outer s H) (hl:vs.length=ps.length) (r:Vals vs us)
  (x:InCallC s s.heap.objs.size (bindL (ip qual scope s.heap.objs.size f cd).kindOf (ps.zip us) fun _=>none) (cellsFrom (s.heap.objs.size+1) scope.names []) (bindC (ip qual scope s.heap.objs.size f cd).kindOf (ps.zip us) fun _=>none) s1):
  Inv (bH CX P w K mg base N qual scope f cd A outer s H E) [] (start N vs) H s1:=by
 have ae:ps.length<=N.length:=by have:=congrArg sr S.pre;rw[gc]at this;omega
 obtain⟨h1,tk,rfl,hk⟩:=x.done;have aa:∀b:Addr,b∉(bH CX P w K mg base N qual scope f cd A outer s H E).ex:=fun b z=>absurd (show b∈([]:List Addr)from z) yv;refine⟨⟨e0.mod,S.kind,rfl,rfl,fe _,fun y z c h1 h2=>?_,fun y hy=>?_,fun y c _ h=>?_,fun _=>hd,Around.frames_deeper e0.frames,.inr ⟨rfl,rfl⟩,fun b z=>absurd z (aa b),e0.bs,e0.bsz,fun b _ _=>aa b,fun b z=>absurd z (aa b),e0.funs,e0.frf⟩,
  rfl,e0.bare,Un.kept hk,⟨_,x.toInCall.ns,fun i y v h1 h2 h3=>?_⟩,fun y c h=>⟨_,x.cell y c h⟩,e0.hok.fresh (fe _),fun y c h=>?_,fun p hp=>absurd (show p∈([]:List (Addr×Obj))from hp) yv,e0.hok.kept hk,?_⟩
 ·exact name_of_addr x.apart (PySem.mem_of_lookup h1) (PySem.mem_of_lookup h2)
 ·have hy:scope.names.lookup y=some .cell\/scope.names.lookup y=some .free:=hy;rcases hy with hy|hy
  ·exact Es hy
  ·exact absurd rfl (S.nofree _ (PySem.mem_of_lookup hy))
 ·exact lg (x.above y c (PySem.mem_of_lookup h))
 ·have hi:i<vs.length:=by
   unfold start at h2;by_cases hi:i<vs.length
   ·exact hi
   ·rw[ls (by simpa using hi)]at h2;rw[qd]at h2;split at h2<;>cases h2
  have ha:vs[i]?=some v:=by
   unfold start at h2;rw[fq (by simpa using hi),gx]at h2;cases e:vs[i]? with
   |none=>rw[e]at h2;cases h2
   |some a=>rw[e]at h2;cases h2;rfl
  obtain⟨u,hu,rv⟩:=r.get ha;have hp:ps[i]?=some y:=by
   rw[<- S.pre,List.getElem?_take_of_lt yw];exact h1
  have ac:ps.Nodup:=by rw[<- S.pre];exact S.nd.sublist (List.take_sublist _ _)
  refine⟨u,rv,?_⟩;rcases S.par y (dh hp)with k|k
  ·exact .inl ⟨k,Fz ac hp hu k⟩
  ·obtain⟨c,e⟩:=Es (n:=s.heap.objs.size+1) k;refine .inr ⟨.inl k,c,e,?_⟩;have q:=x.cell y c e;rw[Ew ac hp hu (by show scope.names.lookup y≠_;rw[k];decide)]at q;exact q
 ·exact e0.hok.fresh (lg (x.above y c (PySem.mem_of_lookup h)))
 ·unfold start;show _=N.length;rw[cq,cg,List.length_replicate];omega
theorem C9{CX:CXT}{P:df}{w:gg}{K:bt}{mg:Str->Option bb}{base:Heap}{k:Nat}{f:Addr}{name qual:Str}{ac:Arguments}{ae:List Stmt}{scope:Scope}{dV kV ag pm aa ct oc:bb}{an od:Option Addr}
  {osl:Array (Option bb)}{N ps:List Str}{sp:Sp} (lk:K.lookup f=some ⟨oc,od,.func (W.fnOf name qual ac ae scope dV kV ag pm an aa ct),osl⟩) (hcd:W.codeIn K aa qual=true) (S:FnScope N ps scope)
  (len:∀vs H Q E,sp vs H Q E->vs.length=ps.length)
  (hbody:∀(A:fm) (outer:List Env) (s:bf) (H:Hp) (vs:List V) (Q:VK) (E:XK),Room k (A.deeper (ip qual scope s.heap.objs.size f aa))->sp vs H Q E ->
   ∃t,PSs (bH CX P w K mg base N qual scope f aa A outer s H E) ae t/\t { nx:=fun _ H'=>Q .non H',rt:=Q } (start N vs) H):
  FnOk P w K mg base CX (k+1) f (W.fnOf name qual ac ae scope dV kV ag pm an aa ct) ps sp:=by
 refine⟨len,fun A outer s H args us vs Q E hr e0 hb r ah=>?_⟩;have hl:=len _ _ _ _ ah;have KX:K.In s.heap:=e0.kIn;have ai:s.heap.NoLimit:=e0.mod.nolimit.keeps fun b o e=>(e0.bs b o e).1;have af:∀y∈ps.zip us,scope.names.lookup y.1=some .local\/(scope.names.lookup y.1=some .cell/\((cellsFrom (s.heap.objs.size+1) scope.names []).lookup y.1).isSome=true):=fun⟨n,v⟩ hy=>by
  rcases S.par n (of_mem_zip hy).1 with q|q
  ·exact .inl q
  ·exact .inr ⟨q,W.cellsFrom_some _ _ _ (.inl q)⟩
 refine codeAny_call_function hr.depth (KX _ _ lk) rfl S.co S.gen rfl (W.codeRec_of KX hcd) (hb _ _ _ _ ?_);refine wpAny_newFunctionEnv_cells S.kind af fun env he s1 x=>?_;subst he;refine⟨ai.keeps x.toInCall.keep,codeAny_func ?_⟩;obtain⟨t,ht,hq⟩:=hbody A outer s H vs Q E (hr.deeper _) ah;have I:Inv (bH CX P w K mg base N qual scope f aa A outer s H E) [] (start N vs) H s1:=Gc S hr.hd e0 hl r x;refine ix (ht [] s1 (start N vs) H _ I hq) (fun fl s' hs=>?_) fun e s' hs=>hs;have fin:∀{σ':St}{H':Hp}{v:V}{u:bb},Inv (bH CX P w K mg base N qual scope f aa A outer s H E) [] σ' H' s'->RelV v u->Q v H'->CE outer P w H s Q u s':=
  fun {σ' H' v u} J rv q=>⟨v,H',J.os,J.bare,J.base,J.hok,rv,q⟩
 cases fl with
 |ret u=>
  obtain⟨v,σ',H',J,rv,q⟩:=hs;exact fin J rv q
 |next=>
  obtain⟨σ',H',J,q⟩:=hs;exact fin (v:=V.non) (u:=gf) J rfl q
 |brk=>
  obtain⟨_,_,_,q⟩:=hs;exact ib q
 |cont=>
  obtain⟨_,_,_,q⟩:=hs;exact ib q
end
section
section
variable {X:Cx}{x:Str}{p pos:Pos}{e:Expr}{es:List Expr}{t:TA}{id T:String}{r:List V->Hp->VK->Prop}
def tCB(r:List V->Hp->VK->Prop)(t:TA):TE:=fun σ H Q=>t σ H fun vs H1=>r vs H1 Q
theorem zn(hc:CallR X (.builtin id) r)(hg:Gl X x)(hm:X.mg x=none)(hv:ik x=some (.builtin id))(ha:PA X (e::es) t)(hn:x ≠ "__name__":=by decide)(aa:(x==("__debug__":Str))=false:=by decide)
  (he:cu (e::es) X.env=(false,eval e X.env)::cu es X.env:=by rfl) (hpl:(kl pos (cu es X.env)).any (·.1)=false:=by rfl):PE X (.Call (.Name x p) (e::es) [] pos) (tCB r t):=by
 intro zg s σ H Q I h;refine lv (gY I hg hm hv ?_ hn aa);exact PyProof.Rows.callWith_builtin1 (thn (ha pos zg s σ H _ I h) fun us s1 ⟨vs,H1,I1,r1,q1⟩=>hc zg s1 σ H1 vs us Q I1 r1 q1) he hpl
theorem eF(hc:CallR X (.type T) r)(hg:Gl X x)(hm:X.mg x=none)(hv:ik x=some (.type T))(ha:PA X (e::es) t)(hn:x ≠ "__name__":=by decide)(aa:(x==("__debug__":Str))=false:=by decide)
  (he:cu (e::es) X.env=(false,eval e X.env)::cu es X.env:=by rfl) (hpl:(kl pos (cu es X.env)).any (·.1)=false:=by rfl):PE X (.Call (.Name x p) (e::es) [] pos) (tCB r t):=by
 intro zg s σ H Q I h;refine lv (gY I hg hm hv ?_ hn aa);exact jh (thn (ha pos zg s σ H _ I h) fun us s1 ⟨vs,H1,I1,r1,q1⟩=>hc zg s1 σ H1 vs us Q I1 r1 q1) he hpl
end
end
end L2
namespace HT
open PySem PyProof.Rows
def lexLt:List Int->List Int->Bool
 | [],[]=>false
 | [],_::_=>true
 |_::_,[]=>false
 |x::xs,y::ys=>if x=y then lexLt xs ys else decide (x<y)
section
variable {prog:df}{w:gg}{A:fm}{E:bb->bf->Prop}{s:bf}
theorem cat_tup{t b:Addr}{vs ws:List bb}{Q:bb->bf->Prop}(ht:IsTup s.heap t vs.toArray)(hb:IsTup s.heap b ws.toArray)(hv:vs≠[])
  (h1:ws=[]->Q (.ref t) s) (h2:ws≠[]->Q (.ref s.heap.objs.size) { s with heap:=s.heap.push { cls:=.type "tuple",data:=.seq (vs++ws).toArray } })
  (hsz:vs.length+ws.length<=bw):bq (model prog w) A (lq .Add (.ref t) (.ref b)) Q E s:=by
 obtain⟨⟨cls,dd,data,sl⟩,ho,hc,n,hd⟩:=id ht;obtain⟨⟨ai,ag,ah,ac⟩,aa,ae,n2,af⟩:=id hb;simp only at hc hd ae af;subst hc hd ae af;have e:vs.toArray++ws.toArray=(vs++ws).toArray:=by simp
 by_cases hw:ws=[]
 ·exact concat_meets ⟨_,ho,rfl⟩ ⟨_,aa,rfl⟩ noFill_tuple_add seq_tuple_add PySem.F.slot_tuple_add PySem.F.entry_tuple_add (PySem.F.args_tuple_add_2 _ _)
   (tuple_addW1 t b vs.toArray ws.toArray n n2 dd ag sl ac (by simpa using hv) (by simp[hw])) ⟨ho,aa,h1 hw⟩
 ·refine concat_meets ⟨_,ho,rfl⟩ ⟨_,aa,rfl⟩ noFill_tuple_add seq_tuple_add PySem.F.slot_tuple_add PySem.F.entry_tuple_add (PySem.F.args_tuple_add_2 _ _)
   (tuple_addW2 t b vs.toArray ws.toArray n n2 dd ag sl ac (by simpa using hv) (by simpa using hw) (by rw[fy,fy];exact hsz)) ⟨ho,aa,?_⟩
  rw[e];exact h2 hw
def sIx(n d:Nat):Option Int->Nat
 |none=>d
 |some v=>if v<0 then (v+(n:Int)).toNat else min v.toNat n
theorem sIx_nat(n d k:Nat):sIx n d (some (k:Int))=min k n:=by
 show (if (k:Int)<0 then ((k:Int)+(n:Int)).toNat else min (k:Int).toNat n)=min k n;rw[cb yw,oy]
theorem O0(n d:Nat)(hd:d<=n)(o:Option Int):sIx n d o<=n:=by
 cases o with
 |none=>exact hd
 |some v=>
  show (if v<0 then (v+(n:Int)).toNat else min v.toNat n)<=n;by_cases hv:v<0
  ·rw[cm hv];omega
  ·rw[cb hv];exact Nat.min_le_right _ _
theorem Cu(v:Int)(n d:Nat):(if v<0 then max (v+(n:Int)) 0 else min v (n:Int))=((sIx n d (some v):Nat):Int):=by
 show (if v<0 then max (v+(n:Int)) 0 else min v (n:Int))=(((if v<0 then (v+(n:Int)).toNat else min v.toNat n):Nat):Int);by_cases hv:v<0
 ·simp only[cm hv];omega
 ·simp only[cb hv];omega
theorem Hs(lo hi:Option Int)(n:Nat):Builtin.Slice.sliceAdjust lo hi 1 (n:Int)=(((sIx n 0 lo:Nat):Int),((sIx n n hi:Nat):Int)):=by
 have h1:¬((1:Int)<0):=yw
 unfold Builtin.Slice.sliceAdjust;simp only[h1,if_false];refine Prod.ext ?_ ?_
 ·cases lo with
  |none=>rfl
  |some v=>exact Cu v n 0
 ·cases hi with
  |none=>rfl
  |some v=>exact Cu v n n
theorem IL(i j:Nat):Builtin.Slice.slicePlaces (i:Int) (j:Int) 1=j-i:=by
 unfold Builtin.Slice.slicePlaces;have h1:(1:Int)>0:=yw
 simp only[h1,if_true,Int.ediv_one];split<;>omega
theorem B0{v:bb}{o:Option Int}{Q:Option Int->bf->Prop}(p:IsPart v o)(h:Q o s):bq (model prog w) A (Builtin.Slice.slicePartIndex v) Q E s:=by
 cases p with
 |none=>exact slicePart_none h
 |int i t=>exact slicePart_int h
theorem Nj{sl:Addr}{vl vu:bb}{lo hi:Option Int}{n:Nat}{Q:Int×Int×Nat->bf->Prop}(hs:s.heap.IsSliceOf sl vl vu .none)(pl:IsPart vl lo)(pu:IsPart vu hi)
  (h:Q (((sIx n 0 lo:Nat):Int),1,sIx n n hi-sIx n 0 lo) s):bq (model prog w) A (Builtin.Slice.sliceApplied (.ref sl) (pure (n:Int))) Q E s:=by
 obtain⟨os,ac,ae,aa⟩:=id hs;unfold Builtin.Slice.sliceApplied Builtin.Slice.sliceFields;refine bc (bc (fw ac aa (x:=vl) rfl (bc (fw ac aa (x:=vu) rfl (bc (fw ac aa (x:=.none) rfl (bp ?_)))))));refine bc (slicePart_none ?_);show bq _ _ (if ((1:Int)==0)=true then _ else _) _ _ s;rw[cb dz];refine bc (B0 pl (bc (B0 pu (bc (bp ?_)))));show bq _ _ (match Builtin.Slice.sliceAdjust lo hi 1 (n:Int)with|(lo,hi)=>pure (lo,(1:Int),Builtin.Slice.slicePlaces lo hi 1)) _ _ s;rw[Hs lo hi n];show bq _ _ (pure (((sIx n 0 lo:Nat):Int),(1:Int),Builtin.Slice.slicePlaces ((sIx n 0 lo:Nat):Int) ((sIx n n hi:Nat):Int) 1)) _ _ s;rw[IL];exact bp h
theorem LO(xs:Array bb)(i k:Nat):((iq k).filterMap fun(m:Nat)=>xs[((i:Int)+(m:Int)*1).toNat]?).toArray=((xs.toList.drop i).take k).toArray:=by
 have e:(fun(m:Nat)=>xs[((i:Int)+(m:Int)*1).toNat]?)=fun m=>xs[i+m]?:=by
  funext m;have:((i:Int)+(m:Int)*1).toNat=i+m:=yw
  rw[this]
 rw[e];have:=pick_run xs i k;rw[List.filterMap_map]at this;have e2:((fun x=>xs[x]?)∘fun x=>i+x)=fun m=>xs[i+m]?:=rfl;rw[e2]at this;rw[this]
theorem getItem_tuple_cut{t sl:Addr}{aa:Array bb}{vl vu:bb}{lo hi:Option Int}{Q:bb->bf->Prop}(ht:IsTup s.heap t aa)(hs:s.heap.IsSliceOf sl vl vu .none)(pl:IsPart vl lo)(pu:IsPart vu hi)
  (hw:¬(sIx aa.size 0 lo=0/\sIx aa.size aa.size hi=aa.size))
  (h:Q (.ref s.heap.objs.size) { s with heap:=s.heap.push { cls:=.type "tuple",data:=.seq ((aa.toList.drop (sIx aa.size 0 lo)).take (sIx aa.size aa.size hi-sIx aa.size 0 lo)).toArray } })
  (hsz:aa.size<=bw):bq (model prog w) A (getItem (.ref t) (.ref sl)) Q E s:=by
 have ac:sizeOk (.seq ((aa.toList.drop (sIx aa.size 0 lo)).take (sIx aa.size aa.size hi-sIx aa.size 0 lo)).toArray):=by
  show ((aa.toList.drop (sIx aa.size 0 lo)).take (sIx aa.size aa.size hi-sIx aa.size 0 lo)).toArray.size<=bw;rw[fy,gc,iu,pe];omega
 have hj:sIx aa.size aa.size hi<=aa.size:=O0 _ _ (fe _) hi;obtain⟨os,ae,ah,ai⟩:=id hs;have ag:s.TypeIs (.ref sl) "slice":=⟨os,ae,ah⟩;unfold getItem
 try with_reducible refine kh ?_
 first|refine bc (bp ?_)|skip
 refine bc (wpAny_sequenceKey ht.typeIs dz ?_);refine bc (jx (name:=dw "__getitem__") ht.typeIs PyProof.Rows.slot_tuple_getitem
  (lx PyProof.Rows.slot_tuple_getitem ht.typeIs entry_tuple_getitem ?_ (args_tuple_getitem _ _)))
 show bq _ _ (Builtin.Tuple.tupleItemsOf (.ref t) >>= _) _ _ s;refine bc (tupleItemsOf_ ht ?_);refine bc (wpAny_typeOf ag ?_);rw[cm dz];refine bc (Nj hs pl pu ?_);have af:¬((((sIx aa.size 0 lo:Nat):Int)==0&&(1:Int)==1&&(sIx aa.size aa.size hi-sIx aa.size 0 lo)==aa.size)=true):=by
  intro q;rw[cy,cy]at q;have q1:((sIx aa.size 0 lo:Nat):Int)=0:=eq_of_beq q.1.1;have q2:sIx aa.size aa.size hi-sIx aa.size 0 lo=aa.size:=eq_of_beq q.2;exact hw ⟨yw,yw⟩
 show bq _ _ (if (((sIx aa.size 0 lo:Nat):Int)==0&&(1:Int)==1&&(sIx aa.size aa.size hi-sIx aa.size 0 lo)==aa.size)=true then _ else _) _ _ s;rw[cb af,LO]
 first
  |exact bc (m:=km _) (js (bp ⟨_,rfl,bp h⟩) ac)
  |exact bc (m:=km _) (js (bc (bp (bp ⟨_,rfl,bp h⟩))) ac)
  |exact bc (bc (m:=km _) (js (bp (bp ⟨_,rfl,bp h⟩)) ac))
  |exact bc (bc (m:=km _) (js (bp ⟨_,rfl,bp h⟩) ac))
end
end HT
namespace L2
open PySem PySem.Spec PyProof.Rows
section
abbrev TO:=St->Hp->(Option Int->Hp->Prop)->Prop
def PO(X:Cx)(e:Option Expr)(t:TO):Prop:=
 ∀(zg:List (Addr×Obj)) (s:bf) (σ:St) (H:Hp) (Q:Option Int->Hp->Prop),Inv X zg σ H s->t σ H Q ->
  bq (model X.prog X.w) X.A (evalPart e X.env) (fun u s'=>∃o H',Inv X zg σ H' s'/\IsPart u o/\Q o H') X.xe s
def CY:TO:=fun _ H Q=>Q none H
def oX(t:TE):TO:=fun σ H Q=>t σ H fun x H1=>∃i,x=.int i/\Q (some i) H1
theorem vU{ns:List Int}:∀{us:List bb},Vals (ns.map V.int) us->IntsAre us ns:=by
 induction ns with
 |nil=>intro us r;rw[map_nil]at r;cases r;exact .nil
 |cons n ns ih=>
  intro us r;rw[gk]at r;cases r with
  |cons r1 r2=>
   obtain⟨t,e⟩:=r1;subst e;exact .cons n t (ih r2)
section
variable {X:Cx}{e:Expr}{te:TE}{lo hi:Option Expr}{tl th:TO}{pos p2:Pos}
theorem bS:PO X none CY:=by
 intro zg s σ H Q I h;rw[evalPart_none];exact bp ⟨none,H,I,.none,h⟩
theorem aY(h:PE X e te):PO X (some e) (oX te):=by
 intro zg s σ H Q I hw;rw[evalPart_some];refine thn (h zg s σ H _ I hw) fun u s1 ⟨x,H1,I1,r1,q1⟩=>?_;obtain⟨i,rfl,q⟩:=q1;obtain⟨t,rfl⟩:=r1;exact⟨some i,H1,I1,.int i t,q⟩
def SlR(X:Cx)(r:V->Option Int->Option Int->Hp->VK->Prop):Prop:=
 ∀(zg:List (Addr×Obj)) (s:bf) (σ:St) (H:Hp) (x:V) (v vl vu:bb) (lo hi:Option Int) (sl:Addr) (Q:VK),Inv X zg σ H s->RelV x v->s.heap.IsSliceOf sl vl vu .none->IsPart vl lo->IsPart vu hi->r x lo hi H Q ->
  ∃T id,typeLookup (.type T) "__getitem__" = pure (some (.builtin id))/\s.TypeIs v T/\bq (model X.prog X.w) X.A (getItem v (.ref sl)) (EP X zg σ Q) X.xe s
theorem SlR.or{r r':V->Option Int->Option Int->Hp->VK->Prop}(h:SlR X r)(h':SlR X r'):SlR X (fun x lo hi H Q=>r x lo hi H Q\/r' x lo hi H Q):=by
 intro zg s σ H x v vl vu lo hi sl Q I rx hs pl pu q;rcases q with q|q
 ·exact h zg s σ H x v vl vu lo hi sl Q I rx hs pl pu q
 ·exact h' zg s σ H x v vl vu lo hi sl Q I rx hs pl pu q
def tSl(r:V->Option Int->Option Int->Hp->VK->Prop)(te:TE)(tl th:TO):TE:=fun σ H Q=>te σ H fun x H1=>tl σ H1 fun l H2=>th σ H2 fun u H3=>r x l u H3 Q
theorem zW{r:V->Option Int->Option Int->Hp->VK->Prop}(hr:SlR X r)(he:PE X e te)(hl:PO X lo tl)(hu:PO X hi th):PE X (.Subscript e (.Slice lo hi none p2) pos) (tSl r te tl th):=by
 intro zg s σ H Q I h;refine Subscript_ (thn (he zg s σ H _ I h) fun v s1 ⟨x,H1,I1,r1,q1⟩=>?_);refine wpAny_Slice (thn (hl zg s1 σ H1 _ I1 q1) fun vl s2 ⟨l,H2,I2,pl,q2⟩=>thn (hu zg s2 σ H2 _ I2 q2) fun vu s3 ⟨u,H3,I3,pu,q3⟩=>?_);rw[evalPart_none];refine bp ?_;have I4:Inv X zg σ H3 { s3 with heap:=s3.heap.push { cls:=.type "slice",data:=.fields #[vl,vu,.none] } }:=I3.kept (t':=s3.toks) fun b ob q=>bn _ q;obtain⟨T,id,hT,ht,hg⟩:=hr zg { s3 with heap:=s3.heap.push { cls:=.type "slice",data:=.fields #[vl,vu,.none] } } σ H3 x v vl vu l u s3.heap.objs.size Q I4 r1 (Heap.IsSliceOf.new ..) pl pu q3;show bq (model X.prog X.w) X.A (subscriptTail e (.Slice lo hi none p2) v (.ref s3.heap.objs.size)) (EP X zg σ Q) X.xe { s3 with heap:=s3.heap.push { cls:=.type "slice",data:=.fields #[vl,vu,.none] } };exact tail_any (ops:=[.ref s3.heap.objs.size,v]) ht hT hg (by with_unfolding_all rfl)
def fK(xs:List V)(lo hi:Option Int):List V:=(xs.drop (HT.sIx xs.length 0 lo)).take (HT.sIx xs.length xs.length hi-HT.sIx xs.length 0 lo)
theorem yB(xs:List V)(lo hi:Option Int):(fK xs lo hi).length<=xs.length:=by
 unfold fK;rw[gc,iu];omega
def AC(K:bt):V->Option Int->Option Int->Hp->VK->Prop:=fun x lo hi H Q=>∃a xs,x=.ref a/\SqT K H a xs /\
 ¬(HT.sIx xs.length 0 lo=0/\HT.sIx xs.length xs.length hi=xs.length)/\∀p,H p=none->Q (.ref p) (upd H p (.tup (fK xs lo hi)))
theorem Iv:SlR X (AC X.K):=by
 intro zg s σ H x v vl vu lo hi sl Q I rx hs pl pu h;obtain⟨a,xs,rfl,hx,hw,q⟩:=h;cases rx;obtain⟨ac,r,ht,hz⟩:=I.tuple hx;have aa:ac.toArray.size=xs.length:=by rw[fy];exact r.length.symm
 refine⟨"tuple",_,PyProof.Rows.slot_tuple_getitem.lookup,ht.typeIs,?_⟩;refine HT.getItem_tuple_cut ht hs pl pu (by rw[aa];exact hw) ?_ (by rw[aa];exact hz);rw[aa];refine⟨.ref s.heap.objs.size,_,I.laid (t':=s.toks) (o:=.tup (fK xs lo hi)) (fun b ob q=>bn _ q) (fe _) ?_,rfl,q _ (I.hok.fresh (fe _))⟩;exact⟨⟨ie (yB xs lo hi) hz,_,cv _ rfl,rfl,I.kpNew⟩,_,(r.drop (HT.sIx xs.length 0 lo)).take (HT.sIx xs.length xs.length hi-HT.sIx xs.length 0 lo),IsTup.new _ _⟩
def y9(K:bt):R2:=fun x y H Q=>∃a b xs ys,x=.ref a/\y=.ref b/\SqT K H a xs/\SqT K H b ys/\xs≠[]/\xs.length+ys.length<=bw /\
 (ys=[]->Q (.ref a) H)/\(ys≠[]->∀p,H p=none->Q (.ref p) (upd H p (.tup (xs++ys))))
theorem Vals.nil_iff{xs:List V}{us:List bb}(r:Vals xs us):us=[]↔xs=[]:=by
 cases r with
 |nil=>simp
 |cons _ _=>simp
theorem Jr:OpR X (lq .Add) (y9 X.K):=by
 intro zg s σ H x y v u Q I rx ry h;obtain⟨a,b,xs,ys,rfl,rfl,ha,hb,hx,hz,q1,q2⟩:=h;cases rx;cases ry;obtain⟨ac,r1,p1,_⟩:=I.tuple ha;obtain⟨aa,r2,p2,_⟩:=I.tuple hb;refine HT.cat_tup p1 p2 (fun z=>hx (r1.nil_iff.mp z)) (fun z=>⟨.ref a,H,I,rfl,q1 (r2.nil_iff.mp z)⟩) (fun z=>?_) (by rw[<- r1.length,<- r2.length];exact hz);refine⟨.ref s.heap.objs.size,_,I.laid (t':=s.toks) (o:=.tup (xs++ys)) (fun b ob q=>bn _ q) (fe _) ?_,rfl,q2 (fun w=>z (r2.nil_iff.mpr w)) _ (I.hok.fresh (fe _))⟩;exact⟨⟨by rw[cq];exact hz,_,cv _ rfl,rfl,I.kpNew⟩,_,r1.append r2,IsTup.new _ _⟩
end
end
section
def ixN(n:Nat)(i:Int):Option Nat:=if 0<=i then (if i<n then some i.toNat else none)else if -(n:Int)<=i then some (i+n).toNat else none
def atI{α:Type}(xs:List α)(i:Int):Option α:=(ixN xs.length i).bind fun j=>xs[j]?
theorem G7{n:Nat}{i:Int}{j:Nat}(h:ixN n i=some j):seqIndex? i n=some j/\j<n/\-(n:Int)<=i/\i<n:=by
 unfold ixN at h;by_cases h0:0<=i
 ·rw[cm h0]at h;by_cases h1:i<n
  ·rw[cm h1]at h;have e:i.toNat=j:=fg h;exact⟨by rw[seqIndex_of h0 h1,e],yw,yw,h1⟩
  ·rw[cb h1]at h;cases h
 ·rw[cb h0]at h;by_cases h1:-(n:Int)<=i
  ·rw[cm h1]at h;have e:(i+n).toNat=j:=fg h;exact⟨by rw[seqIndex_neg yw h1,e],yw,h1,yw⟩
  ·rw[cb h1]at h;cases h
theorem AK{α:Type}{xs:List α}{i:Int}{v:α}(h:atI xs i=some v):∃j,seqIndex? i xs.length=some j/\xs[j]?=some v/\j<xs.length/\-(xs.length:Int)<=i/\i<xs.length:=by
 unfold atI at h;cases e:ixN xs.length i with
 |none=>rw[e]at h;cases h
 |some j=>
  rw[e]at h;obtain⟨h1,h2,h3,h4⟩:=G7 e;exact⟨j,h1,h,h2,h3,h4⟩
theorem c6{α:Type}{xs:List α}{j:Nat}{v:α}(h:xs[j]?=some v):atI xs (j:Int)=some v:=by
 have hj:j<xs.length:=(List.getElem?_eq_some_iff.mp h).1;have e:ixN xs.length (j:Int)=some j:=by
  unfold ixN;rw[cm yw,cm yw];simp
 unfold atI;rw[e];exact h
theorem HF{α:Type}(xs:List α)(v:α):atI (xs++[v]) (-1)=some v:=by
 have hl:(xs++[v]).length=xs.length+1:=by simp
 have e:ixN (xs++[v]).length (-1)=some xs.length:=by
  unfold ixN;rw[hl,cb dz,cm yw];congr 1;omega
 unfold atI;rw[e];show (xs++[v])[xs.length]?=some v;simp
def PlainIx(b:Expr):Prop:=∀o i,subscripted b false o i=operate [o,i] (getItem o i)
def IxR(X:Cx)(r:R2):Prop:=
 ∀(value slice:Expr) (zg:List (Addr×Obj)) (s:bf) (σ:St) (H:Hp) (x y:V) (v u:bb) (Q:VK),Inv X zg σ H s->RelV x v->RelV y u->r x y H Q ->
  subscripted slice false v u=operate [v,u] (getItem v u)->bq (model X.prog X.w) X.A (subscriptTail value slice v u) (EP X zg σ Q) X.xe s
def MtR(X:Cx)(id:String)(r:V->List V->Hp->VK->Prop):Prop:=
 ∀(zg:List (Addr×Obj)) (s:bf) (σ:St) (H:Hp) (x:V) (xs:List V) (v:bb) (us:List bb) (Q:VK),Inv X zg σ H s->RelV x v->Vals xs us->r x xs H Q ->
  bq (model X.prog X.w) X.A (call (.builtin id) (v::us)) (EP X zg σ Q) X.xe s
section
variable {X:Cx}{a b:Expr}{ta tb:TE}{pos:Pos}
theorem IxR.or{r r':R2}(h:IxR X r)(h':IxR X r'):IxR X (fun x y H Q=>r x y H Q\/r' x y H Q):=by
 intro value aa zg s σ H x y v u Q I rx ry q hs;rcases q with q|q
 ·exact h value aa zg s σ H x y v u Q I rx ry q hs
 ·exact h' value aa zg s σ H x y v u Q I rx ry q hs
theorem zN{r:R2}(hr:IxR X r)(ha:PE X a ta)(hb:PE X b tb)(hs:PlainIx b):PE X (.Subscript a b pos) (tOp r ta tb):=by
 intro zg s σ H Q I h;exact Subscript_ (yJ ha hb I h fun v u s2 x y H2 I2 rx ry q=>hr a b zg s2 σ H2 x y v u Q I2 rx ry q (hs _ _))
def AD(K:bt):R2:=fun x y H Q=>∃p xs i v,x=.ref p/\y=.int i/\SqL K H p xs/\atI xs i=some v/\Q v H
def x6(K:bt):R2:=fun x y H Q=>∃p xs i v,x=.ref p/\y=.int i/\SqT K H p xs/\atI xs i=some v/\Q v H
def yU:R2:=fun x y H Q=>∃z i c,x=.str z/\y=.int i/\z.length<=bw/\atI z.cps.toList i=some c/\Q (.str ⟨#[c]⟩) H
theorem Bx:IxR X (AD X.K):=by
 intro value ae zg s σ H x y v u Q I rx ry h hs;obtain⟨p,xs,i,z,rfl,rfl,hq,he,q⟩:=h;cases rx;obtain⟨t,rfl⟩:=ry;obtain⟨ac,r,pl,hz⟩:=I.list hq;obtain⟨j,h1,h2,h3,h4,h5⟩:=AK he;obtain⟨w,ew,aa⟩:=r.get h2;have hl:=r.length;have hn:=line63;have fin:EP X zg σ Q w s:=⟨z,H,I,aa,q⟩;by_cases h0:0<=i
 ·have hj:i.toNat=j:=by
   rw[seqIndex_of h0 h5]at h1;exact fg h1
  exact item_listR pl.isList h0 yw (by rw[hj];simpa using ew) fin hs
 ·have hj:(i+(ac.toArray.size:Int)).toNat=j:=by
   rw[seqIndex_neg yw h4]at h1;rw[fy,<- hl];exact fg h1
  exact subscriptTail_builtinR (x:=w) pl.isList.typeIs slot_list_getitem.lookup
   (wpAny_getItem_list_neg (Q:=fun r s'=>r=w/\EP X zg σ Q r s') pl.isList yw (by rw[fy]<;>omega) yw (by rw[hj];simpa using ew) ⟨rfl,fin⟩) hs
theorem PY:IxR X (x6 X.K):=by
 intro value ac zg s σ H x y v u Q I rx ry h hs;obtain⟨p,xs,i,z,rfl,rfl,hq,he,q⟩:=h;cases rx;obtain⟨t,rfl⟩:=ry;obtain⟨ae,r,pl,hz⟩:=I.tuple hq;obtain⟨j,h1,h2,h3,h4,h5⟩:=AK he;obtain⟨w,ew,aa⟩:=r.get h2;have hl:=r.length;have hn:=line63;have fin:EP X zg σ Q w s:=⟨z,H,I,aa,q⟩;exact subscriptTail_builtinR (x:=w) pl.typeIs slot_tuple_getitem.lookup
  (getItem_tuple (j:=j) (Q:=fun r s'=>r=w/\EP X zg σ Q r s') pl yw yw (by rw[fy,<- hl];exact h1) (by simpa using ew) ⟨rfl,fin⟩) hs
theorem J9:IxR X yU:=by
 intro value aa zg s σ H x y v u Q I rx ry h hs;obtain⟨z,i,c,rfl,rfl,hz,he,q⟩:=h;obtain⟨t,rfl⟩:=rx;obtain⟨t',rfl⟩:=ry;obtain⟨j,h1,h2,h3,h4,h5⟩:=AK he;have hl:z.cps.toList.length=z.length:=by simp[Str.length]
 rw[hl]at h1 h4 h5;have hn:=line63;exact tail_any (typeIs_str s z t) slot_str_getitem.lookup (getItem_str (c:=c) (by
  have e1:decide (i < -(2 ^ 63:Int))=false:=bu yw;have e2:decide (i≥2 ^ 63)=false:=bu yw;rw[e1,e2,rl]) (by rw[h1];simpa using h2) ⟨.str ⟨#[c]⟩,H,I.tok _,⟨_,rfl⟩,q⟩) hs
def rIx(K:bt):R2:=fun x y H Q=>AD K x y H Q\/x6 K x y H Q\/yU x y H Q
theorem zw:IxR X (rIx X.K):=Bx.or (PY.or J9)
theorem M9(aa:List bb)(n j:Nat)(u:bb):jj (·.setIfInBounds j u) { cls:=.type "list",data:=.seq aa.toArray n } = { cls:=.type "list",data:=.seq (aa.set j u).toArray n }:=by
 simp[jj]
theorem Inv.lst{zg:List (Addr×Obj)}{σ:St}{H:Hp}{s:bf}{p:Addr}{xs:List V}(I:Inv X zg σ H s)(h:H p=some (.lst xs)):
  ∃(aa:List bb) (n:Nat),Vals xs aa/\s.heap.get? p=some { cls:=.type "list",data:=.seq aa.toArray n }/\xs.length<=bw:=by
 obtain⟨z,aa,n,r,e⟩:=I.hok p _ h;exact⟨aa,n,r,e,z⟩
theorem Inv.lstUpd{zg:List (Addr×Obj)}{σ:St}{H:Hp}{s:bf}{p:Addr}{xs ys:List V}{aa its':List bb}{n n':Nat}{f:Obj->Obj}(I:Inv X zg σ H s)(h:H p=some (.lst xs))
  (ho:s.heap.get? p=some { cls:=.type "list",data:=.seq aa.toArray n }) (hf:f { cls:=.type "list",data:=.seq aa.toArray n } = { cls:=.type "list",data:=.seq its'.toArray n' }) (r:Vals ys its') (hz:ys.length<=bw) (t:Nat):
  Inv X zg σ (upd H p (.lst ys)) { s with heap:=s.heap.update p f,toks:=t }:=by
 have e:(s.heap.update p f).get? p=some { cls:=.type "list",data:=.seq its'.toArray n' }:=by
  rw[je f ho (by rw[hf]<;>rfl),hf]
 refine I.write (x:=p) (e:=p) (by rw[h];trivial) (.inl rfl) (fun b u hb q=>(iw _ _ (gj hb)).trans q) ⟨_,e⟩ ?_;exact⟨hz,its',n',r,e⟩
def Bm:V->V->V->Hp->(Hp->Prop)->Prop:=fun o i v H Q=>∃p xs k j,o=.ref p/\i=.int k/\H p=some (.lst xs)/\ixN xs.length k=some j/\Q (upd H p (.lst (xs.set j v)))
theorem A6:PSet X Bm:=by
 intro zg s σ H o i v ov iv u Q I ro ri rv h;obtain⟨p,xs,k,j,rfl,rfl,hp,hj,q⟩:=h;cases ro;obtain⟨t,rfl⟩:=ri;obtain⟨aa,n,r,ho,hz⟩:=I.lst hp;obtain⟨h1,h2,h3,h4⟩:=G7 hj;have hl:=r.length;have hn:=line63;have I':Inv X zg σ (upd H p (.lst (xs.set j v))) { s with heap:=s.heap.update p (jj (·.setIfInBounds j u)) } :=
  I.lstUpd hp ho (M9 aa n j u) (r.set rv j) (by rw[length_set];exact hz) s.toks
 by_cases h0:0<=k
 ·have hk:k.toNat=j:=by
   rw[seqIndex_of h0 h4]at h1;exact fg h1
  exact W.ki_setAt ho h0 yw (by rw[fy,<- hl];exact h4) (by rw[hk];exact⟨_,I',q⟩)
 ·have hk:(k+(aa.toArray.size:Int)).toNat=j:=by
   rw[seqIndex_neg yw h3]at h1;rw[fy,<- hl];exact fg h1
  exact W.ki_setBack ho yw (by rw[fy,<- hl];exact h3) yw (by rw[hk];exact⟨_,I',q⟩)
theorem HM(lo hi:Option Int)(n:Nat):(px lo hi none n).1=((HT.sIx n 0 lo:Nat):Int)/\(px lo hi none n).2.1=((HT.sIx n n hi:Nat):Int)/\(px lo hi none n).2.2=1:=by
 refine⟨?_,?_,rfl⟩
 ·cases lo with
  |none=>simp[px,HT.sIx]
  |some i=>
   simp only[px,HT.sIx,Option.getD_none,show (1:Int)>0 by decide,if_true];by_cases h:i<0
   ·simp only[h,if_true]<;>omega
   ·simp only[h,if_false]<;>omega
 ·cases hi with
  |none=>simp[px,HT.sIx]
  |some i=>
   simp only[px,HT.sIx,Option.getD_none,show (1:Int)>0 by decide,if_true];by_cases h:i<0
   ·simp only[h,if_true]<;>omega
   ·simp only[h,if_false]<;>omega
theorem Hm(aa:List bb)(lo hi:Option Int):slicePick aa.toArray lo hi none=((aa.drop (HT.sIx aa.length 0 lo)).take (HT.sIx aa.length aa.length hi-HT.sIx aa.length 0 lo)).toArray:=by
 obtain⟨h1,h2,h3⟩:=HM lo hi aa.toArray.size;unfold slicePick;rw[h1,h2,h3];simp only[sliceRange_one,pick_run,fy]<;>rfl
def rH(K:bt):V->Option Int->Option Int->Hp->VK->Prop:=fun x lo hi H Q=>∃a xs,x=.ref a/\SqL K H a xs/\∀p,H p=none->Q (.ref p) (upd H p (.lst (fK xs lo hi)))
theorem CL:SlR X (rH X.K):=by
 intro zg s σ H x v vl vu lo hi sl Q I rx hs pl pu h;obtain⟨a,xs,rfl,hx,q⟩:=h;cases rx;obtain⟨ac,r,ht,hz⟩:=I.list hx;have aa:=r.length;refine⟨"list",_,slot_list_getitem.lookup,ht.isList.typeIs,?_⟩;refine wpAny_getItem_list_slice ht.isList hs pl pu .none yv ?_ (by rw[fy]<;>omega);rw[Hm,<- aa];refine⟨.ref s.heap.objs.size,_,I.laid (t':=s.toks) (o:=.lst (fK xs lo hi)) (fun b ob q=>bn _ q) (fe _) ?_,rfl,q _ (I.hok.fresh (fe _))⟩;exact⟨ie (yB xs lo hi) hz,_,0,(r.drop (HT.sIx xs.length 0 lo)).take (HT.sIx xs.length xs.length hi-HT.sIx xs.length 0 lo),cv _ rfl⟩
theorem Dh:CallR X (.builtin "len") (fun xs H Q=>∃p ys,xs=[.ref p]/\(SqL X.K H p ys\/SqT X.K H p ys)/\Q (.int ys.length) H):=by
 intro zg s σ H xs us Q I r h;obtain⟨p,ys,rfl,hq,q⟩:=h;obtain⟨u,rfl,rx⟩:=vals1 r;cases rx;have hn:=line63;rcases hq with hq|hq
 ·obtain⟨ac,r',pl,hz⟩:=I.list hq;have aa:=r'.length;exact Calls.call_len_list pl.isList (by simp only[fy]<;>omega) ⟨.int ys.length,H,I.tok _,⟨s.toks+1,by rw[fy,aa]⟩,q⟩
 ·obtain⟨ac,r',pl,hz⟩:=I.tuple hq;have aa:=r'.length;exact len_tuple pl (by simp only[fy]<;>omega) ⟨.int ys.length,H,I.tok _,⟨s.toks+1,by rw[fy,aa]⟩,q⟩
theorem K5:CallR X (.builtin "len") (fun xs H Q=>∃z,xs=[.str z]/\z.length<=bw/\Q (.int z.length) H):=by
 intro zg s σ H xs us Q I r h;obtain⟨z,rfl,hz,q⟩:=h;obtain⟨u,rfl,t,rfl⟩:=vals1 r;have hn:=line63;exact len_str yw ⟨.int z.length,H,I.tok _,⟨_,rfl⟩,q⟩
theorem CallR.or{f:bb}{r r':List V->Hp->VK->Prop}(h:CallR X f r)(h':CallR X f r'):CallR X f (fun xs H Q=>r xs H Q\/r' xs H Q):=by
 intro zg s σ H xs us Q I rs q;rcases q with q|q
 ·exact h zg s σ H xs us Q I rs q
 ·exact h' zg s σ H xs us Q I rs q
theorem Lr:CallR X (.type "list") (fun xs H Q=>∃p ys,xs=[.ref p]/\(SqL X.K H p ys\/SqT X.K H p ys)/\∀l,H l=none->Q (.ref l) (upd H l (.lst ys))):=by
 intro zg s σ H xs us Q I r h;obtain⟨p,ys,rfl,hq,q⟩:=h;obtain⟨u,rfl,rx⟩:=vals1 r;cases rx;have fin:∀(aa:List bb),Vals ys aa->ys.length<=bw->∀(h':Heap) (c':Nat),(∀b o',s.heap.get? b=some o'->h'.get? b=some o') ->
   h'.get? s.heap.objs.size=some { cls:=.type "list",dict:=none,data:=.seq aa.toArray c',slots:=#[] }->EP X zg σ Q (.ref s.heap.objs.size) { s with heap:=h' }:=fun aa r' hz h' c' kp e=>
  ⟨.ref s.heap.objs.size,_,I.laid (t':=s.toks) kp (fe _) (show ObjOk X.prog X.w _ h' _ (.lst ys)from⟨hz,aa,c',r',e⟩),rfl,q _ (I.hok.fresh (fe _))⟩
 rcases hq with hq|hq
 ·obtain⟨aa,r',pl,hz⟩:=I.list hq;have ac:=r'.length;obtain⟨o,ho,hc,n,hd⟩:=pl.isList;exact call_list_seq p (.inl rfl) ho hc hd (fun h' c' kp e=>fin aa r' hz h' c' kp e) (by simp only[fy]<;>omega)
 ·obtain⟨aa,r',pl,hz⟩:=I.tuple hq;have ac:=r'.length;obtain⟨o,ho,hc,n,hd⟩:=pl;exact call_list_seq p (.inr rfl) ho hc hd (fun h' c' kp e=>fin aa r' hz h' c' kp e) (by simp only[fy]<;>omega)
theorem wI:CallR X (.type "tuple") (fun xs H Q=>∃p ys,xs=[.ref p]/\((SqL X.K H p ys/\∀l,H l=none->Q (.ref l) (upd H l (.tup ys)))\/(SqT X.K H p ys/\Q (.ref p) H))):=by
 intro zg s σ H xs us Q I r h;obtain⟨p,ys,rfl,h⟩:=h;obtain⟨u,rfl,rx⟩:=vals1 r;cases rx;rcases h with ⟨hq,q⟩|⟨hq,q⟩
 ·obtain⟨aa,r',pl,hz⟩:=I.list hq;have ac:=r'.length;refine call_tuple_list pl.isList (fun h' kp=>?_) (by simp only[fy]<;>omega);have I1:Inv X zg σ H { s with heap:=h' }:=I.kept (t':=s.toks) kp;have I2:Inv X zg σ (upd H h'.objs.size (.tup ys)) { s with heap:=h'.push { cls:=.type "tuple",data:=.seq aa.toArray } } :=
   I1.laid (t':=s.toks) (fun b o e=>bn _ e) (fe _) (show ObjOk X.prog X.w _ _ _ (.tup ys)from⟨⟨hz,_,cv _ rfl,rfl,I1.kpNew⟩,aa,r',IsTup.new _ _⟩)
  exact⟨.ref h'.objs.size,_,I2,rfl,q _ (I1.hok.fresh (fe _))⟩
 ·obtain⟨aa,r',pl,hz⟩:=I.tuple hq;exact call_tuple_same pl ⟨.ref p,H,I,rfl,q⟩
def tyV(K:bt)(T:String)(x:V)(H:Hp):Prop:=match x with
 | .str _=>T = "str"
 | .int _=>T = "int"
 | .ref p=>(T = "list"/\∃xs,SqL K H p xs)\/(T = "tuple"/\∃o,K.lookup p=some o/\o.cls=.type "tuple"/\o.dict=none) \/
   (T = "dict"/\((∃kvs,H p=some (.dK kvs))\/∃kvs,H p=some (.dT kvs)))\/(T = "set"/\∃S n,H p=some (.set S n))
 |_=>False
theorem GU{zg:List (Addr×Obj)}{σ:St}{H:Hp}{s:bf}{T:String}{x:V}{v:bb}(I:Inv X zg σ H s)(r:RelV x v)(ty:tyV X.K T x H):
  s.TypeIs v T/\∀a,v=.ref a->∃ob,s.heap.get? a=some ob/\ob.dict=none:=by
 cases x with
 |str z=>
  obtain⟨t,rfl⟩:=r;cases (show T = "str" from ty);exact⟨typeIs_str s z t,fun _ e=>nomatch e⟩
 |int i=>
  obtain⟨t,rfl⟩:=r;cases (show T = "int" from ty);exact⟨typeIs_int s i t,fun _ e=>nomatch e⟩
 |ref p=>
  cases r;rcases ty with ⟨rfl,xs,hq⟩|⟨rfl,o,hk,hc,hd⟩|⟨rfl,hk⟩|⟨rfl,S,n,hk⟩
  ·obtain⟨aa,_,pl,_⟩:=I.list hq;refine⟨pl.isList.typeIs,fun a e=>?_⟩;cases e;obtain⟨o,n,e,c,hd,_⟩:=pl;exact⟨o,e,hd⟩
  ·refine⟨⟨o,I.kIn p o hk,hc⟩,fun a e=>?_⟩;cases e;exact⟨o,I.kIn _ o hk,hd⟩
  ·have z:∃o,s.heap.get? p=some o/\o.ExactDict:=by
    rcases hk with ⟨kvs,hk⟩|⟨kvs,hk⟩
    ·obtain⟨_,_,_,_,o,_,_,e,ex,_⟩:=I.hok p _ hk;exact⟨o,e,ex⟩
    ·obtain⟨_,_,_,_,o,_,_,e,ex,_⟩:=I.hok p _ hk;exact⟨o,e,ex⟩
   obtain⟨o,e,ex⟩:=z;refine⟨⟨o,e,ex.1⟩,fun a e2=>?_⟩;cases e2;exact⟨o,e,ex.2.1⟩
  ·obtain⟨o,_,_,_,e,ex,_⟩:=I.hok p _ hk;refine⟨⟨o,e,ex.1⟩,fun a e2=>?_⟩;cases e2;exact⟨o,e,ex.2.1⟩
 |_=>exact ib ty
def Bp(K:bt)(T:String)(r:V->List V->Hp->VK->Prop)(to:TE):TE:=fun σ H Q=>to σ H fun x H1=>tyV K T x H1/\r x [] H1 Q
def tBM(K:bt)(T:String)(r:V->List V->Hp->VK->Prop)(to:TE)(t:TA):TE:=fun σ H Q=>to σ H fun x H1=>tyV K T x H1/\t σ H1 fun xs H2=>r x xs H2 Q
variable {o e:Expr}{es:List Expr}{to:TE}{t:TA}{name:Str}{apos cpos:Pos}{T id:String}{r:V->List V->Hp->VK->Prop}
theorem Je(pa:PlainAttrs T)(slot:Slot T name id)(aa:typeOf (.builtin id)=pure (.type "method_descriptor"))(hm:MtR X id r)(ho:PE X o to)
  (hbase:rk o name X.env (eval o X.env)=eval o X.env:=by rfl) (hline:(apos.endLine==cpos.line)=true:=by rfl):PE X (.Call (.Attribute o name apos) [] [] cpos) (Bp X.K T r to):=by
 intro zg s σ H Q I h;refine wpAny_Call_method0_late hbase hline (thn (ho zg s σ H _ I h) fun v s1 ⟨x,H1,I1,r1,ty,q1⟩=>?_);obtain⟨h1,h2⟩:=GU I1 r1 ty;exact⟨T,id,pa,slot,aa,h1,h2,Calls.callWith_builtin rfl (PySem.evalArgs_none (hm zg s1 σ H1 x [] v [] Q I1 r1 .nil q1))⟩
theorem bG(pa:PlainAttrs T)(slot:Slot T name id)(aa:typeOf (.builtin id)=pure (.type "method_descriptor"))(hm:MtR X id r)(ho:PE X o to)(ha:PA X (e::es) t)
  (hbase:rk o name X.env (eval o X.env)=eval o X.env:=by rfl)
  (hfew:((kl cpos (cu (e::es) X.env)).all (fun x=>!x.1)&&(backToKw cpos (qu [] X.env)).all (fun x=>x.1.isSome)
   && decide ((e::es).length+([]:List Keyword).length+(if ([]:List Keyword).isEmpty then 0 else 1)<30))=true:=by rfl)
  (hline:(apos.endLine==cpos.line)=true:=by rfl) (hs:cu (e::es) X.env=(false,eval e X.env)::cu es X.env:=by rfl) (hplain:(kl cpos (cu es X.env)).any (·.1)=false:=by rfl):
  PE X (.Call (.Attribute o name apos) (e::es) [] cpos) (tBM X.K T r to t):=by
 intro zg s σ H Q I h;refine wpAny_Call_method_late hbase hfew hline rfl (thn (ho zg s σ H _ I h) fun v s1 ⟨x,H1,I1,r1,ty,q1⟩=>?_);obtain⟨h1,h2⟩:=GU I1 r1 ty;refine⟨T,id,pa,slot,aa,h1,h2,?_⟩;have hA:=ha cpos zg s1 σ H1 _ I1 q1;rw[hs]at hA ⊢;refine Calls.callWith_builtin (by show (false||(kl cpos (cu es X.env)).any (·.1))=false;rw[hplain]<;>rfl) (Calls.evalArgs_plain ?_);exact thn hA fun us s2 ⟨vs,H2,I2,r2,q2⟩=>hm zg s2 σ H2 x vs v us Q I2 r1 r2 q2
end
end
section
def MtM(X:Cx)(id:String)(r:V->List V->Hp->VK->Prop):Prop:=
 ∀(zg:List (Addr×Obj)) (s:bf) (σ:St) (H:Hp) (x:V) (xs:List V) (v:bb) (us:List bb) (Q:VK),Inv X zg σ H s->RelV x v->Vals xs us->r x xs H Q ->
  bq (model X.prog X.w) X.A (call (.builtin id) (v::us)) (EP X zg σ Q) X.xe s
theorem Vals.one:∀{x:V}{us:List bb},Vals [x] us->∃u,us=[u]/\RelV x u
 |_,_,.cons r .nil=>⟨_,rfl,r⟩
theorem Vals.zero:∀{us:List bb},Vals [] us->us=[]
 |_,.nil=>rfl
theorem Vals.reverse{xs:List V}{us:List bb}(h:Vals xs us):Vals xs.reverse us.reverse:=by
 induction h with
 |nil=>exact .nil
 |cons r t ih=>rw[reverse_cons,reverse_cons];exact Vals.append ih (.cons r .nil)
theorem Vals.rep{xs:List V}{us:List bb}(h:Vals xs us):∀k:Nat,Vals (bo k xs).flatten (bo k us).flatten
 | 0=>.nil
 |k+1=>by
  rw[mn,mn,rb,rb];exact Vals.append h (Vals.rep h k)
theorem FU(aa:List bb):∀(k:Nat) (acc:List bb),
  List.foldl (fun x1 x2=>x1++x2) acc.toArray (bo k aa.toArray)=(acc++(bo k aa).flatten).toArray
 | 0,acc=>by simp
 |k+1,acc=>by
  have e:acc.toArray++aa.toArray=(acc++aa).toArray:=by simp
  have e2:(acc++aa)++(bo k aa).flatten=acc++(bo (k+1) aa).flatten:=by
   rw[mn,rb,ja]
  rw[<- e2,<- FU aa k (acc++aa),<- e,mn,foldl_cons]
section
variable {X:Cx}{zg:List (Addr×Obj)}{σ:St}{H:Hp}{s:bf}{l b:Addr}{xs ys zs:List V}
theorem Inv.lset{aa its':List bb}{n:Nat}{f:Array bb->Array bb}{t':Nat}(I:Inv X zg σ H s)(hH:H l=some (.lst xs))
  (e:s.heap.get? l=some { cls:=.type "list",data:=.seq aa.toArray n }) (hf:f aa.toArray=its'.toArray) (hv:Vals ys its') (hz:ys.length<=bw):
  Inv X zg σ (upd H l (.lst ys)) { s with heap:=s.heap.update l (jj f),toks:=t' }:=by
 have q:=PySem.IsL.update e f;rw[hf]at q;refine I.write (x:=l) (e:=l) (by rw[hH];exact trivial) (.inl rfl) (fun b' u hb hu=>(iw s.heap (jj f) (gj hb)).trans hu) ⟨_,q⟩ ?_;exact⟨hz,its',_,hv,q⟩
theorem Inv.lnew{aa:List bb}{t':Nat}(I:Inv X zg σ H s)(hv:Vals ys aa)(hz:ys.length<=bw):
  Inv X zg σ (upd H s.heap.objs.size (.lst ys)) { s with heap:=s.heap.push { cls:=.type "list",data:=.seq aa.toArray },toks:=t' } :=
 I.laid (fun _ _ q=>bn _ q) (fe _) ⟨hz,aa,0,hv,cv _ rfl⟩
theorem Inv.fresh(I:Inv X zg σ H s):H s.heap.objs.size=none:=I.hok.fresh (fe _)
theorem Inv.lstM(I:Inv X zg σ H s)(hH:H l=some (.lst xs)):xs.length<=bw/\∃(aa:List bb) (n:Nat),Vals xs aa/\xs.length=aa.length/\s.heap.get? l=some { cls:=.type "list",data:=.seq aa.toArray n }:=by
 obtain⟨z,aa,n,r,e⟩:=I.hok l _ hH;exact⟨z,aa,n,r,r.length,e⟩
theorem CQ{n:Nat}(h:n<=bw):Builtin.List.listTooLong n=false:=by
 unfold Builtin.List.listTooLong;exact bu yw
end
section
variable {X:Cx}
def F6:V->List V->Hp->VK->Prop:=fun x vs H Q=>∃l xs y,x=.ref l/\vs=[y]/\H l=some (.lst xs)/\xs.length<bw/\Q .non (upd H l (.lst (xs++[y])))
theorem oP:MtM X "list.append" F6:=by
 intro zg s σ H x vs v us Q I rx rv h;obtain⟨l,xs,y,rfl,rfl,hH,hz,q⟩:=h;cases rx;obtain⟨u,rfl,ru⟩:=rv.one;obtain⟨z,aa,n,r,hl,e⟩:=I.lstM hH;refine qv F.slot_list_append ⟨_,e,rfl⟩ F.entry_list_append (F.args_list_append_2 _ _) (PySem.list_append l aa.toArray n u (by rw[fy];omega)) ⟨e,?_⟩;refine⟨.non,_,I.lset (its':=aa++[u]) hH e yv (r.append (.cons ru .nil)) ?_,rfl,q⟩;rw[cq,gb];omega
def Gd:V->List V->Hp->VK->Prop:=fun x vs H Q=>∃l b xs zs,x=.ref l/\vs=[.ref b]/\H l=some (.lst xs)/\H b=some (.lst zs)/\xs.length+zs.length<=bw/\Q .non (upd H l (.lst (xs++zs)))
theorem Fg:MtM X "list.extend" Gd:=by
 intro zg s σ H x vs v us Q I rx rv h;obtain⟨l,b,xs,zs,rfl,rfl,hH,hB,hz,q⟩:=h;cases rx;obtain⟨u,rfl,ru⟩:=rv.one;cases ru;obtain⟨z,ac,n,r,hl,e⟩:=I.lstM hH;obtain⟨z2,aa,n2,r2,af,e2⟩:=I.lstM hB;have hsz:ac.toArray.size+aa.toArray.size<=bw:=by rw[fy,fy];omega
 have ae:¬(!ac.toArray.isEmpty&&Builtin.List.listTooLong (ac.toArray.size+aa.toArray.size))=true:=by
  rw[CQ hsz,Bool.and_false];exact jo
 refine qv F.slot_list_extend ⟨_,e,rfl⟩ F.entry_list_extend (F.args_list_extend_2 _ _)
  (AutoSeq1.list_extend_list_list_0 l ac.toArray n b aa.toArray n2 ae (by rw[fy];omega) yw) ⟨e,e2,?_⟩
 refine⟨.non,_,I.lset (its':=ac++aa) hH e yv (r.append r2) ?_,rfl,q⟩;rw[cq];omega
def EJ:V->List V->Hp->VK->Prop:=fun x vs H Q=>∃l xs,x=.ref l/\vs=[]/\H l=some (.lst xs)/\Q .non (upd H l (.lst xs.reverse))
theorem Oe:MtM X "list.reverse" EJ:=by
 intro zg s σ H x vs v us Q I rx rv h;obtain⟨l,xs,rfl,rfl,hH,q⟩:=h;cases rx;have ac:=rv.zero;subst ac;obtain⟨z,aa,n,r,hl,e⟩:=I.lstM hH;refine qv F.slot_list_reverse ⟨_,e,rfl⟩ F.entry_list_reverse (F.args_list_reverse_1 _) (AutoSeq1.list_reverse_list_0 l aa.toArray n (by rw[fy];omega)) ⟨e,?_⟩;refine⟨.non,_,I.lset (its':=aa.reverse) hH e yv r.reverse ?_,rfl,q⟩;rw[List.length_reverse];omega
def oV:R2:=fun x y H Q=>∃l b xs zs,x=.ref l/\y=.ref b/\H l=some (.lst xs)/\H b=some (.lst zs)/\xs.length+zs.length<=bw/\∀p,H p=none->Q (.ref p) (upd H p (.lst (xs++zs)))
theorem AN:OpR X (lq .Add) oV:=by
 intro zg s σ H x y v u Q I rx ry h;obtain⟨l,b,xs,zs,rfl,rfl,hH,hB,hz,q⟩:=h;cases rx;cases ry;obtain⟨z,ac,n,r,hl,e⟩:=I.lstM hH;obtain⟨z2,aa,n2,r2,ae,e2⟩:=I.lstM hB;refine PySem.P.add_list e e2 ?_ (by rw[fy,fy];omega);have ea:ac.toArray++aa.toArray=(ac++aa).toArray:=by simp
 rw[ea];exact⟨.ref _,_,I.lnew (t':=s.toks) (r.append r2) (by rw[cq];omega),rfl,q _ I.fresh⟩
def EG:R2:=fun x y H Q=>∃l k xs,x=.ref l/\y=.int k/\H l=some (.lst xs)/\-(2 ^ 63)<=k/\k<2 ^ 63/\xs.length*k.toNat<=bw /\
 ∀p,H p=none->Q (.ref p) (upd H p (.lst (bo k.toNat xs).flatten))
theorem Jg{α:Type}(xs:List α)(k:Nat):(bo k xs).flatten.length=k*xs.length:=by
 induction k with
 |zero=>simp
 |succ k ih=>rw[mn,rb,cq,ih,Nat.succ_mul,Nat.add_comm]
theorem JW:OpR X (lq .Mult) EG:=by
 intro zg s σ H x y v u Q I rx ry h;obtain⟨l,k,xs,rfl,rfl,hH,h1,h2,hz,q⟩:=h;cases rx;obtain⟨t,rfl⟩:=ry;obtain⟨z,aa,n,r,hl,e⟩:=I.lstM hH;have ag:aa.toArray.size*k.toNat<=bw:=by rw[fy,<- hl];exact hz
 have ae:¬ aa.toArray.size*k.toNat>(2 ^ 63-1)/8:=by
  have:(bw:Nat)<=(2 ^ 63-1)/8:=by decide
  omega
 have af:¬(!Builtin.List.listFitsIndex k)=true:=by
  rw[fitsIndex_both h1 h2];exact jo
 have ac:¬ Builtin.List.listTooLong (aa.toArray.size*k.toNat)=true:=by
  rw[CQ ag];exact jo
 have ah:List.foldl (fun x1 x2=>x1++x2) #[] (bo (if aa.toArray.isEmpty=true then 0 else k.toNat) aa.toArray)=(bo k.toNat aa).flatten.toArray:=by
  have f0:∀m:Nat,List.foldl (fun x1 x2=>x1++x2) #[] (bo m aa.toArray)=(bo m aa).flatten.toArray:=fun m=>by
   have:=FU aa m [];rw[nil_append]at this;exact this
  rw[f0];cases aa with
  |nil=>simp
  |cons a r'=>rw[cb yv]
 refine wpAny_binaryOp_repeat_ref (T:="list") (U:="int") dz ⟨_,e,rfl⟩ (fun s'=>typeIs_int s' k t) noFill_list_mul F.fills_int_mul F.slot_int_rmul repeat_list F.slot_int_index.lookup
  (qv F.slot_int_rmul (typeIs_int s k t) F.entry_int_rmul (F.args_int_rmul_2 _ _) (int___rmul___int_list k t l aa.toArray n)
   ⟨e,rfl,⟨_,e,rfl⟩,qv F.slot_list_mul ⟨_,e,rfl⟩ F.entry_list_mul (F.args_list_mul_2 _ _) (AutoListH.list___mul___list_int_3 l aa.toArray n k t af ae ac) ⟨e,?_⟩⟩)
 rw[ah];exact⟨.ref _,_,I.lnew (t':=s.toks) (r.rep k.toNat) (by rw[Jg,Nat.mul_comm];exact hz),rfl,q _ I.fresh⟩
end
end
section
section
variable {κ:Type} [DecidableEq κ]
def fR(aa:List (κ×V))(k:κ):Option V:=(aa.find? fun kv=>decide (kv.1=k)).map (·.2)
def dU(aa:List (κ×V))(k:κ)(v:V):List (κ×V):=
 if (aa.any fun kv=>decide (kv.1=k))=true then aa.map (fun kv=>if kv.1=k then (kv.1,v)else kv)else aa++[(k,v)]
theorem xG{p:κ×V}{r:List (κ×V)}{k:κ}(e:p.1=k):fR (p::r) k=some p.2:=by simp[fR,find?_cons,e]
theorem xH{p:κ×V}{r:List (κ×V)}{k:κ}(e:¬ p.1=k):fR (p::r) k=fR r k:=by simp[fR,find?_cons,e]
theorem Cc(k:κ):∀kvs:List (κ×V),(kvs.any fun kv=>decide (kv.1=k))=(fR kvs k).isSome
 | []=>rfl
 |p::r=>by
  rw[any_cons];by_cases e:p.1=k
  ·simp only[xG e,bx e,Bool.true_or,Option.isSome_some]
  ·rw[xH e,bu e,Bool.false_or];exact Cc k r
theorem GC(aa:List (κ×V))(k:κ)(v:V):(dU aa k v).length<=aa.length+1:=by
 unfold dU;split
 ·rw[cg];omega
 ·rw[cq,cz,length_nil];omega
theorem RelO.isSome_eq{o:Option V}{u:Option bb}(r:RelO o u):o.isSome=u.isSome:=by
 cases o with
 |none=>cases u with
  |none=>rfl
  |some _=>exact(show False from r).elim
 |some _=>cases u with
  |none=>exact(show False from r).elim
  |some _=>rfl
theorem KV.val{aa:List (κ×V)}{vs:List (κ×bb)}(r:KV aa vs)(k:κ):RelO (fR aa k) (valueAt vs k):=by
 unfold KV at r;induction r with
 |nil=>exact ni
 | @cons p q ps qs h t ih=>
  obtain⟨h1,h2⟩:=h;by_cases e:p.1=k
  ·have e':q.1=k:=h1.symm.trans e;have b:valueAt (q::qs) k=some q.2:=by simp[valueAt,find?_cons,e']
   rw[xG e,b];exact h2
  ·have e':¬ q.1=k:=fun z=>e (h1.trans z);have b:valueAt (q::qs) k=valueAt qs k:=by simp[valueAt,find?_cons,e']
   rw[xH e,b];exact ih
theorem KV.any{aa:List (κ×V)}{vs:List (κ×bb)}(r:KV aa vs)(k:κ):(aa.any fun kv=>decide (kv.1=k))=vs.any fun kv=>decide (kv.1=k):=by
 unfold KV at r;induction r with
 |nil=>rfl
 |cons h t ih=>rw[any_cons,any_cons,ih,h.1]
theorem KV.repl{aa:List (κ×V)}{vs:List (κ×bb)}(r:KV aa vs)(k:κ){y:V}{u:bb}(ry:RelV y u):
  KV (aa.map fun kv=>if kv.1=k then (kv.1,y)else kv) (vs.map fun kv=>if kv.1=k then (kv.1,u)else kv):=by
 unfold KV at r ⊢;induction r with
 |nil=>exact .nil
 | @cons p q ps qs h t ih=>
  rw[gk,gk];refine .cons ?_ ih;obtain⟨h1,h2⟩:=h;by_cases e:p.1=k
  ·rw[cm e,cm (h1.symm.trans e)];exact⟨h1,ry⟩
  ·rw[cb e,cb (fun z=>e (h1.trans z))];exact⟨h1,h2⟩
theorem KV.put{aa:List (κ×V)}{vs:List (κ×bb)}(r:KV aa vs)(k:κ){y:V}{u:bb}(ry:RelV y u):KV (dU aa k y) (stored vs k u):=by
 unfold dU stored;rw[r.any k];by_cases e:(vs.any fun kv=>decide (kv.1=k))=true
 ·rw[cm e,cm e];exact r.repl k ry
 ·rw[cb e,cb e];exact Paired.snoc r ⟨rfl,ry⟩
theorem KV.length{aa:List (κ×V)}{vs:List (κ×bb)}(r:KV aa vs):aa.length=vs.length:=Paired.length r
end
theorem Aw{P:df}{w:gg}{k:Key}{u:bb}(r:RelV (kV k) u):(fA P w).is k u=true:=by
 cases k with
 |inl i=>obtain⟨t,e⟩:=(show ∃t,u=Value.int i t from r);subst e;exact Jk P w i t
 |inr x=>obtain⟨t,e⟩:=(show ∃t,u=Value.str x t from r);subst e;exact LG P w x t
theorem Gh{P:df}{w:gg}:∀{ks:List Key}{us:List bb},Vals (ks.map kV) us->ItemsAre (fA P w) ks us
 | [],_,r=>by rw[map_nil]at r;cases r;exact .nil
 |k::ks,_,r=>by
  rw[gk]at r;cases r with
  |cons h t=>exact .cons (Aw h) (Gh t)
abbrev KT (H:Hp):List (List Key×V)->List (List Key×Addr×bb)->Prop:=Paired fun p q=>p.1=q.1/\H q.2.1=some (.tup (p.1.map kV))/\RelV p.2 q.2.2
theorem KT.val{H:Hp}{aa:List (List Key×V)}{xs:List (List Key×Addr×bb)}(r:KT H aa xs)(k:List Key):RelO (fR aa k) ((atKey xs k).map (·.2)):=by
 induction r with
 |nil=>exact ni
 | @cons p q ps qs h t ih=>
  obtain⟨h1,_,h2⟩:=h;by_cases e:p.1=k
  ·have e':q.1=k:=h1.symm.trans e;have b:atKey (q::qs) k=some q.2:=by simp[atKey,find?_cons,e']
   rw[xG e,b];exact h2
  ·have e':¬ q.1=k:=fun z=>e (h1.trans z);have b:atKey (q::qs) k=atKey qs k:=by simp[atKey,find?_cons,e']
   rw[xH e,b];exact ih
theorem KT.repl{H:Hp}{aa:List (List Key×V)}{xs:List (List Key×Addr×bb)}(r:KT H aa xs)(k:List Key){y:V}{u:bb}(ry:RelV y u):
  KT H (aa.map fun kv=>if kv.1=k then (kv.1,y)else kv) (xs.map (putAt k u)):=by
 induction r with
 |nil=>exact .nil
 | @cons p q ps qs h t ih=>
  rw[gk,gk];refine .cons ?_ ih;obtain⟨h1,h2,h3⟩:=h;unfold putAt;by_cases e:p.1=k
  ·rw[cm e,cm (h1.symm.trans e)];exact⟨h1,h2,ry⟩
  ·rw[cb e,cb (fun z=>e (h1.trans z))];exact⟨h1,h2,h3⟩
theorem KT.put{H:Hp}{aa:List (List Key×V)}{xs:List (List Key×Addr×bb)}(r:KT H aa xs)(k:List Key){b:Addr}{y:V}{u:bb}(hb:H b=some (.tup (k.map kV)))(ry:RelV y u):
  KT H (dU aa k y) (storedH xs k b u):=by
 have e:(aa.any fun kv=>decide (kv.1=k))=(atKey xs k).isSome:=by
  rw[Cc,(r.val k).isSome_eq,isSome_map]
 unfold dU storedH;rw[e];by_cases q:(atKey xs k).isSome=true
 ·rw[cm q,cm q];exact r.repl k ry
 ·rw[cb q,cb q];exact Paired.snoc r ⟨rfl,hb,ry⟩
theorem KT.keeps{H H':Hp}{aa:List (List Key×V)}{xs:List (List Key×Addr×bb)}(r:KT H aa xs)(ht:∀b ys,H b=some (.tup ys)->H' b=some (.tup ys)):KT H' aa xs:=
 Paired.mapP r fun _ _ z=>⟨z.1,ht _ _ z.2.1,z.2.2⟩
section
variable {P:df}{w:gg}{H:Hp}{h:Heap}{a:Addr}
theorem Ej{u:HO}(ok:HOk P w H h)(e:Rd H a u):ObjOk P w H h a u:=e.ok ok
theorem Bt{aa:List (Key×V)}(ok:HOk P w H h)(e:Rd H a (.dK aa)):aa.length<=bw/\(a==oh)=false/\∃vs,KV aa vs/\h.DictOf (fA P w) a vs:=
 show ObjOk P w H h a (.dK aa)from Ej ok e
theorem Kk{aa:List (Key×V)}(ok:HOk P w H h)(e:H a=some (.dK aa)):aa.length<=bw/\(a==oh)=false/\∃vs,KV aa vs/\h.DictOf (fA P w) a vs:=Bt ok (.inl e)
theorem yD{ks:List Key}(ok:HOk P w H h)(e:H a=some (.tup (ks.map kV))):(tupleKind (fA P w)).is h ks a:=by
 obtain⟨_,aa,r,o,h1,h2,n,h3⟩:=(show ObjOk P w H h a (.tup (ks.map kV))from ok a _ e);exact⟨o,aa.toArray,n,h1,h2,h3,by simpa using Gh r⟩
theorem F3{aa:List (List Key×V)}(ok:HOk P w H h)(e:Rd H a (.dT aa)):aa.length<=bw/\(a==oh)=false /\
  ∃xs,KT H aa xs/\h.DictOfH (tupleKind (fA P w)) a xs:=by
 obtain⟨z,y,xs,r,o,es,ep,h1,h2,h3,h4,h5⟩:=(show ObjOk P w H h a (.dT aa)from Ej ok e);refine⟨z,y,xs,r,o,es,ep,h1,h2,h3,h4,fun x hx=>?_,h5⟩;have all:∀{l:List (List Key×V)}{m:List (List Key×Addr×bb)},KT H l m->∀x∈m,(tupleKind (fA P w)).is h x.1 x.2.1:=by
  intro l m q;induction q with
  |nil=>intro x hx;exact nomatch hx
  | @cons p q ps qs hq t ih=>
   intro x hx;rcases mem_cons.mp hx with e|hx
   ·subst e;exact yD ok (by rw[<- hq.1];exact hq.2.1)
   ·exact ih x hx
 exact all r x hx
theorem LD{aa:List (List Key×V)}(ok:HOk P w H h)(e:H a=some (.dT aa)):aa.length<=bw/\(a==oh)=false /\
  ∃xs,KT H aa xs/\h.DictOfH (tupleKind (fA P w)) a xs:=F3 ok (.inl e)
end
def DGet(H:Hp)(a:Addr)(y:V)(r:Option V):Prop:=
 (∃kvs k,Rd H a (.dK kvs)/\y=kV k/\r=fR kvs k)\/∃kvs k b,Rd H a (.dT kvs)/\y=.ref b/\H b=some (.tup (k.map kV))/\r=fR kvs k
def DPut(H:Hp)(a:Addr)(y v:V)(H':Hp):Prop:=
 (∃kvs k,H a=some (.dK kvs)/\y=kV k/\kvs.length<bw/\H'=upd H a (.dK (dU kvs k v))) \/
 ∃kvs k b,H a=some (.dT kvs)/\y=.ref b/\H b=some (.tup (k.map kV))/\kvs.length<bw/\H'=upd H a (.dT (dU kvs k v))
theorem DPut.k{H:Hp}{a:Addr}{aa:List (Key×V)}{k:Key}{v:V}(e:H a=some (.dK aa))(hl:aa.length<bw):DPut H a (kV k) v (upd H a (.dK (dU aa k v))):=.inl ⟨aa,k,e,rfl,hl,rfl⟩
theorem DPut.t{H:Hp}{a b:Addr}{aa:List (List Key×V)}{k:List Key}{v:V}(e:H a=some (.dT aa))(eb:H b=some (.tup (k.map kV)))(hl:aa.length<bw):
  DPut H a (.ref b) v (upd H a (.dT (dU aa k v))):=.inr ⟨aa,k,b,e,rfl,eb,hl,rfl⟩
section
variable {X:Cx}{zg:List (Addr×Obj)}{σ:St}{H:Hp}{s:bf}{a:Addr}{y v:V}{u r:bb}{o:Option V}{A:fm}{E:bb->bf->Prop}
theorem Inv.big(I:Inv X zg σ H s):oh<s.heap.objs.size:=by
 have h:nu<s.heap.objs.size:=(I.mod.glob.keeps I.bk).lt;exact Nat.lt_trans dz h
theorem KN{Q:bb->bf->Prop}(hu:A.units+1<so)(I:Inv X zg σ H s)(g:DGet H a y o)(ry:RelV y u)(h:∀s',Inv X zg σ H s'->Q (.bool o.isSome) s'):
  bq (model X.prog X.w) A (jd .In u (.ref a)) Q E s:=by
 rcases g with ⟨kvs,k,e,ey,l⟩|⟨kvs,k,b,e,ey,eb,l⟩
 ·subst ey;obtain⟨z,hd,vs,aa,dd⟩:=Bt I.hok e;refine wpAny_in_of (Aw ry) hd dd.mapOf ?_;rw[<- (aa.val k).isSome_eq,<- l];exact h _ (I.tok _)
 ·subst ey;cases (show u=bv b from ry);obtain⟨z,hd,xs,aa,dd⟩:=F3 I.hok e;refine wpAny_in_heap (tupleKind_room_in1 hu) (yD I.hok eb) hd dd ?_;have q:=(aa.val k).isSome_eq;rw[isSome_map]at q;rw[<- q,<- l];exact h _ (I.tok _)
theorem DV{h':Heap}{t':Nat}{ob:HO}(I:Inv X zg σ H s)(mu:Mut (H a))(hs:fj a s.heap h')(he:∃q,h'.get? a=some q)(aa:ObjOk X.prog X.w (upd H a ob) h' a ob):
  Inv X zg σ (upd H a ob) { s with heap:=h',toks:=t' } :=
 I.write (x:=a) (e:=a) mu (.inl rfl) (fun b q hb z=>(hs.2 b hb).trans z) he aa
theorem Ig{P:df}{w:gg}{H':Hp}{h':Heap}{aa:List (Key×V)}{vs:List (Key×bb)}(z:aa.length<=bw)(hd:(a==oh)=false)(ac:KV aa vs)(dd:h'.DictOf (fA P w) a vs):
  ObjOk P w H' h' a (.dK aa):=⟨z,hd,vs,ac,dd⟩
theorem KA{H':Hp}{Q:Unit->bf->Prop}(hu:A.units+1<so)(I:Inv X zg σ H s)(g:DPut H a y v H')(ry:RelV y u)(rv:RelV v r)(h:∀s',Inv X zg σ H' s'->Q () s'):
  bq (model X.prog X.w) A (setItem (.ref a) u r) Q E s:=by
 rcases g with ⟨kvs,k,e,ey,l,eH⟩|⟨kvs,k,b,e,ey,eb,l,eH⟩
 ·subst ey eH;obtain⟨z,hd,vs,aa,dd⟩:=Kk I.hok e;have hz:vs.length<=bw:=by rw[<- aa.length];exact z
  have hl:(dU kvs k v).length<=bw:=by have:=GC kvs k v;omega
  refine wpAny_setItem_pairs (hsz:=hz) (Aw ry) dd fun h' ac hs=>h _ ?_;have he:∃q,h'.get? a=some q:=let ⟨q,_,_,hq,_⟩:=ac;⟨q,hq⟩;exact DV I (by rw[e];exact ni) hs he (Ig hl hd (aa.put k rv) ac)
 ·subst ey eH;cases (show u=bv b from ry);obtain⟨z,hd,xs,aa,dd⟩:=LD I.hok e;have hz:xs.length<=bw:=by rw[<- Paired.length aa];exact z
  have hl:(dU kvs k v).length<=bw:=by have:=GC kvs k v;omega
  refine wpAny_setItem_heap (hsz:=hz) (tupleKind_room_in1 hu) (yD I.hok eb) dd fun h' ac hs=>h _ ?_;obtain⟨q,es,ep,hq,h2,h3,h4,_,h5⟩:=ac;refine DV I (by rw[e];exact ni) hs ⟨q,hq⟩ ⟨hl,hd,_,(aa.put k eb rv).keeps fun c ys ec=>?_,q,es,ep,hq,h2,h3,h4,h5⟩;rw[zL (Nr ec e (fun z=>nomatch z))];exact ec
end
def FL(td ty tv:TE):TS:=fun D σ H=>tv σ H fun v H1=>td σ H1 fun x H2=>ty σ H2 fun y H3=>∃a H4,x=.ref a/\DPut H3 a y v H4/\D.nx σ H4
section
variable {X:Cx}{o i e value:Expr}{pos pos' tpos:Pos}{td ty tv:TE}
theorem Lg(hu:X.A.units+1<so)(ho:PE X o td)(hi:PE X i ty)(hv:PE X value tv)(hs:sj value (some (.Subscript o i pos')) pos.line X.env=pure false):
  PS X (.Assign [.Subscript o i pos'] value pos) (FL td ty tv):=by
 intro zg s σ H D I h;refine wpAny_Assign_Subscript (thn (hv zg s σ H _ I h) fun r s1 ⟨v,H1,I1,rv,q1⟩=>thn (ho zg s1 σ H1 _ I1 q1) fun u s2 ⟨x,H2,I2,rx,q2⟩=>thn (hi zg s2 σ H2 _ I2 q2) fun iv s3 ⟨y,H3,I3,ry,a,H4,ex,g,q3⟩=>?_) hs;subst ex;obtain rfl:u=bv a:=rx;exact KA hu I3 g ry rv fun s4 I4=>⟨σ,H4,I4,q3⟩
end
theorem LM{P:df}{w:gg}{H:Hp}(h:Heap)(hb:oh<h.objs.size):ObjOk P w H (h.push { cls:=.type "dict",data:=.dict #[] }) h.objs.size (.dK []):=
 ⟨qc _,beq_eq_false_iff_ne.mpr (gj (jq hb)),[],.nil,Heap.DictOf.new h⟩
def At:TE:=fun _ H Q=>∀p,H p=none->Q (.ref p) (upd H p (.dK []))
section
variable {X:Cx}{pos:Pos}
theorem CT:PE X (.Dict [] [] pos) At:=fun zg s σ H Q I h=>
 wpAny_Dict_empty ⟨.ref s.heap.objs.size,_,I.laid (a:=s.heap.objs.size) (o:=.dK []) (t':=s.toks) (fun _ _ q=>bn _ q) (fe _) (LM s.heap I.big),rfl,h _ (I.hok.fresh (fe _))⟩
end
structure M1(X:Cx)(o:Expr)(m:Str)(apos:Pos)(e:Expr)(cpos:Pos):Prop where
 base:rk o m X.env (eval o X.env)=eval o X.env
 few:((kl cpos (cu [e] X.env)).all (fun x=>!x.1)&&(backToKw cpos (qu [] X.env)).all (fun x=>x.1.isSome)
  && decide (([e]:List Expr).length+([]:List Keyword).length+(if ([]:List Keyword).isEmpty then 0 else 1)<30))=true
 line:(apos.endLine==cpos.line)=true
 trees:kl cpos (cu [e] X.env)=[(false,eval e X.env)]
structure M2(X:Cx)(o:Expr)(m:Str)(apos:Pos)(e f:Expr)(cpos:Pos):Prop where
 base:rk o m X.env (eval o X.env)=eval o X.env
 few:((kl cpos (cu [e,f] X.env)).all (fun x=>!x.1)&&(backToKw cpos (qu [] X.env)).all (fun x=>x.1.isSome)
  && decide (([e,f]:List Expr).length+([]:List Keyword).length+(if ([]:List Keyword).isEmpty then 0 else 1)<30))=true
 line:(apos.endLine==cpos.line)=true
 trees:kl cpos (cu [e,f] X.env)=[(false,eval e X.env),(false,eval f X.env)]
def obO(a:Addr)(ob:Obj):HO:=.ext fun h=>h.get? a=some ob
end
end L2
namespace Att
open PySem PySem.W PySem.Calls PyProof.Rows
theorem ME{P:Params}{h:Heap}:∀(ns:List Int) (vs:List bb),WellAll P h vs (ns.map WData.int)->IntsAre vs ns:=by
 intro ns;induction ns with
 |nil=>
  intro vs w;rw[map_nil]at w;cases w;exact .nil
 |cons n ns ih=>
  intro vs w;rw[gk]at w;cases w with
  |cons a b=>
   cases a;exact .cons _ _ (ih _ b)
theorem PR{l:OpenLaw}{n:Nat}(hn:l.most=some n){P:Params}{h:Heap}{args:List WData}{aa:List bb}
  (hpre:l.row.toRowW.claim.pre args=true) (hwl:WellAll P h aa args):
  ∃a vs ns,aa=[bv a]/\args=[WData.list (ns.map WData.int)]/\h.get? a=some { cls:=.type "list",data:=.seq vs.toArray }/\IntsAre vs ns/\ns.length<=n:=by
 have ae:WShape.hasAll [] args [.list .int]=true:=(pre_splitW hpre).1;have hc:l.pre.holds [] { args:=args } = true:=(pre_splitW hpre).2;obtain⟨d,r,rfl,h1,h2⟩:=hasAllW_cons ae;obtain rfl:=hasAllW_nil h2;obtain⟨xs,rfl,h3⟩:=hasW_list h1;obtain⟨ns,rfl⟩:=items_int h3;have ac:ns.length<=n:=by
  unfold OpenLaw.pre at hc;have h4:(WTm.not (.lt (.lit (.int (n:Int))) (.len (.arg 0)))).holds [] { args:=[.list (ns.map .int)] } = true:=by
   have h4:=(holds_andW hc).1;rw[hn]at h4;exact h4
  have h5:=condW_of h4 (w_not (w_lt w_lit (w_len_list (w_arg rfl))));rw[cg]at h5;refine Nat.le_of_not_lt fun q=>?_;have q':(n:Int)<((ns.length:Nat):Int):=yw
  first
   | (rw[bx q']at h5;exact absurd h5 dz)
   | (simp at h5;omega)
 cases hwl with
 |cons w1 w2=>
  cases w2;cases w1 with
  |list ho hall=>exact⟨_,_,ns,rfl,rfl,ho,ME ns _ hall,ac⟩
theorem HC(l:OpenLaw)(args:List WData):l.row.toRowW.claim.post args (.bool true) args=true:=
 postW_of (r:=l.row.toRowW) (X:=(true==true))
  (show WShape.has [] (.bool true) .bool=true by first|rfl|decide|simp[WShape.has,WShape.arms,WShape.armsAll])
  (show (WTm.eq .res (.lit (.bool true))).value [] { args:=args,res:=some (.bool true),after:=args } = some (.bool (true==true))from w_eq_bool (w_res rfl) w_lit) rfl
theorem attach_call{l:OpenLaw}{n:Nat}{q:df}{aa:List Str}{XP:(Str->Option bb)->Heap->Prop}{YP:gg->Heap->Prop}{d:DefRec}
  (hn:l.most=some n) (hdf:d.params.defaults=[])
  (call:∀(w:gg) (s₀ s₁:bf) (mg mb:Str->Option bb) (fa:Addr) (o:Obj) (pm cd ac:bb) (a:Addr) (vs:List bb) (ns:List Int),
   Ground q aa [] XP w s₀ mg mb s₁.heap->YP w s₁.heap ->
   s₁.heap.get? fa=some o->o.data=.func (docDef d.name d.params d.body d.scope pm cd ac)->s₁.heap.CodeRec cd d.name->mg d.name=some (.ref fa) ->
   s₁.heap.get? a=some { cls:=.type "list",data:=.seq vs.toArray }->IntsAre vs ns->ns.length<=n->s₁.gens = #[] ->
   codeAny (model l.prog w) callerA (.call (.ref fa) ⟨[.ref a],[]⟩) (fun r s'=>r=.ok (.ret (.bool true))/\OldK s₁.heap s'.heap/\s'.os=s₁.os/\AllBare s'.gens) s₁):
  WalkO q aa XP YP l.row.toRowW d [] (fun f vs=>PySem.call f vs):=by
 intro w s₀ s₁ mg mb G Y fa o pm cd ac dV kV ho hd aj hD ai hg args am as af al ao ak an;obtain rfl:dV=.none:=Dflts.none hD hdf;obtain rfl:kV=.none:=Dflts.noKw hD;obtain⟨a,vs,ns,rfl,rfl,ag,ae,ah⟩:=PR hn af ak;refine enter_call (ou (call w s₀ s₁ mg mb fa o pm cd ac a vs ns G Y ho (fd_plain hd) aj ai ag ae ah hg) fun r s' hq=>?_);obtain⟨rfl,h2,h3,h4⟩:=hq;exact⟨.inl ⟨.bool true,.bool true,[],rfl,fun _=>rfl,.bool true,HC l _,fun _=>⟨List.Pairwise.nil,fun _ hm=>(nomatch hm)⟩⟩,h2,h3,h4⟩
end Att
namespace L2
open PySem PySem.Spec PyProof.Rows
section
theorem Bk:∀{vs:List bb}{ns:List Int},IntsAre vs ns->Vals (ns.map V.int) vs
 |_,_,.nil=>.nil
 |_,_,.cons n t h=>.cons ⟨t,rfl⟩ (Bk h)
def Only(H:Hp):Prop:=∀b,H b=none\/(∃o xs,H b=some (.frz o (.lst xs)))\/(∃q∈tabsG,q.1.2=b/\H b=some (.tbl q.2))\/∃q∈keepG,q.1.1=b/\H b=some (.tup [.str q.2])
def lR(b:Addr):Option HO:=(tabsG.find? fun q=>q.1.2==b).map fun q=>.tbl q.2
theorem DK{b:Addr}{u:HO}(e:lR b=some u):∃q∈tabsG,q.1.2=b/\u=.tbl q.2:=by
 unfold lR at e;cases h:tabsG.find? fun q=>q.1.2==b with
 |none=>rw[h]at e;cases e
 |some q=>
  rw[h]at e;cases e;exact⟨q,List.mem_of_find?_eq_some h,by simpa using find?_some h,rfl⟩
theorem Nh{l:List ((Addr×Addr)×Array bb)}(nd:(l.map fun q=>q.1.2).Nodup){q:(Addr×Addr)×Array bb}(h:q∈l):l.find? (fun r=>r.1.2==q.1.2)=some q:=by
 induction l with
 |nil=>cases h
 |cons p l ih=>
  rw[gk,nodup_cons]at nd;rcases mem_cons.mp h with e|e
  ·subst e;simp
  ·have ne:¬ p.1.2=q.1.2:=fun z=>nd.1 (by rw[z];exact mem_map_of_mem (f:=fun q:(Addr×Addr)×Array bb=>q.1.2) e);rw[List.find?_cons_of_neg (by simpa using ne)];exact ih nd.2 e
theorem Os(nd:(tabsG.map fun q=>q.1.2).Nodup){q:(Addr×Addr)×Array bb}(h:q∈tabsG):lR q.1.2=some (.tbl q.2):=by
 unfold lR;rw[Nh nd h];rfl
def d8(b:Addr):Option HO:=match lR b with
 |some u=>some u
 |none=>(keepG.find? fun q=>q.1.1==b).map fun q=>.tup [.str q.2]
theorem oA{b:Addr}{u:HO}(e:d8 b=some u):(∃q∈tabsG,q.1.2=b/\u=.tbl q.2)\/∃q∈keepG,q.1.1=b/\u=.tup [.str q.2]:=by
 unfold d8 at e;cases ht:lR b with
 |some v=>rw[ht]at e;cases e;exact .inl (DK ht)
 |none=>
  rw[ht]at e;cases h:keepG.find? fun q=>q.1.1==b with
  |none=>simp[h]at e
  |some q=>
   simp[h]at e;exact .inr ⟨q,List.mem_of_find?_eq_some h,by simpa using find?_some h,e.symm⟩
theorem Gm{l:List ((Addr×Obj)×Str)}(nd:(l.map fun q=>q.1.1).Nodup){q r:(Addr×Obj)×Str}(h:q∈l)(h':r∈l)(e:r.1.1=q.1.1):r=q:=by
 induction l with
 |nil=>cases h
 |cons p l ih=>
  rw[gk,nodup_cons]at nd;rcases mem_cons.mp h with e1|e1
  ·rcases mem_cons.mp h' with e2|e2
   ·rw[e1,e2]
   ·exact absurd (by rw[<- e1,<- e];exact mem_map_of_mem (f:=fun q:(Addr×Obj)×Str=>q.1.1) e2) nd.1
  ·rcases mem_cons.mp h' with e2|e2
   ·exact absurd (by rw[<- e2,e];exact mem_map_of_mem (f:=fun q:(Addr×Obj)×Str=>q.1.1) e1) nd.1
   ·exact ih nd.2 e1 e2
structure TabsOk(K:bt)(h:Heap):Prop where
 nd:(tabsG.map fun q=>q.1.2).Nodup
 hd:∀q∈tabsG,W.CodeHd h q.1.1 q.1.2
 empty:∀q∈tabsG,h.get? q.1.2=some (W.tabObj #[])
 off:∀q∈tabsG,K.lookup q.1.2=none
 knd:(keepG.map fun q=>q.1.1).Nodup
 kk:∀q∈keepG,K.lookup q.1.1=some q.1.2/\q.1.2.cls=.type "tuple"/\q.1.2.dict=none/\∃t n,q.1.2.data=.seq #[.str q.2 t] n
theorem TabsOk.none{K:bt}{h:Heap}(e:tabsG=[])(e2:keepG=[]):TabsOk K h:=⟨by rw[e];exact nodup_nil,fun q z=>absurd z (by rw[e];simp),fun q z=>absurd z (by rw[e];simp),fun q z=>absurd z (by rw[e];simp),by rw[e2];exact nodup_nil,fun q z=>absurd z (by rw[e2];simp)⟩
theorem FY{K:bt}{h:Heap}(TT:TabsOk K h){q:(Addr×Addr)×Array bb}(m:q∈tabsG):d8 q.1.2=some (.tbl q.2):=by
 unfold d8;rw[Os TT.nd m]
theorem CJ{K:bt}{h:Heap}(TT:TabsOk K h){q:(Addr×Obj)×Str}(m:q∈keepG):d8 q.1.1=some (.tup [.str q.2]):=by
 unfold d8;cases ht:lR q.1.1 with
 |some v=>
  obtain⟨r,hr,e,_⟩:=DK ht;have:=TT.off r hr;rw[e,(TT.kk q m).1]at this;cases this
 |none=>
  cases hf:keepG.find? fun r=>r.1.1==q.1.1 with
  |none=>exact absurd (List.find?_eq_none.mp hf q m) yv
  |some r=>
   have:=Gm TT.knd m (List.mem_of_find?_eq_some hf) (by simpa using find?_some hf);subst this;rfl
theorem NK{P:df}{w:gg}{K:bt}{mg mb:Str->Option bb}{CX:CXT}{k:Nat}{fa a:Addr}{fd:ki}{x:Str}{sp:Sp}{s₁:bf}{vs:List bb}{ns:List Int}
  (KX:K.In s₁.heap) (TT:TabsOk K s₁.heap) (hbm:BltAt s₁.heap mg) (hns:s₁.heap.Ns nu mg) (hb:s₁.heap.Ns builtinsNs mb) (hbb:∀x:Str,x ≠ "__name__"->mb x=ik x) (hlim:s₁.heap.NoLimit) (hg:s₁.gens = #[])
  (ha:s₁.heap.get? a=some { cls:=.type "list",data:=.seq vs.toArray }) (hi:IntsAre vs ns) (hl:ns.length<=bw) (hr:Room k callerA)
  (F:∀base:Heap,KInW K base->base.Ns nu mg->FnOk P w K mg base CX k fa fd [x] sp) (hbind:∀(s:bf) (u:bb),BindsTo s fd ⟨[u],[]⟩ [(x,u)])
  (hsp:∀H:Hp,Only H->SqL K H a (ns.map V.int)->sp [.ref a] H (fun v _=>v=.bl true) fun _ _ _=>False)
  (hCX:∀H e s',CX [] H s₁ (fun _ _ _=>False) e s'->False):
  codeAny (model P w) callerA (.call (.ref fa) ⟨[.ref a],[]⟩) (fun r s'=>r=.ok (.ret (.bool true))/\OldK s₁.heap s'.heap/\s'.os=s₁.os/\AllBare s'.gens) s₁:=by
 have rv:=Bk hi;have ak:=hi.length
 have af:∀H:Hp,Only H->SqL K H a (ns.map V.int)->HOk P w H s₁.heap->(∀b,H b≠none->b=a\/(∃q∈tabsG,q.1.2=b)\/∃q∈keepG,q.1.1=b)->(H a≠none->K.lookup a=none)->(∀q∈tabsG,H q.1.2=some (.tbl q.2))->(∀q∈keepG,H q.1.1=some (.tup [.str q.2])) ->
   codeAny (model P w) callerA (.call (.ref fa) ⟨[.ref a],[]⟩) (fun r s'=>r=.ok (.ret (.bool true))/\OldK s₁.heap s'.heap/\s'.os=s₁.os/\AllBare s'.gens) s₁:=by
  intro H hO hS hok hA hK am an;have ah:∀{b:Addr}{o:Obj},s₁.heap.get? b=some o->o.cls≠.type "list"->o.cls≠.none->o.cls≠.type "tuple"->H b=none:=fun {b o} e c1 c2 c3=>by
   cases q:H b with
   |none=>rfl
   |some u=>
    rcases hA b (by rw[q];simp)with e'|⟨r,hr',e'⟩|⟨r,hr',e'⟩
    ·subst e';rw[ha]at e;cases e;exact absurd rfl c1
    ·have:=TT.empty r hr';rw[e',e]at this;cases this;exact absurd rfl c2
    ·have:=KX _ _ (TT.kk r hr').1;rw[e',e]at this;cases this;exact absurd (TT.kk r hr').2.1 c3
  have aa:∀{b:Addr}{o:Obj},s₁.heap.get? b=some o->H b=none->(iN s₁.heap H).get? b=some o:=fun e n=>PD e n;have ao:∀{b:Addr}{o:Obj}{es:Array DictEntry}{ep:Nat},s₁.heap.get? b=some o->o.data=.dict es ep->H b=none:=fun {b o es ep} e d=>by
   cases q:H b with
   |none=>rfl
   |some u=>
    rcases hA b (by rw[q];simp)with e'|⟨r,hr',e'⟩|⟨r,hr',e'⟩
    ·subst e';rw[ha]at e;cases e;have d':Data.seq vs.toArray _=Data.dict es ep:=d;cases d'
    ·have:=TT.empty r hr';rw[e',e]at this;cases this;cases d
    ·have:=KX _ _ (TT.kk r hr').1;rw[e',e]at this;cases this;obtain⟨t,n,dd⟩:=(TT.kk r hr').2.2.2;rw[d]at dd;cases dd
  have ae:∀{b:Addr}{m:Str->Option bb},s₁.heap.Ns b m->(iN s₁.heap H).Ns b m:=fun {b m} ⟨o,es,ep,e,d,r⟩=>⟨o,es,ep,aa e (ao e d),d,r⟩;have ag:KInW K (iN s₁.heap H):=fun b o e=>by
   cases q:H b with
   |none=>exact .inl (aa (KX b o e) q)
   |some u=>
    rcases hA b (by rw[q];simp)with e'|⟨r,hr',e'⟩|⟨r,hr',e'⟩
    ·subst e';rw[hK (by rw[q];simp)]at e;cases e
    ·rw[<- e',TT.off r hr']at e;cases e
    ·refine .inr ⟨r,hr',?_⟩;subst e';rw[(TT.kk r hr').1]at e;cases e;rfl
  have hM:Mod K mg (iN s₁.heap H):=⟨ag,ae hns,⟨mb,ae hb,hbb⟩,let ⟨mc,h1,h2⟩:=hlim;⟨mc,ae h1,h2⟩,
   let ⟨bm,ob,b1,b2,b3,b4,b5⟩:=hbm;⟨bm,ob,b1,b2,aa b3 (ah b3 (by rw[b4];decide) (by rw[b4];decide) (by rw[b4];decide)),b4,b5⟩,
   fun q hq=>let ⟨o,vs,file,tf,flags,tg,inF,text,tt,e1,c1,r⟩:=TT.hd q hq;⟨o,vs,file,tf,flags,tg,inF,text,tt,aa e1 (ah e1 (by rw[c1];decide) (by rw[c1];decide) (by rw[c1];decide)),c1,r⟩⟩
  have e0:Env0 P w K mg (iN s₁.heap H) callerA [] s₁ H:=⟨rfl,hM,fun b o e=>JU e,Nat.le_of_eq (KS _ _),trivial,⟨fun b hb=>absurd (show b∈([]:List Addr)from hb) yv,am,an⟩,hok,.of_eq hg⟩;refine ou ((F _ ag (ae hns)).run callerA [] s₁ H ⟨[.ref a],[]⟩ [.ref a] [.ref a] _ _ hr e0 (hbind s₁ (.ref a)) (.cons rfl .nil) (hsp H hO hS)) fun r s' h=>?_;cases r with
  |error e=>exact(hCX H e s' h).elim
  |ok fl=>
   cases fl with
   |next=>exact ib h
   |brk=>exact ib h
   |cont=>exact ib h
   |ret u=>
    obtain⟨v,H',os,bare,un,ac,r',q⟩:=h;have q':v=.bl true:=q;subst q';obtain rfl:u=lc true:=r';have all:∀b o,s₁.heap.get? b=some o->s'.heap.get? b=some o\/∃q∈tabsG,q.1.2=b/\o=W.tabObj #[]/\∃ps,s'.heap.get? b=some (W.tabObj ps):=fun b o e=>by
     cases q:H b with
     |none=>exact .inl (un.keep b o e q (by intro z;exact absurd (show b∈([]:List Addr)from z) yv) yv)
     |some u=>
      rcases hO b with z|⟨ob,xs,z⟩|⟨r,hr',e',z⟩|⟨r,hr',e',z⟩
      ·rw[q]at z;cases z
      ·have z2:=un.frzs b ob _ z;obtain⟨e1,_⟩:=hok b _ z;obtain⟨e2,_⟩:=ac b _ z2;rw[e]at e1;cases e1;exact .inl e2
      ·obtain⟨qs,e2,_⟩:=ac b _ (un.tbls b _ z);have:=TT.empty r hr';rw[e',e]at this;cases this;exact .inr ⟨r,hr',e',rfl,qs,e2⟩
      ·obtain⟨⟨_,o2,e2,_,k2⟩,_⟩:=(show ObjOk P w H' s'.heap b (.tup [.str r.2])from ac b _ (un.tups b _ z));have:=KX _ _ (TT.kk r hr').1;rw[e',e]at this;cases this;rw[k2 r hr' e']at e2;exact .inl e2
    refine⟨rfl,⟨fun b o e=>?_,fun b o e=>?_⟩,os,bare⟩
    ·rcases all b o e with z|⟨r,hr',rfl,rfl,ps,z⟩
     ·exact .inl z
     ·exact .inr (.inl ⟨((TT.hd r hr').tab (TT.empty r hr')).isCodeTable,rfl,#[],ps,rfl,by rw[Array.empty_append];exact z⟩)
    ·rcases all b o e with z|⟨r,hr',rfl,rfl,ps,z⟩
     ·exact⟨o,z⟩
     ·exact⟨_,z⟩
 have al:∀q∈tabsG,q.1.2≠a:=fun q hq z=>by
  have:=TT.empty q hq;rw[z,ha]at this;cases this
 have aj:∀q∈keepG,q.1.1≠a:=fun q hq z=>by
  have:=KX _ _ (TT.kk q hq).1;rw[z,ha]at this;have c:=(TT.kk q hq).2.1;rw[<- fg this]at c;exact absurd (show og "list" = og "tuple" from c) dz
 have ai:∀(H:Hp) (b:Addr) (u:HO),d8 b=some u->ObjOk P w H s₁.heap b u:=fun H b u z=>by
  rcases oA z with ⟨q,hq,rfl,rfl⟩|⟨q,hq,rfl,rfl⟩
  ·exact⟨#[],TT.empty q hq,.inl rfl⟩
  ·obtain⟨k1,k2,k3,t,n,k4⟩:=TT.kk q hq;exact⟨⟨by show 1<=bw;decide,_,KX _ _ k1,k3,fun r hr e=>by rw[Gm TT.knd hq hr e]⟩,[.str q.2 t],.cons ⟨t,rfl⟩ .nil,_,KX _ _ k1,k2,n,k4⟩
 cases hk:K.lookup a with
 |some o=>
  have e:=KX a o hk;rw[ha]at e;cases e;refine af d8 (fun b=>?_) (.inr ⟨_,vs.toArray,_,hk,rfl,rfl,rfl,by rw[fy,ak];exact hl,by simpa using rv⟩) (ai d8) (fun b z=>?_) (fun z=>?_) (fun q hq=>FY TT hq) fun q hq=>CJ TT hq
  ·cases q:d8 b with
   |none=>exact .inl rfl
   |some u=>
    rcases oA q with ⟨r,hr',e',rfl⟩|⟨r,hr',e',rfl⟩
    ·exact .inr (.inr (.inl ⟨r,hr',e',rfl⟩))
    ·exact .inr (.inr (.inr ⟨r,hr',e',rfl⟩))
  ·cases q:d8 b with
   |none=>exact absurd q z
   |some u=>
    rcases oA q with ⟨r,hr',e',rfl⟩|⟨r,hr',e',rfl⟩
    ·exact .inr (.inl ⟨r,hr',e'⟩)
    ·exact .inr (.inr ⟨r,hr',e'⟩)
  ·cases q:d8 a with
   |none=>exact absurd q z
   |some u=>
    rcases oA q with ⟨r,hr',e',rfl⟩|⟨r,hr',e',rfl⟩
    ·exact absurd e' (al r hr')
    ·exact absurd e' (aj r hr')
 |none=>
  refine af (fun b=>if b=a then some (.frz { cls:=.type "list",data:=.seq vs.toArray } (.lst (ns.map V.int)))else d8 b) (fun b=>?_) (.inl (.inr ⟨{ cls:=.type "list",data:=.seq vs.toArray },cm rfl⟩)) (fun b u z=>?_) (fun b z=>?_) (fun _=>hk) (fun q hq=>(cb (al q hq)).trans (FY TT hq)) fun q hq=>(cb (aj q hq)).trans (CJ TT hq)
  ·by_cases hb:b=a
   ·exact .inr (.inl ⟨_,_,cm hb⟩)
   ·cases q:d8 b with
    |none=>exact .inl ((cb hb).trans q)
    |some u=>
     rcases oA q with ⟨r,hr',e',rfl⟩|⟨r,hr',e',rfl⟩
     ·exact .inr (.inr (.inl ⟨r,hr',e',(cb hb).trans q⟩))
     ·exact .inr (.inr (.inr ⟨r,hr',e',(cb hb).trans q⟩))
  ·by_cases hb:b=a
   ·have z':=(cm hb).symm.trans z;cases z';subst hb;exact⟨ha,by rw[cg];exact hl,vs,_,rv,ha⟩
   ·have z':=(cb hb).symm.trans z;exact ai _ b u z'
  ·by_cases hb:b=a
   ·exact .inl hb
   ·cases q:d8 b with
    |none=>exact absurd ((cb hb).trans q) z
    |some u=>
     rcases oA q with ⟨r,hr',e',rfl⟩|⟨r,hr',e',rfl⟩
     ·exact .inr (.inl ⟨r,hr',e'⟩)
     ·exact .inr (.inr ⟨r,hr',e'⟩)
end
section
abbrev KOf {K:bt}{h:Heap} (_:K.In h):bt:=K
theorem walk_of{l:W.OpenLaw}{n k:Nat}{q:df}{ac:List Str}{XP:(Str->Option bb)->Heap->Prop}{YP:gg->Heap->Prop}{d:DefRec}{K:Params->bt}{CX:gg->CXT}{sp:gg->Sp}{x:Str}
  (hn:l.most=some n) (hn2:n<=bw) (hdf:d.params.defaults=[]) (hr:Room k callerA)
  (hY:∀(w:gg) (h:Heap),YP w h->(K w.params).In h)
  (hT:∀(w:gg) (h:Heap),YP w h->TabsOk (K w.params) h)
  (F:∀(w:gg) (mg:Str->Option bb) (fa:Addr) (h:Heap),(K w.params).In h->h.Ns nu mg->mg d.name=some (.ref fa) ->
   ∃fd:ki,(∀(s:bf) (u:bb),BindsTo s fd ⟨[u],[]⟩ [(x,u)]) /\
    ∀base:Heap,KInW (K w.params) base->base.Ns nu mg->FnOk l.prog w (K w.params) mg base (CX w) k fa fd [x] (sp w))
  (hsp:∀(w:gg) (H:Hp) (a:Addr) (ns:List Int),ns.length<=n->Only H->SqL (K w.params) H a (ns.map V.int)->sp w [.ref a] H (fun v _=>v=.bl true) fun _ _ _=>False)
  (hCX:∀(w:gg) (H:Hp) (s:bf) (e:bb) (s':bf),CX w [] H s (fun _ _ _=>False) e s'->False):
  W.WalkO q ac XP YP l.row.toRowW d [] (fun f vs=>PySem.call f vs):=by
 refine Att.attach_call hn hdf fun w s₀ s₁ mg mb fa o pm cd ah a vs ns G Y ho hd ai ag af ae aa hg=>?_;have KX:=hY w _ Y;obtain⟨fd,hb,hF⟩:=F w mg fa _ KX G.T.g ag;exact NK KX (hT w _ Y) (let ⟨bm,ob,a1,a2,a3,a4,a5,a6⟩:=G.T.bmain;⟨bm,ob,a1,a2,a3,a4,a5,a6⟩) G.T.g G.T.b G.T.builtins G.T.nolimit hg af ae (ie aa hn2) hr hF hb (fun H hO hS=>hsp w H a ns aa hO hS) fun H e s'=>hCX w H s₁ e s'
end
section
def AX(s:Stmt)(j:Nat):Stmt:=match s with
 | .ClassDef _ _ _ body _ _ _ _ _ _ _=>body.getD j (.Pass ⟨0,0,0,0⟩)
 |_=>.Pass ⟨0,0,0,0⟩
def iW(s:Stmt):Arguments:=match s with
 | .FunctionDef _ a _ _ _ _ _ _ _ _=>a
 |_=>{ posonlyargs:=[],args:=[],vararg:=none,kwonlyargs:=[],kw_defaults:=[],kwarg:=none,defaults:=[] }
def dJ(s:Stmt):List Stmt:=match s with
 | .FunctionDef _ _ b _ _ _ _ _ _ _=>b
 |_=>[]
def zj(s:Stmt):Scope:=match s with
 | .FunctionDef _ _ _ _ _ _ sc _ _ _=>sc
 |_=>{ kind:=.function,names:=[],isGenerator:=false,isCoroutine:=false }
abbrev CX0:CXT:=fun _ _ _ _ _ _=>False
abbrev E0:XK:=fun _ _ _=>False
theorem pass0{X:Cx}:Passes CX0 X E0:=fun _ _ _ _ _ _ _ h=>h.elim
structure Fun(K:bt)(x qual:Str)(st:Stmt)(f:Addr)(fd:ki):Prop where
 ex:∃(oc:bb) (od:Option Addr) (kV doc pm:bb) (an:Option Addr) (cdv ct:bb) (osl:Array (Option bb)),
  fd=W.fnOf x qual (iW st) (dJ st) (zj st) .none kV doc pm an cdv ct/\K.lookup f=some ⟨oc,od,.func fd,osl⟩/\W.codeIn K cdv qual=true
 kp:pp K (.ref f)=true
section
variable {P:df}{w:gg}{K:bt}{mg:Str->Option bb}{base:Heap}
theorem Fun.ok{x qual:Str}{st:Stmt}{f:Addr}{fd:ki}{N ps:List Str}{k:Nat}{sp:Sp}(F:Fun K x qual st f fd)(S:FnScope N ps (zj st))(len:∀vs H Q E,sp vs H Q E->vs.length=ps.length)
  (hbody:∀(aa:bb) (A:fm) (outer:List Env) (s:bf) (H:Hp) (vs:List V) (Q:VK) (E:XK),Room k (A.deeper (ip qual (zj st) s.heap.objs.size f aa))->sp vs H Q E ->
   ∃t,PSs (bH CX0 P w K mg base N qual (zj st) f aa A outer s H E).nox (dJ st) t/\t { nx:=fun _ H'=>Q .non H',rt:=Q } (start N vs) H):FnOk P w K mg base CX0 (k+1) f fd ps sp:=by
 obtain⟨oc,od,kV,af,pm,an,aa,ct,ag,rfl,lk,ac⟩:=F.ex;refine C9 lk ac S len fun A outer s H vs Q E hr ae=>?_;obtain⟨t,h,q⟩:=hbody aa A outer s H vs Q E hr ae;exact⟨t,h.nox,q⟩
theorem Fun.binds{x qual:Str}{st:Stmt}{f:Addr}{fd:ki}{ps:List Str}(F:Fun K x qual st f fd)
  (h:∀(kV ac pm:bb) (an:Option Addr) (aa ct:bb) (us:List bb),us.length=ps.length->bindArgs (W.fnOf x qual (iW st) (dJ st) (zj st) .none kV ac pm an aa ct) ⟨us,[]⟩=pure (ps.zip us)):Binds K fd ps []:=by
 obtain⟨oc,od,kV,ac,pm,an,aa,ct,af,rfl,lk,ae⟩:=F.ex;exact .all (h kV ac pm an aa ct)
theorem wR{x qual:Str}{st:Stmt}{f:Addr}{oc:bb}{od an:Option Addr}{ae:Array (Option bb)}{kV ac pm aa ct:bb}(l:K.lookup f=some ⟨oc,od,.func (W.fnOf x qual (iW st) (dJ st) (zj st) .none kV ac pm an aa ct),ae⟩)
  (c:W.codeIn K aa qual=true) (k:pp K (.ref f)=true):Fun K x qual st f (W.fnOf x qual (iW st) (dJ st) (zj st) .none kV ac pm an aa ct):=⟨⟨oc,od,kV,ac,pm,an,aa,ct,ae,rfl,l,c⟩,k⟩
end
theorem OL{A:fm}{k:Nat}(hr:Room k A):A.units+1<so:=qw (Nat.add_le_add_left (by decide:1<=64) _) hr.units
theorem small1000{n:Nat}(h:n<=1000):n<bw:=qw h dz
section
variable {X:Cx}
theorem pv(i:Nat){x:Str}{pos:Pos}(hN:X.N[i]?=some x:=by rfl)(hv:Vis X.env.scope x:=by first|exact ii rfl|exact Or.inr (ii rfl)|exact Or.inr (Or.inr rfl))(hd:(x==("__debug__":Str))=false:=by decide)
  (hcd:(x==("__classdict__":Str))=false:=by decide):PE X (.Name x pos) (f6 i):=Ia hN hv hd hcd
end
theorem gL{A B:Prop}(h:B):if false=true then A else B:=by
 rw[cb jo];exact h
theorem gG{A B:Prop}(h:A):if true=true then A else B:=by
 rw[cm rfl];exact h
theorem ite2{c A B:Prop}[Decidable c](h1:c->A)(h2:¬ c->B):if c then A else B:=by
 by_cases h:c
 ·rw[cm h];exact h1 h
 ·rw[cb h];exact h2 h
def Same(H H':Hp):Prop:=∀b o,H b=some o->H' b=some o
theorem Same.refl(H:Hp):Same H H:=fun _ _ h=>h
theorem Same.trans{H H1 H2:Hp}(a:Same H H1)(b:Same H1 H2):Same H H2:=fun c o h=>b c o (a c o h)
theorem Same.seq{K:bt}{H H':Hp}{a:Addr}{xs:List V}(e:Same H H')(h:SqL K H a xs):SqL K H' a xs:=by
 rcases h with (h|⟨o,h⟩)|h
 ·exact .inl (.inl (e _ _ h))
 ·exact .inl (.inr ⟨o,e _ _ h⟩)
 ·exact .inr h
end
section
section
variable {X:Cx}
def CDivX(i j:Int):Prop:=0<j/\j.natAbs.log2<9000
theorem J8:OpR X (lq .FloorDiv) (rI CDivX fun i j=>.int (i/j)):=opI fun i j _ _ _ _ _ hc q=>by
 have h1:(0:Int)<j:=hc.1;exact floordiv_int yw (by rw[Int.fdiv_eq_ediv_of_nonneg i yw];exact q) (.inl (PyProof.noPylong_of_log2 hc.2))
theorem Jz:OpR X (lq .Mult) (rI IntMulOk fun i j=>.int (i*j)):=opI fun _ _ _ _ _ _ _ hc q=>mul_int q hc
theorem Do{k:Int}{n:Nat}(h:k.natAbs<2 ^ n):Builtin.Int.intBits k<=n:=by
 unfold Builtin.Int.intBits;split
 ·exact qc _
 ·rename_i h0;have hk:k.natAbs≠0:=by
   intro z;apply h0;rw[Int.natAbs_eq_zero.mp z];rfl
  have:=(Nat.log2_lt hk).mpr h;omega
theorem MJ{i j:Int}(n m:Nat)(hi:i.natAbs<2 ^ n)(hj:j.natAbs<2 ^ m)(hn:n<=2 ^ 20:=by decide)(hm:m<=2 ^ 20:=by decide):IntMulOk i j:=
 .of_bits (ie (Do hi) hn) (ie (Do hj) hm)
theorem jB{i j:Int}(h1:-(2 ^ 64)<i)(h2:i<2 ^ 64):IntMulOk i j:=.of_left (intBits_le_64 h1 h2)
theorem BB{n:Int}{k:Nat}(h0:0<n)(h:n<2 ^ k):n.natAbs.log2<k:=by
 refine(Nat.log2_lt yw).mpr ?_;have e:((2 ^ k:Nat):Int)=(2:Int) ^ k:=by simp
 omega
end
def kD:Key->bg
 | .inl i=>.int i
 | .inr x=>.str x
def DOf(H:Hp)(a:Addr)(ks:List bg)(vs:List V):Prop:=
 (∃(ob:Obj) (m:List (Key×V)),H a=some (.frz ob (.dK m))/\ks=m.map (fun p=>kD p.1)/\vs=m.map (·.2)) \/
 ∃(ob:Obj) (p:List Key×V) (m:List (List Key×V)),H a=some (.frz ob (.dT (p::m)))/\ks=(p::m).map (fun p=>.tuple (p.1.map kD))/\vs=(p::m).map (·.2)
mutual
def Has(H:Hp):bg->V->Prop
 | .none,v=>v=.non
 | .bool b,v=>v=.bl b
 | .int i,v=>v=.int i
 | .str x,v=>v=.str x
 | .list ds,v=>∃a vs,v=.ref a/\H a=some (.lst vs)/\HasL H ds vs
 | .tuple ds,v=>∃a vs,v=.ref a/\H a=some (.tup vs)/\HasL H ds vs
 | .dict kvs,v=>∃a vs,v=.ref a/\DOf H a (kvs.map (·.1)) vs/\HasV H kvs vs
def HasL(H:Hp):List bg->List V->Prop
 | [],vs=>vs=[]
 |d::ds,vs=>∃v r,vs=v::r/\Has H d v/\HasL H ds r
def HasV(H:Hp):List (bg×bg)->List V->Prop
 | [],vs=>vs=[]
 |p::ps,vs=>∃v r,vs=v::r/\HasP H p v/\HasV H ps r
def HasP(H:Hp):bg×bg->V->Prop
 | (_,d),v=>Has H d v
end
mutual
theorem Has.mono{H H':Hp}(s:Same H H'):∀(d:bg) (v:V),Has H d v->Has H' d v
 | .none,_,h=>by simp only[Has]at h ⊢;exact h
 | .bool _,_,h=>by simp only[Has]at h ⊢;exact h
 | .int _,_,h=>by simp only[Has]at h ⊢;exact h
 | .str _,_,h=>by simp only[Has]at h ⊢;exact h
 | .list ds,v,h=>by
  simp only[Has]at h ⊢;obtain⟨a,vs,e,q,l⟩:=h;exact⟨a,vs,e,s _ _ q,HasL.mono s ds vs l⟩
 | .tuple ds,v,h=>by
  simp only[Has]at h ⊢;obtain⟨a,vs,e,q,l⟩:=h;exact⟨a,vs,e,s _ _ q,HasL.mono s ds vs l⟩
 | .dict kvs,v,h=>by
  simp only[Has]at h ⊢;obtain⟨a,vs,e,q,l⟩:=h;refine⟨a,vs,e,?_,HasV.mono s kvs vs l⟩;rcases q with ⟨ob,m,e1,e2⟩|⟨ob,p,m,e1,e2⟩
  ·exact .inl ⟨ob,m,s _ _ e1,e2⟩
  ·exact .inr ⟨ob,p,m,s _ _ e1,e2⟩
theorem HasL.mono{H H':Hp}(s:Same H H'):∀(ds:List bg) (vs:List V),HasL H ds vs->HasL H' ds vs
 | [],_,h=>by simp only[HasL]at h ⊢;exact h
 |d::ds,vs,h=>by
  simp only[HasL]at h ⊢;obtain⟨v,r,e,q,l⟩:=h;exact⟨v,r,e,Has.mono s d v q,HasL.mono s ds r l⟩
theorem HasV.mono{H H':Hp}(s:Same H H'):∀(ds:List (bg×bg)) (vs:List V),HasV H ds vs->HasV H' ds vs
 | [],_,h=>by simp only[HasV]at h ⊢;exact h
 |d::ds,vs,h=>by
  simp only[HasV]at h ⊢;obtain⟨v,r,e,q,l⟩:=h;exact⟨v,r,e,HasP.mono s d v q,HasV.mono s ds r l⟩
theorem HasP.mono{H H':Hp}(s:Same H H'):∀(p:bg×bg) (v:V),HasP H p v->HasP H' p v
 | (_,d),v,h=>by
  simp only[HasP]at h ⊢;exact Has.mono s d v h
end
section
variable {H:Hp}{v:V}
theorem nE:Has H .none v↔v=.non:=by simp only[Has]
theorem jM{b:Bool}:Has H (.bool b) v↔v=.bl b:=by simp only[Has]
theorem f7{i:Int}:Has H (.int i) v↔v=.int i:=by simp only[Has]
theorem gD{x:Str}:Has H (.str x) v↔v=.str x:=by simp only[Has]
theorem dS{ds:List bg}:Has H (.list ds) v↔∃a vs,v=.ref a/\H a=some (.lst vs)/\HasL H ds vs:=by simp only[Has]
theorem dG{ds:List bg}:Has H (.tuple ds) v↔∃a vs,v=.ref a/\H a=some (.tup vs)/\HasL H ds vs:=by simp only[Has]
theorem BA{aa:List (bg×bg)}:Has H (.dict aa) v↔∃a vs,v=.ref a/\DOf H a (aa.map (·.1)) vs/\HasV H aa vs:=by simp only[Has]
theorem FK{vs:List V}:HasV H [] vs↔vs=[]:=by simp only[HasV]
theorem Ge{p:bg×bg}{ds:List (bg×bg)}{vs:List V}:HasV H (p::ds) vs↔∃v r,vs=v::r/\Has H p.2 v/\HasV H ds r:=by
 obtain⟨k,d⟩:=p;simp only[HasV,HasP]
theorem zE{vs:List V}:HasL H [] vs↔vs=[]:=by simp only[HasL]
theorem zu{d:bg}{ds:List bg}{vs:List V}:HasL H (d::ds) vs↔∃v r,vs=v::r/\Has H d v/\HasL H ds r:=by simp only[HasL]
theorem HasL.length:∀{ds:List bg}{vs:List V},HasL H ds vs->vs.length=ds.length
 | [],_,h=>by rw[zE.mp h];rfl
 |d::ds,vs,h=>by
  obtain⟨v,r,e,_,l⟩:=zu.mp h;rw[e,cz,cz,HasL.length l]
theorem HasL.get:∀{ds:List bg}{vs:List V}{i:Nat}{d:bg},HasL H ds vs->ds[i]?=some d->∃v,vs[i]?=some v/\Has H d v
 | [],_,_,_,_,e=>by simp at e
 |c::ds,vs,0,d,h,e=>by
  obtain⟨v,r,rfl,q,_⟩:=zu.mp h;simp at e;subst e;exact⟨v,rfl,q⟩
 |c::ds,vs,i+1,d,h,e=>by
  obtain⟨v,r,rfl,_,l⟩:=zu.mp h;obtain⟨u,e1,e2⟩:=HasL.get (i:=i) (d:=d) l (by simpa using e);exact⟨u,by simpa using e1,e2⟩
theorem HasL.append:∀{ds es:List bg}{vs us:List V},HasL H ds vs->HasL H es us->HasL H (ds++es) (vs++us)
 | [],es,vs,us,h,h'=>by rw[zE.mp h];exact h'
 |d::ds,es,vs,us,h,h'=>by
  obtain⟨v,r,rfl,q,l⟩:=zu.mp h;exact zu.mpr ⟨v,r++us,rfl,q,HasL.append l h'⟩
end
def tyD:bg->String
 | .none=>"NoneType" | .bool _=>"bool" | .int _=>"int" | .str _=>"str" | .list _=>"list" | .tuple _=>"tuple" | .dict _=>"dict"
theorem Has.ty{K:bt}{H:Hp}{d:bg}{v:V}(h:Has H d v):TyOf K H v (.type (tyD d)):=by
 cases d with
 |none=>rw[nE.mp h];exact .non
 |bool b=>rw[jM.mp h];exact .bl b
 |int i=>rw[f7.mp h];exact .int i
 |str x=>rw[gD.mp h];exact .str x
 |list ds=>obtain⟨a,vs,rfl,e,_⟩:=dS.mp h;exact .lst e
 |tuple ds=>obtain⟨a,vs,rfl,e,_⟩:=dG.mp h;exact .tup e
 |dict kvs=>
  obtain⟨a,vs,rfl,e,_⟩:=BA.mp h;rcases e with ⟨ob,m,e,_⟩|⟨ob,p,m,e,_⟩
  ·exact .dK (.inr ⟨ob,e⟩)
  ·exact .dT (.inr ⟨ob,e⟩)
def wC:List String:=["NoneType","bool","int","str","list","tuple","dict"]
def iV:List String:=["int","bool","str","list","tuple","dict"]
def iE(t c:String):Bool:=t==c||(t == "bool" && c == "int")
def mV(d:bg)(c:String):Bool:=iE (tyD d) c
theorem OB(d:bg):tyD d∈wC:=by cases d<;>simp[tyD,wC]
theorem MF(K:bt){t c:String}(ht:t∈wC)(hc:c∈iV):W.kitOne K (.type t) (.type c)=some (iE t c):=by
 simp only[wC,iV,jt,ia,or_false]at ht hc;rcases ht with rfl|rfl|rfl|rfl|rfl|rfl|rfl<;>rcases hc with rfl|rfl|rfl|rfl|rfl|rfl<;>rfl
def yR:List V->Hp->VK->Prop
 | [x,.ty c],H,Q=>∃d,Has H d x/\c∈iV/\Q (.bl (mV d c)) H
 |_,_,_=>False
theorem HN{H:Hp}{d:bg}{x:V}{c:String}{Q:VK}(h:Has H d x)(hc:c∈iV)(q:Q (.bl (mV d c)) H):yR [x,.ty c] H Q:=⟨d,h,hc,q⟩
section
variable {X:Cx}
theorem gN:CallR X (.builtin "isinstance") yR:=by
 intro zg s σ H xs us Q I r h
 match xs,h with
 | [x,.ty c],h=>
  obtain⟨d,hx,hc,q⟩:=h;obtain⟨u,w',rfl,ru,aa⟩:=vals2 r;cases (show w'=og c from aa);exact N5 I ru hx.ty (MF X.K (OB d) hc) fun tk=>⟨.bl _,H,I.tok tk,rfl,q⟩
end
def sp1(p:V->Hp->VK->Prop):Sp:=fun vs H Q _=>match vs with | [x]=>p x H Q|_=>False
def sp2(p:V->V->Hp->VK->Prop):Sp:=fun vs H Q _=>match vs with | [x,y]=>p x y H Q|_=>False
theorem Br{p:V->Hp->VK->Prop}:∀(vs:List V) (H:Hp) (Q:VK) (E:XK),sp1 p vs H Q E->∃x,vs=[x]/\p x H Q:=by
 intro vs H Q E h
 match vs,h with
 | [x],h=>exact⟨x,rfl,h⟩
theorem EA{p:V->V->Hp->VK->Prop}:∀(vs:List V) (H:Hp) (Q:VK) (E:XK),sp2 p vs H Q E->∃x y,vs=[x,y]/\p x y H Q:=by
 intro vs H Q E h
 match vs,h with
 | [x,y],h=>exact⟨x,y,rfl,h⟩
structure Dd(K:bt)(mg:Str->Option bb)(x:Str)(st:Stmt)(ps:List Str):Prop where
 ex:∃f fd,Fun K x x st f fd/\mg x=some (.ref f)/\Binds K fd ps []
structure Df(P:df)(w:gg)(K:bt)(mg:Str->Option bb)(base:Heap)(x:Str)(ps:List Str)(k:Nat)(sp:Sp):Prop where
 ex:∃f fd,FnOk P w K mg base CX0 k f fd ps sp/\mg x=some (.ref f)/\pp K (.ref f)=true/\Binds K fd ps []
section
variable {P:df}{w:gg}{K:bt}{mg:Str->Option bb}{base:Heap}{x a b c d e:Str}{st:Stmt}{N:List Str}{k:Nat}
theorem Df.of{ps:List Str}{sp:Sp}(D:Dd K mg x st ps)(S:FnScope N ps (zj st))(len:∀vs H Q E,sp vs H Q E->vs.length=ps.length)
  (hbody:∀(f:Addr) (cdv:bb) (A:fm) (outer:List Env) (s:bf) (H:Hp) (vs:List V) (Q:VK) (E:XK),Room k (A.deeper (ip x (zj st) s.heap.objs.size f cdv))->sp vs H Q E ->
   ∃t,PSs (bH CX0 P w K mg base N x (zj st) f cdv A outer s H E).nox (dJ st) t/\t { nx:=fun _ H'=>Q .non H',rt:=Q } (start N vs) H):Df P w K mg base x ps (k+1) sp:=by
 obtain⟨f,fd,F,hm,hb⟩:=D.ex;exact⟨f,fd,F.ok S len (hbody f),hm,F.kp,hb⟩
theorem Df.of2{p:V->V->Hp->VK->Prop}(D:Dd K mg x st [a,b])(S:FnScope N [a,b] (zj st))(σ0:V->V->St)(hs:∀v u,start N [v,u]=σ0 v u)
  (hbody:∀(f:Addr) (aa:bb) (A:fm) (outer:List Env) (s:bf) (H:Hp) (v u:V) (Q:VK) (E:XK),Room k (A.deeper (ip x (zj st) s.heap.objs.size f aa))->p v u H Q ->
   ∃t,PSs (bH CX0 P w K mg base N x (zj st) f aa A outer s H E).nox (dJ st) t/\t { nx:=fun _ H'=>Q .non H',rt:=Q } (σ0 v u) H):Df P w K mg base x [a,b] (k+1) (sp2 p):=by
 refine Df.of D S (fun vs H Q E h=>?_) fun f aa A outer s H vs Q E hr h=>?_
 ·obtain⟨x,y,rfl,_⟩:=EA vs H Q E h;rfl
 ·obtain⟨x,y,rfl,h⟩:=EA vs H Q E h;rw[hs];exact hbody f aa A outer s H x y Q E hr h
end
def tC2(p:V->V->Hp->VK->Prop)(ta tb:TE):TE:=fun σ H Q=>ta σ H fun x H1=>tb σ H1 fun y H2=>p x y H2 Q
section
variable {X:Cx}{x a b c d e':Str}{k j:Nat}{pos pos':Pos}{e1 e2 e3 e4 e5:Expr}{t1 t2 t3 t4 t5:TE}
theorem NP{p:V->V->Hp->VK->Prop}(D:Df X.prog X.w X.K X.mg X.base x [a,b] k (sp2 p))(hr:Room j X.A)(hk:k<=j)(h1:PE X e1 t1)(h2:PE X e2 t2)(hg:Gl X x:=by rfl)(aa:(x==("__debug__":Str))=false:=by decide)
  (q1:cu [e1,e2] X.env=(false,eval e1 X.env)::cu [e2] X.env:=by rfl) (q2:cu [e2] X.env=(false,eval e2 X.env)::cu [] X.env:=by rfl)
  (hpl:(kl pos (cu [e2] X.env)).any (·.1)=false:=by rfl):PE X (.Call (.Name x pos') [e1,e2] [] pos) (tC2 p t1 t2):=by
 obtain⟨f,fd,F,hm,kp,hb⟩:=D.ex;intro zg s σ H Q I h;exact A4 (dvs:=[]) (ds:=[]) (E:=E0) F (hr.mono hk) hg hm kp hb .nil pass0 (za h1 (za h2 zd q2) q1) aa q1 hpl zg s σ H Q I h
end
theorem Dd.mk'{K:bt}{h:Heap}{mg:Str->Option bb}(X:K.In h)(G:h.Ns nu mg){x:Str}{st:Stmt}{ps:List Str}{f:Addr}{oc:bb}{od an:Option Addr}{ae:Array (Option bb)}{kV ac pm aa ct:bb}
  (a:W.nsIn K nu x=some (some (.ref f))) (l:K.lookup f=some ⟨oc,od,.func (W.fnOf x x (iW st) (dJ st) (zj st) .none kV ac pm an aa ct),ae⟩)
  (c:W.codeIn K aa x=true) (k:pp K (.ref f)=true)
  (hb:∀(kV ac pm:bb) (an:Option Addr) (aa ct:bb) (us:List bb),us.length=ps.length->bindArgs (W.fnOf x x (iW st) (dJ st) (zj st) .none kV ac pm an aa ct) ⟨us,[]⟩=pure (ps.zip us)):Dd K mg x st ps:=
 ⟨f,_,wR (st:=st) l c k,nk X G a,(wR (st:=st) l c k).binds hb⟩
theorem aS:ik "len" = some (.builtin "len"):=by decide +kernel
theorem zB:ik "isinstance" = some (.builtin "isinstance"):=by decide +kernel
theorem Dp:ik "max" = some (.builtin "max"):=by decide +kernel
theorem JL:ik "min" = some (.builtin "min"):=by decide +kernel
theorem CD:ik "abs" = some (.builtin "abs"):=by decide +kernel
theorem vK:ik "int" = some (.type "int"):=by decide +kernel
theorem Gv:ik "bool" = some (.type "bool"):=by decide +kernel
theorem gR:ik "str" = some (.type "str"):=by decide +kernel
theorem HJ:ik "list" = some (.type "list"):=by decide +kernel
theorem jR:ik "tuple" = some (.type "tuple"):=by decide +kernel
section
variable {H:Hp}{Q:VK}
theorem Lf{i:Nat}{σ:St}:f6 i σ H Q↔match σ[i]? with|some (some v)=>Q v H|_=>False:=by
 unfold f6;constructor
 ·rintro⟨v,e,q⟩;rw[e];exact q
 ·intro h;split at h
  ·rename_i v e;exact⟨v,e,h⟩
  ·exact h.elim
theorem DQ{g:Int->Int->V}{i j:Int}:rI0 g (.int i) (.int j) H Q↔Q (g i j) H:=
 ⟨fun⟨_,_,e1,e2,q⟩=>by cases e1;cases e2;exact q,fun q=>⟨i,j,rfl,rfl,q⟩⟩
theorem NF{p:Bool->Prop}{b:Bool}:(∃c,V.bl b=V.bl c/\p c)↔p b:=⟨fun⟨_,e,q⟩=>by cases e;exact q,fun q=>⟨b,rfl,q⟩⟩
end
section
variable {K:bt}{H:Hp}{Q:VK}{x y:V}{d:bg}{ds:List bg}
def xT(K:bt):List V->Hp->VK->Prop:=fun xs H Q=>∃p ys,xs=[.ref p]/\(SqL K H p ys\/SqT K H p ys)/\Q (.int ys.length) H
end
section
variable {X:Cx}
theorem K8:CallR X (.builtin "len") (xT X.K):=Dh
end
def hid(a:Addr)(H:Hp):Hp:=fun b=>if b=a then none else H b
theorem N8{a b:Addr}{H:Hp}(h:b≠a):hid a H b=H b:=cb h
theorem LC{a:Addr}{H:Hp}:hid a H a=none:=cm rfl
theorem Same.laid{H:Hp}{p:Addr}{o:HO}(h:H p=none):Same H (upd H p o):=fun b u e=>by
 rw[zL (zO e h)];exact e
section
variable {X:Cx}{zg:List (Addr×Obj)}{σ:St}{H:Hp}{s:bf}{a:Addr}{m:List (Key×V)}
theorem Inv.fz(I:Inv X zg σ H s)(e:H a=some (.dK m)):∃ob,Inv X zg σ (upd H a (.frz ob (.dK m))) s:=by
 have q:=(show ObjOk X.prog X.w H s.heap a (.dK m)from I.hok a _ e);obtain⟨_,_,vs,_,ob,es,ep,h1,_⟩:=id q;exact⟨ob,I.write (x:=a) (e:=a) (o:=.frz ob (.dK m)) (h':=s.heap) (t':=s.toks) (by rw[e];exact ni) (.inl rfl) (fun b v _ z=>z) ⟨ob,h1⟩ ⟨h1,q⟩⟩
def HA(t:TE):TE:=fun σ H Q=>t σ H fun v H1=>∃a m,v=.ref a/\H1 a=some (.dK m)/\∀ob,Q v (upd H1 a (.frz ob (.dK m)))
theorem IK{e:Expr}{t:TE}(h:PE X e t):PE X e (HA t):=fun zg s σ H Q I hw=>
 thn (h zg s σ H _ I hw) fun u s1 ⟨v,H1,I1,r1,a,m,ev,ea,q⟩=>by
  obtain⟨ob,J⟩:=I1.fz ea;exact⟨v,_,J,r1,q ob⟩
def KD(i:Nat)(t:TS):TS:=fun D σ H=>t { D with nx:=fun σ' H'=>∃a m,σ'[i]?=some (some (.ref a))/\H' a=some (.dK m)/\∀ob,D.nx σ' (upd H' a (.frz ob (.dK m))) } σ H
end
end
section
theorem uP(d:bg):mV d "int" = match d with | .int _=>true | .bool _=>true|_=>false:=by cases d<;>first|rfl|(show iE _ _=_;simp[iE,tyD])
theorem sI(d:bg):mV d "bool" = match d with | .bool _=>true|_=>false:=by cases d<;>first|rfl|(show iE _ _=_;simp[iE,tyD])
theorem sA(d:bg):mV d "tuple" = match d with | .tuple _=>true|_=>false:=by cases d<;>first|rfl|(show iE _ _=_;simp[iE,tyD])
theorem pR(d:bg):mV d "str" = match d with | .str _=>true|_=>false:=by cases d<;>first|rfl|(show iE _ _=_;simp[iE,tyD])
def vw:List Addr->Hp->Hp
 | [],H=>H
 |a::r,H=>hid a (vw r H)
def yZ(K:bt):V->V->Hp->VK->Prop:=fun x y H Q=>∃(a:Addr) (ns:List Int) (i:Int),x=.ref a/\y=.int i/\SqL K H a (ns.map V.int)/\0<=i/\∀n,Q (.int n) H
theorem MP{ns:List Int}{i:Int}(h0:0<=i)(h1:i<((ns.map V.int).length:Int)):∃n,atI (ns.map V.int) i=some (.int n):=by
 obtain⟨k,rfl⟩:=gw h0;have hk:k<ns.length:=by rw[cg]at h1;omega
 exact⟨ns[k],c6 (by rw[gx,dn hk];rfl)⟩
theorem MT{ns:List Int}{lo hi:Option Int}{x:V}(h:x∈fK (ns.map V.int) lo hi):∃n,x=.int n:=by
 have h1:=List.mem_of_mem_drop (qi h);obtain⟨n,_,e⟩:=mem_map.mp h1;exact⟨n,e.symm⟩
theorem Fun.bind1{K:bt}{x a:Str}{st:Stmt}{f:Addr}{fd:ki}(F:Fun K x x st f fd)
  (h:∀(kV ac pm:bb) (an:Option Addr) (aa ct:bb) (u:bb),bindArgs (W.fnOf x x (iW st) (dJ st) (zj st) .none kV ac pm an aa ct) ⟨[u],[]⟩=pure [(a,u)]):∀(s:bf) (u:bb),BindsTo s fd ⟨[u],[]⟩ [(a,u)]:=by
 obtain⟨oc,od,kV,ac,pm,an,aa,ct,af,rfl,lk,ae⟩:=F.ex;exact fun s u=>.of_eq (h kV ac pm an aa ct u)
def A0(K:bt):V->Hp->VK->Prop:=fun x H Q=>∃(a:Addr) (ns:List Int),x=.ref a/\SqL K H a (ns.map V.int)/\ns.length<=63/\∀H',Q (.bl true) H'
theorem walk_law{l:W.OpenLaw}{k:Nat}{q:df}{aa:List Str}{XP:(Str->Option bb)->Heap->Prop}{YP:gg->Heap->Prop}{d:DefRec}{K:Params->bt}(hn:l.most=some 63)(ac:d.params.defaults=[])
  (hr:Room k callerA) (hY:∀(w:gg) (h:Heap),YP w h->(K w.params).In h) (hT:∀(w:gg) (h:Heap),YP w h->TabsOk (K w.params) h)
  (F:∀(w:gg) (mg:Str->Option bb) (fa:Addr) (h:Heap),(K w.params).In h->h.Ns nu mg->mg d.name=some (.ref fa) ->
   ∃fd:ki,(∀(s:bf) (u:bb),BindsTo s fd ⟨[u],[]⟩ [("script",u)])/\∀base:Heap,KInW (K w.params) base->base.Ns nu mg->FnOk l.prog w (K w.params) mg base CX0 k fa fd ["script"] (sp1 (A0 (K w.params)))):
  W.WalkO q aa XP YP l.row.toRowW d [] (fun f vs=>PySem.call f vs):=
 L2.walk_of (n:=63) (k:=k) (x:="script") (CX:=fun _=>CX0) (sp:=fun w=>sp1 (A0 (K w.params))) hn dz ac hr hY hT F (fun _ _ a ns hl _ hS=>⟨a,ns,rfl,hS,hl,fun _=>rfl⟩) fun _ _ _ _ _ z=>z
theorem Fun.ok1{P:df}{w:gg}{K:bt}{mg:Str->Option bb}{base:Heap}{x a:Str}{st:Stmt}{f:Addr}{fd:ki}{N:List Str}{k:Nat}{p:V->Hp->VK->Prop}(F:Fun K x x st f fd)(S:FnScope N [a] (zj st))(σ0:V->St)(hs:∀v,start N [v]=σ0 v)
  (hbody:∀(aa:bb) (A:fm) (outer:List Env) (s:bf) (H:Hp) (v:V) (Q:VK) (E:XK),Room k (A.deeper (ip x (zj st) s.heap.objs.size f aa))->p v H Q ->
   ∃t,PSs (bH CX0 P w K mg base N x (zj st) f aa A outer s H E).nox (dJ st) t/\t { nx:=fun _ H'=>Q .non H',rt:=Q } (σ0 v) H):FnOk P w K mg base CX0 (k+1) f fd [a] (sp1 p):=by
 refine F.ok S (fun vs H Q E h=>?_) fun aa A outer s H vs Q E hr h=>?_
 ·obtain⟨x,rfl,_⟩:=Br vs H Q E h;rfl
 ·obtain⟨x,rfl,h⟩:=Br vs H Q E h;rw[hs];exact hbody aa A outer s H x Q E hr h
end
section
mutual
theorem Has.reads{X:Cx}{zg:List (Addr×Obj)}{σ:St}{H:Hp}{s:bf}(I:Inv X zg σ H s):∀(d:bg) (v:V) (u:bb),Has H d v->d.canLay0=true->RelV v u->∃as,Reads s.heap u d as
 | .none,v,u,h,_,r=>by
  rw[nE.mp h]at r;cases (show u=gf from r);exact⟨_,.none⟩
 | .bool b,v,u,h,_,r=>by
  rw[jM.mp h]at r;cases (show u=lc b from r);exact⟨_,.bool b⟩
 | .int i,v,u,h,_,r=>by
  rw[f7.mp h]at r;obtain⟨t,q⟩:=(show ∃t,u=Value.int i t from r);cases q;exact⟨_,.int i t⟩
 | .str x,v,u,h,_,r=>by
  rw[gD.mp h]at r;obtain⟨t,q⟩:=(show ∃t,u=Value.str x t from r);cases q;exact⟨_,.str x t⟩
 | .list ds,v,u,h,c,r=>by
  obtain⟨a,vs,rfl,e,l⟩:=dS.mp h;cases (show u=bv a from r);obtain⟨_,aa,n,rv,e1⟩:=(show ObjOk X.prog X.w H s.heap a (.lst vs)from I.hok a _ e);obtain⟨as,q⟩:=HasL.reads I ds vs aa l (by simpa only[jy]using c) rv;exact⟨_,.list e1 rfl rfl (by simpa using q)⟩
 | .tuple ds,v,u,h,c,r=>by
  obtain⟨a,vs,rfl,e,l⟩:=dG.mp h;cases (show u=bv a from r);obtain⟨_,aa,rv,o,e1,e2,n,e3⟩:=(show ObjOk X.prog X.w H s.heap a (.tup vs)from I.hok a _ e);obtain⟨as,q⟩:=HasL.reads I ds vs aa l (by simpa only[jy]using c) rv;exact⟨_,.tuple e1 e2 e3 (by simpa using q)⟩
 | .dict _,_,_,_,c,_=>by simp[jy]at c
theorem HasL.reads{X:Cx}{zg:List (Addr×Obj)}{σ:St}{H:Hp}{s:bf}(I:Inv X zg σ H s):∀(ds:List bg) (vs:List V) (us:List bb),HasL H ds vs->nc ds=true->Vals vs us->∃as,ReadsAll s.heap us ds as
 | [],vs,us,h,_,r=>by
  rw[zE.mp h]at r;cases r;exact⟨_,.nil⟩
 |d::ds,vs,us,h,c,r=>by
  obtain⟨v,w',rfl,h1,h2⟩:=zu.mp h;have c':d.canLay0=true/\nc ds=true:=by simpa[nc]using c
  cases r with
  |cons r1 r2=>
   obtain⟨as,q1⟩:=Has.reads I d v _ h1 c'.1 r1;obtain⟨bs,q2⟩:=HasL.reads I ds w' _ h2 c'.2 r2;exact⟨_,.cons q1 q2⟩
end
def Gi:R2:=fun x y H Q=>∃d e,Has H d x/\Has H e y/\dy d=true/\dy e=true/\Q (.bl (jc d e)) H
def Ed:R2:=fun x y H Q=>∃d e,Has H d x/\Has H e y/\dy d=true/\dy e=true/\Q (.bl (!PyData.eqv d e)) H
section
variable {X:Cx}
theorem aU(hu:X.A.units+64<so):OpR X (jd .Eq) Gi:=by
 intro zg s σ H x y v u Q I rx ry h;obtain⟨d,e,hd,he,sd,se,q⟩:=h;obtain⟨as,q1⟩:=Has.reads I d x v hd (gh sd) rx;obtain⟨bs,q2⟩:=Has.reads I e y u he (gh se) ry;exact eq_dataH q1 q2 sd se hu ⟨.bl _,H,I,rfl,q⟩
theorem jE(hu:X.A.units+64<so):OpR X (jd .NotEq) Ed:=by
 intro zg s σ H x y v u Q I rx ry h;obtain⟨d,e,hd,he,sd,se,q⟩:=h;obtain⟨as,q1⟩:=Has.reads I d x v hd (gh sd) rx;obtain⟨bs,q2⟩:=Has.reads I e y u he (gh se) ry;exact ne_dataH q1 q2 sd se hu ⟨.bl _,H,I,rfl,q⟩
end
section
variable {prog:df}{w:gg}{A:fm}{E:bb->bf->Prop}{s:bf}{l:Addr}
theorem Jp{xs:Array (Int×Tok)}{Q:bb->bf->Prop}(hh:A.handled=none)(hl:s.heap.IsTuple l (qj xs))(ac:0<xs.size)
  (h:∀v h' tk,(qj xs)[argBest (fun i j=>decide (numAt xs i<numAt xs j)) (xs.size-1)]?=some v->(∀b o,s.heap.get? b=some o->h'.get? b=some o)->Q v { s with heap:=h',toks:=tk }):
  bq (model prog w) A (call (.builtin "min") [.ref l]) Q E s:=by
 have aa:l<s.heap.objs.size:=by obtain⟨o,e,_⟩:=hl;exact fi e
 refine call_min_walk (ol hl ?_);refine⟨_,[_,l],[_],_,_,_,_,rfl,Walks.tuple (A:=A.in1) hh _ l (jq aa) (qj xs),⟨⟨_,cv _ rfl,rfl,rfl⟩,hl.push _⟩,fun c hc=>?_,by simpa[qj]using ac,CmpOf.ints_lt (numAt xs) (fun _ _=>intItems_at),fun v h' tk hP hk=>?_⟩
 ·show c<(s.heap.push _).objs.size;rw[su];rcases mem_cons.mp hc with rfl|hc
  ·exact lt_succ_self _
  ·rcases mem_cons.mp hc with rfl|hc
   ·exact qo aa
   ·cases hc
 ·refine h v h' tk (by simpa[qj]using hP) fun b o e=>hk b o (fun hm=>?_) (bn _ e);rcases mem_cons.mp hm with e1|hm
  ·exact absurd (e1▸fi e) (jw _)
  ·cases hm
theorem Oa{xs:Array (Int×Tok)}{Q:bb->bf->Prop}(hh:A.handled=none)(hl:s.heap.IsTuple l (qj xs))(ac:0<xs.size)
  (h:∀v h' tk,(qj xs)[argBest (fun i j=>decide (numAt xs i>numAt xs j)) (xs.size-1)]?=some v->(∀b o,s.heap.get? b=some o->h'.get? b=some o)->Q v { s with heap:=h',toks:=tk }):
  bq (model prog w) A (call (.builtin "max") [.ref l]) Q E s:=by
 have aa:l<s.heap.objs.size:=by obtain⟨o,e,_⟩:=hl;exact fi e
 refine call_max_walk (ol hl ?_);refine⟨_,[_,l],[_],_,_,_,_,rfl,Walks.tuple (A:=A.in1) hh _ l (jq aa) (qj xs),⟨⟨_,cv _ rfl,rfl,rfl⟩,hl.push _⟩,fun c hc=>?_,by simpa[qj]using ac,CmpOf.ints_gt (numAt xs) (fun _ _=>intItems_at),fun v h' tk hP hk=>?_⟩
 ·show c<(s.heap.push _).objs.size;rw[su];rcases mem_cons.mp hc with rfl|hc
  ·exact lt_succ_self _
  ·rcases mem_cons.mp hc with rfl|hc
   ·exact qo aa
   ·cases hc
 ·refine h v h' tk (by simpa[qj]using hP) fun b o e=>hk b o (fun hm=>?_) (bn _ e);rcases mem_cons.mp hm with e1|hm
  ·exact absurd (e1▸fi e) (jw _)
  ·cases hm
theorem vZ{vs:List bb}{ns:List Int}(hi:IntsAre vs ns):∃xs:Array (Int×Tok),vs.toArray=qj xs/\ns=xs.toList.map (·.1):=by
 obtain⟨xs,e⟩:=hi.allInts.items;exact⟨xs,e,by rw[<- hi.numsOf,<- nums_intItems,<- e]⟩
end
def x9(K:bt):List V->Hp->VK->Prop:=fun xs H Q=>∃p ns,xs=[.ref p]/\(SqL K H p (ns.map V.int)\/SqT K H p (ns.map V.int))/\ns≠[]/\∀m,m∈ns->(∀a,a∈ns->m<=a)->Q (.int m) H
def CP(K:bt):List V->Hp->VK->Prop:=fun xs H Q=>∃p ns,xs=[.ref p]/\(SqL K H p (ns.map V.int)\/SqT K H p (ns.map V.int))/\ns≠[]/\∀m,m∈ns->(∀a,a∈ns->a<=m)->Q (.int m) H
section
variable {X:Cx}
theorem LU(hc:X.calm=true):CallR X (.builtin "min") (x9 X.K):=by
 intro zg s σ H xs us Q I r h;obtain⟨p,ns,rfl,hq,ac,q⟩:=h;obtain⟨u,rfl,rx⟩:=vals1 r;cases (show u=bv p from rx);have done:∀(ys:Array (Int×Tok)) (v:bb) (h':Heap) (tk:Nat),ns=ys.toList.map (·.1)->0<ys.size->(qj ys)[argBest (fun i j=>decide (numAt ys i<numAt ys j)) (ys.size-1)]?=some v ->
   (∀b o,s.heap.get? b=some o->h'.get? b=some o)->EP X zg σ Q v { s with heap:=h',toks:=tk }:=by
  intro ys v h' tk aa hsz hv hk;obtain⟨t,rfl⟩:=intItems_at hv;obtain⟨h1,h2⟩:=argBest_lt (numAt ys) (ys.size-1);refine⟨.int _,H,I.kept (t':=tk) hk,⟨t,rfl⟩,q _ ?_ fun a ha=>?_⟩
  ·rw[aa,numAt_eq];exact getD_mem (by rw[cg,pe];omega)
  ·rw[aa]at ha;obtain⟨j,hj,rfl⟩:=mem_getD ha;rw[cg,pe]at hj;rw[<- numAt_eq];exact h2 j yw
 rcases hq with hq|hq
 ·obtain⟨ae,rv,pl,_⟩:=I.list hq;obtain⟨ys,e,aa⟩:=vZ (vU rv);have hsz:0<ys.size:=by
   cases ys with
   |mk l=>cases l with
    |nil=>exact absurd aa ac
    |cons _ _=>exact Nat.succ_pos _
  exact min_intList (I.ok.hd hc) (by rw[<- e];exact pl.isList) hsz fun v h' tk hv hk=>done ys v h' tk aa hsz hv hk
 ·obtain⟨ae,rv,pl,_⟩:=I.tuple hq;obtain⟨ys,e,aa⟩:=vZ (vU rv);have hsz:0<ys.size:=by
   cases ys with
   |mk l=>cases l with
    |nil=>exact absurd aa ac
    |cons _ _=>exact Nat.succ_pos _
  exact Jp (I.ok.hd hc) (by rw[<- e];exact pl) hsz fun v h' tk hv hk=>done ys v h' tk aa hsz hv hk
theorem Kt(hc:X.calm=true):CallR X (.builtin "max") (CP X.K):=by
 intro zg s σ H xs us Q I r h;obtain⟨p,ns,rfl,hq,ac,q⟩:=h;obtain⟨u,rfl,rx⟩:=vals1 r;cases (show u=bv p from rx);have done:∀(ys:Array (Int×Tok)) (v:bb) (h':Heap) (tk:Nat),ns=ys.toList.map (·.1)->0<ys.size->(qj ys)[argBest (fun i j=>decide (numAt ys i>numAt ys j)) (ys.size-1)]?=some v ->
   (∀b o,s.heap.get? b=some o->h'.get? b=some o)->EP X zg σ Q v { s with heap:=h',toks:=tk }:=by
  intro ys v h' tk aa hsz hv hk;obtain⟨t,rfl⟩:=intItems_at hv;obtain⟨h1,h2⟩:=argBest_gt (numAt ys) (ys.size-1);refine⟨.int _,H,I.kept (t':=tk) hk,⟨t,rfl⟩,q _ ?_ fun a ha=>?_⟩
  ·rw[aa,numAt_eq];exact getD_mem (by rw[cg,pe];omega)
  ·rw[aa]at ha;obtain⟨j,hj,rfl⟩:=mem_getD ha;rw[cg,pe]at hj;rw[<- numAt_eq];exact h2 j yw
 rcases hq with hq|hq
 ·obtain⟨ae,rv,pl,_⟩:=I.list hq;obtain⟨ys,e,aa⟩:=vZ (vU rv);have hsz:0<ys.size:=by
   cases ys with
   |mk l=>cases l with
    |nil=>exact absurd aa ac
    |cons _ _=>exact Nat.succ_pos _
  exact max_intList (I.ok.hd hc) (by rw[<- e];exact pl.isList) hsz fun v h' tk hv hk=>done ys v h' tk aa hsz hv hk
 ·obtain⟨ae,rv,pl,_⟩:=I.tuple hq;obtain⟨ys,e,aa⟩:=vZ (vU rv);have hsz:0<ys.size:=by
   cases ys with
   |mk l=>cases l with
    |nil=>exact absurd aa ac
    |cons _ _=>exact Nat.succ_pos _
  exact Oa (I.ok.hd hc) (by rw[<- e];exact pl) hsz fun v h' tk hv hk=>done ys v h' tk aa hsz hv hk
end
section
variable {K:bt}{o:List Addr}{σ:St}{H0:Hp}{t t1 t2 t3 t4 t5:TE}{ta:TA}{tt tu:TT}{d d1 d2 d3 d4 d5:bg}{ds:List bg}{b c:Bool}
def jY:bg->Bool
 | .none=>true
 |_=>false
theorem Ce{H:Hp}{v:V}(h:Has H d v):decide (v=.non)=jY d:=by
 cases d with
 |none=>rw[nE.mp h];rfl
 |bool _=>rw[jM.mp h];rfl
 |int _=>rw[f7.mp h];rfl
 |str _=>rw[gD.mp h];rfl
 |list _=>obtain⟨a,vs,rfl,_⟩:=dS.mp h;rfl
 |tuple _=>obtain⟨a,vs,rfl,_⟩:=dG.mp h;rfl
 |dict _=>obtain⟨a,vs,rfl,_⟩:=BA.mp h;rfl
def EY:R2:=fun x y H Q=>y=.non/\Q (.bl (decide (x=.non))) H
def GS:R2:=fun x y H Q=>y=.non/\Q (.bl (!decide (x=.non))) H
theorem ND{X:Cx}:OpR X (jd .Is) EY:=LX
theorem GX{X:Cx}:OpR X (jd .IsNot) GS:=JG
end
def spD(a b:Int):bg:=.tuple [.int a,.int b]
end
section
theorem JV{K:bt}{a:Addr}{ns:List Int}{N:Int}{j:Nat}{tb:TS}{D:Ends}{σ:St}{H:Hp}(P:St->Prop)(h0:σ[0]?=some (some (.ref a)))(hS:SqL K H a (ns.map V.int))(ac:ns.length<=63)(hP:P σ)
  (turn:∀(n:Int) (σ:St) (H1 H2:Hp),P σ->Same H H1->Same H1 H2->tb { D with nx:=fun σ' H'=>Same H1 H'/\P σ',ct:=fun σ' H'=>Same H1 H'/\P σ',bk:=D.nx } (σ.set j (some (.int n))) H2)
  (done:∀(σ:St) (H1:Hp),P σ->Same H H1->D.nx σ H1):
  oY (AL K (tOp oV (kC (fQ (tC2 (yZ K) (f6 0) (tC (.int 0))) nY)) (tSl (rH K) (f6 0) (oX (tC (.int 1))) (oX (tC (.int N)))))) (gP j) tb D σ H:=by
 refine⟨_,h0,a,ns,0,rfl,rfl,hS,by decide,fun n0=>⟨by show 1<=bw;decide,fun p hp=>?_⟩⟩;have s1:Same H (upd H p (.lst [.int n0])):=Same.laid hp;refine⟨_,h0,_,rfl,_,rfl,a,_,rfl,s1.seq hS,fun p2 aa=>?_⟩;have s2:=s1.trans (Same.laid (o:=.lst (fK (ns.map V.int) (some 1) (some N))) aa);have np:p≠p2:=zO zQ aa;have hz:(fK (ns.map V.int) (some 1) (some N)).length<=63:=ie (yB _ _ _) (by rw[cg];exact ac);refine⟨p,p2,_,_,rfl,rfl,by rw[zL np,zQ],zQ,lg (small1000 (by simp only[cz,length_nil];omega)),fun p3 ae=>?_⟩;have s3:=s2.trans (Same.laid (o:=.lst ([V.int n0]++fK (ns.map V.int) (some 1) (some N))) ae);refine⟨p3,rfl,⟨_,.of zQ⟩,LY (K:=K) (a:=p3) (xs:=[V.int n0]++fK (ns.map V.int) (some 1) (some N)) (fun i σ' H'=>Same _ H'/\P σ') ⟨Same.refl _,hP⟩ (fun i σ H4 _ ⟨s4,_⟩=>.of (s4 _ _ zQ)) ?_ ?_⟩
 ·rintro i x σ' H4 hi ⟨s4,p4⟩;obtain⟨n,rfl⟩:∃n,x=.int n:=by
   rcases mem_append.mp (dh hi)with m|m
   ·exact⟨n0,mem_singleton.mp m⟩
   ·exact MT m
  exact turn n σ' _ H4 p4 s3 s4
 ·rintro σ' H4 ⟨s4,p4⟩;exact done σ' H4 p4 (s3.trans s4)
end
section
section
variable {prog:df}{w:gg}{A:fm}{E:bb->bf->Prop}{R:Result->bf->Prop}{s:bf}
theorem Hr{elt aa iter:Expr}{ifs:List Expr}{scope:Scope}{pos:Pos}{it acc:bb}{env:Env}(I:Nat->bf->Prop)
  (turn:∀n s,I n s->bq (model prog w) A (pyNext it) (fun r s₁=>match r with
   |none=>R (.ok .next) s₁
   |some v=>bq (model prog w) A (letOwnedTupleGo aa it v) (fun _ s₀=>bq (model prog w) A (assign aa env v) (fun _ s₂=>
     bq (model prog w) A (forIn ifs true fun c r=>if r=true then do let ok <- isTrue c env (eval c env);pure (ln ok)else pure (ln r)) (fun ok s₃=>
      if ok=true then bq (model prog w) A (eval elt env) (fun x s₄=>
       bq (model prog w) A (call (.builtin "list.append") [acc,x]) (fun _ s₅=>∃m,m<n/\I m s₅) (fun _ _=>False) s₄) (notedBy (model prog w) A env fun e s'=>R (.error e) s') s₃
      else ∃m,m<n/\I m s₃) (fun _ _=>False) s₂) (fun _ _=>False) s₀) (fun _ _=>False) s₁) (fun _ _=>False) s)
  (n:Nat) (h:I n s):
  codeAny (model prog w) A (.compLoop (.ListComp elt [⟨aa,iter,ifs,0⟩] scope pos) 0 it acc env) R s:=by
 have up:∀{α:Type}{t:Sem α}{Q:α->bf->Prop}{E':bb->bf->Prop}{s':bf},bq (model prog w) A t Q (fun _ _=>False) s'->bq (model prog w) A t Q E' s':=fun h=>ix h (fun _ _ q=>q) fun _ _ z=>z.elim;refine codeAny_loop rfl I (fun n s hI=>?_) n h;show bq _ A ((compTurn (.ListComp elt [⟨aa,iter,ifs,0⟩] scope pos) 0 it acc env).onRaise (fun x=>do ng x env;theTreesLotGoes x)) _ _ s;refine wpAny_noted ?_;rw[compTurn_list];refine bc (ly (bc (thn (up (turn n s hI)) fun r s₁ h₁=>?_)));cases r with
 |none=>exact bp h₁
 |some v=>
  refine bc (thn (up h₁) fun _ s₀ h₀=>?_);refine bc (thn (up h₀) fun _ s₂ h₂=>bc (thn (up h₂) fun ok s₃ h₃=>?_));cases ok with
  |false=>exact bp ⟨rfl,h₃⟩
  |true=>
   exact bc (bc (thn h₃ fun x s₄ h₄=>bc (thn (up h₄) fun _ s₅ h₅=>bp (bp ⟨rfl,h₅⟩))))
end
def bR(X:Cx)(scope:Scope)(cl:List (Str×Addr))(C:Addr)(s₃:bf)(H₃:Hp)(fp:List Addr)(N:List Str):Cx where
 prog:=X.prog
 w:=X.w
 K:=X.K
 mg:=X.mg
 base:=X.base
 A:=X.A
 N:=N
 s₀:=s₃
 H₀:=H₃
 env:=compEnvC scope cl C X.env
 outer:=X.stack
 stack:=X.stack
 ex:=fp
 fn:=fun _=>false
 calm:=X.calm
 pn:=[]
 xe:=fun _ _=>False
def PTs(X:Cx)(ifs:List Expr)(t:TT):Prop:=
 ∀(zg:List (Addr×Obj)) (s:bf) (σ:St) (H:Hp) (Q:Bool->Hp->Prop),Inv X zg σ H s->t σ H Q ->
  bq (model X.prog X.w) X.A (forIn ifs true fun c r=>if r=true then do let ok <- isTrue c X.env (eval c X.env);pure (ln ok)else pure (ln r)) (TP X zg σ Q) X.xe s
def FP:TT:=fun _ H Q=>Q true H
theorem eZ{X:Cx}:PTs X [] FP:=fun _ _ _ H _ I h=>wpAny_tests_nil ⟨H,I,h⟩
theorem C3{X:Cx}{c:Expr}{t:TT}(h:PT X c t):PTs X [c] t:=fun zg s σ H Q I hw=>wpAny_tests_one (h zg s σ H Q I hw)
def tau(caps:List (Option Nat))(σ:St):St:=caps.map fun o=>o.bind fun i=>(σ[i]?).join
def kU(caps:List (Option Nat))(wi:TI)(g:TG)(tt:TT)(te:TE):TE:=fun σ H Q=>wi σ H fun J H1=>∀D,H1 D=none->∃W:Nat->Nat->St->Hp->Prop,(∃m,W 0 m (tau caps σ) (upd H1 D (.lst []))) /\
 ∀i m τ H2,W i m τ H2->(J.stop i H2/\Q (.ref D) H2)\/(J.go i H2/\∀x H3,J.yld i H2 x H3->g x τ H3 fun τ4 H4=>tt τ4 H4 fun b H5=>
  if b=true then te τ4 H5 fun v H6=>∃xs,H6 D=some (.lst xs)/\xs.length<bw/\∃m',m'<m/\W (i+1) m' τ4 (upd H6 D (.lst (xs++[v])))else ∃m',m'<m/\W (i+1) m' τ4 H5)
structure CompOk(X:Cx)(scope:Scope)(cl:List (Str×Addr))(N:List Str)(caps:List (Option Nat)):Prop where
 clos:closureFor scope X.env=pure cl
 sub:∀x c,cl.lookup x=some c->X.env.cells.lookup x=some c
 kind:scope.kind=.function
 cell:∀y∈scope.names,y.2≠.cell
 names:∀y∈scope.names,y.2=.local->scope.names.lookup y.1=some .local
 has:∀x,((relabel scope X.env).names.lookup x=some .cell\/(relabel scope X.env).names.lookup x=some .free)->∃c,cl.lookup x=some c
 cap:∀(j i:Nat) (x:Str),caps[j]?=some (some i)->N[j]?=some x->X.N[i]?=some x/\Vis X.env.scope x/\¬ X.env.kindOf x=some .local/\∃c,cl.lookup x=some c/\((relabel scope X.env).names.lookup x=some .cell\/(relabel scope X.env).names.lookup x=some .free)
 len:caps.length=N.length
section
variable {X:Cx}{scope:Scope}{cl:List (Str×Addr)}{N:List Str}{caps:List (Option Nat)}{tg iter elt:Expr}{ifs:List Expr}{pos:Pos}{wi:TI}{g:TG}{tt:TT}{te:TE}
theorem IU{zg:List (Addr×Obj)}{σ:St}{H:Hp}{s:bf}{fp:List Addr}{h₁:Heap}{t':Nat}(c:CompOk X scope cl N caps)(I:Inv X zg σ H s)(f:∀b∈fp,FpOk X zg H b)(fo:∀b∈fp,∃o,s.heap.get? b=some o)
  (hns:h₁.Ns s.heap.objs.size (fun _=>none)) (hk:∀b o,s.heap.get? b=some o->h₁.get? b=some o):
  Inv (bR X scope cl s.heap.objs.size s H fp N) [] (tau caps σ) H { s with heap:=h₁,toks:=t' }:=by
 have lt:∀b∈fp,b<s.heap.objs.size:=fun b hb=>by obtain⟨o,e⟩:=fo b hb;exact fi e
 have ac:∀x k,cl.lookup x=some k->∃v,s.heap.IsCell k v:=fun x k e=>I.cell x k (c.sub x k e);refine⟨⟨I.ok.mod,c.kind,I.ok.glob,I.ok.blt,fe _,fun x y k h1 h2=>I.ok.inj x y k (c.sub x k h1) (c.sub y k h2),fun x hx=>c.has x hx,fun x k h _=>absurd (show false=true from h) dz,I.ok.hd,I.ok.frames,.inl rfl,
  fun b hb=>⟨jq (lt b hb),fun x k e=>(f b hb).2.2.2.2.1 x k (c.sub x k e)⟩,I.bs,ie I.ok.bsz I.sz,fun b o e hb=>?_,fun b hb z=>?_,I.stack,I.stkFree⟩,
  rfl,I.bare,Un.kept hk,⟨_,hns,fun j x v h1 h2 h3=>?_⟩,fun x k e=>?_,I.hok.fresh (fe _),fun x k e=>I.freeC x k (c.sub x k e),fun p hp=>absurd (show p∈([]:List (Addr×Obj))from hp) yv,I.hok.kept hk,?_⟩
 ·rcases(f b hb).2.2.2.1 with q|q
  ·exact I.ok.noex b o e q
  ·exact absurd (fc (fi e) (ie I.ok.bsz q)) (jw _)
 ·rcases mem_cons.mp (I.stkSub b z)with q|q
  ·exact(f b hb).2.1 q
  ·exact(f b hb).2.2.1 q
 ·have aa:(caps.map fun o=>o.bind fun i=>(σ[i]?).join)[j]?=some (some v):=h2;rw[gx]at aa;cases e:caps[j]? with
  |none=>rw[e]at aa;cases aa
  |some oi=>
   rw[e]at aa;have h2'':(oi.bind fun i=>(σ[i]?).join)=some v:=fg aa;cases oi with
   |none=>cases h2''
   |some i=>
    have h4:(σ[i]?).join=some v:=h2'';have h5:σ[i]?=some (some v):=by
     cases q:σ[i]? with
     |none=>rw[q]at h4;cases h4
     |some w'=>rw[q]at h4;exact congrArg some h4
    obtain⟨k1,k2,k3,cc,k4,k5⟩:=c.cap j i x e h1;obtain⟨m,hn,hl⟩:=I.loc;obtain⟨u,r,l⟩:=hl i x v k1 h5 k2;refine⟨u,r,.inr ⟨k5,cc,k4,?_⟩⟩;rcases l with ⟨q,_⟩|⟨_,c',hc',hcell⟩
    ·exact(k3 q).elim
    ·rw[c.sub x cc k4]at hc';cases hc';exact hcell.keeps hk
 ·obtain⟨v,q⟩:=ac x k e;exact⟨v,q.keeps hk⟩
 ·show (caps.map _).length=N.length;rw[cg];exact c.len
theorem GI{zg:List (Addr×Obj)}{σ τ:St}{H H':Hp}{s s':bf}{h':Heap}{fp:List Addr}(I:Inv X zg σ H s)(f:∀b∈fp,FpOk X zg H b)(J:Inv (bR X scope cl s.heap.objs.size s H fp N) [] τ H' s')(hs:fj s.heap.objs.size s'.heap h'):
  Inv X zg σ H' { s' with heap:=h' }:=by
 have hC:H' s.heap.objs.size=none:=J.free;have keep:∀b o,b≠s.heap.objs.size->s'.heap.get? b=some o->h'.get? b=some o:=fun b o nb e=>hs.extBut b o nb e;have u1:Un (frs X.stack) (s.heap.objs.size::fp) H H' s.heap s'.heap:=Un.mono J.base (fun b hb=>hb) (fun b hb=>cn _ hb);have u2:Un (frs X.stack) (s.heap.objs.size::fp) H' H' s'.heap h':=
  ⟨fun b o e _ _ hx=>keep b o (fun z=>hx (by rw[z];exact cw)) e,fun b o e _ _ hx=>⟨o.slots,keep b o (fun z=>hx (by rw[z];exact cw)) e⟩,fun _ _ _ n _=>n,fun b o e hx=>⟨o,keep b o (fun z=>hx (by rw[z];exact cw)) e⟩,fun _ _ q=>q,fun _ _ _ q=>q,fun _ _ q=>q⟩
 have hok:HOk X.prog X.w H' h':=fun a o e=>(J.hok a o e).stay (fun b u hb q=>keep b u (fun z=>by
  rcases hb with hb|hb
  ·rw[<- hb,z,hC]at e;cases e
  ·rw[z,hC]at hb;cases hb) q) (fun b q=>q) fun b xs q=>q
 refine I.call' (s':={ s' with heap:=h' }) (ch:=s.heap.objs.size::fp) J.os (u1.trans u2) hok J.bare fun b hb=>?_;rcases mem_cons.mp hb with rfl|hb
 ·refine⟨.inr I.sz,qg I.lt,fun x k e z=>?_,fun p hp z=>?_⟩
  ·obtain⟨v,q⟩:=I.cell x k e;exact absurd q.lt (by rw[z];exact jw _)
  ·exact absurd (fi (I.pin p hp).1) (by rw[z];exact jw _)
 ·obtain⟨f0,f1,f2,f3,f4,f5⟩:=f b hb;exact⟨f3,f1,f4,f5⟩
theorem CW{zg:List (Addr×Obj)}{σ:St}{H2:Hp}{s2:bf}{it:Addr}{fp:List Addr}{tn:Nat->Heap->Prop}{J:It}{RR:bb->Addr->Result->bf->Prop}{E:bb->bf->Prop}(XE:Addr->bf->Hp->List Addr->bb->bf->Prop)(hc:X.calm=true)(c:CompOk X scope cl N caps)
  (I2:Inv X zg σ H2 s2) (T:Turn X.prog X.w X.K tg J fp it tn) (st2:tn 0 s2.heap) (f2:∀b∈fp,FpOk X zg H2 b)
  (hg:∀C s H fp,PG (bR X scope cl C s H fp N) tg g) (ht:∀C s H fp,PTs (bR X scope cl C s H fp N) ifs tt) (he:∀C s H fp,PE { bR X scope cl C s H fp N with xe:=XE C s H fp } elt te)
  (Q:VK) (hq:∀D,H2 D=none->∃W:Nat->Nat->St->Hp->Prop,(∃m,W 0 m (tau caps σ) (upd H2 D (.lst []))) /\
   ∀i m τ H2,W i m τ H2->(J.stop i H2/\Q (.ref D) H2)\/(J.go i H2/\∀x H3,J.yld i H2 x H3->g x τ H3 fun τ4 H4=>tt τ4 H4 fun b H5=>
    if b=true then te τ4 H5 fun v H6=>∃xs,H6 D=some (.lst xs)/\xs.length<bw/\∃m',m'<m/\W (i+1) m' τ4 (upd H6 D (.lst (xs++[v])))else ∃m',m'<m/\W (i+1) m' τ4 H5))
  (hRR:∀(D C:Addr) (H':Hp) (s':bf) (m:Str->Option bb),s'.heap.Ns C m->FpOk X zg H' C->(∀h',fj C s'.heap h'->Inv X zg σ H' { s' with heap:=h' })->Q (.ref D) H'->RR (.ref D) C (.ok .next) s')
  (hRE:∀(D:Addr) (s₃:bf) (H₃:Hp) (s':bf) (e:bb),Inv X zg σ H₃ s₃->(∀b∈fp,FpOk X zg H₃ b)->XE s₃.heap.objs.size s₃ H₃ fp e s'->notedBy (model X.prog X.w) X.A (compEnvC scope cl s₃.heap.objs.size X.env) (fun e s'=>RR (.ref D) s₃.heap.objs.size (.error e) s') e s'):
  bq (model X.prog X.w) X.A (newList []) (fun acc s₃=>bq (model X.prog X.w) X.A (newFunctionEnv scope X.env.globals cl [] X.env.qual none .none (some X.env)) (fun af s₄=>
   codeAny (model X.prog X.w) X.A (.compStart (.ListComp elt [⟨tg,iter,ifs,0⟩] scope pos) 0 (.ref it) acc { af with scope:=relabel scope X.env }) (RR acc af.locals) s₄) E s₃) E s2:=by
 have hD:H2 s2.heap.objs.size=none:=I2.hok.fresh (fe _);obtain⟨W,⟨m0,w0⟩,ai⟩:=hq s2.heap.objs.size hD;have I3:Inv X zg σ (upd H2 s2.heap.objs.size (.lst [])) { s2 with heap:=s2.heap.push { cls:=.type "list",data:=.seq ([]:List bb).toArray } }:=I2.laid (t':=s2.toks) (fun b u e=>bn _ e) (fe _) ⟨qc _,[],0,.nil,cv _ rfl⟩;have fo:∀b∈fp,∃o,s2.heap.get? b=some o:=fun b hb=>by obtain⟨o,e,_⟩:=T.obj 0 _ st2 b hb;exact⟨o,e⟩
 have f3:∀b∈fp,FpOk X zg (upd H2 s2.heap.objs.size (.lst [])) b:=fun b hb=>by
  obtain⟨o,e⟩:=fo b hb;refine⟨?_,(f2 b hb).2⟩;rw[zL (jq (fi e))];exact(f2 b hb).1
 refine js (wpAny_newFunctionEnv c.cell (by intro y hy;simp at hy) (fun h₁ al ah=>?_) c.kind);have hk:∀b o,(s2.heap.push { cls:=.type "list",data:=.seq ([]:List bb).toArray }).get? b=some o->h₁.get? b=some o:=fun b o e=>ah.extBut b o (jq (fi e)) (bn _ e);have an:tn 0 h₁:=T.keep 0 _ _ st2 fun b _ o e=>hk b o (bn _ e);have I4:=IU (t':=s2.toks+([]:List (Str×bb)).length) c I3 f3 (fun b hb=>by obtain⟨o,e⟩:=fo b hb;exact⟨o,bn _ e⟩) al hk;have ac:∀{H':Hp},(∀b∈fp,H' b=none)->∀b∈fp,FpOk (bR X scope cl (s2.heap.push { cls:=.type "list",data:=.seq ([]:List bb).toArray }).objs.size { s2 with heap:=s2.heap.push { cls:=.type "list",data:=.seq ([]:List bb).toArray } } (upd H2 s2.heap.objs.size (.lst [])) fp N) [] H' b:=fun hn b hb=>
  ⟨hn b hb,(I4.ok.exf b hb).1,I4.ok.exfs b hb,.inl hb,(I4.ok.exf b hb).2,fun p hp=>absurd (show p∈([]:List (Addr×Obj))from hp) yv⟩
 have ae:codeAny (model X.prog X.w) X.A (.compLoop (.ListComp elt [⟨tg,iter,ifs,0⟩] scope pos) 0 (.ref it) (.ref s2.heap.objs.size) (compEnvC scope cl (s2.heap.push { cls:=.type "list",data:=.seq ([]:List bb).toArray }).objs.size X.env))
   (RR (.ref s2.heap.objs.size) (s2.heap.push { cls:=.type "list",data:=.seq ([]:List bb).toArray }).objs.size) { s2 with heap:=h₁,toks:=s2.toks+([]:List (Str×bb)).length }:=by
  refine Hr (fun n s'=>∃i τ H',Inv (bR X scope cl (s2.heap.push { cls:=.type "list",data:=.seq ([]:List bb).toArray }).objs.size { s2 with heap:=s2.heap.push { cls:=.type "list",data:=.seq ([]:List bb).toArray } } (upd H2 s2.heap.objs.size (.lst [])) fp N) [] τ H' s'/\tn i s'.heap/\(∀b∈fp,H' b=none)/\W i n τ H') ?_ m0 ⟨0,_,_,I4,an,fun b hb=>(f3 b hb).1,w0⟩;rintro n s5 ⟨i,τ,H5,I5,ak,aj,w5⟩;rcases ai i n τ H5 w5 with ⟨stop,qn⟩|⟨go,step⟩
  ·refine thn (T.done (bR X scope cl (s2.heap.push { cls:=.type "list",data:=.seq ([]:List bb).toArray }).objs.size { s2 with heap:=s2.heap.push { cls:=.type "list",data:=.seq ([]:List bb).toArray } } (upd H2 s2.heap.objs.size (.lst [])) fp N) rfl rfl rfl hc i [] s5 τ H5 (fun _ _=>False) I5 (ac aj) ak stop) fun r s6 ⟨hr,I6⟩=>?_;subst hr;obtain⟨m,hn,_⟩:=id I6.loc;exact hRR _ _ H5 s6 m hn (I3.fpOk (fe _) I6.free) (fun h' hs=>GI I3 f3 I6 hs) qn
  ·refine thn (T.item (bR X scope cl (s2.heap.push { cls:=.type "list",data:=.seq ([]:List bb).toArray }).objs.size { s2 with heap:=s2.heap.push { cls:=.type "list",data:=.seq ([]:List bb).toArray } } (upd H2 s2.heap.objs.size (.lst [])) fp N) rfl rfl rfl hc i [] s5 τ H5 (fun _ _=>False) I5 (ac aj) ak go) fun r s6 ⟨u,hr,h6⟩=>?_;subst hr;refine thn h6 fun _ s7 ⟨x,H7,I7,r7,y7,ag,ao⟩=>?_;have I7':=I7.pinned (ac ao) (T.obj _ _ ag);refine thn (hg _ _ _ _ _ s7 τ H7 x u _ I7' r7 (step x H7 y7)) fun _ s8 ⟨τ8,H8,I8,q8⟩=>?_;refine thn (ht _ _ _ _ _ s8 τ8 H8 _ I8 q8) fun ok s9 ⟨H9,I9,q9⟩=>?_;have aa:∀{H':Hp}{s':bf}{m:Nat},Inv (bR X scope cl (s2.heap.push { cls:=.type "list",data:=.seq ([]:List bb).toArray }).objs.size { s2 with heap:=s2.heap.push { cls:=.type "list",data:=.seq ([]:List bb).toArray } } (upd H2 s2.heap.objs.size (.lst [])) fp N) ([]++tL fp s7.heap) τ8 H' s'->(m<n/\W (i+1) m τ8 H') ->
     ∃m,m<n/\∃i τ H',Inv (bR X scope cl (s2.heap.push { cls:=.type "list",data:=.seq ([]:List bb).toArray }).objs.size { s2 with heap:=s2.heap.push { cls:=.type "list",data:=.seq ([]:List bb).toArray } } (upd H2 s2.heap.objs.size (.lst [])) fp N) [] τ H' s'/\tn i s'.heap/\(∀b∈fp,H' b=none)/\W i m τ H':=fun {H' s' m} I' q=>by
    refine⟨m,q.1,i+1,τ8,H',I'.unpinned,T.keep _ _ _ ag fun b hb o e=>(I'.pin (b,o) (fh _ (fh _ (v7 hb e)))).1,fun b hb=>?_,q.2⟩;obtain⟨o,e,d⟩:=T.obj _ _ ag b hb;exact(I'.pin (b,o) (fh _ (fh _ (v7 hb e)))).2.1
   cases ok with
   |false=>
    rw[cb jo]at q9 ⊢;obtain⟨m',hm,w9⟩:=q9;exact aa I9 ⟨hm,w9⟩
   |true=>
    rw[cm rfl]at q9 ⊢;refine ix (he _ _ _ _ _ s9 τ8 H9 _ (I9.wish _) q9) (fun v am ⟨z,H10,I10x,ap,xs,hx,hz,m',hm,aq⟩=>?_) fun e am q=>hRE _ _ _ _ e I3 f3 q;have I10:=I10x.wish fun _ _=>False;refine thn (oP _ am τ8 H10 (.ref s2.heap.objs.size) [z] (.ref s2.heap.objs.size) [v] (fun _ H11=>W (i+1) m' τ8 H11) I10 rfl (.cons ap .nil) ⟨_,xs,z,rfl,rfl,hx,hz,aq⟩) fun _ as ⟨_,H11,I11,_,ar⟩=>?_;exact aa I11 ⟨hm,ar⟩
 exact codeAny_compStart_list ae (T.self _ 0 _ _ _ an ae)
theorem Eo{zg:List (Addr×Obj)}{σ:St}{H2:Hp}{s2:bf}{it:Addr}{fp:List Addr}{tn:Nat->Heap->Prop}{J:It}{RR:bb->Addr->Result->bf->Prop}{E:bb->bf->Prop}(hc:X.calm=true)(c:CompOk X scope cl N caps)
  (I2:Inv X zg σ H2 s2) (T:Turn X.prog X.w X.K tg J fp it tn) (st2:tn 0 s2.heap) (f2:∀b∈fp,FpOk X zg H2 b)
  (hg:∀C s H fp,PG (bR X scope cl C s H fp N) tg g) (ht:∀C s H fp,PTs (bR X scope cl C s H fp N) ifs tt) (he:∀C s H fp,PE (bR X scope cl C s H fp N) elt te)
  (Q:VK) (hq:∀D,H2 D=none->∃W:Nat->Nat->St->Hp->Prop,(∃m,W 0 m (tau caps σ) (upd H2 D (.lst []))) /\
   ∀i m τ H2,W i m τ H2->(J.stop i H2/\Q (.ref D) H2)\/(J.go i H2/\∀x H3,J.yld i H2 x H3->g x τ H3 fun τ4 H4=>tt τ4 H4 fun b H5=>
    if b=true then te τ4 H5 fun v H6=>∃xs,H6 D=some (.lst xs)/\xs.length<bw/\∃m',m'<m/\W (i+1) m' τ4 (upd H6 D (.lst (xs++[v])))else ∃m',m'<m/\W (i+1) m' τ4 H5))
  (hRR:∀(D C:Addr) (H':Hp) (s':bf) (m:Str->Option bb),s'.heap.Ns C m->FpOk X zg H' C->(∀h',fj C s'.heap h'->Inv X zg σ H' { s' with heap:=h' })->Q (.ref D) H'->RR (.ref D) C (.ok .next) s'):
  bq (model X.prog X.w) X.A (newList []) (fun acc s₃=>bq (model X.prog X.w) X.A (newFunctionEnv scope X.env.globals cl [] X.env.qual none .none (some X.env)) (fun aa s₄=>
   codeAny (model X.prog X.w) X.A (.compStart (.ListComp elt [⟨tg,iter,ifs,0⟩] scope pos) 0 (.ref it) acc { aa with scope:=relabel scope X.env }) (RR acc aa.locals) s₄) E s₃) E s2:=
 CW (fun _ _ _ _ _ _=>False) hc c I2 T st2 f2 hg ht he Q hq hRR fun _ _ _ _ _ _ _ z=>z.elim
theorem lY(hx:∀e s,X.xe e s->False)(hc:X.calm=true)(c:CompOk X scope cl N caps)(hi:PI X tg iter wi)(hg:∀C s H fp,PG (bR X scope cl C s H fp N) tg g)(ht:∀C s H fp,PTs (bR X scope cl C s H fp N) ifs tt)(he:∀C s H fp,PE (bR X scope cl C s H fp N) elt te)
  (hs:∀x,foldedSetIterable iter X.env x=pure x:=by intro _;rfl):PE X (.ListComp elt [⟨tg,iter,ifs,0⟩] scope pos) (kU caps wi g tt te):=by
 intro zg s σ H Q I h;rw[eval_ListComp];refine wpAny_comprehension_free (use:=none) rfl hs c.clos c.kind c.names (thn (hi zg s σ H _ I h) fun v s1 h1=>thn h1 fun ac s2 h2=>?_);obtain⟨it,fp,tn,J,H2,e,I2,T,aa,f2,q2⟩:=h2;subst e;exact Eo (RR:=fun acc C=>compPost (model X.prog X.w) X.A X.xe none (EP X zg σ Q) acc C) hc c I2 T aa f2 hg ht he Q q2 fun D C H' s' m hn _ hb q=>⟨m,hn,fun h' hs=>⟨.ref D,H',hb h' hs,rfl,q⟩⟩
theorem tH{i:Nat}{y:Str}{py aa:Pos}(hx:∀e s,X.xe e s->False)(hc:X.calm=true)(c:CompOk X scope cl N caps)(hN:X.N.Nodup)(ae:X.N[i]?=some y)(hl:X.env.scope.names.lookup y=some .local)(hi:PI X tg iter wi)(hg:∀C s H fp,PG (bR X scope cl C s H fp N) tg g)
  (ht:∀C s H fp,PTs (bR X scope cl C s H fp N) ifs tt) (he:∀C s H fp,PE (bR X scope cl C s H fp N) elt te)
  (hsw:sj (.ListComp elt [⟨tg,iter,ifs,0⟩] scope pos) (some (.Name y py)) aa.line X.env=pure true:=by rfl)
  (hs:∀x,foldedSetIterable iter X.env x=pure x:=by intro _;rfl):PS X (.Assign [.Name y py] (.ListComp elt [⟨tg,iter,ifs,0⟩] scope pos) aa) (iH (kU caps wi g tt te) (gP i)):=by
 intro zg s σ H D I h;rw[exec_Assign_Name_used _ _ _ _ hsw];refine bc (ly (bc ?_));show bq _ X.A (do let _ <- comprehension (.ListComp elt [⟨tg,iter,ifs,0⟩] scope pos) scope X.env _ (newList []) false (eval iter X.env) (some (assign (.Name y py) X.env))) _ _ s;refine bc (ix (wpAny_comprehension_free (use:=some (assign (.Name y py) X.env)) (Q:=fun _ s'=>SP X zg D .next s') rfl hs c.clos c.kind c.names (thn (hi zg s σ H _ I h) fun v s1 h1=>thn h1 fun af s2 h2=>?_)) (fun _ s' hq=>bp (bp hq)) fun _ _ e=>e);obtain⟨it,fp,tn,J,H2,e,I2,T,ac,f2,q2⟩:=h2;subst e;refine Eo (RR:=fun acc C=>compPost (model X.prog X.w) X.A X.xe (some (assign (.Name y py) X.env)) (fun _ s'=>SP X zg D .next s') acc C) hc c I2 T ac f2 hg ht he (fun v H'=>D.nx (σ.set i (some v)) H') q2 fun Da C H' s' m hn f hb q=>?_;obtain⟨o,es,ep,ho,hd,r⟩:=hn;have I':Inv X zg σ H' s':=hb s'.heap (Heap.SameBut.refl _ _);have I'':Inv X (zg++[(C,o)]) σ H' s':=I'.pins_of fun p hp=>(mem_append.mp hp).elim (fun z=>I'.pin p (fh _ z)) fun z=>by
  cases mem_singleton.mp z;exact⟨ho,f.1,f.2.1,f.2.2.1,fun v e=>by rw[hd]at e;cases e⟩
 refine wpAny_assign_Name (nU I'' hN ae (.inl hl) (show RelV (V.ref Da) (bv Da)from rfl) (fun s2 J2=>?_) (.inr hl));refine⟨m,⟨o,es,ep,(J2.pin (C,o) (fh _ (fh _ (mem_singleton.mpr rfl)))).1,hd,r⟩,fun h' hs=>?_⟩;exact⟨_,H',J2.unpinned.turned (t':=s2.toks) (fun b ob nb e=>hs.extBut b ob nb e) f.1 f.2.1 f.2.2.2.1 f.2.2.2.2.1 f.2.2.2.2.2,q⟩
end
def gO(env:Env):List (Str×ow)->List (Str×Addr)->List (Str×Addr)
 | [],acc=>acc
 | (n,k)::r,acc=>gO env r (if k==.free then (n,(env.cells.lookup n).getD 0)::acc else acc)
theorem Fv{env:Env}{x:Str}{c:Addr}:∀{names:List (Str×ow)}{acc:List (Str×Addr)},(x,c)∈gO env names acc->(x,c)∈acc\/((x,NameKind.free)∈names/\c=(env.cells.lookup x).getD 0)
 | [],_,h=>.inl h
 | (n,k)::r,acc,h=>by
  rcases Fv (names:=r) h with h|⟨h,e⟩
  ·by_cases hk:k==.free
   ·rw[cm hk]at h;rcases mem_cons.mp h with h|h
    ·cases h;have:k=.free:=by simpa using hk
     subst this;exact .inr ⟨cw,rfl⟩
    ·exact .inl h
   ·rw[cb hk]at h;exact .inl h
  ·exact .inr ⟨cn _ h,e⟩
theorem BT{env:Env}{p:Str×Addr}:∀{names:List (Str×ow)}{acc:List (Str×Addr)},p∈acc->p∈gO env names acc
 | [],_,h=>h
 | (n,k)::r,acc,h=>BT (names:=r) (by split<;>first|exact cn _ h|exact h)
theorem AT{env:Env}{x:Str}:∀{names:List (Str×ow)}{acc:List (Str×Addr)},(x,NameKind.free)∈names->∃c,(x,c)∈gO env names acc
 | (n,k)::r,acc,h=>by
  rcases mem_cons.mp h with h|h
  ·cases h;exact⟨_,BT (names:=r) (by rw[cm dz];exact cw)⟩
  ·exact AT (names:=r) h
theorem BH{β:Type}{x:Str}{c:β}:∀{l:List (Str×β)},(x,c)∈l->∃c',l.lookup x=some c'
 | (n,v)::r,h=>by
  cases e:x==n with
  |true=>exact⟨v,by rw[ke,e]⟩
  |false=>
   rcases mem_cons.mp h with h|h
   ·cases h;simp at e
   ·obtain⟨c',q⟩:=BH (l:=r) h;exact⟨c',by rw[ke,e];exact q⟩
theorem Il{env:Env}{scope:Scope}(h:∀y∈scope.names,y.2=.free->(env.cells.lookup y.1).isSome=true):closureFor scope env=pure (gO env scope.names []):=by
 have go:∀(names:List (Str×ow)) (acc:List (Str×Addr)),(∀y∈names,y.2=.free->(env.cells.lookup y.1).isSome=true) ->
   (forIn names acc (fun(x:Str×ow) (cs:List (Str×Addr))=>(if x.2==.free then (do let c <- cellOf env x.1;pure (ln ((x.1,c)::cs)))else pure (ln cs):Sem (ForInStep (List (Str×Addr))))))=(pure (gO env names acc):Sem (List (Str×Addr))):=by
  intro names;induction names with
  |nil=>intro acc _;rfl
  |cons y r ih=>
   intro acc hy;obtain⟨n,k⟩:=y;rw[forIn_cons];by_cases hk:k==.free
   ·have hs:=hy (n,k) cw (by simpa using hk);obtain⟨c,hc⟩:=isSome_iff_exists.mp hs;have ac:env.cells.lookup n=some c:=hc;simp only[hk,if_true,cellOf,ac,pure_bind,gO,Option.getD_some];exact ih _ fun y aa=>hy y (cn _ aa)
   ·simp only[hk,kr,if_false,pure_bind,gO];exact ih _ fun y aa=>hy y (cn _ aa)
 have g:=go scope.names [] h;exact(bind_pure _).trans g
def c8(DN:List Str)(dsc sc:List (Str×ow))(N:List Str)(caps:List (Option Nat)):Bool:=
 (caps.length==N.length)&&sc.all (fun y=>y.2 != .cell&&(y.2 != .free||dsc.lookup y.1==some .cell)&&(y.2 != .local||sc.lookup y.1==some .local)) &&
 (caps.zip N).all fun p=>match p.1 with|none=>true|some i=>DN[i]?==some p.2&&dsc.lookup p.2==some .cell&&sc.lookup p.2==some .free
theorem y8{dsc:List (Str×ow)}{env:Env}{x:Str}{k:ow}:∀{names:List (Str×ow)},(names.map fun(n,k)=>if (k==.free&&env.scope.kind==.function&&env.kindOf n==some .cell)then (n,.cell)else (n,k)).lookup x=some k ->
  ∃k',names.lookup x=some k'/\(k'=k\/(k'=.free/\k=.cell))
 | [],h=>by simp at h
 | (n,k0)::r,h=>by
  cases e:x==n with
  |true=>
   refine⟨k0,by rw[ke,e],?_⟩;rw[gk]at h;dsimp only at h;split at h
   ·rename_i hc;rw[ke,e]at h;have:k0=.free:=by simp at hc;exact hc.1.1
    cases h;exact .inr ⟨this,rfl⟩
   ·rw[ke,e]at h;cases h;exact .inl rfl
  |false=>
   rw[gk]at h;dsimp only at h;have h':(r.map fun(n,k)=>if (k==NameKind.free&&env.scope.kind==.function&&env.kindOf n==some .cell)then (n,NameKind.cell)else (n,k)).lookup x=some k:=by
    split at h<;>(rw[ke,e]at h;exact h)
   obtain⟨k',q,z⟩:=y8 (dsc:=dsc) h';exact⟨k',by rw[ke,e];exact q,z⟩
theorem Ch{env:Env}{x:Str}(h1:env.scope.kind=.function)(h2:env.kindOf x=some .cell):∀{names:List (Str×ow)},names.lookup x=some .free ->
  (names.map fun(n,k)=>if (k==.free&&env.scope.kind==.function&&env.kindOf n==some .cell)then (n,.cell)else (n,k)).lookup x=some .cell
 | [],h=>by simp at h
 | (n,k0)::r,h=>by
  rw[gk];cases e:x==n with
  |true=>
   rw[ke,e]at h;cases h;have en:x=n:=by simpa using e
   subst en;dsimp only;rw[cm (by rw[h1,h2];decide),ke,e]
  |false=>
   rw[ke,e]at h;have ih:=Ch h1 h2 (names:=r) h;dsimp only;split<;>(rw[ke,e];exact ih)
theorem dP{X:Cx}{dsc:Scope}{L:Nat}{scope:Scope}{N:List Str}{caps:List (Option Nat)}(hd:X.env.scope=dsc)(hc:X.env.cells=cellsFrom L dsc.names [])(ag:dsc.kind=.function)(hk:scope.kind=.function)(h:c8 X.N dsc.names scope.names N caps=true):
  CompOk X scope (gO X.env scope.names []) N caps:=by
 subst hd;simp only[c8,cy,all_eq_true,beq_iff_eq]at h;obtain⟨⟨hl,hs⟩,hz⟩:=h;have aa:∀y∈scope.names,y.2=.free->X.env.scope.names.lookup y.1=some .cell:=fun y hy e=>by
  have q:=(hs y hy).1.2;rw[e]at q;simpa using q
 have ae:∀y∈scope.names,y.2≠.cell:=fun y hy e=>by
  have q:=(hs y hy).1.1;rw[e]at q;simp at q
 have ac:∀x,X.env.scope.names.lookup x=some .cell->(X.env.cells.lookup x).isSome=true:=fun x e=>by
  rw[hc];exact W.cellsFrom_some _ _ _ (.inl e)
 have sub:∀x c,(gO X.env scope.names []).lookup x=some c->X.env.cells.lookup x=some c:=fun x c e=>by
  rcases Fv (PySem.mem_of_lookup e)with q|⟨q,ec⟩
  ·cases q
  ·obtain⟨c',af⟩:=isSome_iff_exists.mp (ac x (aa _ q rfl));rw[ec,af];rfl
 refine⟨Il fun y hy e=>ac y.1 (aa y hy e),sub,hk,ae,fun y hy e=>?_,fun x hx=>?_,fun j i x h1 h2=>?_,hl⟩
 ·have q:=(hs y hy).2;rw[e]at q;simpa using q
 ·have fin:(x,NameKind.free)∈scope.names->∃c,(gO X.env scope.names []).lookup x=some c:=fun m=>by
   obtain⟨c,hm⟩:=AT (env:=X.env) (acc:=[]) m;exact BH hm
  rcases hx with hx|hx
  ·obtain⟨k',q,z⟩:=y8 (dsc:=[]) hx;rcases z with rfl|⟨rfl,_⟩
   ·exact absurd rfl (ae _ (PySem.mem_of_lookup q))
   ·exact fin (PySem.mem_of_lookup q)
  ·obtain⟨k',q,z⟩:=y8 (dsc:=[]) hx;rcases z with rfl|⟨_,z⟩
   ·exact fin (PySem.mem_of_lookup q)
   ·cases z
 ·have hm:(some i,x)∈caps.zip N:=by
   have:(caps.zip N)[j]?=some (some i,x):=by rw[List.getElem?_zip_eq_some];exact⟨h1,h2⟩
   exact dh this
  have q:=hz _ hm;simp only[cy,beq_iff_eq]at q;obtain⟨⟨q1,q2⟩,q3⟩:=q;obtain⟨c,ah⟩:=AT (env:=X.env) (acc:=[]) (PySem.mem_of_lookup q3);obtain⟨c',af⟩:=BH ah;refine⟨q1,.inr (.inl q2),fun z=>?_,c',af,.inl (Ch ag q2 q3)⟩;have z':X.env.scope.names.lookup x=some .local:=z;rw[q2]at z';cases z'
end
section
section
variable {X:Cx}
def GZ:R2:=fun x y H Q=>∃z n,x=.str z/\y=.int n/\z.length<=1000/\n<=1000/\-1000<=n/\Q (.str (PySem.Txt.mul z n)) H
theorem Oy{z:Str}{n:Int}(h1:z.length<=1000)(h2:n<=1000)(h3:-1000<=n):PySem.MulOk z n:=by
 refine⟨by simp;omega,fun a _ b=>?_,fun a _=>?_⟩
 ·have e:(1000:Int)<=(2 ^ 63-1)/n:=by
   rw[Int.le_ediv_iff_mul_le yw];have:=Int.mul_le_mul_of_nonneg_left h2 (show (0:Int)<=1000 by decide);omega
  omega
 ·have e:z.length*n.toNat<=1000*1000:=Nat.mul_le_mul h1 yw;unfold Builtin.Str.tooLong;simp only[decide_eq_false_iff_not,Nat.not_lt];exact ie e dz
theorem Jm:OpR X (lq .Mult) GZ:=by
 intro zg s σ H x y v u Q I rx ry h;obtain⟨z,n,rfl,rfl,h1,h2,h3,q⟩:=h;obtain⟨t,rfl⟩:=rx;obtain⟨t',rfl⟩:=ry;exact PySem.SB.mul (Oy h1 h2 h3) fun _ k=>⟨.str _,H,I.tok _,⟨_,rfl⟩,q⟩
def Di:V->Option Int->Option Int->Hp->VK->Prop:=fun x lo hi H Q=>∃z,x=.str z/\z.length<=bw/\Q (.str (PySem.Txt.slice z lo hi)) H
theorem Ji:SlR X Di:=by
 intro zg s σ H x v vl vu lo hi sl Q I rx hs pl pu h;obtain⟨z,rfl,hz,q⟩:=h;obtain⟨t,rfl⟩:=rx;refine⟨"str",_,F.slot_str_getitem.lookup,typeIs_str _ _ _,?_⟩;have fin:∀(a b:Option (Int×Tok)),a.map (·.1)=lo->b.map (·.1)=hi->s.heap.IsSlice sl a b none->bq (model X.prog X.w) X.A (getItem (.str z t) (.ref sl)) (EP X zg σ Q) X.xe s:=fun a b e1 e2 aa=>by
  subst e1 e2;exact wpAny_getItem_str_slice (l:=a) (u:=b) (st:=none) aa rfl (post_val_or_str ⟨ie (PySem.Txt.slice_le z _ _) hz,fun _ k=>⟨.str _,H,I.tok _,⟨_,rfl⟩,q⟩⟩)
 cases pl with
 |none=>
  cases pu with
  |none=>exact fin none none rfl rfl hs
  |int j tj=>exact fin none (some (j,tj)) rfl rfl hs
 |int i ti=>
  cases pu with
  |none=>exact fin (some (i,ti)) none rfl rfl hs
  |int j tj=>exact fin (some (i,ti)) (some (j,tj)) rfl rfl hs
theorem Bj:∀{zs:List Str}{us:List bb},Vals (zs.map V.str) us->StrsAre us zs
 | [],_,.nil=>.nil
 |z::zs,_,.cons r t=>by
  obtain⟨tk,rfl⟩:=r;exact .cons z tk (Bj t)
def BU(K:bt):V->List V->Hp->VK->Prop:=fun x vs H Q=>∃z a zs,x=.str z/\vs=[.ref a]/\SqL K H a (zs.map V.str)/\z.length<=16/\zs.length<=1000/\(∀y∈zs,y.length<=1000)/\Q (.str (PySem.Txt.join z zs)) H
theorem Ci{zs:List Str}(h:∀y∈zs,y.length<=1000):(zs.map (·.length)).sum<=zs.length*1000:=by
 induction zs with
 |nil=>simp
 |cons z zs ih=>
  have h1:=h z cw;have h2:=ih fun y hy=>h y (cn _ hy);simp only[gk,sum_cons,cz,Nat.add_mul,Nat.one_mul];omega
theorem jS:MtR X "str.join" (BU X.K):=by
 intro zg s σ H x vs v us Q I rx rv h;obtain⟨z,a,zs,rfl,rfl,hq,hz,hn,hl,q⟩:=h;obtain⟨t,rfl⟩:=rx;obtain⟨u,rfl,r1⟩:=rv.one;cases r1;obtain⟨aa,r,pl,hsz⟩:=I.list hq;have hs:=Ci hl;refine join_listW pl.isList (by simpa using Bj r) hz yw fun _ k=>⟨.str _,H,I.tok _,⟨_,rfl⟩,q⟩
end
section
variable {K:bt}{o:List Addr}{σ:St}{H0:Hp}{t:TE}{ta:TA}{ds:List bg}
def kO(lo:Int)(n:Nat):List bg:=(iq n).map fun k:Nat=>.int (lo+k)
theorem nA{lo:Int}{n:Nat}:(kO lo n).length=n:=by simp[kO]
theorem oC{lo:Int}{n i:Nat}{d:bg}(h:(kO lo n)[i]?=some d):i<n/\d=.int (lo+i):=by
 have hi:i<n:=by
  have:=List.getElem?_eq_some_iff.mp h;obtain⟨hl,_⟩:=this
  rwa [nA]at hl
 refine⟨hi,?_⟩;simp only[kO,gx,List.getElem?_range hi,map_some,Option.some.injEq]at h;exact h.symm
end
theorem FZ{y:Str}{zs:List Str}(hy:y.length<=16)(hz:∀z∈zs,z.length<=1000):(PySem.Txt.join y zs).length<=zs.length*1016:=by
 show (Builtin.Str.glued y zs).length<=_;rw[jb];cases zs with
 |nil=>exact qc _
 |cons a r=>
  rw[len_join_cons];have h1:=Ci hz;have h2:r.length*y.length<=r.length*16:=Nat.mul_le_mul_left _ hy;simp only[cz]at h1 ⊢;omega
def bI{α:Type}(xs:List α)(lo hi:Option Int):List α:=(xs.drop (HT.sIx xs.length 0 lo)).take (HT.sIx xs.length xs.length hi-HT.sIx xs.length 0 lo)
theorem HasL.drop{H:Hp}:∀{ds:List bg}{vs:List V} (n:Nat),HasL H ds vs->HasL H (ds.drop n) (vs.drop n)
 |ds,vs,0,h=>h
 | [],vs,n+1,h=>by rw[zE.mp h];exact zE.mpr rfl
 |d::ds,vs,n+1,h=>by
  obtain⟨v,r,rfl,_,l⟩:=zu.mp h;exact HasL.drop n l
theorem HasL.take{H:Hp}:∀{ds:List bg}{vs:List V} (n:Nat),HasL H ds vs->HasL H (ds.take n) (vs.take n)
 |ds,vs,0,h=>zE.mpr rfl
 | [],vs,n+1,h=>by rw[zE.mp h];exact zE.mpr rfl
 |d::ds,vs,n+1,h=>by
  obtain⟨v,r,rfl,q,l⟩:=zu.mp h;exact zu.mpr ⟨v,_,rfl,q,HasL.take n l⟩
theorem HasL.cut{H:Hp}{ds:List bg}{vs:List V}(lo hi:Option Int)(h:HasL H ds vs):HasL H (bI ds lo hi) (fK vs lo hi):=by
 unfold bI fK;rw[h.length];exact(h.drop _).take _
theorem HasL.rev{H:Hp}:∀{ds:List bg}{vs:List V},HasL H ds vs->HasL H ds.reverse vs.reverse
 | [],vs,h=>by rw[zE.mp h];exact zE.mpr rfl
 |d::ds,vs,h=>by
  obtain⟨v,r,rfl,q,l⟩:=zu.mp h;rw[reverse_cons,reverse_cons];exact(HasL.rev l).append (zu.mpr ⟨v,[],rfl,q,zE.mpr rfl⟩)
end
section
theorem Eu:∀{l:List Addr}{H:Hp}{b:Addr}{u:HO},vw l H b=some u↔b∉l/\H b=some u
 | [],H,b,u=>by simp[vw]
 |a::r,H,b,u=>by
  show hid a (vw r H) b=some u↔_;by_cases h:b=a
  ·subst h;simp[LC]
  ·rw[N8 h,Eu];simp[h]
def vx(h o:List Addr)(H:Hp):Hp:=vw (h++o) H
theorem zU{h o:List Addr}{H:Hp}{b:Addr}{u:HO}:vx h o H b=some u↔b∉h/\b∉o/\H b=some u:=by
 unfold vx;rw[Eu];simp[and_assoc]
theorem bQ{h o:List Addr}{H:Hp}:Same (vx h o H) H:=fun b u e=>(zU.mp e).2.2
theorem kY{h o:List Addr}{H H':Hp}(s:Same H H'):Same (vx h o H) (vx h o H'):=fun b u e=>by
 obtain⟨h1,h2,h3⟩:=zU.mp e;exact zU.mpr ⟨h1,h2,s b u h3⟩
structure Ex(o:List Addr)(H:Hp)(o':List Addr)(H':Hp):Prop where
 pre:∃r,o'=o++r
 kp:∀b u,b∉o->H b=some u->b∉o'/\H' b=some u
section
variable {h o o' o'':List Addr}{H H' H'':Hp}{S:List (List bg)}{p a:Addr}
theorem Ex.refl:Ex o H o H:=⟨⟨[],yv⟩,fun _ _ a b=>⟨a,b⟩⟩
theorem Ex.trans(a:Ex o H o' H')(b:Ex o' H' o'' H''):Ex o H o'' H'':=by
 obtain⟨⟨r,e⟩,ka⟩:=a;obtain⟨⟨t,e'⟩,kb⟩:=b;refine⟨⟨r++t,by rw[e',e,ja]⟩,fun b u h1 h2=>?_⟩;obtain⟨h3,h4⟩:=ka b u h1 h2;exact kb b u h3 h4
theorem Ex.vx(e:Ex o H o' H'):Same (L2.vx h o H) (L2.vx h o' H'):=fun b u q=>by
 obtain⟨h1,h2,h3⟩:=zU.mp q;obtain⟨h4,h5⟩:=e.kp b u h2 h3;exact zU.mpr ⟨h1,h4,h5⟩
structure ExH(h o:List Addr)(H:Hp)(o':List Addr)(H':Hp):Prop where
 pre:∃r,o'=o++r
 kp:∀b u,b∉h->b∉o->H b=some u->b∉o'/\H' b=some u
theorem Ex.hid(e:Ex o H o' H'):ExH h o H o' H':=⟨e.pre,fun b u _=>e.kp b u⟩
theorem ExH.refl:ExH h o H o H:=Ex.refl.hid
theorem ExH.trans(a:ExH h o H o' H')(b:ExH h o' H' o'' H''):ExH h o H o'' H'':=by
 obtain⟨⟨r,e⟩,ka⟩:=a;obtain⟨⟨t,e'⟩,kb⟩:=b;refine⟨⟨r++t,by rw[e',e,ja]⟩,fun b u h0 h1 h2=>?_⟩;obtain⟨h3,h4⟩:=ka b u h0 h1 h2;exact kb b u h0 h3 h4
theorem ExH.vx(e:ExH h o H o' H'):Same (L2.vx h o H) (L2.vx h o' H'):=fun b u q=>by
 obtain⟨h1,h2,h3⟩:=zU.mp q;obtain⟨h4,h5⟩:=e.kp b u h1 h2 h3;exact zU.mpr ⟨h1,h4,h5⟩
theorem Ex.of_same(s:Same H H'):Ex o H o H':=⟨⟨[],yv⟩,fun b u h e=>⟨h,s b u e⟩⟩
theorem iU{α:Type}{l t:List α}{k:Nat}{a:α}(q:l[k]?=some a):(l++t)[k]?=some a:=by
 obtain⟨hk,_⟩:=List.getElem?_eq_some_iff.mp q;rw[fq hk];exact q
def ctxG:List bb:=([.ref 161]:List PySem.Value)
def exO(a C:Addr)(d:Option Addr):HO:=.ext fun h=>∃o,h.get? a=some o/\o.cls=.ref C/\o.dict=d/\∃vs,o.data=.fields vs/\(bv C∉ctxG->vs[2]?=some .none)
def xw(dx:Addr)(fs:List (Str×V)):HO:=.ext fun h=>∃mA,h.Ns1 dx mA/\(∀f,RelO (fs.lookup f) (mA f))/\PySem.Within mA (fs.map (·.1))
def HasE(H:Hp)(C:Addr)(fs:List (Str×bg))(v:V):Prop:=∃a d,v=.ref a/\H a=some (exO a C d)/\∀f dt,fs.lookup f=some dt->∃dx vs u,d=some dx/\H dx=some (xw dx vs)/\vs.lookup f=some u/\Has H dt u
theorem HasE.mono{H H':Hp}{C:Addr}{fs:List (Str×bg)}{v:V}(s:Same H H')(q:HasE H C fs v):HasE H' C fs v:=by
 obtain⟨a,d,e,ha,hf⟩:=q;refine⟨a,d,e,s _ _ ha,fun f dt l=>?_⟩;obtain⟨dx,vs,u,e1,e2,e3,e4⟩:=hf f dt l;exact⟨dx,vs,u,e1,s _ _ e2,e3,Has.mono s _ _ e4⟩
inductive XV where
 |d (d:bg)
 |l (k:Nat)
 |o (v:V)
 |x (C:Addr) (fs:List (Str×bg))
 |p (k:Nat) (d:bg)
 |i (C:Addr) (fs:List (Str×(bg ⊕ V)))
def HasF(H:Hp):bg ⊕ V->V->Prop
 | .inl d,u=>Has H d u
 | .inr w,u=>u=w
def HasI(H:Hp)(C:Addr)(fs:List (Str×(bg ⊕ V)))(v:V):Prop:=∃a dx vs,v=.ref a/\H a=some (.ins C dx vs)/\(∀f,fs.lookup f=none->vs.lookup f=none)/\∀f e,fs.lookup f=some e->∃u,vs.lookup f=some u/\HasF H e u
theorem HasI.mono{H H':Hp}{C:Addr}{fs:List (Str×(bg ⊕ V))}{v:V}(s:Same H H')(q:HasI H C fs v):HasI H' C fs v:=by
 obtain⟨a,dx,vs,e,ha,hn,hf⟩:=q;refine⟨a,dx,vs,e,s _ _ ha,hn,fun f e l=>?_⟩;obtain⟨u,e1,e2⟩:=hf f e l;refine⟨u,e1,?_⟩;cases e with
 |inl d=>exact Has.mono s _ _ e2
 |inr w=>exact e2
def HasLP(h o:List Addr)(H:Hp)(k:Nat)(d:bg)(v:V):Prop:=∃t a u,v=.ref t/\o[k]?=some a/\vx h o H t=some (.tup [.ref a,u])/\Has (vx h o H) d u
theorem HasLP.to{h':List Addr}{k:Nat}{d:bg}{v:V}(s:Same (vx h o H) (vx h' o' H'))(e:∀a,o[k]?=some a->o'[k]?=some a)(q:HasLP h o H k d v):HasLP h' o' H' k d v:=by
 obtain⟨t,a,u,e1,e2,e3,e4⟩:=q;exact⟨t,a,u,e1,e a e2,s _ _ e3,Has.mono s _ _ e4⟩
def HasX(h o:List Addr)(H:Hp):XV->V->Prop
 | .d d,v=>Has (vx h o H) d v
 | .l k,v=>∃a,o[k]?=some a/\v=.ref a
 | .o w,v=>v=w
 | .x C fs,v=>HasE (vx h o H) C fs v
 | .p k d,v=>HasLP h o H k d v
 | .i C fs,v=>HasI (vx h o H) C fs v
theorem HasX.mono(e:Ex o H o' H'):∀{x:XV}{v:V},HasX h o H x v->HasX h o' H' x v
 | .d d,v,q=>Has.mono e.vx d v q
 | .l k,v,⟨a,q,r⟩=>by
  obtain⟨t,rfl⟩:=e.pre;exact⟨a,iU q,r⟩
 | .o w,v,q=>q
 | .x C fs,v,q=>HasE.mono e.vx q
 | .i C fs,v,q=>HasI.mono e.vx q
 | .p k d,v,q=>by
  have ev:=e.vx (h:=h);obtain⟨t,rfl⟩:=e.pre;exact HasLP.to ev (fun a z=>iU z) q
def HasXs(h o:List Addr)(H:Hp):List XV->List V->Prop
 | [],vs=>vs=[]
 |x::xs,vs=>∃v r,vs=v::r/\HasX h o H x v/\HasXs h o H xs r
abbrev Sto:=List (List bg)
inductive MO where
 |l (vs:List V)
 |k (m:List (Key×V))
 |t (m:List (List Key×V))
 |x (a:Addr) (ob:Obj)
def MO.ho:MO->HO
 | .l vs=>.lst vs
 | .k m=>.dK m
 | .t m=>.dT m
 | .x a ob=>obO a ob
structure RepS(h o:List Addr)(H:Hp)(S:Sto):Prop where
 len:S.length=o.length
 nd:o.Nodup
 dis:∀a∈o,a∉h
 hal:∀b∈h,∃u:MO,H b=some u.ho
 cont:∀(k:Nat) (a:Addr) (ds:List bg),o[k]?=some a->S[k]?=some ds->∃vs,H a=some (.lst vs)/\HasL (vx h o H) ds vs
theorem OG{α β:Type}{l:List α}{t:List β}{k:Nat}{a:α}(hl:t.length=l.length)(q:l[k]?=some a):∃b,t[k]?=some b:=by
 obtain⟨hk,_⟩:=List.getElem?_eq_some_iff.mp q;exact⟨t[k]'yw,dn _⟩
theorem RepS.oal(r:RepS h o H S):∀a∈o,∃u,H a=some (.lst u):=fun a ha=>by
 obtain⟨k,hk⟩:=mem_iff_getElem?.mp ha;obtain⟨ds,e⟩:=OG r.len hk;obtain⟨vs,e',_⟩:=r.cont k a ds hk e;exact⟨_,e'⟩
theorem RepS.oam(r:RepS h o H S):∀a∈o,∃u:MO,H a=some u.ho:=fun a ha=>let ⟨u,e⟩:=r.oal a ha;⟨.l u,e⟩
theorem RepS.fresh(r:RepS h o H S)(hp:H p=none):p∉h/\p∉o:=by
 constructor
 ·intro m;obtain⟨u,e⟩:=r.hal p m;rw[hp]at e;cases e
 ·intro m;obtain⟨u,e⟩:=r.oal p m;rw[hp]at e;cases e
theorem RepS.same(r:RepS h o H S)(s:Same H H'):RepS h o H' S where
 len:=r.len
 nd:=r.nd
 dis:=r.dis
 hal:=fun b m=>by obtain⟨u,e⟩:=r.hal b m;exact⟨u,s b _ e⟩
 cont:=fun k a ds e1 e2=>by
  obtain⟨vs,e3,l⟩:=r.cont k a ds e1 e2;exact⟨vs,s _ _ e3,HasL.mono (kY s) _ _ l⟩
theorem RepS.laid{u:HO}(r:RepS h o H S)(hp:H p=none):vx h o (upd H p u) p=some u:=by
 obtain⟨h1,h2⟩:=r.fresh hp;exact zU.mpr ⟨h1,h2,zQ⟩
theorem Ex.new{u:HO}(r:RepS h o H S)(hp:H p=none):Ex o H (o++[p]) (upd H p u):=by
 refine⟨⟨[p],rfl⟩,fun b w hb e=>?_⟩;have ne:b≠p:=zO e hp;exact⟨by simp[hb,ne],by rw[zL ne];exact e⟩
theorem nL{α:Type}{l:List α}{a:α}(h:l.Nodup)(n:a∉l):(l++[a]).Nodup:=by
 rw[nodup_append];refine⟨h,yv,fun x hx y hy e=>?_⟩;rw[mem_singleton]at hy;subst hy;subst e;exact n hx
theorem RepS.new{ds:List bg}{vs:List V}(r:RepS h o H S)(hp:H p=none)(l:HasL (vx h o H) ds vs):RepS h (o++[p]) (upd H p (.lst vs)) (S++[ds]):=by
 obtain⟨h1,h2⟩:=r.fresh hp;have ex:Ex o H (o++[p]) (upd H p (.lst vs)):=Ex.new r hp;refine⟨by simp[r.len],nL r.nd h2,fun a ha=>?_,fun b hb=>?_,fun k a es e1 e2=>?_⟩
 ·rcases mem_append.mp ha with ha|ha
  ·exact r.dis a ha
  ·rw[mem_singleton.mp ha];exact h1
 ·obtain⟨u,e⟩:=r.hal b hb;exact⟨u,by rw[zL (zO e hp)];exact e⟩
 ·by_cases hk:k<o.length
  ·rw[fq hk]at e1;rw[fq (by rw[r.len];exact hk)]at e2;obtain⟨ws,e3,l3⟩:=r.cont k a es e1 e2;refine⟨ws,?_,l3.mono ex.vx⟩;rw[zL (zO e3 hp)];exact e3
  ·have aa:k=o.length:=by
    obtain⟨q,_⟩:=List.getElem?_eq_some_iff.mp e1;rw[cq,gb]at q;omega
   subst aa;rw[ck]at e1;rw[<- r.len,ck]at e2;cases e1;cases e2;exact⟨vs,zQ,l.mono ex.vx⟩
theorem Ex.upd{k:Nat}{u:HO}(e:o[k]?=some a):Ex o H o (L2.upd H a u):=
 ⟨⟨[],yv⟩,fun b w hb eb=>⟨hb,by rw[zL (fun z=>hb (by rw[z];exact dh e))];exact eb⟩⟩
theorem qZ{l:List Addr}(h:l.Nodup){i j:Nat}{a:Addr}(e1:l[i]?=some a)(e2:l[j]?=some a):i=j:=by
 obtain⟨hi,e1⟩:=List.getElem?_eq_some_iff.mp e1;obtain⟨hj,e2⟩:=List.getElem?_eq_some_iff.mp e2;exact(List.getElem_inj h).mp (e1.trans e2.symm)
theorem RepS.upd{k:Nat}{ds:List bg}{vs:List V}(r:RepS h o H S)(e:o[k]?=some a)(l:HasL (vx h o H) ds vs):RepS h o (L2.upd H a (.lst vs)) (S.set k ds):=by
 have ex:Ex o H o (L2.upd H a (.lst vs)):=Ex.upd e;refine⟨by simp[r.len],r.nd,r.dis,fun b hb=>?_,fun j b es e1 e2=>?_⟩
 ·obtain⟨u,eb⟩:=r.hal b hb;have ne:b≠a:=fun z=>r.dis a (dh e) (z▸hb);exact⟨u,by rw[zL ne];exact eb⟩
 ·by_cases hj:j=k
  ·subst hj;rw[e1]at e;cases e;obtain⟨hk,_⟩:=List.getElem?_eq_some_iff.mp e1;rw[qp (by rw[r.len];exact hk)]at e2;cases e2;exact⟨vs,zQ,l.mono ex.vx⟩
  ·rw[rn (gj hj)]at e2;obtain⟨ws,e3,l3⟩:=r.cont j b es e1 e2;have ne:b≠a:=fun z=>hj (qZ r.nd e1 (z▸e));exact⟨ws,by rw[zL ne];exact e3,l3.mono ex.vx⟩
abbrev XE:=List (Option XV)
structure RepE(h o:List Addr)(H:Hp)(δ:XE)(σ:St):Prop where
 len:δ.length=σ.length
 get:∀(i:Nat) x,δ[i]?=some (some x)->∃v,σ[i]?=some (some v)/\HasX h o H x v
variable {δ:XE}{σ:St}
theorem RepE.mono(r:RepE h o H δ σ)(e:Ex o H o' H'):RepE h o' H' δ σ:=⟨r.len,fun i x q=>by
 obtain⟨v,e1,e2⟩:=r.get i x q;exact⟨v,e1,e2.mono e⟩⟩
theorem RepE.set{i:Nat}{x:XV}{v:V}(r:RepE h o H δ σ)(q:HasX h o H x v):RepE h o H (δ.set i (some x)) (σ.set i (some v)):=by
 refine⟨by simp[r.len],fun j y e=>?_⟩;rw[getElem?_set]at e ⊢;by_cases hij:i=j
 ·rw[cm hij]at e ⊢;by_cases hl:i<δ.length
  ·rw[cm hl]at e;rw[cm (by rw[<- r.len];exact hl)];cases e;exact⟨v,rfl,q⟩
  ·rw[cb hl]at e;cases e
 ·rw[cb hij]at e ⊢;exact r.get j y e
def gM(caps:List (Option Nat))(δ:XE):XE:=caps.map fun o=>o.bind fun i=>(δ[i]?).join
theorem RepE.tau{caps:List (Option Nat)}(r:RepE h o H δ σ):RepE h o H (gM caps δ) (L2.tau caps σ):=by
 refine⟨by simp[gM,L2.tau],fun i x e=>?_⟩;unfold gM at e;unfold L2.tau;rw[gx]at e ⊢;cases hc:caps[i]? with
 |none=>rw[hc]at e;cases e
 |some c=>
  rw[hc]at e;cases c with
  |none=>cases e
  |some j=>
   have e':(δ[j]?).join=some x:=by simpa using e
   have e2:δ[j]?=some (some x):=by
    cases hd:δ[j]? with
    |none=>rw[hd]at e';cases e'
    |some y=>rw[hd]at e';exact congrArg some (by simpa using e')
   obtain⟨v,e3,e4⟩:=r.get j x e2;exact⟨v,by simp[e3],e4⟩
end
abbrev RX:=XV->Sto->Prop
abbrev DE:=XE->Sto->RX->Prop
abbrev DT:=XE->Sto->(Bool->Sto->Prop)->Prop
abbrev DA:=XE->Sto->(List XV->Sto->Prop)->Prop
abbrev D2:=XV->XV->Sto->RX->Prop
def Cn(h o:List Addr)(H:Hp)(R:RX)(Q:VK):Prop:=∀o' H' S' x v,Ex o H o' H'->RepS h o' H' S'->HasX h o' H' x v->R x S'->Q v H'
theorem Cn.pre{h o o':List Addr}{H H':Hp}{R:RX}{Q:VK}(c:Cn h o H R Q)(e:Ex o H o' H'):Cn h o' H' R Q:=fun o2 H2 S2 x v e2=>c o2 H2 S2 x v (e.trans e2)
def RE(t:TE)(dt:DE):Prop:=∀(h o:List Addr) (H:Hp) (δ:XE) (σ:St) (S:Sto) (R:RX) (Q:VK),RepE h o H δ σ->RepS h o H S->dt δ S R->Cn h o H R Q->t σ H Q
def RT(t:TT)(dt:DT):Prop:=∀(h o:List Addr) (H:Hp) (δ:XE) (σ:St) (S:Sto) (R:Bool->Sto->Prop) (Q:Bool->Hp->Prop),RepE h o H δ σ->RepS h o H S->dt δ S R ->
 (∀o' H' S' b,Ex o H o' H'->RepS h o' H' S'->R b S'->Q b H')->t σ H Q
def RA(t:TA)(dt:DA):Prop:=∀(h o:List Addr) (H:Hp) (δ:XE) (σ:St) (S:Sto) (R:List XV->Sto->Prop) (Q:List V->Hp->Prop),RepE h o H δ σ->RepS h o H S->dt δ S R ->
 (∀o' H' S' xs vs,Ex o H o' H'->RepS h o' H' S'->HasXs h o' H' xs vs->R xs S'->Q vs H')->t σ H Q
def RO(r:R2)(rd:D2):Prop:=∀(h o:List Addr) (H:Hp) (S:Sto) (x y:XV) (v u:V) (R:RX) (Q:VK),RepS h o H S->HasX h o H x v->HasX h o H y u->rd x y S R->Cn h o H R Q->r v u H Q
def RU(r:V->Hp->VK->Prop)(rd:XV->Sto->RX->Prop):Prop:=∀(h o:List Addr) (H:Hp) (S:Sto) (x:XV) (v:V) (R:RX) (Q:VK),RepS h o H S->HasX h o H x v->rd x S R->Cn h o H R Q->r v H Q
def RC(r:List V->Hp->VK->Prop)(rd:List XV->Sto->RX->Prop):Prop:=∀(h o:List Addr) (H:Hp) (S:Sto) (xs:List XV) (vs:List V) (R:RX) (Q:VK),RepS h o H S->HasXs h o H xs vs->rd xs S R->Cn h o H R Q->r vs H Q
def asI:XV->(Int->Prop)->Prop
 | .d (.int i),k=>k i
 |_,_=>False
def asB:XV->(Bool->Prop)->Prop
 | .d (.bool i),k=>k i
 |_,_=>False
def asS:XV->(Str->Prop)->Prop
 | .d (.str i),k=>k i
 |_,_=>False
def asT:XV->(List bg->Prop)->Prop
 | .d (.tuple i),k=>k i
 |_,_=>False
def eJ(S:Sto):XV->Option (List bg)
 | .d (.list ds)=>some ds
 | .l k=>S[k]?
 |_=>none
def asL(S:Sto)(x:XV)(k:List bg->Prop):Prop:=∃ds,eJ S x=some ds/\k ds
def cM(S:Sto):XV->Option bg
 | .d d=>some d
 | .l k=>(S[k]?).map .list
 | .o _=>none
 | .x _ _=>none
 | .p k d=>(S[k]?).map fun l=>.tuple [.list l,d]
 | .i _ _=>none
def asD(x:XV)(k:bg->Prop):Prop:=match x with
 | .d d=>k d
 |_=>False
theorem bU{x:XV}{k:Int->Prop}(h:asI x k):∃i,x=.d (.int i)/\k i:=by
 unfold asI at h;split at h
 ·exact⟨_,rfl,h⟩
 ·exact h.elim
theorem p9{x:XV}{k:Bool->Prop}(h:asB x k):∃i,x=.d (.bool i)/\k i:=by
 unfold asB at h;split at h
 ·exact⟨_,rfl,h⟩
 ·exact h.elim
theorem eX{x:XV}{k:Str->Prop}(h:asS x k):∃i,x=.d (.str i)/\k i:=by
 unfold asS at h;split at h
 ·exact⟨_,rfl,h⟩
 ·exact h.elim
theorem p6{x:XV}{k:List bg->Prop}(h:asT x k):∃i,x=.d (.tuple i)/\k i:=by
 unfold asT at h;split at h
 ·exact⟨_,rfl,h⟩
 ·exact h.elim
theorem jW{x:XV}{k:bg->Prop}(h:asD x k):∃i,x=.d i/\k i:=by
 unfold asD at h;split at h
 ·exact⟨_,rfl,h⟩
 ·exact h.elim
section
variable {h o:List Addr}{H:Hp}{S:Sto}{x:XV}{v:V}{i:Int}{b:Bool}{z:Str}{ds:List bg}{d:bg}
theorem bD(q:HasX h o H (.d (.int i)) v):v=.int i:=(f7 (H:=vx h o H)).mp q
theorem kE(q:HasX h o H (.d (.bool b)) v):v=.bl b:=(jM (H:=vx h o H)).mp q
theorem cI(q:HasX h o H (.d (.str z)) v):v=.str z:=(gD (H:=vx h o H)).mp q
theorem jG(q:HasX h o H (.d (.tuple ds)) v):∃a vs,v=.ref a/\H a=some (.tup vs)/\HasL (vx h o H) ds vs:=by
 obtain⟨a,vs,e,q,l⟩:=dG.mp (show Has _ _ _ from q);exact⟨a,vs,e,bQ _ _ q,l⟩
theorem c9(r:RepS h o H S)(e:eJ S x=some ds)(q:HasX h o H x v):∃a vs,v=.ref a/\H a=some (.lst vs)/\HasL (vx h o H) ds vs:=by
 unfold eJ at e;split at e
 ·cases e;obtain⟨a,vs,e,q,l⟩:=dS.mp (show Has _ _ _ from q);exact⟨a,vs,e,bQ _ _ q,l⟩
 ·obtain⟨a,e1,rfl⟩:=q;obtain⟨vs,e2,l⟩:=r.cont _ a ds e1 e;exact⟨a,vs,rfl,e2,l⟩
 ·cases e
theorem fP(r:RepS h o H S)(e:cM S x=some d)(q:HasX h o H x v):Has H d v:=by
 unfold cM at e;split at e
 ·cases e;exact Has.mono bQ _ _ q
 ·rename_i k;obtain⟨a,e1,rfl⟩:=q;cases hs:S[k]? with
  |none=>rw[hs]at e;cases e
  |some es=>
   rw[hs]at e;cases e;obtain⟨vs,e2,l⟩:=r.cont k a es e1 hs;exact dS.mpr ⟨a,vs,rfl,e2,HasL.mono bQ _ _ l⟩
 ·cases e
 ·cases e
 ·rename_i k d';obtain⟨t,a,u,rfl,e1,e3,e4⟩:=q;cases hs:S[k]? with
  |none=>rw[hs]at e;cases e
  |some es=>
   rw[hs]at e;cases e;obtain⟨vs,e2,l⟩:=r.cont k a es e1 hs;exact dG.mpr ⟨t,_,rfl,bQ _ _ e3,zu.mpr ⟨_,_,rfl,dS.mpr ⟨a,vs,rfl,e2,HasL.mono bQ _ _ l⟩,zu.mpr ⟨u,_,rfl,Has.mono bQ _ _ e4,zE.mpr rfl⟩⟩⟩
 ·cases e
theorem xI(i:Int):HasX h o H (.d (.int i)) (.int i):=(f7 (H:=vx h o H)).mpr rfl
theorem xB(i:Bool):HasX h o H (.d (.bool i)) (.bl i):=(jM (H:=vx h o H)).mpr rfl
theorem xS(i:Str):HasX h o H (.d (.str i)) (.str i):=(gD (H:=vx h o H)).mpr rfl
theorem xN:HasX h o H (.d .none) .non:=(nE (H:=vx h o H)).mpr rfl
theorem uO{vs:List V}{R:RX}{Q:VK}(r:RepS h o H S)(l:HasL (vx h o H) ds vs)(c:Cn h o H R Q)(q:R (.d (.tuple ds)) S):∀p,H p=none->Q (.ref p) (upd H p (.tup vs)):=fun p hp=>
 c o _ S (.d (.tuple ds)) _ (Ex.of_same (Same.laid hp)) (r.same (Same.laid hp)) (dG.mpr ⟨p,vs,rfl,r.laid hp,l.mono (kY (Same.laid hp))⟩) q
theorem lC{vs:List V}{R:RX}{Q:VK}(r:RepS h o H S)(l:HasL (vx h o H) ds vs)(c:Cn h o H R Q)(q:R (.d (.list ds)) S):∀p,H p=none->Q (.ref p) (upd H p (.lst vs)):=fun p hp=>
 c o _ S (.d (.list ds)) _ (Ex.of_same (Same.laid hp)) (r.same (Same.laid hp)) (dS.mpr ⟨p,vs,rfl,r.laid hp,l.mono (kY (Same.laid hp))⟩) q
theorem Fa{vs:List V}{R:RX}{Q:VK}(r:RepS h o H S)(l:HasL (vx h o H) ds vs)(c:Cn h o H R Q)(q:R (.l S.length) (S++[ds])):∀p,H p=none->Q (.ref p) (upd H p (.lst vs)):=fun p hp=>
 c (o++[p]) _ (S++[ds]) (.l S.length) _ (Ex.new r hp) (r.new hp l) ⟨p,by rw[r.len,ck],rfl⟩ q
theorem lZ:∀{xs:List XV}{vs:List V}{ds:List bg},HasXs h o H xs vs->xs=ds.map XV.d->HasL (vx h o H) ds vs
 | [],vs,[],q,_=>zE.mpr q
 |x::xs,vs,d::ds,⟨v,r,e,q,l⟩,e2=>by
  rw[gk]at e2;cases e2;exact zu.mpr ⟨v,r,e,q,lZ l rfl⟩
 |x::xs,vs,[],_,e2=>by cases e2
 | [],vs,d::ds,_,e2=>by cases e2
end
def datas:List XV->Option (List bg)
 | []=>some []
 | .d d::r=>(datas r).map (d :: ·)
 |_::_=>none
theorem fF:∀{xs:List XV}{ds:List bg},datas xs=some ds->xs=ds.map XV.d
 | [],ds,e=>by cases e;rfl
 | .d d::r,ds,e=>by
  unfold datas at e;cases hr:datas r with
  |none=>rw[hr]at e;cases e
  |some es=>
   rw[hr]at e;cases e;rw[fF hr];rfl
 | .l _::_,_,e=>by cases e
 | .o _::_,_,e=>by cases e
 | .x _ _::_,_,e=>by cases e
 | .p _ _::_,_,e=>by cases e
 | .i _ _::_,_,e=>by cases e
def zh(i:Nat):DE:=fun δ S R=>∃x,δ[i]?=some (some x)/\R x S
def dC(d:bg):DE:=fun _ S R=>R (.d d) S
def dO(v:V):DE:=fun _ S R=>R (.o v) S
def dOp(rd:D2)(a b:DE):DE:=fun δ S R=>a δ S fun x S1=>b δ S1 fun y S2=>rd x y S2 R
def dUn(rd:XV->Sto->RX->Prop)(a:DE):DE:=fun δ S R=>a δ S fun x S1=>rd x S1 R
def zp:DA:=fun _ S R=>R [] S
def zc(a:DE)(b:DA):DA:=fun δ S R=>a δ S fun x S1=>b δ S1 fun xs S2=>R (x::xs) S2
def dCB(rd:List XV->Sto->RX->Prop)(a:DA):DE:=fun δ S R=>a δ S fun xs S1=>rd xs S1 R
def bJ(a:DA):DE:=fun δ S R=>a δ S fun xs S1=>∃ds,datas xs=some ds/\ds.length<=1000/\R (.d (.tuple ds)) S1
def aT(a:DA):DE:=fun δ S R=>a δ S fun xs S1=>∃ds,datas xs=some ds/\ds.length<=1000/\R (.d (.list ds)) S1
def dR(a:DA):DE:=fun δ S R=>a δ S fun xs S1=>∃ds,datas xs=some ds/\ds.length<=1000/\R (.l S1.length) (S1++[ds])
section
variable {t ta tb tc:TE}{da db dc:DE}{tl:TA}{dl:DA}{tt tu:TT}{dt du:DT}
theorem zv{i:Nat}:RE (f6 i) (zh i):=fun h o H δ σ S R Q he hs ⟨x,e,q⟩ c=>by
 obtain⟨v,e1,e2⟩:=he.get i x e;exact⟨v,e1,c o H S x v Ex.refl hs e2 q⟩
theorem aV{i:Int}:RE (tC (.int i)) (dC (.int i)):=fun h o H δ σ S R Q he hs q c=>c o H S _ _ Ex.refl hs (xI i) q
theorem gZ{i:Bool}:RE (tC (.bl i)) (dC (.bool i)):=fun h o H δ σ S R Q he hs q c=>c o H S _ _ Ex.refl hs (xB i) q
theorem aO{i:Str}:RE (tC (.str i)) (dC (.str i)):=fun h o H δ σ S R Q he hs q c=>c o H S _ _ Ex.refl hs (xS i) q
theorem vG:RE (tC .non) (dC .none):=fun h o H δ σ S R Q he hs q c=>c o H S _ _ Ex.refl hs xN q
theorem Jq{v:V}:RE (tC v) (dO v):=fun h o H δ σ S R Q he hs q c=>c o H S (.o v) v Ex.refl hs rfl q
theorem aM{r:R2}{rd:D2}(hr:RO r rd)(ha:RE ta da)(hb:RE tb db):RE (tOp r ta tb) (dOp rd da db):=fun h o H δ σ S R Q he hs q c=>
 ha h o H δ σ S _ _ he hs q fun o1 H1 S1 x v e1 s1 x1 d1=>hb h o1 H1 δ σ S1 _ _ (he.mono e1) s1 d1 fun o2 H2 S2 y u e2 s2 y2 d2=>
  hr h o2 H2 S2 x y v u R Q s2 (x1.mono e2) y2 d2 (c.pre (e1.trans e2))
theorem KB{r:V->Hp->VK->Prop}{rd:XV->Sto->RX->Prop}(hr:RU r rd)(ha:RE ta da):RE (tUn r ta) (dUn rd da):=fun h o H δ σ S R Q he hs q c=>
 ha h o H δ σ S _ _ he hs q fun o1 H1 S1 x v e1 s1 x1 d1=>hr h o1 H1 S1 x v R Q s1 x1 d1 (c.pre e1)
theorem zK:RA nY zp:=fun h o H δ σ S R Q he hs q c=>c o H S [] [] Ex.refl hs rfl q
theorem zm(ha:RE ta da)(hb:RA tl dl):RA (fQ ta tl) (zc da dl):=fun h o H δ σ S R Q he hs q c=>
 ha h o H δ σ S _ _ he hs q fun o1 H1 S1 x v e1 s1 x1 d1=>hb h o1 H1 δ σ S1 _ _ (he.mono e1) s1 d1 fun o2 H2 S2 xs vs e2 s2 x2 d2=>
  c o2 H2 S2 (x::xs) (v::vs) (e1.trans e2) s2 ⟨v,vs,rfl,x1.mono e2,x2⟩ d2
theorem dF{r:List V->Hp->VK->Prop}{rd:List XV->Sto->RX->Prop}(hr:RC r rd)(ha:RA tl dl):RE (tCB r tl) (dCB rd dl):=fun h o H δ σ S R Q he hs q c=>
 ha h o H δ σ S _ _ he hs q fun o1 H1 S1 xs vs e1 s1 x1 d1=>hr h o1 H1 S1 xs vs R Q s1 x1 d1 (c.pre e1)
theorem Bf(ha:RA tl dl):RE (wB tl) (bJ dl):=fun h o H δ σ S R Q he hs q c=>
 ha h o H δ σ S _ _ he hs q fun o1 H1 S1 xs vs e1 s1 x1 ⟨ds,e,hl,d1⟩=>by
  have l:=lZ x1 (fF e);exact⟨by rw[l.length];exact lg (small1000 hl),uO s1 l (c.pre e1) d1⟩
theorem gF(ha:RA tl dl):RE (kC tl) (aT dl):=fun h o H δ σ S R Q he hs q c=>
 ha h o H δ σ S _ _ he hs q fun o1 H1 S1 xs vs e1 s1 x1 ⟨ds,e,hl,d1⟩=>by
  have l:=lZ x1 (fF e);exact⟨by rw[l.length];exact lg (small1000 hl),lC s1 l (c.pre e1) d1⟩
theorem Ih(ha:RA tl dl):RE (kC tl) (dR dl):=fun h o H δ σ S R Q he hs q c=>
 ha h o H δ σ S _ _ he hs q fun o1 H1 S1 xs vs e1 s1 x1 ⟨ds,e,hl,d1⟩=>by
  have l:=lZ x1 (fF e);exact⟨by rw[l.length];exact lg (small1000 hl),Fa s1 l (c.pre e1) d1⟩
def dB(a:DE):DT:=fun δ S R=>a δ S fun x S1=>asB x fun b=>R b S1
def aZ(a:DT):DT:=fun δ S R=>a δ S fun b S1=>R (!b) S1
def eI(a b:DT):DT:=fun δ S R=>a δ S fun x S1=>if x=true then b δ S1 R else R false S1
def dOr(a b:DT):DT:=fun δ S R=>a δ S fun x S1=>if x=true then R true S1 else b δ S1 R
def cS(a b:DE):DE:=fun δ S R=>a δ S fun x S1=>asB x fun c=>if c=true then b δ S1 R else R (.d (.bool false)) S1
def p0(a b:DE):DE:=fun δ S R=>a δ S fun x S1=>asB x fun c=>if c=true then R (.d (.bool true)) S1 else b δ S1 R
def kM(a:DE):DE:=fun δ S R=>a δ S fun x S1=>asB x fun c=>R (.d (.bool (!c))) S1
def dIf(c:DT)(a b:DE):DE:=fun δ S R=>c δ S fun x S1=>if x=true then a δ S1 R else b δ S1 R
theorem kI(ha:RE ta da):RT (oS ta) (dB da):=fun h o H δ σ S R Q he hs q c=>
 ha h o H δ σ S _ _ he hs q fun o1 H1 S1 x v e1 s1 x1 d1=>by
  replace d1:=p9 d1;obtain⟨b,rfl,d1⟩:=d1;exact⟨b,kE x1,c o1 H1 S1 b e1 s1 d1⟩
theorem mS(ha:RT tt dt):RT (Ek tt) (aZ dt):=fun h o H δ σ S R Q he hs q c=>
 ha h o H δ σ S _ _ he hs q fun o1 H1 S1 b e1 s1 d1=>c o1 H1 S1 _ e1 s1 d1
theorem B7(ha:RT tt dt)(hb:RT tu du):RT (CG tt tu) (eI dt du):=fun h o H δ σ S R Q he hs q c=>
 ha h o H δ σ S _ _ he hs q fun o1 H1 S1 b e1 s1 d1=>by
  cases b with
  |true=>exact gG (hb h o1 H1 δ σ S1 R Q (he.mono e1) s1 (by simpa using d1) fun o2 H2 S2 b e2=>c o2 H2 S2 b (e1.trans e2))
  |false=>exact gL (c o1 H1 S1 false e1 s1 (by simpa using d1))
theorem rL(ha:RT tt dt)(hb:RT tu du):RT (tOr tt tu) (dOr dt du):=fun h o H δ σ S R Q he hs q c=>
 ha h o H δ σ S _ _ he hs q fun o1 H1 S1 b e1 s1 d1=>by
  cases b with
  |false=>exact gL (hb h o1 H1 δ σ S1 R Q (he.mono e1) s1 (by simpa using d1) fun o2 H2 S2 b e2=>c o2 H2 S2 b (e1.trans e2))
  |true=>exact gG (c o1 H1 S1 true e1 s1 (by simpa using d1))
theorem tO(ha:RE ta da)(hb:RE tb db):RE (BZ ta tb) (cS da db):=fun h o H δ σ S R Q he hs q c=>
 ha h o H δ σ S _ _ he hs q fun o1 H1 S1 x v e1 s1 x1 d1=>by
  replace d1:=p9 d1;obtain⟨b,rfl,d1⟩:=d1;refine⟨b,kE x1,?_⟩;cases b with
  |true=>exact gG (hb h o1 H1 δ σ S1 R Q (he.mono e1) s1 (by simpa using d1) (c.pre e1))
  |false=>exact gL (c o1 H1 S1 _ _ e1 s1 (xB false) (by simpa using d1))
theorem Ix(ha:RE ta da):RE (FX ta) (kM da):=fun h o H δ σ S R Q he hs q c=>
 ha h o H δ σ S _ _ he hs q fun o1 H1 S1 x v e1 s1 x1 d1=>by
  replace d1:=p9 d1;obtain⟨b,rfl,d1⟩:=d1;exact⟨b,kE x1,c o1 H1 S1 _ _ e1 s1 (xB _) d1⟩
theorem xY(hc:RT tt dt)(ha:RE ta da)(hb:RE tb db):RE (tIf tt ta tb) (dIf dt da db):=fun h o H δ σ S R Q he hs q c=>
 hc h o H δ σ S _ _ he hs q fun o1 H1 S1 b e1 s1 d1=>by
  cases b with
  |true=>exact gG (ha h o1 H1 δ σ S1 R Q (he.mono e1) s1 (by simpa using d1) (c.pre e1))
  |false=>exact gL (hb h o1 H1 δ σ S1 R Q (he.mono e1) s1 (by simpa using d1) (c.pre e1))
def fH(rd aa:D2)(a b e:DE):DE:=fun δ S R=>a δ S fun x S1=>b δ S1 fun y S2=>rd x y S2 fun z S3=>asB z fun k=>if k=true then e δ S3 fun u S4=>aa y u S4 R else R (.d (.bool false)) S3
theorem JI{r r':R2}{rd aa:D2}(hr:RO r rd)(ac:RO r' aa)(ha:RE ta da)(hb:RE tb db)(hc:RE tc dc):RE (yF r r' ta tb tc) (fH rd aa da db dc):=fun h o H δ σ S R Q he hs q c=>
 ha h o H δ σ S _ _ he hs q fun o1 H1 S1 x v e1 s1 x1 d1=>hb h o1 H1 δ σ S1 _ _ (he.mono e1) s1 d1 fun o2 H2 S2 y u e2 s2 y2 d2=>
  hr h o2 H2 S2 x y v u _ _ s2 (x1.mono e2) y2 d2 fun o3 H3 S3 z w e3 s3 z3 d3=>by
   replace d3:=p9 d3;obtain⟨b,rfl,d3⟩:=d3;refine⟨b,kE z3,?_⟩;cases b with
   |false=>exact gL (c o3 H3 S3 _ _ ((e1.trans e2).trans e3) s3 (xB false) (by simpa using d3))
   |true=>exact gG (hc h o3 H3 δ σ S3 _ _ (((he.mono e1).mono e2).mono e3) s3 (by simpa using d3) fun o4 H4 S4 k w' e4 s4 k4 d4=>ac h o4 H4 S4 y k u w' R Q s4 ((y2.mono e3).mono e4) k4 d4 (c.pre (((e1.trans e2).trans e3).trans e4)))
end
def dI(C:Int->Int->Prop)(g:Int->Int->Int):D2:=fun x y S R=>asI x fun i=>asI y fun j=>C i j/\R (.d (.int (g i j))) S
def dI0(g:Int->Int->Int):D2:=fun x y S R=>asI x fun i=>asI y fun j=>R (.d (.int (g i j))) S
def dIb(g:Int->Int->Bool):D2:=fun x y S R=>asI x fun i=>asI y fun j=>R (.d (.bool (g i j))) S
def dUI(g:Int->Int):XV->Sto->RX->Prop:=fun x S R=>asI x fun i=>R (.d (.int (g i))) S
def aH:D2:=fun x y S R=>∃d,cM S x=some d/\∃e,cM S y=some e/\dy d=true/\dy e=true/\R (.d (.bool (jc d e))) S
def eA:D2:=fun x y S R=>∃d,cM S x=some d/\∃e,cM S y=some e/\dy d=true/\dy e=true/\R (.d (.bool (!PyData.eqv d e))) S
def lB:D2:=fun x _ S R=>asD x fun d=>R (.d (.bool (jY d))) S
def kG:D2:=fun x _ S R=>asD x fun d=>R (.d (.bool (!jY d))) S
def IE:D2:=fun x y S R=>asT x fun ds=>asI y fun i=>∃d,atI ds i=some d/\R (.d d) S
def OX:D2:=fun x y S R=>asL S x fun ds=>asI y fun i=>∃d,atI ds i=some d/\R (.d d) S
def PC:D2:=fun x y S R=>asL S x fun ds=>asL S y fun es=>ds.length+es.length<=1000/\R (.d (.list (ds++es))) S
def N4:D2:=fun x y S R=>asT x fun ds=>asT y fun es=>ds≠[]/\ds.length+es.length<=1000/\R (.d (.tuple (ds++es))) S
section
theorem mF{C:Int->Int->Prop}{g:Int->Int->Int}:RO (rI C fun i j=>.int (g i j)) (dI C g):=fun h o H S x y v u R Q hs hx hy q c=>by
 replace q:=bU q;obtain⟨i,rfl,q⟩:=q;replace q:=bU q;obtain⟨j,rfl,hc,q⟩:=q;exact⟨i,j,bD hx,bD hy,hc,c o H S _ _ Ex.refl hs (xI _) q⟩
theorem Cd{g:Int->Int->Int}:RO (rI0 fun i j=>.int (g i j)) (dI0 g):=fun h o H S x y v u R Q hs hx hy q c=>by
 replace q:=bU q;obtain⟨i,rfl,q⟩:=q;replace q:=bU q;obtain⟨j,rfl,q⟩:=q;exact⟨i,j,bD hx,bD hy,c o H S _ _ Ex.refl hs (xI _) q⟩
theorem y0{g:Int->Int->Bool}:RO (rI0 fun i j=>.bl (g i j)) (dIb g):=fun h o H S x y v u R Q hs hx hy q c=>by
 replace q:=bU q;obtain⟨i,rfl,q⟩:=q;replace q:=bU q;obtain⟨j,rfl,q⟩:=q;exact⟨i,j,bD hx,bD hy,c o H S _ _ Ex.refl hs (xB _) q⟩
theorem MG{g:Int->Int}:RU (rU fun i=>.int (g i)) (dUI g):=fun h o H S x v R Q hs hx q c=>by
 replace q:=bU q;obtain⟨i,rfl,q⟩:=q;exact⟨i,bD hx,c o H S _ _ Ex.refl hs (xI _) q⟩
theorem v8:RO Gi aH:=fun h o H S x y v u R Q hs hx hy q c=>by
 obtain⟨d,q1,e,q2,q3,q4,q⟩:=q;exact⟨d,e,fP hs q1 hx,fP hs q2 hy,q3,q4,c o H S _ _ Ex.refl hs (xB _) q⟩
theorem yV:RO Ed eA:=fun h o H S x y v u R Q hs hx hy q c=>by
 obtain⟨d,q1,e,q2,q3,q4,q⟩:=q;exact⟨d,e,fP hs q1 hx,fP hs q2 hy,q3,q4,c o H S _ _ Ex.refl hs (xB _) q⟩
theorem Hb{ta:TE}{da:DE}(ha:RE ta da):RE (tOp EY ta (tC .non)) (dOp lB da (dC .none)):=fun h o H δ σ S R Q he hs q c=>
 ha h o H δ σ S _ _ he hs q fun o1 H1 S1 x v e1 s1 x1 d1=>by
  replace d1:=jW d1;obtain⟨d,rfl,d1⟩:=d1;have e:=Ce (show Has _ d v from x1);exact⟨rfl,by rw[e];exact c o1 H1 S1 _ _ e1 s1 (xB _) d1⟩
theorem IA{ta:TE}{da:DE}(ha:RE ta da):RE (tOp GS ta (tC .non)) (dOp kG da (dC .none)):=fun h o H δ σ S R Q he hs q c=>
 ha h o H δ σ S _ _ he hs q fun o1 H1 S1 x v e1 s1 x1 d1=>by
  replace d1:=jW d1;obtain⟨d,rfl,d1⟩:=d1;have e:=Ce (show Has _ d v from x1);exact⟨rfl,by rw[e];exact c o1 H1 S1 _ _ e1 s1 (xB _) d1⟩
theorem HasL.atI{H:Hp}{ds:List bg}{vs:List V}{i:Int}{d:bg}(l:HasL H ds vs)(e:L2.atI ds i=some d):∃v,L2.atI vs i=some v/\Has H d v:=by
 unfold L2.atI at e ⊢;rw[l.length];cases hn:ixN ds.length i with
 |none=>rw[hn]at e;cases e
 |some j=>
  rw[hn]at e;exact l.get (show ds[j]?=some d from e)
theorem Lz{K:bt}:RO (x6 K) IE:=fun h o H S x y v u R Q hs hx hy q c=>by
 replace q:=p6 q;obtain⟨ds,rfl,q⟩:=q;replace q:=bU q;obtain⟨i,rfl,d,e,q⟩:=q;obtain⟨a,vs,rfl,ea,l⟩:=jG hx;obtain⟨w,ew,hw⟩:=l.atI e;exact⟨a,vs,i,w,rfl,bD hy,.of ea,ew,c o H S (.d d) w Ex.refl hs hw q⟩
theorem D5{K:bt}:RO (AD K) OX:=fun h o H S x y v u R Q hs hx hy q c=>by
 obtain⟨ds,e0,q⟩:=q;replace q:=bU q;obtain⟨i,rfl,d,e,q⟩:=q;obtain⟨a,vs,rfl,ea,l⟩:=c9 hs e0 hx;obtain⟨w,ew,hw⟩:=l.atI e;exact⟨a,vs,i,w,rfl,bD hy,.of ea,ew,c o H S (.d d) w Ex.refl hs hw q⟩
theorem ON:RO oV PC:=fun h o H S x y v u R Q hs hx hy q c=>by
 obtain⟨ds,e0,es,e1,hl,q⟩:=q;obtain⟨a,vs,rfl,ea,la⟩:=c9 hs e0 hx;obtain⟨b,us,rfl,eb,lb⟩:=c9 hs e1 hy;exact⟨a,b,vs,us,rfl,rfl,ea,eb,by rw[la.length,lb.length];exact lg (small1000 hl),lC hs (la.append lb) c q⟩
theorem L5{K:bt}:RO (y9 K) N4:=fun h o H S x y v u R Q hs hx hy q c=>by
 replace q:=p6 q;obtain⟨ds,rfl,q⟩:=q;replace q:=p6 q;obtain⟨es,rfl,hn,hl,q⟩:=q;obtain⟨a,vs,rfl,ea,la⟩:=jG hx;obtain⟨b,us,rfl,eb,lb⟩:=jG hy;refine⟨a,b,vs,us,rfl,rfl,.of ea,.of eb,fun z=>?_,by rw[la.length,lb.length];exact lg (small1000 hl),fun z=>?_,fun _=>uO hs (la.append lb) c q⟩
 ·subst z;have:=la.length;exact hn (gm this.symm)
 ·subst z;have e:es=[]:=gm lb.length.symm;subst e;rw[jf]at q;exact c o H S (.d (.tuple ds)) _ Ex.refl hs hx q
end
abbrev DO:=XE->Sto->(Option Int->Sto->Prop)->Prop
def RP(t:TO)(dt:DO):Prop:=∀(h o:List Addr) (H:Hp) (δ:XE) (σ:St) (S:Sto) (R:Option Int->Sto->Prop) (Q:Option Int->Hp->Prop),RepE h o H δ σ->RepS h o H S->dt δ S R ->
 (∀o' H' S' b,Ex o H o' H'->RepS h o' H' S'->R b S'->Q b H')->t σ H Q
def aX:DO:=fun _ S R=>R none S
def aQ(a:DE):DO:=fun δ S R=>a δ S fun x S1=>asI x fun i=>R (some i) S1
theorem Eh:RP CY aX:=fun h o H δ σ S R Q he hs q c=>c o H S none Ex.refl hs q
theorem wV{t:TE}{da:DE}(ha:RE t da):RP (oX t) (aQ da):=fun h o H δ σ S R Q he hs q c=>
 ha h o H δ σ S _ _ he hs q fun o1 H1 S1 x v e1 s1 x1 d1=>by
  replace d1:=bU d1;obtain⟨i,rfl,d1⟩:=d1;exact⟨i,bD x1,c o1 H1 S1 _ e1 s1 d1⟩
abbrev D3:=XV->Option Int->Option Int->Sto->RX->Prop
def RL(r:V->Option Int->Option Int->Hp->VK->Prop)(rd:D3):Prop:=∀(h o:List Addr) (H:Hp) (S:Sto) (x:XV) (v:V) (a b:Option Int) (R:RX) (Q:VK),RepS h o H S->HasX h o H x v->rd x a b S R->Cn h o H R Q->r v a b H Q
def dSl(rd:D3)(e:DE)(a b:DO):DE:=fun δ S R=>e δ S fun x S1=>a δ S1 fun i S2=>b δ S2 fun j S3=>rd x i j S3 R
theorem yW{r:V->Option Int->Option Int->Hp->VK->Prop}{rd:D3}{te:TE}{de:DE}{ta tb:TO}{da db:DO}(hr:RL r rd)(aa:RE te de)(ha:RP ta da)(hb:RP tb db):RE (tSl r te ta tb) (dSl rd de da db):=fun h o H δ σ S R Q he hs q c=>
 aa h o H δ σ S _ _ he hs q fun o1 H1 S1 x v e1 s1 x1 d1=>ha h o1 H1 δ σ S1 _ _ (he.mono e1) s1 d1 fun o2 H2 S2 i e2 s2 d2=>hb h o2 H2 δ σ S2 _ _ ((he.mono e1).mono e2) s2 d2 fun o3 H3 S3 j e3 s3 d3=>
  hr h o3 H3 S3 x v i j R Q s3 ((x1.mono e2).mono e3) d3 (c.pre ((e1.trans e2).trans e3))
def Le:D3:=fun x i j S R=>asL S x fun ds=>R (.d (.list (bI ds i j))) S
def K9:D3:=fun x i j S R=>asT x fun ds=>¬(HT.sIx ds.length 0 i=0/\HT.sIx ds.length ds.length j=ds.length)/\R (.d (.tuple (bI ds i j))) S
theorem B6{K:bt}:RL (rH K) Le:=fun h o H S x v a b R Q hs hx q c=>by
 obtain⟨ds,e0,q⟩:=q;obtain⟨p,vs,rfl,ea,l⟩:=c9 hs e0 hx;exact⟨p,vs,rfl,.of ea,lC hs (l.cut a b) c q⟩
theorem Hg{K:bt}:RL (AC K) K9:=fun h o H S x v a b R Q hs hx q c=>by
 replace q:=p6 q;obtain⟨ds,rfl,hn,q⟩:=q;obtain⟨p,vs,rfl,ea,l⟩:=jG hx;exact⟨p,vs,rfl,.of ea,by rw[l.length];exact hn,uO hs (l.cut a b) c q⟩
def asQ(S:Sto):XV->Option (List bg)
 | .d (.tuple ds)=>some ds
 | .d (.list ds)=>some ds
 | .l k=>S[k]?
 |_=>none
theorem pN{h o:List Addr}{H:Hp}{S:Sto}{x:XV}{v:V}{ds:List bg}(r:RepS h o H S)(e:asQ S x=some ds)(q:HasX h o H x v):∃a vs,v=.ref a/\(H a=some (.tup vs)\/H a=some (.lst vs))/\HasL (vx h o H) ds vs:=by
 unfold asQ at e;split at e
 ·cases e;obtain⟨a,vs,e,q,l⟩:=jG q;exact⟨a,vs,e,.inl q,l⟩
 ·cases e;obtain⟨a,vs,e,q,l⟩:=c9 (x:=.d (.list ds)) (ds:=ds) r rfl q;exact⟨a,vs,e,.inr q,l⟩
 ·rename_i k;obtain⟨a,vs,e,q,l⟩:=c9 (x:=.l k) r e q;exact⟨a,vs,e,.inr q,l⟩
 ·cases e
def arg1:List XV->(XV->Prop)->Prop
 | [x],k=>k x
 |_,_=>False
def arg2:List XV->(XV->XV->Prop)->Prop
 | [x,y],k=>k x y
 |_,_=>False
theorem cK{xs:List XV}{k:XV->Prop}(h:arg1 xs k):∃x,xs=[x]/\k x:=by
 unfold arg1 at h;split at h
 ·exact⟨_,rfl,h⟩
 ·exact h.elim
theorem rE{xs:List XV}{k:XV->XV->Prop}(h:arg2 xs k):∃x y,xs=[x,y]/\k x y:=by
 unfold arg2 at h;split at h
 ·exact⟨_,_,rfl,h⟩
 ·exact h.elim
theorem hxs1{h o:List Addr}{H:Hp}{x:XV}{vs:List V}(q:HasXs h o H [x] vs):∃v,vs=[v]/\HasX h o H x v:=by
 obtain⟨v,r,e,hx,hr⟩:=q;cases hr;exact⟨v,e,hx⟩
theorem hxs2{h o:List Addr}{H:Hp}{x y:XV}{vs:List V}(q:HasXs h o H [x,y] vs):∃v u,vs=[v,u]/\HasX h o H x v/\HasX h o H y u:=by
 obtain⟨v,r,e,hx,q⟩:=q;obtain⟨u,e',hy⟩:=hxs1 q;subst e';exact⟨v,u,e,hx,hy⟩
def A7:XV->(String->Prop)->Prop
 | .o v,k=>∃c,v=.ty c/\k c
 |_,_=>False
def BE:XV->(Int->Prop)->Prop
 | .d d,k=>match d with
  | .int i=>k i
  | .bool b=>k (if b then 1 else 0)
  |_=>False
 |_,_=>False
theorem Mt{x:XV}{k:String->Prop}(h:A7 x k):∃c,x=.o (.ty c)/\k c:=by
 cases x with
 |o v=>
  obtain⟨c,rfl,h⟩:=h;exact⟨c,rfl,h⟩
 |d d=>exact h.elim
 |l j=>exact h.elim
 |x _ _=>exact h.elim
 |p _ _=>exact h.elim
 |i _ _=>exact h.elim
theorem OY{x:XV}{k:Int->Prop}(h:BE x k):(∃i,x=.d (.int i)/\k i)\/∃b,x=.d (.bool b)/\k (if b then 1 else 0):=by
 cases x with
 |d d=>
  cases d with
  |int i=>exact .inl ⟨i,rfl,h⟩
  |bool b=>exact .inr ⟨b,rfl,h⟩
  |_=>exact h.elim
 |_=>exact h.elim
def Lq:List XV->Sto->RX->Prop:=fun xs S R=>arg1 xs fun x=>∃ds,asQ S x=some ds/\R (.d (.int ds.length)) S
theorem yO{K:bt}:RC (xT K) Lq:=fun h o H S xs vs R Q hs hx q c=>by
 obtain⟨x,rfl,ds,hd,q1⟩:=cK q;obtain⟨v,rfl,aa⟩:=hxs1 hx;obtain⟨a,ws,rfl,ea,l⟩:=pN hs hd aa;refine⟨a,ws,rfl,ea.elim (fun z=>.inr (.of z)) (fun z=>.inl (.of z)),?_⟩;rw[l.length];exact c o H S _ _ Ex.refl hs (xI _) q1
def dA:List XV->Sto->RX->Prop:=fun xs S R=>arg2 xs fun x y=>A7 y fun cl=>∃d,cM S x=some d/\cl∈iV/\R (.d (.bool (mV d cl))) S
theorem Kz:RC yR dA:=fun h o H S xs vs R Q hs hx q c=>by
 obtain⟨x,y,rfl,q1⟩:=rE q;obtain⟨cl,rfl,d,hd,hc,q2⟩:=Mt q1;obtain⟨v,u,rfl,aa,hu⟩:=hxs2 hx;cases hu;exact HN (fP hs hd aa) hc (c o H S _ _ Ex.refl hs (xB _) q2)
def jT:List XV->Sto->RX->Prop:=fun xs S R=>arg1 xs fun x=>asI x fun i=>R (.d (.int (if i<0 then -i else i))) S
theorem HV:RC (fun xs H Q=>∃i,xs=[.int i]/\Q (.int (if i<0 then -i else i)) H) jT:=fun h o H S xs vs R Q hs hx q c=>by
 obtain⟨x,rfl,q1⟩:=cK q;obtain⟨v,rfl,aa⟩:=hxs1 hx;obtain⟨i,rfl,q2⟩:=bU q1;exact⟨i,by rw[bD aa],c o H S _ _ Ex.refl hs (xI _) q2⟩
def lP:List XV->Sto->RX->Prop:=fun xs S R=>arg1 xs fun x=>BE x fun i=>R (.d (.int i)) S
theorem PL:RC (fun xs H Q=>(∃i,xs=[.int i]/\Q (.int i) H)\/∃k,xs=[.bl k]/\Q (.int (if k then 1 else 0)) H) lP:=fun h o H S xs vs R Q hs hx q c=>by
 obtain⟨x,rfl,q1⟩:=cK q;obtain⟨v,rfl,aa⟩:=hxs1 hx;rcases OY q1 with ⟨i,rfl,q2⟩|⟨b,rfl,q2⟩
 ·exact .inl ⟨_,by rw[bD aa],c o H S _ _ Ex.refl hs (xI _) q2⟩
 ·exact .inr ⟨_,by rw[kE aa],c o H S _ _ Ex.refl hs (xI _) q2⟩
def dI2(g:Int->Int->Int):List XV->Sto->RX->Prop:=fun xs S R=>arg2 xs fun x y=>asI x fun i=>asI y fun j=>R (.d (.int (g i j))) S
theorem Oz{g:Int->Int->Int}:RC (fun xs H Q=>∃i j,xs=[.int i,.int j]/\Q (.int (g i j)) H) (dI2 g):=fun h o H S xs vs R Q hs hx q c=>by
 obtain⟨x,y,rfl,q1⟩:=rE q;obtain⟨v,u,rfl,aa,hu⟩:=hxs2 hx;obtain⟨i,rfl,q2⟩:=bU q1;obtain⟨j,rfl,q3⟩:=bU q2;exact⟨i,j,by rw[bD aa,bD hu],c o H S _ _ Ex.refl hs (xI _) q3⟩
def gE:List XV->Sto->RX->Prop:=fun xs S R=>arg1 xs fun x=>∃ds,asQ S x=some ds/\R (.d (.tuple ds)) S
theorem L7{K:bt}:RC (fun xs H Q=>∃p ys,xs=[.ref p]/\((SqL K H p ys/\∀l,H l=none->Q (.ref l) (upd H l (.tup ys)))\/(SqT K H p ys/\Q (.ref p) H))) gE:=fun h o H S xs vs R Q hs hx q c=>by
 obtain⟨x,rfl,ds,hd,q1⟩:=cK q;obtain⟨v,rfl,aa⟩:=hxs1 hx;obtain⟨a,ws,rfl,ea,l⟩:=pN hs hd aa;refine⟨a,ws,rfl,ea.elim (fun z=>.inr ⟨.of z,?_⟩) (fun z=>.inl ⟨.of z,uO hs l c q1⟩)⟩;have hh:HasX h o H (.d (.tuple ds)) (.ref a):=by
  unfold asQ at hd;split at hd
  ·cases hd;exact aa
  ·obtain⟨a',us,e1,e2,_⟩:=c9 (x:=.d (.list _)) hs rfl aa;cases e1;rw[z]at e2;cases e2
  ·rename_i k;obtain⟨a',us,e1,e2,_⟩:=c9 (x:=.l k) hs hd aa;cases e1;rw[z]at e2;cases e2
  ·cases hd
 exact c o H S _ _ Ex.refl hs hh q1
def lF:List XV->Sto->RX->Prop:=fun xs S R=>arg1 xs fun x=>∃ds,asQ S x=some ds/\R (.d (.list ds)) S
theorem NZ{K:bt}:RC (fun xs H Q=>∃p ys,xs=[.ref p]/\(SqL K H p ys\/SqT K H p ys)/\∀l,H l=none->Q (.ref l) (upd H l (.lst ys))) lF:=fun h o H S xs vs R Q hs hx q c=>by
 obtain⟨x,rfl,ds,hd,q1⟩:=cK q;obtain⟨v,rfl,aa⟩:=hxs1 hx;obtain⟨a,ws,rfl,ea,l⟩:=pN hs hd aa;exact⟨a,ws,rfl,ea.elim (fun z=>.inr (.of z)) (fun z=>.inl (.of z)),lC hs l c q1⟩
theorem xP{H:Hp}:∀{ns:List Int}{vs:List V},HasL H (ns.map dq) vs->vs=ns.map V.int
 | [],vs,h=>zE.mp h
 |n::ns,vs,h=>by
  obtain⟨v,r,rfl,h1,h2⟩:=zu.mp h;rw[f7.mp h1,xP h2];rfl
def CC:List XV->Sto->RX->Prop:=fun xs S R=>arg1 xs fun x=>∃ds,asQ S x=some ds/\∃ns,ds=ns.map dq/\ns≠[]/\∀m,m∈ns->(∀a,a∈ns->m<=a)->R (.d (.int m)) S
def BF:List XV->Sto->RX->Prop:=fun xs S R=>arg1 xs fun x=>∃ds,asQ S x=some ds/\∃ns,ds=ns.map dq/\ns≠[]/\∀m,m∈ns->(∀a,a∈ns->a<=m)->R (.d (.int m)) S
theorem JN{K:bt}:RC (x9 K) CC:=fun h o H S xs vs R Q hs hx q c=>by
 obtain⟨x,rfl,ds,hd,ns,rfl,hn,q1⟩:=cK q;obtain⟨v,rfl,aa⟩:=hxs1 hx;obtain⟨a,ws,rfl,ea,l⟩:=pN hs hd aa;rw[xP l]at ea;exact⟨a,ns,rfl,ea.elim (fun z=>.inr (.of z)) (fun z=>.inl (.of z)),hn,fun m m1 m2=>c o H S _ _ Ex.refl hs (xI _) (q1 m m1 m2)⟩
theorem HP{K:bt}:RC (CP K) BF:=fun h o H S xs vs R Q hs hx q c=>by
 obtain⟨x,rfl,ds,hd,ns,rfl,hn,q1⟩:=cK q;obtain⟨v,rfl,aa⟩:=hxs1 hx;obtain⟨a,ws,rfl,ea,l⟩:=pN hs hd aa;rw[xP l]at ea;exact⟨a,ns,rfl,ea.elim (fun z=>.inr (.of z)) (fun z=>.inl (.of z)),hn,fun m m1 m2=>c o H S _ _ Ex.refl hs (xI _) (q1 m m1 m2)⟩
def dBM(rd:XV->List XV->Sto->RX->Prop)(e:DE)(a:DA):DE:=fun δ S R=>e δ S fun x S1=>∃k,x=.l k/\k<S1.length/\a δ S1 fun xs S2=>rd x xs S2 R
def mI(rd:XV->List XV->Sto->RX->Prop)(e:DE):DE:=fun δ S R=>e δ S fun x S1=>∃k,x=.l k/\k<S1.length/\rd x [] S1 R
def RM(r:V->List V->Hp->VK->Prop)(rd:XV->List XV->Sto->RX->Prop):Prop:=∀(h o:List Addr) (H:Hp) (S:Sto) (x:XV) (v:V) (xs:List XV) (vs:List V) (R:RX) (Q:VK),RepS h o H S->HasX h o H x v->HasXs h o H xs vs->rd x xs S R->Cn h o H R Q->r v vs H Q
theorem Av{K:bt}{H:Hp}{a:Addr}{vs:List V}(e:H a=some (.lst vs)):tyV K "list" (.ref a) H:=.inl ⟨rfl,vs,.of e⟩
theorem DW{h o:List Addr}{H:Hp}{S:Sto}{k:Nat}{v:V}(hs:RepS h o H S)(hk:k<S.length)(hx:HasX h o H (.l k) v):∃a vs,v=.ref a/\H a=some (.lst vs):=by
 obtain⟨a,e,rfl⟩:=hx;obtain⟨vs,e2,_⟩:=hs.cont k a _ e (dn hk);exact⟨a,vs,rfl,e2⟩
theorem vR{K:bt}{r:V->List V->Hp->VK->Prop}{rd:XV->List XV->Sto->RX->Prop}{te:TE}{de:DE}{tl:TA}{dl:DA}(hr:RM r rd)(aa:RE te de)(ha:RA tl dl):RE (tBM K "list" r te tl) (dBM rd de dl):=fun h o H δ σ S R Q he hs q c=>
 aa h o H δ σ S _ _ he hs q fun o1 H1 S1 x v e1 s1 x1 ⟨k,ek,hk,d1⟩=>by
  subst ek;obtain⟨a,ws,rfl,ea⟩:=DW s1 hk x1;exact⟨Av ea,ha h o1 H1 δ σ S1 _ _ (he.mono e1) s1 d1 fun o2 H2 S2 xs vs e2 s2 x2 d2=>hr h o2 H2 S2 (.l k) _ xs vs R Q s2 (x1.mono e2) x2 d2 (c.pre (e1.trans e2))⟩
theorem Lw{K:bt}{r:V->List V->Hp->VK->Prop}{rd:XV->List XV->Sto->RX->Prop}{te:TE}{de:DE}(hr:RM r rd)(aa:RE te de):RE (Bp K "list" r te) (mI rd de):=fun h o H δ σ S R Q he hs q c=>
 aa h o H δ σ S _ _ he hs q fun o1 H1 S1 x v e1 s1 x1 ⟨k,ek,hk,d1⟩=>by
  subst ek;obtain⟨a,ws,rfl,ea⟩:=DW s1 hk x1;exact⟨Av ea,hr h o1 H1 S1 (.l k) _ [] [] R Q s1 x1 rfl d1 (c.pre e1)⟩
def fB:XV->List XV->Sto->RX->Prop:=fun x xs S R=>∃k,x=.l k/\∃ds,S[k]?=some ds/\arg1 xs fun y=>asD y fun d=>ds.length<1000/\R (.d .none) (S.set k (ds++[d]))
theorem G5:RM F6 fB:=fun h o H S x v xs vs R Q hs hx aa q c=>by
 obtain⟨k,rfl,ds,e,q1⟩:=q;obtain⟨y,rfl,q2⟩:=cK q1;obtain⟨d,rfl,hl,q3⟩:=jW q2;obtain⟨a,ea,rfl⟩:=hx;obtain⟨u,rfl,hu⟩:=hxs1 aa;obtain⟨ws,ew,l⟩:=hs.cont k a ds ea e;exact⟨a,ws,u,rfl,rfl,ew,by rw[l.length];exact small1000 (lg hl),c o _ _ (.d .none) _ (Ex.upd ea) (hs.upd ea (l.append (zu.mpr ⟨u,[],rfl,hu,zE.mpr rfl⟩))) xN q3⟩
def mL:XV->List XV->Sto->RX->Prop:=fun x xs S R=>∃k,x=.l k/\∃ds,S[k]?=some ds/\xs=[]/\R (.d .none) (S.set k ds.reverse)
theorem Lv:RM EJ mL:=fun h o H S x v xs vs R Q hs hx aa q c=>by
 obtain⟨k,rfl,ds,e,rfl,q1⟩:=q;obtain⟨a,ea,rfl⟩:=hx;obtain⟨ws,ew,l⟩:=hs.cont k a ds ea e;cases aa;exact⟨a,ws,rfl,rfl,ew,c o _ _ (.d .none) _ (Ex.upd ea) (hs.upd ea l.rev) xN q1⟩
def kR:XV->List XV->Sto->RX->Prop:=fun x xs S R=>∃k,x=.l k/\∃ds,S[k]?=some ds/\arg1 xs fun y=>∃es,eJ S y=some es/\ds.length+es.length<=1000/\R (.d .none) (S.set k (ds++es))
theorem Fc:RM Gd kR:=fun h o H S x v xs vs R Q hs hx aa q c=>by
 obtain⟨k,rfl,ds,e,q1⟩:=q;obtain⟨y,rfl,es,ey,hl,q3⟩:=cK q1;obtain⟨a,ea,rfl⟩:=hx;obtain⟨u,rfl,hu⟩:=hxs1 aa;obtain⟨ws,ew,l⟩:=hs.cont k a ds ea e;obtain⟨b,zs,rfl,eb,lb⟩:=c9 hs ey hu;exact⟨a,b,ws,zs,rfl,rfl,ew,eb,by rw[l.length,lb.length];exact lg (small1000 hl),c o _ _ (.d .none) _ (Ex.upd ea) (hs.upd ea (l.append lb)) xN q3⟩
def ret0(S:Sto)(R:RX):RX:=fun y S'=>match y,S' with
 | .d d,[]=>R (.d d) S
 | .l 0,[ds]=>R (.l S.length) (S++[ds])
 |_,_=>False
def vI(k:Nat)(S:Sto)(R:RX):RX:=fun y S'=>match y,S' with
 | .d d,[p]=>R (.d d) (S.set k p)
 | .l 1,[p,ds]=>R (.l S.length) (S.set k p++[ds])
 |_,_=>False
section
variable {h o:List Addr}{H:Hp}{S:Sto}{R:RX}{Q:VK}
theorem j8{h o h' o':List Addr}{H:Hp}(e:∀b,(b∈h'\/b∈o')↔(b∈h\/b∈o)):vx h' o' H=vx h o H:=by
 funext b;have aa:∀u,vx h' o' H b=some u↔vx h o H b=some u:=fun u=>by
  rw[zU,zU];have:=e b;constructor
  ·rintro⟨a1,a2,a3⟩;exact⟨fun m=>(this.mpr (.inl m)).elim a1 a2,fun m=>(this.mpr (.inr m)).elim a1 a2,a3⟩
  ·rintro⟨a1,a2,a3⟩;exact⟨fun m=>(this.mp (.inl m)).elim a1 a2,fun m=>(this.mp (.inr m)).elim a1 a2,a3⟩
 cases e1:vx h' o' H b with
 |some u=>exact((aa u).mp e1).symm
 |none=>
  cases e2:vx h o H b with
  |none=>rfl
  |some u=>rw[(aa u).mpr e2]at e1;cases e1
theorem rep0(hs:RepS h o H S):RepS (h++o) [] H [] where
 len:=rfl
 nd:=nodup_nil
 dis:=fun a ha=>by cases ha
 hal:=fun b hb=>(mem_append.mp hb).elim (hs.hal b) (hs.oam b)
 cont:=fun k a ds e=>by simp at e
theorem hx0{d:bg}{v:V}(hx:HasX h o H (.d d) v):HasX (h++o) [] H (.d d) v:=by
 show Has (vx (h++o) [] H) d v;rw[j8 (h:=h) (o:=o) fun b=>by simp];exact hx
theorem hx0'{d:bg}{v:V}(hx:HasX (h++o) [] H (.d d) v):HasX h o H (.d d) v:=by
 show Has (vx h o H) d v;rw[<- j8 (h':=h++o) (o':=[]) (h:=h) (o:=o) fun b=>by simp];exact hx
theorem cn0(hs:RepS h o H S)(c:Cn h o H R Q):Cn (h++o) [] H (ret0 S R) Q:=fun o' H' S' y v e s' hy q=>by
 have sm:Same H (vx [] o' H'):=fun b u eb=>by
  obtain⟨a1,a2⟩:=e.kp b u yv eb;exact zU.mpr ⟨yv,a1,a2⟩
 have sH:Same H H':=fun b u eb=>(zU.mp (sm b u eb)).2.2;unfold ret0 at q;split at q
 ·have e0:o'=[]:=gm s'.len.symm;subst e0;exact c o H' S _ v (Ex.of_same sH) (hs.same sH) (hx0' hy) q
 ·rename_i ds;obtain⟨a,rfl⟩:∃a,o'=[a]:=List.length_eq_one_iff.mp s'.len.symm;obtain⟨a',ea,rfl⟩:=hy;cases ea;obtain⟨vs,ev,l⟩:=s'.cont 0 a ds rfl rfl;have na:a∉h++o:=s'.dis a yv;have hn:H a=none:=by
   cases eh:H a with
   |none=>rfl
   |some u=>exact absurd (e.kp a u yv eh).1 yv
  have e2:Ex o H (o++[a]) H':=⟨⟨[a],rfl⟩,fun b u hb eb=>by
   obtain⟨a1,a2⟩:=e.kp b u yv eb;exact⟨by simp only[mem_append,not_or];exact⟨hb,a1⟩,a2⟩⟩
  have aa:vx (h++o) [a] H'=vx h (o++[a]) H':=j8 fun b=>by simp[or_assoc]
  rw[aa]at l;refine c (o++[a]) H' (S++[ds]) (.l S.length) _ e2 ⟨by simp[hs.len],nL hs.nd fun m=>na (fh _ m),fun b hb=>?_,fun b hb=>?_,fun k b es q1 q2=>?_⟩ ⟨a,by rw[hs.len,ck],rfl⟩ q
  ·rcases mem_append.mp hb with hb|hb
   ·exact hs.dis b hb
   ·rw[mem_singleton.mp hb];exact fun m=>na (fk _ m)
  ·obtain⟨u,eb⟩:=hs.hal b hb;exact⟨u,sH b _ eb⟩
  ·by_cases hk:k<o.length
   ·rw[fq hk]at q1;rw[fq (by rw[hs.len];exact hk)]at q2;obtain⟨ws,e3,l3⟩:=hs.cont k b es q1 q2;exact⟨ws,sH _ _ e3,l3.mono e2.vx⟩
   ·have ac:k=o.length:=by
     obtain⟨q,_⟩:=List.getElem?_eq_some_iff.mp q1;rw[cq,gb]at q;omega
    subst ac;rw[ck]at q1;rw[<- hs.len,ck]at q2;cases q1;cases q2;exact⟨vs,ev,l⟩
 ·exact q.elim
theorem wS{k:Nat}{a:Addr}{p:List bg}(hs:RepS h o H S)(ea:o[k]?=some a)(ep:S[k]?=some p):RepS (h++o.filter (fun b=>b≠a)) [a] H [p] where
 len:=rfl
 nd:=by simp
 dis:=fun b hb=>by
  rw[mem_singleton.mp hb];intro m;rcases mem_append.mp m with m|m
  ·exact hs.dis a (dh ea) m
  ·have:=(mem_filter.mp m).2;simp at this
 hal:=fun b hb=>(mem_append.mp hb).elim (hs.hal b) fun m=>hs.oam b (mem_filter.mp m).1
 cont:=fun j b ds e1 e2=>by
  cases j with
  |succ j=>simp at e1
  |zero=>
   cases e1;cases e2;obtain⟨vs,e3,l⟩:=hs.cont k a p ea ep;refine⟨vs,e3,?_⟩;rw[j8 (h:=h) (o:=o) (mem_pen ea)];exact l
where
 mem_pen {h o:List Addr}{k:Nat}{a:Addr} (ea:o[k]?=some a) (b:Addr):(b∈h++o.filter (fun b=>b≠a)\/b∈[a])↔(b∈h\/b∈o):=by
  have ma:=dh ea;by_cases e:b=a
  ·subst e;simp[ma]
  ·simp[e]
theorem hxP{k:Nat}{a:Addr}{d:bg}{v:V}(ea:o[k]?=some a)(hx:HasX h o H (.d d) v):HasX (h++o.filter (fun b=>b≠a)) [a] H (.d d) v:=by
 show Has (vx _ _ H) d v;rw[j8 (h:=h) (o:=o) (wS.mem_pen ea)];exact hx
theorem cnP{k:Nat}{a:Addr}{p:List bg}(hs:RepS h o H S)(ea:o[k]?=some a)(ep:S[k]?=some p)(c:Cn h o H R Q):Cn (h++o.filter (fun b=>b≠a)) [a] H (vI k S R) Q:=fun o' H' S' y v e s' hy q=>by
 have ma:=dh ea;have hk:k<o.length:=(List.getElem?_eq_some_iff.mp ea).1;unfold vI at q;split at q
 ·rename_i d p';obtain⟨r,rfl⟩:=e.pre;have er:r=[]:=by
   have:=s'.len;simp at this;exact this
  subst er;have ex:Ex o H o H':=⟨⟨[],yv⟩,fun b u hb eb=>⟨hb,(e.kp b u (fun m=>hb (by rw[mem_singleton.mp m];exact ma)) eb).2⟩⟩;obtain⟨vs,ev,l⟩:=s'.cont 0 a p' rfl rfl;have aa:vx (h++o.filter (fun b=>b≠a)) ([a]++[]) H'=vx h o H':=j8 (wS.mem_pen ea);rw[aa]at l;refine c o H' (S.set k p') (.d d) v ex ⟨by simp[hs.len],hs.nd,hs.dis,fun b hb=>?_,fun j b es q1 q2=>?_⟩ (by
   have ac:Has (vx (h++o.filter (fun b=>b≠a)) ([a]++[]) H') d v:=hy;rw[aa]at ac;exact ac) q
  ·obtain⟨u,eb⟩:=hs.hal b hb;exact⟨u,(e.kp b _ (fun m=>hs.dis a ma (by rw[<- mem_singleton.mp m];exact hb)) eb).2⟩
  ·by_cases hj:j=k
   ·subst hj;rw[q1]at ea;cases ea;rw[qp (by rw[hs.len];exact hk)]at q2;cases q2;exact⟨vs,ev,l⟩
   ·rw[rn (gj hj)]at q2;obtain⟨ws,e3,l3⟩:=hs.cont j b es q1 q2;have ne:b≠a:=fun z=>hj (qZ hs.nd q1 (z▸ea));exact⟨ws,(e.kp b _ (by simp[ne]) e3).2,l3.mono ex.vx⟩
 ·rename_i p' ds;obtain⟨r,rfl⟩:=e.pre;obtain⟨a2,rfl⟩:∃a2,r=[a2]:=by
   have:=s'.len;simp at this;exact List.length_eq_one_iff.mp this
  obtain⟨b2,af,rfl⟩:=hy;cases af;obtain⟨vs,ev,l⟩:=s'.cont 0 a p' rfl rfl;obtain⟨ag,ae,l2⟩:=s'.cont 1 a2 ds rfl rfl;have n2:a2∉h++o.filter (fun b=>b≠a):=s'.dis a2 yv;have n3:a≠a2:=by
   have:=s'.nd;simp at this;exact this
  have n4:a2∉o:=fun m=>n2 (fh _ (mem_filter.mpr ⟨m,by simp[gj n3]⟩));have ex:Ex o H (o++[a2]) H':=⟨⟨[a2],rfl⟩,fun b u hb eb=>by
   obtain⟨z1,z2⟩:=e.kp b u (fun m=>hb (by rw[mem_singleton.mp m];exact ma)) eb;refine⟨?_,z2⟩;simp only[mem_append,not_or];exact⟨hb,fun m=>z1 (by simp at m ⊢;exact .inr m)⟩⟩
  have aa:vx (h++o.filter (fun b=>b≠a)) ([a]++[a2]) H'=vx h (o++[a2]) H':=j8 fun b=>by
   have:=wS.mem_pen (h:=h) ea b;simp only[mem_append]at this ⊢;rw[<- or_assoc,this,or_assoc]
  rw[aa]at l l2;refine c (o++[a2]) H' (S.set k p'++[ds]) (.l S.length) _ ex ⟨by simp[hs.len],nL hs.nd n4,fun b hb=>?_,fun b hb=>?_,fun j b es q1 q2=>?_⟩ ⟨a2,by rw[hs.len,ck],rfl⟩ q
  ·rcases mem_append.mp hb with hb|hb
   ·exact hs.dis b hb
   ·rw[mem_singleton.mp hb];exact fun m=>n2 (fk _ m)
  ·obtain⟨u,eb⟩:=hs.hal b hb;exact⟨u,(e.kp b _ (fun m=>hs.dis a ma (by rw[<- mem_singleton.mp m];exact hb)) eb).2⟩
  ·by_cases hjo:j<o.length
   ·rw[fq hjo]at q1;rw[fq (by rw[length_set,hs.len];exact hjo)]at q2;by_cases hj:j=k
    ·subst hj;rw[q1]at ea;cases ea;rw[qp (by rw[hs.len];exact hk)]at q2;cases q2;exact⟨vs,ev,l⟩
    ·rw[rn (gj hj)]at q2;obtain⟨ws,e3,l3⟩:=hs.cont j b es q1 q2;have ne:b≠a:=fun z=>hj (qZ hs.nd q1 (z▸ea));exact⟨ws,(e.kp b _ (by simp[ne]) e3).2,l3.mono ex.vx⟩
   ·have ah:j=o.length:=by
     obtain⟨q,_⟩:=List.getElem?_eq_some_iff.mp q1;rw[cq,gb]at q;omega
    subst ah;rw[ck]at q1;rw[<- hs.len,<- length_set (i:=k) (a:=p'),ck]at q2;cases q1;cases q2;exact⟨ag,ae,l2⟩
 ·exact q.elim
end
structure DEnds where
 nx:XE->Sto->Prop
 rt:RX
 bk:XE->Sto->Prop:=fun _ _=>False
 ct:XE->Sto->Prop:=fun _ _=>False
abbrev DS:=DEnds->XE->Sto->Prop
abbrev DG:=XV->XE->Sto->(XE->Sto->Prop)->Prop
abbrev DGs:=List bg->XE->Sto->(XE->Sto->Prop)->Prop
def Nx(h o:List Addr)(H:Hp)(N:XE->Sto->Prop)(M:St->Hp->Prop):Prop:=∀o' H' δ' S' σ',Ex o H o' H'->RepE h o' H' δ' σ'->RepS h o' H' S'->N δ' S'->M σ' H'
theorem Nx.pre{h o o':List Addr}{H H':Hp}{N:XE->Sto->Prop}{M:St->Hp->Prop}(c:Nx h o H N M)(e:Ex o H o' H'):Nx h o' H' N M:=fun o2 H2 δ2 S2 σ2 e2=>c o2 H2 δ2 S2 σ2 (e.trans e2)
structure EOk(h o:List Addr)(H:Hp)(E:DEnds)(D:Ends):Prop where
 nx:Nx h o H E.nx D.nx
 rt:Cn h o H E.rt D.rt
 bk:Nx h o H E.bk D.bk
 ct:Nx h o H E.ct D.ct
theorem EOk.pre{h o o':List Addr}{H H':Hp}{E:DEnds}{D:Ends}(c:EOk h o H E D)(e:Ex o H o' H'):EOk h o' H' E D:=⟨c.nx.pre e,c.rt.pre e,c.bk.pre e,c.ct.pre e⟩
def RS(t:TS)(dt:DS):Prop:=∀(h o:List Addr) (H:Hp) (δ:XE) (σ:St) (S:Sto) (E:DEnds) (D:Ends),RepE h o H δ σ->RepS h o H S->dt E δ S->EOk h o H E D->t D σ H
def RG(t:TG)(dt:DG):Prop:=∀(h o:List Addr) (H:Hp) (δ:XE) (σ:St) (S:Sto) (x:XV) (v:V) (N:XE->Sto->Prop) (M:St->Hp->Prop),RepE h o H δ σ->RepS h o H S->HasX h o H x v->dt x δ S N->Nx h o H N M->t v σ H M
def RGs(t:TGs)(dt:DGs):Prop:=∀(h o:List Addr) (H:Hp) (δ:XE) (σ:St) (S:Sto) (ds:List bg) (vs:List V) (N:XE->Sto->Prop) (M:St->Hp->Prop),RepE h o H δ σ->RepS h o H S->HasL (vx h o H) ds vs->dt ds δ S N->Nx h o H N M->t vs σ H M
def zk(i:Nat):DG:=fun x δ S N=>N (δ.set i (some x)) S
def cX:DGs:=fun ds δ S N=>ds=[]/\N δ S
def hdD:List bg->(bg->List bg->Prop)->Prop
 |d::es,k=>k d es
 | [],_=>False
theorem Ly{ds:List bg}{k:bg->List bg->Prop}(h:hdD ds k):∃d es,ds=d::es/\k d es:=by
 cases ds with
 |nil=>exact h.elim
 |cons d es=>exact⟨d,es,rfl,h⟩
theorem uH{d:bg}{es:List bg}{k:bg->List bg->Prop}:hdD (d::es) k=k d es:=rfl
def aR(g:DG)(r:DGs):DGs:=fun ds δ S N=>hdD ds fun d es=>g (.d d) δ S fun δ' S'=>r es δ' S' N
def c7(n:Nat)(r:DGs):DG:=fun x δ S N=>asT x fun ds=>ds.length=n/\r ds δ S N
def iZ(a b:DE):DG:=fun x δ S N=>a δ S fun y S1=>b δ S1 fun z S2=>asD x fun d=>∃k,y=.l k/\∃ds,S2[k]?=some ds/\asI z fun i=>∃j,ixN ds.length i=some j/\N δ (S2.set k (ds.set j d))
theorem zD{i:Nat}:RG (gP i) (zk i):=fun h o H δ σ S x v N M he hs hx q c=>c o H _ S _ Ex.refl (he.set hx) hs q
theorem F5:RGs EB cX:=fun h o H δ σ S ds vs N M he hs l ⟨e,q⟩ c=>by
 subst e;exact⟨zE.mp l,c o H δ S σ Ex.refl he hs q⟩
theorem xE{t:TG}{u:TGs}{g:DG}{r:DGs}(h1:RG t g)(h2:RGs u r):RGs (Go t u) (aR g r):=fun h o H δ σ S ds vs N M he hs l q0 c=>by
 obtain⟨d,es,rfl,q⟩:=Ly q0;obtain⟨v,ws,rfl,hv,l⟩:=zu.mp l;exact⟨v,ws,rfl,h1 h o H δ σ S (.d d) v _ _ he hs hv q fun o1 H1 δ1 S1 σ1 e1 aa ac q1=>h2 h o1 H1 δ1 σ1 S1 es ws N M aa ac (l.mono e1.vx) q1 (c.pre e1)⟩
theorem EO{K:bt}{n:Nat}{t:TGs}{r:DGs}(h1:RGs t r):RG (CH K n t) (c7 n r):=fun h o H δ σ S x v N M he hs hx q c=>by
 replace q:=p6 q;obtain⟨ds,rfl,hn,q⟩:=q;obtain⟨a,vs,rfl,ea,l⟩:=jG hx;exact⟨a,vs,rfl,.of ea,by rw[l.length];exact hn,h1 h o H δ σ S ds vs N M he hs l q c⟩
theorem HasL.setAt{H:Hp}:∀{ds:List bg}{vs:List V}{j:Nat}{d:bg}{v:V},HasL H ds vs->Has H d v->HasL H (ds.set j d) (vs.set j v)
 | [],vs,j,d,v,l,_=>by rw[zE.mp l];exact zE.mpr rfl
 |c::ds,vs,0,d,v,l,q=>by
  obtain⟨u,r,rfl,_,l⟩:=zu.mp l;exact zu.mpr ⟨v,r,rfl,q,l⟩
 |c::ds,vs,j+1,d,v,l,q=>by
  obtain⟨u,r,rfl,hu,l⟩:=zu.mp l;exact zu.mpr ⟨u,r.set j v,rfl,hu,HasL.setAt l q⟩
theorem HX{ta tb:TE}{da db:DE}(ha:RE ta da)(hb:RE tb db):RG (Fs ta tb Bm) (iZ da db):=fun h o H δ σ S x v N M he hs hx q c=>
 ha h o H δ σ S _ _ he hs q fun o1 H1 S1 y u e1 s1 y1 d1=>hb h o1 H1 δ σ S1 _ _ (he.mono e1) s1 d1 fun o2 H2 S2 z w e2 s2 z2 d0=>by
  obtain⟨d,rfl,k,rfl,ds,es,d2⟩:=jW d0;replace d2:=bU d2;obtain⟨i,rfl,j,ej,d2⟩:=d2;obtain⟨a,ea,rfl⟩:=y1.mono e2;obtain⟨ws,ew,l⟩:=s2.cont k a ds ea es;refine⟨a,ws,i,j,rfl,bD z2,ew,by rw[l.length];exact ej,?_⟩;exact c o2 _ δ _ σ ((e1.trans e2).trans (Ex.upd ea)) (((he.mono e1).mono e2).mono (Ex.upd ea)) (s2.upd ea (l.setAt (hx.mono (e1.trans e2)))) d2
def aE:DS:=fun E δ S=>E.nx δ S
def zR(t u:DS):DS:=fun E δ S=>t { E with nx:=u E } δ S
def aA(e:DE)(g:DG):DS:=fun E δ S=>e δ S fun x S1=>g x δ S1 E.nx
def dH(e:DE):DS:=fun E δ S=>e δ S fun _ S1=>E.nx δ S1
def aC(e:DE):DS:=fun E δ S=>e δ S E.rt
def aD(c:DT)(t u:DS):DS:=fun E δ S=>c δ S fun b S1=>if b=true then t E δ S1 else u E δ S1
section
variable {t u:TS}{dt du:DS}{te:TE}{de:DE}
theorem cF:RS AO aE:=fun h o H δ σ S E D he hs q c=>c.nx o H δ S σ Ex.refl he hs q
theorem zP(ht:RS t dt)(hu:RS u du):RS (bM t u) (zR dt du):=fun h o H δ σ S E D he hs q c=>
 ht h o H δ σ S _ _ he hs q ⟨fun o1 H1 δ1 S1 σ1 e1 aa ac q1=>hu h o1 H1 δ1 σ1 S1 E D aa ac q1 (c.pre e1),c.rt,c.bk,c.ct⟩
theorem bL{g:TG}{dg:DG}(aa:RE te de)(hg:RG g dg):RS (iH te g) (aA de dg):=fun h o H δ σ S E D he hs q c=>
 aa h o H δ σ S _ _ he hs q fun o1 H1 S1 x v e1 s1 x1 d1=>hg h o1 H1 δ σ S1 x v _ _ (he.mono e1) s1 x1 d1 (c.nx.pre e1)
theorem wL(aa:RE te de):RS (EH te) (dH de):=fun h o H δ σ S E D he hs q c=>
 aa h o H δ σ S _ _ he hs q fun o1 H1 S1 x v e1 s1 x1 d1=>c.nx o1 H1 δ S1 σ e1 (he.mono e1) s1 d1
theorem cR(aa:RE te de):RS (u8 te) (aC de):=fun h o H δ σ S E D he hs q c=>aa h o H δ σ S _ _ he hs q c.rt
theorem i7{tc:TT}{dc:DT}(hc:RT tc dc)(ht:RS t dt)(hu:RS u du):RS (uE tc t u) (aD dc dt du):=fun h o H δ σ S E D he hs q c=>
 hc h o H δ σ S _ _ he hs q fun o1 H1 S1 b e1 s1 d1=>by
  cases b with
  |true=>exact gG (ht h o1 H1 δ σ S1 E D (he.mono e1) s1 (by simpa using d1) (c.pre e1))
  |false=>exact gL (hu h o1 H1 δ σ S1 E D (he.mono e1) s1 (by simpa using d1) (c.pre e1))
def frz(n:Nat)(ds:List bg):Option XV->Option XV
 |some (.l k)=>if k=n then some (.d (.list ds))else some (.l k)
 |some (.p k d)=>if k=n then some (.d (.tuple [.list ds,d]))else some (.p k d)
 |y=>y
end
abbrev DI:=XE->Sto->(List bg->Sto->Prop)->Prop
structure WalkX(h o:List Addr)(H:Hp)(J:It)(ds:List bg):Prop where
 stop:∀(i:Nat) o2 H2,ExH h o H o2 H2->ds.length<=i->J.stop i H2
 go:∀(i:Nat) d o2 H2,ExH h o H o2 H2->ds[i]?=some d->J.go i H2
 yld:∀(i:Nat) d o2 H2 x H3 S2,ExH h o H o2 H2->RepS h o2 H2 S2->ds[i]?=some d->J.yld i H2 x H3->Same H2 H3/\Has (vx h o2 H3) d x
def RI(w:TI)(di:DI):Prop:=∀(h o:List Addr) (H:Hp) (δ:XE) (σ:St) (S:Sto) (R:List bg->Sto->Prop) (Q:It->Hp->Prop),RepE h o H δ σ->RepS h o H S->di δ S R ->
 (∀o' H' S' ds J,Ex o H o' H'->RepS h o' H' S'->WalkX h o' H' J ds->R ds S'->Q J H')->w σ H Q
theorem Iu{h o:List Addr}{H:Hp}{lo:Int}{n:Nat}:WalkX h o H (Itr lo n) (kO lo n) where
 stop:=fun i _ _ _ hi=>by rw[nA]at hi;exact hi
 go:=fun i d _ _ _ hi=>(oC hi).1
 yld:=fun i d o2 H2 x H3 S2 _ _ hi y=>by
  obtain⟨e,ex⟩:=y;subst e ex;rw[(oC hi).2];exact⟨Same.refl _,f7.mpr rfl⟩
def kJ(g:DG)(b:DS):List bg->DS
 | [],E,δ,S=>E.nx δ S
 |d::ds,E,δ,S=>g (.d d) δ S fun δ1 S1=>b { nx:=fun δ2 S2=>kJ g b ds E δ2 S2,ct:=fun δ2 S2=>kJ g b ds E δ2 S2,bk:=E.nx,rt:=E.rt } δ1 S1
def bW(i:DI)(g:DG)(b:DS):DS:=fun E δ S=>i δ S fun ds S1=>kJ g b ds E δ S1
theorem mP{wi:TI}{g:TG}{tb:TS}{di:DI}{dg:DG}{db:DS}(hi:RI wi di)(hg:RG g dg)(hb:RS tb db):RS (oY wi g tb) (bW di dg db):=fun h o H δ σ S E D he hs q c=>
 hi h o H δ σ S _ _ he hs q fun o1 H1 S1 ds J e1 s1 wk d1=>by
  refine⟨fun i m σ2 H2=>m=ds.length-i/\i<=ds.length/\∃o2 δ2 S2,Ex o1 H1 o2 H2/\RepE h o2 H2 δ2 σ2/\RepS h o2 H2 S2/\kJ dg db (ds.drop i) E δ2 S2,⟨ds.length,yv,qc _,o1,δ,S1,Ex.refl,he.mono e1,s1,d1⟩,?_⟩;rintro i m σ2 H2 ⟨rfl,hi,o2,δ2,S2,e2,ag,ae,d2⟩;by_cases hlt:i<ds.length
  ·have ed:ds[i]?=some ds[i]:=dn hlt;rw[jk hlt]at d2;refine .inr ⟨wk.go i _ o2 H2 e2.hid ed,fun σ3 H3=>∃o3 δ3 S3,Ex o1 H1 o3 H3/\RepE h o3 H3 δ3 σ3/\RepS h o3 H3 S3/\kJ dg db (ds.drop (i+1)) E δ3 S3,fun σ3 H3 n=>⟨ds.length-(i+1),yw,rfl,hlt,n⟩,fun x H3 y=>?_⟩;obtain⟨s3,hx⟩:=wk.yld i _ o2 H2 x H3 S2 e2.hid ae ed y;have ah:Ex o2 H2 o2 H3:=Ex.of_same s3;refine hg h o2 H3 δ2 σ2 S2 (.d ds[i]) x _ _ (ag.mono ah) (ae.same s3) hx d2 fun o4 H4 δ4 S4 σ4 e4 aj ai d4=>?_;have af:Ex o1 H1 o4 H4:=(e2.trans ah).trans e4;have ce:=(c.pre e1).pre af;exact hb h o4 H4 δ4 σ4 S4 _ _ aj ai d4 ⟨fun o5 H5 δ5 S5 σ5 e5 aa ac d5=>⟨o5,δ5,S5,af.trans e5,aa,ac,d5⟩,ce.rt,ce.nx,fun o5 H5 δ5 S5 σ5 e5 aa ac d5=>⟨o5,δ5,S5,af.trans e5,aa,ac,d5⟩⟩
  ·have ei:i=ds.length:=yw
   subst ei;rw[qy]at d2;exact .inl ⟨wk.stop _ o2 H2 e2.hid (fe _),c.nx o2 H2 δ2 S2 σ2 (e1.trans e2) ag ae d2⟩
def aI:DT:=fun _ S R=>R true S
theorem eQ:RT FP aI:=fun h o H δ σ S R Q he hs q c=>c o H S true Ex.refl hs q
def bC(n:Nat)(g:DG)(tt:DT)(te:DE)(fin:Sto->Prop):List bg->XE->Sto->Prop
 | [],_,S=>fin S
 |d::ds,τ,S=>g (.d d) τ S fun τ1 S1=>tt τ1 S1 fun b S2=>if b=true then te τ1 S2 fun x S3=>asD x fun e=>∃acc,S3[n]?=some acc/\acc.length<1000/\bC n g tt te fin ds τ1 (S3.set n (acc++[e]))else bC n g tt te fin ds τ1 S2
def iG(caps:List (Option Nat))(i:DI)(g:DG)(tt:DT)(te:DE):DE:=fun δ S R=>i δ S fun ds S1=>bC S1.length g tt te (fun S2=>R (.l S1.length) S2) ds (gM caps δ) (S1++[[]])
def cP(caps:List (Option Nat))(i:DI)(g:DG)(tt:DT)(te:DE):DE:=fun δ S R=>i δ S fun ds S1=>bC S1.length g tt te (fun S2=>∃S0 acc,S2=S0++[acc]/\S0.length=S1.length/\R (.d (.list acc)) S0) ds (gM caps δ) (S1++[[]])
theorem RepS.pop{h o r:List Addr}{H:Hp}{S0 T:Sto}(hs:RepS h (o++r) H (S0++T))(hl:S0.length=o.length):RepS h o H S0 where
 len:=hl
 nd:=(nodup_append.mp hs.nd).1
 dis:=fun a ha=>hs.dis a (fk _ ha)
 hal:=hs.hal
 cont:=fun k a ds e1 e2=>by
  obtain⟨vs,e3,l⟩:=hs.cont k a ds (iU e1) (iU e2);exact⟨vs,e3,l.mono fun b u e=>by
   obtain⟨z1,z2,z3⟩:=zU.mp e;exact zU.mpr ⟨z1,fun m=>z2 (fk _ m),z3⟩⟩
theorem eR{h o r:List Addr}{H:Hp}:Same (vx h (o++r) H) (vx h o H):=fun b u e=>by
 obtain⟨z1,z2,z3⟩:=zU.mp e;exact zU.mpr ⟨z1,fun m=>z2 (fk _ m),z3⟩
theorem Ex.pop{o o' r:List Addr}{H H':Hp}(e:Ex o H (o++r) H'):Ex o H o H':=⟨⟨[],yv⟩,fun b u hb eb=>⟨hb,(e.kp b u hb eb).2⟩⟩
def fin(n:Nat)(R:RX):RX:=fun y S'=>match y with
 | .l k=>if k<n then R (.l k) (S'.take n)else ∃ds,S'[k]?=some ds/\(R (.d (.list ds)) (S'.take n)\/R (.l n) (S'.take n++[ds]))
 | .p k d=>n<=k/\∃ds,S'[k]?=some ds/\R (.p n d) (S'.take n++[ds])
 |y=>R y (S'.take n)
theorem Dc{h o r:List Addr}{H H':Hp}{S S':Sto}{k:Nat}{a:Addr}{ds:List bg}(hs:RepS h o H S)(e:Ex o H (o++r) H')(s':RepS h (o++r) H' S')(hk:¬ k<S.length)(ea:(o++r)[k]?=some a)(ac:S'[k]?=some ds):
  Ex o H (o++[a]) H'/\Same (vx h (o++r) H') (vx h (o++[a]) H')/\RepS h (o++[a]) H' (S'.take S.length++[ds]):=by
 have eS:S'=S'.take S.length++S'.drop S.length:=(re _ _).symm;have hl:(S'.take S.length).length=o.length:=by
  have:=s'.len;rw[cq]at this;rw[gc,this,hs.len];omega
 have s0:RepS h o H' (S'.take S.length):=by
  rw[eS]at s';exact s'.pop hl
 have e0:Ex o H o H':=Ex.pop (o':=o) e;obtain⟨vs,ev,l⟩:=s'.cont k a ds ea ac;have na:a∉o:=fun m=>by
  obtain⟨j,ej⟩:=mem_iff_getElem?.mp m;have hj:j<o.length:=(List.getElem?_eq_some_iff.mp ej).1;have:=qZ s'.nd (iU (t:=r) ej) ea;rw[hs.len]at hk;omega
 have nh:a∉h:=s'.dis a (dh ea);have hn:H a=none:=by
  cases eh:H a with
  |none=>rfl
  |some u=>exact absurd (dh ea) (e.kp a u na eh).1
 have e1:Ex o H (o++[a]) H':=⟨⟨[a],rfl⟩,fun b u hb eb=>⟨by simp only[mem_append,mem_singleton,not_or];exact⟨hb,zO eb hn⟩,(e0.kp b u hb eb).2⟩⟩;have sub:Same (vx h (o++r) H') (vx h (o++[a]) H'):=fun b u eb=>by
  obtain⟨z1,z2,z3⟩:=zU.mp eb;refine zU.mpr ⟨z1,?_,z3⟩;simp only[mem_append,mem_singleton,not_or];exact⟨fun m=>z2 (fk _ m),fun z=>z2 (by rw[z];exact dh ea)⟩
 refine⟨e1,sub,⟨by rw[cq,cq,hl];rfl,nL hs.nd na,fun b hb=>?_,s0.hal,fun j b es q1 q2=>?_⟩⟩
 ·rcases mem_append.mp hb with hb|hb
  ·exact hs.dis b hb
  ·rw[mem_singleton.mp hb];exact nh
 ·by_cases hj:j<o.length
  ·rw[fq hj]at q1;rw[fq (by rw[hl];exact hj),List.getElem?_take_of_lt (by rw[hs.len];exact hj)]at q2;obtain⟨ws,e3,l3⟩:=s'.cont j b es (iU q1) q2;exact⟨ws,e3,l3.mono sub⟩
  ·have aa:j=o.length:=by
    obtain⟨q,_⟩:=List.getElem?_eq_some_iff.mp q1;rw[cq,gb]at q;omega
   subst aa;rw[ck]at q1;rw[<- hl,ck]at q2;cases q1;cases q2;exact⟨vs,ev,l.mono sub⟩
theorem Ei{h o:List Addr}{H:Hp}{S:Sto}{R:RX}{Q:VK}(hs:RepS h o H S)(c:Cn h o H R Q):Cn h o H (fin S.length R) Q:=fun o' H' S' y v e s' hy q=>by
 obtain⟨r,rfl⟩:=e.pre;have eS:S'=S'.take S.length++S'.drop S.length:=(re _ _).symm;have hl:(S'.take S.length).length=o.length:=by
  have:=s'.len;rw[cq]at this;rw[gc,this,hs.len];omega
 have s0:RepS h o H' (S'.take S.length):=by
  rw[eS]at s';exact s'.pop hl
 have e0:Ex o H o H':=Ex.pop (o':=o) e;cases y with
 |d d=>exact c o H' _ (.d d) v e0 s0 (Has.mono eR d v hy) q
 |o w=>exact c o H' _ (.o w) v e0 s0 hy q
 |x C fs=>exact c o H' _ (.x C fs) v e0 s0 (HasE.mono eR hy) q
 |i C fs=>exact c o H' _ (.i C fs) v e0 s0 (HasI.mono eR hy) q
 |p k d=>
  obtain⟨hk,ds,aa,q⟩:=q;obtain⟨t,a,u,rfl,ea,et,hu⟩:=hy;obtain⟨e1,sub,s1⟩:=Dc hs e s' yw ea aa;exact c (o++[a]) H' _ (.p S.length d) _ e1 s1 ⟨t,a,u,rfl,by rw[hs.len,ck],sub _ _ et,Has.mono sub _ _ hu⟩ q
 |l k=>
  unfold fin at q;by_cases hk:k<S.length
  ·simp only[hk,↓reduceIte]at q;obtain⟨a,ea,rfl⟩:=hy;exact c o H' _ (.l k) _ e0 s0 ⟨a,by rw[fq (by rw[<- hs.len];exact hk)]at ea;exact ea,rfl⟩ q
  ·simp only[hk,↓reduceIte]at q;obtain⟨ds,aa,q⟩:=q;obtain⟨a,ea,rfl⟩:=hy;obtain⟨vs,ev,l⟩:=s'.cont k a ds ea aa;have na:a∉o:=fun m=>by
    obtain⟨j,ej⟩:=mem_iff_getElem?.mp m;have hj:j<o.length:=(List.getElem?_eq_some_iff.mp ej).1;have:=qZ s'.nd (iU (t:=r) ej) ea;rw[hs.len]at hk;omega
   have nh:a∉h:=s'.dis a (dh ea);rcases q with q|q
   ·exact c o H' _ (.d (.list ds)) _ e0 s0 (dS.mpr ⟨a,vs,rfl,zU.mpr ⟨nh,na,ev⟩,l.mono eR⟩) q
   ·obtain⟨e1,sub,s1⟩:=Dc hs e s' hk ea aa;exact c (o++[a]) H' _ (.l S.length) _ e1 s1 ⟨a,by rw[hs.len,ck],rfl⟩ q
def aG(n:Nat)(R:RX):DEnds:={ nx:=fun _ S'=>fin n R (.d .none) S',rt:=fin n R }
theorem eok{h o:List Addr}{H:Hp}{S:Sto}{R:RX}{Q:VK}(hs:RepS h o H S)(c:Cn h o H R Q):EOk h o H (aG S.length R) { nx:=fun _ H'=>Q .non H',rt:=Q } :=
 ⟨fun o' H' δ' S' σ' e he aa q=>Ei hs c o' H' S' _ _ e aa xN q,Ei hs c,fun _ _ _ _ _ _ _ _ q=>q.elim,fun _ _ _ _ _ _ _ _ q=>q.elim⟩
def aJ(p:List bg):Prop:=∃l g s:Int,p=[.int l,.int g,.int s]/\0<=l
end
section
def Du(K:bt):List V->Hp->VK->Prop:=fun xs H Q=>∃(p:Addr) (bs:List Bool),xs=[.ref p]/\SqL K H p (bs.map V.bl)/\Q (.bl (bs.all id)) H
theorem A5:ik "all" = some (.builtin "all"):=by decide +kernel
section
variable {X:Cx}
theorem Fo:∀{bs:List Bool}{us:List bb}{i:Nat}{v:bb},Vals (bs.map V.bl) us->us[i]?=some v->∃b,bs[i]?=some b/\v=.bool b
 | [],_,i,v,.nil,e=>by simp at e
 |b::bs,_,0,v,.cons r _,e=>by
  rw[getElem?_cons_zero]at e;cases e;exact⟨b,rfl,r⟩
 |b::bs,_,i+1,v,.cons _ t,e=>by
  obtain⟨c,e1,e2⟩:=Fo (i:=i) (v:=v) t (by simpa using e);exact⟨c,by simpa using e1,e2⟩
theorem K0(bs:List Bool):((iq bs.length).all fun i=>(bs[i]?).getD true)=bs.all id:=by
 rw[nj,all_eq_true,all_eq_true];constructor
 ·intro h b hb;obtain⟨i,hi⟩:=mem_iff_getElem?.mp hb;have hl:=(List.getElem?_eq_some_iff.mp hi).1;have:=h i (mem_range.mpr hl);rw[hi]at this;exact this
 ·intro h i hi;have hl:=mem_range.mp hi;rw[dn hl];exact h _ (getElem_mem hl)
theorem Am(hc:X.calm=true):CallR X (.builtin "all") (Du X.K):=by
 intro zg s σ H xs us Q I r h;obtain⟨p,bs,rfl,hq,q⟩:=h;obtain⟨u,rfl,rx⟩:=vals1 r;cases (show u=bv p from rx);obtain⟨aa,rv,pl,_⟩:=I.list hq;have hl:=pl.isList;have ae:p<s.heap.objs.size:=by
  obtain⟨_,e,_⟩:=hl;exact fi e
 refine call_all_walk (x:=bv p) (my hl ?_);refine⟨s.heap.objs.size,[s.heap.objs.size,p],[s.heap.objs.size],aa.toArray.size,_,_,fun i=>(bs[i]?).getD true,rfl,
  Walks.list (A:=X.A.in1) (I.ok.hd hc) _ p (jq ae) aa.toArray,⟨⟨_,cv _ rfl,rfl,rfl⟩,hl.push _⟩,fun i v s' Q' E' hP hQ=>?_,fun h' tk hk=>?_⟩
 ·obtain⟨b,e,rfl⟩:=Fo (i:=i) (v:=v) rv (by simpa using hP);have ac:Q' b s':=by simpa[e]using hQ
  exact kj ac
 ·have hz:aa.toArray.size=bs.length:=by
   have:=rv.length;rw[cg]at this;simp[this]
  rw[hz,K0];refine⟨.bl _,H,I.kept (t':=tk) fun b o e=>hk b o (fun hm=>?_) (bn _ e),rfl,q⟩;rw[mem_singleton.mp hm]at e;exact jw _ (fi e)
end
def sB:List XV->Sto->RX->Prop:=fun xs S R=>arg1 xs fun x=>∃ds,eJ S x=some ds/\∃ns:List Int,ds=ns.map dq/\R (.d (.int ns.sum)) S
theorem B9{H:Hp}:∀{ns:List Bool}{vs:List V},HasL H (ns.map nv) vs->vs=ns.map V.bl
 | [],vs,h=>zE.mp h
 |n::ns,vs,h=>by
  obtain⟨v,r,rfl,h1,h2⟩:=zu.mp h;rw[jM.mp h1,B9 h2];rfl
def i0:List XV->Sto->RX->Prop:=fun xs S R=>arg1 xs fun x=>∃ds,eJ S x=some ds/\∃ns:List Bool,ds=ns.map nv/\R (.d (.bool (ns.all id))) S
theorem vY{K:bt}:RC (Du K) i0:=fun h o H S xs vs R Q hs hx q c=>by
 obtain⟨x,rfl,ds,hd,ns,rfl,q1⟩:=cK q;obtain⟨v,rfl,aa⟩:=hxs1 hx;obtain⟨a,ws,rfl,ea,l⟩:=c9 hs hd aa;rw[B9 l]at ea;exact⟨a,ns,rfl,.of ea,c o H S _ _ Ex.refl hs (xB _) q1⟩
section
variable {S:Sto}{i:Int}{b:Bool}{z:Str}{ds:List bg}{d:bg}{k:Nat}{x y:XV}{R:RX}{c:String}{p:List bg}{n:Nat}{v:V}
theorem pK{K:Int->Prop}:asI (.d (.int i)) K=K i:=rfl
theorem qK{K:Bool->Prop}:asB (.d (.bool b)) K=K b:=rfl
theorem sQ{K:Str->Prop}:asS (.d (.str z)) K=K z:=rfl
theorem p8{K:List bg->Prop}:asT (.d (.tuple ds)) K=K ds:=rfl
theorem qH{K:bg->Prop}:asD (.d d) K=K d:=rfl
theorem sE:eJ S (.d (.list ds))=some ds:=rfl
theorem tP:asQ S (.d (.list ds))=some ds:=rfl
theorem qQ:asQ S (.d (.tuple ds))=some ds:=rfl
theorem qN:asQ S (.l k)=S[k]?:=rfl
theorem qD:cM S (.d d)=some d:=rfl
theorem pS:cM S (.l k)=(S[k]?).map .list:=rfl
theorem qA:ret0 S R (.d d) []=R (.d d) S:=rfl
theorem qM:ret0 S R (.l 0) [ds]=R (.l S.length) (S++[ds]):=rfl
theorem rC:vI k S R (.d d) [p]=R (.d d) (S.set k p):=rfl
theorem qP:fin n R (.d d) S=R (.d d) (S.take n):=rfl
theorem pU:fin n R (.l k) S=if k<n then R (.l k) (S.take n)else ∃ds,S[k]?=some ds/\(R (.d (.list ds)) (S.take n)\/R (.l n) (S.take n++[ds])):=rfl
theorem pV{K:XV->Prop}:arg1 [x] K=K x:=rfl
theorem tI{K:XV->XV->Prop}:arg2 [x,y] K=K x y:=rfl
theorem tY{K:String->Prop}:A7 (.o (.ty c)) K↔K c:=⟨fun⟨_,e,q⟩=>by cases e;exact q,fun q=>⟨c,rfl,q⟩⟩
theorem qJ{K:Int->Prop}:BE (.d (.bool b)) K=K (if b then 1 else 0):=rfl
theorem tE:(aG n R).rt x S=fin n R x S:=rfl
theorem uN:datas []=some []:=rfl
theorem uM{r:List XV}:datas (.d d::r)=(datas r).map (d :: ·):=rfl
end
theorem sV{α:Type}{a:α}{l:List α}:atI (a::l) 0=some a:=c6 (j:=0) rfl
theorem pZ{α:Type}{a b:α}{l:List α}:atI (a::b::l) 1=some b:=c6 (j:=1) rfl
theorem pA{α:Type}{a b c:α}{l:List α}:atI (a::b::c::l) 2=some c:=c6 (j:=2) rfl
theorem rG{α:Type}{a b c d:α}{l:List α}:atI (a::b::c::d::l) 3=some d:=c6 (j:=3) rfl
def Shp(n:Nat)(d:bg):Prop:=d.canLay0=true/\d.depth<=n
theorem F7{n:Nat}{i:Int}:Shp n (.int i):=⟨rfl,qc _⟩
theorem F8{n:Nat}{i:Bool}:Shp n (.bool i):=⟨rfl,qc _⟩
theorem AH{n:Nat}:∀{ds:List bg},(∀d∈ds,Shp n d)->nc ds=true/\ko ds<=n
 | [],_=>⟨by simp only[nc],by simp only[ko];exact qc _⟩
 |d::ds,h=>by
  obtain⟨h1,h2⟩:=h d cw;obtain⟨h3,h4⟩:=AH (ds:=ds) fun e m=>h e (cn _ m);simp only[nc,ko,h1,h3,Bool.and_true,true_and];omega
theorem m5{n:Nat}{ds:List bg}(h:∀d∈ds,Shp n d):Shp (n+1) (.list ds):=by
 obtain⟨h1,h2⟩:=AH h;exact⟨by simp only[jy];exact h1,by simp only[PyData.depth];omega⟩
theorem Kr{n:Nat}{ds:List bg}(h:∀d∈ds,Shp n d):Shp (n+1) (.tuple ds):=by
 obtain⟨h1,h2⟩:=AH h;exact⟨by simp only[jy];exact h1,by simp only[PyData.depth];omega⟩
theorem nB{α:Type}{n:Nat}{f:α->bg}{l:List α}(h:∀x∈l,Shp n (f x)):∀d∈l.map f,Shp n d:=fun d m=>by
 obtain⟨x,hx,rfl⟩:=mem_map.mp m;exact h x hx
theorem IG{n:Nat}{a b:bg}(h1:Shp n a)(h2:Shp n b):∀d∈[a,b],Shp n d:=by
 intro d m;simp only[jt,ia,or_false]at m;rcases m with rfl|rfl
 ·exact h1
 ·exact h2
theorem Shp.ok{n:Nat}{d:bg}(h:Shp n d)(hn:n<=64:=by decide):dy d=true:=by
 unfold dy;rw[h.1,bx (ie h.2 hn)];rfl
theorem eU{g:DG}{b:DS}{E:DEnds}:∀{ds:List bg}{δ:XE}{S:Sto} (I:Nat->XE->Sto->Prop),I 0 δ S ->
  (∀i d δ S (N:XE->Sto->Prop),ds[i]?=some d->I i δ S->(∀ δ' S',I (i+1) δ' S'->N δ' S')->g (.d d) δ S fun δ1 S1=>b { nx:=N,ct:=N,bk:=E.nx,rt:=E.rt } δ1 S1) ->
  (∀ δ S,I ds.length δ S->E.nx δ S)->kJ g b ds E δ S
 | [],δ,S,I,h0,_,fin=>fin δ S h0
 |d::ds,δ,S,I,h0,step,fin=>by
  show g (.d d) δ S fun δ1 S1=>b _ δ1 S1;refine step 0 d δ S _ rfl h0 fun δ' S' h1=>?_;exact eU (ds:=ds) (fun i=>I (i+1)) h1 (fun i e δ S N hi=>step (i+1) e δ S N (by simpa using hi)) fin
theorem w8{α:Type}{l:List α}{a b:α}{n:Nat}(h:l.length=n):(l++[a]).set n b=l++[b]:=by
 subst h;rw[List.set_append_right _ _ (fe _),Nat.sub_self];rfl
theorem Cl{H:Hp}:RepS [] [] H []:=⟨rfl,nodup_nil,fun _ h=>(nomatch h),fun _ h=>(nomatch h),fun _ _ _ e=>(by simp at e)⟩
theorem Ex.same_nil{o':List Addr}{H H':Hp}(e:Ex [] H o' H'):Same H H':=fun b u q=>(e.kp b u yv q).2
theorem M4{K:bt}{a:Addr}{ns:List Int}{N:Int}{j m:Nat}{tb:TS}{db:DS}{D:Ends}{σ:St}{H:Hp}(hb:RS tb db)(h0:σ[0]?=some (some (.ref a)))(hl:σ.length=m+1)(hS:SqL K H a (ns.map V.int))(aa:ns.length<=63)
  (turn:∀n:Int,db { nx:=fun δ _=>δ[0]?=some (some (.o (.ref a)))/\δ.length=m+1,ct:=fun δ _=>δ[0]?=some (some (.o (.ref a)))/\δ.length=m+1,rt:=fun _ _=>False } ((some (.o (.ref a))::bo m none).set j (some (.d (.int n)))) [])
  (hj:j≠0) (done:∀(σ:St) (H1:Hp),Same H H1->D.nx σ H1):
  oY (AL K (tOp oV (kC (fQ (tC2 (yZ K) (f6 0) (tC (.int 0))) nY)) (tSl (rH K) (f6 0) (oX (tC (.int 1))) (oX (tC (.int N)))))) (gP j) tb D σ H:=by
 refine JV (a:=a) (ns:=ns) (fun σ=>σ[0]?=some (some (.ref a))/\σ.length=m+1) h0 hS aa ⟨h0,hl⟩ ?_ fun σ H1 _ s=>done σ H1 s;rintro n σ1 H1 H2 ⟨z0,z1⟩ s1 s2;refine hb [] [] H2 _ _ [] _ _ ⟨by simp[z1],fun i x e=>?_⟩ Cl (turn n) ⟨?_,fun _ _ _ _ _ _ _ _ q=>q.elim,fun _ _ _ _ _ _ _ _ q=>q.elim,?_⟩
 ·rw[getElem?_set]at e ⊢;by_cases hij:j=i
  ·rw[cm hij]at e ⊢;by_cases hjl:j<m+1
   ·rw[cm (by simpa using hjl)]at e;rw[cm (by rw[z1];exact hjl)];cases e;exact⟨.int n,rfl,xI n⟩
   ·rw[cb (by simpa using hjl)]at e;cases e
  ·rw[cb hij]at e ⊢;cases i with
   |zero=>
    cases e;exact⟨.ref a,z0,rfl⟩
   |succ i=>
    rw[ku,qd]at e;split at e<;>cases e
 ·rintro o' H' δ' S' σ' e he hs ⟨q1,q2⟩;obtain⟨v,ev,hv⟩:=he.get 0 _ q1;cases hv;exact⟨s2.trans e.same_nil,ev,by rw[<- he.len];exact q2⟩
 ·rintro o' H' δ' S' σ' e he hs ⟨q1,q2⟩;obtain⟨v,ev,hv⟩:=he.get 0 _ q1;cases hv;exact⟨s2.trans e.same_nil,ev,by rw[<- he.len];exact q2⟩
theorem Hq{a:Addr}{m:Nat}{t u:TS}{dt:DS}{D:Ends}{σ:St}{H:Hp}(ht:RS t dt)(h0:σ[0]?=some (some (.ref a)))(hl:σ.length=m+1)
  (go:dt { nx:=fun δ _=>δ[0]?=some (some (.o (.ref a)))/\δ.length=m+1,rt:=fun _ _=>False } (some (.o (.ref a))::bo m none) [])
  (next:∀(σ:St) (H1:Hp),σ[0]?=some (some (.ref a))->σ.length=m+1->Same H H1->u D σ H1):bM t u D σ H:=by
 refine ht [] [] H _ _ [] _ _ ⟨by simp[hl],fun i x e=>?_⟩ Cl go ⟨?_,fun _ _ _ _ _ _ _ _ q=>q.elim,fun _ _ _ _ _ _ _ _ q=>q.elim,fun _ _ _ _ _ _ _ _ q=>q.elim⟩
 ·cases i with
  |zero=>
   cases e;exact⟨.ref a,h0,rfl⟩
  |succ i=>
   rw[ku,qd]at e;split at e<;>cases e
 ·rintro o' H' δ' S' σ' e he hs ⟨q1,q2⟩;obtain⟨v,ev,hv⟩:=he.get 0 _ q1;cases hv;exact next σ' H' ev (by rw[<- he.len];exact q2) e.same_nil
end
section
theorem KK{P:df}{w:gg}{K:bt}{tg:Expr}(it:Addr)(lo:Int)(n:Nat):Turn P w K tg (Itr lo n) [it] it (fun i h=>IsLongIter h it (lo+(i:Nat)*1) ((n:Int)-(i:Nat)) 1) where
 mem:=by simp
 obj:=fun i h st b hb=>by
  have e:b=it:=by simpa using hb
  subst e;exact⟨_,st,fun v z=>by
   have z':Data.fields _=Data.cell v:=z;cases z'⟩
 keep:=fun i h h' st k=>k it yv _ st
 item:=by
  intro X hP hw hK hc i zg s σ H E I hf st hg;subst hP hw hK;obtain⟨f0,f1,f2,f3,f4,f5⟩:=hf it yv;have W:=Walks.longrange (prog:=X.prog) (w:=X.w) (I.ok.hd hc) it lo 1 n;refine W.item i s _ _ hg st fun v h' tk hv aa kk=>?_;obtain⟨t,rfl⟩:=hv;have I1:Inv X zg σ H { s with heap:=h',toks:=tk }:=I.turned (fun b o hb e=>kk b o (by simpa using hb) e) f0 f1 f3 f4 f5;refine⟨_,rfl,lT (s:={ s with heap:=h',toks:=tk }) (n:="longrange_iterator") aa rfl rfl dz ⟨.int (lo+i),H,I1,⟨t,?_⟩,⟨rfl,rfl⟩,aa,fun b hb=>(hf b hb).1⟩⟩;rw[Int.mul_one]
 done:=by
  intro X hP hw hK hc i zg s σ H E I hf st hg;subst hP hw hK;obtain⟨f0,f1,f2,f3,f4,f5⟩:=hf it yv;exact wpAny_pyNext_long_end (I.ok.hd hc) st (by have:n<=i:=hg;omega) fun h' eb=>⟨rfl,I.turned (t':=s.toks) (fun b o hb e=>eb b o hb e) f0 f1 f3 f4 f5⟩
 self:=fun _ _ _ _ _ st h=>wpAny_pyIter_longiter st h
section
variable {X:Cx}{tg:Expr}
theorem L9{zg:List (Addr×Obj)}{σ:St}{H:Hp}{s:bf}{R:It->Hp->Prop}{E:bb->bf->Prop}{lo hi:Int}{t u v:Tok}{tk:Nat}(I:Inv X zg σ H s)
  (q:R (Itr lo (hi-lo).toNat) H):bq (model X.prog X.w) X.A (pyIter (.ref s.heap.objs.size)) (PIE X zg σ tg R) E { s with heap:=s.heap.push { cls:=.type "range",data:=.fields #[.int lo t,.int hi u,.int 1 v] },toks:=tk }:=by
 have I1:Inv X zg σ H { s with heap:=s.heap.push { cls:=.type "range",data:=.fields #[.int lo t,.int hi u,.int 1 v] },toks:=tk }:=I.kept fun b o e=>bn _ e;have e1:lo+((0:Nat):Int)*1=lo:=by simp
 have e2:(((hi-lo).toNat:Nat):Int)-((0:Nat):Int)=Builtin.Range.rangeSize lo hi 1:=by rw[rangeSize_one];split<;>omega
 cases hsm:Builtin.Range.small lo hi 1 with
 |true=>
  refine wpAny_pyIter_range (IsRange.new ..) hsm ?_;refine⟨(s.heap.push { cls:=.type "range",data:=.fields #[.int lo t,.int hi u,.int 1 v] }).objs.size,[(s.heap.push { cls:=.type "range",data:=.fields #[.int lo t,.int hi u,.int 1 v] }).objs.size],_,_,H,rfl,
   I1.kept (t':=tk) fun b o e=>bn _ e,LZ _ lo (hi-lo).toNat,?_,fun b hb=>?_,q⟩
  ·show IsRangeIter _ _ (lo+((0:Nat):Int)*1) ((((hi-lo).toNat:Nat):Int)-((0:Nat):Int)) 1;rw[e1,e2];exact cv _ rfl
  ·have e:b=(s.heap.push { cls:=.type "range",data:=.fields #[.int lo t,.int hi u,.int 1 v] }).objs.size:=by simpa using hb
   subst e;exact I1.fpOk (fe _) (I1.hok.fresh (fe _))
 |false=>
  refine wpAny_pyIter_longrange (IsRange.new ..) hsm ?_;refine⟨(s.heap.push { cls:=.type "range",data:=.fields #[.int lo t,.int hi u,.int 1 v] }).objs.size,[(s.heap.push { cls:=.type "range",data:=.fields #[.int lo t,.int hi u,.int 1 v] }).objs.size],_,_,H,rfl,
   I1.kept (t':=tk) fun b o e=>bn _ e,KK _ lo (hi-lo).toNat,?_,fun b hb=>?_,q⟩
  ·show IsLongIter _ _ (lo+((0:Nat):Int)*1) ((((hi-lo).toNat:Nat):Int)-((0:Nat):Int)) 1;rw[e1,e2];exact cv _ rfl
  ·have e:b=(s.heap.push { cls:=.type "range",data:=.fields #[.int lo t,.int hi u,.int 1 v] }).objs.size:=by simpa using hb
   subst e;exact I1.fpOk (fe _) (I1.hok.fresh (fe _))
def E8(ta:TA):TI:=fun σ H R=>ta σ H fun vs H1=>∃j:Int,vs=[.int j]/\R (Itr 0 j.toNat) H1
theorem jZ{a:Expr}{ta:TA}{p pos:Pos}(hg:Gl X "range")(hm:X.mg "range" = none)(ha:PA X [a] ta)(hs:cu [a] X.env=[(false,eval a X.env)]:=by rfl):PI X tg (.Call (.Name "range" p) [a] [] pos) (E8 ta):=by
 intro zg s σ H R I h;refine Call_ (gY I hg hm boot_range (jh (thn (ha pos zg s σ H _ I h) fun us s1 ⟨vs,H1,I1,r1,q1⟩=>?_) hs rfl));obtain⟨j,e,q⟩:=q1;subst e;cases r1 with
 |cons r rr=>
  cases rr;obtain⟨t,rfl⟩:=r;exact call_range_1 (L9 I1 (by simpa using q))
end
def eO(a:DA):DI:=fun δ S R=>a δ S fun xs S1=>arg1 xs fun x=>asI x fun j=>R (kO 0 j.toNat) S1
def sG(a:DA):DI:=fun δ S R=>a δ S fun xs S1=>arg2 xs fun x y=>asI x fun i=>asI y fun j=>R (kO i (j-i).toNat) S1
theorem n5{ta:TA}{da:DA}(ha:RA ta da):RI (E8 ta) (eO da):=fun h o H δ σ S R Q he hs q c=>
 ha h o H δ σ S _ _ he hs q fun o1 H1 S1 xs vs e1 s1 x1 d0=>by
  obtain⟨x,rfl,d2⟩:=cK d0;obtain⟨j,rfl,d1⟩:=bU d2;obtain⟨v,rfl,hv⟩:=hxs1 x1;rw[bD hv];exact⟨j,rfl,c o1 H1 S1 _ _ e1 s1 Iu d1⟩
end
section
open Sem (wp)
open AutoSeq1 (wpAny_loadPart')
section
variable {X:Cx}{zg:List (Addr×Obj)}{σ:St}{H:Hp}{s:bf}{h':Heap}
theorem Inv.turnLaid{t':Nat}{ch:List Addr}{T:Addr}{o:HO}(I:Inv X zg σ H s)(k:∀b u,b∉ch->s.heap.get? b=some u->h'.get? b=some u)(hf:∀b∈ch,FpOk X zg H b)(hT:s.heap.objs.size<=T)
  (new:ObjOk X.prog X.w (upd H T o) h' T o):Inv X zg σ (upd H T o) { s with heap:=h',toks:=t' }:=by
 have hn:H T=none:=I.hok.fresh hT;have aa:∀b u,H b=some u->b∉ch:=fun b u e m=>by rw[(hf b m).1]at e;cases e
 have ac:∀b u,s.heap.get? b=some u->b≠T:=fun b u e z=>absurd (fc (fi e) hT) (by rw[z];exact jw _);have up:∀b u,H b=some u->upd H T o b=some u:=fun b u e=>(zL (zO e hn)).trans e;refine I.step (g':=s.gens) (d':=s.drawn) (ch:=ch) (fun b hb=>?_) (fun b u _ _ hc e _=>k b u hc e) (fun b u _ _ hc e _=>⟨u.slots,k b u hc e⟩) (fun b u _ e n=>(zL (ac b u e)).trans n)
  (fun b u hc e=>⟨u,k b u hc e⟩) (fun b xs e=>up b _ e) (fun b u v e=>up b _ e) (fun b ps e=>up b _ e) (fun m hm=>?_) (fun b u e=>?_) I.bare
 ·obtain⟨_,f1,_,f3,f4,f5⟩:=hf b hb;exact⟨f3,f1,f4,f5⟩
 ·obtain⟨ob,es,ep,ho,r⟩:=hm;exact⟨ob,es,ep,k _ ob (fun z=>(hf _ z).2.1 rfl) ho,r⟩
 ·by_cases hb:b=T
  ·subst hb;rw[zQ]at e;cases e;exact new
  ·rw[zL hb]at e;refine(I.hok b u e).stay (fun c v hc q=>k c v ?_ q) (fun c q=>up c _ q) (fun c xs q=>up c _ q) fun c o u q=>up c _ q;rcases hc with z|z
   ·rw[z];exact aa b u e
   ·exact aa c _ z
theorem Inv.turnedN{t':Nat}{ch:List Addr}(I:Inv X zg σ H s)(k:∀b u,b∉ch->s.heap.get? b=some u->h'.get? b=some u)(hf:∀b∈ch,FpOk X zg H b):Inv X zg σ H { s with heap:=h',toks:=t' }:=by
 have aa:∀b u,H b=some u->b∉ch:=fun b u e m=>by rw[(hf b m).1]at e;cases e
 refine I.step (g':=s.gens) (d':=s.drawn) (ch:=ch) (fun b hb=>?_) (fun b u _ _ hc e _=>k b u hc e) (fun b u _ _ hc e _=>⟨u.slots,k b u hc e⟩) (fun b u _ e n=>n)
  (fun b u hc e=>⟨u,k b u hc e⟩) (fun b xs e=>e) (fun b u v e=>e) (fun b ps e=>e) (fun m hm=>?_) (fun b u e=>?_) I.bare
 ·obtain⟨_,f1,_,f3,f4,f5⟩:=hf b hb;exact⟨f3,f1,f4,f5⟩
 ·obtain⟨ob,es,ep,ho,r⟩:=hm;exact⟨ob,es,ep,k _ ob (fun z=>(hf _ z).2.1 rfl) ho,r⟩
 ·refine(I.hok b u e).stay (fun c v hc q=>k c v ?_ q) (fun _ q=>q) fun _ _ q=>q;rcases hc with z|z
  ·rw[z];exact aa b u e
  ·exact aa c _ z
end
section
variable {prog:df}{w:gg}{A:fm}{E:bb->bf->Prop}{s:bf}
theorem Ku{j t:Addr}{i:Nat}{vs:Array bb}{x:bb}{Q:bb->bf->Prop}(hj:s.heap.IsTupleIter j t i)(ht:s.heap.IsTuple t vs)(hx:vs[i]?=some x)
  (hQ:∀g,g.IsTupleIter j t (i+1)->fj j s.heap g->Q x { s with heap:=g }):bq (model prog w) A (fb (.ref j)) Q E s:=by
 obtain⟨oj,ej,cj,dj⟩:=id hj;obtain⟨ot,et,_,nt,dt⟩:=ht;unfold fb;refine bc (jx (name:=dw "__next__") hj.typeIs F.slot_tuple_iterator_next (lx F.slot_tuple_iterator_next hj.typeIs F.entry_tuple_iterator_next ?_ (F.args_tuple_iterator_next_1 _)));show bq _ _ (field (.ref j) 0 >>= _) _ _ s;refine bc (fw ej dj (x:=.ref t) rfl ?_);show bq _ _ (ite ((bv t==gf)=true) _ _) _ _ s;refine(cb (show ¬((bv t==gf)=true)from jo))▸?_;show bq _ _ (field (.ref j) 1 >>= _) _ _ s;refine bc (fw ej dj (x:=.int i 0) rfl ?_);refine bc (m:=seqItems? (.ref t)) (lh et dt ?_);simp only[hx,oy];refine bc (pq ej dj yv (bp ⟨x,rfl,bp (hQ _ ⟨_,je _ ej (jr (jp dj _)),(Obj.cls_mapFields ..).trans cj,?_⟩ (Heap.SameBut.update ..))⟩));rw[jp dj];simp[ml]
theorem Oo{j t:Addr}{i:Nat}{vs:Array bb}{Q:bb->bf->Prop}(hh:A.handled=none)(hj:s.heap.IsTupleIter j t i)(ht:s.heap.IsTuple t vs)(hx:vs[i]?=none)
  (hE:∀g e,Heap.ExtBut j s.heap g->(∃o,g.get? e=some o/\o.cls=.type "StopIteration")->E (.ref e) { s with heap:=g }):bq (model prog w) A (fb (.ref j)) Q E s:=by
 obtain⟨oj,ej,cj,dj⟩:=id hj;obtain⟨ot,et,_,nt,dt⟩:=ht;unfold fb;refine bc (jx (name:=dw "__next__") hj.typeIs F.slot_tuple_iterator_next (lx F.slot_tuple_iterator_next hj.typeIs F.entry_tuple_iterator_next ?_ (F.args_tuple_iterator_next_1 _)));show bq _ _ (field (.ref j) 0 >>= _) _ _ s;refine bc (fw ej dj (x:=.ref t) rfl ?_);show bq _ _ (ite ((bv t==gf)=true) _ _) _ _ s;refine(cb (show ¬((bv t==gf)=true)from jo))▸?_;show bq _ _ (field (.ref j) 1 >>= _) _ _ s;refine bc (fw ej dj (x:=.int i 0) rfl ?_);refine bc (m:=seqItems? (.ref t)) (lh et dt ?_);simp only[hx,oy];refine bc (wpAny_rule (bc (pq ej dj yv ?_)));show bq _ _ (newExc (.type "StopIteration") [] >>= _) _ _ _;refine bc ?_;simp only[newExc,newTuple];refine bc (js ?_ (by size_fits));refine bc (m:=firstArgMember _ _) (wpAny_of_eq (a:=gf) (by first|rfl|(simp only[firstArgMember];rfl)) ?_);refine js ?_ (by size_fits);simp only[raiseNew];refine bc (wpAny_handled ?_)
 first|rw[show A.in1.handled=none from hh]|rw[hh]
 exact bc (bp (wpAny_throw (hE _ _ (((Heap.SameBut.update ..).extBut.push _).push _) ⟨_,cv _ rfl,rfl⟩)))
theorem NS{e j:Addr}{i:Nat}{x aa:bb}{J:Heap->Prop}{Q:bb->bf->Prop}(he:IsEnum s.heap e j i aa)(ac:e≠j)
  (hn:∀(Q':bb->bf->Prop) (E':bb->bf->Prop),(∀g,J g->fj j s.heap g->Q' x { s with heap:=g })->bq (model prog w) A (fb (.ref j)) Q' E' s)
  (hJ:∀g g',J g->(∀o,g.get? j=some o->g'.get? j=some o)->J g')
  (hQ:∀g,IsEnumOut g e j ((i:Int)+1) x s.heap.objs.size->J g->g.get? s.heap.objs.size=some { cls:=.type "tuple",data:=.seq #[.int i s.toks,x] } ->
   (∀b o,b≠e->b≠j->s.heap.get? b=some o->g.get? b=some o)->Q (.ref s.heap.objs.size) { s with heap:=g,toks:=s.toks+1 }):
  bq (model prog w) A (lz.«enumerate.__next__» ⟨[.ref e],[]⟩) (fun fin s'=>∃v,fin=.done (.ret v)/\Q v s') E s:=by
 obtain⟨h0,gs,dr,tk,os⟩:=s;show bq _ _ (field (.ref e) 2 >>= _) _ _ _;refine bc (fw he rfl (x:=.ref j) rfl (bc (hn _ _ fun g1 J1 b1=>?_)));replace b1:fj j h0 g1:=b1;have e1:IsEnum g1 e j i aa:=(b1.2 e ac).trans he;show bq _ _ (field (.ref e) 3 >>= _) _ _ ⟨g1,gs,dr,tk,os⟩;refine bc (fw e1 rfl (x:=ml i) rfl ?_);show bq _ _ (field (.ref e) 4 >>= _) _ _ ⟨g1,gs,dr,tk,os⟩;refine bc (fw e1 rfl (x:=.none) rfl ?_);show bq _ _ (mkInt i >>= _) _ _ ⟨g1,gs,dr,tk,os⟩;refine bc (wpAny_mkInt ?_);show bq _ _ (setField (.ref e) 3 (ml ((i:Int)+1)) >>= _) _ _ ⟨g1,gs,dr,tk+1,os⟩;refine bc (iy e1 yv fun g2 e2 b2=>?_);replace b2:fj e g1 g2:=b2;replace e2:IsEnum g2 e j ((i:Int)+1) aa:=e2;show bq _ _ (setField (.ref e) 4 .none >>= _) _ _ ⟨g2,gs,dr,tk+1,os⟩;refine bc (iy e2 yv fun g3 e3 b3=>?_);replace b3:fj e g2 g3:=b3;replace e3:IsEnum g3 e j ((i:Int)+1) aa:=e3;show bq _ _ (newTuple [.int i tk,x] >>= _) _ _ ⟨g3,gs,dr,tk+1,os⟩;refine bc (wpAny_newTuple ?_);have sz:g3.objs.size=h0.objs.size:=by rw[b3.1,b2.1,b1.1]
 have lt:e<h0.objs.size:=fi he;have e4:IsEnum (g3.push { cls:=.type "tuple",data:=.seq #[.int i tk,x] }) e j ((i:Int)+1) aa:=bn _ e3;have J3:J g3:=hJ _ _ (hJ _ _ J1 fun o q=>b2.extBut j o (gj ac) q) fun o q=>b3.extBut j o (gj ac) q;have J4:J (g3.push { cls:=.type "tuple",data:=.seq #[.int i tk,x] }):=hJ _ _ J3 fun o q=>bn _ q;have t4:(g3.push { cls:=.type "tuple",data:=.seq #[.int i tk,x] }).get? h0.objs.size=some { cls:=.type "tuple",data:=.seq #[.int i tk,x] }:=by rw[<- sz];exact cv _ rfl
 have k4:∀b o,b≠e->b≠j->h0.get? b=some o->(g3.push { cls:=.type "tuple",data:=.seq #[.int i tk,x] }).get? b=some o:=fun b o n1 n2 q=>bn _ (b3.extBut b o n1 (b2.extBut b o n1 (b1.extBut b o n2 q)));generalize g3.push { cls:=.type "tuple",data:=.seq #[.int i tk,x] } = g4 at e4 J4 t4 k4 ⊢;show bq _ _ (gq (.ref e) >>= _) _ _ ⟨g4,gs,dr,tk+1,os⟩;rw[sz];refine bc ?_;unfold gq;refine bc (fw e4 rfl (x:=.none) rfl (bp ?_));simp only[if_true];refine bc (wpAny_rule (bc (fw e4 rfl (x:=aa) rfl (bc (iy e4 yv fun g5 e5 b5=>?_)))));replace b5:fj e g4 g5:=b5;replace e5:IsEnum g5 e j ((i:Int)+1) x:=e5;show bq _ _ (Builtin.SmallTypes.ownedTupleHandOut (.ref e) (.ref h0.objs.size) >>= _) _ _ ⟨g5,gs,dr,tk+1,os⟩;refine bc ?_;unfold Builtin.SmallTypes.ownedTupleHandOut;refine bc (iy e5 yv fun g6 e6 b6=>?_);replace b6:fj e g5 g6:=b6;replace e6:IsEnumOut g6 e j ((i:Int)+1) x h0.objs.size:=e6;refine iy e6 yv fun g7 e7 b7=>?_;replace b7:fj e g6 g7:=b7;replace e7:IsEnumOut g7 e j ((i:Int)+1) x h0.objs.size:=e7;have k7:∀b o,b≠e->g4.get? b=some o->g7.get? b=some o:=fun b o n q=>b7.extBut b o n (b6.extBut b o n (b5.extBut b o n q));exact bc (wpAny_letGo (bp ⟨_,rfl,hQ g7 e7 (hJ _ _ J4 fun o q=>k7 j o (gj ac) q) (k7 _ _ (qg lt) t4) fun b o n1 n2 q=>k7 b o n1 (k4 b o n1 n2 q)⟩))
theorem LV{e j:Addr}{i:Nat}{x aa:bb}{J:Heap->Prop}{Q:Option bb->bf->Prop}(he:IsEnum s.heap e j i aa)(ac:e≠j)
  (hn:∀(A:fm) (Q':bb->bf->Prop) (E':bb->bf->Prop),(∀g,J g->fj j s.heap g->Q' x { s with heap:=g })->bq (model prog w) A (fb (.ref j)) Q' E' s)
  (hJ:∀g g',J g->(∀o,g.get? j=some o->g'.get? j=some o)->J g')
  (hQ:∀g,IsEnumOut g e j ((i:Int)+1) x s.heap.objs.size->J g->g.get? s.heap.objs.size=some { cls:=.type "tuple",data:=.seq #[.int i s.toks,x] } ->
   (∀b o,b≠e->b≠j->s.heap.get? b=some o->g.get? b=some o)->Q (some (.ref s.heap.objs.size)) { s with heap:=g,toks:=s.toks+1 }):bq (model prog w) A (pyNext (.ref e)) Q E s:=by
 have ty:s.TypeIs (.ref e) "enumerate":=⟨_,he,rfl⟩;unfold pyNext;exact bc (wpAny_attempt (jx (name:=dw "__next__") ty F.slot_enumerate_next (lx F.slot_enumerate_next ty F.entry_enumerate_next (NS he ac (hn _) hJ fun g a b c k=>bp (hQ g a b c k)) (F.args_enumerate_next_1 _))))
theorem PP{e j:Addr}{i:Nat}{aa:bb}{Q:Option bb->bf->Prop}(hh:A.handled=none)(he:IsEnum s.heap e j i aa)
  (hn:∀(A:fm) (Q':bb->bf->Prop) (E':bb->bf->Prop),A.handled=none->(∀g x,Heap.ExtBut j s.heap g->(∃o,g.get? x=some o/\o.cls=.type "StopIteration")->E' (.ref x) { s with heap:=g })->bq (model prog w) A (fb (.ref j)) Q' E' s)
  (hQ:∀g,Heap.ExtBut j s.heap g->Q none { s with heap:=g }):bq (model prog w) A (pyNext (.ref e)) Q E s:=by
 have ty:s.TypeIs (.ref e) "enumerate":=⟨_,he,rfl⟩;unfold pyNext;refine bc (wpAny_attempt (jx (name:=dw "__next__") ty F.slot_enumerate_next (lx F.slot_enumerate_next ty F.entry_enumerate_next ?_ (F.args_enumerate_next_1 _))));show bq _ _ (field (.ref e) 2 >>= _) _ _ _;refine bc (fw he rfl (x:=.ref j) rfl (bc (hn _ _ _ hh fun g x b hx=>?_)));obtain⟨o,ho,hc⟩:=hx;exact bc (wpAny_isInstance (T:="StopIteration") (b:=true) ⟨o,ho,hc⟩ isSubtype_stop (bp (hQ _ b)))
theorem ML(t:Addr)(vs:Array bb)(n:Nat)(ac:Option Addr)(sl:Array (Option bb)):Meets (lz.«enumerate.__new__» ⟨[.type "enumerate",.ref t],[]⟩) (fun _ R s=>s.heap.get? t=some { cls:=.type "tuple",dict:=ac,data:=.seq vs n,slots:=sl } /\
   R (.ok (.ret (.ref (s.heap.push { cls:=.type "tuple_iterator",data:=.fields #[.ref t,.int 0 0] }).objs.size)))
    { s with heap:=(s.heap.push { cls:=.type "tuple_iterator",data:=.fields #[.ref t,.int 0 0] }).push { cls:=.type "enumerate",data:=.fields #[.none,.bool false,.ref s.heap.objs.size,ml 0,.none,.none] } }):=
 .of_wp fun prog w A R s aa=>by
  obtain⟨g0,gs,dr,tk,os⟩:=s;obtain⟨ht,aa⟩:=aa;have sub:=sub_enumerate;have hT:Heap.IsTuple (Shared.heap ⟨g0,gs,dr,tk,os⟩) t vs:=⟨_,ht,rfl,n,rfl⟩
  wp_walk using oo ht
  refine wpAny_stack_any fun _=>bp ?_;split
  ·rename_i c _ _ _ _ _;cases (c==og "enumerate")<;>(wp_walk using oo ht,ol hT;exact⟨_,rfl,aa⟩)
  ·wp_walk using oo ht,ol hT
   exact⟨_,rfl,aa⟩
theorem Lc{t:Addr}{vs:Array bb}{Q:bb->bf->Prop}(hT:s.heap.IsTuple t vs)
  (hyp:∀g,IsEnum g (s.heap.objs.size+1) s.heap.objs.size 0 .none->g.IsTupleIter s.heap.objs.size t 0->(∀b o,s.heap.get? b=some o->g.get? b=some o)->Q (.ref (s.heap.objs.size+1)) { s with heap:=g }):bq (model prog w) A (call (.type "enumerate") [.ref t]) Q E s:=by
 obtain⟨⟨c,aa,dt,sl⟩,ht,hc,n,hd⟩:=hT;replace hc:c=.type "tuple":=hc;replace hd:dt=.seq vs n:=hd;subst hc hd;refine callType_new F.called_enumerate dz (F.typeCall_enumerate_1 _) (F.newCall_enumerate_1 _) (fun ob=>F.args_object_init_2 ob _) F.entry_enumerate_new (ML t vs n aa sl) ⟨ht,?_⟩;have sz:(s.heap.push { cls:=.type "tuple_iterator",data:=.fields #[.ref t,.int 0 0] }).objs.size=s.heap.objs.size+1:=su ..;show _/\_;rw[sz];have he:=cv (s.heap.push { cls:=.type "tuple_iterator",data:=.fields #[.ref t,.int 0 0] }) (o:={ cls:=.type "enumerate",data:=.fields #[.none,.bool false,.ref s.heap.objs.size,ml 0,.none,.none] }) rfl;rw[sz]at he;exact⟨⟨_,he,rfl⟩,hyp _ he ⟨_,bn _ (cv _ rfl),rfl,rfl⟩ fun b o q=>bn _ (bn _ q)⟩
end
section
variable {X:Cx}{elts:List Expr}{n:Nat}{tpos:Pos}
theorem GM:ik "enumerate" = some (.type "enumerate"):=by decide +kernel
end
def iI(i:Nat):List bg->List bg
 | []=>[]
 |d::ds=>.tuple [.int i,d]::iI (i+1) ds
theorem vC:∀(ds:List bg) (i:Nat),(iI i ds).length=ds.length
 | [],_=>rfl
 |d::ds,i=>by simp[iI,vC ds (i+1)]
theorem o9:∀(ds:List bg) (i k:Nat) (d:bg),(iI i ds)[k]?=some d->∃e,ds[k]?=some e/\d=.tuple [.int ((i+k:Nat):Int),e]
 | [],_,_,_,h=>by simp[iI]at h
 |c::ds,i,0,d,h=>by
  have e:rf [.int i,c]=d:=by simpa[iI]using h
  exact⟨c,rfl,by rw[<- e];rfl⟩
 |c::ds,i,k+1,d,h=>by
  obtain⟨e,h1,h2⟩:=o9 ds (i+1) k d (by simpa[iI]using h);exact⟨e,by simpa using h1,by rw[h2];congr 3;omega⟩
theorem l9{X:Cx}{x:Str}{i:Int}{pos:Pos}(hg:Gl X x)(hm:∃t,X.mg x=some (.int i t))(hd:(x==("__debug__":Str))=false:=by decide):PE X (.Name x pos) (tC (.int i)):=by
 obtain⟨t,e⟩:=hm;exact fZ hg e ⟨t,rfl⟩ hd
end
section
def dIx:D2:=fun x y S R=>asI y fun i=>match x with
 | .d (.tuple ds)=>∃d,atI ds i=some d/\R (.d d) S
 | .d (.list ds)=>∃d,atI ds i=some d/\R (.d d) S
 | .l k=>∃ds,S[k]?=some ds/\∃d,atI ds i=some d/\R (.d d) S
 | .d (.str z)=>z.length<=bw/\∃c,atI z.cps.toList i=some c/\R (.d (.str ⟨#[c]⟩)) S
 |_=>False
theorem Ln:RO yU (fun x y S R=>asS x fun z=>asI y fun i=>z.length<=bw/\∃c,atI z.cps.toList i=some c/\R (.d (.str ⟨#[c]⟩)) S):=fun h o H S x y v u R Q hs hx hy q c=>by
 replace q:=eX q;obtain⟨z,rfl,q⟩:=q;replace q:=bU q;obtain⟨i,rfl,hz,k,ek,q⟩:=q;exact⟨z,i,k,cI hx,bD hy,hz,ek,c o H S _ _ Ex.refl hs (xS _) q⟩
theorem jP{K:bt}:RO (rIx K) dIx:=fun h o H S x y v u R Q hs hx hy q c=>by
 replace q:=bU q;obtain⟨i,rfl,q⟩:=q;split at q
 ·exact .inr (.inl (Lz h o H S _ _ v u R Q hs hx hy q c))
 ·exact .inl (D5 h o H S _ _ v u R Q hs hx hy ⟨_,rfl,q⟩ c)
 ·exact .inl (D5 h o H S _ _ v u R Q hs hx hy q c)
 ·exact .inr (.inr (Ln h o H S _ _ v u R Q hs hx hy q c))
 ·exact q.elim
section
variable {S:Sto}{R:RX}{ds:List bg}{i:Int}{k:Nat}{z:Str}
theorem tV:dIx (.d (.tuple ds)) (.d (.int i)) S R=∃d,atI ds i=some d/\R (.d d) S:=rfl
theorem rX:dIx (.d (.list ds)) (.d (.int i)) S R=∃d,atI ds i=some d/\R (.d d) S:=rfl
theorem rP:dIx (.l k) (.d (.int i)) S R=∃ds,S[k]?=some ds/\∃d,atI ds i=some d/\R (.d d) S:=rfl
theorem qS:dIx (.d (.str z)) (.d (.int i)) S R=(z.length<=bw/\∃c,atI z.cps.toList i=some c/\R (.d (.str ⟨#[c]⟩)) S):=rfl
end
def EZ(K:bt):V->Option Int->Option Int->Hp->VK->Prop:=fun x a b H Q=>rH K x a b H Q\/(AC K x a b H Q\/Di x a b H Q)
theorem bO{X:Cx}:SlR X (EZ X.K):=CL.or (Iv.or Ji)
def aW:D3:=fun x i j S R=>match x with
 | .d (.tuple ds)=>¬(HT.sIx ds.length 0 i=0/\HT.sIx ds.length ds.length j=ds.length)/\R (.d (.tuple (bI ds i j))) S
 | .d (.list ds)=>R (.d (.list (bI ds i j))) S
 | .l k=>∃ds,S[k]?=some ds/\R (.d (.list (bI ds i j))) S
 | .d (.str z)=>z.length<=bw/\R (.d (.str (PySem.Txt.slice z i j))) S
 |_=>False
theorem Au{K:bt}:RL (EZ K) aW:=fun h o H S x v a b R Q hs hx q c=>by
 unfold aW at q;split at q
 ·exact .inr (.inl (Hg h o H S _ v a b R Q hs hx q c))
 ·exact .inl (B6 h o H S _ v a b R Q hs hx ⟨_,rfl,q⟩ c)
 ·exact .inl (B6 h o H S _ v a b R Q hs hx q c)
 ·exact .inr (.inr ⟨_,cI hx,q.1,c o H S _ _ Ex.refl hs (xS _) q.2⟩)
 ·exact q.elim
section
variable {S:Sto}{R:RX}{ds:List bg}{i j:Option Int}{k:Nat}{z:Str}
theorem uA:aW (.d (.list ds)) i j S R=R (.d (.list (bI ds i j))) S:=rfl
theorem qW:aW (.l k) i j S R=∃ds,S[k]?=some ds/\R (.d (.list (bI ds i j))) S:=rfl
theorem uK:aW (.d (.str z)) i j S R=(z.length<=bw/\R (.d (.str (PySem.Txt.slice z i j))) S):=rfl
end
def Bl(K:bt):R2:=fun x y H Q=>∃a b ys,x=.ref a/\y=.ref b/\SqT K H a []/\SqT K H b ys/\Q (.ref b) H
theorem JT{X:Cx}:OpR X (lq .Add) (Bl X.K):=by
 intro zg s σ H x y v u Q I rx ry h;obtain⟨a,b,ys,rfl,rfl,ha,hb,q⟩:=h;cases rx;cases ry;obtain⟨ac,r1,p1,_⟩:=I.tuple ha;obtain⟨aa,r2,p2,_⟩:=I.tuple hb;cases r1;obtain⟨⟨c1,d1,e1,l1⟩,o1,w1,n1,k1⟩:=id p1;obtain⟨⟨c2,d2,e2,l2⟩,o2,w2,n2,k2⟩:=id p2;simp only at w1 k1 w2 k2;subst w1 k1 w2 k2;exact concat_meets ⟨_,o1,rfl⟩ ⟨_,o2,rfl⟩ noFill_tuple_add seq_tuple_add PySem.F.slot_tuple_add PySem.F.entry_tuple_add (PySem.F.args_tuple_add_2 _ _) (tuple_addW0 a b _ _ n1 n2 d1 d2 l1 l2 yv) ⟨o1,o2,⟨.ref b,H,I,rfl,q⟩⟩
def Bz(K:bt):R2:=fun x y H Q=>rI0 (fun i j=>.int (i+j)) x y H Q\/(oV x y H Q\/(y9 K x y H Q\/(Bl K x y H Q\/∃i j,x=.str i/\y=.str j/\i.length+j.length<=bw/\Q (.str (i++j)) H)))
theorem zr{X:Cx}:OpR X (lq .Add) (Bz X.K):=HK.or (AN.or (Jr.or (JT.or Jw)))
def aB:D2:=fun x y S R=>match x,y with
 | .d (.int i),.d (.int j)=>R (.d (.int (i+j))) S
 | .d (.tuple ds),.d (.tuple es)=>ds.length+es.length<=1000/\R (.d (.tuple (ds++es))) S
 | .d (.str a),.d (.str b)=>a.length+b.length<=bw/\R (.d (.str (a++b))) S
 |x,y=>asL S x fun ds=>asL S y fun es=>ds.length+es.length<=1000/\R (.d (.list (ds++es))) S
theorem fG{K:bt}:RO (Bz K) aB:=fun h o H S x y v u R Q hs hx hy q c=>by
 unfold aB at q;split at q
 ·exact .inl (Cd h o H S _ _ v u R Q hs hx hy q c)
 ·rename_i ds es;cases ds with
  |cons d ds=>exact .inr (.inr (.inl (L5 h o H S _ _ v u R Q hs hx hy ⟨yv,q⟩ c)))
  |nil=>
   obtain⟨a,vs,rfl,ea,l⟩:=jG hx;obtain⟨b,us,rfl,eb,l'⟩:=jG hy;rw[zE.mp l]at ea;exact .inr (.inr (.inr (.inl ⟨a,b,us,rfl,rfl,.of ea,.of eb,c o H S (.d (.tuple es)) _ Ex.refl hs hy q.2⟩)))
 ·exact .inr (.inr (.inr (.inr ⟨_,_,cI hx,cI hy,q.1,c o H S _ _ Ex.refl hs (xS _) q.2⟩)))
 ·exact .inr (.inl (ON h o H S _ _ v u R Q hs hx hy q c))
section
variable {S:Sto}{R:RX}{ds es:List bg}{i j:Int}{k l:Nat}{a b:Str}
theorem tF:aB (.d (.int i)) (.d (.int j)) S R=R (.d (.int (i+j))) S:=rfl
theorem pC:aB (.d (.tuple ds)) (.d (.tuple es)) S R=(ds.length+es.length<=1000/\R (.d (.tuple (ds++es))) S):=rfl
theorem pO:aB (.d (.str a)) (.d (.str b)) S R=(a.length+b.length<=bw/\R (.d (.str (a++b))) S):=rfl
theorem pQ:aB (.d (.list ds)) (.d (.list es)) S R↔(ds.length+es.length<=1000/\R (.d (.list (ds++es))) S):=⟨fun⟨_,e,_,e',q⟩=>by cases e;cases e';exact q,fun q=>⟨_,rfl,_,rfl,q⟩⟩
end
def FJ:R2:=fun x y H Q=>rI IntMulOk (fun i j=>.int (i*j)) x y H Q\/(GZ x y H Q\/EG x y H Q)
theorem dW{X:Cx}:OpR X (lq .Mult) FJ:=Jz.or (Jm.or JW)
def cE:D2:=fun x y S R=>asI y fun j=>match x with
 | .d (.int i)=>IntMulOk i j/\R (.d (.int (i*j))) S
 | .d (.str z)=>z.length<=1000/\j<=1000/\-1000<=j/\R (.d (.str (PySem.Txt.mul z j))) S
 | .d (.list ds)=>j<=1000/\-1000<=j/\ds.length*j.toNat<=1000/\R (.d (.list (bo j.toNat ds).flatten)) S
 |_=>False
theorem HasL.rep{H:Hp}{ds:List bg}{vs:List V}(l:HasL H ds vs):∀n:Nat,HasL H (bo n ds).flatten (bo n vs).flatten
 | 0=>zE.mpr rfl
 |n+1=>by
  rw[mn,mn,rb,rb];exact l.append (HasL.rep l n)
theorem qU:RO FJ cE:=fun h o H S x y v u R Q hs hx hy q c=>by
 replace q:=bU q;obtain⟨j,rfl,q⟩:=q;split at q
 ·exact .inl (mF h o H S _ _ v u R Q hs hx hy q c)
 ·exact .inr (.inl ⟨_,_,cI hx,bD hy,q.1,q.2.1,q.2.2.1,c o H S _ _ Ex.refl hs (xS _) q.2.2.2⟩)
 ·obtain⟨a,vs,rfl,ea,l⟩:=c9 (x:=.d (.list _)) hs rfl hx;obtain⟨h1,h2,h3,q⟩:=q;exact .inr (.inr ⟨a,j,vs,rfl,bD hy,ea,yw,yw,by rw[l.length];exact lg (small1000 h3),lC hs (l.rep j.toNat) c q⟩)
 ·exact q.elim
section
variable {S:Sto}{R:RX}{i j:Int}{z:Str}{ds:List bg}
theorem tW:cE (.d (.list ds)) (.d (.int j)) S R=(j<=1000/\-1000<=j/\ds.length*j.toNat<=1000/\R (.d (.list (bo j.toNat ds).flatten)) S):=rfl
theorem tD:cE (.d (.int i)) (.d (.int j)) S R=(IntMulOk i j/\R (.d (.int (i*j))) S):=rfl
theorem pD:cE (.d (.str z)) (.d (.int j)) S R=(z.length<=1000/\j<=1000/\-1000<=j/\R (.d (.str (PySem.Txt.mul z j))) S):=rfl
end
def D8:R2:=fun x y H Q=>rI CDivX (fun i j=>.int (i/j)) x y H Q\/rI CDivN (fun i j=>.int (i.fdiv j)) x y H Q
theorem rS{X:Cx}:OpR X (lq .FloorDiv) D8:=J8.or HU
def dFd:D2:=fun x y S R=>asI x fun i=>asI y fun j=>(CDivX i j/\R (.d (.int (i/j))) S)\/(CDivN i j/\R (.d (.int (i.fdiv j))) S)
theorem MZ:RO D8 dFd:=fun h o H S x y v u R Q hs hx hy q c=>by
 replace q:=bU q;obtain⟨i,rfl,q⟩:=q;replace q:=bU q;obtain⟨j,rfl,q⟩:=q;rcases q with q|q
 ·exact .inl (mF (C:=CDivX) (g:=fun i j=>i/j) h o H S _ _ v u R Q hs hx hy q c)
 ·exact .inr (mF (C:=CDivN) (g:=fun i j=>i.fdiv j) h o H S _ _ v u R Q hs hx hy q c)
def uV(S:Sto):XV->Option Bool
 | .d .none=>some false
 | .d (.bool b)=>some b
 | .d (.int i)=>some (i != 0)
 | .d (.str z)=>if z.length<=bw then some ((z.length:Int) != 0)else none
 | .d (.list ds)=>some (!ds.isEmpty)
 | .d (.tuple ds)=>some (!ds.isEmpty)
 | .l k=>(S[k]?).map fun ds=>!ds.isEmpty
 |_=>none
def bA(a:DE):DT:=fun δ S R=>a δ S fun x S1=>∃k,uV S1 x=some k/\R k S1
theorem AE{H:Hp}{ds:List bg}{vs:List V}(l:HasL H ds vs):(!ds.isEmpty)=!vs.isEmpty:=by
 have:=l.length;cases ds<;>cases vs<;>simp_all
theorem j7{K:bt}{ta:TE}{da:DE}(ha:RE ta da):RT (fun σ H Q=>ta σ H fun x H'=>∃k,TruV K x H' k/\Q k H') (bA da):=fun h o H δ σ S R Q he hs q c=>
 ha h o H δ σ S _ _ he hs q fun o1 H1 S1 x v e1 s1 x1 ⟨k,ek,d1⟩=>by
  refine⟨k,?_,c o1 H1 S1 k e1 s1 d1⟩;unfold uV at ek;split at ek
  ·cases ek;rw[(nE (H:=vx h o1 H1)).mp x1];rfl
  ·cases ek;rw[kE x1];rfl
  ·cases ek;rw[bD x1];rfl
  ·split at ek
   ·rename_i hz;cases ek;rw[cI x1];exact⟨hz,rfl⟩
   ·cases ek
  ·obtain⟨a,vs,rfl,ea,l⟩:=c9 (x:=.d (.list _)) s1 rfl x1;cases ek;exact .inl ⟨vs,.of ea,AE l⟩
  ·obtain⟨a,vs,rfl,ea,l⟩:=jG x1;cases ek;exact .inr (.inl ⟨vs,.of ea,AE l⟩)
  ·rename_i j _;cases hj:S1[j]? with
   |none=>rw[hj]at ek;cases ek
   |some ds=>
    rw[hj]at ek;cases ek;obtain⟨a,vs,rfl,ea,l⟩:=c9 (x:=.l j) s1 hj x1;exact .inl ⟨vs,.of ea,AE l⟩
  ·cases ek
section
variable {S:Sto}{b:Bool}{i:Int}{ds:List bg}{k:Nat}
theorem rN:uV S (.d (.bool b))=some b:=rfl
theorem rD:uV S (.d (.tuple ds))=some (!ds.isEmpty):=rfl
end
def uD:DS:=fun _ _ _=>False
def Fq(K:bt)(tl:TE):TI:=fun σ H R=>tl σ H fun x H1=>∃a,x=.ref a/\(((∃xs,SqL K H1 a xs)/\R (Itl K a) H1)\/((∃xs,SqT K H1 a xs)/\R (Itt K a) H1))
theorem fC{X:Cx}{tg:Expr}{l:Expr}{tl:TE}(hl:PE X l tl):PI X tg l (Fq X.K tl):=by
 intro zg s σ H R I h;refine thn (hl zg s σ H _ I h) fun v s1 ⟨x,H1,I1,r1,q1⟩=>?_;obtain⟨a,e,⟨⟨xs,hq⟩,q⟩|⟨⟨xs,hq⟩,q⟩⟩:=q1
 ·subst e;cases r1;obtain⟨aa,rv,p,hz⟩:=I1.list hq;refine my p.isList ?_;refine⟨s1.heap.objs.size,[s1.heap.objs.size],_,_,H1,rfl,I1.kept (t':=s1.toks) fun b o e=>bn _ e,BP a _,⟨_,cv _ rfl,rfl,rfl⟩,fun b hb=>?_,q⟩;have e:b=s1.heap.objs.size:=by simpa using hb
  subst e;exact I1.fpOk (fe _) (I1.hok.fresh (fe _))
 ·subst e;cases r1;obtain⟨aa,rv,p,hz⟩:=I1.tuple hq;refine ol (show s1.heap.IsTuple a aa.toArray from p) ?_;refine⟨s1.heap.objs.size,[s1.heap.objs.size],_,_,H1,rfl,I1.kept (t':=s1.toks) fun b o e=>bn _ e,Lb a _,⟨_,cv _ rfl,rfl,rfl⟩,fun b hb=>?_,q⟩;have e:b=s1.heap.objs.size:=by simpa using hb
  subst e;exact I1.fpOk (fe _) (I1.hok.fresh (fe _))
def dY:XV->Option (List bg)
 | .d (.list ds)=>some ds
 | .d (.tuple ds)=>some ds
 |_=>none
theorem tN{ds:List bg}:dY (.d (.list ds))=some ds:=rfl
theorem sX{ds:List bg}:dY (.d (.tuple ds))=some ds:=rfl
def cB(e:DE):DI:=fun δ S R=>e δ S fun x S1=>∃ds,dY x=some ds/\R ds S1
theorem hZ{K:bt}{te:TE}{de:DE}(aa:RE te de):RI (Fq K te) (cB de):=fun h o H δ σ S R Q he hs q c=>
 aa h o H δ σ S _ _ he hs q fun o1 H1 S1 x v e1 s1 x1 ⟨ds,ex,d1⟩=>by
  unfold dY at ex;split at ex
  ·cases ex;obtain⟨a,vs,rfl,ea,l⟩:=dS.mp (show Has _ _ _ from x1);have hl:=l.length;refine⟨a,rfl,.inl ⟨⟨vs,.of (bQ _ _ ea)⟩,c o1 H1 S1 ds _ e1 s1 ⟨fun i o2 H2 e2 hi=>⟨vs,.of (bQ _ _ (e2.vx _ _ ea)),yw⟩,fun i d o2 H2 e2 hi=>?_,fun i d o2 H2 x H3 S2 e2 s2 hi y=>?_⟩ d1⟩⟩
   ·obtain⟨v,ev,_⟩:=l.get hi;exact⟨vs,v,.of (bQ _ _ (e2.vx _ _ ea)),ev⟩
   ·obtain⟨v,ev,hv⟩:=l.get hi;have e3:H3=H2:=y.1;subst e3;have ex:=y.2 vs (.of (bQ _ _ (e2.vx _ _ ea)));rw[ev]at ex;cases ex;exact⟨Same.refl _,hv.mono e2.vx⟩
  ·cases ex;obtain⟨a,vs,rfl,ea,l⟩:=dG.mp (show Has _ _ _ from x1);have hl:=l.length;refine⟨a,rfl,.inr ⟨⟨vs,.of (bQ _ _ ea)⟩,c o1 H1 S1 ds _ e1 s1 ⟨fun i o2 H2 e2 hi=>⟨vs,.of (bQ _ _ (e2.vx _ _ ea)),yw⟩,fun i d o2 H2 e2 hi=>?_,fun i d o2 H2 x H3 S2 e2 s2 hi y=>?_⟩ d1⟩⟩
   ·obtain⟨v,ev,_⟩:=l.get hi;exact⟨vs,v,.of (bQ _ _ (e2.vx _ _ ea)),ev⟩
   ·obtain⟨v,ev,hv⟩:=l.get hi;have e3:H3=H2:=y.1;subst e3;have ex:=y.2 vs (.of (bQ _ _ (e2.vx _ _ ea)));rw[ev]at ex;cases ex;exact⟨Same.refl _,hv.mono e2.vx⟩
  ·cases ex
def g9(dt:DS):DS:=fun E δ S=>dt { E with nx:=fun δ' S'=>∃S0 ds,S'=S0++[ds]/\S.length<=S0.length/\E.nx (δ'.map (frz S0.length ds)) S0 } δ S
theorem An{t:TS}{dt:DS}(ht:RS t dt):RS t (g9 dt):=fun h o H δ σ S E D he hs q c=>by
 refine ht h o H δ σ S _ D he hs q ⟨fun o' H' δ' S' σ' e aa ac ⟨S0,ds,eS,hl,n⟩=>?_,c.rt,c.bk,c.ct⟩;subst eS;obtain⟨r,rfl⟩:=e.pre;have hL:=ac.len;simp only[cq,gb]at hL;have hS:=hs.len;have af:r≠[]:=fun z=>by subst z;simp at hL;omega
 obtain⟨r0,a,rfl⟩:∃r0 a,r=r0++[a]:=⟨r.dropLast,r.getLast af,(List.dropLast_concat_getLast af).symm⟩;have ae:S0.length=(o++r0).length:=by simp at hL ⊢;omega
 rw[<- ja]at ac aa e;have nd:=nodup_append.mp ac.nd;have na:a∉o++r0:=fun m=>nd.2.2 a m a yv rfl;have nh:a∉h:=ac.dis a yv;refine c.nx (o++r0) H' _ S0 σ' ⟨⟨r0,rfl⟩,fun b u hb eb=>?_⟩ ⟨by rw[cg];exact aa.len,fun i x ex=>?_⟩ (ac.pop ae) n
 ·obtain⟨z1,z2⟩:=e.kp b u hb eb;exact⟨fun m=>z1 (fk _ m),z2⟩
 ·rw[gx]at ex;obtain⟨y,ey,ex⟩:=map_eq_some_iff.mp ex
  match y,ey,ex with
  |none,ey,ex=>cases ex
  |some (.d d),ey,ex=>
   cases ex;obtain⟨v,e1,e2⟩:=aa.get i _ ey;exact⟨v,e1,Has.mono eR d v e2⟩
  |some (.o w),ey,ex=>
   cases ex;exact aa.get i _ ey
  |some (.x C fs),ey,ex=>
   cases ex;obtain⟨v,e1,e2⟩:=aa.get i _ ey;exact⟨v,e1,HasE.mono eR e2⟩
  |some (.i C fs),ey,ex=>
   cases ex;obtain⟨v,e1,e2⟩:=aa.get i _ ey;exact⟨v,e1,HasI.mono eR e2⟩
  |some (.p k d),ey,ex=>
   obtain⟨v,e1,t,b,u,rfl,eb,et,hu⟩:=aa.get i _ ey;unfold frz at ex;by_cases hk:k=S0.length
   ·simp only[hk,↓reduceIte]at ex;cases ex;rw[hk,ae,ck]at eb;cases eb;obtain⟨vs,ev,l⟩:=ac.cont S0.length a ds (by rw[ae,ck]) (by rw[ck]);exact⟨_,e1,dG.mpr ⟨t,_,rfl,eR _ _ et,zu.mpr ⟨_,_,rfl,dS.mpr ⟨a,vs,rfl,zU.mpr ⟨nh,na,ev⟩,l.mono eR⟩,zu.mpr ⟨u,_,rfl,Has.mono eR _ _ hu,zE.mpr rfl⟩⟩⟩⟩
   ·simp only[hk,↓reduceIte]at ex;cases ex;refine⟨_,e1,t,b,u,rfl,?_,eR _ _ et,Has.mono eR _ _ hu⟩;have ah:k<(o++r0).length:=by
     obtain⟨z,_⟩:=List.getElem?_eq_some_iff.mp eb;rw[cq,gb]at z;omega
    rw[fq ah]at eb;exact eb
  |some (.l k),ey,ex=>
   obtain⟨v,e1,b,eb,rfl⟩:=aa.get i _ ey;unfold frz at ex;by_cases hk:k=S0.length
   ·simp only[hk,↓reduceIte]at ex;cases ex;rw[hk,ae,ck]at eb;cases eb;obtain⟨vs,ev,l⟩:=ac.cont k a ds (by rw[hk,ae,ck]) (by rw[hk,ck]);exact⟨_,e1,dS.mpr ⟨a,vs,rfl,zU.mpr ⟨nh,na,ev⟩,l.mono eR⟩⟩
   ·simp only[hk,↓reduceIte]at ex;cases ex;have ag:=(List.getElem?_eq_some_iff.mp eb).1;simp only[cq,gb]at ag;simp only[cq]at ae;rw[fq (by simp only[cq];omega)]at eb;exact⟨_,e1,b,eb,rfl⟩
section
variable {t1 t2 t3 t4 t5 t6 t7 t8:TS}{d:DS}
theorem FF(h:RS (bM (bM t1 t2) t3) d):RS (bM t1 (bM t2 t3)) d:=h
theorem NU(h:RS (bM (bM t1 (bM t2 t3)) t4) d):RS (bM t1 (bM t2 (bM t3 t4))) d:=h
end
end
section
abbrev PN:=List XV->Sto->RX->Prop
def lfN(q:PN):List V->Hp->VK->Prop:=fun vs H Q=>∃h o S xs R,RepS h o H S/\HasXs h o H xs vs/\q xs S R/\Cn h o H R Q
def spN(ps:List Str)(q:PN):Sp:=fun vs H Q _=>vs.length=ps.length/\lfN q vs H Q
theorem HasXs.len{h o:List Addr}{H:Hp}:∀{xs:List XV}{vs:List V},HasXs h o H xs vs->vs.length=xs.length
 | [],vs,q=>by rw[show vs=[]from q];rfl
 |x::xs,vs,⟨v,r,e,_,l⟩=>by rw[e,cz,cz,HasXs.len l]
theorem HasXs.get{h o:List Addr}{H:Hp}:∀{xs:List XV}{vs:List V}{i:Nat}{x:XV},HasXs h o H xs vs->xs[i]?=some x->∃v,vs[i]?=some v/\HasX h o H x v
 | [],_,i,_,_,e=>by simp at e
 |y::xs,vs,0,x,⟨v,r,e1,q,l⟩,e=>by
  rw[getElem?_cons_zero]at e;cases e;subst e1;exact⟨v,rfl,q⟩
 |y::xs,vs,i+1,x,⟨v,r,e1,q,l⟩,e=>by
  subst e1;rw[ku]at e ⊢;exact HasXs.get l e
theorem Ai{h o:List Addr}{H:Hp}{xs:List XV}{vs:List V}{n:Nat}(q:HasXs h o H xs vs):RepE h o H (xs.map some++bo n none) (vs.map some++bo n none):=by
 have hl:=q.len;refine⟨by simp[hl],fun i x e=>?_⟩;by_cases hi:i<xs.length
 ·rw[fq (by rw[cg];exact hi),gx]at e;obtain⟨y,ey,e⟩:=map_eq_some_iff.mp e;cases e;obtain⟨v,ev,hv⟩:=q.get ey;exact⟨v,by rw[fq (by rw[cg,hl];exact hi),gx,ev];rfl,hv⟩
 ·rw[ls (by rw[cg];omega),qd]at e;split at e<;>cases e
section
variable {P:df}{w:gg}{K:bt}{mg:Str->Option bb}{base:Heap}{x:Str}{st:Stmt}{N ps:List Str}{k:Nat}
theorem Df.dN{q:PN}(D:Dd K mg x st ps)(S:FnScope N ps (zj st))(n:Nat)(hn:N.length=ps.length+n)
  (hbody:∀(f:Addr) (aa:bb) (A:fm) (outer:List Env) (s:bf) (H:Hp) (E:XK),Room k (A.deeper (ip x (zj st) s.heap.objs.size f aa)) ->
   ∃t dt,PSs (bH CX0 P w K mg base N x (zj st) f aa A outer s H E).nox (dJ st) t/\RS t dt/\∀xs S R,q xs S R->dt (aG S.length R) (xs.map some++bo n none) S):Df P w K mg base x ps (k+1) (spN ps q):=by
 refine Df.of D S (fun vs H Q E h=>h.1) fun f aa A outer s H vs Q E hr ⟨hl,h,o,S',xs,R,ac,hx,hq,c⟩=>?_;obtain⟨t,dt,h1,h2,h3⟩:=hbody f aa A outer s H E hr;refine⟨t,h1,h2 h o H _ _ S' _ _ ?_ ac (h3 xs S' R hq) (eok ac c)⟩;have e:N.length-vs.length=n:=yw
 unfold start;rw[e];exact Ai hx
end
section
variable {X:Cx}{x:Str}{ps:List Str}{k j:Nat}{pos pos':Pos}{e:Expr}{es:List Expr}{t:TA}
theorem zH{q:PN}(D:Df X.prog X.w X.K X.mg X.base x ps k (spN ps q))(hr:Room j X.A)(hk:k<=j)(ha:PA X (e::es) t)(hg:Gl X x:=by rfl)(aa:(x==("__debug__":Str))=false:=by decide)
  (q1:cu (e::es) X.env=(false,eval e X.env)::cu es X.env:=by rfl) (q2:((kl pos (cu es X.env)).any fun x=>x.fst)=false:=by rfl):PE X (.Call (.Name x pos') (e::es) [] pos) (iT (spN ps q) [] E0 t):=by
 obtain⟨f,fd,F,hm,kp,hb⟩:=D.ex;exact A4 (dvs:=[]) (ds:=[]) (E:=E0) F (hr.mono hk) hg hm kp hb .nil pass0 ha aa q1 q2
end
def aP(m:Nat)(q:PN)(da:DA):DE:=fun δ S R=>da δ S fun xs S1=>∃ds,datas xs=some ds/\ds.length=m/\q (ds.map XV.d) [] (ret0 S1 R)
theorem hxs0{h o:List Addr}{H:Hp}:∀{ds:List bg}{vs:List V},HasXs h o H (ds.map XV.d) vs->HasXs (h++o) [] H (ds.map XV.d) vs
 | [],_,q=>q
 |d::ds,vs,⟨v,r,e,q,l⟩=>⟨v,r,e,hx0 q,hxs0 l⟩
theorem i6{ps:List Str}{q:PN}{m:Nat}{t:TA}{da:DA}(ha:RA t da)(hm:ps.length=m:=by rfl):RE (iT (spN ps q) [] E0 t) (aP m q da):=fun h o H δ σ S R Q he hs w c=>
 ha h o H δ σ S _ _ he hs w fun o1 H1 S1 xs vs e1 s1 x1 ⟨ds,e,hl,d1⟩=>by
  have ex:=fF e;subst ex;have hv:=x1.len;rw[jf];exact⟨by rw[hv,cg,hl,hm],h++o1,[],[],_,_,rep0 s1,hxs0 x1,d1,cn0 s1 (c.pre e1)⟩
def zS(i m:Nat)(q:PN)(da:DA):DE:=fun δ S R=>da δ S fun xs S1=>∃k,xs[i]?=some (.l k)/\∃p,S1[k]?=some p/\∃ds,datas (xs.set i (.d .none))=some ds/\ds.length=m/\q ((ds.map XV.d).set i (.l 0)) [p] (vI k S1 R)
theorem Ec{h o:List Addr}{H:Hp}{k:Nat}{a:Addr}(ea:o[k]?=some a):∀{xs:List XV}{vs:List V}{ds:List bg}{i:Nat},HasXs h o H xs vs->xs[i]?=some (.l k)->datas (xs.set i (.d .none))=some ds->HasXs (h++o.filter (fun b=>b≠a)) [a] H ((ds.map XV.d).set i (.l 0)) vs
 | [],_,_,i,_,e,_=>by simp at e
 |x::xs,vs,ds,0,⟨v,r,e1,q,l⟩,e,ed=>by
  rw[getElem?_cons_zero]at e;cases e;rw[set_cons_zero]at ed;obtain⟨aa,rfl⟩:∃aa,ds=.none::aa:=by
   unfold datas at ed;cases hd:datas xs with
   |none=>rw[hd]at ed;cases ed
   |some y=>rw[hd]at ed;cases ed;exact⟨y,rfl⟩
  have ac:datas xs=some aa:=by
   unfold datas at ed;cases hd:datas xs with
   |none=>rw[hd]at ed;cases ed
   |some y=>rw[hd]at ed;cases ed;rfl
  have ex:=fF ac;subst ex;obtain⟨b,eb,rfl⟩:=q;rw[ea]at eb;cases eb;exact⟨_,r,e1,⟨a,rfl,rfl⟩,go (ea:=ea) l⟩
 |x::xs,vs,ds,i+1,⟨v,r,e1,q,l⟩,e,ed=>by
  rw[ku]at e;rw[set_cons_succ]at ed
  match x,q,ed with
  | .d d,q,ed=>
   unfold datas at ed;cases hd:datas (xs.set i (.d .none))with
   |none=>rw[hd]at ed;cases ed
   |some aa=>
    rw[hd]at ed;cases ed;exact⟨v,r,e1,hxP ea q,Ec ea l e hd⟩
  | .l j,q,ed=>cases ed
  | .o w,q,ed=>cases ed
  | .x _ _,q,ed=>cases ed
  | .p _ _,q,ed=>cases ed
  | .i _ _,q,ed=>cases ed
where
 go {h o:List Addr}{H:Hp}{k:Nat}{a:Addr}{ea:o[k]?=some a}:∀{ds:List bg}{vs:List V},HasXs h o H (ds.map XV.d) vs->HasXs (h++o.filter (fun b=>b≠a)) [a] H (ds.map XV.d) vs
 | [],_,q=>q
 |d::ds,vs,⟨v,r,e,q,l⟩=>⟨v,r,e,hxP ea q,go (ea:=ea) l⟩
theorem K1:∀{xs:List XV}{ds:List bg},datas xs=some ds->xs.length=ds.length:=fun e=>by
 rw[fF e,cg]
theorem nX{ps:List Str}{q:PN}{i m:Nat}{t:TA}{da:DA}(ha:RA t da)(hm:ps.length=m:=by rfl):RE (iT (spN ps q) [] E0 t) (zS i m q da):=fun h o H δ σ S R Q he hs w c=>
 ha h o H δ σ S _ _ he hs w fun o1 H1 S1 xs vs e1 s1 x1 ⟨k,ek,p,ep,ds,e,hl,d1⟩=>by
  have hv:=x1.len;have hd:=K1 e;rw[length_set]at hd;obtain⟨v,_,a,ea,_⟩:=x1.get ek;rw[jf];exact⟨by rw[hv,hd,hl,hm],_,[a],[p],_,_,wS s1 ea ep,Ec ea x1 ek e,d1,cnP s1 ea ep (c.pre e1)⟩
mutual
def lL:bg->Bool
 | .list _=>false
 | .dict _=>false
 | .tuple ds=>rY ds
 |_=>true
def rY:List bg->Bool
 | []=>true
 |d::ds=>lL d&&rY ds
end
mutual
theorem DL{h o:List Addr}{H G:Hp}(sm:Same G H)(hh:∀b,b∈h\/b∈o->∃u:MO,H b=some u.ho):∀(d:bg) (v:V),lL d=true->Has G d v->Has (vx h o H) d v
 | .none,v,_,q=>nE.mpr (nE.mp q)
 | .bool b,v,_,q=>jM.mpr (jM.mp q)
 | .int i,v,_,q=>f7.mpr (f7.mp q)
 | .str z,v,_,q=>gD.mpr (gD.mp q)
 | .list ds,v,n,_=>by simp[lL]at n
 | .dict ds,v,n,_=>by simp[lL]at n
 | .tuple ds,v,n,q=>by
  obtain⟨a,vs,e,ea,l⟩:=dG.mp q;have n':rY ds=true:=by simpa[lL]using n
  have aa:=sm _ _ ea;refine dG.mpr ⟨a,vs,e,zU.mpr ⟨fun m=>?_,fun m=>?_,aa⟩,Bb sm hh ds vs n' l⟩
  ·obtain⟨u,eu⟩:=hh a (.inl m);rw[aa]at eu;cases u<;>cases eu
  ·obtain⟨u,eu⟩:=hh a (.inr m);rw[aa]at eu;cases u<;>cases eu
theorem Bb{h o:List Addr}{H G:Hp}(sm:Same G H)(hh:∀b,b∈h\/b∈o->∃u:MO,H b=some u.ho):∀(ds:List bg) (vs:List V),rY ds=true->HasL G ds vs->HasL (vx h o H) ds vs
 | [],vs,_,q=>zE.mpr (zE.mp q)
 |d::ds,vs,n,q=>by
  obtain⟨v,r,e,hv,l⟩:=zu.mp q;simp only[rY,cy]at n;exact zu.mpr ⟨v,r,e,DL sm hh d v n.1 hv,Bb sm hh ds r n.2 l⟩
end
def wM(S:Sto)(R:RX):RX:=fun y S'=>match y,S' with
 | .d d,[]=>lL d=true/\R (.d d) S
 |_,_=>False
theorem rA{S:Sto}{R:RX}{d:bg}:wM S R (.d d) []=(lL d=true/\R (.d d) S):=rfl
def views(S:Sto):List XV->Option (List bg)
 | []=>some []
 |x::r=>(cM S x).bind fun d=>(views S r).map (d :: ·)
theorem sC{S:Sto}:views S []=some []:=rfl
theorem oF{S:Sto}{x:XV}{r:List XV}:views S (x::r)=(cM S x).bind fun d=>(views S r).map (d :: ·):=rfl
def iP(m:Nat)(q:PN)(da:DA):DE:=fun δ S R=>da δ S fun xs S1=>∃ds,views S1 xs=some ds/\ds.length=m/\q (ds.map XV.d) [] (wM S1 R)
theorem LR{h o:List Addr}{H:Hp}{S:Sto}(hs:RepS h o H S):RepS h [] H []:=⟨rfl,nodup_nil,(fun _ h=>(nomatch h)),hs.hal,(fun _ _ _ e=>(by simp at e))⟩
theorem hxV{h o:List Addr}{H:Hp}{S:Sto}{x:XV}{v:V}{d:bg}(hs:RepS h o H S)(e:cM S x=some d)(q:HasX h o H x v):HasX h [] H (.d d) v:=by
 have sub:Same (vx h o H) (vx h [] H):=fun b u eb=>by
  obtain⟨z1,z2,z3⟩:=zU.mp eb;exact zU.mpr ⟨z1,yv,z3⟩
 unfold cM at e;split at e
 ·cases e;exact Has.mono sub _ _ q
 ·rename_i k;obtain⟨a,ea,rfl⟩:=q;cases hk:S[k]? with
  |none=>rw[hk]at e;cases e
  |some ds=>
   rw[hk]at e;cases e;obtain⟨vs,ev,l⟩:=hs.cont k a ds ea hk;exact dS.mpr ⟨a,vs,rfl,zU.mpr ⟨hs.dis a (dh ea),yv,ev⟩,l.mono sub⟩
 ·cases e
 ·cases e
 ·rename_i k d';obtain⟨t,a,u,rfl,ea,et,hu⟩:=q;cases hk:S[k]? with
  |none=>rw[hk]at e;cases e
  |some ds=>
   rw[hk]at e;cases e;obtain⟨vs,ev,l⟩:=hs.cont k a ds ea hk;exact dG.mpr ⟨t,_,rfl,sub _ _ et,zu.mpr ⟨_,_,rfl,dS.mpr ⟨a,vs,rfl,zU.mpr ⟨hs.dis a (dh ea),yv,ev⟩,l.mono sub⟩,zu.mpr ⟨u,_,rfl,Has.mono sub _ _ hu,zE.mpr rfl⟩⟩⟩
 ·cases e
theorem BS{h o:List Addr}{H:Hp}{S:Sto}(hs:RepS h o H S):∀{xs:List XV}{vs:List V}{ds:List bg},views S xs=some ds->HasXs h o H xs vs->HasXs h [] H (ds.map XV.d) vs/\vs.length=ds.length
 | [],vs,ds,e,q=>by cases e;exact⟨q,by rw[show vs=[]from q];rfl⟩
 |x::xs,vs,ds,e,⟨v,r,e1,q,l⟩=>by
  rw[oF]at e;cases hd:cM S x with
  |none=>rw[hd]at e;cases e
  |some d=>
   rw[hd,Option.bind_some]at e;cases hr:views S xs with
   |none=>rw[hr]at e;cases e
   |some es=>
    rw[hr]at e;cases e;obtain⟨z1,z2⟩:=BS hs hr l;exact⟨⟨v,r,e1,hxV hs hd q,z1⟩,by rw[e1,cz,cz,z2]⟩
theorem cnV{h o:List Addr}{H:Hp}{S:Sto}{R:RX}{Q:VK}(hs:RepS h o H S)(c:Cn h o H R Q):Cn h [] H (wM S R) Q:=fun o' H' S' y v e s' hy q=>by
 unfold wM at q;split at q
 ·rename_i d;have sH:Same H H':=fun b u eb=>(e.kp b u yv eb).2;have e0:o'=[]:=gm s'.len.symm;subst e0;have aa:=hs.same sH;refine c o H' S (.d d) v (Ex.of_same sH) aa (DL (bQ (h:=h) (o:=[])) (fun b m=>?_) d v q.1 hy) q.2;exact m.elim (aa.hal b) (aa.oam b)
 ·exact q.elim
theorem Hk{ps:List Str}{q:PN}{m:Nat}{t:TA}{da:DA}(ha:RA t da)(hm:ps.length=m:=by rfl):RE (iT (spN ps q) [] E0 t) (iP m q da):=fun h o H δ σ S R Q he hs w c=>
 ha h o H δ σ S _ _ he hs w fun o1 H1 S1 xs vs e1 s1 x1 ⟨ds,e,hl,d1⟩=>by
  obtain⟨z1,z2⟩:=BS s1 e x1;rw[jf];exact⟨by rw[z2,hl,hm],h,[],[],_,_,LR s1,z1,d1,cnV s1 (c.pre e1)⟩
end
section
theorem EK{X:Cx}{x:Str}{i:Str}{pos:Pos}(hg:Gl X x)(hm:∃t,X.mg x=some (.str i t))(hd:(x==("__debug__":Str))=false:=by decide):PE X (.Name x pos) (tC (.str i)):=by
 obtain⟨t,e⟩:=hm;exact fZ hg e ⟨t,rfl⟩ hd
def DB(K:bt):List V->Hp->VK->Prop:=fun xs H Q=>xT K xs H Q\/∃z,xs=[.str z]/\z.length<=bw/\Q (.int z.length) H
theorem zG{X:Cx}:CallR X (.builtin "len") (DB X.K):=Dh.or K5
def fW(S:Sto):XV->Option Nat
 | .d (.tuple ds)=>some ds.length
 | .d (.list ds)=>some ds.length
 | .l k=>(S[k]?).map sr
 | .d (.str z)=>if z.length<=bw then some z.length else none
 |_=>none
def aK:List XV->Sto->RX->Prop:=fun xs S R=>arg1 xs fun x=>∃n,fW S x=some n/\R (.d (.int n)) S
theorem B8{K:bt}:RC (DB K) aK:=fun h o H S xs vs R Q hs hx q c=>by
 obtain⟨x,rfl,n,hd,q1⟩:=cK q;unfold fW at hd;split at hd
 ·cases hd;exact .inl (yO h o H S _ vs R Q hs hx ⟨_,rfl,q1⟩ c)
 ·cases hd;exact .inl (yO h o H S _ vs R Q hs hx ⟨_,rfl,q1⟩ c)
 ·rename_i k;cases hk:S[k]? with
  |none=>rw[hk]at hd;cases hd
  |some ds=>
   rw[hk]at hd;cases hd;exact .inl (yO h o H S _ vs R Q hs hx ⟨ds,hk,q1⟩ c)
 ·split at hd
  ·rename_i hz;cases hd;obtain⟨v,rfl,aa⟩:=hxs1 hx;exact .inr ⟨_,by rw[cI aa],hz,c o H S _ _ Ex.refl hs (xI _) q1⟩
  ·cases hd
 ·cases hd
section
variable {S:Sto}{ds:List bg}{k:Nat}{z:Str}
theorem tX:fW S (.d (.tuple ds))=some ds.length:=rfl
theorem sF:fW S (.d (.list ds))=some ds.length:=rfl
theorem rM:fW S (.l k)=(S[k]?).map sr:=rfl
end
def xD(aa:Bool):R2:=fun x y H Q=>∃d e ds,Has H d x/\Has H e y/\dy d=true/\dy (.list ds)=true/\(e=.list ds\/e=.tuple ds)/\Q (.bl (if aa then !ds.any (fun y=>jc y d)else ds.any (fun y=>jc y d))) H
theorem Ac{ds:List bg}(h:dy (.list ds)=true):nc ds=true/\ko ds<=63:=by
 have h1:=gh h;have h2:=SeqAt.depth_of_shaped h;simp only[jy,PyData.depth]at h1 h2;exact⟨h1,yw⟩
theorem JK{X:Cx}(hu:X.A.units+64<so):OpR X (jd .In) (xD false):=by
 intro zg s σ H x y v u Q I rx ry h;obtain⟨d,e,ds,hd,he,sd,se,ee,q⟩:=h;obtain⟨s1,s2⟩:=Ac se;obtain⟨as,q1⟩:=Has.reads I d x v hd (gh sd) rx;have hm:X.A.units+1+min (ko ds) d.depth<so:=by
  have:=Nat.min_le_left (ko ds) d.depth;omega
 rcases ee with rfl|rfl
 ·obtain⟨bs,q2⟩:=Has.reads I (.list ds) y u he (by simpa only[jy]using s1) ry;exact SeqAt.in_list_reads q2 q1 s1 (gh sd) hm ⟨.bl _,H,I,rfl,q⟩
 ·obtain⟨bs,q2⟩:=Has.reads I (.tuple ds) y u he (by simpa only[jy]using s1) ry;exact SeqAt.in_tuple_reads q2 q1 s1 (gh sd) hm ⟨.bl _,H,I,rfl,q⟩
theorem J7{X:Cx}(hu:X.A.units+64<so):OpR X (jd .NotIn) (xD true):=by
 intro zg s σ H x y v u Q I rx ry h;obtain⟨d,e,ds,hd,he,sd,se,ee,q⟩:=h;obtain⟨s1,s2⟩:=Ac se;obtain⟨as,q1⟩:=Has.reads I d x v hd (gh sd) rx;have hm:X.A.units+1+min (ko ds) d.depth<so:=by
  have:=Nat.min_le_left (ko ds) d.depth;omega
 rcases ee with rfl|rfl
 ·obtain⟨bs,q2⟩:=Has.reads I (.list ds) y u he (by simpa only[jy]using s1) ry;exact SeqAt.notIn_list_reads q2 q1 s1 (gh sd) hm ⟨.bl _,H,I,rfl,q⟩
 ·obtain⟨bs,q2⟩:=Has.reads I (.tuple ds) y u he (by simpa only[jy]using s1) ry;exact SeqAt.notIn_tuple_reads q2 q1 s1 (gh sd) hm ⟨.bl _,H,I,rfl,q⟩
def EW:R2:=fun x y H Q=>xD false x y H Q\/∃i j,x=.str i/\y=.str j/\Q (.bl (!(im j i 0 j.length 1).isEmpty)) H
theorem xU{X:Cx}(hu:X.A.units+64<so):OpR X (jd .In) EW:=(JK hu).or K3
def BV:R2:=fun x y H Q=>xD true x y H Q\/∃i j,x=.str i/\y=.str j/\Q (.bl (!(!(im j i 0 j.length 1).isEmpty))) H
theorem nQ{X:Cx}(hu:X.A.units+64<so):OpR X (jd .NotIn) BV:=(J7 hu).or Kg
def dIn:D2:=fun x y S R=>match y with
 | .d (.str b)=>asS x fun a=>R (.d (.bool (!(im b a 0 b.length 1).isEmpty))) S
 |y=>∃d,cM S x=some d/\∃ds,asQ S y=some ds/\dy d=true/\dy (.list ds)=true/\R (.d (.bool (ds.any fun y=>jc y d))) S
def gH:D2:=fun x y S R=>match y with
 | .d (.str b)=>asS x fun a=>R (.d (.bool (!(!(im b a 0 b.length 1).isEmpty)))) S
 |y=>∃d,cM S x=some d/\∃ds,asQ S y=some ds/\dy d=true/\dy (.list ds)=true/\R (.d (.bool (!ds.any fun y=>jc y d))) S
theorem FA{h o:List Addr}{H:Hp}{S:Sto}{x:XV}{v:V}{ds:List bg}(hs:RepS h o H S)(e:asQ S x=some ds)(q:HasX h o H x v):∃e,Has H e v/\(e=.list ds\/e=.tuple ds):=by
 unfold asQ at e;split at e
 ·cases e;exact⟨_,fP (x:=.d _) hs rfl q,.inr rfl⟩
 ·cases e;exact⟨_,fP (x:=.d _) hs rfl q,.inl rfl⟩
 ·rename_i k;exact⟨.list ds,fP (x:=.l k) hs (by show (S[k]?).map PyData.list=_;rw[e];rfl) q,.inl rfl⟩
 ·cases e
theorem Ak:RO EW dIn:=fun h o H S x y v u R Q hs hx hy q c=>by
 unfold dIn at q;split at q
 ·replace q:=eX q;obtain⟨a,rfl,q⟩:=q;exact .inr ⟨_,_,cI hx,cI hy,c o H S _ _ Ex.refl hs (xB _) q⟩
 ·obtain⟨d,e1,ds,e2,s1,s2,q⟩:=q;obtain⟨e,he,ee⟩:=FA hs e2 hy;exact .inl ⟨d,e,ds,fP hs e1 hx,he,s1,s2,ee,c o H S _ _ Ex.refl hs (xB _) q⟩
theorem BC:RO BV gH:=fun h o H S x y v u R Q hs hx hy q c=>by
 unfold gH at q;split at q
 ·replace q:=eX q;obtain⟨a,rfl,q⟩:=q;exact .inr ⟨_,_,cI hx,cI hy,c o H S _ _ Ex.refl hs (xB _) q⟩
 ·obtain⟨d,e1,ds,e2,s1,s2,q⟩:=q;obtain⟨e,he,ee⟩:=FA hs e2 hy;exact .inl ⟨d,e,ds,fP hs e1 hx,he,s1,s2,ee,c o H S _ _ Ex.refl hs (xB _) q⟩
section
variable {S:Sto}{ds:List bg}{k:Nat}{a b:Str}{x:XV}{R:RX}
theorem qI:dIn (.d (.str a)) (.d (.str b)) S R=R (.d (.bool (!(im b a 0 b.length 1).isEmpty))) S:=rfl
theorem qY:dIn x (.d (.list ds)) S R↔∃d,cM S x=some d/\dy d=true/\dy (.list ds)=true/\R (.d (.bool (ds.any fun y=>jc y d))) S:=⟨fun⟨d,e,_,e',q⟩=>by cases e';exact⟨d,e,q⟩,fun⟨d,e,q⟩=>⟨d,e,_,rfl,q⟩⟩
theorem pE:gH (.d (.str a)) (.d (.str b)) S R=R (.d (.bool (!(!(im b a 0 b.length 1).isEmpty)))) S:=rfl
theorem sK:gH x (.d (.tuple ds)) S R↔∃d,cM S x=some d/\dy d=true/\dy (.list ds)=true/\R (.d (.bool (!ds.any fun y=>jc y d))) S:=⟨fun⟨d,e,_,e',q⟩=>by cases e';exact⟨d,e,q⟩,fun⟨d,e,q⟩=>⟨d,e,_,rfl,q⟩⟩
theorem pF:gH x (.d (.list ds)) S R↔∃d,cM S x=some d/\dy d=true/\dy (.list ds)=true/\R (.d (.bool (!ds.any fun y=>jc y d))) S:=⟨fun⟨d,e,_,e',q⟩=>by cases e';exact⟨d,e,q⟩,fun⟨d,e,q⟩=>⟨d,e,_,rfl,q⟩⟩
end
def lJ(a:DA):DI:=fun δ S R=>a δ S fun xs S1=>arg1 xs fun x=>∃ds,dY x=some ds/\R (iI 0 ds) S1
def rB:XV->List XV->Sto->RX->Prop:=fun x xs S R=>∃k,x=.l k/\∃ds,S[k]?=some ds/\xs=[]/\∃d,ds[ds.length-1]?=some d/\R (.d d) (S.set k ds.dropLast)
def bX(rd:XV->List XV->Sto->RX->Prop)(e:DE)(a:DA):DE:=fun δ S R=>e δ S fun x S1=>∃z,x=.d (.str z)/\a δ S1 fun xs S2=>rd x xs S2 R
theorem dE{K:bt}{r:V->List V->Hp->VK->Prop}{rd:XV->List XV->Sto->RX->Prop}{te:TE}{de:DE}{tl:TA}{dl:DA}(hr:RM r rd)(aa:RE te de)(ha:RA tl dl):RE (tBM K "str" r te tl) (bX rd de dl):=fun h o H δ σ S R Q he hs q c=>
 aa h o H δ σ S _ _ he hs q fun o1 H1 S1 x v e1 s1 x1 ⟨z,ez,d1⟩=>by
  subst ez;cases cI x1;exact⟨rfl,ha h o1 H1 δ σ S1 _ _ (he.mono e1) s1 d1 fun o2 H2 S2 xs vs e2 s2 x2 d2=>hr h o2 H2 S2 (.d (.str z)) _ xs vs R Q s2 (HasX.mono (x:=.d (.str z)) e2 x1) x2 d2 (c.pre (e1.trans e2))⟩
theorem Dt{H:Hp}:∀{ns:List Str}{vs:List V},HasL H (ns.map be) vs->vs=ns.map V.str
 | [],vs,h=>zE.mp h
 |n::ns,vs,h=>by
  obtain⟨v,r,rfl,h1,h2⟩:=zu.mp h;rw[gD.mp h1,Dt h2];rfl
def dL:XV->List XV->Sto->RX->Prop:=fun x xs S R=>asS x fun z=>arg1 xs fun y=>∃ds,eJ S y=some ds/\∃zs:List Str,ds=zs.map be/\z.length<=16/\zs.length<=1000/\(∀y∈zs,y.length<=1000)/\R (.d (.str (PySem.Txt.join z zs))) S
theorem kK{K:bt}:RM (BU K) dL:=fun h o H S x v xs vs R Q hs hx aa q c=>by
 replace q:=eX q;obtain⟨z,rfl,q⟩:=q;obtain⟨y,rfl,ds,e,zs,rfl,h1,h2,h3,q1⟩:=cK q;obtain⟨u,rfl,hu⟩:=hxs1 aa;obtain⟨a,ws,rfl,ea,l⟩:=c9 hs e hu;rw[Dt l]at ea;exact⟨z,a,zs,cI hx,rfl,.of ea,h1,h2,h3,c o H S _ _ Ex.refl hs (xS _) q1⟩
def k9:D2:=fun x y S R=>asL S x fun ds=>asL S y fun es=>ds.length+es.length<=1000/\R (.l S.length) (S++[ds++es])
theorem NN:RO oV k9:=fun h o H S x y v u R Q hs hx hy q c=>by
 obtain⟨ds,e0,es,e1,hl,q⟩:=q;obtain⟨a,vs,rfl,ea,la⟩:=c9 hs e0 hx;obtain⟨b,us,rfl,eb,lb⟩:=c9 hs e1 hy;exact⟨a,b,vs,us,rfl,rfl,ea,eb,by rw[la.length,lb.length];exact lg (small1000 hl),Fa hs (la.append lb) c q⟩
def Fd:V->List V->Hp->VK->Prop:=fun x vs H Q=>∃(d:bg) (ds:List bg) (j:Nat),Has H (.list ds) x/\(∃v,vs=[v]/\Has H d v)/\dy d=true/\dy (.list ds)=true/\ds.length<=1000/\(∃e,ds[j]?=some e/\jc e d=true)/\(∀m e,m<j->ds[m]?=some e->jc e d=false)/\Q (.int j) H
theorem wA{X:Cx}(hu:X.A.units+64<so):MtR X "list.index" Fd:=by
 intro zg s σ H x vs v us Q I rx rv h;obtain⟨d,ds,j,hl,⟨y,rfl,hy⟩,sd,se,af,⟨e,ej,he⟩,ae,q⟩:=h;obtain⟨s1,s2⟩:=Ac se;obtain⟨u,rfl,r1⟩:=rv.one;obtain⟨as,q1⟩:=Has.reads I d y u hy (gh sd) r1;obtain⟨bs,q2⟩:=Has.reads I (.list ds) x v hl (by simpa only[jy]using s1) rx;have hm:X.A.units+1+min (ko ds) d.depth<so:=by
  have:=Nat.min_le_left (ko ds) d.depth;omega
 cases q2 with
 | @list l o vs n xs as₁ h1 h2 h3 h4=>
  have hn:vs.size=ds.length:=by simpa using SeqAt.ReadsAll.length _ _ _ h4
  have ac:=SeqAt.readsAll_map _ _ _ s1 h4;have aa:∀(m:Nat) (hm:m<vs.size) e,ds[m]?=some e->SeqAt.readOf s.heap vs[m]=e:=fun m hm e h=>by
   rw[<- ac,gx]at h;have:vs.toList[m]?=some vs[m]:=by simp[hm]
   rw[this]at h;exact fg h
  have hj:j<vs.size:=by rw[hn];exact(List.getElem?_eq_some_iff.mp ej).1
  obtain⟨cls,dd,data,sl⟩:=o;simp only at h2 h3;subst h2 h3;refine qv PySem.F.slot_list_index ⟨_,h1,rfl⟩ PySem.F.entry_list_index (PySem.F.args_list_index_2 _ _)
   (SeqAt.list_indexAt l vs n dd sl u (fun y=>jc (SeqAt.readOf s.heap y) d) j hj yw ?_ ?_) ⟨h1,SeqAt.items_eqAt h4 q1 s1 (gh sd) hm,⟨.int j,H,I.tok _,⟨_,rfl⟩,q⟩⟩
  ·show jc (SeqAt.readOf s.heap vs[j]) d=true;rw[aa j hj e ej];exact he
  ·intro m hm ag;show jc (SeqAt.readOf s.heap vs[m]) d=false;have em:ds[m]?=some ds[m]:=dn yw;rw[aa m hm _ em];exact ae m _ ag em
def iF:XV->List XV->Sto->RX->Prop:=fun x xs S R=>arg1 xs fun y=>∃d,cM S y=some d/\∃ds,eJ S x=some ds/\dy d=true/\dy (.list ds)=true/\ds.length<=1000/\∃j,(∃e,ds[j]?=some e/\jc e d=true)/\(∀m e,m<j->ds[m]?=some e->jc e d=false)/\R (.d (.int (j:Nat))) S
theorem vB:RM Fd iF:=fun h o H S x v xs vs R Q hs hx aa q c=>by
 obtain⟨y,rfl,d,e1,ds,e2,s1,s2,h1,j,h2,h3,q1⟩:=cK q;obtain⟨u,rfl,hu⟩:=hxs1 aa;have hl:Has H (.list ds) v:=fP (x:=x) hs (by
  unfold eJ at e2;split at e2
  ·cases e2;rfl
  ·rename_i k;show (S[k]?).map PyData.list=_;rw[e2];rfl
  ·cases e2) hx
 exact⟨d,ds,j,hl,⟨u,rfl,fP hs e1 hu⟩,s1,s2,h1,h2,h3,c o H S _ _ Ex.refl hs (xI _) q1⟩
def gJ(rd:XV->List XV->Sto->RX->Prop)(e:DE)(a:DA):DE:=fun δ S R=>e δ S fun x S1=>∃ds,eJ S1 x=some ds/\a δ S1 fun xs S2=>rd x xs S2 R
theorem oH{K:bt}{r:V->List V->Hp->VK->Prop}{rd:XV->List XV->Sto->RX->Prop}{te:TE}{de:DE}{tl:TA}{dl:DA}(hr:RM r rd)(aa:RE te de)(ha:RA tl dl):RE (tBM K "list" r te tl) (gJ rd de dl):=fun h o H δ σ S R Q he hs q c=>
 aa h o H δ σ S _ _ he hs q fun o1 H1 S1 x v e1 s1 x1 ⟨ds,ez,d1⟩=>by
  obtain⟨a,ws,rfl,ea,_⟩:=c9 s1 ez x1;exact⟨Av ea,ha h o1 H1 δ σ S1 _ _ (he.mono e1) s1 d1 fun o2 H2 S2 xs vs e2 s2 x2 d2=>hr h o2 H2 S2 x _ xs vs R Q s2 (x1.mono e2) x2 d2 (c.pre (e1.trans e2))⟩
abbrev Jc (a:Addr) (m:Nat):DEnds:={ nx:=fun δ _=>δ[0]?=some (some (.o (.ref a)))/\δ.length=m+1,ct:=fun δ _=>δ[0]?=some (some (.o (.ref a)))/\δ.length=m+1,rt:=fun _ _=>False }
abbrev Be (a:Addr) (m:Nat):DEnds:={ nx:=fun δ _=>δ[0]?=some (some (.o (.ref a)))/\δ.length=m+1,rt:=fun _ _=>False }
section
variable {a:Addr}{m:Nat}{t1 t2 t3 t4 u:TS}{dt:DS}{D:Ends}{σ:St}{H:Hp}
theorem PU(ht:RS (bM t1 t2) dt)(h0:σ[0]?=some (some (.ref a)))(hl:σ.length=m+1)(go:dt (Be a m) (some (.o (.ref a))::bo m none) [])
  (next:∀(σ:St) (H1:Hp),σ[0]?=some (some (.ref a))->σ.length=m+1->Same H H1->u D σ H1):bM t1 (bM t2 u) D σ H:=Hq (t:=bM t1 t2) ht h0 hl go next
end
end
section
open Sem (wp)
def ItK(t:Bool)(h:Heap)(j a:Addr)(k:Nat):Prop:=match t with
 |true=>h.IsTupleIter j a k
 |false=>h.IsListIter j a k
def SqK(t:Bool)(h:Heap)(a:Addr)(xs:Array bb):Prop:=match t with
 |true=>h.IsTuple a xs
 |false=>h.IsList a xs
theorem ItK.at{t:Bool}{h g:Heap}{j a:Addr}{k:Nat}(q:ItK t h j a k)(f:∀o,h.get? j=some o->g.get? j=some o):ItK t g j a k:=by
 cases t
 ·exact Heap.IsListIter.at (show h.IsListIter j a k from q) f
 ·exact Heap.IsTupleIter.at (show h.IsTupleIter j a k from q) f
theorem ItK.here{t:Bool}{h:Heap}{j a:Addr}{k:Nat}(q:ItK t h j a k):∃o,h.get? j=some o/\∀v,o.data≠.cell v:=by
 cases t<;>(obtain⟨o,e,c,d⟩:=q;exact⟨o,e,fun v z=>by rw[d]at z;cases z⟩)
theorem SqK.at{t:Bool}{h g:Heap}{a:Addr}{xs:Array bb}(q:SqK t h a xs)(f:∀o,h.get? a=some o->g.get? a=some o):SqK t g a xs:=by
 cases t<;>(obtain⟨o,e,r⟩:=q;exact⟨o,f o e,r⟩)
theorem SqK.here{t:Bool}{h:Heap}{a:Addr}{xs:Array bb}(q:SqK t h a xs):∃o,h.get? a=some o:=by
 cases t<;>(obtain⟨o,e,r⟩:=q;exact⟨o,e⟩)
section
variable {prog:df}{w:gg}{A:fm}{E:bb->bf->Prop}{s:bf}
theorem oJ{t:Bool}{j a:Addr}{k:Nat}{xs:Array bb}{x:bb}{Q:bb->bf->Prop}(hj:ItK t s.heap j a k)(ha:SqK t s.heap a xs)(hx:xs[k]?=some x)
  (hQ:∀g,ItK t g j a (k+1)->fj j s.heap g->Q x { s with heap:=g }):bq (model prog w) A (fb (.ref j)) Q E s:=by
 cases t
 ·exact wpAny_nextOf_list_item hj ha hx hQ
 ·exact Ku hj ha hx hQ
theorem tZ{t:Bool}{j a:Addr}{k:Nat}{xs:Array bb}{Q:bb->bf->Prop}(hh:A.handled=none)(hj:ItK t s.heap j a k)(ha:SqK t s.heap a xs)(hx:xs[k]?=none)
  (hE:∀g e,Heap.ExtBut j s.heap g->(∃o,g.get? e=some o/\o.cls=.type "StopIteration")->E (.ref e) { s with heap:=g }):bq (model prog w) A (fb (.ref j)) Q E s:=by
 cases t
 ·exact wpAny_nextOf_list_end hh hj ha hx hE
 ·exact Oo hh hj ha hx hE
theorem Dl{t:Bool}{a:Addr}{xs:Array bb}{Q:bb->bf->Prop}(ha:SqK t s.heap a xs)(hQ:Q (.ref s.heap.objs.size) { s with heap:=s.heap.push { cls:=.type (if t then "tuple_iterator" else "list_iterator"),data:=.fields #[.ref a,.int 0 0] } }):bq (model prog w) A (pyIter (.ref a)) Q E s:=by
 cases t
 ·exact my ha hQ
 ·exact ol ha hQ
theorem yT{T:Addr}{c d x:bb}{k:Nat}{Q:Unit->bf->Prop}(hT:nq s.heap T c d)(hQ:∀g,g.get? T=some { cls:=.type "tuple",data:=.seq ((#[c,d]:Array bb).setIfInBounds k x) }->fj T s.heap g->Q () { s with heap:=g }):
  bq (model prog w) A (updateSeq T (·.setIfInBounds k x)) Q E s:=wpAny_updateSeq_pair hT hQ
structure ZAp(z p r i j a b:Addr):Prop where
 pz:p≠z
 rz:r≠z
 iz:i≠z
 jz:j≠z
 pr:p≠r
 pi:p≠i
 pj:p≠j
 ri:r≠i
 rj:r≠j
 ij:i≠j
 az:a≠z
 ar:a≠r
 ai:a≠i
 aj:a≠j
 bz:b≠z
 br:b≠r
 bi:b≠i
 bj:b≠j
theorem JQ{t u:Bool}{z p r i j a b:Addr}{k m:Nat}{xs ys:Array bb}{x y c d:bb}{Q:bb->bf->Prop}(D:ZAp z p r i j a b)(hz:IsZip s.heap z p r .none)(hp:nq s.heap p (.ref i) (.ref j))(hr:nq s.heap r c d)
  (hi:ItK t s.heap i a k) (hj:ItK u s.heap j b m) (ha:SqK t s.heap a xs) (hb:SqK u s.heap b ys) (hx:xs[k]?=some x) (hy:ys[m]?=some y)
  (hQ:∀g,IsZip g z p r (ml s.heap.objs.size)->nq g r x y->ItK t g i a (k+1)->ItK u g j b (m+1)->nq g s.heap.objs.size x y ->
   (∀q o,q≠z->q≠r->q≠i->q≠j->s.heap.get? q=some o->g.get? q=some o)->Q (.ref s.heap.objs.size) { s with heap:=g }):
  bq (model prog w) A (lz.«zip.__next__» ⟨[.ref z],[]⟩) (fun fn s'=>∃v,fn=.done (.ret v)/\Q v s') E s:=by
 obtain⟨h0,gs,dr,tk,os⟩:=s;show bq _ _ (field (.ref z) 2 >>= _) _ _ ⟨h0,gs,dr,tk,os⟩;refine bc (fw hz rfl (x:=.bool false) rfl ?_);show bq _ _ (field (.ref z) 3 >>= _) _ _ ⟨h0,gs,dr,tk,os⟩;refine bc (fw hz rfl (x:=.ref p) rfl (bc (lh hp rfl ?_)));show bq _ _ (gq (.ref z) >>= _) _ _ ⟨h0,gs,dr,tk,os⟩;refine bc ?_;unfold gq;refine bc (fw hz rfl (x:=.none) rfl (bp ?_));simp only[if_true];refine bc (wpAny_rule (bc (fw hz rfl (x:=.ref r) rfl (bc (iy hz yv fun g1 z1 b1=>?_)))));replace z1:IsZip g1 z p r .ellipsis:=z1;replace b1:fj z h0 g1:=b1;refine bc ?_;simp only[List.zipIdx_cons,List.zipIdx_nil,forIn_cons,forIn_nil];refine bc (bc (wpAny_onRaise ?_));show bq _ _ (fb (.ref i) >>= _) _ _ ⟨g1,gs,dr,tk,os⟩;refine bc (oJ (s:=⟨g1,gs,dr,tk,os⟩) (hi.at fun o e=>b1.extBut i o D.iz e) (ha.at fun o e=>b1.extBut a o D.az e) hx fun g2 i2 b2=>bp ?_);replace b2:fj i g1 g2:=b2;have r2:nq g2 r c d:=b2.extBut r _ D.ri (b1.extBut r _ D.rz hr);refine bc (lh (s:=⟨g2,gs,dr,tk,os⟩) r2 rfl (bc (yT (s:=⟨g2,gs,dr,tk,os⟩) r2 fun g3 r3 b3=>?_)));replace r3:nq g3 r x d:=r3;replace b3:fj r g2 g3:=b3;refine bc (wpAny_letGo (bp (bc (bc (wpAny_onRaise ?_)))));show bq _ _ (fb (.ref j) >>= _) _ _ ⟨g3,gs,dr,tk,os⟩;have aa:∀q o,q≠z->q≠r->q≠i->h0.get? q=some o->g3.get? q=some o:=fun q o n1 n2 n3 e=>b3.extBut q o n2 (b2.extBut q o n3 (b1.extBut q o n1 e));refine bc (oJ (s:=⟨g3,gs,dr,tk,os⟩) (hj.at fun o e=>aa j o D.jz (gj D.rj) (gj D.ij) e) (hb.at fun o e=>aa b o D.bz D.br D.bi e) hy fun g4 j4 b4=>bp ?_);replace b4:fj j g3 g4:=b4;have r4:nq g4 r x d:=b4.extBut r _ D.rj r3;refine bc (lh (s:=⟨g4,gs,dr,tk,os⟩) r4 rfl (bc (yT (s:=⟨g4,gs,dr,tk,os⟩) r4 fun g5 r5 b5=>?_)));replace r5:nq g5 r x y:=r5;replace b5:fj r g4 g5:=b5;refine bc (wpAny_letGo (bp (bp (bc (lh (s:=⟨g5,gs,dr,tk,os⟩) r5 rfl (bc (wpAny_newTuple ?_)))))));have sz:g5.objs.size=h0.objs.size:=by rw[b5.1,b4.1,b3.1,b2.1,b1.1]
 have z5:IsZip g5 z p r .ellipsis:=b5.extBut z _ (gj D.rz) (b4.extBut z _ (gj D.jz) (b3.extBut z _ (gj D.rz) (b2.extBut z _ (gj D.iz) z1)));have k5:∀q o,q≠z->q≠r->q≠i->q≠j->h0.get? q=some o->g5.get? q=some o:=fun q o n1 n2 n3 n4 e=>b5.extBut q o n2 (b4.extBut q o n4 (aa q o n1 n2 n3 e));have i5:ItK t g5 i a (k+1):=ItK.at i2 fun o e=>b5.extBut i o (gj D.ri) (b4.extBut i o D.ij (b3.extBut i o (gj D.ri) e));have j5:ItK u g5 j b (m+1):=ItK.at j4 fun o e=>b5.extBut j o (gj D.rj) e;have zl:z<g5.objs.size:=fi z5;show bq _ _ (Builtin.SmallTypes.ownedTupleHandOut (.ref z) (.ref g5.objs.size) >>= _) _ _ _;refine bc ?_;unfold Builtin.SmallTypes.ownedTupleHandOut;have z6:IsZip (g5.push { cls:=.type "tuple",data:=.seq #[x,y] }) z p r .ellipsis:=bn _ z5;refine bc (iy z6 yv fun g7 z7 b7=>?_);replace z7:IsZip g7 z p r (ml g5.objs.size):=z7;replace b7:fj z (g5.push { cls:=.type "tuple",data:=.seq #[x,y] }) g7:=b7;refine iy z7 yv fun g8 z8 b8=>?_;replace z8:IsZip g8 z p r (ml g5.objs.size):=z8;replace b8:fj z g7 g8:=b8;have up:∀q o,q≠z->g5.get? q=some o->g8.get? q=some o:=fun q o n e=>b8.extBut q o n (b7.extBut q o n (bn _ e));have t8:nq g8 g5.objs.size x y:=b8.extBut _ _ (qg zl) (b7.extBut _ _ (qg zl) (cv _ rfl));rw[sz]at z8 t8;refine bp ⟨_,rfl,?_⟩;show Q (.ref g5.objs.size) _;rw[sz];exact hQ g8 z8 (up r _ D.rz r5) (i5.at fun o e=>up i o D.iz e) (j5.at fun o e=>up j o D.jz e) t8 fun q o n1 n2 n3 n4 e=>up q o n1 (k5 q o n1 n2 n3 n4 e)
theorem Nk{t u:Bool}{z p r i j a b:Addr}{k m:Nat}{xs ys:Array bb}{c d:bb}{Q:Fin->bf->Prop}(hh:A.handled=none)(D:ZAp z p r i j a b)(hz:IsZip s.heap z p r .none)(hp:nq s.heap p (.ref i) (.ref j))(hr:nq s.heap r c d)
  (hi:ItK t s.heap i a k) (hj:ItK u s.heap j b m) (ha:SqK t s.heap a xs) (hb:SqK u s.heap b ys) (hend:xs[k]?=none\/ys[m]?=none)
  (hE:∀g e,(∀q o,q≠z->q≠r->q≠i->q≠j->s.heap.get? q=some o->g.get? q=some o)->(∃o,g.get? e=some o/\o.cls=.type "StopIteration")->E (.ref e) { s with heap:=g }):
  bq (model prog w) A (lz.«zip.__next__» ⟨[.ref z],[]⟩) Q E s:=by
 obtain⟨h0,gs,dr,tk,os⟩:=s;show bq _ _ (field (.ref z) 2 >>= _) _ _ ⟨h0,gs,dr,tk,os⟩;refine bc (fw hz rfl (x:=.bool false) rfl ?_);show bq _ _ (field (.ref z) 3 >>= _) _ _ ⟨h0,gs,dr,tk,os⟩;refine bc (fw hz rfl (x:=.ref p) rfl (bc (lh hp rfl ?_)));show bq _ _ (gq (.ref z) >>= _) _ _ ⟨h0,gs,dr,tk,os⟩;refine bc ?_;unfold gq;refine bc (fw hz rfl (x:=.none) rfl (bp ?_));simp only[if_true];refine bc (wpAny_rule (bc (fw hz rfl (x:=.ref r) rfl (bc (iy hz yv fun g1 z1 b1=>?_)))));replace z1:IsZip g1 z p r .ellipsis:=z1;replace b1:fj z h0 g1:=b1;refine bc ?_;simp only[List.zipIdx_cons,List.zipIdx_nil,forIn_cons,forIn_nil];refine bc (bc (wpAny_onRaise ?_));show bq _ _ (fb (.ref i) >>= _) _ _ ⟨g1,gs,dr,tk,os⟩;have aa:∀{g:Heap}{e:Addr}{o:Obj},IsZip g z p r .ellipsis->g.get? e=some o->o.cls=.type "StopIteration"->e≠z:=fun h1 h2 h3 w=>by
  subst w;rw[h1]at h2;cases h2;simp at h3
 cases hx:xs[k]? with
 |none=>
  refine bc (tZ (s:=⟨g1,gs,dr,tk,os⟩) hh (hi.at fun o e=>b1.extBut i o D.iz e) (ha.at fun o e=>b1.extBut a o D.az e) hx fun g2 e b2 he=>?_);obtain⟨oe,e1,e2⟩:=he;have z2:IsZip g2 z p r .ellipsis:=b2 z _ (gj D.iz) z1;exact iy z2 yv fun g3 _ b3=>hE g3 e (fun q o n1 _ n3 _ w=>b3.extBut q o n1 (b2 q o n3 (b1.extBut q o n1 w))) ⟨oe,b3.extBut e oe (aa z2 e1 e2) e1,e2⟩
 |some x=>
  have hy:ys[m]?=none:=hend.elim (fun w=>by rw[hx]at w;cases w) id;refine bc (oJ (s:=⟨g1,gs,dr,tk,os⟩) (hi.at fun o e=>b1.extBut i o D.iz e) (ha.at fun o e=>b1.extBut a o D.az e) hx fun g2 i2 b2=>bp ?_);replace b2:fj i g1 g2:=b2;have r2:nq g2 r c d:=b2.extBut r _ D.ri (b1.extBut r _ D.rz hr);refine bc (lh (s:=⟨g2,gs,dr,tk,os⟩) r2 rfl (bc (yT (s:=⟨g2,gs,dr,tk,os⟩) r2 fun g3 r3 b3=>?_)));replace b3:fj r g2 g3:=b3;refine bc (wpAny_letGo (bp (bc (bc (wpAny_onRaise ?_)))));show bq _ _ (fb (.ref j) >>= _) _ _ ⟨g3,gs,dr,tk,os⟩;have ac:∀q o,q≠z->q≠r->q≠i->h0.get? q=some o->g3.get? q=some o:=fun q o n1 n2 n3 e=>b3.extBut q o n2 (b2.extBut q o n3 (b1.extBut q o n1 e));refine bc (tZ (s:=⟨g3,gs,dr,tk,os⟩) hh (hj.at fun o e=>ac j o D.jz (gj D.rj) (gj D.ij) e) (hb.at fun o e=>ac b o D.bz D.br D.bi e) hy fun g4 e b4 he=>?_);obtain⟨oe,e1,e2⟩:=he;have z4:IsZip g4 z p r .ellipsis:=b4 z _ (gj D.jz) (b3.extBut z _ (gj D.rz) (b2.extBut z _ (gj D.iz) z1));exact iy z4 yv fun g5 _ b5=>hE g5 e (fun q o n1 n2 n3 n4 w=>b5.extBut q o n1 (b4 q o n4 (ac q o n1 n2 n3 w))) ⟨oe,b5.extBut e oe (aa z4 e1 e2) e1,e2⟩
abbrev lS (t:Bool) (h:Heap) (a:Addr):Heap:=h.push { cls:=.type (if t then "tuple_iterator" else "list_iterator"),data:=.fields #[.ref a,.int 0 0] }
abbrev j9 (t u:Bool) (h:Heap) (a b:Addr):Heap:=(lS t h a).push { cls:=.type (if u then "tuple_iterator" else "list_iterator"),data:=.fields #[.ref b,.int 0 0] }
abbrev kA (t u:Bool) (h:Heap) (a b:Addr):Heap:=(j9 t u h a b).push { cls:=.type "tuple",data:=.seq #[.ref h.objs.size,.ref (lS t h a).objs.size] }
abbrev k8 (t u:Bool) (h:Heap) (a b:Addr):Heap:=(kA t u h a b).push { cls:=.type "tuple",data:=.seq #[.none,.none] }
abbrev AZ (t u:Bool) (h:Heap) (a b:Addr):Heap:=(k8 t u h a b).push { cls:=.type "zip",data:=.fields #[.none,.bool false,.bool false,.ref (j9 t u h a b).objs.size,.ref (kA t u h a b).objs.size] }
theorem IN(t u:Bool)(a b:Addr)(xs ys:Array bb):Meets (lz.«zip.__new__» ⟨[.type "zip",.ref a,.ref b],[]⟩) (fun _ R s=>SqK t s.heap a xs/\SqK u s.heap b ys /\
   ∀g,IsZip g (s.heap.objs.size+4) (s.heap.objs.size+2) (s.heap.objs.size+3) .none->nq g (s.heap.objs.size+2) (.ref s.heap.objs.size) (.ref (s.heap.objs.size+1))->nq g (s.heap.objs.size+3) .none .none ->
    ItK t g s.heap.objs.size a 0->ItK u g (s.heap.objs.size+1) b 0->(∀q o,s.heap.get? q=some o->g.get? q=some o)->R (.ok (.ret (.ref (s.heap.objs.size+4)))) { s with heap:=g }):=
 .of_wp fun prog w A R s aa=>by
  obtain⟨g0,gs,dr,tk,os⟩:=s;obtain⟨ha,hb,aa⟩:=aa;have sub:=sub_zip;have hA:SqK t (Shared.heap ⟨g0,gs,dr,tk,os⟩) a xs:=ha;have hB:SqK u (Shared.heap ⟨g0.push { cls:=.type (if t then "tuple_iterator" else "list_iterator"),data:=.fields #[.ref a,.int 0 0] },gs,dr,tk,os⟩) b ys:=SqK.at hb fun o e=>bn _ e
  wp_walk using Dl hA,Dl hB
  refine⟨_,rfl,?_⟩;have z1:(lS t g0 a).objs.size=g0.objs.size+1:=su ..;have z2:(j9 t u g0 a b).objs.size=g0.objs.size+2:=by rw[su,z1]
  have z3:(kA t u g0 a b).objs.size=g0.objs.size+3:=by rw[su,z2]
  have z4:(k8 t u g0 a b).objs.size=g0.objs.size+4:=by rw[su,z3]
  have f1:=cv g0 (o:={ cls:=.type (if t then "tuple_iterator" else "list_iterator"),data:=.fields #[.ref a,.int 0 0] }) (by cases t<;>rfl);have f2:=cv (lS t g0 a) (o:={ cls:=.type (if u then "tuple_iterator" else "list_iterator"),data:=.fields #[.ref b,.int 0 0] }) (by cases u<;>rfl);have f3:=cv (j9 t u g0 a b) (o:={ cls:=.type "tuple",data:=.seq #[.ref g0.objs.size,.ref (lS t g0 a).objs.size] }) rfl;have f4:=cv (kA t u g0 a b) (o:={ cls:=.type "tuple",data:=.seq #[.none,.none] }) rfl;have f5:=cv (k8 t u g0 a b) (o:={ cls:=.type "zip",data:=.fields #[.none,.bool false,.bool false,.ref (j9 t u g0 a b).objs.size,.ref (kA t u g0 a b).objs.size] }) rfl;have c1:∀q o,g0.get? q=some o->(lS t g0 a).get? q=some o:=fun q o e=>bn _ e;have c2:∀q o,(lS t g0 a).get? q=some o->(j9 t u g0 a b).get? q=some o:=fun q o e=>bn _ e;have c3:∀q o,(j9 t u g0 a b).get? q=some o->(kA t u g0 a b).get? q=some o:=fun q o e=>bn _ e;have c4:∀q o,(kA t u g0 a b).get? q=some o->(k8 t u g0 a b).get? q=some o:=fun q o e=>bn _ e;have c5:∀q o,(k8 t u g0 a b).get? q=some o->(AZ t u g0 a b).get? q=some o:=fun q o e=>bn _ e;have y1:=c5 _ _ (c4 _ _ (c3 _ _ (c2 _ _ f1)));have y2:=c5 _ _ (c4 _ _ (c3 _ _ f2));have y3:=c5 _ _ (c4 _ _ f3);have y4:=c5 _ _ f4;have y5:(AZ t u g0 a b).get? (k8 t u g0 a b).objs.size=some { cls:=.type "zip",data:=.fields #[.none,.bool false,.bool false,.ref (j9 t u g0 a b).objs.size,.ref (kA t u g0 a b).objs.size] }:=f5;have fin:R (.ok (.ret (.ref (k8 t u g0 a b).objs.size))) ⟨AZ t u g0 a b,gs,dr,tk,os⟩:=by
   rw[z4,z2,z3]at y5;rw[z2,z1]at y3;rw[z3]at y4;rw[z1]at y2;rw[z4];refine aa _ y5 y3 y4 ?_ ?_ fun q o e=>c5 q o (c4 q o (c3 q o (c2 q o (c1 q o e))))
   ·cases t<;>exact⟨_,y1,rfl,rfl⟩
   ·cases u<;>exact⟨_,y2,rfl,rfl⟩
  exact fin
theorem IP{t u:Bool}{a b:Addr}{xs ys:Array bb}{Q:bb->bf->Prop}(ha:SqK t s.heap a xs)(hb:SqK u s.heap b ys)
  (hyp:∀g,IsZip g (s.heap.objs.size+4) (s.heap.objs.size+2) (s.heap.objs.size+3) .none->nq g (s.heap.objs.size+2) (.ref s.heap.objs.size) (.ref (s.heap.objs.size+1))->nq g (s.heap.objs.size+3) .none .none ->
    ItK t g s.heap.objs.size a 0->ItK u g (s.heap.objs.size+1) b 0->(∀q o,s.heap.get? q=some o->g.get? q=some o)->Q (.ref (s.heap.objs.size+4)) { s with heap:=g }):bq (model prog w) A (call (.type "zip") [.ref a,.ref b]) Q E s:=by
 refine callType_new F.called_zip dz (F.typeCall_zip_2 _ _) (F.newCall_zip_2 _ _) (fun ob=>F.args_object_init_3 ob _ _) F.entry_zip_new (IN t u a b xs ys) ⟨ha,hb,fun g h1 h2 h3 h4 h5 h6=>?_⟩;exact⟨⟨_,h1,rfl⟩,hyp g h1 h2 h3 h4 h5 h6⟩
end
def SqV(K:bt)(t:Bool)(H:Hp)(a:Addr)(xs:List V):Prop:=match t with
 |true=>SqT K H a xs
 |false=>SqL K H a xs
theorem Inv.seqK{X:Cx}{zg:List (Addr×Obj)}{σ:St}{H:Hp}{s:bf}{t:Bool}{a:Addr}{xs:List V}(I:Inv X zg σ H s)(h:SqV X.K t H a xs):∃aa:List bb,Vals xs aa/\SqK t s.heap a aa.toArray/\∀ys,SqV X.K t H a ys->ys=xs:=by
 cases t
 ·obtain⟨aa,rv,p,_⟩:=I.list h;exact⟨aa,rv,p.isList,fun ys hy=>I.list_inj hy h⟩
 ·obtain⟨aa,rv,p,_⟩:=I.tuple h;exact⟨aa,rv,p,fun ys hy=>I.tuple_inj hy h⟩
theorem nne{a b:Nat}(h:a<b\/b<a):(show Addr from a)≠(show Addr from b):=fun e=>by
 have e':a=b:=e;omega
theorem Ke(N a b:Nat)(ha:a<N)(hb:b<N):ZAp (N+4) (N+2) (N+3) N (N+1) a b:=by
 constructor<;>exact nne yw
section
variable {X:Cx}{elts:List Expr}{n:Nat}{tpos:Pos}
theorem LS:ik "zip" = some (.type "zip"):=by decide +kernel
end
def jX:List bg->List bg->List bg
 |d::ds,e::es=>.tuple [d,e]::jX ds es
 |_,_=>[]
def qR(a:DA):DI:=fun δ S R=>a δ S fun xs S1=>arg2 xs fun x y=>∃ds,dY x=some ds/\∃es,dY y=some es/\R (jX ds es) S1
theorem FV{K:bt}{h o:List Addr}{H:Hp}{x:XV}{v:V}{ds:List bg}(e:dY x=some ds)(q:HasX h o H x v):∃t a ws,v=.ref a/\HasL (vx h o H) ds ws/\∀{o2 H2},ExH h o H o2 H2->SqV K t H2 a ws:=by
 unfold dY at e;split at e
 ·cases e;obtain⟨a,ws,rfl,ea,l⟩:=dS.mp (show Has (vx h o H) (.list ds) v from q);exact⟨false,a,ws,rfl,l,fun e2=>(SqL.of (bQ _ _ (e2.vx _ _ ea)):SqL K _ a ws)⟩
 ·cases e;obtain⟨a,ws,rfl,ea,l⟩:=dG.mp (show Has (vx h o H) (.tuple ds) v from q);exact⟨true,a,ws,rfl,l,fun e2=>(SqT.of (bQ _ _ (e2.vx _ _ ea)):SqT K _ a ws)⟩
 ·cases e
end
section
open Sem (wp)
def B1(K:bt):List V->Hp->VK->Prop:=fun xs H Q=>False
theorem IY{X:Cx}(hc:X.calm=true)(hu:X.A.units+64<so):CallR X (.builtin "min") (B1 X.K):=fun zg s σ H xs us Q I r h=>ib h
def D9(K:bt):List V->Hp->VK->Prop:=fun xs H Q=>x9 K xs H Q\/B1 K xs H Q
theorem Mf{X:Cx}(hc:X.calm=true)(hu:X.A.units+64<so):CallR X (.builtin "min") (D9 X.K):=(LU hc).or (IY hc hu)
def BO(ns:List Int):bg:=.tuple (ns.map dq)
def Ah:List XV->Sto->RX->Prop:=fun xs S R=>CC xs S R\/False
theorem Jd{K:bt}:RC (D9 K) Ah:=fun h o H S xs vs R Q hs hx q c=>q.elim (fun q=>.inl (JN h o H S xs vs R Q hs hx q c)) fun q=>q.elim
def cV:List XV->Sto->RX->Prop:=fun xs S R=>arg1 xs fun x=>asI x fun i=>i.natAbs.log2<1920/\R (.d (.str (qh i))) S
theorem Kn:RC (fun xs H Q=>∃i:Int,xs=[.int i]/\i.natAbs.log2<1920/\Q (.str (qh i)) H) cV:=fun h o H S xs vs R Q hs hx q c=>by
 obtain⟨x,rfl,q1⟩:=cK q;obtain⟨v,rfl,aa⟩:=hxs1 hx;obtain⟨i,rfl,hl,q2⟩:=bU q1;exact⟨i,by rw[bD aa],hl,c o H S _ _ Ex.refl hs (xS _) q2⟩
theorem Ju:RE (HA At) (dC (.dict [])):=fun h o H δ σ S R Q he hs q c p hp=>⟨p,[],rfl,zQ,fun ob=>by
 have e:upd (upd H p (.dK [])) p (.frz ob (.dK []))=upd H p (.frz ob (.dK [])):=NC;rw[e];refine c o _ S (.d (.dict [])) _ (Ex.of_same (Same.laid hp)) (hs.same (Same.laid hp)) ?_ q;show Has _ _ _;simp only[Has];exact⟨p,[],rfl,.inl ⟨ob,[],hs.laid hp,rfl,rfl⟩,FK.mpr rfl⟩⟩
section
variable {S:Sto}{P:Sto->List bg->Prop}{a b c d:List bg}{x:List bg}
theorem jV{S0:Sto}:(∃T ds,S0++[x]=T++[ds]/\P T ds)↔P S0 x:=by
 constructor
 ·rintro⟨T,ds,e,q⟩;obtain⟨rfl,e2⟩:=List.append_inj' e rfl;cases e2;exact q
 ·exact fun q=>⟨S0,x,rfl,q⟩
theorem qX:(∃T ds,[a]=T++[ds]/\P T ds)↔P [] a:=jV (S0:=[])
theorem uI:(∃T ds,[a,b]=T++[ds]/\P T ds)↔P [a] b:=jV (S0:=[a])
theorem rV:(∃T ds,[a,b,c]=T++[ds]/\P T ds)↔P [a,b] c:=jV (S0:=[a,b])
end
section
variable {n k:Nat}{ds:List bg}{d:bg}{v:V}
theorem p7:frz n ds (some (.d d))=some (.d d):=rfl
theorem pH:frz n ds (some (.l k))=if k=n then some (.d (.list ds))else some (.l k):=rfl
end
section
variable {α:Type}{n:Nat}{g:DG}{tt:DT}{te:DE}{fin:Sto->Prop}{S0:Sto}{caps:XE}
theorem Fl{h:α->bg}{f:α->bg}(P:XE->Prop)(hn:S0.length=n)(l:List α)(τ:XE)(hP:P τ)(hl:l.length<=1000)
  (el:∀x∈l,∀ τ acc (R:XE->RX),P τ->(∀ τ',P τ'->R τ' (.d (f x)) (S0++[acc]))->g (.d (h x)) τ (S0++[acc]) fun τ1 S1=>te τ1 S1 (R τ1)) (hf:fin (S0++[l.map f])):bC n g aI te fin (l.map h) τ (S0++[[]]):=by
 have go:∀(l:List α) (acc:List bg) (τ:XE),P τ->acc.length+l.length<=1000->(∀x∈l,∀ τ acc (R:XE->RX),P τ->(∀ τ',P τ'->R τ' (.d (f x)) (S0++[acc]))->g (.d (h x)) τ (S0++[acc]) fun τ1 S1=>te τ1 S1 (R τ1)) ->
   fin (S0++[acc++l.map f])->bC n g aI te fin (l.map h) τ (S0++[acc]):=by
  intro l;induction l with
  |nil=>intro acc τ _ _ _ h;rw[map_nil,jf]at h;exact h
  |cons x l ih=>
   intro acc τ hP hl el hh;show g (.d (h x)) τ (S0++[acc]) fun τ1 S1=>aI τ1 S1 fun b S2=>if b=true then te τ1 S2 fun x S3=>asD x fun e=>∃acc,S3[n]?=some acc/\acc.length<1000/\bC n g aI te fin (l.map h) τ1 (S3.set n (acc++[e]))else bC n g aI te fin (l.map h) τ1 S2
   simp only[aI,↓reduceIte];rw[cz]at hl;refine el x cw τ acc (fun τ1 x S3=>asD x fun e=>∃acc,S3[n]?=some acc/\acc.length<1000/\bC n g aI te fin (l.map h) τ1 (S3.set n (acc++[e]))) hP fun τ' aa=>?_;refine⟨acc,by rw[<- hn,ck],yw,?_⟩;rw[w8 hn];refine ih (acc++[f x]) τ' aa (by rw[cq,gb];omega) (fun e m=>el e (cn _ m)) ?_;rw[ja];exact hh
 exact go l [] τ hP (by simpa using hl) el (by simpa using hf)
theorem cmp1{h:α->bg}(f:α->bg)(hn:S0.length=n)(l:List α){u:Option XV}(hl:l.length<=1000)
  (el:∀x∈l,∀(u:Option XV) acc (R:XE->RX),(∀u',R (u'::caps) (.d (f x)) (S0++[acc]))->g (.d (h x)) (u::caps) (S0++[acc]) fun τ1 S1=>te τ1 S1 (R τ1)) (hf:fin (S0++[l.map f])):bC n g aI te fin (l.map h) (u::caps) (S0++[[]]):=
 Fl (fun τ=>∃u,τ=u::caps) hn l _ ⟨u,rfl⟩ hl (fun x m τ acc R ⟨u,e⟩ k=>by subst e;exact el x m u acc R fun u'=>k _ ⟨u',rfl⟩) hf
theorem cmp3{h:α->bg}(f:α->bg)(hn:S0.length=n)(l:List α){u v w:Option XV}(hl:l.length<=1000)
  (el:∀x∈l,∀(u v w:Option XV) acc (R:XE->RX),(∀u' v' w',R (u'::v'::w'::caps) (.d (f x)) (S0++[acc]))->g (.d (h x)) (u::v::w::caps) (S0++[acc]) fun τ1 S1=>te τ1 S1 (R τ1)) (hf:fin (S0++[l.map f])):bC n g aI te fin (l.map h) (u::v::w::caps) (S0++[[]]):=
 Fl (fun τ=>∃u v w,τ=u::v::w::caps) hn l _ ⟨u,v,w,rfl⟩ hl (fun x m τ acc R ⟨u,v,w,e⟩ k=>by subst e;exact el x m u v w acc R fun u' v' w'=>k _ ⟨u',v',w',rfl⟩) hf
theorem Nm{h:α->bg}{f:α->bg}{p:α->Bool}(P:XE->Prop)(hn:S0.length=n)(l:List α)(τ:XE)(hP:P τ)(hl:l.length<=1000)
  (el:∀x∈l,∀ τ acc (R:XE->Bool->Sto->Prop),P τ->(∀ τ',P τ'->(p x=true->∀T:RX,T (.d (f x)) (S0++[acc])->te τ' (S0++[acc]) T)->R τ' (p x) (S0++[acc]))->g (.d (h x)) τ (S0++[acc]) fun τ1 S1=>tt τ1 S1 (R τ1))
  (hf:fin (S0++[(l.filter p).map f])):bC n g tt te fin (l.map h) τ (S0++[[]]):=by
 have go:∀(l:List α) (acc:List bg) (τ:XE),P τ->acc.length+l.length<=1000->(∀x∈l,∀ τ acc (R:XE->Bool->Sto->Prop),P τ->(∀ τ',P τ'->(p x=true->∀T:RX,T (.d (f x)) (S0++[acc])->te τ' (S0++[acc]) T)->R τ' (p x) (S0++[acc]))->g (.d (h x)) τ (S0++[acc]) fun τ1 S1=>tt τ1 S1 (R τ1)) ->
   fin (S0++[acc++(l.filter p).map f])->bC n g tt te fin (l.map h) τ (S0++[acc]):=by
  intro l;induction l with
  |nil=>intro acc τ _ _ _ h;rw[List.filter_nil,map_nil,jf]at h;exact h
  |cons x l ih=>
   intro acc τ hP hl el hh;show g (.d (h x)) τ (S0++[acc]) fun τ1 S1=>tt τ1 S1 fun b S2=>if b=true then te τ1 S2 fun x S3=>asD x fun e=>∃acc,S3[n]?=some acc/\acc.length<1000/\bC n g tt te fin (l.map h) τ1 (S3.set n (acc++[e]))else bC n g tt te fin (l.map h) τ1 S2
   rw[cz]at hl;refine el x cw τ acc (fun τ1 b S2=>if b=true then te τ1 S2 fun x S3=>asD x fun e=>∃acc,S3[n]?=some acc/\acc.length<1000/\bC n g tt te fin (l.map h) τ1 (S3.set n (acc++[e]))else bC n g tt te fin (l.map h) τ1 S2) hP fun τ' aa ev=>?_;cases hp:p x with
   |false=>
    rw[List.filter_cons_of_neg (by rw[hp];exact jo)]at hh;exact gL (ih acc τ' aa yw (fun e m=>el e (cn _ m)) hh)
   |true=>
    rw[List.filter_cons_of_pos hp,gk]at hh;refine gG (ev hp _ ⟨acc,by rw[<- hn,ck],yw,?_⟩);rw[w8 hn];exact ih (acc++[f x]) τ' aa (by rw[cq,gb];omega) (fun e m=>el e (cn _ m)) (by rw[ja];exact hh)
 exact go l [] τ hP (by simpa using hl) el (by simpa using hf)
theorem cmf1{h:α->bg}(f:α->bg)(p:α->Bool)(hn:S0.length=n)(l:List α){u:Option XV}(hl:l.length<=1000)
  (el:∀x∈l,∀(u:Option XV) acc (R:XE->Bool->Sto->Prop),(∀u',(p x=true->∀T:RX,T (.d (f x)) (S0++[acc])->te (u'::caps) (S0++[acc]) T)->R (u'::caps) (p x) (S0++[acc]))->g (.d (h x)) (u::caps) (S0++[acc]) fun τ1 S1=>tt τ1 S1 (R τ1)) (hf:fin (S0++[(l.filter p).map f])):bC n g tt te fin (l.map h) (u::caps) (S0++[[]]):=
 Nm (fun τ=>∃u,τ=u::caps) hn l _ ⟨u,rfl⟩ hl (fun x m τ acc R ⟨u,e⟩ k=>by subst e;exact el x m u acc R fun u' hh=>k _ ⟨u',rfl⟩ hh) hf
end
end
section
@[irreducible] def QSs (X:Cx) (st:List Stmt) (t:TS):Prop:=PSs X st t
theorem QSs.out{X:Cx}{st:List Stmt}{t:TS}(h:QSs X st t):PSs X st t:=by unfold QSs at h;exact h
theorem QSs.mk{X:Cx}{st:List Stmt}{t:TS}(h:PSs X st t):QSs X st t:=by unfold QSs;exact h
theorem NY{X:Cx}{b:List Stmt}{R:TS->Prop}(h:∃t,QSs X b t/\R t):∃t,PSs X b t/\R t:=let ⟨t,h1,h2⟩:=h;⟨t,h1.out,h2⟩
theorem G6{X:Cx}{st:Stmt}{rest:List Stmt}{t u:TS}(h1:PS X st t)(h2:QSs X rest u):QSs X (st::rest) (bM t u):=QSs.mk (zf h1 h2.out)
theorem Hl{X:Cx}{st:Stmt}{t:TS}(h1:PS X st t):QSs X [st] t:=QSs.mk (zi h1)
@[irreducible] def QA (X:Cx) (es:List Expr) (t:TA):Prop:=PA X es t
theorem QA.out{X:Cx}{es:List Expr}{t:TA}(h:QA X es t):PA X es t:=by unfold QA at h;exact h
theorem QA.mk{X:Cx}{es:List Expr}{t:TA}(h:PA X es t):QA X es t:=by unfold QA;exact h
theorem f9{X:Cx}:QA X [] nY:=QA.mk zd
theorem zV{X:Cx}{e:Expr}{es:List Expr}{te:TE}{t:TA}(ha:PE X e te)(hr:QA X es t)(hs:cu (e::es) X.env=(false,eval e X.env)::cu es X.env:=by rfl):QA X (e::es) (fQ te t):=QA.mk (za ha hr.out hs)
theorem oW{X:Cx}{es:List Expr}{t:TA}{pos:Pos}(h:QA X es t):PE X (.List es pos) (kC t):=bF h.out
@[irreducible] def QS (X:Cx) (st:Stmt) (t:TS):Prop:=PS X st t
theorem QS.out{X:Cx}{st:Stmt}{t:TS}(h:QS X st t):PS X st t:=by unfold QS at h;exact h
theorem QS.mk{X:Cx}{st:Stmt}{t:TS}(h:PS X st t):QS X st t:=by unfold QS;exact h
theorem uT{X:Cx}{st:Stmt}{rest:List Stmt}{t u:TS}(h1:QS X st t)(h2:QSs X rest u):QSs X (st::rest) (bM t u):=QSs.mk (zf h1.out h2.out)
theorem Nz{X:Cx}{i:Nat}{x:Str}{es:List Expr}{t:TA}{pos pos' pos'':Pos}(hN:X.N.Nodup)(hi:X.N[i]?=some x)(hx:Loc X.env.scope x)(he:QA X es t)(hs:sj (.List es pos'') (some (.Name x pos')) pos.line X.env=pure false:=by rfl)(hf:X.fn x=true\/X.env.scope.names.lookup x=some .local:=by first|exact .inl rfl|exact .inr rfl|assumption):
  QS X (.Assign [.Name x pos'] (.List es pos'') pos) (iH (kC t) (gP i)):=QS.mk (zF hN hi hx (bF he.out) hs hf)
end
section
def PJ(X:Cx)(vs:List Expr)(t:Str->TE):Prop:=
 ∀(out:Str) (zg:List (Addr×Obj)) (s:bf) (σ:St) (H:Hp) (Q:VK),Inv X zg σ H s->t out σ H Q->bq (model X.prog X.w) X.A (joinParts out (evalEach vs X.env)) (EP X zg σ Q) X.xe s
def FW:Str->TE:=fun aa _ H Q=>aa.length<=bw/\Q (.str aa) H
def Em(te:TE)(t:Str->TE):Str->TE:=fun aa σ H Q=>te σ H fun v H1=>∃y:Str,v=.str y/\(aa++y).length<=bw/\t (aa++y) σ H1 Q
def yM(te:TE):TE:=fun σ H Q=>te σ H fun v H1=>(∃x:Str,v=.str x/\x.length<=bw/\Q (.str x) H1)\/(∃i:Int,v=.int i/\i.natAbs.log2<1920/\Q (.str (qh i)) H1)
section
variable {X:Cx}
theorem Oi:PJ X [] FW:=by
 intro aa zg s σ H Q I h;exact joinParts_nil ⟨.str aa,H,I.kept (fun b o e=>e),⟨_,rfl⟩,h.2⟩ h.1
theorem oE{v:Expr}{vs:List Expr}{te:TE}{t:Str->TE}(hv:PE X v te)(hr:PJ X vs t):PJ X (v::vs) (Em te t):=by
 intro aa zg s σ H Q I h;show bq _ _ (joinParts aa (eval v X.env::evalEach vs X.env)) _ _ s;refine joinParts_cons (thn (hv zg s σ H _ I h) fun u s1 ⟨z,H1,I1,r,y,e,hz,q⟩=>?_);subst e;obtain⟨tk,rfl⟩:=r;exact⟨hz,hr _ zg s1 σ H1 Q I1 q⟩
theorem M7{v1 v2:Expr}{rest:List Expr}{pos:Pos}{t:Str->TE}(h:PJ X (v1::v2::rest) t):PE X (.JoinedStr (v1::v2::rest) pos) (t Str.empty):=by
 intro zg s σ H Q I hq;exact JoinedStr_many (h Str.empty zg s σ H Q I hq)
theorem xV{v:Expr}{pos:Pos}{te:TE}(hv:PE X v te):PE X (.FormattedValue v (-1) none pos) (yM te):=by
 intro zg s σ H Q I h;refine FormattedValue_plain (thn (hv zg s σ H _ I h) fun u s1 ⟨z,H1,I1,r,q⟩=>?_);rcases q with ⟨x,rfl,hz,q⟩|⟨i,rfl,hi,q⟩
 ·obtain⟨tk,rfl⟩:=r;exact formatField_str (fun t' aa=>⟨.str x,H1,I1.kept (fun b o e=>e),⟨_,rfl⟩,q⟩) hz
 ·obtain⟨tk,rfl⟩:=r;exact formatField_int_small hi ⟨.str (qh i),H1,I1.kept (fun b o e=>e),⟨_,rfl⟩,q⟩
end
def lI:Str->DE:=fun aa _ S R=>aa.length<=bw/\R (.d (.str aa)) S
def fU(d:DE)(t:Str->DE):Str->DE:=fun aa δ S R=>d δ S fun x S1=>asS x fun y=>(aa++y).length<=bw/\t (aa++y) δ S1 R
def mZ(t:Str->DE):DE:=t Str.empty
def lH(d:DE):DE:=fun δ S R=>d δ S fun x S1=>asS x fun z=>z.length<=bw/\R (.d (.str z)) S1
def jO(d:DE):DE:=fun δ S R=>d δ S fun x S1=>asI x fun i=>i.natAbs.log2<1920/\R (.d (.str (qh i))) S1
def RJ(t:Str->TE)(d:Str->DE):Prop:=∀out,RE (t out) (d out)
theorem Nt:RJ FW lI:=fun aa h o H δ σ S R Q he hs q c=>⟨q.1,c o H S _ _ Ex.refl hs (xS _) q.2⟩
theorem nW{ta:TE}{da:DE}{t:Str->TE}{d:Str->DE}(ha:RE ta da)(hb:RJ t d):RJ (Em ta t) (fU da d):=fun aa h o H δ σ S R Q he hs q c=>
 ha h o H δ σ S _ _ he hs q fun o1 H1 S1 x v e1 s1 x1 d1=>by
  obtain⟨y,rfl,hz,d2⟩:=eX d1;exact⟨y,cI x1,hz,hb _ h o1 H1 δ σ S1 R Q (he.mono e1) s1 d2 (c.pre e1)⟩
theorem K6{t:Str->TE}{d:Str->DE}(h:RJ t d):RE (t Str.empty) (mZ d):=h Str.empty
theorem O1{ta:TE}{da:DE}(ha:RE ta da):RE (yM ta) (lH da):=fun h o H δ σ S R Q he hs q c=>
 ha h o H δ σ S _ _ he hs q fun o1 H1 S1 x v e1 s1 x1 d1=>by
  obtain⟨y,rfl,hz,d2⟩:=eX d1;exact .inl ⟨y,cI x1,hz,c.pre e1 o1 H1 S1 _ _ Ex.refl s1 (xS _) d2⟩
theorem ES{ta:TE}{da:DE}(ha:RE ta da):RE (yM ta) (jO da):=fun h o H δ σ S R Q he hs q c=>
 ha h o H δ σ S _ _ he hs q fun o1 H1 S1 x v e1 s1 x1 d1=>by
  obtain⟨i,rfl,hz,d2⟩:=bU d1;exact .inr ⟨i,bD x1,hz,c.pre e1 o1 H1 S1 _ _ Ex.refl s1 (xS _) d2⟩
end
section
def rZ(a:DA):DE:=fun δ S R=>a δ S fun xs S1=>arg2 xs fun x y=>asI x fun i=>asI y fun j=>(j-i).toNat<=1000/\R (.d (.list (kO i (j-i).toNat))) S1
end
end L2
namespace L2
open PySem PySem.Spec PyProof.Rows
section
def sP:D3:=fun x i j S R=>asT x fun ds=>R (.d (.tuple (bI ds i j))) S
end
section
theorem Gq{r:Addr}{lo hi x:Int}{t u v tx:Tok}:Meets (lz.«range.__contains__» ⟨[.ref r,.int x tx],[]⟩) (fun _ R s=>IsRange s.heap r lo hi 1 t u v/\R (.ok (.ret (.bool (decide (lo<=x/\x<hi))))) s):=by
 rintro prog w A R s ⟨hr,q⟩;have e:(Builtin.Range.rangePlace? lo hi 1 x).isSome=decide (lo<=x/\x<hi):=by
  unfold Builtin.Range.rangePlace?;by_cases h:lo<=x/\x<hi
  ·simp[h]
  ·simp[h]
 rw[<- e]at q;obtain⟨hp,g,d,tk,os⟩:=s
 wp_walk using AutoSeq1.wpAny_loadPart' hr
 exact q
def AV(k:Bool):CmpOp:=if k=true then .NotIn else .In
theorem Hy{prog:df}{w:gg}{A:fm}{E:bb->bf->Prop}{s:bf}{r:Addr}{lo hi x:Int}{t u v tx:Tok}{Q:bb->bf->Prop}{k:Bool}(hr:IsRange s.heap r lo hi 1 t u v)
  (h:Q (.bool (if k=true then !decide (lo<=x/\x<hi)else decide (lo<=x/\x<hi))) s):bq (model prog w) A (jd (AV k) (.int x tx) (.ref r)) Q E s:=by
 cases k with
 |false=>exact SeqRoads2.in_meets ⟨_,hr,rfl⟩ F.slot_range_contains F.entry_range_contains (F.args_range_contains_2 _ _) (Gq (t:=t) (u:=u) (v:=v)) ⟨hr,_,rfl,h⟩
 |true=>exact SeqRoads2.notIn_meets ⟨_,hr,rfl⟩ F.slot_range_contains F.entry_range_contains (F.args_range_contains_2 _ _) (Gq (t:=t) (u:=u) (v:=v)) ⟨hr,_,rfl,h⟩
def Ee(vs:List V)(a b:Int):Prop:=(vs=[.int b]/\a=0)\/vs=[.int a,.int b]
def xZ(k:Bool)(ta:TE)(tb:TA):TE:=fun σ H Q=>ta σ H fun x H1=>tb σ H1 fun ys H2=>∃i a b:Int,x=.int i/\Ee ys a b/\Q (.bl (if k=true then !decide (a<=i/\i<b)else decide (a<=i/\i<b))) H2
section
variable {X:Cx}{l e e':Expr}{es:List Expr}{ta:TE}{tb:TA}{p pos pos':Pos}{k:Bool}
theorem OC{zg:List (Addr×Obj)}{s:bf}{σ:St}{H:Hp}{Q:bb->bf->Prop}{vs:List V}{us:List bb}{a b:Int}(I:Inv X zg σ H s)(r:Vals vs us)(h:Ee vs a b)
  (q:∀(r:Addr) (t u v:Tok) (s':bf),IsRange s'.heap r a b 1 t u v->Inv X zg σ H s'->Q (.ref r) s'):bq (model X.prog X.w) X.A (call (.type "range") us) Q X.xe s:=by
 rcases h with ⟨rfl,rfl⟩|rfl
 ·cases r with
  |cons r rr=>
   cases rr;obtain⟨t,rfl⟩:=r;exact call_range_1 (q _ _ _ _ _ (IsRange.new ..) (I.kept fun b o e=>bn _ e))
 ·cases r with
  |cons r rr=>
   cases rr with
   |cons r' rr=>
    cases rr;obtain⟨t,rfl⟩:=r;obtain⟨t',rfl⟩:=r';exact call_range_2 (q _ _ _ _ _ (IsRange.new ..) (I.kept fun b o e=>bn _ e))
theorem JS{zg:List (Addr×Obj)}{s:bf}{σ:St}{H:Hp}{Q:VK}(hg:Gl X "range")(hm:X.mg "range" = none)(ha:PE X l ta)(hb:PA X [e,e'] tb)(hs:cu [e,e'] X.env=[(false,eval e X.env),(false,eval e' X.env)])(aa:cu [e'] X.env=[(false,eval e' X.env)])(I:Inv X zg σ H s)(h:xZ k ta tb σ H Q):
  bq (model X.prog X.w) X.A (eval l X.env) (fun a s1=>bq (model X.prog X.w) X.A (eval (.Call (.Name "range" p) [e,e'] [] pos) X.env) (fun b s2=>bq (model X.prog X.w) X.A (jd (AV k) a b) (EP X zg σ Q) X.xe s2) X.xe s1) X.xe s:=by
 refine thn (ha zg s σ H _ I h) fun a s1 ⟨x,H1,I1,r1,q1⟩=>?_;refine Call_ (gY I1 hg hm boot_range (jh (thn (hb pos zg s1 σ H1 _ I1 q1) fun us s2 ⟨vs,H2,I2,r2,q2⟩=>?_) (by rw[hs,aa]) (by rw[aa];rfl)));obtain⟨i,n,m,rfl,hv,q⟩:=q2;obtain⟨tx,rfl⟩:=r1;exact OC I2 r2 hv fun r t u v s' ir I3=>Hy ir ⟨.bl _,H2,I3,rfl,q⟩
theorem MS(k:Bool){op:CmpOp}(hg:Gl X "range")(hm:X.mg "range" = none)(ha:PE X l ta)(hb:PA X [e,e'] tb)(ho:op=AV k:=by rfl)(hs:cu [e,e'] X.env=[(false,eval e X.env),(false,eval e' X.env)]:=by rfl)(aa:cu [e'] X.env=[(false,eval e' X.env)]:=by rfl)(hk:behindInMarks op (.Call (.Name "range" p) [e,e'] [] pos)=false:=by rfl):
  PT X (.Compare l [op] [.Call (.Name "range" p) [e,e'] [] pos] pos') (oS (xZ k ta tb)):=by
 subst ho;intro zg s σ H Q I h;refine wpAny_isTrue_Compare1 (thn (JS (Q:=fun x H'=>∃k,x=.bl k/\Q k H') hg hm ha hb hs aa I h) fun a s1 q1=>thn q1 fun b s2 q2=>thn q2 fun c s3 ⟨z,H3,I3,r3,k,e,q3⟩=>?_) hk;subst e;cases r3;exact kj ⟨H3,I3,q3⟩
end
def mQ(k:Bool)(a:DE)(b:DA):DE:=fun δ S R=>a δ S fun x S1=>b δ S1 fun ys S2=>asI x fun i=>arg2 ys fun y z=>asI y fun n=>asI z fun m=>R (.d (.bool (if k=true then !decide (n<=i/\i<m)else decide (n<=i/\i<m)))) S2
theorem OO{k:Bool}{ta:TE}{da:DE}{tb:TA}{db:DA}(ha:RE ta da)(hb:RA tb db):RE (xZ k ta tb) (mQ k da db):=fun h o H δ σ S R Q he hs q c=>
 ha h o H δ σ S _ _ he hs q fun o1 H1 S1 x v e1 s1 x1 d1=>hb h o1 H1 δ σ S1 _ _ (he.mono e1) s1 d1 fun o2 H2 S2 ys us e2 s2 y2 d2=>by
  obtain⟨i,rfl,d3⟩:=bU d2;obtain⟨y,z,rfl,d4⟩:=rE d3;obtain⟨n,rfl,d5⟩:=bU d4;obtain⟨m,rfl,d6⟩:=bU d5;obtain⟨v,u,rfl,hv,hu⟩:=hxs2 y2;refine⟨i,n,m,bD (x1.mono e2),.inr (by rw[bD hv,bD hu]),c o2 H2 S2 _ _ (e1.trans e2) s2 (xB _) d6⟩
end
section
@[irreducible] def QE (X:Cx) (e:Expr) (t:TE):Prop:=PE X e t
theorem QE.out{X:Cx}{e:Expr}{t:TE}(h:QE X e t):PE X e t:=by unfold QE at h;exact h
theorem QE.mk{X:Cx}{e:Expr}{t:TE}(h:PE X e t):QE X e t:=by unfold QE;exact h
theorem mE{X:Cx}{e:Expr}{es:List Expr}{te:TE}{t:TA}(ha:QE X e te)(hr:QA X es t)(hs:cu (e::es) X.env=(false,eval e X.env)::cu es X.env:=by rfl):QA X (e::es) (fQ te t):=QA.mk (za ha.out hr.out hs)
theorem NQ{X:Cx}{es:List Expr}{t:TA}{k:Nat}{pos:Pos}(h:QA X es t):QE X (.Tuple es k pos) (wB t):=QE.mk (cZ h.out)
theorem vH{X:Cx}{es:List Expr}{t:TA}{pos:Pos}(h:QA X es t):QE X (.List es pos) (kC t):=QE.mk (bF h.out)
section
variable {X:Cx}{es l l':List Expr}{te:TE}{t:TA}{k:Nat}{p:Pos}{c:Const}{x:Str}{ks:List (Option Expr)}
theorem KP(ha:QE X (.Tuple l k p) te)(hr:QA X es t):QA X (.Tuple l k p::es) (fQ te t):=QA.mk (za ha.out hr.out rfl)
theorem Ll(ha:QE X (.List l p) te)(hr:QA X es t):QA X (.List l p::es) (fQ te t):=QA.mk (za ha.out hr.out rfl)
theorem bP(ha:QE X (.Constant c k p) te)(hr:QA X es t):QA X (.Constant c k p::es) (fQ te t):=QA.mk (za ha.out hr.out rfl)
theorem NT(ha:QE X (.Dict [] [] p) te)(hr:QA X es t):QA X (.Dict [] [] p::es) (fQ te t):=QA.mk (za ha.out hr.out rfl)
end
theorem N7{X:Cx}{st:Stmt}{rest:List Stmt}{t u:TS}(h1:PS X st t)(h2:QSs X rest u):PSs X (st::rest) (bM t u):=zf h1 h2.out
end
end L2
namespace L2
open PySem PySem.Spec PyProof.Rows
section
theorem HB:ik "tuple" = some (.type "tuple"):=by decide +kernel
def qT:D2:=fun x y S R=>asT x fun ds=>asT y fun es=>∃ns,ds=ns.map dq/\∃ms,es=ms.map dq/\R (.d (.bool (HT.lexLt ns ms))) S
end
section
open Sem (wp)
abbrev IsT (h:Heap) (T:Addr) (xs:Array bb):Prop:=h.get? T=some { cls:=.type "tuple",data:=.seq xs }
section
variable {prog:df}{w:gg}{A:fm}{E:bb->bf->Prop}{s:bf}
structure Z4(h:Heap)(N a b c d:Addr)(k:Nat)(f:bb)(own:Array bb):Prop where
 hz:IsZip h (N+6) (N+4) (N+5) f
 hp:IsT h (N+4) #[.ref N,.ref (N+1),.ref (N+2),.ref (N+3)]
 hr:IsT h (N+5) own
 ho:own.size=4
 i1:ItK true h N a k
 i2:ItK true h (N+1) b k
 i3:ItK true h (N+2) c k
 i4:ItK true h (N+3) d k
end
end
section
theorem PB(f:Array bb->Array bb)(o:Obj):(io f o).dict=o.dict:=by
 unfold io;split<;>rfl
def RecAt(h base:Heap)(e:Addr)(cls:bb)(dx:Option Addr)(a0 fl:bb):Prop:=
 ∃oe vs T oT ts,h.get? e=some oe/\oe.cls=cls/\oe.dict=dx/\oe.data=.fields vs/\(vs[0]?=some a0/\(cls∉ctxG->vs[2]?=some .none))/\vs[1]?=some (.ref T)/\base.get? T=none/\T≠e/\h.get? T=some oT/\oT.data=.fields ts/\ts[3]?=some fl
structure NotedD(base:Heap)(l:List Env)(e:Addr)(cls:bb)(dx:Option Addr)(a0 fl:bb)(h h':Heap):Prop where
 stays:base.StaysIn h'
 frames:h'.FunFrames base l
 rcd:RecAt h' base e cls dx a0 fl
 upto:h.UpToSlots h'
def FlyD(base:Heap)(l:List Env)(e:Addr)(cls:bb)(dx:Option Addr)(a0:bb)(h:Heap):Prop:=base.StaysIn h/\base.get? e=none/\h.FunFrames base l/\RecAt h base e cls dx a0 .none
def HeldD(base:Heap)(l:List Env)(e:Addr)(cls:bb)(dx:Option Addr)(a0:bb)(L:Addr)(h:Heap):Prop:=base.StaysIn h/\base.get? e=none/\h.FunFrames base l/\RecAt h base e cls dx a0 (ml L)
theorem FlyD.there{base h:Heap}{l:List Env}{e:Addr}{cls a0:bb}{dx:Option Addr}(x:FlyD base l e cls dx a0 h):∃ob,h.get? e=some ob/\ob.cls=cls/\ob.dict=dx:=
 let ⟨_,_,_,oe,_,_,_,_,he,hc,hd,_⟩:=x;⟨oe,he,hc,hd⟩
theorem FlyD.first{base h:Heap}{l:List Env}{e:Addr}{cls a0:bb}{dx:Option Addr}(x:FlyD base l e cls dx a0 h):∃oe vs,h.get? e=some oe/\oe.cls=cls/\oe.data=.fields vs/\vs[0]?=some a0:=
 let ⟨_,_,_,oe,vs,_,_,_,he,hc,_,hd,h0,_⟩:=x;⟨oe,vs,he,hc,hd,h0.1⟩
theorem FlyD.first2{base h:Heap}{l:List Env}{e:Addr}{cls a0:bb}{dx:Option Addr}(x:FlyD base l e cls dx a0 h):∃oe vs,h.get? e=some oe/\oe.cls=cls/\oe.data=.fields vs/\(cls∉ctxG->vs[2]?=some .none):=
 let ⟨_,_,_,oe,vs,_,_,_,he,hc,_,hd,h0,_⟩:=x;⟨oe,vs,he,hc,hd,h0.2⟩
section
variable {M:Model}{A:fm}{E:bb->bf->Prop}{s:bf}
theorem EF{base:Heap}{env:Env}{outer:List Env}{L e:Addr}{oe:Obj}{vs:Array bb}{ac a0:bb}{aa:Bool}{Q:Unit->bf->Prop}
  (hfr:A.frames=some (env::outer)) (hl:s.heap.FunFrames base (env::outer)) (hf:env.frame=some L)
  (he:s.heap.get? e=some oe) (hkb:base.StaysIn s.heap) (hen:base.get? e=none) (hd:oe.data=.fields vs) (hsz:1<vs.size) (h0:vs[0]?=some a0/\(oe.cls∉ctxG->vs[2]?=some .none))
  (h:∀h',NotedD base (env::outer) e oe.cls oe.dict a0 (ml L) s.heap h'->Q () { s with heap:=h' }):
  bq M A (do let a <- frameOf env;let pl <- entryPlaceOf L aa;let b <- EntryCells.newEntry ac a .none (ml L) .none pl;setField (.ref e) 1 b) Q E s:=by
 have ne:e∉(env::outer).filterMap (·.frame):=fun hm=>by
  obtain⟨_,o,ho,nf⟩:=hl.mem hm;rw[he]at ho;cases ho;exact nf vs hd
 refine bc (wpAny_frameOf_fun hfr hl hf fun h1 k1=>?_);refine bc (wpAny_entryPlaceOf fun pl ae=>?_);unfold EntryCells.newEntry newFields;refine bc (js ?_ (ae.sizeOk5 _ _ _ _ _));have e1:h1.get? e=some oe:=(k1.2.1 e ne).trans he;have b1:base.StaysIn h1:=fun b o q=>(k1.2.1 b fun hm=>by rw[(hl.mem hm).1]at q;cases q).trans (hkb b o q);generalize hT:({ cls:=.type "traceback",dict:=none,data:=.fields ([ac,.ref L,.none,ml L,.none]++(if pl.isEmpty then bo 6 gf else pl)).toArray }:Obj)=tb;have dT:∃ts,tb.data=.fields ts/\ts[3]?=some (ml L):=by
  subst hT;exact⟨_,rfl,yv⟩
 obtain⟨ts,dT,zT⟩:=dT;have fT:tb.isFreed=false:=jr dT;have e2:=bn (h:=h1) tb e1;refine pq e2 hd hsz (h _ ?_);have nT:h1.objs.size≠e:=qg (fi e1);have d3:=jp hd (·.setIfInBounds 1 (bv h1.objs.size));have e3:=je (io (·.setIfInBounds 1 (bv h1.objs.size))) e2 (jr d3);have t3:=(iw (h1.push tb) (io (·.setIfInBounds 1 (bv h1.objs.size))) (gj nT)).trans (cv h1 fT);have keep:∀b o,b≠e->h1.get? b=some o->((h1.push tb).update e (io (·.setIfInBounds 1 (bv h1.objs.size)))).get? b=some o:=fun b o nb q=>by
  rw[iw _ _ (gj nb)];exact bn _ q
 have nr:∀b o,s.heap.get? b=some o->(∀vs,o.data≠.fields vs)->b≠e:=fun b o q nf z=>by
  rw[z,he]at q;cases q;exact nf vs hd
 refine⟨fun b o q=>keep b o (fun z=>by rw[z,hen]at q;cases q) (b1 b o q),hl.of_keeps fun b o q nf=>?_,?_,fun b o q nf=>?_⟩
 ·obtain⟨sl,z⟩:=k1.2.2 b o q;exact⟨_,keep b _ (nr b o q nf) z,rfl⟩
 ·exact⟨_,_,h1.objs.size,_,_,e3,Obj.cls_mapFields _ _,PB _ _,d3,⟨by rw[Array.getElem?_setIfInBounds_ne dz];exact h0.1,fun z=>by rw[Array.getElem?_setIfInBounds_ne dz];exact h0.2 z⟩,by simp[hsz],b1.fresh,nT,t3,dT,zT⟩
 ·obtain⟨sl,z⟩:=k1.2.2 b o q;exact⟨sl,keep b _ (nr b o q nf) z⟩
theorem nV{base:Heap}{l:List Env}{e:Addr}{cls a0 fl:bb}{dx:Option Addr}{Q:Unit->bf->Prop}(ah:base.StaysIn s.heap)(ag:base.get? e=none)(hl:s.heap.FunFrames base l)(ht:RecAt s.heap base e cls dx a0 fl)
  (h:∀h',FlyD base l e cls dx a0 h'->s.heap.UpToSlots h'->Q () { s with heap:=h' }):bq M A (rg (.ref e) none) Q E s:=by
 obtain⟨oe,vs,T,oT,ts,he,hc,hx,hd,h0,h1,ae,af,hT,ac,h3⟩:=ht;have z3:3<ts.size:=(Array.getElem?_eq_some_iff.mp h3).1;have aa:∀b,b≠T->(s.heap.update T (io (·.setIfInBounds 3 ((none:Option Addr).elim gf fun f=>ml f)))).get? b=s.heap.get? b:=fun b hb=>iw _ _ (gj hb);have nr:∀b o,s.heap.get? b=some o->(∀vs,o.data≠.fields vs)->b≠T:=fun b o q nf z=>by
  rw[z,hT]at q;cases q;exact nf ts ac
 unfold rg;refine bc (fw he hd h1 ?_);rw[cm (show (bv T != gf)=true from by simp)];refine pq hT ac z3 (h _ ⟨fun b o q=>(aa b fun z=>by rw[z,ae]at q;cases q).trans (ah b o q),ag,hl.of_keeps fun b o q nf=>⟨o,(aa b (nr b o q nf)).trans q,rfl⟩,?_⟩ fun b o q nf=>⟨o.slots,(aa b (nr b o q nf)).trans q⟩);exact⟨oe,vs,T,_,_,(aa e (gj af)).trans he,hc,hx,hd,h0,h1,ae,af,je _ hT (jr (jp ac _)),jp ac _,by simp[z3]⟩
theorem CI{base:Heap}{env:Env}{outer:List Env}{L e:Addr}{oe:Obj}{vs:Array bb}{a0:bb}{Q:Unit->bf->Prop}
  (hfr:A.frames=some (env::outer)) (hl:s.heap.FunFrames base (env::outer)) (hf:env.frame=some L)
  (he:s.heap.get? e=some oe) (hkb:base.StaysIn s.heap) (hen:base.get? e=none) (hd:oe.data=.fields vs) (h1:vs[1]?=some .none) (h0:vs[0]?=some a0/\(oe.cls∉ctxG->vs[2]?=some .none))
  (h:∀h',NotedD base (env::outer) e oe.cls oe.dict a0 (ml L) s.heap h'->Q () { s with heap:=h' }):bq M A (ng (.ref e) env) Q E s:=by
 unfold ng;simp only[hf];refine bc (fw he hd h1 ?_);rw[cb dz];exact EF hfr hl hf he hkb hen hd (Array.getElem?_eq_some_iff.mp h1).1 h0 h
theorem By{base:Heap}{env:Env}{outer:List Env}{L e:Addr}{cls a0 fl:bb}{dx:Option Addr}{Q:Unit->bf->Prop}
  (hfr:A.frames=some (env::outer)) (hl:s.heap.FunFrames base (env::outer)) (hf:env.frame=some L) (ht:RecAt s.heap base e cls dx a0 fl) (hkb:base.StaysIn s.heap) (hen:base.get? e=none)
  (h:∀h',NotedD base (env::outer) e cls dx a0 (ml L) s.heap h'->Q () { s with heap:=h' }):bq M A (ng (.ref e) env) Q E s:=by
 have ae:=ht;obtain⟨oe,vs,T,oT,ts,he,rfl,rfl,hd,h0,h1,af,ag,hT,ac,h3⟩:=ht;unfold ng;simp only[hf];refine bc (fw he hd h1 ?_);rw[cm (show (bv T != gf)=true from by simp)];refine bc (fw hT ac h3 ?_);by_cases hb:(fl==ml L)=true
 ·rw[cm hb];rw[eq_of_beq hb]at ae;exact bp (h s.heap ⟨hkb,hl,ae,fun b o q _=>⟨o.slots,q⟩⟩)
 ·rw[cb hb];refine bc (pq hT ac (Array.getElem?_eq_some_iff.mp h3).1 ?_);have aa:∀b,b≠T->(s.heap.update T (io (·.setIfInBounds 3 gf))).get? b=s.heap.get? b:=fun b hb=>iw _ _ (gj hb);have nr:∀b o,s.heap.get? b=some o->(∀vs,o.data≠.fields vs)->b≠T:=fun b o q nf z=>by
   rw[z,hT]at q;cases q;exact nf ts ac
  exact EF hfr (hl.of_keeps fun b o q nf=>⟨o,(aa b (nr b o q nf)).trans q,rfl⟩) hf ((aa e (gj ag)).trans he)
   (fun b o q=>(aa b fun z=>by rw[z,af]at q;cases q).trans (hkb b o q)) hen hd (Array.getElem?_eq_some_iff.mp h1).1 h0
   fun h' x=>h h' ⟨x.stays,x.frames,x.rcd,fun b o q nf=>x.upto b o ((aa b (nr b o q nf)).trans q) nf⟩
theorem ID{base:Heap}{env:Env}{outer:List Env}{L e:Addr}{cls a0 fl:bb}{dx:Option Addr}{Q:Unit->bf->Prop}
  (hfr:A.frames=some (env::outer)) (hl:s.heap.FunFrames base (env::outer)) (hf:env.frame=some L) (ht:RecAt s.heap base e cls dx a0 fl) (hkb:base.StaysIn s.heap) (hen:base.get? e=none)
  (hQ:∀h',FlyD base outer e cls dx a0 h'->s.heap.UpToSlots h'->Q () { s with heap:=h' }):bq M A (leaving env (.ref e)) Q E s:=by
 unfold leaving;refine bc (By hfr hl hf ht hkb hen fun h' x=>?_);refine nV (s:={ s with heap:=h' }) x.stays hen x.frames x.rcd fun h2 y u=>hQ h2 ⟨y.1,y.2.1,?_,y.2.2.2⟩ (x.upto.trans u);obtain⟨_,_,k⟩:=y.2.2.1;exact k
theorem Bq{base:Heap}{env:Env}{outer:List Env}{L e:Addr}{oe:Obj}{vs:Array bb}{a0:bb}{Q:Unit->bf->Prop}
  (hfr:A.frames=some (env::outer)) (hl:s.heap.FunFrames base (env::outer)) (hf:env.frame=some L)
  (he:s.heap.get? e=some oe) (hkb:base.StaysIn s.heap) (hen:base.get? e=none) (hd:oe.data=.fields vs) (h1:vs[1]?=some .none) (h0:vs[0]?=some a0/\(oe.cls∉ctxG->vs[2]?=some .none))
  (hQ:∀h',FlyD base outer e oe.cls oe.dict a0 h'->s.heap.UpToSlots h'->Q () { s with heap:=h' }):bq M A (leaving env (.ref e)) Q E s:=by
 unfold leaving;refine bc (CI hfr hl hf he hkb hen hd h1 h0 fun h' x=>?_);refine nV (s:={ s with heap:=h' }) x.stays hen x.frames x.rcd fun h2 y u=>hQ h2 ⟨y.1,y.2.1,?_,y.2.2.2⟩ (x.upto.trans u);obtain⟨_,_,k⟩:=y.2.2.1;exact k
theorem Ay{base:Heap}{env:Env}{outer:List Env}{L e:Addr}{cls a0:bb}{dx:Option Addr}{Q:Unit->bf->Prop}(ac:A.frames=some (env::outer))(hf:env.frame=some L)(aa:FlyD base (env::outer) e cls dx a0 s.heap)
  (hQ:∀h',HeldD base (env::outer) e cls dx a0 L h'->s.heap.UpToSlots h'->Q () { s with heap:=h' }):bq M A (ng (.ref e) env) Q E s:=by
 obtain⟨f1,f2,f3,f4⟩:=aa;exact By ac f3 hf f4 f1 f2 fun h' x=>hQ h' ⟨x.stays,f2,x.frames,x.rcd⟩ x.upto
theorem GG{base:Heap}{l:List Env}{e L:Addr}{cls a0:bb}{dx:Option Addr}{Q:Unit->bf->Prop}(hh:HeldD base l e cls dx a0 L s.heap)(hQ:∀h',FlyD base l e cls dx a0 h'->s.heap.UpToSlots h'->Q () { s with heap:=h' }):bq M A (rg (.ref e) none) Q E s:=by
 obtain⟨f1,f2,f3,f4⟩:=hh;exact nV f1 f2 f3 f4 hQ
theorem Gg{base:Heap}{l:List Env}{e:Addr}{cls a0:bb}{dx:Option Addr}{Q:Unit->bf->Prop}(hh:FlyD base l e cls dx a0 s.heap)(hQ:∀h',FlyD base l e cls dx a0 h'->s.heap.UpToSlots h'->Q () { s with heap:=h' }):bq M A (rg (.ref e) none) Q E s:=by
 obtain⟨f1,f2,f3,f4⟩:=hh;exact nV f1 f2 f3 f4 hQ
end
theorem HOk.stays{P:df}{w:gg}{H:Hp}{h h':Heap}(x:HOk P w H h)(k:∀b u,H b=some u->∀o,h.get? b=some o->h'.get? b=some o):HOk P w H h':=fun a o e=>
 (x a o e).stay (fun b u hb q=>by
  rcases hb with rfl|hb
  ·exact k _ _ e _ q
  ·exact k _ _ hb _ q) (fun _ q=>q) fun _ _ q=>q
theorem ObjOk.obj{P:df}{w:gg}{H:Hp}{h:Heap}{a:Addr}{o:HO}(x:ObjOk P w H h a o):∃u,h.get? a=some u:=by
 cases o with
 |lst xs=>obtain⟨_,_,_,_,e⟩:=x;exact⟨_,e⟩
 |tup xs=>obtain⟨_,_,_,o,e,_⟩:=x;exact⟨_,e⟩
 |dK kvs=>obtain⟨_,_,_,_,o,_,_,e,_⟩:=x;exact⟨_,e⟩
 |dT kvs=>obtain⟨_,_,_,_,o,_,_,e,_⟩:=x;exact⟨_,e⟩
 |set S n=>obtain⟨o,_,_,_,e,_⟩:=x;exact⟨_,e⟩
 |ins C dx fs=>obtain⟨_,_,_,e,_⟩:=x;exact⟨_,e⟩
 |own y=>exact x
 |xd fs=>obtain⟨_,⟨_,_,_,e,_⟩,_⟩:=x;exact⟨_,e⟩
 |rng lo hi=>obtain⟨_,_,_,e⟩:=x;exact⟨_,e⟩
 |frz ob u=>obtain⟨e,_⟩:=x;exact⟨_,e⟩
 |tbl ps=>obtain⟨_,e,_⟩:=x;exact⟨_,e⟩
 |met f y=>exact⟨_,(show h.get? a=some _ from x)⟩
 |ext φ=>obtain⟨_,e,_⟩:=x;exact e
structure Fly(P:df)(w:gg)(outer:List Env)(H:Hp)(s:bf)(H':Hp)(a C:Addr)(dx:Option Addr)(s':bf):Prop where
 os:s'.os=s.os
 bare:AllBare s'.gens
 un:Un (frs outer) [] H H' s.heap s'.heap
 hok:HOk P w H' s'.heap
 fl:∃B t,FlyD B outer a (.ref C) dx (.ref t) s'.heap/\(∀b o,s.heap.get? b=some o->H b=none->b∉frs outer->B.get? b=some o)/\(∀b o,s.heap.get? b=some o->b∈frs outer\/∃o',B.get? b=some o')/\∀b u,H' b=some u->∃o,B.get? b=some o
def CX1(P:df)(w:gg):CXT:=fun outer H s E e s'=>∃H' a C dx,e=.ref a/\Fly P w outer H s H' a C dx s'/\E (.ref C) (some a) (upd H' a (exO a C dx))
structure FlyF(P:df)(w:gg)(outer:List Env)(ex:List Addr)(H:Hp)(s:bf)(H':Hp)(a C:Addr)(dx:Option Addr)(s':bf):Prop where
 os:s'.os=s.os
 bare:AllBare s'.gens
 un:Un (frs outer) ex H H' s.heap s'.heap
 hok:HOk P w H' s'.heap
 fl:∃B t v,B.StaysIn s'.heap/\B.get? a=none/\s'.heap.FunFrames B outer/\RecAt s'.heap B a (.ref C) dx (.ref t) v/\(∀b o,s.heap.get? b=some o->H b=none->b∉frs outer->b∉ex->B.get? b=some o)/\(∀b o,s.heap.get? b=some o->b∈frs outer\/b∈ex\/∃o',B.get? b=some o')/\∀b u,H' b=some u->∃o,B.get? b=some o
def PassF(X:Cx)(E:XK):Prop:=∀(zg:List (Addr×Obj)) (σ:St) (Hc H':Hp) (sc s':bf) (ex:List Addr) (a C:Addr) (dx:Option Addr),Inv X zg σ Hc sc->(∀b∈ex,X.s₀.heap.get? b=none)->FlyF X.prog X.w X.stack ex Hc sc H' a C dx s'->E (.ref C) (some a) (upd H' a (exO a C dx))->X.xe (.ref a) s'
section
variable {P:df}{w:gg}{K:bt}{mg:Str->Option bb}{base:Heap}{N:List Str}{qual:Str}{scope:Scope}{f:Addr}{cd:bb}{A:fm}{outer:List Env}{s:bf}{H:Hp}{E:XK}
theorem tQ:PassF (bH (CX1 P w) P w K mg base N qual scope f cd A outer s H E) E:=fun zg σ Hc H' sc s' ex a C dx I af F hE=>by
 obtain⟨B,t,v,f1,f2,f3,f4,kB,eB,tB⟩:=F.fl;have ae:(A.deeper (ip qual scope s.heap.objs.size f cd)).frames=some (ip qual scope s.heap.objs.size f cd::outer):=I.ok.frames;have nl:∀b o,s.heap.get? b=some o->b∉frs outer->b∉frs (ip qual scope s.heap.objs.size f cd::outer):=fun b o q hb z=>by
  rcases mem_cons.mp (show b∈s.heap.objs.size::frs outer from z)with e|e
  ·exact absurd (fi q) (by rw[e];exact jw _)
  ·exact hb e
 have nx:∀b:Addr,b∉([]:List Addr):=fun b=>by simp
 have ny:∀b o,s.heap.get? b=some o->b∉ex:=fun b o q z=>by
  have:=af b z;rw[show (bH (CX1 P w) P w K mg base N qual scope f cd A outer s H E).s₀=s from rfl,q]at this;cases this
 have kp:∀b o,s.heap.get? b=some o->H b=none->b∉frs outer->B.get? b=some o:=fun b o q n hb=>kB b o (I.base.keep b o q n hb (nx b)) (I.base.free b o q n (nx b)) (nl b o q hb) (ny b o q);have ep:∀b o,s.heap.get? b=some o->b∈frs outer\/∃o',B.get? b=some o':=fun b o q=>by
  by_cases hb:b∈frs outer
  ·exact .inl hb
  ·obtain⟨o1,q1⟩:=I.base.there b o q (nx b);rcases eB b o1 q1 with z|z|z
   ·exact absurd z (nl b o q hb)
   ·exact absurd z (ny b o q)
   ·exact .inr z
 show bq _ _ (leaving (ip qual scope s.heap.objs.size f cd) (.ref a)) _ _ s';refine ID ae f3 rfl f4 f1 f2 fun h' aa sm=>⟨H',a,C,dx,rfl,⟨F.os.trans I.os,F.bare,⟨fun b o q n hb _=>aa.1 b o (kp b o q n hb),fun b o q n hb _=>?_,fun b o q n _=>?_,fun b o q _=>?_,fun b xs q=>F.un.tups b xs (I.base.tups b xs q),fun b o u q=>F.un.frzs b o u (I.base.frzs b o u q),fun b ps q=>?_⟩,
  F.hok.stays fun b u e o q=>?_,B,t,aa,kp,ep,tB⟩,hE⟩
 ·obtain⟨sl,q1⟩:=I.base.slot b o q n hb (nx b);obtain⟨ag,q2⟩:=F.un.any q1 (I.base.free b o q n (nx b)) (ny b o q);obtain⟨_,o3,q3,nf⟩:=f3.mem (show b∈frs (ip qual scope s.heap.objs.size f cd::outer)from cn _ hb);rw[q2]at q3;cases q3;obtain⟨ac,q4⟩:=sm b _ q2 nf;exact⟨ac,q4⟩
 ·obtain⟨o1,q1⟩:=I.base.there b o q (nx b);exact F.un.free b o1 q1 (I.base.free b o q n (nx b)) (ny b o q)
 ·rcases ep b o q with z|⟨o',z⟩
  ·obtain⟨_,o3,q3,_⟩:=aa.2.2.1.mem (show b∈frs outer from z);exact⟨o3,q3⟩
  ·exact⟨o',aa.1 b o' z⟩
 ·exact F.un.tbls b _ (I.base.tbls b ps q)
 ·obtain⟨o',z⟩:=tB b u e;have:=f1 b o' z;rw[q]at this;cases this;exact aa.1 b o z
end
section
variable {P:df}{w:gg}{K:bt}{mg:Str->Option bb}{base:Heap}{N:List Str}{qual:Str}{scope:Scope}{f:Addr}{cd:bb}{A:fm}{outer:List Env}{s:bf}{H:Hp}{E:XK}
theorem pass1:Passes (CX1 P w) (bH (CX1 P w) P w K mg base N qual scope f cd A outer s H E) E:=fun zg σ Hc sc e s' I hx=>by
 obtain⟨H',a,C,dx,rfl,F,hE⟩:=hx;obtain⟨B,t,⟨f1,f2,f3,f4⟩,kB,eB,tB⟩:=F.fl;exact tQ zg σ Hc H' sc s' [] a C dx I (fun b m=>absurd m yv) ⟨F.os,F.bare,F.un,F.hok,B,t,_,f1,f2,f3,f4,fun b o q n hb _=>kB b o q n hb,fun b o q=>(eB b o q).elim .inl fun z=>.inr (.inr z),tB⟩ hE
theorem Hf{zg:List (Addr×Obj)}{σ:St}{Hc:Hp}{s2:bf}{h':Heap}{e C:Addr}{args:List bb}(I:Inv (bH (CX1 P w) P w K mg base N qual scope f cd A outer s H E) zg σ Hc s2)(mk:Heap.MadeExcOf s2.heap h' e (.ref C) args)(hE:E (.ref C) (some e) (upd Hc e (exO e C none))):
  (bH (CX1 P w) P w K mg base N qual scope f cd A outer s H E).xe (.ref e) { s2 with heap:=h' }:=by
 have ae:(A.deeper (ip qual scope s.heap.objs.size f cd)).frames=some (ip qual scope s.heap.objs.size f cd::outer):=I.ok.frames;have nl:∀b o,s.heap.get? b=some o->b∉frs outer->b∉frs (ip qual scope s.heap.objs.size f cd::outer):=fun b o q hb z=>by
  rcases mem_cons.mp (show b∈s.heap.objs.size::frs outer from z)with e|e
  ·exact absurd (fi q) (by rw[e];exact jw _)
  ·exact hb e
 have nx:∀b:Addr,b∉([]:List Addr):=fun b=>by simp
 have stk:s2.heap.FunFrames base (ip qual scope s.heap.objs.size f cd::outer):=I.stack;have ac:∀env∈(ip qual scope s.heap.objs.size f cd::outer),∀b,env.frame=some b->b∈frs (ip qual scope s.heap.objs.size f cd::outer):=fun env he b hb=>mem_filterMap.mpr ⟨env,he,hb⟩;have hd:∀b o,s2.heap.get? b=some o->b∉frs (ip qual scope s.heap.objs.size f cd::outer)->(mq s2.heap (frs (ip qual scope s.heap.objs.size f cd::outer))).get? b=some o:=fun b o q n=>qm _ q n;have kp:∀b o,s.heap.get? b=some o->H b=none->b∉frs outer->(mq s2.heap (frs (ip qual scope s.heap.objs.size f cd::outer))).get? b=some o:=fun b o q n hb=>hd b o (I.base.keep b o q n hb (nx b)) (nl b o q hb);have ep:∀b o,s.heap.get? b=some o->b∈frs outer\/∃o',(mq s2.heap (frs (ip qual scope s.heap.objs.size f cd::outer))).get? b=some o':=fun b o q=>by
  by_cases hb:b∈frs outer
  ·exact .inl hb
  ·obtain⟨o1,q1⟩:=I.base.there b o q (nx b);exact .inr ⟨o1,hd b o1 q1 (nl b o q hb)⟩
 have tr:∀b u,Hc b=some u->∀o,s2.heap.get? b=some o->(mq s2.heap (frs (ip qual scope s.heap.objs.size f cd::outer))).get? b=some o:=fun b u q o q1=>hd b o q1 fun z=>by
  rw[I.stkFree.free b z]at q;cases q
 show bq _ _ (leaving (ip qual scope s.heap.objs.size f cd) (.ref e)) _ _ _;obtain⟨t,he,af,ht⟩:=mk.there;have ne:(mq s2.heap (frs (ip qual scope s.heap.objs.size f cd::outer))).get? e=none:=by
  cases z:(mq s2.heap (frs (ip qual scope s.heap.objs.size f cd::outer))).get? e with
  |none=>rfl
  |some o=>
   have:=W.of_hideAll _ z;rw[mk.new]at this;cases this
 refine Bq (s:={ s2 with heap:=h' }) ae ((W.funFrames_hide stk ac).of_keeps fun b o q _=>⟨o,mk.keeps b o q,rfl⟩) rfl he (fun b o q=>mk.keeps b o (W.of_hideAll _ q)) ne rfl rfl ⟨rfl,fun _=>rfl⟩ fun h'' fl sm=>⟨Hc,e,C,none,rfl,⟨I.os,I.bare,⟨fun b o q n hb _=>fl.1 b o (kp b o q n hb),fun b o q n hb _=>?_,fun b o q n _=>I.base.free b o q n (nx b),fun b o q _=>?_,I.base.tups,I.base.frzs,I.base.tbls⟩,
  I.hok.stays fun b u q o q1=>fl.1 b o (tr b u q o q1),_,t,fl,kp,ep,fun b u q=>?_⟩,hE⟩
 ·obtain⟨sl,q1⟩:=I.base.slot b o q n hb (nx b);obtain⟨_,o3,q3,nf⟩:=stk.mem (show b∈frs (ip qual scope s.heap.objs.size f cd::outer)from cn _ hb);rw[q1]at q3;cases q3;obtain⟨aa,q4⟩:=sm b _ (mk.keeps b _ q1) nf;exact⟨aa,q4⟩
 ·rcases ep b o q with z|⟨o',z⟩
  ·obtain⟨_,o3,q3,_⟩:=fl.2.2.1.mem (show b∈frs outer from z);exact⟨o3,q3⟩
  ·exact⟨o',fl.1 b o' z⟩
 ·obtain⟨o,q1⟩:=(I.hok b u q).obj;exact⟨o,tr b u q o q1⟩
end
end
section
def veB:List bb:=[.type "ValueError",.type "Exception",.type "BaseException",.type "object"]
theorem Mw{K:bt}{h:Heap}{N:Addr}{mg:Str->Option bb}{n:Str}{v:bb}(X:K.In h)(G:h.Ns N mg)(e:W.nsIn K N n=some (some v)):mg n=some v:=by
 obtain⟨o,es,ep,ho,hd,_,hf⟩:=G;unfold W.nsIn at e;split at e
 ·rename_i c d aa n' sl q;have:=X _ _ q;rw[ho]at this;cases this;cases hd;split at e
  ·rename_i en he;cases e;rw[<- hf];unfold nsFind findBy;rw[<- Array.find?_toList,he];rfl
  ·split at e<;>cases e
 ·cases e
structure ExCls(K:bt)(C:Addr)(ini:Option bb):Prop where
 ob:∀h,K.In h->∃bm N nm qn bs hd sn sub ab col dd k0 k1 k2 k3 k5 mN,h.get? C=some (sy nm qn C N bs bm hd sn sub ab col dd k0 k1 k2 k3 k5 "ValueError.__new__")/\h.Ns N mN/\mN "__init__" = ini/\OwnTail h veB bm/\∀D,ra K C D=some ((bv C::bm).contains D)
 ty:(ua K C).isSome=true/\W.typeIn K (.ref C)=some (.type "type")
theorem exc_of_in{K:bt}{C:Addr}(q:W.excIn K C veB "ValueError.__new__" = true):ExCls K C none:=by
 unfold W.excIn at q;split at q
 ·rename_i dd cd sl ho;split at q
  ·rename_i C' bm k0 k1 k2 k3 n k5 hm hs;simp only[cy,beq_iff_eq,qr]at q;obtain⟨⟨⟨⟨⟨rfl,rfl⟩,aa⟩,ht⟩,hok⟩,ac⟩:=q;obtain⟨nm,bs,mro,ns,qn,hd,sn,sub,ab,col,del⟩:=cd;dsimp only at hm aa hok ac;subst hm aa;have ae:sl = #[k0,k1,k2,k3,some (.builtin "ValueError.__new__"),k5]:=by
    obtain⟨l⟩:=sl;simp only at hs;rw[hs]
   subst ae;refine⟨fun h X=>⟨bm,ns,nm,qn,bs,hd,sn,sub,ab,col,dd,k0,k1,k2,k3,k5,h.nsMap ns,X _ _ ho,.of_isNs (W.isNs_of_in X hok),W.ns_none_of X (.of_isNs (W.isNs_of_in X hok)) ac,W.tail_of_in X ht,fun D=>?_⟩,?_,?_⟩
   ·unfold ra ua;rw[ho];rfl
   ·unfold ua;rw[ho];rfl
   ·show tz (fun x:Obj=>x.cls) (K.lookup C')=_;rw[ho];rfl
  ·cases q
 ·cases q
section
variable {K:bt}{h:Heap}{C G:Addr}{ini iniG:Option bb}
variable {M:Model}{A:fm}{E:bb->bf->Prop}{g:Array GenState}{d:Drawn}{t:Nat}{os:OsState}{e:Addr}{oe:Obj}{Q:Bool->bf->Prop}
theorem N3(X:K.In h)(qC:ExCls K C ini)(qG:ExCls K G iniG)(he:h.get? e=some oe)(ac:oe.cls=.ref C)(aa:ra K C (.ref G)=some true)(hq:Q true ⟨h,g,d,t,os⟩):bq M A (excMatches (.ref e) (.ref G)) Q E ⟨h,g,d,t,os⟩:=by
 obtain⟨tl,N,nm,qn,bs,hd,sn,sub,ab,col,dd,k0,k1,k2,k3,k5,mN,hC,_,_,T,mr⟩:=qC.ob h X;obtain⟨af,N',an,am,aj,ak,ao,ag,ai,ah,ap,j0,j1,j2,j3,j5,al,hG,_,_,T',_⟩:=qG.ob h X;replace aa:(bv C::tl).contains (.ref G)=true:=by rw[mr]at aa;exact fg aa
 have ae:(bv G::af).contains (.type "BaseException")=true:=by rw[qe,T'.hasType (b:=true) (by decide +kernel),Bool.or_true]
 have f:=tc_notTuple;unfold excMatches
 repeat (first|(with_reducible refine gy he ?_;rw[ac])|with_reducible refine gy hG ?_|(with_reducible refine lj hG ?_;rw[ae])|(with_reducible refine lj hC ?_;rw[aa])|wp_step)
 exact hq
end
section
variable {X:Cx}{E:XK}{x:Str}{C:Addr}{np cpos pos:Pos}
def Cw(E:XK)(C:Addr):TS:=fun _ _ H=>∀a,H a=none->E (.ref C) (some a) (upd H a (exO a C none))
def Raises(X:Cx)(E:XK):Prop:=∀(C:Addr) (zg:List (Addr×Obj)) (σ:St) (H:Hp) (s2:bf) (h':Heap) (e:Addr) (args:List bb),Inv X zg σ H s2->Heap.MadeExcOf s2.heap h' e (.ref C) args->E (.ref C) (some e) (upd H e (exO e C none))->X.xe (.ref e) { s2 with heap:=h' }
theorem mB(hc:X.calm=true)(hR:Raises X E)(hg:Gl X x)(hm:X.mg x=some (.ref C))(q:ExCls X.K C none)(ac:(x==("__debug__":Str))=false:=by decide):
  PS X (.Raise (some (.Call (.Name x np) [] [] cpos)) none pos) (Cw E C):=by
 intro zg s σ H D I h;obtain⟨tl,N,nm,qn,bs,hd,sn,sub,ab,col,dd,k0,k1,k2,k3,k5,mN,hC,hN,aa,T,_⟩:=q.ob _ I.kIn;refine wpAny_Raise_call_subT (C:=C) (nm:=nm) (q:=qn) (N:=N) (bs:=bs) (bm:=tl) (hdct:=hd) (sn:=sn) (sub:=sub) (ab:=ab) (col:=col) (dd:=dd) (k0:=k0) (k1:=k1) (k2:=k2) (k3:=k3) (k5:=k5)
  F.excBase_ValueError (mN:=mN) (T.hasType (b:=true) (by decide +kernel)) (I.ok.hd hc) rfl aa (nF I hg hm ⟨rfl,?_⟩ ac)
 refine evalArgs_empty ⟨rfl,qc _,hC,hN,T,fun h' e mk=>hR C zg σ H s h' e [] I mk (h e ?_)⟩;cases z:H e with
 |none=>rfl
 |some u=>
  obtain⟨o,ho⟩:=(I.hok e u z).obj;rw[mk.new]at ho;cases ho
end
theorem raises1{P:df}{w:gg}{K:bt}{mg:Str->Option bb}{base:Heap}{N:List Str}{qual:Str}{scope:Scope}{f:Addr}{cd:bb}{A:fm}{outer:List Env}{s:bf}{H:Hp}{E:XK}:
  Raises (bH (CX1 P w) P w K mg base N qual scope f cd A outer s H E) E:=fun _ _ _ _ _ _ _ _ I mk hE=>Hf I mk hE
end
section
def PEX(X:Cx)(e:Expr)(t:XK->TE):Prop:=∀(zg:List (Addr×Obj)) (s:bf) (σ:St) (H:Hp) (Q:VK) (Ex:XK) (E':bb->bf->Prop),Inv X zg σ H s->t Ex σ H Q ->
 (∀H1 s1 v s',Inv X zg σ H1 s1->CX1 X.prog X.w X.stack H1 s1 Ex v s'->E' v s')->bq (model X.prog X.w) X.A (eval e X.env) (EP X zg σ Q) E' s
def PSX(X:Cx)(st:Stmt)(t:XK->TS):Prop:=∀(zg:List (Addr×Obj)) (s:bf) (σ:St) (H:Hp) (D:Ends) (Ex:XK) (E':bb->bf->Prop),Inv X zg σ H s->t Ex D σ H ->
 (∀H1 s1 v s',Inv X zg σ H1 s1->CX1 X.prog X.w X.stack H1 s1 Ex v s'->E' v s')->bq (model X.prog X.w) X.A (exec st X.env) (SP X zg D) E' s
section
variable {X:Cx}{k:Nat}{f:Addr}{fd:ki}{ps:List Str}{sp:Sp}{x:Str}{p pos:Pos}{e e1:Expr}{es:List Expr}{t:TA}{te:TE}{tx:XK->TE}
theorem NH(hx:∀e s,X.xe e s->False)(F:FnOk X.prog X.w X.K X.mg X.base (CX1 X.prog X.w) k f fd ps sp)(hr:Room k X.A)(hg:Gl X x)(hm:X.mg x=some (.ref f))(hk:pp X.K (.ref f)=true)(hb:Binds X.K fd ps [])
  (ha:PA X (e::es) t) (hdb:(x==("__debug__":Str))=false:=by decide) (he:cu (e::es) X.env=(false,eval e X.env)::cu es X.env:=by rfl) (hpl:(kl pos (cu es X.env)).any (·.1)=false:=by rfl):
  PEX X (.Call (.Name x p) (e::es) [] pos) (fun Ex σ H Q=>t σ H fun vs H1=>sp vs H1 Q Ex):=by
 intro zg s σ H Q Ex E' I h hX;refine lv (nF I hg hm ?_ hdb);refine W.callWith_K (h₀:=_) I.kIn hk (ix (ha pos zg s σ H _ I h) (fun us s1 ⟨vs,H1,I1,r,q⟩=>⟨I1.kIn,?_⟩) fun _ _ z=>(hx _ _ z).elim) he hpl;have hl:us.length=ps.length:=by rw[<- r.length];exact F.len _ _ _ _ q
 have aa:=hb s1 us I1.kIn (by rw[jf];exact hl);rw[jf]at aa;refine si (ou (F.run X.A X.stack s1 H1 ⟨us,[]⟩ us vs Q Ex hr I1.env0 aa r q) fun r s' hq=>?_);cases r with
 |error e=>exact hX H1 s1 e s' I1 hq
 |ok fl=>
  cases fl with
  |ret u=>exact I1.after hq
  |next=>exact ib hq
  |brk=>exact ib hq
  |cont=>exact ib hq
end
theorem Jt{P:df}{w:gg}{H:Hp}{h:Heap}{a C:Addr}{o:Obj}(e:h.get? a=some o)(c:o.cls=.ref C)(hf:∃vs,o.data=.fields vs/\(bv C∉ctxG->vs[2]?=some .none)):ObjOk P w H h a (exO a C o.dict):=
 ⟨⟨o,e,c,rfl,hf⟩,⟨o,e⟩,fun h1 h2 ⟨o,e,c,d⟩ k=>⟨o,k o e,c,d⟩⟩
abbrev Cx.suite (X:Cx) (a:Addr):Cx:={ X with A:=X.A.mark (some (.ref a)),calm:=false,xe:=fun _ _=>False }
theorem Cx.Ok.suite{X:Cx}(ok:X.Ok)(a:Addr):(X.suite a).Ok:=
 ⟨ok.mod,ok.kind,ok.glob,ok.blt,ok.above,ok.inj,ok.has,ok.cab,(fun z=>Bool.noConfusion z),ok.frames,ok.stk,ok.exf,ok.bs,ok.bsz,ok.noex,ok.exfs,ok.funs,ok.frf⟩
section
variable {X:Cx}{zg:List (Addr×Obj)}{σ:St}{H:Hp}{s:bf}{a:Addr}
theorem Inv.suite(I:Inv X zg σ H s)(a:Addr):Inv (X.suite a) zg σ H s:=⟨I.ok.suite a,I.os,I.bare,I.base,I.loc,I.cell,I.free,I.freeC,I.pin,I.hok,I.len⟩
theorem Inv.unsuite(I:Inv (X.suite a) zg σ H s)(ok:X.Ok):Inv X zg σ H s:=⟨ok,I.os,I.bare,I.base,I.loc,I.cell,I.free,I.freeC,I.pin,I.hok,I.len⟩
theorem Inv.gone{h':Heap}{m':Str->Option bb}{t':Nat}(I:Inv X zg σ H s)(hn:h'.Ns X.env.locals m')(sb:fj X.env.locals s.heap h'):Inv X zg (bo X.N.length none) H { s with heap:=h',toks:=t' }:=by
 have ne:∀b o,X.s₀.heap.get? b=some o->b≠X.env.locals:=fun b o e=>jq (fc (fi e) I.ok.above);refine⟨I.ok,I.os,I.bare,⟨fun b o e n hb hx=>?_,fun b o e n hb hx=>?_,I.base.free,fun b o e hx=>?_,I.base.tups,I.base.frzs,I.base.tbls⟩,⟨m',hn,fun i x v _ e2 _=>?_⟩,fun x c e=>?_,I.free,I.freeC,fun p hp=>?_,I.hok.stays fun b u e o q=>?_,yv⟩
 ·exact(sb.2 b (ne b o e)).trans (I.base.keep b o e n hb hx)
 ·obtain⟨sl,q⟩:=I.base.slot b o e n hb hx;exact⟨sl,(sb.2 b (ne b o e)).trans q⟩
 ·obtain⟨o',q⟩:=I.base.there b o e hx;exact⟨o',(sb.2 b (ne b o e)).trans q⟩
 ·rw[qd]at e2;split at e2<;>cases e2
 ·obtain⟨v,o,ho,hd⟩:=I.cell x c e;exact⟨v,o,(sb.2 c (I.cne x c e)).trans ho,hd⟩
 ·obtain⟨e,n,aa,nf,d⟩:=I.pin p hp;exact⟨(sb.2 _ aa).trans e,n,aa,nf,d⟩
 ·refine(sb.2 b ?_).trans q;rintro rfl;rw[I.free]at e;cases e
end
end
section
structure RoomN(k:Nat)(A:fm):Prop where
 dp:A.depth+3*k+5<recursionLimit
 un:A.units+16*k+200<so
theorem Room.suite{k:Nat}{A:fm}(r:Room k A)(a:Addr):RoomN k (A.mark (some (.ref a))):=⟨r.dp,r.un⟩
theorem RoomN.mono{j k:Nat}{A:fm}(r:RoomN k A)(h:j<=k):RoomN j A:=⟨by have:=r.dp;omega,by have:=r.un;omega⟩
theorem RoomN.deeper{k:Nat}{A:fm}(r:RoomN (k+1) A)(env:Env):RoomN k (A.deeper env):=
 ⟨by have:=r.dp;show A.depth+1+3*k+5<_;omega,by have:=r.un;show A.units+3+16*k+200<_;omega⟩
theorem RoomN.depth{k:Nat}{A:fm}(r:RoomN k A):A.depth<recursionLimit:=by have:=r.dp;omega
theorem RoomN.units{k:Nat}{A:fm}(r:RoomN k A):A.units+64<so:=by have:=r.un;omega
structure FnOkN(P:df)(w:gg)(K:bt)(mg:Str->Option bb)(base:Heap)(CX:CXT)(k:Nat)(f:Addr)(fd:ki)(ps:List Str)(sp:Sp):Prop where
 len:∀vs H Q E,sp vs H Q E->vs.length=ps.length
 run:∀(A:fm) (outer:List Env) (s:bf) (H:Hp) (args:Args) (us:List bb) (vs:List V) (Q:VK) (E:XK),RoomN k A->Env0 P w K mg base A outer s H->BindsTo s fd args (ps.zip us)->Vals vs us->sp vs H Q E ->
  codeAny (model P w) A (.call (.ref f) args) (CR CX outer P w H s Q E) s
abbrev cxN (P:df) (w:gg) (K:bt) (mg:Str->Option bb) (base:Heap) (N:List Str) (qual:Str) (scope:Scope) (f:Addr) (cd:bb) (A:fm) (outer:List Env) (s:bf) (H:Hp):Cx:=
 { bH CX0 P w K mg base N qual scope f cd A outer s H E0 with calm:=false,xe:=fun _ _=>False }
section
variable {P:df}{w:gg}{K:bt}{mg:Str->Option bb}{base:Heap}{k:Nat}
theorem Cg{f:Addr}{name qual:Str}{ac:Arguments}{ae:List Stmt}{scope:Scope}{dV kV ag pm aa ct oc:bb}{an od:Option Addr}
  {osl:Array (Option bb)}{N ps:List Str}{sp:Sp} (lk:K.lookup f=some ⟨oc,od,.func (W.fnOf name qual ac ae scope dV kV ag pm an aa ct),osl⟩) (hcd:W.codeIn K aa qual=true) (S:FnScope N ps scope)
  (len:∀vs H Q E,sp vs H Q E->vs.length=ps.length)
  (hbody:∀(A:fm) (outer:List Env) (s:bf) (H:Hp) (vs:List V) (Q:VK) (E:XK),RoomN k (A.deeper (ip qual scope s.heap.objs.size f aa))->sp vs H Q E ->
   ∃t,PSs (cxN P w K mg base N qual scope f aa A outer s H) ae t/\t { nx:=fun _ H'=>Q .non H',rt:=Q } (start N vs) H):
  FnOkN P w K mg base CX0 (k+1) f (W.fnOf name qual ac ae scope dV kV ag pm an aa ct) ps sp:=by
 refine⟨len,fun A outer s H args us vs Q E hr e0 hb r ah=>?_⟩;have hl:=len _ _ _ _ ah;have KX:K.In s.heap:=e0.kIn;have ai:s.heap.NoLimit:=e0.mod.nolimit.keeps fun b o e=>(e0.bs b o e).1;have af:∀y∈ps.zip us,scope.names.lookup y.1=some .local\/(scope.names.lookup y.1=some .cell/\((cellsFrom (s.heap.objs.size+1) scope.names []).lookup y.1).isSome=true):=fun⟨n,v⟩ hy=>by
  rcases S.par n (of_mem_zip hy).1 with q|q
  ·exact .inl q
  ·exact .inr ⟨q,W.cellsFrom_some _ _ _ (.inl q)⟩
 refine codeAny_call_function hr.depth (KX _ _ lk) rfl S.co S.gen rfl (W.codeRec_of KX hcd) (hb _ _ _ _ ?_);refine wpAny_newFunctionEnv_cells S.kind af fun env he s1 x=>?_;subst he;refine⟨ai.keeps x.toInCall.keep,codeAny_func ?_⟩;obtain⟨t,ht,hq⟩:=hbody A outer s H vs Q E (hr.deeper _) ah;have e1:Env0 P w K mg base { A with handled:=none } outer s H:=⟨e0.frames,e0.mod,e0.bs,e0.bsz,e0.funs,e0.frf,e0.hok,e0.bare⟩;have I0:Inv (bH CX0 P w K mg base N qual scope f aa { A with handled:=none } outer s H E0) [] (start N vs) H s1:=Gc S rfl e1 hl r x;have I:Inv (cxN P w K mg base N qual scope f aa A outer s H) [] (start N vs) H s1:=
  ⟨⟨I0.ok.mod,I0.ok.kind,I0.ok.glob,I0.ok.blt,I0.ok.above,I0.ok.inj,I0.ok.has,I0.ok.cab,(fun z=>Bool.noConfusion z),Around.frames_deeper e0.frames,I0.ok.stk,I0.ok.exf,I0.ok.bs,I0.ok.bsz,I0.ok.noex,I0.ok.exfs,I0.ok.funs,I0.ok.frf⟩,
   I0.os,I0.bare,I0.base,I0.loc,I0.cell,I0.free,I0.freeC,I0.pin,I0.hok,I0.len⟩
 refine ix (ht [] s1 (start N vs) H _ I hq) (fun fl s' hs=>?_) fun e s' hs=>hs.elim;have fin:∀{σ':St}{H':Hp}{v:V}{u:bb},Inv (cxN P w K mg base N qual scope f aa A outer s H) [] σ' H' s'->RelV v u->Q v H'->CE outer P w H s Q u s':=
  fun {σ' H' v u} J rv q=>⟨v,H',J.os,J.bare,J.base,J.hok,rv,q⟩
 cases fl with
 |ret u=>
  obtain⟨v,σ',H',J,rv,q⟩:=hs;exact fin J rv q
 |next=>
  obtain⟨σ',H',J,q⟩:=hs;exact fin (v:=V.non) (u:=gf) J rfl q
 |brk=>
  obtain⟨_,_,_,q⟩:=hs;exact ib q
 |cont=>
  obtain⟨_,_,_,q⟩:=hs;exact ib q
end
structure DfN(P:df)(w:gg)(K:bt)(mg:Str->Option bb)(base:Heap)(x:Str)(ps:List Str)(k:Nat)(sp:Sp):Prop where
 ex:∃f fd,FnOkN P w K mg base CX0 k f fd ps sp/\mg x=some (.ref f)/\pp K (.ref f)=true/\Binds K fd ps []
section
variable {P:df}{w:gg}{K:bt}{mg:Str->Option bb}{base:Heap}{x:Str}{st:Stmt}{N ps:List Str}{k:Nat}
theorem DfN.dN{q:PN}(D:Dd K mg x st ps)(S:FnScope N ps (zj st))(n:Nat)(hn:N.length=ps.length+n)
  (hbody:∀(f:Addr) (aa:bb) (A:fm) (outer:List Env) (s:bf) (H:Hp),RoomN k (A.deeper (ip x (zj st) s.heap.objs.size f aa)) ->
   ∃t dt,PSs (cxN P w K mg base N x (zj st) f aa A outer s H) (dJ st) t/\RS t dt/\∀xs S R,q xs S R->dt (aG S.length R) (xs.map some++bo n none) S):DfN P w K mg base x ps (k+1) (spN ps q):=by
 obtain⟨f,fd,F,hm,hb⟩:=D.ex;have kp:=F.kp;obtain⟨oc,od,kV,af,pm,an,aa,ct,ag,rfl,lk,ae⟩:=F.ex;refine⟨f,_,Cg lk ae S (fun vs H Q E h=>h.1) fun A outer s H vs Q E hr ⟨hl,h,o,S',xs,R,ac,hx,hq,c⟩=>?_,hm,kp,hb⟩;obtain⟨t,dt,h1,h2,h3⟩:=hbody f aa A outer s H hr;refine⟨t,h1,h2 h o H _ _ S' _ _ ?_ ac (h3 xs S' R hq) (eok ac c)⟩;have e:N.length-vs.length=n:=yw
 unfold start;rw[e];exact Ai hx
end
section
variable {X:Cx}{x:Str}{ps:List Str}{k j:Nat}{pos pos':Pos}{e:Expr}{es:List Expr}{t:TA}
theorem EI{q:PN}(D:DfN X.prog X.w X.K X.mg X.base x ps k (spN ps q))(hr:RoomN j X.A)(hk:k<=j)(ha:PA X (e::es) t)(hg:Gl X x:=by rfl)(ac:(x==("__debug__":Str))=false:=by decide)
  (q1:cu (e::es) X.env=(false,eval e X.env)::cu es X.env:=by rfl) (q2:((kl pos (cu es X.env)).any fun x=>x.fst)=false:=by rfl):PE X (.Call (.Name x pos') (e::es) [] pos) (iT (spN ps q) [] E0 t):=by
 obtain⟨f,fd,F,hm,kp,hb⟩:=D.ex;intro zg s σ H Q I h;refine lv (nF I hg hm ?_ ac);refine W.callWith_K (h₀:=_) I.kIn kp (thn (ha pos zg s σ H _ I h) fun us s1 ⟨vs,H1,I1,r,q5⟩=>⟨I1.kIn,?_⟩) q1 q2;have q':spN ps q vs H1 Q E0:=by simpa using q5
 have hl:us.length=ps.length:=by rw[<- r.length];exact F.len _ _ _ _ q'
 have aa:=hb s1 us I1.kIn (by rw[jf];exact hl);rw[jf]at aa;refine si (ou (F.run X.A X.stack s1 H1 ⟨us,[]⟩ us vs Q E0 (hr.mono hk) I1.env0 aa r q') fun r s' hq=>?_);cases r with
 |error e=>exact hq.elim
 |ok fl=>
  cases fl with
  |ret u=>exact I1.after hq
  |next=>exact ib hq
  |brk=>exact ib hq
  |cont=>exact ib hq
end
end
end L2
namespace L2
open PySem PySem.Spec PySem.Calls PyProof.Rows PySem.W PySem.Builtin PySem.Builtin.ObjectAttr PySem.Builtin.Getset_descriptor
section
variable {prog:df}{w:gg}{A:fm}{E:bb->bf->Prop}{h:Heap}{g:Array GenState}{d:Drawn}{t:Nat}{os:OsState}{K:bt}{x C:Addr}{ox:Obj}{od:Option Obj}{name:Str}{tk:Tok}
theorem OH{tp:bb}{R:Result->bf->Prop}(X:K.In h)(T0:∀M,Looks M h (typeOf (.ref x)) (.ref C))(hm:mroIn K C (.type "object")=some true)
  (hr:R (.ok (.ret (.ref C))) ⟨h,g,d,t,os⟩):codeAny (model prog w) A (.call (.builtin "getset_descriptor.__get__") ⟨[.builtin "object.__class__",.ref x,tp],[]⟩) R ⟨h,g,d,t,os⟩:=by
 have L0:=T0 (model prog w);have L1:=looks_mroIn (M:=model prog w) X hm;refine pb KF.slot_gs.plain KF.entry_gs (KF.slot_gs.check _ _ _ _ _ _ _ _ KF.type_class (KF.args_gs _ _ _) ?_);unfold lz.«getset_descriptor.__get__» descrGet;rw[dga_obj];refine bc (bp ?_);unfold descrGetter descrCheckInstance descrNameAndClass isInstance;simp only[KF.owner_class]
 repeat lk
 refine⟨Code.quiet_builtin _ (by decide +kernel),qk KF.entry_class ?_⟩;unfold lz.«object.__class__» shownTypeOf
 repeat lk
 exact hr
theorem Of{M:Model}{a gt:bb}(X:K.In h)(ha:findIn K (.ref C) name=some (some a))(hg:specialIn K a "__get__" = some (some gt))(hd:takesIn K a=some true):Looks M h (find (.ref x) (.ref C) name) (.bind gt a):=by
 have L1:=looks_findIn (M:=M) X ha;have L2:Looks M h (getOf (some a)) (some gt):=looks_specialIn X hg;refine L1.andThen (L2.andThen ?_);have L3:=looks_takesIn (M:=M) X hd;exact(show Looks M h (dataDescriptor? (some a) (some gt)) (some (gt,a))from L3.andThen .now).andThen (Looks.tag .now)
theorem MW{M:Model}{aa:bb}{Q:Unit->bf->Prop}(X:K.In h)(T0:∀M,Looks M h (typeOf (.ref x)) (.ref C))(hB:mroIn K C (.type "BaseException")=some true)(hq:Q () ⟨h,g,d,t,os⟩):
  bq M A (checkBuiltinCall "BaseException.__getattribute__" ⟨[.ref x,aa],[]⟩) Q E ⟨h,g,d,t,os⟩:=by
 have hk:builtinKind "BaseException.__getattribute__" = some .slot:=by decide +kernel
 have ac:splitId "BaseException.__getattribute__" = some ("BaseException","__getattribute__"):=by decide +kernel
 have ha:=F.args_bexc_ga (.ref x) aa;simp only[checkBuiltinCall,hk,ac];refine bc ?_;have L0:=T0 M;have L1:=looks_mroIn (M:=M) X hB;have L2:Looks M h (isInstance (.ref x) (.type "BaseException")) true:=L0.andThen L1;refine L2.at ?_
 repeat (any_goals (first|assumption|wp_step))
theorem Hi{v:bb}{Q:Fin->bf->Prop}(X:K.In h)(T0:∀M,Looks M h (typeOf (.ref x)) (.ref C))(hf:Looks (model prog w) h (find (.ref x) (.ref C) name) (.value v))(hq:Q (.done (.ret v)) ⟨h,g,d,t,os⟩):
  bq (model prog w) A (lz.«object.__getattribute__» ⟨[.ref x,.str name tk],[]⟩) Q E ⟨h,g,d,t,os⟩:=by
 have L0:=T0 (model prog w);have L1:=hf;unfold lz.«object.__getattribute__»
 repeat (any_goals (first|assumption|with_reducible refine L0.at ?_|with_reducible refine L1.at ?_|wp_step))
theorem Lh{Q:Fin->bf->Prop}(X:K.In h)(T0:∀M,Looks M h (typeOf (.ref x)) (.ref C))(hm:mroIn K C (.type "object")=some true)(hf:Looks (model prog w) h (find (.ref x) (.ref C) "__class__") (.bind (.builtin "getset_descriptor.__get__") (.builtin "object.__class__")))
  (hq:Q (.done (.ret (.ref C))) ⟨h,g,d,t,os⟩):bq (model prog w) A (lz.«object.__getattribute__» ⟨[.ref x,.str "__class__" tk],[]⟩) Q E ⟨h,g,d,t,os⟩:=by
 have L0:=T0 (model prog w);have L1:=hf;unfold lz.«object.__getattribute__»
 repeat (any_goals (first|assumption|with_reducible refine L0.at ?_|with_reducible refine L1.at ?_|(refine si (OH X T0 hm ?_))|wp_step))
structure ExAt(K:bt)(C:Addr):Prop where
 ga:findIn K (.ref C) "__getattribute__" = some (some (.builtin "BaseException.__getattribute__"))
 gn:findIn K (.ref C) "__getattr__" = some none
 base:mroIn K C (.type "BaseException")=some true
theorem GO{v:bb}{ac aa:Bool}{Q:bb->bf->Prop}(X:K.In h)(T0:∀M,Looks M h (typeOf (.ref x)) (.ref C))(F0:ExAt K C)
  (en:∀(A:fm) (Q:Fin->bf->Prop) (E:bb->bf->Prop),Q (.done (.ret v)) ⟨h,g,d,t,os⟩->bq (model prog w) A (lz.«object.__getattribute__» ⟨[.ref x,.str name tk],[]⟩) Q E ⟨h,g,d,t,os⟩)
  (hv:handedIn v=true) (hq:Q v ⟨h,g,d,t,os⟩):bq (model prog w) A (getAttrBy (.ref x) (.str name tk) ac aa) Q E ⟨h,g,d,t,os⟩:=by
 have f3:=F.attrBase_ValueError.ga.bind (.ref x);have hx0:(aa&&onTheHeap (Value.builtin "BaseException.__getattribute__"))=false:=by cases aa<;>rfl
 have ae:(Value.builtin "BaseException.__getattribute__" == Value.builtin "object.__getattribute__")=false:=by decide +kernel
 have af:(onTheHeap (bv C)&&Value.builtin "BaseException.__getattribute__" == Value.builtin "object.__getattribute__")=false:=by rw[ae];rfl
 have L0:=T0 (model prog w);have L1:=looks_findIn (M:=model prog w) X F0.ga;have L2:=looks_findIn (M:=model prog w) X F0.gn
 repeat (any_goals (first|assumption|with_reducible refine L0.at ?_|with_reducible refine L1.at ?_|with_reducible refine L2.at ?_|wp_step))
 exact pb F.attrBase_ValueError.ga.plain F.entry_bexc_ga (MW X T0 F0.base (en _ _ _ (handed_on hv hq)))
theorem JF{Q:Option bb->bf->Prop}(X:K.In h)(T0:∀M,Looks M h (typeOf (.ref x)) (.ref C))(F0:ExAt K C)(hm:mroIn K C (.type "object")=some true)(hf:Looks (model prog w) h (find (.ref x) (.ref C) "__class__") (.bind (.builtin "getset_descriptor.__get__") (.builtin "object.__class__")))
  (hq:Q (some (.ref C)) ⟨h,g,d,t+1,os⟩):bq (model prog w) A (getAttr? (.ref x) "__class__") Q E ⟨h,g,d,t,os⟩:=by
 unfold getAttr? getAttrBy?;refine bc (wpAny_mkText (bc (wpAny_attempt (GO (t:=t+1) X T0 F0 (fun A Q E q=>Lh X T0 hm hf q) rfl ?_))));exact bp hq
theorem JH{v:bb}{aa:Bool}{Q:bb->bf->Prop}(X:K.In h)(T0:∀M,Looks M h (typeOf (.ref x)) (.ref C))(F0:ExAt K C)(hf:Looks (model prog w) h (find (.ref x) (.ref C) name) (.value v))(hv:handedIn v=true)
  (hq:Q v ⟨h,g,d,t+1,os⟩):bq (model prog w) A (getAttr (.ref x) name aa) Q E ⟨h,g,d,t,os⟩:=by
 unfold getAttr;exact bc (wpAny_mkText (GO (t:=t+1) X T0 F0 (fun A Q E q=>Hi X T0 hf q) hv hq))
end
end L2
namespace L2
open PySem PySem.Spec PySem.Calls PyProof.Rows
structure SpK(K:bt):Prop where
 hn:W.specialIn K (.builtin "object.__class__") "__get__" = some (some (.builtin "getset_descriptor.__get__"))
 ht:W.takesIn K (.builtin "object.__class__")=some true
def exM(C:Addr):List bb:=[.ref C,.ref 24,.type "ValueError",.type "Exception",.type "BaseException",.type "object"]
structure ExK(K:bt)(C:Addr):Prop where
 ty:W.typeIn K (.ref C)=some (.type "type")
 ga:rh K (.ref C) "__getattribute__" = some (some (.builtin "BaseException.__getattribute__"))
 gn:rh K (.ref C) "__getattr__" = some none
 cls:rh K (.ref C) "__class__" = some (some (.builtin "object.__class__"))
 mro:∃cd,ua K C=some cd/\cd.mro=exM C
theorem ExK.mk'{K:bt}{C:Addr}{cd:ClassData}(a:W.typeIn K (.ref C)=some (.type "type"))(b:rh K (.ref C) "__getattribute__" = some (some (.builtin "BaseException.__getattribute__")))(c:rh K (.ref C) "__getattr__" = some none)
  (d:rh K (.ref C) "__class__" = some (some (.builtin "object.__class__"))) (e:ua K C=some cd) (f:cd.mro=exM C):ExK K C:=⟨a,b,c,d,cd,e,f⟩
section
variable {K:bt}{x C D:Addr}
theorem ExK.mroIn(E:ExK K C)(v:bb):ra K C v=some ((exM C).contains v):=by
 obtain⟨cd,h1,h2⟩:=E.mro;unfold ra;rw[h1];show (if cd.mro.isEmpty=true then none else some (cd.mro.contains v))=_;rw[h2];rfl
theorem ExK.at_(E:ExK K C):ExAt K C:=⟨E.ga,E.gn,(E.mroIn _).trans rfl⟩
def IsEx(x C:Addr)(h:Heap):Prop:=∃o,h.get? x=some o/\o.cls=.ref C
theorem IsEx.ty{h:Heap}(p:IsEx x C h)(M:Model):W.Looks M h (typeOf (.ref x)) (.ref C):=by
 obtain⟨o,e,c⟩:=p;exact c▸(W.Looks.ld e).andThen .now
theorem MX(E0:ExK K C)(S0:SpK K):W.KitX K (.ref x) (.ref C) (IsEx x C) where
 ty:=fun M h _ p=>p.ty M
 it:=fun M h X _=>by
  obtain⟨cd,hc,_⟩:=E0.mro;unfold ua at hc;split at hc
  ·rename_i c' d' ae ac ho;intro A' Q' E' s' k q;unfold isType loadHead;exact bc (wpAny_loadPart (k _ _ (X _ _ ho)) (bp q))
  ·cases hc
 ne:=fun h tp dd af n sl X aa=>by
  obtain⟨cd,hc,_⟩:=E0.mro;refine Bool.eq_false_iff.mpr fun q=>?_;have e:C=tp:=Value.ref.inj (beq_iff_eq.mp q);subst e;unfold ua at hc;split at hc
  ·rename_i c' d' ae ac ho;have z:=(X _ _ ho).symm.trans aa;cases z
  ·cases hc
 ca:=fun {prog w A E Q s} X p k=>by
  obtain⟨h,g,d,t,os⟩:=s;exact JF X p.ty E0.at_ ((E0.mroIn _).trans rfl) (Of X E0.cls S0.hn S0.ht) k
def excs:List Addr:=[37,49,61,73,85,104,123,142,161,180]
def exc0:List Addr:=[37,49,61,73,85]
structure Exs(K:bt):Prop where
 sp:SpK K
 all:∀C∈excs,ExK K C
 cl:∀C∈exc0,ExCls K C none
 ci:∀C∈excs,∃ini,ExCls K C ini
theorem Exs.kit(E:Exs K)(hC:C∈excs)(hD:D∈excs):W.kitOne K (.ref C) (.ref D)=some (decide (C=D)):=by
 have EC:=E.all C hC;have ED:=E.all D hD;obtain⟨ae,aa,_⟩:=ED.mro;unfold W.kitOne;by_cases h:C=D
 ·subst h;rw[cm yv,bx rfl]
 ·rw[cb (by simpa using h),bu h];show (if ((ua K D).isSome&&W.typeIn K (.ref D)==some (.type "type"))=true then ra K C (.ref D)else none)=_;rw[aa,ED.ty,cm yv,EC.mroIn];have ac:D≠24:=by
   rintro rfl
   revert hD
   decide
  have:(exM C).contains (.ref D)=false:=by
   unfold exM;simp only[qe,List.contains_nil,rl,Bool.or_eq_false_iff];refine⟨beq_eq_false_iff_ne.mpr fun z=>h (Value.ref.inj z).symm,beq_eq_false_iff_ne.mpr fun z=>ac (Value.ref.inj z),?_⟩;simp
  rw[this]
theorem Exs.kitV(E:Exs K)(hC:C∈excs):W.kitOne K (.ref C) (.type "ValueError")=some true:=by
 have EC:=E.all C hC;unfold W.kitOne;rw[cb yv];show (if W.kitMeta "ValueError" = true then ra K C (.type "ValueError")else none)=_;rw[cm (by decide +kernel),EC.mroIn];rfl
end
def Ff(K:bt):List V->Hp->VK->Prop:=fun xs H Q=>∃a C d c b,xs=[.ref a,c]/\H a=some (exO a C d)/\ExK K C/\SpK K/\(∀u,RelV c u->W.kitOne K (.ref C) u=some b)/\Q (.bl b) H
theorem gV{X:Cx}:CallR X (.builtin "isinstance") (Ff X.K):=by
 intro zg s σ H xs us Q I r h;obtain⟨a,C,d,c,b,rfl,ha,E0,S0,hk,q⟩:=h;obtain⟨u,w',rfl,ru,aa⟩:=vals2 r;cases (show u=bv a from ru);obtain⟨⟨o,e,hc,_⟩,_⟩:=(show ObjOk X.prog X.w H s.heap a (exO a C d)from I.hok a _ ha);exact pk (MX E0 S0) I.kIn ⟨o,e,hc⟩ (hk _ aa) (fun z=>nomatch z) fun tk=>⟨.bl b,H,I.tok tk,rfl,q⟩
def fD:List XV->Sto->RX->Prop:=fun xs S R=>arg2 xs fun x y=>∃C fs c,x=.x C fs/\y=.o c/\C∈excs/\((∃D,c=.ref D/\D∈excs/\R (.d (.bool (decide (C=D)))) S)\/(c=.ty "ValueError"/\R (.d (.bool true)) S))
theorem fX{K:bt}(E:Exs K):RC (Ff K) fD:=fun h o H S xs vs R Q hs hx q c=>by
 obtain⟨x,y,rfl,C,fs,k,rfl,rfl,hC,q1⟩:=rE q;obtain⟨v,u,rfl,ac,aa⟩:=hxs2 hx;obtain⟨a,d,rfl,ha,_⟩:=ac;cases (show u=k from aa);rcases q1 with ⟨D,rfl,hD,q2⟩|⟨rfl,q2⟩
 ·exact⟨a,C,d,_,_,rfl,bQ _ _ ha,E.all C hC,E.sp,fun u ru=>by cases (show u=bv D from ru);exact E.kit hC hD,c o H S _ _ Ex.refl hs (xB _) q2⟩
 ·exact⟨a,C,d,_,_,rfl,bQ _ _ ha,E.all C hC,E.sp,fun u ru=>by cases (show u=og "ValueError" from ru);exact E.kitV hC,c o H S _ _ Ex.refl hs (xB _) q2⟩
def FC:V->List V->Hp->VK->Prop:=fun x vs H Q=>∃bs:List Bool,Has H (.list (bs.map nv)) x/\vs=[.bl true]/\Q (.int (bs.countP id)) H
theorem Kx{X:Cx}:MtR X "list.count" FC:=by
 intro zg s σ H x vs v us Q I rx rv h;obtain⟨bs,hl,rfl,q⟩:=h;obtain⟨u,rfl,r1⟩:=rv.one;cases (show u=lc true from r1);have cl:jy (.list (bs.map nv))=true:=gh (m5 (nB fun _ _=>(F8:Shp 0 _))).ok;obtain⟨as,q2⟩:=Has.reads I (.list (bs.map nv)) x v hl cl rx;cases q2 with
 | @list l o vs n xs as₁ h1 h2 h3 h4=>
  refine count_list_bools (vs:=vs.toList) ⟨o,h1,h2,n,by simpa using h3⟩ h4 (by simp[Shape.has]) ?_;refine⟨.int (bs.countP id),H,I.tok _,⟨s.toks,?_⟩,q⟩;have:∀bs:List Bool,countIn (.bool true) (bs.map nv)=(bs.countP id:Int):=fun bs=>by
   induction bs with
   |nil=>rfl
   |cons b bs ih=>
    rw[gk,List.countP_cons];show (if same (.bool b) (.bool true)then (1:Int)else 0)+countIn (.bool true) (bs.map nv)=_;rw[ih];cases b
    ·show (0:Int)+_=_;simp
    ·show (1:Int)+_=_;simp;omega
  rw[this]
def k6:XV->List XV->Sto->RX->Prop:=fun x xs S R=>arg1 xs fun y=>y=.d (.bool true)/\∃ds,eJ S x=some ds/\∃bs:List Bool,ds=bs.map nv/\R (.d (.int (bs.countP id))) S
theorem Ik:RM FC k6:=fun h o H S x v xs vs R Q hs hx aa q c=>by
 obtain⟨y,rfl,rfl,ds,e2,bs,rfl,q1⟩:=cK q;obtain⟨u,rfl,hu⟩:=hxs1 aa;have hl:Has H (.list (bs.map nv)) v:=fP (x:=x) hs (by
  unfold eJ at e2;split at e2
  ·cases e2;rfl
  ·rename_i k;show (S[k]?).map PyData.list=_;rw[e2];rfl
  ·cases e2) hx
 cases kE hu;exact⟨bs,hl,rfl,c o H S _ _ Ex.refl hs (xI _) q1⟩
def m7(q:PN)(da:DA):DE:=fun δ S R=>da δ S fun xs S1=>∃C fs,xs=[.x C fs]/\q [.x C fs] [] (ret0 S1 R)
theorem hxE{h o:List Addr}{H:Hp}{C:Addr}{fs:List (Str×bg)}{v:V}(hx:HasX h o H (.x C fs) v):HasX (h++o) [] H (.x C fs) v:=by
 have e:vx (h++o) [] H=vx h o H:=j8 fun b=>by simp
 show HasE (vx (h++o) [] H) C fs v;rw[e];exact hx
theorem Mp{ps:List Str}{q:PN}{tl:TA}{dl:DA}(hp:ps.length=1)(ha:RA tl dl):RE (iT (spN ps q) [] E0 tl) (m7 q dl):=fun h o H δ σ S R Q he hs d c=>
 ha h o H δ σ S _ _ he hs d fun o1 H1 S1 xs vs e1 s1 x1 ⟨C,fs,aa,d1⟩=>by
  subst aa;obtain⟨v,rfl,hv⟩:=hxs1 x1;refine⟨by simp[hp],h++o1,[],[],[.x C fs],_,rep0 s1,⟨v,[],rfl,hxE hv,rfl⟩,d1,cn0 s1 (c.pre e1)⟩
end L2
namespace L2
open PySem PySem.Spec PyProof.Rows
section
abbrev EXD:=Addr->List (Str×bg)->Prop
abbrev PX:=List XV->Sto->RX->EXD->Prop
def CnX(h o:List Addr)(H:Hp)(EX:EXD)(E:XK):Prop:=∀o' H' S' C a fs,Ex o H o' H'->RepS h o' H' S'->HasE (vx h o' H') C fs (.ref a)->EX C fs->E (.ref C) (some a) H'
theorem CnX.pre{h o o':List Addr}{H H':Hp}{EX:EXD}{E:XK}(c:CnX h o H EX E)(e:Ex o H o' H'):CnX h o' H' EX E:=fun o2 H2 S2 C a fs e2=>c o2 H2 S2 C a fs (e.trans e2)
def RSx(E:XK)(EX:EXD)(t:TS)(dt:DS):Prop:=∀(h o:List Addr) (H:Hp) (δ:XE) (σ:St) (S:Sto) (En:DEnds) (D:Ends),RepE h o H δ σ->RepS h o H S->dt En δ S->EOk h o H En D->CnX h o H EX E->t D σ H
section
variable {E:XK}{EX:EXD}{t u:TS}{dt du:DS}
theorem bV(ht:RS t dt):RSx E EX t dt:=fun h o H δ σ S En D he hs q c _=>ht h o H δ σ S En D he hs q c
theorem bT(ht:RSx E EX t dt)(hu:RSx E EX u du):RSx E EX (bM t u) (zR dt du):=fun h o H δ σ S En D he hs q c x=>
 ht h o H δ σ S _ _ he hs q ⟨fun o1 H1 δ1 S1 σ1 e1 aa ac q1=>hu h o1 H1 δ1 σ1 S1 En D aa ac q1 (c.pre e1) (x.pre e1),c.rt,c.bk,c.ct⟩ x
def fE(EX:EXD)(C:Addr):DS:=fun _ _ _=>EX C []
theorem lM{C:Addr}:RSx E EX (Cw E C) (fE EX C):=fun h o H δ σ S En D he hs q c x a ha=>by
 have sU:Same H (upd H a (exO a C none)):=Same.laid ha;have fr:=hs.fresh ha;exact x o _ S C a [] (Ex.of_same sU) (hs.same sU) ⟨a,none,rfl,zU.mpr ⟨fr.1,fr.2,zQ⟩,fun f dt z=>by cases z⟩ q
end
theorem pP{X:Cx}{st:Stmt}{t:TS}(h:PS X.nox st t):PS X st t:=fun zg s σ H D I hw=>
 ix (h zg s σ H D (I.wish _) hw) (fun _ _ q=>q.unwish) fun _ _ z=>ib z
def spX(ps:List Str)(q:PX):Sp:=fun vs H Q E=>vs.length=ps.length/\∃h o S xs R EX,RepS h o H S/\HasXs h o H xs vs/\q xs S R EX/\Cn h o H R Q/\CnX h o H EX E
structure DfX(P:df)(w:gg)(K:bt)(mg:Str->Option bb)(base:Heap)(x:Str)(ps:List Str)(k:Nat)(sp:Sp):Prop where
 ex:∃f fd,FnOk P w K mg base (CX1 P w) k f fd ps sp/\mg x=some (.ref f)/\pp K (.ref f)=true/\Binds K fd ps []
section
variable {P:df}{w:gg}{K:bt}{mg:Str->Option bb}{base:Heap}{x:Str}{st:Stmt}{N ps:List Str}{k:Nat}
theorem DfX.dN{q:PX}(D:Dd K mg x st ps)(S:FnScope N ps (zj st))(n:Nat)(hn:N.length=ps.length+n)
  (hbody:∀(f:Addr) (aa:bb) (A:fm) (outer:List Env) (s:bf) (H:Hp) (E:XK) (EX:EXD),Room k (A.deeper (ip x (zj st) s.heap.objs.size f aa)) ->
   ∃t dt,PSs (bH (CX1 P w) P w K mg base N x (zj st) f aa A outer s H E) (dJ st) t/\RSx E EX t dt/\∀xs S R,q xs S R EX->dt (aG S.length R) (xs.map some++bo n none) S):DfX P w K mg base x ps (k+1) (spX ps q):=by
 obtain⟨f,fd,F,hm,hb⟩:=D.ex;have kp:=F.kp;obtain⟨oc,od,kV,af,pm,an,aa,ct,ag,rfl,lk,ae⟩:=F.ex;refine⟨f,_,C9 lk ae S (fun vs H Q E h=>h.1) fun A outer s H vs Q E hr ⟨hl,h,o,S',xs,R,EX,ac,hx,hq,c,cx⟩=>?_,hm,kp,hb⟩;obtain⟨t,dt,h1,h2,h3⟩:=hbody f aa A outer s H E EX hr;refine⟨t,h1,h2 h o H _ _ S' _ _ ?_ ac (h3 xs S' R hq) (eok ac c) cx⟩;have e:N.length-vs.length=n:=yw
 unfold start;rw[e];exact Ai hx
end
def JB(sp:Sp)(t:TA):XK->TE:=fun Ex σ H Q=>t σ H fun vs H1=>sp vs H1 Q Ex
theorem Et{X:Cx}{q:PX}{x:Str}{ps:List Str}{k j:Nat}{pos pos':Pos}{e:Expr}{es:List Expr}{t:TA}(D:DfX X.prog X.w X.K X.mg X.base x ps k (spX ps q))(hr:Room j X.A)(hk:k<=j)(hx:∀e s,X.xe e s->False)(ha:PA X (e::es) t)(hg:Gl X x:=by rfl)(aa:(x==("__debug__":Str))=false:=by decide)
  (q1:cu (e::es) X.env=(false,eval e X.env)::cu es X.env:=by rfl) (q2:((kl pos (cu es X.env)).any fun x=>x.fst)=false:=by rfl):PEX X (.Call (.Name x pos') (e::es) [] pos) (JB (spX ps q) t):=by
 obtain⟨f,fd,F,hm,kp,hb⟩:=D.ex;exact NH hx F (hr.mono hk) hg hm kp hb ha aa q1 q2
end
section
def KnOk(kn:DEnds->XE->RX)(kt:Ends->St->VK):Prop:=∀(h o:List Addr) (H:Hp) (δ:XE) (σ:St) (En:DEnds) (D:Ends),RepE h o H δ σ->EOk h o H En D->Cn h o H (kn En δ) (kt D σ)
theorem hxs00{h o:List Addr}{H:Hp}:∀{es:List bg}{vs:List V},HasXs h o H (es.map XV.d) vs->HasXs (h++o) [] H (es.map XV.d) vs
 | [],_,q=>q
 |d::ds,vs,⟨v,r,e,hv,l⟩=>⟨v,r,e,hx0 hv,hxs00 l⟩
theorem Kp:ik "ValueError" = some (.type "ValueError"):=by decide +kernel
end
end L2
namespace L2
open PySem PySem.Spec PySem.Calls PyProof.Rows PySem.W PySem.Builtin PySem.Builtin.ObjectAttr
theorem Mq(self:bb)(C:Addr):refuseLoop self "__setattr__" (exM C)=pure ():=by
 unfold exM;rw[refuseLoop_ref,refuseLoop_ref];exact F.store_ValueError.passes self
theorem Me{K:bt}{h:Heap}{C:Addr}{cd:ClassData}(X:K.In h)(e:clsIn K C=some cd):∃c0 dd sl,h.get? C=some ⟨c0,dd,.cls cd,sl⟩:=by
 unfold clsIn at e;split at e
 ·rename_i q;cases e;exact⟨_,_,_,X _ _ q⟩
 ·cases e
section
variable {prog:df}{w:gg}{A:fm}{E:bb->bf->Prop}{h:Heap}{g:Array GenState}{d:Drawn}{t:Nat}{os:OsState}{K:bt}{x C:Addr}{o:Obj}{cd:ClassData}{name:Str}{v:bb}{mA:Str->Option bb}
def XAt(h:Heap)(x:Addr)(o:Obj)(mA:Str->Option bb):Prop:=h.get? x=some o/\(∀c,o.data≠.cls c)/\((o.dict=none/\∀n,mA n=none)\/∃dx,o.dict=some dx/\dx≠x/\h.Ns1 dx mA)
theorem Iy{tk:Tok}{Q:Fin->bf->Prop}{ns:List Str}(X:K.In h)(aj:clsIn K C=some cd)(hm:cd.mro=exM C)(hdct:cd.hasDict=true)(ak:findIn K (.ref C) name=some none)(hc:o.cls=.ref C)(I:XAt h x o mA)
  (hq:∀h' tk' dx,XAt h' x { o with dict:=some dx } (fun y=>if y=name then some v else mA y)->(o.dict=some dx\/o.dict=none/\h.objs.size<=dx)->(∀b ob,b≠x->b≠dx->h.get? b=some ob->h'.get? b=some ob)->Q (.done (.ret .none)) ⟨h',g,d,tk',os⟩)
  (hw:Within mA ns) (hsz:ns.length+1<=bw):
  bq (model prog w) A (lz.«object.__setattr__» ⟨[.ref x,.str name tk,v],[]⟩) Q E ⟨h,g,d,t,os⟩:=by
 obtain⟨hx,ah,hd⟩:=I;have ac:=Mq (.ref x) C;have Lm:Looks (model prog w) h (mroOf (.ref C)) (exM C):=by rw[<- hm];exact(looks_clsIn X aj).andThen .now
 have La:=looks_findIn (M:=model prog w) X ak;obtain⟨c0,dd,sl,hC⟩:=Me X aj;unfold lz.«object.__setattr__»
 repeat (first|with_reducible refine gy hC ?_|rw[refuse_eq]|rw[ac]|(with_reducible refine gy hx ?_;rw[hc])|with_reducible refine Lm.at ?_|with_reducible refine La.at ?_|wp_step)
 rcases hd with ⟨hdn,hmA⟩|⟨dx,hdx,hne,hns⟩
 ·rw[hdn,cb (by simp[typeHasDict])];split
  ·rename_i z;cases z
  split
  ·rename_i c z;exact absurd z (ah c)
  have ai:(h.push { cls:=.type "dict",data:=.dict #[] }).get? x=some o:=bn _ hx;have af:x≠h.objs.size:=jq (fi hx);refine bc (wpAny_alloc' (bc (wpAny_update' ai (bp ?_))));have gd:((h.push { cls:=.type "dict",data:=.dict #[] }).update x fun o=>{ cls:=o.cls,dict:=some h.objs.size,data:=o.data,slots:=o.slots }).get? h.objs.size=some { cls:=.type "dict",data:=.dict #[] } :=
   (get?_update_ne _ _ _ _ af.symm).trans (Heap.get?_push_at rfl rfl)
  have nd:((h.push { cls:=.type "dict",data:=.dict #[] }).update x fun o=>{ cls:=o.cls,dict:=some h.objs.size,data:=o.data,slots:=o.slots }).Ns h.objs.size (fun _=>none):=
   ⟨_,#[],_,gd,rfl,fun e he=>absurd he yv,fun _=>rfl⟩
  show bq _ _ (storeInDict h.objs.size (.str name tk) name v) _ _ _;unfold storeInDict newKeyGuard;refine bc (bp (bc (wpAny_nsSet1 (Heap.Ns1.of_empty nd) fun h' aa hs=>?_)));obtain⟨oD,ap,an,ae,hdD,ag⟩:=aa.count (Within.cons name v Within.nil);refine bc (wpAny_lookBehind ae (by rw[hdD];exact pastItsLine_dict (ie ag (by rw[cz,length_nil,ig];omega))) ?_)
  wp_walk
  have ao:h'.get? x=some { cls:=o.cls,dict:=some h.objs.size,data:=o.data,slots:=o.slots }:=by
   refine(hs.2 x af).trans (je _ ai ?_);have am:=(Heap.get?_some_iff.mp hx).2;obtain⟨oc,od,al,aq⟩:=o;cases al<;>first|rfl|exact am
  refine hq h' _ h.objs.size ⟨ao,ah,.inr ⟨h.objs.size,rfl,af.symm,?_⟩⟩ (.inr ⟨hdn,fe _⟩) (fun b ob nb n2 q=>(hs.2 b n2).trans ((get?_update_ne _ _ _ _ nb).trans (bn _ q)));obtain⟨o',es,ep,e1,e2,e3,eu,e4⟩:=aa;exact⟨o',es,ep,e1,e2,e3,eu,fun y=>by rw[e4 y];by_cases hy:y=name<;>simp[hy,hmA]⟩
 ·rw[hdx];refine bp ?_;show bq _ _ (storeInDict dx (.str name tk) name v) _ _ _;unfold storeInDict newKeyGuard;refine bc (bp (bc (wpAny_nsSet1 hns fun h' aa hs=>?_)));obtain⟨oD,ap,an,ae,hdD,ag⟩:=aa.count (Within.cons name v hw);refine bc (wpAny_lookBehind ae (by rw[hdD];exact pastItsLine_dict (ie ag (by rw[cz];omega))) ?_)
  wp_walk
  have eo:({ o with dict:=some dx }:Obj)=o:=by rw[<- hdx]
  refine hq h' _ dx ?_ (.inl hdx) fun b ob _ nd q=>(hs.2 b nd).trans q;rw[eo];exact⟨(hs.2 x hne.symm).trans hx,ah,.inr ⟨dx,hdx,hne,aa⟩⟩
theorem B3{Q:Unit->bf->Prop}{ns:List Str}(X:K.In h)(af:clsIn K C=some cd)(hm:cd.mro=exM C)(hdct:cd.hasDict=true)(ae:findIn K (.ref C) "__setattr__" = some (some (.builtin "object.__setattr__")))(ac:findIn K (.ref C) name=some none)(ag:mroIn K C (.type "object")=some true)(hc:o.cls=.ref C)(I:XAt h x o mA)
  (hq:∀h' aa dx,XAt h' x { o with dict:=some dx } (fun y=>if y=name then some v else mA y)->(o.dict=some dx\/o.dict=none/\h.objs.size<=dx)->(∀b ob,b≠x->b≠dx->h.get? b=some ob->h'.get? b=some ob)->Q () ⟨h',g,d,aa,os⟩)
  (hw:Within mA ns) (hsz:ns.length+1<=bw):
  bq (model prog w) A (setAttr (.ref x) name v) Q E ⟨h,g,d,t,os⟩:=by
 have hx:=I.1;have SF:=F.store_ValueError;have f3:=SF.slot.bind (.ref x);have L1:=looks_findIn (M:=model prog w) X ae;have T0:∀M,Looks M h (typeOf (.ref x)) (.ref C):=fun M=>hc▸(Looks.ld hx).andThen .now;unfold setAttr callSpecial? specialOf
 repeat (any_goals (first|assumption|(with_reducible refine gy hx ?_;rw[hc])|with_reducible refine L1.at ?_|wp_step))
 refine pb SF.slot.plain SF.entry (@check_slot (model prog w) _ _ _ "object.__setattr__" "object" "__setattr__" (.ref x) [.str name t,v] [] _ SF.kind SF.split ((T0 _).andThen (looks_mroIn X ag)) (SF.args (.ref x) (.str name t) v) (Iy X af hm hdct ac hc I (fun h' aa dx a b c=>?_) hw hsz));exact bp (bp (hq h' aa dx a b c))
end
end L2
namespace L2
open PySem PySem.Spec PySem.Calls PyProof.Rows PySem.W
def exF(t:Addr):Data:=.fields #[.ref t,.none,.none,.none,.bool false,.none]
def exN(a C:Addr)(d:Option Addr)(t:Addr):HO:=.ext fun h=>h.get? a=some { cls:=.ref C,dict:=d,data:=exF t }
theorem Ab{P:df}{w:gg}{H:Hp}{h:Heap}{a C t:Addr}{d:Option Addr}(e:h.get? a=some { cls:=.ref C,dict:=d,data:=exF t }):ObjOk P w H h a (exN a C d t):=⟨e,⟨_,e⟩,fun _ _ q k=>k _ q⟩
theorem FD{P:df}{w:gg}{H:Hp}{h:Heap}{dx:Addr}{fs:List (Str×V)}{mA:Str->Option bb}(n:h.Ns1 dx mA)(r:∀f,RelO (fs.lookup f) (mA f))(wi:PySem.Within mA (fs.map (·.1))):ObjOk P w H h dx (xw dx fs):=
 ⟨⟨mA,n,r,wi⟩,let ⟨o,_,_,e,_⟩:=n;⟨o,e⟩,fun _ _ ⟨mA,n,r,wi⟩ k=>⟨mA,n.at k,r,wi⟩⟩
structure ExI(K:bt)(C:Addr):Prop where
 k:ExK K C
 hd:W.hasDictIn K C=true
 sa:rh K (.ref C) "__setattr__" = some (some (.builtin "object.__setattr__"))
def Dv(K:bt)(ta tv:TE)(f:Str):TS:=fun D σ H=>tv σ H fun y H1=>ta σ H1 fun x H2=>∃a C t,x=.ref a/\ExI K C/\NoAttr K C f /\
  ((H2 a=some (exN a C none t)/\∀dx,H2 dx=none->D.nx σ (upd (upd H2 a (exN a C (some dx) t)) dx (xw dx [(f,y)]))) \/
   ∃dx fs,H2 a=some (exN a C (some dx) t)/\H2 dx=some (xw dx fs)/\dx≠a/\fs.length<100/\D.nx σ (upd H2 dx (xw dx (fN f y fs))))
section
variable {X:Cx}{o value:Expr}{f:Str}{pos pos':Pos}{ta tv:TE}
theorem uU(ha:PE X o ta)(hv:PE X value tv)(hs:sj value (some (.Attribute o f pos')) pos.line X.env=pure false):PS X (.Assign [.Attribute o f pos'] value pos) (Dv X.K ta tv f):=by
 intro zg s σ H D I h;refine plainObj_wpAny_Assign_Attribute (thn (hv zg s σ H _ I h) fun u s1 ⟨y,H1,I1,ry,q⟩=>thn (ha zg s1 σ H1 _ I1 q) fun ov s2 ⟨x,H2,I2,rx,a,C,t,ex,xi,na,q2⟩=>?_) hs;subst ex;obtain rfl:ov=bv a:=rx;obtain⟨cd,aa,hm⟩:=xi.k.mro;have hdct:cd.hasDict=true:=by
  have:=xi.hd;unfold W.hasDictIn at this;rw[aa]at this;simpa using this
 have ae:mroIn X.K C (.type "object")=some true:=(xi.k.mroIn _).trans (by simp[exM]);obtain⟨hp,g,d,tk,os⟩:=s2;rcases q2 with ⟨ea,q2⟩|⟨dx,fs,ea,ed,ne,hl,q2⟩
 ·obtain⟨e1,_,_⟩:=(show ObjOk X.prog X.w H2 hp a (exN a C none t)from I2.hok a _ ea);refine B3 (o:={ cls:=.ref C,dict:=none,data:=exF t }) (mA:=fun _=>none) (ns:=[]) I2.kIn aa hm hdct xi.sa na ae rfl ⟨e1,(fun c z=>by cases z),.inl ⟨rfl,fun _=>rfl⟩⟩ (fun h' ac dx xa od kp=>?_) (fun y z=>absurd rfl z) (by show 1<=bw;rw[ig];omega);obtain⟨x1,_,x2⟩:=xa;have hsz:hp.objs.size<=dx:=by
   rcases od with z|z
   ·cases z
   ·exact z.2
  obtain⟨ag,z,nx,n1⟩:∃d,some dx=some d/\d≠a/\h'.Ns1 d (fun y=>if y=f then some u else none):=by
   rcases x2 with ⟨z,_⟩|z
   ·cases z
   ·exact z
  cases z;have g1:(hp.update a fun o=>{ o with dict:=some dx }).get? a=some { cls:=.ref C,dict:=some dx,data:=exF t }:=je _ e1 rfl
  have J:=I2.write (x:=a) (e:=a) (o:=exN a C (some dx) t) (h':=hp.update a fun o=>{ o with dict:=some dx }) (t':=tk) (by rw[ea];exact ni) (.inl rfl) (fun b v nb z=>(get?_update_ne _ _ _ _ nb).trans z) ⟨_,g1⟩ (Ab g1);have J2:=J.laid (a:=dx) (o:=xw dx [(f,y)]) (h':=h') (t':=ac) (fun b v z=>?_) (by show (hp.update a _).objs.size<=dx;rw[tq];exact hsz) (FD n1 (fun g=>?_) fun g hg=>?_)
  ·exact⟨σ,_,J2,q2 dx (I2.hok.fresh hsz)⟩
  ·by_cases nb:b=a
   ·subst nb;rw[g1]at z;cases z;exact x1
   ·have z':hp.get? b=some v:=(get?_update_ne _ _ _ _ nb).symm.trans z;exact kp b v nb (fun e=>absurd (fi z') (by rw[e];exact Nat.not_lt.mpr hsz)) z'
  ·show RelO ((fN f y []).lookup g) (if g=f then some u else none);rw[yA];by_cases q:g=f
   ·rw[cm q,cm q];exact ry
   ·rw[cb q,cb q];exact ni
  ·by_cases e:g=f
   ·subst e;simp
   ·rw[cb e]at hg;exact absurd rfl hg
 ·obtain⟨e1,_,_⟩:=(show ObjOk X.prog X.w H2 hp a (exN a C (some dx) t)from I2.hok a _ ea);obtain⟨⟨mA,n1,r1,w1⟩,_,_⟩:=(show ObjOk X.prog X.w H2 hp dx (xw dx fs)from I2.hok dx _ ed);refine B3 (o:={ cls:=.ref C,dict:=some dx,data:=exF t }) (mA:=mA) (ns:=fs.map (·.1)) I2.kIn aa hm hdct xi.sa na ae rfl ⟨e1,(fun c z=>by cases z),.inr ⟨dx,rfl,ne,n1⟩⟩ (fun h' ac af xa od kp=>?_) w1 (by rw[cg,ig];omega);obtain rfl:dx=af:=by
   rcases od with z|z
   ·exact fg z
   ·cases z.1
  obtain⟨x1,_,x2⟩:=xa;obtain⟨ag,z,nx,n2⟩:∃d,some dx=some d/\d≠a/\h'.Ns1 d (fun y=>if y=f then some u else mA y):=by
   rcases x2 with ⟨z,_⟩|z
   ·cases z
   ·exact z
  cases z;have J:=I2.write (x:=dx) (e:=dx) (o:=xw dx (fN f y fs)) (h':=h') (t':=ac) (by rw[ed];exact ni) (.inl rfl) (fun b v nb z=>?_) (let ⟨o,_,_,e,_⟩:=n2;⟨o,e⟩) (FD n2 (fun g=>?_) fun g hg=>?_)
  ·exact⟨σ,_,J,q2⟩
  ·by_cases e:b=a
   ·subst e;rw[e1]at z;cases z;exact x1
   ·exact kp b v e nb z
  ·show RelO ((fN f y fs).lookup g) (if g=f then some u else mA g);rw[yA];by_cases q:g=f
   ·rw[cm q,cm q];exact ry
   ·rw[cb q,cb q];exact r1 g
  ·by_cases q:g=f
   ·rw[q];exact(yN f y fs).1
   ·refine(yN f y fs).2 g (w1 g fun z=>hg ?_);show (if g=f then some u else mA g)=none;rw[cb q];exact z
end
end L2
namespace L2
open PySem PySem.Spec PySem.Calls PyProof.Rows
section
variable {prog:df}{w:gg}{A:fm}{E:bb->bf->Prop}{h:Heap}{g:Array GenState}{d:Drawn}{t:Nat}{os:OsState}
variable {nm q:Str}{C N:Addr}{bs bm:List bb}{hdct:Bool}{sn:List Str}{sub:List bb}{ab:Bool}{col:Option Bool}{dd:Option Addr}{k0 k1 k2 k3 k5:Option bb}{mN:Str->Option bb}{rest:List bb}{fI:Addr}{oI:Obj}
theorem OD(T:OwnTail h veB bm){Q:Fin->bf->Prop}
  (hC:h.get? C=some (sy nm q C N bs bm hdct sn sub ab col dd k0 k1 k2 k3 k5 "ValueError.__new__")) (hn:h.Ns N mN) (hi:mN "__init__" = some (.ref fI)) (hfI:h.get? fI=some oI) (hfc:oI.cls=.type "function")
  (hq:∀h' e,h.objs.size<=e->Heap.MadeExcOf h h' e (.ref C) rest->bq (model prog w) A (call (.ref fI) (.ref e::rest)) (fun r s'=>r=.none/\Q (.done (.ret (.ref e))) s') E ⟨h',g,d,t,os⟩) (hrest:rest.length<=bw):
  bq (model prog w) A (lz.«type.__call__» ⟨.ref C::rest,[]⟩) Q E ⟨h,g,d,t,os⟩:=by
 have Fn:=F.excBase_ValueError;have af:veB.contains (.type "ValueError")=true:=by decide +kernel
 repeat (first|with_reducible refine gy hC ?_|with_reducible refine wpAny_madeBy_exc hC ?_|wp_step)
 refine codeAny_call_builtin_code (Code.quiet_builtin _ Fn.quiet) (wpAny_check_new_subU Fn af T hC ?_);refine codeAny_exc_new_subU Fn af Fn T hC ?_ hrest;show bq _ _ _ _ _ _;generalize hh:((h.push { cls:=.type "tuple",data:=.seq rest.toArray }).push { cls:=.ref C,data:=.fields #[.ref h.objs.size,.none,.none,.none,.bool false,.none] })=h1;have keep:∀b o,h.get? b=some o->h1.get? b=some o:=fun b o e=>by rw[<- hh];exact bn _ (bn _ e)
 have ac:=keep _ _ hC;have ah:h1.Ns N mN:=let ⟨o,es,ep,e,r⟩:=hn;⟨o,es,ep,keep _ _ e,r⟩;have ae:=keep _ _ hfI;have aa:h1.get? (h.objs.size+1)=some { cls:=.ref C,data:=.fields #[.ref h.objs.size,.none,.none,.none,.bool false,.none] }:=by rw[<- hh];heap_get
 have ag:(bv C::bm).contains (.ref C)=true:=by simp
 have T1:=T.keeps keep;unfold isInstance
 repeat (first|with_reducible refine gy aa ?_|(with_reducible refine lj ac ?_;rw[ag])|wp_step)
 show bq _ _ (typeLookup (.ref C) _) _ _ _;refine wpAny_typeLookup_tail ac ah T1 Fn.mroIs Fn.init.lookup ?_;rw[hi];refine kh (bc ?_);unfold bindSpecial;refine bc (wpAny_typeOf (T:="function") ⟨_,ae,hfc⟩ ?_);rw[cm dz];refine bp (bc (ix (hq h1 (h.objs.size+1) (le_succ _) ⟨keep,Heap.get?_none_of_le (le_succ _),h.objs.size,aa,Heap.get?_none_of_le (fe _),?_⟩) (fun r s' hr=>?_) fun _ _ x=>x))
 ·rw[<- hh];exact bn _ (Heap.get?_push_at rfl rfl)
 ·obtain⟨rfl,hQ⟩:=hr
  wp_walk
  exact hQ
theorem FG(T:OwnTail h veB bm){Q:bb->bf->Prop}
  (hC:h.get? C=some (sy nm q C N bs bm hdct sn sub ab col dd k0 k1 k2 k3 k5 "ValueError.__new__")) (hn:h.Ns N mN) (hi:mN "__init__" = some (.ref fI)) (hfI:h.get? fI=some oI) (hfc:oI.cls=.type "function")
  (hq:∀h' e,h.objs.size<=e->Heap.MadeExcOf h h' e (.ref C) rest->bq (model prog w) (A.under (.builtin "type.__call__" ⟨.ref C::rest,[]⟩)) (call (.ref fI) (.ref e::rest)) (fun r s'=>r=.none/\Q (.ref e) s') E ⟨h',g,d,t,os⟩) (hrest:rest.length<=bw):
  bq (model prog w) A (call (.ref C) rest) Q E ⟨h,g,d,t,os⟩:=by
 have f1:=tc_lookup;have f2:=tc_bind (.ref C);have hT:(⟨h,g,d,t,os⟩:bf).TypeIs (.ref C) "type":=⟨_,hC,rfl⟩;refine si (codeAny_of_tree ?_);show bq _ _ (callAny (.ref C) _) _ _ _
 repeat (any_goals (first|assumption|with_reducible refine gy hC ?_|wp_step))
 refine⟨rfl,?_⟩;exact codeAny_call_builtin_at (Code.quiet_builtin _ (by decide +kernel)) entry_typeCall (wpAny_check_type_call_sub hC (OD T hC hn hi hfI hfc (fun h' e hz hm=>hq h' e hz hm) hrest))
end
section
variable {prog:df}{w:gg}{A:fm}{E:bb->bf->Prop}{s:bf}{env:Env}
variable {nm q:Str}{C N:Addr}{bs bm:List bb}{hdct:Bool}{sn:List Str}{sub:List bb}{ab:Bool}{col:Option Bool}{dd:Option Addr}{k0 k1 k2 k3 k5:Option bb}{newId:String}
theorem Id{M:Model}{x:Sem bb}{Q:Flow->bf->Prop}(aa:bm.contains (.type "BaseException")=true)(hh:A.handled=none)
  (h:bq M A x (fun v s1=>∃e t dx,v=.ref e/\s1.heap.get? C=some (sy nm q C N bs bm hdct sn sub ab col dd k0 k1 k2 k3 k5 newId)/\s1.heap.get? e=some { cls:=.ref C,dict:=dx,data:=.fields #[.ref t,.none,.none,.none,.bool false,.none] }/\E (.ref e) s1) E s):
  bq M A (raiseStmt env (some x) none) Q E s:=by
 have ac:(bv C::bm).contains (.type "BaseException")=true:=by rw[qe,aa,Bool.or_true]
 unfold raiseStmt;refine bc (ix h (fun v s1 h1=>?_) fun _ _ x=>x);obtain⟨e,t,dx,rfl,hC,he,hE⟩:=h1;obtain⟨hp,g,d,tk,os⟩:=s1
 repeat (first|with_reducible refine gy he ?_|with_reducible refine gy hC ?_|(with_reducible refine lj hC ?_;rw[ac])|wp_step)
 exact wpAny_raiseNew_none hh hE
end
end L2
namespace L2
open PySem PySem.Spec PySem.Calls PyProof.Rows
def del(H:Hp)(a:Addr):Hp:=fun b=>if b=a then none else H b
theorem mK{H:Hp}{a b:Addr}(h:b≠a):del H a b=H b:=cb h
theorem Od{H:Hp}{a:Addr}{o:HO}:upd (del H a) a o=upd H a o:=by
 funext b;unfold upd del;split
 ·rfl
 ·rfl
theorem EE{H:Hp}{a b:Addr}{u:HO}(h:del H a b=some u):b≠a/\H b=some u:=by
 unfold del at h;split at h
 ·cases h
 ·rename_i n;exact⟨n,h⟩
section
variable {P:df}{w:gg}{K:bt}{mg:Str->Option bb}{base:Heap}{N:List Str}{qual:Str}{scope:Scope}{f:Addr}{cd:bb}{A:fm}{outer:List Env}{s:bf}{H:Hp}{E:XK}
theorem Ca{zg:List (Addr×Obj)}{σ:St}{Hc:Hp}{s2:bf}{e C t:Addr}{dx:Option Addr}(I:Inv (bH (CX1 P w) P w K mg base N qual scope f cd A outer s H E) zg σ Hc s2)(hn:Hc e=some (exN e C dx t))(af:s.heap.get? e=none)(hE:E (.ref C) (some e) (upd Hc e (exO e C dx))):∃B:Heap,s2.heap.FunFrames B (ip qual scope s.heap.objs.size f cd::outer)/\B.StaysIn s2.heap/\B.get? e=none/\s2.heap.get? e=some { cls:=.ref C,dict:=dx,data:=exF t } /\
  ∀h'',FlyD B outer e (.ref C) dx (.ref t) h''->(∀b o,s2.heap.get? b=some o->b≠e->(∀vs,o.data≠.fields vs)->∃sl,h''.get? b=some { o with slots:=sl })->CX1 P w outer H s E (.ref e) { s2 with heap:=h'' }:=by
 have nl:∀b o,s.heap.get? b=some o->b∉frs outer->b∉frs (ip qual scope s.heap.objs.size f cd::outer):=fun b o q hb z=>by
  rcases mem_cons.mp (show b∈s.heap.objs.size::frs outer from z)with e|e
  ·exact absurd (fi q) (by rw[e];exact jw _)
  ·exact hb e
 have nx:∀b:Addr,b∉([]:List Addr):=fun b=>by simp
 have aa:∀b o,s.heap.get? b=some o->b≠e:=fun b o q z=>by
  rw[z,af]at q;cases q
 have nt:∀b xs,Hc b=some (.tup xs)->b≠e:=fun b xs q z=>by
  rw[z,hn]at q;cases q
 have no:∀b y,Hc b=some (.own y)->b≠e:=fun b y q z=>by
  rw[z,hn]at q;cases q
 have stk:s2.heap.FunFrames base (ip qual scope s.heap.objs.size f cd::outer):=I.stack;obtain⟨he,_,_⟩:=(show ObjOk P w Hc s2.heap e (exN e C dx t)from I.hok e _ hn);have ae:∀env∈(ip qual scope s.heap.objs.size f cd::outer),∀b,env.frame=some b->b∈e::frs (ip qual scope s.heap.objs.size f cd::outer):=fun env he b hb=>cn _ (mem_filterMap.mpr ⟨env,he,hb⟩);generalize hB:mq s2.heap (e::frs (ip qual scope s.heap.objs.size f cd::outer))=B;have hd:∀b o,s2.heap.get? b=some o->b≠e->b∉frs (ip qual scope s.heap.objs.size f cd::outer)->B.get? b=some o:=fun b o q n1 n=>by
  rw[<- hB];exact qm _ q fun z=>(mem_cons.mp z).elim n1 n
 have kp:∀b o,s.heap.get? b=some o->H b=none->b∉frs outer->B.get? b=some o:=fun b o q n hb=>hd b o (I.base.keep b o q n hb (nx b)) (aa b o q) (nl b o q hb);have ep:∀b o,s.heap.get? b=some o->b∈frs outer\/∃o',B.get? b=some o':=fun b o q=>by
  by_cases hb:b∈frs outer
  ·exact .inl hb
  ·obtain⟨o1,q1⟩:=I.base.there b o q (nx b);exact .inr ⟨o1,hd b o1 q1 (aa b o q) (nl b o q hb)⟩
 have tr:∀b u,Hc b=some u->b≠e->∀o,s2.heap.get? b=some o->B.get? b=some o:=fun b u q n1 o q1=>hd b o q1 n1 fun z=>by
  rw[I.stkFree.free b z]at q;cases q
 have ne:B.get? e=none:=by rw[<- hB];exact W.hideAll_none _ cw
 have ff:s2.heap.FunFrames B (ip qual scope s.heap.objs.size f cd::outer):=by rw[<- hB];exact W.funFrames_hide stk ae
 have bs:B.StaysIn s2.heap:=fun b o q=>by
  rw[<- hB]at q;exact W.of_hideAll _ q
 refine⟨B,ff,bs,ne,he,fun h'' fl sm=>⟨del Hc e,e,C,dx,rfl,⟨I.os,I.bare,⟨fun b o q n hb _=>fl.1 b o (kp b o q n hb),fun b o q n hb _=>?_,fun b o q n _=>?_,fun b o q _=>?_,fun b xs q=>?_,fun b o u q=>?_,fun b ps q=>?_⟩,
  fun b u q=>?_,_,t,fl,kp,ep,fun b u q=>?_⟩,by rw[Od];exact hE⟩⟩
 ·obtain⟨sl,q1⟩:=I.base.slot b o q n hb (nx b);obtain⟨_,o3,q3,nf⟩:=stk.mem (show b∈frs (ip qual scope s.heap.objs.size f cd::outer)from cn _ hb);rw[q1]at q3;cases q3;obtain⟨ac,q4⟩:=sm b _ q1 (aa b o q) nf;exact⟨ac,q4⟩
 ·rw[mK (aa b o q)];exact I.base.free b o q n (nx b)
 ·rcases ep b o q with z|⟨o',z⟩
  ·obtain⟨_,o3,q3,_⟩:=fl.2.2.1.mem (show b∈frs outer from z);exact⟨o3,q3⟩
  ·exact⟨o',fl.1 b o' z⟩
 ·have q2:=I.base.tups b xs q;rw[mK (nt _ _ q2)];exact q2
 ·have q2:=I.base.frzs b o u q;rw[mK fun z=>by rw[z,hn]at q2;cases q2];exact q2
 ·have q2:=I.base.tbls b ps q;rw[mK fun z=>by rw[z,hn]at q2;cases q2];exact q2
 ·obtain⟨nb,qb⟩:=EE q;refine(I.hok b u qb).stay (fun c v hc q1=>?_) (fun c q1=>by rw[mK (no _ _ q1)];exact q1) (fun c xs q1=>by rw[mK (nt _ _ q1)];exact q1) fun c o u q1=>by rw[mK fun z=>by rw[z,hn]at q1;cases q1];exact q1
  rcases hc with rfl|hc
  ·exact fl.1 _ _ (tr _ _ qb nb _ q1)
  ·exact fl.1 _ _ (tr _ _ hc (no _ _ hc) _ q1)
 ·obtain⟨nb,qb⟩:=EE q;obtain⟨o,q1⟩:=(I.hok b u qb).obj;exact⟨o,tr b u qb nb o q1⟩
theorem Na{zg:List (Addr×Obj)}{σ:St}{Hc:Hp}{s2:bf}{e C t:Addr}{dx:Option Addr}(I:Inv (bH (CX1 P w) P w K mg base N qual scope f cd A outer s H E) zg σ Hc s2)(hn:Hc e=some (exN e C dx t))(ac:s.heap.get? e=none)(hE:E (.ref C) (some e) (upd Hc e (exO e C dx))):
  (bH (CX1 P w) P w K mg base N qual scope f cd A outer s H E).xe (.ref e) s2:=by
 have aa:(A.deeper (ip qual scope s.heap.objs.size f cd)).frames=some (ip qual scope s.heap.objs.size f cd::outer):=I.ok.frames;obtain⟨B,ff,bs,ne,he,fin⟩:=Ca I hn ac hE;show bq _ _ (leaving (ip qual scope s.heap.objs.size f cd) (.ref e)) _ _ _;exact Bq aa ff rfl he bs ne rfl rfl ⟨rfl,fun _=>rfl⟩ fun h'' fl sm=>fin h'' fl fun b o q _ nf=>sm b o q nf
end
section
variable {X:Cx}{E:XK}{x:Str}{C fI:Addr}{fd:ki}{ps:List Str}{sp:Sp}{k:Nat}{np cpos pos:Pos}{e:Expr}{es:List Expr}{t:TA}{CX:CXT}
theorem G3{K:bt}{h h1:Heap}{C:Addr}{ini:Option bb}{o:Obj}(q:ExCls K C ini)(X:K.In h)(X1:K.In h1)(e:h.get? C=some o):h1.get? C=some o:=by
 have z:=q.ty.1;unfold ua at z;cases hl:K.lookup C with
 |none=>rw[hl]at z;cases z
 |some o'=>
  have:=X _ _ hl;rw[e]at this;cases this;exact X1 _ _ hl
def Al(E:XK)(C:Addr)(sp:Sp)(t:TA):TS:=fun _ σ H=>t σ H fun vs H1=>∀a tt,H1 a=none->sp (.ref a::vs) (upd H1 a (exN a C none tt)) (fun r H2=>r=.non/\∃dx,H2 a=some (exN a C dx tt)/\E (.ref C) (some a) (upd H2 a (exO a C dx))) fun _ _ _=>False
def RaisesI(X:Cx)(E:XK):Prop:=∀(C:Addr) (zg:List (Addr×Obj)) (σ:St) (H1 H2:Hp) (s1 s2:bf) (e t:Addr) (dx:Option Addr),Inv X zg σ H1 s1->s1.heap.get? e=none->Inv X zg σ H2 s2->H2 e=some (exN e C dx t)->E (.ref C) (some e) (upd H2 e (exO e C dx))->X.xe (.ref e) s2
theorem OP(hc:X.calm=true)(hR:RaisesI X E)(hg:Gl X x)(hm:X.mg x=some (.ref C))(q:ExCls X.K C (some (.ref fI)))(hk:pp X.K (.ref C)=true)(ai:W.typeIn X.K (.ref fI)=some (.type "function"))(F:FnOk X.prog X.w X.K X.mg X.base CX k fI fd ps sp)(ah:∀o H s v s',CX o H s (fun _ _ _=>False) v s'->False)(hr:∀us:List bb,Room k (X.A.under (.builtin "type.__call__" ⟨.ref C::us,[]⟩)))(hb:Binds X.K fd ps [])(af:ps.length<=1000)
  (ha:PA X (e::es) t) (hdb:(x==("__debug__":Str))=false:=by decide) (he:cu (e::es) X.env=(false,eval e X.env)::cu es X.env:=by rfl) (hpl:(kl cpos (cu es X.env)).any (·.1)=false:=by rfl):
  PS X (.Raise (some (.Call (.Name x np) (e::es) [] cpos)) none pos) (Al E C sp t):=by
 intro zg s σ H D I h;obtain⟨tl,N,nm,qn,bs,hd,sn,sub,ab,col,dd,k0,k1,k2,k3,k5,mN,hC,hN,au,T,_⟩:=q.ob _ I.kIn;have aa:tl.contains (.type "BaseException")=true:=T.hasType (b:=true) (by decide +kernel);rw[arm_exec_Raise];refine bc (ly (Id (C:=C) (nm:=nm) (q:=qn) (N:=N) (bs:=bs) (bm:=tl) (hdct:=hd) (sn:=sn) (sub:=sub) (ab:=ab) (col:=col) (dd:=dd) (k0:=k0) (k1:=k1) (k2:=k2) (k3:=k3) (k5:=k5) (newId:="ValueError.__new__") aa (I.ok.hd hc) (bc (ix (wpAny_Call_ofName (nF I hg hm ?_ hdb)) (fun v s3 h3=>bc (ly (bp h3))) fun _ _ x=>x))));refine W.callWith_K (h₀:=_) I.kIn hk (thn (ha cpos zg s σ H _ I h) fun us s1 ⟨vs,H1,I1,r,q1⟩=>⟨I1.kIn,?_⟩) he hpl;obtain⟨ay,N1,av,ax,a4,as,aw,ar,a3,aq,a1,l0,l1,l2,l3,l5,a0,an,aj,am,T1,_⟩:=q.ob _ I1.kIn;obtain⟨oI,ao,al⟩:∃oI,s1.heap.get? fI=some oI/\oI.cls=.type "function":=by
  have z:tz (fun x:Obj=>x.cls) (X.K.lookup fI)=some (.type "function"):=ai;cases hl:X.K.lookup fI with
  |none=>rw[hl]at z;cases z
  |some o=>rw[hl]at z;exact⟨o,I1.kIn _ _ hl,fg z⟩
 obtain⟨h1,g1,d1,ap,a2⟩:=s1;have ac:us.length<=bw:=by
  have hz:=r.length;have:=F.len _ _ _ _ (q1 h1.objs.size 0 (I1.hok.fresh (fe _)));have az:ps.length<=1000:=af;rw[cz]at this;rw[ig];omega
 refine FG T1 an aj am ao al (fun h' e2 hz mk=>?_) ac;obtain⟨t2,ak,_,_⟩:=mk.there;have J:=I1.laid (a:=e2) (o:=exN e2 C none t2) (h':=h') (t':=ap) mk.keeps hz (Ab ak);have qq:=q1 e2 t2 (I1.hok.fresh hz);have hl:(bv e2::us).length=ps.length:=by
  have:=F.len _ _ _ _ qq;rw[cz]at this ⊢;rw[<- r.length];exact this
 have ae:=hb _ (bv e2::us) J.kIn (by rw[jf];exact hl);rw[jf]at ae;refine si (ou (F.run _ X.stack _ _ ⟨bv e2::us,[]⟩ (bv e2::us) (.ref e2::vs) _ _ (hr us) (J.env0.make C us []) ae (.cons rfl r) qq) fun rr s' hq=>?_);cases rr with
 |error v=>exact(ah _ _ _ _ _ hq).elim
 |ok fl=>
  cases fl with
  |ret u=>
   obtain⟨y,H2,I2,ry,rfl,dx,ag,hE⟩:=J.after hq;cases (show u=gf from ry);obtain⟨e3,_,_⟩:=(show ObjOk X.prog X.w H2 s'.heap e2 (exN e2 C dx t2)from I2.hok e2 _ ag);exact⟨rfl,e2,t2,dx,rfl,G3 q I.kIn I2.kIn hC,e3,hR C zg σ H1 H2 _ s' e2 t2 dx I1 mk.new I2 ag hE⟩
  |next=>exact ib hq
  |brk=>exact ib hq
  |cont=>exact ib hq
end
theorem nZ{P:df}{w:gg}{K:bt}{mg:Str->Option bb}{base:Heap}{N:List Str}{qual:Str}{scope:Scope}{f:Addr}{cd:bb}{A:fm}{outer:List Env}{s:bf}{H:Hp}{E:XK}:
  RaisesI (bH (CX1 P w) P w K mg base N qual scope f cd A outer s H E) E:=fun C zg σ H1 H2 s1 s2 e t dx I1 ne I2 hn hE=>Na I2 hn (by
 cases z:s.heap.get? e with
 |none=>rfl
 |some o=>
  obtain⟨o1,q1⟩:=I1.base.there e o z (fun z=>by cases z);rw[ne]at q1;cases q1) hE
end L2
namespace L2
open PySem PySem.Spec PyProof.Rows
section
def spI(K:bt)(ns:List Str):Sp:=fun vs H Q _=>∃a C t ws,vs=.ref a::ws/\ws.length=ns.length/\ExI K C/\(∀n∈ns,NoAttr K C n)/\H a=some (exN a C none t)/\∀dx,H dx=none->Q .non (upd (upd H a (exN a C (some dx) t)) dx (xw dx (ns.zip ws)))
theorem init1{K:bt}{n:Str}{N:List Str}{vs:List V}{H:Hp}{Q:VK}{E:XK}(h:spI K [n] vs H Q E):Dv K (f6 0) (f6 1) n { nx:=fun _ H'=>Q .non H',rt:=Q } (start N vs) H:=by
 obtain⟨a,C,t,ws,rfl,hl,xi,na,ha,q⟩:=h;obtain⟨w,rfl⟩:∃w,ws=[w]:=by
  match ws,hl with
  | [w],_=>exact⟨w,rfl⟩
 exact⟨w,rfl,_,rfl,a,C,t,rfl,xi,na n yv,.inl ⟨ha,fun dx hd=>q dx hd⟩⟩
theorem Ag{H:Hp}:∀{ns:List Str}{ds:List bg}{vs:List V},HasL H ds vs->∀f dt,(ns.zip ds).lookup f=some dt->∃u,(ns.zip vs).lookup f=some u/\Has H dt u
 | [],_,_,_,f,dt,e=>by simp at e
 |n::ns,[],_,_,f,dt,e=>by simp at e
 |n::ns,d::ds,vs,l,f,dt,e=>by
  obtain⟨v,r,rfl,hv,l'⟩:=zu.mp l;rw[List.zip_cons_cons,ke]at e;by_cases z:f=n
  ·subst z;simp at e;subst e;exact⟨v,yv,hv⟩
  ·have zz:(f==n)=false:=by simp[z]
   rw[zz]at e;obtain⟨u,e1,e2⟩:=Ag l' f dt e;exact⟨u,by rw[List.zip_cons_cons,ke,zz];exact e1,e2⟩
def fY(EX:EXD)(C:Addr)(ns:List Str)(da:DA):DS:=fun _ δ S=>da δ S fun xs _=>∃ds,datas xs=some ds/\ds.length=ns.length/\EX C (ns.zip ds)
theorem nJ{E:XK}{EX:EXD}{K:bt}{C:Addr}{ns:List Str}{ta:TA}{da:DA}(hI:ExI K C)(hn:∀n∈ns,NoAttr K C n)(ha:RA ta da):RSx E EX (Al E C (spI K ns) ta) (fY EX C ns da):=fun h o H δ σ S En D he hs q c x=>
 ha h o H δ σ S _ _ he hs q fun o1 H1 S1 xs vs e1 s1 x1 ⟨ds,ed,hl,hE⟩ a tt na=>by
  have ac:=fF ed;have hL:=lZ x1 ac;refine⟨a,C,tt,vs,rfl,by rw[hL.length];exact hl,hI,hn,zQ,fun dx nd=>⟨rfl,some dx,?_,?_⟩⟩
  ·have ne:dx≠a:=fun z=>by rw[z,zQ]at nd;cases nd
   rw[zL (gj ne),zQ]
  ·have ne:dx≠a:=fun z=>by rw[z,zQ]at nd;cases nd
   have aa:H1 dx=none:=by rwa [zL ne]at nd
   have ae:upd H1 dx (xw dx (ns.zip vs)) a=none:=by rw[zL (gj ne)];exact na
   have eH:upd (upd (upd (upd H1 a (exN a C none tt)) a (exN a C (some dx) tt)) dx (xw dx (ns.zip vs))) a (exO a C (some dx))=upd (upd H1 dx (xw dx (ns.zip vs))) a (exO a C (some dx)):=by
    funext b;unfold upd;split
    ·rfl
    ·rfl
   rw[eH];have sU:=(Same.laid (o:=xw dx (ns.zip vs)) aa).trans (Same.laid (o:=exO a C (some dx)) ae);have fa:=s1.fresh na;have fd:=s1.fresh aa;refine(x.pre e1) o1 _ S1 C a (ns.zip ds) (Ex.of_same sU) (s1.same sU) ⟨a,some dx,rfl,zU.mpr ⟨fa.1,fa.2,zQ⟩,fun f dt l=>?_⟩ hE;obtain⟨u,e2,e3⟩:=Ag hL f dt l;exact⟨dx,ns.zip vs,u,rfl,zU.mpr ⟨fd.1,fd.2,by rw[zL ne,zQ]⟩,e2,Has.mono (kY sU) _ _ e3⟩
end
end L2
namespace L2
open PySem PySem.Spec PySem.Calls PyProof.Rows
def tXA(K:bt)(te:TE)(f:Str):TE:=fun σ H Q=>te σ H fun x H1=>∃a C dx vs u,x=.ref a/\H1 a=some (exO a C (some dx))/\H1 dx=some (xw dx vs)/\ExI K C/\NoAttr K C f/\vs.lookup f=some u/\Q u H1
theorem Gu{X:Cx}{e:Expr}{te:TE}{f:Str}{pos:Pos}(he:PE X e te)(hb:rk e f X.env (eval e X.env)=eval e X.env):PE X (.Attribute e f pos) (tXA X.K te f):=by
 intro zg s σ H Q I h;refine Ls hb (thn (he zg s σ H _ I h) fun u s1 ⟨x,H1,I1,rx,a,C,dx,vs,v,ex,ea,ed,xi,na,l,q⟩=>?_);subst ex;obtain rfl:u=bv a:=rx;obtain⟨hp,g,d,t,os⟩:=s1;obtain⟨⟨o,e1,hc,hd,fv,aa,_⟩,_,_⟩:=(show ObjOk X.prog X.w H1 hp a (exO a C (some dx))from I1.hok a _ ea);obtain⟨⟨mA,n1,r1,w1⟩,_,_⟩:=(show ObjOk X.prog X.w H1 hp dx (xw dx vs)from I1.hok dx _ ed);obtain⟨od,ho,hl⟩:=DF n1;have rr:RelO (some v) (mA f):=by rw[<- l];exact r1 f
 obtain⟨w,hw,rv⟩:∃w,mA f=some w/\RelV v w:=by
  cases z:mA f with
  |none=>rw[z]at rr;cases rr
  |some w=>rw[z]at rr;exact⟨w,rfl,rr⟩
 have T0:∀M,W.Looks M hp (typeOf (.ref a)) (.ref C):=fun M=>hc▸(W.Looks.ld e1).andThen .now;exact JH (v:=w) I1.kIn T0 ⟨xi.k.ga,xi.k.gn,(xi.k.mroIn _).trans (by simp[exM])⟩ (W.looks_find I1.kIn ⟨e1,hc,by unfold W.notCls;rw[aa],by rw[hd];exact ho⟩ (W.findObj_own xi.hd na rfl (by rw[hl,hw]))) (OM rv) ⟨v,H1,I1.tok _,rv,q⟩
structure ExsI(K:bt)(Cs:List Addr)(f:Str):Prop where
 i:∀C∈Cs,ExI K C
 n:∀C∈Cs,NoAttr K C f
def dXA(Cs:List Addr)(de:DE)(f:Str):DE:=fun δ S R=>de δ S fun x S1=>∃C fs d,x=.x C fs/\C∈Cs/\fs.lookup f=some d/\R (.d d) S1
theorem CV{K:bt}{Cs:List Addr}{te:TE}{de:DE}{f:Str}(X0:ExsI K Cs f)(he:RE te de):RE (tXA K te f) (dXA Cs de f):=fun h o H δ σ S R Q hE hs q c=>
 he h o H δ σ S _ _ hE hs q fun o1 H1 S1 x v e1 s1 x1 d1=>by
  obtain⟨C,fs,d,rfl,hC,hl,q1⟩:=d1;obtain⟨a,aa,rfl,ha,hf⟩:=(show HasE (vx h o1 H1) C fs v from x1);obtain⟨dx,vs,u,rfl,e2,e3,e4⟩:=hf f d hl;exact⟨a,C,dx,vs,u,rfl,bQ _ _ ha,bQ _ _ e2,X0.i C hC,X0.n C hC,e3,c o1 H1 S1 (.d d) u e1 s1 e4 q1⟩
end L2
namespace L2
open PySem PySem.Spec PyProof.Rows
section
def Ad(o:Obj):Bool:=match o.data with
 | .dict es _=>es.toList.all fun e=>match e.key with | .str _ _=>true|_=>false
 |_=>false
theorem Ov{K:bt}{N:Addr}{o:Obj}(l:K.lookup N=some o)(h:Ad o=true):W.nsOkIn K N=true:=by
 unfold W.nsOkIn;rw[l];obtain⟨a,b,c,d⟩:=o;cases c with
 |dict es n=>
  show (es.all fun e=>match e.key with | .str _ _=>true|_=>false)=true;rw[<- Array.all_toList];exact h
 |_=>cases h
theorem exc_ofI{K:bt}{C N fI:Addr}{nm qn:Str}{bs:List bb}{hd:Bool}{sn:List Str}{sub:List bb}{ab:Bool}{col:Option Bool}{dd:Option Addr}{k0 k1 k2 k3 k5:Option bb}
  (l:K.lookup C=some (sy nm qn C N bs (.ref 24::veB) hd sn sub ab col dd k0 k1 k2 k3 k5 "ValueError.__new__")) {oN:Obj} (lN:K.lookup N=some oN) (sN:Ad oN=true) (i:W.nsIn K N "__init__" = some (some (.ref fI))) (G:ExCls K 24 none):ExCls K C (some (.ref fI)):=by
 have ok:=Ov lN sN;refine⟨fun h X=>?_,?_,?_⟩
 ·obtain⟨am,NG,an,al,ao,ai,ah,af,ak,ag,ap,j0,j1,j2,j3,j5,aj,hG,ae,ac,_,_⟩:=G.ob h X;have aa:h.Ns N (h.nsMap N):=.of_isNs (W.isNs_of_in X ok);refine⟨.ref 24::veB,N,nm,qn,bs,hd,sn,sub,ab,col,dd,k0,k1,k2,k3,k5,h.nsMap N,X _ _ l,aa,Mw X aa i,.own hG ae ac .base,fun D=>?_⟩;unfold ra ua;rw[l];rfl
 ·unfold ua;rw[l];rfl
 ·show tz (fun x:Obj=>x.cls) (K.lookup C)=_;rw[l];rfl
end
section
abbrev Phi:=List Addr->List Addr->Hp->Prop
class Stb (Φ:Phi):Prop where
 st:∀{h o o':List Addr}{H H':Hp},Φ h o H->Ex o H o' H'->Φ h o' H'
def PhX(E:XK)(EX:EXD):Phi:=fun h o H=>CnX h o H EX E
instance {E:XK}{EX:EXD}:Stb (PhX E EX):=⟨fun x e=>CnX.pre x e⟩
def REp(Φ:Phi)(t:TE)(dt:DE):Prop:=∀(h o:List Addr) (H:Hp) (δ:XE) (σ:St) (S:Sto) (R:RX) (Q:VK),RepE h o H δ σ->RepS h o H S->dt δ S R->Cn h o H R Q->Φ h o H->t σ H Q
def RTp(Φ:Phi)(t:TT)(dt:DT):Prop:=∀(h o:List Addr) (H:Hp) (δ:XE) (σ:St) (S:Sto) (R:Bool->Sto->Prop) (Q:Bool->Hp->Prop),RepE h o H δ σ->RepS h o H S->dt δ S R ->
 (∀o' H' S' b,Ex o H o' H'->RepS h o' H' S'->R b S'->Q b H')->Φ h o H->t σ H Q
def RAp(Φ:Phi)(t:TA)(dt:DA):Prop:=∀(h o:List Addr) (H:Hp) (δ:XE) (σ:St) (S:Sto) (R:List XV->Sto->Prop) (Q:List V->Hp->Prop),RepE h o H δ σ->RepS h o H S->dt δ S R ->
 (∀o' H' S' xs vs,Ex o H o' H'->RepS h o' H' S'->HasXs h o' H' xs vs->R xs S'->Q vs H')->Φ h o H->t σ H Q
def RIp(Φ:Phi)(w:TI)(di:DI):Prop:=∀(h o:List Addr) (H:Hp) (δ:XE) (σ:St) (S:Sto) (R:List bg->Sto->Prop) (Q:It->Hp->Prop),RepE h o H δ σ->RepS h o H S->di δ S R ->
 (∀o' H' S' ds J,Ex o H o' H'->RepS h o' H' S'->WalkX h o' H' J ds->R ds S'->Q J H')->Φ h o H->w σ H Q
section
variable {Φ:Phi} [Stb Φ] {ta tb te:TE}{da db de:DE}{tl:TA}{dl:DA}{tt tu:TT}{dt du:DT}
theorem jQ(a:RE te de):REp Φ te de:=fun h o H δ σ S R Q he hs q c _=>a h o H δ σ S R Q he hs q c
theorem cQ(a:RT tt dt):RTp Φ tt dt:=fun h o H δ σ S R Q he hs q c _=>a h o H δ σ S R Q he hs q c
theorem fL(a:RA tl dl):RAp Φ tl dl:=fun h o H δ σ S R Q he hs q c _=>a h o H δ σ S R Q he hs q c
theorem kH{w:TI}{di:DI}(a:RI w di):RIp Φ w di:=fun h o H δ σ S R Q he hs q c _=>a h o H δ σ S R Q he hs q c
theorem mW(ha:REp Φ ta da)(hb:RAp Φ tl dl):RAp Φ (fQ ta tl) (zc da dl):=fun h o H δ σ S R Q he hs q c x=>
 ha h o H δ σ S _ _ he hs q (fun o1 H1 S1 y v e1 s1 x1 d1=>hb h o1 H1 δ σ S1 _ _ (he.mono e1) s1 d1 (fun o2 H2 S2 xs vs e2 s2 x2 d2=>
  c o2 H2 S2 (y::xs) (v::vs) (e1.trans e2) s2 ⟨v,vs,rfl,x1.mono e2,x2⟩ d2) (Stb.st x e1)) x
theorem yK(ha:RAp Φ tl dl):REp Φ (wB tl) (bJ dl):=fun h o H δ σ S R Q he hs q c w=>
 ha h o H δ σ S _ _ he hs q (fun o1 H1 S1 xs vs e1 s1 x1 ⟨ds,e,hl,d1⟩=>by
  have l:=lZ x1 (fF e);exact⟨by rw[l.length];exact lg (small1000 hl),uO s1 l (c.pre e1) d1⟩) w
theorem Ka(ha:REp Φ ta da):RTp Φ (oS ta) (dB da):=fun h o H δ σ S R Q he hs q c w=>
 ha h o H δ σ S _ _ he hs q (fun o1 H1 S1 x v e1 s1 x1 d1=>by
  replace d1:=p9 d1;obtain⟨b,rfl,d1⟩:=d1;exact⟨b,kE x1,c o1 H1 S1 b e1 s1 d1⟩) w
end
section
variable {E:XK}{EX:EXD}{ta tb te:TE}{da db de:DE}{tl:TA}{dl:DA}{tt tu:TT}{dt du:DT}
def dD(EX:EXD)(m:Nat)(q:PX)(da:DA):DE:=fun δ S R=>da δ S fun xs S1=>∃ds,datas xs=some ds/\ds.length=m/\q (ds.map XV.d) [] (ret0 S1 R) EX
theorem CnX.out{h o:List Addr}{H:Hp}{S:Sto}(hs:RepS h o H S)(x:CnX h o H EX E):CnX (h++o) [] H EX E:=fun o' H' S' C a fs e' s' hE q=>by
 have sH:Same H H':=fun b u eb=>(e'.kp b u yv eb).2;have sv:Same (vx (h++o) o' H') (vx h o H'):=fun b u eb=>by
  obtain⟨n1,n2,n3⟩:=zU.mp eb;exact zU.mpr ⟨fun z=>n1 (fk _ z),fun z=>n1 (fh _ z),n3⟩
 exact x o H' S C a fs (Ex.of_same sH) (hs.same sH) (HasE.mono sv hE) q
theorem hV{ps:List Str}{q:PX}{m:Nat}(ha:RAp (PhX E EX) tl dl)(hm:ps.length=m:=by rfl):REp (PhX E EX) (iT (spX ps q) [] E tl) (dD EX m q dl):=fun h o H δ σ S R Q he hs w c x=>
 ha h o H δ σ S _ _ he hs w (fun o1 H1 S1 xs vs e1 s1 x1 ⟨ds,e,hl,d1⟩=>by
  have ex:=fF e;subst ex;have hv:=x1.len;rw[jf];exact⟨by rw[hv,cg,hl,hm],h++o1,[],[],_,_,EX,rep0 s1,hxs0 x1,d1,cn0 s1 (c.pre e1),(x.pre e1).out s1⟩) x
theorem Ax(ha:REp (PhX E EX) te de):RSx E EX (u8 te) (aC de):=fun h o H δ σ S En D he hs q c x=>ha h o H δ σ S _ _ he hs q c.rt x
theorem sY{g:TG}{dg:DG}(ha:REp (PhX E EX) te de)(hg:RG g dg):RSx E EX (iH te g) (aA de dg):=fun h o H δ σ S En D he hs q c x=>
 ha h o H δ σ S _ _ he hs q (fun o1 H1 S1 y v e1 s1 x1 d1=>hg h o1 H1 δ σ S1 y v _ _ (he.mono e1) s1 x1 d1 (c.nx.pre e1)) x
theorem fJ{t u:TS}{ds dv:DS}(hc:RTp (PhX E EX) tt dt)(ht:RSx E EX t ds)(hu:RSx E EX u dv):RSx E EX (uE tt t u) (aD dt ds dv):=fun h o H δ σ S En D he hs q c x=>
 hc h o H δ σ S _ _ he hs q (fun o1 H1 S1 b e1 s1 d1=>by
  cases b with
  |true=>exact gG (ht h o1 H1 δ σ S1 En D (he.mono e1) s1 (by simpa using d1) (c.pre e1) (x.pre e1))
  |false=>exact gL (hu h o1 H1 δ σ S1 En D (he.mono e1) s1 (by simpa using d1) (c.pre e1) (x.pre e1))) x
theorem Mg{wi:TI}{g:TG}{tb:TS}{di:DI}{dg:DG}{db:DS}(hi:RIp (PhX E EX) wi di)(hg:RG g dg)(hb:RSx E EX tb db):RSx E EX (oY wi g tb) (bW di dg db):=fun h o H δ σ S En D he hs q c w=>
 hi h o H δ σ S _ _ he hs q (fun o1 H1 S1 ds J e1 s1 wk d1=>by
  refine⟨fun i m σ2 H2=>m=ds.length-i/\i<=ds.length/\∃o2 δ2 S2,Ex o1 H1 o2 H2/\RepE h o2 H2 δ2 σ2/\RepS h o2 H2 S2/\kJ dg db (ds.drop i) En δ2 S2,⟨ds.length,yv,qc _,o1,δ,S1,Ex.refl,he.mono e1,s1,d1⟩,?_⟩;rintro i m σ2 H2 ⟨rfl,hi,o2,δ2,S2,e2,ag,af,d2⟩;by_cases hlt:i<ds.length
  ·have ed:ds[i]?=some ds[i]:=dn hlt;rw[jk hlt]at d2;refine .inr ⟨wk.go i _ o2 H2 e2.hid ed,fun σ3 H3=>∃o3 δ3 S3,Ex o1 H1 o3 H3/\RepE h o3 H3 δ3 σ3/\RepS h o3 H3 S3/\kJ dg db (ds.drop (i+1)) En δ3 S3,fun σ3 H3 n=>⟨ds.length-(i+1),yw,rfl,hlt,n⟩,fun x H3 y=>?_⟩;obtain⟨s3,hx⟩:=wk.yld i _ o2 H2 x H3 S2 e2.hid af ed y;have ah:Ex o2 H2 o2 H3:=Ex.of_same s3;refine hg h o2 H3 δ2 σ2 S2 (.d ds[i]) x _ _ (ag.mono ah) (af.same s3) hx d2 fun o4 H4 δ4 S4 σ4 e4 aj ai d4=>?_;have aa:Ex o1 H1 o4 H4:=(e2.trans ah).trans e4;have ce:=(c.pre e1).pre aa;exact hb h o4 H4 δ4 σ4 S4 _ _ aj ai d4 ⟨fun o5 H5 δ5 S5 σ5 e5 ac ae d5=>⟨o5,δ5,S5,aa.trans e5,ac,ae,d5⟩,ce.rt,ce.nx,fun o5 H5 δ5 S5 σ5 e5 ac ae d5=>⟨o5,δ5,S5,aa.trans e5,ac,ae,d5⟩⟩ ((w.pre e1).pre aa)
  ·have ei:i=ds.length:=yw
   subst ei;rw[qy]at d2;exact .inl ⟨wk.stop _ o2 H2 e2.hid (fe _),c.nx o2 H2 δ2 S2 σ2 (e1.trans e2) ag af d2⟩) w
end
section
variable {X:Cx}{E:XK}
theorem iL{x:Str}{ps:List Str}{k j:Nat}{pos pos':Pos}{e:Expr}{es:List Expr}{t:TA}{q:PX}(D:DfX X.prog X.w X.K X.mg X.base x ps k (spX ps q))(hp:Passes (CX1 X.prog X.w) X E)(hr:Room j X.A)(hk:k<=j)(ha:PA X (e::es) t)(hg:Gl X x:=by rfl)(aa:(x==("__debug__":Str))=false:=by decide)
  (q1:cu (e::es) X.env=(false,eval e X.env)::cu es X.env:=by rfl) (q2:((kl pos (cu es X.env)).any fun x=>x.fst)=false:=by rfl):PE X (.Call (.Name x pos') (e::es) [] pos) (iT (spX ps q) [] E t):=by
 obtain⟨f,fd,F,hm,kp,hb⟩:=D.ex;exact A4 (dvs:=[]) (ds:=[]) (E:=E) F (hr.mono hk) hg hm kp hb .nil hp ha aa q1 q2
end
structure XI(K:bt)(C:Addr)(ns:List Str)(qual:Str)(st:Stmt):Prop where
 ex:∃fI fd,ExCls K C (some (.ref fI))/\W.typeIn K (.ref fI)=some (.type "function")/\Fun K "__init__" qual st fI fd/\Binds K fd (("self":Str)::ns) []
 kc:pp K (.ref C)=true
 i:ExI K C
 na:∀n∈ns,NoAttr K C n
theorem XI.mk'{K:bt}{C N fI:Addr}{ns:List Str}{qual:Str}{st:Stmt}{nm qn:Str}{bs:List bb}{hd:Bool}{sn:List Str}{sub:List bb}{ab:Bool}{col:Option Bool}{dd:Option Addr}{k0 k1 k2 k3 k5:Option bb}{oc:bb}{od an:Option Addr}{ae:Array (Option bb)}{kV ac pm aa ct:bb}
  (l:K.lookup C=some (sy nm qn C N bs (.ref 24::veB) hd sn sub ab col dd k0 k1 k2 k3 k5 "ValueError.__new__")) {oN:Obj} (lN:K.lookup N=some oN) (sN:Ad oN=true) (i:W.nsIn K N "__init__" = some (some (.ref fI))) (G:ExCls K 24 none)
  (tf:W.typeIn K (.ref fI)=some (.type "function")) (lf:K.lookup fI=some ⟨oc,od,.func (W.fnOf "__init__" qual (iW st) (dJ st) (zj st) .none kV ac pm an aa ct),ae⟩) (c:W.codeIn K aa qual=true) (kf:pp K (.ref fI)=true)
  (hb:∀(kV ac pm:bb) (an:Option Addr) (aa ct:bb) (us:List bb),us.length=(("self":Str)::ns).length->bindArgs (W.fnOf "__init__" qual (iW st) (dJ st) (zj st) .none kV ac pm an aa ct) ⟨us,[]⟩=pure ((("self":Str)::ns).zip us))
  (kc:pp K (.ref C)=true) (ek:ExK K C) (hdd:W.hasDictIn K C=true) (sa:rh K (.ref C) "__setattr__" = some (some (.builtin "object.__setattr__"))) (na:∀n∈ns,NoAttr K C n):XI K C ns qual st:=
 ⟨⟨fI,_,exc_ofI l lN sN i G,tf,wR (st:=st) lf c kf,(wR (st:=st) lf c kf).binds hb⟩,kc,⟨ek,hdd,sa⟩,na⟩
theorem wX{K:bt}{ns:List Str}(vs:List V)(H:Hp)(Q:VK)(E:XK)(h:spI K ns vs H Q E):vs.length=(("self":Str)::ns).length:=by
 obtain⟨a,C,t,ws,rfl,hl,_⟩:=h;rw[cz,cz,hl]
section
variable {X:Cx}{E:XK}{x:Str}{C:Addr}{ns:List Str}{qual:Str}{st:Stmt}{j:Nat}{np cpos pos:Pos}{e:Expr}{es:List Expr}{t:TA}
theorem n6(B:XI X.K C ns qual st)(hF:∀f fd,Fun X.K "__init__" qual st f fd->FnOk X.prog X.w X.K X.mg X.base CX0 1 f fd (("self":Str)::ns) (spI X.K ns))(hR:RaisesI X E)(hr:Room j X.A)(hj:2<=j)(hm:X.mg x=some (.ref C))(hn:ns.length<=9)
  (ha:PA X (e::es) t) (hc:X.calm=true:=by rfl) (hg:Gl X x:=by rfl) (hdb:(x==("__debug__":Str))=false:=by decide) (he:cu (e::es) X.env=(false,eval e X.env)::cu es X.env:=by rfl) (hpl:(kl cpos (cu es X.env)).any (·.1)=false:=by rfl):
  PS X (.Raise (some (.Call (.Name x np) (e::es) [] cpos)) none pos) (Al E C (spI X.K ns) t):=by
 obtain⟨fI,fd,q,aa,F,hb⟩:=B.ex;exact OP hc hR hg hm q B.kc aa (hF fI fd F) (fun _ _ _ _ _ z=>z) (fun us=>(hr.mono hj).make C us []) hb (by rw[cz];omega) ha hdb he hpl
end
def xQ(N P:List Str)(sc:Scope):Bool:=decide (sc.kind=.function)&&!sc.isCoroutine&&!sc.isGenerator&&decide N.Nodup&&decide (N.take P.length=P)&&P.all (fun x=>decide (sc.names.lookup x=some .local)||decide (sc.names.lookup x=some .cell))&&sc.names.all fun y=>decide (y.2≠.free)
theorem fsc{N P:List Str}{sc:Scope}(h:xQ N P sc=true):FnScope N P sc:=by
 simp only[xQ,cy,decide_eq_true_eq,qr,all_eq_true,Bool.or_eq_true]at h;obtain⟨⟨⟨⟨⟨⟨h1,h2⟩,h3⟩,h4⟩,h5⟩,h6⟩,h7⟩:=h;exact⟨h1,h2,h3,h4,h5,h6,h7⟩
end
section
section
variable {κ α:Type} [DecidableEq κ]
def lkA(m:List (κ×α))(k:κ):Option α:=(m.find? fun p=>decide (p.1=k)).map (·.2)
def ptA(m:List (κ×α))(k:κ)(v:α):List (κ×α):=if (m.any fun p=>decide (p.1=k))=true then m.map (fun p=>if p.1=k then (p.1,v)else p)else m++[(k,v)]
def HasM(H:Hp):List (κ×bg)->List (κ×V)->Prop
 | [],m=>m=[]
 |p::r,m=>∃v m',m=(p.1,v)::m'/\Has H p.2 v/\HasM H r m'
theorem HasM.mono{H H':Hp}(s:Same H H'):∀{m:List (κ×bg)}{m':List (κ×V)},HasM H m m'->HasM H' m m'
 | [],_,q=>q
 |p::r,_,⟨v,t,e,q,l⟩=>⟨v,t,e,Has.mono s _ _ q,HasM.mono s l⟩
theorem HasM.length{H:Hp}:∀{m:List (κ×bg)}{m':List (κ×V)},HasM H m m'->m'.length=m.length
 | [],_,q=>by rw[show _=[]from q];rfl
 |p::r,_,⟨v,t,e,q,l⟩=>by rw[e,cz,cz,HasM.length l]
theorem HasM.val{H:Hp}(k:κ):∀{m:List (κ×bg)}{m':List (κ×V)},HasM H m m'->(lkA m k=none/\fR m' k=none)\/∃d v,lkA m k=some d/\fR m' k=some v/\Has H d v
 | [],m',q=>by rw[show m'=[]from q];exact .inl ⟨rfl,rfl⟩
 |p::r,m',⟨v,t,e,q,l⟩=>by
  subst e;by_cases hk:p.1=k
  ·exact .inr ⟨p.2,v,by simp[lkA,hk],xG hk,q⟩
  ·have e1:lkA (p::r) k=lkA r k:=by simp[lkA,hk]
   rw[e1,xH hk];exact HasM.val k l
theorem HasM.any{H:Hp}(k:κ):∀{m:List (κ×bg)}{m':List (κ×V)},HasM H m m'->(m'.any fun p=>decide (p.1=k))=m.any fun p=>decide (p.1=k)
 | [],m',q=>by rw[show m'=[]from q];rfl
 |p::r,m',⟨v,t,e,q,l⟩=>by
  subst e;rw[any_cons,any_cons,HasM.any k l]
theorem HasM.sets{H:Hp}{k:κ}{d:bg}{v:V}(hv:Has H d v):∀{m:List (κ×bg)}{m':List (κ×V)},HasM H m m'->HasM H (m.map fun p=>if p.1=k then (p.1,d)else p) (m'.map fun p=>if p.1=k then (p.1,v)else p)
 | [],m',q=>by rw[show m'=[]from q];rfl
 |p::r,m',⟨u,t,e,q,l⟩=>by
  subst e;rw[gk,gk];by_cases hk:p.1=k
  ·exact⟨v,_,by simp[hk],by simpa[hk]using hv,HasM.sets hv l⟩
  ·exact⟨u,_,by simp[hk],by simpa[hk]using q,HasM.sets hv l⟩
theorem HasM.snoc{H:Hp}{k:κ}{d:bg}{v:V}(hv:Has H d v):∀{m:List (κ×bg)}{m':List (κ×V)},HasM H m m'->HasM H (m++[(k,d)]) (m'++[(k,v)])
 | [],m',q=>by rw[show m'=[]from q];exact⟨v,[],rfl,hv,rfl⟩
 |p::r,m',⟨u,t,e,q,l⟩=>by subst e;exact⟨u,_,rfl,q,HasM.snoc hv l⟩
theorem HasM.put{H:Hp}{k:κ}{d:bg}{v:V}{m:List (κ×bg)}{m':List (κ×V)}(l:HasM H m m')(hv:Has H d v):HasM H (ptA m k d) (dU m' k v):=by
 unfold ptA dU;rw[l.any k];split
 ·exact l.sets hv
 ·exact l.snoc hv
end
inductive KSg where
 |int|bool|many (s:KSg)|two (s t:KSg)
def KG:KSg->Type
 | .int=>Int
 | .bool=>Bool
 | .many s=>List (KG s)
 | .two s t=>KG s×KG t
instance decKG:(s:KSg)->DecidableEq (KG s)
 | .int=>inferInstanceAs (DecidableEq Int)
 | .bool=>inferInstanceAs (DecidableEq Bool)
 | .many s=>have:=decKG s;inferInstanceAs (DecidableEq (List (KG s)))
 | .two s t=>have:=decKG s;have:=decKG t;inferInstanceAs (DecidableEq (KG s×KG t))
def khash:(s:KSg)->KG s->Int
 | .int,i=>hashInt i
 | .bool,b=>reduceHash (match (show Bool from b)with|true=>1|false=>0)
 | .many s,ks=>reduceHash (Builtin.Tuple.tupleHashOf (ks.map (khash s)))
 | .two s t,k=>reduceHash (Builtin.Tuple.tupleHashOf [khash s k.1,khash t k.2])
def kdat:(g:KSg)->KG g->bg
 | .int,i=>.int i
 | .bool,b=>.bool b
 | .many g,ks=>.tuple (li (kdat g) ks)
 | .two g g',k=>.tuple [kdat g k.1,kdat g' k.2]
def PDict(g:KSg)(ob:Obj)(xs:List (KG g×Addr×bb)):Prop:=ob.ExactDict/\∃es ep,ob.data=.dict es ep/\es.toList=xs.map (fun x=>⟨khash g x.1,.ref x.2.1,x.2.2⟩)/\(xs.map (·.1)).Nodup
def PrG(G:Hp)(g:KSg):List (KG g×bg)->List (KG g×Addr×bb)->Prop
 | [],xs=>xs=[]
 |p::r,xs=>∃q t,xs=q::t/\q.1=p.1/\Has G (kdat g p.1) (.ref q.2.1)/\(∃v,Has G p.2 v/\RelV v q.2.2)/\PrG G g r t
theorem PrG.mono{G G':Hp}{g:KSg}(s:Same G G'):∀{m:List (KG g×bg)}{xs:List (KG g×Addr×bb)},PrG G g m xs->PrG G' g m xs
 | [],_,q=>q
 |p::r,_,⟨q,t,e,e1,h1,⟨v,h2,h3⟩,l⟩=>⟨q,t,e,e1,Has.mono s _ _ h1,⟨v,Has.mono s _ _ h2,h3⟩,PrG.mono s l⟩
inductive DD where
 |k (m:List (Key×bg))
 |t (m:List (List Key×bg))
 |g (g:KSg) (ob:Obj) (m:List (KG g×bg))
def DD.pairs:DD->List (bg×bg)
 | .k m=>m.map fun p=>(kD p.1,p.2)
 | .t m=>m.map fun p=>(.tuple (p.1.map kD),p.2)
 | .g sg _ m=>m.map fun p=>(kdat sg p.1,p.2)
def DD.len:DD->Nat
 | .k m=>m.length
 | .t m=>m.length
 | .g _ _ m=>m.length
def gX:bg->Option Key
 | .int i=>some (.inl i)
 | .str x=>some (.inr x)
 |_=>none
def oM:List bg->Option (List Key)
 | []=>some []
 |d::ds=>(gX d).bind fun k=>(oM ds).map (k :: ·)
def mJ:bg->Option (List Key)
 | .tuple ds=>oM ds
 |_=>none
def DD.get:DD->bg->Option (Option bg)
 | .k m,y=>(gX y).map (lkA m)
 | .t m,y=>(mJ y).map (lkA m)
 | .g _ _ _,_=>none
def DD.put:DD->bg->bg->Option DD
 | .k m,y,d=>(gX y).map fun k=>.k (ptA m k d)
 | .t m,y,d=>(mJ y).map fun k=>.t (ptA m k d)
 | .g _ _ _,_,_=>none
def RAt(G H:Hp)(a:Addr):DD->Prop
 | .k m=>∃m',Rd H a (.dK m')/\HasM G m m'
 | .t m=>∃m',Rd H a (.dT m')/\HasM G m m'
 | .g g ob m=>H a=some (obO a ob)/\(a==oh)=false/\∃xs,PDict g ob xs/\PrG G g m xs
def DAt(G H:Hp)(a:Addr):DD->Prop
 | .k m=>∃m',H a=some (.dK m')/\HasM G m m'
 | .t m=>∃m',H a=some (.dT m')/\HasM G m m'
 | .g g ob m=>H a=some (obO a ob)/\(a==oh)=false/\∃xs,PDict g ob xs/\PrG G g m xs
theorem AR{H:Hp}{y:bg}{v:V}{k:Key}(e:gX y=some k)(q:Has H y v):v=kV k:=by
 cases y with
 |int i=>cases e;exact f7.mp q
 |str x=>cases e;exact gD.mp q
 |_=>cases e
theorem Fx{H:Hp}:∀{ds:List bg}{vs:List V}{ks:List Key},oM ds=some ks->HasL H ds vs->vs=ks.map kV
 | [],vs,ks,e,l=>by cases e;exact zE.mp l
 |d::ds,vs,ks,e,l=>by
  obtain⟨v,r,rfl,q,l⟩:=zu.mp l;unfold oM at e;cases hk:gX d with
  |none=>rw[hk]at e;cases e
  |some k=>
   rw[hk,Option.bind_some]at e;cases hs:oM ds with
   |none=>rw[hs]at e;cases e
   |some ks'=>
    rw[hs]at e;cases e;rw[AR hk q,Fx hs l];rfl
theorem GF{H:Hp}{y:bg}{v:V}{ks:List Key}(e:mJ y=some ks)(q:Has H y v):∃b,v=.ref b/\H b=some (.tup (ks.map kV)):=by
 cases y with
 |tuple ds=>
  obtain⟨b,vs,rfl,eb,l⟩:=dG.mp q;exact⟨b,rfl,by rw[<- Fx (show oM ds=some ks from e) l];exact eb⟩
 |_=>cases e
theorem DAt.mono{G G' H H':Hp}{a:Addr}{D:DD}(s:Same G G')(e:∀u,H a=some u->H' a=some u)(q:DAt G H a D):DAt G' H' a D:=by
 cases D with
 |k m=>obtain⟨m',e1,l⟩:=q;exact⟨m',e _ e1,l.mono s⟩
 |t m=>obtain⟨m',e1,l⟩:=q;exact⟨m',e _ e1,l.mono s⟩
 |g g ob m=>obtain⟨e1,ha,xs,pd,l⟩:=q;exact⟨e _ e1,ha,xs,pd,l.mono s⟩
theorem DAt.rd{G H:Hp}{a:Addr}{D:DD}(q:DAt G H a D):RAt G H a D:=by
 cases D with
 |k m=>obtain⟨m',e1,l⟩:=q;exact⟨m',.inl e1,l⟩
 |t m=>obtain⟨m',e1,l⟩:=q;exact⟨m',.inl e1,l⟩
 |g g ob m=>exact q
theorem DAt.mo{G H:Hp}{a:Addr}{D:DD}(q:DAt G H a D):∃u:MO,H a=some u.ho:=by
 cases D with
 |k m=>obtain⟨m',e1,l⟩:=q;exact⟨.k m',e1⟩
 |t m=>obtain⟨m',e1,l⟩:=q;exact⟨.t m',e1⟩
 |g g ob m=>exact⟨.x a ob,q.1⟩
def RelD(G:Hp):Option bg->Option V->Prop
 |none,r=>r=none
 |some d,r=>∃u,r=some u/\Has G d u
theorem RAt.get{G H:Hp}{a:Addr}{D:DD}{y:bg}{v:V}{o:Option bg}(sv:Same G H)(q:RAt G H a D)(hy:Has G y v)(e:D.get y=some o):∃r,DGet H a v r/\RelD G o r:=by
 cases D with
 |k m=>
  obtain⟨m',e1,l⟩:=q;replace e:(gX y).map (lkA m)=some o:=e;cases hk:gX y with
  |none=>rw[hk]at e;cases e
  |some k=>
   rw[hk]at e;cases e;rw[AR hk hy];refine⟨_,.inl ⟨m',k,e1,rfl,rfl⟩,?_⟩;rcases l.val k with ⟨z1,z2⟩|⟨d,u,z1,z2,z3⟩
   ·rw[z1];exact z2
   ·rw[z1];exact⟨u,z2,z3⟩
 |t m=>
  obtain⟨m',e1,l⟩:=q;replace e:(mJ y).map (lkA m)=some o:=e;cases hk:mJ y with
  |none=>rw[hk]at e;cases e
  |some k=>
   rw[hk]at e;cases e;obtain⟨b,rfl,eb⟩:=GF hk hy;refine⟨_,.inr ⟨m',k,b,e1,rfl,sv _ _ eb,rfl⟩,?_⟩;rcases l.val k with ⟨z1,z2⟩|⟨d,u,z1,z2,z3⟩
   ·rw[z1];exact z2
   ·rw[z1];exact⟨u,z2,z3⟩
 |g g ob m=>cases e
theorem DAt.put{G H:Hp}{a:Addr}{D D':DD}{y d:bg}{v u:V}(sv:Same G H)(q:DAt G H a D)(hy:Has G y v)(hd:Has G d u)(e:D.put y d=some D')(hl:D.len<1000):
  ∃x:MO,DPut H a v u (upd H a x.ho)/\∀H',H' a=some x.ho->DAt G H' a D':=by
 cases D with
 |k m=>
  obtain⟨m',e1,l⟩:=q;replace e:((gX y).map fun k=>DD.k (ptA m k d))=some D':=e;cases hk:gX y with
  |none=>rw[hk]at e;cases e
  |some k=>
   rw[hk]at e;cases e;rw[AR hk hy];exact⟨.k (dU m' k u),DPut.k e1 (by rw[l.length];exact small1000 (lg hl)),fun H' z=>⟨_,z,l.put hd⟩⟩
 |t m=>
  obtain⟨m',e1,l⟩:=q;replace e:((mJ y).map fun k=>DD.t (ptA m k d))=some D':=e;cases hk:mJ y with
  |none=>rw[hk]at e;cases e
  |some k=>
   rw[hk]at e;cases e;obtain⟨b,rfl,eb⟩:=GF hk hy;exact⟨.t (dU m' k u),DPut.t e1 (sv _ _ eb) (by rw[l.length];exact small1000 (lg hl)),fun H' z=>⟨_,z,l.put hd⟩⟩
 |g g ob m=>cases e
theorem Jf{a b:Key}(e:kD a=kD b):a=b:=by
 cases a<;>cases b<;>cases e<;>rfl
theorem E5{H:Hp}:∀{m:List (Key×bg)}{m':List (Key×V)},HasM H m m'->HasV H (m.map fun p=>(kD p.1,p.2)) (m'.map (·.2))/\m'.map (fun p=>kD p.1)=m.map fun p=>kD p.1
 | [],m',q=>by rw[show m'=[]from q];exact⟨FK.mpr rfl,rfl⟩
 |p::r,m',⟨v,t,e,q,l⟩=>by
  subst e;obtain⟨z1,z2⟩:=E5 l;exact⟨Ge.mpr ⟨v,_,rfl,q,z1⟩,by rw[gk,gk,z2]⟩
theorem FN{H:Hp}:∀{m:List (Key×bg)}{m':List (Key×V)},HasV H (m.map fun p=>(kD p.1,p.2)) (m'.map (·.2))->m.map (fun p=>kD p.1)=m'.map (fun p=>kD p.1)->HasM H m m'
 | [],[],_,_=>rfl
 | [],_::_,_,e=>by simp at e
 |_::_,[],_,e=>by simp at e
 |p::r,q::t,h,e=>by
  rw[gk,gk]at h;obtain⟨v,s,e1,e2,e3⟩:=Ge.mp h;rw[sf]at e1;rw[gk,gk,sf]at e;have z:=Jf e.1;obtain⟨q1,q2⟩:=q;refine⟨q2,t,by rw[z],?_,FN (by rw[e1.2];exact e3) e.2⟩;have z1:q2=v:=e1.1;rw[z1];exact e2
theorem DH{H:Hp}{m:List (Key×bg)}{v:V}:Has H (.dict (DD.pairs (.k m))) v↔∃a ob m',v=.ref a/\H a=some (.frz ob (.dK m'))/\HasM H m m':=by
 rw[BA];constructor
 ·rintro⟨a,vs,rfl,⟨ob,m',e,e1,e2⟩|⟨ob,p,m',e,e1,e2⟩,l⟩
  rotate_left
  ·cases m with
   |nil=>cases e1
   |cons q r=>
    have z:=congrArg List.head? e1;simp only[DD.pairs,gk,List.head?_cons,Option.some.injEq]at z;cases h:q.1<;>rw[h]at z<;>cases z
  subst e2;refine⟨a,ob,m',rfl,e,FN l ?_⟩;rw[<- e1];simp[DD.pairs]
 ·rintro⟨a,ob,m',rfl,e,l⟩;obtain⟨z1,z2⟩:=E5 l;exact⟨a,_,rfl,.inl ⟨ob,m',e,by rw[z2];simp[DD.pairs],rfl⟩,z1⟩
abbrev DM:=List (Addr×DD)
def ad(M:DM):List Addr:=M.map (·.1)
structure RepM(h o:List Addr)(H:Hp)(M:DM):Prop where
 nd:(ad M).Nodup
 nh:∀a∈ad M,a∉h/\a∉o
 ct:∀a D,(a,D)∈M->DAt (vx (h++ad M) o H) H a D
section
variable {h o o':List Addr}{H H':Hp}{M:DM}{S:Sto}
theorem RepM.at(r:RepM h o H M){a:Addr}(m:a∈ad M):∃D,(a,D)∈M/\DAt (vx (h++ad M) o H) H a D:=by
 obtain⟨p,mp,e⟩:=mem_map.mp m;obtain⟨b,D⟩:=p;cases e;exact⟨D,mp,r.ct _ D mp⟩
theorem RepM.mono(r:RepM h o H M)(e:Ex o H o' H'):RepM h o' H' M:=by
 have k1:∀a∈ad M,∀u,H a=some u->a∉o'/\H' a=some u:=fun a m u z=>e.kp a u (r.nh a m).2 z;refine⟨r.nd,fun a m=>⟨(r.nh a m).1,?_⟩,fun a D m=>?_⟩
 ·obtain⟨D,_,q⟩:=r.at m;obtain⟨u,z⟩:=q.mo;exact(k1 a m _ z).1
 ·exact(r.ct a D m).mono e.vx fun u z=>(k1 a (mem_map.mpr ⟨_,m,rfl⟩) u z).2
theorem RepM.nil:RepM h o H []:=⟨nodup_nil,fun a m=>(by cases m),fun a D m=>(by cases m)⟩
def kN(M:DM)(a:Addr)(D:DD):DM:=M.map fun p=>if p.1=a then (a,D)else p
theorem kZ{a:Addr}{D:DD}:∀{M:DM},ad (kN M a D)=ad M
 | []=>rfl
 |p::r=>by
  have z:=kZ (a:=a) (D:=D) (M:=r);unfold ad kN at z ⊢;rw[gk,gk,gk,z];by_cases e:p.1=a<;>simp[e]
theorem yS{a:Addr}{u:HO}(m:a∈h):Same (vx h o H) (vx h o (upd H a u)):=fun b w e=>by
 obtain⟨z1,z2,z3⟩:=zU.mp e;exact zU.mpr ⟨z1,z2,by rw[zL (fun z=>z1 (by rw[z];exact m))];exact z3⟩
theorem HasX.view(s:Same (vx h o H) (vx h o H')):∀{x:XV}{v:V},HasX h o H x v->HasX h o H' x v
 | .d d,v,q=>Has.mono s d v q
 | .l k,v,q=>q
 | .o w,v,q=>q
 | .x C fs,v,q=>HasE.mono s q
 | .i C fs,v,q=>HasI.mono s q
 | .p k d,v,q=>HasLP.to s (fun _ z=>z) q
theorem RepE.view{δ:XE}{σ:St}(s:Same (vx h o H) (vx h o H'))(r:RepE h o H δ σ):RepE h o H' δ σ:=⟨r.len,fun i x e=>let ⟨v,e1,e2⟩:=r.get i x e;⟨v,e1,e2.view s⟩⟩
theorem RepS.hidden{a:Addr}{u:MO}(r:RepS h o H S)(m:a∈h):RepS h o (L2.upd H a u.ho) S where
 len:=r.len
 nd:=r.nd
 dis:=r.dis
 hal:=fun b mb=>by
  by_cases e:b=a
  ·subst e;exact⟨u,zQ⟩
  ·obtain⟨w,z⟩:=r.hal b mb;exact⟨w,by rw[zL e];exact z⟩
 cont:=fun k b ds e1 e2=>by
  obtain⟨vs,e3,l⟩:=r.cont k b ds e1 e2;have ne:b≠a:=fun z=>r.dis b (dh e1) (z▸m);exact⟨vs,by rw[zL ne];exact e3,HasL.mono (yS m) _ _ l⟩
theorem RepM.put{a:Addr}{D D':DD}{u:MO}(r:RepM h o H M)(m:(a,D)∈M)(q:∀H',H' a=some u.ho->DAt (vx (h++ad M) o H) H' a D'):RepM h o (L2.upd H a u.ho) (kN M a D'):=by
 have ma:a∈ad M:=mem_map.mpr ⟨_,m,rfl⟩;refine⟨by rw[kZ];exact r.nd,by rw[kZ];exact r.nh,fun b D2 mb=>?_⟩;rw[kZ];have sv:Same (vx (h++ad M) o H) (vx (h++ad M) o (L2.upd H a u.ho)):=yS (fh _ ma);obtain⟨p,mp,ep⟩:=mem_map.mp mb;by_cases e:p.1=a
 ·rw[cm e]at ep;cases ep;exact(q _ zQ).mono sv fun _ z=>z
 ·rw[cb e]at ep;subst ep;exact(r.ct _ _ mp).mono sv fun w z=>by rw[zL e];exact z
theorem RepS.less{l:List Addr}(r:RepS (h++l) o H S):RepS h o H S where
 len:=r.len
 nd:=r.nd
 dis:=fun a ma z=>r.dis a ma (fk _ z)
 hal:=fun b mb=>r.hal b (fk _ mb)
 cont:=fun k b ds e1 e2=>by
  obtain⟨vs,e3,q⟩:=r.cont k b ds e1 e2;exact⟨vs,e3,HasL.mono (fun c u z=>let ⟨z1,z2,z3⟩:=zU.mp z;zU.mpr ⟨fun mm=>z1 (fk _ mm),z2,z3⟩) _ _ q⟩
theorem mU{l:List Addr}:Same (vx (h++l) o H) (vx h o H):=fun c u z=>let ⟨z1,z2,z3⟩:=zU.mp z;zU.mpr ⟨fun mm=>z1 (fk _ mm),z2,z3⟩
theorem HasX.less{l:List Addr}:∀{x:XV}{v:V},HasX (h++l) o H x v->HasX h o H x v
 | .d d,v,q=>Has.mono mU d v q
 | .l k,v,q=>q
 | .o w,v,q=>q
 | .x C fs,v,q=>HasE.mono mU q
 | .i C fs,v,q=>HasI.mono mU q
 | .p k d,v,q=>HasLP.to mU (fun _ z=>z) q
end
end
section
structure DEndsM where
 nx:XE->Sto->DM->Prop
 rt:XV->Sto->DM->Prop
 bk:XE->Sto->DM->Prop:=fun _ _ _=>False
 ct:XE->Sto->DM->Prop:=fun _ _ _=>False
abbrev DSm:=DEndsM->XE->Sto->DM->Prop
def Fr(H:Hp)(M:DM):Prop:=∀a∈ad M,H a=none
def NxM(h o:List Addr)(H:Hp)(A:List Addr)(N:XE->Sto->DM->Prop)(Y:St->Hp->Prop):Prop:=∀o' H' δ' S' M' σ',Ex o H o' H'->ad M'=A->RepE (h++ad M') o' H' δ' σ'->RepS (h++ad M') o' H' S'->RepM h o' H' M'->N δ' S' M'->Y σ' H'
structure EOkM(h o:List Addr)(H:Hp)(A:List Addr)(E:DEndsM)(D:Ends):Prop where
 nx:NxM h o H A E.nx D.nx
 rt:∀o' H' S' M' x v,Ex o H o' H'->ad M'=A->RepS (h++ad M') o' H' S'->RepM h o' H' M'->HasX (h++ad M') o' H' x v->E.rt x S' M'->D.rt v H'
 bk:NxM h o H A E.bk D.bk
 ct:NxM h o H A E.ct D.ct
def RSm(E:XK)(EX:EXD)(t:TS)(dt:DSm):Prop:=∀(h o0:List Addr) (H0:Hp) (o:List Addr) (H:Hp) (δ:XE) (σ:St) (S:Sto) (M:DM) (En:DEndsM) (D:Ends),Ex o0 H0 o H->Fr H0 M->RepE (h++ad M) o H δ σ->RepS (h++ad M) o H S->RepM h o H M->dt En δ S M ->
 EOkM h o0 H0 (ad M) En D->CnX h o0 H0 EX E->t D σ H
theorem CnX.inn{E:XK}{EX:EXD}{h o0 o l:List Addr}{H0 H:Hp}(x:CnX h o0 H0 EX E)(e0:Ex o0 H0 o H):CnX (h++l) o H EX E:=fun o' H' S' C a fs e s' hE q=>x o' H' S' C a fs (e0.trans e) s'.less (HasE.mono mU hE) q
def iY(dt:DS):DSm:=fun En δ S M=>dt { nx:=fun δ' S'=>En.nx δ' S' M,rt:=fun x S'=>En.rt x S' M,bk:=fun δ' S'=>En.bk δ' S' M,ct:=fun δ' S'=>En.ct δ' S' M } δ S
def t9(t u:DSm):DSm:=fun En δ S M=>t { En with nx:=u En } δ S M
def nI(c:DM->DT)(t u:DSm):DSm:=fun En δ S M=>c M δ S fun b S1=>if b=true then t En δ S1 M else u En δ S1 M
def jH(g:DG)(b:DSm):List bg->DSm
 | [],E,δ,S,M=>E.nx δ S M
 |d::ds,E,δ,S,M=>g (.d d) δ S fun δ1 S1=>b { nx:=fun δ2 S2 M2=>jH g b ds E δ2 S2 M2,ct:=fun δ2 S2 M2=>jH g b ds E δ2 S2 M2,bk:=E.nx,rt:=E.rt } δ1 S1 M
def lQ(i:DM->DI)(g:DG)(b:DSm):DSm:=fun En δ S M=>i M δ S fun ds S1=>jH g b ds En δ S1 M
def PhM(M:DM):Phi:=fun h' o H=>∃h,h'=h++ad M/\RepM h o H M
instance {M:DM}:Stb (PhM M):=⟨fun⟨h,e,r⟩ x=>⟨h,e,r.mono x⟩⟩
section
variable {E:XK}{EX:EXD}{t u:TS}{dt du:DSm}
theorem yI{ds:DS}(ht:RSx E EX t ds):RSm E EX t (iY ds):=fun h o0 H0 o H δ σ S M En D e0 fr he hs rm q c x=>
 ht (h++ad M) o H δ σ S _ D he hs q ⟨fun o' H' δ' S' σ' e ac aa n=>c.nx o' H' δ' S' M σ' (e0.trans e) rfl ac aa (rm.mono e) n,fun o' H' S' y v e aa hy n=>c.rt o' H' S' M y v (e0.trans e) rfl aa (rm.mono e) hy n,
  fun o' H' δ' S' σ' e ac aa n=>c.bk o' H' δ' S' M σ' (e0.trans e) rfl ac aa (rm.mono e) n,fun o' H' δ' S' σ' e ac aa n=>c.ct o' H' δ' S' M σ' (e0.trans e) rfl ac aa (rm.mono e) n⟩ (x.inn e0)
theorem Jb{ds:DS}(ht:RS t ds):RSm E EX t (iY ds):=yI (bV ht)
theorem Mx(ht:RSm E EX t dt)(hu:RSm E EX u du):RSm E EX (bM t u) (t9 dt du):=fun h o0 H0 o H δ σ S M En D e0 fr he hs rm q c x=>
 ht h o0 H0 o H δ σ S M _ _ e0 fr he hs rm q ⟨fun o1 H1 δ1 S1 M1 σ1 e1 ea aa ac ae q1=>hu h o0 H0 o1 H1 δ1 σ1 S1 M1 En D e1 (by unfold Fr;rw[ea];exact fr) aa ac ae q1 (by rw[ea];exact c) x,c.rt,c.bk,c.ct⟩ x
theorem Ho{tc:TT}{dc:DM->DT}(hc:∀M,RTp (PhM M) tc (dc M))(ht:RSm E EX t dt)(hu:RSm E EX u du):RSm E EX (uE tc t u) (nI dc dt du):=fun h o0 H0 o H δ σ S M En D e0 fr he hs rm q c x=>
 hc M (h++ad M) o H δ σ S _ _ he hs q (fun o1 H1 S1 b e1 s1 d1=>by
  cases b with
  |true=>exact gG (ht h o0 H0 o1 H1 δ σ S1 M En D (e0.trans e1) fr (he.mono e1) s1 (rm.mono e1) (by simpa using d1) c x)
  |false=>exact gL (hu h o0 H0 o1 H1 δ σ S1 M En D (e0.trans e1) fr (he.mono e1) s1 (rm.mono e1) (by simpa using d1) c x)) ⟨h,rfl,rm⟩
theorem O3{wi:TI}{g:TG}{tb:TS}{di:DM->DI}{dg:DG}{db:DSm}(hi:∀M,RIp (PhM M) wi (di M))(hg:RG g dg)(hb:RSm E EX tb db):RSm E EX (oY wi g tb) (lQ di dg db):=fun h o0 H0 o H δ σ S M En D e0 fr he hs rm q c x=>
 hi M (h++ad M) o H δ σ S _ _ he hs q (fun o1 H1 S1 ds J e1 s1 wk d1=>by
  refine⟨fun i m σ2 H2=>m=ds.length-i/\i<=ds.length/\∃o2 δ2 S2 M2,Ex o0 H0 o2 H2/\ExH (h++ad M) o1 H1 o2 H2/\ad M2=ad M/\RepE (h++ad M) o2 H2 δ2 σ2/\RepS (h++ad M) o2 H2 S2/\RepM h o2 H2 M2/\jH dg db (ds.drop i) En δ2 S2 M2,
   ⟨ds.length,yv,qc _,o1,δ,S1,M,e0.trans e1,ExH.refl,rfl,he.mono e1,s1,rm.mono e1,d1⟩,?_⟩
  rintro i m σ2 H2 ⟨rfl,hi,o2,δ2,S2,M2,e2,x2,ea,aj,ai,al,d2⟩;by_cases hlt:i<ds.length
  ·have ed:ds[i]?=some ds[i]:=dn hlt;rw[jk hlt]at d2;refine .inr ⟨wk.go i _ o2 H2 x2 ed,fun σ3 H3=>∃o3 δ3 S3 M3,Ex o0 H0 o3 H3/\ExH (h++ad M) o1 H1 o3 H3/\ad M3=ad M/\RepE (h++ad M) o3 H3 δ3 σ3/\RepS (h++ad M) o3 H3 S3/\RepM h o3 H3 M3/\jH dg db (ds.drop (i+1)) En δ3 S3 M3,fun σ3 H3 n=>⟨ds.length-(i+1),yw,rfl,hlt,n⟩,fun y H3 yy=>?_⟩;obtain⟨s3,hx⟩:=wk.yld i _ o2 H2 y H3 S2 x2 ai ed yy;have ak:Ex o2 H2 o2 H3:=Ex.of_same s3;refine hg (h++ad M) o2 H3 δ2 σ2 S2 (.d ds[i]) y _ _ (aj.mono ak) (ai.same s3) hx d2 fun o4 H4 δ4 S4 σ4 e4 an am d4=>?_;have ag:Ex o2 H2 o4 H4:=ak.trans e4;have nM:∀b u,H0 b=some u->b∉ad M:=fun b u z mb=>by
    rw[fr b mb]at z;cases z
   have af:Ex o0 H0 o4 (fun b=>if b∈ad M then none else H4 b):=⟨(e2.trans ag).pre,fun b u nb z=>by
    obtain⟨z1,z2⟩:=(e2.trans ag).kp b u nb z;exact⟨z1,by show (if b∈ad M then none else H4 b)=some u;rw[cb (nM b u z)];exact z2⟩⟩
   have ap:∀{o5 H5},Ex o4 (fun b=>if b∈ad M then none else H4 b) o5 H5->ExH (h++ad M) o4 H4 o5 H5:=fun e5=>⟨e5.pre,fun b u n1 n2 z=>e5.kp b u n2 (by show (if b∈ad M then none else H4 b)=some u;rw[cb (fun mb=>n1 (fh _ mb))];exact z)⟩;have aa:∀o5 H5 δ5 S5 M5 σ5,Ex o4 (fun b=>if b∈ad M then none else H4 b) o5 H5->ad M5=ad M2->RepE (h++ad M5) o5 H5 δ5 σ5->RepS (h++ad M5) o5 H5 S5->RepM h o5 H5 M5->jH dg db (ds.drop (i+1)) En δ5 S5 M5 ->
     ∃o3 δ3 S3 M3,Ex o0 H0 o3 H5/\ExH (h++ad M) o1 H1 o3 H5/\ad M3=ad M/\RepE (h++ad M) o3 H5 δ3 σ5/\RepS (h++ad M) o3 H5 S3/\RepM h o3 H5 M3/\jH dg db (ds.drop (i+1)) En δ3 S3 M3:=fun o5 H5 δ5 S5 M5 σ5 e5 a5 ah ac ae d5=>
    ⟨o5,δ5,S5,M5,af.trans e5,(x2.trans ag.hid).trans (ap e5),a5.trans ea,by rw[<- ea,<- a5];exact ah,by rw[<- ea,<- a5];exact ac,ae,d5⟩
   refine hb h o4 (fun b=>if b∈ad M then none else H4 b) o4 H4 δ4 σ4 S4 M2 _ _ ⟨⟨[],yv⟩,fun b u nb eb=>?_⟩ (fun a ma=>by show (if a∈ad M then none else H4 a)=none;rw[cm (by rw[<- ea];exact ma)]) (by rw[ea];exact an) (by rw[ea];exact am) (al.mono ag) d4
    ⟨aa,fun o5 H5 S5 M5 y5 v5 e5 a5 ac ae ao q5=>c.rt o5 H5 S5 M5 y5 v5 (af.trans e5) (a5.trans ea) ac ae ao q5,fun o5 H5 δ5 S5 M5 σ5 e5 a5 ah ac ae q5=>c.nx o5 H5 δ5 S5 M5 σ5 (af.trans e5) (a5.trans ea) ah ac ae q5,aa⟩ (x.pre af)
   refine⟨nb,?_⟩;by_cases mb:b∈ad M
   ·simp[mb]at eb
   ·simpa[mb]using eb
  ·have ei:i=ds.length:=yw
   subst ei;rw[qy]at d2;exact .inl ⟨wk.stop _ o2 H2 x2 (fe _),c.nx o2 H2 δ2 S2 M2 σ2 e2 ea (by rw[ea];exact aj) (by rw[ea];exact ai) al d2⟩) ⟨h,rfl,rm⟩
end
end
section
section
variable {h h' o:List Addr}{H H':Hp}
theorem HasX.to(s:Same (vx h o H) (vx h' o H')):∀{x:XV}{v:V},HasX h o H x v->HasX h' o H' x v
 | .d d,v,q=>Has.mono s d v q
 | .l k,v,q=>q
 | .o w,v,q=>q
 | .x C fs,v,q=>HasE.mono s q
 | .i C fs,v,q=>HasI.mono s q
 | .p k d,v,q=>HasLP.to s (fun _ z=>z) q
theorem RepE.to{δ:XE}{σ:St}(s:Same (vx h o H) (vx h' o H'))(r:RepE h o H δ σ):RepE h' o H' δ σ:=⟨r.len,fun i x e=>let ⟨v,e1,e2⟩:=r.get i x e;⟨v,e1,e2.to s⟩⟩
end
def rF(a:Addr)(m:List (Key×bg)):XV->XV
 | .o (.ref b)=>if b=a then .d (.dict (DD.pairs (.k m)))else .o (.ref b)
 |x=>x
theorem Ic{h h' o:List Addr}{H H':Hp}{a:Addr}{m:List (Key×bg)}{m':List (Key×V)}{ob:Obj}(s:Same (vx h o H) (vx h' o H'))(e:vx h' o H' a=some (.frz ob (.dK m')))(l:HasM (vx h o H) m m'):∀{x:XV}{v:V},HasX h o H x v->HasX h' o H' (rF a m x) v
 | .d d,v,z=>Has.mono s d v z
 | .l k,v,z=>z
 | .x C fs,v,z=>HasE.mono s z
 | .i C fs,v,z=>HasI.mono s z
 | .p k d,v,z=>HasLP.to s (fun _ z=>z) z
 | .o w,v,z=>by
  cases w with
  |ref b=>
   unfold rF;dsimp only;split
   ·rename_i eb;subst eb;rw[show v=.ref b from z];exact DH.mpr ⟨b,ob,m',rfl,e,l.mono s⟩
   ·exact z
  |_=>exact z
theorem KL{h h' o:List Addr}{H H':Hp}{a:Addr}{m:List (Key×bg)}{m':List (Key×V)}{ob:Obj}{δ:XE}{σ:St}(s:Same (vx h o H) (vx h' o H'))(e:vx h' o H' a=some (.frz ob (.dK m')))(l:HasM (vx h o H) m m')(r:RepE h o H δ σ):RepE h' o H' (δ.map (tz (rF a m))) σ:=by
 refine⟨by rw[cg];exact r.len,fun i x ex=>?_⟩;rw[gx]at ex;cases hd:δ[i]? with
 |none=>rw[hd]at ex;cases ex
 |some y=>
  rw[hd]at ex;cases y with
  |none=>cases ex
  |some y=>
   cases ex;obtain⟨v,e1,e2⟩:=r.get i y hd;exact⟨v,e1,Ic s e l e2⟩
theorem cH{M:DM}{a:Addr}{D:DD}:ad (M++[(a,D)])=ad M++[a]:=by simp[ad]
theorem RepM.init{h o:List Addr}{H:Hp}{M:DM}{a:Addr}{D:DD}(r:RepM h o H (M++[(a,D)])):RepM h o H M:=by
 have nd:=r.nd;rw[cH]at nd;refine⟨(nodup_append.mp nd).1,fun b m=>r.nh b (by rw[cH];exact fk _ m),fun b D2 m=>?_⟩;have z:=r.ct b D2 (fk _ m);rw[cH,<- ja]at z;exact z.mono mU fun _ z=>z
def kT(f:Bool)(i:Nat)(D0:DD)(b:DSm):DSm:=fun En δ S M=>∀a,a∉ad M->b { nx:=(fun δ' S' M'=>if f=true then (∃M1 m,M'=M1++[(a,.k m)]/\δ'[i]?=some (some (.o (.ref a)))/\En.nx (δ'.map (tz (rF a m))) S' M1)else (∃M1 D,M'=M1++[(a,D)]/\En.nx δ' S' M1)),rt:=(fun x S' M'=>∃M1 D,M'=M1++[(a,D)]/\En.rt x S' M1),bk:=(fun δ' S' M'=>∃M1 D,M'=M1++[(a,D)]/\En.bk δ' S' M1),ct:=(fun δ' S' M'=>∃M1 D,M'=M1++[(a,D)]/\En.ct δ' S' M1) } (δ.set i (some (.o (.ref a)))) S (M++[(a,D0)])
section
variable {E:XK}{EX:EXD}{tb:TS}{db:DSm}{i:Nat}
theorem O7{f:Bool}{p:Addr}{u:MO}{D0:DD}(hD:∀(G H:Hp),H p=some u.ho->DAt G H p D0)(hb:RSm E EX tb db){h o0:List Addr}{H0:Hp}{o:List Addr}{H:Hp}{δ:XE}{σ:St}{S:Sto}{M:DM}{En:DEndsM}{D:Ends}(e0:Ex o0 H0 o H)(fr:Fr H0 M)(he:RepE (h++ad M) o H δ σ)(hs:RepS (h++ad M) o H S)(rm:RepM h o H M)
  (q:kT f i D0 db En δ S M) (c:EOkM h o0 H0 (ad M) En D) (x:CnX h o0 H0 EX E) (hp:H p=none):(if f=true then KD i tb else tb) D (σ.set i (some (.ref p))) (upd H p u.ho):=by
 have nM:p∉ad M:=fun m=>by
  obtain⟨D2,_,z⟩:=rm.at m;obtain⟨w,ew⟩:=z.mo;rw[hp]at ew;cases ew
 have f1:=hs.fresh hp;have nh:p∉h:=fun m=>f1.1 (fk _ m);have sH:Same H (upd H p u.ho):=Same.laid hp;have e1:Ex o0 H0 o (upd H p u.ho):=e0.trans (Ex.of_same sH);have H0p:H0 p=none:=by
  cases z:H0 p with
  |none=>rfl
  |some w=>
   by_cases m:p∈o0
   ·obtain⟨r,er⟩:=e0.pre;exact absurd (show p∈o by rw[er];exact fk _ m) f1.2
   ·have:=(e0.kp p w m z).2;rw[hp]at this;cases this
 have sv:Same (vx (h++ad M) o H) (vx (h++(ad M++[p])) o (upd H p u.ho)):=fun b w z=>by
  obtain⟨z1,z2,z3⟩:=zU.mp z;have ne:b≠p:=zO z3 hp;refine zU.mpr ⟨fun m=>?_,z2,by rw[zL ne];exact z3⟩;rw[<- ja]at m;rcases mem_append.mp m with m|m
  ·exact z1 m
  ·exact ne (mem_singleton.mp m)
 have sM:RepS (h++ad (M++[(p,D0)])) o (upd H p u.ho) S:=by
  rw[cH];refine⟨hs.len,hs.nd,fun a ma z=>?_,fun b mb=>?_,fun k b ds e1 e2=>?_⟩
  ·rw[<- ja]at z;rcases mem_append.mp z with z|z
   ·exact hs.dis a ma z
   ·rw[mem_singleton.mp z]at ma;exact f1.2 ma
  ·rw[<- ja]at mb;rcases mem_append.mp mb with m|m
   ·obtain⟨w,ew⟩:=hs.hal b m;exact⟨w,sH _ _ ew⟩
   ·rw[mem_singleton.mp m];exact⟨u,zQ⟩
  ·obtain⟨vs,e3,l⟩:=hs.cont k b ds e1 e2;exact⟨vs,sH _ _ e3,HasL.mono sv _ _ l⟩
 have mM:RepM h o (upd H p u.ho) (M++[(p,D0)]):=by
  refine⟨by rw[cH];exact nL rm.nd nM,fun a ma=>?_,fun a D2 m=>?_⟩
  ·rw[cH]at ma;rcases mem_append.mp ma with m|m
   ·exact rm.nh a m
   ·rw[mem_singleton.mp m];exact⟨nh,f1.2⟩
  ·rw[cH];rcases mem_append.mp m with m|m
   ·exact(rm.ct a D2 m).mono sv fun w z=>sH _ _ z
   ·have:=mem_singleton.mp m;cases this;exact hD _ _ zQ
 have hE:RepE (h++ad (M++[(p,D0)])) o (upd H p u.ho) (δ.set i (some (.o (.ref p)))) (σ.set i (some (.ref p))):=by
  rw[cH];exact(he.to sv).set (show HasX _ _ _ (.o (.ref p)) (.ref p)from rfl)
 have ai:Fr H0 (M++[(p,D0)]):=fun a ma=>by
  rw[cH]at ma;rcases mem_append.mp ma with m|m
  ·exact fr a m
  ·rw[mem_singleton.mp m];exact H0p
 have ae:∀{N:XE->Sto->DM->Prop}{Y:St->Hp->Prop},NxM h o0 H0 (ad M) N Y->NxM h o0 H0 (ad (M++[(p,D0)])) (fun δ' S' M'=>∃M1 D,M'=M1++[(p,D)]/\N δ' S' M1) Y:=fun {N Y} nx o' H' δ' S' M' σ' ex ea af aa ac ⟨M1,D2,eM,n⟩=>by
  subst eM;rw[cH,cH]at ea;rw[cH,<- ja]at af aa;exact nx o' H' _ S' M1 σ' ex (List.append_inj_left' ea rfl) (af.to mU) aa.less ac.init n
 have ah:∀o' H' S' M' y v,Ex o0 H0 o' H'->ad M'=ad (M++[(p,D0)])->RepS (h++ad M') o' H' S'->RepM h o' H' M'->HasX (h++ad M') o' H' y v->(∃M1 D,M'=M1++[(p,D)]/\En.rt y S' M1)->D.rt v H':=by
  rintro o' H' S' M' y v ex ea aa ac ag ⟨M1,D2,eM,n⟩;subst eM;rw[cH,cH]at ea;rw[cH,<- ja]at ag aa;exact c.rt o' H' S' M1 _ v ex (List.append_inj_left' ea rfl) aa.less ac.init ag.less n
 have qq:=q p nM;cases f with
 |false=>
  refine hb h o0 H0 o _ _ _ S (M++[(p,D0)]) _ D e1 ai hE sM mM qq ⟨?_,ah,ae c.bk,ae c.ct⟩ x;exact fun o' H' δ' S' M' σ' ex ea af aa ac n=>ae c.nx o' H' δ' S' M' σ' ex ea af aa ac (by simpa using n)
 |true=>
  refine hb h o0 H0 o _ _ _ S (M++[(p,D0)]) _ { D with nx:=fun σ' H'=>∃a m,σ'[i]?=some (some (.ref a))/\H' a=some (.dK m)/\∀ob,D.nx σ' (upd H' a (.frz ob (.dK m))) } e1 ai hE sM mM qq ⟨?_,ah,ae c.bk,ae c.ct⟩ x;intro o' H' δ' S' M' σ' ex ea af aa ac n;obtain⟨M1,m,eM,ei,n2⟩:∃M1 m,M'=M1++[(p,DD.k m)]/\δ'[i]?=some (some (.o (.ref p)))/\En.nx (δ'.map (tz (rF p m))) S' M1:=by simpa using n
  subst eM;obtain⟨v,ev,hv⟩:=af.get i _ ei;have aj:v=.ref p:=hv;subst aj;have nn:=ac.nh p (by rw[cH];simp);have nd:=ac.nd;rw[cH,cH]at ea;rw[cH]at nd;have pn:p∉ad M1:=fun m=>(nodup_append.mp nd).2.2 p m p yv rfl;obtain⟨m',em,l⟩:=ac.ct p (.k m) yv;refine⟨p,m',ev,em,fun ob=>?_⟩;have np:p∉h++ad M1:=fun z=>(mem_append.mp z).elim nn.1 pn;have s2:Same (vx (h++ad (M1++[(p,DD.k m)])) o' H') (vx (h++ad M1) o' (upd H' p (.frz ob (.dK m')))):=fun b w z=>by
   obtain⟨z1,z2,z3⟩:=zU.mp z;rw[cH,<- ja]at z1;have ne:b≠p:=fun z=>z1 (by rw[z];simp);exact zU.mpr ⟨fun mm=>z1 (fk _ mm),z2,by rw[zL ne];exact z3⟩
  refine c.nx o' _ _ S' M1 σ' ⟨ex.pre,fun b w nb zb=>?_⟩ (List.append_inj_left' ea rfl) (KL s2 (zU.mpr ⟨np,nn.2,zQ⟩) l af) ?_ ?_ n2
  ·obtain⟨z1,z3⟩:=ex.kp b w nb zb;exact⟨z1,by rw[zL (fun z=>by rw[z,H0p]at zb;cases zb)];exact z3⟩
  ·refine⟨aa.len,aa.nd,fun a ma z=>aa.dis a ma (by rw[cH,<- ja];exact fk _ z),fun b mb=>?_,fun k b ds q1 q2=>?_⟩
   ·obtain⟨w,ew⟩:=aa.hal b (by rw[cH,<- ja];exact fk _ mb);exact⟨w,by rw[zL (fun z=>np (by rw[<- z];exact mb))];exact ew⟩
   ·obtain⟨vs,q3,l3⟩:=aa.cont k b ds q1 q2;exact⟨vs,by rw[zL (fun z=>nn.2 (by rw[<- z];exact dh q1))];exact q3,HasL.mono s2 _ _ l3⟩
  ·have r1:=ac.init;refine⟨r1.nd,r1.nh,fun b D3 mb=>?_⟩;have nb:b≠p:=fun z=>pn (by rw[<- z];exact mem_map.mpr ⟨_,mb,rfl⟩);exact(ac.ct b D3 (fk _ mb)).mono s2 fun w z=>by rw[zL nb];exact z
theorem GV(hb:RSm E EX tb db):RSm E EX (bM (iH At (gP i)) tb) (kT false i (.k []) db):=fun h o0 H0 o H δ σ S M En D e0 fr he hs rm q c x p hp=>
 O7 (f:=false) (D0:=.k []) (u:=.k []) (fun G H z=>⟨[],z,rfl⟩) hb e0 fr he hs rm q c x hp
def lV(dt:DSm):DS:=fun En δ S=>dt { nx:=fun δ' S' _=>En.nx δ' S',rt:=fun x S' _=>En.rt x S',bk:=fun δ' S' _=>En.bk δ' S',ct:=fun δ' S' _=>En.ct δ' S' } δ S []
theorem Lo{t:TS}{dt:DSm}(ht:RSm E EX t dt):RSx E EX t (lV dt):=fun h o H δ σ S En D he hs q c x=>by
 have z:h++ad []=h:=jf _;have nx:∀{N:XE->Sto->Prop}{Y:St->Hp->Prop},Nx h o H N Y->NxM h o H (ad []) (fun δ' S' _=>N δ' S') Y:=fun {N Y} n o' H' δ' S' M' σ' ex ea ac aa _ q'=>by
  rw[ea,z]at ac aa;exact n o' H' δ' S' σ' ex ac aa q'
 refine ht h o H o H δ σ S [] _ D Ex.refl (fun a m=>by cases m) (by rw[z];exact he) (by rw[z];exact hs) RepM.nil q ⟨nx c.nx,?_,nx c.bk,nx c.ct⟩ x;rintro o' H' S' M' y v ex ea aa _ ae q';rw[ea,z]at aa ae;exact c.rt o' H' S' y v ex aa ae q'
end
end
section
def ROp(Φ:Phi)(r:R2)(rd:D2):Prop:=∀(h o:List Addr) (H:Hp) (S:Sto) (x y:XV) (v u:V) (R:RX) (Q:VK),Φ h o H->RepS h o H S->HasX h o H x v->HasX h o H y u->rd x y S R->Cn h o H R Q->r v u H Q
section
variable {Φ:Phi} [Stb Φ] {ta tb:TE}{da db:DE}
theorem IQ{r:R2}{rd:D2}(hr:ROp Φ r rd)(ha:REp Φ ta da)(hb:REp Φ tb db):REp Φ (tOp r ta tb) (dOp rd da db):=fun h o H δ σ S R Q he hs q c w=>
 ha h o H δ σ S _ _ he hs q (fun o1 H1 S1 x v e1 s1 x1 d1=>hb h o1 H1 δ σ S1 _ _ (he.mono e1) s1 d1 (fun o2 H2 S2 y u e2 s2 y2 d2=>
  hr h o2 H2 S2 x y v u R Q (Stb.st w (e1.trans e2)) s2 (x1.mono e2) y2 d2 (c.pre (e1.trans e2))) (Stb.st w e1)) w
theorem O9{tt tu:TT}{dt du:DT}(ha:RTp Φ tt dt)(hb:RTp Φ tu du):RTp Φ (tOr tt tu) (dOr dt du):=fun h o H δ σ S R Q he hs q c w=>
 ha h o H δ σ S _ _ he hs q (fun o1 H1 S1 b e1 s1 d1=>by
  cases b with
  |true=>exact gG (c o1 H1 S1 _ e1 s1 (by simpa using d1))
  |false=>exact gL (hb h o1 H1 δ σ S1 _ _ (he.mono e1) s1 (by simpa using d1) (fun o2 H2 S2 b e2=>c o2 H2 S2 b (e1.trans e2)) (Stb.st w e1))) w
end
def IsDD(M:DM)(x:XV)(D:DD):Prop:=(∃a,x=.o (.ref a)/\(a,D)∈M)\/∃m,D=.k m/\x=.d (.dict (DD.pairs (.k m)))
theorem Li{M:DM}{h o:List Addr}{H:Hp}{x:XV}{D:DD}{v:V}(φ:PhM M h o H)(q:IsDD M x D)(hx:HasX h o H x v):∃a,v=.ref a/\RAt (vx h o H) H a D:=by
 rcases q with ⟨a,rfl,m⟩|⟨m,rfl,rfl⟩
 ·obtain⟨h0,rfl,rm⟩:=φ;exact⟨a,hx,(rm.ct a D m).rd⟩
 ·obtain⟨a,ob,m',rfl,e,l⟩:=DH.mp (show Has _ _ v from hx);exact⟨a,rfl,m',.inr ⟨ob,bQ _ _ e⟩,l⟩
def BQ(n:Bool):R2:=fun y x H Q=>∃a o,x=.ref a/\DGet H a y o/\Q (.bl (if n=true then !o.isSome else o.isSome)) H
theorem M0{X:Cx}(hu:X.A.units+64<so):OpR X (jd .In) (BQ false):=fun zg s σ H y x v u Q I ry rx ⟨a,o,e,g,q⟩=>by
 subst e;obtain rfl:u=bv a:=rx;exact KN yw I g ry fun s3 I3=>⟨.bl o.isSome,H,I3,rfl,q⟩
def lX(M:DM)(n:Bool):D2:=fun y x S R=>asD y fun k=>∃D o,IsDD M x D/\D.get k=some o/\R (.d (.bool (if n=true then !o.isSome else o.isSome))) S
theorem HY{G:Hp}{o:Option bg}{r:Option V}(q:RelD G o r):r.isSome=o.isSome:=by
 cases o with
 |none=>rw[show r=none from q];rfl
 |some d=>obtain⟨u,rfl,_⟩:=q;rfl
theorem B5{M:DM}{n:Bool}:ROp (PhM M) (BQ n) (lX M n):=fun h o H S y x v u R Q φ hs hy hx q c=>by
 obtain⟨k,rfl,D,r,hD,e,q⟩:=jW q;obtain⟨a,rfl,da⟩:=Li φ hD hx;obtain⟨r',g,rr⟩:=da.get bQ hy e;refine⟨a,r',rfl,g,?_⟩;rw[HY rr];exact c o H S _ _ Ex.refl hs (xB _) q
def lK(j:Nat)(dk dv:DM->DE):DSm:=fun En δ S M=>dv M δ S fun x S1=>asD x fun d=>zh j δ S1 fun y S2=>∃a,y=.o (.ref a)/\dk M δ S2 fun z S3=>asD z fun k=>∃D D',(a,D)∈M/\D.put k d=some D'/\D.len<1000/\En.nx δ S3 (kN M a D')
theorem HQ{E:XK}{EX:EXD}{j:Nat}{ty tv:TE}{dk dv:DM->DE}(hk:∀M,REp (PhM M) ty (dk M))(hv:∀M,REp (PhM M) tv (dv M)):RSm E EX (FL (f6 j) ty tv) (lK j dk dv):=fun h o0 H0 o H δ σ S M En D e0 fr he hs rm q c x=>
 hv M (h++ad M) o H δ σ S _ _ he hs q (fun o1 H1 S1 y v e1 s1 x1 d1=>by
  obtain⟨d,rfl,y1,ey,a,rfl,d2⟩:=jW d1;have aa:=he.mono e1;obtain⟨v1,ev,ag⟩:=aa.get j _ ey;have af:v1=.ref a:=ag;subst af;refine⟨_,ev,hk M (h++ad M) o1 H1 δ σ S1 _ _ aa s1 d2 (fun o2 H2 S2 z u e2 s2 z2 d3=>?_) ⟨h,rfl,rm.mono e1⟩⟩;obtain⟨k,rfl,D1,D2,mD,eD,hl,n⟩:=jW d3;have ac:=e1.trans e2;have ae:=rm.mono ac;have ma:a∈ad M:=mem_map.mpr ⟨_,mD,rfl⟩;obtain⟨w,pt,fin⟩:=(ae.ct a D1 mD).put bQ z2 (x1.mono e2) eD hl;have mh:a∈h++ad M:=fh _ ma;refine⟨a,_,rfl,pt,c.nx o2 _ δ S2 (kN M a D2) σ ⟨(e0.trans ac).pre,fun b w' nb zb=>?_⟩ kZ ?_ ?_ (ae.put mD fin) n⟩
  ·obtain⟨z1,z3⟩:=(e0.trans ac).kp b w' nb zb;exact⟨z1,by rw[zL (fun z=>by rw[z,fr a ma]at zb;cases zb)];exact z3⟩
  ·rw[kZ];exact(aa.mono e2).view (yS mh)
  ·rw[kZ];exact s2.hidden mh) ⟨h,rfl,rm⟩
theorem Hd{E:XK}{EX:EXD}{t t':TS}{d:DS}(h:RSx E EX t d)(e:t'=t:=by rfl):RSx E EX t' d:=e▸h
end
end L2
namespace L2
open PySem PySem.Spec PySem.Calls PyProof.Rows
def DD.itemsD(m:List (Key×bg)):List bg:=m.map fun p=>.tuple [kD p.1,p.2]
def rW(e:DE):DI:=fun δ S R=>e δ S fun x S1=>∃m,x=.d (.dict (DD.pairs (.k m)))/\R (DD.itemsD m) S1
end L2
namespace L2
open PySem PySem.Spec PyProof.Rows
section
section
variable {X:Cx}{zg:List (Addr×Obj)}{σ:St}{H:Hp}{s:bf}{a:Addr}
theorem Inv.goneAt{h':Heap}{n:Str}{i:Nat}{m:Str->Option bb}{v:Option bb}{t':Nat}(I:Inv X zg σ H s)(hN:X.N.Nodup)(hi:X.N[i]?=some n)(hl:X.env.kindOf n=some .local)(hm:s.heap.Ns X.env.locals m)
  (hv:∀(i:Nat) (x:Str) (v:V),X.N[i]?=some x->σ[i]?=some (some v)->Vis X.env.scope x->∃u,RelV v u/\Look X.env s.heap m x u) (hn:h'.Ns X.env.locals (fun x=>if x=n then v else m x)) (sb:fj X.env.locals s.heap h'):Inv X zg (σ.set i none) H { s with heap:=h',toks:=t' }:=by
 have ne:∀b o,X.s₀.heap.get? b=some o->b≠X.env.locals:=fun b o e=>jq (fc (fi e) I.ok.above);refine⟨I.ok,I.os,I.bare,⟨fun b o e n hb hx=>?_,fun b o e n hb hx=>?_,I.base.free,fun b o e hx=>?_,I.base.tups,I.base.frzs,I.base.tbls⟩,⟨_,hn,fun j x w e1 e2 e3=>?_⟩,fun x c e=>?_,I.free,I.freeC,fun p hp=>?_,I.hok.stays fun b u e o q=>?_,by rw[length_set];exact I.len⟩
 ·exact(sb.2 b (ne b o e)).trans (I.base.keep b o e n hb hx)
 ·obtain⟨sl,q⟩:=I.base.slot b o e n hb hx;exact⟨sl,(sb.2 b (ne b o e)).trans q⟩
 ·obtain⟨o',q⟩:=I.base.there b o e hx;exact⟨o',(sb.2 b (ne b o e)).trans q⟩
 ·rw[getElem?_set]at e2;by_cases hij:i=j
  ·rw[cm hij]at e2;split at e2<;>cases e2
  ·rw[cb hij]at e2;have xn:x≠n:=fun z=>hij ((List.getElem?_inj (List.getElem?_eq_some_iff.mp hi).1 hN).mp (by rw[hi,e1,z]));obtain⟨u,r,l⟩:=hv j x w e1 e2 e3;refine⟨u,r,?_⟩;rcases l with ⟨k1,k2⟩|⟨k1,c,k2,k3⟩
   ·exact .inl ⟨k1,by show (if x=n then v else m x)=_;rw[cb xn];exact k2⟩
   ·refine .inr ⟨k1,c,k2,?_⟩;obtain⟨o,ho,hd⟩:=k3;exact⟨o,(sb.2 c (I.cne x c k2)).trans ho,hd⟩
 ·obtain⟨v,o,ho,hd⟩:=I.cell x c e;exact⟨v,o,(sb.2 c (I.cne x c e)).trans ho,hd⟩
 ·obtain⟨e,n,aa,nf,d⟩:=I.pin p hp;exact⟨(sb.2 _ aa).trans e,n,aa,nf,d⟩
 ·refine(sb.2 b ?_).trans q;rintro rfl;rw[I.free]at e;cases e
end
theorem Cr{X:Cx}{zg:List (Addr×Obj)}{σ:St}{H1 H':Hp}{s1 s':bf}{a C t:Addr}{dx:Option Addr}{B h₆:Heap}(I1:Inv X zg σ H1 s1)(ac:X.stack=X.env::X.outer)(F:Fly X.prog X.w X.stack H1 s1 H' a C dx s')(fl:FlyD B (X.env::X.outer) a (.ref C) dx (.ref t) s'.heap)
  (kB:∀b o,s1.heap.get? b=some o->H1 b=none->b∉frs X.stack->B.get? b=some o) (eB:∀b o,s1.heap.get? b=some o->b∈frs X.stack\/∃o',B.get? b=some o') (tB:∀b u,H' b=some u->∃o,B.get? b=some o) (fl₆:FlyD B (X.env::X.outer) a (.ref C) dx (.ref t) h₆) (sm:s'.heap.UpToSlots h₆):Inv X zg σ (upd H' a (exO a C dx)) { s' with heap:=h₆ }:=by
 obtain⟨ak,aa,ae,af⟩:=fl₆.there;subst af;have na:H' a=none:=by
  cases z:H' a with
  |none=>rfl
  |some u=>
   obtain⟨o,q⟩:=tB a u z;rw[fl.2.1]at q;cases q
 have ag:∀b o,s1.heap.get? b=some o->b≠a:=fun b o q z=>by
  subst z;rcases eB b o q with z|⟨o',z⟩
  ·rw[ac]at z;obtain⟨_,o2,q2,nf⟩:=fl₆.2.2.1.mem z;obtain⟨aj,ai,q7,_,d7,_⟩:=fl₆.first
   rw[q2]at q7;cases q7;exact nf _ d7
  ·rw[fl.2.1]at z;cases z
 refine I1.call' (ch:=[]) F.os ⟨fun b o q n hb _=>fl₆.1 b o (kB b o q n hb),fun b o q n hb _=>?_,fun b o q n _=>?_,fun b o q _=>?_,fun b xs q=>?_,fun b o u q=>?_,fun b ps q=>?_⟩ ?_ F.bare (fun b z=>absurd z yv)
 ·obtain⟨sl,q1⟩:=F.un.any q n yv;rw[ac]at hb;obtain⟨_,o3,q3,nf⟩:=fl.2.2.1.mem hb;rw[q1]at q3;cases q3;obtain⟨ah,q4⟩:=sm b _ q1 nf;exact⟨ah,q4⟩
 ·rw[zL (ag b o q)];exact F.un.free b o q n yv
 ·rcases eB b o q with z|⟨o',z⟩
  ·rw[ac]at z;obtain⟨_,o3,q3,_⟩:=fl₆.2.2.1.mem z;exact⟨o3,q3⟩
  ·exact⟨o',fl₆.1 b o' z⟩
 ·have q2:=F.un.tups b xs q;rw[zL (zO q2 na)];exact q2
 ·have q2:=F.un.frzs b o u q;rw[zL (zO q2 na)];exact q2
 ·have q2:=F.un.tbls b ps q;rw[zL (zO q2 na)];exact q2
 ·intro b u q;by_cases hb:b=a
  ·subst hb;rw[zQ]at q;cases q;exact Jt aa ae (by
    obtain⟨aj,ai,q7,_,d7,e7⟩:=fl₆.first2;rw[aa]at q7;cases q7;exact⟨_,d7,e7⟩)
  ·rw[zL hb]at q;refine(F.hok b u q).stay (fun c v hc q1=>?_) (fun c q1=>by rw[zL (zO q1 na)];exact q1) fun c xs q1=>by rw[zL (zO q1 na)];exact q1
   have tr:∀c u,H' c=some u->s'.heap.get? c=some v->h₆.get? c=some v:=fun c u e q1=>by
    obtain⟨o',z⟩:=tB c u e;have:=fl.1 c o' z;rw[q1]at this;cases this;exact fl₆.1 c v z
   rcases hc with rfl|hc
   ·exact tr _ _ q q1
   ·exact tr _ _ hc q1
section
variable {X:Cx}{G n:Str}{gp hpos pos:Pos}{i:Nat}{b₀ st:Stmt}{suite:List Stmt}{GA:Addr}{iniG:Option bb}{tb:XK->TS}{ts:TS}
def CN(K:bt)(GA:Addr)(i:Nat)(ts:TS)(D:Ends)(σ:St):XK:=fun cls a H'=>∃C b ini,cls=.ref C/\a=some b/\ExCls K C ini/\ra K C (.ref GA)=some true /\
 ts { nx:=fun σ' H2=>D.nx (σ'.set i none) H2,rt:=D.rt } (σ.set i (some (.ref b))) H'
def Dk(K:bt)(GA:Addr)(i:Nat)(tb:XK->TS)(ts:TS):TS:=fun D σ H=>tb (CN K GA i ts D σ) D σ H
theorem Ks(hx:∀e s,X.xe e s->False)(ah:X.stack=X.env::X.outer)(ar:X.env.frame=some X.env.locals)(hN:X.N.Nodup)(hi:X.N[i]?=some n)(hl:X.env.kindOf n=some .local)(hg:Gl X G)(hm:X.mg G=some (.ref GA))(qG:ExCls X.K GA iniG)
  (hb:PSX X st tb) (hs:∀a,PSs (X.suite a) (b₀::suite) ts) (hdb:(G==("__debug__":Str))=false:=by decide):
  PS X (.Try [st] [.ExceptHandler (some (.Name G gp)) (some n) (b₀::suite) hpos] [] [] pos) (Dk X.K GA i tb ts):=by
 intro zg s σ H D I h;refine wpAny_Try_except (qz (ix (hb zg s σ H D _ (fun e s₁=>bq (model X.prog X.w) X.A (ng e X.env) (fun _ s₂=>bq (model X.prog X.w) X.A (rg e none) (fun _ s₃=>bq (model X.prog X.w) X.A (handleBy e X.env [.ExceptHandler (some (.Name G gp)) (some n) (b₀::suite) hpos]) (SP X zg D) X.xe s₃) X.xe s₂) X.xe s₁) I h ?_) (fun fl s1 q=>?_) fun _ _ z=>z))
 rotate_left
 ·cases fl with
  |next=>exact on (on q)
  |ret v=>exact q
  |brk=>exact q
  |cont=>exact q
 intro H1 s1 v s' I1 cx;obtain⟨H',a,C,dx,rfl,F,C',b,ini,eC,eb,qC,ak,ap⟩:=cx;cases eC;cases eb;obtain⟨B,t,fl,kB,eB,tB⟩:=F.fl;rw[ah]at fl;have frames:X.A.frames=some (X.env::X.outer):=by rw[I1.ok.frames,ah]
 refine Ay frames ar fl fun h₄ ai as=>?_;refine GG ai fun h₅ aa ao=>?_;have bB:∀b o,X.base.get? b=some o->B.get? b=some o:=fun b o e=>kB b o (I1.bk b o e) (I1.bs b o e).2 fun z=>by
  have:=(I1.stack.mem z).1;rw[e]at this;cases this
 have kin:X.K.In h₅:=I1.ok.mod.kin.all (fun b o e=>aa.1 b o (bB b o e)) fun q hq=>by
  have hk:=F.un.tups _ _ (I1.frfH.kp q hq);obtain⟨o,e⟩:=tB _ _ hk;obtain⟨⟨_,o2,e2,_,k2⟩,_⟩:=(show ObjOk X.prog X.w H' s'.heap q.1.1 (.tup [.str q.2])from F.hok _ _ hk);have e3:=fl.1 _ _ e;rw[e2,k2 q hq rfl]at e3;cases e3;exact aa.1 _ _ e
 obtain⟨oe,am,an,_⟩:=aa.there;refine wpAny_handleBy_cons (codeAny_handlers_test ?_) (by intro q;cases q);refine Calls.Name_function_global I1.ok.kind hg (Calls.loadGlobal_global (by rw[I1.ok.glob];exact I1.mod.glob.keeps fun b o e=>aa.1 b o (bB b o e)) hm ?_) hdb;refine N3 kin qC qG am an ak (codeAny_handlers_suite_as ?_);refine Gg aa fun h₆ aj al=>?_;have I6:=Cr I1 ah F fl kB eB tB aj ((as.trans ao).trans al);have au:σ.length=X.N.length:=I6.len;refine nU (v:=.ref a) I6 hN hi (.inl hl) rfl (fun s7 I7=>?_) (.inr hl);refine ix (hs a zg s7 _ _ _ (I7.suite a) ap) (fun f8 s8 q=>?_) fun _ _ z=>z.elim;cases f8 with
 |ret u=>
  obtain⟨w,σ8,H8,I8,r8,q8⟩:=q;have J:=I8.unsuite I6.ok;obtain⟨m8,ae,_⟩:=J.loc;have ac:(X.env.scope.kind==.class||(X.env.scope.kind==.module&&X.env.locals != X.env.globals))=false:=by rw[J.ok.kind];rfl
  refine wpAny_nameGoes hl ae ac fun h9 m9 af ag=>?_;exact⟨w,_,H8,J.gone af ag,r8,q8⟩
 |next=>
  obtain⟨σ8,H8,I8,q8⟩:=q;have J:=I8.unsuite I6.ok;obtain⟨m8,ae,aq⟩:=id J.loc;have ac:(X.env.scope.kind==.class||(X.env.scope.kind==.module&&X.env.locals != X.env.globals))=false:=by rw[J.ok.kind];rfl
  refine wpAny_nameGoes_keeps hl ae ac fun h9 v9 af ag=>?_;exact⟨_,H8,J.goneAt hN hi hl ae aq af ag,q8⟩
 |brk=>obtain⟨_,_,_,z⟩:=q;exact z.elim
 |cont=>obtain⟨_,_,_,z⟩:=q;exact z.elim
end
theorem E9{X:Cx}{e:Expr}{tx:XK->TE}{i:Nat}{y:Str}{py pos:Pos}(hN:X.N.Nodup)(hi:X.N[i]?=some y)(hl:Loc X.env.scope y)(he:PEX X e tx)(hs:sj e (some (.Name y py)) pos.line X.env=pure false:=by rfl)(hf:X.fn y=true\/X.env.scope.names.lookup y=some .local:=by first|exact .inl rfl|exact .inr rfl):
  PSX X (.Assign [.Name y py] e pos) (fun Ex=>iH (tx Ex) (gP i)):=by
 intro zg s σ H D Ex E' I h hX;refine wpAny_Assign_Name (thn (he zg s σ H _ Ex E' I h hX) fun v s1 ⟨y1,H1,I1,r1,q1⟩=>?_) hs;exact nU I1 hN hi hl r1 (fun s2 I2=>⟨_,H1,I2,q1⟩) hf
def knA(j:Nat):DEnds->XE->RX:=fun En δ x S2=>En.nx (δ.set j (some x)) S2
theorem Fh{j:Nat}:KnOk (knA j) (fun D σ v H1=>D.nx (σ.set j (some v)) H1):=fun h o H δ σ En D he c o' H' S' x v e hs hx q=>c.nx o' H' _ S' _ e ((he.mono e).set hx) hs q
def mR(kn:DEnds->XE->RX)(m:Nat)(q:PX)(da:DA)(i:Nat)(hd:DS):DS:=fun En δ S=>da δ S fun xs S1=>∃ds,datas xs=some ds/\ds.length=m /\
 q (ds.map XV.d) [] (ret0 S1 (kn En δ)) fun C fs=>C∈excs/\hd { nx:=fun δ' S'=>En.nx (δ'.set i none) S',rt:=En.rt } (δ.set i (some (.x C fs))) S1
theorem RepE.unset{h o:List Addr}{H:Hp}{δ:XE}{σ:St}{i:Nat}(r:RepE h o H δ σ):RepE h o H (δ.set i none) (σ.set i none):=by
 refine⟨by simp[r.len],fun j y e=>?_⟩;rw[getElem?_set]at e ⊢;by_cases hij:i=j
 ·rw[cm hij]at e;split at e<;>cases e
 ·rw[cb hij]at e ⊢;exact r.get j y e
theorem NV{K:bt}{i m:Nat}{ps:List Str}{q:PX}{tl:TA}{dl:DA}{ts:TS}{ds:DS}{kn:DEnds->XE->RX}{kt:Ends->St->VK}{tb:XK->TS}(X0:Exs K)(hm:ps.length=m)(af:KnOk kn kt)(ag:∀Ex D σ H,tb Ex D σ H=(tl σ H fun vs H1=>spX ps q vs H1 (kt D σ) Ex))(ha:RA tl dl)(ai:RS ts ds):
  RS (Dk K 24 i tb ts) (mR kn m q dl i ds):=fun h o H δ σ S En D he hs d c=>by
 show tb (CN K 24 i ts D σ) D σ H;rw[ag];refine ha h o H δ σ S _ _ he hs d fun o1 H1 S1 xs vs e1 s1 x1 ⟨es,aa,hl,d1⟩=>?_;have ah:=fF aa;subst ah;refine⟨by rw[x1.len,cg,hl,hm],h++o1,[],[],es.map XV.d,_,_,rep0 s1,hxs00 x1,d1,cn0 s1 (af h o1 H1 δ σ En D (he.mono e1) (c.pre e1)),?_⟩;intro o' H' S' C a fs e' s' hE ⟨hC,hh⟩;have EC:=X0.all C hC;obtain⟨ini,qC⟩:=X0.ci C hC;refine⟨C,a,ini,rfl,rfl,qC,(EC.mroIn _).trans (by simp[exM]),?_⟩;have sH:Same H1 H':=fun b u eb=>(e'.kp b u yv eb).2;have e2:Ex o1 H1 o1 H':=Ex.of_same sH;have sv:Same (vx (h++o1) o' H') (vx h o1 H'):=fun b u eb=>by
  obtain⟨n1,n2,n3⟩:=zU.mp eb;exact zU.mpr ⟨fun z=>n1 (fk _ z),fun z=>n1 (fh _ z),n3⟩
 have cc:=c.pre (e1.trans e2);exact ai h o1 _ (δ.set i (some (.x C fs))) (σ.set i (some (.ref a))) S1 _ _ (((he.mono e1).mono e2).set (HasE.mono sv hE)) (s1.same sH) hh ⟨fun o3 H3 δ3 S3 σ3 e3 ae ac n3=>cc.nx o3 H3 _ S3 _ e3 ae.unset ac n3,cc.rt,fun _ _ _ _ _ _ _ _ z=>z.elim,fun _ _ _ _ _ _ _ _ z=>z.elim⟩
end
section
def Its(x:Str):It:=⟨fun i _=>i<x.cps.size,fun i H v H'=>H'=H/\∃c,x.cps[i]?=some c/\v=.str ⟨#[c]⟩,fun i _=>x.cps.size<=i⟩
theorem LB{P:df}{w:gg}{K:bt}{tg:Expr}(it:Addr)(x:Str)(t:Tok):Turn P w K tg (Its x) [it] it (fun i h=>h.IsStrIter it "str_ascii_iterator" x t i) where
 mem:=by simp
 obj:=fun i h st b hb=>by
  have e:b=it:=by simpa using hb
  subst e;obtain⟨o,e,c,d⟩:=st;exact⟨o,e,fun v z=>by rw[d]at z;cases z⟩
 keep:=fun i h h' st k=>let ⟨o,e,r⟩:=st;⟨o,k it yv o e,r⟩
 item:=by
  intro X hP hw hK hc i zg s σ H E I hf st hg;subst hP hw hK;have aa:i<x.cps.size:=hg;obtain⟨f0,f1,f2,f3,f4,f5⟩:=hf it yv;refine wpAny_pyNext_ascii_item st (c:=x.cps[i]) (by simp[aa]) fun h' ac sb=>?_;have I1:Inv X zg σ H { s with heap:=h',toks:=s.toks+1 }:=I.turned (fun b o hb e=>(sb.2 b hb).trans e) f0 f1 f3 f4 f5;obtain⟨o,e,c,d⟩:=id ac;exact⟨_,rfl,lT (s:={ s with heap:=h',toks:=s.toks+1 }) e c d dz ⟨.str ⟨#[x.cps[i]]⟩,H,I1,⟨_,rfl⟩,⟨rfl,x.cps[i],by simp[aa],rfl⟩,ac,fun b hb=>(hf b hb).1⟩⟩
 done:=by
  intro X hP hw hK hc i zg s σ H E I hf st hg;subst hP hw hK;have aa:x.cps.size<=i:=hg;obtain⟨f0,f1,f2,f3,f4,f5⟩:=hf it yv;exact wpAny_pyNext_ascii_end (I.ok.hd hc) st (by simp[aa]) fun h' eb=>⟨rfl,I.turned (t':=s.toks) (fun b o hb e=>eb b o hb e) f0 f1 f3 f4 f5⟩
 self:=fun _ _ _ _ _ st h=>wpAny_pyIter_striter_ascii st h
theorem Mk{P:df}{w:gg}{K:bt}{tg:Expr}(it:Addr)(x:Str)(t:Tok):Turn P w K tg (Its x) [it] it (fun i h=>h.IsStrIter it "str_iterator" x t i) where
 mem:=by simp
 obj:=fun i h st b hb=>by
  have e:b=it:=by simpa using hb
  subst e;obtain⟨o,e,c,d⟩:=st;exact⟨o,e,fun v z=>by rw[d]at z;cases z⟩
 keep:=fun i h h' st k=>let ⟨o,e,r⟩:=st;⟨o,k it yv o e,r⟩
 item:=by
  intro X hP hw hK hc i zg s σ H E I hf st hg;subst hP hw hK;have aa:i<x.cps.size:=hg;obtain⟨f0,f1,f2,f3,f4,f5⟩:=hf it yv;refine wpAny_pyNext_wide_item st (c:=x.cps[i]) (by simp[aa]) fun h' ac sb=>?_;have I1:Inv X zg σ H { s with heap:=h',toks:=s.toks+1 }:=I.turned (fun b o hb e=>(sb.2 b hb).trans e) f0 f1 f3 f4 f5;obtain⟨o,e,c,d⟩:=id ac;exact⟨_,rfl,lT (s:={ s with heap:=h',toks:=s.toks+1 }) e c d dz ⟨.str ⟨#[x.cps[i]]⟩,H,I1,⟨_,rfl⟩,⟨rfl,x.cps[i],by simp[aa],rfl⟩,ac,fun b hb=>(hf b hb).1⟩⟩
 done:=by
  intro X hP hw hK hc i zg s σ H E I hf st hg;subst hP hw hK;have aa:x.cps.size<=i:=hg;obtain⟨f0,f1,f2,f3,f4,f5⟩:=hf it yv;exact wpAny_pyNext_wide_end (I.ok.hd hc) st (by simp[aa]) fun h' eb=>⟨rfl,I.turned (t':=s.toks) (fun b o hb e=>eb b o hb e) f0 f1 f3 f4 f5⟩
 self:=fun _ _ _ _ _ st h=>wpAny_pyIter_striter_wide st h
def Co(te:TE):TI:=fun σ H R=>te σ H fun v H1=>∃x,v=.str x/\R (Its x) H1
theorem pG{X:Cx}{tg l:Expr}{te:TE}(hl:PE X l te):PI X tg l (Co te):=by
 intro zg s σ H R I h;refine thn (hl zg s σ H _ I h) fun v s1 ⟨x,H1,I1,r1,y,ex,q⟩=>?_;subst ex;obtain⟨t,rfl⟩:=(show ∃t,v=Value.str y t from r1);have fp:∀b∈[s1.heap.objs.size],FpOk X zg H1 b:=fun b hb=>by
  rw[mem_singleton.mp hb];exact I1.fpOk (fe _) (I1.hok.fresh (fe _))
 cases ha:y.cps.all (· < 128)
 ·exact wpAny_pyIter_wide ha ⟨s1.heap.objs.size,[s1.heap.objs.size],_,_,H1,rfl,I1.kept (t':=s1.toks) fun b o e=>bn _ e,Mk _ y t,⟨_,cv _ rfl,rfl,rfl⟩,fp,q⟩
 ·exact wpAny_pyIter_ascii ha ⟨s1.heap.objs.size,[s1.heap.objs.size],_,_,H1,rfl,I1.kept (t':=s1.toks) fun b o e=>bn _ e,LB _ y t,⟨_,cv _ rfl,rfl,rfl⟩,fp,q⟩
def iD(x:Str):List bg:=x.cps.toList.map fun c=>.str ⟨#[c]⟩
def gC(e:DE):DI:=fun δ S R=>e δ S fun y S1=>asS y fun x=>R (iD x) S1
theorem oK{te:TE}{de:DE}(aa:RE te de):RI (Co te) (gC de):=fun h o H δ σ S R Q he hs q c=>
 aa h o H δ σ S _ _ he hs q fun o1 H1 S1 y v e1 s1 x1 d1=>by
  replace d1:=eX d1;obtain⟨x,rfl,d1⟩:=d1;have ev:v=.str x:=(gD (H:=vx h o1 H1)).mp x1;have sz:(iD x).length=x.cps.size:=by simp[iD]
  refine⟨x,ev,c o1 H1 S1 _ _ e1 s1 ⟨fun i o2 H2 e2 hi=>by show x.cps.size<=i;omega,fun i d o2 H2 e2 hi=>?_,fun i d o2 H2 z H3 S2 e2 s2 hi yy=>?_⟩ d1⟩
  ·have:=(List.getElem?_eq_some_iff.mp hi).1;show i<x.cps.size;omega
  ·obtain⟨e3,cc,ec,ez⟩:=yy;subst e3 ez;unfold iD at hi;rw[gx,Array.getElem?_toList,ec]at hi;cases hi;exact⟨Same.refl _,gD.mpr rfl⟩
end
section
section
variable {E:XK}{EX:EXD}{a b c d e f u:TS}{dt du:DS}{i:Nat}
theorem Nf(h:RSx E EX (bM a b) dt)(hu:RSx E EX u du):RSx E EX (bM a (bM b u)) (zR dt du):=Hd (bT h hu)
end
end
end L2
namespace L2
open PySem PyProof.Rows
section
variable {prog:df}{w:gg}{A:fm}{E:bb->bf->Prop}{s:bf}{kd:SortKind}{D:Keyed->Prop}{lt:Keyed->Keyed->Bool}
def flt(lt:Keyed->Keyed->Bool):Keyed->Keyed->Bool:=fun x y=>lt y x
def G(xs:Array Keyed)(i:Nat):Keyed:=(xs[i]?).getD (.none,.none)
structure Ts(kd:SortKind)(D:Keyed->Prop)(a₀:Array Keyed)(st:SortSt):Prop where
 kd:kindOf st=kd
 fl:failedOf st=none
 pm:(arrOf st).Perm a₀
 d:∀x∈a₀.toList,D x
end
end L2
namespace L2
open PySem PySem.Spec PySem.Calls PyProof.Rows PySem.W
section
variable {X:Cx}{zg:List (Addr×Obj)}{σ:St}{H H':Hp}{s:bf}{h':Heap}
theorem Inv.laidAll{t':Nat}(I:Inv X zg σ H s)(k:∀b u,s.heap.get? b=some u->h'.get? b=some u)(gr:Same H H')(aa:∀b u,H' b=some u->H b=some u\/(s.heap.objs.size<=b/\ObjOk X.prog X.w H' h' b u)):Inv X zg σ H' { s with heap:=h',toks:=t' }:=by
 refine I.un ⟨fun b u q _ _ _=>k b u q,fun b u q _ _ _=>⟨u.slots,k b u q⟩,fun b u q n _=>?_,fun b u q _=>⟨u,k b u q⟩,fun b xs q=>gr b _ q,fun b u xs q=>gr b _ q,fun b ps q=>gr b _ q⟩ fun b u e=>?_
 ·cases e:H' b with
  |none=>rfl
  |some v=>
   rcases aa b v e with z|⟨z,_⟩
   ·rw[n]at z;cases z
   ·exact absurd (fc (fi q) z) (jw _)
 ·rcases aa b u e with z|⟨_,z⟩
  ·exact(I.hok b u z).stay (fun c v _ q=>k c v q) (fun c q=>gr c _ q) (fun c xs q=>gr c _ q) fun c o u q=>gr c _ q
  ·exact z
end
def rJ:List XV->Sto->RX->Prop:=fun xs S R=>arg1 xs fun x=>∃m:List (Key×bg),x=.d (.dict (DD.pairs (.k m)))/\∃ns:List Int,m.map (·.1)=ns.map Sum.inl/\ns.length<=10000000/\∀ms:List Int,ms.Perm ns->ms.Pairwise (· <= ·)->R (.d (.list (ms.map dq))) S
def tG:List XV->Sto->RX->Prop:=fun xs S R=>arg1 xs fun x=>∃ds,eJ S x=some ds/\∃nss:List (List Int),ds=nss.map BO/\nss.length<=10000000/\(∀ns∈nss,ns≠[])/\∀mss:List (List Int),mss.Perm nss->mss.Pairwise (fun x y=>HT.lexLt y x=false)->R (.d (.list (mss.map BO))) S
end L2
namespace L2
open PySem PySem.Spec PySem.Calls PyProof.Rows
def uC(j:Nat)(dk dv:DM->DE):DSm:=fun En δ S M=>zh j δ S fun y S1=>∃a m,y=.o (.ref a)/\(a,DD.k m)∈M/\dk M δ S1 fun z S2=>dv M δ S2 fun x S3=>asD z fun k=>asD x fun d=>∃kk,gX k=some kk/\m.length<1000/\if (lkA m kk).isSome=true then En.nx δ S3 M else En.nx δ S3 (kN M a (.k (ptA m kk d)))
def r9(k:Int)(e:DE):DE:=fun δ S R=>e δ S fun x S1=>asD x fun d=>R (.d (.dict [(.int k,d)])) S1
end L2
namespace L2
theorem len0{α:Type}{l:List α}(h:l.length=0):l=[]:=gm h
theorem len1{α:Type}{l:List α}(h:l.length=1):∃a0,l=[a0]:=by
 cases l with
 |nil=>cases h
 |cons x r=>
  obtain rfl:=len0 (Nat.succ.inj h);exact⟨x,rfl⟩
theorem len2{α:Type}{l:List α}(h:l.length=2):∃a0 a1,l=[a0,a1]:=by
 cases l with
 |nil=>cases h
 |cons x r=>
  obtain⟨a1,rfl⟩:=len1 (Nat.succ.inj h);exact⟨x,a1,rfl⟩
theorem len3{α:Type}{l:List α}(h:l.length=3):∃a0 a1 a2,l=[a0,a1,a2]:=by
 cases l with
 |nil=>cases h
 |cons x r=>
  obtain⟨a1,a2,rfl⟩:=len2 (Nat.succ.inj h);exact⟨x,a1,a2,rfl⟩
end L2
namespace L2
open PySem PySem.Spec PyProof.Rows
section
def tR:List XV->Sto->RX->Prop:=fun xs S R=>arg1 xs fun x=>∃ns:List Int,x=.d (.tuple (ns.map dq))/\ns.length<=10000000/\∀ms:List Int,ms.Perm ns->ms.Pairwise (· <= ·)->R (.d (.list (ms.map dq))) S
end
end L2
namespace L2
open PySem PySem.Spec PySem.Calls PyProof.Rows
open Sem (wp)
abbrev IsZipO (h:Heap) (z p r a:Addr) (f:Bool):Prop:=
 h.get? z=some { cls:=.type "zip",dict:=none,data:=.fields #[ml a,.bool f,.bool false,.ref p,.ref r],slots:=#[] }
section
variable {prog:df}{w:gg}{A:fm}{E:bb->bf->Prop}{s:bf}
theorem Dm{t u:Bool}{z p r i j a b a0:Addr}{f:Bool}{oa:Obj}{k m:Nat}{xs ys:Array bb}{Q:PySem.Fin->bf->Prop}(D:ZAp z p r i j a b)(hz:IsZipO s.heap z p r a0 f)(h0:s.heap.get? a0=some oa)(n0:a0≠z)(hp:nq s.heap p (.ref i) (.ref j))
  (hi:ItK t s.heap i a k) (hj:ItK u s.heap j b m) (ha:SqK t s.heap a xs) (hb:SqK u s.heap b ys)
  (hQ:∀x y,xs[k]?=some x->ys[m]?=some y->∀g,IsZipO g z p r a0 true->ItK t g i a (k+1)->ItK u g j b (m+1)->nq g s.heap.objs.size x y ->
   (∀q o,q≠z->q≠i->q≠j->s.heap.get? q=some o->g.get? q=some o)->Q (.done (.ret (.ref s.heap.objs.size))) { s with heap:=g })
  (hE:xs[k]?=none\/ys[m]?=none->A.handled=none/\∀g e,(∀q o,q≠z->q≠i->q≠j->s.heap.get? q=some o->g.get? q=some o)->(∃o,g.get? e=some o/\o.cls=.type "StopIteration")->E (.ref e) { s with heap:=g }):
  bq (model prog w) A (lz.«zip.__next__» ⟨[.ref z],[]⟩) Q E s:=by
 obtain⟨aa,gs,dr,tk,os⟩:=s;show bq _ _ (field (.ref z) 2 >>= _) _ _ ⟨aa,gs,dr,tk,os⟩;refine bc (fw hz rfl (x:=.bool false) rfl ?_);show bq _ _ (field (.ref z) 3 >>= _) _ _ ⟨aa,gs,dr,tk,os⟩;refine bc (fw hz rfl (x:=.ref p) rfl (bc (lh hp rfl ?_)));show bq _ _ (gq (.ref z) >>= _) _ _ ⟨aa,gs,dr,tk,os⟩;refine bc ?_;unfold gq;refine bc (fw hz rfl (x:=ml a0) rfl ?_);show bq _ _ (loadIfAlive ((a0:Int).toNat) >>= _) _ _ _;rw[oy];refine bc (W.kdx_alive h0 ?_);simp only[Option.isNone_some,kr,if_false];refine bc (fw hz rfl (x:=.bool f) rfl ?_);have fin:∀g1:Heap,IsZipO g1 z p r a0 true->fj z aa g1->∀{M:Sem PySem.Fin},(∃(F:bb->Option PySem.Fin×Array bb->Sem (ForInStep (Option PySem.Fin×Array bb))) (G:Option PySem.Fin×Array bb->Sem PySem.Fin),M=(forIn (#[.ref i,.ref j]:Array bb) (none,#[]) F >>= G) /\
   (∀(it:bb) (acc:Array bb) (R:ForInStep (Option PySem.Fin×Array bb)->bf->Prop) (s1:bf),bq (model prog w) A (fb it) (fun v s2=>R (.yield (none,acc.push v)) s2) E s1->bq (model prog w) A (F it (none,acc)) R E s1) /\
   (∀acc,G (none,acc)=(newTuple acc.toList >>= fun v=>ret v)))->bq (model prog w) A M Q E ⟨g1,gs,dr,tk,os⟩:=fun g1 z1 b1 M ⟨F,G,e,hF,hG⟩=>by
  rw[e];refine bc ?_;rw[show (#[.ref i,.ref j]:Array bb)=[.ref i,.ref j].toArray from rfl,List.forIn_toArray];simp only[forIn_cons,forIn_nil];refine bc (hF _ _ _ _ ?_);have i1:=hi.at (g:=g1) fun o e=>b1.extBut i o D.iz e;have a1:=ha.at (g:=g1) fun o e=>b1.extBut a o D.az e;cases hx:xs[k]? with
  |none=>
   refine tZ (s:=⟨g1,gs,dr,tk,os⟩) (hE (.inl hx)).1 i1 a1 hx fun g2 e b2 he=>?_;exact(hE (.inl hx)).2 g2 e (fun q o n1 n2 _ e=>b2 q o n2 (b1.extBut q o n1 e)) he
  |some x=>
   refine oJ (s:=⟨g1,gs,dr,tk,os⟩) i1 a1 hx fun g2 i2 b2=>?_;replace b2:fj i g1 g2:=b2;refine bc (hF _ _ _ _ ?_);have k2:∀q o,q≠z->q≠i->aa.get? q=some o->g2.get? q=some o:=fun q o n1 n2 e=>b2.extBut q o n2 (b1.extBut q o n1 e);have j2:=hj.at (g:=g2) fun o e=>k2 j o D.jz (gj D.ij) e;have c2:=hb.at (g:=g2) fun o e=>k2 b o D.bz D.bi e;cases hy:ys[m]? with
   |none=>
    refine tZ (s:=⟨g2,gs,dr,tk,os⟩) (hE (.inr hy)).1 j2 c2 hy fun g3 e b3 he=>?_;exact(hE (.inr hy)).2 g3 e (fun q o n1 n2 n3 e=>b3 q o n3 (k2 q o n1 n2 e)) he
   |some y=>
    refine oJ (s:=⟨g2,gs,dr,tk,os⟩) j2 c2 hy fun g3 j3 b3=>?_;replace b3:fj j g2 g3:=b3;refine bp ?_;rw[hG];refine bc (wpAny_newTuple (bp ?_) (by show 2<=bw;decide));have sz:g3.objs.size=aa.objs.size:=by rw[b3.1,b2.1,b1.1]
    have k3:∀q o,q≠z->q≠i->q≠j->aa.get? q=some o->g3.get? q=some o:=fun q o n1 n2 n3 e=>b3.extBut q o n3 (k2 q o n1 n2 e);have z3:IsZipO g3 z p r a0 true:=b3.extBut z _ (gj D.jz) (b2.extBut z _ (gj D.iz) z1);have i3:ItK t g3 i a (k+1):=ItK.at i2 fun o e=>b3.extBut i o D.ij e;show Q (.done (.ret (.ref g3.objs.size))) _;have nw:=cv g3 (o:={ cls:=.type "tuple",data:=.seq #[x,y] }) rfl;rw[sz]at nw ⊢;exact hQ x y hx hy (g3.push { cls:=.type "tuple",data:=.seq #[x,y] }) (bn _ z3) (i3.at fun o e=>bn _ e) (ItK.at j3 fun o e=>bn _ e) nw fun q o n1 n2 n3 e=>bn _ (k3 q o n1 n2 n3 e)
 cases f with
 |true=>
  rw[cb (show ¬((lc true != lc true)=true)from jo)];refine bp ?_;simp only[kr,if_false];refine fin aa hz (Heap.SameBut.refl _ _) ⟨_,_,rfl,fun it acc R s1 h=>?_,fun acc=>rfl⟩;refine bc (kh ?_);show bq _ _ (fb it >>= _) _ _ _;exact bc (ix h (fun v s2 q=>bp (bp q)) fun _ _ z=>z)
 |false=>
  rw[cm (show (lc false != lc true)=true from rfl)];refine bc (iy hz yv fun g1 z1 b1=>?_);refine bp ?_;simp only[kr,if_false];refine fin g1 z1 b1 ⟨_,_,rfl,fun it acc R s1 h=>?_,fun acc=>rfl⟩;refine bc (kh ?_);show bq _ _ (fb it >>= _) _ _ _;exact bc (ix h (fun v s2 q=>bp (bp q)) fun _ _ z=>z)
structure ZS(h:Heap)(t u:Bool)(z p r i j a b:Addr)(xs ys:Array bb)(k:Nat):Prop where
 z:IsZip h z p r .none\/∃a0 f oa,IsZipO h z p r a0 f/\h.get? a0=some oa/\a0≠z/\a0≠r/\a0≠i/\a0≠j
 p:nq h p (.ref i) (.ref j)
 r:∃c d,nq h r c d
 i:ItK t h i a k
 j:ItK u h j b k
 a:SqK t h a xs
 b:SqK u h b ys
theorem ZS.ty{t u:Bool}{z p r i j a b:Addr}{xs ys:Array bb}{k:Nat}(Z:ZS s.heap t u z p r i j a b xs ys k):s.TypeIs (.ref z) "zip":=by
 rcases Z.z with q|⟨_,_,_,q,_⟩
 ·exact⟨_,q,rfl⟩
 ·exact⟨_,q,rfl⟩
theorem ZS.keep{h h':Heap}{t u:Bool}{z p r i j a b:Addr}{xs ys:Array bb}{k:Nat}(Z:ZS h t u z p r i j a b xs ys k)(S:Addr)(hS:S≠z/\S≠p/\S≠r/\S≠i/\S≠j/\S≠a/\S≠b)(f:∀q o,q≠S->h.get? q=some o->h'.get? q=some o)(f0:∀o,h.get? S=some o->∃o',h'.get? S=some o'):ZS h' t u z p r i j a b xs ys k:=by
 obtain⟨s1,s2,s3,s4,s5,s6,s7⟩:=hS;refine⟨?_,f _ _ s2.symm Z.p,let ⟨c,d,q⟩:=Z.r;⟨c,d,f _ _ s3.symm q⟩,Z.i.at fun o e=>f _ _ s4.symm e,Z.j.at fun o e=>f _ _ s5.symm e,Z.a.at fun o e=>f _ _ s6.symm e,Z.b.at fun o e=>f _ _ s7.symm e⟩;rcases Z.z with q|⟨a0,g,oa,q,e,n⟩
 ·exact .inl (f _ _ s1.symm q)
 ·by_cases w:a0=S
  ·obtain⟨o',e'⟩:=f0 oa (by rw[<- w];exact e);exact .inr ⟨a0,g,o',f _ _ s1.symm q,by rw[w];exact e',n⟩
  ·exact .inr ⟨a0,g,oa,f _ _ s1.symm q,f _ _ w e,n⟩
theorem K2{t u:Bool}{z p r i j a b:Addr}{k:Nat}{xs ys:Array bb}{x y:bb}{Q:Option bb->bf->Prop}(D:ZAp z p r i j a b)(Z:ZS s.heap t u z p r i j a b xs ys k)(hx:xs[k]?=some x)(hy:ys[k]?=some y)
  (hQ:∀g,ZS g t u z p r i j a b xs ys (k+1)->nq g s.heap.objs.size x y->(∀q o,q≠z->q≠r->q≠i->q≠j->s.heap.get? q=some o->g.get? q=some o)->Q (some (.ref s.heap.objs.size)) { s with heap:=g }):
  bq (model prog w) A (pyNext (.ref z)) Q E s:=by
 obtain⟨c,d,hr⟩:=Z.r;obtain⟨oi,ei,_⟩:=Z.i.here;obtain⟨oj,ej,_⟩:=Z.j.here;obtain⟨oz,ez,_⟩:=Z.ty;have lt:∀{q o},s.heap.get? q=some o->s.heap.objs.size≠q:=fun e=>qg (fi e);have go:∀g,(∃a0 f oa,IsZipO g z p r a0 f/\g.get? a0=some oa/\a0≠z/\a0≠r/\a0≠i/\a0≠j)->(∃c d,nq g r c d)->ItK t g i a (k+1)->ItK u g j b (k+1)->nq g s.heap.objs.size x y->(∀q o,q≠z->q≠r->q≠i->q≠j->s.heap.get? q=some o->g.get? q=some o)->Q (some (.ref s.heap.objs.size)) { s with heap:=g }:=fun g q1 q2 q3 q4 q5 kk=>
  hQ g ⟨.inr q1,kk p _ D.pz D.pr D.pi D.pj Z.p,q2,q3,q4,Z.a.at fun o e=>kk a o D.az D.ar D.ai D.aj e,Z.b.at fun o e=>kk b o D.bz D.br D.bi D.bj e⟩ q5 kk
 unfold pyNext;refine bc (wpAny_attempt (jx (name:=dw "__next__") Z.ty F.slot_zip_next (lx F.slot_zip_next Z.ty F.entry_zip_next ?_ (F.args_zip_next_1 _))));rcases Z.z with q|⟨a0,f,oa,q,e,n1,n2,n3,n4⟩
 ·refine JQ D q Z.p hr Z.i Z.j Z.a Z.b hx hy fun g a1 a2 a3 a4 a5 kk=>bp ?_;exact go g ⟨_,false,_,a1,a5,lt q,lt hr,lt ei,lt ej⟩ ⟨_,_,a2⟩ a3 a4 a5 kk
 ·refine Dm D q e n1 Z.p Z.i Z.j Z.a Z.b (fun x1 y1 ex ey g a1 a3 a4 a5 kk=>⟨_,rfl,bp ?_⟩) fun w=>absurd w (by simp[hx,hy]);cases hx.symm.trans ex;cases hy.symm.trans ey;exact go g ⟨a0,true,oa,a1,kk a0 oa n1 n3 n4 e,n1,n2,n3,n4⟩ ⟨c,d,kk r _ D.rz D.ri D.rj hr⟩ a3 a4 a5 fun q o w1 _ w3 w4 e=>kk q o w1 w3 w4 e
theorem Hw{t u:Bool}{z p r i j a b:Addr}{k:Nat}{xs ys:Array bb}{Q:Option bb->bf->Prop}(hh:A.handled=none)(D:ZAp z p r i j a b)(Z:ZS s.heap t u z p r i j a b xs ys k)(aa:xs[k]?=none\/ys[k]?=none)
  (hQ:∀g,(∀q o,q≠z->q≠r->q≠i->q≠j->s.heap.get? q=some o->g.get? q=some o)->Q none { s with heap:=g }):
  bq (model prog w) A (pyNext (.ref z)) Q E s:=by
 obtain⟨c,d,hr⟩:=Z.r;unfold pyNext;refine bc (wpAny_attempt (jx (name:=dw "__next__") Z.ty F.slot_zip_next (lx F.slot_zip_next Z.ty F.entry_zip_next ?_ (F.args_zip_next_1 _))));rcases Z.z with q|⟨a0,f,oa,q,e,n1,n2,n3,n4⟩
 ·refine Nk hh D q Z.p hr Z.i Z.j Z.a Z.b aa fun g e kk he=>?_;obtain⟨o,ho,ac⟩:=he;exact bc (wpAny_isInstance (T:="StopIteration") (b:=true) ⟨o,ho,ac⟩ isSubtype_stop (bp (hQ g kk)))
 ·refine Dm D q e n1 Z.p Z.i Z.j Z.a Z.b (fun x y ex ey=>absurd aa (by simp[ex,ey])) fun _=>⟨hh,fun g e kk he=>?_⟩;obtain⟨o,ho,ac⟩:=he;exact bc (wpAny_isInstance (T:="StopIteration") (b:=true) ⟨o,ho,ac⟩ isSubtype_stop (bp (hQ g fun q o w1 _ w3 w4 e=>kk q o w1 w3 w4 e)))
def ZPs(h:Heap)(xs ys:Array bb)(Ts:List Addr)(N0:Nat):Prop:=∀(l:Nat) (T:Addr),Ts[l]?=some T->N0<=T/\∃x y,xs[l]?=some x/\ys[l]?=some y/\nq h T x y
theorem MH{R:Result->bf->Prop}{t u:Bool}{z p r i j a b S:Addr}{xs ys:Array bb}{N0 n:Nat}(hh:A.handled=none)(D:ZAp z p r i j a b)(hS:S≠z/\S≠p/\S≠r/\S≠i/\S≠j/\S≠a/\S≠b)(hn:n=min xs.size ys.size)(hz:n<=bw)
  (l1:z<N0) (l2:r<N0) (l3:i<N0) (l4:j<N0) (l5:S<N0) (res:bb):
  ∀(k m:Nat) (s:bf) (Ts:List Addr) (c:Nat),n-m=k->m<=n->N0<=s.heap.objs.size->ZS s.heap t u z p r i j a b xs ys m->s.heap.get? S=some { cls:=.type "list",dict:=none,data:=.seq (Ts.map bv).toArray c,slots:=#[] }->Ts.length=m->ZPs s.heap xs ys Ts N0->Ts.Nodup ->
  (∀h' Ts' c',(∀q o,q≠z->q≠r->q≠i->q≠j->q≠S->s.heap.get? q=some o->h'.get? q=some o)->h'.get? S=some { cls:=.type "list",dict:=none,data:=.seq (Ts'.map bv).toArray c',slots:=#[] }->Ts'.length=n->ZPs h' xs ys Ts' N0->Ts'.Nodup->R (.ok (.ret res)) { s with heap:=h' }) ->
  codeAny (model prog w) A (.builtin "list.extend.loop" ⟨[.ref S,.ref z,res],[]⟩) R s:=by
 obtain⟨s1,s2,s3,s4,s5,s6,s7⟩:=id hS;have ap:∀{T:Addr},N0<=T->T≠z/\T≠r/\T≠i/\T≠j/\T≠S:=fun {T} h=>⟨qg (fc l1 h),qg (fc l2 h),qg (fc l3 h),qg (fc l4 h),qg (fc l5 h)⟩;have af:∀{h h':Heap}{Ts:List Addr},ZPs h xs ys Ts N0->(∀q o,q≠z->q≠r->q≠i->q≠j->q≠S->h.get? q=some o->h'.get? q=some o)->ZPs h' xs ys Ts N0:=fun {h h' Ts} Z f l T e=>by
  obtain⟨g,x,y,e1,e2,e3⟩:=Z l T e;obtain⟨w1,w2,w3,w4,w5⟩:=ap g;exact⟨g,x,y,e1,e2,f _ _ w1 w2 w3 w4 w5 e3⟩
 intro k;induction k with
 |zero=>
  intro m s Ts c hk hm hN Z hL hl hP hD hR;have e:m=n:=yw
  refine qk F.entry_extend_loop ?_;rw[Around.under_plainId F.plain_extend_loop _];show bq _ A.in1 (pyNext (.ref z) >>= _) _ _ s;refine bc (Hw (A:=A.in1) hh D Z ?_ fun g kk=>?_)
  ·rcases Nat.le_total xs.size ys.size with w|w
   ·exact .inl (by simp;omega)
   ·exact .inr (by simp;omega)
  ·exact bp (hR g Ts c (fun q o w1 w2 w3 w4 _ e=>kk q o w1 w2 w3 w4 e) (kk S _ s1 s3 s4 s5 hL) yw (af hP fun q o w1 w2 w3 w4 _ e=>kk q o w1 w2 w3 w4 e) hD)
 |succ k ih=>
  intro m s Ts c hk hm hN Z hL hl hP hD hR;have hx:xs[m]?=some xs[m]:=Array.getElem?_eq_getElem yw;have hy:ys[m]?=some ys[m]:=Array.getElem?_eq_getElem yw;refine qk F.entry_extend_loop ?_;rw[Around.under_plainId F.plain_extend_loop _];show bq _ A.in1 (pyNext (.ref z) >>= _) _ _ s;refine bc (K2 (A:=A.in1) D Z hx hy fun g Z' pT kk=>?_);have ac:=kk S _ s1 s3 s4 s5 hL;show bq _ A.in1 (updateSeq S (·.push (.ref s.heap.objs.size)) >>= _) _ _ _;refine bc ?_;have aa:∀q o,q≠S->g.get? q=some o->(g.update S (jj (·.push (.ref s.heap.objs.size)))).get? q=some o:=fun q o w e=>(iw _ _ (gj w)).trans e;have up:=je (jj (·.push (bv s.heap.objs.size))) ac rfl;have ea:(Ts.map bv).toArray.push (bv s.heap.objs.size)=((Ts++[s.heap.objs.size]).map bv).toArray:=by simp
  obtain⟨c2,ae⟩:∃c2,(g.update S (jj (·.push (.ref s.heap.objs.size)))).get? S=some { cls:=.type "list",dict:=none,data:=.seq ((Ts++[s.heap.objs.size]).map bv).toArray c2,slots:=#[] }:=by
   rw[<- ea];exact⟨_,up⟩
  have ag:s.heap.objs.size<=g.objs.size:=lg (fi pT);refine wpAny_updateSeq ac rfl (bp ⟨plainId_quiet F.plain_extend_loop _,ih (m+1) { s with heap:=g.update S (jj (·.push (.ref s.heap.objs.size))) } (Ts++[s.heap.objs.size]) c2 yw yw ?_ (Z'.keep S hS (fun q o w e=>aa q o w e) fun o e=>⟨_,up⟩) ae (by simp[hl]) (fun l T e=>?_) (nL hD fun hm=>?_) fun h' Ts' c' f1 f2 f3 f4 f5=>?_⟩)
   (by simp[hl];omega) (by simp[hl];omega)
  ·show N0<=(g.update S _).objs.size;rw[tq];omega
  ·rcases Nat.lt_or_ge l Ts.length with w|w
   ·rw[fq w]at e;obtain⟨g1,x,y,e1,e2,e3⟩:=hP l T e;obtain⟨w1,w2,w3,w4,w5⟩:=ap g1;exact⟨g1,x,y,e1,e2,aa _ _ w5 (kk _ _ w1 w2 w3 w4 e3)⟩
   ·rw[ls w]at e;have w2:l-Ts.length=0:=by
     rcases Nat.eq_zero_or_pos (l-Ts.length)with w|w
     ·exact w
     ·rw[getElem?_eq_none (by simp;omega)]at e;cases e
    have el:l=m:=yw
    rw[w2]at e;have eT:s.heap.objs.size=T:=by simpa using e
    subst eT;subst el;exact⟨hN,_,_,hx,hy,aa _ _ (ap hN).2.2.2.2 pT⟩
  ·obtain⟨l,e⟩:=List.getElem?_of_mem hm;obtain⟨_,_,_,_,_,e3⟩:=hP l _ e;exact absurd (fi e3) (jw _)
  ·exact hR h' Ts' c' (fun q o w1 w2 w3 w4 w5 e=>f1 q o w1 w2 w3 w4 w5 (aa q o w5 (kk q o w1 w2 w3 w4 e))) f2 f3 f4 f5
theorem II{z:Addr}{Q:Bool->bf->Prop}(hT:s.TypeIs (.ref z) "zip")(h:Q true s):bq (model prog w) A (Builtin.List.listLengthHint (.ref z)) Q E s:=by
 unfold Builtin.List.listLengthHint;refine bc (wpAny_specialOf hT (r:=none) (by rw[typeLookup_type,builtinLookup_eq_fast];kernel_rfl) ?_);refine wpAny_ite_split (fun aa=>absurd aa dz) (fun _=>?_);refine wpAny_ite_split (fun aa=>absurd aa dz) (fun _=>?_);refine bc (wpAny_specialOf hT (r:=none) (by rw[typeLookup_type,builtinLookup_eq_fast];kernel_rfl) ?_);exact bp h
end
theorem Dx:∀(Ts:List Addr),Vals (Ts.map V.ref) (Ts.map bv)
 | []=>.nil
 |T::r=>.cons rfl (Dx r)
theorem FR{α:Type}:∀{zs:List (Addr×α)}{b:Addr}{w:α},zs.lookup b=some w->(b,w)∈zs
 | [],_,_,e=>by cases e
 | (c,v)::r,b,w,e=>by
  rw[ke]at e;by_cases hb:b=c
  ·subst hb;simp at e;subst e;exact cw
  ·rw[show (b==c)=false from by simpa using hb]at e;exact cn _ (FR e)
theorem Ey{α:Type}:∀{Ts:List Addr}{ws:List α}{m:Nat}{T:Addr}{w:α},Ts.Nodup->Ts[m]?=some T->ws[m]?=some w->(Ts.zip ws).lookup T=some w
 | [],_,_,_,_,_,e,_=>by simp at e
 |_::_,[],_,_,_,_,_,e=>by simp at e
 |T0::Ts,w0::ws,0,T,w,_,e1,e2=>by
  simp at e1 e2;subst e1 e2;simp[ke]
 |T0::Ts,w0::ws,m+1,T,w,nd,e1,e2=>by
  rw[nodup_cons]at nd;have aa:Ts[m]?=some T:=by simpa using e1
  have ne:T≠T0:=fun z=>nd.1 (by rw[<- z];exact dh aa);rw[List.zip_cons_cons,ke,show (T==T0)=false from by simpa using ne];exact Ey nd.2 aa (by simpa using e2)
def uJ(a:DA):DE:=fun δ S R=>a δ S fun xs S1=>arg2 xs fun x y=>∃ds,dY x=some ds/\∃es,dY y=some es/\min ds.length es.length<=1000/\R (.d (.list (jX ds es))) S1
theorem BL{H H':Hp}(gr:Same H H'):∀{ds es:List bg}{xs ys:List V}{Ts:List Addr},HasL H ds xs->HasL H es ys->Ts.length=min xs.length ys.length->(∀(m:Nat) (T:Addr),Ts[m]?=some T->∃x y,xs[m]?=some x/\ys[m]?=some y/\H' T=some (.tup [x,y]))->HasL H' (jX ds es) (Ts.map V.ref)
 | [],es,xs,ys,Ts,h1,h2,hl,_=>by
  have e:=zE.mp h1;subst e;have:Ts=[]:=gm (by simpa using hl);subst this;exact zE.mpr rfl
 |d::ds,[],xs,ys,Ts,h1,h2,hl,_=>by
  have e:=zE.mp h2;subst e;have:Ts=[]:=gm (by simpa using hl);subst this;exact zE.mpr rfl
 |d::ds,e::es,xs,ys,Ts,h1,h2,hl,hT=>by
  obtain⟨v,r,rfl,q1,l1⟩:=zu.mp h1;obtain⟨u,r2,rfl,q2,l2⟩:=zu.mp h2;cases Ts with
  |nil=>simp at hl
  |cons T Ts=>
   obtain⟨x,y,e1,e2,e3⟩:=hT 0 T rfl;cases e1;cases e2;refine zu.mpr ⟨_,_,rfl,dG.mpr ⟨T,_,rfl,e3,zu.mpr ⟨_,_,rfl,Has.mono gr _ _ q1,zu.mpr ⟨_,_,rfl,Has.mono gr _ _ q2,zE.mpr rfl⟩⟩⟩,?_⟩;exact BL gr l1 l2 (by simp only[cz]at hl;omega) fun m T' eT=>by
    obtain⟨x,y,e1,e2,e3⟩:=hT (m+1) T' (by simpa using eT);exact⟨x,y,by simpa using e1,by simpa using e2,e3⟩
end L2
namespace L2
open PySem PySem.Spec PyProof.Rows
section
section
variable {Φ:Phi} [Stb Φ] {ta tb te:TE}{da db de:DE}
theorem G0{caps:List (Option Nat)}{wi:TI}{g:TG}{tt:TT}{te:TE}{di:DI}{dg:DG}{dtt:DT}{dte:DE}(hi:RIp Φ wi di)(hg:RG g dg)(ht:RTp Φ tt dtt)(aj:REp Φ te dte)
  {h o:List Addr}{H:Hp}{δ:XE}{σ:St}{S:Sto}{Q:VK}{fin:Nat->Sto->Prop} (w:Φ h o H) (he:RepE h o H δ σ) (hs:RepS h o H S) (q:di δ S fun ds S1=>bC S1.length dg dtt dte (fin S1.length) ds (gM caps δ) (S1++[[]]))
  (c:∀o1 H1 D o2 H2 S2,Ex o H o1 H1->H1 D=none->Ex (o1++[D]) (upd H1 D (.lst [])) o2 H2->RepS h o2 H2 S2->fin o1.length S2->Q (.ref D) H2):kU caps wi g tt te σ H Q:=by
 refine hi h o H δ σ S _ _ he hs q (fun o1 H1 S1 ds J e1 s1 wk d1 D hD=>?_) w;have eN:Ex o1 H1 (o1++[D]) (upd H1 D (.lst [])):=Ex.new s1 hD;have sN:RepS h (o1++[D]) (upd H1 D (.lst [])) (S1++[[]]):=s1.new hD (zE.mpr rfl);have hn:S1.length=o1.length:=s1.len;refine⟨fun i m τ H2=>m=ds.length-i/\i<=ds.length/\∃o2 δ2 S2,Ex (o1++[D]) (upd H1 D (.lst [])) o2 H2/\RepE h o2 H2 δ2 τ/\RepS h o2 H2 S2/\bC S1.length dg dtt dte (fin S1.length) (ds.drop i) δ2 S2,⟨ds.length,yv,qc _,_,_,_,Ex.refl,((he.mono e1).mono eN).tau,sN,d1⟩,?_⟩;rintro i m τ H2 ⟨rfl,hi,o2,δ2,S2,e2,ai,ae,d2⟩;by_cases hlt:i<ds.length
 ·have ed:ds[i]?=some ds[i]:=dn hlt;rw[jk hlt]at d2;refine .inr ⟨wk.go i _ o2 H2 (eN.trans e2).hid ed,fun x H3 y=>?_⟩;obtain⟨s3,hx⟩:=wk.yld i _ o2 H2 x H3 S2 (eN.trans e2).hid ae ed y;have ac:Ex o2 H2 o2 H3:=Ex.of_same s3;refine hg h o2 H3 δ2 τ S2 (.d ds[i]) x _ _ (ai.mono ac) (ae.same s3) hx d2 fun o4 H4 δ4 S4 τ4 e4 aa ah d4=>?_;refine ht h o4 H4 δ4 τ4 S4 _ _ aa ah d4 (fun o5 H5 S5 b e5 s5 d5=>?_) (Stb.st w (e1.trans (eN.trans ((e2.trans ac).trans e4))));have af:=((e2.trans ac).trans e4).trans e5;cases b with
  |false=>exact gL ⟨ds.length-(i+1),yw,rfl,hlt,o5,δ4,S5,af,aa.mono e5,s5,by simpa using d5⟩
  |true=>
   refine gG (aj h o5 H5 δ4 τ4 S5 _ _ (aa.mono e5) s5 (by simpa using d5) (fun o6 H6 S6 z v e6 s6 z6 d6=>?_) (Stb.st w (e1.trans (eN.trans af))));replace d6:=jW d6;obtain⟨e,rfl,acc,ea,hl,d6⟩:=d6;have ag:=af.trans e6;have eD:o6[S1.length]?=some D:=by
    obtain⟨r,rfl⟩:=ag.pre;rw[hn];exact iU (by rw[ck])
   obtain⟨vs,ev,l⟩:=s6.cont _ D acc eD ea;refine⟨vs,ev,by rw[l.length];exact small1000 (lg hl),ds.length-(i+1),yw,rfl,hlt,o6,δ4,_,ag.trans (Ex.upd eD),((aa.mono e5).mono e6).mono (Ex.upd eD),s6.upd eD (l.append (zu.mpr ⟨v,[],rfl,z6,zE.mpr rfl⟩)),d6⟩
 ·have ei:i=ds.length:=yw
  subst ei;rw[qy]at d2;exact .inl ⟨wk.stop _ o2 H2 (eN.trans e2).hid (fe _),c o1 H1 D o2 H2 S2 e1 hD e2 ae (hn▸d2)⟩
theorem pY{caps:List (Option Nat)}{wi:TI}{g:TG}{tt:TT}{te:TE}{di:DI}{dg:DG}{dtt:DT}{dte:DE}(hi:RIp Φ wi di)(hg:RG g dg)(ht:RTp Φ tt dtt)(ac:REp Φ te dte):REp Φ (kU caps wi g tt te) (cP caps di dg dtt dte):=fun h o H δ σ S R Q he hs q c w=>by
 refine G0 (w:=w) (fin:=fun n S2=>∃(S0:Sto) (acc:List bg),S2=S0++[acc]/\S0.length=n/\R (.d (.list acc)) S0) hi hg ht ac he hs q fun o1 H1 D o2 H2 S2 e1 hD e2 s2 ⟨S0,acc,eS,hl,f⟩=>?_;subst eS;have eN:Ex o1 H1 (o1++[D]) (upd H1 D (.lst [])):=⟨⟨[D],rfl⟩,fun b w hb e=>by
  have ne:b≠D:=zO e hD;exact⟨by simp[hb,ne],by rw[zL ne];exact e⟩⟩
 have aa:=eN.trans e2;obtain⟨r,rfl⟩:=e2.pre;have er:r=[]:=by
  have:=s2.len;simp only[cq,gb,hl]at this;exact gm yw
 subst er;rw[jf]at s2 aa;have s0:RepS h o1 H2 S0:=s2.pop hl;refine c o1 H2 S0 (.d (.list acc)) _ (e1.trans (Ex.pop (o':=o1) aa)) s0 ?_ f;obtain⟨vs,ev,l⟩:=s2.cont o1.length D acc (by rw[ck]) (by rw[<- hl,ck]);have nD:D∉o1:=by
  have:=(nodup_append.mp s2.nd).2.2;intro m;exact this D m D yv rfl
 exact dS.mpr ⟨D,vs,rfl,zU.mpr ⟨s2.dis D yv,nD,ev⟩,l.mono eR⟩
end
end
end L2
namespace L2
open PySem PySem.Spec PyProof.Rows
section
theorem lo{sc:Scope}{x:Str}(h:sc.names.lookup x=some .local:=by rfl):Loc sc x:=ii h
theorem fsd{N P:List Str}{sc:Scope}(h:xQ N P sc=true:=by decide +kernel):FnScope N P sc:=fsc h
theorem Ga{X:Cx}{op:Operator}{r:R2}{a b:Expr}{ta tb:TE}{pos:Pos}(ho:OpR X (lq op) r)(ha:QE X a ta)(hb:QE X b tb):QE X (.BinOp a op b pos) (tOp r ta tb):=QE.mk (zy ho ha.out hb.out)
theorem y6{X:Cx}{i:Nat}{x:Str}{e:Expr}{t:TE}{pos pos':Pos}(hN:X.N.Nodup)(hi:X.N[i]?=some x)(hx:Loc X.env.scope x)(he:QE X e t)(hs:sj e (some (.Name x pos')) pos.line X.env=pure false:=by rfl)(hf:X.fn x=true\/X.env.scope.names.lookup x=some .local:=by first|exact .inl rfl|exact .inr rfl|assumption):
  QS X (.Assign [.Name x pos'] e pos) (iH t (gP i)):=QS.mk (zF hN hi hx he.out hs hf)
end
end L2
namespace L2
open PySem PySem.Spec PyProof.Rows
section
section
variable {prog:df}{w:gg}{A:fm}{E:bb->bf->Prop}{s:bf}
open PySem.W PySem.Builtin PySem.Builtin.Str
theorem Iz{x y:Str}{t u:Tok}{Q:bb->bf->Prop}(hy:(y.length==0)=false)
  (h:∀l k,l.map (·.1)=Txt.split x y->Q (.ref s.heap.objs.size) { s with heap:=s.heap.push { cls:=.type "list",data:=.seq (strValues l).toArray },toks:=k })
  (hsz:x.length+2<=bw):bq (model prog w) A (call (.builtin "str.split") [.str x t,.str y u]) Q E s:=by
 have hn:(partsBetween x (occurrences x y 0 x.length (x.length+1)) y.length).length<=bw:=by
  have e1:=StrLaws.occ_length_le x y 0 x.length (x.length+1);rw[length_partsBetween];omega
 cases h1:(decide (x.length<y.length)||decide (strKind x<strKind y))
 ·cases hf:(occurrences x y 0 x.length (x.length+1)).isEmpty
  ·refine qv F.slot_str_split (typeIs_str _ _ _) F.entry_str_split (F.args_str_split_2 _ _) (meets_str_split_sep x y t u h1 hy hf yw hn) ?_;show wants Q E _ { s with toks:=_,heap:=s.heap.push { cls:=.type "list",data:=.seq (strsFrom s.toks (partsBetween x (occurrences x y 0 x.length (x.length+1)) y.length)).toArray } };rw[strsFrom_eq];exact h (numbered s.toks _) _ ((numbered_texts _ _).trans ((cb (ne_true_of_eq_false h1)).trans (cb (ne_true_of_eq_false hf))).symm)
  ·exact qv F.slot_str_split (typeIs_str _ _ _) F.entry_str_split (F.args_str_split_2 _ _) (meets_str_split_not_found x y t u h1 hy hf)
    (h [(x,t)] s.toks ((cb (ne_true_of_eq_false h1)).trans (cm hf)).symm)
 ·exact qv F.slot_str_split (typeIs_str _ _ _) F.entry_str_split (F.args_str_split_2 _ _) (meets_str_split_cannot_occur x y t u h1)
   (h [(x,t)] s.toks (cm h1).symm)
end
section
variable {X:Cx}
theorem Ep:∀l:List (Str×Tok),Vals ((l.map (·.1)).map V.str) (strValues l)
 | []=>.nil
 |p::l=>.cons ⟨p.2,rfl⟩ (Ep l)
def F1:V->List V->Hp->VK->Prop:=fun x vs H Q=>∃z y,x=.str z/\vs=[.str y]/\Q (.bl (PySem.Txt.startswith z y)) H
theorem JC:MtR X "str.startswith" F1:=by
 intro zg s σ H x vs v us Q I rx rv h;obtain⟨z,y,rfl,rfl,q⟩:=h;obtain⟨t,rfl⟩:=rx;obtain⟨u,rfl,r1⟩:=rv.one;obtain⟨t',rfl⟩:=r1;exact SC.startswith ⟨.bl _,H,I,rfl,q⟩
def DP:V->List V->Hp->VK->Prop:=fun x vs H Q=>∃z y,x=.str z/\vs=[.str y]/\(y.length==0)=false/\z.length+2<=bw/\∀l,H l=none->Q (.ref l) (upd H l (.lst ((PySem.Txt.split z y).map V.str)))
theorem oB:MtR X "str.split" DP:=by
 intro zg s σ H x vs v us Q I rx rv h;obtain⟨z,y,rfl,rfl,hy,hz,q⟩:=h;obtain⟨t,rfl⟩:=rx;obtain⟨u,rfl,r1⟩:=rv.one;obtain⟨t',rfl⟩:=r1;refine Iz hy (fun l k e=>?_) hz;have hs:=I.hok.fresh (fe s.heap.objs.size);refine⟨.ref s.heap.objs.size,_,I.laid (t':=k) (fun _ _ q=>bn _ q) (fe _) (show ObjOk X.prog X.w _ _ s.heap.objs.size (.lst ((PySem.Txt.split z y).map V.str))from⟨?_,strValues l,0,?_,cv _ rfl⟩),rfl,q _ hs⟩
 ·rw[cg];unfold PySem.Txt.split;split
  ·show 1<=_;rw[ig];omega
  ·split
   ·show 1<=_;rw[ig];omega
   ·have e1:=StrLaws.occ_length_le z y 0 z.length (z.length+1);rw[length_partsBetween];omega
 ·rw[<- e];exact Ep l
def F4:List V->Hp->VK->Prop:=fun xs H Q=>∃z n,xs=[.str z]/\z.length<=640/\PySem.intText? z=some n/\Q (.int n) H
end
def mG:XV->List XV->Sto->RX->Prop:=fun x xs S R=>asS x fun z=>arg1 xs fun y=>asS y fun y=>R (.d (.bool (PySem.Txt.startswith z y))) S
theorem OZ:RM F1 mG:=fun h o H S x v xs vs R Q hs hx aa q c=>by
 replace q:=eX q;obtain⟨z,rfl,q⟩:=q;obtain⟨y,rfl,q⟩:=cK q;replace q:=eX q;obtain⟨y,rfl,q⟩:=q;obtain⟨u,rfl,hu⟩:=hxs1 aa;cases cI hu;exact⟨z,y,cI hx,rfl,c o H S _ _ Ex.refl hs (xB _) q⟩
def gA:XV->List XV->Sto->RX->Prop:=fun x xs S R=>asS x fun z=>arg1 xs fun y=>asS y fun y=>(y.length==0)=false/\z.length<=100000/\R (.d (.list ((PySem.Txt.split z y).map be))) S
theorem DX{H:Hp}:∀ns:List Str,HasL H (ns.map be) (ns.map V.str)
 | []=>zE.mpr rfl
 |n::ns=>zu.mpr ⟨_,_,rfl,gD.mpr rfl,DX ns⟩
theorem oO:RM DP gA:=fun h o H S x v xs vs R Q hs hx aa q c=>by
 replace q:=eX q;obtain⟨z,rfl,q⟩:=q;obtain⟨y,rfl,q⟩:=cK q;replace q:=eX q;obtain⟨y,rfl,hy,hz,q⟩:=q;obtain⟨u,rfl,hu⟩:=hxs1 aa;cases cI hu;refine⟨z,y,cI hx,rfl,hy,by rw[ig];omega,fun l hl=>?_⟩;exact lC hs (DX _) c q l hl
section
variable {X:Cx}
theorem Ip:CallR X (.type "int") F4:=by
 intro zg s σ H xs us Q I r h;obtain⟨z,n,rfl,hz,hn,q⟩:=h;obtain⟨u,rfl,r1⟩:=vals1 r;obtain⟨t,rfl⟩:=r1;exact W.KIN.call_text hn hz ⟨.int n,H,I.tok _,⟨_,rfl⟩,q⟩
end
def lU:List XV->Sto->RX->Prop:=fun xs S R=>arg1 xs fun x=>asS x fun z=>∃n,z.length<=640/\PySem.intText? z=some n/\R (.d (.int n)) S
theorem Nl:RC F4 lU:=fun h o H S xs vs R Q hs hx q c=>by
 obtain⟨x,rfl,q⟩:=cK q;replace q:=eX q;obtain⟨z,rfl,n,hz,hn,q⟩:=q;obtain⟨v,rfl,aa⟩:=hxs1 hx;cases cI aa;exact⟨z,n,rfl,hz,hn,c o H S _ _ Ex.refl hs (xI _) q⟩
end
section
section
variable {prog:df}{w:gg}{A:fm}{E:bb->bf->Prop}{s:bf}
theorem Kv{T newId aa:String}{Bn Bi:lz}{args:List bb}{kw:List (Str×bb)}{S:PySem.Spec}{Q Q₁:bb->bf->Prop}(ft:TypeCalled T newId aa)
  (hct:checkTypeCall T ⟨args,kw⟩=pure ()) (hcn:checkBuiltinCall newId ⟨.type T::args,kw⟩=pure ())
  (entryN:entryFor table newId=some Bn) (entryI:entryFor table aa=some Bi) (g:Meets (Bn ⟨.type T::args,kw⟩) S)
  (h:S A.in1 (wants Q₁ E) s)
  (hnext:∀obj s₁,Q₁ obj s₁->s₁.TypeIs obj T/\argsOk aa ⟨obj::args,kw⟩/\∃Si,Meets (Bi ⟨obj::args,kw⟩) Si/\Si A.in1 (wants (fun r s₂=>r=.none/\Q obj s₂) E) s₁):
  bq (model prog w) A (call (.type T) args kw) Q E s:=by
 obtain⟨c,tl,ag⟩:=ft.mro;have af:=ft.made;have ah:=ft.sub;refine si (codeAny_of_tree ?_);show bq _ _ (callAny (.type T) _) _ _ _;refine bp ⟨Code.quiet_builtin _ (by decide +kernel),qk F.entry_type_call ?_⟩;rw[Around.under_plain (weight_type_call_type T args kw) (units_type_call_type T args kw)];have h1:=ft.notType;have h2:=ft.canCreate
 repeat (any_goals (first|assumption|wp_step))
 refine ou (pb ft.plain entryN (wpAny_of_eq hcn (g prog w A.in1 _ s h))) fun r s₁ hr=>?_;cases r with
 |error e=>exact hr
 |ok fl=>
  cases fl with
  |ret obj=>
   obtain⟨hT,hok,Si,gi,ae⟩:=hnext _ _ hr;have ai:=ft.init.lookup;have aj:=ft.init.bind obj
   repeat (any_goals (first|assumption|wp_step))
   refine ou (pb ft.init.plain entryI (ft.init.check _ _ _ _ _ _ _ _ hT hok (gi prog w A.in1 _ s₁ ae))) fun r₂ s₂ ac=>?_;cases r₂ with
   |error e=>exact ac
   |ok fl₂=>
    cases fl₂ with
    |ret r=>
     obtain⟨rfl,hq⟩:=ac
     repeat (any_goals (first|assumption|wp_step))
    |_=>exact ac.elim
  |_=>exact hr.elim
theorem Hj{T newId:String}{self:bb}{rest:List bb}{k:Str}{v:bb}(hl:typeLookup (.type T) "__init__" = pure (some (.builtin "object.__init__")))
  (hm:Bind.madeBy (.type T)=pure (some newId)) (hne:(some newId != some "object.__new__")=true):
  Meets (lz.«object.__init__» ⟨self::rest,[(k,v)]⟩) (fun _ R s=>s.TypeIs self T/\R (.ok (.ret .none)) s):=by
 refine Meets.of_wp fun prog w A R s hs=>?_;obtain⟨hT,hq⟩:=hs;cases rest with
 |nil=>
  repeat (any_goals (first|assumption|wp_step))
  exact⟨_,rfl,hq⟩
 |cons a rest=>
  repeat (any_goals (first|assumption|wp_step))
  exact⟨_,rfl,hq⟩
theorem LA(a:bb)(v:bb):checkTypeCall "enumerate" ⟨[a],[("start",v)]⟩=pure ():=by kernel_rfl
theorem K4(a:bb)(v:bb):checkBuiltinCall "enumerate.__new__" ⟨[.type "enumerate",a],[("start",v)]⟩=pure ():=by kernel_rfl
theorem Mi(ob a v:bb):argsOk "object.__init__" ⟨[ob,a],[("start",v)]⟩:=by kernel_rfl
theorem JR(l:Addr)(aa:Array bb)(n:Nat)(ae:Option Addr)(sl:Array (Option bb))(ac:Tok):
  Meets (lz.«enumerate.__new__» ⟨[.type "enumerate",.ref l],[("start",.int 1 ac)]⟩) (fun _ R s=>s.heap.get? l=some { cls:=.type "list",dict:=ae,data:=.seq aa n,slots:=sl } /\
   R (.ok (.ret (.ref (s.heap.push { cls:=.type "list_iterator",data:=.fields #[.ref l,.int 0 0] }).objs.size)))
    { s with heap:=(s.heap.push { cls:=.type "list_iterator",data:=.fields #[.ref l,.int 0 0] }).push { cls:=.type "enumerate",data:=.fields #[.none,.bool false,.ref s.heap.objs.size,ml 1,.none,.none] } }):=
 .of_wp fun prog w A R s h=>by
  obtain⟨hp,g,d,tk,os⟩:=s;obtain⟨hl,h⟩:=h;have af:=sub_enumerate;have hL:Heap.IsList (Shared.heap ⟨hp,g,d,tk,os⟩) l aa:=⟨_,hl,rfl,n,rfl⟩
  wp_walk using oo hl
  refine wpAny_stack_any fun st=>bp ?_;split
  ·rename_i c _ _ _ _ _;cases (c==og "enumerate")
   ·wp_walk using oo hl,my hL
    all_goals exact⟨_,rfl,h⟩
   ·wp_walk using oo hl,my hL
    all_goals exact⟨_,rfl,h⟩
  ·wp_walk using oo hl,my hL
   all_goals exact⟨_,rfl,h⟩
theorem Ir{l:Addr}{aa:Array bb}{ac:Tok}{Q:bb->bf->Prop}(hL:s.heap.IsList l aa)
  (hyp:∀g,IsEnum g (s.heap.objs.size+1) s.heap.objs.size 1 .none->g.IsListIter s.heap.objs.size l 0->(∀b o,s.heap.get? b=some o->g.get? b=some o)->Q (.ref (s.heap.objs.size+1)) { s with heap:=g }):bq (model prog w) A (call (.type "enumerate") [.ref l] [("start",.int 1 ac)]) Q E s:=by
 obtain⟨⟨c,ae,dt,sl⟩,ht,hc,n,hd⟩:=hL;replace hc:c=.type "list":=hc;replace hd:dt=.seq aa n:=hd;subst hc hd;have sz:(s.heap.push { cls:=.type "list_iterator",data:=.fields #[.ref l,.int 0 0] }).objs.size=s.heap.objs.size+1:=su ..;have he:=cv (s.heap.push { cls:=.type "list_iterator",data:=.fields #[.ref l,.int 0 0] }) (o:={ cls:=.type "enumerate",data:=.fields #[.none,.bool false,.ref s.heap.objs.size,ml 1,.none,.none] }) rfl;refine Kv (Q₁:=fun ob s₁=>s₁.TypeIs ob "enumerate"/\Q ob s₁) F.called_enumerate (LA _ _) (K4 _ _) F.entry_enumerate_new F.entry_object_init (JR l aa n ae sl ac) ⟨ht,?_⟩ fun ob s₁ q=>⟨q.1,Mi _ _ _,_,Hj F.called_enumerate.init.lookup F.called_enumerate.made dz,q.1,rfl,q.2⟩;show _/\_;rw[sz]at he ⊢;exact⟨⟨_,he,rfl⟩,hyp _ he ⟨_,bn _ (cv _ rfl),rfl,rfl⟩ fun b o q=>bn _ (bn _ q)⟩
end
section
variable {M:Model}{A:fm}{E:bb->bf->Prop}{s:bf}{env:Env}
theorem IX{pos:Pos}{T:String}{first:List bb}{args:List (Bool×Sem bb)}{aa:List (Option Str×Sem bb)}{Q:bb->bf->Prop}
  (hplain:args.any (·.1)=false) (hkw:aa.any (·.1.isNone)=false)
  (h:bq M A (evalArgs (.type T) true args aa) (fun a s₁=>bq M A (call (.type T) (first++a.pos) a.kw) Q E s₁) E s):
  bq M A (callWith pos (.type T) first args aa) Q E s:=by
 unfold callWith;refine bc (kh (thn h fun a s₁ h₁=>bc (ly ?_)));simp only[hplain,hkw,rl];refine bc (bp ?_);exact bc (thn h₁ fun r s₂ hr=>bc (kh (wpAny_point (bp hr))))
theorem NW{pos:Pos}{T:String}{e:Expr}{rest:List Expr}{aa:List Keyword}{Q:bb->bf->Prop}
  (h:bq M A (spliced (kl pos (cu (e::rest) env))) (fun vs s₁=>bq M A (evalAll ((backToKw pos (qu aa env)).map (·.2)))
   (fun ac s₂=>bq M A (call (.type T) vs (((backToKw pos (qu aa env)).filterMap (·.1)).zip ac)) Q E s₂) E s₁) E s)
  (he:kl pos (cu (e::rest) env)=(false,eval e env)::kl pos (cu rest env))
  (hplain:(kl pos (cu (e::rest) env)).any (·.1)=false)
  (hall:(backToKw pos (qu aa env)).all (·.1.isSome)=true)
  (hkw:(backToKw pos (qu aa env)).any (·.1.isNone)=false):
  bq M A (callWith pos (.type T) [] (kl pos (cu (e::rest) env)) (backToKw pos (qu aa env))) Q E s:=by
 refine IX hplain hkw ?_;rw[he]at h ⊢;exact PyProof.Rows.evalArgs_kwB hall h
end
section
variable {X:Cx}{elts:List Expr}{n:Nat}{tpos:Pos}
def nH(a:DA):DI:=fun δ S R=>a δ S fun xs S1=>arg1 xs fun x=>∃ds,x=.d (.list ds)/\R (iI 1 ds) S1
end
end
section
def evens{α:Type}:List α->List α
 | []=>[]
 | [a]=>[a]
 |a::_::r=>a::evens r
theorem GW{α:Type}:∀(l:List α) (k:Nat),(evens l)[k]?=l[2*k]?
 | [],k=>by simp[evens]
 | [a],0=>rfl
 | [a],k+1=>by simp[evens]
 |a::b::r,0=>rfl
 |a::b::r,k+1=>by
  show (a::evens r)[k+1]?=_;rw[show 2*(k+1)=2*k+1+1 from by omega,ku,ku,ku];exact GW r k
theorem Fu{α:Type}(h:Nat->Option α):∀(c:Nat),(∀j,j<c->∃v,h j=some v)->∀j,((iq c).filterMap h)[j]?=if j<c then h j else none
 | 0,_,j=>by simp
 |c+1,hs,j=>by
  obtain⟨v,e⟩:=hs c (lt_succ_self _);have ih:=Fu h c (fun j q=>hs j (qo q));have hl:((iq c).filterMap h).length=c:=by
   have e0:=ih c;rw[cb (jw _)]at e0;have l1:=List.getElem?_eq_none_iff.mp e0;cases c with
   |zero=>simp
   |succ c=>
    have e1:=ih c;obtain⟨v',e'⟩:=hs c yw;rw[cm (lt_succ_self _),e']at e1;have l2:=(List.getElem?_eq_some_iff.mp e1).1;omega
  rw[List.range_succ,List.filterMap_append];simp only[filterMap_cons,List.filterMap_nil,e];rcases Nat.lt_trichotomy j c with q|q|q
  ·rw[fq yw,ih j,cm q,cm yw]
  ·subst q;rw[ls yw,hl,Nat.sub_self,cm (lt_succ_self _),e];rfl
  ·rw[ls yw,cb yw];exact getElem?_eq_none (by simp;omega)
theorem pick2(aa:Array bb)(k:Nat):slicePick aa (some (k:Int)) none (some 2)=(evens (aa.toList.drop k)).toArray:=by
 unfold slicePick;have e1:px (some (k:Int)) none (some 2) aa.size=(((min k aa.size:Nat):Int),(aa.size:Int),2):=by
  unfold px;have hk:¬((k:Int)<0):=yw
  simp only[Option.getD_some,hk,if_false,show ((2:Int)>0)from by decide,if_true];congr 1;omega
 rw[e1];congr 1;have e2:sliceRange ((min k aa.size:Nat):Int) (aa.size:Int) 2=(iq ((aa.size-k+1)/2)).map fun j:Nat=>min k aa.size+2*j:=by
  unfold sliceRange;simp only[show ((2:Int)>0)from by decide,if_true];have e3:(if ((min k aa.size:Nat):Int)<(aa.size:Int)then ((aa.size:Int)-((min k aa.size:Nat):Int)+2-1)/2 else 0).toNat=(aa.size-k+1)/2:=by
   split<;>omega
  rw[e3];refine List.map_congr_left fun j _=>?_;omega
 rw[e2,List.filterMap_map];refine List.ext_getElem? fun j=>?_;rw[Fu _ _ fun j q=>?_,GW,List.getElem?_drop]
 ·split
  ·show aa[min k aa.size+2*j]?=_;rw[show min k aa.size=k from by omega];simp
  ·rw[getElem?_eq_none (by simp;omega)]
 ·exact⟨_,Array.getElem?_eq_getElem (show min k aa.size+2*j<aa.size by omega)⟩
theorem D6{α:Type}:∀(l:List α),(evens l).length<=l.length
 | []=>fe _
 | [_]=>fe _
 |a::b::r=>by
  have:=D6 r;show (evens r).length+1<=r.length+2;omega
theorem Vals.evens{xs:List V}{us:List bb}:Vals xs us->Vals (evens xs) (evens us):=by
 have go:∀(n:Nat) {xs:List V}{us:List bb},xs.length<=n->Vals xs us->Vals (L2.evens xs) (L2.evens us):=by
  intro n;induction n with
  |zero=>
   intro xs us h r;cases r with
   |nil=>exact .nil
   |cons _ _=>simp at h
  |succ n ih=>
   intro xs us h r;cases r with
   |nil=>exact .nil
   |cons a r=>
    cases r with
    |nil=>exact .cons a .nil
    |cons b r=>exact .cons a (ih (by simp at h;omega) r)
 exact go _ (fe _)
section
variable {X:Cx}{e el ek:Expr}{te tl tk:TE}{pos p2:Pos}
def Eg(K:bt)(te tl tk:TE):TE:=fun σ H Q=>te σ H fun x H1=>tl σ H1 fun z H2=>tk σ H2 fun y H3=>y=.int 2/\∃(k:Nat) (a:Addr) (xs:List V),z=.int k/\x=.ref a/\SqL K H3 a xs/\∀p,H3 p=none->Q (.ref p) (upd H3 p (.lst (evens (xs.drop k))))
theorem Fy(he:PE X e te)(hl:PE X el tl)(hk:PE X ek tk):PE X (.Subscript e (.Slice (some el) none (some ek) p2) pos) (Eg X.K te tl tk):=by
 intro zg s σ H Q I h;refine Subscript_ (thn (he zg s σ H _ I h) fun v s1 ⟨x,H1,I1,r1,q1⟩=>?_);refine wpAny_Slice ?_;rw[evalPart_some];refine thn (hl zg s1 σ H1 _ I1 q1) fun vl s2 ⟨z,H2,I2,rz,q2⟩=>?_;refine bp ?_;rw[evalPart_some];refine thn (hk zg s2 σ H2 _ I2 q2) fun vk s3 ⟨y,H3,I3,ry,q3⟩=>?_;obtain⟨rfl,k,a,xs,rfl,rfl,hx,q⟩:=q3;obtain⟨t,rfl⟩:=ry;obtain⟨t',rfl⟩:=rz;cases r1;have I4:Inv X zg σ H3 { s3 with heap:=s3.heap.push { cls:=.type "slice",data:=.fields #[.int k t',.none,.int 2 t] } }:=I3.kept (t':=s3.toks) fun b ob q=>bn _ q;obtain⟨ae,r,ht,hz⟩:=I4.list hx;have ac:=r.length;show bq (model X.prog X.w) X.A (subscriptTail e (.Slice (some el) none (some ek) p2) (.ref a) (.ref s3.heap.objs.size)) (EP X zg σ Q) X.xe { s3 with heap:=s3.heap.push { cls:=.type "slice",data:=.fields #[.int k t',.none,.int 2 t] } };refine tail_any (ops:=[.ref a,.ref s3.heap.objs.size]) ht.isList.typeIs slot_list_getitem.lookup ?_ (by with_unfolding_all rfl);refine wpAny_getItem_list_slice ht.isList (Heap.IsSliceOf.new ..) (.int k t') .none (.int 2 t) dz ?_ (by rw[fy]<;>omega);rw[pick2];have aa:=D6 (xs.drop k);rw[iu]at aa;refine⟨.ref _,_,I4.laid (t':=s3.toks) (o:=.lst (evens (xs.drop k))) (fun b ob q=>bn _ q) (fe _) ?_,rfl,q _ (I4.hok.fresh (fe _))⟩;exact⟨yw,_,0,(r.drop k).evens,cv _ rfl⟩
end
def jI(e l k:DE):DE:=fun δ S R=>e δ S fun x S1=>l δ S1 fun z S2=>k δ S2 fun y S3=>y=.d (.int 2)/\∃(i:Nat) (ds:List bg),z=.d (.int i)/\eJ S3 x=some ds/\R (.d (.list (evens (ds.drop i)))) S3
theorem HasL.evens{H:Hp}{ds:List bg}{vs:List V}:HasL H ds vs->HasL H (evens ds) (evens vs):=by
 have go:∀(n:Nat) {ds:List bg}{vs:List V},ds.length<=n->HasL H ds vs->HasL H (L2.evens ds) (L2.evens vs):=by
  intro n;induction n with
  |zero=>
   intro ds vs h l;have e:=gm (Nat.le_zero.mp h);subst e;rw[zE.mp l];exact zE.mpr rfl
  |succ n ih=>
   intro ds vs h l
   match ds,h,l with
   | [],h,l=>rw[zE.mp l];exact zE.mpr rfl
   | [d],h,l=>
    obtain⟨v,r,rfl,h1,l2⟩:=zu.mp l;rw[zE.mp l2];exact zu.mpr ⟨_,_,rfl,h1,zE.mpr rfl⟩
   |d::d'::ds,h,l=>
    obtain⟨v,r,rfl,h1,l2⟩:=zu.mp l;obtain⟨v',r',rfl,h2,l3⟩:=zu.mp l2;exact zu.mpr ⟨_,_,rfl,h1,ih (by simp at h;omega) l3⟩
 exact go _ (fe _)
theorem G1{K:bt}{te tl tk:TE}{de dl dk:DE}(ac:RE te de)(aa:RE tl dl)(ae:RE tk dk):RE (Eg K te tl tk) (jI de dl dk):=fun h o H δ σ S R Q he hs q c=>
 ac h o H δ σ S _ _ he hs q fun o1 H1 S1 x v e1 s1 x1 d1=>aa h o1 H1 δ σ S1 _ _ (he.mono e1) s1 d1 fun o2 H2 S2 z w e2 s2 z2 d2=>ae h o2 H2 δ σ S2 _ _ (he.mono (e1.trans e2)) s2 d2 fun o3 H3 S3 y u e3 s3 y3 d3=>by
  obtain⟨rfl,i,ds,rfl,hd,d3⟩:=d3;obtain⟨p,vs,rfl,ea,l⟩:=c9 s3 hd (x1.mono (e2.trans e3));exact⟨bD y3,i,p,vs,bD z2,rfl,.of ea,lC s3 (l.drop i).evens (Cn.pre c ((e1.trans e2).trans e3)) d3⟩
section
variable {prog:df}{w:gg}{A:fm}{E:bb->bf->Prop}{s:bf}
theorem PQ{t u:Bool}{z p r i j a b:Addr}{xs ys:Array bb}{n:Nat}{Q:List bb->bf->Prop}(hh:A.handled=none)(D:ZAp z p r i j a b)(hn:n=min xs.size ys.size)(hz:n<=bw)(Z:ZS s.heap t u z p r i j a b xs ys 0)
  (hQ:∀h' Ts,(∀q o,q≠z->q≠r->q≠i->q≠j->s.heap.get? q=some o->h'.get? q=some o)->Ts.length=n->ZPs h' xs ys Ts (s.heap.objs.size+1)->Ts.Nodup->Q (Ts.map bv) { s with heap:=h' }):
  bq (model prog w) A (collect (.ref z)) Q E s:=by
 have hS:(s.heap.push { cls:=.type "list",data:=.seq ([]:List bb).toArray }).get? s.heap.objs.size=some { cls:=.type "list",data:=.seq ([]:List bb).toArray }:=cv _ rfl;obtain⟨oi,ei,_⟩:=Z.i.here;obtain⟨oj,ej,_⟩:=Z.j.here;obtain⟨oz,ez,_⟩:=Z.ty;obtain⟨oa,ea⟩:=Z.a.here;obtain⟨ob,eb⟩:=Z.b.here;obtain⟨cr,dr,er⟩:=Z.r;have lt:∀{q o},s.heap.get? q=some o->s.heap.objs.size≠q:=fun e=>qg (fi e);have aa:s.heap.objs.size≠z/\s.heap.objs.size≠p/\s.heap.objs.size≠r/\s.heap.objs.size≠i/\s.heap.objs.size≠j/\s.heap.objs.size≠a/\s.heap.objs.size≠b:=⟨lt ez,lt Z.p,lt er,lt ei,lt ej,lt ea,lt eb⟩;unfold collect;refine bc (wpAny_runValue (qk F.entry_proto_collect ?_));rw[Around.under_plainId F.plain_proto_collect _];show bq _ A.in1 (newList [] >>= fun l=>again (.builtin "list.__iadd__" ⟨[l,.ref z],[]⟩)) _ _ s;refine bc (js ?_);refine bp ⟨plainId_quiet F.plain_list_iadd _,qk F.entry_list_iadd ?_⟩;rw[Around.under_plainId F.plain_list_iadd _];have Z1:ZS (s.heap.push { cls:=.type "list",data:=.seq ([]:List bb).toArray }) t u z p r i j a b xs ys 0:=Z.keep s.heap.objs.size aa (fun q o _ e=>bn _ e) fun o e=>⟨o,bn _ e⟩;show bq _ A.in1 (Builtin.List.listExtendWith (.ref s.heap.objs.size) (.ref z) (.ref s.heap.objs.size)) _ _ _;unfold Builtin.List.listExtendWith;refine bc (wpAny_typeOf (T:="zip") Z1.ty ?_);have h1:Builtin.List.listSameRef (.ref s.heap.objs.size) (.ref z)=false:=by simp[Builtin.List.listSameRef,aa.1]
 simp only[h1,show (og "zip" == og "list")=false from by decide,show (og "zip" == og "tuple")=false from by decide,rl,kr,if_false];have it:∀{Q':bb->bf->Prop}{E':bb->bf->Prop}{A':fm}{g:Heap},ZS g t u z p r i j a b xs ys 0->Q' (.ref z) { s with heap:=g }->bq (model prog w) A' (pyIter (.ref z)) Q' E' { s with heap:=g }:=fun {Q' E' A' g} Z2 h=>by
  have hT:Shared.TypeIs { s with heap:=g } (.ref z) "zip":=Z2.ty;refine wpAny_pyIter_slot hT F.slot_zip_iter (lx F.slot_zip_iter hT F.entry_zip_iter ?_ (F.args_zip_iter_1 _));show bq _ _ (ret (.ref z)) _ _ _;exact bp ⟨_,rfl,"zip",_,hT,F.slot_zip_next.lookup,h⟩
 refine bc (it Z1 (bc (kh (II Z1.ty ?_))));simp only[Bool.true_or,if_true];refine bc (wpAny_rule (bc ?_));show bq _ _ (updateSeq s.heap.objs.size (·.push .none) >>= fun _=>updateSeq s.heap.objs.size (·.pop)) _ _ _;refine bc (wpAny_updateSeq hS rfl ?_);have af:=je (jj (·.push gf)) hS rfl;refine wpAny_updateSeq (hz:=by seq_fits) af rfl ?_;have ac:=je (jj (·.pop)) af rfl;have o4:∀q o,q≠s.heap.objs.size->(s.heap.push { cls:=.type "list",data:=.seq ([]:List bb).toArray }).get? q=some o->(((s.heap.push { cls:=.type "list",data:=.seq ([]:List bb).toArray }).update s.heap.objs.size (jj (·.push gf))).update s.heap.objs.size (jj (·.pop))).get? q=some o:=fun q o w e=>(iw _ _ (gj w)).trans ((iw _ _ (gj w)).trans e);have s4:(((s.heap.push { cls:=.type "list",data:=.seq ([]:List bb).toArray }).update s.heap.objs.size (jj (·.push gf))).update s.heap.objs.size (jj (·.pop))).objs.size=s.heap.objs.size+1:=by rw[tq,tq,su]
 have Z4:=Z1.keep s.heap.objs.size aa o4 fun o e=>⟨_,ac⟩;obtain⟨c4,ae⟩:∃c4,(((s.heap.push { cls:=.type "list",data:=.seq ([]:List bb).toArray }).update s.heap.objs.size (jj (·.push gf))).update s.heap.objs.size (jj (·.pop))).get? s.heap.objs.size=some { cls:=.type "list",dict:=none,data:=.seq #[] c4,slots:=#[] }:=⟨_,ac⟩
 clear ac
 show bq _ _ _ _ _ { s with heap:=((s.heap.push { cls:=.type "list",data:=.seq ([]:List bb).toArray }).update s.heap.objs.size (jj (·.push gf))).update s.heap.objs.size (jj (·.pop)) };generalize ((s.heap.push { cls:=.type "list",data:=.seq ([]:List bb).toArray }).update s.heap.objs.size (jj (·.push gf))).update s.heap.objs.size (jj (·.pop))=g4 at o4 s4 Z4 ae ⊢;refine bp ⟨plainId_quiet PySem.F.plain_extend_loop _,MH (N0:=s.heap.objs.size+1) hh D aa hn hz (qo (fi ez)) (qo (fi er)) (qo (fi ei)) (qo (fi ej)) (lt_succ_self _) (.ref s.heap.objs.size) (n-0) 0 { s with heap:=g4 } [] c4 rfl (qc _) (Nat.le_of_eq s4.symm) Z4 (by simpa using ae) rfl (fun l T e=>by simp at e) nodup_nil fun h' Ts c' f1 f2 f3 f4 f5=>?_⟩;show bq _ A (load s.heap.objs.size >>= _) _ _ _;refine bc (wpAny_load f2 ?_);refine bp ?_;have:=hQ h' Ts (fun q o w1 w2 w3 w4 e=>?_) f3 f4 f5
 ·simpa using this
 ·have w5:q≠s.heap.objs.size:=jq (fi e);exact f1 q o w1 w2 w3 w4 w5 (o4 q o w5 (bn _ e))
theorem MY(t u:Bool)(z p r i j a b:Addr)(xs ys:Array bb)(n:Nat)(D:ZAp z p r i j a b)(hn:n=min xs.size ys.size)(hz:n<=bw):
  Meets (lz.«tuple.__new__» ⟨[.type "tuple",.ref z],[]⟩)
   (fun A R s=>A.handled=none/\ZS s.heap t u z p r i j a b xs ys 0/\∀h' Ts,(∀q o,q≠z->q≠r->q≠i->q≠j->s.heap.get? q=some o->h'.get? q=some o)->Ts.length=n->ZPs h' xs ys Ts (s.heap.objs.size+1)->Ts.Nodup ->
    R (.ok (.ret (.ref h'.objs.size))) { s with heap:=h'.push { cls:=.type "tuple",data:=.seq (Ts.map bv).toArray } }):=
 .of_wp fun prog w A R s h=>by
  obtain⟨hp,g,d,tk,os⟩:=s;obtain⟨hh,Z,h⟩:=h;have ac:=sub_tuple_self;have aa:=init_tuple_lookup;have ae:=madeHere_tuple;have hT:Shared.TypeIs ⟨hp,g,d,tk,os⟩ (.ref z) "zip":=Z.ty
  wp_walk using wpAny_typeOf hT,PQ (A:=A.in1) hh D hn hz Z
  intro h' Ts hk f3 f4 f5;show bq _ _ (km (Ts.map bv).toArray >>= fun v=>ret v) _ _ _;unfold km;refine bc (js ?_ (by show (Ts.map bv).toArray.size<=bw;simp[f3];exact hz));exact bp ⟨_,rfl,h h' Ts hk f3 f4 f5⟩
theorem Jj{t u:Bool}{z p r i j a b:Addr}{xs ys:Array bb}{n:Nat}{Q:bb->bf->Prop}(hh:A.handled=none)(D:ZAp z p r i j a b)(hn:n=min xs.size ys.size)(hz:n<=bw)(Z:ZS s.heap t u z p r i j a b xs ys 0)
  (hQ:∀h' Ts,(∀q o,q≠z->q≠r->q≠i->q≠j->s.heap.get? q=some o->h'.get? q=some o)->Ts.length=n->ZPs h' xs ys Ts (s.heap.objs.size+1)->Ts.Nodup->Q (.ref h'.objs.size) { s with heap:=h'.push { cls:=.type "tuple",data:=.seq (Ts.map bv).toArray } }):
  bq (model prog w) A (call (.type "tuple") [.ref z]) Q E s:=
 callType_new F.called_tuple dz (F.typeCall_tuple_1 _) (F.newCall_tuple_1 _) (fun obj=>F.args_object_init_2 obj _) F.entry_tuple_new
  (MY t u z p r i j a b xs ys n D hn hz) ⟨hh,Z,fun h' Ts hk f3 f4 f5=>⟨⟨_,cv _ rfl,rfl⟩,hQ h' Ts hk f3 f4 f5⟩⟩
end
theorem Inv.zips{X:Cx}{zg:List (Addr×Obj)}{σ:St}{H1:Hp}{s1:bf}{h':Heap}{xs ys:List V}{ac aa:List bb}{Ts:List Addr}{N0:Nat}(I1:Inv X zg σ H1 s1)(k2:∀q o,s1.heap.get? q=some o->h'.get? q=some o)(rv:Vals xs ac)(af:Vals ys aa)(hN:s1.heap.objs.size<=N0)
  (f4:ZPs h' ac.toArray aa.toArray Ts N0) (f5:Ts.Nodup):∃H2,Same H1 H2/\Inv X zg σ H2 { s1 with heap:=h' }/\(∀T∈Ts,H1 T=none)/\∀(m:Nat) (T:Addr),Ts[m]?=some T->∃x y,xs[m]?=some x/\ys[m]?=some y/\H2 T=some (.tup [x,y]):=by
 have l1:=rv.length;have l2:=af.length
 let zs:List (Addr×HO):=Ts.zip ((xs.zip ys).map fun q=>HO.tup [q.1,q.2])
 let H2:Hp:=fun b=>(zs.lookup b).or (H1 b)
 have fr:∀b,s1.heap.objs.size<=b->H1 b=none:=fun b w=>I1.hok.fresh w;have lk:∀b w,zs.lookup b=some w->∃m,Ts[m]?=some b/\∃x y,xs[m]?=some x/\ys[m]?=some y/\w=.tup [x,y]:=fun b w e=>by
  have mm:=FR e;obtain⟨m,em⟩:=List.getElem?_of_mem mm;rw[List.getElem?_zip_eq_some]at em;obtain⟨e1,e2⟩:=em;rw[gx]at e2;cases e3:(xs.zip ys)[m]? with
  |none=>rw[e3]at e2;cases e2
  |some pr=>
   rw[e3]at e2;obtain⟨e4,e5⟩:=List.getElem?_zip_eq_some.mp e3;exact⟨m,e1,_,_,e4,e5,(fg e2).symm⟩
 have bN:∀m T,Ts[m]?=some T->s1.heap.objs.size<=T:=fun m T e=>ie hN (f4 m T e).1;have sm:Same H1 H2:=fun b o e=>by
  have w:=I1.hok.lt e;show (zs.lookup b).or (H1 b)=_;cases z:zs.lookup b with
  |none=>exact e
  |some v=>
   obtain⟨m,em,_⟩:=lk b v z;exact absurd (fc w (bN m b em)) (jw _)
 refine⟨H2,sm,?_,fun T mT=>?_,fun m T e=>?_⟩
 ·refine I1.laidAll (t':=s1.toks) k2 sm fun b o e=>?_;have e':(zs.lookup b).or (H1 b)=some o:=e;cases z:zs.lookup b with
  |none=>rw[z]at e';exact .inl e'
  |some v=>
   rw[z]at e';cases (show some v=some o from e');obtain⟨m,em,x,y,ex,ey,rfl⟩:=lk b o z;obtain⟨_,v1,v2,e1,e2,pT⟩:=f4 m b em;obtain⟨w1,e3,r1⟩:=rv.get ex;obtain⟨w2,e4,r2⟩:=af.get ey;have ae:ac[m]?=some v1:=by simpa using e1
   have ag:aa[m]?=some v2:=by simpa using e2
   rw[e3]at ae;rw[e4]at ag;cases ae;cases ag;exact .inr ⟨bN m b em,⟨by show 2<=bw;decide,_,pT,rfl,I1.kpNew (bN m b em)⟩,[v1,v2],.cons r1 (.cons r2 .nil),⟨_,pT,rfl,_,rfl⟩⟩
 ·obtain⟨m,em⟩:=List.getElem?_of_mem mT;exact fr _ (bN m T em)
 ·obtain⟨_,v1,v2,e1,e2,_⟩:=f4 m T e;have m1:m<xs.length:=by
   have:=(Array.getElem?_eq_some_iff.mp e1).1;rw[l1];simpa using this
  have m2:m<ys.length:=by
   have:=(Array.getElem?_eq_some_iff.mp e2).1;rw[l2];simpa using this
  have ex:=dn m1;have ey:=dn m2;refine⟨_,_,ex,ey,?_⟩;show (zs.lookup T).or (H1 T)=_;rw[Ey (ws:=(xs.zip ys).map fun q=>HO.tup [q.1,q.2]) (w:=HO.tup [xs[m],ys[m]]) f5 e (by rw[gx,(List.getElem?_zip_eq_some (z:=(xs[m],ys[m]))).mpr ⟨ex,ey⟩];rfl)];rfl
def GK(K:bt)(ta:TA):TE:=fun σ H Q=>ta σ H fun vs H1=>∃a b t u xs ys,vs=[.ref a,.ref b]/\SqV K t H1 a xs/\SqV K u H1 b ys/\min xs.length ys.length<=1000 /\
 ∀(l:Addr) (H2:Hp) (Ts:List Addr),Same H1 H2->H1 l=none->(∀T∈Ts,H1 T=none)->H2 l=some (.tup (Ts.map V.ref))->Ts.length=min xs.length ys.length->(∀(m:Nat) (T:Addr),Ts[m]?=some T->∃x y,xs[m]?=some x/\ys[m]?=some y/\H2 T=some (.tup [x,y]))->Q (.ref l) H2
theorem KH{X:Cx}{a b:Expr}{ta:TA}{p p' pos pos':Pos}(hc:X.calm=true)(ah:Gl X "tuple")(ai:X.mg "tuple" = none)(hg:Gl X "zip")(hm:X.mg "zip" = none)(ha:PA X [a,b] ta)
  (hs:cu [a,b] X.env=[(false,eval a X.env),(false,eval b X.env)]:=by rfl) (hs2:cu [b] X.env=[(false,eval b X.env)]:=by rfl)
  (hs3:cu [.Call (.Name "zip" p) [a,b] [] pos] X.env=[(false,eval (.Call (.Name "zip" p) [a,b] [] pos) X.env)]:=by rfl):
  PE X (.Call (.Name "tuple" p') [.Call (.Name "zip" p) [a,b] [] pos] [] pos') (GK X.K ta):=by
 intro zg s σ H Q I h;refine lv (gY I ah ai HB ?_ dz dz);refine jh ?_ (by rw[hs3];rfl) rfl;rw[hs3];show bq _ _ (spliced ((false,eval (.Call (.Name "zip" p) [a,b] [] pos) X.env) :: [])) _ _ s;refine Calls.spliced_cons (Call_ (gY I hg hm LS (jh (thn (ha pos zg s σ H _ I h) fun us s1 ⟨vs,H1,I1,r1,q1⟩=>?_) (by rw[hs,hs2]) (by rw[hs2];rfl))));obtain⟨a1,b1,t,u,xs,ys,e,q1,q2,hl,q⟩:=q1;subst e;cases r1 with
 |cons r rr=>
  cases rr with
  |cons r' rr=>
   cases rr;cases r;cases r';obtain⟨af,rv,sq,_⟩:=I1.seqK q1;obtain⟨aa,ae,ac,_⟩:=I1.seqK q2;have l1:=rv.length;have l2:=ae.length;obtain⟨oa,ea⟩:=sq.here;obtain⟨ob,eb⟩:=ac.here;refine IP sq ac fun g z1 z2 z3 z4 z5 kk=>Calls.spliced_nil ?_;have D:=Ke s1.heap.objs.size a1 b1 (fi ea) (fi eb);have I2:=I1.kept (h':=g) (t':=s1.toks) kk;have Z:ZS g t u (s1.heap.objs.size+4) (s1.heap.objs.size+2) (s1.heap.objs.size+3) s1.heap.objs.size (s1.heap.objs.size+1) a1 b1 af.toArray aa.toArray 0:=⟨.inl z1,z2,⟨_,_,z3⟩,z4,z5,sq.at fun o e=>kk _ _ e,ac.at fun o e=>kk _ _ e⟩;have ag:s1.heap.objs.size+4<g.objs.size:=fi z1;refine Jj (s:={ s1 with heap:=g }) (n:=min af.length aa.length) (I2.ok.hd hc) D yv (by rw[<- l1,<- l2,ig];omega) Z fun h' Ts f1 f3 f4 f5=>?_
   have k2:∀q o,s1.heap.get? q=some o->h'.get? q=some o:=fun q o e=>by
    have w:=fi e;exact f1 q o (jq (fc w (le_add_right _ _))) (jq (fc w (le_add_right _ _))) (jq w) (jq (fc w (le_add_right _ _))) (kk q o e)
   obtain⟨H2,sm,I3,fT,hT⟩:=I1.zips k2 rv ae (ie (lg (qw (le_add_right _ 4) ag)) (le_succ _)) f4 f5;have nl:H2 h'.objs.size=none:=I3.hok.fresh (fe _);have I4:=I3.laid (t':=s1.toks) (h':=h'.push { cls:=.type "tuple",data:=.seq (Ts.map bv).toArray }) (fun b o e=>bn _ e) (fe _) (show ObjOk X.prog X.w _ _ h'.objs.size (.tup (Ts.map V.ref))from⟨⟨by rw[cg,f3,<- l1,<- l2,ig];omega,_,cv _ rfl,rfl,I3.kpNew⟩,Ts.map bv,Dx Ts,⟨_,cv _ rfl,rfl,_,rfl⟩⟩);have n1:H1 h'.objs.size=none:=by
    cases z:H1 h'.objs.size with
    |none=>rfl
    |some v=>rw[sm _ _ z]at nl;cases nl
   refine⟨.ref h'.objs.size,_,I4,rfl,q h'.objs.size _ Ts (fun b o e=>?_) n1 fT (zQ ..) (by rw[f3,<- l1,<- l2]) fun m T e=>?_⟩
   ·rw[zL (zO (sm b o e) nl)];exact sm b o e
   ·obtain⟨x,y,e1,e2,e3⟩:=hT m T e;exact⟨x,y,e1,e2,by rw[zL (zO e3 nl)];exact e3⟩
def kX(a:DA):DE:=fun δ S R=>a δ S fun xs S1=>arg2 xs fun x y=>∃ds,dY x=some ds/\∃es,dY y=some es/\min ds.length es.length<=1000/\R (.d (.tuple (jX ds es))) S1
theorem O8{K:bt}{ta:TA}{da:DA}(ha:RA ta da):RE (GK K ta) (kX da):=fun h o H δ σ S R Q he hs q c=>
 ha h o H δ σ S _ _ he hs q fun o1 H1 S1 xs vs e1 s1 x1 d0=>by
  obtain⟨x,y,rfl,ds,e2,es,e3,hl,d2⟩:=rE d0;obtain⟨v,u,rfl,hv,hu⟩:=hxs2 x1;obtain⟨t,a,ws,rfl,l,k1⟩:=FV (K:=K) e2 hv;obtain⟨t',b,zs,rfl,l',k2⟩:=FV (K:=K) e3 hu;have g1:=l.length;have g2:=l'.length;refine⟨a,b,t,t',ws,zs,rfl,k1 ExH.refl,k2 ExH.refl,yw,fun l0 H2 Ts gr f1 f2 f3 f4 f5=>?_⟩;have v1:∀b u,H1 b=none->H2 b=some u->vx h o1 H2 b=some u:=fun b u n e=>by
   obtain⟨z1,z2⟩:=s1.fresh n;exact zU.mpr ⟨z1,z2,e⟩
  exact c o1 H2 S1 (.d (.tuple (jX ds es))) _ (e1.trans (Ex.of_same gr)) (s1.same gr) (dG.mpr ⟨l0,_,rfl,v1 l0 _ f1 f3,BL (kY gr) l l' f4 fun m T e=>by
   obtain⟨x,y,q1,q2,q3⟩:=f5 m T e;exact⟨x,y,q1,q2,v1 T _ (f2 T (dh e)) q3⟩⟩) d2
end
end L2
namespace L2
open PySem PySem.Spec PySem.Calls PyProof.Rows
inductive AllK {α:Type} (F:α->bb->Prop):List α->List bb->Prop
 |nil:AllK F [] []
 |cons {k v ks vs}:F k v->AllK F ks vs->AllK F (k::ks) (v::vs)
end L2
namespace L2
open PySem PySem.Spec PyProof.Rows
section
def hB(b:Bool):Int:=reduceHash (match b with|true=>1|false=>0)
def kB(e:Int×bb):Bool:=match e.2 with
 | .bool b=>b
 |_=>false
end
section
def uQ(z:Str)(e:DE):DE:=fun δ S R=>e δ S fun x S1=>(∃d,cM S1 x=some d/\dy d=true/\R (.d (.bool (!PyData.eqv d (.tuple [.str z])))) S1)\/(x=.d (.dict [])/\R (.d (.bool true)) S1)
end
section
section
variable {prog:df}{w:gg}{A:fm}{E:bb->bf->Prop}{s:bf}
theorem Hh:entryFor table "proto.unchain" = some lz.«proto.unchain»:=entryFor_of_tree (by kernel_rfl)
end
end
section
abbrev DTm:=XE->Sto->DM->(Bool->Sto->DM->Prop)->Prop
end
end L2
namespace L2
open PySem PySem.Spec PySem.Calls PyProof.Rows PySem.W
section
variable {X:Cx}
def rQ:List XV->Sto->RX->Prop:=fun xs S R=>arg1 xs fun x=>∃ns:List Int,x=.d (.tuple (ns.map dq))/\ns.length<60/\∀ms:List Int,ms.Perm ns->ms.Pairwise (· ≥ ·)->R (.d (.list (ms.map dq))) S
end
end L2
namespace L2
open PySem PySem.Spec PyProof.Rows
section
abbrev DEm:=XE->Sto->DM->(XV->Sto->DM->Prop)->Prop
abbrev DAm:=XE->Sto->DM->(List XV->Sto->DM->Prop)->Prop
end
end L2
namespace L2
open PySem PySem.Spec PyProof.Rows
section
def It2u(lo:Int)(n:Nat):It:=⟨fun i _=>i<n,fun i H x H'=>H'=H/\x=.int (lo+2*i),fun i _=>n<=i⟩
theorem NJ{P:df}{w:gg}{K:bt}{tg:Expr}(it:Addr)(lo:Int)(n:Nat):Turn P w K tg (It2u lo n) [it] it (fun i h=>IsRangeIter h it (lo+(i:Nat)*2) ((n:Int)-(i:Nat)) 2) where
 mem:=by simp
 obj:=fun i h st b hb=>by
  have e:b=it:=by simpa using hb
  subst e;exact⟨_,st,fun v z=>by
   have z':Data.fields _=Data.cell v:=z;cases z'⟩
 keep:=fun i h h' st k=>k it yv _ st
 item:=by
  intro X hP hw hK hc i zg s σ H E I hf st hg;subst hP hw hK;obtain⟨f0,f1,f2,f3,f4,f5⟩:=hf it yv;have W:=Walks.range (prog:=X.prog) (w:=X.w) (I.ok.hd hc) it lo 2 n;refine W.item i s _ _ hg st fun v h' tk hv aa kk=>?_;obtain⟨t,rfl⟩:=hv;have I1:Inv X zg σ H { s with heap:=h',toks:=tk }:=I.turned (fun b o hb e=>kk b o (by simpa using hb) e) f0 f1 f3 f4 f5;refine⟨_,rfl,lT (s:={ s with heap:=h',toks:=tk }) (n:="range_iterator") aa rfl rfl dz ⟨.int (lo+2*i),H,I1,⟨t,?_⟩,⟨rfl,rfl⟩,aa,fun b hb=>(hf b hb).1⟩⟩;rw[show lo+(i:Int)*2=lo+2*i by omega]
 done:=by
  intro X hP hw hK hc i zg s σ H E I hf st hg;subst hP hw hK;obtain⟨f0,f1,f2,f3,f4,f5⟩:=hf it yv;exact wpAny_pyNext_range_end (I.ok.hd hc) st (by have:n<=i:=hg;omega) fun h' eb=>⟨rfl,I.turned (t':=s.toks) (fun b o hb e=>eb b o hb e) f0 f1 f3 f4 f5⟩
 self:=fun _ _ _ _ _ st h=>wpAny_pyIter_rangeiter st h
section
variable {X:Cx}{tg:Expr}
theorem OT{zg:List (Addr×Obj)}{σ:St}{H:Hp}{s:bf}{R:It->Hp->Prop}{E:bb->bf->Prop}{lo hi:Int}{t u v:Tok}{tk:Nat}(I:Inv X zg σ H s)(h1:-1000<=lo/\lo<=1000)(h2:-1000<=hi/\hi<=1000)
  (q:R (It2u lo ((hi-lo+1)/2).toNat) H):bq (model X.prog X.w) X.A (pyIter (.ref s.heap.objs.size)) (PIE X zg σ tg R) E { s with heap:=s.heap.push { cls:=.type "range",data:=.fields #[.int lo t,.int hi u,.int 2 v] },toks:=tk }:=by
 have I1:Inv X zg σ H { s with heap:=s.heap.push { cls:=.type "range",data:=.fields #[.int lo t,.int hi u,.int 2 v] },toks:=tk }:=I.kept fun b o e=>bn _ e;have e1:lo+((0:Nat):Int)*2=lo:=by simp
 have e2:((((hi-lo+1)/2).toNat:Nat):Int)-((0:Nat):Int)=Builtin.Range.rangeSize lo hi 2:=by
  unfold Builtin.Range.rangeSize;rw[cm dz];split
  ·omega
  ·omega
 have aa:Builtin.Range.small lo hi 2=true:=by
  unfold Builtin.Range.small;rw[<- e2,cm dz];simp only[Builtin.Range.rangeFitsLong,cy,Bool.or_eq_true,decide_eq_true_eq,beq_iff_eq];omega
 refine wpAny_pyIter_range (IsRange.new ..) aa ?_;refine⟨(s.heap.push { cls:=.type "range",data:=.fields #[.int lo t,.int hi u,.int 2 v] }).objs.size,[(s.heap.push { cls:=.type "range",data:=.fields #[.int lo t,.int hi u,.int 2 v] }).objs.size],_,_,H,rfl,
  I1.kept (t':=tk) fun b o e=>bn _ e,NJ _ lo ((hi-lo+1)/2).toNat,?_,fun b hb=>?_,q⟩
 ·show IsRangeIter _ _ (lo+((0:Nat):Int)*2) (((((hi-lo+1)/2).toNat:Nat):Int)-((0:Nat):Int)) 2;rw[e1,e2];exact cv _ rfl
 ·have e:b=(s.heap.push { cls:=.type "range",data:=.fields #[.int lo t,.int hi u,.int 2 v] }).objs.size:=by simpa using hb
  subst e;exact I1.fpOk (fe _) (I1.hok.fresh (fe _))
def CM(ta:TA):TI:=fun σ H R=>ta σ H fun vs H1=>∃i j:Int,vs=[.int i,.int j,.int 2]/\(-1000<=i/\i<=1000)/\(-1000<=j/\j<=1000)/\R (It2u i ((j-i+1)/2).toNat) H1
theorem LW{a b c:Expr}{ta:TA}{p pos:Pos}(hg:Gl X "range")(hm:X.mg "range" = none)(ha:PA X [a,b,c] ta)(hs:cu [a,b,c] X.env=[(false,eval a X.env),(false,eval b X.env),(false,eval c X.env)]:=by rfl)(aa:cu [b,c] X.env=[(false,eval b X.env),(false,eval c X.env)]:=by rfl):
  PI X tg (.Call (.Name "range" p) [a,b,c] [] pos) (CM ta):=by
 intro zg s σ H R I h;refine Call_ (gY I hg hm boot_range (jh (thn (ha pos zg s σ H _ I h) fun us s1 ⟨vs,H1,I1,r1,q1⟩=>?_) (by rw[hs,aa]) (by rw[aa];rfl)));obtain⟨i,j,e,h1,h2,q⟩:=q1;subst e;cases r1 with
 |cons r rr=>
  cases rr with
  |cons r' rr=>
   cases rr with
   |cons r'' rr=>
    cases rr;obtain⟨t,rfl⟩:=r;obtain⟨t',rfl⟩:=r';obtain⟨t'',rfl⟩:=r'';exact call_range_3 dz (OT I1 h1 h2 q) (.inl (PyProof.noPylong_small yw))
end
def up2D(lo:Int)(n:Nat):List bg:=(iq n).map fun k:Nat=>.int (lo+2*k)
theorem Aa{lo:Int}{n i:Nat}{d:bg}(h:(up2D lo n)[i]?=some d):i<n/\d=.int (lo+2*i):=by
 unfold up2D at h;rw[gx]at h;by_cases hi:i<n
 ·rw[List.getElem?_range hi]at h;exact⟨hi,(fg h).symm⟩
 ·rw[getElem?_eq_none (by simpa using Nat.le_of_not_lt hi)]at h;cases h
theorem Mj{h o:List Addr}{H:Hp}{lo:Int}{n:Nat}:WalkX h o H (It2u lo n) (up2D lo n) where
 stop:=fun i _ _ _ hi=>by
  have h':n<=i:=by simpa[up2D]using hi
  exact h'
 go:=fun i d _ _ _ hi=>(Aa hi).1
 yld:=fun i d o2 H2 x H3 S2 _ _ hi y=>by
  obtain⟨e,ex⟩:=y;subst e ex;rw[(Aa hi).2];exact⟨Same.refl _,f7.mpr rfl⟩
def yC(a:DA):DI:=fun δ S R=>a δ S fun xs S1=>∃i j:Int,xs=[.d (.int i),.d (.int j),.d (.int 2)]/\(-1000<=i/\i<=1000)/\(-1000<=j/\j<=1000)/\R (up2D i ((j-i+1)/2).toNat) S1
theorem Ms{ta:TA}{da:DA}(ha:RA ta da):RI (CM ta) (yC da):=fun h o H δ σ S R Q he hs q c=>
 ha h o H δ σ S _ _ he hs q fun o1 H1 S1 xs vs e1 s1 x1 d0=>by
  obtain⟨i,j,rfl,h1,h2,d1⟩:=d0;obtain⟨v1,r1,rfl,ae,l1⟩:=x1;obtain⟨v2,r2,rfl,ac,l2⟩:=l1;obtain⟨v3,r3,rfl,aa,l3⟩:=l2;have l4:r3=[]:=l3;subst l4;rw[bD ae,bD ac,bD aa];exact⟨i,j,rfl,h1,h2,c o1 H1 S1 _ _ e1 s1 Mj d1⟩
end
end L2
namespace L2
open PySem PySem.Spec PySem.Calls PyProof.Rows
section
variable {K:bt}{h:Heap}{C G:Addr}{ini iniG:Option bb}
variable {M:Model}{A:fm}{E:bb->bf->Prop}{g:Array GenState}{d:Drawn}{t:Nat}{os:OsState}{e tp:Addr}{oe:Obj}{Q:Bool->bf->Prop}
theorem Jh(X:K.In h)(qG:ExCls K G iniG)(hq:Q true ⟨h,g,d,t,os⟩):bq M A (isExcClass (.ref G)) Q E ⟨h,g,d,t,os⟩:=by
 obtain⟨aa,N',ai,ah,aj,ak,am,af,ag,ae,an,j0,j1,j2,j3,j5,al,hG,_,_,T',_⟩:=qG.ob h X;have ac:(bv G::aa).contains (.type "BaseException")=true:=by rw[qe,T'.hasType (b:=true) (by decide +kernel),Bool.or_true]
 unfold isExcClass
 repeat (first|with_reducible refine gy hG ?_|(with_reducible refine lj hG ?_;rw[ac])|wp_step)
 exact hq
theorem E7(X:K.In h):∀{Gs:List Addr}{Q:PUnit->bf->Prop},(∀G∈Gs,∃i,ExCls K G i)->Q PUnit.unit ⟨h,g,d,t,os⟩ ->
  bq M A (forIn (Gs.map bv) PUnit.unit fun c __s=>do
    let __do_lift <- isExcClass c
    if (!__do_lift)=true then do
      rule "try.except-non-exception-class"
      raiseErrorWords "TypeError" "catching classes that do not inherit from BaseException is not allowed"
      pure (ln PUnit.unit)
     else pure (ln PUnit.unit)) Q E ⟨h,g,d,t,os⟩
 | [],Q,_,q=>bp q
 |G::Gs,Q,hG,q=>by
  rw[gk,forIn_cons];refine bc (bc (Jh X (hG G cw).choose_spec ?_));rw[cb dz];refine bp ?_;exact E7 X (fun G' m=>hG G' (cn _ m)) q
theorem Ef{hC:Heap->Prop}{tl:List bb}(X:K.In h)(qC:ExCls K C ini)(aa:∀D,ra K C D=some ((bv C::tl).contains D)):∀{Gs:List Addr}{Q:Option Bool×Unit->bf->Prop},(∃G∈Gs,ra K C (.ref G)=some true)->Q (some true,()) ⟨h,g,d,t,os⟩ ->
  bq M A (forIn (Gs.map bv) ((none:Option Bool),()) fun c __s=>do
     let __do_lift <- isSubtype (.ref C) c
     if __do_lift=true then pure (ForInStep.done (some true,()))else pure (ln (none,()))) Q E ⟨h,g,d,t,os⟩
 | [],Q,hG,q=>by
  obtain⟨_,m,_⟩:=hG;cases m
 |G::Gs,Q,hG,q=>by
  obtain⟨ac,N,nm,qn,bs,hd,sn,sub,ab,col,dd,k0,k1,k2,k3,k5,mN,ae,_,_,T,mr⟩:=qC.ob h X;rw[gk,forIn_cons];refine bc (bc (lj ae ?_));have e:(bv C::ac).contains (.ref G)=(bv C::tl).contains (.ref G):=fg ((mr _).symm.trans (aa _));rw[e];cases hb:(bv C::tl).contains (.ref G)with
  |true=>
   rw[cm rfl];exact bp (bp q)
  |false=>
   rw[cb dz];refine bp (Ef (hC:=hC) X qC aa ?_ q);obtain⟨G',m,z⟩:=hG;rcases mem_cons.mp m with rfl|m
   ·rw[aa,hb]at z;cases z
   ·exact⟨G',m,z⟩
theorem OU:isSubtype (.type "tuple") (.type "tuple")=pure true:=by rw[isSubtype_type];kernel_rfl
theorem Om(X:K.In h)(qC:ExCls K C ini){Gs:List Addr}(qG:∀G∈Gs,∃i,ExCls K G i)(he:h.get? e=some oe)(aa:oe.cls=.ref C)(ht:IsTup h tp (Gs.map bv).toArray)(af:∃G∈Gs,ra K C (.ref G)=some true)(hq:Q true ⟨h,g,d,t,os⟩):
  bq M A (excMatches (.ref e) (.ref tp)) Q E ⟨h,g,d,t,os⟩:=by
 obtain⟨tl,N,nm,qn,bs,hd,sn,sub,ab,col,dd,k0,k1,k2,k3,k5,mN,hC,_,_,T,mr⟩:=qC.ob h X;obtain⟨ot,ac,ag,n,ae⟩:=ht;unfold excMatches;refine bc (wpAny_isInstance (T:="tuple") ⟨ot,ac,ag⟩ OU ?_);rw[cm rfl];refine bc (lh ac ae ?_);refine bc (bp ?_);have el:((some (li bv Gs).toArray:Option (Array bb)).getD #[]).toList=Gs.map bv:=by simp
 dsimp only;rw[el];refine bc (E7 X qG ?_);refine bc ?_
 first|(with_reducible refine gy he ?_;rw[aa])|(wp_step;with_reducible refine gy he ?_;rw[aa])|(wp_step;wp_step;with_reducible refine gy he ?_;rw[aa])
 refine bp ?_;refine bc (Ef (hC:=fun _=>True) X qC mr af ?_);exact bp hq
end
section
variable {prog:df}{w:gg}{A:fm}{E:bb->bf->Prop}{s:bf}{env:Env}
variable {nm q:Str}{C N:Addr}{bs bm:List bb}{hdct:Bool}{sn:List Str}{sub:List bb}{ab:Bool}{col:Option Bool}{dd:Option Addr}{k0 k1 k2 k3 k5:Option bb}{newId:String}
theorem Mu{x:Addr}{xs c:Sem bb}{Q:Flow->bf->Prop}(aa:bm.contains (.type "BaseException")=true)(hh:A.handled=some (.ref x))(hc:∀(Q:bb->bf->Prop) s,Q .none s->bq (model prog w) A c Q E s)
  (h:bq (model prog w) A xs (fun v s1=>∃e t dx,v=.ref e/\s1.heap.get? C=some (sy nm q C N bs bm hdct sn sub ab col dd k0 k1 k2 k3 k5 newId)/\s1.heap.get? e=some { cls:=.ref C,dict:=dx,data:=.fields #[.ref t,.none,.none,.none,.bool false,.none] }/\x≠e/\C≠e /\
   (∃ox vx,s1.heap.get? x=some ox/\ox.data=.fields vx/\vx[2]?=some .none) /\
   ∀h',h'.get? e=some { cls:=.ref C,dict:=dx,data:=.fields #[.ref t,.none,.ref x,.none,.bool true,.none] }->(∀b,b≠e->h'.get? b=s1.heap.get? b)->h'.objs.size=s1.heap.objs.size->E (.ref e) { s1 with heap:=h' }) E s):
  bq (model prog w) A (raiseStmt env (some xs) (some c)) Q E s:=by
 have ae:(bv C::bm).contains (.type "BaseException")=true:=by rw[qe,aa,Bool.or_true]
 unfold raiseStmt;refine bc (ix h (fun v s1 h1=>?_) fun _ _ x=>x);obtain⟨e,t,dx,rfl,hC,he,nx,nC,⟨ox,vx,hx,af,ag⟩,hE⟩:=h1;obtain⟨hp,g,d,tk,os⟩:=s1;refine bc (kh (hc _ _ (bc (bp ?_))));refine bc (kh ?_);unfold excFromValue
 repeat (first|with_reducible refine gy he ?_|with_reducible refine gy hC ?_|(with_reducible refine lj hC ?_;rw[ae])|wp_step)
 dsimp only at hC he hx hE;have d1:({ cls:=.ref C,dict:=dx,data:=.fields #[.ref t,.none,.none,.none,.bool false,.none] }:Obj).data=.fields #[.ref t,.none,.none,.none,.bool false,.none]:=rfl;have u1:=je (io fun x=>x.setIfInBounds 3 gf) he (jr (jp d1 _));have e1:(io (fun x=>x.setIfInBounds 3 gf) { cls:=.ref C,dict:=dx,data:=.fields #[.ref t,.none,.none,.none,.bool false,.none] }:Obj) = { cls:=.ref C,dict:=dx,data:=.fields #[.ref t,.none,.none,.none,.bool false,.none] }:=rfl;rw[e1]at u1;have u2:=je (io fun x=>x.setIfInBounds 4 (lc true)) u1 (jr (jp d1 _));have e2:(io (fun x=>x.setIfInBounds 4 (lc true)) { cls:=.ref C,dict:=dx,data:=.fields #[.ref t,.none,.none,.none,.bool false,.none] }:Obj) = { cls:=.ref C,dict:=dx,data:=.fields #[.ref t,.none,.none,.none,.bool true,.none] }:=rfl;rw[e2]at u2;have ac:∀b,b≠e->((hp.update e (io fun x=>x.setIfInBounds 3 gf)).update e (io fun x=>x.setIfInBounds 4 (lc true))).get? b=hp.get? b:=fun b hb=>(iw _ _ (gj hb)).trans (iw _ _ (gj hb));have sz:((hp.update e (io fun x=>x.setIfInBounds 3 gf)).update e (io fun x=>x.setIfInBounds 4 (lc true))).objs.size=hp.objs.size:=by rw[tq,tq]
 generalize (hp.update e (io fun x=>x.setIfInBounds 3 gf)).update e (io fun x=>x.setIfInBounds 4 (lc true))=hq at u2 ac sz ⊢;simp only[raiseNew];refine bc (wpAny_handled ?_);rw[hh];dsimp only;rw[cm (by simp[nx])];refine bc (kh (runValue_entry Hh ?_));show bq _ _ (field (.ref x) 2 >>= _) _ _ _;refine bc (fw ((ac x nx).trans hx) af ag ?_);rw[cm (show (gf==gf)=true from rfl)];refine bp ⟨_,rfl,?_⟩;have d2:({ cls:=.ref C,dict:=dx,data:=.fields #[.ref t,.none,.none,.none,.bool true,.none] }:Obj).data=.fields #[.ref t,.none,.none,.none,.bool true,.none]:=rfl;refine bc (m:=updateField e 2 (.ref x)) (pq (a:=e) u2 d2 yv (wpAny_throw ?_));have u3:=je (io (·.setIfInBounds 2 (bv x))) u2 (jr (jp d2 _));exact hE _ (u3.trans rfl) (fun b hb=>(iw _ _ (gj hb)).trans (ac b hb)) ((tq ..).trans sz)
end
section
variable {M:Model}{A:fm}{E:bb->bf->Prop}{s:bf}
theorem Fp{base:Heap}{l:List Env}{e L:Addr}{cls a0 fl:bb}{dx:Option Addr}{Q:Unit->bf->Prop}(ag:base.StaysIn s.heap)(hl:s.heap.FunFrames base l)(ht:RecAt s.heap base e cls dx a0 fl)
  (h:∀h',base.StaysIn h'->h'.FunFrames base l->RecAt h' base e cls dx a0 (ml L)->s.heap.UpToSlots h'->Q () { s with heap:=h' }):bq M A (rg (.ref e) (some L)) Q E s:=by
 obtain⟨oe,vs,T,oT,ts,he,hc,hx,hd,h0,h1,ae,af,hT,ac,h3⟩:=ht;have z3:3<ts.size:=(Array.getElem?_eq_some_iff.mp h3).1;have aa:∀b,b≠T->(s.heap.update T (io (·.setIfInBounds 3 ((some L:Option Addr).elim gf fun f=>ml f)))).get? b=s.heap.get? b:=fun b hb=>iw _ _ (gj hb);have nr:∀b o,s.heap.get? b=some o->(∀vs,o.data≠.fields vs)->b≠T:=fun b o q nf z=>by
  rw[z,hT]at q;cases q;exact nf ts ac
 unfold rg;refine bc (fw he hd h1 ?_);rw[cm (show (bv T != gf)=true from by simp)];refine pq hT ac z3 (h _ (fun b o q=>(aa b fun z=>by rw[z,ae]at q;cases q).trans (ag b o q)) (hl.of_keeps fun b o q nf=>⟨o,(aa b (nr b o q nf)).trans q,rfl⟩) ?_ fun b o q nf=>⟨o.slots,(aa b (nr b o q nf)).trans q⟩);exact⟨oe,vs,T,_,_,(aa e (gj af)).trans he,hc,hx,hd,h0,h1,ae,af,je _ hT (jr (jp ac _)),jp ac _,by simp[z3]⟩
theorem HH{A1 A2 A3:fm}{E1 E2 E3:bb->bf->Prop}{base:Heap}{env:Env}{outer:List Env}{L e:Addr}{oe:Obj}{vs:Array bb}{a0:bb}{Q:Unit->bf->Prop}
  (hfr:A1.frames=some (env::outer)) (hl:s.heap.FunFrames base (env::outer)) (hf:env.frame=some L)
  (he:s.heap.get? e=some oe) (hkb:base.StaysIn s.heap) (hen:base.get? e=none) (hd:oe.data=.fields vs) (h1:vs[1]?=some .none) (h0:vs[0]?=some a0/\(oe.cls∉ctxG->vs[2]?=some .none))
  (hQ:∀h',FlyD base outer e oe.cls oe.dict a0 h'->s.heap.UpToSlots h'->Q () { s with heap:=h' }):
  bq M A1 (ng (.ref e) env) (fun _ s1=>bq M A2 (do
   let __do_lift <- field (.ref e) 1
   have __do_jp:Unit->Sem Unit:=fun __r=>rg (.ref e) env.frame
   if (__do_lift==gf)=true then do
     let __r <- unsupported "frame.own-activation:exception-without-traceback"
     __do_jp __r
    else __do_jp ()) (fun _ s2=>bq M A3 (leaving env (.ref e)) Q E3 s2) E2 s1) E1 s:=by
 refine CI hfr hl hf he hkb hen hd h1 h0 fun h' x=>?_;obtain⟨ao,au,T,oT,ts,ai,ar,a2,af,av,ak,an,as,hT,aq,h3⟩:=id x.rcd;refine bc (fw ai af ak ?_);rw[cb (show ¬(bv T==gf)=true from by simp),hf];refine Fp (s:={ s with heap:=h' }) x.stays x.frames x.rcd fun h2 b2 f2 r2 u2=>?_;obtain⟨aw,a3,T2,ay,a1,ah,ap,ax,ag,az,ae,al,am,aj,aa,ac⟩:=id r2;unfold leaving ng;simp only[hf];refine bc (bc (fw ah ag ae ?_));rw[cm (show (bv T2 != gf)=true from by simp)];refine bc (fw aj aa ac ?_);rw[cm (show (ml L==ml L)=true from by simp)];refine bp (nV (s:={ s with heap:=h2 }) b2 hen f2 r2 fun h3 y u=>hQ h3 ⟨y.1,y.2.1,?_,y.2.2.2⟩ ((x.upto.trans u2).trans u));obtain⟨_,_,k⟩:=y.2.2.1;exact k
end
section
variable {P:df}{w:gg}{K:bt}{mg:Str->Option bb}{base:Heap}{N:List Str}{qual:Str}{scope:Scope}{f:Addr}{cd:bb}{A:fm}{outer:List Env}{s:bf}{H:Hp}{E:XK}
theorem IF{zg:List (Addr×Obj)}{σ:St}{Hc:Hp}{s2:bf}{e C t x:Addr}{dx:Option Addr}{h2:Heap}{A1 A2:fm}(I:Inv (bH (CX1 P w) P w K mg base N qual scope f cd A outer s H E) zg σ Hc s2)(hn:Hc e=some (exN e C dx t))(af:s.heap.get? e=none)(hG:bv C∈ctxG)
  (he:h2.get? e=some { cls:=.ref C,dict:=dx,data:=.fields #[.ref t,.none,.ref x,.none,.bool true,.none] }) (oth:∀b,b≠e->h2.get? b=s2.heap.get? b) (hA1:A1.frames=some (ip qual scope s.heap.objs.size f cd::outer)) (hE:E (.ref C) (some e) (upd Hc e (exO e C dx))):
  notedBy (model P w) A1 (ip qual scope s.heap.objs.size f cd) (fun x s3=>cameBackBy (model P w) A2 (ip qual scope s.heap.objs.size f cd) (bH (CX1 P w) P w K mg base N qual scope f cd A outer s H E).xe x s3) (.ref e) { s2 with heap:=h2 }:=by
 obtain⟨B,ff,bs,ne,aa,fin⟩:=Ca I hn af hE;have ae:h2.FunFrames B (ip qual scope s.heap.objs.size f cd::outer):=ff.of_keeps fun b o q nf=>⟨o,(oth b fun z=>by
  rw[z,aa]at q;cases q;exact nf _ rfl).trans q,rfl⟩
 have ac:B.StaysIn h2:=fun b o q=>(oth b fun z=>by rw[z,ne]at q;cases q).trans (bs b o q);show bq _ _ (ng (.ref e) _) (fun _ s1=>bq _ _ _ (fun _ s2=>bq _ _ (leaving _ (.ref e)) _ _ s2) _ s1) _ _;exact HH hA1 ae rfl he ac ne rfl rfl ⟨rfl,fun z=>absurd hG z⟩ fun h'' fl sm=>fin h'' fl fun b o q n nf=>sm b o ((oth b n).trans q) nf
end
section
variable {P:df}{w:gg}{K:bt}{mg:Str->Option bb}{base:Heap}
theorem Fun.okN{x qual:Str}{st:Stmt}{f:Addr}{fd:ki}{N ps:List Str}{k:Nat}{sp:Sp}(F:Fun K x qual st f fd)(S:FnScope N ps (zj st))(len:∀vs H Q E,sp vs H Q E->vs.length=ps.length)
  (hbody:∀(aa:bb) (A:fm) (outer:List Env) (s:bf) (H:Hp) (vs:List V) (Q:VK) (E:XK),sp vs H Q E ->
   ∃t,PSs (cxN P w K mg base N qual (zj st) f aa A outer s H) (dJ st) t/\t { nx:=fun _ H'=>Q .non H',rt:=Q } (start N vs) H):FnOkN P w K mg base CX0 (k+1) f fd ps sp:=by
 obtain⟨oc,od,kV,af,pm,an,aa,ct,ag,rfl,lk,ac⟩:=F.ex;exact Cg lk ac S len fun A outer s H vs Q E hr ae=>hbody aa A outer s H vs Q E ae
end
section
variable {X:Cx}{E:XK}{x:Str}{C fI b:Addr}{fd:ki}{ps:List Str}{sp:Sp}{k:Nat}{np cpos pos kpos:Pos}{kk:Nat}{e:Expr}{es:List Expr}{t:TA}
def Dy(E:XK)(C:Addr)(sp:Sp)(b:Addr)(t:TA):TS:=fun _ σ H=>t σ H fun vs H1=>(∃u,H1 b=some u)/\∀a tt,H1 a=none->sp (.ref a::vs) (upd H1 a (exN a C none tt)) (fun r H2=>r=.non/\(∃D d,bv D∉ctxG/\H2 b=some (exO b D d))/\∃dx,H2 a=some (exN a C dx tt)/\E (.ref C) (some a) (upd H2 a (exO a C dx))) fun _ _ _=>False
def RaisesH(X:Cx)(E:XK):Prop:=∀(b C:Addr) (zg:List (Addr×Obj)) (σ:St) (H1 H2:Hp) (s1 s2:bf) (e t:Addr) (dx:Option Addr) (h2:Heap),Inv X zg σ H1 s1->s1.heap.get? e=none->Inv X zg σ H2 s2->H2 e=some (exN e C dx t) ->
 h2.get? e=some { cls:=.ref C,dict:=dx,data:=.fields #[.ref t,.none,.ref b,.none,.bool true,.none] }->(∀b,b≠e->h2.get? b=s2.heap.get? b)->bv C∈ctxG->E (.ref C) (some e) (upd H2 e (exO e C dx)) ->
 notedBy (model X.prog X.w) (X.A.mark (some (.ref b))) X.env (fun x s3=>cameBackBy (model X.prog X.w) X.A X.env X.xe x s3) (.ref e) { s2 with heap:=h2 }
theorem Im{zg:List (Addr×Obj)}{σ:St}{H:Hp}{s:bf}{D:Ends}{Q:Flow->bf->Prop}(ok:X.Ok)(hR:RaisesH X E)(hC:bv C∈ctxG)(hg:Gl X x)(hm:X.mg x=some (.ref C))(q:ExCls X.K C (some (.ref fI)))(hk:pp X.K (.ref C)=true)(aj:W.typeIn X.K (.ref fI)=some (.type "function"))(F:FnOkN X.prog X.w X.K X.mg X.base CX0 k fI fd ps sp)(hr:∀us:List bb,RoomN k ((X.suite b).A.under (.builtin "type.__call__" ⟨.ref C::us,[]⟩)))(hb:Binds X.K fd ps [])(ag:ps.length<=1000)
  (ha:PA (X.suite b) (e::es) t) (I:Inv (X.suite b) zg σ H s) (h:Dy E C sp b t D σ H) (hdb:(x==("__debug__":Str))=false:=by decide) (he:cu (e::es) X.env=(false,eval e X.env)::cu es X.env:=by rfl) (hpl:(kl cpos (cu es X.env)).any (·.1)=false:=by rfl):
  bq (model X.prog X.w) (X.A.mark (some (.ref b))) (exec (.Raise (some (.Call (.Name x np) (e::es) [] cpos)) (some (.Constant .none kk kpos)) pos) X.env) Q (notedBy (model X.prog X.w) (X.A.mark (some (.ref b))) X.env (fun x s3=>cameBackBy (model X.prog X.w) X.A X.env X.xe x s3)) s:=by
 obtain⟨tl,N,nm,qn,bs,hd,sn,sub,ab,col,dd,k0,k1,k2,k3,k5,mN,ap,hN,a0,T,_⟩:=q.ob _ I.kIn;have aa:tl.contains (.type "BaseException")=true:=T.hasType (b:=true) (by decide +kernel);rw[arm_exec_Raise];refine bc (ly (Mu (C:=C) (nm:=nm) (q:=qn) (N:=N) (bs:=bs) (bm:=tl) (hdct:=hd) (sn:=sn) (sub:=sub) (ab:=ab) (col:=col) (dd:=dd) (k0:=k0) (k1:=k1) (k2:=k2) (k3:=k3) (k5:=k5) (newId:="ValueError.__new__") (x:=b) aa rfl (fun Q s hq=>bc (Constant_none (bc (ly (bp hq))))) (bc (ix (wpAny_Call_ofName (nF (X:=X.suite b) I hg hm ?_ hdb)) (fun v s3 h3=>bc (ly (bp h3))) fun _ _ x=>x))));refine W.callWith_K (h₀:=_) I.kIn hk (ix (ha cpos zg s σ H _ I h) (fun us s1 ⟨vs,H1,I1,r,⟨u0,ah⟩,q1⟩=>⟨I1.kIn,?_⟩) fun _ _ z=>z.elim) he hpl;obtain⟨a4,N1,a1,a3,ba,az,a2,ay,a9,ax,a7,l0,l1,l2,l3,l5,a6,as,ak,ao,T1,_⟩:=q.ob _ I1.kIn;obtain⟨oI,av,am⟩:∃oI,s1.heap.get? fI=some oI/\oI.cls=.type "function":=by
  have z:tz (fun x:Obj=>x.cls) (X.K.lookup fI)=some (.type "function"):=aj;cases hl:X.K.lookup fI with
  |none=>rw[hl]at z;cases z
  |some o=>rw[hl]at z;exact⟨o,I1.kIn _ _ hl,fg z⟩
 obtain⟨h1,g1,d1,aw,a8⟩:=s1;have ae:us.length<=bw:=by
  have hz:=r.length;have:=F.len _ _ _ _ (q1 h1.objs.size 0 (I1.hok.fresh (fe _)));have a5:ps.length<=1000:=ag;rw[cz]at this;rw[ig];omega
 refine FG T1 as ak ao av am (fun h' e2 hz mk=>?_) ae;obtain⟨t2,al,_,_⟩:=mk.there;have J:=I1.laid (a:=e2) (o:=exN e2 C none t2) (h':=h') (t':=aw) mk.keeps hz (Ab al);have f2:H1 e2=none:=I1.hok.fresh hz;have qq:=q1 e2 t2 f2;have hl:(bv e2::us).length=ps.length:=by
  have:=F.len _ _ _ _ qq;rw[cz]at this ⊢;rw[<- r.length];exact this
 have af:=hb _ (bv e2::us) J.kIn (by rw[jf];exact hl);rw[jf]at af;refine si (ou (F.run _ X.stack _ _ ⟨bv e2::us,[]⟩ (bv e2::us) (.ref e2::vs) _ _ (hr us) (J.env0.make C us []) af (.cons rfl r) qq) fun rr s' hq=>?_);cases rr with
 |error v=>exact hq.elim
 |ok fl=>
  cases fl with
  |ret u=>
   obtain⟨y,H2,I2,ry,rfl,⟨D2,d2,nD,ar⟩,dx,ai,hE⟩:=J.after hq;cases (show u=gf from ry);obtain⟨e3,_,_⟩:=(show ObjOk X.prog X.w H2 s'.heap e2 (exN e2 C dx t2)from I2.hok e2 _ ai);obtain⟨⟨ox,aq,_,_,vx,au,an⟩,_⟩:=(show ObjOk X.prog X.w H2 s'.heap b (exO b D2 d2)from I2.hok b _ ar);have ac:=G3 q I.kIn I2.kIn ap;have nb:b≠e2:=fun z=>by
    rw[z,f2]at ah;cases ah
   refine⟨rfl,e2,t2,dx,rfl,ac,e3,nb,fun z=>?_,⟨ox,vx,aq,au,an nD⟩,fun h3 g1 g2 _=>hR b C zg σ H1 H2 _ s' e2 t2 dx h3 (I1.unsuite ok) mk.new (I2.unsuite ok) ai g1 g2 hC hE⟩;rw[z,e3]at ac;cases ac
  |next=>exact ib hq
  |brk=>exact ib hq
  |cont=>exact ib hq
end
section
variable {P:df}{w:gg}{K:bt}{mg:Str->Option bb}{base:Heap}{N:List Str}{qual:Str}{scope:Scope}{f:Addr}{cd:bb}{A:fm}{outer:List Env}{s:bf}{H:Hp}{E:XK}
theorem KJ:RaisesH (bH (CX1 P w) P w K mg base N qual scope f cd A outer s H E) E:=fun b C zg σ H1 H2 s1 s2 e t dx h2 I1 ne I2 hn he aa hG hE=>IF (A1:=(bH (CX1 P w) P w K mg base N qual scope f cd A outer s H E).A.mark (some (.ref b))) (A2:=(bH (CX1 P w) P w K mg base N qual scope f cd A outer s H E).A) I2 hn (by
 cases z:s.heap.get? e with
 |none=>rfl
 |some o=>
  obtain⟨o1,q1⟩:=I1.base.there e o z (fun z=>by cases z);rw[ne]at q1;cases q1) hG he aa I1.ok.frames hE
end
section
variable {M:Model}{A:fm}{E:bb->bf->Prop}
inductive GlobsN (X:Cx):List Expr->List Addr->Prop
 |nil:GlobsN X [] []
 |cons {G:Str}{gp:Pos}{GA:Addr}{es:List Expr}{as:List Addr}:Gl X G->X.mg G=some (.ref GA)->(G==("__debug__":Str))=false->cu (.Name G gp::es) X.env=(false,eval (.Name G gp) X.env)::cu es X.env->GlobsN X es as->GlobsN X (.Name G gp::es) (GA::as)
theorem C2{X:Cx}{M:Model}{A:fm}{E:bb->bf->Prop}{s:bf}{pos:Pos}(ok:X.Ok)(gl:∀x v,X.mg x=some v->Gl X x->∀(Q:bb->bf->Prop),Q v s->bq M A (loadGlobal X.env x) Q E s):
  ∀{es:List Expr}{as:List Addr},GlobsN X es as->∀{Q:List bb->bf->Prop},Q (as.map bv) s->bq M A (spliced (kl pos (cu es X.env))) Q E s
 |_,_,.nil,Q,q=>Calls.spliced_nil q
 |_,_,.cons (G:=G) (gp:=gp) (GA:=GA) g m d hs r,Q,q=>by
  rw[hs];show bq _ _ (spliced ((false,eval _ X.env)::kl pos (cu _ X.env))) _ _ s;refine Calls.spliced_cons (Calls.Name_function_global ok.kind g (gl _ _ m g _ ?_) d);exact C2 ok gl r q
end
section
variable {X:Cx}{x:Str}{hpos pos tp np cpos rpos kpos:Pos}{kk:Nat}{tx1:Nat}{st:Stmt}{ns:List Expr}{Cs:List Addr}{C fI:Addr}{fd:ki}{ps:List Str}{sp:Sp}{k:Nat}{e:Expr}{es:List Expr}{t:TA}{E:XK}{tb:XK->TS}
def EL(K:bt)(E:XK)(Cs:List Addr)(C:Addr)(sp:Sp)(t:TA)(σ:St):XK:=fun cls a H'=>∃D b ini,cls=.ref D/\a=some b/\ExCls K D ini/\(∃G∈Cs,ra K D (.ref G)=some true)/\∀D,Dy E C sp b t D σ H'
def x4(K:bt)(E:XK)(Cs:List Addr)(C:Addr)(sp:Sp)(t:TA)(tb:XK->TS):TS:=fun D σ H=>tb (EL K E Cs C sp t σ) D σ H
theorem Jy(hsz:Cs.length<=bw)(ac:X.stack=X.env::X.outer)(a0:X.env.frame=some X.env.locals)(a4:GlobsN X ns Cs)(aw:∀G∈Cs,∃i,ExCls X.K G i)(hb:PSX X st tb)
  (hR:RaisesH X E) (hC:bv C∈ctxG) (hg:Gl X x) (hm:X.mg x=some (.ref C)) (q:ExCls X.K C (some (.ref fI))) (hk:pp X.K (.ref C)=true) (hfn:W.typeIn X.K (.ref fI)=some (.type "function")) (F:FnOkN X.prog X.w X.K X.mg X.base CX0 k fI fd ps sp) (hr:∀(b:Addr) (us:List bb),RoomN k ((X.suite b).A.under (.builtin "type.__call__" ⟨.ref C::us,[]⟩))) (hbi:Binds X.K fd ps []) (hpsz:ps.length<=1000)
  (ha:∀b,PA (X.suite b) (e::es) t) (hdb:(x==("__debug__":Str))=false:=by decide) (he:cu (e::es) X.env=(false,eval e X.env)::cu es X.env:=by rfl) (hpl:(kl cpos (cu es X.env)).any (·.1)=false:=by rfl):
  PS X (.Try [st] [.ExceptHandler (some (.Tuple ns tx1 tp)) none [.Raise (some (.Call (.Name x np) (e::es) [] cpos)) (some (.Constant .none kk kpos)) rpos] hpos] [] [] pos) (x4 X.K E Cs C sp t tb):=by
 intro zg s σ H D I h;refine wpAny_Try_except (qz (ix (hb zg s σ H D _ (fun e s₁=>bq (model X.prog X.w) X.A (ng e X.env) (fun _ s₂=>bq (model X.prog X.w) X.A (rg e none) (fun _ s₃=>bq (model X.prog X.w) X.A (handleBy e X.env [.ExceptHandler (some (.Tuple ns tx1 tp)) none [.Raise (some (.Call (.Name x np) (_::_) [] cpos)) (some (.Constant .none kk kpos)) rpos] hpos]) (SP X zg D) X.xe s₃) X.xe s₂) X.xe s₁) I h ?_) (fun fl s1 q=>?_) fun _ _ z=>z))
 rotate_left
 ·cases fl with
  |next=>exact on (on q)
  |ret v=>exact q
  |brk=>exact q
  |cont=>exact q
 intro H1 s1 v s' I1 cx;obtain⟨H',a,Cx0,dx,rfl,F0,C',b,ini,eC,eb,qC,ao,ax⟩:=cx;cases eC;cases eb;obtain⟨B,t0,fl,kB,eB,tB⟩:=F0.fl;rw[ac]at fl;have frames:X.A.frames=some (X.env::X.outer):=by rw[I1.ok.frames,ac]
 refine Ay frames a0 fl fun h₄ ae a2=>?_;refine GG ae fun h₅ aa au=>?_;have bB:∀b o,X.base.get? b=some o->B.get? b=some o:=fun b o e=>kB b o (I1.bk b o e) (I1.bs b o e).2 fun z=>by
  have:=(I1.stack.mem z).1;rw[e]at this;cases this
 have kin:X.K.In h₅:=I1.ok.mod.kin.all (fun b o e=>aa.1 b o (bB b o e)) fun q hq=>by
  have hk:=F0.un.tups _ _ (I1.frfH.kp q hq);obtain⟨o,e⟩:=tB _ _ hk;obtain⟨⟨_,o2,e2,_,k2⟩,_⟩:=(show ObjOk X.prog X.w H' s'.heap q.1.1 (.tup [.str q.2])from F0.hok _ _ hk);have e3:=fl.1 _ _ e;rw[e2,k2 q hq rfl]at e3;cases e3;exact aa.1 _ _ e
 obtain⟨oe,a5,a6,_⟩:=aa.there;refine wpAny_handleBy_cons (codeAny_handlers_test ?_) (by intro q;cases q);refine wpAny_Tuple_spliced (C2 I1.ok (fun y v m g Q hq=>Calls.loadGlobal_global (by rw[I1.ok.glob];exact I1.mod.glob.keeps fun b o e=>aa.1 b o (bB b o e)) m hq) a4 ⟨by rw[cg];exact hsz,?_⟩);dsimp only;generalize hP:h₅.push { cls:=.type "tuple",data:=.seq (Cs.map bv).toArray } = h₇;have kp:∀b o,h₅.get? b=some o->h₇.get? b=some o:=fun b o q=>by rw[<- hP];exact bn _ q
 have hT:IsTup h₇ h₅.objs.size (Cs.map bv).toArray:=by rw[<- hP];exact⟨_,cv _ rfl,rfl,_,rfl⟩
 have ag:FlyD B (X.env::X.outer) a (.ref Cx0) dx (.ref t0) h₇:=by
  obtain⟨f1,f2,f3,ak,aq,T,oT,ts,ar,az,as,ay,a1,av,aj,an,a3,am,h3⟩:=id aa;exact⟨fun b o q=>kp b o (f1 b o q),f2,f3.of_keeps fun b o q _=>⟨o,kp b o q,rfl⟩,ak,aq,T,oT,ts,kp _ _ ar,az,as,ay,a1,av,aj,an,kp _ _ a3,am,h3⟩
 obtain⟨a7,ah,ai,_⟩:=ag.there;have af:X.K.In h₇:=fun b o e=>kp _ _ (kin b o e);refine Om af qC aw ah ai hT ao (codeAny_handlers_suite ?_);refine Gg ag fun h₆ al ap=>?_;have I6:=Cr I1 ac F0 fl kB eB tB al (((a2.trans au).trans fun b o q nf=>⟨o.slots,kp b o q⟩).trans ap);exact qz (Im I6.ok hR hC hg hm q hk hfn F (hr a) hbi hpsz (ha a) (I6.suite a) (ax D) hdb he hpl)
end
def mH(kn:DEnds->XE->RX)(m:Nat)(q:PX)(da:DA)(Cs:List Addr)(EX:EXD)(C:Addr)(ns:List Str)(d2:DA):DS:=fun En δ S=>da δ S fun xs S1=>∃ds,datas xs=some ds/\ds.length=m /\
 q (ds.map XV.d) [] (ret0 S1 (kn En δ)) fun D _=>D∈Cs/\d2 δ S1 fun ys _=>∃es,datas ys=some es/\es.length=ns.length/\EX C (ns.zip es)
theorem M6{K:bt}{E:XK}{EX:EXD}{m:Nat}{ps ns:List Str}{q:PX}{tl t2:TA}{dl d2:DA}{Cs:List Addr}{C:Addr}{kn:DEnds->XE->RX}{kt:Ends->St->VK}{tb:XK->TS}(X0:Exs K)(aa:∀D∈Cs,D∈excs/\bv D∉ctxG)(hI:ExI K C)(hn:∀n∈ns,NoAttr K C n)(hm:ps.length=m)(al:KnOk kn kt)(am:∀Ex D σ H,tb Ex D σ H=(tl σ H fun vs H1=>spX ps q vs H1 (kt D σ) Ex))(ha:RA tl dl)(h2:RA t2 d2):
  RSx E EX (x4 K E Cs C (spI K ns) t2 tb) (mH kn m q dl Cs EX C ns d2):=fun h o H δ σ S En D he hs d c x=>by
 show tb (EL K E Cs C (spI K ns) t2 σ) D σ H;rw[am];refine ha h o H δ σ S _ _ he hs d fun o1 H1 S1 xs vs e1 s1 x1 ⟨es,ah,hl,d1⟩=>?_;have an:=fF ah;subst an;refine⟨by rw[x1.len,cg,hl,hm],h++o1,[],[],es.map XV.d,_,_,rep0 s1,hxs00 x1,d1,cn0 s1 (al h o1 H1 δ σ En D (he.mono e1) (c.pre e1)),?_⟩;intro o' H' S' D1 a fs e' s' hE ⟨hC,hh⟩;have EC:=X0.all D1 (aa D1 hC).1;obtain⟨ini,qC⟩:=X0.ci D1 (aa D1 hC).1;have sH:Same H1 H':=fun b u eb=>(e'.kp b u yv eb).2;have e2:Ex o1 H1 o1 H':=Ex.of_same sH;obtain⟨a',d',ea,ai,_⟩:=hE;cases ea;obtain⟨ac,_,aj⟩:=zU.mp ai;have ag:a∉o1:=fun z=>ac (fh _ z);refine⟨D1,a,ini,rfl,rfl,qC,⟨D1,hC,(EC.mroIn _).trans (by simp[exM])⟩,fun Dd=>?_⟩;refine h2 h o1 H' δ σ S1 _ _ ((he.mono e1).mono e2) (s1.same sH) hh fun o3 H3 S3 ys ws e3 s3 x3 ⟨ak,ap,aq,ao⟩=>?_;have a3:=(e3.kp a _ ag aj).2;refine⟨⟨_,a3⟩,fun a2 tt na=>?_⟩;have ae:=fF ap;have hL:=lZ x3 ae;have n2:a≠a2:=fun z=>by rw[z,na]at a3;cases a3
 refine⟨a2,C,tt,ws,rfl,by rw[hL.length];exact aq,hI,hn,zQ,fun dx nd=>⟨rfl,⟨D1,d',(aa D1 hC).2,?_⟩,some dx,?_,?_⟩⟩
 ·have n3:a≠dx:=fun z=>by rw[<- z,zL n2,a3]at nd;cases nd
  rw[zL n3,zL n2,zL n2];exact a3
 ·have ne:dx≠a2:=fun z=>by rw[z,zQ]at nd;cases nd
  rw[zL (gj ne),zQ]
 ·have ne:dx≠a2:=fun z=>by rw[z,zQ]at nd;cases nd
  have af:H3 dx=none:=by rwa [zL ne]at nd
  have eH:upd (upd (upd (upd H3 a2 (exN a2 C none tt)) a2 (exN a2 C (some dx) tt)) dx (xw dx (ns.zip ws))) a2 (exO a2 C (some dx))=upd (upd H3 dx (xw dx (ns.zip ws))) a2 (exO a2 C (some dx)):=by
   funext b;unfold upd;split
   ·rfl
   ·rfl
  rw[eH];have ac:upd H3 dx (xw dx (ns.zip ws)) a2=none:=by rw[zL (gj ne)];exact na
  have sU:=(Same.laid (o:=xw dx (ns.zip ws)) af).trans (Same.laid (o:=exO a2 C (some dx)) ac);have fa:=s3.fresh na;have fd:=s3.fresh af;refine(x.pre ((e1.trans e2).trans e3)) o3 _ S3 C a2 (ns.zip ak) (Ex.of_same sU) (s3.same sU) ⟨a2,some dx,rfl,zU.mpr ⟨fa.1,fa.2,zQ⟩,fun f dt l=>?_⟩ ao;obtain⟨u,e4,e5⟩:=Ag hL f dt l;exact⟨dx,ns.zip ws,u,rfl,zU.mpr ⟨fd.1,fd.2,by rw[zL ne,zQ]⟩,e4,Has.mono (kY sU) _ _ e5⟩
end L2
namespace L2
open PySem PySem.Spec PySem.Calls PyProof.Rows
section
variable {M:Model}{A:fm}{E:bb->bf->Prop}{s:bf}
theorem J6{e:bb}{aa env:Env}(h:aa.frame=env.frame):ng e aa=ng e env:=by
 unfold ng PySem.frameOf;rw[h]
theorem NE{base:Heap}{l:List Env}{e:Addr}{cls a0 fl:bb}{dx:Option Addr}{fr:Option Addr}{Q:Unit->bf->Prop}(aa:base.StaysIn s.heap)(ac:base.get? e=none)(hl:s.heap.FunFrames base l)(ht:RecAt s.heap base e cls dx a0 fl)
  (h:∀h' v,base.StaysIn h'->h'.FunFrames base l->RecAt h' base e cls dx a0 v->s.heap.UpToSlots h'->Q () { s with heap:=h' }):bq M A (rg (.ref e) fr) Q E s:=by
 cases fr with
 |none=>exact nV aa ac hl ht fun h' y u=>h h' _ y.1 y.2.2.1 y.2.2.2 u
 |some L=>exact Fp aa hl ht fun h' x1 x2 x3 u=>h h' _ x1 x2 x3 u
theorem B2{base B h h':Heap}:∀{l:List Env},h.FunFrames base l->(∀b,base.get? b=none->B.get? b=none)->(∀b o,b∈frs l->h.get? b=some o->h'.get? b=some o)->h'.FunFrames B l
 | [],_,_,_=>trivial
 |env::l,⟨hk,⟨L,o,hf,hn,ho,hd⟩,hr⟩,h1,h2=>⟨hk,⟨L,o,hf,h1 L hn,h2 L o (mem_filterMap.mpr ⟨env,cw,hf⟩) ho,hd⟩,B2 hr h1 fun b o m q=>h2 b o (by
  obtain⟨e,me,he⟩:=mem_filterMap.mp m;exact mem_filterMap.mpr ⟨e,cn _ me,he⟩) q⟩
end
section
variable {X:Cx}{E:XK}{zg:List (Addr×Obj)}{σ:St}
theorem Kj{H1:Hp}{s1 s':bf}{C:Addr}{v acc:bb}{aa:Env}{use:Option (bb->Sem Unit)}{Q:bb->bf->Prop}(RF:PassF X E)(ac:X.stack=X.env::X.outer)(aw:X.env.frame=some X.env.locals)(J:Inv X zg σ H1 s1)(hC:∃m,s1.heap.Ns C m)(aj:H1 C=none)(al:C∉frs X.stack)(ao:X.s₀.heap.get? C=none)(av:aa.frame=X.env.frame)(hx:CX1 X.prog X.w X.stack H1 s1 E v s'):
  notedBy (model X.prog X.w) X.A aa (fun e s'=>compPost (model X.prog X.w) X.A X.xe use Q acc C (.error e) s') v s':=by
 obtain⟨H',a,D,dx,rfl,F,hE⟩:=hx;obtain⟨B,t,fl,kB,eB,tB⟩:=F.fl;have frames:X.A.frames=some (X.env::X.outer):=by rw[J.ok.frames,ac]
 rw[ac]at fl;show bq _ _ (ng (.ref a) aa) _ _ _;rw[J6 av];refine Ay frames aw fl fun h₄ ae ax=>?_;obtain⟨m,o,es,ep,ho,hd,r⟩:=hC;have hB:B.get? C=some o:=kB C o ho aj al;have an:∃m,h₄.Ns C m/\∀h',fj C h₄ h'->∀aa:Env,aa.locals=C->bq (model X.prog X.w) X.A (PySem.passOn "comprehension.variables-let-go" (.ref a) aa:Sem bb) (fun _ _=>False) X.xe { s' with heap:=h' }:=by
  refine⟨m,⟨o,es,ep,ae.1 C o hB,hd,r⟩,fun h' hs ce _=>?_⟩;obtain⟨_,af,au,oe,vs,T,oT,ts,he,hc,ap,ak,h0,h1,ah,as,ay,aq,h3⟩:=id ae;have na:a≠C:=fun z=>by rw[z,hB]at af;cases af
  have nT:T≠C:=fun z=>by rw[z,hB]at ah;cases ah
  have sub:∀b o,(mq B [C]).get? b=some o->b≠C/\B.get? b=some o:=fun b o q=>⟨fun z=>(by
   rw[W.hideAll_none [C] (by rw[z];exact cw)]at q;cases q),W.of_hideAll _ q⟩
  have ag:∀b,B.get? b=none->(mq B [C]).get? b=none:=fun b q=>by
   cases z:(mq B [C]).get? b with
   |none=>rfl
   |some o=>rw[(sub b o z).2]at q;cases q
  have st:(mq B [C]).StaysIn h':=fun b o q=>by
   obtain⟨n,q⟩:=sub b o q;exact(hs.2 b n).trans (ae.1 b o q)
  have ar:C∉frs (X.env::X.outer):=by rw[<- ac];exact al
  have ff:h'.FunFrames (mq B [C]) (X.env::X.outer):=B2 au ag fun b o m q=>(hs.2 b fun z=>by rw[z]at m;exact ar m).trans q;have rc:RecAt h' (mq B [C]) a (.ref D) dx (.ref t) (ml X.env.locals):=⟨oe,vs,T,oT,ts,(hs.2 a na).trans he,hc,ap,ak,h0,h1,ag T ah,as,(hs.2 T nT).trans ay,aq,h3⟩;have sm:∀b o,s'.heap.get? b=some o->b≠C->(∀vs,o.data≠.fields vs)->∃sl,h'.get? b=some { o with slots:=sl }:=fun b o q n nf=>by
   obtain⟨sl,q1⟩:=ax b o q nf;exact⟨sl,(hs.2 b n).trans q1⟩
  unfold PySem.passOn;refine bc (fw ((hs.2 a na).trans he) ak h1 ?_);rw[cb (show ¬(bv T==gf)=true from by simp)];refine bc (NE (s:={ s' with heap:=h' }) st (ag a af) ff rc fun h2 v2 g1 g2 g3 g4=>wpAny_throw ?_);have ai:∀b o,B.get? b=some o->b≠C->h2.get? b=some o:=fun b o q n=>g1 b o (qm _ q (by simpa using n));refine RF zg σ H1 H' s1 _ [C] a D dx J (fun b z=>by rw[mem_singleton.mp z];exact ao) ⟨F.os,F.bare,⟨fun b o q n hb nx=>?_,fun b o q n hb nx=>?_,fun b o q n _=>F.un.free b o q n yv,fun b o q nx=>?_,F.un.tups,F.un.frzs,F.un.tbls⟩,F.hok.stays fun b u e o q=>?_,mq B [C],t,v2,g1,ag a af,by rw[ac];exact g2,g3,fun b o q n hb nx=>qm _ (kB b o q n hb) nx,fun b o q=>?_,fun b u e=>?_⟩ hE
  ·exact ai b o (kB b o q n hb) (by simpa using nx)
  ·obtain⟨sl,q1⟩:=F.un.any q n yv;rw[ac]at hb;obtain⟨_,o3,q3,nf⟩:=fl.2.2.1.mem hb;rw[q1]at q3;cases q3;obtain⟨az,q2⟩:=sm b _ q1 (by simpa using nx) nf;obtain⟨am,q4⟩:=g4 b _ q2 nf;exact⟨am,q4⟩
  ·rcases eB b o q with z|⟨o',z⟩
   ·rw[ac]at z;obtain⟨_,o3,q3,_⟩:=g2.mem z;exact⟨o3,q3⟩
   ·exact⟨o',ai b o' z (by simpa using nx)⟩
  ·have nb:b≠C:=fun z=>by
    have:=F.un.free C _ ho aj yv;rw[z,this]at e;cases e
   obtain⟨o',z⟩:=tB b u e;have:=fl.1 b o' z;rw[q]at this;cases this;exact ai b o z nb
  ·by_cases hb:b=C
   ·exact .inr (.inl (by rw[hb];exact cw))
   ·rcases eB b o q with z|⟨o',z⟩
    ·exact .inl z
    ·exact .inr (.inr ⟨o',qm _ z (by simpa using hb)⟩)
  ·have nb:b≠C:=fun z=>by
    have:=F.un.free C _ ho aj yv;rw[z,this]at e;cases e
   obtain⟨o',z⟩:=tB b u e;exact⟨o',qm _ z (by simpa using nb)⟩
 cases use<;>exact an
end
def pW(X:Cx)(scope:Scope)(cl:List (Str×Addr))(C:Addr)(s₃:bf)(H₃:Hp)(fp:List Addr)(N:List Str)(E:XK):Cx:=
 { bR X scope cl C s₃ H₃ fp N with xe:=fun e s'=>∃zg τ H1 s1,Inv (bR X scope cl C s₃ H₃ fp N) zg τ H1 s1/\CX1 X.prog X.w X.stack H1 s1 E e s' }
section
variable {X:Cx}{E:XK}{scope:Scope}{cl:List (Str×Addr)}{C:Addr}{s₃:bf}{H₃:Hp}{fp:List Addr}{N:List Str}{zg:List (Addr×Obj)}{σ:St}{H:Hp}{s:bf}
theorem Inv.ofX(I:Inv (pW X scope cl C s₃ H₃ fp N E) zg σ H s):Inv (bR X scope cl C s₃ H₃ fp N) zg σ H s:=
 ⟨⟨I.ok.mod,I.ok.kind,I.ok.glob,I.ok.blt,I.ok.above,I.ok.inj,I.ok.has,I.ok.cab,I.ok.hd,I.ok.frames,I.ok.stk,I.ok.exf,I.ok.bs,I.ok.bsz,I.ok.noex,I.ok.exfs,I.ok.funs,I.ok.frf⟩,I.os,I.bare,I.base,I.loc,I.cell,I.free,I.freeC,I.pin,I.hok,I.len⟩
theorem wW:Passes (CX1 X.prog X.w) (pW X scope cl C s₃ H₃ fp N E) E:=fun zg σ H s e s' I hx=>⟨zg,σ,H,s,I.ofX,hx⟩
end
section
variable {X:Cx}{scope:Scope}{cl:List (Str×Addr)}{N:List Str}{caps:List (Option Nat)}{tg iter elt:Expr}{ifs:List Expr}{pos:Pos}{wi:TI}{g:TG}{tt:TT}{te:TE}
theorem Mh{use:Option (bb->Sem Unit)}{Q:bb->bf->Prop}{E:XK}{zg:List (Addr×Obj)}{σ:St}{fp:List Addr}(RF:PassF X E)(aa:X.stack=X.env::X.outer)(ac:X.env.frame=some X.env.locals)(D:Addr)(s₃:bf)(H₃:Hp)(s':bf)(e:bb)(I3:Inv X zg σ H₃ s₃)(f3:∀b∈fp,FpOk X zg H₃ b)(q:(pW X scope cl s₃.heap.objs.size s₃ H₃ fp N E).xe e s'):
  notedBy (model X.prog X.w) X.A (compEnvC scope cl s₃.heap.objs.size X.env) (fun e s'=>compPost (model X.prog X.w) X.A X.xe use Q (.ref D) s₃.heap.objs.size (.error e) s') e s':=by
 obtain⟨_,τ,H1,s1,I0,hx⟩:=q;have I:Inv (bR X scope cl s₃.heap.objs.size s₃ H₃ fp N) [] τ H1 s1:=I0.pins_of fun p hp=>absurd hp yv;refine Kj RF aa ac (GI I3 f3 I (Heap.SameBut.refl _ _)) ?_ I.free ?_ ?_ rfl hx
 ·obtain⟨m,hn,_⟩:=I.loc;exact⟨m,hn⟩
 ·intro z;obtain⟨_,o,q,_⟩:=I3.stack.mem z;exact absurd (fi q) (jw _)
 ·cases z:X.s₀.heap.get? s₃.heap.objs.size with
  |none=>rfl
  |some o=>exact absurd (fc (fi z) I3.sz) (jw _)
theorem uW{E:XK}{i:Nat}{y:Str}{py aa:Pos}(RF:PassF X E)(ac:X.stack=X.env::X.outer)(ae:X.env.frame=some X.env.locals)(hc:X.calm=true)(c:CompOk X scope cl N caps)(hN:X.N.Nodup)(ag:X.N[i]?=some y)(hl:X.env.scope.names.lookup y=some .local)(hi:PI X tg iter wi)(hg:∀C s H fp,PG (bR X scope cl C s H fp N) tg g)
  (ht:∀C s H fp,PTs (bR X scope cl C s H fp N) ifs tt) (he:∀C s H fp,PE (pW X scope cl C s H fp N E) elt te)
  (hsw:sj (.ListComp elt [⟨tg,iter,ifs,0⟩] scope pos) (some (.Name y py)) aa.line X.env=pure true:=by rfl)
  (hs:∀x,foldedSetIterable iter X.env x=pure x:=by intro _;rfl):PS X (.Assign [.Name y py] (.ListComp elt [⟨tg,iter,ifs,0⟩] scope pos) aa) (iH (kU caps wi g tt te) (gP i)):=by
 intro zg s σ H D I h;rw[exec_Assign_Name_used _ _ _ _ hsw];refine bc (ly (bc ?_));show bq _ X.A (do let _ <- comprehension (.ListComp elt [⟨tg,iter,ifs,0⟩] scope pos) scope X.env _ (newList []) false (eval iter X.env) (some (assign (.Name y py) X.env))) _ _ s;refine bc (ix (wpAny_comprehension_free (use:=some (assign (.Name y py) X.env)) (Q:=fun _ s'=>SP X zg D .next s') rfl hs c.clos c.kind c.names (thn (hi zg s σ H _ I h) fun v s1 h1=>thn h1 fun ah s2 h2=>?_)) (fun _ s' hq=>bp (bp hq)) fun _ _ e=>e);obtain⟨it,fp,tn,J,H2,e,I2,T,af,f2,q2⟩:=h2;subst e;refine CW (fun C s H fp=>(pW X scope cl C s H fp N E).xe) (RR:=fun acc C=>compPost (model X.prog X.w) X.A X.xe (some (assign (.Name y py) X.env)) (fun _ s'=>SP X zg D .next s') acc C) hc c I2 T af f2 hg ht he (fun v H'=>D.nx (σ.set i (some v)) H') q2 (fun Da C H' s' m hn f hb q=>?_) (Mh RF ac ae);obtain⟨o,es,ep,ho,hd,r⟩:=hn;have I':Inv X zg σ H' s':=hb s'.heap (Heap.SameBut.refl _ _);have I'':Inv X (zg++[(C,o)]) σ H' s':=I'.pins_of fun p hp=>(mem_append.mp hp).elim (fun z=>I'.pin p (fh _ z)) fun z=>by
  cases mem_singleton.mp z;exact⟨ho,f.1,f.2.1,f.2.2.1,fun v e=>by rw[hd]at e;cases e⟩
 refine wpAny_assign_Name (nU I'' hN ag (.inl hl) (show RelV (V.ref Da) (bv Da)from rfl) (fun s2 J2=>?_) (.inr hl));refine⟨m,⟨o,es,ep,(J2.pin (C,o) (fh _ (fh _ (mem_singleton.mpr rfl)))).1,hd,r⟩,fun h' hs=>?_⟩;exact⟨_,H',J2.unpinned.turned (t':=s2.toks) (fun b ob nb e=>hs.extBut b ob nb e) f.1 f.2.1 f.2.2.2.1 f.2.2.2.2.1 f.2.2.2.2.2,q⟩
end
end L2
namespace L2
open PySem PySem.Spec PySem.Calls PyProof.Rows
theorem PSX.nox{X:Cx}{st:Stmt}{t:XK->TS}(h:PSX X.nox st t):PSX X st t:=fun zg s σ H D Ex E' I hw hX=>
 ix (h zg s σ H D Ex E' (I.wish _) hw fun H1 s1 v s' I1 c=>hX H1 s1 v s' (I1.wish _) c) (fun _ _ q=>q.unwish) fun _ _ z=>z
section
variable {X:Cx}{E:XK}{x:Str}{C:Addr}{nms:List Str}{qual:Str}{st:Stmt}{j:Nat}
variable {hpos pos tp np cpos rpos kpos:Pos}{kk tx1:Nat}{ns:List Expr}{Cs:List Addr}{e:Expr}{es:List Expr}{t:TA}{tb:XK->TS}{qst:Stmt}
theorem NL(B:XI X.K C nms qual st)(hF:∀f fd,Fun X.K "__init__" qual st f fd->FnOkN X.prog X.w X.K X.mg X.base CX0 1 f fd (("self":Str)::nms) (spI X.K nms))(hR:RaisesH X E)(hC:bv C∈ctxG)(hr:Room j X.A)(hj:2<=j)(hm:X.mg x=some (.ref C))(hn:nms.length<=9)
  (hsz:Cs.length<=bw) (hst:X.stack=X.env::X.outer) (hfr:X.env.frame=some X.env.locals) (hgn:GlobsN X ns Cs) (qGs:∀G∈Cs,∃i,ExCls X.K G i) (hb:PSX X.nox qst tb)
  (ha:∀b,PA (X.suite b) (e::es) t) (hg:Gl X x:=by rfl) (hdb:(x==("__debug__":Str))=false:=by decide) (he:cu (e::es) X.env=(false,eval e X.env)::cu es X.env:=by rfl) (hpl:(kl cpos (cu es X.env)).any (·.1)=false:=by rfl):
  PS X (.Try [qst] [.ExceptHandler (some (.Tuple ns tx1 tp)) none [.Raise (some (.Call (.Name x np) (e::es) [] cpos)) (some (.Constant .none kk kpos)) rpos] hpos] [] [] pos) (x4 X.K E Cs C (spI X.K nms) t tb):=by
 obtain⟨fI,fd,q,ac,F,aa⟩:=B.ex;exact Jy hsz hst hfr hgn qGs hb.nox hR hC hg hm q B.kc ac (hF fI fd F) (fun b us=>⟨((hr.mono hj).make C us []).dp,((hr.mono hj).make C us []).un⟩) aa (by rw[cz];omega) ha hdb he hpl
end
end L2
namespace L2
open PySem PySem.Spec PyProof.Rows
section
section
variable {X:Cx}
open PySem.W PySem.Builtin PySem.Builtin.Str
def CS:V->List V->Hp->VK->Prop:=fun x vs H Q=>∃z y,x=.str z/\vs=[.str y]/\∃(i:Nat) (r:List Nat),PySem.Builtin.Str.occurrences z y 0 z.length 1=i::r/\Q (.int i) H
theorem OK:MtR X "str.index" CS:=by
 intro zg s σ H x vs v us Q I rx rv h;obtain⟨z,y,rfl,rfl,i,r,ho,q⟩:=h;obtain⟨t,rfl⟩:=rx;obtain⟨u,rfl,r1⟩:=rv.one;obtain⟨t',rfl⟩:=r1;exact SC.index ho ⟨.int i,H,I.tok _,⟨_,rfl⟩,q⟩
end
def j6:XV->List XV->Sto->RX->Prop:=fun x xs S R=>asS x fun z=>arg1 xs fun y=>asS y fun y=>∃(i:Nat) (r:List Nat),PySem.Builtin.Str.occurrences z y 0 z.length 1=i::r/\R (.d (.int i)) S
theorem Mn:RM CS j6:=fun h o H S x v xs vs R Q hs hx aa q c=>by
 replace q:=eX q;obtain⟨z,rfl,q⟩:=q;obtain⟨y,rfl,q⟩:=cK q;replace q:=eX q;obtain⟨y,rfl,i,r,ho,q⟩:=q;obtain⟨u,rfl,hu⟩:=hxs1 aa;cases cI hu;exact⟨z,y,cI hx,rfl,i,r,ho,c o H S _ _ Ex.refl hs (xI _) q⟩
end
section
def IteB(Sq:Hp->Addr->List V->Prop)(b:Nat)(a:Addr):It:=
 ⟨fun i H=>∃xs x,Sq H a xs/\xs[i]?=some x,fun i H x H'=>∃p v,H p=none/\x=.ref p/\H'=upd H p (.tup [.int ((i+b:Nat):Int),v])/\∀xs,Sq H a xs->xs[i]?=some v,fun i H=>∃xs,Sq H a xs/\xs.length<=i⟩
theorem HL{P:df}{w:gg}{K:bt}{elts:List Expr}{n:Nat}{pos:Pos}(t:Bool)(b:Nat)(a e j:Addr)(ac:e≠j):Turn P w K (.Tuple elts n pos) (IteB (SqV K t) b a) [e,j] e (fun i h=>(∃aa,IsEnum h e j ((i+b:Nat):Int) aa)/\ItK t h j a i) where
 mem:=by simp
 obj:=fun i h ⟨⟨aa,he⟩,hj⟩ c hc=>by
  rcases mem_cons.mp hc with rfl|hc
  ·exact⟨_,he,fun v z=>by
    have z':Data.fields _=Data.cell v:=z;cases z'⟩
  ·rw[mem_singleton.mp hc];exact hj.here
 keep:=fun i h h' ⟨⟨aa,he⟩,hj⟩ k=>⟨⟨aa,k e yv _ he⟩,hj.at fun o q=>k j yv o q⟩
 item:=by
  intro X hP hw hK hc i zg s σ H E I hf ⟨⟨aa,he⟩,hj⟩ hg;subst hP hw hK;obtain⟨xs,x,hq,hx⟩:=hg;obtain⟨ae,rv,hT,inj⟩:=I.seqK hq;obtain⟨u,hu,ru⟩:=rv.get hx;refine LV (J:=fun g=>ItK t g j a (i+1)) he ac (fun A' Q' E' k=>oJ hj hT (x:=u) (by simpa using hu) k) (fun g g' z k=>z.at k) fun g e1 j1 t1 k1=>?_;refine⟨_,rfl,wpAny_letOwnedTupleGo_enum (s:={ s with heap:=g,toks:=s.toks+1 }) e1 fun g' e2 b2=>?_⟩;have lt:∀c∈[e,j],c≠s.heap.objs.size:=fun c hc=>by
   rcases mem_cons.mp hc with rfl|hc
   ·exact jq (fi he)
   ·rw[mem_singleton.mp hc];obtain⟨_,q,_⟩:=hj.here;exact jq (fi q)
  have t2:g'.get? s.heap.objs.size=some { cls:=.type "tuple",data:=.seq #[.int ((i+b:Nat):Int) s.toks,u] }:=(b2.2 _ (gj (lt e yv))).trans t1;refine⟨.ref s.heap.objs.size,upd H s.heap.objs.size (.tup [.int ((i+b:Nat):Int),x]),I.turnLaid (ch:=[e,j]) (t':=s.toks+1) (fun c o nb q=>(b2.2 c fun z=>nb (by simp[z])).trans (k1 c o (fun z=>nb (by simp[z])) (fun z=>nb (by simp[z])) q)) hf (fe _) ?_,rfl,
   ⟨_,x,I.hok.fresh (fe _),rfl,rfl,fun ys hy=>by rw[inj ys hy];exact hx⟩,⟨⟨u,by rw[Nat.add_right_comm];simpa using e2⟩,j1.at fun o q=>(b2.2 j (gj ac)).trans q⟩,fun c hc=>by
    rw[zL (lt c hc)];exact(hf c hc).1⟩
  exact⟨⟨by show 2<=bw;decide,_,t2,rfl,I.kpNew⟩,[.int ((i+b:Nat):Int) s.toks,u],.cons ⟨s.toks,rfl⟩ (.cons ru .nil),⟨_,t2,rfl,_,rfl⟩⟩
 done:=by
  intro X hP hw hK hc i zg s σ H E I hf ⟨⟨aa,he⟩,hj⟩ hg;subst hP hw hK;obtain⟨xs,hq,hx⟩:=hg;obtain⟨ae,rv,hT,inj⟩:=I.seqK hq;have hl:=rv.length;exact PP (I.ok.hd hc) he (fun A' Q' E' h0 k=>tZ h0 hj hT (by simp;omega) k) fun g b=>⟨rfl,I.turnedN (ch:=[e,j]) (t':=s.toks) (fun b' o nb q=>b b' o (fun z=>nb (by simp[z])) q) hf⟩
 self:=fun _ _ _ _ _ st h=>by
  obtain⟨⟨aa,he⟩,_⟩:=st;exact wpAny_pyIter_enum he h
section
variable {X:Cx}{elts:List Expr}{n:Nat}{tpos:Pos}
def qB(K:bt)(b:Nat)(ta:TA):TI:=fun σ H R=>ta σ H fun vs H1=>∃a t,vs=[.ref a]/\(∃xs,SqV K t H1 a xs)/\(t=true->b=0)/\R (IteB (SqV K t) b a) H1
theorem xO{t:Bool}{b:Nat}{a:Addr}{zg:List (Addr×Obj)}{σ:St}{H:Hp}{s:bf}{R:It->Hp->Prop}{g:Heap}(I:Inv X zg σ H s)(he:IsEnum g (s.heap.objs.size+1) s.heap.objs.size ((b:Nat):Int) .none)(hj:ItK t g s.heap.objs.size a 0)(hk:∀c o,s.heap.get? c=some o->g.get? c=some o)(q:R (IteB (SqV X.K t) b a) H):
  bq (model X.prog X.w) X.A (pyIter (.ref (s.heap.objs.size+1))) (PIE X zg σ (.Tuple elts n tpos) R) X.xe { s with heap:=g }:=by
 refine wpAny_pyIter_enum (s:={ s with heap:=g }) he ?_;refine⟨s.heap.objs.size+1,[s.heap.objs.size+1,s.heap.objs.size],_,_,H,rfl,I.kept (t':=s.toks) hk,HL t b a _ _ (Nat.succ_ne_self _),⟨⟨_,by rw[zero_add];exact he⟩,hj⟩,fun c hc=>?_,q⟩;rcases mem_cons.mp hc with rfl|hc
 ·exact I.fpOk (le_succ _) (I.hok.fresh (le_succ _))
 ·rw[mem_singleton.mp hc];exact I.fpOk (fe _) (I.hok.fresh (fe _))
theorem KI{a:Expr}{ta:TA}{p pos:Pos}(hg:Gl X "enumerate")(hm:X.mg "enumerate" = none)(ha:PA X [a] ta)(hs:cu [a] X.env=[(false,eval a X.env)]:=by rfl):PI X (.Tuple elts n tpos) (.Call (.Name "enumerate" p) [a] [] pos) (qB X.K 0 ta):=by
 intro zg s σ H R I h;refine Call_ (gY I hg hm GM (jh (thn (ha pos zg s σ H _ I h) fun us s1 ⟨vs,H1,I1,r1,q1⟩=>?_) hs rfl));obtain⟨c,t,e,⟨xs,hq⟩,_,q⟩:=q1;subst e;cases r1 with
 |cons r rr=>
  cases rr;cases r;obtain⟨aa,rv,pl,_⟩:=I1.seqK hq;cases t with
  |false=>exact call_enumerate_list pl fun g he hj _ k=>xO (t:=false) (b:=0) I1 he hj k q
  |true=>exact Lc pl fun g he hj k=>xO (t:=true) (b:=0) I1 he hj k q
theorem KC{a:Expr}{ta:TA}{p pos kp cp:Pos}{cj:Nat}(hg:Gl X "enumerate")(hm:X.mg "enumerate" = none)(ha:PA X [a] ta)
  (he:kl pos (cu [a] X.env)=(false,eval a X.env)::kl pos (cu [] X.env):=by rfl) (hpl:(kl pos (cu [a] X.env)).any (·.1)=false:=by rfl):PI X (.Tuple elts n tpos) (.Call (.Name "enumerate" p) [a] [⟨some "start",.Constant (.int 1) cj cp,kp⟩] pos) (qB X.K 1 ta):=by
 intro zg s σ H R I h;refine lv (gY I hg hm GM ?_);refine NW (thn (ha pos zg s σ H _ I h) fun us s1 ⟨vs,H1,I1,r1,q1⟩=>?_) he hpl rfl rfl;refine PyProof.Rows.kws_cons (wpAny_Constant_int (PyProof.Rows.kws_nil ?_));obtain⟨c,t,e,⟨xs,hq⟩,ht,q⟩:=q1;subst e;cases r1 with
 |cons r rr=>
  cases rr;cases r;have I1':=I1.tok (s1.toks+1);obtain⟨aa,rv,pl,_⟩:=I1'.seqK hq;cases t with
  |false=>exact Ir pl fun g he hj k=>xO (t:=false) (b:=1) I1' he hj k q
  |true=>exact absurd (ht rfl) dz
end
theorem GL{K:bt}{ta:TA}{da:DA}{b:Nat}{P:XV->List bg->Prop}(hP:∀x ds,P x ds->x=.d (.list ds)\/x=.d (.tuple ds)/\b=0)(ha:RA ta da):RI (qB K b ta) (fun δ S R=>da δ S fun xs S1=>arg1 xs fun x=>∃ds,P x ds/\R (iI b ds) S1):=fun h o H δ σ S R Q he hs q c=>
 ha h o H δ σ S _ _ he hs q fun o1 H1 S1 xs vs e1 s1 x1 d0=>by
  obtain⟨x,rfl,ds,hd,d1⟩:=cK d0;obtain⟨v,rfl,hv⟩:=hxs1 x1;have fin:∀{t:Bool}{a:Addr}{ws:List V},(t=true->b=0)->(∀{o2 H2},ExH h o1 H1 o2 H2->SqV K t H2 a ws)->HasL (vx h o1 H1) ds ws->v=.ref a->∃a t,[v]=[.ref a]/\(∃xs,SqV K t H1 a xs)/\(t=true->b=0)/\Q (IteB (SqV K t) b a) H1:=by
   rintro t a ws tb ea l rfl;have hl:=l.length;refine⟨a,t,rfl,⟨ws,ea .refl⟩,tb,c o1 H1 S1 _ _ e1 s1 ⟨fun i o2 H2 e2 hi=>⟨ws,ea e2,by rw[vC]at hi;omega⟩,fun i d o2 H2 e2 hi=>?_,fun i d o2 H2 x H3 S2 e2 s2 hi y=>?_⟩ d1⟩
   ·obtain⟨e,h1,rfl⟩:=o9 ds b i d hi;obtain⟨u,eu,_⟩:=l.get h1;exact⟨ws,u,ea e2,eu⟩
   ·obtain⟨e,h1,rfl⟩:=o9 ds b i d hi;obtain⟨u,eu,hu⟩:=l.get h1;obtain⟨p,v,hp,rfl,rfl,hy⟩:=y;have ev:=hy ws (ea e2);rw[eu]at ev;cases ev;refine⟨Same.laid hp,dG.mpr ⟨p,_,rfl,s2.laid hp,zu.mpr ⟨_,_,rfl,?_,zu.mpr ⟨_,_,rfl,(hu.mono e2.vx).mono (kY (Same.laid hp)),zE.mpr rfl⟩⟩⟩⟩;rw[Nat.add_comm];exact f7.mpr rfl
  rcases hP x ds hd with rfl|⟨rfl,b0⟩
  ·obtain⟨a,ws,e,ea,l⟩:=dS.mp (show Has (vx h o1 H1) (.list ds) v from hv);exact fin (t:=false) (fun z=>by cases z) (fun e2=>.of (bQ _ _ (e2.vx _ _ ea))) l e
  ·obtain⟨a,ws,e,ea,l⟩:=dG.mp (show Has (vx h o1 H1) (.tuple ds) v from hv);exact fin (t:=true) (fun _=>b0) (fun e2=>.of (bQ _ _ (e2.vx _ _ ea))) l e
theorem Ob{K:bt}{ta:TA}{da:DA}(ha:RA ta da):RI (qB K 0 ta) (lJ da):=GL (b:=0) (P:=fun x ds=>dY x=some ds) (fun x ds e=>by
 unfold dY at e;split at e<;>cases e
 ·exact .inl rfl
 ·exact .inr ⟨rfl,rfl⟩) ha
theorem L4{K:bt}{ta:TA}{da:DA}(ha:RA ta da):RI (qB K 1 ta) (nH da):=GL (b:=1) (P:=fun x ds=>x=.d (.list ds)) (fun _ _ e=>.inl e) ha
instance:Stb (fun _ _ _=>True):=⟨fun _ _=>trivial⟩
section
variable {Φ:Phi} [Stb Φ] {caps:List (Option Nat)}{wi:TI}{g:TG}{tt:TT}{te:TE}{di:DI}{dg:DG}{dtt:DT}{dte:DE}
theorem MA(hi:RIp Φ wi di)(hg:RG g dg)(ht:RT tt dtt)(aa:RE te dte):REp Φ (kU caps wi g tt te) (cP caps di dg dtt dte):=pY hi hg (cQ ht) (jQ aa)
theorem kS(hi:RI wi di)(hg:RG g dg)(ht:RT tt dtt)(aa:RE te dte):RE (kU caps wi g tt te) (cP caps di dg dtt dte):=fun h o H δ σ S R Q he hs q c=>MA (Φ:=fun _ _ _=>True) (kH hi) hg ht aa h o H δ σ S R Q he hs q c trivial
theorem wN(hi:RI wi di)(hg:RG g dg)(ht:RT tt dtt)(aa:RE te dte):RE (kU caps wi g tt te) (iG caps di dg dtt dte):=fun h o H δ σ S R Q he hs q c=>by
 refine G0 (Φ:=fun _ _ _=>True) (w:=trivial) (fin:=fun n S2=>R (.l n) S2) (kH hi) hg (cQ ht) (jQ aa) he hs q fun o1 H1 D o2 H2 S2 e1 hD e2 s2 f=>?_;have eN:Ex o1 H1 (o1++[D]) (upd H1 D (.lst [])):=⟨⟨[D],rfl⟩,fun b w hb e=>by
  have ne:b≠D:=zO e hD;exact⟨by simp[hb,ne],by rw[zL ne];exact e⟩⟩
 refine c o2 H2 S2 (.l o1.length) _ ((e1.trans eN).trans e2) s2 ⟨D,?_,rfl⟩ f;obtain⟨r,rfl⟩:=e2.pre;exact iU (by rw[ck])
end
end
end L2
namespace My
open PySem L2
def nO:PN:=fun xs S R=>(aC (cS (dCB dA (zc (zh 0) (zc (dO (.ty "int")) zp))) (kM (dCB dA (zc (zh 0) (zc (dO (.ty "bool")) zp)))))) (aG S.length R) (xs.map some++bo 0 none) S
def uG:PN:=fun xs S R=>(zR (aA (dOp (dI (fun _ j=>0<j) fun i j=>i % j) (dOp aB (zh 0) (dC (.int 7919))) (dC (.int 2147483647))) (zk 0)) (aC (dOp (dI (fun _ j=>0<j) fun i j=>i % j) (dOp aB (dOp aB (dOp cE (zh 0) (zh 0)) (dOp cE (dC (.int 48271)) (zh 0))) (dC (.int 12345))) (dC (.int 2147483629))))) (aG S.length R) (xs.map some++bo 0 none) S
def wG:PN:=fun xs S R=>(zR (aA (dCB (dI2 fun i j=>if j>i then j else i) (zc (zh 0) (zc (dOp (dI0 fun i j=>i-j) (dC (.int 0)) (zh 0)) zp))) (zk 1)) (aC (dR (zc (zh 1) (zc (dCB lP (zc (dOp (dIb fun i j=>decide (j<=i)) (zh 1) (dOp (dI CPow fun i j=>i ^ j.toNat) (dC (.int 10)) (dC (.int 18)))) zp)) (zc (dOp (dI (fun _ j=>0<j) fun i j=>i % j) (zh 1) (dC (.int 1000003))) zp)))))) (aG S.length R) (xs.map some++bo 1 none) S
def xC:PN:=fun xs S R=>(aC (cS (dCB dA (zc (zh 0) (zc (dO (.ty "int")) zp))) (kM (dCB dA (zc (zh 0) (zc (dO (.ty "bool")) zp)))))) (aG S.length R) (xs.map some++bo 0 none) S
def zt:PN:=fun xs S R=>(zR (aD (dB (dOp aH (dOp dIx (zh 0) (dC (.int 1))) (dC (.int 1)))) (zR (aA (dOp (dI (fun _ j=>0<j) fun i j=>i % j) (dOp dIx (zh 0) (dC (.int 0))) (zh 1)) (zk 2)) (zR (aA (dOp dFd (dOp dIx (zh 0) (dC (.int 0))) (zh 1)) (iZ (zh 0) (dC (.int 0)))) (aC (zh 2)))) aE) (zR (aA (aP 1 uG (zc (dOp aB (aP 1 uG (zc (dOp dIx (zh 0) (dC (.int 2))) zp)) (dC (.int 7))) zp)) (iZ (zh 0) (dC (.int 2)))) (aC (dOp (dI (fun _ j=>0<j) fun i j=>i % j) (dOp dFd (dOp dIx (zh 0) (dC (.int 2))) (dC (.int 64))) (zh 1))))) (aG S.length R) (xs.map some++bo 1 none) S
def v0:PN:=fun xs S R=>(zR (aA (zS 0 2 zt (zc (zh 0) (zc (dC (.int 8)) zp))) (zk 1)) (zR (aD (dB (dOp (dIb fun i j=>decide (i<j)) (zh 1) (dC (.int 5)))) (aC (dOp (dI0 fun i j=>i-j) (zS 0 2 zt (zc (zh 0) (zc (dC (.int 13)) zp))) (dC (.int 6)))) aE) (zR (aD (dB (dOp (dIb fun i j=>decide (i<j)) (zh 1) (dC (.int 7)))) (aC (dOp (dI0 fun i j=>i-j) (zS 0 2 zt (zc (zh 0) (zc (dC (.int 2001)) zp))) (dC (.int 1000)))) aE) (aC (dOp cE (dOp (dI0 fun i j=>i-j) (zS 0 2 zt (zc (zh 0) (zc (dOp cE (dC (.int 2)) (dOp (dI CPow fun i j=>i ^ j.toNat) (dC (.int 10)) (dC (.int 30)))) zp))) (dOp (dI CPow fun i j=>i ^ j.toNat) (dC (.int 10)) (dC (.int 30)))) (dOp (dI CPow fun i j=>i ^ j.toNat) (dC (.int 10)) (dC (.int 28)))))))) (aG S.length R) (xs.map some++bo 1 none) S
def Ap:PN:=fun xs S R=>(zR (aA (zS 0 1 v0 (zc (zh 0) zp)) (zk 1)) (zR (aA (zS 0 2 zt (zc (zh 0) (zc (dC (.int 5)) zp))) (zk 2)) (zR (aD (dB (dOp aH (zS 0 2 zt (zc (zh 0) (zc (dC (.int 8)) zp))) (dC (.int 7)))) (aA (zS 0 2 zt (zc (zh 0) (zc (dOp (dI CPow fun i j=>i ^ j.toNat) (dC (.int 10)) (dC (.int 40))) zp))) (zk 2)) aE) (aC (bJ (zc (zh 1) (zc (dOp aB (zh 1) (zh 2)) zp))))))) (aG S.length R) (xs.map some++bo 2 none) S
def Gr:PN:=fun xs S R=>(zR (aA (zS 0 2 zt (zc (zh 0) (zc (dC (.int 8)) zp))) (zk 1)) (zR (aD (dB (dOp (dIb fun i j=>decide (i<j)) (zh 1) (dC (.int 5)))) (aC (dOp (dI0 fun i j=>i-j) (zS 0 2 zt (zc (zh 0) (zc (dC (.int 13)) zp))) (dC (.int 6)))) aE) (zR (aD (dB (dOp (dIb fun i j=>decide (i<j)) (zh 1) (dC (.int 7)))) (aC (dOp (dI0 fun i j=>i-j) (zS 0 2 zt (zc (zh 0) (zc (dC (.int 2001)) zp))) (dC (.int 1000)))) aE) (aC (dOp cE (dOp (dI0 fun i j=>i-j) (zS 0 2 zt (zc (zh 0) (zc (dOp cE (dC (.int 2)) (dOp (dI CPow fun i j=>i ^ j.toNat) (dC (.int 10)) (dC (.int 30)))) zp))) (dOp (dI CPow fun i j=>i ^ j.toNat) (dC (.int 10)) (dC (.int 30)))) (dOp (dI CPow fun i j=>i ^ j.toNat) (dC (.int 10)) (dC (.int 28)))))))) (aG S.length R) (xs.map some++bo 1 none) S
def Ds:PN:=fun xs S R=>(zR (aA (zS 0 1 v0 (zc (zh 0) zp)) (zk 1)) (zR (aA (zS 0 2 zt (zc (zh 0) (zc (dC (.int 5)) zp))) (zk 2)) (zR (aD (dB (dOp aH (zS 0 2 zt (zc (zh 0) (zc (dC (.int 8)) zp))) (dC (.int 7)))) (aA (zS 0 2 zt (zc (zh 0) (zc (dOp (dI CPow fun i j=>i ^ j.toNat) (dC (.int 10)) (dC (.int 40))) zp))) (zk 2)) aE) (aC (bJ (zc (zh 1) (zc (dOp aB (zh 1) (zh 2)) zp))))))) (aG S.length R) (xs.map some++bo 2 none) S
def m4:PN:=fun xs S R=>(zR (aD (dOr (aZ (bA (dCB dA (zc (zh 0) (zc (dO (.ty "str")) zp))))) (aZ (dB (fH (dIb fun i j=>decide (i<=j)) (dIb fun i j=>decide (i<=j)) (dC (.int 1)) (dCB aK (zc (zh 0) zp)) (dC (.int 8)))))) (aC (dC (.bool false))) aE) (aC (dCB i0 (zc (cP [none] (gC (zh 0)) (zk 0) aI (dOp dIn (zh 0) (dC (.str "abcdefghijklmnopqrstuvwxyz")))) zp)))) (aG S.length R) (xs.map some++bo 0 none) S
def u9:PN:=fun xs S R=>(zR (aA (aT (zc (dCB fD (zc (zh 0) (zc (dO (.ref 37)) zp))) (zc (dCB fD (zc (zh 0) (zc (dO (.ref 49)) zp))) (zc (dCB fD (zc (zh 0) (zc (dO (.ref 61)) zp))) (zc (dCB fD (zc (zh 0) (zc (dO (.ref 161)) zp))) zp))))) (zk 1)) (zR (aA (dOp aB (zh 1) (aT (zc (dCB fD (zc (zh 0) (zc (dO (.ref 73)) zp))) (zc (dCB fD (zc (zh 0) (zc (dO (.ref 85)) zp))) (zc (dCB fD (zc (zh 0) (zc (dO (.ref 104)) zp))) (zc (dCB fD (zc (zh 0) (zc (dO (.ref 123)) zp))) zp)))))) (zk 1)) (zR (aA (dOp aB (zh 1) (aT (zc (dCB fD (zc (zh 0) (zc (dO (.ref 142)) zp))) (zc (dCB fD (zc (zh 0) (zc (dO (.ref 180)) zp))) zp)))) (zk 1)) (zR (aD (dOr (aZ (bA (dCB fD (zc (zh 0) (zc (dO (.ty "ValueError")) zp))))) (dB (dOp eA (gJ k6 (zh 1) (zc (dC (.bool true)) zp)) (dC (.int 1))))) (aC (dC (.str "other"))) aE) (zR (aA (aT (zc (dC (.str "span")) (zc (dC (.str "part")) (zc (dC (.str "set")) (zc (dC (.str "text")) (zc (dC (.str "row")) (zc (dC (.str "unlike")) (zc (dC (.str "drawing")) (zc (dC (.str "gap")) (zc (dC (.str "offer")) (zc (dC (.str "great")) zp))))))))))) (zk 2)) (aC (dOp dIx (zh 2) (gJ iF (zh 1) (zc (dC (.bool true)) zp))))))))) (aG S.length R) (xs.map some++bo 2 none) S
def sR:PN:=fun xs S R=>(aC (cS (aP 1 nO (zc (zh 0) zp)) (dOp (dIb fun i j=>decide (i<j)) (dCB jT (zc (zh 0) zp)) (dOp (dI CPow fun i j=>i ^ j.toNat) (dC (.int 10)) (dC (.int 60)))))) (aG S.length R) (xs.map some++bo 0 none) S
def sT:PN:=fun xs S R=>(aC (cS (aP 1 sR (zc (zh 0) zp)) (cS (aP 1 sR (zc (zh 1) zp)) (dOp (dIb fun i j=>decide (i<=j)) (zh 0) (zh 1))))) (aG S.length R) (xs.map some++bo 0 none) S
def uL:PN:=fun xs S R=>(zR (aA (dC (.str "abcdefghijklmnopqrstuvwxyz")) (zk 1)) (zR (aA (zS 0 2 zt (zc (zh 0) (zc (dC (.int 3)) zp))) (zk 2)) (zR (aA (zS 0 2 zt (zc (zh 0) (zc (dC (.int 26)) zp))) (zk 3)) (zR (aA (iG [none,some 1,some 3] (eO (zc (dC (.int 8)) zp)) (zk 0) aI (dOp cE (dOp dIx (zh 1) (dOp (dI (fun _ j=>0<j) fun i j=>i % j) (dOp aB (zh 2) (dOp cE (dC (.int 5)) (zh 0))) (dC (.int 26)))) (dOp aB (dC (.int 1)) (dOp (dI (fun _ j=>0<j) fun i j=>i % j) (dOp aB (zh 2) (dOp cE (dC (.int 3)) (zh 0))) (dC (.int 8)))))) (zk 4)) (zR (aD (dB (dOp aH (zh 2) (dC (.int 0)))) (zR (aA (bX dL (dC (.str "")) (zc (cP [none,some 1,some 3] (eO (zc (dC (.int 8)) zp)) (zk 0) aI (dOp dIx (zh 1) (dOp (dI (fun _ j=>0<j) fun i j=>i % j) (dOp aB (zh 2) (dOp cE (dC (.int 7)) (zh 0))) (dC (.int 26))))) zp)) (zk 5)) (aA (iG [none,some 5] (eO (zc (dC (.int 8)) zp)) (zk 0) aI (dSl aW (zh 1) aX (aQ (dOp aB (zh 0) (dC (.int 1)))))) (zk 4))) aE) (zR (aD (dB (dOp aH (zh 2) (dC (.int 1)))) (aA (dR (zc (dC (.str "part")) (zc (dC (.str "gap")) (zc (dC (.str "cut")) (zc (dC (.str "a")) (zc (dC (.str "aa")) (zc (dC (.str "dear")) (zc (dC (.str "b")) (zc (dC (.str "keeps")) zp))))))))) (zk 4)) aE) (zR (aA (zS 0 2 zt (zc (zh 0) (zc (dC (.int 8)) zp))) (zk 6)) (zR (aA (dOp k9 (dSl aW (zh 4) (aQ (zh 6)) aX) (dSl aW (zh 4) aX (aQ (zh 6)))) (zk 4)) (zR (aD (dB (dOp aH (zS 0 2 zt (zc (zh 0) (zc (dC (.int 2)) zp))) (dC (.int 1)))) (dH (mI mL (zh 4))) aE) (aC (zh 4))))))))))) (aG S.length R) (xs.map some++bo 6 none) S
def nR:PN:=fun xs S R=>(zR (aD (dOr (aZ (bA (dCB dA (zc (zh 0) (zc (dO (.ty "tuple")) zp))))) (dB (dOp eA (dCB aK (zc (zh 0) zp)) (dC (.int 3))))) (aC (dC (.bool false))) aE) (aC (cS (aP 1 m4 (zc (dOp dIx (zh 0) (dC (.int 0))) zp)) (aP 2 sT (zc (dOp dIx (zh 0) (dC (.int 1))) (zc (dOp dIx (zh 0) (dC (.int 2))) zp)))))) (aG S.length R) (xs.map some++bo 0 none) S
def w6:PX:=fun xs S R EX=>(zR (lV (kT false 1 (.k []) (lQ (fun M=>(lJ (zc (zh 0) zp))) (c7 2 (aR (zk 2) (aR (zk 3) cX))) (t9 (nI (fun M=>(dOr (aZ (bA (aP 1 nR (zc (zh 3) zp)))) (dB (dOp (lX M false) (dOp dIx (zh 3) (dC (.int 0))) (zh 1))))) (iY (fY EX 104 ["number"] (zc (zh 2) zp))) (iY aE)) (lK 1 (fun M=>(dOp dIx (zh 3) (dC (.int 0)))) (fun M=>(dC (.bool true)))))))) (zR (aD (aZ (dB (fH (dIb fun i j=>decide (i<=j)) (dIb fun i j=>decide (i<=j)) (dC (.int 1)) (dCB aK (zc (zh 0) zp)) (dC (.int 8))))) (fY EX 104 ["number"] (zc (dCB aK (zc (zh 0) zp)) zp)) aE) (aC (dCB gE (zc (zh 0) zp))))) (aG S.length R) (xs.map some++bo 3 none) S
def yX:PN:=fun xs S R=>(zR (aA (zS 0 1 uL (zc (zh 0) zp)) (zk 2)) (zR (aA (dR zp) (zk 3)) (zR (bW (eO (zc (dOp aB (dC (.int 1)) (zS 0 2 zt (zc (zh 0) (zc (zh 1) zp)))) zp)) (zk 4) (dH (dBM fB (zh 3) (zc (dOp aB (bJ (zc (dOp dIx (zh 2) (zh 4)) zp)) (zS 0 1 Ap (zc (zh 0) zp))) zp)))) (aC (dCB gE (zc (zh 3) zp)))))) (aG S.length R) (xs.map some++bo 3 none) S
def wJ:PN:=fun xs S R=>(zR (aD (dOr (aZ (bA (dCB dA (zc (zh 1) (zc (dO (.ty "tuple")) zp))))) (dB (dOp eA (dCB aK (zc (zh 1) zp)) (dC (.int 2))))) (aC (dC (.bool false))) aE) (zR (aD (dOr (aZ (bA (aP 1 nO (zc (dOp dIx (zh 1) (dC (.int 0))) zp)))) (aZ (bA (aP 1 nO (zc (dOp dIx (zh 1) (dC (.int 1))) zp))))) (aC (dC (.bool false))) aE) (aC (cS (fH (dIb fun i j=>decide (i<=j)) (dIb fun i j=>decide (i<j)) (dC (.int 0)) (dOp dIx (zh 1) (dC (.int 0))) (dCB aK (zc (zh 0) zp))) (fH (dIb fun i j=>decide (i<=j)) (dIb fun i j=>decide (i<=j)) (dC (.int 1)) (dCB jT (zc (dOp dIx (zh 1) (dC (.int 1))) zp)) (dC (.int 3))))))) (aG S.length R) (xs.map some++bo 0 none) S
def wP:PN:=fun xs S R=>(zR (aD (dOr (aZ (bA (dCB dA (zc (zh 1) (zc (dO (.ty "tuple")) zp))))) (aZ (dB (fH (dIb fun i j=>decide (i<=j)) (dIb fun i j=>decide (i<=j)) (dC (.int 1)) (dCB aK (zc (zh 1) zp)) (dC (.int 8)))))) (aC (dC (.bool false))) aE) (zR (aA (dUn (dUI fun i=>-i) (dC (.int 1))) (zk 2)) (zR (bW (cB (zh 1)) (zk 3) (zR (aD (dOr (aZ (bA (aP 2 wJ (zc (zh 0) (zc (zh 3) zp))))) (dB (dOp (dIb fun i j=>decide (i<=j)) (dOp dIx (zh 3) (dC (.int 0))) (zh 2)))) (aC (dC (.bool false))) aE) (aA (dOp dIx (zh 3) (dC (.int 0))) (zk 2)))) (aC (dC (.bool true)))))) (aG S.length R) (xs.map some++bo 2 none) S
def vT:PN:=fun xs S R=>(zR (aD (dOr (aZ (bA (dCB dA (zc (zh 1) (zc (dO (.ty "tuple")) zp))))) (dB (dOp eA (dCB aK (zc (zh 1) zp)) (dC (.int 3))))) (aC (dC (.bool false))) aE) (aC (cS (aP 2 wP (zc (zh 0) (zc (dOp dIx (zh 1) (dC (.int 0))) zp))) (aP 2 sT (zc (dOp dIx (zh 1) (dC (.int 1))) (zc (dOp dIx (zh 1) (dC (.int 2))) zp)))))) (aG S.length R) (xs.map some++bo 0 none) S
def vJ:PN:=fun xs S R=>(zR (aA (dC (.int 0)) (zk 2)) (zR (aA (dC (.int 0)) (zk 3)) (zR (bW (cB (zh 1)) (c7 2 (aR (zk 4) (aR (zk 5) cX))) (zR (aA (aT (zc (dOp cE (zh 5) (dOp dIx (dOp dIx (zh 0) (zh 4)) (dC (.int 1)))) (zc (dOp cE (zh 5) (dOp dIx (dOp dIx (zh 0) (zh 4)) (dC (.int 2)))) zp))) (zk 6)) (zR (aA (dOp aB (zh 2) (dCB Ah (zc (zh 6) zp))) (zk 2)) (aA (dOp aB (zh 3) (dCB BF (zc (zh 6) zp))) (zk 3))))) (aC (bJ (zc (zh 2) (zc (zh 3) zp))))))) (aG S.length R) (xs.map some++bo 5 none) S
def sW:PN:=fun xs S R=>(zR (aA (dR zp) (zk 2)) (zR (bW (eO (zc (dCB aK (zc (zh 1) zp)) zp)) (zk 3) (zR (aA (dOp (dI0 fun i j=>i-j) (zS 0 2 zt (zc (zh 0) (zc (dC (.int 9)) zp))) (dC (.int 4))) (zk 4)) (aD (dB (dOp gH (zh 4) (bJ (zc (dUn (dUI fun i=>-i) (dC (.int 4))) (zc (dC (.int 0)) (zc (dC (.int 4)) zp)))))) (dH (dBM fB (zh 2) (zc (bJ (zc (zh 3) (zc (zh 4) zp))) zp))) aE))) (zR (aD (dB (dOp aH (zh 2) (aT zp))) (aA (dR (zc (bJ (zc (zS 0 2 zt (zc (zh 0) (zc (dCB aK (zc (zh 1) zp)) zp))) (zc (dOp dIx (aT (zc (dC (.int 1)) (zc (dUn (dUI fun i=>-i) (dC (.int 1))) (zc (dC (.int 2)) (zc (dUn (dUI fun i=>-i) (dC (.int 3))) zp))))) (zS 0 2 zt (zc (zh 0) (zc (dC (.int 4)) zp)))) zp))) zp)) (zk 2)) aE) (zR (aA (iP 2 vJ (zc (zh 1) (zc (zh 2) zp))) (c7 2 (aR (zk 5) (aR (zk 6) cX)))) (zR (aA (dOp (dI0 fun i j=>i-j) (zh 6) (zh 5)) (zk 7)) (zR (aA (dOp aB (zh 5) (dOp dIx (aT (zc (dC (.int 0)) (zc (dC (.int 1)) (zc (dUn (dUI fun i=>-i) (dC (.int 1))) (zc (dOp dFd (zh 7) (dC (.int 2))) (zc (dOp dFd (zh 7) (dC (.int 3))) (zc (dOp aB (zh 7) (dC (.int 1))) zp))))))) (zS 0 2 zt (zc (zh 0) (zc (dC (.int 6)) zp))))) (zk 8)) (zR (aA (dOp aB (zh 8) (dOp dIx (aT (zc (dC (.int 0)) (zc (dC (.int 1)) (zc (dC (.int 2)) (zc (dOp dFd (zh 7) (dC (.int 2))) (zc (zh 7) (zc (dOp aB (zh 7) (dC (.int 2))) zp))))))) (zS 0 2 zt (zc (zh 0) (zc (dC (.int 6)) zp))))) (zk 9)) (aC (bJ (zc (dCB gE (zc (zh 2) zp)) (zc (zh 8) (zc (zh 9) zp)))))))))))) (aG S.length R) (xs.map some++bo 8 none) S
def pI:PN:=fun xs S R=>(zR (aA (iG [none,some 0,some 1] (eO (zc (dOp aB (dC (.int 1)) (zS 0 2 zt (zc (zh 0) (zc (zh 2) zp)))) zp)) (zk 0) aI (zS 0 2 sW (zc (zh 1) (zc (zh 2) zp)))) (zk 3)) (zR (aD (eI (dB (dOp aH (zS 0 2 zt (zc (zh 0) (zc (dC (.int 3)) zp))) (dC (.int 0)))) (dB (dOp (dIb fun i j=>decide (j<i)) (dCB aK (zc (zh 3) zp)) (dC (.int 1))))) (aA (bJ (zc (dOp dIx (dOp dIx (zh 3) (dC (.int 0))) (dC (.int 0))) (zc (dOp aB (dOp dIx (dOp dIx (zh 3) (dC (.int 0))) (dC (.int 2))) (dC (.int 1))) (zc (dOp aB (dOp aB (dOp dIx (dOp dIx (zh 3) (dC (.int 0))) (dC (.int 2))) (dC (.int 1))) (zS 0 2 zt (zc (zh 0) (zc (dC (.int 3)) zp)))) zp)))) (iZ (zh 3) (dUn (dUI fun i=>-i) (dC (.int 1))))) aE) (aC (dCB gE (zc (zh 3) zp))))) (aG S.length R) (xs.map some++bo 1 none) S
def vM:PN:=fun xs S R=>(zR (g9 (zR (aA (dR (zc (dC (.str "gap")) (zc (dCB cV (zc (dOp dIx (zh 1) (dC (.int 1))) zp)) (zc (dCB cV (zc (dOp dIx (zh 1) (dC (.int 2))) zp)) zp)))) (zk 2)) (bW (cB (dOp dIx (zh 1) (dC (.int 0)))) (c7 2 (aR (zk 3) (aR (zk 4) cX))) (dH (dBM kR (zh 2) (zc (aT (zc (dCB cV (zc (zh 4) zp)) (zc (dOp dIx (dOp dIx (zh 0) (zh 3)) (dC (.int 0))) zp))) zp)))))) (aC (bX dL (dC (.str " ")) (zc (zh 2) zp)))) (aG S.length R) (xs.map some++bo 3 none) S
def EU:PN:=fun xs S R=>(zR (g9 (zR (aA (dR zp) (zk 2)) (zR (bW (cB (zh 0)) (c7 3 (aR (zk 3) (aR (zk 4) (aR (zk 5) cX)))) (dH (dBM fB (zh 2) (zc (bX dL (dC (.str " ")) (zc (aT (zc (dC (.str "part")) (zc (zh 3) (zc (dCB cV (zc (zh 4) zp)) (zc (dCB cV (zc (zh 5) zp)) zp))))) zp)) zp)))) (bW (cB (zh 1)) (c7 3 (aR (zk 6) (aR (zk 4) (aR (zk 5) cX)))) (zR (aA (dOp aB (dOp aB (dOp aB (dC (.str "gap ")) (dCB cV (zc (zh 4) zp))) (dC (.str " "))) (dCB cV (zc (zh 5) zp))) (zk 7)) (zR (bW (cB (zh 6)) (c7 2 (aR (zk 8) (aR (zk 9) cX))) (aA (dOp aB (dOp aB (dOp aB (dOp aB (zh 7) (dC (.str " "))) (dCB cV (zc (zh 9) zp))) (dC (.str " "))) (dOp dIx (dOp dIx (zh 0) (zh 8)) (dC (.int 0)))) (zk 7))) (dH (dBM fB (zh 2) (zc (zh 7) zp))))))))) (aC (bX dL (dC (.str "\n")) (zc (zh 2) zp)))) (aG S.length R) (xs.map some++bo 8 none) S
def xL:PN:=fun xs S R=>(zR (g9 (zR (aA (iG [none,none,none] (cB (dOp dIx (zh 0) (dC (.int 0)))) (c7 3 (aR (zk 0) (aR (zk 1) (aR (zk 2) cX)))) aI (mZ (fU (dC (.str "part ")) (fU (lH (zh 0)) (fU (dC (.str " ")) (fU (jO (zh 1)) (fU (dC (.str " ")) (fU (jO (zh 2)) lI)))))))) (zk 1)) (dH (dBM kR (zh 1) (zc (cP [none,some 0] (cB (dOp dIx (zh 0) (dC (.int 1)))) (zk 0) aI (aP 2 vM (zc (dOp dIx (zh 1) (dC (.int 0))) (zc (zh 0) zp)))) zp))))) (aC (bX dL (dC (.str "\n")) (zc (zh 1) zp)))) (aG S.length R) (xs.map some++bo 1 none) S
def xW:PN:=fun xs S R=>(zR (g9 (zR (aA (dR zp) (zk 2)) (zR (bW (cB (zh 0)) (c7 3 (aR (zk 3) (aR (zk 4) (aR (zk 5) cX)))) (dH (dBM fB (zh 2) (zc (bX dL (dC (.str " ")) (zc (aT (zc (dC (.str "part")) (zc (zh 3) (zc (dCB cV (zc (zh 4) zp)) (zc (dCB cV (zc (zh 5) zp)) zp))))) zp)) zp)))) (bW (cB (zh 1)) (c7 3 (aR (zk 6) (aR (zk 4) (aR (zk 5) cX)))) (zR (aA (dOp aB (dOp aB (dOp aB (dC (.str "gap ")) (dCB cV (zc (zh 4) zp))) (dC (.str " "))) (dCB cV (zc (zh 5) zp))) (zk 7)) (zR (bW (cB (zh 6)) (c7 2 (aR (zk 8) (aR (zk 9) cX))) (aA (dOp aB (dOp aB (dOp aB (dOp aB (zh 7) (dC (.str " "))) (dCB cV (zc (zh 9) zp))) (dC (.str " "))) (dOp dIx (dOp dIx (zh 0) (zh 8)) (dC (.int 0)))) (zk 7))) (dH (dBM fB (zh 2) (zc (zh 7) zp))))))))) (aC (bX dL (dC (.str "\n")) (zc (zh 2) zp)))) (aG S.length R) (xs.map some++bo 8 none) S
def wZ:PX:=fun xs S R EX=>(zR (aA (cP [none] (cB (zh 0)) (zk 0) aI (dOp dIx (zh 0) (dC (.int 0)))) (zk 2)) (zR (aD (dB (dOp gH (zh 1) (zh 2))) (fE EX 49) aE) (aC (gJ iF (zh 2) (zc (zh 1) zp))))) (aG S.length R) (xs.map some++bo 1 none) S
def lA:PX:=fun xs S R EX=>(zR (aA (dIf (bA (bX mG (zh 0) (zc (dC (.str "-")) zp))) (dSl aW (zh 0) (aQ (dC (.int 1))) aX) (zh 0)) (zk 1)) (zR (aD (dOr (aZ (dB (fH (dIb fun i j=>decide (i<=j)) (dIb fun i j=>decide (i<=j)) (dC (.int 1)) (dCB aK (zc (zh 1) zp)) (dC (.int 60))))) (aZ (bA (dCB i0 (zc (cP [none] (gC (zh 1)) (zk 0) aI (dOp dIn (zh 0) (dC (.str "0123456789")))) zp))))) (fE EX 73) aE) (zR (aD (eI (dB (dOp aH (dOp dIx (zh 1) (dC (.int 0))) (dC (.str "0")))) (dB (dOp eA (zh 0) (dC (.str "0"))))) (fE EX 73) aE) (aC (dCB lU (zc (zh 0) zp)))))) (aG S.length R) (xs.map some++bo 1 none) S
def oU:PN:=fun xs S R=>(zR (aA (dIf (dB (dOp aH (dSl aW (zh 0) aX (aQ (dC (.int 1)))) (dC (.str "-")))) (dSl aW (zh 0) (aQ (dC (.int 1))) aX) (zh 0)) (zk 1)) (zR (aD (dOr (dB (mQ true (dCB aK (zc (zh 1) zp)) (zc (dC (.int 1)) (zc (dC (.int 61)) zp)))) (dB (dOp eA (cP [none] (gC (zh 1)) (zk 0) (dB (dOp gH (zh 0) (dC (.str "0123456789")))) (zh 0)) (aT zp)))) (aC (dC .none)) aE) (zR (aD (eI (dB (dOp aH (dOp dIx (zh 1) (dC (.int 0))) (dC (.str "0")))) (dB (dOp eA (zh 0) (dC (.str "0"))))) (aC (dC .none)) aE) (zR (aA (dC (.int 0)) (zk 2)) (zR (bW (gC (zh 1)) (zk 3) (aA (dOp aB (dOp cE (dC (.int 10)) (zh 2)) (bX j6 (dC (.str "0123456789")) (zc (zh 3) zp))) (zk 2))) (aC (dIf (dB (dOp aH (zh 1) (zh 0))) (zh 2) (dOp (dI0 fun i j=>i-j) (dC (.int 0)) (zh 2))))))))) (aG S.length R) (xs.map some++bo 3 none) S
def uS:PN:=fun xs S R=>(aC (cS (fH (dIb fun i j=>decide (i<j)) (dIb fun i j=>decide (i<j)) (dC (.int 0)) (dCB aK (zc (zh 0) zp)) (dC (.int 9))) (dOp aH (cP [none] (gC (zh 0)) (zk 0) (dB (dOp gH (zh 0) (dC (.str "abcdefghijklmnopqrstuvwxyz")))) (zh 0)) (aT zp)))) (aG S.length R) (xs.map some++bo 0 none) S
def rT:PX:=fun xs S R EX=>(zR (aD (aZ (bA (aP 1 m4 (zc (zh 0) zp)))) (fE EX 73) aE) (aC (zh 0))) (aG S.length R) (xs.map some++bo 0 none) S
def uR:PN:=fun xs S R=>(zR (aA (aP 1 oU (zc (dOp dIx (zh 0) (dC (.int 0))) zp)) (zk 1)) (zR (aA (aP 1 oU (zc (dOp dIx (zh 0) (dC (.int 1))) zp)) (zk 2)) (aC (cS (dOp kG (zh 1) (dC .none)) (cS (dOp kG (zh 2) (dC .none)) (dOp (dIb fun i j=>decide (i<=j)) (zh 1) (zh 2))))))) (aG S.length R) (xs.map some++bo 2 none) S
def vF:PN:=fun xs S R=>(zR (aD (dOr (dB (dOp eA (dCB aK (zc (zh 0) zp)) (dC (.int 4)))) (dOr (aZ (bA (aP 1 uS (zc (dOp dIx (zh 0) (dC (.int 1))) zp)))) (dOr (dB (dOp dIn (dOp dIx (zh 0) (dC (.int 1))) (zh 1))) (dB (dOp aH (dCB aK (zc (zh 1) zp)) (dC (.int 8))))))) (aC (dC (.bool false))) aE) (aC (aP 1 uR (zc (dSl aW (zh 0) (aQ (dC (.int 2))) aX) zp)))) (aG S.length R) (xs.map some++bo 0 none) S
def vS:PN:=fun xs S R=>(zR (aD (dOr (dB (dOp (dIb fun i j=>decide (i<j)) (dCB aK (zc (zh 0) zp)) (dC (.int 5)))) (dOr (dB (dOp aH (dOp (dI (fun _ j=>0<j) fun i j=>i % j) (dCB aK (zc (zh 0) zp)) (dC (.int 2))) (dC (.int 0)))) (aZ (bA (aP 1 uR (zc (dSl aW (zh 0) (aQ (dC (.int 1))) (aQ (dC (.int 3)))) zp)))))) (aC (dC (.bool false))) aE) (zR (aA (dUn (dUI fun i=>-i) (dC (.int 1))) (zk 2)) (zR (bW (yC (zc (dC (.int 3)) (zc (dCB aK (zc (zh 0) zp)) (zc (dC (.int 2)) zp)))) (zk 3) (zR (aD (dOr (dB (dOp gH (aP 1 oU (zc (dOp dIx (zh 0) (zh 3)) zp)) (bJ (zc (dUn (dUI fun i=>-i) (dC (.int 3))) (zc (dUn (dUI fun i=>-i) (dC (.int 2))) (zc (dUn (dUI fun i=>-i) (dC (.int 1))) (zc (dC (.int 1)) (zc (dC (.int 2)) (zc (dC (.int 3)) zp))))))))) (dB (dOp gH (dOp dIx (zh 0) (dOp aB (zh 3) (dC (.int 1)))) (zh 1)))) (aC (dC (.bool false))) aE) (zR (aD (dB (dOp (dIb fun i j=>decide (i<=j)) (gJ iF (zh 1) (zc (dOp dIx (zh 0) (dOp aB (zh 3) (dC (.int 1)))) zp)) (zh 2))) (aC (dC (.bool false))) aE) (aA (gJ iF (zh 1) (zc (dOp dIx (zh 0) (dOp aB (zh 3) (dC (.int 1)))) zp)) (zk 2))))) (aC (dC (.bool true)))))) (aG S.length R) (xs.map some++bo 2 none) S
def uY:PN:=fun xs S R=>(zR (aA (bX gA (zh 0) (zc (dC (.str " ")) zp)) (zk 2)) (zR (aA (zS 0 2 zt (zc (zh 1) (zc (dCB aK (zc (zh 2) zp)) zp))) (zk 3)) (zR (aA (zS 0 2 zt (zc (zh 1) (zc (dC (.int 5)) zp))) (zk 4)) (zR (aD (dB (dOp aH (zh 4) (dC (.int 0)))) (aC (dOp aB (dSl aW (zh 2) aX (aQ (zh 3))) (dSl aW (zh 2) (aQ (dOp aB (zh 3) (dC (.int 1)))) aX))) aE) (zR (aD (dB (dOp aH (zh 4) (dC (.int 1)))) (aC (dOp aB (dSl aW (zh 2) aX (aQ (dOp aB (zh 3) (dC (.int 1))))) (dSl aW (zh 2) (aQ (zh 3)) aX))) aE) (zR (aD (dB (dOp aH (zh 4) (dC (.int 2)))) (aC (dOp aB (dOp aB (dSl aW (zh 2) aX (aQ (zh 3))) (dSl aW (zh 2) (aQ (dOp aB (zh 3) (dC (.int 1)))) aX)) (aT (zc (dOp dIx (zh 2) (zh 3)) zp)))) aE) (zR (aA (aT (zc (dC (.str "0")) (zc (dC (.str "00")) (zc (dC (.str "-0")) (zc (dC (.str "+1")) (zc (dC (.str "1.0")) (zc (dC (.str "4")) (zc (dC (.str "-4")) (zc (dC (.str "Ab")) (zc (dC (.str "abcdefghi")) (zc (dC (.str "")) (zc (dC (.str "qzq")) (zc (dC (.str "part")) (zc (dC (.str "gap")) (zc (dC (.str "Part")) zp))))))))))))))) (zk 5)) (zR (aA (dOp aB (zh 5) (aT (zc (dOp aB (dC (.str "0")) (dOp dIx (zh 2) (zh 3))) (zc (dOp cE (dC (.str "9")) (dC (.int 60))) (zc (dOp cE (dC (.str "9")) (dC (.int 61))) (zc (dOp aB (dC (.str "-")) (dOp cE (dC (.str "9")) (dC (.int 60)))) (zc (dOp aB (dC (.str "-")) (dOp cE (dC (.str "1")) (dC (.int 61)))) (zc (dC (.str "--1")) (zc (dC (.str "1-")) (zc (dC (.str "parts")) zp)))))))))) (zk 5)) (zR (aA (dOp aB (zh 5) (aT (zc (dOp aB (dOp dIx (zh 2) (zh 3)) (dC (.str " "))) (zc (dOp aB (dC (.str " ")) (dOp dIx (zh 2) (zh 3))) zp)))) (zk 5)) (aC (dOp aB (dOp aB (dSl aW (zh 2) aX (aQ (zh 3))) (aT (zc (dOp dIx (zh 5) (zS 0 2 zt (zc (zh 1) (zc (dCB aK (zc (zh 5) zp)) zp)))) zp))) (dSl aW (zh 2) (aQ (dOp aB (zh 3) (dC (.int 1)))) aX)))))))))))) (aG S.length R) (xs.map some++bo 4 none) S
def wQ:PN:=fun xs S R=>(zR (aA (dR zp) (zk 1)) (zR (aA (dC (.int 0)) (zk 2)) (zR (aA (bX gA (zh 0) (zc (dC (.str "\n")) zp)) (zk 3)) (zR (bW (eO (zc (dCB aK (zc (zh 3) zp)) zp)) (zk 4) (zR (aA (bX gA (dOp dIx (zh 3) (zh 4)) (zc (dC (.str " ")) zp)) (zk 5)) (aD (eI (dB (dOp aH (dOp dIx (zh 5) (dC (.int 0))) (dC (.str "part")))) (eI (dB (dOp aH (zh 2) (dC (.int 0)))) (bA (iP 2 vF (zc (zh 5) (zc (zh 1) zp)))))) (dH (dBM fB (zh 1) (zc (dOp dIx (zh 5) (dC (.int 1))) zp))) (aD (eI (dB (dOp aH (dOp dIx (zh 5) (dC (.int 0))) (dC (.str "gap")))) (eI (dB (dOp (dIb fun i j=>decide (i<j)) (zh 2) (dC (.int 6)))) (bA (iP 2 vS (zc (zh 5) (zc (zh 1) zp)))))) (aA (dOp aB (zh 2) (dC (.int 1))) (zk 2)) (aC (dOp aB (zh 4) (dC (.int 1)))))))) (zR (aD (dB (dOp aH (zh 2) (dC (.int 0)))) (aC (dOp aB (dCB aK (zc (zh 3) zp)) (dC (.int 1)))) aE) (aC (dC .none))))))) (aG S.length R) (xs.map some++bo 5 none) S
def vL:PN:=fun xs S R=>(zR (aA (zS 0 2 zt (zc (zh 1) (zc (dCB aK (zc (zh 0) zp)) zp))) (zk 2)) (zR (aA (zS 0 2 zt (zc (zh 1) (zc (dCB aK (zc (zh 0) zp)) zp))) (zk 3)) (zR (aA (zS 0 2 zt (zc (zh 1) (zc (dC (.int 10)) zp))) (zk 4)) (zR (aD (dB (dOp aH (zh 4) (dC (.int 0)))) (aC (dOp aB (dSl aW (zh 0) aX (aQ (zh 2))) (dSl aW (zh 0) (aQ (dOp aB (zh 2) (dC (.int 1)))) aX))) aE) (zR (aD (dB (dOp aH (zh 4) (dC (.int 1)))) (aC (dOp aB (dSl aW (zh 0) aX (aQ (dOp aB (zh 2) (dC (.int 1))))) (dSl aW (zh 0) (aQ (zh 2)) aX))) aE) (zR (aD (dB (dOp aH (zh 4) (dC (.int 2)))) (aC (dOp aB (dOp aB (dSl aW (zh 0) aX (aQ (zh 2))) (aT (zc (dOp dIx (zh 0) (zh 3)) zp))) (dSl aW (zh 0) (aQ (dOp aB (zh 2) (dC (.int 1)))) aX))) aE) (zR (aD (dB (dOp aH (zh 4) (dC (.int 3)))) (aC (dOp aB (dOp aB (dSl aW (zh 0) aX (aQ (zh 2))) (aT (zc (dOp dIx (aT (zc (dC (.str "")) (zc (dC (.str " ")) (zc (dC (.str "part")) (zc (dC (.str "gap 0 0")) (zc (dC (.str "part qzq 1 1")) (zc (dOp dIx (zh 0) (zh 3)) zp))))))) (zS 0 2 zt (zc (zh 1) (zc (dC (.int 6)) zp)))) zp))) (dSl aW (zh 0) (aQ (zh 2)) aX))) aE) (zR (aD (dB (dOp aH (zh 4) (dC (.int 4)))) (aC (dOp aB (zh 0) (dOp cE (aT (zc (dOp dIx (aT (zc (dC (.str "")) (zc (dOp dIx (zh 0) (zh 2)) (zc (dOp dIx (zh 0) (dUn (dUI fun i=>-i) (dC (.int 1)))) zp)))) (zS 0 2 zt (zc (zh 1) (zc (dC (.int 3)) zp)))) zp)) (dOp aB (dC (.int 1)) (zS 0 2 zt (zc (zh 1) (zc (dC (.int 7)) zp))))))) aE) (aC (dOp aB (dOp aB (dSl aW (zh 0) aX (aQ (zh 2))) (aT (zc (bX dL (dC (.str " ")) (zc (zS 1 2 uY (zc (dOp dIx (zh 0) (zh 2)) (zc (zh 1) zp))) zp)) zp))) (dSl aW (zh 0) (aQ (dOp aB (zh 2) (dC (.int 1)))) aX))))))))))) (aG S.length R) (xs.map some++bo 3 none) S
def sS:PX:=fun xs S R EX=>(zR (aD (dOr (dB (dOp (dIb fun i j=>decide (i<j)) (dCB aK (zc (zh 2) zp)) (dC (.int 5)))) (dB (dOp aH (dOp (dI (fun _ j=>0<j) fun i j=>i % j) (dCB aK (zc (zh 2) zp)) (dC (.int 2))) (dC (.int 0))))) (fE EX 73) aE) (zR (aA (cP [none] (cB (dSl aW (zh 2) (aQ (dC (.int 1))) (aQ (dC (.int 3))))) (zk 0) aI (dD EX 1 lA (zc (zh 0) zp))) (zk 3)) (zR (aA (cP [none] (cB (jI (zh 2) (dC (.int 3)) (dC (.int 2)))) (zk 0) aI (dD EX 1 lA (zc (zh 0) zp))) (zk 4)) (zR (aA (cP [none] (cB (jI (zh 2) (dC (.int 4)) (dC (.int 2)))) (zk 0) aI (dD EX 1 rT (zc (zh 0) zp))) (zk 5)) (zR (aA (cP [none,some 0] (cB (zh 5)) (zk 0) aI (dD EX 2 wZ (zc (zh 1) (zc (zh 0) zp)))) (zk 6)) (zR (aA (bJ (zc (kX (zc (zh 6) (zc (zh 4) zp))) (zc (dOp dIx (zh 3) (dC (.int 0))) (zc (dOp dIx (zh 3) (dC (.int 1))) zp)))) (zk 7)) (zR (aD (dOr (dB (dOp aH (dCB aK (zc (zh 1) zp)) (dC (.int 6)))) (aZ (bA (aP 2 vT (zc (zh 0) (zc (zh 7) zp)))))) (fY EX 123 ["number"] (zc (dCB aK (zc (zh 1) zp)) zp)) aE) (aC (dOp aB (zh 1) (bJ (zc (zh 7) zp))))))))))) (aG S.length R) (xs.map some++bo 5 none) S
def wE:PX:=fun xs S R EX=>(zR (aD (dB (dOp eA (dCB aK (zc (zh 1) zp)) (dC (.int 4)))) (fE EX 73) aE) (zR (aA (bJ (zc (dD EX 1 rT (zc (dOp dIx (zh 1) (dC (.int 1))) zp)) (zc (dD EX 1 lA (zc (dOp dIx (zh 1) (dC (.int 2))) zp)) (zc (dD EX 1 lA (zc (dOp dIx (zh 1) (dC (.int 3))) zp)) zp)))) (zk 2)) (zR (aD (dB (dOp aH (dCB aK (zc (zh 0) zp)) (dC (.int 8)))) (fY EX 104 ["number"] (zc (dCB aK (zc (zh 0) zp)) zp)) aE) (aC (dD EX 1 w6 (zc (dOp aB (dCB lF (zc (zh 0) zp)) (aT (zc (zh 2) zp))) zp)))))) (aG S.length R) (xs.map some++bo 1 none) S
def v6:PX:=fun xs S R EX=>(zR (aD (eI (dB (dOp aH (dOp dIx (zh 1) (dC (.int 0))) (dC (.str "part")))) (aZ (bA (dOp dIx (zh 0) (dC (.int 1)))))) (aC (bJ (zc (dD EX 2 wE (zc (dOp dIx (zh 0) (dC (.int 0))) (zc (zh 1) zp))) (zc (dOp dIx (zh 0) (dC (.int 1))) zp)))) aE) (zR (aD (dB (dOp aH (dOp dIx (zh 1) (dC (.int 0))) (dC (.str "gap")))) (aC (bJ (zc (dOp dIx (zh 0) (dC (.int 0))) (zc (dD EX 3 sS (zc (dOp dIx (zh 0) (dC (.int 0))) (zc (dOp dIx (zh 0) (dC (.int 1))) (zc (zh 1) zp)))) zp)))) aE) (fE EX 73))) (aG S.length R) (xs.map some++bo 0 none) S
def oZ:PX:=fun xs S R EX=>(zR (aD (aZ (bA (dCB dA (zc (zh 0) (zc (dO (.ty "str")) zp))))) (fY EX 161 ["row"] (zc (dC (.int 0)) zp)) aE) (zR (aA (bX gA (zh 0) (zc (dC (.str "\n")) zp)) (zk 1)) (zR (aA (bJ (zc (bJ zp) (zc (bJ zp) zp))) (zk 2)) (zR (bW (nH (zc (zh 1) zp)) (c7 2 (aR (zk 3) (aR (zk 4) cX))) (mH (knA 2) 2 v6 (zc (zh 2) (zc (bX gA (zh 4) (zc (dC (.str " ")) zp)) zp)) [73,104,49,123] EX 161 ["row"] (zc (zh 3) zp))) (zR (aD (aZ (bA (dOp dIx (zh 2) (dC (.int 1))))) (fY EX 161 ["row"] (zc (dOp aB (dCB aK (zc (zh 1) zp)) (dC (.int 1))) zp)) aE) (aC (zh 2))))))) (aG S.length R) (xs.map some++bo 4 none) S
def zZ:PN:=fun xs S R=>(zR (aA (dIf (bA (dCB dA (zc (zh 0) (zc (dO (.ty "str")) zp)))) (aP 1 wQ (zc (zh 0) zp)) (dC (.int 0))) (zk 1)) (zR (aA (dC .none) (zk 2)) (zR (mR (knA 2) 1 oZ (zc (zh 0) zp) 3 (aC (cS (dOp aH (m7 u9 (zc (zh 3) zp)) (dC (.str "text"))) (cS (aP 1 xC (zc (dXA [161] (zh 3) "row") zp)) (dOp aH (dXA [161] (zh 3) "row") (zh 1)))))) (aC (cS (dOp lB (zh 1) (dC .none)) (dOp aH (aP 1 xL (zc (zh 2) zp)) (zh 0))))))) (aG S.length R) (xs.map some++bo 3 none) S
def AI:DS:=(zR (aA (aT (zc (dC (.str "")) (zc (dC (.str "\n")) (zc (dC (.str "gap 0 0 1 a")) (zc (dC (.str "part a 0 0")) (zc (dC (.str "part a 0 0\n")) (zc (dC (.str "part a 1 0")) (zc (dC .none) (zc (dC (.int 0)) (zc (dC (.bool true)) (zc (aT (zc (dC (.str "part a 0 0")) zp)) (zc (bJ zp) (zc (dC (.dict [])) zp))))))))))))) (zk 1)) (aD (aZ (bA (dCB i0 (zc (cP [none] (cB (dOp aB (zh 1) (aT (zc (dC (.str "part a 0 0\ngap 0 0 1 a")) (zc (dC (.str "part a 0 0\ngap 0 0 1 a 1 a")) zp))))) (zk 0) aI (aP 1 zZ (zc (zh 0) zp))) zp)))) (aC (dC (.bool false))) aE))
def BJ:DS:=(zR (aA (aP 1 wG (zc (zh 2) zp)) (zk 3)) (zR (aA (zS 0 2 yX (zc (zh 3) (zc (dC (.int 8)) zp))) (zk 4)) (zR (aA (bX gA (aP 2 xW (zc (zh 4) (zc (zS 0 3 pI (zc (zh 3) (zc (zh 4) (zc (dC (.int 6)) zp)))) zp))) (zc (dC (.str "\n")) zp)) (zk 5)) (zR (aD (aZ (bA (aP 1 zZ (zc (bX dL (dC (.str "\n")) (zc (zh 5) zp)) zp)))) (aC (dC (.bool false))) aE) (bW (eO (zc (dC (.int 5)) zp)) (zk 6) (zR (aA (bX dL (dC (.str "\n")) (zc (zS 1 2 vL (zc (zh 5) (zc (zh 3) zp))) zp)) (zk 7)) (aD (eI (dB (dOp (dIb fun i j=>decide (i<=j)) (dCB aK (zc (zh 7) zp)) (dC (.int 3000)))) (aZ (bA (aP 1 zZ (zc (zh 7) zp))))) (aC (dC (.bool false))) aE)))))))
end My
namespace My
open PySem L2
theorem seq1{t u:DS}{E:DEnds}{δ:XE}{S:Sto}(h:t { E with nx:=u E } δ S):zR t u E δ S:=h
theorem seqm{t u:DSm}{E:DEndsM}{δ:XE}{S:Sto}{M:DM}(h:t { E with nx:=u E } δ S M):t9 t u E δ S M:=h
theorem cut{t u:DS}{E:DEnds}{δ:XE}{S:Sto}(I:XE->Sto->Prop)(h1:∀N:XE->Sto->Prop,(∀ δ' S',I δ' S'->N δ' S')->t { E with nx:=N } δ S)(h2:∀ δ' S',I δ' S'->u E δ' S'):zR t u E δ S:=h1 _ h2
theorem iX(i j:Int):jc (.int i) (.int j)=decide (i=j):=rfl
theorem sJ(i:Int):dy (.int i)=true:=rfl
theorem qV(i:Bool):dy (.bool i)=true:=rfl
theorem tJ:("int" ∈ iV)=True:=eq_true dz
theorem tM:("bool" ∈ iV)=True:=eq_true dz
theorem pJ:("tuple" ∈ iV)=True:=eq_true dz
theorem uB:("str" ∈ iV)=True:=eq_true dz
end My
namespace My
open PySem L2
local macro_rules|`(tactic|walk_at $s:str)=>do
 let xs<-("aA mH j6 rQ uQ mG gA lU nH jI kX uJ all_cons List.all_nil Bool.and_self fE fY dXA dD mR knA lV kT iY nI lQ lK lX rW gC m7 k6 mZ fU lI lH jO rZ mQ rJ tG uC r9 tR qT sP zk zh dC dO dOp dUn zp zc dCB bJ aT dR dB aZ eI dOr cS p0 kM dIf fH dI dI0 dIb dUI aH eA lB kG tV rX rP qS uA qW uK tF pC pO pQ tD pD tW dFd bA rN rD aX aQ dSl aK tX sF rM dA jT lP dI2 gE lF dBM mI bX gJ fB mL kR rB dL iF k9 sB i0 cV aP zS iP rA sC oF qI qY pE sK pF pK qK p8 sQ asL sE tP qQ qN qH qD pS qA qM rC qP pU tE pV tI tY qJ aC aD dH aE uD bW cB tN sX eO sG lJ qR c7 aR uH sV pZ pA rG cX iZ cP iG aI gM g9 p7 pH jV qX uI rV uN uM List.replicate map_cons map_nil map_some Option.bind_some Option.bind_none Option.join_some getElem?_cons_zero getElem?_cons_succ set_cons_zero set_cons_succ List.take_succ_cons take_zero List.take_nil length_cons length_nil nil_append cons_append Option.some.injEq exists_eq_left' exists_eq_left List.cons.injEq XV.d.injEq XV.l.injEq XV.o.injEq PyData.int.injEq PyData.list.injEq PyData.tuple.injEq PyData.bool.injEq PyData.str.injEq and_true true_and decide_eq_true_eq Bool.not_true Bool.not_false Bool.false_eq_true Bool.true_eq_false not_true_eq_false not_false_eq_true decide_true decide_false Bool.not_eq_true' jY decide_eq_false_iff_not Nat.reduceAdd Nat.reduceMul zero_add Nat.reduceLT Nat.reduceLeDiff Nat.reduceEqDiff Int.reduceLT Int.reduceLE Int.reduceNeg Int.reducePow Int.reduceToNat Int.reduceEq Int.reduceAdd Int.reduceSub Int.reduceMul le_refl zero_le length_append length_map iX sJ qV List.isEmpty_nil List.isEmpty_cons Int.cast_ofNat_Int Int.natCast_zero Int.natCast_one tJ tM pJ uB uP sI sA pR".splitOn " ").toArray.mapM fun n=>`(Lean.Parser.Tactic.simpLemma|$(Lean.mkIdent n.toName):ident)
 match s.getString with
 |"d"=>`(tactic|((try dsimp only[↓reduceIte,$xs,*]);(try simp only[↓reduceIte,$xs,*])))
 |"n"=>`(tactic|(refine seq1 ?_; walk_at "d"))
 |"dX"=>`(tactic|(try simp -implicitDefEqProofs only [↓reduceIte,$xs,*]))
 |"e"=>`(tactic|((try dsimp only[zR,t9,↓reduceIte,$xs,*]);(try simp only[zR,t9,↓reduceIte,$xs,*])))
 |_=>Lean.Macro.throwUnsupported
section
variable {R:RX}
theorem EQ{n:Int}(q:∀m,0<=m->R (.d (.int m)) []):uG [.d (.int n)] [] R:=by
 unfold uG;walk_at "e";have h1:=oq (n+7919) (show (2147483647:Int)≠0 by decide);have h2:=om (n+7919) (show (0:Int)<2147483647 by decide);exact⟨jB yw yw,jB dz dz,q _ (oq _ dz)⟩
theorem zx{p:List bg}{n:Int}(hp:aJ p)(hn:0<n)(hb:n.natAbs.log2<9000)(q:∀r p',0<=r->r<n->aJ p'->R (.d (.int r)) [p']):zt [.l 0,.d (.int n)] [p] R:=by
 obtain⟨l,g,sd,rfl,hl⟩:=hp;unfold zt;walk_at "e";split
 ·refine⟨hn,.inl ⟨⟨hn,hb⟩,0,rfl,?_⟩⟩;walk_at "e";exact q _ _ (oq _ yw) (om _ hn) ⟨_,_,_,rfl,Int.ediv_nonneg hl yw⟩
 ·refine EQ fun m _=>?_;walk_at "e";refine EQ fun m' h'=>?_;walk_at "e";refine⟨2,rfl,?_⟩;walk_at "e";exact .inl ⟨⟨by decide,by decide +kernel⟩,hn,q _ _ (oq _ yw) (om _ hn) ⟨_,_,_,rfl,hl⟩⟩
theorem No{n:Int}(q:∀p,aJ p->R (.l 0) [p]):wG [.d (.int n)] [] R:=by
 unfold wG;walk_at "e";refine⟨⟨by decide,by decide,by decide⟩,?_⟩;refine .inr (q _ ⟨_,_,_,rfl,?_⟩);split<;>omega
theorem LI{p:List bg}(hp:aJ p)(q:∀r p',-10 ^ 58<=r->r<=10 ^ 58->aJ p'->R (.d (.int r)) [p']):Gr [.l 0] [p] R:=by
 unfold Gr;walk_at "e";refine zx hp dz (by decide +kernel) fun r p1 r0 r1 ac=>?_;walk_at "e";split
 ·refine zx ac dz (by decide +kernel) fun r p2 r0 r1 aa=>?_;walk_at "e";exact q _ _ yw yw aa
 ·split
  ·refine zx ac dz (by decide +kernel) fun r p2 r0 r1 aa=>?_;walk_at "e";exact q _ _ yw yw aa
  ·refine⟨⟨by decide,by decide,by decide⟩,jB dz dz,?_⟩;have k1:(10:Int) ^ 30=1000000000000000000000000000000:=by decide +kernel
   have k2:(10:Int) ^ 28=10000000000000000000000000000:=by decide +kernel
   refine zx ac (by decide +kernel) (by decide +kernel) fun r p2 r0 r1 aa=>?_;walk_at "e"
   try simp only[k1,k2]at r1 ⊢
   refine⟨⟨by decide,by decide,by decide⟩,⟨by decide,by decide,by decide⟩,MJ 128 128 yw (by decide +kernel),q _ _ yw yw aa⟩
theorem Ni{p:List bg}(hp:aJ p)(q:∀r p',-10 ^ 58<=r->r<=10 ^ 58->aJ p'->R (.d (.int r)) [p']):v0 [.l 0] [p] R:=LI hp q
end
section
variable {R:RX}
theorem Og{α:Type}[Inhabited α]{l:List α}{i:Int}(h0:0<=i)(h1:i<l.length)(d:α):atI l i=some (l.getD i.toNat d):=by
 obtain⟨k,rfl⟩:=gw h0;have hk:k<l.length:=yw
 rw[c6 (dn hk)];simp[List.getD_eq_getElem?_getD,hk]
theorem DU:("abcdefghijklmnopqrstuvwxyz":Str).length=26:=by decide
theorem HE:("abcdefghijklmnopqrstuvwxyz":Str).cps.toList.length=26:=by rw[<- DU];simp[Str.length]
theorem D7:("abcdefghijklmnopqrstuvwxyz":Str).length<=bw:=lg (small1000 (by rw[DU];decide))
theorem len1(c:Nat):(⟨#[c]⟩:Str).length=1:=rfl
abbrev lsgn (i:Int):Str:=⟨#[("abcdefghijklmnopqrstuvwxyz":Str).cps.toList.getD i.toNat 0]⟩
theorem DJ{i:Int}(h0:0<=i)(h1:i<26):atI ("abcdefghijklmnopqrstuvwxyz":Str).cps.toList i=some (("abcdefghijklmnopqrstuvwxyz":Str).cps.toList.getD i.toNat 0):=Og h0 (by rw[HE];exact h1) 0
def jD(z:Str):Bool:=decide (z.length<=100)&&fu z&&!decide (z = "zy")
theorem Jl{z:Str}(h:jD z=true):z.length<=100:=by
 unfold jD at h;rw[cy,cy]at h;exact kz h.1.1
theorem iS(a b:Str):(a++b).length=a.length+b.length:=strLen_append a b
theorem GN:∀zs:List Str,(∀z∈zs,z.length<=1)->(jm "" zs).length<=zs.length
 | [],_=>fe 0
 | [a],h=>h a cw
 |a::b::r,h=>by
  show (a ++ "" ++ jm "" (b::r)).length<=_;rw[iS,iS];have e:("":Str).length=0:=rfl;have h1:=h a cw;have h2:=GN (b::r) fun z m=>h z (cn _ m);rw[e];simp only[cz]at h2 ⊢;omega
def AY:List Str:=["part","gap","cut","a","aa","dear","b","keeps"]
set_option maxHeartbeats 8000000 in
abbrev Part:=Str×Int×Int
def cG(p:Part):bg:=.tuple [.str p.1,.int p.2.1,.int p.2.2]
def aL(ps:List Part):bg:=.tuple (ps.map cG)
structure Prt(p:Part):Prop where
 nm:jD p.1=true
 le:p.2.1<=p.2.2
 lo:-10 ^ 58<=p.2.1
 hi:p.2.2<=10 ^ 59
structure Drw(ps:List Part):Prop where
 l1:1<=ps.length
 l8:ps.length<=8
 all:∀p∈ps,Prt p
theorem sD{α:Type}{f:α->bg}{l:List α}{k:Nat}{x:α}(e:l[k]?=some x):atI (l.map f) (k:Int)=some (f x):=c6 (by rw[gx,e];rfl)
end
section
variable {R:RX}{S:Sto}
theorem N9{a b m:Int}(h1:m∈[a,b])(h2:∀x,x∈[a,b]->m<=x):m=min a b:=by
 have ha:=h2 a yv;have hb:=h2 b yv;simp only[jt,ia,or_false]at h1;omega
theorem MC{a b m:Int}(h1:m∈[a,b])(h2:∀x,x∈[a,b]->x<=m):m=max a b:=by
 have ha:=h2 a yv;have hb:=h2 b yv;simp only[jt,ia,or_false]at h1;omega
theorem OV{a b:Int}(q:R (.d (.int (min a b))) S):Ah [.d (.list [.int a,.int b])] S R:=.inl ⟨_,rfl,[a,b],rfl,yv,fun m h1 h2=>by rw[N9 h1 h2];exact q⟩
theorem MN{a b:Int}(q:R (.d (.int (max a b))) S):BF [.d (.list [.int a,.int b])] S R:=⟨_,rfl,[a,b],rfl,yv,fun m h1 h2=>by rw[MC h1 h2];exact q⟩
abbrev Term:=Nat×Int
def tmD(t:Term):bg:=.tuple [.int t.1,.int t.2]
def vX(ts:List Term):bg:=.tuple (ts.map tmD)
structure Gap where
 ts:List Term
 lo:Int
 hi:Int
def cO(g:Gap):bg:=.tuple [vX g.ts,.int g.lo,.int g.hi]
theorem sL(g:Gap):cO g=.tuple [vX g.ts,.int g.lo,.int g.hi]:=rfl
theorem Fj(t:Term):tmD t=.tuple [.int t.1,.int t.2]:=rfl
theorem iA(p:Part):cG p=.tuple [.str p.1,.int p.2.1,.int p.2.2]:=rfl
structure Tms(n:Nat)(ts:List Term):Prop where
 ne:ts≠[]
 len:ts.length<=n
 ok:∀t∈ts,t.1<n/\t.2≠0/\-3<=t.2/\t.2<=3
 srt:ts.Pairwise fun t u=>t.1<u.1
structure Tm3(n:Nat)(ts:List Term):Prop where
 len:ts.length<=100
 ok:∀t∈ts,t.1<n/\-3<=t.2/\t.2<=3
theorem Tms.tm3{n:Nat}{ts:List Term}(h:Tms n ts)(hn:n<=8):Tm3 n ts:=⟨by have:=h.len;omega,fun t m=>⟨(h.ok t m).1,(h.ok t m).2.2⟩⟩
def part(ps:List Part)(k:Nat):Part:=ps.getD k ("",0,0)
theorem rO{ps:List Part}{k:Nat}(h:k<ps.length):ps[k]?=some (part ps k):=by
 unfold part;rw[dn h,List.getD_eq_getElem?_getD,dn h];rfl
theorem kW{ps:List Part}{k:Nat}(h:k<ps.length):part ps k∈ps:=dh (rO h)
def plo(ps:List Part)(k:Nat):Int:=(part ps k).2.1
def phi(ps:List Part)(k:Nat):Int:=(part ps k).2.2
def tLo(ps:List Part)(t:Term):Int:=min (t.2*plo ps t.1) (t.2*phi ps t.1)
def tHi(ps:List Part)(t:Term):Int:=max (t.2*plo ps t.1) (t.2*phi ps t.1)
def cD(ps:List Part)(ts:List Term):Int:=(ts.map (tLo ps)).sum
def b9(ps:List Part)(ts:List Term):Int:=(ts.map (tHi ps)).sum
theorem BR{ps:List Part}{t:Term}{ts:List Term}:cD ps (t::ts)=tLo ps t+cD ps ts:=by simp[cD]
theorem CO{ps:List Part}{t:Term}{ts:List Term}:b9 ps (t::ts)=tHi ps t+b9 ps ts:=by simp[b9]
theorem LL{ps:List Part}{ts:List Term}{i:Nat}{t:Term}(h:ts[i]?=some t):cD ps (ts.take (i+1))=cD ps (ts.take i)+tLo ps t:=by
 unfold cD;rw[mf,h];simp
theorem On{ps:List Part}{ts:List Term}{i:Nat}{t:Term}(h:ts[i]?=some t):b9 ps (ts.take (i+1))=b9 ps (ts.take i)+tHi ps t:=by
 unfold b9;rw[mf,h];simp
theorem Bu(ps:List Part):∀ts:List Term,cD ps ts<=b9 ps ts
 | []=>by simp[cD,b9]
 |t::ts=>by
  have:=Bu ps ts;rw[BR,CO];unfold tLo tHi;omega
theorem iM{α:Type}{f:α->bg}{l:List α}{i:Nat}{d:bg}(h:(l.map f)[i]?=some d):∃x,l[i]?=some x/\d=f x:=by
 rw[gx]at h;obtain⟨x,e,rfl⟩:=map_eq_some_iff.mp h;exact⟨x,e,rfl⟩
theorem Ol{ps:List Part}{ts:List Term}{t:bg}(ht:dY (.d t)=some (ts.map tmD))(h3:Tm3 ps.length ts)(q:R (.d (spD (cD ps ts) (b9 ps ts))) []):vJ [.d (aL ps),.d t] [] R:=by
 unfold vJ aL;walk_at "d"
 walk_at "n"
 walk_at "n"
 walk_at "n";refine⟨_,ht,?_⟩;refine eU (fun i δ S=>∃(u1 u2 u3:Option XV),S=[]/\δ=[some (.d (.tuple (ps.map cG))),some (.d t),some (.d (.int (cD ps (ts.take i)))),some (.d (.int (b9 ps (ts.take i)))),u1,u2,u3]) ⟨_,_,_,rfl,rfl⟩ ?_ ?_
 ·rintro i d _ _ N hi ⟨u1,u2,u3,rfl,rfl⟩ hN;obtain⟨t,ht,rfl⟩:=iM hi;obtain⟨t1,t2,t3⟩:=h3.ok t (dh ht);have ep:=sD (f:=cG) (rO t1);unfold tmD;walk_at "d"
  walk_at "n"
  refine⟨_,ep,?_⟩;unfold cG;walk_at "d";refine⟨jB yw yw,_,ep,?_⟩;unfold cG;walk_at "d";refine⟨jB yw yw,?_⟩
  walk_at "n"
  refine OV ?_;walk_at "d";refine MN ?_;walk_at "d";exact hN _ _ ⟨_,_,_,rfl,by rw[LL ht,On ht];rfl⟩
 ·rintro _ _ ⟨u1,u2,u3,rfl,rfl⟩;rw[cg,qa];walk_at "d";exact q
theorem yH{ds:List bg}{r:Int}{P:bg->Prop}(h0:0<=r)(h1:r<ds.length)(hP:∀d∈ds,P d):∃d,atI ds r=some d/\P d:=by
 obtain⟨k,rfl⟩:=gw h0;have hk:k<ds.length:=yw
 exact⟨ds[k],c6 (dn hk),hP _ (getElem_mem hk)⟩
theorem Ae(ds:List bg):jc (.list ds) (.list [])=decide (ds=[]):=by
 cases ds with
 |nil=>rfl
 |cons d ds=>rfl
theorem IV(t:Term):Shp 1 (tmD t):=Kr (IG F7 F7)
theorem OQ(ts:List Term):dy (.list (ts.map tmD))=true:=(m5 (nB fun t _=>IV t)).ok
structure GapOk(n:Nat)(g:Gap):Prop where
 ts:Tms n g.ts
 le:g.lo<=g.hi
def dZ(gs:List Gap):bg:=.tuple (gs.map cO)
theorem GJ{g:DG}{te:DE}{fin:Sto->Prop}{α:Type}(F:α->Prop)(f:α->bg)(P:XE->Prop):∀(ds:List bg) (acc:List α) (p:List bg) (τ:XE),P τ->aJ p->acc.length+ds.length<=1000 ->
  (∀d∈ds,∀ τ p acc (R:XE->RX),P τ->aJ p->(∀ τ' x p',P τ'->aJ p'->F x->R τ' (.d (f x)) [p',acc])->g (.d d) τ [p,acc] fun τ1 S1=>te τ1 S1 (R τ1)) ->
  (∀xs p',aJ p'->(∀x∈xs,F x)->xs.length=ds.length->fin [p',(acc++xs).map f])->bC 1 g aI te fin ds τ [p,acc.map f]
 | [],acc,p,τ,_,hp,_,_,h=>by
  have:=h [] p hp yv rfl;rw[jf]at this;exact this
 |d::ds,acc,p,τ,hP,hp,hl,el,h=>by
  show g (.d d) τ [p,acc.map f] fun τ1 S1=>aI τ1 S1 fun b S2=>if b=true then te τ1 S2 fun x S3=>asD x fun e=>∃acc,S3[1]?=some acc/\acc.length<1000/\bC 1 g aI te fin ds τ1 (S3.set 1 (acc++[e]))else bC 1 g aI te fin ds τ1 S2
  simp only[aI,↓reduceIte];rw[cz]at hl;refine el d cw τ p (acc.map f) (fun τ1 x S3=>asD x fun e=>∃acc,S3[1]?=some acc/\acc.length<1000/\bC 1 g aI te fin ds τ1 (S3.set 1 (acc++[e]))) hP hp fun τ' x p' ac aa hF=>?_;refine⟨acc.map f,rfl,by rw[cg];omega,?_⟩;have e:([p',acc.map f]:Sto).set 1 (acc.map f++[f x])=[p',(acc++[x]).map f]:=by simp
  rw[e];refine GJ F f P ds (acc++[x]) p' τ' ac aa (by rw[cq,gb];omega) (fun e m=>el e (cn _ m)) fun xs p'' hp'' fs hl=>?_;rw[ja];exact h (x::xs) p'' hp'' (fun y m=>(mem_cons.mp m).elim (fun e=>e▸hF) (fs y)) (by simp[hl])
end
section
variable {R:RX}
theorem p59:(10:Int) ^ 59=100000000000000000000000000000000000000000000000000000000000:=by decide +kernel
theorem p58:(10:Int) ^ 58=10000000000000000000000000000000000000000000000000000000000:=by decide +kernel
structure GapW(n:Nat)(g:Gap):Prop where
 ok:GapOk n g
 lo:-100000000000000000000000000000000000000000000000000000000000000<=g.lo
 hi:g.hi<=100000000000000000000000000000000000000000000000000000000000010
structure GapsB(n:Nat)(gs:List Gap):Prop where
 l1:1<=gs.length
 l6:gs.length<=6
 all:∀g∈gs,GapW n g
structure GapX(ps:List Part)(g:Gap):Prop where
 ok:GapOk ps.length g
 lo:cD ps g.ts-1<=g.lo
 hi:g.hi<=b9 ps g.ts+(b9 ps g.ts-cD ps g.ts)+3
theorem IJ{p:List bg}{ps:List Part}(hp:aJ p)(hd:Drw ps)(q:∀g p',GapX ps g->aJ p'->R (.d (cO g)) [p']):sW [.l 0,.d (aL ps)] [p] R:=by
 have h8:=hd.l8;have h1:=hd.l1;unfold sW;walk_at "d"
 walk_at "n"
 refine cut (fun δ S=>∃(p:List bg) (ts:List Term) (u1 u2:Option XV),aJ p/\ts.length<=ps.length/\(∀t∈ts,t.1<ps.length/\t.2≠0/\-3<=t.2/\t.2<=3)/\(ts.Pairwise fun t u=>t.1<u.1)/\S=[p,ts.map tmD]/\δ=[some (.l 0),some (.d (aL ps)),some (.l 1),u1,u2,none,none,none,none,none]) (fun N hN=>?_) ?_
 ·walk_at "d";refine⟨ps.length,by unfold aL;walk_at "d",?_⟩;refine eU (fun i δ S=>∃(p:List bg) (ts:List Term) (u1 u2:Option XV),aJ p/\ts.length<=i/\(∀t∈ts,t.1<i/\t.2≠0/\-3<=t.2/\t.2<=3)/\(ts.Pairwise fun t u=>t.1<u.1)/\S=[p,ts.map tmD]/\δ=[some (.l 0),some (.d (aL ps)),some (.l 1),u1,u2,none,none,none,none,none]) ⟨p,[],_,_,hp,fe _,yv,.nil,rfl,rfl⟩ ?_ ?_
  ·rintro i d _ _ N hi ⟨p,ts,u1,u2,hp,hl,ht,hw,rfl,rfl⟩ hN;obtain⟨ah,rfl⟩:=oC hi;have ai:i<ps.length:=by simpa using ah
   walk_at "d"
   walk_at "n"
   refine zx hp dz (by decide +kernel) fun r p2 r0 r1 aa=>?_;walk_at "d";refine⟨rfl,?_⟩;simp only[any_cons,List.any_nil,rl,iX];have ag:=hN [some (.l 0),some (.d (aL ps)),some (.l 1),some (.d (.int (0+(i:Int)))),some (.d (.int (r-4))),none,none,none,none,none] [p2,ts.map tmD] ⟨p2,ts,_,_,aa,yw,fun t m=>⟨by have:=(ht t m).1;omega,(ht t m).2⟩,hw,rfl,rfl⟩;by_cases hz:r-4 = -4\/r-4=0\/r-4=4
   ·have e:(decide ((-4:Int)=r-4)||(decide ((0:Int)=r-4)||decide ((4:Int)=r-4)))=true:=by
     rcases hz with h|h|h<;>simp[h]
    rw[e];walk_at "d";exact ag
   ·have e:(decide ((-4:Int)=r-4)||(decide ((0:Int)=r-4)||decide ((4:Int)=r-4)))=false:=by
     simp;omega
    rw[e];walk_at "d";refine⟨yw,hN _ _ ⟨p2,ts++[(i,r-4)],_,_,aa,by simp;omega,fun t m=>?_,?_,by simp[tmD],rfl⟩⟩
    ·rcases mem_append.mp m with m|m
     ·exact⟨by have:=(ht t m).1;omega,(ht t m).2⟩
     ·rw[mem_singleton.mp m];exact⟨yv,by simp only;omega,by simp only;omega,by simp only;omega⟩
    ·rw[List.pairwise_append];exact⟨hw,yv,fun t m u m'=>by rw[mem_singleton.mp m'];exact(ht t m).1⟩
  ·rintro _ _ ⟨p,ts,u1,u2,hp,hl,ht,hw,rfl,rfl⟩;rw[nA]at hl ht;have hz:(ps.length:Int).toNat=ps.length:=by simp
   rw[hz]at hl ht;exact hN _ _ ⟨p,ts,u1,u2,hp,hl,ht,hw,rfl,rfl⟩
 rintro _ _ ⟨p,ts,u1,u2,hp,hl,ht,hw,rfl,rfl⟩;refine cut (fun δ S=>∃(p:List bg) (ts:List Term) (T:Sto) (k:Nat),aJ p/\Tms ps.length ts/\T[k]?=some (ts.map tmD)/\S=p::T/\δ=[some (.l 0),some (.d (aL ps)),some (.l (k+1)),u1,u2,none,none,none,none,none]) (fun N hN=>?_) ?_
 ·walk_at "d";refine⟨OQ ts,rfl,?_⟩;rw[Ae];walk_at "d";split
  ·refine⟨ps.length,by unfold aL;walk_at "d",?_⟩;refine zx hp yw (BB yw yw) fun r p2 r0 r1 aa=>?_;walk_at "d";refine zx aa dz (by decide +kernel) fun r3 p3 r2 r4 ac=>?_;obtain⟨d,ed,n,rfl,hn⟩:=yH (ds:=[dq 1,dq (-1),dq 2,dq (-3)]) (P:=fun d=>∃n,d=.int n/\n≠0/\-3<=n/\n<=3) r2 r4 (by
    intro d m;simp only[jt,ia,or_false]at m;rcases m with rfl|rfl|rfl|rfl<;>exact⟨_,rfl,by decide,by decide,by decide⟩)
   obtain⟨k,rfl⟩:=gw r0;walk_at "d";refine⟨_,ed,?_⟩;walk_at "d";refine hN _ _ ⟨p3,[(k,n)],[ts.map tmD,[tmD (k,n)]],1,ac,⟨yv,by simpa using h1,fun t m=>by rw[mem_singleton.mp m];exact⟨by simp only;omega,hn⟩,yv⟩,rfl,rfl,rfl⟩
  ·rename_i af;exact hN _ _ ⟨p,ts,[ts.map tmD],0,hp,⟨fun z=>af (by rw[z];rfl),hl,ht,hw⟩,rfl,rfl,rfl⟩
 rintro _ _ ⟨p,ts,T,k,hp,ae,hk,rfl,rfl⟩
 walk_at "n"
 rw[hk];walk_at "d";refine Ol rfl (ae.tm3 h8) ?_;have lm:=Bu ps ts;unfold spD;walk_at "d";refine⟨rfl,?_⟩;walk_at "d"
 walk_at "n"
 walk_at "n"
 refine .inl ⟨⟨by decide,by decide +kernel⟩,.inl ⟨⟨by decide,by decide +kernel⟩,?_⟩⟩;walk_at "d";refine zx hp dz (by decide +kernel) fun r p2 r0 r1 aa=>?_;obtain⟨d,ed,n,rfl,hn⟩:=yH (P:=fun d=>∃n,d=.int n/\-1<=n/\n<=b9 ps ts-cD ps ts+1) (ds:=[dq 0,dq 1,dq (-1),dq ((b9 ps ts-cD ps ts)/2),dq ((b9 ps ts-cD ps ts)/3),dq (b9 ps ts-cD ps ts+1)]) r0 r1 (by simp;omega);walk_at "d";refine⟨_,ed,?_⟩;walk_at "d"
 walk_at "n"
 refine .inl ⟨⟨by decide,by decide +kernel⟩,?_⟩;walk_at "d";refine zx aa dz (by decide +kernel) fun r' p3 r2 r3 ac=>?_;obtain⟨d,ed,n',rfl,h0⟩:=yH (P:=fun d=>∃n,d=.int n/\0<=n/\n<=b9 ps ts-cD ps ts+2) (ds:=[dq 0,dq 1,dq 2,dq ((b9 ps ts-cD ps ts)/2),dq (b9 ps ts-cD ps ts),dq (b9 ps ts-cD ps ts+2)]) r2 r3 (by simp;omega);walk_at "d";refine⟨_,ed,?_⟩;walk_at "d";refine⟨_,hk,?_⟩;walk_at "d";exact q ⟨ts,_,_⟩ p3 ⟨⟨ae,by simp only;omega⟩,by simp only;omega,by simp only;omega⟩ ac
theorem MR{p:List bg}{ps:List Part}{m:Int}{P W:Gap->Prop}(ae:∀{p:List bg}{R:RX},aJ p->(∀g p',P g->aJ p'->R (.d (cO g)) [p'])->sW [.l 0,.d (aL ps)] [p] R)(pw:∀g,P g->W g)(pl:∀(g:Gap) (r:Int),P g->0<=r->r<3->W ⟨g.ts,g.hi+1,g.hi+1+r⟩)
  (hp:aJ p) (m1:0<m) (m6:m<=6) (q:∀gs p',1<=gs.length->(∀g∈gs,W g)->(gs.length:Int)<=m->aJ p'->R (.d (dZ gs)) [p']):pI [.l 0,.d (aL ps),.d (.int m)] [p] R:=by
 unfold pI;walk_at "d"
 walk_at "n"
 refine zx hp m1 (BB m1 yw) fun r p1 r0 r1 ai=>?_;walk_at "d";refine GJ (α:=Gap) P cO (fun τ=>∃u,τ=[u,some (.l 0),some (.d (aL ps))]) _ [] p1 _ ⟨_,rfl⟩ ai (by rw[nA];simp;omega) ?_ ?_
 ·rintro d md _ p acc R' ⟨u,rfl⟩ hp hk;walk_at "d";refine ae hp fun g p' hg ag=>?_;walk_at "d";exact hk _ g p' ⟨_,rfl⟩ ag hg
 ·intro gs p2 af hg hl;rw[nA]at hl;rw[nil_append];have l1:1<=gs.length:=yw
  have l6:(gs.length:Int)<=m:=yw
  walk_at "d";refine cut (fun δ S=>∃(p:List bg) (gs:List Gap),aJ p/\1<=gs.length/\(∀g∈gs,W g)/\(gs.length:Int)<=m/\S=[p,gs.map cO]/\δ=[some (.l 0),some (.d (aL ps)),some (.d (.int m)),some (.l 1)]) (fun N hN=>?_) ?_
  ·walk_at "d";refine zx af dz (by decide +kernel) fun r2 p3 r3 r4 aa=>?_;walk_at "d";have no:=hN [some (.l 0),some (.d (aL ps)),some (.d (.int m)),some (.l 1)] [p3,gs.map cO] ⟨p3,gs,aa,l1,fun g m=>pw g (hg g m),l6,rfl,rfl⟩;split
   ·split
    ·obtain⟨g0,ac⟩:∃g0,gs[0]?=some g0:=⟨gs[0],dn yw⟩;have e0:=sD (f:=cO) ac;have ah:=hg g0 (dh ac);refine⟨_,e0,?_⟩;rw[sL];walk_at "d";refine⟨_,e0,?_⟩;rw[sL];walk_at "d";refine⟨_,e0,?_⟩;rw[sL];walk_at "d";refine zx aa dz (by decide +kernel) fun r5 p4 r6 r7 aj=>?_;walk_at "d";obtain⟨j,hj⟩:∃j,ixN gs.length (-1)=some j/\j<gs.length:=⟨gs.length-1,by unfold ixN;rw[cb yw,cm yw];congr 1;omega,yw⟩;refine⟨j,hj.1,hN _ _ ⟨p4,gs.set j ⟨g0.ts,g0.hi+1,g0.hi+1+r5⟩,aj,by simp;omega,fun g mg=>?_,by simp;omega,by simp only[List.map_set,cO],rfl⟩⟩;rcases List.mem_or_eq_of_mem_set mg with h|rfl
     ·exact pw g (hg g h)
     ·exact pl g0 r5 ah r6 r7
    ·exact no
   ·exact no
  ·rintro _ _ ⟨p,gs,hp,ak,hw,hm,rfl,rfl⟩;walk_at "d";exact q gs p ak hw hm hp
abbrev nS (i:Int):Str:=(qh i:String)
structure NumB(i:Int):Prop where
 lo:-1000000000000000000000000000000000000000000000000000000000000000<=i
 hi:i<=1000000000000000000000000000000000000000000000000000000000000000
theorem NumB.abs{i:Int}(h:NumB i):i.natAbs<=1000000000000000000000000000000000000000000000000000000000000000:=by
 have:=h.lo;have:=h.hi;omega
theorem NumB.log{i:Int}(h:NumB i):i.natAbs.log2<1920:=by
 have h1:=h.abs;by_cases z:i.natAbs=0
 ·rw[z];decide
 ·rw[Nat.log2_lt z];exact qw h1 (by decide +kernel)
theorem tU{i:Int}{k:Nat}(hk:0<k)(h:i.natAbs<10 ^ k):(nS i).length<=k+1:=by
 have:=int_text_length_le10 hk h;show (dw _).length<=_;rw[ofString_length];exact this
theorem NumB.len{i:Int}(h:NumB i):(nS i).length<=65:=tU dz (qw h.abs (by decide +kernel))
theorem xX(a b c:Str):a++b++c=a++(b++c):=by
 show Str.mk _=Str.mk _;congr 1;exact Array.append_assoc
abbrev jn (aa r x:Str):Str:=r++aa++x
theorem Cp(aa x:Str):∀(l:List Str) (b:Str),x++l.foldl (jn aa) b=l.foldl (jn aa) (x++b)
 | [],_=>rfl
 |c::r,b=>by
  rw[foldl_cons,foldl_cons,Cp aa x r];congr 1;show x++(b++aa++c)=x++b++aa++c;rw[xX,xX,xX]
theorem vV(aa:Str):∀(l:List Str) (a:Str),jm aa (a::l)=l.foldl (jn aa) a
 | [],_=>rfl
 |b::r,a=>by
  show a++aa++jm aa (b::r)=_;rw[vV aa r b,Cp,foldl_cons]
theorem oR(aa:Str)(l:List Str)(a:Str):PySem.Txt.join aa (a::l)=l.foldl (jn aa) a:=by
 show Builtin.Str.glued _ _=_;rw[jb,vV]
def prow(p:Part):Str:=[p.1,nS p.2.1,nS p.2.2].foldl (jn " ") "part"
def cT(ps:List Part)(g:Gap)(ts:List Term):List Str:=nS g.lo::nS g.hi::ts.flatMap fun t=>[nS t.2,(part ps t.1).1]
def grow(ps:List Part)(g:Gap)(ts:List Term):Str:=(cT ps g ts).foldl (jn " ") "gap"
def text(ps:List Part)(gs:List Gap):Str:=PySem.Txt.join "\n" (ps.map prow++gs.map fun g=>grow ps g g.ts)
structure JobB(ps:List Part)(gs:List Gap):Prop where
 l8:ps.length<=8
 parts:∀p∈ps,p.1.length<=100/\NumB p.2.1/\NumB p.2.2
 l6:gs.length<=6
 gaps:∀g∈gs,NumB g.lo/\NumB g.hi/\g.ts.length<=8/\∀t∈g.ts,t.1<ps.length/\-3<=t.2/\t.2<=3
theorem Ou{p:Part}(h:p.1.length<=100/\NumB p.2.1/\NumB p.2.2):(prow p).length<=1000:=by
 unfold prow;simp only[foldl_cons,List.foldl_nil,jn,iS];have e1:("part":Str).length=4:=rfl;have e2:(" ":Str).length=1:=rfl;have:=h.2.1.len;have:=h.2.2.len;rw[e1,e2];omega
theorem vN{t:Term}(h:-3<=t.2/\t.2<=3):(nS t.2).length<=2:=tU (k:=1) dz yw
theorem Bv{t:Term}(h:-3<=t.2/\t.2<=3):NumB t.2:=⟨yw,yw⟩
theorem Ib(ps:List Part)(g:Gap)(ts:List Term)(t:Term):grow ps g (ts++[t])=jn " " (jn " " (grow ps g ts) (nS t.2)) (part ps t.1).1:=by
 unfold grow cT;simp only[List.flatMap_append,foldl_cons,List.foldl_append,pc,List.flatMap_nil,jf,List.foldl_nil]
theorem FO{ps:List Part}{g:Gap}(hp:∀p∈ps,p.1.length<=100/\NumB p.2.1/\NumB p.2.2)(h:NumB g.lo/\NumB g.hi):∀ts:List Term,(∀t∈ts,t.1<ps.length/\-3<=t.2/\t.2<=3)->(grow ps g ts).length<=135+104*ts.length:=by
 intro ts;have e1:("gap":Str).length=3:=rfl;have e2:(" ":Str).length=1:=rfl;have go:∀(ts:List Term) (a:Str),(∀t∈ts,t.1<ps.length/\-3<=t.2/\t.2<=3)->((ts.flatMap fun t=>[nS t.2,(part ps t.1).1]).foldl (jn " ") a).length<=a.length+104*ts.length:=by
  intro ts;induction ts with
  |nil=>intro a _;simp
  |cons t ts ih=>
   intro a ht;obtain⟨h1,h2⟩:=ht t cw;have q:=ih (jn " " (jn " " a (nS t.2)) (part ps t.1).1) fun u m=>ht u (cn _ m);have l1:=vN h2;have l2:=(hp _ (kW h1)).1;have ql:(jn " " (jn " " a (nS t.2)) (part ps t.1).1).length=a.length+1+(nS t.2).length+1+(part ps t.1).1.length:=by simp only[jn,iS,e2]
   rw[ql]at q;rw[pc,List.foldl_append,cz];show (List.foldl (jn " ") (jn " " (jn " " a (nS t.2)) (part ps t.1).1) (ts.flatMap _)).length<=_;omega
 intro ht;have q:=go ts (jn " " (jn " " "gap" (nS g.lo)) (nS g.hi)) ht;have l1:=h.1.len;have l2:=h.2.len;have ql:(jn " " (jn " " "gap" (nS g.lo)) (nS g.hi)).length=3+1+(nS g.lo).length+1+(nS g.hi).length:=by simp only[jn,iS,e1,e2]
 rw[ql]at q;show ((ts.flatMap fun t=>[nS t.2,(part ps t.1).1]).foldl (jn " ") (jn " " (jn " " "gap" (nS g.lo)) (nS g.hi))).length<=_;omega
theorem BD(ps:List Part)(g:Gap)(ts:List Term):(cT ps g ts).length=2+2*ts.length:=by
 have:∀ts:List Term,(ts.flatMap fun t=>[nS t.2,(part ps t.1).1]).length=2*ts.length:=by
  intro ts;induction ts with
  |nil=>rfl
  |cons t ts ih=>rw[pc,cq,ih,cz];simp only[cz,length_nil];omega
 show (_::_::_).length=_;simp only[cz,this];omega
theorem IC{ps:List Part}{g:Gap}{ts:List Term}{i:Nat}{t:Term}(e:ts[i]?=some t):cT ps g (ts.take (i+1))=cT ps g (ts.take i)++[nS t.2,(part ps t.1).1]:=by
 unfold cT;rw[mf,e];simp only[toList_some,List.flatMap_append,pc,List.flatMap_nil,jf,cons_append]
theorem L6{ps:List Part}{g:Gap}{ts:List Term}(hp:∀p∈ps,p.1.length<=100/\NumB p.2.1/\NumB p.2.2)(b1:NumB g.lo)(b2:NumB g.hi)(ht:∀t∈ts,t.1<ps.length/\-3<=t.2/\t.2<=3){y:Str}(m:y∈cT ps g ts):y.length<=1000:=by
 unfold cT at m;rcases mem_cons.mp m with rfl|m
 ·exact ie b1.len dz
 rcases mem_cons.mp m with rfl|m
 ·exact ie b2.len dz
 obtain⟨t,mt,m⟩:=mem_flatMap.mp m;obtain⟨h1,h2⟩:=ht t mt;rcases mem_cons.mp m with rfl|m
 ·exact ie (vN h2) dz
 ·rw[mem_singleton.mp m];exact ie (hp _ (kW h1)).1 dz
theorem KU{ps:List Part}{gs:List Gap}{g:Gap}(h:JobB ps gs)(mg:g∈gs)(q:R (.d (.str (grow ps g g.ts))) []):vM [.d (aL ps),.d (cO g)] [] R:=by
 obtain⟨b1,b2,l8,ht⟩:=h.gaps g mg;have aa:=h.l8;unfold vM aL;rw[sL];walk_at "d"
 walk_at "n"
 walk_at "n"
 refine⟨b1.log,b2.log,?_⟩;unfold vX;walk_at "d";refine eU (fun i δ S=>∃(u1 u2:Option XV),S=[(("gap":Str)::cT ps g (g.ts.take i)).map be]/\δ=[some (.d (.tuple (ps.map cG))),some (.d (.tuple [.tuple (g.ts.map tmD),.int g.lo,.int g.hi])),some (.l 0),u1,u2]) ⟨_,_,rfl,rfl⟩ ?_ ?_
 ·rintro i d _ _ N hi ⟨u1,u2,rfl,rfl⟩ hN;obtain⟨t,e,rfl⟩:=iM hi;obtain⟨h1,h2⟩:=ht t (dh e);have ep:=sD (f:=cG) (rO h1);rw[Fj];walk_at "d";refine⟨(Bv h2).log,_,ep,?_⟩;rw[iA];walk_at "d";have il:(g.ts.take i).length<=8:=by rw[gc];omega
  refine⟨by rw[BD];omega,hN _ _ ⟨_,_,?_,rfl⟩⟩;rw[IC e,gk,gu];rfl
 ·rintro _ _ ⟨u1,u2,rfl,rfl⟩;rw[cg,qa];walk_at "d";refine⟨("gap":Str)::cT ps g g.ts,rfl,by decide,by rw[cz,BD];omega,fun y m=>?_,?_⟩
  ·rcases mem_cons.mp m with rfl|m
   ·decide
   ·exact L6 h.parts b1 b2 ht m
  ·rw[oR];exact q
theorem Af{ps:List Part}{gs:List Gap}(h:JobB ps gs)(y:Str)(m:y∈ps.map prow++gs.map fun g=>grow ps g g.ts):y.length<=1000:=by
 rcases mem_append.mp m with m|m
 ·obtain⟨p,mp,rfl⟩:=mem_map.mp m;exact Ou (h.parts p mp)
 ·obtain⟨g,mg,rfl⟩:=mem_map.mp m;obtain⟨b1,b2,l8,ht⟩:=h.gaps g mg;have:=FO h.parts ⟨b1,b2⟩ g.ts ht;omega
theorem KW{ps:List Part}{gs:List Gap}(h:JobB ps gs)(q:R (.d (.str (text ps gs))) []):xL [.d (.tuple [aL ps,dZ gs])] [] R:=by
 have aa:=h.l8;have ac:=h.l6;unfold xL aL dZ;walk_at "d"
 walk_at "n"
 walk_at "n"
 refine cmp3 (S0:=[]) (fun p:Part=>.str (prow p)) rfl ps yw ?_ ?_
 ·intro p mp u v w acc R' hk;obtain⟨h1,h2,h3⟩:=h.parts p mp;rw[iA];walk_at "d";have e0:Str.empty++("part ":Str)=("part":Str)++(" ":Str):=by decide +kernel
  rw[e0];have e1:("part":Str).length=4:=rfl;have e2:(" ":Str).length=1:=rfl;have l2:(dw (qh p.2.1)).length<=65:=h2.len;have l3:(dw (qh p.2.2)).length<=65:=h3.len;simp only[iS,e1,e2,ig];exact⟨yw,yw,yw,yw,h2.log,yw,yw,h3.log,yw,yw,hk _ _ _⟩
 ·walk_at "d";refine cmp1 (S0:=[_]) (fun g:Gap=>.str (grow ps g g.ts)) rfl gs yw ?_ ?_
  ·intro g mg u acc R' hk;walk_at "d";refine KU h mg ?_;walk_at "d";exact hk _
  ·walk_at "d";refine⟨yw,ps.map prow++gs.map fun g=>grow ps g g.ts,by simp[Function.comp_def],by decide,by simp;omega,Af h,q⟩
theorem Ie{ps:List Part}{gs:List Gap}(h:JobB ps gs)(q:R (.d (.str (text ps gs))) []):EU [.d (aL ps),.d (dZ gs)] [] R:=by
 have ac:=h.l8;have ae:=h.l6;unfold EU aL dZ;walk_at "d"
 walk_at "n"
 walk_at "n"
 walk_at "n"
 refine eU (fun i δ S=>∃(u1 u2 u3:Option XV),S=[((ps.take i).map prow).map be]/\δ=[some (.d (.tuple (ps.map cG))),some (.d (.tuple (gs.map cO))),some (.l 0),u1,u2,u3,none,none,none,none]) ⟨_,_,_,rfl,rfl⟩ ?_ ?_
 ·rintro i d _ _ N hi ⟨u1,u2,u3,rfl,rfl⟩ hN;obtain⟨p,e,rfl⟩:=iM hi;obtain⟨h1,h2,h3⟩:=h.parts p (dh e);rw[iA];walk_at "d";refine⟨h2.log,h3.log,[("part":Str),p.1,nS p.2.1,nS p.2.2],rfl,by decide,(by show 4<=1000;decide),fun y m=>?_,by rw[gc];omega,hN _ _ ⟨_,_,_,?_,rfl⟩⟩
  ·have e1:("part":Str).length=4:=rfl;have:=h2.len;have:=h3.len;simp only[jt,ia,or_false]at m;rcases m with rfl|rfl|rfl|rfl<;>omega
  ·rw[oR,mf,e,toList_some,gu,gu];rfl
 ·rintro _ _ ⟨u1,u2,u3,rfl,rfl⟩;rw[cg,qa];walk_at "d";have e1:("gap":Str).length=3:=rfl;have e2:(" ":Str).length=1:=rfl;have e0:("gap ":Str)=("gap":Str)++(" ":Str):=by decide +kernel
  refine eU (fun i δ S=>∃(u1 u2 u3 u4 u5 u6 u7:Option XV),S=[(ps.map prow++(gs.take i).map fun g=>grow ps g g.ts).map be]/\δ=[some (.d (.tuple (ps.map cG))),some (.d (.tuple (gs.map cO))),some (.l 0),u1,u2,u3,u4,u5,u6,u7]) ⟨_,_,_,_,_,_,_,yv,rfl⟩ ?_ ?_
  ·rintro i d _ _ N hi ⟨u1,u2,u3,u4,u5,u6,u7,rfl,rfl⟩ hN;obtain⟨g,e,rfl⟩:=iM hi;have mg:=dh e;obtain⟨b1,b2,l8,ht⟩:=h.gaps g mg;have l1:(dw (qh g.lo)).length<=65:=b1.len;have l2:(dw (qh g.hi)).length<=65:=b2.len;rw[sL];walk_at "d"
   walk_at "n"
   rw[e0];simp only[iS,e1,e2,ig];refine⟨b1.log,yw,yw,b2.log,yw,?_⟩;unfold vX
   walk_at "n"
   refine eU (fun j δ S=>∃(u6 u7:Option XV),S=[(ps.map prow++(gs.take i).map fun g=>grow ps g g.ts).map be]/\δ=[some (.d (.tuple (ps.map cG))),some (.d (.tuple (gs.map cO))),some (.l 0),u1,some (.d (.int g.lo)),some (.d (.int g.hi)),some (.d (.tuple (g.ts.map tmD))),some (.d (.str (grow ps g (g.ts.take j)))),u6,u7]) ⟨_,_,rfl,rfl⟩ ?_ ?_
   ·rintro j d _ _ N' hj ⟨u6,u7,rfl,rfl⟩ aa;obtain⟨t,et,rfl⟩:=iM hj;obtain⟨h1,h2⟩:=ht t (dh et);have ep:=sD (f:=cG) (rO h1);have gl:=FO (g:=g) h.parts ⟨b1,b2⟩ (g.ts.take j) fun t m=>ht t (qi m);have tl:(g.ts.take j).length<=8:=by rw[gc];omega
    have n1:=(h.parts _ (kW h1)).1;have n2:(dw (qh t.2)).length<=2:=vN h2;rw[Fj];walk_at "d";simp only[iS,e1,e2,ig];refine⟨yw,(Bv h2).log,yw,yw,_,ep,?_⟩;rw[iA];walk_at "d";simp only[iS,e1,e2,ig];refine⟨yw,aa _ _ ⟨some (.d (.int (t.1:Int))),some (.d (.int t.2)),rfl,?_⟩⟩;rw[mf,et,toList_some,Ib]
   ·rintro _ _ ⟨u6,u7,rfl,rfl⟩;rw[cg,qa];walk_at "d";refine⟨by rw[gc];omega,hN _ _ ⟨_,_,_,_,_,_,_,?_,rfl⟩⟩;rw[mf,e,toList_some];simp only[gu,gk,map_nil,ja]
  ·rintro _ _ ⟨u1,u2,u3,u4,u5,u6,u7,rfl,rfl⟩;rw[cg,qa];walk_at "d";exact⟨ps.map prow++gs.map fun g=>grow ps g g.ts,by simp[Function.comp_def],by decide,by simp;omega,Af h,q⟩
theorem HW{ps:List Part}{gs:List Gap}(hd:Drw ps)(hg:GapsB ps.length gs):JobB ps gs:=by
 refine⟨hd.l8,fun p m=>?_,hg.l6,fun g m=>?_⟩
 ·have h:=hd.all p m;have a:=h.lo;have b:=h.hi;have c:=h.le;rw[p58]at a;rw[p59]at b;exact⟨Jl h.nm,⟨yw,yw⟩,⟨yw,yw⟩⟩
 ·have h:=hg.all g m;have a:=h.lo;have b:=h.hi;have c:=h.ok.le;have l:=h.ok.ts.len;have l8:=hd.l8;exact⟨⟨yw,yw⟩,⟨yw,yw⟩,yw,fun t m=>⟨(h.ok.ts.ok t m).1,(h.ok.ts.ok t m).2.2⟩⟩
end
section
theorem Dz{c:Nat}:∀{A B X Y:List Nat},c∉A->c∉B->A++c::X=B++c::Y->A=B/\X=Y
 | [],[],X,Y,_,_,e=>⟨rfl,by simpa using e⟩
 | [],b::B,X,Y,_,hb,e=>by
  simp only[nil_append,cons_append,sf]at e;exact absurd (by rw[e.1];exact cw) hb
 |a::A,[],X,Y,ha,_,e=>by
  simp only[nil_append,cons_append,sf]at e;exact absurd (by rw[<- e.1];exact cw) ha
 |a::A,b::B,X,Y,ha,hb,e=>by
  simp only[cons_append,sf]at e;obtain⟨e1,e2⟩:=Dz (fun m=>ha (cn _ m)) (fun m=>hb (cn _ m)) e.2;exact⟨by rw[e.1,e1],e2⟩
theorem o8{a b:Str}(h:a.cps.toList=b.cps.toList):a=b:=Str.ext' (Array.toList_inj.mp h)
theorem mO(c:Nat)(a b:Str)(r:List Str):(jm ⟨#[c]⟩ (a::b::r)).cps.toList=a.cps.toList++c::(jm ⟨#[c]⟩ (b::r)).cps.toList:=by
 show (a++⟨#[c]⟩++jm ⟨#[c]⟩ (b::r)).cps.toList=_;simp only[Str.cps_append,Array.toList_append,ja];rfl
theorem Cf(c:Nat):∀{l l':List Str},l≠[]->l'≠[]->(∀p∈l,c∉p.cps.toList)->(∀p∈l',c∉p.cps.toList)->jm ⟨#[c]⟩ l=jm ⟨#[c]⟩ l'->l=l'
 | [],_,h,_,_,_,_=>absurd rfl h
 |_::_,[],_,h,_,_,_=>absurd rfl h
 | [a],[b],_,_,_,_,e=>by rw[show a=b from e]
 | [a],b::b'::r,_,_,ha,_,e=>by
  have e':a.cps.toList=_:=(congrArg (fun z:Str=>z.cps.toList) (show a=jm ⟨#[c]⟩ (b::b'::r)from e)).trans (mO c b b' r);exact absurd (by rw[e'];simp) (ha a cw)
 |a::a'::r,[b],_,_,_,hb,e=>by
  have e':b.cps.toList=_:=(congrArg (fun z:Str=>z.cps.toList) (show b=jm ⟨#[c]⟩ (a::a'::r)from e.symm)).trans (mO c a a' r);exact absurd (by rw[e'];simp) (hb b cw)
 |a::a'::r,b::b'::r',_,_,ha,hb,e=>by
  have e':=congrArg (fun z:Str=>z.cps.toList) e;simp only[mO]at e';obtain⟨e1,e2⟩:=Dz (ha a cw) (hb b cw) e';rw[o8 e1,Cf c (l:=a'::r) (l':=b'::r') yv yv (fun p m=>ha p (cn _ m)) (fun p m=>hb p (cn _ m)) (o8 e2)]
theorem AF(c:Nat){l:List Str}(h:l≠[])(hf:∀p∈l,c∉p.cps.toList):PySem.Txt.split (PySem.Txt.join ⟨#[c]⟩ l) ⟨#[c]⟩=l:=by
 have e:PySem.Txt.join ⟨#[c]⟩ l=jm ⟨#[c]⟩ l:=jb ..;refine Cf c (fun z=>?_) h (StrLaws.split_free _ c) hf ((qf _ _).trans e);have:=PyProof.Rows.split_pos (PySem.Txt.join ⟨#[c]⟩ l) ⟨#[c]⟩;rw[z]at this;simp at this
def digs(m:Nat):List Nat:=(Nat.toDigits 10 m).map Char.toNat
theorem sO(m:Nat):(nS (m:Int)).cps.toList=digs m:=W.KIN.signs_num m
theorem yL(m:Nat):(nS (-((m+1:Nat):Int))).cps.toList=45::digs (m+1):=by
 show (dw (qh (Int.negSucc m))).cps.toList=_;rw[PyProof.Rows.signs_ofString];show ("-" ++ Nat.repr (m+1)).toList.map Char.toNat=_;rw[String.toList_append,gu,Nat.toList_repr];rfl
theorem vA(m:Nat):PySem.NumText.AllDigits (digs m):=fun c hc=>by
 obtain⟨ch,aa,e⟩:=mem_map.mp hc;rw[<- e];exact PyProof.Rows.digit_range (Nat.isDigit_of_mem_toDigits dz dz aa)
theorem F9(m:Nat):digs m≠[]:=fun e=>by
 have h:=toDigits_len_ge 10 m;rw[List.map_eq_nil_iff.mp e]at h;exact absurd h dz
theorem Ck:digs 0=[48]:=rfl
theorem eP(z:Str):z.cps.toList.length=z.length:=pe
theorem Ot{i:Int}(h:i.natAbs<10 ^ 60):PySem.intText? (nS i)=some i:=by
 have hl:(nS i).length<=4300:=ie (tU (k:=60) dz h) dz;rcases Int.lt_or_le i 0 with hi|hi
 ·obtain⟨m,rfl⟩:∃m:Nat,i = -((m+1:Nat):Int):=⟨i.natAbs-1,yw⟩;have e:=PySem.intText_neg (yL m) (vA _) (F9 _) hl;unfold digs at e;rw[W.KIN.val_back]at e;exact e
 ·obtain⟨m,rfl⟩:=gw hi;have e:=PySem.intText_digits (x:=nS (m:Int)) (by rw[sO];exact vA _) (by rw[sO];exact F9 _) hl;rw[sO]at e;unfold digs at e;rw[W.KIN.val_back]at e;exact e
theorem Hu{x:Str}{c d:Nat}{r:List Nat}(e:x.cps.toList=c::r):PySem.Txt.startswith x ⟨#[d]⟩=decide (c=d):=by
 have l:=eP x;rw[e]at l;unfold PySem.Txt.startswith;rw[StrLaws.subAt_eq,e];have e1:(⟨#[d]⟩:Str).length=1:=rfl;rw[e1,<- l];show (decide (0+1<=(c::r).length)&&([c] == [d]))=_;by_cases z:c=d<;>simp[z]
theorem CZ{x:Str}{c:Nat}{r:List Nat}(e:x.cps.toList=c::r):PySem.Txt.slice x (some 1) none=⟨r.toArray⟩:=by
 have l:=eP x;rw[e]at l;simp only[cz]at l;rw[PyProof.Rows.slice_from_eq dz yw rfl,e];congr 2;show (List.drop 1 (c::r)).take _=r;exact List.take_of_length_le (by simp;omega)
theorem gS{z:Str}(h:∀c∈z.cps.toList,c<1114112):fu z=true:=by
 unfold fu;rw[Array.all_eq_true'];exact fun c m=>bx (h c (Array.mem_toList_iff.mpr m))
theorem xA(i:Int):∀c∈(nS i).cps.toList,45<=c/\c<=57:=fun c m=>by
 rcases Int.lt_or_le i 0 with hi|hi
 ·obtain⟨k,rfl⟩:∃m:Nat,i = -((m+1:Nat):Int):=⟨i.natAbs-1,yw⟩;rw[yL]at m;rcases mem_cons.mp m with rfl|m
  ·decide
  ·have:=vA _ c m;omega
 ·obtain⟨k,rfl⟩:=gw hi;rw[sO]at m;have:=vA _ c m;omega
theorem Kd(i:Int):fu (nS i)=true:=gS fun c m=>by have:=xA i c m;omega
theorem cN{n:Nat}{z:Str}(h:fu z=true):Shp n (.str z):=⟨h,qc _⟩
theorem cW(a b:Str):jc (.str a) (.str b)=decide (a=b):=rfl
abbrev FIG:Str:="0123456789"
def inF(c:Nat):Bool:=!(im FIG ⟨#[c]⟩ 0 (FIG).length 1).isEmpty
theorem P1{c:Nat}(h:48<=c/\c<=57):inF c=true:=by
 have:∀c<58,48<=c->inF c=true:=by decide +kernel
 exact this c yw h.1
variable {R:RX}
end
section
variable {R:RX}
def inL(c:Nat):Bool:=!(im ("abcdefghijklmnopqrstuvwxyz":Str) ⟨#[c]⟩ 0 (("abcdefghijklmnopqrstuvwxyz":Str)).length 1).isEmpty
def bK(z:Str):Bool:=decide (1<=z.length/\z.length<=8)&&z.cps.toList.all inL
def GoodN(zs:List Str):Prop:=zs.length=8/\zs.Nodup/\∀z∈zs,jD z=true/\bK z=true
theorem AA{zs:List Str}(h:(decide (zs.length=8)&&decide zs.Nodup&&zs.all fun z=>jD z&&bK z)=true):GoodN zs:=by
 rw[cy,cy]at h;refine⟨kz h.1.1,kz h.1.2,fun z m=>?_⟩;have:=all_eq_true.mp h.2 z m
 rwa [cy]at this
theorem OA(f:Nat)(h:f<26):GoodN ((iq 8).map fun k:Nat=>PySem.Txt.mul (lsgn (((f:Nat)+5*(0+(k:Int))) % 26)) (1+((f:Nat)+3*(0+(k:Int))) % 8)):=by
 have:∀f<26,(fun zs:List Str=>decide (zs.length=8)&&decide zs.Nodup&&zs.all fun z=>jD z&&bK z) ((iq 8).map fun k:Nat=>PySem.Txt.mul (lsgn (((f:Nat)+5*(0+(k:Int))) % 26)) (1+((f:Nat)+3*(0+(k:Int))) % 8))=true:=by decide +kernel
 exact AA (this f h)
theorem Iw(f:Nat)(h:f<26):GoodN ((iq 8).map fun k:Nat=>PySem.Txt.slice (PySem.Txt.join "" ((iq 8).map fun k:Nat=>lsgn (((f:Nat)+7*(0+(k:Int))) % 26))) none (some (0+(k:Int)+1))):=by
 have:∀f<26,(fun zs:List Str=>decide (zs.length=8)&&decide zs.Nodup&&zs.all fun z=>jD z&&bK z) ((iq 8).map fun k:Nat=>PySem.Txt.slice (PySem.Txt.join "" ((iq 8).map fun k:Nat=>lsgn (((f:Nat)+7*(0+(k:Int))) % 26))) none (some (0+(k:Int)+1)))=true:=by decide +kernel
 exact AA (this f h)
theorem Ny:GoodN AY:=AA (by decide +kernel)
theorem GoodN.perm{zs ys:List Str}(h:GoodN zs)(p:ys.Perm zs):GoodN ys:=⟨p.length_eq.trans h.1,p.nodup_iff.mpr h.2.1,fun z m=>h.2.2 z (p.mem_iff.mp m)⟩
theorem GoodN.rev{zs:List Str}(h:GoodN zs):GoodN zs.reverse:=h.perm (List.reverse_perm _)
theorem GoodN.rot{zs:List Str}{a:Nat}(h:GoodN zs)(_:a<=8):GoodN (zs.drop a++zs.take a):=h.perm (List.perm_append_comm.trans (by rw[re]))
theorem Lp{zs:List Str}{k:Nat}(h:k<=zs.length):bI (zs.map be) (some (k:Int)) none++bI (zs.map be) none (some (k:Int))=(zs.drop k++zs.take k).map be:=by
 have e1:HT.sIx (zs.map be).length 0 (some (k:Int))=k:=by rw[HT.sIx_nat,cg];omega
 have e2:HT.sIx (zs.map be).length (zs.map be).length (some (k:Int))=k:=by rw[HT.sIx_nat,cg];omega
 have e3:HT.sIx (zs.map be).length (zs.map be).length none=(zs.map be).length:=rfl;have e4:HT.sIx (zs.map be).length 0 none=0:=rfl;unfold bI;rw[e1,e2,e3,e4,gu,map_drop,map_take,List.drop_zero,Nat.sub_zero];congr 1;exact List.take_of_length_le yv
set_option maxHeartbeats 8000000 in
theorem Oj{p:List bg}(hp:aJ p)(q:∀(ns:List Str) p',GoodN ns->aJ p'->R (.d (.list (ns.map be))) [p']):uL [.l 0] [p] R:=by
 unfold uL;walk_at "dX"
 (refine seq1 ?_;walk_at "dX")
 (refine seq1 ?_;walk_at "dX")
 refine zx hp dz (by decide +kernel) fun ae p1 w0 w1 aj=>?_;walk_at "dX"
 (refine seq1 ?_;walk_at "dX")
 refine zx aj dz (by decide +kernel) fun aa p2 f0 f1 ai=>?_;walk_at "dX";refine cut (fun δ' S'=>∃(zs:List Str),GoodN zs/\S'=[p2,zs.map be]/\δ'=[some (.l 0),some (.d (.str ("abcdefghijklmnopqrstuvwxyz":Str))),some (.d (.int ae)),some (.d (.int aa)),some (.l 1),none,none]) (fun N hN=>?_) ?_
 ·walk_at "dX";refine cmp1 (S0:=[p2]) (fun k:Nat=>.str (PySem.Txt.mul (lsgn ((aa+5*(0+k)) % 26)) (1+(aa+3*(0+k)) % 8))) rfl (iq 8) yv ?_ ?_
  ·intro k mk u acc R' hk;have b1:=oq (aa+5*(0+(k:Int))) (show (26:Int)≠0 by decide);have b2:=om (aa+5*(0+(k:Int))) (show (0:Int)<26 by decide);have b3:=oq (aa+3*(0+(k:Int))) (show (8:Int)≠0 by decide);have b4:=om (aa+3*(0+(k:Int))) (show (0:Int)<8 by decide);walk_at "dX";refine⟨jB dz dz,D7,_,DJ b1 b2,?_⟩;walk_at "dX";refine⟨jB dz dz,?_⟩;walk_at "dX";exact⟨by rw[len1];decide,yw,yw,hk _⟩
  ·obtain⟨f,rfl⟩:=gw f0;refine hN _ _ ⟨_,OA f yw,?_,rfl⟩;rw[map_map];rfl
 rintro _ _ ⟨zs,ac,rfl,rfl⟩;refine cut (fun δ' S'=>∃(zs:List Str) (T:Sto) (k:Nat) (u:Option XV),GoodN zs/\T[k]?=some (zs.map be)/\S'=p2::T/\δ'=[some (.l 0),some (.d (.str ("abcdefghijklmnopqrstuvwxyz":Str))),some (.d (.int ae)),some (.d (.int aa)),some (.l (k+1)),u,none]) (fun N hN=>?_) ?_
 ·walk_at "dX";split
  ·refine seq1 ?_;walk_at "dX";refine cmp1 (S0:=[p2,zs.map be]) (fun k:Nat=>.str (lsgn ((aa+7*(0+k)) % 26))) rfl (iq 8) yv ?_ ?_
   ·intro k mk u acc R' hk;have b1:=oq (aa+7*(0+(k:Int))) (show (26:Int)≠0 by decide);have b2:=om (aa+7*(0+(k:Int))) (show (0:Int)<26 by decide);walk_at "dX";refine⟨jB dz dz,D7,_,DJ b1 b2,?_⟩;exact hk _
   ·walk_at "dX";refine⟨(iq 8).map fun k:Nat=>lsgn ((aa+7*(0+k)) % 26),by rw[map_map];rfl,by decide,yv,fun y m=>?_,?_⟩
    ·obtain⟨k,_,rfl⟩:=mem_map.mp m;show 1<=1000;decide
    ·have wl:(PySem.Txt.join "" ((iq 8).map fun k:Nat=>lsgn ((aa+7*(0+k)) % 26))).length<=8*1016:=by
      have:=FZ (y:=("":Str)) (zs:=(iq 8).map fun k:Nat=>lsgn ((aa+7*(0+k)) % 26)) dz (fun y m=>by
       obtain⟨k,_,rfl⟩:=mem_map.mp m;show 1<=1000;decide)
      simpa using this
     have ak:(PySem.Txt.join "" ((iq 8).map fun k:Nat=>lsgn ((aa+7*(0+k)) % 26))).length<=8:=by
      show (Builtin.Str.glued _ _).length<=_;rw[jb];have:=GN ((iq 8).map fun k:Nat=>lsgn ((aa+7*(0+k)) % 26)) (fun y m=>by
       obtain⟨k,_,rfl⟩:=mem_map.mp m;exact fe 1)
      simpa using this
     walk_at "dX";refine cmp1 (S0:=[p2,zs.map be]) (fun k:Nat=>.str (PySem.Txt.slice (PySem.Txt.join "" ((iq 8).map fun k:Nat=>lsgn ((aa+7*(0+k)) % 26))) none (some (0+k+1)))) rfl (iq 8) yv ?_ ?_
     ·intro k mk u acc R' hk;walk_at "dX";exact⟨ie wl (by rw[ig];decide),hk _⟩
     ·obtain⟨f,rfl⟩:=gw f0;refine hN _ _ ⟨_,[zs.map be,_],1,_,Iw f yw,rfl,?_,rfl⟩;rw[map_map];rfl
  ·exact hN _ _ ⟨zs,[zs.map be],0,none,ac,rfl,rfl,rfl⟩
 rintro _ _ ⟨zs,T,k,u,ac,hk,rfl,rfl⟩;refine cut (fun δ' S'=>∃(zs:List Str) (T:Sto) (k:Nat),GoodN zs/\T[k]?=some (zs.map be)/\S'=p2::T/\δ'=[some (.l 0),some (.d (.str ("abcdefghijklmnopqrstuvwxyz":Str))),some (.d (.int ae)),some (.d (.int aa)),some (.l (k+1)),u,none]) (fun N hN=>?_) ?_
 ·walk_at "dX";split
  ·exact hN _ _ ⟨AY,T++[AY.map be],T.length,Ny,by rw[ck],rfl,rfl⟩
  ·exact hN _ _ ⟨zs,T,k,ac,hk,rfl,rfl⟩
 rintro _ _ ⟨zs,T,k,ac,hk,rfl,rfl⟩
 (refine seq1 ?_;walk_at "dX")
 refine zx ai dz (by decide +kernel) fun al p3 a0 a1 ah=>?_;walk_at "dX"
 (refine seq1 ?_;walk_at "dX")
 refine⟨_,hk,_,hk,?_⟩;obtain⟨a',rfl⟩:=gw a0;have hr:=ac.rot (a:=a') yw;have er:bI (zs.map be) (some (a':Int)) none++bI (zs.map be) none (some (a':Int))=(zs.drop a'++zs.take a').map be:=Lp (by rw[ac.1];omega);have hc:=congrArg sr er;rw[cq,cg,hr.1]at hc;refine⟨yw,?_⟩;rw[er];have af:(T++[(zs.drop a'++zs.take a').map be])[T.length]?=some ((zs.drop a'++zs.take a').map be):=by rw[ck]
 generalize zs.drop a'++zs.take a'=es at af hr ⊢;have am:(es.map be).length=8:=by rw[cg];exact hr.1
 refine seq1 ?_;walk_at "dX";refine zx ah dz (by decide +kernel) fun r p4 r0 r1 ag=>?_;walk_at "dX";split
 ·refine⟨yv,_,af,?_⟩;walk_at "dX";rw[cb yw];exact⟨(es.map be).reverse,by simp[w8],.inl (by rw[<- List.map_reverse];exact q _ p4 hr.rev ag)⟩
 ·rw[cb yw];exact⟨_,af,.inl (q _ p4 hr ag)⟩
structure TightS(a b:Int):Prop where
 le:a<=b
 lo:-10000000000000000000000000000000000000000000000000000000000<=a
 hi:a<=10000000000000000000000000000000000000000000000000000000000
 wd:b<=a+10000000000000000000000000000000000000000
theorem Md{p:List bg}(hp:aJ p)(q:∀lo hi p',TightS lo hi->aJ p'->R (.d (spD lo hi)) [p']):Ds [.l 0] [p] R:=by
 unfold Ds;walk_at "e";refine Ni hp fun lo p1 l0 l1 ac=>?_;rw[p58]at l0 l1;walk_at "e";refine zx ac dz (by decide +kernel) fun wd p2 w0 w1 ae=>?_;walk_at "e";refine zx ae dz (by decide +kernel) fun t p3 t0 t1 aa=>?_;walk_at "e";split
 ·refine⟨⟨by decide,by decide,by decide⟩,?_⟩;refine zx aa (by decide +kernel) (by decide +kernel) fun wd p4 w0 w1 af=>?_;walk_at "e";have k1:(10:Int) ^ 40=10000000000000000000000000000000000000000:=by decide +kernel
  try rw[k1]at w1
  exact q lo (lo+wd) _ ⟨yw,l0,l1,yw⟩ af
 ·exact q lo (lo+wd) _ ⟨yw,l0,l1,yw⟩ aa
structure DrwT(ps:List Part):Prop where
 drw:Drw ps
 nd:(ps.map (·.1)).Nodup
 nm:∀p∈ps,bK p.1=true
 sp:∀p∈ps,TightS p.2.1 p.2.2
theorem DrwT.of{ps:List Part}{ns:List Str}{k:Nat}(l1:1<=ps.length)(l8:ps.length<=8)(hn:GoodN ns)(e:ps.map (·.1)=ns.take k)(hs:∀p∈ps,TightS p.2.1 p.2.2):DrwT ps:=by
 have hm:∀p∈ps,jD p.1=true/\bK p.1=true:=fun p m=>hn.2.2 _ (qi (by rw[<- e];exact mem_map_of_mem m));refine⟨⟨l1,l8,fun p m=>?_⟩,by rw[e];exact hn.2.1.sublist (List.take_sublist _ _),fun p m=>(hm p m).2,hs⟩;have h:=hs p m;have a:=h.lo;have b:=h.hi;have c:=h.wd;exact⟨(hm p m).1,h.le,by rw[p58];omega,by rw[p59];omega⟩
theorem Kw{Q:PN}{p:List bg}{m:Int}{span:PN}{names:PN}(hQ:Q=fun xs S R=>(zR (aA (zS 0 1 names (zc (zh 0) zp)) (zk 2)) (zR (aA (dR zp) (zk 3)) (zR (bW (eO (zc (dOp aB (dC (.int 1)) (zS 0 2 zt (zc (zh 0) (zc (zh 1) zp)))) zp)) (zk 4) (dH (dBM fB (zh 3) (zc (dOp aB (bJ (zc (dOp dIx (zh 2) (zh 4)) zp)) (zS 0 1 span (zc (zh 0) zp))) zp)))) (aC (dCB gE (zc (zh 3) zp)))))) (aG S.length R) (xs.map some++bo 3 none) S)
  (hnames:∀{p:List bg}{R:RX},aJ p->(∀(ns:List Str) p',GoodN ns->aJ p'->R (.d (.list (ns.map be))) [p'])->names [.l 0] [p] R)
  (hspan:∀{p:List bg}{R:RX},aJ p->(∀lo hi p',TightS lo hi->aJ p'->R (.d (spD lo hi)) [p'])->span [.l 0] [p] R)
  (hp:aJ p) (m1:0<m) (m8:m<=8) (q:∀(ps:List Part) p',DrwT ps->aJ p'->R (.d (aL ps)) [p']):Q [.l 0,.d (.int m)] [p] R:=by
 subst hQ;walk_at "d"
 walk_at "n"
 refine hnames hp fun ns p1 aa af=>?_;have hn:=aa.1;walk_at "d"
 walk_at "n"
 walk_at "n";refine zx af m1 (BB m1 yw) fun r p2 r0 r1 ae=>?_;walk_at "d";refine eU (fun i δ S=>∃(p:List bg) (ps:List Part) (u:Option XV),aJ p/\ps.length=i/\ps.map (·.1)=ns.take i/\(∀p∈ps,TightS p.2.1 p.2.2)/\S=[p,ps.map cG]/\δ=[some (.l 0),some (.d (.int m)),some (.d (.list (ns.map be))),some (.l 1),u]) ⟨p2,[],_,ae,rfl,yv,yv,rfl,rfl⟩ ?_ ?_
 ·rintro i d _ _ N hi ⟨p,ps,u,hp,hl,hm,ha,rfl,rfl⟩ hN;obtain⟨ag,rfl⟩:=oC hi;have i8:i<ns.length:=yw
  have e:=sD (f:=be) (dn i8);walk_at "d";simp only[Int.zero_add];refine⟨_,e,?_⟩;walk_at "d";refine hspan hp fun lo hi p3 h1 ac=>?_;simp only[spD];walk_at "d";refine⟨yw,hN _ _ ⟨p3,ps++[(ns[i],lo,hi)],_,ac,by simp[hl],by rw[gu,hm,mf,dn i8];rfl,fun x hx=>?_,by simp[cG],rfl⟩⟩;rcases mem_append.mp hx with hx|hx
  ·exact ha x hx
  ·rw[mem_singleton.mp hx];exact h1
 ·rintro _ _ ⟨p,ps,u,hp,hl,hm,ha,rfl,rfl⟩;rw[nA]at hl;walk_at "d";exact q ps p (DrwT.of yw yw aa hm ha) hp
theorem tw_bd{ps:List Part}{t:Term}(hd:DrwT ps)(h:t.1<ps.length/\-3<=t.2/\t.2<=3):-30000000000000000000000000000000000000000000000000000000000-30000000000000000000000000000000000000000<=tLo ps t/\tHi ps t<=30000000000000000000000000000000000000000000000000000000000+30000000000000000000000000000000000000000/\tHi ps t-tLo ps t<=30000000000000000000000000000000000000000:=by
 obtain⟨h1,h2,h3⟩:=h;have hp:=hd.sp _ (kW h1);have a:=hp.lo;have b:=hp.hi;have c:=hp.le;have d:=hp.wd;unfold tLo tHi plo phi;have:t.2 = -3\/t.2 = -2\/t.2 = -1\/t.2=0\/t.2=1\/t.2=2\/t.2=3:=yw
 rcases this with e|e|e|e|e|e|e<;>rw[e]<;>refine⟨?_,?_,?_⟩<;>omega
theorem tws_bd{ps:List Part}(hd:DrwT ps):∀ts:List Term,(∀t∈ts,t.1<ps.length/\-3<=t.2/\t.2<=3)->-(30000000000000000000000000000000000000000000000000000000000+30000000000000000000000000000000000000000)*(ts.length:Int)<=cD ps ts/\b9 ps ts<=(30000000000000000000000000000000000000000000000000000000000+30000000000000000000000000000000000000000)*(ts.length:Int)/\b9 ps ts-cD ps ts<=30000000000000000000000000000000000000000*(ts.length:Int)
 | [],_=>by simp[cD,b9]
 |t::ts,h=>by
  have h1:=tw_bd hd (h t cw);have h2:=tws_bd hd ts fun u m=>h u (cn _ m);rw[BR,CO,cz];omega
structure GapT(n:Nat)(g:Gap):Prop where
 ok:GapOk n g
 lo:-250000000000000000000000000000000000000000000000000000000000<=g.lo
 hi:g.hi<=250000000000000000000000000000000000000000000000000000000000
structure GapU(n:Nat)(g:Gap):Prop where
 ok:GapOk n g
 lo:-300000000000000000000000000000000000000000000000000000000000<=g.lo
 hi:g.hi<=300000000000000000000000000000000000000000000000000000000000
theorem MM{p:List bg}{ps:List Part}{m:Int}(hp:aJ p)(hd:DrwT ps)(m1:0<m)(m6:m<=6)(q:∀gs p',1<=gs.length->(gs.length:Int)<=m->(∀g∈gs,GapU ps.length g)->aJ p'->R (.d (dZ gs)) [p']):pI [.l 0,.d (aL ps),.d (.int m)] [p] R:=by
 have h8:=hd.drw.l8;refine MR (P:=GapT ps.length) (W:=GapU ps.length) (fun hp q=>IJ hp hd.drw fun g p' h aa=>q g p' ?_ aa) (fun g h=>⟨h.ok,by have:=h.lo;omega,by have:=h.hi;omega⟩) (fun g r h r0 r1=>⟨⟨h.ok.ts,by simp only;omega⟩,by have:=h.lo;have:=h.ok.le;simp only;omega,by have:=h.hi;simp only;omega⟩) hp m1 m6 fun gs p' h1 hw hm aa=>q gs p' h1 hm hw aa;have b:=tws_bd hd g.ts (h.ok.ts.tm3 h8).ok;have l:=h.ok.ts.len;have x:=h.lo;have y:=h.hi;exact⟨h.ok,yw,yw⟩
end
section
variable {R:RX}{S:Sto}
def iO:bg->Bool
 | .int _=>true
 |_=>false
theorem C4{d:bg}(q:R (.d (.bool (iO d))) []):xC [.d d] [] R:=by
 unfold xC;cases d<;>(walk_at "e";exact q)
end
section
variable {R:RX}{S:Sto}
def rng(lo:Int)(n:Nat):List Int:=(iq n).map fun k:Nat=>lo+k
def MD(p:Part):List Int:=rng p.2.1 (p.2.2-p.2.1+1).toNat
def ext(aa:List (List Int))(p:Part):List (List Int):=aa.flatMap fun a=>(MD p).map fun x=>a++[x]
end
section
variable {R:RX}{S:Sto}
abbrev Off:=Int×Int×Int
def offer(os:List (List Off))(ks:List Nat)(i:Nat):Off:=(os.getD i []).getD (ks.getD i 0) (0,0,0)
end
section
variable {R:RX}{S:Sto}
def few0(s1 s2 r:Int):Int:=if (r-(s1+2*s2)+2)/3>0 then (r-(s1+2*s2)+2)/3 else 0
def few(s1 s2 r:Int):Int:=if s1=0/\(r-few0 s1 s2 r) % 2=1 then few0 s1 s2 r+1 else few0 s1 s2 r
end
section
variable {R:RX}
theorem iQ{d:bg}(q:R (.d (.bool (iO d))) []):nO [.d d] [] R:=by
 unfold nO;cases d<;>(walk_at "e";exact q)
def dX(n:Nat):bg->Bool
 | .tuple [.int a,.int b]=>decide (0<=a/\a<n)&&decide (b = -3\/b = -2\/b = -1\/b=1\/b=2\/b=3)
 |_=>false
def gK:bg->Int
 | .tuple (.int a::_)=>a
 |_=>0
theorem PM{n:Nat}{d:bg}(h:dX n d=true):∃a b:Int,d=.tuple [.int a,.int b]/\0<=a/\a<n:=by
 unfold dX at h;split at h
 ·rename_i a b;rw[cy]at h;have:=kz h.1;exact⟨a,b,rfl,this.1,this.2⟩
 ·cases h
theorem Cq{d:bg}:iO d=true↔∃a:Int,d=.int a:=by
 cases d<;>simp[iO]
theorem Hv{n:Nat}{ds:List bg}(h:ds.length≠2):dX n (.tuple ds)=false:=by
 unfold dX;split
 ·rename_i e;cases e;simp at h
 ·rfl
theorem IZ{n:Nat}{x y:bg}(h:iO x=false):dX n (.tuple [x,y])=false:=by
 unfold dX;split
 ·rename_i e;cases e;cases h
 ·rfl
theorem M8{n:Nat}{x y:bg}(h:iO y=false):dX n (.tuple [x,y])=false:=by
 unfold dX;split
 ·rename_i e;cases e;cases h
 ·rfl
theorem len2{ds:List bg}(h:ds.length=2):∃x y,ds=[x,y]:=by
 match ds,h with
 | [x,y],_=>exact⟨x,y,rfl⟩
theorem len3{ds:List bg}(h:ds.length=3):∃x y z,ds=[x,y,z]:=by
 match ds,h with
 | [x,y,z],_=>exact⟨x,y,z,rfl⟩
theorem He(ps:List Part):fW ([]:Sto) (.d (aL ps))=some ps.length:=by unfold aL;walk_at "d"
theorem Rb{x y:Bool}{S:Sto}(q:R (.d (.bool y)) S)(e:x=y):R (.d (.bool x)) S:=by rw[e];exact q
theorem KM{ps:List Part}{d:bg}(q:R (.d (.bool (dX ps.length d))) []):wJ [.d (aL ps),.d d] [] R:=by
 unfold wJ;cases d with
 |tuple ds=>
  walk_at "d"
  walk_at "n"
  by_cases h:ds.length=2
  ·rw[cb yw];obtain⟨x,y,rfl⟩:=len2 h
   walk_at "n"
   refine iQ ?_;cases wx:iO x with
   |false=>
    walk_at "d";rw[IZ wx]at q;exact q
   |true=>
    walk_at "d";refine iQ ?_;cases wy:iO y with
    |false=>
     walk_at "d";rw[M8 wy]at q;exact q
    |true=>
     obtain⟨a,rfl⟩:=Cq.mp wx;obtain⟨b,rfl⟩:=Cq.mp wy;walk_at "d";have e0:dX ps.length (.tuple [.int a,.int b])=(decide (0<=a/\a<ps.length)&&decide (b = -3\/b = -2\/b = -1\/b=1\/b=2\/b=3)):=rfl;rw[e0]at q;split
     ·refine⟨_,He ps,?_⟩;split
      ·by_cases h3:1<=if b<0 then -b else b
       ·rw[cm h3];refine Rb q ?_;rw[nj];simp only[cy,decide_eq_true_eq];split at h3<;>rename_i h4<;>simp only[h4,if_true,if_false]<;>omega
       ·rw[cb h3];refine Rb q ?_;rw[nj];simp only[cy,decide_eq_true_eq,kr,false_iff];split at h3<;>omega
      ·refine Rb q ?_;rw[nj];simp only[cy,decide_eq_true_eq,kr,false_iff];omega
     ·refine Rb q ?_;rw[nj];simp only[cy,decide_eq_true_eq,kr,false_iff];omega
  ·rw[cm yw];rw[Hv h]at q;exact q
 |none=>(walk_at "d";walk_at "n";exact q)
 |bool b=>(walk_at "d";walk_at "n";exact q)
 |int b=>(walk_at "d";walk_at "n";exact q)
 |str b=>(walk_at "d";walk_at "n";exact q)
 |list b=>(walk_at "d";walk_at "n";exact q)
 |dict b=>(walk_at "d";walk_at "n";exact q)
def upB(n:Nat):Int->List bg->Bool
 |_,[]=>true
 |a,d::r=>dX n d&&decide (a<gK d)&&upB n (gK d) r
def sZ(n:Nat):bg->Bool
 | .tuple ds=>decide (1<=ds.length/\ds.length<=8)&&upB n (-1) ds
 |_=>false
theorem IT{ps:List Part}{d:bg}(q:R (.d (.bool (sZ ps.length d))) []):wP [.d (aL ps),.d d] [] R:=by
 unfold wP;cases d with
 |tuple ds=>
  have e0:sZ ps.length (.tuple ds)=(decide (1<=ds.length/\ds.length<=8)&&upB ps.length (-1) ds):=rfl;rw[e0]at q;walk_at "d"
  walk_at "n"
  by_cases h1:1<=ds.length/\ds.length<=8
  ·rw[cm yw,cb yw];rw[bx h1,jg]at q
   walk_at "n"
   walk_at "n";refine eU (fun i δ S=>∃(aa:Int) (u:Option XV),S=[]/\upB ps.length (-1) ds=upB ps.length aa (ds.drop i)/\δ=[some (.d (aL ps)),some (.d (.tuple ds)),some (.d (.int aa)),u]) ⟨_,_,rfl,rfl,rfl⟩ ?_ ?_
   ·rintro i d _ _ N hi ⟨aa,u,rfl,eu,rfl⟩ hN;have ed:ds.drop i=d::ds.drop (i+1):=by
     obtain⟨hl,rfl⟩:=List.getElem?_eq_some_iff.mp hi;exact jk hl
    rw[ed]at eu;have ue:upB ps.length aa (d::ds.drop (i+1))=(dX ps.length d&&decide (aa<gK d)&&upB ps.length (gK d) (ds.drop (i+1))):=rfl;rw[ue]at eu;walk_at "d"
    walk_at "n"
    refine KM ?_;cases ht:dX ps.length d with
    |false=>
     walk_at "d";rw[eu,ht]at q;exact q
    |true=>
     obtain⟨a,b,rfl,a0,a1⟩:=PM ht;rw[ht,jg]at eu;have ef:gK (.tuple [.int a,.int b])=a:=rfl;rw[ef]at eu;walk_at "d";by_cases h2:a<=aa
     ·rw[cm h2];rw[eu,bu yw]at q;exact q
     ·rw[cb h2];walk_at "d";rw[bx yw,jg]at eu;exact hN _ _ ⟨a,_,rfl,eu,rfl⟩
   ·rintro _ _ ⟨aa,u,rfl,eu,rfl⟩;rw[qy]at eu;rw[eu]at q;walk_at "d";exact q
  ·have ef:(decide (1<=ds.length/\ds.length<=8)&&upB ps.length (-1) ds)=false:=by rw[bu h1];rfl
   rw[ef]at q;by_cases h2:1<=(ds.length:Int)
   ·rw[cm h2,cm yw];exact q
   ·rw[cb h2];exact q
 |none=>(walk_at "d";walk_at "n";exact q)
 |bool b=>(walk_at "d";walk_at "n";exact q)
 |int b=>(walk_at "d";walk_at "n";exact q)
 |str b=>(walk_at "d";walk_at "n";exact q)
 |list b=>(walk_at "d";walk_at "n";exact q)
 |dict b=>(walk_at "d";walk_at "n";exact q)
def gQ:bg->Bool
 | .int a=>decide (-10 ^ 60<a/\a<10 ^ 60)
 |_=>false
def fM(lo hi:bg):Bool:=gQ lo&&gQ hi&&match lo,hi with | .int a,.int b=>decide (a<=b)|_,_=>false
theorem Ft{d:bg}(q:R (.d (.bool (gQ d))) []):sR [.d d] [] R:=by
 unfold sR;cases d with
 |int a=>
  walk_at "e";refine iQ ?_;walk_at "e";have k:(10:Int) ^ 60=1000000000000000000000000000000000000000000000000000000000000:=by decide +kernel
  have e0:gQ (.int a)=decide (-10 ^ 60<a/\a<10 ^ 60):=rfl;rw[e0,k]at q;rw[cm (show iO (.int a)=true from rfl)];refine⟨⟨by decide,by decide,by decide⟩,Rb q ?_⟩;rw[nj];simp only[decide_eq_true_eq];by_cases h:a<0
  ·rw[cm h];omega
  ·rw[cb h];omega
 |none=>(walk_at "e";refine iQ ?_;walk_at "e";exact q)
 |bool b=>(walk_at "e";refine iQ ?_;walk_at "e";exact q)
 |tuple b=>(walk_at "e";refine iQ ?_;walk_at "e";exact q)
 |str b=>(walk_at "e";refine iQ ?_;walk_at "e";exact q)
 |list b=>(walk_at "e";refine iQ ?_;walk_at "e";exact q)
 |dict b=>(walk_at "e";refine iQ ?_;walk_at "e";exact q)
theorem Gw(a b:Int):fM (.int a) (.int b)=(gQ (.int a)&&gQ (.int b)&&decide (a<=b)):=rfl
theorem Ea{d:bg}(h:gQ d=true):∃a,d=.int a:=by
 cases d<;>simp[gQ]at h ⊢
theorem Aj{x y:bg}(q:R (.d (.bool (fM x y))) []):sT [.d x,.d y] [] R:=by
 unfold sT;walk_at "e";refine Ft ?_;cases hx:gQ x with
 |false=>
  walk_at "e";have:fM x y=false:=by unfold fM;rw[hx];rfl
  rw[this]at q;exact q
 |true=>
  walk_at "e";refine Ft ?_;cases hy:gQ y with
  |false=>
   walk_at "e";have:fM x y=false:=by unfold fM;rw[hx,hy];rfl
   rw[this]at q;exact q
  |true=>
   obtain⟨a,rfl⟩:=Ea hx;obtain⟨b,rfl⟩:=Ea hy;walk_at "e";rw[Gw,hx,hy]at q;exact q
def uF(n:Nat):bg->Bool
 | .tuple [t,lo,hi]=>sZ n t&&fM lo hi
 |_=>false
theorem LP{n:Nat}{ds:List bg}(h:ds.length≠3):uF n (.tuple ds)=false:=by
 unfold uF;split
 ·rename_i e;cases e;simp at h
 ·rfl
theorem NB{ps:List Part}{d:bg}(q:R (.d (.bool (uF ps.length d))) []):vT [.d (aL ps),.d d] [] R:=by
 unfold vT;cases d with
 |tuple ds=>
  walk_at "d"
  walk_at "n"
  by_cases h:ds.length=3
  ·rw[cb yw];obtain⟨t,lo,hi,rfl⟩:=len3 h;have e0:uF ps.length (.tuple [t,lo,hi])=(sZ ps.length t&&fM lo hi):=rfl;rw[e0]at q;walk_at "d";refine IT ?_;cases h1:sZ ps.length t with
   |false=>
    walk_at "d";rw[h1]at q;exact q
   |true=>
    walk_at "d";rw[h1,jg]at q;refine Aj ?_;walk_at "d";exact q
  ·rw[cm yw];rw[LP h]at q;exact q
 |none=>(walk_at "d";walk_at "n";exact q)
 |bool b=>(walk_at "d";walk_at "n";exact q)
 |int b=>(walk_at "d";walk_at "n";exact q)
 |str b=>(walk_at "d";walk_at "n";exact q)
 |list b=>(walk_at "d";walk_at "n";exact q)
 |dict b=>(walk_at "d";walk_at "n";exact q)
theorem cmp1d{n:Nat}{S0:Sto}{g:DG}{te:DE}{fin:Sto->Prop}{caps:XE}(f:bg->bg)(hn:S0.length=n)(l:List bg){u:Option XV}(hl:l.length<=1000)
  (el:∀x∈l,∀(u:Option XV) acc (R:XE->RX),(∀u',R (u'::caps) (.d (f x)) (S0++[acc]))->g (.d x) (u::caps) (S0++[acc]) fun τ1 S1=>te τ1 S1 (R τ1)) (hf:fin (S0++[l.map f])):bC n g aI te fin l (u::caps) (S0++[[]]):=by
 have:=cmp1 (h:=fun d:bg=>d) (g:=g) (te:=te) (fin:=fin) (caps:=caps) (u:=u) f hn l hl el hf
 rwa [List.map_id']at this
theorem JZ{n:Nat}{z:Str}(h:fu z=true):Shp n (.str z):=⟨h,qc _⟩
theorem Ma{ps:List Part}(h:∀p∈ps,fu p.1=true):dy (.list (ps.map fun p:Part=>be p.1))=true:=(m5 (n:=0) (nB fun p m=>JZ (h p m))).ok
theorem Mv{α:Type}{l:List α}(h:0<l.length):∃d,atI l (-1)=some d:=by
 obtain⟨v,hv⟩:∃v,l.getLast?=some v:=by
  cases l with
  |nil=>cases h
  |cons a l=>exact⟨_,List.getLast?_eq_some_getLast yv⟩
 obtain⟨r,rfl⟩:=List.getLast?_eq_some_iff.mp hv;exact⟨v,HF r v⟩
end
section
variable {R:RX}
theorem Fk{g:DG}{b:DSm}{E:DEndsM}:∀{ds:List bg}{δ:XE}{S:Sto}{M:DM} (I:Nat->XE->Sto->DM->Prop),I 0 δ S M ->
  (∀i d δ S M (N:XE->Sto->DM->Prop),ds[i]?=some d->I i δ S M->(∀ δ' S' M',I (i+1) δ' S' M'->N δ' S' M')->g (.d d) δ S fun δ1 S1=>b { nx:=N,ct:=N,bk:=E.nx,rt:=E.rt } δ1 S1 M) ->
  (∀ δ S M,I ds.length δ S M->E.nx δ S M)->jH g b ds E δ S M
 | [],δ,S,M,I,h0,_,fin=>fin δ S M h0
 |d::ds,δ,S,M,I,h0,step,fin=>by
  show g (.d d) δ S fun δ1 S1=>b _ δ1 S1 M;refine step 0 d δ S M _ rfl h0 fun δ' S' M' h1=>?_;exact Fk (ds:=ds) (fun i=>I (i+1)) h1 (fun i e δ S M N hi=>step (i+1) e δ S M N (by simpa using hi)) fin
theorem tT{z:Str}(h:bK z=true):1<=z.length/\z.length<=8:=by
 unfold bK at h;rw[cy]at h;exact kz h.1
theorem Dw{z:Str}(h:bK z=true)(q:R (.d (.bool true)) []):m4 [.d (.str z)] [] R:=by
 have h1:=tT h;have hz:z.length<=bw:=ie h1.2 (by rw[ig];decide);have h2:z.cps.toList.all inL=true:=by
  unfold bK at h;rw[cy]at h;exact h.2
 unfold m4;walk_at "d";walk_at "n";refine⟨z.length,by simp[fW,hz],?_⟩;rw[cm yw,cb yw];unfold iD;refine cmp1 (S0:=[]) (h:=fun c:Nat=>be ⟨#[c]⟩) (fun c:Nat=>.bool (inL c)) rfl z.cps.toList (by rw[eP];omega) ?_ ?_
 ·intro c mc u acc R' hk;walk_at "d";exact hk _
 ·walk_at "d";exact⟨z.cps.toList.map inL,by rw[map_map];rfl,by rw[all_map];show R (.d (.bool (z.cps.toList.all inL))) [];rw[h2];exact q⟩
def N60(i:Int):Prop:=i.natAbs<10 ^ 60
theorem Fm{a b:Int}(h1:N60 a)(h2:N60 b)(h:a<=b):fM (.int a) (.int b)=true:=by
 unfold N60 at h1 h2;unfold fM gQ;have aa:(10:Int) ^ 60=((10 ^ 60:Nat):Int):=by decide +kernel
 simp only[cy,decide_eq_true_eq];rw[aa];omega
structure PrtT(p:Part):Prop where
 nm:bK p.1=true
 ok:fu p.1=true
 lo:N60 p.2.1
 hi:N60 p.2.2
 le:p.2.1<=p.2.2
theorem Jx{p:Part}(h:PrtT p)(q:R (.d (.bool true)) []):nR [.d (cG p)] [] R:=by
 unfold nR;rw[iA];walk_at "d";walk_at "n";refine Dw h.nm ?_;walk_at "d";refine Aj ?_;rw[Fm h.lo h.hi h.le];walk_at "d";exact q
def nmM(ns:List Str):List (Key×bg):=ns.map fun z=>(pf z,.bool true)
theorem BK{ns:List Str}{z:Str}:(lkA (nmM ns) (pf z)).isSome=decide (z∈ns):=by
 unfold lkA nmM;induction ns with
 |nil=>rfl
 |cons y r ih=>
  rw[gk,find?_cons];by_cases e:y=z
  ·subst e;simp
  ·have:(decide ((pf y:Key)=pf z))=false:=by simp[e]
   simp only[this];rw[ih];simp[gj e]
theorem HD{ns:List Str}{z:Str}(h:z∉ns):ptA (nmM ns) (pf z) (.bool true)=nmM (ns++[z]):=by
 unfold ptA nmM;rw[cb ?_]
 ·simp
 ·simp only[List.any_map,List.any_eq_true,Function.comp,decide_eq_true_eq];rintro⟨y,m,e⟩;cases e;exact h m
theorem Ii{l:List Str}{i:Nat}{x:Str}(nd:l.Nodup)(e:l[i]?=some x):x∉l.take i:=fun m=>by
 have h:l.take (i+1)=l.take i++[x]:=by rw[mf,e];rfl
 have n2:(l.take (i+1)).Nodup:=nd.sublist (List.take_sublist _ _);rw[h,nodup_append]at n2;exact n2.2.2 x m x yv rfl
end
section
variable {R:RX}
structure PsT(ps:List Part):Prop where
 l8:ps.length<=8
 all:∀p∈ps,PrtT p
 nd:(ps.map (·.1)).Nodup
theorem Ct{α β:Type}(f g:α->β):∀l:List α,evens (l.flatMap fun t=>[f t,g t])=l.map f
 | []=>rfl
 |t::l=>by
  show evens (f t::g t::l.flatMap fun t=>[f t,g t])=_;show f t::evens (l.flatMap fun t=>[f t,g t])=_;rw[Ct f g l];rfl
theorem Gf{α β:Type}(f g:α->β):∀l:List α,evens ((l.flatMap fun t=>[f t,g t]).drop 1)=l.map g
 | []=>rfl
 | [t]=>rfl
 |t::u::l=>by
  have:=Gf f g (u::l);show g t::evens (((u::l).flatMap fun t=>[f t,g t]).drop 1)=_;rw[this];rfl
theorem LJ{α β γ:Type}(f:α->List β)(h:β->γ)(l:List α):(l.flatMap f).map h=l.flatMap fun t=>(f t).map h:=by
 induction l with
 |nil=>rfl
 |cons t l ih=>rw[pc,pc,gu,ih]
theorem Gn:∀ts:List Term,jX (ts.map fun t=>.int (t.1:Int)) (ts.map fun t=>.int t.2)=ts.map tmD
 | []=>rfl
 |t::ts=>by
  show rf [.int (t.1:Int),.int t.2]::jX (ts.map _) (ts.map _)=_;rw[Gn ts];rfl
structure GapR(n:Nat)(g:Gap):Prop where
 ok:GapOk n g
 lo:N60 g.lo
 hi:N60 g.hi
theorem Kb{c:Nat}{ps:List Part}{g:Gap}(hc:c<45)(hn:∀p∈ps,c∉p.1.cps.toList)(ht:∀t∈g.ts,t.1<ps.length):∀w∈(("gap":Str)::cT ps g g.ts),c∉w.cps.toList:=by
 have hN:∀i:Int,c∉(nS i).cps.toList:=fun i m=>by have:=xA i c m;omega
 intro w m;rcases mem_cons.mp m with rfl|m
 ·intro m;have:∀c∈("gap":Str).cps.toList,45<=c:=by decide +kernel
  have:=this c m;omega
 unfold cT at m;rcases mem_cons.mp m with rfl|m
 ·exact hN _
 rcases mem_cons.mp m with rfl|m
 ·exact hN _
 obtain⟨t,mt,m⟩:=mem_flatMap.mp m;rcases mem_cons.mp m with rfl|m
 ·exact hN _
 ·rw[mem_singleton.mp m];exact hn _ (kW (ht t mt))
theorem O2{c:Nat}{p:Part}(hc:c<45)(hn:c∉p.1.cps.toList):∀w∈[("part":Str),p.1,nS p.2.1,nS p.2.2],c∉w.cps.toList:=by
 have hN:∀i:Int,c∉(nS i).cps.toList:=fun i m=>by have:=xA i c m;omega
 intro w m;simp only[jt,ia,or_false]at m;rcases m with rfl|rfl|rfl|rfl
 ·intro m;have:∀c∈("part":Str).cps.toList,45<=c:=by decide +kernel
  have:=this c m;omega
 ·exact hn
 ·exact hN _
 ·exact hN _
theorem Ox{c:Nat}(h:inL c=true):97<=c:=by
 have:∀c<97,inL c=false:=by decide +kernel
 rcases Nat.lt_or_ge c 97 with z|z
 ·rw[this c z]at h;cases h
 ·exact z
theorem x5{c:Nat}{z:Str}(hc:c<45)(h:bK z=true):c∉z.cps.toList:=fun m=>by
 unfold bK at h;rw[cy]at h;have:=Ox (all_eq_true.mp h.2 c m);omega
theorem AW{c d:Nat}(aa:c≠d):∀{l:List Str},(∀w∈l,c∉w.cps.toList)->c∉(jm ⟨#[d]⟩ l).cps.toList
 | [],_=>by intro m;cases m
 | [a],h=>h a cw
 |a::b::r,h=>by
  rw[mO];intro m;rcases mem_append.mp m with m|m
  ·exact h a cw m
  rcases mem_cons.mp m with m|m
  ·exact aa m
  ·exact AW aa (fun w m=>h w (cn _ m)) m
theorem HR{ps:List Part}{gs:List Gap}(h:PsT ps)(hg:∀g∈gs,GapR ps.length g)(l1:1<=ps.length):PySem.Txt.split (text ps gs) "\n" = ps.map prow++gs.map fun g=>grow ps g g.ts:=by
 unfold text;refine AF 10 (fun z=>?_) fun w m=>?_
 ·have:=congrArg sr z;rw[cq,cg,length_nil]at this;omega
 ·rcases mem_append.mp m with m|m
  ·obtain⟨p,mp,rfl⟩:=mem_map.mp m;have e:prow p=PySem.Txt.join ⟨#[32]⟩ [("part":Str),p.1,nS p.2.1,nS p.2.2]:=(oR _ _ _).symm;rw[e,show PySem.Txt.join ⟨#[32]⟩ [("part":Str),p.1,nS p.2.1,nS p.2.2]=jm ⟨#[32]⟩ [("part":Str),p.1,nS p.2.1,nS p.2.2]from jb ..];exact AW dz (O2 dz (x5 dz (h.all p mp).nm))
  ·obtain⟨g,mg,rfl⟩:=mem_map.mp m;have e:grow ps g g.ts=PySem.Txt.join ⟨#[32]⟩ (("gap":Str)::cT ps g g.ts):=(oR _ _ _).symm;rw[e,show PySem.Txt.join ⟨#[32]⟩ (("gap":Str)::cT ps g g.ts)=jm ⟨#[32]⟩ (("gap":Str)::cT ps g g.ts)from jb ..];exact AW dz (Kb dz (fun p m=>x5 dz (h.all p m).nm) fun t m=>((hg g mg).ok.ts.ok t m).1)
end
section
variable {R:RX}
def jbD(ps:List Part)(gs:List Gap):bg:=.tuple [aL ps,dZ gs]
theorem Oc{ps:List Part}(h:DrwT ps):PsT ps:=by
 refine⟨h.drw.l8,fun p m=>?_,h.nd⟩;have t:=h.sp p m;have a:=t.lo;have b:=t.hi;have c:=t.wd;have d:=t.le;have n:=(h.drw.all p m).nm;unfold jD at n;rw[cy,cy]at n;have k:(10:Nat) ^ 60=1000000000000000000000000000000000000000000000000000000000000:=by decide +kernel
 exact⟨h.nm p m,n.1.2,by unfold N60;rw[k];omega,by unfold N60;rw[k];omega,d⟩
theorem O5{n:Nat}{g:Gap}(h:GapU n g):GapR n g:=by
 have a:=h.lo;have b:=h.hi;have c:=h.ok.le;have k:(10:Nat) ^ 60=1000000000000000000000000000000000000000000000000000000000000:=by decide +kernel
 exact⟨h.ok,by unfold N60;rw[k];omega,by unfold N60;rw[k];omega⟩
theorem Ld{ps:List Part}{gs:List Gap}(hd:DrwT ps)(l6:gs.length<=6)(g1:1<=gs.length)(hg:∀g∈gs,GapU ps.length g):JobB ps gs:=HW hd.drw ⟨g1,l6,fun g m=>⟨(hg g m).ok,by have:=(hg g m).lo;omega,by have:=(hg g m).hi;omega⟩⟩
theorem Np{ps:List Part}{gs:List Gap}(h:JobB ps gs)(q:R (.d (.str (text ps gs))) []):xW [.d (aL ps),.d (dZ gs)] [] R:=Ie h q
end
section
variable {R:RX}{EX:EXD}
theorem o7{c:Nat}:inF c=true↔48<=c/\c<=57:=by
 refine⟨fun h=>?_,P1⟩;unfold inF at h;rw[StrLaws.found_one,decide_eq_true_eq]at h;have:∀d∈(FIG).cps.toList,48<=d/\d<=57:=by decide +kernel
 exact this c h
def hor(l:List Nat):Nat:=l.foldl (fun v c=>10*v+(c-48)) 0
theorem Gp(l:List Nat)(c:Nat):hor (l++[c])=10*hor l+(c-48):=by unfold hor;rw[List.foldl_append];rfl
theorem G9{m:Nat}(h:m<10):digs m=[48+m]:=by
 have:∀m<10,digs m=[48+m]:=by decide
 exact this m h
theorem Ko{n r:Nat}(hn:0<n)(hr:r<10):digs (10*n+r)=digs n++[48+r]:=by
 have t:Nat.toDigits 10 n++Nat.toDigits 10 r=Nat.toDigits 10 (10*n+r):=Nat.toDigits_append_toDigits dz hn hr;rw[<- G9 hr];unfold digs;rw[<- t,gu]
theorem LN{P:List Nat->Prop}(h0:P [])(h1:∀l c,P l->P (l++[c]))(l:List Nat):P l:=by
 have:∀r:List Nat,P r.reverse:=fun r=>by
  induction r with
  |nil=>exact h0
  |cons c r ih=>rw[reverse_cons];exact h1 _ _ ih
 simpa using this l.reverse
theorem ET(l:List Nat):(∀c∈l,48<=c/\c<=57)->l≠[]->(l.head?=some 48->l=[48])->l=digs (hor l):=by
 refine LN (P:=fun l=>(∀c∈l,48<=c/\c<=57)->l≠[]->(l.head?=some 48->l=[48])->l=digs (hor l)) (fun _ h=>absurd rfl h) (fun l c ih h1 _ h3=>?_) l;have hc:=h1 c yv;rw[Gp];cases l with
 |nil=>
  rw[show 10*hor []+(c-48)=c-48 by unfold hor;simp,G9 yw];show [c]=[48+(c-48)];rw[show 48+(c-48)=c by omega]
 |cons d r=>
  have hd:d≠48:=fun z=>by
   have:=h3 (by rw[z];rfl);simp at this
  have e:=ih (fun x m=>h1 x (fk _ m)) yv (fun z=>absurd (by simpa using z) hd);have hp:0<hor (d::r):=by
   rcases Nat.eq_zero_or_pos (hor (d::r))with z|z
   ·rw[z,Ck]at e;exact absurd (mj e).1 hd
   ·exact z
  rw[Ko hp yw,<- e,show 48+(c-48)=c by omega]
def figs(w:Str):List Nat:=match w.cps.toList with
 | 45::r=>r
 |l=>l
def e9(w:Str):Bool:=decide (1<=(figs w).length/\(figs w).length<=60)&&(figs w).all inF&&!(decide ((figs w).head?=some 48)&&decide (w ≠ "0"))
def gW(w:Str):Int:=match w.cps.toList with
 | 45::r=>-(hor r:Int)
 |l=>hor l
def aN(w:Str):Option Int:=if e9 w=true then some (gW w)else none
theorem EM{w:Str}(h:w.cps.toList=[]):w = "":=o8 (h.trans rfl)
theorem jU(w:Str):(∃r,w.cps.toList=45::r/\figs w=r/\gW w = -(hor r:Int))\/((∀r,w.cps.toList≠45::r)/\figs w=w.cps.toList/\gW w=(hor w.cps.toList:Int)):=by
 cases h:w.cps.toList with
 |nil=>exact .inr ⟨yv,by unfold figs;rw[h],by unfold gW;rw[h]⟩
 |cons c r=>
  by_cases hc:c=45
  ·subst hc;exact .inl ⟨r,rfl,by unfold figs;simp only[h],by unfold gW;simp only[h]⟩
  ·refine .inr ⟨fun r' e=>hc (mj e).1,?_,?_⟩
   ·unfold figs;rw[h];split
    ·rename_i r' e;exact absurd (mj e).1 hc
    ·rfl
   ·unfold gW;rw[h];split
    ·rename_i r' e;exact absurd (mj e).1 hc
    ·rfl
theorem x8{w:Str}:e9 w=true↔1<=(figs w).length/\(figs w).length<=60/\(∀c∈figs w,48<=c/\c<=57)/\((figs w).head?=some 48->w = "0"):=by
 unfold e9;simp only[cy,decide_eq_true_eq,all_eq_true,qr,Bool.and_eq_false_iff,decide_eq_false_iff_not,o7];constructor
 ·rintro⟨⟨⟨a,b⟩,c⟩,d⟩;refine⟨a,b,c,fun e=>?_⟩;rcases d with d|d
  ·exact absurd e d
  ·exact Classical.not_not.mp d
 ·rintro⟨a,b,c,d⟩;refine⟨⟨⟨a,b⟩,c⟩,?_⟩;by_cases e:(figs w).head?=some 48
  ·exact .inr fun z=>z (d e)
  ·exact .inl e
theorem BN{l:List Nat}(h:l=digs (hor l))(h1:1<=l.length)(aa:l.length<=60):hor l<10 ^ 60:=by
 have e:(digs (hor l)).length<=60:=by rw[<- h];exact aa
 unfold digs at e;rw[cg]at e;exact(Nat.length_toDigits_le_iff dz dz).mp e
theorem Bw{w:Str}(h:e9 w=true):w=nS (gW w)/\(gW w).natAbs<10 ^ 60:=by
 obtain⟨h1,aa,hd,h0⟩:=x8.mp h;rcases jU w with ⟨r,e,ef,ev⟩|⟨ne,ef,ev⟩
 ·rw[ef]at h1 aa hd h0;have nz:r.head? ≠ some 48:=fun z=>by
   have:=h0 z;rw[this]at e;exact absurd (mj e).1 dz
  have ec:=ET r hd (fun z=>by rw[z]at h1;exact absurd h1 dz) fun z=>absurd z nz;have hb:=BN ec h1 aa;have hp:0<hor r:=by
   rcases Nat.eq_zero_or_pos (hor r)with z|z
   ·rw[z,Ck]at ec;rw[ec]at nz;exact absurd rfl nz
   ·exact z
  rw[ev];refine⟨o8 ?_,yw⟩;obtain⟨k,hk⟩:∃k,hor r=k+1:=⟨hor r-1,yw⟩;rw[e,hk,yL,<- hk,<- ec]
 ·rw[ef]at h1 aa hd h0;have ec:=ET w.cps.toList hd (fun z=>by rw[z]at h1;exact absurd h1 dz) fun z=>by rw[h0 z];rfl
  have hb:=BN ec h1 aa;rw[ev];refine⟨o8 ?_,yw⟩;rw[sO,<- ec]
theorem rK{w:Str}{i:Int}(h:aN w=some i):w=nS i/\i.natAbs<10 ^ 60:=by
 unfold aN at h;split at h
 ·rename_i q;cases h;exact Bw q
 ·cases h
def fz(w:Str):Str:=⟨(figs w).toArray⟩
theorem pL(w:Str):(fz w).cps.toList=figs w:=rfl
theorem A8{w:Str}(h:figs w=w.cps.toList):fz w=w:=o8 (by rw[pL,h])
theorem Ml(w:Str):PySem.Txt.startswith w ("-":Str)=(w.cps.toList.head?==some 45):=by
 cases h:w.cps.toList with
 |nil=>
  rw[EM h];decide +kernel
 |cons c r=>
  rw[show ("-":Str)=⟨#[45]⟩from rfl,Hu h];rfl
theorem uX{w:Str}(ho:fu w=true)(hw:w.length<=100000)(q:∀i,aN w=some i->R (.d (.int i)) [])(qx:aN w=none->EX 73 []):lA [.d (.str w)] [] R EX:=by
 have ws:w.length<=bw:=ie hw (by rw[ig];decide);have aa:=eP w;unfold lA;walk_at "d";refine cut (fun δ S=>S=[]/\δ=[some (.d (.str w)),some (.d (.str (fz w)))]) (fun N hN=>?_) ?_
 ·walk_at "d";rw[Ml];rcases jU w with ⟨r,e,ef,_⟩|⟨ne,ef,_⟩
  ·rw[show (w.cps.toList.head?==some 45)=true by rw[e];rfl];walk_at "d";refine⟨ws,?_⟩;rw[CZ e];exact hN _ _ ⟨rfl,by unfold fz;rw[ef]⟩
  ·rw[show (w.cps.toList.head?==some 45)=false by
    cases h:w.cps.toList with
    |nil=>rfl
    |cons c r=>
     have:c≠45:=fun z=>ne r (by rw[h,z]);show (some c==some 45)=false;simp[this]]
   walk_at "d";exact hN _ _ ⟨rfl,by rw[A8 ef]⟩
 ·rintro _ _ ⟨rfl,rfl⟩;have hl:(fz w).length=(figs w).length:=(eP _).symm;have fl:(figs w).length<=w.length:=by
   rcases jU w with ⟨r,e,ef,_⟩|⟨ne,ef,_⟩
   ·rw[ef,<- aa,e];simp
   ·rw[ef,aa];exact fe _
  have zs:(fz w).length<=bw:=yw
  have ac:e9 w=false->EX 73 []:=fun h=>qx (by unfold aN;rw[h];rfl);walk_at "n";refine⟨(fz w).length,by simp[fW,zs],?_⟩;by_cases hr:1<=(figs w).length/\(figs w).length<=60
  ·rw[cm yw,cb yw];unfold iD;refine cmp1 (S0:=[]) (h:=fun c:Nat=>be ⟨#[c]⟩) (fun c:Nat=>.bool (inF c)) rfl (figs w) yw ?_ ?_
   ·intro c mc u acc R' hk;walk_at "d";exact hk _
   ·walk_at "d";refine⟨(figs w).map inF,by rw[map_map];rfl,?_⟩;rw[all_map,show (figs w).all (id∘inF)=(figs w).all inF from rfl];cases ha:(figs w).all inF with
    |false=>
     walk_at "d";refine ac ?_;unfold e9;rw[ha];simp
    |true=>
     walk_at "d";walk_at "n";obtain⟨c,r,e⟩:∃c r,figs w=c::r:=by
      cases h:figs w with
      |nil=>rw[h]at hr;exact absurd hr.1 dz
      |cons c r=>exact⟨c,r,rfl⟩
     refine⟨zs,c,by rw[pL,e];exact c6 (j:=0) rfl,?_⟩;have hc:=o7.mp (all_eq_true.mp ha c (by rw[e];exact cw));refine⟨(cN (n:=0) (gS fun d m=>by have:d=c:=(by simpa using m);omega)).ok,by decide +kernel,?_⟩;rw[cW];have ae:decide ((⟨#[c]⟩:Str) = "0")=decide (c=48):=by
      by_cases z:c=48
      ·subst z;decide
      ·rw[bu z,bu fun q=>z (mj (congrArg (fun y:Str=>y.cps.toList) q)).1]
     have fin:e9 w=true->∃n,w.length<=640/\PySem.intText? w=some n/\R (.d (.int n)) []:=fun h=>by
      obtain⟨h1,h2⟩:=Bw h;refine⟨gW w,?_,?_,q _ (by unfold aN;rw[cm h])⟩
      ·rcases jU w with ⟨r,e,ef,_⟩|⟨ne,ef,_⟩
       ·rw[<- aa,e,cz,<- ef];omega
       ·rw[<- aa,<- ef];omega
      ·have:=Ot h2
       rwa [<- h1]at this
     rw[ae];by_cases z:c=48
     ·rw[bx z];walk_at "d";refine⟨(cN (n:=0) ho).ok,by decide +kernel,?_⟩;rw[cW];by_cases w0:w = "0"
      ·rw[bx w0];walk_at "d";exact fin (by rw[w0];decide +kernel)
      ·rw[bu w0];walk_at "d";refine ac ?_;unfold e9;rw[e,z];simp[w0]
     ·rw[bu z];walk_at "d";refine fin (x8.mpr ⟨hr.1,hr.2,fun d m=>o7.mp (all_eq_true.mp ha d m),fun q=>?_⟩);rw[e]at q;exact absurd (by simpa using q) z
  ·have bd:EX 73 []:=ac (by
    unfold e9;rw[bu hr];rfl)
   by_cases h1:1<=(figs w).length
   ·rw[cm yw,cm yw];exact bd
   ·rw[cb yw];exact bd
theorem head1(w:Str):PySem.Txt.slice w none (some 1)=⟨(w.cps.toList.take 1).toArray⟩:=by
 cases h:w.cps.toList with
 |nil=>rw[EM h];decide +kernel
 |cons c r=>
  have l:=eP w;rw[h]at l;have:=beq_iff_eq.mp (PyProof.Rows.slice_closes_toL (x:=w) (j:=1) dz (by rw[<- l,cz];omega));rw[this,h];rfl
theorem kL{z:Str}(h:fu z=true){c:Nat}(m:c∈z.cps.toList):c<1114112:=by
 unfold fu at h;rw[Array.all_eq_true']at h;exact kz (h c (Array.mem_toList_iff.mp m))
def lG:Option Int->bg
 |some i=>.int i
 |none=>.none
theorem AB{w:Str}(ho:fu w=true)(hw:w.length<=100000)(q:R (.d (lG (aN w))) []):oU [.d (.str w)] [] R:=by
 have ws:w.length<=bw:=ie hw (by rw[ig];decide);have ae:=eP w;unfold oU;walk_at "d";refine cut (fun δ S=>S=[]/\δ=[some (.d (.str w)),some (.d (.str (fz w))),none,none]) (fun N hN=>?_) ?_
 ·walk_at "d";have h1:=head1 w;have ah:fu (PySem.Txt.slice w none (some 1))=true:=by
   rw[h1];exact gS fun c m=>kL ho (qi m)
  refine⟨ws,(cN (n:=0) ah).ok,by decide +kernel,?_⟩;rw[cW];rcases jU w with ⟨r,e,ef,_⟩|⟨ne,ef,_⟩
  ·rw[bx (by rw[h1,e];rfl)];walk_at "d";refine⟨ws,?_⟩;rw[CZ e];exact hN _ _ ⟨rfl,by unfold fz;rw[ef]⟩
  ·rw[bu (fun z=>by
    have e:=congrArg (fun y:Str=>y.cps.toList) z;rw[h1]at e;cases h:w.cps.toList with
    |nil=>rw[h]at e;cases e
    |cons c r=>rw[h]at e;exact ne r (by rw[h,show c=45 from(mj e).1]))]
   walk_at "d";exact hN _ _ ⟨rfl,by rw[A8 ef]⟩
 ·rintro _ _ ⟨rfl,rfl⟩;have hl:(fz w).length=(figs w).length:=(eP _).symm;have fl:(figs w).length<=w.length:=by
   rcases jU w with ⟨r,e,ef,_⟩|⟨ne,ef,_⟩
   ·rw[ef,<- ae,e];simp
   ·rw[ef,ae];exact fe _
  have zs:(fz w).length<=bw:=yw
  have af:∀c∈figs w,c<1114112:=fun c m=>kL ho (by
   rcases jU w with ⟨r,e,ef,_⟩|⟨ne,ef,_⟩
   ·rw[e];rw[ef]at m;exact cn _ m
   ·rw[ef]at m;exact m)
  have aa:e9 w=false->R (.d .none) []:=fun h=>by
   have:aN w=none:=by unfold aN;rw[h];rfl
   rw[this]at q;exact q
  walk_at "n";refine⟨(fz w).length,by simp[fW,zs],?_⟩;by_cases hr:1<=(figs w).length/\(figs w).length<=60
  ·rw[cb yw];unfold iD;refine cmf1 (S0:=[]) (h:=fun c:Nat=>be ⟨#[c]⟩) (fun c:Nat=>be ⟨#[c]⟩) (fun c=>!inF c) rfl (figs w) yw ?_ ?_
   ·intro c mc u acc R' hk;walk_at "d";exact hk _ fun _ T hT=>⟨_,rfl,hT⟩
   ·walk_at "d";have ok:∀c∈figs w,fu ⟨#[c]⟩=true:=fun c m=>gS fun d md=>by
     have:d=c:=by simpa using md
     rw[this];exact af c m
    refine⟨(m5 (n:=0) (nB fun c m=>cN (ok c (mem_filter.mp m).1))).ok,rfl,?_⟩;rw[Ae];cases ha:(figs w).all inF with
    |false=>
     rw[bu (fun z=>by
      rw[List.map_eq_nil_iff,List.filter_eq_nil_iff]at z;have:(figs w).all inF=true:=all_eq_true.mpr fun c m=>by simpa using z c m
      rw[ha]at this;cases this)]
     walk_at "d";exact aa (by unfold e9;rw[ha];simp)
    |true=>
     have al:=all_eq_true.mp ha;rw[bx (by
      rw[List.map_eq_nil_iff,List.filter_eq_nil_iff];exact fun c m=>by simp[al c m])]
     obtain⟨c,r,e⟩:∃c r,figs w=c::r:=by
      cases h:figs w with
      |nil=>rw[h]at hr;exact absurd hr.1 dz
      |cons c r=>exact⟨c,r,rfl⟩
     have hc:=o7.mp (al c (by rw[e];exact cw));have ai:decide ((⟨#[c]⟩:Str) = "0")=decide (c=48):=by
      by_cases z:c=48
      ·subst z;decide
      ·rw[bu z,bu fun q=>z (mj (congrArg (fun y:Str=>y.cps.toList) q)).1]
     have fin:e9 w=true->(zR (aA (dC (dq 0)) (zk 2)) (zR (bW (gC (zh 1)) (zk 3) (aA (dOp aB (dOp cE (dC (dq 10)) (zh 2)) (bX j6 (dC (be (dw "0123456789"))) (zc (zh 3) zp))) (zk 2)))
       (aC (dIf (dB (dOp aH (zh 1) (zh 0))) (zh 2) (dOp (dI0 fun i j=>i-j) (dC (dq 0)) (zh 2)))))) (aG 0 R) [some (XV.d (be w)),some (XV.d (be (fz w))),none,none] []:=fun h=>by
      rw[show aN w=some (gW w) by unfold aN;rw[cm h]]at q
      walk_at "n"
      walk_at "n";unfold iD;refine eU (fun i δ S=>∃u:Option XV,S=[]/\δ=[some (.d (.str w)),some (.d (.str (fz w))),some (.d (.int (hor ((figs w).take i)))),u]) ⟨_,rfl,rfl⟩ ?_ ?_
      ·rintro i d _ _ N hi ⟨u,rfl,rfl⟩ hN;obtain⟨d,ed,rfl⟩:=iM hi;have ac:(figs w)[i]?=some d:=ed;have hd:=o7.mp (al d (dh ac));have aj:∀d<58,48<=d->PySem.Builtin.Str.occurrences FIG ⟨#[d]⟩ 0 (FIG).length 1=[d-48]:=by decide +kernel
       walk_at "d";refine⟨jB dz dz,d-48,[],aj d yw hd.1,?_⟩;refine hN _ _ ⟨some (.d (.str ⟨#[d]⟩)),rfl,?_⟩;rw[mf,ac,show (some d).toList=[d]from rfl,Gp];simp
      ·rintro _ _ ⟨u,rfl,rfl⟩;walk_at "d"
       try rw[cg]
       rw[show (figs w).take (fz w).cps.toList.length=figs w by rw[pL,qa]];have ag:fu (fz w)=true:=gS fun c m=>af c m;refine⟨(cN (n:=0) ag).ok,(cN (n:=0) ho).ok,?_⟩;rw[cW];rcases jU w with ⟨r,e,ef,ev⟩|⟨ne,ef,ev⟩
       ·rw[bu (fun z=>by
         have:=congrArg (fun y:Str=>y.cps.toList.length) z;simp only[pL]at this;rw[e,ef]at this;simp at this)]
        walk_at "d";rw[ev]at q;rw[ef];simpa[lG]using q
       ·rw[bx (A8 ef)];walk_at "d";rw[ev,<- ef]at q;exact q
     rw[cb dz];walk_at "n";refine⟨zs,c,by rw[pL,e];exact c6 (j:=0) rfl,?_⟩;refine⟨(cN (n:=0) (gS fun d m=>by have:d=c:=(by simpa using m);omega)).ok,by decide +kernel,?_⟩;rw[cW,ai];by_cases z:c=48
     ·rw[bx z];walk_at "d";refine⟨(cN (n:=0) ho).ok,by decide +kernel,?_⟩;rw[cW];by_cases w0:w = "0"
      ·rw[bx w0];exact fin (by rw[w0];decide +kernel)
      ·rw[bu w0];refine aa ?_;unfold e9;rw[e,z];simp[w0]
     ·rw[bu z];refine fin (x8.mpr ⟨hr.1,hr.2,fun d m=>o7.mp (al d m),fun q=>?_⟩);rw[e]at q;exact absurd (by simpa using q) z
  ·rw[cm yw];exact aa (by unfold e9;rw[bu hr];rfl)
end
section
variable {R:RX}{EX:EXD}
def jJ{α β:Type}(f:α->Option β):List α->Option (List β)
 | []=>some []
 |x::l=>match f x,jJ f l with
  |some d,some r=>some (d::r)
  |_,_=>none
theorem cmpo{α:Type}{n:Nat}{g:DG}{te:DE}{fin:Sto->Prop}{S0:Sto}{caps:XE}{h:α->bg}(f:α->Option bg)(hn:S0.length=n)(l:List α){u:Option XV}(hl:l.length<=1000)
  (el:∀x∈l,∀(u:Option XV) acc (R:XE->RX),(∀d,f x=some d->∀u',R (u'::caps) (.d d) (S0++[acc]))->g (.d (h x)) (u::caps) (S0++[acc]) fun τ1 S1=>te τ1 S1 (R τ1))
  (hf:∀ds,jJ f l=some ds->fin (S0++[ds])):bC n g aI te fin (l.map h) (u::caps) (S0++[[]]):=by
 have go:∀(l:List α) (acc:List bg) (u:Option XV),acc.length+l.length<=1000->(∀x∈l,∀(u:Option XV) acc (R:XE->RX),(∀d,f x=some d->∀u',R (u'::caps) (.d d) (S0++[acc]))->g (.d (h x)) (u::caps) (S0++[acc]) fun τ1 S1=>te τ1 S1 (R τ1)) ->
   (∀ds,jJ f l=some ds->fin (S0++[acc++ds]))->bC n g aI te fin (l.map h) (u::caps) (S0++[acc]):=by
  intro l;induction l with
  |nil=>intro acc u _ _ hh;have:=hh [] rfl;rw[jf]at this;exact this
  |cons x l ih=>
   intro acc u hl el hh;show g (.d (h x)) (u::caps) (S0++[acc]) fun τ1 S1=>aI τ1 S1 fun b S2=>if b=true then te τ1 S2 fun x S3=>asD x fun e=>∃acc,S3[n]?=some acc/\acc.length<1000/\bC n g aI te fin (l.map h) τ1 (S3.set n (acc++[e]))else bC n g aI te fin (l.map h) τ1 S2
   simp only[aI,↓reduceIte];rw[cz]at hl;refine el x cw u acc (fun τ1 x S3=>asD x fun e=>∃acc,S3[n]?=some acc/\acc.length<1000/\bC n g aI te fin (l.map h) τ1 (S3.set n (acc++[e]))) fun d ed u'=>?_;refine⟨acc,by rw[<- hn,ck],yw,?_⟩;rw[w8 hn];refine ih (acc++[d]) u' (by rw[cq,gb];omega) (fun e m=>el e (cn _ m)) fun ds aa=>?_;rw[ja];exact hh _ (by unfold jJ;rw[ed,aa];rfl)
 exact go l [] u (by simpa using hl) el (by simpa using hf)
theorem Bo(z:Str):bK z=(decide (1<=z.length/\z.length<=8)&&z.cps.toList.all inL):=rfl
theorem Nb{z:Str}(hl:z.length<=100000)(q:R (.d (.bool (bK z))) []):m4 [.d (.str z)] [] R:=by
 have hz:z.length<=bw:=ie hl (by rw[ig];decide);unfold m4;walk_at "d";walk_at "n";refine⟨z.length,by simp[fW,hz],?_⟩;rw[Bo]at q;by_cases h1:1<=z.length/\z.length<=8
 ·rw[cm yw,cb yw];rw[bx h1,jg]at q;unfold iD;refine cmp1 (S0:=[]) (h:=fun c:Nat=>be ⟨#[c]⟩) (fun c:Nat=>.bool (inL c)) rfl z.cps.toList (by rw[eP];omega) ?_ ?_
  ·intro c mc u acc R' hk;walk_at "d";exact hk _
  ·walk_at "d";exact⟨z.cps.toList.map inL,by rw[map_map];rfl,by rw[all_map];exact q⟩
 ·rw[bu h1,ph]at q;by_cases h2:1<=(z.length:Int)
  ·rw[cm h2,cm yw];exact q
  ·rw[cb h2];exact q
theorem G4{z:Str}(hl:z.length<=100000)(q:bK z=true->R (.d (.str z)) [])(qx:bK z=false->EX 73 []):rT [.d (.str z)] [] R EX:=by
 unfold rT;walk_at "d";walk_at "n";refine Nb hl ?_;cases h:bK z with
 |true=>(walk_at "d";exact q h)
 |false=>(walk_at "d";exact qx h)
theorem Lk{z:Str}(ho:fu z=true)(hl:z.length<=100000)(q:R (.d (.bool (bK z))) []):uS [.d (.str z)] [] R:=by
 have hz:z.length<=bw:=ie hl (by rw[ig];decide);unfold uS;walk_at "d";refine⟨z.length,by simp[fW,hz],?_⟩;rw[Bo]at q;by_cases h1:1<=z.length/\z.length<=8
 ·rw[bx h1,jg]at q;rw[cm yw,cm yw];unfold iD;have ok:∀c∈z.cps.toList,fu ⟨#[c]⟩=true:=fun c m=>gS fun d md=>by
   have:d=c:=by simpa using md
   rw[this];exact kL ho m
  refine cmf1 (S0:=[]) (h:=fun c:Nat=>be ⟨#[c]⟩) (fun c:Nat=>be ⟨#[c]⟩) (fun c=>!inL c) rfl z.cps.toList (by rw[eP];omega) ?_ ?_
  ·intro c mc u acc R' hk;walk_at "d";exact hk _ fun _ T hT=>⟨_,rfl,hT⟩
  ·walk_at "d";refine⟨(m5 (n:=0) (nB fun c m=>cN (ok c (mem_filter.mp m).1))).ok,rfl,?_⟩;rw[Ae];refine Rb q ?_;generalize z.cps.toList=l;rw[nj];simp[List.filter_eq_nil_iff]
 ·rw[bu h1,ph]at q;by_cases h2:0<(z.length:Int)
  ·rw[cm h2,cb yw];exact q
  ·rw[cb h2];exact q
def cA(a b:Str):Bool:=match aN a,aN b with
 |some x,some y=>decide (x<=y)
 |_,_=>false
def Wd(w:Str):Prop:=fu w=true/\w.length<=100000
theorem F2{a b:Str}(ha:Wd a)(hb:Wd b)(q:R (.d (.bool (cA a b))) []):uR [.d (.list [.str a,.str b])] [] R:=by
 unfold uR;walk_at "d"
 walk_at "n"
 refine AB ha.1 ha.2 ?_;walk_at "d"
 walk_at "n"
 refine AB hb.1 hb.2 ?_;unfold cA at q;cases h1:aN a with
 |none=>(rw[h1]at q;walk_at "d";exact q)
 |some x=>
  cases h2:aN b with
  |none=>(rw[h1,h2]at q;walk_at "d";exact q)
  |some y=>(rw[h1,h2]at q;walk_at "d";exact q)
def eK(ws ns:List Str):Bool:=match ws with
 | [_,z,a,b]=>bK z&&decide (z∉ns)&&decide (ns.length≠8)&&cA a b
 |_=>false
theorem len4{ws:List Str}(h:ws.length=4):∃a b c d,ws=[a,b,c,d]:=by
 match ws,h with
 | [a,b,c,d],_=>exact⟨a,b,c,d,rfl⟩
theorem Dg{ws ns:List Str}(h:ws.length≠4):eK ws ns=false:=by
 unfold eK;split
 ·rename_i e;exact absurd rfl h
 ·rfl
theorem BG(ns:List Str)(z:Str):((ns.map be).any fun y=>jc y (.str z))=decide (z∈ns):=by
 induction ns with
 |nil=>rfl
 |cons n r ih=>
  rw[gk,any_cons,ih,cW];by_cases e:n=z
  ·simp[e]
  ·have:z≠n:=fun q=>e q.symm;simp[e,this]
theorem v4{ns:List Str}(h:∀z∈ns,fu z=true):dy (.list (ns.map be))=true:=(m5 (n:=0) (nB fun z m=>cN (h z m))).ok
theorem CU{ws ns:List Str}(hw:∀w∈ws,Wd w)(hn:∀z∈ns,fu z=true)(hl:ns.length<=8)(aa:ws.length<=900)(q:R (.d (.bool (eK ws ns))) []):vF [.d (.list (ws.map be)),.d (.list (ns.map be))] [] R:=by
 unfold vF;walk_at "d";by_cases h4:ws.length=4
 ·obtain⟨w,z,a,b,rfl⟩:=len4 h4;have hz:=hw z yv;have eq:eK [w,z,a,b] ns=(bK z&&decide (z∉ns)&&decide (ns.length≠8)&&cA a b):=rfl;rw[eq]at q;walk_at "n";refine Lk hz.1 (by have:=hz.2;omega) ?_;cases hn1:bK z with
  |false=>
   rw[hn1]at q;walk_at "d";exact q
  |true=>
   rw[hn1,jg]at q;walk_at "d";refine⟨(cN (n:=0) hz.1).ok,v4 hn,?_⟩;rw[BG];by_cases hm:z∈ns
   ·rw[bx hm];rw[bu (fun z=>z hm)]at q;walk_at "d";exact q
   ·rw[bu hm];rw[bx hm,jg]at q;walk_at "d";by_cases h8:ns.length=8
    ·rw[cm yw];rw[bu (by simp[h8]),ph]at q;exact q
    ·rw[cb yw];rw[bx (by simp[h8]),jg]at q;rw[show bI [be w,be z,be a,be b] (some 2) none=[.str a,.str b]from rfl];refine F2 (hw a yv) (hw b yv) ?_;walk_at "d";exact q
 ·rw[Dg h4]at q;walk_at "n";rw[cm yw];exact q
def Cs4:List Addr:=[73,104,49,123]
theorem IH{z:Str}{a b:Int}(hz:bK z=true)(q:R (.d (.bool (fM (.int a) (.int b)))) []):nR [.d (.tuple [.str z,.int a,.int b])] [] R:=by
 unfold nR;walk_at "d";walk_at "n";refine Dw hz ?_;walk_at "d";refine Aj ?_;walk_at "d";exact q
theorem Fi{a b:Int}(h1:N60 a)(h2:N60 b):fM (.int a) (.int b)=decide (a<=b):=by
 by_cases h:a<=b
 ·rw[Fm h1 h2 h,bx h]
 ·rw[Gw,bu h,Bool.and_false]
theorem JA{ps:List Part}{z:Str}{a b:Int}(h:PsT ps)(l7:ps.length<8)(hz:bK z=true)(h1:N60 a)(h2:N60 b)(q:z∉ps.map (·.1)->a<=b->R (.d (aL (ps++[(z,a,b)]))) [])
  (qx:¬(z∉ps.map (·.1)/\a<=b)->∀fs,EX 104 fs):w6 [.d (.list ((ps++[(z,a,b)]).map cG))] [] R EX:=by
 have aa:(ps++[(z,a,b)]).length=ps.length+1:=by simp
 have ag:∀i,i<ps.length->(ps++[(z,a,b)])[i]?=ps[i]?:=fun i hi=>fq hi;unfold w6;walk_at "d";walk_at "n";intro a' _;walk_at "d";refine Fk (fun i δ S M=>∃(u2 u3:Option XV),S=[]/\(i=ps.length+1->z∉ps.map (·.1)/\a<=b)/\M=[(a',.k (nmM (((ps++[(z,a,b)]).take i).map (·.1))))]/\δ=[some (.d (.list ((ps++[(z,a,b)]).map cG))),some (.o (.ref a')),u2,u3]) ⟨_,_,rfl,fun q=>absurd q yw,rfl,rfl⟩ ?_ ?_
 ·rintro i d _ _ _ N hi ⟨u2,u3,rfl,_,rfl,rfl⟩ hN;obtain⟨e,he,rfl⟩:=o9 _ 0 i d hi;obtain⟨p,ep,rfl⟩:=iM he;have ai:i<(ps++[(z,a,b)]).length:=(List.getElem?_eq_some_iff.mp ep).1;rw[aa]at ai;rw[zero_add];have tk:(ps++[(z,a,b)]).take i=ps.take i:=by rw[List.take_append_of_le_length yw]
  have fin:p.1∉(ps.take i).map (·.1)->(i=ps.length->z∉ps.map (·.1)/\a<=b)->N [some (.d (.list ((ps++[(z,a,b)]).map cG))),some (.o (.ref a')),some (.d (.int (i:Nat))),some (.d (cG p))] [] [(a',.k (nmM (((ps++[(z,a,b)]).take (i+1)).map (·.1))))]:=fun _ h2=>hN _ _ _ ⟨_,_,rfl,fun q=>h2 yw,rfl,rfl⟩;have af:p.1∉(ps.take i).map (·.1)->ptA (nmM ((ps.take i).map (·.1))) (pf p.1) (.bool true)=nmM (((ps++[(z,a,b)]).take (i+1)).map (·.1)):=fun nm=>by
   rw[HD nm,mf,ep,tk];simp
  rw[tk];walk_at "d";refine seqm ?_;walk_at "d";by_cases hi3:i<ps.length
  ·rw[ag i hi3]at ep;have mp:=dh ep;refine Jx (h.all p mp) ?_;have nm:p.1∉(ps.take i).map (·.1):=by
    rw[map_take];exact Ii h.nd (by rw[gx,ep];rfl)
   walk_at "d";rw[iA];walk_at "d";refine⟨.k (nmM ((ps.take i).map (·.1))),lkA (nmM ((ps.take i).map (·.1))) (pf p.1),.inl ⟨a',rfl,yv⟩,rfl,?_⟩;rw[BK,cb (by simpa using nm)];refine⟨a',rfl,.k (nmM ((ps.take i).map (·.1))),.k (nmM (((ps++[(z,a,b)]).take (i+1)).map (·.1))),yv,?_,?_,?_⟩
   ·show some (DD.k (ptA (nmM ((ps.take i).map (·.1))) (pf p.1) (.bool true)))=_;rw[af nm]
   ·show (nmM ((ps.take i).map (·.1))).length<1000;unfold nmM;rw[cg,cg,gc];omega
   ·have:=fin nm fun q=>absurd q yw;rw[iA]at this;simpa[kN]using this
  ·have ei:i=ps.length:=yw
   have ah:p=(z,a,b):=by
    rw[ei,ls (fe _)]at ep;simpa using ep.symm
   subst ah;rw[iA];walk_at "d";refine IH hz ?_;rw[Fi h1 h2];have ae:¬(z∉ps.map (·.1)/\a<=b)->EX 104 [("number",.int (i:Nat))]:=fun hh=>qx hh _;have ac:ps.take i=ps:=by rw[ei,qa]
   by_cases hab:a<=b
   ·rw[bx hab];walk_at "d";refine⟨.k (nmM ((ps.take i).map (·.1))),lkA (nmM ((ps.take i).map (·.1))) (pf z),.inl ⟨a',rfl,yv⟩,rfl,?_⟩;rw[BK];by_cases hm:z∈ps.map (·.1)
    ·rw[cm (by rw[ac];simpa using hm)];exact ae fun hh=>hh.1 hm
    ·rw[cb (by rw[ac];simpa using hm)];have nm:z∉(ps.take i).map (·.1):=by rw[ac];exact hm
     refine⟨a',rfl,.k (nmM ((ps.take i).map (·.1))),.k (nmM (((ps++[(z,a,b)]).take (i+1)).map (·.1))),yv,?_,?_,?_⟩
     ·show some (DD.k (ptA (nmM ((ps.take i).map (·.1))) (pf z) (.bool true)))=_;rw[af nm]
     ·show (nmM ((ps.take i).map (·.1))).length<1000;unfold nmM;rw[cg,cg,gc];omega
     ·have:=fin nm fun _=>⟨hm,hab⟩;rw[iA]at this;simpa[kN]using this
   ·rw[bu hab];walk_at "d";exact ae fun hh=>hab hh.2
 ·rintro _ _ _ ⟨u2,u3,rfl,hv,rfl,rfl⟩;rw[vC,cg,aa]at hv;obtain⟨v1,v2⟩:=hv rfl;refine⟨[],_,rfl,?_⟩;walk_at "n";rw[cm yw,cb yw];exact q v1 v2
theorem Kc{a b:Str}:cA a b=true↔∃x y:Int,aN a=some x/\aN b=some y/\x<=y:=by
 unfold cA;cases h1:aN a with
 |none=>simp
 |some x=>
  cases h2:aN b with
  |none=>simp
  |some y=>simp
theorem KZ{ps:List Part}{ws:List Str}(h:PsT ps)(hw:∀w∈ws,Wd w)(q:eK ws (ps.map (·.1))=true->∀p:Part,(∃w,ws=[w,p.1,nS p.2.1,nS p.2.2])->PrtT p->p.1∉ps.map (·.1)->ps.length<8->R (.d (aL (ps++[p]))) [])
  (qx:eK ws (ps.map (·.1))=false->∀D∈Cs4,∀fs,EX D fs):wE [.d (aL ps),.d (.list (ws.map be))] [] R EX:=by
 unfold wE aL;walk_at "d";by_cases h4:ws.length=4
 ·obtain⟨w,z,a,b,rfl⟩:=len4 h4;have eq:eK [w,z,a,b] (ps.map (·.1))=(bK z&&decide (z∉ps.map (·.1))&&decide ((ps.map (·.1)).length≠8)&&cA a b):=rfl;have hz:=hw z yv;have ae:=hw a yv;have af:=hw b yv;walk_at "n";walk_at "n";refine G4 (by have:=hz.2;omega) (fun ac=>?_) (fun ac=>qx (by rw[eq,ac];rfl) 73 dz _);walk_at "d";refine uX ae.1 (by have:=ae.2;omega) (fun x hx=>?_) (fun hx=>qx (by rw[eq];unfold cA;rw[hx];simp) 73 dz _);walk_at "d";refine uX af.1 (by have:=af.2;omega) (fun y hy=>?_) (fun hy=>qx (by rw[eq];unfold cA;rw[hy];cases aN a<;>simp) 73 dz _);walk_at "d";walk_at "n";by_cases h8:ps.length=8
  ·rw[cm yw];have e8:decide ((ps.map (·.1)).length≠8)=false:=bu (by rw[cg];simp[h8]);exact qx (by rw[eq,e8];simp) 104 dz _
  ·rw[cb yw];have l7:ps.length<8:=by have:=h.l8;omega
   refine⟨yw,?_⟩;rw[show ps.map cG++[rf [.str z,.int x,.int y]]=(ps++[((z,x,y):Part)]).map cG by rw[gu];rfl];obtain⟨ea,na⟩:=rK hx;obtain⟨eb,nb⟩:=rK hy;refine JA h l7 ac na nb (fun hm aa=>?_) fun ah fs=>?_
   ·walk_at "d";refine q ?_ (z,x,y) ⟨w,by rw[<- ea,<- eb]⟩ ⟨ac,hz.1,na,nb,aa⟩ hm l7;rw[eq,ac,bx hm,bx (by rw[cg];exact h8),Kc.mpr ⟨x,y,hx,hy,aa⟩];rfl
   ·refine qx ?_ 104 dz fs;rw[eq];by_cases hm:z∈ps.map (·.1)
    ·rw[bu (fun q=>q hm)];simp
    ·have aa:¬ x<=y:=fun aa=>ah ⟨hm,aa⟩;have:cA a b=false:=by unfold cA;rw[hx,hy];exact bu aa
     rw[this];simp
 ·have ag:=qx (Dg h4);walk_at "n";rw[cm yw];exact ag 73 dz _
end
section
variable {R:RX}{EX:EXD}
def tmW(t:Str):Bool:=match aN t with
 |some v=>decide (v = -3\/v = -2\/v = -1\/v=1\/v=2\/v=3)
 |none=>false
def cY(ns:List Str):Int->List Str->Bool
 |_,[]=>true
 |_,[_]=>false
 |l,t::z::r=>tmW t&&decide (z∈ns)&&decide (l<(ns.idxOf z:Int))&&cY ns (ns.idxOf z:Int) r
def fV(ws ns:List Str):Bool:=match ws with
 |_::a::b::r=>decide (2<=r.length/\r.length % 2=0)&&cA a b&&cY ns (-1) r
 |_=>false
theorem GY{ws ns:List Str}(h:¬(5<=ws.length/\ws.length % 2=1)):fV ws ns=false:=by
 unfold fV;split
 ·rename_i w a b r;simp only[cz]at h;rw[bu yw];rfl
 ·rfl
theorem len5{ws:List Str}(h:5<=ws.length):∃w a b r,ws=w::a::b::r:=by
 match ws,h with
 |w::a::b::r,_=>exact⟨w,a,b,r,rfl⟩
theorem wH{ns:List Str}{z:Str}(h:z∈ns):ns.idxOf z<ns.length/\ns[ns.idxOf z]?=some z/\∀m e,m<ns.idxOf z->ns[m]?=some e->e≠z:=by
 refine⟨List.idxOf_lt_length_iff.mpr h,?_,fun m e hm he q=>?_⟩
 ·have:=List.getElem_idxOf (List.idxOf_lt_length_iff.mpr h);rw[dn (List.idxOf_lt_length_iff.mpr h),this]
 ·subst q;have aa:m<ns.length:=(List.getElem?_eq_some_iff.mp he).1;have e1:ns[m]=e:=(List.getElem?_eq_some_iff.mp he).2;have:=List.not_of_lt_findIdx (p:=(· == e)) hm;rw[e1]at this;simp at this
theorem Bs{α:Type}(w a b:α)(r:List α):bI (w::a::b::r) (some 1) (some 3)=[a,b]:=by
 unfold bI;have e1:HT.sIx (w::a::b::r).length 0 (some ((1:Nat):Int))=1:=by rw[HT.sIx_nat];simp
 have e2:∀z,HT.sIx (w::a::b::r).length z (some ((3:Nat):Int))=3:=by intro z;rw[HT.sIx_nat];simp
 simp only[Int.natCast_one]at e1;rw[e1,show (some (3:Int))=some ((3:Nat):Int)from rfl,e2];rfl
theorem OF(t:Str):([dq (-3),dq (-2),dq (-1),dq 1,dq 2,dq 3].any fun y=>y.eqv (lG (aN t)))=tmW t:=by
 unfold tmW;cases aN t with
 |none=>rfl
 |some v=>
  simp only[lG,any_cons,List.any_nil,iX,rl];rw[nj];simp only[Bool.or_eq_true,decide_eq_true_eq];omega
theorem Mz{ws ns:List Str}(hw:∀w∈ws,Wd w)(hn:∀z∈ns,fu z=true)(hl:ns.length<=8)(ag:ws.length<=900)(q:R (.d (.bool (fV ws ns))) []):vS [.d (.list (ws.map be)),.d (.list (ns.map be))] [] R:=by
 unfold vS;walk_at "d";by_cases h5:5<=ws.length/\ws.length % 2=1
 ·obtain⟨w,a,b,r,rfl⟩:=len5 h5.1;have hr:2<=r.length/\r.length % 2=0:=by simp only[cz]at h5;omega
  have eq:fV (w::a::b::r) ns=(cA a b&&cY ns (-1) r):=by show (decide _&&cA a b&&cY ns (-1) r)=_;rw[bx hr];rfl
  rw[eq]at q;have af:=hw a yv;have ai:=hw b yv;walk_at "n";rw[cb yw,cb yw];rw[show bI (be w::be a::be b::li be r) (some 1) (some 3)=[.str a,.str b]from Bs _ _ _ _];refine F2 af ai ?_;cases hs:cA a b with
  |false=>
   rw[hs]at q;walk_at "d";exact q
  |true=>
   rw[hs,jg]at q;walk_at "d"
   walk_at "n"
   refine seq1 ?_;unfold yC;walk_at "d";have al:r.length+3<=900:=by simpa using ag
   refine⟨3,((r.length+1+1+1:Nat):Int),⟨rfl,rfl⟩,yw,yw,?_⟩;refine eU (fun i δ S=>∃(l:Int) (u:Option XV),S=[]/\2*i<=r.length/\cY ns (-1) r=cY ns l (r.drop (2*i))/\δ=[some (.d (.list (be w::be a::be b::li be r))),some (.d (.list (ns.map be))),some (.d (.int l)),u]) ⟨-1,_,rfl,yw,rfl,rfl⟩ ?_ ?_
   ·rintro i d _ _ N hi ⟨l,u,rfl,aj,ht,rfl⟩ hN;obtain⟨am,rfl⟩:=Aa hi;have ae:2*i+1<r.length:=yw
    have g1:r[2*i]?=some r[2*i]:=dn yw;have g2:r[2*i+1]?=some r[2*i+1]:=dn ae;have aa:r.drop (2*i)=r[2*i]::r[2*i+1]::r.drop (2*(i+1)):=by
     rw[jk yw,jk ae];rfl
    generalize r[2*i]=t at g1 aa;generalize r[2*i+1]=z at g2 aa;have mt:Wd t:=hw t (by have:=dh g1;simp[this]);have mz:Wd z:=hw z (by have:=dh g2;simp[this]);have et:cY ns l (r.drop (2*i))=(tmW t&&decide (z∈ns)&&decide (l<(ns.idxOf z:Int))&&cY ns (ns.idxOf z:Int) (r.drop (2*(i+1)))):=by rw[aa];rfl
    rw[et]at ht;have gt:(be w::be a::be b::li be r)[2*i+3]?=some (.str t):=by
     show (li be r)[2*i]?=_;rw[gx,g1];rfl
    have gz:(be w::be a::be b::li be r)[2*i+4]?=some (.str z):=by
     show (li be r)[2*i+1]?=_;rw[gx,g2];rfl
    have ah:atI (be w::be a::be b::li be r) (3+2*(i:Int))=some (.str t):=by
     rw[show 3+2*(i:Int)=((2*i+3:Nat):Int) by omega];exact c6 gt
    have ac:atI (be w::be a::be b::li be r) (3+2*(i:Int)+1)=some (.str z):=by
     rw[show 3+2*(i:Int)+1=((2*i+4:Nat):Int) by omega];exact c6 gz
    walk_at "d";walk_at "n";refine⟨_,ah,AB mt.1 mt.2 ?_⟩;walk_at "d";have hx:(lG (aN t))=.none\/∃v,lG (aN t)=.int v:=by cases aN t<;>simp[lG]
    refine⟨by rcases hx with e|⟨v,e⟩<;>rw[e]<;>rfl,by decide +kernel,?_⟩;rw[OF];cases htm:tmW t with
    |false=>
     rw[htm]at ht;rw[ht]at q;walk_at "d";exact q
    |true=>
     rw[htm,jg]at ht;rw[cb dz];refine⟨_,ac,(cN (n:=0) mz.1).ok,v4 hn,?_⟩;rw[BG];by_cases hm:z∈ns
     ·rw[bx hm,jg]at ht;rw[bx hm,cb dz];obtain⟨m1,m2,m3⟩:=wH hm;have ak:∃j,(∃e,(ns.map be)[j]?=some e/\jc e (.str z)=true)/\(∀m e,m<j->(ns.map be)[m]?=some e->jc e (.str z)=false)/\j=ns.idxOf z:=by
       refine⟨ns.idxOf z,⟨_,by rw[gx,m2];rfl,by rw[cW];simp⟩,fun m e hm he=>?_,rfl⟩;obtain⟨y,ey,rfl⟩:=iM he;rw[cW,decide_eq_false_iff_not];exact m3 m y hm ey
      obtain⟨j,j1,j2,ej⟩:=ak;walk_at "n";refine⟨_,ac,(cN (n:=0) mz.1).ok,v4 hn,yw,j,j1,j2,?_⟩;by_cases hjl:(j:Int)<=l
      ·rw[cm hjl];rw[bu (by rw[<- ej];omega),ph]at ht;rw[ht]at q;exact q
      ·rw[cb hjl];rw[bx (by rw[<- ej];omega),jg]at ht;refine⟨_,ac,(cN (n:=0) mz.1).ok,v4 hn,yw,j,j1,j2,hN _ _ ⟨_,_,rfl,yw,?_,rfl⟩⟩;rw[ht,ej]
     ·rw[bu hm]at ht;rw[ht]at q;rw[bu hm];walk_at "d";exact q
   ·rintro _ _ ⟨l,u,rfl,aj,ht,rfl⟩;walk_at "d";have el:(up2D 3 ((((r.length+1+1+1:Nat):Int)-3+1)/2).toNat).length=r.length/2:=by
     unfold up2D;rw[cg,List.length_range];omega
    rw[el,show 2*(r.length/2)=r.length by omega,qy]at ht;rw[ht]at q;exact q
 ·rw[GY h5]at q;walk_at "n";by_cases h1:5<=ws.length
  ·rw[cb yw,cm yw];exact q
  ·rw[cm yw];exact q
theorem NX{ps:List Part}{z:Str}(h:PsT ps)(oz:fu z=true)(q:z∈ps.map (·.1)->R (.d (.int ((ps.map (·.1)).idxOf z:Nat))) [])(qx:z∉ps.map (·.1)->EX 49 []):wZ [.d (aL ps),.d (.str z)] [] R EX:=by
 have l8:=h.l8;have s1:dy (.str z)=true:=(cN (n:=0) oz).ok;have s2:dy (.list (ps.map fun p:Part=>be p.1))=true:=Ma fun p m=>(h.all p m).ok;have em:(ps.map fun p:Part=>be p.1)=(ps.map (·.1)).map be:=by rw[map_map];rfl
 unfold wZ aL;walk_at "d";walk_at "n";refine cmp1 (S0:=[]) (h:=cG) (fun p:Part=>.str p.1) rfl ps yw ?_ ?_
 ·intro p mp u acc R' hk;rw[iA];walk_at "d";exact hk _
 ·walk_at "d";walk_at "n";refine⟨s1,s2,?_⟩;rw[em,BG];by_cases hm:z∈ps.map (·.1)
  ·rw[bx hm];walk_at "d";obtain⟨m1,m2,m3⟩:=wH hm;rw[em]at s2;refine⟨s1,s2,by simpa using (by omega:ps.length<=1000),_,⟨_,by rw[gx,m2];rfl,by rw[cW];simp⟩,fun m e hm he=>?_,q hm⟩;obtain⟨y,ey,rfl⟩:=iM he;rw[cW,decide_eq_false_iff_not];exact m3 m y hm ey
  ·rw[bu hm];walk_at "d";exact qx hm
def two(p:Str×Str):List Str:=[p.1,p.2]
theorem BW:∀(n:Nat) (r:List Str),r.length=2*n->∃prs:List (Str×Str),r=prs.flatMap two/\prs.length=n
 | 0,r,h=>⟨[],by rw[gm h];rfl,rfl⟩
 |n+1,t::z::r,h=>by
  obtain⟨prs,e,l⟩:=BW n r (by simp only[cz]at h;omega);exact⟨(t,z)::prs,by rw[e];rfl,by simp[l]⟩
 |n+1,[_],h=>by simp at h;omega
 |n+1,[],h=>by simp at h
theorem pX{α β:Type}{f:α->Option β}:∀{l:List α}{ds:List β},jJ f l=some ds->(∀x∈l,∃d,f x=some d)/\∀g:α->β,(∀x∈l,∀d,f x=some d->g x=d)->ds=l.map g
 | [],ds,h=>by cases h;exact⟨yv,fun _ _=>rfl⟩
 |x::l,ds,h=>by
  unfold jJ at h;split at h
  ·rename_i d r h1 h2;cases h;obtain⟨i1,i2⟩:=pX h2;refine⟨fun y m=>?_,fun g hg=>?_⟩
   ·rcases mem_cons.mp m with rfl|m
    ·exact⟨d,h1⟩
    ·exact i1 y m
   ·rw[gk,hg x cw d h1,i2 g fun y m=>hg y (cn _ m)]
  ·cases h
theorem DC{ns:List Str}:∀{prs:List (Str×Str)}{l:Int},(∃p∈prs,tmW p.1=false\/p.2∉ns)->cY ns l (prs.flatMap two)=false
 | [],_,⟨p,m,_⟩=>by cases m
 | (t,z)::prs,l,⟨p,m,h⟩=>by
  show (tmW t&&decide (z∈ns)&&decide (l<(ns.idxOf z:Int))&&cY ns (ns.idxOf z:Int) (prs.flatMap two))=false;rcases mem_cons.mp m with rfl|m
  ·rcases h with h|h
   ·rw[h];rfl
   ·rw[bu h];simp
  ·rw[DC ⟨p,m,h⟩,Bool.and_false]
def bE(ns:List Str)(p:Str×Str):Term:=(ns.idxOf p.2,(aN p.1).getD 0)
theorem Dj{ns:List Str}{n:Nat}(hn:n=ns.length):∀{prs:List (Str×Str)}{l:Int},(∀p∈prs,(∃v,aN p.1=some v)/\p.2∈ns)->upB n l (prs.map fun p=>tmD (bE ns p))=cY ns l (prs.flatMap two)
 | [],_,_=>rfl
 | (t,z)::prs,l,h=>by
  obtain⟨⟨v,hv⟩,hz⟩:=h (t,z) cw;have ih:=Dj hn (prs:=prs) (l:=(ns.idxOf z:Int)) fun p m=>h p (cn _ m);show (dX n (tmD (bE ns (t,z)))&&decide (l<gK (tmD (bE ns (t,z))))&&upB n (gK (tmD (bE ns (t,z)))) (prs.map fun p=>tmD (bE ns p)))=(tmW t&&decide (z∈ns)&&decide (l<(ns.idxOf z:Int))&&cY ns (ns.idxOf z:Int) (prs.flatMap two));rw[show gK (tmD (bE ns (t,z)))=(ns.idxOf z:Int)from rfl,ih,bx hz,Bool.and_true];have e1:dX n (tmD (bE ns (t,z)))=tmW t:=by
   have e2:bE ns (t,z)=(ns.idxOf z,v):=by unfold bE;rw[hv];rfl
   rw[e2];have:ns.idxOf z<ns.length:=(wH hz).1;show (decide (0<=((ns.idxOf z:Nat):Int)/\((ns.idxOf z:Nat):Int)<n)&&decide (v = -3\/v = -2\/v = -1\/v=1\/v=2\/v=3))=tmW t;rw[bx yw,jg];unfold tmW;rw[hv]
  rw[e1]
theorem Ao{n:Nat}:∀{ts:List Term}{l:Int},upB n l (ts.map tmD)=true->(∀t∈ts,t.1<n/\t.2≠0/\-3<=t.2/\t.2<=3)/\(ts.Pairwise fun t u=>t.1<u.1)/\(∀t∈ts,l<t.1)/\(-1<=l->l+ts.length<n\/ts=[])
 | [],_,_=>⟨yv,.nil,yv,fun _=>.inr rfl⟩
 |t::ts,l,h=>by
  have h':(dX n (tmD t)&&decide (l<gK (tmD t))&&upB n (gK (tmD t)) (ts.map tmD))=true:=h;rw[cy,cy,decide_eq_true_eq,show gK (tmD t)=(t.1:Int)from rfl]at h';obtain⟨⟨h1,h2⟩,h3⟩:=h';have aa:(decide (0<=(t.1:Int)/\(t.1:Int)<n)&&decide (t.2 = -3\/t.2 = -2\/t.2 = -1\/t.2=1\/t.2=2\/t.2=3))=true:=h1;rw[cy,decide_eq_true_eq,decide_eq_true_eq]at aa;obtain⟨i1,i2,i3,i4⟩:=Ao h3;refine⟨fun u m=>?_,?_,fun u m=>?_,fun hl=>.inl ?_⟩
  ·rcases mem_cons.mp m with rfl|m
   ·omega
   ·exact i1 u m
  ·rw[List.pairwise_cons];exact⟨fun u m=>by have:=i3 u m;omega,i2⟩
  ·rcases mem_cons.mp m with rfl|m
   ·exact h2
   ·have:=i3 u m;omega
  ·rw[cz];rcases i4 yw with q|q
   ·omega
   ·rw[q];simp;omega
theorem E4{α β:Type}{f g:α->List β}:∀{l:List α},(∀x∈l,f x=g x)->l.flatMap f=l.flatMap g
 | [],_=>rfl
 |x::l,h=>by
  rw[pc,pc,h x cw,E4 fun y m=>h y (cn _ m)]
theorem J5{ps:List Part}{gs:List Gap}{ws:List Str}(h:PsT ps)(a2:gs.length<=6)(hw:∀w∈ws,Wd w)(av:ws.length<=900)
  (q:fV ws (ps.map (·.1))=true->gs.length<6->∀g:Gap,(∃w,ws=w::cT ps g g.ts)->GapR ps.length g->R (.d (dZ (gs++[g]))) [])
  (qx:¬(fV ws (ps.map (·.1))=true/\gs.length<6)->∀D∈Cs4,∀fs,EX D fs):sS [.d (aL ps),.d (dZ gs),.d (.list (ws.map be))] [] R EX:=by
 have l8:=h.l8;unfold sS dZ;by_cases h5:5<=ws.length/\ws.length % 2=1
 ·obtain⟨w,a,b,r,rfl⟩:=len5 h5.1;have hr:2<=r.length/\r.length % 2=0:=by simp only[cz]at h5;omega
  obtain⟨prs,er,lr⟩:=BW (r.length/2) r yw;generalize hns:ps.map (·.1)=ns at q qx;have ap:ps.length=ns.length:=by rw[<- hns,cg]
  have eq:fV (w::a::b::r) ns=(cA a b&&cY ns (-1) (prs.flatMap two)):=by show (decide _&&cA a b&&cY ns (-1) r)=_;rw[bx hr,er];rfl
  rw[eq]at q qx;have a1:=hw a yv;have a0:=hw b yv;have az:r.length+3<=900:=by simpa using av
  have lp:prs.length<=450:=yw
  have ag:∀p∈prs,Wd p.1/\Wd p.2:=fun p m=>by
   have m1:p.1∈r:=by rw[er];exact mem_flatMap.mpr ⟨p,m,by simp[two]⟩
   have m2:p.2∈r:=by rw[er];exact mem_flatMap.mpr ⟨p,m,by simp[two]⟩
   exact⟨hw _ (by simp[m1]),hw _ (by simp[m2])⟩
  have ac:(∃p∈prs,tmW p.1=false\/p.2∉ns)->∀D∈Cs4,∀fs,EX D fs:=fun hh=>qx fun z=>by rw[DC hh,Bool.and_false]at z;exact absurd z.1 yv
  have am:cA a b=false->∀D∈Cs4,∀fs,EX D fs:=fun hh=>qx fun z=>by rw[hh]at z;exact absurd z.1 yv
  have ew:li be (w::a::b::r)=.str w::.str a::.str b::li be r:=rfl;have c1:bI (li be (w::a::b::r)) (some 1) (some 3)=[a,b].map be:=by rw[ew,Bs];rfl
  have aj:li be r=prs.flatMap fun p=>[be p.1,be p.2]:=by rw[er];unfold two;rw[LJ];rfl
  have c3:evens ((li be (w::a::b::r)).drop 3)=prs.map fun p=>be p.1:=by
   rw[ew,aj];exact Ct _ _ _
  have c4:evens ((li be (w::a::b::r)).drop 4)=prs.map fun p=>be p.2:=by
   rw[ew,aj];exact Gf _ _ _
  have lW:(li be (w::a::b::r)).length=r.length+3:=by simp
  generalize hW:li be (w::a::b::r)=W at c1 c3 c4 lW ⊢;walk_at "n";rw[lW,cb yw,cb yw];walk_at "n";rw[c1];refine cmpo (S0:=[]) (h:=be) (fun w=>(aN w).map dq) rfl [a,b] yv ?_ fun ds ah=>?_
  ·intro x mx u acc R' hk;have aa:Wd x:=by
    simp only[jt,ia,or_false]at mx;rcases mx with rfl|rfl<;>assumption
   walk_at "d";refine uX aa.1 (by have:=aa.2;omega) (fun i hi=>?_) fun hi=>?_
   ·walk_at "d";exact hk _ (by rw[hi];rfl) _
   ·refine am ?_ 73 dz _;simp only[jt,ia,or_false]at mx;unfold cA;rcases mx with rfl|rfl
    ·rw[hi]
    ·rw[hi];cases aN a<;>rfl
  obtain⟨d1,_⟩:=pX ah;obtain⟨x,hx⟩:∃x,aN a=some x:=by
   obtain⟨d,hd⟩:=d1 a yv;cases z:aN a with
   |none=>rw[z]at hd;cases hd
   |some x=>exact⟨x,rfl⟩
  obtain⟨y,hy⟩:∃y,aN b=some y:=by
   obtain⟨d,hd⟩:=d1 b yv;cases z:aN b with
   |none=>rw[z]at hd;cases hd
   |some x=>exact⟨x,rfl⟩
  have al:ds=[.int x,.int y]:=by
   have:jJ (fun w=>(aN w).map dq) [a,b]=some [.int x,.int y]:=by simp[jJ,hx,hy]
   rw[this]at ah;exact(fg ah).symm
  subst al;walk_at "d";walk_at "n";refine⟨3,W,rfl,rfl,?_⟩;rw[c3];refine cmpo (S0:=[]) (h:=fun p:Str×Str=>be p.1) (fun p=>(aN p.1).map dq) rfl prs yw ?_ fun ts ay=>?_
  ·intro p mp u acc R' hk;have aa:=(ag p mp).1;walk_at "d";refine uX aa.1 (by have:=aa.2;omega) (fun i hi=>?_) fun hi=>?_
   ·walk_at "d";exact hk _ (by rw[hi];rfl) _
   ·refine ac ⟨p,mp,.inl ?_⟩ 73 dz _;unfold tmW;rw[hi]
  obtain⟨t1,t2⟩:=pX ay;have t3:∀p∈prs,∃v,aN p.1=some v:=fun p m=>by
   obtain⟨d,hd⟩:=t1 p m;cases z:aN p.1 with
   |none=>rw[z]at hd;cases hd
   |some x=>exact⟨x,rfl⟩
  have ao:ts=prs.map fun p=>dq (bE ns p).2:=t2 _ fun p m d hd=>by
   obtain⟨v,hv⟩:=t3 p m;rw[hv]at hd;cases hd;unfold bE;rw[hv];rfl
  subst ao;walk_at "d";walk_at "n";refine⟨4,W,rfl,rfl,?_⟩;rw[c4];refine cmpo (S0:=[]) (h:=fun p:Str×Str=>be p.2) (fun p=>if bK p.2=true then some (be p.2)else none) rfl prs yw ?_ fun ss ax=>?_
  ·intro p mp u acc R' hk;have aa:=(ag p mp).2;walk_at "d";refine G4 (by have:=aa.2;omega) (fun hi=>?_) fun hi=>?_
   ·walk_at "d";exact hk _ (by rw[cm hi]) _
   ·refine ac ⟨p,mp,.inr fun m=>?_⟩ 73 dz _;rw[<- hns]at m;obtain⟨pt,aw,e⟩:=mem_map.mp m;have:=(h.all pt aw).nm;rw[e,hi]at this;cases this
  obtain⟨n1,n2⟩:=pX ax;have ak:ss=prs.map fun p=>be p.2:=n2 _ fun p m d hd=>by
   split at hd
   ·cases hd;rfl
   ·cases hd
  subst ak;walk_at "d";walk_at "n";refine cmpo (S0:=[]) (h:=fun p:Str×Str=>be p.2) (fun p=>if p.2∈ns then some (dq (ns.idxOf p.2:Nat))else none) rfl prs yw ?_ fun ks au=>?_
  ·intro p mp u acc R' hk;have aa:=(ag p mp).2;walk_at "d";refine NX h aa.1 (fun hi=>?_) fun hi=>?_
   ·walk_at "d";rw[hns]at hi ⊢;exact hk _ (by rw[cm hi]) _
   ·rw[hns]at hi;exact ac ⟨p,mp,.inr hi⟩ 49 dz _
  obtain⟨k1,k2⟩:=pX au;have k3:∀p∈prs,p.2∈ns:=fun p m=>by
   obtain⟨d,hd⟩:=k1 p m;split at hd
   ·assumption
   ·cases hd
  have ai:ks=prs.map fun p=>dq ((bE ns p).1:Int):=k2 _ fun p m d hd=>by
   rw[cm (k3 p m)]at hd;cases hd;rfl
  subst ai;walk_at "d";walk_at "n";refine⟨yw,?_⟩;have as:(prs.map fun p=>dq ((bE ns p).1:Int))=(prs.map (bE ns)).map fun t:Term=>dq (t.1:Int):=by rw[map_map];rfl
  have aq:(prs.map fun p=>dq (bE ns p).2)=(prs.map (bE ns)).map fun t:Term=>dq t.2:=by rw[map_map];rfl
  rw[as,aq,Gn];have eg:rf [.tuple ((prs.map (bE ns)).map tmD),.int x,.int y]=cO ⟨prs.map (bE ns),x,y⟩:=rfl;rw[eg];walk_at "n";by_cases h6:gs.length=6
  ·rw[cm yw];exact qx (fun z=>by omega) 123 dz _
  ·rw[cb yw];refine NB ?_;obtain⟨ea,na⟩:=rK hx;obtain⟨eb,nb⟩:=rK hy;have an:cA a b=decide (x<=y):=by unfold cA;rw[hx,hy]
   have ae:upB ps.length (-1) ((prs.map (bE ns)).map tmD)=cY ns (-1) (prs.flatMap two):=by rw[map_map];exact Dj ap fun p m=>⟨t3 p m,k3 p m⟩
   have ar:uF ps.length (cO ⟨prs.map (bE ns),x,y⟩)=(cA a b&&cY ns (-1) (prs.flatMap two)):=by
    show ((decide (1<=((prs.map (bE ns)).map tmD).length/\((prs.map (bE ns)).map tmD).length<=8)&&upB ps.length (-1) ((prs.map (bE ns)).map tmD))&&fM (.int x) (.int y))=_;rw[Fi na nb,<- an,ae];cases ht:cY ns (-1) (prs.flatMap two)with
    |false=>simp
    |true=>
     rw[ht]at ae;have:=(Ao ae).2.2.2 yw;have l8:prs.length<=8:=by
      rcases this with z|z
      ·rw[cg]at z;omega
      ·have:=congrArg sr z;rw[cg,length_nil]at this;omega
     rw[bx (by rw[cg,cg];omega)];simp
   rw[ar];cases hb:cA a b&&cY ns (-1) (prs.flatMap two)with
   |false=>
    walk_at "d";exact qx (fun z=>by rw[hb]at z;exact absurd z.1 yv) 123 dz _
   |true=>
    walk_at "d";have af:=hb;rw[cy]at af;rw[af.2]at ae;obtain⟨f1,f2,_,f4⟩:=Ao ae;have ef:rf (gs.map cO++[cO ⟨prs.map (bE ns),x,y⟩])=dZ (gs++[⟨prs.map (bE ns),x,y⟩]):=by
     unfold dZ;rw[gu];rfl
    refine⟨yw,?_⟩;rw[ef];refine q hb yw ⟨prs.map (bE ns),x,y⟩ ⟨w,?_⟩ ⟨⟨⟨?_,?_,f1,f2⟩,?_⟩,na,nb⟩
    ·show w::a::b::r=w::(nS x::nS y::(prs.map (bE ns)).flatMap fun t=>[nS t.2,(part ps t.1).1]);rw[<- ea,<- eb,er];congr 3;rw[List.flatMap_map];refine E4 fun p m=>?_;obtain⟨v,hv⟩:=t3 p m;have e2:bE ns p=(ns.idxOf p.2,v):=by unfold bE;rw[hv];rfl
     rw[e2];obtain⟨i1,i2,_⟩:=wH (k3 p m);have e3:(part ps (ns.idxOf p.2)).1=p.2:=by
      have:=rO (ps:=ps) (k:=ns.idxOf p.2) yw;rw[<- hns,gx,hns,this]at i2;exact fg i2
     show two p=[nS v,(part ps (ns.idxOf p.2)).1];rw[e3,<- (rK hv).1];rfl
    ·intro z;have:=congrArg sr z;rw[cg]at this;simp at this;rw[this]at lr;simp at lr;omega
    ·show (prs.map (bE ns)).length<=ps.length;rcases f4 yw with z|z
     ·omega
     ·rw[z];simp
    ·show x<=y;rw[an]at af;exact kz af.1
 ·have ac:=qx fun z=>by rw[GY h5]at z;exact absurd z.1 dz
  walk_at "n";by_cases h1:5<=ws.length
  ·rw[cb yw,cm yw];exact ac 73 dz _
  ·rw[cm yw];exact ac 73 dz _
end
section
variable {R:RX}{EX:EXD}
theorem BX(c:Nat):∀{l:List Str},(∀w∈l,(∀d∈w.cps.toList,d∈(jm ⟨#[c]⟩ l).cps.toList)/\w.cps.toList.length<=(jm ⟨#[c]⟩ l).cps.toList.length)/\l.length<=(jm ⟨#[c]⟩ l).cps.toList.length+1
 | []=>⟨yv,yv⟩
 | [a]=>⟨fun w m=>by rw[mem_singleton.mp m];exact⟨fun d m=>m,fe _⟩,yv⟩
 |a::b::r=>by
  obtain⟨h1,h2⟩:=BX c (l:=b::r);rw[mO];refine⟨fun w m=>?_,?_⟩
  ·rcases mem_cons.mp m with rfl|m
   ·exact⟨fun d m=>fk _ m,by rw[cq];omega⟩
   ·obtain⟨i1,i2⟩:=h1 w m;exact⟨fun d m=>fh _ (cn _ (i1 d m)),by rw[cq,cz];omega⟩
  ·rw[cq,cz];simp only[cz]at h2 ⊢;omega
structure RowW(r:Str):Prop where
 ok:fu r=true
 len:r.length<=100000
 ws:(PySem.Txt.split r " ").length<=900
theorem RowW.words{r:Str}(h:RowW r):(∀w∈PySem.Txt.split r " ",Wd w)/\(PySem.Txt.split r " ").length<=900:=by
 have e:jm ⟨#[32]⟩ (PySem.Txt.split r " ")=r:=qf _ _;obtain⟨h1,h2⟩:=BX 32 (l:=PySem.Txt.split r " ");rw[e]at h1 h2;have hl:=h.len;have hc:=eP r;refine⟨fun w m=>?_,h.ws⟩;obtain⟨i1,i2⟩:=h1 w m;refine⟨gS fun c mc=>kL h.ok (i1 c mc),?_⟩;rw[<- eP];omega
abbrev zY (r:Str):List Str:=PySem.Txt.split r " "
theorem FT(r:Str):∃w l,zY r=w::l:=by
 have:=PyProof.Rows.split_pos r " ";cases h:zY r with
 |nil=>unfold zY at h;rw[h]at this;simp at this
 |cons w l=>exact⟨w,l,rfl⟩
def pB(r:Str)(ns:List Str)(aa:Nat):Bool:=decide ((zY r).head?=some ("part":Str))&&decide (aa=0)&&eK (zY r) ns
def gB(r:Str)(ns:List Str)(aa:Nat):Bool:=decide ((zY r).head?=some ("gap":Str))&&decide (aa<6)&&fV (zY r) ns
def eY:List Str->List Str->Nat->Nat->Option Nat
 | [],_,many,i=>if many=0 then some (i+1)else none
 |r::rs,ns,many,i=>if pB r ns many=true then eY rs (ns++[(zY r).getD 1 ""]) many (i+1)else if gB r ns many=true then eY rs ns (many+1) (i+1)else some (i+1)
def Step(ps:List Part)(gs:List Gap)(r:Str)(ac:List Part)(aa:List Gap):Prop:=
 (pB r (ps.map (·.1)) gs.length=true/\gs=[]/\aa=[]/\∃p:Part,ac=ps++[p]/\r=prow p/\(zY r).getD 1 "" = p.1/\PrtT p/\p.1∉ps.map (·.1)/\ps.length<8) \/
 (pB r (ps.map (·.1)) gs.length=false/\gB r (ps.map (·.1)) gs.length=true/\ac=ps/\gs.length<6/\∃g,aa=gs++[g]/\r=grow ps g g.ts/\GapR ps.length g)
theorem N2:("part":Str)≠("gap":Str):=by decide +kernel
theorem Mr{ps:List Part}{gs:List Gap}{r:Str}(h:PsT ps)(ah:gs.length<=6)(hr:RowW r)(q:∀ps' gs',Step ps gs r ps' gs'->R (.d (jbD ps' gs')) [])(qx:pB r (ps.map (·.1)) gs.length=false->gB r (ps.map (·.1)) gs.length=false->∀D∈Cs4,∀fs,EX D fs):
  v6 [.d (jbD ps gs),.d (.list ((zY r).map be))] [] R EX:=by
 obtain⟨hw,ag⟩:=hr.words;obtain⟨w,l,ew⟩:=FT r;have ej:jm ⟨#[32]⟩ (zY r)=r:=qf _ _;have ae:=hw w (by show w∈zY r;rw[ew];exact cw);have eW:(zY r).map be=.str w::l.map be:=by rw[ew];rfl
 have aa:(zY r).head?=some w:=by rw[ew];rfl
 have e0:atI ((zY r).map be) 0=some (.str w):=by rw[eW];exact c6 (j:=0) rfl
 have ge:(gs.map cO).isEmpty=decide (gs=[]):=by cases gs<;>simp
 unfold v6 jbD dZ;walk_at "n";refine⟨_,e0,(cN (n:=0) ae.1).ok,by decide +kernel,?_⟩;rw[cW];have ac:pB r (ps.map (·.1)) gs.length=false->zR (aD (dB (dOp aH (dOp dIx (zh 1) (dC (dq 0))) (dC (be (dw "gap"))))) (aC (bJ (zc (dOp dIx (zh 0) (dC (dq 0))) (zc (dD EX 3 sS (zc (dOp dIx (zh 0) (dC (dq 0))) (zc (dOp dIx (zh 0) (dC (dq 1))) (zc (zh 1) zp)))) zp)))) aE) (fE EX 73) (aG 0 R)
   [some (XV.d (rf [aL ps,rf (li cO gs)])),some (XV.d (PyData.list (li be (zY r))))] []:=fun hp=>by
  walk_at "n";refine⟨_,e0,(cN (n:=0) ae.1).ok,by decide +kernel,?_⟩;rw[cW];by_cases hg:w=("gap":Str)
  ·rw[bx hg,cm rfl];have eg:gB r (ps.map (·.1)) gs.length=(decide (gs.length<6)&&fV (zY r) (ps.map (·.1))):=by
    unfold gB;rw[aa,hg,bx rfl];rfl
   refine J5 h ah hw ag (fun hb h6 g ⟨w',e⟩ hR=>?_) fun af=>?_
   ·walk_at "d";refine q ps (gs++[g]) (.inr ⟨hp,by rw[eg,hb,bx h6];rfl,rfl,h6,g,rfl,?_,hR⟩);have:w'=("gap":Str):=by
     rw[ew]at e;rw[<- (mj e).1,hg]
    rw[<- ej,e,this];exact(vV _ _ _)
   ·refine qx hp ?_;rw[eg];cases hb:fV (zY r) (ps.map (·.1))with
    |false=>simp
    |true=>
     rw[bu fun z=>af ⟨hb,z⟩];rfl
  ·rw[bu hg];walk_at "d";refine qx hp ?_ 73 dz _;unfold gB;rw[aa,bu fun z=>hg (fg z)];rfl
 rw[ge];by_cases hp:w=("part":Str)
 ·rw[bx hp,cm rfl];by_cases hg:gs=[]
  ·subst hg;have ep:pB r (ps.map (·.1)) 0=eK (zY r) (ps.map (·.1)):=by
    unfold pB;rw[aa,hp,bx rfl];rfl
   rw[cm yv];refine KZ h hw (fun hb p ⟨w',e⟩ hP hm h8=>?_) fun hb=>?_
   ·walk_at "d";refine q (ps++[p]) [] (.inl ⟨by show pB r _ 0=true;rw[ep,hb],rfl,rfl,p,rfl,?_,by rw[e];rfl,hP,hm,h8⟩);have:w'=("part":Str):=by
     rw[ew]at e;rw[<- (mj e).1,hp]
    rw[<- ej,e,this];exact(vV _ _ _)
   ·refine qx (by show pB r _ 0=false;rw[ep,hb]) ?_;unfold gB;rw[aa,hp,bu fun z=>N2 (fg z)];rfl
  ·rw[cb (by simp[hg])];refine ac ?_;unfold pB;rw[bu (p:=gs.length=0) fun z=>hg (gm z)];simp
 ·rw[bu hp];refine ac ?_;unfold pB;rw[aa,bu fun z=>hp (fg z)];rfl
def qF:Option Nat->bg
 |some n=>.int n
 |none=>.none
theorem Mb{r:Str}{ns:List Str}(h:eK (zY r) ns=true):ns.length≠8/\∃w z l,zY r=w::z::l/\(zY r).getD 1 "" = z:=by
 have h':=h;unfold eK at h';split at h'
 ·rename_i w z a b e;simp only[cy,decide_eq_true_eq]at h';exact⟨h'.1.2,w,z,[a,b],e,by rw[e];rfl⟩
 ·cases h'
theorem Hn{z:Str}(zl:z.length<=100000)(hl:(PySem.Txt.split z "\n").length<=900)(hr:∀r∈PySem.Txt.split z "\n",RowW r)(q:R (.d (qF (eY (PySem.Txt.split z "\n") [] 0 0))) []):wQ [.d (.str z)] [] R:=by
 unfold wQ;generalize hrows:PySem.Txt.split z "\n" = rows at hl hr q;walk_at "d"
 walk_at "n"
 walk_at "n"
 walk_at "n";refine⟨by decide +kernel,zl,?_⟩;rw[hrows];walk_at "n";refine eU (fun i δ S=>∃(ns:List Str) (aa:Nat) (u4 u5:Option XV),S=[ns.map be]/\(∀y∈ns,fu y=true)/\ns.length<=8/\aa<=6/\eY rows [] 0 0=eY (rows.drop i) ns aa i/\δ=[some (.d (.str z)),some (.l 0),some (.d (.int (aa:Nat))),some (.d (.list (rows.map be))),u4,u5]) ⟨[],0,_,_,rfl,yv,yv,yv,rfl,rfl⟩ ?_ ?_
 ·rintro i d _ _ N hi ⟨ns,aa,u4,u5,rfl,ho,h8,h6,hd,rfl⟩ hN;obtain⟨aj,rfl⟩:=oC hi;have ae:i<rows.length:=by simpa using aj
  have ei:rows[i]?=some rows[i]:=dn ae;have mi:rows[i]∈rows:=getElem_mem ae;rw[jk ae]at hd;generalize rows[i]=r at ei mi hd;have af:=hr r mi;obtain⟨hw,ac⟩:=af.words;obtain⟨w,l,ew⟩:=FT r;have ah:=hw w (by show w∈zY r;rw[ew];exact cw);have eW:(zY r).map be=.str w::l.map be:=by rw[ew];rfl
  have ai:(zY r).head?=some w:=by rw[ew];rfl
  have e0:atI ((zY r).map be) 0=some (.str w):=by rw[eW];exact c6 (j:=0) rfl
  have ar:atI (rows.map be) (0+(i:Int))=some (.str r):=by
   rw[Int.zero_add];exact c6 (j:=i) (by rw[gx,ei];rfl)
  walk_at "d";walk_at "n";refine⟨_,ar,?_⟩;walk_at "d";refine⟨by decide +kernel,by have:=af.len;omega,?_⟩;walk_at "d";refine⟨_,e0,(cN (n:=0) ah.1).ok,by decide +kernel,?_⟩;rw[cW];have ep:pB r ns aa=(decide (w=("part":Str))&&decide (aa=0)&&eK (zY r) ns):=by
   unfold pB;rw[ai];congr 2;exact decide_eq_decide.mpr ⟨fg,congrArg _⟩
  have eg:gB r ns aa=(decide (w=("gap":Str))&&decide (aa<6)&&fV (zY r) ns):=by
   unfold gB;rw[ai];congr 2;exact decide_eq_decide.mpr ⟨fg,congrArg _⟩
  rw[eY]at hd;cases hp:pB r ns aa with
  |true=>
   rw[cm hp]at hd;have ag:=hp;rw[ep,cy,cy,decide_eq_true_eq,decide_eq_true_eq]at ag;obtain⟨⟨h1,h2⟩,h3⟩:=ag;obtain⟨n8,w',y,l',e2,e3⟩:=Mb h3;rw[bx h1,cm rfl,cm yw];refine CU hw ho h8 ac ?_;rw[show eK (PySem.Txt.split r (dw " ")) ns=true from h3];walk_at "d";refine⟨rfl,.str y,?_,yw,hN _ _ ⟨ns++[y],aa,_,_,?_,fun v m=>?_,by rw[cq,gb];omega,h6,?_,rfl⟩⟩
   ·show atI ((zY r).map be) 1=_;rw[e2];exact c6 (j:=1) rfl
   ·rw[gu];rfl
   ·rcases mem_append.mp m with m|m
    ·exact ho v m
    ·rw[mem_singleton.mp m];exact(hw y (by show y∈zY r;rw[e2];simp)).1
   ·rw[hd,e3]
  |false=>
   rw[cb (by rw[hp];decide)]at hd;have hc:w≠("part":Str)\/(w=("part":Str)/\aa≠0)\/(w=("part":Str)/\aa=0/\eK (zY r) ns=false):=by
    rw[ep]at hp;by_cases a1:w=("part":Str)
    ·by_cases a2:aa=0
     ·rw[bx a1,bx a2]at hp;exact .inr (.inr ⟨a1,a2,by simpa using hp⟩)
     ·exact .inr (.inl ⟨a1,a2⟩)
    ·exact .inl a1
   rcases hc with h1|⟨h1,h2⟩|⟨h1,h2,h3⟩
   case' inl=>
    rw[bu h1,cb dz]
   case' inr.inl=>
    rw[bx h1,cm rfl,cb yw]
   case' inr.inr=>
    rw[bx h1,cm rfl,cm yw];refine CU hw ho h8 ac ?_;rw[show eK (PySem.Txt.split r (dw " ")) ns=false from h3];walk_at "d";refine⟨rfl,?_⟩
   all_goals
    refine⟨_,e0,(cN (n:=0) ah.1).ok,by decide +kernel,?_⟩;rw[cW];rw[Int.zero_add];by_cases hg:w=("gap":Str)
    ·rw[bx hg,cm rfl];rw[bx hg,jg]at eg;by_cases g6:aa<6
     ·rw[cm yw];rw[bx g6,jg]at eg;refine Mz hw ho h8 ac ?_;cases hgb:fV (zY r) ns with
      |true=>
       rw[hgb]at eg;rw[cm eg]at hd;walk_at "d";exact⟨rfl,hN _ _ ⟨ns,aa+1,_,_,rfl,ho,h8,yw,hd,by rw[Int.natCast_add];rfl⟩⟩
      |false=>
       rw[hgb]at eg;rw[cb (by rw[eg];simp)]at hd;rw[hd]at q;walk_at "d";exact⟨rfl,by simpa[qF]using q⟩
     ·rw[cb yw];rw[bu g6,ph]at eg;rw[cb (by rw[eg];simp)]at hd;rw[hd]at q;simpa[qF]using q
    ·rw[bu hg,cb dz];rw[bu hg,ph]at eg;rw[cb (by rw[eg];simp)]at hd;rw[hd]at q;simpa[qF]using q
 ·rintro _ _ ⟨ns,aa,u4,u5,rfl,ho,h8,h6,hd,rfl⟩;rw[nA]at hd;have e:rows.drop ((rows.length:Int)).toNat=[]:=by simp
  rw[e]at hd;walk_at "d";walk_at "n";rw[hd]at q;have e2:((rows.length:Int)).toNat=rows.length:=yw
  unfold eY at q;by_cases hm:aa=0
  ·rw[cm yw];rw[cm hm,e2]at q;simpa[qF]using q
  ·rw[cb yw];rw[cb hm]at q;exact q
theorem J0{z:Str}(zl:z.length<=100000)(hl:(PySem.Txt.split z "\n").length<=900)(hr:∀r∈PySem.Txt.split z "\n",RowW r)
  (q:eY (PySem.Txt.split z "\n") [] 0 0=none->∀ps gs,z=text ps gs->PsT ps->(∀g∈gs,GapR ps.length g)->1<=gs.length->gs.length<=6->R (.d (jbD ps gs)) [])
  (qx:∀n,eY (PySem.Txt.split z "\n") [] 0 0=some n->EX 161 [("row",.int (n:Nat))]):oZ [.d (.str z)] [] R EX:=by
 have ej:PySem.Txt.join "\n" (PySem.Txt.split z "\n")=z:=(jb ..).trans (qf _ _);unfold oZ;generalize hrows:PySem.Txt.split z "\n" = rows at hl hr q qx ej;walk_at "n";walk_at "n";refine⟨by decide +kernel,zl,?_⟩;rw[hrows];walk_at "n";walk_at "n";refine eU (fun i δ S=>∃(ps:List Part) (gs:List Gap) (u3 u4:Option XV),S=[]/\PsT ps/\gs.length<=6/\(∀g∈gs,GapR ps.length g)/\rows.take i=ps.map prow++gs.map (fun g=>grow ps g g.ts)/\eY rows [] 0 0=eY (rows.drop i) (ps.map (·.1)) gs.length i/\δ=[some (.d (.str z)),some (.d (.list (rows.map be))),some (.d (jbD ps gs)),u3,u4]) ⟨[],[],_,_,rfl,⟨yv,yv,yv⟩,yv,yv,rfl,rfl,rfl⟩ ?_ ?_
 ·rintro i d _ _ N hi ⟨ps,gs,u3,u4,rfl,h,h6,hG,ht,hd,rfl⟩ hN;obtain⟨e,he,rfl⟩:=o9 _ 1 i d hi;obtain⟨r,er,rfl⟩:=iM he;have ae:i<rows.length:=(List.getElem?_eq_some_iff.mp er).1;have mr:=dh er;have aa:=hr r mr;have tk:rows.take (i+1)=rows.take i++[r]:=by rw[mf,er];rfl
  have e1:rows[i]=r:=(List.getElem?_eq_some_iff.mp er).2;rw[jk ae,e1,eY]at hd;walk_at "d";refine⟨by decide +kernel,by have:=aa.len;omega,?_⟩;refine Mr h h6 aa (fun ac af st=>?_) fun hp hg=>?_
  ·walk_at "d";rcases st with ⟨hp,rfl,rfl,p,rfl,e2,e3,hP,hm,h8⟩|⟨hp,hg,eps,g6,g,rfl,e2,hR⟩
   ·refine hN _ _ ⟨ps++[p],[],_,_,rfl,⟨by rw[cq,gb];omega,fun x m=>?_,?_⟩,yv,yv,?_,?_,rfl⟩
    ·rcases mem_append.mp m with m|m
     ·exact h.all x m
     ·rw[mem_singleton.mp m];exact hP
    ·rw[gu,nodup_append];refine⟨h.nd,yv,fun a ma b mb e=>?_⟩;simp only[gk,map_nil,mem_singleton]at mb;rw[mb]at e;rw[e]at ma;exact hm ma
    ·rw[tk,ht,gu,e2];simp
    ·rw[cm hp,e3]at hd;rw[hd,gu];rfl
   ·subst eps;refine hN _ _ ⟨ac,gs++[g],_,_,rfl,h,by rw[cq,gb];omega,fun x m=>?_,?_,?_,rfl⟩
    ·rcases mem_append.mp m with m|m
     ·exact hG x m
     ·rw[mem_singleton.mp m];exact hR
    ·rw[tk,ht,gu,e2];simp
    ·rw[cb (by rw[hp];simp),cm hg]at hd;rw[hd,cq];rfl
  ·intro D mD fs;refine⟨mD,?_⟩;rw[cb (by rw[hp];simp),cb (by rw[hg];simp)]at hd;have:=qx _ hd;rw[Nat.add_comm]at this;exact this
 ·rintro _ _ ⟨ps,gs,u3,u4,rfl,h,h6,hG,ht,hd,rfl⟩;rw[vC,cg]at ht hd;rw[qa]at ht;rw[qy,eY]at hd;unfold jbD dZ;walk_at "d";walk_at "n";have ge:(gs.map cO).isEmpty=decide (gs=[]):=by cases gs<;>simp
  rw[ge];by_cases hg:gs=[]
  ·rw[bx hg,cm dz];rw[cm (by rw[hg];rfl)]at hd;have:=qx _ hd;simpa using this
  ·rw[bu hg,cb dz];have l1:gs.length≠0:=fun e=>hg (gm e);rw[cb l1]at hd;exact q hd ps gs (by rw[<- ej,ht];rfl) h hG yw h6
end
section
variable {R:RX}{S:Sto}
def AJ(C:Addr):Str:=if C=37 then "span" else if C=49 then "part" else if C=61 then "set" else if C=161 then "text" else if C=73 then "row" else if C=85 then "unlike" else if C=104 then "drawing" else if C=123 then "gap" else if C=142 then "offer" else "great"
theorem iJ{C D:Addr}{fs:List (Str×bg)}(hC:C∈excs)(hD:D∈excs)(q:R (.d (.bool (decide (C=D)))) S):fD [.x C fs,.o (.ref D)] S R:=⟨C,fs,_,rfl,rfl,hC,.inl ⟨D,rfl,hD,q⟩⟩
theorem JX{C:Addr}{fs:List (Str×bg)}(hC:C∈excs)(q:R (.d (.bool true)) S):fD [.x C fs,.o (.ty "ValueError")] S R:=⟨C,fs,_,rfl,rfl,hC,.inr ⟨rfl,q⟩⟩
theorem DR{C:Addr}{fs:List (Str×bg)}(hC:C∈excs)(q:R (.d (.str (AJ C))) []):u9 [.x C fs] [] R:=by
 unfold u9;walk_at "d"
 walk_at "n"
 refine iJ hC dz ?_;walk_at "d";refine iJ hC dz ?_;walk_at "d";refine iJ hC dz ?_;walk_at "d";refine iJ hC dz ?_;walk_at "d"
 walk_at "n"
 refine iJ hC dz ?_;walk_at "d";refine iJ hC dz ?_;walk_at "d";refine iJ hC dz ?_;walk_at "d";refine iJ hC dz ?_;walk_at "d"
 walk_at "n"
 refine iJ hC dz ?_;walk_at "d";refine iJ hC dz ?_;walk_at "d"
 walk_at "n"
 refine JX hC ?_;walk_at "d";refine⟨[decide (C=37),decide (C=49),decide (C=61),decide (C=161),decide (C=73),decide (C=85),decide (C=104),decide (C=123),decide (C=142),decide (C=180)],rfl,?_⟩;have sh:∀bs:List Bool,dy (.list (bs.map nv))=true:=fun bs=>(m5 (nB fun _ _=>(F8:Shp 0 _))).ok;simp only[excs,jt,ia,or_false]at hC;rcases hC with rfl|rfl|rfl|rfl|rfl|rfl|rfl|rfl|rfl|rfl
 ·rw[cb dz]
  walk_at "n"
  exact⟨sh [true,false,false,false,false,false,false,false,false,false],0,⟨_,rfl,rfl⟩,(fun m e hm he=>by rcases m with _|_|_|_|_|_|_|_|_|m<;>first|(exfalso;omega)|(cases he;rfl)),_,rfl,q⟩
 ·rw[cb dz]
  walk_at "n"
  exact⟨sh [false,true,false,false,false,false,false,false,false,false],1,⟨_,rfl,rfl⟩,(fun m e hm he=>by rcases m with _|_|_|_|_|_|_|_|_|m<;>first|(exfalso;omega)|(cases he;rfl)),_,rfl,q⟩
 ·rw[cb dz]
  walk_at "n"
  exact⟨sh [false,false,true,false,false,false,false,false,false,false],2,⟨_,rfl,rfl⟩,(fun m e hm he=>by rcases m with _|_|_|_|_|_|_|_|_|m<;>first|(exfalso;omega)|(cases he;rfl)),_,rfl,q⟩
 ·rw[cb dz]
  walk_at "n"
  exact⟨sh [false,false,false,false,true,false,false,false,false,false],4,⟨_,rfl,rfl⟩,(fun m e hm he=>by rcases m with _|_|_|_|_|_|_|_|_|m<;>first|(exfalso;omega)|(cases he;rfl)),_,rfl,q⟩
 ·rw[cb dz]
  walk_at "n"
  exact⟨sh [false,false,false,false,false,true,false,false,false,false],5,⟨_,rfl,rfl⟩,(fun m e hm he=>by rcases m with _|_|_|_|_|_|_|_|_|m<;>first|(exfalso;omega)|(cases he;rfl)),_,rfl,q⟩
 ·rw[cb dz]
  walk_at "n"
  exact⟨sh [false,false,false,false,false,false,true,false,false,false],6,⟨_,rfl,rfl⟩,(fun m e hm he=>by rcases m with _|_|_|_|_|_|_|_|_|m<;>first|(exfalso;omega)|(cases he;rfl)),_,rfl,q⟩
 ·rw[cb dz]
  walk_at "n"
  exact⟨sh [false,false,false,false,false,false,false,true,false,false],7,⟨_,rfl,rfl⟩,(fun m e hm he=>by rcases m with _|_|_|_|_|_|_|_|_|m<;>first|(exfalso;omega)|(cases he;rfl)),_,rfl,q⟩
 ·rw[cb dz]
  walk_at "n"
  exact⟨sh [false,false,false,false,false,false,false,false,true,false],8,⟨_,rfl,rfl⟩,(fun m e hm he=>by rcases m with _|_|_|_|_|_|_|_|_|m<;>first|(exfalso;omega)|(cases he;rfl)),_,rfl,q⟩
 ·rw[cb dz]
  walk_at "n"
  exact⟨sh [false,false,false,true,false,false,false,false,false,false],3,⟨_,rfl,rfl⟩,(fun m e hm he=>by rcases m with _|_|_|_|_|_|_|_|_|m<;>first|(exfalso;omega)|(cases he;rfl)),_,rfl,q⟩
 ·rw[cb dz]
  walk_at "n"
  exact⟨sh [false,false,false,false,false,false,false,false,false,true],9,⟨_,rfl,rfl⟩,(fun m e hm he=>by rcases m with _|_|_|_|_|_|_|_|_|m<;>first|(exfalso;omega)|(cases he;rfl)),_,rfl,q⟩
end
section
variable {R:RX}{EX:EXD}
theorem n60B{i:Int}(h:N60 i):NumB i:=by
 unfold N60 at h;exact⟨yw,yw⟩
theorem OJ{ps:List Part}{gs:List Gap}(h:PsT ps)(hg:∀g∈gs,GapR ps.length g)(l6:gs.length<=6):JobB ps gs:=
 ⟨h.l8,fun p m=>⟨by have:=tT (h.all p m).nm;omega,n60B (h.all p m).lo,n60B (h.all p m).hi⟩,l6,fun g m=>⟨n60B (hg g m).lo,n60B (hg g m).hi,by have:=(hg g m).ok.ts.len;have:=h.l8;omega,fun t mt=>by have:=(hg g m).ok.ts.ok t mt;omega⟩⟩
theorem Fb{R:RX}{z:Str}(zo:fu z=true)(zl:z.length<=100000)(hl:(PySem.Txt.split z "\n").length<=900)(hr:∀r∈PySem.Txt.split z "\n",RowW r)(q:R (.d (.bool true)) []):zZ [.d (.str z)] [] R:=by
 unfold zZ;walk_at "d";walk_at "n";refine Hn zl hl hr ?_;walk_at "d"
 walk_at "n"
 refine cut (I:=fun δ S=>S=[]/\∃(ps:List Part) (gs:List Gap) (u:Option XV),eY (PySem.Txt.split z "\n") [] 0 0=none/\z=text ps gs/\JobB ps gs/\δ=[some (.d (.str z)),some (.d .none),some (.d (jbD ps gs)),u]) (fun N hN=>?_) ?_
 ·walk_at "d";refine J0 zl hl hr (fun hd ps gs ez hp hg g1 g6=>?_) fun n hd=>?_
  ·walk_at "d";exact hN _ _ ⟨rfl,ps,gs,_,hd,ez,OJ hp hg g6,by rw[hd];rfl⟩
  ·refine⟨by decide,?_⟩;walk_at "d";refine⟨161,_,rfl,DR dz ?_⟩;walk_at "d";have ek:AJ 161=("text":Str):=by decide +kernel
   rw[ek];refine⟨by decide +kernel,by decide +kernel,?_⟩;rw[cW,bx rfl,cm rfl];refine⟨161,_,_,rfl,yv,rfl,C4 ?_⟩;walk_at "d";refine⟨161,_,_,rfl,yv,rfl,rfl,?_⟩;rw[hd];refine⟨rfl,?_⟩;show R (.d (.bool (jc (.int (n:Int)) (.int (n:Int))))) [];rw[iX,bx rfl];exact q
 ·rintro _ _ ⟨rfl,ps,gs,u,hd,ez,aa,rfl⟩;walk_at "d";refine KW aa ?_;rw[<- ez];walk_at "d";have sz:dy (.str z)=true:=(cN (n:=0) zo).ok;refine⟨sz,sz,?_⟩;rw[cW,bx rfl];exact q
theorem Nc{d:bg}(h:∀z,d≠.str z)(qx:EX 161 [("row",.int 0)]):oZ [.d d] [] R EX:=by
 unfold oZ;cases d with
 |str z=>exact absurd rfl (h z)
 |none=>(refine seq1 ?_;walk_at "d";exact qx)
 |bool b=>(refine seq1 ?_;walk_at "d";exact qx)
 |int b=>(refine seq1 ?_;walk_at "d";exact qx)
 |tuple b=>(refine seq1 ?_;walk_at "d";exact qx)
 |list b=>(refine seq1 ?_;walk_at "d";exact qx)
 |dict b=>(refine seq1 ?_;walk_at "d";exact qx)
theorem oG{R:RX}{d:bg}(h:∀z,d≠.str z)(q:R (.d (.bool true)) []):zZ [.d d] [] R:=by
 unfold zZ;refine cut (I:=fun δ S=>S=[]/\δ=[some (.d d),some (.d (.int 0)),none,none]) (fun N hN=>?_) ?_
 ·cases d with
  |str z=>exact absurd rfl (h z)
  |none=>(walk_at "d";exact hN _ _ ⟨rfl,rfl⟩)
  |bool b=>(walk_at "d";exact hN _ _ ⟨rfl,rfl⟩)
  |int b=>(walk_at "d";exact hN _ _ ⟨rfl,rfl⟩)
  |tuple b=>(walk_at "d";exact hN _ _ ⟨rfl,rfl⟩)
  |list b=>(walk_at "d";exact hN _ _ ⟨rfl,rfl⟩)
  |dict b=>(walk_at "d";exact hN _ _ ⟨rfl,rfl⟩)
 ·rintro _ _ ⟨rfl,rfl⟩
  walk_at "n"
  walk_at "n";refine Nc h ⟨by decide,?_⟩;walk_at "d";refine⟨161,_,rfl,DR dz ?_⟩;walk_at "d";have ek:AJ 161=("text":Str):=by decide +kernel
  rw[ek];refine⟨by decide +kernel,by decide +kernel,?_⟩;rw[cW,bx rfl,cm rfl];refine⟨161,_,_,rfl,yv,rfl,C4 ?_⟩;walk_at "d";refine⟨161,_,_,rfl,yv,rfl,?_⟩;refine⟨rfl,?_⟩;rw[iX,bx rfl];exact q
structure RowS(r:Str):Prop where
 ok:fu r=true
 nl:10∉r.cps.toList
 len:r.length<=1000
 sp:r.cps.toList.count 32<=100
theorem Az(c:Nat):∀{l:List Str},l≠[]->(jm ⟨#[c]⟩ l).cps.toList.count c+1=(l.map fun w=>w.cps.toList.count c+1).sum
 | [],h=>absurd rfl h
 | [a],_=>by show a.cps.toList.count c+1=_;simp
 |a::b::r,_=>by
  have ih:=Az c (l:=b::r) yv;rw[mO,List.count_append,List.count_cons_self,gk,sum_cons,<- ih];omega
theorem NA{α:Type}(l:List α)(f:α->Nat)(h:∀x∈l,f x=0):(l.map fun x=>f x+1).sum=l.length:=by
 induction l with
 |nil=>rfl
 |cons x l ih=>
  rw[gk,sum_cons,ih fun y m=>h y (cn _ m),h x cw,cz];omega
theorem N6(r:Str)(c:Nat):(PySem.Txt.split r ⟨#[c]⟩).length=r.cps.toList.count c+1:=by
 have e:jm ⟨#[c]⟩ (PySem.Txt.split r ⟨#[c]⟩)=r:=qf _ _;have ne:PySem.Txt.split r ⟨#[c]⟩≠[]:=fun z=>by
  have:=PyProof.Rows.split_pos r ⟨#[c]⟩;rw[z]at this;simp at this
 have:=Az c ne;rw[e,NA _ _ fun w m=>List.count_eq_zero.mpr (StrLaws.split_free r c w m)]at this;exact this.symm
theorem RowS.w{r:Str}(h:RowS r):RowW r:=⟨h.ok,by have:=h.len;omega,by have:=N6 r 32;have:=h.sp;rw[show (" ":Str)=⟨#[32]⟩from rfl];omega⟩
theorem wD{c d:Nat}:∀{l:List Str},d∈(jm ⟨#[c]⟩ l).cps.toList->d=c\/∃w∈l,d∈w.cps.toList
 | [],h=>by
  have:(jm ⟨#[c]⟩ []).cps.toList=[]:=rfl;rw[this]at h;cases h
 | [a],h=>.inr ⟨a,yv,h⟩
 |a::b::r,h=>by
  rw[mO]at h;rcases mem_append.mp h with h|h
  ·exact .inr ⟨a,yv,h⟩
  ·rcases mem_cons.mp h with h|h
   ·exact .inl h
   ·rcases wD (l:=b::r) h with h|⟨w,m,h⟩
    ·exact .inl h
    ·exact .inr ⟨w,cn _ m,h⟩
theorem vE{α:Type}{f:α->Nat}{k:Nat}:∀{l:List α},(∀x∈l,f x<=k)->(l.map f).sum<=l.length*k
 | [],_=>by simp
 |x::l,h=>by
  rw[gk,sum_cons,cz,Nat.succ_mul];have:=h x cw;have:=vE fun y m=>h y (cn _ m);omega
theorem IR{aa:List Str}(hr:∀r∈aa,RowS r)(hl:aa.length<=22):(PySem.Txt.join "\n" aa).length<=100000:=by
 have ej:PySem.Txt.join "\n" aa=jm ⟨#[10]⟩ aa:=jb ..;rw[ej];have h1:=StrLaws.join_length_le ⟨#[10]⟩ aa;have h2:=vE (f:=fun w:Str=>w.length) (k:=1000) fun w m=>(hr w m).len;have h3:(⟨#[10]⟩:Str).length=1:=rfl;rw[h3]at h1;have h4:aa.length*1000<=22*1000:=Nat.mul_le_mul_right _ hl;omega
theorem yE{R:RX}{aa:List Str}(hr:∀r∈aa,RowS r)(hl:aa.length<=22)(q:R (.d (.bool true)) []):zZ [.d (.str (PySem.Txt.join "\n" aa))] [] R:=by
 by_cases h0:aa=[]
 ·subst h0;have e:PySem.Txt.join "\n" []=("":Str):=by decide +kernel
  rw[e];have es:PySem.Txt.split ("":Str) "\n" = [("":Str)]:=by decide +kernel
  have w0:RowW ("":Str):=⟨by decide +kernel,by decide +kernel,by decide +kernel⟩;exact Fb (by decide +kernel) (by decide +kernel) (by rw[es];decide) (fun r m=>by rw[es]at m;rw[mem_singleton.mp m];exact w0) q
 ·have es:PySem.Txt.split (PySem.Txt.join "\n" aa) "\n" = aa:=AF 10 h0 fun r m=>(hr r m).nl;have ej:PySem.Txt.join "\n" aa=jm ⟨#[10]⟩ aa:=jb ..;refine Fb ?_ ?_ (by rw[es];omega) (fun r m=>by rw[es]at m;exact(hr r m).w) q
  ·rw[ej];refine gS fun c m=>?_;rcases wD m with rfl|⟨w,mw,mc⟩
   ·decide
   ·exact kL (hr w mw).ok mc
  ·rw[ej];have h1:=StrLaws.join_length_le ⟨#[10]⟩ aa;have h2:=vE (f:=fun w:Str=>w.length) (k:=1000) fun w m=>(hr w m).len;have h3:(⟨#[10]⟩:Str).length=1:=rfl;rw[h3]at h1;have h4:aa.length*1000<=22*1000:=Nat.mul_le_mul_right _ hl;omega
structure WdS(w:Str):Prop where
 ok:fu w=true
 nl:10∉w.cps.toList
 sp:w.cps.toList.count 32<=1
 len:w.length<=102
structure RowO(r:Str):Prop where
 s:RowS r
 ws:∀w∈PySem.Txt.split r " ",WdS w/\w.length<=100/\32∉w.cps.toList
 wn:(PySem.Txt.split r " ").length<=19
 sm:((PySem.Txt.split r " ").map fun w:Str=>w.length).sum<=400
theorem tj(l:List Str):PySem.Txt.join " " l=jm ⟨#[32]⟩ l:=jb ..
abbrev cC (ws:List Str):Nat:=(ws.map fun w:Str=>w.length).sum
theorem Gj{ws:List Str}(h:∀w∈ws,WdS w)(hl:ws.length<=20)(hs:cC ws<=902):RowS (PySem.Txt.join " " ws):=by
 rw[tj];refine⟨gS fun c m=>?_,fun m=>?_,?_,?_⟩
 ·rcases wD m with rfl|⟨w,mw,mc⟩
  ·decide
  ·exact kL (h w mw).ok mc
 ·rcases wD m with e|⟨w,mw,mc⟩
  ·exact absurd e dz
  ·exact(h w mw).nl mc
 ·have h1:=StrLaws.join_length_le ⟨#[32]⟩ ws;have h3:(⟨#[32]⟩:Str).length=1:=rfl;rw[h3]at h1;unfold cC at hs;omega
 ·by_cases h0:ws=[]
  ·subst h0;decide +kernel
  ·have h1:=Az 32 h0;have h2:=vE (f:=fun w:Str=>w.cps.toList.count 32+1) (k:=2) fun w m=>by have:=(h w m).sp;show _+1<=2;omega
   omega
theorem FM{ws:List Str}(h0:ws≠[])(h:∀w∈ws,WdS w/\w.length<=100/\32∉w.cps.toList)(hl:ws.length<=19)(hs:cC ws<=400):RowO (PySem.Txt.join " " ws):=by
 have es:PySem.Txt.split (PySem.Txt.join " " ws) " " = ws:=AF 32 h0 fun w m=>(h w m).2.2;exact⟨Gj (fun w m=>(h w m).1) yw yw,by rw[es];exact h,by rw[es];exact hl,by rw[es];exact hs⟩
theorem yG{n:Int}(h:n.natAbs<2 ^ 64):n.natAbs.log2<9000:=by
 by_cases z:n.natAbs=0
 ·rw[z];decide
 ·rw[Nat.log2_lt z];exact fc h (Nat.pow_le_pow_right dz dz)
def wdB(z:Str):Bool:=fu z&&!z.cps.toList.contains 10&&decide (z.cps.toList.count 32<=1)&&decide (z.length<=102)
theorem Ar{z:Str}(h:wdB z=true):WdS z:=by
 unfold wdB at h;simp only[cy,decide_eq_true_eq,qr,List.contains_eq_mem,decide_eq_false_iff_not]at h;exact⟨h.1.1.1,h.1.1.2,h.1.2,h.2⟩
theorem AU{a b:Str}(oa:fu a=true)(ob:fu b=true)(na:10∉a.cps.toList)(nb:10∉b.cps.toList)(c:a.cps.toList.count 32+b.cps.toList.count 32<=1)(l:a.length+b.length<=102):WdS (a++b):=by
 have e:(a++b).cps.toList=a.cps.toList++b.cps.toList:=by simp only[Str.cps_append,Array.toList_append]
 refine⟨gS fun x m=>?_,fun m=>?_,by rw[e,List.count_append];exact c,by rw[<- eP,e,cq,eP,eP];exact l⟩
 ·rw[e]at m;exact(mem_append.mp m).elim (kL oa) (kL ob)
 ·rw[e]at m;exact(mem_append.mp m).elim na nb
def qE(w:Str):List Str:=["0","00","-0","+1","1.0","4","-4","Ab","abcdefghi","","qzq","part","gap","Part","0" ++ w,PySem.Txt.mul "9" 60,PySem.Txt.mul "9" 61,"-" ++ PySem.Txt.mul "9" 60,"-" ++ PySem.Txt.mul "1" 61,"--1","1-","parts"]
theorem HI{w:Str}(h:WdS w)(l:w.length<=100)(f:32∉w.cps.toList):∀z∈qE w,WdS z:=by
 have c0:w.cps.toList.count 32=0:=List.count_eq_zero.mpr f;have k1:∀z∈(["0","00","-0","+1","1.0","4","-4","Ab","abcdefghi","","qzq","part","gap","Part"]:List Str),wdB z=true:=by decide +kernel
 have k2:∀z∈([PySem.Txt.mul "9" 60,PySem.Txt.mul "9" 61,"-" ++ PySem.Txt.mul "9" 60,"-" ++ PySem.Txt.mul "1" 61,"--1","1-","parts"]:List Str),wdB z=true:=by decide +kernel
 have e:qE w=(["0","00","-0","+1","1.0","4","-4","Ab","abcdefghi","","qzq","part","gap","Part"]:List Str)++(("0" ++ w)::([PySem.Txt.mul "9" 60,PySem.Txt.mul "9" 61,"-" ++ PySem.Txt.mul "9" 60,"-" ++ PySem.Txt.mul "1" 61,"--1","1-","parts"]:List Str)):=rfl;intro z m;rw[e]at m;rcases mem_append.mp m with m|m
 ·exact Ar (k1 z m)
 ·have l1:("0":Str).length=1:=by decide +kernel
  rcases mem_cons.mp m with rfl|m
  ·exact AU (by decide +kernel) h.ok (by decide +kernel) h.nl (by rw[c0];decide +kernel) yw
  ·exact Ar (k2 z m)
theorem Cz{α:Type}(l:List α){k:Int}(h0:0<=k):bI l none (some k)=l.take k.toNat:=by
 obtain⟨n,rfl⟩:=gw h0;unfold bI;rw[HT.sIx_nat];show (l.drop 0).take (min n l.length-0)=_;rw[List.drop_zero,Nat.sub_zero,oy];rcases Nat.le_total n l.length with h|h
 ·rw[Nat.min_eq_left h]
 ·rw[Nat.min_eq_right h,qa,List.take_of_length_le h]
theorem Gy{α:Type}(l:List α){k:Int}(h0:0<=k):bI l (some k) none=l.drop k.toNat:=by
 obtain⟨n,rfl⟩:=gw h0;unfold bI;rw[HT.sIx_nat];show (l.drop (min n l.length)).take (l.length-min n l.length)=_;rw[oy];rcases Nat.le_total n l.length with h|h
 ·rw[Nat.min_eq_left h];exact List.take_of_length_le yv
 ·rw[Nat.min_eq_right h,qy,List.drop_of_length_le h];simp
theorem qO{l:List Str}{r:Int}(h0:0<=r)(h1:r<(l.length:Int)):∃v∈l,atI (l.map be) r=some (.str v):=by
 obtain⟨n,rfl⟩:=gw h0;have hn:n<l.length:=yw
 exact⟨l[n],getElem_mem hn,c6 (by rw[gx,dn hn];rfl)⟩
theorem MQ{α:Type}{l:List α}{r:Int}{d:α}(h:atI l r=some d):d∈l:=by
 unfold atI at h;obtain⟨j,_,h⟩:=Option.bind_eq_some_iff.mp h;exact dh h
theorem jC(l m:List Str):cC (l++m)=cC l+cC m:=by unfold cC;rw[gu,List.sum_append]
theorem C6(w:Str):cC [w]=w.length:=by simp[cC]
theorem HS(l:List Str)(k:Nat):cC (l.take k)<=cC l:=by
 have:=jC (l.take k) (l.drop k);rw[re]at this;omega
theorem MK(l:List Str)(k:Nat):cC (l.drop k)<=cC l:=by
 have:=jC (l.take k) (l.drop k);rw[re]at this;omega
theorem P0{p:List bg}{ac:Str}(hp:aJ p)(hr:RowO ac)(q:∀(ws:List Str) p',(∀w∈ws,WdS w)->ws.length<=20->cC ws<=902->aJ p'->R (.d (.list (ws.map be))) [p']):uY [.d (.str ac),.l 0] [p] R:=by
 have hw:=hr.ws;have hn:=hr.wn;have ae:=hr.sm;have hpos:=PyProof.Rows.split_pos ac " ";have al:=hr.s.len;unfold uY;walk_at "n";refine⟨by decide +kernel,yw,?_⟩;generalize PySem.Txt.split ac (dw " ")=ws at hw hn hpos ae ⊢;have wd:∀w∈ws,WdS w:=fun w m=>(hw w m).1;have ct:∀k:Int,0<=k->bI (ws.map be) none (some k)=(ws.take k.toNat).map be:=fun k h=>by rw[Cz _ h,map_take]
 have cf:∀k:Int,0<=k->bI (ws.map be) (some k) none=(ws.drop k.toNat).map be:=fun k h=>by rw[Gy _ h,map_drop]
 have tm:∀k,∀w∈ws.take k,WdS w:=fun k w m=>wd w (qi m);have dm:∀k,∀w∈ws.drop k,WdS w:=fun k w m=>wd w (List.mem_of_mem_drop m);have s1:∀k,cC (ws.take k)<=400:=fun k=>ie (HS _ _) ae;have s2:∀k,cC (ws.drop k)<=400:=fun k=>ie (MK _ _) ae;have am:∀{l m:List Str},(∀w∈l,WdS w)->(∀w∈m,WdS w)->∀w∈l++m,WdS w:=fun h1 h2 w mw=>(mem_append.mp mw).elim (h1 w) (h2 w)
 walk_at "n"
 refine zx hp yw (yG yw) fun r1 p1 a0 a1 ak=>?_;walk_at "d"
 walk_at "n"
 refine zx ak dz dz fun r2 p2 b0 b1 aa=>?_;walk_at "d";have aj:∃w,ws[r1.toNat]?=some w:=⟨_,dn yw⟩;obtain⟨w,ew⟩:=aj;have mw:=dh ew;have aw:atI (ws.map be) r1=some (.str w):=by
  have:r1=((r1.toNat:Nat):Int):=yw
  rw[this];exact c6 (by rw[gx,ew];rfl)
 walk_at "n";rw[ct r1 a0,cf (r1+1) yw];by_cases h0:r2=0
 ·rw[cm h0,<- gu];refine⟨by simp only[cg,gc,iu];omega,q _ _ (am (tm _) (dm _)) (by rw[cq,gc,iu];omega) (by rw[jC];have:=s1 r1.toNat;have:=s2 (r1+1).toNat;have:=s1 (r1+1).toNat;have:=s2 r1.toNat;omega) aa⟩
 ·rw[cb h0];walk_at "n";rw[ct (r1+1) yw,cf r1 a0];by_cases h1:r2=1
  ·rw[cm h1,<- gu];refine⟨by simp only[cg,gc,iu];omega,q _ _ (am (tm _) (dm _)) (by rw[cq,gc,iu];omega) (by rw[jC];have:=s1 r1.toNat;have:=s2 (r1+1).toNat;have:=s1 (r1+1).toNat;have:=s2 r1.toNat;omega) aa⟩
  ·rw[cb h1];walk_at "n";rw[ct r1 a0,cf (r1+1) yw];by_cases h2:r2=2
   ·rw[cm h2];refine⟨by simp only[cg,gc,iu];omega,.str w,aw,?_⟩;have fin:R (.d (.list ((ws.take r1.toNat++ws.drop (r1+1).toNat++[w]).map be))) [p2]:=q _ _ (am (am (tm _) (dm _)) fun v m=>by rw[mem_singleton.mp m];exact wd w mw) (by simp only[cq,gc,iu,gb];omega) (by rw[jC,jC,C6];have:=s1 r1.toNat;have:=s2 (r1+1).toNat;have:=(hw w mw).2.1;omega) aa;rw[gu,gu]at fin;refine⟨?_,fin⟩;simp only[cq,cg,gc,iu,gb];omega
   ·rw[cb h2]
    walk_at "n"
    walk_at "n";refine⟨.str w,aw,?_⟩;walk_at "d";have af:=(hw w mw).2.1;have ag:=(hw w mw).2.2;have sl:∀n:Nat,n<=1000->n<=bw:=fun n h=>ie h (by rw[ig];decide);have l0:(dw "0").length=1:=by decide +kernel
    have l1:(dw " ").length=1:=by decide +kernel
    refine⟨sl _ yw,by decide +kernel,by decide +kernel,by decide +kernel,sl _ (by decide +kernel),by decide +kernel,sl _ (by decide +kernel),?_⟩;have ah:=HI (wd w mw) af ag
    conv in (be (dw "0")::_)=>change (qE w).map be
    have lO:(qE w).length=22:=rfl;generalize qE w=O at ah lO ⊢;walk_at "n";refine⟨.str w,aw,?_⟩;walk_at "d";refine⟨sl _ yw,.str w,aw,?_⟩;walk_at "d";refine⟨sl _ yw,yw,?_⟩;have eE:O.map be++[be (w++dw " "),be (dw " " ++ w)]=(O++[w++dw " ",dw " " ++ w]).map be:=by rw[gu];rfl
    rw[eE];have hE:∀z∈O++[w++dw " ",dw " " ++ w],WdS z:=by
     have c0:w.cps.toList.count 32=0:=List.count_eq_zero.mpr ag;refine am ah fun z m=>?_;simp only[jt,ia,or_false]at m;rcases m with rfl|rfl
     ·exact AU (wd w mw).ok (by decide +kernel) (wd w mw).nl (by decide +kernel) (by rw[c0];decide +kernel) yw
     ·exact AU (by decide +kernel) (wd w mw).ok (by decide +kernel) (wd w mw).nl (by rw[c0];decide +kernel) yw
    have lE:(O++[w++dw " ",dw " " ++ w]).length=24:=by rw[cq,lO];rfl
    generalize O++[w++dw " ",dw " " ++ w]=OE at hE lE ⊢;rw[lO];refine zx aa yw dz fun r3 p3 d0 d1 ai=>?_;obtain⟨v,mv,av⟩:=qO d0 (show r3<(OE.length:Int) by omega);walk_at "d";refine⟨.str v,av,?_⟩;walk_at "d";rw[ct r1 a0,cf (r1+1) yw];have fin:R (.d (.list ((ws.take r1.toNat++[v]++ws.drop (r1+1).toNat).map be))) [p3]:=q _ _ (am (am (tm _) fun y m=>by rw[mem_singleton.mp m];exact hE v mv) (dm _)) (by simp only[cq,gc,iu,gb];omega) (by rw[jC,jC,C6];have:=s1 r1.toNat;have:=s2 (r1+1).toNat;have:=(hE v mv).len;omega) ai;rw[gu,gu]at fin;refine⟨by rw[cg,gc];omega,by simp only[cg,gc,iu];omega,fin⟩
def rsB(z:Str):Bool:=fu z&&!z.cps.toList.contains 10&&decide (z.length<=1000)&&decide (z.cps.toList.count 32<=100)
theorem mX{z:Str}(h:rsB z=true):RowS z:=by
 unfold rsB at h;simp only[cy,decide_eq_true_eq,qr,List.contains_eq_mem,decide_eq_false_iff_not]at h;exact⟨h.1.1.1,h.1.1.2,h.1.2,h.2⟩
theorem OR{p:List bg}{aa:List Str}(hp:aJ p)(hr:∀r∈aa,RowO r)(l1:1<=aa.length)(an:aa.length<=14)(q:∀(rs:List Str) p',(∀r∈rs,RowS r)->rs.length<=22->aJ p'->R (.d (.list (rs.map be))) [p']):vL [.d (.list (aa.map be)),.l 0] [p] R:=by
 have wd:∀r∈aa,RowS r:=fun r m=>(hr r m).s;have ct:∀k:Int,0<=k->bI (aa.map be) none (some k)=(aa.take k.toNat).map be:=fun k h=>by rw[Cz _ h,map_take]
 have cf:∀k:Int,0<=k->bI (aa.map be) (some k) none=(aa.drop k.toNat).map be:=fun k h=>by rw[Gy _ h,map_drop]
 have tm:∀k,∀w∈aa.take k,RowS w:=fun k w m=>wd w (qi m);have dm:∀k,∀w∈aa.drop k,RowS w:=fun k w m=>wd w (List.mem_of_mem_drop m);have am:∀{l m:List Str},(∀w∈l,RowS w)->(∀w∈m,RowS w)->∀w∈l++m,RowS w:=fun h1 h2 w mw=>(mem_append.mp mw).elim (h1 w) (h2 w);have sm:∀{v:Str},RowS v->∀w∈[v],RowS w:=fun h w m=>by rw[mem_singleton.mp m];exact h
 have al:∀v:Str,([v].map be)=[be v]:=fun _=>rfl;unfold vL;walk_at "d"
 walk_at "n"
 refine zx hp yw (yG yw) fun r1 p1 a0 a1 ak=>?_;walk_at "d"
 walk_at "n"
 refine zx ak yw (yG yw) fun r2 p2 b0 b1 aj=>?_;walk_at "d"
 walk_at "n"
 refine zx aj dz dz fun r3 p3 c0 c1 ac=>?_;walk_at "d";obtain⟨v1,m1,af⟩:=qO a0 a1;obtain⟨v2,m2,ah⟩:=qO b0 b1;walk_at "n";rw[ct r1 a0,cf (r1+1) yw];by_cases h0:r3=0
 ·rw[cm h0,<- gu];refine⟨by simp only[cg,gc,iu];omega,q _ _ (am (tm _) (dm _)) (by rw[cq,gc,iu];omega) ac⟩
 rw[cb h0];walk_at "n";rw[ct (r1+1) yw,cf r1 a0];by_cases h1:r3=1
 ·rw[cm h1,<- gu];refine⟨by simp only[cg,gc,iu];omega,q _ _ (am (tm _) (dm _)) (by rw[cq,gc,iu];omega) ac⟩
 rw[cb h1];walk_at "n";rw[ct r1 a0,cf (r1+1) yw];by_cases h2:r3=2
 ·rw[cm h2];refine⟨.str v2,ah,?_⟩;walk_at "d";have fin:R (.d (.list ((aa.take r1.toNat++[v2]++aa.drop (r1+1).toNat).map be))) [p3]:=q _ _ (am (am (tm _) (sm (wd _ m2))) (dm _)) (by simp only[cq,gc,iu,gb];omega) ac;rw[gu,gu]at fin;refine⟨by simp only[cg,gc];omega,by simp only[cg,gc,iu];omega,fin⟩
 rw[cb h2];walk_at "n";by_cases h3:r3=3
 ·rw[cm h3];refine⟨.str v2,ah,zx ac dz dz fun r4 p4 d0 d1 ae=>?_⟩;have eL:[be (dw ""),be (dw " "),be (dw "part"),be (dw "gap 0 0"),be (dw "part qzq 1 1"),be v2]=([("":Str)," ","part","gap 0 0","part qzq 1 1",v2]:List Str).map be:=rfl;rw[eL];obtain⟨v,mv,av⟩:=qO (l:=[("":Str)," ","part","gap 0 0","part qzq 1 1",v2]) d0 (by simpa using d1);have sv:RowS v:=by
   simp only[jt,ia,or_false]at mv;rcases mv with rfl|rfl|rfl|rfl|rfl|rfl
   ·exact mX (by decide +kernel)
   ·exact mX (by decide +kernel)
   ·exact mX (by decide +kernel)
   ·exact mX (by decide +kernel)
   ·exact mX (by decide +kernel)
   ·exact wd _ m2
  walk_at "d";refine⟨.str v,av,?_⟩;walk_at "d";rw[ct r1 a0,cf r1 a0];have fin:R (.d (.list ((aa.take r1.toNat++[v]++aa.drop r1.toNat).map be))) [p4]:=q _ _ (am (am (tm _) (sm sv)) (dm _)) (by simp only[cq,gc,iu,gb];omega) ae;rw[gu,gu]at fin;refine⟨by simp only[cg,gc];omega,by simp only[cg,gc,iu];omega,fin⟩
 rw[cb h3];walk_at "n";by_cases h4:r3=4
 ·rw[cm h4];obtain⟨d9,ag⟩:=Mv (l:=aa.map be) (by rw[cg];omega);obtain⟨v9,m9,rfl⟩:=mem_map.mp (MQ ag);refine⟨.str v1,af,.str v9,ag,zx ac dz dz fun r4 p4 d0 d1 ae=>?_⟩;have eL:[be (dw ""),be v1,be v9]=([("":Str),v1,v9]:List Str).map be:=rfl;rw[eL];obtain⟨v,mv,av⟩:=qO (l:=[("":Str),v1,v9]) d0 (by simpa using d1);have sv:RowS v:=by
   simp only[jt,ia,or_false]at mv;rcases mv with rfl|rfl|rfl
   ·exact mX (by decide +kernel)
   ·exact wd _ m1
   ·exact wd _ m9
  walk_at "d";refine⟨.str v,av,?_⟩;walk_at "d";refine zx ae dz dz fun r5 p5 e0 e1 ai=>?_;walk_at "d";have k1:(1+r5).toNat<=7:=yw
  have el:(bo (1+r5).toNat [be v]).flatten=(bo (1+r5).toNat v).map be:=by
   generalize (1+r5).toNat=k;induction k with
   |zero=>rfl
   |succ k ih=>rw[mn,rb,ih,mn,gk];rfl
  rw[el];have fin:R (.d (.list ((aa++bo (1+r5).toNat v).map be))) [p5]:=q _ _ (am wd fun w m=>by rw[(List.mem_replicate.mp m).2];exact sv) (by rw[cq,List.length_replicate];omega) ai;rw[gu]at fin;refine⟨yw,yw,yw,by rw[cg,List.length_replicate];omega,fin⟩
 rw[cb h4];refine⟨.str v1,af,P0 ac (hr _ m1) fun ws p4 hw lw sw ae=>?_⟩;walk_at "d";have hS:=Gj hw lw sw;rw[ct r1 a0,cf (r1+1) yw];have fin:R (.d (.list ((aa.take r1.toNat++[PySem.Txt.join " " ws]++aa.drop (r1+1).toNat).map be))) [p4]:=q _ _ (am (am (tm _) (sm hS)) (dm _)) (by simp only[cq,gc,iu,gb];omega) ae;rw[gu,gu]at fin;refine⟨ws,rfl,by decide +kernel,yw,fun y m=>by have:=(hw y m).len;omega,by simp only[cg,gc];omega,by simp only[cg,gc,iu];omega,fin⟩
theorem tS{i:Int}(h:N60 i):WdS (nS i)/\(nS i).length<=100/\32∉(nS i).cps.toList:=by
 have l:(nS i).length<=61:=tU (k:=60) dz h;have f:∀c<45,c∉(nS i).cps.toList:=fun c hc m=>by have:=xA i c m;omega
 exact⟨⟨Kd i,f 10 dz,by rw[List.count_eq_zero.mpr (f 32 dz)];decide,yw⟩,yw,f 32 dz⟩
theorem GE{z:Str}(h:bK z=true)(o:fu z=true):WdS z/\z.length<=100/\32∉z.cps.toList:=by
 have l:=tT h;have f:∀c<45,c∉z.cps.toList:=fun c hc=>x5 hc h;exact⟨⟨o,f 10 dz,by rw[List.count_eq_zero.mpr (f 32 dz)];decide,yw⟩,yw,f 32 dz⟩
theorem CA{z:Str}(h:wdB z=true)(l:z.length<=100)(f:z.cps.toList.contains 32=false):WdS z/\z.length<=100/\32∉z.cps.toList:=⟨Ar h,l,by simpa using f⟩
theorem wF{i:Int}(h:N60 i):(nS i).length<=61:=tU (k:=60) dz h
theorem Bg{ps:List Part}:∀{ts:List Term},(∀t∈ts,(nS t.2).length<=2/\(part ps t.1).1.length<=8)->cC (ts.flatMap fun t=>[nS t.2,(part ps t.1).1])<=ts.length*10
 | [],_=>by simp[cC]
 |t::ts,h=>by
  have:=Bg (ts:=ts) fun u m=>h u (cn _ m);have ht:=h t cw;rw[pc,jC,cz];have e:cC [nS t.2,(part ps t.1).1]=(nS t.2).length+(part ps t.1).1.length:=by simp[cC]
  omega
theorem OI{p:Part}(h:PrtT p):RowO (prow p):=by
 have e:prow p=PySem.Txt.join " " [("part":Str),p.1,nS p.2.1,nS p.2.2]:=(oR _ _ _).symm;have i1:=wF h.lo;have i2:=wF h.hi;have i3:=tT h.nm;have i4:("part":Str).length=4:=by decide +kernel
 rw[e];refine FM yv (fun w m=>?_) yv (by simp only[cC,gk,map_nil,sum_cons,List.sum_nil];omega);simp only[jt,ia,or_false]at m;rcases m with rfl|rfl|rfl|rfl
 ·exact CA (by decide +kernel) (by decide +kernel) (by decide +kernel)
 ·exact GE h.nm h.ok
 ·exact tS h.lo
 ·exact tS h.hi
theorem IW{ps:List Part}{g:Gap}(h:PsT ps)(hg:GapR ps.length g):RowO (grow ps g g.ts):=by
 have e:grow ps g g.ts=PySem.Txt.join " " (("gap":Str)::cT ps g g.ts):=(oR _ _ _).symm;have l8:=h.l8;have lt:=hg.ok.ts.len;have i1:=wF hg.lo;have i2:=wF hg.hi;have i4:("gap":Str).length=3:=by decide +kernel
 have i5:=Bg (ps:=ps) (ts:=g.ts) fun t mt=>⟨vN (hg.ok.ts.ok t mt).2.2,(tT (h.all _ (kW (hg.ok.ts.ok t mt).1)).nm).2⟩;rw[e];refine FM yv (fun w m=>?_) (by rw[cz,BD];omega) (by
  unfold cT;simp only[cC,gk,sum_cons];unfold cC at i5;omega)
 unfold cT at m;rcases mem_cons.mp m with rfl|m
 ·exact CA (by decide +kernel) (by decide +kernel) (by decide +kernel)
 rcases mem_cons.mp m with rfl|m
 ·exact tS hg.lo
 rcases mem_cons.mp m with rfl|m
 ·exact tS hg.hi
 obtain⟨t,mt,m⟩:=mem_flatMap.mp m;obtain⟨t1,t2,t3,t4⟩:=hg.ok.ts.ok t mt;simp only[jt,ia,or_false]at m;rcases m with rfl|rfl
 ·exact tS (show t.2.natAbs<10 ^ 60 from qw (show t.2.natAbs<=3 by omega) dz)
 ·exact GE (h.all _ (kW t1)).nm (h.all _ (kW t1)).ok
theorem IB{p:List bg}{m:Int}(hp:aJ p)(m1:0<m)(m8:m<=8)(q:∀(ps:List Part) p',DrwT ps->aJ p'->R (.d (aL ps)) [p']):yX [.l 0,.d (.int m)] [p] R:=
 Kw (span:=Ap) (names:=uL) rfl Oj (fun hp q=>Md hp q) hp m1 m8 q
theorem Lx(a:Addr)(n:Int):BJ (Jc a 7) ((some (.o (.ref a))::bo 7 none).set 2 (some (.d (.int n)))) []:=by
 unfold BJ;walk_at "d"
 walk_at "n"
 refine No fun p hp=>?_;walk_at "d"
 walk_at "n"
 refine IB hp dz dz fun ps p1 hd ah=>?_;walk_at "d"
 walk_at "n"
 refine MM ah hd dz dz fun gs p2 g1 g6 hg ag=>?_;have l6:gs.length<=6:=yw
 have ae:=Ld hd l6 g1 hg;have aa:=Oc hd;have af:∀g∈gs,GapR ps.length g:=fun g m=>O5 (hg g m);walk_at "d";refine Np ae ?_;walk_at "d";have sp:=HR aa af hd.drw.l1;have tl:(text ps gs).length<=100000:=by
  have:=FZ (y:=("\n":Str)) (zs:=ps.map prow++gs.map fun g=>grow ps g g.ts) dz (Af ae);unfold text;refine ie this ?_;rw[cq,cg,cg];have:=aa.l8;omega
 refine⟨by decide +kernel,tl,?_⟩;rw[sp];have hO:∀r∈ps.map prow++gs.map fun g=>grow ps g g.ts,RowO r:=fun r m=>by
  rcases mem_append.mp m with m|m
  ·obtain⟨p,mp,rfl⟩:=mem_map.mp m;exact OI (aa.all p mp)
  ·obtain⟨g,mg,rfl⟩:=mem_map.mp m;exact IW aa (af g mg)
 have ll:(ps.map prow++gs.map fun g=>grow ps g g.ts).length=ps.length+gs.length:=by simp
 have h8:=aa.l8;generalize (ps.map prow++gs.map fun g=>grow ps g g.ts)=rows at hO ll ⊢;walk_at "n";refine⟨rows,rfl,by decide +kernel,yw,fun y m=>(hO y m).s.len,?_⟩;refine yE (fun r m=>(hO r m).s) yw ?_;walk_at "d";refine eU (fun i δ S=>∃(p:List bg) (u6 u7:Option XV),aJ p/\S=[p]/\δ=[some (.o (.ref a)),none,some (.d (.int n)),some (.l 0),some (.d (aL ps)),some (.d (.list (rows.map be))),u6,u7]) ⟨p2,_,_,ag,rfl,rfl⟩ ?_ ?_
 ·rintro i d _ _ N hi ⟨p,u6,u7,hp,rfl,rfl⟩ hN;obtain⟨ai,rfl⟩:=oC hi;walk_at "d";walk_at "n";refine OR hp hO (by have:=hd.drw.l1;omega) yw fun rs p3 hr hl ac=>?_;walk_at "d";refine⟨rs,rfl,by decide +kernel,yw,fun y m=>(hr y m).len,?_⟩;have jl:=IR hr hl;refine⟨(PySem.Txt.join (dw "\n") rs).length,by simp[fW,ie jl (show 100000<=bw by rw[ig];decide)],?_⟩;by_cases h3:((PySem.Txt.join (dw "\n") rs).length:Int)<=3000
  ·rw[cm h3];refine yE hr hl ?_;walk_at "d";exact hN _ _ ⟨p3,_,_,ac,rfl,rfl⟩
  ·rw[cb h3];exact hN _ _ ⟨p3,_,_,ac,rfl,rfl⟩
 ·rintro _ _ ⟨p,u6,u7,hp,rfl,rfl⟩;trivial
theorem jN{R:RX}{z:Str}(aa:List Str)(e:z=PySem.Txt.join "\n" aa)(h:aa.all rsB=true)(hl:aa.length<=22)(q:R (.d (.bool true)) []):zZ [.d (.str z)] [] R:=by
 rw[e];exact yE (fun r m=>mX (all_eq_true.mp h r m)) hl q
theorem PK(a:Addr):AI (Be a 7) (some (.o (.ref a))::bo 7 none) []:=by
 unfold AI;walk_at "d"
 walk_at "n"
 refine cmp1d (S0:=[]) (fun _=>nv true) rfl _ dz ?_ ?_
 ·intro x mx u acc R' hk;walk_at "d";simp only[jt,ia,or_false]at mx;rcases mx with rfl|rfl|rfl|rfl|rfl|rfl|rfl|rfl|rfl|rfl|rfl|rfl|rfl|rfl
  ·exact jN [""] (by decide +kernel) (by decide +kernel) dz (by walk_at "d";exact hk _)
  ·exact jN ["",""] (by decide +kernel) (by decide +kernel) dz (by walk_at "d";exact hk _)
  ·exact jN ["gap 0 0 1 a"] (by decide +kernel) (by decide +kernel) dz (by walk_at "d";exact hk _)
  ·exact jN ["part a 0 0"] (by decide +kernel) (by decide +kernel) dz (by walk_at "d";exact hk _)
  ·exact jN ["part a 0 0",""] (by decide +kernel) (by decide +kernel) dz (by walk_at "d";exact hk _)
  ·exact jN ["part a 1 0"] (by decide +kernel) (by decide +kernel) dz (by walk_at "d";exact hk _)
  ·exact oG yv (by walk_at "d";exact hk _)
  ·exact oG yv (by walk_at "d";exact hk _)
  ·exact oG yv (by walk_at "d";exact hk _)
  ·exact oG yv (by walk_at "d";exact hk _)
  ·exact oG yv (by walk_at "d";exact hk _)
  ·exact oG yv (by walk_at "d";exact hk _)
  ·exact jN ["part a 0 0","gap 0 0 1 a"] (by decide +kernel) (by decide +kernel) dz (by walk_at "d";exact hk _)
  ·exact jN ["part a 0 0","gap 0 0 1 a 1 a"] (by decide +kernel) (by decide +kernel) dz (by walk_at "d";exact hk _)
 ·walk_at "d";exact⟨bo 14 true,rfl,by decide⟩
end
end My
namespace My
open PySem L2
def top (i : Nat) : Stmt := PySem.Challenge.pw_gaugewright_k72_texts_refused.main.body.getD i (.Pass ⟨0, 0, 0, 0⟩)
abbrev G8:Stmt:=top 43
theorem JP:FnScope ["script","k"] ["script","k"] (zj G8):=fsd
abbrev FE:Stmt:=top 45
theorem Cb:FnScope ["cell","left"] ["cell"] (zj FE):=fsd
abbrev Db:Stmt:=top 44
theorem C7:FnScope ["seed"] ["seed"] (zj Db):=fsd
abbrev Ba:Stmt:=top 46
theorem C1:FnScope ["pen","many","found"] ["pen","many"] (zj Ba):=fsd
abbrev rR:Stmt:=top 50
theorem hU:FnScope ["pen","letters","way","first","names","word","at"] ["pen"] (zj rR):=fsd
abbrev G2:Stmt:=top 48
theorem Dn:FnScope ["pen","way"] ["pen"] (zj G2):=fsd
abbrev De:Stmt:=top 49
theorem vO:FnScope ["pen","low","wide"] ["pen"] (zj De):=fsd
abbrev Cm:Stmt:=top 51
theorem wU:FnScope ["pen","most","names","drawing","k"] ["pen","most"] (zj Cm):=fsd
abbrev yY:Stmt:=top 57
theorem pM:FnScope ["word","figures","value","sign"] ["word"] (zj yY):=fsd
abbrev C5:Stmt:=top 59
theorem yP:FnScope ["words","low","high"] ["words"] (zj C5):=fsd
abbrev AG:Stmt:=top 58
theorem Oq:FnScope ["word"] ["word"] (zj AG):=fsd
abbrev EV:Stmt:=top 60
theorem Kf:FnScope ["words","names"] ["words","names"] (zj EV):=fsd
abbrev GD:Stmt:=top 61
theorem xK:FnScope ["words","names","last","k"] ["words","names"] (zj GD):=fsd
abbrev Gb:Stmt:=top 62
theorem lD:FnScope ["text","names","many","rows","at","words"] ["text"] (zj Gb):=fsd
abbrev AS:Stmt:=top 18
theorem L8:FnScope ["thing"] ["thing"] (zj AS):=fsd
abbrev Cy:Stmt:=top 15
theorem LH:FnScope ["thing"] ["thing"] (zj Cy):=fsd
abbrev CB:Stmt:=top 16
theorem KO:FnScope ["thing"] ["thing"] (zj CB):=fsd
abbrev E6:Stmt:=top 17
theorem O4:FnScope ["low","high"] ["low","high"] (zj E6):=fsd
abbrev C8:Stmt:=top 21
theorem Oh:FnScope ["thing"] ["thing"] (zj C8):=fsd
abbrev Eb:Stmt:=top 22
theorem xJ:FnScope ["things","names","number","thing"] ["things"] (zj Eb):=fsd
abbrev BY:Stmt:=top 40
theorem KQ:FnScope ["word"] ["word"] (zj BY):=fsd
abbrev Aq:Stmt:=top 41
theorem GT:FnScope ["word","figures"] ["word"] (zj Aq):=fsd
abbrev Gx:Stmt:=top 37
theorem Bh:FnScope ["drawing","words","part"] ["drawing","words"] (zj Gx):=fsd
abbrev yQ:Stmt:=top 39
theorem DZ:FnScope ["drawing","name","names"] ["drawing","name"] (zj yQ):=fsd
abbrev Cj:Stmt:=top 28
theorem LK:FnScope ["drawing","thing"] ["drawing","thing"] (zj Cj):=fsd
abbrev DY:Stmt:=top 27
theorem wT:FnScope ["drawing","thing","ahead","term"] ["drawing","thing"] (zj DY):=fsd
abbrev FI:Stmt:=top 26
theorem Nd:FnScope ["drawing","thing"] ["drawing","thing"] (zj FI):=fsd
abbrev oQ:Stmt:=top 38
theorem n9:FnScope ["drawing","gaps","words","ends","times","names","parts","gap"] ["drawing","gaps","words"] (zj oQ):=fsd
abbrev Gz:Stmt:=top 36
theorem Jv:FnScope ["job","words"] ["job","words"] (zj Gz):=fsd
abbrev Er:Stmt:=top 35
theorem nP:FnScope ["text","rows","job","number","row"] ["text"] (zj Er):=fsd
abbrev Dr:Stmt:=top 34
theorem wO:FnScope ["drawing","gap","words","part","times"] ["drawing","gap"] (zj Dr):=fsd
abbrev uZ:Stmt:=top 33
theorem GP:FnScope ["job","rows"] ["job"] (zj uZ):=fsd
abbrev ER:Stmt:=top 47
theorem NI:FnScope ["found"] ["found"] (zj ER):=fsd
abbrev GQ:Stmt:=top 56
theorem tK:FnScope ["e","marks","words"] ["e"] (zj GQ):=fsd
abbrev Fe:Stmt:=top 65
theorem qL:FnScope ["text","due","told","e"] ["text"] (zj Fe):=fsd
abbrev D4:Stmt:=top 55
theorem zX:FnScope ["drawing","gaps","rows","name","low","high","terms","row","part","times"] ["drawing","gaps"] (zj D4):=fsd
abbrev GH:Stmt:=top 63
theorem mY:FnScope ["row","pen","words","at","way","odd"] ["row","pen"] (zj GH):=fsd
abbrev El:Stmt:=top 64
theorem xF:FnScope ["rows","pen","at","to","way"] ["rows","pen"] (zj El):=fsd
abbrev B4:Stmt:=top 52
theorem kF:FnScope ["drawing","terms","least","most","part","times","ends"] ["drawing","terms"] (zj B4):=fsd
abbrev Ez:Stmt:=top 53
theorem iC:FnScope ["pen","drawing","terms","part","times","least","most","wide","low","high"] ["pen","drawing"] (zj Ez):=fsd
abbrev A9:Stmt:=top 54
theorem Bc:FnScope ["pen","drawing","most","gaps"] ["pen","drawing","most"] (zj A9):=fsd
abbrev s_law:Stmt:=top 66
theorem jK:FnScope ["script","some","cell","pen","drawing","rows","turn","spoilt"] ["script"] (zj s_law):=fsd
abbrev s_I_NoDrawing:Stmt:=AX (top 7) 0
theorem IM:FnScope ["self","number"] ["self","number"] (zj s_I_NoDrawing):=fsc (by decide +kernel)
abbrev s_I_NoGap:Stmt:=AX (top 8) 0
theorem Km:FnScope ["self","number"] ["self","number"] (zj s_I_NoGap):=fsc (by decide +kernel)
abbrev s_I_NoText:Stmt:=AX (top 10) 0
theorem FQ:FnScope ["self","row"] ["self","row"] (zj s_I_NoText):=fsc (by decide +kernel)
structure Txt(mg:Str->Option bb):Prop where
 n_all:mg "all" = none
 n_range:mg "range" = none
 n_len:mg "len" = none
 n_max:mg "max" = none
 n_int:mg "int" = none
 n_tuple:mg "tuple" = none
 n_isinstance:mg "isinstance" = none
 n_str:mg "str" = none
 n_bool:mg "bool" = none
 n_abs:mg "abs" = none
 n_enumerate:mg "enumerate" = none
 n_list:mg "list" = none
 n_zip:mg "zip" = none
 n_ValueError:mg "ValueError" = none
 n_min:mg "min" = none
 g_LONGEST_NAME:∃t,mg "LONGEST_NAME" = some (.int 8 t)
 g_LETTERS:∃t,mg "LETTERS" = some (.str "abcdefghijklmnopqrstuvwxyz" t)
 g_MOST_PARTS:∃t,mg "MOST_PARTS" = some (.int 8 t)
 g_FIGURES:∃t,mg "FIGURES" = some (.str "0123456789" t)
 g_MOST_FIGURES:∃t,mg "MOST_FIGURES" = some (.int 60 t)
 g_MOST_TIMES:∃t,mg "MOST_TIMES" = some (.int 3 t)
 g_MOST_TERMS:∃t,mg "MOST_TERMS" = some (.int 8 t)
 g_MOST_GAPS:∃t,mg "MOST_GAPS" = some (.int 6 t)
structure Dds(K:bt)(mg:Str->Option bb):Prop where
 a0:Dd K mg "_law_cell_at" G8 ["script","k"]
 a1:Dd K mg "_law_pen_of" FE ["cell"]
 a2:Dd K mg "_law_next" Db ["seed"]
 a3:Dd K mg "_law_draw" Ba ["pen","many"]
 a4:Dd K mg "_law_names_of" rR ["pen"]
 a5:Dd K mg "_law_number" G2 ["pen"]
 a6:Dd K mg "_law_span_of" De ["pen"]
 a7:Dd K mg "_law_drawing_of" Cm ["pen","most"]
 a8:Dd K mg "_law_value_of" yY ["word"]
 a9:Dd K mg "_law_span_words" C5 ["words"]
 a10:Dd K mg "_law_named" AG ["word"]
 a11:Dd K mg "_law_part_row" EV ["words","names"]
 a12:Dd K mg "_law_gap_row" GD ["words","names"]
 a13:Dd K mg "_law_due_of" Gb ["text"]
 a14:Dd K mg "is_name" AS ["thing"]
 a15:Dd K mg "is_whole" Cy ["thing"]
 a16:Dd K mg "is_number" CB ["thing"]
 a17:Dd K mg "are_ends" E6 ["low","high"]
 a18:Dd K mg "is_part" C8 ["thing"]
 a19:Dd K mg "drawing_of" Eb ["things"]
 a20:Dd K mg "name_told" BY ["word"]
 a21:Dd K mg "number_told" Aq ["word"]
 a22:Dd K mg "one_part_more" Gx ["drawing","words"]
 a23:Dd K mg "part_called" yQ ["drawing","name"]
 a24:Dd K mg "is_term" Cj ["drawing","thing"]
 a25:Dd K mg "are_terms" DY ["drawing","thing"]
 a26:Dd K mg "is_gap" FI ["drawing","thing"]
 a27:Dd K mg "one_gap_more" oQ ["drawing","gaps","words"]
 a28:Dd K mg "with_row" Gz ["job","words"]
 a29:Dd K mg "read" Er ["text"]
 a30:Dd K mg "gap_row" Dr ["drawing","gap"]
 a31:Dd K mg "shown" uZ ["job"]
 a32:Dd K mg "_law_whole" ER ["found"]
 a33:Dd K mg "_law_kind" GQ ["e"]
 a34:Dd K mg "_law_right" Fe ["text"]
 a35:Dd K mg "_law_text_of" D4 ["drawing","gaps"]
 a36:Dd K mg "_law_words_of" GH ["row","pen"]
 a37:Dd K mg "_law_spoilt_of" El ["rows","pen"]
 a38:Dd K mg "_law_ends_of" B4 ["drawing","terms"]
 a39:Dd K mg "_law_gap_of" Ez ["pen","drawing"]
 a40:Dd K mg "_law_gaps_of" A9 ["pen","drawing","most"]
structure Exx(K:bt)(mg:Str->Option bb):Prop where
 ex:Exs K
 m_GaugeError:mg "GaugeError" = some (.ref 24)
 m_NoSpan:mg "NoSpan" = some (.ref 37)
 m_NoPart:mg "NoPart" = some (.ref 49)
 m_NoSet:mg "NoSet" = some (.ref 61)
 m_NoRow:mg "NoRow" = some (.ref 73)
 m_Unlike:mg "Unlike" = some (.ref 85)
 m_NoDrawing:mg "NoDrawing" = some (.ref 104)
 m_NoGap:mg "NoGap" = some (.ref 123)
 m_NoOffer:mg "NoOffer" = some (.ref 142)
 m_NoText:mg "NoText" = some (.ref 161)
 m_TooGreat:mg "TooGreat" = some (.ref 180)
 c_GaugeError:ExCls K 24 none
 c_NoSpan:ExCls K 37 none
 c_NoPart:ExCls K 49 none
 c_NoSet:ExCls K 61 none
 c_NoRow:ExCls K 73 none
 c_Unlike:ExCls K 85 none
 r_NoDrawing:XI K 104 ["number"] "NoDrawing.__init__" s_I_NoDrawing
 r_NoGap:XI K 123 ["number"] "NoGap.__init__" s_I_NoGap
 r_NoText:XI K 161 ["row"] "NoText.__init__" s_I_NoText
 a_row:ExsI K [161] "row"
section
variable {P:df}{w:gg}{K:bt}{mg:Str->Option bb}{base:Heap}
theorem CK:L2.ctxG=([.ref 161]:List PySem.Value):=rfl
theorem Kh:bv 161∈ctxG:=by rw[CK];exact cw
theorem EN:∀D∈([73,104,49,123]:List Addr),D∈excs/\bv D∉ctxG:=by rw[CK];intro D m;simp only[jt,ia,or_false]at m;rcases m with rfl|rfl|rfl|rfl<;>exact⟨by decide,yv⟩
theorem O6{f:Addr}{fd:ki}(F:Fun K "__init__" "NoText.__init__" s_I_NoText f fd):FnOkN P w K mg base CX0 1 f fd ["self","row"] (spI K ["row"]):=F.okN FQ wX fun aa A outer s H vs Q E h=>⟨_,(zi (uU (pv 0) (pv 1) rfl)),init1 h⟩
theorem x0{f:Addr}{fd:ki}(F:Fun K "__init__" "NoDrawing.__init__" s_I_NoDrawing f fd):FnOk P w K mg base CX0 1 f fd ["self","number"] (spI K ["number"]):=F.ok IM wX fun aa A outer s H vs Q E hr h=>⟨_,(zi (uU (pv 0) (pv 1) rfl)),init1 h⟩
theorem Nn{f:Addr}{fd:ki}(F:Fun K "__init__" "NoGap.__init__" s_I_NoGap f fd):FnOk P w K mg base CX0 1 f fd ["self","number"] (spI K ["number"]):=F.ok Km wX fun aa A outer s H vs Q E hr h=>⟨_,(zi (uU (pv 0) (pv 1) rfl)),init1 h⟩
theorem GR{f:Addr}{fd:ki}(F:Fun K "__init__" "NoText.__init__" s_I_NoText f fd):FnOk P w K mg base CX0 1 f fd ["self","row"] (spI K ["row"]):=F.ok FQ wX fun aa A outer s H vs Q E hr h=>⟨_,(zi (uU (pv 0) (pv 1) rfl)),init1 h⟩
local macro_rules|`(tactic|walk_at "r")=>do
 let ts<-("zv 0,zm 2,zK 0,aV 0,zD 0,aO 0,jP 0,fG 0,bL 2,cR 1,zP 2,zP 0,cF 0,nX 2,B8 0,i7 3,v8 0,y0 0,i6 2,wV 1,yW 4,Au 0,Eh 0,Jq 0,gF 1,mS 1,j7 1,bL 0,gZ 0,xE 2,zm 0,dE 0,rL 2,Bf 1,mF 0,qU 0,tO 2,KB 2,MG 0,Kz 0,fX 0,yV 0,B7 2,Ih 1,cR 0,Kn 0,EO 1,F5 0,Cd 0,mP 3,JI 5,wL 1,hZ 1,MZ 0,i7 0,vR 3,G5 0,mP 0,oH 0,n5 1,L7 0,vG 0,BC 0,gF 0,j7 0,HX 2,xY 3,rL 0,Hk 2,mS 0,IA 1,vY 0,Ix 1,HV 0,Fc 0,wL 0,vR 0,Oz 0,PL 0,NN 0,Lw 2,Lv 0,OO 2,oK 1,tO 0,Ak 0,Ms 1,Hb 1,Jd 0,HP 0,GV 0,Ob 1,B5 0,yI 0,xY 0,Nl 0,NZ 0,O8 1,L4 1,i6 1,aM 3,dF 2,kI 1,dF 0,aM 0,kI 0".splitOn ",").toArray.mapM fun x=>do
  let i:=x.splitOn " "
  let h<-`(term|?_)
  let hs:=Array.replicate ((i.getD 1 "").toNat!) h
  `(Lean.Parser.Tactic.tacticSeq|refine $(Lean.mkIdent (i.getD 0 "").toName) $hs*)
 `(tactic|repeat' (first|with_reducible (first $[|$ts:tacticSeq]*)|rfl))
theorem Ha(T:Txt mg:=by assumption)(dd:Dds K mg:=by assumption):Df P w K mg base "_law_cell_at" ["script","k"] 1 (sp2 (yZ K)):=by
 refine Df.of2 dd.a0 JP (fun v u=>[some v,some u]) (fun _ _=>rfl) fun f aa A outer s H v u Q E hr h=>?_;obtain⟨a,ns,i,rfl,rfl,hS,h0,q⟩:=h;refine⟨_,(zf (aF (zA iB (pv 1) (zn K8 (by rfl) T.n_len aS (za (pv 0) zd)) (nomark _)) (zi (zC (zN Bx (pv 0) (pv 1) (fun _ _=>rfl)))) zJ) (zi (zC ze))),?_⟩;simp only[bM,uE,oS,tOp,Lf,tCB,fQ,nY,u8,tC,AO,DQ,getElem?_cons_zero,ku];refine⟨a,_,rfl,.inl hS,?_⟩;simp only[DQ,NF,decide_eq_true_eq];refine ite2 (fun hi=>?_) (fun _=>q 0);obtain⟨n,e⟩:=MP h0 hi;exact⟨a,_,i,_,rfl,rfl,hS,e,q n⟩
variable (T:Txt mg:=by assumption) (dd:Dds K mg:=by assumption) (xx:Exx K mg:=by assumption)
include T dd xx
theorem Ky:Df P w K mg base "_law_pen_of" ["cell"] 1 (spN ["cell"] wG):=by
 exact Df.dN dd.a1 Cb 1 rfl fun f aa A outer s H E hr=>⟨_,_,(zf (zF (i:=1) Cb.nd rfl lo (zn (KR rfl) (by rfl) T.n_max Dp (za (pv 0) (za (zy nG ze (pv 0)) zd)))) (zi (zC (bF (za (pv 1) (za (eF LQ (by rfl) T.n_int vK (za (fO Ja (pv 1) (zy nN ze ze) (nomark _)) zd)) (za (zy iK (pv 1) ze) zd))))))),(by walk_at "r"),fun xs S R q=>q⟩
theorem FB:Df P w K mg base "_law_next" ["seed"] 1 (spN ["seed"] uG):=by
 exact Df.dN dd.a2 C7 0 rfl fun f aa A outer s H E hr=>⟨_,_,(zf (zF (i:=0) C7.nd rfl lo (zy iK (zy zr (pv 0) ze) ze)) (zi (zC (zy iK (zy zr (zy zr (zy dW (pv 0) (pv 0)) (zy dW ze (pv 0))) ze) ze)))),(by walk_at "r"),fun xs S R q=>q⟩
theorem zI:Df P w K mg base "_law_draw" ["pen","many"] 2 (spN ["pen","many"] zt):=by
 exact Df.dN dd.a3 C1 1 rfl fun f aa A outer s H E hr=>⟨_,_,(zf (aF (zA (aU hr.units) (zN zw (pv 0) ze (fun _ _=>rfl)) ze (nomark _)) (zf (zF (i:=2) C1.nd rfl lo (zy iK (zN zw (pv 0) ze (fun _ _=>rfl)) (pv 1))) (zf (vP (zy rS (zN zw (pv 0) ze (fun _ _=>rfl)) (pv 1)) (AM (pv 0) ze A6)) (zi (zC (pv 2))))) zJ) (zf (vP (zH FB hr dz (za (zy zr (zH FB hr dz (za (zN zw (pv 0) ze (fun _ _=>rfl)) zd)) ze) zd)) (AM (pv 0) ze A6)) (zi (zC (zy iK (zy rS (zN zw (pv 0) ze (fun _ _=>rfl)) ze) (pv 1)))))),(by walk_at "r"),fun xs S R q=>q⟩
theorem JO:Df P w K mg base "_law_names_of" ["pen"] 3 (spN ["pen"] uL):=by
 exact Df.dN dd.a4 hU 6 rfl fun f aa A outer s H E hr=>⟨_,_,(zf (zF (i:=1) hU.nd rfl (Or.inr rfl) zq) (zf (zF (i:=2) hU.nd rfl lo (zH zI hr dz (za (pv 0) (za ze zd)))) (zf (zF (i:=3) hU.nd rfl (Or.inr rfl) (zH zI hr dz (za (pv 0) (za ze zd)))) (zf (tH (i:=4) (fun _ _ h=>h) rfl (dP rfl rfl rfl rfl (N:=["k","letters","first"]) (caps:=[none,some 1,some 3]) (by show c8 ["pen","letters","way","first","names","word","at"] (zj rR).names _ _ _=true;decide +kernel)) hU.nd rfl rfl (jZ rfl T.n_range (za ze zd)) (fun _ _ _ _=>(zM (i:=0) (by show kg (["k","letters","first"]:List Str);decide) rfl (ii rfl))) (fun _ _ _ _=>eZ) (fun _ _ _ _=>(zy dW (zN zw (pv 1) (zy iK (zy zr (pv 2) (zy dW ze (pv 0))) ze) (fun _ _=>rfl)) (zy zr ze (zy iK (zy zr (pv 2) (zy dW ze (pv 0))) ze))))) (zf (aF (zA (aU hr.units) (pv 2) ze (nomark _)) (zf (zF (i:=5) hU.nd rfl (Or.inr rfl) (bG PySem.F.plainAttrs_str PySem.F.slot_str_join PySem.F.type_str_join jS zq (za (lY (fun _ _ h=>h) rfl (dP rfl rfl rfl rfl (N:=["k","letters","first"]) (caps:=[none,some 1,some 3]) (by show c8 ["pen","letters","way","first","names","word","at"] (zj rR).names _ _ _=true;decide +kernel)) (jZ rfl T.n_range (za ze zd)) (fun _ _ _ _=>(zM (i:=0) (by show kg (["k","letters","first"]:List Str);decide) rfl (ii rfl))) (fun _ _ _ _=>eZ) (fun _ _ _ _=>(zN zw (pv 1) (zy iK (zy zr (pv 2) (zy dW ze (pv 0))) ze) (fun _ _=>rfl)))) zd))) (zi (tH (i:=4) (fun _ _ h=>h) rfl (dP rfl rfl rfl rfl (N:=["k","word"]) (caps:=[none,some 5]) (by show c8 ["pen","letters","way","first","names","word","at"] (zj rR).names _ _ _=true;decide +kernel)) hU.nd rfl rfl (jZ rfl T.n_range (za ze zd)) (fun _ _ _ _=>(zM (i:=0) (by show kg (["k","word"]:List Str);decide) rfl (ii rfl))) (fun _ _ _ _=>eZ) (fun _ _ _ _=>(zW bO (pv 1) bS (aY (zy zr (pv 0) ze))))))) zJ) (zf (aF (zA (aU hr.units) (pv 2) ze (nomark _)) (zi (zF (i:=4) hU.nd rfl lo (bF (za zq (za zq (za zq (za zq (za zq (za zq (za zq (za zq zd))))))))))) zJ) (zf (zF (i:=6) hU.nd rfl lo (zH zI hr dz (za (pv 0) (za ze zd)))) (zf (zF (i:=4) hU.nd rfl lo (zy AN (zW bO (pv 4) (aY (pv 6)) bS) (zW bO (pv 4) bS (aY (pv 6))))) (zf (aF (zA (aU hr.units) (zH zI hr dz (za (pv 0) (za ze zd))) ze (nomark _)) (zi (kQ (Je PySem.F.plainAttrs_list PySem.F.slot_list_reverse PySem.F.type_list_reverse Oe (pv 4)))) zJ) (zi (zC (pv 4)))))))))))),(zP (bL aO zD) (zP (by walk_at "r") (zP (by walk_at "r") (zP (bL (wN (n5 (zm aV zK)) zD eQ (aM qU (aM jP zv (aM mF (aM fG zv (aM qU aV zv)) aV)) (aM fG aV (aM mF (aM fG zv (aM qU aV zv)) aV)))) zD) (zP (i7 (by walk_at "r") (zP (bL (dE kK aO (zm (kS (n5 (zm aV zK)) zD eQ (aM jP zv (aM mF (aM fG zv (aM qU aV zv)) aV))) zK)) zD) (bL (wN (n5 (zm aV zK)) zD eQ (yW Au zv Eh (wV (aM fG zv aV)))) zD)) cF) (by walk_at "r")))))),fun xs S R q=>q⟩
theorem NR:Df P w K mg base "_law_number" ["pen"] 3 (spN ["pen"] v0):=by
 exact Df.dN dd.a5 Dn 1 rfl fun f aa A outer s H E hr=>⟨_,_,(zf (zF (i:=1) Dn.nd rfl lo (zH zI hr dz (za (pv 0) (za ze zd)))) (zf (aF (zA iB (pv 1) ze (nomark _)) (zi (zC (zy nG (zH zI hr dz (za (pv 0) (za ze zd))) ze))) zJ) (zf (aF (zA iB (pv 1) ze (nomark _)) (zi (zC (zy nG (zH zI hr dz (za (pv 0) (za ze zd))) ze))) zJ) (zi (zC (zy dW (zy nG (zH zI hr dz (za (pv 0) (za (zy dW ze (zy nN ze ze)) zd))) (zy nN ze ze)) (zy nN ze ze))))))),(by walk_at "r"),fun xs S R q=>q⟩
theorem Mm:Df P w K mg base "_law_span_of" ["pen"] 4 (spN ["pen"] Ap):=by
 exact Df.dN dd.a6 vO 2 rfl fun f aa A outer s H E hr=>⟨_,_,(zf (zF (i:=1) vO.nd rfl lo (zH NR hr dz (za (pv 0) zd))) (zf (zF (i:=2) vO.nd rfl lo (zH zI hr dz (za (pv 0) (za ze zd)))) (zf (aF (zA (aU hr.units) (zH zI hr dz (za (pv 0) (za ze zd))) ze (nomark _)) (zi (zF (i:=2) vO.nd rfl lo (zH zI hr dz (za (pv 0) (za (zy nN ze ze) zd))))) zJ) (zi (zC (cZ (za (pv 1) (za (zy zr (pv 1) (pv 2)) zd)))))))),(by walk_at "r"),fun xs S R q=>q⟩
theorem Jn:Df P w K mg base "_law_drawing_of" ["pen","most"] 5 (spN ["pen","most"] yX):=by
 exact Df.dN dd.a7 wU 3 rfl fun f aa A outer s H E hr=>⟨_,_,(zf (zF (i:=2) wU.nd rfl lo (zH JO hr dz (za (pv 0) zd))) (zf (zF (i:=3) wU.nd rfl lo (bF zd)) (zf (eG ji rfl (jZ rfl T.n_range (za (zy zr ze (zH zI hr dz (za (pv 0) (za (pv 1) zd)))) zd)) (zM (i:=4) wU.nd rfl (ii rfl)) (zi (kQ (bG PySem.F.plainAttrs_list PySem.F.slot_list_append PySem.F.type_list_append oP (pv 3) (za (zy zr (cZ (za (zN zw (pv 2) (pv 4) (fun _ _=>rfl)) zd)) (zH Mm hr dz (za (pv 0) zd))) zd))))) (zi (zC (eF wI (by rfl) T.n_tuple jR (za (pv 3) zd))))))),(by walk_at "r"),fun xs S R q=>q⟩
theorem AQ:Df P w K mg base "_law_value_of" ["word"] 1 (spN ["word"] oU):=by
 exact Df.dN dd.a8 pM 3 rfl fun f aa A outer s H E hr=>⟨_,_,(zf (zF (i:=1) pM.nd rfl lo (wK (zA (aU hr.units) (zW bO (pv 0) bS (aY ze)) zq (nomark _)) (zW bO (pv 0) (aY ze) bS) (pv 0))) (zf (aF (PW.pt (cU (MS true rfl T.n_range (zn zG (by rfl) T.n_len aS (za (pv 1) zd)) (za ze (za ze zd))) (dQ (zA (jE hr.units) (lY (fun _ _ h=>h) rfl (dP (L:=0) rfl rfl rfl rfl (N:=["sign"]) (caps:=[none]) (by show c8 ["word","figures","value","sign"] (zj yY).names _ _ _=true;decide +kernel)) (pG (pv 1)) (fun _ _ _ _=>(zM (i:=0) (by show kg (["sign"]:List Str);decide) rfl (ii rfl))) (fun _ _ _ _=>(C3 (zA (nQ hr.units) (pv 0) zq (by rfl)))) (fun _ _ _ _=>(pv 0))) (bF zd) (nomark _))))) (zi (zC kP)) zJ) (zf (aF (PW.pt (i9 (zA (aU hr.units) (zN zw (pv 1) ze (fun _ _=>rfl)) zq (nomark _)) (mC (zA (jE hr.units) (pv 0) zq (nomark _))))) (zi (zC kP)) zJ) (zf (zF (i:=2) pM.nd rfl lo ze) (zf (eG ji rfl (pG (pv 1)) (zM (i:=3) pM.nd rfl (ii rfl)) (zi (zF (i:=2) pM.nd rfl lo (zy zr (zy dW ze (pv 2)) (bG PySem.F.plainAttrs_str PySem.F.slot_str_index PySem.F.type_str_index OK zq (za (pv 3) zd)))))) (zi (zC (wK (zA (aU hr.units) (pv 1) (pv 0) (nomark _)) (pv 2) (zy nG ze (pv 2)))))))))),(zP (by walk_at "r") (zP (i7 (rL (by walk_at "r") (kI (aM yV (kS (oK zv) zD (kI (aM BC zv aO)) zv) (gF zK)))) (cR vG) cF) (zP (by walk_at "r") (zP (bL aV zD) (zP (mP (oK zv) zD (bL (aM fG (by walk_at "r") (dE Mn aO (zm zv zK))) zD)) (by walk_at "r")))))),fun xs S R q=>q⟩
theorem CF:Df P w K mg base "_law_span_words" ["words"] 2 (spN ["words"] uR):=by
 exact Df.dN dd.a9 yP 2 rfl fun f aa A outer s H E hr=>⟨_,_,(zf (zF (i:=1) yP.nd rfl lo (zH AQ hr dz (za (zN zw (pv 0) ze (fun _ _=>rfl)) zd))) (zf (zF (i:=2) yP.nd rfl lo (zH AQ hr dz (za (zN zw (pv 0) ze (fun _ _=>rfl)) zd))) (zi (zC (eV (fO GX (pv 1) kP (nomark _)) (eV (fO GX (pv 2) kP (nomark _)) (gT (fO dM (pv 1) (pv 2) (nomark _))))))))),(by walk_at "r"),fun xs S R q=>q⟩
theorem Lu:Df P w K mg base "_law_named" ["word"] 1 (spN ["word"] uS):=by
 exact Df.dN dd.a10 Oq 0 rfl fun f aa A outer s H E hr=>⟨_,_,(zi (zC (eV (BI iB iB ze (zn zG (by rfl) T.n_len aS (za (pv 0) zd)) ze) (gT (fO (aU hr.units) (lY (fun _ _ h=>h) rfl (dP (L:=0) rfl rfl rfl rfl (N:=["sign"]) (caps:=[none]) (by show c8 ["word"] (zj AG).names _ _ _=true;decide +kernel)) (pG (pv 0)) (fun _ _ _ _=>(zM (i:=0) (by show kg (["sign"]:List Str);decide) rfl (ii rfl))) (fun _ _ _ _=>(C3 (zA (nQ hr.units) (pv 0) zq (by rfl)))) (fun _ _ _ _=>(pv 0))) (bF zd) (nomark _)))))),(cR (tO (by walk_at "r") (aM v8 (kS (oK zv) zD (kI (aM BC zv aO)) zv) (gF zK)))),fun xs S R q=>q⟩
theorem OS:Df P w K mg base "_law_part_row" ["words","names"] 3 (spN ["words","names"] vF):=by
 exact Df.dN dd.a11 Kf 0 rfl fun f aa A outer s H E hr=>⟨_,_,(zf (aF (PW.pt (cU (zA (jE hr.units) (zn zG (by rfl) T.n_len aS (za (pv 0) zd)) ze (nomark _)) (cU (bY (bZ (zH Lu hr dz (za (zN zw (pv 0) ze (fun _ _=>rfl)) zd)) (fun _=>rfl))) (cU (zA (xU hr.units) (zN zw (pv 0) ze (fun _ _=>rfl)) (pv 1) (by rfl)) (dQ (zA (aU hr.units) (zn zG (by rfl) T.n_len aS (za (pv 1) zd)) ze (nomark _))))))) (zi (zC cJ)) zJ) (zi (zC (zH CF hr dz (za (zW bO (pv 0) (aY ze) bS) zd))))),(by walk_at "r"),fun xs S R q=>q⟩
theorem Ow:Df P w K mg base "_law_gap_row" ["words","names"] 3 (spN ["words","names"] vS):=by
 exact Df.dN dd.a12 xK 2 rfl fun f aa A outer s H E hr=>⟨_,_,(zf (aF (PW.pt (cU (zA iB (zn zG (by rfl) T.n_len aS (za (pv 0) zd)) ze (nomark _)) (cU (zA (aU hr.units) (zy iK (zn zG (by rfl) T.n_len aS (za (pv 0) zd)) ze) ze (nomark _)) (dQ (bY (bZ (zH CF hr dz (za (zW bO (pv 0) (aY ze) (aY ze)) zd)) (fun _=>rfl))))))) (zi (zC cJ)) zJ) (zf (zF (i:=2) xK.nd rfl lo (gI gU ze)) (zf (eG ji rfl (LW rfl T.n_range (za ze (za (zn zG (by rfl) T.n_len aS (za (pv 0) zd)) (za ze zd)))) (zM (i:=3) xK.nd rfl (ii rfl)) (zf (aF (PW.pt (cU (zA (nQ hr.units) (zH AQ hr dz (za (zN zw (pv 0) (pv 3) (fun _ _=>rfl)) zd)) (cZ (za (gI gU ze) (za (gI gU ze) (za (gI gU ze) (za ze (za ze (za ze zd))))))) (by rfl)) (dQ (zA (nQ hr.units) (zN zw (pv 0) (zy zr (pv 3) ze) (fun _ _=>rfl)) (pv 1) (by rfl))))) (zi (zC cJ)) zJ) (zf (aF (zA dM (bG PySem.F.plainAttrs_list PySem.F.slot_list_index PySem.F.type_list_index (wA hr.units) (pv 1) (za (zN zw (pv 0) (zy zr (pv 3) ze) (fun _ _=>rfl)) zd)) (pv 2) (nomark _)) (zi (zC cJ)) zJ) (zi (zF (i:=2) xK.nd rfl lo (bG PySem.F.plainAttrs_list PySem.F.slot_list_index PySem.F.type_list_index (wA hr.units) (pv 1) (za (zN zw (pv 0) (zy zr (pv 3) ze) (fun _ _=>rfl)) zd))))))) (zi (zC cJ))))),(zP (by walk_at "r") (zP (by walk_at "r") (zP (mP (by walk_at "r") zD (zP (by walk_at "r") (zP (i7 (kI (aM y0 (oH vB zv (by walk_at "r")) zv)) (cR gZ) cF) (bL (oH vB zv (by walk_at "r")) zD)))) (cR gZ)))),fun xs S R q=>q⟩
theorem LF:Df P w K mg base "_law_due_of" ["text"] 4 (spN ["text"] wQ):=by
 exact Df.dN dd.a13 lD 5 rfl fun f aa A outer s H E hr=>⟨_,_,(zf (zF (i:=1) lD.nd rfl lo (bF zd)) (zf (zF (i:=2) lD.nd rfl lo ze) (zf (zF (i:=3) lD.nd rfl lo (bG PySem.F.plainAttrs_str PySem.F.slot_str_split PySem.F.type_str_split oB (pv 0) (za zq zd))) (zf (eG ji rfl (jZ rfl T.n_range (za (zn zG (by rfl) T.n_len aS (za (pv 3) zd)) zd)) (zM (i:=4) lD.nd rfl (ii rfl)) (zf (zF (i:=5) lD.nd rfl lo (bG PySem.F.plainAttrs_str PySem.F.slot_str_split PySem.F.type_str_split oB (zN zw (pv 3) (pv 4) (fun _ _=>rfl)) (za zq zd))) (zi (aF (PW.pt (i9 (zA (aU hr.units) (zN zw (pv 5) ze (fun _ _=>rfl)) zq (nomark _)) (i9 (zA (aU hr.units) (pv 2) ze (nomark _)) (mC (bZ (zH OS hr dz (za (pv 5) (za (pv 1) zd))) (fun _=>rfl)))))) (zi (kQ (bG PySem.F.plainAttrs_list PySem.F.slot_list_append PySem.F.type_list_append oP (pv 1) (za (zN zw (pv 5) ze (fun _ _=>rfl)) zd)))) (zi (aF (PW.pt (i9 (zA (aU hr.units) (zN zw (pv 5) ze (fun _ _=>rfl)) zq (nomark _)) (i9 (zA iB (pv 2) ze (nomark _)) (mC (bZ (zH Ow hr dz (za (pv 5) (za (pv 1) zd))) (fun _=>rfl)))))) (zi (zF (i:=2) lD.nd rfl lo (zy zr (pv 2) ze))) (zi (zC (zy zr (pv 4) ze))))))))) (zf (aF (zA (aU hr.units) (pv 2) ze (nomark _)) (zi (zC (zy zr (zn zG (by rfl) T.n_len aS (za (pv 3) zd)) ze))) zJ) (zi (zC kP))))))),(zP (by walk_at "r") (zP (bL aV zD) (zP (bL (dE oO zv (zm aO zK)) zD) (zP (mP (by walk_at "r") zD (zP (bL (dE oO (by walk_at "r") (zm aO zK)) zD) (by walk_at "r"))) (by walk_at "r"))))),fun xs S R q=>q⟩
theorem Dq:Df P w K mg base "is_name" ["thing"] 1 (spN ["thing"] m4):=by
 exact Df.dN dd.a14 L8 0 rfl fun f aa A outer s H E hr=>⟨_,_,(zf (aF (PW.pt (cU (bY (bZ (zn gN (by rfl) T.n_isinstance zB (za (pv 0) (za (fS rfl T.n_str gR (v:=.ty "str") rfl) zd))) (fun _=>rfl))) (dQ (bY (vD dM dM ze (zn zG (by rfl) T.n_len aS (za (pv 0) zd)) (l9 rfl T.g_LONGEST_NAME)))))) (zi (zC cJ)) zJ) (zi (zC (zn (Am rfl) (by rfl) T.n_all A5 (za (lY (fun _ _ h=>h) rfl (dP (L:=0) rfl rfl rfl rfl (N:=["sign"]) (caps:=[none]) (by show c8 ["thing"] (zj AS).names _ _ _=true;decide +kernel)) (pG (pv 0)) (fun _ _ _ _=>(zM (i:=0) (by show kg (["sign"]:List Str);decide) rfl (ii rfl))) (fun _ _ _ _=>eZ) (fun _ _ _ _=>(fO (xU hr.units) (pv 0) (EK rfl T.g_LETTERS) (by rfl)))) zd))))),(zP (by walk_at "r") (cR (dF vY (zm (kS (oK zv) zD eQ (aM Ak zv aO)) zK)))),fun xs S R q=>q⟩
theorem xR:Df P w K mg base "is_whole" ["thing"] 1 (spN ["thing"] nO):=by
 exact Df.dN dd.a15 LH 0 rfl fun f aa A outer s H E hr=>⟨_,_,(zi (zC (eV (zn gN (by rfl) T.n_isinstance zB (za (pv 0) (za (fS rfl T.n_int vK (v:=.ty "int") rfl) zd))) (gT (Ev (zn gN (by rfl) T.n_isinstance zB (za (pv 0) (za (fS rfl T.n_bool Gv (v:=.ty "bool") rfl) zd)))))))),(by walk_at "r"),fun xs S R q=>q⟩
theorem Cv:Df P w K mg base "is_number" ["thing"] 2 (spN ["thing"] sR):=by
 exact Df.dN dd.a16 KO 0 rfl fun f aa A outer s H E hr=>⟨_,_,(zi (zC (eV (zH xR hr dz (za (pv 0) zd)) (gT (fO iB (zn Gk (by rfl) T.n_abs CD (za (pv 0) zd)) (zy nN ze ze) (nomark _)))))),(by walk_at "r"),fun xs S R q=>q⟩
theorem C0:Df P w K mg base "are_ends" ["low","high"] 3 (spN ["low","high"] sT):=by
 exact Df.dN dd.a17 O4 0 rfl fun f aa A outer s H E hr=>⟨_,_,(zi (zC (eV (zH Cv hr dz (za (pv 0) zd)) (eV (zH Cv hr dz (za (pv 1) zd)) (gT (fO dM (pv 0) (pv 1) (nomark _))))))),(by walk_at "r"),fun xs S R q=>q⟩
theorem HZ:Df P w K mg base "is_part" ["thing"] 4 (spN ["thing"] nR):=by
 exact Df.dN dd.a18 Oh 0 rfl fun f aa A outer s H E hr=>⟨_,_,(zf (aF (PW.pt (cU (bY (bZ (zn gN (by rfl) T.n_isinstance zB (za (pv 0) (za (fS rfl T.n_tuple jR (v:=.ty "tuple") rfl) zd))) (fun _=>rfl))) (dQ (zA (jE hr.units) (zn zG (by rfl) T.n_len aS (za (pv 0) zd)) ze (nomark _))))) (zi (zC cJ)) zJ) (zi (zC (eV (zH Dq hr dz (za (zN zw (pv 0) ze (fun _ _=>rfl)) zd)) (gT (zH C0 hr dz (za (zN zw (pv 0) ze (fun _ _=>rfl)) (za (zN zw (pv 0) ze (fun _ _=>rfl)) zd)))))))),(by walk_at "r"),fun xs S R q=>q⟩
theorem K7:DfX P w K mg base "drawing_of" ["things"] 5 (spX ["things"] w6):=by
 exact DfX.dN dd.a19 xJ 3 rfl fun f aa A outer s H E EX hr=>⟨_,_,(zf (zF (i:=1) xJ.nd rfl lo CT) (zf (eG PassesOwn.leaving rfl (KI rfl T.n_enumerate (za (pv 0) zd)) (iR (n:=2) rfl (cL (zM (i:=2) xJ.nd rfl (ii rfl)) (cL (zM (i:=3) xJ.nd rfl (ii rfl)) jF))) (zf (aF (PW.pt (cU (PT.nox (bY (bZ (zH HZ hr dz (za (pv 3) zd)) (fun _=>rfl)))) (dQ (zA (M0 hr.units) (PE.nox (zN zw (pv 3) ze (fun _ _=>rfl))) (pv 1) (by rfl))))) (zi (n6 xx.r_NoDrawing (fun _ _ F=>x0 F) nZ hr dz xx.m_NoDrawing dz (za (pv 2) zd))) zJ) (zi (Lg (OL hr) (pv 1) (PE.nox (zN zw (pv 3) ze (fun _ _=>rfl))) (PE.nox cJ) rfl)))) (zf (aF (PT.nox (bY (vD dM dM ze (zn zG (by rfl) T.n_len aS (za (pv 0) zd)) (l9 rfl T.g_MOST_PARTS)))) (zi (n6 xx.r_NoDrawing (fun _ _ F=>x0 F) nZ hr dz xx.m_NoDrawing dz (za (zn zG (by rfl) T.n_len aS (za (pv 0) zd)) zd))) zJ) (PSs.nox (zi (zC (eF wI (by rfl) T.n_tuple jR (za (pv 0) zd)))))))),(Nf (Lo (GV (O3 (fun M=>kH (by walk_at "r")) (by walk_at "r") (Mx (Ho (fun M=>(O9 (cQ (by walk_at "r")) (Ka (IQ B5 (jQ (by walk_at "r")) (jQ zv))))) (yI (nJ xx.r_NoDrawing.i xx.r_NoDrawing.na (zm zv zK))) (Jb cF)) (HQ (fun M=>(jQ (by walk_at "r"))) (fun M=>(jQ gZ))))))) (bT (fJ (cQ (by walk_at "r")) (nJ xx.r_NoDrawing.i xx.r_NoDrawing.na (by walk_at "r")) (bV cF)) (bV (by walk_at "r")))),fun xs S R q=>q⟩
theorem Bd:DfX P w K mg base "name_told" ["word"] 2 (spX ["word"] rT):=by
 exact DfX.dN dd.a20 KQ 0 rfl fun f aa A outer s H E EX hr=>⟨_,_,(zf (aF (PT.nox (bY (bZ (zH Dq hr dz (za (pv 0) zd)) (fun _=>rfl)))) (zi (mB rfl raises1 rfl xx.m_NoRow xx.c_NoRow)) zJ) (PSs.nox (zi (zC (pv 0))))),(bT (fJ (cQ (by walk_at "r")) lM (bV cF)) (bV (cR zv))),fun xs S R q=>q⟩
theorem wY:DfX P w K mg base "number_told" ["word"] 1 (spX ["word"] lA):=by
 exact DfX.dN dd.a21 GT 1 rfl fun f aa A outer s H E EX hr=>⟨_,_,(zf (pP (zF (i:=1) GT.nd rfl lo (wK (bZ (bG PySem.F.plainAttrs_str PySem.F.slot_str_startswith PySem.F.type_str_startswith JC (pv 0) (za zq zd)) (fun _=>rfl)) (zW bO (pv 0) (aY ze) bS) (pv 0)))) (zf (aF (PT.nox (PW.pt (cU (bY (vD dM dM ze (zn zG (by rfl) T.n_len aS (za (pv 1) zd)) (l9 rfl T.g_MOST_FIGURES))) (dQ (bY (bZ (zn (Am rfl) (by rfl) T.n_all A5 (za (lY (fun _ _ h=>h) rfl (dP (L:=0) rfl rfl rfl rfl (N:=["figure"]) (caps:=[none]) (by show c8 ["word","figures"] (zj Aq).names _ _ _=true;decide +kernel)) (pG (pv 1)) (fun _ _ _ _=>(zM (i:=0) (by show kg (["figure"]:List Str);decide) rfl (ii rfl))) (fun _ _ _ _=>eZ) (fun _ _ _ _=>(fO (xU hr.units) (pv 0) (EK rfl T.g_FIGURES) (by rfl)))) zd)) (fun _=>rfl))))))) (zi (mB rfl raises1 rfl xx.m_NoRow xx.c_NoRow)) zJ) (zf (aF (PT.nox (PW.pt (i9 (zA (aU hr.units) (zN zw (pv 1) ze (fun _ _=>rfl)) zq (nomark _)) (mC (zA (jE hr.units) (pv 0) zq (nomark _)))))) (zi (mB rfl raises1 rfl xx.m_NoRow xx.c_NoRow)) zJ) (PSs.nox (zi (zC (eF Ip (by rfl) T.n_int vK (za (pv 0) zd)))))))),(bT (bV (bL (xY (j7 (dE OZ zv (zm aO zK))) (by walk_at "r") zv) zD)) (bT (fJ (cQ (rL (by walk_at "r") (mS (j7 (dF vY (zm (kS (oK zv) zD eQ (aM Ak zv aO)) zK)))))) lM (bV cF)) (bT (fJ (cQ (by walk_at "r")) lM (bV cF)) (bV (by walk_at "r"))))),fun xs S R q=>q⟩
theorem Ng:DfX P w K mg base "one_part_more" ["drawing","words"] 6 (spX ["drawing","words"] wE):=by
 exact DfX.dN dd.a22 Bh 1 rfl fun f aa A outer s H E EX hr=>⟨_,_,(zf (aF (PT.nox (zA (jE hr.units) (zn zG (by rfl) T.n_len aS (za (pv 1) zd)) ze (nomark _))) (zi (mB rfl raises1 rfl xx.m_NoRow xx.c_NoRow)) zJ) (zf (zF (i:=2) Bh.nd rfl lo (cZ (za (iL Bd pass1 hr dz (za (PE.nox (zN zw (pv 1) ze (fun _ _=>rfl))) zd)) (za (iL wY pass1 hr dz (za (PE.nox (zN zw (pv 1) ze (fun _ _=>rfl))) zd)) (za (iL wY pass1 hr dz (za (PE.nox (zN zw (pv 1) ze (fun _ _=>rfl))) zd)) zd))))) (zf (aF (PT.nox (zA (aU hr.units) (zn zG (by rfl) T.n_len aS (za (pv 0) zd)) (l9 rfl T.g_MOST_PARTS) (nomark _))) (zi (n6 xx.r_NoDrawing (fun _ _ F=>x0 F) nZ hr dz xx.m_NoDrawing dz (za (zn zG (by rfl) T.n_len aS (za (pv 0) zd)) zd))) zJ) (zi (zC (iL K7 pass1 hr dz (za (PE.nox (zy zr (eF Lr (by rfl) T.n_list HJ (za (pv 0) zd)) (bF (za (pv 2) zd)))) zd))))))),(bT (fJ (cQ (by walk_at "r")) lM (bV cF)) (bT (sY (yK (mW (hV (fL (by walk_at "r"))) (mW (hV (fL (by walk_at "r"))) (mW (hV (fL (by walk_at "r"))) (fL zK))))) zD) (bT (fJ (cQ (by walk_at "r")) (nJ xx.r_NoDrawing.i xx.r_NoDrawing.na (by walk_at "r")) (bV cF)) (Ax (hV (fL (by walk_at "r"))))))),fun xs S R q=>q⟩
theorem Iq:DfX P w K mg base "part_called" ["drawing","name"] 1 (spX ["drawing","name"] wZ):=by
 exact DfX.dN dd.a23 DZ 1 rfl fun f aa A outer s H E EX hr=>⟨_,_,(zf (pP (tH (i:=2) (fun _ _ h=>h) rfl (dP (L:=0) rfl rfl rfl rfl (N:=["part"]) (caps:=[none]) (by show c8 ["drawing","name","names"] (zj yQ).names _ _ _=true;decide +kernel)) DZ.nd rfl rfl (fC (pv 0)) (fun _ _ _ _=>(zM (i:=0) (by show kg (["part"]:List Str);decide) rfl (ii rfl))) (fun _ _ _ _=>eZ) (fun _ _ _ _=>(zN zw (pv 0) ze (fun _ _=>rfl))))) (zf (aF (PT.nox (zA (nQ hr.units) (pv 1) (pv 2) (by rfl))) (zi (mB rfl raises1 rfl xx.m_NoPart xx.c_NoPart)) zJ) (PSs.nox (zi (zC (bG PySem.F.plainAttrs_list PySem.F.slot_list_index PySem.F.type_list_index (wA hr.units) (pv 2) (za (pv 1) zd))))))),(bT (bV (bL (kS (hZ zv) zD eQ (aM jP zv aV)) zD)) (bT (fJ (cQ (by walk_at "r")) lM (bV cF)) (bV (cR (oH vB zv (zm zv zK)))))),fun xs S R q=>q⟩
theorem JD:Df P w K mg base "is_term" ["drawing","thing"] 2 (spN ["drawing","thing"] wJ):=by
 exact Df.dN dd.a24 LK 0 rfl fun f aa A outer s H E hr=>⟨_,_,(zf (aF (PW.pt (cU (bY (bZ (zn gN (by rfl) T.n_isinstance zB (za (pv 1) (za (fS rfl T.n_tuple jR (v:=.ty "tuple") rfl) zd))) (fun _=>rfl))) (dQ (zA (jE hr.units) (zn zG (by rfl) T.n_len aS (za (pv 1) zd)) ze (nomark _))))) (zi (zC cJ)) zJ) (zf (aF (PW.pt (cU (bY (bZ (zH xR hr dz (za (zN zw (pv 1) ze (fun _ _=>rfl)) zd)) (fun _=>rfl))) (dQ (bY (bZ (zH xR hr dz (za (zN zw (pv 1) ze (fun _ _=>rfl)) zd)) (fun _=>rfl)))))) (zi (zC cJ)) zJ) (zi (zC (eV (BI dM iB ze (zN zw (pv 1) ze (fun _ _=>rfl)) (zn zG (by rfl) T.n_len aS (za (pv 0) zd))) (gT (BI dM dM ze (zn Gk (by rfl) T.n_abs CD (za (zN zw (pv 1) ze (fun _ _=>rfl)) zd)) (l9 rfl T.g_MOST_TIMES)))))))),(by walk_at "r"),fun xs S R q=>q⟩
theorem Hz:Df P w K mg base "are_terms" ["drawing","thing"] 3 (spN ["drawing","thing"] wP):=by
 exact Df.dN dd.a25 wT 2 rfl fun f aa A outer s H E hr=>⟨_,_,(zf (aF (PW.pt (cU (bY (bZ (zn gN (by rfl) T.n_isinstance zB (za (pv 1) (za (fS rfl T.n_tuple jR (v:=.ty "tuple") rfl) zd))) (fun _=>rfl))) (dQ (bY (vD dM dM ze (zn zG (by rfl) T.n_len aS (za (pv 1) zd)) (l9 rfl T.g_MOST_TERMS)))))) (zi (zC cJ)) zJ) (zf (zF (i:=2) wT.nd rfl lo (gI gU ze)) (zf (eG ji rfl (fC (pv 1)) (zM (i:=3) wT.nd rfl (ii rfl)) (zf (aF (PW.pt (cU (bY (bZ (zH JD hr dz (za (pv 0) (za (pv 3) zd))) (fun _=>rfl))) (dQ (zA dM (zN zw (pv 3) ze (fun _ _=>rfl)) (pv 2) (nomark _))))) (zi (zC cJ)) zJ) (zi (zF (i:=2) wT.nd rfl lo (zN zw (pv 3) ze (fun _ _=>rfl)))))) (zi (zC cJ))))),(by walk_at "r"),fun xs S R q=>q⟩
theorem MV:Df P w K mg base "is_gap" ["drawing","thing"] 4 (spN ["drawing","thing"] vT):=by
 exact Df.dN dd.a26 Nd 0 rfl fun f aa A outer s H E hr=>⟨_,_,(zf (aF (PW.pt (cU (bY (bZ (zn gN (by rfl) T.n_isinstance zB (za (pv 1) (za (fS rfl T.n_tuple jR (v:=.ty "tuple") rfl) zd))) (fun _=>rfl))) (dQ (zA (jE hr.units) (zn zG (by rfl) T.n_len aS (za (pv 1) zd)) ze (nomark _))))) (zi (zC cJ)) zJ) (zi (zC (eV (zH Hz hr dz (za (pv 0) (za (zN zw (pv 1) ze (fun _ _=>rfl)) zd))) (gT (zH C0 hr dz (za (zN zw (pv 1) ze (fun _ _=>rfl)) (za (zN zw (pv 1) ze (fun _ _=>rfl)) zd)))))))),(by walk_at "r"),fun xs S R q=>q⟩
theorem Op:DfX P w K mg base "one_gap_more" ["drawing","gaps","words"] 5 (spX ["drawing","gaps","words"] sS):=by
 exact DfX.dN dd.a27 n9 5 rfl fun f aa A outer s H E EX hr=>⟨_,_,(zf (aF (PT.nox (PW.pt (cU (zA iB (zn zG (by rfl) T.n_len aS (za (pv 2) zd)) ze (nomark _)) (dQ (zA (aU hr.units) (zy iK (zn zG (by rfl) T.n_len aS (za (pv 2) zd)) ze) ze (nomark _)))))) (zi (mB rfl raises1 rfl xx.m_NoRow xx.c_NoRow)) zJ) (zf (uW (i:=3) tQ rfl rfl rfl (dP rfl rfl rfl rfl (N:=["word"]) (caps:=[none]) (by show c8 ["drawing","gaps","words","ends","times","names","parts","gap"] (zj oQ).names _ _ _=true;decide +kernel)) n9.nd rfl rfl (fC (zW bO (pv 2) (aY ze) (aY ze))) (fun _ _ _ _=>(zM (i:=0) (by show kg (["word"]:List Str);decide) rfl (ii rfl))) (fun _ _ _ _=>eZ) (fun _ _ _ _=>(iL wY wW hr dz (za (PE.nox (pv 0)) zd)))) (zf (uW (i:=4) tQ rfl rfl rfl (dP rfl rfl rfl rfl (N:=["word"]) (caps:=[none]) (by show c8 ["drawing","gaps","words","ends","times","names","parts","gap"] (zj oQ).names _ _ _=true;decide +kernel)) n9.nd rfl rfl (fC (Fy (pv 2) ze ze)) (fun _ _ _ _=>(zM (i:=0) (by show kg (["word"]:List Str);decide) rfl (ii rfl))) (fun _ _ _ _=>eZ) (fun _ _ _ _=>(iL wY wW hr dz (za (PE.nox (pv 0)) zd)))) (zf (uW (i:=5) tQ rfl rfl rfl (dP rfl rfl rfl rfl (N:=["word"]) (caps:=[none]) (by show c8 ["drawing","gaps","words","ends","times","names","parts","gap"] (zj oQ).names _ _ _=true;decide +kernel)) n9.nd rfl rfl (fC (Fy (pv 2) ze ze)) (fun _ _ _ _=>(zM (i:=0) (by show kg (["word"]:List Str);decide) rfl (ii rfl))) (fun _ _ _ _=>eZ) (fun _ _ _ _=>(iL Bd wW hr dz (za (PE.nox (pv 0)) zd)))) (zf (uW (i:=6) tQ rfl rfl rfl (dP rfl rfl rfl rfl (N:=["name","drawing"]) (caps:=[none,some 0]) (by show c8 ["drawing","gaps","words","ends","times","names","parts","gap"] (zj oQ).names _ _ _=true;decide +kernel)) n9.nd rfl rfl (fC (pv 5)) (fun _ _ _ _=>(zM (i:=0) (by show kg (["name","drawing"]:List Str);decide) rfl (ii rfl))) (fun _ _ _ _=>eZ) (fun _ _ _ _=>(iL Iq wW hr dz (za (PE.nox (pv 1)) (za (PE.nox (pv 0)) zd))))) (zf (pP (zF (i:=7) n9.nd rfl lo (cZ (za (KH rfl rfl T.n_tuple rfl T.n_zip (za (pv 6) (za (pv 4) zd))) (za (zN zw (pv 3) ze (fun _ _=>rfl)) (za (zN zw (pv 3) ze (fun _ _=>rfl)) zd)))))) (zf (aF (PT.nox (PW.pt (cU (zA (aU hr.units) (zn zG (by rfl) T.n_len aS (za (pv 1) zd)) (l9 rfl T.g_MOST_GAPS) (nomark _)) (dQ (bY (bZ (zH MV hr dz (za (pv 0) (za (pv 7) zd))) (fun _=>rfl))))))) (zi (n6 xx.r_NoGap (fun _ _ F=>Nn F) nZ hr dz xx.m_NoGap dz (za (zn zG (by rfl) T.n_len aS (za (pv 1) zd)) zd))) zJ) (PSs.nox (zi (zC (zy zr (pv 1) (cZ (za (pv 7) zd))))))))))))),(bT (fJ (cQ (by walk_at "r")) lM (bV cF)) (bT (sY (pY (kH (hZ (yW Au zv (wV aV) (wV aV)))) zD (cQ eQ) (hV (fL (zm zv zK)))) zD) (bT (sY (pY (kH (hZ (G1 zv aV aV))) zD (cQ eQ) (hV (fL (zm zv zK)))) zD) (bT (sY (pY (kH (hZ (G1 zv aV aV))) zD (cQ eQ) (hV (fL (zm zv zK)))) zD) (bT (sY (pY (kH (hZ zv)) zD (cQ eQ) (hV (fL (zm zv (zm zv zK))))) zD) (bT (bV (by walk_at "r")) (bT (fJ (cQ (by walk_at "r")) (nJ xx.r_NoGap.i xx.r_NoGap.na (by walk_at "r")) (bV cF)) (bV (by walk_at "r"))))))))),fun xs S R q=>q⟩
theorem MU:DfX P w K mg base "with_row" ["job","words"] 7 (spX ["job","words"] v6):=by
 exact DfX.dN dd.a28 Jv 0 rfl fun f aa A outer s H E EX hr=>⟨_,_,(zf (aF (PT.nox (PW.pt (i9 (zA (aU hr.units) (zN zw (pv 1) ze (fun _ _=>rfl)) zq (nomark _)) (mC (bY (bZ (zN zw (pv 0) ze (fun _ _=>rfl)) (fun _=>rfl))))))) (zi (zC (cZ (za (iL Ng pass1 hr dz (za (PE.nox (zN zw (pv 0) ze (fun _ _=>rfl))) (za (PE.nox (pv 1)) zd))) (za (PE.nox (zN zw (pv 0) ze (fun _ _=>rfl))) zd))))) zJ) (zf (aF (PT.nox (zA (aU hr.units) (zN zw (pv 1) ze (fun _ _=>rfl)) zq (nomark _))) (zi (zC (cZ (za (PE.nox (zN zw (pv 0) ze (fun _ _=>rfl))) (za (iL Op pass1 hr dz (za (PE.nox (zN zw (pv 0) ze (fun _ _=>rfl))) (za (PE.nox (zN zw (pv 0) ze (fun _ _=>rfl))) (za (PE.nox (pv 1)) zd)))) zd))))) zJ) (zi (mB rfl raises1 rfl xx.m_NoRow xx.c_NoRow)))),(bT (fJ (cQ (by walk_at "r")) (Ax (yK (mW (hV (fL (by walk_at "r"))) (mW (jQ (by walk_at "r")) (fL zK))))) (bV cF)) (bT (fJ (cQ (by walk_at "r")) (Ax (yK (mW (jQ (by walk_at "r")) (mW (hV (fL (by walk_at "r"))) (fL zK))))) (bV cF)) lM)),fun xs S R q=>q⟩
theorem Jo:DfX P w K mg base "read" ["text"] 8 (spX ["text"] oZ):=by
 exact DfX.dN dd.a29 nP 4 rfl fun f aa A outer s H E EX hr=>⟨_,_,(zf (aF (PT.nox (bY (bZ (zn gN (by rfl) T.n_isinstance zB (za (pv 0) (za (fS rfl T.n_str gR (v:=.ty "str") rfl) zd))) (fun _=>rfl)))) (zi (n6 xx.r_NoText (fun _ _ F=>GR F) nZ hr dz xx.m_NoText dz (za ze zd))) zJ) (zf (pP (zF (i:=1) nP.nd rfl lo (bG PySem.F.plainAttrs_str PySem.F.slot_str_split PySem.F.type_str_split oB (pv 0) (za zq zd)))) (zf (pP (zF (i:=2) nP.nd rfl lo (cZ (za (cZ zd) (za (cZ zd) zd))))) (zf (eG PassesOwn.leaving rfl (KC rfl T.n_enumerate (za (pv 1) zd)) (iR (n:=2) rfl (cL (zM (i:=3) nP.nd rfl (ii rfl)) (cL (zM (i:=4) nP.nd rfl (ii rfl)) jF))) (zi (NL xx.r_NoText (fun _ _ F=>O6 F) KJ Kh hr dz xx.m_NoText dz dz rfl rfl (.cons rfl xx.m_NoRow dz rfl (.cons rfl xx.m_NoDrawing dz rfl (.cons rfl xx.m_NoPart dz rfl (.cons rfl xx.m_NoGap dz rfl .nil)))) (fun G m=>xx.ex.ci G (EN G m).1) (E9 (i:=2) nP.nd rfl (ii rfl) (Et MU hr dz (fun _ _ z=>z) (za (pv 2) (za (bG PySem.F.plainAttrs_str PySem.F.slot_str_split PySem.F.type_str_split oB (pv 4) (za zq zd)) zd)))) (fun _=>(za (pv 3) zd))))) (zf (aF (PT.nox (bY (bZ (zN zw (pv 2) ze (fun _ _=>rfl)) (fun _=>rfl)))) (zi (n6 xx.r_NoText (fun _ _ F=>GR F) nZ hr dz xx.m_NoText dz (za (zy zr (zn zG (by rfl) T.n_len aS (za (pv 1) zd)) ze) zd))) zJ) (PSs.nox (zi (zC (pv 2))))))))),(bT (fJ (cQ (by walk_at "r")) (nJ xx.r_NoText.i xx.r_NoText.na (zm aV zK)) (bV cF)) (bT (bV (bL (dE oO zv (zm aO zK)) zD)) (bT (bV (by walk_at "r")) (bT (Mg (kH (by walk_at "r")) (by walk_at "r") (M6 xx.ex EN xx.r_NoText.i xx.r_NoText.na rfl Fh (fun _ _ _ _=>rfl) (zm zv (zm (dE oO zv (zm aO zK)) zK)) (zm zv zK))) (bT (fJ (cQ (by walk_at "r")) (nJ xx.r_NoText.i xx.r_NoText.na (by walk_at "r")) (bV cF)) (bV (cR zv))))))),fun xs S R q=>q⟩
theorem Ij:Df P w K mg base "gap_row" ["drawing","gap"] 1 (spN ["drawing","gap"] vM):=by
 exact Df.dN dd.a30 wO 3 rfl fun f aa A outer s H E hr=>⟨_,_,(zf (zF (i:=2) wO.nd rfl lo (bF (za zq (za (eF jL (by rfl) T.n_str gR (za (zN zw (pv 1) ze (fun _ _=>rfl)) zd)) (za (eF jL (by rfl) T.n_str gR (za (zN zw (pv 1) ze (fun _ _=>rfl)) zd)) zd))))) (zf (eG ji rfl (fC (zN zw (pv 1) ze (fun _ _=>rfl))) (iR (n:=2) rfl (cL (zM (i:=3) wO.nd rfl (ii rfl)) (cL (zM (i:=4) wO.nd rfl (ii rfl)) jF))) (zi (kQ (bG PySem.F.plainAttrs_list PySem.F.slot_list_extend PySem.F.type_list_extend Fg (pv 2) (za (bF (za (eF jL (by rfl) T.n_str gR (za (pv 4) zd)) (za (zN zw (zN zw (pv 0) (pv 3) (fun _ _=>rfl)) ze (fun _ _=>rfl)) zd))) zd))))) (zi (zC (bG PySem.F.plainAttrs_str PySem.F.slot_str_join PySem.F.type_str_join jS zq (za (pv 2) zd)))))),(FF (zP (An (by walk_at "r")) (cR (dE kK aO (zm zv zK))))),fun xs S R q=>q⟩
theorem HG:Df P w K mg base "shown" ["job"] 2 (spN ["job"] xL):=by
 exact Df.dN dd.a31 GP 1 rfl fun f aa A outer s H E hr=>⟨_,_,(zf (tH (i:=1) (fun _ _ h=>h) rfl (dP rfl rfl rfl rfl (N:=["name","low","high"]) (caps:=[none,none,none]) (by show c8 ["job","rows"] (zj uZ).names _ _ _=true;decide +kernel)) GP.nd rfl rfl (fC (zN zw (pv 0) ze (fun _ _=>rfl))) (fun _ _ _ _=>(iR (n:=3) rfl (cL (zM (i:=0) (by show kg (["name","low","high"]:List Str);decide) rfl (ii rfl)) (cL (zM (i:=1) (by show kg (["name","low","high"]:List Str);decide) rfl (ii rfl)) (cL (zM (i:=2) (by show kg (["name","low","high"]:List Str);decide) rfl (ii rfl)) jF))))) (fun _ _ _ _=>eZ) (fun _ _ _ _=>(M7 (oE zq (oE (xV (pv 0)) (oE zq (oE (xV (pv 1)) (oE zq (oE (xV (pv 2)) Oi))))))))) (zf (kQ (bG PySem.F.plainAttrs_list PySem.F.slot_list_extend PySem.F.type_list_extend Fg (pv 1) (za (lY (fun _ _ h=>h) rfl (dP rfl rfl rfl rfl (N:=["gap","job"]) (caps:=[none,some 0]) (by show c8 ["job","rows"] (zj uZ).names _ _ _=true;decide +kernel)) (fC (zN zw (pv 0) ze (fun _ _=>rfl))) (fun _ _ _ _=>(zM (i:=0) (by show kg (["gap","job"]:List Str);decide) rfl (ii rfl))) (fun _ _ _ _=>eZ) (fun _ _ _ _=>(zH Ij hr dz (za (zN zw (pv 1) ze (fun _ _=>rfl)) (za (pv 0) zd))))) zd))) (zi (zC (bG PySem.F.plainAttrs_str PySem.F.slot_str_join PySem.F.type_str_join jS zq (za (pv 1) zd)))))),(FF (zP (An (zP (bL (wN (hZ (aM jP zv aV)) (EO (xE zD (xE zD (xE zD F5)))) eQ (K6 (nW aO (nW (O1 zv) (nW aO (nW (ES zv) (nW aO (nW (ES zv) Nt)))))))) zD) (wL (vR Fc zv (zm (kS (hZ (aM jP zv aV)) zD eQ (i6 (zm (aM jP zv aV) (zm zv zK)))) zK))))) (cR (dE kK aO (zm zv zK))))),fun xs S R q=>q⟩
theorem PV:DfN P w K mg base "_law_whole" ["found"] 1 (spN ["found"] xC):=by
 exact DfN.dN dd.a32 NI 0 rfl fun f aa A outer s H hr=>⟨_,_,(zi (zC (eV (zn gN (by rfl) T.n_isinstance zB (za (pv 0) (za (fS rfl T.n_int vK (v:=.ty "int") rfl) zd))) (gT (Ev (zn gN (by rfl) T.n_isinstance zB (za (pv 0) (za (fS rfl T.n_bool Gv (v:=.ty "bool") rfl) zd)))))))),(by walk_at "r"),fun xs S R q=>q⟩
theorem Js:DfN P w K mg base "_law_kind" ["e"] 1 (spN ["e"] u9):=by
 exact DfN.dN dd.a33 tK 2 rfl fun f aa A outer s H hr=>⟨_,_,(zf (zF (i:=1) tK.nd rfl lo (oW (zV (zn gV (by rfl) T.n_isinstance zB (za (pv 0) (za (fZ (v:=.ref 37) rfl xx.m_NoSpan rfl) zd))) (zV (zn gV (by rfl) T.n_isinstance zB (za (pv 0) (za (fZ (v:=.ref 49) rfl xx.m_NoPart rfl) zd))) (zV (zn gV (by rfl) T.n_isinstance zB (za (pv 0) (za (fZ (v:=.ref 61) rfl xx.m_NoSet rfl) zd))) (zV (zn gV (by rfl) T.n_isinstance zB (za (pv 0) (za (fZ (v:=.ref 161) rfl xx.m_NoText rfl) zd))) f9)))))) (zf (zF (i:=1) tK.nd rfl lo (zy zr (pv 1) (oW (zV (zn gV (by rfl) T.n_isinstance zB (za (pv 0) (za (fZ (v:=.ref 73) rfl xx.m_NoRow rfl) zd))) (zV (zn gV (by rfl) T.n_isinstance zB (za (pv 0) (za (fZ (v:=.ref 85) rfl xx.m_Unlike rfl) zd))) (zV (zn gV (by rfl) T.n_isinstance zB (za (pv 0) (za (fZ (v:=.ref 104) rfl xx.m_NoDrawing rfl) zd))) (zV (zn gV (by rfl) T.n_isinstance zB (za (pv 0) (za (fZ (v:=.ref 123) rfl xx.m_NoGap rfl) zd))) f9))))))) (zf (zF (i:=1) tK.nd rfl lo (zy zr (pv 1) (bF (za (zn gV (by rfl) T.n_isinstance zB (za (pv 0) (za (fZ (v:=.ref 142) rfl xx.m_NoOffer rfl) zd))) (za (zn gV (by rfl) T.n_isinstance zB (za (pv 0) (za (fZ (v:=.ref 180) rfl xx.m_TooGreat rfl) zd))) zd))))) (zf (aF (PW.pt (cU (bY (bZ (zn gV (by rfl) T.n_isinstance zB (za (pv 0) (za (fS rfl T.n_ValueError Kp (v:=.ty "ValueError") rfl) zd))) (fun _=>rfl))) (dQ (zA (jE hr.units) (bG PySem.F.plainAttrs_list PySem.F.slot_list_count PySem.F.type_list_count Kx (pv 1) (za cJ zd)) ze (nomark _))))) (zi (zC zq)) zJ) (zf (zF (i:=2) tK.nd rfl lo (oW (zV zq (zV zq (zV zq (zV zq (zV zq (zV zq (zV zq (zV zq (zV zq (zV zq f9)))))))))))) (zi (zC (zN zw (pv 2) (bG PySem.F.plainAttrs_list PySem.F.slot_list_index PySem.F.type_list_index (wA hr.units) (pv 1) (za cJ zd)) (fun _ _=>rfl))))))))),(zP (bL (gF (zm (dF (fX xx.ex) (by walk_at "r")) (zm (dF (fX xx.ex) (by walk_at "r")) (zm (dF (fX xx.ex) (by walk_at "r")) (zm (dF (fX xx.ex) (by walk_at "r")) zK))))) zD) (zP (bL (aM fG zv (gF (zm (dF (fX xx.ex) (by walk_at "r")) (zm (dF (fX xx.ex) (by walk_at "r")) (zm (dF (fX xx.ex) (by walk_at "r")) (zm (dF (fX xx.ex) (by walk_at "r")) zK)))))) zD) (zP (bL (aM fG zv (gF (zm (dF (fX xx.ex) (by walk_at "r")) (zm (dF (fX xx.ex) (by walk_at "r")) zK)))) zD) (zP (i7 (rL (mS (j7 (dF (fX xx.ex) (by walk_at "r")))) (kI (aM yV (oH Ik zv (zm gZ zK)) aV))) (cR aO) cF) (zP (by walk_at "r") (cR (aM jP zv (oH vB zv (zm gZ zK))))))))),fun xs S R q=>q⟩
theorem xM:Df P w K mg base "_law_right" ["text"] 9 (spN ["text"] zZ):=by
 exact Df.dN dd.a34 qL 3 rfl fun f aa A outer s H E hr=>⟨_,_,(zf (zF (i:=1) qL.nd rfl lo (wK (bZ (zn gN (by rfl) T.n_isinstance zB (za (pv 0) (za (fS rfl T.n_str gR (v:=.ty "str") rfl) zd))) (fun _=>rfl)) (zH LF hr dz (za (pv 0) zd)) ze)) (zf (zF (i:=2) qL.nd rfl lo kP) (zf (Ks (i:=3) (fun _ _ z=>z) rfl rfl qL.nd rfl rfl rfl xx.m_GaugeError xx.c_GaugeError (E9 (i:=2) qL.nd rfl (ii rfl) (Et Jo hr dz (fun _ _ z=>z) (za (pv 0) zd))) (fun _=>(zi (zC (eV (fO (aU hr.units) (EI Js (hr.suite _) dz (za (pv 3) zd)) zq (nomark _)) (eV (EI PV (hr.suite _) dz (za (Gu (pv 3) rfl) zd)) (gT (fO (aU hr.units) (Gu (pv 3) rfl) (pv 1) (nomark _))))))))) (zi (zC (eV (fO ND (pv 1) kP (nomark _)) (gT (fO (aU hr.units) (zH HG hr dz (za (pv 2) zd)) (pv 0) (nomark _))))))))),(zP (by walk_at "r") (zP (bL vG zD) (zP (NV xx.ex rfl Fh (fun _ _ _ _=>rfl) (zm zv zK) (cR (tO (aM v8 (Mp rfl (zm zv zK)) aO) (tO (i6 (zm (CV xx.a_row zv) zK)) (aM v8 (CV xx.a_row zv) zv))))) (by walk_at "r")))),fun xs S R q=>q⟩
theorem Ht:Df P w K mg base "_law_text_of" ["drawing","gaps"] 1 (spN ["drawing","gaps"] xW):=by
 exact Df.dN dd.a35 zX 8 rfl fun f aa A outer s H E hr=>⟨_,_,(zf (zF (i:=2) zX.nd rfl lo (bF zd)) (zf (eG ji rfl (fC (pv 0)) (iR (n:=3) rfl (cL (zM (i:=3) zX.nd rfl (ii rfl)) (cL (zM (i:=4) zX.nd rfl (ii rfl)) (cL (zM (i:=5) zX.nd rfl (ii rfl)) jF)))) (zi (kQ (bG PySem.F.plainAttrs_list PySem.F.slot_list_append PySem.F.type_list_append oP (pv 2) (za (bG PySem.F.plainAttrs_str PySem.F.slot_str_join PySem.F.type_str_join jS zq (za (bF (za zq (za (pv 3) (za (eF jL (by rfl) T.n_str gR (za (pv 4) zd)) (za (eF jL (by rfl) T.n_str gR (za (pv 5) zd)) zd))))) zd)) zd))))) (zf (eG ji rfl (fC (pv 1)) (iR (n:=3) rfl (cL (zM (i:=6) zX.nd rfl (ii rfl)) (cL (zM (i:=4) zX.nd rfl (ii rfl)) (cL (zM (i:=5) zX.nd rfl (ii rfl)) jF)))) (zf (zF (i:=7) zX.nd rfl lo (zy zr (zy zr (zy zr zq (eF jL (by rfl) T.n_str gR (za (pv 4) zd))) zq) (eF jL (by rfl) T.n_str gR (za (pv 5) zd)))) (zf (eG ji rfl (fC (pv 6)) (iR (n:=2) rfl (cL (zM (i:=8) zX.nd rfl (ii rfl)) (cL (zM (i:=9) zX.nd rfl (ii rfl)) jF))) (zi (zF (i:=7) zX.nd rfl lo (zy zr (zy zr (zy zr (zy zr (pv 7) zq) (eF jL (by rfl) T.n_str gR (za (pv 9) zd))) zq) (zN zw (zN zw (pv 0) (pv 8) (fun _ _=>rfl)) ze (fun _ _=>rfl)))))) (zi (kQ (bG PySem.F.plainAttrs_list PySem.F.slot_list_append PySem.F.type_list_append oP (pv 2) (za (pv 7) zd))))))) (zi (zC (bG PySem.F.plainAttrs_str PySem.F.slot_str_join PySem.F.type_str_join jS zq (za (pv 2) zd))))))),(NU (zP (An (zP (by walk_at "r") (zP (mP (hZ zv) (by walk_at "r") (wL (vR G5 zv (zm (dE kK aO (by walk_at "r")) zK)))) (by walk_at "r")))) (cR (dE kK aO (zm zv zK))))),fun xs S R q=>q⟩
theorem Mo:Df P w K mg base "_law_words_of" ["row","pen"] 3 (spN ["row","pen"] uY):=by
 exact Df.dN dd.a36 mY 4 rfl fun f aa A outer s H E hr=>⟨_,_,(zf (zF (i:=2) mY.nd rfl lo (bG PySem.F.plainAttrs_str PySem.F.slot_str_split PySem.F.type_str_split oB (pv 0) (za zq zd))) (zf (zF (i:=3) mY.nd rfl lo (zH zI hr dz (za (pv 1) (za (zn zG (by rfl) T.n_len aS (za (pv 2) zd)) zd)))) (zf (zF (i:=4) mY.nd rfl lo (zH zI hr dz (za (pv 1) (za ze zd)))) (zf (aF (zA (aU hr.units) (pv 4) ze (nomark _)) (zi (zC (zy zr (zW bO (pv 2) bS (aY (pv 3))) (zW bO (pv 2) (aY (zy zr (pv 3) ze)) bS)))) zJ) (zf (aF (zA (aU hr.units) (pv 4) ze (nomark _)) (zi (zC (zy zr (zW bO (pv 2) bS (aY (zy zr (pv 3) ze))) (zW bO (pv 2) (aY (pv 3)) bS)))) zJ) (N7 (aF (zA (aU hr.units) (pv 4) ze (nomark _)) (zi (zC (zy zr (zy zr (zW bO (pv 2) bS (aY (pv 3))) (zW bO (pv 2) (aY (zy zr (pv 3) ze)) bS)) (bF (za (zN zw (pv 2) (pv 3) (fun _ _=>rfl)) zd))))) zJ) (uT (y6 (i:=5) mY.nd rfl (ii rfl) (vH (bP (QE.mk zq) (bP (QE.mk zq) (bP (QE.mk zq) (bP (QE.mk zq) (bP (QE.mk zq) (bP (QE.mk zq) (bP (QE.mk zq) (bP (QE.mk zq) (bP (QE.mk zq) (bP (QE.mk zq) (bP (QE.mk zq) (bP (QE.mk zq) (bP (QE.mk zq) (bP (QE.mk zq) f9)))))))))))))))) (uT (y6 (i:=5) mY.nd rfl (ii rfl) (Ga zr (QE.mk (pv 5)) (vH (mE (QE.mk (zy zr zq (zN zw (pv 2) (pv 3) (fun _ _=>rfl)))) (mE (QE.mk (zy dW zq ze)) (mE (QE.mk (zy dW zq ze)) (mE (QE.mk (zy zr zq (zy dW zq ze))) (mE (QE.mk (zy zr zq (zy dW zq ze))) (bP (QE.mk zq) (bP (QE.mk zq) (bP (QE.mk zq) f9))))))))))) (uT (y6 (i:=5) mY.nd rfl (ii rfl) (Ga zr (QE.mk (pv 5)) (vH (mE (QE.mk (zy zr (zN zw (pv 2) (pv 3) (fun _ _=>rfl)) zq)) (mE (QE.mk (zy zr zq (zN zw (pv 2) (pv 3) (fun _ _=>rfl)))) f9))))) (QSs.mk (zi (zC (zy zr (zy zr (zW bO (pv 2) bS (aY (pv 3))) (bF (za (zN zw (pv 5) (zH zI hr dz (za (pv 1) (za (zn zG (by rfl) T.n_len aS (za (pv 5) zd)) zd))) (fun _ _=>rfl)) zd))) (zW bO (pv 2) (aY (zy zr (pv 3) ze)) bS)))))))))))))),(zP (bL (dE oO zv (zm aO zK)) zD) (by walk_at "r")),fun xs S R q=>q⟩
theorem JM:Df P w K mg base "_law_spoilt_of" ["rows","pen"] 4 (spN ["rows","pen"] vL):=by
 exact Df.dN dd.a37 xF 3 rfl fun f aa A outer s H E hr=>⟨_,_,(zf (zF (i:=2) xF.nd rfl lo (zH zI hr dz (za (pv 1) (za (zn zG (by rfl) T.n_len aS (za (pv 0) zd)) zd)))) (zf (zF (i:=3) xF.nd rfl lo (zH zI hr dz (za (pv 1) (za (zn zG (by rfl) T.n_len aS (za (pv 0) zd)) zd)))) (zf (zF (i:=4) xF.nd rfl lo (zH zI hr dz (za (pv 1) (za ze zd)))) (zf (aF (zA (aU hr.units) (pv 4) ze (nomark _)) (zi (zC (zy zr (zW bO (pv 0) bS (aY (pv 2))) (zW bO (pv 0) (aY (zy zr (pv 2) ze)) bS)))) zJ) (zf (aF (zA (aU hr.units) (pv 4) ze (nomark _)) (zi (zC (zy zr (zW bO (pv 0) bS (aY (zy zr (pv 2) ze))) (zW bO (pv 0) (aY (pv 2)) bS)))) zJ) (zf (aF (zA (aU hr.units) (pv 4) ze (nomark _)) (zi (zC (zy zr (zy zr (zW bO (pv 0) bS (aY (pv 2))) (bF (za (zN zw (pv 0) (pv 3) (fun _ _=>rfl)) zd))) (zW bO (pv 0) (aY (zy zr (pv 2) ze)) bS)))) zJ) (zf (aF (zA (aU hr.units) (pv 4) ze (nomark _)) (zi (zC (zy zr (zy zr (zW bO (pv 0) bS (aY (pv 2))) (bF (za (zN zw (oW (zV zq (zV zq (zV zq (zV zq (zV zq (zV (zN zw (pv 0) (pv 3) (fun _ _=>rfl)) f9))))))) (zH zI hr dz (za (pv 1) (za ze zd))) (fun _ _=>rfl)) zd))) (zW bO (pv 0) (aY (pv 2)) bS)))) zJ) (zf (aF (zA (aU hr.units) (pv 4) ze (nomark _)) (zi (zC (zy zr (pv 0) (zy dW (bF (za (zN zw (bF (za zq (za (zN zw (pv 0) (pv 2) (fun _ _=>rfl)) (za (zN zw (pv 0) (gI gU ze) (fun _ _=>rfl)) zd)))) (zH zI hr dz (za (pv 1) (za ze zd))) (fun _ _=>rfl)) zd)) (zy zr ze (zH zI hr dz (za (pv 1) (za ze zd)))))))) zJ) (zi (zC (zy zr (zy zr (zW bO (pv 0) bS (aY (pv 2))) (bF (za (bG PySem.F.plainAttrs_str PySem.F.slot_str_join PySem.F.type_str_join jS zq (za (zH Mo hr dz (za (zN zw (pv 0) (pv 2) (fun _ _=>rfl)) (za (pv 1) zd))) zd)) zd))) (zW bO (pv 0) (aY (zy zr (pv 2) ze)) bS)))))))))))),(zP (by walk_at "r") (zP (by walk_at "r") (zP (by walk_at "r") (zP (by walk_at "r") (zP (by walk_at "r") (zP (by walk_at "r") (zP (by walk_at "r") (zP (by walk_at "r") (cR (aM fG (aM fG (by walk_at "r") (gF (zm (dE kK aO (by walk_at "r")) zK))) (by walk_at "r"))))))))))),fun xs S R q=>q⟩
theorem IS:Df P w K mg base "_law_ends_of" ["drawing","terms"] 1 (spN ["drawing","terms"] vJ):=by
 exact Df.dN dd.a38 kF 5 rfl fun f aa A outer s H E hr=>⟨_,_,(zf (zF (i:=2) kF.nd rfl lo ze) (zf (zF (i:=3) kF.nd rfl lo ze) (zf (eG ji rfl (fC (pv 1)) (iR (n:=2) rfl (cL (zM (i:=4) kF.nd rfl (ii rfl)) (cL (zM (i:=5) kF.nd rfl (ii rfl)) jF))) (zf (zF (i:=6) kF.nd rfl lo (bF (za (zy dW (pv 5) (zN zw (zN zw (pv 0) (pv 4) (fun _ _=>rfl)) ze (fun _ _=>rfl))) (za (zy dW (pv 5) (zN zw (zN zw (pv 0) (pv 4) (fun _ _=>rfl)) ze (fun _ _=>rfl))) zd)))) (zf (zF (i:=2) kF.nd rfl lo (zy zr (pv 2) (zn (Mf rfl hr.units) (by rfl) T.n_min JL (za (pv 6) zd)))) (zi (zF (i:=3) kF.nd rfl lo (zy zr (pv 3) (zn (Kt rfl) (by rfl) T.n_max Dp (za (pv 6) zd)))))))) (zi (zC (cZ (za (pv 2) (za (pv 3) zd)))))))),(by walk_at "r"),fun xs S R q=>q⟩
theorem JJ:Df P w K mg base "_law_gap_of" ["pen","drawing"] 3 (spN ["pen","drawing"] sW):=by
 exact Df.dN dd.a39 iC 8 rfl fun f aa A outer s H E hr=>⟨_,_,(zf (zF (i:=2) iC.nd rfl lo (bF zd)) (zf (eG ji rfl (jZ rfl T.n_range (za (zn zG (by rfl) T.n_len aS (za (pv 1) zd)) zd)) (zM (i:=3) iC.nd rfl (ii rfl)) (zf (zF (i:=4) iC.nd rfl lo (zy nG (zH zI hr dz (za (pv 0) (za ze zd))) ze)) (zi (aF (zA (nQ hr.units) (pv 4) (cZ (za (gI gU ze) (za ze (za ze zd)))) (by rfl)) (zi (kQ (bG PySem.F.plainAttrs_list PySem.F.slot_list_append PySem.F.type_list_append oP (pv 2) (za (cZ (za (pv 3) (za (pv 4) zd))) zd)))) zJ)))) (zf (aF (zA (aU hr.units) (pv 2) (bF zd) (nomark _)) (zi (zF (i:=2) iC.nd rfl lo (bF (za (cZ (za (zH zI hr dz (za (pv 0) (za (zn zG (by rfl) T.n_len aS (za (pv 1) zd)) zd))) (za (zN zw (bF (za ze (za (gI gU ze) (za ze (za (gI gU ze) zd))))) (zH zI hr dz (za (pv 0) (za ze zd))) (fun _ _=>rfl)) zd))) zd)))) zJ) (zf (vP (zH IS hr dz (za (pv 1) (za (pv 2) zd))) (iR (n:=2) rfl (cL (zM (i:=5) iC.nd rfl (ii rfl)) (cL (zM (i:=6) iC.nd rfl (ii rfl)) jF)))) (zf (zF (i:=7) iC.nd rfl lo (zy nG (pv 6) (pv 5))) (zf (zF (i:=8) iC.nd rfl lo (zy zr (pv 5) (zN zw (oW (zV ze (zV ze (zV (gI gU ze) (zV (zy rS (pv 7) ze) (zV (zy rS (pv 7) ze) (zV (zy zr (pv 7) ze) f9))))))) (zH zI hr dz (za (pv 0) (za ze zd))) (fun _ _=>rfl)))) (zf (zF (i:=9) iC.nd rfl lo (zy zr (pv 8) (zN zw (oW (zV ze (zV ze (zV ze (zV (zy rS (pv 7) ze) (zV (pv 7) (zV (zy zr (pv 7) ze) f9))))))) (zH zI hr dz (za (pv 0) (za ze zd))) (fun _ _=>rfl)))) (zi (zC (cZ (za (eF wI (by rfl) T.n_tuple jR (za (pv 2) zd)) (za (pv 8) (za (pv 9) zd))))))))))))),(by walk_at "r"),fun xs S R q=>q⟩
theorem Ki:Df P w K mg base "_law_gaps_of" ["pen","drawing","most"] 4 (spN ["pen","drawing","most"] pI):=by
 exact Df.dN dd.a40 Bc 1 rfl fun f aa A outer s H E hr=>⟨_,_,(zf (tH (i:=3) (fun _ _ h=>h) rfl (dP rfl rfl rfl rfl (N:=["k","pen","drawing"]) (caps:=[none,some 0,some 1]) (by show c8 ["pen","drawing","most","gaps"] (zj A9).names _ _ _=true;decide +kernel)) Bc.nd rfl rfl (jZ rfl T.n_range (za (zy zr ze (zH zI hr dz (za (pv 0) (za (pv 2) zd)))) zd)) (fun _ _ _ _=>(zM (i:=0) (by show kg (["k","pen","drawing"]:List Str);decide) rfl (ii rfl))) (fun _ _ _ _=>eZ) (fun _ _ _ _=>(zH JJ hr dz (za (pv 1) (za (pv 2) zd))))) (zf (aF (PW.pt (i9 (zA (aU hr.units) (zH zI hr dz (za (pv 0) (za ze zd))) ze (nomark _)) (mC (zA Io (zn zG (by rfl) T.n_len aS (za (pv 3) zd)) ze (nomark _))))) (zi (vP (cZ (za (zN zw (zN zw (pv 3) ze (fun _ _=>rfl)) ze (fun _ _=>rfl)) (za (zy zr (zN zw (zN zw (pv 3) ze (fun _ _=>rfl)) ze (fun _ _=>rfl)) ze) (za (zy zr (zy zr (zN zw (zN zw (pv 3) ze (fun _ _=>rfl)) ze (fun _ _=>rfl)) ze) (zH zI hr dz (za (pv 0) (za ze zd)))) zd)))) (AM (pv 3) (gI gU ze) A6))) zJ) (zi (zC (eF wI (by rfl) T.n_tuple jR (za (pv 3) zd)))))),(zP (bL (wN (n5 (zm (aM fG aV (nX (i:=0) (zm zv (zm zv zK)))) zK)) zD eQ (nX (i:=0) (zm zv (zm zv zK)))) zD) (by walk_at "r")),fun xs S R q=>q⟩
theorem ok_law{f:Addr}{fd:ki}(F:Fun K "law" "law" s_law f fd):FnOk P w K mg base CX0 10 f fd ["script"] (sp1 (A0 K)):=by
 refine F.ok1 jK (fun v=>[some v,none,none,none,none,none,none,none]) (fun _=>rfl) fun ac A outer s H v Q E hr h=>?_;obtain⟨a,ns,rfl,hS,aa,q⟩:=h;refine NY ?_;refine⟨_,(uT (Nz (i:=1) jK.nd rfl (ii rfl) (bP (QE.mk zq) (bP (QE.mk zq) (bP (QE.mk zq) (bP (QE.mk zq) (bP (QE.mk zq) (bP (QE.mk zq) (bP (QE.mk kP) (bP (QE.mk ze) (bP (QE.mk cJ) (Ll (vH (bP (QE.mk zq) f9)) (KP (NQ f9) (NT (QE.mk (IK CT)) f9))))))))))))) (G6 (aF (bY (bZ (zn (Am rfl) (by rfl) T.n_all A5 (za (lY (fun _ _ h=>h) rfl (dP (L:=0) rfl rfl rfl rfl (N:=["thing"]) (caps:=[none]) (by show c8 ["script","some","cell","pen","drawing","rows","turn","spoilt"] (zj s_law).names _ _ _=true;decide +kernel)) (fC (zy zr (pv 1) (bF (za zq (za zq zd))))) (fun _ _ _ _=>(zM (i:=0) (by show kg (["thing"]:List Str);decide) rfl (ii rfl))) (fun _ _ _ _=>eZ) (fun _ _ _ _=>(zH xM hr dz (za (pv 0) zd)))) zd)) (fun _=>rfl))) (zi (zC cJ)) zJ) (G6 (eG ji rfl (Nu (zy AN (bF (za (NP Ha hr dz (pv 0) ze) zd)) (zW CL (pv 0) (aY ze) (aY ze)))) (zM (i:=2) jK.nd rfl (ii rfl)) (zf (zF (i:=3) jK.nd rfl lo (zH Ky hr dz (za (pv 2) zd))) (zf (zF (i:=4) jK.nd rfl lo (zH Jn hr dz (za (pv 3) (za ze zd)))) (zf (zF (i:=5) jK.nd rfl lo (bG PySem.F.plainAttrs_str PySem.F.slot_str_split PySem.F.type_str_split oB (zH Ht hr dz (za (pv 4) (za (zH Ki hr dz (za (pv 3) (za (pv 4) (za ze zd)))) zd))) (za zq zd))) (zf (aF (bY (bZ (zH xM hr dz (za (bG PySem.F.plainAttrs_str PySem.F.slot_str_join PySem.F.type_str_join jS zq (za (pv 5) zd)) zd)) (fun _=>rfl))) (zi (zC cJ)) zJ) (zi (eG ji rfl (jZ rfl T.n_range (za ze zd)) (zM (i:=6) jK.nd rfl (ii rfl)) (zf (zF (i:=7) jK.nd rfl lo (bG PySem.F.plainAttrs_str PySem.F.slot_str_join PySem.F.type_str_join jS zq (za (zH JM hr dz (za (pv 5) (za (pv 3) zd))) zd))) (zi (aF (PW.pt (i9 (zA dM (zn zG (by rfl) T.n_len aS (za (pv 7) zd)) ze (nomark _)) (mC (bY (bZ (zH xM hr dz (za (pv 7) zd)) (fun _=>rfl)))))) (zi (zC cJ)) zJ)))))))))) (Hl (zC cJ))))),?_⟩;refine PU (a:=a) (m:=7) (dt:=AI) (zP (bL (gF (zm aO (zm aO (zm aO (zm aO (zm aO (zm aO (zm vG (zm aV (zm gZ (zm (gF (zm aO zK)) (zm (Bf zK) (zm Ju zK))))))))))))) zD) (i7 (mS (j7 (dF vY (zm (kS (hZ (aM fG zv (gF (zm aO (zm aO zK))))) zD eQ (i6 (zm zv zK))) zK)))) (cR gZ) cF)) rfl rfl (PK a) fun σ1 H1 z0 z1 s1=>?_;exact M4 (m:=7) (db:=BJ) (zP (bL (i6 (zm zv zK)) zD) (zP (bL (nX (i:=0) (zm zv (zm aV zK))) zD) (zP (bL (dE oO (i6 (zm zv (zm (nX (i:=0) (zm zv (zm zv (zm aV zK)))) zK))) (zm aO zK)) zD) (zP (i7 (mS (j7 (i6 (zm (dE kK aO (zm zv zK)) zK)))) (cR gZ) cF) (mP (n5 (zm aV zK)) zD (zP (bL (dE kK aO (zm (nX (i:=1) (zm zv (zm zv zK))) zK)) zD) (i7 (B7 (kI (aM y0 (dF B8 (zm zv zK)) aV)) (mS (j7 (i6 (zm zv zK))))) (cR gZ) cF))))))) z0 z1 (s1.seq hS) aa (fun n=>Lx a n) dz fun _ H2 _=>q H2
end
end My
theorem Mc:L2.tabsG=[]:=rfl
theorem PZ:L2.keepG=([]:List ((PySem.Addr×PySem.Obj)×PySem.Str)):=rfl
namespace PySem.W.Fast
def tw1990715031119483157:Unit:=()
def tw845226279954642281:Unit:=()
def tw11198361388560743822:Unit:=()
def tw5787047579111702623:Unit:=()
def tw9032433726850757466:Unit:=()
def tw6581534621639713988:Unit:=()
def tw17877505038945898706:Unit:=()
def tw14392400577404241469:Unit:=()
def tw12105148655762730146:Unit:=()
def tw8910588755822012112:Unit:=()
def tw2903873591870561254:Unit:=()
def tw14594039873042040556:Unit:=()
def tw13521459611363793836:Unit:=()
def tw4820070661944049812:Unit:=()
def tw13499810727707681236:Unit:=()
def tw2623645913627204727:Unit:=()
def tw7977754077393591273:Unit:=()
def tw11075564208778229456:Unit:=()
def tw16031818226626854370:Unit:=()
def tw9013828440170757309:Unit:=()
def tw349392559186395247:Unit:=()
def tw11336879652051630813:Unit:=()
def tw18262636263238018605:Unit:=()
def tw11430319932254121258:Unit:=()
def tw1815304899848014546:Unit:=()
def tw18396032772428823669:Unit:=()
def tw12529474810152818508:Unit:=()
def tw2487102434563399371:Unit:=()
def tw13949021197276500895:Unit:=()
def tw6883764044526863073:Unit:=()
def tw2570745275464447713:Unit:=()
def tw11591740128494239692:Unit:=()
def tw6988094529689161402:Unit:=()
def tw1708513037626331857:Unit:=()
def tw3747085504123702053:Unit:=()
def tw12599530826892468423:Unit:=()
def tw14459351489483925004:Unit:=()
def tw9969058109798589226:Unit:=()
def tw6879358125160890105:Unit:=()
def tw14576810192450038683:Unit:=()
def tw9292101024154170988:Unit:=()
def tw10670254369140416026:Unit:=()
def tw2251626297037102094:Unit:=()
def tw8596326354782844119:Unit:=()
def tw12031566506321397184:Unit:=()
def tw10405288299261194909:Unit:=()
def tw8840135115633461423:Unit:=()
def tw3988868866818634204:Unit:=()
def tw257275054933240150:Unit:=()
def tw2789645026639586085:Unit:=()
def tw14671674349889867499:Unit:=()
def tw17201371846858871455:Unit:=()
def tw12116762050033309471:Unit:=()
def tw795857280144796722:Unit:=()
def tw4176457065087852772:Unit:=()
def tw8108739421625103530:Unit:=()
def tw6560294530312372025:Unit:=()
def tw17176067689195262388:Unit:=()
def tw5689878957485492251:Unit:=()
def tw17921300347968763072:Unit:=()
def tw3428261444642683762:Unit:=()
def tw4812953233761408683:Unit:=()
def tw4801897410396706042:Unit:=()
def tw2622303608231792457:Unit:=()
def tw5466420300640165606:Unit:=()
def tw6554762684663573360:Unit:=()
def tw3142997939221794892:Unit:=()
def tw15337914640381198740:Unit:=()
def tw16955235269978146173:Unit:=()
def tw10466916565317749525:Unit:=()
def tw16912607582136653928:Unit:=()
def tw2944601857004174087:Unit:=()
def tw7209758538451791131:Unit:=()
def tw10546230297327801526:Unit:=()
def tw14635589129329200596:Unit:=()
def tw5609057627274166405:Unit:=()
def tw18226260023183868697:Unit:=()
def tw2887050747593159310:Unit:=()
def tw10289473705813018316:Unit:=()
def tw10394568837555299642:Unit:=()
def tw6896123401227201685:Unit:=()
def tw8155964587477573843:Unit:=()
def tw15170704697523878100:Unit:=()
def tw3728657306238833142:Unit:=()
def tw5551895121467685581:Unit:=()
def tw12573068540080127228:Unit:=()
def tw4677971733943171352:Unit:=()
def tw3251748605214083563:Unit:=()
def tw2777653742296487620:Unit:=()
def tw13932351654180005312:Unit:=()
def tw10129030918172046604:Unit:=()
def tw6488234604442008230:Unit:=()
def tw8675120922270517118:Unit:=()
def tw13287699013040062394:Unit:=()
def tw17899863991821042426:Unit:=()
def tw12077680859907011012:Unit:=()
def tw6976905408981976293:Unit:=()
def tw9043435924909636030:Unit:=()
def tw2522899590971445305:Unit:=()
def tw14374074668933435853:Unit:=()
def tw17631585327418287137:Unit:=()
def tw2238775980196832434:Unit:=()
def tw11219433646034051202:Unit:=()
def tw4469905060427849330:Unit:=()
def tw3969492019342302325:Unit:=()
def tw10730008346306737763:Unit:=()
def tw10423983563405535312:Unit:=()
def tw14687130850891121485:Unit:=()
def tw9099500000259606642:Unit:=()
def tw16160831907500632982:Unit:=()
def tw12637631662980461684:Unit:=()
def tw5007385024518653955:Unit:=()
def tw9767852275125814422:Unit:=()
def tw14688208795559225023:Unit:=()
def tw7428014985196080308:Unit:=()
def tw6483676300798635046:Unit:=()
def tw15695365185443113647:Unit:=()
def tw6147658917073769547:Unit:=()
def tw14103575353824259839:Unit:=()
def tw17065074124241347736:Unit:=()
def tw7822270209192801763:Unit:=()
def tw8394276621061018925:Unit:=()
def tw2368510466626612729:Unit:=()
def tw1084447190502241559:Unit:=()
def tw15117925487201254550:Unit:=()
def tw5055192877089752949:Unit:=()
def tw7521553563489336534:Unit:=()
def tw14970362398573453148:Unit:=()
def tw7606609863860177599:Unit:=()
def tw3619638799233387903:Unit:=()
def tw3971635371718622961:Unit:=()
def tw3897905342762268419:Unit:=()
def tw8557047501966157017:Unit:=()
def tw12262479256123877082:Unit:=()
def tw15838200880704330691:Unit:=()
def tw14241713602357650228:Unit:=()
def tw10526719131863914632:Unit:=()
def tw17404488523966223452:Unit:=()
def tw14391015437779847261:Unit:=()
def tw17695043321853467350:Unit:=()
def tw17058174470483292283:Unit:=()
def tw5480140265019610853:Unit:=()
def tw4065281538585459332:Unit:=()
def tw13741810675836769396:Unit:=()
def tw16530511222451067509:Unit:=()
def tw7226840164918836025:Unit:=()
def tw13414689750646482045:Unit:=()
def tw2328564884782805519:Unit:=()
def tw13488901891374881744:Unit:=()
def tw2558835872196833909:Unit:=()
def tw6617032573035096093:Unit:=()
def tw17613954481427244523:Unit:=()
def tw693873499616699616:Unit:=()
def tw2415612345765005721:Unit:=()
def tw16389499037197444906:Unit:=()
def tw8066430050099124314:Unit:=()
def tw10892834472494476257:Unit:=()
def tw15697091983662818559:Unit:=()
def tw15684179199997233212:Unit:=()
def tw16339746923406079095:Unit:=()
def tw13022481740196026428:Unit:=()
def tw17953109762800583976:Unit:=()
def tw7618666817443156963:Unit:=()
def tw16213495805182903557:Unit:=()
def tw7328979779739303889:Unit:=()
def tw14166813834015209248:Unit:=()
def tw12239244056274879948:Unit:=()
def tw16327598435511257899:Unit:=()
def tw3519982248290502852:Unit:=()
def tw6362807854773385621:Unit:=()
def tw3484482043925574461:Unit:=()
def tw772100384474903903:Unit:=()
def tw4594745169885623630:Unit:=()
def tw13289727737989385018:Unit:=()
def tw7354452020943448159:Unit:=()
def tw15992025641377041130:Unit:=()
def tw9342261009115035053:Unit:=()
def tw10782208169296326479:Unit:=()
def tw1375474471278736676:Unit:=()
def tw7120280098066510264:Unit:=()
def tw4018308062334946105:Unit:=()
def tw13660484449956835298:Unit:=()
def tw12550489376006572968:Unit:=()
def tw15995799730574810234:Unit:=()
def tw10165784983739702842:Unit:=()
def tw2500338753250148989:Unit:=()
def tw4593641220813184089:Unit:=()
def tw3760518864305505707:Unit:=()
def tw10934952866828773037:Unit:=()
def tw4045700468694832453:Unit:=()
def tw5484563357765259237:Unit:=()
end PySem.W.Fast
open PySem PySem.W PyProof.Rows L2
set_option maxRecDepth 100000 in
set_option maxHeartbeats 0 in
theorem PySem.Challenge.cw_gaugewright_k72_texts_refused_holds : PySem.Challenge.rw_gaugewright_k72_texts_refused.Holds := by
 w_on;o_law;k_head;(case hw=>w_witness2)
 k_fill
 refine L2.walk_law (l := PySem.Challenge.rw_gaugewright_k72_texts_refused) (k := 10) rfl rfl ⟨rfl, by decide, by decide⟩ (fun w h Y => W.kIn_of Y) (fun w h Y => L2.TabsOk.none Mc PZ) ?F
 case F=>
  intro w mg fa h KX G hmg;have d_law:Dd (L2.KOf KX) mg "law" My.s_law ["script"]:=by
   dsimp only[L2.KOf];refine' Dd.mk' KX G ?a ?l ?c ?k ?b
   (case a=>k_is);(case l=>k_is);(case c=>k_is);(case k=>k_is);(case b=>intro _ _ _ _ _ _ us hl;obtain⟨_,rfl⟩:=L2.len1 hl;rfl)
  have g15:∃t,mg "LONGEST_NAME" = some (.int 8 t):=by
   apply kq;apply nk KX G
   k_is
  have g16:∃t,mg "LETTERS" = some (.str "abcdefghijklmnopqrstuvwxyz" t):=by
   apply kq;apply nk KX G
   k_is
  have g17:∃t,mg "MOST_PARTS" = some (.int 8 t):=by
   apply kq;apply nk KX G
   k_is
  have g18:∃t,mg "FIGURES" = some (.str "0123456789" t):=by
   apply kq;apply nk KX G
   k_is
  have g19:∃t,mg "MOST_FIGURES" = some (.int 60 t):=by
   apply kq;apply nk KX G
   k_is
  have g20:∃t,mg "MOST_TIMES" = some (.int 3 t):=by
   apply kq;apply nk KX G
   k_is
  have g21:∃t,mg "MOST_TERMS" = some (.int 8 t):=by
   apply kq;apply nk KX G
   k_is
  have g22:∃t,mg "MOST_GAPS" = some (.int 6 t):=by
   apply kq;apply nk KX G
   k_is
  have T:My.Txt mg:=by
   refine' ⟨jv KX G ?z0,jv KX G ?z1,jv KX G ?z2,jv KX G ?z3,jv KX G ?z4,jv KX G ?z5,jv KX G ?z6,jv KX G ?z7,jv KX G ?z8,jv KX G ?z9,jv KX G ?z10,jv KX G ?z11,jv KX G ?z12,jv KX G ?z13,jv KX G ?z14,g15,g16,g17,g18,g19,g20,g21,g22⟩
   (case z0=>k_is);(case z1=>k_is);(case z2=>k_is);(case z3=>k_is);(case z4=>k_is);(case z5=>k_is);(case z6=>k_is);(case z7=>k_is);(case z8=>k_is);(case z9=>k_is);(case z10=>k_is);(case z11=>k_is);(case z12=>k_is);(case z13=>k_is);(case z14=>k_is)
  have m24:mg "GaugeError" = some (.ref 24):=by
   apply nk KX G
   k_is
  have c24:L2.ExCls (L2.KOf KX) 24 none:=by
   apply L2.exc_of_in;dsimp only[L2.KOf,L2.veB]
   k_exc
  have m37:mg "NoSpan" = some (.ref 37):=by
   apply nk KX G
   k_is
  have k37:L2.ExK (L2.KOf KX) 37:=by
   dsimp only[L2.KOf];refine' L2.ExK.mk' ?a ?b ?c ?d ?e ?f
   (case a=>k_is);(case b=>k_is);(case c=>k_is);(case d=>k_is);(case e=>k_is);(case f=>rfl)
  have c37:L2.ExCls (L2.KOf KX) 37 none:=by
   apply L2.exc_of_in;dsimp only[L2.KOf,L2.veB]
   k_exc
  have m49:mg "NoPart" = some (.ref 49):=by
   apply nk KX G
   k_is
  have k49:L2.ExK (L2.KOf KX) 49:=by
   dsimp only[L2.KOf];refine' L2.ExK.mk' ?a ?b ?c ?d ?e ?f
   (case a=>k_is);(case b=>k_is);(case c=>k_is);(case d=>k_is);(case e=>k_is);(case f=>rfl)
  have c49:L2.ExCls (L2.KOf KX) 49 none:=by
   apply L2.exc_of_in;dsimp only[L2.KOf,L2.veB]
   k_exc
  have m61:mg "NoSet" = some (.ref 61):=by
   apply nk KX G
   k_is
  have k61:L2.ExK (L2.KOf KX) 61:=by
   dsimp only[L2.KOf];refine' L2.ExK.mk' ?a ?b ?c ?d ?e ?f
   (case a=>k_is);(case b=>k_is);(case c=>k_is);(case d=>k_is);(case e=>k_is);(case f=>rfl)
  have c61:L2.ExCls (L2.KOf KX) 61 none:=by
   apply L2.exc_of_in;dsimp only[L2.KOf,L2.veB]
   k_exc
  have m73:mg "NoRow" = some (.ref 73):=by
   apply nk KX G
   k_is
  have k73:L2.ExK (L2.KOf KX) 73:=by
   dsimp only[L2.KOf];refine' L2.ExK.mk' ?a ?b ?c ?d ?e ?f
   (case a=>k_is);(case b=>k_is);(case c=>k_is);(case d=>k_is);(case e=>k_is);(case f=>rfl)
  have c73:L2.ExCls (L2.KOf KX) 73 none:=by
   apply L2.exc_of_in;dsimp only[L2.KOf,L2.veB]
   k_exc
  have m85:mg "Unlike" = some (.ref 85):=by
   apply nk KX G
   k_is
  have k85:L2.ExK (L2.KOf KX) 85:=by
   dsimp only[L2.KOf];refine' L2.ExK.mk' ?a ?b ?c ?d ?e ?f
   (case a=>k_is);(case b=>k_is);(case c=>k_is);(case d=>k_is);(case e=>k_is);(case f=>rfl)
  have c85:L2.ExCls (L2.KOf KX) 85 none:=by
   apply L2.exc_of_in;dsimp only[L2.KOf,L2.veB]
   k_exc
  have m104:mg "NoDrawing" = some (.ref 104):=by
   apply nk KX G
   k_is
  have k104:L2.ExK (L2.KOf KX) 104:=by
   dsimp only[L2.KOf];refine' L2.ExK.mk' ?a ?b ?c ?d ?e ?f
   (case a=>k_is);(case b=>k_is);(case c=>k_is);(case d=>k_is);(case e=>k_is);(case f=>rfl)
  have m123:mg "NoGap" = some (.ref 123):=by
   apply nk KX G
   k_is
  have k123:L2.ExK (L2.KOf KX) 123:=by
   dsimp only[L2.KOf];refine' L2.ExK.mk' ?a ?b ?c ?d ?e ?f
   (case a=>k_is);(case b=>k_is);(case c=>k_is);(case d=>k_is);(case e=>k_is);(case f=>rfl)
  have m142:mg "NoOffer" = some (.ref 142):=by
   apply nk KX G
   k_is
  have k142:L2.ExK (L2.KOf KX) 142:=by
   dsimp only[L2.KOf];refine' L2.ExK.mk' ?a ?b ?c ?d ?e ?f
   (case a=>k_is);(case b=>k_is);(case c=>k_is);(case d=>k_is);(case e=>k_is);(case f=>rfl)
  have m161:mg "NoText" = some (.ref 161):=by
   apply nk KX G
   k_is
  have k161:L2.ExK (L2.KOf KX) 161:=by
   dsimp only[L2.KOf];refine' L2.ExK.mk' ?a ?b ?c ?d ?e ?f
   (case a=>k_is);(case b=>k_is);(case c=>k_is);(case d=>k_is);(case e=>k_is);(case f=>rfl)
  have m180:mg "TooGreat" = some (.ref 180):=by
   apply nk KX G
   k_is
  have k180:L2.ExK (L2.KOf KX) 180:=by
   dsimp only[L2.KOf];refine' L2.ExK.mk' ?a ?b ?c ?d ?e ?f
   (case a=>k_is);(case b=>k_is);(case c=>k_is);(case d=>k_is);(case e=>k_is);(case f=>rfl)
  have sp:L2.SpK (L2.KOf KX):=by
   dsimp only[L2.KOf];refine' ⟨?a,?b⟩
   (case a=>k_is);(case b=>k_is)
  have i37:∃ini,L2.ExCls (L2.KOf KX) 37 ini:=⟨_,c37⟩;have i49:∃ini,L2.ExCls (L2.KOf KX) 49 ini:=⟨_,c49⟩;have i61:∃ini,L2.ExCls (L2.KOf KX) 61 ini:=⟨_,c61⟩;have i73:∃ini,L2.ExCls (L2.KOf KX) 73 ini:=⟨_,c73⟩;have i85:∃ini,L2.ExCls (L2.KOf KX) 85 ini:=⟨_,c85⟩;have i104:∃ini,L2.ExCls (L2.KOf KX) 104 ini:=by
   apply kq;refine' L2.exc_ofI ?l ?o ?s ?i c24
   (case l=>dsimp only[L2.KOf];k_is);(case o=>dsimp only[L2.KOf];k_is);(case s=>rfl);(case i=>dsimp only[L2.KOf];k_is)
  have i123:∃ini,L2.ExCls (L2.KOf KX) 123 ini:=by
   apply kq;refine' L2.exc_ofI ?l ?o ?s ?i c24
   (case l=>dsimp only[L2.KOf];k_is);(case o=>dsimp only[L2.KOf];k_is);(case s=>rfl);(case i=>dsimp only[L2.KOf];k_is)
  have i142:∃ini,L2.ExCls (L2.KOf KX) 142 ini:=by
   apply kq;refine' L2.exc_ofI ?l ?o ?s ?i c24
   (case l=>dsimp only[L2.KOf];k_is);(case o=>dsimp only[L2.KOf];k_is);(case s=>rfl);(case i=>dsimp only[L2.KOf];k_is)
  have i161:∃ini,L2.ExCls (L2.KOf KX) 161 ini:=by
   apply kq;refine' L2.exc_ofI ?l ?o ?s ?i c24
   (case l=>dsimp only[L2.KOf];k_is);(case o=>dsimp only[L2.KOf];k_is);(case s=>rfl);(case i=>dsimp only[L2.KOf];k_is)
  have i180:∃ini,L2.ExCls (L2.KOf KX) 180 ini:=by
   apply kq;refine' L2.exc_ofI ?l ?o ?s ?i c24
   (case l=>dsimp only[L2.KOf];k_is);(case o=>dsimp only[L2.KOf];k_is);(case s=>rfl);(case i=>dsimp only[L2.KOf];k_is)
  have n104_number:L2.NoAttr (L2.KOf KX) 104 "number":=by
   unfold L2.NoAttr;dsimp only[L2.KOf]
   k_is
  have e104:L2.ExI (L2.KOf KX) 104:=by
   refine' ⟨k104,?b,?c⟩
   (case b=>dsimp only[L2.KOf];k_is);(case c=>dsimp only[L2.KOf];k_is)
  have r104:L2.XI (L2.KOf KX) 104 ["number"] "NoDrawing.__init__" My.s_I_NoDrawing:=by
   refine' L2.XI.mk' ?l ?o ?s ?i c24 ?t ?f ?c ?k ?b ?kc k104 e104.hd e104.sa ?na
   (case l=>dsimp only[L2.KOf];k_is);(case o=>dsimp only[L2.KOf];k_is);(case s=>rfl);(case i=>dsimp only[L2.KOf];k_is);(case t=>dsimp only[L2.KOf];k_is);(case f=>dsimp only[L2.KOf];k_is);(case c=>dsimp only[L2.KOf];k_is);(case k=>dsimp only[L2.KOf];k_is);(case b=>intro _ _ _ _ _ _ us hl;obtain⟨_,_,rfl⟩:=L2.len2 hl;rfl);(case kc=>dsimp only[L2.KOf];k_is)
   (case na=>intro a m;simp only[jt,ia,or_false]at m;rcases m with rfl<;>assumption)
  have n123_number:L2.NoAttr (L2.KOf KX) 123 "number":=by
   unfold L2.NoAttr;dsimp only[L2.KOf]
   k_is
  have e123:L2.ExI (L2.KOf KX) 123:=by
   refine' ⟨k123,?b,?c⟩
   (case b=>dsimp only[L2.KOf];k_is);(case c=>dsimp only[L2.KOf];k_is)
  have r123:L2.XI (L2.KOf KX) 123 ["number"] "NoGap.__init__" My.s_I_NoGap:=by
   refine' L2.XI.mk' ?l ?o ?s ?i c24 ?t ?f ?c ?k ?b ?kc k123 e123.hd e123.sa ?na
   (case l=>dsimp only[L2.KOf];k_is);(case o=>dsimp only[L2.KOf];k_is);(case s=>rfl);(case i=>dsimp only[L2.KOf];k_is);(case t=>dsimp only[L2.KOf];k_is);(case f=>dsimp only[L2.KOf];k_is);(case c=>dsimp only[L2.KOf];k_is);(case k=>dsimp only[L2.KOf];k_is);(case b=>intro _ _ _ _ _ _ us hl;obtain⟨_,_,rfl⟩:=L2.len2 hl;rfl);(case kc=>dsimp only[L2.KOf];k_is)
   (case na=>intro a m;simp only[jt,ia,or_false]at m;rcases m with rfl<;>assumption)
  have n161_row:L2.NoAttr (L2.KOf KX) 161 "row":=by
   unfold L2.NoAttr;dsimp only[L2.KOf]
   k_is
  have e161:L2.ExI (L2.KOf KX) 161:=by
   refine' ⟨k161,?b,?c⟩
   (case b=>dsimp only[L2.KOf];k_is);(case c=>dsimp only[L2.KOf];k_is)
  have r161:L2.XI (L2.KOf KX) 161 ["row"] "NoText.__init__" My.s_I_NoText:=by
   refine' L2.XI.mk' ?l ?o ?s ?i c24 ?t ?f ?c ?k ?b ?kc k161 e161.hd e161.sa ?na
   (case l=>dsimp only[L2.KOf];k_is);(case o=>dsimp only[L2.KOf];k_is);(case s=>rfl);(case i=>dsimp only[L2.KOf];k_is);(case t=>dsimp only[L2.KOf];k_is);(case f=>dsimp only[L2.KOf];k_is);(case c=>dsimp only[L2.KOf];k_is);(case k=>dsimp only[L2.KOf];k_is);(case b=>intro _ _ _ _ _ _ us hl;obtain⟨_,_,rfl⟩:=L2.len2 hl;rfl);(case kc=>dsimp only[L2.KOf];k_is)
   (case na=>intro a m;simp only[jt,ia,or_false]at m;rcases m with rfl<;>assumption)
  have a_row:L2.ExsI (L2.KOf KX) [161] "row":=by
   refine⟨fun C m=>?_,fun C m=>?_⟩
   ·simp only[jt,ia,or_false]at m;rcases m with rfl<;>assumption
   ·simp only[jt,ia,or_false]at m;rcases m with rfl<;>assumption
  have ex:L2.Exs (L2.KOf KX):=by
   refine⟨sp,fun C m=>?_,fun C m=>?_,fun C m=>?_⟩
   ·simp only[L2.excs,jt,ia,or_false]at m;rcases m with rfl|rfl|rfl|rfl|rfl|rfl|rfl|rfl|rfl|rfl<;>assumption
   ·simp only[L2.exc0,jt,ia,or_false]at m;rcases m with rfl|rfl|rfl|rfl|rfl<;>assumption
   ·simp only[L2.excs,jt,ia,or_false]at m;rcases m with rfl|rfl|rfl|rfl|rfl|rfl|rfl|rfl|rfl|rfl<;>assumption
  have xx:My.Exx (L2.KOf KX) mg:=⟨ex,m24,m37,m49,m61,m73,m85,m104,m123,m142,m161,m180,c24,c37,c49,c61,c73,c85,r104,r123,r161,a_row⟩;have dd:My.Dds (L2.KOf KX) mg:=by constructor<;>(dsimp only[L2.KOf];refine' Dd.mk' KX G ?a ?l ?c ?k ?b;(case a=>k_is);(case l=>k_is);(case c=>k_is);(case k=>k_is);(case b=>(intro _ _ _ _ _ _ us hl;first|(obtain⟨_,rfl⟩:=L2.len1 hl;rfl)|(obtain⟨_,_,rfl⟩:=L2.len2 hl;rfl)|(obtain⟨_,_,_,rfl⟩:=L2.len3 hl;rfl))))
  obtain⟨f,fd,F,hm,_⟩:=d_law.ex;have e0:=hmg.symm.trans hm;cases e0;exact⟨fd,F.bind1 fun _ _ _ _ _ _ _=>rfl,fun base _ _=>My.ok_law T dd xx F⟩
#print axioms PySem.Challenge.cw_gaugewright_k72_texts_refused_holds
end