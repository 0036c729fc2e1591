import PyProof.Rows.All
import Wide.All
import OpenK.AllK
import Wide.FinOn
import Lean
import PyProof.EqAt
import PyProof.EqKinds
import PyProof.TupleCall
import KE.KTupSum
import KE.KSortTup
import PyProof.SetKind
import PyProof.SetRoads
import PyProof.SetNew
import PyProof.DictKinds
import PyProof.NsDelKeeps
import PyProof.StrWalks
import KE.KEqDict
import KE.KDictList
import PyProof.AttrMissSeq
import PyProof.WalksMore
import KE.KDictOf
import PyProof.Rows.Range3
import KE.KItemsList
import PyProof.FactsAll.dict_3
import KE.KMinKey
import PyProof.Rows.CallKwBuiltin
import PyProof.TupleOfSeq
import KE.KLam
import KE.KNestM
import PyProof.Rows.StrNews
import KE.KIntText
import PyProof.TupleKey
import PyProof.DictFindH
import PyProof.DictRoadsH
import PyProof.DictItems
import PyProof.Rows.TupTab
import Wide.Seal
import PyProof.DictValues
import PySem.Challenge.RW_gaugewright_k32_reaches_too_great
open Array renaming toList_append→je,length_toList→js,toList_extract→oo,getElem?_toList→ow
open Bool renaming false_eq_true→fm,false_ne_true→jk,and_eq_true→jn
open Exists renaming intro→ub
open False renaming elim→iu
open ForInStep renaming yield→qt
open Int renaming eq_ofNat_of_zero_le→ix,emod_lt_of_pos→kj,emod_nonneg→lq,zero_add→nq,mul_comm→rq
open List renaming replicate→bx,mem_of_getElem?→cb,getElem?_eq_getElem→cw,mem_cons_of_mem→cz,getElem?_concat_length→dh,mem_cons_self→fq,getElem?_append_left→ft,size_toArray→fx,length_cons→fy,map_cons→gc,not_mem_nil→ge,length_map→gh,mem_append_left→gj,getD_eq_getElem?_getD→gk,mem_append_right→gm,length_append→gu,mem_cons→gw,append_assoc→ig,getElem?_map→iw,range→jb,eq_nil_of_length_eq_zero→jd,append_nil→jl,extract_eq_take_drop→jr,length_singleton→jt,map_map→ki,drop_eq_getElem_cons→ko,toArray→li,Nodup→lj,lookup_cons→ll,length_take→nv,take_append_drop→ny,getElem?_cons_succ→om,getElem?_set_self→oy,replicate_succ→qe,lookup→qf,getElem?_replicate→qg,foldl→qh,getElem?_cons_zero→qj,mem_of_mem_take→qp,zip_cons_cons→qv,take_of_length_le→rc,drop_of_length_le→re,sum_cons→rh,map_congr_left→rl,getElem?_set_ne→sj,foldl_cons→su,nodup_cons→sw
open Nat renaming le_refl→dw,lt_of_lt_of_le→gx,ne_of_lt→ir,lt_irrefl→jp,le_of_lt→kl,le_trans→ky,zero_le→ly,ne_of_gt→tq,add_zero→ua
open Ne renaming symm→im
open Option renaming map→sx
open Option.some renaming inj→gi
open Or renaming inl→ja
open PyProof.Rows renaming wpS_bind→cg,wpS_pure→ck,arrOf→cn,Keyed→cy,pendingOf→df,SortSt→gy,wpS_forRange→ik,envOfC→iy,wpS_mono→kq,callWith_type1→kr,wpS_modify→lv,setArr→oq,IntsAre→pp,seqObj→qm,failedOf→si,wpS_get→sr,SortKind→tz
open PySem renaming Value→bn,wpAny_bind→bo,PyData→bq,Shared→bu,wpAny_pure→cr,wpAny→cv,sizeLine→fc,Program→fg,starEach→fk,Around→gf,World→gg,bootBuiltins→jc,wpAny_field→jg,sizeLine_eq→ji,wpAny_mono→jj,wpAny_loadPart_at→jo,wpAny_truthy_bool→jw,wpAny_newObj_type→jx,compareOp→jy,wpAny_seqItems→kh,wpAny_callSpecial?_slot→km,wpAny_holding→ku,sysModules→kx,wpAny_call_entry→lr,binaryOp→lx,wpAny_rule→mw,FuncData→ng,Builtin→ni,mainGlobals→nu,wpAny_Call_Name_kw→ol,wpAny_setField_rec→on,wpAny_passesOwn→ou,wpAny_pyIter_list→pb,NameKind→pc,backTo→ph,attributeBase→pk,argBest→px,wpAny_pyIter_tuple→qi,IsPair→ql,wpAny_execs_nil→qo,intItems→qr,codeAny_builtin→qu,plainId_quiet→qw,cLine→rf,wpAny_typeOf→rp,rawInt→ss,sliceBounds→sy,wpAny_letGo→tm,codeAny→tw
open PySem.Around renaming under_plainId→pf
open PySem.Builtin.SmallTypes renaming nextOf→ic
open PySem.F renaming plain_min_loop→oh
open PySem.Heap renaming get?_push_of_some→bw,get?_push_size→fj,lt_size→fu,SameBut→io,get?_update_other→jh,get?_update_self→ls
open PySem.Heap.SameBut renaming update→qa
open PySem.Obj renaming mapSeq→jv,data_mapFields→qk,mapFields→qx
open PySem.PassesOwn renaming never→iq
open PySem.PyData renaming int→cu,canLay0→lg,eqv→lh,bool→lp,str→lu,canLayAll0→md,depthAll→mn
open PySem.SeqAt renaming shaped→gq,canLay_of_shaped→gv
open PySem.Str renaming ofString→nj
open PySem.Value renaming ref→fh,none→jq,builtin→qy,int→rn,bool→uc
open PySem.W renaming Frag→cq,mg_none_of→ju,kia_one→qd,keepIn→rg,findIn→sf,mg_of→sk,hideAll→ud,clsIn→uf
open Sum renaming inl→jf
open True renaming intro→kz
def cf:=@if_neg
def cp:=@if_pos
def gz:=@decide_eq_false
def ke:=@decide_eq_true
def qz:=@of_decide_eq_true
theorem yw{p:Prop}(h:p:=by omega):p:=h
theorem yv{p:Prop}(h:p:=by simp):p:=h
open Option (isSome_iff_exists isSome_map map_eq_some_iff map_some)
open Nat (add_zero le_of_lt le_refl le_trans lt_irrefl lt_of_lt_of_le lt_trans ne_of_gt ne_of_lt zero_add zero_le)
open List (all_cons all_eq_true any_cons append_assoc append_nil cons_append drop_eq_getElem_cons drop_length drop_of_length_le drop_zero eq_nil_of_length_eq_zero extract_eq_take_drop find?_cons flatten_cons foldl_cons forIn_cons getD_eq_getElem?_getD getElem?_append_left getElem?_concat_length getElem?_cons_succ getElem?_cons_zero getElem?_drop getElem?_eq_getElem getElem?_map getElem?_replicate getElem?_set_ne getElem?_set_self getElem?_take getElem_mem length_append length_cons length_drop length_map length_nil length_set length_singleton length_take lookup_cons map_append map_congr_left map_cons map_id map_map map_nil mem_append mem_append_left mem_append_right mem_cons mem_cons_of_mem mem_cons_self mem_filter mem_filterMap mem_iff_getElem? mem_map mem_of_getElem? mem_of_mem_drop mem_of_mem_take mem_range mem_reverse mem_singleton nil_append nodup_append nodup_cons nodup_nil not_mem_nil of_mem_zip pairwise_map prod_cons replicate_succ reverse_cons set_cons_succ set_cons_zero size_toArray sum_cons take_add_one take_append_drop take_length take_of_length_le take_zero zipIdx_cons zip_cons_cons)
open PySem.Heap (get?_push_of_some get?_push_size get?_update_ne get?_update_other get?_update_self lt_size size_push)
open Array (getElem?_toList length_toList toList_append toList_extract)
theorem dz{p:Prop}[Decidable p](h:decide p=true:=by rfl):p:=qz h
set_option Elab.async false
set_option linter.all false
set_option maxRecDepth 100000
set_option maxHeartbeats 8000000
noncomputable section
namespace L2
open PySem PySem.Spec PyProof.Rows
section
abbrev Key:=Sum Int Str
def kG:Key->bn->Bool
 | .inl k,v=>Value.isInt k v
 | .inr x,v=>Value.isStrOf x v
def IR(w:gg):Key->Int
 | .inl k=>hashInt k
 | .inr x=>hashStr w x
theorem gP:∀{k:Key}{v:bn},kG k v=true->(∃i t,k=jf i/\v=rn i t)\/(∃x t,k=Sum.inr x/\v=Value.str x t)
 | .inl i,v,h=>by
  obtain⟨t,e⟩:=Value.isInt_shape (k:=i) (v:=v) h;exact .inl ⟨i,t,rfl,e⟩
 | .inr x,v,h=>by
  obtain⟨t,e⟩:=Value.isStrOf_shape (x:=x) (v:=v) h;exact .inr ⟨x,t,rfl,e⟩
theorem K0(i:Int)(t:Tok):kG (.inl i) (.int i t)=true:=by simp[kG,Value.isInt]
theorem Mw(x:Str)(t:Tok):kG (.inr x) (.str x t)=true:=by simp[kG,Value.isStrOf]
theorem Jl(a b:Int):decide ((jf a:Key)=jf b)=(a==b):=by
 by_cases e:a=b
 ·subst e;simp
 ·have h:¬(jf a:Key)=jf b:=fun q=>e (Sum.inl.inj q);rw[gz h];exact(beq_eq_false_iff_ne.mpr e).symm
theorem KC(a b:Str):decide ((Sum.inr a:Key)=Sum.inr b)=decide (a=b):=by
 by_cases e:a=b
 ·subst e;simp
 ·have h:¬(Sum.inr a:Key)=Sum.inr b:=fun q=>e (Sum.inr.inj q);rw[gz h,gz e]
theorem KY(a:Int)(b:Str):decide ((jf a:Key)=Sum.inr b)=false:=gz (fun q=>nomatch q)
theorem Lu(a:Str)(b:Int):decide ((Sum.inr a:Key)=jf b)=false:=gz (fun q=>nomatch q)
def aW(prog:fg)(w:gg):PySem.KeyKind prog w Key where
 is:=kG
 hash:=IR w
 inj:=fun v a b ha hb=>by
  rcases gP ha with ⟨i,t,rfl,rfl⟩|⟨x,t,rfl,rfl⟩
  ·rcases gP hb with ⟨j,u,rfl,e⟩|⟨y,u,rfl,e⟩
   ·injection e with e1 _;rw[e1]
   ·exact nomatch e
  ·rcases gP hb with ⟨j,u,rfl,e⟩|⟨y,u,rfl,e⟩
   ·exact nomatch e
   ·injection e with e1 _;rw[e1]
 byValue:=fun k v h=>by
  rcases gP h with ⟨i,t,rfl,rfl⟩|⟨x,t,rfl,rfl⟩<;>rfl
 pyHash:=fun hv h=>by
  rcases gP hv with ⟨i,t,rfl,rfl⟩|⟨x,t,rfl,rfl⟩
  ·exact wpAny_pyHash_int h
  ·exact wpAny_pyHash_str h
 eqBool:=fun hu hv h=>by
  rcases gP hu with ⟨i,t,rfl,rfl⟩|⟨x,t,rfl,rfl⟩
  ·rcases gP hv with ⟨j,u,rfl,rfl⟩|⟨y,u,rfl,rfl⟩
   ·rw[Jl]at h;exact wpAny_eqBool_int h
   ·rw[KY]at h;exact SeqAt.EqAt.int_str i t y u _ _ _ _ h
  ·rcases gP hv with ⟨j,u,rfl,rfl⟩|⟨y,u,rfl,rfl⟩
   ·rw[Lu]at h;exact SeqAt.EqAt.str_int x t j u _ _ _ _ h
   ·rw[KC]at h;exact wpAny_eqBool_str h
 «strs»:=fun k x t v h=>by
  rcases gP h with ⟨i,u,rfl,e⟩|⟨y,u,rfl,e⟩
  ·exact nomatch e
  ·injection e with e1 _
   subst e1;cases v<;>rfl
theorem JI(prog:fg)(w:gg)(i:Int)(t:Tok):(aW prog w).is (.inl i) (.int i t)=true:=K0 i t
theorem II(prog:fg)(w:gg)(x:Str)(t:Tok):(aW prog w).is (.inr x) (.str x t)=true:=Mw x t
end
section
inductive V where
 |non|bl (b:Bool)|int (i:Int)|str (x:Str)|byt (b:Array UInt8)|flt (b:UInt64)|ref (a:Addr)|ty (n:String)
 deriving DecidableEq
def RelV:V->bn->Prop
 | .non,u=>u=jq
 | .bl b,u=>u=uc b
 | .int i,u=>∃t,u=rn i t
 | .str x,u=>∃t,u=Value.str x t
 | .byt b,u=>∃t,u=Value.bytes b t
 | .flt b,u=>∃t,u=Value.float b t
 | .ref a,u=>u=fh a
 | .ty n,u=>u=Value.type n
abbrev Vals:List V->List bn->Prop:=Paired RelV
theorem Vals.length{xs:List V}{us:List bn}(r:Vals xs us):xs.length=us.length:=Paired.length r
theorem Vals.get:∀{xs:List V}{us:List bn}{i:Nat}{x:V},Vals xs us->xs[i]?=some x->∃u,us[i]?=some u/\RelV x u
 |_,_,_,_,.nil,e=>by simp at e
 |_,_,0,_,.cons r _,e=>by simp at e;subst e;exact⟨_,rfl,r⟩
 |_,_,i+1,x,.cons _ t,e=>by
  obtain⟨u,h1,h2⟩:=Vals.get (i:=i) (x:=x) t (by simpa using e);exact⟨u,by simpa using h1,h2⟩
theorem Vals.set{x:V}{u:bn}(r:RelV x u):∀{xs:List V}{us:List bn} (i:Nat),Vals xs us->Vals (xs.set i x) (us.set i u)
 |_,_,_,.nil=>.nil
 |_,_,0,.cons _ t=>.cons r t
 |_,_,i+1,.cons q t=>.cons q (Vals.set r i t)
theorem Vals.append:∀{xs ys:List V}{us ws:List bn},Vals xs us->Vals ys ws->Vals (xs++ys) (us++ws)
 |_,_,_,_,.nil,s=>s
 |_,_,_,_,.cons r t,s=>.cons r (Vals.append t s)
theorem Vals.take:∀{xs:List V}{us:List bn} (n:Nat),Vals xs us->Vals (xs.take n) (us.take n)
 |_,_,0,_=>.nil
 |_,_,_+1,.nil=>.nil
 |_,_,n+1,.cons r t=>.cons r (Vals.take n t)
theorem Vals.drop:∀{xs:List V}{us:List bn} (n:Nat),Vals xs us->Vals (xs.drop n) (us.drop n)
 |_,_,0,r=>r
 |_,_,_+1,.nil=>.nil
 |_,_,n+1,.cons _ t=>Vals.drop n t
def RelO:Option V->Option bn->Prop
 |some v,some u=>RelV v u
 |none,none=>True
 |_,_=>False
def KV{κ:Type}:List (κ×V)->List (κ×bn)->Prop:=Paired fun(p:κ×V) (q:κ×bn)=>p.1=q.1/\RelV p.2 q.2
def kV:Key->V
 | .inl i=>.int i
 | .inr x=>.str x
inductive HO where
 |lst (xs:List V)
 |tup (xs:List V)
 |dK (kvs:List (Key×V))|dT (kvs:List (List Key×V))
 |set (S:Int->Bool) (n:Nat)
 |ins (C dx:Addr) (fs:List (Str×V))
 |own (x:Addr)
 |xd (fs:List (Str×V))
 |met (f x:Addr)
 |rng (lo hi:Int)
 |frz (o:Obj) (u:HO)
 |tbl (ps:Array bn)
 |ext (φ:Heap->Prop)
abbrev Hp:=Addr->Option HO
def upd(H:Hp)(a:Addr)(o:HO):Hp:=fun b=>if b=a then some o else H b
theorem zM{H:Hp}{a:Addr}{o:HO}:upd H a o a=some o:=by unfold upd;rw[cp rfl]
theorem zG{H:Hp}{a b:Addr}{o:HO}(h:b≠a):upd H a o b=H b:=by unfold upd;rw[cf h]
theorem qV{H:Hp}{a:Addr}{o u:HO}:upd (upd H a o) a u=upd H a u:=by
 funext b;unfold upd;split<;>rfl
theorem MU{H:Hp}{a b:Addr}{o u:HO}(h:H a=some o)(h':H b=some u)(d:o≠u):a≠b:=by
 intro e;subst e;rw[h]at h';exact d (gi h')
theorem zO{H:Hp}{a b:Addr}{o:HO}(h:H a=some o)(h':H b=none):a≠b:=by
 intro e;subst e;rw[h]at h';cases h'
def TblOk(H:Hp)(ps qs:Array bn):Prop:=qs = #[]\/∃(l c:bn) (q:Str) (t:Tok) (k:Addr) (oc:Obj) (vs:Array bn) (t':Tok),ps = #[l,c,.str q t]/\qs = #[l,c,.ref k]/\H k=some (.frz oc (.own 0))/\oc.data=.fields vs/\vs[1]?=some (.str q t')
theorem TblOk.stay{H H':Hp}{ps qs:Array bn}(x:TblOk H ps qs)(hf:∀b o u,H b=some (.frz o u)->H' b=some (.frz o u)):TblOk H' ps qs:=by
 rcases x with x|⟨l,c,q,t,k,oc,vs,t',e1,e2,e3,r⟩
 ·exact .inl x
 ·exact .inr ⟨l,c,q,t,k,oc,vs,t',e1,e2,hf _ _ _ e3,r⟩
section
variable (P:fg) (w:gg)
def ObjOk(H:Hp)(h:Heap)(a:Addr):HO->Prop
 | .lst xs=>xs.length<=fc/\∃(its:List bn) (n:Nat),Vals xs its/\h.get? a=some { cls:=.type "list",data:=.seq its.toArray n }
 | .tup xs=>(xs.length<=fc/\∃o:Obj,h.get? a=some o/\o.dict=none)/\∃its:List bn,Vals xs its/\IsTup h a its.toArray
 | .dK kvs=>kvs.length<=fc/\(a==kx)=false/\∃vs,KV kvs vs/\h.DictOf (aW P w) a vs
 | .dT kvs=>kvs.length<=fc/\(a==kx)=false/\∃xs:List (List Key×Addr×bn),
   Paired (fun(p:List Key×V) (q:List Key×Addr×bn)=>p.1=q.1/\H q.2.1=some (.tup (p.1.map kV))/\RelV p.2 q.2.2) kvs xs /\
   ∃o es ep,h.get? a=some o/\o.ExactDict/\o.data=.dict es ep/\es.toList=xs.map (entryOfKey (tupleKind (aW P w)))/\(xs.map (·.1)).Nodup
 | .set S n=>h.SetOf (intKind P w) a S n
 | .ins C dx fs=>H dx=some (.own a)/\fs.length<=1000/\dx≠a/\h.get? a=some (W.instObj C dx) /\
   ∃mA,h.Ns1 dx mA/\(∀f,RelO (fs.lookup f) (mA f))/\PySem.Within mA (fs.map (·.1))
 | .own _=>∃o,h.get? a=some o
 | .xd fs=>∃mA,h.Ns1 a mA/\∀f,RelO (fs.lookup f) (mA f)
 | .rng lo hi=>∃t u v,h.get? a=some { cls:=.type "range",data:=.fields #[.int lo t,.int hi u,.int 1 v] }
 | .frz o u=>h.get? a=some o/\ObjOk H h a u
 | .tbl ps=>∃qs:Array bn,h.get? a=some { cls:=.none,data:=.fields qs }/\TblOk H ps qs
 | .met f x=>h.get? a=some (W.methodObj (.ref f) (.ref x))
 | .ext φ=>φ h/\(∃o,h.get? a=some o)/\∀h1 h2:Heap,φ h1->(∀o,h1.get? a=some o->h2.get? a=some o)->φ h2
def HOk(H:Hp)(h:Heap):Prop:=∀a o,H a=some o->ObjOk P w H h a o
end
section
variable {P:fg}{w:gg}{H H':Hp}{h h':Heap}{a:Addr}{o:HO}
theorem ObjOk.lt(x:ObjOk P w H h a o):a<h.objs.size:=by
 cases o with
 |lst xs=>obtain⟨_,_,_,_,e⟩:=x;exact fu e
 |tup xs=>obtain⟨_,_,_,p⟩:=x;exact p.lt
 |dK kvs=>obtain⟨_,_,_,_,o,_,_,e,_⟩:=x;exact fu e
 |dT kvs=>obtain⟨_,_,_,_,o,_,_,e,_⟩:=x;exact fu e
 |set S n=>obtain⟨o,_,_,_,e,_⟩:=x;exact fu e
 |ins C dx fs=>obtain⟨_,_,_,e,_⟩:=x;exact fu e
 |own y=>obtain⟨_,e⟩:=x;exact fu e
 |xd fs=>obtain⟨_,⟨_,_,_,e,_⟩,_⟩:=x;exact fu e
 |rng lo hi=>obtain⟨_,_,_,e⟩:=x;exact fu e
 |frz ob u=>obtain⟨e,_⟩:=x;exact fu e
 |tbl ps=>obtain⟨_,e,_⟩:=x;exact fu e
 |met f y=>exact fu (show h.get? a=some _ from x)
 |ext φ=>obtain⟨_,⟨_,e⟩,_⟩:=x;exact fu e
theorem Paired.mapP{α β:Type}{F G:α->β->Prop}:∀{l₁:List α}{l₂:List β},Paired F l₁ l₂->(∀a b,F a b->G a b)->Paired G l₁ l₂
 |_,_,.nil,_=>.nil
 |_,_,.cons r t,f=>.cons (f _ _ r) (Paired.mapP t f)
theorem ObjOk.stay(x:ObjOk P w H h a o)(k:∀b u,(b=a\/H b=some (.own a))->h.get? b=some u->h'.get? b=some u)
  (ho:∀b,H b=some (.own a)->H' b=some (.own a)) (ht:∀b xs,H b=some (.tup xs)->H' b=some (.tup xs))
  (hf:∀b o u,H b=some (.frz o u)->H' b=some (.frz o u):=by first|exact fun _ _ _ q=>q|(intro b o u q;rw[zG (zO q (by assumption))];exact q)):ObjOk P w H' h' a o:=by
 induction o with
 |lst xs=>obtain⟨z,aa,n,r,e⟩:=x;exact⟨z,aa,n,r,k _ _ (.inl rfl) e⟩
 |tup xs=>obtain⟨⟨z,o2,e2,d2⟩,aa,r,ob,e,c⟩:=x;exact⟨⟨z,o2,k _ _ (.inl rfl) e2,d2⟩,aa,r,ob,k _ _ (.inl rfl) e,c⟩
 |dK kvs=>obtain⟨z,y,vs,r,ob,es,ep,e,c⟩:=x;exact⟨z,y,vs,r,ob,es,ep,k _ _ (.inl rfl) e,c⟩
 |dT kvs=>
  obtain⟨z,y,xs,r,ob,es,ep,e,c⟩:=x;exact⟨z,y,xs,Paired.mapP r fun p q z=>⟨z.1,ht _ _ z.2.1,z.2.2⟩,ob,es,ep,k _ _ (.inl rfl) e,c⟩
 |set S n=>obtain⟨ob,es,ep,t,e,c⟩:=x;exact⟨ob,es,ep,t,k _ _ (.inl rfl) e,c⟩
 |ins C dx fs=>
  obtain⟨d,z,ne,e,mA,⟨od,es,ep,e2,c⟩,r⟩:=x;exact⟨ho _ d,z,ne,k _ _ (.inl rfl) e,mA,⟨od,es,ep,k _ _ (.inr d) e2,c⟩,r⟩
 |own y=>obtain⟨ob,e⟩:=x;exact⟨ob,k _ _ (.inl rfl) e⟩
 |xd fs=>obtain⟨mA,⟨od,es,ep,e,c⟩,r⟩:=x;exact⟨mA,⟨od,es,ep,k _ _ (.inl rfl) e,c⟩,r⟩
 |rng lo hi=>obtain⟨t,u,v,e⟩:=x;exact⟨t,u,v,k _ _ (.inl rfl) e⟩
 |frz ob u ih=>obtain⟨e,q⟩:=x;exact⟨k _ _ (.inl rfl) e,ih q⟩
 |tbl ps=>
  obtain⟨qs,e,q⟩:=x;exact⟨qs,k a _ (.inl rfl) e,q.stay hf⟩
 |met f y=>
  have e:h.get? a=some (W.methodObj (.ref f) (.ref y)):=x;show h'.get? a=some (W.methodObj (.ref f) (.ref y));exact k a _ (.inl rfl) e
 |ext φ=>obtain⟨p,⟨o,e⟩,st⟩:=x;exact⟨st _ _ p fun o q=>k _ _ (.inl rfl) q,⟨o,k _ _ (.inl rfl) e⟩,st⟩
theorem HOk.lt(x:HOk P w H h)(e:H a=some o):a<h.objs.size:=(x a o e).lt
theorem HOk.fresh(x:HOk P w H h)(e:h.objs.size<=a):H a=none:=by
 cases q:H a with
 |none=>rfl
 |some u=>exact absurd (gx (x.lt q) e) (jp _)
theorem HOk.kept(x:HOk P w H h)(k:∀b u,h.get? b=some u->h'.get? b=some u):HOk P w H h':=fun a o e=>
 (x a o e).stay (fun b u _ q=>k b u q) (fun _ q=>q) fun _ _ q=>q
theorem HOk.laid(x:HOk P w H h)(k:∀b u,h.get? b=some u->h'.get? b=some u)(hp:h.objs.size<=a)(z:ObjOk P w (upd H a o) h' a o):HOk P w (upd H a o) h':=fun b u e=>by
 have hn:=x.fresh hp;by_cases hb:b=a
 ·subst hb;rw[zM]at e;cases e;exact z
 ·rw[zG hb]at e;exact(x b u e).stay (fun c v _ q=>k c v q) (fun c q=>by rw[zG (zO q hn)];exact q) fun c xs q=>by rw[zG (zO q hn)];exact q
end
def Rd(H:Hp)(a:Addr)(u:HO):Prop:=H a=some u\/∃o,H a=some (.frz o u)
theorem Rd.ok{P:fg}{w:gg}{H:Hp}{h:Heap}{a:Addr}{u:HO}(r:Rd H a u)(x:HOk P w H h):ObjOk P w H h a u:=by
 rcases r with r|⟨o,r⟩
 ·exact x a u r
 ·obtain⟨_,q⟩:=x a _ r;exact q
def Mut:Option HO->Prop
 |some (.lst _)=>True
 |some (.dK _)=>True
 |some (.dT _)=>True
 |some (.set _ _)=>True
 |some (.ins _ _ _)=>True
 |some (.ext _)=>True
 |_=>False
section
variable {P:fg}{w:gg}{H:Hp}{h h':Heap}{x e:Addr}{o':HO}
theorem HOk.write(ok:HOk P w H h)(mu:Mut (H x))(he:e=x\/H e=some (.own x))(k:∀b u,b≠e->h.get? b=some u->h'.get? b=some u)(af:∃u,h'.get? e=some u)
  (new:ObjOk P w (upd H x o') h' x o'):HOk P w (upd H x o') h':=fun b u q=>by
 have aa:∀c y,H c=some (.own y)->c≠x:=fun c y r z=>by subst z;rw[r]at mu;exact mu
 have ae:∀c xs,H c=some (.tup xs)->c≠x:=fun c xs r z=>by subst z;rw[r]at mu;exact mu
 have ac:∀c o u,H c=some (.frz o u)->c≠x:=fun c o u r z=>by subst z;rw[r]at mu;exact mu
 by_cases hb:b=x
 ·subst hb;rw[zM]at q;cases q;exact new
 ·rw[zG hb]at q;by_cases hbe:b=e
  ·have q':H b=some (.own x):=by
    rcases he with z|z
    ·exact absurd (hbe.trans z) hb
    ·rw[hbe];exact z
   rw[q]at q';cases q';obtain⟨v,hv⟩:=af;exact⟨v,by rw[hbe];exact hv⟩
  ·refine(ok b u q).stay (fun c v hc r=>k c v ?_ r) (fun c r=>by rw[zG (aa c b r)];exact r) (fun c xs r=>by rw[zG (ae c xs r)];exact r) fun c o u r=>by rw[zG (ac c o u r)];exact r
   rcases hc with rfl|hc
   ·exact hbe
   ·rintro rfl;rcases he with z|z
    ·exact aa c b hc z
    ·rw[hc]at z;cases z;exact hb rfl
end
structure Un(fs ex:List Addr)(H H':Hp)(h h':Heap):Prop where
 keep:∀b o,h.get? b=some o->H b=none->b∉fs->b∉ex->h'.get? b=some o
 slot:∀b o,h.get? b=some o->H b=none->b∈fs->b∉ex->∃sl,h'.get? b=some { o with slots:=sl }
 free:∀b o,h.get? b=some o->H b=none->b∉ex->H' b=none
 there:∀b o,h.get? b=some o->b∉ex->∃o',h'.get? b=some o'
 tups:∀b xs,H b=some (.tup xs)->H' b=some (.tup xs)
 frzs:∀b o u,H b=some (.frz o u)->H' b=some (.frz o u)
 tbls:∀b ps,H b=some (.tbl ps)->H' b=some (.tbl ps)
section
variable {fs fs' ex ex':List Addr}{H H1 H2:Hp}{h h1 h2 h':Heap}{a x e:Addr}{o:HO}
theorem Un.any(u:Un fs ex H H1 h h1){b:Addr}{ob:Obj}(q:h.get? b=some ob)(n:H b=none)(hx:b∉ex):∃sl,h1.get? b=some { ob with slots:=sl }:=by
 by_cases hb:b∈fs
 ·exact u.slot b ob q n hb hx
 ·exact⟨ob.slots,u.keep b ob q n hb hx⟩
theorem Un.trans(a:Un fs ex H H1 h h1)(b:Un fs ex H1 H2 h1 h2):Un fs ex H H2 h h2 where
 keep:=fun c ob q n hc hx=>b.keep c ob (a.keep c ob q n hc hx) (a.free c ob q n hx) hc hx
 slot:=fun c ob q n hc hx=>by
  obtain⟨sl,e1⟩:=a.slot c ob q n hc hx;obtain⟨z,e2⟩:=b.slot c _ e1 (a.free c ob q n hx) hc hx;exact⟨z,e2⟩
 free:=fun c ob q n hx=>by
  obtain⟨o',e1⟩:=a.there c ob q hx;exact b.free c o' e1 (a.free c ob q n hx) hx
 there:=fun c ob q hx=>by
  obtain⟨o',e1⟩:=a.there c ob q hx;exact b.there c o' e1 hx
 tups:=fun c xs q=>b.tups c xs (a.tups c xs q)
 frzs:=fun c ob xs q=>b.frzs c ob xs (a.frzs c ob xs q)
 tbls:=fun c ps q=>b.tbls c _ (a.tbls c ps q)
theorem Un.kept(k:∀b u,h.get? b=some u->h'.get? b=some u):Un fs ex H H h h':=
 ⟨fun b ob q _ _ _=>k b ob q,fun b ob q _ _ _=>⟨ob.slots,k b ob q⟩,fun _ _ _ n _=>n,fun b ob q _=>⟨ob,k b ob q⟩,fun _ _ q=>q,fun _ _ _ q=>q,fun _ _ q=>q⟩
theorem Un.refl:Un fs ex H H h h:=Un.kept fun _ _ q=>q
theorem Un.laid(k:∀b u,h.get? b=some u->h'.get? b=some u)(hp:h.objs.size<=a)(hn:H a=none):Un fs ex H (upd H a o) h h' where
 keep:=fun b u q _ _ _=>k b u q
 slot:=fun b u q _ _ _=>⟨u.slots,k b u q⟩
 free:=fun b u q n _=>by rw[zG (ir (gx (fu q) hp))];exact n
 there:=fun b u q _=>⟨u,k b u q⟩
 tups:=fun b xs q=>by rw[zG (zO q hn)];exact q
 frzs:=fun b u xs q=>by rw[zG (zO q hn)];exact q
 tbls:=fun b ps q=>by rw[zG (zO q hn)];exact q
theorem Un.write(mu:Mut (H x))(he:e=x\/H e=some (.own x))(k:∀b u,b≠e->h.get? b=some u->h'.get? b=some u)(aa:∃u,h'.get? e=some u):Un fs ex H (upd H x o) h h':=by
 have hx:∀b,H b=none->b≠x:=fun b n z=>by subst z;rw[n]at mu;exact mu
 have hb:∀b,H b=none->b≠e:=fun b n z=>by
  subst z;rcases he with r|r
  ·exact hx b n r
  ·rw[n]at r;cases r
 have hm:∀b u,H b=some u->¬ Mut (some u)->b≠x:=fun b u q nm z=>by subst z;rw[q]at mu;exact nm mu
 refine⟨fun b u q n _ _=>k b u (hb b n) q,fun b u q n _ _=>⟨u.slots,k b u (hb b n) q⟩,fun b u q n _=>by rw[zG (hx b n)];exact n,fun b u q _=>?_,
  fun b xs q=>by rw[zG (hm b _ q fun z=>z)];exact q,fun b u xs q=>by rw[zG (hm b _ q fun z=>z)];exact q,fun b ps q=>by rw[zG (hm b _ q fun z=>z)];exact q⟩
 by_cases hbe:b=e
 ·subst hbe;exact aa
 ·exact⟨u,k b u hbe q⟩
theorem Un.mono(u:Un fs ex H H1 h h1)(hs:∀b∈fs,b∈fs')(hx:∀b∈ex,b∈ex'):Un fs' ex' H H1 h h1:=
 ⟨fun b ob q n hb he=>u.keep b ob q n (fun z=>hb (hs b z)) fun z=>he (hx b z),fun _ _ q n _ he=>u.any q n fun z=>he (hx _ z),fun b ob q n he=>u.free b ob q n fun z=>he (hx b z),fun b ob q he=>u.there b ob q fun z=>he (hx b z),u.tups,u.frzs,u.tbls⟩
end
def trk(h:Heap)(H:Hp):List Addr:=(jb h.objs.size).filter fun a=>(H a).isSome
def gR(h:Heap)(H:Hp):Heap:=ud h (trk h H)
theorem L5(h:Heap)(H:Hp):(gR h H).objs.size=h.objs.size:=W.hideAll_size _ _
theorem Hn{h:Heap}{H:Hp}{b:Addr}{o:Obj}(e:h.get? b=some o)(n:H b=none):(gR h H).get? b=some o:=
 W.hideAll_get _ e fun hm=>by
  have q:(H b).isSome=true:=(mem_filter.mp hm).2;rw[n]at q;simp at q
theorem Hs{h:Heap}{H:Hp}{b:Addr}{o:Obj}(e:(gR h H).get? b=some o):h.get? b=some o/\H b=none:=by
 have e':h.get? b=some o:=W.of_hideAll (trk h H) e;refine⟨e',?_⟩;cases q:H b with
 |none=>rfl
 |some x=>
  have hm:b∈trk h H:=mem_filter.mpr ⟨mem_range.mpr (fu e'),by simp[q]⟩;have z:(gR h H).get? b=none:=W.hideAll_none (trk h H) hm;rw[z]at e;cases e
def HV(g h:Heap)(L:Addr):List (Addr×Obj):=(jb h.objs.size).filterMap fun a=>if a=L\/(g.get? a).isSome=true then none else (h.get? a).map fun o=>(a,o)
def rest(g h:Heap)(L d:Addr):List (Addr×Obj):=(HV g h L).filter fun p=>decide (p.1≠d)
end
section
def tabsG:List ((Addr×Addr)×Array bn):=[]
def BltAt(base:Heap)(mg:Str->Option bn):Prop:=∃bm ob,mg "__builtins__" = some (.ref bm)/\bm≠builtinsNs/\base.get? bm=some ob/\ob.cls=.type "module"/\ob.dict=some builtinsNs/\ob.data=.plain
structure Frf(fs:List Addr)(H:Hp):Prop where
 free:∀b∈fs,H b=none
 tab:∀q∈tabsG,H q.1.2=some (.tbl q.2)
structure Mod(K:cq)(mg:Str->Option bn)(base:Heap):Prop where
 kin:K.In base
 glob:base.Ns nu mg
 blt:∃mb,base.Ns builtinsNs mb/\∀x:Str,x ≠ "__name__"->mb x=jc x
 nolimit:base.NoLimit
 bm:BltAt base mg
 hd:∀q∈tabsG,W.CodeHd base q.1.1 q.1.2
structure Cx where
 prog:fg
 w:gg
 K:cq
 mg:Str->Option bn
 base:Heap
 A:gf
 N:List Str
 s₀:bu
 H₀:Hp
 env:Env
 outer:List Env
 stack:List Env
 ex:List Addr
 fn:Str->Bool
 calm:Bool
 pn:List (Addr×Obj)
 xe:bn->bu->Prop
def frs(l:List Env):List Addr:=l.filterMap (·.frame)
abbrev Cx.fs (X:Cx):List Addr:=frs X.outer
def Vis(sc:Scope)(x:Str):Prop:=sc.names.lookup x=some .local\/sc.names.lookup x=some .cell\/sc.names.lookup x=some .free
def Loc(sc:Scope)(x:Str):Prop:=sc.names.lookup x=some .local\/sc.names.lookup x=some .cell
def Look(env:Env)(h:Heap)(m:Str->Option bn)(x:Str)(u:bn):Prop:=
 (env.kindOf x=some .local/\m x=some u)\/((env.kindOf x=some .cell\/env.kindOf x=some .free)/\∃c,env.cells.lookup x=some c/\h.IsCell c (some u))
structure Cx.Ok(X:Cx):Prop where
 mod:Mod X.K X.mg X.base
 kind:X.env.scope.kind=.function
 glob:X.env.globals=nu
 blt:X.env.builtins=builtinsNs
 above:X.s₀.heap.objs.size<=X.env.locals
 inj:∀x y c,X.env.cells.lookup x=some c->X.env.cells.lookup y=some c->x=y
 has:∀x,(X.env.kindOf x=some .cell\/X.env.kindOf x=some .free)->∃c,X.env.cells.lookup x=some c
 cab:∀x c,X.fn x=true->X.env.cells.lookup x=some c->X.s₀.heap.objs.size<=c
 hd:X.calm=true->X.A.handled=none
 frames:X.A.frames=some X.stack
 stk:X.stack=X.outer\/(X.stack=X.env::X.outer/\X.env.frame=some X.env.locals)
 exf:∀b∈X.ex,b≠X.env.locals/\∀x c,X.env.cells.lookup x=some c->c≠b
 bs:∀b o,X.base.get? b=some o->X.s₀.heap.get? b=some o/\X.H₀ b=none
 bsz:X.base.objs.size<=X.s₀.heap.objs.size
 noex:∀b o,X.base.get? b=some o->b∉X.ex
 exfs:∀b∈X.ex,b∉X.fs
 funs:X.s₀.heap.FunFrames X.base X.outer
 frf:Frf X.fs X.H₀
structure Inv(X:Cx)(zg:List (Addr×Obj))(σ:List (Option V))(H:Hp)(s:bu):Prop where
 ok:X.Ok
 os:s.os=X.s₀.os
 bare:AllBare s.gens
 base:Un X.fs X.ex X.H₀ H X.s₀.heap s.heap
 loc:∃m,s.heap.Ns X.env.locals m/\∀(i:Nat) (x:Str) (v:V),X.N[i]?=some x->σ[i]?=some (some v)->Vis X.env.scope x->∃u,RelV v u/\Look X.env s.heap m x u
 cell:∀x c,X.env.cells.lookup x=some c->∃v,s.heap.IsCell c v
 free:H X.env.locals=none
 freeC:∀x c,X.env.cells.lookup x=some c->H c=none
 pin:∀p∈X.pn++zg,s.heap.get? p.1=some p.2/\H p.1=none/\p.1≠X.env.locals/\p.1∉X.fs/\∀v,p.2.data≠.cell v
 hok:HOk X.prog X.w H s.heap
 len:σ.length=X.N.length
section
variable {X:Cx}{zg:List (Addr×Obj)}{σ:List (Option V)}{H H':Hp}{s:bu}{h':Heap}
theorem Cx.Ok.nofr(ok:X.Ok){b:Addr}{o:Obj}(e:X.base.get? b=some o):b∉X.fs:=fun hb=>by
 have:=(ok.funs.mem hb).1;rw[e]at this;cases this
theorem Inv.bs(I:Inv X zg σ H s):∀b o,X.base.get? b=some o->s.heap.get? b=some o/\H b=none:=fun b o e=>
 ⟨I.base.keep b o (I.ok.bs b o e).1 (I.ok.bs b o e).2 (I.ok.nofr e) (I.ok.noex b o e),I.base.free b o (I.ok.bs b o e).1 (I.ok.bs b o e).2 (I.ok.noex b o e)⟩
theorem Inv.bk(I:Inv X zg σ H s):∀b o,X.base.get? b=some o->s.heap.get? b=some o:=fun b o e=>(I.bs b o e).1
theorem Inv.mod(I:Inv X zg σ H s):Mod X.K X.mg X.base:=I.ok.mod
theorem Inv.kIn(I:Inv X zg σ H s):X.K.In s.heap:=I.ok.mod.kin.keeps I.bk
theorem Inv.lt(I:Inv X zg σ H s):X.env.locals<s.heap.objs.size:=let ⟨_,hn,_⟩:=I.loc;hn.lt
theorem Inv.sz(I:Inv X zg σ H s):X.s₀.heap.objs.size<=s.heap.objs.size:=ky I.ok.above (kl I.lt)
theorem Inv.nofs(I:Inv X zg σ H s){a:Addr}(h:s.heap.objs.size<=a):a∉X.fs:=fun hb=>by
 obtain⟨_,o,ho,_⟩:=I.ok.funs.mem hb;exact absurd (gx (fu ho) (ky I.sz h)) (jp _)
theorem Inv.cne(I:Inv X zg σ H s):∀x c,X.env.cells.lookup x=some c->c≠X.env.locals:=fun x c e z=>by
 obtain⟨v,o,ho,hd⟩:=I.cell x c e;obtain⟨m,⟨o',es,ep,aa,ac,_⟩,_⟩:=I.loc;rw[z,aa]at ho;cases ho;rw[ac]at hd;cases hd
theorem Inv.funs(I:Inv X zg σ H s):s.heap.FunFrames X.base X.outer:=by
 have all:∀(l:List Env),(∀b∈frs l,b∈X.fs)->X.s₀.heap.FunFrames X.base l->s.heap.FunFrames X.base l:=by
  intro l;induction l with
  |nil=>intro _ _;trivial
  |cons env r ih=>
   intro hs hl;obtain⟨hk,⟨L,o,hf,hn,ho,hd⟩,hr⟩:=hl;have hL:L∈X.fs:=hs L (by unfold frs;rw[List.filterMap_cons,hf];exact fq);obtain⟨sl,e⟩:=I.base.slot L o ho (I.ok.frf.free L hL) hL fun z=>I.ok.exfs L z hL;exact⟨hk,⟨L,_,hf,hn,e,hd⟩,ih (fun b hb=>hs b (by unfold frs;rw[List.filterMap_cons,hf];exact cz _ hb)) hr⟩
 exact all X.outer (fun _ hb=>hb) I.ok.funs
theorem Inv.stack(I:Inv X zg σ H s):s.heap.FunFrames X.base X.stack:=by
 rcases I.ok.stk with e|⟨e,hf⟩
 ·rw[e];exact I.funs
 ·rw[e];obtain⟨m,hn,_⟩:=I.loc;refine .cons (by rw[I.ok.kind];decide) hf hn ?_ I.funs;exact Heap.get?_none_of_le (ky I.ok.bsz I.ok.above)
theorem Inv.stkSub(I:Inv X zg σ H s):∀b∈frs X.stack,b∈X.env.locals::X.fs:=fun b hb=>by
 rcases I.ok.stk with e|⟨e,hf⟩
 ·rw[e]at hb;exact cz _ hb
 ·rw[e]at hb;unfold frs at hb;rw[List.filterMap_cons,hf]at hb;exact hb
theorem Inv.stkFree(I:Inv X zg σ H s):Frf (frs X.stack) H:=⟨fun b hb=>by
 rcases mem_cons.mp (I.stkSub b hb)with e|hb
 ·rw[e];exact I.free
 ·obtain⟨_,o,ho,_⟩:=I.ok.funs.mem hb;exact I.base.free b o ho (I.ok.frf.free b hb) fun z=>I.ok.exfs b z hb,fun q hq=>I.base.tbls _ _ (I.ok.frf.tab q hq)⟩
theorem Inv.step{g':Array GenState}{t':Nat}{d':Drawn}{ch:List Addr}(I:Inv X zg σ H s)
  (hch:∀b∈ch,(b∈X.ex\/X.s₀.heap.objs.size<=b)/\b≠X.env.locals/\(∀x c,X.env.cells.lookup x=some c->c≠b)/\∀p∈X.pn++zg,p.1≠b)
  (keep:∀b o,b≠X.env.locals->b∉X.fs->b∉ch->s.heap.get? b=some o->H b=none->h'.get? b=some o)
  (slot:∀b o,b≠X.env.locals->b∈X.fs->b∉ch->s.heap.get? b=some o->H b=none->∃sl,h'.get? b=some { o with slots:=sl }) (free:∀b o,b∉ch->s.heap.get? b=some o->H b=none->H' b=none)
  (there:∀b o,b∉ch->s.heap.get? b=some o->∃o',h'.get? b=some o')
  (tups:∀b xs,H b=some (.tup xs)->H' b=some (.tup xs)) (frzs:∀b o u,H b=some (.frz o u)->H' b=some (.frz o u)) (tbls:∀b ps,H b=some (.tbl ps)->H' b=some (.tbl ps))
  (ns:∀m,s.heap.Ns X.env.locals m->h'.Ns X.env.locals m) (hok:HOk X.prog X.w H' h') (hg:AllBare g'):
  Inv X zg σ H' { s with heap:=h',gens:=g',drawn:=d',toks:=t' }:=by
 have af:∀b o,X.s₀.heap.get? b=some o->b≠X.env.locals:=fun b o e=>ir (gx (fu e) I.ok.above);have ae:∀b o,X.s₀.heap.get? b=some o->b∉X.ex->b∉ch:=fun b o e hx hb=>by
  rcases(hch b hb).1 with z|z
  ·exact hx z
  ·exact absurd (gx (fu e) z) (jp _)
 have ac:∀x c,X.env.cells.lookup x=some c->∀v,s.heap.IsCell c v->h'.IsCell c v:=fun x c e v ⟨o,ho,hd⟩=>by
  have aa:c∉ch:=fun z=>(hch c z).2.2.1 x c e rfl;by_cases hc:c∈X.fs
  ·obtain⟨sl,q⟩:=slot c o (I.cne x c e) hc aa ho (I.freeC x c e);exact⟨_,q,hd⟩
  ·exact⟨o,keep c o (I.cne x c e) hc aa ho (I.freeC x c e),hd⟩
 refine⟨I.ok,I.os,hg,⟨fun b o e n hb hx=>?_,fun b o e n hb hx=>?_,fun b o e n hx=>?_,fun b o e hx=>?_,fun b xs e=>tups b xs (I.base.tups b xs e),fun b o xs e=>frzs b o xs (I.base.frzs b o xs e),fun b ps e=>?_⟩,?_,fun x c e=>?_,?_,fun x c e=>?_,fun p hp=>?_,hok,I.len⟩
 ·exact keep b o (af b o e) hb (ae b o e hx) (I.base.keep b o e n hb hx) (I.base.free b o e n hx)
 ·obtain⟨sl,e1⟩:=I.base.slot b o e n hb hx;obtain⟨ag,e2⟩:=slot b _ (af b o e) hb (ae b o e hx) e1 (I.base.free b o e n hx);exact⟨ag,e2⟩
 ·obtain⟨o',e1⟩:=I.base.there b o e hx;exact free b o' (ae b o e hx) e1 (I.base.free b o e n hx)
 ·obtain⟨o',e1⟩:=I.base.there b o e hx;exact there b o' (ae b o e hx) e1
 ·exact tbls b _ (I.base.tbls b ps e)
 ·obtain⟨m,hn,hl⟩:=I.loc;refine⟨m,ns m hn,fun i x v e1 e2 e3=>?_⟩;obtain⟨u,r,l⟩:=hl i x v e1 e2 e3;refine⟨u,r,?_⟩;rcases l with l|⟨k,c,e,z⟩
  ·exact .inl l
  ·exact .inr ⟨k,c,e,ac x c e _ z⟩
 ·obtain⟨v,z⟩:=I.cell x c e;exact⟨v,ac x c e v z⟩
 ·obtain⟨m,⟨o,_,_,ho,_⟩,_⟩:=I.loc;exact free _ o (fun z=>(hch _ z).2.1 rfl) ho I.free
 ·obtain⟨v,o,ho,hd⟩:=I.cell x c e;exact free c o (fun z=>(hch c z).2.2.1 x c e rfl) ho (I.freeC x c e)
 ·obtain⟨e,n,ne,nf,d⟩:=I.pin p hp;have aa:p.1∉ch:=fun z=>(hch p.1 z).2.2.2 p hp rfl;exact⟨keep p.1 p.2 ne nf aa e n,free p.1 p.2 aa e n,ne,nf,d⟩
theorem Inv.un{t':Nat}(I:Inv X zg σ H s)(u:Un X.fs [] H H' s.heap h')(hok:HOk X.prog X.w H' h'):Inv X zg σ H' { s with heap:=h',toks:=t' }:=by
 obtain⟨m,⟨o,es,ep,ho,r⟩,_⟩:=id I.loc;obtain⟨sl,hL⟩:=u.any ho I.free yv;exact I.step (g':=s.gens) (d':=s.drawn) (ch:=[]) (fun _ z=>nomatch z) (fun b o _ hb _ e n=>u.keep b o e n hb yv) (fun b o _ hb _ e n=>u.slot b o e n hb yv) (fun b o _ e n=>u.free b o e n yv) (fun b o _ e=>u.there b o e yv) u.tups u.frzs u.tbls (fun m' hm=>by
  obtain⟨o',ae,ac,aa,r'⟩:=hm;rw[ho]at aa;cases aa;exact⟨_,ae,ac,hL,r'⟩) hok I.bare
theorem Inv.call{g':Array GenState}{t':Nat}{d':Drawn}{ch:List Addr}(I:Inv X zg σ H s)(u:Un (frs X.stack) ch H H' s.heap h')(hok:HOk X.prog X.w H' h')(hg:AllBare g')
  (hch:∀b∈ch,(b∈X.ex\/X.s₀.heap.objs.size<=b)/\b≠X.env.locals/\(∀x c,X.env.cells.lookup x=some c->c≠b)/\∀p∈X.pn++zg,p.1≠b):
  Inv X zg σ H' { s with heap:=h',gens:=g',drawn:=d',toks:=t' }:=by
 obtain⟨m,⟨o,es,ep,ho,r⟩,_⟩:=id I.loc;obtain⟨sl,hL⟩:=u.any ho I.free fun z=>(hch _ z).2.1 rfl;exact I.step (ch:=ch) hch (fun b o hL hb hc e n=>u.keep b o e n (fun z=>(mem_cons.mp (I.stkSub b z)).elim hL hb) hc) (fun b o _ _ hc e n=>u.any e n hc) (fun b o hc e n=>u.free b o e n hc) (fun b o hc e=>u.there b o e hc) u.tups u.frzs u.tbls (fun m' hm=>by
  obtain⟨o',ae,ac,aa,r'⟩:=hm;rw[ho]at aa;cases aa;exact⟨_,ae,ac,hL,r'⟩) hok hg
theorem Inv.turned{t':Nat}{it:Addr}(I:Inv X zg σ H s)(k:∀b o,b≠it->s.heap.get? b=some o->h'.get? b=some o)(hn:H it=none)(hL:it≠X.env.locals)
  (h1:it∈X.ex\/X.s₀.heap.objs.size<=it) (h2:∀x c,X.env.cells.lookup x=some c->c≠it) (h3:∀p∈X.pn++zg,p.1≠it):Inv X zg σ H { s with heap:=h',toks:=t' }:=by
 have aa:∀b u,H b=some u->b≠it:=fun b u e z=>by rw[z,hn]at e;cases e
 refine I.step (g':=s.gens) (d':=s.drawn) (ch:=[it]) (fun b hb=>?_) (fun b o _ _ hc e _=>k b o (fun z=>hc (by simp[z])) e) (fun b o _ _ hc e _=>⟨o.slots,k b o (fun z=>hc (by simp[z])) e⟩) (fun _ _ _ _ n=>n)
  (fun b o hc e=>⟨o,k b o (fun z=>hc (by simp[z])) e⟩) (fun _ _ e=>e) (fun _ _ _ e=>e) (fun _ _ e=>e) (fun m hm=>?_) (fun b u e=>?_) I.bare
 ·have e:b=it:=by simpa using hb
  subst e;exact⟨h1,hL,h2,h3⟩
 ·obtain⟨o,es,ep,ho,r⟩:=hm;exact⟨o,es,ep,k _ o (im hL) ho,r⟩
 ·refine(I.hok b u e).stay (fun c v hc q=>k c v ?_ q) (fun _ q=>q) fun _ _ q=>q;rcases hc with z|z
  ·rw[z];exact aa b u e
  ·exact aa c _ z
theorem Inv.tok(I:Inv X zg σ H s)(t:Nat):Inv X zg σ H { s with toks:=t }:=I.un (h':=s.heap) (t':=t) Un.refl I.hok
theorem Inv.kept{t':Nat}(I:Inv X zg σ H s)(k:∀b u,s.heap.get? b=some u->h'.get? b=some u):Inv X zg σ H { s with heap:=h',toks:=t' }:=I.un (Un.kept k) (I.hok.kept k)
theorem Inv.laid{a:Addr}{o:HO}{t':Nat}(I:Inv X zg σ H s)(k:∀b u,s.heap.get? b=some u->h'.get? b=some u)(hp:s.heap.objs.size<=a)(z:ObjOk X.prog X.w (upd H a o) h' a o):
  Inv X zg σ (upd H a o) { s with heap:=h',toks:=t' }:=I.un (Un.laid k hp (I.hok.fresh hp)) (I.hok.laid k hp z)
theorem Inv.write{x e:Addr}{o:HO}{t':Nat}(I:Inv X zg σ H s)(mu:Mut (H x))(he:e=x\/H e=some (.own x))(k:∀b u,b≠e->s.heap.get? b=some u->h'.get? b=some u)(z:∃u,h'.get? e=some u)
  (new:ObjOk X.prog X.w (upd H x o) h' x o):Inv X zg σ (upd H x o) { s with heap:=h',toks:=t' }:=I.un (Un.write mu he k z) (I.hok.write mu he k z new)
theorem Inv.pins_of{aa:List (Addr×Obj)}(I:Inv X zg σ H s)(h:∀p∈aa,s.heap.get? p.1=some p.2/\H p.1=none/\p.1≠X.env.locals/\p.1∉X.fs/\∀v,p.2.data≠.cell v):Inv X aa σ H s:=
 ⟨I.ok,I.os,I.bare,I.base,I.loc,I.cell,I.free,I.freeC,fun p hp=>(mem_append.mp hp).elim (fun z=>I.pin p (gj _ z)) (h p),I.hok,I.len⟩
theorem Fw{N:List Str}(hN:N.Nodup){i j:Nat}{x:Str}(a:N[i]?=some x)(b:N[j]?=some x):i=j:=by
 obtain⟨h1,e1⟩:=List.getElem?_eq_some_iff.mp a;obtain⟨h2,e2⟩:=List.getElem?_eq_some_iff.mp b;exact(List.getElem_inj hN).mp (e1.trans e2.symm)
theorem Kv{M:Model}{A:gf}{E:bn->bu->Prop}{i:Nat}{x:Str}{v:V}{u:bn}{Q:Unit->bu->Prop}(I:Inv X zg σ H s)(hN:X.N.Nodup)(hi:X.N[i]?=some x)(hx:Loc X.env.scope x)(r:RelV v u)
  (h:∀s',Inv X zg (σ.set i (some v)) H s'->(∃a,io a s.heap s'.heap/\(a=X.env.locals\/X.env.cells.lookup x=some a))->Q () s') (hf:X.fn x=true\/X.env.scope.names.lookup x=some .local:=by first|exact .inl rfl|exact .inr rfl|assumption):cv M A (storeName X.env x u) Q E s:=by
 obtain⟨m,hn,hl⟩:=id I.loc;have ah:(X.env.scope.kind==.class||(X.env.scope.kind==.module&&X.env.locals != X.env.globals))=false:=by rw[I.ok.kind];rfl
 have ag:i<σ.length:=by rw[I.len];exact(List.getElem?_eq_some_iff.mp hi).1
 have ae:=I.cne;have aa:∀{a:Addr}{h':Heap},(∃o,s.heap.get? a=some o/\H a=none)->io a s.heap h'->HOk X.prog X.w H h':=fun {a h'} ha hs b ob e=>by
  obtain⟨_,_,ac⟩:=ha;refine(I.hok b ob e).stay (fun c w' hc q=>(hs.2 c ?_).trans q) (fun _ q=>q) fun _ _ q=>q;rintro rfl;rcases hc with rfl|hc
  ·rw[ac]at e;cases e
  ·rw[ac]at hc;cases hc
 rcases hx with hk|hk
 ·refine wpAny_storeName_local hk hn (fun h' am hs=>?_) ah;obtain⟨oL,_,_,al,_⟩:=id hn;refine h _ ⟨I.ok,I.os,I.bare,⟨fun b o e n hb hx=>?_,fun b o e n hb hx=>?_,I.base.free,fun b o e hx=>?_,I.base.tups,I.base.frzs,I.base.tbls⟩,⟨_,am,fun j y v' e1 e2 e3=>?_⟩,fun y c e=>?_,I.free,I.freeC,fun p hp=>?_,aa ⟨oL,al,I.free⟩ hs,by simpa using I.len⟩ ⟨_,hs,.inl rfl⟩
  ·exact(hs.2 b (ir (gx (fu e) I.ok.above))).trans (I.base.keep b o e n hb hx)
  ·obtain⟨sl,e1⟩:=I.base.slot b o e n hb hx;exact⟨sl,(hs.2 b (ir (gx (fu e) I.ok.above))).trans e1⟩
  ·obtain⟨o',e1⟩:=I.base.there b o e hx;exact⟨o',(hs.2 b (ir (gx (fu e) I.ok.above))).trans e1⟩
  ·by_cases hj:j=i
   ·subst hj;rw[hi]at e1;cases e1;rw[oy ag]at e2;cases e2;exact⟨u,r,.inl ⟨hk,yv⟩⟩
   ·rw[sj (im hj)]at e2;obtain⟨u',r',q⟩:=hl j y v' e1 e2 e3;refine⟨u',r',?_⟩;rcases q with ⟨k,e⟩|⟨k,c,e,z⟩
    ·refine .inl ⟨k,?_⟩;have:y≠x:=fun e=>hj (Fw hN e1 (e▸hi));simp[this,e]
    ·exact .inr ⟨k,c,e,z.sameBut hs (ae y c e)⟩
  ·obtain⟨w',z⟩:=I.cell y c e;exact⟨w',z.sameBut hs (ae y c e)⟩
  ·obtain⟨e,n,ne,nf,d⟩:=I.pin p hp;exact⟨(hs.2 p.1 ne).trans e,n,ne,nf,d⟩
 ·have af:X.fn x=true:=by
   rcases hf with z|z
   ·exact z
   ·rw[z]at hk;cases hk
  obtain⟨c,hc⟩:=I.ok.has x (.inl hk);obtain⟨w',z⟩:=I.cell x c hc;refine wpAny_storeName_cell I.ok.kind hk hc z (fun h' aj hs=>?_);obtain⟨oc,ak,ai⟩:=id z;refine h { s with heap:=h' } ⟨I.ok,I.os,I.bare,⟨fun b o e n hb hx=>?_,fun b o e n hb hx=>?_,I.base.free,fun b o e hx=>?_,I.base.tups,I.base.frzs,I.base.tbls⟩,⟨m,hn.sameBut hs (im (ae x c hc)),fun j y v' e1 e2 e3=>?_⟩,fun y c' e=>?_,I.free,I.freeC,fun p hp=>?_,aa ⟨oc,ak,I.freeC x c hc⟩ hs,by simpa using I.len⟩ ⟨c,hs,.inr hc⟩
  ·exact(hs.2 b (ir (gx (fu e) (I.ok.cab x c af hc)))).trans (I.base.keep b o e n hb hx)
  ·obtain⟨sl,e1⟩:=I.base.slot b o e n hb hx;exact⟨sl,(hs.2 b (ir (gx (fu e) (I.ok.cab x c af hc)))).trans e1⟩
  ·obtain⟨o',e1⟩:=I.base.there b o e hx;exact⟨o',(hs.2 b (ir (gx (fu e) (I.ok.cab x c af hc)))).trans e1⟩
  ·by_cases hj:j=i
   ·subst hj;rw[hi]at e1;cases e1;rw[oy ag]at e2;cases e2;exact⟨u,r,.inr ⟨.inl hk,c,hc,aj⟩⟩
   ·rw[sj (im hj)]at e2;obtain⟨u',r',q⟩:=hl j y v' e1 e2 e3;refine⟨u',r',?_⟩;rcases q with q|⟨k,c',e,z'⟩
    ·exact .inl q
    ·refine .inr ⟨k,c',e,z'.sameBut hs ?_⟩;rintro rfl;exact hj (Fw hN e1 (I.ok.inj _ _ _ e hc▸hi))
  ·by_cases hcc:c'=c
   ·subst hcc;exact⟨_,aj⟩
   ·obtain⟨w2,z2⟩:=I.cell y c' e;exact⟨w2,z2.sameBut hs hcc⟩
  ·obtain⟨e,n,ne,nf,d⟩:=I.pin p hp;refine⟨(hs.2 p.1 ?_).trans e,n,ne,nf,d⟩;intro q;rw[q,ak]at e;have q':oc=p.2:=gi e;exact d w' (by rw[<- q'];exact ai)
theorem uQ{M:Model}{A:gf}{E:bn->bu->Prop}{i:Nat}{x:Str}{v:V}{u:bn}{Q:Unit->bu->Prop}(I:Inv X zg σ H s)(hN:X.N.Nodup)(hi:X.N[i]?=some x)(hx:Loc X.env.scope x)(r:RelV v u)
  (h:∀s',Inv X zg (σ.set i (some v)) H s'->Q () s') (hf:X.fn x=true\/X.env.scope.names.lookup x=some .local:=by first|exact .inl rfl|exact .inr rfl|assumption):cv M A (storeName X.env x u) Q E s:=
 Kv I hN hi hx r (fun s' I' _=>h s' I') hf
theorem Inv.call'{s':bu}{ch:List Addr}(I:Inv X zg σ H s)(ho:s'.os=s.os)(u:Un (frs X.stack) ch H H' s.heap s'.heap)(hok:HOk X.prog X.w H' s'.heap)(hg:AllBare s'.gens)
  (hch:∀b∈ch,(b∈X.ex\/X.s₀.heap.objs.size<=b)/\b≠X.env.locals/\(∀x c,X.env.cells.lookup x=some c->c≠b)/\∀p∈X.pn++zg,p.1≠b):Inv X zg σ H' s':=by
 obtain⟨h',g',d',t',o'⟩:=s';have e:o'=s.os:=ho;subst e;exact I.call (g':=g') (t':=t') (d':=d') u hok hg hch
end
abbrev XK:=bn->Option Addr->Hp->Prop
abbrev St:=List (Option V)
abbrev VK:=V->Hp->Prop
abbrev TE:=St->Hp->VK->Prop
abbrev TT:=St->Hp->(Bool->Hp->Prop)->Prop
abbrev TA:=St->Hp->(List V->Hp->Prop)->Prop
structure Ends where
 nx:St->Hp->Prop
 rt:VK
 bk:St->Hp->Prop:=fun _ _=>False
 ct:St->Hp->Prop:=fun _ _=>False
abbrev TS:=Ends->St->Hp->Prop
def EP(X:Cx)(zg:List (Addr×Obj))(σ:St)(Q:VK)(u:bn)(s':bu):Prop:=∃v H',Inv X zg σ H' s'/\RelV v u/\Q v H'
def TP(X:Cx)(zg:List (Addr×Obj))(σ:St)(Q:Bool->Hp->Prop)(b:Bool)(s':bu):Prop:=∃H',Inv X zg σ H' s'/\Q b H'
def AP(X:Cx)(zg:List (Addr×Obj))(σ:St)(Q:List V->Hp->Prop)(us:List bn)(s':bu):Prop:=∃vs H',Inv X zg σ H' s'/\Vals vs us/\Q vs H'
def SP(X:Cx)(zg:List (Addr×Obj))(D:Ends)(f:Flow)(s':bu):Prop:=
 match f with
 | .next=>∃ σ' H',Inv X zg σ' H' s'/\D.nx σ' H'
 | .brk=>∃ σ' H',Inv X zg σ' H' s'/\D.bk σ' H'
 | .cont=>∃ σ' H',Inv X zg σ' H' s'/\D.ct σ' H'
 | .ret u=>∃v σ' H',Inv X zg σ' H' s'/\RelV v u/\D.rt v H'
def PE(X:Cx)(e:Expr)(t:TE):Prop:=
 ∀(zg:List (Addr×Obj)) (s:bu) (σ:St) (H:Hp) (Q:VK),Inv X zg σ H s->t σ H Q->cv (model X.prog X.w) X.A (eval e X.env) (EP X zg σ Q) X.xe s
def PT(X:Cx)(e:Expr)(t:TT):Prop:=
 ∀(zg:List (Addr×Obj)) (s:bu) (σ:St) (H:Hp) (Q:Bool->Hp->Prop),Inv X zg σ H s->t σ H Q->cv (model X.prog X.w) X.A (isTrue e X.env (eval e X.env)) (TP X zg σ Q) X.xe s
def PW(X:Cx)(e:Expr)(t:TT):Prop:=
 ∀(whole:Sem bn) (zg:List (Addr×Obj)) (s:bu) (σ:St) (H:Hp) (Q:Bool->Hp->Prop),Inv X zg σ H s->t σ H Q->cv (model X.prog X.w) X.A (isTrue e X.env whole) (TP X zg σ Q) X.xe s
theorem PW.pt{X:Cx}{e:Expr}{t:TT}(h:PW X e t):PT X e t:=h _
def PA(X:Cx)(es:List Expr)(t:TA):Prop:=
 ∀(pos:Pos) (zg:List (Addr×Obj)) (s:bu) (σ:St) (H:Hp) (Q:List V->Hp->Prop),Inv X zg σ H s->t σ H Q->cv (model X.prog X.w) X.A (spliced (ph pos (fk es X.env))) (AP X zg σ Q) X.xe s
def PS(X:Cx)(st:Stmt)(t:TS):Prop:=
 ∀(zg:List (Addr×Obj)) (s:bu) (σ:St) (H:Hp) (D:Ends),Inv X zg σ H s->t D σ H->cv (model X.prog X.w) X.A (exec st X.env) (SP X zg D) X.xe s
def PSs(X:Cx)(st:List Stmt)(t:TS):Prop:=
 ∀(zg:List (Addr×Obj)) (s:bu) (σ:St) (H:Hp) (D:Ends),Inv X zg σ H s->t D σ H->cv (model X.prog X.w) X.A (execs st X.env) (SP X zg D) X.xe s
theorem thn{α:Type}{t:Sem α}{Q Q':α->bu->Prop}{M:Model}{A:gf}{E:bn->bu->Prop}{s:bu}(h:cv M A t Q E s)(hQ:∀a s,Q a s->Q' a s):cv M A t Q' E s:=jj h hQ fun _ _ x=>x
end
section
section
variable {X:Cx}
def dL(i:Nat):TE:=fun σ H Q=>∃v,σ[i]?=some (some v)/\Q v H
def tC(v:V):TE:=fun _ H Q=>Q v H
theorem J5{i:Nat}{x:Str}{pos:Pos}(hN:X.N[i]?=some x)(hv:Vis X.env.scope x)(hd:(x==("__debug__":Str))=false:=by decide)(z:(x==("__classdict__":Str))=false:=by decide):PE X (.Name x pos) (dL i):=by
 intro zg s σ H Q I h;obtain⟨v,e,h⟩:=h;obtain⟨m,hn,hl⟩:=I.loc;obtain⟨u,r,l⟩:=hl i x v hN e hv;have fin:EP X zg σ Q u s:=⟨v,H,I,r,h⟩;rcases l with ⟨hk,hm⟩|⟨hk,c,hc,hcell⟩
 ·exact wpAny_Name (wpAny_loadName_local I.ok.kind hk hn hm fin) hd
 ·rcases hk with hk|hk
  ·exact wpAny_Name (wpAny_loadName_cell I.ok.kind hk hc hcell fin) hd
  ·exact wpAny_Name (wpAny_loadName_free I.ok.kind hk hc hcell fin z) hd
theorem zd{i j pos}:PE X (.Constant (.int i) j pos) (tC (.int i)):=fun _ _ _ H _ I h=>wpAny_Constant_int ⟨.int i,H,I.tok _,⟨_,rfl⟩,h⟩
theorem fP{b j pos}:PE X (.Constant (.bool b) j pos) (tC (.bl b)):=fun _ _ _ H _ I h=>Constant_bool ⟨.bl b,H,I,rfl,h⟩
theorem xA{j pos}:PE X (.Constant .none j pos) (tC .non):=fun _ _ _ H _ I h=>Constant_none ⟨.non,H,I,rfl,h⟩
theorem aT{x j pos}:PE X (.Constant (.str x) j pos) (tC (.str x)):=fun _ _ _ H _ I h=>Calls.Constant_str ⟨.str x,H,I.tok _,⟨_,rfl⟩,h⟩
def Gl(X:Cx)(x:Str):Prop:=X.env.kindOf x=some .globalImplicit
theorem mU{E:bn->bu->Prop}{zg:List (Addr×Obj)}{s:bu}{σ:St}{H:Hp}{x:Str}{u:bn}{pos:Pos}{Q:bn->bu->Prop}(I:Inv X zg σ H s)(hg:Gl X x)(hm:X.mg x=some u)(h:Q u s)
  (hd:(x==("__debug__":Str))=false:=by decide):cv (model X.prog X.w) X.A (eval (.Name x pos) X.env) Q E s:=
 Calls.Name_function_global I.ok.kind hg (Calls.loadGlobal_global (by rw[I.ok.glob];exact I.mod.glob.keeps I.bk) hm h) hd
theorem iD{E:bn->bu->Prop}{zg:List (Addr×Obj)}{s:bu}{σ:St}{H:Hp}{x:Str}{u:bn}{pos:Pos}{Q:bn->bu->Prop}(I:Inv X zg σ H s)(hg:Gl X x)(hm:X.mg x=none)(hv:jc x=some u)(h:Q u s)
  (hn:x ≠ "__name__":=by decide) (hd:(x==("__debug__":Str))=false:=by decide):cv (model X.prog X.w) X.A (eval (.Name x pos) X.env) Q E s:=by
 obtain⟨mb,h1,h2⟩:=I.mod.blt;exact Calls.Name_function_global I.ok.kind hg (Calls.loadGlobal_builtin (by rw[I.ok.glob];exact I.mod.glob.keeps I.bk) hm (by rw[I.ok.blt];exact h1.keeps I.bk) ((h2 x hn).trans hv) h) hd
theorem eY{x:Str}{v:V}{u:bn}{pos:Pos}(hg:Gl X x)(hm:X.mg x=some u)(r:RelV v u)(hd:(x==("__debug__":Str))=false:=by decide):PE X (.Name x pos) (tC v):=
 fun _ _ _ H _ I h=>mU I hg hm ⟨v,H,I,r,h⟩ hd
theorem mK{x:Str}{v:V}{u:bn}{pos:Pos}(hg:Gl X x)(hm:X.mg x=none)(hv:jc x=some u)(r:RelV v u)(hn:x ≠ "__name__":=by decide)(hd:(x==("__debug__":Str))=false:=by decide):PE X (.Name x pos) (tC v):=
 fun _ _ _ H _ I h=>iD I hg hm hv ⟨v,H,I,r,h⟩ hn hd
variable {a b:Expr}{ta tb:TE}{pos:Pos}
def tB(t:TE):TT:=fun σ H Q=>t σ H fun x H1=>∃c,x=.bl c/\Q c H1
variable {tA tB':TT}{rest:List Expr}
def Ct(t u:TT):TT:=fun σ H Q=>t σ H fun c H1=>if c=true then u σ H1 Q else Q false H1
def tOr(t u:TT):TT:=fun σ H Q=>t σ H fun c H1=>if c=true then Q true H1 else u σ H1 Q
def Er(t:TT):TT:=fun σ H Q=>t σ H fun c H1=>Q (!c) H1
theorem w6(ha:PT X a tA):PW X (.BoolOp .And [a] pos) tA:=by
 intro wh zg s σ H Q I h;refine isTrue_and (thn (ha zg s σ H Q I h) fun c s1 e=>?_);cases c with
 |true=>exact isTrue_and_nil e
 |false=>exact e
theorem pL(ha:PT X a tA):PW X (.BoolOp .Or [a] pos) tA:=by
 intro wh zg s σ H Q I h;refine isTrue_or (thn (ha zg s σ H Q I h) fun c s1 e=>?_);cases c with
 |false=>exact isTrue_or_nil e
 |true=>exact e
theorem sJ(ha:PT X a tA)(hb:PW X (.BoolOp .And (b::rest) pos) tB'):PW X (.BoolOp .And (a::b::rest) pos) (Ct tA tB'):=by
 intro wh zg s σ H Q I h;refine isTrue_and (thn (ha zg s σ H _ I h) fun c s1 ⟨H1,I1,q1⟩=>?_);cases c with
 |true=>exact hb wh zg s1 σ H1 Q I1 q1
 |false=>exact⟨H1,I1,q1⟩
theorem rM(ha:PT X a tA)(hb:PW X (.BoolOp .Or (b::rest) pos) tB'):PW X (.BoolOp .Or (a::b::rest) pos) (tOr tA tB'):=by
 intro wh zg s σ H Q I h;refine isTrue_or (thn (ha zg s σ H _ I h) fun c s1 ⟨H1,I1,q1⟩=>?_);cases c with
 |true=>exact⟨H1,I1,q1⟩
 |false=>exact hb wh zg s1 σ H1 Q I1 q1
theorem f7(ha:PT X a tA):PT X (.UnaryOp .Not a pos) (Er tA):=by
 intro zg s σ H Q I h;exact isTrue_not (ha zg s σ H (fun c H1=>Q (!c) H1) I h)
def A5(ta tb:TE):TE:=fun σ H Q=>ta σ H fun x H1=>∃c,x=.bl c/\if c=true then tb σ H1 Q else Q (.bl false) H1
def Fi(ta:TE):TE:=fun σ H Q=>ta σ H fun x H1=>∃c,x=.bl c/\Q (.bl (!c)) H1
theorem wF{op}{t:TE}(h:PE X a t):PE X (.BoolOp op [a] pos) t:=fun zg s σ H Q I hw=>BoolOp_one (h zg s σ H Q I hw)
theorem v0(ha:PE X a ta)(hb:PE X (.BoolOp .And (b::rest) pos) tb):PE X (.BoolOp .And (a::b::rest) pos) (A5 ta tb):=by
 intro zg s σ H Q I h;refine BoolOp_and (thn (ha zg s σ H _ I h) fun v s1 ⟨x,H1,I1,r1,q1⟩=>?_);obtain⟨c,rfl,q1⟩:=q1;cases r1;refine jw ?_;cases c with
 |true=>exact hb zg s1 σ H1 Q I1 q1
 |false=>exact⟨.bl false,H1,I1,rfl,q1⟩
theorem Fs(ha:PE X a ta):PE X (.UnaryOp .Not a pos) (Fi ta):=by
 intro zg s σ H Q I h;refine UnaryOp_ (thn (ha zg s σ H _ I h) fun v s1 ⟨x,H1,I1,r1,q1⟩=>?_);obtain⟨c,rfl,q1⟩:=q1;cases r1;exact not_of (jw ⟨.bl (!c),H1,I1,rfl,q1⟩)
end
end
section
def SqL(K:cq)(H:Hp)(a:Addr)(xs:List V):Prop:=
 Rd H a (.lst xs) \/
  ∃(o:Obj) (its:Array bn) (n:Nat),K.lookup a=some o/\o.cls=.type "list"/\o.dict=none/\o.data=.seq its n/\its.size<=fc/\Vals xs its.toList
def SqT(K:cq)(H:Hp)(a:Addr)(xs:List V):Prop:=
 Rd H a (.tup xs) \/
  ∃(o:Obj) (its:Array bn) (n:Nat),K.lookup a=some o/\o.cls=.type "tuple"/\o.data=.seq its n/\its.size<=fc/\Vals xs its.toList
def LP:bn->Option V
 | .none=>some .non
 | .bool b=>some (.bl b)
 | .int i _=>some (.int i)
 | .str x _=>some (.str x)
 | .bytes b _=>some (.byt b)
 | .float b _=>some (.flt b)
 | .ref a=>some (.ref a)
 | .type n=>some (.ty n)
 |_=>none
theorem RelV.abs{x:V}{u:bn}(r:RelV x u):LP u=some x:=by
 cases x with
 |non=>cases r;rfl
 |bl _=>cases r;rfl
 |int _=>obtain⟨t,rfl⟩:=r;rfl
 |str _=>obtain⟨t,rfl⟩:=r;rfl
 |byt _=>obtain⟨t,rfl⟩:=r;rfl
 |flt _=>obtain⟨t,rfl⟩:=r;rfl
 |ref _=>cases r;rfl
 |ty _=>cases r;rfl
theorem RelV.inj{x y:V}{u:bn}(r:RelV x u)(q:RelV y u):x=y:=gi (r.abs.symm.trans q.abs)
theorem Vals.inj:∀{xs ys:List V}{us:List bn},Vals xs us->Vals ys us->xs=ys
 |_,_,_,.nil,.nil=>rfl
 |_,_,_,.cons r t,.cons r' t'=>by rw[r.inj r',Vals.inj t t']
section
variable {X:Cx}{zg:List (Addr×Obj)}{σ:St}{H:Hp}{s:bu}{a:Addr}{xs ys:List V}
theorem SqL.of{K:cq}(h:H a=some (.lst xs)):SqL K H a xs:=.inl (.inl h)
theorem SqT.of{K:cq}(h:H a=some (.tup xs)):SqT K H a xs:=.inl (.inl h)
theorem Inv.list(I:Inv X zg σ H s)(h:SqL X.K H a xs):∃aa:List bn,Vals xs aa/\PlainL s.heap a aa.toArray/\xs.length<=fc:=by
 rcases h with h|⟨o,aa,n,hk,hc,hd,hs,hz,r⟩
 ·obtain⟨z,aa,n,r,e⟩:=h.ok I.hok;exact⟨aa,r,⟨_,n,e,rfl,rfl,rfl⟩,z⟩
 ·refine⟨aa.toList,r,⟨o,n,I.kIn a o hk,hc,hd,by simpa using hs⟩,?_⟩;have e:=r.length;simp only[js]at e;omega
theorem Inv.tuple(I:Inv X zg σ H s)(h:SqT X.K H a xs):∃aa:List bn,Vals xs aa/\IsTup s.heap a aa.toArray/\xs.length<=fc:=by
 rcases h with h|⟨o,aa,n,hk,hc,hs,hz,r⟩
 ·obtain⟨z,aa,r,p⟩:=h.ok I.hok;exact⟨aa,r,p,z.1⟩
 ·refine⟨aa.toList,r,⟨o,I.kIn a o hk,hc,n,by simpa using hs⟩,?_⟩;have e:=r.length;simp only[js]at e;omega
theorem Inv.list_inj(I:Inv X zg σ H s)(h:SqL X.K H a xs)(h':SqL X.K H a ys):xs=ys:=by
 obtain⟨z,r,⟨o,n,e,_,_,d⟩,_⟩:=I.list h;obtain⟨its',r',⟨o',n',e',_,_,d'⟩,_⟩:=I.list h';rw[e]at e';cases e';rw[d]at d';injection d' with d1 _
 have:z=its':=by simpa using congrArg Array.toList d1
 subst this;exact r.inj r'
theorem Inv.tuple_inj(I:Inv X zg σ H s)(h:SqT X.K H a xs)(h':SqT X.K H a ys):xs=ys:=by
 obtain⟨z,r,⟨o,e,_,n,d⟩,_⟩:=I.tuple h;obtain⟨its',r',⟨o',e',_,n',d'⟩,_⟩:=I.tuple h';rw[e]at e';cases e';rw[d]at d';injection d' with d1 _
 have:z=its':=by simpa using congrArg Array.toList d1
 subst this;exact r.inj r'
end
abbrev Cx.wish (X:Cx) (E:bn->bu->Prop):Cx:={ X with xe:=E }
abbrev Cx.nox (X:Cx):Cx:=X.wish fun _ _=>False
theorem Cx.Ok.wish{X:Cx}(ok:X.Ok)(E:bn->bu->Prop):(X.wish E).Ok:=
 ⟨ok.mod,ok.kind,ok.glob,ok.blt,ok.above,ok.inj,ok.has,ok.cab,ok.hd,ok.frames,ok.stk,ok.exf,ok.bs,ok.bsz,ok.noex,ok.exfs,ok.funs,ok.frf⟩
theorem Cx.Ok.unwish{X:Cx}{E:bn->bu->Prop}(ok:(X.wish E).Ok):X.Ok:=
 ⟨ok.mod,ok.kind,ok.glob,ok.blt,ok.above,ok.inj,ok.has,ok.cab,ok.hd,ok.frames,ok.stk,ok.exf,ok.bs,ok.bsz,ok.noex,ok.exfs,ok.funs,ok.frf⟩
section
variable {X:Cx}{zg:List (Addr×Obj)}{σ:St}{H:Hp}{s:bu}{E:bn->bu->Prop}
theorem Inv.wish(I:Inv X zg σ H s)(E:bn->bu->Prop):Inv (X.wish E) zg σ H s:=⟨I.ok.wish E,I.os,I.bare,I.base,I.loc,I.cell,I.free,I.freeC,I.pin,I.hok,I.len⟩
theorem Inv.unwish(I:Inv (X.wish E) zg σ H s):Inv X zg σ H s:=⟨I.ok.unwish,I.os,I.bare,I.base,I.loc,I.cell,I.free,I.freeC,I.pin,I.hok,I.len⟩
theorem SP.unwish{D:Ends}{f:Flow}{s':bu}(h:SP (X.wish E) zg D f s'):SP X zg D f s':=by
 cases f with
 |next=>obtain⟨σ',H',I,q⟩:=h;exact⟨σ',H',I.unwish,q⟩
 |brk=>obtain⟨σ',H',I,q⟩:=h;exact⟨σ',H',I.unwish,q⟩
 |cont=>obtain⟨σ',H',I,q⟩:=h;exact⟨σ',H',I.unwish,q⟩
 |ret u=>obtain⟨v,σ',H',I,r,q⟩:=h;exact⟨v,σ',H',I.unwish,r,q⟩
theorem PE.nox{e:Expr}{t:TE}(h:PE X.nox e t):PE X e t:=fun zg s σ H Q I hw=>
 jj (h zg s σ H Q (I.wish _) hw) (fun _ _ ⟨v,H',I',r,q⟩=>⟨v,H',I'.unwish,r,q⟩) fun _ _ z=>iu z
theorem PT.nox{e:Expr}{t:TT}(h:PT X.nox e t):PT X e t:=fun zg s σ H Q I hw=>
 jj (h zg s σ H Q (I.wish _) hw) (fun _ _ ⟨H',I',q⟩=>⟨H',I'.unwish,q⟩) fun _ _ z=>iu z
theorem PSs.nox{st:List Stmt}{t:TS}(h:PSs X.nox st t):PSs X st t:=fun zg s σ H D I hw=>
 jj (h zg s σ H D (I.wish _) hw) (fun _ _ q=>q.unwish) fun _ _ z=>iu z
end
section
variable {X:Cx}{st:Stmt}{rest:List Stmt}{t u:TS}{e:Expr}{te:TE}{pos:Pos}
def vL:TS:=fun D σ H=>D.nx σ H
def dP(t u:TS):TS:=fun D σ H=>t { D with nx:=u D } σ H
theorem zV:PSs X [] vL:=fun _ _ σ H _ I h=>qo ⟨σ,H,I,h⟩
theorem zf(h1:PS X st t)(h2:PSs X rest u):PSs X (st::rest) (dP t u):=by
 intro zg s σ H D I h;refine wpAny_execs_cons (thn (h1 zg s σ H { D with nx:=u D } I h) fun f s1 q=>?_);cases f with
 |next=>
  obtain⟨σ',H',I',q⟩:=q;exact h2 zg s1 σ' H' D I' q
 |ret v=>exact q
 |brk=>exact q
 |cont=>exact q
theorem zm(h1:PS X st t):PSs X [st] t:=by
 intro zg s σ H D I h;refine wpAny_execs_cons (thn (h1 zg s σ H D I h) fun f s1 q=>?_);cases f with
 |next=>exact qo q
 |ret v=>exact q
 |brk=>exact q
 |cont=>exact q
theorem Inv.quiet{zg:List (Addr×Obj)}{σ:St}{H:Hp}{s:bu}(I:Inv X zg σ H s):interactive X.env=false:=by simp[interactive,I.ok.kind]
def xM(te:TE):TS:=fun D σ H=>te σ H fun _ H1=>D.nx σ H1
theorem mP(he:PE X e te)(hs:swapsWith e none pos.line X.env=pure false:=by rfl):PS X (.Expr e pos) (xM te):=by
 intro zg s σ H D I h;exact wpAny_Expr_any (thn (he zg s σ H _ I h) fun v s1 ⟨x,H1,I1,r1,q1⟩=>⟨σ,H1,I1,q1⟩) I.quiet hs
def uB(te:TE):TS:=fun D σ H=>te σ H D.rt
theorem zA(he:PE X e te):PS X (.Return (some e) pos) (uB te):=by
 intro zg s σ H D I h;exact wpAny_Return_some (thn (he zg s σ H _ I h) fun v s1 ⟨x,H1,I1,r1,q1⟩=>⟨x,σ,H1,I1,r1,q1⟩)
def tF(c:TT)(t u:TS):TS:=fun D σ H=>c σ H fun b H1=>if b=true then t D σ H1 else u D σ H1
theorem aQ{c:Expr}{a b:List Stmt}{tc:TT}(hc:PT X c tc)(ha:PSs X a t)(hb:PSs X b u):PS X (.If c a b pos) (tF tc t u):=by
 intro zg s σ H D I h;refine wpAny_If (thn (hc zg s σ H _ I h) fun d s1 ⟨H1,I1,q1⟩=>?_);cases d with
 |true=>exact ha zg s1 σ H1 D I1 q1
 |false=>exact hb zg s1 σ H1 D I1 q1
end
abbrev TG:=V->St->Hp->(St->Hp->Prop)->Prop
abbrev TGs:=List V->St->Hp->(St->Hp->Prop)->Prop
def PG(X:Cx)(z:Expr)(t:TG):Prop:=
 ∀(zg:List (Addr×Obj)) (s:bu) (σ:St) (H:Hp) (v:V) (u:bn) (Q:St->Hp->Prop),Inv X zg σ H s->RelV v u->t v σ H Q ->
  cv (model X.prog X.w) X.A (assign z X.env u) (fun _ s'=>∃ σ' H',Inv X zg σ' H' s'/\Q σ' H') X.xe s
def PGs(X:Cx)(ts:List Expr)(t:TGs):Prop:=
 ∀(zg:List (Addr×Obj)) (s:bu) (σ:St) (H:Hp) (vs:List V) (us:List bn) (Q:St->Hp->Prop),Inv X zg σ H s->Vals vs us->t vs σ H Q ->
  cv (model X.prog X.w) X.A (assignInOrder ((assignEach ts X.env).map (·.2)) us) (fun _ s'=>∃ σ' H',Inv X zg σ' H' s'/\Q σ' H') X.xe s
abbrev TSet:=V->V->V->Hp->(Hp->Prop)->Prop
def PSet(X:Cx)(t:TSet):Prop:=
 ∀(zg:List (Addr×Obj)) (s:bu) (σ:St) (H:Hp) (o i v:V) (ov iv u:bn) (Q:Hp->Prop),Inv X zg σ H s->RelV o ov->RelV i iv->RelV v u->t o i v H Q ->
  cv (model X.prog X.w) X.A (setItem ov iv u) (fun _ s'=>∃H',Inv X zg σ H' s'/\Q H') X.xe s
section
variable {X:Cx}{pos:Pos}
def lI(i:Nat):TG:=fun v σ H Q=>Q (σ.set i (some v)) H
theorem zE{i:Nat}{x:Str}(hN:X.N.Nodup)(hi:X.N[i]?=some x)(hx:Loc X.env.scope x)(hf:X.fn x=true\/X.env.scope.names.lookup x=some .local:=by first|exact .inl rfl|exact .inr rfl|assumption):PG X (.Name x pos) (lI i):=by
 intro zg s σ H v u Q I r h;exact wpAny_assign_Name (uQ I hN hi hx r (fun s' I'=>⟨_,H,I',h⟩) hf)
def F7:TGs:=fun vs σ H Q=>vs=[]/\Q σ H
def CF(t:TG)(u:TGs):TGs:=fun vs σ H Q=>∃v r,vs=v::r/\t v σ H fun σ' H'=>u r σ' H' Q
theorem dY:PGs X [] F7:=by
 intro zg s σ H vs us Q I r h;obtain⟨e,h⟩:=h;subst e;cases r;exact assignInOrder_nil ⟨σ,H,I,h⟩
theorem zP{e:Expr}{es:List Expr}{t:TG}{u:TGs}(h1:PG X e t)(h2:PGs X es u)
  (hs:(assignEach (e::es) X.env).map (·.2)=assign e X.env::(assignEach es X.env).map (·.2):=by rfl):PGs X (e::es) (CF t u):=by
 intro zg s σ H vs us Q I r h;obtain⟨v,vr,e1,h⟩:=h;subst e1;cases r with
 |cons r rr=>
  rw[hs];refine assignInOrder_cons (thn (h1 zg s σ H _ _ _ I r h) fun _ s1 ⟨σ1,H1,I1,q1⟩=>?_);exact h2 zg s1 σ1 H1 _ _ Q I1 rr q1
def Fo(K:cq)(n:Nat)(t:TGs):TG:=fun v σ H Q=>∃a xs,v=.ref a/\SqT K H a xs/\xs.length=n/\t xs σ H Q
theorem dU{es:List Expr}{k:Nat}{t:TGs}{n:Nat}(hc:X.calm=true)(h:PGs X es t)
  (hn:(assignEach es X.env).length=n:=by rfl) (hst:(assignEach es X.env).findIdx? (·.1)=none:=by rfl):PG X (.Tuple es k pos) (Fo X.K n t):=by
 intro zg s σ H v u Q I r hw;obtain⟨a,xs,e1,hq,hl,hw⟩:=hw;subst e1;cases r;obtain⟨z,rv,ht,hz⟩:=I.tuple hq;refine assign_Tuple_tuple (I.ok.hd hc) ht (by simp[hn,<- hl,rv.length]) hst fun h' hx=>?_;have I1:Inv X zg σ H { s with heap:=h' }:=I.kept (t':=s.toks) fun b o e=>hx b o (ir (fu e)) e;exact h zg _ σ H xs _ Q I1 (by simpa using rv) hw
def FS(to ti:TE)(t:TSet):TG:=fun v σ H Q=>to σ H fun o H1=>ti σ H1 fun i H2=>t o i v H2 fun H3=>Q σ H3
theorem Bb{o i:Expr}{to ti:TE}{t:TSet}(ho:PE X o to)(hi:PE X i ti)(hs:PSet X t)
  (ha:∀v,assign (.Subscript o i pos) X.env v=(do
   let ov <- holding [v] (eval o X.env)
   let iv <- holding [v,ov] (eval i X.env)
   standAt pos
   holding [v,ov,iv] (setItem ov iv v)
   release [v,ov,iv] []):=by intro _;rfl):PG X (.Subscript o i pos) (FS to ti t):=by
 intro zg s σ H v u Q I r h;rw[ha];refine bo (ku (thn (ho zg s σ H _ I h) fun ov s1 ⟨x,H1,I1,r1,q1⟩=>?_));refine bo (ku (thn (hi zg s1 σ H1 _ I1 q1) fun iv s2 ⟨y,H2,I2,r2,q2⟩=>?_));refine bo (wpAny_standAt (bo (ku (thn (hs zg s2 σ H2 x y v ov iv u _ I2 r1 r2 r q2) fun _ s3 ⟨H3,I3,q3⟩=>?_))));exact wpAny_release ⟨σ,H3,I3,q3⟩
def m5(te:TE)(g:TG):TS:=fun D σ H=>te σ H fun x H1=>g x σ H1 D.nx
theorem sP{tg e:Expr}{te:TE}{g:TG}(he:PE X e te)(hg:PG X tg g)(hs:swapsWithSole [tg] e pos.line X.env=pure false:=by rfl)(hw:swappedStores [tg] e X.env=pure none:=by rfl)
  (h1:(assignEach [tg] X.env).map (·.2)=[assign tg X.env]:=by rfl):PS X (.Assign [tg] e pos) (m5 te g):=by
 intro zg s σ H D I h;refine wpAny_Assign_stores (thn (he zg s σ H _ I h) fun v s1 ⟨x,H1,I1,r1,q1⟩=>?_) hs hw;rw[h1];exact thn (hg zg s1 σ H1 x v _ I1 r1 q1) fun _ s2 q=>q
theorem zr{i:Nat}{x:Str}{e:Expr}{te:TE}{pos':Pos}(hN:X.N.Nodup)(hi:X.N[i]?=some x)(hx:Loc X.env.scope x)(he:PE X e te)(hs:swapsWith e (some (.Name x pos')) pos.line X.env=pure false:=by rfl)(hf:X.fn x=true\/X.env.scope.names.lookup x=some .local:=by first|exact .inl rfl|exact .inr rfl|assumption):
  PS X (.Assign [.Name x pos'] e pos) (m5 te (lI i)):=by
 intro zg s σ H D I h;refine wpAny_Assign_Name (thn (he zg s σ H _ I h) fun v s1 ⟨y,H1,I1,r1,q1⟩=>?_) hs;exact uQ I1 hN hi hx r1 (fun s2 I2=>⟨_,H1,I2,q1⟩) hf
end
section
variable {X:Cx}{pos:Pos}
def Bf(c:TT)(tb:TS):TS:=fun D σ H=>∃W:Nat->St->Hp->Prop,(∃m,W m σ H)/\∀m σ H,W m σ H ->
 c σ H fun b H1=>if b=true then ∃N:St->Hp->Prop,(∀ σ' H',N σ' H'->∃m',m'<m/\W m' σ' H')/\tb { D with nx:=N,ct:=N,bk:=D.nx } σ H1 else D.nx σ H1
theorem Nc{c:Expr}{z:List Stmt}{tc:TT}{tb:TS}(hp:PassesOwn (model X.prog X.w) X.A X.env X.xe)(hc:PT X c tc)(hb:PSs X z tb):PS X (.While c z [] pos) (Bf tc tb):=by
 intro zg s σ H D I h;obtain⟨W,⟨m0,w0⟩,aa⟩:=h;refine wpAny_While (codeAny_whileLoop (fun n s'=>∃ σ' H',Inv X zg σ' H' s'/\W n σ' H') ?_ m0 ⟨σ,H,I,w0⟩);rintro n s1 ⟨σ1,H1,I1,w1⟩;refine ou hp (thn (hc zg s1 σ1 H1 _ I1 (aa n σ1 H1 w1)) fun b s2 ⟨H2,I2,q2⟩=>?_);cases b with
 |true=>
  obtain⟨N,hN,q2⟩:=q2;rw[cp rfl];refine ou hp (thn (hb zg s2 σ1 H2 _ I2 q2) fun f s3 q3=>?_);cases f with
  |next=>
   obtain⟨σ3,H3,I3,n3⟩:=q3;obtain⟨m',hm,w3⟩:=hN σ3 H3 n3;exact⟨m',hm,σ3,H3,I3,w3⟩
  |cont=>
   obtain⟨σ3,H3,I3,n3⟩:=q3;obtain⟨m',hm,w3⟩:=hN σ3 H3 n3;exact⟨m',hm,σ3,H3,I3,w3⟩
  |brk=>exact q3
  |ret v=>exact q3
 |false=>
  rw[cf jk];exact qo ⟨σ1,H2,I2,q2⟩
end
structure It where
 go:Nat->Hp->Prop
 yld:Nat->Hp->V->Hp->Prop
 stop:Nat->Hp->Prop
def FpOk(X:Cx)(zg:List (Addr×Obj))(H:Hp)(b:Addr):Prop:=
 H b=none/\b≠X.env.locals/\b∉X.fs/\(b∈X.ex\/X.s₀.heap.objs.size<=b)/\(∀x c,X.env.cells.lookup x=some c->c≠b)/\∀p∈X.pn++zg,p.1≠b
theorem Inv.fpOk{X:Cx}{zg:List (Addr×Obj)}{σ:St}{H H':Hp}{s:bu}{b:Addr}(I:Inv X zg σ H s)(hb:s.heap.objs.size<=b)(hn:H' b=none):FpOk X zg H' b:=by
 refine⟨hn,tq (gx I.lt hb),I.nofs hb,.inr (ky I.sz hb),fun x c e z=>?_,fun p hp z=>?_⟩
 ·obtain⟨v,q⟩:=I.cell x c e;exact absurd (gx q.lt (by rw[z];exact hb)) (jp _)
 ·exact absurd (gx (fu (I.pin p hp).1) (by rw[z];exact hb)) (jp _)
structure Turn(P:fg)(w:gg)(K:cq)(tg:Expr)(J:It)(fp:List Addr)(it:Addr)(tn:Nat->Heap->Prop):Prop where
 mem:it∈fp
 obj:∀i h,tn i h->∀b∈fp,∃o,h.get? b=some o/\∀v,o.data≠.cell v
 keep:∀i h h',tn i h->(∀b∈fp,∀o,h.get? b=some o->h'.get? b=some o)->tn i h'
 item:∀(X:Cx),X.prog=P->X.w=w->X.K=K->X.calm=true->∀(i:Nat) (zg:List (Addr×Obj)) (s:bu) (σ:St) (H:Hp) (E:bn->bu->Prop),Inv X zg σ H s->(∀b∈fp,FpOk X zg H b)->tn i s.heap->J.go i H ->
  cv (model P w) X.A (pyNext (.ref it)) (fun r s1=>∃u,r=some u /\
   cv (model P w) X.A (letOwnedTupleGo tg (.ref it) u) (fun _ s2=>∃x H',Inv X zg σ H' s2/\RelV x u/\J.yld i H x H'/\tn (i+1) s2.heap/\∀b∈fp,H' b=none) E s1) E s
 done:∀(X:Cx),X.prog=P->X.w=w->X.K=K->X.calm=true->∀(i:Nat) (zg:List (Addr×Obj)) (s:bu) (σ:St) (H:Hp) (E:bn->bu->Prop),Inv X zg σ H s->(∀b∈fp,FpOk X zg H b)->tn i s.heap->J.stop i H ->
  cv (model P w) X.A (pyNext (.ref it)) (fun r s1=>r=none/\Inv X zg σ H s1) E s
 self:∀(A:gf) (i:Nat) (s:bu) (Q:bn->bu->Prop) (E:bn->bu->Prop),tn i s.heap->Q (.ref it) s->cv (model P w) A (pyIter (.ref it)) Q E s
abbrev TI:=St->Hp->(It->Hp->Prop)->Prop
def PIE(X:Cx)(zg:List (Addr×Obj))(σ:St)(tg:Expr)(R:It->Hp->Prop)(z:bn)(s2:bu):Prop:=
 ∃(it:Addr) (fp:List Addr) (tn:Nat->Heap->Prop) (J:It) (H':Hp),z=.ref it/\Inv X zg σ H' s2/\Turn X.prog X.w X.K tg J fp it tn/\tn 0 s2.heap/\(∀b∈fp,FpOk X zg H' b)/\R J H'
def PI(X:Cx)(tg iter:Expr)(wi:TI):Prop:=
 ∀(zg:List (Addr×Obj)) (s:bu) (σ:St) (H:Hp) (R:It->Hp->Prop),Inv X zg σ H s->wi σ H R ->
  cv (model X.prog X.w) X.A (eval iter X.env) (fun v s1=>cv (model X.prog X.w) X.A (pyIter v) (PIE X zg σ tg R) X.xe s1) X.xe s
theorem oV{M:Model}{A:gf}{E:bn->bu->Prop}{s:bu}{tg:Expr}{it:Addr}{u:bn}{o:Obj}{n:String}{vs:Array bn}{Q:Unit->bu->Prop}(ho:s.heap.get? it=some o)(hc:o.cls=.type n)(hd:o.data=.fields vs)
    (hn:["enumerate","zip","dict_itemiterator","dict_reverseitemiterator","odict_iterator","itertools.zip_longest","itertools.pairwise"].contains n=false) (hQ:Q () s):cv M A (letOwnedTupleGo tg (.ref it) u) Q E s:=by
  unfold letOwnedTupleGo;cases tg<;>first
    |exact cr hQ
    | (cases u<;>first
        |exact cr hQ
        | (refine bo (wpAny_load ho ?_)
           rw[hc,hd];show cv M A (if (["enumerate","zip","dict_itemiterator","dict_reverseitemiterator","odict_iterator","itertools.zip_longest","itertools.pairwise"].contains n&&vs[0]?==some (ss _))=true then _ else _) Q E s;rw[cf (by intro h;rw[hn,Bool.false_and]at h;cases h)];exact cr hQ))
def Itl(K:cq)(a:Addr):It:=
 ⟨fun i H=>∃xs x,SqL K H a xs/\xs[i]?=some x,fun i H x H'=>H'=H/\∀xs,SqL K H a xs->xs[i]?=some x,fun i H=>∃xs,SqL K H a xs/\xs.length<=i⟩
def Itt(K:cq)(a:Addr):It:=
 ⟨fun i H=>∃xs x,SqT K H a xs/\xs[i]?=some x,fun i H x H'=>H'=H/\∀xs,SqT K H a xs->xs[i]?=some x,fun i H=>∃xs,SqT K H a xs/\xs.length<=i⟩
def Itr(lo:Int)(n:Nat):It:=⟨fun i _=>i<n,fun i H x H'=>H'=H/\x=.int (lo+i),fun i _=>n<=i⟩
theorem Fj{P:fg}{w:gg}{K:cq}{tg:Expr}(a it:Addr):Turn P w K tg (Itl K a) [it] it (fun i h=>h.IsListIter it a i) where
 mem:=by simp
 obj:=fun i h st b hb=>by
  have e:b=it:=by simpa using hb
  subst e;obtain⟨o,e,c,d⟩:=st;exact⟨o,e,fun v z=>by rw[d]at z;cases z⟩
 keep:=fun i h h' st k=>st.at fun o e=>k it yv o e
 item:=by
  intro X hP hw hK hc i zg s σ H E I hf st hg;subst hP hw hK;obtain⟨xs,x,hq,hx⟩:=hg;obtain⟨aa,rv,p,hz⟩:=I.list hq;obtain⟨u,hu,ru⟩:=rv.get hx;obtain⟨f0,f1,f2,f3,f4,f5⟩:=hf it yv;refine wpAny_pyNext_list_item st p.isList (x:=u) (by simpa using hu) fun h' st' sb=>?_;have I1:Inv X zg σ H { s with heap:=h' }:=I.turned (t':=s.toks) (fun b o hb e=>(sb.2 b hb).trans e) f0 f1 f3 f4 f5;obtain⟨o,e,c,d⟩:=id st';exact⟨u,rfl,oV (s:={ s with heap:=h' }) e c d dz ⟨x,H,I1,ru,⟨rfl,fun ys hy=>by rw[I.list_inj hy hq];exact hx⟩,st',fun b hb=>(hf b hb).1⟩⟩
 done:=by
  intro X hP hw hK hc i zg s σ H E I hf st hg;subst hP hw hK;obtain⟨xs,hq,hx⟩:=hg;obtain⟨aa,rv,p,hz⟩:=I.list hq;obtain⟨f0,f1,f2,f3,f4,f5⟩:=hf it yv;have hl:=rv.length;exact wpAny_pyNext_list_end (I.ok.hd hc) st p.isList (by simp;omega) fun h' eb=>⟨rfl,I.turned (t':=s.toks) (fun b o hb e=>eb b o hb e) f0 f1 f3 f4 f5⟩
 self:=fun _ _ _ _ _ st h=>wpAny_pyIter_listiter st h
theorem JQ{P:fg}{w:gg}{K:cq}{tg:Expr}(a it:Addr):Turn P w K tg (Itt K a) [it] it (fun i h=>h.IsTupleIter it a i) where
 mem:=by simp
 obj:=fun i h st b hb=>by
  have e:b=it:=by simpa using hb
  subst e;obtain⟨o,e,c,d⟩:=st;exact⟨o,e,fun v z=>by rw[d]at z;cases z⟩
 keep:=fun i h h' st k=>st.at fun o e=>k it yv o e
 item:=by
  intro X hP hw hK hc i zg s σ H E I hf st hg;subst hP hw hK;obtain⟨xs,x,hq,hx⟩:=hg;obtain⟨aa,rv,p,hz⟩:=I.tuple hq;obtain⟨u,hu,ru⟩:=rv.get hx;obtain⟨f0,f1,f2,f3,f4,f5⟩:=hf it yv;refine wpAny_pyNext_tuple_item st (show s.heap.IsTuple a aa.toArray from p) (x:=u) (by simpa using hu) fun h' st' sb=>?_;have I1:Inv X zg σ H { s with heap:=h' }:=I.turned (t':=s.toks) (fun b o hb e=>(sb.2 b hb).trans e) f0 f1 f3 f4 f5;obtain⟨o,e,c,d⟩:=id st';exact⟨u,rfl,oV (s:={ s with heap:=h' }) e c d dz ⟨x,H,I1,ru,⟨rfl,fun ys hy=>by rw[I.tuple_inj hy hq];exact hx⟩,st',fun b hb=>(hf b hb).1⟩⟩
 done:=by
  intro X hP hw hK hc i zg s σ H E I hf st hg;subst hP hw hK;obtain⟨xs,hq,hx⟩:=hg;obtain⟨aa,rv,p,hz⟩:=I.tuple hq;obtain⟨f0,f1,f2,f3,f4,f5⟩:=hf it yv;have hl:=rv.length;exact wpAny_pyNext_tuple_end (I.ok.hd hc) st (show s.heap.IsTuple a aa.toArray from p) (by simp;omega) fun h' eb=>⟨rfl,I.turned (t':=s.toks) (fun b o hb e=>eb b o hb e) f0 f1 f3 f4 f5⟩
 self:=fun _ _ _ _ _ st h=>wpAny_pyIter_tupleiter st h
theorem Iu{P:fg}{w:gg}{K:cq}{tg:Expr}(it:Addr)(lo:Int)(n:Nat):Turn P w K tg (Itr lo n) [it] it (fun i h=>IsRangeIter h it (lo+(i:Nat)*1) ((n:Int)-(i:Nat)) 1) where
 mem:=by simp
 obj:=fun i h st b hb=>by
  have e:b=it:=by simpa using hb
  subst e;exact⟨_,st,fun v z=>by
   have z':Data.fields _=Data.cell v:=z;cases z'⟩
 keep:=fun i h h' st k=>k it yv _ st
 item:=by
  intro X hP hw hK hc i zg s σ H E I hf st hg;subst hP hw hK;obtain⟨f0,f1,f2,f3,f4,f5⟩:=hf it yv;have W:=Walks.range (prog:=X.prog) (w:=X.w) (I.ok.hd hc) it lo 1 n;refine W.item i s _ _ hg st fun v h' tk hv st' kk=>?_;obtain⟨t,rfl⟩:=hv;have I1:Inv X zg σ H { s with heap:=h',toks:=tk }:=I.turned (fun b o hb e=>kk b o (by simpa using hb) e) f0 f1 f3 f4 f5;refine⟨_,rfl,oV (s:={ s with heap:=h',toks:=tk }) (n:="range_iterator") st' rfl rfl dz ⟨.int (lo+i),H,I1,⟨t,?_⟩,⟨rfl,rfl⟩,st',fun b hb=>(hf b hb).1⟩⟩;rw[Int.mul_one]
 done:=by
  intro X hP hw hK hc i zg s σ H E I hf st hg;subst hP hw hK;obtain⟨f0,f1,f2,f3,f4,f5⟩:=hf it yv;exact wpAny_pyNext_range_end (I.ok.hd hc) st (by have:n<=i:=hg;omega) fun h' eb=>⟨rfl,I.turned (t':=s.toks) (fun b o hb e=>eb b o hb e) f0 f1 f3 f4 f5⟩
 self:=fun _ _ _ _ _ st h=>wpAny_pyIter_rangeiter st h
end
section
section
variable {X:Cx}{tg:Expr}
def xY(K:cq)(tl:TE):TI:=fun σ H R=>tl σ H fun x H1=>∃a,x=.ref a/\(∃xs,SqL K H1 a xs)/\R (Itl K a) H1
theorem Io{l:Expr}{tl:TE}(hl:PE X l tl):PI X tg l (xY X.K tl):=by
 intro zg s σ H R I h;refine thn (hl zg s σ H _ I h) fun v s1 ⟨x,H1,I1,r1,q1⟩=>?_;obtain⟨a,e,⟨xs,hq⟩,q⟩:=q1;subst e;cases r1;obtain⟨z,rv,p,hz⟩:=I1.list hq;refine pb p.isList ?_;refine⟨s1.heap.objs.size,[s1.heap.objs.size],_,_,H1,rfl,I1.kept (t':=s1.toks) fun b o e=>bw _ e,Fj a _,⟨_,fj _ rfl,rfl,rfl⟩,fun b hb=>?_,q⟩;have e:b=s1.heap.objs.size:=by simpa using hb
 subst e;exact I1.fpOk (dw _) (I1.hok.fresh (dw _))
def k8(wi:TI)(g:TG)(tb:TS):TS:=fun D σ H=>wi σ H fun J H1=>∃W:Nat->Nat->St->Hp->Prop,(∃m,W 0 m σ H1)/\∀i m σ H,W i m σ H ->
 (J.stop i H/\D.nx σ H)\/(J.go i H/\∃N:St->Hp->Prop,(∀ σ' H',N σ' H'->∃m',m'<m/\W (i+1) m' σ' H')/\∀x H',J.yld i H x H'->g x σ H' fun σ2 H2=>tb { D with nx:=N,ct:=N,bk:=D.nx } σ2 H2)
def qU(fp:List Addr)(h:Heap):List (Addr×Obj):=fp.filterMap fun b=>(h.get? b).map fun o=>(b,o)
theorem r6{fp:List Addr}{h:Heap}{b:Addr}{o:Obj}(hb:b∈fp)(e:h.get? b=some o):(b,o)∈qU fp h:=mem_filterMap.mpr ⟨b,hb,by rw[e];rfl⟩
theorem Mr{fp:List Addr}{h:Heap}{p:Addr×Obj}(hp:p∈qU fp h):p.1∈fp/\h.get? p.1=some p.2:=by
 obtain⟨b,hb,e⟩:=mem_filterMap.mp hp;cases q:h.get? b with
 |none=>rw[q]at e;cases e
 |some o=>
  rw[q]at e;have e':(b,o)=p:=gi e;subst e';exact⟨hb,q⟩
theorem Inv.pinned{zg:List (Addr×Obj)}{σ:St}{H:Hp}{s:bu}{fp:List Addr}(I:Inv X zg σ H s)(hf:∀b∈fp,FpOk X zg H b)(ho:∀b∈fp,∃o,s.heap.get? b=some o/\∀v,o.data≠.cell v):Inv X (zg++qU fp s.heap) σ H s:=
 I.pins_of fun p hp=>(mem_append.mp hp).elim (fun z=>I.pin p (gm _ z)) fun z=>by
  obtain⟨hb,e⟩:=Mr z;obtain⟨f0,f1,f2,_⟩:=hf p.1 hb;obtain⟨o,e',d⟩:=ho p.1 hb;rw[e]at e';cases e';exact⟨e,f0,f1,f2,d⟩
theorem Inv.unpinned{zg pl:List (Addr×Obj)}{σ:St}{H:Hp}{s:bu}(I:Inv X (zg++pl) σ H s):Inv X zg σ H s:=I.pins_of fun p hp=>I.pin p (gm _ (gj _ hp))
theorem cH{iter:Expr}{ac:List Stmt}{wi:TI}{g:TG}{tb:TS}{pos:Pos}(hp:PassesOwn (model X.prog X.w) X.A X.env X.xe)(hc:X.calm=true)(hi:PI X tg iter wi)(hg:PG X tg g)(hb:PSs X ac tb)
  (hs:∀x,foldedSetIterable iter X.env x=pure x:=by intro _;rfl):PS X (.For tg iter ac [] pos) (k8 wi g tb):=by
 intro zg s σ H D I h;refine wpAny_For (thn (hi zg s σ H _ I h) fun v s1 h1=>thn h1 fun ak s2 h2=>?_) hs;obtain⟨it,fp,tn,J,H2,e,I2,T,ai,f2,W,⟨m0,w0⟩,ag⟩:=h2;subst e
 have aa:∀{H':Hp},(∀b∈fp,H' b=none)->∀b∈fp,FpOk X zg H' b:=fun hn b hb=>⟨hn b hb,(f2 b hb).2⟩;refine codeAny_forLoop_any (fun n s'=>∃i σ' H',Inv X zg σ' H' s'/\tn i s'.heap/\(∀b∈fp,H' b=none)/\W i n σ' H') ?_ m0 ⟨0,σ,H2,I2,ai,fun b hb=>(f2 b hb).1,w0⟩;rintro n s3 ⟨i,σ3,H3,I3,ah,af,w3⟩;rcases ag i n σ3 H3 w3 with ⟨stop,qn⟩|⟨go,N,hN,step⟩
 ·refine ou hp (thn (T.done X rfl rfl rfl hc i zg s3 σ3 H3 X.xe I3 (aa af) ah stop) fun r s4 ⟨hr,I4⟩=>?_);subst hr;exact qo ⟨σ3,H3,I4,qn⟩
 ·refine ou hp (thn (T.item X rfl rfl rfl hc i zg s3 σ3 H3 X.xe I3 (aa af) ah go) fun r s4 ⟨u,hr,h4⟩=>?_);subst hr;refine ou hp (thn h4 fun _ s5 ⟨x,H5,I5,r5,y5,ae,aj⟩=>?_);have I5':=I5.pinned (aa aj) (T.obj _ _ ae);refine ou hp (thn (hg _ s5 σ3 H5 x u _ I5' r5 (step x H5 y5)) fun _ s6 ⟨σ6,H6,I6,q6⟩=>?_);refine ou hp (thn (hb _ s6 σ6 H6 _ I6 q6) fun f s7 q7=>?_);have z:∀{σ7:St}{H7:Hp},Inv X (zg++qU fp s5.heap) σ7 H7 s7->N σ7 H7->∃m,m<n/\∃i σ' H',Inv X zg σ' H' s7/\tn i s7.heap/\(∀b∈fp,H' b=none)/\W i m σ' H':=fun {σ7 H7} I7 n7=>by
   obtain⟨m',hm,w7⟩:=hN σ7 H7 n7;refine⟨m',hm,i+1,σ7,H7,I7.unpinned,T.keep _ _ _ ae fun b hb o e=>(I7.pin (b,o) (gm _ (gm _ (r6 hb e)))).1,fun b hb=>?_,w7⟩;obtain⟨o,e,d⟩:=T.obj _ _ ae b hb;exact(I7.pin (b,o) (gm _ (gm _ (r6 hb e)))).2.1
  cases f with
  |next=>obtain⟨σ7,H7,I7,n7⟩:=q7;exact z I7 n7
  |cont=>obtain⟨σ7,H7,I7,n7⟩:=q7;exact z I7 n7
  |brk=>obtain⟨σ7,H7,I7,q7⟩:=q7;exact⟨σ7,H7,I7.unpinned,q7⟩
  |ret v=>obtain⟨x7,σ7,H7,I7,r7,q7⟩:=q7;exact⟨x7,σ7,H7,I7.unpinned,r7,q7⟩
end
theorem IX{K:cq}{a:Addr}{xs:List V}{g:TG}{tb:TS}{D:Ends}{σ:St}{H:Hp}(Pv:Nat->St->Hp->Prop)(h0:Pv 0 σ H)(hl:∀i σ H,i<=xs.length->Pv i σ H->SqL K H a xs)
  (hs:∀i x σ H,xs[i]?=some x->Pv i σ H->g x σ H fun σ2 H2=>tb { D with nx:=Pv (i+1),ct:=Pv (i+1),bk:=D.nx } σ2 H2) (hd:∀ σ H,Pv xs.length σ H->D.nx σ H):
  ∃W:Nat->Nat->St->Hp->Prop,(∃m,W 0 m σ H)/\∀i m σ H,W i m σ H ->
   ((Itl K a).stop i H/\D.nx σ H)\/((Itl K a).go i H/\∃N:St->Hp->Prop,(∀ σ' H',N σ' H'->∃m',m'<m/\W (i+1) m' σ' H')/\∀x H',(Itl K a).yld i H x H'->g x σ H' fun σ2 H2=>tb { D with nx:=N,ct:=N,bk:=D.nx } σ2 H2):=by
 refine⟨fun i m σ H=>m=xs.length-i/\i<=xs.length/\Pv i σ H,⟨xs.length,yv,ly _,h0⟩,?_⟩;rintro i m σ H ⟨rfl,hi,p⟩;have q:=hl i σ H hi p;by_cases hlt:i<xs.length
 ·refine .inr ⟨⟨xs,xs[i],q,by simp[hlt]⟩,Pv (i+1),fun σ' H' p'=>⟨xs.length-(i+1),yw,rfl,hlt,p'⟩,fun x H' y=>?_⟩;obtain⟨e,y⟩:=y;subst e;exact hs i x σ _ (y xs q) p
 ·have e:i=xs.length:=yw
  subst e;exact .inl ⟨⟨xs,q,dw _⟩,hd σ H p⟩
end
section
abbrev R2:=V->V->Hp->VK->Prop
def OpR(X:Cx)(f:bn->bn->Sem bn)(r:R2):Prop:=
 ∀(zg:List (Addr×Obj)) (s:bu) (σ:St) (H:Hp) (x y:V) (v u:bn) (Q:VK),Inv X zg σ H s->RelV x v->RelV y u->r x y H Q ->
  cv (model X.prog X.w) X.A (f v u) (EP X zg σ Q) X.xe s
def UnR(X:Cx)(f:bn->Sem bn)(r:V->Hp->VK->Prop):Prop:=
 ∀(zg:List (Addr×Obj)) (s:bu) (σ:St) (H:Hp) (x:V) (v:bn) (Q:VK),Inv X zg σ H s->RelV x v->r x H Q ->
  cv (model X.prog X.w) X.A (f v) (EP X zg σ Q) X.xe s
def CallR(X:Cx)(f:bn)(r:List V->Hp->VK->Prop):Prop:=
 ∀(zg:List (Addr×Obj)) (s:bu) (σ:St) (H:Hp) (xs:List V) (us:List bn) (Q:VK),Inv X zg σ H s->Vals xs us->r xs H Q ->
  cv (model X.prog X.w) X.A (call f us) (EP X zg σ Q) X.xe s
def TruR(X:Cx)(r:V->Hp->(Bool->Hp->Prop)->Prop):Prop:=
 ∀(zg:List (Addr×Obj)) (s:bu) (σ:St) (H:Hp) (x:V) (v:bn) (Q:Bool->Hp->Prop),Inv X zg σ H s->RelV x v->r x H Q ->
  cv (model X.prog X.w) X.A (truthy v) (TP X zg σ Q) X.xe s
def tOp(r:R2)(ta tb:TE):TE:=fun σ H Q=>ta σ H fun x H1=>tb σ H1 fun y H2=>r x y H2 Q
def tUn(r:V->Hp->VK->Prop)(ta:TE):TE:=fun σ H Q=>ta σ H fun x H1=>r x H1 Q
def rI(C:Int->Int->Prop)(g:Int->Int->V):R2:=fun x y H Q=>∃i j,x=.int i/\y=.int j/\C i j/\Q (g i j) H
def rI0(g:Int->Int->V):R2:=fun x y H Q=>∃i j,x=.int i/\y=.int j/\Q (g i j) H
def rU(g:Int->V):V->Hp->VK->Prop:=fun x H Q=>∃i,x=.int i/\Q (g i) H
section
variable {X:Cx}{a b c:Expr}{ta tb tc:TE}{pos:Pos}
theorem vS(ha:PE X a ta)(hb:PE X b tb){zg:List (Addr×Obj)}{s:bu}{σ:St}{H:Hp}{R:V->V->Hp->Prop}(I:Inv X zg σ H s)
  (h:ta σ H fun x H1=>tb σ H1 fun y H2=>R x y H2) {Q:bn->bu->Prop}{f:bn->bn->Sem bn}
  (hf:∀v u s2 x y H2,Inv X zg σ H2 s2->RelV x v->RelV y u->R x y H2->cv (model X.prog X.w) X.A (f v u) Q X.xe s2):
  cv (model X.prog X.w) X.A (eval a X.env) (fun v s₁=>cv (model X.prog X.w) X.A (eval b X.env) (fun u s₂=>cv (model X.prog X.w) X.A (f v u) Q X.xe s₂) X.xe s₁) X.xe s:=by
 refine thn (ha zg s σ H _ I h) fun v s1 ⟨x,H1,I1,r1,q1⟩=>?_;refine thn (hb zg s1 σ H1 _ I1 q1) fun u s2 ⟨y,H2,I2,r2,q2⟩=>?_;exact hf v u s2 x y H2 I2 r1 r2 q2
theorem zt{op:Operator}{r:R2}(ho:OpR X (lx op) r)(ha:PE X a ta)(hb:PE X b tb):PE X (.BinOp a op b pos) (tOp r ta tb):=by
 intro zg s σ H Q I h;exact wpAny_BinOp (vS ha hb I h fun v u s2 x y H2 I2 rx ry q=>ho zg s2 σ H2 x y v u Q I2 rx ry q)
theorem cO{op:UnaryOp}{r:V->Hp->VK->Prop}(ho:UnR X (unaryOp op) r)(ha:PE X a ta):PE X (.UnaryOp op a pos) (tUn r ta):=by
 intro zg s σ H Q I h;exact UnaryOp_ (thn (ha zg s σ H _ I h) fun v s1 ⟨x,H1,I1,r1,q1⟩=>ho zg s1 σ H1 x v Q I1 r1 q1)
theorem opI{f:bn->bn->Sem bn}{C:Int->Int->Prop}{g:Int->Int->Int}
  (rule:∀(i j:Int) (t u:Tok) (s:bu) (Q:bn->bu->Prop) (E:bn->bu->Prop),C i j->Q (.int (g i j) s.toks) { s with toks:=s.toks+1 }->cv (model X.prog X.w) X.A (f (.int i t) (.int j u)) Q E s):
  OpR X f (rI C fun i j=>.int (g i j)):=by
 intro zg s σ H x y v u Q I rx ry h;obtain⟨i,j,rfl,rfl,hc,q⟩:=h;obtain⟨t,rfl⟩:=rx;obtain⟨t',rfl⟩:=ry;exact rule i j t t' s _ _ hc ⟨.int (g i j),H,I.tok _,⟨_,rfl⟩,q⟩
theorem Cc{f:bn->bn->Sem bn}{g:Int->Int->Int}
  (rule:∀(i j:Int) (t u:Tok) (s:bu) (Q:bn->bu->Prop) (E:bn->bu->Prop),Q (.int (g i j) s.toks) { s with toks:=s.toks+1 }->cv (model X.prog X.w) X.A (f (.int i t) (.int j u)) Q E s):
  OpR X f (rI0 fun i j=>.int (g i j)):=by
 intro zg s σ H x y v u Q I rx ry h;obtain⟨i,j,rfl,rfl,q⟩:=h;obtain⟨t,rfl⟩:=rx;obtain⟨t',rfl⟩:=ry;exact rule i j t t' s _ _ ⟨.int (g i j),H,I.tok _,⟨_,rfl⟩,q⟩
theorem uX{f:bn->bn->Sem bn}{g:Int->Int->Bool}
  (rule:∀(i j:Int) (t u:Tok) (s:bu) (Q:bn->bu->Prop) (E:bn->bu->Prop),Q (.bool (g i j)) s->cv (model X.prog X.w) X.A (f (.int i t) (.int j u)) Q E s):
  OpR X f (rI0 fun i j=>.bl (g i j)):=by
 intro zg s σ H x y v u Q I rx ry h;obtain⟨i,j,rfl,rfl,q⟩:=h;obtain⟨t,rfl⟩:=rx;obtain⟨t',rfl⟩:=ry;exact rule i j t t' s _ _ ⟨.bl (g i j),H,I,rfl,q⟩
def CDivN(i j:Int):Prop:=j≠0/\j.natAbs<1073741824
def CPow(i j:Int):Prop:=0<=j/\j<=1000000/\i.natAbs<2 ^ 64
theorem Mq:OpR X (lx .Add) (rI0 fun i j=>.int (i+j)):=Cc fun _ _ _ _ _ _ _ q=>add_int q
theorem bY:OpR X (lx .Sub) (rI0 fun i j=>.int (i-j)):=Cc fun _ _ _ _ _ _ _ q=>sub_int q
theorem Hy:OpR X (lx .FloorDiv) (rI CDivN fun i j=>.int (i.fdiv j)):=opI fun _ _ _ _ _ _ _ hc q=>floordiv_int hc.1 q (.inl (PyProof.noPylong_small hc.2))
theorem fQ:OpR X (lx .Mod) (rI (fun _ j=>0<j) fun i j=>.int (i % j)):=opI fun i j _ _ _ _ _ hc q=>by
 have h1:(0:Int)<j:=hc;exact mod_int' yw (by rw[Int.fmod_eq_emod_of_nonneg i yw];exact q)
theorem jQ:OpR X (lx .Pow) (rI CPow fun i j=>.int (i ^ j.toNat)):=opI fun _ _ _ _ _ _ _ hc q=>pow_int_small hc.1 hc.2.1 hc.2.2 q
theorem unI{f:bn->Sem bn}{g:Int->Int}
  (rule:∀(i:Int) (t:Tok) (s:bu) (Q:bn->bu->Prop) (E:bn->bu->Prop),Q (.int (g i) s.toks) { s with toks:=s.toks+1 }->cv (model X.prog X.w) X.A (f (.int i t)) Q E s):
  UnR X f (rU fun i=>.int (g i)):=by
 intro zg s σ H x v Q I rx h;obtain⟨i,rfl,q⟩:=h;obtain⟨t,rfl⟩:=rx;exact rule i t s _ _ ⟨.int (g i),H,I.tok _,⟨_,rfl⟩,q⟩
theorem cN:UnR X (unaryOp .USub) (rU fun i=>.int (-i)):=unI fun _ _ _ _ _ q=>neg_int q
end
section
variable {X:Cx}{a b c:Expr}{ta tb tc:TE}{pos:Pos}
theorem Kr{zg:List (Addr×Obj)}{σ:St}{H:Hp}{s:bu}{Q:VK}{k k':Bool}(I:Inv X zg σ H s)(q:Q (.bl k) H)(e:k=k'):EP X zg σ Q (.bool k') s:=by
 subst e;exact⟨.bl k,H,I,rfl,q⟩
theorem iU:OpR X (jy .Lt) (rI0 fun i j=>.bl (decide (i<j))):=uX fun _ _ _ _ _ _ _ q=>lt_int q
theorem kP:OpR X (jy .LtE) (rI0 fun i j=>.bl (decide (i<=j))):=uX fun _ _ _ _ _ _ _ q=>le_int q
theorem t6:OpR X (jy .Gt) (rI0 fun i j=>.bl (decide (j<i))):=uX fun _ _ _ _ _ _ _ q=>gt_int q
theorem Ci:OpR X (jy .GtE) (rI0 fun i j=>.bl (decide (j<=i))):=uX fun _ _ _ _ _ _ _ q=>ge_int q
theorem Lx:OpR X (jy .NotIn) (fun x y H Q=>∃i j,x=.str i/\y=.str j/\Q (.bl (!(!(Builtin.Str.occurrences j i 0 j.length 1).isEmpty))) H):=by
 intro zg s σ H x y v u Q I rx ry h;obtain⟨i,j,rfl,rfl,q⟩:=h;obtain⟨t,rfl⟩:=rx;obtain⟨t',rfl⟩:=ry;exact notIn_str (Kr I q rfl)
theorem OpR.or{f:bn->bn->Sem bn}{r r':R2}(h:OpR X f r)(h':OpR X f r'):OpR X f (fun x y H Q=>r x y H Q\/r' x y H Q):=by
 intro zg s σ H x y v u Q I rx ry q;rcases q with q|q
 ·exact h zg s σ H x y v u Q I rx ry q
 ·exact h' zg s σ H x y v u Q I rx ry q
theorem nomark(b:Expr){op:CmpOp}(h:op≠.In:=by decide)(h2:op≠.NotIn:=by decide):behindInMarks op b=false:=by
 have e1:(op==CmpOp.In)=false:=by cases op<;>first|rfl|exact absurd rfl h
 have e2:(op==CmpOp.NotIn)=false:=by cases op<;>first|rfl|exact absurd rfl h2
 cases b<;>simp[behindInMarks,e1,e2]
theorem BO{op:CmpOp}{r:R2}(ho:OpR X (jy op) r)(ha:PE X a ta)(hb:PE X b tb)(hm:behindInMarks op b=false):PE X (.Compare a [op] [b] pos) (tOp r ta tb):=by
 intro zg s σ H Q I h;exact wpAny_Compare1 (vS ha hb I h fun v u s2 x y H2 I2 rx ry q=>ho zg s2 σ H2 x y v u Q I2 rx ry q) hm
def oJ(t:TE):TT:=fun σ H Q=>t σ H fun x H'=>∃k,x=.bl k/\Q k H'
theorem zS{op:CmpOp}{r:R2}(ho:OpR X (jy op) r)(ha:PE X a ta)(hb:PE X b tb)(hm:behindInMarks op b=false):PT X (.Compare a [op] [b] pos) (oJ (tOp r ta tb)):=by
 intro zg s σ H Q I h;refine wpAny_isTrue_Compare1 (thn (ha zg s σ H _ I h) fun v s1 ⟨x,H1,I1,r1,q1⟩=>thn (hb zg s1 σ H1 _ I1 q1) fun u s2 ⟨y,H2,I2,r2,q2⟩=>
  thn (ho zg s2 σ H2 x y v u _ I2 r1 r2 q2) fun c s3 ⟨z,H3,I3,r3,k,e,q3⟩=>?_) hm
 subst e;cases r3;exact jw ⟨H3,I3,q3⟩
def AH(r r':R2)(ta tb tc:TE):TE:=fun σ H Q=>ta σ H fun x H1=>tb σ H1 fun y H2=>r x y H2 fun z H3=>∃k,z=.bl k /\
 (if k=true then tc σ H3 fun w' H4=>r' y w' H4 Q else Q (.bl false) H3)
theorem Av{op aa:CmpOp}{r r':R2}(ho:OpR X (jy op) r)(ac:OpR X (jy aa) r')(ha:PE X a ta)(hb:PE X b tb)(hc:PE X c tc)
  (hm:lastMarks [op,aa] [b,c]=false:=by with_unfolding_all rfl):PE X (.Compare a [op,aa] [b,c] pos) (AH r r' ta tb tc):=by
 intro zg s σ H Q I h;refine Compare_chain (thn (ha zg s σ H _ I h) fun v s1 ⟨x,H1,I1,r1,q1⟩=>chain_link (thn (hb zg s1 σ H1 _ I1 q1) fun u s2 ⟨y,H2,I2,r2,q2⟩=>
  thn (ho zg s2 σ H2 x y v u _ I2 r1 r2 q2) fun d s3 ⟨z,H3,I3,r3,k,e,q3⟩=>?_)) hm
 subst e;cases r3;refine jw ?_;cases k with
 |false=>exact ite_ff ⟨.bl false,H3,I3,rfl,q3⟩
 |true=>exact ite_tt (chain_last (thn (hc zg s3 σ H3 _ I3 q3) fun w' s4 ⟨z',H4,I4,r4,q4⟩=>ac zg s4 σ H4 y z' u w' Q I4 r2 r4 q4))
theorem DX{op aa:CmpOp}{r r':R2}(ho:OpR X (jy op) r)(ac:OpR X (jy aa) r')(ha:PE X a ta)(hb:PE X b tb)(hc:PE X c tc)
  (hm:lastMarks [op,aa] [b,c]=false:=by with_unfolding_all rfl):PT X (.Compare a [op,aa] [b,c] pos) (oJ (AH r r' ta tb tc)):=by
 intro zg s σ H Q I h;refine isTrue_chain (thn (ha zg s σ H _ I h) fun v s1 ⟨x,H1,I1,r1,q1⟩=>test_link (thn (hb zg s1 σ H1 _ I1 q1) fun u s2 ⟨y,H2,I2,r2,q2⟩=>
  thn (ho zg s2 σ H2 x y v u _ I2 r1 r2 q2) fun d s3 ⟨z,H3,I3,r3,k,e,q3⟩=>?_)) hm
 subst e;cases r3;refine jw ?_;cases k with
 |false=>
  obtain⟨k',e',q'⟩:=q3;cases e';exact ite_ff ⟨H3,I3,q'⟩
 |true=>
  refine ite_tt (test_last (thn (hc zg s3 σ H3 _ I3 q3) fun w' s4 ⟨z',H4,I4,r4,q4⟩=>thn (ac zg s4 σ H4 y z' u w' _ I4 r2 r4 q4) fun d' s5 ⟨z2,H5,I5,r5,k2,e2,q5⟩=>?_));subst e2;cases r5;exact jw ⟨H5,I5,q5⟩
def TruV(K:cq)(x:V)(H:Hp)(k:Bool):Prop:=
 match x with
 | .non=>k=false
 | .bl b=>k=b
 | .int i=>k=(i != 0)
 | .str y=>y.length<=fc/\k=((y.length:Int) != 0)
 | .byt y=>y.size<=fc/\k=((y.size:Int) != 0)
 | .ref p=>(∃xs,SqL K H p xs/\k=!xs.isEmpty)\/(∃xs,SqT K H p xs/\k=!xs.isEmpty)\/∃kvs,H p=some (.dK kvs)/\k=!kvs.isEmpty
 |_=>False
theorem Kj{κ:Type}{kvs:List (κ×V)}{vs:List (κ×bn)}(r:KV kvs vs):(!vs.isEmpty)=!kvs.isEmpty:=by
 cases r<;>rfl
theorem GD{xs:List V}{z:List bn}(r:Vals xs z):(!z.toArray.isEmpty)=!xs.isEmpty:=by
 cases r<;>simp
theorem line63:(fc:Nat)<2 ^ 63:=by rw[ji];decide
theorem Hr:TruR X (fun x H Q=>∃k,TruV X.K x H k/\Q k H):=by
 intro zg s σ H x v Q I rx h;obtain⟨k,e,q⟩:=h;have hl:=line63;have hs:fc=16777216:=ji;cases x with
 |non=>
  cases rx;have e':k=false:=e;subst e';exact truthy_none ⟨H,I,q⟩
 |bl b=>
  cases rx;have e':k=b:=e;subst e';exact jw ⟨H,I,q⟩
 |int i=>
  obtain⟨t,rfl⟩:=rx;have e':k=(i != 0):=e;subst e';exact PySem.P.truthy_int ⟨H,I,q⟩
 |str y=>
  obtain⟨t,rfl⟩:=rx;obtain⟨hy,e'⟩:y.length<=fc/\k=((y.length:Int) != 0):=e;subst e';exact PySem.P.truthy_str yw ⟨H,I.tok _,q⟩
 |byt y=>
  obtain⟨t,rfl⟩:=rx;obtain⟨hy,e'⟩:y.size<=fc/\k=((y.size:Int) != 0):=e;subst e';exact W.truthy_bytes yw ⟨H,I.tok _,q⟩
 |ref p=>
  cases rx;have e':(∃xs,SqL X.K H p xs/\k=!xs.isEmpty)\/(∃xs,SqT X.K H p xs/\k=!xs.isEmpty)\/∃kvs,H p=some (.dK kvs)/\k=!kvs.isEmpty:=e;rcases e' with ⟨xs,hx,e'⟩|⟨xs,hx,e'⟩|⟨kvs,hx,e'⟩
  ·subst e';obtain⟨aa,r,pl,hz⟩:=I.list hx;have z:=r.length;exact wpAny_truthy_list pl.isList (by simp only[fx];omega) ⟨H,I.tok _,by rw[GD r];exact q⟩
  ·subst e';obtain⟨aa,r,pl,hz⟩:=I.tuple hx;have z:=r.length;exact truthy_tuple pl (by simp only[fx];omega) ⟨H,I.tok _,by rw[GD r];exact q⟩
  ·subst e';obtain⟨hz,hS,vs,r,m⟩:kvs.length<=fc/\(p==kx)=false/\∃vs,KV kvs vs/\s.heap.DictOf (aW X.prog X.w) p vs:=I.hok p _ hx;have z:kvs.length=vs.length:=Paired.length r;exact wpAny_truthy_dict hS m yw ⟨H,I.tok _,by rw[Kj r];exact q⟩
 |_=>exact(show False from e).elim
theorem gY(ha:PE X a ta)(he:∀whole,isTrue a X.env whole=(do let v <- whole;standAt a.pos;holding [v] (truthy v))):
  PT X a (fun σ H Q=>ta σ H fun x H'=>∃k,TruV X.K x H' k/\Q k H'):=by
 intro zg s σ H Q I h;exact isTrue_plain (thn (ha zg s σ H _ I h) fun v s1 ⟨x,H1,I1,r1,q1⟩=>Hr zg s1 σ H1 x v Q I1 r1 q1) (he _)
theorem MD:OpR X (lx .Add) (fun x y H Q=>∃i j,x=.str i/\y=.str j/\i.length+j.length<=fc/\Q (.str (i++j)) H):=by
 intro zg s σ H x y v u Q I rx ry h;obtain⟨i,j,rfl,rfl,hz,q⟩:=h;obtain⟨t,rfl⟩:=rx;obtain⟨t',rfl⟩:=ry;exact add_str (fun t' tk=>⟨.str (i++j),H,I.tok _,⟨_,rfl⟩,q⟩) hz
theorem vals1{x:V}{us:List bn}(r:Vals [x] us):∃u,us=[u]/\RelV x u:=by
 cases r with
 |cons r1 r2=>cases r2;exact⟨_,rfl,r1⟩
theorem vals2{x y:V}{us:List bn}(r:Vals [x,y] us):∃u w',us=[u,w']/\RelV x u/\RelV y w':=by
 cases r with
 |cons r1 r2=>
  cases r2 with
  |cons r3 r4=>cases r4;exact⟨_,_,rfl,r1,r3⟩
theorem DF(hc:X.calm=true):CallR X (.builtin "max") (fun xs H Q=>∃i j,xs=[.int i,.int j]/\Q (.int (if j>i then j else i)) H):=by
 intro zg s σ H xs us Q I r h;obtain⟨i,j,rfl,q⟩:=h;obtain⟨u,w',rfl,⟨t,rfl⟩,⟨t',rfl⟩⟩:=vals2 r;refine max_two_ints (I.ok.hd hc) fun h' tk k=>⟨_,H,I.kept k,?_,q⟩;by_cases hj:j>i
 ·rw[cp hj,cp hj];exact⟨_,rfl⟩
 ·rw[cf hj,cf hj];exact⟨_,rfl⟩
theorem KI(hc:X.calm=true):CallR X (.builtin "min") (fun xs H Q=>∃i j,xs=[.int i,.int j]/\Q (.int (if j<i then j else i)) H):=by
 intro zg s σ H xs us Q I r h;obtain⟨i,j,rfl,q⟩:=h;obtain⟨u,w',rfl,⟨t,rfl⟩,⟨t',rfl⟩⟩:=vals2 r;refine min_two_ints (I.ok.hd hc) fun h' tk k=>⟨_,H,I.kept k,?_,q⟩;by_cases hj:j<i
 ·rw[cp hj,cp hj];exact⟨_,rfl⟩
 ·rw[cf hj,cf hj];exact⟨_,rfl⟩
theorem Mf:CallR X (.type "int") (fun xs H Q=>(∃i,xs=[.int i]/\Q (.int i) H)\/∃k,xs=[.bl k]/\Q (.int (if k then 1 else 0)) H):=by
 intro zg s σ H xs us Q I r h;rcases h with ⟨i,rfl,q⟩|⟨k,rfl,q⟩
 ·obtain⟨u,rfl,t,rfl⟩:=vals1 r;exact call_int_int ⟨.int i,H,I,⟨_,rfl⟩,q⟩
 ·obtain⟨u,rfl,r1⟩:=vals1 r;cases r1;exact call_int_bool ⟨.int (if k then 1 else 0),H,I.tok _,⟨_,rfl⟩,q⟩
end
end
section
structure ObjM(h:Heap)(x dx C:Addr)(mA:Str->Option bn):Prop where
 obj:h.get? x=some (W.instObj C dx)
 ns:h.Ns1 dx mA
 ne:dx≠x
theorem BL{h:Heap}{dx:Addr}{mA:Str->Option bn}(n:h.Ns1 dx mA):∃od,h.get? dx=some od/\∀name,W.lookIn name od=some (mA name):=by
 obtain⟨o,es,ep,ho,hd,hk,_,hm⟩:=n;refine⟨o,ho,fun name=>?_⟩;have e:=hm name;unfold nsFind findBy at e;rw[<- Array.find?_toList]at e;unfold W.lookIn;rw[hd];dsimp only;split
 ·rename_i y q;rw[q]at e;exact congrArg some e
 ·rename_i q;rw[q]at e;have a:es.toList.any (·.refKey)=false:=by
   rw[List.any_eq_false];intro y hy;obtain⟨z,t,aa⟩:=hk y (Array.mem_toList_iff.mp hy);simp[DictEntry.refKey,aa]
  have a':¬ es.toList.any (·.refKey)=true:=by rw[a];exact jk
  rw[cf a'];exact congrArg some e
theorem ObjM.look{h:Heap}{x dx C:Addr}{mA:Str->Option bn}(I:ObjM h x dx C mA):∃od,W.InstAt h x (W.instObj C dx) C (some od)/\∀name,W.lookIn name od=some (mA name):=
 let ⟨od,ho,hl⟩:=BL I.ns
 ⟨od,⟨I.obj,rfl,rfl,ho⟩,hl⟩
def dD(f:Str)(v:V):List (Str×V)->List (Str×V)
 | []=>[(f,v)]
 | (g,x)::r=>if g=f then (g,v)::r else (g,x)::dD f v r
theorem yE(f g:Str)(v:V):∀fs:List (Str×V),(dD f v fs).lookup g=if g=f then some v else fs.lookup g
 | []=>by
  show qf g [(f,v)]=_;by_cases h:g=f
  ·have hb:(g==f)=true:=beq_iff_eq.mpr h;simp only[qf,hb,cp h]
  ·have hb:(g==f)=false:=beq_eq_false_iff_ne.mpr h;simp only[qf,hb,cf h]
 | (k,x)::r=>by
  have ih:=yE f g v r;rw[show dD f v ((k,x)::r)=(if k=f then (k,v)::r else (k,x)::dD f v r)from rfl];by_cases hk:k=f
  ·rw[cp hk];by_cases h:g=k
   ·have hb:(g==k)=true:=beq_iff_eq.mpr h;simp only[qf,hb,cp (h.trans hk)]
   ·have hb:(g==k)=false:=beq_eq_false_iff_ne.mpr h;simp only[qf,hb,cf (fun e:g=f=>h (e.trans hk.symm))]
  ·rw[cf hk];by_cases h:g=k
   ·have hb:(g==k)=true:=beq_iff_eq.mpr h;simp only[qf,hb,cf (fun e:g=f=>hk (h.symm.trans e))]
   ·have hb:(g==k)=false:=beq_eq_false_iff_ne.mpr h;simp only[qf,hb];exact ih
theorem vW(f:Str)(v:V):∀fs:List (Str×V),f∈(dD f v fs).map (·.1)/\∀g,g∈fs.map (·.1)->g∈(dD f v fs).map (·.1)
 | []=>⟨by simp[dD],fun g h=>by simp at h⟩
 | (k,x)::r=>by
  obtain⟨i1,i2⟩:=vW f v r;rw[show dD f v ((k,x)::r)=(if k=f then (k,v)::r else (k,x)::dD f v r)from rfl];by_cases hk:k=f
  ·rw[cp hk];subst hk;exact⟨yv,fun g h=>by simpa using h⟩
  ·rw[cf hk];refine⟨?_,fun g h=>?_⟩
   ·rw[gc];exact cz _ i1
   ·rw[gc]at h ⊢;rcases mem_cons.mp h with e|e
    ·exact mem_cons.mpr (.inl e)
    ·exact cz _ (i2 g e)
theorem RelO.some_of{v:V}{o:Option bn}(r:RelO (some v) o):∃u,o=some u/\RelV v u:=by
 cases o with
 |none=>exact(show False from r).elim
 |some u=>exact⟨u,rfl,r⟩
theorem KU{v:V}{u:bn}(r:RelV v u):W.handedIn u=true:=by
 cases v with
 |non=>cases (show u=jq from r);rfl
 |bl b=>cases (show u=uc b from r);rfl
 |int i=>obtain⟨t,e⟩:=(show ∃t,u=rn i t from r);cases e;rfl
 |str x=>obtain⟨t,e⟩:=(show ∃t,u=Value.str x t from r);cases e;rfl
 |byt b=>obtain⟨t,e⟩:=(show ∃t,u=Value.bytes b t from r);cases e;rfl
 |flt b=>obtain⟨t,e⟩:=(show ∃t,u=Value.float b t from r);cases e;rfl
 |ref a=>cases (show u=fh a from r);rfl
 |ty n=>cases (show u=Value.type n from r);rfl
section
variable {P:fg}{w:gg}{H H':Hp}{h h':Heap}{a C dx:Addr}{fs fs':List (Str×V)}
theorem NH(hok:HOk P w H h)(e:H a=some (.ins C dx fs)):∃mA,ObjM h a dx C mA/\(∀f,RelO (fs.lookup f) (mA f))/\PySem.Within mA (fs.map (·.1))/\fs.length<=1000/\H dx=some (.own a):=by
 obtain⟨d,z,ne,ob,mA,n,r,q⟩:=(show ObjOk P w H h a (.ins C dx fs)from hok a _ e);exact⟨mA,⟨ob,n,ne⟩,r,q,z,d⟩
end
structure Cls(K:cq)(C:Addr):Prop where
 pg:W.plainGet K C Str.empty=true
 hd:W.hasDictIn K C=true
 po:W.plainOver K C=true
 sa:sf K (.ref C) "__setattr__" = some (some (.builtin "object.__setattr__"))
theorem Cls.get{K:cq}{C:Addr}(c:Cls K C)(f:Str):W.plainGet K C f=true:=c.pg
def NoAttr(K:cq)(C:Addr)(f:Str):Prop:=sf K (.ref C) f=some none
section
variable {X:Cx}{zg:List (Addr×Obj)}{σ:St}{H:Hp}{s:bu}{a C dx:Addr}{fs:List (Str×V)}{f:Str}{v:V}{A:gf}{E:bn->bu->Prop}
theorem Mk{prog:fg}{w:gg}{env:Env}{e:Expr}{f:Str}{pos:Pos}{s:bu}{Q:bn->bu->Prop}(hb:pk e f env (eval e env)=eval e env)
  (h:cv (model prog w) A (eval e env) (fun o s₁=>cv (model prog w) A (getAttr o f true) Q E s₁) E s):cv (model prog w) A (eval (.Attribute e f pos) env) Q E s:=
 Attribute_any_ h (by rw[arm_eval_Attribute,hb])
end
section
variable {X:Cx}{zg:List (Addr×Obj)}{σ:St}{H:Hp}{s:bu}{A:gf}{E:bn->bu->Prop}{Q:bn->bu->Prop}{c:bn}{b:Bool}
inductive TyOf (K:cq) (H:Hp):V->bn->Prop where
 |non:TyOf K H .non (.type "NoneType")
 |bl (x:Bool):TyOf K H (.bl x) (.type "bool")
 |int (i:Int):TyOf K H (.int i) (.type "int")
 |str (x:Str):TyOf K H (.str x) (.type "str")
 |flt (x:UInt64):TyOf K H (.flt x) (.type "float")
 |lst {a:Addr}{xs:List V} (e:H a=some (.lst xs)):TyOf K H (.ref a) (.type "list")
 |frz {a:Addr}{o:Obj}{xs:List V} (e:H a=some (.frz o (.lst xs))):TyOf K H (.ref a) (.type "list")
 |tup {a:Addr}{xs:List V} (e:H a=some (.tup xs)):TyOf K H (.ref a) (.type "tuple")
 |dK {a:Addr}{kvs:List (Key×V)} (e:Rd H a (.dK kvs)):TyOf K H (.ref a) (.type "dict")
 |dT {a:Addr}{kvs:List (List Key×V)} (e:Rd H a (.dT kvs)):TyOf K H (.ref a) (.type "dict")
 |ins {a C dx:Addr}{fs:List (Str×V)} (e:H a=some (.ins C dx fs)) (cl:Cls K C) (ha:sf K (.ref C) "__class__" = some (some (.builtin "object.__class__")))
   (hn:W.specialIn K (.builtin "object.__class__") "__get__" = some (some (.builtin "getset_descriptor.__get__"))) (htk:W.takesIn K (.builtin "object.__class__")=some true)
   (hm:W.mroIn K C (.type "object")=some true):TyOf K H (.ref a) (.ref C)
theorem Gw{x:V}{u t:bn}(I:Inv X zg σ H s)(rx:RelV x u)(ty:TyOf X.K H x t)(e:W.kitOne X.K t c=some b)(h:∀tk,Q (.bool b) { s with toks:=tk }):
  cv (model X.prog X.w) A (call (.builtin "isinstance") [u,c]) Q E s:=by
 cases ty with
 |non=>cases (show u=jq from rx);exact qd W.kitx_none I.kIn kz e (fun z=>nomatch z) h
 |bl y=>cases (show u=uc y from rx);exact qd W.kitx_bool I.kIn kz e (fun z=>nomatch z) h
 |int i=>obtain⟨t,q⟩:=(show ∃t,u=rn i t from rx);cases q;exact qd W.kitx_int I.kIn kz e (fun z=>nomatch z) h
 |str y=>obtain⟨t,q⟩:=(show ∃t,u=Value.str y t from rx);cases q;exact qd W.kitx_str I.kIn kz e (fun z=>nomatch z) h
 |flt y=>obtain⟨t,q⟩:=(show ∃t,u=Value.float y t from rx);cases q;exact qd W.kitx_float I.kIn kz e (fun z=>nomatch z) h
 | @lst a xs ea=>
  cases (show u=fh a from rx);obtain⟨_,_,n,_,h1⟩:=(show ObjOk X.prog X.w H s.heap a (.lst xs)from I.hok a _ ea);exact qd W.kitx_list I.kIn ⟨_,h1,rfl⟩ e (fun z=>nomatch z) h
 | @frz a ob xs ea=>
  cases (show u=fh a from rx);obtain⟨_,_,_,n,_,h1⟩:=(show ObjOk X.prog X.w H s.heap a (.frz ob (.lst xs))from I.hok a _ ea);exact qd W.kitx_list I.kIn ⟨_,h1,rfl⟩ e (fun z=>nomatch z) h
 | @tup a xs ea=>
  cases (show u=fh a from rx);obtain⟨_,_,_,p⟩:=(show ObjOk X.prog X.w H s.heap a (.tup xs)from I.hok a _ ea);obtain⟨o,h1,h2,_⟩:=p;exact qd W.kitx_tuple I.kIn ⟨o,h1,h2⟩ e (fun z=>nomatch z) h
 | @dK a kvs ea=>
  cases (show u=fh a from rx);obtain⟨_,_,vs,_,p⟩:=(show ObjOk X.prog X.w H s.heap a (.dK kvs)from ea.ok I.hok);obtain⟨o,es,ep,h1,h2,_⟩:=p;exact qd W.kitx_dict I.kIn ⟨o,h1,h2.1⟩ e (fun z=>nomatch z) h
 | @dT a kvs ea=>
  cases (show u=fh a from rx);obtain⟨_,_,xs,_,o,es,ep,h1,h2,_⟩:=(show ObjOk X.prog X.w H s.heap a (.dT kvs)from ea.ok I.hok);exact qd W.kitx_dict I.kIn ⟨o,h1,h2.1⟩ e (fun z=>nomatch z) h
 | @ins a C dx fs ea cl ha hn htk hm=>
  cases (show u=fh a from rx);obtain⟨mA,O,_⟩:=NH I.hok ea;obtain⟨od,J,_⟩:=O.look;exact qd (W.kitx_own (cl.get _) cl.hd ha hn htk hm) I.kIn J e (fun z=>nomatch z) h
end
end
section
structure Room(k:Nat)(A:gf):Prop where
 hd:A.handled=none
 dp:A.depth+3*k+5<recursionLimit
 un:A.units+16*k+200<rf
theorem Room.mono{j k:Nat}{A:gf}(r:Room k A)(h:j<=k):Room j A:=⟨r.hd,by have:=r.dp;omega,by have:=r.un;omega⟩
theorem Room.deeper{k:Nat}{A:gf}(r:Room (k+1) A)(env:Env):Room k (A.deeper env):=
 ⟨r.hd,by have:=r.dp;show A.depth+1+3*k+5<_;omega,by have:=r.un;show A.units+3+16*k+200<_;omega⟩
theorem Jc{A:gf}{C:Addr}{us:List bn}{kw:List (Str×bn)}:(A.under (.builtin "type.__call__" ⟨.ref C::us,kw⟩)).depth=A.depth+1:=by
 first|rfl|simp[Around.under,Code.weight,Code.isCreation,Code.isGuard,Code.isCaller,Code.frames,Code.isFrame,guardIds]
theorem Kw{A:gf}{C:Addr}{us:List bn}{kw:List (Str×bn)}:(A.under (.builtin "type.__call__" ⟨.ref C::us,kw⟩)).units=A.units+1:=by
 first|rfl|simp[Around.under,Code.cUnits,Code.frames,Code.isFrame]
theorem Room.make{k:Nat}{A:gf}(r:Room (k+1) A)(C:Addr)(us:List bn)(kw:List (Str×bn)):Room k (A.under (.builtin "type.__call__" ⟨.ref C::us,kw⟩)):=
 ⟨r.hd,by have:=r.dp;rw[Jc];omega,by have:=r.un;rw[Kw];omega⟩
theorem Room.depth{k:Nat}{A:gf}(r:Room k A):A.depth<recursionLimit:=by have:=r.dp;omega
theorem Room.units{k:Nat}{A:gf}(r:Room k A):A.units+64<rf:=by have:=r.un;omega
def mI:TA:=fun _ H Q=>Q [] H
def eJ(ta:TE)(tr:TA):TA:=fun σ H Q=>ta σ H fun x H1=>tr σ H1 fun xs H2=>Q (x::xs) H2
section
variable {X:Cx}{e:Expr}{es:List Expr}{te:TE}{t:TA}{pos:Pos}
theorem ze:PA X [] mI:=fun _ _ _ _ H Q I h=>Calls.spliced_nil ⟨[],H,I,.nil,h⟩
theorem za(ha:PE X e te)(hr:PA X es t)(hs:fk (e::es) X.env=(false,eval e X.env)::fk es X.env:=by rfl):PA X (e::es) (eJ te t):=by
 intro pos zg s σ H Q I h;rw[hs];show cv _ _ (spliced ((false,eval e X.env)::ph pos (fk es X.env))) _ _ s;refine Calls.spliced_cons (thn (ha zg s σ H _ I h) fun u s1 ⟨x,H1,I1,r1,q1⟩=>?_);exact thn (hr pos zg s1 σ H1 _ I1 q1) fun us s2 ⟨xs,H2,I2,r2,q2⟩=>⟨x::xs,H2,I2,.cons r1 r2,q2⟩
def yY(t:TA):TE:=fun σ H Q=>t σ H fun xs H1=>xs.length<=fc/\∀p,H1 p=none->Q (.ref p) (upd H1 p (.tup xs))
def iF(t:TA):TE:=fun σ H Q=>t σ H fun xs H1=>xs.length<=fc/\∀p,H1 p=none->Q (.ref p) (upd H1 p (.lst xs))
theorem aY{x1}(h:PA X es t):PE X (.Tuple es x1 pos) (yY t):=by
 intro zg s σ H Q I hq;refine wpAny_Tuple_spliced (thn (h pos zg s σ H _ I hq) fun us s1 ⟨xs,H1,I1,r,z,q⟩=>⟨by rw[<- r.length];exact z,?_⟩);have hf:H1 s1.heap.objs.size=none:=I1.hok.fresh (dw _);refine⟨.ref s1.heap.objs.size,upd H1 s1.heap.objs.size (.tup xs),I1.laid (t':=s1.toks) (fun b u e=>bw _ e) (dw _) ?_,rfl,q _ hf⟩;exact⟨⟨z,_,fj _ rfl,rfl⟩,us,r,⟨_,fj _ rfl,rfl,_,rfl⟩⟩
theorem bI(h:PA X es t):PE X (.List es pos) (iF t):=by
 intro zg s σ H Q I hq;refine wpAny_List_spliced (thn (h pos zg s σ H _ I hq) fun us s1 ⟨xs,H1,I1,r,z,q⟩=>⟨by rw[<- r.length];exact z,?_⟩);have hf:H1 s1.heap.objs.size=none:=I1.hok.fresh (dw _);refine⟨.ref s1.heap.objs.size,upd H1 s1.heap.objs.size (.lst xs),I1.laid (t':=s1.toks) (fun b u e=>bw _ e) (dw _) ?_,rfl,q _ hf⟩;exact⟨z,us,0,r,fj _ rfl⟩
end
abbrev Sp:=List V->Hp->VK->XK->Prop
abbrev CXT:=List Env->Hp->bu->XK->bn->bu->Prop
structure Env0(P:fg)(w:gg)(K:cq)(mg:Str->Option bn)(base:Heap)(A:gf)(outer:List Env)(s:bu)(H:Hp):Prop where
 frames:A.frames=some outer
 mod:Mod K mg base
 bs:∀b o,base.get? b=some o->s.heap.get? b=some o/\H b=none
 bsz:base.objs.size<=s.heap.objs.size
 funs:s.heap.FunFrames base outer
 frf:Frf (frs outer) H
 hok:HOk P w H s.heap
 bare:AllBare s.gens
def CE(outer:List Env)(P:fg)(w:gg)(H:Hp)(s:bu)(Q:VK)(u:bn)(s':bu):Prop:=
 ∃v H',s'.os=s.os/\AllBare s'.gens/\Un (frs outer) [] H H' s.heap s'.heap/\HOk P w H' s'.heap/\RelV v u/\Q v H'
def CR(CX:CXT)(outer:List Env)(P:fg)(w:gg)(H:Hp)(s:bu)(Q:VK)(E:XK)(r:Result)(s':bu):Prop:=
 match r with
 | .ok (.ret u)=>CE outer P w H s Q u s'
 | .ok _=>False
 | .error e=>CX outer H s E e s'
structure FnOk(P:fg)(w:gg)(K:cq)(mg:Str->Option bn)(base:Heap)(CX:CXT)(k:Nat)(f:Addr)(fd:ng)(ps:List Str)(sp:Sp):Prop where
 len:∀vs H Q E,sp vs H Q E->vs.length=ps.length
 run:∀(A:gf) (outer:List Env) (s:bu) (H:Hp) (args:Args) (us:List bn) (vs:List V) (Q:VK) (E:XK),Room k A->Env0 P w K mg base A outer s H->BindsTo s fd args (ps.zip us)->Vals vs us->sp vs H Q E ->
  tw (model P w) A (.call (.ref f) args) (CR CX outer P w H s Q E) s
theorem Env0.make{P:fg}{w:gg}{K:cq}{mg:Str->Option bn}{base:Heap}{A:gf}{outer:List Env}{s:bu}{H:Hp}(e:Env0 P w K mg base A outer s H)(C:Addr)(us:List bn)(kw:List (Str×bn)):
  Env0 P w K mg base (A.under (.builtin "type.__call__" ⟨.ref C::us,kw⟩)) outer s H:=⟨by first|exact e.frames|(simpa[Around.under,Code.envs,Code.isFrame,pushEnvs]using e.frames),e.mod,e.bs,e.bsz,e.funs,e.frf,e.hok,e.bare⟩
section
variable {X:Cx}{zg:List (Addr×Obj)}{σ:St}{H:Hp}{s s':bu}
theorem Inv.env0(I:Inv X zg σ H s):Env0 X.prog X.w X.K X.mg X.base X.A X.stack s H:=
 ⟨I.ok.frames,I.ok.mod,I.bs,ky I.ok.bsz I.sz,I.stack,I.stkFree,I.hok,I.bare⟩
theorem Inv.after{Q:VK}{u:bn}(I:Inv X zg σ H s)(h:CE X.stack X.prog X.w H s Q u s'):EP X zg σ Q u s':=by
 obtain⟨v,H',os,bare,un,hok,r,q⟩:=h;obtain⟨hh,g,d,t,aa⟩:=s';obtain rfl:aa=s.os:=os;exact⟨v,H',I.call (h':=hh) (g':=g) (d':=d) (t':=t) (ch:=[]) un hok bare (fun b z=>absurd z yv),r,q⟩
end
def fK(sp:Sp)(dvs:List V)(E:XK)(t:TA):TE:=fun σ H Q=>t σ H fun vs H1=>sp (vs++dvs) H1 Q E
def Binds(K:cq)(fd:ng)(ps:List Str)(ds:List bn):Prop:=
 ∀(s:bu) (us:List bn),K.In s.heap->(us++ds).length=ps.length->BindsTo s fd ⟨us,[]⟩ (ps.zip (us++ds))
theorem Binds.all{K:cq}{fd:ng}{ps:List Str}(h:∀us:List bn,us.length=ps.length->bindArgs fd ⟨us,[]⟩=pure (ps.zip us)):Binds K fd ps []:=fun s us _ hl=>by
 rw[jl]at hl ⊢;exact .of_eq (h us hl)
def Passes(CX:CXT)(X:Cx)(E:XK):Prop:=∀(zg:List (Addr×Obj)) (σ:St) (H:Hp) (s:bu) (e:bn) (s':bu),Inv X zg σ H s->CX X.stack H s E e s'->X.xe e s'
section
variable {X:Cx}{CX:CXT}{k:Nat}{f C:Addr}{fd:ng}{ps:List Str}{sp:Sp}{dvs:List V}{ds:List bn}{E:XK}{x m:Str}{p pos apos:Pos}{e o:Expr}{es:List Expr}{ta:TE}{t:TA}
theorem MG{zg:List (Addr×Obj)}{σ:St}{H:Hp}{s:bu}{Q:VK}{us:List bn}{vs:List V}(F:FnOk X.prog X.w X.K X.mg X.base CX k f fd ps sp)(hr:Room k X.A)(hb:Binds X.K fd ps ds)(hd:Vals dvs ds)(hx:Passes CX X E)
  (I:Inv X zg σ H s) (r:Vals vs us) (h:sp (vs++dvs) H Q E):cv (model X.prog X.w) X.A (call (.ref f) us) (EP X zg σ Q) X.xe s:=by
 have r2:Vals (vs++dvs) (us++ds):=r.append hd;have hl:(us++ds).length=ps.length:=by rw[<- r2.length];exact F.len _ _ _ _ h
 refine wpAny_call (codeAny_mono (F.run X.A X.stack s H ⟨us,[]⟩ (us++ds) (vs++dvs) Q E hr I.env0 (hb s us I.kIn hl) r2 h) fun r s' hq=>?_);cases r with
 |error e=>exact hx zg σ H s e s' I hq
 |ok fl=>
  cases fl with
  |ret u=>exact I.after hq
  |next=>exact iu hq
  |brk=>exact iu hq
  |cont=>exact iu hq
theorem vC(F:FnOk X.prog X.w X.K X.mg X.base CX k f fd ps sp)(hr:Room k X.A)(hg:Gl X x)(hm:X.mg x=some (.ref f))(hk:rg X.K (.ref f)=true)(hb:Binds X.K fd ps ds)(hd:Vals dvs ds)(hx:Passes CX X E)
  (ha:PA X (e::es) t) (hdb:(x==("__debug__":Str))=false:=by decide) (he:fk (e::es) X.env=(false,eval e X.env)::fk es X.env:=by rfl) (hpl:(ph pos (fk es X.env)).any (·.1)=false:=by rfl):
  PE X (.Call (.Name x p) (e::es) [] pos) (fK sp dvs E t):=by
 intro zg s σ H Q I h;refine ol (mU I hg hm ?_ hdb);refine W.callWith_K (h₀:=X.base) I.ok.mod.kin hk (thn (ha pos zg s σ H _ I h) fun us s1 ⟨vs,H1,I1,r,q⟩=>⟨I1.kIn,?_⟩) he hpl;exact MG F hr hb hd hx I1 r q
end
structure FnScope(N P:List Str)(sc:Scope):Prop where
 kind:sc.kind=.function
 co:sc.isCoroutine=false
 gen:sc.isGenerator=false
 nd:N.Nodup
 pre:N.take P.length=P
 par:∀x∈P,sc.names.lookup x=some .local\/sc.names.lookup x=some .cell
 nofree:∀y∈sc.names,y.2≠.free
theorem FT{z:Str->Option pc}{x:Str}:∀{binds:List (Str×bn)}{m:Str->Option bn},(∀v,(x,v)∉binds)->bindL z binds m x=m x
 | [],_,_=>rfl
 | (n,v)::r,m,h=>by
  unfold bindL;rw[FT fun w hw=>h w (cz _ hw)];split
  ·have:x≠n:=by rintro rfl;exact h v fq
   simp[this]
  ·rfl
theorem GP{z:Str->Option pc}{x:Str}:∀{binds:List (Str×bn)}{m:Str->Option bn},(∀v,(x,v)∉binds)->bindC z binds m x=m x
 | [],_,_=>rfl
 | (n,v)::r,m,h=>by
  unfold bindC;rw[GP fun w hw=>h w (cz _ hw)];split
  ·rfl
  ·have:x≠n:=by rintro rfl;exact h v fq
   simp[this]
theorem CO{z:Str->Option pc}{x:Str}{v:bn}:∀{P:List Str}{vs:List bn}{i:Nat}{m:Str->Option bn},P.Nodup->P[i]?=some x->vs[i]?=some v->z x=some .local ->
  bindL z (P.zip vs) m x=some v
 | [],_,_,_,_,h,_,_=>by simp at h
 |_::_,[],_,_,_,_,h,_=>by simp at h
 |p::P,w::vs,0,m,nd,h1,h2,hk=>by
  simp at h1 h2;subst h1;subst h2;show bindL z ((p,w)::P.zip vs) m p=_;unfold bindL;rw[FT fun v hv=>(nodup_cons.mp nd).1 (of_mem_zip hv).1,cp hk];simp
 |p::P,w::vs,i+1,m,nd,h1,h2,hk=>by
  show bindL z ((p,w)::P.zip vs) m x=_;unfold bindL;exact CO (i:=i) (nodup_cons.mp nd).2 (by simpa using h1) (by simpa using h2) hk
theorem Eu{z:Str->Option pc}{x:Str}{v:bn}:∀{P:List Str}{vs:List bn}{i:Nat}{m:Str->Option bn},P.Nodup->P[i]?=some x->vs[i]?=some v->z x≠some .local ->
  bindC z (P.zip vs) m x=some v
 | [],_,_,_,_,h,_,_=>by simp at h
 |_::_,[],_,_,_,_,h,_=>by simp at h
 |p::P,w::vs,0,m,nd,h1,h2,hk=>by
  simp at h1 h2;subst h1;subst h2;show bindC z ((p,w)::P.zip vs) m p=_;unfold bindC;rw[GP fun v hv=>(nodup_cons.mp nd).1 (of_mem_zip hv).1,cf hk];simp
 |p::P,w::vs,i+1,m,nd,h1,h2,hk=>by
  show bindC z ((p,w)::P.zip vs) m x=_;unfold bindC;exact Eu (i:=i) (nodup_cons.mp nd).2 (by simpa using h1) (by simpa using h2) hk
def start(N:List Str)(vs:List V):St:=vs.map some++bx (N.length-vs.length) none
def bU(CX:CXT)(P:fg)(w:gg)(K:cq)(mg:Str->Option bn)(base:Heap)(N:List Str)(qual:Str)(scope:Scope)(f:Addr)(cd:bn)(A:gf)(outer:List Env)(s:bu)(H:Hp)(E:XK):Cx where
 prog:=P
 w:=w
 K:=K
 mg:=mg
 base:=base
 A:=A.deeper (iy qual scope s.heap.objs.size f cd)
 N:=N
 s₀:=s
 H₀:=H
 env:=iy qual scope s.heap.objs.size f cd
 outer:=outer
 stack:=iy qual scope s.heap.objs.size f cd::outer
 ex:=[]
 calm:=true
 fn:=fun _=>true
 pn:=[]
 xe:=fun e s'=>cv (model P w) (A.deeper (iy qual scope s.heap.objs.size f cd)) (leaving (iy qual scope s.heap.objs.size f cd) e) (fun _ s''=>CX outer H s E e s'') (fun e' s''=>CX outer H s E e' s'') s'
theorem B1{sc:Scope}{n:Nat}{x:Str}(h:sc.names.lookup x=some .cell):∃c,(cellsFrom n sc.names []).lookup x=some c:=by
 have q:=W.cellsFrom_some sc.names n [] (.inl h);exact isSome_iff_exists.mp q
theorem Af{CX:CXT}{P:fg}{w:gg}{K:cq}{mg:Str->Option bn}{base:Heap}{N ps:List Str}{qual:Str}{scope:Scope}{f:Addr}{cd:bn}{A:gf}{outer:List Env}{s s1:bu}{H:Hp}{E:XK}{us:List bn}{vs:List V}
  (S:FnScope N ps scope) (hd:A.handled=none) (e0:Env0 P w K mg base A outer s H) (hl:vs.length=ps.length) (r:Vals vs us)
  (x:InCallC s s.heap.objs.size (bindL (iy qual scope s.heap.objs.size f cd).kindOf (ps.zip us) fun _=>none) (cellsFrom (s.heap.objs.size+1) scope.names []) (bindC (iy qual scope s.heap.objs.size f cd).kindOf (ps.zip us) fun _=>none) s1):
  Inv (bU CX P w K mg base N qual scope f cd A outer s H E) [] (start N vs) H s1:=by
 have ae:ps.length<=N.length:=by have:=congrArg List.length S.pre;rw[nv]at this;omega
 obtain⟨h1,tk,rfl,hk⟩:=x.done;have aa:∀b:Addr,b∉(bU CX P w K mg base N qual scope f cd A outer s H E).ex:=fun b z=>absurd (show b∈([]:List Addr)from z) yv;refine⟨⟨e0.mod,S.kind,rfl,rfl,dw _,fun y z c h1 h2=>?_,fun y hy=>?_,fun y c _ h=>?_,fun _=>hd,Around.frames_deeper e0.frames,.inr ⟨rfl,rfl⟩,fun b z=>absurd z (aa b),e0.bs,e0.bsz,fun b _ _=>aa b,fun b z=>absurd z (aa b),e0.funs,e0.frf⟩,
  rfl,e0.bare,Un.kept hk,⟨_,x.toInCall.ns,fun i y v h1 h2 h3=>?_⟩,fun y c h=>⟨_,x.cell y c h⟩,e0.hok.fresh (dw _),fun y c h=>?_,fun p hp=>absurd (show p∈([]:List (Addr×Obj))from hp) yv,e0.hok.kept hk,?_⟩
 ·exact name_of_addr x.apart (PySem.mem_of_lookup h1) (PySem.mem_of_lookup h2)
 ·have hy:scope.names.lookup y=some .cell\/scope.names.lookup y=some .free:=hy;rcases hy with hy|hy
  ·exact B1 hy
  ·exact absurd rfl (S.nofree _ (PySem.mem_of_lookup hy))
 ·exact kl (x.above y c (PySem.mem_of_lookup h))
 ·have hi:i<vs.length:=by
   unfold start at h2;by_cases hi:i<vs.length
   ·exact hi
   ·rw[List.getElem?_append_right (by simpa using hi)]at h2;rw[qg]at h2;split at h2<;>cases h2
  have ha:vs[i]?=some v:=by
   unfold start at h2;rw[ft (by simpa using hi),iw]at h2;cases e:vs[i]? with
   |none=>rw[e]at h2;cases h2
   |some a=>rw[e]at h2;cases h2;rfl
  obtain⟨u,hu,rv⟩:=r.get ha;have hp:ps[i]?=some y:=by
   rw[<- S.pre,List.getElem?_take_of_lt yw];exact h1
  have ac:ps.Nodup:=by rw[<- S.pre];exact S.nd.sublist (List.take_sublist _ _)
  refine⟨u,rv,?_⟩;rcases S.par y (cb hp)with k|k
  ·exact .inl ⟨k,CO ac hp hu k⟩
  ·obtain⟨c,e⟩:=B1 (n:=s.heap.objs.size+1) k;refine .inr ⟨.inl k,c,e,?_⟩;have q:=x.cell y c e;rw[Eu ac hp hu (by show scope.names.lookup y≠_;rw[k];decide)]at q;exact q
 ·exact e0.hok.fresh (kl (x.above y c (PySem.mem_of_lookup h)))
 ·unfold start;show _=N.length;rw[gu,gh,List.length_replicate];omega
theorem BV{CX:CXT}{P:fg}{w:gg}{K:cq}{mg:Str->Option bn}{base:Heap}{k:Nat}{f:Addr}{name qual:Str}{aa:Arguments}{ac:List Stmt}{scope:Scope}{dV kV af pm z ct oc:bn}{an od:Option Addr}
  {osl:Array (Option bn)}{N ps:List Str}{sp:Sp} (lk:K.lookup f=some ⟨oc,od,.func (W.fnOf name qual aa ac scope dV kV af pm an z ct),osl⟩) (hcd:W.codeIn K z qual=true) (S:FnScope N ps scope)
  (len:∀vs H Q E,sp vs H Q E->vs.length=ps.length)
  (hbody:∀(A:gf) (outer:List Env) (s:bu) (H:Hp) (vs:List V) (Q:VK) (E:XK),Room k (A.deeper (iy qual scope s.heap.objs.size f z))->sp vs H Q E ->
   ∃t,PSs (bU CX P w K mg base N qual scope f z A outer s H E) ac t/\t { nx:=fun _ H'=>Q .non H',rt:=Q } (start N vs) H):
  FnOk P w K mg base CX (k+1) f (W.fnOf name qual aa ac scope dV kV af pm an z ct) ps sp:=by
 refine⟨len,fun A outer s H args us vs Q E hr e0 hb r ag=>?_⟩;have hl:=len _ _ _ _ ag;have KX:K.In s.heap:=e0.mod.kin.keeps fun b o e=>(e0.bs b o e).1;have ah:s.heap.NoLimit:=e0.mod.nolimit.keeps fun b o e=>(e0.bs b o e).1;have ae:∀y∈ps.zip us,scope.names.lookup y.1=some .local\/(scope.names.lookup y.1=some .cell/\((cellsFrom (s.heap.objs.size+1) scope.names []).lookup y.1).isSome=true):=fun⟨n,v⟩ hy=>by
  rcases S.par n (of_mem_zip hy).1 with q|q
  ·exact .inl q
  ·exact .inr ⟨q,W.cellsFrom_some _ _ _ (.inl q)⟩
 refine codeAny_call_function hr.depth (KX _ _ lk) rfl S.co S.gen rfl (W.codeRec_of KX hcd) (hb _ _ _ _ ?_);refine wpAny_newFunctionEnv_cells S.kind ae fun env he s1 x=>?_;subst he;refine⟨ah.keeps x.toInCall.keep,codeAny_func ?_⟩;obtain⟨t,ht,hq⟩:=hbody A outer s H vs Q E (hr.deeper _) ag;have I:Inv (bU CX P w K mg base N qual scope f z A outer s H E) [] (start N vs) H s1:=Af S hr.hd e0 hl r x;refine jj (ht [] s1 (start N vs) H _ I hq) (fun fl s' hs=>?_) fun e s' hs=>hs;have fin:∀{σ':St}{H':Hp}{v:V}{u:bn},Inv (bU CX P w K mg base N qual scope f z A outer s H E) [] σ' H' s'->RelV v u->Q v H'->CE outer P w H s Q u s':=
  fun {σ' H' v u} J rv q=>⟨v,H',J.os,J.bare,J.base,J.hok,rv,q⟩
 cases fl with
 |ret u=>
  obtain⟨v,σ',H',J,rv,q⟩:=hs;exact fin J rv q
 |next=>
  obtain⟨σ',H',J,q⟩:=hs;exact fin (v:=V.non) (u:=jq) J rfl q
 |brk=>
  obtain⟨_,_,_,q⟩:=hs;exact iu q
 |cont=>
  obtain⟨_,_,_,q⟩:=hs;exact iu q
end
section
section
variable {X:Cx}{x:Str}{p pos:Pos}{e:Expr}{es:List Expr}{t:TA}{id T:String}{r:List V->Hp->VK->Prop}
def tCB(r:List V->Hp->VK->Prop)(t:TA):TE:=fun σ H Q=>t σ H fun vs H1=>r vs H1 Q
theorem zv(hc:CallR X (.builtin id) r)(hg:Gl X x)(hm:X.mg x=none)(hv:jc x=some (.builtin id))(ha:PA X (e::es) t)(hn:x ≠ "__name__":=by decide)(z:(x==("__debug__":Str))=false:=by decide)
  (he:fk (e::es) X.env=(false,eval e X.env)::fk es X.env:=by rfl) (hpl:(ph pos (fk es X.env)).any (·.1)=false:=by rfl):PE X (.Call (.Name x p) (e::es) [] pos) (tCB r t):=by
 intro zg s σ H Q I h;refine ol (iD I hg hm hv ?_ hn z);exact PyProof.Rows.callWith_builtin1 (thn (ha pos zg s σ H _ I h) fun us s1 ⟨vs,H1,I1,r1,q1⟩=>hc zg s1 σ H1 vs us Q I1 r1 q1) he hpl
theorem iR(hc:CallR X (.type T) r)(hg:Gl X x)(hm:X.mg x=none)(hv:jc x=some (.type T))(ha:PA X (e::es) t)(hn:x ≠ "__name__":=by decide)(z:(x==("__debug__":Str))=false:=by decide)
  (he:fk (e::es) X.env=(false,eval e X.env)::fk es X.env:=by rfl) (hpl:(ph pos (fk es X.env)).any (·.1)=false:=by rfl):PE X (.Call (.Name x p) (e::es) [] pos) (tCB r t):=by
 intro zg s σ H Q I h;refine ol (iD I hg hm hv ?_ hn z);exact kr (thn (ha pos zg s σ H _ I h) fun us s1 ⟨vs,H1,I1,r1,q1⟩=>hc zg s1 σ H1 vs us Q I1 r1 q1) he hpl
end
end
end L2
namespace HT
open PySem PyProof.Rows
def lexLt:List Int->List Int->Bool
 | [],[]=>false
 | [],_::_=>true
 |_::_,[]=>false
 |x::xs,y::ys=>if x=y then lexLt xs ys else decide (x<y)
theorem lexLt_cons(x y:Int)(xs ys:List Int):lexLt (x::xs) (y::ys)=if x=y then lexLt xs ys else decide (x<y):=rfl
theorem Id:lexLt [] []=false:=rfl
theorem Kf(y:Int)(ys:List Int):lexLt [] (y::ys)=true:=rfl
theorem Gs(x:Int)(xs:List Int):lexLt (x::xs) []=false:=rfl
theorem Kn(A:gf)(s:bu)(a:Int)(t:Tok)(c:Int)(u:Tok):∃e,SeqAt.EqAt A s (.int a t) (.int c u) e/\(e=true↔a=c):=
 ⟨(a==c),SeqAt.EqAt.int_int a t c u,yv⟩
theorem HS(A:gf)(s:bu)(a:Int)(t:Tok)(c:Int)(u:Tok)(prog:fg)(w:gg)(E:bn->bu->Prop)(Q:bn->bu->Prop)(h:Q (.bool (decide (a<c))) s):
  cv (model prog w) A (richCompare .Lt (.int a t) (.int c u)) Q E s:=
 (PyProof.Rows.lt_int h:cv (model prog w) A (jy .Lt (.int a t) (.int c u)) Q E s)
section
open PySem.SeqAt
open PySem.AutoSeq1 (wpAny_loadPart')
open PySem.MeetsSeq PySem.MeetsSeq2 PySem.MeetsSeq3
theorem IC(l b:Addr)(items z:Array bn)(n n2:Nat)(dd af:Option Addr)(sl ae:Array (Option bn))(ns ms:List Int)(hi:pp items.toList ns)(hj:pp z.toList ms):
  Meets (ni.«tuple.__lt__» ⟨[.ref l,.ref b],[]⟩)
   (fun _ R s=>s.heap.get? l=some { cls:=.type "tuple",dict:=dd,data:=.seq items n,slots:=sl }/\s.heap.get? b=some { cls:=.type "tuple",dict:=af,data:=.seq z n2,slots:=ae } /\
    R (.ok (.ret (.bool (lexLt ns ms)))) s):=
 .of_wp fun prog w A R s h=>by
  obtain⟨hp,g,d,tk,os⟩:=s;obtain⟨hl,hb,h⟩:=h;have f2:=AutoSeq1.sub_tuple_tuple;have z1:items.size=ns.length:=by rw[<- hi.length];simp
  have z2:z.size=ms.length:=by rw[<- hj.length];simp
  wp_walk using wpAny_loadPart' hl,wpAny_loadPart' hb,wpAny_forIn_list _ (fun rest b s'=>b.1=none/\s'=⟨hp,g,d,tk,os⟩/\∃(vs ws:List bn) (ns' ms':List Int),rest=vs.zip ws /\
   pp vs ns'/\pp ws ms'/\ns'.length+z.size=ms'.length+items.size/\R (.ok (.ret (.bool (lexLt ns' ms')))) ⟨hp,g,d,tk,os⟩) _
  case turn=>
   rintro⟨y,x⟩ rest b s' ⟨hb',rfl,vs,ws,ns',ms',hz,hvi,hwi,hlen,hR⟩;cases hvi with
   |nil=>rw[List.zip_nil_left]at hz;cases hz
   |cons a t hvi'=>
    cases hwi with
    |nil=>rw[List.zip_nil_right]at hz;cases hz
    |cons c u hwi'=>
     rw[qv]at hz;injection hz with hyx hrest
     injection hyx with hy hx
     subst hy hx;rw[lexLt_cons]at hR;simp only[fy]at hlen;obtain⟨e,he,aa⟩:=Kn A.in1 ⟨hp,g,d,tk,os⟩ a t c u;refine bo (he prog w _ _ ?_);cases e with
     |true=>
      rw[cp (aa.mp rfl)]at hR
      wp_walk
      exact⟨rfl,rfl,_,_,_,_,hrest,hvi',hwi',yw,hR⟩
     |false=>
      rw[cf (fun q=>absurd (aa.mpr q) jk)]at hR;have ac:=HS A.in1 ⟨hp,g,d,tk,os⟩ a t c u prog w
      wp_walk using ac
      exact⟨_,rfl,by simpa using hR⟩
  case fin=>
   rintro⟨b1,b2⟩ s' ⟨hb',rfl,vs,ws,ns',ms',hz,hvi,hwi,hlen,hR⟩;simp only at hb';subst hb';have hv:lexLt ns' ms'=decide (items.size<z.size):=by
    cases hvi with
    |nil=>
     cases hwi with
     |nil=>
      simp only[length_nil]at hlen;rw[Id];exact(gz yw).symm
     |cons c u hw=>
      simp only[length_nil,fy]at hlen;rw[Kf];exact(ke yw).symm
    |cons a t hv=>
     cases hwi with
     |nil=>
      simp only[length_nil,fy]at hlen;rw[Gs];exact(gz yw).symm
     |cons c u hw=>
      rw[qv]at hz;cases hz
   rw[hv]at hR
   wp_walk
   exact⟨_,rfl,by simpa[Builtin.Tuple.tupleCompareSizes]using hR⟩
  case h=>
   exact⟨rfl,rfl,items.toList,z.toList,ns,ms,rfl,hi,hj,yw,h⟩
end
section
variable {prog:fg}{w:gg}{A:gf}{E:bn->bu->Prop}{s:bu}
theorem lt_tupInts{l b:Addr}{items z:Array bn}{ns ms:List Int}{Q:bn->bu->Prop}(hl:IsTup s.heap l items)(hb:IsTup s.heap b z)(hi:pp items.toList ns)(hj:pp z.toList ms)
  (hu:A.units<rf) (h:Q (.bool (lexLt ns ms)) s):cv (model prog w) A (jy .Lt (.ref l) (.ref b)) Q E s:=by
 obtain⟨⟨cls,dd,data,sl⟩,ho,hc,n,hd⟩:=id hl;obtain⟨⟨ai,ag,ah,af⟩,ac,ae,n2,aa⟩:=id hb;simp only at hc hd ae aa;subst hc hd ae aa;exact richCompare_meets_room (op:=.Lt) ⟨_,ho,rfl⟩ ⟨_,ac,rfl⟩ PySem.F.slot_tuple_lt PySem.F.entry_tuple_lt (PySem.F.args_tuple_lt_2 _ _) (IC l b items z n n2 dd ag sl af ns ms hi hj)
  ⟨ho,ac,show uc (lexLt ns ms)≠Value.notImplemented/\Q (.bool (lexLt ns ms)) s from⟨(fun x=>nomatch x),h⟩⟩ hu
theorem cat_tup{t b:Addr}{vs ws:List bn}{Q:bn->bu->Prop}(ht:IsTup s.heap t vs.toArray)(hb:IsTup s.heap b ws.toArray)(hv:vs≠[])
  (h1:ws=[]->Q (.ref t) s) (h2:ws≠[]->Q (.ref s.heap.objs.size) { s with heap:=s.heap.push { cls:=.type "tuple",data:=.seq (vs++ws).toArray } })
  (hsz:vs.length+ws.length<=fc):cv (model prog w) A (lx .Add (.ref t) (.ref b)) Q E s:=by
 obtain⟨⟨cls,dd,data,sl⟩,ho,hc,n,hd⟩:=id ht;obtain⟨⟨ah,af,ag,ac⟩,z,ae,n2,aa⟩:=id hb;simp only at hc hd ae aa;subst hc hd ae aa;have e:vs.toArray++ws.toArray=(vs++ws).toArray:=by simp
 by_cases hw:ws=[]
 ·exact concat_meets ⟨_,ho,rfl⟩ ⟨_,z,rfl⟩ noFill_tuple_add seq_tuple_add PySem.F.slot_tuple_add PySem.F.entry_tuple_add (PySem.F.args_tuple_add_2 _ _)
   (tuple_addW1 t b vs.toArray ws.toArray n n2 dd af sl ac (by simpa using hv) (by simp[hw])) ⟨ho,z,h1 hw⟩
 ·refine concat_meets ⟨_,ho,rfl⟩ ⟨_,z,rfl⟩ noFill_tuple_add seq_tuple_add PySem.F.slot_tuple_add PySem.F.entry_tuple_add (PySem.F.args_tuple_add_2 _ _)
   (tuple_addW2 t b vs.toArray ws.toArray n n2 dd af sl ac (by simpa using hv) (by simpa using hw) (by rw[fx,fx];exact hsz)) ⟨ho,z,?_⟩
  rw[e];exact h2 hw
def sIx(n d:Nat):Option Int->Nat
 |none=>d
 |some v=>if v<0 then (v+(n:Int)).toNat else min v.toNat n
theorem sIx_nat(n d k:Nat):sIx n d (some (k:Int))=min k n:=by
 show (if (k:Int)<0 then ((k:Int)+(n:Int)).toNat else min (k:Int).toNat n)=min k n;rw[cf yw,Int.toNat_natCast]
theorem Lj(n d:Nat)(hd:d<=n)(o:Option Int):sIx n d o<=n:=by
 cases o with
 |none=>exact hd
 |some v=>
  show (if v<0 then (v+(n:Int)).toNat else min v.toNat n)<=n;by_cases hv:v<0
  ·rw[cp hv];omega
  ·rw[cf hv];exact Nat.min_le_right _ _
theorem FY(v:Int)(n d:Nat):(if v<0 then max (v+(n:Int)) 0 else min v (n:Int))=((sIx n d (some v):Nat):Int):=by
 show (if v<0 then max (v+(n:Int)) 0 else min v (n:Int))=(((if v<0 then (v+(n:Int)).toNat else min v.toNat n):Nat):Int);by_cases hv:v<0
 ·simp only[cp hv];omega
 ·simp only[cf hv];omega
theorem HH(lo hi:Option Int)(n:Nat):Builtin.Slice.sliceAdjust lo hi 1 (n:Int)=(((sIx n 0 lo:Nat):Int),((sIx n n hi:Nat):Int)):=by
 have h1:¬((1:Int)<0):=yw
 unfold Builtin.Slice.sliceAdjust;simp only[h1,if_false];refine Prod.ext ?_ ?_
 ·cases lo with
  |none=>rfl
  |some v=>exact FY v n 0
 ·cases hi with
  |none=>rfl
  |some v=>exact FY v n n
theorem OE(i j:Nat):Builtin.Slice.slicePlaces (i:Int) (j:Int) 1=j-i:=by
 unfold Builtin.Slice.slicePlaces;have h1:(1:Int)>0:=yw
 simp only[h1,if_true,Int.ediv_one];split<;>omega
theorem BD{v:bn}{o:Option Int}{Q:Option Int->bu->Prop}(p:IsPart v o)(h:Q o s):cv (model prog w) A (Builtin.Slice.slicePartIndex v) Q E s:=by
 cases p with
 |none=>exact slicePart_none h
 |int i t=>exact slicePart_int h
theorem Eb{sl:Addr}{vl vu:bn}{lo hi:Option Int}{n:Nat}{Q:Int×Int×Nat->bu->Prop}(hs:s.heap.IsSliceOf sl vl vu .none)(pl:IsPart vl lo)(pu:IsPart vu hi)
  (h:Q (((sIx n 0 lo:Nat):Int),1,sIx n n hi-sIx n 0 lo) s):cv (model prog w) A (Builtin.Slice.sliceApplied (.ref sl) (pure (n:Int))) Q E s:=by
 obtain⟨os,aa,ac,z⟩:=id hs;unfold Builtin.Slice.sliceApplied Builtin.Slice.sliceFields;refine bo (bo (jg aa z (x:=vl) rfl (bo (jg aa z (x:=vu) rfl (bo (jg aa z (x:=.none) rfl (cr ?_)))))));refine bo (slicePart_none ?_);show cv _ _ (if ((1:Int)==0)=true then _ else _) _ _ s;rw[cf dz];refine bo (BD pl (bo (BD pu (bo (cr ?_)))));show cv _ _ (match Builtin.Slice.sliceAdjust lo hi 1 (n:Int)with|(lo,hi)=>pure (lo,(1:Int),Builtin.Slice.slicePlaces lo hi 1)) _ _ s;rw[HH lo hi n];show cv _ _ (pure (((sIx n 0 lo:Nat):Int),(1:Int),Builtin.Slice.slicePlaces ((sIx n 0 lo:Nat):Int) ((sIx n n hi:Nat):Int) 1)) _ _ s;rw[OE];exact cr h
theorem G6(xs:Array bn)(i k:Nat):((jb k).filterMap fun(m:Nat)=>xs[((i:Int)+(m:Int)*1).toNat]?).toArray=((xs.toList.drop i).take k).toArray:=by
 have e:(fun(m:Nat)=>xs[((i:Int)+(m:Int)*1).toNat]?)=fun m=>xs[i+m]?:=by
  funext m;have:((i:Int)+(m:Int)*1).toNat=i+m:=yw
  rw[this]
 rw[e];have:=pick_run xs i k;rw[List.filterMap_map]at this;have e2:((fun x=>xs[x]?)∘fun x=>i+x)=fun m=>xs[i+m]?:=rfl;rw[e2]at this;rw[this]
theorem getItem_tuple_cut{t sl:Addr}{items:Array bn}{vl vu:bn}{lo hi:Option Int}{Q:bn->bu->Prop}(ht:IsTup s.heap t items)(hs:s.heap.IsSliceOf sl vl vu .none)(pl:IsPart vl lo)(pu:IsPart vu hi)
  (hw:¬(sIx items.size 0 lo=0/\sIx items.size items.size hi=items.size))
  (h:Q (.ref s.heap.objs.size) { s with heap:=s.heap.push { cls:=.type "tuple",data:=.seq ((items.toList.drop (sIx items.size 0 lo)).take (sIx items.size items.size hi-sIx items.size 0 lo)).toArray } })
  (hsz:items.size<=fc):cv (model prog w) A (getItem (.ref t) (.ref sl)) Q E s:=by
 have z:sizeOk (.seq ((items.toList.drop (sIx items.size 0 lo)).take (sIx items.size items.size hi-sIx items.size 0 lo)).toArray):=by
  show ((items.toList.drop (sIx items.size 0 lo)).take (sIx items.size items.size hi-sIx items.size 0 lo)).toArray.size<=fc;rw[fx,nv,length_drop,js];omega
 have hj:sIx items.size items.size hi<=items.size:=Lj _ _ (dw _) hi;obtain⟨os,af,aa,ag⟩:=id hs;have ae:s.TypeIs (.ref sl) "slice":=⟨os,af,aa⟩;unfold getItem
 try with_reducible refine ku ?_
 first|refine bo (cr ?_)|skip
 refine bo (wpAny_sequenceKey ht.typeIs dz ?_);refine bo (km (name:=nj "__getitem__") ht.typeIs PyProof.Rows.slot_tuple_getitem
  (lr PyProof.Rows.slot_tuple_getitem ht.typeIs entry_tuple_getitem ?_ (args_tuple_getitem _ _)))
 show cv _ _ (Builtin.Tuple.tupleItemsOf (.ref t) >>= _) _ _ s;refine bo (tupleItemsOf_ ht ?_);refine bo (rp ae ?_);rw[cp dz];refine bo (Eb hs pl pu ?_);have ac:¬((((sIx items.size 0 lo:Nat):Int)==0&&(1:Int)==1&&(sIx items.size items.size hi-sIx items.size 0 lo)==items.size)=true):=by
  intro q;rw[jn,jn]at q;have q1:((sIx items.size 0 lo:Nat):Int)=0:=eq_of_beq q.1.1;have q2:sIx items.size items.size hi-sIx items.size 0 lo=items.size:=eq_of_beq q.2;exact hw ⟨yw,yw⟩
 show cv _ _ (if (((sIx items.size 0 lo:Nat):Int)==0&&(1:Int)==1&&(sIx items.size items.size hi-sIx items.size 0 lo)==items.size)=true then _ else _) _ _ s;rw[cf ac,G6]
 first
  |exact bo (m:=Builtin.Tuple.tupleExact _) (jx (cr ⟨_,rfl,cr h⟩) z)
  |exact bo (m:=Builtin.Tuple.tupleExact _) (jx (bo (cr (cr ⟨_,rfl,cr h⟩))) z)
  |exact bo (bo (m:=Builtin.Tuple.tupleExact _) (jx (cr (cr ⟨_,rfl,cr h⟩)) z))
  |exact bo (bo (m:=Builtin.Tuple.tupleExact _) (jx (cr ⟨_,rfl,cr h⟩) z))
end
end HT
namespace L2
open PySem PySem.Spec PyProof.Rows
section
abbrev TO:=St->Hp->(Option Int->Hp->Prop)->Prop
def PO(X:Cx)(e:Option Expr)(t:TO):Prop:=
 ∀(zg:List (Addr×Obj)) (s:bu) (σ:St) (H:Hp) (Q:Option Int->Hp->Prop),Inv X zg σ H s->t σ H Q ->
  cv (model X.prog X.w) X.A (evalPart e X.env) (fun u s'=>∃o H',Inv X zg σ H' s'/\IsPart u o/\Q o H') X.xe s
def Bo:TO:=fun _ H Q=>Q none H
def m6(t:TE):TO:=fun σ H Q=>t σ H fun x H1=>∃i,x=.int i/\Q (some i) H1
theorem kN{ns:List Int}:∀{us:List bn},Vals (ns.map V.int) us->pp us ns:=by
 induction ns with
 |nil=>intro us r;rw[map_nil]at r;cases r;exact .nil
 |cons n ns ih=>
  intro us r;rw[gc]at r;cases r with
  |cons r1 r2=>
   obtain⟨t,e⟩:=r1;subst e;exact .cons n t (ih r2)
section
variable {X:Cx}{e:Expr}{te:TE}{lo hi:Option Expr}{tl th:TO}{pos p2:Pos}
theorem pF:PO X none Bo:=by
 intro zg s σ H Q I h;rw[evalPart_none];exact cr ⟨none,H,I,.none,h⟩
theorem lA(h:PE X e te):PO X (some e) (m6 te):=by
 intro zg s σ H Q I hw;rw[evalPart_some];refine thn (h zg s σ H _ I hw) fun u s1 ⟨x,H1,I1,r1,q1⟩=>?_;obtain⟨i,rfl,q⟩:=q1;obtain⟨t,rfl⟩:=r1;exact⟨some i,H1,I1,.int i t,q⟩
def SlR(X:Cx)(r:V->Option Int->Option Int->Hp->VK->Prop):Prop:=
 ∀(zg:List (Addr×Obj)) (s:bu) (σ:St) (H:Hp) (x:V) (v vl vu:bn) (lo hi:Option Int) (sl:Addr) (Q:VK),Inv X zg σ H s->RelV x v->s.heap.IsSliceOf sl vl vu .none->IsPart vl lo->IsPart vu hi->r x lo hi H Q ->
  ∃T id,typeLookup (.type T) "__getitem__" = pure (some (.builtin id))/\s.TypeIs v T/\cv (model X.prog X.w) X.A (getItem v (.ref sl)) (EP X zg σ Q) X.xe s
theorem SlR.or{r r':V->Option Int->Option Int->Hp->VK->Prop}(h:SlR X r)(h':SlR X r'):SlR X (fun x lo hi H Q=>r x lo hi H Q\/r' x lo hi H Q):=by
 intro zg s σ H x v vl vu lo hi sl Q I rx hs pl pu q;rcases q with q|q
 ·exact h zg s σ H x v vl vu lo hi sl Q I rx hs pl pu q
 ·exact h' zg s σ H x v vl vu lo hi sl Q I rx hs pl pu q
def tSl(r:V->Option Int->Option Int->Hp->VK->Prop)(te:TE)(tl th:TO):TE:=fun σ H Q=>te σ H fun x H1=>tl σ H1 fun l H2=>th σ H2 fun u H3=>r x l u H3 Q
theorem lP{r:V->Option Int->Option Int->Hp->VK->Prop}(hr:SlR X r)(he:PE X e te)(hl:PO X lo tl)(hu:PO X hi th):PE X (.Subscript e (.Slice lo hi none p2) pos) (tSl r te tl th):=by
 intro zg s σ H Q I h;refine Subscript_ (thn (he zg s σ H _ I h) fun v s1 ⟨x,H1,I1,r1,q1⟩=>?_);refine wpAny_Slice (thn (hl zg s1 σ H1 _ I1 q1) fun vl s2 ⟨l,H2,I2,pl,q2⟩=>thn (hu zg s2 σ H2 _ I2 q2) fun vu s3 ⟨u,H3,I3,pu,q3⟩=>?_);rw[evalPart_none];refine cr ?_;have I4:Inv X zg σ H3 { s3 with heap:=s3.heap.push { cls:=.type "slice",data:=.fields #[vl,vu,.none] } }:=I3.kept (t':=s3.toks) fun b ob q=>bw _ q;obtain⟨T,id,hT,ht,hg⟩:=hr zg { s3 with heap:=s3.heap.push { cls:=.type "slice",data:=.fields #[vl,vu,.none] } } σ H3 x v vl vu l u s3.heap.objs.size Q I4 r1 (Heap.IsSliceOf.new ..) pl pu q3;show cv (model X.prog X.w) X.A (subscriptTail e (.Slice lo hi none p2) v (.ref s3.heap.objs.size)) (EP X zg σ Q) X.xe { s3 with heap:=s3.heap.push { cls:=.type "slice",data:=.fields #[vl,vu,.none] } };exact tail_any (ops:=[.ref s3.heap.objs.size,v]) ht hT hg (by with_unfolding_all rfl)
def dM(xs:List V)(lo hi:Option Int):List V:=(xs.drop (HT.sIx xs.length 0 lo)).take (HT.sIx xs.length xs.length hi-HT.sIx xs.length 0 lo)
theorem vK(xs:List V)(lo hi:Option Int):(dM xs lo hi).length<=xs.length:=by
 unfold dM;rw[nv,length_drop];omega
def wC(K:cq):V->Option Int->Option Int->Hp->VK->Prop:=fun x lo hi H Q=>∃a xs,x=.ref a/\SqT K H a xs /\
 ¬(HT.sIx xs.length 0 lo=0/\HT.sIx xs.length xs.length hi=xs.length)/\∀p,H p=none->Q (.ref p) (upd H p (.tup (dM xs lo hi)))
theorem EI:SlR X (wC X.K):=by
 intro zg s σ H x v vl vu lo hi sl Q I rx hs pl pu h;obtain⟨a,xs,rfl,hx,hw,q⟩:=h;cases rx;obtain⟨aa,r,ht,hz⟩:=I.tuple hx;have z:aa.toArray.size=xs.length:=by rw[fx];exact r.length.symm
 refine⟨"tuple",_,PyProof.Rows.slot_tuple_getitem.lookup,ht.typeIs,?_⟩;refine HT.getItem_tuple_cut ht hs pl pu (by rw[z];exact hw) ?_ (by rw[z];exact hz);rw[z];refine⟨.ref s.heap.objs.size,_,I.laid (t':=s.toks) (o:=.tup (dM xs lo hi)) (fun b ob q=>bw _ q) (dw _) ?_,rfl,q _ (I.hok.fresh (dw _))⟩;exact⟨⟨ky (vK xs lo hi) hz,_,fj _ rfl,rfl⟩,_,(r.drop (HT.sIx xs.length 0 lo)).take (HT.sIx xs.length xs.length hi-HT.sIx xs.length 0 lo),IsTup.new _ _⟩
def yU(K:cq):R2:=fun x y H Q=>∃a b xs ys,x=.ref a/\y=.ref b/\SqT K H a xs/\SqT K H b ys/\xs≠[]/\xs.length+ys.length<=fc /\
 (ys=[]->Q (.ref a) H)/\(ys≠[]->∀p,H p=none->Q (.ref p) (upd H p (.tup (xs++ys))))
theorem Vals.nil_iff{xs:List V}{us:List bn}(r:Vals xs us):us=[]↔xs=[]:=by
 cases r with
 |nil=>simp
 |cons _ _=>simp
theorem KH:OpR X (lx .Add) (yU X.K):=by
 intro zg s σ H x y v u Q I rx ry h;obtain⟨a,b,xs,ys,rfl,rfl,ha,hb,hx,hz,q1,q2⟩:=h;cases rx;cases ry;obtain⟨ac,r1,p1,_⟩:=I.tuple ha;obtain⟨aa,r2,p2,_⟩:=I.tuple hb;refine HT.cat_tup p1 p2 (fun z=>hx (r1.nil_iff.mp z)) (fun z=>⟨.ref a,H,I,rfl,q1 (r2.nil_iff.mp z)⟩) (fun z=>?_) (by rw[<- r1.length,<- r2.length];exact hz);refine⟨.ref s.heap.objs.size,_,I.laid (t':=s.toks) (o:=.tup (xs++ys)) (fun b ob q=>bw _ q) (dw _) ?_,rfl,q2 (fun w=>z (r2.nil_iff.mpr w)) _ (I.hok.fresh (dw _))⟩;exact⟨⟨by rw[gu];exact hz,_,fj _ rfl,rfl⟩,_,r1.append r2,IsTup.new _ _⟩
end
end
section
def ixN(n:Nat)(i:Int):Option Nat:=if 0<=i then (if i<n then some i.toNat else none)else if -(n:Int)<=i then some (i+n).toNat else none
def atI{α:Type}(xs:List α)(i:Int):Option α:=(ixN xs.length i).bind fun j=>xs[j]?
theorem B9{n:Nat}{i:Int}{j:Nat}(h:ixN n i=some j):seqIndex? i n=some j/\j<n/\-(n:Int)<=i/\i<n:=by
 unfold ixN at h;by_cases h0:0<=i
 ·rw[cp h0]at h;by_cases h1:i<n
  ·rw[cp h1]at h;have e:i.toNat=j:=gi h;exact⟨by rw[seqIndex_of h0 h1,e],yw,yw,h1⟩
  ·rw[cf h1]at h;cases h
 ·rw[cf h0]at h;by_cases h1:-(n:Int)<=i
  ·rw[cp h1]at h;have e:(i+n).toNat=j:=gi h;exact⟨by rw[seqIndex_neg yw h1,e],yw,h1,yw⟩
  ·rw[cf h1]at h;cases h
theorem yA{α:Type}{xs:List α}{i:Int}{v:α}(h:atI xs i=some v):∃j,seqIndex? i xs.length=some j/\xs[j]?=some v/\j<xs.length/\-(xs.length:Int)<=i/\i<xs.length:=by
 unfold atI at h;cases e:ixN xs.length i with
 |none=>rw[e]at h;cases h
 |some j=>
  rw[e]at h;obtain⟨h1,h2,h3,h4⟩:=B9 e;exact⟨j,h1,h,h2,h3,h4⟩
theorem fR{α:Type}{xs:List α}{j:Nat}{v:α}(h:xs[j]?=some v):atI xs (j:Int)=some v:=by
 have hj:j<xs.length:=(List.getElem?_eq_some_iff.mp h).1;have e:ixN xs.length (j:Int)=some j:=by
  unfold ixN;rw[cp yw,cp yw];simp
 unfold atI;rw[e];exact h
theorem NY{α:Type}(xs:List α)(v:α):atI (xs++[v]) (-1)=some v:=by
 have hl:(xs++[v]).length=xs.length+1:=by simp
 have e:ixN (xs++[v]).length (-1)=some xs.length:=by
  unfold ixN;rw[hl,cf dz,cp yw];congr 1;omega
 unfold atI;rw[e];show (xs++[v])[xs.length]?=some v;simp
def PlainIx(b:Expr):Prop:=∀o i,subscripted b false o i=operate [o,i] (getItem o i)
def IxR(X:Cx)(r:R2):Prop:=
 ∀(value slice:Expr) (zg:List (Addr×Obj)) (s:bu) (σ:St) (H:Hp) (x y:V) (v u:bn) (Q:VK),Inv X zg σ H s->RelV x v->RelV y u->r x y H Q ->
  subscripted slice false v u=operate [v,u] (getItem v u)->cv (model X.prog X.w) X.A (subscriptTail value slice v u) (EP X zg σ Q) X.xe s
def MtR(X:Cx)(id:String)(r:V->List V->Hp->VK->Prop):Prop:=
 ∀(zg:List (Addr×Obj)) (s:bu) (σ:St) (H:Hp) (x:V) (xs:List V) (v:bn) (us:List bn) (Q:VK),Inv X zg σ H s->RelV x v->Vals xs us->r x xs H Q ->
  cv (model X.prog X.w) X.A (call (.builtin id) (v::us)) (EP X zg σ Q) X.xe s
section
variable {X:Cx}{a b:Expr}{ta tb:TE}{pos:Pos}
theorem IxR.or{r r':R2}(h:IxR X r)(h':IxR X r'):IxR X (fun x y H Q=>r x y H Q\/r' x y H Q):=by
 intro value z zg s σ H x y v u Q I rx ry q hs;rcases q with q|q
 ·exact h value z zg s σ H x y v u Q I rx ry q hs
 ·exact h' value z zg s σ H x y v u Q I rx ry q hs
theorem zX{r:R2}(hr:IxR X r)(ha:PE X a ta)(hb:PE X b tb)(hs:PlainIx b):PE X (.Subscript a b pos) (tOp r ta tb):=by
 intro zg s σ H Q I h;exact Subscript_ (vS ha hb I h fun v u s2 x y H2 I2 rx ry q=>hr a b zg s2 σ H2 x y v u Q I2 rx ry q (hs _ _))
def wL(K:cq):R2:=fun x y H Q=>∃p xs i v,x=.ref p/\y=.int i/\SqL K H p xs/\atI xs i=some v/\Q v H
def AQ(K:cq):R2:=fun x y H Q=>∃p xs i v,x=.ref p/\y=.int i/\SqT K H p xs/\atI xs i=some v/\Q v H
def wW:R2:=fun x y H Q=>∃z i c,x=.str z/\y=.int i/\z.length<=fc/\atI z.cps.toList i=some c/\Q (.str ⟨#[c]⟩) H
theorem EE:IxR X (wL X.K):=by
 intro value ac zg s σ H x y v u Q I rx ry h hs;obtain⟨p,xs,i,z,rfl,rfl,hq,he,q⟩:=h;cases rx;obtain⟨t,rfl⟩:=ry;obtain⟨ae,r,pl,hz⟩:=I.list hq;obtain⟨j,h1,h2,h3,h4,h5⟩:=yA he;obtain⟨w,ew,aa⟩:=r.get h2;have hl:=r.length;have hn:=line63;have fin:EP X zg σ Q w s:=⟨z,H,I,aa,q⟩;by_cases h0:0<=i
 ·have hj:i.toNat=j:=by
   rw[seqIndex_of h0 h5]at h1;exact gi h1
  exact item_listR pl.isList h0 yw (by rw[hj];simpa using ew) fin hs
 ·have hj:(i+(ae.toArray.size:Int)).toNat=j:=by
   rw[seqIndex_neg yw h4]at h1;rw[fx,<- hl];exact gi h1
  exact subscriptTail_builtinR (x:=w) pl.isList.typeIs slot_list_getitem.lookup
   (wpAny_getItem_list_neg (Q:=fun r s'=>r=w/\EP X zg σ Q r s') pl.isList yw (by rw[fx]<;>omega) yw (by rw[hj];simpa using ew) ⟨rfl,fin⟩) hs
theorem HU:IxR X (AQ X.K):=by
 intro value ac zg s σ H x y v u Q I rx ry h hs;obtain⟨p,xs,i,z,rfl,rfl,hq,he,q⟩:=h;cases rx;obtain⟨t,rfl⟩:=ry;obtain⟨ae,r,pl,hz⟩:=I.tuple hq;obtain⟨j,h1,h2,h3,h4,h5⟩:=yA he;obtain⟨w,ew,aa⟩:=r.get h2;have hl:=r.length;have hn:=line63;have fin:EP X zg σ Q w s:=⟨z,H,I,aa,q⟩;exact subscriptTail_builtinR (x:=w) pl.typeIs slot_tuple_getitem.lookup
  (getItem_tuple (j:=j) (Q:=fun r s'=>r=w/\EP X zg σ Q r s') pl yw yw (by rw[fx,<- hl];exact h1) (by simpa using ew) ⟨rfl,fin⟩) hs
theorem Ma:IxR X wW:=by
 intro value aa zg s σ H x y v u Q I rx ry h hs;obtain⟨z,i,c,rfl,rfl,hz,he,q⟩:=h;obtain⟨t,rfl⟩:=rx;obtain⟨t',rfl⟩:=ry;obtain⟨j,h1,h2,h3,h4,h5⟩:=yA he;have hl:z.cps.toList.length=z.length:=by simp[Str.length]
 rw[hl]at h1 h4 h5;have hn:=line63;exact tail_any (typeIs_str s z t) slot_str_getitem.lookup (getItem_str (c:=c) (by
  have e1:decide (i < -(2 ^ 63:Int))=false:=gz yw;have e2:decide (i≥2 ^ 63)=false:=gz yw;rw[e1,e2,Bool.or_false]) (by rw[h1];simpa using h2) ⟨.str ⟨#[c]⟩,H,I.tok _,⟨_,rfl⟩,q⟩) hs
def rIx(K:cq):R2:=fun x y H Q=>wL K x y H Q\/AQ K x y H Q\/wW x y H Q
theorem zy:IxR X (rIx X.K):=EE.or (HU.or Ma)
theorem KD(z:List bn)(n j:Nat)(u:bn):jv (·.setIfInBounds j u) { cls:=.type "list",data:=.seq z.toArray n } = { cls:=.type "list",data:=.seq (z.set j u).toArray n }:=by
 simp[jv]
theorem Inv.lst{zg:List (Addr×Obj)}{σ:St}{H:Hp}{s:bu}{p:Addr}{xs:List V}(I:Inv X zg σ H s)(h:H p=some (.lst xs)):
  ∃(aa:List bn) (n:Nat),Vals xs aa/\s.heap.get? p=some { cls:=.type "list",data:=.seq aa.toArray n }/\xs.length<=fc:=by
 obtain⟨z,aa,n,r,e⟩:=I.hok p _ h;exact⟨aa,n,r,e,z⟩
theorem Inv.lstUpd{zg:List (Addr×Obj)}{σ:St}{H:Hp}{s:bu}{p:Addr}{xs ys:List V}{z its':List bn}{n n':Nat}{f:Obj->Obj}(I:Inv X zg σ H s)(h:H p=some (.lst xs))
  (ho:s.heap.get? p=some { cls:=.type "list",data:=.seq z.toArray n }) (hf:f { cls:=.type "list",data:=.seq z.toArray n } = { cls:=.type "list",data:=.seq its'.toArray n' }) (r:Vals ys its') (hz:ys.length<=fc) (t:Nat):
  Inv X zg σ (upd H p (.lst ys)) { s with heap:=s.heap.update p f,toks:=t }:=by
 have e:(s.heap.update p f).get? p=some { cls:=.type "list",data:=.seq its'.toArray n' }:=by
  rw[ls f ho (by rw[hf]<;>rfl),hf]
 refine I.write (x:=p) (e:=p) (by rw[h];trivial) (.inl rfl) (fun b u hb q=>(jh _ _ (im hb)).trans q) ⟨_,e⟩ ?_;exact⟨hz,its',n',r,e⟩
def GI:V->V->V->Hp->(Hp->Prop)->Prop:=fun o i v H Q=>∃p xs k j,o=.ref p/\i=.int k/\H p=some (.lst xs)/\ixN xs.length k=some j/\Q (upd H p (.lst (xs.set j v)))
theorem EU:PSet X GI:=by
 intro zg s σ H o i v ov iv u Q I ro ri rv h;obtain⟨p,xs,k,j,rfl,rfl,hp,hj,q⟩:=h;cases ro;obtain⟨t,rfl⟩:=ri;obtain⟨z,n,r,ho,hz⟩:=I.lst hp;obtain⟨h1,h2,h3,h4⟩:=B9 hj;have hl:=r.length;have hn:=line63;have I':Inv X zg σ (upd H p (.lst (xs.set j v))) { s with heap:=s.heap.update p (jv (·.setIfInBounds j u)) } :=
  I.lstUpd hp ho (KD z n j u) (r.set rv j) (by rw[length_set];exact hz) s.toks
 by_cases h0:0<=k
 ·have hk:k.toNat=j:=by
   rw[seqIndex_of h0 h4]at h1;exact gi h1
  exact W.ki_setAt ho h0 yw (by rw[fx,<- hl];exact h4) (by rw[hk];exact⟨_,I',q⟩)
 ·have hk:(k+(z.toArray.size:Int)).toNat=j:=by
   rw[seqIndex_neg yw h3]at h1;rw[fx,<- hl];exact gi h1
  exact W.ki_setBack ho yw (by rw[fx,<- hl];exact h3) yw (by rw[hk];exact⟨_,I',q⟩)
theorem ND(lo hi:Option Int)(n:Nat):(sy lo hi none n).1=((HT.sIx n 0 lo:Nat):Int)/\(sy lo hi none n).2.1=((HT.sIx n n hi:Nat):Int)/\(sy lo hi none n).2.2=1:=by
 refine⟨?_,?_,rfl⟩
 ·cases lo with
  |none=>simp[sy,HT.sIx]
  |some i=>
   simp only[sy,HT.sIx,Option.getD_none,show (1:Int)>0 by decide,if_true];by_cases h:i<0
   ·simp only[h,if_true]<;>omega
   ·simp only[h,if_false]<;>omega
 ·cases hi with
  |none=>simp[sy,HT.sIx]
  |some i=>
   simp only[sy,HT.sIx,Option.getD_none,show (1:Int)>0 by decide,if_true];by_cases h:i<0
   ·simp only[h,if_true]<;>omega
   ·simp only[h,if_false]<;>omega
theorem KL(z:List bn)(lo hi:Option Int):slicePick z.toArray lo hi none=((z.drop (HT.sIx z.length 0 lo)).take (HT.sIx z.length z.length hi-HT.sIx z.length 0 lo)).toArray:=by
 obtain⟨h1,h2,h3⟩:=ND lo hi z.toArray.size;unfold slicePick;rw[h1,h2,h3];simp only[sliceRange_one,pick_run,fx]<;>rfl
def oB(K:cq):V->Option Int->Option Int->Hp->VK->Prop:=fun x lo hi H Q=>∃a xs,x=.ref a/\SqL K H a xs/\∀p,H p=none->Q (.ref p) (upd H p (.lst (dM xs lo hi)))
theorem DZ:SlR X (oB X.K):=by
 intro zg s σ H x v vl vu lo hi sl Q I rx hs pl pu h;obtain⟨a,xs,rfl,hx,q⟩:=h;cases rx;obtain⟨aa,r,ht,hz⟩:=I.list hx;have z:=r.length;refine⟨"list",_,slot_list_getitem.lookup,ht.isList.typeIs,?_⟩;refine wpAny_getItem_list_slice ht.isList hs pl pu .none yv ?_ (by rw[fx]<;>omega);rw[KL,<- z];refine⟨.ref s.heap.objs.size,_,I.laid (t':=s.toks) (o:=.lst (dM xs lo hi)) (fun b ob q=>bw _ q) (dw _) ?_,rfl,q _ (I.hok.fresh (dw _))⟩;exact⟨ky (vK xs lo hi) hz,_,0,(r.drop (HT.sIx xs.length 0 lo)).take (HT.sIx xs.length xs.length hi-HT.sIx xs.length 0 lo),fj _ rfl⟩
theorem Bn:CallR X (.builtin "len") (fun xs H Q=>∃p ys,xs=[.ref p]/\(SqL X.K H p ys\/SqT X.K H p ys)/\Q (.int ys.length) H):=by
 intro zg s σ H xs us Q I r h;obtain⟨p,ys,rfl,hq,q⟩:=h;obtain⟨u,rfl,rx⟩:=vals1 r;cases rx;have hn:=line63;rcases hq with hq|hq
 ·obtain⟨aa,r',pl,hz⟩:=I.list hq;have z:=r'.length;exact Calls.call_len_list pl.isList (by simp only[fx]<;>omega) ⟨.int ys.length,H,I.tok _,⟨s.toks+1,by rw[fx,z]⟩,q⟩
 ·obtain⟨aa,r',pl,hz⟩:=I.tuple hq;have z:=r'.length;exact len_tuple pl (by simp only[fx]<;>omega) ⟨.int ys.length,H,I.tok _,⟨s.toks+1,by rw[fx,z]⟩,q⟩
theorem JW:CallR X (.builtin "len") (fun xs H Q=>∃z,xs=[.str z]/\z.length<=fc/\Q (.int z.length) H):=by
 intro zg s σ H xs us Q I r h;obtain⟨z,rfl,hz,q⟩:=h;obtain⟨u,rfl,t,rfl⟩:=vals1 r;have hn:=line63;exact len_str yw ⟨.int z.length,H,I.tok _,⟨_,rfl⟩,q⟩
theorem CallR.or{f:bn}{r r':List V->Hp->VK->Prop}(h:CallR X f r)(h':CallR X f r'):CallR X f (fun xs H Q=>r xs H Q\/r' xs H Q):=by
 intro zg s σ H xs us Q I rs q;rcases q with q|q
 ·exact h zg s σ H xs us Q I rs q
 ·exact h' zg s σ H xs us Q I rs q
theorem wJ:CallR X (.type "tuple") (fun xs H Q=>∃p ys,xs=[.ref p]/\((SqL X.K H p ys/\∀l,H l=none->Q (.ref l) (upd H l (.tup ys)))\/(SqT X.K H p ys/\Q (.ref p) H))):=by
 intro zg s σ H xs us Q I r h;obtain⟨p,ys,rfl,h⟩:=h;obtain⟨u,rfl,rx⟩:=vals1 r;cases rx;rcases h with ⟨hq,q⟩|⟨hq,q⟩
 ·obtain⟨z,r',pl,hz⟩:=I.list hq;have aa:=r'.length;refine call_tuple_list pl.isList (fun h' kp=>?_) (by simp only[fx]<;>omega);have I1:Inv X zg σ H { s with heap:=h' }:=I.kept (t':=s.toks) kp;have I2:Inv X zg σ (upd H h'.objs.size (.tup ys)) { s with heap:=h'.push { cls:=.type "tuple",data:=.seq z.toArray } } :=
   I1.laid (t':=s.toks) (fun b o e=>bw _ e) (dw _) (show ObjOk X.prog X.w _ _ _ (.tup ys)from⟨⟨hz,_,fj _ rfl,rfl⟩,z,r',IsTup.new _ _⟩)
  exact⟨.ref h'.objs.size,_,I2,rfl,q _ (I1.hok.fresh (dw _))⟩
 ·obtain⟨z,r',pl,hz⟩:=I.tuple hq;exact call_tuple_same pl ⟨.ref p,H,I,rfl,q⟩
def tyV(K:cq)(T:String)(x:V)(H:Hp):Prop:=match x with
 | .str _=>T = "str"
 | .int _=>T = "int"
 | .ref p=>(T = "list"/\∃xs,SqL K H p xs)\/(T = "tuple"/\∃o,K.lookup p=some o/\o.cls=.type "tuple"/\o.dict=none) \/
   (T = "dict"/\((∃kvs,H p=some (.dK kvs))\/∃kvs,H p=some (.dT kvs)))\/(T = "set"/\∃S n,H p=some (.set S n))
 |_=>False
theorem Do{zg:List (Addr×Obj)}{σ:St}{H:Hp}{s:bu}{T:String}{x:V}{v:bn}(I:Inv X zg σ H s)(r:RelV x v)(ty:tyV X.K T x H):
  s.TypeIs v T/\∀a,v=.ref a->∃ob,s.heap.get? a=some ob/\ob.dict=none:=by
 cases x with
 |str z=>
  obtain⟨t,rfl⟩:=r;cases (show T = "str" from ty);exact⟨typeIs_str s z t,fun _ e=>nomatch e⟩
 |int i=>
  obtain⟨t,rfl⟩:=r;cases (show T = "int" from ty);exact⟨typeIs_int s i t,fun _ e=>nomatch e⟩
 |ref p=>
  cases r;rcases ty with ⟨rfl,xs,hq⟩|⟨rfl,o,hk,hc,hd⟩|⟨rfl,hk⟩|⟨rfl,S,n,hk⟩
  ·obtain⟨aa,_,pl,_⟩:=I.list hq;refine⟨pl.isList.typeIs,fun a e=>?_⟩;cases e;obtain⟨o,n,e,c,hd,_⟩:=pl;exact⟨o,e,hd⟩
  ·refine⟨⟨o,I.kIn p o hk,hc⟩,fun a e=>?_⟩;cases e;exact⟨o,I.kIn _ o hk,hd⟩
  ·have z:∃o,s.heap.get? p=some o/\o.ExactDict:=by
    rcases hk with ⟨kvs,hk⟩|⟨kvs,hk⟩
    ·obtain⟨_,_,_,_,o,_,_,e,ex,_⟩:=I.hok p _ hk;exact⟨o,e,ex⟩
    ·obtain⟨_,_,_,_,o,_,_,e,ex,_⟩:=I.hok p _ hk;exact⟨o,e,ex⟩
   obtain⟨o,e,ex⟩:=z;refine⟨⟨o,e,ex.1⟩,fun a e2=>?_⟩;cases e2;exact⟨o,e,ex.2.1⟩
  ·obtain⟨o,_,_,_,e,ex,_⟩:=I.hok p _ hk;refine⟨⟨o,e,ex.1⟩,fun a e2=>?_⟩;cases e2;exact⟨o,e,ex.2.1⟩
 |_=>exact iu ty
def Ar(K:cq)(T:String)(r:V->List V->Hp->VK->Prop)(to:TE):TE:=fun σ H Q=>to σ H fun x H1=>tyV K T x H1/\r x [] H1 Q
def tBM(K:cq)(T:String)(r:V->List V->Hp->VK->Prop)(to:TE)(t:TA):TE:=fun σ H Q=>to σ H fun x H1=>tyV K T x H1/\t σ H1 fun xs H2=>r x xs H2 Q
variable {o e:Expr}{es:List Expr}{to:TE}{t:TA}{name:Str}{apos cpos:Pos}{T id:String}{r:V->List V->Hp->VK->Prop}
theorem B3(pa:PlainAttrs T)(slot:Slot T name id)(z:typeOf (.builtin id)=pure (.type "method_descriptor"))(hm:MtR X id r)(ho:PE X o to)
  (hbase:pk o name X.env (eval o X.env)=eval o X.env:=by rfl) (hline:(apos.endLine==cpos.line)=true:=by rfl):PE X (.Call (.Attribute o name apos) [] [] cpos) (Ar X.K T r to):=by
 intro zg s σ H Q I h;refine wpAny_Call_method0_late hbase hline (thn (ho zg s σ H _ I h) fun v s1 ⟨x,H1,I1,r1,ty,q1⟩=>?_);obtain⟨h1,h2⟩:=Do I1 r1 ty;exact⟨T,id,pa,slot,z,h1,h2,Calls.callWith_builtin rfl (PySem.evalArgs_none (hm zg s1 σ H1 x [] v [] Q I1 r1 .nil q1))⟩
theorem jZ(pa:PlainAttrs T)(slot:Slot T name id)(z:typeOf (.builtin id)=pure (.type "method_descriptor"))(hm:MtR X id r)(ho:PE X o to)(ha:PA X (e::es) t)
  (hbase:pk o name X.env (eval o X.env)=eval o X.env:=by rfl)
  (hfew:((ph cpos (fk (e::es) X.env)).all (fun x=>!x.1)&&(backToKw cpos (keywordEach [] X.env)).all (fun x=>x.1.isSome)
   && decide ((e::es).length+([]:List Keyword).length+(if ([]:List Keyword).isEmpty then 0 else 1)<30))=true:=by rfl)
  (hline:(apos.endLine==cpos.line)=true:=by rfl) (hs:fk (e::es) X.env=(false,eval e X.env)::fk es X.env:=by rfl) (hplain:(ph cpos (fk es X.env)).any (·.1)=false:=by rfl):
  PE X (.Call (.Attribute o name apos) (e::es) [] cpos) (tBM X.K T r to t):=by
 intro zg s σ H Q I h;refine wpAny_Call_method_late hbase hfew hline rfl (thn (ho zg s σ H _ I h) fun v s1 ⟨x,H1,I1,r1,ty,q1⟩=>?_);obtain⟨h1,h2⟩:=Do I1 r1 ty;refine⟨T,id,pa,slot,z,h1,h2,?_⟩;have hA:=ha cpos zg s1 σ H1 _ I1 q1;rw[hs]at hA ⊢;refine Calls.callWith_builtin (by show (false||(ph cpos (fk es X.env)).any (·.1))=false;rw[hplain]<;>rfl) (Calls.evalArgs_plain ?_);exact thn hA fun us s2 ⟨vs,H2,I2,r2,q2⟩=>hm zg s2 σ H2 x vs v us Q I2 r1 r2 q2
end
end
section
def MtM(X:Cx)(id:String)(r:V->List V->Hp->VK->Prop):Prop:=
 ∀(zg:List (Addr×Obj)) (s:bu) (σ:St) (H:Hp) (x:V) (xs:List V) (v:bn) (us:List bn) (Q:VK),Inv X zg σ H s->RelV x v->Vals xs us->r x xs H Q ->
  cv (model X.prog X.w) X.A (call (.builtin id) (v::us)) (EP X zg σ Q) X.xe s
theorem Vals.one:∀{x:V}{us:List bn},Vals [x] us->∃u,us=[u]/\RelV x u
 |_,_,.cons r .nil=>⟨_,rfl,r⟩
theorem Vals.zero:∀{us:List bn},Vals [] us->us=[]
 |_,.nil=>rfl
theorem Vals.reverse{xs:List V}{us:List bn}(h:Vals xs us):Vals xs.reverse us.reverse:=by
 induction h with
 |nil=>exact .nil
 |cons r t ih=>rw[reverse_cons,reverse_cons];exact Vals.append ih (.cons r .nil)
theorem Vals.rep{xs:List V}{us:List bn}(h:Vals xs us):∀k:Nat,Vals (bx k xs).flatten (bx k us).flatten
 | 0=>.nil
 |k+1=>by
  rw[qe,qe,flatten_cons,flatten_cons];exact Vals.append h (Vals.rep h k)
theorem Dc(z:List bn):∀(k:Nat) (acc:List bn),
  qh (fun x1 x2=>x1++x2) acc.toArray (bx k z.toArray)=(acc++(bx k z).flatten).toArray
 | 0,acc=>by simp
 |k+1,acc=>by
  have e:acc.toArray++z.toArray=(acc++z).toArray:=by simp
  have e2:(acc++z)++(bx k z).flatten=acc++(bx (k+1) z).flatten:=by
   rw[qe,flatten_cons,ig]
  rw[<- e2,<- Dc z k (acc++z),<- e,qe,su]
section
variable {X:Cx}{zg:List (Addr×Obj)}{σ:St}{H:Hp}{s:bu}{l b:Addr}{xs ys zs:List V}
theorem Inv.lset{z its':List bn}{n:Nat}{f:Array bn->Array bn}{t':Nat}(I:Inv X zg σ H s)(hH:H l=some (.lst xs))
  (e:s.heap.get? l=some { cls:=.type "list",data:=.seq z.toArray n }) (hf:f z.toArray=its'.toArray) (hv:Vals ys its') (hz:ys.length<=fc):
  Inv X zg σ (upd H l (.lst ys)) { s with heap:=s.heap.update l (jv f),toks:=t' }:=by
 have q:=PySem.IsL.update e f;rw[hf]at q;refine I.write (x:=l) (e:=l) (by rw[hH];exact trivial) (.inl rfl) (fun b' u hb hu=>(jh s.heap (jv f) (im hb)).trans hu) ⟨_,q⟩ ?_;exact⟨hz,its',_,hv,q⟩
theorem Inv.lnew{z:List bn}{t':Nat}(I:Inv X zg σ H s)(hv:Vals ys z)(hz:ys.length<=fc):
  Inv X zg σ (upd H s.heap.objs.size (.lst ys)) { s with heap:=s.heap.push { cls:=.type "list",data:=.seq z.toArray },toks:=t' } :=
 I.laid (fun _ _ q=>bw _ q) (dw _) ⟨hz,z,0,hv,fj _ rfl⟩
theorem Inv.fresh(I:Inv X zg σ H s):H s.heap.objs.size=none:=I.hok.fresh (dw _)
theorem Inv.lstM(I:Inv X zg σ H s)(hH:H l=some (.lst xs)):xs.length<=fc/\∃(aa:List bn) (n:Nat),Vals xs aa/\xs.length=aa.length/\s.heap.get? l=some { cls:=.type "list",data:=.seq aa.toArray n }:=by
 obtain⟨z,aa,n,r,e⟩:=I.hok l _ hH;exact⟨z,aa,n,r,r.length,e⟩
theorem MM{n:Nat}(h:n<=fc):Builtin.List.listTooLong n=false:=by
 unfold Builtin.List.listTooLong;exact gz yw
end
section
variable {X:Cx}
def GT:V->List V->Hp->VK->Prop:=fun x vs H Q=>∃l xs y,x=.ref l/\vs=[y]/\H l=some (.lst xs)/\xs.length<fc/\Q .non (upd H l (.lst (xs++[y])))
theorem qI:MtM X "list.append" GT:=by
 intro zg s σ H x vs v us Q I rx rv h;obtain⟨l,xs,y,rfl,rfl,hH,hz,q⟩:=h;cases rx;obtain⟨u,rfl,ru⟩:=rv.one;obtain⟨z,aa,n,r,hl,e⟩:=I.lstM hH;refine call_meets F.slot_list_append ⟨_,e,rfl⟩ F.entry_list_append (F.args_list_append_2 _ _) (PySem.list_append l aa.toArray n u (by rw[fx];omega)) ⟨e,?_⟩;refine⟨.non,_,I.lset (its':=aa++[u]) hH e yv (r.append (.cons ru .nil)) ?_,rfl,q⟩;rw[gu,jt];omega
def E4:V->List V->Hp->VK->Prop:=fun x vs H Q=>∃l xs,x=.ref l/\vs=[]/\H l=some (.lst xs)/\Q .non (upd H l (.lst xs.reverse))
theorem Ac:MtM X "list.reverse" E4:=by
 intro zg s σ H x vs v us Q I rx rv h;obtain⟨l,xs,rfl,rfl,hH,q⟩:=h;cases rx;have ac:=rv.zero;subst ac;obtain⟨z,aa,n,r,hl,e⟩:=I.lstM hH;refine call_meets F.slot_list_reverse ⟨_,e,rfl⟩ F.entry_list_reverse (F.args_list_reverse_1 _) (AutoSeq1.list_reverse_list_0 l aa.toArray n (by rw[fx];omega)) ⟨e,?_⟩;refine⟨.non,_,I.lset (its':=aa.reverse) hH e yv r.reverse ?_,rfl,q⟩;rw[List.length_reverse];omega
def lK:R2:=fun x y H Q=>∃l b xs zs,x=.ref l/\y=.ref b/\H l=some (.lst xs)/\H b=some (.lst zs)/\xs.length+zs.length<=fc/\∀p,H p=none->Q (.ref p) (upd H p (.lst (xs++zs)))
theorem wD:OpR X (lx .Add) lK:=by
 intro zg s σ H x y v u Q I rx ry h;obtain⟨l,b,xs,zs,rfl,rfl,hH,hB,hz,q⟩:=h;cases rx;cases ry;obtain⟨z,ac,n,r,hl,e⟩:=I.lstM hH;obtain⟨z2,aa,n2,r2,ae,e2⟩:=I.lstM hB;refine PySem.P.add_list e e2 ?_ (by rw[fx,fx];omega);have ea:ac.toArray++aa.toArray=(ac++aa).toArray:=by simp
 rw[ea];exact⟨.ref _,_,I.lnew (t':=s.toks) (r.append r2) (by rw[gu];omega),rfl,q _ I.fresh⟩
def Cw:R2:=fun x y H Q=>∃l k xs,x=.ref l/\y=.int k/\H l=some (.lst xs)/\-(2 ^ 63)<=k/\k<2 ^ 63/\xs.length*k.toNat<=fc /\
 ∀p,H p=none->Q (.ref p) (upd H p (.lst (bx k.toNat xs).flatten))
theorem KZ{α:Type}(xs:List α)(k:Nat):(bx k xs).flatten.length=k*xs.length:=by
 induction k with
 |zero=>simp
 |succ k ih=>rw[qe,flatten_cons,gu,ih,Nat.succ_mul,Nat.add_comm]
theorem Jm:OpR X (lx .Mult) Cw:=by
 intro zg s σ H x y v u Q I rx ry h;obtain⟨l,k,xs,rfl,rfl,hH,h1,h2,hz,q⟩:=h;cases rx;obtain⟨t,rfl⟩:=ry;obtain⟨z,aa,n,r,hl,e⟩:=I.lstM hH;have ag:aa.toArray.size*k.toNat<=fc:=by rw[fx,<- hl];exact hz
 have ah:¬ aa.toArray.size*k.toNat>(2 ^ 63-1)/8:=by
  have:(fc:Nat)<=(2 ^ 63-1)/8:=by decide
  omega
 have af:¬(!Builtin.List.listFitsIndex k)=true:=by
  rw[fitsIndex_both h1 h2];exact jk
 have ac:¬ Builtin.List.listTooLong (aa.toArray.size*k.toNat)=true:=by
  rw[MM ag];exact jk
 have ae:qh (fun x1 x2=>x1++x2) #[] (bx (if aa.toArray.isEmpty=true then 0 else k.toNat) aa.toArray)=(bx k.toNat aa).flatten.toArray:=by
  have f0:∀m:Nat,qh (fun x1 x2=>x1++x2) #[] (bx m aa.toArray)=(bx m aa).flatten.toArray:=fun m=>by
   have:=Dc aa m [];rw[nil_append]at this;exact this
  rw[f0];cases aa with
  |nil=>simp
  |cons a r'=>rw[cf yv]
 refine wpAny_binaryOp_repeat_ref (T:="list") (U:="int") dz ⟨_,e,rfl⟩ (fun s'=>typeIs_int s' k t) noFill_list_mul F.fills_int_mul F.slot_int_rmul repeat_list F.slot_int_index.lookup
  (call_meets F.slot_int_rmul (typeIs_int s k t) F.entry_int_rmul (F.args_int_rmul_2 _ _) (int___rmul___int_list k t l aa.toArray n)
   ⟨e,rfl,⟨_,e,rfl⟩,call_meets F.slot_list_mul ⟨_,e,rfl⟩ F.entry_list_mul (F.args_list_mul_2 _ _) (AutoListH.list___mul___list_int_3 l aa.toArray n k t af ah ac) ⟨e,?_⟩⟩)
 rw[ae];exact⟨.ref _,_,I.lnew (t':=s.toks) (r.rep k.toNat) (by rw[KZ,Nat.mul_comm];exact hz),rfl,q _ I.fresh⟩
end
end
section
section
variable {κ:Type} [DecidableEq κ]
def eO(kvs:List (κ×V))(k:κ):Option V:=(kvs.find? fun kv=>decide (kv.1=k)).map (·.2)
def aZ(kvs:List (κ×V))(k:κ)(v:V):List (κ×V):=
 if (kvs.any fun kv=>decide (kv.1=k))=true then kvs.map (fun kv=>if kv.1=k then (kv.1,v)else kv)else kvs++[(k,v)]
theorem tO{p:κ×V}{r:List (κ×V)}{k:κ}(e:p.1=k):eO (p::r) k=some p.2:=by simp[eO,find?_cons,e]
theorem r9{p:κ×V}{r:List (κ×V)}{k:κ}(e:¬ p.1=k):eO (p::r) k=eO r k:=by simp[eO,find?_cons,e]
theorem Dr(k:κ):∀kvs:List (κ×V),(kvs.any fun kv=>decide (kv.1=k))=(eO kvs k).isSome
 | []=>rfl
 |p::r=>by
  rw[any_cons];by_cases e:p.1=k
  ·simp only[tO e,ke e,Bool.true_or,Option.isSome_some]
  ·rw[r9 e,gz e,Bool.false_or];exact Dr k r
theorem yQ(kvs:List (κ×V))(k:κ)(v:V):(aZ kvs k v).length<=kvs.length+1:=by
 unfold aZ;split
 ·rw[gh];omega
 ·rw[gu,fy,length_nil];omega
theorem RelO.isSome_eq{o:Option V}{u:Option bn}(r:RelO o u):o.isSome=u.isSome:=by
 cases o with
 |none=>cases u with
  |none=>rfl
  |some _=>exact(show False from r).elim
 |some _=>cases u with
  |none=>exact(show False from r).elim
  |some _=>rfl
theorem RelO.getD{o:Option V}{u:Option bn}{d:V}{d':bn}(r:RelO o u)(rd:RelV d d'):RelV (o.getD d) (u.getD d'):=by
 cases o with
 |none=>cases u with
  |none=>exact rd
  |some _=>exact(show False from r).elim
 |some _=>cases u with
  |none=>exact(show False from r).elim
  |some _=>exact r
theorem KV.val{kvs:List (κ×V)}{vs:List (κ×bn)}(r:KV kvs vs)(k:κ):RelO (eO kvs k) (valueAt vs k):=by
 unfold KV at r;induction r with
 |nil=>exact kz
 | @cons p q ps qs h t ih=>
  obtain⟨h1,h2⟩:=h;by_cases e:p.1=k
  ·have e':q.1=k:=h1.symm.trans e;have b:valueAt (q::qs) k=some q.2:=by simp[valueAt,find?_cons,e']
   rw[tO e,b];exact h2
  ·have e':¬ q.1=k:=fun z=>e (h1.trans z);have b:valueAt (q::qs) k=valueAt qs k:=by simp[valueAt,find?_cons,e']
   rw[r9 e,b];exact ih
theorem KV.any{kvs:List (κ×V)}{vs:List (κ×bn)}(r:KV kvs vs)(k:κ):(kvs.any fun kv=>decide (kv.1=k))=vs.any fun kv=>decide (kv.1=k):=by
 unfold KV at r;induction r with
 |nil=>rfl
 |cons h t ih=>rw[any_cons,any_cons,ih,h.1]
theorem KV.repl{kvs:List (κ×V)}{vs:List (κ×bn)}(r:KV kvs vs)(k:κ){y:V}{u:bn}(ry:RelV y u):
  KV (kvs.map fun kv=>if kv.1=k then (kv.1,y)else kv) (vs.map fun kv=>if kv.1=k then (kv.1,u)else kv):=by
 unfold KV at r ⊢;induction r with
 |nil=>exact .nil
 | @cons p q ps qs h t ih=>
  rw[gc,gc];refine .cons ?_ ih;obtain⟨h1,h2⟩:=h;by_cases e:p.1=k
  ·rw[cp e,cp (h1.symm.trans e)];exact⟨h1,ry⟩
  ·rw[cf e,cf (fun z=>e (h1.trans z))];exact⟨h1,h2⟩
theorem KV.put{kvs:List (κ×V)}{vs:List (κ×bn)}(r:KV kvs vs)(k:κ){y:V}{u:bn}(ry:RelV y u):KV (aZ kvs k y) (stored vs k u):=by
 unfold aZ stored;rw[r.any k];by_cases e:(vs.any fun kv=>decide (kv.1=k))=true
 ·rw[cp e,cp e];exact r.repl k ry
 ·rw[cf e,cf e];exact Paired.snoc r ⟨rfl,ry⟩
theorem KV.length{kvs:List (κ×V)}{vs:List (κ×bn)}(r:KV kvs vs):kvs.length=vs.length:=Paired.length r
end
theorem lC{P:fg}{w:gg}{k:Key}{u:bn}(r:RelV (kV k) u):(aW P w).is k u=true:=by
 cases k with
 |inl i=>obtain⟨t,e⟩:=(show ∃t,u=rn i t from r);subst e;exact JI P w i t
 |inr x=>obtain⟨t,e⟩:=(show ∃t,u=Value.str x t from r);subst e;exact II P w x t
theorem Fa{P:fg}{w:gg}:∀{ks:List Key}{us:List bn},Vals (ks.map kV) us->ItemsAre (aW P w) ks us
 | [],_,r=>by rw[map_nil]at r;cases r;exact .nil
 |k::ks,_,r=>by
  rw[gc]at r;cases r with
  |cons h t=>exact .cons (lC h) (Fa t)
abbrev KT (H:Hp):List (List Key×V)->List (List Key×Addr×bn)->Prop:=Paired fun p q=>p.1=q.1/\H q.2.1=some (.tup (p.1.map kV))/\RelV p.2 q.2.2
theorem KT.val{H:Hp}{kvs:List (List Key×V)}{xs:List (List Key×Addr×bn)}(r:KT H kvs xs)(k:List Key):RelO (eO kvs k) ((atKey xs k).map (·.2)):=by
 induction r with
 |nil=>exact kz
 | @cons p q ps qs h t ih=>
  obtain⟨h1,_,h2⟩:=h;by_cases e:p.1=k
  ·have e':q.1=k:=h1.symm.trans e;have b:atKey (q::qs) k=some q.2:=by simp[atKey,find?_cons,e']
   rw[tO e,b];exact h2
  ·have e':¬ q.1=k:=fun z=>e (h1.trans z);have b:atKey (q::qs) k=atKey qs k:=by simp[atKey,find?_cons,e']
   rw[r9 e,b];exact ih
theorem KT.repl{H:Hp}{kvs:List (List Key×V)}{xs:List (List Key×Addr×bn)}(r:KT H kvs xs)(k:List Key){y:V}{u:bn}(ry:RelV y u):
  KT H (kvs.map fun kv=>if kv.1=k then (kv.1,y)else kv) (xs.map (putAt k u)):=by
 induction r with
 |nil=>exact .nil
 | @cons p q ps qs h t ih=>
  rw[gc,gc];refine .cons ?_ ih;obtain⟨h1,h2,h3⟩:=h;unfold putAt;by_cases e:p.1=k
  ·rw[cp e,cp (h1.symm.trans e)];exact⟨h1,h2,ry⟩
  ·rw[cf e,cf (fun z=>e (h1.trans z))];exact⟨h1,h2,h3⟩
theorem KT.put{H:Hp}{kvs:List (List Key×V)}{xs:List (List Key×Addr×bn)}(r:KT H kvs xs)(k:List Key){b:Addr}{y:V}{u:bn}(hb:H b=some (.tup (k.map kV)))(ry:RelV y u):
  KT H (aZ kvs k y) (storedH xs k b u):=by
 have e:(kvs.any fun kv=>decide (kv.1=k))=(atKey xs k).isSome:=by
  rw[Dr,(r.val k).isSome_eq,isSome_map]
 unfold aZ storedH;rw[e];by_cases q:(atKey xs k).isSome=true
 ·rw[cp q,cp q];exact r.repl k ry
 ·rw[cf q,cf q];exact Paired.snoc r ⟨rfl,hb,ry⟩
theorem KT.keeps{H H':Hp}{kvs:List (List Key×V)}{xs:List (List Key×Addr×bn)}(r:KT H kvs xs)(ht:∀b ys,H b=some (.tup ys)->H' b=some (.tup ys)):KT H' kvs xs:=
 Paired.mapP r fun _ _ z=>⟨z.1,ht _ _ z.2.1,z.2.2⟩
section
variable {P:fg}{w:gg}{H:Hp}{h:Heap}{a:Addr}
theorem B8{u:HO}(ok:HOk P w H h)(e:Rd H a u):ObjOk P w H h a u:=e.ok ok
theorem mF{kvs:List (Key×V)}(ok:HOk P w H h)(e:Rd H a (.dK kvs)):kvs.length<=fc/\(a==kx)=false/\∃vs,KV kvs vs/\h.DictOf (aW P w) a vs:=
 show ObjOk P w H h a (.dK kvs)from B8 ok e
theorem FO{kvs:List (Key×V)}(ok:HOk P w H h)(e:H a=some (.dK kvs)):kvs.length<=fc/\(a==kx)=false/\∃vs,KV kvs vs/\h.DictOf (aW P w) a vs:=mF ok (.inl e)
theorem oG{ks:List Key}(ok:HOk P w H h)(e:H a=some (.tup (ks.map kV))):(tupleKind (aW P w)).is h ks a:=by
 obtain⟨_,z,r,o,h1,h2,n,h3⟩:=(show ObjOk P w H h a (.tup (ks.map kV))from ok a _ e);exact⟨o,z.toArray,n,h1,h2,h3,by simpa using Fa r⟩
theorem mJ{kvs:List (List Key×V)}(ok:HOk P w H h)(e:Rd H a (.dT kvs)):kvs.length<=fc/\(a==kx)=false /\
  ∃xs,KT H kvs xs/\h.DictOfH (tupleKind (aW P w)) a xs:=by
 obtain⟨z,y,xs,r,o,es,ep,h1,h2,h3,h4,h5⟩:=(show ObjOk P w H h a (.dT kvs)from B8 ok e);refine⟨z,y,xs,r,o,es,ep,h1,h2,h3,h4,fun x hx=>?_,h5⟩;have all:∀{l:List (List Key×V)}{m:List (List Key×Addr×bn)},KT H l m->∀x∈m,(tupleKind (aW P w)).is h x.1 x.2.1:=by
  intro l m q;induction q with
  |nil=>intro x hx;exact nomatch hx
  | @cons p q ps qs hq t ih=>
   intro x hx;rcases mem_cons.mp hx with e|hx
   ·subst e;exact oG ok (by rw[<- hq.1];exact hq.2.1)
   ·exact ih x hx
 exact all r x hx
theorem G1{kvs:List (List Key×V)}(ok:HOk P w H h)(e:H a=some (.dT kvs)):kvs.length<=fc/\(a==kx)=false /\
  ∃xs,KT H kvs xs/\h.DictOfH (tupleKind (aW P w)) a xs:=mJ ok (.inl e)
end
def DGet(H:Hp)(a:Addr)(y:V)(r:Option V):Prop:=
 (∃kvs k,Rd H a (.dK kvs)/\y=kV k/\r=eO kvs k)\/∃kvs k b,Rd H a (.dT kvs)/\y=.ref b/\H b=some (.tup (k.map kV))/\r=eO kvs k
def DPut(H:Hp)(a:Addr)(y v:V)(H':Hp):Prop:=
 (∃kvs k,H a=some (.dK kvs)/\y=kV k/\kvs.length<fc/\H'=upd H a (.dK (aZ kvs k v))) \/
 ∃kvs k b,H a=some (.dT kvs)/\y=.ref b/\H b=some (.tup (k.map kV))/\kvs.length<fc/\H'=upd H a (.dT (aZ kvs k v))
theorem DPut.k{H:Hp}{a:Addr}{kvs:List (Key×V)}{k:Key}{v:V}(e:H a=some (.dK kvs))(hl:kvs.length<fc):DPut H a (kV k) v (upd H a (.dK (aZ kvs k v))):=.inl ⟨kvs,k,e,rfl,hl,rfl⟩
theorem DPut.t{H:Hp}{a b:Addr}{kvs:List (List Key×V)}{k:List Key}{v:V}(e:H a=some (.dT kvs))(eb:H b=some (.tup (k.map kV)))(hl:kvs.length<fc):
  DPut H a (.ref b) v (upd H a (.dT (aZ kvs k v))):=.inr ⟨kvs,k,b,e,rfl,eb,hl,rfl⟩
section
variable {X:Cx}{zg:List (Addr×Obj)}{σ:St}{H:Hp}{s:bu}{a:Addr}{y v:V}{u r:bn}{o:Option V}{A:gf}{E:bn->bu->Prop}
theorem Inv.big(I:Inv X zg σ H s):kx<s.heap.objs.size:=by
 have h:nu<s.heap.objs.size:=(I.mod.glob.keeps I.bk).lt;exact lt_trans dz h
theorem Ie{Q:bn->bu->Prop}(hu:A.units+1<rf)(I:Inv X zg σ H s)(g:DGet H a y (some v))(ry:RelV y u)(h:∀w' s',Inv X zg σ H s'->RelV v w'->Q w' s'):
  cv (model X.prog X.w) A (getItem (.ref a) u) Q E s:=by
 rcases g with ⟨kvs,k,e,ey,l⟩|⟨kvs,k,b,e,ey,eb,l⟩
 ·subst ey;obtain⟨z,hd,vs,ac,dd⟩:=mF I.hok e;obtain⟨w',hw,aa⟩:=RelO.some_of (v:=v) (o:=valueAt vs k) (by rw[l];exact ac.val k);exact wpAny_getItem_of (lC ry) dd.mapOf hw (h w' _ (I.tok _) aa)
 ·subst ey;cases (show u=fh b from ry);obtain⟨z,hd,xs,ac,dd⟩:=mJ I.hok e;obtain⟨w',hw,aa⟩:=RelO.some_of (v:=v) (o:=(atKey xs k).map (·.2)) (by rw[l];exact ac.val k);obtain⟨p,hp,ae⟩:=map_eq_some_iff.mp hw;refine wpAny_getItem_heap (tupleKind_room_in1 hu) (oG I.hok eb) dd hp ?_;rw[ae];exact h w' _ (I.tok _) aa
theorem Ix{Q:bn->bu->Prop}(hu:A.units+1<rf)(I:Inv X zg σ H s)(g:DGet H a y o)(ry:RelV y u)(h:∀s',Inv X zg σ H s'->Q (.bool (!o.isSome)) s'):
  cv (model X.prog X.w) A (jy .NotIn u (.ref a)) Q E s:=by
 rcases g with ⟨kvs,k,e,ey,l⟩|⟨kvs,k,b,e,ey,eb,l⟩
 ·subst ey;obtain⟨z,hd,vs,aa,dd⟩:=mF I.hok e;refine wpAny_notIn_of (lC ry) hd dd.mapOf ?_;rw[<- (aa.val k).isSome_eq,<- l];exact h _ (I.tok _)
 ·subst ey;cases (show u=fh b from ry);obtain⟨z,hd,xs,aa,dd⟩:=mJ I.hok e;refine wpAny_notIn_heap (tupleKind_room_in1 hu) (oG I.hok eb) hd dd ?_;have q:=(aa.val k).isSome_eq;rw[isSome_map]at q;rw[<- q,<- l];exact h _ (I.tok _)
theorem xP{h':Heap}{t':Nat}{ob:HO}(I:Inv X zg σ H s)(mu:Mut (H a))(hs:io a s.heap h')(he:∃q,h'.get? a=some q)(aa:ObjOk X.prog X.w (upd H a ob) h' a ob):
  Inv X zg σ (upd H a ob) { s with heap:=h',toks:=t' } :=
 I.write (x:=a) (e:=a) mu (.inl rfl) (fun b q hb z=>(hs.2 b hb).trans z) he aa
theorem DB{P:fg}{w:gg}{H':Hp}{h':Heap}{kvs:List (Key×V)}{vs:List (Key×bn)}(z:kvs.length<=fc)(hd:(a==kx)=false)(aa:KV kvs vs)(dd:h'.DictOf (aW P w) a vs):
  ObjOk P w H' h' a (.dK kvs):=⟨z,hd,vs,aa,dd⟩
theorem Jp{H':Hp}{Q:Unit->bu->Prop}(hu:A.units+1<rf)(I:Inv X zg σ H s)(g:DPut H a y v H')(ry:RelV y u)(rv:RelV v r)(h:∀s',Inv X zg σ H' s'->Q () s'):
  cv (model X.prog X.w) A (setItem (.ref a) u r) Q E s:=by
 rcases g with ⟨kvs,k,e,ey,l,eH⟩|⟨kvs,k,b,e,ey,eb,l,eH⟩
 ·subst ey eH;obtain⟨z,hd,vs,aa,dd⟩:=FO I.hok e;have hz:vs.length<=fc:=by rw[<- aa.length];exact z
  have hl:(aZ kvs k v).length<=fc:=by have:=yQ kvs k v;omega
  refine wpAny_setItem_pairs (hsz:=hz) (lC ry) dd fun h' ac hs=>h _ ?_;have he:∃q,h'.get? a=some q:=let ⟨q,_,_,hq,_⟩:=ac;⟨q,hq⟩;exact xP I (by rw[e];exact kz) hs he (DB hl hd (aa.put k rv) ac)
 ·subst ey eH;cases (show u=fh b from ry);obtain⟨z,hd,xs,aa,dd⟩:=G1 I.hok e;have hz:xs.length<=fc:=by rw[<- Paired.length aa];exact z
  have hl:(aZ kvs k v).length<=fc:=by have:=yQ kvs k v;omega
  refine wpAny_setItem_heap (hsz:=hz) (tupleKind_room_in1 hu) (oG I.hok eb) dd fun h' ac hs=>h _ ?_;obtain⟨q,es,ep,hq,h2,h3,h4,_,h5⟩:=ac;refine xP I (by rw[e];exact kz) hs ⟨q,hq⟩ ⟨hl,hd,_,(aa.put k eb rv).keeps fun c ys ec=>?_,q,es,ep,hq,h2,h3,h4,h5⟩;rw[zG (MU ec e (fun z=>nomatch z))];exact ec
end
def NoSl(i:Expr):Prop:=∀ov iv,subscripted i false ov iv=operate [ov,iv] (getItem ov iv)
theorem JO{prog:fg}{w:gg}{A:gf}{E:bn->bu->Prop}{s:bu}{env:Env}{value z:Expr}{pos:Pos}{T id:String}{Q:bn->bu->Prop}
  (hl:typeLookup (.type T) "__getitem__" = pure (some (.builtin id))) (hs:NoSl z)
  (h:cv (model prog w) A (eval value env) (fun o s₁=>cv (model prog w) A (eval z env) (fun i s₂=>s₂.TypeIs o T/\cv (model prog w) A (getItem o i) Q E s₂) E s₁) E s):
  cv (model prog w) A (eval (.Subscript value z pos) env) Q E s:=by
 refine Subscript_ (jj h (fun o s₁ h₁=>jj h₁ (fun i s₂ h₂=>?_) fun _ _ x=>x) fun _ _ x=>x);obtain⟨hT,h₂⟩:=h₂;unfold subscriptTail;refine bo ?_;rw[getitemInPython_of_ne hT.not_modules];refine bo (wpAny_specialOf hT hl ?_);have fin:cv (model prog w) A (subscripted z false o i) (fun r s₃=>cv (model prog w) A (letTemporaryGo value o r >>= fun _=>pure r) Q E s₃) E s₂:=by
  rw[hs o i];exact wpAny_operating (jj h₂ (fun r s₃ h₃=>bo (wpAny_letTemporaryGo (cr h₃))) fun _ _ x=>x)
 first
  |exact cr (bo fin)
  |exact bo (cr (bo fin))
  |exact bo fin
theorem Jr{X:Cx}{zg:List (Addr×Obj)}{σ:St}{H:Hp}{s:bu}{a:Addr}{y:V}{o:Option V}(I:Inv X zg σ H s)(g:DGet H a y o):s.TypeIs (.ref a) "dict":=by
 rcases g with ⟨kvs,k,e,_,_⟩|⟨kvs,k,b,e,_,_,_⟩
 ·obtain⟨_,_,vs,_,dd⟩:=mF I.hok e;exact dd.typeIs
 ·obtain⟨_,_,xs,_,dd⟩:=mJ I.hok e;exact dd.typeIs
def Aw(td ty:TE):TE:=fun σ H Q=>td σ H fun x H1=>ty σ H1 fun y H2=>∃a v,x=.ref a/\DGet H2 a y (some v)/\Q v H2
def DJ(td ty tv:TE):TS:=fun D σ H=>tv σ H fun v H1=>td σ H1 fun x H2=>ty σ H2 fun y H3=>∃a H4,x=.ref a/\DPut H3 a y v H4/\D.nx σ H4
section
variable {X:Cx}{o i e value:Expr}{pos pos' tpos:Pos}{td ty tv:TE}
theorem EV(hu:X.A.units+1<rf)(ho:PE X o td)(hi:PE X i ty)(hs:NoSl i):PE X (.Subscript o i pos) (Aw td ty):=by
 intro zg s σ H Q I h;refine JO PySem.F.slot_dict_getitem.lookup hs (thn (ho zg s σ H _ I h) fun u s1 ⟨x,H1,I1,rx,q1⟩=>thn (hi zg s1 σ H1 _ I1 q1) fun iv s2 ⟨y,H2,I2,ry,a,v,ex,g,q2⟩=>?_);subst ex;obtain rfl:u=fh a:=rx;exact⟨Jr I2 g,Ie hu I2 g ry fun w' s3 I3 z=>⟨v,H2,I3,z,q2⟩⟩
theorem MA(hu:X.A.units+1<rf)(ho:PE X o td)(hi:PE X i ty)(hv:PE X value tv)(hs:swapsWith value (some (.Subscript o i pos')) pos.line X.env=pure false):
  PS X (.Assign [.Subscript o i pos'] value pos) (DJ td ty tv):=by
 intro zg s σ H D I h;refine wpAny_Assign_Subscript (thn (hv zg s σ H _ I h) fun r s1 ⟨v,H1,I1,rv,q1⟩=>thn (ho zg s1 σ H1 _ I1 q1) fun u s2 ⟨x,H2,I2,rx,q2⟩=>thn (hi zg s2 σ H2 _ I2 q2) fun iv s3 ⟨y,H3,I3,ry,a,H4,ex,g,q3⟩=>?_) hs;subst ex;obtain rfl:u=fh a:=rx;exact Jp hu I3 g ry rv fun s4 I4=>⟨σ,H4,I4,q3⟩
end
theorem Dm{P:fg}{w:gg}{H:Hp}(h:Heap)(hb:kx<h.objs.size):ObjOk P w H (h.push { cls:=.type "dict",data:=.dict #[] }) h.objs.size (.dK []):=
 ⟨ly _,beq_eq_false_iff_ne.mpr (im (ir hb)),[],.nil,Heap.DictOf.new h⟩
def CZ:TE:=fun _ H Q=>∀p,H p=none->Q (.ref p) (upd H p (.dK []))
section
variable {X:Cx}{pos:Pos}
theorem K6:PE X (.Dict [] [] pos) CZ:=fun zg s σ H Q I h=>
 wpAny_Dict_empty ⟨.ref s.heap.objs.size,_,I.laid (a:=s.heap.objs.size) (o:=.dK []) (t':=s.toks) (fun _ _ q=>bw _ q) (dw _) (Dm s.heap I.big),rfl,h _ (I.hok.fresh (dw _))⟩
end
def yI:List (TE×TE)->St->Hp->(List (V×V)->Hp->Prop)->Prop
 | [],_,H,Q=>Q [] H
 | (tk,tv)::r,σ,H,Q=>tk σ H fun x H1=>tv σ H1 fun y H2=>yI r σ H2 fun ps H3=>Q ((x,y)::ps) H3
abbrev VV:List (V×V)->List (bn×bn)->Prop:=Paired fun p q=>RelV p.1 q.1/\RelV p.2 q.2
def PPs(X:Cx)(pos:Pos)(aa:List (Option Expr))(z:List Expr)(ac:List (TE×TE)):Prop:=
 ∀(zg:List (Addr×Obj)) (s:bu) (σ:St) (H:Hp) (Q:List (V×V)->Hp->Prop),Inv X zg σ H s->yI ac σ H Q ->
  cv (model X.prog X.w) X.A (evalPairs (pairTrees aa z X.env pos)) (fun vs s'=>∃ps H',Inv X zg σ H' s'/\VV ps vs/\Q ps H') X.xe s
theorem Gz{X:Cx}{pos:Pos}:PPs X pos [] [] []:=fun zg s σ H Q I h=>pairTrees_nil_walk ⟨[],H,I,.nil,h⟩
theorem Gu{X:Cx}{pos:Pos}{k v:Expr}{ks:List (Option Expr)}{vs:List Expr}{tk tv:TE}{z:List (TE×TE)}(hk:PE X k tk)(hv:PE X v tv)(hr:PPs X pos ks vs z):
  PPs X pos (some k::ks) (v::vs) ((tk,tv)::z):=fun zg s σ H Q I h=>
 pairTrees_cons_walk (thn (hk zg s σ H _ I h) fun u s1 ⟨x,H1,I1,rx,q1⟩=>thn (hv zg s1 σ H1 _ I1 q1) fun w2 s2 ⟨y,H2,I2,ry,q2⟩=>
  thn (hr zg s2 σ H2 _ I2 q2) fun ws s3 ⟨ps,H3,I3,aa,q3⟩=>⟨(x,y)::ps,H3,I3,.cons ⟨rx,ry⟩ aa,q3⟩)
def j8(kvs z:List (Key×V)):List (Key×V):=z.foldl (fun acc kv=>aZ acc kv.1 kv.2) kvs
theorem KV.merge:∀{z:List (Key×V)}{rs:List (Key×bn)}{kvs:List (Key×V)}{vs:List (Key×bn)},KV z rs->KV kvs vs->KV (j8 kvs z) (merged vs rs):=by
 intro z rs kvs vs r;unfold KV at r;induction r generalizing kvs vs with
 |nil=>intro q;exact q
 | @cons p q ps qs h t ih=>
  intro r0;have e:KV (aZ kvs p.1 p.2) (stored vs q.1 q.2):=by
   have:=r0.put p.1 h.2;rw[<- h.1];exact this
  exact ih e
theorem B4:∀(more kvs:List (Key×V)),(j8 kvs more).length<=kvs.length+more.length
 | [],kvs=>by show kvs.length<=kvs.length+0;omega
 |p::r,kvs=>by
  have h1:=B4 r (aZ kvs p.1 p.2);have h2:=yQ kvs p.1 p.2;show (j8 (aZ kvs p.1 p.2) r).length<=_;rw[fy];omega
theorem E5{P:fg}{w:gg}:∀{kvs:List (Key×V)}{ws:List (bn×bn)},VV (kvs.map fun kv=>(kV kv.1,kv.2)) ws->∃rs,Carries (aW P w) ws rs/\KV kvs rs
 | [],_,r=>by rw[map_nil]at r;cases r;exact⟨[],kz,.nil⟩
 |p::kvs,_,r=>by
  rw[gc]at r;cases r with
  | @cons a b as bs h t=>
   obtain⟨rs,c,q⟩:=E5 (P:=P) (w:=w) t;obtain⟨b1,b2⟩:=b;exact⟨(p.1,b2)::rs,⟨lC h.1,rfl,c⟩,.cons ⟨rfl,h.2⟩ q⟩
def EL(z:List (TE×TE)):TE:=fun σ H Q=>∀p,H p=none->yI z σ (upd H p (.dK [])) fun ps H2=>H2 p=some (.dK [])/\∃kvs:List (Key×V),ps=kvs.map (fun kv=>(kV kv.1,kv.2))/\kvs.length<=15/\Q (.ref p) (upd H2 p (.dK (j8 [] kvs)))
theorem KQ{X:Cx}{pos:Pos}{aa:List (Option Expr)}{ac:List Expr}{ae:List (TE×TE)}(h:PPs X pos aa ac ae)(ag:aa.all (·.isSome)=true)(hl:aa.length=ac.length)(h0:aa≠[])
  (h15:aa.length<=15):PE X (.Dict aa ac pos) (EL ae):=by
 intro zg s σ H Q I q;have hn:=I.hok.fresh (dw s.heap.objs.size);have I1:=I.laid (a:=s.heap.objs.size) (o:=.dK []) (h':=s.heap.push { cls:=.type "dict",data:=.dict #[] }) (t':=s.toks) (fun _ _ q=>bw _ q) (dw _) (Dm s.heap I.big);refine wpAny_Dict_walk (knd:=aW X.prog X.w) ag hl h0 h15 (thn (h zg _ σ _ _ I1 (q _ hn)) fun ws s2 ⟨ps,H2,I2,ah,e,kvs,ep,lk,q2⟩=>?_);subst ep;obtain⟨rs,c,rk⟩:=E5 (P:=X.prog) (w:=X.w) ah;obtain⟨z,hd,ai,r0,dd⟩:=FO I2.hok e;cases r0;refine⟨rs,c,dd,fun h' af hs=>⟨.ref s.heap.objs.size,_,?_,rfl,q2⟩⟩;have hz:(j8 [] kvs).length<=fc:=by
  have h1:=B4 kvs [];rw[length_nil]at h1;rw[ji];omega
 have he:∃q,h'.get? s.heap.objs.size=some q:=let ⟨q,_,_,hq,_⟩:=af;⟨q,hq⟩;exact xP I2 (by rw[e];exact kz) hs he (DB hz hd (rk.merge .nil) af)
structure M1(X:Cx)(o:Expr)(m:Str)(apos:Pos)(e:Expr)(cpos:Pos):Prop where
 base:pk o m X.env (eval o X.env)=eval o X.env
 few:((ph cpos (fk [e] X.env)).all (fun x=>!x.1)&&(backToKw cpos (keywordEach [] X.env)).all (fun x=>x.1.isSome)
  && decide (([e]:List Expr).length+([]:List Keyword).length+(if ([]:List Keyword).isEmpty then 0 else 1)<30))=true
 line:(apos.endLine==cpos.line)=true
 trees:ph cpos (fk [e] X.env)=[(false,eval e X.env)]
structure M2(X:Cx)(o:Expr)(m:Str)(apos:Pos)(e f:Expr)(cpos:Pos):Prop where
 base:pk o m X.env (eval o X.env)=eval o X.env
 few:((ph cpos (fk [e,f] X.env)).all (fun x=>!x.1)&&(backToKw cpos (keywordEach [] X.env)).all (fun x=>x.1.isSome)
  && decide (([e,f]:List Expr).length+([]:List Keyword).length+(if ([]:List Keyword).isEmpty then 0 else 1)<30))=true
 line:(apos.endLine==cpos.line)=true
 trees:ph cpos (fk [e,f] X.env)=[(false,eval e X.env),(false,eval f X.env)]
def obO(a:Addr)(ob:Obj):HO:=.ext fun h=>h.get? a=some ob
def IsD(H:Hp)(a:Addr):Prop:=(∃kvs,Rd H a (.dK kvs))\/(∃kvs,Rd H a (.dT kvs))\/∃ob,H a=some (obO a ob)/\ob.ExactDict/\(a==kx)=false
theorem MK{X:Cx}{zg:List (Addr×Obj)}{σ:St}{H:Hp}{s:bu}{a:Addr}(I:Inv X zg σ H s)(d:IsD H a):
  s.TypeIs (.ref a) "dict"/\(∀b,fh a=.ref b->∃ob,s.heap.get? b=some ob/\ob.dict=none)/\(a==kx)=false:=by
 rcases d with ⟨kvs,e⟩|⟨kvs,e⟩|⟨ob,e,hx,hd⟩
 rotate_left 2
 ·obtain⟨g,_,_⟩:=(show ObjOk X.prog X.w H s.heap a (obO a ob)from I.hok a _ e);exact⟨⟨ob,g,hx.1⟩,fun b q=>by cases q;exact⟨ob,g,hx.2.1⟩,hd⟩
 ·obtain⟨_,hd,vs,_,dd⟩:=mF I.hok e;refine⟨dd.typeIs,fun b q=>?_,hd⟩;cases q;obtain⟨ob,_,_,h1,h2,_⟩:=dd;exact⟨ob,h1,h2.2.1⟩
 ·obtain⟨_,hd,xs,_,dd⟩:=mJ I.hok e;refine⟨dd.typeIs,fun b q=>?_,hd⟩;cases q;obtain⟨ob,_,_,h1,h2,_⟩:=dd;exact⟨ob,h1,h2.2.1⟩
section
variable {X:Cx}{zg:List (Addr×Obj)}{σ:St}{H:Hp}{s:bu}{a:Addr}{y d:V}{u r:bn}{o:Option V}{A:gf}{E:bn->bu->Prop}
theorem NQ{Q:bn->bu->Prop}(hu:A.units+1<rf)(I:Inv X zg σ H s)(g:DGet H a y o)(ry:RelV y u)(rd:RelV d r)(h:∀w' s',Inv X zg σ H s'->RelV (o.getD d) w'->Q w' s'):
  cv (model X.prog X.w) A (call (.builtin "dict.get") [.ref a,u,r]) Q E s:=by
 rcases g with ⟨kvs,k,e,ey,l⟩|⟨kvs,k,b,e,ey,eb,l⟩
 ·subst ey;obtain⟨z,hd,vs,aa,dd⟩:=mF I.hok e;refine call_meetsIn PySem.F.slot_dict_get dd.typeIs PySem.F.entry_dict_get (PySem.F.args_dict_get_3 _ _ _) (meets_dict_get_default (aW X.prog X.w) a (lC ry) hd r) ⟨_,dd.mapOf,h _ _ (I.tok _) ?_⟩;rw[l];exact(aa.val k).getD rd
 ·subst ey;cases (show u=fh b from ry);obtain⟨z,hd,xs,aa,dd⟩:=mJ I.hok e;refine call_meetsIn PySem.F.slot_dict_get dd.typeIs PySem.F.entry_dict_get (PySem.F.args_dict_get_3 _ _ _) (meetsH_dict_get_default (tupleKind (aW X.prog X.w)) a b hd r) ⟨tupleKind_room_in1 hu,k,xs,oG I.hok eb,dd,h _ _ (I.tok _) ?_⟩;rw[l];exact(aa.val k).getD rd
end
def Em(td ty tx:TE):TE:=fun σ H Q=>td σ H fun x H1=>∃a,x=.ref a/\IsD H1 a/\ty σ H1 fun y H2=>tx σ H2 fun z H3=>∃o,DGet H3 a y o/\Q (o.getD z) H3
section
variable {X:Cx}{o e f:Expr}{apos cpos:Pos}{td ty tx:TE}
theorem Ae(hu:X.A.units+1<rf)(ho:PE X o td)(he:PE X e ty)(hf:PE X f tx)(m:M2 X o "get" apos e f cpos):PE X (.Call (.Attribute o "get" apos) [e,f] [] cpos) (Em td ty tx):=by
 intro zg s σ H Q I h;refine wpAny_Call_method m.base m.few m.line PySem.F.plainAttrs_dict PySem.F.slot_dict_get PySem.F.type_dict_get (thn (ho zg s σ H _ I h) fun u s1 ⟨x,H1,I1,rx,a,ex,d,q1⟩=>?_);subst ex;obtain rfl:u=fh a:=rx;obtain⟨t1,t2,_⟩:=MK I1 d;refine⟨t1,t2,?_⟩;rw[m.trees];refine Calls.callWith_builtin rfl (Calls.evalArgs_plain (Calls.spliced_cons (thn (he zg s1 σ H1 _ I1 q1) fun iv s2 ⟨y,H2,I2,ry,q2⟩=>
  Calls.spliced_cons (thn (hf zg s2 σ H2 _ I2 q2) fun fv s3 ⟨z,H3,I3,rz,ov,g,q3⟩=>Calls.spliced_nil ?_))))
 exact NQ hu I3 g ry rz fun w' s4 I4 aa=>⟨_,H3,I4,aa,q3⟩
end
end
end L2
namespace Att
open PySem PySem.W PySem.Calls PyProof.Rows
theorem HE{P:Params}{h:Heap}:∀(ns:List Int) (vs:List bn),WellAll P h vs (ns.map WData.int)->pp vs ns:=by
 intro ns;induction ns with
 |nil=>
  intro vs w;rw[map_nil]at w;cases w;exact .nil
 |cons n ns ih=>
  intro vs w;rw[gc]at w;cases w with
  |cons a b=>
   cases a;exact .cons _ _ (ih _ b)
theorem Hx{l:OpenLaw}{n:Nat}(hn:l.most=some n){P:Params}{h:Heap}{args:List WData}{z:List bn}
  (hpre:l.row.toRowW.claim.pre args=true) (hwl:WellAll P h z args):
  ∃a vs ns,z=[fh a]/\args=[WData.list (ns.map WData.int)]/\h.get? a=some { cls:=.type "list",data:=.seq vs.toArray }/\pp vs ns/\ns.length<=n:=by
 have ac:WShape.hasAll [] args [.list .int]=true:=(pre_splitW hpre).1;have hc:l.pre.holds [] { args:=args } = true:=(pre_splitW hpre).2;obtain⟨d,r,rfl,h1,h2⟩:=hasAllW_cons ac;obtain rfl:=hasAllW_nil h2;obtain⟨xs,rfl,h3⟩:=hasW_list h1;obtain⟨ns,rfl⟩:=items_int h3;have aa:ns.length<=n:=by
  unfold OpenLaw.pre at hc;have h4:(WTm.not (.lt (.lit (.int (n:Int))) (.len (.arg 0)))).holds [] { args:=[.list (ns.map .int)] } = true:=by
   have h4:=(holds_andW hc).1;rw[hn]at h4;exact h4
  have h5:=condW_of h4 (w_not (w_lt w_lit (w_len_list (w_arg rfl))));rw[gh]at h5;refine Nat.le_of_not_lt fun q=>?_;have q':(n:Int)<((ns.length:Nat):Int):=yw
  first
   | (rw[ke q']at h5;exact absurd h5 dz)
   | (simp at h5;omega)
 cases hwl with
 |cons w1 w2=>
  cases w2;cases w1 with
  |list ho hall=>exact⟨_,_,ns,rfl,rfl,ho,HE ns _ hall,aa⟩
theorem Nm(l:OpenLaw)(args:List WData):l.row.toRowW.claim.post args (.bool true) args=true:=
 postW_of (r:=l.row.toRowW) (X:=(true==true))
  (show WShape.has [] (.bool true) .bool=true by first|rfl|decide|simp[WShape.has,WShape.arms,WShape.armsAll])
  (show (WTm.eq .res (.lit (.bool true))).value [] { args:=args,res:=some (.bool true),after:=args } = some (.bool (true==true))from w_eq_bool (w_res rfl) w_lit) rfl
theorem attach_call{l:OpenLaw}{n:Nat}{q:fg}{z:List Str}{XP:(Str->Option bn)->Heap->Prop}{YP:gg->Heap->Prop}{d:DefRec}
  (hn:l.most=some n) (hdf:d.params.defaults=[])
  (call:∀(w:gg) (s₀ s₁:bu) (mg mb:Str->Option bn) (fa:Addr) (o:Obj) (pm cd ac:bn) (a:Addr) (vs:List bn) (ns:List Int),
   Ground q z [] XP w s₀ mg mb s₁.heap->YP w s₁.heap ->
   s₁.heap.get? fa=some o->o.data=.func (docDef d.name d.params d.body d.scope pm cd ac)->s₁.heap.CodeRec cd d.name->mg d.name=some (.ref fa) ->
   s₁.heap.get? a=some { cls:=.type "list",data:=.seq vs.toArray }->pp vs ns->ns.length<=n->s₁.gens = #[] ->
   tw (model l.prog w) callerA (.call (.ref fa) ⟨[.ref a],[]⟩) (fun r s'=>r=.ok (.ret (.bool true))/\OldK s₁.heap s'.heap/\s'.os=s₁.os/\AllBare s'.gens) s₁):
  WalkO q z XP YP l.row.toRowW d [] (fun f vs=>PySem.call f vs):=by
 intro w s₀ s₁ mg mb G Y fa o pm cd ac dV kV ho hd aj hD ah hg args al as ae ak am ai an;obtain rfl:dV=.none:=Dflts.none hD hdf;obtain rfl:kV=.none:=Dflts.noKw hD;obtain⟨a,vs,ns,rfl,rfl,ag,aa,af⟩:=Hx hn ae ai;refine enter_call (codeAny_mono (call w s₀ s₁ mg mb fa o pm cd ac a vs ns G Y ho (fd_plain hd) aj ah ag aa af hg) fun r s' hq=>?_);obtain⟨rfl,h2,h3,h4⟩:=hq;exact⟨.inl ⟨.bool true,.bool true,[],rfl,fun _=>rfl,.bool true,Nm l _,fun _=>⟨List.Pairwise.nil,fun _ hm=>(nomatch hm)⟩⟩,h2,h3,h4⟩
end Att
namespace L2
open PySem PySem.Spec PyProof.Rows
section
theorem xV:∀{vs:List bn}{ns:List Int},pp vs ns->Vals (ns.map V.int) vs
 |_,_,.nil=>.nil
 |_,_,.cons n t h=>.cons ⟨t,rfl⟩ (xV h)
def Only(H:Hp):Prop:=∀b,H b=none\/(∃o xs,H b=some (.frz o (.lst xs)))\/∃q∈tabsG,q.1.2=b/\H b=some (.tbl q.2)
def eF(b:Addr):Option HO:=(tabsG.find? fun q=>q.1.2==b).map fun q=>.tbl q.2
theorem mX{b:Addr}{u:HO}(e:eF b=some u):∃q∈tabsG,q.1.2=b/\u=.tbl q.2:=by
 unfold eF at e;cases h:tabsG.find? fun q=>q.1.2==b with
 |none=>rw[h]at e;cases e
 |some q=>
  rw[h]at e;cases e;exact⟨q,List.mem_of_find?_eq_some h,by simpa using List.find?_some h,rfl⟩
theorem Gi{l:List ((Addr×Addr)×Array bn)}(nd:(l.map fun q=>q.1.2).Nodup){q:(Addr×Addr)×Array bn}(h:q∈l):l.find? (fun r=>r.1.2==q.1.2)=some q:=by
 induction l with
 |nil=>cases h
 |cons p l ih=>
  rw[gc,sw]at nd;rcases mem_cons.mp h with e|e
  ·subst e;simp
  ·have ne:¬ p.1.2=q.1.2:=fun z=>nd.1 (by rw[z];exact List.mem_map_of_mem (f:=fun q:(Addr×Addr)×Array bn=>q.1.2) e);rw[List.find?_cons_of_neg (by simpa using ne)];exact ih nd.2 e
theorem AW(nd:(tabsG.map fun q=>q.1.2).Nodup){q:(Addr×Addr)×Array bn}(h:q∈tabsG):eF q.1.2=some (.tbl q.2):=by
 unfold eF;rw[Gi nd h];rfl
structure TabsOk(K:cq)(h:Heap):Prop where
 nd:(tabsG.map fun q=>q.1.2).Nodup
 hd:∀q∈tabsG,W.CodeHd h q.1.1 q.1.2
 empty:∀q∈tabsG,h.get? q.1.2=some (W.tabObj #[])
 off:∀q∈tabsG,K.lookup q.1.2=none
theorem TabsOk.none{K:cq}{h:Heap}(e:tabsG=[]):TabsOk K h:=⟨by rw[e];exact nodup_nil,fun q z=>absurd z (by rw[e];simp),fun q z=>absurd z (by rw[e];simp),fun q z=>absurd z (by rw[e];simp)⟩
theorem J1{P:fg}{w:gg}{K:cq}{mg mb:Str->Option bn}{CX:CXT}{k:Nat}{fa a:Addr}{fd:ng}{x:Str}{sp:Sp}{s₁:bu}{vs:List bn}{ns:List Int}
  (KX:K.In s₁.heap) (TT:TabsOk K s₁.heap) (hbm:BltAt s₁.heap mg) (hns:s₁.heap.Ns nu mg) (hb:s₁.heap.Ns builtinsNs mb) (hbb:∀x:Str,x ≠ "__name__"->mb x=jc x) (hlim:s₁.heap.NoLimit) (hg:s₁.gens = #[])
  (ha:s₁.heap.get? a=some { cls:=.type "list",data:=.seq vs.toArray }) (hi:pp vs ns) (hl:ns.length<=fc) (hr:Room k callerA)
  (F:∀base:Heap,K.In base->base.Ns nu mg->FnOk P w K mg base CX k fa fd [x] sp) (hbind:∀(s:bu) (u:bn),BindsTo s fd ⟨[u],[]⟩ [(x,u)])
  (hsp:∀H:Hp,Only H->SqL K H a (ns.map V.int)->sp [.ref a] H (fun v _=>v=.bl true) fun _ _ _=>False)
  (hCX:∀H e s',CX [] H s₁ (fun _ _ _=>False) e s'->False):
  tw (model P w) callerA (.call (.ref fa) ⟨[.ref a],[]⟩) (fun r s'=>r=.ok (.ret (.bool true))/\OldK s₁.heap s'.heap/\s'.os=s₁.os/\AllBare s'.gens) s₁:=by
 have rv:=xV hi;have ak:=hi.length
 have af:∀H:Hp,Only H->SqL K H a (ns.map V.int)->HOk P w H s₁.heap->(∀b,H b≠none->b=a\/∃q∈tabsG,q.1.2=b)->(H a≠none->K.lookup a=none)->(∀q∈tabsG,H q.1.2=some (.tbl q.2)) ->
   tw (model P w) callerA (.call (.ref fa) ⟨[.ref a],[]⟩) (fun r s'=>r=.ok (.ret (.bool true))/\OldK s₁.heap s'.heap/\s'.os=s₁.os/\AllBare s'.gens) s₁:=by
  intro H hO hS hok hA hK am;have ah:∀{b:Addr}{o:Obj},s₁.heap.get? b=some o->o.cls≠.type "list"->o.cls≠.none->H b=none:=fun {b o} e c1 c2=>by
   cases q:H b with
   |none=>rfl
   |some u=>
    rcases hA b (by rw[q];simp)with e'|⟨r,aa,e'⟩
    ·subst e';rw[ha]at e;cases e;exact absurd rfl c1
    ·have:=TT.empty r aa;rw[e',e]at this;cases this;exact absurd rfl c2
  have ac:∀{b:Addr}{o:Obj},s₁.heap.get? b=some o->H b=none->(gR s₁.heap H).get? b=some o:=fun e n=>Hn e n;have an:∀{b:Addr}{o:Obj}{es:Array DictEntry}{ep:Nat},s₁.heap.get? b=some o->o.data=.dict es ep->H b=none:=fun {b o es ep} e d=>by
   cases q:H b with
   |none=>rfl
   |some u=>
    rcases hA b (by rw[q];simp)with e'|⟨r,aa,e'⟩
    ·subst e';rw[ha]at e;cases e;have d':Data.seq vs.toArray _=Data.dict es ep:=d;cases d'
    ·have:=TT.empty r aa;rw[e',e]at this;cases this;cases d
  have ae:∀{b:Addr}{m:Str->Option bn},s₁.heap.Ns b m->(gR s₁.heap H).Ns b m:=fun {b m} ⟨o,es,ep,e,d,r⟩=>⟨o,es,ep,ac e (an e d),d,r⟩;have aj:K.In (gR s₁.heap H):=fun b o e=>ac (KX b o e) (by
   cases q:H b with
   |none=>rfl
   |some u=>
    rcases hA b (by rw[q];simp)with e'|⟨r,aa,e'⟩
    ·subst e';rw[hK (by rw[q];simp)]at e;cases e
    ·rw[<- e',TT.off r aa]at e;cases e)
  have hM:Mod K mg (gR s₁.heap H):=⟨aj,ae hns,⟨mb,ae hb,hbb⟩,let ⟨mc,h1,h2⟩:=hlim;⟨mc,ae h1,h2⟩,
   let ⟨bm,ob,b1,b2,b3,b4,b5⟩:=hbm;⟨bm,ob,b1,b2,ac b3 (ah b3 (by rw[b4];decide) (by rw[b4];decide)),b4,b5⟩,
   fun q hq=>let ⟨o,vs,file,tf,flags,tg,inF,text,tt,e1,c1,r⟩:=TT.hd q hq;⟨o,vs,file,tf,flags,tg,inF,text,tt,ac e1 (ah e1 (by rw[c1];decide) (by rw[c1];decide)),c1,r⟩⟩
  have e0:Env0 P w K mg (gR s₁.heap H) callerA [] s₁ H:=⟨rfl,hM,fun b o e=>Hs e,Nat.le_of_eq (L5 _ _),trivial,⟨fun b hb=>absurd (show b∈([]:List Addr)from hb) yv,am⟩,hok,.of_eq hg⟩;refine codeAny_mono ((F _ aj (ae hns)).run callerA [] s₁ H ⟨[.ref a],[]⟩ [.ref a] [.ref a] _ _ hr e0 (hbind s₁ (.ref a)) (.cons rfl .nil) (hsp H hO hS)) fun r s' h=>?_;cases r with
  |error e=>exact(hCX H e s' h).elim
  |ok fl=>
   cases fl with
   |next=>exact iu h
   |brk=>exact iu h
   |cont=>exact iu h
   |ret u=>
    obtain⟨v,H',os,bare,un,ag,r',q⟩:=h;have q':v=.bl true:=q;subst q';obtain rfl:u=uc true:=r';have all:∀b o,s₁.heap.get? b=some o->s'.heap.get? b=some o\/∃q∈tabsG,q.1.2=b/\o=W.tabObj #[]/\∃ps,s'.heap.get? b=some (W.tabObj ps):=fun b o e=>by
     cases q:H b with
     |none=>exact .inl (un.keep b o e q (by intro z;exact absurd (show b∈([]:List Addr)from z) yv) yv)
     |some u=>
      rcases hO b with z|⟨ob,xs,z⟩|⟨r,aa,e',z⟩
      ·rw[q]at z;cases z
      ·have z2:=un.frzs b ob _ z;obtain⟨e1,_⟩:=hok b _ z;obtain⟨e2,_⟩:=ag b _ z2;rw[e]at e1;cases e1;exact .inl e2
      ·obtain⟨qs,e2,_⟩:=ag b _ (un.tbls b _ z);have:=TT.empty r aa;rw[e',e]at this;cases this;exact .inr ⟨r,aa,e',rfl,qs,e2⟩
    refine⟨rfl,⟨fun b o e=>?_,fun b o e=>?_⟩,os,bare⟩
    ·rcases all b o e with z|⟨r,aa,rfl,rfl,ps,z⟩
     ·exact .inl z
     ·exact .inr (.inl ⟨((TT.hd r aa).tab (TT.empty r aa)).isCodeTable,rfl,#[],ps,rfl,by rw[Array.empty_append];exact z⟩)
    ·rcases all b o e with z|⟨r,aa,rfl,rfl,ps,z⟩
     ·exact⟨o,z⟩
     ·exact⟨_,z⟩
 have al:∀q∈tabsG,q.1.2≠a:=fun q hq z=>by
  have:=TT.empty q hq;rw[z,ha]at this;cases this
 have ai:∀(H:Hp) (b:Addr) (u:HO),eF b=some u->ObjOk P w H s₁.heap b u:=fun H b u z=>by
  obtain⟨q,hq,rfl,rfl⟩:=mX z;exact⟨#[],TT.empty q hq,.inl rfl⟩
 cases hk:K.lookup a with
 |some o=>
  have e:=KX a o hk;rw[ha]at e;cases e;refine af eF (fun b=>?_) (.inr ⟨_,vs.toArray,_,hk,rfl,rfl,rfl,by rw[fx,ak];exact hl,by simpa using rv⟩) (ai eF) (fun b z=>?_) (fun z=>?_) fun q hq=>AW TT.nd hq
  ·cases q:eF b with
   |none=>exact .inl rfl
   |some u=>obtain⟨r,aa,e',rfl⟩:=mX q;exact .inr (.inr ⟨r,aa,e',rfl⟩)
  ·cases q:eF b with
   |none=>exact absurd q z
   |some u=>obtain⟨r,aa,e',_⟩:=mX q;exact .inr ⟨r,aa,e'⟩
  ·cases q:eF a with
   |none=>exact absurd q z
   |some u=>obtain⟨r,aa,e',_⟩:=mX q;exact absurd e' (al r aa)
 |none=>
  refine af (fun b=>if b=a then some (.frz { cls:=.type "list",data:=.seq vs.toArray } (.lst (ns.map V.int)))else eF b) (fun b=>?_) (.inl (.inr ⟨{ cls:=.type "list",data:=.seq vs.toArray },cp rfl⟩)) (fun b u z=>?_) (fun b z=>?_) (fun _=>hk) fun q hq=>(cf (al q hq)).trans (AW TT.nd hq)
  ·by_cases hb:b=a
   ·exact .inr (.inl ⟨_,_,cp hb⟩)
   ·cases q:eF b with
    |none=>exact .inl ((cf hb).trans q)
    |some u=>obtain⟨r,aa,e',rfl⟩:=mX q;exact .inr (.inr ⟨r,aa,e',(cf hb).trans q⟩)
  ·by_cases hb:b=a
   ·have z':=(cp hb).symm.trans z;cases z';subst hb;exact⟨ha,by rw[gh];exact hl,vs,_,rv,ha⟩
   ·have z':=(cf hb).symm.trans z;exact ai _ b u z'
  ·by_cases hb:b=a
   ·exact .inl hb
   ·cases q:eF b with
    |none=>exact absurd ((cf hb).trans q) z
    |some u=>obtain⟨r,aa,e',_⟩:=mX q;exact .inr ⟨r,aa,e'⟩
end
section
abbrev KOf {K:cq}{h:Heap} (_:K.In h):cq:=K
theorem walk_of{l:W.OpenLaw}{n k:Nat}{q:fg}{ac:List Str}{XP:(Str->Option bn)->Heap->Prop}{YP:gg->Heap->Prop}{d:DefRec}{K:Params->cq}{CX:gg->CXT}{sp:gg->Sp}{x:Str}
  (hn:l.most=some n) (hn2:n<=fc) (hdf:d.params.defaults=[]) (hr:Room k callerA)
  (hY:∀(w:gg) (h:Heap),YP w h->(K w.params).In h)
  (hT:∀(w:gg) (h:Heap),YP w h->TabsOk (K w.params) h)
  (F:∀(w:gg) (mg:Str->Option bn) (fa:Addr) (h:Heap),(K w.params).In h->h.Ns nu mg->mg d.name=some (.ref fa) ->
   ∃fd:ng,(∀(s:bu) (u:bn),BindsTo s fd ⟨[u],[]⟩ [(x,u)]) /\
    ∀base:Heap,(K w.params).In base->base.Ns nu mg->FnOk l.prog w (K w.params) mg base (CX w) k fa fd [x] (sp w))
  (hsp:∀(w:gg) (H:Hp) (a:Addr) (ns:List Int),ns.length<=n->Only H->SqL (K w.params) H a (ns.map V.int)->sp w [.ref a] H (fun v _=>v=.bl true) fun _ _ _=>False)
  (hCX:∀(w:gg) (H:Hp) (s:bu) (e:bn) (s':bu),CX w [] H s (fun _ _ _=>False) e s'->False):
  W.WalkO q ac XP YP l.row.toRowW d [] (fun f vs=>PySem.call f vs):=by
 refine Att.attach_call hn hdf fun w s₀ s₁ mg mb fa o pm cd ah a vs ns G Y ho hd ag af ae aa z hg=>?_;have KX:=hY w _ Y;obtain⟨fd,hb,hF⟩:=F w mg fa _ KX G.T.g af;exact J1 KX (hT w _ Y) (let ⟨bm,ob,a1,a2,a3,a4,a5,a6⟩:=G.T.bmain;⟨bm,ob,a1,a2,a3,a4,a5,a6⟩) G.T.g G.T.b G.T.builtins G.T.nolimit hg ae aa (ky z hn2) hr hF hb (fun H hO hS=>hsp w H a ns z hO hS) fun H e s'=>hCX w H s₁ e s'
end
section
def LR(s:Stmt)(j:Nat):Stmt:=match s with
 | .ClassDef _ _ _ body _ _ _ _ _ _ _=>body.getD j (.Pass ⟨0,0,0,0⟩)
 |_=>.Pass ⟨0,0,0,0⟩
def gT(s:Stmt):Arguments:=match s with
 | .FunctionDef _ a _ _ _ _ _ _ _ _=>a
 |_=>{ posonlyargs:=[],args:=[],vararg:=none,kwonlyargs:=[],kw_defaults:=[],kwarg:=none,defaults:=[] }
def cR(s:Stmt):List Stmt:=match s with
 | .FunctionDef _ _ b _ _ _ _ _ _ _=>b
 |_=>[]
def zk(s:Stmt):Scope:=match s with
 | .FunctionDef _ _ _ _ _ _ sc _ _ _=>sc
 |_=>{ kind:=.function,names:=[],isGenerator:=false,isCoroutine:=false }
abbrev CX0:CXT:=fun _ _ _ _ _ _=>False
abbrev E0:XK:=fun _ _ _=>False
theorem pass0{X:Cx}:Passes CX0 X E0:=fun _ _ _ _ _ _ _ h=>h.elim
structure Fun(K:cq)(x qual:Str)(st:Stmt)(f:Addr)(fd:ng):Prop where
 ex:∃(oc:bn) (od:Option Addr) (kV doc pm:bn) (an:Option Addr) (cdv ct:bn) (osl:Array (Option bn)),
  fd=W.fnOf x qual (gT st) (cR st) (zk st) .none kV doc pm an cdv ct/\K.lookup f=some ⟨oc,od,.func fd,osl⟩/\W.codeIn K cdv qual=true
 kp:rg K (.ref f)=true
section
variable {P:fg}{w:gg}{K:cq}{mg:Str->Option bn}{base:Heap}
theorem Fun.ok{x qual:Str}{st:Stmt}{f:Addr}{fd:ng}{N ps:List Str}{k:Nat}{sp:Sp}(F:Fun K x qual st f fd)(S:FnScope N ps (zk st))(len:∀vs H Q E,sp vs H Q E->vs.length=ps.length)
  (hbody:∀(z:bn) (A:gf) (outer:List Env) (s:bu) (H:Hp) (vs:List V) (Q:VK) (E:XK),Room k (A.deeper (iy qual (zk st) s.heap.objs.size f z))->sp vs H Q E ->
   ∃t,PSs (bU CX0 P w K mg base N qual (zk st) f z A outer s H E).nox (cR st) t/\t { nx:=fun _ H'=>Q .non H',rt:=Q } (start N vs) H):FnOk P w K mg base CX0 (k+1) f fd ps sp:=by
 obtain⟨oc,od,kV,af,pm,an,z,ct,ae,rfl,lk,aa⟩:=F.ex;refine BV lk aa S len fun A outer s H vs Q E hr ac=>?_;obtain⟨t,h,q⟩:=hbody z A outer s H vs Q E hr ac;exact⟨t,h.nox,q⟩
theorem Fun.binds{x qual:Str}{st:Stmt}{f:Addr}{fd:ng}{ps:List Str}(F:Fun K x qual st f fd)
  (h:∀(kV z pm:bn) (an:Option Addr) (aa ct:bn) (us:List bn),us.length=ps.length->bindArgs (W.fnOf x qual (gT st) (cR st) (zk st) .none kV z pm an aa ct) ⟨us,[]⟩=pure (ps.zip us)):Binds K fd ps []:=by
 obtain⟨oc,od,kV,z,pm,an,aa,ct,ac,rfl,lk,ae⟩:=F.ex;exact .all (h kV z pm an aa ct)
theorem uL{x qual:Str}{st:Stmt}{f:Addr}{oc:bn}{od an:Option Addr}{ac:Array (Option bn)}{kV aa pm z ct:bn}(l:K.lookup f=some ⟨oc,od,.func (W.fnOf x qual (gT st) (cR st) (zk st) .none kV aa pm an z ct),ac⟩)
  (c:W.codeIn K z qual=true) (k:rg K (.ref f)=true):Fun K x qual st f (W.fnOf x qual (gT st) (cR st) (zk st) .none kV aa pm an z ct):=⟨⟨oc,od,kV,aa,pm,an,z,ct,ac,rfl,l,c⟩,k⟩
end
theorem rW{A:gf}{k:Nat}(hr:Room k A):A.units+1<rf:=Nat.lt_of_le_of_lt (Nat.add_le_add_left (by decide:1<=64) _) hr.units
theorem small1000{n:Nat}(h:n<=1000):n<fc:=Nat.lt_of_le_of_lt h dz
section
variable {X:Cx}
theorem pv(i:Nat){x:Str}{pos:Pos}(hN:X.N[i]?=some x:=by rfl)(hv:Vis X.env.scope x:=by first|exact ja rfl|exact Or.inr (ja rfl)|exact Or.inr (Or.inr rfl))(hd:(x==("__debug__":Str))=false:=by decide)
  (hcd:(x==("__classdict__":Str))=false:=by decide):PE X (.Name x pos) (dL i):=J5 hN hv hd hcd
end
theorem gD{A B:Prop}(h:B):if false=true then A else B:=by
 rw[cf jk];exact h
theorem g9{A B:Prop}(h:A):if true=true then A else B:=by
 rw[cp rfl];exact h
theorem ite2{c A B:Prop}[Decidable c](h1:c->A)(h2:¬ c->B):if c then A else B:=by
 by_cases h:c
 ·rw[cp h];exact h1 h
 ·rw[cf h];exact h2 h
def Same(H H':Hp):Prop:=∀b o,H b=some o->H' b=some o
theorem Same.refl(H:Hp):Same H H:=fun _ _ h=>h
theorem Same.trans{H H1 H2:Hp}(a:Same H H1)(b:Same H1 H2):Same H H2:=fun c o h=>b c o (a c o h)
theorem Same.seq{K:cq}{H H':Hp}{a:Addr}{xs:List V}(e:Same H H')(h:SqL K H a xs):SqL K H' a xs:=by
 rcases h with (h|⟨o,h⟩)|h
 ·exact .inl (.inl (e _ _ h))
 ·exact .inl (.inr ⟨o,e _ _ h⟩)
 ·exact .inr h
end
section
section
variable {X:Cx}
def CDivX(i j:Int):Prop:=0<j/\j.natAbs.log2<9000
theorem L9:OpR X (lx .FloorDiv) (rI CDivX fun i j=>.int (i/j)):=opI fun i j _ _ _ _ _ hc q=>by
 have h1:(0:Int)<j:=hc.1;exact floordiv_int yw (by rw[Int.fdiv_eq_ediv_of_nonneg i yw];exact q) (.inl (PyProof.noPylong_of_log2 hc.2))
theorem OD:OpR X (lx .Mult) (rI IntMulOk fun i j=>.int (i*j)):=opI fun _ _ _ _ _ _ _ hc q=>mul_int q hc
theorem Ek{k:Int}{n:Nat}(h:k.natAbs<2 ^ n):Builtin.Int.intBits k<=n:=by
 unfold Builtin.Int.intBits;split
 ·exact ly _
 ·rename_i h0;have hk:k.natAbs≠0:=by
   intro z;apply h0;rw[Int.natAbs_eq_zero.mp z];rfl
  have:=(Nat.log2_lt hk).mpr h;omega
theorem tX{i j:Int}(n m:Nat)(hi:i.natAbs<2 ^ n)(hj:j.natAbs<2 ^ m)(hn:n<=2 ^ 20:=by decide)(hm:m<=2 ^ 20:=by decide):IntMulOk i j:=
 .of_bits (ky (Ek hi) hn) (ky (Ek hj) hm)
theorem dE{i j:Int}(h1:-(2 ^ 64)<i)(h2:i<2 ^ 64):IntMulOk i j:=.of_left (intBits_le_64 h1 h2)
theorem FB{i j:Int}(h1:-(2 ^ 64)<j)(h2:j<2 ^ 64):IntMulOk i j:=.of_right (intBits_le_64 h1 h2)
theorem l7{n:Int}{k:Nat}(h0:0<n)(h:n<2 ^ k):n.natAbs.log2<k:=by
 refine(Nat.log2_lt yw).mpr ?_;have e:((2 ^ k:Nat):Int)=(2:Int) ^ k:=by simp
 omega
end
def kD:Key->bq
 | .inl i=>.int i
 | .inr x=>.str x
def DOf(H:Hp)(a:Addr)(ks:List bq)(vs:List V):Prop:=
 (∃(ob:Obj) (m:List (Key×V)),H a=some (.frz ob (.dK m))/\ks=m.map (fun p=>kD p.1)/\vs=m.map (·.2)) \/
 ∃(ob:Obj) (p:List Key×V) (m:List (List Key×V)),H a=some (.frz ob (.dT (p::m)))/\ks=(p::m).map (fun p=>.tuple (p.1.map kD))/\vs=(p::m).map (·.2)
mutual
def Has(H:Hp):bq->V->Prop
 | .none,v=>v=.non
 | .bool b,v=>v=.bl b
 | .int i,v=>v=.int i
 | .str x,v=>v=.str x
 | .list ds,v=>∃a vs,v=.ref a/\H a=some (.lst vs)/\HasL H ds vs
 | .tuple ds,v=>∃a vs,v=.ref a/\H a=some (.tup vs)/\HasL H ds vs
 | .dict kvs,v=>∃a vs,v=.ref a/\DOf H a (kvs.map (·.1)) vs/\HasV H kvs vs
def HasL(H:Hp):List bq->List V->Prop
 | [],vs=>vs=[]
 |d::ds,vs=>∃v r,vs=v::r/\Has H d v/\HasL H ds r
def HasV(H:Hp):List (bq×bq)->List V->Prop
 | [],vs=>vs=[]
 |p::ps,vs=>∃v r,vs=v::r/\HasP H p v/\HasV H ps r
def HasP(H:Hp):bq×bq->V->Prop
 | (_,d),v=>Has H d v
end
mutual
theorem Has.mono{H H':Hp}(s:Same H H'):∀(d:bq) (v:V),Has H d v->Has H' d v
 | .none,_,h=>by simp only[Has]at h ⊢;exact h
 | .bool _,_,h=>by simp only[Has]at h ⊢;exact h
 | .int _,_,h=>by simp only[Has]at h ⊢;exact h
 | .str _,_,h=>by simp only[Has]at h ⊢;exact h
 | .list ds,v,h=>by
  simp only[Has]at h ⊢;obtain⟨a,vs,e,q,l⟩:=h;exact⟨a,vs,e,s _ _ q,HasL.mono s ds vs l⟩
 | .tuple ds,v,h=>by
  simp only[Has]at h ⊢;obtain⟨a,vs,e,q,l⟩:=h;exact⟨a,vs,e,s _ _ q,HasL.mono s ds vs l⟩
 | .dict kvs,v,h=>by
  simp only[Has]at h ⊢;obtain⟨a,vs,e,q,l⟩:=h;refine⟨a,vs,e,?_,HasV.mono s kvs vs l⟩;rcases q with ⟨ob,m,e1,e2⟩|⟨ob,p,m,e1,e2⟩
  ·exact .inl ⟨ob,m,s _ _ e1,e2⟩
  ·exact .inr ⟨ob,p,m,s _ _ e1,e2⟩
theorem HasL.mono{H H':Hp}(s:Same H H'):∀(ds:List bq) (vs:List V),HasL H ds vs->HasL H' ds vs
 | [],_,h=>by simp only[HasL]at h ⊢;exact h
 |d::ds,vs,h=>by
  simp only[HasL]at h ⊢;obtain⟨v,r,e,q,l⟩:=h;exact⟨v,r,e,Has.mono s d v q,HasL.mono s ds r l⟩
theorem HasV.mono{H H':Hp}(s:Same H H'):∀(ds:List (bq×bq)) (vs:List V),HasV H ds vs->HasV H' ds vs
 | [],_,h=>by simp only[HasV]at h ⊢;exact h
 |d::ds,vs,h=>by
  simp only[HasV]at h ⊢;obtain⟨v,r,e,q,l⟩:=h;exact⟨v,r,e,HasP.mono s d v q,HasV.mono s ds r l⟩
theorem HasP.mono{H H':Hp}(s:Same H H'):∀(p:bq×bq) (v:V),HasP H p v->HasP H' p v
 | (_,d),v,h=>by
  simp only[HasP]at h ⊢;exact Has.mono s d v h
end
section
variable {H:Hp}{v:V}
theorem uS:Has H .none v↔v=.non:=by simp only[Has]
theorem nW{b:Bool}:Has H (.bool b) v↔v=.bl b:=by simp only[Has]
theorem eA{i:Int}:Has H (.int i) v↔v=.int i:=by simp only[Has]
theorem hV{x:Str}:Has H (.str x) v↔v=.str x:=by simp only[Has]
theorem eK{ds:List bq}:Has H (.list ds) v↔∃a vs,v=.ref a/\H a=some (.lst vs)/\HasL H ds vs:=by simp only[Has]
theorem d8{ds:List bq}:Has H (.tuple ds) v↔∃a vs,v=.ref a/\H a=some (.tup vs)/\HasL H ds vs:=by simp only[Has]
theorem Bs{kvs:List (bq×bq)}:Has H (.dict kvs) v↔∃a vs,v=.ref a/\DOf H a (kvs.map (·.1)) vs/\HasV H kvs vs:=by simp only[Has]
theorem IW{vs:List V}:HasV H [] vs↔vs=[]:=by simp only[HasV]
theorem A4{p:bq×bq}{ds:List (bq×bq)}{vs:List V}:HasV H (p::ds) vs↔∃v r,vs=v::r/\Has H p.2 v/\HasV H ds r:=by
 obtain⟨k,d⟩:=p;simp only[HasV,HasP]
theorem zK{vs:List V}:HasL H [] vs↔vs=[]:=by simp only[HasL]
theorem zu{d:bq}{ds:List bq}{vs:List V}:HasL H (d::ds) vs↔∃v r,vs=v::r/\Has H d v/\HasL H ds r:=by simp only[HasL]
theorem HasL.length:∀{ds:List bq}{vs:List V},HasL H ds vs->vs.length=ds.length
 | [],_,h=>by rw[zK.mp h];rfl
 |d::ds,vs,h=>by
  obtain⟨v,r,e,_,l⟩:=zu.mp h;rw[e,fy,fy,HasL.length l]
theorem HasL.get:∀{ds:List bq}{vs:List V}{i:Nat}{d:bq},HasL H ds vs->ds[i]?=some d->∃v,vs[i]?=some v/\Has H d v
 | [],_,_,_,_,e=>by simp at e
 |c::ds,vs,0,d,h,e=>by
  obtain⟨v,r,rfl,q,_⟩:=zu.mp h;simp at e;subst e;exact⟨v,rfl,q⟩
 |c::ds,vs,i+1,d,h,e=>by
  obtain⟨v,r,rfl,_,l⟩:=zu.mp h;obtain⟨u,e1,e2⟩:=HasL.get (i:=i) (d:=d) l (by simpa using e);exact⟨u,by simpa using e1,e2⟩
theorem HasL.append:∀{ds es:List bq}{vs us:List V},HasL H ds vs->HasL H es us->HasL H (ds++es) (vs++us)
 | [],es,vs,us,h,h'=>by rw[zK.mp h];exact h'
 |d::ds,es,vs,us,h,h'=>by
  obtain⟨v,r,rfl,q,l⟩:=zu.mp h;exact zu.mpr ⟨v,r++us,rfl,q,HasL.append l h'⟩
theorem GM:∀(ns:List Int),HasL H (ns.map .int) (ns.map V.int)
 | []=>zK.mpr rfl
 |n::ns=>zu.mpr ⟨_,_,rfl,eA.mpr rfl,GM ns⟩
end
def tyD:bq->String
 | .none=>"NoneType" | .bool _=>"bool" | .int _=>"int" | .str _=>"str" | .list _=>"list" | .tuple _=>"tuple" | .dict _=>"dict"
theorem Has.ty{K:cq}{H:Hp}{d:bq}{v:V}(h:Has H d v):TyOf K H v (.type (tyD d)):=by
 cases d with
 |none=>rw[uS.mp h];exact .non
 |bool b=>rw[nW.mp h];exact .bl b
 |int i=>rw[eA.mp h];exact .int i
 |str x=>rw[hV.mp h];exact .str x
 |list ds=>obtain⟨a,vs,rfl,e,_⟩:=eK.mp h;exact .lst e
 |tuple ds=>obtain⟨a,vs,rfl,e,_⟩:=d8.mp h;exact .tup e
 |dict kvs=>
  obtain⟨a,vs,rfl,e,_⟩:=Bs.mp h;rcases e with ⟨ob,m,e,_⟩|⟨ob,p,m,e,_⟩
  ·exact .dK (.inr ⟨ob,e⟩)
  ·exact .dT (.inr ⟨ob,e⟩)
def tH:List String:=["NoneType","bool","int","str","list","tuple","dict"]
def iK:List String:=["int","bool","str","list","tuple","dict"]
def jM(t c:String):Bool:=t==c||(t == "bool" && c == "int")
def mV(d:bq)(c:String):Bool:=jM (tyD d) c
theorem NU(d:bq):tyD d∈tH:=by cases d<;>simp[tyD,tH]
theorem JP(K:cq){t c:String}(ht:t∈tH)(hc:c∈iK):W.kitOne K (.type t) (.type c)=some (jM t c):=by
 simp only[tH,iK,gw,ge,or_false]at ht hc;rcases ht with rfl|rfl|rfl|rfl|rfl|rfl|rfl<;>rcases hc with rfl|rfl|rfl|rfl|rfl|rfl<;>rfl
def AV:List V->Hp->VK->Prop
 | [x,.ty c],H,Q=>∃d,Has H d x/\c∈iK/\Q (.bl (mV d c)) H
 |_,_,_=>False
theorem Nu{H:Hp}{d:bq}{x:V}{c:String}{Q:VK}(h:Has H d x)(hc:c∈iK)(q:Q (.bl (mV d c)) H):AV [x,.ty c] H Q:=⟨d,h,hc,q⟩
section
variable {X:Cx}
theorem rA:CallR X (.builtin "isinstance") AV:=by
 intro zg s σ H xs us Q I r h
 match xs,h with
 | [x,.ty c],h=>
  obtain⟨d,hx,hc,q⟩:=h;obtain⟨u,w',rfl,ru,z⟩:=vals2 r;cases (show w'=Value.type c from z);exact Gw I ru hx.ty (JP X.K (NU d) hc) fun tk=>⟨.bl _,H,I.tok tk,rfl,q⟩
end
def sp1(p:V->Hp->VK->Prop):Sp:=fun vs H Q _=>match vs with | [x]=>p x H Q|_=>False
def sp2(p:V->V->Hp->VK->Prop):Sp:=fun vs H Q _=>match vs with | [x,y]=>p x y H Q|_=>False
theorem FG{p:V->Hp->VK->Prop}:∀(vs:List V) (H:Hp) (Q:VK) (E:XK),sp1 p vs H Q E->∃x,vs=[x]/\p x H Q:=by
 intro vs H Q E h
 match vs,h with
 | [x],h=>exact⟨x,rfl,h⟩
theorem GE{p:V->V->Hp->VK->Prop}:∀(vs:List V) (H:Hp) (Q:VK) (E:XK),sp2 p vs H Q E->∃x y,vs=[x,y]/\p x y H Q:=by
 intro vs H Q E h
 match vs,h with
 | [x,y],h=>exact⟨x,y,rfl,h⟩
structure Dd(K:cq)(mg:Str->Option bn)(x:Str)(st:Stmt)(ps:List Str):Prop where
 ex:∃f fd,Fun K x x st f fd/\mg x=some (.ref f)/\Binds K fd ps []
structure Df(P:fg)(w:gg)(K:cq)(mg:Str->Option bn)(base:Heap)(x:Str)(ps:List Str)(k:Nat)(sp:Sp):Prop where
 ex:∃f fd,FnOk P w K mg base CX0 k f fd ps sp/\mg x=some (.ref f)/\rg K (.ref f)=true/\Binds K fd ps []
section
variable {P:fg}{w:gg}{K:cq}{mg:Str->Option bn}{base:Heap}{x a b c d e:Str}{st:Stmt}{N:List Str}{k:Nat}
theorem Df.of{ps:List Str}{sp:Sp}(D:Dd K mg x st ps)(S:FnScope N ps (zk st))(len:∀vs H Q E,sp vs H Q E->vs.length=ps.length)
  (hbody:∀(f:Addr) (cdv:bn) (A:gf) (outer:List Env) (s:bu) (H:Hp) (vs:List V) (Q:VK) (E:XK),Room k (A.deeper (iy x (zk st) s.heap.objs.size f cdv))->sp vs H Q E ->
   ∃t,PSs (bU CX0 P w K mg base N x (zk st) f cdv A outer s H E).nox (cR st) t/\t { nx:=fun _ H'=>Q .non H',rt:=Q } (start N vs) H):Df P w K mg base x ps (k+1) sp:=by
 obtain⟨f,fd,F,hm,hb⟩:=D.ex;exact⟨f,fd,F.ok S len (hbody f),hm,F.kp,hb⟩
theorem Df.of2{p:V->V->Hp->VK->Prop}(D:Dd K mg x st [a,b])(S:FnScope N [a,b] (zk st))(σ0:V->V->St)(hs:∀v u,start N [v,u]=σ0 v u)
  (hbody:∀(f:Addr) (z:bn) (A:gf) (outer:List Env) (s:bu) (H:Hp) (v u:V) (Q:VK) (E:XK),Room k (A.deeper (iy x (zk st) s.heap.objs.size f z))->p v u H Q ->
   ∃t,PSs (bU CX0 P w K mg base N x (zk st) f z A outer s H E).nox (cR st) t/\t { nx:=fun _ H'=>Q .non H',rt:=Q } (σ0 v u) H):Df P w K mg base x [a,b] (k+1) (sp2 p):=by
 refine Df.of D S (fun vs H Q E h=>?_) fun f z A outer s H vs Q E hr h=>?_
 ·obtain⟨x,y,rfl,_⟩:=GE vs H Q E h;rfl
 ·obtain⟨x,y,rfl,h⟩:=GE vs H Q E h;rw[hs];exact hbody f z A outer s H x y Q E hr h
end
def tC2(p:V->V->Hp->VK->Prop)(ta tb:TE):TE:=fun σ H Q=>ta σ H fun x H1=>tb σ H1 fun y H2=>p x y H2 Q
section
variable {X:Cx}{x a b c d e':Str}{k j:Nat}{pos pos':Pos}{e1 e2 e3 e4 e5:Expr}{t1 t2 t3 t4 t5:TE}
theorem Kg{p:V->V->Hp->VK->Prop}(D:Df X.prog X.w X.K X.mg X.base x [a,b] k (sp2 p))(hr:Room j X.A)(hk:k<=j)(h1:PE X e1 t1)(h2:PE X e2 t2)(hg:Gl X x:=by rfl)(z:(x==("__debug__":Str))=false:=by decide)
  (q1:fk [e1,e2] X.env=(false,eval e1 X.env)::fk [e2] X.env:=by rfl) (q2:fk [e2] X.env=(false,eval e2 X.env)::fk [] X.env:=by rfl)
  (hpl:(ph pos (fk [e2] X.env)).any (·.1)=false:=by rfl):PE X (.Call (.Name x pos') [e1,e2] [] pos) (tC2 p t1 t2):=by
 obtain⟨f,fd,F,hm,kp,hb⟩:=D.ex;intro zg s σ H Q I h;exact vC (dvs:=[]) (ds:=[]) (E:=E0) F (hr.mono hk) hg hm kp hb .nil pass0 (za h1 (za h2 ze q2) q1) z q1 hpl zg s σ H Q I h
end
theorem Dd.mk'{K:cq}{h:Heap}{mg:Str->Option bn}(X:K.In h)(G:h.Ns nu mg){x:Str}{st:Stmt}{ps:List Str}{f:Addr}{oc:bn}{od an:Option Addr}{ac:Array (Option bn)}{kV aa pm z ct:bn}
  (a:W.nsIn K nu x=some (some (.ref f))) (l:K.lookup f=some ⟨oc,od,.func (W.fnOf x x (gT st) (cR st) (zk st) .none kV aa pm an z ct),ac⟩)
  (c:W.codeIn K z x=true) (k:rg K (.ref f)=true)
  (hb:∀(kV aa pm:bn) (an:Option Addr) (z ct:bn) (us:List bn),us.length=ps.length->bindArgs (W.fnOf x x (gT st) (cR st) (zk st) .none kV aa pm an z ct) ⟨us,[]⟩=pure (ps.zip us)):Dd K mg x st ps:=
 ⟨f,_,uL (st:=st) l c k,sk X G a,(uL (st:=st) l c k).binds hb⟩
theorem eE:jc "len" = some (.builtin "len"):=by decide +kernel
theorem zH:jc "isinstance" = some (.builtin "isinstance"):=by decide +kernel
theorem sT:jc "max" = some (.builtin "max"):=by decide +kernel
theorem AS:jc "min" = some (.builtin "min"):=by decide +kernel
theorem yH:jc "int" = some (.type "int"):=by decide +kernel
theorem Cj:jc "bool" = some (.type "bool"):=by decide +kernel
theorem sK:jc "tuple" = some (.type "tuple"):=by decide +kernel
theorem sY:jc "dict" = some (.type "dict"):=by decide +kernel
section
variable {H:Hp}{Q:VK}
theorem Lg{i:Nat}{σ:St}:dL i σ H Q↔match σ[i]? with|some (some v)=>Q v H|_=>False:=by
 unfold dL;constructor
 ·rintro⟨v,e,q⟩;rw[e];exact q
 ·intro h;split at h
  ·rename_i v e;exact⟨v,e,h⟩
  ·exact h.elim
theorem CA{g:Int->Int->V}{i j:Int}:rI0 g (.int i) (.int j) H Q↔Q (g i j) H:=
 ⟨fun⟨_,_,e1,e2,q⟩=>by cases e1;cases e2;exact q,fun q=>⟨i,j,rfl,rfl,q⟩⟩
theorem HJ{p:Bool->Prop}{b:Bool}:(∃c,V.bl b=V.bl c/\p c)↔p b:=⟨fun⟨_,e,q⟩=>by cases e;exact q,fun q=>⟨b,rfl,q⟩⟩
end
section
variable {K:cq}{H:Hp}{Q:VK}{x y:V}{d:bq}{ds:List bq}
def vH(K:cq):List V->Hp->VK->Prop:=fun xs H Q=>∃p ys,xs=[.ref p]/\(SqL K H p ys\/SqT K H p ys)/\Q (.int ys.length) H
end
section
variable {X:Cx}
theorem LO:CallR X (.builtin "len") (vH X.K):=Bn
end
def hid(a:Addr)(H:Hp):Hp:=fun b=>if b=a then none else H b
theorem N7{a b:Addr}{H:Hp}(h:b≠a):hid a H b=H b:=cf h
theorem JF{a:Addr}{H:Hp}:hid a H a=none:=cp rfl
theorem Same.laid{H:Hp}{p:Addr}{o:HO}(h:H p=none):Same H (upd H p o):=fun b u e=>by
 rw[zG (zO e h)];exact e
section
variable {X:Cx}{zg:List (Addr×Obj)}{σ:St}{H:Hp}{s:bu}{a:Addr}{m:List (Key×V)}
theorem Inv.fz(I:Inv X zg σ H s)(e:H a=some (.dK m)):∃ob,Inv X zg σ (upd H a (.frz ob (.dK m))) s:=by
 have q:=(show ObjOk X.prog X.w H s.heap a (.dK m)from I.hok a _ e);obtain⟨_,_,vs,_,ob,es,ep,h1,_⟩:=id q;exact⟨ob,I.write (x:=a) (e:=a) (o:=.frz ob (.dK m)) (h':=s.heap) (t':=s.toks) (by rw[e];exact kz) (.inl rfl) (fun b v _ z=>z) ⟨ob,h1⟩ ⟨h1,q⟩⟩
def tU(t:TE):TE:=fun σ H Q=>t σ H fun v H1=>∃a m,v=.ref a/\H1 a=some (.dK m)/\∀ob,Q v (upd H1 a (.frz ob (.dK m)))
theorem pJ{e:Expr}{t:TE}(h:PE X e t):PE X e (tU t):=fun zg s σ H Q I hw=>
 thn (h zg s σ H _ I hw) fun u s1 ⟨v,H1,I1,r1,a,m,ev,ea,q⟩=>by
  obtain⟨ob,J⟩:=I1.fz ea;exact⟨v,_,J,r1,q ob⟩
def yP(i:Nat)(t:TS):TS:=fun D σ H=>t { D with nx:=fun σ' H'=>∃a m,σ'[i]?=some (some (.ref a))/\H' a=some (.dK m)/\∀ob,D.nx σ' (upd H' a (.frz ob (.dK m))) } σ H
theorem JV{i:Nat}{st:Stmt}{t:TS}(h:PS X st t):PS X st (yP i t):=fun zg s σ H D I hw=>
 thn (h zg s σ H _ I hw) fun f s1 q=>by
  cases f with
  |next=>
   obtain⟨σ1,H1,I1,a,m,e1,e2,q⟩:=q;obtain⟨ob,J⟩:=I1.fz e2;exact⟨σ1,_,J,q ob⟩
  |brk=>exact q
  |cont=>exact q
  |ret v=>exact q
end
end
section
theorem o7(d:bq):mV d "int" = match d with | .int _=>true | .bool _=>true|_=>false:=by cases d<;>first|rfl|(show jM _ _=_;simp[jM,tyD])
theorem rC(d:bq):mV d "bool" = match d with | .bool _=>true|_=>false:=by cases d<;>first|rfl|(show jM _ _=_;simp[jM,tyD])
theorem qP(d:bq):mV d "tuple" = match d with | .tuple _=>true|_=>false:=by cases d<;>first|rfl|(show jM _ _=_;simp[jM,tyD])
def vw:List Addr->Hp->Hp
 | [],H=>H
 |a::r,H=>hid a (vw r H)
def yF(K:cq):V->V->Hp->VK->Prop:=fun x y H Q=>∃(a:Addr) (ns:List Int) (i:Int),x=.ref a/\y=.int i/\SqL K H a (ns.map V.int)/\0<=i/\∀n,Q (.int n) H
theorem Hw{ns:List Int}{i:Int}(h0:0<=i)(h1:i<((ns.map V.int).length:Int)):∃n,atI (ns.map V.int) i=some (.int n):=by
 obtain⟨k,rfl⟩:=ix h0;have hk:k<ns.length:=by rw[gh]at h1;omega
 exact⟨ns[k],fR (by rw[iw,cw hk];rfl)⟩
theorem Gn{ns:List Int}{lo hi:Option Int}{x:V}(h:x∈dM (ns.map V.int) lo hi):∃n,x=.int n:=by
 have h1:=mem_of_mem_drop (qp h);obtain⟨n,_,e⟩:=mem_map.mp h1;exact⟨n,e.symm⟩
theorem Fun.bind1{K:cq}{x a:Str}{st:Stmt}{f:Addr}{fd:ng}(F:Fun K x x st f fd)
  (h:∀(kV z pm:bn) (an:Option Addr) (aa ct:bn) (u:bn),bindArgs (W.fnOf x x (gT st) (cR st) (zk st) .none kV z pm an aa ct) ⟨[u],[]⟩=pure [(a,u)]):∀(s:bu) (u:bn),BindsTo s fd ⟨[u],[]⟩ [(a,u)]:=by
 obtain⟨oc,od,kV,z,pm,an,aa,ct,ac,rfl,lk,ae⟩:=F.ex;exact fun s u=>.of_eq (h kV z pm an aa ct u)
def xZ(K:cq):V->Hp->VK->Prop:=fun x H Q=>∃(a:Addr) (ns:List Int),x=.ref a/\SqL K H a (ns.map V.int)/\ns.length<=63/\∀H',Q (.bl true) H'
theorem walk_law{l:W.OpenLaw}{k:Nat}{q:fg}{aa:List Str}{XP:(Str->Option bn)->Heap->Prop}{YP:gg->Heap->Prop}{d:DefRec}{K:Params->cq}(hn:l.most=some 63)(ac:d.params.defaults=[])
  (hr:Room k callerA) (hY:∀(w:gg) (h:Heap),YP w h->(K w.params).In h) (hT:∀(w:gg) (h:Heap),YP w h->TabsOk (K w.params) h)
  (F:∀(w:gg) (mg:Str->Option bn) (fa:Addr) (h:Heap),(K w.params).In h->h.Ns nu mg->mg d.name=some (.ref fa) ->
   ∃fd:ng,(∀(s:bu) (u:bn),BindsTo s fd ⟨[u],[]⟩ [("script",u)])/\∀base:Heap,(K w.params).In base->base.Ns nu mg->FnOk l.prog w (K w.params) mg base CX0 k fa fd ["script"] (sp1 (xZ (K w.params)))):
  W.WalkO q aa XP YP l.row.toRowW d [] (fun f vs=>PySem.call f vs):=
 L2.walk_of (n:=63) (k:=k) (x:="script") (CX:=fun _=>CX0) (sp:=fun w=>sp1 (xZ (K w.params))) hn dz ac hr hY hT F (fun _ _ a ns hl _ hS=>⟨a,ns,rfl,hS,hl,fun _=>rfl⟩) fun _ _ _ _ _ z=>z
theorem Fun.ok1{P:fg}{w:gg}{K:cq}{mg:Str->Option bn}{base:Heap}{x a:Str}{st:Stmt}{f:Addr}{fd:ng}{N:List Str}{k:Nat}{p:V->Hp->VK->Prop}(F:Fun K x x st f fd)(S:FnScope N [a] (zk st))(σ0:V->St)(hs:∀v,start N [v]=σ0 v)
  (hbody:∀(z:bn) (A:gf) (outer:List Env) (s:bu) (H:Hp) (v:V) (Q:VK) (E:XK),Room k (A.deeper (iy x (zk st) s.heap.objs.size f z))->p v H Q ->
   ∃t,PSs (bU CX0 P w K mg base N x (zk st) f z A outer s H E).nox (cR st) t/\t { nx:=fun _ H'=>Q .non H',rt:=Q } (σ0 v) H):FnOk P w K mg base CX0 (k+1) f fd [a] (sp1 p):=by
 refine F.ok S (fun vs H Q E h=>?_) fun z A outer s H vs Q E hr h=>?_
 ·obtain⟨x,rfl,_⟩:=FG vs H Q E h;rfl
 ·obtain⟨x,rfl,h⟩:=FG vs H Q E h;rw[hs];exact hbody z A outer s H x Q E hr h
end
section
mutual
theorem Has.reads{X:Cx}{zg:List (Addr×Obj)}{σ:St}{H:Hp}{s:bu}(I:Inv X zg σ H s):∀(d:bq) (v:V) (u:bn),Has H d v->d.canLay0=true->RelV v u->∃as,Reads s.heap u d as
 | .none,v,u,h,_,r=>by
  rw[uS.mp h]at r;cases (show u=jq from r);exact⟨_,.none⟩
 | .bool b,v,u,h,_,r=>by
  rw[nW.mp h]at r;cases (show u=uc b from r);exact⟨_,.bool b⟩
 | .int i,v,u,h,_,r=>by
  rw[eA.mp h]at r;obtain⟨t,q⟩:=(show ∃t,u=rn i t from r);cases q;exact⟨_,.int i t⟩
 | .str x,v,u,h,_,r=>by
  rw[hV.mp h]at r;obtain⟨t,q⟩:=(show ∃t,u=Value.str x t from r);cases q;exact⟨_,.str x t⟩
 | .list ds,v,u,h,c,r=>by
  obtain⟨a,vs,rfl,e,l⟩:=eK.mp h;cases (show u=fh a from r);obtain⟨_,z,n,rv,e1⟩:=(show ObjOk X.prog X.w H s.heap a (.lst vs)from I.hok a _ e);obtain⟨as,q⟩:=HasL.reads I ds vs z l (by simpa only[lg]using c) rv;exact⟨_,.list e1 rfl rfl (by simpa using q)⟩
 | .tuple ds,v,u,h,c,r=>by
  obtain⟨a,vs,rfl,e,l⟩:=d8.mp h;cases (show u=fh a from r);obtain⟨_,z,rv,o,e1,e2,n,e3⟩:=(show ObjOk X.prog X.w H s.heap a (.tup vs)from I.hok a _ e);obtain⟨as,q⟩:=HasL.reads I ds vs z l (by simpa only[lg]using c) rv;exact⟨_,.tuple e1 e2 e3 (by simpa using q)⟩
 | .dict _,_,_,_,c,_=>by simp[lg]at c
theorem HasL.reads{X:Cx}{zg:List (Addr×Obj)}{σ:St}{H:Hp}{s:bu}(I:Inv X zg σ H s):∀(ds:List bq) (vs:List V) (us:List bn),HasL H ds vs->md ds=true->Vals vs us->∃as,ReadsAll s.heap us ds as
 | [],vs,us,h,_,r=>by
  rw[zK.mp h]at r;cases r;exact⟨_,.nil⟩
 |d::ds,vs,us,h,c,r=>by
  obtain⟨v,w',rfl,h1,h2⟩:=zu.mp h;have c':d.canLay0=true/\md ds=true:=by simpa[md]using c
  cases r with
  |cons r1 r2=>
   obtain⟨as,q1⟩:=Has.reads I d v _ h1 c'.1 r1;obtain⟨bs,q2⟩:=HasL.reads I ds w' _ h2 c'.2 r2;exact⟨_,.cons q1 q2⟩
end
def Ag:R2:=fun x y H Q=>∃d e,Has H d x/\Has H e y/\gq d=true/\gq e=true/\Q (.bl (lh d e)) H
def B6:R2:=fun x y H Q=>∃d e,Has H d x/\Has H e y/\gq d=true/\gq e=true/\Q (.bl (!PyData.eqv d e)) H
section
variable {X:Cx}
theorem dJ(hu:X.A.units+64<rf):OpR X (jy .Eq) Ag:=by
 intro zg s σ H x y v u Q I rx ry h;obtain⟨d,e,hd,he,sd,se,q⟩:=h;obtain⟨as,q1⟩:=Has.reads I d x v hd (gv sd) rx;obtain⟨bs,q2⟩:=Has.reads I e y u he (gv se) ry;exact eq_dataH q1 q2 sd se hu ⟨.bl _,H,I,rfl,q⟩
theorem m4(hu:X.A.units+64<rf):OpR X (jy .NotEq) B6:=by
 intro zg s σ H x y v u Q I rx ry h;obtain⟨d,e,hd,he,sd,se,q⟩:=h;obtain⟨as,q1⟩:=Has.reads I d x v hd (gv sd) rx;obtain⟨bs,q2⟩:=Has.reads I e y u he (gv se) ry;exact ne_dataH q1 q2 sd se hu ⟨.bl _,H,I,rfl,q⟩
end
section
variable {prog:fg}{w:gg}{A:gf}{E:bn->bu->Prop}{s:bu}{l:Addr}
theorem LX{xs:Array (Int×Tok)}{Q:bn->bu->Prop}(hh:A.handled=none)(hl:s.heap.IsTuple l (qr xs))(aa:0<xs.size)
  (h:∀v h' tk,(qr xs)[px (fun i j=>decide (numAt xs i<numAt xs j)) (xs.size-1)]?=some v->(∀b o,s.heap.get? b=some o->h'.get? b=some o)->Q v { s with heap:=h',toks:=tk }):
  cv (model prog w) A (call (.builtin "min") [.ref l]) Q E s:=by
 have z:l<s.heap.objs.size:=by obtain⟨o,e,_⟩:=hl;exact fu e
 refine call_min_walk (qi hl ?_);refine⟨_,[_,l],[_],_,_,_,_,rfl,Walks.tuple (A:=A.in1) hh _ l (ir z) (qr xs),⟨⟨_,fj _ rfl,rfl,rfl⟩,hl.push _⟩,fun c hc=>?_,by simpa[qr]using aa,CmpOf.ints_lt (numAt xs) (fun _ _=>intItems_at),fun v h' tk hP hk=>?_⟩
 ·show c<(s.heap.push _).objs.size;rw[size_push];rcases mem_cons.mp hc with rfl|hc
  ·exact Nat.lt_succ_self _
  ·rcases mem_cons.mp hc with rfl|hc
   ·exact Nat.lt_succ_of_lt z
   ·cases hc
 ·refine h v h' tk (by simpa[qr]using hP) fun b o e=>hk b o (fun hm=>?_) (bw _ e);rcases mem_cons.mp hm with e1|hm
  ·exact absurd (e1▸fu e) (jp _)
  ·cases hm
theorem Is{xs:Array (Int×Tok)}{Q:bn->bu->Prop}(hh:A.handled=none)(hl:s.heap.IsTuple l (qr xs))(aa:0<xs.size)
  (h:∀v h' tk,(qr xs)[px (fun i j=>decide (numAt xs i>numAt xs j)) (xs.size-1)]?=some v->(∀b o,s.heap.get? b=some o->h'.get? b=some o)->Q v { s with heap:=h',toks:=tk }):
  cv (model prog w) A (call (.builtin "max") [.ref l]) Q E s:=by
 have z:l<s.heap.objs.size:=by obtain⟨o,e,_⟩:=hl;exact fu e
 refine call_max_walk (qi hl ?_);refine⟨_,[_,l],[_],_,_,_,_,rfl,Walks.tuple (A:=A.in1) hh _ l (ir z) (qr xs),⟨⟨_,fj _ rfl,rfl,rfl⟩,hl.push _⟩,fun c hc=>?_,by simpa[qr]using aa,CmpOf.ints_gt (numAt xs) (fun _ _=>intItems_at),fun v h' tk hP hk=>?_⟩
 ·show c<(s.heap.push _).objs.size;rw[size_push];rcases mem_cons.mp hc with rfl|hc
  ·exact Nat.lt_succ_self _
  ·rcases mem_cons.mp hc with rfl|hc
   ·exact Nat.lt_succ_of_lt z
   ·cases hc
 ·refine h v h' tk (by simpa[qr]using hP) fun b o e=>hk b o (fun hm=>?_) (bw _ e);rcases mem_cons.mp hm with e1|hm
  ·exact absurd (e1▸fu e) (jp _)
  ·cases hm
theorem nY{vs:List bn}{ns:List Int}(hi:pp vs ns):∃xs:Array (Int×Tok),vs.toArray=qr xs/\ns=xs.toList.map (·.1):=by
 obtain⟨xs,e⟩:=hi.allInts.items;exact⟨xs,e,by rw[<- hi.numsOf,<- nums_intItems,<- e]⟩
end
def vU(K:cq):List V->Hp->VK->Prop:=fun xs H Q=>∃p ns,xs=[.ref p]/\(SqL K H p (ns.map V.int)\/SqT K H p (ns.map V.int))/\ns≠[]/\∀m,m∈ns->(∀a,a∈ns->m<=a)->Q (.int m) H
def GQ(K:cq):List V->Hp->VK->Prop:=fun xs H Q=>∃p ns,xs=[.ref p]/\(SqL K H p (ns.map V.int)\/SqT K H p (ns.map V.int))/\ns≠[]/\∀m,m∈ns->(∀a,a∈ns->a<=m)->Q (.int m) H
section
variable {X:Cx}
theorem Le(hc:X.calm=true):CallR X (.builtin "min") (vU X.K):=by
 intro zg s σ H xs us Q I r h;obtain⟨p,ns,rfl,hq,aa,q⟩:=h;obtain⟨u,rfl,rx⟩:=vals1 r;cases (show u=fh p from rx);have done:∀(ys:Array (Int×Tok)) (v:bn) (h':Heap) (tk:Nat),ns=ys.toList.map (·.1)->0<ys.size->(qr ys)[px (fun i j=>decide (numAt ys i<numAt ys j)) (ys.size-1)]?=some v ->
   (∀b o,s.heap.get? b=some o->h'.get? b=some o)->EP X zg σ Q v { s with heap:=h',toks:=tk }:=by
  intro ys v h' tk z hsz hv hk;obtain⟨t,rfl⟩:=intItems_at hv;obtain⟨h1,h2⟩:=argBest_lt (numAt ys) (ys.size-1);refine⟨.int _,H,I.kept (t':=tk) hk,⟨t,rfl⟩,q _ ?_ fun a ha=>?_⟩
  ·rw[z,numAt_eq];exact getD_mem (by rw[gh,js];omega)
  ·rw[z]at ha;obtain⟨j,hj,rfl⟩:=mem_getD ha;rw[gh,js]at hj;rw[<- numAt_eq];exact h2 j yw
 rcases hq with hq|hq
 ·obtain⟨ac,rv,pl,_⟩:=I.list hq;obtain⟨ys,e,z⟩:=nY (kN rv);have hsz:0<ys.size:=by
   cases ys with
   |mk l=>cases l with
    |nil=>exact absurd z aa
    |cons _ _=>exact Nat.succ_pos _
  exact min_intList (I.ok.hd hc) (by rw[<- e];exact pl.isList) hsz fun v h' tk hv hk=>done ys v h' tk z hsz hv hk
 ·obtain⟨ac,rv,pl,_⟩:=I.tuple hq;obtain⟨ys,e,z⟩:=nY (kN rv);have hsz:0<ys.size:=by
   cases ys with
   |mk l=>cases l with
    |nil=>exact absurd z aa
    |cons _ _=>exact Nat.succ_pos _
  exact LX (I.ok.hd hc) (by rw[<- e];exact pl) hsz fun v h' tk hv hk=>done ys v h' tk z hsz hv hk
theorem ER(hc:X.calm=true):CallR X (.builtin "max") (GQ X.K):=by
 intro zg s σ H xs us Q I r h;obtain⟨p,ns,rfl,hq,aa,q⟩:=h;obtain⟨u,rfl,rx⟩:=vals1 r;cases (show u=fh p from rx);have done:∀(ys:Array (Int×Tok)) (v:bn) (h':Heap) (tk:Nat),ns=ys.toList.map (·.1)->0<ys.size->(qr ys)[px (fun i j=>decide (numAt ys i>numAt ys j)) (ys.size-1)]?=some v ->
   (∀b o,s.heap.get? b=some o->h'.get? b=some o)->EP X zg σ Q v { s with heap:=h',toks:=tk }:=by
  intro ys v h' tk z hsz hv hk;obtain⟨t,rfl⟩:=intItems_at hv;obtain⟨h1,h2⟩:=argBest_gt (numAt ys) (ys.size-1);refine⟨.int _,H,I.kept (t':=tk) hk,⟨t,rfl⟩,q _ ?_ fun a ha=>?_⟩
  ·rw[z,numAt_eq];exact getD_mem (by rw[gh,js];omega)
  ·rw[z]at ha;obtain⟨j,hj,rfl⟩:=mem_getD ha;rw[gh,js]at hj;rw[<- numAt_eq];exact h2 j yw
 rcases hq with hq|hq
 ·obtain⟨ac,rv,pl,_⟩:=I.list hq;obtain⟨ys,e,z⟩:=nY (kN rv);have hsz:0<ys.size:=by
   cases ys with
   |mk l=>cases l with
    |nil=>exact absurd z aa
    |cons _ _=>exact Nat.succ_pos _
  exact max_intList (I.ok.hd hc) (by rw[<- e];exact pl.isList) hsz fun v h' tk hv hk=>done ys v h' tk z hsz hv hk
 ·obtain⟨ac,rv,pl,_⟩:=I.tuple hq;obtain⟨ys,e,z⟩:=nY (kN rv);have hsz:0<ys.size:=by
   cases ys with
   |mk l=>cases l with
    |nil=>exact absurd z aa
    |cons _ _=>exact Nat.succ_pos _
  exact Is (I.ok.hd hc) (by rw[<- e];exact pl) hsz fun v h' tk hv hk=>done ys v h' tk z hsz hv hk
end
section
variable {K:cq}{o:List Addr}{σ:St}{H0:Hp}{t t1 t2 t3 t4 t5:TE}{ta:TA}{tt tu:TT}{d d1 d2 d3 d4 d5:bq}{ds:List bq}{b c:Bool}
def mL:bq->Bool
 | .none=>true
 |_=>false
end
def spD(a b:Int):bq:=.tuple [.int a,.int b]
end
section
theorem Ld{K:cq}{a:Addr}{ns:List Int}{N:Int}{j:Nat}{tb:TS}{D:Ends}{σ:St}{H:Hp}(P:St->Prop)(h0:σ[0]?=some (some (.ref a)))(hS:SqL K H a (ns.map V.int))(aa:ns.length<=63)(hP:P σ)
  (turn:∀(n:Int) (σ:St) (H1 H2:Hp),P σ->Same H H1->Same H1 H2->tb { D with nx:=fun σ' H'=>Same H1 H'/\P σ',ct:=fun σ' H'=>Same H1 H'/\P σ',bk:=D.nx } (σ.set j (some (.int n))) H2)
  (done:∀(σ:St) (H1:Hp),P σ->Same H H1->D.nx σ H1):
  k8 (xY K (tOp lK (iF (eJ (tC2 (yF K) (dL 0) (tC (.int 0))) mI)) (tSl (oB K) (dL 0) (m6 (tC (.int 1))) (m6 (tC (.int N)))))) (lI j) tb D σ H:=by
 refine⟨_,h0,a,ns,0,rfl,rfl,hS,by decide,fun n0=>⟨by show 1<=fc;decide,fun p hp=>?_⟩⟩;have s1:Same H (upd H p (.lst [.int n0])):=Same.laid hp;refine⟨_,h0,_,rfl,_,rfl,a,_,rfl,s1.seq hS,fun p2 z=>?_⟩;have s2:=s1.trans (Same.laid (o:=.lst (dM (ns.map V.int) (some 1) (some N))) z);have np:p≠p2:=zO zM z;have hz:(dM (ns.map V.int) (some 1) (some N)).length<=63:=ky (vK _ _ _) (by rw[gh];exact aa);refine⟨p,p2,_,_,rfl,rfl,by rw[zG np,zM],zM,kl (small1000 (by simp only[fy,length_nil];omega)),fun p3 ac=>?_⟩;have s3:=s2.trans (Same.laid (o:=.lst ([V.int n0]++dM (ns.map V.int) (some 1) (some N))) ac);refine⟨p3,rfl,⟨_,.of zM⟩,IX (K:=K) (a:=p3) (xs:=[V.int n0]++dM (ns.map V.int) (some 1) (some N)) (fun i σ' H'=>Same _ H'/\P σ') ⟨Same.refl _,hP⟩ (fun i σ H4 _ ⟨s4,_⟩=>.of (s4 _ _ zM)) ?_ ?_⟩
 ·rintro i x σ' H4 hi ⟨s4,p4⟩;obtain⟨n,rfl⟩:∃n,x=.int n:=by
   rcases mem_append.mp (cb hi)with m|m
   ·exact⟨n0,mem_singleton.mp m⟩
   ·exact Gn m
  exact turn n σ' _ H4 p4 s3 s4
 ·rintro σ' H4 ⟨s4,p4⟩;exact done σ' H4 p4 (s3.trans s4)
end
section
section
variable {prog:fg}{w:gg}{A:gf}{E:bn->bu->Prop}{R:Result->bu->Prop}{s:bu}
theorem Ly{elt aa iter:Expr}{ifs:List Expr}{scope:Scope}{pos:Pos}{it acc:bn}{env:Env}(I:Nat->bu->Prop)
  (turn:∀n s,I n s->cv (model prog w) A (pyNext it) (fun r s₁=>match r with
   |none=>R (.ok .next) s₁
   |some v=>cv (model prog w) A (letOwnedTupleGo aa it v) (fun _ s₀=>cv (model prog w) A (assign aa env v) (fun _ s₂=>
     cv (model prog w) A (forIn ifs true fun c r=>if r=true then do let ok <- isTrue c env (eval c env);pure (qt ok)else pure (qt r)) (fun ok s₃=>
      if ok=true then cv (model prog w) A (eval elt env) (fun x s₄=>
       cv (model prog w) A (call (.builtin "list.append") [acc,x]) (fun _ s₅=>∃m,m<n/\I m s₅) (fun _ _=>False) s₄) (fun _ _=>False) s₃
      else ∃m,m<n/\I m s₃) (fun _ _=>False) s₂) (fun _ _=>False) s₀) (fun _ _=>False) s₁) (fun _ _=>False) s)
  (n:Nat) (h:I n s):
  tw (model prog w) A (.compLoop (.ListComp elt [⟨aa,iter,ifs,0⟩] scope pos) 0 it acc env) R s:=by
 have up:∀{α:Type}{t:Sem α}{Q:α->bu->Prop}{E':bn->bu->Prop}{s':bu},cv (model prog w) A t Q (fun _ _=>False) s'->cv (model prog w) A t Q E' s':=fun h=>jj h (fun _ _ q=>q) fun _ _ z=>z.elim;refine codeAny_loop rfl I (fun n s hI=>?_) n h;show cv _ A ((compTurn (.ListComp elt [⟨aa,iter,ifs,0⟩] scope pos) 0 it acc env).onRaise (fun x=>do noteFrame x env;theTreesLotGoes x)) _ _ s;refine wpAny_noted ?_;rw[compTurn_list];refine bo (wpAny_standAt (bo (thn (up (turn n s hI)) fun r s₁ h₁=>?_)));cases r with
 |none=>exact cr h₁
 |some v=>
  refine bo (thn (up h₁) fun _ s₀ h₀=>?_);refine bo (thn (up h₀) fun _ s₂ h₂=>bo (thn (up h₂) fun ok s₃ h₃=>?_));cases ok with
  |false=>exact cr ⟨rfl,h₃⟩
  |true=>
   exact bo (bo (thn (up h₃) fun x s₄ h₄=>bo (thn (up h₄) fun _ s₅ h₅=>cr (cr ⟨rfl,h₅⟩))))
end
def cP(X:Cx)(scope:Scope)(cl:List (Str×Addr))(C:Addr)(s₃:bu)(H₃:Hp)(fp:List Addr)(N:List Str):Cx where
 prog:=X.prog
 w:=X.w
 K:=X.K
 mg:=X.mg
 base:=X.base
 A:=X.A
 N:=N
 s₀:=s₃
 H₀:=H₃
 env:=compEnvC scope cl C X.env
 outer:=X.stack
 stack:=X.stack
 ex:=fp
 fn:=fun _=>false
 calm:=X.calm
 pn:=[]
 xe:=fun _ _=>False
def PTs(X:Cx)(ifs:List Expr)(t:TT):Prop:=
 ∀(zg:List (Addr×Obj)) (s:bu) (σ:St) (H:Hp) (Q:Bool->Hp->Prop),Inv X zg σ H s->t σ H Q ->
  cv (model X.prog X.w) X.A (forIn ifs true fun c r=>if r=true then do let ok <- isTrue c X.env (eval c X.env);pure (qt ok)else pure (qt r)) (TP X zg σ Q) X.xe s
def EF:TT:=fun _ H Q=>Q true H
theorem iT{X:Cx}:PTs X [] EF:=fun _ _ _ H _ I h=>wpAny_tests_nil ⟨H,I,h⟩
theorem GK{X:Cx}{c:Expr}{t:TT}(h:PT X c t):PTs X [c] t:=fun zg s σ H Q I hw=>wpAny_tests_one (h zg s σ H Q I hw)
def tau(caps:List (Option Nat))(σ:St):St:=caps.map fun o=>o.bind fun i=>(σ[i]?).join
def rG(caps:List (Option Nat))(wi:TI)(g:TG)(tt:TT)(te:TE):TE:=fun σ H Q=>wi σ H fun J H1=>∀D,H1 D=none->∃W:Nat->Nat->St->Hp->Prop,(∃m,W 0 m (tau caps σ) (upd H1 D (.lst []))) /\
 ∀i m τ H2,W i m τ H2->(J.stop i H2/\Q (.ref D) H2)\/(J.go i H2/\∀x H3,J.yld i H2 x H3->g x τ H3 fun τ4 H4=>tt τ4 H4 fun b H5=>
  if b=true then te τ4 H5 fun v H6=>∃xs,H6 D=some (.lst xs)/\xs.length<fc/\∃m',m'<m/\W (i+1) m' τ4 (upd H6 D (.lst (xs++[v])))else ∃m',m'<m/\W (i+1) m' τ4 H5)
structure CompOk(X:Cx)(scope:Scope)(cl:List (Str×Addr))(N:List Str)(caps:List (Option Nat)):Prop where
 clos:closureFor scope X.env=pure cl
 sub:∀x c,cl.lookup x=some c->X.env.cells.lookup x=some c
 kind:scope.kind=.function
 cell:∀y∈scope.names,y.2≠.cell
 names:∀y∈scope.names,y.2=.local->scope.names.lookup y.1=some .local
 has:∀x,((relabel scope X.env).names.lookup x=some .cell\/(relabel scope X.env).names.lookup x=some .free)->∃c,cl.lookup x=some c
 cap:∀(j i:Nat) (x:Str),caps[j]?=some (some i)->N[j]?=some x->X.N[i]?=some x/\Vis X.env.scope x/\¬ X.env.kindOf x=some .local/\∃c,cl.lookup x=some c/\((relabel scope X.env).names.lookup x=some .cell\/(relabel scope X.env).names.lookup x=some .free)
 len:caps.length=N.length
section
variable {X:Cx}{scope:Scope}{cl:List (Str×Addr)}{N:List Str}{caps:List (Option Nat)}{tg iter elt:Expr}{ifs:List Expr}{pos:Pos}{wi:TI}{g:TG}{tt:TT}{te:TE}
theorem JY{zg:List (Addr×Obj)}{σ:St}{H:Hp}{s:bu}{fp:List Addr}{h₁:Heap}{t':Nat}(c:CompOk X scope cl N caps)(I:Inv X zg σ H s)(f:∀b∈fp,FpOk X zg H b)(fo:∀b∈fp,∃o,s.heap.get? b=some o)
  (hns:h₁.Ns s.heap.objs.size (fun _=>none)) (hk:∀b o,s.heap.get? b=some o->h₁.get? b=some o):
  Inv (cP X scope cl s.heap.objs.size s H fp N) [] (tau caps σ) H { s with heap:=h₁,toks:=t' }:=by
 have lt:∀b∈fp,b<s.heap.objs.size:=fun b hb=>by obtain⟨o,e⟩:=fo b hb;exact fu e
 have ac:∀x k,cl.lookup x=some k->∃v,s.heap.IsCell k v:=fun x k e=>I.cell x k (c.sub x k e);refine⟨⟨I.ok.mod,c.kind,I.ok.glob,I.ok.blt,dw _,fun x y k h1 h2=>I.ok.inj x y k (c.sub x k h1) (c.sub y k h2),fun x hx=>c.has x hx,fun x k h _=>absurd (show false=true from h) dz,I.ok.hd,I.ok.frames,.inl rfl,
  fun b hb=>⟨ir (lt b hb),fun x k e=>(f b hb).2.2.2.2.1 x k (c.sub x k e)⟩,I.bs,ky I.ok.bsz I.sz,fun b o e hb=>?_,fun b hb z=>?_,I.stack,I.stkFree⟩,
  rfl,I.bare,Un.kept hk,⟨_,hns,fun j x v h1 h2 h3=>?_⟩,fun x k e=>?_,I.hok.fresh (dw _),fun x k e=>I.freeC x k (c.sub x k e),fun p hp=>absurd (show p∈([]:List (Addr×Obj))from hp) yv,I.hok.kept hk,?_⟩
 ·rcases(f b hb).2.2.2.1 with q|q
  ·exact I.ok.noex b o e q
  ·exact absurd (gx (fu e) (ky I.ok.bsz q)) (jp _)
 ·rcases mem_cons.mp (I.stkSub b z)with q|q
  ·exact(f b hb).2.1 q
  ·exact(f b hb).2.2.1 q
 ·have aa:(caps.map fun o=>o.bind fun i=>(σ[i]?).join)[j]?=some (some v):=h2;rw[iw]at aa;cases e:caps[j]? with
  |none=>rw[e]at aa;cases aa
  |some oi=>
   rw[e]at aa;have h2'':(oi.bind fun i=>(σ[i]?).join)=some v:=gi aa;cases oi with
   |none=>cases h2''
   |some i=>
    have h4:(σ[i]?).join=some v:=h2'';have h5:σ[i]?=some (some v):=by
     cases q:σ[i]? with
     |none=>rw[q]at h4;cases h4
     |some w'=>rw[q]at h4;exact congrArg some h4
    obtain⟨k1,k2,k3,cc,k4,k5⟩:=c.cap j i x e h1;obtain⟨m,hn,hl⟩:=I.loc;obtain⟨u,r,l⟩:=hl i x v k1 h5 k2;refine⟨u,r,.inr ⟨k5,cc,k4,?_⟩⟩;rcases l with ⟨q,_⟩|⟨_,c',hc',hcell⟩
    ·exact(k3 q).elim
    ·rw[c.sub x cc k4]at hc';cases hc';exact hcell.keeps hk
 ·obtain⟨v,q⟩:=ac x k e;exact⟨v,q.keeps hk⟩
 ·show (caps.map _).length=N.length;rw[gh];exact c.len
theorem Ko{zg:List (Addr×Obj)}{σ τ:St}{H H':Hp}{s s':bu}{h':Heap}{fp:List Addr}(I:Inv X zg σ H s)(f:∀b∈fp,FpOk X zg H b)(J:Inv (cP X scope cl s.heap.objs.size s H fp N) [] τ H' s')(hs:io s.heap.objs.size s'.heap h'):
  Inv X zg σ H' { s' with heap:=h' }:=by
 have hC:H' s.heap.objs.size=none:=J.free;have keep:∀b o,b≠s.heap.objs.size->s'.heap.get? b=some o->h'.get? b=some o:=fun b o nb e=>hs.extBut b o nb e;have u1:Un (frs X.stack) (s.heap.objs.size::fp) H H' s.heap s'.heap:=Un.mono J.base (fun b hb=>hb) (fun b hb=>cz _ hb);have u2:Un (frs X.stack) (s.heap.objs.size::fp) H' H' s'.heap h':=
  ⟨fun b o e _ _ hx=>keep b o (fun z=>hx (by rw[z];exact fq)) e,fun b o e _ _ hx=>⟨o.slots,keep b o (fun z=>hx (by rw[z];exact fq)) e⟩,fun _ _ _ n _=>n,fun b o e hx=>⟨o,keep b o (fun z=>hx (by rw[z];exact fq)) e⟩,fun _ _ q=>q,fun _ _ _ q=>q,fun _ _ q=>q⟩
 have hok:HOk X.prog X.w H' h':=fun a o e=>(J.hok a o e).stay (fun b u hb q=>keep b u (fun z=>by
  rcases hb with hb|hb
  ·rw[<- hb,z,hC]at e;cases e
  ·rw[z,hC]at hb;cases hb) q) (fun b q=>q) fun b xs q=>q
 refine I.call' (s':={ s' with heap:=h' }) (ch:=s.heap.objs.size::fp) J.os (u1.trans u2) hok J.bare fun b hb=>?_;rcases mem_cons.mp hb with rfl|hb
 ·refine⟨.inr I.sz,tq I.lt,fun x k e z=>?_,fun p hp z=>?_⟩
  ·obtain⟨v,q⟩:=I.cell x k e;exact absurd q.lt (by rw[z];exact jp _)
  ·exact absurd (fu (I.pin p hp).1) (by rw[z];exact jp _)
 ·obtain⟨f0,f1,f2,f3,f4,f5⟩:=f b hb;exact⟨f3,f1,f4,f5⟩
theorem A1{zg:List (Addr×Obj)}{σ:St}{H2:Hp}{s2:bu}{it:Addr}{fp:List Addr}{tn:Nat->Heap->Prop}{J:It}{RR:bn->Addr->Result->bu->Prop}{E:bn->bu->Prop}(hc:X.calm=true)(c:CompOk X scope cl N caps)
  (I2:Inv X zg σ H2 s2) (T:Turn X.prog X.w X.K tg J fp it tn) (st2:tn 0 s2.heap) (f2:∀b∈fp,FpOk X zg H2 b)
  (hg:∀C s H fp,PG (cP X scope cl C s H fp N) tg g) (ht:∀C s H fp,PTs (cP X scope cl C s H fp N) ifs tt) (he:∀C s H fp,PE (cP X scope cl C s H fp N) elt te)
  (Q:VK) (hq:∀D,H2 D=none->∃W:Nat->Nat->St->Hp->Prop,(∃m,W 0 m (tau caps σ) (upd H2 D (.lst []))) /\
   ∀i m τ H2,W i m τ H2->(J.stop i H2/\Q (.ref D) H2)\/(J.go i H2/\∀x H3,J.yld i H2 x H3->g x τ H3 fun τ4 H4=>tt τ4 H4 fun b H5=>
    if b=true then te τ4 H5 fun v H6=>∃xs,H6 D=some (.lst xs)/\xs.length<fc/\∃m',m'<m/\W (i+1) m' τ4 (upd H6 D (.lst (xs++[v])))else ∃m',m'<m/\W (i+1) m' τ4 H5))
  (hRR:∀(D C:Addr) (H':Hp) (s':bu) (m:Str->Option bn),s'.heap.Ns C m->FpOk X zg H' C->(∀h',io C s'.heap h'->Inv X zg σ H' { s' with heap:=h' })->Q (.ref D) H'->RR (.ref D) C (.ok .next) s'):
  cv (model X.prog X.w) X.A (newList []) (fun acc s₃=>cv (model X.prog X.w) X.A (newFunctionEnv scope X.env.globals cl [] X.env.qual none .none (some X.env)) (fun af s₄=>
   tw (model X.prog X.w) X.A (.compStart (.ListComp elt [⟨tg,iter,ifs,0⟩] scope pos) 0 (.ref it) acc { af with scope:=relabel scope X.env }) (RR acc af.locals) s₄) E s₃) E s2:=by
 have hD:H2 s2.heap.objs.size=none:=I2.hok.fresh (dw _);obtain⟨W,⟨m0,w0⟩,aj⟩:=hq s2.heap.objs.size hD;have I3:Inv X zg σ (upd H2 s2.heap.objs.size (.lst [])) { s2 with heap:=s2.heap.push { cls:=.type "list",data:=.seq ([]:List bn).toArray } }:=I2.laid (t':=s2.toks) (fun b u e=>bw _ e) (dw _) ⟨ly _,[],0,.nil,fj _ rfl⟩;have fo:∀b∈fp,∃o,s2.heap.get? b=some o:=fun b hb=>by obtain⟨o,e,_⟩:=T.obj 0 _ st2 b hb;exact⟨o,e⟩
 have f3:∀b∈fp,FpOk X zg (upd H2 s2.heap.objs.size (.lst [])) b:=fun b hb=>by
  obtain⟨o,e⟩:=fo b hb;refine⟨?_,(f2 b hb).2⟩;rw[zG (ir (fu e))];exact(f2 b hb).1
 refine jx (wpAny_newFunctionEnv c.cell (by intro y hy;simp at hy) (fun h₁ ak al=>?_) c.kind);have hk:∀b o,(s2.heap.push { cls:=.type "list",data:=.seq ([]:List bn).toArray }).get? b=some o->h₁.get? b=some o:=fun b o e=>al.extBut b o (ir (fu e)) (bw _ e);have ah:tn 0 h₁:=T.keep 0 _ _ st2 fun b _ o e=>hk b o (bw _ e);have I4:=JY (t':=s2.toks+([]:List (Str×bn)).length) c I3 f3 (fun b hb=>by obtain⟨o,e⟩:=fo b hb;exact⟨o,bw _ e⟩) ak hk;have ac:∀{H':Hp},(∀b∈fp,H' b=none)->∀b∈fp,FpOk (cP X scope cl (s2.heap.push { cls:=.type "list",data:=.seq ([]:List bn).toArray }).objs.size { s2 with heap:=s2.heap.push { cls:=.type "list",data:=.seq ([]:List bn).toArray } } (upd H2 s2.heap.objs.size (.lst [])) fp N) [] H' b:=fun hn b hb=>
  ⟨hn b hb,(I4.ok.exf b hb).1,I4.ok.exfs b hb,.inl hb,(I4.ok.exf b hb).2,fun p hp=>absurd (show p∈([]:List (Addr×Obj))from hp) yv⟩
 have ae:tw (model X.prog X.w) X.A (.compLoop (.ListComp elt [⟨tg,iter,ifs,0⟩] scope pos) 0 (.ref it) (.ref s2.heap.objs.size) (compEnvC scope cl (s2.heap.push { cls:=.type "list",data:=.seq ([]:List bn).toArray }).objs.size X.env))
   (RR (.ref s2.heap.objs.size) (s2.heap.push { cls:=.type "list",data:=.seq ([]:List bn).toArray }).objs.size) { s2 with heap:=h₁,toks:=s2.toks+([]:List (Str×bn)).length }:=by
  refine Ly (fun n s'=>∃i τ H',Inv (cP X scope cl (s2.heap.push { cls:=.type "list",data:=.seq ([]:List bn).toArray }).objs.size { s2 with heap:=s2.heap.push { cls:=.type "list",data:=.seq ([]:List bn).toArray } } (upd H2 s2.heap.objs.size (.lst [])) fp N) [] τ H' s'/\tn i s'.heap/\(∀b∈fp,H' b=none)/\W i n τ H') ?_ m0 ⟨0,_,_,I4,ah,fun b hb=>(f3 b hb).1,w0⟩;rintro n s5 ⟨i,τ,H5,I5,ai,am,w5⟩;rcases aj i n τ H5 w5 with ⟨stop,qn⟩|⟨go,step⟩
  ·refine thn (T.done (cP X scope cl (s2.heap.push { cls:=.type "list",data:=.seq ([]:List bn).toArray }).objs.size { s2 with heap:=s2.heap.push { cls:=.type "list",data:=.seq ([]:List bn).toArray } } (upd H2 s2.heap.objs.size (.lst [])) fp N) rfl rfl rfl hc i [] s5 τ H5 (fun _ _=>False) I5 (ac am) ai stop) fun r s6 ⟨hr,I6⟩=>?_;subst hr;obtain⟨m,hn,_⟩:=id I6.loc;exact hRR _ _ H5 s6 m hn (I3.fpOk (dw _) I6.free) (fun h' hs=>Ko I3 f3 I6 hs) qn
  ·refine thn (T.item (cP X scope cl (s2.heap.push { cls:=.type "list",data:=.seq ([]:List bn).toArray }).objs.size { s2 with heap:=s2.heap.push { cls:=.type "list",data:=.seq ([]:List bn).toArray } } (upd H2 s2.heap.objs.size (.lst [])) fp N) rfl rfl rfl hc i [] s5 τ H5 (fun _ _=>False) I5 (ac am) ai go) fun r s6 ⟨u,hr,h6⟩=>?_;subst hr;refine thn h6 fun _ s7 ⟨x,H7,I7,r7,y7,ag,aq⟩=>?_;have I7':=I7.pinned (ac aq) (T.obj _ _ ag);refine thn (hg _ _ _ _ _ s7 τ H7 x u _ I7' r7 (step x H7 y7)) fun _ s8 ⟨τ8,H8,I8,q8⟩=>?_;refine thn (ht _ _ _ _ _ s8 τ8 H8 _ I8 q8) fun ok s9 ⟨H9,I9,q9⟩=>?_;have aa:∀{H':Hp}{s':bu}{m:Nat},Inv (cP X scope cl (s2.heap.push { cls:=.type "list",data:=.seq ([]:List bn).toArray }).objs.size { s2 with heap:=s2.heap.push { cls:=.type "list",data:=.seq ([]:List bn).toArray } } (upd H2 s2.heap.objs.size (.lst [])) fp N) ([]++qU fp s7.heap) τ8 H' s'->(m<n/\W (i+1) m τ8 H') ->
     ∃m,m<n/\∃i τ H',Inv (cP X scope cl (s2.heap.push { cls:=.type "list",data:=.seq ([]:List bn).toArray }).objs.size { s2 with heap:=s2.heap.push { cls:=.type "list",data:=.seq ([]:List bn).toArray } } (upd H2 s2.heap.objs.size (.lst [])) fp N) [] τ H' s'/\tn i s'.heap/\(∀b∈fp,H' b=none)/\W i m τ H':=fun {H' s' m} I' q=>by
    refine⟨m,q.1,i+1,τ8,H',I'.unpinned,T.keep _ _ _ ag fun b hb o e=>(I'.pin (b,o) (gm _ (gm _ (r6 hb e)))).1,fun b hb=>?_,q.2⟩;obtain⟨o,e,d⟩:=T.obj _ _ ag b hb;exact(I'.pin (b,o) (gm _ (gm _ (r6 hb e)))).2.1
   cases ok with
   |false=>
    rw[cf jk]at q9 ⊢;obtain⟨m',hm,w9⟩:=q9;exact aa I9 ⟨hm,w9⟩
   |true=>
    rw[cp rfl]at q9 ⊢;refine thn (he _ _ _ _ _ s9 τ8 H9 _ I9 q9) fun v an ⟨z,H10,I10,ap,xs,hx,hz,m',hm,ar⟩=>?_;refine thn (qI _ an τ8 H10 (.ref s2.heap.objs.size) [z] (.ref s2.heap.objs.size) [v] (fun _ H11=>W (i+1) m' τ8 H11) I10 rfl (.cons ap .nil) ⟨_,xs,z,rfl,rfl,hx,hz,ar⟩) fun _ as ⟨_,H11,I11,_,ao⟩=>?_;exact aa I11 ⟨hm,ao⟩
 exact codeAny_compStart_list ae (T.self _ 0 _ _ _ ah ae)
theorem iX(hx:∀e s,X.xe e s->False)(hc:X.calm=true)(c:CompOk X scope cl N caps)(hi:PI X tg iter wi)(hg:∀C s H fp,PG (cP X scope cl C s H fp N) tg g)(ht:∀C s H fp,PTs (cP X scope cl C s H fp N) ifs tt)(he:∀C s H fp,PE (cP X scope cl C s H fp N) elt te)
  (hs:∀x,foldedSetIterable iter X.env x=pure x:=by intro _;rfl):PE X (.ListComp elt [⟨tg,iter,ifs,0⟩] scope pos) (rG caps wi g tt te):=by
 intro zg s σ H Q I h;rw[eval_ListComp];refine wpAny_comprehension_free (use:=none) rfl hs c.clos c.kind c.names (thn (hi zg s σ H _ I h) fun v s1 h1=>thn h1 fun aa s2 h2=>?_);obtain⟨it,fp,tn,J,H2,e,I2,T,z,f2,q2⟩:=h2;subst e;exact A1 (RR:=fun acc C=>compPost (model X.prog X.w) X.A X.xe none (EP X zg σ Q) acc C) hc c I2 T z f2 hg ht he Q q2 fun D C H' s' m hn _ hb q=>⟨m,hn,fun h' hs=>⟨.ref D,H',hb h' hs,rfl,q⟩⟩
theorem BQ{i:Nat}{y:Str}{py aa:Pos}(hx:∀e s,X.xe e s->False)(hc:X.calm=true)(c:CompOk X scope cl N caps)(hN:X.N.Nodup)(ac:X.N[i]?=some y)(hl:X.env.scope.names.lookup y=some .local)(hi:PI X tg iter wi)(hg:∀C s H fp,PG (cP X scope cl C s H fp N) tg g)
  (ht:∀C s H fp,PTs (cP X scope cl C s H fp N) ifs tt) (he:∀C s H fp,PE (cP X scope cl C s H fp N) elt te)
  (hsw:swapsWith (.ListComp elt [⟨tg,iter,ifs,0⟩] scope pos) (some (.Name y py)) aa.line X.env=pure true:=by rfl)
  (hs:∀x,foldedSetIterable iter X.env x=pure x:=by intro _;rfl):PS X (.Assign [.Name y py] (.ListComp elt [⟨tg,iter,ifs,0⟩] scope pos) aa) (m5 (rG caps wi g tt te) (lI i)):=by
 intro zg s σ H D I h;rw[exec_Assign_Name_used _ _ _ _ hsw];refine bo (wpAny_standAt (bo ?_));show cv _ X.A (do let _ <- comprehension (.ListComp elt [⟨tg,iter,ifs,0⟩] scope pos) scope X.env _ (newList []) false (eval iter X.env) (some (assign (.Name y py) X.env))) _ _ s;refine bo (jj (wpAny_comprehension_free (use:=some (assign (.Name y py) X.env)) (Q:=fun _ s'=>SP X zg D .next s') rfl hs c.clos c.kind c.names (thn (hi zg s σ H _ I h) fun v s1 h1=>thn h1 fun af s2 h2=>?_)) (fun _ s' hq=>cr (cr hq)) fun _ _ e=>e);obtain⟨it,fp,tn,J,H2,e,I2,T,ae,f2,q2⟩:=h2;subst e;refine A1 (RR:=fun acc C=>compPost (model X.prog X.w) X.A X.xe (some (assign (.Name y py) X.env)) (fun _ s'=>SP X zg D .next s') acc C) hc c I2 T ae f2 hg ht he (fun v H'=>D.nx (σ.set i (some v)) H') q2 fun Da C H' s' m hn f hb q=>?_;obtain⟨o,es,ep,ho,hd,r⟩:=hn;have I':Inv X zg σ H' s':=hb s'.heap (Heap.SameBut.refl _ _);have I'':Inv X (zg++[(C,o)]) σ H' s':=I'.pins_of fun p hp=>(mem_append.mp hp).elim (fun z=>I'.pin p (gm _ z)) fun z=>by
  cases mem_singleton.mp z;exact⟨ho,f.1,f.2.1,f.2.2.1,fun v e=>by rw[hd]at e;cases e⟩
 refine wpAny_assign_Name (uQ I'' hN ac (.inl hl) (show RelV (V.ref Da) (fh Da)from rfl) (fun s2 J2=>?_) (.inr hl));refine⟨m,⟨o,es,ep,(J2.pin (C,o) (gm _ (gm _ (mem_singleton.mpr rfl)))).1,hd,r⟩,fun h' hs=>?_⟩;exact⟨_,H',J2.unpinned.turned (t':=s2.toks) (fun b ob nb e=>hs.extBut b ob nb e) f.1 f.2.1 f.2.2.2.1 f.2.2.2.2.1 f.2.2.2.2.2,q⟩
end
def fH(env:Env):List (Str×pc)->List (Str×Addr)->List (Str×Addr)
 | [],acc=>acc
 | (n,k)::r,acc=>fH env r (if k==.free then (n,(env.cells.lookup n).getD 0)::acc else acc)
theorem BU{env:Env}{x:Str}{c:Addr}:∀{names:List (Str×pc)}{acc:List (Str×Addr)},(x,c)∈fH env names acc->(x,c)∈acc\/((x,NameKind.free)∈names/\c=(env.cells.lookup x).getD 0)
 | [],_,h=>.inl h
 | (n,k)::r,acc,h=>by
  rcases BU (names:=r) h with h|⟨h,e⟩
  ·by_cases hk:k==.free
   ·rw[cp hk]at h;rcases mem_cons.mp h with h|h
    ·cases h;have:k=.free:=by simpa using hk
     subst this;exact .inr ⟨fq,rfl⟩
    ·exact .inl h
   ·rw[cf hk]at h;exact .inl h
  ·exact .inr ⟨cz _ h,e⟩
theorem Fz{env:Env}{p:Str×Addr}:∀{names:List (Str×pc)}{acc:List (Str×Addr)},p∈acc->p∈fH env names acc
 | [],_,h=>h
 | (n,k)::r,acc,h=>Fz (names:=r) (by split<;>first|exact cz _ h|exact h)
theorem v9{env:Env}{x:Str}:∀{names:List (Str×pc)}{acc:List (Str×Addr)},(x,NameKind.free)∈names->∃c,(x,c)∈fH env names acc
 | (n,k)::r,acc,h=>by
  rcases mem_cons.mp h with h|h
  ·cases h;exact⟨_,Fz (names:=r) (by rw[cp dz];exact fq)⟩
  ·exact v9 (names:=r) h
theorem yW{β:Type}{x:Str}{c:β}:∀{l:List (Str×β)},(x,c)∈l->∃c',l.lookup x=some c'
 | (n,v)::r,h=>by
  cases e:x==n with
  |true=>exact⟨v,by rw[ll,e]⟩
  |false=>
   rcases mem_cons.mp h with h|h
   ·cases h;simp at e
   ·obtain⟨c',q⟩:=yW (l:=r) h;exact⟨c',by rw[ll,e];exact q⟩
theorem Ni{env:Env}{scope:Scope}(h:∀y∈scope.names,y.2=.free->(env.cells.lookup y.1).isSome=true):closureFor scope env=pure (fH env scope.names []):=by
 have go:∀(names:List (Str×pc)) (acc:List (Str×Addr)),(∀y∈names,y.2=.free->(env.cells.lookup y.1).isSome=true) ->
   (forIn names acc (fun(x:Str×pc) (cs:List (Str×Addr))=>(if x.2==.free then (do let c <- cellOf env x.1;pure (qt ((x.1,c)::cs)))else pure (qt cs):Sem (ForInStep (List (Str×Addr))))))=(pure (fH env names acc):Sem (List (Str×Addr))):=by
  intro names;induction names with
  |nil=>intro acc _;rfl
  |cons y r ih=>
   intro acc hy;obtain⟨n,k⟩:=y;rw[forIn_cons];by_cases hk:k==.free
   ·have hs:=hy (n,k) fq (by simpa using hk);obtain⟨c,hc⟩:=isSome_iff_exists.mp hs;have aa:env.cells.lookup n=some c:=hc;simp only[hk,if_true,cellOf,aa,pure_bind,fH,Option.getD_some];exact ih _ fun y z=>hy y (cz _ z)
   ·simp only[hk,fm,if_false,pure_bind,fH];exact ih _ fun y z=>hy y (cz _ z)
 have g:=go scope.names [] h;exact(bind_pure _).trans g
def eL(DN:List Str)(dsc sc:List (Str×pc))(N:List Str)(caps:List (Option Nat)):Bool:=
 (caps.length==N.length)&&sc.all (fun y=>y.2 != .cell&&(y.2 != .free||dsc.lookup y.1==some .cell)&&(y.2 != .local||sc.lookup y.1==some .local)) &&
 (caps.zip N).all fun p=>match p.1 with|none=>true|some i=>DN[i]?==some p.2&&dsc.lookup p.2==some .cell&&sc.lookup p.2==some .free
theorem y8{dsc:List (Str×pc)}{env:Env}{x:Str}{k:pc}:∀{names:List (Str×pc)},(names.map fun(n,k)=>if (k==.free&&env.scope.kind==.function&&env.kindOf n==some .cell)then (n,.cell)else (n,k)).lookup x=some k ->
  ∃k',names.lookup x=some k'/\(k'=k\/(k'=.free/\k=.cell))
 | [],h=>by simp at h
 | (n,k0)::r,h=>by
  cases e:x==n with
  |true=>
   refine⟨k0,by rw[ll,e],?_⟩;rw[gc]at h;dsimp only at h;split at h
   ·rename_i hc;rw[ll,e]at h;have:k0=.free:=by simp at hc;exact hc.1.1
    cases h;exact .inr ⟨this,rfl⟩
   ·rw[ll,e]at h;cases h;exact .inl rfl
  |false=>
   rw[gc]at h;dsimp only at h;have h':(r.map fun(n,k)=>if (k==NameKind.free&&env.scope.kind==.function&&env.kindOf n==some .cell)then (n,NameKind.cell)else (n,k)).lookup x=some k:=by
    split at h<;>(rw[ll,e]at h;exact h)
   obtain⟨k',q,z⟩:=y8 (dsc:=dsc) h';exact⟨k',by rw[ll,e];exact q,z⟩
theorem Cd{env:Env}{x:Str}(h1:env.scope.kind=.function)(h2:env.kindOf x=some .cell):∀{names:List (Str×pc)},names.lookup x=some .free ->
  (names.map fun(n,k)=>if (k==.free&&env.scope.kind==.function&&env.kindOf n==some .cell)then (n,.cell)else (n,k)).lookup x=some .cell
 | [],h=>by simp at h
 | (n,k0)::r,h=>by
  rw[gc];cases e:x==n with
  |true=>
   rw[ll,e]at h;cases h;have en:x=n:=by simpa using e
   subst en;dsimp only;rw[cp (by rw[h1,h2];decide),ll,e]
  |false=>
   rw[ll,e]at h;have ih:=Cd h1 h2 (names:=r) h;dsimp only;split<;>(rw[ll,e];exact ih)
theorem fZ{X:Cx}{dsc:Scope}{L:Nat}{scope:Scope}{N:List Str}{caps:List (Option Nat)}(hd:X.env.scope=dsc)(hc:X.env.cells=cellsFrom L dsc.names [])(ah:dsc.kind=.function)(hk:scope.kind=.function)(h:eL X.N dsc.names scope.names N caps=true):
  CompOk X scope (fH X.env scope.names []) N caps:=by
 subst hd;simp only[eL,jn,all_eq_true,beq_iff_eq]at h;obtain⟨⟨hl,hs⟩,hz⟩:=h;have ac:∀y∈scope.names,y.2=.free->X.env.scope.names.lookup y.1=some .cell:=fun y hy e=>by
  have q:=(hs y hy).1.2;rw[e]at q;simpa using q
 have aa:∀y∈scope.names,y.2≠.cell:=fun y hy e=>by
  have q:=(hs y hy).1.1;rw[e]at q;simp at q
 have ae:∀x,X.env.scope.names.lookup x=some .cell->(X.env.cells.lookup x).isSome=true:=fun x e=>by
  rw[hc];exact W.cellsFrom_some _ _ _ (.inl e)
 have sub:∀x c,(fH X.env scope.names []).lookup x=some c->X.env.cells.lookup x=some c:=fun x c e=>by
  rcases BU (PySem.mem_of_lookup e)with q|⟨q,ec⟩
  ·cases q
  ·obtain⟨c',af⟩:=isSome_iff_exists.mp (ae x (ac _ q rfl));rw[ec,af];rfl
 refine⟨Ni fun y hy e=>ae y.1 (ac y hy e),sub,hk,aa,fun y hy e=>?_,fun x hx=>?_,fun j i x h1 h2=>?_,hl⟩
 ·have q:=(hs y hy).2;rw[e]at q;simpa using q
 ·have fin:(x,NameKind.free)∈scope.names->∃c,(fH X.env scope.names []).lookup x=some c:=fun m=>by
   obtain⟨c,hm⟩:=v9 (env:=X.env) (acc:=[]) m;exact yW hm
  rcases hx with hx|hx
  ·obtain⟨k',q,z⟩:=y8 (dsc:=[]) hx;rcases z with rfl|⟨rfl,_⟩
   ·exact absurd rfl (aa _ (PySem.mem_of_lookup q))
   ·exact fin (PySem.mem_of_lookup q)
  ·obtain⟨k',q,z⟩:=y8 (dsc:=[]) hx;rcases z with rfl|⟨_,z⟩
   ·exact fin (PySem.mem_of_lookup q)
   ·cases z
 ·have hm:(some i,x)∈caps.zip N:=by
   have:(caps.zip N)[j]?=some (some i,x):=by rw[List.getElem?_zip_eq_some];exact⟨h1,h2⟩
   exact cb this
  have q:=hz _ hm;simp only[jn,beq_iff_eq]at q;obtain⟨⟨q1,q2⟩,q3⟩:=q;obtain⟨c,ag⟩:=v9 (env:=X.env) (acc:=[]) (PySem.mem_of_lookup q3);obtain⟨c',af⟩:=yW ag;refine⟨q1,.inr (.inl q2),fun z=>?_,c',af,.inl (Cd ah q2 q3)⟩;have z':X.env.scope.names.lookup x=some .local:=z;rw[q2]at z';cases z'
end
section
section
variable {X:Cx}
def AX:R2:=fun x y H Q=>∃z n,x=.str z/\y=.int n/\z.length<=1000/\n<=1000/\-1000<=n/\Q (.str (PySem.Txt.mul z n)) H
theorem JL{z:Str}{n:Int}(h1:z.length<=1000)(h2:n<=1000)(h3:-1000<=n):PySem.MulOk z n:=by
 refine⟨by simp;omega,fun a _ b=>?_,fun a _=>?_⟩
 ·have e:(1000:Int)<=(2 ^ 63-1)/n:=by
   rw[Int.le_ediv_iff_mul_le yw];have:=Int.mul_le_mul_of_nonneg_left h2 (show (0:Int)<=1000 by decide);omega
  omega
 ·have e:z.length*n.toNat<=1000*1000:=Nat.mul_le_mul h1 yw;unfold Builtin.Str.tooLong;simp only[decide_eq_false_iff_not,Nat.not_lt];exact ky e dz
theorem HG:OpR X (lx .Mult) AX:=by
 intro zg s σ H x y v u Q I rx ry h;obtain⟨z,n,rfl,rfl,h1,h2,h3,q⟩:=h;obtain⟨t,rfl⟩:=rx;obtain⟨t',rfl⟩:=ry;exact PySem.SB.mul (JL h1 h2 h3) fun _ k=>⟨.str _,H,I.tok _,⟨_,rfl⟩,q⟩
def E2:V->Option Int->Option Int->Hp->VK->Prop:=fun x lo hi H Q=>∃z,x=.str z/\z.length<=fc/\Q (.str (PySem.Txt.slice z lo hi)) H
theorem Gq:SlR X E2:=by
 intro zg s σ H x v vl vu lo hi sl Q I rx hs pl pu h;obtain⟨z,rfl,hz,q⟩:=h;obtain⟨t,rfl⟩:=rx;refine⟨"str",_,F.slot_str_getitem.lookup,typeIs_str _ _ _,?_⟩;have fin:∀(a b:Option (Int×Tok)),a.map (·.1)=lo->b.map (·.1)=hi->s.heap.IsSlice sl a b none->cv (model X.prog X.w) X.A (getItem (.str z t) (.ref sl)) (EP X zg σ Q) X.xe s:=fun a b e1 e2 aa=>by
  subst e1 e2;exact wpAny_getItem_str_slice (l:=a) (u:=b) (st:=none) aa rfl (post_val_or_str ⟨ky (PySem.Txt.slice_le z _ _) hz,fun _ k=>⟨.str _,H,I.tok _,⟨_,rfl⟩,q⟩⟩)
 cases pl with
 |none=>
  cases pu with
  |none=>exact fin none none rfl rfl hs
  |int j tj=>exact fin none (some (j,tj)) rfl rfl hs
 |int i ti=>
  cases pu with
  |none=>exact fin (some (i,ti)) none rfl rfl hs
  |int j tj=>exact fin (some (i,ti)) (some (j,tj)) rfl rfl hs
theorem ES:∀{zs:List Str}{us:List bn},Vals (zs.map V.str) us->StrsAre us zs
 | [],_,.nil=>.nil
 |z::zs,_,.cons r t=>by
  obtain⟨tk,rfl⟩:=r;exact .cons z tk (ES t)
def Ef(K:cq):V->List V->Hp->VK->Prop:=fun x vs H Q=>∃z a zs,x=.str z/\vs=[.ref a]/\SqL K H a (zs.map V.str)/\z.length<=16/\zs.length<=1000/\(∀y∈zs,y.length<=1000)/\Q (.str (PySem.Txt.join z zs)) H
theorem Ec{zs:List Str}(h:∀y∈zs,y.length<=1000):(zs.map (·.length)).sum<=zs.length*1000:=by
 induction zs with
 |nil=>simp
 |cons z zs ih=>
  have h1:=h z fq;have h2:=ih fun y hy=>h y (cz _ hy);simp only[gc,rh,fy,Nat.add_mul,Nat.one_mul];omega
theorem NS:MtR X "str.join" (Ef X.K):=by
 intro zg s σ H x vs v us Q I rx rv h;obtain⟨z,a,zs,rfl,rfl,hq,hz,hn,hl,q⟩:=h;obtain⟨t,rfl⟩:=rx;obtain⟨u,rfl,r1⟩:=rv.one;cases r1;obtain⟨aa,r,pl,hsz⟩:=I.list hq;have hs:=Ec hl;refine join_listW pl.isList (by simpa using ES r) hz yw fun _ k=>⟨.str _,H,I.tok _,⟨_,rfl⟩,q⟩
end
section
variable {K:cq}{o:List Addr}{σ:St}{H0:Hp}{t:TE}{ta:TA}{ds:List bq}
def gS(lo:Int)(n:Nat):List bq:=(jb n).map fun k:Nat=>.int (lo+k)
theorem iO{lo:Int}{n:Nat}:(gS lo n).length=n:=by simp[gS]
theorem iB{lo:Int}{n i:Nat}{d:bq}(h:(gS lo n)[i]?=some d):i<n/\d=.int (lo+i):=by
 have hi:i<n:=by
  have:=List.getElem?_eq_some_iff.mp h;obtain⟨hl,_⟩:=this
  rwa [iO]at hl
 refine⟨hi,?_⟩;simp only[gS,iw,List.getElem?_range hi,map_some,Option.some.injEq]at h;exact h.symm
end
theorem Gg{y:Str}{zs:List Str}(hy:y.length<=16)(hz:∀z∈zs,z.length<=1000):(PySem.Txt.join y zs).length<=zs.length*1016:=by
 show (Builtin.Str.glued y zs).length<=_;rw[StrLaws.glued_eq_join];cases zs with
 |nil=>exact ly _
 |cons a r=>
  rw[len_join_cons];have h1:=Ec hz;have h2:r.length*y.length<=r.length*16:=Nat.mul_le_mul_left _ hy;simp only[fy]at h1 ⊢;omega
def aV{α:Type}(xs:List α)(lo hi:Option Int):List α:=(xs.drop (HT.sIx xs.length 0 lo)).take (HT.sIx xs.length xs.length hi-HT.sIx xs.length 0 lo)
theorem HasL.drop{H:Hp}:∀{ds:List bq}{vs:List V} (n:Nat),HasL H ds vs->HasL H (ds.drop n) (vs.drop n)
 |ds,vs,0,h=>h
 | [],vs,n+1,h=>by rw[zK.mp h];exact zK.mpr rfl
 |d::ds,vs,n+1,h=>by
  obtain⟨v,r,rfl,_,l⟩:=zu.mp h;exact HasL.drop n l
theorem HasL.take{H:Hp}:∀{ds:List bq}{vs:List V} (n:Nat),HasL H ds vs->HasL H (ds.take n) (vs.take n)
 |ds,vs,0,h=>zK.mpr rfl
 | [],vs,n+1,h=>by rw[zK.mp h];exact zK.mpr rfl
 |d::ds,vs,n+1,h=>by
  obtain⟨v,r,rfl,q,l⟩:=zu.mp h;exact zu.mpr ⟨v,_,rfl,q,HasL.take n l⟩
theorem HasL.cut{H:Hp}{ds:List bq}{vs:List V}(lo hi:Option Int)(h:HasL H ds vs):HasL H (aV ds lo hi) (dM vs lo hi):=by
 unfold aV dM;rw[h.length];exact(h.drop _).take _
theorem HasL.rev{H:Hp}:∀{ds:List bq}{vs:List V},HasL H ds vs->HasL H ds.reverse vs.reverse
 | [],vs,h=>by rw[zK.mp h];exact zK.mpr rfl
 |d::ds,vs,h=>by
  obtain⟨v,r,rfl,q,l⟩:=zu.mp h;rw[reverse_cons,reverse_cons];exact(HasL.rev l).append (zu.mpr ⟨v,[],rfl,q,zK.mpr rfl⟩)
end
section
theorem Be:∀{l:List Addr}{H:Hp}{b:Addr}{u:HO},vw l H b=some u↔b∉l/\H b=some u
 | [],H,b,u=>by simp[vw]
 |a::r,H,b,u=>by
  show hid a (vw r H) b=some u↔_;by_cases h:b=a
  ·subst h;simp[JF]
  ·rw[N7 h,Be];simp[h]
def vx(h o:List Addr)(H:Hp):Hp:=vw (h++o) H
theorem zZ{h o:List Addr}{H:Hp}{b:Addr}{u:HO}:vx h o H b=some u↔b∉h/\b∉o/\H b=some u:=by
 unfold vx;rw[Be];simp[and_assoc]
theorem zW{h o:List Addr}{H:Hp}:Same (vx h o H) H:=fun b u e=>(zZ.mp e).2.2
theorem gE{h o:List Addr}{H H':Hp}(s:Same H H'):Same (vx h o H) (vx h o H'):=fun b u e=>by
 obtain⟨h1,h2,h3⟩:=zZ.mp e;exact zZ.mpr ⟨h1,h2,s b u h3⟩
structure Ex(o:List Addr)(H:Hp)(o':List Addr)(H':Hp):Prop where
 pre:∃r,o'=o++r
 kp:∀b u,b∉o->H b=some u->b∉o'/\H' b=some u
section
variable {h o o' o'':List Addr}{H H' H'':Hp}{S:List (List bq)}{p a:Addr}
theorem Ex.refl:Ex o H o H:=⟨⟨[],yv⟩,fun _ _ a b=>⟨a,b⟩⟩
theorem Ex.trans(a:Ex o H o' H')(b:Ex o' H' o'' H''):Ex o H o'' H'':=by
 obtain⟨⟨r,e⟩,ka⟩:=a;obtain⟨⟨t,e'⟩,kb⟩:=b;refine⟨⟨r++t,by rw[e',e,ig]⟩,fun b u h1 h2=>?_⟩;obtain⟨h3,h4⟩:=ka b u h1 h2;exact kb b u h3 h4
theorem Ex.vx(e:Ex o H o' H'):Same (L2.vx h o H) (L2.vx h o' H'):=fun b u q=>by
 obtain⟨h1,h2,h3⟩:=zZ.mp q;obtain⟨h4,h5⟩:=e.kp b u h2 h3;exact zZ.mpr ⟨h1,h4,h5⟩
structure ExH(h o:List Addr)(H:Hp)(o':List Addr)(H':Hp):Prop where
 pre:∃r,o'=o++r
 kp:∀b u,b∉h->b∉o->H b=some u->b∉o'/\H' b=some u
theorem Ex.hid(e:Ex o H o' H'):ExH h o H o' H':=⟨e.pre,fun b u _=>e.kp b u⟩
theorem ExH.refl:ExH h o H o H:=Ex.refl.hid
theorem ExH.trans(a:ExH h o H o' H')(b:ExH h o' H' o'' H''):ExH h o H o'' H'':=by
 obtain⟨⟨r,e⟩,ka⟩:=a;obtain⟨⟨t,e'⟩,kb⟩:=b;refine⟨⟨r++t,by rw[e',e,ig]⟩,fun b u h0 h1 h2=>?_⟩;obtain⟨h3,h4⟩:=ka b u h0 h1 h2;exact kb b u h0 h3 h4
theorem ExH.vx(e:ExH h o H o' H'):Same (L2.vx h o H) (L2.vx h o' H'):=fun b u q=>by
 obtain⟨h1,h2,h3⟩:=zZ.mp q;obtain⟨h4,h5⟩:=e.kp b u h1 h2 h3;exact zZ.mpr ⟨h1,h4,h5⟩
theorem Ex.of_same(s:Same H H'):Ex o H o H':=⟨⟨[],yv⟩,fun b u h e=>⟨h,s b u e⟩⟩
theorem gF{α:Type}{l t:List α}{k:Nat}{a:α}(q:l[k]?=some a):(l++t)[k]?=some a:=by
 obtain⟨hk,_⟩:=List.getElem?_eq_some_iff.mp q;rw[ft hk];exact q
def exO(a C:Addr)(d:Option Addr):HO:=.ext fun h=>∃o,h.get? a=some o/\o.cls=.ref C/\o.dict=d/\∃vs,o.data=.fields vs
def xw(dx:Addr)(fs:List (Str×V)):HO:=.ext fun h=>∃mA,h.Ns1 dx mA/\(∀f,RelO (fs.lookup f) (mA f))/\PySem.Within mA (fs.map (·.1))
def HasE(H:Hp)(C:Addr)(fs:List (Str×bq))(v:V):Prop:=∃a d,v=.ref a/\H a=some (exO a C d)/\∀f dt,fs.lookup f=some dt->∃dx vs u,d=some dx/\H dx=some (xw dx vs)/\vs.lookup f=some u/\Has H dt u
theorem HasE.mono{H H':Hp}{C:Addr}{fs:List (Str×bq)}{v:V}(s:Same H H')(q:HasE H C fs v):HasE H' C fs v:=by
 obtain⟨a,d,e,ha,hf⟩:=q;refine⟨a,d,e,s _ _ ha,fun f dt l=>?_⟩;obtain⟨dx,vs,u,e1,e2,e3,e4⟩:=hf f dt l;exact⟨dx,vs,u,e1,s _ _ e2,e3,Has.mono s _ _ e4⟩
inductive XV where
 |d (d:bq)
 |l (k:Nat)
 |o (v:V)
 |x (C:Addr) (fs:List (Str×bq))
 |p (k:Nat) (d:bq)
def HasLP(h o:List Addr)(H:Hp)(k:Nat)(d:bq)(v:V):Prop:=∃t a u,v=.ref t/\o[k]?=some a/\vx h o H t=some (.tup [.ref a,u])/\Has (vx h o H) d u
theorem HasLP.to{h':List Addr}{k:Nat}{d:bq}{v:V}(s:Same (vx h o H) (vx h' o' H'))(e:∀a,o[k]?=some a->o'[k]?=some a)(q:HasLP h o H k d v):HasLP h' o' H' k d v:=by
 obtain⟨t,a,u,e1,e2,e3,e4⟩:=q;exact⟨t,a,u,e1,e a e2,s _ _ e3,Has.mono s _ _ e4⟩
def HasX(h o:List Addr)(H:Hp):XV->V->Prop
 | .d d,v=>Has (vx h o H) d v
 | .l k,v=>∃a,o[k]?=some a/\v=.ref a
 | .o w,v=>v=w
 | .x C fs,v=>HasE (vx h o H) C fs v
 | .p k d,v=>HasLP h o H k d v
theorem HasX.mono(e:Ex o H o' H'):∀{x:XV}{v:V},HasX h o H x v->HasX h o' H' x v
 | .d d,v,q=>Has.mono e.vx d v q
 | .l k,v,⟨a,q,r⟩=>by
  obtain⟨t,rfl⟩:=e.pre;exact⟨a,gF q,r⟩
 | .o w,v,q=>q
 | .x C fs,v,q=>HasE.mono e.vx q
 | .p k d,v,q=>by
  have ev:=e.vx (h:=h);obtain⟨t,rfl⟩:=e.pre;exact HasLP.to ev (fun a z=>gF z) q
def HasXs(h o:List Addr)(H:Hp):List XV->List V->Prop
 | [],vs=>vs=[]
 |x::xs,vs=>∃v r,vs=v::r/\HasX h o H x v/\HasXs h o H xs r
abbrev Sto:=List (List bq)
inductive MO where
 |l (vs:List V)
 |k (m:List (Key×V))
 |t (m:List (List Key×V))
 |x (a:Addr) (ob:Obj)
def MO.ho:MO->HO
 | .l vs=>.lst vs
 | .k m=>.dK m
 | .t m=>.dT m
 | .x a ob=>obO a ob
structure RepS(h o:List Addr)(H:Hp)(S:Sto):Prop where
 len:S.length=o.length
 nd:o.Nodup
 dis:∀a∈o,a∉h
 hal:∀b∈h,∃u:MO,H b=some u.ho
 cont:∀(k:Nat) (a:Addr) (ds:List bq),o[k]?=some a->S[k]?=some ds->∃vs,H a=some (.lst vs)/\HasL (vx h o H) ds vs
theorem IL{α β:Type}{l:List α}{t:List β}{k:Nat}{a:α}(hl:t.length=l.length)(q:l[k]?=some a):∃b,t[k]?=some b:=by
 obtain⟨hk,_⟩:=List.getElem?_eq_some_iff.mp q;exact⟨t[k]'yw,cw _⟩
theorem RepS.oal(r:RepS h o H S):∀a∈o,∃u,H a=some (.lst u):=fun a ha=>by
 obtain⟨k,hk⟩:=mem_iff_getElem?.mp ha;obtain⟨ds,e⟩:=IL r.len hk;obtain⟨vs,e',_⟩:=r.cont k a ds hk e;exact⟨_,e'⟩
theorem RepS.oam(r:RepS h o H S):∀a∈o,∃u:MO,H a=some u.ho:=fun a ha=>let ⟨u,e⟩:=r.oal a ha;⟨.l u,e⟩
theorem RepS.fresh(r:RepS h o H S)(hp:H p=none):p∉h/\p∉o:=by
 constructor
 ·intro m;obtain⟨u,e⟩:=r.hal p m;rw[hp]at e;cases e
 ·intro m;obtain⟨u,e⟩:=r.oal p m;rw[hp]at e;cases e
theorem RepS.same(r:RepS h o H S)(s:Same H H'):RepS h o H' S where
 len:=r.len
 nd:=r.nd
 dis:=r.dis
 hal:=fun b m=>by obtain⟨u,e⟩:=r.hal b m;exact⟨u,s b _ e⟩
 cont:=fun k a ds e1 e2=>by
  obtain⟨vs,e3,l⟩:=r.cont k a ds e1 e2;exact⟨vs,s _ _ e3,HasL.mono (gE s) _ _ l⟩
theorem RepS.laid{u:HO}(r:RepS h o H S)(hp:H p=none):vx h o (upd H p u) p=some u:=by
 obtain⟨h1,h2⟩:=r.fresh hp;exact zZ.mpr ⟨h1,h2,zM⟩
theorem Ex.new{u:HO}(r:RepS h o H S)(hp:H p=none):Ex o H (o++[p]) (upd H p u):=by
 refine⟨⟨[p],rfl⟩,fun b w hb e=>?_⟩;have ne:b≠p:=zO e hp;exact⟨by simp[hb,ne],by rw[zG ne];exact e⟩
theorem nP{α:Type}{l:List α}{a:α}(h:l.Nodup)(n:a∉l):(l++[a]).Nodup:=by
 rw[nodup_append];refine⟨h,yv,fun x hx y hy e=>?_⟩;rw[mem_singleton]at hy;subst hy;subst e;exact n hx
theorem RepS.new{ds:List bq}{vs:List V}(r:RepS h o H S)(hp:H p=none)(l:HasL (vx h o H) ds vs):RepS h (o++[p]) (upd H p (.lst vs)) (S++[ds]):=by
 obtain⟨h1,h2⟩:=r.fresh hp;have ex:Ex o H (o++[p]) (upd H p (.lst vs)):=Ex.new r hp;refine⟨by simp[r.len],nP r.nd h2,fun a ha=>?_,fun b hb=>?_,fun k a es e1 e2=>?_⟩
 ·rcases mem_append.mp ha with ha|ha
  ·exact r.dis a ha
  ·rw[mem_singleton.mp ha];exact h1
 ·obtain⟨u,e⟩:=r.hal b hb;exact⟨u,by rw[zG (zO e hp)];exact e⟩
 ·by_cases hk:k<o.length
  ·rw[ft hk]at e1;rw[ft (by rw[r.len];exact hk)]at e2;obtain⟨ws,e3,l3⟩:=r.cont k a es e1 e2;refine⟨ws,?_,l3.mono ex.vx⟩;rw[zG (zO e3 hp)];exact e3
  ·have z:k=o.length:=by
    obtain⟨q,_⟩:=List.getElem?_eq_some_iff.mp e1;rw[gu,jt]at q;omega
   subst z;rw[dh]at e1;rw[<- r.len,dh]at e2;cases e1;cases e2;exact⟨vs,zM,l.mono ex.vx⟩
theorem Ex.upd{k:Nat}{u:HO}(e:o[k]?=some a):Ex o H o (L2.upd H a u):=
 ⟨⟨[],yv⟩,fun b w hb eb=>⟨hb,by rw[zG (fun z=>hb (by rw[z];exact cb e))];exact eb⟩⟩
theorem pR{l:List Addr}(h:l.Nodup){i j:Nat}{a:Addr}(e1:l[i]?=some a)(e2:l[j]?=some a):i=j:=by
 obtain⟨hi,e1⟩:=List.getElem?_eq_some_iff.mp e1;obtain⟨hj,e2⟩:=List.getElem?_eq_some_iff.mp e2;exact(List.getElem_inj h).mp (e1.trans e2.symm)
theorem RepS.upd{k:Nat}{ds:List bq}{vs:List V}(r:RepS h o H S)(e:o[k]?=some a)(l:HasL (vx h o H) ds vs):RepS h o (L2.upd H a (.lst vs)) (S.set k ds):=by
 have ex:Ex o H o (L2.upd H a (.lst vs)):=Ex.upd e;refine⟨by simp[r.len],r.nd,r.dis,fun b hb=>?_,fun j b es e1 e2=>?_⟩
 ·obtain⟨u,eb⟩:=r.hal b hb;have ne:b≠a:=fun z=>r.dis a (cb e) (z▸hb);exact⟨u,by rw[zG ne];exact eb⟩
 ·by_cases hj:j=k
  ·subst hj;rw[e1]at e;cases e;obtain⟨hk,_⟩:=List.getElem?_eq_some_iff.mp e1;rw[oy (by rw[r.len];exact hk)]at e2;cases e2;exact⟨vs,zM,l.mono ex.vx⟩
  ·rw[sj (im hj)]at e2;obtain⟨ws,e3,l3⟩:=r.cont j b es e1 e2;have ne:b≠a:=fun z=>hj (pR r.nd e1 (z▸e));exact⟨ws,by rw[zG ne];exact e3,l3.mono ex.vx⟩
abbrev XE:=List (Option XV)
structure RepE(h o:List Addr)(H:Hp)(δ:XE)(σ:St):Prop where
 len:δ.length=σ.length
 get:∀(i:Nat) x,δ[i]?=some (some x)->∃v,σ[i]?=some (some v)/\HasX h o H x v
variable {δ:XE}{σ:St}
theorem RepE.mono(r:RepE h o H δ σ)(e:Ex o H o' H'):RepE h o' H' δ σ:=⟨r.len,fun i x q=>by
 obtain⟨v,e1,e2⟩:=r.get i x q;exact⟨v,e1,e2.mono e⟩⟩
theorem RepE.set{i:Nat}{x:XV}{v:V}(r:RepE h o H δ σ)(q:HasX h o H x v):RepE h o H (δ.set i (some x)) (σ.set i (some v)):=by
 refine⟨by simp[r.len],fun j y e=>?_⟩;rw[List.getElem?_set]at e ⊢;by_cases hij:i=j
 ·rw[cp hij]at e ⊢;by_cases hl:i<δ.length
  ·rw[cp hl]at e;rw[cp (by rw[<- r.len];exact hl)];cases e;exact⟨v,rfl,q⟩
  ·rw[cf hl]at e;cases e
 ·rw[cf hij]at e ⊢;exact r.get j y e
def eX(caps:List (Option Nat))(δ:XE):XE:=caps.map fun o=>o.bind fun i=>(δ[i]?).join
theorem RepE.tau{caps:List (Option Nat)}(r:RepE h o H δ σ):RepE h o H (eX caps δ) (L2.tau caps σ):=by
 refine⟨by simp[eX,L2.tau],fun i x e=>?_⟩;unfold eX at e;unfold L2.tau;rw[iw]at e ⊢;cases hc:caps[i]? with
 |none=>rw[hc]at e;cases e
 |some c=>
  rw[hc]at e;cases c with
  |none=>cases e
  |some j=>
   have e':(δ[j]?).join=some x:=by simpa using e
   have e2:δ[j]?=some (some x):=by
    cases hd:δ[j]? with
    |none=>rw[hd]at e';cases e'
    |some y=>rw[hd]at e';exact congrArg some (by simpa using e')
   obtain⟨v,e3,e4⟩:=r.get j x e2;exact⟨v,by simp[e3],e4⟩
end
abbrev RX:=XV->Sto->Prop
abbrev DE:=XE->Sto->RX->Prop
abbrev DT:=XE->Sto->(Bool->Sto->Prop)->Prop
abbrev DA:=XE->Sto->(List XV->Sto->Prop)->Prop
abbrev D2:=XV->XV->Sto->RX->Prop
def Cn(h o:List Addr)(H:Hp)(R:RX)(Q:VK):Prop:=∀o' H' S' x v,Ex o H o' H'->RepS h o' H' S'->HasX h o' H' x v->R x S'->Q v H'
theorem Cn.pre{h o o':List Addr}{H H':Hp}{R:RX}{Q:VK}(c:Cn h o H R Q)(e:Ex o H o' H'):Cn h o' H' R Q:=fun o2 H2 S2 x v e2=>c o2 H2 S2 x v (e.trans e2)
def RE(t:TE)(dt:DE):Prop:=∀(h o:List Addr) (H:Hp) (δ:XE) (σ:St) (S:Sto) (R:RX) (Q:VK),RepE h o H δ σ->RepS h o H S->dt δ S R->Cn h o H R Q->t σ H Q
def RT(t:TT)(dt:DT):Prop:=∀(h o:List Addr) (H:Hp) (δ:XE) (σ:St) (S:Sto) (R:Bool->Sto->Prop) (Q:Bool->Hp->Prop),RepE h o H δ σ->RepS h o H S->dt δ S R ->
 (∀o' H' S' b,Ex o H o' H'->RepS h o' H' S'->R b S'->Q b H')->t σ H Q
def RA(t:TA)(dt:DA):Prop:=∀(h o:List Addr) (H:Hp) (δ:XE) (σ:St) (S:Sto) (R:List XV->Sto->Prop) (Q:List V->Hp->Prop),RepE h o H δ σ->RepS h o H S->dt δ S R ->
 (∀o' H' S' xs vs,Ex o H o' H'->RepS h o' H' S'->HasXs h o' H' xs vs->R xs S'->Q vs H')->t σ H Q
def RO(r:R2)(rd:D2):Prop:=∀(h o:List Addr) (H:Hp) (S:Sto) (x y:XV) (v u:V) (R:RX) (Q:VK),RepS h o H S->HasX h o H x v->HasX h o H y u->rd x y S R->Cn h o H R Q->r v u H Q
def RU(r:V->Hp->VK->Prop)(rd:XV->Sto->RX->Prop):Prop:=∀(h o:List Addr) (H:Hp) (S:Sto) (x:XV) (v:V) (R:RX) (Q:VK),RepS h o H S->HasX h o H x v->rd x S R->Cn h o H R Q->r v H Q
def RC(r:List V->Hp->VK->Prop)(rd:List XV->Sto->RX->Prop):Prop:=∀(h o:List Addr) (H:Hp) (S:Sto) (xs:List XV) (vs:List V) (R:RX) (Q:VK),RepS h o H S->HasXs h o H xs vs->rd xs S R->Cn h o H R Q->r vs H Q
def asI:XV->(Int->Prop)->Prop
 | .d (.int i),k=>k i
 |_,_=>False
def asB:XV->(Bool->Prop)->Prop
 | .d (.bool i),k=>k i
 |_,_=>False
def asS:XV->(Str->Prop)->Prop
 | .d (.str i),k=>k i
 |_,_=>False
def asT:XV->(List bq->Prop)->Prop
 | .d (.tuple i),k=>k i
 |_,_=>False
def dX(S:Sto):XV->Option (List bq)
 | .d (.list ds)=>some ds
 | .l k=>S[k]?
 |_=>none
def asL(S:Sto)(x:XV)(k:List bq->Prop):Prop:=∃ds,dX S x=some ds/\k ds
def d9(S:Sto):XV->Option bq
 | .d d=>some d
 | .l k=>(S[k]?).map .list
 | .o _=>none
 | .x _ _=>none
 | .p k d=>(S[k]?).map fun l=>.tuple [.list l,d]
def asD(x:XV)(k:bq->Prop):Prop:=match x with
 | .d d=>k d
 |_=>False
theorem bQ{x:XV}{k:Int->Prop}(h:asI x k):∃i,x=.d (.int i)/\k i:=by
 unfold asI at h;split at h
 ·exact⟨_,rfl,h⟩
 ·exact h.elim
theorem rN{x:XV}{k:Bool->Prop}(h:asB x k):∃i,x=.d (.bool i)/\k i:=by
 unfold asB at h;split at h
 ·exact⟨_,rfl,h⟩
 ·exact h.elim
theorem x3{x:XV}{k:Str->Prop}(h:asS x k):∃i,x=.d (.str i)/\k i:=by
 unfold asS at h;split at h
 ·exact⟨_,rfl,h⟩
 ·exact h.elim
theorem kM{x:XV}{k:List bq->Prop}(h:asT x k):∃i,x=.d (.tuple i)/\k i:=by
 unfold asT at h;split at h
 ·exact⟨_,rfl,h⟩
 ·exact h.elim
theorem gL{x:XV}{k:bq->Prop}(h:asD x k):∃i,x=.d i/\k i:=by
 unfold asD at h;split at h
 ·exact⟨_,rfl,h⟩
 ·exact h.elim
section
variable {h o:List Addr}{H:Hp}{S:Sto}{x:XV}{v:V}{i:Int}{b:Bool}{z:Str}{ds:List bq}{d:bq}
theorem bH(q:HasX h o H (.d (.int i)) v):v=.int i:=(eA (H:=vx h o H)).mp q
theorem jB(q:HasX h o H (.d (.bool b)) v):v=.bl b:=(nW (H:=vx h o H)).mp q
theorem eZ(q:HasX h o H (.d (.str z)) v):v=.str z:=(hV (H:=vx h o H)).mp q
theorem fC(q:HasX h o H (.d (.tuple ds)) v):∃a vs,v=.ref a/\H a=some (.tup vs)/\HasL (vx h o H) ds vs:=by
 obtain⟨a,vs,e,q,l⟩:=d8.mp (show Has _ _ _ from q);exact⟨a,vs,e,zW _ _ q,l⟩
theorem b9(r:RepS h o H S)(e:dX S x=some ds)(q:HasX h o H x v):∃a vs,v=.ref a/\H a=some (.lst vs)/\HasL (vx h o H) ds vs:=by
 unfold dX at e;split at e
 ·cases e;obtain⟨a,vs,e,q,l⟩:=eK.mp (show Has _ _ _ from q);exact⟨a,vs,e,zW _ _ q,l⟩
 ·obtain⟨a,e1,rfl⟩:=q;obtain⟨vs,e2,l⟩:=r.cont _ a ds e1 e;exact⟨a,vs,rfl,e2,l⟩
 ·cases e
theorem eR(r:RepS h o H S)(e:d9 S x=some d)(q:HasX h o H x v):Has H d v:=by
 unfold d9 at e;split at e
 ·cases e;exact Has.mono zW _ _ q
 ·rename_i k;obtain⟨a,e1,rfl⟩:=q;cases hs:S[k]? with
  |none=>rw[hs]at e;cases e
  |some es=>
   rw[hs]at e;cases e;obtain⟨vs,e2,l⟩:=r.cont k a es e1 hs;exact eK.mpr ⟨a,vs,rfl,e2,HasL.mono zW _ _ l⟩
 ·cases e
 ·cases e
 ·rename_i k d';obtain⟨t,a,u,rfl,e1,e3,e4⟩:=q;cases hs:S[k]? with
  |none=>rw[hs]at e;cases e
  |some es=>
   rw[hs]at e;cases e;obtain⟨vs,e2,l⟩:=r.cont k a es e1 hs;exact d8.mpr ⟨t,_,rfl,zW _ _ e3,zu.mpr ⟨_,_,rfl,eK.mpr ⟨a,vs,rfl,e2,HasL.mono zW _ _ l⟩,zu.mpr ⟨u,_,rfl,Has.mono zW _ _ e4,zK.mpr rfl⟩⟩⟩
theorem xI(i:Int):HasX h o H (.d (.int i)) (.int i):=(eA (H:=vx h o H)).mpr rfl
theorem xB(i:Bool):HasX h o H (.d (.bool i)) (.bl i):=(nW (H:=vx h o H)).mpr rfl
theorem xS(i:Str):HasX h o H (.d (.str i)) (.str i):=(hV (H:=vx h o H)).mpr rfl
theorem xN:HasX h o H (.d .none) .non:=(uS (H:=vx h o H)).mpr rfl
theorem qA{vs:List V}{R:RX}{Q:VK}(r:RepS h o H S)(l:HasL (vx h o H) ds vs)(c:Cn h o H R Q)(q:R (.d (.tuple ds)) S):∀p,H p=none->Q (.ref p) (upd H p (.tup vs)):=fun p hp=>
 c o _ S (.d (.tuple ds)) _ (Ex.of_same (Same.laid hp)) (r.same (Same.laid hp)) (d8.mpr ⟨p,vs,rfl,r.laid hp,l.mono (gE (Same.laid hp))⟩) q
theorem sO{vs:List V}{R:RX}{Q:VK}(r:RepS h o H S)(l:HasL (vx h o H) ds vs)(c:Cn h o H R Q)(q:R (.d (.list ds)) S):∀p,H p=none->Q (.ref p) (upd H p (.lst vs)):=fun p hp=>
 c o _ S (.d (.list ds)) _ (Ex.of_same (Same.laid hp)) (r.same (Same.laid hp)) (eK.mpr ⟨p,vs,rfl,r.laid hp,l.mono (gE (Same.laid hp))⟩) q
theorem BN{vs:List V}{R:RX}{Q:VK}(r:RepS h o H S)(l:HasL (vx h o H) ds vs)(c:Cn h o H R Q)(q:R (.l S.length) (S++[ds])):∀p,H p=none->Q (.ref p) (upd H p (.lst vs)):=fun p hp=>
 c (o++[p]) _ (S++[ds]) (.l S.length) _ (Ex.new r hp) (r.new hp l) ⟨p,by rw[r.len,dh],rfl⟩ q
theorem pV:∀{xs:List XV}{vs:List V}{ds:List bq},HasXs h o H xs vs->xs=ds.map XV.d->HasL (vx h o H) ds vs
 | [],vs,[],q,_=>zK.mpr q
 |x::xs,vs,d::ds,⟨v,r,e,q,l⟩,e2=>by
  rw[gc]at e2;cases e2;exact zu.mpr ⟨v,r,e,q,pV l rfl⟩
 |x::xs,vs,[],_,e2=>by cases e2
 | [],vs,d::ds,_,e2=>by cases e2
end
def datas:List XV->Option (List bq)
 | []=>some []
 | .d d::r=>(datas r).map (d :: ·)
 |_::_=>none
theorem fB:∀{xs:List XV}{ds:List bq},datas xs=some ds->xs=ds.map XV.d
 | [],ds,e=>by cases e;rfl
 | .d d::r,ds,e=>by
  unfold datas at e;cases hr:datas r with
  |none=>rw[hr]at e;cases e
  |some es=>
   rw[hr]at e;cases e;rw[fB hr];rfl
 | .l _::_,_,e=>by cases e
 | .o _::_,_,e=>by cases e
 | .x _ _::_,_,e=>by cases e
 | .p _ _::_,_,e=>by cases e
def zh(i:Nat):DE:=fun δ S R=>∃x,δ[i]?=some (some x)/\R x S
def dC(d:bq):DE:=fun _ S R=>R (.d d) S
def dO(v:V):DE:=fun _ S R=>R (.o v) S
def dOp(rd:D2)(a b:DE):DE:=fun δ S R=>a δ S fun x S1=>b δ S1 fun y S2=>rd x y S2 R
def dUn(rd:XV->Sto->RX->Prop)(a:DE):DE:=fun δ S R=>a δ S fun x S1=>rd x S1 R
def zo:DA:=fun _ S R=>R [] S
def zc(a:DE)(b:DA):DA:=fun δ S R=>a δ S fun x S1=>b δ S1 fun xs S2=>R (x::xs) S2
def dCB(rd:List XV->Sto->RX->Prop)(a:DA):DE:=fun δ S R=>a δ S fun xs S1=>rd xs S1 R
def aK(a:DA):DE:=fun δ S R=>a δ S fun xs S1=>∃ds,datas xs=some ds/\ds.length<=1000/\R (.d (.tuple ds)) S1
def aX(a:DA):DE:=fun δ S R=>a δ S fun xs S1=>∃ds,datas xs=some ds/\ds.length<=1000/\R (.d (.list ds)) S1
def cT(a:DA):DE:=fun δ S R=>a δ S fun xs S1=>∃ds,datas xs=some ds/\ds.length<=1000/\R (.l S1.length) (S1++[ds])
section
variable {t ta tb tc:TE}{da db dc:DE}{tl:TA}{dl:DA}{tt tu:TT}{dt du:DT}
theorem zn{i:Nat}:RE (dL i) (zh i):=fun h o H δ σ S R Q he hs ⟨x,e,q⟩ c=>by
 obtain⟨v,e1,e2⟩:=he.get i x e;exact⟨v,e1,c o H S x v Ex.refl hs e2 q⟩
theorem zJ{i:Int}:RE (tC (.int i)) (dC (.int i)):=fun h o H δ σ S R Q he hs q c=>c o H S _ _ Ex.refl hs (xI i) q
theorem mR{i:Bool}:RE (tC (.bl i)) (dC (.bool i)):=fun h o H δ σ S R Q he hs q c=>c o H S _ _ Ex.refl hs (xB i) q
theorem gB{i:Str}:RE (tC (.str i)) (dC (.str i)):=fun h o H δ σ S R Q he hs q c=>c o H S _ _ Ex.refl hs (xS i) q
theorem sV:RE (tC .non) (dC .none):=fun h o H δ σ S R Q he hs q c=>c o H S _ _ Ex.refl hs xN q
theorem IG{v:V}:RE (tC v) (dO v):=fun h o H δ σ S R Q he hs q c=>c o H S (.o v) v Ex.refl hs rfl q
theorem aL{r:R2}{rd:D2}(hr:RO r rd)(ha:RE ta da)(hb:RE tb db):RE (tOp r ta tb) (dOp rd da db):=fun h o H δ σ S R Q he hs q c=>
 ha h o H δ σ S _ _ he hs q fun o1 H1 S1 x v e1 s1 x1 d1=>hb h o1 H1 δ σ S1 _ _ (he.mono e1) s1 d1 fun o2 H2 S2 y u e2 s2 y2 d2=>
  hr h o2 H2 S2 x y v u R Q s2 (x1.mono e2) y2 d2 (c.pre (e1.trans e2))
theorem tN{r:V->Hp->VK->Prop}{rd:XV->Sto->RX->Prop}(hr:RU r rd)(ha:RE ta da):RE (tUn r ta) (dUn rd da):=fun h o H δ σ S R Q he hs q c=>
 ha h o H δ σ S _ _ he hs q fun o1 H1 S1 x v e1 s1 x1 d1=>hr h o1 H1 S1 x v R Q s1 x1 d1 (c.pre e1)
theorem zC:RA mI zo:=fun h o H δ σ S R Q he hs q c=>c o H S [] [] Ex.refl hs rfl q
theorem zi(ha:RE ta da)(hb:RA tl dl):RA (eJ ta tl) (zc da dl):=fun h o H δ σ S R Q he hs q c=>
 ha h o H δ σ S _ _ he hs q fun o1 H1 S1 x v e1 s1 x1 d1=>hb h o1 H1 δ σ S1 _ _ (he.mono e1) s1 d1 fun o2 H2 S2 xs vs e2 s2 x2 d2=>
  c o2 H2 S2 (x::xs) (v::vs) (e1.trans e2) s2 ⟨v,vs,rfl,x1.mono e2,x2⟩ d2
theorem bR{r:List V->Hp->VK->Prop}{rd:List XV->Sto->RX->Prop}(hr:RC r rd)(ha:RA tl dl):RE (tCB r tl) (dCB rd dl):=fun h o H δ σ S R Q he hs q c=>
 ha h o H δ σ S _ _ he hs q fun o1 H1 S1 xs vs e1 s1 x1 d1=>hr h o1 H1 S1 xs vs R Q s1 x1 d1 (c.pre e1)
theorem cU(ha:RA tl dl):RE (yY tl) (aK dl):=fun h o H δ σ S R Q he hs q c=>
 ha h o H δ σ S _ _ he hs q fun o1 H1 S1 xs vs e1 s1 x1 ⟨ds,e,hl,d1⟩=>by
  have l:=pV x1 (fB e);exact⟨by rw[l.length];exact kl (small1000 hl),qA s1 l (c.pre e1) d1⟩
theorem gX(ha:RA tl dl):RE (iF tl) (aX dl):=fun h o H δ σ S R Q he hs q c=>
 ha h o H δ σ S _ _ he hs q fun o1 H1 S1 xs vs e1 s1 x1 ⟨ds,e,hl,d1⟩=>by
  have l:=pV x1 (fB e);exact⟨by rw[l.length];exact kl (small1000 hl),sO s1 l (c.pre e1) d1⟩
theorem Ja(ha:RA tl dl):RE (iF tl) (cT dl):=fun h o H δ σ S R Q he hs q c=>
 ha h o H δ σ S _ _ he hs q fun o1 H1 S1 xs vs e1 s1 x1 ⟨ds,e,hl,d1⟩=>by
  have l:=pV x1 (fB e);exact⟨by rw[l.length];exact kl (small1000 hl),BN s1 l (c.pre e1) d1⟩
def dB(a:DE):DT:=fun δ S R=>a δ S fun x S1=>asB x fun b=>R b S1
def cS(a:DT):DT:=fun δ S R=>a δ S fun b S1=>R (!b) S1
def dQ(a b:DT):DT:=fun δ S R=>a δ S fun x S1=>if x=true then b δ S1 R else R false S1
def dOr(a b:DT):DT:=fun δ S R=>a δ S fun x S1=>if x=true then R true S1 else b δ S1 R
def gQ(a b:DE):DE:=fun δ S R=>a δ S fun x S1=>asB x fun c=>if c=true then b δ S1 R else R (.d (.bool false)) S1
def oA(a b:DE):DE:=fun δ S R=>a δ S fun x S1=>asB x fun c=>if c=true then R (.d (.bool true)) S1 else b δ S1 R
def iM(a:DE):DE:=fun δ S R=>a δ S fun x S1=>asB x fun c=>R (.d (.bool (!c))) S1
def dIf(c:DT)(a b:DE):DE:=fun δ S R=>c δ S fun x S1=>if x=true then a δ S1 R else b δ S1 R
theorem m3(ha:RE ta da):RT (oJ ta) (dB da):=fun h o H δ σ S R Q he hs q c=>
 ha h o H δ σ S _ _ he hs q fun o1 H1 S1 x v e1 s1 x1 d1=>by
  replace d1:=rN d1;obtain⟨b,rfl,d1⟩:=d1;exact⟨b,jB x1,c o1 H1 S1 b e1 s1 d1⟩
theorem kW(ha:RT tt dt):RT (Er tt) (cS dt):=fun h o H δ σ S R Q he hs q c=>
 ha h o H δ σ S _ _ he hs q fun o1 H1 S1 b e1 s1 d1=>c o1 H1 S1 _ e1 s1 d1
theorem Ik(ha:RT tt dt)(hb:RT tu du):RT (Ct tt tu) (dQ dt du):=fun h o H δ σ S R Q he hs q c=>
 ha h o H δ σ S _ _ he hs q fun o1 H1 S1 b e1 s1 d1=>by
  cases b with
  |true=>exact g9 (hb h o1 H1 δ σ S1 R Q (he.mono e1) s1 (by simpa using d1) fun o2 H2 S2 b e2=>c o2 H2 S2 b (e1.trans e2))
  |false=>exact gD (c o1 H1 S1 false e1 s1 (by simpa using d1))
theorem tG(ha:RT tt dt)(hb:RT tu du):RT (tOr tt tu) (dOr dt du):=fun h o H δ σ S R Q he hs q c=>
 ha h o H δ σ S _ _ he hs q fun o1 H1 S1 b e1 s1 d1=>by
  cases b with
  |false=>exact gD (hb h o1 H1 δ σ S1 R Q (he.mono e1) s1 (by simpa using d1) fun o2 H2 S2 b e2=>c o2 H2 S2 b (e1.trans e2))
  |true=>exact g9 (c o1 H1 S1 true e1 s1 (by simpa using d1))
theorem Bg(ha:RE ta da)(hb:RE tb db):RE (A5 ta tb) (gQ da db):=fun h o H δ σ S R Q he hs q c=>
 ha h o H δ σ S _ _ he hs q fun o1 H1 S1 x v e1 s1 x1 d1=>by
  replace d1:=rN d1;obtain⟨b,rfl,d1⟩:=d1;refine⟨b,jB x1,?_⟩;cases b with
  |true=>exact g9 (hb h o1 H1 δ σ S1 R Q (he.mono e1) s1 (by simpa using d1) (c.pre e1))
  |false=>exact gD (c o1 H1 S1 _ _ e1 s1 (xB false) (by simpa using d1))
theorem Ii(ha:RE ta da):RE (Fi ta) (iM da):=fun h o H δ σ S R Q he hs q c=>
 ha h o H δ σ S _ _ he hs q fun o1 H1 S1 x v e1 s1 x1 d1=>by
  replace d1:=rN d1;obtain⟨b,rfl,d1⟩:=d1;exact⟨b,jB x1,c o1 H1 S1 _ _ e1 s1 (xB _) d1⟩
def fN(rd aa:D2)(a b e:DE):DE:=fun δ S R=>a δ S fun x S1=>b δ S1 fun y S2=>rd x y S2 fun z S3=>asB z fun k=>if k=true then e δ S3 fun u S4=>aa y u S4 R else R (.d (.bool false)) S3
theorem w8{r r':R2}{rd aa:D2}(hr:RO r rd)(ac:RO r' aa)(ha:RE ta da)(hb:RE tb db)(hc:RE tc dc):RE (AH r r' ta tb tc) (fN rd aa da db dc):=fun h o H δ σ S R Q he hs q c=>
 ha h o H δ σ S _ _ he hs q fun o1 H1 S1 x v e1 s1 x1 d1=>hb h o1 H1 δ σ S1 _ _ (he.mono e1) s1 d1 fun o2 H2 S2 y u e2 s2 y2 d2=>
  hr h o2 H2 S2 x y v u _ _ s2 (x1.mono e2) y2 d2 fun o3 H3 S3 z w e3 s3 z3 d3=>by
   replace d3:=rN d3;obtain⟨b,rfl,d3⟩:=d3;refine⟨b,jB z3,?_⟩;cases b with
   |false=>exact gD (c o3 H3 S3 _ _ ((e1.trans e2).trans e3) s3 (xB false) (by simpa using d3))
   |true=>exact g9 (hc h o3 H3 δ σ S3 _ _ (((he.mono e1).mono e2).mono e3) s3 (by simpa using d3) fun o4 H4 S4 k w' e4 s4 k4 d4=>ac h o4 H4 S4 y k u w' R Q s4 ((y2.mono e3).mono e4) k4 d4 (c.pre (((e1.trans e2).trans e3).trans e4)))
end
def dI(C:Int->Int->Prop)(g:Int->Int->Int):D2:=fun x y S R=>asI x fun i=>asI y fun j=>C i j/\R (.d (.int (g i j))) S
def dI0(g:Int->Int->Int):D2:=fun x y S R=>asI x fun i=>asI y fun j=>R (.d (.int (g i j))) S
def dIb(g:Int->Int->Bool):D2:=fun x y S R=>asI x fun i=>asI y fun j=>R (.d (.bool (g i j))) S
def dUI(g:Int->Int):XV->Sto->RX->Prop:=fun x S R=>asI x fun i=>R (.d (.int (g i))) S
def bJ:D2:=fun x y S R=>∃d,d9 S x=some d/\∃e,d9 S y=some e/\gq d=true/\gq e=true/\R (.d (.bool (lh d e))) S
def dS:D2:=fun x y S R=>∃d,d9 S x=some d/\∃e,d9 S y=some e/\gq d=true/\gq e=true/\R (.d (.bool (!PyData.eqv d e))) S
def pX:D2:=fun x _ S R=>asD x fun d=>R (.d (.bool (mL d))) S
def GW:D2:=fun x y S R=>asT x fun ds=>asI y fun i=>∃d,atI ds i=some d/\R (.d d) S
def Ji:D2:=fun x y S R=>asL S x fun ds=>asI y fun i=>∃d,atI ds i=some d/\R (.d d) S
def Nf:D2:=fun x y S R=>asL S x fun ds=>asL S y fun es=>ds.length+es.length<=1000/\R (.d (.list (ds++es))) S
def HB:D2:=fun x y S R=>asT x fun ds=>asT y fun es=>ds≠[]/\ds.length+es.length<=1000/\R (.d (.tuple (ds++es))) S
section
theorem iP{C:Int->Int->Prop}{g:Int->Int->Int}:RO (rI C fun i j=>.int (g i j)) (dI C g):=fun h o H S x y v u R Q hs hx hy q c=>by
 replace q:=bQ q;obtain⟨i,rfl,q⟩:=q;replace q:=bQ q;obtain⟨j,rfl,hc,q⟩:=q;exact⟨i,j,bH hx,bH hy,hc,c o H S _ _ Ex.refl hs (xI _) q⟩
theorem BF{g:Int->Int->Int}:RO (rI0 fun i j=>.int (g i j)) (dI0 g):=fun h o H S x y v u R Q hs hx hy q c=>by
 replace q:=bQ q;obtain⟨i,rfl,q⟩:=q;replace q:=bQ q;obtain⟨j,rfl,q⟩:=q;exact⟨i,j,bH hx,bH hy,c o H S _ _ Ex.refl hs (xI _) q⟩
theorem lO{g:Int->Int->Bool}:RO (rI0 fun i j=>.bl (g i j)) (dIb g):=fun h o H S x y v u R Q hs hx hy q c=>by
 replace q:=bQ q;obtain⟨i,rfl,q⟩:=q;replace q:=bQ q;obtain⟨j,rfl,q⟩:=q;exact⟨i,j,bH hx,bH hy,c o H S _ _ Ex.refl hs (xB _) q⟩
theorem sW{g:Int->Int}:RU (rU fun i=>.int (g i)) (dUI g):=fun h o H S x v R Q hs hx q c=>by
 replace q:=bQ q;obtain⟨i,rfl,q⟩:=q;exact⟨i,bH hx,c o H S _ _ Ex.refl hs (xI _) q⟩
theorem Jo:RO Ag bJ:=fun h o H S x y v u R Q hs hx hy q c=>by
 obtain⟨d,q1,e,q2,q3,q4,q⟩:=q;exact⟨d,e,eR hs q1 hx,eR hs q2 hy,q3,q4,c o H S _ _ Ex.refl hs (xB _) q⟩
theorem AN:RO B6 dS:=fun h o H S x y v u R Q hs hx hy q c=>by
 obtain⟨d,q1,e,q2,q3,q4,q⟩:=q;exact⟨d,e,eR hs q1 hx,eR hs q2 hy,q3,q4,c o H S _ _ Ex.refl hs (xB _) q⟩
theorem HasL.atI{H:Hp}{ds:List bq}{vs:List V}{i:Int}{d:bq}(l:HasL H ds vs)(e:L2.atI ds i=some d):∃v,L2.atI vs i=some v/\Has H d v:=by
 unfold L2.atI at e ⊢;rw[l.length];cases hn:ixN ds.length i with
 |none=>rw[hn]at e;cases e
 |some j=>
  rw[hn]at e;exact l.get (show ds[j]?=some d from e)
theorem Mb{K:cq}:RO (AQ K) GW:=fun h o H S x y v u R Q hs hx hy q c=>by
 replace q:=kM q;obtain⟨ds,rfl,q⟩:=q;replace q:=bQ q;obtain⟨i,rfl,d,e,q⟩:=q;obtain⟨a,vs,rfl,ea,l⟩:=fC hx;obtain⟨w,ew,hw⟩:=l.atI e;exact⟨a,vs,i,w,rfl,bH hy,.of ea,ew,c o H S (.d d) w Ex.refl hs hw q⟩
theorem Ez{K:cq}:RO (wL K) Ji:=fun h o H S x y v u R Q hs hx hy q c=>by
 obtain⟨ds,e0,q⟩:=q;replace q:=bQ q;obtain⟨i,rfl,d,e,q⟩:=q;obtain⟨a,vs,rfl,ea,l⟩:=b9 hs e0 hx;obtain⟨w,ew,hw⟩:=l.atI e;exact⟨a,vs,i,w,rfl,bH hy,.of ea,ew,c o H S (.d d) w Ex.refl hs hw q⟩
theorem LS:RO lK Nf:=fun h o H S x y v u R Q hs hx hy q c=>by
 obtain⟨ds,e0,es,e1,hl,q⟩:=q;obtain⟨a,vs,rfl,ea,la⟩:=b9 hs e0 hx;obtain⟨b,us,rfl,eb,lb⟩:=b9 hs e1 hy;exact⟨a,b,vs,us,rfl,rfl,ea,eb,by rw[la.length,lb.length];exact kl (small1000 hl),sO hs (la.append lb) c q⟩
theorem Jd{K:cq}:RO (yU K) HB:=fun h o H S x y v u R Q hs hx hy q c=>by
 replace q:=kM q;obtain⟨ds,rfl,q⟩:=q;replace q:=kM q;obtain⟨es,rfl,hn,hl,q⟩:=q;obtain⟨a,vs,rfl,ea,la⟩:=fC hx;obtain⟨b,us,rfl,eb,lb⟩:=fC hy;refine⟨a,b,vs,us,rfl,rfl,.of ea,.of eb,fun z=>?_,by rw[la.length,lb.length];exact kl (small1000 hl),fun z=>?_,fun _=>qA hs (la.append lb) c q⟩
 ·subst z;have:=la.length;exact hn (jd this.symm)
 ·subst z;have e:es=[]:=jd lb.length.symm;subst e;rw[jl]at q;exact c o H S (.d (.tuple ds)) _ Ex.refl hs hx q
end
abbrev DO:=XE->Sto->(Option Int->Sto->Prop)->Prop
def RP(t:TO)(dt:DO):Prop:=∀(h o:List Addr) (H:Hp) (δ:XE) (σ:St) (S:Sto) (R:Option Int->Sto->Prop) (Q:Option Int->Hp->Prop),RepE h o H δ σ->RepS h o H S->dt δ S R ->
 (∀o' H' S' b,Ex o H o' H'->RepS h o' H' S'->R b S'->Q b H')->t σ H Q
def cW:DO:=fun _ S R=>R none S
def cY(a:DE):DO:=fun δ S R=>a δ S fun x S1=>asI x fun i=>R (some i) S1
theorem vO:RP Bo cW:=fun h o H δ σ S R Q he hs q c=>c o H S none Ex.refl hs q
theorem wQ{t:TE}{da:DE}(ha:RE t da):RP (m6 t) (cY da):=fun h o H δ σ S R Q he hs q c=>
 ha h o H δ σ S _ _ he hs q fun o1 H1 S1 x v e1 s1 x1 d1=>by
  replace d1:=bQ d1;obtain⟨i,rfl,d1⟩:=d1;exact⟨i,bH x1,c o1 H1 S1 _ e1 s1 d1⟩
abbrev D3:=XV->Option Int->Option Int->Sto->RX->Prop
def RL(r:V->Option Int->Option Int->Hp->VK->Prop)(rd:D3):Prop:=∀(h o:List Addr) (H:Hp) (S:Sto) (x:XV) (v:V) (a b:Option Int) (R:RX) (Q:VK),RepS h o H S->HasX h o H x v->rd x a b S R->Cn h o H R Q->r v a b H Q
def dSl(rd:D3)(e:DE)(a b:DO):DE:=fun δ S R=>e δ S fun x S1=>a δ S1 fun i S2=>b δ S2 fun j S3=>rd x i j S3 R
theorem vP{r:V->Option Int->Option Int->Hp->VK->Prop}{rd:D3}{te:TE}{de:DE}{ta tb:TO}{da db:DO}(hr:RL r rd)(z:RE te de)(ha:RP ta da)(hb:RP tb db):RE (tSl r te ta tb) (dSl rd de da db):=fun h o H δ σ S R Q he hs q c=>
 z h o H δ σ S _ _ he hs q fun o1 H1 S1 x v e1 s1 x1 d1=>ha h o1 H1 δ σ S1 _ _ (he.mono e1) s1 d1 fun o2 H2 S2 i e2 s2 d2=>hb h o2 H2 δ σ S2 _ _ ((he.mono e1).mono e2) s2 d2 fun o3 H3 S3 j e3 s3 d3=>
  hr h o3 H3 S3 x v i j R Q s3 ((x1.mono e2).mono e3) d3 (c.pre ((e1.trans e2).trans e3))
def Li:D3:=fun x i j S R=>asL S x fun ds=>R (.d (.list (aV ds i j))) S
def Mx:D3:=fun x i j S R=>asT x fun ds=>¬(HT.sIx ds.length 0 i=0/\HT.sIx ds.length ds.length j=ds.length)/\R (.d (.tuple (aV ds i j))) S
theorem FX{K:cq}:RL (oB K) Li:=fun h o H S x v a b R Q hs hx q c=>by
 obtain⟨ds,e0,q⟩:=q;obtain⟨p,vs,rfl,ea,l⟩:=b9 hs e0 hx;exact⟨p,vs,rfl,.of ea,sO hs (l.cut a b) c q⟩
theorem IQ{K:cq}:RL (wC K) Mx:=fun h o H S x v a b R Q hs hx q c=>by
 replace q:=kM q;obtain⟨ds,rfl,hn,q⟩:=q;obtain⟨p,vs,rfl,ea,l⟩:=fC hx;exact⟨p,vs,rfl,.of ea,by rw[l.length];exact hn,qA hs (l.cut a b) c q⟩
def asQ(S:Sto):XV->Option (List bq)
 | .d (.tuple ds)=>some ds
 | .d (.list ds)=>some ds
 | .l k=>S[k]?
 |_=>none
theorem uA{h o:List Addr}{H:Hp}{S:Sto}{x:XV}{v:V}{ds:List bq}(r:RepS h o H S)(e:asQ S x=some ds)(q:HasX h o H x v):∃a vs,v=.ref a/\(H a=some (.tup vs)\/H a=some (.lst vs))/\HasL (vx h o H) ds vs:=by
 unfold asQ at e;split at e
 ·cases e;obtain⟨a,vs,e,q,l⟩:=fC q;exact⟨a,vs,e,.inl q,l⟩
 ·cases e;obtain⟨a,vs,e,q,l⟩:=b9 (x:=.d (.list ds)) (ds:=ds) r rfl q;exact⟨a,vs,e,.inr q,l⟩
 ·rename_i k;obtain⟨a,vs,e,q,l⟩:=b9 (x:=.l k) r e q;exact⟨a,vs,e,.inr q,l⟩
 ·cases e
def arg1:List XV->(XV->Prop)->Prop
 | [x],k=>k x
 |_,_=>False
def arg2:List XV->(XV->XV->Prop)->Prop
 | [x,y],k=>k x y
 |_,_=>False
theorem cQ{xs:List XV}{k:XV->Prop}(h:arg1 xs k):∃x,xs=[x]/\k x:=by
 unfold arg1 at h;split at h
 ·exact⟨_,rfl,h⟩
 ·exact h.elim
theorem qD{xs:List XV}{k:XV->XV->Prop}(h:arg2 xs k):∃x y,xs=[x,y]/\k x y:=by
 unfold arg2 at h;split at h
 ·exact⟨_,_,rfl,h⟩
 ·exact h.elim
theorem hxs1{h o:List Addr}{H:Hp}{x:XV}{vs:List V}(q:HasXs h o H [x] vs):∃v,vs=[v]/\HasX h o H x v:=by
 obtain⟨v,r,e,hx,hr⟩:=q;cases hr;exact⟨v,e,hx⟩
theorem hxs2{h o:List Addr}{H:Hp}{x y:XV}{vs:List V}(q:HasXs h o H [x,y] vs):∃v u,vs=[v,u]/\HasX h o H x v/\HasX h o H y u:=by
 obtain⟨v,r,e,hx,q⟩:=q;obtain⟨u,e',hy⟩:=hxs1 q;subst e';exact⟨v,u,e,hx,hy⟩
def wP:XV->(String->Prop)->Prop
 | .o v,k=>∃c,v=.ty c/\k c
 |_,_=>False
def yJ:XV->(Int->Prop)->Prop
 | .d d,k=>match d with
  | .int i=>k i
  | .bool b=>k (if b then 1 else 0)
  |_=>False
 |_,_=>False
theorem Kk{x:XV}{k:String->Prop}(h:wP x k):∃c,x=.o (.ty c)/\k c:=by
 cases x with
 |o v=>
  obtain⟨c,rfl,h⟩:=h;exact⟨c,rfl,h⟩
 |d d=>exact h.elim
 |l j=>exact h.elim
 |x _ _=>exact h.elim
 |p _ _=>exact h.elim
theorem ID{x:XV}{k:Int->Prop}(h:yJ x k):(∃i,x=.d (.int i)/\k i)\/∃b,x=.d (.bool b)/\k (if b then 1 else 0):=by
 cases x with
 |d d=>
  cases d with
  |int i=>exact .inl ⟨i,rfl,h⟩
  |bool b=>exact .inr ⟨b,rfl,h⟩
  |_=>exact h.elim
 |_=>exact h.elim
def K7:List XV->Sto->RX->Prop:=fun xs S R=>arg1 xs fun x=>∃ds,asQ S x=some ds/\R (.d (.int ds.length)) S
theorem vD{K:cq}:RC (vH K) K7:=fun h o H S xs vs R Q hs hx q c=>by
 obtain⟨x,rfl,ds,hd,q1⟩:=cQ q;obtain⟨v,rfl,aa⟩:=hxs1 hx;obtain⟨a,ws,rfl,ea,l⟩:=uA hs hd aa;refine⟨a,ws,rfl,ea.elim (fun z=>.inr (.of z)) (fun z=>.inl (.of z)),?_⟩;rw[l.length];exact c o H S _ _ Ex.refl hs (xI _) q1
def fD:List XV->Sto->RX->Prop:=fun xs S R=>arg2 xs fun x y=>wP y fun cl=>∃d,d9 S x=some d/\cl∈iK/\R (.d (.bool (mV d cl))) S
theorem Ll:RC AV fD:=fun h o H S xs vs R Q hs hx q c=>by
 obtain⟨x,y,rfl,q1⟩:=qD q;obtain⟨cl,rfl,d,hd,hc,q2⟩:=Kk q1;obtain⟨v,u,rfl,z,hu⟩:=hxs2 hx;cases hu;exact Nu (eR hs hd z) hc (c o H S _ _ Ex.refl hs (xB _) q2)
def iJ:List XV->Sto->RX->Prop:=fun xs S R=>arg1 xs fun x=>yJ x fun i=>R (.d (.int i)) S
theorem NC:RC (fun xs H Q=>(∃i,xs=[.int i]/\Q (.int i) H)\/∃k,xs=[.bl k]/\Q (.int (if k then 1 else 0)) H) iJ:=fun h o H S xs vs R Q hs hx q c=>by
 obtain⟨x,rfl,q1⟩:=cQ q;obtain⟨v,rfl,z⟩:=hxs1 hx;rcases ID q1 with ⟨i,rfl,q2⟩|⟨b,rfl,q2⟩
 ·exact .inl ⟨_,by rw[bH z],c o H S _ _ Ex.refl hs (xI _) q2⟩
 ·exact .inr ⟨_,by rw[jB z],c o H S _ _ Ex.refl hs (xI _) q2⟩
def dI2(g:Int->Int->Int):List XV->Sto->RX->Prop:=fun xs S R=>arg2 xs fun x y=>asI x fun i=>asI y fun j=>R (.d (.int (g i j))) S
theorem Lc{g:Int->Int->Int}:RC (fun xs H Q=>∃i j,xs=[.int i,.int j]/\Q (.int (g i j)) H) (dI2 g):=fun h o H S xs vs R Q hs hx q c=>by
 obtain⟨x,y,rfl,q1⟩:=qD q;obtain⟨v,u,rfl,z,hu⟩:=hxs2 hx;obtain⟨i,rfl,q2⟩:=bQ q1;obtain⟨j,rfl,q3⟩:=bQ q2;exact⟨i,j,by rw[bH z,bH hu],c o H S _ _ Ex.refl hs (xI _) q3⟩
def gA:List XV->Sto->RX->Prop:=fun xs S R=>arg1 xs fun x=>∃ds,asQ S x=some ds/\R (.d (.tuple ds)) S
theorem Jh{K:cq}:RC (fun xs H Q=>∃p ys,xs=[.ref p]/\((SqL K H p ys/\∀l,H l=none->Q (.ref l) (upd H l (.tup ys)))\/(SqT K H p ys/\Q (.ref p) H))) gA:=fun h o H S xs vs R Q hs hx q c=>by
 obtain⟨x,rfl,ds,hd,q1⟩:=cQ q;obtain⟨v,rfl,aa⟩:=hxs1 hx;obtain⟨a,ws,rfl,ea,l⟩:=uA hs hd aa;refine⟨a,ws,rfl,ea.elim (fun z=>.inr ⟨.of z,?_⟩) (fun z=>.inl ⟨.of z,qA hs l c q1⟩)⟩;have hh:HasX h o H (.d (.tuple ds)) (.ref a):=by
  unfold asQ at hd;split at hd
  ·cases hd;exact aa
  ·obtain⟨a',us,e1,e2,_⟩:=b9 (x:=.d (.list _)) hs rfl aa;cases e1;rw[z]at e2;cases e2
  ·rename_i k;obtain⟨a',us,e1,e2,_⟩:=b9 (x:=.l k) hs hd aa;cases e1;rw[z]at e2;cases e2
  ·cases hd
 exact c o H S _ _ Ex.refl hs hh q1
theorem nH{H:Hp}:∀{ns:List Int}{vs:List V},HasL H (ns.map cu) vs->vs=ns.map V.int
 | [],vs,h=>zK.mp h
 |n::ns,vs,h=>by
  obtain⟨v,r,rfl,h1,h2⟩:=zu.mp h;rw[eA.mp h1,nH h2];rfl
def FD:List XV->Sto->RX->Prop:=fun xs S R=>arg1 xs fun x=>∃ds,asQ S x=some ds/\∃ns,ds=ns.map cu/\ns≠[]/\∀m,m∈ns->(∀a,a∈ns->m<=a)->R (.d (.int m)) S
def mY:List XV->Sto->RX->Prop:=fun xs S R=>arg1 xs fun x=>∃ds,asQ S x=some ds/\∃ns,ds=ns.map cu/\ns≠[]/\∀m,m∈ns->(∀a,a∈ns->a<=m)->R (.d (.int m)) S
theorem LL{K:cq}:RC (vU K) FD:=fun h o H S xs vs R Q hs hx q c=>by
 obtain⟨x,rfl,ds,hd,ns,rfl,hn,q1⟩:=cQ q;obtain⟨v,rfl,aa⟩:=hxs1 hx;obtain⟨a,ws,rfl,ea,l⟩:=uA hs hd aa;rw[nH l]at ea;exact⟨a,ns,rfl,ea.elim (fun z=>.inr (.of z)) (fun z=>.inl (.of z)),hn,fun m m1 m2=>c o H S _ _ Ex.refl hs (xI _) (q1 m m1 m2)⟩
theorem Nn{K:cq}:RC (GQ K) mY:=fun h o H S xs vs R Q hs hx q c=>by
 obtain⟨x,rfl,ds,hd,ns,rfl,hn,q1⟩:=cQ q;obtain⟨v,rfl,aa⟩:=hxs1 hx;obtain⟨a,ws,rfl,ea,l⟩:=uA hs hd aa;rw[nH l]at ea;exact⟨a,ns,rfl,ea.elim (fun z=>.inr (.of z)) (fun z=>.inl (.of z)),hn,fun m m1 m2=>c o H S _ _ Ex.refl hs (xI _) (q1 m m1 m2)⟩
def dBM(rd:XV->List XV->Sto->RX->Prop)(e:DE)(a:DA):DE:=fun δ S R=>e δ S fun x S1=>∃k,x=.l k/\k<S1.length/\a δ S1 fun xs S2=>rd x xs S2 R
def gJ(rd:XV->List XV->Sto->RX->Prop)(e:DE):DE:=fun δ S R=>e δ S fun x S1=>∃k,x=.l k/\k<S1.length/\rd x [] S1 R
def RM(r:V->List V->Hp->VK->Prop)(rd:XV->List XV->Sto->RX->Prop):Prop:=∀(h o:List Addr) (H:Hp) (S:Sto) (x:XV) (v:V) (xs:List XV) (vs:List V) (R:RX) (Q:VK),RepS h o H S->HasX h o H x v->HasXs h o H xs vs->rd x xs S R->Cn h o H R Q->r v vs H Q
theorem y9{K:cq}{H:Hp}{a:Addr}{vs:List V}(e:H a=some (.lst vs)):tyV K "list" (.ref a) H:=.inl ⟨rfl,vs,.of e⟩
theorem BP{h o:List Addr}{H:Hp}{S:Sto}{k:Nat}{v:V}(hs:RepS h o H S)(hk:k<S.length)(hx:HasX h o H (.l k) v):∃a vs,v=.ref a/\H a=some (.lst vs):=by
 obtain⟨a,e,rfl⟩:=hx;obtain⟨vs,e2,_⟩:=hs.cont k a _ e (cw hk);exact⟨a,vs,rfl,e2⟩
theorem yK{K:cq}{r:V->List V->Hp->VK->Prop}{rd:XV->List XV->Sto->RX->Prop}{te:TE}{de:DE}{tl:TA}{dl:DA}(hr:RM r rd)(z:RE te de)(ha:RA tl dl):RE (tBM K "list" r te tl) (dBM rd de dl):=fun h o H δ σ S R Q he hs q c=>
 z h o H δ σ S _ _ he hs q fun o1 H1 S1 x v e1 s1 x1 ⟨k,ek,hk,d1⟩=>by
  subst ek;obtain⟨a,ws,rfl,ea⟩:=BP s1 hk x1;exact⟨y9 ea,ha h o1 H1 δ σ S1 _ _ (he.mono e1) s1 d1 fun o2 H2 S2 xs vs e2 s2 x2 d2=>hr h o2 H2 S2 (.l k) _ xs vs R Q s2 (x1.mono e2) x2 d2 (c.pre (e1.trans e2))⟩
theorem KO{K:cq}{r:V->List V->Hp->VK->Prop}{rd:XV->List XV->Sto->RX->Prop}{te:TE}{de:DE}(hr:RM r rd)(z:RE te de):RE (Ar K "list" r te) (gJ rd de):=fun h o H δ σ S R Q he hs q c=>
 z h o H δ σ S _ _ he hs q fun o1 H1 S1 x v e1 s1 x1 ⟨k,ek,hk,d1⟩=>by
  subst ek;obtain⟨a,ws,rfl,ea⟩:=BP s1 hk x1;exact⟨y9 ea,hr h o1 H1 S1 (.l k) _ [] [] R Q s1 x1 rfl d1 (c.pre e1)⟩
def fE:XV->List XV->Sto->RX->Prop:=fun x xs S R=>∃k,x=.l k/\∃ds,S[k]?=some ds/\arg1 xs fun y=>asD y fun d=>ds.length<1000/\R (.d .none) (S.set k (ds++[d]))
theorem Bu:RM GT fE:=fun h o H S x v xs vs R Q hs hx z q c=>by
 obtain⟨k,rfl,ds,e,q1⟩:=q;obtain⟨y,rfl,q2⟩:=cQ q1;obtain⟨d,rfl,hl,q3⟩:=gL q2;obtain⟨a,ea,rfl⟩:=hx;obtain⟨u,rfl,hu⟩:=hxs1 z;obtain⟨ws,ew,l⟩:=hs.cont k a ds ea e;exact⟨a,ws,u,rfl,rfl,ew,by rw[l.length];exact small1000 (kl hl),c o _ _ (.d .none) _ (Ex.upd ea) (hs.upd ea (l.append (zu.mpr ⟨u,[],rfl,hu,zK.mpr rfl⟩))) xN q3⟩
def gC:XV->List XV->Sto->RX->Prop:=fun x xs S R=>∃k,x=.l k/\∃ds,S[k]?=some ds/\xs=[]/\R (.d .none) (S.set k ds.reverse)
theorem Hh:RM E4 gC:=fun h o H S x v xs vs R Q hs hx z q c=>by
 obtain⟨k,rfl,ds,e,rfl,q1⟩:=q;obtain⟨a,ea,rfl⟩:=hx;obtain⟨ws,ew,l⟩:=hs.cont k a ds ea e;cases z;exact⟨a,ws,rfl,rfl,ew,c o _ _ (.d .none) _ (Ex.upd ea) (hs.upd ea l.rev) xN q1⟩
def rF:XV->List XV->Sto->RX->Prop:=fun x xs S R=>∃k,x=.l k/\∃ds,S[k]?=some ds/\arg1 xs fun y=>∃es,dX S y=some es/\ds.length+es.length<=1000/\R (.d .none) (S.set k (ds++es))
def ret0(S:Sto)(R:RX):RX:=fun y S'=>match y,S' with
 | .d d,[]=>R (.d d) S
 | .l 0,[ds]=>R (.l S.length) (S++[ds])
 |_,_=>False
def tJ(k:Nat)(S:Sto)(R:RX):RX:=fun y S'=>match y,S' with
 | .d d,[p]=>R (.d d) (S.set k p)
 | .l 1,[p,ds]=>R (.l S.length) (S.set k p++[ds])
 |_,_=>False
section
variable {h o:List Addr}{H:Hp}{S:Sto}{R:RX}{Q:VK}
theorem iZ{h o h' o':List Addr}{H:Hp}(e:∀b,(b∈h'\/b∈o')↔(b∈h\/b∈o)):vx h' o' H=vx h o H:=by
 funext b;have z:∀u,vx h' o' H b=some u↔vx h o H b=some u:=fun u=>by
  rw[zZ,zZ];have:=e b;constructor
  ·rintro⟨a1,a2,a3⟩;exact⟨fun m=>(this.mpr (.inl m)).elim a1 a2,fun m=>(this.mpr (.inr m)).elim a1 a2,a3⟩
  ·rintro⟨a1,a2,a3⟩;exact⟨fun m=>(this.mp (.inl m)).elim a1 a2,fun m=>(this.mp (.inr m)).elim a1 a2,a3⟩
 cases e1:vx h' o' H b with
 |some u=>exact((z u).mp e1).symm
 |none=>
  cases e2:vx h o H b with
  |none=>rfl
  |some u=>rw[(z u).mpr e2]at e1;cases e1
theorem rep0(hs:RepS h o H S):RepS (h++o) [] H [] where
 len:=rfl
 nd:=nodup_nil
 dis:=fun a ha=>by cases ha
 hal:=fun b hb=>(mem_append.mp hb).elim (hs.hal b) (hs.oam b)
 cont:=fun k a ds e=>by simp at e
theorem hx0{d:bq}{v:V}(hx:HasX h o H (.d d) v):HasX (h++o) [] H (.d d) v:=by
 show Has (vx (h++o) [] H) d v;rw[iZ (h:=h) (o:=o) fun b=>by simp];exact hx
theorem hx0'{d:bq}{v:V}(hx:HasX (h++o) [] H (.d d) v):HasX h o H (.d d) v:=by
 show Has (vx h o H) d v;rw[<- iZ (h':=h++o) (o':=[]) (h:=h) (o:=o) fun b=>by simp];exact hx
theorem cn0(hs:RepS h o H S)(c:Cn h o H R Q):Cn (h++o) [] H (ret0 S R) Q:=fun o' H' S' y v e s' hy q=>by
 have sm:Same H (vx [] o' H'):=fun b u eb=>by
  obtain⟨a1,a2⟩:=e.kp b u yv eb;exact zZ.mpr ⟨yv,a1,a2⟩
 have sH:Same H H':=fun b u eb=>(zZ.mp (sm b u eb)).2.2;unfold ret0 at q;split at q
 ·have e0:o'=[]:=jd s'.len.symm;subst e0;exact c o H' S _ v (Ex.of_same sH) (hs.same sH) (hx0' hy) q
 ·rename_i ds;obtain⟨a,rfl⟩:∃a,o'=[a]:=List.length_eq_one_iff.mp s'.len.symm;obtain⟨a',ea,rfl⟩:=hy;cases ea;obtain⟨vs,ev,l⟩:=s'.cont 0 a ds rfl rfl;have na:a∉h++o:=s'.dis a yv;have hn:H a=none:=by
   cases eh:H a with
   |none=>rfl
   |some u=>exact absurd (e.kp a u yv eh).1 yv
  have e2:Ex o H (o++[a]) H':=⟨⟨[a],rfl⟩,fun b u hb eb=>by
   obtain⟨a1,a2⟩:=e.kp b u yv eb;exact⟨by simp only[mem_append,not_or];exact⟨hb,a1⟩,a2⟩⟩
  have aa:vx (h++o) [a] H'=vx h (o++[a]) H':=iZ fun b=>by simp[or_assoc]
  rw[aa]at l;refine c (o++[a]) H' (S++[ds]) (.l S.length) _ e2 ⟨by simp[hs.len],nP hs.nd fun m=>na (gm _ m),fun b hb=>?_,fun b hb=>?_,fun k b es q1 q2=>?_⟩ ⟨a,by rw[hs.len,dh],rfl⟩ q
  ·rcases mem_append.mp hb with hb|hb
   ·exact hs.dis b hb
   ·rw[mem_singleton.mp hb];exact fun m=>na (gj _ m)
  ·obtain⟨u,eb⟩:=hs.hal b hb;exact⟨u,sH b _ eb⟩
  ·by_cases hk:k<o.length
   ·rw[ft hk]at q1;rw[ft (by rw[hs.len];exact hk)]at q2;obtain⟨ws,e3,l3⟩:=hs.cont k b es q1 q2;exact⟨ws,sH _ _ e3,l3.mono e2.vx⟩
   ·have z:k=o.length:=by
     obtain⟨q,_⟩:=List.getElem?_eq_some_iff.mp q1;rw[gu,jt]at q;omega
    subst z;rw[dh]at q1;rw[<- hs.len,dh]at q2;cases q1;cases q2;exact⟨vs,ev,l⟩
 ·exact q.elim
theorem uU{k:Nat}{a:Addr}{p:List bq}(hs:RepS h o H S)(ea:o[k]?=some a)(ep:S[k]?=some p):RepS (h++o.filter (fun b=>b≠a)) [a] H [p] where
 len:=rfl
 nd:=by simp
 dis:=fun b hb=>by
  rw[mem_singleton.mp hb];intro m;rcases mem_append.mp m with m|m
  ·exact hs.dis a (cb ea) m
  ·have:=(mem_filter.mp m).2;simp at this
 hal:=fun b hb=>(mem_append.mp hb).elim (hs.hal b) fun m=>hs.oam b (mem_filter.mp m).1
 cont:=fun j b ds e1 e2=>by
  cases j with
  |succ j=>simp at e1
  |zero=>
   cases e1;cases e2;obtain⟨vs,e3,l⟩:=hs.cont k a p ea ep;refine⟨vs,e3,?_⟩;rw[iZ (h:=h) (o:=o) (mem_pen ea)];exact l
where
 mem_pen {h o:List Addr}{k:Nat}{a:Addr} (ea:o[k]?=some a) (b:Addr):(b∈h++o.filter (fun b=>b≠a)\/b∈[a])↔(b∈h\/b∈o):=by
  have ma:=cb ea;by_cases e:b=a
  ·subst e;simp[ma]
  ·simp[e]
theorem hxP{k:Nat}{a:Addr}{d:bq}{v:V}(ea:o[k]?=some a)(hx:HasX h o H (.d d) v):HasX (h++o.filter (fun b=>b≠a)) [a] H (.d d) v:=by
 show Has (vx _ _ H) d v;rw[iZ (h:=h) (o:=o) (uU.mem_pen ea)];exact hx
theorem cnP{k:Nat}{a:Addr}{p:List bq}(hs:RepS h o H S)(ea:o[k]?=some a)(ep:S[k]?=some p)(c:Cn h o H R Q):Cn (h++o.filter (fun b=>b≠a)) [a] H (tJ k S R) Q:=fun o' H' S' y v e s' hy q=>by
 have ma:=cb ea;have hk:k<o.length:=(List.getElem?_eq_some_iff.mp ea).1;unfold tJ at q;split at q
 ·rename_i d p';obtain⟨r,rfl⟩:=e.pre;have er:r=[]:=by
   have:=s'.len;simp at this;exact this
  subst er;have ex:Ex o H o H':=⟨⟨[],yv⟩,fun b u hb eb=>⟨hb,(e.kp b u (fun m=>hb (by rw[mem_singleton.mp m];exact ma)) eb).2⟩⟩;obtain⟨vs,ev,l⟩:=s'.cont 0 a p' rfl rfl;have aa:vx (h++o.filter (fun b=>b≠a)) ([a]++[]) H'=vx h o H':=iZ (uU.mem_pen ea);rw[aa]at l;refine c o H' (S.set k p') (.d d) v ex ⟨by simp[hs.len],hs.nd,hs.dis,fun b hb=>?_,fun j b es q1 q2=>?_⟩ (by
   have ac:Has (vx (h++o.filter (fun b=>b≠a)) ([a]++[]) H') d v:=hy;rw[aa]at ac;exact ac) q
  ·obtain⟨u,eb⟩:=hs.hal b hb;exact⟨u,(e.kp b _ (fun m=>hs.dis a ma (by rw[<- mem_singleton.mp m];exact hb)) eb).2⟩
  ·by_cases hj:j=k
   ·subst hj;rw[q1]at ea;cases ea;rw[oy (by rw[hs.len];exact hk)]at q2;cases q2;exact⟨vs,ev,l⟩
   ·rw[sj (im hj)]at q2;obtain⟨ws,e3,l3⟩:=hs.cont j b es q1 q2;have ne:b≠a:=fun z=>hj (pR hs.nd q1 (z▸ea));exact⟨ws,(e.kp b _ (by simp[ne]) e3).2,l3.mono ex.vx⟩
 ·rename_i p' ds;obtain⟨r,rfl⟩:=e.pre;obtain⟨a2,rfl⟩:∃a2,r=[a2]:=by
   have:=s'.len;simp at this;exact List.length_eq_one_iff.mp this
  obtain⟨b2,ah,rfl⟩:=hy;cases ah;obtain⟨vs,ev,l⟩:=s'.cont 0 a p' rfl rfl;obtain⟨ae,ag,l2⟩:=s'.cont 1 a2 ds rfl rfl;have n2:a2∉h++o.filter (fun b=>b≠a):=s'.dis a2 yv;have n3:a≠a2:=by
   have:=s'.nd;simp at this;exact this
  have n4:a2∉o:=fun m=>n2 (gm _ (mem_filter.mpr ⟨m,by simp[im n3]⟩));have ex:Ex o H (o++[a2]) H':=⟨⟨[a2],rfl⟩,fun b u hb eb=>by
   obtain⟨z1,z2⟩:=e.kp b u (fun m=>hb (by rw[mem_singleton.mp m];exact ma)) eb;refine⟨?_,z2⟩;simp only[mem_append,not_or];exact⟨hb,fun m=>z1 (by simp at m ⊢;exact .inr m)⟩⟩
  have aa:vx (h++o.filter (fun b=>b≠a)) ([a]++[a2]) H'=vx h (o++[a2]) H':=iZ fun b=>by
   have:=uU.mem_pen (h:=h) ea b;simp only[mem_append]at this ⊢;rw[<- or_assoc,this,or_assoc]
  rw[aa]at l l2;refine c (o++[a2]) H' (S.set k p'++[ds]) (.l S.length) _ ex ⟨by simp[hs.len],nP hs.nd n4,fun b hb=>?_,fun b hb=>?_,fun j b es q1 q2=>?_⟩ ⟨a2,by rw[hs.len,dh],rfl⟩ q
  ·rcases mem_append.mp hb with hb|hb
   ·exact hs.dis b hb
   ·rw[mem_singleton.mp hb];exact fun m=>n2 (gj _ m)
  ·obtain⟨u,eb⟩:=hs.hal b hb;exact⟨u,(e.kp b _ (fun m=>hs.dis a ma (by rw[<- mem_singleton.mp m];exact hb)) eb).2⟩
  ·by_cases hjo:j<o.length
   ·rw[ft hjo]at q1;rw[ft (by rw[length_set,hs.len];exact hjo)]at q2;by_cases hj:j=k
    ·subst hj;rw[q1]at ea;cases ea;rw[oy (by rw[hs.len];exact hk)]at q2;cases q2;exact⟨vs,ev,l⟩
    ·rw[sj (im hj)]at q2;obtain⟨ws,e3,l3⟩:=hs.cont j b es q1 q2;have ne:b≠a:=fun z=>hj (pR hs.nd q1 (z▸ea));exact⟨ws,(e.kp b _ (by simp[ne]) e3).2,l3.mono ex.vx⟩
   ·have af:j=o.length:=by
     obtain⟨q,_⟩:=List.getElem?_eq_some_iff.mp q1;rw[gu,jt]at q;omega
    subst af;rw[dh]at q1;rw[<- hs.len,<- length_set (i:=k) (a:=p'),dh]at q2;cases q1;cases q2;exact⟨ae,ag,l2⟩
 ·exact q.elim
end
structure DEnds where
 nx:XE->Sto->Prop
 rt:RX
 bk:XE->Sto->Prop:=fun _ _=>False
 ct:XE->Sto->Prop:=fun _ _=>False
abbrev DS:=DEnds->XE->Sto->Prop
abbrev DG:=XV->XE->Sto->(XE->Sto->Prop)->Prop
abbrev DGs:=List bq->XE->Sto->(XE->Sto->Prop)->Prop
def Nx(h o:List Addr)(H:Hp)(N:XE->Sto->Prop)(M:St->Hp->Prop):Prop:=∀o' H' δ' S' σ',Ex o H o' H'->RepE h o' H' δ' σ'->RepS h o' H' S'->N δ' S'->M σ' H'
theorem Nx.pre{h o o':List Addr}{H H':Hp}{N:XE->Sto->Prop}{M:St->Hp->Prop}(c:Nx h o H N M)(e:Ex o H o' H'):Nx h o' H' N M:=fun o2 H2 δ2 S2 σ2 e2=>c o2 H2 δ2 S2 σ2 (e.trans e2)
structure EOk(h o:List Addr)(H:Hp)(E:DEnds)(D:Ends):Prop where
 nx:Nx h o H E.nx D.nx
 rt:Cn h o H E.rt D.rt
 bk:Nx h o H E.bk D.bk
 ct:Nx h o H E.ct D.ct
theorem EOk.pre{h o o':List Addr}{H H':Hp}{E:DEnds}{D:Ends}(c:EOk h o H E D)(e:Ex o H o' H'):EOk h o' H' E D:=⟨c.nx.pre e,c.rt.pre e,c.bk.pre e,c.ct.pre e⟩
def RS(t:TS)(dt:DS):Prop:=∀(h o:List Addr) (H:Hp) (δ:XE) (σ:St) (S:Sto) (E:DEnds) (D:Ends),RepE h o H δ σ->RepS h o H S->dt E δ S->EOk h o H E D->t D σ H
def RG(t:TG)(dt:DG):Prop:=∀(h o:List Addr) (H:Hp) (δ:XE) (σ:St) (S:Sto) (x:XV) (v:V) (N:XE->Sto->Prop) (M:St->Hp->Prop),RepE h o H δ σ->RepS h o H S->HasX h o H x v->dt x δ S N->Nx h o H N M->t v σ H M
def RGs(t:TGs)(dt:DGs):Prop:=∀(h o:List Addr) (H:Hp) (δ:XE) (σ:St) (S:Sto) (ds:List bq) (vs:List V) (N:XE->Sto->Prop) (M:St->Hp->Prop),RepE h o H δ σ->RepS h o H S->HasL (vx h o H) ds vs->dt ds δ S N->Nx h o H N M->t vs σ H M
def zj(i:Nat):DG:=fun x δ S N=>N (δ.set i (some x)) S
def bN:DGs:=fun ds δ S N=>ds=[]/\N δ S
def hdD:List bq->(bq->List bq->Prop)->Prop
 |d::es,k=>k d es
 | [],_=>False
theorem MH{ds:List bq}{k:bq->List bq->Prop}(h:hdD ds k):∃d es,ds=d::es/\k d es:=by
 cases ds with
 |nil=>exact h.elim
 |cons d es=>exact⟨d,es,rfl,h⟩
theorem pD{d:bq}{es:List bq}{k:bq->List bq->Prop}:hdD (d::es) k=k d es:=rfl
def aO(g:DG)(r:DGs):DGs:=fun ds δ S N=>hdD ds fun d es=>g (.d d) δ S fun δ' S'=>r es δ' S' N
def bS(n:Nat)(r:DGs):DG:=fun x δ S N=>asT x fun ds=>ds.length=n/\r ds δ S N
def jD(a b:DE):DG:=fun x δ S N=>a δ S fun y S1=>b δ S1 fun z S2=>asD x fun d=>∃k,y=.l k/\∃ds,S2[k]?=some ds/\asI z fun i=>∃j,ixN ds.length i=some j/\N δ (S2.set k (ds.set j d))
theorem zN{i:Nat}:RG (lI i) (zj i):=fun h o H δ σ S x v N M he hs hx q c=>c o H _ S _ Ex.refl (he.set hx) hs q
theorem kO:RGs F7 bN:=fun h o H δ σ S ds vs N M he hs l ⟨e,q⟩ c=>by
 subst e;exact⟨zK.mp l,c o H δ S σ Ex.refl he hs q⟩
theorem eI{t:TG}{u:TGs}{g:DG}{r:DGs}(h1:RG t g)(h2:RGs u r):RGs (CF t u) (aO g r):=fun h o H δ σ S ds vs N M he hs l q0 c=>by
 obtain⟨d,es,rfl,q⟩:=MH q0;obtain⟨v,ws,rfl,hv,l⟩:=zu.mp l;exact⟨v,ws,rfl,h1 h o H δ σ S (.d d) v _ _ he hs hv q fun o1 H1 δ1 S1 σ1 e1 aa z q1=>h2 h o1 H1 δ1 σ1 S1 es ws N M aa z (l.mono e1.vx) q1 (c.pre e1)⟩
theorem k9{K:cq}{n:Nat}{t:TGs}{r:DGs}(h1:RGs t r):RG (Fo K n t) (bS n r):=fun h o H δ σ S x v N M he hs hx q c=>by
 replace q:=kM q;obtain⟨ds,rfl,hn,q⟩:=q;obtain⟨a,vs,rfl,ea,l⟩:=fC hx;exact⟨a,vs,rfl,.of ea,by rw[l.length];exact hn,h1 h o H δ σ S ds vs N M he hs l q c⟩
theorem HasL.setAt{H:Hp}:∀{ds:List bq}{vs:List V}{j:Nat}{d:bq}{v:V},HasL H ds vs->Has H d v->HasL H (ds.set j d) (vs.set j v)
 | [],vs,j,d,v,l,_=>by rw[zK.mp l];exact zK.mpr rfl
 |c::ds,vs,0,d,v,l,q=>by
  obtain⟨u,r,rfl,_,l⟩:=zu.mp l;exact zu.mpr ⟨v,r,rfl,q,l⟩
 |c::ds,vs,j+1,d,v,l,q=>by
  obtain⟨u,r,rfl,hu,l⟩:=zu.mp l;exact zu.mpr ⟨u,r.set j v,rfl,hu,HasL.setAt l q⟩
theorem IK{ta tb:TE}{da db:DE}(ha:RE ta da)(hb:RE tb db):RG (FS ta tb GI) (jD da db):=fun h o H δ σ S x v N M he hs hx q c=>
 ha h o H δ σ S _ _ he hs q fun o1 H1 S1 y u e1 s1 y1 d1=>hb h o1 H1 δ σ S1 _ _ (he.mono e1) s1 d1 fun o2 H2 S2 z w e2 s2 z2 d0=>by
  obtain⟨d,rfl,k,rfl,ds,es,d2⟩:=gL d0;replace d2:=bQ d2;obtain⟨i,rfl,j,ej,d2⟩:=d2;obtain⟨a,ea,rfl⟩:=y1.mono e2;obtain⟨ws,ew,l⟩:=s2.cont k a ds ea es;refine⟨a,ws,i,j,rfl,bH z2,ew,by rw[l.length];exact ej,?_⟩;exact c o2 _ δ _ σ ((e1.trans e2).trans (Ex.upd ea)) (((he.mono e1).mono e2).mono (Ex.upd ea)) (s2.upd ea (l.setAt (hx.mono (e1.trans e2)))) d2
def aJ:DS:=fun E δ S=>E.nx δ S
def zQ(t u:DS):DS:=fun E δ S=>t { E with nx:=u E } δ S
def aA(e:DE)(g:DG):DS:=fun E δ S=>e δ S fun x S1=>g x δ S1 E.nx
def dG(e:DE):DS:=fun E δ S=>e δ S fun _ S1=>E.nx δ S1
def aB(e:DE):DS:=fun E δ S=>e δ S E.rt
def aI(c:DT)(t u:DS):DS:=fun E δ S=>c δ S fun b S1=>if b=true then t E δ S1 else u E δ S1
section
variable {t u:TS}{dt du:DS}{te:TE}{de:DE}
theorem bX:RS vL aJ:=fun h o H δ σ S E D he hs q c=>c.nx o H δ S σ Ex.refl he hs q
theorem aP(ht:RS t dt)(hu:RS u du):RS (dP t u) (zQ dt du):=fun h o H δ σ S E D he hs q c=>
 ht h o H δ σ S _ _ he hs q ⟨fun o1 H1 δ1 S1 σ1 e1 z aa q1=>hu h o1 H1 δ1 σ1 S1 E D z aa q1 (c.pre e1),c.rt,c.bk,c.ct⟩
theorem cM{g:TG}{dg:DG}(z:RE te de)(hg:RG g dg):RS (m5 te g) (aA de dg):=fun h o H δ σ S E D he hs q c=>
 z h o H δ σ S _ _ he hs q fun o1 H1 S1 x v e1 s1 x1 d1=>hg h o1 H1 δ σ S1 x v _ _ (he.mono e1) s1 x1 d1 (c.nx.pre e1)
theorem wA(z:RE te de):RS (xM te) (dG de):=fun h o H δ σ S E D he hs q c=>
 z h o H δ σ S _ _ he hs q fun o1 H1 S1 x v e1 s1 x1 d1=>c.nx o1 H1 δ S1 σ e1 (he.mono e1) s1 d1
theorem cA(z:RE te de):RS (uB te) (aB de):=fun h o H δ σ S E D he hs q c=>z h o H δ σ S _ _ he hs q c.rt
theorem eW{tc:TT}{dc:DT}(hc:RT tc dc)(ht:RS t dt)(hu:RS u du):RS (tF tc t u) (aI dc dt du):=fun h o H δ σ S E D he hs q c=>
 hc h o H δ σ S _ _ he hs q fun o1 H1 S1 b e1 s1 d1=>by
  cases b with
  |true=>exact g9 (ht h o1 H1 δ σ S1 E D (he.mono e1) s1 (by simpa using d1) (c.pre e1))
  |false=>exact gD (hu h o1 H1 δ σ S1 E D (he.mono e1) s1 (by simpa using d1) (c.pre e1))
def frz(n:Nat)(ds:List bq):Option XV->Option XV
 |some (.l k)=>if k=n then some (.d (.list ds))else some (.l k)
 |some (.p k d)=>if k=n then some (.d (.tuple [.list ds,d]))else some (.p k d)
 |y=>y
end
abbrev DI:=XE->Sto->(List bq->Sto->Prop)->Prop
structure WalkX(h o:List Addr)(H:Hp)(J:It)(ds:List bq):Prop where
 stop:∀(i:Nat) o2 H2,ExH h o H o2 H2->ds.length<=i->J.stop i H2
 go:∀(i:Nat) d o2 H2,ExH h o H o2 H2->ds[i]?=some d->J.go i H2
 yld:∀(i:Nat) d o2 H2 x H3 S2,ExH h o H o2 H2->RepS h o2 H2 S2->ds[i]?=some d->J.yld i H2 x H3->Same H2 H3/\Has (vx h o2 H3) d x
def RI(w:TI)(di:DI):Prop:=∀(h o:List Addr) (H:Hp) (δ:XE) (σ:St) (S:Sto) (R:List bq->Sto->Prop) (Q:It->Hp->Prop),RepE h o H δ σ->RepS h o H S->di δ S R ->
 (∀o' H' S' ds J,Ex o H o' H'->RepS h o' H' S'->WalkX h o' H' J ds->R ds S'->Q J H')->w σ H Q
theorem B0{h o:List Addr}{H:Hp}{lo:Int}{n:Nat}:WalkX h o H (Itr lo n) (gS lo n) where
 stop:=fun i _ _ _ hi=>by rw[iO]at hi;exact hi
 go:=fun i d _ _ _ hi=>(iB hi).1
 yld:=fun i d o2 H2 x H3 S2 _ _ hi y=>by
  obtain⟨e,ex⟩:=y;subst e ex;rw[(iB hi).2];exact⟨Same.refl _,eA.mpr rfl⟩
def iG(g:DG)(b:DS):List bq->DS
 | [],E,δ,S=>E.nx δ S
 |d::ds,E,δ,S=>g (.d d) δ S fun δ1 S1=>b { nx:=fun δ2 S2=>iG g b ds E δ2 S2,ct:=fun δ2 S2=>iG g b ds E δ2 S2,bk:=E.nx,rt:=E.rt } δ1 S1
def bE(i:DI)(g:DG)(b:DS):DS:=fun E δ S=>i δ S fun ds S1=>iG g b ds E δ S1
theorem nU{wi:TI}{g:TG}{tb:TS}{di:DI}{dg:DG}{db:DS}(hi:RI wi di)(hg:RG g dg)(hb:RS tb db):RS (k8 wi g tb) (bE di dg db):=fun h o H δ σ S E D he hs q c=>
 hi h o H δ σ S _ _ he hs q fun o1 H1 S1 ds J e1 s1 wk d1=>by
  refine⟨fun i m σ2 H2=>m=ds.length-i/\i<=ds.length/\∃o2 δ2 S2,Ex o1 H1 o2 H2/\RepE h o2 H2 δ2 σ2/\RepS h o2 H2 S2/\iG dg db (ds.drop i) E δ2 S2,⟨ds.length,yv,ly _,o1,δ,S1,Ex.refl,he.mono e1,s1,d1⟩,?_⟩;rintro i m σ2 H2 ⟨rfl,hi,o2,δ2,S2,e2,ag,z,d2⟩;by_cases hlt:i<ds.length
  ·have ed:ds[i]?=some ds[i]:=cw hlt;rw[ko hlt]at d2;refine .inr ⟨wk.go i _ o2 H2 e2.hid ed,fun σ3 H3=>∃o3 δ3 S3,Ex o1 H1 o3 H3/\RepE h o3 H3 δ3 σ3/\RepS h o3 H3 S3/\iG dg db (ds.drop (i+1)) E δ3 S3,fun σ3 H3 n=>⟨ds.length-(i+1),yw,rfl,hlt,n⟩,fun x H3 y=>?_⟩;obtain⟨s3,hx⟩:=wk.yld i _ o2 H2 x H3 S2 e2.hid z ed y;have af:Ex o2 H2 o2 H3:=Ex.of_same s3;refine hg h o2 H3 δ2 σ2 S2 (.d ds[i]) x _ _ (ag.mono af) (z.same s3) hx d2 fun o4 H4 δ4 S4 σ4 e4 ah ai d4=>?_;have ae:Ex o1 H1 o4 H4:=(e2.trans af).trans e4;have ce:=(c.pre e1).pre ae;exact hb h o4 H4 δ4 σ4 S4 _ _ ah ai d4 ⟨fun o5 H5 δ5 S5 σ5 e5 ac aa d5=>⟨o5,δ5,S5,ae.trans e5,ac,aa,d5⟩,ce.rt,ce.nx,fun o5 H5 δ5 S5 σ5 e5 ac aa d5=>⟨o5,δ5,S5,ae.trans e5,ac,aa,d5⟩⟩
  ·have ei:i=ds.length:=yw
   subst ei;rw[drop_length]at d2;exact .inl ⟨wk.stop _ o2 H2 e2.hid (dw _),c.nx o2 H2 δ2 S2 σ2 (e1.trans e2) ag z d2⟩
def Dt(cd:DT)(b:DS):DS:=fun E δ S=>∃W:Nat->XE->Sto->Prop,(∃m,W m δ S)/\∀m δ S,W m δ S ->
 cd δ S fun x S1=>if x=true then ∃N:XE->Sto->Prop,(∀ δ' S',N δ' S'->∃m',m'<m/\W m' δ' S')/\b { nx:=N,ct:=N,bk:=E.nx,rt:=E.rt } δ S1 else E.nx δ S1
theorem G5{tc:TT}{tb:TS}{dc:DT}{db:DS}(hc:RT tc dc)(hb:RS tb db):RS (Bf tc tb) (Dt dc db):=fun h o H δ σ S E D he hs ⟨W,⟨m0,w0⟩,q⟩ c=>by
 refine⟨fun m σ2 H2=>∃o2 δ2 S2,Ex o H o2 H2/\RepE h o2 H2 δ2 σ2/\RepS h o2 H2 S2/\W m δ2 S2,⟨m0,o,δ,S,Ex.refl,he,hs,w0⟩,?_⟩;rintro m σ2 H2 ⟨o2,δ2,S2,e2,ac,af,w2⟩;refine hc h o2 H2 δ2 σ2 S2 _ _ ac af (q m δ2 S2 w2) fun o3 H3 S3 b e3 s3 d3=>?_;cases b with
 |false=>exact gD (c.nx o3 H3 δ2 S3 σ2 (e2.trans e3) (ac.mono e3) s3 (by simpa using d3))
 |true=>
  refine g9 ?_;obtain⟨N,n1,d3⟩:∃N:XE->Sto->Prop,(∀ δ' S',N δ' S'->∃m',m'<m/\W m' δ' S')/\db { nx:=N,ct:=N,bk:=E.nx,rt:=E.rt } δ2 S3:=by simpa using d3
  have ae:=e2.trans e3;have ce:=c.pre ae;refine⟨fun σ4 H4=>∃o4 δ4 S4,Ex o H o4 H4/\RepE h o4 H4 δ4 σ4/\RepS h o4 H4 S4/\N δ4 S4,fun σ4 H4 ⟨o4,δ4,S4,e4,ag,ah,n4⟩=>?_,?_⟩
  ·obtain⟨m',hm,w'⟩:=n1 δ4 S4 n4;exact⟨m',hm,o4,δ4,S4,e4,ag,ah,w'⟩
  ·exact hb h o3 H3 δ2 σ2 S3 _ _ (ac.mono e3) s3 d3 ⟨fun o5 H5 δ5 S5 σ5 e5 aa z d5=>⟨o5,δ5,S5,ae.trans e5,aa,z,d5⟩,ce.rt,ce.nx,fun o5 H5 δ5 S5 σ5 e5 aa z d5=>⟨o5,δ5,S5,ae.trans e5,aa,z,d5⟩⟩
def bA:DT:=fun _ S R=>R true S
theorem jH:RT EF bA:=fun h o H δ σ S R Q he hs q c=>c o H S true Ex.refl hs q
def bO(n:Nat)(g:DG)(tt:DT)(te:DE)(fin:Sto->Prop):List bq->XE->Sto->Prop
 | [],_,S=>fin S
 |d::ds,τ,S=>g (.d d) τ S fun τ1 S1=>tt τ1 S1 fun b S2=>if b=true then te τ1 S2 fun x S3=>asD x fun e=>∃acc,S3[n]?=some acc/\acc.length<1000/\bO n g tt te fin ds τ1 (S3.set n (acc++[e]))else bO n g tt te fin ds τ1 S2
def fO(caps:List (Option Nat))(i:DI)(g:DG)(tt:DT)(te:DE):DE:=fun δ S R=>i δ S fun ds S1=>bO S1.length g tt te (fun S2=>R (.l S1.length) S2) ds (eX caps δ) (S1++[[]])
def cV(caps:List (Option Nat))(i:DI)(g:DG)(tt:DT)(te:DE):DE:=fun δ S R=>i δ S fun ds S1=>bO S1.length g tt te (fun S2=>∃S0 acc,S2=S0++[acc]/\S0.length=S1.length/\R (.d (.list acc)) S0) ds (eX caps δ) (S1++[[]])
theorem RepS.pop{h o r:List Addr}{H:Hp}{S0 T:Sto}(hs:RepS h (o++r) H (S0++T))(hl:S0.length=o.length):RepS h o H S0 where
 len:=hl
 nd:=(nodup_append.mp hs.nd).1
 dis:=fun a ha=>hs.dis a (gj _ ha)
 hal:=hs.hal
 cont:=fun k a ds e1 e2=>by
  obtain⟨vs,e3,l⟩:=hs.cont k a ds (gF e1) (gF e2);exact⟨vs,e3,l.mono fun b u e=>by
   obtain⟨z1,z2,z3⟩:=zZ.mp e;exact zZ.mpr ⟨z1,fun m=>z2 (gj _ m),z3⟩⟩
theorem sX{h o r:List Addr}{H:Hp}:Same (vx h (o++r) H) (vx h o H):=fun b u e=>by
 obtain⟨z1,z2,z3⟩:=zZ.mp e;exact zZ.mpr ⟨z1,fun m=>z2 (gj _ m),z3⟩
theorem Ex.pop{o o' r:List Addr}{H H':Hp}(e:Ex o H (o++r) H'):Ex o H o H':=⟨⟨[],yv⟩,fun b u hb eb=>⟨hb,(e.kp b u hb eb).2⟩⟩
theorem CY{caps:List (Option Nat)}{wi:TI}{g:TG}{tt:TT}{te:TE}{di:DI}{dg:DG}{ae:DT}{af:DE}(hi:RI wi di)(hg:RG g dg)(ht:RT tt ae)(ak:RE te af)
  {h o:List Addr}{H:Hp}{δ:XE}{σ:St}{S:Sto}{Q:VK}{fin:Nat->Sto->Prop} (he:RepE h o H δ σ) (hs:RepS h o H S) (q:di δ S fun ds S1=>bO S1.length dg ae af (fin S1.length) ds (eX caps δ) (S1++[[]]))
  (c:∀o1 H1 D o2 H2 S2,Ex o H o1 H1->H1 D=none->Ex (o1++[D]) (upd H1 D (.lst [])) o2 H2->RepS h o2 H2 S2->fin o1.length S2->Q (.ref D) H2):rG caps wi g tt te σ H Q:=by
 refine hi h o H δ σ S _ _ he hs q fun o1 H1 S1 ds J e1 s1 wk d1 D hD=>?_;have eN:Ex o1 H1 (o1++[D]) (upd H1 D (.lst [])):=Ex.new s1 hD;have sN:RepS h (o1++[D]) (upd H1 D (.lst [])) (S1++[[]]):=s1.new hD (zK.mpr rfl);have hn:S1.length=o1.length:=s1.len;refine⟨fun i m τ H2=>m=ds.length-i/\i<=ds.length/\∃o2 δ2 S2,Ex (o1++[D]) (upd H1 D (.lst [])) o2 H2/\RepE h o2 H2 δ2 τ/\RepS h o2 H2 S2/\bO S1.length dg ae af (fin S1.length) (ds.drop i) δ2 S2,⟨ds.length,yv,ly _,_,_,_,Ex.refl,((he.mono e1).mono eN).tau,sN,d1⟩,?_⟩;rintro i m τ H2 ⟨rfl,hi,o2,δ2,S2,e2,al,ac,d2⟩;by_cases hlt:i<ds.length
 ·have ed:ds[i]?=some ds[i]:=cw hlt;rw[ko hlt]at d2;refine .inr ⟨wk.go i _ o2 H2 (eN.trans e2).hid ed,fun x H3 y=>?_⟩;obtain⟨s3,hx⟩:=wk.yld i _ o2 H2 x H3 S2 (eN.trans e2).hid ac ed y;have ai:Ex o2 H2 o2 H3:=Ex.of_same s3;refine hg h o2 H3 δ2 τ S2 (.d ds[i]) x _ _ (al.mono ai) (ac.same s3) hx d2 fun o4 H4 δ4 S4 τ4 e4 aa aj d4=>?_;refine ht h o4 H4 δ4 τ4 S4 _ _ aa aj d4 fun o5 H5 S5 b e5 s5 d5=>?_;have ag:=((e2.trans ai).trans e4).trans e5;cases b with
  |false=>exact gD ⟨ds.length-(i+1),yw,rfl,hlt,o5,δ4,S5,ag,aa.mono e5,s5,by simpa using d5⟩
  |true=>
   refine g9 (ak h o5 H5 δ4 τ4 S5 _ _ (aa.mono e5) s5 (by simpa using d5) fun o6 H6 S6 z v e6 s6 z6 d6=>?_);replace d6:=gL d6;obtain⟨e,rfl,acc,ea,hl,d6⟩:=d6;have ah:=ag.trans e6;have eD:o6[S1.length]?=some D:=by
    obtain⟨r,rfl⟩:=ah.pre;rw[hn];exact gF (by rw[dh])
   obtain⟨vs,ev,l⟩:=s6.cont _ D acc eD ea;refine⟨vs,ev,by rw[l.length];exact small1000 (kl hl),ds.length-(i+1),yw,rfl,hlt,o6,δ4,_,ah.trans (Ex.upd eD),((aa.mono e5).mono e6).mono (Ex.upd eD),s6.upd eD (l.append (zu.mpr ⟨v,[],rfl,z6,zK.mpr rfl⟩)),d6⟩
 ·have ei:i=ds.length:=yw
  subst ei;rw[drop_length]at d2;exact .inl ⟨wk.stop _ o2 H2 (eN.trans e2).hid (dw _),c o1 H1 D o2 H2 S2 e1 hD e2 ac (hn▸d2)⟩
theorem BJ{caps:List (Option Nat)}{wi:TI}{g:TG}{tt:TT}{te:TE}{di:DI}{dg:DG}{z:DT}{aa:DE}(hi:RI wi di)(hg:RG g dg)(ht:RT tt z)(ac:RE te aa):RE (rG caps wi g tt te) (fO caps di dg z aa):=fun h o H δ σ S R Q he hs q c=>by
 refine CY (fin:=fun n S2=>R (.l n) S2) hi hg ht ac he hs q fun o1 H1 D o2 H2 S2 e1 hD e2 s2 f=>?_;have eN:Ex o1 H1 (o1++[D]) (upd H1 D (.lst [])):=⟨⟨[D],rfl⟩,fun b w hb e=>by
  have ne:b≠D:=zO e hD;exact⟨by simp[hb,ne],by rw[zG ne];exact e⟩⟩
 refine c o2 H2 S2 (.l o1.length) _ ((e1.trans eN).trans e2) s2 ⟨D,?_,rfl⟩ f;obtain⟨r,rfl⟩:=e2.pre;exact gF (by rw[dh])
theorem iA{caps:List (Option Nat)}{wi:TI}{g:TG}{tt:TT}{te:TE}{di:DI}{dg:DG}{aa:DT}{ac:DE}(hi:RI wi di)(hg:RG g dg)(ht:RT tt aa)(ae:RE te ac):RE (rG caps wi g tt te) (cV caps di dg aa ac):=fun h o H δ σ S R Q he hs q c=>by
 refine CY (fin:=fun n S2=>∃(S0:Sto) (acc:List bq),S2=S0++[acc]/\S0.length=n/\R (.d (.list acc)) S0) hi hg ht ae he hs q fun o1 H1 D o2 H2 S2 e1 hD e2 s2 ⟨S0,acc,eS,hl,f⟩=>?_;subst eS;have eN:Ex o1 H1 (o1++[D]) (upd H1 D (.lst [])):=⟨⟨[D],rfl⟩,fun b w hb e=>by
  have ne:b≠D:=zO e hD;exact⟨by simp[hb,ne],by rw[zG ne];exact e⟩⟩
 have z:=eN.trans e2;obtain⟨r,rfl⟩:=e2.pre;have er:r=[]:=by
  have:=s2.len;simp only[gu,jt,hl]at this;exact jd yw
 subst er;rw[jl]at s2 z;have s0:RepS h o1 H2 S0:=s2.pop hl;refine c o1 H2 S0 (.d (.list acc)) _ (e1.trans (Ex.pop (o':=o1) z)) s0 ?_ f;obtain⟨vs,ev,l⟩:=s2.cont o1.length D acc (by rw[dh]) (by rw[<- hl,dh]);have nD:D∉o1:=by
  have:=(nodup_append.mp s2.nd).2.2;intro m;exact this D m D yv rfl
 exact eK.mpr ⟨D,vs,rfl,zZ.mpr ⟨s2.dis D yv,nD,ev⟩,l.mono sX⟩
def fin(n:Nat)(R:RX):RX:=fun y S'=>match y with
 | .l k=>if k<n then R (.l k) (S'.take n)else ∃ds,S'[k]?=some ds/\(R (.d (.list ds)) (S'.take n)\/R (.l n) (S'.take n++[ds]))
 | .p k d=>n<=k/\∃ds,S'[k]?=some ds/\R (.p n d) (S'.take n++[ds])
 |y=>R y (S'.take n)
theorem B7{h o r:List Addr}{H H':Hp}{S S':Sto}{k:Nat}{a:Addr}{ds:List bq}(hs:RepS h o H S)(e:Ex o H (o++r) H')(s':RepS h (o++r) H' S')(hk:¬ k<S.length)(ea:(o++r)[k]?=some a)(ac:S'[k]?=some ds):
  Ex o H (o++[a]) H'/\Same (vx h (o++r) H') (vx h (o++[a]) H')/\RepS h (o++[a]) H' (S'.take S.length++[ds]):=by
 have eS:S'=S'.take S.length++S'.drop S.length:=(ny _ _).symm;have hl:(S'.take S.length).length=o.length:=by
  have:=s'.len;rw[gu]at this;rw[nv,this,hs.len];omega
 have s0:RepS h o H' (S'.take S.length):=by
  rw[eS]at s';exact s'.pop hl
 have e0:Ex o H o H':=Ex.pop (o':=o) e;obtain⟨vs,ev,l⟩:=s'.cont k a ds ea ac;have na:a∉o:=fun m=>by
  obtain⟨j,ej⟩:=mem_iff_getElem?.mp m;have hj:j<o.length:=(List.getElem?_eq_some_iff.mp ej).1;have:=pR s'.nd (gF (t:=r) ej) ea;rw[hs.len]at hk;omega
 have nh:a∉h:=s'.dis a (cb ea);have hn:H a=none:=by
  cases eh:H a with
  |none=>rfl
  |some u=>exact absurd (cb ea) (e.kp a u na eh).1
 have e1:Ex o H (o++[a]) H':=⟨⟨[a],rfl⟩,fun b u hb eb=>⟨by simp only[mem_append,mem_singleton,not_or];exact⟨hb,zO eb hn⟩,(e0.kp b u hb eb).2⟩⟩;have sub:Same (vx h (o++r) H') (vx h (o++[a]) H'):=fun b u eb=>by
  obtain⟨z1,z2,z3⟩:=zZ.mp eb;refine zZ.mpr ⟨z1,?_,z3⟩;simp only[mem_append,mem_singleton,not_or];exact⟨fun m=>z2 (gj _ m),fun z=>z2 (by rw[z];exact cb ea)⟩
 refine⟨e1,sub,⟨by rw[gu,gu,hl];rfl,nP hs.nd na,fun b hb=>?_,s0.hal,fun j b es q1 q2=>?_⟩⟩
 ·rcases mem_append.mp hb with hb|hb
  ·exact hs.dis b hb
  ·rw[mem_singleton.mp hb];exact nh
 ·by_cases hj:j<o.length
  ·rw[ft hj]at q1;rw[ft (by rw[hl];exact hj),List.getElem?_take_of_lt (by rw[hs.len];exact hj)]at q2;obtain⟨ws,e3,l3⟩:=s'.cont j b es (gF q1) q2;exact⟨ws,e3,l3.mono sub⟩
  ·have aa:j=o.length:=by
    obtain⟨q,_⟩:=List.getElem?_eq_some_iff.mp q1;rw[gu,jt]at q;omega
   subst aa;rw[dh]at q1;rw[<- hl,dh]at q2;cases q1;cases q2;exact⟨vs,ev,l.mono sub⟩
theorem D7{h o:List Addr}{H:Hp}{S:Sto}{R:RX}{Q:VK}(hs:RepS h o H S)(c:Cn h o H R Q):Cn h o H (fin S.length R) Q:=fun o' H' S' y v e s' hy q=>by
 obtain⟨r,rfl⟩:=e.pre;have eS:S'=S'.take S.length++S'.drop S.length:=(ny _ _).symm;have hl:(S'.take S.length).length=o.length:=by
  have:=s'.len;rw[gu]at this;rw[nv,this,hs.len];omega
 have s0:RepS h o H' (S'.take S.length):=by
  rw[eS]at s';exact s'.pop hl
 have e0:Ex o H o H':=Ex.pop (o':=o) e;cases y with
 |d d=>exact c o H' _ (.d d) v e0 s0 (Has.mono sX d v hy) q
 |o w=>exact c o H' _ (.o w) v e0 s0 hy q
 |x C fs=>exact c o H' _ (.x C fs) v e0 s0 (HasE.mono sX hy) q
 |p k d=>
  obtain⟨hk,ds,z,q⟩:=q;obtain⟨t,a,u,rfl,ea,et,hu⟩:=hy;obtain⟨e1,sub,s1⟩:=B7 hs e s' yw ea z;exact c (o++[a]) H' _ (.p S.length d) _ e1 s1 ⟨t,a,u,rfl,by rw[hs.len,dh],sub _ _ et,Has.mono sub _ _ hu⟩ q
 |l k=>
  unfold fin at q;by_cases hk:k<S.length
  ·simp only[hk,↓reduceIte]at q;obtain⟨a,ea,rfl⟩:=hy;exact c o H' _ (.l k) _ e0 s0 ⟨a,by rw[ft (by rw[<- hs.len];exact hk)]at ea;exact ea,rfl⟩ q
  ·simp only[hk,↓reduceIte]at q;obtain⟨ds,z,q⟩:=q;obtain⟨a,ea,rfl⟩:=hy;obtain⟨vs,ev,l⟩:=s'.cont k a ds ea z;have na:a∉o:=fun m=>by
    obtain⟨j,ej⟩:=mem_iff_getElem?.mp m;have hj:j<o.length:=(List.getElem?_eq_some_iff.mp ej).1;have:=pR s'.nd (gF (t:=r) ej) ea;rw[hs.len]at hk;omega
   have nh:a∉h:=s'.dis a (cb ea);rcases q with q|q
   ·exact c o H' _ (.d (.list ds)) _ e0 s0 (eK.mpr ⟨a,vs,rfl,zZ.mpr ⟨nh,na,ev⟩,l.mono sX⟩) q
   ·obtain⟨e1,sub,s1⟩:=B7 hs e s' hk ea z;exact c (o++[a]) H' _ (.l S.length) _ e1 s1 ⟨a,by rw[hs.len,dh],rfl⟩ q
def aG(n:Nat)(R:RX):DEnds:={ nx:=fun _ S'=>fin n R (.d .none) S',rt:=fin n R }
theorem eok{h o:List Addr}{H:Hp}{S:Sto}{R:RX}{Q:VK}(hs:RepS h o H S)(c:Cn h o H R Q):EOk h o H (aG S.length R) { nx:=fun _ H'=>Q .non H',rt:=Q } :=
 ⟨fun o' H' δ' S' σ' e he z q=>D7 hs c o' H' S' _ _ e z xN q,D7 hs c,fun _ _ _ _ _ _ _ _ q=>q.elim,fun _ _ _ _ _ _ _ _ q=>q.elim⟩
def aR(p:List bq):Prop:=∃l g s:Int,p=[.int l,.int g,.int s]/\0<=l
end
section
def F2(K:cq):List V->Hp->VK->Prop:=fun xs H Q=>∃(p:Addr) (ns:List Int),xs=[.ref p]/\SqL K H p (ns.map V.int)/\Q (.int ns.sum) H
def FK(K:cq):List V->Hp->VK->Prop:=fun xs H Q=>∃(p:Addr) (bs:List Bool),xs=[.ref p]/\SqL K H p (bs.map V.bl)/\Q (.bl (bs.all id)) H
theorem oU:jc "sum" = some (.builtin "sum"):=by decide +kernel
theorem NW:jc "all" = some (.builtin "all"):=by decide +kernel
section
variable {X:Cx}
theorem oW(hc:X.calm=true):CallR X (.builtin "sum") (F2 X.K):=by
 intro zg s σ H xs us Q I r h;obtain⟨p,ns,rfl,hq,q⟩:=h;obtain⟨u,rfl,rx⟩:=vals1 r;cases (show u=fh p from rx);obtain⟨aa,rv,pl,_⟩:=I.list hq;obtain⟨ys,e,z⟩:=nY (kN rv);refine sum_intListG (I.ok.hd hc) (by rw[<- e];exact pl.isList) fun h' tk t' hk=>⟨.int ns.sum,H,I.kept (t':=tk) hk,⟨t',?_⟩,q⟩;have es:preSum (numAt ys) ys.size=ns.sum:=by
  rw[preSum_eq,z,rc yv]
 rw[es]
theorem Bh:∀{bs:List Bool}{us:List bn}{i:Nat}{v:bn},Vals (bs.map V.bl) us->us[i]?=some v->∃b,bs[i]?=some b/\v=.bool b
 | [],_,i,v,.nil,e=>by simp at e
 |b::bs,_,0,v,.cons r _,e=>by
  rw[qj]at e;cases e;exact⟨b,rfl,r⟩
 |b::bs,_,i+1,v,.cons _ t,e=>by
  obtain⟨c,e1,e2⟩:=Bh (i:=i) (v:=v) t (by simpa using e);exact⟨c,by simpa using e1,e2⟩
theorem KJ(bs:List Bool):((jb bs.length).all fun i=>(bs[i]?).getD true)=bs.all id:=by
 rw[Bool.eq_iff_iff,all_eq_true,all_eq_true];constructor
 ·intro h b hb;obtain⟨i,hi⟩:=mem_iff_getElem?.mp hb;have hl:=(List.getElem?_eq_some_iff.mp hi).1;have:=h i (mem_range.mpr hl);rw[hi]at this;exact this
 ·intro h i hi;have hl:=mem_range.mp hi;rw[cw hl];exact h _ (getElem_mem hl)
theorem Jy(hc:X.calm=true):CallR X (.builtin "all") (FK X.K):=by
 intro zg s σ H xs us Q I r h;obtain⟨p,bs,rfl,hq,q⟩:=h;obtain⟨u,rfl,rx⟩:=vals1 r;cases (show u=fh p from rx);obtain⟨z,rv,pl,_⟩:=I.list hq;have hl:=pl.isList;have ac:p<s.heap.objs.size:=by
  obtain⟨_,e,_⟩:=hl;exact fu e
 refine call_all_walk (x:=fh p) (pb hl ?_);refine⟨s.heap.objs.size,[s.heap.objs.size,p],[s.heap.objs.size],z.toArray.size,_,_,fun i=>(bs[i]?).getD true,rfl,
  Walks.list (A:=X.A.in1) (I.ok.hd hc) _ p (ir ac) z.toArray,⟨⟨_,fj _ rfl,rfl,rfl⟩,hl.push _⟩,fun i v s' Q' E' hP hQ=>?_,fun h' tk hk=>?_⟩
 ·obtain⟨b,e,rfl⟩:=Bh (i:=i) (v:=v) rv (by simpa using hP);have aa:Q' b s':=by simpa[e]using hQ
  exact jw aa
 ·have hz:z.toArray.size=bs.length:=by
   have:=rv.length;rw[gh]at this;simp[this]
  rw[hz,KJ];refine⟨.bl _,H,I.kept (t':=tk) fun b o e=>hk b o (fun hm=>?_) (bw _ e),rfl,q⟩;rw[mem_singleton.mp hm]at e;exact jp _ (fu e)
end
def fJ:List XV->Sto->RX->Prop:=fun xs S R=>arg1 xs fun x=>∃ds,dX S x=some ds/\∃ns:List Int,ds=ns.map cu/\R (.d (.int ns.sum)) S
theorem mQ{K:cq}:RC (F2 K) fJ:=fun h o H S xs vs R Q hs hx q c=>by
 obtain⟨x,rfl,ds,hd,ns,rfl,q1⟩:=cQ q;obtain⟨v,rfl,z⟩:=hxs1 hx;obtain⟨a,ws,rfl,ea,l⟩:=b9 hs hd z;rw[nH l]at ea;exact⟨a,ns,rfl,.of ea,c o H S _ _ Ex.refl hs (xI _) q1⟩
theorem At{H:Hp}:∀{ns:List Bool}{vs:List V},HasL H (ns.map lp) vs->vs=ns.map V.bl
 | [],vs,h=>zK.mp h
 |n::ns,vs,h=>by
  obtain⟨v,r,rfl,h1,h2⟩:=zu.mp h;rw[nW.mp h1,At h2];rfl
def lG:List XV->Sto->RX->Prop:=fun xs S R=>arg1 xs fun x=>∃ds,dX S x=some ds/\∃ns:List Bool,ds=ns.map lp/\R (.d (.bool (ns.all id))) S
theorem EB{K:cq}:RC (FK K) lG:=fun h o H S xs vs R Q hs hx q c=>by
 obtain⟨x,rfl,ds,hd,ns,rfl,q1⟩:=cQ q;obtain⟨v,rfl,z⟩:=hxs1 hx;obtain⟨a,ws,rfl,ea,l⟩:=b9 hs hd z;rw[At l]at ea;exact⟨a,ns,rfl,.of ea,c o H S _ _ Ex.refl hs (xB _) q1⟩
section
variable {S:Sto}{i:Int}{b:Bool}{z:Str}{ds:List bq}{d:bq}{k:Nat}{x y:XV}{R:RX}{c:String}{p:List bq}{n:Nat}{v:V}
theorem p5{K:Int->Prop}:asI (.d (.int i)) K=K i:=rfl
theorem qX{K:Bool->Prop}:asB (.d (.bool b)) K=K b:=rfl
theorem p0{K:Str->Prop}:asS (.d (.str z)) K=K z:=rfl
theorem nX{K:List bq->Prop}:asT (.d (.tuple ds)) K=K ds:=rfl
theorem pM{K:bq->Prop}:asD (.d d) K=K d:=rfl
theorem rJ:dX S (.d (.list ds))=some ds:=rfl
theorem rD:asQ S (.l k)=S[k]?:=rfl
theorem rK:d9 S (.d d)=some d:=rfl
theorem rS:d9 S (.l k)=(S[k]?).map .list:=rfl
theorem oQ:ret0 S R (.d d) []=R (.d d) S:=rfl
theorem oZ:ret0 S R (.l 0) [ds]=R (.l S.length) (S++[ds]):=rfl
theorem p7:tJ k S R (.d d) [p]=R (.d d) (S.set k p):=rfl
theorem nV:fin n R (.d d) S=R (.d d) (S.take n):=rfl
theorem p6:fin n R (.l k) S=if k<n then R (.l k) (S.take n)else ∃ds,S[k]?=some ds/\(R (.d (.list ds)) (S.take n)\/R (.l n) (S.take n++[ds])):=rfl
theorem n9{K:XV->Prop}:arg1 [x] K=K x:=rfl
theorem n6{K:XV->XV->Prop}:arg2 [x,y] K=K x y:=rfl
theorem qW{K:String->Prop}:wP (.o (.ty c)) K↔K c:=⟨fun⟨_,e,q⟩=>by cases e;exact q,fun q=>⟨c,rfl,q⟩⟩
theorem nL{K:Int->Prop}:yJ (.d (.bool b)) K=K (if b then 1 else 0):=rfl
theorem nO{δ:XE}:(aG n R).nx δ S=fin n R (.d .none) S:=rfl
theorem pQ:(aG n R).rt x S=fin n R x S:=rfl
theorem qE:datas []=some []:=rfl
theorem rP{r:List XV}:datas (.d d::r)=(datas r).map (d :: ·):=rfl
end
theorem oK{α:Type}{a:α}{l:List α}:atI (a::l) 0=some a:=fR (j:=0) rfl
theorem rX{α:Type}{a b:α}{l:List α}:atI (a::b::l) 1=some b:=fR (j:=1) rfl
theorem qQ{α:Type}{a b c:α}{l:List α}:atI (a::b::c::l) 2=some c:=fR (j:=2) rfl
def Shp(n:Nat)(d:bq):Prop:=d.canLay0=true/\d.depth<=n
theorem uY{n:Nat}{i:Int}:Shp n (.int i):=⟨rfl,ly _⟩
theorem GN{n:Nat}{i:Bool}:Shp n (.bool i):=⟨rfl,ly _⟩
theorem x5{n:Nat}:∀{ds:List bq},(∀d∈ds,Shp n d)->md ds=true/\mn ds<=n
 | [],_=>⟨by simp only[md],by simp only[mn];exact ly _⟩
 |d::ds,h=>by
  obtain⟨h1,h2⟩:=h d fq;obtain⟨h3,h4⟩:=x5 (ds:=ds) fun e m=>h e (cz _ m);simp only[md,mn,h1,h3,Bool.and_true,true_and];omega
theorem u8{n:Nat}{ds:List bq}(h:∀d∈ds,Shp n d):Shp (n+1) (.list ds):=by
 obtain⟨h1,h2⟩:=x5 h;exact⟨by simp only[lg];exact h1,by simp only[PyData.depth];omega⟩
theorem Fy{n:Nat}{ds:List bq}(h:∀d∈ds,Shp n d):Shp (n+1) (.tuple ds):=by
 obtain⟨h1,h2⟩:=x5 h;exact⟨by simp only[lg];exact h1,by simp only[PyData.depth];omega⟩
theorem wO{α:Type}{n:Nat}{f:α->bq}{l:List α}(h:∀x∈l,Shp n (f x)):∀d∈l.map f,Shp n d:=fun d m=>by
 obtain⟨x,hx,rfl⟩:=mem_map.mp m;exact h x hx
theorem N5{n:Nat}{a b:bq}(h1:Shp n a)(h2:Shp n b):∀d∈[a,b],Shp n d:=by
 intro d m;simp only[gw,ge,or_false]at m;rcases m with rfl|rfl
 ·exact h1
 ·exact h2
theorem Shp.ok{n:Nat}{d:bq}(h:Shp n d)(hn:n<=64:=by decide):gq d=true:=by
 unfold gq;rw[h.1,ke (ky h.2 hn)];rfl
theorem dA{g:DG}{b:DS}{E:DEnds}:∀{ds:List bq}{δ:XE}{S:Sto} (I:Nat->XE->Sto->Prop),I 0 δ S ->
  (∀i d δ S (N:XE->Sto->Prop),ds[i]?=some d->I i δ S->(∀ δ' S',I (i+1) δ' S'->N δ' S')->g (.d d) δ S fun δ1 S1=>b { nx:=N,ct:=N,bk:=E.nx,rt:=E.rt } δ1 S1) ->
  (∀ δ S,I ds.length δ S->E.nx δ S)->iG g b ds E δ S
 | [],δ,S,I,h0,_,fin=>fin δ S h0
 |d::ds,δ,S,I,h0,step,fin=>by
  show g (.d d) δ S fun δ1 S1=>b _ δ1 S1;refine step 0 d δ S _ rfl h0 fun δ' S' h1=>?_;exact dA (ds:=ds) (fun i=>I (i+1)) h1 (fun i e δ S N hi=>step (i+1) e δ S N (by simpa using hi)) fin
theorem vY{α:Type}{l:List α}{a b:α}{n:Nat}(h:l.length=n):(l++[a]).set n b=l++[b]:=by
 subst h;rw[List.set_append_right _ _ (dw _),Nat.sub_self];rfl
theorem DR{H:Hp}:RepS [] [] H []:=⟨rfl,nodup_nil,fun _ h=>(nomatch h),fun _ h=>(nomatch h),fun _ _ _ e=>(by simp at e)⟩
theorem Ex.same_nil{o':List Addr}{H H':Hp}(e:Ex [] H o' H'):Same H H':=fun b u q=>(e.kp b u yv q).2
theorem HR{K:cq}{a:Addr}{ns:List Int}{N:Int}{j m:Nat}{tb:TS}{db:DS}{D:Ends}{σ:St}{H:Hp}(hb:RS tb db)(h0:σ[0]?=some (some (.ref a)))(hl:σ.length=m+1)(hS:SqL K H a (ns.map V.int))(z:ns.length<=63)
  (turn:∀n:Int,db { nx:=fun δ _=>δ[0]?=some (some (.o (.ref a)))/\δ.length=m+1,ct:=fun δ _=>δ[0]?=some (some (.o (.ref a)))/\δ.length=m+1,rt:=fun _ _=>False } ((some (.o (.ref a))::bx m none).set j (some (.d (.int n)))) [])
  (hj:j≠0) (done:∀(σ:St) (H1:Hp),Same H H1->D.nx σ H1):
  k8 (xY K (tOp lK (iF (eJ (tC2 (yF K) (dL 0) (tC (.int 0))) mI)) (tSl (oB K) (dL 0) (m6 (tC (.int 1))) (m6 (tC (.int N)))))) (lI j) tb D σ H:=by
 refine Ld (a:=a) (ns:=ns) (fun σ=>σ[0]?=some (some (.ref a))/\σ.length=m+1) h0 hS z ⟨h0,hl⟩ ?_ fun σ H1 _ s=>done σ H1 s;rintro n σ1 H1 H2 ⟨z0,z1⟩ s1 s2;refine hb [] [] H2 _ _ [] _ _ ⟨by simp[z1],fun i x e=>?_⟩ DR (turn n) ⟨?_,fun _ _ _ _ _ _ _ _ q=>q.elim,fun _ _ _ _ _ _ _ _ q=>q.elim,?_⟩
 ·rw[List.getElem?_set]at e ⊢;by_cases hij:j=i
  ·rw[cp hij]at e ⊢;by_cases hjl:j<m+1
   ·rw[cp (by simpa using hjl)]at e;rw[cp (by rw[z1];exact hjl)];cases e;exact⟨.int n,rfl,xI n⟩
   ·rw[cf (by simpa using hjl)]at e;cases e
  ·rw[cf hij]at e ⊢;cases i with
   |zero=>
    cases e;exact⟨.ref a,z0,rfl⟩
   |succ i=>
    rw[om,qg]at e;split at e<;>cases e
 ·rintro o' H' δ' S' σ' e he hs ⟨q1,q2⟩;obtain⟨v,ev,hv⟩:=he.get 0 _ q1;cases hv;exact⟨s2.trans e.same_nil,ev,by rw[<- he.len];exact q2⟩
 ·rintro o' H' δ' S' σ' e he hs ⟨q1,q2⟩;obtain⟨v,ev,hv⟩:=he.get 0 _ q1;cases hv;exact⟨s2.trans e.same_nil,ev,by rw[<- he.len];exact q2⟩
theorem J6{a:Addr}{m:Nat}{t u:TS}{dt:DS}{D:Ends}{σ:St}{H:Hp}(ht:RS t dt)(h0:σ[0]?=some (some (.ref a)))(hl:σ.length=m+1)
  (go:dt { nx:=fun δ _=>δ[0]?=some (some (.o (.ref a)))/\δ.length=m+1,rt:=fun _ _=>False } (some (.o (.ref a))::bx m none) [])
  (next:∀(σ:St) (H1:Hp),σ[0]?=some (some (.ref a))->σ.length=m+1->Same H H1->u D σ H1):dP t u D σ H:=by
 refine ht [] [] H _ _ [] _ _ ⟨by simp[hl],fun i x e=>?_⟩ DR go ⟨?_,fun _ _ _ _ _ _ _ _ q=>q.elim,fun _ _ _ _ _ _ _ _ q=>q.elim,fun _ _ _ _ _ _ _ _ q=>q.elim⟩
 ·cases i with
  |zero=>
   cases e;exact⟨.ref a,h0,rfl⟩
  |succ i=>
   rw[om,qg]at e;split at e<;>cases e
 ·rintro o' H' δ' S' σ' e he hs ⟨q1,q2⟩;obtain⟨v,ev,hv⟩:=he.get 0 _ q1;cases hv;exact next σ' H' ev (by rw[<- he.len];exact q2) e.same_nil
end
section
theorem Iz{P:fg}{w:gg}{K:cq}{tg:Expr}(it:Addr)(lo:Int)(n:Nat):Turn P w K tg (Itr lo n) [it] it (fun i h=>IsLongIter h it (lo+(i:Nat)*1) ((n:Int)-(i:Nat)) 1) where
 mem:=by simp
 obj:=fun i h st b hb=>by
  have e:b=it:=by simpa using hb
  subst e;exact⟨_,st,fun v z=>by
   have z':Data.fields _=Data.cell v:=z;cases z'⟩
 keep:=fun i h h' st k=>k it yv _ st
 item:=by
  intro X hP hw hK hc i zg s σ H E I hf st hg;subst hP hw hK;obtain⟨f0,f1,f2,f3,f4,f5⟩:=hf it yv;have W:=Walks.longrange (prog:=X.prog) (w:=X.w) (I.ok.hd hc) it lo 1 n;refine W.item i s _ _ hg st fun v h' tk hv st' kk=>?_;obtain⟨t,rfl⟩:=hv;have I1:Inv X zg σ H { s with heap:=h',toks:=tk }:=I.turned (fun b o hb e=>kk b o (by simpa using hb) e) f0 f1 f3 f4 f5;refine⟨_,rfl,oV (s:={ s with heap:=h',toks:=tk }) (n:="longrange_iterator") st' rfl rfl dz ⟨.int (lo+i),H,I1,⟨t,?_⟩,⟨rfl,rfl⟩,st',fun b hb=>(hf b hb).1⟩⟩;rw[Int.mul_one]
 done:=by
  intro X hP hw hK hc i zg s σ H E I hf st hg;subst hP hw hK;obtain⟨f0,f1,f2,f3,f4,f5⟩:=hf it yv;exact wpAny_pyNext_long_end (I.ok.hd hc) st (by have:n<=i:=hg;omega) fun h' eb=>⟨rfl,I.turned (t':=s.toks) (fun b o hb e=>eb b o hb e) f0 f1 f3 f4 f5⟩
 self:=fun _ _ _ _ _ st h=>wpAny_pyIter_longiter st h
section
variable {X:Cx}{tg:Expr}
theorem Cv{zg:List (Addr×Obj)}{σ:St}{H:Hp}{s:bu}{R:It->Hp->Prop}{E:bn->bu->Prop}{lo hi:Int}{t u v:Tok}{tk:Nat}(I:Inv X zg σ H s)
  (q:R (Itr lo (hi-lo).toNat) H):cv (model X.prog X.w) X.A (pyIter (.ref s.heap.objs.size)) (PIE X zg σ tg R) E { s with heap:=s.heap.push { cls:=.type "range",data:=.fields #[.int lo t,.int hi u,.int 1 v] },toks:=tk }:=by
 have I1:Inv X zg σ H { s with heap:=s.heap.push { cls:=.type "range",data:=.fields #[.int lo t,.int hi u,.int 1 v] },toks:=tk }:=I.kept fun b o e=>bw _ e;have e1:lo+((0:Nat):Int)*1=lo:=by simp
 have e2:(((hi-lo).toNat:Nat):Int)-((0:Nat):Int)=Builtin.Range.rangeSize lo hi 1:=by rw[rangeSize_one];split<;>omega
 cases hsm:Builtin.Range.small lo hi 1 with
 |true=>
  refine wpAny_pyIter_range (IsRange.new ..) hsm ?_;refine⟨(s.heap.push { cls:=.type "range",data:=.fields #[.int lo t,.int hi u,.int 1 v] }).objs.size,[(s.heap.push { cls:=.type "range",data:=.fields #[.int lo t,.int hi u,.int 1 v] }).objs.size],_,_,H,rfl,
   I1.kept (t':=tk) fun b o e=>bw _ e,Iu _ lo (hi-lo).toNat,?_,fun b hb=>?_,q⟩
  ·show IsRangeIter _ _ (lo+((0:Nat):Int)*1) ((((hi-lo).toNat:Nat):Int)-((0:Nat):Int)) 1;rw[e1,e2];exact fj _ rfl
  ·have e:b=(s.heap.push { cls:=.type "range",data:=.fields #[.int lo t,.int hi u,.int 1 v] }).objs.size:=by simpa using hb
   subst e;exact I1.fpOk (dw _) (I1.hok.fresh (dw _))
 |false=>
  refine wpAny_pyIter_longrange (IsRange.new ..) hsm ?_;refine⟨(s.heap.push { cls:=.type "range",data:=.fields #[.int lo t,.int hi u,.int 1 v] }).objs.size,[(s.heap.push { cls:=.type "range",data:=.fields #[.int lo t,.int hi u,.int 1 v] }).objs.size],_,_,H,rfl,
   I1.kept (t':=tk) fun b o e=>bw _ e,Iz _ lo (hi-lo).toNat,?_,fun b hb=>?_,q⟩
  ·show IsLongIter _ _ (lo+((0:Nat):Int)*1) ((((hi-lo).toNat:Nat):Int)-((0:Nat):Int)) 1;rw[e1,e2];exact fj _ rfl
  ·have e:b=(s.heap.push { cls:=.type "range",data:=.fields #[.int lo t,.int hi u,.int 1 v] }).objs.size:=by simpa using hb
   subst e;exact I1.fpOk (dw _) (I1.hok.fresh (dw _))
def EA(ta:TA):TI:=fun σ H R=>ta σ H fun vs H1=>∃j:Int,vs=[.int j]/\R (Itr 0 j.toNat) H1
def GC(ta:TA):TI:=fun σ H R=>ta σ H fun vs H1=>∃i j:Int,vs=[.int i,.int j]/\R (Itr i (j-i).toNat) H1
theorem hU{a:Expr}{ta:TA}{p pos:Pos}(hg:Gl X "range")(hm:X.mg "range" = none)(ha:PA X [a] ta)(hs:fk [a] X.env=[(false,eval a X.env)]:=by rfl):PI X tg (.Call (.Name "range" p) [a] [] pos) (EA ta):=by
 intro zg s σ H R I h;refine Call_ (iD I hg hm boot_range (kr (thn (ha pos zg s σ H _ I h) fun us s1 ⟨vs,H1,I1,r1,q1⟩=>?_) hs rfl));obtain⟨j,e,q⟩:=q1;subst e;cases r1 with
 |cons r rr=>
  cases rr;obtain⟨t,rfl⟩:=r;exact call_range_1 (Cv I1 (by simpa using q))
theorem vV{a b:Expr}{ta:TA}{p pos:Pos}(hg:Gl X "range")(hm:X.mg "range" = none)(ha:PA X [a,b] ta)(hs:fk [a,b] X.env=[(false,eval a X.env),(false,eval b X.env)]:=by rfl)(z:fk [b] X.env=[(false,eval b X.env)]:=by rfl):
  PI X tg (.Call (.Name "range" p) [a,b] [] pos) (GC ta):=by
 intro zg s σ H R I h;refine Call_ (iD I hg hm boot_range (kr (thn (ha pos zg s σ H _ I h) fun us s1 ⟨vs,H1,I1,r1,q1⟩=>?_) (by rw[hs,z]) (by rw[z];rfl)));obtain⟨i,j,e,q⟩:=q1;subst e;cases r1 with
 |cons r rr=>
  cases rr with
  |cons r' rr=>
   cases rr;obtain⟨t,rfl⟩:=r;obtain⟨t',rfl⟩:=r';exact call_range_2 (Cv I1 q)
end
def bZ(a:DA):DI:=fun δ S R=>a δ S fun xs S1=>arg1 xs fun x=>asI x fun j=>R (gS 0 j.toNat) S1
def hJ(a:DA):DI:=fun δ S R=>a δ S fun xs S1=>arg2 xs fun x y=>asI x fun i=>asI y fun j=>R (gS i (j-i).toNat) S1
theorem nQ{ta:TA}{da:DA}(ha:RA ta da):RI (EA ta) (bZ da):=fun h o H δ σ S R Q he hs q c=>
 ha h o H δ σ S _ _ he hs q fun o1 H1 S1 xs vs e1 s1 x1 d0=>by
  obtain⟨x,rfl,d2⟩:=cQ d0;obtain⟨j,rfl,d1⟩:=bQ d2;obtain⟨v,rfl,hv⟩:=hxs1 x1;rw[bH hv];exact⟨j,rfl,c o1 H1 S1 _ _ e1 s1 B0 d1⟩
theorem A2{ta:TA}{da:DA}(ha:RA ta da):RI (GC ta) (hJ da):=fun h o H δ σ S R Q he hs q c=>
 ha h o H δ σ S _ _ he hs q fun o1 H1 S1 xs vs e1 s1 x1 d0=>by
  obtain⟨x,y,rfl,d2⟩:=qD d0;obtain⟨i,rfl,d3⟩:=bQ d2;obtain⟨j,rfl,d1⟩:=bQ d3;obtain⟨v,u,rfl,hv,hu⟩:=hxs2 x1;rw[bH hv,bH hu];exact⟨i,j,rfl,c o1 H1 S1 _ _ e1 s1 B0 d1⟩
end
section
open Sem (wp)
open AutoSeq1 (wpAny_loadPart')
section
variable {X:Cx}{zg:List (Addr×Obj)}{σ:St}{H:Hp}{s:bu}{h':Heap}
theorem Inv.turnLaid{t':Nat}{ch:List Addr}{T:Addr}{o:HO}(I:Inv X zg σ H s)(k:∀b u,b∉ch->s.heap.get? b=some u->h'.get? b=some u)(hf:∀b∈ch,FpOk X zg H b)(hT:s.heap.objs.size<=T)
  (new:ObjOk X.prog X.w (upd H T o) h' T o):Inv X zg σ (upd H T o) { s with heap:=h',toks:=t' }:=by
 have hn:H T=none:=I.hok.fresh hT;have aa:∀b u,H b=some u->b∉ch:=fun b u e m=>by rw[(hf b m).1]at e;cases e
 have ac:∀b u,s.heap.get? b=some u->b≠T:=fun b u e z=>absurd (gx (fu e) hT) (by rw[z];exact jp _);have up:∀b u,H b=some u->upd H T o b=some u:=fun b u e=>(zG (zO e hn)).trans e;refine I.step (g':=s.gens) (d':=s.drawn) (ch:=ch) (fun b hb=>?_) (fun b u _ _ hc e _=>k b u hc e) (fun b u _ _ hc e _=>⟨u.slots,k b u hc e⟩) (fun b u _ e n=>(zG (ac b u e)).trans n)
  (fun b u hc e=>⟨u,k b u hc e⟩) (fun b xs e=>up b _ e) (fun b u v e=>up b _ e) (fun b ps e=>up b _ e) (fun m hm=>?_) (fun b u e=>?_) I.bare
 ·obtain⟨_,f1,_,f3,f4,f5⟩:=hf b hb;exact⟨f3,f1,f4,f5⟩
 ·obtain⟨ob,es,ep,ho,r⟩:=hm;exact⟨ob,es,ep,k _ ob (fun z=>(hf _ z).2.1 rfl) ho,r⟩
 ·by_cases hb:b=T
  ·subst hb;rw[zM]at e;cases e;exact new
  ·rw[zG hb]at e;refine(I.hok b u e).stay (fun c v hc q=>k c v ?_ q) (fun c q=>up c _ q) (fun c xs q=>up c _ q) fun c o u q=>up c _ q;rcases hc with z|z
   ·rw[z];exact aa b u e
   ·exact aa c _ z
theorem Inv.turnedN{t':Nat}{ch:List Addr}(I:Inv X zg σ H s)(k:∀b u,b∉ch->s.heap.get? b=some u->h'.get? b=some u)(hf:∀b∈ch,FpOk X zg H b):Inv X zg σ H { s with heap:=h',toks:=t' }:=by
 have aa:∀b u,H b=some u->b∉ch:=fun b u e m=>by rw[(hf b m).1]at e;cases e
 refine I.step (g':=s.gens) (d':=s.drawn) (ch:=ch) (fun b hb=>?_) (fun b u _ _ hc e _=>k b u hc e) (fun b u _ _ hc e _=>⟨u.slots,k b u hc e⟩) (fun b u _ e n=>n)
  (fun b u hc e=>⟨u,k b u hc e⟩) (fun b xs e=>e) (fun b u v e=>e) (fun b ps e=>e) (fun m hm=>?_) (fun b u e=>?_) I.bare
 ·obtain⟨_,f1,_,f3,f4,f5⟩:=hf b hb;exact⟨f3,f1,f4,f5⟩
 ·obtain⟨ob,es,ep,ho,r⟩:=hm;exact⟨ob,es,ep,k _ ob (fun z=>(hf _ z).2.1 rfl) ho,r⟩
 ·refine(I.hok b u e).stay (fun c v hc q=>k c v ?_ q) (fun _ q=>q) fun _ _ q=>q;rcases hc with z|z
  ·rw[z];exact aa b u e
  ·exact aa c _ z
end
section
variable {prog:fg}{w:gg}{A:gf}{E:bn->bu->Prop}{s:bu}
theorem G7{j t:Addr}{i:Nat}{vs:Array bn}{x:bn}{Q:bn->bu->Prop}(hj:s.heap.IsTupleIter j t i)(ht:s.heap.IsTuple t vs)(hx:vs[i]?=some x)
  (hQ:∀g,g.IsTupleIter j t (i+1)->io j s.heap g->Q x { s with heap:=g }):cv (model prog w) A (ic (.ref j)) Q E s:=by
 obtain⟨oj,ej,cj,dj⟩:=id hj;obtain⟨ot,et,_,nt,dt⟩:=ht;unfold ic;refine bo (km (name:=nj "__next__") hj.typeIs F.slot_tuple_iterator_next (lr F.slot_tuple_iterator_next hj.typeIs F.entry_tuple_iterator_next ?_ (F.args_tuple_iterator_next_1 _)));show cv _ _ (field (.ref j) 0 >>= _) _ _ s;refine bo (jg ej dj (x:=.ref t) rfl ?_);show cv _ _ (ite ((fh t==jq)=true) _ _) _ _ s;refine(cf (show ¬((fh t==jq)=true)from jk))▸?_;show cv _ _ (field (.ref j) 1 >>= _) _ _ s;refine bo (jg ej dj (x:=.int i 0) rfl ?_);refine bo (m:=seqItems? (.ref t)) (kh et dt ?_);simp only[hx,Int.toNat_natCast];refine bo (wpAny_setField ej dj yv (cr ⟨x,rfl,cr (hQ _ ⟨_,ls _ ej (Obj.isFreed_of_fields (qk dj _)),(Obj.cls_mapFields ..).trans cj,?_⟩ (qa ..))⟩));rw[qk dj];simp[ss]
theorem Mp{j t:Addr}{i:Nat}{vs:Array bn}{Q:bn->bu->Prop}(hh:A.handled=none)(hj:s.heap.IsTupleIter j t i)(ht:s.heap.IsTuple t vs)(hx:vs[i]?=none)
  (hE:∀g e,Heap.ExtBut j s.heap g->(∃o,g.get? e=some o/\o.cls=.type "StopIteration")->E (.ref e) { s with heap:=g }):cv (model prog w) A (ic (.ref j)) Q E s:=by
 obtain⟨oj,ej,cj,dj⟩:=id hj;obtain⟨ot,et,_,nt,dt⟩:=ht;unfold ic;refine bo (km (name:=nj "__next__") hj.typeIs F.slot_tuple_iterator_next (lr F.slot_tuple_iterator_next hj.typeIs F.entry_tuple_iterator_next ?_ (F.args_tuple_iterator_next_1 _)));show cv _ _ (field (.ref j) 0 >>= _) _ _ s;refine bo (jg ej dj (x:=.ref t) rfl ?_);show cv _ _ (ite ((fh t==jq)=true) _ _) _ _ s;refine(cf (show ¬((fh t==jq)=true)from jk))▸?_;show cv _ _ (field (.ref j) 1 >>= _) _ _ s;refine bo (jg ej dj (x:=.int i 0) rfl ?_);refine bo (m:=seqItems? (.ref t)) (kh et dt ?_);simp only[hx,Int.toNat_natCast];refine bo (mw (bo (wpAny_setField ej dj yv ?_)));show cv _ _ (newExc (.type "StopIteration") [] >>= _) _ _ _;refine bo ?_;simp only[newExc,newTuple];refine bo (jx ?_ (by size_fits));refine bo (m:=firstArgMember _ _) (wpAny_of_eq (a:=jq) (by first|rfl|(simp only[firstArgMember];rfl)) ?_);refine jx ?_ (by size_fits);simp only[raiseNew];refine bo (wpAny_handled ?_)
 first|rw[show A.in1.handled=none from hh]|rw[hh]
 exact bo (cr (wpAny_throw (hE _ _ (((qa ..).extBut.push _).push _) ⟨_,fj _ rfl,rfl⟩)))
end
def E7(i:Nat):List bq->List bq
 | []=>[]
 |d::ds=>.tuple [.int i,d]::E7 (i+1) ds
theorem Cq{X:Cx}{x:Str}{i:Int}{pos:Pos}(hg:Gl X x)(hm:∃t,X.mg x=some (.int i t))(hd:(x==("__debug__":Str))=false:=by decide):PE X (.Name x pos) (tC (.int i)):=by
 obtain⟨t,e⟩:=hm;exact eY hg e ⟨t,rfl⟩ hd
end
section
def dIx:D2:=fun x y S R=>asI y fun i=>match x with
 | .d (.tuple ds)=>∃d,atI ds i=some d/\R (.d d) S
 | .d (.list ds)=>∃d,atI ds i=some d/\R (.d d) S
 | .l k=>∃ds,S[k]?=some ds/\∃d,atI ds i=some d/\R (.d d) S
 | .d (.str z)=>z.length<=fc/\∃c,atI z.cps.toList i=some c/\R (.d (.str ⟨#[c]⟩)) S
 |_=>False
theorem Ia:RO wW (fun x y S R=>asS x fun z=>asI y fun i=>z.length<=fc/\∃c,atI z.cps.toList i=some c/\R (.d (.str ⟨#[c]⟩)) S):=fun h o H S x y v u R Q hs hx hy q c=>by
 replace q:=x3 q;obtain⟨z,rfl,q⟩:=q;replace q:=bQ q;obtain⟨i,rfl,hz,k,ek,q⟩:=q;exact⟨z,i,k,eZ hx,bH hy,hz,ek,c o H S _ _ Ex.refl hs (xS _) q⟩
theorem cI{K:cq}:RO (rIx K) dIx:=fun h o H S x y v u R Q hs hx hy q c=>by
 replace q:=bQ q;obtain⟨i,rfl,q⟩:=q;split at q
 ·exact .inr (.inl (Mb h o H S _ _ v u R Q hs hx hy q c))
 ·exact .inl (Ez h o H S _ _ v u R Q hs hx hy ⟨_,rfl,q⟩ c)
 ·exact .inl (Ez h o H S _ _ v u R Q hs hx hy q c)
 ·exact .inr (.inr (Ia h o H S _ _ v u R Q hs hx hy q c))
 ·exact q.elim
section
variable {S:Sto}{R:RX}{ds:List bq}{i:Int}{k:Nat}{z:Str}
theorem rH:dIx (.d (.tuple ds)) (.d (.int i)) S R=∃d,atI ds i=some d/\R (.d d) S:=rfl
theorem qY:dIx (.d (.list ds)) (.d (.int i)) S R=∃d,atI ds i=some d/\R (.d d) S:=rfl
theorem pY:dIx (.l k) (.d (.int i)) S R=∃ds,S[k]?=some ds/\∃d,atI ds i=some d/\R (.d d) S:=rfl
theorem rV:dIx (.d (.str z)) (.d (.int i)) S R=(z.length<=fc/\∃c,atI z.cps.toList i=some c/\R (.d (.str ⟨#[c]⟩)) S):=rfl
end
def FN(K:cq):V->Option Int->Option Int->Hp->VK->Prop:=fun x a b H Q=>oB K x a b H Q\/(wC K x a b H Q\/E2 x a b H Q)
theorem tS{X:Cx}:SlR X (FN X.K):=DZ.or (EI.or Gq)
def eU:D3:=fun x i j S R=>match x with
 | .d (.tuple ds)=>¬(HT.sIx ds.length 0 i=0/\HT.sIx ds.length ds.length j=ds.length)/\R (.d (.tuple (aV ds i j))) S
 | .d (.list ds)=>R (.d (.list (aV ds i j))) S
 | .l k=>∃ds,S[k]?=some ds/\R (.d (.list (aV ds i j))) S
 | .d (.str z)=>z.length<=fc/\R (.d (.str (PySem.Txt.slice z i j))) S
 |_=>False
theorem Az{K:cq}:RL (FN K) eU:=fun h o H S x v a b R Q hs hx q c=>by
 unfold eU at q;split at q
 ·exact .inr (.inl (IQ h o H S _ v a b R Q hs hx q c))
 ·exact .inl (FX h o H S _ v a b R Q hs hx ⟨_,rfl,q⟩ c)
 ·exact .inl (FX h o H S _ v a b R Q hs hx q c)
 ·exact .inr (.inr ⟨_,eZ hx,q.1,c o H S _ _ Ex.refl hs (xS _) q.2⟩)
 ·exact q.elim
section
variable {S:Sto}{R:RX}{ds:List bq}{i j:Option Int}{k:Nat}{z:Str}
theorem nK:eU (.d (.tuple ds)) i j S R=(¬(HT.sIx ds.length 0 i=0/\HT.sIx ds.length ds.length j=ds.length)/\R (.d (.tuple (aV ds i j))) S):=rfl
theorem qK:eU (.l k) i j S R=∃ds,S[k]?=some ds/\R (.d (.list (aV ds i j))) S:=rfl
theorem oC:eU (.d (.str z)) i j S R=(z.length<=fc/\R (.d (.str (PySem.Txt.slice z i j))) S):=rfl
end
def DQ(K:cq):R2:=fun x y H Q=>∃a b ys,x=.ref a/\y=.ref b/\SqT K H a []/\SqT K H b ys/\Q (.ref b) H
theorem Il{X:Cx}:OpR X (lx .Add) (DQ X.K):=by
 intro zg s σ H x y v u Q I rx ry h;obtain⟨a,b,ys,rfl,rfl,ha,hb,q⟩:=h;cases rx;cases ry;obtain⟨aa,r1,p1,_⟩:=I.tuple ha;obtain⟨z,r2,p2,_⟩:=I.tuple hb;cases r1;obtain⟨⟨c1,d1,e1,l1⟩,o1,w1,n1,k1⟩:=id p1;obtain⟨⟨c2,d2,e2,l2⟩,o2,w2,n2,k2⟩:=id p2;simp only at w1 k1 w2 k2;subst w1 k1 w2 k2;exact concat_meets ⟨_,o1,rfl⟩ ⟨_,o2,rfl⟩ noFill_tuple_add seq_tuple_add PySem.F.slot_tuple_add PySem.F.entry_tuple_add (PySem.F.args_tuple_add_2 _ _) (tuple_addW0 a b _ _ n1 n2 d1 d2 l1 l2 yv) ⟨o1,o2,⟨.ref b,H,I,rfl,q⟩⟩
def GJ(K:cq):R2:=fun x y H Q=>rI0 (fun i j=>.int (i+j)) x y H Q\/(lK x y H Q\/(yU K x y H Q\/(DQ K x y H Q\/∃i j,x=.str i/\y=.str j/\i.length+j.length<=fc/\Q (.str (i++j)) H)))
theorem zF{X:Cx}:OpR X (lx .Add) (GJ X.K):=Mq.or (wD.or (KH.or (Il.or MD)))
def aC:D2:=fun x y S R=>match x,y with
 | .d (.int i),.d (.int j)=>R (.d (.int (i+j))) S
 | .d (.tuple ds),.d (.tuple es)=>ds.length+es.length<=1000/\R (.d (.tuple (ds++es))) S
 | .d (.str a),.d (.str b)=>a.length+b.length<=fc/\R (.d (.str (a++b))) S
 |x,y=>asL S x fun ds=>asL S y fun es=>ds.length+es.length<=1000/\R (.d (.list (ds++es))) S
theorem c8{K:cq}:RO (GJ K) aC:=fun h o H S x y v u R Q hs hx hy q c=>by
 unfold aC at q;split at q
 ·exact .inl (BF h o H S _ _ v u R Q hs hx hy q c)
 ·rename_i ds es;cases ds with
  |cons d ds=>exact .inr (.inr (.inl (Jd h o H S _ _ v u R Q hs hx hy ⟨yv,q⟩ c)))
  |nil=>
   obtain⟨a,vs,rfl,ea,l⟩:=fC hx;obtain⟨b,us,rfl,eb,l'⟩:=fC hy;rw[zK.mp l]at ea;exact .inr (.inr (.inr (.inl ⟨a,b,us,rfl,rfl,.of ea,.of eb,c o H S (.d (.tuple es)) _ Ex.refl hs hy q.2⟩)))
 ·exact .inr (.inr (.inr (.inr ⟨_,_,eZ hx,eZ hy,q.1,c o H S _ _ Ex.refl hs (xS _) q.2⟩)))
 ·exact .inr (.inl (LS h o H S _ _ v u R Q hs hx hy q c))
section
variable {S:Sto}{R:RX}{ds es:List bq}{i j:Int}{k l:Nat}{a b:Str}
theorem pC:aC (.d (.int i)) (.d (.int j)) S R=R (.d (.int (i+j))) S:=rfl
theorem oE:aC (.d (.tuple ds)) (.d (.tuple es)) S R=(ds.length+es.length<=1000/\R (.d (.tuple (ds++es))) S):=rfl
theorem oS:aC (.d (.list ds)) (.d (.list es)) S R↔(ds.length+es.length<=1000/\R (.d (.list (ds++es))) S):=⟨fun⟨_,e,_,e',q⟩=>by cases e;cases e';exact q,fun q=>⟨_,rfl,_,rfl,q⟩⟩
end
def BB:R2:=fun x y H Q=>rI IntMulOk (fun i j=>.int (i*j)) x y H Q\/(AX x y H Q\/Cw x y H Q)
theorem bP{X:Cx}:OpR X (lx .Mult) BB:=OD.or (HG.or Jm)
def aU:D2:=fun x y S R=>asI y fun j=>match x with
 | .d (.int i)=>IntMulOk i j/\R (.d (.int (i*j))) S
 | .d (.str z)=>z.length<=1000/\j<=1000/\-1000<=j/\R (.d (.str (PySem.Txt.mul z j))) S
 | .d (.list ds)=>j<=1000/\-1000<=j/\ds.length*j.toNat<=1000/\R (.d (.list (bx j.toNat ds).flatten)) S
 |_=>False
theorem HasL.rep{H:Hp}{ds:List bq}{vs:List V}(l:HasL H ds vs):∀n:Nat,HasL H (bx n ds).flatten (bx n vs).flatten
 | 0=>zK.mpr rfl
 |n+1=>by
  rw[qe,qe,flatten_cons,flatten_cons];exact l.append (HasL.rep l n)
theorem fY:RO BB aU:=fun h o H S x y v u R Q hs hx hy q c=>by
 replace q:=bQ q;obtain⟨j,rfl,q⟩:=q;split at q
 ·exact .inl (iP h o H S _ _ v u R Q hs hx hy q c)
 ·exact .inr (.inl ⟨_,_,eZ hx,bH hy,q.1,q.2.1,q.2.2.1,c o H S _ _ Ex.refl hs (xS _) q.2.2.2⟩)
 ·obtain⟨a,vs,rfl,ea,l⟩:=b9 (x:=.d (.list _)) hs rfl hx;obtain⟨h1,h2,h3,q⟩:=q;exact .inr (.inr ⟨a,j,vs,rfl,bH hy,ea,yw,yw,by rw[l.length];exact kl (small1000 h3),sO hs (l.rep j.toNat) c q⟩)
 ·exact q.elim
section
variable {S:Sto}{R:RX}{i j:Int}{z:Str}{ds:List bq}
theorem qZ:aU (.d (.int i)) (.d (.int j)) S R=(IntMulOk i j/\R (.d (.int (i*j))) S):=rfl
theorem rQ:aU (.d (.str z)) (.d (.int j)) S R=(z.length<=1000/\j<=1000/\-1000<=j/\R (.d (.str (PySem.Txt.mul z j))) S):=rfl
end
def GR:R2:=fun x y H Q=>rI CDivX (fun i j=>.int (i/j)) x y H Q\/rI CDivN (fun i j=>.int (i.fdiv j)) x y H Q
theorem gZ{X:Cx}:OpR X (lx .FloorDiv) GR:=L9.or Hy
def dFd:D2:=fun x y S R=>asI x fun i=>asI y fun j=>(CDivX i j/\R (.d (.int (i/j))) S)\/(CDivN i j/\R (.d (.int (i.fdiv j))) S)
theorem L7:RO GR dFd:=fun h o H S x y v u R Q hs hx hy q c=>by
 replace q:=bQ q;obtain⟨i,rfl,q⟩:=q;replace q:=bQ q;obtain⟨j,rfl,q⟩:=q;rcases q with q|q
 ·exact .inl (iP (C:=CDivX) (g:=fun i j=>i/j) h o H S _ _ v u R Q hs hx hy q c)
 ·exact .inr (iP (C:=CDivN) (g:=fun i j=>i.fdiv j) h o H S _ _ v u R Q hs hx hy q c)
def AF(S:Sto):XV->Option Bool
 | .d .none=>some false
 | .d (.bool b)=>some b
 | .d (.int i)=>some (i != 0)
 | .d (.str z)=>if z.length<=fc then some ((z.length:Int) != 0)else none
 | .d (.list ds)=>some (!ds.isEmpty)
 | .d (.tuple ds)=>some (!ds.isEmpty)
 | .l k=>(S[k]?).map fun ds=>!ds.isEmpty
 |_=>none
def c9(a:DE):DT:=fun δ S R=>a δ S fun x S1=>∃k,AF S1 x=some k/\R k S1
theorem yT{H:Hp}{ds:List bq}{vs:List V}(l:HasL H ds vs):(!ds.isEmpty)=!vs.isEmpty:=by
 have:=l.length;cases ds<;>cases vs<;>simp_all
theorem lB{K:cq}{ta:TE}{da:DE}(ha:RE ta da):RT (fun σ H Q=>ta σ H fun x H'=>∃k,TruV K x H' k/\Q k H') (c9 da):=fun h o H δ σ S R Q he hs q c=>
 ha h o H δ σ S _ _ he hs q fun o1 H1 S1 x v e1 s1 x1 ⟨k,ek,d1⟩=>by
  refine⟨k,?_,c o1 H1 S1 k e1 s1 d1⟩;unfold AF at ek;split at ek
  ·cases ek;rw[(uS (H:=vx h o1 H1)).mp x1];rfl
  ·cases ek;rw[jB x1];rfl
  ·cases ek;rw[bH x1];rfl
  ·split at ek
   ·rename_i hz;cases ek;rw[eZ x1];exact⟨hz,rfl⟩
   ·cases ek
  ·obtain⟨a,vs,rfl,ea,l⟩:=b9 (x:=.d (.list _)) s1 rfl x1;cases ek;exact .inl ⟨vs,.of ea,yT l⟩
  ·obtain⟨a,vs,rfl,ea,l⟩:=fC x1;cases ek;exact .inr (.inl ⟨vs,.of ea,yT l⟩)
  ·rename_i j _;cases hj:S1[j]? with
   |none=>rw[hj]at ek;cases ek
   |some ds=>
    rw[hj]at ek;cases ek;obtain⟨a,vs,rfl,ea,l⟩:=b9 (x:=.l j) s1 hj x1;exact .inl ⟨vs,.of ea,yT l⟩
  ·cases ek
section
variable {S:Sto}{b:Bool}{i:Int}{ds:List bq}{k:Nat}
theorem rB:AF S (.d (.bool b))=some b:=rfl
end
def oH:DS:=fun _ _ _=>False
def tD(K:cq)(tl:TE):TI:=fun σ H R=>tl σ H fun x H1=>∃a,x=.ref a/\(((∃xs,SqL K H1 a xs)/\R (Itl K a) H1)\/((∃xs,SqT K H1 a xs)/\R (Itt K a) H1))
theorem f6{X:Cx}{tg:Expr}{l:Expr}{tl:TE}(hl:PE X l tl):PI X tg l (tD X.K tl):=by
 intro zg s σ H R I h;refine thn (hl zg s σ H _ I h) fun v s1 ⟨x,H1,I1,r1,q1⟩=>?_;obtain⟨a,e,⟨⟨xs,hq⟩,q⟩|⟨⟨xs,hq⟩,q⟩⟩:=q1
 ·subst e;cases r1;obtain⟨z,rv,p,hz⟩:=I1.list hq;refine pb p.isList ?_;refine⟨s1.heap.objs.size,[s1.heap.objs.size],_,_,H1,rfl,I1.kept (t':=s1.toks) fun b o e=>bw _ e,Fj a _,⟨_,fj _ rfl,rfl,rfl⟩,fun b hb=>?_,q⟩;have e:b=s1.heap.objs.size:=by simpa using hb
  subst e;exact I1.fpOk (dw _) (I1.hok.fresh (dw _))
 ·subst e;cases r1;obtain⟨z,rv,p,hz⟩:=I1.tuple hq;refine qi (show s1.heap.IsTuple a z.toArray from p) ?_;refine⟨s1.heap.objs.size,[s1.heap.objs.size],_,_,H1,rfl,I1.kept (t':=s1.toks) fun b o e=>bw _ e,JQ a _,⟨_,fj _ rfl,rfl,rfl⟩,fun b hb=>?_,q⟩;have e:b=s1.heap.objs.size:=by simpa using hb
  subst e;exact I1.fpOk (dw _) (I1.hok.fresh (dw _))
def dW:XV->Option (List bq)
 | .d (.list ds)=>some ds
 | .d (.tuple ds)=>some ds
 |_=>none
theorem qL{ds:List bq}:dW (.d (.list ds))=some ds:=rfl
theorem pK{ds:List bq}:dW (.d (.tuple ds))=some ds:=rfl
def cC(e:DE):DI:=fun δ S R=>e δ S fun x S1=>∃ds,dW x=some ds/\R ds S1
theorem qH{K:cq}{te:TE}{de:DE}(z:RE te de):RI (tD K te) (cC de):=fun h o H δ σ S R Q he hs q c=>
 z h o H δ σ S _ _ he hs q fun o1 H1 S1 x v e1 s1 x1 ⟨ds,ex,d1⟩=>by
  unfold dW at ex;split at ex
  ·cases ex;obtain⟨a,vs,rfl,ea,l⟩:=eK.mp (show Has _ _ _ from x1);have hl:=l.length;refine⟨a,rfl,.inl ⟨⟨vs,.of (zW _ _ ea)⟩,c o1 H1 S1 ds _ e1 s1 ⟨fun i o2 H2 e2 hi=>⟨vs,.of (zW _ _ (e2.vx _ _ ea)),yw⟩,fun i d o2 H2 e2 hi=>?_,fun i d o2 H2 x H3 S2 e2 s2 hi y=>?_⟩ d1⟩⟩
   ·obtain⟨v,ev,_⟩:=l.get hi;exact⟨vs,v,.of (zW _ _ (e2.vx _ _ ea)),ev⟩
   ·obtain⟨v,ev,hv⟩:=l.get hi;have e3:H3=H2:=y.1;subst e3;have ex:=y.2 vs (.of (zW _ _ (e2.vx _ _ ea)));rw[ev]at ex;cases ex;exact⟨Same.refl _,hv.mono e2.vx⟩
  ·cases ex;obtain⟨a,vs,rfl,ea,l⟩:=d8.mp (show Has _ _ _ from x1);have hl:=l.length;refine⟨a,rfl,.inr ⟨⟨vs,.of (zW _ _ ea)⟩,c o1 H1 S1 ds _ e1 s1 ⟨fun i o2 H2 e2 hi=>⟨vs,.of (zW _ _ (e2.vx _ _ ea)),yw⟩,fun i d o2 H2 e2 hi=>?_,fun i d o2 H2 x H3 S2 e2 s2 hi y=>?_⟩ d1⟩⟩
   ·obtain⟨v,ev,_⟩:=l.get hi;exact⟨vs,v,.of (zW _ _ (e2.vx _ _ ea)),ev⟩
   ·obtain⟨v,ev,hv⟩:=l.get hi;have e3:H3=H2:=y.1;subst e3;have ex:=y.2 vs (.of (zW _ _ (e2.vx _ _ ea)));rw[ev]at ex;cases ex;exact⟨Same.refl _,hv.mono e2.vx⟩
  ·cases ex
def rL(dt:DS):DS:=fun E δ S=>dt { E with nx:=fun δ' S'=>∃S0 ds,S'=S0++[ds]/\S.length<=S0.length/\E.nx (δ'.map (frz S0.length ds)) S0 } δ S
end
section
abbrev PN:=List XV->Sto->RX->Prop
def lfN(q:PN):List V->Hp->VK->Prop:=fun vs H Q=>∃h o S xs R,RepS h o H S/\HasXs h o H xs vs/\q xs S R/\Cn h o H R Q
def spN(ps:List Str)(q:PN):Sp:=fun vs H Q _=>vs.length=ps.length/\lfN q vs H Q
theorem HasXs.len{h o:List Addr}{H:Hp}:∀{xs:List XV}{vs:List V},HasXs h o H xs vs->vs.length=xs.length
 | [],vs,q=>by rw[show vs=[]from q];rfl
 |x::xs,vs,⟨v,r,e,_,l⟩=>by rw[e,fy,fy,HasXs.len l]
theorem HasXs.get{h o:List Addr}{H:Hp}:∀{xs:List XV}{vs:List V}{i:Nat}{x:XV},HasXs h o H xs vs->xs[i]?=some x->∃v,vs[i]?=some v/\HasX h o H x v
 | [],_,i,_,_,e=>by simp at e
 |y::xs,vs,0,x,⟨v,r,e1,q,l⟩,e=>by
  rw[qj]at e;cases e;subst e1;exact⟨v,rfl,q⟩
 |y::xs,vs,i+1,x,⟨v,r,e1,q,l⟩,e=>by
  subst e1;rw[om]at e ⊢;exact HasXs.get l e
theorem xQ{h o:List Addr}{H:Hp}{xs:List XV}{vs:List V}{n:Nat}(q:HasXs h o H xs vs):RepE h o H (xs.map some++bx n none) (vs.map some++bx n none):=by
 have hl:=q.len;refine⟨by simp[hl],fun i x e=>?_⟩;by_cases hi:i<xs.length
 ·rw[ft (by rw[gh];exact hi),iw]at e;obtain⟨y,ey,e⟩:=map_eq_some_iff.mp e;cases e;obtain⟨v,ev,hv⟩:=q.get ey;exact⟨v,by rw[ft (by rw[gh,hl];exact hi),iw,ev];rfl,hv⟩
 ·rw[List.getElem?_append_right (by rw[gh];omega),qg]at e;split at e<;>cases e
section
variable {P:fg}{w:gg}{K:cq}{mg:Str->Option bn}{base:Heap}{x:Str}{st:Stmt}{N ps:List Str}{k:Nat}
theorem Df.dN{q:PN}(D:Dd K mg x st ps)(S:FnScope N ps (zk st))(n:Nat)(hn:N.length=ps.length+n)
  (hbody:∀(f:Addr) (z:bn) (A:gf) (outer:List Env) (s:bu) (H:Hp) (E:XK),Room k (A.deeper (iy x (zk st) s.heap.objs.size f z)) ->
   ∃t dt,PSs (bU CX0 P w K mg base N x (zk st) f z A outer s H E).nox (cR st) t/\RS t dt/\∀xs S R,q xs S R->dt (aG S.length R) (xs.map some++bx n none) S):Df P w K mg base x ps (k+1) (spN ps q):=by
 refine Df.of D S (fun vs H Q E h=>h.1) fun f z A outer s H vs Q E hr ⟨hl,h,o,S',xs,R,aa,hx,hq,c⟩=>?_;obtain⟨t,dt,h1,h2,h3⟩:=hbody f z A outer s H E hr;refine⟨t,h1,h2 h o H _ _ S' _ _ ?_ aa (h3 xs S' R hq) (eok aa c)⟩;have e:N.length-vs.length=n:=yw
 unfold start;rw[e];exact xQ hx
end
section
variable {X:Cx}{x:Str}{ps:List Str}{k j:Nat}{pos pos':Pos}{e:Expr}{es:List Expr}{t:TA}
theorem zx{q:PN}(D:Df X.prog X.w X.K X.mg X.base x ps k (spN ps q))(hr:Room j X.A)(hk:k<=j)(ha:PA X (e::es) t)(hg:Gl X x:=by rfl)(z:(x==("__debug__":Str))=false:=by decide)
  (q1:fk (e::es) X.env=(false,eval e X.env)::fk es X.env:=by rfl) (q2:((ph pos (fk es X.env)).any fun x=>x.fst)=false:=by rfl):PE X (.Call (.Name x pos') (e::es) [] pos) (fK (spN ps q) [] E0 t):=by
 obtain⟨f,fd,F,hm,kp,hb⟩:=D.ex;exact vC (dvs:=[]) (ds:=[]) (E:=E0) F (hr.mono hk) hg hm kp hb .nil pass0 ha z q1 q2
end
def aH(m:Nat)(q:PN)(da:DA):DE:=fun δ S R=>da δ S fun xs S1=>∃ds,datas xs=some ds/\ds.length=m/\q (ds.map XV.d) [] (ret0 S1 R)
theorem hxs0{h o:List Addr}{H:Hp}:∀{ds:List bq}{vs:List V},HasXs h o H (ds.map XV.d) vs->HasXs (h++o) [] H (ds.map XV.d) vs
 | [],_,q=>q
 |d::ds,vs,⟨v,r,e,q,l⟩=>⟨v,r,e,hx0 q,hxs0 l⟩
theorem eG{ps:List Str}{q:PN}{m:Nat}{t:TA}{da:DA}(ha:RA t da)(hm:ps.length=m:=by rfl):RE (fK (spN ps q) [] E0 t) (aH m q da):=fun h o H δ σ S R Q he hs w c=>
 ha h o H δ σ S _ _ he hs w fun o1 H1 S1 xs vs e1 s1 x1 ⟨ds,e,hl,d1⟩=>by
  have ex:=fB e;subst ex;have hv:=x1.len;rw[jl];exact⟨by rw[hv,gh,hl,hm],h++o1,[],[],_,_,rep0 s1,hxs0 x1,d1,cn0 s1 (c.pre e1)⟩
def zY(i m:Nat)(q:PN)(da:DA):DE:=fun δ S R=>da δ S fun xs S1=>∃k,xs[i]?=some (.l k)/\∃p,S1[k]?=some p/\∃ds,datas (xs.set i (.d .none))=some ds/\ds.length=m/\q ((ds.map XV.d).set i (.l 0)) [p] (tJ k S1 R)
theorem Cp{h o:List Addr}{H:Hp}{k:Nat}{a:Addr}(ea:o[k]?=some a):∀{xs:List XV}{vs:List V}{ds:List bq}{i:Nat},HasXs h o H xs vs->xs[i]?=some (.l k)->datas (xs.set i (.d .none))=some ds->HasXs (h++o.filter (fun b=>b≠a)) [a] H ((ds.map XV.d).set i (.l 0)) vs
 | [],_,_,i,_,e,_=>by simp at e
 |x::xs,vs,ds,0,⟨v,r,e1,q,l⟩,e,ed=>by
  rw[qj]at e;cases e;rw[set_cons_zero]at ed;obtain⟨z,rfl⟩:∃z,ds=.none::z:=by
   unfold datas at ed;cases hd:datas xs with
   |none=>rw[hd]at ed;cases ed
   |some y=>rw[hd]at ed;cases ed;exact⟨y,rfl⟩
  have aa:datas xs=some z:=by
   unfold datas at ed;cases hd:datas xs with
   |none=>rw[hd]at ed;cases ed
   |some y=>rw[hd]at ed;cases ed;rfl
  have ex:=fB aa;subst ex;obtain⟨b,eb,rfl⟩:=q;rw[ea]at eb;cases eb;exact⟨_,r,e1,⟨a,rfl,rfl⟩,go (ea:=ea) l⟩
 |x::xs,vs,ds,i+1,⟨v,r,e1,q,l⟩,e,ed=>by
  rw[om]at e;rw[set_cons_succ]at ed
  match x,q,ed with
  | .d d,q,ed=>
   unfold datas at ed;cases hd:datas (xs.set i (.d .none))with
   |none=>rw[hd]at ed;cases ed
   |some z=>
    rw[hd]at ed;cases ed;exact⟨v,r,e1,hxP ea q,Cp ea l e hd⟩
  | .l j,q,ed=>cases ed
  | .o w,q,ed=>cases ed
  | .x _ _,q,ed=>cases ed
  | .p _ _,q,ed=>cases ed
where
 go {h o:List Addr}{H:Hp}{k:Nat}{a:Addr}{ea:o[k]?=some a}:∀{ds:List bq}{vs:List V},HasXs h o H (ds.map XV.d) vs->HasXs (h++o.filter (fun b=>b≠a)) [a] H (ds.map XV.d) vs
 | [],_,q=>q
 |d::ds,vs,⟨v,r,e,q,l⟩=>⟨v,r,e,hxP ea q,go (ea:=ea) l⟩
theorem K4:∀{xs:List XV}{ds:List bq},datas xs=some ds->xs.length=ds.length:=fun e=>by
 rw[fB e,gh]
theorem pG{ps:List Str}{q:PN}{i m:Nat}{t:TA}{da:DA}(ha:RA t da)(hm:ps.length=m:=by rfl):RE (fK (spN ps q) [] E0 t) (zY i m q da):=fun h o H δ σ S R Q he hs w c=>
 ha h o H δ σ S _ _ he hs w fun o1 H1 S1 xs vs e1 s1 x1 ⟨k,ek,p,ep,ds,e,hl,d1⟩=>by
  have hv:=x1.len;have hd:=K4 e;rw[length_set]at hd;obtain⟨v,_,a,ea,_⟩:=x1.get ek;rw[jl];exact⟨by rw[hv,hd,hl,hm],_,[a],[p],_,_,uU s1 ea ep,Cp ea x1 ek e,d1,cnP s1 ea ep (c.pre e1)⟩
end
section
def E8(K:cq):List V->Hp->VK->Prop:=fun xs H Q=>vH K xs H Q\/∃z,xs=[.str z]/\z.length<=fc/\Q (.int z.length) H
theorem eQ{X:Cx}:CallR X (.builtin "len") (E8 X.K):=Bn.or JW
def mG(S:Sto):XV->Option Nat
 | .d (.tuple ds)=>some ds.length
 | .d (.list ds)=>some ds.length
 | .l k=>(S[k]?).map List.length
 | .d (.str z)=>if z.length<=fc then some z.length else none
 |_=>none
def bV:List XV->Sto->RX->Prop:=fun xs S R=>arg1 xs fun x=>∃n,mG S x=some n/\R (.d (.int n)) S
theorem yB{K:cq}:RC (E8 K) bV:=fun h o H S xs vs R Q hs hx q c=>by
 obtain⟨x,rfl,n,hd,q1⟩:=cQ q;unfold mG at hd;split at hd
 ·cases hd;exact .inl (vD h o H S _ vs R Q hs hx ⟨_,rfl,q1⟩ c)
 ·cases hd;exact .inl (vD h o H S _ vs R Q hs hx ⟨_,rfl,q1⟩ c)
 ·rename_i k;cases hk:S[k]? with
  |none=>rw[hk]at hd;cases hd
  |some ds=>
   rw[hk]at hd;cases hd;exact .inl (vD h o H S _ vs R Q hs hx ⟨ds,hk,q1⟩ c)
 ·split at hd
  ·rename_i hz;cases hd;obtain⟨v,rfl,z⟩:=hxs1 hx;exact .inr ⟨_,by rw[eZ z],hz,c o H S _ _ Ex.refl hs (xI _) q1⟩
  ·cases hd
 ·cases hd
section
variable {S:Sto}{ds:List bq}{k:Nat}{z:Str}
theorem kF:mG S (.d (.tuple ds))=some ds.length:=rfl
theorem pN:mG S (.d (.list ds))=some ds.length:=rfl
end
def C8(z:Bool):R2:=fun x y H Q=>∃d e ds,Has H d x/\Has H e y/\gq d=true/\gq (.list ds)=true/\(e=.list ds\/e=.tuple ds)/\Q (.bl (if z then !ds.any (fun y=>lh y d)else ds.any (fun y=>lh y d))) H
theorem Fx{ds:List bq}(h:gq (.list ds)=true):md ds=true/\mn ds<=63:=by
 have h1:=gv h;have h2:=SeqAt.depth_of_shaped h;simp only[lg,PyData.depth]at h1 h2;exact⟨h1,yw⟩
theorem Ha{X:Cx}(hu:X.A.units+64<rf):OpR X (jy .NotIn) (C8 true):=by
 intro zg s σ H x y v u Q I rx ry h;obtain⟨d,e,ds,hd,he,sd,se,ee,q⟩:=h;obtain⟨s1,s2⟩:=Fx se;obtain⟨as,q1⟩:=Has.reads I d x v hd (gv sd) rx;have hm:X.A.units+1+min (mn ds) d.depth<rf:=by
  have:=Nat.min_le_left (mn ds) d.depth;omega
 rcases ee with rfl|rfl
 ·obtain⟨bs,q2⟩:=Has.reads I (.list ds) y u he (by simpa only[lg]using s1) ry;exact SeqAt.notIn_list_reads q2 q1 s1 (gv sd) hm ⟨.bl _,H,I,rfl,q⟩
 ·obtain⟨bs,q2⟩:=Has.reads I (.tuple ds) y u he (by simpa only[lg]using s1) ry;exact SeqAt.notIn_tuple_reads q2 q1 s1 (gv sd) hm ⟨.bl _,H,I,rfl,q⟩
def BT:R2:=fun x y H Q=>C8 true x y H Q\/∃i j,x=.str i/\y=.str j/\Q (.bl (!(!(Builtin.Str.occurrences j i 0 j.length 1).isEmpty))) H
theorem CT{X:Cx}(hu:X.A.units+64<rf):OpR X (jy .NotIn) BT:=(Ha hu).or Lx
def kC:D2:=fun x y S R=>match y with
 | .d (.str b)=>asS x fun a=>R (.d (.bool (!(!(Builtin.Str.occurrences b a 0 b.length 1).isEmpty)))) S
 |y=>∃d,d9 S x=some d/\∃ds,asQ S y=some ds/\gq d=true/\gq (.list ds)=true/\R (.d (.bool (!ds.any fun y=>lh y d))) S
theorem G3{h o:List Addr}{H:Hp}{S:Sto}{x:XV}{v:V}{ds:List bq}(hs:RepS h o H S)(e:asQ S x=some ds)(q:HasX h o H x v):∃e,Has H e v/\(e=.list ds\/e=.tuple ds):=by
 unfold asQ at e;split at e
 ·cases e;exact⟨_,eR (x:=.d _) hs rfl q,.inr rfl⟩
 ·cases e;exact⟨_,eR (x:=.d _) hs rfl q,.inl rfl⟩
 ·rename_i k;exact⟨.list ds,eR (x:=.l k) hs (by show (S[k]?).map PyData.list=_;rw[e];rfl) q,.inl rfl⟩
 ·cases e
theorem HI:RO BT kC:=fun h o H S x y v u R Q hs hx hy q c=>by
 unfold kC at q;split at q
 ·replace q:=x3 q;obtain⟨a,rfl,q⟩:=q;exact .inr ⟨_,_,eZ hx,eZ hy,c o H S _ _ Ex.refl hs (xB _) q⟩
 ·obtain⟨d,e1,ds,e2,s1,s2,q⟩:=q;obtain⟨e,he,ee⟩:=G3 hs e2 hy;exact .inl ⟨d,e,ds,eR hs e1 hx,he,s1,s2,ee,c o H S _ _ Ex.refl hs (xB _) q⟩
section
variable {S:Sto}{ds:List bq}{k:Nat}{a b:Str}{x:XV}{R:RX}
theorem p9:kC x (.d (.tuple ds)) S R↔∃d,d9 S x=some d/\gq d=true/\gq (.list ds)=true/\R (.d (.bool (!ds.any fun y=>lh y d))) S:=⟨fun⟨d,e,_,e',q⟩=>by cases e';exact⟨d,e,q⟩,fun⟨d,e,q⟩=>⟨d,e,_,rfl,q⟩⟩
end
def nZ(a:DA):DI:=fun δ S R=>a δ S fun xs S1=>arg1 xs fun x=>∃ds,dW x=some ds/\R (E7 0 ds) S1
def qF:XV->List XV->Sto->RX->Prop:=fun x xs S R=>∃k,x=.l k/\∃ds,S[k]?=some ds/\xs=[]/\∃d,ds[ds.length-1]?=some d/\R (.d d) (S.set k ds.dropLast)
def jL(rd:XV->List XV->Sto->RX->Prop)(e:DE)(a:DA):DE:=fun δ S R=>e δ S fun x S1=>∃z,x=.d (.str z)/\a δ S1 fun xs S2=>rd x xs S2 R
theorem Bi{K:cq}{r:V->List V->Hp->VK->Prop}{rd:XV->List XV->Sto->RX->Prop}{te:TE}{de:DE}{tl:TA}{dl:DA}(hr:RM r rd)(aa:RE te de)(ha:RA tl dl):RE (tBM K "str" r te tl) (jL rd de dl):=fun h o H δ σ S R Q he hs q c=>
 aa h o H δ σ S _ _ he hs q fun o1 H1 S1 x v e1 s1 x1 ⟨z,ez,d1⟩=>by
  subst ez;cases eZ x1;exact⟨rfl,ha h o1 H1 δ σ S1 _ _ (he.mono e1) s1 d1 fun o2 H2 S2 xs vs e2 s2 x2 d2=>hr h o2 H2 S2 (.d (.str z)) _ xs vs R Q s2 (HasX.mono (x:=.d (.str z)) e2 x1) x2 d2 (c.pre (e1.trans e2))⟩
theorem Eh{H:Hp}:∀{ns:List Str}{vs:List V},HasL H (ns.map lu) vs->vs=ns.map V.str
 | [],vs,h=>zK.mp h
 |n::ns,vs,h=>by
  obtain⟨v,r,rfl,h1,h2⟩:=zu.mp h;rw[hV.mp h1,Eh h2];rfl
def jJ:XV->List XV->Sto->RX->Prop:=fun x xs S R=>asS x fun z=>arg1 xs fun y=>∃ds,dX S y=some ds/\∃zs:List Str,ds=zs.map lu/\z.length<=16/\zs.length<=1000/\(∀y∈zs,y.length<=1000)/\R (.d (.str (PySem.Txt.join z zs))) S
theorem OA{K:cq}:RM (Ef K) jJ:=fun h o H S x v xs vs R Q hs hx aa q c=>by
 replace q:=x3 q;obtain⟨z,rfl,q⟩:=q;obtain⟨y,rfl,ds,e,zs,rfl,h1,h2,h3,q1⟩:=cQ q;obtain⟨u,rfl,hu⟩:=hxs1 aa;obtain⟨a,ws,rfl,ea,l⟩:=b9 hs e hu;rw[Eh l]at ea;exact⟨z,a,zs,eZ hx,rfl,.of ea,h1,h2,h3,c o H S _ _ Ex.refl hs (xS _) q1⟩
def i7:D2:=fun x y S R=>asL S x fun ds=>asL S y fun es=>ds.length+es.length<=1000/\R (.l S.length) (S++[ds++es])
theorem LI:RO lK i7:=fun h o H S x y v u R Q hs hx hy q c=>by
 obtain⟨ds,e0,es,e1,hl,q⟩:=q;obtain⟨a,vs,rfl,ea,la⟩:=b9 hs e0 hx;obtain⟨b,us,rfl,eb,lb⟩:=b9 hs e1 hy;exact⟨a,b,vs,us,rfl,rfl,ea,eb,by rw[la.length,lb.length];exact kl (small1000 hl),BN hs (la.append lb) c q⟩
def Bm:V->List V->Hp->VK->Prop:=fun x vs H Q=>∃(d:bq) (ds:List bq) (j:Nat),Has H (.list ds) x/\(∃v,vs=[v]/\Has H d v)/\gq d=true/\gq (.list ds)=true/\ds.length<=1000/\(∃e,ds[j]?=some e/\lh e d=true)/\(∀m e,m<j->ds[m]?=some e->lh e d=false)/\Q (.int j) H
theorem JJ{X:Cx}(hu:X.A.units+64<rf):MtR X "list.index" Bm:=by
 intro zg s σ H x vs v us Q I rx rv h;obtain⟨d,ds,j,hl,⟨y,rfl,hy⟩,sd,se,af,⟨e,ej,he⟩,ac,q⟩:=h;obtain⟨s1,s2⟩:=Fx se;obtain⟨u,rfl,r1⟩:=rv.one;obtain⟨as,q1⟩:=Has.reads I d y u hy (gv sd) r1;obtain⟨bs,q2⟩:=Has.reads I (.list ds) x v hl (by simpa only[lg]using s1) rx;have hm:X.A.units+1+min (mn ds) d.depth<rf:=by
  have:=Nat.min_le_left (mn ds) d.depth;omega
 cases q2 with
 | @list l o vs n xs as₁ h1 h2 h3 h4=>
  have hn:vs.size=ds.length:=by simpa using SeqAt.ReadsAll.length _ _ _ h4
  have aa:=SeqAt.readsAll_map _ _ _ s1 h4;have z:∀(m:Nat) (hm:m<vs.size) e,ds[m]?=some e->SeqAt.readOf s.heap vs[m]=e:=fun m hm e h=>by
   rw[<- aa,iw]at h;have:vs.toList[m]?=some vs[m]:=by simp[hm]
   rw[this]at h;exact gi h
  have hj:j<vs.size:=by rw[hn];exact(List.getElem?_eq_some_iff.mp ej).1
  obtain⟨cls,dd,data,sl⟩:=o;simp only at h2 h3;subst h2 h3;refine call_meets PySem.F.slot_list_index ⟨_,h1,rfl⟩ PySem.F.entry_list_index (PySem.F.args_list_index_2 _ _)
   (SeqAt.list_indexAt l vs n dd sl u (fun y=>lh (SeqAt.readOf s.heap y) d) j hj yw ?_ ?_) ⟨h1,SeqAt.items_eqAt h4 q1 s1 (gv sd) hm,⟨.int j,H,I.tok _,⟨_,rfl⟩,q⟩⟩
  ·show lh (SeqAt.readOf s.heap vs[j]) d=true;rw[z j hj e ej];exact he
  ·intro m hm ae;show lh (SeqAt.readOf s.heap vs[m]) d=false;have em:ds[m]?=some ds[m]:=cw yw;rw[z m hm _ em];exact ac m _ ae em
def jU:XV->List XV->Sto->RX->Prop:=fun x xs S R=>arg1 xs fun y=>∃d,d9 S y=some d/\∃ds,dX S x=some ds/\gq d=true/\gq (.list ds)=true/\ds.length<=1000/\∃j,(∃e,ds[j]?=some e/\lh e d=true)/\(∀m e,m<j->ds[m]?=some e->lh e d=false)/\R (.d (.int (j:Nat))) S
theorem Lr:RM Bm jU:=fun h o H S x v xs vs R Q hs hx z q c=>by
 obtain⟨y,rfl,d,e1,ds,e2,s1,s2,h1,j,h2,h3,q1⟩:=cQ q;obtain⟨u,rfl,hu⟩:=hxs1 z;have hl:Has H (.list ds) v:=eR (x:=x) hs (by
  unfold dX at e2;split at e2
  ·cases e2;rfl
  ·rename_i k;show (S[k]?).map PyData.list=_;rw[e2];rfl
  ·cases e2) hx
 exact⟨d,ds,j,hl,⟨u,rfl,eR hs e1 hu⟩,s1,s2,h1,h2,h3,c o H S _ _ Ex.refl hs (xI _) q1⟩
def i6(rd:XV->List XV->Sto->RX->Prop)(e:DE)(a:DA):DE:=fun δ S R=>e δ S fun x S1=>∃ds,dX S1 x=some ds/\a δ S1 fun xs S2=>rd x xs S2 R
theorem xL{K:cq}{r:V->List V->Hp->VK->Prop}{rd:XV->List XV->Sto->RX->Prop}{te:TE}{de:DE}{tl:TA}{dl:DA}(hr:RM r rd)(z:RE te de)(ha:RA tl dl):RE (tBM K "list" r te tl) (i6 rd de dl):=fun h o H δ σ S R Q he hs q c=>
 z h o H δ σ S _ _ he hs q fun o1 H1 S1 x v e1 s1 x1 ⟨ds,ez,d1⟩=>by
  obtain⟨a,ws,rfl,ea,_⟩:=b9 s1 ez x1;exact⟨y9 ea,ha h o1 H1 δ σ S1 _ _ (he.mono e1) s1 d1 fun o2 H2 S2 xs vs e2 s2 x2 d2=>hr h o2 H2 S2 x _ xs vs R Q s2 (x1.mono e2) x2 d2 (c.pre (e1.trans e2))⟩
abbrev MZ (a:Addr) (m:Nat):DEnds:={ nx:=fun δ _=>δ[0]?=some (some (.o (.ref a)))/\δ.length=m+1,ct:=fun δ _=>δ[0]?=some (some (.o (.ref a)))/\δ.length=m+1,rt:=fun _ _=>False }
abbrev Dp (a:Addr) (m:Nat):DEnds:={ nx:=fun δ _=>δ[0]?=some (some (.o (.ref a)))/\δ.length=m+1,rt:=fun _ _=>False }
section
variable {a:Addr}{m:Nat}{t1 t2 t3 t4 u:TS}{dt:DS}{D:Ends}{σ:St}{H:Hp}
theorem JS(ht:RS t1 dt)(h0:σ[0]?=some (some (.ref a)))(hl:σ.length=m+1)(go:dt (Dp a m) (some (.o (.ref a))::bx m none) [])
  (next:∀(σ:St) (H1:Hp),σ[0]?=some (some (.ref a))->σ.length=m+1->Same H H1->u D σ H1):dP t1 u D σ H:=J6 ht h0 hl go next
end
end
section
open Sem (wp)
def ItK(t:Bool)(h:Heap)(j a:Addr)(k:Nat):Prop:=match t with
 |true=>h.IsTupleIter j a k
 |false=>h.IsListIter j a k
def SqK(t:Bool)(h:Heap)(a:Addr)(xs:Array bn):Prop:=match t with
 |true=>h.IsTuple a xs
 |false=>h.IsList a xs
theorem ItK.at{t:Bool}{h g:Heap}{j a:Addr}{k:Nat}(q:ItK t h j a k)(f:∀o,h.get? j=some o->g.get? j=some o):ItK t g j a k:=by
 cases t
 ·exact Heap.IsListIter.at (show h.IsListIter j a k from q) f
 ·exact Heap.IsTupleIter.at (show h.IsTupleIter j a k from q) f
theorem ItK.here{t:Bool}{h:Heap}{j a:Addr}{k:Nat}(q:ItK t h j a k):∃o,h.get? j=some o/\∀v,o.data≠.cell v:=by
 cases t<;>(obtain⟨o,e,c,d⟩:=q;exact⟨o,e,fun v z=>by rw[d]at z;cases z⟩)
theorem SqK.at{t:Bool}{h g:Heap}{a:Addr}{xs:Array bn}(q:SqK t h a xs)(f:∀o,h.get? a=some o->g.get? a=some o):SqK t g a xs:=by
 cases t<;>(obtain⟨o,e,r⟩:=q;exact⟨o,f o e,r⟩)
theorem SqK.here{t:Bool}{h:Heap}{a:Addr}{xs:Array bn}(q:SqK t h a xs):∃o,h.get? a=some o:=by
 cases t<;>(obtain⟨o,e,r⟩:=q;exact⟨o,e⟩)
section
variable {prog:fg}{w:gg}{A:gf}{E:bn->bu->Prop}{s:bu}
theorem u0{t:Bool}{j a:Addr}{k:Nat}{xs:Array bn}{x:bn}{Q:bn->bu->Prop}(hj:ItK t s.heap j a k)(ha:SqK t s.heap a xs)(hx:xs[k]?=some x)
  (hQ:∀g,ItK t g j a (k+1)->io j s.heap g->Q x { s with heap:=g }):cv (model prog w) A (ic (.ref j)) Q E s:=by
 cases t
 ·exact wpAny_nextOf_list_item hj ha hx hQ
 ·exact G7 hj ha hx hQ
theorem Cb{t:Bool}{j a:Addr}{k:Nat}{xs:Array bn}{Q:bn->bu->Prop}(hh:A.handled=none)(hj:ItK t s.heap j a k)(ha:SqK t s.heap a xs)(hx:xs[k]?=none)
  (hE:∀g e,Heap.ExtBut j s.heap g->(∃o,g.get? e=some o/\o.cls=.type "StopIteration")->E (.ref e) { s with heap:=g }):cv (model prog w) A (ic (.ref j)) Q E s:=by
 cases t
 ·exact wpAny_nextOf_list_end hh hj ha hx hE
 ·exact Mp hh hj ha hx hE
theorem Bq{t:Bool}{a:Addr}{xs:Array bn}{Q:bn->bu->Prop}(ha:SqK t s.heap a xs)(hQ:Q (.ref s.heap.objs.size) { s with heap:=s.heap.push { cls:=.type (if t then "tuple_iterator" else "list_iterator"),data:=.fields #[.ref a,.int 0 0] } }):cv (model prog w) A (pyIter (.ref a)) Q E s:=by
 cases t
 ·exact pb ha hQ
 ·exact qi ha hQ
theorem vG{T:Addr}{c d x:bn}{k:Nat}{Q:Unit->bu->Prop}(hT:ql s.heap T c d)(hQ:∀g,g.get? T=some { cls:=.type "tuple",data:=.seq ((#[c,d]:Array bn).setIfInBounds k x) }->io T s.heap g->Q () { s with heap:=g }):
  cv (model prog w) A (updateSeq T (·.setIfInBounds k x)) Q E s:=wpAny_updateSeq_pair hT hQ
structure ZAp(z p r i j a b:Addr):Prop where
 pz:p≠z
 rz:r≠z
 iz:i≠z
 jz:j≠z
 pr:p≠r
 pi:p≠i
 pj:p≠j
 ri:r≠i
 rj:r≠j
 ij:i≠j
 az:a≠z
 ar:a≠r
 ai:a≠i
 aj:a≠j
 bz:b≠z
 br:b≠r
 bi:b≠i
 bj:b≠j
theorem Lp{t u:Bool}{z p r i j a b:Addr}{k m:Nat}{xs ys:Array bn}{x y c d:bn}{Q:bn->bu->Prop}(D:ZAp z p r i j a b)(hz:IsZip s.heap z p r .none)(hp:ql s.heap p (.ref i) (.ref j))(hr:ql s.heap r c d)
  (hi:ItK t s.heap i a k) (hj:ItK u s.heap j b m) (ha:SqK t s.heap a xs) (hb:SqK u s.heap b ys) (hx:xs[k]?=some x) (hy:ys[m]?=some y)
  (hQ:∀g,IsZip g z p r (ss s.heap.objs.size)->ql g r x y->ItK t g i a (k+1)->ItK u g j b (m+1)->ql g s.heap.objs.size x y ->
   (∀q o,q≠z->q≠r->q≠i->q≠j->s.heap.get? q=some o->g.get? q=some o)->Q (.ref s.heap.objs.size) { s with heap:=g }):
  cv (model prog w) A (ni.«zip.__next__» ⟨[.ref z],[]⟩) (fun fn s'=>∃v,fn=.done (.ret v)/\Q v s') E s:=by
 obtain⟨h0,gs,dr,tk,os⟩:=s;show cv _ _ (field (.ref z) 2 >>= _) _ _ ⟨h0,gs,dr,tk,os⟩;refine bo (jg hz rfl (x:=.bool false) rfl ?_);show cv _ _ (field (.ref z) 3 >>= _) _ _ ⟨h0,gs,dr,tk,os⟩;refine bo (jg hz rfl (x:=.ref p) rfl (bo (kh hp rfl ?_)));show cv _ _ (Builtin.SmallTypes.ownedTupleIsFree (.ref z) >>= _) _ _ ⟨h0,gs,dr,tk,os⟩;refine bo ?_;unfold Builtin.SmallTypes.ownedTupleIsFree;refine bo (jg hz rfl (x:=.none) rfl (cr ?_));simp only[if_true];refine bo (mw (bo (jg hz rfl (x:=.ref r) rfl (bo (on hz yv fun g1 z1 b1=>?_)))));replace z1:IsZip g1 z p r .ellipsis:=z1;replace b1:io z h0 g1:=b1;refine bo ?_;simp only[zipIdx_cons,List.zipIdx_nil,forIn_cons,List.forIn_nil];refine bo (bo (wpAny_onRaise ?_));show cv _ _ (ic (.ref i) >>= _) _ _ ⟨g1,gs,dr,tk,os⟩;refine bo (u0 (s:=⟨g1,gs,dr,tk,os⟩) (hi.at fun o e=>b1.extBut i o D.iz e) (ha.at fun o e=>b1.extBut a o D.az e) hx fun g2 i2 b2=>cr ?_);replace b2:io i g1 g2:=b2;have r2:ql g2 r c d:=b2.extBut r _ D.ri (b1.extBut r _ D.rz hr);refine bo (kh (s:=⟨g2,gs,dr,tk,os⟩) r2 rfl (bo (vG (s:=⟨g2,gs,dr,tk,os⟩) r2 fun g3 r3 b3=>?_)));replace r3:ql g3 r x d:=r3;replace b3:io r g2 g3:=b3;refine bo (tm (cr (bo (bo (wpAny_onRaise ?_)))));show cv _ _ (ic (.ref j) >>= _) _ _ ⟨g3,gs,dr,tk,os⟩;have aa:∀q o,q≠z->q≠r->q≠i->h0.get? q=some o->g3.get? q=some o:=fun q o n1 n2 n3 e=>b3.extBut q o n2 (b2.extBut q o n3 (b1.extBut q o n1 e));refine bo (u0 (s:=⟨g3,gs,dr,tk,os⟩) (hj.at fun o e=>aa j o D.jz (im D.rj) (im D.ij) e) (hb.at fun o e=>aa b o D.bz D.br D.bi e) hy fun g4 j4 b4=>cr ?_);replace b4:io j g3 g4:=b4;have r4:ql g4 r x d:=b4.extBut r _ D.rj r3;refine bo (kh (s:=⟨g4,gs,dr,tk,os⟩) r4 rfl (bo (vG (s:=⟨g4,gs,dr,tk,os⟩) r4 fun g5 r5 b5=>?_)));replace r5:ql g5 r x y:=r5;replace b5:io r g4 g5:=b5;refine bo (tm (cr (cr (bo (kh (s:=⟨g5,gs,dr,tk,os⟩) r5 rfl (bo (wpAny_newTuple ?_)))))));have sz:g5.objs.size=h0.objs.size:=by rw[b5.1,b4.1,b3.1,b2.1,b1.1]
 have z5:IsZip g5 z p r .ellipsis:=b5.extBut z _ (im D.rz) (b4.extBut z _ (im D.jz) (b3.extBut z _ (im D.rz) (b2.extBut z _ (im D.iz) z1)));have k5:∀q o,q≠z->q≠r->q≠i->q≠j->h0.get? q=some o->g5.get? q=some o:=fun q o n1 n2 n3 n4 e=>b5.extBut q o n2 (b4.extBut q o n4 (aa q o n1 n2 n3 e));have i5:ItK t g5 i a (k+1):=ItK.at i2 fun o e=>b5.extBut i o (im D.ri) (b4.extBut i o D.ij (b3.extBut i o (im D.ri) e));have j5:ItK u g5 j b (m+1):=ItK.at j4 fun o e=>b5.extBut j o (im D.rj) e;have zl:z<g5.objs.size:=fu z5;show cv _ _ (Builtin.SmallTypes.ownedTupleHandOut (.ref z) (.ref g5.objs.size) >>= _) _ _ _;refine bo ?_;unfold Builtin.SmallTypes.ownedTupleHandOut;have z6:IsZip (g5.push { cls:=.type "tuple",data:=.seq #[x,y] }) z p r .ellipsis:=bw _ z5;refine bo (on z6 yv fun g7 z7 b7=>?_);replace z7:IsZip g7 z p r (ss g5.objs.size):=z7;replace b7:io z (g5.push { cls:=.type "tuple",data:=.seq #[x,y] }) g7:=b7;refine on z7 yv fun g8 z8 b8=>?_;replace z8:IsZip g8 z p r (ss g5.objs.size):=z8;replace b8:io z g7 g8:=b8;have up:∀q o,q≠z->g5.get? q=some o->g8.get? q=some o:=fun q o n e=>b8.extBut q o n (b7.extBut q o n (bw _ e));have t8:ql g8 g5.objs.size x y:=b8.extBut _ _ (tq zl) (b7.extBut _ _ (tq zl) (fj _ rfl));rw[sz]at z8 t8;refine cr ⟨_,rfl,?_⟩;show Q (.ref g5.objs.size) _;rw[sz];exact hQ g8 z8 (up r _ D.rz r5) (i5.at fun o e=>up i o D.iz e) (j5.at fun o e=>up j o D.jz e) t8 fun q o n1 n2 n3 n4 e=>up q o n1 (k5 q o n1 n2 n3 n4 e)
theorem IB{t u:Bool}{z p r i j a b:Addr}{k m:Nat}{xs ys:Array bn}{c d:bn}{Q:Fin->bu->Prop}(hh:A.handled=none)(D:ZAp z p r i j a b)(hz:IsZip s.heap z p r .none)(hp:ql s.heap p (.ref i) (.ref j))(hr:ql s.heap r c d)
  (hi:ItK t s.heap i a k) (hj:ItK u s.heap j b m) (ha:SqK t s.heap a xs) (hb:SqK u s.heap b ys) (hend:xs[k]?=none\/ys[m]?=none)
  (hE:∀g e,(∀q o,q≠z->q≠r->q≠i->q≠j->s.heap.get? q=some o->g.get? q=some o)->(∃o,g.get? e=some o/\o.cls=.type "StopIteration")->E (.ref e) { s with heap:=g }):
  cv (model prog w) A (ni.«zip.__next__» ⟨[.ref z],[]⟩) Q E s:=by
 obtain⟨h0,gs,dr,tk,os⟩:=s;show cv _ _ (field (.ref z) 2 >>= _) _ _ ⟨h0,gs,dr,tk,os⟩;refine bo (jg hz rfl (x:=.bool false) rfl ?_);show cv _ _ (field (.ref z) 3 >>= _) _ _ ⟨h0,gs,dr,tk,os⟩;refine bo (jg hz rfl (x:=.ref p) rfl (bo (kh hp rfl ?_)));show cv _ _ (Builtin.SmallTypes.ownedTupleIsFree (.ref z) >>= _) _ _ ⟨h0,gs,dr,tk,os⟩;refine bo ?_;unfold Builtin.SmallTypes.ownedTupleIsFree;refine bo (jg hz rfl (x:=.none) rfl (cr ?_));simp only[if_true];refine bo (mw (bo (jg hz rfl (x:=.ref r) rfl (bo (on hz yv fun g1 z1 b1=>?_)))));replace z1:IsZip g1 z p r .ellipsis:=z1;replace b1:io z h0 g1:=b1;refine bo ?_;simp only[zipIdx_cons,List.zipIdx_nil,forIn_cons,List.forIn_nil];refine bo (bo (wpAny_onRaise ?_));show cv _ _ (ic (.ref i) >>= _) _ _ ⟨g1,gs,dr,tk,os⟩;have aa:∀{g:Heap}{e:Addr}{o:Obj},IsZip g z p r .ellipsis->g.get? e=some o->o.cls=.type "StopIteration"->e≠z:=fun h1 h2 h3 w=>by
  subst w;rw[h1]at h2;cases h2;simp at h3
 cases hx:xs[k]? with
 |none=>
  refine bo (Cb (s:=⟨g1,gs,dr,tk,os⟩) hh (hi.at fun o e=>b1.extBut i o D.iz e) (ha.at fun o e=>b1.extBut a o D.az e) hx fun g2 e b2 he=>?_);obtain⟨oe,e1,e2⟩:=he;have z2:IsZip g2 z p r .ellipsis:=b2 z _ (im D.iz) z1;exact on z2 yv fun g3 _ b3=>hE g3 e (fun q o n1 _ n3 _ w=>b3.extBut q o n1 (b2 q o n3 (b1.extBut q o n1 w))) ⟨oe,b3.extBut e oe (aa z2 e1 e2) e1,e2⟩
 |some x=>
  have hy:ys[m]?=none:=hend.elim (fun w=>by rw[hx]at w;cases w) id;refine bo (u0 (s:=⟨g1,gs,dr,tk,os⟩) (hi.at fun o e=>b1.extBut i o D.iz e) (ha.at fun o e=>b1.extBut a o D.az e) hx fun g2 i2 b2=>cr ?_);replace b2:io i g1 g2:=b2;have r2:ql g2 r c d:=b2.extBut r _ D.ri (b1.extBut r _ D.rz hr);refine bo (kh (s:=⟨g2,gs,dr,tk,os⟩) r2 rfl (bo (vG (s:=⟨g2,gs,dr,tk,os⟩) r2 fun g3 r3 b3=>?_)));replace b3:io r g2 g3:=b3;refine bo (tm (cr (bo (bo (wpAny_onRaise ?_)))));show cv _ _ (ic (.ref j) >>= _) _ _ ⟨g3,gs,dr,tk,os⟩;have ac:∀q o,q≠z->q≠r->q≠i->h0.get? q=some o->g3.get? q=some o:=fun q o n1 n2 n3 e=>b3.extBut q o n2 (b2.extBut q o n3 (b1.extBut q o n1 e));refine bo (Cb (s:=⟨g3,gs,dr,tk,os⟩) hh (hj.at fun o e=>ac j o D.jz (im D.rj) (im D.ij) e) (hb.at fun o e=>ac b o D.bz D.br D.bi e) hy fun g4 e b4 he=>?_);obtain⟨oe,e1,e2⟩:=he;have z4:IsZip g4 z p r .ellipsis:=b4 z _ (im D.jz) (b3.extBut z _ (im D.rz) (b2.extBut z _ (im D.iz) z1));exact on z4 yv fun g5 _ b5=>hE g5 e (fun q o n1 n2 n3 n4 w=>b5.extBut q o n1 (b4 q o n4 (ac q o n1 n2 n3 w))) ⟨oe,b5.extBut e oe (aa z4 e1 e2) e1,e2⟩
abbrev kY (t:Bool) (h:Heap) (a:Addr):Heap:=h.push { cls:=.type (if t then "tuple_iterator" else "list_iterator"),data:=.fields #[.ref a,.int 0 0] }
abbrev i0 (t u:Bool) (h:Heap) (a b:Addr):Heap:=(kY t h a).push { cls:=.type (if u then "tuple_iterator" else "list_iterator"),data:=.fields #[.ref b,.int 0 0] }
abbrev iL (t u:Bool) (h:Heap) (a b:Addr):Heap:=(i0 t u h a b).push { cls:=.type "tuple",data:=.seq #[.ref h.objs.size,.ref (kY t h a).objs.size] }
abbrev jP (t u:Bool) (h:Heap) (a b:Addr):Heap:=(iL t u h a b).push { cls:=.type "tuple",data:=.seq #[.none,.none] }
abbrev xX (t u:Bool) (h:Heap) (a b:Addr):Heap:=(jP t u h a b).push { cls:=.type "zip",data:=.fields #[.none,.bool false,.bool false,.ref (i0 t u h a b).objs.size,.ref (iL t u h a b).objs.size] }
theorem KR(t u:Bool)(a b:Addr)(xs ys:Array bn):Meets (ni.«zip.__new__» ⟨[.type "zip",.ref a,.ref b],[]⟩) (fun _ R s=>SqK t s.heap a xs/\SqK u s.heap b ys /\
   ∀g,IsZip g (s.heap.objs.size+4) (s.heap.objs.size+2) (s.heap.objs.size+3) .none->ql g (s.heap.objs.size+2) (.ref s.heap.objs.size) (.ref (s.heap.objs.size+1))->ql g (s.heap.objs.size+3) .none .none ->
    ItK t g s.heap.objs.size a 0->ItK u g (s.heap.objs.size+1) b 0->(∀q o,s.heap.get? q=some o->g.get? q=some o)->R (.ok (.ret (.ref (s.heap.objs.size+4)))) { s with heap:=g }):=
 .of_wp fun prog w A R s z=>by
  obtain⟨g0,gs,dr,tk,os⟩:=s;obtain⟨ha,hb,z⟩:=z;have sub:=sub_zip;have hA:SqK t (Shared.heap ⟨g0,gs,dr,tk,os⟩) a xs:=ha;have hB:SqK u (Shared.heap ⟨g0.push { cls:=.type (if t then "tuple_iterator" else "list_iterator"),data:=.fields #[.ref a,.int 0 0] },gs,dr,tk,os⟩) b ys:=SqK.at hb fun o e=>bw _ e
  wp_walk using Bq hA,Bq hB
  refine⟨_,rfl,?_⟩;have z1:(kY t g0 a).objs.size=g0.objs.size+1:=size_push ..;have z2:(i0 t u g0 a b).objs.size=g0.objs.size+2:=by rw[size_push,z1]
  have z3:(iL t u g0 a b).objs.size=g0.objs.size+3:=by rw[size_push,z2]
  have z4:(jP t u g0 a b).objs.size=g0.objs.size+4:=by rw[size_push,z3]
  have f1:=fj g0 (o:={ cls:=.type (if t then "tuple_iterator" else "list_iterator"),data:=.fields #[.ref a,.int 0 0] }) (by cases t<;>rfl);have f2:=fj (kY t g0 a) (o:={ cls:=.type (if u then "tuple_iterator" else "list_iterator"),data:=.fields #[.ref b,.int 0 0] }) (by cases u<;>rfl);have f3:=fj (i0 t u g0 a b) (o:={ cls:=.type "tuple",data:=.seq #[.ref g0.objs.size,.ref (kY t g0 a).objs.size] }) rfl;have f4:=fj (iL t u g0 a b) (o:={ cls:=.type "tuple",data:=.seq #[.none,.none] }) rfl;have f5:=fj (jP t u g0 a b) (o:={ cls:=.type "zip",data:=.fields #[.none,.bool false,.bool false,.ref (i0 t u g0 a b).objs.size,.ref (iL t u g0 a b).objs.size] }) rfl;have c1:∀q o,g0.get? q=some o->(kY t g0 a).get? q=some o:=fun q o e=>bw _ e;have c2:∀q o,(kY t g0 a).get? q=some o->(i0 t u g0 a b).get? q=some o:=fun q o e=>bw _ e;have c3:∀q o,(i0 t u g0 a b).get? q=some o->(iL t u g0 a b).get? q=some o:=fun q o e=>bw _ e;have c4:∀q o,(iL t u g0 a b).get? q=some o->(jP t u g0 a b).get? q=some o:=fun q o e=>bw _ e;have c5:∀q o,(jP t u g0 a b).get? q=some o->(xX t u g0 a b).get? q=some o:=fun q o e=>bw _ e;have y1:=c5 _ _ (c4 _ _ (c3 _ _ (c2 _ _ f1)));have y2:=c5 _ _ (c4 _ _ (c3 _ _ f2));have y3:=c5 _ _ (c4 _ _ f3);have y4:=c5 _ _ f4;have y5:(xX t u g0 a b).get? (jP t u g0 a b).objs.size=some { cls:=.type "zip",data:=.fields #[.none,.bool false,.bool false,.ref (i0 t u g0 a b).objs.size,.ref (iL t u g0 a b).objs.size] }:=f5;have fin:R (.ok (.ret (.ref (jP t u g0 a b).objs.size))) ⟨xX t u g0 a b,gs,dr,tk,os⟩:=by
   rw[z4,z2,z3]at y5;rw[z2,z1]at y3;rw[z3]at y4;rw[z1]at y2;rw[z4];refine z _ y5 y3 y4 ?_ ?_ fun q o e=>c5 q o (c4 q o (c3 q o (c2 q o (c1 q o e))))
   ·cases t<;>exact⟨_,y1,rfl,rfl⟩
   ·cases u<;>exact⟨_,y2,rfl,rfl⟩
  exact fin
theorem IN{t u:Bool}{a b:Addr}{xs ys:Array bn}{Q:bn->bu->Prop}(ha:SqK t s.heap a xs)(hb:SqK u s.heap b ys)
  (hyp:∀g,IsZip g (s.heap.objs.size+4) (s.heap.objs.size+2) (s.heap.objs.size+3) .none->ql g (s.heap.objs.size+2) (.ref s.heap.objs.size) (.ref (s.heap.objs.size+1))->ql g (s.heap.objs.size+3) .none .none ->
    ItK t g s.heap.objs.size a 0->ItK u g (s.heap.objs.size+1) b 0->(∀q o,s.heap.get? q=some o->g.get? q=some o)->Q (.ref (s.heap.objs.size+4)) { s with heap:=g }):cv (model prog w) A (call (.type "zip") [.ref a,.ref b]) Q E s:=by
 refine callType_new F.called_zip dz (F.typeCall_zip_2 _ _) (F.newCall_zip_2 _ _) (fun ob=>F.args_object_init_3 ob _ _) F.entry_zip_new (KR t u a b xs ys) ⟨ha,hb,fun g h1 h2 h3 h4 h5 h6=>?_⟩;exact⟨⟨_,h1,rfl⟩,hyp g h1 h2 h3 h4 h5 h6⟩
end
def Itz(S1 S2:Hp->Addr->List V->Prop)(a b:Addr):It:=
 ⟨fun i H=>∃xs ys x y,S1 H a xs/\S2 H b ys/\xs[i]?=some x/\ys[i]?=some y,fun i H x H'=>∃p v u,H p=none/\x=.ref p/\H'=upd H p (.tup [v,u])/\(∀xs,S1 H a xs->xs[i]?=some v)/\(∀ys,S2 H b ys->ys[i]?=some u),fun i H=>∃xs ys,S1 H a xs/\S2 H b ys/\(xs.length<=i\/ys.length<=i)⟩
def SqV(K:cq)(t:Bool)(H:Hp)(a:Addr)(xs:List V):Prop:=match t with
 |true=>SqT K H a xs
 |false=>SqL K H a xs
theorem Inv.seqK{X:Cx}{zg:List (Addr×Obj)}{σ:St}{H:Hp}{s:bu}{t:Bool}{a:Addr}{xs:List V}(I:Inv X zg σ H s)(h:SqV X.K t H a xs):∃z:List bn,Vals xs z/\SqK t s.heap a z.toArray/\∀ys,SqV X.K t H a ys->ys=xs:=by
 cases t
 ·obtain⟨z,rv,p,_⟩:=I.list h;exact⟨z,rv,p.isList,fun ys hy=>I.list_inj hy h⟩
 ·obtain⟨z,rv,p,_⟩:=I.tuple h;exact⟨z,rv,p,fun ys hy=>I.tuple_inj hy h⟩
theorem M8{P:fg}{w:gg}{K:cq}{elts:List Expr}{n:Nat}{pos:Pos}(t u:Bool)(z p r i j a b:Addr)(D:ZAp z p r i j a b):Turn P w K (.Tuple elts n pos) (Itz (SqV K t) (SqV K u) a b) [z,p,r,i,j] z
  (fun k h=>IsZip h z p r .none/\ql h p (.ref i) (.ref j)/\(∃c d,ql h r c d)/\ItK t h i a k/\ItK u h j b k) where
 mem:=by simp
 obj:=fun k h ⟨h1,h2,⟨c,d,h3⟩,h4,h5⟩ q hq=>by
  simp only[gw,ge,or_false]at hq;rcases hq with rfl|rfl|rfl|rfl|rfl
  ·exact⟨_,h1,fun v e=>by cases (show Data.fields _=Data.cell v from e)⟩
  ·exact⟨_,h2,fun v e=>by cases (show Data.seq _ _=Data.cell v from e)⟩
  ·exact⟨_,h3,fun v e=>by cases (show Data.seq _ _=Data.cell v from e)⟩
  ·exact h4.here
  ·exact h5.here
 keep:=fun k h h' ⟨h1,h2,⟨c,d,h3⟩,h4,h5⟩ f=>⟨f z yv _ h1,f p yv _ h2,⟨c,d,f r yv _ h3⟩,h4.at fun o e=>f i yv o e,h5.at fun o e=>f j yv o e⟩
 item:=by
  intro X hP hw hK hc k zg s σ H E I hf st hg;subst hP hw hK;obtain⟨xs,ys,x,y,q1,q2,ex,ey⟩:=hg;obtain⟨aj,rv,sq,inj⟩:=I.seqK q1;obtain⟨ah,af,ac,aa⟩:=I.seqK q2;obtain⟨v1,e1,r1⟩:=rv.get ex;obtain⟨v2,e2,r2⟩:=af.get ey;obtain⟨h1,h2,⟨c,d,h3⟩,h4,h5⟩:=st;have ty:s.TypeIs (.ref z) "zip":=⟨_,h1,rfl⟩;unfold pyNext;refine bo (wpAny_attempt (km (name:=nj "__next__") ty F.slot_zip_next (lr F.slot_zip_next ty F.entry_zip_next
   (Lp D h1 h2 h3 h4 h5 sq ac (by simpa using e1) (by simpa using e2) fun g a1 a2 a3 a4 a5 kk=>cr ⟨_,rfl,?_⟩) (F.args_zip_next_1 _))))
  refine wpAny_letOwnedTupleGo_zip (s:={ s with heap:=g }) a1 fun g' z' b'=>?_;have lt:∀{q o},s.heap.get? q=some o->s.heap.objs.size≠q:=fun e=>tq (fu e);have b'':io z g g':=b';have pT:ql g' s.heap.objs.size v1 v2:=b''.extBut _ _ (lt h1) a5;have hn:=I.hok.fresh (dw s.heap.objs.size);have ag:∀q o,q∉[z,r,i,j]->s.heap.get? q=some o->g'.get? q=some o:=fun q o hq e=>by
   simp only[gw,ge,or_false,not_or]at hq;exact b''.extBut q o hq.1 (kk q o hq.1 hq.2.1 hq.2.2.1 hq.2.2.2 e)
  have I1:Inv X zg σ (upd H s.heap.objs.size (.tup [x,y])) { s with heap:=g' }:=I.turnLaid (t':=s.toks) (ch:=[z,r,i,j]) ag (fun q hq=>hf q (by
   simp only[gw,ge,or_false]at hq ⊢;rcases hq with h|h|h|h
   ·exact .inl h
   ·exact .inr (.inr (.inl h))
   ·exact .inr (.inr (.inr (.inl h)))
   ·exact .inr (.inr (.inr (.inr h))))) (dw _) ⟨⟨by show 2<=fc;decide,_,pT,rfl⟩,[v1,v2],.cons r1 (.cons r2 .nil),⟨_,pT,rfl,_,rfl⟩⟩
  have ae:∀q,q∈[z,p,r,i,j]->q≠s.heap.objs.size:=fun q hq w=>by
   simp only[gw,ge,or_false]at hq;obtain⟨o1,w1,_⟩:=h4.here;obtain⟨o2,w2,_⟩:=h5.here;rcases hq with h|h|h|h|h
   ·exact lt h1 (w.symm.trans h)
   ·exact lt h2 (w.symm.trans h)
   ·exact lt h3 (w.symm.trans h)
   ·exact lt w1 (w.symm.trans h)
   ·exact lt w2 (w.symm.trans h)
  refine⟨.ref s.heap.objs.size,_,I1,rfl,⟨_,x,y,hn,rfl,rfl,fun zs hz=>by rw[inj zs hz];exact ex,fun zs hz=>by rw[aa zs hz];exact ey⟩,⟨z',ag p _ (by simp[D.pz,D.pr,D.pi,D.pj]) h2,⟨_,_,b''.extBut r _ D.rz a2⟩,a3.at fun o e=>b''.extBut i o D.iz e,a4.at fun o e=>b''.extBut j o D.jz e⟩,fun q hq=>?_⟩;rw[zG (ae q hq)];exact(hf q hq).1
 done:=by
  intro X hP hw hK hc k zg s σ H E I hf st hg;subst hP hw hK;obtain⟨xs,ys,q1,q2,hl⟩:=hg;obtain⟨aj,rv,sq,inj⟩:=I.seqK q1;obtain⟨ah,af,ac,aa⟩:=I.seqK q2;obtain⟨h1,h2,⟨c,d,h3⟩,h4,h5⟩:=st;have l1:=rv.length;have l2:=af.length;have ty:s.TypeIs (.ref z) "zip":=⟨_,h1,rfl⟩;unfold pyNext;refine bo (wpAny_attempt (km (name:=nj "__next__") ty F.slot_zip_next (lr F.slot_zip_next ty F.entry_zip_next
   (IB (I.ok.hd hc) D h1 h2 h3 h4 h5 sq ac (hl.elim (fun h=>.inl (by simp;omega)) fun h=>.inr (by simp;omega)) fun g e kk he=>?_) (F.args_zip_next_1 _))))
  obtain⟨o,ho,ai⟩:=he;refine bo (wpAny_isInstance (T:="StopIteration") (b:=true) ⟨o,ho,ai⟩ isSubtype_stop (cr ⟨rfl,?_⟩));refine I.turnedN (t':=s.toks) (ch:=[z,r,i,j]) (fun q o hq e=>?_) fun q hq=>hf q (by
   simp only[gw,ge,or_false]at hq ⊢;rcases hq with h|h|h|h
   ·exact .inl h
   ·exact .inr (.inr (.inl h))
   ·exact .inr (.inr (.inr (.inl h)))
   ·exact .inr (.inr (.inr (.inr h))))
  simp only[gw,ge,or_false,not_or]at hq;exact kk q o hq.1 hq.2.1 hq.2.2.1 hq.2.2.2 e
 self:=fun _ _ _ _ _ st h=>wpAny_pyIter_zip st.1 h
theorem nne{a b:Nat}(h:a<b\/b<a):(show Addr from a)≠(show Addr from b):=fun e=>by
 have e':a=b:=e;omega
theorem N8(N a b:Nat)(ha:a<N)(hb:b<N):ZAp (N+4) (N+2) (N+3) N (N+1) a b:=by
 constructor<;>exact nne yw
theorem Jn(N q:Nat)(hq:q=N+4\/q=N+2\/q=N+3\/q=N\/q=N+1):N<=q:=yw
section
variable {X:Cx}{elts:List Expr}{n:Nat}{tpos:Pos}
theorem Hk:jc "zip" = some (.type "zip"):=by decide +kernel
def D6(K:cq)(ta:TA):TI:=fun σ H R=>ta σ H fun vs H1=>∃a b t u,vs=[.ref a,.ref b]/\(∃xs,SqV K t H1 a xs)/\(∃ys,SqV K u H1 b ys)/\R (Itz (SqV K t) (SqV K u) a b) H1
theorem Ks{e1 e2:Expr}{ta:TA}{p pos:Pos}(hg:Gl X "zip")(hm:X.mg "zip" = none)(ha:PA X [e1,e2] ta)(hs:fk [e1,e2] X.env=[(false,eval e1 X.env),(false,eval e2 X.env)]:=by rfl)(z:fk [e2] X.env=[(false,eval e2 X.env)]:=by rfl):
  PI X (.Tuple elts n tpos) (.Call (.Name "zip" p) [e1,e2] [] pos) (D6 X.K ta):=by
 intro zg s σ H R I h;refine Call_ (iD I hg hm Hk (kr (thn (ha pos zg s σ H _ I h) fun us s1 ⟨vs,H1,I1,r1,q1⟩=>?_) (by rw[hs,z]) (by rw[z];rfl)));obtain⟨a,b,t,u,e,⟨xs,q1⟩,⟨ys,q2⟩,q⟩:=q1;subst e;cases r1 with
 |cons r rr=>
  cases rr with
  |cons r' rr=>
   cases rr;cases r;cases r';obtain⟨ae,rv,sq,_⟩:=I1.seqK q1;obtain⟨ac,af,aa,_⟩:=I1.seqK q2;refine IN sq aa fun g h1 h2 h3 h4 h5 k=>?_;refine wpAny_pyIter_zip (s:={ s1 with heap:=g }) h1 ?_
   have I2:Inv X zg σ H1 { s1 with heap:=g }:=I1.kept (t':=s1.toks) k;obtain⟨oa,fa⟩:=sq.here;obtain⟨ob,fb⟩:=aa.here;have la:=fu fa;have lb:=fu fb;have D:ZAp (s1.heap.objs.size+4) (s1.heap.objs.size+2) (s1.heap.objs.size+3) s1.heap.objs.size (s1.heap.objs.size+1) a b:=N8 _ _ _ la lb;refine⟨_,[s1.heap.objs.size+4,s1.heap.objs.size+2,s1.heap.objs.size+3,s1.heap.objs.size,s1.heap.objs.size+1],_,_,H1,rfl,I2,M8 t u _ _ _ _ _ a b D,⟨h1,h2,⟨_,_,h3⟩,h4,h5⟩,fun q hq=>?_,q⟩;have hl:s1.heap.objs.size<=q:=by
    simp only[gw,ge,or_false]at hq;exact Jn _ _ hq
   exact I1.fpOk hl (I1.hok.fresh hl)
end
def cJ:List bq->List bq->List bq
 |d::ds,e::es=>.tuple [d,e]::cJ ds es
 |_,_=>[]
theorem xW:∀(ds es:List bq) (k:Nat) (x:bq),(cJ ds es)[k]?=some x->∃d e,ds[k]?=some d/\es[k]?=some e/\x=.tuple [d,e]
 | [],_,_,_,h=>by simp[cJ]at h
 |_::_,[],_,_,h=>by simp[cJ]at h
 |d::ds,e::es,0,x,h=>by
  have e':PyData.tuple [d,e]=x:=by simpa[cJ]using h
  exact⟨d,e,rfl,rfl,e'.symm⟩
 |d::ds,e::es,k+1,x,h=>by
  obtain⟨d',e',h1,h2,h3⟩:=xW ds es k x (by simpa[cJ]using h);exact⟨d',e',by simpa using h1,by simpa using h2,h3⟩
theorem Aa:∀(ds es:List bq),(cJ ds es).length=min ds.length es.length
 | [],_=>by simp[cJ]
 |_::_,[]=>by simp[cJ]
 |d::ds,e::es=>by simp[cJ,Aa ds es];try omega
theorem FA{α β:Type}(f:α->bq)(g:β->bq):∀(xs:List α) (ys:List β),cJ (xs.map f) (ys.map g)=(xs.zip ys).map fun q=>.tuple [f q.1,g q.2]
 | [],_=>by simp[cJ]
 |_::_,[]=>by simp[cJ]
 |x::xs,y::ys=>by simp[cJ,FA f g xs ys]
def j7(a:DA):DI:=fun δ S R=>a δ S fun xs S1=>arg2 xs fun x y=>∃ds,dW x=some ds/\∃es,dW y=some es/\R (cJ ds es) S1
theorem EO{K:cq}{h o:List Addr}{H:Hp}{x:XV}{v:V}{ds:List bq}(e:dW x=some ds)(q:HasX h o H x v):∃t a ws,v=.ref a/\HasL (vx h o H) ds ws/\∀{o2 H2},ExH h o H o2 H2->SqV K t H2 a ws:=by
 unfold dW at e;split at e
 ·cases e;obtain⟨a,ws,rfl,ea,l⟩:=eK.mp (show Has (vx h o H) (.list ds) v from q);exact⟨false,a,ws,rfl,l,fun e2=>(SqL.of (zW _ _ (e2.vx _ _ ea)):SqL K _ a ws)⟩
 ·cases e;obtain⟨a,ws,rfl,ea,l⟩:=d8.mp (show Has (vx h o H) (.tuple ds) v from q);exact⟨true,a,ws,rfl,l,fun e2=>(SqT.of (zW _ _ (e2.vx _ _ ea)):SqT K _ a ws)⟩
 ·cases e
theorem Gc{K:cq}{ta:TA}{da:DA}(ha:RA ta da):RI (D6 K ta) (j7 da):=fun h o H δ σ S R Q he hs q c=>
 ha h o H δ σ S _ _ he hs q fun o1 H1 S1 xs vs e1 s1 x1 d0=>by
  obtain⟨x,y,rfl,ds,hd,es,af,d1⟩:=qD d0;obtain⟨v,u,rfl,hv,hu⟩:=hxs2 x1;obtain⟨t,a,ws,rfl,l,k1⟩:=EO (K:=K) hd hv;obtain⟨t',b,zs,rfl,l',k2⟩:=EO (K:=K) af hu;have hl:=l.length;have ag:=l'.length;refine⟨a,b,t,t',rfl,⟨ws,k1 ExH.refl⟩,⟨zs,k2 ExH.refl⟩,c o1 H1 S1 _ _ e1 s1 ⟨fun i o2 H2 e2 hi=>⟨ws,zs,k1 e2,k2 e2,by rw[Aa]at hi;omega⟩,fun i d o2 H2 e2 hi=>?_,fun i d o2 H2 x H3 S2 e2 s2 hi y=>?_⟩ d1⟩
  ·obtain⟨d',e',h1,h2,rfl⟩:=xW ds es i d hi;obtain⟨u1,z,_⟩:=l.get h1;obtain⟨u2,aa,_⟩:=l'.get h2;exact⟨ws,zs,u1,u2,k1 e2,k2 e2,z,aa⟩
  ·obtain⟨d',e',h1,h2,rfl⟩:=xW ds es i d hi;obtain⟨u1,z,ac⟩:=l.get h1;obtain⟨u2,aa,ae⟩:=l'.get h2;obtain⟨p,v,u,hp,rfl,rfl,y1,y2⟩:=y;have f1:=y1 ws (k1 e2);have f2:=y2 zs (k2 e2);rw[z]at f1;rw[aa]at f2;cases f1;cases f2;exact⟨Same.laid hp,d8.mpr ⟨p,_,rfl,s2.laid hp,zu.mpr ⟨_,_,rfl,(ac.mono e2.vx).mono (gE (Same.laid hp)),zu.mpr ⟨_,_,rfl,(ae.mono e2.vx).mono (gE (Same.laid hp)),zK.mpr rfl⟩⟩⟩⟩
end
section
open Sem (wp)
section
variable {prog:fg}{w:gg}{A:gf}{R:Result->bu->Prop}{I:Addr}{fp wr:List Addr}{n:Nat}{P:Nat->bn->Prop}{St:Nat->Heap->Prop}
def CmpH(prog:fg)(w:gg)(A:gf)(g:Heap)(z:List Addr)(P:Nat->bn->Prop)(bt:Nat->Nat->Bool):Prop:=
 ∀i j x y (s:bu) (Q:bn->bu->Prop) (E:bn->bu->Prop),(∀b o,b∉z->g.get? b=some o->s.heap.get? b=some o)->P i x->P j y->Q (.bool (bt i j)) s->cv (model prog w) A (richCompare .Lt x y) Q E s
theorem NL(W:Walks prog w A.in1 I fp wr n P St)(bt:Nat->Nat->Bool){g:Heap}(S:Addr)(cm:CmpH prog w A.in1 g (S::wr) P bt)(nS:S∉fp):∀(d j:Nat) (s:bu) (aa:bn) (c:Nat),n=j+1+d->(∀b o,b∉S::wr->g.get? b=some o->s.heap.get? b=some o)->St (j+1) s.heap->P (px bt j) aa ->
   s.heap.get? S=some { cls:=.type "list",dict:=none,data:=.seq #[aa,aa] c,slots:=#[] } ->
   (∀v h' tk,P (px bt (n-1)) v->(∀b o,b∉S::wr->s.heap.get? b=some o->h'.get? b=some o)->R (.ok (.ret v)) { s with heap:=h',toks:=tk })->tw (model prog w) A (.builtin "min.loop" ⟨[.ref I,.none,.ref S],[]⟩) R s:=by
 have nw:S∉wr:=fun m=>nS (W.sub _ m);have nm:(toString "min" ++ toString ".loop":String) = "min.loop":=by decide
 intro d;induction d with
 |zero=>
  intro j s aa c hd kg st hb hS fin;have hj:j+1=n:=yw
  refine qu F.entry_min_loop ?_;rw[pf oh _];show cv _ A.in1 (seqItems? (.ref S) >>= _) _ _ s;refine bo (kh hS rfl ?_);show cv _ A.in1 (tryCatch (pyNext (.ref I)) _ >>= _) _ _ s;refine bo (wpAny_tryCatch (W.done s _ _ (by rw[<- hj];exact st) fun h1 t1 k1=>?_));have ac:=k1 S _ nw hS;show cv _ A.in1 (updateSeq S (fun _=>#[]) >>= _) _ _ _;refine bo (wpAny_updateSeq ac rfl (bo (tm (cr (fin aa _ t1 (by rw[<- hj];exact hb) fun b o hn e=>?_)))));rw[gw,not_or]at hn;exact(jh _ _ (im hn.1)).trans (k1 b o hn.2 e)
 |succ d ih=>
  intro j s aa c hd kg st hb hS fin;refine qu F.entry_min_loop ?_;rw[pf oh _];show cv _ A.in1 (seqItems? (.ref S) >>= _) _ _ s;refine bo (kh hS rfl ?_);show cv _ A.in1 (tryCatch (pyNext (.ref I)) _ >>= _) _ _ s;refine bo (wpAny_tryCatch (W.item (j+1) s _ _ yw st fun x h1 t1 hx ae k1=>?_));have ac:=k1 S _ nw hS;have af:∀b o,b∉S::wr->g.get? b=some o->h1.get? b=some o:=fun b o hn e=>k1 b o (fun m=>hn (cz _ m)) (kg b o hn e);show cv _ A.in1 (tryCatch (holding [x,x] (richCompare .Lt x aa >>= _)) _ >>= _) _ _ _;refine bo (wpAny_tryCatch (ku (bo (cm (j+1) (px bt j) x aa _ _ _ af hx hb (bo (ku (jw (bo (tm (cr ?_)))))))))) ;cases ht:bt (j+1) (px bt j)with
  |true=>
   simp only[if_true];refine bo (wpAny_updateSeq ac rfl (bo (tm ?_)));rw[nm];have keep:∀b o,b∉S::wr->s.heap.get? b=some o->(h1.update S (jv fun _=>#[x,x])).get? b=some o:=fun b o hn e=>by
    rw[gw,not_or]at hn;exact(jh _ _ (im hn.1)).trans (k1 b o hn.2 e)
   refine cr ⟨qw oh _,ih (j+1) _ x _ yw (fun b o hn e=>keep b o hn (kg b o hn e)) (W.frame _ _ _ ae fun b m o e=>?_) (by simp only[px,ht,if_true];exact hx) (ls _ ac rfl) fun v h2 t2 hv k2=>fin v h2 t2 hv fun b o hn e=>k2 b o hn (keep b o hn e)⟩;exact(jh _ _ (fun z:S=b=>nS (by rw[z];exact m))).trans e
  |false=>
   simp only[fm,if_false];refine bo (tm ?_);rw[nm];exact cr ⟨qw oh _,ih (j+1) _ aa c yw af ae (by simp only[px,ht,fm,if_false];exact hb) ac fun v h2 t2 hv k2=>fin v h2 t2 hv fun b o hn e=>k2 b o hn (k1 b o (fun m=>hn (cz _ m)) e)⟩
theorem Jq(W:Walks prog w A.in1 I fp wr n P St)(bt:Nat->Nat->Bool)(S:Addr)(nS:S∉fp)(hn:0<n){s:bu}{c:Nat}(cm:CmpH prog w A.in1 s.heap (S::wr) P bt)(st:St 0 s.heap)(hS:s.heap.get? S=some { cls:=.type "list",dict:=none,data:=.seq #[] c,slots:=#[] })
  (fin:∀v h' tk,P (px bt (n-1)) v->(∀b o,b∉S::wr->s.heap.get? b=some o->h'.get? b=some o)->R (.ok (.ret v)) { s with heap:=h',toks:=tk }):tw (model prog w) A (.builtin "min.loop" ⟨[.ref I,.none,.ref S],[]⟩) R s:=by
 have nw:S∉wr:=fun m=>nS (W.sub _ m);have nm:(toString "min" ++ toString ".loop":String) = "min.loop":=by decide
 refine qu F.entry_min_loop ?_;rw[pf oh _];show cv _ A.in1 (seqItems? (.ref S) >>= _) _ _ s;refine bo (kh hS rfl ?_);show cv _ A.in1 (tryCatch (pyNext (.ref I)) _ >>= _) _ _ s;refine bo (wpAny_tryCatch (W.item 0 s _ _ hn st fun x h1 t1 hx ac k1=>?_));have aa:=k1 S _ nw hS;show cv _ A.in1 (updateSeq S (fun _=>#[x,x]) >>= _) _ _ _;refine bo (wpAny_updateSeq aa rfl ?_);rw[nm];have keep:∀b o,b∉S::wr->s.heap.get? b=some o->(h1.update S (jv fun _=>#[x,x])).get? b=some o:=fun b o hn e=>by
  rw[gw,not_or]at hn;exact(jh _ _ (im hn.1)).trans (k1 b o hn.2 e)
 refine cr ⟨qw oh _,NL W bt S cm nS (n-1) 0 _ x _ yw keep (W.frame _ _ _ ac fun b m o e=>?_) hx (ls _ aa rfl) fun v h2 t2 hv k2=>fin v h2 t2 hv fun b o hn e=>k2 b o hn (keep b o hn e)⟩;exact(jh _ _ (fun z:S=b=>nS (by rw[z];exact m))).trans e
end
section
variable {prog:fg}{w:gg}{A:gf}{E:bn->bu->Prop}{s:bu}
theorem Kz{l:Addr}{z:Array bn}{Q:bn->bu->Prop}(hh:A.handled=none)(hl:s.heap.IsList l z)(ac:0<z.size)(bt:Nat->Nat->Bool)
  (cm:∀i j x y (s':bu) (Q:bn->bu->Prop) (E:bn->bu->Prop),(∀b o,s.heap.get? b=some o->s'.heap.get? b=some o)->z[i]?=some x->z[j]?=some y->Q (.bool (bt i j)) s'->cv (model prog w) A.in1 (richCompare .Lt x y) Q E s')
  (fin:∀v h' tk,z[px bt (z.size-1)]?=some v->(∀b o,s.heap.get? b=some o->h'.get? b=some o)->Q v { s with heap:=h',toks:=tk }):cv (model prog w) A (call (.builtin "min") [.ref l]) Q E s:=by
 have nm:(toString "min" ++ toString ".loop":String) = "min.loop":=by decide
 have lt:l<s.heap.objs.size:=by obtain⟨o,e,_⟩:=hl;exact fu e
 refine call_function_tree F.kind_min F.plain_min F.entry_min (F.args_min1 _) ?_;show cv _ A.in1 (Builtin.Builtins.bindParams "min" ["key","default"] 0 ⟨[],[]⟩ >>= _) _ _ s;refine bo (wpAny_of_eq (show Builtin.Builtins.bindParams "min" ["key","default"] 0 ⟨[],[]⟩=pure [none,none]from rfl) (bo (cr (bo (pb hl ?_)))));refine bo (jx ?_);rw[nm];have z1:(s.heap.push { cls:=.type "list_iterator",data:=.fields #[.ref l,.int 0 0] }).objs.size=s.heap.objs.size+1:=size_push ..;have nS:(s.heap.push { cls:=.type "list_iterator",data:=.fields #[.ref l,.int 0 0] }).objs.size∉[s.heap.objs.size,l]:=by
  rw[z1];simp only[gw,ge,or_false,not_or];exact⟨Nat.succ_ne_self _,tq (Nat.lt_succ_of_lt lt)⟩
 have up:∀b o,s.heap.get? b=some o->((s.heap.push { cls:=.type "list_iterator",data:=.fields #[.ref l,.int 0 0] }).push { cls:=.type "list",data:=.seq #[] }).get? b=some o:=fun b o e=>bw _ (bw _ e);have aa:∀b o,s.heap.get? b=some o->b∉(s.heap.push { cls:=.type "list_iterator",data:=.fields #[.ref l,.int 0 0] }).objs.size :: [s.heap.objs.size]:=fun b o e=>by
  rw[z1];simp only[gw,ge,or_false,not_or];have:=fu e;exact⟨ir (Nat.lt_succ_of_lt this),ir this⟩
 refine cr ⟨qw oh _,Jq (Walks.list (A:=A.in1) hh _ l (ir lt) z) bt _ nS ac (fun i j x y s' Q' E' k hi hj q=>cm i j x y s' Q' E' (fun b o e=>k b o (aa b o e) (up b o e)) hi hj q) ?_ (fj _ rfl) fun v h' tk hv k=>fin v h' tk hv fun b o e=>k b o (aa b o e) (up b o e)⟩;exact⟨⟨_,bw _ (fj _ rfl),rfl,rfl⟩,(hl.push _).push _⟩
end
def Dw(K:cq):List V->Hp->VK->Prop:=fun xs H Q=>∃(p:Addr) (vs:List V) (nss:List (List Int)),xs=[.ref p]/\SqL K H p vs/\vs≠[]/\Paired (fun(v:V) (ns:List Int)=>∃a,v=.ref a/\H a=some (.tup (ns.map V.int))) vs nss /\
 ∀(i:Nat) v ns,vs[i]?=some v->nss[i]?=some ns->(∀ms∈nss,HT.lexLt ms ns=false)->Q v H
theorem Ap{ns:Nat->List Int}(tr:∀a b c:List Int,HT.lexLt a b=false->HT.lexLt b c=false->HT.lexLt a c=false)(as:∀a b:List Int,HT.lexLt a b=true->HT.lexLt b a=false):∀k,px (fun i j=>HT.lexLt (ns i) (ns j)) k<=k/\∀j,j<=k->HT.lexLt (ns j) (ns (px (fun i j=>HT.lexLt (ns i) (ns j)) k))=false
 | 0=>⟨dw _,fun j hj=>by
   have:j=0:=yw
   subst this;show HT.lexLt (ns 0) (ns 0)=false;cases h:HT.lexLt (ns 0) (ns 0)with
   |false=>rfl
   |true=>have:=as _ _ h;rw[h]at this;cases this⟩
 |k+1=>by
  obtain⟨h1,h2⟩:=Ap tr as (ns:=ns) k;simp only[px];by_cases hb:HT.lexLt (ns (k+1)) (ns (px (fun i j=>HT.lexLt (ns i) (ns j)) k))=true
  ·rw[cp hb];refine⟨dw _,fun j hj=>?_⟩;by_cases e:j=k+1
   ·subst e;cases h:HT.lexLt (ns (k+1)) (ns (k+1))with
    |false=>rfl
    |true=>have:=as _ _ h;rw[h]at this;cases this
   ·exact tr _ _ _ (h2 j yw) (as _ _ hb)
  ·rw[cf hb];refine⟨yw,fun j hj=>?_⟩;by_cases e:j=k+1
   ·subst e;exact Bool.eq_false_iff.mpr hb
   ·exact h2 j yw
theorem Ch:∀a b:List Int,HT.lexLt a b=true->HT.lexLt b a=false
 | [],[],h=>by cases h
 | [],y::ys,_=>rfl
 |x::xs,[],h=>by cases h
 |x::xs,y::ys,h=>by
  rw[HT.lexLt_cons]at h ⊢;by_cases e:x=y
  ·subst e;rw[cp rfl]at h ⊢;exact Ch xs ys h
  ·rw[cf e]at h;rw[cf (im e)];simp only[decide_eq_true_eq]at h;simp only[decide_eq_false_iff_not];omega
theorem BZ:∀a b c:List Int,HT.lexLt a b=false->HT.lexLt b c=false->HT.lexLt a c=false
 |_,_,[],_,_=>by rename_i a b _ _;cases a<;>rfl
 | [],[],z::zs,_,h=>by cases h
 | [],y::ys,z::zs,h,_=>by cases h
 |x::xs,[],z::zs,_,h=>by cases h
 |x::xs,y::ys,z::zs,h,k=>by
  rw[HT.lexLt_cons]at h k ⊢;by_cases e:x=y
  ·subst e;rw[cp rfl]at h;by_cases e2:x=z
   ·subst e2;rw[cp rfl]at k ⊢;exact BZ xs ys zs h k
   ·rw[cf e2]at k ⊢;exact k
  ·rw[cf e]at h;by_cases e2:y=z
   ·subst e2;rw[cf e];exact h
   ·rw[cf e2]at k;simp only[decide_eq_false_iff_not]at h k;rw[cf yw];simp only[decide_eq_false_iff_not];omega
theorem GY{X:Cx}(hc:X.calm=true)(hu:X.A.units+64<rf):CallR X (.builtin "min") (Dw X.K):=by
 intro zg s σ H xs us Q I r h;obtain⟨p,vs,z,rfl,hq,af,pr,q⟩:=h;obtain⟨u,rfl,rx⟩:=vals1 r;cases (show u=fh p from rx);obtain⟨aa,rv,pl,_⟩:=I.list hq;have hl:=rv.length;have ai:=Paired.length pr;have hsz:0<aa.toArray.size:=by
  rw[fx,<- hl];exact List.length_pos_iff.mpr af
 have ac:∀(i:Nat) x,aa.toArray[i]?=some x->∃(v:V) (ns:List Int),vs[i]?=some v/\z[i]?=some ns/\RelV v x/\∃a,v=.ref a/\H a=some (.tup (ns.map V.int)):=fun i x hx=>by
  have hi:i<aa.length:=by
   have:=(Array.getElem?_eq_some_iff.mp hx).1;simpa using this
  have e1:vs[i]?=some vs[i]:=cw yw;have e2:z[i]?=some z[i]:=cw yw;obtain⟨x',ae,rr⟩:=rv.get e1;have:x=x':=by
   have h2:aa[i]?=some x:=by simpa using hx
   rw[ae]at h2;exact(gi h2).symm
  subst this;have pg:∀{a:List V}{b:List (List Int)}{i:Nat}{v:V}{ns:List Int},Paired (fun(v:V) (ns:List Int)=>∃a,v=.ref a/\H a=some (.tup (ns.map V.int))) a b->a[i]?=some v->b[i]?=some ns->∃a,v=.ref a/\H a=some (.tup (ns.map V.int)):=by
   intro a b i v ns pq;induction pq generalizing i with
   |nil=>intro h;simp at h
   |cons r0 _ ih=>
    cases i with
    |zero=>
     intro h1 h2;rw[qj]at h1 h2;cases h1;cases h2;exact r0
    |succ i=>
     intro h1 h2;rw[om]at h1 h2;exact ih h1 h2
  exact⟨_,_,e1,e2,rr,pg pr e1 e2⟩
 refine Kz (I.ok.hd hc) pl.isList hsz (fun i j=>HT.lexLt (z.getD i []) (z.getD j [])) (fun i j x y s' Q' E' k hx hy q'=>?_) fun v h' tk hv k=>?_
 ·obtain⟨v1,n1,_,f1,r1,a1,rfl,e1⟩:=ac i x hx;obtain⟨v2,n2,_,f2,r2,a2,rfl,e2⟩:=ac j y hy;cases r1;cases r2;obtain⟨_,ah,w1,t1⟩:=(show ObjOk X.prog X.w H s.heap a1 (.tup (n1.map V.int))from I.hok a1 _ e1);obtain⟨_,ag,w2,t2⟩:=(show ObjOk X.prog X.w H s.heap a2 (.tup (n2.map V.int))from I.hok a2 _ e2);have g1:z.getD i []=n1:=by rw[gk,f1];rfl
  have g2:z.getD j []=n2:=by rw[gk,f2];rfl
  rw[g1,g2]at q';obtain⟨o1,b1,c1⟩:=t1;obtain⟨o2,b2,c2⟩:=t2;exact HT.lt_tupInts ⟨o1,k _ _ b1,c1⟩ ⟨o2,k _ _ b2,c2⟩ (kN w1) (kN w2) (by show X.A.units+1<rf;omega) q'
 ·obtain⟨v1,n1,e1,f1,r1,_⟩:=ac _ v hv;obtain⟨_,h2⟩:=Ap (ns:=fun i=>z.getD i []) BZ Ch (aa.toArray.size-1);refine⟨v1,H,I.kept (t':=tk) k,r1,q _ v1 n1 e1 f1 fun ms hm=>?_⟩;obtain⟨j,hj⟩:=mem_iff_getElem?.mp hm;have aj:=(List.getElem?_eq_some_iff.mp hj).1;have:=h2 j (by rw[fx];omega);rw[show z.getD j []=ms by rw[gk,hj];rfl]at this;rw[show z.getD (px (fun i j=>HT.lexLt (z.getD i []) (z.getD j [])) (aa.toArray.size-1)) []=n1 by rw[gk,f1];rfl]at this;exact this
def A9(K:cq):List V->Hp->VK->Prop:=fun xs H Q=>vU K xs H Q\/Dw K xs H Q
theorem F9{X:Cx}(hc:X.calm=true)(hu:X.A.units+64<rf):CallR X (.builtin "min") (A9 X.K):=(Le hc).or (GY hc hu)
def gN(ns:List Int):bq:=.tuple (ns.map cu)
def lW:List XV->Sto->RX->Prop:=fun xs S R=>FD xs S R\/arg1 xs fun x=>∃ds,dX S x=some ds/\∃nss:List (List Int),ds=nss.map gN/\nss≠[]/\∀m,m∈nss->(∀a,a∈nss->HT.lexLt a m=false)->R (.d (gN m)) S
theorem JD{K:cq}:RC (A9 K) lW:=fun h o H S xs vs R Q hs hx q c=>by
 rcases q with q|q
 ·exact .inl (LL h o H S xs vs R Q hs hx q c)
 ·obtain⟨x,rfl,ds,hd,aa,rfl,hn,q1⟩:=cQ q;obtain⟨v,rfl,ac⟩:=hxs1 hx;obtain⟨a,ws,rfl,ea,l⟩:=b9 hs hd ac;have hl:=l.length;refine .inr ⟨a,ws,aa,rfl,.of ea,fun z=>hn ?_,?_,fun i v ns e1 e2 hm=>?_⟩
  ·subst z;rw[gh]at hl;exact jd hl.symm
  ·have go:∀{aa:List (List Int)}{ws:List V},HasL (vx h o H) (aa.map gN) ws->Paired (fun(v:V) (ns:List Int)=>∃a,v=.ref a/\H a=some (.tup (ns.map V.int))) ws aa:=by
    intro aa;induction aa with
    |nil=>intro ws l;rw[zK.mp l];exact .nil
    |cons n aa ih=>
     intro ws l;obtain⟨v,r,rfl,h1,l2⟩:=zu.mp l;obtain⟨b,us,rfl,eb,lb⟩:=d8.mp h1;rw[nH lb]at eb;exact .cons ⟨b,rfl,zW _ _ eb⟩ (ih l2)
   exact go l
  ·obtain⟨v',ev,hv⟩:=l.get (show (aa.map gN)[i]?=some (gN ns) by rw[iw,e2];rfl);rw[e1]at ev;cases ev;exact c o H S (.d (gN ns)) v Ex.refl hs hv (q1 ns (cb e2) hm)
section
variable {S:Sto}{P:Sto->List bq->Prop}{a b c d:List bq}{x:List bq}
theorem kZ{S0:Sto}:(∃T ds,S0++[x]=T++[ds]/\P T ds)↔P S0 x:=by
 constructor
 ·rintro⟨T,ds,e,q⟩;obtain⟨rfl,e2⟩:=List.append_inj' e rfl;cases e2;exact q
 ·exact fun q=>⟨S0,x,rfl,q⟩
theorem nN:(∃T ds,[a]=T++[ds]/\P T ds)↔P [] a:=kZ (S0:=[])
theorem nG:(∃T ds,[a,b,c]=T++[ds]/\P T ds)↔P [a,b] c:=kZ (S0:=[a,b])
end
section
variable {α:Type}{n:Nat}{g:DG}{tt:DT}{te:DE}{fin:Sto->Prop}{S0:Sto}{caps:XE}
theorem D9{h:α->bq}{f:α->bq}(P:XE->Prop)(hn:S0.length=n)(l:List α)(τ:XE)(hP:P τ)(hl:l.length<=1000)
  (el:∀x∈l,∀ τ acc (R:XE->RX),P τ->(∀ τ',P τ'->R τ' (.d (f x)) (S0++[acc]))->g (.d (h x)) τ (S0++[acc]) fun τ1 S1=>te τ1 S1 (R τ1)) (hf:fin (S0++[l.map f])):bO n g bA te fin (l.map h) τ (S0++[[]]):=by
 have go:∀(l:List α) (acc:List bq) (τ:XE),P τ->acc.length+l.length<=1000->(∀x∈l,∀ τ acc (R:XE->RX),P τ->(∀ τ',P τ'->R τ' (.d (f x)) (S0++[acc]))->g (.d (h x)) τ (S0++[acc]) fun τ1 S1=>te τ1 S1 (R τ1)) ->
   fin (S0++[acc++l.map f])->bO n g bA te fin (l.map h) τ (S0++[acc]):=by
  intro l;induction l with
  |nil=>intro acc τ _ _ _ h;rw[map_nil,jl]at h;exact h
  |cons x l ih=>
   intro acc τ hP hl el hh;show g (.d (h x)) τ (S0++[acc]) fun τ1 S1=>bA τ1 S1 fun b S2=>if b=true then te τ1 S2 fun x S3=>asD x fun e=>∃acc,S3[n]?=some acc/\acc.length<1000/\bO n g bA te fin (l.map h) τ1 (S3.set n (acc++[e]))else bO n g bA te fin (l.map h) τ1 S2
   simp only[bA,↓reduceIte];rw[fy]at hl;refine el x fq τ acc (fun τ1 x S3=>asD x fun e=>∃acc,S3[n]?=some acc/\acc.length<1000/\bO n g bA te fin (l.map h) τ1 (S3.set n (acc++[e]))) hP fun τ' z=>?_;refine⟨acc,by rw[<- hn,dh],yw,?_⟩;rw[vY hn];refine ih (acc++[f x]) τ' z (by rw[gu,jt];omega) (fun e m=>el e (cz _ m)) ?_;rw[ig];exact hh
 exact go l [] τ hP (by simpa using hl) el (by simpa using hf)
theorem cmp1{h:α->bq}(f:α->bq)(hn:S0.length=n)(l:List α){u:Option XV}(hl:l.length<=1000)
  (el:∀x∈l,∀(u:Option XV) acc (R:XE->RX),(∀u',R (u'::caps) (.d (f x)) (S0++[acc]))->g (.d (h x)) (u::caps) (S0++[acc]) fun τ1 S1=>te τ1 S1 (R τ1)) (hf:fin (S0++[l.map f])):bO n g bA te fin (l.map h) (u::caps) (S0++[[]]):=
 D9 (fun τ=>∃u,τ=u::caps) hn l _ ⟨u,rfl⟩ hl (fun x m τ acc R ⟨u,e⟩ k=>by subst e;exact el x m u acc R fun u'=>k _ ⟨u',rfl⟩) hf
theorem cmp2{h:α->bq}(f:α->bq)(hn:S0.length=n)(l:List α){u v:Option XV}(hl:l.length<=1000)
  (el:∀x∈l,∀(u v:Option XV) acc (R:XE->RX),(∀u' v',R (u'::v'::caps) (.d (f x)) (S0++[acc]))->g (.d (h x)) (u::v::caps) (S0++[acc]) fun τ1 S1=>te τ1 S1 (R τ1)) (hf:fin (S0++[l.map f])):bO n g bA te fin (l.map h) (u::v::caps) (S0++[[]]):=
 D9 (fun τ=>∃u v,τ=u::v::caps) hn l _ ⟨u,v,rfl⟩ hl (fun x m τ acc R ⟨u,v,e⟩ k=>by subst e;exact el x m u v acc R fun u' v'=>k _ ⟨u',v',rfl⟩) hf
theorem Kt{h:α->bq}{f:α->bq}{p:α->Bool}(P:XE->Prop)(hn:S0.length=n)(l:List α)(τ:XE)(hP:P τ)(hl:l.length<=1000)
  (el:∀x∈l,∀ τ acc (R:XE->Bool->Sto->Prop),P τ->(∀ τ',P τ'->(p x=true->∀T:RX,T (.d (f x)) (S0++[acc])->te τ' (S0++[acc]) T)->R τ' (p x) (S0++[acc]))->g (.d (h x)) τ (S0++[acc]) fun τ1 S1=>tt τ1 S1 (R τ1))
  (hf:fin (S0++[(l.filter p).map f])):bO n g tt te fin (l.map h) τ (S0++[[]]):=by
 have go:∀(l:List α) (acc:List bq) (τ:XE),P τ->acc.length+l.length<=1000->(∀x∈l,∀ τ acc (R:XE->Bool->Sto->Prop),P τ->(∀ τ',P τ'->(p x=true->∀T:RX,T (.d (f x)) (S0++[acc])->te τ' (S0++[acc]) T)->R τ' (p x) (S0++[acc]))->g (.d (h x)) τ (S0++[acc]) fun τ1 S1=>tt τ1 S1 (R τ1)) ->
   fin (S0++[acc++(l.filter p).map f])->bO n g tt te fin (l.map h) τ (S0++[acc]):=by
  intro l;induction l with
  |nil=>intro acc τ _ _ _ h;rw[List.filter_nil,map_nil,jl]at h;exact h
  |cons x l ih=>
   intro acc τ hP hl el hh;show g (.d (h x)) τ (S0++[acc]) fun τ1 S1=>tt τ1 S1 fun b S2=>if b=true then te τ1 S2 fun x S3=>asD x fun e=>∃acc,S3[n]?=some acc/\acc.length<1000/\bO n g tt te fin (l.map h) τ1 (S3.set n (acc++[e]))else bO n g tt te fin (l.map h) τ1 S2
   rw[fy]at hl;refine el x fq τ acc (fun τ1 b S2=>if b=true then te τ1 S2 fun x S3=>asD x fun e=>∃acc,S3[n]?=some acc/\acc.length<1000/\bO n g tt te fin (l.map h) τ1 (S3.set n (acc++[e]))else bO n g tt te fin (l.map h) τ1 S2) hP fun τ' z ev=>?_;cases hp:p x with
   |false=>
    rw[List.filter_cons_of_neg (by rw[hp];exact jk)]at hh;exact gD (ih acc τ' z yw (fun e m=>el e (cz _ m)) hh)
   |true=>
    rw[List.filter_cons_of_pos hp,gc]at hh;refine g9 (ev hp _ ⟨acc,by rw[<- hn,dh],yw,?_⟩);rw[vY hn];exact ih (acc++[f x]) τ' z (by rw[gu,jt];omega) (fun e m=>el e (cz _ m)) (by rw[ig];exact hh)
 exact go l [] τ hP (by simpa using hl) el (by simpa using hf)
theorem cmf2{h:α->bq}(f:α->bq)(p:α->Bool)(hn:S0.length=n)(l:List α){u v:Option XV}(hl:l.length<=1000)
  (el:∀x∈l,∀(u v:Option XV) acc (R:XE->Bool->Sto->Prop),(∀u' v',(p x=true->∀T:RX,T (.d (f x)) (S0++[acc])->te (u'::v'::caps) (S0++[acc]) T)->R (u'::v'::caps) (p x) (S0++[acc]))->g (.d (h x)) (u::v::caps) (S0++[acc]) fun τ1 S1=>tt τ1 S1 (R τ1)) (hf:fin (S0++[(l.filter p).map f])):bO n g tt te fin (l.map h) (u::v::caps) (S0++[[]]):=
 Kt (fun τ=>∃u v,τ=u::v::caps) hn l _ ⟨u,v,rfl⟩ hl (fun x m τ acc R ⟨u,v,e⟩ k=>by subst e;exact el x m u v acc R fun u' v' hh=>k _ ⟨u',v',rfl⟩ hh) hf
end
end
section
@[irreducible] def QSs (X:Cx) (st:List Stmt) (t:TS):Prop:=PSs X st t
theorem QSs.out{X:Cx}{st:List Stmt}{t:TS}(h:QSs X st t):PSs X st t:=by unfold QSs at h;exact h
theorem QSs.mk{X:Cx}{st:List Stmt}{t:TS}(h:PSs X st t):QSs X st t:=by unfold QSs;exact h
theorem Ga{X:Cx}{b:List Stmt}{R:TS->Prop}(h:∃t,QSs X b t/\R t):∃t,PSs X b t/\R t:=let ⟨t,h1,h2⟩:=h;⟨t,h1.out,h2⟩
theorem Jw{X:Cx}{st:Stmt}{rest:List Stmt}{t u:TS}(h1:PS X st t)(h2:QSs X rest u):QSs X (st::rest) (dP t u):=QSs.mk (zf h1 h2.out)
theorem JM{X:Cx}{st:Stmt}{t:TS}(h1:PS X st t):QSs X [st] t:=QSs.mk (zm h1)
@[irreducible] def QA (X:Cx) (es:List Expr) (t:TA):Prop:=PA X es t
theorem QA.out{X:Cx}{es:List Expr}{t:TA}(h:QA X es t):PA X es t:=by unfold QA at h;exact h
theorem QA.mk{X:Cx}{es:List Expr}{t:TA}(h:PA X es t):QA X es t:=by unfold QA;exact h
theorem cK{X:Cx}:QA X [] mI:=QA.mk ze
theorem zB{X:Cx}{e:Expr}{es:List Expr}{te:TE}{t:TA}(ha:PE X e te)(hr:QA X es t)(hs:fk (e::es) X.env=(false,eval e X.env)::fk es X.env:=by rfl):QA X (e::es) (eJ te t):=QA.mk (za ha hr.out hs)
theorem kX{X:Cx}{es:List Expr}{t:TA}{pos:Pos}(h:QA X es t):PE X (.List es pos) (iF t):=bI h.out
@[irreducible] def QS (X:Cx) (st:Stmt) (t:TS):Prop:=PS X st t
theorem QS.out{X:Cx}{st:Stmt}{t:TS}(h:QS X st t):PS X st t:=by unfold QS at h;exact h
theorem QS.mk{X:Cx}{st:Stmt}{t:TS}(h:PS X st t):QS X st t:=by unfold QS;exact h
theorem Ij{X:Cx}{st:Stmt}{rest:List Stmt}{t u:TS}(h1:QS X st t)(h2:QSs X rest u):QSs X (st::rest) (dP t u):=QSs.mk (zf h1.out h2.out)
end
section
def pA(a:DA):DE:=fun δ S R=>a δ S fun xs S1=>arg2 xs fun x y=>asI x fun i=>asI y fun j=>(j-i).toNat<=1000/\R (.d (.list (gS i (j-i).toNat))) S1
end
end L2
namespace HT
open PySem PyProof.Rows
section
variable {prog:fg}{w:gg}{A:gf}{E:bn->bu->Prop}{s:bu}
theorem tup_whole{t sl:Addr}{items:Array bn}{vl vu:bn}{lo hi:Option Int}{Q:bn->bu->Prop}(ht:IsTup s.heap t items)(hs:s.heap.IsSliceOf sl vl vu .none)(pl:IsPart vl lo)(pu:IsPart vu hi)
  (hw:sIx items.size 0 lo=0/\sIx items.size items.size hi=items.size) (h:Q (.ref t) s):cv (model prog w) A (getItem (.ref t) (.ref sl)) Q E s:=by
 obtain⟨os,z,aa,ae⟩:=id hs;have ac:s.TypeIs (.ref sl) "slice":=⟨os,z,aa⟩;unfold getItem
 try with_reducible refine ku ?_
 first|refine bo (cr ?_)|skip
 refine bo (wpAny_sequenceKey ht.typeIs dz ?_);refine bo (km (name:=nj "__getitem__") ht.typeIs PyProof.Rows.slot_tuple_getitem
  (lr PyProof.Rows.slot_tuple_getitem ht.typeIs entry_tuple_getitem ?_ (args_tuple_getitem _ _)))
 show cv _ _ (Builtin.Tuple.tupleItemsOf (.ref t) >>= _) _ _ s;refine bo (tupleItemsOf_ ht (bo (rp ac ?_)));rw[cp dz];refine bo (Eb hs pl pu ?_);rw[hw.1,hw.2];show cv _ _ (if (((0:Nat):Int)==0&&(1:Int)==1&&(items.size-0)==items.size)=true then _ else _) _ _ s;rw[cp yv];unfold Builtin.Tuple.tupleIsExact;refine bo (bo (rp ht.typeIs (cr ?_)));rw[cp dz];exact bo (mw (cr ⟨_,rfl,cr h⟩))
end
end HT
namespace L2
open PySem PySem.Spec PyProof.Rows
section
section
variable {X:Cx}{e ek:Expr}{te tk:TE}{pos p2:Pos}
def Ce(K:cq):V->Option Int->Option Int->Hp->VK->Prop:=fun x lo hi H Q=>∃a xs,x=.ref a/\SqT K H a xs /\
 ((HT.sIx xs.length 0 lo=0/\HT.sIx xs.length xs.length hi=xs.length)->Q (.ref a) H)/\∀p,H p=none->Q (.ref p) (upd H p (.tup (dM xs lo hi)))
theorem IT:SlR X (Ce X.K):=by
 intro zg s σ H x v vl vu lo hi sl Q I rx hs pl pu h;obtain⟨a,xs,rfl,hx,hw,q⟩:=h;by_cases z:HT.sIx xs.length 0 lo=0/\HT.sIx xs.length xs.length hi=xs.length
 ·cases rx;obtain⟨ac,r,ht,hz⟩:=I.tuple hx;have aa:ac.toArray.size=xs.length:=by rw[fx];exact r.length.symm
  refine⟨"tuple",_,PyProof.Rows.slot_tuple_getitem.lookup,ht.typeIs,?_⟩;exact HT.tup_whole ht hs pl pu (by rw[aa];exact z) ⟨.ref a,H,I,rfl,hw z⟩
 ·exact EI zg s σ H _ v vl vu lo hi sl Q I rx hs pl pu ⟨a,xs,rfl,hx,z,q⟩
end
def i9:D3:=fun x i j S R=>asT x fun ds=>R (.d (.tuple (aV ds i j))) S
theorem K9{α:Type}(xs:List α)(lo hi:Option Int)(h:HT.sIx xs.length 0 lo=0/\HT.sIx xs.length xs.length hi=xs.length):aV xs lo hi=xs:=by
 unfold aV;rw[h.1,h.2];simp
theorem Gh{K:cq}:RL (Ce K) i9:=fun h o H S x v a b R Q hs hx q c=>by
 replace q:=kM q;obtain⟨ds,rfl,q⟩:=q;obtain⟨p,vs,rfl,ea,l⟩:=fC hx;refine⟨p,vs,rfl,.of ea,fun z=>?_,qA hs (l.cut a b) c q⟩;rw[l.length]at z;rw[K9 ds a b z]at q;exact c o H S _ _ Ex.refl hs hx q
theorem MX{X:Cx}{tg:Expr}{es:List Expr}{t:TA}{z:List Stmt}{g:TG}{tb:TS}{pos pos':Pos}(hp:PassesOwn (model X.prog X.w) X.A X.env X.xe)(hc:X.calm=true)(he:QA X es t)(hg:PG X tg g)(hb:PSs X z tb)
  (hs:∀x,foldedSetIterable (.List es pos') X.env x=pure x:=by intro _;rfl):QS X (.For tg (.List es pos') z [] pos) (k8 (tD X.K (iF t)) g tb):=QS.mk (cH hp hc (f6 (bI he.out)) hg hb hs)
end
section
@[irreducible] def QE (X:Cx) (e:Expr) (t:TE):Prop:=PE X e t
theorem QE.out{X:Cx}{e:Expr}{t:TE}(h:QE X e t):PE X e t:=by unfold QE at h;exact h
theorem QE.mk{X:Cx}{e:Expr}{t:TE}(h:PE X e t):QE X e t:=by unfold QE;exact h
theorem Dq{X:Cx}{e:Expr}{es:List Expr}{te:TE}{t:TA}(ha:QE X e te)(hr:QA X es t)(hs:fk (e::es) X.env=(false,eval e X.env)::fk es X.env:=by rfl):QA X (e::es) (eJ te t):=QA.mk (za ha.out hr.out hs)
theorem j6{X:Cx}{es:List Expr}{t:TA}{k:Nat}{pos:Pos}(h:QA X es t):QE X (.Tuple es k pos) (yY t):=QE.mk (aY h.out)
theorem Iq{X:Cx}{es:List Expr}{t:TA}{pos:Pos}(h:QA X es t):QE X (.List es pos) (iF t):=QE.mk (bI h.out)
section
variable {X:Cx}{es l l':List Expr}{te:TE}{t:TA}{k:Nat}{p:Pos}{c:Const}{x:Str}{ks:List (Option Expr)}
theorem kL(ha:QE X (.Tuple l k p) te)(hr:QA X es t):QA X (.Tuple l k p::es) (eJ te t):=QA.mk (za ha.out hr.out rfl)
theorem N6(ha:QE X (.List l p) te)(hr:QA X es t):QA X (.List l p::es) (eJ te t):=QA.mk (za ha.out hr.out rfl)
theorem fA(ha:QE X (.Constant c k p) te)(hr:QA X es t):QA X (.Constant c k p::es) (eJ te t):=QA.mk (za ha.out hr.out rfl)
theorem Nh(ha:QE X (.Name x p) te)(hr:QA X es t):QA X (.Name x p::es) (eJ te t):=QA.mk (za ha.out hr.out rfl)
end
end
end L2
namespace L2
open PySem PySem.Spec PySem.Calls PyProof.Rows PySem.W
section
variable {prog:fg}{w:gg}{A:gf}{E:bn->bu->Prop}{s:bu}
def KeptBut(a:Addr)(h h':Heap):Prop:=∀b o,b≠a->h.get? b=some o->h'.get? b=some o
end
end L2
namespace L2
open PySem PySem.Spec PyProof.Rows
section
def qM:D2:=fun x y S R=>asT x fun ds=>asT y fun es=>∃ns,ds=ns.map cu/\∃ms,es=ms.map cu/\R (.d (.bool (HT.lexLt ns ms))) S
end
section
theorem JR(f:Array bn->Array bn)(o:Obj):(qx f o).dict=o.dict:=by
 unfold qx;split<;>rfl
def RecAt(h base:Heap)(e:Addr)(cls:bn)(dx:Option Addr)(a0 fl:bn):Prop:=
 ∃oe vs T oT ts,h.get? e=some oe/\oe.cls=cls/\oe.dict=dx/\oe.data=.fields vs/\vs[0]?=some a0/\vs[1]?=some (.ref T)/\base.get? T=none/\T≠e/\h.get? T=some oT/\oT.data=.fields ts/\ts[3]?=some fl
structure NotedD(base:Heap)(l:List Env)(e:Addr)(cls:bn)(dx:Option Addr)(a0 fl:bn)(h h':Heap):Prop where
 stays:base.StaysIn h'
 frames:h'.FunFrames base l
 rcd:RecAt h' base e cls dx a0 fl
 upto:h.UpToSlots h'
def FlyD(base:Heap)(l:List Env)(e:Addr)(cls:bn)(dx:Option Addr)(a0:bn)(h:Heap):Prop:=base.StaysIn h/\base.get? e=none/\h.FunFrames base l/\RecAt h base e cls dx a0 .none
def HeldD(base:Heap)(l:List Env)(e:Addr)(cls:bn)(dx:Option Addr)(a0:bn)(L:Addr)(h:Heap):Prop:=base.StaysIn h/\base.get? e=none/\h.FunFrames base l/\RecAt h base e cls dx a0 (ss L)
theorem FlyD.there{base h:Heap}{l:List Env}{e:Addr}{cls a0:bn}{dx:Option Addr}(x:FlyD base l e cls dx a0 h):∃ob,h.get? e=some ob/\ob.cls=cls/\ob.dict=dx:=
 let ⟨_,_,_,oe,_,_,_,_,he,hc,hd,_⟩:=x;⟨oe,he,hc,hd⟩
theorem FlyD.first{base h:Heap}{l:List Env}{e:Addr}{cls a0:bn}{dx:Option Addr}(x:FlyD base l e cls dx a0 h):∃oe vs,h.get? e=some oe/\oe.cls=cls/\oe.data=.fields vs/\vs[0]?=some a0:=
 let ⟨_,_,_,oe,vs,_,_,_,he,hc,_,hd,h0,_⟩:=x;⟨oe,vs,he,hc,hd,h0⟩
section
variable {M:Model}{A:gf}{E:bn->bu->Prop}{s:bu}
theorem FU{base:Heap}{env:Env}{outer:List Env}{L e:Addr}{oe:Obj}{vs:Array bn}{ac a0:bn}{aa:Bool}{Q:Unit->bu->Prop}
  (hfr:A.frames=some (env::outer)) (hl:s.heap.FunFrames base (env::outer)) (hf:env.frame=some L)
  (he:s.heap.get? e=some oe) (hkb:base.StaysIn s.heap) (hen:base.get? e=none) (hd:oe.data=.fields vs) (hsz:1<vs.size) (h0:vs[0]?=some a0)
  (h:∀h',NotedD base (env::outer) e oe.cls oe.dict a0 (ss L) s.heap h'->Q () { s with heap:=h' }):
  cv M A (do let a <- frameOf env;let pl <- entryPlaceOf L aa;let b <- EntryCells.newEntry ac a .none (ss L) .none pl;setField (.ref e) 1 b) Q E s:=by
 have ne:e∉(env::outer).filterMap (·.frame):=fun hm=>by
  obtain⟨_,o,ho,nf⟩:=hl.mem hm;rw[he]at ho;cases ho;exact nf vs hd
 refine bo (wpAny_frameOf_fun hfr hl hf fun h1 k1=>?_);refine bo (wpAny_entryPlaceOf fun pl ae=>?_);unfold EntryCells.newEntry newFields;refine bo (jx ?_ (ae.sizeOk5 _ _ _ _ _));have e1:h1.get? e=some oe:=(k1.2.1 e ne).trans he;have b1:base.StaysIn h1:=fun b o q=>(k1.2.1 b fun hm=>by rw[(hl.mem hm).1]at q;cases q).trans (hkb b o q);generalize hT:({ cls:=.type "traceback",dict:=none,data:=.fields ([ac,.ref L,.none,ss L,.none]++(if pl.isEmpty then bx 6 jq else pl)).toArray }:Obj)=tb;have dT:∃ts,tb.data=.fields ts/\ts[3]?=some (ss L):=by
  subst hT;exact⟨_,rfl,yv⟩
 obtain⟨ts,dT,zT⟩:=dT;have fT:tb.isFreed=false:=Obj.isFreed_of_fields dT;have e2:=bw (h:=h1) tb e1;refine wpAny_setField e2 hd hsz (h _ ?_);have nT:h1.objs.size≠e:=tq (fu e1);have d3:=qk hd (·.setIfInBounds 1 (fh h1.objs.size));have e3:=ls (qx (·.setIfInBounds 1 (fh h1.objs.size))) e2 (Obj.isFreed_of_fields d3);have t3:=(jh (h1.push tb) (qx (·.setIfInBounds 1 (fh h1.objs.size))) (im nT)).trans (fj h1 fT);have keep:∀b o,b≠e->h1.get? b=some o->((h1.push tb).update e (qx (·.setIfInBounds 1 (fh h1.objs.size)))).get? b=some o:=fun b o nb q=>by
  rw[jh _ _ (im nb)];exact bw _ q
 have nr:∀b o,s.heap.get? b=some o->(∀vs,o.data≠.fields vs)->b≠e:=fun b o q nf z=>by
  rw[z,he]at q;cases q;exact nf vs hd
 refine⟨fun b o q=>keep b o (fun z=>by rw[z,hen]at q;cases q) (b1 b o q),hl.of_keeps fun b o q nf=>?_,?_,fun b o q nf=>?_⟩
 ·obtain⟨sl,z⟩:=k1.2.2 b o q;exact⟨_,keep b _ (nr b o q nf) z,rfl⟩
 ·exact⟨_,_,h1.objs.size,_,_,e3,Obj.cls_mapFields _ _,JR _ _,d3,by rw[Array.getElem?_setIfInBounds_ne dz];exact h0,by simp[hsz],b1.fresh,nT,t3,dT,zT⟩
 ·obtain⟨sl,z⟩:=k1.2.2 b o q;exact⟨sl,keep b _ (nr b o q nf) z⟩
theorem uZ{base:Heap}{l:List Env}{e:Addr}{cls a0 fl:bn}{dx:Option Addr}{Q:Unit->bu->Prop}(ah:base.StaysIn s.heap)(ag:base.get? e=none)(hl:s.heap.FunFrames base l)(ht:RecAt s.heap base e cls dx a0 fl)
  (h:∀h',FlyD base l e cls dx a0 h'->s.heap.UpToSlots h'->Q () { s with heap:=h' }):cv M A (setFlight (.ref e) none) Q E s:=by
 obtain⟨oe,vs,T,oT,ts,he,hc,hx,hd,h0,h1,af,ae,hT,aa,h3⟩:=ht;have z3:3<ts.size:=(Array.getElem?_eq_some_iff.mp h3).1;have ac:∀b,b≠T->(s.heap.update T (qx (·.setIfInBounds 3 ((none:Option Addr).elim jq fun f=>ss f)))).get? b=s.heap.get? b:=fun b hb=>jh _ _ (im hb);have nr:∀b o,s.heap.get? b=some o->(∀vs,o.data≠.fields vs)->b≠T:=fun b o q nf z=>by
  rw[z,hT]at q;cases q;exact nf ts aa
 unfold setFlight;refine bo (jg he hd h1 ?_);rw[cp (show (fh T != jq)=true from by simp)];refine wpAny_setField hT aa z3 (h _ ⟨fun b o q=>(ac b fun z=>by rw[z,af]at q;cases q).trans (ah b o q),ag,hl.of_keeps fun b o q nf=>⟨o,(ac b (nr b o q nf)).trans q,rfl⟩,?_⟩ fun b o q nf=>⟨o.slots,(ac b (nr b o q nf)).trans q⟩);exact⟨oe,vs,T,_,_,(ac e (im ae)).trans he,hc,hx,hd,h0,h1,af,ae,ls _ hT (Obj.isFreed_of_fields (qk aa _)),qk aa _,by simp[z3]⟩
theorem Gf{base:Heap}{env:Env}{outer:List Env}{L e:Addr}{oe:Obj}{vs:Array bn}{a0:bn}{Q:Unit->bu->Prop}
  (hfr:A.frames=some (env::outer)) (hl:s.heap.FunFrames base (env::outer)) (hf:env.frame=some L)
  (he:s.heap.get? e=some oe) (hkb:base.StaysIn s.heap) (hen:base.get? e=none) (hd:oe.data=.fields vs) (h1:vs[1]?=some .none) (h0:vs[0]?=some a0)
  (h:∀h',NotedD base (env::outer) e oe.cls oe.dict a0 (ss L) s.heap h'->Q () { s with heap:=h' }):cv M A (noteFrame (.ref e) env) Q E s:=by
 unfold noteFrame;simp only[hf];refine bo (jg he hd h1 ?_);rw[cf dz];exact FU hfr hl hf he hkb hen hd (Array.getElem?_eq_some_iff.mp h1).1 h0 h
theorem FR{base:Heap}{env:Env}{outer:List Env}{L e:Addr}{cls a0:bn}{dx:Option Addr}{Q:Unit->bu->Prop}
  (hfr:A.frames=some (env::outer)) (hl:s.heap.FunFrames base (env::outer)) (hf:env.frame=some L) (ht:RecAt s.heap base e cls dx a0 .none) (hkb:base.StaysIn s.heap) (hen:base.get? e=none)
  (h:∀h',NotedD base (env::outer) e cls dx a0 (ss L) s.heap h'->Q () { s with heap:=h' }):cv M A (noteFrame (.ref e) env) Q E s:=by
 obtain⟨oe,vs,T,oT,ts,he,rfl,rfl,hd,h0,h1,af,ae,hT,ac,h3⟩:=ht;unfold noteFrame;simp only[hf];refine bo (jg he hd h1 ?_);rw[cp (show (fh T != jq)=true from by simp)];refine bo (jg hT ac h3 ?_);rw[cf (show ¬((jq==ss L)=true)from by simp[ss])];refine bo (wpAny_setField hT ac (Array.getElem?_eq_some_iff.mp h3).1 ?_);have aa:∀b,b≠T->(s.heap.update T (qx (·.setIfInBounds 3 jq))).get? b=s.heap.get? b:=fun b hb=>jh _ _ (im hb);have nr:∀b o,s.heap.get? b=some o->(∀vs,o.data≠.fields vs)->b≠T:=fun b o q nf z=>by
  rw[z,hT]at q;cases q;exact nf ts ac
 refine FU hfr (hl.of_keeps fun b o q nf=>⟨o,(aa b (nr b o q nf)).trans q,rfl⟩) hf ((aa e (im ae)).trans he)
  (fun b o q=>(aa b fun z=>by rw[z,af]at q;cases q).trans (hkb b o q)) hen hd (Array.getElem?_eq_some_iff.mp h1).1 h0
  fun h' x=>h h' ⟨x.stays,x.frames,x.rcd,fun b o q nf=>x.upto b o ((aa b (nr b o q nf)).trans q) nf⟩
theorem He{base:Heap}{env:Env}{outer:List Env}{L e:Addr}{cls a0:bn}{dx:Option Addr}{Q:Unit->bu->Prop}(z:A.frames=some (env::outer))(hf:env.frame=some L)(aa:FlyD base (env::outer) e cls dx a0 s.heap)
  (hQ:∀h',FlyD base outer e cls dx a0 h'->s.heap.UpToSlots h'->Q () { s with heap:=h' }):cv M A (leaving env (.ref e)) Q E s:=by
 obtain⟨f1,f2,f3,f4⟩:=aa;unfold leaving;refine bo (FR z f3 hf f4 f1 f2 fun h' x=>?_);refine uZ (s:={ s with heap:=h' }) x.stays f2 x.frames x.rcd fun h2 y u=>hQ h2 ⟨y.1,y.2.1,?_,y.2.2.2⟩ (x.upto.trans u);obtain⟨_,_,k⟩:=y.2.2.1;exact k
theorem C0{base:Heap}{env:Env}{outer:List Env}{L e:Addr}{oe:Obj}{vs:Array bn}{a0:bn}{Q:Unit->bu->Prop}
  (hfr:A.frames=some (env::outer)) (hl:s.heap.FunFrames base (env::outer)) (hf:env.frame=some L)
  (he:s.heap.get? e=some oe) (hkb:base.StaysIn s.heap) (hen:base.get? e=none) (hd:oe.data=.fields vs) (h1:vs[1]?=some .none) (h0:vs[0]?=some a0)
  (hQ:∀h',FlyD base outer e oe.cls oe.dict a0 h'->s.heap.UpToSlots h'->Q () { s with heap:=h' }):cv M A (leaving env (.ref e)) Q E s:=by
 unfold leaving;refine bo (Gf hfr hl hf he hkb hen hd h1 h0 fun h' x=>?_);refine uZ (s:={ s with heap:=h' }) x.stays hen x.frames x.rcd fun h2 y u=>hQ h2 ⟨y.1,y.2.1,?_,y.2.2.2⟩ (x.upto.trans u);obtain⟨_,_,k⟩:=y.2.2.1;exact k
theorem Lw{base:Heap}{env:Env}{outer:List Env}{L e:Addr}{cls a0:bn}{dx:Option Addr}{Q:Unit->bu->Prop}(z:A.frames=some (env::outer))(hf:env.frame=some L)(aa:FlyD base (env::outer) e cls dx a0 s.heap)
  (hQ:∀h',HeldD base (env::outer) e cls dx a0 L h'->s.heap.UpToSlots h'->Q () { s with heap:=h' }):cv M A (noteFrame (.ref e) env) Q E s:=by
 obtain⟨f1,f2,f3,f4⟩:=aa;exact FR z f3 hf f4 f1 f2 fun h' x=>hQ h' ⟨x.stays,f2,x.frames,x.rcd⟩ x.upto
theorem Nr{base:Heap}{l:List Env}{e L:Addr}{cls a0:bn}{dx:Option Addr}{Q:Unit->bu->Prop}(hh:HeldD base l e cls dx a0 L s.heap)(hQ:∀h',FlyD base l e cls dx a0 h'->s.heap.UpToSlots h'->Q () { s with heap:=h' }):cv M A (setFlight (.ref e) none) Q E s:=by
 obtain⟨f1,f2,f3,f4⟩:=hh;exact uZ f1 f2 f3 f4 hQ
theorem Nj{base:Heap}{l:List Env}{e:Addr}{cls a0:bn}{dx:Option Addr}{Q:Unit->bu->Prop}(hh:FlyD base l e cls dx a0 s.heap)(hQ:∀h',FlyD base l e cls dx a0 h'->s.heap.UpToSlots h'->Q () { s with heap:=h' }):cv M A (setFlight (.ref e) none) Q E s:=by
 obtain⟨f1,f2,f3,f4⟩:=hh;exact uZ f1 f2 f3 f4 hQ
end
theorem HOk.stays{P:fg}{w:gg}{H:Hp}{h h':Heap}(x:HOk P w H h)(k:∀b u,H b=some u->∀o,h.get? b=some o->h'.get? b=some o):HOk P w H h':=fun a o e=>
 (x a o e).stay (fun b u hb q=>by
  rcases hb with rfl|hb
  ·exact k _ _ e _ q
  ·exact k _ _ hb _ q) (fun _ q=>q) fun _ _ q=>q
theorem ObjOk.obj{P:fg}{w:gg}{H:Hp}{h:Heap}{a:Addr}{o:HO}(x:ObjOk P w H h a o):∃u,h.get? a=some u:=by
 cases o with
 |lst xs=>obtain⟨_,_,_,_,e⟩:=x;exact⟨_,e⟩
 |tup xs=>obtain⟨_,_,_,o,e,_⟩:=x;exact⟨_,e⟩
 |dK kvs=>obtain⟨_,_,_,_,o,_,_,e,_⟩:=x;exact⟨_,e⟩
 |dT kvs=>obtain⟨_,_,_,_,o,_,_,e,_⟩:=x;exact⟨_,e⟩
 |set S n=>obtain⟨o,_,_,_,e,_⟩:=x;exact⟨_,e⟩
 |ins C dx fs=>obtain⟨_,_,_,e,_⟩:=x;exact⟨_,e⟩
 |own y=>exact x
 |xd fs=>obtain⟨_,⟨_,_,_,e,_⟩,_⟩:=x;exact⟨_,e⟩
 |rng lo hi=>obtain⟨_,_,_,e⟩:=x;exact⟨_,e⟩
 |frz ob u=>obtain⟨e,_⟩:=x;exact⟨_,e⟩
 |tbl ps=>obtain⟨_,e,_⟩:=x;exact⟨_,e⟩
 |met f y=>exact⟨_,(show h.get? a=some _ from x)⟩
 |ext φ=>obtain⟨_,e,_⟩:=x;exact e
structure Fly(P:fg)(w:gg)(outer:List Env)(H:Hp)(s:bu)(H':Hp)(a C:Addr)(dx:Option Addr)(s':bu):Prop where
 os:s'.os=s.os
 bare:AllBare s'.gens
 un:Un (frs outer) [] H H' s.heap s'.heap
 hok:HOk P w H' s'.heap
 fl:∃B t,FlyD B outer a (.ref C) dx (.ref t) s'.heap/\(∀b o,s.heap.get? b=some o->H b=none->b∉frs outer->B.get? b=some o)/\(∀b o,s.heap.get? b=some o->b∈frs outer\/∃o',B.get? b=some o')/\∀b u,H' b=some u->∃o,B.get? b=some o
def CX1(P:fg)(w:gg):CXT:=fun outer H s E e s'=>∃H' a C dx,e=.ref a/\Fly P w outer H s H' a C dx s'/\E (.ref C) (some a) (upd H' a (exO a C dx))
section
variable {P:fg}{w:gg}{K:cq}{mg:Str->Option bn}{base:Heap}{N:List Str}{qual:Str}{scope:Scope}{f:Addr}{cd:bn}{A:gf}{outer:List Env}{s:bu}{H:Hp}{E:XK}
theorem pass1:Passes (CX1 P w) (bU (CX1 P w) P w K mg base N qual scope f cd A outer s H E) E:=fun zg σ Hc sc e s' I hx=>by
 obtain⟨H',a,C,dx,rfl,F,hE⟩:=hx;obtain⟨B,t,fl,kB,eB,tB⟩:=F.fl;have ae:(A.deeper (iy qual scope s.heap.objs.size f cd)).frames=some (iy qual scope s.heap.objs.size f cd::outer):=I.ok.frames;have nl:∀b o,s.heap.get? b=some o->b∉frs outer->b∉frs (iy qual scope s.heap.objs.size f cd::outer):=fun b o q hb z=>by
  rcases mem_cons.mp (show b∈s.heap.objs.size::frs outer from z)with e|e
  ·exact absurd (fu q) (by rw[e];exact jp _)
  ·exact hb e
 have nx:∀b:Addr,b∉([]:List Addr):=fun b=>by simp
 have kp:∀b o,s.heap.get? b=some o->H b=none->b∉frs outer->B.get? b=some o:=fun b o q n hb=>kB b o (I.base.keep b o q n hb (nx b)) (I.base.free b o q n (nx b)) (nl b o q hb);have ep:∀b o,s.heap.get? b=some o->b∈frs outer\/∃o',B.get? b=some o':=fun b o q=>by
  by_cases hb:b∈frs outer
  ·exact .inl hb
  ·obtain⟨o1,q1⟩:=I.base.there b o q (nx b);rcases eB b o1 q1 with z|z
   ·exact absurd z (nl b o q hb)
   ·exact .inr z
 show cv _ _ (leaving (iy qual scope s.heap.objs.size f cd) (.ref a)) _ _ s';refine He ae rfl fl fun h' aa sm=>⟨H',a,C,dx,rfl,⟨F.os.trans I.os,F.bare,⟨fun b o q n hb _=>aa.1 b o (kp b o q n hb),fun b o q n hb _=>?_,fun b o q n _=>?_,fun b o q _=>?_,fun b xs q=>F.un.tups b xs (I.base.tups b xs q),fun b o u q=>F.un.frzs b o u (I.base.frzs b o u q),fun b ps q=>?_⟩,
  F.hok.stays fun b u e o q=>?_,B,t,aa,kp,ep,tB⟩,hE⟩
 ·obtain⟨sl,q1⟩:=I.base.slot b o q n hb (nx b);obtain⟨af,q2⟩:=F.un.any q1 (I.base.free b o q n (nx b)) (nx b);obtain⟨_,o3,q3,nf⟩:=fl.2.2.1.mem (show b∈frs (iy qual scope s.heap.objs.size f cd::outer)from cz _ hb);rw[q2]at q3;cases q3;obtain⟨ac,q4⟩:=sm b _ q2 nf;exact⟨ac,q4⟩
 ·obtain⟨o1,q1⟩:=I.base.there b o q (nx b);exact F.un.free b o1 q1 (I.base.free b o q n (nx b)) (nx b)
 ·rcases ep b o q with z|⟨o',z⟩
  ·obtain⟨_,o3,q3,_⟩:=aa.2.2.1.mem (show b∈frs outer from z);exact⟨o3,q3⟩
  ·exact⟨o',aa.1 b o' z⟩
 ·exact F.un.tbls b _ (I.base.tbls b ps q)
 ·obtain⟨o',z⟩:=tB b u e;have:=fl.1 b o' z;rw[q]at this;cases this;exact aa.1 b o z
theorem IP{zg:List (Addr×Obj)}{σ:St}{Hc:Hp}{s2:bu}{h':Heap}{e C:Addr}{args:List bn}(I:Inv (bU (CX1 P w) P w K mg base N qual scope f cd A outer s H E) zg σ Hc s2)(mk:Heap.MadeExcOf s2.heap h' e (.ref C) args)(hE:E (.ref C) (some e) (upd Hc e (exO e C none))):
  (bU (CX1 P w) P w K mg base N qual scope f cd A outer s H E).xe (.ref e) { s2 with heap:=h' }:=by
 have ae:(A.deeper (iy qual scope s.heap.objs.size f cd)).frames=some (iy qual scope s.heap.objs.size f cd::outer):=I.ok.frames;have nl:∀b o,s.heap.get? b=some o->b∉frs outer->b∉frs (iy qual scope s.heap.objs.size f cd::outer):=fun b o q hb z=>by
  rcases mem_cons.mp (show b∈s.heap.objs.size::frs outer from z)with e|e
  ·exact absurd (fu q) (by rw[e];exact jp _)
  ·exact hb e
 have nx:∀b:Addr,b∉([]:List Addr):=fun b=>by simp
 have stk:s2.heap.FunFrames base (iy qual scope s.heap.objs.size f cd::outer):=I.stack;have ac:∀env∈(iy qual scope s.heap.objs.size f cd::outer),∀b,env.frame=some b->b∈frs (iy qual scope s.heap.objs.size f cd::outer):=fun env he b hb=>mem_filterMap.mpr ⟨env,he,hb⟩;have hd:∀b o,s2.heap.get? b=some o->b∉frs (iy qual scope s.heap.objs.size f cd::outer)->(ud s2.heap (frs (iy qual scope s.heap.objs.size f cd::outer))).get? b=some o:=fun b o q n=>W.hideAll_get _ q n;have kp:∀b o,s.heap.get? b=some o->H b=none->b∉frs outer->(ud s2.heap (frs (iy qual scope s.heap.objs.size f cd::outer))).get? b=some o:=fun b o q n hb=>hd b o (I.base.keep b o q n hb (nx b)) (nl b o q hb);have ep:∀b o,s.heap.get? b=some o->b∈frs outer\/∃o',(ud s2.heap (frs (iy qual scope s.heap.objs.size f cd::outer))).get? b=some o':=fun b o q=>by
  by_cases hb:b∈frs outer
  ·exact .inl hb
  ·obtain⟨o1,q1⟩:=I.base.there b o q (nx b);exact .inr ⟨o1,hd b o1 q1 (nl b o q hb)⟩
 have tr:∀b u,Hc b=some u->∀o,s2.heap.get? b=some o->(ud s2.heap (frs (iy qual scope s.heap.objs.size f cd::outer))).get? b=some o:=fun b u q o q1=>hd b o q1 fun z=>by
  rw[I.stkFree.free b z]at q;cases q
 show cv _ _ (leaving (iy qual scope s.heap.objs.size f cd) (.ref e)) _ _ _;obtain⟨t,he,af,ht⟩:=mk.there;have ne:(ud s2.heap (frs (iy qual scope s.heap.objs.size f cd::outer))).get? e=none:=by
  cases z:(ud s2.heap (frs (iy qual scope s.heap.objs.size f cd::outer))).get? e with
  |none=>rfl
  |some o=>
   have:=W.of_hideAll _ z;rw[mk.new]at this;cases this
 refine C0 (s:={ s2 with heap:=h' }) ae ((W.funFrames_hide stk ac).of_keeps fun b o q _=>⟨o,mk.keeps b o q,rfl⟩) rfl he (fun b o q=>mk.keeps b o (W.of_hideAll _ q)) ne rfl rfl rfl fun h'' fl sm=>⟨Hc,e,C,none,rfl,⟨I.os,I.bare,⟨fun b o q n hb _=>fl.1 b o (kp b o q n hb),fun b o q n hb _=>?_,fun b o q n _=>I.base.free b o q n (nx b),fun b o q _=>?_,I.base.tups,I.base.frzs,I.base.tbls⟩,
  I.hok.stays fun b u q o q1=>fl.1 b o (tr b u q o q1),_,t,fl,kp,ep,fun b u q=>?_⟩,hE⟩
 ·obtain⟨sl,q1⟩:=I.base.slot b o q n hb (nx b);obtain⟨_,o3,q3,nf⟩:=stk.mem (show b∈frs (iy qual scope s.heap.objs.size f cd::outer)from cz _ hb);rw[q1]at q3;cases q3;obtain⟨aa,q4⟩:=sm b _ (mk.keeps b _ q1) nf;exact⟨aa,q4⟩
 ·rcases ep b o q with z|⟨o',z⟩
  ·obtain⟨_,o3,q3,_⟩:=fl.2.2.1.mem (show b∈frs outer from z);exact⟨o3,q3⟩
  ·exact⟨o',fl.1 b o' z⟩
 ·obtain⟨o,q1⟩:=(I.hok b u q).obj;exact⟨o,tr b u q o q1⟩
end
end
section
def veB:List bn:=[.type "ValueError",.type "Exception",.type "BaseException",.type "object"]
theorem Hf{K:cq}{h:Heap}{N:Addr}{mg:Str->Option bn}{n:Str}{v:bn}(X:K.In h)(G:h.Ns N mg)(e:W.nsIn K N n=some (some v)):mg n=some v:=by
 obtain⟨o,es,ep,ho,hd,_,hf⟩:=G;unfold W.nsIn at e;split at e
 ·rename_i c d z n' sl q;have:=X _ _ q;rw[ho]at this;cases this;cases hd;split at e
  ·rename_i en he;cases e;rw[<- hf];unfold nsFind findBy;rw[<- Array.find?_toList,he];rfl
  ·split at e<;>cases e
 ·cases e
structure ExCls(K:cq)(C:Addr)(ini:Option bn):Prop where
 ob:∀h,K.In h->∃bm N nm qn bs hd sn sub ab col dd k0 k1 k2 k3 k5 mN,h.get? C=some (excClassObj nm qn C N bs bm hd sn sub ab col dd k0 k1 k2 k3 k5 "ValueError.__new__")/\h.Ns N mN/\mN "__init__" = ini/\OwnTail h veB bm/\∀D,W.mroIn K C D=some ((fh C::bm).contains D)
 ty:(uf K C).isSome=true/\W.typeIn K (.ref C)=some (.type "type")
theorem exc_of_in{K:cq}{C:Addr}(q:W.excIn K C veB "ValueError.__new__" = true):ExCls K C none:=by
 unfold W.excIn at q;split at q
 ·rename_i dd cd sl ho;split at q
  ·rename_i C' bm k0 k1 k2 k3 n k5 hm hs;simp only[jn,beq_iff_eq,Bool.not_eq_true']at q;obtain⟨⟨⟨⟨⟨rfl,rfl⟩,z⟩,ht⟩,hok⟩,aa⟩:=q;obtain⟨nm,bs,mro,ns,qn,hd,sn,sub,ab,col,del⟩:=cd;dsimp only at hm z hok aa;subst hm z;have ac:sl = #[k0,k1,k2,k3,some (.builtin "ValueError.__new__"),k5]:=by
    obtain⟨l⟩:=sl;simp only at hs;rw[hs]
   subst ac;refine⟨fun h X=>⟨bm,ns,nm,qn,bs,hd,sn,sub,ab,col,dd,k0,k1,k2,k3,k5,h.nsMap ns,X _ _ ho,.of_isNs (W.isNs_of_in X hok),W.ns_none_of X (.of_isNs (W.isNs_of_in X hok)) aa,W.tail_of_in X ht,fun D=>?_⟩,?_,?_⟩
   ·unfold W.mroIn uf;rw[ho];rfl
   ·unfold uf;rw[ho];rfl
   ·show sx (fun x:Obj=>x.cls) (K.lookup C')=_;rw[ho];rfl
  ·cases q
 ·cases q
section
variable {K:cq}{h:Heap}{C G:Addr}{ini iniG:Option bn}
variable {M:Model}{A:gf}{E:bn->bu->Prop}{g:Array GenState}{d:Drawn}{t:Nat}{os:OsState}{e:Addr}{oe:Obj}{Q:Bool->bu->Prop}
theorem NI(X:K.In h)(qC:ExCls K C ini)(qG:ExCls K G iniG)(he:h.get? e=some oe)(aa:oe.cls=.ref C)(z:W.mroIn K C (.ref G)=some true)(hq:Q true ⟨h,g,d,t,os⟩):cv M A (excMatches (.ref e) (.ref G)) Q E ⟨h,g,d,t,os⟩:=by
 obtain⟨tl,N,nm,qn,bs,hd,sn,sub,ab,col,dd,k0,k1,k2,k3,k5,mN,hC,_,_,T,mr⟩:=qC.ob h X;obtain⟨ac,N',ao,ah,al,aj,ai,ag,ak,af,am,j0,j1,j2,j3,j5,an,hG,_,_,T',_⟩:=qG.ob h X;replace z:(fh C::tl).contains (.ref G)=true:=by rw[mr]at z;exact gi z
 have ae:(fh G::ac).contains (.type "BaseException")=true:=by rw[List.contains_cons,T'.hasType (b:=true) (by decide +kernel),Bool.or_true]
 have f:=tc_notTuple;unfold excMatches
 repeat (first|(with_reducible refine jo he ?_;rw[aa])|with_reducible refine jo hG ?_|(with_reducible refine wpAny_isSubtype_exc hG ?_;rw[ae])|(with_reducible refine wpAny_isSubtype_exc hC ?_;rw[z])|wp_step)
 exact hq
end
section
variable {X:Cx}{E:XK}{x:Str}{C:Addr}{np cpos pos:Pos}
def FE(E:XK)(C:Addr):TS:=fun _ _ H=>∀a,H a=none->E (.ref C) (some a) (upd H a (exO a C none))
def Raises(X:Cx)(E:XK):Prop:=∀(C:Addr) (zg:List (Addr×Obj)) (σ:St) (H:Hp) (s2:bu) (h':Heap) (e:Addr) (args:List bn),Inv X zg σ H s2->Heap.MadeExcOf s2.heap h' e (.ref C) args->E (.ref C) (some e) (upd H e (exO e C none))->X.xe (.ref e) { s2 with heap:=h' }
theorem Es(hc:X.calm=true)(hR:Raises X E)(hg:Gl X x)(hm:X.mg x=some (.ref C))(q:ExCls X.K C none)(ac:(x==("__debug__":Str))=false:=by decide):
  PS X (.Raise (some (.Call (.Name x np) [] [] cpos)) none pos) (FE E C):=by
 intro zg s σ H D I h;obtain⟨tl,N,nm,qn,bs,hd,sn,sub,ab,col,dd,k0,k1,k2,k3,k5,mN,hC,hN,aa,T,_⟩:=q.ob _ I.kIn;refine wpAny_Raise_call_subT (C:=C) (nm:=nm) (q:=qn) (N:=N) (bs:=bs) (bm:=tl) (hdct:=hd) (sn:=sn) (sub:=sub) (ab:=ab) (col:=col) (dd:=dd) (k0:=k0) (k1:=k1) (k2:=k2) (k3:=k3) (k5:=k5)
  F.excBase_ValueError (mN:=mN) (T.hasType (b:=true) (by decide +kernel)) (I.ok.hd hc) rfl aa (mU I hg hm ⟨rfl,?_⟩ ac)
 refine evalArgs_empty ⟨rfl,ly _,hC,hN,T,fun h' e mk=>hR C zg σ H s h' e [] I mk (h e ?_)⟩;cases z:H e with
 |none=>rfl
 |some u=>
  obtain⟨o,ho⟩:=(I.hok e u z).obj;rw[mk.new]at ho;cases ho
end
theorem raises1{P:fg}{w:gg}{K:cq}{mg:Str->Option bn}{base:Heap}{N:List Str}{qual:Str}{scope:Scope}{f:Addr}{cd:bn}{A:gf}{outer:List Env}{s:bu}{H:Hp}{E:XK}:
  Raises (bU (CX1 P w) P w K mg base N qual scope f cd A outer s H E) E:=fun _ _ _ _ _ _ _ _ I mk hE=>IP I mk hE
end
section
def PEX(X:Cx)(e:Expr)(t:XK->TE):Prop:=∀(zg:List (Addr×Obj)) (s:bu) (σ:St) (H:Hp) (Q:VK) (Ex:XK) (E':bn->bu->Prop),Inv X zg σ H s->t Ex σ H Q ->
 (∀H1 s1 v s',Inv X zg σ H1 s1->CX1 X.prog X.w X.stack H1 s1 Ex v s'->E' v s')->cv (model X.prog X.w) X.A (eval e X.env) (EP X zg σ Q) E' s
def PSX(X:Cx)(st:Stmt)(t:XK->TS):Prop:=∀(zg:List (Addr×Obj)) (s:bu) (σ:St) (H:Hp) (D:Ends) (Ex:XK) (E':bn->bu->Prop),Inv X zg σ H s->t Ex D σ H ->
 (∀H1 s1 v s',Inv X zg σ H1 s1->CX1 X.prog X.w X.stack H1 s1 Ex v s'->E' v s')->cv (model X.prog X.w) X.A (exec st X.env) (SP X zg D) E' s
section
variable {X:Cx}{k:Nat}{f:Addr}{fd:ng}{ps:List Str}{sp:Sp}{x:Str}{p pos:Pos}{e e1:Expr}{es:List Expr}{t:TA}{te:TE}{tx:XK->TE}
theorem K1(hx:∀e s,X.xe e s->False)(F:FnOk X.prog X.w X.K X.mg X.base (CX1 X.prog X.w) k f fd ps sp)(hr:Room k X.A)(hg:Gl X x)(hm:X.mg x=some (.ref f))(hk:rg X.K (.ref f)=true)(hb:Binds X.K fd ps [])
  (ha:PA X (e::es) t) (hdb:(x==("__debug__":Str))=false:=by decide) (he:fk (e::es) X.env=(false,eval e X.env)::fk es X.env:=by rfl) (hpl:(ph pos (fk es X.env)).any (·.1)=false:=by rfl):
  PEX X (.Call (.Name x p) (e::es) [] pos) (fun Ex σ H Q=>t σ H fun vs H1=>sp vs H1 Q Ex):=by
 intro zg s σ H Q Ex E' I h hX;refine ol (mU I hg hm ?_ hdb);refine W.callWith_K (h₀:=X.base) I.ok.mod.kin hk (jj (ha pos zg s σ H _ I h) (fun us s1 ⟨vs,H1,I1,r,q⟩=>⟨I1.kIn,?_⟩) fun _ _ z=>(hx _ _ z).elim) he hpl;have hl:us.length=ps.length:=by rw[<- r.length];exact F.len _ _ _ _ q
 have aa:=hb s1 us I1.kIn (by rw[jl];exact hl);rw[jl]at aa;refine wpAny_call (codeAny_mono (F.run X.A X.stack s1 H1 ⟨us,[]⟩ us vs Q Ex hr I1.env0 aa r q) fun r s' hq=>?_);cases r with
 |error e=>exact hX H1 s1 e s' I1 hq
 |ok fl=>
  cases fl with
  |ret u=>exact I1.after hq
  |next=>exact iu hq
  |brk=>exact iu hq
  |cont=>exact iu hq
theorem Jz(he:PEX X e tx)(hs:swapsWith e none pos.line X.env=pure false:=by rfl):PSX X (.Expr e pos) (fun Ex=>xM (tx Ex)):=by
 intro zg s σ H D Ex E' I h hX;exact wpAny_Expr_any (thn (he zg s σ H _ Ex E' I h hX) fun v s1 ⟨x,H1,I1,r1,q1⟩=>⟨σ,H1,I1,q1⟩) I.quiet hs
end
theorem J8{P:fg}{w:gg}{H:Hp}{h:Heap}{a C:Addr}{o:Obj}(e:h.get? a=some o)(c:o.cls=.ref C)(hf:∃vs,o.data=.fields vs):ObjOk P w H h a (exO a C o.dict):=
 ⟨⟨o,e,c,rfl,hf⟩,⟨o,e⟩,fun h1 h2 ⟨o,e,c,d⟩ k=>⟨o,k o e,c,d⟩⟩
abbrev Cx.suite (X:Cx) (a:Addr):Cx:={ X with A:=X.A.mark (some (.ref a)),calm:=false,xe:=fun _ _=>False }
theorem Cx.Ok.suite{X:Cx}(ok:X.Ok)(a:Addr):(X.suite a).Ok:=
 ⟨ok.mod,ok.kind,ok.glob,ok.blt,ok.above,ok.inj,ok.has,ok.cab,(fun z=>Bool.noConfusion z),ok.frames,ok.stk,ok.exf,ok.bs,ok.bsz,ok.noex,ok.exfs,ok.funs,ok.frf⟩
section
variable {X:Cx}{zg:List (Addr×Obj)}{σ:St}{H:Hp}{s:bu}{a:Addr}
theorem Inv.suite(I:Inv X zg σ H s)(a:Addr):Inv (X.suite a) zg σ H s:=⟨I.ok.suite a,I.os,I.bare,I.base,I.loc,I.cell,I.free,I.freeC,I.pin,I.hok,I.len⟩
theorem Inv.unsuite(I:Inv (X.suite a) zg σ H s)(ok:X.Ok):Inv X zg σ H s:=⟨ok,I.os,I.bare,I.base,I.loc,I.cell,I.free,I.freeC,I.pin,I.hok,I.len⟩
theorem Inv.gone{h':Heap}{m':Str->Option bn}{t':Nat}(I:Inv X zg σ H s)(hn:h'.Ns X.env.locals m')(sb:io X.env.locals s.heap h'):Inv X zg (bx X.N.length none) H { s with heap:=h',toks:=t' }:=by
 have ne:∀b o,X.s₀.heap.get? b=some o->b≠X.env.locals:=fun b o e=>ir (gx (fu e) I.ok.above);refine⟨I.ok,I.os,I.bare,⟨fun b o e n hb hx=>?_,fun b o e n hb hx=>?_,I.base.free,fun b o e hx=>?_,I.base.tups,I.base.frzs,I.base.tbls⟩,⟨m',hn,fun i x v _ e2 _=>?_⟩,fun x c e=>?_,I.free,I.freeC,fun p hp=>?_,I.hok.stays fun b u e o q=>?_,yv⟩
 ·exact(sb.2 b (ne b o e)).trans (I.base.keep b o e n hb hx)
 ·obtain⟨sl,q⟩:=I.base.slot b o e n hb hx;exact⟨sl,(sb.2 b (ne b o e)).trans q⟩
 ·obtain⟨o',q⟩:=I.base.there b o e hx;exact⟨o',(sb.2 b (ne b o e)).trans q⟩
 ·rw[qg]at e2;split at e2<;>cases e2
 ·obtain⟨v,o,ho,hd⟩:=I.cell x c e;exact⟨v,o,(sb.2 c (I.cne x c e)).trans ho,hd⟩
 ·obtain⟨e,n,z,nf,d⟩:=I.pin p hp;exact⟨(sb.2 _ z).trans e,n,z,nf,d⟩
 ·refine(sb.2 b ?_).trans q;rintro rfl;rw[I.free]at e;cases e
end
section
variable {X:Cx}{G n:Str}{gp hpos pos:Pos}{i:Nat}{b₀ st:Stmt}{suite:List Stmt}{GA:Addr}{iniG:Option bn}{tb:XK->TS}{ts:TS}
def caught(K:cq)(GA:Addr)(i:Nat)(ts:TS)(D:Ends)(σ:St):XK:=fun cls a H'=>∃C b ini,cls=.ref C/\a=some b/\ExCls K C ini/\W.mroIn K C (.ref GA)=some true /\
 ts { nx:=fun _ _=>False,rt:=D.rt } (σ.set i (some (.ref b))) H'
def E1(K:cq)(GA:Addr)(i:Nat)(tb:XK->TS)(ts:TS):TS:=fun D σ H=>tb (caught K GA i ts D σ) D σ H
theorem LN(hx:∀e s,X.xe e s->False)(ac:X.stack=X.env::X.outer)(az:X.env.frame=some X.env.locals)(hN:X.N.Nodup)(hi:X.N[i]?=some n)(hl:X.env.kindOf n=some .local)(hg:Gl X G)(hm:X.mg G=some (.ref GA))(qG:ExCls X.K GA iniG)
  (hb:PSX X st tb) (hs:∀a,PSs (X.suite a) (b₀::suite) ts) (hdb:(G==("__debug__":Str))=false:=by decide):
  PS X (.Try [st] [.ExceptHandler (some (.Name G gp)) (some n) (b₀::suite) hpos] [] [] pos) (E1 X.K GA i tb ts):=by
 intro zg s σ H D I h;refine wpAny_Try_except (wpAny_execs_cons (jj (hb zg s σ H D _ (fun e s₁=>cv (model X.prog X.w) X.A (noteFrame e X.env) (fun _ s₂=>cv (model X.prog X.w) X.A (setFlight e none) (fun _ s₃=>cv (model X.prog X.w) X.A (handleBy e X.env [.ExceptHandler (some (.Name G gp)) (some n) (b₀::suite) hpos]) (SP X zg D) X.xe s₃) X.xe s₂) X.xe s₁) I h ?_) (fun fl s1 q=>?_) fun _ _ z=>z))
 rotate_left
 ·cases fl with
  |next=>exact qo (qo q)
  |ret v=>exact q
  |brk=>exact q
  |cont=>exact q
 intro H1 s1 v s' I1 cx;obtain⟨H',a,C,dx,rfl,F,C',b,ini,eC,eb,qC,ay,ap⟩:=cx;cases eC;cases eb;obtain⟨B,t,fl,kB,eB,tB⟩:=F.fl;rw[ac]at fl;have frames:X.A.frames=some (X.env::X.outer):=by rw[I1.ok.frames,ac]
 refine Lw frames az fl fun h₄ ag ar=>?_;refine Nr ag fun h₅ ae aq=>?_;have bB:∀b o,X.base.get? b=some o->B.get? b=some o:=fun b o e=>kB b o (I1.bk b o e) (I1.bs b o e).2 fun z=>by
  have:=(I1.stack.mem z).1;rw[e]at this;cases this
 have kin:X.K.In h₅:=I1.ok.mod.kin.keeps fun b o e=>ae.1 b o (bB b o e);obtain⟨oe,al,a0,_⟩:=ae.there;refine wpAny_handleBy_cons (codeAny_handlers_test ?_) (by intro q;cases q);refine Calls.Name_function_global I1.ok.kind hg (Calls.loadGlobal_global (by rw[I1.ok.glob];exact I1.mod.glob.keeps fun b o e=>ae.1 b o (bB b o e)) hm ?_) hdb;refine NI kin qC qG al a0 ay (codeAny_handlers_suite_as ?_);refine Nj ae fun h₆ aa an=>?_;obtain⟨au,af,ai,ah⟩:=aa.there;subst ah;have sm:s'.heap.UpToSlots h₆:=(ar.trans aq).trans an;have na:H' a=none:=by
  cases z:H' a with
  |none=>rfl
  |some u=>
   obtain⟨o,q⟩:=tB a u z;rw[fl.2.1]at q;cases q
 have ao:∀b o,s1.heap.get? b=some o->b≠a:=fun b o q z=>by
  subst z;rcases eB b o q with z|⟨o',z⟩
  ·rw[ac]at z;obtain⟨_,o2,q2,nf⟩:=aa.2.2.1.mem z;obtain⟨aw,as,q7,_,d7,_⟩:=aa.first
   rw[q2]at q7;cases q7;exact nf _ d7
  ·rw[fl.2.1]at z;cases z
 have I6:Inv X zg σ (upd H' a (exO a C au.dict)) { s' with heap:=h₆ }:=by
  refine I1.call' (ch:=[]) F.os ⟨fun b o q n hb _=>aa.1 b o (kB b o q n hb),fun b o q n hb _=>?_,fun b o q n _=>?_,fun b o q _=>?_,fun b xs q=>?_,fun b o u q=>?_,fun b ps q=>?_⟩ ?_ F.bare (fun b z=>absurd z yv)
  ·obtain⟨sl,q1⟩:=F.un.any q n yv;rw[ac]at hb;obtain⟨_,o3,q3,nf⟩:=fl.2.2.1.mem hb;rw[q1]at q3;cases q3;obtain⟨av,q4⟩:=sm b _ q1 nf;exact⟨av,q4⟩
  ·rw[zG (ao b o q)];exact F.un.free b o q n yv
  ·rcases eB b o q with z|⟨o',z⟩
   ·rw[ac]at z;obtain⟨_,o3,q3,_⟩:=aa.2.2.1.mem z;exact⟨o3,q3⟩
   ·exact⟨o',aa.1 b o' z⟩
  ·have q2:=F.un.tups b xs q;rw[zG (zO q2 na)];exact q2
  ·have q2:=F.un.frzs b o u q;rw[zG (zO q2 na)];exact q2
  ·have q2:=F.un.tbls b ps q;rw[zG (zO q2 na)];exact q2
  ·intro b u q;by_cases hb:b=a
   ·subst hb;rw[zM]at q;cases q;exact J8 af ai (by
     obtain⟨aw,as,q7,_,d7,_⟩:=aa.first
     rw[af]at q7;cases q7;exact⟨_,d7⟩)
   ·rw[zG hb]at q;refine(F.hok b u q).stay (fun c v hc q1=>?_) (fun c q1=>by rw[zG (zO q1 na)];exact q1) fun c xs q1=>by rw[zG (zO q1 na)];exact q1
    have tr:∀c u,H' c=some u->s'.heap.get? c=some v->h₆.get? c=some v:=fun c u e q1=>by
     obtain⟨o',z⟩:=tB c u e;have:=fl.1 c o' z;rw[q1]at this;cases this;exact aa.1 c v z
    rcases hc with rfl|hc
    ·exact tr _ _ q q1
    ·exact tr _ _ hc q1
 have a1:σ.length=X.N.length:=I6.len;refine uQ (v:=.ref a) I6 hN hi (.inl hl) rfl (fun s7 I7=>?_) (.inr hl);refine jj (hs a zg s7 _ _ _ (I7.suite a) ap) (fun f8 s8 q=>?_) fun _ _ z=>z.elim;cases f8 with
 |ret u=>
  obtain⟨w,σ8,H8,I8,r8,q8⟩:=q;have J:=I8.unsuite I6.ok;obtain⟨m8,ak,_⟩:=J.loc;have aj:(X.env.scope.kind==.class||(X.env.scope.kind==.module&&X.env.locals != X.env.globals))=false:=by rw[J.ok.kind];rfl
  refine wpAny_nameGoes hl ak aj fun h9 m9 am ax=>?_;exact⟨w,_,H8,J.gone am ax,r8,q8⟩
 |next=>obtain⟨_,_,_,z⟩:=q;exact z.elim
 |brk=>obtain⟨_,_,_,z⟩:=q;exact z.elim
 |cont=>obtain⟨_,_,_,z⟩:=q;exact z.elim
end
end
section
structure RoomN(k:Nat)(A:gf):Prop where
 dp:A.depth+3*k+5<recursionLimit
 un:A.units+16*k+200<rf
theorem Room.suite{k:Nat}{A:gf}(r:Room k A)(a:Addr):RoomN k (A.mark (some (.ref a))):=⟨r.dp,r.un⟩
theorem RoomN.mono{j k:Nat}{A:gf}(r:RoomN k A)(h:j<=k):RoomN j A:=⟨by have:=r.dp;omega,by have:=r.un;omega⟩
theorem RoomN.deeper{k:Nat}{A:gf}(r:RoomN (k+1) A)(env:Env):RoomN k (A.deeper env):=
 ⟨by have:=r.dp;show A.depth+1+3*k+5<_;omega,by have:=r.un;show A.units+3+16*k+200<_;omega⟩
theorem RoomN.depth{k:Nat}{A:gf}(r:RoomN k A):A.depth<recursionLimit:=by have:=r.dp;omega
theorem RoomN.units{k:Nat}{A:gf}(r:RoomN k A):A.units+64<rf:=by have:=r.un;omega
structure FnOkN(P:fg)(w:gg)(K:cq)(mg:Str->Option bn)(base:Heap)(CX:CXT)(k:Nat)(f:Addr)(fd:ng)(ps:List Str)(sp:Sp):Prop where
 len:∀vs H Q E,sp vs H Q E->vs.length=ps.length
 run:∀(A:gf) (outer:List Env) (s:bu) (H:Hp) (args:Args) (us:List bn) (vs:List V) (Q:VK) (E:XK),RoomN k A->Env0 P w K mg base A outer s H->BindsTo s fd args (ps.zip us)->Vals vs us->sp vs H Q E ->
  tw (model P w) A (.call (.ref f) args) (CR CX outer P w H s Q E) s
abbrev cxN (P:fg) (w:gg) (K:cq) (mg:Str->Option bn) (base:Heap) (N:List Str) (qual:Str) (scope:Scope) (f:Addr) (cd:bn) (A:gf) (outer:List Env) (s:bu) (H:Hp):Cx:=
 { bU CX0 P w K mg base N qual scope f cd A outer s H E0 with calm:=false,xe:=fun _ _=>False }
section
variable {P:fg}{w:gg}{K:cq}{mg:Str->Option bn}{base:Heap}{k:Nat}
theorem KN{f:Addr}{name qual:Str}{ac:Arguments}{ae:List Stmt}{scope:Scope}{dV kV ag pm aa ct oc:bn}{an od:Option Addr}
  {osl:Array (Option bn)}{N ps:List Str}{sp:Sp} (lk:K.lookup f=some ⟨oc,od,.func (W.fnOf name qual ac ae scope dV kV ag pm an aa ct),osl⟩) (hcd:W.codeIn K aa qual=true) (S:FnScope N ps scope)
  (len:∀vs H Q E,sp vs H Q E->vs.length=ps.length)
  (hbody:∀(A:gf) (outer:List Env) (s:bu) (H:Hp) (vs:List V) (Q:VK) (E:XK),RoomN k (A.deeper (iy qual scope s.heap.objs.size f aa))->sp vs H Q E ->
   ∃t,PSs (cxN P w K mg base N qual scope f aa A outer s H) ae t/\t { nx:=fun _ H'=>Q .non H',rt:=Q } (start N vs) H):
  FnOkN P w K mg base CX0 (k+1) f (W.fnOf name qual ac ae scope dV kV ag pm an aa ct) ps sp:=by
 refine⟨len,fun A outer s H args us vs Q E hr e0 hb r ah=>?_⟩;have hl:=len _ _ _ _ ah;have KX:K.In s.heap:=e0.mod.kin.keeps fun b o e=>(e0.bs b o e).1;have ai:s.heap.NoLimit:=e0.mod.nolimit.keeps fun b o e=>(e0.bs b o e).1;have af:∀y∈ps.zip us,scope.names.lookup y.1=some .local\/(scope.names.lookup y.1=some .cell/\((cellsFrom (s.heap.objs.size+1) scope.names []).lookup y.1).isSome=true):=fun⟨n,v⟩ hy=>by
  rcases S.par n (of_mem_zip hy).1 with q|q
  ·exact .inl q
  ·exact .inr ⟨q,W.cellsFrom_some _ _ _ (.inl q)⟩
 refine codeAny_call_function hr.depth (KX _ _ lk) rfl S.co S.gen rfl (W.codeRec_of KX hcd) (hb _ _ _ _ ?_);refine wpAny_newFunctionEnv_cells S.kind af fun env he s1 x=>?_;subst he;refine⟨ai.keeps x.toInCall.keep,codeAny_func ?_⟩;obtain⟨t,ht,hq⟩:=hbody A outer s H vs Q E (hr.deeper _) ah;have e1:Env0 P w K mg base { A with handled:=none } outer s H:=⟨e0.frames,e0.mod,e0.bs,e0.bsz,e0.funs,e0.frf,e0.hok,e0.bare⟩;have I0:Inv (bU CX0 P w K mg base N qual scope f aa { A with handled:=none } outer s H E0) [] (start N vs) H s1:=Af S rfl e1 hl r x;have I:Inv (cxN P w K mg base N qual scope f aa A outer s H) [] (start N vs) H s1:=
  ⟨⟨I0.ok.mod,I0.ok.kind,I0.ok.glob,I0.ok.blt,I0.ok.above,I0.ok.inj,I0.ok.has,I0.ok.cab,(fun z=>Bool.noConfusion z),Around.frames_deeper e0.frames,I0.ok.stk,I0.ok.exf,I0.ok.bs,I0.ok.bsz,I0.ok.noex,I0.ok.exfs,I0.ok.funs,I0.ok.frf⟩,
   I0.os,I0.bare,I0.base,I0.loc,I0.cell,I0.free,I0.freeC,I0.pin,I0.hok,I0.len⟩
 refine jj (ht [] s1 (start N vs) H _ I hq) (fun fl s' hs=>?_) fun e s' hs=>hs.elim;have fin:∀{σ':St}{H':Hp}{v:V}{u:bn},Inv (cxN P w K mg base N qual scope f aa A outer s H) [] σ' H' s'->RelV v u->Q v H'->CE outer P w H s Q u s':=
  fun {σ' H' v u} J rv q=>⟨v,H',J.os,J.bare,J.base,J.hok,rv,q⟩
 cases fl with
 |ret u=>
  obtain⟨v,σ',H',J,rv,q⟩:=hs;exact fin J rv q
 |next=>
  obtain⟨σ',H',J,q⟩:=hs;exact fin (v:=V.non) (u:=jq) J rfl q
 |brk=>
  obtain⟨_,_,_,q⟩:=hs;exact iu q
 |cont=>
  obtain⟨_,_,_,q⟩:=hs;exact iu q
end
structure DfN(P:fg)(w:gg)(K:cq)(mg:Str->Option bn)(base:Heap)(x:Str)(ps:List Str)(k:Nat)(sp:Sp):Prop where
 ex:∃f fd,FnOkN P w K mg base CX0 k f fd ps sp/\mg x=some (.ref f)/\rg K (.ref f)=true/\Binds K fd ps []
section
variable {P:fg}{w:gg}{K:cq}{mg:Str->Option bn}{base:Heap}{x:Str}{st:Stmt}{N ps:List Str}{k:Nat}
theorem DfN.dN{q:PN}(D:Dd K mg x st ps)(S:FnScope N ps (zk st))(n:Nat)(hn:N.length=ps.length+n)
  (hbody:∀(f:Addr) (z:bn) (A:gf) (outer:List Env) (s:bu) (H:Hp),RoomN k (A.deeper (iy x (zk st) s.heap.objs.size f z)) ->
   ∃t dt,PSs (cxN P w K mg base N x (zk st) f z A outer s H) (cR st) t/\RS t dt/\∀xs S R,q xs S R->dt (aG S.length R) (xs.map some++bx n none) S):DfN P w K mg base x ps (k+1) (spN ps q):=by
 obtain⟨f,fd,F,hm,hb⟩:=D.ex;have kp:=F.kp;obtain⟨oc,od,kV,af,pm,an,z,ct,ae,rfl,lk,ac⟩:=F.ex;refine⟨f,_,KN lk ac S (fun vs H Q E h=>h.1) fun A outer s H vs Q E hr ⟨hl,h,o,S',xs,R,aa,hx,hq,c⟩=>?_,hm,kp,hb⟩;obtain⟨t,dt,h1,h2,h3⟩:=hbody f z A outer s H hr;refine⟨t,h1,h2 h o H _ _ S' _ _ ?_ aa (h3 xs S' R hq) (eok aa c)⟩;have e:N.length-vs.length=n:=yw
 unfold start;rw[e];exact xQ hx
end
section
variable {X:Cx}{x:Str}{ps:List Str}{k j:Nat}{pos pos':Pos}{e:Expr}{es:List Expr}{t:TA}
theorem sQ{q:PN}(D:DfN X.prog X.w X.K X.mg X.base x ps k (spN ps q))(hr:RoomN j X.A)(hk:k<=j)(ha:PA X (e::es) t)(hg:Gl X x:=by rfl)(aa:(x==("__debug__":Str))=false:=by decide)
  (q1:fk (e::es) X.env=(false,eval e X.env)::fk es X.env:=by rfl) (q2:((ph pos (fk es X.env)).any fun x=>x.fst)=false:=by rfl):PE X (.Call (.Name x pos') (e::es) [] pos) (fK (spN ps q) [] E0 t):=by
 obtain⟨f,fd,F,hm,kp,hb⟩:=D.ex;intro zg s σ H Q I h;refine ol (mU I hg hm ?_ aa);refine W.callWith_K (h₀:=X.base) I.ok.mod.kin kp (thn (ha pos zg s σ H _ I h) fun us s1 ⟨vs,H1,I1,r,q5⟩=>⟨I1.kIn,?_⟩) q1 q2;have q':spN ps q vs H1 Q E0:=by simpa using q5
 have hl:us.length=ps.length:=by rw[<- r.length];exact F.len _ _ _ _ q'
 have z:=hb s1 us I1.kIn (by rw[jl];exact hl);rw[jl]at z;refine wpAny_call (codeAny_mono (F.run X.A X.stack s1 H1 ⟨us,[]⟩ us vs Q E0 (hr.mono hk) I1.env0 z r q') fun r s' hq=>?_);cases r with
 |error e=>exact hq.elim
 |ok fl=>
  cases fl with
  |ret u=>exact I1.after hq
  |next=>exact iu hq
  |brk=>exact iu hq
  |cont=>exact iu hq
end
end
end L2
namespace L2
open PySem PySem.Spec PySem.Calls PyProof.Rows PySem.W PySem.Builtin PySem.Builtin.ObjectAttr PySem.Builtin.Getset_descriptor
section
variable {prog:fg}{w:gg}{A:gf}{E:bn->bu->Prop}{h:Heap}{g:Array GenState}{d:Drawn}{t:Nat}{os:OsState}{K:cq}{x C:Addr}{ox:Obj}{od:Option Obj}{name:Str}{tk:Tok}
theorem Je{tp:bn}{R:Result->bu->Prop}(X:K.In h)(T0:∀M,Looks M h (typeOf (.ref x)) (.ref C))(hm:mroIn K C (.type "object")=some true)
  (hr:R (.ok (.ret (.ref C))) ⟨h,g,d,t,os⟩):tw (model prog w) A (.call (.builtin "getset_descriptor.__get__") ⟨[.builtin "object.__class__",.ref x,tp],[]⟩) R ⟨h,g,d,t,os⟩:=by
 have L0:=T0 (model prog w);have L1:=looks_mroIn (M:=model prog w) X hm;refine codeAny_call_builtin KF.slot_gs.plain KF.entry_gs (KF.slot_gs.check _ _ _ _ _ _ _ _ KF.type_class (KF.args_gs _ _ _) ?_);unfold ni.«getset_descriptor.__get__» descrGet;rw[dga_obj];refine bo (cr ?_);unfold descrGetter descrCheckInstance descrNameAndClass isInstance;simp only[KF.owner_class]
 repeat lk
 refine⟨Code.quiet_builtin _ (by decide +kernel),qu KF.entry_class ?_⟩;unfold ni.«object.__class__» shownTypeOf
 repeat lk
 exact hr
theorem Nl{M:Model}{a gt:bn}(X:K.In h)(ha:findIn K (.ref C) name=some (some a))(hg:specialIn K a "__get__" = some (some gt))(hd:takesIn K a=some true):Looks M h (find (.ref x) (.ref C) name) (.bind gt a):=by
 have L1:=looks_findIn (M:=M) X ha;have L2:Looks M h (getOf (some a)) (some gt):=looks_specialIn X hg;refine L1.andThen (L2.andThen ?_);have L3:=looks_takesIn (M:=M) X hd;exact(show Looks M h (dataDescriptor? (some a) (some gt)) (some (gt,a))from L3.andThen .now).andThen (Looks.tag .now)
theorem Hz{M:Model}{z:bn}{Q:Unit->bu->Prop}(X:K.In h)(T0:∀M,Looks M h (typeOf (.ref x)) (.ref C))(hB:mroIn K C (.type "BaseException")=some true)(hq:Q () ⟨h,g,d,t,os⟩):
  cv M A (checkBuiltinCall "BaseException.__getattribute__" ⟨[.ref x,z],[]⟩) Q E ⟨h,g,d,t,os⟩:=by
 have hk:builtinKind "BaseException.__getattribute__" = some .slot:=by decide +kernel
 have aa:splitId "BaseException.__getattribute__" = some ("BaseException","__getattribute__"):=by decide +kernel
 have ha:=F.args_bexc_ga (.ref x) z;simp only[checkBuiltinCall,hk,aa];refine bo ?_;have L0:=T0 M;have L1:=looks_mroIn (M:=M) X hB;have L2:Looks M h (isInstance (.ref x) (.type "BaseException")) true:=L0.andThen L1;refine L2.at ?_
 repeat (any_goals (first|assumption|wp_step))
theorem Iv{v:bn}{Q:Fin->bu->Prop}(X:K.In h)(T0:∀M,Looks M h (typeOf (.ref x)) (.ref C))(hf:Looks (model prog w) h (find (.ref x) (.ref C) name) (.value v))(hq:Q (.done (.ret v)) ⟨h,g,d,t,os⟩):
  cv (model prog w) A (ni.«object.__getattribute__» ⟨[.ref x,.str name tk],[]⟩) Q E ⟨h,g,d,t,os⟩:=by
 have L0:=T0 (model prog w);have L1:=hf;unfold ni.«object.__getattribute__»
 repeat (any_goals (first|assumption|with_reducible refine L0.at ?_|with_reducible refine L1.at ?_|wp_step))
theorem M7{Q:Fin->bu->Prop}(X:K.In h)(T0:∀M,Looks M h (typeOf (.ref x)) (.ref C))(hm:mroIn K C (.type "object")=some true)(hf:Looks (model prog w) h (find (.ref x) (.ref C) "__class__") (.bind (.builtin "getset_descriptor.__get__") (.builtin "object.__class__")))
  (hq:Q (.done (.ret (.ref C))) ⟨h,g,d,t,os⟩):cv (model prog w) A (ni.«object.__getattribute__» ⟨[.ref x,.str "__class__" tk],[]⟩) Q E ⟨h,g,d,t,os⟩:=by
 have L0:=T0 (model prog w);have L1:=hf;unfold ni.«object.__getattribute__»
 repeat (any_goals (first|assumption|with_reducible refine L0.at ?_|with_reducible refine L1.at ?_|(refine wpAny_call (Je X T0 hm ?_))|wp_step))
structure ExAt(K:cq)(C:Addr):Prop where
 ga:findIn K (.ref C) "__getattribute__" = some (some (.builtin "BaseException.__getattribute__"))
 gn:findIn K (.ref C) "__getattr__" = some none
 base:mroIn K C (.type "BaseException")=some true
theorem CD{v:bn}{aa z:Bool}{Q:bn->bu->Prop}(X:K.In h)(T0:∀M,Looks M h (typeOf (.ref x)) (.ref C))(F0:ExAt K C)
  (en:∀(A:gf) (Q:Fin->bu->Prop) (E:bn->bu->Prop),Q (.done (.ret v)) ⟨h,g,d,t,os⟩->cv (model prog w) A (ni.«object.__getattribute__» ⟨[.ref x,.str name tk],[]⟩) Q E ⟨h,g,d,t,os⟩)
  (hv:handedIn v=true) (hq:Q v ⟨h,g,d,t,os⟩):cv (model prog w) A (getAttrBy (.ref x) (.str name tk) aa z) Q E ⟨h,g,d,t,os⟩:=by
 have f3:=F.attrBase_ValueError.ga.bind (.ref x);have hx0:(z&&onTheHeap (qy "BaseException.__getattribute__"))=false:=by cases z<;>rfl
 have ac:(qy "BaseException.__getattribute__" == qy "object.__getattribute__")=false:=by decide +kernel
 have ae:(onTheHeap (fh C)&&qy "BaseException.__getattribute__" == qy "object.__getattribute__")=false:=by rw[ac];rfl
 have L0:=T0 (model prog w);have L1:=looks_findIn (M:=model prog w) X F0.ga;have L2:=looks_findIn (M:=model prog w) X F0.gn
 repeat (any_goals (first|assumption|with_reducible refine L0.at ?_|with_reducible refine L1.at ?_|with_reducible refine L2.at ?_|wp_step))
 exact codeAny_call_builtin F.attrBase_ValueError.ga.plain F.entry_bexc_ga (Hz X T0 F0.base (en _ _ _ (handed_on hv hq)))
theorem LV{Q:Option bn->bu->Prop}(X:K.In h)(T0:∀M,Looks M h (typeOf (.ref x)) (.ref C))(F0:ExAt K C)(hm:mroIn K C (.type "object")=some true)(hf:Looks (model prog w) h (find (.ref x) (.ref C) "__class__") (.bind (.builtin "getset_descriptor.__get__") (.builtin "object.__class__")))
  (hq:Q (some (.ref C)) ⟨h,g,d,t+1,os⟩):cv (model prog w) A (getAttr? (.ref x) "__class__") Q E ⟨h,g,d,t,os⟩:=by
 unfold getAttr? getAttrBy?;refine bo (wpAny_mkText (bo (wpAny_attempt (CD (t:=t+1) X T0 F0 (fun A Q E q=>M7 X T0 hm hf q) rfl ?_))));exact cr hq
theorem N0{v:bn}{z:Bool}{Q:bn->bu->Prop}(X:K.In h)(T0:∀M,Looks M h (typeOf (.ref x)) (.ref C))(F0:ExAt K C)(hf:Looks (model prog w) h (find (.ref x) (.ref C) name) (.value v))(hv:handedIn v=true)
  (hq:Q v ⟨h,g,d,t+1,os⟩):cv (model prog w) A (getAttr (.ref x) name z) Q E ⟨h,g,d,t,os⟩:=by
 unfold getAttr;exact bo (wpAny_mkText (CD (t:=t+1) X T0 F0 (fun A Q E q=>Iv X T0 hf q) hv hq))
end
end L2
namespace L2
open PySem PySem.Spec PySem.Calls PyProof.Rows
structure SpK(K:cq):Prop where
 hn:W.specialIn K (.builtin "object.__class__") "__get__" = some (some (.builtin "getset_descriptor.__get__"))
 ht:W.takesIn K (.builtin "object.__class__")=some true
def exM(C:Addr):List bn:=[.ref C,.ref 24,.type "ValueError",.type "Exception",.type "BaseException",.type "object"]
structure ExK(K:cq)(C:Addr):Prop where
 ty:W.typeIn K (.ref C)=some (.type "type")
 ga:sf K (.ref C) "__getattribute__" = some (some (.builtin "BaseException.__getattribute__"))
 gn:sf K (.ref C) "__getattr__" = some none
 cls:sf K (.ref C) "__class__" = some (some (.builtin "object.__class__"))
 mro:∃cd,uf K C=some cd/\cd.mro=exM C
theorem ExK.mk'{K:cq}{C:Addr}{cd:ClassData}(a:W.typeIn K (.ref C)=some (.type "type"))(b:sf K (.ref C) "__getattribute__" = some (some (.builtin "BaseException.__getattribute__")))(c:sf K (.ref C) "__getattr__" = some none)
  (d:sf K (.ref C) "__class__" = some (some (.builtin "object.__class__"))) (e:uf K C=some cd) (f:cd.mro=exM C):ExK K C:=⟨a,b,c,d,cd,e,f⟩
section
variable {K:cq}{x C D:Addr}
theorem ExK.mroIn(E:ExK K C)(v:bn):W.mroIn K C v=some ((exM C).contains v):=by
 obtain⟨cd,h1,h2⟩:=E.mro;unfold W.mroIn;rw[h1];show (if cd.mro.isEmpty=true then none else some (cd.mro.contains v))=_;rw[h2];rfl
theorem ExK.at_(E:ExK K C):ExAt K C:=⟨E.ga,E.gn,(E.mroIn _).trans rfl⟩
def IsEx(x C:Addr)(h:Heap):Prop:=∃o,h.get? x=some o/\o.cls=.ref C
theorem IsEx.ty{h:Heap}(p:IsEx x C h)(M:Model):W.Looks M h (typeOf (.ref x)) (.ref C):=by
 obtain⟨o,e,c⟩:=p;exact c▸(W.Looks.ld e).andThen .now
theorem Gp(E0:ExK K C)(S0:SpK K):W.KitX K (.ref x) (.ref C) (IsEx x C) where
 ty:=fun M h _ p=>p.ty M
 it:=fun M h X _=>by
  obtain⟨cd,hc,_⟩:=E0.mro;unfold uf at hc;split at hc
  ·rename_i c' d' ac aa ho;intro A' Q' E' s' k q;unfold isType loadHead;exact bo (wpAny_loadPart (k _ _ (X _ _ ho)) (cr q))
  ·cases hc
 ne:=fun h tp dd af n sl X ae=>by
  obtain⟨cd,hc,_⟩:=E0.mro;refine Bool.eq_false_iff.mpr fun q=>?_;have e:C=tp:=Value.ref.inj (beq_iff_eq.mp q);subst e;unfold uf at hc;split at hc
  ·rename_i c' d' ac aa ho;have z:=(X _ _ ho).symm.trans ae;cases z
  ·cases hc
 ca:=fun {prog w A E Q s} X p k=>by
  obtain⟨h,g,d,t,os⟩:=s;exact LV X p.ty E0.at_ ((E0.mroIn _).trans rfl) (Nl X E0.cls S0.hn S0.ht) k
def excs:List Addr:=[37,49,61,73,85,104,123,142,161,180]
def exc0:List Addr:=[37,49,61,73,85]
structure Exs(K:cq):Prop where
 sp:SpK K
 all:∀C∈excs,ExK K C
 cl:∀C∈exc0,ExCls K C none
 ci:∀C∈excs,∃ini,ExCls K C ini
theorem Exs.kit(E:Exs K)(hC:C∈excs)(hD:D∈excs):W.kitOne K (.ref C) (.ref D)=some (decide (C=D)):=by
 have EC:=E.all C hC;have ED:=E.all D hD;obtain⟨ae,aa,_⟩:=ED.mro;unfold W.kitOne;by_cases h:C=D
 ·subst h;rw[cp yv,ke rfl]
 ·rw[cf (by simpa using h),gz h];show (if ((uf K D).isSome&&W.typeIn K (.ref D)==some (.type "type"))=true then W.mroIn K C (.ref D)else none)=_;rw[aa,ED.ty,cp yv,EC.mroIn];have ac:D≠24:=by
   rintro rfl
   revert hD
   decide
  have:(exM C).contains (.ref D)=false:=by
   unfold exM;simp only[List.contains_cons,List.contains_nil,Bool.or_false,Bool.or_eq_false_iff];refine⟨beq_eq_false_iff_ne.mpr fun z=>h (Value.ref.inj z).symm,beq_eq_false_iff_ne.mpr fun z=>ac (Value.ref.inj z),?_⟩;simp
  rw[this]
theorem Exs.kitV(E:Exs K)(hC:C∈excs):W.kitOne K (.ref C) (.type "ValueError")=some true:=by
 have EC:=E.all C hC;unfold W.kitOne;rw[cf yv];show (if W.kitMeta "ValueError" = true then W.mroIn K C (.type "ValueError")else none)=_;rw[cp (by decide +kernel),EC.mroIn];rfl
end
def Ay(K:cq):List V->Hp->VK->Prop:=fun xs H Q=>∃a C d c b,xs=[.ref a,c]/\H a=some (exO a C d)/\ExK K C/\SpK K/\(∀u,RelV c u->W.kitOne K (.ref C) u=some b)/\Q (.bl b) H
theorem eV{X:Cx}:CallR X (.builtin "isinstance") (Ay X.K):=by
 intro zg s σ H xs us Q I r h;obtain⟨a,C,d,c,b,rfl,ha,E0,S0,hk,q⟩:=h;obtain⟨u,w',rfl,ru,aa⟩:=vals2 r;cases (show u=fh a from ru);obtain⟨⟨o,e,hc,_⟩,_⟩:=(show ObjOk X.prog X.w H s.heap a (exO a C d)from I.hok a _ ha);exact qd (Gp E0 S0) I.kIn ⟨o,e,hc⟩ (hk _ aa) (fun z=>nomatch z) fun tk=>⟨.bl b,H,I.tok tk,rfl,q⟩
def dF:List XV->Sto->RX->Prop:=fun xs S R=>arg2 xs fun x y=>∃C fs c,x=.x C fs/\y=.o c/\C∈excs/\((∃D,c=.ref D/\D∈excs/\R (.d (.bool (decide (C=D)))) S)\/(c=.ty "ValueError"/\R (.d (.bool true)) S))
theorem eP{K:cq}(E:Exs K):RC (Ay K) dF:=fun h o H S xs vs R Q hs hx q c=>by
 obtain⟨x,y,rfl,C,fs,k,rfl,rfl,hC,q1⟩:=qD q;obtain⟨v,u,rfl,aa,z⟩:=hxs2 hx;obtain⟨a,d,rfl,ha,_⟩:=aa;cases (show u=k from z);rcases q1 with ⟨D,rfl,hD,q2⟩|⟨rfl,q2⟩
 ·exact⟨a,C,d,_,_,rfl,zW _ _ ha,E.all C hC,E.sp,fun u ru=>by cases (show u=fh D from ru);exact E.kit hC hD,c o H S _ _ Ex.refl hs (xB _) q2⟩
 ·exact⟨a,C,d,_,_,rfl,zW _ _ ha,E.all C hC,E.sp,fun u ru=>by cases (show u=Value.type "ValueError" from ru);exact E.kitV hC,c o H S _ _ Ex.refl hs (xB _) q2⟩
def EK:V->List V->Hp->VK->Prop:=fun x vs H Q=>∃bs:List Bool,Has H (.list (bs.map lp)) x/\vs=[.bl true]/\Q (.int (bs.countP id)) H
theorem K5{X:Cx}:MtR X "list.count" EK:=by
 intro zg s σ H x vs v us Q I rx rv h;obtain⟨bs,hl,rfl,q⟩:=h;obtain⟨u,rfl,r1⟩:=rv.one;cases (show u=uc true from r1);have cl:lg (.list (bs.map lp))=true:=gv (u8 (wO fun _ _=>(GN:Shp 0 _))).ok;obtain⟨as,q2⟩:=Has.reads I (.list (bs.map lp)) x v hl cl rx;cases q2 with
 | @list l o vs n xs as₁ h1 h2 h3 h4=>
  refine count_list_bools (vs:=vs.toList) ⟨o,h1,h2,n,by simpa using h3⟩ h4 (by simp[Shape.has]) ?_;refine⟨.int (bs.countP id),H,I.tok _,⟨s.toks,?_⟩,q⟩;have:∀bs:List Bool,countIn (.bool true) (bs.map lp)=(bs.countP id:Int):=fun bs=>by
   induction bs with
   |nil=>rfl
   |cons b bs ih=>
    rw[gc,List.countP_cons];show (if same (.bool b) (.bool true)then (1:Int)else 0)+countIn (.bool true) (bs.map lp)=_;rw[ih];cases b
    ·show (0:Int)+_=_;simp
    ·show (1:Int)+_=_;simp;omega
  rw[this]
def jR:XV->List XV->Sto->RX->Prop:=fun x xs S R=>arg1 xs fun y=>y=.d (.bool true)/\∃ds,dX S x=some ds/\∃bs:List Bool,ds=bs.map lp/\R (.d (.int (bs.countP id))) S
theorem Kx:RM EK jR:=fun h o H S x v xs vs R Q hs hx z q c=>by
 obtain⟨y,rfl,rfl,ds,e2,bs,rfl,q1⟩:=cQ q;obtain⟨u,rfl,hu⟩:=hxs1 z;have hl:Has H (.list (bs.map lp)) v:=eR (x:=x) hs (by
  unfold dX at e2;split at e2
  ·cases e2;rfl
  ·rename_i k;show (S[k]?).map PyData.list=_;rw[e2];rfl
  ·cases e2) hx
 cases jB hu;exact⟨bs,hl,rfl,c o H S _ _ Ex.refl hs (xI _) q1⟩
def iV(q:PN)(da:DA):DE:=fun δ S R=>da δ S fun xs S1=>∃C fs,xs=[.x C fs]/\q [.x C fs] [] (ret0 S1 R)
theorem hxE{h o:List Addr}{H:Hp}{C:Addr}{fs:List (Str×bq)}{v:V}(hx:HasX h o H (.x C fs) v):HasX (h++o) [] H (.x C fs) v:=by
 have e:vx (h++o) [] H=vx h o H:=iZ fun b=>by simp
 show HasE (vx (h++o) [] H) C fs v;rw[e];exact hx
theorem Cu{ps:List Str}{q:PN}{tl:TA}{dl:DA}(hp:ps.length=1)(ha:RA tl dl):RE (fK (spN ps q) [] E0 tl) (iV q dl):=fun h o H δ σ S R Q he hs d c=>
 ha h o H δ σ S _ _ he hs d fun o1 H1 S1 xs vs e1 s1 x1 ⟨C,fs,z,d1⟩=>by
  subst z;obtain⟨v,rfl,hv⟩:=hxs1 x1;refine⟨by simp[hp],h++o1,[],[],[.x C fs],_,rep0 s1,⟨v,[],rfl,hxE hv,rfl⟩,d1,cn0 s1 (c.pre e1)⟩
end L2
namespace L2
open PySem PySem.Spec PyProof.Rows
section
abbrev EXD:=Addr->List (Str×bq)->Prop
abbrev PX:=List XV->Sto->RX->EXD->Prop
def CnX(h o:List Addr)(H:Hp)(EX:EXD)(E:XK):Prop:=∀o' H' S' C a fs,Ex o H o' H'->RepS h o' H' S'->HasE (vx h o' H') C fs (.ref a)->EX C fs->E (.ref C) (some a) H'
theorem CnX.pre{h o o':List Addr}{H H':Hp}{EX:EXD}{E:XK}(c:CnX h o H EX E)(e:Ex o H o' H'):CnX h o' H' EX E:=fun o2 H2 S2 C a fs e2=>c o2 H2 S2 C a fs (e.trans e2)
def RSx(E:XK)(EX:EXD)(t:TS)(dt:DS):Prop:=∀(h o:List Addr) (H:Hp) (δ:XE) (σ:St) (S:Sto) (En:DEnds) (D:Ends),RepE h o H δ σ->RepS h o H S->dt En δ S->EOk h o H En D->CnX h o H EX E->t D σ H
section
variable {E:XK}{EX:EXD}{t u:TS}{dt du:DS}
theorem bM(ht:RS t dt):RSx E EX t dt:=fun h o H δ σ S En D he hs q c _=>ht h o H δ σ S En D he hs q c
theorem cG(ht:RSx E EX t dt)(hu:RSx E EX u du):RSx E EX (dP t u) (zQ dt du):=fun h o H δ σ S En D he hs q c x=>
 ht h o H δ σ S _ _ he hs q ⟨fun o1 H1 δ1 S1 σ1 e1 z aa q1=>hu h o1 H1 δ1 σ1 S1 En D z aa q1 (c.pre e1) (x.pre e1),c.rt,c.bk,c.ct⟩ x
def iH(EX:EXD)(C:Addr):DS:=fun _ _ _=>EX C []
theorem Fb{C:Addr}:RSx E EX (FE E C) (iH EX C):=fun h o H δ σ S En D he hs q c x a ha=>by
 have sU:Same H (upd H a (exO a C none)):=Same.laid ha;have fr:=hs.fresh ha;exact x o _ S C a [] (Ex.of_same sU) (hs.same sU) ⟨a,none,rfl,zZ.mpr ⟨fr.1,fr.2,zM⟩,fun f dt z=>by cases z⟩ q
end
theorem oM{X:Cx}{st:Stmt}{t:TS}(h:PS X.nox st t):PS X st t:=fun zg s σ H D I hw=>
 jj (h zg s σ H D (I.wish _) hw) (fun _ _ q=>q.unwish) fun _ _ z=>iu z
def spX(ps:List Str)(q:PX):Sp:=fun vs H Q E=>vs.length=ps.length/\∃h o S xs R EX,RepS h o H S/\HasXs h o H xs vs/\q xs S R EX/\Cn h o H R Q/\CnX h o H EX E
structure DfX(P:fg)(w:gg)(K:cq)(mg:Str->Option bn)(base:Heap)(x:Str)(ps:List Str)(k:Nat)(sp:Sp):Prop where
 ex:∃f fd,FnOk P w K mg base (CX1 P w) k f fd ps sp/\mg x=some (.ref f)/\rg K (.ref f)=true/\Binds K fd ps []
section
variable {P:fg}{w:gg}{K:cq}{mg:Str->Option bn}{base:Heap}{x:Str}{st:Stmt}{N ps:List Str}{k:Nat}
theorem DfX.dN{q:PX}(D:Dd K mg x st ps)(S:FnScope N ps (zk st))(n:Nat)(hn:N.length=ps.length+n)
  (hbody:∀(f:Addr) (z:bn) (A:gf) (outer:List Env) (s:bu) (H:Hp) (E:XK) (EX:EXD),Room k (A.deeper (iy x (zk st) s.heap.objs.size f z)) ->
   ∃t dt,PSs (bU (CX1 P w) P w K mg base N x (zk st) f z A outer s H E) (cR st) t/\RSx E EX t dt/\∀xs S R,q xs S R EX->dt (aG S.length R) (xs.map some++bx n none) S):DfX P w K mg base x ps (k+1) (spX ps q):=by
 obtain⟨f,fd,F,hm,hb⟩:=D.ex;have kp:=F.kp;obtain⟨oc,od,kV,af,pm,an,z,ct,ae,rfl,lk,ac⟩:=F.ex;refine⟨f,_,BV lk ac S (fun vs H Q E h=>h.1) fun A outer s H vs Q E hr ⟨hl,h,o,S',xs,R,EX,aa,hx,hq,c,cx⟩=>?_,hm,kp,hb⟩;obtain⟨t,dt,h1,h2,h3⟩:=hbody f z A outer s H E EX hr;refine⟨t,h1,h2 h o H _ _ S' _ _ ?_ aa (h3 xs S' R hq) (eok aa c) cx⟩;have e:N.length-vs.length=n:=yw
 unfold start;rw[e];exact xQ hx
end
def Hg(sp:Sp)(t:TA):XK->TE:=fun Ex σ H Q=>t σ H fun vs H1=>sp vs H1 Q Ex
theorem Jf{X:Cx}{q:PX}{x:Str}{ps:List Str}{k j:Nat}{pos pos':Pos}{e:Expr}{es:List Expr}{t:TA}(D:DfX X.prog X.w X.K X.mg X.base x ps k (spX ps q))(hr:Room j X.A)(hk:k<=j)(hx:∀e s,X.xe e s->False)(ha:PA X (e::es) t)(hg:Gl X x:=by rfl)(z:(x==("__debug__":Str))=false:=by decide)
  (q1:fk (e::es) X.env=(false,eval e X.env)::fk es X.env:=by rfl) (q2:((ph pos (fk es X.env)).any fun x=>x.fst)=false:=by rfl):PEX X (.Call (.Name x pos') (e::es) [] pos) (Hg (spX ps q) t):=by
 obtain⟨f,fd,F,hm,kp,hb⟩:=D.ex;exact K1 hx F (hr.mono hk) hg hm kp hb ha z q1 q2
end
section
def jX(kn:DEnds->XE->RX)(m:Nat)(q:PX)(da:DA)(i:Nat)(hd:DS):DS:=fun En δ S=>da δ S fun xs S1=>∃ds,datas xs=some ds/\ds.length=m /\
 q (ds.map XV.d) [] (ret0 S1 (kn En δ)) fun C fs=>C∈excs/\hd { nx:=fun _ _=>False,rt:=En.rt } (δ.set i (some (.x C fs))) S1
def KnOk(kn:DEnds->XE->RX)(kt:Ends->St->VK):Prop:=∀(h o:List Addr) (H:Hp) (δ:XE) (σ:St) (En:DEnds) (D:Ends),RepE h o H δ σ->EOk h o H En D->Cn h o H (kn En δ) (kt D σ)
theorem hxs00{h o:List Addr}{H:Hp}:∀{es:List bq}{vs:List V},HasXs h o H (es.map XV.d) vs->HasXs (h++o) [] H (es.map XV.d) vs
 | [],_,q=>q
 |d::ds,vs,⟨v,r,e,hv,l⟩=>⟨v,r,e,hx0 hv,hxs00 l⟩
theorem KK{K:cq}{i m:Nat}{ps:List Str}{q:PX}{tl:TA}{dl:DA}{ts:TS}{ds:DS}{kn:DEnds->XE->RX}{kt:Ends->St->VK}{tb:XK->TS}(X0:Exs K)(hm:ps.length=m)(af:KnOk kn kt)(aa:∀Ex D σ H,tb Ex D σ H=(tl σ H fun vs H1=>spX ps q vs H1 (kt D σ) Ex))(ha:RA tl dl)(ae:RS ts ds):
  RS (E1 K 24 i tb ts) (jX kn m q dl i ds):=fun h o H δ σ S En D he hs d c=>by
 show tb (caught K 24 i ts D σ) D σ H;rw[aa];refine ha h o H δ σ S _ _ he hs d fun o1 H1 S1 xs vs e1 s1 x1 ⟨es,ac,hl,d1⟩=>?_;have ag:=fB ac;subst ag;refine⟨by rw[x1.len,gh,hl,hm],h++o1,[],[],es.map XV.d,_,_,rep0 s1,?_,d1,cn0 s1 (af h o1 H1 δ σ En D (he.mono e1) (c.pre e1)),?_⟩
 ·exact hxs00 x1
 ·intro o' H' S' C a fs e' s' hE ⟨hC,hh⟩;have EC:=X0.all C hC;obtain⟨ini,qC⟩:=X0.ci C hC;refine⟨C,a,ini,rfl,rfl,qC,(EC.mroIn _).trans (by simp[exM]),?_⟩;have sH:Same H1 H':=fun b u eb=>(e'.kp b u yv eb).2;have e2:Ex o1 H1 o1 H':=Ex.of_same sH;have sv:Same (vx (h++o1) o' H') (vx h o1 H'):=fun b u eb=>by
   obtain⟨n1,n2,n3⟩:=zZ.mp eb;exact zZ.mpr ⟨fun z=>n1 (gj _ z),fun z=>n1 (gm _ z),n3⟩
  exact ae h o1 _ (δ.set i (some (.x C fs))) (σ.set i (some (.ref a))) S1 _ _ (((he.mono e1).mono e2).set (HasE.mono sv hE)) (s1.same sH) hh ⟨fun _ _ _ _ _ _ _ _ z=>z.elim,(c.pre (e1.trans e2)).rt,fun _ _ _ _ _ _ _ _ z=>z.elim,fun _ _ _ _ _ _ _ _ z=>z.elim⟩
def knD:DEnds->XE->RX:=fun En δ _ S2=>En.nx δ S2
theorem Mh:KnOk knD (fun D σ _ H1=>D.nx σ H1):=fun h o H δ σ En D he c o' H' S' x v e hs _ q=>c.nx o' H' δ S' σ e (he.mono e) hs q
theorem Ju:jc "ValueError" = some (.type "ValueError"):=by decide +kernel
end
end L2
namespace L2
open PySem PySem.Spec PySem.Calls PyProof.Rows PySem.W PySem.Builtin PySem.Builtin.ObjectAttr
theorem Mj(self:bn)(C:Addr):refuseLoop self "__setattr__" (exM C)=pure ():=by
 unfold exM;rw[refuseLoop_ref,refuseLoop_ref];exact F.store_ValueError.passes self
theorem Kc{K:cq}{h:Heap}{C:Addr}{cd:ClassData}(X:K.In h)(e:clsIn K C=some cd):∃c0 dd sl,h.get? C=some ⟨c0,dd,.cls cd,sl⟩:=by
 unfold clsIn at e;split at e
 ·rename_i q;cases e;exact⟨_,_,_,X _ _ q⟩
 ·cases e
section
variable {prog:fg}{w:gg}{A:gf}{E:bn->bu->Prop}{h:Heap}{g:Array GenState}{d:Drawn}{t:Nat}{os:OsState}{K:cq}{x C:Addr}{o:Obj}{cd:ClassData}{name:Str}{v:bn}{mA:Str->Option bn}
def XAt(h:Heap)(x:Addr)(o:Obj)(mA:Str->Option bn):Prop:=h.get? x=some o/\(∀c,o.data≠.cls c)/\((o.dict=none/\∀n,mA n=none)\/∃dx,o.dict=some dx/\dx≠x/\h.Ns1 dx mA)
theorem NA{tk:Tok}{Q:Fin->bu->Prop}{ns:List Str}(X:K.In h)(ai:clsIn K C=some cd)(hm:cd.mro=exM C)(hdct:cd.hasDict=true)(am:findIn K (.ref C) name=some none)(hc:o.cls=.ref C)(I:XAt h x o mA)
  (hq:∀h' tk' dx,XAt h' x { o with dict:=some dx } (fun y=>if y=name then some v else mA y)->(o.dict=some dx\/o.dict=none/\h.objs.size<=dx)->(∀b ob,b≠x->b≠dx->h.get? b=some ob->h'.get? b=some ob)->Q (.done (.ret .none)) ⟨h',g,d,tk',os⟩)
  (hw:Within mA ns) (hsz:ns.length+1<=fc):
  cv (model prog w) A (ni.«object.__setattr__» ⟨[.ref x,.str name tk,v],[]⟩) Q E ⟨h,g,d,t,os⟩:=by
 obtain⟨hx,ag,hd⟩:=I;have ac:=Mj (.ref x) C;have Lm:Looks (model prog w) h (mroOf (.ref C)) (exM C):=by rw[<- hm];exact(looks_clsIn X ai).andThen .now
 have La:=looks_findIn (M:=model prog w) X am;obtain⟨c0,dd,sl,hC⟩:=Kc X ai;unfold ni.«object.__setattr__»
 repeat (first|with_reducible refine jo hC ?_|rw[refuse_eq]|rw[ac]|(with_reducible refine jo hx ?_;rw[hc])|with_reducible refine Lm.at ?_|with_reducible refine La.at ?_|wp_step)
 rcases hd with ⟨hdn,hmA⟩|⟨dx,hdx,hne,hns⟩
 ·rw[hdn,cf (by simp[typeHasDict])];split
  ·rename_i z;cases z
  split
  ·rename_i c z;exact absurd z (ag c)
  have aj:(h.push { cls:=.type "dict",data:=.dict #[] }).get? x=some o:=bw _ hx;have ae:x≠h.objs.size:=ir (fu hx);refine bo (wpAny_alloc' (bo (wpAny_update' aj (cr ?_))));have gd:((h.push { cls:=.type "dict",data:=.dict #[] }).update x fun o=>{ cls:=o.cls,dict:=some h.objs.size,data:=o.data,slots:=o.slots }).get? h.objs.size=some { cls:=.type "dict",data:=.dict #[] } :=
   (get?_update_ne _ _ _ _ ae.symm).trans (Heap.get?_push_at rfl rfl)
  have nd:((h.push { cls:=.type "dict",data:=.dict #[] }).update x fun o=>{ cls:=o.cls,dict:=some h.objs.size,data:=o.data,slots:=o.slots }).Ns h.objs.size (fun _=>none):=
   ⟨_,#[],_,gd,rfl,fun e he=>absurd he yv,fun _=>rfl⟩
  show cv _ _ (storeInDict h.objs.size (.str name tk) name v) _ _ _;unfold storeInDict newKeyGuard;refine bo (cr (bo (wpAny_nsSet1 (Heap.Ns1.of_empty nd) fun h' aa hs=>?_)));obtain⟨oD,an,ap,ah,hdD,af⟩:=aa.count (Within.cons name v Within.nil);refine bo (wpAny_lookBehind ah (by rw[hdD];exact pastItsLine_dict (ky af (by rw[fy,length_nil,ji];omega))) ?_)
  wp_walk
  have ak:h'.get? x=some { cls:=o.cls,dict:=some h.objs.size,data:=o.data,slots:=o.slots }:=by
   refine(hs.2 x ae).trans (ls _ aj ?_);have ao:=(Heap.get?_some_iff.mp hx).2;obtain⟨oc,od,al,aq⟩:=o;cases al<;>first|rfl|exact ao
  refine hq h' _ h.objs.size ⟨ak,ag,.inr ⟨h.objs.size,rfl,ae.symm,?_⟩⟩ (.inr ⟨hdn,dw _⟩) (fun b ob nb n2 q=>(hs.2 b n2).trans ((get?_update_ne _ _ _ _ nb).trans (bw _ q)));obtain⟨o',es,ep,e1,e2,e3,eu,e4⟩:=aa;exact⟨o',es,ep,e1,e2,e3,eu,fun y=>by rw[e4 y];by_cases hy:y=name<;>simp[hy,hmA]⟩
 ·rw[hdx];refine cr ?_;show cv _ _ (storeInDict dx (.str name tk) name v) _ _ _;unfold storeInDict newKeyGuard;refine bo (cr (bo (wpAny_nsSet1 hns fun h' aa hs=>?_)));obtain⟨oD,an,ap,ah,hdD,af⟩:=aa.count (Within.cons name v hw);refine bo (wpAny_lookBehind ah (by rw[hdD];exact pastItsLine_dict (ky af (by rw[fy];omega))) ?_)
  wp_walk
  have eo:({ o with dict:=some dx }:Obj)=o:=by rw[<- hdx]
  refine hq h' _ dx ?_ (.inl hdx) fun b ob _ nd q=>(hs.2 b nd).trans q;rw[eo];exact⟨(hs.2 x hne.symm).trans hx,ag,.inr ⟨dx,hdx,hne,aa⟩⟩
theorem C1{Q:Unit->bu->Prop}{ns:List Str}(X:K.In h)(ae:clsIn K C=some cd)(hm:cd.mro=exM C)(hdct:cd.hasDict=true)(af:findIn K (.ref C) "__setattr__" = some (some (.builtin "object.__setattr__")))(ac:findIn K (.ref C) name=some none)(aa:mroIn K C (.type "object")=some true)(hc:o.cls=.ref C)(I:XAt h x o mA)
  (hq:∀h' z dx,XAt h' x { o with dict:=some dx } (fun y=>if y=name then some v else mA y)->(o.dict=some dx\/o.dict=none/\h.objs.size<=dx)->(∀b ob,b≠x->b≠dx->h.get? b=some ob->h'.get? b=some ob)->Q () ⟨h',g,d,z,os⟩)
  (hw:Within mA ns) (hsz:ns.length+1<=fc):
  cv (model prog w) A (setAttr (.ref x) name v) Q E ⟨h,g,d,t,os⟩:=by
 have hx:=I.1;have SF:=F.store_ValueError;have f3:=SF.slot.bind (.ref x);have L1:=looks_findIn (M:=model prog w) X af;have T0:∀M,Looks M h (typeOf (.ref x)) (.ref C):=fun M=>hc▸(Looks.ld hx).andThen .now;unfold setAttr callSpecial? specialOf
 repeat (any_goals (first|assumption|(with_reducible refine jo hx ?_;rw[hc])|with_reducible refine L1.at ?_|wp_step))
 refine codeAny_call_builtin SF.slot.plain SF.entry (@check_slot (model prog w) _ _ _ "object.__setattr__" "object" "__setattr__" (.ref x) [.str name t,v] [] _ SF.kind SF.split ((T0 _).andThen (looks_mroIn X aa)) (SF.args (.ref x) (.str name t) v) (NA X ae hm hdct ac hc I (fun h' z dx a b c=>?_) hw hsz));exact cr (cr (hq h' z dx a b c))
end
end L2
namespace L2
open PySem PySem.Spec PySem.Calls PyProof.Rows PySem.W
def exF(t:Addr):Data:=.fields #[.ref t,.none,.none,.none,.bool false,.none]
def exN(a C:Addr)(d:Option Addr)(t:Addr):HO:=.ext fun h=>h.get? a=some { cls:=.ref C,dict:=d,data:=exF t }
theorem Cy{P:fg}{w:gg}{H:Hp}{h:Heap}{a C t:Addr}{d:Option Addr}(e:h.get? a=some { cls:=.ref C,dict:=d,data:=exF t }):ObjOk P w H h a (exN a C d t):=⟨e,⟨_,e⟩,fun _ _ q k=>k _ q⟩
theorem Co{P:fg}{w:gg}{H:Hp}{h:Heap}{dx:Addr}{fs:List (Str×V)}{mA:Str->Option bn}(n:h.Ns1 dx mA)(r:∀f,RelO (fs.lookup f) (mA f))(wi:PySem.Within mA (fs.map (·.1))):ObjOk P w H h dx (xw dx fs):=
 ⟨⟨mA,n,r,wi⟩,let ⟨o,_,_,e,_⟩:=n;⟨o,e⟩,fun _ _ ⟨mA,n,r,wi⟩ k=>⟨mA,n.at k,r,wi⟩⟩
structure ExI(K:cq)(C:Addr):Prop where
 k:ExK K C
 hd:W.hasDictIn K C=true
 sa:sf K (.ref C) "__setattr__" = some (some (.builtin "object.__setattr__"))
def vI(K:cq)(ta tv:TE)(f:Str):TS:=fun D σ H=>tv σ H fun y H1=>ta σ H1 fun x H2=>∃a C t,x=.ref a/\ExI K C/\NoAttr K C f /\
  ((H2 a=some (exN a C none t)/\∀dx,H2 dx=none->D.nx σ (upd (upd H2 a (exN a C (some dx) t)) dx (xw dx [(f,y)]))) \/
   ∃dx fs,H2 a=some (exN a C (some dx) t)/\H2 dx=some (xw dx fs)/\dx≠a/\fs.length<100/\D.nx σ (upd H2 dx (xw dx (dD f y fs))))
section
variable {X:Cx}{o value:Expr}{f:Str}{pos pos':Pos}{ta tv:TE}
theorem Cr(ha:PE X o ta)(hv:PE X value tv)(hs:swapsWith value (some (.Attribute o f pos')) pos.line X.env=pure false):PS X (.Assign [.Attribute o f pos'] value pos) (vI X.K ta tv f):=by
 intro zg s σ H D I h;refine plainObj_wpAny_Assign_Attribute (thn (hv zg s σ H _ I h) fun u s1 ⟨y,H1,I1,ry,q⟩=>thn (ha zg s1 σ H1 _ I1 q) fun ov s2 ⟨x,H2,I2,rx,a,C,t,ex,xi,na,q2⟩=>?_) hs;subst ex;obtain rfl:ov=fh a:=rx;obtain⟨cd,aa,hm⟩:=xi.k.mro;have hdct:cd.hasDict=true:=by
  have:=xi.hd;unfold W.hasDictIn at this;rw[aa]at this;simpa using this
 have ae:mroIn X.K C (.type "object")=some true:=(xi.k.mroIn _).trans (by simp[exM]);obtain⟨hp,g,d,tk,os⟩:=s2;rcases q2 with ⟨ea,q2⟩|⟨dx,fs,ea,ed,ne,hl,q2⟩
 ·obtain⟨e1,_,_⟩:=(show ObjOk X.prog X.w H2 hp a (exN a C none t)from I2.hok a _ ea);refine C1 (o:={ cls:=.ref C,dict:=none,data:=exF t }) (mA:=fun _=>none) (ns:=[]) I2.kIn aa hm hdct xi.sa na ae rfl ⟨e1,(fun c z=>by cases z),.inl ⟨rfl,fun _=>rfl⟩⟩ (fun h' ac dx xa od kp=>?_) (fun y z=>absurd rfl z) (by show 1<=fc;rw[ji];omega);obtain⟨x1,_,x2⟩:=xa;have hsz:hp.objs.size<=dx:=by
   rcases od with z|z
   ·cases z
   ·exact z.2
  obtain⟨af,z,nx,n1⟩:∃d,some dx=some d/\d≠a/\h'.Ns1 d (fun y=>if y=f then some u else none):=by
   rcases x2 with ⟨z,_⟩|z
   ·cases z
   ·exact z
  cases z;have g1:(hp.update a fun o=>{ o with dict:=some dx }).get? a=some { cls:=.ref C,dict:=some dx,data:=exF t }:=ls _ e1 rfl
  have J:=I2.write (x:=a) (e:=a) (o:=exN a C (some dx) t) (h':=hp.update a fun o=>{ o with dict:=some dx }) (t':=tk) (by rw[ea];exact kz) (.inl rfl) (fun b v nb z=>(get?_update_ne _ _ _ _ nb).trans z) ⟨_,g1⟩ (Cy g1);have J2:=J.laid (a:=dx) (o:=xw dx [(f,y)]) (h':=h') (t':=ac) (fun b v z=>?_) (by show (hp.update a _).objs.size<=dx;rw[Heap.size_update];exact hsz) (Co n1 (fun g=>?_) fun g hg=>?_)
  ·exact⟨σ,_,J2,q2 dx (I2.hok.fresh hsz)⟩
  ·by_cases nb:b=a
   ·subst nb;rw[g1]at z;cases z;exact x1
   ·have z':hp.get? b=some v:=(get?_update_ne _ _ _ _ nb).symm.trans z;exact kp b v nb (fun e=>absurd (fu z') (by rw[e];exact Nat.not_lt.mpr hsz)) z'
  ·show RelO ((dD f y []).lookup g) (if g=f then some u else none);rw[yE];by_cases q:g=f
   ·rw[cp q,cp q];exact ry
   ·rw[cf q,cf q];exact kz
  ·by_cases e:g=f
   ·subst e;simp
   ·rw[cf e]at hg;exact absurd rfl hg
 ·obtain⟨e1,_,_⟩:=(show ObjOk X.prog X.w H2 hp a (exN a C (some dx) t)from I2.hok a _ ea);obtain⟨⟨mA,n1,r1,w1⟩,_,_⟩:=(show ObjOk X.prog X.w H2 hp dx (xw dx fs)from I2.hok dx _ ed);refine C1 (o:={ cls:=.ref C,dict:=some dx,data:=exF t }) (mA:=mA) (ns:=fs.map (·.1)) I2.kIn aa hm hdct xi.sa na ae rfl ⟨e1,(fun c z=>by cases z),.inr ⟨dx,rfl,ne,n1⟩⟩ (fun h' ac ag xa od kp=>?_) w1 (by rw[gh,ji];omega);obtain rfl:dx=ag:=by
   rcases od with z|z
   ·exact gi z
   ·cases z.1
  obtain⟨x1,_,x2⟩:=xa;obtain⟨af,z,nx,n2⟩:∃d,some dx=some d/\d≠a/\h'.Ns1 d (fun y=>if y=f then some u else mA y):=by
   rcases x2 with ⟨z,_⟩|z
   ·cases z
   ·exact z
  cases z;have J:=I2.write (x:=dx) (e:=dx) (o:=xw dx (dD f y fs)) (h':=h') (t':=ac) (by rw[ed];exact kz) (.inl rfl) (fun b v nb z=>?_) (let ⟨o,_,_,e,_⟩:=n2;⟨o,e⟩) (Co n2 (fun g=>?_) fun g hg=>?_)
  ·exact⟨σ,_,J,q2⟩
  ·by_cases e:b=a
   ·subst e;rw[e1]at z;cases z;exact x1
   ·exact kp b v e nb z
  ·show RelO ((dD f y fs).lookup g) (if g=f then some u else mA g);rw[yE];by_cases q:g=f
   ·rw[cp q,cp q];exact ry
   ·rw[cf q,cf q];exact r1 g
  ·by_cases q:g=f
   ·rw[q];exact(vW f y fs).1
   ·refine(vW f y fs).2 g (w1 g fun z=>hg ?_);show (if g=f then some u else mA g)=none;rw[cf q];exact z
end
end L2
namespace L2
open PySem PySem.Spec PySem.Calls PyProof.Rows
section
variable {prog:fg}{w:gg}{A:gf}{E:bn->bu->Prop}{h:Heap}{g:Array GenState}{d:Drawn}{t:Nat}{os:OsState}
variable {nm q:Str}{C N:Addr}{bs bm:List bn}{hdct:Bool}{sn:List Str}{sub:List bn}{ab:Bool}{col:Option Bool}{dd:Option Addr}{k0 k1 k2 k3 k5:Option bn}{mN:Str->Option bn}{rest:List bn}{fI:Addr}{oI:Obj}
theorem L8(T:OwnTail h veB bm){Q:Fin->bu->Prop}
  (hC:h.get? C=some (excClassObj nm q C N bs bm hdct sn sub ab col dd k0 k1 k2 k3 k5 "ValueError.__new__")) (hn:h.Ns N mN) (hi:mN "__init__" = some (.ref fI)) (hfI:h.get? fI=some oI) (hfc:oI.cls=.type "function")
  (hq:∀h' e,h.objs.size<=e->Heap.MadeExcOf h h' e (.ref C) rest->cv (model prog w) A (call (.ref fI) (.ref e::rest)) (fun r s'=>r=.none/\Q (.done (.ret (.ref e))) s') E ⟨h',g,d,t,os⟩) (hrest:rest.length<=fc):
  cv (model prog w) A (ni.«type.__call__» ⟨.ref C::rest,[]⟩) Q E ⟨h,g,d,t,os⟩:=by
 have Fn:=F.excBase_ValueError;have aa:veB.contains (.type "ValueError")=true:=by decide +kernel
 repeat (first|with_reducible refine jo hC ?_|with_reducible refine wpAny_madeBy_exc hC ?_|wp_step)
 refine codeAny_call_builtin_code (Code.quiet_builtin _ Fn.quiet) (wpAny_check_new_subU Fn aa T hC ?_);refine codeAny_exc_new_subU Fn aa Fn T hC ?_ hrest;show cv _ _ _ _ _ _;generalize hh:((h.push { cls:=.type "tuple",data:=.seq rest.toArray }).push { cls:=.ref C,data:=.fields #[.ref h.objs.size,.none,.none,.none,.bool false,.none] })=h1;have keep:∀b o,h.get? b=some o->h1.get? b=some o:=fun b o e=>by rw[<- hh];exact bw _ (bw _ e)
 have ac:=keep _ _ hC;have ag:h1.Ns N mN:=let ⟨o,es,ep,e,r⟩:=hn;⟨o,es,ep,keep _ _ e,r⟩;have ae:=keep _ _ hfI;have z:h1.get? (h.objs.size+1)=some { cls:=.ref C,data:=.fields #[.ref h.objs.size,.none,.none,.none,.bool false,.none] }:=by rw[<- hh];heap_get
 have af:(fh C::bm).contains (.ref C)=true:=by simp
 have T1:=T.keeps keep;unfold isInstance
 repeat (first|with_reducible refine jo z ?_|(with_reducible refine wpAny_isSubtype_exc ac ?_;rw[af])|wp_step)
 show cv _ _ (typeLookup (.ref C) _) _ _ _;refine wpAny_typeLookup_tail ac ag T1 Fn.mroIs Fn.init.lookup ?_;rw[hi];refine ku (bo ?_);unfold bindSpecial;refine bo (rp (T:="function") ⟨_,ae,hfc⟩ ?_);rw[cp dz];refine cr (bo (jj (hq h1 (h.objs.size+1) (Nat.le_succ _) ⟨keep,Heap.get?_none_of_le (Nat.le_succ _),h.objs.size,z,Heap.get?_none_of_le (dw _),?_⟩) (fun r s' hr=>?_) fun _ _ x=>x))
 ·rw[<- hh];exact bw _ (Heap.get?_push_at rfl rfl)
 ·obtain⟨rfl,hQ⟩:=hr
  wp_walk
  exact hQ
theorem NT(T:OwnTail h veB bm){Q:bn->bu->Prop}
  (hC:h.get? C=some (excClassObj nm q C N bs bm hdct sn sub ab col dd k0 k1 k2 k3 k5 "ValueError.__new__")) (hn:h.Ns N mN) (hi:mN "__init__" = some (.ref fI)) (hfI:h.get? fI=some oI) (hfc:oI.cls=.type "function")
  (hq:∀h' e,h.objs.size<=e->Heap.MadeExcOf h h' e (.ref C) rest->cv (model prog w) (A.under (.builtin "type.__call__" ⟨.ref C::rest,[]⟩)) (call (.ref fI) (.ref e::rest)) (fun r s'=>r=.none/\Q (.ref e) s') E ⟨h',g,d,t,os⟩) (hrest:rest.length<=fc):
  cv (model prog w) A (call (.ref C) rest) Q E ⟨h,g,d,t,os⟩:=by
 have f1:=tc_lookup;have f2:=tc_bind (.ref C);have hT:(⟨h,g,d,t,os⟩:bu).TypeIs (.ref C) "type":=⟨_,hC,rfl⟩;refine wpAny_call (codeAny_of_tree ?_);show cv _ _ (callAny (.ref C) _) _ _ _
 repeat (any_goals (first|assumption|with_reducible refine jo hC ?_|wp_step))
 refine⟨rfl,?_⟩;exact codeAny_call_builtin_at (Code.quiet_builtin _ (by decide +kernel)) entry_typeCall (wpAny_check_type_call_sub hC (L8 T hC hn hi hfI hfc (fun h' e hz hm=>hq h' e hz hm) hrest))
end
section
variable {prog:fg}{w:gg}{A:gf}{E:bn->bu->Prop}{s:bu}{env:Env}
variable {nm q:Str}{C N:Addr}{bs bm:List bn}{hdct:Bool}{sn:List Str}{sub:List bn}{ab:Bool}{col:Option Bool}{dd:Option Addr}{k0 k1 k2 k3 k5:Option bn}{newId:String}
theorem NR{M:Model}{x:Sem bn}{Q:Flow->bu->Prop}(z:bm.contains (.type "BaseException")=true)(hh:A.handled=none)
  (h:cv M A x (fun v s1=>∃e t dx,v=.ref e/\s1.heap.get? C=some (excClassObj nm q C N bs bm hdct sn sub ab col dd k0 k1 k2 k3 k5 newId)/\s1.heap.get? e=some { cls:=.ref C,dict:=dx,data:=.fields #[.ref t,.none,.none,.none,.bool false,.none] }/\E (.ref e) s1) E s):
  cv M A (raiseStmt env (some x) none) Q E s:=by
 have aa:(fh C::bm).contains (.type "BaseException")=true:=by rw[List.contains_cons,z,Bool.or_true]
 unfold raiseStmt;refine bo (jj h (fun v s1 h1=>?_) fun _ _ x=>x);obtain⟨e,t,dx,rfl,hC,he,hE⟩:=h1;obtain⟨hp,g,d,tk,os⟩:=s1
 repeat (first|with_reducible refine jo he ?_|with_reducible refine jo hC ?_|(with_reducible refine wpAny_isSubtype_exc hC ?_;rw[aa])|wp_step)
 exact wpAny_raiseNew_none hh hE
end
end L2
namespace L2
open PySem PySem.Spec PySem.Calls PyProof.Rows
def del(H:Hp)(a:Addr):Hp:=fun b=>if b=a then none else H b
theorem kK{H:Hp}{a b:Addr}(h:b≠a):del H a b=H b:=cf h
theorem J9{H:Hp}{a:Addr}{o:HO}:upd (del H a) a o=upd H a o:=by
 funext b;unfold upd del;split
 ·rfl
 ·rfl
theorem CM{H:Hp}{a b:Addr}{u:HO}(h:del H a b=some u):b≠a/\H b=some u:=by
 unfold del at h;split at h
 ·cases h
 ·rename_i n;exact⟨n,h⟩
section
variable {P:fg}{w:gg}{K:cq}{mg:Str->Option bn}{base:Heap}{N:List Str}{qual:Str}{scope:Scope}{f:Addr}{cd:bn}{A:gf}{outer:List Env}{s:bu}{H:Hp}{E:XK}
theorem LH{zg:List (Addr×Obj)}{σ:St}{Hc:Hp}{s2:bu}{e C t:Addr}{dx:Option Addr}(I:Inv (bU (CX1 P w) P w K mg base N qual scope f cd A outer s H E) zg σ Hc s2)(hn:Hc e=some (exN e C dx t))(ag:s.heap.get? e=none)(hE:E (.ref C) (some e) (upd Hc e (exO e C dx))):
  (bU (CX1 P w) P w K mg base N qual scope f cd A outer s H E).xe (.ref e) s2:=by
 have af:(A.deeper (iy qual scope s.heap.objs.size f cd)).frames=some (iy qual scope s.heap.objs.size f cd::outer):=I.ok.frames;have nl:∀b o,s.heap.get? b=some o->b∉frs outer->b∉frs (iy qual scope s.heap.objs.size f cd::outer):=fun b o q hb z=>by
  rcases mem_cons.mp (show b∈s.heap.objs.size::frs outer from z)with e|e
  ·exact absurd (fu q) (by rw[e];exact jp _)
  ·exact hb e
 have nx:∀b:Addr,b∉([]:List Addr):=fun b=>by simp
 have aa:∀b o,s.heap.get? b=some o->b≠e:=fun b o q z=>by
  rw[z,ag]at q;cases q
 have nt:∀b xs,Hc b=some (.tup xs)->b≠e:=fun b xs q z=>by
  rw[z,hn]at q;cases q
 have no:∀b y,Hc b=some (.own y)->b≠e:=fun b y q z=>by
  rw[z,hn]at q;cases q
 have stk:s2.heap.FunFrames base (iy qual scope s.heap.objs.size f cd::outer):=I.stack;obtain⟨he,_,_⟩:=(show ObjOk P w Hc s2.heap e (exN e C dx t)from I.hok e _ hn);have ae:∀env∈(iy qual scope s.heap.objs.size f cd::outer),∀b,env.frame=some b->b∈e::frs (iy qual scope s.heap.objs.size f cd::outer):=fun env he b hb=>cz _ (mem_filterMap.mpr ⟨env,he,hb⟩);generalize hB:ud s2.heap (e::frs (iy qual scope s.heap.objs.size f cd::outer))=B;have hd:∀b o,s2.heap.get? b=some o->b≠e->b∉frs (iy qual scope s.heap.objs.size f cd::outer)->B.get? b=some o:=fun b o q n1 n=>by
  rw[<- hB];exact W.hideAll_get _ q fun z=>(mem_cons.mp z).elim n1 n
 have kp:∀b o,s.heap.get? b=some o->H b=none->b∉frs outer->B.get? b=some o:=fun b o q n hb=>hd b o (I.base.keep b o q n hb (nx b)) (aa b o q) (nl b o q hb);have ep:∀b o,s.heap.get? b=some o->b∈frs outer\/∃o',B.get? b=some o':=fun b o q=>by
  by_cases hb:b∈frs outer
  ·exact .inl hb
  ·obtain⟨o1,q1⟩:=I.base.there b o q (nx b);exact .inr ⟨o1,hd b o1 q1 (aa b o q) (nl b o q hb)⟩
 have tr:∀b u,Hc b=some u->b≠e->∀o,s2.heap.get? b=some o->B.get? b=some o:=fun b u q n1 o q1=>hd b o q1 n1 fun z=>by
  rw[I.stkFree.free b z]at q;cases q
 have ne:B.get? e=none:=by rw[<- hB];exact W.hideAll_none _ fq
 have ff:s2.heap.FunFrames B (iy qual scope s.heap.objs.size f cd::outer):=by rw[<- hB];exact W.funFrames_hide stk ae
 have bs:B.StaysIn s2.heap:=fun b o q=>by
  rw[<- hB]at q;exact W.of_hideAll _ q
 show cv _ _ (leaving (iy qual scope s.heap.objs.size f cd) (.ref e)) _ _ _;refine C0 af ff rfl he bs ne rfl rfl rfl fun h'' fl sm=>⟨del Hc e,e,C,dx,rfl,⟨I.os,I.bare,⟨fun b o q n hb _=>fl.1 b o (kp b o q n hb),fun b o q n hb _=>?_,fun b o q n _=>?_,fun b o q _=>?_,fun b xs q=>?_,fun b o u q=>?_,fun b ps q=>?_⟩,
  fun b u q=>?_,_,t,fl,kp,ep,fun b u q=>?_⟩,by rw[J9];exact hE⟩
 ·obtain⟨sl,q1⟩:=I.base.slot b o q n hb (nx b);obtain⟨_,o3,q3,nf⟩:=stk.mem (show b∈frs (iy qual scope s.heap.objs.size f cd::outer)from cz _ hb);rw[q1]at q3;cases q3;obtain⟨ac,q4⟩:=sm b _ q1 nf;exact⟨ac,q4⟩
 ·rw[kK (aa b o q)];exact I.base.free b o q n (nx b)
 ·rcases ep b o q with z|⟨o',z⟩
  ·obtain⟨_,o3,q3,_⟩:=fl.2.2.1.mem (show b∈frs outer from z);exact⟨o3,q3⟩
  ·exact⟨o',fl.1 b o' z⟩
 ·have q2:=I.base.tups b xs q;rw[kK (nt _ _ q2)];exact q2
 ·have q2:=I.base.frzs b o u q;rw[kK fun z=>by rw[z,hn]at q2;cases q2];exact q2
 ·have q2:=I.base.tbls b ps q;rw[kK fun z=>by rw[z,hn]at q2;cases q2];exact q2
 ·obtain⟨nb,qb⟩:=CM q;refine(I.hok b u qb).stay (fun c v hc q1=>?_) (fun c q1=>by rw[kK (no _ _ q1)];exact q1) (fun c xs q1=>by rw[kK (nt _ _ q1)];exact q1) fun c o u q1=>by rw[kK fun z=>by rw[z,hn]at q1;cases q1];exact q1
  rcases hc with rfl|hc
  ·exact fl.1 _ _ (tr _ _ qb nb _ q1)
  ·exact fl.1 _ _ (tr _ _ hc (no _ _ hc) _ q1)
 ·obtain⟨nb,qb⟩:=CM q;obtain⟨o,q1⟩:=(I.hok b u qb).obj;exact⟨o,tr b u qb nb o q1⟩
end
section
variable {X:Cx}{E:XK}{x:Str}{C fI:Addr}{fd:ng}{ps:List Str}{sp:Sp}{k:Nat}{np cpos pos:Pos}{e:Expr}{es:List Expr}{t:TA}{CX:CXT}
theorem LF{K:cq}{h h1:Heap}{C:Addr}{ini:Option bn}{o:Obj}(q:ExCls K C ini)(X:K.In h)(X1:K.In h1)(e:h.get? C=some o):h1.get? C=some o:=by
 have z:=q.ty.1;unfold uf at z;cases hl:K.lookup C with
 |none=>rw[hl]at z;cases z
 |some o'=>
  have:=X _ _ hl;rw[e]at this;cases this;exact X1 _ _ hl
def AJ(E:XK)(C:Addr)(sp:Sp)(t:TA):TS:=fun _ σ H=>t σ H fun vs H1=>∀a tt,H1 a=none->sp (.ref a::vs) (upd H1 a (exN a C none tt)) (fun r H2=>r=.non/\∃dx,H2 a=some (exN a C dx tt)/\E (.ref C) (some a) (upd H2 a (exO a C dx))) fun _ _ _=>False
def RaisesI(X:Cx)(E:XK):Prop:=∀(C:Addr) (zg:List (Addr×Obj)) (σ:St) (H1 H2:Hp) (s1 s2:bu) (e t:Addr) (dx:Option Addr),Inv X zg σ H1 s1->s1.heap.get? e=none->Inv X zg σ H2 s2->H2 e=some (exN e C dx t)->E (.ref C) (some e) (upd H2 e (exO e C dx))->X.xe (.ref e) s2
theorem Nw(hc:X.calm=true)(hR:RaisesI X E)(hg:Gl X x)(hm:X.mg x=some (.ref C))(q:ExCls X.K C (some (.ref fI)))(hk:rg X.K (.ref C)=true)(al:W.typeIn X.K (.ref fI)=some (.type "function"))(F:FnOk X.prog X.w X.K X.mg X.base CX k fI fd ps sp)(ai:∀o H s v s',CX o H s (fun _ _ _=>False) v s'->False)(hr:∀us:List bn,Room k (X.A.under (.builtin "type.__call__" ⟨.ref C::us,[]⟩)))(hb:Binds X.K fd ps [])(ae:ps.length<=1000)
  (ha:PA X (e::es) t) (hdb:(x==("__debug__":Str))=false:=by decide) (he:fk (e::es) X.env=(false,eval e X.env)::fk es X.env:=by rfl) (hpl:(ph cpos (fk es X.env)).any (·.1)=false:=by rfl):
  PS X (.Raise (some (.Call (.Name x np) (e::es) [] cpos)) none pos) (AJ E C sp t):=by
 intro zg s σ H D I h;obtain⟨tl,N,nm,qn,bs,hd,sn,sub,ab,col,dd,k0,k1,k2,k3,k5,mN,hC,hN,aw,T,_⟩:=q.ob _ I.kIn;have aa:tl.contains (.type "BaseException")=true:=T.hasType (b:=true) (by decide +kernel);rw[arm_exec_Raise];refine bo (wpAny_standAt (NR (C:=C) (nm:=nm) (q:=qn) (N:=N) (bs:=bs) (bm:=tl) (hdct:=hd) (sn:=sn) (sub:=sub) (ab:=ab) (col:=col) (dd:=dd) (k0:=k0) (k1:=k1) (k2:=k2) (k3:=k3) (k5:=k5) (newId:="ValueError.__new__") aa (I.ok.hd hc) (bo (jj (wpAny_Call_ofName (mU I hg hm ?_ hdb)) (fun v s3 h3=>bo (wpAny_standAt (cr h3))) fun _ _ x=>x))));refine W.callWith_K (h₀:=X.base) I.ok.mod.kin hk (thn (ha cpos zg s σ H _ I h) fun us s1 ⟨vs,H1,I1,r,q1⟩=>⟨I1.kIn,?_⟩) he hpl;obtain⟨a0,N1,ay,as,a4,a2,au,ar,a1,aq,av,l0,l1,l2,l3,l5,az,ak,am,aj,T1,_⟩:=q.ob _ I1.kIn;obtain⟨oI,ao,ap⟩:∃oI,s1.heap.get? fI=some oI/\oI.cls=.type "function":=by
  have z:sx (fun x:Obj=>x.cls) (X.K.lookup fI)=some (.type "function"):=al;cases hl:X.K.lookup fI with
  |none=>rw[hl]at z;cases z
  |some o=>rw[hl]at z;exact⟨o,I1.kIn _ _ hl,gi z⟩
 obtain⟨h1,g1,d1,ah,a3⟩:=s1;have af:us.length<=fc:=by
  have hz:=r.length;have:=F.len _ _ _ _ (q1 h1.objs.size 0 (I1.hok.fresh (dw _)));have ax:ps.length<=1000:=ae;rw[fy]at this;rw[ji];omega
 refine NT T1 ak am aj ao ap (fun h' e2 hz mk=>?_) af;obtain⟨t2,an,_,_⟩:=mk.there;have J:=I1.laid (a:=e2) (o:=exN e2 C none t2) (h':=h') (t':=ah) mk.keeps hz (Cy an);have qq:=q1 e2 t2 (I1.hok.fresh hz);have hl:(fh e2::us).length=ps.length:=by
  have:=F.len _ _ _ _ qq;rw[fy]at this ⊢;rw[<- r.length];exact this
 have ac:=hb _ (fh e2::us) J.kIn (by rw[jl];exact hl);rw[jl]at ac;refine wpAny_call (codeAny_mono (F.run _ X.stack _ _ ⟨fh e2::us,[]⟩ (fh e2::us) (.ref e2::vs) _ _ (hr us) (J.env0.make C us []) ac (.cons rfl r) qq) fun rr s' hq=>?_);cases rr with
 |error v=>exact(ai _ _ _ _ _ hq).elim
 |ok fl=>
  cases fl with
  |ret u=>
   obtain⟨y,H2,I2,ry,rfl,dx,ag,hE⟩:=J.after hq;cases (show u=jq from ry);obtain⟨e3,_,_⟩:=(show ObjOk X.prog X.w H2 s'.heap e2 (exN e2 C dx t2)from I2.hok e2 _ ag);exact⟨rfl,e2,t2,dx,rfl,LF q I.kIn I2.kIn hC,e3,hR C zg σ H1 H2 _ s' e2 t2 dx I1 mk.new I2 ag hE⟩
  |next=>exact iu hq
  |brk=>exact iu hq
  |cont=>exact iu hq
end
theorem No{P:fg}{w:gg}{K:cq}{mg:Str->Option bn}{base:Heap}{N:List Str}{qual:Str}{scope:Scope}{f:Addr}{cd:bn}{A:gf}{outer:List Env}{s:bu}{H:Hp}{E:XK}:
  RaisesI (bU (CX1 P w) P w K mg base N qual scope f cd A outer s H E) E:=fun C zg σ H1 H2 s1 s2 e t dx I1 ne I2 hn hE=>LH I2 hn (by
 cases z:s.heap.get? e with
 |none=>rfl
 |some o=>
  obtain⟨o1,q1⟩:=I1.base.there e o z (fun z=>by cases z);rw[ne]at q1;cases q1) hE
end L2
namespace L2
open PySem PySem.Spec PyProof.Rows
section
def spI(K:cq)(ns:List Str):Sp:=fun vs H Q _=>∃a C t ws,vs=.ref a::ws/\ws.length=ns.length/\ExI K C/\(∀n∈ns,NoAttr K C n)/\H a=some (exN a C none t)/\∀dx,H dx=none->Q .non (upd (upd H a (exN a C (some dx) t)) dx (xw dx (ns.zip ws)))
theorem init2{K:cq}{n m:Str}{N:List Str}{vs:List V}{H:Hp}{Q:VK}{E:XK}(ne:n≠m)(h:spI K [n,m] vs H Q E):dP (vI K (dL 0) (dL 1) n) (vI K (dL 0) (dL 2) m) { nx:=fun _ H'=>Q .non H',rt:=Q } (start N vs) H:=by
 obtain⟨a,C,t,ws,rfl,hl,xi,na,ha,q⟩:=h;obtain⟨w,v,rfl⟩:∃w v,ws=[w,v]:=by
  match ws,hl with
  | [w,v],_=>exact⟨w,v,rfl⟩
 refine⟨w,rfl,_,rfl,a,C,t,rfl,xi,na n yv,.inl ⟨ha,fun dx hd=>?_⟩⟩;have nx:dx≠a:=fun z=>by
  rw[z,ha]at hd;cases hd
 refine⟨v,rfl,_,rfl,a,C,t,rfl,xi,na m yv,.inr ⟨dx,[(n,w)],?_,zM,nx,yv,?_⟩⟩
 ·rw[zG (im nx),zM]
 ·have e:dD m v [(n,w)]=[n,m].zip [w,v]:=by simp[dD,ne]
  show Q .non _;rw[e,qV];exact q dx hd
theorem Dn{H:Hp}:∀{ns:List Str}{ds:List bq}{vs:List V},HasL H ds vs->∀f dt,(ns.zip ds).lookup f=some dt->∃u,(ns.zip vs).lookup f=some u/\Has H dt u
 | [],_,_,_,f,dt,e=>by simp at e
 |n::ns,[],_,_,f,dt,e=>by simp at e
 |n::ns,d::ds,vs,l,f,dt,e=>by
  obtain⟨v,r,rfl,hv,l'⟩:=zu.mp l;rw[qv,ll]at e;by_cases z:f=n
  ·subst z;simp at e;subst e;exact⟨v,yv,hv⟩
  ·have zz:(f==n)=false:=by simp[z]
   rw[zz]at e;obtain⟨u,e1,e2⟩:=Dn l' f dt e;exact⟨u,by rw[qv,ll,zz];exact e1,e2⟩
def kT(EX:EXD)(C:Addr)(ns:List Str)(da:DA):DS:=fun _ δ S=>da δ S fun xs _=>∃ds,datas xs=some ds/\ds.length=ns.length/\EX C (ns.zip ds)
theorem J3{E:XK}{EX:EXD}{K:cq}{C:Addr}{ns:List Str}{ta:TA}{da:DA}(hI:ExI K C)(hn:∀n∈ns,NoAttr K C n)(ha:RA ta da):RSx E EX (AJ E C (spI K ns) ta) (kT EX C ns da):=fun h o H δ σ S En D he hs q c x=>
 ha h o H δ σ S _ _ he hs q fun o1 H1 S1 xs vs e1 s1 x1 ⟨ds,ed,hl,hE⟩ a tt na=>by
  have ac:=fB ed;have hL:=pV x1 ac;refine⟨a,C,tt,vs,rfl,by rw[hL.length];exact hl,hI,hn,zM,fun dx nd=>⟨rfl,some dx,?_,?_⟩⟩
  ·have ne:dx≠a:=fun z=>by rw[z,zM]at nd;cases nd
   rw[zG (im ne),zM]
  ·have ne:dx≠a:=fun z=>by rw[z,zM]at nd;cases nd
   have aa:H1 dx=none:=by rwa [zG ne]at nd
   have ae:upd H1 dx (xw dx (ns.zip vs)) a=none:=by rw[zG (im ne)];exact na
   have eH:upd (upd (upd (upd H1 a (exN a C none tt)) a (exN a C (some dx) tt)) dx (xw dx (ns.zip vs))) a (exO a C (some dx))=upd (upd H1 dx (xw dx (ns.zip vs))) a (exO a C (some dx)):=by
    funext b;unfold upd;split
    ·rfl
    ·rfl
   rw[eH];have sU:=(Same.laid (o:=xw dx (ns.zip vs)) aa).trans (Same.laid (o:=exO a C (some dx)) ae);have fa:=s1.fresh na;have fd:=s1.fresh aa;refine(x.pre e1) o1 _ S1 C a (ns.zip ds) (Ex.of_same sU) (s1.same sU) ⟨a,some dx,rfl,zZ.mpr ⟨fa.1,fa.2,zM⟩,fun f dt l=>?_⟩ hE;obtain⟨u,e2,e3⟩:=Dn hL f dt l;exact⟨dx,ns.zip vs,u,rfl,zZ.mpr ⟨fd.1,fd.2,by rw[zG ne,zM]⟩,e2,Has.mono (gE sU) _ _ e3⟩
end
end L2
namespace L2
open PySem PySem.Spec PySem.Calls PyProof.Rows
def tXA(K:cq)(te:TE)(f:Str):TE:=fun σ H Q=>te σ H fun x H1=>∃a C dx vs u,x=.ref a/\H1 a=some (exO a C (some dx))/\H1 dx=some (xw dx vs)/\ExI K C/\NoAttr K C f/\vs.lookup f=some u/\Q u H1
theorem sC{X:Cx}{e:Expr}{te:TE}{f:Str}{pos:Pos}(he:PE X e te)(hb:pk e f X.env (eval e X.env)=eval e X.env):PE X (.Attribute e f pos) (tXA X.K te f):=by
 intro zg s σ H Q I h;refine Mk hb (thn (he zg s σ H _ I h) fun u s1 ⟨x,H1,I1,rx,a,C,dx,vs,v,ex,ea,ed,xi,na,l,q⟩=>?_);subst ex;obtain rfl:u=fh a:=rx;obtain⟨hp,g,d,t,os⟩:=s1;obtain⟨⟨o,e1,hc,hd,fv,aa⟩,_,_⟩:=(show ObjOk X.prog X.w H1 hp a (exO a C (some dx))from I1.hok a _ ea);obtain⟨⟨mA,n1,r1,w1⟩,_,_⟩:=(show ObjOk X.prog X.w H1 hp dx (xw dx vs)from I1.hok dx _ ed);obtain⟨od,ho,hl⟩:=BL n1;have rr:RelO (some v) (mA f):=by rw[<- l];exact r1 f
 obtain⟨w,hw,rv⟩:∃w,mA f=some w/\RelV v w:=by
  cases z:mA f with
  |none=>rw[z]at rr;cases rr
  |some w=>rw[z]at rr;exact⟨w,rfl,rr⟩
 have T0:∀M,W.Looks M hp (typeOf (.ref a)) (.ref C):=fun M=>hc▸(W.Looks.ld e1).andThen .now;exact N0 (v:=w) I1.kIn T0 ⟨xi.k.ga,xi.k.gn,(xi.k.mroIn _).trans (by simp[exM])⟩ (W.looks_find I1.kIn ⟨e1,hc,by unfold W.notCls;rw[aa],by rw[hd];exact ho⟩ (W.findObj_own xi.hd na rfl (by rw[hl,hw]))) (KU rv) ⟨v,H1,I1.tok _,rv,q⟩
structure ExsI(K:cq)(Cs:List Addr)(f:Str):Prop where
 i:∀C∈Cs,ExI K C
 n:∀C∈Cs,NoAttr K C f
def dXA(Cs:List Addr)(de:DE)(f:Str):DE:=fun δ S R=>de δ S fun x S1=>∃C fs d,x=.x C fs/\C∈Cs/\fs.lookup f=some d/\R (.d d) S1
theorem sD{K:cq}{Cs:List Addr}{te:TE}{de:DE}{f:Str}(X0:ExsI K Cs f)(he:RE te de):RE (tXA K te f) (dXA Cs de f):=fun h o H δ σ S R Q hE hs q c=>
 he h o H δ σ S _ _ hE hs q fun o1 H1 S1 x v e1 s1 x1 d1=>by
  obtain⟨C,fs,d,rfl,hC,hl,q1⟩:=d1;obtain⟨a,z,rfl,ha,hf⟩:=(show HasE (vx h o1 H1) C fs v from x1);obtain⟨dx,vs,u,rfl,e2,e3,e4⟩:=hf f d hl;exact⟨a,C,dx,vs,u,rfl,zW _ _ ha,zW _ _ e2,X0.i C hC,X0.n C hC,e3,c o1 H1 S1 (.d d) u e1 s1 e4 q1⟩
end L2
namespace L2
open PySem PySem.Spec PyProof.Rows
section
def yL(o:Obj):Bool:=match o.data with
 | .dict es _=>es.toList.all fun e=>match e.key with | .str _ _=>true|_=>false
 |_=>false
theorem Ny{K:cq}{N:Addr}{o:Obj}(l:K.lookup N=some o)(h:yL o=true):W.nsOkIn K N=true:=by
 unfold W.nsOkIn;rw[l];obtain⟨a,b,c,d⟩:=o;cases c with
 |dict es n=>
  show (es.all fun e=>match e.key with | .str _ _=>true|_=>false)=true;rw[<- Array.all_toList];exact h
 |_=>cases h
theorem exc_ofI{K:cq}{C N fI:Addr}{nm qn:Str}{bs:List bn}{hd:Bool}{sn:List Str}{sub:List bn}{ab:Bool}{col:Option Bool}{dd:Option Addr}{k0 k1 k2 k3 k5:Option bn}
  (l:K.lookup C=some (excClassObj nm qn C N bs (.ref 24::veB) hd sn sub ab col dd k0 k1 k2 k3 k5 "ValueError.__new__")) {oN:Obj} (lN:K.lookup N=some oN) (sN:yL oN=true) (i:W.nsIn K N "__init__" = some (some (.ref fI))) (G:ExCls K 24 none):ExCls K C (some (.ref fI)):=by
 have ok:=Ny lN sN;refine⟨fun h X=>?_,?_,?_⟩
 ·obtain⟨ag,NG,ao,ak,an,al,ah,ae,am,af,aj,j0,j1,j2,j3,j5,ai,hG,ac,aa,_,_⟩:=G.ob h X;have z:h.Ns N (h.nsMap N):=.of_isNs (W.isNs_of_in X ok);refine⟨.ref 24::veB,N,nm,qn,bs,hd,sn,sub,ab,col,dd,k0,k1,k2,k3,k5,h.nsMap N,X _ _ l,z,Hf X z i,.own hG ac aa .base,fun D=>?_⟩;unfold W.mroIn uf;rw[l];rfl
 ·unfold uf;rw[l];rfl
 ·show sx (fun x:Obj=>x.cls) (K.lookup C)=_;rw[l];rfl
end
section
abbrev Phi:=List Addr->List Addr->Hp->Prop
class Stb (Φ:Phi):Prop where
 st:∀{h o o':List Addr}{H H':Hp},Φ h o H->Ex o H o' H'->Φ h o' H'
def PhX(E:XK)(EX:EXD):Phi:=fun h o H=>CnX h o H EX E
instance {E:XK}{EX:EXD}:Stb (PhX E EX):=⟨fun x e=>CnX.pre x e⟩
def REp(Φ:Phi)(t:TE)(dt:DE):Prop:=∀(h o:List Addr) (H:Hp) (δ:XE) (σ:St) (S:Sto) (R:RX) (Q:VK),RepE h o H δ σ->RepS h o H S->dt δ S R->Cn h o H R Q->Φ h o H->t σ H Q
def RTp(Φ:Phi)(t:TT)(dt:DT):Prop:=∀(h o:List Addr) (H:Hp) (δ:XE) (σ:St) (S:Sto) (R:Bool->Sto->Prop) (Q:Bool->Hp->Prop),RepE h o H δ σ->RepS h o H S->dt δ S R ->
 (∀o' H' S' b,Ex o H o' H'->RepS h o' H' S'->R b S'->Q b H')->Φ h o H->t σ H Q
def RAp(Φ:Phi)(t:TA)(dt:DA):Prop:=∀(h o:List Addr) (H:Hp) (δ:XE) (σ:St) (S:Sto) (R:List XV->Sto->Prop) (Q:List V->Hp->Prop),RepE h o H δ σ->RepS h o H S->dt δ S R ->
 (∀o' H' S' xs vs,Ex o H o' H'->RepS h o' H' S'->HasXs h o' H' xs vs->R xs S'->Q vs H')->Φ h o H->t σ H Q
def RIp(Φ:Phi)(w:TI)(di:DI):Prop:=∀(h o:List Addr) (H:Hp) (δ:XE) (σ:St) (S:Sto) (R:List bq->Sto->Prop) (Q:It->Hp->Prop),RepE h o H δ σ->RepS h o H S->di δ S R ->
 (∀o' H' S' ds J,Ex o H o' H'->RepS h o' H' S'->WalkX h o' H' J ds->R ds S'->Q J H')->Φ h o H->w σ H Q
section
variable {Φ:Phi} [Stb Φ] {ta tb te:TE}{da db de:DE}{tl:TA}{dl:DA}{tt tu:TT}{dt du:DT}
theorem bT(a:RE te de):REp Φ te de:=fun h o H δ σ S R Q he hs q c _=>a h o H δ σ S R Q he hs q c
theorem gW(a:RT tt dt):RTp Φ tt dt:=fun h o H δ σ S R Q he hs q c _=>a h o H δ σ S R Q he hs q c
theorem cZ(a:RA tl dl):RAp Φ tl dl:=fun h o H δ σ S R Q he hs q c _=>a h o H δ σ S R Q he hs q c
theorem GG{w:TI}{di:DI}(a:RI w di):RIp Φ w di:=fun h o H δ σ S R Q he hs q c _=>a h o H δ σ S R Q he hs q c
theorem xE(ha:REp Φ ta da)(hb:RAp Φ tl dl):RAp Φ (eJ ta tl) (zc da dl):=fun h o H δ σ S R Q he hs q c x=>
 ha h o H δ σ S _ _ he hs q (fun o1 H1 S1 y v e1 s1 x1 d1=>hb h o1 H1 δ σ S1 _ _ (he.mono e1) s1 d1 (fun o2 H2 S2 xs vs e2 s2 x2 d2=>
  c o2 H2 S2 (y::xs) (v::vs) (e1.trans e2) s2 ⟨v,vs,rfl,x1.mono e2,x2⟩ d2) (Stb.st x e1)) x
theorem yM{r:R2}{rd:D2}(hr:RO r rd)(ha:REp Φ ta da)(hb:REp Φ tb db):REp Φ (tOp r ta tb) (dOp rd da db):=fun h o H δ σ S R Q he hs q c w=>
 ha h o H δ σ S _ _ he hs q (fun o1 H1 S1 x v e1 s1 x1 d1=>hb h o1 H1 δ σ S1 _ _ (he.mono e1) s1 d1 (fun o2 H2 S2 y u e2 s2 y2 d2=>
  hr h o2 H2 S2 x y v u R Q s2 (x1.mono e2) y2 d2 (c.pre (e1.trans e2))) (Stb.st w e1)) w
theorem GO(ha:REp Φ ta da):RTp Φ (oJ ta) (dB da):=fun h o H δ σ S R Q he hs q c w=>
 ha h o H δ σ S _ _ he hs q (fun o1 H1 S1 x v e1 s1 x1 d1=>by
  replace d1:=rN d1;obtain⟨b,rfl,d1⟩:=d1;exact⟨b,jB x1,c o1 H1 S1 b e1 s1 d1⟩) w
theorem Lz{ps:List Str}{q:PN}{m:Nat}(ha:RAp Φ tl dl)(hm:ps.length=m:=by rfl):REp Φ (fK (spN ps q) [] E0 tl) (aH m q dl):=fun h o H δ σ S R Q he hs w c x=>
 ha h o H δ σ S _ _ he hs w (fun o1 H1 S1 xs vs e1 s1 x1 ⟨ds,e,hl,d1⟩=>by
  have ex:=fB e;subst ex;have hv:=x1.len;rw[jl];exact⟨by rw[hv,gh,hl,hm],h++o1,[],[],_,_,rep0 s1,hxs0 x1,d1,cn0 s1 (c.pre e1)⟩) x
end
section
variable {E:XK}{EX:EXD}{ta tb te:TE}{da db de:DE}{tl:TA}{dl:DA}{tt tu:TT}{dt du:DT}
def bW(EX:EXD)(m:Nat)(q:PX)(da:DA):DE:=fun δ S R=>da δ S fun xs S1=>∃ds,datas xs=some ds/\ds.length=m/\q (ds.map XV.d) [] (ret0 S1 R) EX
theorem CnX.out{h o:List Addr}{H:Hp}{S:Sto}(hs:RepS h o H S)(x:CnX h o H EX E):CnX (h++o) [] H EX E:=fun o' H' S' C a fs e' s' hE q=>by
 have sH:Same H H':=fun b u eb=>(e'.kp b u yv eb).2;have sv:Same (vx (h++o) o' H') (vx h o H'):=fun b u eb=>by
  obtain⟨n1,n2,n3⟩:=zZ.mp eb;exact zZ.mpr ⟨fun z=>n1 (gj _ z),fun z=>n1 (gm _ z),n3⟩
 exact x o H' S C a fs (Ex.of_same sH) (hs.same sH) (HasE.mono sv hE) q
theorem dR{ps:List Str}{q:PX}{m:Nat}(ha:RAp (PhX E EX) tl dl)(hm:ps.length=m:=by rfl):REp (PhX E EX) (fK (spX ps q) [] E tl) (bW EX m q dl):=fun h o H δ σ S R Q he hs w c x=>
 ha h o H δ σ S _ _ he hs w (fun o1 H1 S1 xs vs e1 s1 x1 ⟨ds,e,hl,d1⟩=>by
  have ex:=fB e;subst ex;have hv:=x1.len;rw[jl];exact⟨by rw[hv,gh,hl,hm],h++o1,[],[],_,_,EX,rep0 s1,hxs0 x1,d1,cn0 s1 (c.pre e1),(x.pre e1).out s1⟩) x
theorem gH(ha:REp (PhX E EX) te de):RSx E EX (uB te) (aB de):=fun h o H δ σ S En D he hs q c x=>ha h o H δ σ S _ _ he hs q c.rt x
theorem yN{g:TG}{dg:DG}(ha:REp (PhX E EX) te de)(hg:RG g dg):RSx E EX (m5 te g) (aA de dg):=fun h o H δ σ S En D he hs q c x=>
 ha h o H δ σ S _ _ he hs q (fun o1 H1 S1 y v e1 s1 x1 d1=>hg h o1 H1 δ σ S1 y v _ _ (he.mono e1) s1 x1 d1 (c.nx.pre e1)) x
theorem gV{t u:TS}{ds dv:DS}(hc:RTp (PhX E EX) tt dt)(ht:RSx E EX t ds)(hu:RSx E EX u dv):RSx E EX (tF tt t u) (aI dt ds dv):=fun h o H δ σ S En D he hs q c x=>
 hc h o H δ σ S _ _ he hs q (fun o1 H1 S1 b e1 s1 d1=>by
  cases b with
  |true=>exact g9 (ht h o1 H1 δ σ S1 En D (he.mono e1) s1 (by simpa using d1) (c.pre e1) (x.pre e1))
  |false=>exact gD (hu h o1 H1 δ σ S1 En D (he.mono e1) s1 (by simpa using d1) (c.pre e1) (x.pre e1))) x
theorem CJ{wi:TI}{g:TG}{tb:TS}{di:DI}{dg:DG}{db:DS}(hi:RIp (PhX E EX) wi di)(hg:RG g dg)(hb:RSx E EX tb db):RSx E EX (k8 wi g tb) (bE di dg db):=fun h o H δ σ S En D he hs q c w=>
 hi h o H δ σ S _ _ he hs q (fun o1 H1 S1 ds J e1 s1 wk d1=>by
  refine⟨fun i m σ2 H2=>m=ds.length-i/\i<=ds.length/\∃o2 δ2 S2,Ex o1 H1 o2 H2/\RepE h o2 H2 δ2 σ2/\RepS h o2 H2 S2/\iG dg db (ds.drop i) En δ2 S2,⟨ds.length,yv,ly _,o1,δ,S1,Ex.refl,he.mono e1,s1,d1⟩,?_⟩;rintro i m σ2 H2 ⟨rfl,hi,o2,δ2,S2,e2,ag,aa,d2⟩;by_cases hlt:i<ds.length
  ·have ed:ds[i]?=some ds[i]:=cw hlt;rw[ko hlt]at d2;refine .inr ⟨wk.go i _ o2 H2 e2.hid ed,fun σ3 H3=>∃o3 δ3 S3,Ex o1 H1 o3 H3/\RepE h o3 H3 δ3 σ3/\RepS h o3 H3 S3/\iG dg db (ds.drop (i+1)) En δ3 S3,fun σ3 H3 n=>⟨ds.length-(i+1),yw,rfl,hlt,n⟩,fun x H3 y=>?_⟩;obtain⟨s3,hx⟩:=wk.yld i _ o2 H2 x H3 S2 e2.hid aa ed y;have af:Ex o2 H2 o2 H3:=Ex.of_same s3;refine hg h o2 H3 δ2 σ2 S2 (.d ds[i]) x _ _ (ag.mono af) (aa.same s3) hx d2 fun o4 H4 δ4 S4 σ4 e4 ah ai d4=>?_;have z:Ex o1 H1 o4 H4:=(e2.trans af).trans e4;have ce:=(c.pre e1).pre z;exact hb h o4 H4 δ4 σ4 S4 _ _ ah ai d4 ⟨fun o5 H5 δ5 S5 σ5 e5 ae ac d5=>⟨o5,δ5,S5,z.trans e5,ae,ac,d5⟩,ce.rt,ce.nx,fun o5 H5 δ5 S5 σ5 e5 ae ac d5=>⟨o5,δ5,S5,z.trans e5,ae,ac,d5⟩⟩ ((w.pre e1).pre z)
  ·have ei:i=ds.length:=yw
   subst ei;rw[drop_length]at d2;exact .inl ⟨wk.stop _ o2 H2 e2.hid (dw _),c.nx o2 H2 δ2 S2 σ2 (e1.trans e2) ag aa d2⟩) w
end
section
variable {Φ:Phi} [Stb Φ] {ta tb te:TE}{da db de:DE}
theorem Ft{K:cq}(ha:REp Φ te de):RIp Φ (tD K te) (cC de):=fun h o H δ σ S R Q he hs q c w=>
 ha h o H δ σ S _ _ he hs q (fun o1 H1 S1 x v e1 s1 x1 d1=>by
  have z:=qH (K:=K) (zn (i:=0)) h o1 H1 [some x] [some v] S1 R Q ⟨rfl,fun i y e=>by
   cases i with
   |zero=>cases e;exact⟨v,rfl,x1⟩
   |succ i=>simp at e⟩ s1 ⟨x,rfl,d1⟩ (fun o2 H2 S2 ds J e2=>c o2 H2 S2 ds J (e1.trans e2))
  obtain⟨v',e,z⟩:=z;cases e;exact z) w
end
section
variable {X:Cx}{E:XK}
theorem dH{x:Str}{ps:List Str}{k j:Nat}{pos pos':Pos}{e:Expr}{es:List Expr}{t:TA}{q:PX}(D:DfX X.prog X.w X.K X.mg X.base x ps k (spX ps q))(hp:Passes (CX1 X.prog X.w) X E)(hr:Room j X.A)(hk:k<=j)(ha:PA X (e::es) t)(hg:Gl X x:=by rfl)(z:(x==("__debug__":Str))=false:=by decide)
  (q1:fk (e::es) X.env=(false,eval e X.env)::fk es X.env:=by rfl) (q2:((ph pos (fk es X.env)).any fun x=>x.fst)=false:=by rfl):PE X (.Call (.Name x pos') (e::es) [] pos) (fK (spX ps q) [] E t):=by
 obtain⟨f,fd,F,hm,kp,hb⟩:=D.ex;exact vC (dvs:=[]) (ds:=[]) (E:=E) F (hr.mono hk) hg hm kp hb .nil hp ha z q1 q2
end
structure XI(K:cq)(C:Addr)(ns:List Str)(qual:Str)(st:Stmt):Prop where
 ex:∃fI fd,ExCls K C (some (.ref fI))/\W.typeIn K (.ref fI)=some (.type "function")/\Fun K "__init__" qual st fI fd/\Binds K fd (("self":Str)::ns) []
 kc:rg K (.ref C)=true
 i:ExI K C
 na:∀n∈ns,NoAttr K C n
theorem XI.mk'{K:cq}{C N fI:Addr}{ns:List Str}{qual:Str}{st:Stmt}{nm qn:Str}{bs:List bn}{hd:Bool}{sn:List Str}{sub:List bn}{ab:Bool}{col:Option Bool}{dd:Option Addr}{k0 k1 k2 k3 k5:Option bn}{oc:bn}{od an:Option Addr}{ac:Array (Option bn)}{kV aa pm z ct:bn}
  (l:K.lookup C=some (excClassObj nm qn C N bs (.ref 24::veB) hd sn sub ab col dd k0 k1 k2 k3 k5 "ValueError.__new__")) {oN:Obj} (lN:K.lookup N=some oN) (sN:yL oN=true) (i:W.nsIn K N "__init__" = some (some (.ref fI))) (G:ExCls K 24 none)
  (tf:W.typeIn K (.ref fI)=some (.type "function")) (lf:K.lookup fI=some ⟨oc,od,.func (W.fnOf "__init__" qual (gT st) (cR st) (zk st) .none kV aa pm an z ct),ac⟩) (c:W.codeIn K z qual=true) (kf:rg K (.ref fI)=true)
  (hb:∀(kV aa pm:bn) (an:Option Addr) (z ct:bn) (us:List bn),us.length=(("self":Str)::ns).length->bindArgs (W.fnOf "__init__" qual (gT st) (cR st) (zk st) .none kV aa pm an z ct) ⟨us,[]⟩=pure ((("self":Str)::ns).zip us))
  (kc:rg K (.ref C)=true) (ek:ExK K C) (hdd:W.hasDictIn K C=true) (sa:sf K (.ref C) "__setattr__" = some (some (.builtin "object.__setattr__"))) (na:∀n∈ns,NoAttr K C n):XI K C ns qual st:=
 ⟨⟨fI,_,exc_ofI l lN sN i G,tf,uL (st:=st) lf c kf,(uL (st:=st) lf c kf).binds hb⟩,kc,⟨ek,hdd,sa⟩,na⟩
theorem Jx{K:cq}{ns:List Str}(vs:List V)(H:Hp)(Q:VK)(E:XK)(h:spI K ns vs H Q E):vs.length=(("self":Str)::ns).length:=by
 obtain⟨a,C,t,ws,rfl,hl,_⟩:=h;rw[fy,fy,hl]
section
variable {X:Cx}{E:XK}{x:Str}{C:Addr}{ns:List Str}{qual:Str}{st:Stmt}{j:Nat}{np cpos pos:Pos}{e:Expr}{es:List Expr}{t:TA}
theorem J7(B:XI X.K C ns qual st)(hF:∀f fd,Fun X.K "__init__" qual st f fd->FnOk X.prog X.w X.K X.mg X.base CX0 1 f fd (("self":Str)::ns) (spI X.K ns))(hR:RaisesI X E)(hr:Room j X.A)(hj:2<=j)(hm:X.mg x=some (.ref C))(hn:ns.length<=9)
  (ha:PA X (e::es) t) (hc:X.calm=true:=by rfl) (hg:Gl X x:=by rfl) (hdb:(x==("__debug__":Str))=false:=by decide) (he:fk (e::es) X.env=(false,eval e X.env)::fk es X.env:=by rfl) (hpl:(ph cpos (fk es X.env)).any (·.1)=false:=by rfl):
  PS X (.Raise (some (.Call (.Name x np) (e::es) [] cpos)) none pos) (AJ E C (spI X.K ns) t):=by
 obtain⟨fI,fd,q,aa,F,hb⟩:=B.ex;exact Nw hc hR hg hm q B.kc aa (hF fI fd F) (fun _ _ _ _ _ z=>z) (fun us=>(hr.mono hj).make C us []) hb (by rw[fy];omega) ha hdb he hpl
end
def AA(N P:List Str)(sc:Scope):Bool:=decide (sc.kind=.function)&&!sc.isCoroutine&&!sc.isGenerator&&decide N.Nodup&&decide (N.take P.length=P)&&P.all (fun x=>decide (sc.names.lookup x=some .local)||decide (sc.names.lookup x=some .cell))&&sc.names.all fun y=>decide (y.2≠.free)
theorem fsc{N P:List Str}{sc:Scope}(h:AA N P sc=true):FnScope N P sc:=by
 simp only[AA,jn,decide_eq_true_eq,Bool.not_eq_true',all_eq_true,Bool.or_eq_true]at h;obtain⟨⟨⟨⟨⟨⟨h1,h2⟩,h3⟩,h4⟩,h5⟩,h6⟩,h7⟩:=h;exact⟨h1,h2,h3,h4,h5,h6,h7⟩
end
section
section
variable {κ α:Type} [DecidableEq κ]
def lkA(m:List (κ×α))(k:κ):Option α:=(m.find? fun p=>decide (p.1=k)).map (·.2)
def ptA(m:List (κ×α))(k:κ)(v:α):List (κ×α):=if (m.any fun p=>decide (p.1=k))=true then m.map (fun p=>if p.1=k then (p.1,v)else p)else m++[(k,v)]
def HasM(H:Hp):List (κ×bq)->List (κ×V)->Prop
 | [],m=>m=[]
 |p::r,m=>∃v m',m=(p.1,v)::m'/\Has H p.2 v/\HasM H r m'
theorem HasM.mono{H H':Hp}(s:Same H H'):∀{m:List (κ×bq)}{m':List (κ×V)},HasM H m m'->HasM H' m m'
 | [],_,q=>q
 |p::r,_,⟨v,t,e,q,l⟩=>⟨v,t,e,Has.mono s _ _ q,HasM.mono s l⟩
theorem HasM.length{H:Hp}:∀{m:List (κ×bq)}{m':List (κ×V)},HasM H m m'->m'.length=m.length
 | [],_,q=>by rw[show _=[]from q];rfl
 |p::r,_,⟨v,t,e,q,l⟩=>by rw[e,fy,fy,HasM.length l]
theorem HasM.val{H:Hp}(k:κ):∀{m:List (κ×bq)}{m':List (κ×V)},HasM H m m'->(lkA m k=none/\eO m' k=none)\/∃d v,lkA m k=some d/\eO m' k=some v/\Has H d v
 | [],m',q=>by rw[show m'=[]from q];exact .inl ⟨rfl,rfl⟩
 |p::r,m',⟨v,t,e,q,l⟩=>by
  subst e;by_cases hk:p.1=k
  ·exact .inr ⟨p.2,v,by simp[lkA,hk],tO hk,q⟩
  ·have e1:lkA (p::r) k=lkA r k:=by simp[lkA,hk]
   rw[e1,r9 hk];exact HasM.val k l
theorem HasM.any{H:Hp}(k:κ):∀{m:List (κ×bq)}{m':List (κ×V)},HasM H m m'->(m'.any fun p=>decide (p.1=k))=m.any fun p=>decide (p.1=k)
 | [],m',q=>by rw[show m'=[]from q];rfl
 |p::r,m',⟨v,t,e,q,l⟩=>by
  subst e;rw[any_cons,any_cons,HasM.any k l]
theorem HasM.sets{H:Hp}{k:κ}{d:bq}{v:V}(hv:Has H d v):∀{m:List (κ×bq)}{m':List (κ×V)},HasM H m m'->HasM H (m.map fun p=>if p.1=k then (p.1,d)else p) (m'.map fun p=>if p.1=k then (p.1,v)else p)
 | [],m',q=>by rw[show m'=[]from q];rfl
 |p::r,m',⟨u,t,e,q,l⟩=>by
  subst e;rw[gc,gc];by_cases hk:p.1=k
  ·exact⟨v,_,by simp[hk],by simpa[hk]using hv,HasM.sets hv l⟩
  ·exact⟨u,_,by simp[hk],by simpa[hk]using q,HasM.sets hv l⟩
theorem HasM.snoc{H:Hp}{k:κ}{d:bq}{v:V}(hv:Has H d v):∀{m:List (κ×bq)}{m':List (κ×V)},HasM H m m'->HasM H (m++[(k,d)]) (m'++[(k,v)])
 | [],m',q=>by rw[show m'=[]from q];exact⟨v,[],rfl,hv,rfl⟩
 |p::r,m',⟨u,t,e,q,l⟩=>by subst e;exact⟨u,_,rfl,q,HasM.snoc hv l⟩
theorem HasM.put{H:Hp}{k:κ}{d:bq}{v:V}{m:List (κ×bq)}{m':List (κ×V)}(l:HasM H m m')(hv:Has H d v):HasM H (ptA m k d) (aZ m' k v):=by
 unfold ptA aZ;rw[l.any k];split
 ·exact l.sets hv
 ·exact l.snoc hv
end
inductive KSg where
 |int|bool|many (s:KSg)|two (s t:KSg)
def KG:KSg->Type
 | .int=>Int
 | .bool=>Bool
 | .many s=>List (KG s)
 | .two s t=>KG s×KG t
instance decKG:(s:KSg)->DecidableEq (KG s)
 | .int=>inferInstanceAs (DecidableEq Int)
 | .bool=>inferInstanceAs (DecidableEq Bool)
 | .many s=>have:=decKG s;inferInstanceAs (DecidableEq (List (KG s)))
 | .two s t=>have:=decKG s;have:=decKG t;inferInstanceAs (DecidableEq (KG s×KG t))
def khash:(s:KSg)->KG s->Int
 | .int,i=>hashInt i
 | .bool,b=>reduceHash (match (show Bool from b)with|true=>1|false=>0)
 | .many s,ks=>reduceHash (Builtin.Tuple.tupleHashOf (ks.map (khash s)))
 | .two s t,k=>reduceHash (Builtin.Tuple.tupleHashOf [khash s k.1,khash t k.2])
def kdat:(g:KSg)->KG g->bq
 | .int,i=>.int i
 | .bool,b=>.bool b
 | .many g,ks=>.tuple (List.map (kdat g) ks)
 | .two g g',k=>.tuple [kdat g k.1,kdat g' k.2]
def PDict(g:KSg)(ob:Obj)(xs:List (KG g×Addr×bn)):Prop:=ob.ExactDict/\∃es ep,ob.data=.dict es ep/\es.toList=xs.map (fun x=>⟨khash g x.1,.ref x.2.1,x.2.2⟩)/\(xs.map (·.1)).Nodup
def PrG(G:Hp)(g:KSg):List (KG g×bq)->List (KG g×Addr×bn)->Prop
 | [],xs=>xs=[]
 |p::r,xs=>∃q t,xs=q::t/\q.1=p.1/\Has G (kdat g p.1) (.ref q.2.1)/\(∃v,Has G p.2 v/\RelV v q.2.2)/\PrG G g r t
theorem PrG.mono{G G':Hp}{g:KSg}(s:Same G G'):∀{m:List (KG g×bq)}{xs:List (KG g×Addr×bn)},PrG G g m xs->PrG G' g m xs
 | [],_,q=>q
 |p::r,_,⟨q,t,e,e1,h1,⟨v,h2,h3⟩,l⟩=>⟨q,t,e,e1,Has.mono s _ _ h1,⟨v,Has.mono s _ _ h2,h3⟩,PrG.mono s l⟩
inductive DD where
 |k (m:List (Key×bq))
 |t (m:List (List Key×bq))
 |g (g:KSg) (ob:Obj) (m:List (KG g×bq))
def DD.pairs:DD->List (bq×bq)
 | .k m=>m.map fun p=>(kD p.1,p.2)
 | .t m=>m.map fun p=>(.tuple (p.1.map kD),p.2)
 | .g sg _ m=>m.map fun p=>(kdat sg p.1,p.2)
def DD.len:DD->Nat
 | .k m=>m.length
 | .t m=>m.length
 | .g _ _ m=>m.length
def fS:bq->Option Key
 | .int i=>some (.inl i)
 | .str x=>some (.inr x)
 |_=>none
def lX:List bq->Option (List Key)
 | []=>some []
 |d::ds=>(fS d).bind fun k=>(lX ds).map (k :: ·)
def jV:bq->Option (List Key)
 | .tuple ds=>lX ds
 |_=>none
def DD.get:DD->bq->Option (Option bq)
 | .k m,y=>(fS y).map (lkA m)
 | .t m,y=>(jV y).map (lkA m)
 | .g _ _ _,_=>none
def DD.put:DD->bq->bq->Option DD
 | .k m,y,d=>(fS y).map fun k=>.k (ptA m k d)
 | .t m,y,d=>(jV y).map fun k=>.t (ptA m k d)
 | .g _ _ _,_,_=>none
def RAt(G H:Hp)(a:Addr):DD->Prop
 | .k m=>∃m',Rd H a (.dK m')/\HasM G m m'
 | .t m=>∃m',Rd H a (.dT m')/\HasM G m m'
 | .g g ob m=>H a=some (obO a ob)/\(a==kx)=false/\∃xs,PDict g ob xs/\PrG G g m xs
def DAt(G H:Hp)(a:Addr):DD->Prop
 | .k m=>∃m',H a=some (.dK m')/\HasM G m m'
 | .t m=>∃m',H a=some (.dT m')/\HasM G m m'
 | .g g ob m=>H a=some (obO a ob)/\(a==kx)=false/\∃xs,PDict g ob xs/\PrG G g m xs
theorem xO{H:Hp}{y:bq}{v:V}{k:Key}(e:fS y=some k)(q:Has H y v):v=kV k:=by
 cases y with
 |int i=>cases e;exact eA.mp q
 |str x=>cases e;exact hV.mp q
 |_=>cases e
theorem EH{H:Hp}:∀{ds:List bq}{vs:List V}{ks:List Key},lX ds=some ks->HasL H ds vs->vs=ks.map kV
 | [],vs,ks,e,l=>by cases e;exact zK.mp l
 |d::ds,vs,ks,e,l=>by
  obtain⟨v,r,rfl,q,l⟩:=zu.mp l;unfold lX at e;cases hk:fS d with
  |none=>rw[hk]at e;cases e
  |some k=>
   rw[hk,Option.bind_some]at e;cases hs:lX ds with
   |none=>rw[hs]at e;cases e
   |some ks'=>
    rw[hs]at e;cases e;rw[xO hk q,EH hs l];rfl
theorem Fm{H:Hp}{y:bq}{v:V}{ks:List Key}(e:jV y=some ks)(q:Has H y v):∃b,v=.ref b/\H b=some (.tup (ks.map kV)):=by
 cases y with
 |tuple ds=>
  obtain⟨b,vs,rfl,eb,l⟩:=d8.mp q;exact⟨b,rfl,by rw[<- EH (show lX ds=some ks from e) l];exact eb⟩
 |_=>cases e
theorem DAt.mono{G G' H H':Hp}{a:Addr}{D:DD}(s:Same G G')(e:∀u,H a=some u->H' a=some u)(q:DAt G H a D):DAt G' H' a D:=by
 cases D with
 |k m=>obtain⟨m',e1,l⟩:=q;exact⟨m',e _ e1,l.mono s⟩
 |t m=>obtain⟨m',e1,l⟩:=q;exact⟨m',e _ e1,l.mono s⟩
 |g g ob m=>obtain⟨e1,ha,xs,pd,l⟩:=q;exact⟨e _ e1,ha,xs,pd,l.mono s⟩
theorem DAt.rd{G H:Hp}{a:Addr}{D:DD}(q:DAt G H a D):RAt G H a D:=by
 cases D with
 |k m=>obtain⟨m',e1,l⟩:=q;exact⟨m',.inl e1,l⟩
 |t m=>obtain⟨m',e1,l⟩:=q;exact⟨m',.inl e1,l⟩
 |g g ob m=>exact q
theorem DAt.mo{G H:Hp}{a:Addr}{D:DD}(q:DAt G H a D):∃u:MO,H a=some u.ho:=by
 cases D with
 |k m=>obtain⟨m',e1,l⟩:=q;exact⟨.k m',e1⟩
 |t m=>obtain⟨m',e1,l⟩:=q;exact⟨.t m',e1⟩
 |g g ob m=>exact⟨.x a ob,q.1⟩
def RelD(G:Hp):Option bq->Option V->Prop
 |none,r=>r=none
 |some d,r=>∃u,r=some u/\Has G d u
theorem RAt.get{G H:Hp}{a:Addr}{D:DD}{y:bq}{v:V}{o:Option bq}(sv:Same G H)(q:RAt G H a D)(hy:Has G y v)(e:D.get y=some o):∃r,DGet H a v r/\RelD G o r:=by
 cases D with
 |k m=>
  obtain⟨m',e1,l⟩:=q;replace e:(fS y).map (lkA m)=some o:=e;cases hk:fS y with
  |none=>rw[hk]at e;cases e
  |some k=>
   rw[hk]at e;cases e;rw[xO hk hy];refine⟨_,.inl ⟨m',k,e1,rfl,rfl⟩,?_⟩;rcases l.val k with ⟨z1,z2⟩|⟨d,u,z1,z2,z3⟩
   ·rw[z1];exact z2
   ·rw[z1];exact⟨u,z2,z3⟩
 |t m=>
  obtain⟨m',e1,l⟩:=q;replace e:(jV y).map (lkA m)=some o:=e;cases hk:jV y with
  |none=>rw[hk]at e;cases e
  |some k=>
   rw[hk]at e;cases e;obtain⟨b,rfl,eb⟩:=Fm hk hy;refine⟨_,.inr ⟨m',k,b,e1,rfl,sv _ _ eb,rfl⟩,?_⟩;rcases l.val k with ⟨z1,z2⟩|⟨d,u,z1,z2,z3⟩
   ·rw[z1];exact z2
   ·rw[z1];exact⟨u,z2,z3⟩
 |g g ob m=>cases e
theorem RAt.isD{G H:Hp}{a:Addr}{D:DD}(q:RAt G H a D):IsD H a:=by
 cases D with
 |k m=>obtain⟨m',e1,_⟩:=q;exact .inl ⟨m',e1⟩
 |t m=>obtain⟨m',e1,_⟩:=q;exact .inr (.inl ⟨m',e1⟩)
 |g g ob m=>obtain⟨e1,ha,xs,pd,l⟩:=q;exact .inr (.inr ⟨ob,e1,pd.1,ha⟩)
theorem DAt.put{G H:Hp}{a:Addr}{D D':DD}{y d:bq}{v u:V}(sv:Same G H)(q:DAt G H a D)(hy:Has G y v)(hd:Has G d u)(e:D.put y d=some D')(hl:D.len<1000):
  ∃x:MO,DPut H a v u (upd H a x.ho)/\∀H',H' a=some x.ho->DAt G H' a D':=by
 cases D with
 |k m=>
  obtain⟨m',e1,l⟩:=q;replace e:((fS y).map fun k=>DD.k (ptA m k d))=some D':=e;cases hk:fS y with
  |none=>rw[hk]at e;cases e
  |some k=>
   rw[hk]at e;cases e;rw[xO hk hy];exact⟨.k (aZ m' k u),DPut.k e1 (by rw[l.length];exact small1000 (kl hl)),fun H' z=>⟨_,z,l.put hd⟩⟩
 |t m=>
  obtain⟨m',e1,l⟩:=q;replace e:((jV y).map fun k=>DD.t (ptA m k d))=some D':=e;cases hk:jV y with
  |none=>rw[hk]at e;cases e
  |some k=>
   rw[hk]at e;cases e;obtain⟨b,rfl,eb⟩:=Fm hk hy;exact⟨.t (aZ m' k u),DPut.t e1 (sv _ _ eb) (by rw[l.length];exact small1000 (kl hl)),fun H' z=>⟨_,z,l.put hd⟩⟩
 |g g ob m=>cases e
theorem MS{a b:Key}(e:kD a=kD b):a=b:=by
 cases a<;>cases b<;>cases e<;>rfl
theorem EM{H:Hp}:∀{m:List (Key×bq)}{m':List (Key×V)},HasM H m m'->HasV H (m.map fun p=>(kD p.1,p.2)) (m'.map (·.2))/\m'.map (fun p=>kD p.1)=m.map fun p=>kD p.1
 | [],m',q=>by rw[show m'=[]from q];exact⟨IW.mpr rfl,rfl⟩
 |p::r,m',⟨v,t,e,q,l⟩=>by
  subst e;obtain⟨z1,z2⟩:=EM l;exact⟨A4.mpr ⟨v,_,rfl,q,z1⟩,by rw[gc,gc,z2]⟩
theorem EG{H:Hp}:∀{m:List (Key×bq)}{m':List (Key×V)},HasV H (m.map fun p=>(kD p.1,p.2)) (m'.map (·.2))->m.map (fun p=>kD p.1)=m'.map (fun p=>kD p.1)->HasM H m m'
 | [],[],_,_=>rfl
 | [],_::_,_,e=>by simp at e
 |_::_,[],_,e=>by simp at e
 |p::r,q::t,h,e=>by
  rw[gc,gc]at h;obtain⟨v,s,e1,e2,e3⟩:=A4.mp h;rw[List.cons.injEq]at e1;rw[gc,gc,List.cons.injEq]at e;have z:=MS e.1;obtain⟨q1,q2⟩:=q;refine⟨q2,t,by rw[z],?_,EG (by rw[e1.2];exact e3) e.2⟩;have z1:q2=v:=e1.1;rw[z1];exact e2
theorem jO{H:Hp}{m:List (Key×bq)}{v:V}:Has H (.dict (DD.pairs (.k m))) v↔∃a ob m',v=.ref a/\H a=some (.frz ob (.dK m'))/\HasM H m m':=by
 rw[Bs];constructor
 ·rintro⟨a,vs,rfl,⟨ob,m',e,e1,e2⟩|⟨ob,p,m',e,e1,e2⟩,l⟩
  rotate_left
  ·cases m with
   |nil=>cases e1
   |cons q r=>
    have z:=congrArg List.head? e1;simp only[DD.pairs,gc,List.head?_cons,Option.some.injEq]at z;cases h:q.1<;>rw[h]at z<;>cases z
  subst e2;refine⟨a,ob,m',rfl,e,EG l ?_⟩;rw[<- e1];simp[DD.pairs]
 ·rintro⟨a,ob,m',rfl,e,l⟩;obtain⟨z1,z2⟩:=EM l;exact⟨a,_,rfl,.inl ⟨ob,m',e,by rw[z2];simp[DD.pairs],rfl⟩,z1⟩
abbrev DM:=List (Addr×DD)
def ad(M:DM):List Addr:=M.map (·.1)
structure RepM(h o:List Addr)(H:Hp)(M:DM):Prop where
 nd:(ad M).Nodup
 nh:∀a∈ad M,a∉h/\a∉o
 ct:∀a D,(a,D)∈M->DAt (vx (h++ad M) o H) H a D
section
variable {h o o':List Addr}{H H':Hp}{M:DM}{S:Sto}
theorem RepM.at(r:RepM h o H M){a:Addr}(m:a∈ad M):∃D,(a,D)∈M/\DAt (vx (h++ad M) o H) H a D:=by
 obtain⟨p,mp,e⟩:=mem_map.mp m;obtain⟨b,D⟩:=p;cases e;exact⟨D,mp,r.ct _ D mp⟩
theorem RepM.mono(r:RepM h o H M)(e:Ex o H o' H'):RepM h o' H' M:=by
 have k1:∀a∈ad M,∀u,H a=some u->a∉o'/\H' a=some u:=fun a m u z=>e.kp a u (r.nh a m).2 z;refine⟨r.nd,fun a m=>⟨(r.nh a m).1,?_⟩,fun a D m=>?_⟩
 ·obtain⟨D,_,q⟩:=r.at m;obtain⟨u,z⟩:=q.mo;exact(k1 a m _ z).1
 ·exact(r.ct a D m).mono e.vx fun u z=>(k1 a (mem_map.mpr ⟨_,m,rfl⟩) u z).2
theorem RepM.nil:RepM h o H []:=⟨nodup_nil,fun a m=>(by cases m),fun a D m=>(by cases m)⟩
def kS(M:DM)(a:Addr)(D:DD):DM:=M.map fun p=>if p.1=a then (a,D)else p
theorem jT{a:Addr}{D:DD}:∀{M:DM},ad (kS M a D)=ad M
 | []=>rfl
 |p::r=>by
  have z:=jT (a:=a) (D:=D) (M:=r);unfold ad kS at z ⊢;rw[gc,gc,gc,z];by_cases e:p.1=a<;>simp[e]
theorem vT{a:Addr}{u:HO}(m:a∈h):Same (vx h o H) (vx h o (upd H a u)):=fun b w e=>by
 obtain⟨z1,z2,z3⟩:=zZ.mp e;exact zZ.mpr ⟨z1,z2,by rw[zG (fun z=>z1 (by rw[z];exact m))];exact z3⟩
theorem HasX.view(s:Same (vx h o H) (vx h o H')):∀{x:XV}{v:V},HasX h o H x v->HasX h o H' x v
 | .d d,v,q=>Has.mono s d v q
 | .l k,v,q=>q
 | .o w,v,q=>q
 | .x C fs,v,q=>HasE.mono s q
 | .p k d,v,q=>HasLP.to s (fun _ z=>z) q
theorem RepE.view{δ:XE}{σ:St}(s:Same (vx h o H) (vx h o H'))(r:RepE h o H δ σ):RepE h o H' δ σ:=⟨r.len,fun i x e=>let ⟨v,e1,e2⟩:=r.get i x e;⟨v,e1,e2.view s⟩⟩
theorem RepS.hidden{a:Addr}{u:MO}(r:RepS h o H S)(m:a∈h):RepS h o (L2.upd H a u.ho) S where
 len:=r.len
 nd:=r.nd
 dis:=r.dis
 hal:=fun b mb=>by
  by_cases e:b=a
  ·subst e;exact⟨u,zM⟩
  ·obtain⟨w,z⟩:=r.hal b mb;exact⟨w,by rw[zG e];exact z⟩
 cont:=fun k b ds e1 e2=>by
  obtain⟨vs,e3,l⟩:=r.cont k b ds e1 e2;have ne:b≠a:=fun z=>r.dis b (cb e1) (z▸m);exact⟨vs,by rw[zG ne];exact e3,HasL.mono (vT m) _ _ l⟩
theorem RepM.put{a:Addr}{D D':DD}{u:MO}(r:RepM h o H M)(m:(a,D)∈M)(q:∀H',H' a=some u.ho->DAt (vx (h++ad M) o H) H' a D'):RepM h o (L2.upd H a u.ho) (kS M a D'):=by
 have ma:a∈ad M:=mem_map.mpr ⟨_,m,rfl⟩;refine⟨by rw[jT];exact r.nd,by rw[jT];exact r.nh,fun b D2 mb=>?_⟩;rw[jT];have sv:Same (vx (h++ad M) o H) (vx (h++ad M) o (L2.upd H a u.ho)):=vT (gm _ ma);obtain⟨p,mp,ep⟩:=mem_map.mp mb;by_cases e:p.1=a
 ·rw[cp e]at ep;cases ep;exact(q _ zM).mono sv fun _ z=>z
 ·rw[cf e]at ep;subst ep;exact(r.ct _ _ mp).mono sv fun w z=>by rw[zG e];exact z
theorem RepS.less{l:List Addr}(r:RepS (h++l) o H S):RepS h o H S where
 len:=r.len
 nd:=r.nd
 dis:=fun a ma z=>r.dis a ma (gj _ z)
 hal:=fun b mb=>r.hal b (gj _ mb)
 cont:=fun k b ds e1 e2=>by
  obtain⟨vs,e3,q⟩:=r.cont k b ds e1 e2;exact⟨vs,e3,HasL.mono (fun c u z=>let ⟨z1,z2,z3⟩:=zZ.mp z;zZ.mpr ⟨fun mm=>z1 (gj _ mm),z2,z3⟩) _ _ q⟩
theorem nA{l:List Addr}:Same (vx (h++l) o H) (vx h o H):=fun c u z=>let ⟨z1,z2,z3⟩:=zZ.mp z;zZ.mpr ⟨fun mm=>z1 (gj _ mm),z2,z3⟩
theorem HasX.less{l:List Addr}:∀{x:XV}{v:V},HasX (h++l) o H x v->HasX h o H x v
 | .d d,v,q=>Has.mono nA d v q
 | .l k,v,q=>q
 | .o w,v,q=>q
 | .x C fs,v,q=>HasE.mono nA q
 | .p k d,v,q=>HasLP.to nA (fun _ z=>z) q
end
end
section
structure DEndsM where
 nx:XE->Sto->DM->Prop
 rt:XV->Sto->DM->Prop
 bk:XE->Sto->DM->Prop:=fun _ _ _=>False
 ct:XE->Sto->DM->Prop:=fun _ _ _=>False
abbrev DSm:=DEndsM->XE->Sto->DM->Prop
def Fr(H:Hp)(M:DM):Prop:=∀a∈ad M,H a=none
def NxM(h o:List Addr)(H:Hp)(A:List Addr)(N:XE->Sto->DM->Prop)(Y:St->Hp->Prop):Prop:=∀o' H' δ' S' M' σ',Ex o H o' H'->ad M'=A->RepE (h++ad M') o' H' δ' σ'->RepS (h++ad M') o' H' S'->RepM h o' H' M'->N δ' S' M'->Y σ' H'
structure EOkM(h o:List Addr)(H:Hp)(A:List Addr)(E:DEndsM)(D:Ends):Prop where
 nx:NxM h o H A E.nx D.nx
 rt:∀o' H' S' M' x v,Ex o H o' H'->ad M'=A->RepS (h++ad M') o' H' S'->RepM h o' H' M'->HasX (h++ad M') o' H' x v->E.rt x S' M'->D.rt v H'
 bk:NxM h o H A E.bk D.bk
 ct:NxM h o H A E.ct D.ct
def RSm(E:XK)(EX:EXD)(t:TS)(dt:DSm):Prop:=∀(h o0:List Addr) (H0:Hp) (o:List Addr) (H:Hp) (δ:XE) (σ:St) (S:Sto) (M:DM) (En:DEndsM) (D:Ends),Ex o0 H0 o H->Fr H0 M->RepE (h++ad M) o H δ σ->RepS (h++ad M) o H S->RepM h o H M->dt En δ S M ->
 EOkM h o0 H0 (ad M) En D->CnX h o0 H0 EX E->t D σ H
theorem CnX.inn{E:XK}{EX:EXD}{h o0 o l:List Addr}{H0 H:Hp}(x:CnX h o0 H0 EX E)(e0:Ex o0 H0 o H):CnX (h++l) o H EX E:=fun o' H' S' C a fs e s' hE q=>x o' H' S' C a fs (e0.trans e) s'.less (HasE.mono nA hE) q
def iS(dt:DS):DSm:=fun En δ S M=>dt { nx:=fun δ' S'=>En.nx δ' S' M,rt:=fun x S'=>En.rt x S' M,bk:=fun δ' S'=>En.bk δ' S' M,ct:=fun δ' S'=>En.ct δ' S' M } δ S
def oP(t u:DSm):DSm:=fun En δ S M=>t { En with nx:=u En } δ S M
def qT(c:DM->DT)(t u:DSm):DSm:=fun En δ S M=>c M δ S fun b S1=>if b=true then t En δ S1 M else u En δ S1 M
def iQ(g:DG)(b:DSm):List bq->DSm
 | [],E,δ,S,M=>E.nx δ S M
 |d::ds,E,δ,S,M=>g (.d d) δ S fun δ1 S1=>b { nx:=fun δ2 S2 M2=>iQ g b ds E δ2 S2 M2,ct:=fun δ2 S2 M2=>iQ g b ds E δ2 S2 M2,bk:=E.nx,rt:=E.rt } δ1 S1 M
def jA(i:DM->DI)(g:DG)(b:DSm):DSm:=fun En δ S M=>i M δ S fun ds S1=>iQ g b ds En δ S1 M
def PhM(M:DM):Phi:=fun h' o H=>∃h,h'=h++ad M/\RepM h o H M
instance {M:DM}:Stb (PhM M):=⟨fun⟨h,e,r⟩ x=>⟨h,e,r.mono x⟩⟩
section
variable {E:XK}{EX:EXD}{t u:TS}{dt du:DSm}
theorem Lv{ds:DS}(ht:RSx E EX t ds):RSm E EX t (iS ds):=fun h o0 H0 o H δ σ S M En D e0 fr he hs rm q c x=>
 ht (h++ad M) o H δ σ S _ D he hs q ⟨fun o' H' δ' S' σ' e aa z n=>c.nx o' H' δ' S' M σ' (e0.trans e) rfl aa z (rm.mono e) n,fun o' H' S' y v e z hy n=>c.rt o' H' S' M y v (e0.trans e) rfl z (rm.mono e) hy n,
  fun o' H' δ' S' σ' e aa z n=>c.bk o' H' δ' S' M σ' (e0.trans e) rfl aa z (rm.mono e) n,fun o' H' δ' S' σ' e aa z n=>c.ct o' H' δ' S' M σ' (e0.trans e) rfl aa z (rm.mono e) n⟩ (x.inn e0)
theorem Jb{ds:DS}(ht:RS t ds):RSm E EX t (iS ds):=Lv (bM ht)
theorem MY(ht:RSm E EX t dt)(hu:RSm E EX u du):RSm E EX (dP t u) (oP dt du):=fun h o0 H0 o H δ σ S M En D e0 fr he hs rm q c x=>
 ht h o0 H0 o H δ σ S M _ _ e0 fr he hs rm q ⟨fun o1 H1 δ1 S1 M1 σ1 e1 ea aa ac z q1=>hu h o0 H0 o1 H1 δ1 σ1 S1 M1 En D e1 (by unfold Fr;rw[ea];exact fr) aa ac z q1 (by rw[ea];exact c) x,c.rt,c.bk,c.ct⟩ x
theorem Cz{wi:TI}{g:TG}{tb:TS}{di:DM->DI}{dg:DG}{db:DSm}(hi:∀M,RIp (PhM M) wi (di M))(hg:RG g dg)(hb:RSm E EX tb db):RSm E EX (k8 wi g tb) (jA di dg db):=fun h o0 H0 o H δ σ S M En D e0 fr he hs rm q c x=>
 hi M (h++ad M) o H δ σ S _ _ he hs q (fun o1 H1 S1 ds J e1 s1 wk d1=>by
  refine⟨fun i m σ2 H2=>m=ds.length-i/\i<=ds.length/\∃o2 δ2 S2 M2,Ex o0 H0 o2 H2/\ExH (h++ad M) o1 H1 o2 H2/\ad M2=ad M/\RepE (h++ad M) o2 H2 δ2 σ2/\RepS (h++ad M) o2 H2 S2/\RepM h o2 H2 M2/\iQ dg db (ds.drop i) En δ2 S2 M2,
   ⟨ds.length,yv,ly _,o1,δ,S1,M,e0.trans e1,ExH.refl,rfl,he.mono e1,s1,rm.mono e1,d1⟩,?_⟩
  rintro i m σ2 H2 ⟨rfl,hi,o2,δ2,S2,M2,e2,x2,ea,ak,ah,al,d2⟩;by_cases hlt:i<ds.length
  ·have ed:ds[i]?=some ds[i]:=cw hlt;rw[ko hlt]at d2;refine .inr ⟨wk.go i _ o2 H2 x2 ed,fun σ3 H3=>∃o3 δ3 S3 M3,Ex o0 H0 o3 H3/\ExH (h++ad M) o1 H1 o3 H3/\ad M3=ad M/\RepE (h++ad M) o3 H3 δ3 σ3/\RepS (h++ad M) o3 H3 S3/\RepM h o3 H3 M3/\iQ dg db (ds.drop (i+1)) En δ3 S3 M3,fun σ3 H3 n=>⟨ds.length-(i+1),yw,rfl,hlt,n⟩,fun y H3 yy=>?_⟩;obtain⟨s3,hx⟩:=wk.yld i _ o2 H2 y H3 S2 x2 ah ed yy;have aj:Ex o2 H2 o2 H3:=Ex.of_same s3;refine hg (h++ad M) o2 H3 δ2 σ2 S2 (.d ds[i]) y _ _ (ak.mono aj) (ah.same s3) hx d2 fun o4 H4 δ4 S4 σ4 e4 an ao d4=>?_;have ag:Ex o2 H2 o4 H4:=aj.trans e4;have nM:∀b u,H0 b=some u->b∉ad M:=fun b u z mb=>by
    rw[fr b mb]at z;cases z
   have af:Ex o0 H0 o4 (fun b=>if b∈ad M then none else H4 b):=⟨(e2.trans ag).pre,fun b u nb z=>by
    obtain⟨z1,z2⟩:=(e2.trans ag).kp b u nb z;exact⟨z1,by show (if b∈ad M then none else H4 b)=some u;rw[cf (nM b u z)];exact z2⟩⟩
   have am:∀{o5 H5},Ex o4 (fun b=>if b∈ad M then none else H4 b) o5 H5->ExH (h++ad M) o4 H4 o5 H5:=fun e5=>⟨e5.pre,fun b u n1 n2 z=>e5.kp b u n2 (by show (if b∈ad M then none else H4 b)=some u;rw[cf (fun mb=>n1 (gm _ mb))];exact z)⟩;have aa:∀o5 H5 δ5 S5 M5 σ5,Ex o4 (fun b=>if b∈ad M then none else H4 b) o5 H5->ad M5=ad M2->RepE (h++ad M5) o5 H5 δ5 σ5->RepS (h++ad M5) o5 H5 S5->RepM h o5 H5 M5->iQ dg db (ds.drop (i+1)) En δ5 S5 M5 ->
     ∃o3 δ3 S3 M3,Ex o0 H0 o3 H5/\ExH (h++ad M) o1 H1 o3 H5/\ad M3=ad M/\RepE (h++ad M) o3 H5 δ3 σ5/\RepS (h++ad M) o3 H5 S3/\RepM h o3 H5 M3/\iQ dg db (ds.drop (i+1)) En δ3 S3 M3:=fun o5 H5 δ5 S5 M5 σ5 e5 a5 ai ac ae d5=>
    ⟨o5,δ5,S5,M5,af.trans e5,(x2.trans ag.hid).trans (am e5),a5.trans ea,by rw[<- ea,<- a5];exact ai,by rw[<- ea,<- a5];exact ac,ae,d5⟩
   refine hb h o4 (fun b=>if b∈ad M then none else H4 b) o4 H4 δ4 σ4 S4 M2 _ _ ⟨⟨[],yv⟩,fun b u nb eb=>?_⟩ (fun a ma=>by show (if a∈ad M then none else H4 a)=none;rw[cp (by rw[<- ea];exact ma)]) (by rw[ea];exact an) (by rw[ea];exact ao) (al.mono ag) d4
    ⟨aa,fun o5 H5 S5 M5 y5 v5 e5 a5 ac ae ap q5=>c.rt o5 H5 S5 M5 y5 v5 (af.trans e5) (a5.trans ea) ac ae ap q5,fun o5 H5 δ5 S5 M5 σ5 e5 a5 ai ac ae q5=>c.nx o5 H5 δ5 S5 M5 σ5 (af.trans e5) (a5.trans ea) ai ac ae q5,aa⟩ (x.pre af)
   refine⟨nb,?_⟩;by_cases mb:b∈ad M
   ·simp[mb]at eb
   ·simpa[mb]using eb
  ·have ei:i=ds.length:=yw
   subst ei;rw[drop_length]at d2;exact .inl ⟨wk.stop _ o2 H2 x2 (dw _),c.nx o2 H2 δ2 S2 M2 σ2 e2 ea (by rw[ea];exact ak) (by rw[ea];exact ah) al d2⟩) ⟨h,rfl,rm⟩
end
end
section
section
variable {h h' o:List Addr}{H H':Hp}
theorem HasX.to(s:Same (vx h o H) (vx h' o H')):∀{x:XV}{v:V},HasX h o H x v->HasX h' o H' x v
 | .d d,v,q=>Has.mono s d v q
 | .l k,v,q=>q
 | .o w,v,q=>q
 | .x C fs,v,q=>HasE.mono s q
 | .p k d,v,q=>HasLP.to s (fun _ z=>z) q
theorem RepE.to{δ:XE}{σ:St}(s:Same (vx h o H) (vx h' o H'))(r:RepE h o H δ σ):RepE h' o H' δ σ:=⟨r.len,fun i x e=>let ⟨v,e1,e2⟩:=r.get i x e;⟨v,e1,e2.to s⟩⟩
end
def lF(a:Addr)(m:List (Key×bq)):XV->XV
 | .o (.ref b)=>if b=a then .d (.dict (DD.pairs (.k m)))else .o (.ref b)
 |x=>x
theorem JU{h h' o:List Addr}{H H':Hp}{a:Addr}{m:List (Key×bq)}{m':List (Key×V)}{ob:Obj}(s:Same (vx h o H) (vx h' o H'))(e:vx h' o H' a=some (.frz ob (.dK m')))(l:HasM (vx h o H) m m'):∀{x:XV}{v:V},HasX h o H x v->HasX h' o H' (lF a m x) v
 | .d d,v,z=>Has.mono s d v z
 | .l k,v,z=>z
 | .x C fs,v,z=>HasE.mono s z
 | .p k d,v,z=>HasLP.to s (fun _ z=>z) z
 | .o w,v,z=>by
  cases w with
  |ref b=>
   unfold lF;dsimp only;split
   ·rename_i eb;subst eb;rw[show v=.ref b from z];exact jO.mpr ⟨b,ob,m',rfl,e,l.mono s⟩
   ·exact z
  |_=>exact z
theorem Ng{h h' o:List Addr}{H H':Hp}{a:Addr}{m:List (Key×bq)}{m':List (Key×V)}{ob:Obj}{δ:XE}{σ:St}(s:Same (vx h o H) (vx h' o H'))(e:vx h' o H' a=some (.frz ob (.dK m')))(l:HasM (vx h o H) m m')(r:RepE h o H δ σ):RepE h' o H' (δ.map (sx (lF a m))) σ:=by
 refine⟨by rw[gh];exact r.len,fun i x ex=>?_⟩;rw[iw]at ex;cases hd:δ[i]? with
 |none=>rw[hd]at ex;cases ex
 |some y=>
  rw[hd]at ex;cases y with
  |none=>cases ex
  |some y=>
   cases ex;obtain⟨v,e1,e2⟩:=r.get i y hd;exact⟨v,e1,JU s e l e2⟩
theorem bK{M:DM}{a:Addr}{D:DD}:ad (M++[(a,D)])=ad M++[a]:=by simp[ad]
theorem RepM.init{h o:List Addr}{H:Hp}{M:DM}{a:Addr}{D:DD}(r:RepM h o H (M++[(a,D)])):RepM h o H M:=by
 have nd:=r.nd;rw[bK]at nd;refine⟨(nodup_append.mp nd).1,fun b m=>r.nh b (by rw[bK];exact gj _ m),fun b D2 m=>?_⟩;have z:=r.ct b D2 (gj _ m);rw[bK,<- ig]at z;exact z.mono nA fun _ z=>z
def iI(f:Bool)(i:Nat)(D0:DD)(b:DSm):DSm:=fun En δ S M=>∀a,a∉ad M->b { nx:=(fun δ' S' M'=>if f=true then (∃M1 m,M'=M1++[(a,.k m)]/\δ'[i]?=some (some (.o (.ref a)))/\En.nx (δ'.map (sx (lF a m))) S' M1)else (∃M1 D,M'=M1++[(a,D)]/\En.nx δ' S' M1)),rt:=(fun x S' M'=>∃M1 D,M'=M1++[(a,D)]/\En.rt x S' M1),bk:=(fun δ' S' M'=>∃M1 D,M'=M1++[(a,D)]/\En.bk δ' S' M1),ct:=(fun δ' S' M'=>∃M1 D,M'=M1++[(a,D)]/\En.ct δ' S' M1) } (δ.set i (some (.o (.ref a)))) S (M++[(a,D0)])
section
variable {E:XK}{EX:EXD}{tb:TS}{db:DSm}{i:Nat}
theorem Gv{f:Bool}{p:Addr}{u:MO}{D0:DD}(hD:∀(G H:Hp),H p=some u.ho->DAt G H p D0)(hb:RSm E EX tb db){h o0:List Addr}{H0:Hp}{o:List Addr}{H:Hp}{δ:XE}{σ:St}{S:Sto}{M:DM}{En:DEndsM}{D:Ends}(e0:Ex o0 H0 o H)(fr:Fr H0 M)(he:RepE (h++ad M) o H δ σ)(hs:RepS (h++ad M) o H S)(rm:RepM h o H M)
  (q:iI f i D0 db En δ S M) (c:EOkM h o0 H0 (ad M) En D) (x:CnX h o0 H0 EX E) (hp:H p=none):(if f=true then yP i tb else tb) D (σ.set i (some (.ref p))) (upd H p u.ho):=by
 have nM:p∉ad M:=fun m=>by
  obtain⟨D2,_,z⟩:=rm.at m;obtain⟨w,ew⟩:=z.mo;rw[hp]at ew;cases ew
 have f1:=hs.fresh hp;have nh:p∉h:=fun m=>f1.1 (gj _ m);have sH:Same H (upd H p u.ho):=Same.laid hp;have e1:Ex o0 H0 o (upd H p u.ho):=e0.trans (Ex.of_same sH);have H0p:H0 p=none:=by
  cases z:H0 p with
  |none=>rfl
  |some w=>
   by_cases m:p∈o0
   ·obtain⟨r,er⟩:=e0.pre;exact absurd (show p∈o by rw[er];exact gj _ m) f1.2
   ·have:=(e0.kp p w m z).2;rw[hp]at this;cases this
 have sv:Same (vx (h++ad M) o H) (vx (h++(ad M++[p])) o (upd H p u.ho)):=fun b w z=>by
  obtain⟨z1,z2,z3⟩:=zZ.mp z;have ne:b≠p:=zO z3 hp;refine zZ.mpr ⟨fun m=>?_,z2,by rw[zG ne];exact z3⟩;rw[<- ig]at m;rcases mem_append.mp m with m|m
  ·exact z1 m
  ·exact ne (mem_singleton.mp m)
 have sM:RepS (h++ad (M++[(p,D0)])) o (upd H p u.ho) S:=by
  rw[bK];refine⟨hs.len,hs.nd,fun a ma z=>?_,fun b mb=>?_,fun k b ds e1 e2=>?_⟩
  ·rw[<- ig]at z;rcases mem_append.mp z with z|z
   ·exact hs.dis a ma z
   ·rw[mem_singleton.mp z]at ma;exact f1.2 ma
  ·rw[<- ig]at mb;rcases mem_append.mp mb with m|m
   ·obtain⟨w,ew⟩:=hs.hal b m;exact⟨w,sH _ _ ew⟩
   ·rw[mem_singleton.mp m];exact⟨u,zM⟩
  ·obtain⟨vs,e3,l⟩:=hs.cont k b ds e1 e2;exact⟨vs,sH _ _ e3,HasL.mono sv _ _ l⟩
 have mM:RepM h o (upd H p u.ho) (M++[(p,D0)]):=by
  refine⟨by rw[bK];exact nP rm.nd nM,fun a ma=>?_,fun a D2 m=>?_⟩
  ·rw[bK]at ma;rcases mem_append.mp ma with m|m
   ·exact rm.nh a m
   ·rw[mem_singleton.mp m];exact⟨nh,f1.2⟩
  ·rw[bK];rcases mem_append.mp m with m|m
   ·exact(rm.ct a D2 m).mono sv fun w z=>sH _ _ z
   ·have:=mem_singleton.mp m;cases this;exact hD _ _ zM
 have hE:RepE (h++ad (M++[(p,D0)])) o (upd H p u.ho) (δ.set i (some (.o (.ref p)))) (σ.set i (some (.ref p))):=by
  rw[bK];exact(he.to sv).set (show HasX _ _ _ (.o (.ref p)) (.ref p)from rfl)
 have ai:Fr H0 (M++[(p,D0)]):=fun a ma=>by
  rw[bK]at ma;rcases mem_append.mp ma with m|m
  ·exact fr a m
  ·rw[mem_singleton.mp m];exact H0p
 have ae:∀{N:XE->Sto->DM->Prop}{Y:St->Hp->Prop},NxM h o0 H0 (ad M) N Y->NxM h o0 H0 (ad (M++[(p,D0)])) (fun δ' S' M'=>∃M1 D,M'=M1++[(p,D)]/\N δ' S' M1) Y:=fun {N Y} nx o' H' δ' S' M' σ' ex ea af aa ac ⟨M1,D2,eM,n⟩=>by
  subst eM;rw[bK,bK]at ea;rw[bK,<- ig]at af aa;exact nx o' H' _ S' M1 σ' ex (List.append_inj_left' ea rfl) (af.to nA) aa.less ac.init n
 have ah:∀o' H' S' M' y v,Ex o0 H0 o' H'->ad M'=ad (M++[(p,D0)])->RepS (h++ad M') o' H' S'->RepM h o' H' M'->HasX (h++ad M') o' H' y v->(∃M1 D,M'=M1++[(p,D)]/\En.rt y S' M1)->D.rt v H':=by
  rintro o' H' S' M' y v ex ea aa ac ag ⟨M1,D2,eM,n⟩;subst eM;rw[bK,bK]at ea;rw[bK,<- ig]at ag aa;exact c.rt o' H' S' M1 _ v ex (List.append_inj_left' ea rfl) aa.less ac.init ag.less n
 have qq:=q p nM;cases f with
 |false=>
  refine hb h o0 H0 o _ _ _ S (M++[(p,D0)]) _ D e1 ai hE sM mM qq ⟨?_,ah,ae c.bk,ae c.ct⟩ x;exact fun o' H' δ' S' M' σ' ex ea af aa ac n=>ae c.nx o' H' δ' S' M' σ' ex ea af aa ac (by simpa using n)
 |true=>
  refine hb h o0 H0 o _ _ _ S (M++[(p,D0)]) _ { D with nx:=fun σ' H'=>∃a m,σ'[i]?=some (some (.ref a))/\H' a=some (.dK m)/\∀ob,D.nx σ' (upd H' a (.frz ob (.dK m))) } e1 ai hE sM mM qq ⟨?_,ah,ae c.bk,ae c.ct⟩ x;intro o' H' δ' S' M' σ' ex ea af aa ac n;obtain⟨M1,m,eM,ei,n2⟩:∃M1 m,M'=M1++[(p,DD.k m)]/\δ'[i]?=some (some (.o (.ref p)))/\En.nx (δ'.map (sx (lF p m))) S' M1:=by simpa using n
  subst eM;obtain⟨v,ev,hv⟩:=af.get i _ ei;have aj:v=.ref p:=hv;subst aj;have nn:=ac.nh p (by rw[bK];simp);have nd:=ac.nd;rw[bK,bK]at ea;rw[bK]at nd;have pn:p∉ad M1:=fun m=>(nodup_append.mp nd).2.2 p m p yv rfl;obtain⟨m',em,l⟩:=ac.ct p (.k m) yv;refine⟨p,m',ev,em,fun ob=>?_⟩;have np:p∉h++ad M1:=fun z=>(mem_append.mp z).elim nn.1 pn;have s2:Same (vx (h++ad (M1++[(p,DD.k m)])) o' H') (vx (h++ad M1) o' (upd H' p (.frz ob (.dK m')))):=fun b w z=>by
   obtain⟨z1,z2,z3⟩:=zZ.mp z;rw[bK,<- ig]at z1;have ne:b≠p:=fun z=>z1 (by rw[z];simp);exact zZ.mpr ⟨fun mm=>z1 (gj _ mm),z2,by rw[zG ne];exact z3⟩
  refine c.nx o' _ _ S' M1 σ' ⟨ex.pre,fun b w nb zb=>?_⟩ (List.append_inj_left' ea rfl) (Ng s2 (zZ.mpr ⟨np,nn.2,zM⟩) l af) ?_ ?_ n2
  ·obtain⟨z1,z3⟩:=ex.kp b w nb zb;exact⟨z1,by rw[zG (fun z=>by rw[z,H0p]at zb;cases zb)];exact z3⟩
  ·refine⟨aa.len,aa.nd,fun a ma z=>aa.dis a ma (by rw[bK,<- ig];exact gj _ z),fun b mb=>?_,fun k b ds q1 q2=>?_⟩
   ·obtain⟨w,ew⟩:=aa.hal b (by rw[bK,<- ig];exact gj _ mb);exact⟨w,by rw[zG (fun z=>np (by rw[<- z];exact mb))];exact ew⟩
   ·obtain⟨vs,q3,l3⟩:=aa.cont k b ds q1 q2;exact⟨vs,by rw[zG (fun z=>nn.2 (by rw[<- z];exact cb q1))];exact q3,HasL.mono s2 _ _ l3⟩
  ·have r1:=ac.init;refine⟨r1.nd,r1.nh,fun b D3 mb=>?_⟩;have nb:b≠p:=fun z=>pn (by rw[<- z];exact mem_map.mpr ⟨_,mb,rfl⟩);exact(ac.ct b D3 (gj _ mb)).mono s2 fun w z=>by rw[zG nb];exact z
theorem Hj(hb:RSm E EX tb db):RSm E EX (dP (m5 CZ (lI i)) (yP i tb)) (iI true i (.k []) db):=fun h o0 H0 o H δ σ S M En D e0 fr he hs rm q c x p hp=>
 Gv (f:=true) (D0:=.k []) (u:=.k []) (fun G H z=>⟨[],z,rfl⟩) hb e0 fr he hs rm q c x hp
def jI(dt:DSm):DS:=fun En δ S=>dt { nx:=fun δ' S' _=>En.nx δ' S',rt:=fun x S' _=>En.rt x S',bk:=fun δ' S' _=>En.bk δ' S',ct:=fun δ' S' _=>En.ct δ' S' } δ S []
theorem NZ{t:TS}{dt:DSm}(ht:RSm E EX t dt):RSx E EX t (jI dt):=fun h o H δ σ S En D he hs q c x=>by
 have z:h++ad []=h:=jl _;have nx:∀{N:XE->Sto->Prop}{Y:St->Hp->Prop},Nx h o H N Y->NxM h o H (ad []) (fun δ' S' _=>N δ' S') Y:=fun {N Y} n o' H' δ' S' M' σ' ex ea ae aa _ q'=>by
  rw[ea,z]at ae aa;exact n o' H' δ' S' σ' ex ae aa q'
 refine ht h o H o H δ σ S [] _ D Ex.refl (fun a m=>by cases m) (by rw[z];exact he) (by rw[z];exact hs) RepM.nil q ⟨nx c.nx,?_,nx c.bk,nx c.ct⟩ x;rintro o' H' S' M' y v ex ea aa _ ac q';rw[ea,z]at aa ac;exact c.rt o' H' S' y v ex aa ac q'
theorem HD{t:TS}{dt:DSm}(ht:RSm E0 (fun _ _=>False) t dt):RS t (jI dt):=fun h o H δ σ S En D he hs q c=>NZ ht h o H δ σ S En D he hs q c fun _ _ _ _ _ _ _ _ _ z=>z.elim
end
end
section
def ROp(Φ:Phi)(r:R2)(rd:D2):Prop:=∀(h o:List Addr) (H:Hp) (S:Sto) (x y:XV) (v u:V) (R:RX) (Q:VK),Φ h o H->RepS h o H S->HasX h o H x v->HasX h o H y u->rd x y S R->Cn h o H R Q->r v u H Q
section
variable {Φ:Phi} [Stb Φ] {ta tb:TE}{da db:DE}
theorem A0{r:R2}{rd:D2}(hr:ROp Φ r rd)(ha:REp Φ ta da)(hb:REp Φ tb db):REp Φ (tOp r ta tb) (dOp rd da db):=fun h o H δ σ S R Q he hs q c w=>
 ha h o H δ σ S _ _ he hs q (fun o1 H1 S1 x v e1 s1 x1 d1=>hb h o1 H1 δ σ S1 _ _ (he.mono e1) s1 d1 (fun o2 H2 S2 y u e2 s2 y2 d2=>
  hr h o2 H2 S2 x y v u R Q (Stb.st w (e1.trans e2)) s2 (x1.mono e2) y2 d2 (c.pre (e1.trans e2))) (Stb.st w e1)) w
end
theorem tE{t:TE}{de:DE}(a:REp (PhM []) t de):RE t de:=fun h o H δ σ S R Q he hs q c=>a h o H δ σ S R Q he hs q c ⟨h,(jl _).symm,RepM.nil⟩
theorem v8{t:TT}{de:DT}(a:RTp (PhM []) t de):RT t de:=fun h o H δ σ S R Q he hs q c=>a h o H δ σ S R Q he hs q c ⟨h,(jl _).symm,RepM.nil⟩
def IsDD(M:DM)(x:XV)(D:DD):Prop:=(∃a,x=.o (.ref a)/\(a,D)∈M)\/∃m,D=.k m/\x=.d (.dict (DD.pairs (.k m)))
theorem sI{M:DM}{h o:List Addr}{H:Hp}{x:XV}{D:DD}{v:V}(φ:PhM M h o H)(q:IsDD M x D)(hx:HasX h o H x v):∃a,v=.ref a/\RAt (vx h o H) H a D:=by
 rcases q with ⟨a,rfl,m⟩|⟨m,rfl,rfl⟩
 ·obtain⟨h0,rfl,rm⟩:=φ;exact⟨a,hx,(rm.ct a D m).rd⟩
 ·obtain⟨a,ob,m',rfl,e,l⟩:=jO.mp (show Has _ _ v from hx);exact⟨a,rfl,m',.inr ⟨ob,zW _ _ e⟩,l⟩
def Ba(n:Bool):R2:=fun y x H Q=>∃a o,x=.ref a/\DGet H a y o/\Q (.bl (if n=true then !o.isSome else o.isSome)) H
theorem Bv{X:Cx}(hu:X.A.units+64<rf):OpR X (jy .NotIn) (Ba true):=fun zg s σ H y x v u Q I ry rx ⟨a,o,e,g,q⟩=>by
 subst e;obtain rfl:u=fh a:=rx;exact Ix yw I g ry fun s3 I3=>⟨.bl (!o.isSome),H,I3,rfl,q⟩
def iE(M:DM)(n:Bool):D2:=fun y x S R=>asD y fun k=>∃D o,IsDD M x D/\D.get k=some o/\R (.d (.bool (if n=true then !o.isSome else o.isSome))) S
theorem IZ{G:Hp}{o:Option bq}{r:Option V}(q:RelD G o r):r.isSome=o.isSome:=by
 cases o with
 |none=>rw[show r=none from q];rfl
 |some d=>obtain⟨u,rfl,_⟩:=q;rfl
theorem vJ{M:DM}{n:Bool}:ROp (PhM M) (Ba n) (iE M n):=fun h o H S y x v u R Q φ hs hy hx q c=>by
 obtain⟨k,rfl,D,r,hD,e,q⟩:=gL q;obtain⟨a,rfl,da⟩:=sI φ hD hx;obtain⟨r',g,rr⟩:=da.get zW hy e;refine⟨a,r',rfl,g,?_⟩;rw[IZ rr];exact c o H S _ _ Ex.refl hs (xB _) q
def hZ(M:DM)(dd dy:DE):DE:=fun δ S R=>dd δ S fun x S1=>dy δ S1 fun y S2=>asD y fun k=>∃D d,IsDD M x D/\D.get k=some (some d)/\R (.d d) S2
theorem GV{M:DM}{td ty:TE}{dd dy:DE}(hd:REp (PhM M) td dd)(hy:REp (PhM M) ty dy):REp (PhM M) (Aw td ty) (hZ M dd dy):=fun h o H δ σ S R Q he hs q c w=>
 hd h o H δ σ S _ _ he hs q (fun o1 H1 S1 x v e1 s1 x1 d1=>hy h o1 H1 δ σ S1 _ _ (he.mono e1) s1 d1 (fun o2 H2 S2 y u e2 s2 y2 d2=>by
  obtain⟨k,rfl,D,d,hD,e,q⟩:=gL d2;obtain⟨a,rfl,da⟩:=sI (Stb.st w (e1.trans e2)) hD (x1.mono e2);obtain⟨r',g,r2,rfl,h2⟩:=da.get zW y2 e;exact⟨a,r2,rfl,g,c o2 H2 S2 (.d d) r2 (e1.trans e2) s2 h2 q⟩) (Stb.st w e1)) w
def iN(M:DM)(dd dy dx:DE):DE:=fun δ S R=>dd δ S fun x S1=>∃D,IsDD M x D/\dy δ S1 fun y S2=>dx δ S2 fun z S3=>asD y fun k=>asD z fun dz=>∃o,D.get k=some o/\R (.d (o.getD dz)) S3
theorem C7{M:DM}{td ty tx:TE}{dd dy dx:DE}(hd:REp (PhM M) td dd)(hy:REp (PhM M) ty dy)(hx:REp (PhM M) tx dx):REp (PhM M) (Em td ty tx) (iN M dd dy dx):=fun h o H δ σ S R Q he hs q c w=>
 hd h o H δ σ S _ _ he hs q (fun o1 H1 S1 x v e1 s1 x1 ⟨D,hD,d1⟩=>by
  obtain⟨a,rfl,da⟩:=sI (Stb.st w e1) hD x1;refine⟨a,rfl,da.isD,hy h o1 H1 δ σ S1 _ _ (he.mono e1) s1 d1 (fun o2 H2 S2 y u e2 s2 y2 d2=>hx h o2 H2 δ σ S2 _ _ ((he.mono e1).mono e2) s2 d2 (fun o3 H3 S3 z t e3 s3 z3 d3=>?_) (Stb.st w (e1.trans e2))) (Stb.st w e1)⟩;replace d3:=gL d3;obtain⟨k,rfl,d3⟩:=d3;obtain⟨dz,rfl,r,e,q⟩:=gL d3;obtain⟨a',ea,aa⟩:=sI (Stb.st w ((e1.trans e2).trans e3)) hD (x1.mono (e2.trans e3));cases ea;obtain⟨r',g,rr⟩:=aa.get zW (y2.mono e3) e;refine⟨r',g,?_⟩;cases r with
  |none=>
   rw[show r'=none from rr];exact c o3 H3 S3 (.d dz) t ((e1.trans e2).trans e3) s3 z3 q
  |some d=>
   obtain⟨r2,rfl,h2⟩:=rr;exact c o3 H3 S3 (.d d) r2 ((e1.trans e2).trans e3) s3 h2 q) w
def jY(j:Nat)(dk dv:DM->DE):DSm:=fun En δ S M=>dv M δ S fun x S1=>asD x fun d=>zh j δ S1 fun y S2=>∃a,y=.o (.ref a)/\dk M δ S2 fun z S3=>asD z fun k=>∃D D',(a,D)∈M/\D.put k d=some D'/\D.len<1000/\En.nx δ S3 (kS M a D')
theorem LC{E:XK}{EX:EXD}{j:Nat}{ty tv:TE}{dk dv:DM->DE}(hk:∀M,REp (PhM M) ty (dk M))(hv:∀M,REp (PhM M) tv (dv M)):RSm E EX (DJ (dL j) ty tv) (jY j dk dv):=fun h o0 H0 o H δ σ S M En D e0 fr he hs rm q c x=>
 hv M (h++ad M) o H δ σ S _ _ he hs q (fun o1 H1 S1 y v e1 s1 x1 d1=>by
  obtain⟨d,rfl,y1,ey,a,rfl,d2⟩:=gL d1;have ac:=he.mono e1;obtain⟨v1,ev,af⟩:=ac.get j _ ey;have ag:v1=.ref a:=af;subst ag;refine⟨_,ev,hk M (h++ad M) o1 H1 δ σ S1 _ _ ac s1 d2 (fun o2 H2 S2 z u e2 s2 z2 d3=>?_) ⟨h,rfl,rm.mono e1⟩⟩;obtain⟨k,rfl,D1,D2,mD,eD,hl,n⟩:=gL d3;have aa:=e1.trans e2;have ae:=rm.mono aa;have ma:a∈ad M:=mem_map.mpr ⟨_,mD,rfl⟩;obtain⟨w,pt,fin⟩:=(ae.ct a D1 mD).put zW z2 (x1.mono e2) eD hl;have mh:a∈h++ad M:=gm _ ma;refine⟨a,_,rfl,pt,c.nx o2 _ δ S2 (kS M a D2) σ ⟨(e0.trans aa).pre,fun b w' nb zb=>?_⟩ jT ?_ ?_ (ae.put mD fin) n⟩
  ·obtain⟨z1,z3⟩:=(e0.trans aa).kp b w' nb zb;exact⟨z1,by rw[zG (fun z=>by rw[z,fr a ma]at zb;cases zb)];exact z3⟩
  ·rw[jT];exact(ac.mono e2).view (vT mh)
  ·rw[jT];exact s2.hidden mh) ⟨h,rfl,rm⟩
theorem MW{t t':TS}{d:DS}(h:RS t d)(e:t'=t:=by rfl):RS t' d:=e▸h
end
end L2
namespace L2
open PySem PySem.Spec PySem.Calls PyProof.Rows
theorem EW{P:fg}{w:gg}{k:Key}{u:bn}(h:(aW P w).is k u=true):RelV (kV k) u:=by
 have h':kG k u=true:=h;cases k with
 |inl i=>
  have q:Value.isInt i u=true:=h';cases u<;>simp[Value.isInt]at q;rename_i j t;subst q;exact⟨t,rfl⟩
 |inr x=>
  have q:Value.isStrOf x u=true:=h';cases u<;>simp[Value.isStrOf]at q;rename_i j t;subst q;exact⟨t,rfl⟩
theorem tZ{P:fg}{w:gg}{H:Hp}{h:Heap}{a:Addr}{ob:Obj}{m:List (Key×V)}(ok:HOk P w H h)(e:H a=some (.frz ob (.dK m))):(a==kx)=false/\m.length<=fc/\∃es ep vs,ob.data=.dict es ep/\KV m vs/\h.DictAt (aW P w) a vs ep:=by
 obtain⟨e1,hz,z,vs,kv,o,es,ep,ho,r1,r2,r3⟩:=(show ObjOk P w H h a (.frz ob (.dK m))from ok a _ e);rw[e1]at ho;cases ho;exact⟨z,hz,es,ep,vs,r2,kv,_,es,e1,r1,r2,r3⟩
theorem KV.get{kvs:List (Key×V)}{vs:List (Key×bn)}(r:KV kvs vs):∀{i:Nat}{p:Key×V},kvs[i]?=some p->∃u,vs[i]?=some (p.1,u)/\RelV p.2 u:=by
 unfold KV at r;induction r with
 |nil=>intro i p e;simp at e
 | @cons p q ps qs h t ih=>
  intro i x e;cases i with
  |zero=>
   simp at e;subst e;exact⟨q.2,by simp[h.1],h.2⟩
  |succ i=>
   obtain⟨u,e1,e2⟩:=ih (i:=i) (p:=x) (by simpa using e);exact⟨u,by simpa using e1,e2⟩
def Iti(a:Addr)(ob:Obj)(m:List (Key×V)):It:=⟨fun i H=>i<m.length/\H a=some (.frz ob (.dK m)),fun i H x H'=>∃p b,m[i]?=some p/\H b=none/\x=.ref b/\H'=upd H b (.tup [kV p.1,p.2]),fun i H=>m.length<=i/\H a=some (.frz ob (.dK m))⟩
def tnI(it a:Addr)(ob:Obj)(n:Nat)(i:Nat)(h:Heap):Prop:=∃es ep ok ov,ob.data=.dict es ep/\IsItemIter h it a i n ep ok ov
theorem Nz:entryFor table "dict_itemiterator.__iter__" = some ni.«dict_keyiterator.__iter__» :=
 entryFor_alias (id':="dict_keyiterator.__iter__") (by kernel_rfl) rfl (by decide +kernel) (by kernel_rfl)
theorem G0{prog:fg}{w:gg}{A:gf}{E:bn->bu->Prop}{s:bu}{it d:Addr}{i n ep:Nat}{ok ov:bn}{Q:bn->bu->Prop}(z:IsItemIter s.heap it d i n ep ok ov)(h:Q (.ref it) s):cv (model prog w) A (pyIter (.ref it)) Q E s:=by
 have hT:s.TypeIs (.ref it) "dict_itemiterator":=⟨_,z,rfl⟩;refine wpAny_pyIter_slot hT F.slot_dict_itemiterator_iter (lr F.slot_dict_itemiterator_iter hT Nz ?_ (F.args_dict_itemiterator_iter_1 _));show cv _ _ (ret (.ref it)) _ _ s;exact cr ⟨_,rfl,"dict_itemiterator",_,hT,F.slot_dict_itemiterator_next.lookup,h⟩
theorem KA{P:fg}{w:gg}{K:cq}{elts:List Expr}{n:Nat}{tpos:Pos}(a it:Addr)(ob:Obj)(m:List (Key×V)):Turn P w K (.Tuple elts n tpos) (Iti a ob m) [it] it (tnI it a ob m.length) where
 mem:=by simp
 obj:=fun i h ⟨_,_,_,_,_,st⟩ b hb=>by
  have e:b=it:=by simpa using hb
  subst e;exact⟨_,st,fun v z=>by cases z⟩
 keep:=fun i h h' ⟨es,ep,ok,ov,eo,st⟩ k=>⟨es,ep,ok,ov,eo,k it yv _ st⟩
 item:=by
  intro X hP hw hK hc i zg s σ H E I hf st hg;subst hP hw hK;obtain⟨es,ep,ok,ov,eo,st⟩:=st;obtain⟨hi,ea⟩:=hg;obtain⟨af,hz,ag,ae,vs,aa,kv,da⟩:=tZ I.hok ea;rw[eo]at aa;cases aa;obtain⟨u,eu,ru⟩:=kv.get (cw hi);have hl:vs.length=m.length:=kv.length.symm;refine wpAny_pyNext_items_item (knd:=aW X.prog X.w) (kvs:=vs) (by rw[hl];exact st) da eu fun key h' hk st' t1 sz kp=>?_;refine⟨_,rfl,wpAny_letOwnedTupleGo_items (s:={ s with heap:=h' }) st' fun g' e2 b2=>?_⟩;have lt:it<s.heap.objs.size:=fu st;have t2:g'.get? s.heap.objs.size=some { cls:=.type "tuple",data:=.seq #[key,u] }:=(b2.2 _ (tq lt)).trans t1;have ac:H s.heap.objs.size=none:=I.hok.fresh (dw _);rw[hl]at e2;refine⟨.ref s.heap.objs.size,upd H s.heap.objs.size (.tup [kV m[i].1,m[i].2]),I.turnLaid (ch:=[it]) (t':=s.toks) (fun b o nb q=>(b2.2 b fun z=>nb (by simp[z])).trans (kp b o (fun z=>nb (by simp[z])) q)) hf (dw _) ?_,rfl,
   ⟨m[i],_,cw hi,ac,rfl,rfl⟩,⟨es,ep,_,_,eo,e2⟩,fun b hb=>?_⟩
  ·refine⟨⟨by show 2<=fc;decide,_,t2,rfl⟩,[key,u],.cons (EW hk) (.cons ru .nil),⟨_,t2,rfl,_,rfl⟩⟩
  ·rw[mem_singleton.mp hb,zG (ir lt)];exact(hf _ yv).1
 done:=by
  intro X hP hw hK hc i zg s σ H E I hf st hg;subst hP hw hK;obtain⟨es,ep,ok,ov,eo,st⟩:=st;obtain⟨hi,ea⟩:=hg;obtain⟨af,hz,ag,ae,vs,aa,kv,da⟩:=tZ I.hok ea;rw[eo]at aa;cases aa;have hl:vs.length=m.length:=kv.length.symm;obtain⟨f0,f1,f2,f3,f4,f5⟩:=hf it yv;exact wpAny_pyNext_items_end (knd:=aW X.prog X.w) (kvs:=vs) (I.ok.hd hc) (by rw[hl];exact st) da (List.getElem?_eq_none yw) fun h' eb=>⟨rfl,I.turned (t':=s.toks) (fun b o hb e=>eb b o hb e) f0 f1 f3 f4 f5⟩
 self:=fun _ _ _ _ _ ⟨_,_,_,_,_,st⟩ h=>G0 st h
section
variable {X:Cx}{elts:List Expr}{n:Nat}{tpos apos cpos:Pos}
def Aq(te:TE):TI:=fun σ H R=>te σ H fun x H1=>∃a ob m,x=.ref a/\H1 a=some (.frz ob (.dK m))/\R (Iti a ob m) H1
theorem wI{l:Expr}{te:TE}(hl:PE X l te)(z:pk l "items" X.env (eval l X.env)=eval l X.env)(aa:(apos.endLine==cpos.line)=true):PI X (.Tuple elts n tpos) (.Call (.Attribute l "items" apos) [] [] cpos) (Aq te):=by
 intro zg s σ H R I h;refine wpAny_Call_method (T:="dict") (id:="dict.items") z rfl aa F.plainAttrs_dict F.slot_dict_items F.type_dict_items (thn (hl zg s σ H _ I h) fun v s1 ⟨x,H1,I1,r1,q1⟩=>?_);obtain⟨a,ob,m,e,ea,q⟩:=q1;subst e;cases r1;obtain⟨ae,hz,es,ep,vs,eo,kv,da⟩:=tZ I1.hok ea;have af:vs.length=m.length:=kv.length.symm;have hm:=da.dictOf;refine⟨hm.typeIs,hm.mapOf.noDict,?_⟩;show cv _ _ (callWith cpos (.builtin "dict.items") [.ref a] [] []) _ _ s1;refine method_meetsIn F.slot_dict_items F.entry_dict_items rfl (PyProof.Rows.evalArgs_none ⟨rfl,hm.typeIs,F.args_dict_items_1 _,_,meets_dict_items (aW X.prog X.w) a ae,⟨vs,hm⟩,?_⟩);have ac:=da.push { cls:=.type "dict_items",data:=.fields #[.ref a] };refine wpAny_pyIter_items (s:={ s1 with heap:=s1.heap.push { cls:=.type "dict_items",data:=.fields #[.ref a] } }) (knd:=aW X.prog X.w) ⟨_,fj _ rfl,rfl,rfl⟩ ac ?_;have I2:Inv X zg σ H1 { s1 with heap:=s1.heap.push { cls:=.type "dict_items",data:=.fields #[.ref a] } }:=I1.kept (t':=s1.toks) fun b o e=>bw _ e;refine⟨_,[_],_,_,H1,rfl,I2.kept (t':=s1.toks) fun b o e=>bw _ e,KA a _ ob m,⟨es,ep,_,_,eo,by rw[<- af];exact fj _ rfl⟩,fun b hb=>?_,q⟩;rw[mem_singleton.mp hb];exact I2.fpOk (dw _) (I2.hok.fresh (dw _))
end
def DD.itemsD(m:List (Key×bq)):List bq:=m.map fun p=>.tuple [kD p.1,p.2]
def gM(e:DE):DI:=fun δ S R=>e δ S fun x S1=>∃m,x=.d (.dict (DD.pairs (.k m)))/\R (DD.itemsD m) S1
theorem Gb{H:Hp}{k:Key}:Has H (kD k) (kV k):=by
 cases k with
 |inl i=>exact eA.mpr rfl
 |inr x=>exact hV.mpr rfl
theorem HasM.get{H:Hp}:∀{m:List (Key×bq)}{m':List (Key×V)}{i:Nat}{p:Key×bq},HasM H m m'->m[i]?=some p->∃v,m'[i]?=some (p.1,v)/\Has H p.2 v
 | [],_,_,_,_,e=>by simp at e
 |q::r,_,0,p,⟨v,t,e1,hv,l⟩,e=>by
  simp at e;subst e e1;exact⟨v,rfl,hv⟩
 |q::r,_,i+1,p,⟨v,t,e1,hv,l⟩,e=>by
  subst e1;obtain⟨u,z1,z2⟩:=HasM.get (i:=i) l (by simpa using e);exact⟨u,by simpa using z1,z2⟩
theorem tY{te:TE}{de:DE}(z:RE te de):RI (Aq te) (gM de):=fun h o H δ σ S R Q he hs q c=>
 z h o H δ σ S _ _ he hs q fun o1 H1 S1 x v e1 s1 x1 ⟨m,ex,d1⟩=>by
  subst ex;obtain⟨a,ob,m',rfl,ea,l⟩:=jO.mp (show Has _ _ v from x1);have hl:=l.length;refine⟨a,ob,m',rfl,zW _ _ ea,c o1 H1 S1 _ _ e1 s1 ⟨fun i o2 H2 e2 hi=>⟨by simp[DD.itemsD]at hi;omega,zW _ _ (e2.vx _ _ ea)⟩,fun i d o2 H2 e2 hi=>?_,fun i d o2 H2 y H3 S2 e2 s2 hi yy=>?_⟩ d1⟩
  ·have:=(List.getElem?_eq_some_iff.mp hi).1;simp[DD.itemsD]at this;exact⟨yw,zW _ _ (e2.vx _ _ ea)⟩
  ·obtain⟨p,b,ep,nb,ey,e3⟩:=yy;subst e3 ey;unfold DD.itemsD at hi;rw[iw]at hi;obtain⟨p2,e4,e5⟩:=map_eq_some_iff.mp hi;obtain⟨u,z1,z2⟩:=l.get e4;rw[ep]at z1;cases z1;have sm:Same H2 (upd H2 b (.tup [kV p2.1,u])):=Same.laid nb;have fb:=s2.fresh nb;refine⟨sm,?_⟩;rw[<- e5];refine d8.mpr ⟨b,_,rfl,zZ.mpr ⟨fb.1,fb.2,zM⟩,zu.mpr ⟨_,_,rfl,Gb,zu.mpr ⟨_,_,rfl,?_,zK.mpr rfl⟩⟩⟩;exact Has.mono (gE sm) _ _ (Has.mono e2.vx _ _ z2)
end L2
namespace L2
open PySem PySem.Spec PyProof.Rows
section
section
variable {E:XK}{EX:EXD}{a b c d e f u:TS}{dt du:DS}{i:Nat}
theorem A7(h:RS (dP a b) dt)(hu:RS u du):RS (dP a (dP b u)) (zQ dt du):=MW (aP h hu)
end
end
end L2
namespace HT
open PySem PyProof.Rows
section
open PySem.SeqAt
open PySem.AutoSeq1 (wpAny_loadPart')
open PySem.MeetsSeq PySem.MeetsSeq2 PySem.MeetsSeq3
theorem lexLt_self:∀ns:List Int,lexLt ns ns=false
 | []=>rfl
 |x::xs=>by rw[lexLt_cons,cp rfl,lexLt_self xs]
end
end HT
namespace HT
open PySem PyProof.Rows
theorem NM:typeLookup (.type "tuple") "keys" = pure none:=am_miss_of_fast (by decide +kernel)
set_option maxRecDepth 8000 in
theorem Gk{prog:fg}{w:gg}{A:gf}{E:bn->bu->Prop}{s:bu}{a:Addr}{o:Obj}{xs:Array bn}{k:Nat}{Q:Option bn->bu->Prop}
  (hx:s.heap.get? a=some o) (hc:o.cls=.type "tuple") (hdat:o.data=.seq xs k) (hd:o.dict=none) (hA:A.handled=none)
  (h:∀h' tk,(∀b ob,s.heap.get? b=some ob->h'.get? b=some ob)->Q none { s with heap:=h',toks:=tk }):
  cv (model prog w) A (getAttr? (.ref a) "keys") Q E s:=by
 obtain⟨c,af,ae,sl⟩:=o;simp only at hc hdat hd;subst hc hdat hd;obtain⟨hp,g,d,tk,os⟩:=s;have hT:∀aa,(⟨hp,g,d,aa,os⟩:bu).TypeIs (.ref a) "tuple":=fun _=>⟨_,hx,rfl⟩;have f1:=sub_AttributeError;have f3:=F.slot_tuple_getattribute.lookup;have f4:=F.slot_tuple_getattribute.bind (.ref a);have f5:=am_tuple_getattr_none;have z:(["__module__","__name__","__qualname__","__doc__","__annotations__"]:List Str).contains ("keys":Str)=false:=by decide +kernel
 unfold getAttr? getAttrBy? getAttrBy
 repeat (any_goals (first|assumption|exact hT _|((with_reducible show cv _ _ (call (qy "tuple.__getattribute__") _ _) _ _ _);refine call_meets F.slot_tuple_getattribute (hT _) am_entry_tuple_getattribute (F.args_tuple_getattribute_2 _ _) (meets_getattribute_miss_tuple a xs k sl "keys" _ NM z) ⟨hx,hA,fun h' aa e ac=>?_⟩)|wp_step))
 obtain⟨t',u',he⟩:=ac.there;show cv _ _ (getattributeRaised _ _ _ _ _ _ _) _ _ _;unfold getattributeRaised
 repeat (any_goals (first|assumption|wp_step))
 exact h _ _ ac.keeps
theorem BE:entryFor table "dict.update.loop" = some ni.«dict.update.loop»:=entryFor_of_tree (by kernel_rfl)
theorem nR:plainId "dict.update.loop" = true:=by decide +kernel
section
variable {prog:fg}{w:gg}{K:Type} [DecidableEq K] {knd:PySem.KeyKind prog w K}
def AB(acc kvs:List (K×bn)):List (K×bn):=kvs.foldl (fun a p=>stored a p.1 p.2) acc
def PairsAt(knd:PySem.KeyKind prog w K)(ap:List Addr)(h:Heap)(vs:List bn)(kvs:List (K×bn)):Prop:=Paired (fun v kv=>∃b key,v=fh b/\b∉ap/\knd.is kv.1 key=true/\IsTup h b #[key,kv.2]) vs kvs
theorem PairsAt.keeps{ap:List Addr}{h h':Heap}{vs:List bn}{kvs:List (K×bn)}(r:PairsAt knd ap h vs kvs)(k:∀b o,b∉ap->h.get? b=some o->h'.get? b=some o):PairsAt knd ap h' vs kvs:=by
 unfold PairsAt at *;induction r with
 |nil=>exact .nil
 |cons x t ih=>
  obtain⟨b,key,e,nb,hk,o,g,c⟩:=x;exact .cons ⟨b,key,e,nb,hk,o,k b o nb g,c⟩ ih
theorem G8(kvs:List (K×bn))(k:K)(v:bn):(stored kvs k v).length<=kvs.length+1:=by
 unfold stored;split<;>simp
theorem BC{A:gf}{R:Result->bu->Prop}{I S:Addr}{fp wr:List Addr}{n:Nat}{P:Nat->bn->Prop}{St:Nat->Heap->Prop}{items:List bn}(W:Walks prog w A.in1 I fp wr n P St)(ag:S∉fp)(hP:∀i v,P i v->items[i]?=some v):
  ∀(kvs:List (K×bn)) (i:Nat) (s:bu) (acc:List (K×bn)),kvs.length+i=n->St i s.heap->s.heap.DictOf knd S acc->PairsAt knd (S::wr) s.heap (items.drop i) kvs->acc.length+kvs.length<=1000 ->
   (∀h' tk,h'.DictOf knd S (AB acc kvs)->(∀b o,b∉S::wr->s.heap.get? b=some o->h'.get? b=some o)->R (.ok (.ret .none)) { s with heap:=h',toks:=tk }) ->
   tw (model prog w) A (.builtin "dict.update.loop" ⟨[.ref S,.ref I,ss i,.none],[]⟩) R s:=by
 have ai:S∉wr:=fun h=>ag (W.sub _ h);intro kvs;induction kvs with
 |nil=>
  intro i s acc hn aa hS hp hl hR;have hi:i=n:=by simpa using hn
  subst hi;refine qu BE ?_;rw[pf nR _];show cv _ A.in1 (pyNext (.ref I) >>= _) _ _ s;refine bo (W.done s _ _ aa fun h' tk hm=>?_);show cv _ A.in1 (Builtin.Dict.addKeywords S [] >>= _) _ _ _;refine bo (cr (cr (hR h' tk ?_ fun b o nb e=>hm b o (fun z=>nb (cz _ z)) e)));obtain⟨o,es,ep,ho,r⟩:=hS;exact⟨o,es,ep,hm S _ ai ho,r⟩
 |cons kv kvs ih=>
  intro i s acc hn aa hS hp hl hR;have aj:i<n:=by rw[fy]at hn;omega
  refine qu BE ?_;rw[pf nR _];show cv _ A.in1 (pyNext (.ref I) >>= _) _ _ s;refine bo (W.item i s _ _ aj aa fun v h' tk ao ae hm=>?_);have ev:=hP i v ao;have ed:items.drop i=v::items.drop (i+1):=by
   obtain⟨am,rfl⟩:=List.getElem?_eq_some_iff.mp ev;exact ko am
  rw[ed]at hp;have af:=hp.keeps (h':=h') fun b o nb e=>hm b o (fun z=>nb (cz _ z)) e;unfold PairsAt at af;cases af with
  |cons x t=>
   obtain⟨b,key,rfl,nb,hk,⟨cls,dd,data,sl⟩,ho,hc,m,hd⟩:=x;simp only at hc hd;subst hc hd;have ak:h'.DictOf knd S acc:=by
    obtain⟨o,es,ep,ho,r⟩:=hS;exact⟨o,es,ep,hm S _ ai ho,r⟩
   have hT:({ s with heap:=h',toks:=tk }:bu).TypeIs (.ref b) "tuple":=⟨_,ho,rfl⟩;dsimp only;refine bo (ku (bo (wpAny_tryCatch ?_)));unfold Builtin.Dict.pairItems;refine bo (rp hT ?_);rw[cp dz];have hz:acc.length<=fc:=by rw[fy]at hl;rw[ji];omega
   have ah:∀(Q:Unit->bu->Prop) (E:bn->bu->Prop),(∀h2,h2.DictOf knd S (stored acc kv.1 kv.2)->io S h' h2->Q () { s with heap:=h2,toks:=tk+1 })->cv (model prog w) A.in1 (dictSet S key kv.2) Q E { s with heap:=h',toks:=tk } :=
    fun Q E hQ=>wpAny_dictSet_pairs (s:={ s with heap:=h',toks:=tk }) hk ak hQ hz
   wp_walk using PySem.AutoSeq1.wpAny_loadPart' ho,ah
   intro h2 hD ac
   wp_walk
   have hc:((i:Int)+1)=((i+1:Nat):Int):=by push_cast;rfl
   rw[hc];have nS:∀{c:Addr},c∈fp->c≠S:=fun m z=>ag (z▸m);refine⟨qw nR _,ih (i+1) _ (stored acc kv.1 kv.2) (by rw[fy]at hn;omega) (W.frame _ _ _ ae fun c m o e=>?_) hD (PairsAt.keeps t fun c o nc e=>?_) ?_ fun h3 an al k3=>hR h3 an al fun c o nc e=>k3 c o nc ?_⟩
   ·rw[ac.2 c (nS m)];exact e
   ·rw[ac.2 c (fun z=>nc (by rw[z];exact fq))];exact e
   ·have:=G8 acc kv.1 kv.2;rw[fy]at hl;omega
   ·show h2.get? c=some o;rw[ac.2 c (fun z=>nc (by rw[z];exact fq))];exact hm c o (fun z=>nc (cz _ z)) e
theorem call_dictP{A:gf}{E:bn->bu->Prop}{s:bu}{p:Addr}{op:Obj}{items:Array bn}{nn:Nat}{kvs:List (K×bn)}{Q:bn->bu->Prop}(hp:s.heap.get? p=some op)(hc:op.cls=.type "tuple")(ac:op.data=.seq items nn)(hd:op.dict=none)
  (hh:A.handled=none) (hpr:∀ap:List Addr,(∀a∈ap,s.heap.objs.size<=a)->PairsAt knd ap s.heap items.toList kvs) (hk:kvs.length=items.size) (hl:kvs.length<=1000)
  (h:∀h' tk,h'.DictOf knd s.heap.objs.size (AB [] kvs)->(∀b o,s.heap.get? b=some o->h'.get? b=some o)->Q (.ref s.heap.objs.size) { s with heap:=h',toks:=tk }):
  cv (model prog w) A (call (.type "dict") [.ref p]) Q E s:=by
 refine callType_codes (Q₁:=fun obj s₁=>obj=.ref s.heap.objs.size/\s₁ = { s with heap:=s.heap.push { cls:=.type "dict",data:=.dict #[] } }) PySem.F.kt_called_dict (PySem.F.kt_typeCall_dict_1 _) PySem.F.entry_dict_init (kt_code_dict_new _ ⟨rfl,rfl⟩) ?_;rintro obj s₁ ⟨rfl,rfl⟩;have aa:(s.heap.push { cls:=.type "dict",data:=.dict #[] }).DictOf knd s.heap.objs.size []:=Heap.DictOf.new s.heap;have af:(s.heap.push { cls:=.type "dict",data:=.dict #[] }).get? p=some op:=bw _ hp;have hT:({ s with heap:=s.heap.push { cls:=.type "dict",data:=.dict #[] } }:bu).TypeIs (.ref p) "tuple":=⟨_,af,hc⟩;have aj:=fu hp;refine⟨aa.typeIs,PySem.F.args_dict_init_2 _ _,?_⟩;unfold ni.«dict.__init__»;refine bo ?_;unfold Builtin.Dict.selfAndRest;refine bo (wpAny_notOrdered_dict aa.typeIs ?_);show cv _ _ (pure (s.heap.objs.size,[fh p])) _ _ _;refine cr ?_;show cv _ _ (Builtin.Dict.updateFrom "dict.__init__" s.heap.objs.size (.ref p) [] .none) _ _ _;unfold Builtin.Dict.updateFrom;refine bo (rp hT ?_);rw[cp dz];refine bo (Gk (A:=A.in1.in1) af hc ac hd hh fun h2 ak k2=>?_);rw[cp (show (none:Option bn).isNone=true from rfl)];refine bo (mw ?_);have ai:=k2 _ _ af;have ah:h2.IsTuple p items:=⟨_,ai,hc,nn,ac⟩;refine bo (qi (s:={ s with heap:=h2,toks:=ak }) ah ?_);have g0:∃o,h2.get? s.heap.objs.size=some o:=by
  obtain⟨o,es,ep,ho,r⟩:=id aa;exact⟨o,k2 _ _ ho⟩
 obtain⟨o0,g0⟩:=g0;have ae:s.heap.objs.size<h2.objs.size:=fu g0;have ag:p<h2.objs.size:=fu ai;have hS:(h2.push { cls:=.type "tuple_iterator",data:=.fields #[.ref p,.int 0 0] }).DictOf knd s.heap.objs.size []:=by
  obtain⟨o,es,ep,ho,r⟩:=aa;exact⟨o,es,ep,bw _ (k2 _ _ ho),r⟩
 refine cr ⟨qw nR _,?_⟩;refine BC (knd:=knd) (A:=A.in1) (items:=items.toList) (Walks.tuple (A:=A.in1.in1) hh h2.objs.size p (ir ag) items) ?_ ?_ kvs 0 _ [] ?_ ?_ hS ?_ ?_ ?_
 ·simp only[gw,ge,or_false,not_or];exact⟨ir ae,tq aj⟩
 ·intro i v e;rw[ow];exact e
 ·omega
 ·exact⟨⟨_,fj _ rfl,rfl,rfl⟩,ah.at fun o e=>bw _ e⟩
 ·rw[drop_zero];refine PairsAt.keeps (hpr _ fun a m=>?_) fun b o nb e=>bw _ (k2 _ _ (bw _ e));simp only[gw,ge,or_false]at m;rcases m with rfl|rfl
  ·exact dw _
  ·exact kl ae
 ·simpa using hl
 ·intro h3 al hD k3;refine⟨rfl,h h3 al hD fun b o e=>k3 b o (fun m=>?_) (bw _ (k2 _ _ (bw _ e)))⟩;have:=fu e;simp only[gw,ge,or_false]at m;rcases m with z|z
  ·rw[z]at this;exact absurd this (jp _)
  ·rw[z]at this;exact absurd (lt_trans this ae) (jp _)
end
end HT
namespace L2
open PySem PySem.Spec PySem.Calls PyProof.Rows
def jK(kvs:List (Key×V)):List (Key×V):=kvs.foldl (fun a p=>aZ a p.1 p.2) []
def PrV(H:Hp):List V->List (Key×V)->Prop:=Paired fun v kv=>∃b,v=.ref b/\H b=some (.tup [kV kv.1,kv.2])
def Et:List V->Hp->VK->Prop:=fun xs H Q=>∃p ws kvs,xs=[.ref p]/\H p=some (.tup ws)/\PrV H ws kvs/\kvs.length<=1000/\∀l,H l=none->Q (.ref l) (upd H l (.dK (jK kvs)))
theorem Ir(a:List (Key×V))(k:Key)(v:V):(aZ a k v).length<=a.length+1:=by
 unfold aZ;split<;>simp
theorem yV:∀(kvs acc:List (Key×V)),(kvs.foldl (fun a p=>aZ a p.1 p.2) acc).length<=acc.length+kvs.length
 | [],acc=>by simp
 |p::r,acc=>by
  rw[su,fy];have h1:=yV r (aZ acc p.1 p.2);have h2:=Ir acc p.1 p.2;omega
theorem A8{kvs:List (Key×V)}{vs:List (Key×bn)}(r:KV kvs vs):∀{acc:List (Key×V)}{z:List (Key×bn)},KV acc z->KV (kvs.foldl (fun a p=>aZ a p.1 p.2) acc) (vs.foldl (fun a p=>stored a p.1 p.2) z):=by
 unfold KV at r;induction r with
 |nil=>intro acc z h;exact h
 | @cons p q ps qs h t ih=>
  intro acc z ha;rw[su,su];refine ih ?_;rw[<- h.1];exact ha.put p.1 h.2
section
variable {X:Cx}
theorem Ab{zg:List (Addr×Obj)}{σ:St}{H:Hp}{s:bu}(I:Inv X zg σ H s):∀{ws:List V}{kvs:List (Key×V)}{aa:List bn},PrV H ws kvs->Vals ws aa ->
  ∃z:List (Key×bn),KV kvs z/\∀ap:List Addr,(∀a∈ap,s.heap.objs.size<=a)->HT.PairsAt (aW X.prog X.w) ap s.heap aa z:=by
 intro ws kvs aa pr;unfold PrV at pr;induction pr generalizing aa with
 |nil=>
  intro rv;cases rv;exact⟨[],.nil,fun _ _=>.nil⟩
 | @cons v kv ws kvs h t ih=>
  intro rv;cases rv with
  |cons r rv=>
   obtain⟨b,rfl,hb⟩:=h;cases r;obtain⟨z,hk,hp⟩:=ih rv;obtain⟨_,is,r2,o,g,c,n,e⟩:=(show ObjOk X.prog X.w H s.heap b (.tup [kV kv.1,kv.2])from I.hok b _ hb);cases r2 with
   |cons ra r2=>cases r2 with
    | @cons _ u2 _ _ rb r2=>
     cases r2;refine⟨(kv.1,u2)::z,.cons ⟨rfl,rb⟩ hk,fun ap ha=>.cons ⟨b,_,rfl,fun m=>?_,lC ra,o,g,c,n,e⟩ (hp ap ha)⟩;exact absurd (gx (fu g) (ha b m)) (jp _)
theorem wV(hc:X.calm=true):CallR X (.type "dict") Et:=by
 intro zg s σ H xs us Q I r h;obtain⟨p,ws,kvs,rfl,hp,pr,hl,q⟩:=h;obtain⟨u,rfl,rx⟩:=vals1 r;cases rx;obtain⟨⟨hz,o1,g1,d1⟩,ae,rv,o2,g2,c2,n2,e2⟩:=(show ObjOk X.prog X.w H s.heap p (.tup ws)from I.hok p _ hp);rw[g1]at g2;cases g2;obtain⟨z,aa,ac⟩:=Ab I pr rv;have l1:kvs.length=z.length:=Paired.length aa;have l2:ws.length=kvs.length:=Paired.length pr;have l3:=rv.length;refine HT.call_dictP (knd:=aW X.prog X.w) (items:=ae.toArray) (kvs:=z) g1 c2 e2 d1 (I.ok.hd hc) (by simpa using ac) (by simp;omega) yw fun h' tk hD kp=>?_;have ln:=yV kvs [];exact⟨.ref s.heap.objs.size,_,I.laid (t':=tk) kp (dw _) (show ObjOk X.prog X.w _ h' _ (.dK (jK kvs))from⟨by unfold jK;rw[ji];simp at ln;omega,beq_eq_false_iff_ne.mpr (im (ir I.big)),_,A8 aa .nil,hD⟩),rfl,q _ (I.hok.fresh (dw _))⟩
end
def nB(kvs:List (Key×bq)):List (Key×bq):=kvs.foldl (fun m p=>ptA m p.1 p.2) []
theorem xK{H:Hp}:∀{kvs:List (Key×bq)}{kv':List (Key×V)},HasM H kvs kv'->∀{acc:List (Key×bq)}{acc':List (Key×V)},HasM H acc acc'->HasM H (kvs.foldl (fun m p=>ptA m p.1 p.2) acc) (kv'.foldl (fun a p=>aZ a p.1 p.2) acc')
 | [],_,q,acc,acc',ha=>by
  have e:_=[]:=q;subst e;exact ha
 |p::r,_,⟨v,t,e,q,l⟩,acc,acc',ha=>by
  subst e;rw[su,su];exact xK l (ha.put q)
theorem x4{h o:List Addr}{H:Hp}:∀{kvs:List (Key×bq)}{ws:List V},HasL (vx h o H) (kvs.map fun p=>PyData.tuple [kD p.1,p.2]) ws->∃z,PrV H ws z/\HasM (vx h o H) kvs z
 | [],ws,l=>by
  have e:=zK.mp l;subst e;exact⟨[],.nil,rfl⟩
 |p::r,ws,l=>by
  obtain⟨v,t,rfl,hv,l⟩:=zu.mp l;obtain⟨z,pr,hm⟩:=x4 l;obtain⟨b,vs,rfl,eb,lb⟩:=d8.mp hv;obtain⟨v1,r1,rfl,h1,k1⟩:=zu.mp lb;obtain⟨v2,r2,rfl,h2,k2⟩:=zu.mp k1;have e3:=zK.mp k2;subst e3;have e4:v1=kV p.1:=by
   cases hp:p.1 with
   |inl i=>rw[hp]at h1;exact eA.mp h1
   |inr x=>rw[hp]at h1;exact hV.mp h1
  subst e4;exact⟨(p.1,v2)::z,.cons ⟨b,rfl,zW _ _ eb⟩ pr,⟨v2,z,rfl,h2,hm⟩⟩
def gG(da:DA):DE:=fun δ S R=>da δ S fun xs S1=>arg1 xs fun x=>asT x fun ds=>∃kvs:List (Key×bq),ds=kvs.map (fun p=>.tuple [kD p.1,p.2])/\kvs.length<=1000/\R (.d (.dict (DD.pairs (.k (nB kvs))))) S1
theorem Mi{ta:TA}{da:DA}(ha:RA ta da):RE (tU (tCB Et ta)) (gG da):=fun h o H δ σ S R Q he hs q c=>
 ha h o H δ σ S _ _ he hs q fun o1 H1 S1 xs vs e1 s1 x1 d0=>by
  obtain⟨x,rfl,d1⟩:=cQ d0;replace d1:=kM d1;obtain⟨ds,rfl,kvs,rfl,hl,d2⟩:=d1;obtain⟨v,rfl,hv⟩:=hxs1 x1;obtain⟨a,ws,rfl,ea,l⟩:=fC hv;obtain⟨z,pr,hm⟩:=x4 l;have ln:z.length<=1000:=by rw[hm.length];exact hl
  refine⟨a,ws,z,rfl,ea,pr,ln,fun p hp=>⟨p,_,rfl,zM,fun ob=>?_⟩⟩;rw[qV];refine(c.pre e1) o1 _ S1 (.d (.dict (DD.pairs (.k (nB kvs))))) _ (Ex.of_same (Same.laid hp)) (s1.same (Same.laid hp)) ?_ d2;show Has _ _ _;exact jO.mpr ⟨p,ob,jK z,rfl,s1.laid hp,HasM.mono (gE (Same.laid hp)) (xK hm rfl)⟩
end L2
namespace HT
open PySem PyProof.Rows
theorem HN:typeLookup (.type "list") "keys" = pure none:=am_miss_of_fast (by decide +kernel)
set_option maxRecDepth 8000 in
theorem Lb{prog:fg}{w:gg}{A:gf}{E:bn->bu->Prop}{s:bu}{a:Addr}{o:Obj}{xs:Array bn}{k:Nat}{Q:Option bn->bu->Prop}
  (hx:s.heap.get? a=some o) (hc:o.cls=.type "list") (hdat:o.data=.seq xs k) (hd:o.dict=none) (hA:A.handled=none)
  (h:∀h' tk,(∀b ob,s.heap.get? b=some ob->h'.get? b=some ob)->Q none { s with heap:=h',toks:=tk }):
  cv (model prog w) A (getAttr? (.ref a) "keys") Q E s:=by
 obtain⟨c,af,ae,sl⟩:=o;simp only at hc hdat hd;subst hc hdat hd;obtain⟨hp,g,d,tk,os⟩:=s;have hT:∀aa,(⟨hp,g,d,aa,os⟩:bu).TypeIs (.ref a) "list":=fun _=>⟨_,hx,rfl⟩;have f1:=sub_AttributeError;have f3:=F.slot_list_getattribute.lookup;have f4:=F.slot_list_getattribute.bind (.ref a);have f5:=am_list_getattr_none;have z:(["__module__","__name__","__qualname__","__doc__","__annotations__"]:List Str).contains ("keys":Str)=false:=by decide +kernel
 unfold getAttr? getAttrBy? getAttrBy
 repeat (any_goals (first|assumption|exact hT _|((with_reducible show cv _ _ (call (qy "list.__getattribute__") _ _) _ _ _);refine call_meets F.slot_list_getattribute (hT _) am_entry_list_getattribute (F.args_list_getattribute_2 _ _) (meets_getattribute_miss_list a xs k sl "keys" _ HN z) ⟨hx,hA,fun h' aa e ac=>?_⟩)|wp_step))
 obtain⟨t',u',he⟩:=ac.there;show cv _ _ (getattributeRaised _ _ _ _ _ _ _) _ _ _;unfold getattributeRaised
 repeat (any_goals (first|assumption|wp_step))
 exact h _ _ ac.keeps
section
variable {prog:fg}{w:gg}{K:Type} [DecidableEq K] {knd:PySem.KeyKind prog w K}
theorem call_dictPL{A:gf}{E:bn->bu->Prop}{s:bu}{p:Addr}{op:Obj}{items:Array bn}{nn:Nat}{kvs:List (K×bn)}{Q:bn->bu->Prop}(hp:s.heap.get? p=some op)(hc:op.cls=.type "list")(ac:op.data=.seq items nn)(hd:op.dict=none)
  (hh:A.handled=none) (hpr:∀ap:List Addr,(∀a∈ap,s.heap.objs.size<=a)->PairsAt knd ap s.heap items.toList kvs) (hk:kvs.length=items.size) (hl:kvs.length<=1000)
  (h:∀h' tk,h'.DictOf knd s.heap.objs.size (AB [] kvs)->(∀b o,s.heap.get? b=some o->h'.get? b=some o)->Q (.ref s.heap.objs.size) { s with heap:=h',toks:=tk }):
  cv (model prog w) A (call (.type "dict") [.ref p]) Q E s:=by
 refine callType_codes (Q₁:=fun obj s₁=>obj=.ref s.heap.objs.size/\s₁ = { s with heap:=s.heap.push { cls:=.type "dict",data:=.dict #[] } }) PySem.F.kt_called_dict (PySem.F.kt_typeCall_dict_1 _) PySem.F.entry_dict_init (kt_code_dict_new _ ⟨rfl,rfl⟩) ?_;rintro obj s₁ ⟨rfl,rfl⟩;have aa:(s.heap.push { cls:=.type "dict",data:=.dict #[] }).DictOf knd s.heap.objs.size []:=Heap.DictOf.new s.heap;have af:(s.heap.push { cls:=.type "dict",data:=.dict #[] }).get? p=some op:=bw _ hp;have hT:({ s with heap:=s.heap.push { cls:=.type "dict",data:=.dict #[] } }:bu).TypeIs (.ref p) "list":=⟨_,af,hc⟩;have aj:=fu hp;refine⟨aa.typeIs,PySem.F.args_dict_init_2 _ _,?_⟩;unfold ni.«dict.__init__»;refine bo ?_;unfold Builtin.Dict.selfAndRest;refine bo (wpAny_notOrdered_dict aa.typeIs ?_);show cv _ _ (pure (s.heap.objs.size,[fh p])) _ _ _;refine cr ?_;show cv _ _ (Builtin.Dict.updateFrom "dict.__init__" s.heap.objs.size (.ref p) [] .none) _ _ _;unfold Builtin.Dict.updateFrom;refine bo (rp hT ?_);rw[cp dz];refine bo (Lb (A:=A.in1.in1) af hc ac hd hh fun h2 ak k2=>?_);rw[cp (show (none:Option bn).isNone=true from rfl)];refine bo (mw ?_);have ai:=k2 _ _ af;have ah:h2.IsList p items:=⟨_,ai,hc,nn,ac⟩;refine bo (pb (s:={ s with heap:=h2,toks:=ak }) ah ?_);have g0:∃o,h2.get? s.heap.objs.size=some o:=by
  obtain⟨o,es,ep,ho,r⟩:=id aa;exact⟨o,k2 _ _ ho⟩
 obtain⟨o0,g0⟩:=g0;have ae:s.heap.objs.size<h2.objs.size:=fu g0;have ag:p<h2.objs.size:=fu ai;have hS:(h2.push { cls:=.type "list_iterator",data:=.fields #[.ref p,.int 0 0] }).DictOf knd s.heap.objs.size []:=by
  obtain⟨o,es,ep,ho,r⟩:=aa;exact⟨o,es,ep,bw _ (k2 _ _ ho),r⟩
 refine cr ⟨qw nR _,?_⟩;refine BC (knd:=knd) (A:=A.in1) (items:=items.toList) (Walks.list (A:=A.in1.in1) hh h2.objs.size p (ir ag) items) ?_ ?_ kvs 0 _ [] ?_ ?_ hS ?_ ?_ ?_
 ·simp only[gw,ge,or_false,not_or];exact⟨ir ae,tq aj⟩
 ·intro i v e;rw[ow];exact e
 ·omega
 ·exact⟨⟨_,fj _ rfl,rfl,rfl⟩,ah.at fun o e=>bw _ e⟩
 ·rw[drop_zero];refine PairsAt.keeps (hpr _ fun a m=>?_) fun b o nb e=>bw _ (k2 _ _ (bw _ e));simp only[gw,ge,or_false]at m;rcases m with rfl|rfl
  ·exact dw _
  ·exact kl ae
 ·simpa using hl
 ·intro h3 al hD k3;refine⟨rfl,h h3 al hD fun b o e=>k3 b o (fun m=>?_) (bw _ (k2 _ _ (bw _ e)))⟩;have:=fu e;simp only[gw,ge,or_false]at m;rcases m with z|z
  ·rw[z]at this;exact absurd this (jp _)
  ·rw[z]at this;exact absurd (lt_trans this ae) (jp _)
end
end HT
namespace L2
open PySem PySem.Spec PySem.Calls PyProof.Rows
def CS:List V->Hp->VK->Prop:=fun xs H Q=>∃p ws kvs,xs=[.ref p]/\H p=some (.lst ws)/\PrV H ws kvs/\kvs.length<=1000/\∀l,H l=none->Q (.ref l) (upd H l (.dK (jK kvs)))
theorem HQ{X:Cx}(hc:X.calm=true):CallR X (.type "dict") CS:=by
 intro zg s σ H xs us Q I r h;obtain⟨p,ws,kvs,rfl,hp,pr,hl,q⟩:=h;obtain⟨u,rfl,rx⟩:=vals1 r;cases rx;obtain⟨hz,ae,n,rv,g1⟩:=(show ObjOk X.prog X.w H s.heap p (.lst ws)from I.hok p _ hp);obtain⟨z,aa,ac⟩:=Ab I pr rv;have l1:kvs.length=z.length:=Paired.length aa;have l2:ws.length=kvs.length:=Paired.length pr;have l3:=rv.length;refine HT.call_dictPL (knd:=aW X.prog X.w) (items:=ae.toArray) (kvs:=z) g1 rfl rfl rfl (I.ok.hd hc) (by simpa using ac) (by simp;omega) yw fun h' tk hD kp=>?_;have ln:=yV kvs [];exact⟨.ref s.heap.objs.size,_,I.laid (t':=tk) kp (dw _) (show ObjOk X.prog X.w _ h' _ (.dK (jK kvs))from⟨by unfold jK;rw[ji];simp at ln;omega,beq_eq_false_iff_ne.mpr (im (ir I.big)),_,A8 aa .nil,hD⟩),rfl,q _ (I.hok.fresh (dw _))⟩
def kH(da:DA):DE:=fun δ S R=>da δ S fun xs S1=>arg1 xs fun x=>∃kvs:List (Key×bq),x=.d (.list (kvs.map fun p=>.tuple [kD p.1,p.2]))/\kvs.length<=1000/\R (.d (.dict (DD.pairs (.k (nB kvs))))) S1
theorem BW{ta:TA}{da:DA}(ha:RA ta da):RE (tU (tCB CS ta)) (kH da):=fun h o H δ σ S R Q he hs q c=>
 ha h o H δ σ S _ _ he hs q fun o1 H1 S1 xs vs e1 s1 x1 d0=>by
  obtain⟨x,rfl,kvs,rfl,hl,d2⟩:=cQ d0;obtain⟨v,rfl,hv⟩:=hxs1 x1;obtain⟨a,ws,rfl,ea,l⟩:=eK.mp (show Has (vx h o1 H1) _ _ from hv);obtain⟨z,pr,hm⟩:=x4 l;have ln:z.length<=1000:=by rw[hm.length];exact hl
  refine⟨a,ws,z,rfl,zW _ _ ea,pr,ln,fun p hp=>⟨p,_,rfl,zM,fun ob=>?_⟩⟩;rw[qV];refine(c.pre e1) o1 _ S1 (.d (.dict (DD.pairs (.k (nB kvs))))) _ (Ex.of_same (Same.laid hp)) (s1.same (Same.laid hp)) ?_ d2;show Has _ _ _;exact jO.mpr ⟨p,ob,jK z,rfl,s1.laid hp,HasM.mono (gE (Same.laid hp)) (xK hm rfl)⟩
end L2
namespace L2
open PySem PySem.Spec PyProof.Rows
section
theorem LW{k v:Int}:RE (tU (EL [(tC (.int k),tC (.int v))])) (dC (.dict [(.int k,.int v)])):=fun h o H δ σ S R Q he hs q c p hp=>by
 refine⟨zM,[(jf k,.int v)],rfl,yv,p,j8 [] [(jf k,.int v)],rfl,zM,fun ob=>?_⟩;rw[qV,qV];refine c o _ S (.d (.dict (DD.pairs (.k [(jf k,.int v)])))) _ (Ex.of_same (Same.laid hp)) (hs.same (Same.laid hp)) ?_ q;show Has _ _ _;exact jO.mpr ⟨p,ob,j8 [] [(jf k,.int v)],rfl,hs.laid hp,⟨.int v,[],rfl,eA.mpr rfl,rfl⟩⟩
end
section
def Itd(lo:Int)(n:Nat):It:=⟨fun i _=>i<n,fun i H x H'=>H'=H/\x=.int (lo-i),fun i _=>n<=i⟩
theorem Ip{P:fg}{w:gg}{K:cq}{tg:Expr}(it:Addr)(lo:Int)(n:Nat):Turn P w K tg (Itd lo n) [it] it (fun i h=>IsRangeIter h it (lo+(i:Nat)*(-1)) ((n:Int)-(i:Nat)) (-1)) where
 mem:=by simp
 obj:=fun i h st b hb=>by
  have e:b=it:=by simpa using hb
  subst e;exact⟨_,st,fun v z=>by
   have z':Data.fields _=Data.cell v:=z;cases z'⟩
 keep:=fun i h h' st k=>k it yv _ st
 item:=by
  intro X hP hw hK hc i zg s σ H E I hf st hg;subst hP hw hK;obtain⟨f0,f1,f2,f3,f4,f5⟩:=hf it yv;have W:=Walks.range (prog:=X.prog) (w:=X.w) (I.ok.hd hc) it lo (-1) n;refine W.item i s _ _ hg st fun v h' tk hv st' kk=>?_;obtain⟨t,rfl⟩:=hv;have I1:Inv X zg σ H { s with heap:=h',toks:=tk }:=I.turned (fun b o hb e=>kk b o (by simpa using hb) e) f0 f1 f3 f4 f5;refine⟨_,rfl,oV (s:={ s with heap:=h',toks:=tk }) (n:="range_iterator") st' rfl rfl dz ⟨.int (lo-i),H,I1,⟨t,?_⟩,⟨rfl,rfl⟩,st',fun b hb=>(hf b hb).1⟩⟩;rw[show lo+(i:Int)*(-1)=lo-i by omega]
 done:=by
  intro X hP hw hK hc i zg s σ H E I hf st hg;subst hP hw hK;obtain⟨f0,f1,f2,f3,f4,f5⟩:=hf it yv;exact wpAny_pyNext_range_end (I.ok.hd hc) st (by have:n<=i:=hg;omega) fun h' eb=>⟨rfl,I.turned (t':=s.toks) (fun b o hb e=>eb b o hb e) f0 f1 f3 f4 f5⟩
 self:=fun _ _ _ _ _ st h=>wpAny_pyIter_rangeiter st h
section
variable {X:Cx}{tg:Expr}
theorem HK{zg:List (Addr×Obj)}{σ:St}{H:Hp}{s:bu}{R:It->Hp->Prop}{E:bn->bu->Prop}{lo hi:Int}{t u v:Tok}{tk:Nat}(I:Inv X zg σ H s)(h1:-1000<=lo/\lo<=1000)(h2:-1000<=hi/\hi<=1000)
  (q:R (Itd lo (lo-hi).toNat) H):cv (model X.prog X.w) X.A (pyIter (.ref s.heap.objs.size)) (PIE X zg σ tg R) E { s with heap:=s.heap.push { cls:=.type "range",data:=.fields #[.int lo t,.int hi u,.int (-1) v] },toks:=tk }:=by
 have I1:Inv X zg σ H { s with heap:=s.heap.push { cls:=.type "range",data:=.fields #[.int lo t,.int hi u,.int (-1) v] },toks:=tk }:=I.kept fun b o e=>bw _ e;have e1:lo+((0:Nat):Int)*(-1)=lo:=by simp
 have e2:(((lo-hi).toNat:Nat):Int)-((0:Nat):Int)=Builtin.Range.rangeSize lo hi (-1):=by
  unfold Builtin.Range.rangeSize;rw[cf dz];split
  ·rw[show (- -1:Int)=1 by decide,Int.ediv_one];omega
  ·omega
 have z:Builtin.Range.small lo hi (-1)=true:=by
  unfold Builtin.Range.small;rw[<- e2,cf dz];simp only[Builtin.Range.rangeFitsLong,jn,Bool.or_eq_true,decide_eq_true_eq,beq_iff_eq];omega
 refine wpAny_pyIter_range (IsRange.new ..) z ?_;refine⟨(s.heap.push { cls:=.type "range",data:=.fields #[.int lo t,.int hi u,.int (-1) v] }).objs.size,[(s.heap.push { cls:=.type "range",data:=.fields #[.int lo t,.int hi u,.int (-1) v] }).objs.size],_,_,H,rfl,
  I1.kept (t':=tk) fun b o e=>bw _ e,Ip _ lo (lo-hi).toNat,?_,fun b hb=>?_,q⟩
 ·show IsRangeIter _ _ (lo+((0:Nat):Int)*(-1)) ((((lo-hi).toNat:Nat):Int)-((0:Nat):Int)) (-1);rw[e1,e2];exact fj _ rfl
 ·have e:b=(s.heap.push { cls:=.type "range",data:=.fields #[.int lo t,.int hi u,.int (-1) v] }).objs.size:=by simpa using hb
  subst e;exact I1.fpOk (dw _) (I1.hok.fresh (dw _))
def GH(ta:TA):TI:=fun σ H R=>ta σ H fun vs H1=>∃i j:Int,vs=[.int i,.int j,.int (-1)]/\(-1000<=i/\i<=1000)/\(-1000<=j/\j<=1000)/\R (Itd i (i-j).toNat) H1
theorem Nv{a b c:Expr}{ta:TA}{p pos:Pos}(hg:Gl X "range")(hm:X.mg "range" = none)(ha:PA X [a,b,c] ta)(hs:fk [a,b,c] X.env=[(false,eval a X.env),(false,eval b X.env),(false,eval c X.env)]:=by rfl)(z:fk [b,c] X.env=[(false,eval b X.env),(false,eval c X.env)]:=by rfl):
  PI X tg (.Call (.Name "range" p) [a,b,c] [] pos) (GH ta):=by
 intro zg s σ H R I h;refine Call_ (iD I hg hm boot_range (kr (thn (ha pos zg s σ H _ I h) fun us s1 ⟨vs,H1,I1,r1,q1⟩=>?_) (by rw[hs,z]) (by rw[z];rfl)));obtain⟨i,j,e,h1,h2,q⟩:=q1;subst e;cases r1 with
 |cons r rr=>
  cases rr with
  |cons r' rr=>
   cases rr with
   |cons r'' rr=>
    cases rr;obtain⟨t,rfl⟩:=r;obtain⟨t',rfl⟩:=r';obtain⟨t'',rfl⟩:=r'';exact call_range_3 dz (HK I1 h1 h2 q) (.inl (PyProof.noPylong_small yw))
end
def m7(lo:Int)(n:Nat):List bq:=(jb n).map fun k:Nat=>.int (lo-k)
theorem x9{lo:Int}{n i:Nat}{d:bq}(h:(m7 lo n)[i]?=some d):i<n/\d=.int (lo-i):=by
 unfold m7 at h;rw[iw]at h;by_cases hi:i<n
 ·rw[List.getElem?_range hi]at h;exact⟨hi,(gi h).symm⟩
 ·rw[List.getElem?_eq_none (by simpa using Nat.le_of_not_lt hi)]at h;cases h
theorem Gr{h o:List Addr}{H:Hp}{lo:Int}{n:Nat}:WalkX h o H (Itd lo n) (m7 lo n) where
 stop:=fun i _ _ _ hi=>by
  have h':n<=i:=by simpa[m7]using hi
  exact h'
 go:=fun i d _ _ _ hi=>(x9 hi).1
 yld:=fun i d o2 H2 x H3 S2 _ _ hi y=>by
  obtain⟨e,ex⟩:=y;subst e ex;rw[(x9 hi).2];exact⟨Same.refl _,eA.mpr rfl⟩
def lH(a:DA):DI:=fun δ S R=>a δ S fun xs S1=>∃i j:Int,xs=[.d (.int i),.d (.int j),.d (.int (-1))]/\(-1000<=i/\i<=1000)/\(-1000<=j/\j<=1000)/\R (m7 i (i-j).toNat) S1
theorem MN{ta:TA}{da:DA}(ha:RA ta da):RI (GH ta) (lH da):=fun h o H δ σ S R Q he hs q c=>
 ha h o H δ σ S _ _ he hs q fun o1 H1 S1 xs vs e1 s1 x1 d0=>by
  obtain⟨i,j,rfl,h1,h2,d1⟩:=d0;obtain⟨v1,r1,rfl,aa,l1⟩:=x1;obtain⟨v2,r2,rfl,ac,l2⟩:=l1;obtain⟨v3,r3,rfl,z,l3⟩:=l2;have l4:r3=[]:=l3;subst l4;rw[bH aa,bH ac,bH z];exact⟨i,j,rfl,h1,h2,c o1 H1 S1 _ _ e1 s1 Gr d1⟩
end
end L2
namespace L2
open PySem PyProof.Rows
def B2:Bool->cy->Array cy->Nat->Nat->Nat->StateT gy Sem (Option Nat):=sortPriv% PySem.Builtin.gallop
def NB:Array cy->Array cy->StateT gy Sem (Array cy):=sortPriv% PySem.Builtin.mergeLo
def HC:Array cy->Array cy->StateT gy Sem (Array cy):=sortPriv% PySem.Builtin.mergeHi
structure LtOk(prog:fg)(w:gg)(A:gf)(E:bn->bu->Prop)(s:bu)(kd:tz)(D:cy->Prop)(lt:cy->cy->Bool):Prop where
 ask:∀x y (st:gy) (Q:Option Bool->gy->Prop),D x->D y->kindOf st=kd->Q (some (lt x y)) st->wpS (model prog w) A E s (lt' x y) Q st
 asym:∀x y,D x->D y->lt x y=true->lt y x=false
 tr:∀x y z,D x->D y->D z->lt y x=false->lt z y=false->lt z x=false
section
variable {prog:fg}{w:gg}{A:gf}{E:bn->bu->Prop}{s:bu}{kd:tz}{D:cy->Prop}{lt:cy->cy->Bool}
theorem zI{z:Array cy}{i:Nat}{x:cy}{Q:cy->gy->Prop}{st:gy}(h:z[i]?=some x)(q:Q x st):wpS (model prog w) A E s (elem' z i) Q st:=by
 rw[elem'_eq,h];exact ck q
def bey(lt:cy->cy->Bool)(left:Bool)(key x:cy):Bool:=if left=true then lt x key else !lt key x
theorem pO(O:LtOk prog w A E s kd D lt){left:Bool}{key x:cy}{z:Array cy}{i:Nat}{Q:Option Bool->gy->Prop}{st:gy}(hk:kindOf st=kd)(hD:D key)(hg:z[i]?=some x)(hx:D x)(q:Q (some (bey lt left key x)) st):
  wpS (model prog w) A E s (do
   let y <- elem' z i
   if left=true then lt' y key
    else do
     let r <- lt' key y
     pure (sx (fun b=>!b) r)) Q st:=by
 refine cg (zI hg ?_);unfold bey at q;by_cases h:left=true
 ·rw[cp h]at q ⊢;exact O.ask _ _ _ _ hx hD hk q
 ·rw[cf h]at q ⊢;exact cg (O.ask _ _ _ _ hD hx hk (ck q))
theorem F3{n:Nat}{p:Nat->Bool}{α:Type}{f:Nat->Option α×Nat×Nat->StateT gy Sem (ForInStep (Option α×Nat×Nat))}{Q:Option α×Nat×Nat->gy->Prop}{st:gy}
  (hf:∀x lo hi (Q':ForInStep (Option α×Nat×Nat)->gy->Prop),hi<=n->(hi<=lo->Q' (.done (none,lo,hi)) st)->(lo<hi->p (lo+(hi-lo)/2)=true->Q' (.yield (none,lo+(hi-lo)/2+1,hi)) st) ->
   (lo<hi->p (lo+(hi-lo)/2)=false->Q' (.yield (none,lo,lo+(hi-lo)/2)) st)->wpS (model prog w) A E s (f x (none,lo,hi)) Q' st)
  (hmono:∀i j,i<=j->j<n->p j=true->p i=true) {lo hi:Nat} (h1:lo<=hi) (h2:hi<=n) (h3:∀i,i<lo->p i=true) (h4:∀i,hi<=i->i<n->p i=false)
  (q:∀k,k<=n->(∀i,i<k->p i=true)->(∀i,k<=i->i<n->p i=false)->Q (none,k,k) st):wpS (model prog w) A E s (forIn [:n] (none,lo,hi) f) Q st:=by
 refine ik (I:=fun k c st'=>st'=st/\∃lo hi,c=(none,lo,hi)/\lo<=hi/\hi<=n/\hi-lo+k<=n/\(∀i,i<lo->p i=true)/\∀i,hi<=i->i<n->p i=false) ?step ?fin ⟨rfl,lo,hi,rfl,h1,h2,yw,h3,h4⟩
 case fin=>
  rintro c st' ⟨rfl,lo,hi,rfl,a1,a2,a3,a4,a5⟩;have:lo=hi:=yw
  subst this;exact q lo a2 a4 a5
 case step=>
  rintro k c st' _ af ⟨rfl,lo,hi,rfl,a1,a2,a3,a4,a5⟩;refine hf k lo hi _ a2 (fun ae=>?_) (fun ac hp=>?_) fun ac hp=>?_
  ·have:lo=hi:=yw
   subst this;exact q lo a2 a4 a5
  ·refine⟨rfl,_,_,rfl,yw,a2,yw,fun i z=>?_,a5⟩;exact hmono i (lo+(hi-lo)/2) yw yw hp
  ·refine⟨rfl,_,_,rfl,yw,yw,yw,a4,fun i z aa=>?_⟩;cases hpi:p i with
   |false=>rfl
   |true=>rw[hmono (lo+(hi-lo)/2) i z aa hpi]at hp;cases hp
theorem Iw(O:LtOk prog w A E s kd D lt){left:Bool}{key:cy}{af:Array cy}{base n hint:Nat}{Q:Option Nat->gy->Prop}{st:gy}(hk:kindOf st=kd)(hD:D key)(g:Nat->cy)(hg:∀i,i<n->af[base+i]?=some (g i))(aa:∀i,i<n->D (g i))
  (hmono:∀i j,i<=j->j<n->bey lt left key (g j)=true->bey lt left key (g i)=true) (hh:hint<n)
  (q:∀k,k<=n->(∀i,i<k->bey lt left key (g i)=true)->(∀i,k<=i->i<n->bey lt left key (g i)=false)->Q (some k) st):wpS (model prog w) A E s (B2 left key af base n hint) Q st:=by
 have ae:∀i j,i<=j->j<n->bey lt left key (g i)=false->bey lt left key (g j)=false:=fun i j h1 h2 h3=>by
  cases h:bey lt left key (g j)with
  |false=>rfl
  |true=>rw[hmono i j h1 h2 h]at h3;cases h3
 refine cg (pO O hk hD (hg hint hh) (aa hint hh) ?_);cases hb:bey lt left key (g hint)with
 |true=>
  simp only[if_true];refine cg (kq (ik (I:=fun k c st'=>st'=st/\∃la z,c=(none,la,z)/\la<z/\k+1<=z/\hint+la<n/\bey lt left key (g (hint+la))=true)
   (Q:=fun c st'=>st'=st/\∃la z,c=(none,la,z)/\la<z/\hint+la<n/\bey lt left key (g (hint+la))=true/\(n-hint<=z\/(hint+z<n/\bey lt left key (g (hint+z))=false))) ?step ?fin ⟨rfl,0,1,rfl,yw,yw,yw,hb⟩) ?post)
  case step=>
   rintro k c st' _ ag ⟨rfl,la,z,rfl,h1,h2,h3,h4⟩;by_cases ho:z≥n-hint
   ·rw[cp ho];exact ck ⟨rfl,la,z,rfl,h1,h3,h4,.inl ho⟩
   ·rw[cf ho];have hn:hint+z<n:=yw
    refine cg (pO O hk hD (hg _ hn) (aa _ hn) ?_);cases hb2:bey lt left key (g (hint+z))with
    |true=>exact ck ⟨rfl,z,2*z+1,rfl,yw,yw,hn,hb2⟩
    |false=>exact ck ⟨rfl,la,z,rfl,h1,h3,h4,.inr ⟨hn,hb2⟩⟩
  case fin=>
   rintro c st' ⟨rfl,la,z,rfl,h1,h2,h3,h4⟩;exact⟨rfl,la,z,rfl,h1,h3,h4,.inl yw⟩
  case post=>
   rintro c st' ⟨rfl,la,z,rfl,h1,h3,h4,h5⟩;dsimp only;refine cg (F3 (p:=fun i=>bey lt left key (g i)) ?hf hmono yw yw (fun i hi=>hmono i (hint+la) yw h3 h4) (fun i hi ac=>?_) fun k k1 k2 k3=>?_)
   case hf=>
    intro x lo hi Q' hn e1 e2 e3;by_cases ho:lo≥hi
    ·rw[cp ho];exact ck (e1 ho)
    ·rw[cf ho];have hm:lo+(hi-lo)/2<n:=yw
     refine cg (pO O hk hD (hg _ hm) (aa _ hm) ?_);dsimp only;cases hb2:bey lt left key (g (lo+(hi-lo)/2))with
     |true=>exact ck (e2 yw hb2)
     |false=>exact ck (e3 yw hb2)
   ·rcases h5 with h5|⟨h5,h6⟩
    ·omega
    ·exact ae (hint+z) i yw ac h6
   ·exact ck (q k k1 k2 k3)
 |false=>
  simp only[fm,if_false];refine cg (kq (ik (I:=fun k c st'=>st'=st/\∃la z,c=(none,la,z)/\la<z/\k+1<=z/\la<=hint/\bey lt left key (g (hint-la))=false)
   (Q:=fun c st'=>st'=st/\∃la z,c=(none,la,z)/\la<z/\la<=hint/\bey lt left key (g (hint-la))=false/\(hint+1<=z\/(z<=hint/\bey lt left key (g (hint-z))=true))) ?step ?fin ⟨rfl,0,1,rfl,yw,yw,yw,hb⟩) ?post)
  case step=>
   rintro k c st' _ ag ⟨rfl,la,z,rfl,h1,h2,h3,h4⟩;by_cases ho:z≥hint+1
   ·rw[cp ho];exact ck ⟨rfl,la,z,rfl,h1,h3,h4,.inl ho⟩
   ·rw[cf ho];have hn:hint-z<n:=yw
    refine cg (pO O hk hD (hg _ hn) (aa _ hn) ?_);cases hb2:bey lt left key (g (hint-z))with
    |true=>exact ck ⟨rfl,la,z,rfl,h1,h3,h4,.inr ⟨yw,hb2⟩⟩
    |false=>exact ck ⟨rfl,z,2*z+1,rfl,yw,yw,yw,hb2⟩
  case fin=>
   rintro c st' ⟨rfl,la,z,rfl,h1,h2,h3,h4⟩;exact⟨rfl,la,z,rfl,h1,h3,h4,.inl yw⟩
  case post=>
   rintro c st' ⟨rfl,la,z,rfl,h1,h3,h4,h5⟩;dsimp only;refine cg (F3 (p:=fun i=>bey lt left key (g i)) ?hf hmono yw yw (fun i hi=>?_) (fun i hi ac=>ae (hint-la) i yw ac h4) fun k k1 k2 k3=>?_)
   case hf=>
    intro x lo hi Q' hn e1 e2 e3;by_cases ho:lo≥hi
    ·rw[cp ho];exact ck (e1 ho)
    ·rw[cf ho];have hm:lo+(hi-lo)/2<n:=yw
     refine cg (pO O hk hD (hg _ hm) (aa _ hm) ?_);dsimp only;cases hb2:bey lt left key (g (lo+(hi-lo)/2))with
     |true=>exact ck (e2 yw hb2)
     |false=>exact ck (e3 yw hb2)
   ·rcases h5 with h5|⟨h5,h6⟩
    ·omega
    ·exact hmono i (hint-z) yw yw h6
   ·exact ck (q k k1 k2 k3)
def SrtL(lt:cy->cy->Bool)(l:List cy):Prop:=l.Pairwise fun x y=>lt y x=false
structure MI(lt:cy->cy->Bool)(L0 out A B:List cy):Prop where
 pm:(out++(A++B)).Perm L0
 so:SrtL lt out
 le:∀x∈out,∀y∈A++B,lt y x=false
 sa:SrtL lt A
 sb:SrtL lt B
theorem Ew{l:List cy}{x:cy}(h:SrtL lt l)(k:∀y∈l,lt x y=false):SrtL lt (l++[x]):=by
 unfold SrtL at *;rw[List.pairwise_append];exact⟨h,yv,fun y m z mz=>by rw[mem_singleton.mp mz];exact k y m⟩
theorem MI.takeA{L0 out A B:List cy}{x:cy}(h:MI lt L0 out (x::A) B)(k:∀y∈B,lt y x=false):MI lt L0 (out++[x]) A B:=by
 have sa:=h.sa;unfold SrtL at sa;rw[List.pairwise_cons]at sa;refine⟨by rw[ig];exact h.pm,Ew h.so fun y m=>h.le y m x yv,fun z mz y my=>?_,sa.2,h.sb⟩;rcases mem_append.mp mz with mz|mz
 ·exact h.le z mz y (by rcases mem_append.mp my with m|m<;>simp[m])
 ·rw[mem_singleton.mp mz];rcases mem_append.mp my with m|m
  ·exact sa.1 y m
  ·exact k y m
theorem MI.takeB{L0 out A B:List cy}{y:cy}(h:MI lt L0 out A (y::B))(k:∀x∈A,lt x y=false):MI lt L0 (out++[y]) A B:=by
 have sb:=h.sb;unfold SrtL at sb;rw[List.pairwise_cons]at sb;refine⟨?_,Ew h.so fun x m=>h.le x m y yv,fun z mz x mx=>?_,h.sa,sb.2⟩
 ·refine .trans ?_ h.pm;rw[ig];refine List.Perm.append_left _ ?_;exact(List.perm_middle (a:=y) (l₁:=A) (l₂:=B)).symm
 ·rcases mem_append.mp mz with mz|mz
  ·exact h.le z mz x (by rcases mem_append.mp mx with m|m<;>simp[m])
  ·rw[mem_singleton.mp mz];rcases mem_append.mp mx with m|m
   ·exact k x m
   ·exact sb.1 x m
theorem MI.takesA{L0:List cy}:∀{X out A B:List cy},MI lt L0 out (X++A) B->(∀x∈X,∀y∈B,lt y x=false)->MI lt L0 (out++X) A B
 | [],out,A,B,h,_=>by simpa using h
 |x::X,out,A,B,h,k=>by
  have:=MI.takesA (MI.takeA h (k x fq)) fun z m=>k z (cz _ m);simpa using this
theorem MI.takesB{L0:List cy}:∀{Y out A B:List cy},MI lt L0 out A (Y++B)->(∀y∈Y,∀x∈A,lt x y=false)->MI lt L0 (out++Y) A B
 | [],out,A,B,h,_=>by simpa using h
 |y::Y,out,A,B,h,k=>by
  have:=MI.takesB (MI.takeB h (k y fq)) fun z m=>k z (cz _ m);simpa using this
def MDone(lt:cy->cy->Bool)(L0 l:List cy):Prop:=l.Perm L0/\SrtL lt l
theorem MI.doneA{L0 out A:List cy}(h:MI lt L0 out A []):MDone lt L0 (out++A):=by
 refine⟨by simpa using h.pm,?_⟩;unfold SrtL;rw[List.pairwise_append];exact⟨h.so,h.sa,fun x m y m'=>h.le x m y (by simpa using m')⟩
theorem MI.lastA{L0 out B:List cy}{x:cy}(h:MI lt L0 out [x] B)(k:∀y∈B,lt x y=false):MDone lt L0 (out++B++[x]):=by
 have h2:MI lt L0 (out++B) [x] []:=MI.takesB (B:=[]) (by simpa using h) fun y m z mz=>by rw[mem_singleton.mp mz];exact k y m
 exact h2.doneA
def sameSt(st st':gy):Prop:=kindOf st'=kindOf st/\cn st'=cn st/\df st'=df st/\si st'=si st
theorem sameSt.rfl'{st:gy}:sameSt st st:=⟨rfl,rfl,rfl,rfl⟩
theorem LtOk.irr(O:LtOk prog w A E s kd D lt){x:cy}(h:D x):lt x x=false:=by
 cases e:lt x x with
 |false=>rfl
 |true=>rw[O.asym x x h h e]at e;cases e
theorem cL(O:LtOk prog w A E s kd D lt){l:List cy}(h:SrtL lt l)(hD:∀x∈l,D x){i j:Nat}{x y:cy}(ij:i<=j)(hx:l[i]?=some x)(hy:l[j]?=some y):lt y x=false:=by
 rcases Nat.lt_or_eq_of_le ij with h1|h1
 ·obtain⟨hi,ex⟩:=List.getElem?_eq_some_iff.mp hx;obtain⟨hj,ey⟩:=List.getElem?_eq_some_iff.mp hy;have:=List.pairwise_iff_getElem.mp h i j hi hj h1;rw[ex,ey]at this;exact this
 ·subst h1;rw[hx]at hy;cases hy;exact O.irr (hD x (cb hx))
theorem lM{l:List cy}{i:Nat}{x:cy}(h:l[i]?=some x):l.drop i=x::l.drop (i+1):=by
 obtain⟨hi,e⟩:=List.getElem?_eq_some_iff.mp h;rw[ko hi,e]
theorem b6{a:Array cy}{i:Nat}(h:i<a.size):∃x,a[i]?=some x/\a.toList[i]?=some x:=⟨a[i],by simp[h],by simp[h]⟩
theorem i4{l:List cy}{i:Nat}{y:cy}(h:y∈l.drop i):∃j,i<=j/\l[j]?=some y:=by
 obtain⟨j,hj⟩:=mem_iff_getElem?.mp h;rw[getElem?_drop]at hj;exact⟨i+j,yw,hj⟩
structure MInv(lt:cy->cy->Bool)(a b out:Array cy)(ia ib:Nat):Prop where
 mi:MI lt (a.toList++b.toList) out.toList (a.toList.drop ia) (b.toList.drop ib)
 ha:ia+1<a.size
 hb:ib<b.size
section
variable {a b out:Array cy}{ia ib:Nat}
theorem MInv.stepB(O:LtOk prog w A E s kd D lt)(aa:∀x∈a.toList,D x)(ac:∀x∈b.toList,D x)(ae:SrtL lt a.toList){x y:cy}(h:MInv lt a b out ia ib)(hx:a.toList[ia]?=some x)(hy:b.toList[ib]?=some y)(l:lt y x=true):
  MI lt (a.toList++b.toList) (out.push y).toList (a.toList.drop ia) (b.toList.drop (ib+1)):=by
 have m:=h.mi;rw[lM hy]at m;have:=m.takeB fun z mz=>by
  obtain⟨j,hj,ez⟩:=i4 mz;have Dx:=aa x (cb hx);have Dy:=ac y (cb hy);have Dz:=aa z (cb ez);exact O.tr y x z Dy Dx Dz (O.asym y x Dy Dx l) (cL O ae aa hj hx ez)
 simpa using this
theorem MInv.stepA(O:LtOk prog w A E s kd D lt)(ac:∀x∈a.toList,D x)(aa:∀x∈b.toList,D x)(ae:SrtL lt b.toList){x y:cy}(h:MInv lt a b out ia ib)(hx:a.toList[ia]?=some x)(hy:b.toList[ib]?=some y)(l:lt y x=false):
  MI lt (a.toList++b.toList) (out.push x).toList (a.toList.drop (ia+1)) (b.toList.drop ib):=by
 have m:=h.mi;rw[lM hx]at m;have:=m.takeA fun z mz=>by
  obtain⟨j,hj,ez⟩:=i4 mz;exact O.tr x y z (ac x (cb hx)) (aa y (cb hy)) (aa z (cb ez)) l (cL O ae aa hj hy ez)
 simpa using this
theorem nC(a:Array cy)(i:Nat):(a.extract i a.size).toList=a.toList.drop i:=by
 rw[oo,jr,rc yv]
theorem mC(z:ib=b.size)(m:MI lt (a.toList++b.toList) out.toList (a.toList.drop ia) (b.toList.drop ib)):MDone lt (a.toList++b.toList) (out++a.extract ia a.size++b.extract ib b.size).toList:=by
 have e:b.toList.drop ib=[]:=re (by simp[z]);rw[je,je,nC,nC,e,jl];rw[e]at m;exact m.doneA
theorem Lf(z:ia=a.size)(m:MI lt (a.toList++b.toList) out.toList (a.toList.drop ia) (b.toList.drop ib)):MDone lt (a.toList++b.toList) (out++a.extract ia a.size++b.extract ib b.size).toList:=by
 have e:a.toList.drop ia=[]:=re (by simp[z]);rw[je,je,nC,nC,e,jl];rw[e]at m;have h2:MI lt (a.toList++b.toList) (out.toList++b.toList.drop ib) [] []:=MI.takesB (B:=[]) (by simpa using m) (fun y my x mx=>by cases mx);have:=h2.doneA;simpa using this
theorem jN(hl:∀x,a[a.size-1]?=some x->∀y∈b.toList,lt x y=false)(h1:ia+1=a.size)(m:MI lt (a.toList++b.toList) out.toList (a.toList.drop ia) (b.toList.drop ib)):MDone lt (a.toList++b.toList) (out++b.extract ib b.size++a.extract ia a.size).toList:=by
 obtain⟨x,e1,e2⟩:=b6 (a:=a) (i:=ia) yw;have ed:a.toList.drop ia=[x]:=by
  rw[lM e2,re (by simp;omega)]
 rw[ed]at m;have hx:=hl x (by rw[show a.size-1=ia by omega];exact e1);have:=m.lastA fun y my=>hx y (mem_of_mem_drop my);rw[je,je,nC,nC,ed];exact this
end
theorem gal(O:LtOk prog w A E s kd D lt){left:Bool}{key:cy}{z:Array cy}{base n hint:Nat}{Q:Option Nat->gy->Prop}{st:gy}(hk:kindOf st=kd)(Dk:D key)(hD:∀j,base<=j->j<base+n->∃x,z[j]?=some x/\D x)
  (hs:∀i j x y,base<=i->i<=j->j<base+n->z[i]?=some x->z[j]?=some y->lt y x=false) (hh:hint<n)
  (q:∀k,k<=n->(∀j x,base<=j->j<base+k->z[j]?=some x->bey lt left key x=true)->(∀j x,base+k<=j->j<base+n->z[j]?=some x->bey lt left key x=false)->Q (some k) st):wpS (model prog w) A E s (B2 left key z base n hint) Q st:=by
 have hg:∀i,i<n->z[base+i]?=some ((z[base+i]?).getD key):=fun i hi=>by
  obtain⟨x,e,_⟩:=hD (base+i) yw yw;rw[e];rfl
 have aa:∀i,i<n->D ((z[base+i]?).getD key):=fun i hi=>by
  obtain⟨x,e,d⟩:=hD (base+i) yw yw;rw[e];exact d
 refine Iw O hk Dk (fun i=>(z[base+i]?).getD key) hg aa (fun i j ae hj hb=>?_) hh fun k k1 k2 k3=>q k k1 (fun j x h1 h2 e=>?_) fun j x h1 h2 e=>?_
 ·have s1:=hs (base+i) (base+j) _ _ yw yw yw (hg i yw) (hg j hj);have Di:=aa i yw;have Dj:=aa j hj
  try dsimp only at hb ⊢
  generalize (z[base+i]?).getD key=x at s1 Di ⊢;generalize (z[base+j]?).getD key=y at s1 Dj hb;cases left with
  |true=>
   unfold bey at hb ⊢;rw[cp rfl]at hb ⊢;cases hx:lt x key with
   |true=>rfl
   |false=>rw[O.tr key x y Dk Di Dj hx s1]at hb;cases hb
  |false=>
   unfold bey at hb ⊢;rw[cf dz]at hb ⊢;have ac:lt key y=false:=by simpa using hb
   rw[O.tr x y key Di Dj Dk s1 ac];rfl
 ·have:=k2 (j-base) yw
  try dsimp only at this
  rw[show base+(j-base)=j by omega,e]at this;exact this
 ·have:=k3 (j-base) yw yw
  try dsimp only at this
  rw[show base+(j-base)=j by omega,e]at this;exact this
theorem AI{a:Array cy}{i k:Nat}:(a.extract i (i+k)).toList=(a.toList.drop i).take k:=by
 rw[oo,jr,Nat.add_sub_cancel_left]
theorem uH{l:List cy}{i k:Nat}{x:cy}(h:x∈(l.drop i).take k):∃j,i<=j/\j<i+k/\l[j]?=some x:=by
 obtain⟨j,hj⟩:=mem_iff_getElem?.mp h;rw[getElem?_take]at hj;split at hj
 ·rw[getElem?_drop]at hj;exact⟨i+j,yw,yw,hj⟩
 ·cases hj
theorem lL(a:Array cy)(i:Nat):a.extract i (i+0) = #[]:=by
 apply Array.toList_inj.mp;rw[AI,take_zero]
section
variable {a b out:Array cy}{ia ib k:Nat}{L0:List cy}
theorem HF(m:MI lt L0 out.toList (a.toList.drop ia) (b.toList.drop ib))(h:∀j x,ia<=j->j<ia+k->a.toList[j]?=some x->∀y∈b.toList.drop ib,lt y x=false):MI lt L0 (out++a.extract ia (ia+k)).toList (a.toList.drop (ia+k)) (b.toList.drop ib):=by
 rw[je,AI];refine MI.takesA ?_ fun x mx y my=>?_
 ·rw[<- List.drop_drop,ny];exact m
 ·obtain⟨j,h1,h2,e⟩:=uH mx;exact h j x h1 h2 e y my
theorem DP(m:MI lt L0 out.toList (a.toList.drop ia) (b.toList.drop ib))(h:∀j y,ib<=j->j<ib+k->b.toList[j]?=some y->∀x∈a.toList.drop ia,lt x y=false):MI lt L0 (out++b.extract ib (ib+k)).toList (a.toList.drop ia) (b.toList.drop (ib+k)):=by
 rw[je,AI];refine MI.takesB ?_ fun x mx y my=>?_
 ·rw[<- List.drop_drop,ny];exact m
 ·obtain⟨j,h1,h2,e⟩:=uH mx;exact h j x h1 h2 e y my
theorem tV(m:MI lt L0 out.toList (a.toList.drop ia) (b.toList.drop ib)){x:cy}(hx:a.toList[ia]?=some x)(h:∀y∈b.toList.drop ib,lt y x=false):MI lt L0 (out.push x).toList (a.toList.drop (ia+1)) (b.toList.drop ib):=by
 rw[lM hx]at m;have:=m.takeA h;simpa using this
theorem Cl(m:MI lt L0 out.toList (a.toList.drop ia) (b.toList.drop ib)){y:cy}(hy:b.toList[ib]?=some y)(h:∀x∈a.toList.drop ia,lt x y=false):MI lt L0 (out.push y).toList (a.toList.drop ia) (b.toList.drop (ib+1)):=by
 rw[lM hy]at m;have:=m.takeB h;simpa using this
end
theorem aS{a:Array cy}{i:Nat}{x:cy}:a[i]?=some x↔a.toList[i]?=some x:=by simp
theorem fin3{prog:fg}{w:gg}{A:gf}{E:bn->bu->Prop}{s:bu}{τ:Type}{P C:Prop}{_:Decidable P}{f g:StateT gy Sem τ}{Q':τ->gy->Prop}{st':gy}(hf:C->wpS (model prog w) A E s f Q' st')(hg:C->wpS (model prog w) A E s g Q' st')(h:C):wpS (model prog w) A E s (if P then f else g) Q' st':=by
 split
 ·exact hf h
 ·exact hg h
theorem G9(O:LtOk prog w A E s kd D lt){a b:Array cy}{Q:Array cy->gy->Prop}{st:gy}(hk:kindOf st=kd)(au:∀x∈a.toList,D x)(ay:∀x∈b.toList,D x)(ha:SrtL lt a.toList)(hb:SrtL lt b.toList)(aw:1<=a.size)(ax:1<=b.size)
  (h0:∀y,b[0]?=some y->∀x∈a.toList,lt x y=false) (hl:∀x,a[a.size-1]?=some x->∀y∈b.toList,lt x y=false)
  (q:∀(out:Array cy) st',MDone lt (a.toList++b.toList) out.toList->sameSt st st'->Q out st'):wpS (model prog w) A E s (NB a b) Q st:=by
 refine cg (wpS_lift (mw ⟨rfl,?_⟩));obtain⟨y0,bi,bh⟩:=b6 (a:=b) (i:=0) (by omega);refine cg (zI bi ?_);have m0:MI lt (a.toList++b.toList) [] a.toList b.toList:=⟨List.Perm.refl _,List.Pairwise.nil,(fun x m=>by cases m),ha,hb⟩;have m1:MI lt (a.toList++b.toList) (#[y0]:Array cy).toList (a.toList.drop 0) (b.toList.drop 1):=by
  have e:b.toList=y0::b.toList.drop 1:=by have:=lM bh;simpa using this
  have m2:MI lt (a.toList++b.toList) [] a.toList (y0::b.toList.drop 1):=by
   have:=m0
   conv at this=>arg 5;rw[e]
   exact this
  have:=m2.takeB (h0 y0 bi);simpa using this
 by_cases c1:1=b.size
 ·rw[cp (by simpa using c1)];exact ck (q _ _ (mC c1 m1) sameSt.rfl')
 rw[cf (by simpa using c1)];by_cases c2:0+1=a.size
 ·rw[cp (by simpa using c2)];exact ck (q _ _ (jN hl c2 m1) sameSt.rfl')
 rw[cf (by simpa using c2)];refine cg (sr ?_);have bd:∀{out:Array cy}{ia ib:Nat},MInv lt a b out ia ib->ia+ib<a.size+b.size:=fun h=>by have:=h.ha;have:=h.hb;(clear c2 c1 ax aw;omega)
 refine cg (kq (ik
  (I:=fun k c st'=>sameSt st st'/\∃out ia ib mg,c=(none,out,ia,ib,mg)/\MInv lt a b out ia ib/\k<ia+ib)
  (Q:=fun c st'=>sameSt st st'/\∃r rest,c=(some r,rest)/\MDone lt (a.toList++b.toList) r.toList) ?step ?fin ⟨sameSt.rfl',#[y0],0,1,_,rfl,⟨m1,by omega,by omega⟩,by clear c2 c1 ax aw;omega⟩) ?post)
 case fin=>
  rintro c st' ⟨ba,out,ia,ib,mg,rfl,hm,a4⟩;have:=bd hm
  (clear c2 c1 ax aw;omega)
 case post=>
  rintro c st' ⟨ba,r,rest,rfl,hd⟩;exact ck (q r st' hd ba)
 case step=>
  rintro k c st' _ a5 ⟨ba,out,ia,ib,mg,rfl,hm,a4⟩;refine cg (kq (ik
   (I:=fun j c st'=>sameSt st st'/\∃am ao ap ac bc,c=(none,am,ao,ap,ac,bc)/\MInv lt a b am ao ap/\j+(ia+ib)<=ao+ap)
   (Q:=fun c st'=>sameSt st st'/\((∃r rest,c=(some r,rest)/\MDone lt (a.toList++b.toList) r.toList)\/∃am ao ap ac bc,c=(none,am,ao,ap,ac,bc)/\MInv lt a b am ao ap/\ia+ib<ao+ap)) ?step1 ?fin1 ⟨ba,out,ia,ib,0,0,rfl,hm,by clear a4 a5 c2 c1 ax aw;omega⟩) ?post1)
  case fin1=>
   rintro c a9 ⟨al,am,ao,ap,ac,bc,rfl,av,a2⟩;have:=bd av
   (clear a4 a5 c2 c1 ax aw;omega)
  case step1=>
   rintro j c a9 _ hj ⟨al,am,ao,ap,ac,bc,rfl,av,a2⟩;obtain⟨y,ey,a1⟩:=b6 (a:=b) (i:=ap) av.hb
   clear a5 ax a4 c2 c1 hj aw
   obtain⟨x,ex,ex'⟩:=b6 (a:=a) (i:=ao) (by have:=av.ha;(omega));have Dx:=au x (cb ex');have Dy:=ay y (cb a1);have aj:kindOf a9=kd:=al.1.trans hk;refine cg (zI ey (cg (zI ex (cg (O.ask y x a9 _ Dy Dx aj ?_)))));cases hlt2:lt y x with
   |true=>
    have ms:=av.stepB O au ay ha ex' a1 hlt2;simp only[if_true];refine cg (zI ey ?_);by_cases c3:ap+1=b.size
    ·rw[cp (by simpa using c3)];exact ck ⟨al,.inl ⟨_,_,rfl,mC c3 ms⟩⟩
    ·rw[cf (by simpa using c3)];have ar:MInv lt a b (am.push y) ao (ap+1):=⟨ms,av.ha,by have:=av.hb;(omega)⟩;by_cases c4:bc+1≥mg
     ·rw[cp c4];exact ck ⟨al,.inr ⟨_,_,_,_,_,rfl,ar,by omega⟩⟩
     ·rw[cf c4];exact ck ⟨al,_,_,_,_,_,rfl,ar,by omega⟩
   |false=>
    have ms:=av.stepA O au ay hb ex' a1 hlt2;simp only[fm,if_false];refine cg (zI ex ?_);by_cases c3:ao+1+1=a.size
    ·rw[cp (by simpa using c3)];exact ck ⟨al,.inl ⟨_,_,rfl,jN hl c3 ms⟩⟩
    ·rw[cf (by simpa using c3)];have ar:MInv lt a b (am.push x) (ao+1) ap:=⟨ms,by have:=av.ha;(omega),av.hb⟩;by_cases c4:ac+1≥mg
     ·rw[cp c4];exact ck ⟨al,.inr ⟨_,_,_,_,_,rfl,ar,by omega⟩⟩
     ·rw[cf c4];exact ck ⟨al,_,_,_,_,_,rfl,ar,by omega⟩
  case post1=>
   rintro c a9 ⟨al,hc⟩;rcases hc with ⟨r,rest,rfl,hd⟩|⟨am,ao,ap,ac,bc,rfl,av,a2⟩
   ·dsimp only;exact ck ⟨al,_,_,rfl,hd⟩
   ·dsimp only;refine cg (wpS_lift (mw ⟨rfl,?_⟩));refine cg (kq (ik
     (I:=fun j c st'=>sameSt st st'/\∃ak ah ai a3 a7 a6,c=(none,ak,ah,ai,a3,a7,a6)/\MInv lt a b ak ah ai/\j+(ao+ap)<=ah+ai)
     (Q:=fun c st'=>sameSt st st'/\((∃r rest,c=(some r,rest)/\MDone lt (a.toList++b.toList) r.toList)\/∃ak ah ai a3 a7 a6,c=(none,ak,ah,ai,a3,a7,a6)/\MInv lt a b ak ah ai/\ao+ap<=ah+ai)) ?step2 ?az ⟨al,am,ao,ap,_,_,_,rfl,av,by clear a2 a4 a5 c2 c1 ax aw;omega⟩) ?post2)
    case az=>
     rintro c bg ⟨an,ak,ah,ai,a3,a7,a6,rfl,ar,aa⟩;have:=bd ar
     (clear a2 a4 a5 c2 c1 ax aw;omega)
    case post2=>
     rintro c bg ⟨an,hc⟩;rcases hc with ⟨r,rest,rfl,hd⟩|⟨ak,ah,ai,a3,a7,a6,rfl,ar,aa⟩
     ·dsimp only;exact ck ⟨an,_,_,rfl,hd⟩
     ·dsimp only;refine cg (lv (ck ⟨⟨an.1,an.2.1,an.2.2.1,an.2.2.2⟩,ak,ah,ai,_,rfl,ar,by clear a5 c2 c1 ax aw;omega⟩))
    case step2=>
     rintro j c bg _ hj ⟨an,ak,ah,ai,a3,a7,a6,rfl,ar,aa⟩;obtain⟨y,ey,a1⟩:=b6 (a:=b) (i:=ai) ar.hb;have ae:=ar.ha;have af:=ar.hb;have Dy:=ay y (cb a1);have aD:∀j,j<a.size->∃x,a[j]?=some x/\D x:=fun j hj=>by
      obtain⟨x,e,e'⟩:=b6 (a:=a) hj;exact⟨x,e,au x (cb e')⟩
     have bD:∀j,j<b.size->∃x,b[j]?=some x/\D x:=fun j hj=>by
      obtain⟨x,e,e'⟩:=b6 (a:=b) hj;exact⟨x,e,ay x (cb e')⟩
     dsimp only;have az:∀(P:Prop) (_:Decidable P) (f g:StateT gy Sem (ForInStep (Option (Array cy)×Array cy×Nat×Nat×Nat×Nat×Nat))) (Q':ForInStep (Option (Array cy)×Array cy×Nat×Nat×Nat×Nat×Nat)->gy->Prop) (st':gy),wpS (model prog w) A E s f Q' st'->wpS (model prog w) A E s g Q' st'->wpS (model prog w) A E s (if P then f else g) Q' st':=fun P _ f g Q' st' h1 h2=>by
      split
      ·exact h1
      ·exact h2
     refine fin3 (C:=?C3) ?f3 ?g3 ?h3
     case f3=>intro h;generalize a3-1=m0;revert m0;exact h
     case g3=>intro h;generalize a3=m0;revert m0;exact h
     intro m0
     clear a5 ax a4 c2 a2 c1 hj aw
     all_goals
      refine cg (lv ?_);refine cg (zI ey ?_);refine cg (gal O (an.1.trans hk) Dy (fun j h1 h2=>aD j (by omega)) (fun i j x z h1 h2 h3 e1 e2=>cL O ha au h2 (aS.mp e1) (aS.mp e2)) (by omega) fun k1 aq g1 g2=>?_);dsimp only;have ag:sameSt st bg:=an
      have bl:MI lt (a.toList++b.toList) (ak++a.extract ah (ah+k1)).toList (a.toList.drop (ah+k1)) (b.toList.drop ai):=HF ar.mi fun j x h1 h2 e z mz=>by
       have:=g1 j x h1 h2 (aS.mpr e);obtain⟨j2,as,ez⟩:=i4 mz;have l1:lt y x=false:=by simpa[bey]using this
       exact O.tr x y z (au x (cb e)) Dy (ay z (cb ez)) l1 (cL O hb ay as a1 ez)
      have gt:∀x∈a.toList.drop (ah+k1),lt x y=false:=fun x mx=>by
       obtain⟨j2,as,ex⟩:=i4 mx;have a0:=(List.getElem?_eq_some_iff.mp ex).1;have:=g2 j2 x as (by simp at a0;(clear as aq af ae aa;omega)) (aS.mpr ex);have l1:lt y x=true:=by simpa[bey]using this
       exact O.asym y x Dy (au x (cb ex)) l1
      have bj:k1=0->(ak++a.extract ah (ah+k1))=ak:=fun z=>by subst z;rw[lL,Array.append_empty]
      have go:∀(outA:Array cy) (iaA:Nat) (mgA acA:Nat),MI lt (a.toList++b.toList) outA.toList (a.toList.drop iaA) (b.toList.drop ai)->(∀x∈a.toList.drop iaA,lt x y=false)->ah<=iaA->iaA+1<a.size->True:=fun _ _ _ _ _ _ _ _=>trivial;by_cases c5:k1>0
      ·rw[cp c5];by_cases c6:ah+k1+1=a.size
       ·rw[cp (by simpa using c6)];exact ck ⟨ag,.inl ⟨_,_,rfl,jN hl c6 bl⟩⟩
       rw[cf (by simpa using c6)];by_cases c7:ah+k1=a.size
       ·rw[cp (by simpa using c7)];exact ck ⟨ag,.inl ⟨_,_,rfl,Lf c7 bl⟩⟩
       rw[cf (by simpa using c7)];refine cg (zI ey ?_);have mb:=Cl bl a1 gt;by_cases d1:ai+1=b.size
       ·rw[cp (by simpa using d1)];exact ck ⟨ag,.inl ⟨_,_,rfl,mC d1 mb⟩⟩
       rw[cf (by simpa using d1)];obtain⟨x,ex,ex'⟩:=b6 (a:=a) (i:=(ah+k1)) (by clear d1 c6 c5 af aa;omega);have Dx:=au x (cb ex');refine cg (zI ex ?_);refine cg (gal O (an.1.trans hk) Dx (fun j h1 h2=>bD j (by clear h1 d1 c7 c6 c5 aq ae aa;omega)) (fun i j x z h1 h2 h3 e1 e2=>cL O hb ay h2 (aS.mp e1) (aS.mp e2)) (by clear c7 c6 c5 aq ae aa;omega) fun k2 aj f1 f2=>?_);dsimp only;have bb:=DP (k:=k2) mb fun j z h1 h2 e x2 be=>by
        have:=f1 j z h1 h2 (aS.mpr e);obtain⟨j2,as,a8⟩:=i4 be;have Dz:=ay z (cb e);have l1:lt z x=true:=by simpa[bey]using this
        exact O.tr z x x2 Dz Dx (au x2 (cb a8)) (O.asym z x Dz Dx l1) (cL O ha au as ex' a8)
       have gb:∀z∈b.toList.drop (ai+1+k2),lt z x=false:=fun z mz=>by
        obtain⟨j2,as,ez⟩:=i4 mz;have a0:=(List.getElem?_eq_some_iff.mp ez).1;have:=f2 j2 z as (by simp at a0;(clear as aj d1 c7 c6 c5 aq af ae aa;omega)) (aS.mpr ez);simpa[bey]using this
       by_cases d2:k2>0
       ·rw[cp d2];by_cases d3:ai+1+k2=b.size
        ·rw[cp (by simpa using d3)];exact ck ⟨ag,.inl ⟨_,_,rfl,mC d3 bb⟩⟩
        rw[cf (by simpa using d3)];refine cg (zI ex ?_);have mf:=tV bb ex' gb;by_cases d4:(ah+k1)+1+1=a.size
        ·rw[cp (by simpa using d4)];exact ck ⟨ag,.inl ⟨_,_,rfl,jN hl d4 mf⟩⟩
        rw[cf (by simpa using d4)]
        clear d2 c5 d1
        refine az _ _ _ _ _ _ ?_ ?_
        ·exact ck ⟨ag,.inr ⟨_,_,_,_,_,_,rfl,⟨mf,by clear d3 aj af aa;omega,by clear d4 c7 c6 aq ae aa;omega⟩,by clear d4 d3 aj c7 c6 aq af ae;omega⟩⟩
        ·exact ck ⟨ag,_,_,_,_,_,_,rfl,⟨mf,by clear d3 aj af aa;omega,by clear d4 c7 c6 aq ae aa;omega⟩,by clear d4 d3 aj c7 c6 aq af ae;omega⟩
       ·rw[cf d2];have bf:k2=0:=by clear aj d1 c7 c6 c5 aq af ae aa;omega
        subst bf;have ee:∀o:Array cy,o++b.extract (ai+1) (ai+1+0)=o:=fun o=>by rw[lL,Array.append_empty]
        rw[ee,ua]at bb;rw[ua]at gb;refine cg (zI ex ?_);have mf:=tV bb ex' gb;by_cases d4:(ah+k1)+1+1=a.size
        ·rw[cp (by simpa using d4)];exact ck ⟨ag,.inl ⟨_,_,rfl,jN hl d4 mf⟩⟩
        rw[cf (by simpa using d4)]
        clear d2 c5 aj
        refine az _ _ _ _ _ _ ?_ ?_
        ·exact ck ⟨ag,.inr ⟨_,_,_,_,_,_,rfl,⟨mf,by omega,by clear d4 c7 c6 aq ae aa;omega⟩,by clear d4 d1 c7 c6 aq af ae;omega⟩⟩
        ·exact ck ⟨ag,_,_,_,_,_,_,rfl,⟨mf,by omega,by clear d4 c7 c6 aq ae aa;omega⟩,by clear d4 d1 c7 c6 aq af ae;omega⟩
      ·rw[cf c5];have k0:k1=0:=by clear aq af ae aa;omega
       subst k0;rw[bj rfl,ua]at bl;rw[ua]at gt;refine cg (zI ey ?_);have mb:=Cl bl a1 gt;by_cases d1:ai+1=b.size
       ·rw[cp (by simpa using d1)];exact ck ⟨ag,.inl ⟨_,_,rfl,mC d1 mb⟩⟩
       rw[cf (by simpa using d1)]
       clear c5 aq
       obtain⟨x,ex,ex'⟩:=b6 (a:=a) (i:=ah) (by omega);have Dx:=au x (cb ex');refine cg (zI ex ?_);refine cg (gal O (an.1.trans hk) Dx (fun j h1 h2=>bD j (by clear h1 d1 ae aa;omega)) (fun i j x z h1 h2 h3 e1 e2=>cL O hb ay h2 (aS.mp e1) (aS.mp e2)) (by omega) fun k2 aj f1 f2=>?_);dsimp only;have bb:=DP (k:=k2) mb fun j z h1 h2 e x2 be=>by
        have:=f1 j z h1 h2 (aS.mpr e);obtain⟨j2,as,a8⟩:=i4 be;have Dz:=ay z (cb e);have l1:lt z x=true:=by simpa[bey]using this
        exact O.tr z x x2 Dz Dx (au x2 (cb a8)) (O.asym z x Dz Dx l1) (cL O ha au as ex' a8)
       have gb:∀z∈b.toList.drop (ai+1+k2),lt z x=false:=fun z mz=>by
        obtain⟨j2,as,ez⟩:=i4 mz;have a0:=(List.getElem?_eq_some_iff.mp ez).1;have:=f2 j2 z as (by simp at a0;(clear as aj d1 af ae aa;omega)) (aS.mpr ez);simpa[bey]using this
       by_cases d2:k2>0
       ·rw[cp d2];by_cases d3:ai+1+k2=b.size
        ·rw[cp (by simpa using d3)];exact ck ⟨ag,.inl ⟨_,_,rfl,mC d3 bb⟩⟩
        rw[cf (by simpa using d3)];refine cg (zI ex ?_);have mf:=tV bb ex' gb;by_cases d4:ah+1+1=a.size
        ·rw[cp (by simpa using d4)];exact ck ⟨ag,.inl ⟨_,_,rfl,jN hl d4 mf⟩⟩
        rw[cf (by simpa using d4)];refine az _ _ _ _ _ _ ?_ ?_
        ·exact ck ⟨ag,.inr ⟨_,_,_,_,_,_,rfl,⟨mf,by clear d3 d2 aj d1 af aa;omega,by clear d4 d2 d1 ae aa;omega⟩,by clear d4 d3 d2 aj d1 af ae;omega⟩⟩
        ·exact ck ⟨ag,_,_,_,_,_,_,rfl,⟨mf,by clear d3 d2 aj d1 af aa;omega,by clear d4 d2 d1 ae aa;omega⟩,by clear d4 d3 d2 aj d1 af ae;omega⟩
       ·rw[cf d2];have bf:k2=0:=by clear aj d1 af ae aa;omega
        subst bf;have ee:∀o:Array cy,o++b.extract (ai+1) (ai+1+0)=o:=fun o=>by rw[lL,Array.append_empty]
        rw[ee,ua]at bb;rw[ua]at gb;refine cg (zI ex ?_);have mf:=tV bb ex' gb;by_cases d4:ah+1+1=a.size
        ·rw[cp (by simpa using d4)];exact ck ⟨ag,.inl ⟨_,_,rfl,jN hl d4 mf⟩⟩
        rw[cf (by simpa using d4)];refine az _ _ _ _ _ _ ?_ ?_
        ·exact ck ⟨ag,.inr ⟨_,_,_,_,_,_,rfl,⟨mf,by clear d2 aj d1 af aa;omega,by clear d4 d2 aj ae aa;omega⟩,by clear d4 d2 aj d1 af ae;omega⟩⟩
        ·exact ck ⟨ag,_,_,_,_,_,_,rfl,⟨mf,by clear d2 aj d1 af aa;omega,by clear d4 d2 aj ae aa;omega⟩,by clear d4 d2 aj d1 af ae;omega⟩
def flt(lt:cy->cy->Bool):cy->cy->Bool:=fun x y=>lt y x
theorem MDone.rev{L0 l:List cy}(h:MDone (flt lt) L0 l):MDone lt L0 l.reverse:=by
 refine⟨(List.reverse_perm l).trans h.1,?_⟩;unfold SrtL;rw[List.pairwise_reverse];exact h.2
theorem wM{l:List cy}{i:Nat}{x:cy}(h:l[i]?=some x):(l.take (i+1)).reverse=x::(l.take i).reverse:=by
 rw[take_add_one,h];simp
theorem jG{l:List cy}{i:Nat}{y:cy}(h:y∈(l.take i).reverse):∃j,j<i/\l[j]?=some y:=by
 obtain⟨j,hj⟩:=mem_iff_getElem?.mp (mem_reverse.mp h);rw[getElem?_take]at hj;split at hj
 ·exact⟨j,by assumption,hj⟩
 ·cases hj
theorem lV(a:Array cy)(n:Nat):(a.extract 0 n).toList=a.toList.take n:=by
 rw[oo,jr];simp
theorem CK{l:List cy}(h:SrtL lt l)(n:Nat):SrtL (flt lt) (l.take n).reverse:=by
 unfold SrtL;rw[List.pairwise_reverse];exact List.Pairwise.sublist (List.take_sublist n l) h
section
variable {a b out:Array cy}{na nb k:Nat}{L0:List cy}
theorem xJ(m:MI (flt lt) L0 out.toList (a.toList.take (na+1)).reverse (b.toList.take nb).reverse){x:cy}(hx:a.toList[na]?=some x)(h:∀y∈(b.toList.take nb).reverse,lt x y=false):MI (flt lt) L0 (out.push x).toList (a.toList.take na).reverse (b.toList.take nb).reverse:=by
 rw[wM hx]at m;have:=m.takeA h;simpa using this
theorem DU(m:MI (flt lt) L0 out.toList (a.toList.take na).reverse (b.toList.take (nb+1)).reverse){y:cy}(hy:b.toList[nb]?=some y)(h:∀x∈(a.toList.take na).reverse,lt y x=false):MI (flt lt) L0 (out.push y).toList (a.toList.take na).reverse (b.toList.take nb).reverse:=by
 rw[wM hy]at m;have:=m.takeB h;simpa using this
theorem tW{n:Nat}(hn:n=na+1)(m:MI (flt lt) L0 out.toList (a.toList.take n).reverse (b.toList.take nb).reverse){x:cy}(hx:a.toList[na]?=some x)(h:∀y∈(b.toList.take nb).reverse,lt x y=false):MI (flt lt) L0 (out.push x).toList (a.toList.take na).reverse (b.toList.take nb).reverse:=by
 subst hn;exact xJ m hx h
theorem CQ{n:Nat}(hn:n=nb+1)(m:MI (flt lt) L0 out.toList (a.toList.take na).reverse (b.toList.take n).reverse){y:cy}(hy:b.toList[nb]?=some y)(h:∀x∈(a.toList.take na).reverse,lt y x=false):MI (flt lt) L0 (out.push y).toList (a.toList.take na).reverse (b.toList.take nb).reverse:=by
 subst hn;exact DU m hy h
theorem Fk{l:List cy}{i n:Nat}(h:i<=n):(l.take n).reverse=((l.drop i).take (n-i)).reverse++(l.take i).reverse:=by
 rw[<- List.reverse_append];congr 1;have:=List.take_add (l:=l) (i:=i) (j:=n-i);rw[show i+(n-i)=n by omega]at this;exact this
theorem Ad(a:Array cy){i n:Nat}(h:i<=n):(a.extract i n).reverse.toList=((a.toList.drop i).take (n-i)).reverse:=by
 rw[Array.toList_reverse,oo,jr]
theorem NV(m:MI (flt lt) L0 out.toList (a.toList.take na).reverse (b.toList.take nb).reverse)(hk:k<=na)(h:∀j x,k<=j->j<na->a.toList[j]?=some x->∀y∈(b.toList.take nb).reverse,lt x y=false):MI (flt lt) L0 (out++(a.extract k na).reverse).toList (a.toList.take k).reverse (b.toList.take nb).reverse:=by
 rw[je,Ad a hk];rw[Fk hk]at m;refine MI.takesA m fun x mx y my=>?_;obtain⟨j,h1,h2,e⟩:=uH (mem_reverse.mp mx);exact h j x h1 (by omega) e y my
theorem Al(m:MI (flt lt) L0 out.toList (a.toList.take na).reverse (b.toList.take nb).reverse)(hk:k<=nb)(h:∀j y,k<=j->j<nb->b.toList[j]?=some y->∀x∈(a.toList.take na).reverse,lt y x=false):MI (flt lt) L0 (out++(b.extract k nb).reverse).toList (a.toList.take na).reverse (b.toList.take k).reverse:=by
 rw[je,Ad b hk];rw[Fk hk]at m;refine MI.takesB m fun x mx y my=>?_;obtain⟨j,h1,h2,e⟩:=uH (mem_reverse.mp mx);exact h j x h1 yw e y my
theorem kI(h0:na=0)(m:MI (flt lt) L0 out.toList (a.toList.take na).reverse (b.toList.take nb).reverse):MDone lt L0 (a.extract 0 na++b.extract 0 nb++out.reverse).toList:=by
 subst h0;have h2:MI (flt lt) L0 (out.toList++(b.toList.take nb).reverse) [] []:=MI.takesB (B:=[]) (by simpa using m) (fun y my x mx=>by cases mx);have:=h2.doneA.rev;rw[je,je,lV,lV,Array.toList_reverse];simpa using this
theorem Bl(h0:nb=0)(m:MI (flt lt) L0 out.toList (a.toList.take na).reverse (b.toList.take nb).reverse):MDone lt L0 (a.extract 0 na++b.extract 0 nb++out.reverse).toList:=by
 subst h0;have h1:MI (flt lt) L0 out.toList (a.toList.take na).reverse []:=by simpa using m
 have:=h1.doneA.rev;rw[je,je,lV,lV,Array.toList_reverse];simpa using this
theorem lT(hf:∀y,b[0]?=some y->∀x∈a.toList,lt x y=false)(h1:nb=1)(aa:1<=b.size)(m:MI (flt lt) L0 out.toList (a.toList.take na).reverse (b.toList.take nb).reverse):MDone lt L0 (b.extract 0 nb++a.extract 0 na++out.reverse).toList:=by
 subst h1;obtain⟨y,e1,e2⟩:=b6 (a:=b) (i:=0) yw;have ed:(b.toList.take (0+1)).reverse=[y]:=by rw[wM e2];simp
 rw[show (1:Nat)=0+1 from rfl,ed]at m;have h2:MI (flt lt) L0 (out.toList++(a.toList.take na).reverse) [] [y]:=MI.takesA (A:=[]) (by simpa using m) fun x mx z mz=>by
  rw[mem_singleton.mp mz];exact hf y e1 x (qp (mem_reverse.mp mx))
 have h3:MI (flt lt) L0 (out.toList++(a.toList.take na).reverse++[y]) [] []:=MI.takesB (B:=[]) (by simpa using h2) (fun y my x mx=>by cases mx);have:=h3.doneA.rev;have ee:b.toList.take 1=[y]:=by have:=congrArg List.reverse ed;simpa using this
 rw[je,je,lV,lV,Array.toList_reverse,ee];simpa using this
end
structure HInv(lt:cy->cy->Bool)(a b out:Array cy)(na nb:Nat):Prop where
 mi:MI (flt lt) (a.toList++b.toList) out.toList (a.toList.take na).reverse (b.toList.take nb).reverse
 a0:0<na
 a1:na<=a.size
 b0:1<nb
 b1:nb<=b.size
theorem Mu(O:LtOk prog w A E s kd D lt){a b:Array cy}{Q:Array cy->gy->Prop}{st:gy}(hk:kindOf st=kd)(aw:∀x∈a.toList,D x)(au:∀x∈b.toList,D x)(ha:SrtL lt a.toList)(hb:SrtL lt b.toList)(ag:1<=a.size)(ae:1<=b.size)
  (h0:∀y,b[0]?=some y->∀x∈a.toList,lt x y=false) (hl:∀x,a[a.size-1]?=some x->∀y∈b.toList,lt x y=false)
  (q:∀(out:Array cy) st',MDone lt (a.toList++b.toList) out.toList->sameSt st st'->Q out st'):wpS (model prog w) A E s (HC a b) Q st:=by
 refine cg (wpS_lift (mw ⟨rfl,?_⟩));obtain⟨x0,bf,bg⟩:=b6 (a:=a) (i:=a.size-1) (by omega);refine cg (zI bf ?_);have av:∀{τ:Type} (P:Prop) (_:Decidable P) (f g:StateT gy Sem τ) (Q':τ->gy->Prop) (st':gy),wpS (model prog w) A E s f Q' st'->wpS (model prog w) A E s g Q' st'->wpS (model prog w) A E s (if P then f else g) Q' st':=fun P _ f g Q' st' h1 h2=>by
  split
  ·exact h1
  ·exact h2
 have ta:a.toList.take a.size=a.toList:=rc yv;have tb:b.toList.take b.size=b.toList:=rc yv;have m0:MI (flt lt) (a.toList++b.toList) (#[]:Array cy).toList (a.toList.take a.size).reverse (b.toList.take b.size).reverse:=by
  refine⟨?_,List.Pairwise.nil,(fun x m=>by cases m),CK ha _,CK hb _⟩;rw[ta,tb];exact(List.reverse_perm _).append (List.reverse_perm _)
 have m1:MI (flt lt) (a.toList++b.toList) (#[x0]:Array cy).toList (a.toList.take (a.size-1)).reverse (b.toList.take b.size).reverse:=by
  have m2:=m0;rw[show a.size=a.size-1+1 by omega]at m2;have:=xJ m2 bg fun y my=>hl x0 bf y (qp (mem_reverse.mp my));simpa using this
 by_cases c1:a.size-1=0
 ·rw[cp (by simpa using c1)];exact ck (q _ _ (kI c1 m1) sameSt.rfl')
 rw[cf (by simpa using c1)];by_cases c2:b.size=1
 ·rw[cp (by simpa using c2)];exact ck (q _ _ (lT h0 c2 ae m1) sameSt.rfl')
 rw[cf (by simpa using c2)];refine cg (sr ?_);refine cg (kq (ik (a:=0)
  (I:=fun k c st'=>sameSt st st'/\∃out na nb mg,c=(none,na,nb,out,mg)/\HInv lt a b out na nb/\na+nb+k<a.size+b.size)
  (Q:=fun c st'=>sameSt st st'/\∃(r:Array cy),∃rest,c=(some r,rest)/\MDone lt (a.toList++b.toList) r.toList) ?step ?fin ⟨sameSt.rfl',#[x0],a.size-1,b.size,_,rfl,⟨m1,by omega,by clear c2 c1 ae ag;omega,by omega,by clear c2 c1 ae ag;omega⟩,by omega⟩) ?post)
 case fin=>
  rintro c st' ⟨a9,out,na,nb,mg,rfl,hm,a2⟩
  (clear c2 c1 ae ag;omega)
 case post=>
  rintro c st' ⟨a9,r,rest,rfl,hd⟩;exact ck (q r st' hd a9)
 case step=>
  rintro k c st' _ az ⟨a9,out,na,nb,mg,rfl,hm,a2⟩;refine cg (kq (ik (a:=0)
   (I:=fun j c st'=>sameSt st st'/\∃an am al ac bc,c=(none,am,al,an,ac,bc)/\HInv lt a b an am al/\am+al+j<=na+nb)
   (Q:=fun c st'=>sameSt st st'/\((∃(r:Array cy),∃rest,c=(some r,rest)/\MDone lt (a.toList++b.toList) r.toList)\/∃an am al ac bc,c=(none,am,al,an,ac,bc)/\HInv lt a b an am al/\am+al<na+nb)) ?step1 ?fin1 ⟨a9,out,na,nb,0,0,rfl,hm,by clear a2 az c2 c1 ae ag;omega⟩) ?post1)
  case fin1=>
   rintro c a8 ⟨ao,an,am,al,ac,bc,rfl,ax,as⟩;have:=ax.a0
   (clear this az c2 c1 ae ag;omega)
  case step1=>
   rintro j c a8 _ hj ⟨ao,an,am,al,ac,bc,rfl,ax,as⟩;have z1:=ax.a0;have z2:=ax.a1;have z3:=ax.b0;have z4:=ax.b1;obtain⟨y,ey,a3⟩:=b6 (a:=b) (i:=al-1) (by clear z3 z2 z1 as hj a2 az c2 c1 ag;omega);obtain⟨x,ex,ex'⟩:=b6 (a:=a) (i:=am-1) (by clear z4 z3 z1 as hj a2 az c2 c1 ae;omega);have Dx:=aw x (cb ex');have Dy:=au y (cb a3);have ai:kindOf a8=kd:=ao.1.trans hk;have mm:=ax.mi;refine cg (zI ey (cg (zI ex (cg (O.ask y x a8 _ Dy Dx ai ?_)))))
   clear az a2 c2 c1 hj ag
   cases hlt2:lt y x with
   |true=>
    have ms:MI (flt lt) (a.toList++b.toList) (an.push x).toList (a.toList.take (am-1)).reverse (b.toList.take al).reverse:=by
     rw[show am=am-1+1 by clear z4 z3 z2 as ae;omega]at mm;exact xJ mm ex' fun z mz=>by
      obtain⟨j2,ay,ez⟩:=jG mz;exact O.tr z y x (au z (cb ez)) Dy Dx (cL O hb au (by clear z4 z3 z2 z1 as ae;omega) ez a3) (O.asym y x Dy Dx hlt2)
    simp only[if_true];refine cg (zI ex ?_);by_cases c3:am-1=0
    ·rw[cp (by simpa using c3)];exact ck ⟨ao,.inl ⟨_,_,rfl,kI c3 ms⟩⟩
    ·rw[cf (by simpa using c3)];have ar:HInv lt a b (an.push x) (am-1) al:=⟨ms,by clear z4 z3 z2 z1 as ae;omega,by clear c3 z4 z3 z1 as ae;omega,z3,z4⟩;refine av _ _ _ _ _ _ ?_ ?_
     ·exact ck ⟨ao,.inr ⟨_,_,_,_,_,rfl,ar,by clear c3 z4 z3 z2 ae;omega⟩⟩
     ·exact ck ⟨ao,_,_,_,_,_,rfl,ar,by clear c3 z4 z3 z2 ae;omega⟩
   |false=>
    have ms:MI (flt lt) (a.toList++b.toList) (an.push y).toList (a.toList.take am).reverse (b.toList.take (al-1)).reverse:=by
     rw[show al=al-1+1 by clear z4 z2 z1 as ae;omega]at mm;exact DU mm a3 fun z mz=>by
      obtain⟨j2,ay,ez⟩:=jG mz;exact O.tr z x y (aw z (cb ez)) Dx Dy (cL O ha aw (by clear z4 z3 z2 z1 as ae;omega) ez ex') hlt2
    simp only[fm,if_false];refine cg (zI ey ?_);by_cases c3:al-1=1
    ·rw[cp (by simpa using c3)];exact ck ⟨ao,.inl ⟨_,_,rfl,lT h0 c3 ae ms⟩⟩
    ·rw[cf (by simpa using c3)];have ar:HInv lt a b (an.push y) am (al-1):=⟨ms,z1,z2,by clear z4 z2 z1 as ae;omega,by clear c3 z3 z2 z1 as ae;omega⟩;refine av _ _ _ _ _ _ ?_ ?_
     ·exact ck ⟨ao,.inr ⟨_,_,_,_,_,rfl,ar,by clear c3 z4 z2 z1 ae;omega⟩⟩
     ·exact ck ⟨ao,_,_,_,_,_,rfl,ar,by clear c3 z4 z2 z1 ae;omega⟩
  case post1=>
   rintro c a8 ⟨ao,hc⟩;rcases hc with ⟨r,rest,rfl,hd⟩|⟨an,am,al,ac,bc,rfl,ax,as⟩
   ·dsimp only;exact ck ⟨ao,_,_,rfl,hd⟩
   ·dsimp only;refine cg (wpS_lift (mw ⟨rfl,?_⟩));refine cg (kq (ik (a:=0)
     (I:=fun j c st'=>sameSt st st'/\∃ak ap af a4 a6 a5,c=(none,ap,af,ak,a4,a6,a5)/\HInv lt a b ak ap af/\ap+af+j<=am+al)
     (Q:=fun c st'=>sameSt st st'/\((∃(r:Array cy),∃rest,c=(some r,rest)/\MDone lt (a.toList++b.toList) r.toList)\/∃ak ap af a4 a6 a5,c=(none,ap,af,ak,a4,a6,a5)/\HInv lt a b ak ap af/\ap+af<=am+al)) ?step2 ?av ⟨ao,an,am,al,_,_,_,rfl,ax,by clear as a2 az c2 c1 ae ag;omega⟩) ?post2)
    case av=>
     rintro c be ⟨aq,ak,ap,af,a4,a6,a5,rfl,ar,aa⟩;have:=ar.a0;have:=ax.a1;have:=ax.b1
     (clear this az c2 c1 ae ag;omega)
    case post2=>
     rintro c be ⟨aq,hc⟩;rcases hc with ⟨r,rest,rfl,hd⟩|⟨ak,ap,af,a4,a6,a5,rfl,ar,aa⟩
     ·dsimp only;exact ck ⟨aq,_,_,rfl,hd⟩
     ·dsimp only;refine cg (lv (ck ⟨⟨aq.1,aq.2.1,aq.2.2.1,aq.2.2.2⟩,ak,ap,af,_,rfl,ar,by clear az c2 c1 ae ag;omega⟩))
    case step2=>
     rintro j c be _ hj ⟨aq,ak,ap,af,a4,a6,a5,rfl,ar,aa⟩;have z1:=ar.a0;have z2:=ar.a1;have z3:=ar.b0;have z4:=ar.b1;obtain⟨y,ey,a3⟩:=b6 (a:=b) (i:=af-1) (by clear z3 z2 z1 aa hj as a2 az c2 c1 ag;omega);have Dy:=au y (cb a3);have aD:∀j,j<a.size->∃x,a[j]?=some x/\D x:=fun j hj=>by
      obtain⟨x,e,e'⟩:=b6 (a:=a) hj;exact⟨x,e,aw x (cb e')⟩
     have bD:∀j,j<b.size->∃x,b[j]?=some x/\D x:=fun j hj=>by
      obtain⟨x,e,e'⟩:=b6 (a:=b) hj;exact⟨x,e,au x (cb e')⟩
     dsimp only;refine fin3 (C:=?C3) ?f3 ?g3 ?h3
     case f3=>intro h;generalize a4-1=m0;revert m0;exact h
     case g3=>intro h;generalize a4=m0;revert m0;exact h
     intro m0
     clear az a2 c2 as c1 hj
     all_goals
      refine cg (lv ?_);refine cg (zI ey ?_);refine cg (gal O (aq.1.trans hk) Dy (fun j h1 h2=>aD j (by clear h1 z4 z3 z1 aa ae ag;omega)) (fun i j x z h1 h2 h3 e1 e2=>cL O ha aw h2 (aS.mp e1) (aS.mp e2)) (by clear z4 z3 z2 aa ae ag;omega) fun k1 aj g1 g2=>?_);dsimp only;have ah:sameSt st be:=aq;have bl:MI (flt lt) (a.toList++b.toList) (ak++(a.extract k1 ap).reverse).toList (a.toList.take k1).reverse (b.toList.take af).reverse:=NV ar.mi aj fun j x h1 h2 e z mz=>by
       clear aa z4 aj ae ag z1 z3 z2
       have:=g2 j x (by omega) (by omega) (aS.mpr e);obtain⟨j2,ay,ez⟩:=jG mz;have Dx:=aw x (cb e);have l1:lt y x=true:=by simpa[bey]using this
       exact O.tr z y x (au z (cb ez)) Dy Dx (cL O hb au (by omega) ez a3) (O.asym y x Dy Dx l1)
      have gt:∀x∈(a.toList.take k1).reverse,lt y x=false:=fun x mx=>by
       obtain⟨j2,ay,ex⟩:=jG mx;have:=g1 j2 x (by clear ay aj z4 z3 z2 z1 aa ae ag;omega) (by clear aj z4 z3 z2 z1 aa ae ag;omega) (aS.mpr ex);simpa[bey]using this
      by_cases c5:ap-k1>0
      ·rw[cp c5];by_cases c6:k1=0
       ·rw[cp (by simpa using c6)];exact ck ⟨ah,.inl ⟨_,_,rfl,kI c6 bl⟩⟩
       rw[cf (by simpa using c6)];refine cg (zI ey ?_);have mb:MI (flt lt) (a.toList++b.toList) ((ak++(a.extract k1 ap).reverse).push y).toList (a.toList.take k1).reverse (b.toList.take (af-1)).reverse:=CQ (by clear c6 c5 aj z4 z2 z1 aa ae ag;omega) bl a3 gt;by_cases d1:af-1=1
       ·rw[cp (by simpa using d1)];exact ck ⟨ah,.inl ⟨_,_,rfl,lT h0 d1 ae mb⟩⟩
       rw[cf (by simpa using d1)];obtain⟨x,ex,ex'⟩:=b6 (a:=a) (i:=k1-1) (by clear d1 c6 c5 z4 z3 z1 aa ae;omega);have Dx:=aw x (cb ex');refine cg (zI ex ?_);refine cg (gal O (aq.1.trans hk) Dx (fun j h1 h2=>bD j (by clear h1 d1 c6 c5 aj z3 z2 z1 aa ae ag;omega)) (fun i j x z h1 h2 h3 e1 e2=>cL O hb au h2 (aS.mp e1) (aS.mp e2)) (by clear d1 c6 c5 aj z4 z2 z1 aa ae ag;omega) fun k2 ai f1 f2=>?_);dsimp only;have bb:=Al (k:=k2) mb ai fun j z h1 h2 e x2 ba=>by
        clear c5 aa z4 aj ae ai ag z1 z3 c6 d1 z2
        have:=f2 j z (by omega) (by omega) (aS.mpr e);obtain⟨j2,ay,a7⟩:=jG ba;have Dz:=au z (cb e);have l1:lt z x=false:=by simpa[bey]using this
        exact O.tr x2 x z (aw x2 (cb a7)) Dx Dz (cL O ha aw (by omega) a7 ex') l1
       have gb:∀z∈(b.toList.take k2).reverse,lt x z=false:=fun z mz=>by
        obtain⟨j2,ay,ez⟩:=jG mz;have:=f1 j2 z (by clear ay ai d1 c6 c5 aj z4 z3 z2 z1 aa ae ag;omega) (by clear ai d1 c6 c5 aj z4 z3 z2 z1 aa ae ag;omega) (aS.mpr ez);have l1:lt z x=true:=by simpa[bey]using this
        exact O.asym z x (au z (cb ez)) Dx l1
       by_cases d2:af-1-k2>0
       ·rw[cp d2];by_cases d3:k2=1
        ·rw[cp (by simpa using d3)];exact ck ⟨ah,.inl ⟨_,_,rfl,lT h0 d3 ae bb⟩⟩
        rw[cf (by simpa using d3)];by_cases d5:k2=0
        ·rw[cp (by simpa using d5)];exact ck ⟨ah,.inl ⟨_,_,rfl,Bl d5 bb⟩⟩
        rw[cf (by simpa using d5)];refine cg (zI ex ?_);have mf:MI (flt lt) (a.toList++b.toList) (((ak++(a.extract k1 ap).reverse).push y++(b.extract k2 (af-1)).reverse).push x).toList (a.toList.take (k1-1)).reverse (b.toList.take k2).reverse:=tW (by clear d5 d3 d2 ai d1 c5 aj z4 z3 z2 z1 aa ae ag;omega) bb ex' gb;by_cases d4:k1-1=0
        ·rw[cp (by simpa using d4)];exact ck ⟨ah,.inl ⟨_,_,rfl,kI d4 mf⟩⟩
        rw[cf (by simpa using d4)]
        clear d2 c5 ae ag z3 c6 d1
        refine av _ _ _ _ _ _ ?_ ?_
        ·exact ck ⟨ah,.inr ⟨_,_,_,_,_,_,rfl,⟨mf,by clear d5 d3 ai aj z4 z2 z1 aa;omega,by clear d4 d5 d3 ai z4 z1 aa;omega,by clear d4 ai aj z4 z2 z1 aa;omega,by clear d4 d5 d3 aj z2 z1 aa;omega⟩,by clear d4 d5 d3 z4 z2 z1;omega⟩⟩
        ·exact ck ⟨ah,_,_,_,_,_,_,rfl,⟨mf,by clear d5 d3 ai aj z4 z2 z1 aa;omega,by clear d4 d5 d3 ai z4 z1 aa;omega,by clear d4 ai aj z4 z2 z1 aa;omega,by clear d4 d5 d3 aj z2 z1 aa;omega⟩,by clear d4 d5 d3 z4 z2;omega⟩
       ·rw[cf d2];have bd:k2=af-1:=by clear d1 c6 c5 aj z4 z3 z2 z1 aa ae ag;omega
        subst bd;have ee:∀o:Array cy,o++(b.extract (af-1) (af-1)).reverse=o:=fun o=>by
         have:b.extract (af-1) (af-1+0) = #[]:=lL b _;rw[ua]at this;rw[this];simp
        rw[ee]at bb;refine cg (zI ex ?_);have mf:MI (flt lt) (a.toList++b.toList) (((ak++(a.extract k1 ap).reverse).push y).push x).toList (a.toList.take (k1-1)).reverse (b.toList.take (af-1)).reverse:=tW (by clear d2 ai d1 c5 aj z4 z3 z2 z1 aa ae ag;omega) bb ex' gb;by_cases d4:k1-1=0
        ·rw[cp (by simpa using d4)];exact ck ⟨ah,.inl ⟨_,_,rfl,kI d4 mf⟩⟩
        rw[cf (by simpa using d4)]
        clear d2 c5 ae ai ag c6
        refine av _ _ _ _ _ _ ?_ ?_
        ·exact ck ⟨ah,.inr ⟨_,_,_,_,_,_,rfl,⟨mf,by clear d1 aj z4 z3 z2 z1 aa;omega,by clear d4 d1 z4 z3 z1 aa;omega,by clear d4 aj z4 z2 z1 aa;omega,by clear d4 d1 aj z3 z2 z1 aa;omega⟩,by clear d4 d1 z4 z3 z2 z1;omega⟩⟩
        ·exact ck ⟨ah,_,_,_,_,_,_,rfl,⟨mf,by clear d1 aj z4 z3 z2 z1 aa;omega,by clear d4 d1 z4 z3 z1 aa;omega,by clear d4 aj z4 z2 z1 aa;omega,by clear d4 d1 aj z3 z2 z1 aa;omega⟩,by clear d4 d1 z4 z3 z2;omega⟩
      ·rw[cf c5];have k0:k1=ap:=by clear z4 z3 z2 z1 aa ae ag;omega
       subst k0;have bh:∀o:Array cy,o++(a.extract k1 k1).reverse=o:=fun o=>by
        have:a.extract k1 (k1+0) = #[]:=lL a k1;rw[ua]at this;rw[this];simp
       rw[bh]at bl;refine cg (zI ey ?_);have mb:MI (flt lt) (a.toList++b.toList) (ak.push y).toList (a.toList.take k1).reverse (b.toList.take (af-1)).reverse:=CQ (by clear c5 aj z2 z1 aa z4 ae ag;omega) bl a3 gt;by_cases d1:af-1=1
       ·rw[cp (by simpa using d1)];exact ck ⟨ah,.inl ⟨_,_,rfl,lT h0 d1 ae mb⟩⟩
       rw[cf (by simpa using d1)];obtain⟨x,ex,ex'⟩:=b6 (a:=a) (i:=k1-1) (by clear d1 c5 aj z1 aa z4 z3 ae;omega);have Dx:=aw x (cb ex');refine cg (zI ex ?_)
       clear c5 aj ag
       refine cg (gal O (aq.1.trans hk) Dx (fun j h1 h2=>bD j (by clear h1 d1 z2 z1 aa z3 ae;omega)) (fun i j x z h1 h2 h3 e1 e2=>cL O hb au h2 (aS.mp e1) (aS.mp e2)) (by clear d1 z2 z1 aa z4 ae;omega) fun k2 ai f1 f2=>?_);dsimp only;have bb:=Al (k:=k2) mb ai fun j z h1 h2 e x2 ba=>by
        clear aa z4 ae ai z1 z3 d1 z2
        have:=f2 j z (by omega) (by omega) (aS.mpr e);obtain⟨j2,ay,a7⟩:=jG ba;have Dz:=au z (cb e);have l1:lt z x=false:=by simpa[bey]using this
        exact O.tr x2 x z (aw x2 (cb a7)) Dx Dz (cL O ha aw (by omega) a7 ex') l1
       have gb:∀z∈(b.toList.take k2).reverse,lt x z=false:=fun z mz=>by
        obtain⟨j2,ay,ez⟩:=jG mz;have:=f1 j2 z (by clear ay ai d1 z2 z1 aa z4 z3 ae;omega) (by clear ai d1 z2 z1 aa z4 z3 ae;omega) (aS.mpr ez);have l1:lt z x=true:=by simpa[bey]using this
        exact O.asym z x (au z (cb ez)) Dx l1
       by_cases d2:af-1-k2>0
       ·rw[cp d2];by_cases d3:k2=1
        ·rw[cp (by simpa using d3)];exact ck ⟨ah,.inl ⟨_,_,rfl,lT h0 d3 ae bb⟩⟩
        rw[cf (by simpa using d3)];by_cases d5:k2=0
        ·rw[cp (by simpa using d5)];exact ck ⟨ah,.inl ⟨_,_,rfl,Bl d5 bb⟩⟩
        rw[cf (by simpa using d5)];refine cg (zI ex ?_);have mf:MI (flt lt) (a.toList++b.toList) ((ak.push y++(b.extract k2 (af-1)).reverse).push x).toList (a.toList.take (k1-1)).reverse (b.toList.take k2).reverse:=tW (by clear d5 d3 d2 ai d1 z2 aa z4 z3 ae;omega) bb ex' gb;by_cases d4:k1-1=0
        ·rw[cp (by simpa using d4)];exact ck ⟨ah,.inl ⟨_,_,rfl,kI d4 mf⟩⟩
        rw[cf (by simpa using d4)]
        clear d2 ae z1 d1
        refine av _ _ _ _ _ _ ?_ ?_
        ·exact ck ⟨ah,.inr ⟨_,_,_,_,_,_,rfl,⟨mf,by clear d5 d3 ai z2 aa z4 z3;omega,by clear d4 d5 d3 ai aa z4 z3;omega,by clear d4 ai z2 aa z4 z3;omega,by clear d4 d5 d3 z2 aa z3;omega⟩,by clear d4 d5 d3 z2 z4 z3;omega⟩⟩
        ·exact ck ⟨ah,_,_,_,_,_,_,rfl,⟨mf,by clear d5 d3 ai z2 aa z4 z3;omega,by clear d4 d5 d3 ai aa z4 z3;omega,by clear d4 ai z2 aa z4 z3;omega,by clear d4 d5 d3 z2 aa z3;omega⟩,by clear d4 d5 d3 z2 z4;omega⟩
       ·rw[cf d2];have bd:k2=af-1:=by clear d1 z2 z1 aa z4 z3 ae;omega
        subst bd;have ee:∀o:Array cy,o++(b.extract (af-1) (af-1)).reverse=o:=fun o=>by
         have:b.extract (af-1) (af-1+0) = #[]:=lL b _;rw[ua]at this;rw[this];simp
        rw[ee]at bb;refine cg (zI ex ?_);have mf:MI (flt lt) (a.toList++b.toList) ((ak.push y).push x).toList (a.toList.take (k1-1)).reverse (b.toList.take (af-1)).reverse:=tW (by clear d2 ai d1 z2 aa z4 z3 ae;omega) bb ex' gb;by_cases d4:k1-1=0
        ·rw[cp (by simpa using d4)];exact ck ⟨ah,.inl ⟨_,_,rfl,kI d4 mf⟩⟩
        rw[cf (by simpa using d4)]
        clear d2 ae ai z1
        refine av _ _ _ _ _ _ ?_ ?_
        ·exact ck ⟨ah,.inr ⟨_,_,_,_,_,_,rfl,⟨mf,by clear d1 z2 aa z4 z3;omega,by clear d4 d1 aa z4 z3;omega,by clear d4 z2 aa z4;omega,by clear d4 d1 z2 aa z3;omega⟩,by clear d4 d1 z2 z4 z3;omega⟩⟩
        ·exact ck ⟨ah,_,_,_,_,_,_,rfl,⟨mf,by clear d1 z2 aa z4 z3;omega,by clear d4 d1 aa z4 z3;omega,by clear d4 z2 aa z4;omega,by clear d4 d1 z2 aa z3;omega⟩,by clear d4 d1 z2 z4;omega⟩
def G(xs:Array cy)(i:Nat):cy:=(xs[i]?).getD (.none,.none)
theorem vE{xs:Array cy}{i:Nat}(h:i<xs.size):xs[i]?=some (G xs i):=by unfold G;simp[h]
def Sg(lt:cy->cy->Bool)(xs:Array cy)(lo hi:Nat):Prop:=∀i j,lo<=i->i<=j->j<hi->lt (G xs j) (G xs i)=false
structure Tb(kd:tz)(D:cy->Prop)(a₀:Array cy)(lo:Nat)(st0 st:gy):Prop where
 kd:kindOf st=kd
 fl:si st=none
 pm:(cn st).Perm a₀
 pe:df st=df st0
 lo:∀i,i<lo->G (cn st) i=G (cn st0) i
 d:∀x∈a₀.toList,D x
section
variable {a₀:Array cy}{lo:Nat}{st0 st st':gy}
theorem Tb.size(h:Tb kd D a₀ lo st0 st):(cn st).size=a₀.size:=h.pm.size_eq
theorem Tb.at(h:Tb kd D a₀ lo st0 st){i:Nat}(hi:i<a₀.size):(cn st)[i]?=some (G (cn st) i):=vE (by rw[h.size];exact hi)
theorem Tb.dd(h:Tb kd D a₀ lo st0 st){i:Nat}(hi:i<a₀.size):D (G (cn st) i):=by
 have e:=h.at hi;have m:G (cn st) i∈(cn st).toList:=cb (by rw[<- aS];exact e);exact h.d _ ((Array.perm_iff_toList_perm.mp h.pm).mem_iff.mp m)
theorem fF(O:LtOk prog w A E s kd D lt)(h:Tb kd D a₀ lo st0 st){i j:Nat}{Q:Option Bool->gy->Prop}(hi:i<a₀.size)(hj:j<a₀.size)(q:Q (some (lt (G (cn st) i) (G (cn st) j))) st):wpS (model prog w) A E s (ltAt' i j) Q st:=by
 rw[ltAt'_eq];refine cg (sr ?_);refine cg (zI (h.at hi) (cg (zI (h.at hj) ?_)));exact O.ask _ _ _ _ (h.dd hi) (h.dd hj) h.kd q
theorem kR{xs:Array cy}{i j k:Nat}(hj:j<=xs.size):G (mirror xs i j ((j-i)/2)) k=if i<=k/\k<j then G xs (i+j-1-k)else G xs k:=by
 unfold G;rw[getElem?_mirror_all hj];split<;>rfl
theorem vQ{xs:Array cy}{src d k:Nat}(hs:src<xs.size)(hd:d<=src):G (bubble xs src d) k=if k=src-d then G xs src else if src-d<k/\k<=src then G xs (k-1)else G xs k:=by
 unfold G;rw[getElem?_bubble hs d hd];split
 ·rfl
 ·split<;>rfl
theorem Tb.mirror(h:Tb kd D a₀ lo st0 st){i j:Nat}(hi:lo<=i)(hj:j<=a₀.size):Tb kd D a₀ lo st0 (oq st (mirror (cn st) i j ((j-i)/2))):=by
 refine⟨h.kd,h.fl,(mirror_perm _ _ _ _).trans h.pm,h.pe,fun k hk=>?_,h.d⟩;show G (PyProof.Rows.mirror (cn st) i j ((j-i)/2)) k=_;rw[kR (by rw[h.size];exact hj),cf yw];exact h.lo k hk
theorem Tb.bubble(h:Tb kd D a₀ lo st0 st){src d:Nat}(hs:src<a₀.size)(hd:d<=src)(hl:lo<=src-d):Tb kd D a₀ lo st0 (oq st (bubble (cn st) src d)):=by
 refine⟨h.kd,h.fl,(bubble_perm _ _ _).trans h.pm,h.pe,fun k hk=>?_,h.d⟩;show G (PyProof.Rows.bubble (cn st) src d) k=_;rw[vQ (by rw[h.size];exact hs) hd,cf yw,cf yw];exact h.lo k hk
theorem gU{i j:Nat}{Q:Unit->gy->Prop}(q:Q () (oq st (mirror (cn st) i j ((j-i)/2)))):wpS (model prog w) A E s (reverseSlice' i j) Q st:=by
 rw[reverseSlice'_eq];exact lv q
theorem Sg.more(O:LtOk prog w A E s kd D lt)(h:Tb kd D a₀ lo st0 st){l n:Nat}(hn:n<a₀.size)(hl:l<n)(hs:Sg lt (cn st) l n)(h1:lt (G (cn st) n) (G (cn st) (n-1))=false):Sg lt (cn st) l (n+1):=fun i j hi z hj=>by
 by_cases e:j<n
 ·exact hs i j hi z e
 ·have ej:j=n:=yw
  subst ej;by_cases e2:i=j
  ·rw[e2];exact O.irr (h.dd hn)
  ·exact O.tr _ (G (cn st) (j-1)) _ (h.dd yw) (h.dd yw) (h.dd hn) (hs i (j-1) hi yw yw) h1
theorem Sg.one(O:LtOk prog w A E s kd D lt)(h:Tb kd D a₀ lo st0 st){l:Nat}(hn:l<a₀.size):Sg lt (cn st) l (l+1):=fun i j hi z hj=>by
 have e1:i=l:=by omega
 have e2:j=l:=by omega
 rw[e1,e2];exact O.irr (h.dd hn)
def Fg(lt:cy->cy->Bool)(xs:Array cy)(lo hi:Nat):Prop:=∀i j,lo<=i->i<=j->j<hi->lt (G xs i) (G xs j)=false
theorem tT{xs:Array cy}{l n:Nat}(hn:n<=xs.size)(hs:Fg lt xs l n):Sg lt (mirror xs l n ((n-l)/2)) l n:=fun i j hi z hj=>by
 rw[kR hn,kR hn,cp (by omega),cp (by omega)];exact hs _ _ (by omega) (by omega) (by omega)
end
def Eg(lt:cy->cy->Bool)(xs:Array cy)(lo hi:Nat):Prop:=∀i j,lo<=i->i<hi->lo<=j->j<hi->lt (G xs i) (G xs j)=false
theorem rT{xs:Array cy}{l i n:Nat}(hn:n<=xs.size)(hl:l<=i)(hf:Fg lt xs l n)(he:Eg lt xs i n):Fg lt (mirror xs i n ((n-i)/2)) l n:=fun p q hp z hq=>by
 rw[kR hn,kR hn]
 clear hl hn
 by_cases h1:i<=p
 ·rw[cp (by omega),cp (by omega)];exact he _ _ (by omega) (by omega) (by omega) (by omega)
 ·rw[cf (by omega)];by_cases h2:i<=q
  ·rw[cp (by omega)];exact hf _ _ hp (by omega) (by omega)
  ·rw[cf (by clear h1 hq z hp;omega)];exact hf p q hp z hq
theorem wT{xs:Array cy}{i n k:Nat}(hn:n<=xs.size)(hk:n<=k):G (mirror xs i n ((n-i)/2)) k=G xs k:=by
 rw[kR hn,cf (by omega)]
theorem x8{xs:Array cy}{i n:Nat}(hn:n<=xs.size)(hi:i<n):G (mirror xs i n ((n-i)/2)) (n-1)=G xs i:=by
 rw[kR hn,cp (by omega)];congr 1
 (omega)
theorem jE(O:LtOk prog w A E s kd D lt){a₀:Array cy}{lo:Nat}{st0 st:gy}(h:Tb kd D a₀ lo st0 st){l n:Nat}(hn:n<a₀.size)(hl:l<n)(hs:Fg lt (cn st) l n)(h1:lt (G (cn st) (n-1)) (G (cn st) n)=false):Fg lt (cn st) l (n+1):=fun i j hi z hj=>by
 by_cases e:j<n
 ·exact hs i j hi z e
 ·have ej:j=n:=yw
  subst ej;by_cases e2:i=j
  ·rw[e2];exact O.irr (h.dd hn)
  ·exact O.tr _ (G (cn st) (j-1)) _ (h.dd hn) (h.dd yw) (h.dd yw) h1 (hs i (j-1) hi yw yw)
theorem Mv(O:LtOk prog w A E s kd D lt){a₀:Array cy}{lo af:Nat}{st0 st:gy}{Q:Option Nat->gy->Prop}(h:Tb kd D a₀ lo st0 st)(hn:lo+af<=a₀.size)(h1:1<=af)
  (q:∀m st',Tb kd D a₀ lo st0 st'->1<=m->m<=af->Sg lt (cn st') lo (lo+m)->Q (some m) st'):wpS (model prog w) A E s (countRun' lo af) Q st:=by
 refine cg (kq (ik (a:=1)
  (I:=fun k c st'=>st'=st/\c=(none,k)/\Sg lt (cn st) lo (lo+k))
  (Q:=fun c st'=>st'=st/\∃n,c=(none,n)/\1<=n/\n<=af/\Sg lt (cn st) lo (lo+n)/\(n=af\/lt (G (cn st) (lo+n)) (G (cn st) (lo+n-1))=true)) ?step ?fin ⟨rfl,rfl,Sg.one O h yw⟩) ?post)
 case fin=>
  rintro c st' ⟨rfl,rfl,hs⟩;rw[show max 1 af=af by omega]at hs ⊢;exact⟨rfl,af,rfl,h1,dw _,hs,.inl rfl⟩
 case step=>
  rintro k c st' z aa ⟨rfl,rfl,hs⟩;refine cg (fF O h (i:=lo+k) (j:=lo+k-1) (by omega) (by omega) ?_);cases e:lt (G (cn st') (lo+k)) (G (cn st') (lo+k-1))with
  |true=>
   simp only[if_true];exact ck ⟨rfl,k,rfl,z,by omega,hs,.inr e⟩
  |false=>
   simp only[fm,if_false];refine ck ⟨rfl,rfl,?_⟩;exact Sg.more (n:=lo+k) O h (by omega) (by omega) hs e
 case post=>
  rintro c st' ⟨rfl,n,rfl,n1,n2,hs,am⟩;dsimp only;by_cases hnn:n=af
  ·rw[cp (by simpa using hnn)];exact ck (q n st' h n1 n2 hs)
  rw[cf (by simpa using hnn)];have aq:=am.resolve_left hnn;by_cases hgt:n>1
  ·rw[cp hgt];refine cg (fF O h (i:=lo) (j:=lo+n-1) (by clear hgt hnn am n2 n1;omega) (by clear hgt hnn am n1;omega) ?_);cases e0:lt (G (cn st') lo) (G (cn st') (lo+n-1))with
   |true=>
    simp only[if_true];exact ck (q n st' h n1 n2 hs)
   |false=>
    simp only[fm,if_false];have hsz:lo+n<=(cn st').size:=by rw[h.size];(clear hgt hnn am n1 h1;omega)
    have hal:∀p q,lo<=p->p<lo+n->lo<=q->q<lo+n->lt (G (cn st') p) (G (cn st') q)=false:=fun p q p1 p2 q1 q2=>by
     have s1:=hs lo q (dw _) q1 q2
     clear am hnn hgt hsz
     have s2:=hs p (lo+n-1) p1 (by clear q2 q1 p1 n2 n1 h1 hn;omega) (by clear q2 q1 p2 p1 n2 h1 hn;omega);have d0:=h.dd (i:=lo) (by clear q2 q1 p2 p1 n2 n1;omega);have dn:=h.dd (i:=lo+n-1) (by clear q2 q1 p2 p1 n1;omega);have dp:=h.dd (i:=p) (by clear q2 q1 p1 n1 h1;omega);have dq:=h.dd (i:=q) (by clear q1 p2 p1 n1 h1;omega);have s3:=hs q (lo+n-1) q1 (by clear q1 p2 p1 n2 n1 h1 hn;omega) (by clear q2 q1 p2 p1 n2 h1 hn;omega);have s4:=hs lo p (dw _) p1 p2;by_cases hpq:p<=q
     ·exact O.tr _ (G (cn st') lo) _ dq d0 dp (O.tr _ (G (cn st') (lo+n-1)) _ dq dn d0 s3 e0) s4
     ·exact hs q p q1 (by clear q2 q1 p2 p1 n2 n1 h1 hn;omega) p2
    have hT:=h.mirror (i:=lo) (j:=lo+n) (dw _) (by clear hsz hgt hnn am n1 h1;omega);have hF:Fg lt (cn (oq st' (mirror (cn st') lo (lo+n) ((lo+n-lo)/2)))) lo (lo+(n+1)):=by
     clear am hgt
     have au:Fg lt (cn st') lo (lo+n):=fun p q p1 pq q2=>hal p q p1 (by clear p1 hsz hnn n2 n1 h1 hn;omega) (by clear q2 hsz hnn n2 n1 h1 hn;omega) q2;have as:=rT hsz (dw _) au fun p q p1 p2 q1 q2=>hal p q p1 p2 q1 q2;refine jE (n:=lo+n) O hT (by omega) (by clear hsz hnn n2 h1 hn;omega) as ?_;show lt (G (mirror (cn st') lo (lo+n) _) (lo+n-1)) (G (mirror (cn st') lo (lo+n) _) (lo+n))=false;rw[wT hsz (dw _),x8 hsz (by clear hsz hnn n2 h1 hn;omega)];have d1:=h.dd (i:=lo+n) (by omega);have d2:=h.dd (i:=lo+n-1) (by omega);exact O.tr _ _ _ d1 d2 (h.dd (by clear hsz hnn n2 n1;omega)) (O.asym _ _ d1 d2 aq) e0
    refine cg (gU ?_)
    revert hT hF
    generalize (oq st' (mirror (cn st') lo (lo+n) ((lo+n-lo)/2)))=stA;intro hT hF;refine cg (wpS_lift (mw ⟨rfl,?_⟩));refine cg (kq (ik (a:=n+1)
     (I:=fun k c st'=>Tb kd D a₀ lo st0 st'/\∃ae,c=(none,k,ae)/\Fg lt (cn st') lo (lo+k)/\ae+1<=k/\Eg lt (cn st') (lo+k-(ae+1)) (lo+k))
     (Q:=fun c st'=>Tb kd D a₀ lo st0 st'/\∃m ae,c=(none,m,ae)/\1<=m/\m<=af/\Fg lt (cn st') lo (lo+m)/\ae+1<=m/\Eg lt (cn st') (lo+m-(ae+1)) (lo+m)) ?step2 ?fin2 ⟨hT,0,rfl,hF,by clear hsz hgt hnn am n2 n1 h1 hn;omega,fun i j h1 h2 h3 h4=>by
      have e1:i=j:=by clear hsz hgt hnn am n2 n1 hn;omega
      rw[e1];exact O.irr (hT.dd (by clear e1 h3 h2 h1 hsz hgt am n1;omega))⟩) ?post2)
    case fin2=>
     rintro c ah ⟨ag,ae,rfl,al,ac,ak⟩;rw[show max (n+1) af=af by clear ac hsz hgt am n1 h1 hn;omega]at al ac ak ⊢;exact⟨ag,af,ae,rfl,by clear ac hsz hgt hnn am n2 n1 hn;omega,dw _,al,ac,ak⟩
    case step2=>
     rintro k c ah z aa ⟨ag,ae,rfl,al,ac,ak⟩
     clear am n2 hnn hgt n1
     refine cg (fF O ag (i:=lo+k) (j:=lo+k-1) (by clear ac z hsz h1;omega) (by clear ac z hsz h1;omega) ?_);have hsz:lo+k<=(cn ah).size:=by rw[ag.size];(clear ac z hsz h1;omega)
     cases e:lt (G (cn ah) (lo+k)) (G (cn ah) (lo+k-1))with
     |true=>
      simp only[if_true];by_cases hq0:ae>0
      ·rw[cp hq0];have ao:=ag.mirror (i:=lo+k-(ae+1)) (j:=lo+k) (by clear hq0 hsz aa z h1 hn;omega) (by clear hq0 hsz ac z h1;omega);refine cg (gU (ck ⟨ao,0,rfl,?_,by clear hq0 hsz ac aa z h1 hn;omega,fun i j h1 h2 h3 h4=>by
        have e1:i=j:=by clear hq0 hsz ac aa z hn;omega
        rw[e1];exact O.irr (ao.dd (by clear e1 h3 h2 h1 hq0 hsz ac z;omega))⟩))
       refine jE (n:=lo+k) O ao (by clear hq0 hsz ac z h1;omega) (by clear hq0 hsz ac aa h1 hn;omega) (rT hsz (by clear hq0 hsz aa z h1 hn;omega) al ak) ?_;show lt (G (mirror (cn ah) (lo+k-(ae+1)) (lo+k) _) (lo+k-1)) (G (mirror (cn ah) (lo+k-(ae+1)) (lo+k) _) (lo+k))=false;rw[wT hsz (dw _),x8 hsz (by clear hq0 hsz ac aa h1 hn;omega)]
       clear ac hsz hq0 h1
       have d1:=ag.dd (i:=lo+k) (by omega);have d2:=ag.dd (i:=lo+k-1) (by omega);have d3:=ag.dd (i:=lo+k-(ae+1)) (by omega);exact O.tr _ _ _ d1 d2 d3 (O.asym _ _ d1 d2 e) (ak _ _ (by omega) (by omega) (by omega) (by omega))
      ·rw[cf hq0]
       clear ac hsz hq0
       refine ck ⟨ag,0,rfl,?_,by clear aa z h1 hn;omega,fun i j h1 h2 h3 h4=>by
        have e1:i=j:=by omega
        rw[e1];exact O.irr (ag.dd (by clear e1 h3 h2 h1 z;omega))⟩
       exact jE (n:=lo+k) O ag (by omega) (by omega) al (O.asym _ _ (ag.dd (by omega)) (ag.dd (by omega)) e)
     |false=>
      simp only[fm,if_false];refine cg (fF O ag (i:=lo+k-1) (j:=lo+k) (by clear hsz ac z h1;omega) (by clear hsz ac z h1;omega) ?_);cases e2:lt (G (cn ah) (lo+k-1)) (G (cn ah) (lo+k))with
      |true=>
       simp only[if_true];exact ck ⟨ag,k,ae,rfl,by clear hsz ac aa h1 hn;omega,by clear hsz ac z h1 hn;omega,al,ac,ak⟩
      |false=>
       simp only[fm,if_false];refine ck ⟨ag,ae+1,rfl,jE (n:=lo+k) O ag (by clear hsz ac z h1;omega) (by clear hsz ac aa h1 hn;omega) al e2,by clear hsz aa z h1 hn;omega,fun i j h1 h2 h3 h4=>?_⟩
       clear ac hsz
       have dk:=ag.dd (i:=lo+k) (by clear h4 h3 h2 h1 z;omega);have dl:=ag.dd (i:=lo+k-1) (by clear h4 h3 h2 h1 z;omega);by_cases z1:i=lo+k
       ·rw[z1];by_cases z2:j=lo+k
        ·rw[z2];exact O.irr dk
        ·exact O.tr _ _ _ (ag.dd (by clear z2 z1 h3 h2 h1 z;omega)) dl dk (ak _ _ (by clear z2 z1 h4 h3 h2 h1 aa z hn;omega) (by clear z2 z1 h4 h3 h2 h1 aa hn;omega) (by clear z2 z1 h4 h2 h1 aa z hn;omega) (by clear z1 h3 h2 h1 aa z hn;omega)) e
       ·by_cases z2:j=lo+k
        ·rw[z2];exact O.tr _ _ _ dk dl (ag.dd (by clear z2 z1 h4 h3 h1 z;omega)) e2 (ak _ _ (by clear z2 z1 h4 h3 h2 aa z hn;omega) (by clear z2 h4 h3 h1 aa z hn;omega) (by clear z2 z1 h4 h3 h2 h1 aa z hn;omega) (by clear z2 z1 h4 h3 h2 h1 aa hn;omega))
        ·exact ak i j (by clear z2 z1 h4 h3 h2 aa z hn;omega) (by clear z2 h4 h3 h1 aa z hn;omega) (by clear z2 z1 h4 h2 h1 aa z hn;omega) (by clear z1 h3 h2 h1 aa z hn;omega)
    case post2=>
     rintro c ah ⟨ag,m,ae,rfl,m1,m2,al,ac,ak⟩
     clear am n2 hnn hgt n1
     have hsz:lo+m<=(cn ah).size:=by rw[ag.size];(clear ac m1 hsz h1;omega)
     have ao:=ag.mirror (i:=lo+m-(ae+1)) (j:=lo+m) (by clear hsz m2 m1 h1 hn;omega) (by clear hsz ac m1 h1;omega);have ap:=rT hsz (by clear hsz m2 m1 h1 hn;omega) al ak;by_cases hq0:ae>0
     ·rw[cp hq0];refine cg (gU ?_);have ai:=ao.mirror (i:=lo) (j:=lo+m) (dw _) (by clear hq0 hsz ac m1 h1;omega);have an:Sg lt (cn (oq (oq ah (mirror (cn ah) (lo+m-(ae+1)) (lo+m) ((lo+m-(lo+m-(ae+1)))/2))) (mirror (mirror (cn ah) (lo+m-(ae+1)) (lo+m) ((lo+m-(lo+m-(ae+1)))/2)) lo (lo+m) ((lo+m-lo)/2)))) lo (lo+m):=tT (by rw[mirror_size];exact hsz) ap;refine cg (gU ?_)
      revert ai an
      generalize (oq (oq ah (mirror (cn ah) (lo+m-(ae+1)) (lo+m) ((lo+m-(lo+m-(ae+1)))/2))) (mirror (mirror (cn ah) (lo+m-(ae+1)) (lo+m) ((lo+m-(lo+m-(ae+1)))/2)) lo (lo+m) ((lo+m-lo)/2)))=st4;intro ai an;refine cg (kq (ik (a:=m)
       (I:=fun k c st'=>st'=st4/\c=(none,k)/\Sg lt (cn st4) lo (lo+k))
       (Q:=fun c st'=>st'=st4/\∃n,c=(none,n)/\1<=n/\n<=af/\Sg lt (cn st4) lo (lo+n)) ?step3 ?fin3 ⟨rfl,rfl,an⟩) ?post3)
      case fin3=>
       rintro c aj ⟨rfl,rfl,hs⟩;rw[show max m af=af by clear hq0 hsz ac m1 h1 hn;omega]at hs ⊢;exact⟨rfl,af,rfl,by clear hq0 hsz ac m2 m1 hn;omega,dw _,hs⟩
      case step3=>
       rintro k c aj z aa ⟨rfl,rfl,hs⟩
       clear ac hsz hq0 m2 h1
       refine cg (fF O ai (i:=lo+k) (j:=lo+k-1) (by omega) (by omega) ?_);cases e:lt (G (cn aj) (lo+k)) (G (cn aj) (lo+k-1))with
       |true=>
        simp only[if_true];exact ck ⟨rfl,k,rfl,by omega,by omega,hs⟩
       |false=>
        simp only[fm,if_false];exact ck ⟨rfl,rfl,Sg.more (n:=lo+k) O ai (by omega) (by omega) hs e⟩
      case post3=>
       rintro c aj ⟨rfl,n',rfl,p1,p2,hs⟩;exact ck (q n' aj ai p1 p2 hs)
     ·rw[cf hq0];have ai:=ag.mirror (i:=lo) (j:=lo+m) (dw _) (by clear hq0 hsz ac m1 h1;omega);have an:Sg lt (cn (oq ah (mirror (cn ah) lo (lo+m) ((lo+m-lo)/2)))) lo (lo+m):=tT hsz al;refine cg (gU ?_)
      revert ai an
      generalize (oq ah (mirror (cn ah) lo (lo+m) ((lo+m-lo)/2)))=st4;intro ai an;refine cg (kq (ik (a:=m)
       (I:=fun k c st'=>st'=st4/\c=(none,k)/\Sg lt (cn st4) lo (lo+k))
       (Q:=fun c st'=>st'=st4/\∃n,c=(none,n)/\1<=n/\n<=af/\Sg lt (cn st4) lo (lo+n)) ?step3 ?fin3 ⟨rfl,rfl,an⟩) ?post3)
      case fin3=>
       rintro c aj ⟨rfl,rfl,hs⟩;rw[show max m af=af by clear hq0 hsz ac m1 h1 hn;omega]at hs ⊢;exact⟨rfl,af,rfl,by clear hq0 hsz ac m2 m1 hn;omega,dw _,hs⟩
      case step3=>
       rintro k c aj z aa ⟨rfl,rfl,hs⟩
       clear ac hsz hq0 m2 h1
       refine cg (fF O ai (i:=lo+k) (j:=lo+k-1) (by omega) (by omega) ?_);cases e:lt (G (cn aj) (lo+k)) (G (cn aj) (lo+k-1))with
       |true=>
        simp only[if_true];exact ck ⟨rfl,k,rfl,by omega,by omega,hs⟩
       |false=>
        simp only[fm,if_false];exact ck ⟨rfl,rfl,Sg.more (n:=lo+k) O ai (by omega) (by omega) hs e⟩
      case post3=>
       rintro c aj ⟨rfl,n',rfl,p1,p2,hs⟩;exact ck (q n' aj ai p1 p2 hs)
  ·rw[cf hgt];have ar:n=1:=by clear hnn am n2 h1 hn;omega
   have hT:=h;have hF:Fg lt (cn st') lo (lo+(n+1)):=by
    subst ar
    clear am hgt n2 n1
    refine jE (n:=lo+1) O h yw (by omega) (fun p q p1 pq q2=>?_) (O.asym _ _ (h.dd yw) (h.dd (by omega)) aq);have e1:p=q:=by omega
    rw[e1];exact O.irr (h.dd (by clear e1 pq p1 hnn;omega))
   refine cg (wpS_lift (mw ⟨rfl,?_⟩))
   clear am hgt n1 ar
   refine cg (kq (ik (a:=n+1)
    (I:=fun k c st'=>Tb kd D a₀ lo st0 st'/\∃ae,c=(none,k,ae)/\Fg lt (cn st') lo (lo+k)/\ae+1<=k/\Eg lt (cn st') (lo+k-(ae+1)) (lo+k))
    (Q:=fun c st'=>Tb kd D a₀ lo st0 st'/\∃m ae,c=(none,m,ae)/\1<=m/\m<=af/\Fg lt (cn st') lo (lo+m)/\ae+1<=m/\Eg lt (cn st') (lo+m-(ae+1)) (lo+m)) ?step2 ?fin2 ⟨hT,0,rfl,hF,by clear hnn n2 h1 hn;omega,fun i j h1 h2 h3 h4=>by
     have e1:i=j:=by omega
     rw[e1];exact O.irr (hT.dd (by clear e1 h3 h2 h1;omega))⟩) ?post2)
   case fin2=>
    rintro c ah ⟨ag,ae,rfl,al,ac,ak⟩;rw[show max (n+1) af=af by omega]at al ac ak ⊢;exact⟨ag,af,ae,rfl,by clear ac hnn n2 hn;omega,dw _,al,ac,ak⟩
   case step2=>
    rintro k c ah z aa ⟨ag,ae,rfl,al,ac,ak⟩
    clear n2 hnn
    refine cg (fF O ag (i:=lo+k) (j:=lo+k-1) (by omega) (by omega) ?_);have hsz:lo+k<=(cn ah).size:=by rw[ag.size];(omega)
    cases e:lt (G (cn ah) (lo+k)) (G (cn ah) (lo+k-1))with
    |true=>
     simp only[if_true];by_cases hq0:ae>0
     ·rw[cp hq0];have ao:=ag.mirror (i:=lo+k-(ae+1)) (j:=lo+k) (by clear hq0 hsz aa z h1 hn;omega) (by clear hq0 hsz ac z h1;omega);refine cg (gU (ck ⟨ao,0,rfl,?_,by clear hq0 hsz ac aa z h1 hn;omega,fun i j h1 h2 h3 h4=>by
       have e1:i=j:=by clear hq0 hsz ac aa z hn;omega
       rw[e1];exact O.irr (ao.dd (by clear e1 h3 h2 h1 hq0 hsz ac z;omega))⟩))
      refine jE (n:=lo+k) O ao (by clear hq0 hsz ac z h1;omega) (by clear hq0 hsz ac aa h1 hn;omega) (rT hsz (by clear hq0 hsz aa z h1 hn;omega) al ak) ?_;show lt (G (mirror (cn ah) (lo+k-(ae+1)) (lo+k) _) (lo+k-1)) (G (mirror (cn ah) (lo+k-(ae+1)) (lo+k) _) (lo+k))=false;rw[wT hsz (dw _),x8 hsz (by clear hq0 hsz ac aa h1 hn;omega)]
      clear ac hsz hq0 h1
      have d1:=ag.dd (i:=lo+k) (by omega);have d2:=ag.dd (i:=lo+k-1) (by omega);have d3:=ag.dd (i:=lo+k-(ae+1)) (by omega);exact O.tr _ _ _ d1 d2 d3 (O.asym _ _ d1 d2 e) (ak _ _ (by omega) (by omega) (by omega) (by omega))
     ·rw[cf hq0]
      clear ac hsz hq0
      refine ck ⟨ag,0,rfl,?_,by clear aa z h1 hn;omega,fun i j h1 h2 h3 h4=>by
       have e1:i=j:=by omega
       rw[e1];exact O.irr (ag.dd (by clear e1 h3 h2 h1 z;omega))⟩
      exact jE (n:=lo+k) O ag (by omega) (by omega) al (O.asym _ _ (ag.dd (by omega)) (ag.dd (by omega)) e)
    |false=>
     simp only[fm,if_false];refine cg (fF O ag (i:=lo+k-1) (j:=lo+k) (by clear hsz ac z h1;omega) (by clear hsz ac z h1;omega) ?_);cases e2:lt (G (cn ah) (lo+k-1)) (G (cn ah) (lo+k))with
     |true=>
      simp only[if_true];exact ck ⟨ag,k,ae,rfl,by clear hsz ac aa h1 hn;omega,by clear hsz ac z h1 hn;omega,al,ac,ak⟩
     |false=>
      simp only[fm,if_false];refine ck ⟨ag,ae+1,rfl,jE (n:=lo+k) O ag (by clear hsz ac z h1;omega) (by clear hsz ac aa h1 hn;omega) al e2,by clear hsz aa z h1 hn;omega,fun i j h1 h2 h3 h4=>?_⟩
      clear ac hsz
      have dk:=ag.dd (i:=lo+k) (by clear h4 h3 h2 h1 z;omega);have dl:=ag.dd (i:=lo+k-1) (by clear h4 h3 h2 h1 z;omega);by_cases z1:i=lo+k
      ·rw[z1]
       clear h2 z1 h1
       by_cases z2:j=lo+k
       ·rw[z2];exact O.irr dk
       ·exact O.tr _ _ _ (ag.dd (by omega)) dl dk (ak _ _ (by clear z2 h4 h3 aa z hn;omega) (by clear z2 h4 h3 aa hn;omega) (by clear z2 h4 aa z hn;omega) (by clear h3 aa z hn;omega)) e
      ·by_cases z2:j=lo+k
       ·rw[z2];exact O.tr _ _ _ dk dl (ag.dd (by clear z2 z1 h4 h3 h1 z;omega)) e2 (ak _ _ (by clear z2 z1 h4 h3 h2 aa z hn;omega) (by clear z2 h4 h3 h1 aa z hn;omega) (by clear z2 z1 h4 h3 h2 h1 aa z hn;omega) (by clear z2 z1 h4 h3 h2 h1 aa hn;omega))
       ·exact ak i j (by clear z2 z1 h4 h3 h2 aa z hn;omega) (by clear z2 h4 h3 h1 aa z hn;omega) (by clear z2 z1 h4 h2 h1 aa z hn;omega) (by clear z1 h3 h2 h1 aa z hn;omega)
   case post2=>
    rintro c ah ⟨ag,m,ae,rfl,m1,m2,al,ac,ak⟩;have hsz:lo+m<=(cn ah).size:=by rw[ag.size];(clear ac m1 hnn n2 h1;omega)
    have ao:=ag.mirror (i:=lo+m-(ae+1)) (j:=lo+m) (by clear hsz m2 m1 hnn n2 h1 hn;omega) (by clear hsz ac m1 hnn n2 h1;omega);have ap:=rT hsz (by clear hsz m2 m1 hnn n2 h1 hn;omega) al ak
    clear n2 ac hnn
    by_cases hq0:ae>0
    ·rw[cp hq0];refine cg (gU ?_);have ai:=ao.mirror (i:=lo) (j:=lo+m) (dw _) (by clear hq0 hsz m1 h1;omega);have an:Sg lt (cn (oq (oq ah (mirror (cn ah) (lo+m-(ae+1)) (lo+m) ((lo+m-(lo+m-(ae+1)))/2))) (mirror (mirror (cn ah) (lo+m-(ae+1)) (lo+m) ((lo+m-(lo+m-(ae+1)))/2)) lo (lo+m) ((lo+m-lo)/2)))) lo (lo+m):=tT (by rw[mirror_size];exact hsz) ap;refine cg (gU ?_)
     revert ai an
     generalize (oq (oq ah (mirror (cn ah) (lo+m-(ae+1)) (lo+m) ((lo+m-(lo+m-(ae+1)))/2))) (mirror (mirror (cn ah) (lo+m-(ae+1)) (lo+m) ((lo+m-(lo+m-(ae+1)))/2)) lo (lo+m) ((lo+m-lo)/2)))=st4;intro ai an;refine cg (kq (ik (a:=m)
      (I:=fun k c st'=>st'=st4/\c=(none,k)/\Sg lt (cn st4) lo (lo+k))
      (Q:=fun c st'=>st'=st4/\∃n,c=(none,n)/\1<=n/\n<=af/\Sg lt (cn st4) lo (lo+n)) ?step3 ?fin3 ⟨rfl,rfl,an⟩) ?post3)
     case fin3=>
      rintro c aj ⟨rfl,rfl,hs⟩;rw[show max m af=af by clear hq0 hsz m1 h1 hn;omega]at hs ⊢;exact⟨rfl,af,rfl,by clear hq0 hsz m2 m1 hn;omega,dw _,hs⟩
     case step3=>
      rintro k c aj z aa ⟨rfl,rfl,hs⟩
      clear hsz hq0 m2 h1
      refine cg (fF O ai (i:=lo+k) (j:=lo+k-1) (by omega) (by omega) ?_);cases e:lt (G (cn aj) (lo+k)) (G (cn aj) (lo+k-1))with
      |true=>
       simp only[if_true];exact ck ⟨rfl,k,rfl,by omega,by omega,hs⟩
      |false=>
       simp only[fm,if_false];exact ck ⟨rfl,rfl,Sg.more (n:=lo+k) O ai (by omega) (by omega) hs e⟩
     case post3=>
      rintro c aj ⟨rfl,n',rfl,p1,p2,hs⟩;exact ck (q n' aj ai p1 p2 hs)
    ·rw[cf hq0];have ai:=ag.mirror (i:=lo) (j:=lo+m) (dw _) (by clear hq0 hsz m1 h1;omega);have an:Sg lt (cn (oq ah (mirror (cn ah) lo (lo+m) ((lo+m-lo)/2)))) lo (lo+m):=tT hsz al;refine cg (gU ?_)
     revert ai an
     generalize (oq ah (mirror (cn ah) lo (lo+m) ((lo+m-lo)/2)))=st4;intro ai an;refine cg (kq (ik (a:=m)
      (I:=fun k c st'=>st'=st4/\c=(none,k)/\Sg lt (cn st4) lo (lo+k))
      (Q:=fun c st'=>st'=st4/\∃n,c=(none,n)/\1<=n/\n<=af/\Sg lt (cn st4) lo (lo+n)) ?step3 ?fin3 ⟨rfl,rfl,an⟩) ?post3)
     case fin3=>
      rintro c aj ⟨rfl,rfl,hs⟩;rw[show max m af=af by clear hq0 hsz m1 h1 hn;omega]at hs ⊢;exact⟨rfl,af,rfl,by clear hq0 hsz m2 m1 hn;omega,dw _,hs⟩
     case step3=>
      rintro k c aj z aa ⟨rfl,rfl,hs⟩
      clear hsz hq0 m2 h1
      refine cg (fF O ai (i:=lo+k) (j:=lo+k-1) (by omega) (by omega) ?_);cases e:lt (G (cn aj) (lo+k)) (G (cn aj) (lo+k-1))with
      |true=>
       simp only[if_true];exact ck ⟨rfl,k,rfl,by omega,by omega,hs⟩
      |false=>
       simp only[fm,if_false];exact ck ⟨rfl,rfl,Sg.more (n:=lo+k) O ai (by omega) (by omega) hs e⟩
     case post3=>
      rintro c aj ⟨rfl,n',rfl,p1,p2,hs⟩;exact ck (q n' aj ai p1 p2 hs)
theorem HZ(O:LtOk prog w A E s kd D lt){a₀:Array cy}{lo n ok:Nat}{st0 st:gy}{Q:Bool->gy->Prop}(h:Tb kd D a₀ lo st0 st)(hn:lo+n<=a₀.size)(h1:1<=ok)(hok:ok<=n)(hs:Sg lt (cn st) lo (lo+ok))
  (q:∀st',Tb kd D a₀ lo st0 st'->Sg lt (cn st') lo (lo+n)->Q true st'):wpS (model prog w) A E s (binarySort' lo n ok) Q st:=by
 refine cg (kq (ik (a:=max ok 1)
  (I:=fun k c st'=>c=(none,())/\Tb kd D a₀ lo st0 st'/\Sg lt (cn st') lo (lo+k))
  (Q:=fun c st'=>c=(none,())/\Tb kd D a₀ lo st0 st'/\Sg lt (cn st') lo (lo+n)) ?step ?fin ⟨rfl,h,by rw[show max ok 1=ok by omega];exact hs⟩) ?post)
 case fin=>
  rintro c st' ⟨rfl,hT,hS⟩;rw[show max (max ok 1) n=n by omega]at hS;exact⟨rfl,hT,hS⟩
 case post=>
  rintro c st' ⟨rfl,hT,hS⟩;exact ck (q st' hT hS)
 case step=>
  rintro k c st' af ae ⟨rfl,hT,hS⟩;have k1:1<=k:=yw
  refine cg (kq (ik (a:=0)
   (I:=fun j c z=>z=st'/\∃l r,c=(none,l,r)/\l<=r/\r<=k/\r-l+j<=k/\(∀i,i<l->lt (G (cn st') (lo+k)) (G (cn st') (lo+i))=false)/\∀i,r<=i->i<k->lt (G (cn st') (lo+k)) (G (cn st') (lo+i))=true)
   (Q:=fun c z=>z=st'/\∃l,c=(none,l,l)/\l<=k/\(∀i,i<l->lt (G (cn st') (lo+k)) (G (cn st') (lo+i))=false)/\∀i,l<=i->i<k->lt (G (cn st') (lo+k)) (G (cn st') (lo+i))=true) ?step2 ?fin2 ⟨rfl,0,k,rfl,yw,yw,yw,fun i hi=>by omega,fun i h1 h2=>by omega⟩) ?post2)
  case fin2=>
   rintro c z ⟨rfl,l,r,rfl,a1,a2,a3,a4,a5⟩;have:l=r:=yw
   subst this;exact⟨rfl,l,rfl,a2,a4,a5⟩
  case step2=>
   rintro j c z _ hj ⟨rfl,l,r,rfl,a1,a2,a3,a4,a5⟩;by_cases hlr:l≥r
   ·rw[cp hlr];have:l=r:=yw
    subst this;exact ck ⟨rfl,l,rfl,a2,a4,a5⟩
   rw[cf hlr];have hm:(l+r)/2<k:=yw
   refine cg (fF O hT (i:=lo+k) (j:=lo+(l+r)/2) yw yw ?_);have dk:=hT.dd (i:=lo+k) yw;have dm:=hT.dd (i:=lo+(l+r)/2) yw;cases e:lt (G (cn z) (lo+k)) (G (cn z) (lo+(l+r)/2))with
   |true=>
    simp only[if_true];refine ck ⟨rfl,l,(l+r)/2,rfl,yw,yw,yw,a4,fun i i1 i2=>?_⟩;have di:=hT.dd (i:=lo+i) yw;cases e2:lt (G (cn z) (lo+k)) (G (cn z) (lo+i))with
    |true=>rfl
    |false=>
     have:=O.tr _ _ _ dm di dk (hS (lo+(l+r)/2) (lo+i) yw yw yw) e2;rw[this]at e;cases e
   |false=>
    simp only[fm,if_false];refine ck ⟨rfl,(l+r)/2+1,r,rfl,yw,yw,yw,fun i i1=>?_,a5⟩;exact O.tr _ _ _ (hT.dd yw) dm dk (hS (lo+i) (lo+(l+r)/2) yw yw yw) e
  case post2=>
   rintro c z ⟨rfl,l,rfl,l1,l2,l3⟩;have aa:lo+k<(cn z).size:=by rw[hT.size];omega
   have hd:lo+k-(lo+l)=k-l:=yw
   refine cg (lv (ck ⟨rfl,hT.bubble (src:=lo+k) (d:=lo+k-(lo+l)) yw yw yw,?_⟩));intro i j hi ac hj;show lt (G (bubble (cn z) (lo+k) (lo+k-(lo+l))) j) (G (bubble (cn z) (lo+k) (lo+k-(lo+l))) i)=false;rw[vQ aa yw,vQ aa yw,show lo+k-(lo+k-(lo+l))=lo+l by omega];have dk:=hT.dd (i:=lo+k) yw;by_cases i1:i=lo+l
   ·rw[cp i1];by_cases j1:j=lo+l
    ·rw[cp j1];exact O.irr dk
    ·rw[cf j1,cp yw];have:=l3 (j-1-lo) yw yw;rw[show lo+(j-1-lo)=j-1 by omega]at this;exact O.asym _ _ dk (hT.dd yw) this
   ·rw[cf i1];by_cases i2:lo+l<i/\i<=lo+k
    ·rw[cp i2,cf yw,cp yw];exact hS _ _ yw yw yw
    ·rw[cf i2];by_cases j1:j=lo+l
     ·rw[cp j1];have:=l2 (i-lo) yw;rw[show lo+(i-lo)=i by omega]at this;exact this
     ·rw[cf j1];by_cases j2:lo+l<j/\j<=lo+k
      ·rw[cp j2];exact hS _ _ yw yw yw
      ·rw[cf j2];exact hS i j hi ac yw
structure Ts(kd:tz)(D:cy->Prop)(a₀:Array cy)(st:gy):Prop where
 kd:kindOf st=kd
 fl:si st=none
 pm:(cn st).Perm a₀
 d:∀x∈a₀.toList,D x
section
variable {a₀:Array cy}{st:gy}
theorem Ts.size(h:Ts kd D a₀ st):(cn st).size=a₀.size:=h.pm.size_eq
theorem Ts.mem(h:Ts kd D a₀ st){x:cy}(m:x∈(cn st).toList):D x:=h.d x ((Array.perm_iff_toList_perm.mp h.pm).mem_iff.mp m)
theorem Ts.at(h:Ts kd D a₀ st){i:Nat}(hi:i<a₀.size):(cn st)[i]?=some (G (cn st) i):=vE (by rw[h.size];exact hi)
theorem Ts.dd(h:Ts kd D a₀ st){i:Nat}(hi:i<a₀.size):D (G (cn st) i):=h.mem (cb (by rw[<- aS];exact h.at hi))
theorem Ts.tb(h:Ts kd D a₀ st)(lo:Nat):Tb kd D a₀ lo st st:=⟨h.kd,h.fl,h.pm,rfl,fun _ _=>rfl,h.d⟩
end
theorem F5{xs:Array cy}{i:Nat}{x:cy}(h:xs.toList[i]?=some x):G xs i=x:=by
 unfold G;rw[aS.mpr h];rfl
theorem BX(s:Nat):∀(l:List cy) (k:Nat) (xs:Array cy),s+k+l.length<=xs.size->((l.zipIdx k).foldl (fun a p=>a.setIfInBounds (s+p.2) p.1) xs).toList=xs.toList.take (s+k)++l++xs.toList.drop (s+k+l.length)
 | [],k,xs,_=>by simp
 |x::l,k,xs,h=>by
  rw[fy]at h;rw[zipIdx_cons,su,BX s l (k+1) _ (by rw[Array.size_setIfInBounds];omega)];simp only[Array.toList_setIfInBounds];have hl:s+k<xs.toList.length:=by simp;omega
  have e1:(xs.toList.set (s+k) x).take (s+(k+1))=xs.toList.take (s+k)++[x]:=by
   rw[show s+(k+1)=s+k+1 by omega,take_add_one,oy hl,List.take_set_of_le (dw _)];rfl
  have e2:(xs.toList.set (s+k) x).drop (s+(k+1)+l.length)=xs.toList.drop (s+k+(x::l).length):=by
   rw[List.drop_set_of_lt yw,fy];congr 1;omega
  rw[e1,e2];simp
theorem IS{x:gy}{Q:PUnit->gy->Prop}{st:gy}(h:Q ⟨⟩ x):wpS (model prog w) A E s (set x:StateT gy Sem PUnit) Q st:=by
 unfold wpS;rw[StateT.run_set];exact cr ⟨rfl,h⟩
theorem mO{xs:Array cy}{lo hi:Nat}(hh:hi<=xs.size){x:cy}(m:x∈(xs.extract lo hi).toList):∃r,lo<=r/\r<hi/\G xs r=x:=by
 rw[oo,jr]at m;obtain⟨j,hj⟩:=mem_iff_getElem?.mp m;rw[getElem?_take]at hj;split at hj
 ·rw[getElem?_drop]at hj;exact⟨lo+j,by omega,by omega,F5 hj⟩
 ·cases hj
theorem vA{xs:Array cy}{lo hi j:Nat}(hh:hi<=xs.size)(hj:j<hi-lo):(xs.extract lo hi)[j]?=some (G xs (lo+j)):=by
 rw[aS,oo,jr,getElem?_take,cp yw,getElem?_drop,<- aS];exact vE yw
theorem Bp{xs:Array cy}{lo hi:Nat}(hh:hi<=xs.size)(h:Sg lt xs lo hi):SrtL lt (xs.extract lo hi).toList:=by
 unfold SrtL;rw[List.pairwise_iff_getElem];intro i j z aa ac;have e1:=cw z;have e2:=cw aa;have hl:(xs.extract lo hi).toList.length=hi-lo:=by simp;omega
 rw[<- aS,vA hh yw]at e1 e2;rw[<- gi e1,<- gi e2];exact h _ _ yw yw yw
theorem GZ(O:LtOk prog w A E s kd D lt){a₀:Array cy}{i sa na pw sb nb az:Nat}{st:gy}{Q:Bool->gy->Prop}(h:Ts kd D a₀ st)(e1:(df st)[i]?=some (sa,na,pw))(e2:(df st)[i+1]?=some (sb,nb,az))(aa:sb=sa+na)(ae:1<=na)(ac:1<=nb)(hsz:sb+nb<=a₀.size)
  (sA:Sg lt (cn st) sa (sa+na)) (sB:Sg lt (cn st) sb (sb+nb))
  (q:∀st',Ts kd D a₀ st'->df st'=((df st).setIfInBounds i (sa,na+nb,pw)).eraseIdxIfInBounds (i+1)->(∀j,j<sa\/sa+na+nb<=j->G (cn st') j=G (cn st) j)->Sg lt (cn st') sa (sa+na+nb)->Q true st'):wpS (model prog w) A E s (mergeAt' i) Q st:=by
 refine cg (sr ?_);simp only[e1,e2];have af:(cn st).size=a₀.size:=h.size;refine cg (IS ?_);refine cg (zI (h.at (i:=sb) (by omega)) ?_);refine cg (gal O (key:=G (cn st) sb) (hint:=0) h.kd (h.dd (by omega)) (fun j h1 h2=>⟨_,h.at (by clear h1 af ac ae;omega),h.dd (by clear h1 af ac ae;omega)⟩) (fun i j x y h1 h2 h3 ex ey=>by
  rw[h.at (by clear h1 af ac ae;omega)]at ex ey;cases ex;cases ey;exact sA i j h1 h2 h3) (by clear af hsz ac aa;omega) fun k hk g1 g2=>?_)
 dsimp only;have aq:∀j,sa<=j->j<sa+k->lt (G (cn st) sb) (G (cn st) j)=false:=fun j h1 h2=>by
  have:=g1 j _ h1 h2 (h.at (by clear h1 af ac ae;omega));simpa[bey]using this
 have ay:∀j,sa+k<=j->j<sa+na->lt (G (cn st) sb) (G (cn st) j)=true:=fun j h1 h2=>by
  have:=g2 j _ h1 h2 (h.at (by clear h1 hk af ac ae;omega));simpa[bey]using this
 by_cases c1:na-k=0
 ·rw[cp (by simpa using c1)];refine ck (q _ ⟨h.kd,h.fl,h.pm,h.d⟩ rfl (fun j _=>rfl) fun p r hp ag hr=>?_);show lt (G (cn st) r) (G (cn st) p)=false
  clear hk ae af
  by_cases z1:r<sa+na
  ·exact sA p r hp ag z1
  ·by_cases z2:p<sa+na
   ·exact O.tr _ _ _ (h.dd (by clear z2 z1 hp c1 ac;omega)) (h.dd (i:=sb) (by clear z2 z1 hr ag hp c1 aa;omega)) (h.dd (by clear z2 z1 ag hp c1 ac;omega)) (aq p hp (by clear z1 hr ag hp hsz ac aa;omega)) (sB sb r (dw _) (by clear z2 hr ag hp c1 hsz ac;omega) (by clear z2 z1 ag hp c1 hsz ac;omega))
   ·exact sB p r (by clear z1 hr ag hp c1 hsz ac;omega) ag (by clear z2 z1 ag hp c1 hsz ac;omega)
 rw[cf (by simpa using c1)];have ei:sa+k+(na-k)-1=sb-1:=by clear c1 af hsz ac ae;omega
 rw[ei];refine cg (zI (h.at (i:=sb-1) (by clear ei c1 hk af ac;omega)) ?_);refine cg (gal O (key:=G (cn st) (sb-1)) (hint:=nb-1) h.kd (h.dd (by clear ei c1 hk af ac;omega)) (fun j h1 h2=>⟨_,h.at (by clear h1 ei c1 hk af ac ae aa;omega),h.dd (by clear h1 ei c1 hk af ac ae aa;omega)⟩) (fun i j x y h1 h2 h3 ex ey=>by
  rw[h.at (by clear h1 ei c1 hk af ac ae aa;omega)]at ex ey;cases ex;cases ey;exact sB i j h1 h2 h3) (by clear ei c1 hk af hsz ae aa;omega) fun m hm f1 f2=>?_)
 dsimp only;have aw:∀j,sb<=j->j<sb+m->lt (G (cn st) j) (G (cn st) (sb-1))=true:=fun j h1 h2=>by
  have:=f1 j _ h1 h2 (h.at (by clear h1 ei c1 hk af ac ae aa;omega));simpa[bey]using this
 have ar:∀j,sb+m<=j->j<sb+nb->lt (G (cn st) j) (G (cn st) (sb-1))=false:=fun j h1 h2=>by
  have:=f2 j _ h1 h2 (h.at (by clear h1 hm ei c1 hk af ac ae aa;omega));simpa[bey]using this
 by_cases c2:m=0
 ·rw[cp (by simpa using c2)];refine ck (q _ ⟨h.kd,h.fl,h.pm,h.d⟩ rfl (fun j _=>rfl) fun p r hp ag hr=>?_);show lt (G (cn st) r) (G (cn st) p)=false
  clear hm hk ac c1 ei af
  by_cases z1:r<sa+na
  ·exact sA p r hp ag z1
  ·by_cases z2:p<sa+na
   ·exact O.tr _ _ _ (h.dd (by clear z2 z1 hp c2 ae;omega)) (h.dd (i:=sb-1) (by clear z2 z1 hr ag hp c2;omega)) (h.dd (by clear z2 z1 ag hp c2 ae;omega)) (sA p (sb-1) hp (by clear z1 hr ag hp c2 hsz ae;omega) (by clear z2 z1 hr ag hp c2 hsz;omega)) (ar r (by clear z2 hr ag hp hsz ae;omega) (by clear z2 z1 ag hp c2 hsz ae;omega))
   ·exact sB p r (by clear z1 hr ag hp c2 hsz ae;omega) ag (by clear z2 z1 ag hp c2 hsz ae;omega)
 rw[cf (by simpa using c2)];have xD:∀x∈((cn st).extract (sa+k) sb).toList,D x:=fun x mx=>by
  obtain⟨r,r1,r2,rfl⟩:=mO (by clear c2 hm ei c1 hk ac ae aa;omega) mx;exact h.dd (by clear r1 c2 hm ei c1 hk af ac ae aa;omega)
 have yD:∀x∈((cn st).extract sb (sb+m)).toList,D x:=fun x mx=>by
  obtain⟨r,r1,r2,rfl⟩:=mO (by clear c2 ei c1 hk ac ae aa;omega) mx;exact h.dd (by clear r1 c2 ei c1 hk af ac ae aa;omega)
 have xS:=Bp (lt:=lt) (xs:=cn st) (lo:=sa+k) (hi:=sb) (by clear c2 hm ei c1 hk ac ae aa;omega) fun p r h1 h2 h3=>sA p r (by clear h3 h2 c2 hm ei c1 hk af hsz ac ae aa;omega) h2 (by clear h2 h1 c2 hm ei c1 hk af hsz ac ae;omega);have yS:=Bp (lt:=lt) (xs:=cn st) (lo:=sb) (hi:=sb+m) (by clear c2 ei c1 hk ac ae aa;omega) fun p r h1 h2 h3=>sB p r (by clear h3 h2 c2 hm ei c1 hk af hsz ac ae aa;omega) h2 (by clear h2 h1 c2 ei c1 hk af hsz ac ae aa;omega);have xz:((cn st).extract (sa+k) sb).size=sb-(sa+k):=by simp;(clear c2 hm ei c1 hk ac ae aa;omega)
 have yz:((cn st).extract sb (sb+m)).size=m:=by simp;(clear xz c2 ei c1 hk ac ae aa;omega)
 have y0:∀y,((cn st).extract sb (sb+m))[0]?=some y->∀x∈((cn st).extract (sa+k) sb).toList,lt x y=false:=fun y ey x mx=>by
  clear hk yz xz c1 ae ei
  rw[vA (by omega) (by clear hm af hsz ac aa;omega)]at ey;cases ey;obtain⟨r,r1,r2,rfl⟩:=mO (by clear c2 hm ac aa;omega) mx;exact O.asym _ _ (h.dd (by clear r2 r1 c2 hm af aa;omega)) (h.dd (by clear r1 c2 hm af ac aa;omega)) (ay r r1 (by clear r1 c2 hm af hsz ac;omega))
 have xl:∀x,((cn st).extract (sa+k) sb)[((cn st).extract (sa+k) sb).size-1]?=some x->∀y∈((cn st).extract sb (sb+m)).toList,lt x y=false:=fun x ex y my=>by
  clear hk yz c2 ac ei
  rw[xz,vA (by clear xz hm c1 ae aa;omega) (by clear xz hm af hsz ae;omega)]at ex;cases ex;obtain⟨r,r1,r2,rfl⟩:=mO (by clear xz c1 ae aa;omega) my;rw[show sa+k+(sb-(sa+k)-1)=sb-1 by clear r2 r1 xz hm af hsz ae;omega];exact O.asym _ _ (h.dd (by clear r1 xz c1 af ae aa;omega)) (h.dd (by clear r2 r1 xz hm c1 af;omega)) (aw r r1 r2)
 have fin:∀(out:Array cy) (st':gy) (ak:gy),MDone lt (((cn st).extract (sa+k) sb).toList++((cn st).extract sb (sb+m)).toList) out.toList->sameSt ak st'->cn ak=cn st->kindOf ak=kindOf st->si ak=si st->df ak=((df st).setIfInBounds i (sa,na+nb,pw)).eraseIdxIfInBounds (i+1) ->
   ∀ai:gy,kindOf ai=kindOf st'->si ai=si st'->df ai=df st'->cn ai=qh (fun a x=>a.setIfInBounds (sa+k+x.snd) x.fst) (cn st') out.toList.zipIdx->Q true ai/\si ai=none:=fun out st' ak hd an av a1 as a2 ai ek ef ep ea=>by
  obtain⟨s1,s2,s3,s4⟩:=an;have ah:out.toList.length=sb-(sa+k)+m:=by
   have:=hd.1.length_eq;rw[gu]at this;simp only[js]at this ⊢
   (clear c2 hm ei c1 hk af hsz ac ae aa;omega)
  rw[s2,av]at ea;have hw:=BX (sa+k) out.toList 0 (cn st) (by clear yz xz c2 ei c1 ac ae;omega);have ht:(cn ai).toList=(cn st).toList.take (sa+k)++out.toList++(cn st).toList.drop (sb+m):=by
   rw[ea];rw[ua]at hw;rw[hw];congr 2
   (clear yz xz c2 hm ei c1 af hsz ac ae;omega)
  have au:(cn ai).Perm (cn st):=by
   rw[Array.perm_iff_toList_perm,ht];have e0:(cn st).toList=(cn st).toList.take (sa+k)++(((cn st).extract (sa+k) sb).toList++((cn st).extract sb (sb+m)).toList)++(cn st).toList.drop (sb+m):=by
    rw[oo,oo,jr,jr,ig,ig,show sb+m-sb=m by clear ah yz xz c2 hm ei c1 hk af hsz ac ae aa;omega];have q1:(cn st).toList.drop (sb+m)=((cn st).toList.drop sb).drop m:=by rw[List.drop_drop]
    rw[q1,ny];have q2:(cn st).toList.drop sb=((cn st).toList.drop (sa+k)).drop (sb-(sa+k)):=by rw[List.drop_drop];congr 1;(clear ah yz xz c2 hm ei c1 af hsz ac ae;omega)
    rw[q2,ny,ny]
   conv=>rhs;rw[e0]
   exact(hd.1.append_left _).append_right _
  have ap:Ts kd D a₀ ai:=⟨ek.trans (s1.trans (a1.trans h.kd)),ef.trans (s4.trans (as.trans h.fl)),au.trans h.pm,h.d⟩;have tl:((cn st).toList.take (sa+k)).length=sa+k:=by rw[nv,js];(clear ah yz xz c2 hm ei c1 ac ae;omega)
  have aj:∀j,j<sa+k\/sb+m<=j->G (cn ai) j=G (cn st) j:=fun j hj=>by
   unfold G;congr 1;rw[<- ow,<- ow,ht]
   clear hm yz c2 xz ac c1 ae hsz ei af
   rcases hj with hj|hj
   ·rw[ig,ft (by omega),getElem?_take,cp hj]
   ·rw[List.getElem?_append_right (by rw[gu,tl,ah];(omega)),gu,tl,ah,getElem?_drop];congr 1
    (omega)
  have ao:∀j,sa+k<=j->j<sb+m->∃z,out.toList[j-(sa+k)]?=some z/\G (cn ai) j=z/\∃r,sa+k<=r/\r<sb+m/\G (cn st) r=z:=fun j h1 h2=>by
   have hj:j-(sa+k)<out.toList.length:=by clear h1 tl yz xz c2 hm ei hk af hsz ac ae;omega
   have ez:=cw hj
   clear yz ah h2 c2 xz ac c1 ae ei
   refine⟨_,ez,F5 ?_,?_⟩
   ·rw[ht,ig,List.getElem?_append_right (by clear hm hk af hsz aa;omega),tl,ft hj];exact ez
   ·have mz:=hd.1.mem_iff.mp (cb ez);rcases mem_append.mp mz with mz|mz
    ·obtain⟨r,r1,r2,r3⟩:=mO (by clear h1 tl hm hk aa;omega) mz;exact⟨r,r1,by clear r1 h1 tl hm hk af hsz aa;omega,r3⟩
    ·obtain⟨r,r1,r2,r3⟩:=mO (by clear h1 tl hk aa;omega) mz;exact⟨r,by clear r2 h1 tl hm af hsz;omega,r2,r3⟩
  refine⟨q ai ap (ep.trans (s3.trans a2)) (fun j hj=>aj j (by clear tl ah yz xz c2 ei c1 hk af hsz ac ae;omega)) fun p r hp ag hr=>?_,ap.fl⟩;have up:∀p q',sa<=p->p<sa+k->sb<=q'->q'<sb+nb->lt (G (cn st) q') (G (cn st) p)=false:=fun p q' p1 p2 q1 q2=>O.tr _ _ _ (h.dd (by clear q2 q1 p1 hr ag hp tl ah yz xz c2 hm ei c1 af ac ae;omega)) (h.dd (i:=sb) (by clear q2 q1 p2 p1 hr ag hp tl ah yz xz c2 hm ei c1 hk af ae aa;omega)) (h.dd (by clear q1 p2 p1 hr ag hp tl ah yz xz c2 hm ei c1 hk af ac ae aa;omega)) (aq p p1 p2) (sB sb q' (dw _) q1 q2);have dn:∀p q',sa<=p->p<sb->sb+m<=q'->q'<sb+nb->lt (G (cn st) q') (G (cn st) p)=false:=fun p q' p1 p2 q1 q2=>O.tr _ _ _ (h.dd (by clear q2 q1 p1 hr ag hp tl ah yz xz c2 hm ei c1 hk af ac ae aa;omega)) (h.dd (i:=sb-1) (by clear q2 q1 p2 p1 hr ag hp tl ah yz xz c2 hm ei c1 hk af ac;omega)) (h.dd (by clear q1 p2 p1 hr ag hp tl ah yz xz c2 hm ei c1 hk af ac ae aa;omega)) (sA p (sb-1) p1 (by clear q2 q1 p1 hr ag hp tl ah yz xz c2 hm ei c1 hk af hsz ac ae aa;omega) (by clear q2 q1 p2 p1 hr ag hp tl ah yz xz c2 hm ei c1 hk af hsz ac;omega)) (ar q' q1 q2)
  clear yz ah c2 xz ac c1 ae hsz ei tl af
  by_cases p1:p<sa+k
  ·rw[aj p (.inl p1)];by_cases r1:r<sa+k
   ·rw[aj r (.inl r1)];exact sA p r hp ag (by clear p1 hr ag hp hm aa;omega)
   clear ag hk
   by_cases r2:sb+m<=r
   ·rw[aj r (.inr r2)];exact up p r hp p1 (by clear r1 p1 hr hp hm aa;omega) (by clear r2 r1 p1 hp hm;omega)
   ·obtain⟨z,_,ez,t,t1,t2,t3⟩:=ao r (by clear r2 p1 hr hp hm aa;omega) (by clear r1 p1 hr hp hm aa;omega);rw[ez,<- t3];by_cases tb:t<sb
    ·exact sA p t hp (by clear tb t2 r2 r1 hr hp hm aa;omega) (by clear t2 t1 r2 r1 p1 hr hp hm;omega)
    ·exact up p t hp p1 (by clear t2 t1 r2 r1 p1 hr hp hm aa;omega) (by clear tb t1 r2 r1 p1 hr hp aa;omega)
  clear hp hm hk
  by_cases p2:sb+m<=p
  ·rw[aj p (.inr p2),aj r (.inr (by clear p1 hr aa;omega))];exact sB p r (by clear p1 hr ag aa;omega) ag (by clear p2 p1 ag;omega)
  obtain⟨z,oz,ez,t,t1,t2,t3⟩:=ao p (by clear p2 hr ag aa;omega) (by clear p1 hr ag aa;omega);by_cases r2:sb+m<=r
  ·rw[aj r (.inr r2),ez,<- t3]
   clear ag p1 p2
   by_cases tb:t<sb
   ·exact dn t r (by clear tb r2 t2 hr aa;omega) tb r2 (by clear tb r2 t2 t1;omega)
   ·exact sB t r (by clear r2 t2 t1 hr aa;omega) (by clear tb t1 hr aa;omega) (by clear tb r2 t2 t1;omega)
  ·obtain⟨z',ax,a0,_⟩:=ao r (by clear r2 t2 t1 p2 hr aa;omega) (by clear t2 t1 p2 p1 hr ag aa;omega);rw[ez,a0];exact cL O hd.2 (fun x mx=>by
    rcases mem_append.mp (hd.1.mem_iff.mp mx)with mx|mx
    ·exact xD x mx
    ·exact yD x mx) (show p-(sa+k)<=r-(sa+k) by clear r2 t2 t1 p2 p1 hr aa;omega) oz ax
 clear hm hk ac ae hsz ei af
 have al:1<=((cn st).extract (sa+k) sb).size:=by rw[xz];(clear yz xz c2;omega)
 have am:1<=((cn st).extract sb (sb+m)).size:=by rw[yz];(clear al yz xz c1 aa;omega)
 have al:1<=((cn st).extract (sa+k) sb).size:=by rw[xz];(clear am al yz xz c2;omega)
 have am:1<=((cn st).extract sb (sb+m)).size:=by rw[yz];(clear al am yz xz c1 aa;omega)
 by_cases c3:na-k<=m
 ·rw[cp c3];refine cg (G9 O h.kd xD yD xS yS al am y0 xl fun out st' hd an=>?_);refine cg (lv (cg (sr ?_)));obtain⟨z1,z2⟩:=fin out st' _ hd an rfl rfl rfl rfl (oq st' (qh (fun a x=>a.setIfInBounds (sa+k+x.snd) x.fst) (cn st') out.toList.zipIdx)) rfl rfl rfl rfl;refine ck ?_;show Q (si (oq st' (qh (fun a x=>a.setIfInBounds (sa+k+x.snd) x.fst) (cn st') out.toList.zipIdx))).isNone (oq st' (qh (fun a x=>a.setIfInBounds (sa+k+x.snd) x.fst) (cn st') out.toList.zipIdx));rw[z2];exact z1
 ·rw[cf c3];refine cg (Mu O h.kd xD yD xS yS al am y0 xl fun out st' hd an=>?_);refine cg (lv (cg (sr ?_)));obtain⟨z1,z2⟩:=fin out st' _ hd an rfl rfl rfl rfl (oq st' (qh (fun a x=>a.setIfInBounds (sa+k+x.snd) x.fst) (cn st') out.toList.zipIdx)) rfl rfl rfl rfl;refine ck ?_;show Q (si (oq st' (qh (fun a x=>a.setIfInBounds (sa+k+x.snd) x.fst) (cn st') out.toList.zipIdx))).isNone (oq st' (qh (fun a x=>a.setIfInBounds (sa+k+x.snd) x.fst) (cn st') out.toList.zipIdx));rw[z2];exact z1
def Stk(lt:cy->cy->Bool)(xs:Array cy):Nat->List (Nat×Nat×Nat)->Nat->Prop
 |s,[],e=>s=e
 |s,r::p,e=>r.1=s/\1<=r.2.1/\Sg lt xs s (s+r.2.1)/\Stk lt xs (s+r.2.1) p e
theorem Stk.le{xs:Array cy}:∀{p:List (Nat×Nat×Nat)}{s e:Nat},Stk lt xs s p e->s+p.length<=e
 | [],s,e,h=>by have:s=e:=h;simp;omega
 |r::p,s,e,h=>by
  obtain⟨h1,h2,h3,h4⟩:=h;have:=Stk.le h4;rw[fy]
  (omega)
theorem Stk.mono{xs ys:Array cy}:∀{p:List (Nat×Nat×Nat)}{s e:Nat},Stk lt xs s p e->(∀i,s<=i->i<e->G ys i=G xs i)->Stk lt ys s p e
 | [],s,e,h,_=>h
 |r::p,s,e,h,k=>by
  obtain⟨h1,h2,h3,h4⟩:=h;have:=Stk.le h4;refine⟨h1,h2,fun i j hi z hj=>?_,Stk.mono h4 fun i hi hj=>k i yw hj⟩;rw[k i yw yw,k j yw yw];exact h3 i j hi z hj
theorem Stk.push{xs:Array cy}{n w':Nat}:∀{p:List (Nat×Nat×Nat)}{s e:Nat},Stk lt xs s p e->1<=n->Sg lt xs e (e+n)->Stk lt xs s (p++[(e,n,w')]) (e+n)
 | [],s,e,h,h1,h2=>by
  have:s=e:=h;subst this;exact⟨rfl,h1,h2,rfl⟩
 |r::p,s,e,h,k1,k2=>by
  obtain⟨h1,h2,h3,h4⟩:=h;exact⟨h1,h2,h3,Stk.push h4 k1 k2⟩
theorem Stk.modLast{xs:Array cy}{pw:Nat}:∀{p:List (Nat×Nat×Nat)}{s e:Nat},Stk lt xs s p e->∀k,Stk lt xs s (p.modify k fun x=>(x.1,x.2.1,pw)) e
 | [],s,e,h,k=>by simpa using h
 |r::p,s,e,h,0=>by
  obtain⟨h1,h2,h3,h4⟩:=h;exact⟨h1,h2,h3,h4⟩
 |r::p,s,e,h,k+1=>by
  obtain⟨h1,h2,h3,h4⟩:=h;exact⟨h1,h2,h3,Stk.modLast h4 k⟩
theorem Stk.at{xs:Array cy}{sa na pw sb nb ae:Nat}:∀{p:List (Nat×Nat×Nat)}{s e i:Nat},Stk lt xs s p e->p[i]?=some (sa,na,pw)->p[i+1]?=some (sb,nb,ae) ->
  s<=sa/\sb=sa+na/\1<=na/\1<=nb/\sb+nb<=e/\Sg lt xs sa (sa+na)/\Sg lt xs sb (sb+nb)/\∀ys:Array cy,(∀j,j<sa\/sa+na+nb<=j->G ys j=G xs j)->Sg lt ys sa (sa+na+nb)->Stk lt ys s ((p.set i (sa,na+nb,pw)).eraseIdx (i+1)) e
 | [],s,e,i,_,h1,_=>by simp at h1
 |r::p,s,e,0,h,e1,e2=>by
  have er:r=(sa,na,pw):=by simpa using e1
  subst er;cases p with
  |nil=>simp at e2
  |cons r2 p=>
   have aj:r2=(sb,nb,ae):=by simpa using e2
   subst aj;obtain⟨h1,h2,h3,h5,h6,h7,h8⟩:=h;have ag:sa=s:=h1;have ai:sb=s+na:=h5;subst ag;have aa:=Stk.le h8;have af:1<=nb:=h6;have z:1<=na:=h2;subst ai;have ah:Stk lt xs (sa+na+nb) p e:=h8;refine⟨dw _,rfl,z,af,by have:sa+na+nb+p.length<=e:=aa;(clear aa h5 h6 z af h1 h2;omega),h3,h7,fun ys k1 k2=>?_⟩;refine⟨rfl,by show 1<=na+nb;(clear aa h5 h6 z h1 h2;omega),?_,?_⟩
   ·show Sg lt ys sa (sa+(na+nb));rw[<- Nat.add_assoc];exact k2
   ·show Stk lt ys (sa+(na+nb)) p e;rw[<- Nat.add_assoc];exact Stk.mono ah fun i hi hj=>k1 i (.inr hi)
 |r::p,s,e,i+1,h,e1,e2=>by
  obtain⟨h1,h2,h3,h4⟩:=h;obtain⟨q1,q2,q3,q4,q5,q6,q7,q8⟩:=Stk.at h4 (by simpa using e1) (by simpa using e2);refine⟨by clear q5 q4 q3 q2 h2 h1;omega,q2,q3,q4,q5,q6,q7,fun ys k1 k2=>?_⟩;refine⟨h1,h2,fun i j hi ac hj=>?_,q8 ys k1 k2⟩;rw[k1 i (.inl (by clear hi q5 q4 q3 q2 h2 h1;omega)),k1 j (.inl (by clear ac hi q5 q4 q3 q2 h2 h1;omega))];exact h3 i j hi ac hj
theorem AL(O:LtOk prog w A E s kd D lt){a₀:Array cy}{i lo:Nat}{st:gy}{Q:Bool->gy->Prop}(h:Ts kd D a₀ st)(hs:Stk lt (cn st) 0 (df st).toList lo)(ac:lo<=a₀.size)(hi:i+1<(df st).size)
  (q:∀st',Ts kd D a₀ st'->Stk lt (cn st') 0 (df st').toList lo->(df st').size+1=(df st).size->(∀j,lo<=j->G (cn st') j=G (cn st) j)->Q true st'):wpS (model prog w) A E s (mergeAt' i) Q st:=by
 obtain⟨⟨sa,na,pw⟩,g1⟩:∃r,(df st)[i]?=some r:=⟨_,Array.getElem?_eq_getElem yw⟩;obtain⟨⟨sb,nb,aa⟩,g2⟩:∃r,(df st)[i+1]?=some r:=⟨_,Array.getElem?_eq_getElem yw⟩;obtain⟨q1,q2,q3,q4,q5,q6,q7,q8⟩:=Stk.at hs (i:=i) (by rw[<- ow]at g1;exact g1) (by rw[<- ow]at g2;exact g2);refine GZ O h g1 g2 q2 q3 q4 yw q6 q7 fun st' hT hp hg hS=>?_;have z:(df st').toList=((df st).toList.set i (sa,na+nb,pw)).eraseIdx (i+1):=by
  rw[hp,Array.eraseIdxIfInBounds,dif_pos (by rw[Array.size_setIfInBounds];exact hi),Array.toList_eraseIdx,Array.toList_setIfInBounds]
 refine q st' hT ?_ ?_ fun j hj=>hg j (.inr yw)
 ·rw[z];exact q8 _ hg hS
 ·have:=congrArg List.length z;rw[List.length_eraseIdx_of_lt (by simp;omega),length_set,js,js]at this;omega
theorem Me(O:LtOk prog w A E s kd D lt){a₀:Array cy}{st:gy}{Q:Unit->gy->Prop}(h:Ts kd D a₀ st)(as:df st = #[])(h2:2<=a₀.size)
  (q:∀st',Ts kd D a₀ st'->Sg lt (cn st') 0 a₀.size->Q () st'):wpS (model prog w) A E s sortRuns' Q st:=by
 rw[sortRuns'_eq];refine cg (sr ?_);dsimp only;rw[h.size];generalize minRun' a₀.size a₀.size 0=mr;refine cg (kq (ik (a:=0)
  (I:=fun k c st'=>∃lo,c=(none,lo)/\k<=lo/\lo<=a₀.size/\Ts kd D a₀ st'/\Stk lt (cn st') 0 (df st').toList lo)
  (Q:=fun c st'=>∃lo,c=(none,lo)/\lo=a₀.size/\Ts kd D a₀ st'/\Stk lt (cn st') 0 (df st').toList lo) ?step ?fin ⟨0,rfl,dw _,ly _,h,by rw[as];rfl⟩) ?post)
 case fin=>
  rintro c st' ⟨lo,rfl,k1,k2,hT,hS⟩;exact⟨lo,rfl,yw,hT,hS⟩
 case post=>
  rintro c st' ⟨lo,rfl,rfl,hT,hS⟩;dsimp only;have hz:=Stk.le hS;rw[js]at hz;refine cg (kq (ik (a:=0)
   (I:=fun k c ac=>c=(none,())/\Ts kd D a₀ ac/\Stk lt (cn ac) 0 (df ac).toList a₀.size/\(df ac).size+k<=a₀.size+0\/c=(none,())/\Ts kd D a₀ ac/\Stk lt (cn ac) 0 (df ac).toList a₀.size/\(df ac).size<=1)
   (Q:=fun c ac=>c=(none,())/\Ts kd D a₀ ac/\Stk lt (cn ac) 0 (df ac).toList a₀.size/\(df ac).size<=1) ?stepF ?finF (.inl ⟨rfl,hT,hS,yw⟩)) ?postF)
  case finF=>
   rintro c ac (⟨rfl,h3,h4,h5⟩|hh)
   ·exact⟨rfl,h3,h4,yw⟩
   ·exact hh
  case stepF=>
   rintro k c ac _ hk hh;have ar:c=(none,())/\Ts kd D a₀ ac/\Stk lt (cn ac) 0 (df ac).toList a₀.size/\((df ac).size+k<=a₀.size\/(df ac).size<=1):=by
    rcases hh with ⟨a1,a2,a3,a4⟩|⟨a1,a2,a3,a4⟩
    ·exact⟨a1,a2,a3,.inl yw⟩
    ·exact⟨a1,a2,a3,.inr a4⟩
   obtain⟨rfl,h3,h4,h5⟩:=ar;refine cg (sr ?_)
   try dsimp only
   by_cases d1:(df ac).size<=1
   ·rw[cp d1];exact ck ⟨rfl,h3,h4,d1⟩
   rw[cf d1];generalize hgen:(if (if (df ac).size-2>0 then sx (fun x=>x.snd.fst) (df ac)[(df ac).size-2-1]? else none).any (fun x=>decide (x<(df ac)[(df ac).size-2+1]?.elim 0 fun x=>x.snd.fst))=true then (df ac).size-2-1 else (df ac).size-2)=ii;have au:ii+1<(df ac).size:=by
    have hx:∀(P:Prop) (_:Decidable P),(if P then (df ac).size-2-1 else (df ac).size-2)+1<(df ac).size:=fun P _=>by
     by_cases z:P
     ·rw[cp z];omega
     ·rw[cf z];omega
    rw[<- hgen];exact hx _ _
   refine cg (AL O h3 h4 (dw _) au fun ap h6 s6 z6 g6=>?_);simp only[Bool.not_true,fm,if_false];exact ck (.inl ⟨rfl,h6,s6,yw⟩)
  case postF=>
   rintro c ac ⟨rfl,h3,h4,h5⟩;dsimp only;refine ck (q ac h3 ?_);cases hl:(df ac).toList with
   |nil=>
    rw[hl]at h4;have:0=a₀.size:=h4;omega
   |cons r rest=>
    have hr:rest=[]:=by
     have:=congrArg List.length hl;rw[js,fy]at this;exact jd yw
    rw[hl,hr]at h4;obtain⟨e1,e2,e3,e4⟩:=h4;have aq:0+r.2.1=a₀.size:=e4;rw[<- aq];exact e3
 case step=>
  rintro k c st' _ hk ⟨lo,rfl,k1,k2,hT,hS⟩;dsimp only;by_cases c1:lo≥a₀.size
  ·rw[cp c1];exact ck ⟨lo,rfl,yw,hT,hS⟩
  rw[cf c1];refine cg (Mv O (hT.tb lo) yw yw fun m ac an m1 m2 ao=>?_);dsimp only;by_cases c2:m<mr
  ·rw[cp c2];refine cg (wpS_lift (mw ⟨rfl,?_⟩));refine cg (HZ O an (n:=min (a₀.size-lo) mr) yw m1 yw ao fun ae ag aj=>?_);simp only[Bool.not_true,fm,if_false];have n1:1<=min (a₀.size-lo) mr:=yw
   have n2:lo+min (a₀.size-lo) mr<=a₀.size:=yw
   generalize min (a₀.size-lo) mr=n at n1 n2 aj;have ai:Ts kd D a₀ ae:=⟨ag.kd,ag.fl,ag.pm,ag.d⟩;have al:Stk lt (cn ae) 0 (df ae).toList lo:=by
    rw[ag.pe];exact Stk.mono hS fun i _ hi=>ag.lo i hi
   refine cg (sr ?_);have fin:∀aa:gy,Ts kd D a₀ aa->Stk lt (cn aa) 0 (df aa).toList lo->(∀j,lo<=j->G (cn aa) j=G (cn ae) j)->Stk lt (cn aa) 0 ((df aa).push (lo,n,0)).toList (lo+n):=fun aa hM ah af=>by
    rw[Array.toList_push];refine Stk.push ah n1 fun i j hi am hj=>?_;rw[af i hi,af j yw];exact aj i j hi am hj
   cases hbk:(df ae).back? with
   |none=>
    try dsimp only
    exact cg (lv (ck ⟨lo+n,rfl,yw,yw,⟨ai.kd,ai.fl,ai.pm,ai.d⟩,fin ae ai al fun _ _=>rfl⟩))
   |some r=>
    obtain⟨s1,ak,w1⟩:=r
    try dsimp only
    generalize power' a₀.size (2*s1+ak) (2*s1+ak+ak+n) a₀.size=pw;refine cg (kq (ik (a:=0)
     (I:=fun _ c aa=>c=(none,())/\Ts kd D a₀ aa/\Stk lt (cn aa) 0 (df aa).toList lo/\∀j,lo<=j->G (cn aa) j=G (cn ae) j)
     (Q:=fun c aa=>c=(none,())/\Ts kd D a₀ aa/\Stk lt (cn aa) 0 (df aa).toList lo/\∀j,lo<=j->G (cn aa) j=G (cn ae) j) ?stepM (fun _ _ hh=>hh) ⟨rfl,ai,al,fun _ _=>rfl⟩) ?postM)
    case stepM=>
     rintro kk c aa _ _ ⟨rfl,hM,ah,af⟩;refine cg (sr ?_)
     try dsimp only
     by_cases d1:(df aa).size>1
     ·rw[cp d1];obtain⟨⟨oa,ob,oc⟩,og⟩:∃r,(df aa)[(df aa).size-2]?=some r:=⟨_,Array.getElem?_eq_getElem yw⟩;rw[og];dsimp only;by_cases d2:oc<=pw
      ·rw[cp d2];exact ck ⟨rfl,hM,ah,af⟩
      ·rw[cf d2];refine cg (AL O hM ah k2 yw fun ap h5 s5 z5 g5=>?_);simp only[Bool.not_true,fm,if_false];exact ck ⟨rfl,h5,s5,fun j hj=>(g5 j hj).trans (af j hj)⟩
     ·rw[cf d1];exact ck ⟨rfl,hM,ah,af⟩
    case postM=>
     rintro c aa ⟨rfl,hM,ah,af⟩;dsimp only;refine cg (lv (cg (lv (ck ⟨lo+n,rfl,yw,yw,⟨hM.kd,hM.fl,hM.pm,hM.d⟩,?_⟩))));refine fin (setPending aa ((df aa).modify ((df aa).size-1) fun x=>(x.1,x.2.1,pw))) ⟨hM.kd,hM.fl,hM.pm,hM.d⟩ ?_ af;show Stk lt (cn aa) 0 ((df aa).modify ((df aa).size-1) fun x=>(x.1,x.2.1,pw)).toList lo;rw[Array.toList_modify];exact Stk.modLast ah _
  ·rw[cf c2];have n1:1<=m:=m1;have n2:lo+m<=a₀.size:=yw
   have aj:=ao;have ag:=an;generalize m=n at n1 n2 aj
   revert ag aj
   generalize ac=ae;intro ag aj;have ai:Ts kd D a₀ ae:=⟨ag.kd,ag.fl,ag.pm,ag.d⟩;have al:Stk lt (cn ae) 0 (df ae).toList lo:=by
    rw[ag.pe];exact Stk.mono hS fun i _ hi=>ag.lo i hi
   refine cg (sr ?_);have fin:∀aa:gy,Ts kd D a₀ aa->Stk lt (cn aa) 0 (df aa).toList lo->(∀j,lo<=j->G (cn aa) j=G (cn ae) j)->Stk lt (cn aa) 0 ((df aa).push (lo,n,0)).toList (lo+n):=fun aa hM ah af=>by
    rw[Array.toList_push];refine Stk.push ah n1 fun i j hi am hj=>?_;rw[af i hi,af j yw];exact aj i j hi am hj
   cases hbk:(df ae).back? with
   |none=>
    try dsimp only
    exact cg (lv (ck ⟨lo+n,rfl,yw,yw,⟨ai.kd,ai.fl,ai.pm,ai.d⟩,fin ae ai al fun _ _=>rfl⟩))
   |some r=>
    obtain⟨s1,ak,w1⟩:=r
    try dsimp only
    generalize power' a₀.size (2*s1+ak) (2*s1+ak+ak+n) a₀.size=pw;refine cg (kq (ik (a:=0)
     (I:=fun _ c aa=>c=(none,())/\Ts kd D a₀ aa/\Stk lt (cn aa) 0 (df aa).toList lo/\∀j,lo<=j->G (cn aa) j=G (cn ae) j)
     (Q:=fun c aa=>c=(none,())/\Ts kd D a₀ aa/\Stk lt (cn aa) 0 (df aa).toList lo/\∀j,lo<=j->G (cn aa) j=G (cn ae) j) ?stepM (fun _ _ hh=>hh) ⟨rfl,ai,al,fun _ _=>rfl⟩) ?postM)
    case stepM=>
     rintro kk c aa _ _ ⟨rfl,hM,ah,af⟩;refine cg (sr ?_)
     try dsimp only
     by_cases d1:(df aa).size>1
     ·rw[cp d1];obtain⟨⟨oa,ob,oc⟩,og⟩:∃r,(df aa)[(df aa).size-2]?=some r:=⟨_,Array.getElem?_eq_getElem yw⟩;rw[og];dsimp only;by_cases d2:oc<=pw
      ·rw[cp d2];exact ck ⟨rfl,hM,ah,af⟩
      ·rw[cf d2];refine cg (AL O hM ah k2 yw fun ap h5 s5 z5 g5=>?_);simp only[Bool.not_true,fm,if_false];exact ck ⟨rfl,h5,s5,fun j hj=>(g5 j hj).trans (af j hj)⟩
     ·rw[cf d1];exact ck ⟨rfl,hM,ah,af⟩
    case postM=>
     rintro c aa ⟨rfl,hM,ah,af⟩;refine cg (lv (cg (lv (ck ⟨lo+n,rfl,yw,yw,⟨hM.kd,hM.fl,hM.pm,hM.d⟩,?_⟩))));refine fin (setPending aa ((df aa).modify ((df aa).size-1) fun x=>(x.1,x.2.1,pw))) ⟨hM.kd,hM.fl,hM.pm,hM.d⟩ ?_ af;show Stk lt (cn aa) 0 ((df aa).modify ((df aa).size-1) fun x=>(x.1,x.2.1,pw)).toList lo;rw[Array.toList_modify];exact Stk.modLast ah _
end
end L2
namespace L2
open PySem PySem.Spec PySem.Calls PyProof.Rows PySem.W
theorem yZ:∀{a b c:List Int},HT.lexLt a b=true->HT.lexLt b c=true->HT.lexLt a c=true
 | [],[],_,h,_=>by cases h
 | [],_::_,[],_,h=>by cases h
 | [],_::_,_::_,_,_=>rfl
 |_::_,[],_,h,_=>by cases h
 |_::_,_::_,[],_,h=>by cases h
 |x::xs,y::ys,z::zs,h,k=>by
  rw[HT.lexLt_cons]at h k ⊢;split at h
  ·rename_i e;subst e;split at k
   ·rename_i e;subst e;rw[cp rfl];exact yZ h k
   ·rename_i e;rw[cf e];exact k
  ·rename_i e;have h':=qz h;split at k
   ·rename_i e2;subst e2;rw[cf e];exact h
   ·have k':=qz k;rw[cf yw];exact ke yw
theorem Ff:∀(a b:List Int),HT.lexLt a b=true\/a=b\/HT.lexLt b a=true
 | [],[]=>.inr (.inl rfl)
 | [],_::_=>.inl rfl
 |_::_,[]=>.inr (.inr rfl)
 |x::xs,y::ys=>by
  rw[HT.lexLt_cons,HT.lexLt_cons];by_cases e:x=y
  ·subst e;rw[cp rfl,cp rfl];rcases Ff xs ys with h|h|h
   ·exact .inl h
   ·exact .inr (.inl (by rw[h]))
   ·exact .inr (.inr h)
  ·rw[cf e,cf (im e)];by_cases hl:x<y
   ·exact .inl (ke hl)
   ·exact .inr (.inr (ke yw))
section
variable {prog:fg}{w:gg}{A:gf}{E:bn->bu->Prop}{s:bu}
theorem NK{α:Type}{r:α->α->Prop}{l:List α}(h:l.length<2):l.Pairwise r:=by
 cases l with
 |nil=>exact .nil
 |cons x l=>
  cases l with
  |nil=>exact List.pairwise_singleton _ _
  |cons y l=>exact absurd h yv
theorem OB{a:Addr}{vs:List bn}{n:Nat}{kd:tz}{lt:cy->cy->Bool}{P:PySem.Fin->bu->Prop}(ho:s.heap.get? a=some (qm "list" vs.toArray n))(hz:vs.length<=10000000)
  (hkd:∀h3,KeptBut a s.heap h3->∀(Q:tz->bu->Prop),2<=vs.length->Q kd { s with heap:=h3 }->cv (model prog w) A (keyKind' vs.toArray) Q E { s with heap:=h3 })
  (hO:∀h3,KeptBut a s.heap h3->LtOk prog w A E { s with heap:=h3 } kd (fun x=>x.1=x.2/\x.1∈vs) lt)
  (h:∀h' c (out:List bn),KeptBut a s.heap h'->out.Perm vs->out.Pairwise (fun x y=>lt (y,y) (x,x)=false)->h'.get? a=some (qm "list" out.toArray c)->P (.done (.ret .none)) { s with heap:=h' }):
  cv (model prog w) A (ni.«list.sort» ⟨[.ref a],[]⟩) P E s:=by
 have ha:a<s.heap.objs.size:=fu ho;have s1:=qa s.heap a (jv fun _=>(#[]:Array bn));obtain⟨e1,af⟩:∃e1,(s.heap.update a (jv fun _=>(#[]:Array bn))).get? a=some (qm "list" #[] e1):=⟨_,get?_update_seq ho fun _=>#[]⟩;have keep:KeptBut a s.heap (((s.heap.update a (jv fun _=>(#[]:Array bn))).push (qm "tuple" vs.toArray 0)).push (qm "list" #[] 0)):=fun b o nb e=>
  bw _ (bw _ ((s1.2 b nb).trans e))
 have z:(((s.heap.update a (jv fun _=>(#[]:Array bn))).push (qm "tuple" vs.toArray 0)).push (qm "list" #[] 0)).get? a=some (qm "list" #[] e1):=bw _ (bw _ af);rw[list_sort_plain];refine bo (listItems_at ho rfl ?_);refine bo (listUpdate_at ho rfl ?_ (by rw[fx,ji];omega) (ly _));refine bo (seqEpoch_at af rfl ?_);refine bo (wpAny_newTuple ?_ (by show vs.length<=_;rw[ji];omega));refine bo (wpAny_newList ?_ (ly _));refine ku ?_;show cv (model prog w) A _ P E { s with heap:=((s.heap.update a (jv fun _=>(#[]:Array bn))).push (qm "tuple" vs.toArray 0)).push (qm "list" #[] 0) };generalize ((s.heap.update a (jv fun _=>(#[]:Array bn))).push (qm "tuple" vs.toArray 0)).push (qm "list" #[] 0)=h3 at keep z ⊢;dsimp only;by_cases hn2:vs.toArray.size<2
 ·rw[cp hn2,cp hn2];refine bo (cr ?_);rw[StateT.run_pure];refine bo (cr ?_);dsimp only;have eo:(cn (SortSt.mk' general' (vs.toArray.zip vs.toArray) #[] 7 none)).map (·.2)=li vs:=by
   apply Array.toList_inj.mp;show ((vs.toArray.zip vs.toArray).map (·.2)).toList=vs;rw[Array.toList_map,Array.toList_zip,List.map_snd_zip (dw _)]
  rw[eo];have s2:=qa h3 a (jv fun _=>li vs);obtain⟨c2,ac⟩:∃c2,(h3.update a (jv fun _=>li vs)).get? a=some (qm "list" (li vs) c2):=⟨_,get?_update_seq z fun _=>li vs⟩;refine bo (seqEpoch_at z rfl ?_);refine bo (listUpdate_at z rfl ?_ (ly _) (by show (li vs).size<=_;rw[fx,ji];omega));simp only[bne_self_eq_false,fm,if_false];refine cr (h _ c2 vs (fun b o nb e=>(s2.2 b nb).trans (keep b o nb e)) (List.Perm.refl _) ?_ ac);rw[fx]at hn2;exact NK hn2
 ·rw[cf hn2,cf hn2];rw[fx]at hn2;refine bo (hkd h3 keep _ yw ?_);have O:=hO h3 keep;have hT:Ts kd (fun x:cy=>x.1=x.2/\x.1∈vs) (pairsOf vs) (SortSt.mk' kd (vs.toArray.zip vs.toArray) #[] 7 none):=⟨rfl,rfl,Array.Perm.refl _,fun x m=>by
   rw[pairsOf_toList]at m;exact mem_zip_self m⟩
  refine bo (jj (Me O (Q:=fun _ st'=>Ts kd (fun x:cy=>x.1=x.2/\x.1∈vs) (pairsOf vs) st'/\Sg lt (cn st') 0 (pairsOf vs).size) hT rfl (by rw[pairsOf_size];omega) fun st' a1 a2=>⟨a1,a2⟩) ?_ fun _ _ e=>e);rintro⟨⟨⟩,st'⟩ s' ⟨rfl,hT',hS'⟩;dsimp only;have hp:((cn st').toList.map (·.2)).Perm vs:=by
   have h1:=(Array.perm_iff_toList_perm.mp hT'.pm).map (·.2);rw[pairsOf_toList,List.map_snd_zip (dw _)]at h1;exact h1
  have hs:((cn st').toList.map (·.2)).Pairwise (fun x y=>lt (y,y) (x,x)=false):=by
   rw[pairwise_map,List.pairwise_iff_getElem];intro i j hi hj ag;have ae:i<(pairsOf vs).size:=by rw[<- hT'.size];simpa using hi
   have aa:j<(pairsOf vs).size:=by rw[<- hT'.size];simpa using hj
   have g1:=hT'.at ae;have g2:=hT'.at aa;rw[aS,cw hi]at g1;rw[aS,cw hj]at g2;have d1:=(hT'.dd ae).1;have d2:=(hT'.dd aa).1;rw[gi g1,gi g2];have z1:((G (cn st') i).2,(G (cn st') i).2)=G (cn st') i:=Prod.ext d1.symm rfl;have z2:((G (cn st') j).2,(G (cn st') j).2)=G (cn st') j:=Prod.ext d2.symm rfl;rw[z1,z2];exact hS' i j (ly _) (kl ag) aa
  have eo:(cn st').map (·.2)=li ((cn st').toList.map (·.2)):=by
   apply Array.toList_inj.mp;rw[Array.toList_map]
  rw[eo];generalize (cn st').toList.map (·.2)=out at hp hs;have s2:=qa h3 a (jv fun _=>li out);obtain⟨c2,ac⟩:∃c2,(h3.update a (jv fun _=>li out)).get? a=some (qm "list" (li out) c2):=⟨_,get?_update_seq z fun _=>li out⟩;refine bo (seqEpoch_at z rfl ?_);refine bo (listUpdate_at z rfl ?_ (ly _) (by show (li out).size<=_;rw[fx,hp.length_eq,ji];omega));rw[hT'.fl];simp only[bne_self_eq_false,fm,if_false];exact cr (h _ c2 out (fun b o nb e=>(s2.2 b nb).trans (keep b o nb e)) hp hs ac)
theorem MB{kd:tz}{x y:cy}{b:Bool}{st:gy}{Q:Option Bool->gy->Prop}(hk:kindOf st=kd)(h:cv (model prog w) A (keyLt' kd x.1 y.1) (fun c s'=>s'=s/\c=b) (fun _ _=>False) s)(q:Q (some b) st):wpS (model prog w) A E s (lt' x y) Q st:=by
 rw[lt'_eq];refine cg (sr ?_);rw[hk];refine cg (wpS_lift (wpAny_attempt (jj h (fun c s' hc=>?_) fun _ _ e=>e.elim)));obtain⟨rfl,rfl⟩:=hc;exact⟨rfl,ck q⟩
theorem GB{Q:Bool->bu->Prop}:∀{xs ys:List bn}{ns ms:List Int} (i k:Nat),pp xs ns->pp ys ms->Q (HT.lexLt ns ms) s->KatLex prog w A true (decide (k+xs.length<k+ys.length)) Q (xs.zip ys) i s
 | [],ys,ns,ms,i,k,h1,h2,q=>by
  cases h1;rw[List.zip_nil_left];refine kat_nil ?_;cases h2 with
  |nil=>
   rw[gz yv];exact q
  |cons n t h2=>
   rw[ke yv];exact q
 |x::xs,[],ns,ms,i,k,h1,h2,q=>by
  cases h2;cases h1 with
  |cons n t h1=>
   rw[List.zip_nil_right];refine kat_nil ?_;rw[gz yv];exact q
 |x::xs,y::ys,ns,ms,i,k,h1,h2,q=>by
  cases h1 with
  |cons n t h1=>
   cases h2 with
   |cons m u h2=>
    rw[qv];refine kat_cons (wpAny_eqBool_int ?_);rw[HT.lexLt_cons]at q;refine kat_go (fun e=>?_) fun e=>?_
    ·have e1:n=m:=by simpa using e
     rw[cp e1]at q;refine kat_yes ?_;have:=GB (Q:=Q) (i+1) (k+1) h1 h2 q;have ed:decide (k+((rn n t)::xs).length<k+((rn m u)::ys).length)=decide (k+1+xs.length<k+1+ys.length):=by
      rw[decide_eq_decide,fy,fy];omega
     rw[ed];exact this
    ·have e1:n≠m:=by simpa using e
     rw[cf e1]at q;refine kat_no ?_;cases hb:(true&&i==0)with
     |true=>exact oneLt_int q
     |false=>exact kat_one _ _ (lt_int q)
def TupI(h:Heap)(v:bn)(ns:List Int):Prop:=ns≠[]/\∃a o xs n,v=.ref a/\h.get? a=some o/\o.cls=.type "tuple"/\o.data=.seq xs n/\pp xs.toList ns
theorem Lq{vs:List bn}(aa:bn->List Int)(hT:∀v∈vs,TupI s.heap v (aa v)):LtOk prog w A E s (tuples' true) (fun x=>x.1=x.2/\x.1∈vs) (fun x y=>HT.lexLt (aa x.1) (aa y.1)) where
 ask:=fun x y st Q hx hy hk q=>by
  obtain⟨_,a,o,xs,n,ex,g1,c1,d1,i1⟩:=hT _ hx.2;obtain⟨_,b,o',ys,m,ey,g2,c2,d2,i2⟩:=hT _ hy.2;refine MB hk ?_ q;rw[ex,ey];refine kat_lt g1 d1 g2 d2 ?_;have:=GB (prog:=prog) (w:=w) (A:=A) (s:=s) (Q:=fun c s'=>s'=s/\c=HT.lexLt (aa (.ref a)) (aa (.ref b))) 0 0 (by rw[ex]at i1;exact i1) (by rw[ey]at i2;exact i2) ⟨rfl,rfl⟩;simpa using this
 asym:=fun x y _ _ h=>by
  cases e:HT.lexLt (aa y.1) (aa x.1)with
  |false=>rfl
  |true=>
   have:=yZ h e;rw[HT.lexLt_self]at this;cases this
 tr:=fun x y z _ _ _ h1 h2=>by
  cases e:HT.lexLt (aa z.1) (aa x.1)with
  |false=>rfl
  |true=>
   rcases Ff (aa y.1) (aa x.1)with h|h|h
   ·rw[h]at h1;cases h1
   ·rw[h]at h2;rw[h2]at e;cases e
   ·have:=yZ e h;rw[this]at h2;cases h2
theorem Kp{vs:List bn}(aa:bn->List Int)(hT:∀v∈vs,TupI s.heap v (aa v))(h2:2<=vs.length){Q:tz->bu->Prop}(h:Q (tuples' true) s):cv (model prog w) A (keyKind' vs.toArray) Q E s:=by
 have fs:∀l:List bn,(∀v∈l,TupI s.heap v (aa v))->∃fs:List bn,KatTups s.heap l fs/\fs.length=l.length/\∀f∈fs,∃n t,f=rn n t:=by
  intro l;induction l with
  |nil=>intro _;exact⟨[],KatTups.nil,rfl,(fun f m=>by cases m)⟩
  |cons v l ih=>
   intro hl;obtain⟨fs,k,e,fi⟩:=ih fun x m=>hl x (cz _ m);obtain⟨ac,a,o,xs,n,ev,g1,c1,d1,i1⟩:=hl v fq;subst ev;obtain⟨f,t,hf⟩:∃n t,xs[0]?=some (rn n t):=by
    cases hx:xs.toList with
    |nil=>rw[hx]at i1;cases hn:aa (.ref a)with
     |nil=>exact absurd hn ac
     |cons x y=>rw[hn]at i1;cases i1
    |cons x r=>
     rw[hx]at i1;obtain⟨n,t,rfl⟩:=i1.all x fq;exact⟨n,t,by rw[<- ow,hx];rfl⟩
   refine⟨.int f t::fs,KatTups.cons g1 c1 d1 hf k,by simp[e],fun z m=>?_⟩;rcases mem_cons.mp m with rfl|m
   ·exact⟨f,t,rfl⟩
   ·exact fi z m
 obtain⟨fs,k,e,fi⟩:=fs vs hT;refine kat_kind (T:=.type "int") k yw (fun v m=>?_) rfl ?_
 ·obtain⟨n,t,rfl⟩:=fi v m;exact .now
 ·rw[show (Value.type "int" != Value.type "tuple")=true by decide];exact h
theorem K8{vs:List bn}{kd:tz}{lt:cy->cy->Bool}{P:PySem.Fin->bu->Prop}(hz:vs.length<=10000000)
  (hkd:∀(A':gf) (E':bn->bu->Prop) h3,(∀b o,s.heap.get? b=some o->h3.get? b=some o)->∀(Q:tz->bu->Prop),2<=vs.length->Q kd { s with heap:=h3 }->cv (model prog w) A' (keyKind' vs.toArray) Q E' { s with heap:=h3 })
  (hO:∀(A':gf) (E':bn->bu->Prop) h3,(∀b o,s.heap.get? b=some o->h3.get? b=some o)->LtOk prog w A' E' { s with heap:=h3 } kd (fun x=>x.1=x.2/\x.1∈vs) lt)
  (h:∀D h' c (out:List bn),s.heap.objs.size<=D->(∀b o,s.heap.get? b=some o->h'.get? b=some o)->out.Perm vs->out.Pairwise (fun x y=>lt (y,y) (x,x)=false)->h'.get? D=some (qm "list" out.toArray c)->P (.done (.ret (.ref D))) { s with heap:=h' }):
  cv (model prog w) A (newList vs >>= fun l=>holding [l] (call (.builtin "list.sort") [l] []) >>= fun _=>ret l) P E s:=by
 refine bo (wpAny_newList ?_ (by show vs.length<=_;rw[ji];omega));have z:(s.heap.push (qm "list" vs.toArray 0)).get? s.heap.objs.size=some (qm "list" vs.toArray 0):=fj _ rfl;have keep:∀b o,s.heap.get? b=some o->(s.heap.push (qm "list" vs.toArray 0)).get? b=some o:=fun b o q=>bw _ q;show cv _ _ _ _ _ { s with heap:=s.heap.push (qm "list" vs.toArray 0) };refine bo (ku (lr slot_list_sort ⟨_,z,rfl⟩ entry_list_sort ?body (args_list_sort _)))
 case body=>
  refine OB (s:={ s with heap:=s.heap.push (qm "list" vs.toArray 0) }) (kd:=kd) (lt:=lt) z hz (fun h3 k=>hkd _ _ h3 fun b o e=>k b o (ir (fu e)) (keep b o e)) (fun h3 k=>hO _ _ h3 fun b o e=>k b o (ir (fu e)) (keep b o e)) fun h' c out k1 hp hs k2=>?_;exact⟨_,rfl,cr (h _ h' c out (dw _) (fun b o e=>k1 b o (ir (fu e)) (keep b o e)) hp hs k2)⟩
end
section
variable {X:Cx}{zg:List (Addr×Obj)}{σ:St}{H H':Hp}{s:bu}{h':Heap}
theorem Inv.laidAll{t':Nat}(I:Inv X zg σ H s)(k:∀b u,s.heap.get? b=some u->h'.get? b=some u)(gr:Same H H')(aa:∀b u,H' b=some u->H b=some u\/(s.heap.objs.size<=b/\ObjOk X.prog X.w H' h' b u)):Inv X zg σ H' { s with heap:=h',toks:=t' }:=by
 refine I.un ⟨fun b u q _ _ _=>k b u q,fun b u q _ _ _=>⟨u.slots,k b u q⟩,fun b u q n _=>?_,fun b u q _=>⟨u,k b u q⟩,fun b xs q=>gr b _ q,fun b u xs q=>gr b _ q,fun b ps q=>gr b _ q⟩ fun b u e=>?_
 ·cases e:H' b with
  |none=>rfl
  |some v=>
   rcases aa b v e with z|⟨z,_⟩
   ·rw[n]at z;cases z
   ·exact absurd (gx (fu q) z) (jp _)
 ·rcases aa b u e with z|⟨_,z⟩
  ·exact(I.hok b u z).stay (fun c v _ q=>k c v q) (fun c q=>gr c _ q) (fun c xs q=>gr c _ q) fun c o u q=>gr c _ q
  ·exact z
end
def p8:List XV->Sto->RX->Prop:=fun xs S R=>arg1 xs fun x=>∃m:List (Key×bq),x=.d (.dict (DD.pairs (.k m)))/\∃ns:List Int,m.map (·.1)=ns.map jf/\ns.length<=10000000/\∀ms:List Int,ms.Perm ns->ms.Pairwise (· <= ·)->R (.d (.list (ms.map cu))) S
def adr:bn->Addr
 | .ref a=>a
 |_=>0
theorem C4{α:Type}:∀zs:List (Addr×α),Vals (zs.map fun z=>V.ref z.1) (zs.map fun z=>fh z.1)
 | []=>.nil
 |a::r=>.cons rfl (C4 r)
theorem TupI.keep{h h':Heap}{v:bn}{ns:List Int}(x:TupI h v ns)(k:∀b o,h.get? b=some o->h'.get? b=some o):TupI h' v ns:=by
 obtain⟨hn,a,o,xs,n,e,g,r⟩:=x;exact⟨hn,a,o,xs,n,e,k _ _ g,r⟩
def ikV(m:List (Int×Int)):List (Key×V):=m.map fun p=>(jf p.1,V.int p.2)
def ikD(m:List (Int×Int)):List (Key×bq):=m.map fun p=>(jf p.1,cu p.2)
def ik2(p:Int×Int):List Int:=[p.1,p.2]
def hW(H:Hp)(l:Addr)(vs:List V)(zs:List (Addr×(Int×Int))):Hp:=fun b=>if b=l then some (.lst vs)else match zs.find? (fun z=>z.1==b)with
 |some z=>some (.tup [.int z.2.1,.int z.2.2])
 |none=>H b
theorem wU{α:Type}:∀{zs:List (Addr×α)}{z:Addr×α},(zs.map (·.1)).Nodup->z∈zs->zs.find? (fun y=>y.1==z.1)=some z
 | [],_,_,m=>by cases m
 |y::r,z,nd,m=>by
  rw[gc,sw]at nd;rw[find?_cons];rcases mem_cons.mp m with rfl|m
  ·rw[show (z.1==z.1)=true from beq_self_eq_true _]
  ·have ne:y.1≠z.1:=fun e=>nd.1 (by rw[e];exact List.mem_map_of_mem m);rw[show (y.1==z.1)=false from beq_false_of_ne ne];exact wU nd.2 m
theorem FI{α:Type}{zs:List (Addr×α)}{z:Addr×α}{b:Addr}(h:zs.find? (fun y=>y.1==b)=some z):z∈zs/\z.1=b:=⟨List.mem_of_find?_eq_some h,by simpa using List.find?_some h⟩
section
variable {X:Cx}{l:Expr}{te:TE}{p pos apos cpos:Pos}
def FQ(te:TE):TE:=fun σ H Q=>te σ H fun x H1=>∃a ob m,x=.ref a/\H1 a=some (.frz ob (.dK (ikV m)))/\m.length<=10000000 /\
 ∀(l:Addr) (H2:Hp) (zs:List (Addr×(Int×Int))),Same H1 H2->H1 l=none->(∀z∈zs,H1 z.1=none)->H2 l=some (.lst (zs.map fun z=>V.ref z.1))->(∀z∈zs,H2 z.1=some (.tup [.int z.2.1,.int z.2.2])) ->
  (zs.map (·.2)).Perm m->zs.Pairwise (fun x y=>HT.lexLt (ik2 y.2) (ik2 x.2)=false)->Q (.ref l) H2
theorem Ky(hc:X.calm=true)(au:Gl X "sorted")(ap:X.mg "sorted" = none)(hl:PE X l te)(ae:pk l "items" X.env (eval l X.env)=eval l X.env:=by rfl)(af:(apos.endLine==cpos.line)=true:=by rfl)
  (he2:fk [Expr.Call (.Attribute l "items" apos) [] [] cpos] X.env=(false,eval (Expr.Call (.Attribute l "items" apos) [] [] cpos) X.env)::fk [] X.env:=by rfl) (hpl2:(ph pos (fk [] X.env)).any (·.1)=false:=by rfl):
  PE X (.Call (.Name "sorted" p) [.Call (.Attribute l "items" apos) [] [] cpos] [] pos) (FQ te):=by
 intro zg s σ H Q I h;refine ol (iD I au ap boot_sorted ?_);refine PyProof.Rows.callWith_builtin1 ?_ he2 hpl2;rw[he2];show cv _ _ (spliced [(false,eval (Expr.Call (.Attribute l "items" apos) [] [] cpos) X.env)]) _ _ s;refine Calls.spliced_cons ?_;refine wpAny_Call_method (T:="dict") (id:="dict.items") ae rfl af F.plainAttrs_dict F.slot_dict_items F.type_dict_items (thn (hl zg s σ H _ I h) fun v s1 ⟨x,H1,I1,r1,q1⟩=>?_);obtain⟨a,ob,m,e,ea,hn,q⟩:=q1;subst e;cases r1;obtain⟨aq,hz,es,ep,vs,eo,kv,da⟩:=tZ I1.hok ea;have ag:vs.length=m.length:=by rw[<- kv.length,ikV,gh]
 have hm:=da.dictOf;refine⟨hm.typeIs,hm.mapOf.noDict,?_⟩;show cv _ _ (callWith cpos (.builtin "dict.items") [.ref a] [] []) _ _ s1;refine method_meetsIn F.slot_dict_items F.entry_dict_items rfl (PyProof.Rows.evalArgs_none ⟨rfl,hm.typeIs,F.args_dict_items_1 _,_,meets_dict_items (aW X.prog X.w) a aq,⟨vs,hm⟩,?_⟩);have av:=da.push { cls:=.type "dict_items",data:=.fields #[.ref a] };have I2:Inv X zg σ H1 { s1 with heap:=s1.heap.push { cls:=.type "dict_items",data:=.fields #[.ref a] } }:=I1.kept (t':=s1.toks) fun b o e=>bw _ e;refine Calls.spliced_nil ?_;generalize hs2:({ s1 with heap:=s1.heap.push { cls:=.type "dict_items",data:=.fields #[.ref a] } }:bu)=s2 at I2 ⊢;have hv:s2.heap.IsItemsView s1.heap.objs.size a:=by rw[<- hs2];exact⟨_,fj _ rfl,rfl,rfl⟩
 have ao:s2.heap.DictAt (aW X.prog X.w) a vs ep:=by rw[<- hs2];exact av
 refine Calls.call_function_entry kind_sorted plain_sorted entry_sorted (args_sorted1 _) ?_;unfold ni.«sorted»;refine bo (m:=checkCount "sorted" 1 1 _) (cr ?_);refine bo (W.kdx_collect (A:=X.A.in1) (I2.ok.hd hc) hv ao (by rw[ag,ji];omega) fun h1 tk as ak al G=>?_);have nd:as.Nodup:=G.rise.imp fun h=>ir h;have aw:as.length=m.length:=al.trans ag;have e1:(as.zip m).map (·.1)=as:=List.map_fst_zip yw;have e2:(as.zip m).map (·.2)=m:=List.map_snd_zip yw;have nz:((as.zip m).map (·.1)).Nodup:=by rw[e1];exact nd
 have ac:∀z∈as.zip m,∃key x,pp [key,x] (ik2 z.2)/\h1.get? z.1=some { cls:=.type "tuple",data:=.seq #[key,x] }:=fun z mz=>by
  obtain⟨j,hj,ez⟩:=List.mem_iff_getElem.mp mz;have j1:j<as.length:=by rw[List.length_zip]at hj;omega
  have j2:j<m.length:=yw
  rw[List.getElem_zip]at ez;subst ez;obtain⟨key,k,x,q1,q2,q3⟩:=G.pairs j as[j] (cw j1);obtain⟨u,q4,q5⟩:=kv.get (i:=j) (p:=(jf m[j].1,V.int m[j].2)) (by rw[ikV,iw,cw j2];rfl);rw[q1]at q4;cases q4;obtain⟨t1,rfl⟩:=(show RelV (V.int m[j].1) key from EW q2);obtain⟨t2,rfl⟩:=q5;exact⟨_,_,.cons _ _ (.cons _ _ .nil),q3⟩
 have aj:as.map fh=(as.zip m).map fun z=>fh z.1:=by
  conv=>lhs;rw[<- e1]
  rw[ki];rfl
 rw[aj];generalize hzs:as.zip m=zs at e1 e2 nz ac aj ⊢;have an:zs.length=m.length:=by rw[<- e2,gh]
 have ai:∀z∈zs,s2.heap.objs.size<z.1:=fun z mz=>G.above z.1 (by rw[<- e1];exact List.mem_map_of_mem mz)
 let nm:bn->Int×Int:=fun v=>match zs.find? (fun z=>z.1==adr v)with
  |some z=>z.2
  |none=>(0,0)
 have aa:∀z∈zs,nm (.ref z.1)=z.2:=fun z mz=>by
  show (match zs.find? (fun y=>y.1==z.1)with|some z=>z.2|none=>(0,0))=z.2;rw[wU nz mz]
 have hT:∀v∈zs.map (fun z=>fh z.1),TupI h1 v (ik2 (nm v)):=fun v mv=>by
  obtain⟨z,mz,rfl⟩:=mem_map.mp mv;rw[aa z mz];obtain⟨key,x,q1,q2⟩:=ac z mz;exact⟨by simp[ik2],z.1,_,_,_,rfl,q2,rfl,rfl,q1⟩
 refine K8 (s:={ s2 with heap:=h1,toks:=tk }) (kd:=tuples' true) (lt:=fun x y=>HT.lexLt (ik2 (nm x.1)) (ik2 (nm y.1))) (by rw[gh];omega) (fun A' E' h3 k Q h2 z=>Kp (s:={ s2 with heap:=h3,toks:=tk }) (fun v=>ik2 (nm v)) (fun v m=>(hT v m).keep k) h2 z) (fun A' E' h3 k=>Lq (s:={ s2 with heap:=h3,toks:=tk }) (fun v=>ik2 (nm v)) fun v m=>(hT v m).keep k) fun D h' c out hD kp hp hs hg=>?_;have ah:s2.heap.objs.size<=D:=by
  refine ky ?_ hD;have:s1.heap.objs.size<h1.objs.size:=by
   obtain⟨o,ho,_⟩:=hv;exact fu (ak _ _ ho)
  rw[<- hs2];show (s1.heap.push _).objs.size<=h1.objs.size;rw[size_push'];exact this
 have ar:∀z∈zs,z.1≠D:=fun z mz=>by
  obtain⟨_,_,_,q⟩:=ac z mz;exact ir (gx (fu q) hD)
 have o1:(out.map fun v=>(adr v,nm v)).Perm zs:=by
  refine(hp.map fun v=>(adr v,nm v)).trans (List.Perm.of_eq ?_);rw[ki]
  conv=>rhs;rw[<- map_id zs]
  exact rl fun z m=>Prod.ext rfl (aa z m)
 have o3:out=(out.map fun v=>(adr v,nm v)).map fun z=>fh z.1:=by
  rw[ki]
  conv=>lhs;rw[<- map_id out]
  refine rl fun v m=>?_;obtain⟨z,_,rfl⟩:=mem_map.mp (hp.mem_iff.mp m);rfl
 have o2:(out.map fun v=>(adr v,nm v)).Pairwise (fun x y=>HT.lexLt (ik2 y.2) (ik2 x.2)=false):=by
  rw[pairwise_map];exact hs
 generalize hys:(out.map fun v=>(adr v,nm v))=ys at o1 o2 o3;have fr:∀z∈zs,H1 z.1=none:=fun z mz=>I2.hok.fresh (kl (ai z mz));have am:H1 D=none:=I2.hok.fresh ah;have lz:∀z∈zs,hW H1 D (ys.map fun z=>V.ref z.1) zs z.1=some (.tup [.int z.2.1,.int z.2.2]):=fun z mz=>by
  unfold hW;rw[cf (ar z mz),wU nz mz]
 have lD:hW H1 D (ys.map fun z=>V.ref z.1) zs D=some (.lst (ys.map fun z=>V.ref z.1)):=by
  unfold hW;rw[cp rfl]
 have gr:Same H1 (hW H1 D (ys.map fun z=>V.ref z.1) zs):=fun b u eb=>by
  unfold hW;have nb:b≠D:=fun z=>by rw[z,am]at eb;cases eb
  rw[cf nb];cases ef:zs.find? (fun z=>z.1==b)with
  |none=>exact eb
  |some z=>
   obtain⟨mz,ez⟩:=FI ef;rw[<- ez,fr z mz]at eb;cases eb
 have I3:Inv X zg σ (hW H1 D (ys.map fun z=>V.ref z.1) zs) { s2 with heap:=h',toks:=tk }:=by
  refine I2.laidAll (t':=tk) (fun b o e=>kp b o (ak b o e)) gr fun b u eb=>?_;by_cases hb:b=D
  ·subst hb;rw[lD]at eb;cases eb;refine .inr ⟨ah,?_,out,c,?_,hg⟩
   ·rw[gh,o1.length_eq,ji];omega
   ·have:=C4 ys;rw[<- o3]at this;exact this
  ·cases ef:zs.find? (fun z=>z.1==b)with
   |none=>
    unfold hW at eb;rw[cf hb,ef]at eb;exact .inl eb
   |some z=>
    obtain⟨mz,ez⟩:=FI ef;subst ez;rw[lz z mz]at eb;cases eb;obtain⟨key,x,q1,q2⟩:=ac z mz;exact .inr ⟨kl (ai z mz),⟨by show 2<=fc;decide,_,kp _ _ q2,rfl⟩,[key,x],xV q1,⟨_,kp _ _ q2,rfl,_,rfl⟩⟩
 refine⟨_,rfl,.ref D,_,I3,rfl,q D _ ys gr am (fun z mz=>fr z (o1.mem_iff.mp mz)) lD (fun z mz=>lz z (o1.mem_iff.mp mz)) ?_ o2⟩;have:=o1.map (·.2)
 rwa [e2]at this
end
def jS(e:DE):DE:=fun δ S R=>e δ S fun x S1=>∃m:List (Int×Int),x=.d (.dict (DD.pairs (.k (ikD m))))/\m.length<=10000000/\∀ms:List (Int×Int),ms.Perm m->ms.Pairwise (fun x y=>HT.lexLt (ik2 y) (ik2 x)=false)->R (.d (.list (ms.map fun p=>gN (ik2 p)))) S1
theorem Ey{H:Hp}:∀{m:List (Int×Int)}{m':List (Key×V)},HasM H (ikD m) m'->m'=ikV m
 | [],_,q=>q
 |p::r,_,⟨v,t,e,q,l⟩=>by
  subst e;rw[Ey (m:=r) l,eA.mp q];rfl
theorem DC{H:Hp}:∀{zs:List (Addr×(Int×Int))},(∀z∈zs,H z.1=some (.tup [.int z.2.1,.int z.2.2]))->HasL H ((zs.map (·.2)).map fun p=>gN (ik2 p)) (zs.map fun z=>V.ref z.1)
 | [],_=>zK.mpr rfl
 |z::r,h=>zu.mpr ⟨_,_,rfl,d8.mpr ⟨z.1,_,rfl,h z fq,GM (ik2 z.2)⟩,DC fun x m=>h x (cz _ m)⟩
end L2
namespace L2
open PySem PySem.Spec PyProof.Rows
section
theorem N3{Φ:Phi}{te:TE}{de:DE}(aa:REp Φ te de):REp Φ (FQ te) (jS de):=fun h o H δ σ S R Q he hs q c w=>
 aa h o H δ σ S _ _ he hs q (fun o1 H1 S1 x v e1 s1 x1 ⟨m,ex,hn,d1⟩=>by
  subst ex;obtain⟨a,ob,m',rfl,ea,l⟩:=jO.mp (show Has _ _ v from x1);obtain rfl:=Ey l;refine⟨a,ob,m,rfl,zW _ _ ea,hn,fun l H2 zs gr fl fz hl hz pm pw=>?_⟩;have v1:∀b u,H1 b=none->H2 b=some u->vx h o1 H2 b=some u:=fun b u n e=>by
   obtain⟨z1,z2⟩:=s1.fresh n;exact zZ.mpr ⟨z1,z2,e⟩
  exact c o1 H2 S1 (.d (.list ((zs.map (·.2)).map fun p=>gN (ik2 p)))) _ (e1.trans (Ex.of_same gr)) (s1.same gr) (eK.mpr ⟨l,_,rfl,v1 l _ fl hl,DC fun z mz=>v1 _ _ (fz z mz) (hz z mz)⟩) (d1 _ pm (by rw[pairwise_map];exact pw))) w
end
end L2
namespace L2
open PySem PySem.Spec PySem.Calls PyProof.Rows
def oY(j:Nat)(dk dv:DM->DE):DSm:=fun En δ S M=>zh j δ S fun y S1=>∃a m,y=.o (.ref a)/\(a,DD.k m)∈M/\dk M δ S1 fun z S2=>dv M δ S2 fun x S3=>asD z fun k=>asD x fun d=>∃kk,fS k=some kk/\m.length<1000/\if (lkA m kk).isSome=true then En.nx δ S3 M else En.nx δ S3 (kS M a (.k (ptA m kk d)))
def o9(k:Int)(e:DE):DE:=fun δ S R=>e δ S fun x S1=>asD x fun d=>R (.d (.dict [(.int k,d)])) S1
end L2
namespace L2
open PySem PySem.Spec PyProof.Rows
section
section
variable {X:Cx}{es l:List Expr}{te tk tv:TE}{t:TA}{p pos':Pos}{ks:List (Option Expr)}{e k v:Expr}{x:Str}{ps:List Str}{j:Nat}
theorem MF{q:PN}{n:Nat}(D:Df X.prog X.w X.K X.mg X.base x ps n (spN ps q))(hr:Room j X.A)(hk:n<=j)(ha:QA X (e::es) t)(hg:Gl X x:=by rfl)(z:(x==("__debug__":Str))=false:=by decide)
  (q1:fk (e::es) X.env=(false,eval e X.env)::fk es X.env:=by rfl) (q2:((ph p (fk es X.env)).any fun x=>x.fst)=false:=by rfl):PE X (.Call (.Name x pos') (e::es) [] p) (fK (spN ps q) [] E0 t):=zx D hr hk ha.out hg z q1 q2
end
end
end L2
namespace L2
theorem len0{α:Type}{l:List α}(h:l.length=0):l=[]:=jd h
theorem len1{α:Type}{l:List α}(h:l.length=1):∃a0,l=[a0]:=by
 cases l with
 |nil=>cases h
 |cons x r=>
  obtain rfl:=len0 (Nat.succ.inj h);exact⟨x,rfl⟩
theorem len2{α:Type}{l:List α}(h:l.length=2):∃a0 a1,l=[a0,a1]:=by
 cases l with
 |nil=>cases h
 |cons x r=>
  obtain⟨a1,rfl⟩:=len1 (Nat.succ.inj h);exact⟨x,a1,rfl⟩
theorem len3{α:Type}{l:List α}(h:l.length=3):∃a0 a1 a2,l=[a0,a1,a2]:=by
 cases l with
 |nil=>cases h
 |cons x r=>
  obtain⟨a1,a2,rfl⟩:=len2 (Nat.succ.inj h);exact⟨x,a1,a2,rfl⟩
theorem len4{α:Type}{l:List α}(h:l.length=4):∃a0 a1 a2 a3,l=[a0,a1,a2,a3]:=by
 cases l with
 |nil=>cases h
 |cons x r=>
  obtain⟨a1,a2,a3,rfl⟩:=len3 (Nat.succ.inj h);exact⟨x,a1,a2,a3,rfl⟩
theorem len5{α:Type}{l:List α}(h:l.length=5):∃a0 a1 a2 a3 a4,l=[a0,a1,a2,a3,a4]:=by
 cases l with
 |nil=>cases h
 |cons x r=>
  obtain⟨a1,a2,a3,a4,rfl⟩:=len4 (Nat.succ.inj h);exact⟨x,a1,a2,a3,a4,rfl⟩
end L2
namespace L2
open PySem PySem.Spec PySem.Calls PyProof.Rows
open Sem (wp)
def pU(a:DA):DE:=fun δ S R=>a δ S fun xs S1=>arg2 xs fun x y=>∃ds,dW x=some ds/\∃es,dW y=some es/\min ds.length es.length<=1000/\R (.d (.list (cJ ds es))) S1
end L2
namespace L2
open PySem PySem.Spec PyProof.Rows
section
theorem lo{sc:Scope}{x:Str}(h:sc.names.lookup x=some .local:=by rfl):Loc sc x:=ja h
theorem fsd{N P:List Str}{sc:Scope}(h:AA N P sc=true:=by decide +kernel):FnScope N P sc:=fsc h
end
end L2
namespace L2
open PySem PySem.Spec PySem.Calls PyProof.Rows
inductive AllK {α:Type} (F:α->bn->Prop):List α->List bn->Prop
 |nil:AllK F [] []
 |cons {k v ks vs}:F k v->AllK F ks vs->AllK F (k::ks) (v::vs)
end L2
namespace L2
open PySem PySem.Spec PyProof.Rows
section
def hB(b:Bool):Int:=reduceHash (match b with|true=>1|false=>0)
def kB(e:Int×bn):Bool:=match e.2 with
 | .bool b=>b
 |_=>false
end
section
def qB(z:Str)(e:DE):DE:=fun δ S R=>e δ S fun x S1=>(∃d,d9 S1 x=some d/\gq d=true/\R (.d (.bool (!PyData.eqv d (.tuple [.str z])))) S1)\/(x=.d (.dict [])/\R (.d (.bool true)) S1)
end
end L2
namespace My
open PySem L2
def nF:PN:=fun xs S R=>(aB (gQ (dCB fD (zc (zh 0) (zc (dO (.ty "int")) zo))) (iM (dCB fD (zc (zh 0) (zc (dO (.ty "bool")) zo)))))) (aG S.length R) (xs.map some++bx 0 none) S
def nJ:PN:=fun xs S R=>(zQ (aA (dOp (dI (fun _ j=>0<j) fun i j=>i % j) (dOp aC (zh 0) (dC (.int 7919))) (dC (.int 2147483647))) (zj 0)) (aB (dOp (dI (fun _ j=>0<j) fun i j=>i % j) (dOp aC (dOp aC (dOp aU (zh 0) (zh 0)) (dOp aU (dC (.int 48271)) (zh 0))) (dC (.int 12345))) (dC (.int 2147483629))))) (aG S.length R) (xs.map some++bx 0 none) S
def Db:PN:=fun xs S R=>(zQ (aA (dCB (dI2 fun i j=>if j>i then j else i) (zc (zh 0) (zc (dOp (dI0 fun i j=>i-j) (dC (.int 0)) (zh 0)) zo))) (zj 1)) (aB (cT (zc (zh 1) (zc (dCB iJ (zc (dOp (dIb fun i j=>decide (j<=i)) (zh 1) (dOp (dI CPow fun i j=>i ^ j.toNat) (dC (.int 10)) (dC (.int 18)))) zo)) (zc (dOp (dI (fun _ j=>0<j) fun i j=>i % j) (zh 1) (dC (.int 1000003))) zo)))))) (aG S.length R) (xs.map some++bx 1 none) S
def qS:PN:=fun xs S R=>(aB (gQ (dCB fD (zc (zh 0) (zc (dO (.ty "int")) zo))) (iM (dCB fD (zc (zh 0) (zc (dO (.ty "bool")) zo)))))) (aG S.length R) (xs.map some++bx 0 none) S
def zq:PN:=fun xs S R=>(zQ (aI (dB (dOp bJ (dOp dIx (zh 0) (dC (.int 1))) (dC (.int 1)))) (zQ (aA (dOp (dI (fun _ j=>0<j) fun i j=>i % j) (dOp dIx (zh 0) (dC (.int 0))) (zh 1)) (zj 2)) (zQ (aA (dOp dFd (dOp dIx (zh 0) (dC (.int 0))) (zh 1)) (jD (zh 0) (dC (.int 0)))) (aB (zh 2)))) aJ) (zQ (aA (aH 1 nJ (zc (dOp aC (aH 1 nJ (zc (dOp dIx (zh 0) (dC (.int 2))) zo)) (dC (.int 7))) zo)) (jD (zh 0) (dC (.int 2)))) (aB (dOp (dI (fun _ j=>0<j) fun i j=>i % j) (dOp dFd (dOp dIx (zh 0) (dC (.int 2))) (dC (.int 64))) (zh 1))))) (aG S.length R) (xs.map some++bx 1 none) S
def AC:PN:=fun xs S R=>(zQ (aA (zY 0 2 zq (zc (zh 0) (zc (dC (.int 8)) zo))) (zj 1)) (zQ (aI (dB (dOp (dIb fun i j=>decide (i<j)) (zh 1) (dC (.int 5)))) (aB (dOp (dI0 fun i j=>i-j) (zY 0 2 zq (zc (zh 0) (zc (dC (.int 13)) zo))) (dC (.int 6)))) aJ) (zQ (aI (dB (dOp (dIb fun i j=>decide (i<j)) (zh 1) (dC (.int 7)))) (aB (dOp (dI0 fun i j=>i-j) (zY 0 2 zq (zc (zh 0) (zc (dC (.int 2001)) zo))) (dC (.int 1000)))) aJ) (aB (dOp aU (dOp (dI0 fun i j=>i-j) (zY 0 2 zq (zc (zh 0) (zc (dOp aU (dC (.int 2)) (dOp (dI CPow fun i j=>i ^ j.toNat) (dC (.int 10)) (dC (.int 30)))) zo))) (dOp (dI CPow fun i j=>i ^ j.toNat) (dC (.int 10)) (dC (.int 30)))) (dOp (dI CPow fun i j=>i ^ j.toNat) (dC (.int 10)) (dC (.int 28)))))))) (aG S.length R) (xs.map some++bx 1 none) S
def tP:PN:=fun xs S R=>(aB (aK (zc (dOp aC (dOp dIx (zh 0) (dC (.int 0))) (dOp dIx (zh 1) (dC (.int 0)))) (zc (dOp aC (dOp dIx (zh 0) (dC (.int 1))) (dOp dIx (zh 1) (dC (.int 1)))) zo)))) (aG S.length R) (xs.map some++bx 0 none) S
def uI:PN:=fun xs S R=>(zQ (aA (aK (zc (dOp aU (dOp dIx (zh 0) (dC (.int 0))) (zh 1)) (zc (dOp aU (dOp dIx (zh 0) (dC (.int 1))) (zh 1)) zo))) (zj 2)) (aB (aK (zc (dCB lW (zc (zh 2) zo)) (zc (dCB mY (zc (zh 2) zo)) zo))))) (aG S.length R) (xs.map some++bx 1 none) S
def C2:PN:=fun xs S R=>(zQ (aA (zY 0 2 zq (zc (zh 0) (zc (dC (.int 8)) zo))) (zj 1)) (zQ (aI (dB (dOp (dIb fun i j=>decide (i<j)) (zh 1) (dC (.int 5)))) (aB (dOp (dI0 fun i j=>i-j) (zY 0 2 zq (zc (zh 0) (zc (dC (.int 13)) zo))) (dC (.int 6)))) aJ) (zQ (aI (dB (dOp (dIb fun i j=>decide (i<j)) (zh 1) (dC (.int 7)))) (aB (dOp (dI0 fun i j=>i-j) (zY 0 2 zq (zc (zh 0) (zc (dC (.int 2001)) zo))) (dC (.int 1000)))) aJ) (aB (dOp aU (dOp (dI0 fun i j=>i-j) (zY 0 2 zq (zc (zh 0) (zc (dOp aU (dC (.int 2)) (dOp (dI CPow fun i j=>i ^ j.toNat) (dC (.int 10)) (dC (.int 30)))) zo))) (dOp (dI CPow fun i j=>i ^ j.toNat) (dC (.int 10)) (dC (.int 30)))) (dOp (dI CPow fun i j=>i ^ j.toNat) (dC (.int 10)) (dC (.int 28)))))))) (aG S.length R) (xs.map some++bx 1 none) S
def mW:PN:=fun xs S R=>(aB (dOp aC (dOp (dI0 fun i j=>i-j) (dOp dIx (zh 0) (dC (.int 1))) (dOp dIx (zh 0) (dC (.int 0)))) (dC (.int 1)))) (aG S.length R) (xs.map some++bx 0 none) S
def pW:PN:=fun xs S R=>(zQ (aA (zY 0 1 AC (zc (zh 0) zo)) (zj 1)) (zQ (aA (zY 0 2 zq (zc (zh 0) (zc (dC (.int 5)) zo))) (zj 2)) (zQ (aI (dB (dOp bJ (zY 0 2 zq (zc (zh 0) (zc (dC (.int 8)) zo))) (dC (.int 7)))) (aA (zY 0 2 zq (zc (zh 0) (zc (dOp (dI CPow fun i j=>i ^ j.toNat) (dC (.int 10)) (dC (.int 40))) zo))) (zj 2)) aJ) (aB (aK (zc (zh 1) (zc (dOp aC (zh 1) (zh 2)) zo))))))) (aG S.length R) (xs.map some++bx 2 none) S
def nI:PN:=fun xs S R=>(zQ (aA (aX (zc (dCB dF (zc (zh 0) (zc (dO (.ref 37)) zo))) (zc (dCB dF (zc (zh 0) (zc (dO (.ref 49)) zo))) (zc (dCB dF (zc (zh 0) (zc (dO (.ref 61)) zo))) (zc (dCB dF (zc (zh 0) (zc (dO (.ref 161)) zo))) zo))))) (zj 1)) (zQ (aA (dOp aC (zh 1) (aX (zc (dCB dF (zc (zh 0) (zc (dO (.ref 73)) zo))) (zc (dCB dF (zc (zh 0) (zc (dO (.ref 85)) zo))) (zc (dCB dF (zc (zh 0) (zc (dO (.ref 104)) zo))) (zc (dCB dF (zc (zh 0) (zc (dO (.ref 123)) zo))) zo)))))) (zj 1)) (zQ (aA (dOp aC (zh 1) (aX (zc (dCB dF (zc (zh 0) (zc (dO (.ref 142)) zo))) (zc (dCB dF (zc (zh 0) (zc (dO (.ref 180)) zo))) zo)))) (zj 1)) (zQ (aI (dOr (cS (c9 (dCB dF (zc (zh 0) (zc (dO (.ty "ValueError")) zo))))) (dB (dOp dS (i6 jR (zh 1) (zc (dC (.bool true)) zo)) (dC (.int 1))))) (aB (dC (.str "other"))) aJ) (zQ (aA (aX (zc (dC (.str "span")) (zc (dC (.str "part")) (zc (dC (.str "set")) (zc (dC (.str "text")) (zc (dC (.str "row")) (zc (dC (.str "unlike")) (zc (dC (.str "drawing")) (zc (dC (.str "gap")) (zc (dC (.str "offer")) (zc (dC (.str "great")) zo))))))))))) (zj 2)) (aB (dOp dIx (zh 2) (i6 jU (zh 1) (zc (dC (.bool true)) zo))))))))) (aG S.length R) (xs.map some++bx 2 none) S
def FJ:PN:=fun xs S R=>(zQ (aA (dC (.str "abcdefghijklmnopqrstuvwxyz")) (zj 1)) (zQ (aA (zY 0 2 zq (zc (zh 0) (zc (dC (.int 3)) zo))) (zj 2)) (zQ (aA (zY 0 2 zq (zc (zh 0) (zc (dC (.int 26)) zo))) (zj 3)) (zQ (aA (fO [none,some 1,some 3] (bZ (zc (dC (.int 8)) zo)) (zj 0) bA (dOp aU (dOp dIx (zh 1) (dOp (dI (fun _ j=>0<j) fun i j=>i % j) (dOp aC (zh 2) (dOp aU (dC (.int 5)) (zh 0))) (dC (.int 26)))) (dOp aC (dC (.int 1)) (dOp (dI (fun _ j=>0<j) fun i j=>i % j) (dOp aC (zh 2) (dOp aU (dC (.int 3)) (zh 0))) (dC (.int 8)))))) (zj 4)) (zQ (aI (dB (dOp bJ (zh 2) (dC (.int 0)))) (zQ (aA (jL jJ (dC (.str "")) (zc (cV [none,some 1,some 3] (bZ (zc (dC (.int 8)) zo)) (zj 0) bA (dOp dIx (zh 1) (dOp (dI (fun _ j=>0<j) fun i j=>i % j) (dOp aC (zh 2) (dOp aU (dC (.int 7)) (zh 0))) (dC (.int 26))))) zo)) (zj 5)) (aA (fO [none,some 5] (bZ (zc (dC (.int 8)) zo)) (zj 0) bA (dSl eU (zh 1) cW (cY (dOp aC (zh 0) (dC (.int 1)))))) (zj 4))) aJ) (zQ (aI (dB (dOp bJ (zh 2) (dC (.int 1)))) (aA (cT (zc (dC (.str "part")) (zc (dC (.str "gap")) (zc (dC (.str "cut")) (zc (dC (.str "a")) (zc (dC (.str "aa")) (zc (dC (.str "dear")) (zc (dC (.str "b")) (zc (dC (.str "keeps")) zo))))))))) (zj 4)) aJ) (zQ (aA (zY 0 2 zq (zc (zh 0) (zc (dC (.int 8)) zo))) (zj 6)) (zQ (aA (dOp i7 (dSl eU (zh 4) (cY (zh 6)) cW) (dSl eU (zh 4) cW (cY (zh 6)))) (zj 4)) (zQ (aI (dB (dOp bJ (zY 0 2 zq (zc (zh 0) (zc (dC (.int 2)) zo))) (dC (.int 1)))) (dG (gJ gC (zh 4))) aJ) (aB (zh 4))))))))))) (aG S.length R) (xs.map some++bx 6 none) S
def uO:PN:=fun xs S R=>(zQ (aI (dOr (cS (c9 (dCB fD (zc (zh 1) (zc (dO (.ty "tuple")) zo))))) (dB (dOp dS (dCB bV (zc (zh 1) zo)) (dCB bV (zc (zh 0) zo))))) (aB (dC (.bool false))) aJ) (aB (dCB lG (zc (cV [none,none] (j7 (zc (zh 1) (zc (zh 0) zo))) (bS 2 (aO (zj 0) (aO (zj 1) bN))) bA (gQ (aH 1 nF (zc (zh 0) zo)) (fN (dIb fun i j=>decide (i<=j)) (dIb fun i j=>decide (i<=j)) (dOp dIx (zh 1) (dC (.int 1))) (zh 0) (dOp dIx (zh 1) (dC (.int 2)))))) zo)))) (aG S.length R) (xs.map some++bx 0 none) S
def kU:PN:=fun xs S R=>(aB (aK (zc (dOp dIx (zh 0) (dC (.int 1))) (zc (dOp dIx (zh 0) (dC (.int 2))) zo)))) (aG S.length R) (xs.map some++bx 0 none) S
def qR:PN:=fun xs S R=>(zQ (aA (dC (.int 1)) (zj 1)) (zQ (bE (cC (zh 0)) (zj 2) (aA (dOp aU (zh 1) (aH 1 mW (zc (aH 1 kU (zc (zh 2) zo)) zo))) (zj 1))) (aB (zh 1)))) (aG S.length R) (xs.map some++bx 2 none) S
def w4:PN:=fun xs S R=>(zQ (aA (dCB (dI2 fun i j=>if j>i then j else i) (zc (zh 0) (zc (dOp (dI0 fun i j=>i-j) (dC (.int 0)) (zh 0)) zo))) (zj 1)) (aB (cT (zc (zh 1) (zc (dCB iJ (zc (dOp (dIb fun i j=>decide (j<=i)) (zh 1) (dOp (dI CPow fun i j=>i ^ j.toNat) (dC (.int 10)) (dC (.int 18)))) zo)) (zc (dOp (dI (fun _ j=>0<j) fun i j=>i % j) (zh 1) (dC (.int 1000003))) zo)))))) (aG S.length R) (xs.map some++bx 1 none) S
def sF:PN:=fun xs S R=>(zQ (aA (dC (.int 0)) (zj 2)) (zQ (aA (dC (.int 0)) (zj 3)) (zQ (bE (cC (zh 1)) (bS 2 (aO (zj 4) (aO (zj 5) bN))) (zQ (aA (aX (zc (dOp aU (zh 5) (dOp dIx (dOp dIx (zh 0) (zh 4)) (dC (.int 1)))) (zc (dOp aU (zh 5) (dOp dIx (dOp dIx (zh 0) (zh 4)) (dC (.int 2)))) zo))) (zj 6)) (zQ (aA (dOp aC (zh 2) (dCB lW (zc (zh 6) zo))) (zj 2)) (aA (dOp aC (zh 3) (dCB mY (zc (zh 6) zo))) (zj 3))))) (aB (aK (zc (zh 2) (zc (zh 3) zo))))))) (aG S.length R) (xs.map some++bx 5 none) S
def t9:PN:=fun xs S R=>(zQ (aA (dC (.str "abcdefghijklmnopqrstuvwxyz")) (zj 1)) (zQ (aA (zY 0 2 zq (zc (zh 0) (zc (dC (.int 3)) zo))) (zj 2)) (zQ (aA (zY 0 2 zq (zc (zh 0) (zc (dC (.int 26)) zo))) (zj 3)) (zQ (aA (fO [none,some 1,some 3] (bZ (zc (dC (.int 8)) zo)) (zj 0) bA (dOp aU (dOp dIx (zh 1) (dOp (dI (fun _ j=>0<j) fun i j=>i % j) (dOp aC (zh 2) (dOp aU (dC (.int 5)) (zh 0))) (dC (.int 26)))) (dOp aC (dC (.int 1)) (dOp (dI (fun _ j=>0<j) fun i j=>i % j) (dOp aC (zh 2) (dOp aU (dC (.int 3)) (zh 0))) (dC (.int 8)))))) (zj 4)) (zQ (aI (dB (dOp bJ (zh 2) (dC (.int 0)))) (zQ (aA (jL jJ (dC (.str "")) (zc (cV [none,some 1,some 3] (bZ (zc (dC (.int 8)) zo)) (zj 0) bA (dOp dIx (zh 1) (dOp (dI (fun _ j=>0<j) fun i j=>i % j) (dOp aC (zh 2) (dOp aU (dC (.int 7)) (zh 0))) (dC (.int 26))))) zo)) (zj 5)) (aA (fO [none,some 5] (bZ (zc (dC (.int 8)) zo)) (zj 0) bA (dSl eU (zh 1) cW (cY (dOp aC (zh 0) (dC (.int 1)))))) (zj 4))) aJ) (zQ (aI (dB (dOp bJ (zh 2) (dC (.int 1)))) (aA (cT (zc (dC (.str "part")) (zc (dC (.str "gap")) (zc (dC (.str "cut")) (zc (dC (.str "a")) (zc (dC (.str "aa")) (zc (dC (.str "dear")) (zc (dC (.str "b")) (zc (dC (.str "keeps")) zo))))))))) (zj 4)) aJ) (zQ (aA (zY 0 2 zq (zc (zh 0) (zc (dC (.int 8)) zo))) (zj 6)) (zQ (aA (dOp i7 (dSl eU (zh 4) (cY (zh 6)) cW) (dSl eU (zh 4) cW (cY (zh 6)))) (zj 4)) (zQ (aI (dB (dOp bJ (zY 0 2 zq (zc (zh 0) (zc (dC (.int 2)) zo))) (dC (.int 1)))) (dG (gJ gC (zh 4))) aJ) (aB (zh 4))))))))))) (aG S.length R) (xs.map some++bx 6 none) S
def sL:PN:=fun xs S R=>(zQ (aA (dOp dIx (aX (zc (aX (zc (dC (.int 1)) (zc (dUn (dUI fun i=>-i) (dC (.int 1))) (zc (dC (.int 2)) (zc (dUn (dUI fun i=>-i) (dC (.int 2))) (zc (dC (.int 3)) (zc (dUn (dUI fun i=>-i) (dC (.int 3))) zo))))))) (zc (aX (zc (dC (.int 1)) (zc (dUn (dUI fun i=>-i) (dC (.int 1))) zo))) (zc (aX (zc (dC (.int 2)) (zc (dUn (dUI fun i=>-i) (dC (.int 2))) zo))) (zc (aX (zc (dC (.int 3)) (zc (dUn (dUI fun i=>-i) (dC (.int 3))) zo))) (zc (aX (zc (dC (.int 2)) (zc (dC (.int 3)) (zc (dUn (dUI fun i=>-i) (dC (.int 2))) (zc (dUn (dUI fun i=>-i) (dC (.int 3))) zo))))) (zc (aX (zc (dC (.int 1)) (zc (dC (.int 3)) (zc (dUn (dUI fun i=>-i) (dC (.int 1))) (zc (dUn (dUI fun i=>-i) (dC (.int 3))) zo))))) zo))))))) (zY 0 2 zq (zc (zh 0) (zc (dC (.int 6)) zo)))) (zj 2)) (zQ (aA (cT zo) (zj 3)) (zQ (bE (bZ (zc (dCB bV (zc (zh 1) zo)) zo)) (zj 4) (aI (dB (dOp (dIb fun i j=>decide (j<i)) (zY 0 2 zq (zc (zh 0) (zc (dC (.int 3)) zo))) (dC (.int 0)))) (dG (dBM fE (zh 3) (zc (aK (zc (zh 4) (zc (dOp dIx (zh 2) (zY 0 2 zq (zc (zh 0) (zc (dCB bV (zc (zh 2) zo)) zo)))) zo))) zo))) aJ)) (zQ (aI (dB (dOp bJ (zh 3) (aX zo))) (aA (cT (zc (aK (zc (zY 0 2 zq (zc (zh 0) (zc (dCB bV (zc (zh 1) zo)) zo))) (zc (dOp dIx (zh 2) (zY 0 2 zq (zc (zh 0) (zc (dCB bV (zc (zh 2) zo)) zo)))) zo))) zo)) (zj 3)) aJ) (aB (dCB gA (zc (zh 3) zo))))))) (aG S.length R) (xs.map some++bx 3 none) S
def tI:PN:=fun xs S R=>(zQ (aA (zY 0 2 sL (zc (zh 0) (zc (zh 1) zo))) (zj 2)) (zQ (aA (aH 2 sF (zc (zh 1) (zc (zh 2) zo))) (bS 2 (aO (zj 3) (aO (zj 4) bN)))) (zQ (aA (dOp (dI0 fun i j=>i-j) (zh 4) (zh 3)) (zj 5)) (zQ (aA (dOp aC (zh 3) (dOp dIx (aX (zc (dC (.int 0)) (zc (dC (.int 1)) (zc (dUn (dUI fun i=>-i) (dC (.int 1))) (zc (dOp dFd (zh 5) (dC (.int 2))) (zc (dOp dFd (zh 5) (dC (.int 3))) (zc (dOp aC (zh 5) (dC (.int 1))) (zc (zh 5) (zc (dOp (dI0 fun i j=>i-j) (zh 5) (dC (.int 1))) zo))))))))) (zY 0 2 zq (zc (zh 0) (zc (dC (.int 8)) zo))))) (zj 6)) (zQ (aA (dOp aC (zh 6) (dOp dIx (aX (zc (dC (.int 0)) (zc (dC (.int 1)) (zc (dC (.int 2)) (zc (dOp dFd (zh 5) (dC (.int 2))) (zc (zh 5) (zc (dOp aC (zh 5) (dC (.int 2))) zo))))))) (zY 0 2 zq (zc (zh 0) (zc (dC (.int 6)) zo))))) (zj 7)) (aB (aK (zc (zh 2) (zc (zh 6) (zc (zh 7) zo)))))))))) (aG S.length R) (xs.map some++bx 6 none) S
def vF:PN:=fun xs S R=>(zQ (aA (zY 0 1 t9 (zc (zh 0) zo)) (zj 2)) (zQ (aA (cT zo) (zj 3)) (zQ (bE (bZ (zc (dOp aC (dC (.int 1)) (zY 0 2 zq (zc (zh 0) (zc (zh 1) zo)))) zo)) (zj 4) (dG (dBM fE (zh 3) (zc (dOp aC (aK (zc (dOp dIx (zh 2) (zh 4)) zo)) (zY 0 1 pW (zc (zh 0) zo))) zo)))) (aB (dCB gA (zc (zh 3) zo)))))) (aG S.length R) (xs.map some++bx 3 none) S
def t7:PN:=fun xs S R=>(aB (dCB fJ (zc (cV [none,none,some 1] (cC (dOp dIx (zh 0) (dC (.int 0)))) (bS 2 (aO (zj 0) (aO (zj 1) bN))) bA (dOp aU (zh 1) (dOp dIx (zh 2) (zh 0)))) zo))) (aG S.length R) (xs.map some++bx 0 none) S
def sR:PN:=fun xs S R=>(aB (fN (dIb fun i j=>decide (i<=j)) (dIb fun i j=>decide (i<=j)) (dOp dIx (zh 0) (dC (.int 1))) (aH 2 t7 (zc (zh 0) (zc (zh 1) zo))) (dOp dIx (zh 0) (dC (.int 2))))) (aG S.length R) (xs.map some++bx 0 none) S
def uV:PN:=fun xs S R=>(zQ (aA (cT zo) (zj 2)) (zQ (bE (cC (zh 1)) (bS 3 (aO (zj 3) (aO (zj 4) (aO (zj 5) bN)))) (zQ (aA (aX (zc (zh 4) (zc (zh 5) (zc (dOp aC (zh 4) (dOp dFd (dOp (dI0 fun i j=>i-j) (zh 5) (zh 4)) (dC (.int 2)))) (zc (dCB (dI2 fun i j=>if j<i then j else i) (zc (zh 5) (zc (dOp aC (zh 4) (dC (.int 1))) zo))) (zc (dCB (dI2 fun i j=>if j>i then j else i) (zc (zh 4) (zc (dOp (dI0 fun i j=>i-j) (zh 5) (dC (.int 1))) zo))) zo)))))) (zj 6)) (dG (dBM fE (zh 2) (zc (dOp dIx (dOp aC (zh 6) (aX (zc (dOp aC (zh 4) (dOp (dI (fun _ j=>0<j) fun i j=>i % j) (zY 0 2 zq (zc (zh 0) (zc (dOp (dI CPow fun i j=>i ^ j.toNat) (dC (.int 10)) (dC (.int 12))) zo))) (dOp aC (dOp (dI0 fun i j=>i-j) (zh 5) (zh 4)) (dC (.int 1))))) zo))) (zY 0 2 zq (zc (zh 0) (zc (dC (.int 6)) zo)))) zo))))) (aB (dCB gA (zc (zh 2) zo))))) (aG S.length R) (xs.map some++bx 5 none) S
def sS:PN:=fun xs S R=>(zQ (aA (aK (zc (dC (.int 0)) (zc (dC (.int 0)) zo))) (zj 2)) (zQ (bE (cC (zh 1)) (bS 2 (aO (zj 3) (aO (zj 4) bN))) (aA (aH 2 tP (zc (zh 2) (zc (aH 2 uI (zc (aH 1 kU (zc (dOp dIx (zh 0) (zh 3)) zo)) (zc (zh 4) zo))) zo))) (zj 2))) (aB (zh 2)))) (aG S.length R) (xs.map some++bx 3 none) S
def pZ:PN:=fun xs S R=>(aB (aH 2 sS (zc (zh 0) (zc (dOp dIx (zh 1) (dC (.int 0))) zo)))) (aG S.length R) (xs.map some++bx 0 none) S
def Fc:PN:=fun xs S R=>(zQ (aA (dC (.int 0)) (zj 2)) (zQ (aA (dC (.int 0)) (zj 3)) (zQ (bE (cC (zh 1)) (bS 2 (aO (zj 4) (aO (zj 5) bN))) (zQ (aA (aX (zc (dOp aU (zh 5) (dOp dIx (dOp dIx (zh 0) (zh 4)) (dC (.int 1)))) (zc (dOp aU (zh 5) (dOp dIx (dOp dIx (zh 0) (zh 4)) (dC (.int 2)))) zo))) (zj 6)) (zQ (aA (dOp aC (zh 2) (dCB lW (zc (zh 6) zo))) (zj 2)) (aA (dOp aC (zh 3) (dCB mY (zc (zh 6) zo))) (zj 3))))) (aB (aK (zc (zh 2) (zc (zh 3) zo))))))) (aG S.length R) (xs.map some++bx 5 none) S
def fM:PN:=fun xs S R=>(aB (dCB fJ (zc (cV [none,none,some 1,some 2] (gM (zh 0)) (bS 2 (aO (zj 0) (aO (zj 1) bN))) (dB (fN (dIb fun i j=>decide (i<=j)) (dIb fun i j=>decide (i<=j)) (dOp dIx (zh 2) (dC (.int 1))) (dOp aC (zh 3) (zh 0)) (dOp dIx (zh 2) (dC (.int 2))))) (zh 1)) zo))) (aG S.length R) (xs.map some++bx 0 none) S
def tR:PN:=fun xs S R=>(zQ (aI (dB (dOp bJ (zh 2) (dC (.int 0)))) (aB (kH (zc (cV [none,none,some 1] (gM (zh 0)) (bS 2 (aO (zj 0) (aO (zj 1) bN))) bA (aK (zc (zh 0) (zc (dOp aU (zh 1) (aH 1 mW (zc (zh 2) zo))) zo)))) zo))) aJ) (zQ (jI (iI true 3 (.k []) (jA (fun M=>(hJ (zc (dOp dIx (zh 1) (dC (.int 0))) (zc (dOp aC (dOp dIx (zh 1) (dC (.int 1))) (dC (.int 1))) zo)))) (zj 4) (jA (fun M=>(gM (zh 0))) (bS 2 (aO (zj 5) (aO (zj 6) bN))) (oP (iS (aA (dOp aC (zh 5) (dOp aU (zh 2) (zh 4))) (zj 7))) (jY 3 (fun M=>(zh 7)) (fun M=>(dOp aC (iN M (zh 3) (zh 7) (dC (.int 0))) (zh 6))))))))) (aB (zh 3)))) (aG S.length R) (xs.map some++bx 5 none) S
def uR:PN:=fun xs S R=>(zQ (Dt (dB (dOp dS (zh 0) (dC (.int 0)))) (zQ (aA (dOp (dI (fun _ j=>0<j) fun i j=>i % j) (zh 1) (zh 0)) (zj 2)) (zQ (aA (zh 0) (zj 1)) (aA (zh 2) (zj 0))))) (aB (zh 1))) (aG S.length R) (xs.map some++bx 1 none) S
def o8:PN:=fun xs S R=>(aB (dCB fJ (zc (cV [none,none,some 1] (cC (dOp dIx (zh 0) (dC (.int 0)))) (bS 2 (aO (zj 0) (aO (zj 1) bN))) (dB (dOp (dIb fun i j=>decide (i<j)) (zh 0) (dCB bV (zc (zh 2) zo)))) (dOp aU (zh 1) (dOp dIx (zh 2) (zh 0)))) zo))) (aG S.length R) (xs.map some++bx 0 none) S
def qO:PN:=fun xs S R=>(zQ (aA (dCB bV (zc (zh 2) zo)) (zj 5)) (zQ (aA (aH 1 kU (zc (dOp dIx (zh 0) (zh 5)) zo)) (zj 6)) (zQ (aA (gG (zc (dOp dIx (zh 1) (dC (.int 0))) zo)) (zj 7)) (zQ (aA (aH 2 o8 (zc (zh 1) (zc (zh 2) zo))) (zj 8)) (zQ (aI (dB (dOp (iE [] true) (zh 5) (zh 7))) (aB (dOp aC (dOp dIx (zh 6) (dC (.int 0))) (dOp dFd (zh 4) (aH 3 fM (zc (zh 3) (zc (zh 1) (zc (zh 8) zo))))))) aJ) (bE (hJ (zc (dOp dIx (zh 6) (dC (.int 0))) (zc (dOp aC (dOp dIx (zh 6) (dC (.int 1))) (dC (.int 1))) zo))) (zj 9) (zQ (aA (aH 3 fM (zc (zh 3) (zc (zh 1) (zc (dOp aC (zh 8) (dOp aU (hZ [] (zh 7) (zh 5)) (zh 9))) zo)))) (zj 10)) (zQ (aI (dB (dOp (dIb fun i j=>decide (i<j)) (zh 4) (zh 10))) (aB (zh 9)) aJ) (aA (dOp (dI0 fun i j=>i-j) (zh 4) (zh 10)) (zj 4)))))))))) (aG S.length R) (xs.map some++bx 6 none) S
def k7:PN:=fun xs S R=>(zQ (aA (dOp (dI0 fun i j=>i-j) (dCB bV (zc (zh 2) zo)) (dC (.int 1))) (zj 4)) (zQ (aA (dOp dIx (dOp dIx (zh 0) (zh 4)) (dC (.int 1))) (zj 5)) (zQ (aA (gG (zc (dOp dIx (zh 1) (dC (.int 0))) zo)) (zj 6)) (zQ (aA (aH 2 o8 (zc (zh 1) (zc (dSl eU (zh 2) cW (cY (zh 4))) zo))) (zj 7)) (zQ (aI (dB (dOp (iE [] true) (zh 4) (zh 6))) (aB (dOp aU (dOp (dI0 fun i j=>i-j) (dOp dIx (zh 2) (zh 4)) (zh 5)) (aH 3 fM (zc (zh 3) (zc (zh 1) (zc (zh 7) zo)))))) aJ) (aB (dCB fJ (zc (cV [none,some 3,some 1,some 7,some 6,some 4] (hJ (zc (zh 5) (zc (dOp dIx (zh 2) (zh 4)) zo))) (zj 0) bA (aH 3 fM (zc (zh 1) (zc (zh 2) (zc (dOp aC (zh 3) (dOp aU (hZ [] (zh 4) (zh 5)) (zh 0))) zo))))) zo)))))))) (aG S.length R) (xs.map some++bx 4 none) S
def gO:PX:=fun xs S R EX=>(zQ (aA (aH 1 mW (zc (aH 2 pZ (zc (zh 0) (zc (zh 1) zo))) zo)) (zj 2)) (zQ (aI (dB (dOp (dIb fun i j=>decide (j<i)) (zh 2) (dC (.int 400)))) (kT EX 180 ["many","most"] (zc (zh 2) (zc (dC (.int 400)) zo))) aJ) (zQ (aA (gG (zc (dOp dIx (zh 1) (dC (.int 0))) zo)) (zj 3)) (zQ (aA (cT (zc (dC (.dict [(.int 0,.int 1)])) zo)) (zj 4)) (zQ (bE (lH (zc (dOp (dI0 fun i j=>i-j) (dCB bV (zc (zh 0) zo)) (dC (.int 1))) (zc (dUn (dUI fun i=>-i) (dC (.int 1))) (zc (dUn (dUI fun i=>-i) (dC (.int 1))) zo)))) (zj 5) (dG (dBM fE (zh 4) (zc (aH 3 tR (zc (dOp dIx (zh 4) (dUn (dUI fun i=>-i) (dC (.int 1)))) (zc (aH 1 kU (zc (dOp dIx (zh 0) (zh 5)) zo)) (zc (iN [] (zh 3) (zh 5) (dC (.int 0))) zo)))) zo)))) (zQ (dG (gJ gC (zh 4))) (aB (zh 4)))))))) (aG S.length R) (xs.map some++bx 4 none) S
def lR:PX:=fun xs S R EX=>(zQ (aA (bW EX 2 gO (zc (zh 0) (zc (zh 1) zo))) (zj 3)) (zQ (aI (dOr (cS (c9 (aH 1 nF (zc (zh 2) zo)))) (cS (dB (fN (dIb fun i j=>decide (i<=j)) (dIb fun i j=>decide (i<j)) (dC (.int 0)) (zh 2) (aH 3 fM (zc (dOp dIx (zh 3) (dC (.int 0))) (zc (zh 1) (zc (dC (.int 0)) zo)))))))) (iH EX 61) aJ) (zQ (aA (aK zo) (zj 4)) (zQ (aA (zh 2) (zj 5)) (zQ (bE (bZ (zc (dCB bV (zc (zh 0) zo)) zo)) (zj 6) (zQ (aA (aH 5 qO (zc (zh 0) (zc (zh 1) (zc (zh 4) (zc (dOp dIx (zh 3) (dOp aC (zh 6) (dC (.int 1)))) (zc (zh 5) zo)))))) (zj 7)) (zQ (aA (dOp aC (zh 4) (aK (zc (zh 7) zo))) (zj 4)) (aA (dOp (dI0 fun i j=>i-j) (zh 5) (aH 4 k7 (zc (zh 0) (zc (zh 1) (zc (zh 4) (zc (dOp dIx (zh 3) (dOp aC (zh 6) (dC (.int 1)))) zo)))))) (zj 5))))) (aB (zh 4))))))) (aG S.length R) (xs.map some++bx 5 none) S
def lY:PX:=fun xs S R EX=>(zQ (aA (bW EX 2 gO (zc (zh 0) (zc (zh 1) zo))) (zj 3)) (zQ (aI (dOr (cS (c9 (aH 2 uO (zc (zh 0) (zc (zh 2) zo))))) (cS (c9 (aH 2 sR (zc (zh 1) (zc (zh 2) zo)))))) (iH EX 61) aJ) (aB (dCB fJ (zc (cV [none,some 0,some 1,some 2,some 3] (bZ (zc (dCB bV (zc (zh 0) zo)) zo)) (zj 0) bA (aH 4 k7 (zc (zh 1) (zc (zh 2) (zc (dSl i9 (zh 3) cW (cY (dOp aC (zh 0) (dC (.int 1))))) (zc (dOp dIx (zh 4) (dOp aC (zh 0) (dC (.int 1)))) zo)))))) zo))))) (aG S.length R) (xs.map some++bx 1 none) S
def iC:PX:=fun xs S R EX=>(aB (jS (dOp dIx (bW EX 2 gO (zc (zh 0) (zc (zh 1) zo))) (dC (.int 0))))) (aG S.length R) (xs.map some++bx 0 none) S
def k6:PX:=fun xs S R EX=>(aB (aH 3 fM (zc (dOp dIx (bW EX 2 gO (zc (zh 0) (zc (zh 1) zo))) (dC (.int 0))) (zc (zh 1) (zc (dC (.int 0)) zo))))) (aG S.length R) (xs.map some++bx 0 none) S
def lZ:PX:=fun xs S R EX=>(zQ (aA (bW EX 2 k6 (zc (zh 0) (zc (zh 1) zo))) (zj 2)) (zQ (aA (aH 1 qR (zc (zh 0) zo)) (zj 3)) (zQ (aA (aH 2 uR (zc (zh 2) (zc (zh 3) zo))) (zj 4)) (aB (aK (zc (dOp dFd (zh 2) (zh 4)) (zc (dOp dFd (zh 3) (zh 4)) zo))))))) (aG S.length R) (xs.map some++bx 3 none) S
def lU:PX:=fun xs S R EX=>(zQ (aA (aH 1 qR (zc (zh 0) zo)) (zj 2)) (zQ (aA (dC (.int 0)) (zj 3)) (bE (cC (bW EX 2 iC (zc (zh 0) (zc (zh 1) zo)))) (bS 2 (aO (zj 4) (aO (zj 5) bN))) (zQ (aA (dOp aC (zh 3) (zh 5)) (zj 3)) (aI (dB (dOp (dIb fun i j=>decide (j<=i)) (dOp aU (dC (.int 2)) (zh 3)) (zh 2))) (aB (zh 4)) aJ))))) (aG S.length R) (xs.map some++bx 4 none) S
def lQ:PX:=fun xs S R EX=>(zQ (aA (dC .none) (zj 2)) (zQ (aA (dC (.int 0)) (zj 3)) (zQ (bE (cC (bW EX 2 iC (zc (zh 0) (zc (zh 1) zo)))) (bS 2 (aO (zj 4) (aO (zj 5) bN))) (aI (dB (dOp (dIb fun i j=>decide (j<i)) (zh 5) (zh 3))) (zQ (aA (zh 4) (zj 2)) (aA (zh 5) (zj 3))) aJ)) (aB (zh 2))))) (aG S.length R) (xs.map some++bx 4 none) S
def mT:PX:=fun xs S R EX=>(zQ (aI (dB (dOp bJ (zh 0) (dC (.int 0)))) (aB (bW EX 2 iC (zc (zh 1) (zc (zh 2) zo)))) aJ) (zQ (aI (dB (dOp bJ (zh 0) (dC (.int 1)))) (aB (bW EX 2 k6 (zc (zh 1) (zc (zh 2) zo)))) aJ) (zQ (aI (dB (dOp bJ (zh 0) (dC (.int 2)))) (aB (bW EX 2 lZ (zc (zh 1) (zc (zh 2) zo)))) aJ) (zQ (aI (dB (dOp bJ (zh 0) (dC (.int 3)))) (aB (bW EX 3 lR (zc (zh 1) (zc (zh 2) (zc (zh 3) zo))))) aJ) (zQ (aI (dB (dOp bJ (zh 0) (dC (.int 4)))) (aB (bW EX 3 lY (zc (zh 1) (zc (zh 2) (zc (zh 3) zo))))) aJ) (zQ (aI (dB (dOp bJ (zh 0) (dC (.int 5)))) (aB (bW EX 2 lU (zc (zh 1) (zc (zh 2) zo)))) aJ) (aB (bW EX 2 lQ (zc (zh 1) (zc (zh 2) zo)))))))))) (aG S.length R) (xs.map some++bx 0 none) S
def lS:PN:=fun xs S R=>(zQ (jX knD 4 mT (zc (zh 0) (zc (zh 1) (zc (zh 2) (zc (zh 3) zo)))) 4 (zQ (aI (dB (dOp dS (iV nI (zc (zh 4) zo)) (dC (.str "great")))) (aB (aK (zc (iV nI (zc (zh 4) zo)) (zc (dC (.int 0)) (zc (dC (.int 0)) zo))))) aJ) (zQ (aI (dOr (cS (c9 (aH 1 qS (zc (dXA [180] (zh 4) "many") zo)))) (cS (c9 (aH 1 qS (zc (dXA [180] (zh 4) "most") zo))))) (aB (aK (zc (dC (.str "other")) (zc (dC (.int 0)) (zc (dC (.int 0)) zo))))) aJ) (aB (aK (zc (dC (.str "great")) (zc (dXA [180] (zh 4) "many") (zc (dXA [180] (zh 4) "most") zo)))))))) (aB (aK (zc (dC (.str "told")) (zc (dC (.int 0)) (zc (dC (.int 0)) zo)))))) (aG S.length R) (xs.map some++bx 1 none) S
def rE:PN:=fun xs S R=>(zQ (aA (aH 2 sF (zc (zh 0) (zc (dOp dIx (zh 1) (dC (.int 0))) zo))) (bS 2 (aO (zj 3) (aO (zj 4) bN)))) (zQ (bE (bZ (zc (dC (.int 7)) zo)) (zj 5) (bE (cC (zh 2)) (zj 6) (zQ (aA (aH 4 lS (zc (zh 5) (zc (zh 0) (zc (zh 1) (zc (zh 6) zo))))) (zj 7)) (zQ (aI (dQ (dB (dOp (dIb fun i j=>decide (j<i)) (dOp (dI0 fun i j=>i-j) (zh 4) (zh 3)) (dC (.int 399)))) (dB (dOp dS (zh 7) (aK (zc (dC (.str "great")) (zc (dOp aC (dOp (dI0 fun i j=>i-j) (zh 4) (zh 3)) (dC (.int 1))) (zc (dC (.int 400)) zo))))))) (aB (dC (.bool false))) aJ) (zQ (aI (dQ (dB (dOp (dIb fun i j=>decide (i<j)) (dOp (dI0 fun i j=>i-j) (zh 4) (zh 3)) (dC (.int 400)))) (dB (dOp kC (dOp dIx (zh 7) (dC (.int 0))) (aK (zc (dC (.str "told")) (zc (dC (.str "set")) zo)))))) (aB (dC (.bool false))) aJ) (aI (dQ (dB (dOp (dIb fun i j=>decide (i<j)) (dOp (dI0 fun i j=>i-j) (zh 4) (zh 3)) (dC (.int 400)))) (dQ (dB (dOp kC (zh 5) (aK (zc (dC (.int 3)) (zc (dC (.int 4)) zo))))) (dB (dOp dS (dOp dIx (zh 7) (dC (.int 0))) (dC (.str "told")))))) (aB (dC (.bool false))) aJ)))))) (aB (dOp bJ (aH 2 pZ (zc (zh 0) (zc (zh 1) zo))) (aK (zc (zh 3) (zc (zh 4) zo))))))) (aG S.length R) (xs.map some++bx 5 none) S
def xH:DS:=(bE (cC (aX (zc (aK (zc (dC (.int 399)) (zc (dC (.int 1)) zo))) (zc (aK (zc (dC (.int 400)) (zc (dUn (dUI fun i=>-i) (dC (.int 1))) zo))) (zc (aK (zc (dC (.int 133)) (zc (dC (.int 3)) zo))) (zc (aK (zc (dC (.int 134)) (zc (dUn (dUI fun i=>-i) (dC (.int 3))) zo))) zo)))))) (bS 2 (aO (zj 1) (aO (zj 2) bN))) (aI (cS (c9 (aH 3 rE (zc (aK (zc (aK (zc (dC (.str "b")) (zc (dC (.int 5)) (zc (dOp aC (dC (.int 5)) (zh 1)) zo)))) (zc (aK (zc (dC (.str "a")) (zc (dC (.int 0)) (zc (dOp (dI CPow fun i j=>i ^ j.toNat) (dC (.int 10)) (dC (.int 50))) zo)))) zo))) (zc (aK (zc (aK (zc (aK (zc (dC (.int 0)) (zc (zh 2) zo))) zo)) (zc (dC (.int 7)) (zc (dC (.int 9)) zo)))) (zc (aX (zc (dC (.int 0)) (zc (aK (zc (dC (.int 5)) (zc (dC (.int 0)) zo))) (zc (dC .none) zo)))) zo)))))) (aB (dC (.bool false))) aJ))
def yC:DS:=(zQ (aA (aH 1 w4 (zc (zh 3) zo)) (zj 4)) (zQ (aA (zY 0 2 vF (zc (zh 4) (zc (dC (.int 8)) zo))) (zj 5)) (zQ (aA (zY 0 2 tI (zc (zh 4) (zc (zh 5) zo))) (zj 6)) (zQ (aA (aX (zc (zY 0 2 uV (zc (zh 4) (zc (zh 5) zo))) (zc (dOp dIx (aX (zc (dC (.int 0)) (zc (dUn (dUI fun i=>-i) (dC (.int 1))) (zc (dC .none) (zc (dC (.str "")) (zc (dC (.bool true)) zo)))))) (zY 0 2 zq (zc (zh 4) (zc (dC (.int 5)) zo)))) zo))) (zj 7)) (aI (cS (c9 (aH 3 rE (zc (zh 5) (zc (zh 6) (zc (zh 7) zo)))))) (aB (dC (.bool false))) aJ)))))
end My
namespace My
open PySem L2
theorem seq1{t u:DS}{E:DEnds}{δ:XE}{S:Sto}(h:t { E with nx:=u E } δ S):zQ t u E δ S:=h
theorem seqm{t u:DSm}{E:DEndsM}{δ:XE}{S:Sto}{M:DM}(h:t { E with nx:=u E } δ S M):oP t u E δ S M:=h
theorem cut{t u:DS}{E:DEnds}{δ:XE}{S:Sto}(I:XE->Sto->Prop)(h1:∀N:XE->Sto->Prop,(∀ δ' S',I δ' S'->N δ' S')->t { E with nx:=N } δ S)(h2:∀ δ' S',I δ' S'->u E δ' S'):zQ t u E δ S:=h1 _ h2
theorem pP(i j:Int):lh (.int i) (.int j)=decide (i=j):=rfl
theorem oR(i:Int):gq (.int i)=true:=rfl
theorem oO(i:Bool):gq (.bool i)=true:=rfl
theorem oX:("int" ∈ iK)=True:=eq_true dz
theorem pB:("bool" ∈ iK)=True:=eq_true dz
theorem rO:("tuple" ∈ iK)=True:=eq_true dz
end My
namespace My
open PySem L2
local macro_rules|`(tactic|walk_at $s:str)=>do
 let xs<-("aA qB kH lH gG pU all_cons List.all_nil Bool.and_self jX knD iH kT dXA bW jI iI iS qT jA jY hZ iN iE gM iV jR pA p8 jS oY o9 qM i9 zj zh dC dO dOp dUn zo zc dCB aK aX cT dB cS dQ dOr gQ oA iM dIf fN dI dI0 dIb dUI bJ dS pX rH qY pY rV nK qK oC pC oE oS qZ rQ dFd c9 rB cW cY dSl bV kF pN fD iJ dI2 gA dBM gJ jL i6 fE gC rF qF jJ jU i7 fJ lG aH zY p9 p5 qX nX p0 asL rJ rD pM rK rS oQ oZ p7 nV p6 nO pQ n9 n6 qW nL aB aI dG aJ oH bE cC qL pK bZ hJ nZ j7 bS aO pD oK rX qQ bN jD cV fO bA eX rL kZ nN nG qE rP List.replicate map_cons map_nil map_some Option.bind_some Option.bind_none Option.join_some getElem?_cons_zero getElem?_cons_succ set_cons_zero set_cons_succ List.take_succ_cons take_zero List.take_nil length_cons length_nil nil_append cons_append Option.some.injEq exists_eq_left' exists_eq_left List.cons.injEq XV.d.injEq XV.l.injEq XV.o.injEq PyData.int.injEq PyData.list.injEq PyData.tuple.injEq PyData.bool.injEq PyData.str.injEq and_true true_and decide_eq_true_eq Bool.not_true Bool.not_false Bool.false_eq_true Bool.true_eq_false not_true_eq_false not_false_eq_true decide_true decide_false Bool.not_eq_true' mL decide_eq_false_iff_not Nat.reduceAdd Nat.reduceMul zero_add Nat.reduceLT Nat.reduceLeDiff Nat.reduceEqDiff Int.reduceLT Int.reduceLE Int.reduceNeg Int.reducePow Int.reduceToNat Int.reduceEq Int.reduceAdd Int.reduceSub Int.reduceMul le_refl zero_le length_append length_map pP oR oO List.isEmpty_nil List.isEmpty_cons Int.cast_ofNat_Int Int.natCast_zero Int.natCast_one oX pB rO o7 rC qP".splitOn " ").toArray.mapM fun n=>`(Lean.Parser.Tactic.simpLemma|$(Lean.mkIdent n.toName):ident)
 match s.getString with
 |"d"=>`(tactic|((try dsimp only[↓reduceIte,$xs,*]);(try simp only[↓reduceIte,$xs,*])))
 |"n"=>`(tactic|(refine seq1 ?_; walk_at "d"))
 |"dX"=>`(tactic|(try simp -implicitDefEqProofs only [↓reduceIte,$xs,*]))
 |"e"=>`(tactic|((try dsimp only[zQ,oP,↓reduceIte,$xs,*]);(try simp only[zQ,oP,↓reduceIte,$xs,*])))
 |_=>Lean.Macro.throwUnsupported
section
variable {R:RX}
theorem D4{n:Int}(q:∀m,0<=m->R (.d (.int m)) []):nJ [.d (.int n)] [] R:=by
 unfold nJ;walk_at "e";have h1:=lq (n+7919) (show (2147483647:Int)≠0 by decide);have h2:=kj (n+7919) (show (0:Int)<2147483647 by decide);exact⟨dE yw yw,dE dz dz,q _ (lq _ dz)⟩
theorem zD{p:List bq}{n:Int}(hp:aR p)(hn:0<n)(hb:n.natAbs.log2<9000)(q:∀r p',0<=r->r<n->aR p'->R (.d (.int r)) [p']):zq [.l 0,.d (.int n)] [p] R:=by
 obtain⟨l,g,sd,rfl,hl⟩:=hp;unfold zq;walk_at "e";split
 ·refine⟨hn,.inl ⟨⟨hn,hb⟩,0,rfl,?_⟩⟩;walk_at "e";exact q _ _ (lq _ yw) (kj _ hn) ⟨_,_,_,rfl,Int.ediv_nonneg hl yw⟩
 ·refine D4 fun m _=>?_;walk_at "e";refine D4 fun m' h'=>?_;walk_at "e";refine⟨2,rfl,?_⟩;walk_at "e";exact .inl ⟨⟨by decide,by decide +kernel⟩,hn,q _ _ (lq _ yw) (kj _ hn) ⟨_,_,_,rfl,hl⟩⟩
theorem IV{n:Int}(q:∀p,aR p->R (.l 0) [p]):Db [.d (.int n)] [] R:=by
 unfold Db;walk_at "e";refine⟨⟨by decide,by decide,by decide⟩,?_⟩;refine .inr (q _ ⟨_,_,_,rfl,?_⟩);split<;>omega
theorem K3{n:Int}(q:∀p,aR p->R (.l 0) [p]):w4 [.d (.int n)] [] R:=IV q
theorem Ls{p:List bq}(hp:aR p)(q:∀r p',-10 ^ 58<=r->r<=10 ^ 58->aR p'->R (.d (.int r)) [p']):C2 [.l 0] [p] R:=by
 unfold C2;walk_at "e";refine zD hp dz (by decide +kernel) fun r p1 r0 r1 aa=>?_;walk_at "e";split
 ·refine zD aa dz (by decide +kernel) fun r p2 r0 r1 z=>?_;walk_at "e";exact q _ _ yw yw z
 ·split
  ·refine zD aa dz (by decide +kernel) fun r p2 r0 r1 z=>?_;walk_at "e";exact q _ _ yw yw z
  ·refine⟨⟨by decide,by decide,by decide⟩,dE dz dz,?_⟩;have k1:(10:Int) ^ 30=1000000000000000000000000000000:=by decide +kernel
   have k2:(10:Int) ^ 28=10000000000000000000000000000:=by decide +kernel
   refine zD aa (by decide +kernel) (by decide +kernel) fun r p2 r0 r1 z=>?_;walk_at "e"
   try simp only[k1,k2]at r1 ⊢
   refine⟨⟨by decide,by decide,by decide⟩,⟨by decide,by decide,by decide⟩,tX 128 128 yw (by decide +kernel),q _ _ yw yw z⟩
theorem Hv{p:List bq}(hp:aR p)(q:∀r p',-10 ^ 58<=r->r<=10 ^ 58->aR p'->R (.d (.int r)) [p']):AC [.l 0] [p] R:=Ls hp q
theorem Mm{p:List bq}(hp:aR p)(q:∀lo hi p',lo<=hi->-10 ^ 58<=lo->hi<=10 ^ 59->aR p'->R (.d (spD lo hi)) [p']):pW [.l 0] [p] R:=by
 unfold pW;walk_at "e";refine Hv hp fun lo p1 l0 l1 aa=>?_;walk_at "e";refine zD aa dz (by decide +kernel) fun wd p2 w0 w1 ae=>?_;walk_at "e";refine zD ae dz (by decide +kernel) fun t p3 t0 t1 z=>?_;walk_at "e";split
 ·refine⟨⟨by decide,by decide,by decide⟩,?_⟩;refine zD z (by decide +kernel) (by decide +kernel) fun wd p4 w0 w1 ac=>?_;walk_at "e";have k1:(10:Int) ^ 40=10000000000000000000000000000000000000000:=by decide +kernel
  try rw[k1]at w1
  exact q lo (lo+wd) _ yw l0 yw ac
 ·exact q lo (lo+wd) _ yw l0 yw z
end
section
variable {R:RX}
theorem MT{α:Type}[Inhabited α]{l:List α}{i:Int}(h0:0<=i)(h1:i<l.length)(d:α):atI l i=some (l.getD i.toNat d):=by
 obtain⟨k,rfl⟩:=ix h0;have hk:k<l.length:=yw
 rw[fR (cw hk)];simp[gk,hk]
theorem BS:("abcdefghijklmnopqrstuvwxyz":Str).length=26:=by decide
theorem LU:("abcdefghijklmnopqrstuvwxyz":Str).cps.toList.length=26:=by rw[<- BS];simp[Str.length]
theorem Au:("abcdefghijklmnopqrstuvwxyz":Str).length<=fc:=kl (small1000 (by rw[BS];decide))
theorem len1(c:Nat):(⟨#[c]⟩:Str).length=1:=rfl
abbrev lsgn (i:Int):Str:=⟨#[("abcdefghijklmnopqrstuvwxyz":Str).cps.toList.getD i.toNat 0]⟩
theorem CC{i:Int}(h0:0<=i)(h1:i<26):atI ("abcdefghijklmnopqrstuvwxyz":Str).cps.toList i=some (("abcdefghijklmnopqrstuvwxyz":Str).cps.toList.getD i.toNat 0):=MT h0 (by rw[LU];exact h1) 0
theorem Cf{ds:List bq}{a b:Option Int}{d:bq}(m:d∈aV ds a b):d∈ds:=by
 unfold aV at m;exact mem_of_mem_drop (qp m)
def gI(z:Str):Bool:=decide (z.length<=100)&&PyData.strOk z&&!decide (z = "zy")
theorem Nt:∀f<26,∀k<8,gI (PySem.Txt.mul (lsgn (((f:Nat)+5*(0+((k:Nat):Int))) % 26)) (1+((f:Nat)+3*(0+((k:Nat):Int))) % 8))=true:=by decide +kernel
theorem Im:∀f<26,∀k<8,gI (PySem.Txt.slice (PySem.Txt.join "" ((jb 8).map fun k:Nat=>lsgn (((f:Nat)+7*(0+(k:Int))) % 26))) none (some (0+((k:Nat):Int)+1)))=true:=by decide +kernel
theorem Gy{ds:List bq}(h:∀d∈ds,∃z:Str,d=.str z/\gI z=true):∃zs:List Str,ds=zs.map lu/\zs.length=ds.length/\∀z∈zs,gI z=true:=by
 induction ds with
 |nil=>exact⟨[],rfl,rfl,yv⟩
 |cons d ds ih=>
  obtain⟨z,rfl,hz⟩:=h d fq;obtain⟨zs,rfl,hl,aa⟩:=ih fun d m=>h d (cz _ m);refine⟨z::zs,rfl,yv,fun y m=>?_⟩;rcases mem_cons.mp m with rfl|m
  ·exact hz
  ·exact aa y m
theorem FL(a b:Str):(a++b).length=a.length+b.length:=strLen_append a b
theorem Ds:∀zs:List Str,(∀z∈zs,z.length<=1)->(Str.join "" zs).length<=zs.length
 | [],_=>dw 0
 | [a],h=>h a fq
 |a::b::r,h=>by
  show (a ++ "" ++ Str.join "" (b::r)).length<=_;rw[FL,FL];have e:("":Str).length=0:=rfl;have h1:=h a fq;have h2:=Ds (b::r) fun z m=>h z (cz _ m);rw[e];simp only[fy]at h2 ⊢;omega
def pH(ds:List bq):Prop:=∀d∈ds,∃z:Str,d=.str z/\gI z=true
theorem IY{ds:List bq}{a:Int}(h0:0<=a)(h1:a<=ds.length):(aV ds (some a) none++aV ds none (some a)).length=ds.length:=by
 obtain⟨k,rfl⟩:=ix h0;have e1:HT.sIx ds.length 0 (some (k:Int))=k:=by rw[HT.sIx_nat];omega
 have e2:HT.sIx ds.length ds.length (some (k:Int))=k:=by rw[HT.sIx_nat];omega
 have e3:HT.sIx ds.length ds.length none=ds.length:=rfl;have e4:HT.sIx ds.length 0 none=0:=rfl;unfold aV;rw[e1,e2,e3,e4,gu,nv,nv,length_drop,length_drop];omega
def xU:List Str:=["part","gap","cut","a","aa","dear","b","keeps"]
set_option maxHeartbeats 8000000 in
theorem JT{p:List bq}(hp:aR p)(q:∀(ns:List Str) p',ns.length=8->(∀z∈ns,gI z=true)->aR p'->R (.d (.list (ns.map lu))) [p']):FJ [.l 0] [p] R:=by
 unfold FJ;walk_at "dX"
 (refine seq1 ?_;walk_at "dX")
 (refine seq1 ?_;walk_at "dX")
 refine zD hp dz (by decide +kernel) fun aj p1 w0 w1 ak=>?_;walk_at "dX"
 (refine seq1 ?_;walk_at "dX")
 refine zD ak dz (by decide +kernel) fun aa p2 f0 f1 an=>?_;walk_at "dX";refine cut (fun δ' S'=>∃(ds:List bq),pH ds/\ds.length=8/\S'=[p2,ds]/\δ'=[some (.l 0),some (.d (.str ("abcdefghijklmnopqrstuvwxyz":Str))),some (.d (.int aj)),some (.d (.int aa)),some (.l 1),none,none]) (fun N hN=>?_) ?_
 ·walk_at "dX";refine cmp1 (S0:=[p2]) (fun k:Nat=>.str (PySem.Txt.mul (lsgn ((aa+5*(0+k)) % 26)) (1+(aa+3*(0+k)) % 8))) rfl (jb 8) yv ?_ ?_
  ·intro k mk u acc R' hk;have b1:=lq (aa+5*(0+(k:Int))) (show (26:Int)≠0 by decide);have b2:=kj (aa+5*(0+(k:Int))) (show (0:Int)<26 by decide);have b3:=lq (aa+3*(0+(k:Int))) (show (8:Int)≠0 by decide);have b4:=kj (aa+3*(0+(k:Int))) (show (0:Int)<8 by decide);walk_at "dX";refine⟨dE dz dz,Au,_,CC b1 b2,?_⟩;walk_at "dX";refine⟨dE dz dz,?_⟩;walk_at "dX";exact⟨by rw[len1];decide,yw,yw,hk _⟩
  ·refine hN _ _ ⟨_,?_,yv,rfl,rfl⟩;intro d m;obtain⟨k,mk,rfl⟩:=mem_map.mp m;obtain⟨f,rfl⟩:=ix f0;exact⟨_,rfl,Nt f yw k (mem_range.mp mk)⟩
 rintro _ _ ⟨ds,ae,hl,rfl,rfl⟩;refine cut (fun δ' S'=>∃(ds:List bq) (T:Sto) (k:Nat) (u:Option XV),pH ds/\ds.length=8/\T[k]?=some ds/\S'=p2::T/\δ'=[some (.l 0),some (.d (.str ("abcdefghijklmnopqrstuvwxyz":Str))),some (.d (.int aj)),some (.d (.int aa)),some (.l (k+1)),u,none]) (fun N hN=>?_) ?_
 ·walk_at "dX";split
  ·refine seq1 ?_;walk_at "dX";refine cmp1 (S0:=[p2,ds]) (fun k:Nat=>.str (lsgn ((aa+7*(0+k)) % 26))) rfl (jb 8) yv ?_ ?_
   ·intro k mk u acc R' hk;have b1:=lq (aa+7*(0+(k:Int))) (show (26:Int)≠0 by decide);have b2:=kj (aa+7*(0+(k:Int))) (show (0:Int)<26 by decide);walk_at "dX";refine⟨dE dz dz,Au,_,CC b1 b2,?_⟩;exact hk _
   ·walk_at "dX";refine⟨(jb 8).map fun k:Nat=>lsgn ((aa+7*(0+k)) % 26),by rw[ki];rfl,by decide,yv,fun y m=>?_,?_⟩
    ·obtain⟨k,_,rfl⟩:=mem_map.mp m;show 1<=1000;decide
    ·have wl:(PySem.Txt.join "" ((jb 8).map fun k:Nat=>lsgn ((aa+7*(0+k)) % 26))).length<=8*1016:=by
      have:=Gg (y:=("":Str)) (zs:=(jb 8).map fun k:Nat=>lsgn ((aa+7*(0+k)) % 26)) dz (fun y m=>by
       obtain⟨k,_,rfl⟩:=mem_map.mp m;show 1<=1000;decide)
      simpa using this
     have ao:(PySem.Txt.join "" ((jb 8).map fun k:Nat=>lsgn ((aa+7*(0+k)) % 26))).length<=8:=by
      show (Builtin.Str.glued _ _).length<=_;rw[StrLaws.glued_eq_join];have:=Ds ((jb 8).map fun k:Nat=>lsgn ((aa+7*(0+k)) % 26)) (fun y m=>by
       obtain⟨k,_,rfl⟩:=mem_map.mp m;exact dw 1)
      simpa using this
     walk_at "dX";refine cmp1 (S0:=[p2,ds]) (fun k:Nat=>.str (PySem.Txt.slice (PySem.Txt.join "" ((jb 8).map fun k:Nat=>lsgn ((aa+7*(0+k)) % 26))) none (some (0+k+1)))) rfl (jb 8) yv ?_ ?_
     ·intro k mk u acc R' hk;walk_at "dX";exact⟨ky wl (by rw[ji];decide),hk _⟩
     ·refine hN _ _ ⟨_,[ds,_],1,_,?_,?_,rfl,rfl,rfl⟩
      ·intro d m;obtain⟨k,mk,rfl⟩:=mem_map.mp m;obtain⟨f,rfl⟩:=ix f0;exact⟨_,rfl,Im f yw k (mem_range.mp mk)⟩
      ·simp
  ·exact hN _ _ ⟨ds,[ds],0,none,ae,hl,rfl,rfl,rfl⟩
 rintro _ _ ⟨ds,T,k,u,ae,hl,hk,rfl,rfl⟩;refine cut (fun δ' S'=>∃(ds:List bq) (T:Sto) (k:Nat),pH ds/\ds.length=8/\T[k]?=some ds/\S'=p2::T/\δ'=[some (.l 0),some (.d (.str ("abcdefghijklmnopqrstuvwxyz":Str))),some (.d (.int aj)),some (.d (.int aa)),some (.l (k+1)),u,none]) (fun N hN=>?_) ?_
 ·walk_at "dX";split
  ·refine hN _ _ ⟨xU.map lu,T++[xU.map lu],T.length,?_,rfl,by rw[dh],rfl,rfl⟩;intro d m;obtain⟨z,hz,rfl⟩:=mem_map.mp m;refine⟨z,rfl,?_⟩;simp only[xU,gw,ge,or_false]at hz;rcases hz with rfl|rfl|rfl|rfl|rfl|rfl|rfl|rfl<;>decide +kernel
  ·exact hN _ _ ⟨ds,T,k,ae,hl,hk,rfl,rfl⟩
 rintro _ _ ⟨ds,T,k,ae,hl,hk,rfl,rfl⟩
 (refine seq1 ?_;walk_at "dX")
 refine zD an dz (by decide +kernel) fun ac p3 a0 a1 am=>?_;walk_at "dX"
 (refine seq1 ?_;walk_at "dX")
 refine⟨ds,hk,ds,hk,?_⟩;have hc:=IY (ds:=ds) a0 yw;rw[gu]at hc;refine⟨yw,?_⟩;have ah:(T++[aV ds (some ac) none++aV ds none (some ac)])[T.length]?=some (aV ds (some ac) none++aV ds none (some ac)):=by rw[dh]
 have ag:pH (aV ds (some ac) none++aV ds none (some ac)):=fun d m=>(mem_append.mp m).elim (fun m=>ae d (Cf m)) fun m=>ae d (Cf m);have ai:(aV ds (some ac) none++aV ds none (some ac)).length=8:=by rw[gu];omega
 generalize aV ds (some ac) none++aV ds none (some ac)=es at ah ag ai ⊢;refine seq1 ?_;walk_at "dX";refine zD am dz (by decide +kernel) fun r p4 r0 r1 al=>?_;walk_at "dX";have af:∀(fs:List bq),pH fs->fs.length=8->R (.d (.list fs)) [p4]:=by
  intro fs h1 h2;obtain⟨zs,rfl,z1,z2⟩:=Gy h1;exact q zs p4 yw z2 al
 split
 ·refine⟨yv,es,ah,?_⟩;walk_at "dX";rw[cf yw];refine⟨es.reverse,by simp[vY],.inl (af _ (fun d m=>ag d (mem_reverse.mp m)) (by simpa using ai))⟩
 ·rw[cf yw];exact⟨es,ah,.inl (af _ ag ai)⟩
theorem LQ{p:List bq}(hp:aR p)(q:∀(ns:List Str) p',ns.length=8->(∀z∈ns,gI z=true)->aR p'->R (.d (.list (ns.map lu))) [p']):t9 [.l 0] [p] R:=JT hp q
abbrev Part:=Str×Int×Int
def bF(p:Part):bq:=.tuple [.str p.1,.int p.2.1,.int p.2.2]
def aE(ps:List Part):bq:=.tuple (ps.map bF)
structure Prt(p:Part):Prop where
 nm:gI p.1=true
 le:p.2.1<=p.2.2
 lo:-10 ^ 58<=p.2.1
 hi:p.2.2<=10 ^ 59
structure Drw(ps:List Part):Prop where
 l1:1<=ps.length
 l8:ps.length<=8
 all:∀p∈ps,Prt p
theorem dZ{α:Type}{f:α->bq}{l:List α}{k:Nat}{x:α}(e:l[k]?=some x):atI (l.map f) (k:Int)=some (f x):=fR (by rw[iw,e];rfl)
theorem MQ{Q:PN}{p:List bq}{m:Int}{span:PN}{names:PN}(hQ:Q=fun xs S R=>(zQ (aA (zY 0 1 names (zc (zh 0) zo)) (zj 2)) (zQ (aA (cT zo) (zj 3)) (zQ (bE (bZ (zc (dOp aC (dC (.int 1)) (zY 0 2 zq (zc (zh 0) (zc (zh 1) zo)))) zo)) (zj 4) (dG (dBM fE (zh 3) (zc (dOp aC (aK (zc (dOp dIx (zh 2) (zh 4)) zo)) (zY 0 1 span (zc (zh 0) zo))) zo)))) (aB (dCB gA (zc (zh 3) zo)))))) (aG S.length R) (xs.map some++bx 3 none) S)
  (hnames:∀{p:List bq}{R:RX},aR p->(∀(ns:List Str) p',ns.length=8->(∀z∈ns,gI z=true)->aR p'->R (.d (.list (ns.map lu))) [p'])->names [.l 0] [p] R)
  (hspan:∀{p:List bq}{R:RX},aR p->(∀lo hi p',lo<=hi->-10 ^ 58<=lo->hi<=10 ^ 59->aR p'->R (.d (spD lo hi)) [p'])->span [.l 0] [p] R)
  (hp:aR p) (m1:0<m) (m8:m<=8) (q:∀(ps:List Part) p',Drw ps->aR p'->R (.d (aE ps)) [p']):Q [.l 0,.d (.int m)] [p] R:=by
 subst hQ;walk_at "d"
 walk_at "n"
 refine hnames hp fun ns p1 hn hz aa=>?_;walk_at "d"
 walk_at "n"
 walk_at "n";refine zD aa m1 (l7 m1 yw) fun r p2 r0 r1 ae=>?_;walk_at "d";refine dA (fun i δ S=>∃(p:List bq) (ps:List Part) (u:Option XV),aR p/\ps.length=i/\(∀p∈ps,Prt p)/\S=[p,ps.map bF]/\δ=[some (.l 0),some (.d (.int m)),some (.d (.list (ns.map lu))),some (.l 1),u]) ⟨p2,[],_,ae,rfl,yv,rfl,rfl⟩ ?_ ?_
 ·rintro i d _ _ N hi ⟨p,ps,u,hp,hl,ha,rfl,rfl⟩ hN;obtain⟨af,rfl⟩:=iB hi;have i8:i<ns.length:=yw
  have e:=dZ (f:=lu) (cw i8);walk_at "d";simp only[nq];refine⟨_,e,?_⟩;walk_at "d";refine hspan hp fun lo hi p3 h1 h2 h3 ac=>?_;simp only[spD];walk_at "d";refine⟨yw,hN _ _ ⟨p3,ps++[(ns[i],lo,hi)],_,ac,by simp[hl],fun x hx=>?_,by simp[bF],rfl⟩⟩;rcases mem_append.mp hx with hx|hx
  ·exact ha x hx
  ·rw[mem_singleton.mp hx];exact⟨hz _ (getElem_mem i8),h1,h2,h3⟩
 ·rintro _ _ ⟨p,ps,u,hp,hl,ha,rfl,rfl⟩;rw[iO]at hl;walk_at "d";exact q ps p ⟨yw,yw,ha⟩ hp
theorem Mo{p:List bq}{m:Int}(hp:aR p)(m1:0<m)(m8:m<=8)(q:∀(ps:List Part) p',Drw ps->aR p'->R (.d (aE ps)) [p']):vF [.l 0,.d (.int m)] [p] R:=
 MQ (span:=pW) (names:=t9) rfl LQ Mm hp m1 m8 q
end
section
variable {R:RX}{S:Sto}
theorem CI{a b m:Int}(h1:m∈[a,b])(h2:∀x,x∈[a,b]->m<=x):m=min a b:=by
 have ha:=h2 a yv;have hb:=h2 b yv;simp only[gw,ge,or_false]at h1;omega
theorem FF{a b m:Int}(h1:m∈[a,b])(h2:∀x,x∈[a,b]->x<=m):m=max a b:=by
 have ha:=h2 a yv;have hb:=h2 b yv;simp only[gw,ge,or_false]at h1;omega
theorem Ih{a b:Int}(q:R (.d (.int (min a b))) S):lW [.d (.list [.int a,.int b])] S R:=.inl ⟨_,rfl,[a,b],rfl,yv,fun m h1 h2=>by rw[CI h1 h2];exact q⟩
theorem Ho{a b:Int}(q:R (.d (.int (min a b))) S):lW [.d (.tuple [.int a,.int b])] S R:=.inl ⟨_,rfl,[a,b],rfl,yv,fun m h1 h2=>by rw[CI h1 h2];exact q⟩
theorem HP{a b:Int}(q:R (.d (.int (max a b))) S):mY [.d (.list [.int a,.int b])] S R:=⟨_,rfl,[a,b],rfl,yv,fun m h1 h2=>by rw[FF h1 h2];exact q⟩
theorem Ig{a b:Int}(q:R (.d (.int (max a b))) S):mY [.d (.tuple [.int a,.int b])] S R:=⟨_,rfl,[a,b],rfl,yv,fun m h1 h2=>by rw[FF h1 h2];exact q⟩
abbrev Term:=Nat×Int
def tmD(t:Term):bq:=.tuple [.int t.1,.int t.2]
def e8(ts:List Term):bq:=.tuple (ts.map tmD)
structure Gap where
 ts:List Term
 lo:Int
 hi:Int
def aM(g:Gap):bq:=.tuple [e8 g.ts,.int g.lo,.int g.hi]
theorem fW(g:Gap):aM g=.tuple [e8 g.ts,.int g.lo,.int g.hi]:=rfl
theorem wG(t:Term):tmD t=.tuple [.int t.1,.int t.2]:=rfl
theorem y6(p:Part):bF p=.tuple [.str p.1,.int p.2.1,.int p.2.2]:=rfl
def bC(ns:List Int):bq:=.tuple (ns.map cu)
structure Tms(n:Nat)(ts:List Term):Prop where
 ne:ts≠[]
 len:ts.length<=n
 ok:∀t∈ts,t.1<n/\t.2≠0/\-3<=t.2/\t.2<=3
 srt:ts.Pairwise fun t u=>t.1<u.1
structure Tm3(n:Nat)(ts:List Term):Prop where
 len:ts.length<=100
 ok:∀t∈ts,t.1<n/\-3<=t.2/\t.2<=3
theorem Tms.tm3{n:Nat}{ts:List Term}(h:Tms n ts)(hn:n<=8):Tm3 n ts:=⟨by have:=h.len;omega,fun t m=>⟨(h.ok t m).1,(h.ok t m).2.2⟩⟩
def worth(ts:List Term)(ns:List Int):Int:=(ts.map fun t=>t.2*ns.getD t.1 0).sum
theorem uN{ns:List Int}{k:Nat}(h:k<ns.length):ns[k]?=some (ns.getD k 0):=by
 rw[cw h,gk,cw h];rfl
def part(ps:List Part)(k:Nat):Part:=ps.getD k ("",0,0)
theorem kE{ps:List Part}{k:Nat}(h:k<ps.length):ps[k]?=some (part ps k):=by
 unfold part;rw[cw h,gk,cw h];rfl
theorem gK{ps:List Part}{k:Nat}(h:k<ps.length):part ps k∈ps:=cb (kE h)
def plo(ps:List Part)(k:Nat):Int:=(part ps k).2.1
def phi(ps:List Part)(k:Nat):Int:=(part ps k).2.2
def tLo(ps:List Part)(t:Term):Int:=min (t.2*plo ps t.1) (t.2*phi ps t.1)
def tHi(ps:List Part)(t:Term):Int:=max (t.2*plo ps t.1) (t.2*phi ps t.1)
def zw(ps:List Part)(ts:List Term):Int:=(ts.map (tLo ps)).sum
def zU(ps:List Part)(ts:List Term):Int:=(ts.map (tHi ps)).sum
theorem Ka{ps:List Part}{t:Term}{ts:List Term}:zw ps (t::ts)=tLo ps t+zw ps ts:=by simp[zw]
theorem G2{ps:List Part}{t:Term}{ts:List Term}:zU ps (t::ts)=tHi ps t+zU ps ts:=by simp[zU]
theorem CV{ps:List Part}{ts:List Term}{i:Nat}{t:Term}(h:ts[i]?=some t):zw ps (ts.take (i+1))=zw ps (ts.take i)+tLo ps t:=by
 unfold zw;rw[take_add_one,h];simp
theorem Br{ps:List Part}{ts:List Term}{i:Nat}{t:Term}(h:ts[i]?=some t):zU ps (ts.take (i+1))=zU ps (ts.take i)+tHi ps t:=by
 unfold zU;rw[take_add_one,h];simp
theorem CH(ps:List Part):∀ts:List Term,zw ps ts<=zU ps ts
 | []=>by simp[zw,zU]
 |t::ts=>by
  have:=CH ps ts;rw[Ka,G2];unfold tLo tHi;omega
theorem j9{α:Type}{f:α->bq}{l:List α}{i:Nat}{d:bq}(h:(l.map f)[i]?=some d):∃x,l[i]?=some x/\d=f x:=by
 rw[iw]at h;obtain⟨x,e,rfl⟩:=map_eq_some_iff.mp h;exact⟨x,e,rfl⟩
theorem M0{ps:List Part}{ts:List Term}{t:bq}(ht:dW (.d t)=some (ts.map tmD))(h3:Tm3 ps.length ts)(q:R (.d (spD (zw ps ts) (zU ps ts))) []):Fc [.d (aE ps),.d t] [] R:=by
 unfold Fc aE;walk_at "d"
 walk_at "n"
 walk_at "n"
 walk_at "n";refine⟨_,ht,?_⟩;refine dA (fun i δ S=>∃(u1 u2 u3:Option XV),S=[]/\δ=[some (.d (.tuple (ps.map bF))),some (.d t),some (.d (.int (zw ps (ts.take i)))),some (.d (.int (zU ps (ts.take i)))),u1,u2,u3]) ⟨_,_,_,rfl,rfl⟩ ?_ ?_
 ·rintro i d _ _ N hi ⟨u1,u2,u3,rfl,rfl⟩ hN;obtain⟨t,ht,rfl⟩:=j9 hi;obtain⟨t1,t2,t3⟩:=h3.ok t (cb ht);have ep:=dZ (f:=bF) (kE t1);unfold tmD;walk_at "d"
  walk_at "n"
  refine⟨_,ep,?_⟩;unfold bF;walk_at "d";refine⟨dE yw yw,_,ep,?_⟩;unfold bF;walk_at "d";refine⟨dE yw yw,?_⟩
  walk_at "n"
  refine Ih ?_;walk_at "d";refine HP ?_;walk_at "d";exact hN _ _ ⟨_,_,_,rfl,by rw[CV ht,Br ht];rfl⟩
 ·rintro _ _ ⟨u1,u2,u3,rfl,rfl⟩;rw[gh,take_length];walk_at "d";exact q
theorem BH{ps:List Part}{ts:List Term}{t:bq}(ht:dW (.d t)=some (ts.map tmD))(h3:Tm3 ps.length ts)(q:R (.d (spD (zw ps ts) (zU ps ts))) []):sF [.d (aE ps),.d t] [] R:=M0 ht h3 q
theorem oF{ds:List bq}{r:Int}{P:bq->Prop}(h0:0<=r)(h1:r<ds.length)(hP:∀d∈ds,P d):∃d,atI ds r=some d/\P d:=by
 obtain⟨k,rfl⟩:=ix h0;have hk:k<ds.length:=yw
 exact⟨ds[k],fR (cw hk),hP _ (getElem_mem hk)⟩
theorem Ht(ds:List bq):lh (.list ds) (.list [])=decide (ds=[]):=by
 cases ds with
 |nil=>rfl
 |cons d ds=>rfl
theorem KS(t:Term):Shp 1 (tmD t):=Fy (N5 uY uY)
theorem HX(ts:List Term):gq (.list (ts.map tmD))=true:=(u8 (wO fun t _=>KS t)).ok
structure GapOk(n:Nat)(g:Gap):Prop where
 ts:Tms n g.ts
 le:g.lo<=g.hi
end
section
variable {R:RX}{S:Sto}
theorem KB{a b c d:Int}(q:R (.d (spD (a+c) (b+d))) []):tP [.d (spD a b),.d (spD c d)] [] R:=by
 unfold tP spD;walk_at "e";exact q
theorem NF{a b n:Int}(h1:-3<=n)(h2:n<=3)(q:R (.d (spD (min (a*n) (b*n)) (max (a*n) (b*n)))) []):uI [.d (spD a b),.d (.int n)] [] R:=by
 unfold uI spD;walk_at "e";refine⟨FB yw yw,FB yw yw,?_⟩;refine Ho ?_;walk_at "e";refine Ig ?_;walk_at "e";exact q
theorem sZ{p:Part}(q:R (.d (spD p.2.1 p.2.2)) []):kU [.d (bF p)] [] R:=by
 unfold kU bF;walk_at "e";exact q
theorem tL{a b:Int}(q:R (.d (.int (b-a+1))) []):mW [.d (spD a b)] [] R:=by
 unfold mW spD;walk_at "e";exact q
theorem Lh{ps:List Part}{t:Term}:min ((part ps t.1).2.1*t.2) ((part ps t.1).2.2*t.2)=tLo ps t:=by
 unfold tLo plo phi;rw[rq t.2,rq t.2]
theorem Mt{ps:List Part}{t:Term}:max ((part ps t.1).2.1*t.2) ((part ps t.1).2.2*t.2)=tHi ps t:=by
 unfold tHi plo phi;rw[rq t.2,rq t.2]
theorem Nk{ps:List Part}{ts:List Term}{t:bq}(ht:dW (.d t)=some (ts.map tmD))(h3:Tm3 ps.length ts)(q:R (.d (spD (zw ps ts) (zU ps ts))) []):sS [.d (aE ps),.d t] [] R:=by
 unfold sS aE;walk_at "d"
 walk_at "n"
 walk_at "n";refine⟨_,ht,?_⟩;refine dA (fun i δ S=>∃(u1 u2:Option XV),S=[]/\δ=[some (.d (.tuple (ps.map bF))),some (.d t),some (.d (spD (zw ps (ts.take i)) (zU ps (ts.take i)))),u1,u2]) ⟨_,_,rfl,rfl⟩ ?_ ?_
 ·rintro i d _ _ N hi ⟨u1,u2,rfl,rfl⟩ hN;obtain⟨t,ht,rfl⟩:=j9 hi;obtain⟨t1,t2,t3⟩:=h3.ok t (cb ht);have ep:=dZ (f:=bF) (kE t1);rw[wG];walk_at "d";refine⟨_,ep,?_⟩;refine sZ ?_;walk_at "d";refine NF t2 t3 ?_;walk_at "d";refine KB ?_;walk_at "d";exact hN _ _ ⟨_,_,rfl,by rw[CV ht,Br ht,<- Lh,<- Mt]⟩
 ·rintro _ _ ⟨u1,u2,rfl,rfl⟩;rw[gh,take_length];walk_at "d";exact q
theorem Hd{g:Gap}{ns:List Int}(h3:Tm3 ns.length g.ts)(q:R (.d (.int (worth g.ts ns))) []):t7 [.d (aM g),.d (bC ns)] [] R:=by
 unfold t7 bC;rw[fW,e8];walk_at "e";refine cmp2 (S0:=[]) (fun t:Term=>.int (t.2*ns.getD t.1 0)) rfl g.ts (by have:=h3.len;omega) ?_ ?_
 ·intro t mt u v acc R' hk;obtain⟨t1,t2,t3⟩:=h3.ok t mt;have e:=dZ (f:=cu) (uN t1);rw[wG];walk_at "e";refine⟨_,e,?_⟩;walk_at "e";exact⟨dE yw yw,hk _ _⟩
 ·walk_at "e";refine⟨g.ts.map fun t:Term=>t.2*ns.getD t.1 0,by rw[ki];rfl,q⟩
def fX(g:Gap)(ns:List Int):Bool:=decide (g.lo<=worth g.ts ns/\worth g.ts ns<=g.hi)
theorem Mn{g:Gap}{ns:List Int}(h3:Tm3 ns.length g.ts)(q:R (.d (.bool (fX g ns))) []):sR [.d (aM g),.d (bC ns)] [] R:=by
 unfold sR;walk_at "e";rw[fW];walk_at "e";rw[<- fW];refine Hd h3 ?_;walk_at "e";unfold fX at q;by_cases h:g.lo<=worth g.ts ns
 ·simp only[h,true_and]at q;rw[cp h];exact q
 ·simp only[h,false_and,decide_false]at q;rw[cf h];exact q
structure InBox(ps:List Part)(ns:List Int):Prop where
 len:ns.length=ps.length
 ok:∀k,k<ps.length->plo ps k<=ns.getD k 0/\ns.getD k 0<=phi ps k
def Ord(ps:List Part):Prop:=∀p∈ps,p.2.1<=p.2.2
theorem Drw.ord{ps:List Part}(h:Drw ps):Ord ps:=fun p m=>(h.all p m).le
end
section
variable {R:RX}{S:Sto}
def cF:bq->Bool
 | .int _=>true
 |_=>false
theorem DW{d:bq}(q:R (.d (.bool (cF d))) []):qS [.d d] [] R:=by
 unfold qS;cases d<;>(walk_at "e";exact q)
end
section
variable {R:RX}{S:Sto}
def rng(lo:Int)(n:Nat):List Int:=(jb n).map fun k:Nat=>lo+k
def MP(p:Part):List Int:=rng p.2.1 (p.2.2-p.2.1+1).toNat
def ext(z:List (List Int))(p:Part):List (List Int):=z.flatMap fun a=>(MP p).map fun x=>a++[x]
theorem D5{ms:List Int}:InBox [] ms↔ms=[]:=⟨fun h=>jd h.len,fun h=>by subst h;exact⟨rfl,fun k hk=>by simp at hk⟩⟩
theorem El{p:Part}{ps:List Part}{k:Nat}:part (p::ps) (k+1)=part ps k:=by simp[part]
theorem wX{p:Part}{ps:List Part}{ms:List Int}:InBox (p::ps) ms↔∃x t,ms=x::t/\p.2.1<=x/\x<=p.2.2/\InBox ps t:=by
 constructor
 ·intro h;cases ms with
  |nil=>have:=h.len;simp at this
  |cons x t=>
   have h0:=h.ok 0 yv;refine⟨x,t,rfl,h0.1,h0.2,by have:=h.len;simpa using this,fun k hk=>?_⟩;have:=h.ok (k+1) (by simpa using hk);unfold plo phi at this ⊢;rw[El]at this;simpa using this
 ·rintro⟨x,t,rfl,h1,h2,h3⟩;refine⟨by simp[h3.len],fun k hk=>?_⟩;cases k with
  |zero=>exact⟨h1,h2⟩
  |succ k=>
   have:=h3.ok k (by simpa using hk);unfold plo phi at this ⊢;rw[El];simpa using this
def e9:List Nat->Nat
 | []=>1
 |x::xs=>x*e9 xs
def cX(ps:List Part):Nat:=e9 (ps.map fun p=>(p.2.2-p.2.1+1).toNat)
theorem Ed:∀{l:List Nat},(∀x∈l,1<=x)->1<=e9 l
 | [],_=>dw _
 |x::l,h=>Nat.mul_le_mul (h x fq) (Ed fun y m=>h y (cz _ m))
theorem N9{ps:List Part}(ho:Ord ps):1<=cX ps:=Ed fun x m=>by
 obtain⟨p,mp,rfl⟩:=mem_map.mp m;have:=ho p mp;omega
theorem An:∀(a b:List Nat),e9 (a++b)=e9 a*e9 b
 | [],b=>by simp[e9]
 |x::a,b=>by simp[e9,An a b,Nat.mul_assoc]
theorem Hq{α:Type}{l:List α}{i:Nat}{x:α}(h:l[i]?=some x):l.take (i+1)=l.take i++[x]:=by rw[take_add_one,h];rfl
end
section
variable {R:RX}{S:Sto}
abbrev Off:=Int×Int×Int
def offer(os:List (List Off))(ks:List Nat)(i:Nat):Off:=(os.getD i []).getD (ks.getD i 0) (0,0,0)
end
section
variable {R:RX}{S:Sto}
def few0(s1 s2 r:Int):Int:=if (r-(s1+2*s2)+2)/3>0 then (r-(s1+2*s2)+2)/3 else 0
def few(s1 s2 r:Int):Int:=if s1=0/\(r-few0 s1 s2 r) % 2=1 then few0 s1 s2 r+1 else few0 s1 s2 r
theorem wZ{ps:List Part}{g:Gap}(h3:Tm3 ps.length g.ts)(q:R (.d (spD (zw ps g.ts) (zU ps g.ts))) []):pZ [.d (aE ps),.d (aM g)] [] R:=by
 unfold pZ;rw[fW];walk_at "d";refine Nk rfl h3 ?_;walk_at "d";exact q
end
section
variable {R:RX}{S:Sto}
structure TimesL(l:List Int):Prop where
 l1:1<=l.length
 l6:l.length<=6
 ok:∀x∈l,x≠0/\-3<=x/\x<=3
theorem mE{l:List Int}(h:(decide (1<=l.length)&&decide (l.length<=6)&&l.all fun x=>decide (x≠0/\-3<=x/\x<=3))=true):TimesL l:=by
 simp only[jn,decide_eq_true_eq,all_eq_true]at h;exact⟨h.1.1,h.1.2,h.2⟩
theorem TimesL.at{l:List Int}(h:TimesL l){r:Int}(r0:0<=r)(r1:r<l.length):∃n,atI (l.map cu) r=some (.int n)/\n≠0/\-3<=n/\n<=3:=by
 obtain⟨k,rfl⟩:=ix r0;have hk:k<l.length:=yw
 exact⟨l[k],dZ (cw hk),h.ok _ (getElem_mem hk)⟩
theorem G4{p:List bq}{ps:List Part}(hp:aR p)(hd:Drw ps)(q:∀ts p',Tms ps.length ts->aR p'->R (.d (e8 ts)) [p']):sL [.l 0,.d (aE ps)] [p] R:=by
 have h8:=hd.l8;have h1:=hd.l1;unfold sL;walk_at "d"
 walk_at "n"
 refine zD hp dz (by decide +kernel) fun r p1 r0 r1 aj=>?_;obtain⟨d,ed,l,rfl,hl⟩:=oF (P:=fun d=>∃l:List Int,d=.list (l.map cu)/\TimesL l) (ds:=[PyData.list [.int 1,.int (-1),.int 2,.int (-2),.int 3,.int (-3)],.list [.int 1,.int (-1)],.list [.int 2,.int (-2)],.list [.int 3,.int (-3)],.list [.int 2,.int 3,.int (-2),.int (-3)],.list [.int 1,.int 3,.int (-1),.int (-3)]]) r0 r1 (by
  intro d m;simp only[gw,ge,or_false]at m;rcases m with rfl|rfl|rfl|rfl|rfl|rfl
  ·exact⟨[1,-1,2,-2,3,-3],rfl,mE dz⟩
  ·exact⟨[1,-1],rfl,mE dz⟩
  ·exact⟨[2,-2],rfl,mE dz⟩
  ·exact⟨[3,-3],rfl,mE dz⟩
  ·exact⟨[2,3,-2,-3],rfl,mE dz⟩
  ·exact⟨[1,3,-1,-3],rfl,mE dz⟩)
 have l1:=hl.l1;have l6:=hl.l6;walk_at "d";refine⟨_,ed,?_⟩;walk_at "d"
 walk_at "n"
 refine cut (fun δ S=>∃(p:List bq) (ts:List Term) (u1:Option XV),aR p/\ts.length<=ps.length/\(∀t∈ts,t.1<ps.length/\t.2≠0/\-3<=t.2/\t.2<=3)/\(ts.Pairwise fun t u=>t.1<u.1)/\S=[p,ts.map tmD]/\δ=[some (.l 0),some (.d (aE ps)),some (.d (.list (l.map cu))),some (.l 1),u1]) (fun N hN=>?_) ?_
 ·walk_at "d";refine⟨ps.length,by unfold aE;walk_at "d",?_⟩;refine dA (fun i δ S=>∃(p:List bq) (ts:List Term) (u1:Option XV),aR p/\ts.length<=i/\(∀t∈ts,t.1<i/\t.2≠0/\-3<=t.2/\t.2<=3)/\(ts.Pairwise fun t u=>t.1<u.1)/\S=[p,ts.map tmD]/\δ=[some (.l 0),some (.d (aE ps)),some (.d (.list (l.map cu))),some (.l 1),u1]) ⟨p1,[],_,aj,dw _,yv,.nil,rfl,rfl⟩ ?_ ?_
  ·rintro i d _ _ N hi ⟨p,ts,u1,hp,aa,ht,hw,rfl,rfl⟩ hN;obtain⟨ah,rfl⟩:=iB hi;have al:i<ps.length:=by simpa using ah
   walk_at "d";refine zD hp dz (by decide +kernel) fun r p2 r0 r1 ac=>?_;walk_at "d";split
   ·refine zD ac yw (l7 yw yw) fun r3 p3 af ae ag=>?_;obtain⟨n,en,hn⟩:=hl.at af ae;walk_at "d";refine⟨_,en,?_⟩;walk_at "d";refine⟨yw,hN _ _ ⟨p3,ts++[(i,n)],_,ag,by simp;omega,fun t m=>?_,?_,by simp[tmD],rfl⟩⟩
    ·rcases mem_append.mp m with m|m
     ·exact⟨by have:=(ht t m).1;omega,(ht t m).2⟩
     ·rw[mem_singleton.mp m];exact⟨yv,hn⟩
    ·rw[List.pairwise_append];exact⟨hw,yv,fun t m u m'=>by rw[mem_singleton.mp m'];exact(ht t m).1⟩
   ·exact hN _ _ ⟨p2,ts,_,ac,yw,fun t m=>⟨by have:=(ht t m).1;omega,(ht t m).2⟩,hw,rfl,rfl⟩
  ·rintro _ _ ⟨p,ts,u1,hp,aa,ht,hw,rfl,rfl⟩;rw[iO]at aa ht;have hz:(ps.length:Int).toNat=ps.length:=by simp
   rw[hz]at aa ht;exact hN _ _ ⟨p,ts,u1,hp,aa,ht,hw,rfl,rfl⟩
 rintro _ _ ⟨p,ts,u1,hp,aa,ht,hw,rfl,rfl⟩;refine cut (fun δ S=>∃(p:List bq) (ts:List Term) (T:Sto) (k:Nat),aR p/\Tms ps.length ts/\T[k]?=some (ts.map tmD)/\S=p::T/\δ=[some (.l 0),some (.d (aE ps)),some (.d (.list (l.map cu))),some (.l (k+1)),u1]) (fun N hN=>?_) ?_
 ·walk_at "d";refine⟨HX ts,rfl,?_⟩;rw[Ht];walk_at "d";split
  ·refine⟨ps.length,by unfold aE;walk_at "d",?_⟩;refine zD hp yw (l7 yw yw) fun r p2 r0 r1 ac=>?_;walk_at "d";refine zD ac yw (l7 yw yw) fun r3 p3 af ae ag=>?_;obtain⟨n,en,hn⟩:=hl.at af ae;obtain⟨k,rfl⟩:=ix r0;walk_at "d";refine⟨_,en,?_⟩;walk_at "d";refine hN _ _ ⟨p3,[(k,n)],[ts.map tmD,[tmD (k,n)]],1,ag,⟨yv,by simpa using h1,fun t m=>by rw[mem_singleton.mp m];exact⟨by simp only;omega,hn⟩,yv⟩,rfl,rfl,rfl⟩
  ·rename_i ai;exact hN _ _ ⟨p,ts,[ts.map tmD],0,hp,⟨fun z=>ai (by rw[z];rfl),aa,ht,hw⟩,rfl,rfl,rfl⟩
 rintro _ _ ⟨p,ts,T,k,hp,ak,hk,rfl,rfl⟩;walk_at "d";exact⟨_,hk,q ts p ak hp⟩
theorem LM{p:List bq}{ps:List Part}(hp:aR p)(hd:Drw ps)(q:∀g p',GapOk ps.length g->aR p'->R (.d (aM g)) [p']):tI [.l 0,.d (aE ps)] [p] R:=by
 have h8:=hd.l8;unfold tI;walk_at "d"
 walk_at "n"
 refine G4 hp hd fun ts p1 z aa=>?_;walk_at "d"
 walk_at "n"
 refine BH rfl (z.tm3 h8) ?_;have lm:=CH ps ts;unfold spD;walk_at "d"
 walk_at "n"
 walk_at "n"
 refine .inl ⟨⟨by decide,by decide +kernel⟩,.inl ⟨⟨by decide,by decide +kernel⟩,?_⟩⟩;walk_at "d";refine zD aa dz (by decide +kernel) fun r p2 r0 r1 ae=>?_;obtain⟨d,ed,n,rfl⟩:=oF (P:=fun d=>∃n,d=.int n) (ds:=[cu 0,cu 1,cu (-1),cu ((zU ps ts-zw ps ts)/2),cu ((zU ps ts-zw ps ts)/3),cu (zU ps ts-zw ps ts+1),cu (zU ps ts-zw ps ts),cu (zU ps ts-zw ps ts-1)]) r0 r1 yv;walk_at "d";refine⟨_,ed,?_⟩;walk_at "d"
 walk_at "n"
 refine .inl ⟨⟨by decide,by decide +kernel⟩,?_⟩;walk_at "d";refine zD ae dz (by decide +kernel) fun r' p3 r2 r3 ac=>?_;obtain⟨d,ed,n',rfl,h0⟩:=oF (P:=fun d=>∃n,d=.int n/\0<=n) (ds:=[cu 0,cu 1,cu 2,cu ((zU ps ts-zw ps ts)/2),cu (zU ps ts-zw ps ts),cu (zU ps ts-zw ps ts+2)]) r2 r3 (by simp;omega);walk_at "d";refine⟨_,ed,?_⟩;walk_at "d";exact q ⟨ts,_,_⟩ p3 ⟨z,by simp only;omega⟩ ac
end
section
variable {R:RX}
theorem Iy{ps:List Part}{i:Nat}{p:Part}(e:ps[i]?=some p):cX (ps.take (i+1))=cX (ps.take i)*(p.2.2-p.2.1+1).toNat:=by
 unfold cX;rw[Hq e,map_append,An];simp[e9]
end
section
variable {R:RX}{S:Sto}
theorem NE{κ α:Type}[DecidableEq κ]{p:κ×α}{r:List (κ×α)}{k:κ}{v:α}(h:p.1≠k):ptA (p::r) k v=p::ptA r k v:=by
 unfold ptA;simp only[any_cons,gz h,Bool.false_or];split
 ·simp[h]
 ·simp
theorem NO{κ α:Type}[DecidableEq κ]{p:κ×α}{r:List (κ×α)}{k:κ}{v:α}(h:p.1=k)(hn:∀q∈r,q.1≠k):ptA (p::r) k v=(k,v)::r:=by
 unfold ptA;rw[cp (by simp[h]),gc,cp h,h];congr 1;have e:List.map (fun p:κ×α=>if p.1=k then (p.1,v)else p) r=List.map id r:=rl fun q m=>cf (hn q m);rw[e,map_id]
abbrev Tal:=List (Int×Int)
def aF(t:Tal):List (Key×bq):=t.map fun p=>((jf p.1:Key),cu p.2)
def bL(t:Tal):bq:=.dict (DD.pairs (.k (aF t)))
def tsum(t:Tal)(f:Int->Int):Int:=(t.map fun p=>p.2*f p.1).sum
def ind(k:Int):Int->Int:=fun w=>if w=k then 1 else 0
def tget(t:Tal)(k:Int):Int:=tsum t (ind k)
def tadd:Tal->Int->Int->Tal
 | [],k,n=>[(k,n)]
 |p::r,k,n=>if p.1=k then (k,p.2+n)::r else p::tadd r k n
def kys(t:Tal):List Int:=t.map (·.1)
theorem HW(f:Int->Int):tsum [] f=0:=rfl
theorem zR(p:Int×Int)(t:Tal)(f:Int->Int):tsum (p::t) f=p.2*f p.1+tsum t f:=by simp[tsum]
theorem Mz(t u:Tal)(f:Int->Int):tsum (t++u) f=tsum t f+tsum u f:=by simp[tsum]
theorem fG(p:Int×Int)(t:Tal):kys (p::t)=p.1::kys t:=rfl
theorem uF{p:Int×Int}{t:Tal}(h:p∈t):p.1∈kys t:=mem_map.mpr ⟨p,h,rfl⟩
theorem jW:∀{t:Tal}{k:Int},k∉kys t->tget t k=0
 | [],_,_=>rfl
 |p::t,k,h=>by
  rw[fG,gw,not_or]at h;unfold tget;rw[zR,ind,cf (im h.1)];have:=jW h.2;unfold tget at this;omega
theorem uD:∀{t:Tal}{k:Int},(kys t).Nodup->(lkA (aF t) (jf k)).getD (.int 0)=.int (tget t k)
 | [],_,_=>rfl
 |p::t,k,h=>by
  rw[fG,sw]at h;by_cases e:p.1=k
  ·subst e;have h0:=jW h.1;unfold tget at h0 ⊢;rw[zR,h0,ind,cp rfl];simp[aF,lkA]
  ·have e2:lkA (aF (p::t)) (jf k)=lkA (aF t) (jf k):=by simp[aF,lkA,e]
   rw[e2,uD h.2];unfold tget;rw[zR,ind,cf e,Int.mul_zero,nq]
theorem LB{t:Tal}{k:Int}(hk:k∈kys t)(h:(kys t).Nodup):lkA (aF t) (jf k)=some (.int (tget t k)):=by
 have e:=uD (k:=k) h;cases hl:lkA (aF t) (jf k)with
 |some d=>rw[hl]at e;exact congrArg some e
 |none=>
  exfalso;obtain⟨p,m,rfl⟩:=mem_map.mp hk;unfold lkA at hl;rw[Option.map_eq_none_iff,List.find?_eq_none]at hl;exact hl ((jf p.1:Key),.int p.2) (mem_map.mpr ⟨p,m,rfl⟩) yv
theorem Bx:∀{t:Tal}{k n:Int},(kys t).Nodup->ptA (aF t) (jf k) (.int (tget t k+n))=aF (tadd t k n)
 | [],k,n,_=>by
  have:tget [] k=0:=rfl;rw[this,nq];rfl
 |p::t,k,n,h=>by
  rw[fG,sw]at h;unfold tadd;by_cases e:p.1=k
  ·rw[cp e];subst e;have h0:=jW h.1;have hg:tget (p::t) p.1=p.2:=by
    unfold tget at h0 ⊢;rw[zR,h0,ind,cp rfl];omega
   rw[hg];refine NO rfl fun q m z=>?_;obtain⟨x,mx,rfl⟩:=mem_map.mp m;have z':x.1=p.1:=by simpa using z
   exact h.1 (z'▸uF mx)
  ·rw[cf e];have hg:tget (p::t) k=tget t k:=by
    unfold tget;rw[zR,ind,cf e,Int.mul_zero,nq]
   rw[hg];show ptA (((jf p.1:Key),cu p.2)::aF t) _ _=((jf p.1:Key),cu p.2)::aF (tadd t k n);rw[NE (by simpa using e),Bx h.2]
theorem Fq:∀(t:Tal) (k n:Int) (f:Int->Int),tsum (tadd t k n) f=tsum t f+n*f k
 | [],k,n,f=>by simp[tadd,tsum]
 |p::t,k,n,f=>by
  unfold tadd;split
  ·rename_i e;rw[zR,zR,e];show (p.2+n)*f k+tsum t f=p.2*f k+tsum t f+n*f k;rw[Int.add_mul]
   (omega)
  ·rw[zR,zR,Fq t k n f];omega
theorem vB:∀{t:Tal}{k n x:Int},x∈kys (tadd t k n)↔x∈kys t\/x=k
 | [],k,n,x=>by simp[tadd,kys]
 |p::t,k,n,x=>by
  unfold tadd;split
  ·rename_i e;rw[fG,fG,gw,gw,e];constructor
   ·rintro(h|h)
    ·exact .inr h
    ·exact .inl (.inr h)
   ·rintro((h|h)|h)
    ·exact .inl h
    ·exact .inr h
    ·exact .inl h
  ·rw[fG,fG,gw,gw,vB];exact or_assoc.symm
theorem BY:∀{t:Tal}{k n:Int},(kys t).Nodup->(kys (tadd t k n)).Nodup
 | [],k,n,_=>by simp[tadd,kys]
 |p::t,k,n,h=>by
  rw[fG,sw]at h;unfold tadd;split
  ·rename_i e;rw[fG,sw];exact⟨e▸h.1,h.2⟩
  ·rename_i e;rw[fG,sw];refine⟨fun m=>?_,BY h.2⟩;rcases vB.mp m with m|m
   ·exact h.1 m
   ·exact e m
theorem CU:∀{t:Tal}{k n:Int},(∀p∈t,0<p.2)->0<n->∀p∈tadd t k n,0<p.2
 | [],k,n,_,hn,p,m=>by
  rw[tadd,mem_singleton]at m;rw[m];exact hn
 |x::t,k,n,h,hn,p,m=>by
  unfold tadd at m;split at m
  ·rcases mem_cons.mp m with rfl|m
   ·have:=h x fq;show 0<x.2+n;omega
   ·exact h p (cz _ m)
  ·rcases mem_cons.mp m with rfl|m
   ·exact h _ fq
   ·exact CU (fun q mq=>h q (cz _ mq)) hn p m
theorem Ax:∀(n:Nat) (lo:Int) (l:List Int),l.Nodup->(∀x∈l,lo<=x/\x<lo+n)->l.length<=n
 | 0,lo,l,_,h=>by
  cases l with
  |nil=>exact dw _
  |cons x l=>have:=h x fq;omega
 |n+1,lo,l,hn,h=>by
  have ih:=Ax n lo (l.erase (lo+n)) (hn.erase _) fun x m=>by
   rw[hn.mem_erase_iff]at m;have:=h x m.2;omega
  have:=List.length_erase (a:=lo+(n:Int)) (l:=l);split at this<;>omega
structure Tl(t:Tal)(lo hi:Int):Prop where
 nd:(kys t).Nodup
 bd:∀x∈kys t,lo<=x/\x<=hi
 pos:∀p∈t,0<p.2
theorem Tl.len{t:Tal}{lo hi:Int}(h:Tl t lo hi):t.length<=(hi-lo+1).toNat:=by
 have:=Ax (hi-lo+1).toNat lo (kys t) h.nd fun x m=>by
  have:=h.bd x m;omega
 simpa[kys]using this
theorem Tl.add{t:Tal}{lo hi k n:Int}(h:Tl t lo hi)(h1:lo<=k)(h2:k<=hi)(hn:0<n):Tl (tadd t k n) lo hi:=⟨BY h.nd,fun x m=>by
 rcases vB.mp m with m|m
 ·exact h.bd x m
 ·rw[m];exact⟨h1,h2⟩,CU h.pos hn⟩
theorem Tl.one:Tl [(0,1)] 0 0:=⟨by simp[kys],by simp[kys],yv⟩
theorem Tl.nil{lo hi:Int}:Tl [] lo hi:=⟨by simp[kys],by simp[kys],yv⟩
def rsum(a:Int)(n:Nat)(f:Int->Int):Int:=((jb n).map fun k:Nat=>f (a+k)).sum
theorem rY(a:Int)(f:Int->Int):rsum a 0 f=0:=rfl
theorem f9(a:Int)(n:Nat)(f:Int->Int):rsum a (n+1) f=rsum a n f+f (a+n):=by
 unfold rsum;rw[List.range_succ,map_append,List.sum_append];simp
theorem mZ{a:Int}:∀{n:Nat}{f g:Int->Int},(∀x,a<=x->x<a+n->f x=g x)->rsum a n f=rsum a n g
 | 0,f,g,_=>rfl
 |n+1,f,g,h=>by
  rw[f9,f9,mZ (n:=n) fun x h1 h2=>h x h1 yw,h (a+n) yw yw]
theorem Fl(a c:Int)(f:Int->Int):∀n:Nat,rsum a n (fun x=>c*f x)=c*rsum a n f
 | 0=>by simp[rY]
 |n+1=>by rw[f9,f9,Fl a c f n,Int.mul_add]
theorem lE(a c:Int):∀n:Nat,rsum a n (fun _=>c)=n*c
 | 0=>by simp[rY]
 |n+1=>by
  rw[f9,lE a c n,Int.natCast_add,Int.add_mul];simp
theorem F4{a:Int}{f g:Int->Int}:∀{n:Nat},(∀x,a<=x->x<a+n->f x<=g x)->rsum a n f<=rsum a n g
 | 0,_=>Int.le_refl _
 |n+1,h=>by
  rw[f9,f9];have h1:=F4 (n:=n) fun x h1 h2=>h x h1 (by omega);have h2:=h (a+n) (by omega) (by omega);omega
theorem AY{f:Int->Int}(hf:∀x,0<=f x):∀{t:Tal},(∀p∈t,0<p.2)->0<=tsum t f
 | [],_=>Int.le_refl _
 |p::t,h=>by
  rw[zR];have h1:=AY hf fun q m=>h q (cz _ m);have h2:=Int.mul_nonneg (Int.le_of_lt (h p fq)) (hf p.1);omega
theorem Fe{f:Int->Int}(hf:∀x,0<=f x):∀{t:Tal}{p:Int×Int},(∀p∈t,0<p.2)->p∈t->p.2*f p.1<=tsum t f
 |q::t,p,h,m=>by
  rw[zR];have h1:=AY hf fun q m=>h q (cz _ m);have h2:=Int.mul_nonneg (Int.le_of_lt (h q fq)) (hf q.1);rcases mem_cons.mp m with rfl|m
  ·omega
  ·have:=Fe hf (fun q m=>h q (cz _ m)) m;omega
theorem Bc{t:Tal}(nd:(kys t).Nodup){p:Int×Int}(m:p∈t):tget t p.1=p.2:=by
 induction t with
 |nil=>cases m
 |cons q t ih=>
  rw[fG,sw]at nd;unfold tget at ih ⊢;rw[zR];rcases mem_cons.mp m with rfl|m
  ·have:=jW nd.1;unfold tget at this;rw[this,ind,cp rfl];omega
  ·have ne:q.1≠p.1:=fun z=>nd.1 (z▸uF m);rw[ih nd.2 m,ind,cf ne];omega
abbrev Row:=Int×Nat×Int
def fw:List Row->(Int->Int)->Int
 | [],f=>f 0
 |r::rs,f=>rsum r.1 r.2.1 fun x=>fw rs fun w=>f (w+r.2.2*x)
theorem AM(c:Int):∀(rs:List Row) (f:Int->Int),fw rs (fun w=>c*f w)=c*fw rs f
 | [],f=>rfl
 |r::rs,f=>by
  unfold fw;rw[<- Fl];exact mZ fun x _ _=>AM c rs _
theorem sE:∀(rs:List Row) {f g:Int->Int},(∀w,f w<=g w)->fw rs f<=fw rs g
 | [],f,g,h=>h 0
 |r::rs,f,g,h=>by
  unfold fw;exact F4 fun x _ _=>sE rs fun w=>h _
def busy(rs:List Row):List Row:=rs.filter fun r=>r.2.2 != 0
theorem AG:∀rs:List Row,fw rs (fun _=>1)=(rs.map fun r=>(r.2.1:Int)).prod
 | []=>rfl
 |r::rs=>by
  show (rsum r.1 r.2.1 fun x=>fw rs fun _=>1)=_;rw[AG rs,lE,gc,prod_cons]
def rLo(r:Row):Int:=min (r.2.2*r.1) (r.2.2*(r.1+r.2.1-1))
def rHi(r:Row):Int:=max (r.2.2*r.1) (r.2.2*(r.1+r.2.1-1))
def cD(rs:List Row):Int:=(rs.map rLo).sum
def cE(rs:List Row):Int:=(rs.map rHi).sum
theorem DY(r:Row):rLo r<=rHi r:=by unfold rLo rHi;omega
theorem Hl{r:Row}{x:Int}(h1:r.1<=x)(h2:x<r.1+r.2.1):rLo r<=r.2.2*x/\r.2.2*x<=rHi r:=by
 unfold rLo rHi;have h3:x<=r.1+r.2.1-1:=yw
 rcases Int.le_total 0 r.2.2 with h|h
 ·have a1:=Int.mul_le_mul_of_nonneg_left h1 h;have a2:=Int.mul_le_mul_of_nonneg_left h3 h;omega
 ·have a1:=Int.mul_le_mul_of_nonpos_left h h1;have a2:=Int.mul_le_mul_of_nonpos_left h h3;omega
theorem yG(t:Tal):DD.itemsD (aF t)=t.map fun p=>PyData.tuple [.int p.1,.int p.2]:=by
 unfold DD.itemsD aF;rw[ki];rfl
theorem wS{g:DG}{b:DSm}{E:DEndsM}:∀{ds:List bq}{δ:XE}{S:Sto}{M:DM} (I:Nat->XE->Sto->DM->Prop),I 0 δ S M ->
  (∀i d δ S M (N:XE->Sto->DM->Prop),ds[i]?=some d->I i δ S M->(∀ δ' S' M',I (i+1) δ' S' M'->N δ' S' M')->g (.d d) δ S fun δ1 S1=>b { nx:=N,ct:=N,bk:=E.nx,rt:=E.rt } δ1 S1 M) ->
  (∀ δ S M,I ds.length δ S M->E.nx δ S M)->iQ g b ds E δ S M
 | [],δ,S,M,I,h0,_,fin=>fin δ S M h0
 |d::ds,δ,S,M,I,h0,step,fin=>by
  show g (.d d) δ S fun δ1 S1=>b _ δ1 S1 M;refine step 0 d δ S M _ rfl h0 fun δ' S' M' h1=>?_;exact wS (ds:=ds) (fun i=>I (i+1)) h1 (fun i e δ S M N hi=>step (i+1) e δ S M N (by simpa using hi)) fin
theorem Fd(g:Gap)(w:Int):∀t:Tal,((t.filter fun p=>decide (g.lo<=w+p.1)&&decide (w+p.1<=g.hi)).map (·.2)).sum=tsum t fun x=>if g.lo<=w+x/\w+x<=g.hi then 1 else 0
 | []=>rfl
 |p::t=>by
  rw[zR,<- Fd g w t];by_cases h1:g.lo<=w+p.1<;>by_cases h2:w+p.1<=g.hi<;>simp[h1,h2]
def inG(g:Gap)(w:Int):Int->Int:=fun x=>if g.lo<=w+x/\w+x<=g.hi then 1 else 0
theorem BI{t:Tal}{g:Gap}{w:Int}(hl:t.length<=1000)(q:R (.d (.int (tsum t (inG g w)))) []):fM [.d (bL t),.d (aM g),.d (.int w)] [] R:=by
 unfold fM;rw[bL,fW];walk_at "d";refine⟨_,rfl,?_⟩;rw[yG];refine cmf2 (S0:=[]) (fun p:Int×Int=>cu p.2) (fun p=>decide (g.lo<=w+p.1)&&decide (w+p.1<=g.hi)) rfl t hl ?_ ?_
 ·intro p m u v acc R' hk;walk_at "d";by_cases h1:g.lo<=w+p.1
  ·simp only[h1,decide_true,↓reduceIte,Bool.true_and]at hk ⊢;walk_at "d";refine hk _ _ fun _ T hT=>?_;walk_at "d";exact hT
  ·simp only[h1,decide_false,Bool.false_and,fm,↓reduceIte]at hk ⊢;walk_at "d";exact hk _ _ fun z=>by cases z
 ·refine⟨[],_,rfl,rfl,?_⟩;walk_at "d";refine⟨(t.filter fun p=>decide (g.lo<=w+p.1)&&decide (w+p.1<=g.hi)).map (·.2),by rw[ki];rfl,?_⟩;rw[Fd g w t];exact q
theorem A6:∀(kvs acc:List (Key×bq)),((acc++kvs).map (·.1)).Nodup->kvs.foldl (fun m p=>ptA m p.1 p.2) acc=acc++kvs
 | [],acc,_=>by simp
 |p::r,acc,h=>by
  have e:ptA acc p.1 p.2=acc++[p]:=by
   unfold ptA;rw[cf];rw[List.any_eq_true];rintro⟨x,m,e⟩;rw[map_append,nodup_append]at h;exact h.2.2 x.1 (mem_map.mpr ⟨x,m,rfl⟩) p.1 (mem_map.mpr ⟨p,fq,rfl⟩) (qz e)
  rw[su,e,A6 r (acc++[p]) (by rw[ig];exact h),ig];rfl
theorem rZ{kvs:List (Key×bq)}(h:(kvs.map (·.1)).Nodup):nB kvs=kvs:=by
 unfold nB;rw[A6 kvs [] (by simpa using h)];rfl
theorem KM(t:Tal):(aF t).map (·.1)=(kys t).map fun x=>(jf x:Key):=by
 unfold aF kys;rw[ki,ki];rfl
theorem uW{t:Tal}(h:(kys t).Nodup):((aF t).map (·.1)).Nodup:=by
 rw[KM];exact List.Pairwise.map _ (fun a b ne e=>ne (by injection e)) h
def cnt(a b:Int):Nat:=(b-a+1).toNat
theorem Ah(c:Int)(f:Int->Int):∀t:Tal,tsum (t.map fun p=>(p.1,p.2*c)) f=c*tsum t f
 | []=>by simp[tsum]
 |p::t=>by
  rw[gc,zR,zR,Ah c f t,Int.mul_add];simp only;rw[Int.mul_assoc,Int.mul_left_comm]
theorem wY{α:Type}{l:List α}{i:Nat}{x:α}(h:l[i]?=some x):l.take (i+1)=l.take i++[x]:=by
 rw[take_add_one,h];rfl
theorem JA{t:Tal}{a b m lo hi:Int}(ht:Tl t lo hi)(aj:a<=b)(hl:t.length<=900)(hv:m=0->(∀p∈t,p.2<2 ^ 1700)/\b-a+1<2 ^ 1700)
  (hm:m≠0->-3<=m/\m<=3) (hw:m≠0->hi+rHi (a,cnt a b,m)-(lo+rLo (a,cnt a b,m))<900)
  (q:∀t',Tl t' (lo+rLo (a,cnt a b,m)) (hi+rHi (a,cnt a b,m))->(∀f,tsum t' f=rsum a (cnt a b) fun x=>tsum t fun w=>f (w+m*x))->R (.d (bL t')) []):tR [.d (bL t),.d (spD a b),.d (.int m)] [] R:=by
 unfold tR;rw[bL];walk_at "d";walk_at "n";by_cases h0:m=0
 ·subst h0;obtain⟨af,ap⟩:=hv rfl;walk_at "d";refine⟨_,rfl,?_⟩;rw[yG];refine cmp2 (S0:=[]) (fun p:Int×Int=>PyData.tuple [.int p.1,.int (p.2*(b-a+1))]) rfl t yw ?_ ?_
  ·intro p mp u v acc R' hk;walk_at "d";refine tL ?_;walk_at "d";have hp:=ht.pos p mp;have hb:=af p mp;exact⟨tX 1700 1700 yw yw,hk _ _⟩
  ·refine⟨[],_,rfl,rfl,?_⟩;walk_at "d";refine⟨aF (t.map fun p=>(p.1,p.2*(b-a+1))),by unfold aF;rw[ki,ki];rfl,by simp[aF];omega,?_⟩;have nk:(kys (t.map fun p=>(p.1,p.2*(b-a+1))))=kys t:=by unfold kys;rw[ki];rfl
   rw[rZ (uW (by rw[nk];exact ht.nd))];have z0:rLo (a,cnt a b,0)=0:=by simp[rLo]
   have z1:rHi (a,cnt a b,0)=0:=by simp[rHi]
   refine q _ ⟨by rw[nk];exact ht.nd,by rw[nk,z0,z1];simpa using ht.bd,fun p mp=>?_⟩ fun f=>?_
   ·obtain⟨x,mx,rfl⟩:=mem_map.mp mp;exact Int.mul_pos (ht.pos x mx) yw
   ·have e:(fun x:Int=>tsum t fun w=>f (w+0*x))=fun _=>tsum t f:=by
     funext x;congr 1;funext w;simp
    rw[Ah,e,lE];congr 1;unfold cnt;omega
 ·obtain⟨m1,m2⟩:=hm h0;have ao:=hw h0;rw[cf h0];walk_at "n";intro ad _;unfold spD;walk_at "d";have ec:(b+1-a).toNat=cnt a b:=by unfold cnt;congr 1;omega
  rw[ec];refine wS (fun i δ S M=>∃(t':Tal) (u4 u5 u6 u7:Option XV),S=[]/\M=[(ad,.k (aF t'))]/\Tl t' (lo+rLo (a,cnt a b,m)) (hi+rHi (a,cnt a b,m))/\(∀f,tsum t' f=rsum a i fun x=>tsum t fun w=>f (w+m*x))/\δ=[some (.d (.dict (DD.pairs (.k (aF t))))),some (.d (.tuple [.int a,.int b])),some (.d (.int m)),some (.o (.ref ad)),u4,u5,u6,u7]) ⟨[],_,_,_,_,rfl,rfl,Tl.nil,fun f=>rfl,rfl⟩ ?_ ?_
  ·rintro i d _ _ _ N ag ⟨t1,u4,u5,u6,u7,rfl,rfl,ac,ah,rfl⟩ hN;obtain⟨ak,rfl⟩:=iB ag;walk_at "d";refine⟨_,rfl,?_⟩;rw[yG];refine wS (fun j δ S M=>∃(t':Tal) (u5 u6 u7:Option XV),S=[]/\M=[(ad,.k (aF t'))]/\Tl t' (lo+rLo (a,cnt a b,m)) (hi+rHi (a,cnt a b,m))/\(∀f,tsum t' f=tsum t1 f+tsum (t.take j) fun w=>f (w+m*(a+i)))/\δ=[some (.d (.dict (DD.pairs (.k (aF t))))),some (.d (.tuple [.int a,.int b])),some (.d (.int m)),some (.o (.ref ad)),some (.d (.int (a+i))),u5,u6,u7]) ⟨t1,_,_,_,rfl,rfl,ac,fun f=>by simp[tsum],rfl⟩ ?_ ?_
   ·rintro j d _ _ _ N2 hj ⟨t2,v5,v6,v7,rfl,rfl,z,aa,rfl⟩ ae;obtain⟨p,ep,rfl⟩:=j9 hj;have mp:=cb ep;have hpos:=ht.pos p mp;have an:=ht.bd p.1 (uF mp);have hr:=Hl (r:=(a,cnt a b,m)) (x:=a+i) (by show a<=a+i;omega) (by show a+(i:Int)<a+(cnt a b:Nat);omega);have al:rLo (a,cnt a b,m)<=m*(a+i):=hr.1;have am:m*(a+i)<=rHi (a,cnt a b,m):=hr.2;have h3:=z.add (k:=p.1+m*(a+i)) (n:=p.2) yw yw hpos;have ai:=z.len;walk_at "d";refine seqm ?_;walk_at "d";refine⟨dE yw yw,?_⟩;walk_at "d";refine⟨.k (aF t2),.inl ⟨ad,rfl,yv⟩,?_⟩;walk_at "d";refine⟨lkA (aF t2) (jf (p.1+m*(a+i))),rfl,?_⟩;rw[uD z.nd];walk_at "d";refine⟨ad,rfl,?_⟩;walk_at "d";refine⟨.k (aF t2),.k (aF (tadd t2 (p.1+m*(a+i)) p.2)),yv,?_,?_,ae _ _ _ ⟨tadd t2 (p.1+m*(a+i)) p.2,_,_,_,rfl,?_,h3,fun f=>?_,rfl⟩⟩
    ·show some (DD.k (ptA (aF t2) (jf (p.1+m*(a+i))) (.int (tget t2 (p.1+m*(a+i))+p.2))))=_;rw[Bx z.nd]
    ·show (aF t2).length<1000;unfold aF;rw[gh];omega
    ·simp[kS]
    ·rw[Fq,aa f,wY ep,Mz,zR,HW];omega
   ·rintro _ _ _ ⟨t2,v5,v6,v7,rfl,rfl,z,aa,rfl⟩;refine hN _ _ _ ⟨t2,_,_,_,_,rfl,rfl,z,fun f=>?_,rfl⟩;rw[gh,take_length]at aa;rw[aa f,ah f,f9]
  ·rintro _ _ _ ⟨t2,u4,u5,u6,u7,rfl,rfl,z,aa,rfl⟩;rw[iO]at aa;refine⟨[],aF t2,rfl,rfl,_,rfl,?_⟩;have e:lF ad (aF t2) (XV.o (V.ref ad))=.d (bL t2):=by simp[lF,bL]
   rw[e];walk_at "d";exact q t2 z aa
def tmT(ts:List Term):Tal:=ts.map fun t:Term=>((t.1:Int),t.2)
def aN(ts:List Term)(k:Nat):Int:=tget (tmT ts) k
theorem tQ(ts:List Term):kys (tmT ts)=ts.map fun t:Term=>(t.1:Int):=by
 unfold kys tmT;rw[ki];rfl
theorem kQ{ts:List Term}(h:ts.Pairwise fun t u=>t.1<u.1):(kys (tmT ts)).Nodup:=by
 rw[tQ];exact List.Pairwise.map _ (fun a b l e=>by omega) h
def bG(ps:List Part)(ts:List Term)(k:Nat):Row:=(plo ps k,cnt (plo ps k) (phi ps k),aN ts k)
def fV(ps:List Part)(t:Term):Row:=(plo ps t.1,cnt (plo ps t.1) (phi ps t.1),t.2)
def cB(ps:List Part)(ts:List Term)(s n:Nat):List Row:=(List.range' s n).map (bG ps ts)
def zp(ps:List Part)(ts:List Term):List Row:=cB ps ts 0 ps.length
theorem x6(t:Term)(ts:List Term)(k:Nat):aN (t::ts) k=(if t.1=k then t.2 else 0)+aN ts k:=by
 unfold aN tget tmT;rw[gc,zR];unfold ind;by_cases h:t.1=k
 ·simp[h]
 ·have:¬((t.1:Int)=(k:Int)):=yw
  simp[h,this]
theorem De{ts:List Term}{k:Nat}(h:∀t∈ts,t.1≠k):aN ts k=0:=by
 refine jW fun m=>?_;rw[tQ]at m;obtain⟨t,mt,e⟩:=mem_map.mp m;exact h t mt yw
theorem AD(ps:List Part):∀(n s:Nat) (ts:List Term),(∀t∈ts,s<=t.1/\t.1<s+n/\t.2≠0)->(ts.Pairwise fun t u=>t.1<u.1)->busy (cB ps ts s n)=ts.map (fV ps)
 | 0,s,ts,h,_=>by
  cases ts with
  |nil=>rfl
  |cons t ts=>have:=h t fq;omega
 |n+1,s,ts,h,hp=>by
  have hc:∀aa:List Term,(∀k,s+1<=k->aN ts k=aN aa k)->cB ps ts (s+1) n=cB ps aa (s+1) n:=fun aa e=>by
   unfold cB;refine rl fun k m=>?_;rw[List.mem_range']at m;obtain⟨i,_,e'⟩:=m;unfold bG;rw[e k yw]
  have er:cB ps ts s (n+1)=bG ps ts s::cB ps ts (s+1) n:=by
   unfold cB;rw[List.range'_succ,gc]
  rw[er];have z:(∀t∈ts,s+1<=t.1)->busy (bG ps ts s::cB ps ts (s+1) n)=ts.map (fV ps):=fun h1=>by
   have e0:aN ts s=0:=De fun t m=>by have:=h1 t m;omega
   have eb:busy (bG ps ts s::cB ps ts (s+1) n)=busy (cB ps ts (s+1) n):=by simp[busy,bG,e0]
   rw[eb];exact AD ps n (s+1) ts (fun t m=>⟨h1 t m,by have:=h t m;(omega),(h t m).2.2⟩) hp
  cases ts with
  |nil=>exact z fun t m=>by cases m
  |cons t ts=>
   rw[List.pairwise_cons]at hp;have ht:=h t fq;by_cases e:t.1=s
   ·have e0:aN (t::ts) s=t.2:=by
     rw[x6,cp e,De fun u m=>by have:=hp.1 u m;(omega)]
     (clear e ht hp;omega)
    have eb:busy (bG ps (t::ts) s::cB ps (t::ts) (s+1) n)=fV ps t::busy (cB ps (t::ts) (s+1) n):=by
     have:bG ps (t::ts) s=fV ps t:=by unfold bG fV;rw[e0,e]
     rw[this];simp[busy,fV,ht.2.2]
    rw[eb,hc ts fun k hk=>by rw[x6,cf (by clear e0 ht hp;omega),nq],AD ps n (s+1) ts (fun u m=>⟨by have:=hp.1 u m;(clear e0 e hp;omega),by have:=h u (cz _ m);(clear e0 e ht hp;omega),(h u (cz _ m)).2.2⟩) hp.2];rfl
   ·exact z fun u m=>by
     rcases mem_cons.mp m with rfl|m
     ·(omega)
     ·have:=hp.1 u m;(omega)
theorem Md{ps:List Part}{ts:List Term}(h:Tms ps.length ts):busy (zp ps ts)=ts.map (fV ps):=
 AD ps ps.length 0 ts (fun t m=>⟨ly _,by have:=(h.ok t m).1;omega,(h.ok t m).2.1⟩) h.srt
theorem Mc{r:Row}(h:r.2.2=0):rLo r=0:=by unfold rLo;rw[h];simp
theorem Hi{r:Row}(h:r.2.2=0):rHi r=0:=by unfold rHi;rw[h];simp
theorem FC:∀rs:List Row,cD rs=cD (busy rs)/\cE rs=cE (busy rs)
 | []=>⟨rfl,rfl⟩
 |r::rs=>by
  have ih:=FC rs;unfold cD cE at *;by_cases h:r.2.2=0
  ·have eb:busy (r::rs)=busy rs:=by simp[busy,h]
   rw[eb,gc,gc,rh,rh,Mc h,Hi h,nq,nq];exact ih
  ·have eb:busy (r::rs)=r::busy rs:=by simp[busy,h]
   rw[eb,gc,gc,gc,gc,rh,rh,rh,rh,ih.1,ih.2];exact⟨rfl,rfl⟩
theorem Eo{ps:List Part}{t:Term}(h:plo ps t.1<=phi ps t.1):rLo (fV ps t)=tLo ps t/\rHi (fV ps t)=tHi ps t:=by
 unfold rLo rHi fV tLo tHi cnt;have e:plo ps t.1+((phi ps t.1-plo ps t.1+1).toNat:Int)-1=phi ps t.1:=yw
 simp only;rw[e];exact⟨rfl,rfl⟩
theorem AR{ps:List Part}{ts:List Term}(ho:Ord ps)(h:Tms ps.length ts):cD (zp ps ts)=zw ps ts/\cE (zp ps ts)=zU ps ts:=by
 have hb:=FC (zp ps ts);rw[Md h]at hb;rw[hb.1,hb.2];unfold cD cE zw zU;rw[ki,ki];constructor
 ·congr 1;exact rl fun t m=>(Eo (ho _ (gK (h.ok t m).1))).1
 ·congr 1;exact rl fun t m=>(Eo (ho _ (gK (h.ok t m).1))).2
theorem mH(ps:List Part)(ts:List Term):(zp ps ts).length=ps.length:=by simp[zp,cB]
theorem wE{ps:List Part}{ts:List Term}{k:Nat}(h:k<ps.length):(zp ps ts).drop k=bG ps ts k::(zp ps ts).drop (k+1):=by
 rw[ko (by rw[mH];exact h)];congr 1;simp[zp,cB]
theorem uP(rs:List Row):∀k,cE (rs.drop k)-cD (rs.drop k)<=cE rs-cD rs
 | 0=>by simp
 |k+1=>by
  cases rs with
  |nil=>simp
  |cons r rs=>
   have:=uP rs k;have h2:=DY r;rw[List.drop_succ_cons];unfold cE cD at *;rw[gc,gc,rh,rh];omega
theorem Bk:∀rs:List Row,cD rs<=cE rs
 | []=>Int.le_refl _
 |r::rs=>by
  have:=Bk rs;have:=DY r;unfold cE cD at *;rw[gc,gc,rh,rh];omega
structure Gd(ps:List Part)(ts:List Term)(k:Nat)(t:Tal):Prop where
 tl:Tl t (cD ((zp ps ts).drop k)) (cE ((zp ps ts).drop k))
 fw:∀f,tsum t f=My.fw ((zp ps ts).drop k) f
def Bnd(ps:List Part):Prop:=∀p∈ps,p.2.2-p.2.1+1<2 ^ 200
theorem DK{B:Int}(hB:1<=B):∀l:List Int,(∀x∈l,0<=x/\x<=B)->0<=l.prod/\l.prod<=B ^ l.length
 | [],_=>by simp
 |x::l,h=>by
  have ih:=DK hB l fun y m=>h y (cz _ m);have hx:=h x fq;rw[prod_cons,fy,Int.pow_succ,rq _ B];exact⟨Int.mul_nonneg hx.1 ih.1,Int.mul_le_mul hx.2 ih.2 ih.1 (by omega)⟩
theorem Jk{B:Int}(hB:1<=B){n m:Nat}(h:n<=m):B ^ n<=B ^ m:=by
 obtain⟨k,rfl⟩:=Nat.exists_eq_add_of_le h;rw[Int.pow_add];have h1:1<=B ^ k:=by
  have:0<B ^ k:=Int.pow_pos yw;omega
 have h2:0<B ^ n:=Int.pow_pos yw;have:=Int.mul_le_mul_of_nonneg_left h1 (Int.le_of_lt h2);omega
theorem AK{ps:List Part}{ts:List Term}(ho:Ord ps)(hb:Bnd ps)(h8:ps.length<=8)(k:Nat):fw ((zp ps ts).drop k) (fun _=>1)<2 ^ 1700:=by
 rw[AG];have h:=DK (B:=2 ^ 200) dz (((zp ps ts).drop k).map fun r=>(r.2.1:Int)) fun x m=>by
  obtain⟨r,mr,rfl⟩:=mem_map.mp m;have mr:=mem_of_mem_drop mr;unfold zp cB at mr;obtain⟨j,mj,rfl⟩:=mem_map.mp mr;have hj:j<ps.length:=by rw[List.mem_range']at mj;omega
  have h1:=ho _ (gK hj);have h2:=hb _ (gK hj);unfold bG cnt plo phi;simp only;omega
 have hl:(((zp ps ts).drop k).map fun r=>(r.2.1:Int)).length<=8:=by rw[gh,length_drop,mH];omega
 have:=Jk (B:=2 ^ 200) dz hl;have e:((2:Int) ^ 140) ^ 8<2 ^ 1700:=by decide +kernel
 omega
theorem Gd.val{ps:List Part}{ts:List Term}{k:Nat}{t:Tal}(g:Gd ps ts k t)(ho:Ord ps)(hb:Bnd ps)(h8:ps.length<=8):∀p∈t,p.2<2 ^ 1700:=fun p m=>by
 have h:=Fe (f:=fun _=>1) (fun _=>by decide) g.tl.pos m;have h2:=AK (ts:=ts) ho hb h8 k;rw[<- g.fw]at h2;omega
theorem Gd.len{ps:List Part}{ts:List Term}{k:Nat}{t:Tal}(g:Gd ps ts k t)(ho:Ord ps)(ht:Tms ps.length ts)(hr:zU ps ts-zw ps ts<400):t.length<=400:=by
 have h1:=g.tl.len;have h2:=uP (zp ps ts) k;have h3:=AR ho ht;rw[h3.1,h3.2]at h2
 (omega)
theorem vX{n:Nat}{ts:List Term}(h:Tms n ts)(k:Nat):aN ts k=0\/∃t∈ts,t.1=k/\aN ts k=t.2:=by
 by_cases hk:(k:Int)∈kys (tmT ts)
 ·rw[tQ]at hk;obtain⟨t,mt,e⟩:=mem_map.mp hk;refine .inr ⟨t,mt,yw,?_⟩;have:=Bc (kQ h.srt) (p:=((t.1:Int),t.2)) (mem_map.mpr ⟨t,mt,rfl⟩);unfold aN;rw[<- e];exact this
 ·exact .inl (jW hk)
theorem Ca:∀l:List Nat,((e9 l:Nat):Int)=(l.map fun n:Nat=>(n:Int)).prod
 | []=>rfl
 |n::l=>by
  rw[gc,prod_cons,<- Ca l];show ((n*e9 l:Nat):Int)=_;rw[Int.natCast_mul]
theorem NN(ps:List Part)(ts:List Term):(zp ps ts).map (fun r=>r.2.1)=ps.map fun p=>(p.2.2-p.2.1+1).toNat:=by
 apply List.ext_getElem
 ·simp[mH]
 ·intro i h1 h2;have hi:i<ps.length:=by simpa using h2
  simp[zp,cB,bG,cnt,plo,phi,part,hi]
theorem M6(ps:List Part)(ts:List Term):fw (zp ps ts) (fun _=>1)=(cX ps:Nat):=by
 rw[AG];unfold cX;rw[Ca,<- NN ps ts,ki];rfl
theorem CN{ps:List Part}(ho:Ord ps)(hb:Bnd ps)(h8:ps.length<=8):((cX ps:Nat):Int)<2 ^ 1700:=by
 have:=AK (ts:=[]) ho hb h8 0;rw[drop_zero,M6]at this;exact this
theorem vZ{ps:List Part}(ho:Ord ps)(hb:Bnd ps)(h8:ps.length<=8)(q:R (.d (.int (cX ps))) []):qR [.d (aE ps)] [] R:=by
 unfold qR;rw[aE];walk_at "d"
 walk_at "n"
 walk_at "n";refine dA (fun i δ S=>∃(u:Option XV),S=[]/\δ=[some (.d (.tuple (ps.map bF))),some (.d (.int (cX (ps.take i)))),u]) ⟨_,rfl,rfl⟩ ?_ ?_
 ·rintro i d _ _ N hi ⟨u,rfl,rfl⟩ hN;obtain⟨p,e,rfl⟩:=j9 hi;have mp:=cb e;have op:=ho p mp;have bp:=hb p mp;have l1:=CN (ps:=ps.take i) (fun x m=>ho x (qp m)) (fun x m=>hb x (qp m)) (by rw[nv];(omega));walk_at "d";refine sZ ?_;walk_at "d";refine tL ?_;walk_at "d";refine⟨tX 1700 200 (by clear bp op h8;omega) (by omega),hN _ _ ⟨some (.d (bF p)),rfl,?_⟩⟩;rw[Iy e,Int.natCast_mul,Int.toNat_of_nonneg (by clear l1 bp h8;omega)]
 ·rintro _ _ ⟨u,rfl,rfl⟩;rw[gh,take_length];walk_at "d";exact q
theorem JG{a b:Nat}(q:R (.d (.int (Nat.gcd a b))) []):uR [.d (.int a),.d (.int b)] [] R:=by
 unfold uR;walk_at "d";refine seq1 ?_;refine⟨fun m δ S=>∃(x y:Nat) (u:Option XV),m=x/\Nat.gcd x y=Nat.gcd a b/\S=[]/\δ=[some (.d (.int x)),some (.d (.int y)),u],⟨a,a,b,_,rfl,rfl,rfl,rfl⟩,?_⟩;rintro m _ _ ⟨x,y,u,rfl,hg,rfl,rfl⟩;walk_at "d";by_cases h0:m=0
 ·subst h0;rw[Nat.gcd_zero_left]at hg;subst hg;walk_at "d";exact q
 ·have h1:¬((m:Int)=0):=yw
  rw[cp h1];refine⟨fun δ S=>∃(x y:Nat) (u:Option XV),x<m/\Nat.gcd x y=Nat.gcd a b/\S=[]/\δ=[some (.d (.int x)),some (.d (.int y)),u],fun δ' S' ⟨x,y,u,hx,e1,e2,e3⟩=>⟨x,hx,x,y,u,rfl,e1,e2,e3⟩,?_⟩;walk_at "n";refine⟨yw,?_⟩;walk_at "n";exact⟨y % m,m,some (.d (.int ((y:Int) % m))),Nat.mod_lt _ yw,by rw[<- Nat.gcd_rec];exact hg,rfl,rfl,rfl⟩
theorem AT(g:Gap)(w x:Int):0<=inG g w x/\inG g w x<=1:=by
 unfold inG;split<;>omega
def jC(ps:List Part)(g:Gap):Int:=fw (zp ps g.ts) (inG g 0)
theorem LG(ps:List Part)(g:Gap):0<=jC ps g:=by
 have:=sE (zp ps g.ts) (f:=fun w=>0*inG g 0 w) (g:=inG g 0) fun w=>by have:=AT g 0 w;omega
 rw[AM]at this;unfold jC;omega
end
section
variable {R:RX}{S:Sto}
theorem Drw.bnd{ps:List Part}(h:Drw ps):Bnd ps:=fun p m=>by
 have:=h.all p m;have h1:=this.lo;have h2:=this.hi;have e1:(10:Int) ^ 58<2 ^ 195:=by decide +kernel
 have e2:(10:Int) ^ 59<2 ^ 197:=by decide +kernel
 have e3:(2:Int) ^ 195+2 ^ 197+1<2 ^ 200:=by decide +kernel
 omega
end
section
variable {R:RX}{S:Sto}
theorem Ic{t u:Tal}(h:t.Perm u)(f:Int->Int):tsum t f=tsum u f:=by
 induction h with
 |nil=>rfl
 |cons x _ ih=>rw[zR,zR,ih]
 |swap x y l=>rw[zR,zR,zR,zR];omega
 |trans _ _ h1 h2=>exact h1.trans h2
theorem AO{t u:Tal}(h:t.Perm u):(kys t).Perm (kys u):=h.map _
def Srt(t:Tal):Prop:=t.Pairwise fun a b=>a.1<b.1
theorem Gd.perm{ps:List Part}{ts:List Term}{k:Nat}{t u:Tal}(g:Gd ps ts k t)(h:u.Perm t):Gd ps ts k u:=
 ⟨⟨(AO h).nodup_iff.mpr g.tl.nd,fun x m=>g.tl.bd x ((AO h).mem_iff.mp m),fun p m=>g.tl.pos p (h.mem_iff.mp m)⟩,fun f=>(Ic h f).trans (g.fw f)⟩
def itm(p:Int×Int):bq:=.tuple [.int p.1,.int p.2]
theorem FH(p:Int×Int):itm p=.tuple [.int p.1,.int p.2]:=rfl
theorem LD{t u:Tal}(nd:(kys t).Nodup)(h:u.Perm t)(hs:u.Pairwise fun x y=>HT.lexLt (ik2 y) (ik2 x)=false):Srt u:=by
 have n2:(kys u).Nodup:=(AO h).nodup_iff.mpr nd;unfold kys at n2;have n3:u.Pairwise fun a b=>a.1≠b.1:=by
  have:=pairwise_map.mp n2;exact this
 refine(List.Pairwise.and hs n3).imp fun {a b} ⟨h1,h2⟩=>?_;unfold ik2 at h1;rw[HT.lexLt_cons,cf (fun e=>h2 e.symm)]at h1;have:=of_decide_eq_false h1;omega
end
section
variable {R:RX}{S:Sto}
theorem JB(ps:List Part):aE ps=.tuple (ps.map bF):=rfl
theorem B5{d:bq}(q:R (.d (.bool (cF d))) []):nF [.d d] [] R:=by
 unfold nF;cases d<;>(walk_at "e";exact q)
def inP(p:Part):bq->Bool
 | .int k=>decide (p.2.1<=k/\k<=p.2.2)
 |_=>false
def pE(ps:List Part):bq->Bool
 | .tuple ds=>decide (ds.length=ps.length)&&((ds.zip ps).map fun q=>inP q.2 q.1).all id
 |_=>false
theorem uG(ps:List Part)(ds:List bq):pE ps (.tuple ds)=(decide (ds.length=ps.length)&&((ds.zip ps).map fun q=>inP q.2 q.1).all id):=rfl
theorem LK{ps:List Part}{d:bq}(hl:ps.length<=100)(q:R (.d (.bool (pE ps d))) []):uO [.d (aE ps),.d d] [] R:=by
 unfold uO;rw[JB];cases d with
 |tuple ds=>
  walk_at "d"
  walk_at "n"
  by_cases h:ds.length=ps.length
  ·rw[cf yw];rw[uG,ke h,Bool.true_and]at q;have ez:cJ ds (ps.map bF)=(ds.zip ps).map fun q=>.tuple [q.1,bF q.2]:=by
    have:=FA (fun d:bq=>d) bF ds ps
    rwa [List.map_id']at this
   walk_at "d";rw[ez];refine cmp2 (S0:=[]) (fun q:bq×Part=>.bool (inP q.2 q.1)) rfl (ds.zip ps) (by simp;omega) ?_ ?_
   ·intro x mx u v acc R' hk;obtain⟨d,p⟩:=x;rw[y6];walk_at "d";refine B5 ?_;cases d with
    |int k=>
     simp only[cF];walk_at "d";have e0:inP p (.int k)=decide (p.2.1<=k/\k<=p.2.2):=rfl;have z:=hk (some (.d (.int k))) (some (.d (.tuple [.str p.1,.int p.2.1,.int p.2.2])));rw[e0]at z;split
     ·rename_i h1;simpa[h1]using z
     ·rename_i h1;simpa[h1]using z
    |none=>(simp only[cF];walk_at "d";exact hk _ _)
    |bool b=>(simp only[cF];walk_at "d";exact hk _ _)
    |str b=>(simp only[cF];walk_at "d";exact hk _ _)
    |list b=>(simp only[cF];walk_at "d";exact hk _ _)
    |dict b=>(simp only[cF];walk_at "d";exact hk _ _)
    |tuple b=>(simp only[cF];walk_at "d";exact hk _ _)
   ·walk_at "d";exact⟨_,by rw[ki];rfl,q⟩
  ·rw[cp yw];rw[uG,gz h]at q;exact q
 |none=>(walk_at "d";walk_at "n";exact q)
 |bool b=>(walk_at "d";walk_at "n";exact q)
 |int b=>(walk_at "d";walk_at "n";exact q)
 |str b=>(walk_at "d";walk_at "n";exact q)
 |list b=>(walk_at "d";walk_at "n";exact q)
 |dict b=>(walk_at "d";walk_at "n";exact q)
theorem wN:∀{ps:List Part}{ds:List bq},(ds.length=ps.length/\((ds.zip ps).map fun q=>inP q.2 q.1).all id=true)↔∃z:List Int,ds=z.map cu/\InBox ps z
 | [],[]=>by
  constructor
  ·intro _;exact⟨[],rfl,D5.mpr rfl⟩
  ·intro _;exact⟨rfl,rfl⟩
 | [],d::ds=>by
  constructor
  ·intro h;cases h.1
  ·rintro⟨z,e,h⟩;rw[D5.mp h]at e;cases e
 |p::ps,[]=>by
  constructor
  ·intro h;cases h.1
  ·rintro⟨z,e,h⟩;obtain⟨x,t,rfl,_⟩:=wX.mp h;cases e
 |p::ps,d::ds=>by
  have ih:=wN (ps:=ps) (ds:=ds);constructor
  ·rintro⟨h1,h2⟩;rw[qv,gc,all_cons,jn]at h2;obtain⟨h2,h3⟩:=h2;obtain⟨z,e,hb⟩:=ih.mp ⟨by simpa using h1,h3⟩;cases d with
   |int k=>
    have aa:decide (p.2.1<=k/\k<=p.2.2)=true:=h2;have:=qz aa;exact⟨k::z,by rw[e];rfl,wX.mpr ⟨k,z,rfl,this.1,this.2,hb⟩⟩
   |_=>cases h2
  ·rintro⟨z,e,h⟩;obtain⟨x,t,rfl,h1,h2,h3⟩:=wX.mp h;rw[gc]at e;injection e with e1 e2
   have:=ih.mpr ⟨t,e2,h3⟩;refine⟨by simpa using this.1,?_⟩;rw[qv,gc,all_cons,this.2,Bool.and_true,e1];exact ke ⟨h1,h2⟩
theorem Bz{ps:List Part}{d:bq}:pE ps d=true↔∃z,d=bC z/\InBox ps z:=by
 constructor
 ·intro h;cases d with
  |tuple ds=>
   rw[uG,jn,decide_eq_true_eq]at h;obtain⟨z,e,hb⟩:=wN.mp h;exact⟨z,by rw[e];rfl,hb⟩
  |_=>cases h
 ·rintro⟨z,rfl,hb⟩;have h:=wN.mpr ⟨z,rfl,hb⟩;show pE ps (.tuple (z.map cu))=true;rw[uG,jn,decide_eq_true_eq];exact h
end
section
variable {R:RX}{S:Sto}
def wR:List Row->List Int->Int
 |r::rs,x::xs=>r.2.2*x+wR rs xs
 |_,_=>0
def bef:List Row->List Int->(Int->Int)->Int
 |r::rs,x::xs,f=>rsum r.1 (x-r.1).toNat (fun v=>fw rs fun w=>f (w+r.2.2*v))+bef rs xs (fun w=>f (w+r.2.2*x))
 |_,_,_=>0
theorem Ln{f:Int->Int}(hf:∀w,0<=f w)(rs:List Row):0<=fw rs f:=by
 have:=sE rs (f:=fun w=>0*f w) (g:=f) fun w=>by have:=hf w;omega
 rw[AM]at this;omega
theorem wK:∀(rs:List Row) (b:List Int) (v:Int) (r:Row),rs[b.length]?=some r->wR rs (b++[v])=wR rs b+r.2.2*v
 | [],b,v,r,h=>by simp at h
 |x::rs,[],v,r,h=>by
  have:x=r:=by simpa using h
  subst this;show x.2.2*v+wR rs []=0+x.2.2*v;have:wR rs []=0:=by cases rs<;>rfl
  omega
 |x::rs,y::b,v,r,h=>by
  have ih:=wK rs b v r (by simpa using h);show x.2.2*y+wR rs (b++[v])=x.2.2*y+wR rs b+r.2.2*v;omega
theorem Ai:∀(rs:List Row) (b:List Int) (v:Int) (r:Row) (f:Int->Int),rs[b.length]?=some r->bef rs (b++[v]) f=bef rs b f+rsum r.1 (v-r.1).toNat (fun u=>fw (rs.drop (b.length+1)) fun w=>f (w+r.2.2*u+wR rs b))
 | [],b,v,r,f,h=>by simp at h
 |x::rs,[],v,r,f,h=>by
  have:x=r:=by simpa using h
  subst this;have e1:bef rs [] (fun w=>f (w+x.2.2*v))=0:=by cases rs<;>rfl
  show rsum x.1 (v-x.1).toNat (fun u=>fw rs fun w=>f (w+x.2.2*u))+bef rs [] (fun w=>f (w+x.2.2*v))=0+rsum x.1 (v-x.1).toNat (fun u=>fw rs fun w=>f (w+x.2.2*u+0));rw[e1];simp only[Int.add_zero,nq]
 |x::rs,y::b,v,r,f,h=>by
  have ih:=Ai rs b v r (fun w=>f (w+x.2.2*y)) (by simpa using h);show _+bef rs (b++[v]) (fun w=>f (w+x.2.2*y))=_+bef rs b (fun w=>f (w+x.2.2*y))+rsum r.1 (v-r.1).toNat (fun u=>fw (rs.drop (b.length+1)) fun w=>f (w+r.2.2*u+(x.2.2*y+wR rs b)));rw[ih,Int.add_assoc];congr 2;refine mZ fun u _ _=>?_;congr 1;funext w;congr 1;omega
def wB(ts:List Term)(b:List Int):Int:=((ts.filter fun t:Term=>decide (t.1<b.length)).map fun t:Term=>t.2*b.getD t.1 0).sum
theorem Du(t:Term)(ts:List Term)(b:List Int):wB (t::ts) b=(if t.1<b.length then t.2*b.getD t.1 0 else 0)+wB ts b:=by
 unfold wB;by_cases h:t.1<b.length
 ·rw[List.filter_cons_of_pos (by simpa using h),gc,rh,cp h]
 ·rw[List.filter_cons_of_neg (by simpa using h),cf h,nq]
theorem EY(b:List Int)(v:Int):∀ts:List Term,wB ts (b++[v])=wB ts b+aN ts b.length*v
 | []=>by
  have:aN [] b.length=0:=rfl;rw[this];simp[wB]
 |t::ts=>by
  rw[Du,Du,EY b v ts,x6,Int.add_mul];have e:(if t.1<(b++[v]).length then t.2*(b++[v]).getD t.1 0 else 0)=(if t.1<b.length then t.2*b.getD t.1 0 else 0)+(if t.1=b.length then t.2 else 0)*v:=by
   rw[gu,jt];by_cases h1:t.1<b.length
   ·rw[cp yw,cp h1,cf yw,Int.zero_mul,Int.add_zero];congr 1;simp[gk,ft h1]
   ·by_cases h2:t.1=b.length
    ·rw[cp yw,cf h1,cp h2,nq];congr 1;rw[h2];simp[gk]
    ·rw[cf yw,cf h1,cf h2];simp
  omega
theorem yO{ps:List Part}{ts:List Term}{k:Nat}(h:k<ps.length):(zp ps ts)[k]?=some (bG ps ts k):=by
 rw[cw (by rw[mH];exact h)];simp[zp,cB]
theorem MC{α:Type}{P:List α->Prop}(h0:P [])(h1:∀l a,P l->P (l++[a]))(l:List α):P l:=by
 have:∀l:List α,P l.reverse:=by
  intro l;induction l with
  |nil=>exact h0
  |cons a l ih=>rw[reverse_cons];exact h1 _ _ ih
 rw[<- List.reverse_reverse l];exact this _
theorem C9{ps:List Part}{ts:List Term}(b:List Int):b.length<=ps.length->wR (zp ps ts) b=wB ts b:=by
 refine MC (P:=fun b=>b.length<=ps.length->wR (zp ps ts) b=wB ts b) (fun _=>?_) (fun b v ih h=>?_) b
 ·have:wR (zp ps ts) []=0:=by cases zp ps ts<;>rfl
  rw[this];unfold wB;rw[List.filter_eq_nil_iff.mpr (fun t m=>by simp)];rfl
 ·rw[gu,jt]at h;rw[wK _ b v _ (yO yw),EY,ih yw];rfl
theorem NX{n:Nat}{ts:List Term}{z:List Int}(h:∀t∈ts,t.1<n)(hl:z.length=n):worth ts z=wB ts z:=by
 unfold worth wB;rw[List.filter_eq_self.mpr fun t m=>by simpa[hl]using h t m]
theorem IA{ps:List Part}{ts:List Term}{z:List Int}(ht:Tms ps.length ts)(hl:z.length=ps.length):wR (zp ps ts) z=worth ts z:=by
 rw[C9 z yw,NX (fun t m=>(ht.ok t m).1) hl]
theorem Am{ps:List Part}{g:Gap}{b:List Int}(h8:ps.length<=8)(ht:Tms ps.length g.ts)(hl:b.length<=ps.length)(q:R (.d (.int (wR (zp ps g.ts) b))) []):o8 [.d (aM g),.d (bC b)] [] R:=by
 have l1:=ht.len;unfold o8;rw[fW,e8,bC];walk_at "d";refine cmf2 (S0:=[]) (fun t:Term=>cu (t.2*b.getD t.1 0)) (fun t=>decide (t.1<b.length)) rfl g.ts yw ?_ ?_
 ·intro t m u v acc R' hk;have h3:=(ht.ok t m).2.2;rw[wG];walk_at "d";have e:decide ((t.1:Int)<(b.length:Int))=decide (t.1<b.length):=by rw[decide_eq_decide];omega
  rw[e];refine hk _ _ fun hp T hT=>?_;have hb:t.1<b.length:=by simpa using hp
  walk_at "d";refine⟨_,dZ (uN hb),?_⟩;walk_at "d";exact⟨dE yw yw,hT⟩
 refine⟨[],_,rfl,rfl,?_⟩;walk_at "d";refine⟨(g.ts.filter fun t:Term=>decide (t.1<b.length)).map fun t:Term=>t.2*b.getD t.1 0,by rw[ki];rfl,?_⟩;rw[C9 b hl]at q;exact q
def ahd(ps:List Part)(g:Gap)(b:List Int)(u:Int):Int:=fw ((zp ps g.ts).drop (b.length+1)) (inG g (wR (zp ps g.ts) b+aN g.ts b.length*u))
theorem xR(g:Gap)(a w:Int):inG g a w=inG g 0 (w+a):=by
 unfold inG;congr 2
 ·rw[show 0+(w+a)=a+w by omega]
 ·rw[show 0+(w+a)=a+w by omega]
theorem C6{α:Type}{ds:List α}{k:Nat}(h:k<=ds.length):aV ds none (some (k:Int))=ds.take k:=by
 have e1:HT.sIx ds.length ds.length (some (k:Int))=k:=by rw[HT.sIx_nat];omega
 have e2:HT.sIx ds.length 0 none=0:=rfl;unfold aV;rw[e1,e2];simp
theorem Ku{ps:List Part}{g:Gap}(ho:Ord ps)(ht:Tms ps.length g.ts)(hr:zU ps g.ts-zw ps g.ts<400){k:Nat}(hk:k<ps.length)(hm:aN g.ts k≠0):phi ps k-plo ps k<400:=by
 have h1:=uP (zp ps g.ts) k;have h2:=AR ho ht;rw[h2.1,h2.2,wE hk]at h1;have h3:=Bk ((zp ps g.ts).drop (k+1));have h4:cE (bG ps g.ts k::(zp ps g.ts).drop (k+1))=rHi (bG ps g.ts k)+cE ((zp ps g.ts).drop (k+1)):=by simp[cE]
 have h5:cD (bG ps g.ts k::(zp ps g.ts).drop (k+1))=rLo (bG ps g.ts k)+cD ((zp ps g.ts).drop (k+1)):=by simp[cD]
 have o:plo ps k<=phi ps k:=ho _ (gK hk);have h6:phi ps k-plo ps k<=rHi (bG ps g.ts k)-rLo (bG ps g.ts k):=by
  unfold rHi rLo bG cnt;simp only;have e:plo ps k+((phi ps k-plo ps k+1).toNat:Int)-1=phi ps k:=yw
  rw[e];have e2:aN g.ts k*phi ps k=aN g.ts k*plo ps k+aN g.ts k*(phi ps k-plo ps k):=by rw[<- Int.mul_add];congr 1;omega
  rw[e2];generalize phi ps k-plo ps k=d at *;have hd:0<=d:=yw
  rcases Int.lt_or_gt_of_ne hm with h|h
  ·have:=Int.mul_le_mul_of_nonneg_right (show aN g.ts k <= -1 by omega) hd;omega
  ·have:=Int.mul_le_mul_of_nonneg_right (show 1<=aN g.ts k by omega) hd;omega
 omega
theorem pI{ps:List Part}{g:Gap}{t:Tal}{k:Nat}{w:Int}(ho:Ord ps)(ht:Tms ps.length g.ts)(hr:zU ps g.ts-zw ps g.ts<400)(gd:Gd ps g.ts k t)(q:R (.d (.int (fw ((zp ps g.ts).drop k) (inG g w)))) []):fM [.d (bL t),.d (aM g),.d (.int w)] [] R:=by
 refine BI (by have:=gd.len ho ht hr;omega) ?_;rw[gd.fw];exact q
theorem F1{ps:List Part}{g:Gap}{k:Nat}{w:Int}(ho:Ord ps)(hb:Bnd ps)(h8:ps.length<=8):0<=fw ((zp ps g.ts).drop k) (inG g w)/\fw ((zp ps g.ts).drop k) (inG g w)<2 ^ 1700:=by
 have h1:=Ln (fun x=>(AT g w x).1) ((zp ps g.ts).drop k);have h2:=sE ((zp ps g.ts).drop k) (f:=inG g w) (g:=fun _=>1) fun x=>(AT g w x).2;have h3:=AK (ts:=g.ts) ho hb h8 k;exact⟨h1,yw⟩
theorem CW{ts:List Term}{n:Nat}(ht:Tms n ts)(k:Nat):(aN ts k=0/\lkA (aF (tmT ts)) (jf (k:Int))=none)\/(aN ts k≠0/\lkA (aF (tmT ts)) (jf (k:Int))=some (.int (aN ts k))):=by
 by_cases hk:(k:Int)∈kys (tmT ts)
 ·refine .inr ⟨?_,LB hk (kQ ht.srt)⟩;rw[tQ]at hk;obtain⟨t,mt,e⟩:=mem_map.mp hk;have:=Bc (kQ ht.srt) (p:=((t.1:Int),t.2)) (mem_map.mpr ⟨t,mt,rfl⟩);unfold aN;rw[<- e,this];exact(ht.ok t mt).2.1
 ·refine .inl ⟨jW hk,?_⟩;unfold lkA;rw[Option.map_eq_none_iff,List.find?_eq_none];intro x m e;obtain⟨p,mp,rfl⟩:=mem_map.mp m;have:p.1=(k:Int):=by simpa using e
  exact hk (this▸uF mp)
theorem Gx{E:DEnds}{δ:XE}{S:Sto}{i j:Nat}{L:List bq}(h:δ[i]?=some (some (.d (.tuple L))))(q:∀n:Int,n=(L.length:Int)-1->E.nx (δ.set j (some (.d (.int n)))) S):aA (dOp (dI0 fun i j=>i-j) (dCB bV (zc (zh i) zo)) (dC (.int 1))) (zj j) E δ S:=⟨_,h,L.length,rfl,q _ rfl⟩
theorem Dg{ps:List Part}{g:Gap}{b:List Int}{v:Int}{t:Tal}(ho:Ord ps)(hb:Bnd ps)(h8:ps.length<=8)(ht:Tms ps.length g.ts)(hr:zU ps g.ts-zw ps g.ts<400)(hl:b.length<ps.length)(gd:Gd ps g.ts (b.length+1) t)(v1:plo ps b.length<=v)(v2:v<=phi ps b.length)
  (q:R (.d (.int (rsum (plo ps b.length) (v-plo ps b.length).toNat (ahd ps g b)))) []):k7 [.d (aE ps),.d (aM g),.d (bC (b++[v])),.d (bL t)] [] R:=by
 have l1:=ht.len;have bp:=hb _ (gK hl);have eb:(part ps b.length).2.1=plo ps b.length:=rfl;have af:(part ps b.length).2.2=phi ps b.length:=rfl;rw[eb,af]at bp;have es:bC (b++[v])=.tuple ((b++[v]).map cu):=rfl;have ev:atI ((b++[v]).map cu) (b.length:Int)=some (.int v):=dZ (by rw[dh]);have ae:aV ((b++[v]).map cu) none (some (b.length:Int))=b.map cu:=by
  rw[C6 yv];rw[map_append,List.take_left' yv]
 have aa:((b++[v]).map cu).length=b.length+1:=by simp
 have ac:¬(HT.sIx ((b++[v]).map cu).length 0 none=0/\HT.sIx ((b++[v]).map cu).length ((b++[v]).map cu).length (some (b.length:Int))=((b++[v]).map cu).length):=by
  rw[aa,HT.sIx_nat];omega
 unfold k7;rw[es,aE,fW,e8];generalize (b++[v]).map cu=L at ev ae aa ac ⊢;walk_at "d";refine seq1 (Gx rfl fun n en=>?_);obtain rfl:n=(b.length:Int):=yw
 walk_at "d"
 walk_at "n"
 refine⟨_,dZ (kE hl),?_⟩;rw[y6,eb];walk_at "d";walk_at "n";refine⟨aF (tmT g.ts),by unfold aF tmT;rw[ki,ki];rfl,by simp[aF,tmT];omega,?_⟩;rw[rZ (uW (kQ ht.srt))]
 walk_at "n"
 refine⟨ac,?_⟩;rw[ae];refine Am (ps:=ps) (g:=g) (b:=b) h8 ht yw ?_;walk_at "d";walk_at "n";rcases CW ht b.length with ⟨h0,hn⟩|⟨h0,hn⟩
 ·refine⟨.k (aF (tmT g.ts)),none,.inr ⟨_,rfl,rfl⟩,?_,?_⟩
  ·show some (lkA (aF (tmT g.ts)) (jf (b.length:Int)))=_;rw[hn]
  walk_at "d";refine⟨_,ev,?_⟩;walk_at "d";refine pI (g:=g) ho ht hr gd ?_;walk_at "d";have ah:=F1 (g:=g) (k:=b.length+1) (w:=wR (zp ps g.ts) b) ho hb h8;refine⟨tX 200 1700 yw yw,?_⟩;have ea:ahd ps g b=fun _=>fw ((zp ps g.ts).drop (b.length+1)) (inG g (wR (zp ps g.ts) b)):=by
   funext u;unfold ahd;rw[h0,Int.zero_mul,Int.add_zero]
  rw[ea,lE,Int.toNat_of_nonneg yw]at q;exact q
 ·refine⟨.k (aF (tmT g.ts)),some (.int (aN g.ts b.length)),.inr ⟨_,rfl,rfl⟩,?_,?_⟩
  ·show some (lkA (aF (tmT g.ts)) (jf (b.length:Int)))=_;rw[hn]
  have hw:=Ku ho ht hr hl h0;have ag:-3<=aN g.ts b.length/\aN g.ts b.length<=3:=by
   rcases vX ht b.length with z|⟨u,mu,_,e⟩
   ·exact absurd z h0
   ·rw[e];exact(ht.ok u mu).2.2
  walk_at "d";refine⟨_,ev,?_⟩;walk_at "d";refine cmp1 (S0:=[]) (fun k:Nat=>cu (ahd ps g b (plo ps b.length+k))) rfl (jb (v-plo ps b.length).toNat) (by rw[List.length_range];omega) ?_ ?_
  ·intro k mk u acc R' hk;walk_at "d";refine⟨.k (aF (tmT g.ts)),_,.inr ⟨_,rfl,rfl⟩,congrArg some hn,?_⟩;walk_at "d";refine⟨dE yw yw,?_⟩;walk_at "d";refine pI (g:=g) ho ht hr gd ?_;walk_at "d";exact hk _
  refine⟨[],_,rfl,rfl,?_⟩;walk_at "d";refine⟨(jb (v-plo ps b.length).toNat).map fun k:Nat=>ahd ps g b (plo ps b.length+k),by rw[ki];rfl,?_⟩;exact q
theorem JX{n:Nat}{ts:List Term}(ht:Tms n ts)(k:Nat):-3<=aN ts k/\aN ts k<=3:=by
 rcases vX ht k with z|⟨u,mu,_,e⟩
 ·rw[z];decide
 ·rw[e];exact(ht.ok u mu).2.2
theorem ML{ps:List Part}{g:Gap}{b:List Int}{left:Int}{t:Tal}(ho:Ord ps)(hb:Bnd ps)(h8:ps.length<=8)(ht:Tms ps.length g.ts)(hr:zU ps g.ts-zw ps g.ts<400)(hl:b.length<ps.length)(gd:Gd ps g.ts (b.length+1) t)(l0:0<=left)(l1:left<rsum (plo ps b.length) (cnt (plo ps b.length) (phi ps b.length)) (ahd ps g b))
  (q:∀v,plo ps b.length<=v->v<=phi ps b.length->rsum (plo ps b.length) (v-plo ps b.length).toNat (ahd ps g b)<=left->left<rsum (plo ps b.length) ((v-plo ps b.length).toNat+1) (ahd ps g b)->R (.d (.int v)) []):qO [.d (aE ps),.d (aM g),.d (bC b),.d (bL t),.d (.int left)] [] R:=by
 have ah:=ht.len;have o:plo ps b.length<=phi ps b.length:=ho _ (gK hl);have eb:(part ps b.length).2.1=plo ps b.length:=rfl;have ae:(part ps b.length).2.2=phi ps b.length:=rfl;have ec:(phi ps b.length+1-plo ps b.length).toNat=cnt (plo ps b.length) (phi ps b.length):=by unfold cnt;congr 1;omega
 have ag:((cnt (plo ps b.length) (phi ps b.length):Nat):Int)=phi ps b.length-plo ps b.length+1:=by unfold cnt;omega
 unfold qO;rw[aE,fW,e8,bC];walk_at "d"
 walk_at "n"
 walk_at "n"
 refine⟨_,dZ (kE hl),?_⟩;walk_at "d";refine sZ ?_;rw[eb,ae];walk_at "d";walk_at "n";refine⟨aF (tmT g.ts),by unfold aF tmT;rw[ki,ki];rfl,by simp[aF,tmT];omega,?_⟩;rw[rZ (uW (kQ ht.srt))]
 walk_at "n"
 refine Am (ps:=ps) (g:=g) (b:=b) h8 ht yw ?_;walk_at "d";walk_at "n";have ai:=JX ht b.length;rcases CW ht b.length with ⟨h0,hn⟩|⟨h0,hn⟩
 ·refine⟨.k (aF (tmT g.ts)),none,.inr ⟨_,rfl,rfl⟩,?_,?_⟩
  ·show some (lkA (aF (tmT g.ts)) (jf (b.length:Int)))=_;rw[hn]
  unfold spD;walk_at "d";refine pI (g:=g) ho ht hr gd ?_;walk_at "d";have ac:=F1 (g:=g) (k:=b.length+1) (w:=wR (zp ps g.ts) b) ho hb h8;have ea:ahd ps g b=fun _=>fw ((zp ps g.ts).drop (b.length+1)) (inG g (wR (zp ps g.ts) b)):=by
   funext u;unfold ahd;rw[h0,Int.zero_mul,Int.add_zero]
  rw[ea]at l1 q;generalize fw ((zp ps g.ts).drop (b.length+1)) (inG g (wR (zp ps g.ts) b))=c at *;rw[lE]at l1;have hc:0<c:=by
   rcases Int.lt_or_eq_of_le ac.1 with h|h
   ·exact h
   ·rw[<- h,Int.mul_zero]at l1;omega
  have d0:=Int.ediv_nonneg l0 (Int.le_of_lt hc);have d1:left/c<cnt (plo ps b.length) (phi ps b.length):=Int.ediv_lt_of_lt_mul hc l1;have d2:=Int.emod_add_mul_ediv left c;have d3:=lq left (show c≠0 by omega);have d4:=kj left hc;refine .inl ⟨⟨hc,?_⟩,?_⟩
  ·have:=l7 hc ac.2;omega
  ·refine q _ yw yw ?_ ?_
   ·rw[lE,show ((plo ps b.length+left/c-plo ps b.length).toNat:Int)=left/c by omega,rq];omega
   ·rw[lE,Int.natCast_add,show ((plo ps b.length+left/c-plo ps b.length).toNat:Int)=left/c by omega,Int.add_mul,rq];omega
 ·refine⟨.k (aF (tmT g.ts)),some (.int (aN g.ts b.length)),.inr ⟨_,rfl,rfl⟩,?_,?_⟩
  ·show some (lkA (aF (tmT g.ts)) (jf (b.length:Int)))=_;rw[hn]
  unfold spD;walk_at "d";rw[ec];refine dA (fun i δ S=>∃(u9 aa:Option XV),rsum (plo ps b.length) i (ahd ps g b)<=left/\S=[]/\δ=[some (.d (.tuple (ps.map bF))),some (.d (.tuple [.tuple (g.ts.map tmD),.int g.lo,.int g.hi])),some (.d (.tuple (b.map cu))),some (.d (bL t)),some (.d (.int (left-rsum (plo ps b.length) i (ahd ps g b)))),some (.d (.int b.length)),some (.d (.tuple [.int (plo ps b.length),.int (phi ps b.length)])),some (.d (.dict (DD.pairs (.k (aF (tmT g.ts)))))),some (.d (.int (wR (zp ps g.ts) b))),u9,aa]) ⟨_,_,by rw[rY];exact l0,rfl,by rw[rY,Int.sub_zero]⟩ ?_ ?_
  ·rintro i d _ _ N hi ⟨u9,aa,hs,rfl,rfl⟩ hN;obtain⟨af,rfl⟩:=iB hi;walk_at "d";walk_at "n";refine⟨.k (aF (tmT g.ts)),_,.inr ⟨_,rfl,rfl⟩,congrArg some hn,?_⟩;walk_at "d";refine⟨dE yw yw,?_⟩;walk_at "d";refine pI (g:=g) ho ht hr gd ?_;walk_at "d";have ea:fw ((zp ps g.ts).drop (b.length+1)) (inG g (wR (zp ps g.ts) b+aN g.ts b.length*(plo ps b.length+i)))=ahd ps g b (plo ps b.length+i):=rfl;rw[ea];have z:=f9 (plo ps b.length) i (ahd ps g b);walk_at "n";by_cases hlt:left-rsum (plo ps b.length) i (ahd ps g b)<ahd ps g b (plo ps b.length+i)
   ·rw[cp hlt];refine q _ yw yw ?_ ?_
    ·rw[show (plo ps b.length+(i:Int)-plo ps b.length).toNat=i by omega];exact hs
    ·rw[show (plo ps b.length+(i:Int)-plo ps b.length).toNat=i by omega,z];omega
   ·rw[cf hlt];walk_at "d";have e5:left-rsum (plo ps b.length) i (ahd ps g b)-ahd ps g b (plo ps b.length+i)=left-rsum (plo ps b.length) (i+1) (ahd ps g b):=by rw[z];omega
    rw[e5];exact hN _ _ ⟨_,_,by rw[z];omega,rfl,rfl⟩
  ·rintro _ _ ⟨u9,aa,hs,rfl,rfl⟩;rw[iO]at hs;omega
theorem GS{ps:List Part}{g:Gap}{b:List Int}{v:Int}(hl:b.length<ps.length):bef (zp ps g.ts) (b++[v]) (inG g 0)=bef (zp ps g.ts) b (inG g 0)+rsum (plo ps b.length) (v-plo ps b.length).toNat (ahd ps g b):=by
 rw[Ai _ b v _ _ (yO hl)];congr 1;show rsum (plo ps b.length) (v-plo ps b.length).toNat _=_;refine mZ fun u _ _=>?_;unfold ahd;congr 1;funext w;show inG g 0 (w+aN g.ts b.length*u+wR (zp ps g.ts) b)=_;rw[xR g (wR (zp ps g.ts) b+aN g.ts b.length*u) w];congr 1;omega
def nbr(ps:List Part)(g:Gap)(z:List Int):Int:=bef (zp ps g.ts) z (inG g 0)
theorem BR{ps:List Part}{g:Gap}{z:List Int}(hl:z.length=ps.length):∀n,n<=ps.length->((jb n).map fun k:Nat=>rsum (plo ps k) (z.getD k 0-plo ps k).toNat (ahd ps g (z.take k))).sum=nbr ps g (z.take n)
 | 0,_=>by
  unfold nbr;rw[take_zero];cases zp ps g.ts<;>rfl
 |n+1,h=>by
  have hn:n<z.length:=yw
  have et:z.take (n+1)=z.take n++[z.getD n 0]:=wY (uN hn);have el:(z.take n).length=n:=by rw[nv];omega
  rw[List.range_succ,map_append,List.sum_append,BR hl n yw,et];unfold nbr;rw[GS (by rw[el];omega),el];simp
theorem JZ{ps:List Part}{g:Gap}{z:List Int}{T:List Tal}(ho:Ord ps)(hb:Bnd ps)(h8:ps.length<=8)(ht:Tms ps.length g.ts)(hr:zU ps g.ts-zw ps g.ts<400)(hT:T.length=ps.length+1)(hG:∀k t,T[k]?=some t->Gd ps g.ts k t)(ac:InBox ps z)(q:R (.d (.int (nbr ps g z))) []):
  ∃n:Nat,mG [] (.d (aE ps))=some n/\bO 0 (zj 0) bA (aH 4 k7 (zc (zh 1) (zc (zh 2) (zc (dSl i9 (zh 3) cW (cY (dOp aC (zh 0) (dC (.int 1))))) (zc (dOp dIx (zh 4) (dOp aC (zh 0) (dC (.int 1)))) zo))))) (fun S2=>∃S0 acc,S2=S0++[acc]/\List.length S0=0/\∃ns:List Int,acc=ns.map cu/\R (.d (.int ns.sum)) []) (gS 0 (n:Int).toNat) [none,some (.d (aE ps)),some (.d (aM g)),some (.d (bC z)),some (.d (.list (T.map bL)))] [[]]:=by
 have hl:=ac.len;have ed:aE ps=.tuple (ps.map bF):=rfl;refine⟨ps.length,by rw[ed,kF,gh],?_⟩;refine cmp1 (S0:=[]) (fun k:Nat=>cu (rsum (plo ps k) (z.getD k 0-plo ps k).toNat (ahd ps g (z.take k)))) rfl (jb ps.length) (by rw[List.length_range];omega) ?_ ?_
 ·intro k mk u acc R' hk;have ae:=mem_range.mp mk;have af:k<z.length:=yw
  have e0:(0:Int)+(k:Int)+1=((k+1:Nat):Int):=yw
  have es:bC z=.tuple (z.map cu):=rfl;have et:z.take (k+1)=z.take k++[z.getD k 0]:=wY (uN af);have aa:(z.take k).length=k:=by rw[nv];omega
  have eT:=cw (l:=T) (i:=k+1) yw;have gd:=hG (k+1) _ eT;rw[es];walk_at "d";rw[e0];refine⟨_,dZ eT,?_⟩;walk_at "d";rw[C6 (by simp;omega),<- List.map_take,et];refine Dg (ps:=ps) (g:=g) (b:=z.take k) (v:=z.getD k 0) ho hb h8 ht hr (by rw[aa];omega) (by rw[aa];exact gd) (by rw[aa];exact(ac.ok k ae).1) (by rw[aa];exact(ac.ok k ae).2) ?_;walk_at "d";rw[aa];exact hk _
 refine⟨[],_,rfl,rfl,?_⟩;refine⟨(jb ps.length).map fun k:Nat=>rsum (plo ps k) (z.getD k 0-plo ps k).toNat (ahd ps g (z.take k)),by rw[ki];rfl,?_⟩;rw[BR hl ps.length (dw _),rc yw];exact q
theorem EJ:∀{a b:List Int},a.map cu=b.map cu->a=b
 | [],[],_=>rfl
 | [],_::_,h=>by cases h
 |_::_,[],h=>by cases h
 |x::a,y::b,h=>by
  rw[gc,gc]at h;injection h with h1 h2
  injection h1 with h3
  rw[h3,EJ h2]
theorem KW{a b:List Int}(h:bC a=bC b):a=b:=by
 unfold bC at h;injection h with h
 exact EJ h
theorem tK{EX:EXD}{ps:List Part}{g:Gap}(ho:Ord ps)(hb:Bnd ps)(h8:ps.length<=8)(ht:Tms ps.length g.ts)(hr:zU ps g.ts-zw ps g.ts<400)
  (q:∀T:List Tal,T.length=ps.length+1->(∀k t,T[k]?=some t->Gd ps g.ts k t)->R (.d (.list (T.map bL))) []):gO [.d (aE ps),.d (aM g)] [] R EX:=by
 unfold gO;rw[fW,aE];walk_at "d"
 walk_at "n"
 refine wZ (ps:=ps) (g:=g) (ht.tm3 h8) ?_;walk_at "d";refine tL ?_;walk_at "d";walk_at "n";rw[cf yw];refine seq1 ?_;unfold e8;walk_at "d";refine⟨aF (tmT g.ts),by unfold aF tmT;rw[ki,ki];rfl,by have:=ht.len;simp[aF,tmT];omega,?_⟩;rw[rZ (uW (kQ ht.srt))]
 walk_at "n"
 refine cut (fun δ S=>∃(L:List Tal) (u5:Option XV),L.length=ps.length+1/\(∀j t,L[j]?=some t->Gd ps g.ts (ps.length-j) t)/\S=[L.map bL]/\δ=[some (.d (.tuple (ps.map bF))),some (.d (.tuple [.tuple (g.ts.map tmD),.int g.lo,.int g.hi])),some (.d (.int (zU ps g.ts-zw ps g.ts+1))),some (.d (.dict (DD.pairs (.k (aF (tmT g.ts)))))),some (.l 0),u5]) (fun N hN=>?_) ?_
 ·walk_at "d";refine⟨_,_,⟨rfl,rfl⟩,⟨yw,yw⟩,by decide,?_⟩;have en:((ps.length:Int)-1 - -1).toNat=ps.length:=yw
  rw[en];have er:cD ([]:List Row)=0/\cE ([]:List Row)=0:=⟨rfl,rfl⟩;refine dA (fun i δ S=>∃(L:List Tal) (u5:Option XV),L.length=i+1/\(∀j t,L[j]?=some t->Gd ps g.ts (ps.length-j) t)/\S=[L.map bL]/\δ=[some (.d (.tuple (ps.map bF))),some (.d (.tuple [.tuple (g.ts.map tmD),.int g.lo,.int g.hi])),some (.d (.int (zU ps g.ts-zw ps g.ts+1))),some (.d (.dict (DD.pairs (.k (aF (tmT g.ts)))))),some (.l 0),u5]) ⟨[[(0,1)]],_,rfl,fun j t e=>?_,rfl,rfl⟩ ?_ ?_
  ·cases j with
   |succ j=>cases e
   |zero=>
    cases e;have ed:(zp ps g.ts).drop (ps.length-0)=[]:=re (by rw[mH];omega);refine⟨by rw[ed];exact Tl.one,fun f=>?_⟩;rw[ed];show 1*f 0+0=f 0;omega
  ·rintro i d _ _ N aj ⟨L,u5,hl,hL,rfl,rfl⟩ hN;obtain⟨al,rfl⟩:=x9 aj;have hk:ps.length-1-i<ps.length:=yw
   have ek:((ps.length:Int)-1-i)=((ps.length-1-i:Nat):Int):=yw
   rw[ek];have ae:i<L.length:=yw
   have el:=cw ae;have gd:=hL i _ el;have e1:ps.length-i=ps.length-1-i+1:=yw
   rw[e1]at gd;generalize L[i]=t at el gd;generalize hkk:ps.length-1-i=k at *;have ac:=wE (ts:=g.ts) hk;walk_at "d";refine⟨bL t,?_,?_⟩
   ·obtain⟨r,er⟩:=List.getLast?_eq_some_iff.mp (show (L.map bL).getLast?=some (bL t) by
     rw[List.getLast?_eq_getElem?,gh,hl,Nat.add_sub_cancel,iw,el];rfl)
    rw[er];exact NY _ _
   ·walk_at "d";refine⟨_,dZ (kE hk),?_⟩;walk_at "d";refine sZ ?_;walk_at "d";refine⟨.k (aF (tmT g.ts)),.inr ⟨_,rfl,rfl⟩,?_⟩;walk_at "d";refine⟨lkA (aF (tmT g.ts)) (jf (k:Int)),rfl,?_⟩;rw[uD (kQ ht.srt)];walk_at "d";have ai:aN g.ts k=0\/∃t∈g.ts,t.1=k/\aN g.ts k=t.2:=vX ht k;have z:cD ((zp ps g.ts).drop k)=rLo (bG ps g.ts k)+cD ((zp ps g.ts).drop (k+1))/\cE ((zp ps g.ts).drop k)=rHi (bG ps g.ts k)+cE ((zp ps g.ts).drop (k+1)):=by
     rw[ac];unfold cD cE;simp
    have ak:=uP (zp ps g.ts) k;have aa:=AR ho ht;rw[aa.1,aa.2]at ak;refine JA (t:=t) (a:=plo ps k) (b:=phi ps k) (m:=aN g.ts k) gd.tl (ho _ (gK hk)) (by have:=gd.len ho ht hr;omega) (fun _=>⟨gd.val ho hb h8,by have:=hb _ (gK hk);unfold phi plo;omega⟩) (fun h0=>?_) (fun h0=>?_) fun t' ah af=>?_
    ·rcases ai with h|⟨u,mu,_,e⟩
     ·exact absurd h h0
     ·rw[e];exact(ht.ok u mu).2.2
    ·show _+rHi (bG ps g.ts k)-(_+rLo (bG ps g.ts k))<900;omega
    ·walk_at "d";refine⟨by first|omega|(simp;omega),hN _ _ ⟨L++[t'],_,by simp[hl],fun j u ej=>?_,yv,rfl⟩⟩;by_cases hj:j<L.length
     ·rw[ft hj]at ej;exact hL j u ej
     ·have ag:j=L.length:=by
       have:=(List.getElem?_eq_some_iff.mp ej).1;simp at this;omega
      subst ag;rw[dh]at ej;cases ej;have e4:ps.length-L.length=k:=yw
      rw[e4];refine⟨?_,fun f=>?_⟩
      ·rw[z.1,z.2,Int.add_comm (rLo _),Int.add_comm (rHi _)];exact ah
      ·rw[af f,ac];show _=rsum (plo ps k) (cnt (plo ps k) (phi ps k)) fun x=>fw ((zp ps g.ts).drop (k+1)) fun w=>f (w+aN g.ts k*x);exact mZ fun x _ _=>gd.fw _
  ·rintro _ _ ⟨L,u5,hl,hL,rfl,rfl⟩;refine hN _ _ ⟨L,u5,?_,hL,rfl,rfl⟩;simpa[m7]using hl
 rintro _ _ ⟨L,u5,hl,hL,rfl,rfl⟩;walk_at "n";refine .inl ?_;rw[<- List.map_reverse];refine q L.reverse (by simpa using hl) fun k t ek=>?_;have hk:k<L.length:=by simpa using (List.getElem?_eq_some_iff.mp ek).1
 rw[List.getElem?_reverse hk]at ek;have:=hL _ t ek
 rwa [show ps.length-(L.length-1-k)=k by omega]at this
theorem uK{EX:EXD}{ps:List Part}{g:Gap}(h8:ps.length<=8)(ht:Tms ps.length g.ts)(hr:400<=zU ps g.ts-zw ps g.ts)(q:EX 180 [("many",.int (zU ps g.ts-zw ps g.ts+1)),("most",.int 400)]):gO [.d (aE ps),.d (aM g)] [] R EX:=by
 unfold gO;rw[fW,aE];walk_at "d"
 walk_at "n"
 refine wZ (ps:=ps) (g:=g) (ht.tm3 h8) ?_;walk_at "d";refine tL ?_;walk_at "d";walk_at "n";rw[cp yw];walk_at "d";exact q
def KP(ps:List Part)(g:Gap)(d:bq):Prop:=∃one,d=bC one/\InBox ps one/\fX g one=true
theorem Jg{EX:EXD}{ps:List Part}{g:Gap}{d:bq}(ho:Ord ps)(hb:Bnd ps)(h8:ps.length<=8)(ht:Tms ps.length g.ts)(hr:zU ps g.ts-zw ps g.ts<400)(q1:∀z,d=bC z->InBox ps z->fX g z=true->R (.d (.int (nbr ps g z))) [])(q2:¬ KP ps g d->EX 61 []):lY [.d (aE ps),.d (aM g),.d d] [] R EX:=by
 unfold lY;walk_at "d"
 walk_at "n"
 refine tK ho hb h8 ht hr fun T hT hG=>?_;walk_at "d";walk_at "n";refine LK yw ?_;cases hs:pE ps d with
 |false=>
  walk_at "d";refine q2 ?_;rintro⟨z,rfl,aa,_⟩;rw[Bz.mpr ⟨z,rfl,aa⟩]at hs;cases hs
 |true=>
  obtain⟨z,rfl,aa⟩:=Bz.mp hs;walk_at "d";refine Mn (by rw[aa.len];exact ht.tm3 h8) ?_;cases hk:fX g z with
  |false=>
   walk_at "d";refine q2 ?_;rintro⟨one',e,_,hk'⟩;have:z=one':=KW e;rw[<- this,hk]at hk';cases hk'
  |true=>
   walk_at "d";refine JZ ho hb h8 ht hr hT hG aa ?_;walk_at "d";exact q1 z rfl aa hk
theorem Hu{ps:List Part}{g:Gap}{b:List Int}(hl:b.length<ps.length):fw ((zp ps g.ts).drop b.length) (inG g (wR (zp ps g.ts) b))=rsum (plo ps b.length) (cnt (plo ps b.length) (phi ps b.length)) (ahd ps g b):=by
 rw[wE hl];show (rsum (plo ps b.length) (cnt (plo ps b.length) (phi ps b.length)) fun x=>fw ((zp ps g.ts).drop (b.length+1)) fun w=>inG g (wR (zp ps g.ts) b) (w+aN g.ts b.length*x))=_;refine mZ fun u _ _=>?_;unfold ahd;congr 1;funext w;rw[xR g (wR (zp ps g.ts) b),xR g (wR (zp ps g.ts) b+_)];congr 1;omega
def FP(ps:List Part):DEnds->XE->Sto->Prop:=(bE (bZ (zc (dCB bV (zc (zh 0) zo)) zo)) (zj 6) (zQ (aA (aH 5 qO (zc (zh 0) (zc (zh 1) (zc (zh 4) (zc (dOp dIx (zh 3) (dOp aC (zh 6) (dC (.int 1)))) (zc (zh 5) zo)))))) (zj 7)) (zQ (aA (dOp aC (zh 4) (aK (zc (zh 7) zo))) (zj 4)) (aA (dOp (dI0 fun i j=>i-j) (zh 5) (aH 4 k7 (zc (zh 0) (zc (zh 1) (zc (zh 4) (zc (dOp dIx (zh 3) (dOp aC (zh 6) (dC (.int 1)))) zo)))))) (zj 5)))))
theorem GX{E:DEnds}{ps:List Part}{g:Gap}{n:Int}{T:List Tal}{u6 u7:Option XV}(ho:Ord ps)(hb:Bnd ps)(h8:ps.length<=8)(ht:Tms ps.length g.ts)(hr:zU ps g.ts-zw ps g.ts<400)(hT:T.length=ps.length+1)(hG:∀k t,T[k]?=some t->Gd ps g.ts k t)(n0:0<=n)(n1:n<jC ps g)
  (q:∀one u5 u6 u7,InBox ps one->fX g one=true->nbr ps g one=n->E.nx [some (.d (aE ps)),some (.d (aM g)),some (.d (.int n)),some (.d (.list (T.map bL))),some (.d (bC one)),u5,u6,u7] []):
  FP ps E [some (.d (aE ps)),some (.d (aM g)),some (.d (.int n)),some (.d (.list (T.map bL))),some (.d (.tuple [])),some (.d (.int n)),u6,u7] []:=by
 have ed:aE ps=.tuple (ps.map bF):=rfl;have en:∀S':Sto,mG S' (.d (aE ps))=some ps.length:=fun S'=>by rw[ed,kF,gh]
 unfold FP;walk_at "d";refine⟨ps.length,en _,?_⟩;refine dA (fun i δ S=>∃(b:List Int) (u6 u7:Option XV),b.length=i/\(∀k,k<i->plo ps k<=b.getD k 0/\b.getD k 0<=phi ps k)/\0<=n-nbr ps g b/\n-nbr ps g b<fw ((zp ps g.ts).drop i) (inG g (wR (zp ps g.ts) b))/\S=[]/\δ=[some (.d (aE ps)),some (.d (aM g)),some (.d (.int n)),some (.d (.list (T.map bL))),some (.d (bC b)),some (.d (.int (n-nbr ps g b))),u6,u7]) ⟨[],u6,u7,rfl,fun k h=>by omega,?_,?_,rfl,?_⟩ ?_ ?_
 ·have:nbr ps g []=0:=by unfold nbr;cases zp ps g.ts<;>rfl
  omega
 ·have e1:nbr ps g []=0:=by unfold nbr;cases zp ps g.ts<;>rfl
  have e2:wR (zp ps g.ts) []=0:=by cases zp ps g.ts<;>rfl
  rw[e1,e2,drop_zero];unfold jC at n1;omega
 ·have e1:nbr ps g []=0:=by unfold nbr;cases zp ps g.ts<;>rfl
  rw[e1,Int.sub_zero];rfl
 ·rintro i d _ _ N an ⟨b,u6,u7,ag,ae,h0,h1,rfl,rfl⟩ hN;obtain⟨ao,rfl⟩:=iB an;have z:i<ps.length:=yw
  subst ag;have eT:=cw (l:=T) (i:=b.length+1) yw;have gd:=hG _ _ eT;have e0:(0:Int)+(b.length:Int)+1=((b.length+1:Nat):Int):=yw
  rw[Hu z]at h1;walk_at "d";walk_at "n";rw[e0];refine⟨_,dZ eT,?_⟩;walk_at "d";refine ML (g:=g) (b:=b) ho hb h8 ht hr z gd h0 h1 fun v v1 v2 v3 v4=>?_;have es:bC b=.tuple (b.map cu):=rfl;rw[es];walk_at "d";walk_at "n";refine⟨yw,?_⟩;walk_at "d";have al:PyData.tuple (b.map cu++[.int v])=bC (b++[v]):=by unfold bC;rw[map_append];rfl
  rw[al,e0];refine⟨_,dZ eT,?_⟩;walk_at "d";refine Dg (g:=g) (b:=b) (v:=v) ho hb h8 ht hr z gd v1 v2 ?_;walk_at "d";have ea:=GS (g:=g) (v:=v) z;have aj:nbr ps g (b++[v])=nbr ps g b+rsum (plo ps b.length) (v-plo ps b.length).toNat (ahd ps g b):=ea;have am:=f9 (plo ps b.length) (v-plo ps b.length).toNat (ahd ps g b);rw[show plo ps b.length+((v-plo ps b.length).toNat:Int)=v by omega]at am;have e7:n-nbr ps g b-rsum (plo ps b.length) (v-plo ps b.length).toNat (ahd ps g b)=n-nbr ps g (b++[v]):=by rw[aj];omega
  rw[e7];have ew:wR (zp ps g.ts) (b++[v])=wR (zp ps g.ts) b+aN g.ts b.length*v:=wK _ b v _ (yO z);refine hN _ _ ⟨b++[v],_,_,yv,fun k hk=>?_,yw,?_,rfl,rfl⟩
  ·by_cases hkb:k<b.length
   ·have:=ae k hkb;rw[gk,ft hkb,<- gk];exact this
   ·have:k=b.length:=yw
    subst this;rw[gk,dh];exact⟨v1,v2⟩
  ·rw[ew];show _<ahd ps g b v;omega
 ·rintro _ _ ⟨b,u6,u7,ag,ae,h0,h1,rfl,rfl⟩;rw[iO]at ag h1;have ac:b.length=ps.length:=yw
  have ah:InBox ps b:=⟨ac,fun k hk=>ae k (by rw[iO];omega)⟩;have ak:(zp ps g.ts).drop ((ps.length:Int)).toNat=[]:=re (by rw[mH];omega);rw[ak,IA ht ac]at h1;have af:n-nbr ps g b<inG g (worth g.ts b) 0:=h1;have ai:fX g b=true/\inG g (worth g.ts b) 0=1:=by
   unfold inG at af ⊢;unfold fX;split at af
   ·rename_i aa;rw[cp aa];simp only[Int.add_zero]at aa;exact⟨by simp[aa.1,aa.2],rfl⟩
   ·omega
  rw[ai.2]at af;exact q b _ _ _ ah ai.1 yw
def Kq(ps:List Part)(g:Gap):bq->Bool
 | .int n=>decide (0<=n/\n<jC ps g)
 |_=>false
theorem J0{EX:EXD}{ps:List Part}{g:Gap}{d:bq}(ho:Ord ps)(hb:Bnd ps)(h8:ps.length<=8)(ht:Tms ps.length g.ts)(hr:zU ps g.ts-zw ps g.ts<400)(q1:∀n z,d=.int n->InBox ps z->fX g z=true->nbr ps g z=n->R (.d (bC z)) [])(q2:Kq ps g d=false->EX 61 []):lR [.d (aE ps),.d (aM g),.d d] [] R EX:=by
 unfold lR;walk_at "d"
 walk_at "n"
 refine tK ho hb h8 ht hr fun T hT hG=>?_;have eT:=cw (l:=T) (i:=0) yw;have gd:=hG _ _ eT;walk_at "d";walk_at "n";refine B5 ?_;cases d with
 |int n=>
  simp only[cF];walk_at "d";by_cases n0:0<=n
  ·rw[cp n0];refine⟨_,fR (j:=0) (by rw[iw,eT];rfl),?_⟩;walk_at "d";refine pI ho ht hr gd ?_;rw[drop_zero];have ek:fw (zp ps g.ts) (inG g 0)=jC ps g:=rfl;rw[ek];walk_at "d";by_cases n1:n<jC ps g
   ·rw[cf yw]
    walk_at "n"
    walk_at "n"
    refine cut (fun δ S=>∃z u5 u6 u7,InBox ps z/\fX g z=true/\nbr ps g z=n/\S=[]/\δ=[some (.d (aE ps)),some (.d (aM g)),some (.d (.int n)),some (.d (.list (T.map bL))),some (.d (bC z)),u5,u6,u7]) (fun N hN=>?_) ?_
    ·exact GX ho hb h8 ht hr hT hG n0 n1 fun z u5 u6 u7 h1 h2 h3=>hN _ _ ⟨z,u5,u6,u7,h1,h2,h3,rfl,rfl⟩
    ·rintro _ _ ⟨z,u5,u6,u7,h1,h2,h3,rfl,rfl⟩;walk_at "d";exact q1 n z rfl h1 h2 h3
   ·rw[cp yw];walk_at "d";exact q2 (gz yw)
  ·rw[cf n0];walk_at "d";exact q2 (gz yw)
 |none=>(simp only[cF];walk_at "d";exact q2 rfl)
 |bool b=>(simp only[cF];walk_at "d";exact q2 rfl)
 |str b=>(simp only[cF];walk_at "d";exact q2 rfl)
 |list b=>(simp only[cF];walk_at "d";exact q2 rfl)
 |dict b=>(simp only[cF];walk_at "d";exact q2 rfl)
 |tuple b=>(simp only[cF];walk_at "d";exact q2 rfl)
end
section
variable {R:RX}{S:Sto}
def L4(C:Addr):Str:=if C=37 then "span" else if C=49 then "part" else if C=61 then "set" else if C=161 then "text" else if C=73 then "row" else if C=85 then "unlike" else if C=104 then "drawing" else if C=123 then "gap" else if C=142 then "offer" else "great"
theorem fL{C D:Addr}{fs:List (Str×bq)}(hC:C∈excs)(hD:D∈excs)(q:R (.d (.bool (decide (C=D)))) S):dF [.x C fs,.o (.ref D)] S R:=⟨C,fs,_,rfl,rfl,hC,.inl ⟨D,rfl,hD,q⟩⟩
theorem IJ{C:Addr}{fs:List (Str×bq)}(hC:C∈excs)(q:R (.d (.bool true)) S):dF [.x C fs,.o (.ty "ValueError")] S R:=⟨C,fs,_,rfl,rfl,hC,.inr ⟨rfl,q⟩⟩
theorem xG{C:Addr}{fs:List (Str×bq)}(hC:C∈excs)(q:R (.d (.str (L4 C))) []):nI [.x C fs] [] R:=by
 unfold nI;walk_at "d"
 walk_at "n"
 refine fL hC dz ?_;walk_at "d";refine fL hC dz ?_;walk_at "d";refine fL hC dz ?_;walk_at "d";refine fL hC dz ?_;walk_at "d"
 walk_at "n"
 refine fL hC dz ?_;walk_at "d";refine fL hC dz ?_;walk_at "d";refine fL hC dz ?_;walk_at "d";refine fL hC dz ?_;walk_at "d"
 walk_at "n"
 refine fL hC dz ?_;walk_at "d";refine fL hC dz ?_;walk_at "d"
 walk_at "n"
 refine IJ hC ?_;walk_at "d";refine⟨[decide (C=37),decide (C=49),decide (C=61),decide (C=161),decide (C=73),decide (C=85),decide (C=104),decide (C=123),decide (C=142),decide (C=180)],rfl,?_⟩;have sh:∀bs:List Bool,gq (.list (bs.map lp))=true:=fun bs=>(u8 (wO fun _ _=>(GN:Shp 0 _))).ok;simp only[excs,gw,ge,or_false]at hC;rcases hC with rfl|rfl|rfl|rfl|rfl|rfl|rfl|rfl|rfl|rfl
 ·rw[cf dz]
  walk_at "n"
  exact⟨sh [true,false,false,false,false,false,false,false,false,false],0,⟨_,rfl,rfl⟩,(fun m e hm he=>by rcases m with _|_|_|_|_|_|_|_|_|m<;>first|(exfalso;omega)|(cases he;rfl)),_,rfl,q⟩
 ·rw[cf dz]
  walk_at "n"
  exact⟨sh [false,true,false,false,false,false,false,false,false,false],1,⟨_,rfl,rfl⟩,(fun m e hm he=>by rcases m with _|_|_|_|_|_|_|_|_|m<;>first|(exfalso;omega)|(cases he;rfl)),_,rfl,q⟩
 ·rw[cf dz]
  walk_at "n"
  exact⟨sh [false,false,true,false,false,false,false,false,false,false],2,⟨_,rfl,rfl⟩,(fun m e hm he=>by rcases m with _|_|_|_|_|_|_|_|_|m<;>first|(exfalso;omega)|(cases he;rfl)),_,rfl,q⟩
 ·rw[cf dz]
  walk_at "n"
  exact⟨sh [false,false,false,false,true,false,false,false,false,false],4,⟨_,rfl,rfl⟩,(fun m e hm he=>by rcases m with _|_|_|_|_|_|_|_|_|m<;>first|(exfalso;omega)|(cases he;rfl)),_,rfl,q⟩
 ·rw[cf dz]
  walk_at "n"
  exact⟨sh [false,false,false,false,false,true,false,false,false,false],5,⟨_,rfl,rfl⟩,(fun m e hm he=>by rcases m with _|_|_|_|_|_|_|_|_|m<;>first|(exfalso;omega)|(cases he;rfl)),_,rfl,q⟩
 ·rw[cf dz]
  walk_at "n"
  exact⟨sh [false,false,false,false,false,false,true,false,false,false],6,⟨_,rfl,rfl⟩,(fun m e hm he=>by rcases m with _|_|_|_|_|_|_|_|_|m<;>first|(exfalso;omega)|(cases he;rfl)),_,rfl,q⟩
 ·rw[cf dz]
  walk_at "n"
  exact⟨sh [false,false,false,false,false,false,false,true,false,false],7,⟨_,rfl,rfl⟩,(fun m e hm he=>by rcases m with _|_|_|_|_|_|_|_|_|m<;>first|(exfalso;omega)|(cases he;rfl)),_,rfl,q⟩
 ·rw[cf dz]
  walk_at "n"
  exact⟨sh [false,false,false,false,false,false,false,false,true,false],8,⟨_,rfl,rfl⟩,(fun m e hm he=>by rcases m with _|_|_|_|_|_|_|_|_|m<;>first|(exfalso;omega)|(cases he;rfl)),_,rfl,q⟩
 ·rw[cf dz]
  walk_at "n"
  exact⟨sh [false,false,false,true,false,false,false,false,false,false],3,⟨_,rfl,rfl⟩,(fun m e hm he=>by rcases m with _|_|_|_|_|_|_|_|_|m<;>first|(exfalso;omega)|(cases he;rfl)),_,rfl,q⟩
 ·rw[cf dz]
  walk_at "n"
  exact⟨sh [false,false,false,false,false,false,false,false,false,true],9,⟨_,rfl,rfl⟩,(fun m e hm he=>by rcases m with _|_|_|_|_|_|_|_|_|m<;>first|(exfalso;omega)|(cases he;rfl)),_,rfl,q⟩
end
section
variable {R:RX}{S:Sto}
theorem Nq{p:List bq}{ps:List Part}(hp:aR p)(hd:Drw ps)(q:∀ns p',InBox ps ns->aR p'->R (.d (bC ns)) [p']):uV [.l 0,.d (aE ps)] [p] R:=by
 have l8:=hd.l8;unfold uV;rw[aE];walk_at "d"
 walk_at "n"
 walk_at "n";refine dA (fun i δ S=>∃(p:List bq) (ns:List Int) (u1 u2 u3 u4:Option XV),S=[p,ns.map cu]/\aR p/\δ=[some (.l 0),some (.d (.tuple (ps.map bF))),some (.l 1),u1,u2,u3,u4]/\ns.length=i/\∀j,j<i->plo ps j<=ns.getD j 0/\ns.getD j 0<=phi ps j) ⟨p,[],_,_,_,_,rfl,hp,rfl,rfl,fun j hj=>by omega⟩ ?_ ?_
 ·rintro i d _ _ N hi ⟨p,ns,u1,u2,u3,u4,rfl,hp,rfl,hl,z⟩ hN;obtain⟨t,ht,rfl⟩:=j9 hi;have mt:=cb ht;have lo:=(hd.all t mt).le;have il:i<ps.length:=(List.getElem?_eq_some_iff.mp ht).1;have et:part ps i=t:=gi ((kE il).symm.trans ht);rw[y6];walk_at "d";walk_at "n";refine .inl ⟨⟨by decide,by decide +kernel⟩,?_⟩;walk_at "d";refine⟨⟨by decide,by decide,by decide⟩,?_⟩;refine zD hp dz (by decide +kernel) fun r p1 r0 r1 ac=>?_;walk_at "d";refine⟨yw,?_⟩;refine zD ac dz (by decide +kernel) fun r' p2 r2 r3 ae=>?_;have b1:=lq r (show t.2.2-t.2.1+1≠0 by omega);have b2:=kj r (show 0<t.2.2-t.2.1+1 by omega);obtain⟨d,ed,n,rfl,n0,n1⟩:=oF (P:=fun d=>∃n,d=.int n/\t.2.1<=n/\n<=t.2.2) (ds:=[cu t.2.1,cu t.2.2,cu (t.2.1+(t.2.2-t.2.1)/2),cu (if t.2.1+1<t.2.2 then t.2.1+1 else t.2.2),cu (if t.2.2-1>t.2.1 then t.2.2-1 else t.2.1),cu (t.2.1+r % (t.2.2-t.2.1+1))]) r2 r3 (by
   intro d m;simp only[gw,ge,or_false]at m;rcases m with rfl|rfl|rfl|rfl|rfl|rfl
   ·exact⟨_,rfl,yw,yw⟩
   ·exact⟨_,rfl,yw,yw⟩
   ·exact⟨_,rfl,yw,yw⟩
   ·exact⟨_,rfl,by split<;>omega,by split<;>omega⟩
   ·exact⟨_,rfl,by split<;>omega,by split<;>omega⟩
   ·exact⟨_,rfl,yw,yw⟩)
  walk_at "d";refine⟨_,ed,?_⟩;walk_at "d";refine⟨yw,hN _ _ ⟨p2,ns++[n],_,_,_,_,yv,ae,rfl,by simp[hl],fun j hj=>?_⟩⟩;by_cases hji:j<i
  ·have e:(ns++[n]).getD j 0=ns.getD j 0:=by
    rw[gk,gk,ft yw]
   rw[e];exact z j hji
  ·have aa:j=ns.length:=yw
   subst aa;have e:(ns++[n]).getD ns.length 0=n:=by
    rw[gk,dh];rfl
   rw[e,hl];unfold plo phi;rw[et];exact⟨n0,n1⟩
 ·rintro _ _ ⟨p,ns,u1,u2,u3,u4,rfl,hp,rfl,hl,z⟩;rw[gh]at hl z;walk_at "d";exact q ns p ⟨hl,z⟩ hp
end
section
variable {R:RX}{S:Sto}{EX:EXD}
theorem AU{ps:List Part}{g:Gap}(ho:Ord ps)(hb:Bnd ps)(h8:ps.length<=8)(ht:Tms ps.length g.ts)(hr:zU ps g.ts-zw ps g.ts<400)(q:∀t:Tal,Srt t->Gd ps g.ts 0 t->t.length<=400->R (.d (.list (t.map itm))) []):iC [.d (aE ps),.d (aM g)] [] R EX:=by
 unfold iC;walk_at "d";refine tK ho hb h8 ht hr fun T hl hT=>?_;have e0:=cw (l:=T) (i:=0) yw;have gd:=hT 0 _ e0;have gl:=gd.len ho ht hr;walk_at "d";refine⟨_,fR (j:=0) (by rw[iw,e0];rfl),?_⟩;refine⟨T[0],rfl,yw,fun ms pm pw=>?_⟩;exact q ms (LD gd.tl.nd pm pw) (gd.perm pm) (by rw[pm.length_eq];exact gl)
theorem AE{ps:List Part}{g:Gap}(h8:ps.length<=8)(ht:Tms ps.length g.ts)(hr:400<=zU ps g.ts-zw ps g.ts)(q:EX 180 [("many",.int (zU ps g.ts-zw ps g.ts+1)),("most",.int 400)]):iC [.d (aE ps),.d (aM g)] [] R EX:=by
 unfold iC;walk_at "d";exact uK h8 ht hr q
theorem ET{ps:List Part}{g:Gap}(ho:Ord ps)(hb:Bnd ps)(h8:ps.length<=8)(ht:Tms ps.length g.ts)(hr:zU ps g.ts-zw ps g.ts<400)(q:R (.d (.int (jC ps g))) []):k6 [.d (aE ps),.d (aM g)] [] R EX:=by
 unfold k6;walk_at "d";refine tK ho hb h8 ht hr fun T hl hT=>?_;have e0:=cw (l:=T) (i:=0) yw;have gd:=hT 0 _ e0;walk_at "d";refine⟨_,fR (j:=0) (by rw[iw,e0];rfl),?_⟩;walk_at "d";refine BI (by have:=gd.len ho ht hr;omega) ?_;walk_at "d";rw[gd.fw];exact q
theorem EQ{ps:List Part}{g:Gap}(h8:ps.length<=8)(ht:Tms ps.length g.ts)(hr:400<=zU ps g.ts-zw ps g.ts)(q:EX 180 [("many",.int (zU ps g.ts-zw ps g.ts+1)),("most",.int 400)]):k6 [.d (aE ps),.d (aM g)] [] R EX:=by
 unfold k6;walk_at "d";exact uK h8 ht hr q
theorem MV{ps:List Part}{g:Gap}(ho:Ord ps)(hb:Bnd ps)(h8:ps.length<=8)(ht:Tms ps.length g.ts)(hr:zU ps g.ts-zw ps g.ts<400)(q:∀d,R (.d d) []):lZ [.d (aE ps),.d (aM g)] [] R EX:=by
 have h0:0<cX ps:=N9 ho;unfold lZ;walk_at "d"
 walk_at "n"
 refine ET ho hb h8 ht hr ?_;walk_at "d"
 walk_at "n"
 refine vZ ho hb h8 ?_;walk_at "d"
 walk_at "n"
 have hk:=LG ps g;obtain⟨a,ha⟩:=ix hk;rw[ha];refine JG ?_;walk_at "d";have hg:0<Nat.gcd a (cX ps):=Nat.gcd_pos_of_pos_right _ h0;have hz:((Nat.gcd a (cX ps):Nat):Int).natAbs.log2<9000:=by
  have h1:=Nat.gcd_le_right a h0;have h2:=CN ho hb h8;have h3:((Nat.gcd a (cX ps):Nat):Int)<2 ^ 1700:=yw
  have:=l7 (n:=((Nat.gcd a (cX ps):Nat):Int)) yw h3;omega
 refine .inl ⟨⟨yw,hz⟩,.inl ⟨⟨yw,hz⟩,?_⟩⟩;walk_at "d";exact q _
theorem J4{ps:List Part}{g:Gap}(h8:ps.length<=8)(ht:Tms ps.length g.ts)(hr:400<=zU ps g.ts-zw ps g.ts)(q:EX 180 [("many",.int (zU ps g.ts-zw ps g.ts+1)),("most",.int 400)]):lZ [.d (aE ps),.d (aM g)] [] R EX:=by
 unfold lZ;walk_at "d"
 walk_at "n"
 exact EQ h8 ht hr q
theorem Ki{ps:List Part}{g:Gap}(ho:Ord ps)(hb:Bnd ps)(h8:ps.length<=8)(ht:Tms ps.length g.ts)(hr:zU ps g.ts-zw ps g.ts<400)(q:∀d,R (.d d) []):lU [.d (aE ps),.d (aM g)] [] R EX:=by
 unfold lU;walk_at "d"
 walk_at "n"
 refine vZ ho hb h8 ?_;walk_at "d"
 walk_at "n"
 refine AU ho hb h8 ht hr fun t hs gd hl=>?_;walk_at "d";refine dA (fun i δ S=>∃(u v:Option XV) (m:Int),S=[]/\δ=[some (.d (aE ps)),some (.d (aM g)),some (.d (.int (cX ps))),some (.d (.int m)),u,v]) ⟨_,_,_,rfl,rfl⟩ ?_ ?_
 ·rintro i d _ _ N hi ⟨u,v,m,rfl,rfl⟩ hN;obtain⟨p,e,rfl⟩:=j9 hi;rw[FH];walk_at "d"
  walk_at "n"
  refine⟨dE dz dz,?_⟩;split
  ·exact q _
  ·exact hN _ _ ⟨_,_,_,rfl,rfl⟩
 ·rintro _ _ ⟨u,v,m,rfl,rfl⟩;walk_at "d";exact q _
theorem Km{ps:List Part}{g:Gap}(ho:Ord ps)(hb:Bnd ps)(h8:ps.length<=8)(ht:Tms ps.length g.ts)(hr:400<=zU ps g.ts-zw ps g.ts)(q:EX 180 [("many",.int (zU ps g.ts-zw ps g.ts+1)),("most",.int 400)]):lU [.d (aE ps),.d (aM g)] [] R EX:=by
 unfold lU;walk_at "d"
 walk_at "n"
 refine vZ ho hb h8 ?_;walk_at "d"
 walk_at "n"
 exact AE h8 ht hr q
theorem OC{ps:List Part}{g:Gap}(ho:Ord ps)(hb:Bnd ps)(h8:ps.length<=8)(ht:Tms ps.length g.ts)(hr:zU ps g.ts-zw ps g.ts<400)(q:∀d,R (.d d) []):lQ [.d (aE ps),.d (aM g)] [] R EX:=by
 unfold lQ;walk_at "d"
 walk_at "n"
 walk_at "n"
 walk_at "n";refine AU ho hb h8 ht hr fun t hs gd hl=>?_;walk_at "d";refine dA (fun i δ S=>∃(u v:Option XV) (m:Int) (z:bq),S=[]/\δ=[some (.d (aE ps)),some (.d (aM g)),some (.d z),some (.d (.int m)),u,v]) ⟨_,_,_,_,rfl,rfl⟩ ?_ ?_
 ·rintro i d _ _ N hi ⟨u,v,m,z,rfl,rfl⟩ hN;obtain⟨p,e,rfl⟩:=j9 hi;rw[FH];walk_at "d";split
  ·walk_at "n"
   exact hN _ _ ⟨_,_,_,_,rfl,rfl⟩
  ·exact hN _ _ ⟨_,_,_,_,rfl,rfl⟩
 ·rintro _ _ ⟨u,v,m,z,rfl,rfl⟩;walk_at "d";exact q _
theorem HY{ps:List Part}{g:Gap}(h8:ps.length<=8)(ht:Tms ps.length g.ts)(hr:400<=zU ps g.ts-zw ps g.ts)(q:EX 180 [("many",.int (zU ps g.ts-zw ps g.ts+1)),("most",.int 400)]):lQ [.d (aE ps),.d (aM g)] [] R EX:=by
 unfold lQ;walk_at "d"
 walk_at "n"
 walk_at "n"
 walk_at "n";exact AE h8 ht hr q
theorem Nd{ps:List Part}{g:Gap}{d:bq}(h8:ps.length<=8)(ht:Tms ps.length g.ts)(hr:400<=zU ps g.ts-zw ps g.ts)(q:EX 180 [("many",.int (zU ps g.ts-zw ps g.ts+1)),("most",.int 400)]):lR [.d (aE ps),.d (aM g),.d d] [] R EX:=by
 unfold lR;walk_at "d"
 walk_at "n"
 exact uK h8 ht hr q
theorem JH{ps:List Part}{g:Gap}{d:bq}(h8:ps.length<=8)(ht:Tms ps.length g.ts)(hr:400<=zU ps g.ts-zw ps g.ts)(q:EX 180 [("many",.int (zU ps g.ts-zw ps g.ts+1)),("most",.int 400)]):lY [.d (aE ps),.d (aM g),.d d] [] R EX:=by
 unfold lY;walk_at "d"
 walk_at "n"
 exact uK h8 ht hr q
theorem IU{ps:List Part}{g:Gap}{d:bq}{z:Int}(ho:Ord ps)(hb:Bnd ps)(h8:ps.length<=8)(ht:Tms ps.length g.ts)(hr:zU ps g.ts-zw ps g.ts<400)(q1:∀d,R (.d d) [])(q2:(z=3\/z=4)->EX 61 []):mT [.d (.int z),.d (aE ps),.d (aM g),.d d] [] R EX:=by
 unfold mT;walk_at "d";walk_at "n";split
 ·refine AU ho hb h8 ht hr fun t _ _ _=>?_;walk_at "d";exact q1 _
 walk_at "n";split
 ·refine ET ho hb h8 ht hr ?_;walk_at "d";exact q1 _
 walk_at "n";split
 ·refine MV ho hb h8 ht hr fun d'=>?_;walk_at "d";exact q1 _
 walk_at "n";split
 ·rename_i h;refine J0 ho hb h8 ht hr (fun n aa _ _ _ _=>?_) fun _=>q2 (.inl h);walk_at "d";exact q1 _
 walk_at "n";split
 ·rename_i h;refine Jg ho hb h8 ht hr (fun aa _ _ _=>?_) fun _=>q2 (.inr h);walk_at "d";exact q1 _
 walk_at "n";split
 ·refine Ki ho hb h8 ht hr fun d'=>?_;walk_at "d";exact q1 _
 refine OC ho hb h8 ht hr fun d'=>?_;walk_at "d";exact q1 _
theorem MR{ps:List Part}{g:Gap}{d:bq}{z:Int}(ho:Ord ps)(hb:Bnd ps)(h8:ps.length<=8)(ht:Tms ps.length g.ts)(hr:400<=zU ps g.ts-zw ps g.ts)(q:EX 180 [("many",.int (zU ps g.ts-zw ps g.ts+1)),("most",.int 400)]):mT [.d (.int z),.d (aE ps),.d (aM g),.d d] [] R EX:=by
 unfold mT;walk_at "d";walk_at "n";split
 ·exact AE h8 ht hr q
 walk_at "n";split
 ·exact EQ h8 ht hr q
 walk_at "n";split
 ·exact J4 h8 ht hr q
 walk_at "n";split
 ·exact Nd h8 ht hr q
 walk_at "n";split
 ·exact JH h8 ht hr q
 walk_at "n";split
 ·exact Km ho hb h8 ht hr q
 exact HY h8 ht hr q
theorem Go{ps:List Part}{g:Gap}{d:bq}{z:Int}(ho:Ord ps)(hb:Bnd ps)(h8:ps.length<=8)(ht:Tms ps.length g.ts)(hr:zU ps g.ts-zw ps g.ts<400)(q1:R (.d (.tuple [.str "told",.int 0,.int 0])) [])(q2:(z=3\/z=4)->R (.d (.tuple [.str "set",.int 0,.int 0])) []):lS [.d (.int z),.d (aE ps),.d (aM g),.d d] [] R:=by
 unfold lS;walk_at "d";walk_at "n";refine IU ho hb h8 ht hr (fun d'=>?_) fun h=>?_
 ·walk_at "d";exact q1
 ·refine⟨by decide,?_⟩;walk_at "d";walk_at "n";refine⟨61,[],rfl,xG dz ?_⟩;walk_at "d";refine⟨by decide +kernel,by decide +kernel,?_⟩;rw[cp (by decide +kernel)];refine⟨61,[],rfl,xG dz ?_⟩;walk_at "d";exact q2 h
theorem Ml{ps:List Part}{g:Gap}{d:bq}{ac:Int}(ho:Ord ps)(hb:Bnd ps)(h8:ps.length<=8)(ht:Tms ps.length g.ts)(hr:400<=zU ps g.ts-zw ps g.ts)(q:R (.d (.tuple [.str "great",.int (zU ps g.ts-zw ps g.ts+1),.int 400])) []):lS [.d (.int ac),.d (aE ps),.d (aM g),.d d] [] R:=by
 unfold lS;walk_at "d";walk_at "n";refine MR ho hb h8 ht hr ?_;refine⟨by decide,?_⟩;walk_at "d";walk_at "n";refine⟨180,_,rfl,xG dz ?_⟩;walk_at "d";refine⟨by decide +kernel,by decide +kernel,?_⟩;rw[cf (by decide +kernel)];have z:∀x y:bq,qf ("many":Str) [(("many":Str),x),("most",y)]=some x:=fun x y=>rfl;have aa:∀x y:bq,qf ("most":Str) [(("many":Str),x),("most",y)]=some y:=fun x y=>rfl;walk_at "n";refine⟨180,_,_,rfl,mem_singleton.mpr rfl,z _ _,?_⟩;refine DW ?_;walk_at "d";rw[cf (by simp[cF])];refine⟨180,_,_,rfl,mem_singleton.mpr rfl,aa _ _,?_⟩;refine DW ?_;walk_at "d";rw[cf (by simp[cF])];exact⟨180,_,_,rfl,mem_singleton.mpr rfl,z _ _,180,_,_,rfl,mem_singleton.mpr rfl,aa _ _,q⟩
theorem FV{ps:List Part}{g:Gap}{z:List bq}(ho:Ord ps)(hb:Bnd ps)(h8:ps.length<=8)(ht:Tms ps.length g.ts)(q:R (.d (.bool true)) []):rE [.d (aE ps),.d (aM g),.d (.list z)] [] R:=by
 have eg:aM g=.tuple [e8 g.ts,.int g.lo,.int g.hi]:=rfl;have k0:∀(S:Sto) (R':RX),R' (.d (e8 g.ts)) S->dIx (.d (aM g)) (.d (.int 0)) S R':=fun S R' h=>by rw[eg];walk_at "d";exact h
 unfold rE;walk_at "d"
 walk_at "n"
 refine k0 _ _ ?_;walk_at "d";refine BH (ts:=g.ts) (t:=e8 g.ts) rfl (ht.tm3 h8) ?_;unfold spD;walk_at "d";walk_at "n";refine dA (fun i δ S=>∃(u v w:Option XV),S=[]/\δ=[some (.d (aE ps)),some (.d (aM g)),some (.d (.list z)),some (.d (.int (zw ps g.ts))),some (.d (.int (zU ps g.ts))),u,v,w]) ⟨_,_,_,rfl,rfl⟩ ?_ ?_
 ·rintro i d _ _ N hi ⟨u,v,w,rfl,rfl⟩ hN;obtain⟨ac,rfl⟩:=iB hi;walk_at "d";refine dA (fun j δ S=>∃(v w:Option XV),S=[]/\δ=[some (.d (aE ps)),some (.d (aM g)),some (.d (.list z)),some (.d (.int (zw ps g.ts))),some (.d (.int (zU ps g.ts))),some (.d (.int (0+i))),v,w]) ⟨_,_,rfl,rfl⟩ ?_ ?_
  ·rintro j d _ _ N2 hj ⟨v,w,rfl,rfl⟩ aa;walk_at "d"
   walk_at "n"
   by_cases hr:zU ps g.ts-zw ps g.ts<400
   ·have rest:∀k:Str,(k = "told"\/k = "set"/\((0+(i:Int))=3\/(0+(i:Int))=4))->zQ
       (aI
        (dQ
         (dB (dOp (dIb fun i j=>decide (j<i)) (dOp (dI0 fun i j=>i-j) (zh 4) (zh 3)) (dC (cu 399))))
         (dB (dOp dS (zh 7) (aK (zc (dC (lu (nj "great"))) (zc (dOp aC (dOp (dI0 fun i j=>i-j) (zh 4) (zh 3)) (dC (cu 1))) (zc (dC (cu 400)) zo)))))))
        (aB (dC (lp false))) aJ)
       (zQ
        (aI
         (dQ
          (dB (dOp (dIb fun i j=>decide (i<j)) (dOp (dI0 fun i j=>i-j) (zh 4) (zh 3)) (dC (cu 400))))
          (dB (dOp kC (dOp dIx (zh 7) (dC (cu 0))) (aK (zc (dC (lu (nj "told"))) (zc (dC (lu (nj "set"))) zo))))))
         (aB (dC (lp false))) aJ)
        (aI
         (dQ
          (dB (dOp (dIb fun i j=>decide (i<j)) (dOp (dI0 fun i j=>i-j) (zh 4) (zh 3)) (dC (cu 400))))
          (dQ (dB (dOp kC (zh 5) (aK (zc (dC (cu 3)) (zc (dC (cu 4)) zo)))))
           (dB (dOp dS (dOp dIx (zh 7) (dC (cu 0))) (dC (lu (nj "told")))))))
         (aB (dC (lp false))) aJ))
       { nx:=N2,rt:=(aG 0 R).rt,bk:=N,ct:=N2 }
       [some (XV.d (aE ps)),some (XV.d (aM g)),some (XV.d (PyData.list z)),some (XV.d (cu (zw ps g.ts))),some (XV.d (cu (zU ps g.ts))),some (XV.d (cu (0+(i:Int)))),some (XV.d d),some (.d (.tuple [.str k,.int 0,.int 0]))]
       []:=fun k hk=>by
     walk_at "n";rw[cf yw];walk_at "n";rw[cp hr];rcases hk with rfl|⟨rfl,h⟩
     ·refine⟨by decide +kernel,by decide +kernel,?_⟩;rw[cf (by decide +kernel),cp hr];refine⟨rfl,?_⟩;split
      ·refine⟨by decide +kernel,by decide +kernel,?_⟩;rw[cf (by decide +kernel)];exact aa _ _ ⟨_,_,rfl,rfl⟩
      ·exact aa _ _ ⟨_,_,rfl,rfl⟩
     ·refine⟨by decide +kernel,by decide +kernel,?_⟩;rw[cf (by decide +kernel),cp hr];refine⟨rfl,?_⟩;rw[cf (by rcases h with h|h<;>(rw[h];decide +kernel))];exact aa _ _ ⟨_,_,rfl,rfl⟩
    refine Go ho hb h8 ht hr ?_ fun h=>?_
    ·walk_at "d";exact rest _ (.inl rfl)
    ·walk_at "d";exact rest _ (.inr ⟨rfl,h⟩)
   ·refine Ml ho hb h8 ht yw ?_;walk_at "d";walk_at "n";rw[cp yw];have sh:gq (.tuple [.str "great",.int (zU ps g.ts-zw ps g.ts+1),.int 400])=true:=(Fy (n:=0) (fun d m=>by
     simp only[gw,ge,or_false]at m;rcases m with rfl|rfl|rfl
     ·exact⟨by decide +kernel,ly _⟩
     ·exact uY
     ·exact uY)).ok
    refine⟨sh,sh,?_⟩;rw[SeqAt.eqv_refl _ (gv sh),cf dz];walk_at "n";rw[cf hr,cf hr];exact aa _ _ ⟨_,_,rfl,rfl⟩
  ·rintro _ _ ⟨v,w,rfl,rfl⟩;exact hN _ _ ⟨_,_,_,rfl,rfl⟩
 ·rintro _ _ ⟨u,v,w,rfl,rfl⟩;walk_at "d";refine wZ (ht.tm3 h8) ?_;unfold spD;walk_at "d";have sh:gq (.tuple [.int (zw ps g.ts),.int (zU ps g.ts)])=true:=rfl;rw[SeqAt.eqv_refl _ (gv sh)];exact⟨sh,sh,q⟩
theorem K2{ds:List bq}{r n:Int}{Q:bq->Prop}(h0:0<=r)(h1:r<n)(hn:(ds.length:Int)=n)(q:∀d,Q d):∃d,atI ds r=some d/\Q d:=by
 obtain⟨d,ed,_⟩:=oF (P:=fun _=>True) h0 (by rw[hn];exact h1) (fun _ _=>trivial);exact⟨d,ed,q d⟩
theorem Jt(a:Addr)(n:Int):yC (MZ a 7) ((some (.o (.ref a))::bx 7 none).set 3 (some (.d (.int n)))) []:=by
 unfold yC;walk_at "d"
 walk_at "n"
 refine K3 fun p hp=>?_;walk_at "d"
 walk_at "n"
 refine Mo hp dz dz fun ps p1 hd z=>?_;walk_at "d"
 walk_at "n"
 refine LM z hd fun g p2 hg ac=>?_;walk_at "d"
 walk_at "n"
 refine Nq ac hd fun ae p3 hb aa=>?_;walk_at "d";refine zD aa dz (by decide +kernel) fun r p4 r0 r1 af=>?_;walk_at "d";refine K2 r0 r1 rfl fun d=>?_;refine FV hd.ord hd.bnd hd.l8 hg.ts ?_;walk_at "d"
theorem Hm(a:Addr):xH (Dp a 7) (some (.o (.ref a))::bx 7 none) []:=by
 unfold xH;walk_at "d";refine dA (fun i δ S=>∃(u v:Option XV),S=[]/\δ=[some (.o (.ref a)),u,v,none,none,none,none,none]) ⟨_,_,rfl,rfl⟩ ?_ ?_
 ·rintro i d _ _ N hi ⟨u,v,rfl,rfl⟩ hN;obtain⟨w,t,rfl,hw,ht⟩:∃w t:Int,d=.tuple [.int w,.int t]/\(0<=w/\w<=400)/\(t=1\/t = -1\/t=3\/t = -3):=by
   have m:=cb hi;simp only[gw,ge,or_false]at m;rcases m with rfl|rfl|rfl|rfl
   ·exact⟨399,1,rfl,by decide,by decide⟩
   ·exact⟨400,-1,rfl,by decide,by decide⟩
   ·exact⟨133,3,rfl,by decide,by decide⟩
   ·exact⟨134,-3,rfl,by decide,by decide⟩
  walk_at "d";refine⟨⟨by decide,by decide,by decide⟩,?_⟩;have hb:Bnd [(("b":Str),(5:Int),5+w),("a",0,100000000000000000000000000000000000000000000000000)]:=fun p m=>by
   simp only[gw,ge,or_false]at m;rcases m with rfl|rfl
   ·show 5+w-5+1<2 ^ 200;have:(402:Int)<2 ^ 200:=by decide +kernel
    omega
   ·decide +kernel
  have ho:Ord [(("b":Str),(5:Int),5+w),("a",0,100000000000000000000000000000000000000000000000000)]:=fun p m=>by
   simp only[gw,ge,or_false]at m;rcases m with rfl|rfl
   ·show 5<=5+w;omega
   ·decide +kernel
  have z:Tms 2 [((0:Nat),t)]:=⟨yv,yv,fun u m=>by
   rw[mem_singleton.mp m];rcases ht with rfl|rfl|rfl|rfl<;>decide,yv⟩
  refine FV (ps:=[("b",5,5+w),("a",0,100000000000000000000000000000000000000000000000000)]) (g:=⟨[(0,t)],7,9⟩) ho hb yv z ?_;walk_at "d";exact hN _ _ ⟨_,_,rfl,rfl⟩
 ·rintro _ _ ⟨u,v,rfl,rfl⟩;walk_at "d"
end
end My
namespace My
open PySem L2
def top (i : Nat) : Stmt := PySem.Challenge.pw_gaugewright_k32_reaches_too_great.main.body.getD i (.Pass ⟨0, 0, 0, 0⟩)
abbrev Bt:Stmt:=top 45
theorem Kb:FnScope ["script","k"] ["script","k"] (zk Bt):=fsd
abbrev EZ:Stmt:=top 47
theorem GF:FnScope ["cell","left"] ["cell"] (zk EZ):=fsd
abbrev By:Stmt:=top 46
theorem Dl:FnScope ["seed"] ["seed"] (zk By):=fsd
abbrev BK:Stmt:=top 48
theorem Ei:FnScope ["pen","many","found"] ["pen","many"] (zk BK):=fsd
abbrev qJ:Stmt:=top 52
theorem fU:FnScope ["pen","letters","way","first","names","word","at"] ["pen"] (zk qJ):=fsd
abbrev Fv:Stmt:=top 50
theorem DH:FnScope ["pen","way"] ["pen"] (zk Fv):=fsd
abbrev Dh:Stmt:=top 51
theorem uC:FnScope ["pen","low","wide"] ["pen"] (zk Dh):=fsd
abbrev E3:Stmt:=top 53
theorem tM:FnScope ["pen","most","names","drawing","k"] ["pen","most"] (zk E3):=fsd
abbrev D8:Stmt:=top 55
theorem pS:FnScope ["pen","drawing","some","terms","part"] ["pen","drawing"] (zk D8):=fsd
abbrev BM:Stmt:=top 54
theorem iY:FnScope ["drawing","terms","least","most","part","times","ends"] ["drawing","terms"] (zk BM):=fsd
abbrev GL:Stmt:=top 56
theorem kA:FnScope ["pen","drawing","terms","least","most","wide","low","high"] ["pen","drawing"] (zk GL):=fsd
abbrev E9:Stmt:=top 15
theorem Kl:FnScope ["one","other"] ["one","other"] (zk E9):=fsd
abbrev DL:Stmt:=top 16
theorem C5:FnScope ["one","by","ends"] ["one","by"] (zk DL):=fsd
abbrev Fp:Stmt:=top 19
theorem NP:FnScope ["part"] ["part"] (zk Fp):=fsd
abbrev CL:Stmt:=top 27
theorem n5:FnScope ["drawing","terms","ends","part","times"] ["drawing","terms"] (zk CL):=fsd
abbrev Fu:Stmt:=top 26
theorem Na:FnScope ["drawing","gap"] ["drawing","gap"] (zk Fu):=fsd
abbrev CB:Stmt:=top 17
theorem LA:FnScope ["one"] ["one"] (zk CB):=fsd
abbrev yX:Stmt:=top 42
theorem mS:FnScope ["tally","span","times","longer","number","worth","many","total"] ["tally","span","times"] (zk yX):=fsd
abbrev E6:Stmt:=top 41
theorem rR:FnScope ["drawing","gap","many","times","tallies","part"] ["drawing","gap"] (zk E6):=fsd
abbrev AZ:Stmt:=top 30
theorem HA:FnScope ["drawing","gap"] ["drawing","gap"] (zk AZ):=fsd
abbrev Ej:Stmt:=top 35
theorem kJ:FnScope ["drawing","gap","told","most","worth","many"] ["drawing","gap"] (zk Ej):=fsd
abbrev xT:Stmt:=top 43
theorem Lk:FnScope ["tally","gap","worth"] ["tally","gap","worth"] (zk xT):=fsd
abbrev CP:Stmt:=top 31
theorem HL:FnScope ["drawing","gap"] ["drawing","gap"] (zk CP):=fsd
abbrev Ea:Stmt:=top 21
theorem uM:FnScope ["drawing","many","part"] ["drawing"] (zk Ea):=fsd
abbrev FW:Stmt:=top 33
theorem sG:FnScope ["one","other","rest"] ["one","other"] (zk FW):=fsd
abbrev Bj:Stmt:=top 32
theorem uJ:FnScope ["drawing","gap","top","bottom","common"] ["drawing","gap"] (zk Bj):=fsd
abbrev vR:Stmt:=top 40
theorem JE:FnScope ["gap","beginning"] ["gap","beginning"] (zk vR):=fsd
abbrev Dv:Stmt:=top 37
theorem i3:FnScope ["drawing","gap","beginning","tally","left","part","span","times","worth","number","many"] ["drawing","gap","beginning","tally","left"] (zk Dv):=fsd
abbrev Cg:Stmt:=top 13
theorem Ms:FnScope ["thing"] ["thing"] (zk Cg):=fsd
abbrev xC:Stmt:=top 39
theorem qN:FnScope ["drawing","gap","beginning","tally","part","low","times","worth"] ["drawing","gap","beginning","tally"] (zk xC):=fsd
abbrev F8:Stmt:=top 36
theorem iW:FnScope ["drawing","gap","number","tallies","one","left","part","found"] ["drawing","gap","number"] (zk F8):=fsd
abbrev wH:Stmt:=top 20
theorem Gj:FnScope ["drawing","thing"] ["drawing","thing"] (zk wH):=fsd
abbrev vM:Stmt:=top 23
theorem IF:FnScope ["gap","one"] ["gap","one"] (zk vM):=fsd
abbrev Bd:Stmt:=top 24
theorem LZ:FnScope ["gap","one"] ["gap","one"] (zk Bd):=fsd
abbrev yR:Stmt:=top 38
theorem Aj:FnScope ["drawing","gap","thing","tallies"] ["drawing","gap","thing"] (zk yR):=fsd
abbrev BA:Stmt:=top 34
theorem l9:FnScope ["drawing","gap","many","no_greater","worth","more"] ["drawing","gap"] (zk BA):=fsd
abbrev Cm:Stmt:=top 59
theorem LY:FnScope ["way","drawing","gap","thing"] ["way","drawing","gap","thing"] (zk Cm):=fsd
abbrev EN:Stmt:=top 58
theorem n8:FnScope ["e","marks","words"] ["e"] (zk EN):=fsd
abbrev Fh:Stmt:=top 49
theorem Js:FnScope ["found"] ["found"] (zk Fh):=fsd
abbrev FZ:Stmt:=top 60
theorem CG:FnScope ["way","drawing","gap","thing","e"] ["way","drawing","gap","thing"] (zk FZ):=fsd
abbrev Ev:Stmt:=top 61
theorem lJ:FnScope ["drawing","gap","things","least","most","way","thing","told"] ["drawing","gap","things"] (zk Ev):=fsd
abbrev F6:Stmt:=top 57
theorem nE:FnScope ["pen","drawing","one","name","low","high","some"] ["pen","drawing"] (zk F6):=fsd
abbrev s_law:Stmt:=top 62
theorem jF:FnScope ["script","wide","times","cell","pen","drawing","gap","things"] ["script"] (zk s_law):=fsd
abbrev s_I_TooGreat:Stmt:=LR (top 11) 0
theorem L6:FnScope ["self","many","most"] ["self","many","most"] (zk s_I_TooGreat):=fsc (by decide +kernel)
structure Txt(mg:Str->Option bn):Prop where
 n_len:mg "len" = none
 n_max:mg "max" = none
 n_int:mg "int" = none
 n_range:mg "range" = none
 n_tuple:mg "tuple" = none
 n_min:mg "min" = none
 n_dict:mg "dict" = none
 n_sorted:mg "sorted" = none
 n_sum:mg "sum" = none
 n_isinstance:mg "isinstance" = none
 n_bool:mg "bool" = none
 n_all:mg "all" = none
 n_zip:mg "zip" = none
 n_ValueError:mg "ValueError" = none
 g_MOST_WORTHS:∃t,mg "MOST_WORTHS" = some (.int 400 t)
structure Dds(K:cq)(mg:Str->Option bn):Prop where
 a0:Dd K mg "_law_cell_at" Bt ["script","k"]
 a1:Dd K mg "_law_pen" EZ ["cell"]
 a2:Dd K mg "_law_next" By ["seed"]
 a3:Dd K mg "_law_draw" BK ["pen","many"]
 a4:Dd K mg "_law_names" qJ ["pen"]
 a5:Dd K mg "_law_number" Fv ["pen"]
 a6:Dd K mg "_law_span" Dh ["pen"]
 a7:Dd K mg "_law_drawing" E3 ["pen","most"]
 a8:Dd K mg "_law_terms" D8 ["pen","drawing"]
 a9:Dd K mg "_law_ends" BM ["drawing","terms"]
 a10:Dd K mg "_law_gap" GL ["pen","drawing"]
 a11:Dd K mg "plus" E9 ["one","other"]
 a12:Dd K mg "multiplied" DL ["one","by"]
 a13:Dd K mg "span_of" Fp ["part"]
 a14:Dd K mg "reach_of_terms" CL ["drawing","terms"]
 a15:Dd K mg "reach" Fu ["drawing","gap"]
 a16:Dd K mg "size_of" CB ["one"]
 a17:Dd K mg "with_part" yX ["tally","span","times"]
 a18:Dd K mg "tallies_of" E6 ["drawing","gap"]
 a19:Dd K mg "spread" AZ ["drawing","gap"]
 a20:Dd K mg "commonest" Ej ["drawing","gap"]
 a21:Dd K mg "kept_behind" xT ["tally","gap","worth"]
 a22:Dd K mg "kept_count" CP ["drawing","gap"]
 a23:Dd K mg "how_many" Ea ["drawing"]
 a24:Dd K mg "common_divisor" FW ["one","other"]
 a25:Dd K mg "share" Bj ["drawing","gap"]
 a26:Dd K mg "worth_of_beginning" vR ["gap","beginning"]
 a27:Dd K mg "number_at" Dv ["drawing","gap","beginning","tally","left"]
 a28:Dd K mg "is_whole" Cg ["thing"]
 a29:Dd K mg "kept_ahead" xC ["drawing","gap","beginning","tally"]
 a30:Dd K mg "nth" F8 ["drawing","gap","number"]
 a31:Dd K mg "is_set" wH ["drawing","thing"]
 a32:Dd K mg "worth_of" vM ["gap","one"]
 a33:Dd K mg "keeps" Bd ["gap","one"]
 a34:Dd K mg "number_of" yR ["drawing","gap","thing"]
 a35:Dd K mg "middle_worth" BA ["drawing","gap"]
 a36:Dd K mg "_law_asked" Cm ["way","drawing","gap","thing"]
 a37:Dd K mg "_law_kind" EN ["e"]
 a38:Dd K mg "_law_whole" Fh ["found"]
 a39:Dd K mg "_law_tried" FZ ["way","drawing","gap","thing"]
 a40:Dd K mg "_law_right" Ev ["drawing","gap","things"]
 a41:Dd K mg "_law_set" F6 ["pen","drawing"]
structure Exx(K:cq)(mg:Str->Option bn):Prop where
 ex:Exs K
 m_GaugeError:mg "GaugeError" = some (.ref 24)
 m_NoSpan:mg "NoSpan" = some (.ref 37)
 m_NoPart:mg "NoPart" = some (.ref 49)
 m_NoSet:mg "NoSet" = some (.ref 61)
 m_NoRow:mg "NoRow" = some (.ref 73)
 m_Unlike:mg "Unlike" = some (.ref 85)
 m_NoDrawing:mg "NoDrawing" = some (.ref 104)
 m_NoGap:mg "NoGap" = some (.ref 123)
 m_NoOffer:mg "NoOffer" = some (.ref 142)
 m_NoText:mg "NoText" = some (.ref 161)
 m_TooGreat:mg "TooGreat" = some (.ref 180)
 c_GaugeError:ExCls K 24 none
 c_NoSpan:ExCls K 37 none
 c_NoPart:ExCls K 49 none
 c_NoSet:ExCls K 61 none
 c_NoRow:ExCls K 73 none
 c_Unlike:ExCls K 85 none
 r_TooGreat:XI K 180 ["many","most"] "TooGreat.__init__" s_I_TooGreat
 a_many:ExsI K [180] "many"
 a_most:ExsI K [180] "most"
section
variable {P:fg}{w:gg}{K:cq}{mg:Str->Option bn}{base:Heap}
theorem MJ{f:Addr}{fd:ng}(F:Fun K "__init__" "TooGreat.__init__" s_I_TooGreat f fd):FnOk P w K mg base CX0 1 f fd ["self","many","most"] (spI K ["many","most"]):=F.ok L6 Jx fun z A outer s H vs Q E hr h=>⟨_,(zf (Cr (pv 0) (pv 1) rfl) (zm (Cr (pv 0) (pv 2) rfl))),init2 dz h⟩
local macro_rules|`(tactic|walk_at "r")=>do
 let ts<-("zn 0,zi 2,zC 0,zJ 0,zN 0,cM 2,aP 2,cI 0,cA 1,c8 0,eG 2,bX 0,pG 2,aP 0,gB 0,zi 0,BF 0,cU 1,eI 2,eW 3,gX 1,IG 0,lO 0,tN 2,sW 0,Jo 0,iP 0,fY 0,eP 0,yB 0,L7 0,nU 3,k9 1,kO 0,cA 0,mR 0,Ja 1,cM 0,kW 1,eW 0,wA 1,qH 1,mQ 0,AN 0,Ll 0,lB 1,nQ 1,Bu 0,Ik 2,Lc 0,vP 4,Az 0,wQ 1,vO 0,yK 3,Jh 0,Mi 1,tG 2,gX 0,IK 2,KO 2,Hh 0,JD 0,Nn 0,A2 1,v8 0,vJ 0,nU 0,eG 1,tE 0,Bg 2,Ii 1,w8 5,xL 0,HI 0,sV 0,NC 0,Bi 0,LI 0,BW 0,A7 0,tY 1,G5 2,EB 0,tG 0,kW 0,lB 0,LW 0,MN 1,wA 0,yK 0,aL 3,m3 1,bR 2,bR 0,aL 0,m3 0".splitOn ",").toArray.mapM fun x=>do
  let i:=x.splitOn " "
  let h<-`(term|?_)
  let hs:=Array.replicate ((i.getD 1 "").toNat!) h
  `(Lean.Parser.Tactic.tacticSeq|refine $(Lean.mkIdent (i.getD 0 "").toName) $hs*)
 `(tactic|repeat' (first|with_reducible (first $[|$ts:tacticSeq]*)|rfl))
theorem Kd(T:Txt mg:=by assumption)(dd:Dds K mg:=by assumption):Df P w K mg base "_law_cell_at" ["script","k"] 1 (sp2 (yF K)):=by
 refine Df.of2 dd.a0 Kb (fun v u=>[some v,some u]) (fun _ _=>rfl) fun f z A outer s H v u Q E hr h=>?_;obtain⟨a,ns,i,rfl,rfl,hS,h0,q⟩:=h;refine⟨_,(zf (aQ (zS iU (pv 1) (zv LO (by rfl) T.n_len eE (za (pv 0) ze)) (nomark _)) (zm (zA (zX EE (pv 0) (pv 1) (fun _ _=>rfl)))) zV) (zm (zA zd))),?_⟩;simp only[dP,tF,oJ,tOp,Lg,tCB,eJ,mI,uB,tC,vL,CA,qj,om];refine⟨a,_,rfl,.inl hS,?_⟩;simp only[CA,HJ,decide_eq_true_eq];refine ite2 (fun hi=>?_) (fun _=>q 0);obtain⟨n,e⟩:=Hw h0 hi;exact⟨a,_,i,_,rfl,rfl,hS,e,q n⟩
variable (T:Txt mg:=by assumption) (dd:Dds K mg:=by assumption) (xx:Exx K mg:=by assumption)
include T dd xx
theorem IH:Df P w K mg base "_law_pen" ["cell"] 1 (spN ["cell"] w4):=by
 exact Df.dN dd.a1 GF 1 rfl fun f z A outer s H E hr=>⟨_,_,(zf (zr (i:=1) GF.nd rfl lo (zv (DF rfl) (by rfl) T.n_max sT (za (pv 0) (za (zt bY zd (pv 0)) ze)))) (zm (zA (bI (za (pv 1) (za (iR Mf (by rfl) T.n_int yH (za (BO Ci (pv 1) (zt jQ zd zd) (nomark _)) ze)) (za (zt fQ (pv 1) zd) ze))))))),(by walk_at "r"),fun xs S R q=>q⟩
theorem Ep:Df P w K mg base "_law_next" ["seed"] 1 (spN ["seed"] nJ):=by
 exact Df.dN dd.a2 Dl 0 rfl fun f z A outer s H E hr=>⟨_,_,(zf (zr (i:=0) Dl.nd rfl lo (zt fQ (zt zF (pv 0) zd) zd)) (zm (zA (zt fQ (zt zF (zt zF (zt bP (pv 0) (pv 0)) (zt bP zd (pv 0))) zd) zd)))),(by walk_at "r"),fun xs S R q=>q⟩
theorem zL:Df P w K mg base "_law_draw" ["pen","many"] 2 (spN ["pen","many"] zq):=by
 exact Df.dN dd.a3 Ei 1 rfl fun f z A outer s H E hr=>⟨_,_,(zf (aQ (zS (dJ hr.units) (zX zy (pv 0) zd (fun _ _=>rfl)) zd (nomark _)) (zf (zr (i:=2) Ei.nd rfl lo (zt fQ (zX zy (pv 0) zd (fun _ _=>rfl)) (pv 1))) (zf (sP (zt gZ (zX zy (pv 0) zd (fun _ _=>rfl)) (pv 1)) (Bb (pv 0) zd EU)) (zm (zA (pv 2))))) zV) (zf (sP (zx Ep hr dz (za (zt zF (zx Ep hr dz (za (zX zy (pv 0) zd (fun _ _=>rfl)) ze)) zd) ze)) (Bb (pv 0) zd EU)) (zm (zA (zt fQ (zt gZ (zX zy (pv 0) zd (fun _ _=>rfl)) zd) (pv 1)))))),(by walk_at "r"),fun xs S R q=>q⟩
theorem NJ:Df P w K mg base "_law_names" ["pen"] 3 (spN ["pen"] t9):=by
 exact Df.dN dd.a4 fU 6 rfl fun f z A outer s H E hr=>⟨_,_,(zf (zr (i:=1) fU.nd rfl (Or.inr rfl) aT) (zf (zr (i:=2) fU.nd rfl lo (zx zL hr dz (za (pv 0) (za zd ze)))) (zf (zr (i:=3) fU.nd rfl (Or.inr rfl) (zx zL hr dz (za (pv 0) (za zd ze)))) (zf (BQ (i:=4) (fun _ _ h=>h) rfl (fZ rfl rfl rfl rfl (N:=["k","letters","first"]) (caps:=[none,some 1,some 3]) (by show eL ["pen","letters","way","first","names","word","at"] (zk qJ).names _ _ _=true;decide +kernel)) fU.nd rfl rfl (hU rfl T.n_range (za zd ze)) (fun _ _ _ _=>(zE (i:=0) (by show lj (["k","letters","first"]:List Str);decide) rfl (ja rfl))) (fun _ _ _ _=>iT) (fun _ _ _ _=>(zt bP (zX zy (pv 1) (zt fQ (zt zF (pv 2) (zt bP zd (pv 0))) zd) (fun _ _=>rfl)) (zt zF zd (zt fQ (zt zF (pv 2) (zt bP zd (pv 0))) zd))))) (zf (aQ (zS (dJ hr.units) (pv 2) zd (nomark _)) (zf (zr (i:=5) fU.nd rfl (Or.inr rfl) (jZ PySem.F.plainAttrs_str PySem.F.slot_str_join PySem.F.type_str_join NS aT (za (iX (fun _ _ h=>h) rfl (fZ rfl rfl rfl rfl (N:=["k","letters","first"]) (caps:=[none,some 1,some 3]) (by show eL ["pen","letters","way","first","names","word","at"] (zk qJ).names _ _ _=true;decide +kernel)) (hU rfl T.n_range (za zd ze)) (fun _ _ _ _=>(zE (i:=0) (by show lj (["k","letters","first"]:List Str);decide) rfl (ja rfl))) (fun _ _ _ _=>iT) (fun _ _ _ _=>(zX zy (pv 1) (zt fQ (zt zF (pv 2) (zt bP zd (pv 0))) zd) (fun _ _=>rfl)))) ze))) (zm (BQ (i:=4) (fun _ _ h=>h) rfl (fZ rfl rfl rfl rfl (N:=["k","word"]) (caps:=[none,some 5]) (by show eL ["pen","letters","way","first","names","word","at"] (zk qJ).names _ _ _=true;decide +kernel)) fU.nd rfl rfl (hU rfl T.n_range (za zd ze)) (fun _ _ _ _=>(zE (i:=0) (by show lj (["k","word"]:List Str);decide) rfl (ja rfl))) (fun _ _ _ _=>iT) (fun _ _ _ _=>(lP tS (pv 1) pF (lA (zt zF (pv 0) zd))))))) zV) (zf (aQ (zS (dJ hr.units) (pv 2) zd (nomark _)) (zm (zr (i:=4) fU.nd rfl lo (bI (za aT (za aT (za aT (za aT (za aT (za aT (za aT (za aT ze))))))))))) zV) (zf (zr (i:=6) fU.nd rfl lo (zx zL hr dz (za (pv 0) (za zd ze)))) (zf (zr (i:=4) fU.nd rfl lo (zt wD (lP tS (pv 4) (lA (pv 6)) pF) (lP tS (pv 4) pF (lA (pv 6))))) (zf (aQ (zS (dJ hr.units) (zx zL hr dz (za (pv 0) (za zd ze))) zd (nomark _)) (zm (mP (B3 PySem.F.plainAttrs_list PySem.F.slot_list_reverse PySem.F.type_list_reverse Ac (pv 4)))) zV) (zm (zA (pv 4)))))))))))),(aP (cM gB zN) (aP (by walk_at "r") (aP (by walk_at "r") (aP (cM (BJ (nQ (zi zJ zC)) zN jH (aL fY (aL cI zn (aL iP (aL c8 zn (aL fY zJ zn)) zJ)) (aL c8 zJ (aL iP (aL c8 zn (aL fY zJ zn)) zJ)))) zN) (aP (eW (by walk_at "r") (aP (cM (Bi OA gB (zi (iA (nQ (zi zJ zC)) zN jH (aL cI zn (aL iP (aL c8 zn (aL fY zJ zn)) zJ))) zC)) zN) (cM (BJ (nQ (zi zJ zC)) zN jH (vP Az zn vO (wQ (aL c8 zn zJ)))) zN)) bX) (by walk_at "r")))))),fun xs S R q=>q⟩
theorem Nb:Df P w K mg base "_law_number" ["pen"] 3 (spN ["pen"] AC):=by
 exact Df.dN dd.a5 DH 1 rfl fun f z A outer s H E hr=>⟨_,_,(zf (zr (i:=1) DH.nd rfl lo (zx zL hr dz (za (pv 0) (za zd ze)))) (zf (aQ (zS iU (pv 1) zd (nomark _)) (zm (zA (zt bY (zx zL hr dz (za (pv 0) (za zd ze))) zd))) zV) (zf (aQ (zS iU (pv 1) zd (nomark _)) (zm (zA (zt bY (zx zL hr dz (za (pv 0) (za zd ze))) zd))) zV) (zm (zA (zt bP (zt bY (zx zL hr dz (za (pv 0) (za (zt bP zd (zt jQ zd zd)) ze))) (zt jQ zd zd)) (zt jQ zd zd))))))),(by walk_at "r"),fun xs S R q=>q⟩
theorem IM:Df P w K mg base "_law_span" ["pen"] 4 (spN ["pen"] pW):=by
 exact Df.dN dd.a6 uC 2 rfl fun f z A outer s H E hr=>⟨_,_,(zf (zr (i:=1) uC.nd rfl lo (zx Nb hr dz (za (pv 0) ze))) (zf (zr (i:=2) uC.nd rfl lo (zx zL hr dz (za (pv 0) (za zd ze)))) (zf (aQ (zS (dJ hr.units) (zx zL hr dz (za (pv 0) (za zd ze))) zd (nomark _)) (zm (zr (i:=2) uC.nd rfl lo (zx zL hr dz (za (pv 0) (za (zt jQ zd zd) ze))))) zV) (zm (zA (aY (za (pv 1) (za (zt zF (pv 1) (pv 2)) ze)))))))),(by walk_at "r"),fun xs S R q=>q⟩
theorem HM:Df P w K mg base "_law_drawing" ["pen","most"] 5 (spN ["pen","most"] vF):=by
 exact Df.dN dd.a7 tM 3 rfl fun f z A outer s H E hr=>⟨_,_,(zf (zr (i:=2) tM.nd rfl lo (zx NJ hr dz (za (pv 0) ze))) (zf (zr (i:=3) tM.nd rfl lo (bI ze)) (zf (cH iq rfl (hU rfl T.n_range (za (zt zF zd (zx zL hr dz (za (pv 0) (za (pv 1) ze)))) ze)) (zE (i:=4) tM.nd rfl (ja rfl)) (zm (mP (jZ PySem.F.plainAttrs_list PySem.F.slot_list_append PySem.F.type_list_append qI (pv 3) (za (zt zF (aY (za (zX zy (pv 2) (pv 4) (fun _ _=>rfl)) ze)) (zx IM hr dz (za (pv 0) ze))) ze))))) (zm (zA (iR wJ (by rfl) T.n_tuple sK (za (pv 3) ze))))))),(by walk_at "r"),fun xs S R q=>q⟩
theorem M4:Df P w K mg base "_law_terms" ["pen","drawing"] 3 (spN ["pen","drawing"] sL):=by
 exact Df.dN dd.a8 pS 3 rfl fun f z A outer s H E hr=>⟨_,_,(zf (zr (i:=2) pS.nd rfl lo (zX zy (kX (zB (kX (zB zd (zB (cO cN zd) (zB zd (zB (cO cN zd) (zB zd (zB (cO cN zd) cK))))))) (zB (bI (za zd (za (cO cN zd) ze))) (zB (bI (za zd (za (cO cN zd) ze))) (zB (bI (za zd (za (cO cN zd) ze))) (zB (bI (za zd (za zd (za (cO cN zd) (za (cO cN zd) ze))))) (zB (bI (za zd (za zd (za (cO cN zd) (za (cO cN zd) ze))))) cK))))))) (zx zL hr dz (za (pv 0) (za zd ze))) (fun _ _=>rfl))) (zf (zr (i:=3) pS.nd rfl lo (bI ze)) (zf (cH iq rfl (hU rfl T.n_range (za (zv eQ (by rfl) T.n_len eE (za (pv 1) ze)) ze)) (zE (i:=4) pS.nd rfl (ja rfl)) (zm (aQ (zS t6 (zx zL hr dz (za (pv 0) (za zd ze))) zd (nomark _)) (zm (mP (jZ PySem.F.plainAttrs_list PySem.F.slot_list_append PySem.F.type_list_append qI (pv 3) (za (aY (za (pv 4) (za (zX zy (pv 2) (zx zL hr dz (za (pv 0) (za (zv eQ (by rfl) T.n_len eE (za (pv 2) ze)) ze))) (fun _ _=>rfl)) ze))) ze)))) zV))) (zf (aQ (zS (dJ hr.units) (pv 3) (bI ze) (nomark _)) (zm (zr (i:=3) pS.nd rfl lo (bI (za (aY (za (zx zL hr dz (za (pv 0) (za (zv eQ (by rfl) T.n_len eE (za (pv 1) ze)) ze))) (za (zX zy (pv 2) (zx zL hr dz (za (pv 0) (za (zv eQ (by rfl) T.n_len eE (za (pv 2) ze)) ze))) (fun _ _=>rfl)) ze))) ze)))) zV) (zm (zA (iR wJ (by rfl) T.n_tuple sK (za (pv 3) ze)))))))),(by walk_at "r"),fun xs S R q=>q⟩
theorem A3:Df P w K mg base "_law_ends" ["drawing","terms"] 1 (spN ["drawing","terms"] sF):=by
 exact Df.dN dd.a9 iY 5 rfl fun f z A outer s H E hr=>⟨_,_,(zf (zr (i:=2) iY.nd rfl lo zd) (zf (zr (i:=3) iY.nd rfl lo zd) (zf (cH iq rfl (f6 (pv 1)) (dU (n:=2) rfl (zP (zE (i:=4) iY.nd rfl (ja rfl)) (zP (zE (i:=5) iY.nd rfl (ja rfl)) dY))) (zf (zr (i:=6) iY.nd rfl lo (bI (za (zt bP (pv 5) (zX zy (zX zy (pv 0) (pv 4) (fun _ _=>rfl)) zd (fun _ _=>rfl))) (za (zt bP (pv 5) (zX zy (zX zy (pv 0) (pv 4) (fun _ _=>rfl)) zd (fun _ _=>rfl))) ze)))) (zf (zr (i:=2) iY.nd rfl lo (zt zF (pv 2) (zv (F9 rfl hr.units) (by rfl) T.n_min AS (za (pv 6) ze)))) (zm (zr (i:=3) iY.nd rfl lo (zt zF (pv 3) (zv (ER rfl) (by rfl) T.n_max sT (za (pv 6) ze)))))))) (zm (zA (aY (za (pv 2) (za (pv 3) ze)))))))),(by walk_at "r"),fun xs S R q=>q⟩
theorem Np:Df P w K mg base "_law_gap" ["pen","drawing"] 4 (spN ["pen","drawing"] tI):=by
 exact Df.dN dd.a10 kA 6 rfl fun f z A outer s H E hr=>⟨_,_,(zf (zr (i:=2) kA.nd rfl lo (zx M4 hr dz (za (pv 0) (za (pv 1) ze)))) (zf (sP (zx A3 hr dz (za (pv 1) (za (pv 2) ze))) (dU (n:=2) rfl (zP (zE (i:=3) kA.nd rfl (ja rfl)) (zP (zE (i:=4) kA.nd rfl (ja rfl)) dY)))) (zf (zr (i:=5) kA.nd rfl lo (zt bY (pv 4) (pv 3))) (zf (zr (i:=6) kA.nd rfl lo (zt zF (pv 3) (zX zy (kX (zB zd (zB zd (zB (cO cN zd) (zB (zt gZ (pv 5) zd) (zB (zt gZ (pv 5) zd) (zB (zt zF (pv 5) zd) (zB (pv 5) (zB (zt bY (pv 5) zd) cK))))))))) (zx zL hr dz (za (pv 0) (za zd ze))) (fun _ _=>rfl)))) (zf (zr (i:=7) kA.nd rfl lo (zt zF (pv 6) (zX zy (kX (zB zd (zB zd (zB zd (zB (zt gZ (pv 5) zd) (zB (pv 5) (zB (zt zF (pv 5) zd) cK))))))) (zx zL hr dz (za (pv 0) (za zd ze))) (fun _ _=>rfl)))) (zm (zA (aY (za (pv 2) (za (pv 6) (za (pv 7) ze))))))))))),(by walk_at "r"),fun xs S R q=>q⟩
theorem Ge:Df P w K mg base "plus" ["one","other"] 1 (spN ["one","other"] tP):=by
 exact Df.dN dd.a11 Kl 0 rfl fun f z A outer s H E hr=>⟨_,_,(zm (zA (aY (za (zt zF (zX zy (pv 0) zd (fun _ _=>rfl)) (zX zy (pv 1) zd (fun _ _=>rfl))) (za (zt zF (zX zy (pv 0) zd (fun _ _=>rfl)) (zX zy (pv 1) zd (fun _ _=>rfl))) ze))))),(by walk_at "r"),fun xs S R q=>q⟩
theorem Gm:Df P w K mg base "multiplied" ["one","by"] 1 (spN ["one","by"] uI):=by
 exact Df.dN dd.a12 C5 1 rfl fun f z A outer s H E hr=>⟨_,_,(zf (zr (i:=2) C5.nd rfl lo (aY (za (zt bP (zX zy (pv 0) zd (fun _ _=>rfl)) (pv 1)) (za (zt bP (zX zy (pv 0) zd (fun _ _=>rfl)) (pv 1)) ze)))) (zm (zA (aY (za (zv (F9 rfl hr.units) (by rfl) T.n_min AS (za (pv 2) ze)) (za (zv (ER rfl) (by rfl) T.n_max sT (za (pv 2) ze)) ze)))))),(by walk_at "r"),fun xs S R q=>q⟩
theorem uT:Df P w K mg base "span_of" ["part"] 1 (spN ["part"] kU):=by
 exact Df.dN dd.a13 NP 0 rfl fun f z A outer s H E hr=>⟨_,_,(zm (zA (aY (za (zX zy (pv 0) zd (fun _ _=>rfl)) (za (zX zy (pv 0) zd (fun _ _=>rfl)) ze))))),(by walk_at "r"),fun xs S R q=>q⟩
theorem JK:Df P w K mg base "reach_of_terms" ["drawing","terms"] 2 (spN ["drawing","terms"] sS):=by
 exact Df.dN dd.a14 n5 3 rfl fun f z A outer s H E hr=>⟨_,_,(zf (zr (i:=2) n5.nd rfl lo (aY (za zd (za zd ze)))) (zf (cH iq rfl (f6 (pv 1)) (dU (n:=2) rfl (zP (zE (i:=3) n5.nd rfl (ja rfl)) (zP (zE (i:=4) n5.nd rfl (ja rfl)) dY))) (zm (zr (i:=2) n5.nd rfl lo (zx Ge hr dz (za (pv 2) (za (zx Gm hr dz (za (zx uT hr dz (za (zX zy (pv 0) (pv 3) (fun _ _=>rfl)) ze)) (za (pv 4) ze))) ze)))))) (zm (zA (pv 2))))),(by walk_at "r"),fun xs S R q=>q⟩
theorem Ak:Df P w K mg base "reach" ["drawing","gap"] 3 (spN ["drawing","gap"] pZ):=by
 exact Df.dN dd.a15 Na 0 rfl fun f z A outer s H E hr=>⟨_,_,(zm (zA (zx JK hr dz (za (pv 0) (za (zX zy (pv 1) zd (fun _ _=>rfl)) ze))))),(by walk_at "r"),fun xs S R q=>q⟩
theorem vN:Df P w K mg base "size_of" ["one"] 1 (spN ["one"] mW):=by
 exact Df.dN dd.a16 LA 0 rfl fun f z A outer s H E hr=>⟨_,_,(zm (zA (zt zF (zt bY (zX zy (pv 0) zd (fun _ _=>rfl)) (zX zy (pv 0) zd (fun _ _=>rfl))) zd))),(by walk_at "r"),fun xs S R q=>q⟩
theorem ME:Df P w K mg base "with_part" ["tally","span","times"] 2 (spN ["tally","span","times"] tR):=by
 exact Df.dN dd.a17 mS 5 rfl fun f z A outer s H E hr=>⟨_,_,(zf (aQ (zS (dJ hr.units) (pv 2) zd (nomark _)) (zm (zA (pJ (iR (HQ rfl) (by rfl) T.n_dict sY (za (iX (fun _ _ h=>h) rfl (fZ rfl rfl rfl rfl (N:=["worth","many","span"]) (caps:=[none,none,some 1]) (by show eL ["tally","span","times","longer","number","worth","many","total"] (zk yX).names _ _ _=true;decide +kernel)) (wI (pv 0) rfl rfl) (fun _ _ _ _=>(dU (n:=2) rfl (zP (zE (i:=0) (by show lj (["worth","many","span"]:List Str);decide) rfl (ja rfl)) (zP (zE (i:=1) (by show lj (["worth","many","span"]:List Str);decide) rfl (ja rfl)) dY)))) (fun _ _ _ _=>iT) (fun _ _ _ _=>(aY (za (pv 0) (za (zt bP (pv 1) (zx vN hr dz (za (pv 2) ze))) ze))))) ze))))) zV) (zf (zr (i:=3) mS.nd rfl lo K6) (zf (JV (i:=3) (cH iq rfl (vV rfl T.n_range (za (zX zy (pv 1) zd (fun _ _=>rfl)) (za (zt zF (zX zy (pv 1) zd (fun _ _=>rfl)) zd) ze))) (zE (i:=4) mS.nd rfl (ja rfl)) (zm (cH iq rfl (wI (pv 0) rfl rfl) (dU (n:=2) rfl (zP (zE (i:=5) mS.nd rfl (ja rfl)) (zP (zE (i:=6) mS.nd rfl (ja rfl)) dY))) (zf (zr (i:=7) mS.nd rfl lo (zt zF (pv 5) (zt bP (pv 2) (pv 4)))) (zm (MA (rW hr) (pv 3) (pv 7) (zt zF (Ae (rW hr) (pv 3) (pv 7) zd ⟨rfl,rfl,rfl,rfl⟩) (pv 6)) rfl))))))) (zm (zA (pv 3)))))),(aP (eW (by walk_at "r") (cA (BW (zi (iA (tY zn) (k9 (eI zN (eI zN kO))) jH (cU (zi zn (zi (aL fY zn (eG (zi zn zC))) zC)))) zC))) bX) (A7 (HD (Hj (Cz (fun M=>GG (by walk_at "r")) zN (Cz (fun M=>GG (tY zn)) (by walk_at "r") (MY (Jb (by walk_at "r")) (LC (fun M=>(bT zn)) (fun M=>(yM c8 (C7 (bT zn) (bT zn) (bT zJ)) (bT zn))))))))) (cA zn))),fun xs S R q=>q⟩
theorem uE:DfX P w K mg base "tallies_of" ["drawing","gap"] 4 (spX ["drawing","gap"] gO):=by
 exact DfX.dN dd.a18 rR 4 rfl fun f z A outer s H E EX hr=>⟨_,_,(zf (oM (zr (i:=2) rR.nd rfl lo (zx vN hr dz (za (zx Ak hr dz (za (pv 0) (za (pv 1) ze))) ze)))) (zf (aQ (PT.nox (zS t6 (pv 2) (Cq rfl T.g_MOST_WORTHS) (nomark _))) (zm (J7 xx.r_TooGreat (fun _ _ F=>MJ F) No hr dz xx.m_TooGreat dz (za (pv 2) (za (Cq rfl T.g_MOST_WORTHS) ze)))) zV) (PSs.nox (zf (zr (i:=3) rR.nd rfl lo (pJ (iR (wV rfl) (by rfl) T.n_dict sY (za (zX zy (pv 1) zd (fun _ _=>rfl)) ze)))) (zf (zr (i:=4) rR.nd rfl lo (bI (za (pJ (KQ (Gu zd zd Gz) rfl rfl yv dz)) ze))) (zf (cH iq rfl (Nv rfl T.n_range (za (zt bY (zv eQ (by rfl) T.n_len eE (za (pv 0) ze)) zd) (za (cO cN zd) (za (cO cN zd) ze)))) (zE (i:=5) rR.nd rfl (ja rfl)) (zm (mP (jZ PySem.F.plainAttrs_list PySem.F.slot_list_append PySem.F.type_list_append qI (pv 4) (za (zx ME hr dz (za (zX zy (pv 4) (cO cN zd) (fun _ _=>rfl)) (za (zx uT hr dz (za (zX zy (pv 0) (pv 5) (fun _ _=>rfl)) ze)) (za (Ae (rW hr) (pv 3) (pv 5) zd ⟨rfl,rfl,rfl,rfl⟩) ze)))) ze))))) (zf (mP (B3 PySem.F.plainAttrs_list PySem.F.slot_list_reverse PySem.F.type_list_reverse Ac (pv 4))) (zm (zA (pv 4)))))))))),(cG (bM (by walk_at "r")) (cG (gV (gW (by walk_at "r")) (J3 xx.r_TooGreat.i xx.r_TooGreat.na (by walk_at "r")) (bM bX)) (bM (aP (by walk_at "r") (aP (by walk_at "r") (aP (nU (by walk_at "r") zN (wA (yK Bu zn (zi (eG (zi (by walk_at "r") (zi (by walk_at "r") (zi (tE (C7 (bT zn) (bT zn) (bT zJ))) zC)))) zC)))) (by walk_at "r"))))))),fun xs S R q=>q⟩
theorem xF:DfX P w K mg base "spread" ["drawing","gap"] 5 (spX ["drawing","gap"] iC):=by
 exact DfX.dN dd.a19 HA 0 rfl fun f z A outer s H E EX hr=>⟨_,_,(zm (zA (Ky rfl rfl T.n_sorted (zX zy (dH uE pass1 hr dz (za (PE.nox (pv 0)) (za (PE.nox (pv 1)) ze))) (PE.nox zd) (fun _ _=>rfl))))),(gH (N3 (yM cI (dR (cZ (by walk_at "r"))) (bT zJ)))),fun xs S R q=>q⟩
theorem Jv:DfX P w K mg base "commonest" ["drawing","gap"] 6 (spX ["drawing","gap"] lQ):=by
 exact DfX.dN dd.a20 kJ 4 rfl fun f z A outer s H E EX hr=>⟨_,_,(zf (oM (zr (i:=2) kJ.nd rfl lo xA)) (zf (oM (zr (i:=3) kJ.nd rfl lo zd)) (zf (cH PassesOwn.leaving rfl (f6 (dH xF pass1 hr dz (za (PE.nox (pv 0)) (za (PE.nox (pv 1)) ze)))) (dU (n:=2) rfl (zP (zE (i:=4) kJ.nd rfl (ja rfl)) (zP (zE (i:=5) kJ.nd rfl (ja rfl)) dY))) (PSs.nox (zm (aQ (zS t6 (pv 5) (pv 3) (nomark _)) (zf (zr (i:=2) kJ.nd rfl lo (pv 4)) (zm (zr (i:=3) kJ.nd rfl lo (pv 5)))) zV)))) (PSs.nox (zm (zA (pv 2))))))),(cG (bM (cM sV zN)) (cG (bM (cM zJ zN)) (cG (CJ (Ft (dR (cZ (by walk_at "r")))) (by walk_at "r") (bM (by walk_at "r"))) (bM (cA zn))))),fun xs S R q=>q⟩
theorem mB:Df P w K mg base "kept_behind" ["tally","gap","worth"] 1 (spN ["tally","gap","worth"] fM):=by
 exact Df.dN dd.a21 Lk 0 rfl fun f z A outer s H E hr=>⟨_,_,(zm (zA (zv (oW rfl) (by rfl) T.n_sum oU (za (iX (fun _ _ h=>h) rfl (fZ rfl rfl rfl rfl (N:=["more","many","gap","worth"]) (caps:=[none,none,some 1,some 2]) (by show eL ["tally","gap","worth"] (zk xT).names _ _ _=true;decide +kernel)) (wI (pv 0) rfl rfl) (fun _ _ _ _=>(dU (n:=2) rfl (zP (zE (i:=0) (by show lj (["more","many","gap","worth"]:List Str);decide) rfl (ja rfl)) (zP (zE (i:=1) (by show lj (["more","many","gap","worth"]:List Str);decide) rfl (ja rfl)) dY)))) (fun _ _ _ _=>(GK (DX kP kP (zX zy (pv 2) zd (fun _ _=>rfl)) (zt zF (pv 3) (pv 0)) (zX zy (pv 2) zd (fun _ _=>rfl))))) (fun _ _ _ _=>(pv 1))) ze)))),(cA (bR mQ (zi (iA (tY zn) (k9 (eI zN (eI zN kO))) (m3 (w8 lO lO (aL cI zn zJ) (aL c8 zn zn) (aL cI zn zJ))) zn) zC))),fun xs S R q=>q⟩
theorem BG:DfX P w K mg base "kept_count" ["drawing","gap"] 5 (spX ["drawing","gap"] k6):=by
 exact DfX.dN dd.a22 HL 0 rfl fun f z A outer s H E EX hr=>⟨_,_,(zm (zA (zx mB hr dz (za (zX zy (dH uE pass1 hr dz (za (PE.nox (pv 0)) (za (PE.nox (pv 1)) ze))) (PE.nox zd) (fun _ _=>rfl)) (za (PE.nox (pv 1)) (za (PE.nox zd) ze)))))),(gH (Lz (xE (yM cI (dR (cZ (by walk_at "r"))) (bT zJ)) (xE (bT zn) (xE (bT zJ) (cZ zC)))))),fun xs S R q=>q⟩
theorem Ck:Df P w K mg base "how_many" ["drawing"] 2 (spN ["drawing"] qR):=by
 exact Df.dN dd.a23 uM 2 rfl fun f z A outer s H E hr=>⟨_,_,(zf (zr (i:=1) uM.nd rfl lo zd) (zf (cH iq rfl (f6 (pv 0)) (zE (i:=2) uM.nd rfl (ja rfl)) (zm (zr (i:=1) uM.nd rfl lo (zt bP (pv 1) (zx vN hr dz (za (zx uT hr dz (za (pv 2) ze)) ze)))))) (zm (zA (pv 1))))),(by walk_at "r"),fun xs S R q=>q⟩
theorem Kh:Df P w K mg base "common_divisor" ["one","other"] 1 (spN ["one","other"] uR):=by
 exact Df.dN dd.a24 sG 1 rfl fun f z A outer s H E hr=>⟨_,_,(zf (Nc iq (zS (m4 hr.units) (pv 0) zd (nomark _)) (zf (zr (i:=2) sG.nd rfl lo (zt fQ (pv 1) (pv 0))) (zf (zr (i:=1) sG.nd rfl lo (pv 0)) (zm (zr (i:=0) sG.nd rfl lo (pv 2)))))) (zm (zA (pv 1)))),(by walk_at "r"),fun xs S R q=>q⟩
theorem JC:DfX P w K mg base "share" ["drawing","gap"] 6 (spX ["drawing","gap"] lZ):=by
 exact DfX.dN dd.a25 uJ 3 rfl fun f z A outer s H E EX hr=>⟨_,_,(zf (zr (i:=2) uJ.nd rfl lo (dH BG pass1 hr dz (za (PE.nox (pv 0)) (za (PE.nox (pv 1)) ze)))) (PSs.nox (zf (zr (i:=3) uJ.nd rfl lo (zx Ck hr dz (za (pv 0) ze))) (zf (zr (i:=4) uJ.nd rfl lo (zx Kh hr dz (za (pv 2) (za (pv 3) ze)))) (zm (zA (aY (za (zt gZ (pv 2) (pv 4)) (za (zt gZ (pv 3) (pv 4)) ze))))))))),(cG (yN (dR (cZ (by walk_at "r"))) zN) (bM (by walk_at "r"))),fun xs S R q=>q⟩
theorem Ao:Df P w K mg base "worth_of_beginning" ["gap","beginning"] 1 (spN ["gap","beginning"] o8):=by
 exact Df.dN dd.a26 JE 0 rfl fun f z A outer s H E hr=>⟨_,_,(zm (zA (zv (oW rfl) (by rfl) T.n_sum oU (za (iX (fun _ _ h=>h) rfl (fZ rfl rfl rfl rfl (N:=["part","times","beginning"]) (caps:=[none,none,some 1]) (by show eL ["gap","beginning"] (zk vR).names _ _ _=true;decide +kernel)) (f6 (zX zy (pv 0) zd (fun _ _=>rfl))) (fun _ _ _ _=>(dU (n:=2) rfl (zP (zE (i:=0) (by show lj (["part","times","beginning"]:List Str);decide) rfl (ja rfl)) (zP (zE (i:=1) (by show lj (["part","times","beginning"]:List Str);decide) rfl (ja rfl)) dY)))) (fun _ _ _ _=>(GK (zS iU (pv 0) (zv eQ (by rfl) T.n_len eE (za (pv 2) ze)) (nomark _)))) (fun _ _ _ _=>(zt bP (pv 1) (zX zy (pv 2) (pv 0) (fun _ _=>rfl))))) ze)))),(cA (bR mQ (zi (iA (qH (aL cI zn zJ)) (k9 (eI zN (eI zN kO))) (m3 (aL lO zn (bR yB (zi zn zC)))) (aL fY zn (aL cI zn zn))) zC))),fun xs S R q=>q⟩
theorem Hb:Df P w K mg base "number_at" ["drawing","gap","beginning","tally","left"] 2 (spN ["drawing","gap","beginning","tally","left"] qO):=by
 exact Df.dN dd.a27 i3 6 rfl fun f z A outer s H E hr=>⟨_,_,(zf (zr (i:=5) i3.nd rfl lo (zv eQ (by rfl) T.n_len eE (za (pv 2) ze))) (zf (zr (i:=6) i3.nd rfl lo (zx uT hr dz (za (zX zy (pv 0) (pv 5) (fun _ _=>rfl)) ze))) (zf (zr (i:=7) i3.nd rfl lo (pJ (iR (wV rfl) (by rfl) T.n_dict sY (za (zX zy (pv 1) zd (fun _ _=>rfl)) ze)))) (zf (zr (i:=8) i3.nd rfl lo (zx Ao hr dz (za (pv 1) (za (pv 2) ze)))) (zf (aQ (zS (Bv hr.units) (pv 5) (pv 7) (by rfl)) (zm (zA (zt zF (zX zy (pv 6) zd (fun _ _=>rfl)) (zt gZ (pv 4) (zx mB hr dz (za (pv 3) (za (pv 1) (za (pv 8) ze)))))))) zV) (zm (cH iq rfl (vV rfl T.n_range (za (zX zy (pv 6) zd (fun _ _=>rfl)) (za (zt zF (zX zy (pv 6) zd (fun _ _=>rfl)) zd) ze))) (zE (i:=9) i3.nd rfl (ja rfl)) (zf (zr (i:=10) i3.nd rfl lo (zx mB hr dz (za (pv 3) (za (pv 1) (za (zt zF (pv 8) (zt bP (EV (rW hr) (pv 7) (pv 5) (fun _ _=>rfl)) (pv 9))) ze))))) (zf (aQ (zS iU (pv 4) (pv 10) (nomark _)) (zm (zA (pv 9))) zV) (zm (zr (i:=4) i3.nd rfl lo (zt bY (pv 4) (pv 10))))))))))))),(aP (by walk_at "r") (aP (by walk_at "r") (aP (by walk_at "r") (aP (by walk_at "r") (aP (eW (v8 (GO (A0 vJ (bT zn) (bT zn)))) (by walk_at "r") bX) (nU (by walk_at "r") zN (aP (cM (eG (zi zn (zi zn (zi (aL c8 zn (aL fY (tE (GV (bT zn) (bT zn))) zn)) zC)))) zN) (by walk_at "r")))))))),fun xs S R q=>q⟩
theorem GU:Df P w K mg base "is_whole" ["thing"] 1 (spN ["thing"] nF):=by
 exact Df.dN dd.a28 Ms 0 rfl fun f z A outer s H E hr=>⟨_,_,(zm (zA (v0 (zv rA (by rfl) T.n_isinstance zH (za (pv 0) (za (mK rfl T.n_int yH (v:=.ty "int") rfl) ze))) (wF (Fs (zv rA (by rfl) T.n_isinstance zH (za (pv 0) (za (mK rfl T.n_bool Cj (v:=.ty "bool") rfl) ze)))))))),(by walk_at "r"),fun xs S R q=>q⟩
theorem Ee:Df P w K mg base "kept_ahead" ["drawing","gap","beginning","tally"] 2 (spN ["drawing","gap","beginning","tally"] k7):=by
 exact Df.dN dd.a29 qN 4 rfl fun f z A outer s H E hr=>⟨_,_,(zf (zr (i:=4) qN.nd rfl (Or.inr rfl) (zt bY (zv eQ (by rfl) T.n_len eE (za (pv 2) ze)) zd)) (zf (zr (i:=5) qN.nd rfl lo (zX zy (zX zy (pv 0) (pv 4) (fun _ _=>rfl)) zd (fun _ _=>rfl))) (zf (zr (i:=6) qN.nd rfl (Or.inr rfl) (pJ (iR (wV rfl) (by rfl) T.n_dict sY (za (zX zy (pv 1) zd (fun _ _=>rfl)) ze)))) (zf (zr (i:=7) qN.nd rfl (Or.inr rfl) (zx Ao hr dz (za (pv 1) (za (lP tS (pv 2) pF (lA (pv 4))) ze)))) (zf (aQ (zS (Bv hr.units) (pv 4) (pv 6) (by rfl)) (zm (zA (zt bP (zt bY (zX zy (pv 2) (pv 4) (fun _ _=>rfl)) (pv 5)) (zx mB hr dz (za (pv 3) (za (pv 1) (za (pv 7) ze))))))) zV) (zm (zA (zv (oW rfl) (by rfl) T.n_sum oU (za (iX (fun _ _ h=>h) rfl (fZ rfl rfl rfl rfl (N:=["number","tally","gap","worth","times","part"]) (caps:=[none,some 3,some 1,some 7,some 6,some 4]) (by show eL ["drawing","gap","beginning","tally","part","low","times","worth"] (zk xC).names _ _ _=true;decide +kernel)) (vV rfl T.n_range (za (pv 5) (za (zX zy (pv 2) (pv 4) (fun _ _=>rfl)) ze))) (fun _ _ _ _=>(zE (i:=0) (by show lj (["number","tally","gap","worth","times","part"]:List Str);decide) rfl (ja rfl))) (fun _ _ _ _=>iT) (fun _ _ _ _=>(zx mB hr dz (za (pv 1) (za (pv 2) (za (zt zF (pv 3) (zt bP (EV (rW hr) (pv 4) (pv 5) (fun _ _=>rfl)) (pv 0))) ze)))))) ze))))))))),(aP (by walk_at "r") (aP (by walk_at "r") (aP (by walk_at "r") (aP (by walk_at "r") (aP (eW (v8 (GO (A0 vJ (bT zn) (bT zn)))) (by walk_at "r") bX) (cA (bR mQ (zi (iA (A2 (zi zn (zi (aL cI zn zn) zC))) zN jH (eG (zi zn (zi zn (zi (aL c8 zn (aL fY (tE (GV (bT zn) (bT zn))) zn)) zC))))) zC)))))))),fun xs S R q=>q⟩
theorem LJ:DfX P w K mg base "nth" ["drawing","gap","number"] 5 (spX ["drawing","gap","number"] lR):=by
 exact DfX.dN dd.a30 iW 5 rfl fun f z A outer s H E EX hr=>⟨_,_,(zf (zr (i:=3) iW.nd rfl lo (dH uE pass1 hr dz (za (PE.nox (pv 0)) (za (PE.nox (pv 1)) ze)))) (zf (aQ (PT.nox (PW.pt (rM (f7 (gY (zx GU hr dz (za (pv 2) ze)) (fun _=>rfl))) (pL (f7 (DX kP iU zd (pv 2) (zx mB hr dz (za (zX zy (pv 3) zd (fun _ _=>rfl)) (za (pv 1) (za zd ze)))))))))) (zm (Es rfl raises1 rfl xx.m_NoSet xx.c_NoSet)) zV) (PSs.nox (zf (zr (i:=4) iW.nd rfl lo (aY ze)) (zf (zr (i:=5) iW.nd rfl lo (pv 2)) (zf (cH iq rfl (hU rfl T.n_range (za (zv eQ (by rfl) T.n_len eE (za (pv 0) ze)) ze)) (zE (i:=6) iW.nd rfl (ja rfl)) (zf (zr (i:=7) iW.nd rfl lo (zx Hb hr dz (za (pv 0) (za (pv 1) (za (pv 4) (za (zX zy (pv 3) (zt zF (pv 6) zd) (fun _ _=>rfl)) (za (pv 5) ze))))))) (zf (zr (i:=4) iW.nd rfl lo (zt zF (pv 4) (aY (za (pv 7) ze)))) (zm (zr (i:=5) iW.nd rfl lo (zt bY (pv 5) (zx Ee hr dz (za (pv 0) (za (pv 1) (za (pv 4) (za (zX zy (pv 3) (zt zF (pv 6) zd) (fun _ _=>rfl)) ze))))))))))) (zm (zA (pv 4))))))))),(cG (yN (dR (cZ (by walk_at "r"))) zN) (cG (gV (gW (by walk_at "r")) Fb (bM bX)) (bM (by walk_at "r")))),fun xs S R q=>q⟩
theorem IE:Df P w K mg base "is_set" ["drawing","thing"] 2 (spN ["drawing","thing"] uO):=by
 exact Df.dN dd.a31 Gj 0 rfl fun f z A outer s H E hr=>⟨_,_,(zf (aQ (PW.pt (rM (f7 (gY (zv rA (by rfl) T.n_isinstance zH (za (pv 1) (za (mK rfl T.n_tuple sK (v:=.ty "tuple") rfl) ze))) (fun _=>rfl))) (pL (zS (m4 hr.units) (zv eQ (by rfl) T.n_len eE (za (pv 1) ze)) (zv eQ (by rfl) T.n_len eE (za (pv 0) ze)) (nomark _))))) (zm (zA fP)) zV) (zm (zA (zv (Jy rfl) (by rfl) T.n_all NW (za (iX (fun _ _ h=>h) rfl (fZ (L:=0) rfl rfl rfl rfl (N:=["number","part"]) (caps:=[none,none]) (by show eL ["drawing","thing"] (zk wH).names _ _ _=true;decide +kernel)) (Ks rfl T.n_zip (za (pv 1) (za (pv 0) ze))) (fun _ _ _ _=>(dU (n:=2) rfl (zP (zE (i:=0) (by show lj (["number","part"]:List Str);decide) rfl (ja rfl)) (zP (zE (i:=1) (by show lj (["number","part"]:List Str);decide) rfl (ja rfl)) dY)))) (fun _ _ _ _=>iT) (fun _ _ _ _=>(v0 (zx GU hr dz (za (pv 0) ze)) (wF (Av kP kP (zX zy (pv 1) zd (fun _ _=>rfl)) (pv 0) (zX zy (pv 1) zd (fun _ _=>rfl))))))) ze))))),(aP (by walk_at "r") (cA (bR EB (zi (iA (Gc (zi zn (zi zn zC))) (k9 (eI zN (eI zN kO))) jH (Bg (eG (zi zn zC)) (w8 lO lO (aL cI zn zJ) zn (aL cI zn zJ)))) zC)))),fun xs S R q=>q⟩
theorem N4:Df P w K mg base "worth_of" ["gap","one"] 1 (spN ["gap","one"] t7):=by
 exact Df.dN dd.a32 IF 0 rfl fun f z A outer s H E hr=>⟨_,_,(zm (zA (zv (oW rfl) (by rfl) T.n_sum oU (za (iX (fun _ _ h=>h) rfl (fZ rfl rfl rfl rfl (N:=["part","times","one"]) (caps:=[none,none,some 1]) (by show eL ["gap","one"] (zk vM).names _ _ _=true;decide +kernel)) (f6 (zX zy (pv 0) zd (fun _ _=>rfl))) (fun _ _ _ _=>(dU (n:=2) rfl (zP (zE (i:=0) (by show lj (["part","times","one"]:List Str);decide) rfl (ja rfl)) (zP (zE (i:=1) (by show lj (["part","times","one"]:List Str);decide) rfl (ja rfl)) dY)))) (fun _ _ _ _=>iT) (fun _ _ _ _=>(zt bP (pv 1) (zX zy (pv 2) (pv 0) (fun _ _=>rfl))))) ze)))),(cA (bR mQ (zi (iA (qH (aL cI zn zJ)) (k9 (eI zN (eI zN kO))) jH (aL fY zn (aL cI zn zn))) zC))),fun xs S R q=>q⟩
theorem Mg:Df P w K mg base "keeps" ["gap","one"] 2 (spN ["gap","one"] sR):=by
 exact Df.dN dd.a33 LZ 0 rfl fun f z A outer s H E hr=>⟨_,_,(zm (zA (Av kP kP (zX zy (pv 0) zd (fun _ _=>rfl)) (zx N4 hr dz (za (pv 0) (za (pv 1) ze))) (zX zy (pv 0) zd (fun _ _=>rfl))))),(by walk_at "r"),fun xs S R q=>q⟩
theorem Ke:DfX P w K mg base "number_of" ["drawing","gap","thing"] 5 (spX ["drawing","gap","thing"] lY):=by
 exact DfX.dN dd.a34 Aj 1 rfl fun f z A outer s H E EX hr=>⟨_,_,(zf (zr (i:=3) Aj.nd rfl (Or.inr rfl) (dH uE pass1 hr dz (za (PE.nox (pv 0)) (za (PE.nox (pv 1)) ze)))) (zf (aQ (PT.nox (PW.pt (rM (f7 (gY (zx IE hr dz (za (pv 0) (za (pv 2) ze))) (fun _=>rfl))) (pL (f7 (gY (zx Mg hr dz (za (pv 1) (za (pv 2) ze))) (fun _=>rfl))))))) (zm (Es rfl raises1 rfl xx.m_NoSet xx.c_NoSet)) zV) (PSs.nox (zm (zA (zv (oW rfl) (by rfl) T.n_sum oU (za (iX (fun _ _ h=>h) rfl (fZ rfl rfl rfl rfl (N:=["part","drawing","gap","thing","tallies"]) (caps:=[none,some 0,some 1,some 2,some 3]) (by show eL ["drawing","gap","thing","tallies"] (zk yR).names _ _ _=true;decide +kernel)) (hU rfl T.n_range (za (zv eQ (by rfl) T.n_len eE (za (pv 0) ze)) ze)) (fun _ _ _ _=>(zE (i:=0) (by show lj (["part","drawing","gap","thing","tallies"]:List Str);decide) rfl (ja rfl))) (fun _ _ _ _=>iT) (fun _ _ _ _=>(zx Ee hr dz (za (pv 1) (za (pv 2) (za (lP IT (pv 3) pF (lA (zt zF (pv 0) zd))) (za (zX zy (pv 4) (zt zF (pv 0) zd) (fun _ _=>rfl)) ze))))))) ze))))))),(cG (yN (dR (cZ (by walk_at "r"))) zN) (cG (gV (gW (by walk_at "r")) Fb (bM bX)) (bM (cA (bR mQ (zi (iA (nQ (zi (bR yB (zi zn zC)) zC)) zN jH (eG (zi zn (zi zn (zi (vP Gh zn vO (wQ (aL c8 zn zJ))) (zi (aL cI zn (aL c8 zn zJ)) zC)))))) zC)))))),fun xs S R q=>q⟩
theorem M9:DfX P w K mg base "middle_worth" ["drawing","gap"] 6 (spX ["drawing","gap"] lU):=by
 exact DfX.dN dd.a35 l9 4 rfl fun f z A outer s H E EX hr=>⟨_,_,(zf (oM (zr (i:=2) l9.nd rfl lo (zx Ck hr dz (za (pv 0) ze)))) (zf (oM (zr (i:=3) l9.nd rfl lo zd)) (zm (cH PassesOwn.leaving rfl (f6 (dH xF pass1 hr dz (za (PE.nox (pv 0)) (za (PE.nox (pv 1)) ze)))) (dU (n:=2) rfl (zP (zE (i:=4) l9.nd rfl (ja rfl)) (zP (zE (i:=5) l9.nd rfl (ja rfl)) dY))) (PSs.nox (zf (zr (i:=3) l9.nd rfl lo (zt zF (pv 3) (pv 5))) (zm (aQ (zS Ci (zt bP zd (pv 3)) (pv 2) (nomark _)) (zm (zA (pv 4))) zV)))))))),(cG (bM (by walk_at "r")) (cG (bM (cM zJ zN)) (CJ (Ft (dR (cZ (by walk_at "r")))) (by walk_at "r") (bM (by walk_at "r"))))),fun xs S R q=>q⟩
theorem Ib:DfX P w K mg base "_law_asked" ["way","drawing","gap","thing"] 7 (spX ["way","drawing","gap","thing"] mT):=by
 exact DfX.dN dd.a36 LY 0 rfl fun f z A outer s H E EX hr=>⟨_,_,(zf (aQ (PT.nox (zS (dJ hr.units) (pv 0) zd (nomark _))) (zm (zA (dH xF pass1 hr dz (za (PE.nox (pv 1)) (za (PE.nox (pv 2)) ze))))) zV) (zf (aQ (PT.nox (zS (dJ hr.units) (pv 0) zd (nomark _))) (zm (zA (dH BG pass1 hr dz (za (PE.nox (pv 1)) (za (PE.nox (pv 2)) ze))))) zV) (zf (aQ (PT.nox (zS (dJ hr.units) (pv 0) zd (nomark _))) (zm (zA (dH JC pass1 hr dz (za (PE.nox (pv 1)) (za (PE.nox (pv 2)) ze))))) zV) (zf (aQ (PT.nox (zS (dJ hr.units) (pv 0) zd (nomark _))) (zm (zA (dH LJ pass1 hr dz (za (PE.nox (pv 1)) (za (PE.nox (pv 2)) (za (PE.nox (pv 3)) ze)))))) zV) (zf (aQ (PT.nox (zS (dJ hr.units) (pv 0) zd (nomark _))) (zm (zA (dH Ke pass1 hr dz (za (PE.nox (pv 1)) (za (PE.nox (pv 2)) (za (PE.nox (pv 3)) ze)))))) zV) (zf (aQ (PT.nox (zS (dJ hr.units) (pv 0) zd (nomark _))) (zm (zA (dH M9 pass1 hr dz (za (PE.nox (pv 1)) (za (PE.nox (pv 2)) ze))))) zV) (zm (zA (dH Jv pass1 hr dz (za (PE.nox (pv 1)) (za (PE.nox (pv 2)) ze))))))))))),(cG (gV (gW (by walk_at "r")) (gH (dR (cZ (by walk_at "r")))) (bM bX)) (cG (gV (gW (by walk_at "r")) (gH (dR (cZ (by walk_at "r")))) (bM bX)) (cG (gV (gW (by walk_at "r")) (gH (dR (cZ (by walk_at "r")))) (bM bX)) (cG (gV (gW (by walk_at "r")) (gH (dR (cZ (by walk_at "r")))) (bM bX)) (cG (gV (gW (by walk_at "r")) (gH (dR (cZ (by walk_at "r")))) (bM bX)) (cG (gV (gW (by walk_at "r")) (gH (dR (cZ (by walk_at "r")))) (bM bX)) (gH (dR (cZ (by walk_at "r")))))))))),fun xs S R q=>q⟩
theorem Bw:DfN P w K mg base "_law_kind" ["e"] 1 (spN ["e"] nI):=by
 exact DfN.dN dd.a37 n8 2 rfl fun f z A outer s H hr=>⟨_,_,(zf (zr (i:=1) n8.nd rfl lo (kX (zB (zv eV (by rfl) T.n_isinstance zH (za (pv 0) (za (eY (v:=.ref 37) rfl xx.m_NoSpan rfl) ze))) (zB (zv eV (by rfl) T.n_isinstance zH (za (pv 0) (za (eY (v:=.ref 49) rfl xx.m_NoPart rfl) ze))) (zB (zv eV (by rfl) T.n_isinstance zH (za (pv 0) (za (eY (v:=.ref 61) rfl xx.m_NoSet rfl) ze))) (zB (zv eV (by rfl) T.n_isinstance zH (za (pv 0) (za (eY (v:=.ref 161) rfl xx.m_NoText rfl) ze))) cK)))))) (zf (zr (i:=1) n8.nd rfl lo (zt zF (pv 1) (kX (zB (zv eV (by rfl) T.n_isinstance zH (za (pv 0) (za (eY (v:=.ref 73) rfl xx.m_NoRow rfl) ze))) (zB (zv eV (by rfl) T.n_isinstance zH (za (pv 0) (za (eY (v:=.ref 85) rfl xx.m_Unlike rfl) ze))) (zB (zv eV (by rfl) T.n_isinstance zH (za (pv 0) (za (eY (v:=.ref 104) rfl xx.m_NoDrawing rfl) ze))) (zB (zv eV (by rfl) T.n_isinstance zH (za (pv 0) (za (eY (v:=.ref 123) rfl xx.m_NoGap rfl) ze))) cK))))))) (zf (zr (i:=1) n8.nd rfl lo (zt zF (pv 1) (bI (za (zv eV (by rfl) T.n_isinstance zH (za (pv 0) (za (eY (v:=.ref 142) rfl xx.m_NoOffer rfl) ze))) (za (zv eV (by rfl) T.n_isinstance zH (za (pv 0) (za (eY (v:=.ref 180) rfl xx.m_TooGreat rfl) ze))) ze))))) (zf (aQ (PW.pt (rM (f7 (gY (zv eV (by rfl) T.n_isinstance zH (za (pv 0) (za (mK rfl T.n_ValueError Ju (v:=.ty "ValueError") rfl) ze))) (fun _=>rfl))) (pL (zS (m4 hr.units) (jZ PySem.F.plainAttrs_list PySem.F.slot_list_count PySem.F.type_list_count K5 (pv 1) (za fP ze)) zd (nomark _))))) (zm (zA aT)) zV) (zf (zr (i:=2) n8.nd rfl lo (kX (zB aT (zB aT (zB aT (zB aT (zB aT (zB aT (zB aT (zB aT (zB aT (zB aT cK)))))))))))) (zm (zA (zX zy (pv 2) (jZ PySem.F.plainAttrs_list PySem.F.slot_list_index PySem.F.type_list_index (JJ hr.units) (pv 1) (za fP ze)) (fun _ _=>rfl))))))))),(aP (cM (gX (zi (bR (eP xx.ex) (by walk_at "r")) (zi (bR (eP xx.ex) (by walk_at "r")) (zi (bR (eP xx.ex) (by walk_at "r")) (zi (bR (eP xx.ex) (by walk_at "r")) zC))))) zN) (aP (cM (aL c8 zn (gX (zi (bR (eP xx.ex) (by walk_at "r")) (zi (bR (eP xx.ex) (by walk_at "r")) (zi (bR (eP xx.ex) (by walk_at "r")) (zi (bR (eP xx.ex) (by walk_at "r")) zC)))))) zN) (aP (cM (aL c8 zn (gX (zi (bR (eP xx.ex) (by walk_at "r")) (zi (bR (eP xx.ex) (by walk_at "r")) zC)))) zN) (aP (eW (tG (kW (lB (bR (eP xx.ex) (by walk_at "r")))) (m3 (aL AN (xL Kx zn (zi mR zC)) zJ))) (cA gB) bX) (aP (by walk_at "r") (cA (aL cI zn (xL Lr zn (zi mR zC))))))))),fun xs S R q=>q⟩
theorem DV:DfN P w K mg base "_law_whole" ["found"] 1 (spN ["found"] qS):=by
 exact DfN.dN dd.a38 Js 0 rfl fun f z A outer s H hr=>⟨_,_,(zm (zA (v0 (zv rA (by rfl) T.n_isinstance zH (za (pv 0) (za (mK rfl T.n_int yH (v:=.ty "int") rfl) ze))) (wF (Fs (zv rA (by rfl) T.n_isinstance zH (za (pv 0) (za (mK rfl T.n_bool Cj (v:=.ty "bool") rfl) ze)))))))),(by walk_at "r"),fun xs S R q=>q⟩
theorem Jj:Df P w K mg base "_law_tried" ["way","drawing","gap","thing"] 8 (spN ["way","drawing","gap","thing"] lS):=by
 exact Df.dN dd.a39 CG 1 rfl fun f aa A outer s H E hr=>⟨_,_,(zf (LN (i:=4) (fun _ _ z=>z) rfl rfl CG.nd rfl rfl rfl xx.m_GaugeError xx.c_GaugeError (Jz (Jf Ib hr dz (fun _ _ z=>z) (za (pv 0) (za (pv 1) (za (pv 2) (za (pv 3) ze)))))) (fun _=>(zf (aQ (zS (m4 hr.units) (sQ Bw (hr.suite _) dz (za (pv 4) ze)) aT (nomark _)) (zm (zA (aY (za (sQ Bw (hr.suite _) dz (za (pv 4) ze)) (za zd (za zd ze)))))) zV) (zf (aQ (PW.pt (rM (f7 (gY (sQ DV (hr.suite _) dz (za (sC (pv 4) rfl) ze)) (fun _=>rfl))) (pL (f7 (gY (sQ DV (hr.suite _) dz (za (sC (pv 4) rfl) ze)) (fun _=>rfl)))))) (zm (zA (aY (za aT (za zd (za zd ze)))))) zV) (zm (zA (aY (za aT (za (sC (pv 4) rfl) (za (sC (pv 4) rfl) ze)))))))))) (zm (zA (aY (za aT (za zd (za zd ze))))))),(aP (KK xx.ex rfl Mh (fun _ _ _ _=>rfl) (zi zn (zi zn (zi zn (zi zn zC)))) (aP (eW (m3 (aL AN (Cu rfl (zi zn zC)) gB)) (cA (cU (zi (Cu rfl (zi zn zC)) (zi zJ (zi zJ zC))))) bX) (aP (eW (tG (kW (lB (eG (zi (sD xx.a_many zn) zC)))) (kW (lB (eG (zi (sD xx.a_most zn) zC))))) (cA (cU (zi gB (zi zJ (zi zJ zC))))) bX) (cA (cU (zi gB (zi (sD xx.a_many zn) (zi (sD xx.a_most zn) zC)))))))) (by walk_at "r")),fun xs S R q=>q⟩
theorem FM:Df P w K mg base "_law_right" ["drawing","gap","things"] 9 (spN ["drawing","gap","things"] rE):=by
 exact Df.dN dd.a40 lJ 5 rfl fun f z A outer s H E hr=>⟨_,_,(zf (sP (zx A3 hr dz (za (pv 0) (za (zX zy (pv 1) zd (fun _ _=>rfl)) ze))) (dU (n:=2) rfl (zP (zE (i:=3) lJ.nd rfl (ja rfl)) (zP (zE (i:=4) lJ.nd rfl (ja rfl)) dY)))) (zf (cH iq rfl (hU rfl T.n_range (za zd ze)) (zE (i:=5) lJ.nd rfl (ja rfl)) (zm (cH iq rfl (f6 (pv 2)) (zE (i:=6) lJ.nd rfl (ja rfl)) (zf (zr (i:=7) lJ.nd rfl lo (zx Jj hr dz (za (pv 5) (za (pv 0) (za (pv 1) (za (pv 6) ze)))))) (zf (aQ (PW.pt (sJ (zS t6 (zt bY (pv 4) (pv 3)) zd (nomark _)) (w6 (zS (m4 hr.units) (pv 7) (aY (za aT (za (zt zF (zt bY (pv 4) (pv 3)) zd) (za zd ze)))) (nomark _))))) (zm (zA fP)) zV) (zf (aQ (PW.pt (sJ (zS iU (zt bY (pv 4) (pv 3)) zd (nomark _)) (w6 (zS (CT hr.units) (zX zy (pv 7) zd (fun _ _=>rfl)) (aY (za aT (za aT ze))) (by rfl))))) (zm (zA fP)) zV) (zm (aQ (PW.pt (sJ (zS iU (zt bY (pv 4) (pv 3)) zd (nomark _)) (sJ (zS (CT hr.units) (pv 5) (aY (za zd (za zd ze))) (by rfl)) (w6 (zS (m4 hr.units) (zX zy (pv 7) zd (fun _ _=>rfl)) aT (nomark _)))))) (zm (zA fP)) zV)))))))) (zm (zA (BO (dJ hr.units) (zx Ak hr dz (za (pv 0) (za (pv 1) ze))) (aY (za (pv 3) (za (pv 4) ze))) (nomark _)))))),(by walk_at "r"),fun xs S R q=>q⟩
theorem JN:Df P w K mg base "_law_set" ["pen","drawing"] 3 (spN ["pen","drawing"] uV):=by
 exact Df.dN dd.a41 nE 5 rfl fun f z A outer s H E hr=>⟨_,_,(zf (zr (i:=2) nE.nd rfl lo (bI ze)) (zf (cH iq rfl (f6 (pv 1)) (dU (n:=3) rfl (zP (zE (i:=3) nE.nd rfl (ja rfl)) (zP (zE (i:=4) nE.nd rfl (ja rfl)) (zP (zE (i:=5) nE.nd rfl (ja rfl)) dY)))) (zf (zr (i:=6) nE.nd rfl lo (bI (za (pv 4) (za (pv 5) (za (zt zF (pv 4) (zt gZ (zt bY (pv 5) (pv 4)) zd)) (za (zv (KI rfl) (by rfl) T.n_min AS (za (pv 5) (za (zt zF (pv 4) zd) ze))) (za (zv (DF rfl) (by rfl) T.n_max sT (za (pv 4) (za (zt bY (pv 5) zd) ze))) ze))))))) (zm (mP (jZ PySem.F.plainAttrs_list PySem.F.slot_list_append PySem.F.type_list_append qI (pv 2) (za (zX zy (zt zF (pv 6) (bI (za (zt zF (pv 4) (zt fQ (zx zL hr dz (za (pv 0) (za (zt jQ zd zd) ze))) (zt zF (zt bY (pv 5) (pv 4)) zd))) ze))) (zx zL hr dz (za (pv 0) (za zd ze))) (fun _ _=>rfl)) ze)))))) (zm (zA (iR wJ (by rfl) T.n_tuple sK (za (pv 2) ze)))))),(by walk_at "r"),fun xs S R q=>q⟩
theorem ok_law{f:Addr}{fd:ng}(F:Fun K "law" "law" s_law f fd):FnOk P w K mg base CX0 10 f fd ["script"] (sp1 (xZ K)):=by
 refine F.ok1 jF (fun v=>[some v,none,none,none,none,none,none,none]) (fun _=>rfl) fun aa A outer s H v Q E hr h=>?_;obtain⟨a,ns,rfl,hS,z,q⟩:=h;refine Ga ?_;refine⟨_,(Ij (MX iq rfl (zB (aY (za zd (za zd ze))) (zB (aY (za zd (za (cO cN zd) ze))) (zB (aY (za zd (za zd ze))) (zB (aY (za zd (za (cO cN zd) ze))) cK)))) (dU (n:=2) rfl (zP (zE (i:=1) jF.nd rfl (ja rfl)) (zP (zE (i:=2) jF.nd rfl (ja rfl)) dY))) (zm (aQ (f7 (gY (MF FM hr dz (kL (j6 (kL (j6 (fA (QE.mk aT) (fA (QE.mk zd) (Dq (QE.mk (zt zF zd (pv 1))) cK)))) (kL (j6 (fA (QE.mk aT) (fA (QE.mk zd) (Dq (QE.mk (zt jQ zd zd)) cK)))) cK))) (kL (j6 (kL (j6 (kL (j6 (fA (QE.mk zd) (Nh (QE.mk (pv 2)) cK))) cK)) (fA (QE.mk zd) (fA (QE.mk zd) cK)))) (N6 (Iq (fA (QE.mk zd) (kL (j6 (fA (QE.mk zd) (fA (QE.mk zd) cK))) (fA (QE.mk xA) cK)))) cK)))) (fun _=>rfl))) (zm (zA fP)) zV))) (Jw (cH iq rfl (Io (zt wD (bI (za (Kg Kd hr dz (pv 0) zd) ze)) (lP DZ (pv 0) (lA zd) (lA zd)))) (zE (i:=3) jF.nd rfl (ja rfl)) (zf (zr (i:=4) jF.nd rfl lo (zx IH hr dz (za (pv 3) ze))) (zf (zr (i:=5) jF.nd rfl lo (zx HM hr dz (za (pv 4) (za zd ze)))) (zf (zr (i:=6) jF.nd rfl lo (zx Np hr dz (za (pv 4) (za (pv 5) ze)))) (zf (zr (i:=7) jF.nd rfl lo (bI (za (zx JN hr dz (za (pv 4) (za (pv 5) ze))) (za (zX zy (bI (za zd (za (cO cN zd) (za xA (za aT (za fP ze)))))) (zx zL hr dz (za (pv 4) (za zd ze))) (fun _ _=>rfl)) ze)))) (zm (aQ (f7 (gY (zx FM hr dz (za (pv 5) (za (pv 6) (za (pv 7) ze)))) (fun _=>rfl))) (zm (zA fP)) zV))))))) (JM (zA fP)))),?_⟩;refine JS (a:=a) (m:=7) (dt:=xH) (nU (qH (gX (zi (cU (zi zJ (zi zJ zC))) (zi (cU (zi zJ (zi (tN sW zJ) zC))) (zi (cU (zi zJ (zi zJ zC))) (zi (cU (zi zJ (zi (tN sW zJ) zC))) zC)))))) (k9 (eI zN (eI zN kO))) (eW (kW (lB (eG (zi (cU (zi (cU (zi gB (zi zJ (zi (aL c8 zJ zn) zC)))) (zi (cU (zi gB (zi zJ (zi (aL iP zJ zJ) zC)))) zC))) (zi (cU (zi (cU (zi (cU (zi zJ (zi zn zC))) zC)) (zi zJ (zi zJ zC)))) (zi (gX (zi zJ (zi (cU (zi zJ (zi zJ zC))) (zi sV zC)))) zC)))))) (cA mR) bX)) rfl rfl (Hm a) fun σ1 H1 z0 z1 s1=>?_;exact HR (m:=7) (db:=yC) (aP (cM (eG (zi zn zC)) zN) (aP (cM (pG (i:=0) (zi zn (zi zJ zC))) zN) (aP (cM (pG (i:=0) (zi zn (zi zn zC))) zN) (aP (cM (gX (zi (pG (i:=0) (zi zn (zi zn zC))) (zi (aL cI (gX (zi zJ (zi (tN sW zJ) (zi sV (zi gB (zi mR zC)))))) (pG (i:=0) (zi zn (zi zJ zC)))) zC))) zN) (eW (kW (lB (eG (zi zn (zi zn (zi zn zC)))))) (cA mR) bX))))) z0 z1 (s1.seq hS) z (fun n=>Jt a n) dz fun _ H2 _=>q H2
end
end My
theorem Lo:L2.tabsG=[]:=rfl
namespace PySem.W.Fast
def tw12532672998142717697:Unit:=()
def tw9031881702011141837:Unit:=()
def tw6945883844399776171:Unit:=()
def tw17434745859781955438:Unit:=()
def tw8086512034664152716:Unit:=()
def tw13688976883145376550:Unit:=()
def tw11716550930375025973:Unit:=()
def tw11006560864522131737:Unit:=()
def tw16994704614127763572:Unit:=()
def tw3901953995796238980:Unit:=()
def tw12887897071710907965:Unit:=()
def tw12961640389058666750:Unit:=()
def tw1052646477693078066:Unit:=()
def tw13231602425646673430:Unit:=()
def tw12313097019908280434:Unit:=()
def tw7677600319800770147:Unit:=()
def tw5877327540326125896:Unit:=()
def tw3557896102810735264:Unit:=()
def tw10322697119439616125:Unit:=()
def tw14669213425829675557:Unit:=()
def tw8503086628296344181:Unit:=()
def tw5596944597399273535:Unit:=()
def tw1611224813241170039:Unit:=()
def tw3683687265845227052:Unit:=()
def tw3928869592043284598:Unit:=()
def tw859674843326578973:Unit:=()
def tw12390861931410885683:Unit:=()
def tw9574069046354135981:Unit:=()
def tw14381401293186783195:Unit:=()
def tw17100680498669746128:Unit:=()
def tw7232475175470383251:Unit:=()
def tw1081431527602980901:Unit:=()
def tw8309588390475186655:Unit:=()
def tw10725564678280703256:Unit:=()
def tw1354377086676967508:Unit:=()
def tw5455051224267325911:Unit:=()
def tw17805390047292977592:Unit:=()
def tw13342755259458535720:Unit:=()
def tw4386958728660337235:Unit:=()
def tw4381765625523924297:Unit:=()
def tw7484033668628630591:Unit:=()
def tw7127035906776626526:Unit:=()
def tw18224451537655935507:Unit:=()
def tw9789902861781581922:Unit:=()
def tw17217348931270924392:Unit:=()
def tw12013860392453034386:Unit:=()
def tw9979072001777569886:Unit:=()
def tw8011681160303136348:Unit:=()
def tw6442001625445309932:Unit:=()
def tw895773940473695850:Unit:=()
def tw6542304390453776839:Unit:=()
def tw12834328725946160573:Unit:=()
def tw15384740259229407940:Unit:=()
def tw7020933818543695647:Unit:=()
def tw13176903169788439119:Unit:=()
def tw1642774145418561560:Unit:=()
def tw246581204299240893:Unit:=()
def tw2027675173137677295:Unit:=()
def tw751202478489491287:Unit:=()
def tw10571683864631427533:Unit:=()
def tw16562793912360738921:Unit:=()
def tw12986592148164641026:Unit:=()
def tw7820391821482647506:Unit:=()
def tw3275578669648146128:Unit:=()
def tw701978298466782679:Unit:=()
def tw9564252355788039718:Unit:=()
def tw6883309024748652153:Unit:=()
def tw1784521048070993775:Unit:=()
def tw15244720983411880891:Unit:=()
def tw3913034986890646649:Unit:=()
def tw2871650592003305758:Unit:=()
def tw12548434376183319015:Unit:=()
def tw17019824193417975944:Unit:=()
def tw2941336017515050669:Unit:=()
def tw12140887181993703035:Unit:=()
def tw17760571519425009140:Unit:=()
def tw14563807419532526800:Unit:=()
def tw17320790275412890758:Unit:=()
def tw5703294821415295478:Unit:=()
def tw13805329681071108680:Unit:=()
def tw10652744908115865326:Unit:=()
def tw11783725674898405766:Unit:=()
def tw11885058126687787127:Unit:=()
def tw11535287914706582530:Unit:=()
def tw6227012544903591206:Unit:=()
def tw8011788596577049876:Unit:=()
def tw12163947578045757013:Unit:=()
def tw9838385081113405845:Unit:=()
def tw12807448108523146454:Unit:=()
def tw6561372043042919249:Unit:=()
def tw233124183528927752:Unit:=()
def tw14193415612908346759:Unit:=()
def tw9663981262758238259:Unit:=()
def tw15211063811183487309:Unit:=()
def tw2656270892487177388:Unit:=()
def tw2547259113879323291:Unit:=()
def tw6913527819807698028:Unit:=()
def tw11885053748397462441:Unit:=()
def tw11886296539764511102:Unit:=()
def tw4140616340691022228:Unit:=()
def tw12268408774650485012:Unit:=()
def tw3839094588495536980:Unit:=()
def tw17710096186720686585:Unit:=()
def tw13329783664500071434:Unit:=()
def tw934643528906103670:Unit:=()
def tw8216720802946121258:Unit:=()
def tw16100682611287223867:Unit:=()
def tw7304755404731202841:Unit:=()
def tw906299671660450328:Unit:=()
def tw11564952286470633412:Unit:=()
def tw3533916754225916397:Unit:=()
def tw11344633385818561538:Unit:=()
def tw6212761896378013448:Unit:=()
def tw5799732365448108409:Unit:=()
def tw3722738243056835267:Unit:=()
def tw13471181426644141049:Unit:=()
def tw11668737287941290527:Unit:=()
def tw17712711029907739790:Unit:=()
def tw522950349161082646:Unit:=()
def tw9616684525230097727:Unit:=()
def tw811338812152886947:Unit:=()
def tw9765156575959348811:Unit:=()
def tw4174235065149602247:Unit:=()
def tw4925063883969543568:Unit:=()
def tw6851441548031734637:Unit:=()
def tw18344850291097335741:Unit:=()
def tw1581668109338527924:Unit:=()
def tw10617850981025266816:Unit:=()
def tw12086298745026628683:Unit:=()
def tw17477876803032296255:Unit:=()
def tw2631964668850182996:Unit:=()
def tw4590425033482035058:Unit:=()
def tw3556958339565000207:Unit:=()
def tw11171254483239358356:Unit:=()
def tw5526708348782380049:Unit:=()
def tw9580241067163037613:Unit:=()
def tw15604348394127725525:Unit:=()
def tw16626477631442466998:Unit:=()
def tw9669288627841883880:Unit:=()
def tw3180860967405857233:Unit:=()
def tw17898717209364848438:Unit:=()
def tw12382207386943643874:Unit:=()
def tw671521461419457398:Unit:=()
def tw14628335254392515695:Unit:=()
def tw15875917755954109878:Unit:=()
def tw989961281606814254:Unit:=()
def tw2883771589821465257:Unit:=()
def tw16612936282123267975:Unit:=()
def tw5373993752891638758:Unit:=()
def tw14235664973203071502:Unit:=()
def tw4614624643776254939:Unit:=()
def tw13537905880545961053:Unit:=()
def tw11263750898578568399:Unit:=()
def tw8369629389811406455:Unit:=()
def tw15566242959875796905:Unit:=()
def tw5723532663396403823:Unit:=()
def tw5675267468906444917:Unit:=()
def tw14054858178273589806:Unit:=()
def tw6763822926501455208:Unit:=()
def tw949455831794083835:Unit:=()
def tw11350145178477315614:Unit:=()
def tw16219096881331170099:Unit:=()
def tw15036975784247659544:Unit:=()
def tw7184418616552960451:Unit:=()
def tw11515964502140094498:Unit:=()
def tw3536131426299404826:Unit:=()
def tw13337228532728393119:Unit:=()
def tw14820236276938327857:Unit:=()
def tw2598589485988606276:Unit:=()
def tw2060989255887170855:Unit:=()
def tw1365573878393447342:Unit:=()
def tw6557974837785046391:Unit:=()
def tw18169203526723723245:Unit:=()
def tw7312289203716798823:Unit:=()
def tw17421367240224523479:Unit:=()
def tw7456794393351670452:Unit:=()
def tw12189075602581901503:Unit:=()
def tw16026834408052841203:Unit:=()
def tw667821482276786844:Unit:=()
def tw9553984946641681933:Unit:=()
def tw8097329015812020952:Unit:=()
def tw2415194636042833608:Unit:=()
def tw11787335753444512666:Unit:=()
def tw13331475981403038109:Unit:=()
def tw7666197728136750534:Unit:=()
def tw6473193730289787152:Unit:=()
def tw11326216315718340294:Unit:=()
def tw13328094174424696731:Unit:=()
def tw13876318249536206093:Unit:=()
def tw13573242703444328072:Unit:=()
def tw5681853363157409909:Unit:=()
def tw8205346605346159407:Unit:=()
def tw1995503133556619963:Unit:=()
def tw9234074462836079496:Unit:=()
def tw16847673378336455027:Unit:=()
def tw838367519437269951:Unit:=()
def tw782154121938741132:Unit:=()
def tw10626804842297982599:Unit:=()
def tw13000144180905382756:Unit:=()
end PySem.W.Fast
open PySem PySem.W PyProof.Rows L2
set_option maxRecDepth 100000 in
set_option maxHeartbeats 0 in
theorem PySem.Challenge.cw_gaugewright_k32_reaches_too_great_holds : PySem.Challenge.rw_gaugewright_k32_reaches_too_great.Holds := by
 w_on;o_law;k_head;(case hw=>w_witness2)
 k_fill
 refine L2.walk_law (l := PySem.Challenge.rw_gaugewright_k32_reaches_too_great) (k := 10) rfl rfl ⟨rfl, by decide, by decide⟩ (fun w h Y => W.kIn_of Y) (fun w h Y => L2.TabsOk.none Lo) ?F
 case F=>
  intro w mg fa h KX G hmg;have d_law:Dd (L2.KOf KX) mg "law" My.s_law ["script"]:=by
   dsimp only[L2.KOf];refine' Dd.mk' KX G ?a ?l ?c ?k ?b
   (case a=>k_is);(case l=>k_is);(case c=>k_is);(case k=>k_is);(case b=>intro _ _ _ _ _ _ us hl;obtain⟨_,rfl⟩:=L2.len1 hl;rfl)
  have g14:∃t,mg "MOST_WORTHS" = some (.int 400 t):=by
   apply ub;apply sk KX G
   k_is
  have T:My.Txt mg:=by
   refine' ⟨ju KX G ?z0,ju KX G ?z1,ju KX G ?z2,ju KX G ?z3,ju KX G ?z4,ju KX G ?z5,ju KX G ?z6,ju KX G ?z7,ju KX G ?z8,ju KX G ?z9,ju KX G ?z10,ju KX G ?z11,ju KX G ?z12,ju KX G ?z13,g14⟩
   (case z0=>k_is);(case z1=>k_is);(case z2=>k_is);(case z3=>k_is);(case z4=>k_is);(case z5=>k_is);(case z6=>k_is);(case z7=>k_is);(case z8=>k_is);(case z9=>k_is);(case z10=>k_is);(case z11=>k_is);(case z12=>k_is);(case z13=>k_is)
  have m24:mg "GaugeError" = some (.ref 24):=by
   apply sk KX G
   k_is
  have c24:L2.ExCls (L2.KOf KX) 24 none:=by
   apply L2.exc_of_in;dsimp only[L2.KOf,L2.veB]
   k_exc
  have m37:mg "NoSpan" = some (.ref 37):=by
   apply sk KX G
   k_is
  have k37:L2.ExK (L2.KOf KX) 37:=by
   dsimp only[L2.KOf];refine' L2.ExK.mk' ?a ?b ?c ?d ?e ?f
   (case a=>k_is);(case b=>k_is);(case c=>k_is);(case d=>k_is);(case e=>k_is);(case f=>rfl)
  have c37:L2.ExCls (L2.KOf KX) 37 none:=by
   apply L2.exc_of_in;dsimp only[L2.KOf,L2.veB]
   k_exc
  have m49:mg "NoPart" = some (.ref 49):=by
   apply sk KX G
   k_is
  have k49:L2.ExK (L2.KOf KX) 49:=by
   dsimp only[L2.KOf];refine' L2.ExK.mk' ?a ?b ?c ?d ?e ?f
   (case a=>k_is);(case b=>k_is);(case c=>k_is);(case d=>k_is);(case e=>k_is);(case f=>rfl)
  have c49:L2.ExCls (L2.KOf KX) 49 none:=by
   apply L2.exc_of_in;dsimp only[L2.KOf,L2.veB]
   k_exc
  have m61:mg "NoSet" = some (.ref 61):=by
   apply sk KX G
   k_is
  have k61:L2.ExK (L2.KOf KX) 61:=by
   dsimp only[L2.KOf];refine' L2.ExK.mk' ?a ?b ?c ?d ?e ?f
   (case a=>k_is);(case b=>k_is);(case c=>k_is);(case d=>k_is);(case e=>k_is);(case f=>rfl)
  have c61:L2.ExCls (L2.KOf KX) 61 none:=by
   apply L2.exc_of_in;dsimp only[L2.KOf,L2.veB]
   k_exc
  have m73:mg "NoRow" = some (.ref 73):=by
   apply sk KX G
   k_is
  have k73:L2.ExK (L2.KOf KX) 73:=by
   dsimp only[L2.KOf];refine' L2.ExK.mk' ?a ?b ?c ?d ?e ?f
   (case a=>k_is);(case b=>k_is);(case c=>k_is);(case d=>k_is);(case e=>k_is);(case f=>rfl)
  have c73:L2.ExCls (L2.KOf KX) 73 none:=by
   apply L2.exc_of_in;dsimp only[L2.KOf,L2.veB]
   k_exc
  have m85:mg "Unlike" = some (.ref 85):=by
   apply sk KX G
   k_is
  have k85:L2.ExK (L2.KOf KX) 85:=by
   dsimp only[L2.KOf];refine' L2.ExK.mk' ?a ?b ?c ?d ?e ?f
   (case a=>k_is);(case b=>k_is);(case c=>k_is);(case d=>k_is);(case e=>k_is);(case f=>rfl)
  have c85:L2.ExCls (L2.KOf KX) 85 none:=by
   apply L2.exc_of_in;dsimp only[L2.KOf,L2.veB]
   k_exc
  have m104:mg "NoDrawing" = some (.ref 104):=by
   apply sk KX G
   k_is
  have k104:L2.ExK (L2.KOf KX) 104:=by
   dsimp only[L2.KOf];refine' L2.ExK.mk' ?a ?b ?c ?d ?e ?f
   (case a=>k_is);(case b=>k_is);(case c=>k_is);(case d=>k_is);(case e=>k_is);(case f=>rfl)
  have m123:mg "NoGap" = some (.ref 123):=by
   apply sk KX G
   k_is
  have k123:L2.ExK (L2.KOf KX) 123:=by
   dsimp only[L2.KOf];refine' L2.ExK.mk' ?a ?b ?c ?d ?e ?f
   (case a=>k_is);(case b=>k_is);(case c=>k_is);(case d=>k_is);(case e=>k_is);(case f=>rfl)
  have m142:mg "NoOffer" = some (.ref 142):=by
   apply sk KX G
   k_is
  have k142:L2.ExK (L2.KOf KX) 142:=by
   dsimp only[L2.KOf];refine' L2.ExK.mk' ?a ?b ?c ?d ?e ?f
   (case a=>k_is);(case b=>k_is);(case c=>k_is);(case d=>k_is);(case e=>k_is);(case f=>rfl)
  have m161:mg "NoText" = some (.ref 161):=by
   apply sk KX G
   k_is
  have k161:L2.ExK (L2.KOf KX) 161:=by
   dsimp only[L2.KOf];refine' L2.ExK.mk' ?a ?b ?c ?d ?e ?f
   (case a=>k_is);(case b=>k_is);(case c=>k_is);(case d=>k_is);(case e=>k_is);(case f=>rfl)
  have m180:mg "TooGreat" = some (.ref 180):=by
   apply sk KX G
   k_is
  have k180:L2.ExK (L2.KOf KX) 180:=by
   dsimp only[L2.KOf];refine' L2.ExK.mk' ?a ?b ?c ?d ?e ?f
   (case a=>k_is);(case b=>k_is);(case c=>k_is);(case d=>k_is);(case e=>k_is);(case f=>rfl)
  have sp:L2.SpK (L2.KOf KX):=by
   dsimp only[L2.KOf];refine' ⟨?a,?b⟩
   (case a=>k_is);(case b=>k_is)
  have i37:∃ini,L2.ExCls (L2.KOf KX) 37 ini:=⟨_,c37⟩;have i49:∃ini,L2.ExCls (L2.KOf KX) 49 ini:=⟨_,c49⟩;have i61:∃ini,L2.ExCls (L2.KOf KX) 61 ini:=⟨_,c61⟩;have i73:∃ini,L2.ExCls (L2.KOf KX) 73 ini:=⟨_,c73⟩;have i85:∃ini,L2.ExCls (L2.KOf KX) 85 ini:=⟨_,c85⟩;have i104:∃ini,L2.ExCls (L2.KOf KX) 104 ini:=by
   apply ub;refine' L2.exc_ofI ?l ?o ?s ?i c24
   (case l=>dsimp only[L2.KOf];k_is);(case o=>dsimp only[L2.KOf];k_is);(case s=>rfl);(case i=>dsimp only[L2.KOf];k_is)
  have i123:∃ini,L2.ExCls (L2.KOf KX) 123 ini:=by
   apply ub;refine' L2.exc_ofI ?l ?o ?s ?i c24
   (case l=>dsimp only[L2.KOf];k_is);(case o=>dsimp only[L2.KOf];k_is);(case s=>rfl);(case i=>dsimp only[L2.KOf];k_is)
  have i142:∃ini,L2.ExCls (L2.KOf KX) 142 ini:=by
   apply ub;refine' L2.exc_ofI ?l ?o ?s ?i c24
   (case l=>dsimp only[L2.KOf];k_is);(case o=>dsimp only[L2.KOf];k_is);(case s=>rfl);(case i=>dsimp only[L2.KOf];k_is)
  have i161:∃ini,L2.ExCls (L2.KOf KX) 161 ini:=by
   apply ub;refine' L2.exc_ofI ?l ?o ?s ?i c24
   (case l=>dsimp only[L2.KOf];k_is);(case o=>dsimp only[L2.KOf];k_is);(case s=>rfl);(case i=>dsimp only[L2.KOf];k_is)
  have i180:∃ini,L2.ExCls (L2.KOf KX) 180 ini:=by
   apply ub;refine' L2.exc_ofI ?l ?o ?s ?i c24
   (case l=>dsimp only[L2.KOf];k_is);(case o=>dsimp only[L2.KOf];k_is);(case s=>rfl);(case i=>dsimp only[L2.KOf];k_is)
  have n180_many:L2.NoAttr (L2.KOf KX) 180 "many":=by
   unfold L2.NoAttr;dsimp only[L2.KOf]
   k_is
  have n180_most:L2.NoAttr (L2.KOf KX) 180 "most":=by
   unfold L2.NoAttr;dsimp only[L2.KOf]
   k_is
  have e180:L2.ExI (L2.KOf KX) 180:=by
   refine' ⟨k180,?b,?c⟩
   (case b=>dsimp only[L2.KOf];k_is);(case c=>dsimp only[L2.KOf];k_is)
  have r180:L2.XI (L2.KOf KX) 180 ["many","most"] "TooGreat.__init__" My.s_I_TooGreat:=by
   refine' L2.XI.mk' ?l ?o ?s ?i c24 ?t ?f ?c ?k ?b ?kc k180 e180.hd e180.sa ?na
   (case l=>dsimp only[L2.KOf];k_is);(case o=>dsimp only[L2.KOf];k_is);(case s=>rfl);(case i=>dsimp only[L2.KOf];k_is);(case t=>dsimp only[L2.KOf];k_is);(case f=>dsimp only[L2.KOf];k_is);(case c=>dsimp only[L2.KOf];k_is);(case k=>dsimp only[L2.KOf];k_is);(case b=>intro _ _ _ _ _ _ us hl;obtain⟨_,_,_,rfl⟩:=L2.len3 hl;rfl);(case kc=>dsimp only[L2.KOf];k_is)
   (case na=>intro a m;simp only[gw,ge,or_false]at m;rcases m with rfl|rfl<;>assumption)
  have a_many:L2.ExsI (L2.KOf KX) [180] "many":=by
   refine⟨fun C m=>?_,fun C m=>?_⟩
   ·simp only[gw,ge,or_false]at m;rcases m with rfl<;>assumption
   ·simp only[gw,ge,or_false]at m;rcases m with rfl<;>assumption
  have a_most:L2.ExsI (L2.KOf KX) [180] "most":=by
   refine⟨fun C m=>?_,fun C m=>?_⟩
   ·simp only[gw,ge,or_false]at m;rcases m with rfl<;>assumption
   ·simp only[gw,ge,or_false]at m;rcases m with rfl<;>assumption
  have ex:L2.Exs (L2.KOf KX):=by
   refine⟨sp,fun C m=>?_,fun C m=>?_,fun C m=>?_⟩
   ·simp only[L2.excs,gw,ge,or_false]at m;rcases m with rfl|rfl|rfl|rfl|rfl|rfl|rfl|rfl|rfl|rfl<;>assumption
   ·simp only[L2.exc0,gw,ge,or_false]at m;rcases m with rfl|rfl|rfl|rfl|rfl<;>assumption
   ·simp only[L2.excs,gw,ge,or_false]at m;rcases m with rfl|rfl|rfl|rfl|rfl|rfl|rfl|rfl|rfl|rfl<;>assumption
  have xx:My.Exx (L2.KOf KX) mg:=⟨ex,m24,m37,m49,m61,m73,m85,m104,m123,m142,m161,m180,c24,c37,c49,c61,c73,c85,r180,a_many,a_most⟩;have dd:My.Dds (L2.KOf KX) mg:=by constructor<;>(dsimp only[L2.KOf];refine' Dd.mk' KX G ?a ?l ?c ?k ?b;(case a=>k_is);(case l=>k_is);(case c=>k_is);(case k=>k_is);(case b=>(intro _ _ _ _ _ _ us hl;first|(obtain⟨_,rfl⟩:=L2.len1 hl;rfl)|(obtain⟨_,_,rfl⟩:=L2.len2 hl;rfl)|(obtain⟨_,_,_,rfl⟩:=L2.len3 hl;rfl)|(obtain⟨_,_,_,_,rfl⟩:=L2.len4 hl;rfl)|(obtain⟨_,_,_,_,_,rfl⟩:=L2.len5 hl;rfl))))
  obtain⟨f,fd,F,hm,_⟩:=d_law.ex;have e0:=hmg.symm.trans hm;cases e0;exact⟨fd,F.bind1 fun _ _ _ _ _ _ _=>rfl,fun base _ _=>My.ok_law T dd xx F⟩
#print axioms PySem.Challenge.cw_gaugewright_k32_reaches_too_great_holds
end