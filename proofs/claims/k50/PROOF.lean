import PyProof.Rows.All
import Wide.All
import OpenK.AllK
import Wide.FinOn
import Lean
import PyProof.EqAt
import PyProof.EqKinds
import PyProof.TupleCall
import KE.KTupSum
import KE.KSortTup
import PyProof.SetKind
import PyProof.SetRoads
import PyProof.SetNew
import PyProof.DictKinds
import PyProof.NsDelKeeps
import PyProof.StrWalks
import KE.KEqDict
import KE.KDictList
import PyProof.AttrMissSeq
import PyProof.WalksMore
import KE.KDictOf
import PyProof.Rows.Range3
import KE.KItemsList
import PyProof.FactsAll.dict_3
import KE.KMinKey
import PyProof.Rows.CallKwBuiltin
import PyProof.TupleOfSeq
import KE.KLam
import KE.KNestM
import PyProof.Rows.StrNews
import KE.KIntText
import PyProof.TupleKey
import PyProof.DictFindH
import PyProof.DictRoadsH
import PyProof.DictItems
import PyProof.Rows.TupTab
import Wide.Seal
import PyProof.DictValues
import PyProof.Rows.SortRev
import PySem.Challenge.RW_gaugewright_k50_whole_as_many_as_a_cover
open Array renaming length_toList→gh,getElem?_eq_getElem→gu,getElem?_toList→jw,toList_append→kq,toList_extract→ql
open Bool renaming false_eq_true→fg,and_eq_true→ix,false_ne_true→jg,false_and→qf,true_and→rf,eq_iff_iff→ut
open False renaming elim→rk
open ForInStep renaming yield→sw
open Int renaming toNat_natCast→im
open List renaming mem_of_getElem?→bw,replicate→bx,mem_append_left→cg,length_map→cu,getElem?_eq_getElem→cw,mem_cons_of_mem→cz,mem_cons_self→dw,mem_append_right→fh,getD_eq_getElem?_getD→fj,size_toArray→fq,length_cons→ft,length_append→fu,getElem?_concat_length→fv,map_cons→ga,range→gg,getElem?_append_left→gm,append_assoc→gn,Nodup→ic,getElem?_map→ie,length_singleton→iy,filter_sublist→jb,map_append→jk,eq_nil_of_length_eq_zero→ju,map_map→jx,not_mem_nil→km,length_range→ko,append_nil→kw,extract_eq_take_drop→ld,take_of_length_le→lr,nodup_nil→lu,pairwise_append→lx,mem_cons→mw,drop_eq_getElem_cons→nc,toArray→ny,getElem?_append_right→om,take_append_drop→oq,length→ow,replicate_succ→ox,mem_map_of_mem→oy,getElem?_set_self→pb,pairwise_map→pp,length_take→qb,lookup_cons→qc,getElem_mem→qd,nodup_cons→qg,getElem?_cons_succ→qh,find?_cons_of_neg→qy,nodup_append→qz,pairwise_cons→re,map_congr_left→rh,foldl→rp,getElem?_cons_zero→rq,getElem?_set_ne→sn,mem_singleton→tz,flatten_cons→uj,getElem?_take→um,getElem?_drop→uo,find?_cons→ux,mem_append→uy
open List.Pairwise renaming sublist→qm,nil→qx
open List.Perm renaming refl→qk
open List.cons renaming injEq→uv
open Nat renaming le_refl→dh,ne_of_lt→gy,lt_of_lt_of_le→kc,le_trans→lw,le_of_lt→lz,zero_le→nj,lt_irrefl→sy,lt_succ_of_lt→ua,ne_of_gt→vf,add_zero→vg
open Ne renaming symm→kf
open Option.some renaming inj→ji
open Or renaming inl→je,inr→vi
open PyProof.Rows renaming wpS_bind→ca,wpS_pure→ci,arrOf→ck,Keyed→df,pendingOf→fc,SortSt→iw,wpS_forRange→jj,seqObj→jp,callWith_type1→kr,IntsAre→kz,wpS_mono→ng,wpS_modify→ou,setArr→qp,SortKind→sx,failedOf→ur,get?_update_seq→uu,wpS_get→uw,envOfC→vh
open PySem renaming wpAny_bind→bn,Value→bo,wpAny_pure→bp,Shared→bq,PyData→bt,wpAny→cp,sizeLine→fk,starEach→fx,Program→gf,wpAny_callSpecial?_slot→gw,wpAny_call_entry→gx,wpAny_setField_rec→gz,wpAny_newObj_type→io,Around→iq,World→iu,wpAny_holding→jd,bootBuiltins→jq,wpAny_field→jt,compareOp→ki,sizeLine_eq→kj,wpAny_isInstance→kx,wpAny_Call_Name_kw→lc,codeAny_builtin→lf,Builtin→lg,SetTable→li,wpAny_rule→lq,sysModules→ly,wpAny_attempt→nl,pyNext→nq,rawInt→nr,binaryOp→oh,wpAny_truthy_bool→pc,mainGlobals→qa,wpAny_mono→qe,wpAny_seqItems→qi,wpAny_passesOwn→qr,wpAny_ite_false→qt,wpAny_pyIter_list→qv,NameKind→qw,wpAny_setState_of→ra,backTo→rb,assignEach→rc,wpAny_setEntries_of→rg,wpAny_pyIter_tuple→sf,IsPair→si,FuncData→su,DictEntry→tw,call_meets→ub,firstArgMember→uc,wpAny_fieldsOf→ue,codeAny_mono→uf,wpAny_typeOf→ug,cLine→uk,plainId_quiet→uq,sliceBounds→uz,intKind→vd
open PySem.Around renaming under_plainId→ku
open PySem.Builtin.SmallTypes renaming nextOf→gq,ownedTupleIsFree→jv
open PySem.Builtin.Str renaming occurrences→mn
open PySem.Expr renaming Call→vb
open PySem.Heap renaming get?_push_of_some→bu,get?_push_size→cy,SameBut→gd,lt_size→gi,get?_update_self→uh,ExtBut→va
open PySem.Heap.SameBut renaming update→kg
open PySem.Obj renaming mapSeq→kt
open PySem.PassesOwn renaming never→jy
open PySem.PyData renaming int→cq,eqv→kh,canLay0→nw,canLayAll0→pf,depthAll→ph
open PySem.SeqAt renaming shaped→gj,canLay_of_shaped→ig
open PySem.SetTable renaming below→qj,grown→ud
open PySem.Str renaming ofString→lh
open PySem.Value renaming ref→gk,none→lj,int→oo,isInt→qu
open PySem.W renaming Frag→fe,mg_none_of→ky,kia_one→tq
open Sum renaming inl→vc
open True renaming intro→rn
def cm:=@if_neg
def cn:=@if_pos
def fw:=@decide_eq_false
def fy:=@decide_eq_true
def jf:=@of_decide_eq_true
theorem yw{p:Prop}(h:p:=by omega):p:=h
theorem yv{p:Prop}(h:p:=by simp):p:=h
open Option (isSome_iff_exists isSome_map map_eq_some_iff map_some)
open Nat (add_zero le_of_eq le_of_lt le_refl le_succ le_trans lt_irrefl lt_of_lt_of_le lt_succ_of_lt lt_trans mul_comm mul_le_mul ne_of_gt ne_of_lt zero_add zero_le)
open List (all_cons all_eq_true all_map any_cons any_eq_true any_map append_assoc append_inj_left' append_nil cons_append drop_eq_getElem_cons drop_length eq_nil_of_length_eq_zero extract_eq_take_drop find?_cons find?_cons_of_neg find?_some flatMap_cons flatten_cons forIn_cons getD_eq_getElem?_getD getElem?_append_left getElem?_append_right getElem?_concat_length getElem?_cons_succ getElem?_cons_zero getElem?_drop getElem?_eq_getElem getElem?_eq_none getElem?_map getElem?_range getElem?_set_ne getElem?_set_self getElem?_take getElem_mem length_append length_cons length_drop length_filter_le length_map length_nil length_range length_set length_singleton length_take lookup_cons map_append map_congr_left map_cons map_id map_id' map_map map_nil mem_append mem_append_left mem_append_right mem_cons mem_cons_of_mem mem_cons_self mem_filter mem_iff_getElem? mem_map mem_map_of_mem mem_of_getElem? mem_of_mem_drop mem_of_mem_take mem_range mem_reverse mem_singleton nil_append nodup_append nodup_cons nodup_nil not_mem_nil of_mem_zip pairwise_append pairwise_cons pairwise_iff_getElem pairwise_map range_succ replicate_succ set_cons_succ set_cons_zero size_toArray take_add_one take_append_drop take_length take_of_length_le take_zero zipIdx_cons zip_cons_cons)
open PySem.Heap (get?_push_of_some get?_push_size get?_update_self lt_size size_push)
open Array (getElem?_toList length_toList toList_append toList_extract toList_push)
theorem dz{p:Prop}[Decidable p](h:decide p=true:=by rfl):p:=jf h
set_option Elab.async false
set_option linter.all false
set_option maxRecDepth 100000
set_option maxHeartbeats 8000000
noncomputable section
namespace L2
open PySem PySem.Spec PyProof.Rows
section
abbrev Key:=Sum Int Str
def kF:Key->bo->Bool
 | .inl k,v=>qu k v
 | .inr x,v=>Value.isStrOf x v
def Fv(w:iu):Key->Int
 | .inl k=>hashInt k
 | .inr x=>hashStr w x
theorem hV:∀{k:Key}{v:bo},kF k v=true->(∃i t,k=vc i/\v=oo i t)\/(∃x t,k=Sum.inr x/\v=Value.str x t)
 | .inl i,v,h=>by
  obtain⟨t,e⟩:=Value.isInt_shape (k:=i) (v:=v) h;exact .inl ⟨i,t,rfl,e⟩
 | .inr x,v,h=>by
  obtain⟨t,e⟩:=Value.isStrOf_shape (x:=x) (v:=v) h;exact .inr ⟨x,t,rfl,e⟩
theorem Kb(i:Int)(t:Tok):kF (.inl i) (.int i t)=true:=by simp[kF,qu]
theorem Lr(x:Str)(t:Tok):kF (.inr x) (.str x t)=true:=by simp[kF,Value.isStrOf]
theorem IB(a b:Int):decide ((vc a:Key)=vc b)=(a==b):=by
 by_cases e:a=b
 ·subst e;simp
 ·have h:¬(vc a:Key)=vc b:=fun q=>e (Sum.inl.inj q);rw[fw h];exact(beq_eq_false_iff_ne.mpr e).symm
theorem KB(a b:Str):decide ((Sum.inr a:Key)=Sum.inr b)=decide (a=b):=by
 by_cases e:a=b
 ·subst e;simp
 ·have h:¬(Sum.inr a:Key)=Sum.inr b:=fun q=>e (Sum.inr.inj q);rw[fw h,fw e]
theorem I0(a:Int)(b:Str):decide ((vc a:Key)=Sum.inr b)=false:=fw (fun q=>nomatch q)
theorem Ku(a:Str)(b:Int):decide ((Sum.inr a:Key)=vc b)=false:=fw (fun q=>nomatch q)
def bY(prog:gf)(w:iu):PySem.KeyKind prog w Key where
 is:=kF
 hash:=Fv w
 inj:=fun v a b ha hb=>by
  rcases hV ha with ⟨i,t,rfl,rfl⟩|⟨x,t,rfl,rfl⟩
  ·rcases hV hb with ⟨j,u,rfl,e⟩|⟨y,u,rfl,e⟩
   ·injection e with e1 _;rw[e1]
   ·exact nomatch e
  ·rcases hV hb with ⟨j,u,rfl,e⟩|⟨y,u,rfl,e⟩
   ·exact nomatch e
   ·injection e with e1 _;rw[e1]
 byValue:=fun k v h=>by
  rcases hV h with ⟨i,t,rfl,rfl⟩|⟨x,t,rfl,rfl⟩<;>rfl
 pyHash:=fun hv h=>by
  rcases hV hv with ⟨i,t,rfl,rfl⟩|⟨x,t,rfl,rfl⟩
  ·exact wpAny_pyHash_int h
  ·exact wpAny_pyHash_str h
 eqBool:=fun hu hv h=>by
  rcases hV hu with ⟨i,t,rfl,rfl⟩|⟨x,t,rfl,rfl⟩
  ·rcases hV hv with ⟨j,u,rfl,rfl⟩|⟨y,u,rfl,rfl⟩
   ·rw[IB]at h;exact wpAny_eqBool_int h
   ·rw[I0]at h;exact SeqAt.EqAt.int_str i t y u _ _ _ _ h
  ·rcases hV hv with ⟨j,u,rfl,rfl⟩|⟨y,u,rfl,rfl⟩
   ·rw[Ku]at h;exact SeqAt.EqAt.str_int x t j u _ _ _ _ h
   ·rw[KB]at h;exact wpAny_eqBool_str h
 «strs»:=fun k x t v h=>by
  rcases hV h with ⟨i,u,rfl,e⟩|⟨y,u,rfl,e⟩
  ·exact nomatch e
  ·injection e with e1 _
   subst e1;cases v<;>rfl
theorem Jy(prog:gf)(w:iu)(i:Int)(t:Tok):(bY prog w).is (.inl i) (.int i t)=true:=Kb i t
theorem Le(prog:gf)(w:iu)(x:Str)(t:Tok):(bY prog w).is (.inr x) (.str x t)=true:=Lr x t
end
section
inductive V where
 |non|bl (b:Bool)|int (i:Int)|str (x:Str)|byt (b:Array UInt8)|flt (b:UInt64)|ref (a:Addr)|ty (n:String)
 deriving DecidableEq
def RelV:V->bo->Prop
 | .non,u=>u=lj
 | .bl b,u=>u=Value.bool b
 | .int i,u=>∃t,u=oo i t
 | .str x,u=>∃t,u=Value.str x t
 | .byt b,u=>∃t,u=Value.bytes b t
 | .flt b,u=>∃t,u=Value.float b t
 | .ref a,u=>u=gk a
 | .ty n,u=>u=Value.type n
abbrev Vals:List V->List bo->Prop:=Paired RelV
theorem Vals.length{xs:List V}{us:List bo}(r:Vals xs us):xs.length=us.length:=Paired.length r
theorem Vals.get:∀{xs:List V}{us:List bo}{i:Nat}{x:V},Vals xs us->xs[i]?=some x->∃u,us[i]?=some u/\RelV x u
 |_,_,_,_,.nil,e=>by simp at e
 |_,_,0,_,.cons r _,e=>by simp at e;subst e;exact⟨_,rfl,r⟩
 |_,_,i+1,x,.cons _ t,e=>by
  obtain⟨u,h1,h2⟩:=Vals.get (i:=i) (x:=x) t (by simpa using e);exact⟨u,by simpa using h1,h2⟩
theorem Vals.set{x:V}{u:bo}(r:RelV x u):∀{xs:List V}{us:List bo} (i:Nat),Vals xs us->Vals (xs.set i x) (us.set i u)
 |_,_,_,.nil=>.nil
 |_,_,0,.cons _ t=>.cons r t
 |_,_,i+1,.cons q t=>.cons q (Vals.set r i t)
theorem Vals.append:∀{xs ys:List V}{us ws:List bo},Vals xs us->Vals ys ws->Vals (xs++ys) (us++ws)
 |_,_,_,_,.nil,s=>s
 |_,_,_,_,.cons r t,s=>.cons r (Vals.append t s)
theorem Vals.take:∀{xs:List V}{us:List bo} (n:Nat),Vals xs us->Vals (xs.take n) (us.take n)
 |_,_,0,_=>.nil
 |_,_,_+1,.nil=>.nil
 |_,_,n+1,.cons r t=>.cons r (Vals.take n t)
theorem Vals.drop:∀{xs:List V}{us:List bo} (n:Nat),Vals xs us->Vals (xs.drop n) (us.drop n)
 |_,_,0,r=>r
 |_,_,_+1,.nil=>.nil
 |_,_,n+1,.cons _ t=>Vals.drop n t
def RelO:Option V->Option bo->Prop
 |some v,some u=>RelV v u
 |none,none=>True
 |_,_=>False
def KV{κ:Type}:List (κ×V)->List (κ×bo)->Prop:=Paired fun(p:κ×V) (q:κ×bo)=>p.1=q.1/\RelV p.2 q.2
def kV:Key->V
 | .inl i=>.int i
 | .inr x=>.str x
inductive HO where
 |lst (xs:List V)
 |tup (xs:List V)
 |dK (kvs:List (Key×V))|dT (kvs:List (List Key×V))
 |set (S:Int->Bool) (n:Nat)
 |ins (C dx:Addr) (fs:List (Str×V))
 |own (x:Addr)
 |xd (fs:List (Str×V))
 |met (f x:Addr)
 |rng (lo hi:Int)
 |frz (o:Obj) (u:HO)
 |tbl (ps:Array bo)
 |ext (φ:Heap->Prop)
abbrev Hp:=Addr->Option HO
def upd(H:Hp)(a:Addr)(o:HO):Hp:=fun b=>if b=a then some o else H b
theorem zX{H:Hp}{a:Addr}{o:HO}:upd H a o a=some o:=by unfold upd;rw[cn rfl]
theorem zD{H:Hp}{a b:Addr}{o:HO}(h:b≠a):upd H a o b=H b:=by unfold upd;rw[cm h]
theorem Lk{H:Hp}{a b:Addr}{o u:HO}(h:H a=some o)(h':H b=some u)(d:o≠u):a≠b:=by
 intro e;subst e;rw[h]at h';exact d (ji h')
theorem zI{H:Hp}{a b:Addr}{o:HO}(h:H a=some o)(h':H b=none):a≠b:=by
 intro e;subst e;rw[h]at h';cases h'
def TblOk(H:Hp)(ps qs:Array bo):Prop:=qs = #[]\/∃(l c:bo) (q:Str) (t:Tok) (k:Addr) (oc:Obj) (vs:Array bo) (t':Tok),ps = #[l,c,.str q t]/\qs = #[l,c,.ref k]/\H k=some (.frz oc (.own 0))/\oc.data=.fields vs/\vs[1]?=some (.str q t')
theorem TblOk.stay{H H':Hp}{ps qs:Array bo}(x:TblOk H ps qs)(hf:∀b o u,H b=some (.frz o u)->H' b=some (.frz o u)):TblOk H' ps qs:=by
 rcases x with x|⟨l,c,q,t,k,oc,vs,t',e1,e2,e3,r⟩
 ·exact .inl x
 ·exact .inr ⟨l,c,q,t,k,oc,vs,t',e1,e2,hf _ _ _ e3,r⟩
section
variable (P:gf) (w:iu)
def ObjOk(H:Hp)(h:Heap)(a:Addr):HO->Prop
 | .lst xs=>xs.length<=fk/\∃(its:List bo) (n:Nat),Vals xs its/\h.get? a=some { cls:=.type "list",data:=.seq its.toArray n }
 | .tup xs=>(xs.length<=fk/\∃o:Obj,h.get? a=some o/\o.dict=none)/\∃its:List bo,Vals xs its/\IsTup h a its.toArray
 | .dK kvs=>kvs.length<=fk/\(a==ly)=false/\∃vs,KV kvs vs/\h.DictOf (bY P w) a vs
 | .dT kvs=>kvs.length<=fk/\(a==ly)=false/\∃xs:List (List Key×Addr×bo),
   Paired (fun(p:List Key×V) (q:List Key×Addr×bo)=>p.1=q.1/\H q.2.1=some (.tup (p.1.map kV))/\RelV p.2 q.2.2) kvs xs /\
   ∃o es ep,h.get? a=some o/\o.ExactDict/\o.data=.dict es ep/\es.toList=xs.map (entryOfKey (tupleKind (bY P w)))/\(xs.map (·.1)).Nodup
 | .set S n=>h.SetOf (vd P w) a S n
 | .ins C dx fs=>H dx=some (.own a)/\fs.length<=1000/\dx≠a/\h.get? a=some (W.instObj C dx) /\
   ∃mA,h.Ns1 dx mA/\(∀f,RelO (fs.lookup f) (mA f))/\PySem.Within mA (fs.map (·.1))
 | .own _=>∃o,h.get? a=some o
 | .xd fs=>∃mA,h.Ns1 a mA/\∀f,RelO (fs.lookup f) (mA f)
 | .rng lo hi=>∃t u v,h.get? a=some { cls:=.type "range",data:=.fields #[.int lo t,.int hi u,.int 1 v] }
 | .frz o u=>h.get? a=some o/\ObjOk H h a u
 | .tbl ps=>∃qs:Array bo,h.get? a=some { cls:=.none,data:=.fields qs }/\TblOk H ps qs
 | .met f x=>h.get? a=some (W.methodObj (.ref f) (.ref x))
 | .ext φ=>φ h/\(∃o,h.get? a=some o)/\∀h1 h2:Heap,φ h1->(∀o,h1.get? a=some o->h2.get? a=some o)->φ h2
def HOk(H:Hp)(h:Heap):Prop:=∀a o,H a=some o->ObjOk P w H h a o
end
section
variable {P:gf}{w:iu}{H H':Hp}{h h':Heap}{a:Addr}{o:HO}
theorem ObjOk.lt(x:ObjOk P w H h a o):a<h.objs.size:=by
 cases o with
 |lst xs=>obtain⟨_,_,_,_,e⟩:=x;exact gi e
 |tup xs=>obtain⟨_,_,_,p⟩:=x;exact p.lt
 |dK kvs=>obtain⟨_,_,_,_,o,_,_,e,_⟩:=x;exact gi e
 |dT kvs=>obtain⟨_,_,_,_,o,_,_,e,_⟩:=x;exact gi e
 |set S n=>obtain⟨o,_,_,_,e,_⟩:=x;exact gi e
 |ins C dx fs=>obtain⟨_,_,_,e,_⟩:=x;exact gi e
 |own y=>obtain⟨_,e⟩:=x;exact gi e
 |xd fs=>obtain⟨_,⟨_,_,_,e,_⟩,_⟩:=x;exact gi e
 |rng lo hi=>obtain⟨_,_,_,e⟩:=x;exact gi e
 |frz ob u=>obtain⟨e,_⟩:=x;exact gi e
 |tbl ps=>obtain⟨_,e,_⟩:=x;exact gi e
 |met f y=>exact gi (show h.get? a=some _ from x)
 |ext φ=>obtain⟨_,⟨_,e⟩,_⟩:=x;exact gi e
theorem Paired.mapP{α β:Type}{F G:α->β->Prop}:∀{l₁:List α}{l₂:List β},Paired F l₁ l₂->(∀a b,F a b->G a b)->Paired G l₁ l₂
 |_,_,.nil,_=>.nil
 |_,_,.cons r t,f=>.cons (f _ _ r) (Paired.mapP t f)
theorem ObjOk.stay(x:ObjOk P w H h a o)(k:∀b u,(b=a\/H b=some (.own a))->h.get? b=some u->h'.get? b=some u)
  (ho:∀b,H b=some (.own a)->H' b=some (.own a)) (ht:∀b xs,H b=some (.tup xs)->H' b=some (.tup xs))
  (hf:∀b o u,H b=some (.frz o u)->H' b=some (.frz o u):=by first|exact fun _ _ _ q=>q|(intro b o u q;rw[zD (zI q (by assumption))];exact q)):ObjOk P w H' h' a o:=by
 induction o with
 |lst xs=>obtain⟨z,aa,n,r,e⟩:=x;exact⟨z,aa,n,r,k _ _ (.inl rfl) e⟩
 |tup xs=>obtain⟨⟨z,o2,e2,d2⟩,aa,r,ob,e,c⟩:=x;exact⟨⟨z,o2,k _ _ (.inl rfl) e2,d2⟩,aa,r,ob,k _ _ (.inl rfl) e,c⟩
 |dK kvs=>obtain⟨z,y,vs,r,ob,es,ep,e,c⟩:=x;exact⟨z,y,vs,r,ob,es,ep,k _ _ (.inl rfl) e,c⟩
 |dT kvs=>
  obtain⟨z,y,xs,r,ob,es,ep,e,c⟩:=x;exact⟨z,y,xs,Paired.mapP r fun p q z=>⟨z.1,ht _ _ z.2.1,z.2.2⟩,ob,es,ep,k _ _ (.inl rfl) e,c⟩
 |set S n=>obtain⟨ob,es,ep,t,e,c⟩:=x;exact⟨ob,es,ep,t,k _ _ (.inl rfl) e,c⟩
 |ins C dx fs=>
  obtain⟨d,z,ne,e,mA,⟨od,es,ep,e2,c⟩,r⟩:=x;exact⟨ho _ d,z,ne,k _ _ (.inl rfl) e,mA,⟨od,es,ep,k _ _ (.inr d) e2,c⟩,r⟩
 |own y=>obtain⟨ob,e⟩:=x;exact⟨ob,k _ _ (.inl rfl) e⟩
 |xd fs=>obtain⟨mA,⟨od,es,ep,e,c⟩,r⟩:=x;exact⟨mA,⟨od,es,ep,k _ _ (.inl rfl) e,c⟩,r⟩
 |rng lo hi=>obtain⟨t,u,v,e⟩:=x;exact⟨t,u,v,k _ _ (.inl rfl) e⟩
 |frz ob u ih=>obtain⟨e,q⟩:=x;exact⟨k _ _ (.inl rfl) e,ih q⟩
 |tbl ps=>
  obtain⟨qs,e,q⟩:=x;exact⟨qs,k a _ (.inl rfl) e,q.stay hf⟩
 |met f y=>
  have e:h.get? a=some (W.methodObj (.ref f) (.ref y)):=x;show h'.get? a=some (W.methodObj (.ref f) (.ref y));exact k a _ (.inl rfl) e
 |ext φ=>obtain⟨p,⟨o,e⟩,st⟩:=x;exact⟨st _ _ p fun o q=>k _ _ (.inl rfl) q,⟨o,k _ _ (.inl rfl) e⟩,st⟩
theorem HOk.lt(x:HOk P w H h)(e:H a=some o):a<h.objs.size:=(x a o e).lt
theorem HOk.fresh(x:HOk P w H h)(e:h.objs.size<=a):H a=none:=by
 cases q:H a with
 |none=>rfl
 |some u=>exact absurd (kc (x.lt q) e) (sy _)
theorem HOk.kept(x:HOk P w H h)(k:∀b u,h.get? b=some u->h'.get? b=some u):HOk P w H h':=fun a o e=>
 (x a o e).stay (fun b u _ q=>k b u q) (fun _ q=>q) fun _ _ q=>q
theorem HOk.laid(x:HOk P w H h)(k:∀b u,h.get? b=some u->h'.get? b=some u)(hp:h.objs.size<=a)(z:ObjOk P w (upd H a o) h' a o):HOk P w (upd H a o) h':=fun b u e=>by
 have hn:=x.fresh hp;by_cases hb:b=a
 ·subst hb;rw[zX]at e;cases e;exact z
 ·rw[zD hb]at e;exact(x b u e).stay (fun c v _ q=>k c v q) (fun c q=>by rw[zD (zI q hn)];exact q) fun c xs q=>by rw[zD (zI q hn)];exact q
end
def Rd(H:Hp)(a:Addr)(u:HO):Prop:=H a=some u\/∃o,H a=some (.frz o u)
theorem Rd.ok{P:gf}{w:iu}{H:Hp}{h:Heap}{a:Addr}{u:HO}(r:Rd H a u)(x:HOk P w H h):ObjOk P w H h a u:=by
 rcases r with r|⟨o,r⟩
 ·exact x a u r
 ·obtain⟨_,q⟩:=x a _ r;exact q
def Mut:Option HO->Prop
 |some (.lst _)=>True
 |some (.dK _)=>True
 |some (.dT _)=>True
 |some (.set _ _)=>True
 |some (.ins _ _ _)=>True
 |some (.ext _)=>True
 |_=>False
section
variable {P:gf}{w:iu}{H:Hp}{h h':Heap}{x e:Addr}{o':HO}
theorem HOk.write(ok:HOk P w H h)(mu:Mut (H x))(he:e=x\/H e=some (.own x))(k:∀b u,b≠e->h.get? b=some u->h'.get? b=some u)(ae:∃u,h'.get? e=some u)
  (new:ObjOk P w (upd H x o') h' x o'):HOk P w (upd H x o') h':=fun b u q=>by
 have aa:∀c y,H c=some (.own y)->c≠x:=fun c y r z=>by subst z;rw[r]at mu;exact mu
 have ac:∀c xs,H c=some (.tup xs)->c≠x:=fun c xs r z=>by subst z;rw[r]at mu;exact mu
 have ab:∀c o u,H c=some (.frz o u)->c≠x:=fun c o u r z=>by subst z;rw[r]at mu;exact mu
 by_cases hb:b=x
 ·subst hb;rw[zX]at q;cases q;exact new
 ·rw[zD hb]at q;by_cases hbe:b=e
  ·have q':H b=some (.own x):=by
    rcases he with z|z
    ·exact absurd (hbe.trans z) hb
    ·rw[hbe];exact z
   rw[q]at q';cases q';obtain⟨v,hv⟩:=ae;exact⟨v,by rw[hbe];exact hv⟩
  ·refine(ok b u q).stay (fun c v hc r=>k c v ?_ r) (fun c r=>by rw[zD (aa c b r)];exact r) (fun c xs r=>by rw[zD (ac c xs r)];exact r) fun c o u r=>by rw[zD (ab c o u r)];exact r
   rcases hc with rfl|hc
   ·exact hbe
   ·rintro rfl;rcases he with z|z
    ·exact aa c b hc z
    ·rw[hc]at z;cases z;exact hb rfl
end
structure Un(fs ex:List Addr)(H H':Hp)(h h':Heap):Prop where
 keep:∀b o,h.get? b=some o->H b=none->b∉fs->b∉ex->h'.get? b=some o
 slot:∀b o,h.get? b=some o->H b=none->b∈fs->b∉ex->∃sl,h'.get? b=some { o with slots:=sl }
 free:∀b o,h.get? b=some o->H b=none->b∉ex->H' b=none
 there:∀b o,h.get? b=some o->b∉ex->∃o',h'.get? b=some o'
 tups:∀b xs,H b=some (.tup xs)->H' b=some (.tup xs)
 frzs:∀b o u,H b=some (.frz o u)->H' b=some (.frz o u)
 tbls:∀b ps,H b=some (.tbl ps)->H' b=some (.tbl ps)
section
variable {fs fs' ex ex':List Addr}{H H1 H2:Hp}{h h1 h2 h':Heap}{a x e:Addr}{o:HO}
theorem Un.any(u:Un fs ex H H1 h h1){b:Addr}{ob:Obj}(q:h.get? b=some ob)(n:H b=none)(hx:b∉ex):∃sl,h1.get? b=some { ob with slots:=sl }:=by
 by_cases hb:b∈fs
 ·exact u.slot b ob q n hb hx
 ·exact⟨ob.slots,u.keep b ob q n hb hx⟩
theorem Un.trans(a:Un fs ex H H1 h h1)(b:Un fs ex H1 H2 h1 h2):Un fs ex H H2 h h2 where
 keep:=fun c ob q n hc hx=>b.keep c ob (a.keep c ob q n hc hx) (a.free c ob q n hx) hc hx
 slot:=fun c ob q n hc hx=>by
  obtain⟨sl,e1⟩:=a.slot c ob q n hc hx;obtain⟨z,e2⟩:=b.slot c _ e1 (a.free c ob q n hx) hc hx;exact⟨z,e2⟩
 free:=fun c ob q n hx=>by
  obtain⟨o',e1⟩:=a.there c ob q hx;exact b.free c o' e1 (a.free c ob q n hx) hx
 there:=fun c ob q hx=>by
  obtain⟨o',e1⟩:=a.there c ob q hx;exact b.there c o' e1 hx
 tups:=fun c xs q=>b.tups c xs (a.tups c xs q)
 frzs:=fun c ob xs q=>b.frzs c ob xs (a.frzs c ob xs q)
 tbls:=fun c ps q=>b.tbls c _ (a.tbls c ps q)
theorem Un.kept(k:∀b u,h.get? b=some u->h'.get? b=some u):Un fs ex H H h h':=
 ⟨fun b ob q _ _ _=>k b ob q,fun b ob q _ _ _=>⟨ob.slots,k b ob q⟩,fun _ _ _ n _=>n,fun b ob q _=>⟨ob,k b ob q⟩,fun _ _ q=>q,fun _ _ _ q=>q,fun _ _ q=>q⟩
theorem Un.refl:Un fs ex H H h h:=Un.kept fun _ _ q=>q
theorem Un.laid(k:∀b u,h.get? b=some u->h'.get? b=some u)(hp:h.objs.size<=a)(hn:H a=none):Un fs ex H (upd H a o) h h' where
 keep:=fun b u q _ _ _=>k b u q
 slot:=fun b u q _ _ _=>⟨u.slots,k b u q⟩
 free:=fun b u q n _=>by rw[zD (gy (kc (gi q) hp))];exact n
 there:=fun b u q _=>⟨u,k b u q⟩
 tups:=fun b xs q=>by rw[zD (zI q hn)];exact q
 frzs:=fun b u xs q=>by rw[zD (zI q hn)];exact q
 tbls:=fun b ps q=>by rw[zD (zI q hn)];exact q
theorem Un.write(mu:Mut (H x))(he:e=x\/H e=some (.own x))(k:∀b u,b≠e->h.get? b=some u->h'.get? b=some u)(aa:∃u,h'.get? e=some u):Un fs ex H (upd H x o) h h':=by
 have hx:∀b,H b=none->b≠x:=fun b n z=>by subst z;rw[n]at mu;exact mu
 have hb:∀b,H b=none->b≠e:=fun b n z=>by
  subst z;rcases he with r|r
  ·exact hx b n r
  ·rw[n]at r;cases r
 have hm:∀b u,H b=some u->¬ Mut (some u)->b≠x:=fun b u q nm z=>by subst z;rw[q]at mu;exact nm mu
 refine⟨fun b u q n _ _=>k b u (hb b n) q,fun b u q n _ _=>⟨u.slots,k b u (hb b n) q⟩,fun b u q n _=>by rw[zD (hx b n)];exact n,fun b u q _=>?_,
  fun b xs q=>by rw[zD (hm b _ q fun z=>z)];exact q,fun b u xs q=>by rw[zD (hm b _ q fun z=>z)];exact q,fun b ps q=>by rw[zD (hm b _ q fun z=>z)];exact q⟩
 by_cases hbe:b=e
 ·subst hbe;exact aa
 ·exact⟨u,k b u hbe q⟩
theorem Un.mono(u:Un fs ex H H1 h h1)(hs:∀b∈fs,b∈fs')(hx:∀b∈ex,b∈ex'):Un fs' ex' H H1 h h1:=
 ⟨fun b ob q n hb he=>u.keep b ob q n (fun z=>hb (hs b z)) fun z=>he (hx b z),fun _ _ q n _ he=>u.any q n fun z=>he (hx _ z),fun b ob q n he=>u.free b ob q n fun z=>he (hx b z),fun b ob q he=>u.there b ob q fun z=>he (hx b z),u.tups,u.frzs,u.tbls⟩
end
def trk(h:Heap)(H:Hp):List Addr:=(gg h.objs.size).filter fun a=>(H a).isSome
def iK(h:Heap)(H:Hp):Heap:=W.hideAll h (trk h H)
theorem Lv(h:Heap)(H:Hp):(iK h H).objs.size=h.objs.size:=W.hideAll_size _ _
theorem K0{h:Heap}{H:Hp}{b:Addr}{o:Obj}(e:h.get? b=some o)(n:H b=none):(iK h H).get? b=some o:=
 W.hideAll_get _ e fun hm=>by
  have q:(H b).isSome=true:=(mem_filter.mp hm).2;rw[n]at q;simp at q
theorem Kg{h:Heap}{H:Hp}{b:Addr}{o:Obj}(e:(iK h H).get? b=some o):h.get? b=some o/\H b=none:=by
 have e':h.get? b=some o:=W.of_hideAll (trk h H) e;refine⟨e',?_⟩;cases q:H b with
 |none=>rfl
 |some x=>
  have hm:b∈trk h H:=mem_filter.mpr ⟨mem_range.mpr (gi e'),by simp[q]⟩;have z:(iK h H).get? b=none:=W.hideAll_none (trk h H) hm;rw[z]at e;cases e
def Ke(g h:Heap)(L:Addr):List (Addr×Obj):=(gg h.objs.size).filterMap fun a=>if a=L\/(g.get? a).isSome=true then none else (h.get? a).map fun o=>(a,o)
def rest(g h:Heap)(L d:Addr):List (Addr×Obj):=(Ke g h L).filter fun p=>decide (p.1≠d)
end
section
def tabsG:List ((Addr×Addr)×Array bo):=[]
def BltAt(base:Heap)(mg:Str->Option bo):Prop:=∃bm ob,mg "__builtins__" = some (.ref bm)/\bm≠builtinsNs/\base.get? bm=some ob/\ob.cls=.type "module"/\ob.dict=some builtinsNs/\ob.data=.plain
structure Frf(fs:List Addr)(H:Hp):Prop where
 free:∀b∈fs,H b=none
 tab:∀q∈tabsG,H q.1.2=some (.tbl q.2)
structure Mod(K:fe)(mg:Str->Option bo)(base:Heap):Prop where
 kin:K.In base
 glob:base.Ns qa mg
 blt:∃mb,base.Ns builtinsNs mb/\∀x:Str,x ≠ "__name__"->mb x=jq x
 nolimit:base.NoLimit
 bm:BltAt base mg
 hd:∀q∈tabsG,W.CodeHd base q.1.1 q.1.2
structure Cx where
 prog:gf
 w:iu
 K:fe
 mg:Str->Option bo
 base:Heap
 A:iq
 N:List Str
 s₀:bq
 H₀:Hp
 env:Env
 outer:List Env
 stack:List Env
 ex:List Addr
 fn:Str->Bool
 calm:Bool
 pn:List (Addr×Obj)
 xe:bo->bq->Prop
def frs(l:List Env):List Addr:=l.filterMap (·.frame)
abbrev Cx.fs (X:Cx):List Addr:=frs X.outer
def Vis(sc:Scope)(x:Str):Prop:=sc.names.lookup x=some .local\/sc.names.lookup x=some .cell\/sc.names.lookup x=some .free
def Loc(sc:Scope)(x:Str):Prop:=sc.names.lookup x=some .local\/sc.names.lookup x=some .cell
def Look(env:Env)(h:Heap)(m:Str->Option bo)(x:Str)(u:bo):Prop:=
 (env.kindOf x=some .local/\m x=some u)\/((env.kindOf x=some .cell\/env.kindOf x=some .free)/\∃c,env.cells.lookup x=some c/\h.IsCell c (some u))
structure Cx.Ok(X:Cx):Prop where
 mod:Mod X.K X.mg X.base
 kind:X.env.scope.kind=.function
 glob:X.env.globals=qa
 blt:X.env.builtins=builtinsNs
 above:X.s₀.heap.objs.size<=X.env.locals
 inj:∀x y c,X.env.cells.lookup x=some c->X.env.cells.lookup y=some c->x=y
 has:∀x,(X.env.kindOf x=some .cell\/X.env.kindOf x=some .free)->∃c,X.env.cells.lookup x=some c
 cab:∀x c,X.fn x=true->X.env.cells.lookup x=some c->X.s₀.heap.objs.size<=c
 hd:X.calm=true->X.A.handled=none
 frames:X.A.frames=some X.stack
 stk:X.stack=X.outer\/(X.stack=X.env::X.outer/\X.env.frame=some X.env.locals)
 exf:∀b∈X.ex,b≠X.env.locals/\∀x c,X.env.cells.lookup x=some c->c≠b
 bs:∀b o,X.base.get? b=some o->X.s₀.heap.get? b=some o/\X.H₀ b=none
 bsz:X.base.objs.size<=X.s₀.heap.objs.size
 noex:∀b o,X.base.get? b=some o->b∉X.ex
 exfs:∀b∈X.ex,b∉X.fs
 funs:X.s₀.heap.FunFrames X.base X.outer
 frf:Frf X.fs X.H₀
structure Inv(X:Cx)(ze:List (Addr×Obj))(σ:List (Option V))(H:Hp)(s:bq):Prop where
 ok:X.Ok
 os:s.os=X.s₀.os
 bare:AllBare s.gens
 base:Un X.fs X.ex X.H₀ H X.s₀.heap s.heap
 loc:∃m,s.heap.Ns X.env.locals m/\∀(i:Nat) (x:Str) (v:V),X.N[i]?=some x->σ[i]?=some (some v)->Vis X.env.scope x->∃u,RelV v u/\Look X.env s.heap m x u
 cell:∀x c,X.env.cells.lookup x=some c->∃v,s.heap.IsCell c v
 free:H X.env.locals=none
 freeC:∀x c,X.env.cells.lookup x=some c->H c=none
 pin:∀p∈X.pn++ze,s.heap.get? p.1=some p.2/\H p.1=none/\p.1≠X.env.locals/\p.1∉X.fs/\∀v,p.2.data≠.cell v
 hok:HOk X.prog X.w H s.heap
 len:σ.length=X.N.length
section
variable {X:Cx}{ze:List (Addr×Obj)}{σ:List (Option V)}{H H':Hp}{s:bq}{h':Heap}
theorem Cx.Ok.nofr(ok:X.Ok){b:Addr}{o:Obj}(e:X.base.get? b=some o):b∉X.fs:=fun hb=>by
 have:=(ok.funs.mem hb).1;rw[e]at this;cases this
theorem Inv.bs(I:Inv X ze σ H s):∀b o,X.base.get? b=some o->s.heap.get? b=some o/\H b=none:=fun b o e=>
 ⟨I.base.keep b o (I.ok.bs b o e).1 (I.ok.bs b o e).2 (I.ok.nofr e) (I.ok.noex b o e),I.base.free b o (I.ok.bs b o e).1 (I.ok.bs b o e).2 (I.ok.noex b o e)⟩
theorem Inv.bk(I:Inv X ze σ H s):∀b o,X.base.get? b=some o->s.heap.get? b=some o:=fun b o e=>(I.bs b o e).1
theorem Inv.mod(I:Inv X ze σ H s):Mod X.K X.mg X.base:=I.ok.mod
theorem Inv.kIn(I:Inv X ze σ H s):X.K.In s.heap:=I.ok.mod.kin.keeps I.bk
theorem Inv.lt(I:Inv X ze σ H s):X.env.locals<s.heap.objs.size:=let ⟨_,hn,_⟩:=I.loc;hn.lt
theorem Inv.sz(I:Inv X ze σ H s):X.s₀.heap.objs.size<=s.heap.objs.size:=lw I.ok.above (lz I.lt)
theorem Inv.nofs(I:Inv X ze σ H s){a:Addr}(h:s.heap.objs.size<=a):a∉X.fs:=fun hb=>by
 obtain⟨_,o,ho,_⟩:=I.ok.funs.mem hb;exact absurd (kc (gi ho) (lw I.sz h)) (sy _)
theorem Inv.cne(I:Inv X ze σ H s):∀x c,X.env.cells.lookup x=some c->c≠X.env.locals:=fun x c e z=>by
 obtain⟨v,o,ho,hd⟩:=I.cell x c e;obtain⟨m,⟨o',es,ep,aa,q,_⟩,_⟩:=I.loc;rw[z,aa]at ho;cases ho;rw[q]at hd;cases hd
theorem Inv.funs(I:Inv X ze σ H s):s.heap.FunFrames X.base X.outer:=by
 have q:∀(l:List Env),(∀b∈frs l,b∈X.fs)->X.s₀.heap.FunFrames X.base l->s.heap.FunFrames X.base l:=by
  intro l;induction l with
  |nil=>intro _ _;trivial
  |cons env r ih=>
   intro hs hl;obtain⟨hk,⟨L,o,hf,hn,ho,hd⟩,hr⟩:=hl;have hL:L∈X.fs:=hs L (by unfold frs;rw[List.filterMap_cons,hf];exact dw);obtain⟨sl,e⟩:=I.base.slot L o ho (I.ok.frf.free L hL) hL fun z=>I.ok.exfs L z hL;exact⟨hk,⟨L,_,hf,hn,e,hd⟩,ih (fun b hb=>hs b (by unfold frs;rw[List.filterMap_cons,hf];exact cz _ hb)) hr⟩
 exact q X.outer (fun _ hb=>hb) I.ok.funs
theorem Inv.stack(I:Inv X ze σ H s):s.heap.FunFrames X.base X.stack:=by
 rcases I.ok.stk with e|⟨e,hf⟩
 ·rw[e];exact I.funs
 ·rw[e];obtain⟨m,hn,_⟩:=I.loc;refine .cons (by rw[I.ok.kind];decide) hf hn ?_ I.funs;exact Heap.get?_none_of_le (lw I.ok.bsz I.ok.above)
theorem Inv.stkSub(I:Inv X ze σ H s):∀b∈frs X.stack,b∈X.env.locals::X.fs:=fun b hb=>by
 rcases I.ok.stk with e|⟨e,hf⟩
 ·rw[e]at hb;exact cz _ hb
 ·rw[e]at hb;unfold frs at hb;rw[List.filterMap_cons,hf]at hb;exact hb
theorem Inv.stkFree(I:Inv X ze σ H s):Frf (frs X.stack) H:=⟨fun b hb=>by
 rcases mem_cons.mp (I.stkSub b hb)with e|hb
 ·rw[e];exact I.free
 ·obtain⟨_,o,ho,_⟩:=I.ok.funs.mem hb;exact I.base.free b o ho (I.ok.frf.free b hb) fun z=>I.ok.exfs b z hb,fun q hq=>I.base.tbls _ _ (I.ok.frf.tab q hq)⟩
theorem Inv.step{g':Array GenState}{t':Nat}{d':Drawn}{ch:List Addr}(I:Inv X ze σ H s)
  (hch:∀b∈ch,(b∈X.ex\/X.s₀.heap.objs.size<=b)/\b≠X.env.locals/\(∀x c,X.env.cells.lookup x=some c->c≠b)/\∀p∈X.pn++ze,p.1≠b)
  (keep:∀b o,b≠X.env.locals->b∉X.fs->b∉ch->s.heap.get? b=some o->H b=none->h'.get? b=some o)
  (slot:∀b o,b≠X.env.locals->b∈X.fs->b∉ch->s.heap.get? b=some o->H b=none->∃sl,h'.get? b=some { o with slots:=sl }) (free:∀b o,b∉ch->s.heap.get? b=some o->H b=none->H' b=none)
  (there:∀b o,b∉ch->s.heap.get? b=some o->∃o',h'.get? b=some o')
  (tups:∀b xs,H b=some (.tup xs)->H' b=some (.tup xs)) (frzs:∀b o u,H b=some (.frz o u)->H' b=some (.frz o u)) (tbls:∀b ps,H b=some (.tbl ps)->H' b=some (.tbl ps))
  (ns:∀m,s.heap.Ns X.env.locals m->h'.Ns X.env.locals m) (hok:HOk X.prog X.w H' h') (hg:AllBare g'):
  Inv X ze σ H' { s with heap:=h',gens:=g',drawn:=d',toks:=t' }:=by
 have ae:∀b o,X.s₀.heap.get? b=some o->b≠X.env.locals:=fun b o e=>gy (kc (gi e) I.ok.above);have ac:∀b o,X.s₀.heap.get? b=some o->b∉X.ex->b∉ch:=fun b o e hx hb=>by
  rcases(hch b hb).1 with z|z
  ·exact hx z
  ·exact absurd (kc (gi e) z) (sy _)
 have ab:∀x c,X.env.cells.lookup x=some c->∀v,s.heap.IsCell c v->h'.IsCell c v:=fun x c e v ⟨o,ho,hd⟩=>by
  have aa:c∉ch:=fun z=>(hch c z).2.2.1 x c e rfl;by_cases hc:c∈X.fs
  ·obtain⟨sl,q⟩:=slot c o (I.cne x c e) hc aa ho (I.freeC x c e);exact⟨_,q,hd⟩
  ·exact⟨o,keep c o (I.cne x c e) hc aa ho (I.freeC x c e),hd⟩
 refine⟨I.ok,I.os,hg,⟨fun b o e n hb hx=>?_,fun b o e n hb hx=>?_,fun b o e n hx=>?_,fun b o e hx=>?_,fun b xs e=>tups b xs (I.base.tups b xs e),fun b o xs e=>frzs b o xs (I.base.frzs b o xs e),fun b ps e=>?_⟩,?_,fun x c e=>?_,?_,fun x c e=>?_,fun p hp=>?_,hok,I.len⟩
 ·exact keep b o (ae b o e) hb (ac b o e hx) (I.base.keep b o e n hb hx) (I.base.free b o e n hx)
 ·obtain⟨sl,e1⟩:=I.base.slot b o e n hb hx;obtain⟨af,e2⟩:=slot b _ (ae b o e) hb (ac b o e hx) e1 (I.base.free b o e n hx);exact⟨af,e2⟩
 ·obtain⟨o',e1⟩:=I.base.there b o e hx;exact free b o' (ac b o e hx) e1 (I.base.free b o e n hx)
 ·obtain⟨o',e1⟩:=I.base.there b o e hx;exact there b o' (ac b o e hx) e1
 ·exact tbls b _ (I.base.tbls b ps e)
 ·obtain⟨m,hn,hl⟩:=I.loc;refine⟨m,ns m hn,fun i x v e1 e2 e3=>?_⟩;obtain⟨u,r,l⟩:=hl i x v e1 e2 e3;refine⟨u,r,?_⟩;rcases l with l|⟨k,c,e,z⟩
  ·exact .inl l
  ·exact .inr ⟨k,c,e,ab x c e _ z⟩
 ·obtain⟨v,z⟩:=I.cell x c e;exact⟨v,ab x c e v z⟩
 ·obtain⟨m,⟨o,_,_,ho,_⟩,_⟩:=I.loc;exact free _ o (fun z=>(hch _ z).2.1 rfl) ho I.free
 ·obtain⟨v,o,ho,hd⟩:=I.cell x c e;exact free c o (fun z=>(hch c z).2.2.1 x c e rfl) ho (I.freeC x c e)
 ·obtain⟨e,n,ne,nf,d⟩:=I.pin p hp;have aa:p.1∉ch:=fun z=>(hch p.1 z).2.2.2 p hp rfl;exact⟨keep p.1 p.2 ne nf aa e n,free p.1 p.2 aa e n,ne,nf,d⟩
theorem Inv.un{t':Nat}(I:Inv X ze σ H s)(u:Un X.fs [] H H' s.heap h')(hok:HOk X.prog X.w H' h'):Inv X ze σ H' { s with heap:=h',toks:=t' }:=by
 obtain⟨m,⟨o,es,ep,ho,r⟩,_⟩:=id I.loc;obtain⟨sl,hL⟩:=u.any ho I.free yv;exact I.step (g':=s.gens) (d':=s.drawn) (ch:=[]) (fun _ z=>nomatch z) (fun b o _ hb _ e n=>u.keep b o e n hb yv) (fun b o _ hb _ e n=>u.slot b o e n hb yv) (fun b o _ e n=>u.free b o e n yv) (fun b o _ e=>u.there b o e yv) u.tups u.frzs u.tbls (fun m' hm=>by
  obtain⟨o',ab,aa,q,r'⟩:=hm;rw[ho]at q;cases q;exact⟨_,ab,aa,hL,r'⟩) hok I.bare
theorem Inv.call{g':Array GenState}{t':Nat}{d':Drawn}{ch:List Addr}(I:Inv X ze σ H s)(u:Un (frs X.stack) ch H H' s.heap h')(hok:HOk X.prog X.w H' h')(hg:AllBare g')
  (hch:∀b∈ch,(b∈X.ex\/X.s₀.heap.objs.size<=b)/\b≠X.env.locals/\(∀x c,X.env.cells.lookup x=some c->c≠b)/\∀p∈X.pn++ze,p.1≠b):
  Inv X ze σ H' { s with heap:=h',gens:=g',drawn:=d',toks:=t' }:=by
 obtain⟨m,⟨o,es,ep,ho,r⟩,_⟩:=id I.loc;obtain⟨sl,hL⟩:=u.any ho I.free fun z=>(hch _ z).2.1 rfl;exact I.step (ch:=ch) hch (fun b o hL hb hc e n=>u.keep b o e n (fun z=>(mem_cons.mp (I.stkSub b z)).elim hL hb) hc) (fun b o _ _ hc e n=>u.any e n hc) (fun b o hc e n=>u.free b o e n hc) (fun b o hc e=>u.there b o e hc) u.tups u.frzs u.tbls (fun m' hm=>by
  obtain⟨o',ab,aa,q,r'⟩:=hm;rw[ho]at q;cases q;exact⟨_,ab,aa,hL,r'⟩) hok hg
theorem Inv.turned{t':Nat}{it:Addr}(I:Inv X ze σ H s)(k:∀b o,b≠it->s.heap.get? b=some o->h'.get? b=some o)(hn:H it=none)(hL:it≠X.env.locals)
  (h1:it∈X.ex\/X.s₀.heap.objs.size<=it) (h2:∀x c,X.env.cells.lookup x=some c->c≠it) (h3:∀p∈X.pn++ze,p.1≠it):Inv X ze σ H { s with heap:=h',toks:=t' }:=by
 have aa:∀b u,H b=some u->b≠it:=fun b u e z=>by rw[z,hn]at e;cases e
 refine I.step (g':=s.gens) (d':=s.drawn) (ch:=[it]) (fun b hb=>?_) (fun b o _ _ hc e _=>k b o (fun z=>hc (by simp[z])) e) (fun b o _ _ hc e _=>⟨o.slots,k b o (fun z=>hc (by simp[z])) e⟩) (fun _ _ _ _ n=>n)
  (fun b o hc e=>⟨o,k b o (fun z=>hc (by simp[z])) e⟩) (fun _ _ e=>e) (fun _ _ _ e=>e) (fun _ _ e=>e) (fun m hm=>?_) (fun b u e=>?_) I.bare
 ·have e:b=it:=by simpa using hb
  subst e;exact⟨h1,hL,h2,h3⟩
 ·obtain⟨o,es,ep,ho,r⟩:=hm;exact⟨o,es,ep,k _ o (kf hL) ho,r⟩
 ·refine(I.hok b u e).stay (fun c v hc q=>k c v ?_ q) (fun _ q=>q) fun _ _ q=>q;rcases hc with z|z
  ·rw[z];exact aa b u e
  ·exact aa c _ z
theorem Inv.tok(I:Inv X ze σ H s)(t:Nat):Inv X ze σ H { s with toks:=t }:=I.un (h':=s.heap) (t':=t) Un.refl I.hok
theorem Inv.kept{t':Nat}(I:Inv X ze σ H s)(k:∀b u,s.heap.get? b=some u->h'.get? b=some u):Inv X ze σ H { s with heap:=h',toks:=t' }:=I.un (Un.kept k) (I.hok.kept k)
theorem Inv.laid{a:Addr}{o:HO}{t':Nat}(I:Inv X ze σ H s)(k:∀b u,s.heap.get? b=some u->h'.get? b=some u)(hp:s.heap.objs.size<=a)(q:ObjOk X.prog X.w (upd H a o) h' a o):
  Inv X ze σ (upd H a o) { s with heap:=h',toks:=t' }:=I.un (Un.laid k hp (I.hok.fresh hp)) (I.hok.laid k hp q)
theorem Inv.write{x e:Addr}{o:HO}{t':Nat}(I:Inv X ze σ H s)(mu:Mut (H x))(he:e=x\/H e=some (.own x))(k:∀b u,b≠e->s.heap.get? b=some u->h'.get? b=some u)(q:∃u,h'.get? e=some u)
  (new:ObjOk X.prog X.w (upd H x o) h' x o):Inv X ze σ (upd H x o) { s with heap:=h',toks:=t' }:=I.un (Un.write mu he k q) (I.hok.write mu he k q new)
theorem Inv.pins_of{q:List (Addr×Obj)}(I:Inv X ze σ H s)(h:∀p∈q,s.heap.get? p.1=some p.2/\H p.1=none/\p.1≠X.env.locals/\p.1∉X.fs/\∀v,p.2.data≠.cell v):Inv X q σ H s:=
 ⟨I.ok,I.os,I.bare,I.base,I.loc,I.cell,I.free,I.freeC,fun p hp=>(mem_append.mp hp).elim (fun z=>I.pin p (cg _ z)) (h p),I.hok,I.len⟩
theorem DZ{N:List Str}(hN:N.Nodup){i j:Nat}{x:Str}(a:N[i]?=some x)(b:N[j]?=some x):i=j:=by
 obtain⟨h1,e1⟩:=List.getElem?_eq_some_iff.mp a;obtain⟨h2,e2⟩:=List.getElem?_eq_some_iff.mp b;exact(List.getElem_inj hN).mp (e1.trans e2.symm)
theorem Fz{M:Model}{A:iq}{E:bo->bq->Prop}{i:Nat}{x:Str}{v:V}{u:bo}{Q:Unit->bq->Prop}(I:Inv X ze σ H s)(hN:X.N.Nodup)(hi:X.N[i]?=some x)(hx:Loc X.env.scope x)(r:RelV v u)
  (h:∀s',Inv X ze (σ.set i (some v)) H s'->(∃a,gd a s.heap s'.heap/\(a=X.env.locals\/X.env.cells.lookup x=some a))->Q () s') (hf:X.fn x=true\/X.env.scope.names.lookup x=some .local:=by first|exact .inl rfl|exact .inr rfl|assumption):cp M A (storeName X.env x u) Q E s:=by
 obtain⟨m,hn,hl⟩:=id I.loc;have ag:(X.env.scope.kind==.class||(X.env.scope.kind==.module&&X.env.locals != X.env.globals))=false:=by rw[I.ok.kind];rfl
 have ah:i<σ.length:=by rw[I.len];exact(List.getElem?_eq_some_iff.mp hi).1
 have ac:=I.cne;have aa:∀{a:Addr}{h':Heap},(∃o,s.heap.get? a=some o/\H a=none)->gd a s.heap h'->HOk X.prog X.w H h':=fun {a h'} ha hs b ob e=>by
  obtain⟨_,_,ab⟩:=ha;refine(I.hok b ob e).stay (fun c w' hc q=>(hs.2 c ?_).trans q) (fun _ q=>q) fun _ _ q=>q;rintro rfl;rcases hc with rfl|hc
  ·rw[ab]at e;cases e
  ·rw[ab]at hc;cases hc
 rcases hx with hk|hk
 ·refine wpAny_storeName_local hk hn (fun h' al hs=>?_) ag;obtain⟨oL,_,_,ak,_⟩:=id hn;refine h _ ⟨I.ok,I.os,I.bare,⟨fun b o e n hb hx=>?_,fun b o e n hb hx=>?_,I.base.free,fun b o e hx=>?_,I.base.tups,I.base.frzs,I.base.tbls⟩,⟨_,al,fun j y v' e1 e2 e3=>?_⟩,fun y c e=>?_,I.free,I.freeC,fun p hp=>?_,aa ⟨oL,ak,I.free⟩ hs,by simpa using I.len⟩ ⟨_,hs,.inl rfl⟩
  ·exact(hs.2 b (gy (kc (gi e) I.ok.above))).trans (I.base.keep b o e n hb hx)
  ·obtain⟨sl,e1⟩:=I.base.slot b o e n hb hx;exact⟨sl,(hs.2 b (gy (kc (gi e) I.ok.above))).trans e1⟩
  ·obtain⟨o',e1⟩:=I.base.there b o e hx;exact⟨o',(hs.2 b (gy (kc (gi e) I.ok.above))).trans e1⟩
  ·by_cases hj:j=i
   ·subst hj;rw[hi]at e1;cases e1;rw[pb ah]at e2;cases e2;exact⟨u,r,.inl ⟨hk,yv⟩⟩
   ·rw[sn (kf hj)]at e2;obtain⟨u',r',q⟩:=hl j y v' e1 e2 e3;refine⟨u',r',?_⟩;rcases q with ⟨k,e⟩|⟨k,c,e,z⟩
    ·refine .inl ⟨k,?_⟩;have:y≠x:=fun e=>hj (DZ hN e1 (e▸hi));simp[this,e]
    ·exact .inr ⟨k,c,e,z.sameBut hs (ac y c e)⟩
  ·obtain⟨w',z⟩:=I.cell y c e;exact⟨w',z.sameBut hs (ac y c e)⟩
  ·obtain⟨e,n,ne,nf,d⟩:=I.pin p hp;exact⟨(hs.2 p.1 ne).trans e,n,ne,nf,d⟩
 ·have ae:X.fn x=true:=by
   rcases hf with z|z
   ·exact z
   ·rw[z]at hk;cases hk
  obtain⟨c,hc⟩:=I.ok.has x (.inl hk);obtain⟨w',z⟩:=I.cell x c hc;refine wpAny_storeName_cell I.ok.kind hk hc z (fun h' af hs=>?_);obtain⟨oc,ai,aj⟩:=id z;refine h { s with heap:=h' } ⟨I.ok,I.os,I.bare,⟨fun b o e n hb hx=>?_,fun b o e n hb hx=>?_,I.base.free,fun b o e hx=>?_,I.base.tups,I.base.frzs,I.base.tbls⟩,⟨m,hn.sameBut hs (kf (ac x c hc)),fun j y v' e1 e2 e3=>?_⟩,fun y c' e=>?_,I.free,I.freeC,fun p hp=>?_,aa ⟨oc,ai,I.freeC x c hc⟩ hs,by simpa using I.len⟩ ⟨c,hs,.inr hc⟩
  ·exact(hs.2 b (gy (kc (gi e) (I.ok.cab x c ae hc)))).trans (I.base.keep b o e n hb hx)
  ·obtain⟨sl,e1⟩:=I.base.slot b o e n hb hx;exact⟨sl,(hs.2 b (gy (kc (gi e) (I.ok.cab x c ae hc)))).trans e1⟩
  ·obtain⟨o',e1⟩:=I.base.there b o e hx;exact⟨o',(hs.2 b (gy (kc (gi e) (I.ok.cab x c ae hc)))).trans e1⟩
  ·by_cases hj:j=i
   ·subst hj;rw[hi]at e1;cases e1;rw[pb ah]at e2;cases e2;exact⟨u,r,.inr ⟨.inl hk,c,hc,af⟩⟩
   ·rw[sn (kf hj)]at e2;obtain⟨u',r',q⟩:=hl j y v' e1 e2 e3;refine⟨u',r',?_⟩;rcases q with q|⟨k,c',e,z'⟩
    ·exact .inl q
    ·refine .inr ⟨k,c',e,z'.sameBut hs ?_⟩;rintro rfl;exact hj (DZ hN e1 (I.ok.inj _ _ _ e hc▸hi))
  ·by_cases hcc:c'=c
   ·subst hcc;exact⟨_,af⟩
   ·obtain⟨w2,z2⟩:=I.cell y c' e;exact⟨w2,z2.sameBut hs hcc⟩
  ·obtain⟨e,n,ne,nf,d⟩:=I.pin p hp;refine⟨(hs.2 p.1 ?_).trans e,n,ne,nf,d⟩;intro q;rw[q,ai]at e;have q':oc=p.2:=ji e;exact d w' (by rw[<- q'];exact aj)
theorem yW{M:Model}{A:iq}{E:bo->bq->Prop}{i:Nat}{x:Str}{v:V}{u:bo}{Q:Unit->bq->Prop}(I:Inv X ze σ H s)(hN:X.N.Nodup)(hi:X.N[i]?=some x)(hx:Loc X.env.scope x)(r:RelV v u)
  (h:∀s',Inv X ze (σ.set i (some v)) H s'->Q () s') (hf:X.fn x=true\/X.env.scope.names.lookup x=some .local:=by first|exact .inl rfl|exact .inr rfl|assumption):cp M A (storeName X.env x u) Q E s:=
 Fz I hN hi hx r (fun s' I' _=>h s' I') hf
theorem Inv.call'{s':bq}{ch:List Addr}(I:Inv X ze σ H s)(ho:s'.os=s.os)(u:Un (frs X.stack) ch H H' s.heap s'.heap)(hok:HOk X.prog X.w H' s'.heap)(hg:AllBare s'.gens)
  (hch:∀b∈ch,(b∈X.ex\/X.s₀.heap.objs.size<=b)/\b≠X.env.locals/\(∀x c,X.env.cells.lookup x=some c->c≠b)/\∀p∈X.pn++ze,p.1≠b):Inv X ze σ H' s':=by
 obtain⟨h',g',d',t',o'⟩:=s';have e:o'=s.os:=ho;subst e;exact I.call (g':=g') (t':=t') (d':=d') u hok hg hch
end
abbrev XK:=bo->Option Addr->Hp->Prop
abbrev St:=List (Option V)
abbrev VK:=V->Hp->Prop
abbrev TE:=St->Hp->VK->Prop
abbrev TT:=St->Hp->(Bool->Hp->Prop)->Prop
abbrev TA:=St->Hp->(List V->Hp->Prop)->Prop
structure Ends where
 nx:St->Hp->Prop
 rt:VK
 bk:St->Hp->Prop:=fun _ _=>False
 ct:St->Hp->Prop:=fun _ _=>False
abbrev TS:=Ends->St->Hp->Prop
def EP(X:Cx)(ze:List (Addr×Obj))(σ:St)(Q:VK)(u:bo)(s':bq):Prop:=∃v H',Inv X ze σ H' s'/\RelV v u/\Q v H'
def TP(X:Cx)(ze:List (Addr×Obj))(σ:St)(Q:Bool->Hp->Prop)(b:Bool)(s':bq):Prop:=∃H',Inv X ze σ H' s'/\Q b H'
def AP(X:Cx)(ze:List (Addr×Obj))(σ:St)(Q:List V->Hp->Prop)(us:List bo)(s':bq):Prop:=∃vs H',Inv X ze σ H' s'/\Vals vs us/\Q vs H'
def SP(X:Cx)(ze:List (Addr×Obj))(D:Ends)(f:Flow)(s':bq):Prop:=
 match f with
 | .next=>∃ σ' H',Inv X ze σ' H' s'/\D.nx σ' H'
 | .brk=>∃ σ' H',Inv X ze σ' H' s'/\D.bk σ' H'
 | .cont=>∃ σ' H',Inv X ze σ' H' s'/\D.ct σ' H'
 | .ret u=>∃v σ' H',Inv X ze σ' H' s'/\RelV v u/\D.rt v H'
def PE(X:Cx)(e:Expr)(t:TE):Prop:=
 ∀(ze:List (Addr×Obj)) (s:bq) (σ:St) (H:Hp) (Q:VK),Inv X ze σ H s->t σ H Q->cp (model X.prog X.w) X.A (eval e X.env) (EP X ze σ Q) X.xe s
def PT(X:Cx)(e:Expr)(t:TT):Prop:=
 ∀(ze:List (Addr×Obj)) (s:bq) (σ:St) (H:Hp) (Q:Bool->Hp->Prop),Inv X ze σ H s->t σ H Q->cp (model X.prog X.w) X.A (isTrue e X.env (eval e X.env)) (TP X ze σ Q) X.xe s
def PW(X:Cx)(e:Expr)(t:TT):Prop:=
 ∀(whole:Sem bo) (ze:List (Addr×Obj)) (s:bq) (σ:St) (H:Hp) (Q:Bool->Hp->Prop),Inv X ze σ H s->t σ H Q->cp (model X.prog X.w) X.A (isTrue e X.env whole) (TP X ze σ Q) X.xe s
theorem PW.pt{X:Cx}{e:Expr}{t:TT}(h:PW X e t):PT X e t:=h _
def PA(X:Cx)(es:List Expr)(t:TA):Prop:=
 ∀(pos:Pos) (ze:List (Addr×Obj)) (s:bq) (σ:St) (H:Hp) (Q:List V->Hp->Prop),Inv X ze σ H s->t σ H Q->cp (model X.prog X.w) X.A (spliced (rb pos (fx es X.env))) (AP X ze σ Q) X.xe s
def PS(X:Cx)(st:Stmt)(t:TS):Prop:=
 ∀(ze:List (Addr×Obj)) (s:bq) (σ:St) (H:Hp) (D:Ends),Inv X ze σ H s->t D σ H->cp (model X.prog X.w) X.A (exec st X.env) (SP X ze D) X.xe s
def PSs(X:Cx)(st:List Stmt)(t:TS):Prop:=
 ∀(ze:List (Addr×Obj)) (s:bq) (σ:St) (H:Hp) (D:Ends),Inv X ze σ H s->t D σ H->cp (model X.prog X.w) X.A (execs st X.env) (SP X ze D) X.xe s
theorem thn{α:Type}{t:Sem α}{Q Q':α->bq->Prop}{M:Model}{A:iq}{E:bo->bq->Prop}{s:bq}(h:cp M A t Q E s)(hQ:∀a s,Q a s->Q' a s):cp M A t Q' E s:=qe h hQ fun _ _ x=>x
end
section
section
variable {X:Cx}
def gU(i:Nat):TE:=fun σ H Q=>∃v,σ[i]?=some (some v)/\Q v H
def tC(v:V):TE:=fun _ H Q=>Q v H
theorem JH{i:Nat}{x:Str}{pos:Pos}(hN:X.N[i]?=some x)(hv:Vis X.env.scope x)(hd:(x==("__debug__":Str))=false:=by decide)(q:(x==("__classdict__":Str))=false:=by decide):PE X (.Name x pos) (gU i):=by
 intro ze s σ H Q I h;obtain⟨v,e,h⟩:=h;obtain⟨m,hn,hl⟩:=I.loc;obtain⟨u,r,l⟩:=hl i x v hN e hv;have fin:EP X ze σ Q u s:=⟨v,H,I,r,h⟩;rcases l with ⟨hk,hm⟩|⟨hk,c,hc,hcell⟩
 ·exact wpAny_Name (wpAny_loadName_local I.ok.kind hk hn hm fin) hd
 ·rcases hk with hk|hk
  ·exact wpAny_Name (wpAny_loadName_cell I.ok.kind hk hc hcell fin) hd
  ·exact wpAny_Name (wpAny_loadName_free I.ok.kind hk hc hcell fin q) hd
theorem zk{i j pos}:PE X (.Constant (.int i) j pos) (tC (.int i)):=fun _ _ _ H _ I h=>wpAny_Constant_int ⟨.int i,H,I.tok _,⟨_,rfl⟩,h⟩
theorem bC{b j pos}:PE X (.Constant (.bool b) j pos) (tC (.bl b)):=fun _ _ _ H _ I h=>Constant_bool ⟨.bl b,H,I,rfl,h⟩
theorem BM{j pos}:PE X (.Constant .none j pos) (tC .non):=fun _ _ _ H _ I h=>Constant_none ⟨.non,H,I,rfl,h⟩
def Gl(X:Cx)(x:Str):Prop:=X.env.kindOf x=some .globalImplicit
theorem LZ{E:bo->bq->Prop}{ze:List (Addr×Obj)}{s:bq}{σ:St}{H:Hp}{x:Str}{u:bo}{pos:Pos}{Q:bo->bq->Prop}(I:Inv X ze σ H s)(hg:Gl X x)(hm:X.mg x=some u)(h:Q u s)
  (hd:(x==("__debug__":Str))=false:=by decide):cp (model X.prog X.w) X.A (eval (.Name x pos) X.env) Q E s:=
 Calls.Name_function_global I.ok.kind hg (Calls.loadGlobal_global (by rw[I.ok.glob];exact I.mod.glob.keeps I.bk) hm h) hd
theorem eJ{E:bo->bq->Prop}{ze:List (Addr×Obj)}{s:bq}{σ:St}{H:Hp}{x:Str}{u:bo}{pos:Pos}{Q:bo->bq->Prop}(I:Inv X ze σ H s)(hg:Gl X x)(hm:X.mg x=none)(hv:jq x=some u)(h:Q u s)
  (hn:x ≠ "__name__":=by decide) (hd:(x==("__debug__":Str))=false:=by decide):cp (model X.prog X.w) X.A (eval (.Name x pos) X.env) Q E s:=by
 obtain⟨mb,h1,h2⟩:=I.mod.blt;exact Calls.Name_function_global I.ok.kind hg (Calls.loadGlobal_builtin (by rw[I.ok.glob];exact I.mod.glob.keeps I.bk) hm (by rw[I.ok.blt];exact h1.keeps I.bk) ((h2 x hn).trans hv) h) hd
theorem gP{x:Str}{v:V}{u:bo}{pos:Pos}(hg:Gl X x)(hm:X.mg x=none)(hv:jq x=some u)(r:RelV v u)(hn:x ≠ "__name__":=by decide)(hd:(x==("__debug__":Str))=false:=by decide):PE X (.Name x pos) (tC v):=
 fun _ _ _ H _ I h=>eJ I hg hm hv ⟨v,H,I,r,h⟩ hn hd
variable {a b:Expr}{ta tb:TE}{pos:Pos}
variable {tA tB':TT}{rest:List Expr}
def C7(t u:TT):TT:=fun σ H Q=>t σ H fun c H1=>if c=true then u σ H1 Q else Q false H1
def tOr(t u:TT):TT:=fun σ H Q=>t σ H fun c H1=>if c=true then Q true H1 else u σ H1 Q
def B2(t:TT):TT:=fun σ H Q=>t σ H fun c H1=>Q (!c) H1
theorem uG(ha:PT X a tA):PW X (.BoolOp .And [a] pos) tA:=by
 intro wh ze s σ H Q I h;refine isTrue_and (thn (ha ze s σ H Q I h) fun c s1 e=>?_);cases c with
 |true=>exact isTrue_and_nil e
 |false=>exact e
theorem dF(ha:PT X a tA):PW X (.BoolOp .Or [a] pos) tA:=by
 intro wh ze s σ H Q I h;refine isTrue_or (thn (ha ze s σ H Q I h) fun c s1 e=>?_);cases c with
 |false=>exact isTrue_or_nil e
 |true=>exact e
theorem uX(ha:PT X a tA)(hb:PW X (.BoolOp .And (b::rest) pos) tB'):PW X (.BoolOp .And (a::b::rest) pos) (C7 tA tB'):=by
 intro wh ze s σ H Q I h;refine isTrue_and (thn (ha ze s σ H _ I h) fun c s1 ⟨H1,I1,q1⟩=>?_);cases c with
 |true=>exact hb wh ze s1 σ H1 Q I1 q1
 |false=>exact⟨H1,I1,q1⟩
theorem cR(ha:PT X a tA)(hb:PW X (.BoolOp .Or (b::rest) pos) tB'):PW X (.BoolOp .Or (a::b::rest) pos) (tOr tA tB'):=by
 intro wh ze s σ H Q I h;refine isTrue_or (thn (ha ze s σ H _ I h) fun c s1 ⟨H1,I1,q1⟩=>?_);cases c with
 |true=>exact⟨H1,I1,q1⟩
 |false=>exact hb wh ze s1 σ H1 Q I1 q1
theorem bS(ha:PT X a tA):PT X (.UnaryOp .Not a pos) (B2 tA):=by
 intro ze s σ H Q I h;exact isTrue_not (ha ze s σ H (fun c H1=>Q (!c) H1) I h)
def CA(ta tb:TE):TE:=fun σ H Q=>ta σ H fun x H1=>∃c,x=.bl c/\if c=true then tb σ H1 Q else Q (.bl false) H1
def BD(ta tb:TE):TE:=fun σ H Q=>ta σ H fun x H1=>∃c,x=.bl c/\if c=true then Q (.bl true) H1 else tb σ H1 Q
def ES(ta:TE):TE:=fun σ H Q=>ta σ H fun x H1=>∃c,x=.bl c/\Q (.bl (!c)) H1
theorem jI{op}{t:TE}(h:PE X a t):PE X (.BoolOp op [a] pos) t:=fun ze s σ H Q I hw=>BoolOp_one (h ze s σ H Q I hw)
theorem mI(ha:PE X a ta)(hb:PE X (.BoolOp .And (b::rest) pos) tb):PE X (.BoolOp .And (a::b::rest) pos) (CA ta tb):=by
 intro ze s σ H Q I h;refine BoolOp_and (thn (ha ze s σ H _ I h) fun v s1 ⟨x,H1,I1,r1,q1⟩=>?_);obtain⟨c,rfl,q1⟩:=q1;cases r1;refine pc ?_;cases c with
 |true=>exact hb ze s1 σ H1 Q I1 q1
 |false=>exact⟨.bl false,H1,I1,rfl,q1⟩
theorem Av(ha:PE X a ta)(hb:PE X (.BoolOp .Or (b::rest) pos) tb):PE X (.BoolOp .Or (a::b::rest) pos) (BD ta tb):=by
 intro ze s σ H Q I h;refine BoolOp_or (thn (ha ze s σ H _ I h) fun v s1 ⟨x,H1,I1,r1,q1⟩=>?_);obtain⟨c,rfl,q1⟩:=q1;cases r1;refine pc ?_;cases c with
 |false=>exact hb ze s1 σ H1 Q I1 q1
 |true=>exact⟨.bl true,H1,I1,rfl,q1⟩
theorem wT(ha:PE X a ta):PE X (.UnaryOp .Not a pos) (ES ta):=by
 intro ze s σ H Q I h;refine UnaryOp_ (thn (ha ze s σ H _ I h) fun v s1 ⟨x,H1,I1,r1,q1⟩=>?_);obtain⟨c,rfl,q1⟩:=q1;cases r1;exact not_of (pc ⟨.bl (!c),H1,I1,rfl,q1⟩)
end
end
section
def SqL(K:fe)(H:Hp)(a:Addr)(xs:List V):Prop:=
 Rd H a (.lst xs) \/
  ∃(o:Obj) (its:Array bo) (n:Nat),K.lookup a=some o/\o.cls=.type "list"/\o.dict=none/\o.data=.seq its n/\its.size<=fk/\Vals xs its.toList
def SqT(K:fe)(H:Hp)(a:Addr)(xs:List V):Prop:=
 Rd H a (.tup xs) \/
  ∃(o:Obj) (its:Array bo) (n:Nat),K.lookup a=some o/\o.cls=.type "tuple"/\o.data=.seq its n/\its.size<=fk/\Vals xs its.toList
def HY:bo->Option V
 | .none=>some .non
 | .bool b=>some (.bl b)
 | .int i _=>some (.int i)
 | .str x _=>some (.str x)
 | .bytes b _=>some (.byt b)
 | .float b _=>some (.flt b)
 | .ref a=>some (.ref a)
 | .type n=>some (.ty n)
 |_=>none
theorem RelV.abs{x:V}{u:bo}(r:RelV x u):HY u=some x:=by
 cases x with
 |non=>cases r;rfl
 |bl _=>cases r;rfl
 |int _=>obtain⟨t,rfl⟩:=r;rfl
 |str _=>obtain⟨t,rfl⟩:=r;rfl
 |byt _=>obtain⟨t,rfl⟩:=r;rfl
 |flt _=>obtain⟨t,rfl⟩:=r;rfl
 |ref _=>cases r;rfl
 |ty _=>cases r;rfl
theorem RelV.inj{x y:V}{u:bo}(r:RelV x u)(q:RelV y u):x=y:=ji (r.abs.symm.trans q.abs)
theorem Vals.inj:∀{xs ys:List V}{us:List bo},Vals xs us->Vals ys us->xs=ys
 |_,_,_,.nil,.nil=>rfl
 |_,_,_,.cons r t,.cons r' t'=>by rw[r.inj r',Vals.inj t t']
section
variable {X:Cx}{ze:List (Addr×Obj)}{σ:St}{H:Hp}{s:bq}{a:Addr}{xs ys:List V}
theorem SqL.of{K:fe}(h:H a=some (.lst xs)):SqL K H a xs:=.inl (.inl h)
theorem SqT.of{K:fe}(h:H a=some (.tup xs)):SqT K H a xs:=.inl (.inl h)
theorem Inv.list(I:Inv X ze σ H s)(h:SqL X.K H a xs):∃q:List bo,Vals xs q/\PlainL s.heap a q.toArray/\xs.length<=fk:=by
 rcases h with h|⟨o,q,n,hk,hc,hd,hs,hz,r⟩
 ·obtain⟨z,q,n,r,e⟩:=h.ok I.hok;exact⟨q,r,⟨_,n,e,rfl,rfl,rfl⟩,z⟩
 ·refine⟨q.toList,r,⟨o,n,I.kIn a o hk,hc,hd,by simpa using hs⟩,?_⟩;have e:=r.length;simp only[gh]at e;omega
theorem Inv.tuple(I:Inv X ze σ H s)(h:SqT X.K H a xs):∃q:List bo,Vals xs q/\IsTup s.heap a q.toArray/\xs.length<=fk:=by
 rcases h with h|⟨o,q,n,hk,hc,hs,hz,r⟩
 ·obtain⟨z,q,r,p⟩:=h.ok I.hok;exact⟨q,r,p,z.1⟩
 ·refine⟨q.toList,r,⟨o,I.kIn a o hk,hc,n,by simpa using hs⟩,?_⟩;have e:=r.length;simp only[gh]at e;omega
theorem Inv.list_inj(I:Inv X ze σ H s)(h:SqL X.K H a xs)(h':SqL X.K H a ys):xs=ys:=by
 obtain⟨q,r,⟨o,n,e,_,_,d⟩,_⟩:=I.list h;obtain⟨its',r',⟨o',n',e',_,_,d'⟩,_⟩:=I.list h';rw[e]at e';cases e';rw[d]at d';injection d' with d1 _
 have:q=its':=by simpa using congrArg Array.toList d1
 subst this;exact r.inj r'
theorem Inv.tuple_inj(I:Inv X ze σ H s)(h:SqT X.K H a xs)(h':SqT X.K H a ys):xs=ys:=by
 obtain⟨q,r,⟨o,e,_,n,d⟩,_⟩:=I.tuple h;obtain⟨its',r',⟨o',e',_,n',d'⟩,_⟩:=I.tuple h';rw[e]at e';cases e';rw[d]at d';injection d' with d1 _
 have:q=its':=by simpa using congrArg Array.toList d1
 subst this;exact r.inj r'
end
abbrev Cx.wish (X:Cx) (E:bo->bq->Prop):Cx:={ X with xe:=E }
abbrev Cx.nox (X:Cx):Cx:=X.wish fun _ _=>False
theorem Cx.Ok.wish{X:Cx}(ok:X.Ok)(E:bo->bq->Prop):(X.wish E).Ok:=
 ⟨ok.mod,ok.kind,ok.glob,ok.blt,ok.above,ok.inj,ok.has,ok.cab,ok.hd,ok.frames,ok.stk,ok.exf,ok.bs,ok.bsz,ok.noex,ok.exfs,ok.funs,ok.frf⟩
theorem Cx.Ok.unwish{X:Cx}{E:bo->bq->Prop}(ok:(X.wish E).Ok):X.Ok:=
 ⟨ok.mod,ok.kind,ok.glob,ok.blt,ok.above,ok.inj,ok.has,ok.cab,ok.hd,ok.frames,ok.stk,ok.exf,ok.bs,ok.bsz,ok.noex,ok.exfs,ok.funs,ok.frf⟩
section
variable {X:Cx}{ze:List (Addr×Obj)}{σ:St}{H:Hp}{s:bq}{E:bo->bq->Prop}
theorem Inv.wish(I:Inv X ze σ H s)(E:bo->bq->Prop):Inv (X.wish E) ze σ H s:=⟨I.ok.wish E,I.os,I.bare,I.base,I.loc,I.cell,I.free,I.freeC,I.pin,I.hok,I.len⟩
theorem Inv.unwish(I:Inv (X.wish E) ze σ H s):Inv X ze σ H s:=⟨I.ok.unwish,I.os,I.bare,I.base,I.loc,I.cell,I.free,I.freeC,I.pin,I.hok,I.len⟩
theorem SP.unwish{D:Ends}{f:Flow}{s':bq}(h:SP (X.wish E) ze D f s'):SP X ze D f s':=by
 cases f with
 |next=>obtain⟨σ',H',I,q⟩:=h;exact⟨σ',H',I.unwish,q⟩
 |brk=>obtain⟨σ',H',I,q⟩:=h;exact⟨σ',H',I.unwish,q⟩
 |cont=>obtain⟨σ',H',I,q⟩:=h;exact⟨σ',H',I.unwish,q⟩
 |ret u=>obtain⟨v,σ',H',I,r,q⟩:=h;exact⟨v,σ',H',I.unwish,r,q⟩
theorem PSs.nox{st:List Stmt}{t:TS}(h:PSs X.nox st t):PSs X st t:=fun ze s σ H D I hw=>
 qe (h ze s σ H D (I.wish _) hw) (fun _ _ q=>q.unwish) fun _ _ z=>rk z
end
section
variable {X:Cx}{st:Stmt}{rest:List Stmt}{t u:TS}{e:Expr}{te:TE}{pos:Pos}
def vJ:TS:=fun D σ H=>D.nx σ H
def cV(t u:TS):TS:=fun D σ H=>t { D with nx:=u D } σ H
theorem zP:PSs X [] vJ:=fun _ _ σ H _ I h=>wpAny_execs_nil ⟨σ,H,I,h⟩
theorem zi(h1:PS X st t)(h2:PSs X rest u):PSs X (st::rest) (cV t u):=by
 intro ze s σ H D I h;refine wpAny_execs_cons (thn (h1 ze s σ H { D with nx:=u D } I h) fun f s1 q=>?_);cases f with
 |next=>
  obtain⟨σ',H',I',q⟩:=q;exact h2 ze s1 σ' H' D I' q
 |ret v=>exact q
 |brk=>exact q
 |cont=>exact q
theorem zn(h1:PS X st t):PSs X [st] t:=by
 intro ze s σ H D I h;refine wpAny_execs_cons (thn (h1 ze s σ H D I h) fun f s1 q=>?_);cases f with
 |next=>exact wpAny_execs_nil q
 |ret v=>exact q
 |brk=>exact q
 |cont=>exact q
def Ei:TS:=fun D σ H=>D.ct σ H
theorem MC:PS X (.Continue pos) Ei:=fun _ _ σ H _ I h=>wpAny_Continue ⟨σ,H,I,h⟩
theorem Inv.quiet{ze:List (Addr×Obj)}{σ:St}{H:Hp}{s:bq}(I:Inv X ze σ H s):interactive X.env=false:=by simp[interactive,I.ok.kind]
def uZ(te:TE):TS:=fun D σ H=>te σ H fun _ H1=>D.nx σ H1
theorem i6(he:PE X e te)(hs:swapsWith e none pos.line X.env=pure false:=by rfl):PS X (.Expr e pos) (uZ te):=by
 intro ze s σ H D I h;exact wpAny_Expr_any (thn (he ze s σ H _ I h) fun v s1 ⟨x,H1,I1,r1,q1⟩=>⟨σ,H1,I1,q1⟩) I.quiet hs
def A0(te:TE):TS:=fun D σ H=>te σ H D.rt
theorem zy(he:PE X e te):PS X (.Return (some e) pos) (A0 te):=by
 intro ze s σ H D I h;exact wpAny_Return_some (thn (he ze s σ H _ I h) fun v s1 ⟨x,H1,I1,r1,q1⟩=>⟨x,σ,H1,I1,r1,q1⟩)
def pX(c:TT)(t u:TS):TS:=fun D σ H=>c σ H fun b H1=>if b=true then t D σ H1 else u D σ H1
theorem aT{c:Expr}{a b:List Stmt}{tc:TT}(hc:PT X c tc)(ha:PSs X a t)(hb:PSs X b u):PS X (.If c a b pos) (pX tc t u):=by
 intro ze s σ H D I h;refine wpAny_If (thn (hc ze s σ H _ I h) fun d s1 ⟨H1,I1,q1⟩=>?_);cases d with
 |true=>exact ha ze s1 σ H1 D I1 q1
 |false=>exact hb ze s1 σ H1 D I1 q1
end
abbrev TG:=V->St->Hp->(St->Hp->Prop)->Prop
abbrev TGs:=List V->St->Hp->(St->Hp->Prop)->Prop
def PG(X:Cx)(q:Expr)(t:TG):Prop:=
 ∀(ze:List (Addr×Obj)) (s:bq) (σ:St) (H:Hp) (v:V) (u:bo) (Q:St->Hp->Prop),Inv X ze σ H s->RelV v u->t v σ H Q ->
  cp (model X.prog X.w) X.A (assign q X.env u) (fun _ s'=>∃ σ' H',Inv X ze σ' H' s'/\Q σ' H') X.xe s
def PGs(X:Cx)(ts:List Expr)(t:TGs):Prop:=
 ∀(ze:List (Addr×Obj)) (s:bq) (σ:St) (H:Hp) (vs:List V) (us:List bo) (Q:St->Hp->Prop),Inv X ze σ H s->Vals vs us->t vs σ H Q ->
  cp (model X.prog X.w) X.A (assignInOrder ((rc ts X.env).map (·.2)) us) (fun _ s'=>∃ σ' H',Inv X ze σ' H' s'/\Q σ' H') X.xe s
abbrev TSet:=V->V->V->Hp->(Hp->Prop)->Prop
def PSet(X:Cx)(t:TSet):Prop:=
 ∀(ze:List (Addr×Obj)) (s:bq) (σ:St) (H:Hp) (o i v:V) (ov iv u:bo) (Q:Hp->Prop),Inv X ze σ H s->RelV o ov->RelV i iv->RelV v u->t o i v H Q ->
  cp (model X.prog X.w) X.A (setItem ov iv u) (fun _ s'=>∃H',Inv X ze σ H' s'/\Q H') X.xe s
section
variable {X:Cx}{pos:Pos}
def k9(i:Nat):TG:=fun v σ H Q=>Q (σ.set i (some v)) H
theorem zp{i:Nat}{x:Str}(hN:X.N.Nodup)(hi:X.N[i]?=some x)(hx:Loc X.env.scope x)(hf:X.fn x=true\/X.env.scope.names.lookup x=some .local:=by first|exact .inl rfl|exact .inr rfl|assumption):PG X (.Name x pos) (k9 i):=by
 intro ze s σ H v u Q I r h;exact wpAny_assign_Name (yW I hN hi hx r (fun s' I'=>⟨_,H,I',h⟩) hf)
def BP:TGs:=fun vs σ H Q=>vs=[]/\Q σ H
def EV(t:TG)(u:TGs):TGs:=fun vs σ H Q=>∃v r,vs=v::r/\t v σ H fun σ' H'=>u r σ' H' Q
theorem cF:PGs X [] BP:=by
 intro ze s σ H vs us Q I r h;obtain⟨e,h⟩:=h;subst e;cases r;exact assignInOrder_nil ⟨σ,H,I,h⟩
theorem zv{e:Expr}{es:List Expr}{t:TG}{u:TGs}(h1:PG X e t)(h2:PGs X es u)
  (hs:(rc (e::es) X.env).map (·.2)=assign e X.env::(rc es X.env).map (·.2):=by rfl):PGs X (e::es) (EV t u):=by
 intro ze s σ H vs us Q I r h;obtain⟨v,vr,e1,h⟩:=h;subst e1;cases r with
 |cons r rr=>
  rw[hs];refine assignInOrder_cons (thn (h1 ze s σ H _ _ _ I r h) fun _ s1 ⟨σ1,H1,I1,q1⟩=>?_);exact h2 ze s1 σ1 H1 _ _ Q I1 rr q1
def E1(K:fe)(n:Nat)(t:TGs):TG:=fun v σ H Q=>∃a xs,v=.ref a/\SqT K H a xs/\xs.length=n/\t xs σ H Q
theorem cT{es:List Expr}{k:Nat}{t:TGs}{n:Nat}(hc:X.calm=true)(h:PGs X es t)
  (hn:(rc es X.env).length=n:=by rfl) (hst:(rc es X.env).findIdx? (·.1)=none:=by rfl):PG X (.Tuple es k pos) (E1 X.K n t):=by
 intro ze s σ H v u Q I r hw;obtain⟨a,xs,e1,hq,hl,hw⟩:=hw;subst e1;cases r;obtain⟨q,rv,ht,hz⟩:=I.tuple hq;refine assign_Tuple_tuple (I.ok.hd hc) ht (by simp[hn,<- hl,rv.length]) hst fun h' hx=>?_;have I1:Inv X ze σ H { s with heap:=h' }:=I.kept (t':=s.toks) fun b o e=>hx b o (gy (gi e)) e;exact h ze _ σ H xs _ Q I1 (by simpa using rv) hw
def FL(to ti:TE)(t:TSet):TG:=fun v σ H Q=>to σ H fun o H1=>ti σ H1 fun i H2=>t o i v H2 fun H3=>Q σ H3
theorem Ai{o i:Expr}{to ti:TE}{t:TSet}(ho:PE X o to)(hi:PE X i ti)(hs:PSet X t)
  (ha:∀v,assign (.Subscript o i pos) X.env v=(do
   let ov <- holding [v] (eval o X.env)
   let iv <- holding [v,ov] (eval i X.env)
   standAt pos
   holding [v,ov,iv] (setItem ov iv v)
   release [v,ov,iv] []):=by intro _;rfl):PG X (.Subscript o i pos) (FL to ti t):=by
 intro ze s σ H v u Q I r h;rw[ha];refine bn (jd (thn (ho ze s σ H _ I h) fun ov s1 ⟨x,H1,I1,r1,q1⟩=>?_));refine bn (jd (thn (hi ze s1 σ H1 _ I1 q1) fun iv s2 ⟨y,H2,I2,r2,q2⟩=>?_));refine bn (wpAny_standAt (bn (jd (thn (hs ze s2 σ H2 x y v ov iv u _ I2 r1 r2 r q2) fun _ s3 ⟨H3,I3,q3⟩=>?_))));exact wpAny_release ⟨σ,H3,I3,q3⟩
def qI(te:TE)(g:TG):TS:=fun D σ H=>te σ H fun x H1=>g x σ H1 D.nx
theorem qL{tg e:Expr}{te:TE}{g:TG}(he:PE X e te)(hg:PG X tg g)(hs:swapsWithSole [tg] e pos.line X.env=pure false:=by rfl)(hw:swappedStores [tg] e X.env=pure none:=by rfl)
  (h1:(rc [tg] X.env).map (·.2)=[assign tg X.env]:=by rfl):PS X (.Assign [tg] e pos) (qI te g):=by
 intro ze s σ H D I h;refine wpAny_Assign_stores (thn (he ze s σ H _ I h) fun v s1 ⟨x,H1,I1,r1,q1⟩=>?_) hs hw;rw[h1];exact thn (hg ze s1 σ H1 x v _ I1 r1 q1) fun _ s2 q=>q
theorem zV{i:Nat}{x:Str}{e:Expr}{te:TE}{pos':Pos}(hN:X.N.Nodup)(hi:X.N[i]?=some x)(hx:Loc X.env.scope x)(he:PE X e te)(hs:swapsWith e (some (.Name x pos')) pos.line X.env=pure false:=by rfl)(hf:X.fn x=true\/X.env.scope.names.lookup x=some .local:=by first|exact .inl rfl|exact .inr rfl|assumption):
  PS X (.Assign [.Name x pos'] e pos) (qI te (k9 i)):=by
 intro ze s σ H D I h;refine wpAny_Assign_Name (thn (he ze s σ H _ I h) fun v s1 ⟨y,H1,I1,r1,q1⟩=>?_) hs;exact yW I1 hN hi hx r1 (fun s2 I2=>⟨_,H1,I2,q1⟩) hf
end
section
variable {X:Cx}{pos:Pos}
def CO(c:TT)(tb:TS):TS:=fun D σ H=>∃W:Nat->St->Hp->Prop,(∃m,W m σ H)/\∀m σ H,W m σ H ->
 c σ H fun b H1=>if b=true then ∃N:St->Hp->Prop,(∀ σ' H',N σ' H'->∃m',m'<m/\W m' σ' H')/\tb { D with nx:=N,ct:=N,bk:=D.nx } σ H1 else D.nx σ H1
theorem HZ{c:Expr}{q:List Stmt}{tc:TT}{tb:TS}(hp:PassesOwn (model X.prog X.w) X.A X.env X.xe)(hc:PT X c tc)(hb:PSs X q tb):PS X (.While c q [] pos) (CO tc tb):=by
 intro ze s σ H D I h;obtain⟨W,⟨m0,w0⟩,z⟩:=h;refine wpAny_While (codeAny_whileLoop (fun n s'=>∃ σ' H',Inv X ze σ' H' s'/\W n σ' H') ?_ m0 ⟨σ,H,I,w0⟩);rintro n s1 ⟨σ1,H1,I1,w1⟩;refine qr hp (thn (hc ze s1 σ1 H1 _ I1 (z n σ1 H1 w1)) fun b s2 ⟨H2,I2,q2⟩=>?_);cases b with
 |true=>
  obtain⟨N,hN,q2⟩:=q2;rw[cn rfl];refine qr hp (thn (hb ze s2 σ1 H2 _ I2 q2) fun f s3 q3=>?_);cases f with
  |next=>
   obtain⟨σ3,H3,I3,n3⟩:=q3;obtain⟨m',hm,w3⟩:=hN σ3 H3 n3;exact⟨m',hm,σ3,H3,I3,w3⟩
  |cont=>
   obtain⟨σ3,H3,I3,n3⟩:=q3;obtain⟨m',hm,w3⟩:=hN σ3 H3 n3;exact⟨m',hm,σ3,H3,I3,w3⟩
  |brk=>exact q3
  |ret v=>exact q3
 |false=>
  rw[cm jg];exact wpAny_execs_nil ⟨σ1,H2,I2,q2⟩
end
structure It where
 go:Nat->Hp->Prop
 yld:Nat->Hp->V->Hp->Prop
 stop:Nat->Hp->Prop
def FpOk(X:Cx)(ze:List (Addr×Obj))(H:Hp)(b:Addr):Prop:=
 H b=none/\b≠X.env.locals/\b∉X.fs/\(b∈X.ex\/X.s₀.heap.objs.size<=b)/\(∀x c,X.env.cells.lookup x=some c->c≠b)/\∀p∈X.pn++ze,p.1≠b
theorem Inv.fpOk{X:Cx}{ze:List (Addr×Obj)}{σ:St}{H H':Hp}{s:bq}{b:Addr}(I:Inv X ze σ H s)(hb:s.heap.objs.size<=b)(hn:H' b=none):FpOk X ze H' b:=by
 refine⟨hn,vf (kc I.lt hb),I.nofs hb,.inr (lw I.sz hb),fun x c e z=>?_,fun p hp z=>?_⟩
 ·obtain⟨v,q⟩:=I.cell x c e;exact absurd (kc q.lt (by rw[z];exact hb)) (sy _)
 ·exact absurd (kc (gi (I.pin p hp).1) (by rw[z];exact hb)) (sy _)
structure Turn(P:gf)(w:iu)(K:fe)(tg:Expr)(J:It)(fp:List Addr)(it:Addr)(tn:Nat->Heap->Prop):Prop where
 mem:it∈fp
 obj:∀i h,tn i h->∀b∈fp,∃o,h.get? b=some o/\∀v,o.data≠.cell v
 keep:∀i h h',tn i h->(∀b∈fp,∀o,h.get? b=some o->h'.get? b=some o)->tn i h'
 item:∀(X:Cx),X.prog=P->X.w=w->X.K=K->X.calm=true->∀(i:Nat) (ze:List (Addr×Obj)) (s:bq) (σ:St) (H:Hp) (E:bo->bq->Prop),Inv X ze σ H s->(∀b∈fp,FpOk X ze H b)->tn i s.heap->J.go i H ->
  cp (model P w) X.A (nq (.ref it)) (fun r s1=>∃u,r=some u /\
   cp (model P w) X.A (letOwnedTupleGo tg (.ref it) u) (fun _ s2=>∃x H',Inv X ze σ H' s2/\RelV x u/\J.yld i H x H'/\tn (i+1) s2.heap/\∀b∈fp,H' b=none) E s1) E s
 done:∀(X:Cx),X.prog=P->X.w=w->X.K=K->X.calm=true->∀(i:Nat) (ze:List (Addr×Obj)) (s:bq) (σ:St) (H:Hp) (E:bo->bq->Prop),Inv X ze σ H s->(∀b∈fp,FpOk X ze H b)->tn i s.heap->J.stop i H ->
  cp (model P w) X.A (nq (.ref it)) (fun r s1=>r=none/\Inv X ze σ H s1) E s
 self:∀(A:iq) (i:Nat) (s:bq) (Q:bo->bq->Prop) (E:bo->bq->Prop),tn i s.heap->Q (.ref it) s->cp (model P w) A (pyIter (.ref it)) Q E s
abbrev TI:=St->Hp->(It->Hp->Prop)->Prop
def PIE(X:Cx)(ze:List (Addr×Obj))(σ:St)(tg:Expr)(R:It->Hp->Prop)(q:bo)(s2:bq):Prop:=
 ∃(it:Addr) (fp:List Addr) (tn:Nat->Heap->Prop) (J:It) (H':Hp),q=.ref it/\Inv X ze σ H' s2/\Turn X.prog X.w X.K tg J fp it tn/\tn 0 s2.heap/\(∀b∈fp,FpOk X ze H' b)/\R J H'
def PI(X:Cx)(tg iter:Expr)(wi:TI):Prop:=
 ∀(ze:List (Addr×Obj)) (s:bq) (σ:St) (H:Hp) (R:It->Hp->Prop),Inv X ze σ H s->wi σ H R ->
  cp (model X.prog X.w) X.A (eval iter X.env) (fun v s1=>cp (model X.prog X.w) X.A (pyIter v) (PIE X ze σ tg R) X.xe s1) X.xe s
theorem tG{M:Model}{A:iq}{E:bo->bq->Prop}{s:bq}{tg:Expr}{it:Addr}{u:bo}{o:Obj}{n:String}{vs:Array bo}{Q:Unit->bq->Prop}(ho:s.heap.get? it=some o)(hc:o.cls=.type n)(hd:o.data=.fields vs)
    (hn:["enumerate","zip","dict_itemiterator","dict_reverseitemiterator","odict_iterator","itertools.zip_longest","itertools.pairwise"].contains n=false) (hQ:Q () s):cp M A (letOwnedTupleGo tg (.ref it) u) Q E s:=by
  unfold letOwnedTupleGo;cases tg<;>first
    |exact bp hQ
    | (cases u<;>first
        |exact bp hQ
        | (refine bn (wpAny_load ho ?_)
           rw[hc,hd];show cp M A (if (["enumerate","zip","dict_itemiterator","dict_reverseitemiterator","odict_iterator","itertools.zip_longest","itertools.pairwise"].contains n&&vs[0]?==some (nr _))=true then _ else _) Q E s;rw[cm (by intro h;rw[hn,qf]at h;cases h)];exact bp hQ))
def Itl(K:fe)(a:Addr):It:=
 ⟨fun i H=>∃xs x,SqL K H a xs/\xs[i]?=some x,fun i H x H'=>H'=H/\∀xs,SqL K H a xs->xs[i]?=some x,fun i H=>∃xs,SqL K H a xs/\xs.length<=i⟩
def Itt(K:fe)(a:Addr):It:=
 ⟨fun i H=>∃xs x,SqT K H a xs/\xs[i]?=some x,fun i H x H'=>H'=H/\∀xs,SqT K H a xs->xs[i]?=some x,fun i H=>∃xs,SqT K H a xs/\xs.length<=i⟩
def Itr(lo:Int)(n:Nat):It:=⟨fun i _=>i<n,fun i H x H'=>H'=H/\x=.int (lo+i),fun i _=>n<=i⟩
theorem BV{P:gf}{w:iu}{K:fe}{tg:Expr}(a it:Addr):Turn P w K tg (Itl K a) [it] it (fun i h=>h.IsListIter it a i) where
 mem:=by simp
 obj:=fun i h st b hb=>by
  have e:b=it:=by simpa using hb
  subst e;obtain⟨o,e,c,d⟩:=st;exact⟨o,e,fun v z=>by rw[d]at z;cases z⟩
 keep:=fun i h h' st k=>st.at fun o e=>k it yv o e
 item:=by
  intro X hP hw hK hc i ze s σ H E I hf st hg;subst hP hw hK;obtain⟨xs,x,hq,hx⟩:=hg;obtain⟨q,rv,p,hz⟩:=I.list hq;obtain⟨u,hu,ru⟩:=rv.get hx;obtain⟨f0,f1,f2,f3,f4,f5⟩:=hf it yv;refine wpAny_pyNext_list_item st p.isList (x:=u) (by simpa using hu) fun h' st' sb=>?_;have I1:Inv X ze σ H { s with heap:=h' }:=I.turned (t':=s.toks) (fun b o hb e=>(sb.2 b hb).trans e) f0 f1 f3 f4 f5;obtain⟨o,e,c,d⟩:=id st';exact⟨u,rfl,tG (s:={ s with heap:=h' }) e c d dz ⟨x,H,I1,ru,⟨rfl,fun ys hy=>by rw[I.list_inj hy hq];exact hx⟩,st',fun b hb=>(hf b hb).1⟩⟩
 done:=by
  intro X hP hw hK hc i ze s σ H E I hf st hg;subst hP hw hK;obtain⟨xs,hq,hx⟩:=hg;obtain⟨q,rv,p,hz⟩:=I.list hq;obtain⟨f0,f1,f2,f3,f4,f5⟩:=hf it yv;have hl:=rv.length;exact wpAny_pyNext_list_end (I.ok.hd hc) st p.isList (by simp;omega) fun h' eb=>⟨rfl,I.turned (t':=s.toks) (fun b o hb e=>eb b o hb e) f0 f1 f3 f4 f5⟩
 self:=fun _ _ _ _ _ st h=>wpAny_pyIter_listiter st h
theorem MR{P:gf}{w:iu}{K:fe}{tg:Expr}(a it:Addr):Turn P w K tg (Itt K a) [it] it (fun i h=>h.IsTupleIter it a i) where
 mem:=by simp
 obj:=fun i h st b hb=>by
  have e:b=it:=by simpa using hb
  subst e;obtain⟨o,e,c,d⟩:=st;exact⟨o,e,fun v z=>by rw[d]at z;cases z⟩
 keep:=fun i h h' st k=>st.at fun o e=>k it yv o e
 item:=by
  intro X hP hw hK hc i ze s σ H E I hf st hg;subst hP hw hK;obtain⟨xs,x,hq,hx⟩:=hg;obtain⟨q,rv,p,hz⟩:=I.tuple hq;obtain⟨u,hu,ru⟩:=rv.get hx;obtain⟨f0,f1,f2,f3,f4,f5⟩:=hf it yv;refine wpAny_pyNext_tuple_item st (show s.heap.IsTuple a q.toArray from p) (x:=u) (by simpa using hu) fun h' st' sb=>?_;have I1:Inv X ze σ H { s with heap:=h' }:=I.turned (t':=s.toks) (fun b o hb e=>(sb.2 b hb).trans e) f0 f1 f3 f4 f5;obtain⟨o,e,c,d⟩:=id st';exact⟨u,rfl,tG (s:={ s with heap:=h' }) e c d dz ⟨x,H,I1,ru,⟨rfl,fun ys hy=>by rw[I.tuple_inj hy hq];exact hx⟩,st',fun b hb=>(hf b hb).1⟩⟩
 done:=by
  intro X hP hw hK hc i ze s σ H E I hf st hg;subst hP hw hK;obtain⟨xs,hq,hx⟩:=hg;obtain⟨q,rv,p,hz⟩:=I.tuple hq;obtain⟨f0,f1,f2,f3,f4,f5⟩:=hf it yv;have hl:=rv.length;exact wpAny_pyNext_tuple_end (I.ok.hd hc) st (show s.heap.IsTuple a q.toArray from p) (by simp;omega) fun h' eb=>⟨rfl,I.turned (t':=s.toks) (fun b o hb e=>eb b o hb e) f0 f1 f3 f4 f5⟩
 self:=fun _ _ _ _ _ st h=>wpAny_pyIter_tupleiter st h
theorem JD{P:gf}{w:iu}{K:fe}{tg:Expr}(it:Addr)(lo:Int)(n:Nat):Turn P w K tg (Itr lo n) [it] it (fun i h=>IsRangeIter h it (lo+(i:Nat)*1) ((n:Int)-(i:Nat)) 1) where
 mem:=by simp
 obj:=fun i h st b hb=>by
  have e:b=it:=by simpa using hb
  subst e;exact⟨_,st,fun v z=>by
   have z':Data.fields _=Data.cell v:=z;cases z'⟩
 keep:=fun i h h' st k=>k it yv _ st
 item:=by
  intro X hP hw hK hc i ze s σ H E I hf st hg;subst hP hw hK;obtain⟨f0,f1,f2,f3,f4,f5⟩:=hf it yv;have W:=Walks.range (prog:=X.prog) (w:=X.w) (I.ok.hd hc) it lo 1 n;refine W.item i s _ _ hg st fun v h' tk hv st' kk=>?_;obtain⟨t,rfl⟩:=hv;have I1:Inv X ze σ H { s with heap:=h',toks:=tk }:=I.turned (fun b o hb e=>kk b o (by simpa using hb) e) f0 f1 f3 f4 f5;refine⟨_,rfl,tG (s:={ s with heap:=h',toks:=tk }) (n:="range_iterator") st' rfl rfl dz ⟨.int (lo+i),H,I1,⟨t,?_⟩,⟨rfl,rfl⟩,st',fun b hb=>(hf b hb).1⟩⟩;rw[Int.mul_one]
 done:=by
  intro X hP hw hK hc i ze s σ H E I hf st hg;subst hP hw hK;obtain⟨f0,f1,f2,f3,f4,f5⟩:=hf it yv;exact wpAny_pyNext_range_end (I.ok.hd hc) st (by have:n<=i:=hg;omega) fun h' eb=>⟨rfl,I.turned (t':=s.toks) (fun b o hb e=>eb b o hb e) f0 f1 f3 f4 f5⟩
 self:=fun _ _ _ _ _ st h=>wpAny_pyIter_rangeiter st h
end
section
section
variable {X:Cx}{tg:Expr}
def vZ(K:fe)(tl:TE):TI:=fun σ H R=>tl σ H fun x H1=>∃a,x=.ref a/\(∃xs,SqL K H1 a xs)/\R (Itl K a) H1
theorem Jw{l:Expr}{tl:TE}(hl:PE X l tl):PI X tg l (vZ X.K tl):=by
 intro ze s σ H R I h;refine thn (hl ze s σ H _ I h) fun v s1 ⟨x,H1,I1,r1,q1⟩=>?_;obtain⟨a,e,⟨xs,hq⟩,q⟩:=q1;subst e;cases r1;obtain⟨z,rv,p,hz⟩:=I1.list hq;refine qv p.isList ?_;refine⟨s1.heap.objs.size,[s1.heap.objs.size],_,_,H1,rfl,I1.kept (t':=s1.toks) fun b o e=>bu _ e,BV a _,⟨_,cy _ rfl,rfl,rfl⟩,fun b hb=>?_,q⟩;have e:b=s1.heap.objs.size:=by simpa using hb
 subst e;exact I1.fpOk (dh _) (I1.hok.fresh (dh _))
def nX(wi:TI)(g:TG)(tb:TS):TS:=fun D σ H=>wi σ H fun J H1=>∃W:Nat->Nat->St->Hp->Prop,(∃m,W 0 m σ H1)/\∀i m σ H,W i m σ H ->
 (J.stop i H/\D.nx σ H)\/(J.go i H/\∃N:St->Hp->Prop,(∀ σ' H',N σ' H'->∃m',m'<m/\W (i+1) m' σ' H')/\∀x H',J.yld i H x H'->g x σ H' fun σ2 H2=>tb { D with nx:=N,ct:=N,bk:=D.nx } σ2 H2)
def pV(fp:List Addr)(h:Heap):List (Addr×Obj):=fp.filterMap fun b=>(h.get? b).map fun o=>(b,o)
theorem sX{fp:List Addr}{h:Heap}{b:Addr}{o:Obj}(hb:b∈fp)(e:h.get? b=some o):(b,o)∈pV fp h:=List.mem_filterMap.mpr ⟨b,hb,by rw[e];rfl⟩
theorem Lc{fp:List Addr}{h:Heap}{p:Addr×Obj}(hp:p∈pV fp h):p.1∈fp/\h.get? p.1=some p.2:=by
 obtain⟨b,hb,e⟩:=List.mem_filterMap.mp hp;cases q:h.get? b with
 |none=>rw[q]at e;cases e
 |some o=>
  rw[q]at e;have e':(b,o)=p:=ji e;subst e';exact⟨hb,q⟩
theorem Inv.pinned{ze:List (Addr×Obj)}{σ:St}{H:Hp}{s:bq}{fp:List Addr}(I:Inv X ze σ H s)(hf:∀b∈fp,FpOk X ze H b)(ho:∀b∈fp,∃o,s.heap.get? b=some o/\∀v,o.data≠.cell v):Inv X (ze++pV fp s.heap) σ H s:=
 I.pins_of fun p hp=>(mem_append.mp hp).elim (fun z=>I.pin p (fh _ z)) fun z=>by
  obtain⟨hb,e⟩:=Lc z;obtain⟨f0,f1,f2,_⟩:=hf p.1 hb;obtain⟨o,e',d⟩:=ho p.1 hb;rw[e]at e';cases e';exact⟨e,f0,f1,f2,d⟩
theorem Inv.unpinned{ze pl:List (Addr×Obj)}{σ:St}{H:Hp}{s:bq}(I:Inv X (ze++pl) σ H s):Inv X ze σ H s:=I.pins_of fun p hp=>I.pin p (fh _ (cg _ hp))
theorem c8{iter:Expr}{aa:List Stmt}{wi:TI}{g:TG}{tb:TS}{pos:Pos}(hp:PassesOwn (model X.prog X.w) X.A X.env X.xe)(hc:X.calm=true)(hi:PI X tg iter wi)(hg:PG X tg g)(hb:PSs X aa tb)
  (hs:∀x,foldedSetIterable iter X.env x=pure x:=by intro _;rfl):PS X (.For tg iter aa [] pos) (nX wi g tb):=by
 intro ze s σ H D I h;refine wpAny_For (thn (hi ze s σ H _ I h) fun v s1 h1=>thn h1 fun ai s2 h2=>?_) hs;obtain⟨it,fp,tn,J,H2,e,I2,T,ag,f2,W,⟨m0,w0⟩,ae⟩:=h2;subst e
 have q:∀{H':Hp},(∀b∈fp,H' b=none)->∀b∈fp,FpOk X ze H' b:=fun hn b hb=>⟨hn b hb,(f2 b hb).2⟩;refine codeAny_forLoop_any (fun n s'=>∃i σ' H',Inv X ze σ' H' s'/\tn i s'.heap/\(∀b∈fp,H' b=none)/\W i n σ' H') ?_ m0 ⟨0,σ,H2,I2,ag,fun b hb=>(f2 b hb).1,w0⟩;rintro n s3 ⟨i,σ3,H3,I3,ac,af,w3⟩;rcases ae i n σ3 H3 w3 with ⟨stop,qn⟩|⟨go,N,hN,step⟩
 ·refine qr hp (thn (T.done X rfl rfl rfl hc i ze s3 σ3 H3 X.xe I3 (q af) ac stop) fun r s4 ⟨hr,I4⟩=>?_);subst hr;exact wpAny_execs_nil ⟨σ3,H3,I4,qn⟩
 ·refine qr hp (thn (T.item X rfl rfl rfl hc i ze s3 σ3 H3 X.xe I3 (q af) ac go) fun r s4 ⟨u,hr,h4⟩=>?_);subst hr;refine qr hp (thn h4 fun _ s5 ⟨x,H5,I5,r5,y5,ab,ah⟩=>?_);have I5':=I5.pinned (q ah) (T.obj _ _ ab);refine qr hp (thn (hg _ s5 σ3 H5 x u _ I5' r5 (step x H5 y5)) fun _ s6 ⟨σ6,H6,I6,q6⟩=>?_);refine qr hp (thn (hb _ s6 σ6 H6 _ I6 q6) fun f s7 q7=>?_);have z:∀{σ7:St}{H7:Hp},Inv X (ze++pV fp s5.heap) σ7 H7 s7->N σ7 H7->∃m,m<n/\∃i σ' H',Inv X ze σ' H' s7/\tn i s7.heap/\(∀b∈fp,H' b=none)/\W i m σ' H':=fun {σ7 H7} I7 n7=>by
   obtain⟨m',hm,w7⟩:=hN σ7 H7 n7;refine⟨m',hm,i+1,σ7,H7,I7.unpinned,T.keep _ _ _ ab fun b hb o e=>(I7.pin (b,o) (fh _ (fh _ (sX hb e)))).1,fun b hb=>?_,w7⟩;obtain⟨o,e,d⟩:=T.obj _ _ ab b hb;exact(I7.pin (b,o) (fh _ (fh _ (sX hb e)))).2.1
  cases f with
  |next=>obtain⟨σ7,H7,I7,n7⟩:=q7;exact z I7 n7
  |cont=>obtain⟨σ7,H7,I7,n7⟩:=q7;exact z I7 n7
  |brk=>obtain⟨σ7,H7,I7,q7⟩:=q7;exact⟨σ7,H7,I7.unpinned,q7⟩
  |ret v=>obtain⟨x7,σ7,H7,I7,r7,q7⟩:=q7;exact⟨x7,σ7,H7,I7.unpinned,r7,q7⟩
end
theorem Ja{K:fe}{a:Addr}{xs:List V}{g:TG}{tb:TS}{D:Ends}{σ:St}{H:Hp}(Pv:Nat->St->Hp->Prop)(h0:Pv 0 σ H)(hl:∀i σ H,i<=xs.length->Pv i σ H->SqL K H a xs)
  (hs:∀i x σ H,xs[i]?=some x->Pv i σ H->g x σ H fun σ2 H2=>tb { D with nx:=Pv (i+1),ct:=Pv (i+1),bk:=D.nx } σ2 H2) (hd:∀ σ H,Pv xs.length σ H->D.nx σ H):
  ∃W:Nat->Nat->St->Hp->Prop,(∃m,W 0 m σ H)/\∀i m σ H,W i m σ H ->
   ((Itl K a).stop i H/\D.nx σ H)\/((Itl K a).go i H/\∃N:St->Hp->Prop,(∀ σ' H',N σ' H'->∃m',m'<m/\W (i+1) m' σ' H')/\∀x H',(Itl K a).yld i H x H'->g x σ H' fun σ2 H2=>tb { D with nx:=N,ct:=N,bk:=D.nx } σ2 H2):=by
 refine⟨fun i m σ H=>m=xs.length-i/\i<=xs.length/\Pv i σ H,⟨xs.length,yv,nj _,h0⟩,?_⟩;rintro i m σ H ⟨rfl,hi,p⟩;have q:=hl i σ H hi p;by_cases hlt:i<xs.length
 ·refine .inr ⟨⟨xs,xs[i],q,by simp[hlt]⟩,Pv (i+1),fun σ' H' p'=>⟨xs.length-(i+1),yw,rfl,hlt,p'⟩,fun x H' y=>?_⟩;obtain⟨e,y⟩:=y;subst e;exact hs i x σ _ (y xs q) p
 ·have e:i=xs.length:=yw
  subst e;exact .inl ⟨⟨xs,q,dh _⟩,hd σ H p⟩
end
section
abbrev R2:=V->V->Hp->VK->Prop
def OpR(X:Cx)(f:bo->bo->Sem bo)(r:R2):Prop:=
 ∀(ze:List (Addr×Obj)) (s:bq) (σ:St) (H:Hp) (x y:V) (v u:bo) (Q:VK),Inv X ze σ H s->RelV x v->RelV y u->r x y H Q ->
  cp (model X.prog X.w) X.A (f v u) (EP X ze σ Q) X.xe s
def UnR(X:Cx)(f:bo->Sem bo)(r:V->Hp->VK->Prop):Prop:=
 ∀(ze:List (Addr×Obj)) (s:bq) (σ:St) (H:Hp) (x:V) (v:bo) (Q:VK),Inv X ze σ H s->RelV x v->r x H Q ->
  cp (model X.prog X.w) X.A (f v) (EP X ze σ Q) X.xe s
def CallR(X:Cx)(f:bo)(r:List V->Hp->VK->Prop):Prop:=
 ∀(ze:List (Addr×Obj)) (s:bq) (σ:St) (H:Hp) (xs:List V) (us:List bo) (Q:VK),Inv X ze σ H s->Vals xs us->r xs H Q ->
  cp (model X.prog X.w) X.A (call f us) (EP X ze σ Q) X.xe s
def TruR(X:Cx)(r:V->Hp->(Bool->Hp->Prop)->Prop):Prop:=
 ∀(ze:List (Addr×Obj)) (s:bq) (σ:St) (H:Hp) (x:V) (v:bo) (Q:Bool->Hp->Prop),Inv X ze σ H s->RelV x v->r x H Q ->
  cp (model X.prog X.w) X.A (truthy v) (TP X ze σ Q) X.xe s
def tOp(r:R2)(ta tb:TE):TE:=fun σ H Q=>ta σ H fun x H1=>tb σ H1 fun y H2=>r x y H2 Q
def tUn(r:V->Hp->VK->Prop)(ta:TE):TE:=fun σ H Q=>ta σ H fun x H1=>r x H1 Q
def rI(C:Int->Int->Prop)(g:Int->Int->V):R2:=fun x y H Q=>∃i j,x=.int i/\y=.int j/\C i j/\Q (g i j) H
def rI0(g:Int->Int->V):R2:=fun x y H Q=>∃i j,x=.int i/\y=.int j/\Q (g i j) H
def rU(g:Int->V):V->Hp->VK->Prop:=fun x H Q=>∃i,x=.int i/\Q (g i) H
section
variable {X:Cx}{a b c:Expr}{ta tb tc:TE}{pos:Pos}
theorem yQ(ha:PE X a ta)(hb:PE X b tb){ze:List (Addr×Obj)}{s:bq}{σ:St}{H:Hp}{R:V->V->Hp->Prop}(I:Inv X ze σ H s)
  (h:ta σ H fun x H1=>tb σ H1 fun y H2=>R x y H2) {Q:bo->bq->Prop}{f:bo->bo->Sem bo}
  (hf:∀v u s2 x y H2,Inv X ze σ H2 s2->RelV x v->RelV y u->R x y H2->cp (model X.prog X.w) X.A (f v u) Q X.xe s2):
  cp (model X.prog X.w) X.A (eval a X.env) (fun v s₁=>cp (model X.prog X.w) X.A (eval b X.env) (fun u s₂=>cp (model X.prog X.w) X.A (f v u) Q X.xe s₂) X.xe s₁) X.xe s:=by
 refine thn (ha ze s σ H _ I h) fun v s1 ⟨x,H1,I1,r1,q1⟩=>?_;refine thn (hb ze s1 σ H1 _ I1 q1) fun u s2 ⟨y,H2,I2,r2,q2⟩=>?_;exact hf v u s2 x y H2 I2 r1 r2 q2
theorem zS{op:Operator}{r:R2}(ho:OpR X (oh op) r)(ha:PE X a ta)(hb:PE X b tb):PE X (.BinOp a op b pos) (tOp r ta tb):=by
 intro ze s σ H Q I h;exact wpAny_BinOp (yQ ha hb I h fun v u s2 x y H2 I2 rx ry q=>ho ze s2 σ H2 x y v u Q I2 rx ry q)
theorem pZ{op:UnaryOp}{r:V->Hp->VK->Prop}(ho:UnR X (unaryOp op) r)(ha:PE X a ta):PE X (.UnaryOp op a pos) (tUn r ta):=by
 intro ze s σ H Q I h;exact UnaryOp_ (thn (ha ze s σ H _ I h) fun v s1 ⟨x,H1,I1,r1,q1⟩=>ho ze s1 σ H1 x v Q I1 r1 q1)
theorem opI{f:bo->bo->Sem bo}{C:Int->Int->Prop}{g:Int->Int->Int}
  (rule:∀(i j:Int) (t u:Tok) (s:bq) (Q:bo->bq->Prop) (E:bo->bq->Prop),C i j->Q (.int (g i j) s.toks) { s with toks:=s.toks+1 }->cp (model X.prog X.w) X.A (f (.int i t) (.int j u)) Q E s):
  OpR X f (rI C fun i j=>.int (g i j)):=by
 intro ze s σ H x y v u Q I rx ry h;obtain⟨i,j,rfl,rfl,hc,q⟩:=h;obtain⟨t,rfl⟩:=rx;obtain⟨t',rfl⟩:=ry;exact rule i j t t' s _ _ hc ⟨.int (g i j),H,I.tok _,⟨_,rfl⟩,q⟩
theorem CF{f:bo->bo->Sem bo}{g:Int->Int->Int}
  (rule:∀(i j:Int) (t u:Tok) (s:bq) (Q:bo->bq->Prop) (E:bo->bq->Prop),Q (.int (g i j) s.toks) { s with toks:=s.toks+1 }->cp (model X.prog X.w) X.A (f (.int i t) (.int j u)) Q E s):
  OpR X f (rI0 fun i j=>.int (g i j)):=by
 intro ze s σ H x y v u Q I rx ry h;obtain⟨i,j,rfl,rfl,q⟩:=h;obtain⟨t,rfl⟩:=rx;obtain⟨t',rfl⟩:=ry;exact rule i j t t' s _ _ ⟨.int (g i j),H,I.tok _,⟨_,rfl⟩,q⟩
theorem sS{f:bo->bo->Sem bo}{g:Int->Int->Bool}
  (rule:∀(i j:Int) (t u:Tok) (s:bq) (Q:bo->bq->Prop) (E:bo->bq->Prop),Q (.bool (g i j)) s->cp (model X.prog X.w) X.A (f (.int i t) (.int j u)) Q E s):
  OpR X f (rI0 fun i j=>.bl (g i j)):=by
 intro ze s σ H x y v u Q I rx ry h;obtain⟨i,j,rfl,rfl,q⟩:=h;obtain⟨t,rfl⟩:=rx;obtain⟨t',rfl⟩:=ry;exact rule i j t t' s _ _ ⟨.bl (g i j),H,I,rfl,q⟩
def CDivN(i j:Int):Prop:=j≠0/\j.natAbs<1073741824
def CPow(i j:Int):Prop:=0<=j/\j<=1000000/\i.natAbs<2 ^ 64
theorem MG:OpR X (oh .Add) (rI0 fun i j=>.int (i+j)):=CF fun _ _ _ _ _ _ _ q=>add_int q
theorem gM:OpR X (oh .Sub) (rI0 fun i j=>.int (i-j)):=CF fun _ _ _ _ _ _ _ q=>sub_int q
theorem Gs:OpR X (oh .FloorDiv) (rI CDivN fun i j=>.int (i.fdiv j)):=opI fun _ _ _ _ _ _ _ hc q=>floordiv_int hc.1 q (.inl (PyProof.noPylong_small hc.2))
theorem qZ:OpR X (oh .Mod) (rI (fun _ j=>0<j) fun i j=>.int (i % j)):=opI fun i j _ _ _ _ _ hc q=>by
 have h1:(0:Int)<j:=hc;exact mod_int' yw (by rw[Int.fmod_eq_emod_of_nonneg i yw];exact q)
theorem tE:OpR X (oh .Pow) (rI CPow fun i j=>.int (i ^ j.toNat)):=opI fun _ _ _ _ _ _ _ hc q=>pow_int_small hc.1 hc.2.1 hc.2.2 q
theorem unI{f:bo->Sem bo}{g:Int->Int}
  (rule:∀(i:Int) (t:Tok) (s:bq) (Q:bo->bq->Prop) (E:bo->bq->Prop),Q (.int (g i) s.toks) { s with toks:=s.toks+1 }->cp (model X.prog X.w) X.A (f (.int i t)) Q E s):
  UnR X f (rU fun i=>.int (g i)):=by
 intro ze s σ H x v Q I rx h;obtain⟨i,rfl,q⟩:=h;obtain⟨t,rfl⟩:=rx;exact rule i t s _ _ ⟨.int (g i),H,I.tok _,⟨_,rfl⟩,q⟩
theorem rA:UnR X (unaryOp .USub) (rU fun i=>.int (-i)):=unI fun _ _ _ _ _ q=>neg_int q
end
section
variable {X:Cx}{a b c:Expr}{ta tb tc:TE}{pos:Pos}
theorem uB{ze:List (Addr×Obj)}{σ:St}{H:Hp}{s:bq}{Q:VK}{k k':Bool}(I:Inv X ze σ H s)(q:Q (.bl k) H)(e:k=k'):EP X ze σ Q (.bool k') s:=by
 subst e;exact⟨.bl k,H,I,rfl,q⟩
theorem iU:OpR X (ki .Lt) (rI0 fun i j=>.bl (decide (i<j))):=sS fun _ _ _ _ _ _ _ q=>lt_int q
theorem lR:OpR X (ki .LtE) (rI0 fun i j=>.bl (decide (i<=j))):=sS fun _ _ _ _ _ _ _ q=>le_int q
theorem wX:OpR X (ki .Gt) (rI0 fun i j=>.bl (decide (j<i))):=sS fun _ _ _ _ _ _ _ q=>gt_int q
theorem Lf:OpR X (ki .GtE) (rI0 fun i j=>.bl (decide (j<=i))):=sS fun _ _ _ _ _ _ _ q=>ge_int q
theorem Fy:OpR X (ki .In) (fun x y H Q=>∃i j,x=.str i/\y=.str j/\Q (.bl (!(mn j i 0 j.length 1).isEmpty)) H):=by
 intro ze s σ H x y v u Q I rx ry h;obtain⟨i,j,rfl,rfl,q⟩:=h;obtain⟨t,rfl⟩:=rx;obtain⟨t',rfl⟩:=ry;exact in_str (uB I q rfl)
theorem MM:OpR X (ki .IsNot) (fun x y H Q=>y=.non/\Q (.bl (!decide (x=.non))) H):=by
 intro ze s σ H x y v u Q I rx ry h;obtain⟨rfl,q⟩:=h;cases ry;refine isnot_none_gen (uB I q ?_);cases x<;>first
  | (cases rx;rfl)
  | (obtain⟨t,rfl⟩:=rx;rfl)
theorem IS:OpR X (ki .NotIn) (fun x y H Q=>∃i j,x=.str i/\y=.str j/\Q (.bl (!(!(mn j i 0 j.length 1).isEmpty))) H):=by
 intro ze s σ H x y v u Q I rx ry h;obtain⟨i,j,rfl,rfl,q⟩:=h;obtain⟨t,rfl⟩:=rx;obtain⟨t',rfl⟩:=ry;exact notIn_str (uB I q rfl)
theorem OpR.or{f:bo->bo->Sem bo}{r r':R2}(h:OpR X f r)(h':OpR X f r'):OpR X f (fun x y H Q=>r x y H Q\/r' x y H Q):=by
 intro ze s σ H x y v u Q I rx ry q;rcases q with q|q
 ·exact h ze s σ H x y v u Q I rx ry q
 ·exact h' ze s σ H x y v u Q I rx ry q
theorem nomark(b:Expr){op:CmpOp}(h:op≠.In:=by decide)(h2:op≠.NotIn:=by decide):behindInMarks op b=false:=by
 have e1:(op==CmpOp.In)=false:=by cases op<;>first|rfl|exact absurd rfl h
 have e2:(op==CmpOp.NotIn)=false:=by cases op<;>first|rfl|exact absurd rfl h2
 cases b<;>simp[behindInMarks,e1,e2]
theorem fR{op:CmpOp}{r:R2}(ho:OpR X (ki op) r)(ha:PE X a ta)(hb:PE X b tb)(hm:behindInMarks op b=false):PE X (.Compare a [op] [b] pos) (tOp r ta tb):=by
 intro ze s σ H Q I h;exact wpAny_Compare1 (yQ ha hb I h fun v u s2 x y H2 I2 rx ry q=>ho ze s2 σ H2 x y v u Q I2 rx ry q) hm
def tQ(t:TE):TT:=fun σ H Q=>t σ H fun x H'=>∃k,x=.bl k/\Q k H'
theorem zG{op:CmpOp}{r:R2}(ho:OpR X (ki op) r)(ha:PE X a ta)(hb:PE X b tb)(hm:behindInMarks op b=false):PT X (.Compare a [op] [b] pos) (tQ (tOp r ta tb)):=by
 intro ze s σ H Q I h;refine wpAny_isTrue_Compare1 (thn (ha ze s σ H _ I h) fun v s1 ⟨x,H1,I1,r1,q1⟩=>thn (hb ze s1 σ H1 _ I1 q1) fun u s2 ⟨y,H2,I2,r2,q2⟩=>
  thn (ho ze s2 σ H2 x y v u _ I2 r1 r2 q2) fun c s3 ⟨z,H3,I3,r3,k,e,q3⟩=>?_) hm
 subst e;cases r3;exact pc ⟨H3,I3,q3⟩
def Ef(r r':R2)(ta tb tc:TE):TE:=fun σ H Q=>ta σ H fun x H1=>tb σ H1 fun y H2=>r x y H2 fun z H3=>∃k,z=.bl k /\
 (if k=true then tc σ H3 fun w' H4=>r' y w' H4 Q else Q (.bl false) H3)
theorem vC{op q:CmpOp}{r r':R2}(ho:OpR X (ki op) r)(aa:OpR X (ki q) r')(ha:PE X a ta)(hb:PE X b tb)(hc:PE X c tc)
  (hm:lastMarks [op,q] [b,c]=false:=by with_unfolding_all rfl):PE X (.Compare a [op,q] [b,c] pos) (Ef r r' ta tb tc):=by
 intro ze s σ H Q I h;refine Compare_chain (thn (ha ze s σ H _ I h) fun v s1 ⟨x,H1,I1,r1,q1⟩=>chain_link (thn (hb ze s1 σ H1 _ I1 q1) fun u s2 ⟨y,H2,I2,r2,q2⟩=>
  thn (ho ze s2 σ H2 x y v u _ I2 r1 r2 q2) fun d s3 ⟨z,H3,I3,r3,k,e,q3⟩=>?_)) hm
 subst e;cases r3;refine pc ?_;cases k with
 |false=>exact ite_ff ⟨.bl false,H3,I3,rfl,q3⟩
 |true=>exact ite_tt (chain_last (thn (hc ze s3 σ H3 _ I3 q3) fun w' s4 ⟨z',H4,I4,r4,q4⟩=>aa ze s4 σ H4 y z' u w' Q I4 r2 r4 q4))
def TruV(K:fe)(x:V)(H:Hp)(k:Bool):Prop:=
 match x with
 | .non=>k=false
 | .bl b=>k=b
 | .int i=>k=(i != 0)
 | .str y=>y.length<=fk/\k=((y.length:Int) != 0)
 | .byt y=>y.size<=fk/\k=((y.size:Int) != 0)
 | .ref p=>(∃xs,SqL K H p xs/\k=!xs.isEmpty)\/(∃xs,SqT K H p xs/\k=!xs.isEmpty)\/∃kvs,H p=some (.dK kvs)/\k=!kvs.isEmpty
 |_=>False
theorem HD{κ:Type}{kvs:List (κ×V)}{vs:List (κ×bo)}(r:KV kvs vs):(!vs.isEmpty)=!kvs.isEmpty:=by
 cases r<;>rfl
theorem FV{xs:List V}{q:List bo}(r:Vals xs q):(!q.toArray.isEmpty)=!xs.isEmpty:=by
 cases r<;>simp
theorem line63:(fk:Nat)<2 ^ 63:=by rw[kj];decide
theorem Js:TruR X (fun x H Q=>∃k,TruV X.K x H k/\Q k H):=by
 intro ze s σ H x v Q I rx h;obtain⟨k,e,q⟩:=h;have hl:=line63;have hs:fk=16777216:=kj;cases x with
 |non=>
  cases rx;have e':k=false:=e;subst e';exact truthy_none ⟨H,I,q⟩
 |bl b=>
  cases rx;have e':k=b:=e;subst e';exact pc ⟨H,I,q⟩
 |int i=>
  obtain⟨t,rfl⟩:=rx;have e':k=(i != 0):=e;subst e';exact PySem.P.truthy_int ⟨H,I,q⟩
 |str y=>
  obtain⟨t,rfl⟩:=rx;obtain⟨hy,e'⟩:y.length<=fk/\k=((y.length:Int) != 0):=e;subst e';exact PySem.P.truthy_str yw ⟨H,I.tok _,q⟩
 |byt y=>
  obtain⟨t,rfl⟩:=rx;obtain⟨hy,e'⟩:y.size<=fk/\k=((y.size:Int) != 0):=e;subst e';exact W.truthy_bytes yw ⟨H,I.tok _,q⟩
 |ref p=>
  cases rx;have e':(∃xs,SqL X.K H p xs/\k=!xs.isEmpty)\/(∃xs,SqT X.K H p xs/\k=!xs.isEmpty)\/∃kvs,H p=some (.dK kvs)/\k=!kvs.isEmpty:=e;rcases e' with ⟨xs,hx,e'⟩|⟨xs,hx,e'⟩|⟨kvs,hx,e'⟩
  ·subst e';obtain⟨aa,r,pl,hz⟩:=I.list hx;have z:=r.length;exact wpAny_truthy_list pl.isList (by simp only[fq];omega) ⟨H,I.tok _,by rw[FV r];exact q⟩
  ·subst e';obtain⟨aa,r,pl,hz⟩:=I.tuple hx;have z:=r.length;exact truthy_tuple pl (by simp only[fq];omega) ⟨H,I.tok _,by rw[FV r];exact q⟩
  ·subst e';obtain⟨hz,hS,vs,r,m⟩:kvs.length<=fk/\(p==ly)=false/\∃vs,KV kvs vs/\s.heap.DictOf (bY X.prog X.w) p vs:=I.hok p _ hx;have z:kvs.length=vs.length:=Paired.length r;exact wpAny_truthy_dict hS m yw ⟨H,I.tok _,by rw[HD r];exact q⟩
 |_=>exact(show False from e).elim
theorem zL(ha:PE X a ta)(he:∀whole,isTrue a X.env whole=(do let v <- whole;standAt a.pos;holding [v] (truthy v))):
  PT X a (fun σ H Q=>ta σ H fun x H'=>∃k,TruV X.K x H' k/\Q k H'):=by
 intro ze s σ H Q I h;exact isTrue_plain (thn (ha ze s σ H _ I h) fun v s1 ⟨x,H1,I1,r1,q1⟩=>Js ze s1 σ H1 x v Q I1 r1 q1) (he _)
theorem Hb:OpR X (oh .Add) (fun x y H Q=>∃i j,x=.str i/\y=.str j/\i.length+j.length<=fk/\Q (.str (i++j)) H):=by
 intro ze s σ H x y v u Q I rx ry h;obtain⟨i,j,rfl,rfl,hz,q⟩:=h;obtain⟨t,rfl⟩:=rx;obtain⟨t',rfl⟩:=ry;exact add_str (fun t' tk=>⟨.str (i++j),H,I.tok _,⟨_,rfl⟩,q⟩) hz
theorem vals1{x:V}{us:List bo}(r:Vals [x] us):∃u,us=[u]/\RelV x u:=by
 cases r with
 |cons r1 r2=>cases r2;exact⟨_,rfl,r1⟩
theorem vals2{x y:V}{us:List bo}(r:Vals [x,y] us):∃u w',us=[u,w']/\RelV x u/\RelV y w':=by
 cases r with
 |cons r1 r2=>
  cases r2 with
  |cons r3 r4=>cases r4;exact⟨_,_,rfl,r1,r3⟩
theorem Bl:CallR X (.builtin "abs") (fun xs H Q=>∃i,xs=[.int i]/\Q (.int (if i<0 then -i else i)) H):=by
 intro ze s σ H xs us Q I r h;obtain⟨i,rfl,q⟩:=h;obtain⟨u,rfl,t,rfl⟩:=vals1 r;exact call_abs_int fun u tk=>⟨.int (if i<0 then -i else i),H,I.tok _,⟨_,rfl⟩,q⟩
theorem IH(hc:X.calm=true):CallR X (.builtin "max") (fun xs H Q=>∃i j,xs=[.int i,.int j]/\Q (.int (if j>i then j else i)) H):=by
 intro ze s σ H xs us Q I r h;obtain⟨i,j,rfl,q⟩:=h;obtain⟨u,w',rfl,⟨t,rfl⟩,⟨t',rfl⟩⟩:=vals2 r;refine max_two_ints (I.ok.hd hc) fun h' tk k=>⟨_,H,I.kept k,?_,q⟩;by_cases hj:j>i
 ·rw[cn hj,cn hj];exact⟨_,rfl⟩
 ·rw[cm hj,cm hj];exact⟨_,rfl⟩
theorem JX:CallR X (.type "int") (fun xs H Q=>(∃i,xs=[.int i]/\Q (.int i) H)\/∃k,xs=[.bl k]/\Q (.int (if k then 1 else 0)) H):=by
 intro ze s σ H xs us Q I r h;rcases h with ⟨i,rfl,q⟩|⟨k,rfl,q⟩
 ·obtain⟨u,rfl,t,rfl⟩:=vals1 r;exact call_int_int ⟨.int i,H,I,⟨_,rfl⟩,q⟩
 ·obtain⟨u,rfl,r1⟩:=vals1 r;cases r1;exact call_int_bool ⟨.int (if k then 1 else 0),H,I.tok _,⟨_,rfl⟩,q⟩
end
end
section
structure ObjM(h:Heap)(x dx C:Addr)(mA:Str->Option bo):Prop where
 obj:h.get? x=some (W.instObj C dx)
 ns:h.Ns1 dx mA
 ne:dx≠x
theorem JQ{h:Heap}{dx:Addr}{mA:Str->Option bo}(n:h.Ns1 dx mA):∃od,h.get? dx=some od/\∀name,W.lookIn name od=some (mA name):=by
 obtain⟨o,es,ep,ho,hd,hk,_,hm⟩:=n;refine⟨o,ho,fun name=>?_⟩;have e:=hm name;unfold nsFind findBy at e;rw[<- Array.find?_toList]at e;unfold W.lookIn;rw[hd];dsimp only;split
 ·rename_i y q;rw[q]at e;exact congrArg some e
 ·rename_i q;rw[q]at e;have a:es.toList.any (·.refKey)=false:=by
   rw[List.any_eq_false];intro y hy;obtain⟨z,t,aa⟩:=hk y (Array.mem_toList_iff.mp hy);simp[DictEntry.refKey,aa]
  have a':¬ es.toList.any (·.refKey)=true:=by rw[a];exact jg
  rw[cm a'];exact congrArg some e
theorem ObjM.look{h:Heap}{x dx C:Addr}{mA:Str->Option bo}(I:ObjM h x dx C mA):∃od,W.InstAt h x (W.instObj C dx) C (some od)/\∀name,W.lookIn name od=some (mA name):=
 let ⟨od,ho,hl⟩:=JQ I.ns
 ⟨od,⟨I.obj,rfl,rfl,ho⟩,hl⟩
theorem RelO.some_of{v:V}{o:Option bo}(r:RelO (some v) o):∃u,o=some u/\RelV v u:=by
 cases o with
 |none=>exact(show False from r).elim
 |some u=>exact⟨u,rfl,r⟩
section
variable {P:gf}{w:iu}{H H':Hp}{h h':Heap}{a C dx:Addr}{fs fs':List (Str×V)}
theorem JY(hok:HOk P w H h)(e:H a=some (.ins C dx fs)):∃mA,ObjM h a dx C mA/\(∀f,RelO (fs.lookup f) (mA f))/\PySem.Within mA (fs.map (·.1))/\fs.length<=1000/\H dx=some (.own a):=by
 obtain⟨d,z,ne,ob,mA,n,r,q⟩:=(show ObjOk P w H h a (.ins C dx fs)from hok a _ e);exact⟨mA,⟨ob,n,ne⟩,r,q,z,d⟩
end
structure Cls(K:fe)(C:Addr):Prop where
 pg:W.plainGet K C Str.empty=true
 hd:W.hasDictIn K C=true
 po:W.plainOver K C=true
 sa:W.findIn K (.ref C) "__setattr__" = some (some (.builtin "object.__setattr__"))
theorem Cls.get{K:fe}{C:Addr}(c:Cls K C)(f:Str):W.plainGet K C f=true:=c.pg
section
variable {X:Cx}{ze:List (Addr×Obj)}{σ:St}{H:Hp}{s:bq}{A:iq}{E:bo->bq->Prop}{Q:bo->bq->Prop}{c:bo}{b:Bool}
inductive TyOf (K:fe) (H:Hp):V->bo->Prop where
 |non:TyOf K H .non (.type "NoneType")
 |bl (x:Bool):TyOf K H (.bl x) (.type "bool")
 |int (i:Int):TyOf K H (.int i) (.type "int")
 |str (x:Str):TyOf K H (.str x) (.type "str")
 |flt (x:UInt64):TyOf K H (.flt x) (.type "float")
 |lst {a:Addr}{xs:List V} (e:H a=some (.lst xs)):TyOf K H (.ref a) (.type "list")
 |frz {a:Addr}{o:Obj}{xs:List V} (e:H a=some (.frz o (.lst xs))):TyOf K H (.ref a) (.type "list")
 |tup {a:Addr}{xs:List V} (e:H a=some (.tup xs)):TyOf K H (.ref a) (.type "tuple")
 |dK {a:Addr}{kvs:List (Key×V)} (e:Rd H a (.dK kvs)):TyOf K H (.ref a) (.type "dict")
 |dT {a:Addr}{kvs:List (List Key×V)} (e:Rd H a (.dT kvs)):TyOf K H (.ref a) (.type "dict")
 |ins {a C dx:Addr}{fs:List (Str×V)} (e:H a=some (.ins C dx fs)) (cl:Cls K C) (ha:W.findIn K (.ref C) "__class__" = some (some (.builtin "object.__class__")))
   (hn:W.specialIn K (.builtin "object.__class__") "__get__" = some (some (.builtin "getset_descriptor.__get__"))) (htk:W.takesIn K (.builtin "object.__class__")=some true)
   (hm:W.mroIn K C (.type "object")=some true):TyOf K H (.ref a) (.ref C)
theorem Gp{x:V}{u t:bo}(I:Inv X ze σ H s)(rx:RelV x u)(ty:TyOf X.K H x t)(e:W.kitOne X.K t c=some b)(h:∀tk,Q (.bool b) { s with toks:=tk }):
  cp (model X.prog X.w) A (call (.builtin "isinstance") [u,c]) Q E s:=by
 cases ty with
 |non=>cases (show u=lj from rx);exact tq W.kitx_none I.kIn rn e (fun z=>nomatch z) h
 |bl y=>cases (show u=Value.bool y from rx);exact tq W.kitx_bool I.kIn rn e (fun z=>nomatch z) h
 |int i=>obtain⟨t,q⟩:=(show ∃t,u=oo i t from rx);cases q;exact tq W.kitx_int I.kIn rn e (fun z=>nomatch z) h
 |str y=>obtain⟨t,q⟩:=(show ∃t,u=Value.str y t from rx);cases q;exact tq W.kitx_str I.kIn rn e (fun z=>nomatch z) h
 |flt y=>obtain⟨t,q⟩:=(show ∃t,u=Value.float y t from rx);cases q;exact tq W.kitx_float I.kIn rn e (fun z=>nomatch z) h
 | @lst a xs ea=>
  cases (show u=gk a from rx);obtain⟨_,_,n,_,h1⟩:=(show ObjOk X.prog X.w H s.heap a (.lst xs)from I.hok a _ ea);exact tq W.kitx_list I.kIn ⟨_,h1,rfl⟩ e (fun z=>nomatch z) h
 | @frz a ob xs ea=>
  cases (show u=gk a from rx);obtain⟨_,_,_,n,_,h1⟩:=(show ObjOk X.prog X.w H s.heap a (.frz ob (.lst xs))from I.hok a _ ea);exact tq W.kitx_list I.kIn ⟨_,h1,rfl⟩ e (fun z=>nomatch z) h
 | @tup a xs ea=>
  cases (show u=gk a from rx);obtain⟨_,_,_,p⟩:=(show ObjOk X.prog X.w H s.heap a (.tup xs)from I.hok a _ ea);obtain⟨o,h1,h2,_⟩:=p;exact tq W.kitx_tuple I.kIn ⟨o,h1,h2⟩ e (fun z=>nomatch z) h
 | @dK a kvs ea=>
  cases (show u=gk a from rx);obtain⟨_,_,vs,_,p⟩:=(show ObjOk X.prog X.w H s.heap a (.dK kvs)from ea.ok I.hok);obtain⟨o,es,ep,h1,h2,_⟩:=p;exact tq W.kitx_dict I.kIn ⟨o,h1,h2.1⟩ e (fun z=>nomatch z) h
 | @dT a kvs ea=>
  cases (show u=gk a from rx);obtain⟨_,_,xs,_,o,es,ep,h1,h2,_⟩:=(show ObjOk X.prog X.w H s.heap a (.dT kvs)from ea.ok I.hok);exact tq W.kitx_dict I.kIn ⟨o,h1,h2.1⟩ e (fun z=>nomatch z) h
 | @ins a C dx fs ea cl ha hn htk hm=>
  cases (show u=gk a from rx);obtain⟨mA,O,_⟩:=JY I.hok ea;obtain⟨od,J,_⟩:=O.look;exact tq (W.kitx_own (cl.get _) cl.hd ha hn htk hm) I.kIn J e (fun z=>nomatch z) h
end
end
section
structure Room(k:Nat)(A:iq):Prop where
 hd:A.handled=none
 dp:A.depth+3*k+5<recursionLimit
 un:A.units+16*k+200<uk
theorem Room.mono{j k:Nat}{A:iq}(r:Room k A)(h:j<=k):Room j A:=⟨r.hd,by have:=r.dp;omega,by have:=r.un;omega⟩
theorem Room.deeper{k:Nat}{A:iq}(r:Room (k+1) A)(env:Env):Room k (A.deeper env):=
 ⟨r.hd,by have:=r.dp;show A.depth+1+3*k+5<_;omega,by have:=r.un;show A.units+3+16*k+200<_;omega⟩
theorem Room.depth{k:Nat}{A:iq}(r:Room k A):A.depth<recursionLimit:=by have:=r.dp;omega
theorem Room.units{k:Nat}{A:iq}(r:Room k A):A.units+64<uk:=by have:=r.un;omega
theorem Room.units0{k:Nat}{A:iq}(r:Room k A):A.units<uk:=by have:=r.un;omega
def iS:TA:=fun _ H Q=>Q [] H
def cX(ta:TE)(tr:TA):TA:=fun σ H Q=>ta σ H fun x H1=>tr σ H1 fun xs H2=>Q (x::xs) H2
section
variable {X:Cx}{e:Expr}{es:List Expr}{te:TE}{t:TA}{pos:Pos}
theorem zd:PA X [] iS:=fun _ _ _ _ H Q I h=>Calls.spliced_nil ⟨[],H,I,.nil,h⟩
theorem za(ha:PE X e te)(hr:PA X es t)(hs:fx (e::es) X.env=(false,eval e X.env)::fx es X.env:=by rfl):PA X (e::es) (cX te t):=by
 intro pos ze s σ H Q I h;rw[hs];show cp _ _ (spliced ((false,eval e X.env)::rb pos (fx es X.env))) _ _ s;refine Calls.spliced_cons (thn (ha ze s σ H _ I h) fun u s1 ⟨x,H1,I1,r1,q1⟩=>?_);exact thn (hr pos ze s1 σ H1 _ I1 q1) fun us s2 ⟨xs,H2,I2,r2,q2⟩=>⟨x::xs,H2,I2,.cons r1 r2,q2⟩
def vM(t:TA):TE:=fun σ H Q=>t σ H fun xs H1=>xs.length<=fk/\∀p,H1 p=none->Q (.ref p) (upd H1 p (.tup xs))
def mY(t:TA):TE:=fun σ H Q=>t σ H fun xs H1=>xs.length<=fk/\∀p,H1 p=none->Q (.ref p) (upd H1 p (.lst xs))
theorem bZ{x1}(h:PA X es t):PE X (.Tuple es x1 pos) (vM t):=by
 intro ze s σ H Q I hq;refine wpAny_Tuple_spliced (thn (h pos ze s σ H _ I hq) fun us s1 ⟨xs,H1,I1,r,z,q⟩=>⟨by rw[<- r.length];exact z,?_⟩);have hf:H1 s1.heap.objs.size=none:=I1.hok.fresh (dh _);refine⟨.ref s1.heap.objs.size,upd H1 s1.heap.objs.size (.tup xs),I1.laid (t':=s1.toks) (fun b u e=>bu _ e) (dh _) ?_,rfl,q _ hf⟩;exact⟨⟨z,_,cy _ rfl,rfl⟩,us,r,⟨_,cy _ rfl,rfl,_,rfl⟩⟩
theorem fC(h:PA X es t):PE X (.List es pos) (mY t):=by
 intro ze s σ H Q I hq;refine wpAny_List_spliced (thn (h pos ze s σ H _ I hq) fun us s1 ⟨xs,H1,I1,r,z,q⟩=>⟨by rw[<- r.length];exact z,?_⟩);have hf:H1 s1.heap.objs.size=none:=I1.hok.fresh (dh _);refine⟨.ref s1.heap.objs.size,upd H1 s1.heap.objs.size (.lst xs),I1.laid (t':=s1.toks) (fun b u e=>bu _ e) (dh _) ?_,rfl,q _ hf⟩;exact⟨z,us,0,r,cy _ rfl⟩
end
abbrev Sp:=List V->Hp->VK->XK->Prop
abbrev CXT:=List Env->Hp->bq->XK->bo->bq->Prop
structure Env0(P:gf)(w:iu)(K:fe)(mg:Str->Option bo)(base:Heap)(A:iq)(outer:List Env)(s:bq)(H:Hp):Prop where
 frames:A.frames=some outer
 mod:Mod K mg base
 bs:∀b o,base.get? b=some o->s.heap.get? b=some o/\H b=none
 bsz:base.objs.size<=s.heap.objs.size
 funs:s.heap.FunFrames base outer
 frf:Frf (frs outer) H
 hok:HOk P w H s.heap
 bare:AllBare s.gens
def CE(outer:List Env)(P:gf)(w:iu)(H:Hp)(s:bq)(Q:VK)(u:bo)(s':bq):Prop:=
 ∃v H',s'.os=s.os/\AllBare s'.gens/\Un (frs outer) [] H H' s.heap s'.heap/\HOk P w H' s'.heap/\RelV v u/\Q v H'
def CR(CX:CXT)(outer:List Env)(P:gf)(w:iu)(H:Hp)(s:bq)(Q:VK)(E:XK)(r:Result)(s':bq):Prop:=
 match r with
 | .ok (.ret u)=>CE outer P w H s Q u s'
 | .ok _=>False
 | .error e=>CX outer H s E e s'
structure FnOk(P:gf)(w:iu)(K:fe)(mg:Str->Option bo)(base:Heap)(CX:CXT)(k:Nat)(f:Addr)(fd:su)(ps:List Str)(sp:Sp):Prop where
 len:∀vs H Q E,sp vs H Q E->vs.length=ps.length
 run:∀(A:iq) (outer:List Env) (s:bq) (H:Hp) (args:Args) (us:List bo) (vs:List V) (Q:VK) (E:XK),Room k A->Env0 P w K mg base A outer s H->BindsTo s fd args (ps.zip us)->Vals vs us->sp vs H Q E ->
  codeAny (model P w) A (.call (.ref f) args) (CR CX outer P w H s Q E) s
section
variable {X:Cx}{ze:List (Addr×Obj)}{σ:St}{H:Hp}{s s':bq}
theorem Inv.env0(I:Inv X ze σ H s):Env0 X.prog X.w X.K X.mg X.base X.A X.stack s H:=
 ⟨I.ok.frames,I.ok.mod,I.bs,lw I.ok.bsz I.sz,I.stack,I.stkFree,I.hok,I.bare⟩
theorem Inv.after{Q:VK}{u:bo}(I:Inv X ze σ H s)(h:CE X.stack X.prog X.w H s Q u s'):EP X ze σ Q u s':=by
 obtain⟨v,H',os,bare,un,hok,r,q⟩:=h;obtain⟨hh,g,d,t,aa⟩:=s';obtain rfl:aa=s.os:=os;exact⟨v,H',I.call (h':=hh) (g':=g) (d':=d) (t':=t) (ch:=[]) un hok bare (fun b z=>absurd z yv),r,q⟩
end
def fS(sp:Sp)(dvs:List V)(E:XK)(t:TA):TE:=fun σ H Q=>t σ H fun vs H1=>sp (vs++dvs) H1 Q E
def Binds(K:fe)(fd:su)(ps:List Str)(ds:List bo):Prop:=
 ∀(s:bq) (us:List bo),K.In s.heap->(us++ds).length=ps.length->BindsTo s fd ⟨us,[]⟩ (ps.zip (us++ds))
theorem Binds.all{K:fe}{fd:su}{ps:List Str}(h:∀us:List bo,us.length=ps.length->bindArgs fd ⟨us,[]⟩=pure (ps.zip us)):Binds K fd ps []:=fun s us _ hl=>by
 rw[kw]at hl ⊢;exact .of_eq (h us hl)
def Passes(CX:CXT)(X:Cx)(E:XK):Prop:=∀(ze:List (Addr×Obj)) (σ:St) (H:Hp) (s:bq) (e:bo) (s':bq),Inv X ze σ H s->CX X.stack H s E e s'->X.xe e s'
section
variable {X:Cx}{CX:CXT}{k:Nat}{f C:Addr}{fd:su}{ps:List Str}{sp:Sp}{dvs:List V}{ds:List bo}{E:XK}{x m:Str}{p pos apos:Pos}{e o:Expr}{es:List Expr}{ta:TE}{t:TA}
theorem Lh{ze:List (Addr×Obj)}{σ:St}{H:Hp}{s:bq}{Q:VK}{us:List bo}{vs:List V}(F:FnOk X.prog X.w X.K X.mg X.base CX k f fd ps sp)(hr:Room k X.A)(hb:Binds X.K fd ps ds)(hd:Vals dvs ds)(hx:Passes CX X E)
  (I:Inv X ze σ H s) (r:Vals vs us) (h:sp (vs++dvs) H Q E):cp (model X.prog X.w) X.A (call (.ref f) us) (EP X ze σ Q) X.xe s:=by
 have r2:Vals (vs++dvs) (us++ds):=r.append hd;have hl:(us++ds).length=ps.length:=by rw[<- r2.length];exact F.len _ _ _ _ h
 refine wpAny_call (uf (F.run X.A X.stack s H ⟨us,[]⟩ (us++ds) (vs++dvs) Q E hr I.env0 (hb s us I.kIn hl) r2 h) fun r s' hq=>?_);cases r with
 |error e=>exact hx ze σ H s e s' I hq
 |ok fl=>
  cases fl with
  |ret u=>exact I.after hq
  |next=>exact rk hq
  |brk=>exact rk hq
  |cont=>exact rk hq
theorem vN(F:FnOk X.prog X.w X.K X.mg X.base CX k f fd ps sp)(hr:Room k X.A)(hg:Gl X x)(hm:X.mg x=some (.ref f))(hk:W.keepIn X.K (.ref f)=true)(hb:Binds X.K fd ps ds)(hd:Vals dvs ds)(hx:Passes CX X E)
  (ha:PA X (e::es) t) (hdb:(x==("__debug__":Str))=false:=by decide) (he:fx (e::es) X.env=(false,eval e X.env)::fx es X.env:=by rfl) (hpl:(rb pos (fx es X.env)).any (·.1)=false:=by rfl):
  PE X (.Call (.Name x p) (e::es) [] pos) (fS sp dvs E t):=by
 intro ze s σ H Q I h;refine lc (LZ I hg hm ?_ hdb);refine W.callWith_K (h₀:=X.base) I.ok.mod.kin hk (thn (ha pos ze s σ H _ I h) fun us s1 ⟨vs,H1,I1,r,q⟩=>⟨I1.kIn,?_⟩) he hpl;exact Lh F hr hb hd hx I1 r q
end
structure FnScope(N P:List Str)(sc:Scope):Prop where
 kind:sc.kind=.function
 co:sc.isCoroutine=false
 gen:sc.isGenerator=false
 nd:N.Nodup
 pre:N.take P.length=P
 par:∀x∈P,sc.names.lookup x=some .local\/sc.names.lookup x=some .cell
 nofree:∀y∈sc.names,y.2≠.free
theorem Ct{q:Str->Option qw}{x:Str}:∀{binds:List (Str×bo)}{m:Str->Option bo},(∀v,(x,v)∉binds)->bindL q binds m x=m x
 | [],_,_=>rfl
 | (n,v)::r,m,h=>by
  unfold bindL;rw[Ct fun w hw=>h w (cz _ hw)];split
  ·have:x≠n:=by rintro rfl;exact h v dw
   simp[this]
  ·rfl
theorem EZ{q:Str->Option qw}{x:Str}:∀{binds:List (Str×bo)}{m:Str->Option bo},(∀v,(x,v)∉binds)->bindC q binds m x=m x
 | [],_,_=>rfl
 | (n,v)::r,m,h=>by
  unfold bindC;rw[EZ fun w hw=>h w (cz _ hw)];split
  ·rfl
  ·have:x≠n:=by rintro rfl;exact h v dw
   simp[this]
theorem CU{q:Str->Option qw}{x:Str}{v:bo}:∀{P:List Str}{vs:List bo}{i:Nat}{m:Str->Option bo},P.Nodup->P[i]?=some x->vs[i]?=some v->q x=some .local ->
  bindL q (P.zip vs) m x=some v
 | [],_,_,_,_,h,_,_=>by simp at h
 |_::_,[],_,_,_,_,h,_=>by simp at h
 |p::P,w::vs,0,m,nd,h1,h2,hk=>by
  simp at h1 h2;subst h1;subst h2;show bindL q ((p,w)::P.zip vs) m p=_;unfold bindL;rw[Ct fun v hv=>(nodup_cons.mp nd).1 (of_mem_zip hv).1,cn hk];simp
 |p::P,w::vs,i+1,m,nd,h1,h2,hk=>by
  show bindL q ((p,w)::P.zip vs) m x=_;unfold bindL;exact CU (i:=i) (nodup_cons.mp nd).2 (by simpa using h1) (by simpa using h2) hk
theorem Dn{q:Str->Option qw}{x:Str}{v:bo}:∀{P:List Str}{vs:List bo}{i:Nat}{m:Str->Option bo},P.Nodup->P[i]?=some x->vs[i]?=some v->q x≠some .local ->
  bindC q (P.zip vs) m x=some v
 | [],_,_,_,_,h,_,_=>by simp at h
 |_::_,[],_,_,_,_,h,_=>by simp at h
 |p::P,w::vs,0,m,nd,h1,h2,hk=>by
  simp at h1 h2;subst h1;subst h2;show bindC q ((p,w)::P.zip vs) m p=_;unfold bindC;rw[EZ fun v hv=>(nodup_cons.mp nd).1 (of_mem_zip hv).1,cm hk];simp
 |p::P,w::vs,i+1,m,nd,h1,h2,hk=>by
  show bindC q ((p,w)::P.zip vs) m x=_;unfold bindC;exact Dn (i:=i) (nodup_cons.mp nd).2 (by simpa using h1) (by simpa using h2) hk
def start(N:List Str)(vs:List V):St:=vs.map some++bx (N.length-vs.length) none
def fN(CX:CXT)(P:gf)(w:iu)(K:fe)(mg:Str->Option bo)(base:Heap)(N:List Str)(q:Str)(scope:Scope)(f:Addr)(cd:bo)(A:iq)(outer:List Env)(s:bq)(H:Hp)(E:XK):Cx where
 prog:=P
 w:=w
 K:=K
 mg:=mg
 base:=base
 A:=A.deeper (vh q scope s.heap.objs.size f cd)
 N:=N
 s₀:=s
 H₀:=H
 env:=vh q scope s.heap.objs.size f cd
 outer:=outer
 stack:=vh q scope s.heap.objs.size f cd::outer
 ex:=[]
 calm:=true
 fn:=fun _=>true
 pn:=[]
 xe:=fun e s'=>cp (model P w) (A.deeper (vh q scope s.heap.objs.size f cd)) (leaving (vh q scope s.heap.objs.size f cd) e) (fun _ s''=>CX outer H s E e s'') (fun e' s''=>CX outer H s E e' s'') s'
theorem Dg{sc:Scope}{n:Nat}{x:Str}(h:sc.names.lookup x=some .cell):∃c,(cellsFrom n sc.names []).lookup x=some c:=by
 have q:=W.cellsFrom_some sc.names n [] (.inl h);exact isSome_iff_exists.mp q
theorem JN{CX:CXT}{P:gf}{w:iu}{K:fe}{mg:Str->Option bo}{base:Heap}{N ps:List Str}{aa:Str}{scope:Scope}{f:Addr}{cd:bo}{A:iq}{outer:List Env}{s s1:bq}{H:Hp}{E:XK}{us:List bo}{vs:List V}
  (S:FnScope N ps scope) (hd:A.handled=none) (e0:Env0 P w K mg base A outer s H) (hl:vs.length=ps.length) (r:Vals vs us)
  (x:InCallC s s.heap.objs.size (bindL (vh aa scope s.heap.objs.size f cd).kindOf (ps.zip us) fun _=>none) (cellsFrom (s.heap.objs.size+1) scope.names []) (bindC (vh aa scope s.heap.objs.size f cd).kindOf (ps.zip us) fun _=>none) s1):
  Inv (fN CX P w K mg base N aa scope f cd A outer s H E) [] (start N vs) H s1:=by
 have ae:ps.length<=N.length:=by have:=congrArg ow S.pre;rw[qb]at this;omega
 obtain⟨h1,tk,rfl,hk⟩:=x.done;have ab:∀b:Addr,b∉(fN CX P w K mg base N aa scope f cd A outer s H E).ex:=fun b z=>absurd (show b∈([]:List Addr)from z) yv;refine⟨⟨e0.mod,S.kind,rfl,rfl,dh _,fun y z c h1 h2=>?_,fun y hy=>?_,fun y c _ h=>?_,fun _=>hd,Around.frames_deeper e0.frames,.inr ⟨rfl,rfl⟩,fun b z=>absurd z (ab b),e0.bs,e0.bsz,fun b _ _=>ab b,fun b z=>absurd z (ab b),e0.funs,e0.frf⟩,
  rfl,e0.bare,Un.kept hk,⟨_,x.toInCall.ns,fun i y v h1 h2 h3=>?_⟩,fun y c h=>⟨_,x.cell y c h⟩,e0.hok.fresh (dh _),fun y c h=>?_,fun p hp=>absurd (show p∈([]:List (Addr×Obj))from hp) yv,e0.hok.kept hk,?_⟩
 ·exact name_of_addr x.apart (PySem.mem_of_lookup h1) (PySem.mem_of_lookup h2)
 ·have hy:scope.names.lookup y=some .cell\/scope.names.lookup y=some .free:=hy;rcases hy with hy|hy
  ·exact Dg hy
  ·exact absurd rfl (S.nofree _ (PySem.mem_of_lookup hy))
 ·exact lz (x.above y c (PySem.mem_of_lookup h))
 ·have hi:i<vs.length:=by
   unfold start at h2;by_cases hi:i<vs.length
   ·exact hi
   ·rw[om (by simpa using hi)]at h2;rw[List.getElem?_replicate]at h2;split at h2<;>cases h2
  have ha:vs[i]?=some v:=by
   unfold start at h2;rw[gm (by simpa using hi),ie]at h2;cases e:vs[i]? with
   |none=>rw[e]at h2;cases h2
   |some a=>rw[e]at h2;cases h2;rfl
  obtain⟨u,hu,rv⟩:=r.get ha;have hp:ps[i]?=some y:=by
   rw[<- S.pre,List.getElem?_take_of_lt yw];exact h1
  have ac:ps.Nodup:=by rw[<- S.pre];exact S.nd.sublist (List.take_sublist _ _)
  refine⟨u,rv,?_⟩;rcases S.par y (bw hp)with k|k
  ·exact .inl ⟨k,CU ac hp hu k⟩
  ·obtain⟨c,e⟩:=Dg (n:=s.heap.objs.size+1) k;refine .inr ⟨.inl k,c,e,?_⟩;have q:=x.cell y c e;rw[Dn ac hp hu (by show scope.names.lookup y≠_;rw[k];decide)]at q;exact q
 ·exact e0.hok.fresh (lz (x.above y c (PySem.mem_of_lookup h)))
 ·unfold start;show _=N.length;rw[fu,cu,List.length_replicate];omega
theorem L4{CX:CXT}{P:gf}{w:iu}{K:fe}{mg:Str->Option bo}{base:Heap}{k:Nat}{f:Addr}{name z:Str}{ab:Arguments}{ac:List Stmt}{scope:Scope}{dV kV ag pm aa ct oc:bo}{an od:Option Addr}
  {osl:Array (Option bo)}{N ps:List Str}{sp:Sp} (lk:K.lookup f=some ⟨oc,od,.func (W.fnOf name z ab ac scope dV kV ag pm an aa ct),osl⟩) (hcd:W.codeIn K aa z=true) (S:FnScope N ps scope)
  (len:∀vs H Q E,sp vs H Q E->vs.length=ps.length)
  (hbody:∀(A:iq) (outer:List Env) (s:bq) (H:Hp) (vs:List V) (Q:VK) (E:XK),Room k (A.deeper (vh z scope s.heap.objs.size f aa))->sp vs H Q E ->
   ∃t,PSs (fN CX P w K mg base N z scope f aa A outer s H E) ac t/\t { nx:=fun _ H'=>Q .non H',rt:=Q } (start N vs) H):
  FnOk P w K mg base CX (k+1) f (W.fnOf name z ab ac scope dV kV ag pm an aa ct) ps sp:=by
 refine⟨len,fun A outer s H args us vs Q E hr e0 hb r af=>?_⟩;have hl:=len _ _ _ _ af;have KX:K.In s.heap:=e0.mod.kin.keeps fun b o e=>(e0.bs b o e).1;have ah:s.heap.NoLimit:=e0.mod.nolimit.keeps fun b o e=>(e0.bs b o e).1;have ae:∀y∈ps.zip us,scope.names.lookup y.1=some .local\/(scope.names.lookup y.1=some .cell/\((cellsFrom (s.heap.objs.size+1) scope.names []).lookup y.1).isSome=true):=fun⟨n,v⟩ hy=>by
  rcases S.par n (of_mem_zip hy).1 with q|q
  ·exact .inl q
  ·exact .inr ⟨q,W.cellsFrom_some _ _ _ (.inl q)⟩
 refine codeAny_call_function hr.depth (KX _ _ lk) rfl S.co S.gen rfl (W.codeRec_of KX hcd) (hb _ _ _ _ ?_);refine wpAny_newFunctionEnv_cells S.kind ae fun env he s1 x=>?_;subst he;refine⟨ah.keeps x.toInCall.keep,codeAny_func ?_⟩;obtain⟨t,ht,hq⟩:=hbody A outer s H vs Q E (hr.deeper _) af;have I:Inv (fN CX P w K mg base N z scope f aa A outer s H E) [] (start N vs) H s1:=JN S hr.hd e0 hl r x;refine qe (ht [] s1 (start N vs) H _ I hq) (fun fl s' hs=>?_) fun e s' hs=>hs;have fin:∀{σ':St}{H':Hp}{v:V}{u:bo},Inv (fN CX P w K mg base N z scope f aa A outer s H E) [] σ' H' s'->RelV v u->Q v H'->CE outer P w H s Q u s':=
  fun {σ' H' v u} J rv q=>⟨v,H',J.os,J.bare,J.base,J.hok,rv,q⟩
 cases fl with
 |ret u=>
  obtain⟨v,σ',H',J,rv,q⟩:=hs;exact fin J rv q
 |next=>
  obtain⟨σ',H',J,q⟩:=hs;exact fin (v:=V.non) (u:=lj) J rfl q
 |brk=>
  obtain⟨_,_,_,q⟩:=hs;exact rk q
 |cont=>
  obtain⟨_,_,_,q⟩:=hs;exact rk q
end
section
section
variable {X:Cx}{x:Str}{p pos:Pos}{e:Expr}{es:List Expr}{t:TA}{id T:String}{r:List V->Hp->VK->Prop}
def tCB(r:List V->Hp->VK->Prop)(t:TA):TE:=fun σ H Q=>t σ H fun vs H1=>r vs H1 Q
theorem zo(hc:CallR X (.builtin id) r)(hg:Gl X x)(hm:X.mg x=none)(hv:jq x=some (.builtin id))(ha:PA X (e::es) t)(hn:x ≠ "__name__":=by decide)(q:(x==("__debug__":Str))=false:=by decide)
  (he:fx (e::es) X.env=(false,eval e X.env)::fx es X.env:=by rfl) (hpl:(rb pos (fx es X.env)).any (·.1)=false:=by rfl):PE X (.Call (.Name x p) (e::es) [] pos) (tCB r t):=by
 intro ze s σ H Q I h;refine lc (eJ I hg hm hv ?_ hn q);exact PyProof.Rows.callWith_builtin1 (thn (ha pos ze s σ H _ I h) fun us s1 ⟨vs,H1,I1,r1,q1⟩=>hc ze s1 σ H1 vs us Q I1 r1 q1) he hpl
theorem mK(hc:CallR X (.type T) r)(hg:Gl X x)(hm:X.mg x=none)(hv:jq x=some (.type T))(ha:PA X (e::es) t)(hn:x ≠ "__name__":=by decide)(q:(x==("__debug__":Str))=false:=by decide)
  (he:fx (e::es) X.env=(false,eval e X.env)::fx es X.env:=by rfl) (hpl:(rb pos (fx es X.env)).any (·.1)=false:=by rfl):PE X (.Call (.Name x p) (e::es) [] pos) (tCB r t):=by
 intro ze s σ H Q I h;refine lc (eJ I hg hm hv ?_ hn q);exact kr (thn (ha pos ze s σ H _ I h) fun us s1 ⟨vs,H1,I1,r1,q1⟩=>hc ze s1 σ H1 vs us Q I1 r1 q1) he hpl
end
end
end L2
namespace HT
open PySem PyProof.Rows
def lexLt:List Int->List Int->Bool
 | [],[]=>false
 | [],_::_=>true
 |_::_,[]=>false
 |x::xs,y::ys=>if x=y then lexLt xs ys else decide (x<y)
theorem lexLt_cons(x y:Int)(xs ys:List Int):lexLt (x::xs) (y::ys)=if x=y then lexLt xs ys else decide (x<y):=rfl
theorem LV:lexLt [] []=false:=rfl
theorem Il(y:Int)(ys:List Int):lexLt [] (y::ys)=true:=rfl
theorem M0(x:Int)(xs:List Int):lexLt (x::xs) []=false:=rfl
theorem KY(A:iq)(s:bq)(a:Int)(t:Tok)(c:Int)(u:Tok):∃e,SeqAt.EqAt A s (.int a t) (.int c u) e/\(e=true↔a=c):=
 ⟨(a==c),SeqAt.EqAt.int_int a t c u,yv⟩
theorem Hm(A:iq)(s:bq)(a:Int)(t:Tok)(c:Int)(u:Tok)(prog:gf)(w:iu)(E:bo->bq->Prop)(Q:bo->bq->Prop)(h:Q (.bool (decide (a<c))) s):
  cp (model prog w) A (richCompare .Lt (.int a t) (.int c u)) Q E s:=
 (PyProof.Rows.lt_int h:cp (model prog w) A (ki .Lt (.int a t) (.int c u)) Q E s)
section
open PySem.SeqAt
open PySem.AutoSeq1 (wpAny_loadPart')
open PySem.MeetsSeq PySem.MeetsSeq2 PySem.MeetsSeq3
theorem ML(l b:Addr)(aa z:Array bo)(n n2:Nat)(dd af:Option Addr)(sl ac:Array (Option bo))(ns ms:List Int)(hi:kz aa.toList ns)(hj:kz z.toList ms):
  Meets (lg.«tuple.__lt__» ⟨[.ref l,.ref b],[]⟩)
   (fun _ R s=>s.heap.get? l=some { cls:=.type "tuple",dict:=dd,data:=.seq aa n,slots:=sl }/\s.heap.get? b=some { cls:=.type "tuple",dict:=af,data:=.seq z n2,slots:=ac } /\
    R (.ok (.ret (.bool (lexLt ns ms)))) s):=
 .of_wp fun prog w A R s h=>by
  obtain⟨hp,g,d,tk,os⟩:=s;obtain⟨hl,hb,h⟩:=h;have f2:=AutoSeq1.sub_tuple_tuple;have z1:aa.size=ns.length:=by rw[<- hi.length];simp
  have z2:z.size=ms.length:=by rw[<- hj.length];simp
  wp_walk using wpAny_loadPart' hl,wpAny_loadPart' hb,wpAny_forIn_list _ (fun rest b s'=>b.1=none/\s'=⟨hp,g,d,tk,os⟩/\∃(vs ws:List bo) (ns' ms':List Int),rest=vs.zip ws /\
   kz vs ns'/\kz ws ms'/\ns'.length+z.size=ms'.length+aa.size/\R (.ok (.ret (.bool (lexLt ns' ms')))) ⟨hp,g,d,tk,os⟩) _
  case turn=>
   rintro⟨y,x⟩ rest b s' ⟨hb',rfl,vs,ws,ns',ms',hz,hvi,hwi,hlen,hR⟩;cases hvi with
   |nil=>rw[List.zip_nil_left]at hz;cases hz
   |cons a t hvi'=>
    cases hwi with
    |nil=>rw[List.zip_nil_right]at hz;cases hz
    |cons c u hwi'=>
     rw[zip_cons_cons]at hz;injection hz with hyx hrest
     injection hyx with hy hx
     subst hy hx;rw[lexLt_cons]at hR;simp only[ft]at hlen;obtain⟨e,he,ab⟩:=KY A.in1 ⟨hp,g,d,tk,os⟩ a t c u;refine bn (he prog w _ _ ?_);cases e with
     |true=>
      rw[cn (ab.mp rfl)]at hR
      wp_walk
      exact⟨rfl,rfl,_,_,_,_,hrest,hvi',hwi',yw,hR⟩
     |false=>
      rw[cm (fun q=>absurd (ab.mpr q) jg)]at hR;have ae:=Hm A.in1 ⟨hp,g,d,tk,os⟩ a t c u prog w
      wp_walk using ae
      exact⟨_,rfl,by simpa using hR⟩
  case fin=>
   rintro⟨b1,b2⟩ s' ⟨hb',rfl,vs,ws,ns',ms',hz,hvi,hwi,hlen,hR⟩;simp only at hb';subst hb';have hv:lexLt ns' ms'=decide (aa.size<z.size):=by
    cases hvi with
    |nil=>
     cases hwi with
     |nil=>
      simp only[length_nil]at hlen;rw[LV];exact(fw yw).symm
     |cons c u hw=>
      simp only[length_nil,ft]at hlen;rw[Il];exact(fy yw).symm
    |cons a t hv=>
     cases hwi with
     |nil=>
      simp only[length_nil,ft]at hlen;rw[M0];exact(fw yw).symm
     |cons c u hw=>
      rw[zip_cons_cons]at hz;cases hz
   rw[hv]at hR
   wp_walk
   exact⟨_,rfl,by simpa[Builtin.Tuple.tupleCompareSizes]using hR⟩
  case h=>
   exact⟨rfl,rfl,aa.toList,z.toList,ns,ms,rfl,hi,hj,yw,h⟩
end
section
variable {prog:gf}{w:iu}{A:iq}{E:bo->bq->Prop}{s:bq}
theorem lt_tupInts{l b:Addr}{z q:Array bo}{ns ms:List Int}{Q:bo->bq->Prop}(hl:IsTup s.heap l z)(hb:IsTup s.heap b q)(hi:kz z.toList ns)(hj:kz q.toList ms)
  (hu:A.units<uk) (h:Q (.bool (lexLt ns ms)) s):cp (model prog w) A (ki .Lt (.ref l) (.ref b)) Q E s:=by
 obtain⟨⟨cls,dd,data,sl⟩,ho,hc,n,hd⟩:=id hl;obtain⟨⟨ah,af,ag,ae⟩,ab,aa,n2,ac⟩:=id hb;simp only at hc hd aa ac;subst hc hd aa ac;exact richCompare_meets_room (op:=.Lt) ⟨_,ho,rfl⟩ ⟨_,ab,rfl⟩ PySem.F.slot_tuple_lt PySem.F.entry_tuple_lt (PySem.F.args_tuple_lt_2 _ _) (ML l b z q n n2 dd af sl ae ns ms hi hj)
  ⟨ho,ab,show Value.bool (lexLt ns ms)≠Value.notImplemented/\Q (.bool (lexLt ns ms)) s from⟨(fun x=>nomatch x),h⟩⟩ hu
theorem cat_tup{t b:Addr}{vs ws:List bo}{Q:bo->bq->Prop}(ht:IsTup s.heap t vs.toArray)(hb:IsTup s.heap b ws.toArray)(hv:vs≠[])
  (h1:ws=[]->Q (.ref t) s) (h2:ws≠[]->Q (.ref s.heap.objs.size) { s with heap:=s.heap.push { cls:=.type "tuple",data:=.seq (vs++ws).toArray } })
  (hsz:vs.length+ws.length<=fk):cp (model prog w) A (oh .Add (.ref t) (.ref b)) Q E s:=by
 obtain⟨⟨cls,dd,data,sl⟩,ho,hc,n,hd⟩:=id ht;obtain⟨⟨af,aa,ae,z⟩,q,ab,n2,ac⟩:=id hb;simp only at hc hd ab ac;subst hc hd ab ac;have e:vs.toArray++ws.toArray=(vs++ws).toArray:=by simp
 by_cases hw:ws=[]
 ·exact concat_meets ⟨_,ho,rfl⟩ ⟨_,q,rfl⟩ noFill_tuple_add seq_tuple_add PySem.F.slot_tuple_add PySem.F.entry_tuple_add (PySem.F.args_tuple_add_2 _ _)
   (tuple_addW1 t b vs.toArray ws.toArray n n2 dd aa sl z (by simpa using hv) (by simp[hw])) ⟨ho,q,h1 hw⟩
 ·refine concat_meets ⟨_,ho,rfl⟩ ⟨_,q,rfl⟩ noFill_tuple_add seq_tuple_add PySem.F.slot_tuple_add PySem.F.entry_tuple_add (PySem.F.args_tuple_add_2 _ _)
   (tuple_addW2 t b vs.toArray ws.toArray n n2 dd aa sl z (by simpa using hv) (by simpa using hw) (by rw[fq,fq];exact hsz)) ⟨ho,q,?_⟩
  rw[e];exact h2 hw
def sIx(n d:Nat):Option Int->Nat
 |none=>d
 |some v=>if v<0 then (v+(n:Int)).toNat else min v.toNat n
theorem sIx_none(n d:Nat):sIx n d none=d:=rfl
theorem sIx_nat(n d k:Nat):sIx n d (some (k:Int))=min k n:=by
 show (if (k:Int)<0 then ((k:Int)+(n:Int)).toNat else min (k:Int).toNat n)=min k n;rw[cm yw,im]
theorem Hi(n d:Nat)(hd:d<=n)(o:Option Int):sIx n d o<=n:=by
 cases o with
 |none=>exact hd
 |some v=>
  show (if v<0 then (v+(n:Int)).toNat else min v.toNat n)<=n;by_cases hv:v<0
  ·rw[cn hv];omega
  ·rw[cm hv];exact Nat.min_le_right _ _
theorem Fn(v:Int)(n d:Nat):(if v<0 then max (v+(n:Int)) 0 else min v (n:Int))=((sIx n d (some v):Nat):Int):=by
 show (if v<0 then max (v+(n:Int)) 0 else min v (n:Int))=(((if v<0 then (v+(n:Int)).toNat else min v.toNat n):Nat):Int);by_cases hv:v<0
 ·simp only[cn hv];omega
 ·simp only[cm hv];omega
theorem Kt(lo hi:Option Int)(n:Nat):Builtin.Slice.sliceAdjust lo hi 1 (n:Int)=(((sIx n 0 lo:Nat):Int),((sIx n n hi:Nat):Int)):=by
 have h1:¬((1:Int)<0):=yw
 unfold Builtin.Slice.sliceAdjust;simp only[h1,if_false];refine Prod.ext ?_ ?_
 ·cases lo with
  |none=>rfl
  |some v=>exact Fn v n 0
 ·cases hi with
  |none=>rfl
  |some v=>exact Fn v n n
theorem HN(i j:Nat):Builtin.Slice.slicePlaces (i:Int) (j:Int) 1=j-i:=by
 unfold Builtin.Slice.slicePlaces;have h1:(1:Int)>0:=yw
 simp only[h1,if_true,Int.ediv_one];split<;>omega
theorem Bn{v:bo}{o:Option Int}{Q:Option Int->bq->Prop}(p:IsPart v o)(h:Q o s):cp (model prog w) A (Builtin.Slice.slicePartIndex v) Q E s:=by
 cases p with
 |none=>exact slicePart_none h
 |int i t=>exact slicePart_int h
theorem Af{sl:Addr}{vl vu:bo}{lo hi:Option Int}{n:Nat}{Q:Int×Int×Nat->bq->Prop}(hs:s.heap.IsSliceOf sl vl vu .none)(pl:IsPart vl lo)(pu:IsPart vu hi)
  (h:Q (((sIx n 0 lo:Nat):Int),1,sIx n n hi-sIx n 0 lo) s):cp (model prog w) A (Builtin.Slice.sliceApplied (.ref sl) (pure (n:Int))) Q E s:=by
 obtain⟨os,z,aa,q⟩:=id hs;unfold Builtin.Slice.sliceApplied Builtin.Slice.sliceFields;refine bn (bn (jt z q (x:=vl) rfl (bn (jt z q (x:=vu) rfl (bn (jt z q (x:=.none) rfl (bp ?_)))))));refine bn (slicePart_none ?_);show cp _ _ (if ((1:Int)==0)=true then _ else _) _ _ s;rw[cm dz];refine bn (Bn pl (bn (Bn pu (bn (bp ?_)))));show cp _ _ (match Builtin.Slice.sliceAdjust lo hi 1 (n:Int)with|(lo,hi)=>pure (lo,(1:Int),Builtin.Slice.slicePlaces lo hi 1)) _ _ s;rw[Kt lo hi n];show cp _ _ (pure (((sIx n 0 lo:Nat):Int),(1:Int),Builtin.Slice.slicePlaces ((sIx n 0 lo:Nat):Int) ((sIx n n hi:Nat):Int) 1)) _ _ s;rw[HN];exact bp h
theorem J6(xs:Array bo)(i k:Nat):((gg k).filterMap fun(m:Nat)=>xs[((i:Int)+(m:Int)*1).toNat]?).toArray=((xs.toList.drop i).take k).toArray:=by
 have e:(fun(m:Nat)=>xs[((i:Int)+(m:Int)*1).toNat]?)=fun m=>xs[i+m]?:=by
  funext m;have:((i:Int)+(m:Int)*1).toNat=i+m:=yw
  rw[this]
 rw[e];have:=pick_run xs i k;rw[List.filterMap_map]at this;have e2:((fun x=>xs[x]?)∘fun x=>i+x)=fun m=>xs[i+m]?:=rfl;rw[e2]at this;rw[this]
theorem getItem_tuple_cut{t sl:Addr}{z:Array bo}{vl vu:bo}{lo hi:Option Int}{Q:bo->bq->Prop}(ht:IsTup s.heap t z)(hs:s.heap.IsSliceOf sl vl vu .none)(pl:IsPart vl lo)(pu:IsPart vu hi)
  (hw:¬(sIx z.size 0 lo=0/\sIx z.size z.size hi=z.size))
  (h:Q (.ref s.heap.objs.size) { s with heap:=s.heap.push { cls:=.type "tuple",data:=.seq ((z.toList.drop (sIx z.size 0 lo)).take (sIx z.size z.size hi-sIx z.size 0 lo)).toArray } })
  (hsz:z.size<=fk):cp (model prog w) A (getItem (.ref t) (.ref sl)) Q E s:=by
 have aa:sizeOk (.seq ((z.toList.drop (sIx z.size 0 lo)).take (sIx z.size z.size hi-sIx z.size 0 lo)).toArray):=by
  show ((z.toList.drop (sIx z.size 0 lo)).take (sIx z.size z.size hi-sIx z.size 0 lo)).toArray.size<=fk;rw[fq,qb,length_drop,gh];omega
 have hj:sIx z.size z.size hi<=z.size:=Hi _ _ (dh _) hi;obtain⟨os,ac,af,ag⟩:=id hs;have ab:s.TypeIs (.ref sl) "slice":=⟨os,ac,af⟩;unfold getItem
 try with_reducible refine jd ?_
 first|refine bn (bp ?_)|skip
 refine bn (wpAny_sequenceKey ht.typeIs dz ?_);refine bn (gw (name:=lh "__getitem__") ht.typeIs PyProof.Rows.slot_tuple_getitem
  (gx PyProof.Rows.slot_tuple_getitem ht.typeIs entry_tuple_getitem ?_ (args_tuple_getitem _ _)))
 show cp _ _ (Builtin.Tuple.tupleItemsOf (.ref t) >>= _) _ _ s;refine bn (tupleItemsOf_ ht ?_);refine bn (ug ab ?_);rw[cn dz];refine bn (Af hs pl pu ?_);have ae:¬((((sIx z.size 0 lo:Nat):Int)==0&&(1:Int)==1&&(sIx z.size z.size hi-sIx z.size 0 lo)==z.size)=true):=by
  intro q;rw[ix,ix]at q;have q1:((sIx z.size 0 lo:Nat):Int)=0:=eq_of_beq q.1.1;have q2:sIx z.size z.size hi-sIx z.size 0 lo=z.size:=eq_of_beq q.2;exact hw ⟨yw,yw⟩
 show cp _ _ (if (((sIx z.size 0 lo:Nat):Int)==0&&(1:Int)==1&&(sIx z.size z.size hi-sIx z.size 0 lo)==z.size)=true then _ else _) _ _ s;rw[cm ae,J6]
 first
  |exact bn (m:=Builtin.Tuple.tupleExact _) (io (bp ⟨_,rfl,bp h⟩) aa)
  |exact bn (m:=Builtin.Tuple.tupleExact _) (io (bn (bp (bp ⟨_,rfl,bp h⟩))) aa)
  |exact bn (bn (m:=Builtin.Tuple.tupleExact _) (io (bp (bp ⟨_,rfl,bp h⟩)) aa))
  |exact bn (bn (m:=Builtin.Tuple.tupleExact _) (io (bp ⟨_,rfl,bp h⟩) aa))
end
end HT
namespace L2
open PySem PySem.Spec PyProof.Rows
section
abbrev TO:=St->Hp->(Option Int->Hp->Prop)->Prop
def PO(X:Cx)(e:Option Expr)(t:TO):Prop:=
 ∀(ze:List (Addr×Obj)) (s:bq) (σ:St) (H:Hp) (Q:Option Int->Hp->Prop),Inv X ze σ H s->t σ H Q ->
  cp (model X.prog X.w) X.A (evalPart e X.env) (fun u s'=>∃o H',Inv X ze σ H' s'/\IsPart u o/\Q o H') X.xe s
def EB:TO:=fun _ H Q=>Q none H
def l9(t:TE):TO:=fun σ H Q=>t σ H fun x H1=>∃i,x=.int i/\Q (some i) H1
theorem iP{ns:List Int}:∀{us:List bo},Vals (ns.map V.int) us->kz us ns:=by
 induction ns with
 |nil=>intro us r;rw[map_nil]at r;cases r;exact .nil
 |cons n ns ih=>
  intro us r;rw[ga]at r;cases r with
  |cons r1 r2=>
   obtain⟨t,e⟩:=r1;subst e;exact .cons n t (ih r2)
section
variable {X:Cx}{e:Expr}{te:TE}{lo hi:Option Expr}{tl th:TO}{pos p2:Pos}
theorem vA:PO X none EB:=by
 intro ze s σ H Q I h;rw[evalPart_none];exact bp ⟨none,H,I,.none,h⟩
theorem lL(h:PE X e te):PO X (some e) (l9 te):=by
 intro ze s σ H Q I hw;rw[evalPart_some];refine thn (h ze s σ H _ I hw) fun u s1 ⟨x,H1,I1,r1,q1⟩=>?_;obtain⟨i,rfl,q⟩:=q1;obtain⟨t,rfl⟩:=r1;exact⟨some i,H1,I1,.int i t,q⟩
def SlR(X:Cx)(r:V->Option Int->Option Int->Hp->VK->Prop):Prop:=
 ∀(ze:List (Addr×Obj)) (s:bq) (σ:St) (H:Hp) (x:V) (v vl vu:bo) (lo hi:Option Int) (sl:Addr) (Q:VK),Inv X ze σ H s->RelV x v->s.heap.IsSliceOf sl vl vu .none->IsPart vl lo->IsPart vu hi->r x lo hi H Q ->
  ∃T id,typeLookup (.type T) "__getitem__" = pure (some (.builtin id))/\s.TypeIs v T/\cp (model X.prog X.w) X.A (getItem v (.ref sl)) (EP X ze σ Q) X.xe s
theorem SlR.or{r r':V->Option Int->Option Int->Hp->VK->Prop}(h:SlR X r)(h':SlR X r'):SlR X (fun x lo hi H Q=>r x lo hi H Q\/r' x lo hi H Q):=by
 intro ze s σ H x v vl vu lo hi sl Q I rx hs pl pu q;rcases q with q|q
 ·exact h ze s σ H x v vl vu lo hi sl Q I rx hs pl pu q
 ·exact h' ze s σ H x v vl vu lo hi sl Q I rx hs pl pu q
def tSl(r:V->Option Int->Option Int->Hp->VK->Prop)(te:TE)(tl th:TO):TE:=fun σ H Q=>te σ H fun x H1=>tl σ H1 fun l H2=>th σ H2 fun u H3=>r x l u H3 Q
theorem rP{r:V->Option Int->Option Int->Hp->VK->Prop}(hr:SlR X r)(he:PE X e te)(hl:PO X lo tl)(hu:PO X hi th):PE X (.Subscript e (.Slice lo hi none p2) pos) (tSl r te tl th):=by
 intro ze s σ H Q I h;refine Subscript_ (thn (he ze s σ H _ I h) fun v s1 ⟨x,H1,I1,r1,q1⟩=>?_);refine wpAny_Slice (thn (hl ze s1 σ H1 _ I1 q1) fun vl s2 ⟨l,H2,I2,pl,q2⟩=>thn (hu ze s2 σ H2 _ I2 q2) fun vu s3 ⟨u,H3,I3,pu,q3⟩=>?_);rw[evalPart_none];refine bp ?_;have I4:Inv X ze σ H3 { s3 with heap:=s3.heap.push { cls:=.type "slice",data:=.fields #[vl,vu,.none] } }:=I3.kept (t':=s3.toks) fun b ob q=>bu _ q;obtain⟨T,id,hT,ht,hg⟩:=hr ze { s3 with heap:=s3.heap.push { cls:=.type "slice",data:=.fields #[vl,vu,.none] } } σ H3 x v vl vu l u s3.heap.objs.size Q I4 r1 (Heap.IsSliceOf.new ..) pl pu q3;show cp (model X.prog X.w) X.A (subscriptTail e (.Slice lo hi none p2) v (.ref s3.heap.objs.size)) (EP X ze σ Q) X.xe { s3 with heap:=s3.heap.push { cls:=.type "slice",data:=.fields #[vl,vu,.none] } };exact tail_any (ops:=[.ref s3.heap.objs.size,v]) ht hT hg (by with_unfolding_all rfl)
def dH(xs:List V)(lo hi:Option Int):List V:=(xs.drop (HT.sIx xs.length 0 lo)).take (HT.sIx xs.length xs.length hi-HT.sIx xs.length 0 lo)
theorem AB(xs:List V)(lo hi:Option Int):(dH xs lo hi).length<=xs.length:=by
 unfold dH;rw[qb,length_drop];omega
def AF(K:fe):V->Option Int->Option Int->Hp->VK->Prop:=fun x lo hi H Q=>∃a xs,x=.ref a/\SqT K H a xs /\
 ¬(HT.sIx xs.length 0 lo=0/\HT.sIx xs.length xs.length hi=xs.length)/\∀p,H p=none->Q (.ref p) (upd H p (.tup (dH xs lo hi)))
theorem Bf:SlR X (AF X.K):=by
 intro ze s σ H x v vl vu lo hi sl Q I rx hs pl pu h;obtain⟨a,xs,rfl,hx,hw,q⟩:=h;cases rx;obtain⟨aa,r,ht,hz⟩:=I.tuple hx;have z:aa.toArray.size=xs.length:=by rw[fq];exact r.length.symm
 refine⟨"tuple",_,PyProof.Rows.slot_tuple_getitem.lookup,ht.typeIs,?_⟩;refine HT.getItem_tuple_cut ht hs pl pu (by rw[z];exact hw) ?_ (by rw[z];exact hz);rw[z];refine⟨.ref s.heap.objs.size,_,I.laid (t':=s.toks) (o:=.tup (dH xs lo hi)) (fun b ob q=>bu _ q) (dh _) ?_,rfl,q _ (I.hok.fresh (dh _))⟩;exact⟨⟨lw (AB xs lo hi) hz,_,cy _ rfl,rfl⟩,_,(r.drop (HT.sIx xs.length 0 lo)).take (HT.sIx xs.length xs.length hi-HT.sIx xs.length 0 lo),IsTup.new _ _⟩
def DC(K:fe):R2:=fun x y H Q=>∃a b ns ms,x=.ref a/\y=.ref b/\SqT K H a (ns.map V.int)/\SqT K H b (ms.map V.int)/\Q (.bl (HT.lexLt ns ms)) H
theorem Gr(hu:X.A.units<uk):OpR X (ki .Lt) (DC X.K):=by
 intro ze s σ H x y v u Q I rx ry h;obtain⟨a,b,ns,ms,rfl,rfl,ha,hb,q⟩:=h;cases rx;cases ry;obtain⟨aa,r1,p1,_⟩:=I.tuple ha;obtain⟨z,r2,p2,_⟩:=I.tuple hb;have i1:kz aa.toArray.toList ns:=iP r1;have i2:kz z.toArray.toList ms:=iP r2;exact HT.lt_tupInts p1 p2 i1 i2 hu ⟨.bl (HT.lexLt ns ms),H,I,rfl,q⟩
def xA(K:fe):R2:=fun x y H Q=>∃a b xs ys,x=.ref a/\y=.ref b/\SqT K H a xs/\SqT K H b ys/\xs≠[]/\xs.length+ys.length<=fk /\
 (ys=[]->Q (.ref a) H)/\(ys≠[]->∀p,H p=none->Q (.ref p) (upd H p (.tup (xs++ys))))
theorem Vals.nil_iff{xs:List V}{us:List bo}(r:Vals xs us):us=[]↔xs=[]:=by
 cases r with
 |nil=>simp
 |cons _ _=>simp
theorem KA:OpR X (oh .Add) (xA X.K):=by
 intro ze s σ H x y v u Q I rx ry h;obtain⟨a,b,xs,ys,rfl,rfl,ha,hb,hx,hz,q1,q2⟩:=h;cases rx;cases ry;obtain⟨ab,r1,p1,_⟩:=I.tuple ha;obtain⟨aa,r2,p2,_⟩:=I.tuple hb;refine HT.cat_tup p1 p2 (fun z=>hx (r1.nil_iff.mp z)) (fun z=>⟨.ref a,H,I,rfl,q1 (r2.nil_iff.mp z)⟩) (fun z=>?_) (by rw[<- r1.length,<- r2.length];exact hz);refine⟨.ref s.heap.objs.size,_,I.laid (t':=s.toks) (o:=.tup (xs++ys)) (fun b ob q=>bu _ q) (dh _) ?_,rfl,q2 (fun w=>z (r2.nil_iff.mpr w)) _ (I.hok.fresh (dh _))⟩;exact⟨⟨by rw[fu];exact hz,_,cy _ rfl,rfl⟩,_,r1.append r2,IsTup.new _ _⟩
end
end
section
def ixN(n:Nat)(i:Int):Option Nat:=if 0<=i then (if i<n then some i.toNat else none)else if -(n:Int)<=i then some (i+n).toNat else none
def atI{α:Type}(xs:List α)(i:Int):Option α:=(ixN xs.length i).bind fun j=>xs[j]?
theorem Ek{n:Nat}{i:Int}{j:Nat}(h:ixN n i=some j):seqIndex? i n=some j/\j<n/\-(n:Int)<=i/\i<n:=by
 unfold ixN at h;by_cases h0:0<=i
 ·rw[cn h0]at h;by_cases h1:i<n
  ·rw[cn h1]at h;have e:i.toNat=j:=ji h;exact⟨by rw[seqIndex_of h0 h1,e],yw,yw,h1⟩
  ·rw[cm h1]at h;cases h
 ·rw[cm h0]at h;by_cases h1:-(n:Int)<=i
  ·rw[cn h1]at h;have e:(i+n).toNat=j:=ji h;exact⟨by rw[seqIndex_neg yw h1,e],yw,h1,yw⟩
  ·rw[cm h1]at h;cases h
theorem wC{α:Type}{xs:List α}{i:Int}{v:α}(h:atI xs i=some v):∃j,seqIndex? i xs.length=some j/\xs[j]?=some v/\j<xs.length/\-(xs.length:Int)<=i/\i<xs.length:=by
 unfold atI at h;cases e:ixN xs.length i with
 |none=>rw[e]at h;cases h
 |some j=>
  rw[e]at h;obtain⟨h1,h2,h3,h4⟩:=Ek e;exact⟨j,h1,h,h2,h3,h4⟩
theorem hU{α:Type}{xs:List α}{j:Nat}{v:α}(h:xs[j]?=some v):atI xs (j:Int)=some v:=by
 have hj:j<xs.length:=(List.getElem?_eq_some_iff.mp h).1;have e:ixN xs.length (j:Int)=some j:=by
  unfold ixN;rw[cn yw,cn yw];simp
 unfold atI;rw[e];exact h
def PlainIx(b:Expr):Prop:=∀o i,subscripted b false o i=operate [o,i] (getItem o i)
def IxR(X:Cx)(r:R2):Prop:=
 ∀(value slice:Expr) (ze:List (Addr×Obj)) (s:bq) (σ:St) (H:Hp) (x y:V) (v u:bo) (Q:VK),Inv X ze σ H s->RelV x v->RelV y u->r x y H Q ->
  subscripted slice false v u=operate [v,u] (getItem v u)->cp (model X.prog X.w) X.A (subscriptTail value slice v u) (EP X ze σ Q) X.xe s
def MtR(X:Cx)(id:String)(r:V->List V->Hp->VK->Prop):Prop:=
 ∀(ze:List (Addr×Obj)) (s:bq) (σ:St) (H:Hp) (x:V) (xs:List V) (v:bo) (us:List bo) (Q:VK),Inv X ze σ H s->RelV x v->Vals xs us->r x xs H Q ->
  cp (model X.prog X.w) X.A (call (.builtin id) (v::us)) (EP X ze σ Q) X.xe s
section
variable {X:Cx}{a b:Expr}{ta tb:TE}{pos:Pos}
theorem IxR.or{r r':R2}(h:IxR X r)(h':IxR X r'):IxR X (fun x y H Q=>r x y H Q\/r' x y H Q):=by
 intro value z ze s σ H x y v u Q I rx ry q hs;rcases q with q|q
 ·exact h value z ze s σ H x y v u Q I rx ry q hs
 ·exact h' value z ze s σ H x y v u Q I rx ry q hs
theorem aH{r:R2}(hr:IxR X r)(ha:PE X a ta)(hb:PE X b tb)(hs:PlainIx b):PE X (.Subscript a b pos) (tOp r ta tb):=by
 intro ze s σ H Q I h;exact Subscript_ (yQ ha hb I h fun v u s2 x y H2 I2 rx ry q=>hr a b ze s2 σ H2 x y v u Q I2 rx ry q (hs _ _))
def xP(K:fe):R2:=fun x y H Q=>∃p xs i v,x=.ref p/\y=.int i/\SqL K H p xs/\atI xs i=some v/\Q v H
def wK(K:fe):R2:=fun x y H Q=>∃p xs i v,x=.ref p/\y=.int i/\SqT K H p xs/\atI xs i=some v/\Q v H
def AV:R2:=fun x y H Q=>∃z i c,x=.str z/\y=.int i/\z.length<=fk/\atI z.cps.toList i=some c/\Q (.str ⟨#[c]⟩) H
theorem Bs:IxR X (xP X.K):=by
 intro value ac ze s σ H x y v u Q I rx ry h hs;obtain⟨p,xs,i,z,rfl,rfl,hq,he,q⟩:=h;cases rx;obtain⟨t,rfl⟩:=ry;obtain⟨ab,r,pl,hz⟩:=I.list hq;obtain⟨j,h1,h2,h3,h4,h5⟩:=wC he;obtain⟨w,ew,aa⟩:=r.get h2;have hl:=r.length;have hn:=line63;have fin:EP X ze σ Q w s:=⟨z,H,I,aa,q⟩;by_cases h0:0<=i
 ·have hj:i.toNat=j:=by
   rw[seqIndex_of h0 h5]at h1;exact ji h1
  exact item_listR pl.isList h0 yw (by rw[hj];simpa using ew) fin hs
 ·have hj:(i+(ab.toArray.size:Int)).toNat=j:=by
   rw[seqIndex_neg yw h4]at h1;rw[fq,<- hl];exact ji h1
  exact subscriptTail_builtinR (x:=w) pl.isList.typeIs slot_list_getitem.lookup
   (wpAny_getItem_list_neg (Q:=fun r s'=>r=w/\EP X ze σ Q r s') pl.isList yw (by rw[fq]<;>omega) yw (by rw[hj];simpa using ew) ⟨rfl,fin⟩) hs
theorem Gz:IxR X (wK X.K):=by
 intro value ab ze s σ H x y v u Q I rx ry h hs;obtain⟨p,xs,i,z,rfl,rfl,hq,he,q⟩:=h;cases rx;obtain⟨t,rfl⟩:=ry;obtain⟨ac,r,pl,hz⟩:=I.tuple hq;obtain⟨j,h1,h2,h3,h4,h5⟩:=wC he;obtain⟨w,ew,aa⟩:=r.get h2;have hl:=r.length;have hn:=line63;have fin:EP X ze σ Q w s:=⟨z,H,I,aa,q⟩;exact subscriptTail_builtinR (x:=w) pl.typeIs slot_tuple_getitem.lookup
  (getItem_tuple (j:=j) (Q:=fun r s'=>r=w/\EP X ze σ Q r s') pl yw yw (by rw[fq,<- hl];exact h1) (by simpa using ew) ⟨rfl,fin⟩) hs
theorem JM:IxR X AV:=by
 intro value aa ze s σ H x y v u Q I rx ry h hs;obtain⟨z,i,c,rfl,rfl,hz,he,q⟩:=h;obtain⟨t,rfl⟩:=rx;obtain⟨t',rfl⟩:=ry;obtain⟨j,h1,h2,h3,h4,h5⟩:=wC he;have hl:z.cps.toList.length=z.length:=by simp[Str.length]
 rw[hl]at h1 h4 h5;have hn:=line63;exact tail_any (typeIs_str s z t) slot_str_getitem.lookup (getItem_str (c:=c) (by
  have e1:decide (i < -(2 ^ 63:Int))=false:=fw yw;have e2:decide (i≥2 ^ 63)=false:=fw yw;rw[e1,e2,Bool.or_false]) (by rw[h1];simpa using h2) ⟨.str ⟨#[c]⟩,H,I.tok _,⟨_,rfl⟩,q⟩) hs
def rIx(K:fe):R2:=fun x y H Q=>xP K x y H Q\/wK K x y H Q\/AV x y H Q
theorem zJ:IxR X (rIx X.K):=Bs.or (Gz.or JM)
theorem J5(q:List bo)(n j:Nat)(u:bo):kt (·.setIfInBounds j u) { cls:=.type "list",data:=.seq q.toArray n } = { cls:=.type "list",data:=.seq (q.set j u).toArray n }:=by
 simp[kt]
theorem Inv.lst{ze:List (Addr×Obj)}{σ:St}{H:Hp}{s:bq}{p:Addr}{xs:List V}(I:Inv X ze σ H s)(h:H p=some (.lst xs)):
  ∃(q:List bo) (n:Nat),Vals xs q/\s.heap.get? p=some { cls:=.type "list",data:=.seq q.toArray n }/\xs.length<=fk:=by
 obtain⟨z,q,n,r,e⟩:=I.hok p _ h;exact⟨q,n,r,e,z⟩
theorem Inv.lstUpd{ze:List (Addr×Obj)}{σ:St}{H:Hp}{s:bq}{p:Addr}{xs ys:List V}{z its':List bo}{n n':Nat}{f:Obj->Obj}(I:Inv X ze σ H s)(h:H p=some (.lst xs))
  (ho:s.heap.get? p=some { cls:=.type "list",data:=.seq z.toArray n }) (hf:f { cls:=.type "list",data:=.seq z.toArray n } = { cls:=.type "list",data:=.seq its'.toArray n' }) (r:Vals ys its') (hz:ys.length<=fk) (t:Nat):
  Inv X ze σ (upd H p (.lst ys)) { s with heap:=s.heap.update p f,toks:=t }:=by
 have e:(s.heap.update p f).get? p=some { cls:=.type "list",data:=.seq its'.toArray n' }:=by
  rw[uh f ho (by rw[hf]<;>rfl),hf]
 refine I.write (x:=p) (e:=p) (by rw[h];trivial) (.inl rfl) (fun b u hb q=>(Heap.get?_update_other _ _ (kf hb)).trans q) ⟨_,e⟩ ?_;exact⟨hz,its',n',r,e⟩
def FM:V->V->V->Hp->(Hp->Prop)->Prop:=fun o i v H Q=>∃p xs k j,o=.ref p/\i=.int k/\H p=some (.lst xs)/\ixN xs.length k=some j/\Q (upd H p (.lst (xs.set j v)))
theorem ER:PSet X FM:=by
 intro ze s σ H o i v ov iv u Q I ro ri rv h;obtain⟨p,xs,k,j,rfl,rfl,hp,hj,q⟩:=h;cases ro;obtain⟨t,rfl⟩:=ri;obtain⟨z,n,r,ho,hz⟩:=I.lst hp;obtain⟨h1,h2,h3,h4⟩:=Ek hj;have hl:=r.length;have hn:=line63;have I':Inv X ze σ (upd H p (.lst (xs.set j v))) { s with heap:=s.heap.update p (kt (·.setIfInBounds j u)) } :=
  I.lstUpd hp ho (J5 z n j u) (r.set rv j) (by rw[length_set];exact hz) s.toks
 by_cases h0:0<=k
 ·have hk:k.toNat=j:=by
   rw[seqIndex_of h0 h4]at h1;exact ji h1
  exact W.ki_setAt ho h0 yw (by rw[fq,<- hl];exact h4) (by rw[hk];exact⟨_,I',q⟩)
 ·have hk:(k+(z.toArray.size:Int)).toNat=j:=by
   rw[seqIndex_neg yw h3]at h1;rw[fq,<- hl];exact ji h1
  exact W.ki_setBack ho yw (by rw[fq,<- hl];exact h3) yw (by rw[hk];exact⟨_,I',q⟩)
theorem HC(lo hi:Option Int)(n:Nat):(uz lo hi none n).1=((HT.sIx n 0 lo:Nat):Int)/\(uz lo hi none n).2.1=((HT.sIx n n hi:Nat):Int)/\(uz lo hi none n).2.2=1:=by
 refine⟨?_,?_,rfl⟩
 ·cases lo with
  |none=>simp[uz,HT.sIx]
  |some i=>
   simp only[uz,HT.sIx,Option.getD_none,show (1:Int)>0 by decide,if_true];by_cases h:i<0
   ·simp only[h,if_true]<;>omega
   ·simp only[h,if_false]<;>omega
 ·cases hi with
  |none=>simp[uz,HT.sIx]
  |some i=>
   simp only[uz,HT.sIx,Option.getD_none,show (1:Int)>0 by decide,if_true];by_cases h:i<0
   ·simp only[h,if_true]<;>omega
   ·simp only[h,if_false]<;>omega
theorem Mb(q:List bo)(lo hi:Option Int):slicePick q.toArray lo hi none=((q.drop (HT.sIx q.length 0 lo)).take (HT.sIx q.length q.length hi-HT.sIx q.length 0 lo)).toArray:=by
 obtain⟨h1,h2,h3⟩:=HC lo hi q.toArray.size;unfold slicePick;rw[h1,h2,h3];simp only[sliceRange_one,pick_run,fq]<;>rfl
def nG(K:fe):V->Option Int->Option Int->Hp->VK->Prop:=fun x lo hi H Q=>∃a xs,x=.ref a/\SqL K H a xs/\∀p,H p=none->Q (.ref p) (upd H p (.lst (dH xs lo hi)))
theorem Bk:SlR X (nG X.K):=by
 intro ze s σ H x v vl vu lo hi sl Q I rx hs pl pu h;obtain⟨a,xs,rfl,hx,q⟩:=h;cases rx;obtain⟨aa,r,ht,hz⟩:=I.list hx;have z:=r.length;refine⟨"list",_,slot_list_getitem.lookup,ht.isList.typeIs,?_⟩;refine wpAny_getItem_list_slice ht.isList hs pl pu .none yv ?_ (by rw[fq]<;>omega);rw[Mb,<- z];refine⟨.ref s.heap.objs.size,_,I.laid (t':=s.toks) (o:=.lst (dH xs lo hi)) (fun b ob q=>bu _ q) (dh _) ?_,rfl,q _ (I.hok.fresh (dh _))⟩;exact⟨lw (AB xs lo hi) hz,_,0,(r.drop (HT.sIx xs.length 0 lo)).take (HT.sIx xs.length xs.length hi-HT.sIx xs.length 0 lo),cy _ rfl⟩
theorem FQ:CallR X (.builtin "len") (fun xs H Q=>∃p ys,xs=[.ref p]/\(SqL X.K H p ys\/SqT X.K H p ys)/\Q (.int ys.length) H):=by
 intro ze s σ H xs us Q I r h;obtain⟨p,ys,rfl,hq,q⟩:=h;obtain⟨u,rfl,rx⟩:=vals1 r;cases rx;have hn:=line63;rcases hq with hq|hq
 ·obtain⟨aa,r',pl,hz⟩:=I.list hq;have z:=r'.length;exact Calls.call_len_list pl.isList (by simp only[fq]<;>omega) ⟨.int ys.length,H,I.tok _,⟨s.toks+1,by rw[fq,z]⟩,q⟩
 ·obtain⟨aa,r',pl,hz⟩:=I.tuple hq;have z:=r'.length;exact len_tuple pl (by simp only[fq]<;>omega) ⟨.int ys.length,H,I.tok _,⟨s.toks+1,by rw[fq,z]⟩,q⟩
theorem KP:CallR X (.builtin "len") (fun xs H Q=>∃z,xs=[.str z]/\z.length<=fk/\Q (.int z.length) H):=by
 intro ze s σ H xs us Q I r h;obtain⟨z,rfl,hz,q⟩:=h;obtain⟨u,rfl,t,rfl⟩:=vals1 r;have hn:=line63;exact len_str yw ⟨.int z.length,H,I.tok _,⟨_,rfl⟩,q⟩
theorem CallR.or{f:bo}{r r':List V->Hp->VK->Prop}(h:CallR X f r)(h':CallR X f r'):CallR X f (fun xs H Q=>r xs H Q\/r' xs H Q):=by
 intro ze s σ H xs us Q I rs q;rcases q with q|q
 ·exact h ze s σ H xs us Q I rs q
 ·exact h' ze s σ H xs us Q I rs q
theorem Iy:CallR X (.type "list") (fun xs H Q=>∃p ys,xs=[.ref p]/\(SqL X.K H p ys\/SqT X.K H p ys)/\∀l,H l=none->Q (.ref l) (upd H l (.lst ys))):=by
 intro ze s σ H xs us Q I r h;obtain⟨p,ys,rfl,hq,q⟩:=h;obtain⟨u,rfl,rx⟩:=vals1 r;cases rx;have fin:∀(z:List bo),Vals ys z->ys.length<=fk->∀(h':Heap) (c':Nat),(∀b o',s.heap.get? b=some o'->h'.get? b=some o') ->
   h'.get? s.heap.objs.size=some { cls:=.type "list",dict:=none,data:=.seq z.toArray c',slots:=#[] }->EP X ze σ Q (.ref s.heap.objs.size) { s with heap:=h' }:=fun z r' hz h' c' kp e=>
  ⟨.ref s.heap.objs.size,_,I.laid (t':=s.toks) kp (dh _) (show ObjOk X.prog X.w _ h' _ (.lst ys)from⟨hz,z,c',r',e⟩),rfl,q _ (I.hok.fresh (dh _))⟩
 rcases hq with hq|hq
 ·obtain⟨z,r',pl,hz⟩:=I.list hq;have aa:=r'.length;obtain⟨o,ho,hc,n,hd⟩:=pl.isList;exact call_list_seq p (.inl rfl) ho hc hd (fun h' c' kp e=>fin z r' hz h' c' kp e) (by simp only[fq]<;>omega)
 ·obtain⟨z,r',pl,hz⟩:=I.tuple hq;have aa:=r'.length;obtain⟨o,ho,hc,n,hd⟩:=pl;exact call_list_seq p (.inr rfl) ho hc hd (fun h' c' kp e=>fin z r' hz h' c' kp e) (by simp only[fq]<;>omega)
theorem AO:CallR X (.type "tuple") (fun xs H Q=>∃p ys,xs=[.ref p]/\((SqL X.K H p ys/\∀l,H l=none->Q (.ref l) (upd H l (.tup ys)))\/(SqT X.K H p ys/\Q (.ref p) H))):=by
 intro ze s σ H xs us Q I r h;obtain⟨p,ys,rfl,h⟩:=h;obtain⟨u,rfl,rx⟩:=vals1 r;cases rx;rcases h with ⟨hq,q⟩|⟨hq,q⟩
 ·obtain⟨z,r',pl,hz⟩:=I.list hq;have aa:=r'.length;refine call_tuple_list pl.isList (fun h' kp=>?_) (by simp only[fq]<;>omega);have I1:Inv X ze σ H { s with heap:=h' }:=I.kept (t':=s.toks) kp;have I2:Inv X ze σ (upd H h'.objs.size (.tup ys)) { s with heap:=h'.push { cls:=.type "tuple",data:=.seq z.toArray } } :=
   I1.laid (t':=s.toks) (fun b o e=>bu _ e) (dh _) (show ObjOk X.prog X.w _ _ _ (.tup ys)from⟨⟨hz,_,cy _ rfl,rfl⟩,z,r',IsTup.new _ _⟩)
  exact⟨.ref h'.objs.size,_,I2,rfl,q _ (I1.hok.fresh (dh _))⟩
 ·obtain⟨z,r',pl,hz⟩:=I.tuple hq;exact call_tuple_same pl ⟨.ref p,H,I,rfl,q⟩
def tyV(K:fe)(T:String)(x:V)(H:Hp):Prop:=match x with
 | .str _=>T = "str"
 | .int _=>T = "int"
 | .ref p=>(T = "list"/\∃xs,SqL K H p xs)\/(T = "tuple"/\∃o,K.lookup p=some o/\o.cls=.type "tuple"/\o.dict=none) \/
   (T = "dict"/\((∃kvs,H p=some (.dK kvs))\/∃kvs,H p=some (.dT kvs)))\/(T = "set"/\∃S n,H p=some (.set S n))
 |_=>False
theorem E9{ze:List (Addr×Obj)}{σ:St}{H:Hp}{s:bq}{T:String}{x:V}{v:bo}(I:Inv X ze σ H s)(r:RelV x v)(ty:tyV X.K T x H):
  s.TypeIs v T/\∀a,v=.ref a->∃ob,s.heap.get? a=some ob/\ob.dict=none:=by
 cases x with
 |str z=>
  obtain⟨t,rfl⟩:=r;cases (show T = "str" from ty);exact⟨typeIs_str s z t,fun _ e=>nomatch e⟩
 |int i=>
  obtain⟨t,rfl⟩:=r;cases (show T = "int" from ty);exact⟨typeIs_int s i t,fun _ e=>nomatch e⟩
 |ref p=>
  cases r;rcases ty with ⟨rfl,xs,hq⟩|⟨rfl,o,hk,hc,hd⟩|⟨rfl,hk⟩|⟨rfl,S,n,hk⟩
  ·obtain⟨q,_,pl,_⟩:=I.list hq;refine⟨pl.isList.typeIs,fun a e=>?_⟩;cases e;obtain⟨o,n,e,c,hd,_⟩:=pl;exact⟨o,e,hd⟩
  ·refine⟨⟨o,I.kIn p o hk,hc⟩,fun a e=>?_⟩;cases e;exact⟨o,I.kIn _ o hk,hd⟩
  ·have z:∃o,s.heap.get? p=some o/\o.ExactDict:=by
    rcases hk with ⟨kvs,hk⟩|⟨kvs,hk⟩
    ·obtain⟨_,_,_,_,o,_,_,e,ex,_⟩:=I.hok p _ hk;exact⟨o,e,ex⟩
    ·obtain⟨_,_,_,_,o,_,_,e,ex,_⟩:=I.hok p _ hk;exact⟨o,e,ex⟩
   obtain⟨o,e,ex⟩:=z;refine⟨⟨o,e,ex.1⟩,fun a e2=>?_⟩;cases e2;exact⟨o,e,ex.2.1⟩
  ·obtain⟨o,_,_,_,e,ex,_⟩:=I.hok p _ hk;refine⟨⟨o,e,ex.1⟩,fun a e2=>?_⟩;cases e2;exact⟨o,e,ex.2.1⟩
 |_=>exact rk ty
def F0(K:fe)(T:String)(r:V->List V->Hp->VK->Prop)(to:TE):TE:=fun σ H Q=>to σ H fun x H1=>tyV K T x H1/\r x [] H1 Q
def tBM(K:fe)(T:String)(r:V->List V->Hp->VK->Prop)(to:TE)(t:TA):TE:=fun σ H Q=>to σ H fun x H1=>tyV K T x H1/\t σ H1 fun xs H2=>r x xs H2 Q
variable {o e:Expr}{es:List Expr}{to:TE}{t:TA}{name:Str}{apos cpos:Pos}{T id:String}{r:V->List V->Hp->VK->Prop}
theorem K1(pa:PlainAttrs T)(slot:Slot T name id)(q:typeOf (.builtin id)=pure (.type "method_descriptor"))(hm:MtR X id r)(ho:PE X o to)
  (hbase:attributeBase o name X.env (eval o X.env)=eval o X.env:=by rfl) (hline:(apos.endLine==cpos.line)=true:=by rfl):PE X (.Call (.Attribute o name apos) [] [] cpos) (F0 X.K T r to):=by
 intro ze s σ H Q I h;refine wpAny_Call_method0_late hbase hline (thn (ho ze s σ H _ I h) fun v s1 ⟨x,H1,I1,r1,ty,q1⟩=>?_);obtain⟨h1,h2⟩:=E9 I1 r1 ty;exact⟨T,id,pa,slot,q,h1,h2,Calls.callWith_builtin rfl (PySem.evalArgs_none (hm ze s1 σ H1 x [] v [] Q I1 r1 .nil q1))⟩
theorem lO(pa:PlainAttrs T)(slot:Slot T name id)(q:typeOf (.builtin id)=pure (.type "method_descriptor"))(hm:MtR X id r)(ho:PE X o to)(ha:PA X (e::es) t)
  (hbase:attributeBase o name X.env (eval o X.env)=eval o X.env:=by rfl)
  (hfew:((rb cpos (fx (e::es) X.env)).all (fun x=>!x.1)&&(backToKw cpos (keywordEach [] X.env)).all (fun x=>x.1.isSome)
   && decide ((e::es).length+([]:List Keyword).length+(if ([]:List Keyword).isEmpty then 0 else 1)<30))=true:=by rfl)
  (hline:(apos.endLine==cpos.line)=true:=by rfl) (hs:fx (e::es) X.env=(false,eval e X.env)::fx es X.env:=by rfl) (hplain:(rb cpos (fx es X.env)).any (·.1)=false:=by rfl):
  PE X (.Call (.Attribute o name apos) (e::es) [] cpos) (tBM X.K T r to t):=by
 intro ze s σ H Q I h;refine wpAny_Call_method_late hbase hfew hline rfl (thn (ho ze s σ H _ I h) fun v s1 ⟨x,H1,I1,r1,ty,q1⟩=>?_);obtain⟨h1,h2⟩:=E9 I1 r1 ty;refine⟨T,id,pa,slot,q,h1,h2,?_⟩;have hA:=ha cpos ze s1 σ H1 _ I1 q1;rw[hs]at hA ⊢;refine Calls.callWith_builtin (by show (false||(rb cpos (fx es X.env)).any (·.1))=false;rw[hplain]<;>rfl) (Calls.evalArgs_plain ?_);exact thn hA fun us s2 ⟨vs,H2,I2,r2,q2⟩=>hm ze s2 σ H2 x vs v us Q I2 r1 r2 q2
end
end
section
def MtM(X:Cx)(id:String)(r:V->List V->Hp->VK->Prop):Prop:=
 ∀(ze:List (Addr×Obj)) (s:bq) (σ:St) (H:Hp) (x:V) (xs:List V) (v:bo) (us:List bo) (Q:VK),Inv X ze σ H s->RelV x v->Vals xs us->r x xs H Q ->
  cp (model X.prog X.w) X.A (call (.builtin id) (v::us)) (EP X ze σ Q) X.xe s
theorem Vals.one:∀{x:V}{us:List bo},Vals [x] us->∃u,us=[u]/\RelV x u
 |_,_,.cons r .nil=>⟨_,rfl,r⟩
theorem Vals.zero:∀{us:List bo},Vals [] us->us=[]
 |_,.nil=>rfl
theorem Vals.dropLast{xs:List V}{us:List bo}(h:Vals xs us):Vals xs.dropLast us.dropLast:=by
 induction h with
 |nil=>exact .nil
 |cons r t ih=>
  cases t with
  |nil=>exact .nil
  |cons q t'=>exact .cons r ih
theorem Vals.rep{xs:List V}{us:List bo}(h:Vals xs us):∀k:Nat,Vals (bx k xs).flatten (bx k us).flatten
 | 0=>.nil
 |k+1=>by
  rw[ox,ox,uj,uj];exact Vals.append h (Vals.rep h k)
theorem LC{α:Type}(l:List α):l.eraseIdx (l.length-1)=l.dropLast:=by
 induction l with
 |nil=>rfl
 |cons a r ih=>
  cases r with
  |nil=>rfl
  |cons b r=>
   have e:(a::b::r).length-1=((b::r).length-1)+1:=by
    have h1:(a::b::r).length=r.length+2:=rfl;have h2:(b::r).length=r.length+1:=rfl;omega
   rw[e,List.eraseIdx_cons_succ,ih]
   all_goals rfl
theorem sW(q:List bo):∀(k:Nat) (acc:List bo),
  rp (fun x1 x2=>x1++x2) acc.toArray (bx k q.toArray)=(acc++(bx k q).flatten).toArray
 | 0,acc=>by simp
 |k+1,acc=>by
  have e:acc.toArray++q.toArray=(acc++q).toArray:=by simp
  have e2:(acc++q)++(bx k q).flatten=acc++(bx (k+1) q).flatten:=by
   rw[ox,uj,gn]
  rw[<- e2,<- sW q k (acc++q),<- e,ox,List.foldl_cons]
section
variable {X:Cx}{ze:List (Addr×Obj)}{σ:St}{H:Hp}{s:bq}{l b:Addr}{xs ys zs:List V}
theorem Inv.lset{z its':List bo}{n:Nat}{f:Array bo->Array bo}{t':Nat}(I:Inv X ze σ H s)(hH:H l=some (.lst xs))
  (e:s.heap.get? l=some { cls:=.type "list",data:=.seq z.toArray n }) (hf:f z.toArray=its'.toArray) (hv:Vals ys its') (hz:ys.length<=fk):
  Inv X ze σ (upd H l (.lst ys)) { s with heap:=s.heap.update l (kt f),toks:=t' }:=by
 have q:=PySem.IsL.update e f;rw[hf]at q;refine I.write (x:=l) (e:=l) (by rw[hH];exact trivial) (.inl rfl) (fun b' u hb hu=>(Heap.get?_update_other s.heap (kt f) (kf hb)).trans hu) ⟨_,q⟩ ?_;exact⟨hz,its',_,hv,q⟩
theorem Inv.lnew{z:List bo}{t':Nat}(I:Inv X ze σ H s)(hv:Vals ys z)(hz:ys.length<=fk):
  Inv X ze σ (upd H s.heap.objs.size (.lst ys)) { s with heap:=s.heap.push { cls:=.type "list",data:=.seq z.toArray },toks:=t' } :=
 I.laid (fun _ _ q=>bu _ q) (dh _) ⟨hz,z,0,hv,cy _ rfl⟩
theorem Inv.fresh(I:Inv X ze σ H s):H s.heap.objs.size=none:=I.hok.fresh (dh _)
theorem Inv.lstM(I:Inv X ze σ H s)(hH:H l=some (.lst xs)):xs.length<=fk/\∃(q:List bo) (n:Nat),Vals xs q/\xs.length=q.length/\s.heap.get? l=some { cls:=.type "list",data:=.seq q.toArray n }:=by
 obtain⟨z,q,n,r,e⟩:=I.hok l _ hH;exact⟨z,q,n,r,r.length,e⟩
theorem Cs{n:Nat}(h:n<=fk):Builtin.List.listTooLong n=false:=by
 unfold Builtin.List.listTooLong;exact fw yw
end
section
variable {X:Cx}
def Bq:V->List V->Hp->VK->Prop:=fun x vs H Q=>∃l xs y,x=.ref l/\vs=[y]/\H l=some (.lst xs)/\xs.length<fk/\Q .non (upd H l (.lst (xs++[y])))
theorem lT:MtM X "list.append" Bq:=by
 intro ze s σ H x vs v us Q I rx rv h;obtain⟨l,xs,y,rfl,rfl,hH,hz,q⟩:=h;cases rx;obtain⟨u,rfl,ru⟩:=rv.one;obtain⟨z,aa,n,r,hl,e⟩:=I.lstM hH;refine ub F.slot_list_append ⟨_,e,rfl⟩ F.entry_list_append (F.args_list_append_2 _ _) (PySem.list_append l aa.toArray n u (by rw[fq];omega)) ⟨e,?_⟩;refine⟨.non,_,I.lset (its':=aa++[u]) hH e yv (r.append (.cons ru .nil)) ?_,rfl,q⟩;rw[fu,iy];omega
def Cf:V->List V->Hp->VK->Prop:=fun x vs H Q=>∃l b xs zs,x=.ref l/\vs=[.ref b]/\H l=some (.lst xs)/\H b=some (.lst zs)/\xs.length+zs.length<=fk/\Q .non (upd H l (.lst (xs++zs)))
theorem G3:MtM X "list.extend" Cf:=by
 intro ze s σ H x vs v us Q I rx rv h;obtain⟨l,b,xs,zs,rfl,rfl,hH,hB,hz,q⟩:=h;cases rx;obtain⟨u,rfl,ru⟩:=rv.one;cases ru;obtain⟨z,ab,n,r,hl,e⟩:=I.lstM hH;obtain⟨z2,aa,n2,r2,ae,e2⟩:=I.lstM hB;have hsz:ab.toArray.size+aa.toArray.size<=fk:=by rw[fq,fq];omega
 have ac:¬(!ab.toArray.isEmpty&&Builtin.List.listTooLong (ab.toArray.size+aa.toArray.size))=true:=by
  rw[Cs hsz,Bool.and_false];exact jg
 refine ub F.slot_list_extend ⟨_,e,rfl⟩ F.entry_list_extend (F.args_list_extend_2 _ _)
  (AutoSeq1.list_extend_list_list_0 l ab.toArray n b aa.toArray n2 ac (by rw[fq];omega) yw) ⟨e,e2,?_⟩
 refine⟨.non,_,I.lset (its':=ab++aa) hH e yv (r.append r2) ?_,rfl,q⟩;rw[fu];omega
def Ca:V->List V->Hp->VK->Prop:=fun x vs H Q=>∃l xs y,x=.ref l/\vs=[]/\H l=some (.lst xs)/\xs[xs.length-1]?=some y/\Q y (upd H l (.lst xs.dropLast))
theorem HW:MtM X "list.pop" Ca:=by
 intro ze s σ H x vs v us Q I rx rv h;obtain⟨l,xs,y,rfl,rfl,hH,hy,q⟩:=h;cases rx;have ac:=rv.zero;subst ac;obtain⟨z,aa,n,r,hl,e⟩:=I.lstM hH;obtain⟨u,hu,ru⟩:=r.get hy;have ab:aa.toArray[aa.toArray.size-1]?=some u:=by
  show aa.toArray[aa.length-1]?=some u;rw[<- jw,<- hl];exact hu
 refine ub F.slot_list_pop ⟨_,e,rfl⟩ F.entry_list_pop (F.args_list_pop_1 _) (MeetsSeq.list_pop_last l aa.toArray n u ab (by rw[fq];omega)) ⟨e,?_⟩;refine⟨y,_,I.lset (its':=aa.dropLast) hH e ?_ r.dropLast ?_,ru,q⟩
 ·show aa.toArray.eraseIdxIfInBounds (aa.toArray.size-1)=aa.dropLast.toArray;rw[fq,List.eraseIdxIfInBounds_toArray,LC]
 ·rw[List.length_dropLast];omega
def qH:R2:=fun x y H Q=>∃l b xs zs,x=.ref l/\y=.ref b/\H l=some (.lst xs)/\H b=some (.lst zs)/\xs.length+zs.length<=fk/\∀p,H p=none->Q (.ref p) (upd H p (.lst (xs++zs)))
theorem F2:OpR X (oh .Add) qH:=by
 intro ze s σ H x y v u Q I rx ry h;obtain⟨l,b,xs,zs,rfl,rfl,hH,hB,hz,q⟩:=h;cases rx;cases ry;obtain⟨z,ab,n,r,hl,e⟩:=I.lstM hH;obtain⟨z2,aa,n2,r2,ac,e2⟩:=I.lstM hB;refine PySem.P.add_list e e2 ?_ (by rw[fq,fq];omega);have ea:ab.toArray++aa.toArray=(ab++aa).toArray:=by simp
 rw[ea];exact⟨.ref _,_,I.lnew (t':=s.toks) (r.append r2) (by rw[fu];omega),rfl,q _ I.fresh⟩
def Bb:R2:=fun x y H Q=>∃l k xs,x=.ref l/\y=.int k/\H l=some (.lst xs)/\-(2 ^ 63)<=k/\k<2 ^ 63/\xs.length*k.toNat<=fk /\
 ∀p,H p=none->Q (.ref p) (upd H p (.lst (bx k.toNat xs).flatten))
theorem A8{α:Type}(xs:List α)(k:Nat):(bx k xs).flatten.length=k*xs.length:=by
 induction k with
 |zero=>simp
 |succ k ih=>rw[ox,uj,fu,ih,Nat.succ_mul,Nat.add_comm]
theorem MN:OpR X (oh .Mult) Bb:=by
 intro ze s σ H x y v u Q I rx ry h;obtain⟨l,k,xs,rfl,rfl,hH,h1,h2,hz,q⟩:=h;cases rx;obtain⟨t,rfl⟩:=ry;obtain⟨z,aa,n,r,hl,e⟩:=I.lstM hH;have ae:aa.toArray.size*k.toNat<=fk:=by rw[fq,<- hl];exact hz
 have ag:¬ aa.toArray.size*k.toNat>(2 ^ 63-1)/8:=by
  have:(fk:Nat)<=(2 ^ 63-1)/8:=by decide
  omega
 have af:¬(!Builtin.List.listFitsIndex k)=true:=by
  rw[fitsIndex_both h1 h2];exact jg
 have ab:¬ Builtin.List.listTooLong (aa.toArray.size*k.toNat)=true:=by
  rw[Cs ae];exact jg
 have ac:rp (fun x1 x2=>x1++x2) #[] (bx (if aa.toArray.isEmpty=true then 0 else k.toNat) aa.toArray)=(bx k.toNat aa).flatten.toArray:=by
  have f0:∀m:Nat,rp (fun x1 x2=>x1++x2) #[] (bx m aa.toArray)=(bx m aa).flatten.toArray:=fun m=>by
   have:=sW aa m [];rw[nil_append]at this;exact this
  rw[f0];cases aa with
  |nil=>simp
  |cons a r'=>rw[cm yv]
 refine wpAny_binaryOp_repeat_ref (T:="list") (U:="int") dz ⟨_,e,rfl⟩ (fun s'=>typeIs_int s' k t) noFill_list_mul F.fills_int_mul F.slot_int_rmul repeat_list F.slot_int_index.lookup
  (ub F.slot_int_rmul (typeIs_int s k t) F.entry_int_rmul (F.args_int_rmul_2 _ _) (int___rmul___int_list k t l aa.toArray n)
   ⟨e,rfl,⟨_,e,rfl⟩,ub F.slot_list_mul ⟨_,e,rfl⟩ F.entry_list_mul (F.args_list_mul_2 _ _) (AutoListH.list___mul___list_int_3 l aa.toArray n k t af ag ab) ⟨e,?_⟩⟩)
 rw[ac];exact⟨.ref _,_,I.lnew (t':=s.toks) (r.rep k.toNat) (by rw[A8,mul_comm];exact hz),rfl,q _ I.fresh⟩
end
end
section
section
variable {κ:Type} [DecidableEq κ]
def eG(kvs:List (κ×V))(k:κ):Option V:=(kvs.find? fun kv=>decide (kv.1=k)).map (·.2)
def cN(kvs:List (κ×V))(k:κ)(v:V):List (κ×V):=
 if (kvs.any fun kv=>decide (kv.1=k))=true then kvs.map (fun kv=>if kv.1=k then (kv.1,v)else kv)else kvs++[(k,v)]
theorem tJ{p:κ×V}{r:List (κ×V)}{k:κ}(e:p.1=k):eG (p::r) k=some p.2:=by simp[eG,ux,e]
theorem uE{p:κ×V}{r:List (κ×V)}{k:κ}(e:¬ p.1=k):eG (p::r) k=eG r k:=by simp[eG,ux,e]
theorem CV(k:κ):∀kvs:List (κ×V),(kvs.any fun kv=>decide (kv.1=k))=(eG kvs k).isSome
 | []=>rfl
 |p::r=>by
  rw[any_cons];by_cases e:p.1=k
  ·simp only[tJ e,fy e,Bool.true_or,Option.isSome_some]
  ·rw[uE e,fw e,Bool.false_or];exact CV k r
theorem Fl(kvs:List (κ×V))(k:κ)(v:V):(cN kvs k v).length<=kvs.length+1:=by
 unfold cN;split
 ·rw[cu];omega
 ·rw[fu,ft,length_nil];omega
theorem RelO.isSome_eq{o:Option V}{u:Option bo}(r:RelO o u):o.isSome=u.isSome:=by
 cases o with
 |none=>cases u with
  |none=>rfl
  |some _=>exact(show False from r).elim
 |some _=>cases u with
  |none=>exact(show False from r).elim
  |some _=>rfl
theorem KV.val{kvs:List (κ×V)}{vs:List (κ×bo)}(r:KV kvs vs)(k:κ):RelO (eG kvs k) (valueAt vs k):=by
 unfold KV at r;induction r with
 |nil=>exact rn
 | @cons p q ps qs h t ih=>
  obtain⟨h1,h2⟩:=h;by_cases e:p.1=k
  ·have e':q.1=k:=h1.symm.trans e;have b:valueAt (q::qs) k=some q.2:=by simp[valueAt,ux,e']
   rw[tJ e,b];exact h2
  ·have e':¬ q.1=k:=fun z=>e (h1.trans z);have b:valueAt (q::qs) k=valueAt qs k:=by simp[valueAt,ux,e']
   rw[uE e,b];exact ih
theorem KV.any{kvs:List (κ×V)}{vs:List (κ×bo)}(r:KV kvs vs)(k:κ):(kvs.any fun kv=>decide (kv.1=k))=vs.any fun kv=>decide (kv.1=k):=by
 unfold KV at r;induction r with
 |nil=>rfl
 |cons h t ih=>rw[any_cons,any_cons,ih,h.1]
theorem KV.repl{kvs:List (κ×V)}{vs:List (κ×bo)}(r:KV kvs vs)(k:κ){y:V}{u:bo}(ry:RelV y u):
  KV (kvs.map fun kv=>if kv.1=k then (kv.1,y)else kv) (vs.map fun kv=>if kv.1=k then (kv.1,u)else kv):=by
 unfold KV at r ⊢;induction r with
 |nil=>exact .nil
 | @cons p q ps qs h t ih=>
  rw[ga,ga];refine .cons ?_ ih;obtain⟨h1,h2⟩:=h;by_cases e:p.1=k
  ·rw[cn e,cn (h1.symm.trans e)];exact⟨h1,ry⟩
  ·rw[cm e,cm (fun z=>e (h1.trans z))];exact⟨h1,h2⟩
theorem KV.put{kvs:List (κ×V)}{vs:List (κ×bo)}(r:KV kvs vs)(k:κ){y:V}{u:bo}(ry:RelV y u):KV (cN kvs k y) (stored vs k u):=by
 unfold cN stored;rw[r.any k];by_cases e:(vs.any fun kv=>decide (kv.1=k))=true
 ·rw[cn e,cn e];exact r.repl k ry
 ·rw[cm e,cm e];exact Paired.snoc r ⟨rfl,ry⟩
theorem KV.length{kvs:List (κ×V)}{vs:List (κ×bo)}(r:KV kvs vs):kvs.length=vs.length:=Paired.length r
end
theorem rM{P:gf}{w:iu}{k:Key}{u:bo}(r:RelV (kV k) u):(bY P w).is k u=true:=by
 cases k with
 |inl i=>obtain⟨t,e⟩:=(show ∃t,u=oo i t from r);subst e;exact Jy P w i t
 |inr x=>obtain⟨t,e⟩:=(show ∃t,u=Value.str x t from r);subst e;exact Le P w x t
theorem Ci{P:gf}{w:iu}:∀{ks:List Key}{us:List bo},Vals (ks.map kV) us->ItemsAre (bY P w) ks us
 | [],_,r=>by rw[map_nil]at r;cases r;exact .nil
 |k::ks,_,r=>by
  rw[ga]at r;cases r with
  |cons h t=>exact .cons (rM h) (Ci t)
abbrev KT (H:Hp):List (List Key×V)->List (List Key×Addr×bo)->Prop:=Paired fun p q=>p.1=q.1/\H q.2.1=some (.tup (p.1.map kV))/\RelV p.2 q.2.2
theorem KT.val{H:Hp}{kvs:List (List Key×V)}{xs:List (List Key×Addr×bo)}(r:KT H kvs xs)(k:List Key):RelO (eG kvs k) ((atKey xs k).map (·.2)):=by
 induction r with
 |nil=>exact rn
 | @cons p q ps qs h t ih=>
  obtain⟨h1,_,h2⟩:=h;by_cases e:p.1=k
  ·have e':q.1=k:=h1.symm.trans e;have b:atKey (q::qs) k=some q.2:=by simp[atKey,ux,e']
   rw[tJ e,b];exact h2
  ·have e':¬ q.1=k:=fun z=>e (h1.trans z);have b:atKey (q::qs) k=atKey qs k:=by simp[atKey,ux,e']
   rw[uE e,b];exact ih
theorem KT.repl{H:Hp}{kvs:List (List Key×V)}{xs:List (List Key×Addr×bo)}(r:KT H kvs xs)(k:List Key){y:V}{u:bo}(ry:RelV y u):
  KT H (kvs.map fun kv=>if kv.1=k then (kv.1,y)else kv) (xs.map (putAt k u)):=by
 induction r with
 |nil=>exact .nil
 | @cons p q ps qs h t ih=>
  rw[ga,ga];refine .cons ?_ ih;obtain⟨h1,h2,h3⟩:=h;unfold putAt;by_cases e:p.1=k
  ·rw[cn e,cn (h1.symm.trans e)];exact⟨h1,h2,ry⟩
  ·rw[cm e,cm (fun z=>e (h1.trans z))];exact⟨h1,h2,h3⟩
theorem KT.put{H:Hp}{kvs:List (List Key×V)}{xs:List (List Key×Addr×bo)}(r:KT H kvs xs)(k:List Key){b:Addr}{y:V}{u:bo}(hb:H b=some (.tup (k.map kV)))(ry:RelV y u):
  KT H (cN kvs k y) (storedH xs k b u):=by
 have e:(kvs.any fun kv=>decide (kv.1=k))=(atKey xs k).isSome:=by
  rw[CV,(r.val k).isSome_eq,isSome_map]
 unfold cN storedH;rw[e];by_cases q:(atKey xs k).isSome=true
 ·rw[cn q,cn q];exact r.repl k ry
 ·rw[cm q,cm q];exact Paired.snoc r ⟨rfl,hb,ry⟩
theorem KT.keeps{H H':Hp}{kvs:List (List Key×V)}{xs:List (List Key×Addr×bo)}(r:KT H kvs xs)(ht:∀b ys,H b=some (.tup ys)->H' b=some (.tup ys)):KT H' kvs xs:=
 Paired.mapP r fun _ _ z=>⟨z.1,ht _ _ z.2.1,z.2.2⟩
section
variable {P:gf}{w:iu}{H:Hp}{h:Heap}{a:Addr}
theorem Ea{u:HO}(ok:HOk P w H h)(e:Rd H a u):ObjOk P w H h a u:=e.ok ok
theorem lX{kvs:List (Key×V)}(ok:HOk P w H h)(e:Rd H a (.dK kvs)):kvs.length<=fk/\(a==ly)=false/\∃vs,KV kvs vs/\h.DictOf (bY P w) a vs:=
 show ObjOk P w H h a (.dK kvs)from Ea ok e
theorem Kd{kvs:List (Key×V)}(ok:HOk P w H h)(e:H a=some (.dK kvs)):kvs.length<=fk/\(a==ly)=false/\∃vs,KV kvs vs/\h.DictOf (bY P w) a vs:=lX ok (.inl e)
theorem o7{ks:List Key}(ok:HOk P w H h)(e:H a=some (.tup (ks.map kV))):(tupleKind (bY P w)).is h ks a:=by
 obtain⟨_,q,r,o,h1,h2,n,h3⟩:=(show ObjOk P w H h a (.tup (ks.map kV))from ok a _ e);exact⟨o,q.toArray,n,h1,h2,h3,by simpa using Ci r⟩
theorem lK{kvs:List (List Key×V)}(ok:HOk P w H h)(e:Rd H a (.dT kvs)):kvs.length<=fk/\(a==ly)=false /\
  ∃xs,KT H kvs xs/\h.DictOfH (tupleKind (bY P w)) a xs:=by
 obtain⟨z,y,xs,r,o,es,ep,h1,h2,h3,h4,h5⟩:=(show ObjOk P w H h a (.dT kvs)from Ea ok e);refine⟨z,y,xs,r,o,es,ep,h1,h2,h3,h4,fun x hx=>?_,h5⟩;have aa:∀{l:List (List Key×V)}{m:List (List Key×Addr×bo)},KT H l m->∀x∈m,(tupleKind (bY P w)).is h x.1 x.2.1:=by
  intro l m q;induction q with
  |nil=>intro x hx;exact nomatch hx
  | @cons p q ps qs hq t ih=>
   intro x hx;rcases mem_cons.mp hx with e|hx
   ·subst e;exact o7 ok (by rw[<- hq.1];exact hq.2.1)
   ·exact ih x hx
 exact aa r x hx
theorem JF{kvs:List (List Key×V)}(ok:HOk P w H h)(e:H a=some (.dT kvs)):kvs.length<=fk/\(a==ly)=false /\
  ∃xs,KT H kvs xs/\h.DictOfH (tupleKind (bY P w)) a xs:=lK ok (.inl e)
end
def DGet(H:Hp)(a:Addr)(y:V)(r:Option V):Prop:=
 (∃kvs k,Rd H a (.dK kvs)/\y=kV k/\r=eG kvs k)\/∃kvs k b,Rd H a (.dT kvs)/\y=.ref b/\H b=some (.tup (k.map kV))/\r=eG kvs k
def DPut(H:Hp)(a:Addr)(y v:V)(H':Hp):Prop:=
 (∃kvs k,H a=some (.dK kvs)/\y=kV k/\kvs.length<fk/\H'=upd H a (.dK (cN kvs k v))) \/
 ∃kvs k b,H a=some (.dT kvs)/\y=.ref b/\H b=some (.tup (k.map kV))/\kvs.length<fk/\H'=upd H a (.dT (cN kvs k v))
theorem DPut.k{H:Hp}{a:Addr}{kvs:List (Key×V)}{k:Key}{v:V}(e:H a=some (.dK kvs))(hl:kvs.length<fk):DPut H a (kV k) v (upd H a (.dK (cN kvs k v))):=.inl ⟨kvs,k,e,rfl,hl,rfl⟩
theorem DPut.t{H:Hp}{a b:Addr}{kvs:List (List Key×V)}{k:List Key}{v:V}(e:H a=some (.dT kvs))(eb:H b=some (.tup (k.map kV)))(hl:kvs.length<fk):
  DPut H a (.ref b) v (upd H a (.dT (cN kvs k v))):=.inr ⟨kvs,k,b,e,rfl,eb,hl,rfl⟩
section
variable {X:Cx}{ze:List (Addr×Obj)}{σ:St}{H:Hp}{s:bq}{a:Addr}{y v:V}{u r:bo}{o:Option V}{A:iq}{E:bo->bq->Prop}
theorem Inv.big(I:Inv X ze σ H s):ly<s.heap.objs.size:=by
 have h:qa<s.heap.objs.size:=(I.mod.glob.keeps I.bk).lt;exact lt_trans dz h
theorem HX{Q:bo->bq->Prop}(hu:A.units+1<uk)(I:Inv X ze σ H s)(g:DGet H a y (some v))(ry:RelV y u)(h:∀w' s',Inv X ze σ H s'->RelV v w'->Q w' s'):
  cp (model X.prog X.w) A (getItem (.ref a) u) Q E s:=by
 rcases g with ⟨kvs,k,e,ey,l⟩|⟨kvs,k,b,e,ey,eb,l⟩
 ·subst ey;obtain⟨z,hd,vs,q,dd⟩:=lX I.hok e;obtain⟨w',hw,aa⟩:=RelO.some_of (v:=v) (o:=valueAt vs k) (by rw[l];exact q.val k);exact wpAny_getItem_of (rM ry) dd.mapOf hw (h w' _ (I.tok _) aa)
 ·subst ey;cases (show u=gk b from ry);obtain⟨z,hd,xs,q,dd⟩:=lK I.hok e;obtain⟨w',hw,aa⟩:=RelO.some_of (v:=v) (o:=(atKey xs k).map (·.2)) (by rw[l];exact q.val k);obtain⟨p,hp,ab⟩:=map_eq_some_iff.mp hw;refine wpAny_getItem_heap (tupleKind_room_in1 hu) (o7 I.hok eb) dd hp ?_;rw[ab];exact h w' _ (I.tok _) aa
theorem HL{Q:bo->bq->Prop}(hu:A.units+1<uk)(I:Inv X ze σ H s)(g:DGet H a y o)(ry:RelV y u)(h:∀s',Inv X ze σ H s'->Q (.bool o.isSome) s'):
  cp (model X.prog X.w) A (ki .In u (.ref a)) Q E s:=by
 rcases g with ⟨kvs,k,e,ey,l⟩|⟨kvs,k,b,e,ey,eb,l⟩
 ·subst ey;obtain⟨z,hd,vs,aa,dd⟩:=lX I.hok e;refine wpAny_in_of (rM ry) hd dd.mapOf ?_;rw[<- (aa.val k).isSome_eq,<- l];exact h _ (I.tok _)
 ·subst ey;cases (show u=gk b from ry);obtain⟨z,hd,xs,aa,dd⟩:=lK I.hok e;refine wpAny_in_heap (tupleKind_room_in1 hu) (o7 I.hok eb) hd dd ?_;have q:=(aa.val k).isSome_eq;rw[isSome_map]at q;rw[<- q,<- l];exact h _ (I.tok _)
theorem Jc{Q:bo->bq->Prop}(hu:A.units+1<uk)(I:Inv X ze σ H s)(g:DGet H a y o)(ry:RelV y u)(h:∀s',Inv X ze σ H s'->Q (.bool (!o.isSome)) s'):
  cp (model X.prog X.w) A (ki .NotIn u (.ref a)) Q E s:=by
 rcases g with ⟨kvs,k,e,ey,l⟩|⟨kvs,k,b,e,ey,eb,l⟩
 ·subst ey;obtain⟨z,hd,vs,aa,dd⟩:=lX I.hok e;refine wpAny_notIn_of (rM ry) hd dd.mapOf ?_;rw[<- (aa.val k).isSome_eq,<- l];exact h _ (I.tok _)
 ·subst ey;cases (show u=gk b from ry);obtain⟨z,hd,xs,aa,dd⟩:=lK I.hok e;refine wpAny_notIn_heap (tupleKind_room_in1 hu) (o7 I.hok eb) hd dd ?_;have q:=(aa.val k).isSome_eq;rw[isSome_map]at q;rw[<- q,<- l];exact h _ (I.tok _)
theorem F3{h':Heap}{t':Nat}{ob:HO}(I:Inv X ze σ H s)(mu:Mut (H a))(hs:gd a s.heap h')(he:∃q,h'.get? a=some q)(aa:ObjOk X.prog X.w (upd H a ob) h' a ob):
  Inv X ze σ (upd H a ob) { s with heap:=h',toks:=t' } :=
 I.write (x:=a) (e:=a) mu (.inl rfl) (fun b q hb z=>(hs.2 b hb).trans z) he aa
theorem Li{P:gf}{w:iu}{H':Hp}{h':Heap}{kvs:List (Key×V)}{vs:List (Key×bo)}(z:kvs.length<=fk)(hd:(a==ly)=false)(q:KV kvs vs)(dd:h'.DictOf (bY P w) a vs):
  ObjOk P w H' h' a (.dK kvs):=⟨z,hd,vs,q,dd⟩
theorem KQ{H':Hp}{Q:Unit->bq->Prop}(hu:A.units+1<uk)(I:Inv X ze σ H s)(g:DPut H a y v H')(ry:RelV y u)(rv:RelV v r)(h:∀s',Inv X ze σ H' s'->Q () s'):
  cp (model X.prog X.w) A (setItem (.ref a) u r) Q E s:=by
 rcases g with ⟨kvs,k,e,ey,l,eH⟩|⟨kvs,k,b,e,ey,eb,l,eH⟩
 ·subst ey eH;obtain⟨z,hd,vs,aa,dd⟩:=Kd I.hok e;have hz:vs.length<=fk:=by rw[<- aa.length];exact z
  have hl:(cN kvs k v).length<=fk:=by have:=Fl kvs k v;omega
  refine wpAny_setItem_pairs (hsz:=hz) (rM ry) dd fun h' ab hs=>h _ ?_;have he:∃q,h'.get? a=some q:=let ⟨q,_,_,hq,_⟩:=ab;⟨q,hq⟩;exact F3 I (by rw[e];exact rn) hs he (Li hl hd (aa.put k rv) ab)
 ·subst ey eH;cases (show u=gk b from ry);obtain⟨z,hd,xs,aa,dd⟩:=JF I.hok e;have hz:xs.length<=fk:=by rw[<- Paired.length aa];exact z
  have hl:(cN kvs k v).length<=fk:=by have:=Fl kvs k v;omega
  refine wpAny_setItem_heap (hsz:=hz) (tupleKind_room_in1 hu) (o7 I.hok eb) dd fun h' ab hs=>h _ ?_;obtain⟨q,es,ep,hq,h2,h3,h4,_,h5⟩:=ab;refine F3 I (by rw[e];exact rn) hs ⟨q,hq⟩ ⟨hl,hd,_,(aa.put k eb rv).keeps fun c ys ec=>?_,q,es,ep,hq,h2,h3,h4,h5⟩;rw[zD (Lk ec e (fun z=>nomatch z))];exact ec
end
def NoSl(i:Expr):Prop:=∀ov iv,subscripted i false ov iv=operate [ov,iv] (getItem ov iv)
theorem Ge{prog:gf}{w:iu}{A:iq}{E:bo->bq->Prop}{s:bq}{env:Env}{value q:Expr}{pos:Pos}{T id:String}{Q:bo->bq->Prop}
  (hl:typeLookup (.type T) "__getitem__" = pure (some (.builtin id))) (hs:NoSl q)
  (h:cp (model prog w) A (eval value env) (fun o s₁=>cp (model prog w) A (eval q env) (fun i s₂=>s₂.TypeIs o T/\cp (model prog w) A (getItem o i) Q E s₂) E s₁) E s):
  cp (model prog w) A (eval (.Subscript value q pos) env) Q E s:=by
 refine Subscript_ (qe h (fun o s₁ h₁=>qe h₁ (fun i s₂ h₂=>?_) fun _ _ x=>x) fun _ _ x=>x);obtain⟨hT,h₂⟩:=h₂;unfold subscriptTail;refine bn ?_;rw[getitemInPython_of_ne hT.not_modules];refine bn (wpAny_specialOf hT hl ?_);have fin:cp (model prog w) A (subscripted q false o i) (fun r s₃=>cp (model prog w) A (letTemporaryGo value o r >>= fun _=>pure r) Q E s₃) E s₂:=by
  rw[hs o i];exact wpAny_operating (qe h₂ (fun r s₃ h₃=>bn (wpAny_letTemporaryGo (bp h₃))) fun _ _ x=>x)
 first
  |exact bp (bn fin)
  |exact bn (bp (bn fin))
  |exact bn fin
theorem K7{X:Cx}{ze:List (Addr×Obj)}{σ:St}{H:Hp}{s:bq}{a:Addr}{y:V}{o:Option V}(I:Inv X ze σ H s)(g:DGet H a y o):s.TypeIs (.ref a) "dict":=by
 rcases g with ⟨kvs,k,e,_,_⟩|⟨kvs,k,b,e,_,_,_⟩
 ·obtain⟨_,_,vs,_,dd⟩:=lX I.hok e;exact dd.typeIs
 ·obtain⟨_,_,xs,_,dd⟩:=lK I.hok e;exact dd.typeIs
def Ar(td ty:TE):TE:=fun σ H Q=>td σ H fun x H1=>ty σ H1 fun y H2=>∃a v,x=.ref a/\DGet H2 a y (some v)/\Q v H2
def Aw(td ty tv:TE):TS:=fun D σ H=>tv σ H fun v H1=>td σ H1 fun x H2=>ty σ H2 fun y H3=>∃a H4,x=.ref a/\DPut H3 a y v H4/\D.nx σ H4
section
variable {X:Cx}{o i e value:Expr}{pos pos' tpos:Pos}{td ty tv:TE}
theorem yE(hu:X.A.units+1<uk)(ho:PE X o td)(hi:PE X i ty)(hs:NoSl i):PE X (.Subscript o i pos) (Ar td ty):=by
 intro ze s σ H Q I h;refine Ge PySem.F.slot_dict_getitem.lookup hs (thn (ho ze s σ H _ I h) fun u s1 ⟨x,H1,I1,rx,q1⟩=>thn (hi ze s1 σ H1 _ I1 q1) fun iv s2 ⟨y,H2,I2,ry,a,v,ex,g,q2⟩=>?_);subst ex;obtain rfl:u=gk a:=rx;exact⟨K7 I2 g,HX hu I2 g ry fun w' s3 I3 q=>⟨v,H2,I3,q,q2⟩⟩
theorem o9(hu:X.A.units+1<uk)(ho:PE X o td)(hi:PE X i ty)(hv:PE X value tv)(hs:swapsWith value (some (.Subscript o i pos')) pos.line X.env=pure false):
  PS X (.Assign [.Subscript o i pos'] value pos) (Aw td ty tv):=by
 intro ze s σ H D I h;refine wpAny_Assign_Subscript (thn (hv ze s σ H _ I h) fun r s1 ⟨v,H1,I1,rv,q1⟩=>thn (ho ze s1 σ H1 _ I1 q1) fun u s2 ⟨x,H2,I2,rx,q2⟩=>thn (hi ze s2 σ H2 _ I2 q2) fun iv s3 ⟨y,H3,I3,ry,a,H4,ex,g,q3⟩=>?_) hs;subst ex;obtain rfl:u=gk a:=rx;exact KQ hu I3 g ry rv fun s4 I4=>⟨σ,H4,I4,q3⟩
end
theorem JK{P:gf}{w:iu}{H:Hp}(h:Heap)(hb:ly<h.objs.size):ObjOk P w H (h.push { cls:=.type "dict",data:=.dict #[] }) h.objs.size (.dK []):=
 ⟨nj _,beq_eq_false_iff_ne.mpr (kf (gy hb)),[],.nil,Heap.DictOf.new h⟩
def vS:TE:=fun _ H Q=>∀p,H p=none->Q (.ref p) (upd H p (.dK []))
section
variable {X:Cx}{pos:Pos}
theorem pK:PE X (.Dict [] [] pos) vS:=fun ze s σ H Q I h=>
 wpAny_Dict_empty ⟨.ref s.heap.objs.size,_,I.laid (a:=s.heap.objs.size) (o:=.dK []) (t':=s.toks) (fun _ _ q=>bu _ q) (dh _) (JK s.heap I.big),rfl,h _ (I.hok.fresh (dh _))⟩
end
structure M1(X:Cx)(o:Expr)(m:Str)(apos:Pos)(e:Expr)(cpos:Pos):Prop where
 base:attributeBase o m X.env (eval o X.env)=eval o X.env
 few:((rb cpos (fx [e] X.env)).all (fun x=>!x.1)&&(backToKw cpos (keywordEach [] X.env)).all (fun x=>x.1.isSome)
  && decide (([e]:List Expr).length+([]:List Keyword).length+(if ([]:List Keyword).isEmpty then 0 else 1)<30))=true
 line:(apos.endLine==cpos.line)=true
 trees:rb cpos (fx [e] X.env)=[(false,eval e X.env)]
structure M2(X:Cx)(o:Expr)(m:Str)(apos:Pos)(e f:Expr)(cpos:Pos):Prop where
 base:attributeBase o m X.env (eval o X.env)=eval o X.env
 few:((rb cpos (fx [e,f] X.env)).all (fun x=>!x.1)&&(backToKw cpos (keywordEach [] X.env)).all (fun x=>x.1.isSome)
  && decide (([e,f]:List Expr).length+([]:List Keyword).length+(if ([]:List Keyword).isEmpty then 0 else 1)<30))=true
 line:(apos.endLine==cpos.line)=true
 trees:rb cpos (fx [e,f] X.env)=[(false,eval e X.env),(false,eval f X.env)]
def obO(a:Addr)(ob:Obj):HO:=.ext fun h=>h.get? a=some ob
def IsD(H:Hp)(a:Addr):Prop:=(∃kvs,Rd H a (.dK kvs))\/(∃kvs,Rd H a (.dT kvs))\/∃ob,H a=some (obO a ob)/\ob.ExactDict/\(a==ly)=false
theorem Je{X:Cx}{ze:List (Addr×Obj)}{σ:St}{H:Hp}{s:bq}{a:Addr}(I:Inv X ze σ H s)(d:IsD H a):
  s.TypeIs (.ref a) "dict"/\(∀b,gk a=.ref b->∃ob,s.heap.get? b=some ob/\ob.dict=none)/\(a==ly)=false:=by
 rcases d with ⟨kvs,e⟩|⟨kvs,e⟩|⟨ob,e,hx,hd⟩
 rotate_left 2
 ·obtain⟨g,_,_⟩:=(show ObjOk X.prog X.w H s.heap a (obO a ob)from I.hok a _ e);exact⟨⟨ob,g,hx.1⟩,fun b q=>by cases q;exact⟨ob,g,hx.2.1⟩,hd⟩
 ·obtain⟨_,hd,vs,_,dd⟩:=lX I.hok e;refine⟨dd.typeIs,fun b q=>?_,hd⟩;cases q;obtain⟨ob,_,_,h1,h2,_⟩:=dd;exact⟨ob,h1,h2.2.1⟩
 ·obtain⟨_,hd,xs,_,dd⟩:=lK I.hok e;refine⟨dd.typeIs,fun b q=>?_,hd⟩;cases q;obtain⟨ob,_,_,h1,h2,_⟩:=dd;exact⟨ob,h1,h2.2.1⟩
end
end L2
namespace Att
open PySem PySem.W PySem.Calls PyProof.Rows
theorem Lq{P:Params}{h:Heap}:∀(ns:List Int) (vs:List bo),WellAll P h vs (ns.map WData.int)->kz vs ns:=by
 intro ns;induction ns with
 |nil=>
  intro vs w;rw[map_nil]at w;cases w;exact .nil
 |cons n ns ih=>
  intro vs w;rw[ga]at w;cases w with
  |cons a b=>
   cases a;exact .cons _ _ (ih _ b)
theorem Ia{l:OpenLaw}{n:Nat}(hn:l.most=some n){P:Params}{h:Heap}{args:List WData}{vals:List bo}
  (hpre:l.row.toRowW.claim.pre args=true) (hwl:WellAll P h vals args):
  ∃a vs ns,vals=[gk a]/\args=[WData.list (ns.map WData.int)]/\h.get? a=some { cls:=.type "list",data:=.seq vs.toArray }/\kz vs ns/\ns.length<=n:=by
 have aa:WShape.hasAll [] args [.list .int]=true:=(pre_splitW hpre).1;have hc:l.pre.holds [] { args:=args } = true:=(pre_splitW hpre).2;obtain⟨d,r,rfl,h1,h2⟩:=hasAllW_cons aa;obtain rfl:=hasAllW_nil h2;obtain⟨xs,rfl,h3⟩:=hasW_list h1;obtain⟨ns,rfl⟩:=items_int h3;have z:ns.length<=n:=by
  unfold OpenLaw.pre at hc;have h4:(WTm.not (.lt (.lit (.int (n:Int))) (.len (.arg 0)))).holds [] { args:=[.list (ns.map .int)] } = true:=by
   have h4:=(holds_andW hc).1;rw[hn]at h4;exact h4
  have h5:=condW_of h4 (w_not (w_lt w_lit (w_len_list (w_arg rfl))));rw[cu]at h5;refine Nat.le_of_not_lt fun q=>?_;have q':(n:Int)<((ns.length:Nat):Int):=yw
  first
   | (rw[fy q']at h5;exact absurd h5 dz)
   | (simp at h5;omega)
 cases hwl with
 |cons w1 w2=>
  cases w2;cases w1 with
  |list ho hall=>exact⟨_,_,ns,rfl,rfl,ho,Lq ns _ hall,z⟩
theorem MQ(l:OpenLaw)(args:List WData):l.row.toRowW.claim.post args (.bool true) args=true:=
 postW_of (r:=l.row.toRowW) (X:=(true==true))
  (show WShape.has [] (.bool true) .bool=true by first|rfl|decide|simp[WShape.has,WShape.arms,WShape.armsAll])
  (show (WTm.eq .res (.lit (.bool true))).value [] { args:=args,res:=some (.bool true),after:=args } = some (.bool (true==true))from w_eq_bool (w_res rfl) w_lit) rfl
theorem attach_call{l:OpenLaw}{n:Nat}{q:gf}{z:List Str}{XP:(Str->Option bo)->Heap->Prop}{YP:iu->Heap->Prop}{d:DefRec}
  (hn:l.most=some n) (hdf:d.params.defaults=[])
  (call:∀(w:iu) (s₀ s₁:bq) (mg mb:Str->Option bo) (fa:Addr) (o:Obj) (pm cd aa:bo) (a:Addr) (vs:List bo) (ns:List Int),
   Ground q z [] XP w s₀ mg mb s₁.heap->YP w s₁.heap ->
   s₁.heap.get? fa=some o->o.data=.func (docDef d.name d.params d.body d.scope pm cd aa)->s₁.heap.CodeRec cd d.name->mg d.name=some (.ref fa) ->
   s₁.heap.get? a=some { cls:=.type "list",data:=.seq vs.toArray }->kz vs ns->ns.length<=n->s₁.gens = #[] ->
   codeAny (model l.prog w) callerA (.call (.ref fa) ⟨[.ref a],[]⟩) (fun r s'=>r=.ok (.ret (.bool true))/\OldK s₁.heap s'.heap/\s'.os=s₁.os/\AllBare s'.gens) s₁):
  WalkO q z XP YP l.row.toRowW d [] (fun f vs=>PySem.call f vs):=by
 intro w s₀ s₁ mg mb G Y fa o pm cd aa dV kV ho hd ag hD ah hg args vals as ac aj ak ai al;obtain rfl:dV=.none:=Dflts.none hD hdf;obtain rfl:kV=.none:=Dflts.noKw hD;obtain⟨a,vs,ns,rfl,rfl,af,ab,ae⟩:=Ia hn ac ai;refine enter_call (uf (call w s₀ s₁ mg mb fa o pm cd aa a vs ns G Y ho (fd_plain hd) ag ah af ab ae hg) fun r s' hq=>?_);obtain⟨rfl,h2,h3,h4⟩:=hq;exact⟨.inl ⟨.bool true,.bool true,[],rfl,fun _=>rfl,.bool true,MQ l _,fun _=>⟨qx,fun _ hm=>(nomatch hm)⟩⟩,h2,h3,h4⟩
end Att
namespace L2
open PySem PySem.Spec PyProof.Rows
section
theorem rV:∀{vs:List bo}{ns:List Int},kz vs ns->Vals (ns.map V.int) vs
 |_,_,.nil=>.nil
 |_,_,.cons n t h=>.cons ⟨t,rfl⟩ (rV h)
def Only(H:Hp):Prop:=∀b,H b=none\/(∃o xs,H b=some (.frz o (.lst xs)))\/∃q∈tabsG,q.1.2=b/\H b=some (.tbl q.2)
def d7(b:Addr):Option HO:=(tabsG.find? fun q=>q.1.2==b).map fun q=>.tbl q.2
theorem mL{b:Addr}{u:HO}(e:d7 b=some u):∃q∈tabsG,q.1.2=b/\u=.tbl q.2:=by
 unfold d7 at e;cases h:tabsG.find? fun q=>q.1.2==b with
 |none=>rw[h]at e;cases e
 |some q=>
  rw[h]at e;cases e;exact⟨q,List.mem_of_find?_eq_some h,by simpa using find?_some h,rfl⟩
theorem JW{l:List ((Addr×Addr)×Array bo)}(nd:(l.map fun q=>q.1.2).Nodup){q:(Addr×Addr)×Array bo}(h:q∈l):l.find? (fun r=>r.1.2==q.1.2)=some q:=by
 induction l with
 |nil=>cases h
 |cons p l ih=>
  rw[ga,qg]at nd;rcases mem_cons.mp h with e|e
  ·subst e;simp
  ·have ne:¬ p.1.2=q.1.2:=fun z=>nd.1 (by rw[z];exact oy (f:=fun q:(Addr×Addr)×Array bo=>q.1.2) e);rw[qy (by simpa using ne)];exact ih nd.2 e
theorem Ft(nd:(tabsG.map fun q=>q.1.2).Nodup){q:(Addr×Addr)×Array bo}(h:q∈tabsG):d7 q.1.2=some (.tbl q.2):=by
 unfold d7;rw[JW nd h];rfl
structure TabsOk(K:fe)(h:Heap):Prop where
 nd:(tabsG.map fun q=>q.1.2).Nodup
 hd:∀q∈tabsG,W.CodeHd h q.1.1 q.1.2
 empty:∀q∈tabsG,h.get? q.1.2=some (W.tabObj #[])
 off:∀q∈tabsG,K.lookup q.1.2=none
theorem TabsOk.none{K:fe}{h:Heap}(e:tabsG=[]):TabsOk K h:=⟨by rw[e];exact lu,fun q z=>absurd z (by rw[e];simp),fun q z=>absurd z (by rw[e];simp),fun q z=>absurd z (by rw[e];simp)⟩
theorem Gu{P:gf}{w:iu}{K:fe}{mg mb:Str->Option bo}{CX:CXT}{k:Nat}{fa a:Addr}{fd:su}{x:Str}{sp:Sp}{s₁:bq}{vs:List bo}{ns:List Int}
  (KX:K.In s₁.heap) (TT:TabsOk K s₁.heap) (hbm:BltAt s₁.heap mg) (hns:s₁.heap.Ns qa mg) (hb:s₁.heap.Ns builtinsNs mb) (hbb:∀x:Str,x ≠ "__name__"->mb x=jq x) (hlim:s₁.heap.NoLimit) (hg:s₁.gens = #[])
  (ha:s₁.heap.get? a=some { cls:=.type "list",data:=.seq vs.toArray }) (hi:kz vs ns) (hl:ns.length<=fk) (hr:Room k callerA)
  (F:∀base:Heap,K.In base->base.Ns qa mg->FnOk P w K mg base CX k fa fd [x] sp) (hbind:∀(s:bq) (u:bo),BindsTo s fd ⟨[u],[]⟩ [(x,u)])
  (hsp:∀H:Hp,Only H->SqL K H a (ns.map V.int)->sp [.ref a] H (fun v _=>v=.bl true) fun _ _ _=>False)
  (hCX:∀H e s',CX [] H s₁ (fun _ _ _=>False) e s'->False):
  codeAny (model P w) callerA (.call (.ref fa) ⟨[.ref a],[]⟩) (fun r s'=>r=.ok (.ret (.bool true))/\OldK s₁.heap s'.heap/\s'.os=s₁.os/\AllBare s'.gens) s₁:=by
 have rv:=rV hi;have al:=hi.length
 have af:∀H:Hp,Only H->SqL K H a (ns.map V.int)->HOk P w H s₁.heap->(∀b,H b≠none->b=a\/∃q∈tabsG,q.1.2=b)->(H a≠none->K.lookup a=none)->(∀q∈tabsG,H q.1.2=some (.tbl q.2)) ->
   codeAny (model P w) callerA (.call (.ref fa) ⟨[.ref a],[]⟩) (fun r s'=>r=.ok (.ret (.bool true))/\OldK s₁.heap s'.heap/\s'.os=s₁.os/\AllBare s'.gens) s₁:=by
  intro H hO hS hok hA hK ai;have ag:∀{b:Addr}{o:Obj},s₁.heap.get? b=some o->o.cls≠.type "list"->o.cls≠.none->H b=none:=fun {b o} e c1 c2=>by
   cases q:H b with
   |none=>rfl
   |some u=>
    rcases hA b (by rw[q];simp)with e'|⟨r,aa,e'⟩
    ·subst e';rw[ha]at e;cases e;exact absurd rfl c1
    ·have:=TT.empty r aa;rw[e',e]at this;cases this;exact absurd rfl c2
  have ab:∀{b:Addr}{o:Obj},s₁.heap.get? b=some o->H b=none->(iK s₁.heap H).get? b=some o:=fun e n=>K0 e n;have an:∀{b:Addr}{o:Obj}{es:Array tw}{ep:Nat},s₁.heap.get? b=some o->o.data=.dict es ep->H b=none:=fun {b o es ep} e d=>by
   cases q:H b with
   |none=>rfl
   |some u=>
    rcases hA b (by rw[q];simp)with e'|⟨r,aa,e'⟩
    ·subst e';rw[ha]at e;cases e;have d':Data.seq vs.toArray _=Data.dict es ep:=d;cases d'
    ·have:=TT.empty r aa;rw[e',e]at this;cases this;cases d
  have ac:∀{b:Addr}{m:Str->Option bo},s₁.heap.Ns b m->(iK s₁.heap H).Ns b m:=fun {b m} ⟨o,es,ep,e,d,r⟩=>⟨o,es,ep,ab e (an e d),d,r⟩;have ak:K.In (iK s₁.heap H):=fun b o e=>ab (KX b o e) (by
   cases q:H b with
   |none=>rfl
   |some u=>
    rcases hA b (by rw[q];simp)with e'|⟨r,aa,e'⟩
    ·subst e';rw[hK (by rw[q];simp)]at e;cases e
    ·rw[<- e',TT.off r aa]at e;cases e)
  have hM:Mod K mg (iK s₁.heap H):=⟨ak,ac hns,⟨mb,ac hb,hbb⟩,let ⟨mc,h1,h2⟩:=hlim;⟨mc,ac h1,h2⟩,
   let ⟨bm,ob,b1,b2,b3,b4,b5⟩:=hbm;⟨bm,ob,b1,b2,ab b3 (ag b3 (by rw[b4];decide) (by rw[b4];decide)),b4,b5⟩,
   fun q hq=>let ⟨o,vs,file,tf,flags,tg,inF,text,tt,e1,c1,r⟩:=TT.hd q hq;⟨o,vs,file,tf,flags,tg,inF,text,tt,ab e1 (ag e1 (by rw[c1];decide) (by rw[c1];decide)),c1,r⟩⟩
  have e0:Env0 P w K mg (iK s₁.heap H) callerA [] s₁ H:=⟨rfl,hM,fun b o e=>Kg e,le_of_eq (Lv _ _),trivial,⟨fun b hb=>absurd (show b∈([]:List Addr)from hb) yv,ai⟩,hok,.of_eq hg⟩;refine uf ((F _ ak (ac hns)).run callerA [] s₁ H ⟨[.ref a],[]⟩ [.ref a] [.ref a] _ _ hr e0 (hbind s₁ (.ref a)) (.cons rfl .nil) (hsp H hO hS)) fun r s' h=>?_;cases r with
  |error e=>exact(hCX H e s' h).elim
  |ok fl=>
   cases fl with
   |next=>exact rk h
   |brk=>exact rk h
   |cont=>exact rk h
   |ret u=>
    obtain⟨v,H',os,bare,un,ae,r',q⟩:=h;have q':v=.bl true:=q;subst q';obtain rfl:u=Value.bool true:=r';have aj:∀b o,s₁.heap.get? b=some o->s'.heap.get? b=some o\/∃q∈tabsG,q.1.2=b/\o=W.tabObj #[]/\∃ps,s'.heap.get? b=some (W.tabObj ps):=fun b o e=>by
     cases q:H b with
     |none=>exact .inl (un.keep b o e q (by intro z;exact absurd (show b∈([]:List Addr)from z) yv) yv)
     |some u=>
      rcases hO b with z|⟨ob,xs,z⟩|⟨r,aa,e',z⟩
      ·rw[q]at z;cases z
      ·have z2:=un.frzs b ob _ z;obtain⟨e1,_⟩:=hok b _ z;obtain⟨e2,_⟩:=ae b _ z2;rw[e]at e1;cases e1;exact .inl e2
      ·obtain⟨qs,e2,_⟩:=ae b _ (un.tbls b _ z);have:=TT.empty r aa;rw[e',e]at this;cases this;exact .inr ⟨r,aa,e',rfl,qs,e2⟩
    refine⟨rfl,⟨fun b o e=>?_,fun b o e=>?_⟩,os,bare⟩
    ·rcases aj b o e with z|⟨r,aa,rfl,rfl,ps,z⟩
     ·exact .inl z
     ·exact .inr (.inl ⟨((TT.hd r aa).tab (TT.empty r aa)).isCodeTable,rfl,#[],ps,rfl,by rw[Array.empty_append];exact z⟩)
    ·rcases aj b o e with z|⟨r,aa,rfl,rfl,ps,z⟩
     ·exact⟨o,z⟩
     ·exact⟨_,z⟩
 have ah:∀q∈tabsG,q.1.2≠a:=fun q hq z=>by
  have:=TT.empty q hq;rw[z,ha]at this;cases this
 have am:∀(H:Hp) (b:Addr) (u:HO),d7 b=some u->ObjOk P w H s₁.heap b u:=fun H b u z=>by
  obtain⟨q,hq,rfl,rfl⟩:=mL z;exact⟨#[],TT.empty q hq,.inl rfl⟩
 cases hk:K.lookup a with
 |some o=>
  have e:=KX a o hk;rw[ha]at e;cases e;refine af d7 (fun b=>?_) (.inr ⟨_,vs.toArray,_,hk,rfl,rfl,rfl,by rw[fq,al];exact hl,by simpa using rv⟩) (am d7) (fun b z=>?_) (fun z=>?_) fun q hq=>Ft TT.nd hq
  ·cases q:d7 b with
   |none=>exact .inl rfl
   |some u=>obtain⟨r,aa,e',rfl⟩:=mL q;exact .inr (.inr ⟨r,aa,e',rfl⟩)
  ·cases q:d7 b with
   |none=>exact absurd q z
   |some u=>obtain⟨r,aa,e',_⟩:=mL q;exact .inr ⟨r,aa,e'⟩
  ·cases q:d7 a with
   |none=>exact absurd q z
   |some u=>obtain⟨r,aa,e',_⟩:=mL q;exact absurd e' (ah r aa)
 |none=>
  refine af (fun b=>if b=a then some (.frz { cls:=.type "list",data:=.seq vs.toArray } (.lst (ns.map V.int)))else d7 b) (fun b=>?_) (.inl (.inr ⟨{ cls:=.type "list",data:=.seq vs.toArray },cn rfl⟩)) (fun b u z=>?_) (fun b z=>?_) (fun _=>hk) fun q hq=>(cm (ah q hq)).trans (Ft TT.nd hq)
  ·by_cases hb:b=a
   ·exact .inr (.inl ⟨_,_,cn hb⟩)
   ·cases q:d7 b with
    |none=>exact .inl ((cm hb).trans q)
    |some u=>obtain⟨r,aa,e',rfl⟩:=mL q;exact .inr (.inr ⟨r,aa,e',(cm hb).trans q⟩)
  ·by_cases hb:b=a
   ·have z':=(cn hb).symm.trans z;cases z';subst hb;exact⟨ha,by rw[cu];exact hl,vs,_,rv,ha⟩
   ·have z':=(cm hb).symm.trans z;exact am _ b u z'
  ·by_cases hb:b=a
   ·exact .inl hb
   ·cases q:d7 b with
    |none=>exact absurd ((cm hb).trans q) z
    |some u=>obtain⟨r,aa,e',_⟩:=mL q;exact .inr ⟨r,aa,e'⟩
end
section
abbrev KOf {K:fe}{h:Heap} (_:K.In h):fe:=K
theorem walk_of{l:W.OpenLaw}{n k:Nat}{q:gf}{ab:List Str}{XP:(Str->Option bo)->Heap->Prop}{YP:iu->Heap->Prop}{d:DefRec}{K:Params->fe}{CX:iu->CXT}{sp:iu->Sp}{x:Str}
  (hn:l.most=some n) (hn2:n<=fk) (hdf:d.params.defaults=[]) (hr:Room k callerA)
  (hY:∀(w:iu) (h:Heap),YP w h->(K w.params).In h)
  (hT:∀(w:iu) (h:Heap),YP w h->TabsOk (K w.params) h)
  (F:∀(w:iu) (mg:Str->Option bo) (fa:Addr) (h:Heap),(K w.params).In h->h.Ns qa mg->mg d.name=some (.ref fa) ->
   ∃fd:su,(∀(s:bq) (u:bo),BindsTo s fd ⟨[u],[]⟩ [(x,u)]) /\
    ∀base:Heap,(K w.params).In base->base.Ns qa mg->FnOk l.prog w (K w.params) mg base (CX w) k fa fd [x] (sp w))
  (hsp:∀(w:iu) (H:Hp) (a:Addr) (ns:List Int),ns.length<=n->Only H->SqL (K w.params) H a (ns.map V.int)->sp w [.ref a] H (fun v _=>v=.bl true) fun _ _ _=>False)
  (hCX:∀(w:iu) (H:Hp) (s:bq) (e:bo) (s':bq),CX w [] H s (fun _ _ _=>False) e s'->False):
  W.WalkO q ab XP YP l.row.toRowW d [] (fun f vs=>PySem.call f vs):=by
 refine Att.attach_call hn hdf fun w s₀ s₁ mg mb fa o pm cd ag a vs ns G Y ho hd af ae ac aa z hg=>?_;have KX:=hY w _ Y;obtain⟨fd,hb,hF⟩:=F w mg fa _ KX G.T.g ae;exact Gu KX (hT w _ Y) (let ⟨bm,ob,a1,a2,a3,a4,a5,a6⟩:=G.T.bmain;⟨bm,ob,a1,a2,a3,a4,a5,a6⟩) G.T.g G.T.b G.T.builtins G.T.nolimit hg ac aa (lw z hn2) hr hF hb (fun H hO hS=>hsp w H a ns z hO hS) fun H e s'=>hCX w H s₁ e s'
end
section
def kC(s:Stmt):Arguments:=match s with
 | .FunctionDef _ a _ _ _ _ _ _ _ _=>a
 |_=>{ posonlyargs:=[],args:=[],vararg:=none,kwonlyargs:=[],kw_defaults:=[],kwarg:=none,defaults:=[] }
def dP(s:Stmt):List Stmt:=match s with
 | .FunctionDef _ _ b _ _ _ _ _ _ _=>b
 |_=>[]
def zj(s:Stmt):Scope:=match s with
 | .FunctionDef _ _ _ _ _ _ sc _ _ _=>sc
 |_=>{ kind:=.function,names:=[],isGenerator:=false,isCoroutine:=false }
abbrev CX0:CXT:=fun _ _ _ _ _ _=>False
abbrev E0:XK:=fun _ _ _=>False
theorem pass0{X:Cx}:Passes CX0 X E0:=fun _ _ _ _ _ _ _ h=>h.elim
structure Fun(K:fe)(x qual:Str)(st:Stmt)(f:Addr)(fd:su):Prop where
 ex:∃(oc:bo) (od:Option Addr) (kV doc pm:bo) (an:Option Addr) (cdv ct:bo) (osl:Array (Option bo)),
  fd=W.fnOf x qual (kC st) (dP st) (zj st) .none kV doc pm an cdv ct/\K.lookup f=some ⟨oc,od,.func fd,osl⟩/\W.codeIn K cdv qual=true
 kp:W.keepIn K (.ref f)=true
section
variable {P:gf}{w:iu}{K:fe}{mg:Str->Option bo}{base:Heap}
theorem Fun.ok{x z:Str}{st:Stmt}{f:Addr}{fd:su}{N ps:List Str}{k:Nat}{sp:Sp}(F:Fun K x z st f fd)(S:FnScope N ps (zj st))(len:∀vs H Q E,sp vs H Q E->vs.length=ps.length)
  (hbody:∀(aa:bo) (A:iq) (outer:List Env) (s:bq) (H:Hp) (vs:List V) (Q:VK) (E:XK),Room k (A.deeper (vh z (zj st) s.heap.objs.size f aa))->sp vs H Q E ->
   ∃t,PSs (fN CX0 P w K mg base N z (zj st) f aa A outer s H E).nox (dP st) t/\t { nx:=fun _ H'=>Q .non H',rt:=Q } (start N vs) H):FnOk P w K mg base CX0 (k+1) f fd ps sp:=by
 obtain⟨oc,od,kV,ae,pm,an,aa,ct,af,rfl,lk,ab⟩:=F.ex;refine L4 lk ab S len fun A outer s H vs Q E hr ac=>?_;obtain⟨t,h,q⟩:=hbody aa A outer s H vs Q E hr ac;exact⟨t,h.nox,q⟩
theorem Fun.binds{x q:Str}{st:Stmt}{f:Addr}{fd:su}{ps:List Str}(F:Fun K x q st f fd)
  (h:∀(kV aa pm:bo) (an:Option Addr) (z ct:bo) (us:List bo),us.length=ps.length->bindArgs (W.fnOf x q (kC st) (dP st) (zj st) .none kV aa pm an z ct) ⟨us,[]⟩=pure (ps.zip us)):Binds K fd ps []:=by
 obtain⟨oc,od,kV,aa,pm,an,z,ct,ac,rfl,lk,ab⟩:=F.ex;exact .all (h kV aa pm an z ct)
theorem EK{x q:Str}{st:Stmt}{f:Addr}{oc:bo}{od an:Option Addr}{ab:Array (Option bo)}{kV aa pm z ct:bo}(l:K.lookup f=some ⟨oc,od,.func (W.fnOf x q (kC st) (dP st) (zj st) .none kV aa pm an z ct),ab⟩)
  (c:W.codeIn K z q=true) (k:W.keepIn K (.ref f)=true):Fun K x q st f (W.fnOf x q (kC st) (dP st) (zj st) .none kV aa pm an z ct):=⟨⟨oc,od,kV,aa,pm,an,z,ct,ab,rfl,l,c⟩,k⟩
end
theorem jR{A:iq}{k:Nat}(hr:Room k A):A.units+1<uk:=Nat.lt_of_le_of_lt (Nat.add_le_add_left (by decide:1<=64) _) hr.units
theorem small1000{n:Nat}(h:n<=1000):n<fk:=Nat.lt_of_le_of_lt h dz
section
variable {X:Cx}
theorem pv(i:Nat){x:Str}{pos:Pos}(hN:X.N[i]?=some x:=by rfl)(hv:Vis X.env.scope x:=by first|exact je rfl|exact vi (je rfl)|exact vi (vi rfl))(hd:(x==("__debug__":Str))=false:=by decide)
  (hcd:(x==("__classdict__":Str))=false:=by decide):PE X (.Name x pos) (gU i):=JH hN hv hd hcd
end
theorem eP{A B:Prop}(h:B):if false=true then A else B:=by
 rw[cm jg];exact h
theorem eI{A B:Prop}(h:A):if true=true then A else B:=by
 rw[cn rfl];exact h
theorem ite2{c A B:Prop}[Decidable c](h1:c->A)(h2:¬ c->B):if c then A else B:=by
 by_cases h:c
 ·rw[cn h];exact h1 h
 ·rw[cm h];exact h2 h
def Same(H H':Hp):Prop:=∀b o,H b=some o->H' b=some o
theorem Same.refl(H:Hp):Same H H:=fun _ _ h=>h
theorem Same.trans{H H1 H2:Hp}(a:Same H H1)(b:Same H1 H2):Same H H2:=fun c o h=>b c o (a c o h)
theorem Same.seq{K:fe}{H H':Hp}{a:Addr}{xs:List V}(e:Same H H')(h:SqL K H a xs):SqL K H' a xs:=by
 rcases h with (h|⟨o,h⟩)|h
 ·exact .inl (.inl (e _ _ h))
 ·exact .inl (.inr ⟨o,e _ _ h⟩)
 ·exact .inr h
end
section
section
variable {X:Cx}
def CDivX(i j:Int):Prop:=0<j/\j.natAbs.log2<9000
theorem G4:OpR X (oh .FloorDiv) (rI CDivX fun i j=>.int (i/j)):=opI fun i j _ _ _ _ _ hc q=>by
 have h1:(0:Int)<j:=hc.1;exact floordiv_int yw (by rw[Int.fdiv_eq_ediv_of_nonneg i yw];exact q) (.inl (PyProof.noPylong_of_log2 hc.2))
theorem LN:OpR X (oh .Mult) (rI IntMulOk fun i j=>.int (i*j)):=opI fun _ _ _ _ _ _ _ hc q=>mul_int q hc
theorem FP{k:Int}{n:Nat}(h:k.natAbs<2 ^ n):Builtin.Int.intBits k<=n:=by
 unfold Builtin.Int.intBits;split
 ·exact nj _
 ·rename_i h0;have hk:k.natAbs≠0:=by
   intro z;apply h0;rw[Int.natAbs_eq_zero.mp z];rfl
  have:=(Nat.log2_lt hk).mpr h;omega
theorem Ho{i j:Int}(n m:Nat)(hi:i.natAbs<2 ^ n)(hj:j.natAbs<2 ^ m)(hn:n<=2 ^ 20:=by decide)(hm:m<=2 ^ 20:=by decide):IntMulOk i j:=
 .of_bits (lw (FP hi) hn) (lw (FP hj) hm)
theorem gQ{i j:Int}(h1:-(2 ^ 64)<i)(h2:i<2 ^ 64):IntMulOk i j:=.of_left (intBits_le_64 h1 h2)
theorem G9{i j:Int}(h1:-(2 ^ 64)<j)(h2:j<2 ^ 64):IntMulOk i j:=.of_right (intBits_le_64 h1 h2)
theorem AC{n:Int}{k:Nat}(h0:0<n)(h:n<2 ^ k):n.natAbs.log2<k:=by
 refine(Nat.log2_lt yw).mpr ?_;have e:((2 ^ k:Nat):Int)=(2:Int) ^ k:=by simp
 omega
end
def kD:Key->bt
 | .inl i=>.int i
 | .inr x=>.str x
def DOf(H:Hp)(a:Addr)(ks:List bt)(vs:List V):Prop:=
 (∃(ob:Obj) (m:List (Key×V)),H a=some (.frz ob (.dK m))/\ks=m.map (fun p=>kD p.1)/\vs=m.map (·.2)) \/
 ∃(ob:Obj) (p:List Key×V) (m:List (List Key×V)),H a=some (.frz ob (.dT (p::m)))/\ks=(p::m).map (fun p=>.tuple (p.1.map kD))/\vs=(p::m).map (·.2)
mutual
def Has(H:Hp):bt->V->Prop
 | .none,v=>v=.non
 | .bool b,v=>v=.bl b
 | .int i,v=>v=.int i
 | .str x,v=>v=.str x
 | .list ds,v=>∃a vs,v=.ref a/\H a=some (.lst vs)/\HasL H ds vs
 | .tuple ds,v=>∃a vs,v=.ref a/\H a=some (.tup vs)/\HasL H ds vs
 | .dict kvs,v=>∃a vs,v=.ref a/\DOf H a (kvs.map (·.1)) vs/\HasV H kvs vs
def HasL(H:Hp):List bt->List V->Prop
 | [],vs=>vs=[]
 |d::ds,vs=>∃v r,vs=v::r/\Has H d v/\HasL H ds r
def HasV(H:Hp):List (bt×bt)->List V->Prop
 | [],vs=>vs=[]
 |p::ps,vs=>∃v r,vs=v::r/\HasP H p v/\HasV H ps r
def HasP(H:Hp):bt×bt->V->Prop
 | (_,d),v=>Has H d v
end
mutual
theorem Has.mono{H H':Hp}(s:Same H H'):∀(d:bt) (v:V),Has H d v->Has H' d v
 | .none,_,h=>by simp only[Has]at h ⊢;exact h
 | .bool _,_,h=>by simp only[Has]at h ⊢;exact h
 | .int _,_,h=>by simp only[Has]at h ⊢;exact h
 | .str _,_,h=>by simp only[Has]at h ⊢;exact h
 | .list ds,v,h=>by
  simp only[Has]at h ⊢;obtain⟨a,vs,e,q,l⟩:=h;exact⟨a,vs,e,s _ _ q,HasL.mono s ds vs l⟩
 | .tuple ds,v,h=>by
  simp only[Has]at h ⊢;obtain⟨a,vs,e,q,l⟩:=h;exact⟨a,vs,e,s _ _ q,HasL.mono s ds vs l⟩
 | .dict kvs,v,h=>by
  simp only[Has]at h ⊢;obtain⟨a,vs,e,q,l⟩:=h;refine⟨a,vs,e,?_,HasV.mono s kvs vs l⟩;rcases q with ⟨ob,m,e1,e2⟩|⟨ob,p,m,e1,e2⟩
  ·exact .inl ⟨ob,m,s _ _ e1,e2⟩
  ·exact .inr ⟨ob,p,m,s _ _ e1,e2⟩
theorem HasL.mono{H H':Hp}(s:Same H H'):∀(ds:List bt) (vs:List V),HasL H ds vs->HasL H' ds vs
 | [],_,h=>by simp only[HasL]at h ⊢;exact h
 |d::ds,vs,h=>by
  simp only[HasL]at h ⊢;obtain⟨v,r,e,q,l⟩:=h;exact⟨v,r,e,Has.mono s d v q,HasL.mono s ds r l⟩
theorem HasV.mono{H H':Hp}(s:Same H H'):∀(ds:List (bt×bt)) (vs:List V),HasV H ds vs->HasV H' ds vs
 | [],_,h=>by simp only[HasV]at h ⊢;exact h
 |d::ds,vs,h=>by
  simp only[HasV]at h ⊢;obtain⟨v,r,e,q,l⟩:=h;exact⟨v,r,e,HasP.mono s d v q,HasV.mono s ds r l⟩
theorem HasP.mono{H H':Hp}(s:Same H H'):∀(p:bt×bt) (v:V),HasP H p v->HasP H' p v
 | (_,d),v,h=>by
  simp only[HasP]at h ⊢;exact Has.mono s d v h
end
section
variable {H:Hp}{v:V}
theorem kR:Has H .none v↔v=.non:=by simp only[Has]
theorem i9{b:Bool}:Has H (.bool b) v↔v=.bl b:=by simp only[Has]
theorem eY{i:Int}:Has H (.int i) v↔v=.int i:=by simp only[Has]
theorem iR{x:Str}:Has H (.str x) v↔v=.str x:=by simp only[Has]
theorem c9{ds:List bt}:Has H (.list ds) v↔∃a vs,v=.ref a/\H a=some (.lst vs)/\HasL H ds vs:=by simp only[Has]
theorem zR{ds:List bt}:Has H (.tuple ds) v↔∃a vs,v=.ref a/\H a=some (.tup vs)/\HasL H ds vs:=by simp only[Has]
theorem AN{kvs:List (bt×bt)}:Has H (.dict kvs) v↔∃a vs,v=.ref a/\DOf H a (kvs.map (·.1)) vs/\HasV H kvs vs:=by simp only[Has]
theorem Ki{vs:List V}:HasV H [] vs↔vs=[]:=by simp only[HasV]
theorem F6{p:bt×bt}{ds:List (bt×bt)}{vs:List V}:HasV H (p::ds) vs↔∃v r,vs=v::r/\Has H p.2 v/\HasV H ds r:=by
 obtain⟨k,d⟩:=p;simp only[HasV,HasP]
theorem zx{vs:List V}:HasL H [] vs↔vs=[]:=by simp only[HasL]
theorem zq{d:bt}{ds:List bt}{vs:List V}:HasL H (d::ds) vs↔∃v r,vs=v::r/\Has H d v/\HasL H ds r:=by simp only[HasL]
theorem HasL.length:∀{ds:List bt}{vs:List V},HasL H ds vs->vs.length=ds.length
 | [],_,h=>by rw[zx.mp h];rfl
 |d::ds,vs,h=>by
  obtain⟨v,r,e,_,l⟩:=zq.mp h;rw[e,ft,ft,HasL.length l]
theorem HasL.get:∀{ds:List bt}{vs:List V}{i:Nat}{d:bt},HasL H ds vs->ds[i]?=some d->∃v,vs[i]?=some v/\Has H d v
 | [],_,_,_,_,e=>by simp at e
 |c::ds,vs,0,d,h,e=>by
  obtain⟨v,r,rfl,q,_⟩:=zq.mp h;simp at e;subst e;exact⟨v,rfl,q⟩
 |c::ds,vs,i+1,d,h,e=>by
  obtain⟨v,r,rfl,_,l⟩:=zq.mp h;obtain⟨u,e1,e2⟩:=HasL.get (i:=i) (d:=d) l (by simpa using e);exact⟨u,by simpa using e1,e2⟩
theorem HasL.append:∀{ds es:List bt}{vs us:List V},HasL H ds vs->HasL H es us->HasL H (ds++es) (vs++us)
 | [],es,vs,us,h,h'=>by rw[zx.mp h];exact h'
 |d::ds,es,vs,us,h,h'=>by
  obtain⟨v,r,rfl,q,l⟩:=zq.mp h;exact zq.mpr ⟨v,r++us,rfl,q,HasL.append l h'⟩
theorem oJ:∀(ns:List Int),HasL H (ns.map .int) (ns.map V.int)
 | []=>zx.mpr rfl
 |n::ns=>zq.mpr ⟨_,_,rfl,eY.mpr rfl,oJ ns⟩
end
def tyD:bt->String
 | .none=>"NoneType" | .bool _=>"bool" | .int _=>"int" | .str _=>"str" | .list _=>"list" | .tuple _=>"tuple" | .dict _=>"dict"
theorem Has.ty{K:fe}{H:Hp}{d:bt}{v:V}(h:Has H d v):TyOf K H v (.type (tyD d)):=by
 cases d with
 |none=>rw[kR.mp h];exact .non
 |bool b=>rw[i9.mp h];exact .bl b
 |int i=>rw[eY.mp h];exact .int i
 |str x=>rw[iR.mp h];exact .str x
 |list ds=>obtain⟨a,vs,rfl,e,_⟩:=c9.mp h;exact .lst e
 |tuple ds=>obtain⟨a,vs,rfl,e,_⟩:=zR.mp h;exact .tup e
 |dict kvs=>
  obtain⟨a,vs,rfl,e,_⟩:=AN.mp h;rcases e with ⟨ob,m,e,_⟩|⟨ob,p,m,e,_⟩
  ·exact .dK (.inr ⟨ob,e⟩)
  ·exact .dT (.inr ⟨ob,e⟩)
def uA:List String:=["NoneType","bool","int","str","list","tuple","dict"]
def iD:List String:=["int","bool","str","list","tuple","dict"]
def gR(t c:String):Bool:=t==c||(t == "bool" && c == "int")
def kI(d:bt)(c:String):Bool:=gR (tyD d) c
theorem Fw(d:bt):tyD d∈uA:=by cases d<;>simp[tyD,uA]
theorem JV(K:fe){t c:String}(ht:t∈uA)(hc:c∈iD):W.kitOne K (.type t) (.type c)=some (gR t c):=by
 simp only[uA,iD,mw,km,or_false]at ht hc;rcases ht with rfl|rfl|rfl|rfl|rfl|rfl|rfl<;>rcases hc with rfl|rfl|rfl|rfl|rfl|rfl<;>rfl
def AT:List V->Hp->VK->Prop
 | [x,.ty c],H,Q=>∃d,Has H d x/\c∈iD/\Q (.bl (kI d c)) H
 |_,_,_=>False
theorem IV{H:Hp}{d:bt}{x:V}{c:String}{Q:VK}(h:Has H d x)(hc:c∈iD)(q:Q (.bl (kI d c)) H):AT [x,.ty c] H Q:=⟨d,h,hc,q⟩
section
variable {X:Cx}
theorem gT:CallR X (.builtin "isinstance") AT:=by
 intro ze s σ H xs us Q I r h
 match xs,h with
 | [x,.ty c],h=>
  obtain⟨d,hx,hc,q⟩:=h;obtain⟨u,w',rfl,ru,z⟩:=vals2 r;cases (show w'=Value.type c from z);exact Gp I ru hx.ty (JV X.K (Fw d) hc) fun tk=>⟨.bl _,H,I.tok tk,rfl,q⟩
end
def sp1(p:V->Hp->VK->Prop):Sp:=fun vs H Q _=>match vs with | [x]=>p x H Q|_=>False
def sp2(p:V->V->Hp->VK->Prop):Sp:=fun vs H Q _=>match vs with | [x,y]=>p x y H Q|_=>False
theorem Ez{p:V->Hp->VK->Prop}:∀(vs:List V) (H:Hp) (Q:VK) (E:XK),sp1 p vs H Q E->∃x,vs=[x]/\p x H Q:=by
 intro vs H Q E h
 match vs,h with
 | [x],h=>exact⟨x,rfl,h⟩
theorem DH{p:V->V->Hp->VK->Prop}:∀(vs:List V) (H:Hp) (Q:VK) (E:XK),sp2 p vs H Q E->∃x y,vs=[x,y]/\p x y H Q:=by
 intro vs H Q E h
 match vs,h with
 | [x,y],h=>exact⟨x,y,rfl,h⟩
structure Dd(K:fe)(mg:Str->Option bo)(x:Str)(st:Stmt)(ps:List Str):Prop where
 ex:∃f fd,Fun K x x st f fd/\mg x=some (.ref f)/\Binds K fd ps []
structure Df(P:gf)(w:iu)(K:fe)(mg:Str->Option bo)(base:Heap)(x:Str)(ps:List Str)(k:Nat)(sp:Sp):Prop where
 ex:∃f fd,FnOk P w K mg base CX0 k f fd ps sp/\mg x=some (.ref f)/\W.keepIn K (.ref f)=true/\Binds K fd ps []
section
variable {P:gf}{w:iu}{K:fe}{mg:Str->Option bo}{base:Heap}{x a b c d e:Str}{st:Stmt}{N:List Str}{k:Nat}
theorem Df.of{ps:List Str}{sp:Sp}(D:Dd K mg x st ps)(S:FnScope N ps (zj st))(len:∀vs H Q E,sp vs H Q E->vs.length=ps.length)
  (hbody:∀(f:Addr) (cdv:bo) (A:iq) (outer:List Env) (s:bq) (H:Hp) (vs:List V) (Q:VK) (E:XK),Room k (A.deeper (vh x (zj st) s.heap.objs.size f cdv))->sp vs H Q E ->
   ∃t,PSs (fN CX0 P w K mg base N x (zj st) f cdv A outer s H E).nox (dP st) t/\t { nx:=fun _ H'=>Q .non H',rt:=Q } (start N vs) H):Df P w K mg base x ps (k+1) sp:=by
 obtain⟨f,fd,F,hm,hb⟩:=D.ex;exact⟨f,fd,F.ok S len (hbody f),hm,F.kp,hb⟩
theorem Df.of2{p:V->V->Hp->VK->Prop}(D:Dd K mg x st [a,b])(S:FnScope N [a,b] (zj st))(σ0:V->V->St)(hs:∀v u,start N [v,u]=σ0 v u)
  (hbody:∀(f:Addr) (q:bo) (A:iq) (outer:List Env) (s:bq) (H:Hp) (v u:V) (Q:VK) (E:XK),Room k (A.deeper (vh x (zj st) s.heap.objs.size f q))->p v u H Q ->
   ∃t,PSs (fN CX0 P w K mg base N x (zj st) f q A outer s H E).nox (dP st) t/\t { nx:=fun _ H'=>Q .non H',rt:=Q } (σ0 v u) H):Df P w K mg base x [a,b] (k+1) (sp2 p):=by
 refine Df.of D S (fun vs H Q E h=>?_) fun f q A outer s H vs Q E hr h=>?_
 ·obtain⟨x,y,rfl,_⟩:=DH vs H Q E h;rfl
 ·obtain⟨x,y,rfl,h⟩:=DH vs H Q E h;rw[hs];exact hbody f q A outer s H x y Q E hr h
end
def tC2(p:V->V->Hp->VK->Prop)(ta tb:TE):TE:=fun σ H Q=>ta σ H fun x H1=>tb σ H1 fun y H2=>p x y H2 Q
section
variable {X:Cx}{x a b c d e':Str}{k j:Nat}{pos pos':Pos}{e1 e2 e3 e4 e5:Expr}{t1 t2 t3 t4 t5:TE}
theorem Jt{p:V->V->Hp->VK->Prop}(D:Df X.prog X.w X.K X.mg X.base x [a,b] k (sp2 p))(hr:Room j X.A)(hk:k<=j)(h1:PE X e1 t1)(h2:PE X e2 t2)(hg:Gl X x:=by rfl)(q:(x==("__debug__":Str))=false:=by decide)
  (q1:fx [e1,e2] X.env=(false,eval e1 X.env)::fx [e2] X.env:=by rfl) (q2:fx [e2] X.env=(false,eval e2 X.env)::fx [] X.env:=by rfl)
  (hpl:(rb pos (fx [e2] X.env)).any (·.1)=false:=by rfl):PE X (.Call (.Name x pos') [e1,e2] [] pos) (tC2 p t1 t2):=by
 obtain⟨f,fd,F,hm,kp,hb⟩:=D.ex;intro ze s σ H Q I h;exact vN (dvs:=[]) (ds:=[]) (E:=E0) F (hr.mono hk) hg hm kp hb .nil pass0 (za h1 (za h2 zd q2) q1) q q1 hpl ze s σ H Q I h
end
theorem Dd.mk'{K:fe}{h:Heap}{mg:Str->Option bo}(X:K.In h)(G:h.Ns qa mg){x:Str}{st:Stmt}{ps:List Str}{f:Addr}{oc:bo}{od an:Option Addr}{aa:Array (Option bo)}{kV z pm q ct:bo}
  (a:W.nsIn K qa x=some (some (.ref f))) (l:K.lookup f=some ⟨oc,od,.func (W.fnOf x x (kC st) (dP st) (zj st) .none kV z pm an q ct),aa⟩)
  (c:W.codeIn K q x=true) (k:W.keepIn K (.ref f)=true)
  (hb:∀(kV z pm:bo) (an:Option Addr) (q ct:bo) (us:List bo),us.length=ps.length->bindArgs (W.fnOf x x (kC st) (dP st) (zj st) .none kV z pm an q ct) ⟨us,[]⟩=pure (ps.zip us)):Dd K mg x st ps:=
 ⟨f,_,EK (st:=st) l c k,W.mg_of X G a,(EK (st:=st) l c k).binds hb⟩
theorem aV:jq "len" = some (.builtin "len"):=by decide +kernel
theorem zU:jq "isinstance" = some (.builtin "isinstance"):=by decide +kernel
theorem L8:jq "max" = some (.builtin "max"):=by decide +kernel
theorem Ao:jq "abs" = some (.builtin "abs"):=by decide +kernel
theorem Co:jq "sorted" = some (.builtin "sorted"):=by decide +kernel
theorem yX:jq "int" = some (.type "int"):=by decide +kernel
theorem FF:jq "bool" = some (.type "bool"):=by decide +kernel
theorem yK:jq "list" = some (.type "list"):=by decide +kernel
theorem iM:jq "tuple" = some (.type "tuple"):=by decide +kernel
section
variable {H:Hp}{Q:VK}
theorem KJ{i:Nat}{σ:St}:gU i σ H Q↔match σ[i]? with|some (some v)=>Q v H|_=>False:=by
 unfold gU;constructor
 ·rintro⟨v,e,q⟩;rw[e];exact q
 ·intro h;split at h
  ·rename_i v e;exact⟨v,e,h⟩
  ·exact h.elim
theorem Am{g:Int->Int->V}{i j:Int}:rI0 g (.int i) (.int j) H Q↔Q (g i j) H:=
 ⟨fun⟨_,_,e1,e2,q⟩=>by cases e1;cases e2;exact q,fun q=>⟨i,j,rfl,rfl,q⟩⟩
theorem KK{p:Bool->Prop}{b:Bool}:(∃c,V.bl b=V.bl c/\p c)↔p b:=⟨fun⟨_,e,q⟩=>by cases e;exact q,fun q=>⟨b,rfl,q⟩⟩
end
section
variable {K:fe}{H:Hp}{Q:VK}{x y:V}{d:bt}{ds:List bt}
def yM(K:fe):List V->Hp->VK->Prop:=fun xs H Q=>∃p ys,xs=[.ref p]/\(SqL K H p ys\/SqT K H p ys)/\Q (.int ys.length) H
end
section
variable {X:Cx}
theorem Ib:CallR X (.builtin "len") (yM X.K):=FQ
end
def hid(a:Addr)(H:Hp):Hp:=fun b=>if b=a then none else H b
theorem MV{a b:Addr}{H:Hp}(h:b≠a):hid a H b=H b:=cm h
theorem Hy{a:Addr}{H:Hp}:hid a H a=none:=cn rfl
theorem Same.laid{H:Hp}{p:Addr}{o:HO}(h:H p=none):Same H (upd H p o):=fun b u e=>by
 rw[zD (zI e h)];exact e
section
variable {X:Cx}{ze:List (Addr×Obj)}{σ:St}{H:Hp}{s:bq}{a:Addr}{m:List (Key×V)}
theorem Inv.fz(I:Inv X ze σ H s)(e:H a=some (.dK m)):∃ob,Inv X ze σ (upd H a (.frz ob (.dK m))) s:=by
 have q:=(show ObjOk X.prog X.w H s.heap a (.dK m)from I.hok a _ e);obtain⟨_,_,vs,_,ob,es,ep,h1,_⟩:=id q;exact⟨ob,I.write (x:=a) (e:=a) (o:=.frz ob (.dK m)) (h':=s.heap) (t':=s.toks) (by rw[e];exact rn) (.inl rfl) (fun b v _ z=>z) ⟨ob,h1⟩ ⟨h1,q⟩⟩
def j9(i:Nat)(t:TS):TS:=fun D σ H=>t { D with nx:=fun σ' H'=>∃a m,σ'[i]?=some (some (.ref a))/\H' a=some (.dK m)/\∀ob,D.nx σ' (upd H' a (.frz ob (.dK m))) } σ H
theorem vE{i:Nat}{st:Stmt}{t:TS}(h:PS X st t):PS X st (j9 i t):=fun ze s σ H D I hw=>
 thn (h ze s σ H _ I hw) fun f s1 q=>by
  cases f with
  |next=>
   obtain⟨σ1,H1,I1,a,m,e1,e2,q⟩:=q;obtain⟨ob,J⟩:=I1.fz e2;exact⟨σ1,_,J,q ob⟩
  |brk=>exact q
  |cont=>exact q
  |ret v=>exact q
end
end
section
theorem nY(d:bt):kI d "int" = match d with | .int _=>true | .bool _=>true|_=>false:=by cases d<;>first|rfl|(show gR _ _=_;simp[gR,tyD])
theorem qC(d:bt):kI d "bool" = match d with | .bool _=>true|_=>false:=by cases d<;>first|rfl|(show gR _ _=_;simp[gR,tyD])
theorem oF(d:bt):kI d "tuple" = match d with | .tuple _=>true|_=>false:=by cases d<;>first|rfl|(show gR _ _=_;simp[gR,tyD])
theorem oD(d:bt):kI d "list" = match d with | .list _=>true|_=>false:=by cases d<;>first|rfl|(show gR _ _=_;simp[gR,tyD])
def vw:List Addr->Hp->Hp
 | [],H=>H
 |a::r,H=>hid a (vw r H)
def A9(K:fe):V->V->Hp->VK->Prop:=fun x y H Q=>∃(a:Addr) (ns:List Int) (i:Int),x=.ref a/\y=.int i/\SqL K H a (ns.map V.int)/\0<=i/\∀n,Q (.int n) H
theorem JS{ns:List Int}{i:Int}(h0:0<=i)(h1:i<((ns.map V.int).length:Int)):∃n,atI (ns.map V.int) i=some (.int n):=by
 obtain⟨k,rfl⟩:=Int.eq_ofNat_of_zero_le h0;have hk:k<ns.length:=by rw[cu]at h1;omega
 exact⟨ns[k],hU (by rw[ie,cw hk];rfl)⟩
theorem MZ{ns:List Int}{lo hi:Option Int}{x:V}(h:x∈dH (ns.map V.int) lo hi):∃n,x=.int n:=by
 have h1:=mem_of_mem_drop (mem_of_mem_take h);obtain⟨n,_,e⟩:=mem_map.mp h1;exact⟨n,e.symm⟩
theorem Fun.bind1{K:fe}{x a:Str}{st:Stmt}{f:Addr}{fd:su}(F:Fun K x x st f fd)
  (h:∀(kV z pm:bo) (an:Option Addr) (q ct:bo) (u:bo),bindArgs (W.fnOf x x (kC st) (dP st) (zj st) .none kV z pm an q ct) ⟨[u],[]⟩=pure [(a,u)]):∀(s:bq) (u:bo),BindsTo s fd ⟨[u],[]⟩ [(a,u)]:=by
 obtain⟨oc,od,kV,z,pm,an,q,ct,ab,rfl,lk,aa⟩:=F.ex;exact fun s u=>.of_eq (h kV z pm an q ct u)
def wS(K:fe):V->Hp->VK->Prop:=fun x H Q=>∃(a:Addr) (ns:List Int),x=.ref a/\SqL K H a (ns.map V.int)/\ns.length<=63/\∀H',Q (.bl true) H'
theorem walk_law{l:W.OpenLaw}{k:Nat}{q:gf}{aa:List Str}{XP:(Str->Option bo)->Heap->Prop}{YP:iu->Heap->Prop}{d:DefRec}{K:Params->fe}(hn:l.most=some 63)(ab:d.params.defaults=[])
  (hr:Room k callerA) (hY:∀(w:iu) (h:Heap),YP w h->(K w.params).In h) (hT:∀(w:iu) (h:Heap),YP w h->TabsOk (K w.params) h)
  (F:∀(w:iu) (mg:Str->Option bo) (fa:Addr) (h:Heap),(K w.params).In h->h.Ns qa mg->mg d.name=some (.ref fa) ->
   ∃fd:su,(∀(s:bq) (u:bo),BindsTo s fd ⟨[u],[]⟩ [("script",u)])/\∀base:Heap,(K w.params).In base->base.Ns qa mg->FnOk l.prog w (K w.params) mg base CX0 k fa fd ["script"] (sp1 (wS (K w.params)))):
  W.WalkO q aa XP YP l.row.toRowW d [] (fun f vs=>PySem.call f vs):=
 L2.walk_of (n:=63) (k:=k) (x:="script") (CX:=fun _=>CX0) (sp:=fun w=>sp1 (wS (K w.params))) hn dz ab hr hY hT F (fun _ _ a ns hl _ hS=>⟨a,ns,rfl,hS,hl,fun _=>rfl⟩) fun _ _ _ _ _ z=>z
theorem Fun.ok1{P:gf}{w:iu}{K:fe}{mg:Str->Option bo}{base:Heap}{x a:Str}{st:Stmt}{f:Addr}{fd:su}{N:List Str}{k:Nat}{p:V->Hp->VK->Prop}(F:Fun K x x st f fd)(S:FnScope N [a] (zj st))(σ0:V->St)(hs:∀v,start N [v]=σ0 v)
  (hbody:∀(q:bo) (A:iq) (outer:List Env) (s:bq) (H:Hp) (v:V) (Q:VK) (E:XK),Room k (A.deeper (vh x (zj st) s.heap.objs.size f q))->p v H Q ->
   ∃t,PSs (fN CX0 P w K mg base N x (zj st) f q A outer s H E).nox (dP st) t/\t { nx:=fun _ H'=>Q .non H',rt:=Q } (σ0 v) H):FnOk P w K mg base CX0 (k+1) f fd [a] (sp1 p):=by
 refine F.ok S (fun vs H Q E h=>?_) fun q A outer s H vs Q E hr h=>?_
 ·obtain⟨x,rfl,_⟩:=Ez vs H Q E h;rfl
 ·obtain⟨x,rfl,h⟩:=Ez vs H Q E h;rw[hs];exact hbody q A outer s H x Q E hr h
end
section
mutual
theorem Has.reads{X:Cx}{ze:List (Addr×Obj)}{σ:St}{H:Hp}{s:bq}(I:Inv X ze σ H s):∀(d:bt) (v:V) (u:bo),Has H d v->d.canLay0=true->RelV v u->∃as,Reads s.heap u d as
 | .none,v,u,h,_,r=>by
  rw[kR.mp h]at r;cases (show u=lj from r);exact⟨_,.none⟩
 | .bool b,v,u,h,_,r=>by
  rw[i9.mp h]at r;cases (show u=Value.bool b from r);exact⟨_,.bool b⟩
 | .int i,v,u,h,_,r=>by
  rw[eY.mp h]at r;obtain⟨t,q⟩:=(show ∃t,u=oo i t from r);cases q;exact⟨_,.int i t⟩
 | .str x,v,u,h,_,r=>by
  rw[iR.mp h]at r;obtain⟨t,q⟩:=(show ∃t,u=Value.str x t from r);cases q;exact⟨_,.str x t⟩
 | .list ds,v,u,h,c,r=>by
  obtain⟨a,vs,rfl,e,l⟩:=c9.mp h;cases (show u=gk a from r);obtain⟨_,z,n,rv,e1⟩:=(show ObjOk X.prog X.w H s.heap a (.lst vs)from I.hok a _ e);obtain⟨as,q⟩:=HasL.reads I ds vs z l (by simpa only[nw]using c) rv;exact⟨_,.list e1 rfl rfl (by simpa using q)⟩
 | .tuple ds,v,u,h,c,r=>by
  obtain⟨a,vs,rfl,e,l⟩:=zR.mp h;cases (show u=gk a from r);obtain⟨_,z,rv,o,e1,e2,n,e3⟩:=(show ObjOk X.prog X.w H s.heap a (.tup vs)from I.hok a _ e);obtain⟨as,q⟩:=HasL.reads I ds vs z l (by simpa only[nw]using c) rv;exact⟨_,.tuple e1 e2 e3 (by simpa using q)⟩
 | .dict _,_,_,_,c,_=>by simp[nw]at c
theorem HasL.reads{X:Cx}{ze:List (Addr×Obj)}{σ:St}{H:Hp}{s:bq}(I:Inv X ze σ H s):∀(ds:List bt) (vs:List V) (us:List bo),HasL H ds vs->pf ds=true->Vals vs us->∃as,ReadsAll s.heap us ds as
 | [],vs,us,h,_,r=>by
  rw[zx.mp h]at r;cases r;exact⟨_,.nil⟩
 |d::ds,vs,us,h,c,r=>by
  obtain⟨v,w',rfl,h1,h2⟩:=zq.mp h;have c':d.canLay0=true/\pf ds=true:=by simpa[pf]using c
  cases r with
  |cons r1 r2=>
   obtain⟨as,q1⟩:=Has.reads I d v _ h1 c'.1 r1;obtain⟨bs,q2⟩:=HasL.reads I ds w' _ h2 c'.2 r2;exact⟨_,.cons q1 q2⟩
end
def BK:R2:=fun x y H Q=>∃d e,Has H d x/\Has H e y/\gj d=true/\gj e=true/\Q (.bl (kh d e)) H
def FH:R2:=fun x y H Q=>∃d e,Has H d x/\Has H e y/\gj d=true/\gj e=true/\Q (.bl (!PyData.eqv d e)) H
section
variable {X:Cx}
theorem f8(hu:X.A.units+64<uk):OpR X (ki .Eq) BK:=by
 intro ze s σ H x y v u Q I rx ry h;obtain⟨d,e,hd,he,sd,se,q⟩:=h;obtain⟨as,q1⟩:=Has.reads I d x v hd (ig sd) rx;obtain⟨bs,q2⟩:=Has.reads I e y u he (ig se) ry;exact eq_dataH q1 q2 sd se hu ⟨.bl _,H,I,rfl,q⟩
theorem lM(hu:X.A.units+64<uk):OpR X (ki .NotEq) FH:=by
 intro ze s σ H x y v u Q I rx ry h;obtain⟨d,e,hd,he,sd,se,q⟩:=h;obtain⟨as,q1⟩:=Has.reads I d x v hd (ig sd) rx;obtain⟨bs,q2⟩:=Has.reads I e y u he (ig se) ry;exact ne_dataH q1 q2 sd se hu ⟨.bl _,H,I,rfl,q⟩
end
section
variable {prog:gf}{w:iu}{A:iq}{E:bo->bq->Prop}{s:bq}{l:Addr}
theorem Hl{vs:List bo}{ns:List Int}(hi:kz vs ns):∃xs:Array (Int×Tok),vs.toArray=intItems xs/\ns=xs.toList.map (·.1):=by
 obtain⟨xs,e⟩:=hi.allInts.items;exact⟨xs,e,by rw[<- hi.numsOf,<- nums_intItems,<- e]⟩
end
section
variable {K:fe}{o:List Addr}{σ:St}{H0:Hp}{t t1 t2 t3 t4 t5:TE}{ta:TA}{tt tu:TT}{d d1 d2 d3 d4 d5:bt}{ds:List bt}{b c:Bool}
def jJ:bt->Bool
 | .none=>true
 |_=>false
theorem JT{H:Hp}{v:V}(h:Has H d v):decide (v=.non)=jJ d:=by
 cases d with
 |none=>rw[kR.mp h];rfl
 |bool _=>rw[i9.mp h];rfl
 |int _=>rw[eY.mp h];rfl
 |str _=>rw[iR.mp h];rfl
 |list _=>obtain⟨a,vs,rfl,_⟩:=c9.mp h;rfl
 |tuple _=>obtain⟨a,vs,rfl,_⟩:=zR.mp h;rfl
 |dict _=>obtain⟨a,vs,rfl,_⟩:=AN.mp h;rfl
def Dm:R2:=fun x y H Q=>y=.non/\Q (.bl (!decide (x=.non))) H
theorem JE{X:Cx}:OpR X (ki .IsNot) Dm:=MM
end
end
section
theorem HP{K:fe}{a:Addr}{ns:List Int}{N:Int}{j:Nat}{tb:TS}{D:Ends}{σ:St}{H:Hp}(P:St->Prop)(h0:σ[0]?=some (some (.ref a)))(hS:SqL K H a (ns.map V.int))(q:ns.length<=63)(hP:P σ)
  (turn:∀(n:Int) (σ:St) (H1 H2:Hp),P σ->Same H H1->Same H1 H2->tb { D with nx:=fun σ' H'=>Same H1 H'/\P σ',ct:=fun σ' H'=>Same H1 H'/\P σ',bk:=D.nx } (σ.set j (some (.int n))) H2)
  (done:∀(σ:St) (H1:Hp),P σ->Same H H1->D.nx σ H1):
  nX (vZ K (tOp qH (mY (cX (tC2 (A9 K) (gU 0) (tC (.int 0))) iS)) (tSl (nG K) (gU 0) (l9 (tC (.int 1))) (l9 (tC (.int N)))))) (k9 j) tb D σ H:=by
 refine⟨_,h0,a,ns,0,rfl,rfl,hS,by decide,fun n0=>⟨by show 1<=fk;decide,fun p hp=>?_⟩⟩;have s1:Same H (upd H p (.lst [.int n0])):=Same.laid hp;refine⟨_,h0,_,rfl,_,rfl,a,_,rfl,s1.seq hS,fun p2 z=>?_⟩;have s2:=s1.trans (Same.laid (o:=.lst (dH (ns.map V.int) (some 1) (some N))) z);have np:p≠p2:=zI zX z;have hz:(dH (ns.map V.int) (some 1) (some N)).length<=63:=lw (AB _ _ _) (by rw[cu];exact q);refine⟨p,p2,_,_,rfl,rfl,by rw[zD np,zX],zX,lz (small1000 (by simp only[ft,length_nil];omega)),fun p3 aa=>?_⟩;have s3:=s2.trans (Same.laid (o:=.lst ([V.int n0]++dH (ns.map V.int) (some 1) (some N))) aa);refine⟨p3,rfl,⟨_,.of zX⟩,Ja (K:=K) (a:=p3) (xs:=[V.int n0]++dH (ns.map V.int) (some 1) (some N)) (fun i σ' H'=>Same _ H'/\P σ') ⟨Same.refl _,hP⟩ (fun i σ H4 _ ⟨s4,_⟩=>.of (s4 _ _ zX)) ?_ ?_⟩
 ·rintro i x σ' H4 hi ⟨s4,p4⟩;obtain⟨n,rfl⟩:∃n,x=.int n:=by
   rcases mem_append.mp (bw hi)with m|m
   ·exact⟨n0,mem_singleton.mp m⟩
   ·exact MZ m
  exact turn n σ' _ H4 p4 s3 s4
 ·rintro σ' H4 ⟨s4,p4⟩;exact done σ' H4 p4 (s3.trans s4)
end
section
section
variable {prog:gf}{w:iu}{A:iq}{E:bo->bq->Prop}{R:Result->bq->Prop}{s:bq}
theorem Gi{elt aa iter:Expr}{ifs:List Expr}{scope:Scope}{pos:Pos}{it acc:bo}{env:Env}(I:Nat->bq->Prop)
  (turn:∀n s,I n s->cp (model prog w) A (nq it) (fun r s₁=>match r with
   |none=>R (.ok .next) s₁
   |some v=>cp (model prog w) A (letOwnedTupleGo aa it v) (fun _ s₀=>cp (model prog w) A (assign aa env v) (fun _ s₂=>
     cp (model prog w) A (forIn ifs true fun c r=>if r=true then do let ok <- isTrue c env (eval c env);pure (sw ok)else pure (sw r)) (fun ok s₃=>
      if ok=true then cp (model prog w) A (eval elt env) (fun x s₄=>
       cp (model prog w) A (call (.builtin "list.append") [acc,x]) (fun _ s₅=>∃m,m<n/\I m s₅) (fun _ _=>False) s₄) (fun _ _=>False) s₃
      else ∃m,m<n/\I m s₃) (fun _ _=>False) s₂) (fun _ _=>False) s₀) (fun _ _=>False) s₁) (fun _ _=>False) s)
  (n:Nat) (h:I n s):
  codeAny (model prog w) A (.compLoop (.ListComp elt [⟨aa,iter,ifs,0⟩] scope pos) 0 it acc env) R s:=by
 have up:∀{α:Type}{t:Sem α}{Q:α->bq->Prop}{E':bo->bq->Prop}{s':bq},cp (model prog w) A t Q (fun _ _=>False) s'->cp (model prog w) A t Q E' s':=fun h=>qe h (fun _ _ q=>q) fun _ _ z=>z.elim;refine codeAny_loop rfl I (fun n s hI=>?_) n h;show cp _ A ((compTurn (.ListComp elt [⟨aa,iter,ifs,0⟩] scope pos) 0 it acc env).onRaise (fun x=>do noteFrame x env;theTreesLotGoes x)) _ _ s;refine wpAny_noted ?_;rw[compTurn_list];refine bn (wpAny_standAt (bn (thn (up (turn n s hI)) fun r s₁ h₁=>?_)));cases r with
 |none=>exact bp h₁
 |some v=>
  refine bn (thn (up h₁) fun _ s₀ h₀=>?_);refine bn (thn (up h₀) fun _ s₂ h₂=>bn (thn (up h₂) fun ok s₃ h₃=>?_));cases ok with
  |false=>exact bp ⟨rfl,h₃⟩
  |true=>
   exact bn (bn (thn (up h₃) fun x s₄ h₄=>bn (thn (up h₄) fun _ s₅ h₅=>bp (bp ⟨rfl,h₅⟩))))
end
def cH(X:Cx)(scope:Scope)(cl:List (Str×Addr))(C:Addr)(s₃:bq)(H₃:Hp)(fp:List Addr)(N:List Str):Cx where
 prog:=X.prog
 w:=X.w
 K:=X.K
 mg:=X.mg
 base:=X.base
 A:=X.A
 N:=N
 s₀:=s₃
 H₀:=H₃
 env:=compEnvC scope cl C X.env
 outer:=X.stack
 stack:=X.stack
 ex:=fp
 fn:=fun _=>false
 calm:=X.calm
 pn:=[]
 xe:=fun _ _=>False
def PTs(X:Cx)(ifs:List Expr)(t:TT):Prop:=
 ∀(ze:List (Addr×Obj)) (s:bq) (σ:St) (H:Hp) (Q:Bool->Hp->Prop),Inv X ze σ H s->t σ H Q ->
  cp (model X.prog X.w) X.A (forIn ifs true fun c r=>if r=true then do let ok <- isTrue c X.env (eval c X.env);pure (sw ok)else pure (sw r)) (TP X ze σ Q) X.xe s
def An:TT:=fun _ H Q=>Q true H
theorem cW{X:Cx}:PTs X [] An:=fun _ _ _ H _ I h=>wpAny_tests_nil ⟨H,I,h⟩
theorem jW{X:Cx}{c:Expr}{t:TT}(h:PT X c t):PTs X [c] t:=fun ze s σ H Q I hw=>wpAny_tests_one (h ze s σ H Q I hw)
def tau(caps:List (Option Nat))(σ:St):St:=caps.map fun o=>o.bind fun i=>(σ[i]?).join
def qT(caps:List (Option Nat))(wi:TI)(g:TG)(tt:TT)(te:TE):TE:=fun σ H Q=>wi σ H fun J H1=>∀D,H1 D=none->∃W:Nat->Nat->St->Hp->Prop,(∃m,W 0 m (tau caps σ) (upd H1 D (.lst []))) /\
 ∀i m τ H2,W i m τ H2->(J.stop i H2/\Q (.ref D) H2)\/(J.go i H2/\∀x H3,J.yld i H2 x H3->g x τ H3 fun τ4 H4=>tt τ4 H4 fun b H5=>
  if b=true then te τ4 H5 fun v H6=>∃xs,H6 D=some (.lst xs)/\xs.length<fk/\∃m',m'<m/\W (i+1) m' τ4 (upd H6 D (.lst (xs++[v])))else ∃m',m'<m/\W (i+1) m' τ4 H5)
structure CompOk(X:Cx)(scope:Scope)(cl:List (Str×Addr))(N:List Str)(caps:List (Option Nat)):Prop where
 clos:closureFor scope X.env=pure cl
 sub:∀x c,cl.lookup x=some c->X.env.cells.lookup x=some c
 kind:scope.kind=.function
 cell:∀y∈scope.names,y.2≠.cell
 names:∀y∈scope.names,y.2=.local->scope.names.lookup y.1=some .local
 has:∀x,((relabel scope X.env).names.lookup x=some .cell\/(relabel scope X.env).names.lookup x=some .free)->∃c,cl.lookup x=some c
 cap:∀(j i:Nat) (x:Str),caps[j]?=some (some i)->N[j]?=some x->X.N[i]?=some x/\Vis X.env.scope x/\¬ X.env.kindOf x=some .local/\∃c,cl.lookup x=some c/\((relabel scope X.env).names.lookup x=some .cell\/(relabel scope X.env).names.lookup x=some .free)
 len:caps.length=N.length
section
variable {X:Cx}{scope:Scope}{cl:List (Str×Addr)}{N:List Str}{caps:List (Option Nat)}{tg iter elt:Expr}{ifs:List Expr}{pos:Pos}{wi:TI}{g:TG}{tt:TT}{te:TE}
theorem Hj{ze:List (Addr×Obj)}{σ:St}{H:Hp}{s:bq}{fp:List Addr}{h₁:Heap}{t':Nat}(c:CompOk X scope cl N caps)(I:Inv X ze σ H s)(f:∀b∈fp,FpOk X ze H b)(fo:∀b∈fp,∃o,s.heap.get? b=some o)
  (hns:h₁.Ns s.heap.objs.size (fun _=>none)) (hk:∀b o,s.heap.get? b=some o->h₁.get? b=some o):
  Inv (cH X scope cl s.heap.objs.size s H fp N) [] (tau caps σ) H { s with heap:=h₁,toks:=t' }:=by
 have lt:∀b∈fp,b<s.heap.objs.size:=fun b hb=>by obtain⟨o,e⟩:=fo b hb;exact gi e
 have ab:∀x k,cl.lookup x=some k->∃v,s.heap.IsCell k v:=fun x k e=>I.cell x k (c.sub x k e);refine⟨⟨I.ok.mod,c.kind,I.ok.glob,I.ok.blt,dh _,fun x y k h1 h2=>I.ok.inj x y k (c.sub x k h1) (c.sub y k h2),fun x hx=>c.has x hx,fun x k h _=>absurd (show false=true from h) dz,I.ok.hd,I.ok.frames,.inl rfl,
  fun b hb=>⟨gy (lt b hb),fun x k e=>(f b hb).2.2.2.2.1 x k (c.sub x k e)⟩,I.bs,lw I.ok.bsz I.sz,fun b o e hb=>?_,fun b hb z=>?_,I.stack,I.stkFree⟩,
  rfl,I.bare,Un.kept hk,⟨_,hns,fun j x v h1 h2 h3=>?_⟩,fun x k e=>?_,I.hok.fresh (dh _),fun x k e=>I.freeC x k (c.sub x k e),fun p hp=>absurd (show p∈([]:List (Addr×Obj))from hp) yv,I.hok.kept hk,?_⟩
 ·rcases(f b hb).2.2.2.1 with q|q
  ·exact I.ok.noex b o e q
  ·exact absurd (kc (gi e) (lw I.ok.bsz q)) (sy _)
 ·rcases mem_cons.mp (I.stkSub b z)with q|q
  ·exact(f b hb).2.1 q
  ·exact(f b hb).2.2.1 q
 ·have aa:(caps.map fun o=>o.bind fun i=>(σ[i]?).join)[j]?=some (some v):=h2;rw[ie]at aa;cases e:caps[j]? with
  |none=>rw[e]at aa;cases aa
  |some oi=>
   rw[e]at aa;have h2'':(oi.bind fun i=>(σ[i]?).join)=some v:=ji aa;cases oi with
   |none=>cases h2''
   |some i=>
    have h4:(σ[i]?).join=some v:=h2'';have h5:σ[i]?=some (some v):=by
     cases q:σ[i]? with
     |none=>rw[q]at h4;cases h4
     |some w'=>rw[q]at h4;exact congrArg some h4
    obtain⟨k1,k2,k3,cc,k4,k5⟩:=c.cap j i x e h1;obtain⟨m,hn,hl⟩:=I.loc;obtain⟨u,r,l⟩:=hl i x v k1 h5 k2;refine⟨u,r,.inr ⟨k5,cc,k4,?_⟩⟩;rcases l with ⟨q,_⟩|⟨_,c',hc',hcell⟩
    ·exact(k3 q).elim
    ·rw[c.sub x cc k4]at hc';cases hc';exact hcell.keeps hk
 ·obtain⟨v,q⟩:=ab x k e;exact⟨v,q.keeps hk⟩
 ·show (caps.map _).length=N.length;rw[cu];exact c.len
theorem MJ{ze:List (Addr×Obj)}{σ τ:St}{H H':Hp}{s s':bq}{h':Heap}{fp:List Addr}(I:Inv X ze σ H s)(f:∀b∈fp,FpOk X ze H b)(J:Inv (cH X scope cl s.heap.objs.size s H fp N) [] τ H' s')(hs:gd s.heap.objs.size s'.heap h'):
  Inv X ze σ H' { s' with heap:=h' }:=by
 have hC:H' s.heap.objs.size=none:=J.free;have keep:∀b o,b≠s.heap.objs.size->s'.heap.get? b=some o->h'.get? b=some o:=fun b o nb e=>hs.extBut b o nb e;have u1:Un (frs X.stack) (s.heap.objs.size::fp) H H' s.heap s'.heap:=Un.mono J.base (fun b hb=>hb) (fun b hb=>cz _ hb);have u2:Un (frs X.stack) (s.heap.objs.size::fp) H' H' s'.heap h':=
  ⟨fun b o e _ _ hx=>keep b o (fun z=>hx (by rw[z];exact dw)) e,fun b o e _ _ hx=>⟨o.slots,keep b o (fun z=>hx (by rw[z];exact dw)) e⟩,fun _ _ _ n _=>n,fun b o e hx=>⟨o,keep b o (fun z=>hx (by rw[z];exact dw)) e⟩,fun _ _ q=>q,fun _ _ _ q=>q,fun _ _ q=>q⟩
 have hok:HOk X.prog X.w H' h':=fun a o e=>(J.hok a o e).stay (fun b u hb q=>keep b u (fun z=>by
  rcases hb with hb|hb
  ·rw[<- hb,z,hC]at e;cases e
  ·rw[z,hC]at hb;cases hb) q) (fun b q=>q) fun b xs q=>q
 refine I.call' (s':={ s' with heap:=h' }) (ch:=s.heap.objs.size::fp) J.os (u1.trans u2) hok J.bare fun b hb=>?_;rcases mem_cons.mp hb with rfl|hb
 ·refine⟨.inr I.sz,vf I.lt,fun x k e z=>?_,fun p hp z=>?_⟩
  ·obtain⟨v,q⟩:=I.cell x k e;exact absurd q.lt (by rw[z];exact sy _)
  ·exact absurd (gi (I.pin p hp).1) (by rw[z];exact sy _)
 ·obtain⟨f0,f1,f2,f3,f4,f5⟩:=f b hb;exact⟨f3,f1,f4,f5⟩
theorem BW{ze:List (Addr×Obj)}{σ:St}{H2:Hp}{s2:bq}{it:Addr}{fp:List Addr}{tn:Nat->Heap->Prop}{J:It}{RR:bo->Addr->Result->bq->Prop}{E:bo->bq->Prop}(hc:X.calm=true)(c:CompOk X scope cl N caps)
  (I2:Inv X ze σ H2 s2) (T:Turn X.prog X.w X.K tg J fp it tn) (st2:tn 0 s2.heap) (f2:∀b∈fp,FpOk X ze H2 b)
  (hg:∀C s H fp,PG (cH X scope cl C s H fp N) tg g) (ht:∀C s H fp,PTs (cH X scope cl C s H fp N) ifs tt) (he:∀C s H fp,PE (cH X scope cl C s H fp N) elt te)
  (Q:VK) (hq:∀D,H2 D=none->∃W:Nat->Nat->St->Hp->Prop,(∃m,W 0 m (tau caps σ) (upd H2 D (.lst []))) /\
   ∀i m τ H2,W i m τ H2->(J.stop i H2/\Q (.ref D) H2)\/(J.go i H2/\∀x H3,J.yld i H2 x H3->g x τ H3 fun τ4 H4=>tt τ4 H4 fun b H5=>
    if b=true then te τ4 H5 fun v H6=>∃xs,H6 D=some (.lst xs)/\xs.length<fk/\∃m',m'<m/\W (i+1) m' τ4 (upd H6 D (.lst (xs++[v])))else ∃m',m'<m/\W (i+1) m' τ4 H5))
  (hRR:∀(D C:Addr) (H':Hp) (s':bq) (m:Str->Option bo),s'.heap.Ns C m->FpOk X ze H' C->(∀h',gd C s'.heap h'->Inv X ze σ H' { s' with heap:=h' })->Q (.ref D) H'->RR (.ref D) C (.ok .next) s'):
  cp (model X.prog X.w) X.A (newList []) (fun acc s₃=>cp (model X.prog X.w) X.A (newFunctionEnv scope X.env.globals cl [] X.env.qual none .none (some X.env)) (fun ac s₄=>
   codeAny (model X.prog X.w) X.A (.compStart (.ListComp elt [⟨tg,iter,ifs,0⟩] scope pos) 0 (.ref it) acc { ac with scope:=relabel scope X.env }) (RR acc ac.locals) s₄) E s₃) E s2:=by
 have hD:H2 s2.heap.objs.size=none:=I2.hok.fresh (dh _);obtain⟨W,⟨m0,w0⟩,aj⟩:=hq s2.heap.objs.size hD;have I3:Inv X ze σ (upd H2 s2.heap.objs.size (.lst [])) { s2 with heap:=s2.heap.push { cls:=.type "list",data:=.seq ([]:List bo).toArray } }:=I2.laid (t':=s2.toks) (fun b u e=>bu _ e) (dh _) ⟨nj _,[],0,.nil,cy _ rfl⟩;have fo:∀b∈fp,∃o,s2.heap.get? b=some o:=fun b hb=>by obtain⟨o,e,_⟩:=T.obj 0 _ st2 b hb;exact⟨o,e⟩
 have f3:∀b∈fp,FpOk X ze (upd H2 s2.heap.objs.size (.lst [])) b:=fun b hb=>by
  obtain⟨o,e⟩:=fo b hb;refine⟨?_,(f2 b hb).2⟩;rw[zD (gy (gi e))];exact(f2 b hb).1
 refine io (wpAny_newFunctionEnv c.cell (by intro y hy;simp at hy) (fun h₁ ai ag=>?_) c.kind);have hk:∀b o,(s2.heap.push { cls:=.type "list",data:=.seq ([]:List bo).toArray }).get? b=some o->h₁.get? b=some o:=fun b o e=>ag.extBut b o (gy (gi e)) (bu _ e);have ah:tn 0 h₁:=T.keep 0 _ _ st2 fun b _ o e=>hk b o (bu _ e);have I4:=Hj (t':=s2.toks+([]:List (Str×bo)).length) c I3 f3 (fun b hb=>by obtain⟨o,e⟩:=fo b hb;exact⟨o,bu _ e⟩) ai hk;have ab:∀{H':Hp},(∀b∈fp,H' b=none)->∀b∈fp,FpOk (cH X scope cl (s2.heap.push { cls:=.type "list",data:=.seq ([]:List bo).toArray }).objs.size { s2 with heap:=s2.heap.push { cls:=.type "list",data:=.seq ([]:List bo).toArray } } (upd H2 s2.heap.objs.size (.lst [])) fp N) [] H' b:=fun hn b hb=>
  ⟨hn b hb,(I4.ok.exf b hb).1,I4.ok.exfs b hb,.inl hb,(I4.ok.exf b hb).2,fun p hp=>absurd (show p∈([]:List (Addr×Obj))from hp) yv⟩
 have ae:codeAny (model X.prog X.w) X.A (.compLoop (.ListComp elt [⟨tg,iter,ifs,0⟩] scope pos) 0 (.ref it) (.ref s2.heap.objs.size) (compEnvC scope cl (s2.heap.push { cls:=.type "list",data:=.seq ([]:List bo).toArray }).objs.size X.env))
   (RR (.ref s2.heap.objs.size) (s2.heap.push { cls:=.type "list",data:=.seq ([]:List bo).toArray }).objs.size) { s2 with heap:=h₁,toks:=s2.toks+([]:List (Str×bo)).length }:=by
  refine Gi (fun n s'=>∃i τ H',Inv (cH X scope cl (s2.heap.push { cls:=.type "list",data:=.seq ([]:List bo).toArray }).objs.size { s2 with heap:=s2.heap.push { cls:=.type "list",data:=.seq ([]:List bo).toArray } } (upd H2 s2.heap.objs.size (.lst [])) fp N) [] τ H' s'/\tn i s'.heap/\(∀b∈fp,H' b=none)/\W i n τ H') ?_ m0 ⟨0,_,_,I4,ah,fun b hb=>(f3 b hb).1,w0⟩;rintro n s5 ⟨i,τ,H5,I5,al,ak,w5⟩;rcases aj i n τ H5 w5 with ⟨stop,qn⟩|⟨go,step⟩
  ·refine thn (T.done (cH X scope cl (s2.heap.push { cls:=.type "list",data:=.seq ([]:List bo).toArray }).objs.size { s2 with heap:=s2.heap.push { cls:=.type "list",data:=.seq ([]:List bo).toArray } } (upd H2 s2.heap.objs.size (.lst [])) fp N) rfl rfl rfl hc i [] s5 τ H5 (fun _ _=>False) I5 (ab ak) al stop) fun r s6 ⟨hr,I6⟩=>?_;subst hr;obtain⟨m,hn,_⟩:=id I6.loc;exact hRR _ _ H5 s6 m hn (I3.fpOk (dh _) I6.free) (fun h' hs=>MJ I3 f3 I6 hs) qn
  ·refine thn (T.item (cH X scope cl (s2.heap.push { cls:=.type "list",data:=.seq ([]:List bo).toArray }).objs.size { s2 with heap:=s2.heap.push { cls:=.type "list",data:=.seq ([]:List bo).toArray } } (upd H2 s2.heap.objs.size (.lst [])) fp N) rfl rfl rfl hc i [] s5 τ H5 (fun _ _=>False) I5 (ab ak) al go) fun r s6 ⟨u,hr,h6⟩=>?_;subst hr;refine thn h6 fun _ s7 ⟨x,H7,I7,r7,y7,af,am⟩=>?_;have I7':=I7.pinned (ab am) (T.obj _ _ af);refine thn (hg _ _ _ _ _ s7 τ H7 x u _ I7' r7 (step x H7 y7)) fun _ s8 ⟨τ8,H8,I8,q8⟩=>?_;refine thn (ht _ _ _ _ _ s8 τ8 H8 _ I8 q8) fun ok s9 ⟨H9,I9,q9⟩=>?_;have aa:∀{H':Hp}{s':bq}{m:Nat},Inv (cH X scope cl (s2.heap.push { cls:=.type "list",data:=.seq ([]:List bo).toArray }).objs.size { s2 with heap:=s2.heap.push { cls:=.type "list",data:=.seq ([]:List bo).toArray } } (upd H2 s2.heap.objs.size (.lst [])) fp N) ([]++pV fp s7.heap) τ8 H' s'->(m<n/\W (i+1) m τ8 H') ->
     ∃m,m<n/\∃i τ H',Inv (cH X scope cl (s2.heap.push { cls:=.type "list",data:=.seq ([]:List bo).toArray }).objs.size { s2 with heap:=s2.heap.push { cls:=.type "list",data:=.seq ([]:List bo).toArray } } (upd H2 s2.heap.objs.size (.lst [])) fp N) [] τ H' s'/\tn i s'.heap/\(∀b∈fp,H' b=none)/\W i m τ H':=fun {H' s' m} I' q=>by
    refine⟨m,q.1,i+1,τ8,H',I'.unpinned,T.keep _ _ _ af fun b hb o e=>(I'.pin (b,o) (fh _ (fh _ (sX hb e)))).1,fun b hb=>?_,q.2⟩;obtain⟨o,e,d⟩:=T.obj _ _ af b hb;exact(I'.pin (b,o) (fh _ (fh _ (sX hb e)))).2.1
   cases ok with
   |false=>
    rw[cm jg]at q9 ⊢;obtain⟨m',hm,w9⟩:=q9;exact aa I9 ⟨hm,w9⟩
   |true=>
    rw[cn rfl]at q9 ⊢;refine thn (he _ _ _ _ _ s9 τ8 H9 _ I9 q9) fun v aq ⟨z,H10,I10,ap,xs,hx,hz,m',hm,ao⟩=>?_;refine thn (lT _ aq τ8 H10 (.ref s2.heap.objs.size) [z] (.ref s2.heap.objs.size) [v] (fun _ H11=>W (i+1) m' τ8 H11) I10 rfl (.cons ap .nil) ⟨_,xs,z,rfl,rfl,hx,hz,ao⟩) fun _ ar ⟨_,H11,I11,_,an⟩=>?_;exact aa I11 ⟨hm,an⟩
 exact codeAny_compStart_list ae (T.self _ 0 _ _ _ ah ae)
theorem cP(hx:∀e s,X.xe e s->False)(hc:X.calm=true)(c:CompOk X scope cl N caps)(hi:PI X tg iter wi)(hg:∀C s H fp,PG (cH X scope cl C s H fp N) tg g)(ht:∀C s H fp,PTs (cH X scope cl C s H fp N) ifs tt)(he:∀C s H fp,PE (cH X scope cl C s H fp N) elt te)
  (hs:∀x,foldedSetIterable iter X.env x=pure x:=by intro _;rfl):PE X (.ListComp elt [⟨tg,iter,ifs,0⟩] scope pos) (qT caps wi g tt te):=by
 intro ze s σ H Q I h;rw[eval_ListComp];refine wpAny_comprehension_free (use:=none) rfl hs c.clos c.kind c.names (thn (hi ze s σ H _ I h) fun v s1 h1=>thn h1 fun aa s2 h2=>?_);obtain⟨it,fp,tn,J,H2,e,I2,T,z,f2,q2⟩:=h2;subst e;exact BW (RR:=fun acc C=>compPost (model X.prog X.w) X.A X.xe none (EP X ze σ Q) acc C) hc c I2 T z f2 hg ht he Q q2 fun D C H' s' m hn _ hb q=>⟨m,hn,fun h' hs=>⟨.ref D,H',hb h' hs,rfl,q⟩⟩
theorem mH{i:Nat}{y:Str}{py aa:Pos}(hx:∀e s,X.xe e s->False)(hc:X.calm=true)(c:CompOk X scope cl N caps)(hN:X.N.Nodup)(ab:X.N[i]?=some y)(hl:X.env.scope.names.lookup y=some .local)(hi:PI X tg iter wi)(hg:∀C s H fp,PG (cH X scope cl C s H fp N) tg g)
  (ht:∀C s H fp,PTs (cH X scope cl C s H fp N) ifs tt) (he:∀C s H fp,PE (cH X scope cl C s H fp N) elt te)
  (hsw:swapsWith (.ListComp elt [⟨tg,iter,ifs,0⟩] scope pos) (some (.Name y py)) aa.line X.env=pure true:=by rfl)
  (hs:∀x,foldedSetIterable iter X.env x=pure x:=by intro _;rfl):PS X (.Assign [.Name y py] (.ListComp elt [⟨tg,iter,ifs,0⟩] scope pos) aa) (qI (qT caps wi g tt te) (k9 i)):=by
 intro ze s σ H D I h;rw[exec_Assign_Name_used _ _ _ _ hsw];refine bn (wpAny_standAt (bn ?_));show cp _ X.A (do let _ <- comprehension (.ListComp elt [⟨tg,iter,ifs,0⟩] scope pos) scope X.env _ (newList []) false (eval iter X.env) (some (assign (.Name y py) X.env))) _ _ s;refine bn (qe (wpAny_comprehension_free (use:=some (assign (.Name y py) X.env)) (Q:=fun _ s'=>SP X ze D .next s') rfl hs c.clos c.kind c.names (thn (hi ze s σ H _ I h) fun v s1 h1=>thn h1 fun ae s2 h2=>?_)) (fun _ s' hq=>bp (bp hq)) fun _ _ e=>e);obtain⟨it,fp,tn,J,H2,e,I2,T,ac,f2,q2⟩:=h2;subst e;refine BW (RR:=fun acc C=>compPost (model X.prog X.w) X.A X.xe (some (assign (.Name y py) X.env)) (fun _ s'=>SP X ze D .next s') acc C) hc c I2 T ac f2 hg ht he (fun v H'=>D.nx (σ.set i (some v)) H') q2 fun Da C H' s' m hn f hb q=>?_;obtain⟨o,es,ep,ho,hd,r⟩:=hn;have I':Inv X ze σ H' s':=hb s'.heap (Heap.SameBut.refl _ _);have I'':Inv X (ze++[(C,o)]) σ H' s':=I'.pins_of fun p hp=>(mem_append.mp hp).elim (fun z=>I'.pin p (fh _ z)) fun z=>by
  cases mem_singleton.mp z;exact⟨ho,f.1,f.2.1,f.2.2.1,fun v e=>by rw[hd]at e;cases e⟩
 refine wpAny_assign_Name (yW I'' hN ab (.inl hl) (show RelV (V.ref Da) (gk Da)from rfl) (fun s2 J2=>?_) (.inr hl));refine⟨m,⟨o,es,ep,(J2.pin (C,o) (fh _ (fh _ (mem_singleton.mpr rfl)))).1,hd,r⟩,fun h' hs=>?_⟩;exact⟨_,H',J2.unpinned.turned (t':=s2.toks) (fun b ob nb e=>hs.extBut b ob nb e) f.1 f.2.1 f.2.2.2.1 f.2.2.2.2.1 f.2.2.2.2.2,q⟩
end
def fM(env:Env):List (Str×qw)->List (Str×Addr)->List (Str×Addr)
 | [],acc=>acc
 | (n,k)::r,acc=>fM env r (if k==.free then (n,(env.cells.lookup n).getD 0)::acc else acc)
theorem BU{env:Env}{x:Str}{c:Addr}:∀{names:List (Str×qw)}{acc:List (Str×Addr)},(x,c)∈fM env names acc->(x,c)∈acc\/((x,NameKind.free)∈names/\c=(env.cells.lookup x).getD 0)
 | [],_,h=>.inl h
 | (n,k)::r,acc,h=>by
  rcases BU (names:=r) h with h|⟨h,e⟩
  ·by_cases hk:k==.free
   ·rw[cn hk]at h;rcases mem_cons.mp h with h|h
    ·cases h;have:k=.free:=by simpa using hk
     subst this;exact .inr ⟨dw,rfl⟩
    ·exact .inl h
   ·rw[cm hk]at h;exact .inl h
  ·exact .inr ⟨cz _ h,e⟩
theorem Bm{env:Env}{p:Str×Addr}:∀{names:List (Str×qw)}{acc:List (Str×Addr)},p∈acc->p∈fM env names acc
 | [],_,h=>h
 | (n,k)::r,acc,h=>Bm (names:=r) (by split<;>first|exact cz _ h|exact h)
theorem wZ{env:Env}{x:Str}:∀{names:List (Str×qw)}{acc:List (Str×Addr)},(x,NameKind.free)∈names->∃c,(x,c)∈fM env names acc
 | (n,k)::r,acc,h=>by
  rcases mem_cons.mp h with h|h
  ·cases h;exact⟨_,Bm (names:=r) (by rw[cn dz];exact dw)⟩
  ·exact wZ (names:=r) h
theorem wV{β:Type}{x:Str}{c:β}:∀{l:List (Str×β)},(x,c)∈l->∃c',l.lookup x=some c'
 | (n,v)::r,h=>by
  cases e:x==n with
  |true=>exact⟨v,by rw[qc,e]⟩
  |false=>
   rcases mem_cons.mp h with h|h
   ·cases h;simp at e
   ·obtain⟨c',q⟩:=wV (l:=r) h;exact⟨c',by rw[qc,e];exact q⟩
theorem IT{env:Env}{scope:Scope}(h:∀y∈scope.names,y.2=.free->(env.cells.lookup y.1).isSome=true):closureFor scope env=pure (fM env scope.names []):=by
 have go:∀(names:List (Str×qw)) (acc:List (Str×Addr)),(∀y∈names,y.2=.free->(env.cells.lookup y.1).isSome=true) ->
   (forIn names acc (fun(x:Str×qw) (cs:List (Str×Addr))=>(if x.2==.free then (do let c <- cellOf env x.1;pure (sw ((x.1,c)::cs)))else pure (sw cs):Sem (ForInStep (List (Str×Addr))))))=(pure (fM env names acc):Sem (List (Str×Addr))):=by
  intro names;induction names with
  |nil=>intro acc _;rfl
  |cons y r ih=>
   intro acc hy;obtain⟨n,k⟩:=y;rw[forIn_cons];by_cases hk:k==.free
   ·have hs:=hy (n,k) dw (by simpa using hk);obtain⟨c,hc⟩:=isSome_iff_exists.mp hs;have z:env.cells.lookup n=some c:=hc;simp only[hk,if_true,cellOf,z,pure_bind,fM,Option.getD_some];exact ih _ fun y q=>hy y (cz _ q)
   ·simp only[hk,fg,if_false,pure_bind,fM];exact ih _ fun y q=>hy y (cz _ q)
 have g:=go scope.names [] h;exact(bind_pure _).trans g
def bG(DN:List Str)(dsc sc:List (Str×qw))(N:List Str)(caps:List (Option Nat)):Bool:=
 (caps.length==N.length)&&sc.all (fun y=>y.2 != .cell&&(y.2 != .free||dsc.lookup y.1==some .cell)&&(y.2 != .local||sc.lookup y.1==some .local)) &&
 (caps.zip N).all fun p=>match p.1 with|none=>true|some i=>DN[i]?==some p.2&&dsc.lookup p.2==some .cell&&sc.lookup p.2==some .free
theorem yR{dsc:List (Str×qw)}{env:Env}{x:Str}{k:qw}:∀{names:List (Str×qw)},(names.map fun(n,k)=>if (k==.free&&env.scope.kind==.function&&env.kindOf n==some .cell)then (n,.cell)else (n,k)).lookup x=some k ->
  ∃k',names.lookup x=some k'/\(k'=k\/(k'=.free/\k=.cell))
 | [],h=>by simp at h
 | (n,k0)::r,h=>by
  cases e:x==n with
  |true=>
   refine⟨k0,by rw[qc,e],?_⟩;rw[ga]at h;dsimp only at h;split at h
   ·rename_i hc;rw[qc,e]at h;have:k0=.free:=by simp at hc;exact hc.1.1
    cases h;exact .inr ⟨this,rfl⟩
   ·rw[qc,e]at h;cases h;exact .inl rfl
  |false=>
   rw[ga]at h;dsimp only at h;have h':(r.map fun(n,k)=>if (k==NameKind.free&&env.scope.kind==.function&&env.kindOf n==some .cell)then (n,NameKind.cell)else (n,k)).lookup x=some k:=by
    split at h<;>(rw[qc,e]at h;exact h)
   obtain⟨k',q,z⟩:=yR (dsc:=dsc) h';exact⟨k',by rw[qc,e];exact q,z⟩
theorem EN{env:Env}{x:Str}(h1:env.scope.kind=.function)(h2:env.kindOf x=some .cell):∀{names:List (Str×qw)},names.lookup x=some .free ->
  (names.map fun(n,k)=>if (k==.free&&env.scope.kind==.function&&env.kindOf n==some .cell)then (n,.cell)else (n,k)).lookup x=some .cell
 | [],h=>by simp at h
 | (n,k0)::r,h=>by
  rw[ga];cases e:x==n with
  |true=>
   rw[qc,e]at h;cases h;have en:x=n:=by simpa using e
   subst en;dsimp only;rw[cn (by rw[h1,h2];decide),qc,e]
  |false=>
   rw[qc,e]at h;have ih:=EN h1 h2 (names:=r) h;dsimp only;split<;>(rw[qc,e];exact ih)
theorem zF{X:Cx}{dsc:Scope}{L:Nat}{scope:Scope}{N:List Str}{caps:List (Option Nat)}(hd:X.env.scope=dsc)(hc:X.env.cells=cellsFrom L dsc.names [])(ag:dsc.kind=.function)(hk:scope.kind=.function)(h:bG X.N dsc.names scope.names N caps=true):
  CompOk X scope (fM X.env scope.names []) N caps:=by
 subst hd;simp only[bG,ix,all_eq_true,beq_iff_eq]at h;obtain⟨⟨hl,hs⟩,hz⟩:=h;have ab:∀y∈scope.names,y.2=.free->X.env.scope.names.lookup y.1=some .cell:=fun y hy e=>by
  have q:=(hs y hy).1.2;rw[e]at q;simpa using q
 have aa:∀y∈scope.names,y.2≠.cell:=fun y hy e=>by
  have q:=(hs y hy).1.1;rw[e]at q;simp at q
 have ac:∀x,X.env.scope.names.lookup x=some .cell->(X.env.cells.lookup x).isSome=true:=fun x e=>by
  rw[hc];exact W.cellsFrom_some _ _ _ (.inl e)
 have sub:∀x c,(fM X.env scope.names []).lookup x=some c->X.env.cells.lookup x=some c:=fun x c e=>by
  rcases BU (PySem.mem_of_lookup e)with q|⟨q,ec⟩
  ·cases q
  ·obtain⟨c',ae⟩:=isSome_iff_exists.mp (ac x (ab _ q rfl));rw[ec,ae];rfl
 refine⟨IT fun y hy e=>ac y.1 (ab y hy e),sub,hk,aa,fun y hy e=>?_,fun x hx=>?_,fun j i x h1 h2=>?_,hl⟩
 ·have q:=(hs y hy).2;rw[e]at q;simpa using q
 ·have fin:(x,NameKind.free)∈scope.names->∃c,(fM X.env scope.names []).lookup x=some c:=fun m=>by
   obtain⟨c,hm⟩:=wZ (env:=X.env) (acc:=[]) m;exact wV hm
  rcases hx with hx|hx
  ·obtain⟨k',q,z⟩:=yR (dsc:=[]) hx;rcases z with rfl|⟨rfl,_⟩
   ·exact absurd rfl (aa _ (PySem.mem_of_lookup q))
   ·exact fin (PySem.mem_of_lookup q)
  ·obtain⟨k',q,z⟩:=yR (dsc:=[]) hx;rcases z with rfl|⟨_,z⟩
   ·exact fin (PySem.mem_of_lookup q)
   ·cases z
 ·have hm:(some i,x)∈caps.zip N:=by
   have:(caps.zip N)[j]?=some (some i,x):=by rw[List.getElem?_zip_eq_some];exact⟨h1,h2⟩
   exact bw this
  have q:=hz _ hm;simp only[ix,beq_iff_eq]at q;obtain⟨⟨q1,q2⟩,q3⟩:=q;obtain⟨c,af⟩:=wZ (env:=X.env) (acc:=[]) (PySem.mem_of_lookup q3);obtain⟨c',ae⟩:=wV af;refine⟨q1,.inr (.inl q2),fun z=>?_,c',ae,.inl (EN ag q2 q3)⟩;have z':X.env.scope.names.lookup x=some .local:=z;rw[q2]at z';cases z'
end
section
section
variable {X:Cx}
def FZ:R2:=fun x y H Q=>∃z n,x=.str z/\y=.int n/\z.length<=1000/\n<=1000/\-1000<=n/\Q (.str (PySem.Txt.mul z n)) H
theorem HU{z:Str}{n:Int}(h1:z.length<=1000)(h2:n<=1000)(h3:-1000<=n):PySem.MulOk z n:=by
 refine⟨by simp;omega,fun a _ b=>?_,fun a _=>?_⟩
 ·have e:(1000:Int)<=(2 ^ 63-1)/n:=by
   rw[Int.le_ediv_iff_mul_le yw];have:=Int.mul_le_mul_of_nonneg_left h2 (show (0:Int)<=1000 by decide);omega
  omega
 ·have e:z.length*n.toNat<=1000*1000:=mul_le_mul h1 yw;unfold Builtin.Str.tooLong;simp only[decide_eq_false_iff_not,Nat.not_lt];exact lw e dz
theorem JB:OpR X (oh .Mult) FZ:=by
 intro ze s σ H x y v u Q I rx ry h;obtain⟨z,n,rfl,rfl,h1,h2,h3,q⟩:=h;obtain⟨t,rfl⟩:=rx;obtain⟨t',rfl⟩:=ry;exact PySem.SB.mul (HU h1 h2 h3) fun _ k=>⟨.str _,H,I.tok _,⟨_,rfl⟩,q⟩
def B8:V->Option Int->Option Int->Hp->VK->Prop:=fun x lo hi H Q=>∃z,x=.str z/\z.length<=fk/\Q (.str (PySem.Txt.slice z lo hi)) H
theorem MP:SlR X B8:=by
 intro ze s σ H x v vl vu lo hi sl Q I rx hs pl pu h;obtain⟨z,rfl,hz,q⟩:=h;obtain⟨t,rfl⟩:=rx;refine⟨"str",_,F.slot_str_getitem.lookup,typeIs_str _ _ _,?_⟩;have fin:∀(a b:Option (Int×Tok)),a.map (·.1)=lo->b.map (·.1)=hi->s.heap.IsSlice sl a b none->cp (model X.prog X.w) X.A (getItem (.str z t) (.ref sl)) (EP X ze σ Q) X.xe s:=fun a b e1 e2 aa=>by
  subst e1 e2;exact wpAny_getItem_str_slice (l:=a) (u:=b) (st:=none) aa rfl (post_val_or_str ⟨lw (PySem.Txt.slice_le z _ _) hz,fun _ k=>⟨.str _,H,I.tok _,⟨_,rfl⟩,q⟩⟩)
 cases pl with
 |none=>
  cases pu with
  |none=>exact fin none none rfl rfl hs
  |int j tj=>exact fin none (some (j,tj)) rfl rfl hs
 |int i ti=>
  cases pu with
  |none=>exact fin (some (i,ti)) none rfl rfl hs
  |int j tj=>exact fin (some (i,ti)) (some (j,tj)) rfl rfl hs
end
section
variable {K:fe}{o:List Addr}{σ:St}{H0:Hp}{t:TE}{ta:TA}{ds:List bt}
def fB(lo:Int)(n:Nat):List bt:=(gg n).map fun k:Nat=>.int (lo+k)
theorem mU{lo:Int}{n:Nat}:(fB lo n).length=n:=by simp[fB]
theorem Dp{lo:Int}{n i:Nat}{d:bt}(h:(fB lo n)[i]?=some d):i<n/\d=.int (lo+i):=by
 have hi:i<n:=by
  have:=List.getElem?_eq_some_iff.mp h;obtain⟨hl,_⟩:=this
  rwa [mU]at hl
 refine⟨hi,?_⟩;simp only[fB,ie,getElem?_range hi,map_some,Option.some.injEq]at h;exact h.symm
end
def b9{α:Type}(xs:List α)(lo hi:Option Int):List α:=(xs.drop (HT.sIx xs.length 0 lo)).take (HT.sIx xs.length xs.length hi-HT.sIx xs.length 0 lo)
theorem HasL.drop{H:Hp}:∀{ds:List bt}{vs:List V} (n:Nat),HasL H ds vs->HasL H (ds.drop n) (vs.drop n)
 |ds,vs,0,h=>h
 | [],vs,n+1,h=>by rw[zx.mp h];exact zx.mpr rfl
 |d::ds,vs,n+1,h=>by
  obtain⟨v,r,rfl,_,l⟩:=zq.mp h;exact HasL.drop n l
theorem HasL.take{H:Hp}:∀{ds:List bt}{vs:List V} (n:Nat),HasL H ds vs->HasL H (ds.take n) (vs.take n)
 |ds,vs,0,h=>zx.mpr rfl
 | [],vs,n+1,h=>by rw[zx.mp h];exact zx.mpr rfl
 |d::ds,vs,n+1,h=>by
  obtain⟨v,r,rfl,q,l⟩:=zq.mp h;exact zq.mpr ⟨v,_,rfl,q,HasL.take n l⟩
theorem HasL.cut{H:Hp}{ds:List bt}{vs:List V}(lo hi:Option Int)(h:HasL H ds vs):HasL H (b9 ds lo hi) (dH vs lo hi):=by
 unfold b9 dH;rw[h.length];exact(h.drop _).take _
end
section
theorem D5:∀{l:List Addr}{H:Hp}{b:Addr}{u:HO},vw l H b=some u↔b∉l/\H b=some u
 | [],H,b,u=>by simp[vw]
 |a::r,H,b,u=>by
  show hid a (vw r H) b=some u↔_;by_cases h:b=a
  ·subst h;simp[Hy]
  ·rw[MV h,D5];simp[h]
def vx(h o:List Addr)(H:Hp):Hp:=vw (h++o) H
theorem zE{h o:List Addr}{H:Hp}{b:Addr}{u:HO}:vx h o H b=some u↔b∉h/\b∉o/\H b=some u:=by
 unfold vx;rw[D5];simp[and_assoc]
theorem zN{h o:List Addr}{H:Hp}:Same (vx h o H) H:=fun b u e=>(zE.mp e).2.2
theorem l7{h o:List Addr}{H H':Hp}(s:Same H H'):Same (vx h o H) (vx h o H'):=fun b u e=>by
 obtain⟨h1,h2,h3⟩:=zE.mp e;exact zE.mpr ⟨h1,h2,s b u h3⟩
structure Ex(o:List Addr)(H:Hp)(o':List Addr)(H':Hp):Prop where
 pre:∃r,o'=o++r
 kp:∀b u,b∉o->H b=some u->b∉o'/\H' b=some u
section
variable {h o o' o'':List Addr}{H H' H'':Hp}{S:List (List bt)}{p a:Addr}
theorem Ex.refl:Ex o H o H:=⟨⟨[],yv⟩,fun _ _ a b=>⟨a,b⟩⟩
theorem Ex.trans(a:Ex o H o' H')(b:Ex o' H' o'' H''):Ex o H o'' H'':=by
 obtain⟨⟨r,e⟩,ka⟩:=a;obtain⟨⟨t,e'⟩,kb⟩:=b;refine⟨⟨r++t,by rw[e',e,gn]⟩,fun b u h1 h2=>?_⟩;obtain⟨h3,h4⟩:=ka b u h1 h2;exact kb b u h3 h4
theorem Ex.vx(e:Ex o H o' H'):Same (L2.vx h o H) (L2.vx h o' H'):=fun b u q=>by
 obtain⟨h1,h2,h3⟩:=zE.mp q;obtain⟨h4,h5⟩:=e.kp b u h2 h3;exact zE.mpr ⟨h1,h4,h5⟩
structure ExH(h o:List Addr)(H:Hp)(o':List Addr)(H':Hp):Prop where
 pre:∃r,o'=o++r
 kp:∀b u,b∉h->b∉o->H b=some u->b∉o'/\H' b=some u
theorem Ex.hid(e:Ex o H o' H'):ExH h o H o' H':=⟨e.pre,fun b u _=>e.kp b u⟩
theorem ExH.refl:ExH h o H o H:=Ex.refl.hid
theorem ExH.trans(a:ExH h o H o' H')(b:ExH h o' H' o'' H''):ExH h o H o'' H'':=by
 obtain⟨⟨r,e⟩,ka⟩:=a;obtain⟨⟨t,e'⟩,kb⟩:=b;refine⟨⟨r++t,by rw[e',e,gn]⟩,fun b u h0 h1 h2=>?_⟩;obtain⟨h3,h4⟩:=ka b u h0 h1 h2;exact kb b u h0 h3 h4
theorem ExH.vx(e:ExH h o H o' H'):Same (L2.vx h o H) (L2.vx h o' H'):=fun b u q=>by
 obtain⟨h1,h2,h3⟩:=zE.mp q;obtain⟨h4,h5⟩:=e.kp b u h1 h2 h3;exact zE.mpr ⟨h1,h4,h5⟩
theorem Ex.of_same(s:Same H H'):Ex o H o H':=⟨⟨[],yv⟩,fun b u h e=>⟨h,s b u e⟩⟩
theorem iI{α:Type}{l t:List α}{k:Nat}{a:α}(q:l[k]?=some a):(l++t)[k]?=some a:=by
 obtain⟨hk,_⟩:=List.getElem?_eq_some_iff.mp q;rw[gm hk];exact q
def exO(a C:Addr)(d:Option Addr):HO:=.ext fun h=>∃o,h.get? a=some o/\o.cls=.ref C/\o.dict=d/\∃vs,o.data=.fields vs/\vs[2]?=some .none
def xw(dx:Addr)(fs:List (Str×V)):HO:=.ext fun h=>∃mA,h.Ns1 dx mA/\(∀f,RelO (fs.lookup f) (mA f))/\PySem.Within mA (fs.map (·.1))
def HasE(H:Hp)(C:Addr)(fs:List (Str×bt))(v:V):Prop:=∃a d,v=.ref a/\H a=some (exO a C d)/\∀f dt,fs.lookup f=some dt->∃dx vs u,d=some dx/\H dx=some (xw dx vs)/\vs.lookup f=some u/\Has H dt u
theorem HasE.mono{H H':Hp}{C:Addr}{fs:List (Str×bt)}{v:V}(s:Same H H')(q:HasE H C fs v):HasE H' C fs v:=by
 obtain⟨a,d,e,ha,hf⟩:=q;refine⟨a,d,e,s _ _ ha,fun f dt l=>?_⟩;obtain⟨dx,vs,u,e1,e2,e3,e4⟩:=hf f dt l;exact⟨dx,vs,u,e1,s _ _ e2,e3,Has.mono s _ _ e4⟩
inductive XV where
 |d (d:bt)
 |l (k:Nat)
 |o (v:V)
 |x (C:Addr) (fs:List (Str×bt))
 |p (k:Nat) (d:bt)
def HasLP(h o:List Addr)(H:Hp)(k:Nat)(d:bt)(v:V):Prop:=∃t a u,v=.ref t/\o[k]?=some a/\vx h o H t=some (.tup [.ref a,u])/\Has (vx h o H) d u
theorem HasLP.to{h':List Addr}{k:Nat}{d:bt}{v:V}(s:Same (vx h o H) (vx h' o' H'))(e:∀a,o[k]?=some a->o'[k]?=some a)(q:HasLP h o H k d v):HasLP h' o' H' k d v:=by
 obtain⟨t,a,u,e1,e2,e3,e4⟩:=q;exact⟨t,a,u,e1,e a e2,s _ _ e3,Has.mono s _ _ e4⟩
def HasX(h o:List Addr)(H:Hp):XV->V->Prop
 | .d d,v=>Has (vx h o H) d v
 | .l k,v=>∃a,o[k]?=some a/\v=.ref a
 | .o w,v=>v=w
 | .x C fs,v=>HasE (vx h o H) C fs v
 | .p k d,v=>HasLP h o H k d v
theorem HasX.mono(e:Ex o H o' H'):∀{x:XV}{v:V},HasX h o H x v->HasX h o' H' x v
 | .d d,v,q=>Has.mono e.vx d v q
 | .l k,v,⟨a,q,r⟩=>by
  obtain⟨t,rfl⟩:=e.pre;exact⟨a,iI q,r⟩
 | .o w,v,q=>q
 | .x C fs,v,q=>HasE.mono e.vx q
 | .p k d,v,q=>by
  have ev:=e.vx (h:=h);obtain⟨t,rfl⟩:=e.pre;exact HasLP.to ev (fun a z=>iI z) q
def HasXs(h o:List Addr)(H:Hp):List XV->List V->Prop
 | [],vs=>vs=[]
 |x::xs,vs=>∃v r,vs=v::r/\HasX h o H x v/\HasXs h o H xs r
abbrev Sto:=List (List bt)
inductive MO where
 |l (vs:List V)
 |k (m:List (Key×V))
 |t (m:List (List Key×V))
 |x (a:Addr) (ob:Obj)
def MO.ho:MO->HO
 | .l vs=>.lst vs
 | .k m=>.dK m
 | .t m=>.dT m
 | .x a ob=>obO a ob
structure RepS(h o:List Addr)(H:Hp)(S:Sto):Prop where
 len:S.length=o.length
 nd:o.Nodup
 dis:∀a∈o,a∉h
 hal:∀b∈h,∃u:MO,H b=some u.ho
 cont:∀(k:Nat) (a:Addr) (ds:List bt),o[k]?=some a->S[k]?=some ds->∃vs,H a=some (.lst vs)/\HasL (vx h o H) ds vs
theorem HB{α β:Type}{l:List α}{t:List β}{k:Nat}{a:α}(hl:t.length=l.length)(q:l[k]?=some a):∃b,t[k]?=some b:=by
 obtain⟨hk,_⟩:=List.getElem?_eq_some_iff.mp q;exact⟨t[k]'yw,cw _⟩
theorem RepS.oal(r:RepS h o H S):∀a∈o,∃u,H a=some (.lst u):=fun a ha=>by
 obtain⟨k,hk⟩:=mem_iff_getElem?.mp ha;obtain⟨ds,e⟩:=HB r.len hk;obtain⟨vs,e',_⟩:=r.cont k a ds hk e;exact⟨_,e'⟩
theorem RepS.oam(r:RepS h o H S):∀a∈o,∃u:MO,H a=some u.ho:=fun a ha=>let ⟨u,e⟩:=r.oal a ha;⟨.l u,e⟩
theorem RepS.fresh(r:RepS h o H S)(hp:H p=none):p∉h/\p∉o:=by
 constructor
 ·intro m;obtain⟨u,e⟩:=r.hal p m;rw[hp]at e;cases e
 ·intro m;obtain⟨u,e⟩:=r.oal p m;rw[hp]at e;cases e
theorem RepS.same(r:RepS h o H S)(s:Same H H'):RepS h o H' S where
 len:=r.len
 nd:=r.nd
 dis:=r.dis
 hal:=fun b m=>by obtain⟨u,e⟩:=r.hal b m;exact⟨u,s b _ e⟩
 cont:=fun k a ds e1 e2=>by
  obtain⟨vs,e3,l⟩:=r.cont k a ds e1 e2;exact⟨vs,s _ _ e3,HasL.mono (l7 s) _ _ l⟩
theorem RepS.laid{u:HO}(r:RepS h o H S)(hp:H p=none):vx h o (upd H p u) p=some u:=by
 obtain⟨h1,h2⟩:=r.fresh hp;exact zE.mpr ⟨h1,h2,zX⟩
theorem Ex.new{u:HO}(r:RepS h o H S)(hp:H p=none):Ex o H (o++[p]) (upd H p u):=by
 refine⟨⟨[p],rfl⟩,fun b w hb e=>?_⟩;have ne:b≠p:=zI e hp;exact⟨by simp[hb,ne],by rw[zD ne];exact e⟩
theorem lN{α:Type}{l:List α}{a:α}(h:l.Nodup)(n:a∉l):(l++[a]).Nodup:=by
 rw[qz];refine⟨h,yv,fun x hx y hy e=>?_⟩;rw[tz]at hy;subst hy;subst e;exact n hx
theorem RepS.new{ds:List bt}{vs:List V}(r:RepS h o H S)(hp:H p=none)(l:HasL (vx h o H) ds vs):RepS h (o++[p]) (upd H p (.lst vs)) (S++[ds]):=by
 obtain⟨h1,h2⟩:=r.fresh hp;have ex:Ex o H (o++[p]) (upd H p (.lst vs)):=Ex.new r hp;refine⟨by simp[r.len],lN r.nd h2,fun a ha=>?_,fun b hb=>?_,fun k a es e1 e2=>?_⟩
 ·rcases mem_append.mp ha with ha|ha
  ·exact r.dis a ha
  ·rw[mem_singleton.mp ha];exact h1
 ·obtain⟨u,e⟩:=r.hal b hb;exact⟨u,by rw[zD (zI e hp)];exact e⟩
 ·by_cases hk:k<o.length
  ·rw[gm hk]at e1;rw[gm (by rw[r.len];exact hk)]at e2;obtain⟨ws,e3,l3⟩:=r.cont k a es e1 e2;refine⟨ws,?_,l3.mono ex.vx⟩;rw[zD (zI e3 hp)];exact e3
  ·have z:k=o.length:=by
    obtain⟨q,_⟩:=List.getElem?_eq_some_iff.mp e1;rw[fu,iy]at q;omega
   subst z;rw[fv]at e1;rw[<- r.len,fv]at e2;cases e1;cases e2;exact⟨vs,zX,l.mono ex.vx⟩
theorem Ex.upd{k:Nat}{u:HO}(e:o[k]?=some a):Ex o H o (L2.upd H a u):=
 ⟨⟨[],yv⟩,fun b w hb eb=>⟨hb,by rw[zD (fun z=>hb (by rw[z];exact bw e))];exact eb⟩⟩
theorem m9{l:List Addr}(h:l.Nodup){i j:Nat}{a:Addr}(e1:l[i]?=some a)(e2:l[j]?=some a):i=j:=by
 obtain⟨hi,e1⟩:=List.getElem?_eq_some_iff.mp e1;obtain⟨hj,e2⟩:=List.getElem?_eq_some_iff.mp e2;exact(List.getElem_inj h).mp (e1.trans e2.symm)
theorem RepS.upd{k:Nat}{ds:List bt}{vs:List V}(r:RepS h o H S)(e:o[k]?=some a)(l:HasL (vx h o H) ds vs):RepS h o (L2.upd H a (.lst vs)) (S.set k ds):=by
 have ex:Ex o H o (L2.upd H a (.lst vs)):=Ex.upd e;refine⟨by simp[r.len],r.nd,r.dis,fun b hb=>?_,fun j b es e1 e2=>?_⟩
 ·obtain⟨u,eb⟩:=r.hal b hb;have ne:b≠a:=fun z=>r.dis a (bw e) (z▸hb);exact⟨u,by rw[zD ne];exact eb⟩
 ·by_cases hj:j=k
  ·subst hj;rw[e1]at e;cases e;obtain⟨hk,_⟩:=List.getElem?_eq_some_iff.mp e1;rw[pb (by rw[r.len];exact hk)]at e2;cases e2;exact⟨vs,zX,l.mono ex.vx⟩
  ·rw[sn (kf hj)]at e2;obtain⟨ws,e3,l3⟩:=r.cont j b es e1 e2;have ne:b≠a:=fun z=>hj (m9 r.nd e1 (z▸e));exact⟨ws,by rw[zD ne];exact e3,l3.mono ex.vx⟩
abbrev XE:=List (Option XV)
structure RepE(h o:List Addr)(H:Hp)(δ:XE)(σ:St):Prop where
 len:δ.length=σ.length
 get:∀(i:Nat) x,δ[i]?=some (some x)->∃v,σ[i]?=some (some v)/\HasX h o H x v
variable {δ:XE}{σ:St}
theorem RepE.mono(r:RepE h o H δ σ)(e:Ex o H o' H'):RepE h o' H' δ σ:=⟨r.len,fun i x q=>by
 obtain⟨v,e1,e2⟩:=r.get i x q;exact⟨v,e1,e2.mono e⟩⟩
theorem RepE.set{i:Nat}{x:XV}{v:V}(r:RepE h o H δ σ)(q:HasX h o H x v):RepE h o H (δ.set i (some x)) (σ.set i (some v)):=by
 refine⟨by simp[r.len],fun j y e=>?_⟩;rw[List.getElem?_set]at e ⊢;by_cases hij:i=j
 ·rw[cn hij]at e ⊢;by_cases hl:i<δ.length
  ·rw[cn hl]at e;rw[cn (by rw[<- r.len];exact hl)];cases e;exact⟨v,rfl,q⟩
  ·rw[cm hl]at e;cases e
 ·rw[cm hij]at e ⊢;exact r.get j y e
def f6(caps:List (Option Nat))(δ:XE):XE:=caps.map fun o=>o.bind fun i=>(δ[i]?).join
theorem RepE.tau{caps:List (Option Nat)}(r:RepE h o H δ σ):RepE h o H (f6 caps δ) (L2.tau caps σ):=by
 refine⟨by simp[f6,L2.tau],fun i x e=>?_⟩;unfold f6 at e;unfold L2.tau;rw[ie]at e ⊢;cases hc:caps[i]? with
 |none=>rw[hc]at e;cases e
 |some c=>
  rw[hc]at e;cases c with
  |none=>cases e
  |some j=>
   have e':(δ[j]?).join=some x:=by simpa using e
   have e2:δ[j]?=some (some x):=by
    cases hd:δ[j]? with
    |none=>rw[hd]at e';cases e'
    |some y=>rw[hd]at e';exact congrArg some (by simpa using e')
   obtain⟨v,e3,e4⟩:=r.get j x e2;exact⟨v,by simp[e3],e4⟩
end
abbrev RX:=XV->Sto->Prop
abbrev DE:=XE->Sto->RX->Prop
abbrev DT:=XE->Sto->(Bool->Sto->Prop)->Prop
abbrev DA:=XE->Sto->(List XV->Sto->Prop)->Prop
abbrev D2:=XV->XV->Sto->RX->Prop
def Cn(h o:List Addr)(H:Hp)(R:RX)(Q:VK):Prop:=∀o' H' S' x v,Ex o H o' H'->RepS h o' H' S'->HasX h o' H' x v->R x S'->Q v H'
theorem Cn.pre{h o o':List Addr}{H H':Hp}{R:RX}{Q:VK}(c:Cn h o H R Q)(e:Ex o H o' H'):Cn h o' H' R Q:=fun o2 H2 S2 x v e2=>c o2 H2 S2 x v (e.trans e2)
def RE(t:TE)(dt:DE):Prop:=∀(h o:List Addr) (H:Hp) (δ:XE) (σ:St) (S:Sto) (R:RX) (Q:VK),RepE h o H δ σ->RepS h o H S->dt δ S R->Cn h o H R Q->t σ H Q
def RT(t:TT)(dt:DT):Prop:=∀(h o:List Addr) (H:Hp) (δ:XE) (σ:St) (S:Sto) (R:Bool->Sto->Prop) (Q:Bool->Hp->Prop),RepE h o H δ σ->RepS h o H S->dt δ S R ->
 (∀o' H' S' b,Ex o H o' H'->RepS h o' H' S'->R b S'->Q b H')->t σ H Q
def RA(t:TA)(dt:DA):Prop:=∀(h o:List Addr) (H:Hp) (δ:XE) (σ:St) (S:Sto) (R:List XV->Sto->Prop) (Q:List V->Hp->Prop),RepE h o H δ σ->RepS h o H S->dt δ S R ->
 (∀o' H' S' xs vs,Ex o H o' H'->RepS h o' H' S'->HasXs h o' H' xs vs->R xs S'->Q vs H')->t σ H Q
def RO(r:R2)(rd:D2):Prop:=∀(h o:List Addr) (H:Hp) (S:Sto) (x y:XV) (v u:V) (R:RX) (Q:VK),RepS h o H S->HasX h o H x v->HasX h o H y u->rd x y S R->Cn h o H R Q->r v u H Q
def RU(r:V->Hp->VK->Prop)(rd:XV->Sto->RX->Prop):Prop:=∀(h o:List Addr) (H:Hp) (S:Sto) (x:XV) (v:V) (R:RX) (Q:VK),RepS h o H S->HasX h o H x v->rd x S R->Cn h o H R Q->r v H Q
def RC(r:List V->Hp->VK->Prop)(rd:List XV->Sto->RX->Prop):Prop:=∀(h o:List Addr) (H:Hp) (S:Sto) (xs:List XV) (vs:List V) (R:RX) (Q:VK),RepS h o H S->HasXs h o H xs vs->rd xs S R->Cn h o H R Q->r vs H Q
def asI:XV->(Int->Prop)->Prop
 | .d (.int i),k=>k i
 |_,_=>False
def asB:XV->(Bool->Prop)->Prop
 | .d (.bool i),k=>k i
 |_,_=>False
def asS:XV->(Str->Prop)->Prop
 | .d (.str i),k=>k i
 |_,_=>False
def asT:XV->(List bt->Prop)->Prop
 | .d (.tuple i),k=>k i
 |_,_=>False
def gZ(S:Sto):XV->Option (List bt)
 | .d (.list ds)=>some ds
 | .l k=>S[k]?
 |_=>none
def asL(S:Sto)(x:XV)(k:List bt->Prop):Prop:=∃ds,gZ S x=some ds/\k ds
def bK(S:Sto):XV->Option bt
 | .d d=>some d
 | .l k=>(S[k]?).map .list
 | .o _=>none
 | .x _ _=>none
 | .p k d=>(S[k]?).map fun l=>.tuple [.list l,d]
def asD(x:XV)(k:bt->Prop):Prop:=match x with
 | .d d=>k d
 |_=>False
theorem bM{x:XV}{k:Int->Prop}(h:asI x k):∃i,x=.d (.int i)/\k i:=by
 unfold asI at h;split at h
 ·exact⟨_,rfl,h⟩
 ·exact h.elim
theorem iZ{x:XV}{k:Bool->Prop}(h:asB x k):∃i,x=.d (.bool i)/\k i:=by
 unfold asB at h;split at h
 ·exact⟨_,rfl,h⟩
 ·exact h.elim
theorem vO{x:XV}{k:Str->Prop}(h:asS x k):∃i,x=.d (.str i)/\k i:=by
 unfold asS at h;split at h
 ·exact⟨_,rfl,h⟩
 ·exact h.elim
theorem iH{x:XV}{k:List bt->Prop}(h:asT x k):∃i,x=.d (.tuple i)/\k i:=by
 unfold asT at h;split at h
 ·exact⟨_,rfl,h⟩
 ·exact h.elim
theorem iN{x:XV}{k:bt->Prop}(h:asD x k):∃i,x=.d i/\k i:=by
 unfold asD at h;split at h
 ·exact⟨_,rfl,h⟩
 ·exact h.elim
section
variable {h o:List Addr}{H:Hp}{S:Sto}{x:XV}{v:V}{i:Int}{b:Bool}{z:Str}{ds:List bt}{d:bt}
theorem bQ(q:HasX h o H (.d (.int i)) v):v=.int i:=(eY (H:=vx h o H)).mp q
theorem eE(q:HasX h o H (.d (.bool b)) v):v=.bl b:=(i9 (H:=vx h o H)).mp q
theorem fX(q:HasX h o H (.d (.str z)) v):v=.str z:=(iR (H:=vx h o H)).mp q
theorem d9(q:HasX h o H (.d (.tuple ds)) v):∃a vs,v=.ref a/\H a=some (.tup vs)/\HasL (vx h o H) ds vs:=by
 obtain⟨a,vs,e,q,l⟩:=zR.mp (show Has _ _ _ from q);exact⟨a,vs,e,zN _ _ q,l⟩
theorem cA(r:RepS h o H S)(e:gZ S x=some ds)(q:HasX h o H x v):∃a vs,v=.ref a/\H a=some (.lst vs)/\HasL (vx h o H) ds vs:=by
 unfold gZ at e;split at e
 ·cases e;obtain⟨a,vs,e,q,l⟩:=c9.mp (show Has _ _ _ from q);exact⟨a,vs,e,zN _ _ q,l⟩
 ·obtain⟨a,e1,rfl⟩:=q;obtain⟨vs,e2,l⟩:=r.cont _ a ds e1 e;exact⟨a,vs,rfl,e2,l⟩
 ·cases e
theorem gL(r:RepS h o H S)(e:bK S x=some d)(q:HasX h o H x v):Has H d v:=by
 unfold bK at e;split at e
 ·cases e;exact Has.mono zN _ _ q
 ·rename_i k;obtain⟨a,e1,rfl⟩:=q;cases hs:S[k]? with
  |none=>rw[hs]at e;cases e
  |some es=>
   rw[hs]at e;cases e;obtain⟨vs,e2,l⟩:=r.cont k a es e1 hs;exact c9.mpr ⟨a,vs,rfl,e2,HasL.mono zN _ _ l⟩
 ·cases e
 ·cases e
 ·rename_i k d';obtain⟨t,a,u,rfl,e1,e3,e4⟩:=q;cases hs:S[k]? with
  |none=>rw[hs]at e;cases e
  |some es=>
   rw[hs]at e;cases e;obtain⟨vs,e2,l⟩:=r.cont k a es e1 hs;exact zR.mpr ⟨t,_,rfl,zN _ _ e3,zq.mpr ⟨_,_,rfl,c9.mpr ⟨a,vs,rfl,e2,HasL.mono zN _ _ l⟩,zq.mpr ⟨u,_,rfl,Has.mono zN _ _ e4,zx.mpr rfl⟩⟩⟩
theorem xI(i:Int):HasX h o H (.d (.int i)) (.int i):=(eY (H:=vx h o H)).mpr rfl
theorem xB(i:Bool):HasX h o H (.d (.bool i)) (.bl i):=(i9 (H:=vx h o H)).mpr rfl
theorem xS(i:Str):HasX h o H (.d (.str i)) (.str i):=(iR (H:=vx h o H)).mpr rfl
theorem xN:HasX h o H (.d .none) .non:=(kR (H:=vx h o H)).mpr rfl
theorem lZ{vs:List V}{R:RX}{Q:VK}(r:RepS h o H S)(l:HasL (vx h o H) ds vs)(c:Cn h o H R Q)(q:R (.d (.tuple ds)) S):∀p,H p=none->Q (.ref p) (upd H p (.tup vs)):=fun p hp=>
 c o _ S (.d (.tuple ds)) _ (Ex.of_same (Same.laid hp)) (r.same (Same.laid hp)) (zR.mpr ⟨p,vs,rfl,r.laid hp,l.mono (l7 (Same.laid hp))⟩) q
theorem gX{vs:List V}{R:RX}{Q:VK}(r:RepS h o H S)(l:HasL (vx h o H) ds vs)(c:Cn h o H R Q)(q:R (.d (.list ds)) S):∀p,H p=none->Q (.ref p) (upd H p (.lst vs)):=fun p hp=>
 c o _ S (.d (.list ds)) _ (Ex.of_same (Same.laid hp)) (r.same (Same.laid hp)) (c9.mpr ⟨p,vs,rfl,r.laid hp,l.mono (l7 (Same.laid hp))⟩) q
theorem JJ{vs:List V}{R:RX}{Q:VK}(r:RepS h o H S)(l:HasL (vx h o H) ds vs)(c:Cn h o H R Q)(q:R (.l S.length) (S++[ds])):∀p,H p=none->Q (.ref p) (upd H p (.lst vs)):=fun p hp=>
 c (o++[p]) _ (S++[ds]) (.l S.length) _ (Ex.new r hp) (r.new hp l) ⟨p,by rw[r.len,fv],rfl⟩ q
theorem tL:∀{xs:List XV}{vs:List V}{ds:List bt},HasXs h o H xs vs->xs=ds.map XV.d->HasL (vx h o H) ds vs
 | [],vs,[],q,_=>zx.mpr q
 |x::xs,vs,d::ds,⟨v,r,e,q,l⟩,e2=>by
  rw[ga]at e2;cases e2;exact zq.mpr ⟨v,r,e,q,tL l rfl⟩
 |x::xs,vs,[],_,e2=>by cases e2
 | [],vs,d::ds,_,e2=>by cases e2
end
def datas:List XV->Option (List bt)
 | []=>some []
 | .d d::r=>(datas r).map (d :: ·)
 |_::_=>none
theorem j6:∀{xs:List XV}{ds:List bt},datas xs=some ds->xs=ds.map XV.d
 | [],ds,e=>by cases e;rfl
 | .d d::r,ds,e=>by
  unfold datas at e;cases hr:datas r with
  |none=>rw[hr]at e;cases e
  |some es=>
   rw[hr]at e;cases e;rw[j6 hr];rfl
 | .l _::_,_,e=>by cases e
 | .o _::_,_,e=>by cases e
 | .x _ _::_,_,e=>by cases e
 | .p _ _::_,_,e=>by cases e
def zh(i:Nat):DE:=fun δ S R=>∃x,δ[i]?=some (some x)/\R x S
def dC(d:bt):DE:=fun _ S R=>R (.d d) S
def dO(v:V):DE:=fun _ S R=>R (.o v) S
def dOp(rd:D2)(a b:DE):DE:=fun δ S R=>a δ S fun x S1=>b δ S1 fun y S2=>rd x y S2 R
def dUn(rd:XV->Sto->RX->Prop)(a:DE):DE:=fun δ S R=>a δ S fun x S1=>rd x S1 R
def zu:DA:=fun _ S R=>R [] S
def zc(a:DE)(b:DA):DA:=fun δ S R=>a δ S fun x S1=>b δ S1 fun xs S2=>R (x::xs) S2
def dCB(rd:List XV->Sto->RX->Prop)(a:DA):DE:=fun δ S R=>a δ S fun xs S1=>rd xs S1 R
def aL(a:DA):DE:=fun δ S R=>a δ S fun xs S1=>∃ds,datas xs=some ds/\ds.length<=1000/\R (.d (.tuple ds)) S1
def dY(a:DA):DE:=fun δ S R=>a δ S fun xs S1=>∃ds,datas xs=some ds/\ds.length<=1000/\R (.d (.list ds)) S1
def dS(a:DA):DE:=fun δ S R=>a δ S fun xs S1=>∃ds,datas xs=some ds/\ds.length<=1000/\R (.l S1.length) (S1++[ds])
section
variable {t ta tb tc:TE}{da db dc:DE}{tl:TA}{dl:DA}{tt tu:TT}{dt du:DT}
theorem zg{i:Nat}:RE (gU i) (zh i):=fun h o H δ σ S R Q he hs ⟨x,e,q⟩ c=>by
 obtain⟨v,e1,e2⟩:=he.get i x e;exact⟨v,e1,c o H S x v Ex.refl hs e2 q⟩
theorem zM{i:Int}:RE (tC (.int i)) (dC (.int i)):=fun h o H δ σ S R Q he hs q c=>c o H S _ _ Ex.refl hs (xI i) q
theorem cL{i:Bool}:RE (tC (.bl i)) (dC (.bool i)):=fun h o H δ σ S R Q he hs q c=>c o H S _ _ Ex.refl hs (xB i) q
theorem Ff:RE (tC .non) (dC .none):=fun h o H δ σ S R Q he hs q c=>c o H S _ _ Ex.refl hs xN q
theorem Ij{v:V}:RE (tC v) (dO v):=fun h o H δ σ S R Q he hs q c=>c o H S (.o v) v Ex.refl hs rfl q
theorem aM{r:R2}{rd:D2}(hr:RO r rd)(ha:RE ta da)(hb:RE tb db):RE (tOp r ta tb) (dOp rd da db):=fun h o H δ σ S R Q he hs q c=>
 ha h o H δ σ S _ _ he hs q fun o1 H1 S1 x v e1 s1 x1 d1=>hb h o1 H1 δ σ S1 _ _ (he.mono e1) s1 d1 fun o2 H2 S2 y u e2 s2 y2 d2=>
  hr h o2 H2 S2 x y v u R Q s2 (x1.mono e2) y2 d2 (c.pre (e1.trans e2))
theorem p9{r:V->Hp->VK->Prop}{rd:XV->Sto->RX->Prop}(hr:RU r rd)(ha:RE ta da):RE (tUn r ta) (dUn rd da):=fun h o H δ σ S R Q he hs q c=>
 ha h o H δ σ S _ _ he hs q fun o1 H1 S1 x v e1 s1 x1 d1=>hr h o1 H1 S1 x v R Q s1 x1 d1 (c.pre e1)
theorem zr:RA iS zu:=fun h o H δ σ S R Q he hs q c=>c o H S [] [] Ex.refl hs rfl q
theorem zf(ha:RE ta da)(hb:RA tl dl):RA (cX ta tl) (zc da dl):=fun h o H δ σ S R Q he hs q c=>
 ha h o H δ σ S _ _ he hs q fun o1 H1 S1 x v e1 s1 x1 d1=>hb h o1 H1 δ σ S1 _ _ (he.mono e1) s1 d1 fun o2 H2 S2 xs vs e2 s2 x2 d2=>
  c o2 H2 S2 (x::xs) (v::vs) (e1.trans e2) s2 ⟨v,vs,rfl,x1.mono e2,x2⟩ d2
theorem bR{r:List V->Hp->VK->Prop}{rd:List XV->Sto->RX->Prop}(hr:RC r rd)(ha:RA tl dl):RE (tCB r tl) (dCB rd dl):=fun h o H δ σ S R Q he hs q c=>
 ha h o H δ σ S _ _ he hs q fun o1 H1 S1 xs vs e1 s1 x1 d1=>hr h o1 H1 S1 xs vs R Q s1 x1 d1 (c.pre e1)
theorem bL(ha:RA tl dl):RE (vM tl) (aL dl):=fun h o H δ σ S R Q he hs q c=>
 ha h o H δ σ S _ _ he hs q fun o1 H1 S1 xs vs e1 s1 x1 ⟨ds,e,hl,d1⟩=>by
  have l:=tL x1 (j6 e);exact⟨by rw[l.length];exact lz (small1000 hl),lZ s1 l (c.pre e1) d1⟩
theorem tO(ha:RA tl dl):RE (mY tl) (dY dl):=fun h o H δ σ S R Q he hs q c=>
 ha h o H δ σ S _ _ he hs q fun o1 H1 S1 xs vs e1 s1 x1 ⟨ds,e,hl,d1⟩=>by
  have l:=tL x1 (j6 e);exact⟨by rw[l.length];exact lz (small1000 hl),gX s1 l (c.pre e1) d1⟩
theorem C2(ha:RA tl dl):RE (mY tl) (dS dl):=fun h o H δ σ S R Q he hs q c=>
 ha h o H δ σ S _ _ he hs q fun o1 H1 S1 xs vs e1 s1 x1 ⟨ds,e,hl,d1⟩=>by
  have l:=tL x1 (j6 e);exact⟨by rw[l.length];exact lz (small1000 hl),JJ s1 l (c.pre e1) d1⟩
def dB(a:DE):DT:=fun δ S R=>a δ S fun x S1=>asB x fun b=>R b S1
def aZ(a:DT):DT:=fun δ S R=>a δ S fun b S1=>R (!b) S1
def fG(a b:DT):DT:=fun δ S R=>a δ S fun x S1=>if x=true then b δ S1 R else R false S1
def dOr(a b:DT):DT:=fun δ S R=>a δ S fun x S1=>if x=true then R true S1 else b δ S1 R
def eC(a b:DE):DE:=fun δ S R=>a δ S fun x S1=>asB x fun c=>if c=true then b δ S1 R else R (.d (.bool false)) S1
def i7(a b:DE):DE:=fun δ S R=>a δ S fun x S1=>asB x fun c=>if c=true then R (.d (.bool true)) S1 else b δ S1 R
def h9(a:DE):DE:=fun δ S R=>a δ S fun x S1=>asB x fun c=>R (.d (.bool (!c))) S1
def dIf(c:DT)(a b:DE):DE:=fun δ S R=>c δ S fun x S1=>if x=true then a δ S1 R else b δ S1 R
theorem eL(ha:RE ta da):RT (tQ ta) (dB da):=fun h o H δ σ S R Q he hs q c=>
 ha h o H δ σ S _ _ he hs q fun o1 H1 S1 x v e1 s1 x1 d1=>by
  replace d1:=iZ d1;obtain⟨b,rfl,d1⟩:=d1;exact⟨b,eE x1,c o1 H1 S1 b e1 s1 d1⟩
theorem i8(ha:RT tt dt):RT (B2 tt) (aZ dt):=fun h o H δ σ S R Q he hs q c=>
 ha h o H δ σ S _ _ he hs q fun o1 H1 S1 b e1 s1 d1=>c o1 H1 S1 _ e1 s1 d1
theorem uW(ha:RT tt dt)(hb:RT tu du):RT (C7 tt tu) (fG dt du):=fun h o H δ σ S R Q he hs q c=>
 ha h o H δ σ S _ _ he hs q fun o1 H1 S1 b e1 s1 d1=>by
  cases b with
  |true=>exact eI (hb h o1 H1 δ σ S1 R Q (he.mono e1) s1 (by simpa using d1) fun o2 H2 S2 b e2=>c o2 H2 S2 b (e1.trans e2))
  |false=>exact eP (c o1 H1 S1 false e1 s1 (by simpa using d1))
theorem lC(ha:RT tt dt)(hb:RT tu du):RT (tOr tt tu) (dOr dt du):=fun h o H δ σ S R Q he hs q c=>
 ha h o H δ σ S _ _ he hs q fun o1 H1 S1 b e1 s1 d1=>by
  cases b with
  |false=>exact eP (hb h o1 H1 δ σ S1 R Q (he.mono e1) s1 (by simpa using d1) fun o2 H2 S2 b e2=>c o2 H2 S2 b (e1.trans e2))
  |true=>exact eI (c o1 H1 S1 true e1 s1 (by simpa using d1))
theorem Ab(ha:RE ta da)(hb:RE tb db):RE (CA ta tb) (eC da db):=fun h o H δ σ S R Q he hs q c=>
 ha h o H δ σ S _ _ he hs q fun o1 H1 S1 x v e1 s1 x1 d1=>by
  replace d1:=iZ d1;obtain⟨b,rfl,d1⟩:=d1;refine⟨b,eE x1,?_⟩;cases b with
  |true=>exact eI (hb h o1 H1 δ σ S1 R Q (he.mono e1) s1 (by simpa using d1) (c.pre e1))
  |false=>exact eP (c o1 H1 S1 _ _ e1 s1 (xB false) (by simpa using d1))
theorem Ax(ha:RE ta da)(hb:RE tb db):RE (BD ta tb) (i7 da db):=fun h o H δ σ S R Q he hs q c=>
 ha h o H δ σ S _ _ he hs q fun o1 H1 S1 x v e1 s1 x1 d1=>by
  replace d1:=iZ d1;obtain⟨b,rfl,d1⟩:=d1;refine⟨b,eE x1,?_⟩;cases b with
  |false=>exact eP (hb h o1 H1 δ σ S1 R Q (he.mono e1) s1 (by simpa using d1) (c.pre e1))
  |true=>exact eI (c o1 H1 S1 _ _ e1 s1 (xB true) (by simpa using d1))
theorem GK(ha:RE ta da):RE (ES ta) (h9 da):=fun h o H δ σ S R Q he hs q c=>
 ha h o H δ σ S _ _ he hs q fun o1 H1 S1 x v e1 s1 x1 d1=>by
  replace d1:=iZ d1;obtain⟨b,rfl,d1⟩:=d1;exact⟨b,eE x1,c o1 H1 S1 _ _ e1 s1 (xB _) d1⟩
def f7(rd q:D2)(a b e:DE):DE:=fun δ S R=>a δ S fun x S1=>b δ S1 fun y S2=>rd x y S2 fun z S3=>asB z fun k=>if k=true then e δ S3 fun u S4=>q y u S4 R else R (.d (.bool false)) S3
theorem wF{r r':R2}{rd aa:D2}(hr:RO r rd)(ab:RO r' aa)(ha:RE ta da)(hb:RE tb db)(hc:RE tc dc):RE (Ef r r' ta tb tc) (f7 rd aa da db dc):=fun h o H δ σ S R Q he hs q c=>
 ha h o H δ σ S _ _ he hs q fun o1 H1 S1 x v e1 s1 x1 d1=>hb h o1 H1 δ σ S1 _ _ (he.mono e1) s1 d1 fun o2 H2 S2 y u e2 s2 y2 d2=>
  hr h o2 H2 S2 x y v u _ _ s2 (x1.mono e2) y2 d2 fun o3 H3 S3 z w e3 s3 z3 d3=>by
   replace d3:=iZ d3;obtain⟨b,rfl,d3⟩:=d3;refine⟨b,eE z3,?_⟩;cases b with
   |false=>exact eP (c o3 H3 S3 _ _ ((e1.trans e2).trans e3) s3 (xB false) (by simpa using d3))
   |true=>exact eI (hc h o3 H3 δ σ S3 _ _ (((he.mono e1).mono e2).mono e3) s3 (by simpa using d3) fun o4 H4 S4 k w' e4 s4 k4 d4=>ab h o4 H4 S4 y k u w' R Q s4 ((y2.mono e3).mono e4) k4 d4 (c.pre (((e1.trans e2).trans e3).trans e4)))
end
def dI(C:Int->Int->Prop)(g:Int->Int->Int):D2:=fun x y S R=>asI x fun i=>asI y fun j=>C i j/\R (.d (.int (g i j))) S
def dI0(g:Int->Int->Int):D2:=fun x y S R=>asI x fun i=>asI y fun j=>R (.d (.int (g i j))) S
def dIb(g:Int->Int->Bool):D2:=fun x y S R=>asI x fun i=>asI y fun j=>R (.d (.bool (g i j))) S
def dUI(g:Int->Int):XV->Sto->RX->Prop:=fun x S R=>asI x fun i=>R (.d (.int (g i))) S
def cE:D2:=fun x y S R=>∃d,bK S x=some d/\∃e,bK S y=some e/\gj d=true/\gj e=true/\R (.d (.bool (kh d e))) S
def eO:D2:=fun x y S R=>∃d,bK S x=some d/\∃e,bK S y=some e/\gj d=true/\gj e=true/\R (.d (.bool (!PyData.eqv d e))) S
def rX:D2:=fun x _ S R=>asD x fun d=>R (.d (.bool (jJ d))) S
def lB:D2:=fun x _ S R=>asD x fun d=>R (.d (.bool (!jJ d))) S
def He:D2:=fun x y S R=>asT x fun ds=>asI y fun i=>∃d,atI ds i=some d/\R (.d d) S
def IF:D2:=fun x y S R=>asL S x fun ds=>asI y fun i=>∃d,atI ds i=some d/\R (.d d) S
def Jv:D2:=fun x y S R=>asL S x fun ds=>asL S y fun es=>ds.length+es.length<=1000/\R (.d (.list (ds++es))) S
def J7:D2:=fun x y S R=>asT x fun ds=>asT y fun es=>ds≠[]/\ds.length+es.length<=1000/\R (.d (.tuple (ds++es))) S
section
theorem tN{C:Int->Int->Prop}{g:Int->Int->Int}:RO (rI C fun i j=>.int (g i j)) (dI C g):=fun h o H S x y v u R Q hs hx hy q c=>by
 replace q:=bM q;obtain⟨i,rfl,q⟩:=q;replace q:=bM q;obtain⟨j,rfl,hc,q⟩:=q;exact⟨i,j,bQ hx,bQ hy,hc,c o H S _ _ Ex.refl hs (xI _) q⟩
theorem AE{g:Int->Int->Int}:RO (rI0 fun i j=>.int (g i j)) (dI0 g):=fun h o H S x y v u R Q hs hx hy q c=>by
 replace q:=bM q;obtain⟨i,rfl,q⟩:=q;replace q:=bM q;obtain⟨j,rfl,q⟩:=q;exact⟨i,j,bQ hx,bQ hy,c o H S _ _ Ex.refl hs (xI _) q⟩
theorem gJ{g:Int->Int->Bool}:RO (rI0 fun i j=>.bl (g i j)) (dIb g):=fun h o H S x y v u R Q hs hx hy q c=>by
 replace q:=bM q;obtain⟨i,rfl,q⟩:=q;replace q:=bM q;obtain⟨j,rfl,q⟩:=q;exact⟨i,j,bQ hx,bQ hy,c o H S _ _ Ex.refl hs (xB _) q⟩
theorem rB{g:Int->Int}:RU (rU fun i=>.int (g i)) (dUI g):=fun h o H S x v R Q hs hx q c=>by
 replace q:=bM q;obtain⟨i,rfl,q⟩:=q;exact⟨i,bQ hx,c o H S _ _ Ex.refl hs (xI _) q⟩
theorem GU:RO BK cE:=fun h o H S x y v u R Q hs hx hy q c=>by
 obtain⟨d,q1,e,q2,q3,q4,q⟩:=q;exact⟨d,e,gL hs q1 hx,gL hs q2 hy,q3,q4,c o H S _ _ Ex.refl hs (xB _) q⟩
theorem yI:RO FH eO:=fun h o H S x y v u R Q hs hx hy q c=>by
 obtain⟨d,q1,e,q2,q3,q4,q⟩:=q;exact⟨d,e,gL hs q1 hx,gL hs q2 hy,q3,q4,c o H S _ _ Ex.refl hs (xB _) q⟩
theorem KM{ta:TE}{da:DE}(ha:RE ta da):RE (tOp Dm ta (tC .non)) (dOp lB da (dC .none)):=fun h o H δ σ S R Q he hs q c=>
 ha h o H δ σ S _ _ he hs q fun o1 H1 S1 x v e1 s1 x1 d1=>by
  replace d1:=iN d1;obtain⟨d,rfl,d1⟩:=d1;have e:=JT (show Has _ d v from x1);exact⟨rfl,by rw[e];exact c o1 H1 S1 _ _ e1 s1 (xB _) d1⟩
theorem HasL.atI{H:Hp}{ds:List bt}{vs:List V}{i:Int}{d:bt}(l:HasL H ds vs)(e:L2.atI ds i=some d):∃v,L2.atI vs i=some v/\Has H d v:=by
 unfold L2.atI at e ⊢;rw[l.length];cases hn:ixN ds.length i with
 |none=>rw[hn]at e;cases e
 |some j=>
  rw[hn]at e;exact l.get (show ds[j]?=some d from e)
theorem M9{K:fe}:RO (wK K) He:=fun h o H S x y v u R Q hs hx hy q c=>by
 replace q:=iH q;obtain⟨ds,rfl,q⟩:=q;replace q:=bM q;obtain⟨i,rfl,d,e,q⟩:=q;obtain⟨a,vs,rfl,ea,l⟩:=d9 hx;obtain⟨w,ew,hw⟩:=l.atI e;exact⟨a,vs,i,w,rfl,bQ hy,.of ea,ew,c o H S (.d d) w Ex.refl hs hw q⟩
theorem Ad{K:fe}:RO (xP K) IF:=fun h o H S x y v u R Q hs hx hy q c=>by
 obtain⟨ds,e0,q⟩:=q;replace q:=bM q;obtain⟨i,rfl,d,e,q⟩:=q;obtain⟨a,vs,rfl,ea,l⟩:=cA hs e0 hx;obtain⟨w,ew,hw⟩:=l.atI e;exact⟨a,vs,i,w,rfl,bQ hy,.of ea,ew,c o H S (.d d) w Ex.refl hs hw q⟩
theorem J0:RO qH Jv:=fun h o H S x y v u R Q hs hx hy q c=>by
 obtain⟨ds,e0,es,e1,hl,q⟩:=q;obtain⟨a,vs,rfl,ea,la⟩:=cA hs e0 hx;obtain⟨b,us,rfl,eb,lb⟩:=cA hs e1 hy;exact⟨a,b,vs,us,rfl,rfl,ea,eb,by rw[la.length,lb.length];exact lz (small1000 hl),gX hs (la.append lb) c q⟩
theorem GX{K:fe}:RO (xA K) J7:=fun h o H S x y v u R Q hs hx hy q c=>by
 replace q:=iH q;obtain⟨ds,rfl,q⟩:=q;replace q:=iH q;obtain⟨es,rfl,hn,hl,q⟩:=q;obtain⟨a,vs,rfl,ea,la⟩:=d9 hx;obtain⟨b,us,rfl,eb,lb⟩:=d9 hy;refine⟨a,b,vs,us,rfl,rfl,.of ea,.of eb,fun z=>?_,by rw[la.length,lb.length];exact lz (small1000 hl),fun z=>?_,fun _=>lZ hs (la.append lb) c q⟩
 ·subst z;have:=la.length;exact hn (ju this.symm)
 ·subst z;have e:es=[]:=ju lb.length.symm;subst e;rw[kw]at q;exact c o H S (.d (.tuple ds)) _ Ex.refl hs hx q
end
abbrev DO:=XE->Sto->(Option Int->Sto->Prop)->Prop
def RP(t:TO)(dt:DO):Prop:=∀(h o:List Addr) (H:Hp) (δ:XE) (σ:St) (S:Sto) (R:Option Int->Sto->Prop) (Q:Option Int->Hp->Prop),RepE h o H δ σ->RepS h o H S->dt δ S R ->
 (∀o' H' S' b,Ex o H o' H'->RepS h o' H' S'->R b S'->Q b H')->t σ H Q
def eX:DO:=fun _ S R=>R none S
def fA(a:DE):DO:=fun δ S R=>a δ S fun x S1=>asI x fun i=>R (some i) S1
theorem nW:RP EB eX:=fun h o H δ σ S R Q he hs q c=>c o H S none Ex.refl hs q
theorem rG{t:TE}{da:DE}(ha:RE t da):RP (l9 t) (fA da):=fun h o H δ σ S R Q he hs q c=>
 ha h o H δ σ S _ _ he hs q fun o1 H1 S1 x v e1 s1 x1 d1=>by
  replace d1:=bM d1;obtain⟨i,rfl,d1⟩:=d1;exact⟨i,bQ x1,c o1 H1 S1 _ e1 s1 d1⟩
abbrev D3:=XV->Option Int->Option Int->Sto->RX->Prop
def RL(r:V->Option Int->Option Int->Hp->VK->Prop)(rd:D3):Prop:=∀(h o:List Addr) (H:Hp) (S:Sto) (x:XV) (v:V) (a b:Option Int) (R:RX) (Q:VK),RepS h o H S->HasX h o H x v->rd x a b S R->Cn h o H R Q->r v a b H Q
def dSl(rd:D3)(e:DE)(a b:DO):DE:=fun δ S R=>e δ S fun x S1=>a δ S1 fun i S2=>b δ S2 fun j S3=>rd x i j S3 R
theorem nQ{r:V->Option Int->Option Int->Hp->VK->Prop}{rd:D3}{te:TE}{de:DE}{ta tb:TO}{da db:DO}(hr:RL r rd)(z:RE te de)(ha:RP ta da)(hb:RP tb db):RE (tSl r te ta tb) (dSl rd de da db):=fun h o H δ σ S R Q he hs q c=>
 z h o H δ σ S _ _ he hs q fun o1 H1 S1 x v e1 s1 x1 d1=>ha h o1 H1 δ σ S1 _ _ (he.mono e1) s1 d1 fun o2 H2 S2 i e2 s2 d2=>hb h o2 H2 δ σ S2 _ _ ((he.mono e1).mono e2) s2 d2 fun o3 H3 S3 j e3 s3 d3=>
  hr h o3 H3 S3 x v i j R Q s3 ((x1.mono e2).mono e3) d3 (c.pre ((e1.trans e2).trans e3))
def LO:D3:=fun x i j S R=>asL S x fun ds=>R (.d (.list (b9 ds i j))) S
def Jk:D3:=fun x i j S R=>asT x fun ds=>¬(HT.sIx ds.length 0 i=0/\HT.sIx ds.length ds.length j=ds.length)/\R (.d (.tuple (b9 ds i j))) S
theorem Fa{K:fe}:RL (nG K) LO:=fun h o H S x v a b R Q hs hx q c=>by
 obtain⟨ds,e0,q⟩:=q;obtain⟨p,vs,rfl,ea,l⟩:=cA hs e0 hx;exact⟨p,vs,rfl,.of ea,gX hs (l.cut a b) c q⟩
theorem Jb{K:fe}:RL (AF K) Jk:=fun h o H S x v a b R Q hs hx q c=>by
 replace q:=iH q;obtain⟨ds,rfl,hn,q⟩:=q;obtain⟨p,vs,rfl,ea,l⟩:=d9 hx;exact⟨p,vs,rfl,.of ea,by rw[l.length];exact hn,lZ hs (l.cut a b) c q⟩
def asQ(S:Sto):XV->Option (List bt)
 | .d (.tuple ds)=>some ds
 | .d (.list ds)=>some ds
 | .l k=>S[k]?
 |_=>none
theorem A5{h o:List Addr}{H:Hp}{S:Sto}{x:XV}{v:V}{ds:List bt}(r:RepS h o H S)(e:asQ S x=some ds)(q:HasX h o H x v):∃a vs,v=.ref a/\(H a=some (.tup vs)\/H a=some (.lst vs))/\HasL (vx h o H) ds vs:=by
 unfold asQ at e;split at e
 ·cases e;obtain⟨a,vs,e,q,l⟩:=d9 q;exact⟨a,vs,e,.inl q,l⟩
 ·cases e;obtain⟨a,vs,e,q,l⟩:=cA (x:=.d (.list ds)) (ds:=ds) r rfl q;exact⟨a,vs,e,.inr q,l⟩
 ·rename_i k;obtain⟨a,vs,e,q,l⟩:=cA (x:=.l k) r e q;exact⟨a,vs,e,.inr q,l⟩
 ·cases e
def arg1:List XV->(XV->Prop)->Prop
 | [x],k=>k x
 |_,_=>False
def arg2:List XV->(XV->XV->Prop)->Prop
 | [x,y],k=>k x y
 |_,_=>False
theorem cB{xs:List XV}{k:XV->Prop}(h:arg1 xs k):∃x,xs=[x]/\k x:=by
 unfold arg1 at h;split at h
 ·exact⟨_,rfl,h⟩
 ·exact h.elim
theorem yB{xs:List XV}{k:XV->XV->Prop}(h:arg2 xs k):∃x y,xs=[x,y]/\k x y:=by
 unfold arg2 at h;split at h
 ·exact⟨_,_,rfl,h⟩
 ·exact h.elim
theorem hxs1{h o:List Addr}{H:Hp}{x:XV}{vs:List V}(q:HasXs h o H [x] vs):∃v,vs=[v]/\HasX h o H x v:=by
 obtain⟨v,r,e,hx,hr⟩:=q;cases hr;exact⟨v,e,hx⟩
theorem hxs2{h o:List Addr}{H:Hp}{x y:XV}{vs:List V}(q:HasXs h o H [x,y] vs):∃v u,vs=[v,u]/\HasX h o H x v/\HasX h o H y u:=by
 obtain⟨v,r,e,hx,q⟩:=q;obtain⟨u,e',hy⟩:=hxs1 q;subst e';exact⟨v,u,e,hx,hy⟩
def w4:XV->(String->Prop)->Prop
 | .o v,k=>∃c,v=.ty c/\k c
 |_,_=>False
def xE:XV->(Int->Prop)->Prop
 | .d d,k=>match d with
  | .int i=>k i
  | .bool b=>k (if b then 1 else 0)
  |_=>False
 |_,_=>False
theorem GB{x:XV}{k:String->Prop}(h:w4 x k):∃c,x=.o (.ty c)/\k c:=by
 cases x with
 |o v=>
  obtain⟨c,rfl,h⟩:=h;exact⟨c,rfl,h⟩
 |d d=>exact h.elim
 |l j=>exact h.elim
 |x _ _=>exact h.elim
 |p _ _=>exact h.elim
theorem GZ{x:XV}{k:Int->Prop}(h:xE x k):(∃i,x=.d (.int i)/\k i)\/∃b,x=.d (.bool b)/\k (if b then 1 else 0):=by
 cases x with
 |d d=>
  cases d with
  |int i=>exact .inl ⟨i,rfl,h⟩
  |bool b=>exact .inr ⟨b,rfl,h⟩
  |_=>exact h.elim
 |_=>exact h.elim
def Kn:List XV->Sto->RX->Prop:=fun xs S R=>arg1 xs fun x=>∃ds,asQ S x=some ds/\R (.d (.int ds.length)) S
theorem vL{K:fe}:RC (yM K) Kn:=fun h o H S xs vs R Q hs hx q c=>by
 obtain⟨x,rfl,ds,hd,q1⟩:=cB q;obtain⟨v,rfl,aa⟩:=hxs1 hx;obtain⟨a,ws,rfl,ea,l⟩:=A5 hs hd aa;refine⟨a,ws,rfl,ea.elim (fun z=>.inr (.of z)) (fun z=>.inl (.of z)),?_⟩;rw[l.length];exact c o H S _ _ Ex.refl hs (xI _) q1
def cQ:List XV->Sto->RX->Prop:=fun xs S R=>arg2 xs fun x y=>w4 y fun cl=>∃d,bK S x=some d/\cl∈iD/\R (.d (.bool (kI d cl))) S
theorem HE:RC AT cQ:=fun h o H S xs vs R Q hs hx q c=>by
 obtain⟨x,y,rfl,q1⟩:=yB q;obtain⟨cl,rfl,d,hd,hc,q2⟩:=GB q1;obtain⟨v,u,rfl,z,hu⟩:=hxs2 hx;cases hu;exact IV (gL hs hd z) hc (c o H S _ _ Ex.refl hs (xB _) q2)
def iV:List XV->Sto->RX->Prop:=fun xs S R=>arg1 xs fun x=>asI x fun i=>R (.d (.int (if i<0 then -i else i))) S
theorem IC:RC (fun xs H Q=>∃i,xs=[.int i]/\Q (.int (if i<0 then -i else i)) H) iV:=fun h o H S xs vs R Q hs hx q c=>by
 obtain⟨x,rfl,q1⟩:=cB q;obtain⟨v,rfl,z⟩:=hxs1 hx;obtain⟨i,rfl,q2⟩:=bM q1;exact⟨i,by rw[bQ z],c o H S _ _ Ex.refl hs (xI _) q2⟩
def i4:List XV->Sto->RX->Prop:=fun xs S R=>arg1 xs fun x=>xE x fun i=>R (.d (.int i)) S
theorem G2:RC (fun xs H Q=>(∃i,xs=[.int i]/\Q (.int i) H)\/∃k,xs=[.bl k]/\Q (.int (if k then 1 else 0)) H) i4:=fun h o H S xs vs R Q hs hx q c=>by
 obtain⟨x,rfl,q1⟩:=cB q;obtain⟨v,rfl,z⟩:=hxs1 hx;rcases GZ q1 with ⟨i,rfl,q2⟩|⟨b,rfl,q2⟩
 ·exact .inl ⟨_,by rw[bQ z],c o H S _ _ Ex.refl hs (xI _) q2⟩
 ·exact .inr ⟨_,by rw[eE z],c o H S _ _ Ex.refl hs (xI _) q2⟩
def dI2(g:Int->Int->Int):List XV->Sto->RX->Prop:=fun xs S R=>arg2 xs fun x y=>asI x fun i=>asI y fun j=>R (.d (.int (g i j))) S
theorem Jp{g:Int->Int->Int}:RC (fun xs H Q=>∃i j,xs=[.int i,.int j]/\Q (.int (g i j)) H) (dI2 g):=fun h o H S xs vs R Q hs hx q c=>by
 obtain⟨x,y,rfl,q1⟩:=yB q;obtain⟨v,u,rfl,z,hu⟩:=hxs2 hx;obtain⟨i,rfl,q2⟩:=bM q1;obtain⟨j,rfl,q3⟩:=bM q2;exact⟨i,j,by rw[bQ z,bQ hu],c o H S _ _ Ex.refl hs (xI _) q3⟩
def hG:List XV->Sto->RX->Prop:=fun xs S R=>arg1 xs fun x=>∃ds,asQ S x=some ds/\R (.d (.tuple ds)) S
theorem wN{K:fe}:RC (fun xs H Q=>∃p ys,xs=[.ref p]/\((SqL K H p ys/\∀l,H l=none->Q (.ref l) (upd H l (.tup ys)))\/(SqT K H p ys/\Q (.ref p) H))) hG:=fun h o H S xs vs R Q hs hx q c=>by
 obtain⟨x,rfl,ds,hd,q1⟩:=cB q;obtain⟨v,rfl,aa⟩:=hxs1 hx;obtain⟨a,ws,rfl,ea,l⟩:=A5 hs hd aa;refine⟨a,ws,rfl,ea.elim (fun z=>.inr ⟨.of z,?_⟩) (fun z=>.inl ⟨.of z,lZ hs l c q1⟩)⟩;have hh:HasX h o H (.d (.tuple ds)) (.ref a):=by
  unfold asQ at hd;split at hd
  ·cases hd;exact aa
  ·obtain⟨a',us,e1,e2,_⟩:=cA (x:=.d (.list _)) hs rfl aa;cases e1;rw[z]at e2;cases e2
  ·rename_i k;obtain⟨a',us,e1,e2,_⟩:=cA (x:=.l k) hs hd aa;cases e1;rw[z]at e2;cases e2
  ·cases hd
 exact c o H S _ _ Ex.refl hs hh q1
def k6:List XV->Sto->RX->Prop:=fun xs S R=>arg1 xs fun x=>∃ds,asQ S x=some ds/\R (.d (.list ds)) S
theorem GO{K:fe}:RC (fun xs H Q=>∃p ys,xs=[.ref p]/\(SqL K H p ys\/SqT K H p ys)/\∀l,H l=none->Q (.ref l) (upd H l (.lst ys))) k6:=fun h o H S xs vs R Q hs hx q c=>by
 obtain⟨x,rfl,ds,hd,q1⟩:=cB q;obtain⟨v,rfl,aa⟩:=hxs1 hx;obtain⟨a,ws,rfl,ea,l⟩:=A5 hs hd aa;exact⟨a,ws,rfl,ea.elim (fun z=>.inr (.of z)) (fun z=>.inl (.of z)),gX hs l c q1⟩
theorem iX{H:Hp}:∀{ns:List Int}{vs:List V},HasL H (ns.map cq) vs->vs=ns.map V.int
 | [],vs,h=>zx.mp h
 |n::ns,vs,h=>by
  obtain⟨v,r,rfl,h1,h2⟩:=zq.mp h;rw[eY.mp h1,iX h2];rfl
def dBM(rd:XV->List XV->Sto->RX->Prop)(e:DE)(a:DA):DE:=fun δ S R=>e δ S fun x S1=>∃k,x=.l k/\k<S1.length/\a δ S1 fun xs S2=>rd x xs S2 R
def j3(rd:XV->List XV->Sto->RX->Prop)(e:DE):DE:=fun δ S R=>e δ S fun x S1=>∃k,x=.l k/\k<S1.length/\rd x [] S1 R
def RM(r:V->List V->Hp->VK->Prop)(rd:XV->List XV->Sto->RX->Prop):Prop:=∀(h o:List Addr) (H:Hp) (S:Sto) (x:XV) (v:V) (xs:List XV) (vs:List V) (R:RX) (Q:VK),RepS h o H S->HasX h o H x v->HasXs h o H xs vs->rd x xs S R->Cn h o H R Q->r v vs H Q
theorem Fp{K:fe}{H:Hp}{a:Addr}{vs:List V}(e:H a=some (.lst vs)):tyV K "list" (.ref a) H:=.inl ⟨rfl,vs,.of e⟩
theorem Bg{h o:List Addr}{H:Hp}{S:Sto}{k:Nat}{v:V}(hs:RepS h o H S)(hk:k<S.length)(hx:HasX h o H (.l k) v):∃a vs,v=.ref a/\H a=some (.lst vs):=by
 obtain⟨a,e,rfl⟩:=hx;obtain⟨vs,e2,_⟩:=hs.cont k a _ e (cw hk);exact⟨a,vs,rfl,e2⟩
theorem tF{K:fe}{r:V->List V->Hp->VK->Prop}{rd:XV->List XV->Sto->RX->Prop}{te:TE}{de:DE}{tl:TA}{dl:DA}(hr:RM r rd)(z:RE te de)(ha:RA tl dl):RE (tBM K "list" r te tl) (dBM rd de dl):=fun h o H δ σ S R Q he hs q c=>
 z h o H δ σ S _ _ he hs q fun o1 H1 S1 x v e1 s1 x1 ⟨k,ek,hk,d1⟩=>by
  subst ek;obtain⟨a,ws,rfl,ea⟩:=Bg s1 hk x1;exact⟨Fp ea,ha h o1 H1 δ σ S1 _ _ (he.mono e1) s1 d1 fun o2 H2 S2 xs vs e2 s2 x2 d2=>hr h o2 H2 S2 (.l k) _ xs vs R Q s2 (x1.mono e2) x2 d2 (c.pre (e1.trans e2))⟩
theorem Gf{K:fe}{r:V->List V->Hp->VK->Prop}{rd:XV->List XV->Sto->RX->Prop}{te:TE}{de:DE}(hr:RM r rd)(z:RE te de):RE (F0 K "list" r te) (j3 rd de):=fun h o H δ σ S R Q he hs q c=>
 z h o H δ σ S _ _ he hs q fun o1 H1 S1 x v e1 s1 x1 ⟨k,ek,hk,d1⟩=>by
  subst ek;obtain⟨a,ws,rfl,ea⟩:=Bg s1 hk x1;exact⟨Fp ea,hr h o1 H1 S1 (.l k) _ [] [] R Q s1 x1 rfl d1 (c.pre e1)⟩
def eK:XV->List XV->Sto->RX->Prop:=fun x xs S R=>∃k,x=.l k/\∃ds,S[k]?=some ds/\arg1 xs fun y=>asD y fun d=>ds.length<1000/\R (.d .none) (S.set k (ds++[d]))
theorem Cq:RM Bq eK:=fun h o H S x v xs vs R Q hs hx z q c=>by
 obtain⟨k,rfl,ds,e,q1⟩:=q;obtain⟨y,rfl,q2⟩:=cB q1;obtain⟨d,rfl,hl,q3⟩:=iN q2;obtain⟨a,ea,rfl⟩:=hx;obtain⟨u,rfl,hu⟩:=hxs1 z;obtain⟨ws,ew,l⟩:=hs.cont k a ds ea e;exact⟨a,ws,u,rfl,rfl,ew,by rw[l.length];exact small1000 (lz hl),c o _ _ (.d .none) _ (Ex.upd ea) (hs.upd ea (l.append (zq.mpr ⟨u,[],rfl,hu,zx.mpr rfl⟩))) xN q3⟩
def kB:XV->List XV->Sto->RX->Prop:=fun x xs S R=>∃k,x=.l k/\∃ds,S[k]?=some ds/\arg1 xs fun y=>∃es,gZ S y=some es/\ds.length+es.length<=1000/\R (.d .none) (S.set k (ds++es))
theorem EF:RM Cf kB:=fun h o H S x v xs vs R Q hs hx z q c=>by
 obtain⟨k,rfl,ds,e,q1⟩:=q;obtain⟨y,rfl,es,ey,hl,q3⟩:=cB q1;obtain⟨a,ea,rfl⟩:=hx;obtain⟨u,rfl,hu⟩:=hxs1 z;obtain⟨ws,ew,l⟩:=hs.cont k a ds ea e;obtain⟨b,zs,rfl,eb,lb⟩:=cA hs ey hu;exact⟨a,b,ws,zs,rfl,rfl,ew,eb,by rw[l.length,lb.length];exact lz (small1000 hl),c o _ _ (.d .none) _ (Ex.upd ea) (hs.upd ea (l.append lb)) xN q3⟩
def ret0(S:Sto)(R:RX):RX:=fun y S'=>match y,S' with
 | .d d,[]=>R (.d d) S
 | .l 0,[ds]=>R (.l S.length) (S++[ds])
 |_,_=>False
def sZ(k:Nat)(S:Sto)(R:RX):RX:=fun y S'=>match y,S' with
 | .d d,[p]=>R (.d d) (S.set k p)
 | .l 1,[p,ds]=>R (.l S.length) (S.set k p++[ds])
 |_,_=>False
section
variable {h o:List Addr}{H:Hp}{S:Sto}{R:RX}{Q:VK}
theorem jA{h o h' o':List Addr}{H:Hp}(e:∀b,(b∈h'\/b∈o')↔(b∈h\/b∈o)):vx h' o' H=vx h o H:=by
 funext b;have q:∀u,vx h' o' H b=some u↔vx h o H b=some u:=fun u=>by
  rw[zE,zE];have:=e b;constructor
  ·rintro⟨a1,a2,a3⟩;exact⟨fun m=>(this.mpr (.inl m)).elim a1 a2,fun m=>(this.mpr (.inr m)).elim a1 a2,a3⟩
  ·rintro⟨a1,a2,a3⟩;exact⟨fun m=>(this.mp (.inl m)).elim a1 a2,fun m=>(this.mp (.inr m)).elim a1 a2,a3⟩
 cases e1:vx h' o' H b with
 |some u=>exact((q u).mp e1).symm
 |none=>
  cases e2:vx h o H b with
  |none=>rfl
  |some u=>rw[(q u).mpr e2]at e1;cases e1
theorem rep0(hs:RepS h o H S):RepS (h++o) [] H [] where
 len:=rfl
 nd:=lu
 dis:=fun a ha=>by cases ha
 hal:=fun b hb=>(mem_append.mp hb).elim (hs.hal b) (hs.oam b)
 cont:=fun k a ds e=>by simp at e
theorem hx0{d:bt}{v:V}(hx:HasX h o H (.d d) v):HasX (h++o) [] H (.d d) v:=by
 show Has (vx (h++o) [] H) d v;rw[jA (h:=h) (o:=o) fun b=>by simp];exact hx
theorem hx0'{d:bt}{v:V}(hx:HasX (h++o) [] H (.d d) v):HasX h o H (.d d) v:=by
 show Has (vx h o H) d v;rw[<- jA (h':=h++o) (o':=[]) (h:=h) (o:=o) fun b=>by simp];exact hx
theorem cn0(hs:RepS h o H S)(c:Cn h o H R Q):Cn (h++o) [] H (ret0 S R) Q:=fun o' H' S' y v e s' hy q=>by
 have sm:Same H (vx [] o' H'):=fun b u eb=>by
  obtain⟨a1,a2⟩:=e.kp b u yv eb;exact zE.mpr ⟨yv,a1,a2⟩
 have sH:Same H H':=fun b u eb=>(zE.mp (sm b u eb)).2.2;unfold ret0 at q;split at q
 ·have e0:o'=[]:=ju s'.len.symm;subst e0;exact c o H' S _ v (Ex.of_same sH) (hs.same sH) (hx0' hy) q
 ·rename_i ds;obtain⟨a,rfl⟩:∃a,o'=[a]:=List.length_eq_one_iff.mp s'.len.symm;obtain⟨a',ea,rfl⟩:=hy;cases ea;obtain⟨vs,ev,l⟩:=s'.cont 0 a ds rfl rfl;have na:a∉h++o:=s'.dis a yv;have hn:H a=none:=by
   cases eh:H a with
   |none=>rfl
   |some u=>exact absurd (e.kp a u yv eh).1 yv
  have e2:Ex o H (o++[a]) H':=⟨⟨[a],rfl⟩,fun b u hb eb=>by
   obtain⟨a1,a2⟩:=e.kp b u yv eb;exact⟨by simp only[uy,not_or];exact⟨hb,a1⟩,a2⟩⟩
  have aa:vx (h++o) [a] H'=vx h (o++[a]) H':=jA fun b=>by simp[or_assoc]
  rw[aa]at l;refine c (o++[a]) H' (S++[ds]) (.l S.length) _ e2 ⟨by simp[hs.len],lN hs.nd fun m=>na (fh _ m),fun b hb=>?_,fun b hb=>?_,fun k b es q1 q2=>?_⟩ ⟨a,by rw[hs.len,fv],rfl⟩ q
  ·rcases mem_append.mp hb with hb|hb
   ·exact hs.dis b hb
   ·rw[mem_singleton.mp hb];exact fun m=>na (cg _ m)
  ·obtain⟨u,eb⟩:=hs.hal b hb;exact⟨u,sH b _ eb⟩
  ·by_cases hk:k<o.length
   ·rw[gm hk]at q1;rw[gm (by rw[hs.len];exact hk)]at q2;obtain⟨ws,e3,l3⟩:=hs.cont k b es q1 q2;exact⟨ws,sH _ _ e3,l3.mono e2.vx⟩
   ·have z:k=o.length:=by
     obtain⟨q,_⟩:=List.getElem?_eq_some_iff.mp q1;rw[fu,iy]at q;omega
    subst z;rw[fv]at q1;rw[<- hs.len,fv]at q2;cases q1;cases q2;exact⟨vs,ev,l⟩
 ·exact q.elim
theorem pS{k:Nat}{a:Addr}{p:List bt}(hs:RepS h o H S)(ea:o[k]?=some a)(ep:S[k]?=some p):RepS (h++o.filter (fun b=>b≠a)) [a] H [p] where
 len:=rfl
 nd:=by simp
 dis:=fun b hb=>by
  rw[mem_singleton.mp hb];intro m;rcases mem_append.mp m with m|m
  ·exact hs.dis a (bw ea) m
  ·have:=(mem_filter.mp m).2;simp at this
 hal:=fun b hb=>(mem_append.mp hb).elim (hs.hal b) fun m=>hs.oam b (mem_filter.mp m).1
 cont:=fun j b ds e1 e2=>by
  cases j with
  |succ j=>simp at e1
  |zero=>
   cases e1;cases e2;obtain⟨vs,e3,l⟩:=hs.cont k a p ea ep;refine⟨vs,e3,?_⟩;rw[jA (h:=h) (o:=o) (mem_pen ea)];exact l
where
 mem_pen {h o:List Addr}{k:Nat}{a:Addr} (ea:o[k]?=some a) (b:Addr):(b∈h++o.filter (fun b=>b≠a)\/b∈[a])↔(b∈h\/b∈o):=by
  have ma:=bw ea;by_cases e:b=a
  ·subst e;simp[ma]
  ·simp[e]
theorem hxP{k:Nat}{a:Addr}{d:bt}{v:V}(ea:o[k]?=some a)(hx:HasX h o H (.d d) v):HasX (h++o.filter (fun b=>b≠a)) [a] H (.d d) v:=by
 show Has (vx _ _ H) d v;rw[jA (h:=h) (o:=o) (pS.mem_pen ea)];exact hx
theorem cnP{k:Nat}{a:Addr}{p:List bt}(hs:RepS h o H S)(ea:o[k]?=some a)(ep:S[k]?=some p)(c:Cn h o H R Q):Cn (h++o.filter (fun b=>b≠a)) [a] H (sZ k S R) Q:=fun o' H' S' y v e s' hy q=>by
 have ma:=bw ea;have hk:k<o.length:=(List.getElem?_eq_some_iff.mp ea).1;unfold sZ at q;split at q
 ·rename_i d p';obtain⟨r,rfl⟩:=e.pre;have er:r=[]:=by
   have:=s'.len;simp at this;exact this
  subst er;have ex:Ex o H o H':=⟨⟨[],yv⟩,fun b u hb eb=>⟨hb,(e.kp b u (fun m=>hb (by rw[mem_singleton.mp m];exact ma)) eb).2⟩⟩;obtain⟨vs,ev,l⟩:=s'.cont 0 a p' rfl rfl;have aa:vx (h++o.filter (fun b=>b≠a)) ([a]++[]) H'=vx h o H':=jA (pS.mem_pen ea);rw[aa]at l;refine c o H' (S.set k p') (.d d) v ex ⟨by simp[hs.len],hs.nd,hs.dis,fun b hb=>?_,fun j b es q1 q2=>?_⟩ (by
   have ab:Has (vx (h++o.filter (fun b=>b≠a)) ([a]++[]) H') d v:=hy;rw[aa]at ab;exact ab) q
  ·obtain⟨u,eb⟩:=hs.hal b hb;exact⟨u,(e.kp b _ (fun m=>hs.dis a ma (by rw[<- mem_singleton.mp m];exact hb)) eb).2⟩
  ·by_cases hj:j=k
   ·subst hj;rw[q1]at ea;cases ea;rw[pb (by rw[hs.len];exact hk)]at q2;cases q2;exact⟨vs,ev,l⟩
   ·rw[sn (kf hj)]at q2;obtain⟨ws,e3,l3⟩:=hs.cont j b es q1 q2;have ne:b≠a:=fun z=>hj (m9 hs.nd q1 (z▸ea));exact⟨ws,(e.kp b _ (by simp[ne]) e3).2,l3.mono ex.vx⟩
 ·rename_i p' ds;obtain⟨r,rfl⟩:=e.pre;obtain⟨a2,rfl⟩:∃a2,r=[a2]:=by
   have:=s'.len;simp at this;exact List.length_eq_one_iff.mp this
  obtain⟨b2,af,rfl⟩:=hy;cases af;obtain⟨vs,ev,l⟩:=s'.cont 0 a p' rfl rfl;obtain⟨ae,ac,l2⟩:=s'.cont 1 a2 ds rfl rfl;have n2:a2∉h++o.filter (fun b=>b≠a):=s'.dis a2 yv;have n3:a≠a2:=by
   have:=s'.nd;simp at this;exact this
  have n4:a2∉o:=fun m=>n2 (fh _ (mem_filter.mpr ⟨m,by simp[kf n3]⟩));have ex:Ex o H (o++[a2]) H':=⟨⟨[a2],rfl⟩,fun b u hb eb=>by
   obtain⟨z1,z2⟩:=e.kp b u (fun m=>hb (by rw[mem_singleton.mp m];exact ma)) eb;refine⟨?_,z2⟩;simp only[uy,not_or];exact⟨hb,fun m=>z1 (by simp at m ⊢;exact .inr m)⟩⟩
  have aa:vx (h++o.filter (fun b=>b≠a)) ([a]++[a2]) H'=vx h (o++[a2]) H':=jA fun b=>by
   have:=pS.mem_pen (h:=h) ea b;simp only[uy]at this ⊢;rw[<- or_assoc,this,or_assoc]
  rw[aa]at l l2;refine c (o++[a2]) H' (S.set k p'++[ds]) (.l S.length) _ ex ⟨by simp[hs.len],lN hs.nd n4,fun b hb=>?_,fun b hb=>?_,fun j b es q1 q2=>?_⟩ ⟨a2,by rw[hs.len,fv],rfl⟩ q
  ·rcases mem_append.mp hb with hb|hb
   ·exact hs.dis b hb
   ·rw[mem_singleton.mp hb];exact fun m=>n2 (cg _ m)
  ·obtain⟨u,eb⟩:=hs.hal b hb;exact⟨u,(e.kp b _ (fun m=>hs.dis a ma (by rw[<- mem_singleton.mp m];exact hb)) eb).2⟩
  ·by_cases hjo:j<o.length
   ·rw[gm hjo]at q1;rw[gm (by rw[length_set,hs.len];exact hjo)]at q2;by_cases hj:j=k
    ·subst hj;rw[q1]at ea;cases ea;rw[pb (by rw[hs.len];exact hk)]at q2;cases q2;exact⟨vs,ev,l⟩
    ·rw[sn (kf hj)]at q2;obtain⟨ws,e3,l3⟩:=hs.cont j b es q1 q2;have ne:b≠a:=fun z=>hj (m9 hs.nd q1 (z▸ea));exact⟨ws,(e.kp b _ (by simp[ne]) e3).2,l3.mono ex.vx⟩
   ·have ag:j=o.length:=by
     obtain⟨q,_⟩:=List.getElem?_eq_some_iff.mp q1;rw[fu,iy]at q;omega
    subst ag;rw[fv]at q1;rw[<- hs.len,<- length_set (i:=k) (a:=p'),fv]at q2;cases q1;cases q2;exact⟨ae,ac,l2⟩
 ·exact q.elim
end
structure DEnds where
 nx:XE->Sto->Prop
 rt:RX
 bk:XE->Sto->Prop:=fun _ _=>False
 ct:XE->Sto->Prop:=fun _ _=>False
abbrev DS:=DEnds->XE->Sto->Prop
abbrev DG:=XV->XE->Sto->(XE->Sto->Prop)->Prop
abbrev DGs:=List bt->XE->Sto->(XE->Sto->Prop)->Prop
def Nx(h o:List Addr)(H:Hp)(N:XE->Sto->Prop)(M:St->Hp->Prop):Prop:=∀o' H' δ' S' σ',Ex o H o' H'->RepE h o' H' δ' σ'->RepS h o' H' S'->N δ' S'->M σ' H'
theorem Nx.pre{h o o':List Addr}{H H':Hp}{N:XE->Sto->Prop}{M:St->Hp->Prop}(c:Nx h o H N M)(e:Ex o H o' H'):Nx h o' H' N M:=fun o2 H2 δ2 S2 σ2 e2=>c o2 H2 δ2 S2 σ2 (e.trans e2)
structure EOk(h o:List Addr)(H:Hp)(E:DEnds)(D:Ends):Prop where
 nx:Nx h o H E.nx D.nx
 rt:Cn h o H E.rt D.rt
 bk:Nx h o H E.bk D.bk
 ct:Nx h o H E.ct D.ct
theorem EOk.pre{h o o':List Addr}{H H':Hp}{E:DEnds}{D:Ends}(c:EOk h o H E D)(e:Ex o H o' H'):EOk h o' H' E D:=⟨c.nx.pre e,c.rt.pre e,c.bk.pre e,c.ct.pre e⟩
def RS(t:TS)(dt:DS):Prop:=∀(h o:List Addr) (H:Hp) (δ:XE) (σ:St) (S:Sto) (E:DEnds) (D:Ends),RepE h o H δ σ->RepS h o H S->dt E δ S->EOk h o H E D->t D σ H
def RG(t:TG)(dt:DG):Prop:=∀(h o:List Addr) (H:Hp) (δ:XE) (σ:St) (S:Sto) (x:XV) (v:V) (N:XE->Sto->Prop) (M:St->Hp->Prop),RepE h o H δ σ->RepS h o H S->HasX h o H x v->dt x δ S N->Nx h o H N M->t v σ H M
def RGs(t:TGs)(dt:DGs):Prop:=∀(h o:List Addr) (H:Hp) (δ:XE) (σ:St) (S:Sto) (ds:List bt) (vs:List V) (N:XE->Sto->Prop) (M:St->Hp->Prop),RepE h o H δ σ->RepS h o H S->HasL (vx h o H) ds vs->dt ds δ S N->Nx h o H N M->t vs σ H M
def zm(i:Nat):DG:=fun x δ S N=>N (δ.set i (some x)) S
def bH:DGs:=fun ds δ S N=>ds=[]/\N δ S
def hdD:List bt->(bt->List bt->Prop)->Prop
 |d::es,k=>k d es
 | [],_=>False
theorem HK{ds:List bt}{k:bt->List bt->Prop}(h:hdD ds k):∃d es,ds=d::es/\k d es:=by
 cases ds with
 |nil=>exact h.elim
 |cons d es=>exact⟨d,es,rfl,h⟩
theorem nF{d:bt}{es:List bt}{k:bt->List bt->Prop}:hdD (d::es) k=k d es:=rfl
def zO(g:DG)(r:DGs):DGs:=fun ds δ S N=>hdD ds fun d es=>g (.d d) δ S fun δ' S'=>r es δ' S' N
def bJ(n:Nat)(r:DGs):DG:=fun x δ S N=>asT x fun ds=>ds.length=n/\r ds δ S N
def iT(a b:DE):DG:=fun x δ S N=>a δ S fun y S1=>b δ S1 fun z S2=>asD x fun d=>∃k,y=.l k/\∃ds,S2[k]?=some ds/\asI z fun i=>∃j,ixN ds.length i=some j/\N δ (S2.set k (ds.set j d))
theorem zt{i:Nat}:RG (k9 i) (zm i):=fun h o H δ σ S x v N M he hs hx q c=>c o H _ S _ Ex.refl (he.set hx) hs q
theorem dZ:RGs BP bH:=fun h o H δ σ S ds vs N M he hs l ⟨e,q⟩ c=>by
 subst e;exact⟨zx.mp l,c o H δ S σ Ex.refl he hs q⟩
theorem zH{t:TG}{u:TGs}{g:DG}{r:DGs}(h1:RG t g)(h2:RGs u r):RGs (EV t u) (zO g r):=fun h o H δ σ S ds vs N M he hs l q0 c=>by
 obtain⟨d,es,rfl,q⟩:=HK q0;obtain⟨v,ws,rfl,hv,l⟩:=zq.mp l;exact⟨v,ws,rfl,h1 h o H δ σ S (.d d) v _ _ he hs hv q fun o1 H1 δ1 S1 σ1 e1 aa z q1=>h2 h o1 H1 δ1 σ1 S1 es ws N M aa z (l.mono e1.vx) q1 (c.pre e1)⟩
theorem dR{K:fe}{n:Nat}{t:TGs}{r:DGs}(h1:RGs t r):RG (E1 K n t) (bJ n r):=fun h o H δ σ S x v N M he hs hx q c=>by
 replace q:=iH q;obtain⟨ds,rfl,hn,q⟩:=q;obtain⟨a,vs,rfl,ea,l⟩:=d9 hx;exact⟨a,vs,rfl,.of ea,by rw[l.length];exact hn,h1 h o H δ σ S ds vs N M he hs l q c⟩
theorem HasL.setAt{H:Hp}:∀{ds:List bt}{vs:List V}{j:Nat}{d:bt}{v:V},HasL H ds vs->Has H d v->HasL H (ds.set j d) (vs.set j v)
 | [],vs,j,d,v,l,_=>by rw[zx.mp l];exact zx.mpr rfl
 |c::ds,vs,0,d,v,l,q=>by
  obtain⟨u,r,rfl,_,l⟩:=zq.mp l;exact zq.mpr ⟨v,r,rfl,q,l⟩
 |c::ds,vs,j+1,d,v,l,q=>by
  obtain⟨u,r,rfl,hu,l⟩:=zq.mp l;exact zq.mpr ⟨u,r.set j v,rfl,hu,HasL.setAt l q⟩
theorem Kp{ta tb:TE}{da db:DE}(ha:RE ta da)(hb:RE tb db):RG (FL ta tb FM) (iT da db):=fun h o H δ σ S x v N M he hs hx q c=>
 ha h o H δ σ S _ _ he hs q fun o1 H1 S1 y u e1 s1 y1 d1=>hb h o1 H1 δ σ S1 _ _ (he.mono e1) s1 d1 fun o2 H2 S2 z w e2 s2 z2 d0=>by
  obtain⟨d,rfl,k,rfl,ds,es,d2⟩:=iN d0;replace d2:=bM d2;obtain⟨i,rfl,j,ej,d2⟩:=d2;obtain⟨a,ea,rfl⟩:=y1.mono e2;obtain⟨ws,ew,l⟩:=s2.cont k a ds ea es;refine⟨a,ws,i,j,rfl,bQ z2,ew,by rw[l.length];exact ej,?_⟩;exact c o2 _ δ _ σ ((e1.trans e2).trans (Ex.upd ea)) (((he.mono e1).mono e2).mono (Ex.upd ea)) (s2.upd ea (l.setAt (hx.mono (e1.trans e2)))) d2
def aI:DS:=fun E δ S=>E.nx δ S
def aA(t u:DS):DS:=fun E δ S=>t { E with nx:=u E } δ S
def aE(e:DE)(g:DG):DS:=fun E δ S=>e δ S fun x S1=>g x δ S1 E.nx
def d8(e:DE):DS:=fun E δ S=>e δ S fun _ S1=>E.nx δ S1
def aC(e:DE):DS:=fun E δ S=>e δ S E.rt
def aQ(c:DT)(t u:DS):DS:=fun E δ S=>c δ S fun b S1=>if b=true then t E δ S1 else u E δ S1
def jE:DS:=fun E δ S=>E.ct δ S
section
variable {t u:TS}{dt du:DS}{te:TE}{de:DE}
theorem dL:RS vJ aI:=fun h o H δ σ S E D he hs q c=>c.nx o H δ S σ Ex.refl he hs q
theorem Ej:RS Ei jE:=fun h o H δ σ S E D he hs q c=>c.ct o H δ S σ Ex.refl he hs q
theorem zQ(ht:RS t dt)(hu:RS u du):RS (cV t u) (aA dt du):=fun h o H δ σ S E D he hs q c=>
 ht h o H δ σ S _ _ he hs q ⟨fun o1 H1 δ1 S1 σ1 e1 aa z q1=>hu h o1 H1 δ1 σ1 S1 E D aa z q1 (c.pre e1),c.rt,c.bk,c.ct⟩
theorem cU{g:TG}{dg:DG}(z:RE te de)(hg:RG g dg):RS (qI te g) (aE de dg):=fun h o H δ σ S E D he hs q c=>
 z h o H δ σ S _ _ he hs q fun o1 H1 S1 x v e1 s1 x1 d1=>hg h o1 H1 δ σ S1 x v _ _ (he.mono e1) s1 x1 d1 (c.nx.pre e1)
theorem tP(z:RE te de):RS (uZ te) (d8 de):=fun h o H δ σ S E D he hs q c=>
 z h o H δ σ S _ _ he hs q fun o1 H1 S1 x v e1 s1 x1 d1=>c.nx o1 H1 δ S1 σ e1 (he.mono e1) s1 d1
theorem bA(z:RE te de):RS (A0 te) (aC de):=fun h o H δ σ S E D he hs q c=>z h o H δ σ S _ _ he hs q c.rt
theorem gF{tc:TT}{dc:DT}(hc:RT tc dc)(ht:RS t dt)(hu:RS u du):RS (pX tc t u) (aQ dc dt du):=fun h o H δ σ S E D he hs q c=>
 hc h o H δ σ S _ _ he hs q fun o1 H1 S1 b e1 s1 d1=>by
  cases b with
  |true=>exact eI (ht h o1 H1 δ σ S1 E D (he.mono e1) s1 (by simpa using d1) (c.pre e1))
  |false=>exact eP (hu h o1 H1 δ σ S1 E D (he.mono e1) s1 (by simpa using d1) (c.pre e1))
def frz(n:Nat)(ds:List bt):Option XV->Option XV
 |some (.l k)=>if k=n then some (.d (.list ds))else some (.l k)
 |some (.p k d)=>if k=n then some (.d (.tuple [.list ds,d]))else some (.p k d)
 |y=>y
end
abbrev DI:=XE->Sto->(List bt->Sto->Prop)->Prop
structure WalkX(h o:List Addr)(H:Hp)(J:It)(ds:List bt):Prop where
 stop:∀(i:Nat) o2 H2,ExH h o H o2 H2->ds.length<=i->J.stop i H2
 go:∀(i:Nat) d o2 H2,ExH h o H o2 H2->ds[i]?=some d->J.go i H2
 yld:∀(i:Nat) d o2 H2 x H3 S2,ExH h o H o2 H2->RepS h o2 H2 S2->ds[i]?=some d->J.yld i H2 x H3->Same H2 H3/\Has (vx h o2 H3) d x
def RI(w:TI)(di:DI):Prop:=∀(h o:List Addr) (H:Hp) (δ:XE) (σ:St) (S:Sto) (R:List bt->Sto->Prop) (Q:It->Hp->Prop),RepE h o H δ σ->RepS h o H S->di δ S R ->
 (∀o' H' S' ds J,Ex o H o' H'->RepS h o' H' S'->WalkX h o' H' J ds->R ds S'->Q J H')->w σ H Q
theorem GQ{h o:List Addr}{H:Hp}{lo:Int}{n:Nat}:WalkX h o H (Itr lo n) (fB lo n) where
 stop:=fun i _ _ _ hi=>by rw[mU]at hi;exact hi
 go:=fun i d _ _ _ hi=>(Dp hi).1
 yld:=fun i d o2 H2 x H3 S2 _ _ hi y=>by
  obtain⟨e,ex⟩:=y;subst e ex;rw[(Dp hi).2];exact⟨Same.refl _,eY.mpr rfl⟩
def jN(g:DG)(b:DS):List bt->DS
 | [],E,δ,S=>E.nx δ S
 |d::ds,E,δ,S=>g (.d d) δ S fun δ1 S1=>b { nx:=fun δ2 S2=>jN g b ds E δ2 S2,ct:=fun δ2 S2=>jN g b ds E δ2 S2,bk:=E.nx,rt:=E.rt } δ1 S1
def dD(i:DI)(g:DG)(b:DS):DS:=fun E δ S=>i δ S fun ds S1=>jN g b ds E δ S1
theorem lW{wi:TI}{g:TG}{tb:TS}{di:DI}{dg:DG}{db:DS}(hi:RI wi di)(hg:RG g dg)(hb:RS tb db):RS (nX wi g tb) (dD di dg db):=fun h o H δ σ S E D he hs q c=>
 hi h o H δ σ S _ _ he hs q fun o1 H1 S1 ds J e1 s1 wk d1=>by
  refine⟨fun i m σ2 H2=>m=ds.length-i/\i<=ds.length/\∃o2 δ2 S2,Ex o1 H1 o2 H2/\RepE h o2 H2 δ2 σ2/\RepS h o2 H2 S2/\jN dg db (ds.drop i) E δ2 S2,⟨ds.length,yv,nj _,o1,δ,S1,Ex.refl,he.mono e1,s1,d1⟩,?_⟩;rintro i m σ2 H2 ⟨rfl,hi,o2,δ2,S2,e2,af,ac,d2⟩;by_cases hlt:i<ds.length
  ·have ed:ds[i]?=some ds[i]:=cw hlt;rw[nc hlt]at d2;refine .inr ⟨wk.go i _ o2 H2 e2.hid ed,fun σ3 H3=>∃o3 δ3 S3,Ex o1 H1 o3 H3/\RepE h o3 H3 δ3 σ3/\RepS h o3 H3 S3/\jN dg db (ds.drop (i+1)) E δ3 S3,fun σ3 H3 n=>⟨ds.length-(i+1),yw,rfl,hlt,n⟩,fun x H3 y=>?_⟩;obtain⟨s3,hx⟩:=wk.yld i _ o2 H2 x H3 S2 e2.hid ac ed y;have ae:Ex o2 H2 o2 H3:=Ex.of_same s3;refine hg h o2 H3 δ2 σ2 S2 (.d ds[i]) x _ _ (af.mono ae) (ac.same s3) hx d2 fun o4 H4 δ4 S4 σ4 e4 ah ag d4=>?_;have z:Ex o1 H1 o4 H4:=(e2.trans ae).trans e4;have ce:=(c.pre e1).pre z;exact hb h o4 H4 δ4 σ4 S4 _ _ ah ag d4 ⟨fun o5 H5 δ5 S5 σ5 e5 ab aa d5=>⟨o5,δ5,S5,z.trans e5,ab,aa,d5⟩,ce.rt,ce.nx,fun o5 H5 δ5 S5 σ5 e5 ab aa d5=>⟨o5,δ5,S5,z.trans e5,ab,aa,d5⟩⟩
  ·have ei:i=ds.length:=yw
   subst ei;rw[drop_length]at d2;exact .inl ⟨wk.stop _ o2 H2 e2.hid (dh _),c.nx o2 H2 δ2 S2 σ2 (e1.trans e2) af ac d2⟩
def aK:DT:=fun _ S R=>R true S
theorem cY:RT An aK:=fun h o H δ σ S R Q he hs q c=>c o H S true Ex.refl hs q
def bB(n:Nat)(g:DG)(tt:DT)(te:DE)(fin:Sto->Prop):List bt->XE->Sto->Prop
 | [],_,S=>fin S
 |d::ds,τ,S=>g (.d d) τ S fun τ1 S1=>tt τ1 S1 fun b S2=>if b=true then te τ1 S2 fun x S3=>asD x fun e=>∃acc,S3[n]?=some acc/\acc.length<1000/\bB n g tt te fin ds τ1 (S3.set n (acc++[e]))else bB n g tt te fin ds τ1 S2
def gC(caps:List (Option Nat))(i:DI)(g:DG)(tt:DT)(te:DE):DE:=fun δ S R=>i δ S fun ds S1=>bB S1.length g tt te (fun S2=>R (.l S1.length) S2) ds (f6 caps δ) (S1++[[]])
def bE(caps:List (Option Nat))(i:DI)(g:DG)(tt:DT)(te:DE):DE:=fun δ S R=>i δ S fun ds S1=>bB S1.length g tt te (fun S2=>∃S0 acc,S2=S0++[acc]/\S0.length=S1.length/\R (.d (.list acc)) S0) ds (f6 caps δ) (S1++[[]])
theorem RepS.pop{h o r:List Addr}{H:Hp}{S0 T:Sto}(hs:RepS h (o++r) H (S0++T))(hl:S0.length=o.length):RepS h o H S0 where
 len:=hl
 nd:=(nodup_append.mp hs.nd).1
 dis:=fun a ha=>hs.dis a (cg _ ha)
 hal:=hs.hal
 cont:=fun k a ds e1 e2=>by
  obtain⟨vs,e3,l⟩:=hs.cont k a ds (iI e1) (iI e2);exact⟨vs,e3,l.mono fun b u e=>by
   obtain⟨z1,z2,z3⟩:=zE.mp e;exact zE.mpr ⟨z1,fun m=>z2 (cg _ m),z3⟩⟩
theorem u3{h o r:List Addr}{H:Hp}:Same (vx h (o++r) H) (vx h o H):=fun b u e=>by
 obtain⟨z1,z2,z3⟩:=zE.mp e;exact zE.mpr ⟨z1,fun m=>z2 (cg _ m),z3⟩
theorem Ex.pop{o o' r:List Addr}{H H':Hp}(e:Ex o H (o++r) H'):Ex o H o H':=⟨⟨[],yv⟩,fun b u hb eb=>⟨hb,(e.kp b u hb eb).2⟩⟩
theorem E4{caps:List (Option Nat)}{wi:TI}{g:TG}{tt:TT}{te:TE}{di:DI}{dg:DG}{ab:DT}{ae:DE}(hi:RI wi di)(hg:RG g dg)(ht:RT tt ab)(ai:RE te ae)
  {h o:List Addr}{H:Hp}{δ:XE}{σ:St}{S:Sto}{Q:VK}{fin:Nat->Sto->Prop} (he:RepE h o H δ σ) (hs:RepS h o H S) (q:di δ S fun ds S1=>bB S1.length dg ab ae (fin S1.length) ds (f6 caps δ) (S1++[[]]))
  (c:∀o1 H1 D o2 H2 S2,Ex o H o1 H1->H1 D=none->Ex (o1++[D]) (upd H1 D (.lst [])) o2 H2->RepS h o2 H2 S2->fin o1.length S2->Q (.ref D) H2):qT caps wi g tt te σ H Q:=by
 refine hi h o H δ σ S _ _ he hs q fun o1 H1 S1 ds J e1 s1 wk d1 D hD=>?_;have eN:Ex o1 H1 (o1++[D]) (upd H1 D (.lst [])):=Ex.new s1 hD;have sN:RepS h (o1++[D]) (upd H1 D (.lst [])) (S1++[[]]):=s1.new hD (zx.mpr rfl);have hn:S1.length=o1.length:=s1.len;refine⟨fun i m τ H2=>m=ds.length-i/\i<=ds.length/\∃o2 δ2 S2,Ex (o1++[D]) (upd H1 D (.lst [])) o2 H2/\RepE h o2 H2 δ2 τ/\RepS h o2 H2 S2/\bB S1.length dg ab ae (fin S1.length) (ds.drop i) δ2 S2,⟨ds.length,yv,nj _,_,_,_,Ex.refl,((he.mono e1).mono eN).tau,sN,d1⟩,?_⟩;rintro i m τ H2 ⟨rfl,hi,o2,δ2,S2,e2,ak,ac,d2⟩;by_cases hlt:i<ds.length
 ·have ed:ds[i]?=some ds[i]:=cw hlt;rw[nc hlt]at d2;refine .inr ⟨wk.go i _ o2 H2 (eN.trans e2).hid ed,fun x H3 y=>?_⟩;obtain⟨s3,hx⟩:=wk.yld i _ o2 H2 x H3 S2 (eN.trans e2).hid ac ed y;have ag:Ex o2 H2 o2 H3:=Ex.of_same s3;refine hg h o2 H3 δ2 τ S2 (.d ds[i]) x _ _ (ak.mono ag) (ac.same s3) hx d2 fun o4 H4 δ4 S4 τ4 e4 aa aj d4=>?_;refine ht h o4 H4 δ4 τ4 S4 _ _ aa aj d4 fun o5 H5 S5 b e5 s5 d5=>?_;have ah:=((e2.trans ag).trans e4).trans e5;cases b with
  |false=>exact eP ⟨ds.length-(i+1),yw,rfl,hlt,o5,δ4,S5,ah,aa.mono e5,s5,by simpa using d5⟩
  |true=>
   refine eI (ai h o5 H5 δ4 τ4 S5 _ _ (aa.mono e5) s5 (by simpa using d5) fun o6 H6 S6 z v e6 s6 z6 d6=>?_);replace d6:=iN d6;obtain⟨e,rfl,acc,ea,hl,d6⟩:=d6;have af:=ah.trans e6;have eD:o6[S1.length]?=some D:=by
    obtain⟨r,rfl⟩:=af.pre;rw[hn];exact iI (by rw[fv])
   obtain⟨vs,ev,l⟩:=s6.cont _ D acc eD ea;refine⟨vs,ev,by rw[l.length];exact small1000 (lz hl),ds.length-(i+1),yw,rfl,hlt,o6,δ4,_,af.trans (Ex.upd eD),((aa.mono e5).mono e6).mono (Ex.upd eD),s6.upd eD (l.append (zq.mpr ⟨v,[],rfl,z6,zx.mpr rfl⟩)),d6⟩
 ·have ei:i=ds.length:=yw
  subst ei;rw[drop_length]at d2;exact .inl ⟨wk.stop _ o2 H2 (eN.trans e2).hid (dh _),c o1 H1 D o2 H2 S2 e1 hD e2 ac (hn▸d2)⟩
theorem uI{caps:List (Option Nat)}{wi:TI}{g:TG}{tt:TT}{te:TE}{di:DI}{dg:DG}{z:DT}{aa:DE}(hi:RI wi di)(hg:RG g dg)(ht:RT tt z)(ab:RE te aa):RE (qT caps wi g tt te) (gC caps di dg z aa):=fun h o H δ σ S R Q he hs q c=>by
 refine E4 (fin:=fun n S2=>R (.l n) S2) hi hg ht ab he hs q fun o1 H1 D o2 H2 S2 e1 hD e2 s2 f=>?_;have eN:Ex o1 H1 (o1++[D]) (upd H1 D (.lst [])):=⟨⟨[D],rfl⟩,fun b w hb e=>by
  have ne:b≠D:=zI e hD;exact⟨by simp[hb,ne],by rw[zD ne];exact e⟩⟩
 refine c o2 H2 S2 (.l o1.length) _ ((e1.trans eN).trans e2) s2 ⟨D,?_,rfl⟩ f;obtain⟨r,rfl⟩:=e2.pre;exact iI (by rw[fv])
theorem bW{caps:List (Option Nat)}{wi:TI}{g:TG}{tt:TT}{te:TE}{di:DI}{dg:DG}{aa:DT}{ab:DE}(hi:RI wi di)(hg:RG g dg)(ht:RT tt aa)(ac:RE te ab):RE (qT caps wi g tt te) (bE caps di dg aa ab):=fun h o H δ σ S R Q he hs q c=>by
 refine E4 (fin:=fun n S2=>∃(S0:Sto) (acc:List bt),S2=S0++[acc]/\S0.length=n/\R (.d (.list acc)) S0) hi hg ht ac he hs q fun o1 H1 D o2 H2 S2 e1 hD e2 s2 ⟨S0,acc,eS,hl,f⟩=>?_;subst eS;have eN:Ex o1 H1 (o1++[D]) (upd H1 D (.lst [])):=⟨⟨[D],rfl⟩,fun b w hb e=>by
  have ne:b≠D:=zI e hD;exact⟨by simp[hb,ne],by rw[zD ne];exact e⟩⟩
 have z:=eN.trans e2;obtain⟨r,rfl⟩:=e2.pre;have er:r=[]:=by
  have:=s2.len;simp only[fu,iy,hl]at this;exact ju yw
 subst er;rw[kw]at s2 z;have s0:RepS h o1 H2 S0:=s2.pop hl;refine c o1 H2 S0 (.d (.list acc)) _ (e1.trans (Ex.pop (o':=o1) z)) s0 ?_ f;obtain⟨vs,ev,l⟩:=s2.cont o1.length D acc (by rw[fv]) (by rw[<- hl,fv]);have nD:D∉o1:=by
  have:=(nodup_append.mp s2.nd).2.2;intro m;exact this D m D yv rfl
 exact c9.mpr ⟨D,vs,rfl,zE.mpr ⟨s2.dis D yv,nD,ev⟩,l.mono u3⟩
def fin(n:Nat)(R:RX):RX:=fun y S'=>match y with
 | .l k=>if k<n then R (.l k) (S'.take n)else ∃ds,S'[k]?=some ds/\(R (.d (.list ds)) (S'.take n)\/R (.l n) (S'.take n++[ds]))
 | .p k d=>n<=k/\∃ds,S'[k]?=some ds/\R (.p n d) (S'.take n++[ds])
 |y=>R y (S'.take n)
theorem Es{h o r:List Addr}{H H':Hp}{S S':Sto}{k:Nat}{a:Addr}{ds:List bt}(hs:RepS h o H S)(e:Ex o H (o++r) H')(s':RepS h (o++r) H' S')(hk:¬ k<S.length)(ea:(o++r)[k]?=some a)(ab:S'[k]?=some ds):
  Ex o H (o++[a]) H'/\Same (vx h (o++r) H') (vx h (o++[a]) H')/\RepS h (o++[a]) H' (S'.take S.length++[ds]):=by
 have eS:S'=S'.take S.length++S'.drop S.length:=(oq _ _).symm;have hl:(S'.take S.length).length=o.length:=by
  have:=s'.len;rw[fu]at this;rw[qb,this,hs.len];omega
 have s0:RepS h o H' (S'.take S.length):=by
  rw[eS]at s';exact s'.pop hl
 have e0:Ex o H o H':=Ex.pop (o':=o) e;obtain⟨vs,ev,l⟩:=s'.cont k a ds ea ab;have na:a∉o:=fun m=>by
  obtain⟨j,ej⟩:=mem_iff_getElem?.mp m;have hj:j<o.length:=(List.getElem?_eq_some_iff.mp ej).1;have:=m9 s'.nd (iI (t:=r) ej) ea;rw[hs.len]at hk;omega
 have nh:a∉h:=s'.dis a (bw ea);have hn:H a=none:=by
  cases eh:H a with
  |none=>rfl
  |some u=>exact absurd (bw ea) (e.kp a u na eh).1
 have e1:Ex o H (o++[a]) H':=⟨⟨[a],rfl⟩,fun b u hb eb=>⟨by simp only[uy,tz,not_or];exact⟨hb,zI eb hn⟩,(e0.kp b u hb eb).2⟩⟩;have sub:Same (vx h (o++r) H') (vx h (o++[a]) H'):=fun b u eb=>by
  obtain⟨z1,z2,z3⟩:=zE.mp eb;refine zE.mpr ⟨z1,?_,z3⟩;simp only[uy,tz,not_or];exact⟨fun m=>z2 (cg _ m),fun z=>z2 (by rw[z];exact bw ea)⟩
 refine⟨e1,sub,⟨by rw[fu,fu,hl];rfl,lN hs.nd na,fun b hb=>?_,s0.hal,fun j b es q1 q2=>?_⟩⟩
 ·rcases mem_append.mp hb with hb|hb
  ·exact hs.dis b hb
  ·rw[mem_singleton.mp hb];exact nh
 ·by_cases hj:j<o.length
  ·rw[gm hj]at q1;rw[gm (by rw[hl];exact hj),List.getElem?_take_of_lt (by rw[hs.len];exact hj)]at q2;obtain⟨ws,e3,l3⟩:=s'.cont j b es (iI q1) q2;exact⟨ws,e3,l3.mono sub⟩
  ·have aa:j=o.length:=by
    obtain⟨q,_⟩:=List.getElem?_eq_some_iff.mp q1;rw[fu,iy]at q;omega
   subst aa;rw[fv]at q1;rw[<- hl,fv]at q2;cases q1;cases q2;exact⟨vs,ev,l.mono sub⟩
theorem DF{h o:List Addr}{H:Hp}{S:Sto}{R:RX}{Q:VK}(hs:RepS h o H S)(c:Cn h o H R Q):Cn h o H (fin S.length R) Q:=fun o' H' S' y v e s' hy q=>by
 obtain⟨r,rfl⟩:=e.pre;have eS:S'=S'.take S.length++S'.drop S.length:=(oq _ _).symm;have hl:(S'.take S.length).length=o.length:=by
  have:=s'.len;rw[fu]at this;rw[qb,this,hs.len];omega
 have s0:RepS h o H' (S'.take S.length):=by
  rw[eS]at s';exact s'.pop hl
 have e0:Ex o H o H':=Ex.pop (o':=o) e;cases y with
 |d d=>exact c o H' _ (.d d) v e0 s0 (Has.mono u3 d v hy) q
 |o w=>exact c o H' _ (.o w) v e0 s0 hy q
 |x C fs=>exact c o H' _ (.x C fs) v e0 s0 (HasE.mono u3 hy) q
 |p k d=>
  obtain⟨hk,ds,z,q⟩:=q;obtain⟨t,a,u,rfl,ea,et,hu⟩:=hy;obtain⟨e1,sub,s1⟩:=Es hs e s' yw ea z;exact c (o++[a]) H' _ (.p S.length d) _ e1 s1 ⟨t,a,u,rfl,by rw[hs.len,fv],sub _ _ et,Has.mono sub _ _ hu⟩ q
 |l k=>
  unfold fin at q;by_cases hk:k<S.length
  ·simp only[hk,↓reduceIte]at q;obtain⟨a,ea,rfl⟩:=hy;exact c o H' _ (.l k) _ e0 s0 ⟨a,by rw[gm (by rw[<- hs.len];exact hk)]at ea;exact ea,rfl⟩ q
  ·simp only[hk,↓reduceIte]at q;obtain⟨ds,z,q⟩:=q;obtain⟨a,ea,rfl⟩:=hy;obtain⟨vs,ev,l⟩:=s'.cont k a ds ea z;have na:a∉o:=fun m=>by
    obtain⟨j,ej⟩:=mem_iff_getElem?.mp m;have hj:j<o.length:=(List.getElem?_eq_some_iff.mp ej).1;have:=m9 s'.nd (iI (t:=r) ej) ea;rw[hs.len]at hk;omega
   have nh:a∉h:=s'.dis a (bw ea);rcases q with q|q
   ·exact c o H' _ (.d (.list ds)) _ e0 s0 (c9.mpr ⟨a,vs,rfl,zE.mpr ⟨nh,na,ev⟩,l.mono u3⟩) q
   ·obtain⟨e1,sub,s1⟩:=Es hs e s' hk ea z;exact c (o++[a]) H' _ (.l S.length) _ e1 s1 ⟨a,by rw[hs.len,fv],rfl⟩ q
def aO(n:Nat)(R:RX):DEnds:={ nx:=fun _ S'=>fin n R (.d .none) S',rt:=fin n R }
theorem eok{h o:List Addr}{H:Hp}{S:Sto}{R:RX}{Q:VK}(hs:RepS h o H S)(c:Cn h o H R Q):EOk h o H (aO S.length R) { nx:=fun _ H'=>Q .non H',rt:=Q } :=
 ⟨fun o' H' δ' S' σ' e he z q=>DF hs c o' H' S' _ _ e z xN q,DF hs c,fun _ _ _ _ _ _ _ _ q=>q.elim,fun _ _ _ _ _ _ _ _ q=>q.elim⟩
def bX(p:List bt):Prop:=∃l g s:Int,p=[.int l,.int g,.int s]/\0<=l
end
section
def Ak(K:fe):List V->Hp->VK->Prop:=fun xs H Q=>∃(p:Addr) (ns:List Int),xs=[.ref p]/\SqL K H p (ns.map V.int)/\Q (.int ns.sum) H
def FC(K:fe):List V->Hp->VK->Prop:=fun xs H Q=>∃(p:Addr) (bs:List Bool),xs=[.ref p]/\SqL K H p (bs.map V.bl)/\Q (.bl (bs.all id)) H
theorem L5:jq "sum" = some (.builtin "sum"):=by decide +kernel
theorem nK:jq "all" = some (.builtin "all"):=by decide +kernel
section
variable {X:Cx}
theorem Ix(hc:X.calm=true):CallR X (.builtin "sum") (Ak X.K):=by
 intro ze s σ H xs us Q I r h;obtain⟨p,ns,rfl,hq,q⟩:=h;obtain⟨u,rfl,rx⟩:=vals1 r;cases (show u=gk p from rx);obtain⟨aa,rv,pl,_⟩:=I.list hq;obtain⟨ys,e,z⟩:=Hl (iP rv);refine sum_intListG (I.ok.hd hc) (by rw[<- e];exact pl.isList) fun h' tk t' hk=>⟨.int ns.sum,H,I.kept (t':=tk) hk,⟨t',?_⟩,q⟩;have es:preSum (numAt ys) ys.size=ns.sum:=by
  rw[preSum_eq,z,lr yv]
 rw[es]
theorem CH:∀{bs:List Bool}{us:List bo}{i:Nat}{v:bo},Vals (bs.map V.bl) us->us[i]?=some v->∃b,bs[i]?=some b/\v=.bool b
 | [],_,i,v,.nil,e=>by simp at e
 |b::bs,_,0,v,.cons r _,e=>by
  rw[rq]at e;cases e;exact⟨b,rfl,r⟩
 |b::bs,_,i+1,v,.cons _ t,e=>by
  obtain⟨c,e1,e2⟩:=CH (i:=i) (v:=v) t (by simpa using e);exact⟨c,by simpa using e1,e2⟩
theorem Ig(bs:List Bool):((gg bs.length).all fun i=>(bs[i]?).getD true)=bs.all id:=by
 rw[ut,all_eq_true,all_eq_true];constructor
 ·intro h b hb;obtain⟨i,hi⟩:=mem_iff_getElem?.mp hb;have hl:=(List.getElem?_eq_some_iff.mp hi).1;have:=h i (mem_range.mpr hl);rw[hi]at this;exact this
 ·intro h i hi;have hl:=mem_range.mp hi;rw[cw hl];exact h _ (qd hl)
theorem nT(hc:X.calm=true):CallR X (.builtin "all") (FC X.K):=by
 intro ze s σ H xs us Q I r h;obtain⟨p,bs,rfl,hq,q⟩:=h;obtain⟨u,rfl,rx⟩:=vals1 r;cases (show u=gk p from rx);obtain⟨z,rv,pl,_⟩:=I.list hq;have hl:=pl.isList;have aa:p<s.heap.objs.size:=by
  obtain⟨_,e,_⟩:=hl;exact gi e
 refine call_all_walk (x:=gk p) (qv hl ?_);refine⟨s.heap.objs.size,[s.heap.objs.size,p],[s.heap.objs.size],z.toArray.size,_,_,fun i=>(bs[i]?).getD true,rfl,
  Walks.list (A:=X.A.in1) (I.ok.hd hc) _ p (gy aa) z.toArray,⟨⟨_,cy _ rfl,rfl,rfl⟩,hl.push _⟩,fun i v s' Q' E' hP hQ=>?_,fun h' tk hk=>?_⟩
 ·obtain⟨b,e,rfl⟩:=CH (i:=i) (v:=v) rv (by simpa using hP);have ab:Q' b s':=by simpa[e]using hQ
  exact pc ab
 ·have hz:z.toArray.size=bs.length:=by
   have:=rv.length;rw[cu]at this;simp[this]
  rw[hz,Ig];refine⟨.bl _,H,I.kept (t':=tk) fun b o e=>hk b o (fun hm=>?_) (bu _ e),rfl,q⟩;rw[mem_singleton.mp hm]at e;exact sy _ (gi e)
end
def kW:List XV->Sto->RX->Prop:=fun xs S R=>arg1 xs fun x=>∃ds,gZ S x=some ds/\∃ns:List Int,ds=ns.map cq/\R (.d (.int ns.sum)) S
theorem BG{K:fe}:RC (Ak K) kW:=fun h o H S xs vs R Q hs hx q c=>by
 obtain⟨x,rfl,ds,hd,ns,rfl,q1⟩:=cB q;obtain⟨v,rfl,z⟩:=hxs1 hx;obtain⟨a,ws,rfl,ea,l⟩:=cA hs hd z;rw[iX l]at ea;exact⟨a,ns,rfl,.of ea,c o H S _ _ Ex.refl hs (xI _) q1⟩
theorem E6{H:Hp}:∀{ns:List Bool}{vs:List V},HasL H (ns.map PyData.bool) vs->vs=ns.map V.bl
 | [],vs,h=>zx.mp h
 |n::ns,vs,h=>by
  obtain⟨v,r,rfl,h1,h2⟩:=zq.mp h;rw[i9.mp h1,E6 h2];rfl
def fY:List XV->Sto->RX->Prop:=fun xs S R=>arg1 xs fun x=>∃ds,gZ S x=some ds/\∃ns:List Bool,ds=ns.map PyData.bool/\R (.d (.bool (ns.all id))) S
theorem mG{K:fe}:RC (FC K) fY:=fun h o H S xs vs R Q hs hx q c=>by
 obtain⟨x,rfl,ds,hd,ns,rfl,q1⟩:=cB q;obtain⟨v,rfl,z⟩:=hxs1 hx;obtain⟨a,ws,rfl,ea,l⟩:=cA hs hd z;rw[E6 l]at ea;exact⟨a,ns,rfl,.of ea,c o H S _ _ Ex.refl hs (xB _) q1⟩
section
variable {S:Sto}{i:Int}{b:Bool}{z:Str}{ds:List bt}{d:bt}{k:Nat}{x y:XV}{R:RX}{c:String}{p:List bt}{n:Nat}{v:V}
theorem rF{K:Int->Prop}:asI (.d (.int i)) K=K i:=rfl
theorem qK{K:Bool->Prop}:asB (.d (.bool b)) K=K b:=rfl
theorem qU{K:List bt->Prop}:asT (.d (.tuple ds)) K=K ds:=rfl
theorem sI{K:bt->Prop}:asD (.d d) K=K d:=rfl
theorem nV:gZ S (.d (.list ds))=some ds:=rfl
theorem rS:asQ S (.d (.list ds))=some ds:=rfl
theorem m6:asQ S (.d (.tuple ds))=some ds:=rfl
theorem qE:bK S (.d d)=some d:=rfl
theorem oO:bK S (.l k)=(S[k]?).map .list:=rfl
theorem qX:ret0 S R (.d d) []=R (.d d) S:=rfl
theorem qA:ret0 S R (.l 0) [ds]=R (.l S.length) (S++[ds]):=rfl
theorem rJ:sZ k S R (.d d) [p]=R (.d d) (S.set k p):=rfl
theorem pN:fin n R (.d d) S=R (.d d) (S.take n):=rfl
theorem nH:fin n R (.l k) S=if k<n then R (.l k) (S.take n)else ∃ds,S[k]?=some ds/\(R (.d (.list ds)) (S.take n)\/R (.l n) (S.take n++[ds])):=rfl
theorem oH{K:XV->Prop}:arg1 [x] K=K x:=rfl
theorem pQ{K:XV->XV->Prop}:arg2 [x,y] K=K x y:=rfl
theorem rL{K:String->Prop}:w4 (.o (.ty c)) K↔K c:=⟨fun⟨_,e,q⟩=>by cases e;exact q,fun q=>⟨c,rfl,q⟩⟩
theorem qM{K:Int->Prop}:xE (.d (.bool b)) K=K (if b then 1 else 0):=rfl
theorem sG:(aO n R).rt x S=fin n R x S:=rfl
theorem r9:datas []=some []:=rfl
theorem pB{r:List XV}:datas (.d d::r)=(datas r).map (d :: ·):=rfl
end
theorem nO{α:Type}{a:α}{l:List α}:atI (a::l) 0=some a:=hU (j:=0) rfl
theorem pU{α:Type}{a b:α}{l:List α}:atI (a::b::l) 1=some b:=hU (j:=1) rfl
theorem nN{α:Type}{a b c:α}{l:List α}:atI (a::b::c::l) 2=some c:=hU (j:=2) rfl
def Shp(n:Nat)(d:bt):Prop:=d.canLay0=true/\d.depth<=n
theorem fQ{n:Nat}{i:Int}:Shp n (.int i):=⟨rfl,nj _⟩
theorem A4{n:Nat}:∀{ds:List bt},(∀d∈ds,Shp n d)->pf ds=true/\ph ds<=n
 | [],_=>⟨by simp only[pf],by simp only[ph];exact nj _⟩
 |d::ds,h=>by
  obtain⟨h1,h2⟩:=h d dw;obtain⟨h3,h4⟩:=A4 (ds:=ds) fun e m=>h e (cz _ m);simp only[pf,ph,h1,h3,Bool.and_true,true_and];omega
theorem l0{n:Nat}{ds:List bt}(h:∀d∈ds,Shp n d):Shp (n+1) (.list ds):=by
 obtain⟨h1,h2⟩:=A4 h;exact⟨by simp only[nw];exact h1,by simp only[PyData.depth];omega⟩
theorem wU{n:Nat}{ds:List bt}(h:∀d∈ds,Shp n d):Shp (n+1) (.tuple ds):=by
 obtain⟨h1,h2⟩:=A4 h;exact⟨by simp only[nw];exact h1,by simp only[PyData.depth];omega⟩
theorem oK{α:Type}{n:Nat}{f:α->bt}{l:List α}(h:∀x∈l,Shp n (f x)):∀d∈l.map f,Shp n d:=fun d m=>by
 obtain⟨x,hx,rfl⟩:=mem_map.mp m;exact h x hx
theorem u9{n:Nat}{a b:bt}(h1:Shp n a)(h2:Shp n b):∀d∈[a,b],Shp n d:=by
 intro d m;simp only[mw,km,or_false]at m;rcases m with rfl|rfl
 ·exact h1
 ·exact h2
theorem Shp.ok{n:Nat}{d:bt}(h:Shp n d)(hn:n<=64:=by decide):gj d=true:=by
 unfold gj;rw[h.1,fy (lw h.2 hn)];rfl
theorem jD{g:DG}{b:DS}{E:DEnds}:∀{ds:List bt}{δ:XE}{S:Sto} (I:Nat->XE->Sto->Prop),I 0 δ S ->
  (∀i d δ S (N:XE->Sto->Prop),ds[i]?=some d->I i δ S->(∀ δ' S',I (i+1) δ' S'->N δ' S')->g (.d d) δ S fun δ1 S1=>b { nx:=N,ct:=N,bk:=E.nx,rt:=E.rt } δ1 S1) ->
  (∀ δ S,I ds.length δ S->E.nx δ S)->jN g b ds E δ S
 | [],δ,S,I,h0,_,fin=>fin δ S h0
 |d::ds,δ,S,I,h0,step,fin=>by
  show g (.d d) δ S fun δ1 S1=>b _ δ1 S1;refine step 0 d δ S _ rfl h0 fun δ' S' h1=>?_;exact jD (ds:=ds) (fun i=>I (i+1)) h1 (fun i e δ S N hi=>step (i+1) e δ S N (by simpa using hi)) fin
theorem DB{α:Type}{l:List α}{a b:α}{n:Nat}(h:l.length=n):(l++[a]).set n b=l++[b]:=by
 subst h;rw[List.set_append_right _ _ (dh _),Nat.sub_self];rfl
theorem BN{H:Hp}:RepS [] [] H []:=⟨rfl,lu,fun _ h=>(nomatch h),fun _ h=>(nomatch h),fun _ _ _ e=>(by simp at e)⟩
theorem Ex.same_nil{o':List Addr}{H H':Hp}(e:Ex [] H o' H'):Same H H':=fun b u q=>(e.kp b u yv q).2
theorem G1{K:fe}{a:Addr}{ns:List Int}{N:Int}{j m:Nat}{tb:TS}{db:DS}{D:Ends}{σ:St}{H:Hp}(hb:RS tb db)(h0:σ[0]?=some (some (.ref a)))(hl:σ.length=m+1)(hS:SqL K H a (ns.map V.int))(z:ns.length<=63)
  (turn:∀n:Int,db { nx:=fun δ _=>δ[0]?=some (some (.o (.ref a)))/\δ.length=m+1,ct:=fun δ _=>δ[0]?=some (some (.o (.ref a)))/\δ.length=m+1,rt:=fun _ _=>False } ((some (.o (.ref a))::bx m none).set j (some (.d (.int n)))) [])
  (hj:j≠0) (done:∀(σ:St) (H1:Hp),Same H H1->D.nx σ H1):
  nX (vZ K (tOp qH (mY (cX (tC2 (A9 K) (gU 0) (tC (.int 0))) iS)) (tSl (nG K) (gU 0) (l9 (tC (.int 1))) (l9 (tC (.int N)))))) (k9 j) tb D σ H:=by
 refine HP (a:=a) (ns:=ns) (fun σ=>σ[0]?=some (some (.ref a))/\σ.length=m+1) h0 hS z ⟨h0,hl⟩ ?_ fun σ H1 _ s=>done σ H1 s;rintro n σ1 H1 H2 ⟨z0,z1⟩ s1 s2;refine hb [] [] H2 _ _ [] _ _ ⟨by simp[z1],fun i x e=>?_⟩ BN (turn n) ⟨?_,fun _ _ _ _ _ _ _ _ q=>q.elim,fun _ _ _ _ _ _ _ _ q=>q.elim,?_⟩
 ·rw[List.getElem?_set]at e ⊢;by_cases hij:j=i
  ·rw[cn hij]at e ⊢;by_cases hjl:j<m+1
   ·rw[cn (by simpa using hjl)]at e;rw[cn (by rw[z1];exact hjl)];cases e;exact⟨.int n,rfl,xI n⟩
   ·rw[cm (by simpa using hjl)]at e;cases e
  ·rw[cm hij]at e ⊢;cases i with
   |zero=>
    cases e;exact⟨.ref a,z0,rfl⟩
   |succ i=>
    rw[qh,List.getElem?_replicate]at e;split at e<;>cases e
 ·rintro o' H' δ' S' σ' e he hs ⟨q1,q2⟩;obtain⟨v,ev,hv⟩:=he.get 0 _ q1;cases hv;exact⟨s2.trans e.same_nil,ev,by rw[<- he.len];exact q2⟩
 ·rintro o' H' δ' S' σ' e he hs ⟨q1,q2⟩;obtain⟨v,ev,hv⟩:=he.get 0 _ q1;cases hv;exact⟨s2.trans e.same_nil,ev,by rw[<- he.len];exact q2⟩
theorem HJ{a:Addr}{m:Nat}{t u:TS}{dt:DS}{D:Ends}{σ:St}{H:Hp}(ht:RS t dt)(h0:σ[0]?=some (some (.ref a)))(hl:σ.length=m+1)
  (go:dt { nx:=fun δ _=>δ[0]?=some (some (.o (.ref a)))/\δ.length=m+1,rt:=fun _ _=>False } (some (.o (.ref a))::bx m none) [])
  (next:∀(σ:St) (H1:Hp),σ[0]?=some (some (.ref a))->σ.length=m+1->Same H H1->u D σ H1):cV t u D σ H:=by
 refine ht [] [] H _ _ [] _ _ ⟨by simp[hl],fun i x e=>?_⟩ BN go ⟨?_,fun _ _ _ _ _ _ _ _ q=>q.elim,fun _ _ _ _ _ _ _ _ q=>q.elim,fun _ _ _ _ _ _ _ _ q=>q.elim⟩
 ·cases i with
  |zero=>
   cases e;exact⟨.ref a,h0,rfl⟩
  |succ i=>
   rw[qh,List.getElem?_replicate]at e;split at e<;>cases e
 ·rintro o' H' δ' S' σ' e he hs ⟨q1,q2⟩;obtain⟨v,ev,hv⟩:=he.get 0 _ q1;cases hv;exact next σ' H' ev (by rw[<- he.len];exact q2) e.same_nil
end
section
theorem Hf{P:gf}{w:iu}{K:fe}{tg:Expr}(it:Addr)(lo:Int)(n:Nat):Turn P w K tg (Itr lo n) [it] it (fun i h=>IsLongIter h it (lo+(i:Nat)*1) ((n:Int)-(i:Nat)) 1) where
 mem:=by simp
 obj:=fun i h st b hb=>by
  have e:b=it:=by simpa using hb
  subst e;exact⟨_,st,fun v z=>by
   have z':Data.fields _=Data.cell v:=z;cases z'⟩
 keep:=fun i h h' st k=>k it yv _ st
 item:=by
  intro X hP hw hK hc i ze s σ H E I hf st hg;subst hP hw hK;obtain⟨f0,f1,f2,f3,f4,f5⟩:=hf it yv;have W:=Walks.longrange (prog:=X.prog) (w:=X.w) (I.ok.hd hc) it lo 1 n;refine W.item i s _ _ hg st fun v h' tk hv st' kk=>?_;obtain⟨t,rfl⟩:=hv;have I1:Inv X ze σ H { s with heap:=h',toks:=tk }:=I.turned (fun b o hb e=>kk b o (by simpa using hb) e) f0 f1 f3 f4 f5;refine⟨_,rfl,tG (s:={ s with heap:=h',toks:=tk }) (n:="longrange_iterator") st' rfl rfl dz ⟨.int (lo+i),H,I1,⟨t,?_⟩,⟨rfl,rfl⟩,st',fun b hb=>(hf b hb).1⟩⟩;rw[Int.mul_one]
 done:=by
  intro X hP hw hK hc i ze s σ H E I hf st hg;subst hP hw hK;obtain⟨f0,f1,f2,f3,f4,f5⟩:=hf it yv;exact wpAny_pyNext_long_end (I.ok.hd hc) st (by have:n<=i:=hg;omega) fun h' eb=>⟨rfl,I.turned (t':=s.toks) (fun b o hb e=>eb b o hb e) f0 f1 f3 f4 f5⟩
 self:=fun _ _ _ _ _ st h=>wpAny_pyIter_longiter st h
section
variable {X:Cx}{tg:Expr}
theorem Ih{ze:List (Addr×Obj)}{σ:St}{H:Hp}{s:bq}{R:It->Hp->Prop}{E:bo->bq->Prop}{lo hi:Int}{t u v:Tok}{tk:Nat}(I:Inv X ze σ H s)
  (q:R (Itr lo (hi-lo).toNat) H):cp (model X.prog X.w) X.A (pyIter (.ref s.heap.objs.size)) (PIE X ze σ tg R) E { s with heap:=s.heap.push { cls:=.type "range",data:=.fields #[.int lo t,.int hi u,.int 1 v] },toks:=tk }:=by
 have I1:Inv X ze σ H { s with heap:=s.heap.push { cls:=.type "range",data:=.fields #[.int lo t,.int hi u,.int 1 v] },toks:=tk }:=I.kept fun b o e=>bu _ e;have e1:lo+((0:Nat):Int)*1=lo:=by simp
 have e2:(((hi-lo).toNat:Nat):Int)-((0:Nat):Int)=Builtin.Range.rangeSize lo hi 1:=by rw[rangeSize_one];split<;>omega
 cases hsm:Builtin.Range.small lo hi 1 with
 |true=>
  refine wpAny_pyIter_range (IsRange.new ..) hsm ?_;refine⟨(s.heap.push { cls:=.type "range",data:=.fields #[.int lo t,.int hi u,.int 1 v] }).objs.size,[(s.heap.push { cls:=.type "range",data:=.fields #[.int lo t,.int hi u,.int 1 v] }).objs.size],_,_,H,rfl,
   I1.kept (t':=tk) fun b o e=>bu _ e,JD _ lo (hi-lo).toNat,?_,fun b hb=>?_,q⟩
  ·show IsRangeIter _ _ (lo+((0:Nat):Int)*1) ((((hi-lo).toNat:Nat):Int)-((0:Nat):Int)) 1;rw[e1,e2];exact cy _ rfl
  ·have e:b=(s.heap.push { cls:=.type "range",data:=.fields #[.int lo t,.int hi u,.int 1 v] }).objs.size:=by simpa using hb
   subst e;exact I1.fpOk (dh _) (I1.hok.fresh (dh _))
 |false=>
  refine wpAny_pyIter_longrange (IsRange.new ..) hsm ?_;refine⟨(s.heap.push { cls:=.type "range",data:=.fields #[.int lo t,.int hi u,.int 1 v] }).objs.size,[(s.heap.push { cls:=.type "range",data:=.fields #[.int lo t,.int hi u,.int 1 v] }).objs.size],_,_,H,rfl,
   I1.kept (t':=tk) fun b o e=>bu _ e,Hf _ lo (hi-lo).toNat,?_,fun b hb=>?_,q⟩
  ·show IsLongIter _ _ (lo+((0:Nat):Int)*1) ((((hi-lo).toNat:Nat):Int)-((0:Nat):Int)) 1;rw[e1,e2];exact cy _ rfl
  ·have e:b=(s.heap.push { cls:=.type "range",data:=.fields #[.int lo t,.int hi u,.int 1 v] }).objs.size:=by simpa using hb
   subst e;exact I1.fpOk (dh _) (I1.hok.fresh (dh _))
def Eb(ta:TA):TI:=fun σ H R=>ta σ H fun vs H1=>∃j:Int,vs=[.int j]/\R (Itr 0 j.toNat) H1
theorem iF{a:Expr}{ta:TA}{p pos:Pos}(hg:Gl X "range")(hm:X.mg "range" = none)(ha:PA X [a] ta)(hs:fx [a] X.env=[(false,eval a X.env)]:=by rfl):PI X tg (.Call (.Name "range" p) [a] [] pos) (Eb ta):=by
 intro ze s σ H R I h;refine Call_ (eJ I hg hm boot_range (kr (thn (ha pos ze s σ H _ I h) fun us s1 ⟨vs,H1,I1,r1,q1⟩=>?_) hs rfl));obtain⟨j,e,q⟩:=q1;subst e;cases r1 with
 |cons r rr=>
  cases rr;obtain⟨t,rfl⟩:=r;exact call_range_1 (Ih I1 (by simpa using q))
end
def cZ(a:DA):DI:=fun δ S R=>a δ S fun xs S1=>arg1 xs fun x=>asI x fun j=>R (fB 0 j.toNat) S1
def pE(a:DA):DI:=fun δ S R=>a δ S fun xs S1=>arg2 xs fun x y=>asI x fun i=>asI y fun j=>R (fB i (j-i).toNat) S1
theorem oM{ta:TA}{da:DA}(ha:RA ta da):RI (Eb ta) (cZ da):=fun h o H δ σ S R Q he hs q c=>
 ha h o H δ σ S _ _ he hs q fun o1 H1 S1 xs vs e1 s1 x1 d0=>by
  obtain⟨x,rfl,d2⟩:=cB d0;obtain⟨j,rfl,d1⟩:=bM d2;obtain⟨v,rfl,hv⟩:=hxs1 x1;rw[bQ hv];exact⟨j,rfl,c o1 H1 S1 _ _ e1 s1 GQ d1⟩
end
section
open Sem (wp)
open AutoSeq1 (wpAny_loadPart')
section
variable {X:Cx}{ze:List (Addr×Obj)}{σ:St}{H:Hp}{s:bq}{h':Heap}
theorem Inv.turnLaid{t':Nat}{ch:List Addr}{T:Addr}{o:HO}(I:Inv X ze σ H s)(k:∀b u,b∉ch->s.heap.get? b=some u->h'.get? b=some u)(hf:∀b∈ch,FpOk X ze H b)(hT:s.heap.objs.size<=T)
  (new:ObjOk X.prog X.w (upd H T o) h' T o):Inv X ze σ (upd H T o) { s with heap:=h',toks:=t' }:=by
 have hn:H T=none:=I.hok.fresh hT;have aa:∀b u,H b=some u->b∉ch:=fun b u e m=>by rw[(hf b m).1]at e;cases e
 have ab:∀b u,s.heap.get? b=some u->b≠T:=fun b u e z=>absurd (kc (gi e) hT) (by rw[z];exact sy _);have up:∀b u,H b=some u->upd H T o b=some u:=fun b u e=>(zD (zI e hn)).trans e;refine I.step (g':=s.gens) (d':=s.drawn) (ch:=ch) (fun b hb=>?_) (fun b u _ _ hc e _=>k b u hc e) (fun b u _ _ hc e _=>⟨u.slots,k b u hc e⟩) (fun b u _ e n=>(zD (ab b u e)).trans n)
  (fun b u hc e=>⟨u,k b u hc e⟩) (fun b xs e=>up b _ e) (fun b u v e=>up b _ e) (fun b ps e=>up b _ e) (fun m hm=>?_) (fun b u e=>?_) I.bare
 ·obtain⟨_,f1,_,f3,f4,f5⟩:=hf b hb;exact⟨f3,f1,f4,f5⟩
 ·obtain⟨ob,es,ep,ho,r⟩:=hm;exact⟨ob,es,ep,k _ ob (fun z=>(hf _ z).2.1 rfl) ho,r⟩
 ·by_cases hb:b=T
  ·subst hb;rw[zX]at e;cases e;exact new
  ·rw[zD hb]at e;refine(I.hok b u e).stay (fun c v hc q=>k c v ?_ q) (fun c q=>up c _ q) (fun c xs q=>up c _ q) fun c o u q=>up c _ q;rcases hc with z|z
   ·rw[z];exact aa b u e
   ·exact aa c _ z
theorem Inv.turnedN{t':Nat}{ch:List Addr}(I:Inv X ze σ H s)(k:∀b u,b∉ch->s.heap.get? b=some u->h'.get? b=some u)(hf:∀b∈ch,FpOk X ze H b):Inv X ze σ H { s with heap:=h',toks:=t' }:=by
 have aa:∀b u,H b=some u->b∉ch:=fun b u e m=>by rw[(hf b m).1]at e;cases e
 refine I.step (g':=s.gens) (d':=s.drawn) (ch:=ch) (fun b hb=>?_) (fun b u _ _ hc e _=>k b u hc e) (fun b u _ _ hc e _=>⟨u.slots,k b u hc e⟩) (fun b u _ e n=>n)
  (fun b u hc e=>⟨u,k b u hc e⟩) (fun b xs e=>e) (fun b u v e=>e) (fun b ps e=>e) (fun m hm=>?_) (fun b u e=>?_) I.bare
 ·obtain⟨_,f1,_,f3,f4,f5⟩:=hf b hb;exact⟨f3,f1,f4,f5⟩
 ·obtain⟨ob,es,ep,ho,r⟩:=hm;exact⟨ob,es,ep,k _ ob (fun z=>(hf _ z).2.1 rfl) ho,r⟩
 ·refine(I.hok b u e).stay (fun c v hc q=>k c v ?_ q) (fun _ q=>q) fun _ _ q=>q;rcases hc with z|z
  ·rw[z];exact aa b u e
  ·exact aa c _ z
end
section
variable {prog:gf}{w:iu}{A:iq}{E:bo->bq->Prop}{s:bq}
theorem CT{j t:Addr}{i:Nat}{vs:Array bo}{x:bo}{Q:bo->bq->Prop}(hj:s.heap.IsTupleIter j t i)(ht:s.heap.IsTuple t vs)(hx:vs[i]?=some x)
  (hQ:∀g,g.IsTupleIter j t (i+1)->gd j s.heap g->Q x { s with heap:=g }):cp (model prog w) A (gq (.ref j)) Q E s:=by
 obtain⟨oj,ej,cj,dj⟩:=id hj;obtain⟨ot,et,_,nt,dt⟩:=ht;unfold gq;refine bn (gw (name:=lh "__next__") hj.typeIs F.slot_tuple_iterator_next (gx F.slot_tuple_iterator_next hj.typeIs F.entry_tuple_iterator_next ?_ (F.args_tuple_iterator_next_1 _)));show cp _ _ (field (.ref j) 0 >>= _) _ _ s;refine bn (jt ej dj (x:=.ref t) rfl ?_);show cp _ _ (ite ((gk t==lj)=true) _ _) _ _ s;refine(cm (show ¬((gk t==lj)=true)from jg))▸?_;show cp _ _ (field (.ref j) 1 >>= _) _ _ s;refine bn (jt ej dj (x:=.int i 0) rfl ?_);refine bn (m:=seqItems? (.ref t)) (qi et dt ?_);simp only[hx,im];refine bn (wpAny_setField ej dj yv (bp ⟨x,rfl,bp (hQ _ ⟨_,uh _ ej (Obj.isFreed_of_fields (Obj.data_mapFields dj _)),(Obj.cls_mapFields ..).trans cj,?_⟩ (kg ..))⟩));rw[Obj.data_mapFields dj];simp[nr]
theorem FJ{j t:Addr}{i:Nat}{vs:Array bo}{Q:bo->bq->Prop}(hh:A.handled=none)(hj:s.heap.IsTupleIter j t i)(ht:s.heap.IsTuple t vs)(hx:vs[i]?=none)
  (hE:∀g e,va j s.heap g->(∃o,g.get? e=some o/\o.cls=.type "StopIteration")->E (.ref e) { s with heap:=g }):cp (model prog w) A (gq (.ref j)) Q E s:=by
 obtain⟨oj,ej,cj,dj⟩:=id hj;obtain⟨ot,et,_,nt,dt⟩:=ht;unfold gq;refine bn (gw (name:=lh "__next__") hj.typeIs F.slot_tuple_iterator_next (gx F.slot_tuple_iterator_next hj.typeIs F.entry_tuple_iterator_next ?_ (F.args_tuple_iterator_next_1 _)));show cp _ _ (field (.ref j) 0 >>= _) _ _ s;refine bn (jt ej dj (x:=.ref t) rfl ?_);show cp _ _ (ite ((gk t==lj)=true) _ _) _ _ s;refine(cm (show ¬((gk t==lj)=true)from jg))▸?_;show cp _ _ (field (.ref j) 1 >>= _) _ _ s;refine bn (jt ej dj (x:=.int i 0) rfl ?_);refine bn (m:=seqItems? (.ref t)) (qi et dt ?_);simp only[hx,im];refine bn (lq (bn (wpAny_setField ej dj yv ?_)));show cp _ _ (newExc (.type "StopIteration") [] >>= _) _ _ _;refine bn ?_;simp only[newExc,newTuple];refine bn (io ?_ (by size_fits));refine bn (m:=uc _ _) (wpAny_of_eq (a:=lj) (by first|rfl|(simp only[uc];rfl)) ?_);refine io ?_ (by size_fits);simp only[raiseNew];refine bn (wpAny_handled ?_)
 first|rw[show A.in1.handled=none from hh]|rw[hh]
 exact bn (bp (wpAny_throw (hE _ _ (((kg ..).extBut.push _).push _) ⟨_,cy _ rfl,rfl⟩)))
theorem Fx{e j:Addr}{i:Nat}{x z:bo}{J:Heap->Prop}{Q:bo->bq->Prop}(he:IsEnum s.heap e j i z)(aa:e≠j)
  (hn:∀(Q':bo->bq->Prop) (E':bo->bq->Prop),(∀g,J g->gd j s.heap g->Q' x { s with heap:=g })->cp (model prog w) A (gq (.ref j)) Q' E' s)
  (hJ:∀g g',J g->(∀o,g.get? j=some o->g'.get? j=some o)->J g')
  (hQ:∀g,IsEnumOut g e j ((i:Int)+1) x s.heap.objs.size->J g->g.get? s.heap.objs.size=some { cls:=.type "tuple",data:=.seq #[.int i s.toks,x] } ->
   (∀b o,b≠e->b≠j->s.heap.get? b=some o->g.get? b=some o)->Q (.ref s.heap.objs.size) { s with heap:=g,toks:=s.toks+1 }):
  cp (model prog w) A (lg.«enumerate.__next__» ⟨[.ref e],[]⟩) (fun fin s'=>∃v,fin=.done (.ret v)/\Q v s') E s:=by
 obtain⟨h0,gs,dr,tk,os⟩:=s;show cp _ _ (field (.ref e) 2 >>= _) _ _ _;refine bn (jt he rfl (x:=.ref j) rfl (bn (hn _ _ fun g1 J1 b1=>?_)));replace b1:gd j h0 g1:=b1;have e1:IsEnum g1 e j i z:=(b1.2 e aa).trans he;show cp _ _ (field (.ref e) 3 >>= _) _ _ ⟨g1,gs,dr,tk,os⟩;refine bn (jt e1 rfl (x:=nr i) rfl ?_);show cp _ _ (field (.ref e) 4 >>= _) _ _ ⟨g1,gs,dr,tk,os⟩;refine bn (jt e1 rfl (x:=.none) rfl ?_);show cp _ _ (mkInt i >>= _) _ _ ⟨g1,gs,dr,tk,os⟩;refine bn (wpAny_mkInt ?_);show cp _ _ (setField (.ref e) 3 (nr ((i:Int)+1)) >>= _) _ _ ⟨g1,gs,dr,tk+1,os⟩;refine bn (gz e1 yv fun g2 e2 b2=>?_);replace b2:gd e g1 g2:=b2;replace e2:IsEnum g2 e j ((i:Int)+1) z:=e2;show cp _ _ (setField (.ref e) 4 .none >>= _) _ _ ⟨g2,gs,dr,tk+1,os⟩;refine bn (gz e2 yv fun g3 e3 b3=>?_);replace b3:gd e g2 g3:=b3;replace e3:IsEnum g3 e j ((i:Int)+1) z:=e3;show cp _ _ (newTuple [.int i tk,x] >>= _) _ _ ⟨g3,gs,dr,tk+1,os⟩;refine bn (wpAny_newTuple ?_);have sz:g3.objs.size=h0.objs.size:=by rw[b3.1,b2.1,b1.1]
 have lt:e<h0.objs.size:=gi he;have e4:IsEnum (g3.push { cls:=.type "tuple",data:=.seq #[.int i tk,x] }) e j ((i:Int)+1) z:=bu _ e3;have J3:J g3:=hJ _ _ (hJ _ _ J1 fun o q=>b2.extBut j o (kf aa) q) fun o q=>b3.extBut j o (kf aa) q;have J4:J (g3.push { cls:=.type "tuple",data:=.seq #[.int i tk,x] }):=hJ _ _ J3 fun o q=>bu _ q;have t4:(g3.push { cls:=.type "tuple",data:=.seq #[.int i tk,x] }).get? h0.objs.size=some { cls:=.type "tuple",data:=.seq #[.int i tk,x] }:=by rw[<- sz];exact cy _ rfl
 have k4:∀b o,b≠e->b≠j->h0.get? b=some o->(g3.push { cls:=.type "tuple",data:=.seq #[.int i tk,x] }).get? b=some o:=fun b o n1 n2 q=>bu _ (b3.extBut b o n1 (b2.extBut b o n1 (b1.extBut b o n2 q)));generalize g3.push { cls:=.type "tuple",data:=.seq #[.int i tk,x] } = g4 at e4 J4 t4 k4 ⊢;show cp _ _ (jv (.ref e) >>= _) _ _ ⟨g4,gs,dr,tk+1,os⟩;rw[sz];refine bn ?_;unfold jv;refine bn (jt e4 rfl (x:=.none) rfl (bp ?_));simp only[if_true];refine bn (lq (bn (jt e4 rfl (x:=z) rfl (bn (gz e4 yv fun g5 e5 b5=>?_)))));replace b5:gd e g4 g5:=b5;replace e5:IsEnum g5 e j ((i:Int)+1) x:=e5;show cp _ _ (Builtin.SmallTypes.ownedTupleHandOut (.ref e) (.ref h0.objs.size) >>= _) _ _ ⟨g5,gs,dr,tk+1,os⟩;refine bn ?_;unfold Builtin.SmallTypes.ownedTupleHandOut;refine bn (gz e5 yv fun g6 e6 b6=>?_);replace b6:gd e g5 g6:=b6;replace e6:IsEnumOut g6 e j ((i:Int)+1) x h0.objs.size:=e6;refine gz e6 yv fun g7 e7 b7=>?_;replace b7:gd e g6 g7:=b7;replace e7:IsEnumOut g7 e j ((i:Int)+1) x h0.objs.size:=e7;have k7:∀b o,b≠e->g4.get? b=some o->g7.get? b=some o:=fun b o n q=>b7.extBut b o n (b6.extBut b o n (b5.extBut b o n q));exact bn (wpAny_letGo (bp ⟨_,rfl,hQ g7 e7 (hJ _ _ J4 fun o q=>k7 j o (kf aa) q) (k7 _ _ (vf lt) t4) fun b o n1 n2 q=>k7 b o n1 (k4 b o n1 n2 q)⟩))
theorem C9{e j:Addr}{i:Nat}{x q:bo}{J:Heap->Prop}{Q:Option bo->bq->Prop}(he:IsEnum s.heap e j i q)(z:e≠j)
  (hn:∀(A:iq) (Q':bo->bq->Prop) (E':bo->bq->Prop),(∀g,J g->gd j s.heap g->Q' x { s with heap:=g })->cp (model prog w) A (gq (.ref j)) Q' E' s)
  (hJ:∀g g',J g->(∀o,g.get? j=some o->g'.get? j=some o)->J g')
  (hQ:∀g,IsEnumOut g e j ((i:Int)+1) x s.heap.objs.size->J g->g.get? s.heap.objs.size=some { cls:=.type "tuple",data:=.seq #[.int i s.toks,x] } ->
   (∀b o,b≠e->b≠j->s.heap.get? b=some o->g.get? b=some o)->Q (some (.ref s.heap.objs.size)) { s with heap:=g,toks:=s.toks+1 }):cp (model prog w) A (nq (.ref e)) Q E s:=by
 have ty:s.TypeIs (.ref e) "enumerate":=⟨_,he,rfl⟩;unfold nq;exact bn (nl (gw (name:=lh "__next__") ty F.slot_enumerate_next (gx F.slot_enumerate_next ty F.entry_enumerate_next (Fx he z (hn _) hJ fun g a b c k=>bp (hQ g a b c k)) (F.args_enumerate_next_1 _))))
theorem Aq{e j:Addr}{i:Nat}{q:bo}{Q:Option bo->bq->Prop}(hh:A.handled=none)(he:IsEnum s.heap e j i q)
  (hn:∀(A:iq) (Q':bo->bq->Prop) (E':bo->bq->Prop),A.handled=none->(∀g x,va j s.heap g->(∃o,g.get? x=some o/\o.cls=.type "StopIteration")->E' (.ref x) { s with heap:=g })->cp (model prog w) A (gq (.ref j)) Q' E' s)
  (hQ:∀g,va j s.heap g->Q none { s with heap:=g }):cp (model prog w) A (nq (.ref e)) Q E s:=by
 have ty:s.TypeIs (.ref e) "enumerate":=⟨_,he,rfl⟩;unfold nq;refine bn (nl (gw (name:=lh "__next__") ty F.slot_enumerate_next (gx F.slot_enumerate_next ty F.entry_enumerate_next ?_ (F.args_enumerate_next_1 _))));show cp _ _ (field (.ref e) 2 >>= _) _ _ _;refine bn (jt he rfl (x:=.ref j) rfl (bn (hn _ _ _ hh fun g x b hx=>?_)));obtain⟨o,ho,hc⟩:=hx;exact bn (kx (T:="StopIteration") (b:=true) ⟨o,ho,hc⟩ isSubtype_stop (bp (hQ _ b)))
theorem MA(t:Addr)(vs:Array bo)(n:Nat)(z:Option Addr)(sl:Array (Option bo)):Meets (lg.«enumerate.__new__» ⟨[.type "enumerate",.ref t],[]⟩) (fun _ R s=>s.heap.get? t=some { cls:=.type "tuple",dict:=z,data:=.seq vs n,slots:=sl } /\
   R (.ok (.ret (.ref (s.heap.push { cls:=.type "tuple_iterator",data:=.fields #[.ref t,.int 0 0] }).objs.size)))
    { s with heap:=(s.heap.push { cls:=.type "tuple_iterator",data:=.fields #[.ref t,.int 0 0] }).push { cls:=.type "enumerate",data:=.fields #[.none,.bool false,.ref s.heap.objs.size,nr 0,.none,.none] } }):=
 .of_wp fun prog w A R s q=>by
  obtain⟨g0,gs,dr,tk,os⟩:=s;obtain⟨ht,q⟩:=q;have sub:=sub_enumerate;have hT:Heap.IsTuple (Shared.heap ⟨g0,gs,dr,tk,os⟩) t vs:=⟨_,ht,rfl,n,rfl⟩
  wp_walk using wpAny_loadPart' ht
  refine wpAny_stack_any fun _=>bp ?_;split
  ·rename_i c _ _ _ _ _;cases (c==Value.type "enumerate")<;>(wp_walk using wpAny_loadPart' ht,sf hT;exact⟨_,rfl,q⟩)
  ·wp_walk using wpAny_loadPart' ht,sf hT
   exact⟨_,rfl,q⟩
theorem JG{t:Addr}{vs:Array bo}{Q:bo->bq->Prop}(hT:s.heap.IsTuple t vs)
  (hyp:∀g,IsEnum g (s.heap.objs.size+1) s.heap.objs.size 0 .none->g.IsTupleIter s.heap.objs.size t 0->(∀b o,s.heap.get? b=some o->g.get? b=some o)->Q (.ref (s.heap.objs.size+1)) { s with heap:=g }):cp (model prog w) A (call (.type "enumerate") [.ref t]) Q E s:=by
 obtain⟨⟨c,z,dt,sl⟩,ht,hc,n,hd⟩:=hT;replace hc:c=.type "tuple":=hc;replace hd:dt=.seq vs n:=hd;subst hc hd;refine callType_new F.called_enumerate dz (F.typeCall_enumerate_1 _) (F.newCall_enumerate_1 _) (fun ob=>F.args_object_init_2 ob _) F.entry_enumerate_new (MA t vs n z sl) ⟨ht,?_⟩;have sz:(s.heap.push { cls:=.type "tuple_iterator",data:=.fields #[.ref t,.int 0 0] }).objs.size=s.heap.objs.size+1:=size_push ..;show _/\_;rw[sz];have he:=cy (s.heap.push { cls:=.type "tuple_iterator",data:=.fields #[.ref t,.int 0 0] }) (o:={ cls:=.type "enumerate",data:=.fields #[.none,.bool false,.ref s.heap.objs.size,nr 0,.none,.none] }) rfl;rw[sz]at he;exact⟨⟨_,he,rfl⟩,hyp _ he ⟨_,bu _ (cy _ rfl),rfl,rfl⟩ fun b o q=>bu _ (bu _ q)⟩
end
def Ite(Sq:Hp->Addr->List V->Prop)(a:Addr):It:=
 ⟨fun i H=>∃xs x,Sq H a xs/\xs[i]?=some x,fun i H x H'=>∃p v,H p=none/\x=.ref p/\H'=upd H p (.tup [.int i,v])/\∀xs,Sq H a xs->xs[i]?=some v,fun i H=>∃xs,Sq H a xs/\xs.length<=i⟩
theorem GS{P:gf}{w:iu}{K:fe}{elts:List Expr}{n:Nat}{pos:Pos}(a e j:Addr)(ac:e≠j):Turn P w K (.Tuple elts n pos) (Ite (SqT K) a) [e,j] e (fun i h=>(∃aa,IsEnum h e j i aa)/\h.IsTupleIter j a i) where
 mem:=by simp
 obj:=fun i h ⟨⟨aa,he⟩,hj⟩ b hb=>by
  rcases mem_cons.mp hb with rfl|hb
  ·exact⟨_,he,fun v z=>by
    have z':Data.fields _=Data.cell v:=z;cases z'⟩
  ·rw[mem_singleton.mp hb];obtain⟨o,q,c,d⟩:=hj;exact⟨o,q,fun v z=>by rw[d]at z;cases z⟩
 keep:=fun i h h' ⟨⟨aa,he⟩,hj⟩ k=>⟨⟨aa,k e yv _ he⟩,hj.at fun o q=>k j yv o q⟩
 item:=by
  intro X hP hw hK hc i ze s σ H E I hf ⟨⟨aa,he⟩,hj⟩ hg;subst hP hw hK;obtain⟨xs,x,hq,hx⟩:=hg;obtain⟨ab,rv,p,hz⟩:=I.tuple hq;obtain⟨u,hu,ru⟩:=rv.get hx;have hT:s.heap.IsTuple a ab.toArray:=p;refine C9 (J:=fun g=>g.IsTupleIter j a (i+1)) he ac (fun A' Q' E' k=>CT hj hT (x:=u) (by simpa using hu) k) (fun g g' z k=>z.at k) fun g e1 j1 t1 k1=>?_;refine⟨_,rfl,wpAny_letOwnedTupleGo_enum (s:={ s with heap:=g,toks:=s.toks+1 }) e1 fun g' e2 b2=>?_⟩;have lt:e<s.heap.objs.size:=gi he;have af:j<s.heap.objs.size:=by
   obtain⟨_,q,_⟩:=hj;exact gi q
  have t2:g'.get? s.heap.objs.size=some { cls:=.type "tuple",data:=.seq #[.int i s.toks,u] }:=(b2.2 _ (vf lt)).trans t1;have ae:H s.heap.objs.size=none:=I.hok.fresh (dh _);refine⟨.ref s.heap.objs.size,upd H s.heap.objs.size (.tup [.int i,x]),I.turnLaid (ch:=[e,j]) (t':=s.toks+1) (fun b o nb q=>(b2.2 b fun z=>nb (by simp[z])).trans (k1 b o (fun z=>nb (by simp[z])) (fun z=>nb (by simp[z])) q)) hf (dh _) ?_,rfl,
   ⟨_,x,ae,rfl,rfl,fun ys hy=>by rw[I.tuple_inj hy hq];exact hx⟩,⟨⟨u,by simpa using e2⟩,j1.at fun o q=>(b2.2 j (kf ac)).trans q⟩,fun b hb=>?_⟩
  ·refine⟨⟨by show 2<=fk;decide,_,t2,rfl⟩,[.int i s.toks,u],.cons ⟨s.toks,rfl⟩ (.cons ru .nil),⟨_,t2,rfl,_,rfl⟩⟩
  ·rcases mem_cons.mp hb with rfl|hb
   ·rw[zD (gy lt)];exact(hf _ yv).1
   ·rw[mem_singleton.mp hb,zD (gy af)];exact(hf _ yv).1
 done:=by
  intro X hP hw hK hc i ze s σ H E I hf ⟨⟨aa,he⟩,hj⟩ hg;subst hP hw hK;obtain⟨xs,hq,hx⟩:=hg;obtain⟨ab,rv,p,hz⟩:=I.tuple hq;have hT:s.heap.IsTuple a ab.toArray:=p;have hl:=rv.length;exact Aq (I.ok.hd hc) he (fun A' Q' E' h0 k=>FJ h0 hj hT (by simp;omega) k) fun g b=>⟨rfl,I.turnedN (ch:=[e,j]) (t':=s.toks) (fun b' o nb q=>b b' o (fun z=>nb (by simp[z])) q) hf⟩
 self:=fun _ _ _ _ _ st h=>by
  obtain⟨⟨aa,he⟩,_⟩:=st;exact wpAny_pyIter_enum he h
theorem Kj{P:gf}{w:iu}{K:fe}{elts:List Expr}{n:Nat}{pos:Pos}(a e j:Addr)(ac:e≠j):Turn P w K (.Tuple elts n pos) (Ite (SqL K) a) [e,j] e (fun i h=>(∃aa,IsEnum h e j i aa)/\h.IsListIter j a i) where
 mem:=by simp
 obj:=fun i h ⟨⟨aa,he⟩,hj⟩ b hb=>by
  rcases mem_cons.mp hb with rfl|hb
  ·exact⟨_,he,fun v z=>by
    have z':Data.fields _=Data.cell v:=z;cases z'⟩
  ·rw[mem_singleton.mp hb];obtain⟨o,q,c,d⟩:=hj;exact⟨o,q,fun v z=>by rw[d]at z;cases z⟩
 keep:=fun i h h' ⟨⟨aa,he⟩,hj⟩ k=>⟨⟨aa,k e yv _ he⟩,hj.at fun o q=>k j yv o q⟩
 item:=by
  intro X hP hw hK hc i ze s σ H E I hf ⟨⟨aa,he⟩,hj⟩ hg;subst hP hw hK;obtain⟨xs,x,hq,hx⟩:=hg;obtain⟨ab,rv,p,hz⟩:=I.list hq;obtain⟨u,hu,ru⟩:=rv.get hx;have hT:s.heap.IsList a ab.toArray:=p.isList;refine C9 (J:=fun g=>g.IsListIter j a (i+1)) he ac (fun A' Q' E' k=>wpAny_nextOf_list_item hj hT (x:=u) (by simpa using hu) k) (fun g g' z k=>z.at k) fun g e1 j1 t1 k1=>?_;refine⟨_,rfl,wpAny_letOwnedTupleGo_enum (s:={ s with heap:=g,toks:=s.toks+1 }) e1 fun g' e2 b2=>?_⟩;have lt:e<s.heap.objs.size:=gi he;have af:j<s.heap.objs.size:=by
   obtain⟨_,q,_⟩:=hj;exact gi q
  have t2:g'.get? s.heap.objs.size=some { cls:=.type "tuple",data:=.seq #[.int i s.toks,u] }:=(b2.2 _ (vf lt)).trans t1;have ae:H s.heap.objs.size=none:=I.hok.fresh (dh _);refine⟨.ref s.heap.objs.size,upd H s.heap.objs.size (.tup [.int i,x]),I.turnLaid (ch:=[e,j]) (t':=s.toks+1) (fun b o nb q=>(b2.2 b fun z=>nb (by simp[z])).trans (k1 b o (fun z=>nb (by simp[z])) (fun z=>nb (by simp[z])) q)) hf (dh _) ?_,rfl,
   ⟨_,x,ae,rfl,rfl,fun ys hy=>by rw[I.list_inj hy hq];exact hx⟩,⟨⟨u,by simpa using e2⟩,j1.at fun o q=>(b2.2 j (kf ac)).trans q⟩,fun b hb=>?_⟩
  ·refine⟨⟨by show 2<=fk;decide,_,t2,rfl⟩,[.int i s.toks,u],.cons ⟨s.toks,rfl⟩ (.cons ru .nil),⟨_,t2,rfl,_,rfl⟩⟩
  ·rcases mem_cons.mp hb with rfl|hb
   ·rw[zD (gy lt)];exact(hf _ yv).1
   ·rw[mem_singleton.mp hb,zD (gy af)];exact(hf _ yv).1
 done:=by
  intro X hP hw hK hc i ze s σ H E I hf ⟨⟨aa,he⟩,hj⟩ hg;subst hP hw hK;obtain⟨xs,hq,hx⟩:=hg;obtain⟨ab,rv,p,hz⟩:=I.list hq;have hT:s.heap.IsList a ab.toArray:=p.isList;have hl:=rv.length;exact Aq (I.ok.hd hc) he (fun A' Q' E' h0 k=>wpAny_nextOf_list_end h0 hj hT (by simp;omega) k) fun g b=>⟨rfl,I.turnedN (ch:=[e,j]) (t':=s.toks) (fun b' o nb q=>b b' o (fun z=>nb (by simp[z])) q) hf⟩
 self:=fun _ _ _ _ _ st h=>by
  obtain⟨⟨aa,he⟩,_⟩:=st;exact wpAny_pyIter_enum he h
section
variable {X:Cx}{elts:List Expr}{n:Nat}{tpos:Pos}
theorem G7:jq "enumerate" = some (.type "enumerate"):=by decide +kernel
end
def fJ(i:Nat):List bt->List bt
 | []=>[]
 |d::ds=>.tuple [.int i,d]::fJ (i+1) ds
theorem vB:∀(ds:List bt) (i:Nat),(fJ i ds).length=ds.length
 | [],_=>rfl
 |d::ds,i=>by simp[fJ,vB ds (i+1)]
theorem tD:∀(ds:List bt) (i k:Nat) (d:bt),(fJ i ds)[k]?=some d->∃e,ds[k]?=some e/\d=.tuple [.int ((i+k:Nat):Int),e]
 | [],_,_,_,h=>by simp[fJ]at h
 |c::ds,i,0,d,h=>by
  have e:PyData.tuple [.int i,c]=d:=by simpa[fJ]using h
  exact⟨c,rfl,by rw[<- e];rfl⟩
 |c::ds,i,k+1,d,h=>by
  obtain⟨e,h1,h2⟩:=tD ds (i+1) k d (by simpa[fJ]using h);exact⟨e,by simpa using h1,by rw[h2];congr 3;omega⟩
end
section
def dIx:D2:=fun x y S R=>asI y fun i=>match x with
 | .d (.tuple ds)=>∃d,atI ds i=some d/\R (.d d) S
 | .d (.list ds)=>∃d,atI ds i=some d/\R (.d d) S
 | .l k=>∃ds,S[k]?=some ds/\∃d,atI ds i=some d/\R (.d d) S
 | .d (.str z)=>z.length<=fk/\∃c,atI z.cps.toList i=some c/\R (.d (.str ⟨#[c]⟩)) S
 |_=>False
theorem JU:RO AV (fun x y S R=>asS x fun z=>asI y fun i=>z.length<=fk/\∃c,atI z.cps.toList i=some c/\R (.d (.str ⟨#[c]⟩)) S):=fun h o H S x y v u R Q hs hx hy q c=>by
 replace q:=vO q;obtain⟨z,rfl,q⟩:=q;replace q:=bM q;obtain⟨i,rfl,hz,k,ek,q⟩:=q;exact⟨z,i,k,fX hx,bQ hy,hz,ek,c o H S _ _ Ex.refl hs (xS _) q⟩
theorem fV{K:fe}:RO (rIx K) dIx:=fun h o H S x y v u R Q hs hx hy q c=>by
 replace q:=bM q;obtain⟨i,rfl,q⟩:=q;split at q
 ·exact .inr (.inl (M9 h o H S _ _ v u R Q hs hx hy q c))
 ·exact .inl (Ad h o H S _ _ v u R Q hs hx hy ⟨_,rfl,q⟩ c)
 ·exact .inl (Ad h o H S _ _ v u R Q hs hx hy q c)
 ·exact .inr (.inr (JU h o H S _ _ v u R Q hs hx hy q c))
 ·exact q.elim
section
variable {S:Sto}{R:RX}{ds:List bt}{i:Int}{k:Nat}{z:Str}
theorem rY:dIx (.d (.tuple ds)) (.d (.int i)) S R=∃d,atI ds i=some d/\R (.d d) S:=rfl
theorem qV:dIx (.d (.list ds)) (.d (.int i)) S R=∃d,atI ds i=some d/\R (.d d) S:=rfl
theorem pI:dIx (.l k) (.d (.int i)) S R=∃ds,S[k]?=some ds/\∃d,atI ds i=some d/\R (.d d) S:=rfl
end
def FU(K:fe):V->Option Int->Option Int->Hp->VK->Prop:=fun x a b H Q=>nG K x a b H Q\/(AF K x a b H Q\/B8 x a b H Q)
theorem El{X:Cx}:SlR X (FU X.K):=Bk.or (Bf.or MP)
def mX:D3:=fun x i j S R=>match x with
 | .d (.tuple ds)=>¬(HT.sIx ds.length 0 i=0/\HT.sIx ds.length ds.length j=ds.length)/\R (.d (.tuple (b9 ds i j))) S
 | .d (.list ds)=>R (.d (.list (b9 ds i j))) S
 | .l k=>∃ds,S[k]?=some ds/\R (.d (.list (b9 ds i j))) S
 | .d (.str z)=>z.length<=fk/\R (.d (.str (PySem.Txt.slice z i j))) S
 |_=>False
theorem DL{K:fe}:RL (FU K) mX:=fun h o H S x v a b R Q hs hx q c=>by
 unfold mX at q;split at q
 ·exact .inr (.inl (Jb h o H S _ v a b R Q hs hx q c))
 ·exact .inl (Fa h o H S _ v a b R Q hs hx ⟨_,rfl,q⟩ c)
 ·exact .inl (Fa h o H S _ v a b R Q hs hx q c)
 ·exact .inr (.inr ⟨_,fX hx,q.1,c o H S _ _ Ex.refl hs (xS _) q.2⟩)
 ·exact q.elim
section
variable {S:Sto}{R:RX}{ds:List bt}{i j:Option Int}{k:Nat}{z:Str}
theorem m7:mX (.d (.list ds)) i j S R=R (.d (.list (b9 ds i j))) S:=rfl
end
def DQ(K:fe):R2:=fun x y H Q=>∃a b ys,x=.ref a/\y=.ref b/\SqT K H a []/\SqT K H b ys/\Q (.ref b) H
theorem KU{X:Cx}:OpR X (oh .Add) (DQ X.K):=by
 intro ze s σ H x y v u Q I rx ry h;obtain⟨a,b,ys,rfl,rfl,ha,hb,q⟩:=h;cases rx;cases ry;obtain⟨aa,r1,p1,_⟩:=I.tuple ha;obtain⟨z,r2,p2,_⟩:=I.tuple hb;cases r1;obtain⟨⟨c1,d1,e1,l1⟩,o1,w1,n1,k1⟩:=id p1;obtain⟨⟨c2,d2,e2,l2⟩,o2,w2,n2,k2⟩:=id p2;simp only at w1 k1 w2 k2;subst w1 k1 w2 k2;exact concat_meets ⟨_,o1,rfl⟩ ⟨_,o2,rfl⟩ noFill_tuple_add seq_tuple_add PySem.F.slot_tuple_add PySem.F.entry_tuple_add (PySem.F.args_tuple_add_2 _ _) (tuple_addW0 a b _ _ n1 n2 d1 d2 l1 l2 yv) ⟨o1,o2,⟨.ref b,H,I,rfl,q⟩⟩
def BS(K:fe):R2:=fun x y H Q=>rI0 (fun i j=>.int (i+j)) x y H Q\/(qH x y H Q\/(xA K x y H Q\/(DQ K x y H Q\/∃i j,x=.str i/\y=.str j/\i.length+j.length<=fk/\Q (.str (i++j)) H)))
theorem bO{X:Cx}:OpR X (oh .Add) (BS X.K):=MG.or (F2.or (KA.or (KU.or Hb)))
def aR:D2:=fun x y S R=>match x,y with
 | .d (.int i),.d (.int j)=>R (.d (.int (i+j))) S
 | .d (.tuple ds),.d (.tuple es)=>ds.length+es.length<=1000/\R (.d (.tuple (ds++es))) S
 | .d (.str a),.d (.str b)=>a.length+b.length<=fk/\R (.d (.str (a++b))) S
 |x,y=>asL S x fun ds=>asL S y fun es=>ds.length+es.length<=1000/\R (.d (.list (ds++es))) S
theorem iA{K:fe}:RO (BS K) aR:=fun h o H S x y v u R Q hs hx hy q c=>by
 unfold aR at q;split at q
 ·exact .inl (AE h o H S _ _ v u R Q hs hx hy q c)
 ·rename_i ds es;cases ds with
  |cons d ds=>exact .inr (.inr (.inl (GX h o H S _ _ v u R Q hs hx hy ⟨yv,q⟩ c)))
  |nil=>
   obtain⟨a,vs,rfl,ea,l⟩:=d9 hx;obtain⟨b,us,rfl,eb,l'⟩:=d9 hy;rw[zx.mp l]at ea;exact .inr (.inr (.inr (.inl ⟨a,b,us,rfl,rfl,.of ea,.of eb,c o H S (.d (.tuple es)) _ Ex.refl hs hy q.2⟩)))
 ·exact .inr (.inr (.inr (.inr ⟨_,_,fX hx,fX hy,q.1,c o H S _ _ Ex.refl hs (xS _) q.2⟩)))
 ·exact .inr (.inl (J0 h o H S _ _ v u R Q hs hx hy q c))
section
variable {S:Sto}{R:RX}{ds es:List bt}{i j:Int}{k l:Nat}{a b:Str}
theorem nE:aR (.d (.int i)) (.d (.int j)) S R=R (.d (.int (i+j))) S:=rfl
theorem rZ:aR (.d (.tuple ds)) (.d (.tuple es)) S R=(ds.length+es.length<=1000/\R (.d (.tuple (ds++es))) S):=rfl
theorem oT:aR (.d (.list ds)) (.d (.list es)) S R↔(ds.length+es.length<=1000/\R (.d (.list (ds++es))) S):=⟨fun⟨_,e,_,e',q⟩=>by cases e;cases e';exact q,fun q=>⟨_,rfl,_,rfl,q⟩⟩
end
def FT:R2:=fun x y H Q=>rI IntMulOk (fun i j=>.int (i*j)) x y H Q\/(FZ x y H Q\/Bb x y H Q)
theorem eZ{X:Cx}:OpR X (oh .Mult) FT:=LN.or (JB.or MN)
def cM:D2:=fun x y S R=>asI y fun j=>match x with
 | .d (.int i)=>IntMulOk i j/\R (.d (.int (i*j))) S
 | .d (.str z)=>z.length<=1000/\j<=1000/\-1000<=j/\R (.d (.str (PySem.Txt.mul z j))) S
 | .d (.list ds)=>j<=1000/\-1000<=j/\ds.length*j.toNat<=1000/\R (.d (.list (bx j.toNat ds).flatten)) S
 |_=>False
theorem HasL.rep{H:Hp}{ds:List bt}{vs:List V}(l:HasL H ds vs):∀n:Nat,HasL H (bx n ds).flatten (bx n vs).flatten
 | 0=>zx.mpr rfl
 |n+1=>by
  rw[ox,ox,uj,uj];exact l.append (HasL.rep l n)
theorem Ck:RO FT cM:=fun h o H S x y v u R Q hs hx hy q c=>by
 replace q:=bM q;obtain⟨j,rfl,q⟩:=q;split at q
 ·exact .inl (tN h o H S _ _ v u R Q hs hx hy q c)
 ·exact .inr (.inl ⟨_,_,fX hx,bQ hy,q.1,q.2.1,q.2.2.1,c o H S _ _ Ex.refl hs (xS _) q.2.2.2⟩)
 ·obtain⟨a,vs,rfl,ea,l⟩:=cA (x:=.d (.list _)) hs rfl hx;obtain⟨h1,h2,h3,q⟩:=q;exact .inr (.inr ⟨a,j,vs,rfl,bQ hy,ea,yw,yw,by rw[l.length];exact lz (small1000 h3),gX hs (l.rep j.toNat) c q⟩)
 ·exact q.elim
section
variable {S:Sto}{R:RX}{i j:Int}{z:Str}{ds:List bt}
theorem nR:cM (.d (.int i)) (.d (.int j)) S R=(IntMulOk i j/\R (.d (.int (i*j))) S):=rfl
end
def Ce:R2:=fun x y H Q=>rI CDivX (fun i j=>.int (i/j)) x y H Q\/rI CDivN (fun i j=>.int (i.fdiv j)) x y H Q
theorem CI{X:Cx}:OpR X (oh .FloorDiv) Ce:=G4.or Gs
def dFd:D2:=fun x y S R=>asI x fun i=>asI y fun j=>(CDivX i j/\R (.d (.int (i/j))) S)\/(CDivN i j/\R (.d (.int (i.fdiv j))) S)
theorem HF:RO Ce dFd:=fun h o H S x y v u R Q hs hx hy q c=>by
 replace q:=bM q;obtain⟨i,rfl,q⟩:=q;replace q:=bM q;obtain⟨j,rfl,q⟩:=q;rcases q with q|q
 ·exact .inl (tN (C:=CDivX) (g:=fun i j=>i/j) h o H S _ _ v u R Q hs hx hy q c)
 ·exact .inr (tN (C:=CDivN) (g:=fun i j=>i.fdiv j) h o H S _ _ v u R Q hs hx hy q c)
def sR(S:Sto):XV->Option Bool
 | .d .none=>some false
 | .d (.bool b)=>some b
 | .d (.int i)=>some (i != 0)
 | .d (.str z)=>if z.length<=fk then some ((z.length:Int) != 0)else none
 | .d (.list ds)=>some (!ds.isEmpty)
 | .d (.tuple ds)=>some (!ds.isEmpty)
 | .l k=>(S[k]?).map fun ds=>!ds.isEmpty
 |_=>none
def aX(a:DE):DT:=fun δ S R=>a δ S fun x S1=>∃k,sR S1 x=some k/\R k S1
theorem AG{H:Hp}{ds:List bt}{vs:List V}(l:HasL H ds vs):(!ds.isEmpty)=!vs.isEmpty:=by
 have:=l.length;cases ds<;>cases vs<;>simp_all
theorem gW{K:fe}{ta:TE}{da:DE}(ha:RE ta da):RT (fun σ H Q=>ta σ H fun x H'=>∃k,TruV K x H' k/\Q k H') (aX da):=fun h o H δ σ S R Q he hs q c=>
 ha h o H δ σ S _ _ he hs q fun o1 H1 S1 x v e1 s1 x1 ⟨k,ek,d1⟩=>by
  refine⟨k,?_,c o1 H1 S1 k e1 s1 d1⟩;unfold sR at ek;split at ek
  ·cases ek;rw[(kR (H:=vx h o1 H1)).mp x1];rfl
  ·cases ek;rw[eE x1];rfl
  ·cases ek;rw[bQ x1];rfl
  ·split at ek
   ·rename_i hz;cases ek;rw[fX x1];exact⟨hz,rfl⟩
   ·cases ek
  ·obtain⟨a,vs,rfl,ea,l⟩:=cA (x:=.d (.list _)) s1 rfl x1;cases ek;exact .inl ⟨vs,.of ea,AG l⟩
  ·obtain⟨a,vs,rfl,ea,l⟩:=d9 x1;cases ek;exact .inr (.inl ⟨vs,.of ea,AG l⟩)
  ·rename_i j _;cases hj:S1[j]? with
   |none=>rw[hj]at ek;cases ek
   |some ds=>
    rw[hj]at ek;cases ek;obtain⟨a,vs,rfl,ea,l⟩:=cA (x:=.l j) s1 hj x1;exact .inl ⟨vs,.of ea,AG l⟩
  ·cases ek
section
variable {S:Sto}{b:Bool}{i:Int}{ds:List bt}{k:Nat}
theorem sD:sR S (.d (.bool b))=some b:=rfl
theorem qO:sR S (.l k)=(S[k]?).map fun ds=>!ds.isEmpty:=rfl
end
def oG:DS:=fun _ _ _=>False
def Ch(K:fe)(tl:TE):TI:=fun σ H R=>tl σ H fun x H1=>∃a,x=.ref a/\(((∃xs,SqL K H1 a xs)/\R (Itl K a) H1)\/((∃xs,SqT K H1 a xs)/\R (Itt K a) H1))
theorem bI{X:Cx}{tg:Expr}{l:Expr}{tl:TE}(hl:PE X l tl):PI X tg l (Ch X.K tl):=by
 intro ze s σ H R I h;refine thn (hl ze s σ H _ I h) fun v s1 ⟨x,H1,I1,r1,q1⟩=>?_;obtain⟨a,e,⟨⟨xs,hq⟩,q⟩|⟨⟨xs,hq⟩,q⟩⟩:=q1
 ·subst e;cases r1;obtain⟨z,rv,p,hz⟩:=I1.list hq;refine qv p.isList ?_;refine⟨s1.heap.objs.size,[s1.heap.objs.size],_,_,H1,rfl,I1.kept (t':=s1.toks) fun b o e=>bu _ e,BV a _,⟨_,cy _ rfl,rfl,rfl⟩,fun b hb=>?_,q⟩;have e:b=s1.heap.objs.size:=by simpa using hb
  subst e;exact I1.fpOk (dh _) (I1.hok.fresh (dh _))
 ·subst e;cases r1;obtain⟨z,rv,p,hz⟩:=I1.tuple hq;refine sf (show s1.heap.IsTuple a z.toArray from p) ?_;refine⟨s1.heap.objs.size,[s1.heap.objs.size],_,_,H1,rfl,I1.kept (t':=s1.toks) fun b o e=>bu _ e,MR a _,⟨_,cy _ rfl,rfl,rfl⟩,fun b hb=>?_,q⟩;have e:b=s1.heap.objs.size:=by simpa using hb
  subst e;exact I1.fpOk (dh _) (I1.hok.fresh (dh _))
def bT:XV->Option (List bt)
 | .d (.list ds)=>some ds
 | .d (.tuple ds)=>some ds
 |_=>none
theorem qR{ds:List bt}:bT (.d (.list ds))=some ds:=rfl
theorem qN{ds:List bt}:bT (.d (.tuple ds))=some ds:=rfl
def aW(e:DE):DI:=fun δ S R=>e δ S fun x S1=>∃ds,bT x=some ds/\R ds S1
theorem bP{K:fe}{te:TE}{de:DE}(z:RE te de):RI (Ch K te) (aW de):=fun h o H δ σ S R Q he hs q c=>
 z h o H δ σ S _ _ he hs q fun o1 H1 S1 x v e1 s1 x1 ⟨ds,ex,d1⟩=>by
  unfold bT at ex;split at ex
  ·cases ex;obtain⟨a,vs,rfl,ea,l⟩:=c9.mp (show Has _ _ _ from x1);have hl:=l.length;refine⟨a,rfl,.inl ⟨⟨vs,.of (zN _ _ ea)⟩,c o1 H1 S1 ds _ e1 s1 ⟨fun i o2 H2 e2 hi=>⟨vs,.of (zN _ _ (e2.vx _ _ ea)),yw⟩,fun i d o2 H2 e2 hi=>?_,fun i d o2 H2 x H3 S2 e2 s2 hi y=>?_⟩ d1⟩⟩
   ·obtain⟨v,ev,_⟩:=l.get hi;exact⟨vs,v,.of (zN _ _ (e2.vx _ _ ea)),ev⟩
   ·obtain⟨v,ev,hv⟩:=l.get hi;have e3:H3=H2:=y.1;subst e3;have ex:=y.2 vs (.of (zN _ _ (e2.vx _ _ ea)));rw[ev]at ex;cases ex;exact⟨Same.refl _,hv.mono e2.vx⟩
  ·cases ex;obtain⟨a,vs,rfl,ea,l⟩:=zR.mp (show Has _ _ _ from x1);have hl:=l.length;refine⟨a,rfl,.inr ⟨⟨vs,.of (zN _ _ ea)⟩,c o1 H1 S1 ds _ e1 s1 ⟨fun i o2 H2 e2 hi=>⟨vs,.of (zN _ _ (e2.vx _ _ ea)),yw⟩,fun i d o2 H2 e2 hi=>?_,fun i d o2 H2 x H3 S2 e2 s2 hi y=>?_⟩ d1⟩⟩
   ·obtain⟨v,ev,_⟩:=l.get hi;exact⟨vs,v,.of (zN _ _ (e2.vx _ _ ea)),ev⟩
   ·obtain⟨v,ev,hv⟩:=l.get hi;have e3:H3=H2:=y.1;subst e3;have ex:=y.2 vs (.of (zN _ _ (e2.vx _ _ ea)));rw[ev]at ex;cases ex;exact⟨Same.refl _,hv.mono e2.vx⟩
  ·cases ex
def sF(dt:DS):DS:=fun E δ S=>dt { E with nx:=fun δ' S'=>∃S0 ds,S'=S0++[ds]/\S.length<=S0.length/\E.nx (δ'.map (frz S0.length ds)) S0 } δ S
end
section
abbrev PN:=List XV->Sto->RX->Prop
def lfN(q:PN):List V->Hp->VK->Prop:=fun vs H Q=>∃h o S xs R,RepS h o H S/\HasXs h o H xs vs/\q xs S R/\Cn h o H R Q
def spN(ps:List Str)(q:PN):Sp:=fun vs H Q _=>vs.length=ps.length/\lfN q vs H Q
theorem HasXs.len{h o:List Addr}{H:Hp}:∀{xs:List XV}{vs:List V},HasXs h o H xs vs->vs.length=xs.length
 | [],vs,q=>by rw[show vs=[]from q];rfl
 |x::xs,vs,⟨v,r,e,_,l⟩=>by rw[e,ft,ft,HasXs.len l]
theorem HasXs.get{h o:List Addr}{H:Hp}:∀{xs:List XV}{vs:List V}{i:Nat}{x:XV},HasXs h o H xs vs->xs[i]?=some x->∃v,vs[i]?=some v/\HasX h o H x v
 | [],_,i,_,_,e=>by simp at e
 |y::xs,vs,0,x,⟨v,r,e1,q,l⟩,e=>by
  rw[rq]at e;cases e;subst e1;exact⟨v,rfl,q⟩
 |y::xs,vs,i+1,x,⟨v,r,e1,q,l⟩,e=>by
  subst e1;rw[qh]at e ⊢;exact HasXs.get l e
theorem E5{h o:List Addr}{H:Hp}{xs:List XV}{vs:List V}{n:Nat}(q:HasXs h o H xs vs):RepE h o H (xs.map some++bx n none) (vs.map some++bx n none):=by
 have hl:=q.len;refine⟨by simp[hl],fun i x e=>?_⟩;by_cases hi:i<xs.length
 ·rw[gm (by rw[cu];exact hi),ie]at e;obtain⟨y,ey,e⟩:=map_eq_some_iff.mp e;cases e;obtain⟨v,ev,hv⟩:=q.get ey;exact⟨v,by rw[gm (by rw[cu,hl];exact hi),ie,ev];rfl,hv⟩
 ·rw[om (by rw[cu];omega),List.getElem?_replicate]at e;split at e<;>cases e
section
variable {P:gf}{w:iu}{K:fe}{mg:Str->Option bo}{base:Heap}{x:Str}{st:Stmt}{N ps:List Str}{k:Nat}
theorem Df.dN{q:PN}(D:Dd K mg x st ps)(S:FnScope N ps (zj st))(n:Nat)(hn:N.length=ps.length+n)
  (hbody:∀(f:Addr) (z:bo) (A:iq) (outer:List Env) (s:bq) (H:Hp) (E:XK),Room k (A.deeper (vh x (zj st) s.heap.objs.size f z)) ->
   ∃t dt,PSs (fN CX0 P w K mg base N x (zj st) f z A outer s H E).nox (dP st) t/\RS t dt/\∀xs S R,q xs S R->dt (aO S.length R) (xs.map some++bx n none) S):Df P w K mg base x ps (k+1) (spN ps q):=by
 refine Df.of D S (fun vs H Q E h=>h.1) fun f z A outer s H vs Q E hr ⟨hl,h,o,S',xs,R,aa,hx,hq,c⟩=>?_;obtain⟨t,dt,h1,h2,h3⟩:=hbody f z A outer s H E hr;refine⟨t,h1,h2 h o H _ _ S' _ _ ?_ aa (h3 xs S' R hq) (eok aa c)⟩;have e:N.length-vs.length=n:=yw
 unfold start;rw[e];exact E5 hx
end
section
variable {X:Cx}{x:Str}{ps:List Str}{k j:Nat}{pos pos':Pos}{e:Expr}{es:List Expr}{t:TA}
theorem zw{q:PN}(D:Df X.prog X.w X.K X.mg X.base x ps k (spN ps q))(hr:Room j X.A)(hk:k<=j)(ha:PA X (e::es) t)(hg:Gl X x:=by rfl)(z:(x==("__debug__":Str))=false:=by decide)
  (q1:fx (e::es) X.env=(false,eval e X.env)::fx es X.env:=by rfl) (q2:((rb pos (fx es X.env)).any fun x=>x.fst)=false:=by rfl):PE X (.Call (.Name x pos') (e::es) [] pos) (fS (spN ps q) [] E0 t):=by
 obtain⟨f,fd,F,hm,kp,hb⟩:=D.ex;exact vN (dvs:=[]) (ds:=[]) (E:=E0) F (hr.mono hk) hg hm kp hb .nil pass0 ha z q1 q2
end
def aF(m:Nat)(q:PN)(da:DA):DE:=fun δ S R=>da δ S fun xs S1=>∃ds,datas xs=some ds/\ds.length=m/\q (ds.map XV.d) [] (ret0 S1 R)
theorem hxs0{h o:List Addr}{H:Hp}:∀{ds:List bt}{vs:List V},HasXs h o H (ds.map XV.d) vs->HasXs (h++o) [] H (ds.map XV.d) vs
 | [],_,q=>q
 |d::ds,vs,⟨v,r,e,q,l⟩=>⟨v,r,e,hx0 q,hxs0 l⟩
theorem bU{ps:List Str}{q:PN}{m:Nat}{t:TA}{da:DA}(ha:RA t da)(hm:ps.length=m:=by rfl):RE (fS (spN ps q) [] E0 t) (aF m q da):=fun h o H δ σ S R Q he hs w c=>
 ha h o H δ σ S _ _ he hs w fun o1 H1 S1 xs vs e1 s1 x1 ⟨ds,e,hl,d1⟩=>by
  have ex:=j6 e;subst ex;have hv:=x1.len;rw[kw];exact⟨by rw[hv,cu,hl,hm],h++o1,[],[],_,_,rep0 s1,hxs0 x1,d1,cn0 s1 (c.pre e1)⟩
def aU(i m:Nat)(q:PN)(da:DA):DE:=fun δ S R=>da δ S fun xs S1=>∃k,xs[i]?=some (.l k)/\∃p,S1[k]?=some p/\∃ds,datas (xs.set i (.d .none))=some ds/\ds.length=m/\q ((ds.map XV.d).set i (.l 0)) [p] (sZ k S1 R)
theorem BR{h o:List Addr}{H:Hp}{k:Nat}{a:Addr}(ea:o[k]?=some a):∀{xs:List XV}{vs:List V}{ds:List bt}{i:Nat},HasXs h o H xs vs->xs[i]?=some (.l k)->datas (xs.set i (.d .none))=some ds->HasXs (h++o.filter (fun b=>b≠a)) [a] H ((ds.map XV.d).set i (.l 0)) vs
 | [],_,_,i,_,e,_=>by simp at e
 |x::xs,vs,ds,0,⟨v,r,e1,q,l⟩,e,ed=>by
  rw[rq]at e;cases e;rw[set_cons_zero]at ed;obtain⟨z,rfl⟩:∃z,ds=.none::z:=by
   unfold datas at ed;cases hd:datas xs with
   |none=>rw[hd]at ed;cases ed
   |some y=>rw[hd]at ed;cases ed;exact⟨y,rfl⟩
  have aa:datas xs=some z:=by
   unfold datas at ed;cases hd:datas xs with
   |none=>rw[hd]at ed;cases ed
   |some y=>rw[hd]at ed;cases ed;rfl
  have ex:=j6 aa;subst ex;obtain⟨b,eb,rfl⟩:=q;rw[ea]at eb;cases eb;exact⟨_,r,e1,⟨a,rfl,rfl⟩,go (ea:=ea) l⟩
 |x::xs,vs,ds,i+1,⟨v,r,e1,q,l⟩,e,ed=>by
  rw[qh]at e;rw[set_cons_succ]at ed
  match x,q,ed with
  | .d d,q,ed=>
   unfold datas at ed;cases hd:datas (xs.set i (.d .none))with
   |none=>rw[hd]at ed;cases ed
   |some z=>
    rw[hd]at ed;cases ed;exact⟨v,r,e1,hxP ea q,BR ea l e hd⟩
  | .l j,q,ed=>cases ed
  | .o w,q,ed=>cases ed
  | .x _ _,q,ed=>cases ed
  | .p _ _,q,ed=>cases ed
where
 go {h o:List Addr}{H:Hp}{k:Nat}{a:Addr}{ea:o[k]?=some a}:∀{ds:List bt}{vs:List V},HasXs h o H (ds.map XV.d) vs->HasXs (h++o.filter (fun b=>b≠a)) [a] H (ds.map XV.d) vs
 | [],_,q=>q
 |d::ds,vs,⟨v,r,e,q,l⟩=>⟨v,r,e,hxP ea q,go (ea:=ea) l⟩
theorem Gd:∀{xs:List XV}{ds:List bt},datas xs=some ds->xs.length=ds.length:=fun e=>by
 rw[j6 e,cu]
theorem lJ{ps:List Str}{q:PN}{i m:Nat}{t:TA}{da:DA}(ha:RA t da)(hm:ps.length=m:=by rfl):RE (fS (spN ps q) [] E0 t) (aU i m q da):=fun h o H δ σ S R Q he hs w c=>
 ha h o H δ σ S _ _ he hs w fun o1 H1 S1 xs vs e1 s1 x1 ⟨k,ek,p,ep,ds,e,hl,d1⟩=>by
  have hv:=x1.len;have hd:=Gd e;rw[length_set]at hd;obtain⟨v,_,a,ea,_⟩:=x1.get ek;rw[kw];exact⟨by rw[hv,hd,hl,hm],_,[a],[p],_,_,pS s1 ea ep,BR ea x1 ek e,d1,cnP s1 ea ep (c.pre e1)⟩
mutual
def j8:bt->Bool
 | .list _=>false
 | .dict _=>false
 | .tuple ds=>rO ds
 |_=>true
def rO:List bt->Bool
 | []=>true
 |d::ds=>j8 d&&rO ds
end
mutual
theorem Eo{h o:List Addr}{H G:Hp}(sm:Same G H)(hh:∀b,b∈h\/b∈o->∃u:MO,H b=some u.ho):∀(d:bt) (v:V),j8 d=true->Has G d v->Has (vx h o H) d v
 | .none,v,_,q=>kR.mpr (kR.mp q)
 | .bool b,v,_,q=>i9.mpr (i9.mp q)
 | .int i,v,_,q=>eY.mpr (eY.mp q)
 | .str z,v,_,q=>iR.mpr (iR.mp q)
 | .list ds,v,n,_=>by simp[j8]at n
 | .dict ds,v,n,_=>by simp[j8]at n
 | .tuple ds,v,n,q=>by
  obtain⟨a,vs,e,ea,l⟩:=zR.mp q;have n':rO ds=true:=by simpa[j8]using n
  have aa:=sm _ _ ea;refine zR.mpr ⟨a,vs,e,zE.mpr ⟨fun m=>?_,fun m=>?_,aa⟩,DW sm hh ds vs n' l⟩
  ·obtain⟨u,eu⟩:=hh a (.inl m);rw[aa]at eu;cases u<;>cases eu
  ·obtain⟨u,eu⟩:=hh a (.inr m);rw[aa]at eu;cases u<;>cases eu
theorem DW{h o:List Addr}{H G:Hp}(sm:Same G H)(hh:∀b,b∈h\/b∈o->∃u:MO,H b=some u.ho):∀(ds:List bt) (vs:List V),rO ds=true->HasL G ds vs->HasL (vx h o H) ds vs
 | [],vs,_,q=>zx.mpr (zx.mp q)
 |d::ds,vs,n,q=>by
  obtain⟨v,r,e,hv,l⟩:=zq.mp q;simp only[rO,ix]at n;exact zq.mpr ⟨v,r,e,Eo sm hh d v n.1 hv,DW sm hh ds r n.2 l⟩
end
def sQ(S:Sto)(R:RX):RX:=fun y S'=>match y,S' with
 | .d d,[]=>j8 d=true/\R (.d d) S
 |_,_=>False
theorem oV{S:Sto}{R:RX}{d:bt}:sQ S R (.d d) []=(j8 d=true/\R (.d d) S):=rfl
def views(S:Sto):List XV->Option (List bt)
 | []=>some []
 |x::r=>(bK S x).bind fun d=>(views S r).map (d :: ·)
theorem oW{S:Sto}:views S []=some []:=rfl
theorem mZ{S:Sto}{x:XV}{r:List XV}:views S (x::r)=(bK S x).bind fun d=>(views S r).map (d :: ·):=rfl
def kT(m:Nat)(q:PN)(da:DA):DE:=fun δ S R=>da δ S fun xs S1=>∃ds,views S1 xs=some ds/\ds.length=m/\q (ds.map XV.d) [] (sQ S1 R)
theorem Gv{h o:List Addr}{H:Hp}{S:Sto}(hs:RepS h o H S):RepS h [] H []:=⟨rfl,lu,(fun _ h=>(nomatch h)),hs.hal,(fun _ _ _ e=>(by simp at e))⟩
theorem hxV{h o:List Addr}{H:Hp}{S:Sto}{x:XV}{v:V}{d:bt}(hs:RepS h o H S)(e:bK S x=some d)(q:HasX h o H x v):HasX h [] H (.d d) v:=by
 have sub:Same (vx h o H) (vx h [] H):=fun b u eb=>by
  obtain⟨z1,z2,z3⟩:=zE.mp eb;exact zE.mpr ⟨z1,yv,z3⟩
 unfold bK at e;split at e
 ·cases e;exact Has.mono sub _ _ q
 ·rename_i k;obtain⟨a,ea,rfl⟩:=q;cases hk:S[k]? with
  |none=>rw[hk]at e;cases e
  |some ds=>
   rw[hk]at e;cases e;obtain⟨vs,ev,l⟩:=hs.cont k a ds ea hk;exact c9.mpr ⟨a,vs,rfl,zE.mpr ⟨hs.dis a (bw ea),yv,ev⟩,l.mono sub⟩
 ·cases e
 ·cases e
 ·rename_i k d';obtain⟨t,a,u,rfl,ea,et,hu⟩:=q;cases hk:S[k]? with
  |none=>rw[hk]at e;cases e
  |some ds=>
   rw[hk]at e;cases e;obtain⟨vs,ev,l⟩:=hs.cont k a ds ea hk;exact zR.mpr ⟨t,_,rfl,sub _ _ et,zq.mpr ⟨_,_,rfl,c9.mpr ⟨a,vs,rfl,zE.mpr ⟨hs.dis a (bw ea),yv,ev⟩,l.mono sub⟩,zq.mpr ⟨u,_,rfl,Has.mono sub _ _ hu,zx.mpr rfl⟩⟩⟩
theorem EM{h o:List Addr}{H:Hp}{S:Sto}(hs:RepS h o H S):∀{xs:List XV}{vs:List V}{ds:List bt},views S xs=some ds->HasXs h o H xs vs->HasXs h [] H (ds.map XV.d) vs/\vs.length=ds.length
 | [],vs,ds,e,q=>by cases e;exact⟨q,by rw[show vs=[]from q];rfl⟩
 |x::xs,vs,ds,e,⟨v,r,e1,q,l⟩=>by
  rw[mZ]at e;cases hd:bK S x with
  |none=>rw[hd]at e;cases e
  |some d=>
   rw[hd,Option.bind_some]at e;cases hr:views S xs with
   |none=>rw[hr]at e;cases e
   |some es=>
    rw[hr]at e;cases e;obtain⟨z1,z2⟩:=EM hs hr l;exact⟨⟨v,r,e1,hxV hs hd q,z1⟩,by rw[e1,ft,ft,z2]⟩
theorem cnV{h o:List Addr}{H:Hp}{S:Sto}{R:RX}{Q:VK}(hs:RepS h o H S)(c:Cn h o H R Q):Cn h [] H (sQ S R) Q:=fun o' H' S' y v e s' hy q=>by
 unfold sQ at q;split at q
 ·rename_i d;have sH:Same H H':=fun b u eb=>(e.kp b u yv eb).2;have e0:o'=[]:=ju s'.len.symm;subst e0;have z:=hs.same sH;refine c o H' S (.d d) v (Ex.of_same sH) z (Eo (zN (h:=h) (o:=[])) (fun b m=>?_) d v q.1 hy) q.2;exact m.elim (z.hal b) (z.oam b)
 ·exact q.elim
theorem Jl{ps:List Str}{q:PN}{m:Nat}{t:TA}{da:DA}(ha:RA t da)(hm:ps.length=m:=by rfl):RE (fS (spN ps q) [] E0 t) (kT m q da):=fun h o H δ σ S R Q he hs w c=>
 ha h o H δ σ S _ _ he hs w fun o1 H1 S1 xs vs e1 s1 x1 ⟨ds,e,hl,d1⟩=>by
  obtain⟨z1,z2⟩:=EM s1 e x1;rw[kw];exact⟨by rw[z2,hl,hm],h,[],[],_,_,Gv s1,z1,d1,cnV s1 (c.pre e1)⟩
end
section
def Ew(K:fe):List V->Hp->VK->Prop:=fun xs H Q=>yM K xs H Q\/∃z,xs=[.str z]/\z.length<=fk/\Q (.int z.length) H
theorem zC{X:Cx}:CallR X (.builtin "len") (Ew X.K):=FQ.or KP
def oE(S:Sto):XV->Option Nat
 | .d (.tuple ds)=>some ds.length
 | .d (.list ds)=>some ds.length
 | .l k=>(S[k]?).map ow
 | .d (.str z)=>if z.length<=fk then some z.length else none
 |_=>none
def aS:List XV->Sto->RX->Prop:=fun xs S R=>arg1 xs fun x=>∃n,oE S x=some n/\R (.d (.int n)) S
theorem iC{K:fe}:RC (Ew K) aS:=fun h o H S xs vs R Q hs hx q c=>by
 obtain⟨x,rfl,n,hd,q1⟩:=cB q;unfold oE at hd;split at hd
 ·cases hd;exact .inl (vL h o H S _ vs R Q hs hx ⟨_,rfl,q1⟩ c)
 ·cases hd;exact .inl (vL h o H S _ vs R Q hs hx ⟨_,rfl,q1⟩ c)
 ·rename_i k;cases hk:S[k]? with
  |none=>rw[hk]at hd;cases hd
  |some ds=>
   rw[hk]at hd;cases hd;exact .inl (vL h o H S _ vs R Q hs hx ⟨ds,hk,q1⟩ c)
 ·split at hd
  ·rename_i hz;cases hd;obtain⟨v,rfl,z⟩:=hxs1 hx;exact .inr ⟨_,by rw[fX z],hz,c o H S _ _ Ex.refl hs (xI _) q1⟩
  ·cases hd
 ·cases hd
section
variable {S:Sto}{ds:List bt}{k:Nat}{z:Str}
theorem rR:oE S (.d (.tuple ds))=some ds.length:=rfl
theorem pC:oE S (.d (.list ds))=some ds.length:=rfl
theorem qF:oE S (.l k)=(S[k]?).map ow:=rfl
end
def t6(q:Bool):R2:=fun x y H Q=>∃d e ds,Has H d x/\Has H e y/\gj d=true/\gj (.list ds)=true/\(e=.list ds\/e=.tuple ds)/\Q (.bl (if q then !ds.any (fun y=>kh y d)else ds.any (fun y=>kh y d))) H
theorem Fj{ds:List bt}(h:gj (.list ds)=true):pf ds=true/\ph ds<=63:=by
 have h1:=ig h;have h2:=SeqAt.depth_of_shaped h;simp only[nw,PyData.depth]at h1 h2;exact⟨h1,yw⟩
theorem ME{X:Cx}(hu:X.A.units+64<uk):OpR X (ki .In) (t6 false):=by
 intro ze s σ H x y v u Q I rx ry h;obtain⟨d,e,ds,hd,he,sd,se,ee,q⟩:=h;obtain⟨s1,s2⟩:=Fj se;obtain⟨as,q1⟩:=Has.reads I d x v hd (ig sd) rx;have hm:X.A.units+1+min (ph ds) d.depth<uk:=by
  have:=Nat.min_le_left (ph ds) d.depth;omega
 rcases ee with rfl|rfl
 ·obtain⟨bs,q2⟩:=Has.reads I (.list ds) y u he (by simpa only[nw]using s1) ry;exact SeqAt.in_list_reads q2 q1 s1 (ig sd) hm ⟨.bl _,H,I,rfl,q⟩
 ·obtain⟨bs,q2⟩:=Has.reads I (.tuple ds) y u he (by simpa only[nw]using s1) ry;exact SeqAt.in_tuple_reads q2 q1 s1 (ig sd) hm ⟨.bl _,H,I,rfl,q⟩
theorem Hh{X:Cx}(hu:X.A.units+64<uk):OpR X (ki .NotIn) (t6 true):=by
 intro ze s σ H x y v u Q I rx ry h;obtain⟨d,e,ds,hd,he,sd,se,ee,q⟩:=h;obtain⟨s1,s2⟩:=Fj se;obtain⟨as,q1⟩:=Has.reads I d x v hd (ig sd) rx;have hm:X.A.units+1+min (ph ds) d.depth<uk:=by
  have:=Nat.min_le_left (ph ds) d.depth;omega
 rcases ee with rfl|rfl
 ·obtain⟨bs,q2⟩:=Has.reads I (.list ds) y u he (by simpa only[nw]using s1) ry;exact SeqAt.notIn_list_reads q2 q1 s1 (ig sd) hm ⟨.bl _,H,I,rfl,q⟩
 ·obtain⟨bs,q2⟩:=Has.reads I (.tuple ds) y u he (by simpa only[nw]using s1) ry;exact SeqAt.notIn_tuple_reads q2 q1 s1 (ig sd) hm ⟨.bl _,H,I,rfl,q⟩
def FN:R2:=fun x y H Q=>t6 false x y H Q\/∃i j,x=.str i/\y=.str j/\Q (.bl (!(mn j i 0 j.length 1).isEmpty)) H
theorem o8{X:Cx}(hu:X.A.units+64<uk):OpR X (ki .In) FN:=(ME hu).or Fy
def Ah:R2:=fun x y H Q=>t6 true x y H Q\/∃i j,x=.str i/\y=.str j/\Q (.bl (!(!(mn j i 0 j.length 1).isEmpty))) H
theorem qQ{X:Cx}(hu:X.A.units+64<uk):OpR X (ki .NotIn) Ah:=(Hh hu).or IS
def dIn:D2:=fun x y S R=>match y with
 | .d (.str b)=>asS x fun a=>R (.d (.bool (!(mn b a 0 b.length 1).isEmpty))) S
 |y=>∃d,bK S x=some d/\∃ds,asQ S y=some ds/\gj d=true/\gj (.list ds)=true/\R (.d (.bool (ds.any fun y=>kh y d))) S
def fW:D2:=fun x y S R=>match y with
 | .d (.str b)=>asS x fun a=>R (.d (.bool (!(!(mn b a 0 b.length 1).isEmpty)))) S
 |y=>∃d,bK S x=some d/\∃ds,asQ S y=some ds/\gj d=true/\gj (.list ds)=true/\R (.d (.bool (!ds.any fun y=>kh y d))) S
theorem CG{h o:List Addr}{H:Hp}{S:Sto}{x:XV}{v:V}{ds:List bt}(hs:RepS h o H S)(e:asQ S x=some ds)(q:HasX h o H x v):∃e,Has H e v/\(e=.list ds\/e=.tuple ds):=by
 unfold asQ at e;split at e
 ·cases e;exact⟨_,gL (x:=.d _) hs rfl q,.inr rfl⟩
 ·cases e;exact⟨_,gL (x:=.d _) hs rfl q,.inl rfl⟩
 ·rename_i k;exact⟨.list ds,gL (x:=.l k) hs (by show (S[k]?).map PyData.list=_;rw[e];rfl) q,.inl rfl⟩
 ·cases e
theorem pM:RO FN dIn:=fun h o H S x y v u R Q hs hx hy q c=>by
 unfold dIn at q;split at q
 ·replace q:=vO q;obtain⟨a,rfl,q⟩:=q;exact .inr ⟨_,_,fX hx,fX hy,c o H S _ _ Ex.refl hs (xB _) q⟩
 ·obtain⟨d,e1,ds,e2,s1,s2,q⟩:=q;obtain⟨e,he,ee⟩:=CG hs e2 hy;exact .inl ⟨d,e,ds,gL hs e1 hx,he,s1,s2,ee,c o H S _ _ Ex.refl hs (xB _) q⟩
theorem m8:RO Ah fW:=fun h o H S x y v u R Q hs hx hy q c=>by
 unfold fW at q;split at q
 ·replace q:=vO q;obtain⟨a,rfl,q⟩:=q;exact .inr ⟨_,_,fX hx,fX hy,c o H S _ _ Ex.refl hs (xB _) q⟩
 ·obtain⟨d,e1,ds,e2,s1,s2,q⟩:=q;obtain⟨e,he,ee⟩:=CG hs e2 hy;exact .inl ⟨d,e,ds,gL hs e1 hx,he,s1,s2,ee,c o H S _ _ Ex.refl hs (xB _) q⟩
section
variable {S:Sto}{ds:List bt}{k:Nat}{a b:Str}{x:XV}{R:RX}
theorem nC:dIn x (.d (.tuple ds)) S R↔∃d,bK S x=some d/\gj d=true/\gj (.list ds)=true/\R (.d (.bool (ds.any fun y=>kh y d))) S:=⟨fun⟨d,e,_,e',q⟩=>by cases e';exact⟨d,e,q⟩,fun⟨d,e,q⟩=>⟨d,e,_,rfl,q⟩⟩
theorem pY:dIn x (.d (.list ds)) S R↔∃d,bK S x=some d/\gj d=true/\gj (.list ds)=true/\R (.d (.bool (ds.any fun y=>kh y d))) S:=⟨fun⟨d,e,_,e',q⟩=>by cases e';exact⟨d,e,q⟩,fun⟨d,e,q⟩=>⟨d,e,_,rfl,q⟩⟩
theorem nZ:fW x (.d (.tuple ds)) S R↔∃d,bK S x=some d/\gj d=true/\gj (.list ds)=true/\R (.d (.bool (!ds.any fun y=>kh y d))) S:=⟨fun⟨d,e,_,e',q⟩=>by cases e';exact⟨d,e,q⟩,fun⟨d,e,q⟩=>⟨d,e,_,rfl,q⟩⟩
theorem oX:fW x (.d (.list ds)) S R↔∃d,bK S x=some d/\gj d=true/\gj (.list ds)=true/\R (.d (.bool (!ds.any fun y=>kh y d))) S:=⟨fun⟨d,e,_,e',q⟩=>by cases e';exact⟨d,e,q⟩,fun⟨d,e,q⟩=>⟨d,e,_,rfl,q⟩⟩
theorem rW:fW x (.l k) S R↔∃d,bK S x=some d/\∃ds,S[k]?=some ds/\gj d=true/\gj (.list ds)=true/\R (.d (.bool (!ds.any fun y=>kh y d))) S:=Iff.rfl
end
section
variable {X:Cx}{elts:List Expr}{n:Nat}{tpos:Pos}
def CN(K:fe)(ta:TA):TI:=fun σ H R=>ta σ H fun vs H1=>∃a,vs=[.ref a]/\(((∃xs,SqT K H1 a xs)/\R (Ite (SqT K) a) H1)\/((∃xs,SqL K H1 a xs)/\R (Ite (SqL K) a) H1))
theorem BY{a:Expr}{ta:TA}{p pos:Pos}(hg:Gl X "enumerate")(hm:X.mg "enumerate" = none)(ha:PA X [a] ta)(hs:fx [a] X.env=[(false,eval a X.env)]:=by rfl):PI X (.Tuple elts n tpos) (.Call (.Name "enumerate" p) [a] [] pos) (CN X.K ta):=by
 intro ze s σ H R I h;refine Call_ (eJ I hg hm G7 (kr (thn (ha pos ze s σ H _ I h) fun us s1 ⟨vs,H1,I1,r1,q1⟩=>?_) hs rfl));obtain⟨b,e,⟨⟨xs,hq⟩,q⟩|⟨⟨xs,hq⟩,q⟩⟩:=q1
 ·subst e;cases r1 with
  |cons r rr=>
   cases rr;cases r;obtain⟨z,rv,pl,hz⟩:=I1.tuple hq;refine JG (show s1.heap.IsTuple b z.toArray from pl) fun g he hj k=>?_;refine wpAny_pyIter_enum (s:={ s1 with heap:=g }) he ?_
   have I2:Inv X ze σ H1 { s1 with heap:=g }:=I1.kept (t':=s1.toks) k;refine⟨s1.heap.objs.size+1,[s1.heap.objs.size+1,s1.heap.objs.size],_,_,H1,rfl,I2,GS b _ _ (Nat.succ_ne_self _),⟨⟨_,he⟩,hj⟩,fun c hc=>?_,q⟩;rcases mem_cons.mp hc with rfl|hc
   ·exact I1.fpOk (le_succ _) (I1.hok.fresh (le_succ _))
   ·rw[mem_singleton.mp hc];exact I1.fpOk (dh _) (I1.hok.fresh (dh _))
 ·subst e;cases r1 with
  |cons r rr=>
   cases rr;cases r;obtain⟨z,rv,pl,hz⟩:=I1.list hq;refine call_enumerate_list pl.isList fun g he hj _ k=>?_;refine wpAny_pyIter_enum (s:={ s1 with heap:=g }) he ?_
   have I2:Inv X ze σ H1 { s1 with heap:=g }:=I1.kept (t':=s1.toks) k;refine⟨s1.heap.objs.size+1,[s1.heap.objs.size+1,s1.heap.objs.size],_,_,H1,rfl,I2,Kj b _ _ (Nat.succ_ne_self _),⟨⟨_,he⟩,hj⟩,fun c hc=>?_,q⟩;rcases mem_cons.mp hc with rfl|hc
   ·exact I1.fpOk (le_succ _) (I1.hok.fresh (le_succ _))
   ·rw[mem_singleton.mp hc];exact I1.fpOk (dh _) (I1.hok.fresh (dh _))
end
def jS(a:DA):DI:=fun δ S R=>a δ S fun xs S1=>arg1 xs fun x=>∃ds,bT x=some ds/\R (fJ 0 ds) S1
theorem Cc{K:fe}{ta:TA}{da:DA}(ha:RA ta da):RI (CN K ta) (jS da):=fun h o H δ σ S R Q he hs q c=>
 ha h o H δ σ S _ _ he hs q fun o1 H1 S1 xs vs e1 s1 x1 d0=>by
  obtain⟨x,rfl,ds,hd,d1⟩:=cB d0;obtain⟨v,rfl,hv⟩:=hxs1 x1;have z:∀{Sq:Hp->Addr->List V->Prop}{a:Addr}{ws:List V},(∀{o2 H2},ExH h o1 H1 o2 H2->Sq H2 a ws)->HasL (vx h o1 H1) ds ws->WalkX h o1 H1 (Ite Sq a) (fJ 0 ds):=by
   intro Sq a ws aa l;have hl:=l.length;refine⟨fun i o2 H2 e2 hi=>⟨ws,aa e2,by rw[vB]at hi;omega⟩,fun i d o2 H2 e2 hi=>?_,fun i d o2 H2 x H3 S2 e2 s2 hi y=>?_⟩
   ·obtain⟨e,h1,rfl⟩:=tD ds 0 i d hi;obtain⟨u,eu,_⟩:=l.get h1;exact⟨ws,u,aa e2,eu⟩
   ·obtain⟨e,h1,rfl⟩:=tD ds 0 i d hi;obtain⟨u,eu,hu⟩:=l.get h1;obtain⟨p,v,hp,rfl,rfl,hy⟩:=y;have ev:=hy ws (aa e2);rw[eu]at ev;cases ev;refine⟨Same.laid hp,zR.mpr ⟨p,_,rfl,s2.laid hp,zq.mpr ⟨_,_,rfl,?_,zq.mpr ⟨_,_,rfl,(hu.mono e2.vx).mono (l7 (Same.laid hp)),zx.mpr rfl⟩⟩⟩⟩;rw[zero_add];exact eY.mpr rfl
  unfold bT at hd;split at hd
  ·cases hd;obtain⟨a,ws,rfl,ea,l⟩:=c9.mp (show Has (vx h o1 H1) (.list ds) v from hv);exact⟨a,rfl,.inr ⟨⟨ws,.of (zN _ _ ea)⟩,c o1 H1 S1 _ _ e1 s1 (z (fun e2=>.of (zN _ _ (e2.vx _ _ ea))) l) d1⟩⟩
  ·cases hd;obtain⟨a,ws,rfl,ea,l⟩:=zR.mp (show Has (vx h o1 H1) (.tuple ds) v from hv);exact⟨a,rfl,.inl ⟨⟨ws,.of (zN _ _ ea)⟩,c o1 H1 S1 _ _ e1 s1 (z (fun e2=>.of (zN _ _ (e2.vx _ _ ea))) l) d1⟩⟩
  ·cases hd
def k8:XV->List XV->Sto->RX->Prop:=fun x xs S R=>∃k,x=.l k/\∃ds,S[k]?=some ds/\xs=[]/\∃d,ds[ds.length-1]?=some d/\R (.d d) (S.set k ds.dropLast)
theorem HasL.dropLast{H:Hp}:∀{ds:List bt}{vs:List V},HasL H ds vs->HasL H ds.dropLast vs.dropLast
 | [],vs,l=>by rw[zx.mp l];exact zx.mpr rfl
 | [d],vs,l=>by
  obtain⟨v,r,rfl,_,l⟩:=zq.mp l;rw[zx.mp l];exact zx.mpr rfl
 |d::e::ds,vs,l=>by
  obtain⟨v,r,rfl,hv,l⟩:=zq.mp l;obtain⟨w,r,rfl,hw,l'⟩:=zq.mp l;rw[List.dropLast_cons₂,List.dropLast_cons₂];exact zq.mpr ⟨v,_,rfl,hv,HasL.dropLast l⟩
theorem K6:RM Ca k8:=fun h o H S x v xs vs R Q hs hx z q c=>by
 obtain⟨k,rfl,ds,e,rfl,d,ed,q1⟩:=q;obtain⟨a,ea,rfl⟩:=hx;obtain⟨ws,ew,l⟩:=hs.cont k a ds ea e;cases z;obtain⟨y,ey,hy⟩:=l.get ed;exact⟨a,ws,y,rfl,rfl,ew,by rw[l.length];exact ey,c o _ _ (.d d) _ (Ex.upd ea) (hs.upd ea l.dropLast) (HasX.mono (x:=.d d) (Ex.upd ea) hy) q1⟩
abbrev GA (a:Addr) (m:Nat):DEnds:={ nx:=fun δ _=>δ[0]?=some (some (.o (.ref a)))/\δ.length=m+1,ct:=fun δ _=>δ[0]?=some (some (.o (.ref a)))/\δ.length=m+1,rt:=fun _ _=>False }
abbrev C4 (a:Addr) (m:Nat):DEnds:={ nx:=fun δ _=>δ[0]?=some (some (.o (.ref a)))/\δ.length=m+1,rt:=fun _ _=>False }
section
variable {a:Addr}{m:Nat}{t1 t2 t3 t4 u:TS}{dt:DS}{D:Ends}{σ:St}{H:Hp}
theorem HA(ht:RS t1 dt)(h0:σ[0]?=some (some (.ref a)))(hl:σ.length=m+1)(go:dt (C4 a m) (some (.o (.ref a))::bx m none) [])
  (next:∀(σ:St) (H1:Hp),σ[0]?=some (some (.ref a))->σ.length=m+1->Same H H1->u D σ H1):cV t1 u D σ H:=HJ ht h0 hl go next
end
end
section
open Sem (wp)
def ItK(t:Bool)(h:Heap)(j a:Addr)(k:Nat):Prop:=match t with
 |true=>h.IsTupleIter j a k
 |false=>h.IsListIter j a k
def SqK(t:Bool)(h:Heap)(a:Addr)(xs:Array bo):Prop:=match t with
 |true=>h.IsTuple a xs
 |false=>h.IsList a xs
theorem ItK.at{t:Bool}{h g:Heap}{j a:Addr}{k:Nat}(q:ItK t h j a k)(f:∀o,h.get? j=some o->g.get? j=some o):ItK t g j a k:=by
 cases t
 ·exact Heap.IsListIter.at (show h.IsListIter j a k from q) f
 ·exact Heap.IsTupleIter.at (show h.IsTupleIter j a k from q) f
theorem ItK.here{t:Bool}{h:Heap}{j a:Addr}{k:Nat}(q:ItK t h j a k):∃o,h.get? j=some o/\∀v,o.data≠.cell v:=by
 cases t<;>(obtain⟨o,e,c,d⟩:=q;exact⟨o,e,fun v z=>by rw[d]at z;cases z⟩)
theorem SqK.at{t:Bool}{h g:Heap}{a:Addr}{xs:Array bo}(q:SqK t h a xs)(f:∀o,h.get? a=some o->g.get? a=some o):SqK t g a xs:=by
 cases t<;>(obtain⟨o,e,r⟩:=q;exact⟨o,f o e,r⟩)
theorem SqK.here{t:Bool}{h:Heap}{a:Addr}{xs:Array bo}(q:SqK t h a xs):∃o,h.get? a=some o:=by
 cases t<;>(obtain⟨o,e,r⟩:=q;exact⟨o,e⟩)
section
variable {prog:gf}{w:iu}{A:iq}{E:bo->bq->Prop}{s:bq}
theorem y6{t:Bool}{j a:Addr}{k:Nat}{xs:Array bo}{x:bo}{Q:bo->bq->Prop}(hj:ItK t s.heap j a k)(ha:SqK t s.heap a xs)(hx:xs[k]?=some x)
  (hQ:∀g,ItK t g j a (k+1)->gd j s.heap g->Q x { s with heap:=g }):cp (model prog w) A (gq (.ref j)) Q E s:=by
 cases t
 ·exact wpAny_nextOf_list_item hj ha hx hQ
 ·exact CT hj ha hx hQ
theorem Dl{t:Bool}{j a:Addr}{k:Nat}{xs:Array bo}{Q:bo->bq->Prop}(hh:A.handled=none)(hj:ItK t s.heap j a k)(ha:SqK t s.heap a xs)(hx:xs[k]?=none)
  (hE:∀g e,va j s.heap g->(∃o,g.get? e=some o/\o.cls=.type "StopIteration")->E (.ref e) { s with heap:=g }):cp (model prog w) A (gq (.ref j)) Q E s:=by
 cases t
 ·exact wpAny_nextOf_list_end hh hj ha hx hE
 ·exact FJ hh hj ha hx hE
theorem DV{t:Bool}{a:Addr}{xs:Array bo}{Q:bo->bq->Prop}(ha:SqK t s.heap a xs)(hQ:Q (.ref s.heap.objs.size) { s with heap:=s.heap.push { cls:=.type (if t then "tuple_iterator" else "list_iterator"),data:=.fields #[.ref a,.int 0 0] } }):cp (model prog w) A (pyIter (.ref a)) Q E s:=by
 cases t
 ·exact qv ha hQ
 ·exact sf ha hQ
theorem wH{T:Addr}{c d x:bo}{k:Nat}{Q:Unit->bq->Prop}(hT:si s.heap T c d)(hQ:∀g,g.get? T=some { cls:=.type "tuple",data:=.seq ((#[c,d]:Array bo).setIfInBounds k x) }->gd T s.heap g->Q () { s with heap:=g }):
  cp (model prog w) A (updateSeq T (·.setIfInBounds k x)) Q E s:=wpAny_updateSeq_pair hT hQ
structure ZAp(z p r i j a b:Addr):Prop where
 pz:p≠z
 rz:r≠z
 iz:i≠z
 jz:j≠z
 pr:p≠r
 pi:p≠i
 pj:p≠j
 ri:r≠i
 rj:r≠j
 ij:i≠j
 az:a≠z
 ar:a≠r
 ai:a≠i
 aj:a≠j
 bz:b≠z
 br:b≠r
 bi:b≠i
 bj:b≠j
theorem Iv{t u:Bool}{z p r i j a b:Addr}{k m:Nat}{xs ys:Array bo}{x y c d:bo}{Q:bo->bq->Prop}(D:ZAp z p r i j a b)(hz:IsZip s.heap z p r .none)(hp:si s.heap p (.ref i) (.ref j))(hr:si s.heap r c d)
  (hi:ItK t s.heap i a k) (hj:ItK u s.heap j b m) (ha:SqK t s.heap a xs) (hb:SqK u s.heap b ys) (hx:xs[k]?=some x) (hy:ys[m]?=some y)
  (hQ:∀g,IsZip g z p r (nr s.heap.objs.size)->si g r x y->ItK t g i a (k+1)->ItK u g j b (m+1)->si g s.heap.objs.size x y ->
   (∀q o,q≠z->q≠r->q≠i->q≠j->s.heap.get? q=some o->g.get? q=some o)->Q (.ref s.heap.objs.size) { s with heap:=g }):
  cp (model prog w) A (lg.«zip.__next__» ⟨[.ref z],[]⟩) (fun fn s'=>∃v,fn=.done (.ret v)/\Q v s') E s:=by
 obtain⟨h0,gs,dr,tk,os⟩:=s;show cp _ _ (field (.ref z) 2 >>= _) _ _ ⟨h0,gs,dr,tk,os⟩;refine bn (jt hz rfl (x:=.bool false) rfl ?_);show cp _ _ (field (.ref z) 3 >>= _) _ _ ⟨h0,gs,dr,tk,os⟩;refine bn (jt hz rfl (x:=.ref p) rfl (bn (qi hp rfl ?_)));show cp _ _ (jv (.ref z) >>= _) _ _ ⟨h0,gs,dr,tk,os⟩;refine bn ?_;unfold jv;refine bn (jt hz rfl (x:=.none) rfl (bp ?_));simp only[if_true];refine bn (lq (bn (jt hz rfl (x:=.ref r) rfl (bn (gz hz yv fun g1 z1 b1=>?_)))));replace z1:IsZip g1 z p r .ellipsis:=z1;replace b1:gd z h0 g1:=b1;refine bn ?_;simp only[zipIdx_cons,List.zipIdx_nil,forIn_cons,List.forIn_nil];refine bn (bn (wpAny_onRaise ?_));show cp _ _ (gq (.ref i) >>= _) _ _ ⟨g1,gs,dr,tk,os⟩;refine bn (y6 (s:=⟨g1,gs,dr,tk,os⟩) (hi.at fun o e=>b1.extBut i o D.iz e) (ha.at fun o e=>b1.extBut a o D.az e) hx fun g2 i2 b2=>bp ?_);replace b2:gd i g1 g2:=b2;have r2:si g2 r c d:=b2.extBut r _ D.ri (b1.extBut r _ D.rz hr);refine bn (qi (s:=⟨g2,gs,dr,tk,os⟩) r2 rfl (bn (wH (s:=⟨g2,gs,dr,tk,os⟩) r2 fun g3 r3 b3=>?_)));replace r3:si g3 r x d:=r3;replace b3:gd r g2 g3:=b3;refine bn (wpAny_letGo (bp (bn (bn (wpAny_onRaise ?_)))));show cp _ _ (gq (.ref j) >>= _) _ _ ⟨g3,gs,dr,tk,os⟩;have aa:∀q o,q≠z->q≠r->q≠i->h0.get? q=some o->g3.get? q=some o:=fun q o n1 n2 n3 e=>b3.extBut q o n2 (b2.extBut q o n3 (b1.extBut q o n1 e));refine bn (y6 (s:=⟨g3,gs,dr,tk,os⟩) (hj.at fun o e=>aa j o D.jz (kf D.rj) (kf D.ij) e) (hb.at fun o e=>aa b o D.bz D.br D.bi e) hy fun g4 j4 b4=>bp ?_);replace b4:gd j g3 g4:=b4;have r4:si g4 r x d:=b4.extBut r _ D.rj r3;refine bn (qi (s:=⟨g4,gs,dr,tk,os⟩) r4 rfl (bn (wH (s:=⟨g4,gs,dr,tk,os⟩) r4 fun g5 r5 b5=>?_)));replace r5:si g5 r x y:=r5;replace b5:gd r g4 g5:=b5;refine bn (wpAny_letGo (bp (bp (bn (qi (s:=⟨g5,gs,dr,tk,os⟩) r5 rfl (bn (wpAny_newTuple ?_)))))));have sz:g5.objs.size=h0.objs.size:=by rw[b5.1,b4.1,b3.1,b2.1,b1.1]
 have z5:IsZip g5 z p r .ellipsis:=b5.extBut z _ (kf D.rz) (b4.extBut z _ (kf D.jz) (b3.extBut z _ (kf D.rz) (b2.extBut z _ (kf D.iz) z1)));have k5:∀q o,q≠z->q≠r->q≠i->q≠j->h0.get? q=some o->g5.get? q=some o:=fun q o n1 n2 n3 n4 e=>b5.extBut q o n2 (b4.extBut q o n4 (aa q o n1 n2 n3 e));have i5:ItK t g5 i a (k+1):=ItK.at i2 fun o e=>b5.extBut i o (kf D.ri) (b4.extBut i o D.ij (b3.extBut i o (kf D.ri) e));have j5:ItK u g5 j b (m+1):=ItK.at j4 fun o e=>b5.extBut j o (kf D.rj) e;have zl:z<g5.objs.size:=gi z5;show cp _ _ (Builtin.SmallTypes.ownedTupleHandOut (.ref z) (.ref g5.objs.size) >>= _) _ _ _;refine bn ?_;unfold Builtin.SmallTypes.ownedTupleHandOut;have z6:IsZip (g5.push { cls:=.type "tuple",data:=.seq #[x,y] }) z p r .ellipsis:=bu _ z5;refine bn (gz z6 yv fun g7 z7 b7=>?_);replace z7:IsZip g7 z p r (nr g5.objs.size):=z7;replace b7:gd z (g5.push { cls:=.type "tuple",data:=.seq #[x,y] }) g7:=b7;refine gz z7 yv fun g8 z8 b8=>?_;replace z8:IsZip g8 z p r (nr g5.objs.size):=z8;replace b8:gd z g7 g8:=b8;have up:∀q o,q≠z->g5.get? q=some o->g8.get? q=some o:=fun q o n e=>b8.extBut q o n (b7.extBut q o n (bu _ e));have t8:si g8 g5.objs.size x y:=b8.extBut _ _ (vf zl) (b7.extBut _ _ (vf zl) (cy _ rfl));rw[sz]at z8 t8;refine bp ⟨_,rfl,?_⟩;show Q (.ref g5.objs.size) _;rw[sz];exact hQ g8 z8 (up r _ D.rz r5) (i5.at fun o e=>up i o D.iz e) (j5.at fun o e=>up j o D.jz e) t8 fun q o n1 n2 n3 n4 e=>up q o n1 (k5 q o n1 n2 n3 n4 e)
theorem KC{t u:Bool}{z p r i j a b:Addr}{k m:Nat}{xs ys:Array bo}{c d:bo}{Q:Fin->bq->Prop}(hh:A.handled=none)(D:ZAp z p r i j a b)(hz:IsZip s.heap z p r .none)(hp:si s.heap p (.ref i) (.ref j))(hr:si s.heap r c d)
  (hi:ItK t s.heap i a k) (hj:ItK u s.heap j b m) (ha:SqK t s.heap a xs) (hb:SqK u s.heap b ys) (hend:xs[k]?=none\/ys[m]?=none)
  (hE:∀g e,(∀q o,q≠z->q≠r->q≠i->q≠j->s.heap.get? q=some o->g.get? q=some o)->(∃o,g.get? e=some o/\o.cls=.type "StopIteration")->E (.ref e) { s with heap:=g }):
  cp (model prog w) A (lg.«zip.__next__» ⟨[.ref z],[]⟩) Q E s:=by
 obtain⟨h0,gs,dr,tk,os⟩:=s;show cp _ _ (field (.ref z) 2 >>= _) _ _ ⟨h0,gs,dr,tk,os⟩;refine bn (jt hz rfl (x:=.bool false) rfl ?_);show cp _ _ (field (.ref z) 3 >>= _) _ _ ⟨h0,gs,dr,tk,os⟩;refine bn (jt hz rfl (x:=.ref p) rfl (bn (qi hp rfl ?_)));show cp _ _ (jv (.ref z) >>= _) _ _ ⟨h0,gs,dr,tk,os⟩;refine bn ?_;unfold jv;refine bn (jt hz rfl (x:=.none) rfl (bp ?_));simp only[if_true];refine bn (lq (bn (jt hz rfl (x:=.ref r) rfl (bn (gz hz yv fun g1 z1 b1=>?_)))));replace z1:IsZip g1 z p r .ellipsis:=z1;replace b1:gd z h0 g1:=b1;refine bn ?_;simp only[zipIdx_cons,List.zipIdx_nil,forIn_cons,List.forIn_nil];refine bn (bn (wpAny_onRaise ?_));show cp _ _ (gq (.ref i) >>= _) _ _ ⟨g1,gs,dr,tk,os⟩;have aa:∀{g:Heap}{e:Addr}{o:Obj},IsZip g z p r .ellipsis->g.get? e=some o->o.cls=.type "StopIteration"->e≠z:=fun h1 h2 h3 w=>by
  subst w;rw[h1]at h2;cases h2;simp at h3
 cases hx:xs[k]? with
 |none=>
  refine bn (Dl (s:=⟨g1,gs,dr,tk,os⟩) hh (hi.at fun o e=>b1.extBut i o D.iz e) (ha.at fun o e=>b1.extBut a o D.az e) hx fun g2 e b2 he=>?_);obtain⟨oe,e1,e2⟩:=he;have z2:IsZip g2 z p r .ellipsis:=b2 z _ (kf D.iz) z1;exact gz z2 yv fun g3 _ b3=>hE g3 e (fun q o n1 _ n3 _ w=>b3.extBut q o n1 (b2 q o n3 (b1.extBut q o n1 w))) ⟨oe,b3.extBut e oe (aa z2 e1 e2) e1,e2⟩
 |some x=>
  have hy:ys[m]?=none:=hend.elim (fun w=>by rw[hx]at w;cases w) id;refine bn (y6 (s:=⟨g1,gs,dr,tk,os⟩) (hi.at fun o e=>b1.extBut i o D.iz e) (ha.at fun o e=>b1.extBut a o D.az e) hx fun g2 i2 b2=>bp ?_);replace b2:gd i g1 g2:=b2;have r2:si g2 r c d:=b2.extBut r _ D.ri (b1.extBut r _ D.rz hr);refine bn (qi (s:=⟨g2,gs,dr,tk,os⟩) r2 rfl (bn (wH (s:=⟨g2,gs,dr,tk,os⟩) r2 fun g3 r3 b3=>?_)));replace b3:gd r g2 g3:=b3;refine bn (wpAny_letGo (bp (bn (bn (wpAny_onRaise ?_)))));show cp _ _ (gq (.ref j) >>= _) _ _ ⟨g3,gs,dr,tk,os⟩;have ab:∀q o,q≠z->q≠r->q≠i->h0.get? q=some o->g3.get? q=some o:=fun q o n1 n2 n3 e=>b3.extBut q o n2 (b2.extBut q o n3 (b1.extBut q o n1 e));refine bn (Dl (s:=⟨g3,gs,dr,tk,os⟩) hh (hj.at fun o e=>ab j o D.jz (kf D.rj) (kf D.ij) e) (hb.at fun o e=>ab b o D.bz D.br D.bi e) hy fun g4 e b4 he=>?_);obtain⟨oe,e1,e2⟩:=he;have z4:IsZip g4 z p r .ellipsis:=b4 z _ (kf D.jz) (b3.extBut z _ (kf D.rz) (b2.extBut z _ (kf D.iz) z1));exact gz z4 yv fun g5 _ b5=>hE g5 e (fun q o n1 n2 n3 n4 w=>b5.extBut q o n1 (b4 q o n4 (ab q o n1 n2 n3 w))) ⟨oe,b5.extBut e oe (aa z4 e1 e2) e1,e2⟩
abbrev lF (t:Bool) (h:Heap) (a:Addr):Heap:=h.push { cls:=.type (if t then "tuple_iterator" else "list_iterator"),data:=.fields #[.ref a,.int 0 0] }
abbrev jC (t u:Bool) (h:Heap) (a b:Addr):Heap:=(lF t h a).push { cls:=.type (if u then "tuple_iterator" else "list_iterator"),data:=.fields #[.ref b,.int 0 0] }
abbrev jQ (t u:Bool) (h:Heap) (a b:Addr):Heap:=(jC t u h a b).push { cls:=.type "tuple",data:=.seq #[.ref h.objs.size,.ref (lF t h a).objs.size] }
abbrev kL (t u:Bool) (h:Heap) (a b:Addr):Heap:=(jQ t u h a b).push { cls:=.type "tuple",data:=.seq #[.none,.none] }
abbrev wM (t u:Bool) (h:Heap) (a b:Addr):Heap:=(kL t u h a b).push { cls:=.type "zip",data:=.fields #[.none,.bool false,.bool false,.ref (jC t u h a b).objs.size,.ref (jQ t u h a b).objs.size] }
theorem Jq(t u:Bool)(a b:Addr)(xs ys:Array bo):Meets (lg.«zip.__new__» ⟨[.type "zip",.ref a,.ref b],[]⟩) (fun _ R s=>SqK t s.heap a xs/\SqK u s.heap b ys /\
   ∀g,IsZip g (s.heap.objs.size+4) (s.heap.objs.size+2) (s.heap.objs.size+3) .none->si g (s.heap.objs.size+2) (.ref s.heap.objs.size) (.ref (s.heap.objs.size+1))->si g (s.heap.objs.size+3) .none .none ->
    ItK t g s.heap.objs.size a 0->ItK u g (s.heap.objs.size+1) b 0->(∀q o,s.heap.get? q=some o->g.get? q=some o)->R (.ok (.ret (.ref (s.heap.objs.size+4)))) { s with heap:=g }):=
 .of_wp fun prog w A R s z=>by
  obtain⟨g0,gs,dr,tk,os⟩:=s;obtain⟨ha,hb,z⟩:=z;have sub:=sub_zip;have hA:SqK t (Shared.heap ⟨g0,gs,dr,tk,os⟩) a xs:=ha;have hB:SqK u (Shared.heap ⟨g0.push { cls:=.type (if t then "tuple_iterator" else "list_iterator"),data:=.fields #[.ref a,.int 0 0] },gs,dr,tk,os⟩) b ys:=SqK.at hb fun o e=>bu _ e
  wp_walk using DV hA,DV hB
  refine⟨_,rfl,?_⟩;have z1:(lF t g0 a).objs.size=g0.objs.size+1:=size_push ..;have z2:(jC t u g0 a b).objs.size=g0.objs.size+2:=by rw[size_push,z1]
  have z3:(jQ t u g0 a b).objs.size=g0.objs.size+3:=by rw[size_push,z2]
  have z4:(kL t u g0 a b).objs.size=g0.objs.size+4:=by rw[size_push,z3]
  have f1:=cy g0 (o:={ cls:=.type (if t then "tuple_iterator" else "list_iterator"),data:=.fields #[.ref a,.int 0 0] }) (by cases t<;>rfl);have f2:=cy (lF t g0 a) (o:={ cls:=.type (if u then "tuple_iterator" else "list_iterator"),data:=.fields #[.ref b,.int 0 0] }) (by cases u<;>rfl);have f3:=cy (jC t u g0 a b) (o:={ cls:=.type "tuple",data:=.seq #[.ref g0.objs.size,.ref (lF t g0 a).objs.size] }) rfl;have f4:=cy (jQ t u g0 a b) (o:={ cls:=.type "tuple",data:=.seq #[.none,.none] }) rfl;have f5:=cy (kL t u g0 a b) (o:={ cls:=.type "zip",data:=.fields #[.none,.bool false,.bool false,.ref (jC t u g0 a b).objs.size,.ref (jQ t u g0 a b).objs.size] }) rfl;have c1:∀q o,g0.get? q=some o->(lF t g0 a).get? q=some o:=fun q o e=>bu _ e;have c2:∀q o,(lF t g0 a).get? q=some o->(jC t u g0 a b).get? q=some o:=fun q o e=>bu _ e;have c3:∀q o,(jC t u g0 a b).get? q=some o->(jQ t u g0 a b).get? q=some o:=fun q o e=>bu _ e;have c4:∀q o,(jQ t u g0 a b).get? q=some o->(kL t u g0 a b).get? q=some o:=fun q o e=>bu _ e;have c5:∀q o,(kL t u g0 a b).get? q=some o->(wM t u g0 a b).get? q=some o:=fun q o e=>bu _ e;have y1:=c5 _ _ (c4 _ _ (c3 _ _ (c2 _ _ f1)));have y2:=c5 _ _ (c4 _ _ (c3 _ _ f2));have y3:=c5 _ _ (c4 _ _ f3);have y4:=c5 _ _ f4;have y5:(wM t u g0 a b).get? (kL t u g0 a b).objs.size=some { cls:=.type "zip",data:=.fields #[.none,.bool false,.bool false,.ref (jC t u g0 a b).objs.size,.ref (jQ t u g0 a b).objs.size] }:=f5;have fin:R (.ok (.ret (.ref (kL t u g0 a b).objs.size))) ⟨wM t u g0 a b,gs,dr,tk,os⟩:=by
   rw[z4,z2,z3]at y5;rw[z2,z1]at y3;rw[z3]at y4;rw[z1]at y2;rw[z4];refine z _ y5 y3 y4 ?_ ?_ fun q o e=>c5 q o (c4 q o (c3 q o (c2 q o (c1 q o e))))
   ·cases t<;>exact⟨_,y1,rfl,rfl⟩
   ·cases u<;>exact⟨_,y2,rfl,rfl⟩
  exact fin
theorem KZ{t u:Bool}{a b:Addr}{xs ys:Array bo}{Q:bo->bq->Prop}(ha:SqK t s.heap a xs)(hb:SqK u s.heap b ys)
  (hyp:∀g,IsZip g (s.heap.objs.size+4) (s.heap.objs.size+2) (s.heap.objs.size+3) .none->si g (s.heap.objs.size+2) (.ref s.heap.objs.size) (.ref (s.heap.objs.size+1))->si g (s.heap.objs.size+3) .none .none ->
    ItK t g s.heap.objs.size a 0->ItK u g (s.heap.objs.size+1) b 0->(∀q o,s.heap.get? q=some o->g.get? q=some o)->Q (.ref (s.heap.objs.size+4)) { s with heap:=g }):cp (model prog w) A (call (.type "zip") [.ref a,.ref b]) Q E s:=by
 refine callType_new F.called_zip dz (F.typeCall_zip_2 _ _) (F.newCall_zip_2 _ _) (fun ob=>F.args_object_init_3 ob _ _) F.entry_zip_new (Jq t u a b xs ys) ⟨ha,hb,fun g h1 h2 h3 h4 h5 h6=>?_⟩;exact⟨⟨_,h1,rfl⟩,hyp g h1 h2 h3 h4 h5 h6⟩
end
def Itz(S1 S2:Hp->Addr->List V->Prop)(a b:Addr):It:=
 ⟨fun i H=>∃xs ys x y,S1 H a xs/\S2 H b ys/\xs[i]?=some x/\ys[i]?=some y,fun i H x H'=>∃p v u,H p=none/\x=.ref p/\H'=upd H p (.tup [v,u])/\(∀xs,S1 H a xs->xs[i]?=some v)/\(∀ys,S2 H b ys->ys[i]?=some u),fun i H=>∃xs ys,S1 H a xs/\S2 H b ys/\(xs.length<=i\/ys.length<=i)⟩
def SqV(K:fe)(t:Bool)(H:Hp)(a:Addr)(xs:List V):Prop:=match t with
 |true=>SqT K H a xs
 |false=>SqL K H a xs
theorem Inv.seqK{X:Cx}{ze:List (Addr×Obj)}{σ:St}{H:Hp}{s:bq}{t:Bool}{a:Addr}{xs:List V}(I:Inv X ze σ H s)(h:SqV X.K t H a xs):∃q:List bo,Vals xs q/\SqK t s.heap a q.toArray/\∀ys,SqV X.K t H a ys->ys=xs:=by
 cases t
 ·obtain⟨q,rv,p,_⟩:=I.list h;exact⟨q,rv,p.isList,fun ys hy=>I.list_inj hy h⟩
 ·obtain⟨q,rv,p,_⟩:=I.tuple h;exact⟨q,rv,p,fun ys hy=>I.tuple_inj hy h⟩
theorem Lp{P:gf}{w:iu}{K:fe}{elts:List Expr}{n:Nat}{pos:Pos}(t u:Bool)(z p r i j a b:Addr)(D:ZAp z p r i j a b):Turn P w K (.Tuple elts n pos) (Itz (SqV K t) (SqV K u) a b) [z,p,r,i,j] z
  (fun k h=>IsZip h z p r .none/\si h p (.ref i) (.ref j)/\(∃c d,si h r c d)/\ItK t h i a k/\ItK u h j b k) where
 mem:=by simp
 obj:=fun k h ⟨h1,h2,⟨c,d,h3⟩,h4,h5⟩ q hq=>by
  simp only[mw,km,or_false]at hq;rcases hq with rfl|rfl|rfl|rfl|rfl
  ·exact⟨_,h1,fun v e=>by cases (show Data.fields _=Data.cell v from e)⟩
  ·exact⟨_,h2,fun v e=>by cases (show Data.seq _ _=Data.cell v from e)⟩
  ·exact⟨_,h3,fun v e=>by cases (show Data.seq _ _=Data.cell v from e)⟩
  ·exact h4.here
  ·exact h5.here
 keep:=fun k h h' ⟨h1,h2,⟨c,d,h3⟩,h4,h5⟩ f=>⟨f z yv _ h1,f p yv _ h2,⟨c,d,f r yv _ h3⟩,h4.at fun o e=>f i yv o e,h5.at fun o e=>f j yv o e⟩
 item:=by
  intro X hP hw hK hc k ze s σ H E I hf st hg;subst hP hw hK;obtain⟨xs,ys,x,y,q1,q2,ex,ey⟩:=hg;obtain⟨ai,rv,sq,inj⟩:=I.seqK q1;obtain⟨af,ab,ac,aa⟩:=I.seqK q2;obtain⟨v1,e1,r1⟩:=rv.get ex;obtain⟨v2,e2,r2⟩:=ab.get ey;obtain⟨h1,h2,⟨c,d,h3⟩,h4,h5⟩:=st;have ty:s.TypeIs (.ref z) "zip":=⟨_,h1,rfl⟩;unfold nq;refine bn (nl (gw (name:=lh "__next__") ty F.slot_zip_next (gx F.slot_zip_next ty F.entry_zip_next
   (Iv D h1 h2 h3 h4 h5 sq ac (by simpa using e1) (by simpa using e2) fun g a1 a2 a3 a4 a5 kk=>bp ⟨_,rfl,?_⟩) (F.args_zip_next_1 _))))
  refine wpAny_letOwnedTupleGo_zip (s:={ s with heap:=g }) a1 fun g' z' b'=>?_;have lt:∀{q o},s.heap.get? q=some o->s.heap.objs.size≠q:=fun e=>vf (gi e);have b'':gd z g g':=b';have pT:si g' s.heap.objs.size v1 v2:=b''.extBut _ _ (lt h1) a5;have hn:=I.hok.fresh (dh s.heap.objs.size);have ag:∀q o,q∉[z,r,i,j]->s.heap.get? q=some o->g'.get? q=some o:=fun q o hq e=>by
   simp only[mw,km,or_false,not_or]at hq;exact b''.extBut q o hq.1 (kk q o hq.1 hq.2.1 hq.2.2.1 hq.2.2.2 e)
  have I1:Inv X ze σ (upd H s.heap.objs.size (.tup [x,y])) { s with heap:=g' }:=I.turnLaid (t':=s.toks) (ch:=[z,r,i,j]) ag (fun q hq=>hf q (by
   simp only[mw,km,or_false]at hq ⊢;rcases hq with h|h|h|h
   ·exact .inl h
   ·exact .inr (.inr (.inl h))
   ·exact .inr (.inr (.inr (.inl h)))
   ·exact .inr (.inr (.inr (.inr h))))) (dh _) ⟨⟨by show 2<=fk;decide,_,pT,rfl⟩,[v1,v2],.cons r1 (.cons r2 .nil),⟨_,pT,rfl,_,rfl⟩⟩
  have ae:∀q,q∈[z,p,r,i,j]->q≠s.heap.objs.size:=fun q hq w=>by
   simp only[mw,km,or_false]at hq;obtain⟨o1,w1,_⟩:=h4.here;obtain⟨o2,w2,_⟩:=h5.here;rcases hq with h|h|h|h|h
   ·exact lt h1 (w.symm.trans h)
   ·exact lt h2 (w.symm.trans h)
   ·exact lt h3 (w.symm.trans h)
   ·exact lt w1 (w.symm.trans h)
   ·exact lt w2 (w.symm.trans h)
  refine⟨.ref s.heap.objs.size,_,I1,rfl,⟨_,x,y,hn,rfl,rfl,fun zs hz=>by rw[inj zs hz];exact ex,fun zs hz=>by rw[aa zs hz];exact ey⟩,⟨z',ag p _ (by simp[D.pz,D.pr,D.pi,D.pj]) h2,⟨_,_,b''.extBut r _ D.rz a2⟩,a3.at fun o e=>b''.extBut i o D.iz e,a4.at fun o e=>b''.extBut j o D.jz e⟩,fun q hq=>?_⟩;rw[zD (ae q hq)];exact(hf q hq).1
 done:=by
  intro X hP hw hK hc k ze s σ H E I hf st hg;subst hP hw hK;obtain⟨xs,ys,q1,q2,hl⟩:=hg;obtain⟨ai,rv,sq,inj⟩:=I.seqK q1;obtain⟨af,ab,ac,aa⟩:=I.seqK q2;obtain⟨h1,h2,⟨c,d,h3⟩,h4,h5⟩:=st;have l1:=rv.length;have l2:=ab.length;have ty:s.TypeIs (.ref z) "zip":=⟨_,h1,rfl⟩;unfold nq;refine bn (nl (gw (name:=lh "__next__") ty F.slot_zip_next (gx F.slot_zip_next ty F.entry_zip_next
   (KC (I.ok.hd hc) D h1 h2 h3 h4 h5 sq ac (hl.elim (fun h=>.inl (by simp;omega)) fun h=>.inr (by simp;omega)) fun g e kk he=>?_) (F.args_zip_next_1 _))))
  obtain⟨o,ho,ah⟩:=he;refine bn (kx (T:="StopIteration") (b:=true) ⟨o,ho,ah⟩ isSubtype_stop (bp ⟨rfl,?_⟩));refine I.turnedN (t':=s.toks) (ch:=[z,r,i,j]) (fun q o hq e=>?_) fun q hq=>hf q (by
   simp only[mw,km,or_false]at hq ⊢;rcases hq with h|h|h|h
   ·exact .inl h
   ·exact .inr (.inr (.inl h))
   ·exact .inr (.inr (.inr (.inl h)))
   ·exact .inr (.inr (.inr (.inr h))))
  simp only[mw,km,or_false,not_or]at hq;exact kk q o hq.1 hq.2.1 hq.2.2.1 hq.2.2.2 e
 self:=fun _ _ _ _ _ st h=>wpAny_pyIter_zip st.1 h
theorem nne{a b:Nat}(h:a<b\/b<a):(show Addr from a)≠(show Addr from b):=fun e=>by
 have e':a=b:=e;omega
theorem II(N a b:Nat)(ha:a<N)(hb:b<N):ZAp (N+4) (N+2) (N+3) N (N+1) a b:=by
 constructor<;>exact nne yw
theorem La(N q:Nat)(hq:q=N+4\/q=N+2\/q=N+3\/q=N\/q=N+1):N<=q:=yw
section
variable {X:Cx}{elts:List Expr}{n:Nat}{tpos:Pos}
theorem KI:jq "zip" = some (.type "zip"):=by decide +kernel
def BJ(K:fe)(ta:TA):TI:=fun σ H R=>ta σ H fun vs H1=>∃a b t u,vs=[.ref a,.ref b]/\(∃xs,SqV K t H1 a xs)/\(∃ys,SqV K u H1 b ys)/\R (Itz (SqV K t) (SqV K u) a b) H1
theorem LD{e1 e2:Expr}{ta:TA}{p pos:Pos}(hg:Gl X "zip")(hm:X.mg "zip" = none)(ha:PA X [e1,e2] ta)(hs:fx [e1,e2] X.env=[(false,eval e1 X.env),(false,eval e2 X.env)]:=by rfl)(aa:fx [e2] X.env=[(false,eval e2 X.env)]:=by rfl):
  PI X (.Tuple elts n tpos) (.Call (.Name "zip" p) [e1,e2] [] pos) (BJ X.K ta):=by
 intro ze s σ H R I h;refine Call_ (eJ I hg hm KI (kr (thn (ha pos ze s σ H _ I h) fun us s1 ⟨vs,H1,I1,r1,q1⟩=>?_) (by rw[hs,aa]) (by rw[aa];rfl)));obtain⟨a,b,t,u,e,⟨xs,q1⟩,⟨ys,q2⟩,q⟩:=q1;subst e;cases r1 with
 |cons r rr=>
  cases rr with
  |cons r' rr=>
   cases rr;cases r;cases r';obtain⟨ac,rv,sq,_⟩:=I1.seqK q1;obtain⟨ab,ae,z,_⟩:=I1.seqK q2;refine KZ sq z fun g h1 h2 h3 h4 h5 k=>?_;refine wpAny_pyIter_zip (s:={ s1 with heap:=g }) h1 ?_
   have I2:Inv X ze σ H1 { s1 with heap:=g }:=I1.kept (t':=s1.toks) k;obtain⟨oa,fa⟩:=sq.here;obtain⟨ob,fb⟩:=z.here;have la:=gi fa;have lb:=gi fb;have D:ZAp (s1.heap.objs.size+4) (s1.heap.objs.size+2) (s1.heap.objs.size+3) s1.heap.objs.size (s1.heap.objs.size+1) a b:=II _ _ _ la lb;refine⟨_,[s1.heap.objs.size+4,s1.heap.objs.size+2,s1.heap.objs.size+3,s1.heap.objs.size,s1.heap.objs.size+1],_,_,H1,rfl,I2,Lp t u _ _ _ _ _ a b D,⟨h1,h2,⟨_,_,h3⟩,h4,h5⟩,fun q hq=>?_,q⟩;have hl:s1.heap.objs.size<=q:=by
    simp only[mw,km,or_false]at hq;exact La _ _ hq
   exact I1.fpOk hl (I1.hok.fresh hl)
end
def cJ:List bt->List bt->List bt
 |d::ds,e::es=>.tuple [d,e]::cJ ds es
 |_,_=>[]
theorem AR:∀(ds es:List bt) (k:Nat) (x:bt),(cJ ds es)[k]?=some x->∃d e,ds[k]?=some d/\es[k]?=some e/\x=.tuple [d,e]
 | [],_,_,_,h=>by simp[cJ]at h
 |_::_,[],_,_,h=>by simp[cJ]at h
 |d::ds,e::es,0,x,h=>by
  have e':PyData.tuple [d,e]=x:=by simpa[cJ]using h
  exact⟨d,e,rfl,rfl,e'.symm⟩
 |d::ds,e::es,k+1,x,h=>by
  obtain⟨d',e',h1,h2,h3⟩:=AR ds es k x (by simpa[cJ]using h);exact⟨d',e',by simpa using h1,by simpa using h2,h3⟩
theorem EE:∀(ds es:List bt),(cJ ds es).length=min ds.length es.length
 | [],_=>by simp[cJ]
 |_::_,[]=>by simp[cJ]
 |d::ds,e::es=>by simp[cJ,EE ds es];try omega
theorem FD{α β:Type}(f:α->bt)(g:β->bt):∀(xs:List α) (ys:List β),cJ (xs.map f) (ys.map g)=(xs.zip ys).map fun q=>.tuple [f q.1,g q.2]
 | [],_=>by simp[cJ]
 |_::_,[]=>by simp[cJ]
 |x::xs,y::ys=>by simp[cJ,FD f g xs ys]
def lD(a:DA):DI:=fun δ S R=>a δ S fun xs S1=>arg2 xs fun x y=>∃ds,bT x=some ds/\∃es,bT y=some es/\R (cJ ds es) S1
theorem B6{K:fe}{h o:List Addr}{H:Hp}{x:XV}{v:V}{ds:List bt}(e:bT x=some ds)(q:HasX h o H x v):∃t a ws,v=.ref a/\HasL (vx h o H) ds ws/\∀{o2 H2},ExH h o H o2 H2->SqV K t H2 a ws:=by
 unfold bT at e;split at e
 ·cases e;obtain⟨a,ws,rfl,ea,l⟩:=c9.mp (show Has (vx h o H) (.list ds) v from q);exact⟨false,a,ws,rfl,l,fun e2=>(SqL.of (zN _ _ (e2.vx _ _ ea)):SqL K _ a ws)⟩
 ·cases e;obtain⟨a,ws,rfl,ea,l⟩:=zR.mp (show Has (vx h o H) (.tuple ds) v from q);exact⟨true,a,ws,rfl,l,fun e2=>(SqT.of (zN _ _ (e2.vx _ _ ea)):SqT K _ a ws)⟩
 ·cases e
theorem L9{K:fe}{ta:TA}{da:DA}(ha:RA ta da):RI (BJ K ta) (lD da):=fun h o H δ σ S R Q he hs q c=>
 ha h o H δ σ S _ _ he hs q fun o1 H1 S1 xs vs e1 s1 x1 d0=>by
  obtain⟨x,y,rfl,ds,hd,es,ae,d1⟩:=yB d0;obtain⟨v,u,rfl,hv,hu⟩:=hxs2 x1;obtain⟨t,a,ws,rfl,l,k1⟩:=B6 (K:=K) hd hv;obtain⟨t',b,zs,rfl,l',k2⟩:=B6 (K:=K) ae hu;have hl:=l.length;have af:=l'.length;refine⟨a,b,t,t',rfl,⟨ws,k1 ExH.refl⟩,⟨zs,k2 ExH.refl⟩,c o1 H1 S1 _ _ e1 s1 ⟨fun i o2 H2 e2 hi=>⟨ws,zs,k1 e2,k2 e2,by rw[EE]at hi;omega⟩,fun i d o2 H2 e2 hi=>?_,fun i d o2 H2 x H3 S2 e2 s2 hi y=>?_⟩ d1⟩
  ·obtain⟨d',e',h1,h2,rfl⟩:=AR ds es i d hi;obtain⟨u1,z,_⟩:=l.get h1;obtain⟨u2,aa,_⟩:=l'.get h2;exact⟨ws,zs,u1,u2,k1 e2,k2 e2,z,aa⟩
  ·obtain⟨d',e',h1,h2,rfl⟩:=AR ds es i d hi;obtain⟨u1,z,ab⟩:=l.get h1;obtain⟨u2,aa,ac⟩:=l'.get h2;obtain⟨p,v,u,hp,rfl,rfl,y1,y2⟩:=y;have f1:=y1 ws (k1 e2);have f2:=y2 zs (k2 e2);rw[z]at f1;rw[aa]at f2;cases f1;cases f2;exact⟨Same.laid hp,zR.mpr ⟨p,_,rfl,s2.laid hp,zq.mpr ⟨_,_,rfl,(ab.mono e2.vx).mono (l7 (Same.laid hp)),zq.mpr ⟨_,_,rfl,(ac.mono e2.vx).mono (l7 (Same.laid hp)),zx.mpr rfl⟩⟩⟩⟩
end
section
open Sem (wp)
def rQ(ns:List Int):bt:=.tuple (ns.map cq)
section
variable {S:Sto}{P:Sto->List bt->Prop}{a b c d:List bt}{x:List bt}
theorem kK{S0:Sto}:(∃T ds,S0++[x]=T++[ds]/\P T ds)↔P S0 x:=by
 constructor
 ·rintro⟨T,ds,e,q⟩;obtain⟨rfl,e2⟩:=List.append_inj' e rfl;cases e2;exact q
 ·exact fun q=>⟨S0,x,rfl,q⟩
theorem qP:(∃T ds,[a]=T++[ds]/\P T ds)↔P [] a:=kK (S0:=[])
theorem oA:(∃T ds,[a,b]=T++[ds]/\P T ds)↔P [a] b:=kK (S0:=[a])
end
section
variable {α:Type}{n:Nat}{g:DG}{tt:DT}{te:DE}{fin:Sto->Prop}{S0:Sto}{caps:XE}
theorem Au{h:α->bt}{f:α->bt}(P:XE->Prop)(hn:S0.length=n)(l:List α)(τ:XE)(hP:P τ)(hl:l.length<=1000)
  (el:∀x∈l,∀ τ acc (R:XE->RX),P τ->(∀ τ',P τ'->R τ' (.d (f x)) (S0++[acc]))->g (.d (h x)) τ (S0++[acc]) fun τ1 S1=>te τ1 S1 (R τ1)) (hf:fin (S0++[l.map f])):bB n g aK te fin (l.map h) τ (S0++[[]]):=by
 have go:∀(l:List α) (acc:List bt) (τ:XE),P τ->acc.length+l.length<=1000->(∀x∈l,∀ τ acc (R:XE->RX),P τ->(∀ τ',P τ'->R τ' (.d (f x)) (S0++[acc]))->g (.d (h x)) τ (S0++[acc]) fun τ1 S1=>te τ1 S1 (R τ1)) ->
   fin (S0++[acc++l.map f])->bB n g aK te fin (l.map h) τ (S0++[acc]):=by
  intro l;induction l with
  |nil=>intro acc τ _ _ _ h;rw[map_nil,kw]at h;exact h
  |cons x l ih=>
   intro acc τ hP hl el hh;show g (.d (h x)) τ (S0++[acc]) fun τ1 S1=>aK τ1 S1 fun b S2=>if b=true then te τ1 S2 fun x S3=>asD x fun e=>∃acc,S3[n]?=some acc/\acc.length<1000/\bB n g aK te fin (l.map h) τ1 (S3.set n (acc++[e]))else bB n g aK te fin (l.map h) τ1 S2
   simp only[aK,↓reduceIte];rw[ft]at hl;refine el x dw τ acc (fun τ1 x S3=>asD x fun e=>∃acc,S3[n]?=some acc/\acc.length<1000/\bB n g aK te fin (l.map h) τ1 (S3.set n (acc++[e]))) hP fun τ' q=>?_;refine⟨acc,by rw[<- hn,fv],yw,?_⟩;rw[DB hn];refine ih (acc++[f x]) τ' q (by rw[fu,iy];omega) (fun e m=>el e (cz _ m)) ?_;rw[gn];exact hh
 exact go l [] τ hP (by simpa using hl) el (by simpa using hf)
theorem cmp1{h:α->bt}(f:α->bt)(hn:S0.length=n)(l:List α){u:Option XV}(hl:l.length<=1000)
  (el:∀x∈l,∀(u:Option XV) acc (R:XE->RX),(∀u',R (u'::caps) (.d (f x)) (S0++[acc]))->g (.d (h x)) (u::caps) (S0++[acc]) fun τ1 S1=>te τ1 S1 (R τ1)) (hf:fin (S0++[l.map f])):bB n g aK te fin (l.map h) (u::caps) (S0++[[]]):=
 Au (fun τ=>∃u,τ=u::caps) hn l _ ⟨u,rfl⟩ hl (fun x m τ acc R ⟨u,e⟩ k=>by subst e;exact el x m u acc R fun u'=>k _ ⟨u',rfl⟩) hf
theorem cmp2{h:α->bt}(f:α->bt)(hn:S0.length=n)(l:List α){u v:Option XV}(hl:l.length<=1000)
  (el:∀x∈l,∀(u v:Option XV) acc (R:XE->RX),(∀u' v',R (u'::v'::caps) (.d (f x)) (S0++[acc]))->g (.d (h x)) (u::v::caps) (S0++[acc]) fun τ1 S1=>te τ1 S1 (R τ1)) (hf:fin (S0++[l.map f])):bB n g aK te fin (l.map h) (u::v::caps) (S0++[[]]):=
 Au (fun τ=>∃u v,τ=u::v::caps) hn l _ ⟨u,v,rfl⟩ hl (fun x m τ acc R ⟨u,v,e⟩ k=>by subst e;exact el x m u v acc R fun u' v'=>k _ ⟨u',v',rfl⟩) hf
theorem Eh{h:α->bt}{f:α->bt}{p:α->Bool}(P:XE->Prop)(hn:S0.length=n)(l:List α)(τ:XE)(hP:P τ)(hl:l.length<=1000)
  (el:∀x∈l,∀ τ acc (R:XE->Bool->Sto->Prop),P τ->(∀ τ',P τ'->(p x=true->∀T:RX,T (.d (f x)) (S0++[acc])->te τ' (S0++[acc]) T)->R τ' (p x) (S0++[acc]))->g (.d (h x)) τ (S0++[acc]) fun τ1 S1=>tt τ1 S1 (R τ1))
  (hf:fin (S0++[(l.filter p).map f])):bB n g tt te fin (l.map h) τ (S0++[[]]):=by
 have go:∀(l:List α) (acc:List bt) (τ:XE),P τ->acc.length+l.length<=1000->(∀x∈l,∀ τ acc (R:XE->Bool->Sto->Prop),P τ->(∀ τ',P τ'->(p x=true->∀T:RX,T (.d (f x)) (S0++[acc])->te τ' (S0++[acc]) T)->R τ' (p x) (S0++[acc]))->g (.d (h x)) τ (S0++[acc]) fun τ1 S1=>tt τ1 S1 (R τ1)) ->
   fin (S0++[acc++(l.filter p).map f])->bB n g tt te fin (l.map h) τ (S0++[acc]):=by
  intro l;induction l with
  |nil=>intro acc τ _ _ _ h;rw[List.filter_nil,map_nil,kw]at h;exact h
  |cons x l ih=>
   intro acc τ hP hl el hh;show g (.d (h x)) τ (S0++[acc]) fun τ1 S1=>tt τ1 S1 fun b S2=>if b=true then te τ1 S2 fun x S3=>asD x fun e=>∃acc,S3[n]?=some acc/\acc.length<1000/\bB n g tt te fin (l.map h) τ1 (S3.set n (acc++[e]))else bB n g tt te fin (l.map h) τ1 S2
   rw[ft]at hl;refine el x dw τ acc (fun τ1 b S2=>if b=true then te τ1 S2 fun x S3=>asD x fun e=>∃acc,S3[n]?=some acc/\acc.length<1000/\bB n g tt te fin (l.map h) τ1 (S3.set n (acc++[e]))else bB n g tt te fin (l.map h) τ1 S2) hP fun τ' q ev=>?_;cases hp:p x with
   |false=>
    rw[List.filter_cons_of_neg (by rw[hp];exact jg)]at hh;exact eP (ih acc τ' q yw (fun e m=>el e (cz _ m)) hh)
   |true=>
    rw[List.filter_cons_of_pos hp,ga]at hh;refine eI (ev hp _ ⟨acc,by rw[<- hn,fv],yw,?_⟩);rw[DB hn];exact ih (acc++[f x]) τ' q (by rw[fu,iy];omega) (fun e m=>el e (cz _ m)) (by rw[gn];exact hh)
 exact go l [] τ hP (by simpa using hl) el (by simpa using hf)
theorem cmf1{h:α->bt}(f:α->bt)(p:α->Bool)(hn:S0.length=n)(l:List α){u:Option XV}(hl:l.length<=1000)
  (el:∀x∈l,∀(u:Option XV) acc (R:XE->Bool->Sto->Prop),(∀u',(p x=true->∀T:RX,T (.d (f x)) (S0++[acc])->te (u'::caps) (S0++[acc]) T)->R (u'::caps) (p x) (S0++[acc]))->g (.d (h x)) (u::caps) (S0++[acc]) fun τ1 S1=>tt τ1 S1 (R τ1)) (hf:fin (S0++[(l.filter p).map f])):bB n g tt te fin (l.map h) (u::caps) (S0++[[]]):=
 Eh (fun τ=>∃u,τ=u::caps) hn l _ ⟨u,rfl⟩ hl (fun x m τ acc R ⟨u,e⟩ k=>by subst e;exact el x m u acc R fun u' hh=>k _ ⟨u',rfl⟩ hh) hf
theorem cmf2{h:α->bt}(f:α->bt)(p:α->Bool)(hn:S0.length=n)(l:List α){u v:Option XV}(hl:l.length<=1000)
  (el:∀x∈l,∀(u v:Option XV) acc (R:XE->Bool->Sto->Prop),(∀u' v',(p x=true->∀T:RX,T (.d (f x)) (S0++[acc])->te (u'::v'::caps) (S0++[acc]) T)->R (u'::v'::caps) (p x) (S0++[acc]))->g (.d (h x)) (u::v::caps) (S0++[acc]) fun τ1 S1=>tt τ1 S1 (R τ1)) (hf:fin (S0++[(l.filter p).map f])):bB n g tt te fin (l.map h) (u::v::caps) (S0++[[]]):=
 Eh (fun τ=>∃u v,τ=u::v::caps) hn l _ ⟨u,v,rfl⟩ hl (fun x m τ acc R ⟨u,v,e⟩ k=>by subst e;exact el x m u v acc R fun u' v' hh=>k _ ⟨u',v',rfl⟩ hh) hf
end
end
section
@[irreducible] def QSs (X:Cx) (st:List Stmt) (t:TS):Prop:=PSs X st t
theorem QSs.out{X:Cx}{st:List Stmt}{t:TS}(h:QSs X st t):PSs X st t:=by unfold QSs at h;exact h
@[irreducible] def QA (X:Cx) (es:List Expr) (t:TA):Prop:=PA X es t
theorem QA.out{X:Cx}{es:List Expr}{t:TA}(h:QA X es t):PA X es t:=by unfold QA at h;exact h
theorem QA.mk{X:Cx}{es:List Expr}{t:TA}(h:PA X es t):QA X es t:=by unfold QA;exact h
theorem cO{X:Cx}:QA X [] iS:=QA.mk zd
theorem e8{X:Cx}{e:Expr}{es:List Expr}{te:TE}{t:TA}(ha:PE X e te)(hr:QA X es t)(hs:fx (e::es) X.env=(false,eval e X.env)::fx es X.env:=by rfl):QA X (e::es) (cX te t):=QA.mk (za ha hr.out hs)
theorem Eu{X:Cx}{es:List Expr}{t:TA}{pos:Pos}(h:QA X es t):PE X (.List es pos) (mY t):=fC h.out
@[irreducible] def QS (X:Cx) (st:Stmt) (t:TS):Prop:=PS X st t
theorem QS.out{X:Cx}{st:Stmt}{t:TS}(h:QS X st t):PS X st t:=by unfold QS at h;exact h
end
section
def nB(a:DA):DE:=fun δ S R=>a δ S fun xs S1=>arg2 xs fun x y=>asI x fun i=>asI y fun j=>(j-i).toNat<=1000/\R (.d (.list (fB i (j-i).toNat))) S1
end
end L2
namespace HT
open PySem PyProof.Rows
section
variable {prog:gf}{w:iu}{A:iq}{E:bo->bq->Prop}{s:bq}
theorem tup_whole{t sl:Addr}{q:Array bo}{vl vu:bo}{lo hi:Option Int}{Q:bo->bq->Prop}(ht:IsTup s.heap t q)(hs:s.heap.IsSliceOf sl vl vu .none)(pl:IsPart vl lo)(pu:IsPart vu hi)
  (hw:sIx q.size 0 lo=0/\sIx q.size q.size hi=q.size) (h:Q (.ref t) s):cp (model prog w) A (getItem (.ref t) (.ref sl)) Q E s:=by
 obtain⟨os,ab,z,ac⟩:=id hs;have aa:s.TypeIs (.ref sl) "slice":=⟨os,ab,z⟩;unfold getItem
 try with_reducible refine jd ?_
 first|refine bn (bp ?_)|skip
 refine bn (wpAny_sequenceKey ht.typeIs dz ?_);refine bn (gw (name:=lh "__getitem__") ht.typeIs PyProof.Rows.slot_tuple_getitem
  (gx PyProof.Rows.slot_tuple_getitem ht.typeIs entry_tuple_getitem ?_ (args_tuple_getitem _ _)))
 show cp _ _ (Builtin.Tuple.tupleItemsOf (.ref t) >>= _) _ _ s;refine bn (tupleItemsOf_ ht (bn (ug aa ?_)));rw[cn dz];refine bn (Af hs pl pu ?_);rw[hw.1,hw.2];show cp _ _ (if (((0:Nat):Int)==0&&(1:Int)==1&&(q.size-0)==q.size)=true then _ else _) _ _ s;rw[cn yv];unfold Builtin.Tuple.tupleIsExact;refine bn (bn (ug ht.typeIs (bp ?_)));rw[cn dz];exact bn (lq (bp ⟨_,rfl,bp h⟩))
end
end HT
namespace L2
open PySem PySem.Spec PyProof.Rows
section
section
variable {X:Cx}{e ek:Expr}{te tk:TE}{pos p2:Pos}
def FI(K:fe):V->Option Int->Option Int->Hp->VK->Prop:=fun x lo hi H Q=>∃a xs,x=.ref a/\SqT K H a xs /\
 ((HT.sIx xs.length 0 lo=0/\HT.sIx xs.length xs.length hi=xs.length)->Q (.ref a) H)/\∀p,H p=none->Q (.ref p) (upd H p (.tup (dH xs lo hi)))
theorem CK:SlR X (FI X.K):=by
 intro ze s σ H x v vl vu lo hi sl Q I rx hs pl pu h;obtain⟨a,xs,rfl,hx,hw,q⟩:=h;by_cases z:HT.sIx xs.length 0 lo=0/\HT.sIx xs.length xs.length hi=xs.length
 ·cases rx;obtain⟨ab,r,ht,hz⟩:=I.tuple hx;have aa:ab.toArray.size=xs.length:=by rw[fq];exact r.length.symm
  refine⟨"tuple",_,PyProof.Rows.slot_tuple_getitem.lookup,ht.typeIs,?_⟩;exact HT.tup_whole ht hs pl pu (by rw[aa];exact z) ⟨.ref a,H,I,rfl,hw z⟩
 ·exact Bf ze s σ H _ v vl vu lo hi sl Q I rx hs pl pu ⟨a,xs,rfl,hx,z,q⟩
end
def hW:D3:=fun x i j S R=>asT x fun ds=>R (.d (.tuple (b9 ds i j))) S
theorem LA{α:Type}(xs:List α)(lo hi:Option Int)(h:HT.sIx xs.length 0 lo=0/\HT.sIx xs.length xs.length hi=xs.length):b9 xs lo hi=xs:=by
 unfold b9;rw[h.1,h.2];simp
theorem AI{K:fe}:RL (FI K) hW:=fun h o H S x v a b R Q hs hx q c=>by
 replace q:=iH q;obtain⟨ds,rfl,q⟩:=q;obtain⟨p,vs,rfl,ea,l⟩:=d9 hx;refine⟨p,vs,rfl,.of ea,fun z=>?_,lZ hs (l.cut a b) c q⟩;rw[l.length]at z;rw[LA ds a b z]at q;exact c o H S _ _ Ex.refl hs hx q
end
section
def Bw:R2:=fun x y H Q=>∃a b,x=.bl a/\y=.bl b/\Q (.bl (!decide (a=b))) H
theorem K2{X:Cx}:OpR X (ki .IsNot) Bw:=by
 intro ze s σ H x y v u Q I rx ry h;obtain⟨a,b,rfl,rfl,q⟩:=h;cases rx;cases ry;exact wpAny_isNot_plain (by cases a<;>cases b<;>rfl) (uB I q (by cases a<;>cases b<;>rfl))
def kX:D2:=fun x y S R=>asB x fun a=>asB y fun b=>R (.d (.bool (!decide (a=b)))) S
theorem IA:RO Bw kX:=fun h o H S x y v u R Q hs hx hy q c=>by
 replace q:=iZ q;obtain⟨a,rfl,q⟩:=q;replace q:=iZ q;obtain⟨b,rfl,q⟩:=q;exact⟨a,b,eE hx,eE hy,c o H S _ _ Ex.refl hs (xB _) q⟩
end
section
@[irreducible] def QE (X:Cx) (e:Expr) (t:TE):Prop:=PE X e t
theorem QE.out{X:Cx}{e:Expr}{t:TE}(h:QE X e t):PE X e t:=by unfold QE at h;exact h
theorem QE.mk{X:Cx}{e:Expr}{t:TE}(h:PE X e t):QE X e t:=by unfold QE;exact h
theorem IR{X:Cx}{e:Expr}{es:List Expr}{te:TE}{t:TA}(ha:QE X e te)(hr:QA X es t)(hs:fx (e::es) X.env=(false,eval e X.env)::fx es X.env:=by rfl):QA X (e::es) (cX te t):=QA.mk (za ha.out hr.out hs)
theorem fE{X:Cx}{es:List Expr}{t:TA}{k:Nat}{pos:Pos}(h:QA X es t):QE X (.Tuple es k pos) (vM t):=QE.mk (bZ h.out)
section
variable {X:Cx}{es l l':List Expr}{te:TE}{t:TA}{k:Nat}{p:Pos}{c:Const}{x:Str}{ks:List (Option Expr)}
theorem eW(ha:QE X (.Tuple l k p) te)(hr:QA X es t):QA X (.Tuple l k p::es) (cX te t):=QA.mk (za ha.out hr.out rfl)
theorem dW(ha:QE X (.Constant c k p) te)(hr:QA X es t):QA X (.Constant c k p::es) (cX te t):=QA.mk (za ha.out hr.out rfl)
end
end
end L2
namespace L2
open PySem PySem.Spec PySem.Calls PyProof.Rows PySem.W
section
variable {prog:gf}{w:iu}{A:iq}{E:bo->bq->Prop}{s:bq}
def KeptBut(a:Addr)(h h':Heap):Prop:=∀b o,b≠a->h.get? b=some o->h'.get? b=some o
end
end L2
namespace L2
open PySem PySem.Spec PyProof.Rows
section
def jZ:D2:=fun x y S R=>asT x fun ds=>asT y fun es=>∃ns,ds=ns.map cq/\∃ms,es=ms.map cq/\R (.d (.bool (HT.lexLt ns ms))) S
theorem IL{K:fe}:RO (DC K) jZ:=fun h o H S x y v u R Q hs hx hy q c=>by
 replace q:=iH q;obtain⟨ds,rfl,q⟩:=q;replace q:=iH q;obtain⟨es,rfl,ns,rfl,ms,rfl,q⟩:=q;obtain⟨a,vs,rfl,ea,l1⟩:=d9 hx;obtain⟨b,ws,rfl,eb,l2⟩:=d9 hy;have e1:=iX l1;have e2:=iX l2;subst e1 e2;exact⟨a,b,ns,ms,rfl,rfl,.of ea,.of eb,c o H S _ _ Ex.refl hs (xB _) q⟩
end
section
open Sem (wp)
abbrev IsT (h:Heap) (T:Addr) (xs:Array bo):Prop:=h.get? T=some { cls:=.type "tuple",data:=.seq xs }
end
section
structure Bel(xs:Array Nat)(j r:Nat):Prop where
 le:r<=xs.size
 lo:∀i x,i<r->xs[i]?=some x->x<j
 hi:∀i x,r<=i->xs[i]?=some x->j<=x
abbrev Rise (xs:Array Nat):Prop:=xs.toList.Pairwise (· < ·)
theorem Rise.at{xs:Array Nat}(h:Rise xs){i k x y:Nat}(ik:i<k)(ei:xs[i]?=some x)(ek:xs[k]?=some y):x<y:=by
 rw[<- jw]at ei ek;obtain⟨hi,rfl⟩:=List.getElem?_eq_some_iff.mp ei;obtain⟨hk,rfl⟩:=List.getElem?_eq_some_iff.mp ek;exact pairwise_iff_getElem.mp h i k hi hk ik
theorem A7{xs:Array Nat}{j:Nat}(h:Rise xs):∀(fuel lo hi:Nat),lo<=hi->hi<=xs.size->hi-lo<=fuel->(∀i x,i<lo->xs[i]?=some x->x<j)->(∀i x,hi<=i->xs[i]?=some x->j<=x)->Bel xs j (SetTable.below.go xs j fuel lo hi)
 | 0,lo,hi,l1,l2,l3,a,b=>by
  unfold SetTable.below.go;have:hi=lo:=yw
  subst this;exact⟨l2,a,b⟩
 |fuel+1,lo,hi,l1,l2,l3,a,b=>by
  unfold SetTable.below.go;by_cases h1:lo<hi
  ·rw[cn h1];have hm:(lo+hi)/2<xs.size:=yw
   have em:xs[(lo+hi)/2]?=some xs[(lo+hi)/2]:=gu hm;have eg:xs.getD ((lo+hi)/2) j=xs[(lo+hi)/2]:=by simp[Array.getD,hm]
   dsimp only;rw[eg];by_cases h2:xs[(lo+hi)/2]<j
   ·rw[cn h2];refine A7 h fuel _ _ yw l2 yw (fun i x q e=>?_) b;by_cases h3:i=(lo+hi)/2
    ·subst h3;rw[em]at e;cases e;exact h2
    ·exact lt_trans (h.at yw e em) h2
   ·rw[cm h2];refine A7 h fuel _ _ yw yw yw a fun i x q e=>?_;by_cases h3:i=(lo+hi)/2
    ·subst h3;rw[em]at e;cases e;omega
    ·have:=h.at (show (lo+hi)/2<i by omega) em e;omega
  ·rw[cm h1];have:hi=lo:=yw
   subst this;exact⟨l2,a,b⟩
theorem bel{xs:Array Nat}{j:Nat}(h:Rise xs):Bel xs j (qj xs j):=by
 unfold qj;refine A7 h _ _ _ (nj _) (dh _) yw (fun i x z=>absurd z (Nat.not_lt_zero _)) fun i x z e=>?_;have:=(Array.getElem?_eq_some_iff.mp e).1;omega
theorem Cp{xs:Array Nat}{j r q:Nat}(a:Bel xs j r)(b:Bel xs j q):r=q:=by
 rcases Nat.lt_trichotomy r q with h|h|h
 ·have hs:r<xs.size:=by have:=b.le;omega
  have e:=gu hs;have:=a.hi r _ (dh _) e;have:=b.lo r _ h e;omega
 ·exact h
 ·have hs:q<xs.size:=by have:=a.le;omega
  have e:=gu hs;have:=b.hi q _ (dh _) e;have:=a.lo q _ h e;omega
theorem Ld{xs:Array Nat}{j:Nat}(h:Rise xs)(hn:xs[qj xs j]? ≠ some j):Rise (SetTable.insertAt xs (qj xs j) j):=by
 have b:=bel (j:=j) h;generalize qj xs j=r at b hn;unfold Rise;rw[SetTable.toList_insertAt];have h1:∀x∈xs.toList.take r,x<j:=fun x m=>by
  obtain⟨i,hi⟩:=mem_iff_getElem?.mp m;have il:i<r:=by
   have:=(List.getElem?_eq_some_iff.mp hi).1;rw[qb]at this;omega
  rw[um,cn il,jw]at hi;exact b.lo i x il hi
 have h2:∀x∈xs.toList.drop r,j<x:=fun x m=>by
  obtain⟨i,hi⟩:=mem_iff_getElem?.mp m;rw[uo,jw]at hi;have le:=b.hi (r+i) x yw hi;rcases Nat.eq_or_lt_of_le le with e|l
  ·exfalso;subst e;cases i with
   |zero=>exact hn hi
   |succ i=>
    have hs:r<xs.size:=by have:=(Array.getElem?_eq_some_iff.mp hi).1;omega
    have e:=gu hs;have:=b.hi r _ (dh _) e;have:=h.at (show r<r+(i+1) by omega) e hi;omega
  ·exact l
 refine pairwise_append.mpr ⟨qm (List.take_sublist _ _) h,pairwise_cons.mpr ⟨h2,qm (List.drop_sublist _ _) h⟩,fun x mx y my=>?_⟩;rcases mem_cons.mp my with rfl|my
 ·exact h1 x mx
 ·exact lt_trans (h1 x mx) (h2 y my)
theorem Gw{t:li}(hd:t.dummies = #[])(j:Nat):t.slot j≠.dummy:=by
 unfold SetTable.slot;dsimp only;split
 ·simp
 ·rw[hd];simp[SetTable.has]
theorem M7{t:li}{j:Nat}(h:t.slot j=.empty):t.place[qj t.place j]? ≠ some j:=by
 unfold SetTable.slot at h;dsimp only at h;intro e;rw[e]at h;simp at h
theorem C1{t:li}{f:Nat->Int}{h:Int}(hd:t.dummies = #[]):∀(fuel:Nat) (p:SetTable.Probe) (j:Nat) (d:Option Nat),SetTable.probe.go t f h fuel p=some (.empty j d)->t.slot j=.empty/\d=p.dummy
 | 0,p,j,d,e=>by simp[SetTable.probe.go]at e
 |fuel+1,p,j,d,e=>by
  unfold SetTable.probe.go at e;split at e
  ·rename_i hs;cases e;exact⟨hs,rfl⟩
  ·rename_i hs;exact absurd hs (Gw hd _)
  ·split at e
   ·cases e
   ·have:=C1 hd fuel _ j d e;refine⟨this.1,this.2.trans ?_⟩;unfold SetTable.advance;split<;>rfl
structure Tab(led:Bool)(t:li)(n:Nat):Prop where
 fits:t.fits n=true
 rise:Rise t.place
 dum:t.dummies = #[]
 led:t.led=led
theorem MD(n:Nat):Rise (Array.range n):=by
 unfold Rise;rw[Array.toList_range];exact List.pairwise_lt_range
theorem tU{led:Bool}{t:li}(n:Nat)(h:t.led=led):Tab led (t.standIn n) n:=
 ⟨SetTable.standIn_fits t n,MD n,rfl,h⟩
theorem Bi(led:Bool):Tab led (SetTable.fresh 0 0 led) 0:=⟨rfl,qx,rfl,rfl⟩
theorem Kc{led:Bool}{t:li}{es:Array (Int×bo)}(h:Tab led t es.size)(hs:Int)(x:bo):Tab led (layNew t es hs x).2.1 (layNew t es hs x).1.size:=by
 unfold layNew;split
 ·rename_i slot wd hf;unfold SetTable.freeSlot at hf;split at hf
  ·rename_i j d hp;cases hf;obtain⟨e1,e2⟩:=C1 h.dum _ _ _ _ hp;have e3:d=none:=e2;subst e3;dsimp only[Option.getD];have hr:=Ld h.rise (M7 e1);unfold SetTable.orStandIn;split
   ·rename_i q;refine⟨q,hr,?_,h.led⟩;show (if SetTable.has t.dummies j=true then _ else t.dummies) = #[];rw[h.dum];rfl
   ·exact tU _ h.led
  ·cases hf
 ·have:=tU (led:=led) (t:=t) (es.size+1) h.led;simpa using this
theorem LU{led:Bool}{t:li}{es:Array (Int×bo)}(h:t.led=led)(q:Nat):Tab led (relayAll t es q).2.1 (relayAll t es q).1.size:=by
 have hf:=relayAll_fits t es q;unfold relayAll at hf ⊢;split
 ·rename_i t' z hl;rw[hl]at hf;dsimp only at hf ⊢;split
  ·rename_i hc;rw[cn hc]at hf;unfold SetTable.relaid SetTable.laid at hl;simp only[Option.bind_eq_bind,Option.bind_eq_some_iff,Option.pure_def,Option.some.injEq,Prod.mk.injEq]at hl;obtain⟨owner,_,rfl,_⟩:=hl;refine⟨hf,?_,rfl,h⟩;unfold Rise;dsimp only;rw[pp,List.pairwise_filterMap];refine List.Pairwise.imp (fun {a b} ab x ex y ey=>?_) List.pairwise_lt_range;obtain⟨_,_,rfl⟩:=map_eq_some_iff.mp ex;obtain⟨_,_,rfl⟩:=map_eq_some_iff.mp ey;exact ab
  ·exact tU _ h
 ·exact tU _ h
end
section
def kE(e:Int×bo):Int:=match e.2 with
 | .int n _=>n
 |_=>0
def OkE(e:Int×bo):Prop:=∃n t,e.2=.int n t/\e.1=hashInt n
theorem Kk{e:Int×bo}{n:Int}{t:Tok}(h:e.2=.int n t):kE e=n:=by
 unfold kE;rw[h]
def SetI(led:Bool)(h:Heap)(a:Addr)(es:Array (Int×bo)):Prop:=∃(o:Obj) (ep:Nat) (t:li),
 h.get? a=some o/\o.ExactSet/\o.data=.set es ep t/\(∀e∈es.toList,OkE e)/\(es.toList.map kE).Nodup/\es.size<100/\Tab led t es.size
theorem SetI.at{led:Bool}{h g:Heap}{a:Addr}{es:Array (Int×bo)}(q:SetI led h a es)(f:∀o,h.get? a=some o->g.get? a=some o):SetI led g a es:=by
 obtain⟨o,ep,t,h1,r⟩:=q;exact⟨o,ep,t,f o h1,r⟩
section
variable {prog:gf}{w:iu}{A:iq}{E:bo->bq->Prop}{s:bq}{led:Bool}
theorem KD{l:List (Int×bo)}(h:∀e∈l,OkE e):ElemsOf (vd prog w) l:=fun e m=>by
 obtain⟨n,t,e1,e2⟩:=h e m;refine⟨⟨n,?_,e2⟩,?_⟩
 ·rw[e1];simp[vd,qu]
 ·rw[e1];rfl
theorem EI{k:Int}{e:Int×bo}(h:OkE e):qu k e.2=true↔kE e=k:=by
 obtain⟨n,t,e1,e2⟩:=h;rw[Kk e1,e1];simp[qu]
theorem v9{n:Nat}(h:n<100):n<scanBound:=by
 have:scanBound=4096:=rfl;omega
theorem Fe{h:Heap}{a:Addr}{o:Obj}{es q:Array (Int×bo)}{ep:Nat}{t t':li}(ho:h.get? a=some o)(z:o.ExactSet)(hd:o.data=.set es ep t)
  (h1:∀e∈q.toList,OkE e) (h2:(q.toList.map kE).Nodup) (h3:q.size<100) (h4:Tab led t' q.size):
  (h.update a (Obj.putSet q t')).get? a=some { o with data:=.set q (ep+1) t' }/\SetI led (h.update a (Obj.putSet q t')) a q:=by
 have hg:=uh (Obj.putSet q t') ho (by rw[putSet_of q t' hd];rfl);rw[putSet_of q t' hd]at hg;exact⟨hg,_,_,_,hg,z,rfl,h1,h2,h3,h4⟩
theorem Fd{g:Bool->Sem Unit}(hg:∀(b:Bool) (s1:bq) (Q':Unit->bq->Prop),Q' () s1->cp (model prog w) A (g b) Q' E s1){a:Addr}{o:Obj}{es q:Array (Int×bo)}{ep:Nat}{t t2:li}
  (ho:s.heap.get? a=some o) (hex:o.ExactSet) (hd:o.data=.set es ep t) (h1:∀e∈q.toList,OkE e) (h2:(q.toList.map kE).Nodup) (h3:q.size<100) (h4:Tab led t2 q.size) {wd:Bool}{R:Option Bool->bq->Prop}
  (h:∀h' es',gd a s.heap h'->SetI led h' a es'->es'.toList.Perm q.toList->R (some true) { s with heap:=h' }):
  cp (model prog w) A (do
    storeSet a q t2
    if (!wd&&t2.tooFull)=true then do
     g (relayAll t2 q (ud q.size)).2.2
     storeSet a (relayAll t2 q (ud q.size)).1 (relayAll t2 q (ud q.size)).2.1
     pure (some true)
    else pure (some true)) R E s:=by
 obtain⟨ab,ac⟩:=Fe (led:=led) ho hex hd h1 h2 h3 h4;have aa:=kg s.heap a (Obj.putSet q t2);refine bn (wpAny_storeSet_of ho hd ?_ (fits_of_scanBound (v9 h3)));split
 ·have hp:=relayAll_perm t2 q (ud q.size);have ht:=LU (led:=led) (t:=t2) (es:=q) h4.led (ud q.size);generalize relayAll t2 q (ud q.size)=Rl at hp ht ⊢;obtain⟨z,t3,gv⟩:=Rl;dsimp only at hp ht ⊢;have ez:z.size=q.size:=by
   have:=hp.length_eq
   rwa [gh,gh]at this
  have q1:∀e∈z.toList,OkE e:=fun e m=>h1 e (hp.mem_iff.mp m);have q2:(z.toList.map kE).Nodup:=(hp.map kE).nodup_iff.mpr h2;refine bn (hg _ _ _ ?_);refine bn (wpAny_storeSet_of ab rfl ?_ (fits_of_scanBound (v9 yw)));obtain⟨_,ae⟩:=Fe (led:=led) ab hex rfl q1 q2 yw ht;exact bp (h _ _ (aa.trans (kg _ a _)) ae hp)
 ·exact bp (h _ _ aa ac (qk _))
theorem LF{a:Addr}{es:Array (Int×bo)}{k:Int}{tk:Tok}{Q:Bool->bq->Prop}(hS:SetI led s.heap a es)(hr:es.size+1<100)
  (h:∀b h' q,gd a s.heap h'->SetI led h' a q->(∀x,x∈q.toList.map kE↔x∈es.toList.map kE\/x=k)->q.size<=es.size+1->Q b { s with heap:=h' }):
  cp (model prog w) A (setAddHashed a (.int k tk) (hashInt k)) Q E s:=by
 obtain⟨o,ep,t,ho,ab,hd,h1,h2,h3,h4⟩:=hS;have af:ElemsOf (vd prog w) es.toList:=KD h1;have ae:(vd prog w).is k (.int k tk)=true:=by simp[vd,qu]
 unfold setAddHashed setAddHashedIn;refine jd (bn (ra ho hd h4.fits ?_));dsimp only;rw[byScan_of (knd:=vd prog w) rfl (v9 h3) af];simp only[↓reduceIte];unfold setAddByScan;refine bn (bn (lq (bn (wpAny_setScan_of (knd:=vd prog w) ae ho hd h4.fits af ?_))));cases hr':List.findIdx? (fun e=>(vd prog w).is k e.2) es.toList with
 |some j=>
  dsimp only;obtain⟨hj,ag,_⟩:=List.findIdx?_eq_some_iff_getElem.mp hr';have hm:k∈es.toList.map kE:=mem_map.mpr ⟨es.toList[j],qd hj,(EI (h1 _ (qd hj))).mp ag⟩;refine bp (bp ?_);have:=h false s.heap es (Heap.SameBut.refl a s.heap) ⟨o,ep,t,ho,ab,hd,h1,h2,h3,h4⟩ (fun x=>⟨.inl,fun z=>z.elim id fun e=>e▸hm⟩) yw;exact this
 |none=>
  dsimp only;have hm:k∉es.toList.map kE:=fun m=>by
   obtain⟨e,me,ek⟩:=mem_map.mp m;have:=List.findIdx?_eq_none_iff.mp hr' e me;rw[show (vd prog w).is k e.2=qu k e.2 from rfl,(EI (h1 e me)).mpr ek]at this;cases this
  have ah:∀(b:Bool) (s1:bq) (Q':Unit->bq->Prop),Q' () s1->cp (model prog w) A (match b with|true=>rule "set.scan.the-table-gave-way" | false=>pure ()) Q' E s1:=
   fun b s1 Q' hq=>by cases b<;>first|exact bp hq|exact lq hq
  have hp:=layNew_perm t es (hashInt k) (.int k tk);have ht:=Kc (led:=led) (es:=es) h4 (hashInt k) (.int k tk);generalize layNew t es (hashInt k) (.int k tk)=L at hp ht ⊢;obtain⟨aa,t1,wd,gv⟩:=L;dsimp only at hp ht ⊢;rw[toList_push]at hp;have ez:aa.size=es.size+1:=by
   have:=hp.length_eq
   rwa [gh,fu,gh,iy]at this
  have kk:kE (hashInt k,oo k tk)=k:=rfl;have q1:∀e∈aa.toList,OkE e:=fun e m=>by
   rcases mem_append.mp (hp.mem_iff.mp m)with m|m
   ·exact h1 e m
   ·rw[mem_singleton.mp m];exact⟨k,tk,rfl,rfl⟩
  have ac:(aa.toList.map kE).Perm (es.toList.map kE++[k]):=by
   have:=hp.map kE
   rwa [jk,List.map_singleton,kk]at this
  have q2:(aa.toList.map kE).Nodup:=by
   rw[ac.nodup_iff,qz];exact⟨h2,yv,fun x mx y my e=>by rw[mem_singleton.mp my]at e;rw[e]at mx;exact hm mx⟩
  have fin:∀h' q,gd a s.heap h'->SetI led h' a q->q.toList.Perm aa.toList->Q true { s with heap:=h' }:=fun h' q sb S' p=>
   h true h' q sb S' (fun x=>by
    rw[((p.map kE).trans ac).mem_iff,uy,tz]) (by
    have:=p.length_eq;rw[gh,gh]at this;omega)
  refine bn (ah _ _ _ ?_);split
  ·refine bn ?_;show cp _ _ (pure true) _ _ _;refine bp ?_;refine Fd (led:=led) (fun b s1 Q' hq=>by cases b<;>first|exact bp hq|exact lq hq) ho ab hd q1 q2 yw ht fun h' q sb S' p=>?_;dsimp only;exact bp (fin h' q sb S' p)
  ·refine bn (bp ?_);simp only[↓reduceIte];refine Fd (led:=led) (fun b s1 Q' hq=>by cases b<;>first|exact bp hq|exact lq hq) ho ab hd q1 q2 yw ht fun h' q sb S' p=>?_;dsimp only;exact bp (fin h' q sb S' p)
theorem C5{a:Addr}{es:Array (Int×bo)}{k:Int}{tk:Tok}{Q:Bool->bq->Prop}(hS:SetI led s.heap a es)(hr:es.size+1<100)
  (h:∀b h' es',gd a s.heap h'->SetI led h' a es'->(∀x,x∈es'.toList.map kE↔x∈es.toList.map kE\/x=k)->es'.size<=es.size+1->Q b { s with heap:=h',toks:=s.toks+1 }):
  cp (model prog w) A (setAdd a (.int k tk)) Q E s:=by
 unfold setAdd;refine jd (bn ((vd prog w).pyHash (k:=k) (by simp[vd,qu]) ?_));exact LF (led:=led) (s:={ s with toks:=s.toks+1 }) hS hr h
end
end
section
namespace F4
theorem plain_update_loop:plainId "set.update.loop" = true:=by decide +kernel
theorem entry_update_loop:entryFor table "set.update.loop" = some lg.«set.update.loop»:=entryFor_of_fast (by kernel_rfl)
theorem typeCall_set_1(a:bo):checkTypeCall "set" ⟨[a],[]⟩=pure ():=by kernel_rfl
theorem newCall_set_1(a:bo):checkBuiltinCall "set.__new__" ⟨[.type "set",a],[]⟩=pure ():=by kernel_rfl
theorem sub_list_set:isSubtype (.type "list") (.type "set")=pure false:=by rw[isSubtype_type];kernel_rfl
theorem sub_list_frz:isSubtype (.type "list") (.type "frozenset")=pure false:=by rw[isSubtype_type];kernel_rfl
end F4
section
variable {prog:gf}{w:iu}{A:iq}{E:bo->bq->Prop}{s:bq}
theorem vD{Q:Bool->bq->Prop}(h:Q (w.params.followText "set-order") s):cp (model prog w) A setsByText Q E s:=fun _ _ _=>h
theorem Iz{R:Result->bq->Prop}{I:Addr}{fp wr:List Addr}{G:Array GenState->Array GenState->Prop}{n:Nat}{P:Nat->bo->Prop}{St:Nat->bq->Prop}{led:Bool}(W:WalksS prog w A.in1 I fp wr G n P St)(hn:n<90)(S:Addr)(ae:S∉fp)
  (key:Nat->Int) (hP:∀i v,P i v->∃tk,v=.int (key i) tk):
  ∀(m i:Nat) (s:bq) (es:Array (Int×bo)),n-i=m->i<=n->St i s->SetI led s.heap S es->(∀x,x∈es.toList.map kE↔∃j,j<i/\x=key j)->es.size<=i ->
  (∀s' q,Moved (S::wr) G s s'->SetI led s'.heap S q->(∀x,x∈q.toList.map kE↔∃j,j<n/\x=key j)->R (.ok (.ret .none)) s') ->
  codeAny (model prog w) A (.builtin "set.update.loop" ⟨[.ref S,.ref I],[]⟩) R s:=by
 have af:S∉wr:=fun h=>ae (W.sub _ h);have aa:∀b∈wr,b∈S::wr:=fun b hb=>cz _ hb;intro m;induction m with
 |zero=>
  intro i s es hm hi ab hS hk hz hR;obtain rfl:i=n:=yw
  refine lf F4.entry_update_loop ?_;rw[ku F4.plain_update_loop _];show cp _ A.in1 (nq (.ref I) >>= _) _ _ s;refine bn (W.done s _ _ ab fun s' mv=>?_);exact bp (hR s' es (mv.mono aa) (hS.at fun o e=>mv.heap S o af e) hk)
 |succ m ih=>
  intro i s es hm hi ab hS hk hz hR;have ac:i<n:=yw
  refine lf F4.entry_update_loop ?_;rw[ku F4.plain_update_loop _];show cp _ A.in1 (nq (.ref I) >>= _) _ _ s;refine bn (W.item i s _ _ ac ab fun v s' hv ag mv=>?_);obtain⟨tk,rfl⟩:=hP i v hv;have ah:SetI led s'.heap S es:=hS.at fun o e=>mv.heap S o af e;refine bn (jd (C5 ah yw fun b h' q sb S' mk z'=>?_));refine bp ⟨uq F4.plain_update_loop _,ih (i+1) _ q yw ac (W.frame _ s' h' (s'.toks+1) ag (le_succ _) fun b hb o e=>sb.extBut b o (fun z=>ae (z▸hb)) e) S' (fun x=>?_) yw fun s'' es'' mv'' S'' k''=>?_⟩
  ·rw[mk x,hk x];constructor
   ·rintro(⟨j,hj,e⟩|e)
    ·exact⟨j,yw,e⟩
    ·exact⟨i,yw,e⟩
   ·rintro⟨j,hj,e⟩;by_cases z:j=i
    ·subst z;exact .inr e
    ·exact .inl ⟨j,yw,e⟩
  ·exact hR s'' es'' (Moved.trans W.gtrans ((mv.mono aa).then_heap (le_succ _) fun b o hb e=>sb.extBut b o (fun z=>hb (z▸dw)) e) mv'') S'' k''
theorem Dq{a:bo}{Q:bo->bq->Prop}(h:Q (.ref s.heap.objs.size) { s with heap:=s.heap.push { cls:=.type "set",dict:=none,data:=.set #[] 0 (.fresh 0 0 (!w.params.followText "set-order")) } }):
  codeAny (model prog w) A (.call (.builtin "set.__new__") ⟨[.type "set",a],[]⟩) (wants Q E) s:=by
 refine codeAny_of_tree ?_;show cp _ A.in1 (do checkBuiltinCall "set.__new__" ⟨[.type "set",a],[]⟩;again (.builtin "set.__new__" ⟨[.type "set",a],[]⟩)) _ _ s;refine bn (wpAny_of_eq (F4.newCall_set_1 a) (bp ⟨uq F.plain_set_new _,lf F.entry_set_new ?_⟩));rw[ku F.plain_set_new _];unfold lg.«set.__new__» Builtin.Frozenset.newClass;have q:=sub_set_self;obtain⟨h0,gs,dr,tk,os⟩:=s;dsimp only
 wp_walk
 refine wpAny_askSetting (M:=model prog w) (bp ?_);dsimp only;simp only[newObj];exact bn (wpAny_alloc (bp (bp h)))
theorem Cm{M:Model}{self a:bo}{Q:Unit->bq->Prop}(hT:s.TypeIs self "set")(hQ:Q () s):cp M A (checkBuiltinCall "set.__init__" ⟨[self,a],[]⟩) Q E s:=by
 simp only[checkBuiltinCall,kind_set_init,split_set_init,sig_set_init];refine bn (kx hT sub_set_self ?_);simp only[Bool.not_true,fg,if_false];unfold Bind.checkArgs;dsimp only;refine bn (m:=Bind.printed "set" true _ _) (PyProof.Rows.printed_name dz ?_);refine bn (m:=Bind.printed "*" false _ _) (PyProof.Rows.printed_star (sig:=_) (self:=self) rfl hT fun q=>?_);have z:(Manifest.Receiver.self==Manifest.Receiver.none)=false:=by decide
 have h1:(if (Manifest.Receiver.self==Manifest.Receiver.none)=true then [self,a].length else [self,a].length-1)=1:=by simp[z]
 rw[h1];simp only[map_nil];have hc:Bind.check ⟨.positional,"set","*",.self,[⟨"iterable",.posOnly,false⟩]⟩ "set" q 1 []=pure ():=by
  have aa:(Manifest.ParamKind.posOnly==Manifest.ParamKind.posOnly)=true:=by decide
  simp[Bind.check,Bind.checkCount,Bind.isPositional,aa]
 rw[hc];exact bp hQ
end
end
section
namespace F4
theorem slot_si_next:Slot "set_iterator" "__next__" "set_iterator.__next__":=.of (owner:="set_iterator") (n:="__next__") (by rw[typeLookup_type,builtinLookup_eq_fast];kernel_rfl) (by decide +kernel) (by decide +kernel) (by decide +kernel) (by first|exact .inl (by decide +kernel)|exact .inr (by decide +kernel)) (by rw[isSubtype_type];kernel_rfl)
theorem entry_si_next:entryFor table "set_iterator.__next__" = some lg.«set_iterator.__next__»:=entryFor_of_tree (by kernel_rfl)
theorem entry_set_iter:entryFor table "set.__iter__" = some lg.«frozenset.__iter__»:=entryFor_alias (id':="frozenset.__iter__") (by kernel_rfl) rfl (by decide +kernel) (by kernel_rfl)
theorem LQ:Manifest.owners.lookup (String.ofList ['r','o','t','a','r','e','t','i','_','t','e','s'].reverse)=some Manifest.sig_set_iterator:=by kernel_rfl
theorem args_si_next(a:bo):argsOk "set_iterator.__next__" ⟨[a],[]⟩:=by unfold argsOk;rw[signature?_of (id:="set_iterator.__next__") (n:=['_','_','t','x','e','n','_','_']) (o:=['r','o','t','a','r','e','t','i','_','t','e','s']) (by kernel_rfl) LQ];kernel_rfl
end F4
theorem xO{α:Type}:∀(l:List α) (i:Nat) (h:i<l.length),(l[i]::l.eraseIdx i).Perm l
 | [],i,h=>by simp at h
 |a::l,0,h=>qk _
 |a::l,i+1,h=>by
  show (l[i]'(by simpa using h)::a::l.eraseIdx i).Perm (a::l);exact(List.Perm.swap _ _ _).trans (List.Perm.cons _ (xO l i (by simpa using h)))
theorem FE{α:Type}{next:Nat->Nat}:∀(fuel k:Nat) (left:List α) (out:Array α),left.length=fuel->(pickOrder.go next fuel k left out).toList.Perm (out.toList++left)
 | 0,k,left,out,h=>by
  have:left=[]:=List.length_eq_zero_iff.mp h;subst this;unfold pickOrder.go;simp
 |fuel+1,k,left,out,h=>by
  unfold pickOrder.go;have hl:next k % left.length<left.length:=Nat.mod_lt _ yw;rw[cw hl];dsimp only;refine(FE fuel (k+1) _ _ (by rw[List.length_eraseIdx,cn hl];omega)).trans ?_;rw[toList_push,gn];refine List.Perm.append_left _ ?_;exact xO _ _ hl
theorem Jo{α:Type}(next:Nat->Nat)(xs:Array α):(pickOrder next xs).toList.Perm xs.toList:=by
 unfold pickOrder;have:=FE (next:=next) xs.size 0 xs.toList #[] (gh);simpa using this
section
variable {prog:gf}{w:iu}{A:iq}{E:bo->bq->Prop}{s:bq}
theorem BX{α:Type}{E:bo->bq->Prop}:∀(n:Nat) (xs:List α) (s:bq) (Q:List α->bq->Prop),xs.length=n->(∀d ys,ys.Perm xs->Q ys { s with drawn:=d })->cp (model prog w) A (drawOrder n xs) Q E s
 | 0,xs,s,Q,h,q=>by
  have:xs=[]:=List.length_eq_zero_iff.mp h;subst this;exact bp (q s.drawn [] (qk _))
 |n+1,[],s,Q,h,q=>by cases h
 |n+1,x::xs,s,Q,h,q=>by
  show cp _ _ (choose .order (x::xs).length >>= _) _ _ _;refine bn (fun Γ p hΓ=>⟨yv,?_⟩);show cp (model prog w) A (match (x::xs)[w.draws .order (s.drawn.get .order) % (x::xs).length]? with|some y=>(do let r <- drawOrder n ((x::xs).eraseIdx (w.draws .order (s.drawn.get .order) % (x::xs).length));pure (y::r))|none=>unsupported "internal:drawOrder") Q E { s with drawn:=s.drawn.bump .order };generalize hi:w.draws .order (s.drawn.get .order) % (x::xs).length=i;have hl:i<(x::xs).length:=by rw[<- hi];exact Nat.mod_lt _ yv
  rw[cw hl];dsimp only;refine bn (BX n _ _ _ (by rw[List.length_eraseIdx,cn hl];omega) fun d ys p=>bp ?_);exact q d _ ((List.Perm.cons _ p).trans (xO _ _ hl))
abbrev IsSI (h:Heap) (I S:Addr) (f:bo) (i n ep:Nat):Prop:=h.get? I=some { cls:=.type "set_iterator",dict:=none,data:=.fields #[f,nr i,.ref S,nr n,nr ep],slots:=#[] }
theorem jL{I S:Addr}{f:bo}{i n ep:Nat}(h:IsSI s.heap I S f i n ep):s.TypeIs (.ref I) "set_iterator":=⟨_,h,rfl⟩
theorem Er(i:Nat):nr ((i:Int)+1)=nr ((i+1:Nat):Int):=by simp
theorem FS{Q:PySem.Fin->bq->Prop}(hh:A.handled=none)(h:∀h' e,(∀b o,s.heap.get? b=some o->h'.get? b=some o)->(∃o,h'.get? e=some o/\o.cls=.type "StopIteration")->E (.ref e) { s with heap:=h' }):
  cp (model prog w) A (newExc (.type "StopIteration") [] >>= fun x=>raiseNew x) Q E s:=by
 refine bn ?_;simp only[newExc,newTuple];refine bn (io ?_ (by size_fits));refine bn (m:=uc (.type "StopIteration") _) (wpAny_of_eq (a:=lj) (by first|rfl|(simp only[uc];rfl)) ?_);refine io ?_ (by size_fits);simp only[raiseNew];refine bn (wpAny_handled ?_);rw[hh];refine bn (bp (wpAny_throw ?_));exact h _ _ (fun b o e=>bu _ (bu _ e)) ⟨_,cy _ rfl,rfl⟩
theorem JR{I S:Addr}{o:Obj}{es:Array (Int×bo)}{t:li}{slot nx i ep:Nat}{x:bo}{Q:Option bo->bq->Prop}(hI:IsSI s.heap I S (nr slot) i es.size ep)(hS:s.heap.get? S=some o)(hd:o.data=.set es ep t)(hf:t.fits es.size=true)
  (hn:∀(A:iq) (Q:Option (bo×Nat)->bq->Prop) (E:bo->bq->Prop) (s:bq),s.heap.get? S=some o->Q (some (x,nx)) s->cp (model prog w) A (setNext S slot i ep) Q E s)
  (hQ:∀h',IsSI h' I S (nr nx) (i+1) es.size ep->gd I s.heap h'->Q (some x) { s with heap:=h' }):cp (model prog w) A (nq (.ref I)) Q E s:=by
 unfold nq;refine bn (nl (gw (name:=lh "__next__") (jL hI) F4.slot_si_next (gx F4.slot_si_next (jL hI) F4.entry_si_next ?_ (F4.args_si_next _))));unfold lg.«set_iterator.__next__»;refine bn (m:=slotArgs "__next__" 0 _) (bp ?_);refine bn (ue hI rfl ?_);show cp _ _ (setEntries S >>= _) _ _ s;refine bn (rg hS hd hf ?_);rw[cm yv];show cp _ _ (setNext S ((slot:Int).toNat) ((i:Int).toNat) ((ep:Int).toNat) >>= _) _ _ s;rw[im,im,im];refine bn (hn _ _ _ _ hS ?_);refine bn (gz hI yv fun g1 z1 b1=>?_);refine bn (gz (s:={ s with heap:=g1 }) z1 yv fun g2 z2 b2=>?_);refine bp ⟨_,rfl,bp (hQ g2 ?_ (b1.trans b2))⟩;rw[Er]at z2;exact z2
theorem KW{I S:Addr}{o:Obj}{es:Array (Int×bo)}{t:li}{slot i ep:Nat}{Q:Option bo->bq->Prop}(hh:A.handled=none)(hI:IsSI s.heap I S (nr slot) i es.size ep)(hS:s.heap.get? S=some o)(hd:o.data=.set es ep t)(hf:t.fits es.size=true)
  (hn:∀(A:iq) (Q:Option (bo×Nat)->bq->Prop) (E:bo->bq->Prop) (s:bq),s.heap.get? S=some o->Q none s->cp (model prog w) A (setNext S slot i ep) Q E s)
  (hQ:∀h',(∀b o,b≠I->s.heap.get? b=some o->h'.get? b=some o)->Q none { s with heap:=h' }):cp (model prog w) A (nq (.ref I)) Q E s:=by
 unfold nq;refine bn (nl (gw (name:=lh "__next__") (jL hI) F4.slot_si_next (gx F4.slot_si_next (jL hI) F4.entry_si_next ?_ (F4.args_si_next _))));unfold lg.«set_iterator.__next__»;refine bn (m:=slotArgs "__next__" 0 _) (bp ?_);refine bn (ue hI rfl ?_);show cp _ _ (setEntries S >>= _) _ _ s;refine bn (rg hS hd hf ?_);rw[cm yv];show cp _ _ (setNext S ((slot:Int).toNat) ((i:Int).toNat) ((ep:Int).toNat) >>= _) _ _ s;rw[im,im,im];refine bn (hn _ _ _ _ hS ?_);refine bn (gz hI yv fun g1 z1 b1=>?_);refine FS (s:={ s with heap:=g1 }) hh fun h' e kp ⟨oe,e1,e2⟩=>?_;refine bn (kx (T:="StopIteration") (b:=true) ⟨oe,e1,e2⟩ isSubtype_stop ?_);exact bp (hQ _ fun b ob nb eb=>kp b ob (b1.extBut b ob nb eb))
theorem Lm{I S T:Addr}{o:Obj}{es:Array (Int×bo)}{t:li}{i ep p:Nat}{ps:Array bo}{x:Int×bo}{Q:Option bo->bq->Prop}(hI:IsSI s.heap I S (.ref T) i es.size ep)(hS:s.heap.get? S=some o)(hd:o.data=.set es ep t)(hf:t.fits es.size=true)
  (hT:IsT s.heap T ps) (hp:ps[i]?=some (nr p)) (hx:es[p]?=some x)
  (hQ:∀h',IsSI h' I S (.ref T) (i+1) es.size ep->gd I s.heap h'->Q (some x.2) { s with heap:=h' }):cp (model prog w) A (nq (.ref I)) Q E s:=by
 unfold nq;refine bn (nl (gw (name:=lh "__next__") (jL hI) F4.slot_si_next (gx F4.slot_si_next (jL hI) F4.entry_si_next ?_ (F4.args_si_next _))));unfold lg.«set_iterator.__next__»;refine bn (m:=slotArgs "__next__" 0 _) (bp ?_);refine bn (ue hI rfl ?_);show cp _ _ (setEntries S >>= _) _ _ s;refine bn (rg hS hd hf ?_);rw[cm yv];show cp _ _ (seqItems? (.ref T) >>= _) _ _ s;refine bn (bn (wpAny_load hT (bp ?_)));show cp _ _ (match ps[(i:Int).toNat]? with|some (oo place _)=>_|some _=>_|none=>_) _ _ s;rw[im,hp];show cp _ _ (setNextDrawn S ((p:Int).toNat) ((ep:Int).toNat) >>= _) _ _ s;rw[im,im];unfold setNextDrawn;refine bn (bn (ra hS hd hf ?_));dsimp only;rw[cm yv,hx];refine bp ?_;refine bn (gz hI yv fun g1 z1 b1=>?_);refine bp ⟨_,rfl,bp (hQ g1 ?_ b1)⟩;rw[Er]at z1;exact z1
theorem K3{I S T:Addr}{o:Obj}{es:Array (Int×bo)}{t:li}{i ep:Nat}{ps:Array bo}{Q:Option bo->bq->Prop}(hh:A.handled=none)(hI:IsSI s.heap I S (.ref T) i es.size ep)(hS:s.heap.get? S=some o)(hd:o.data=.set es ep t)(hf:t.fits es.size=true)
  (hT:IsT s.heap T ps) (hp:ps[i]?=none)
  (hQ:∀h',(∀b o,b≠I->s.heap.get? b=some o->h'.get? b=some o)->Q none { s with heap:=h' }):cp (model prog w) A (nq (.ref I)) Q E s:=by
 unfold nq;refine bn (nl (gw (name:=lh "__next__") (jL hI) F4.slot_si_next (gx F4.slot_si_next (jL hI) F4.entry_si_next ?_ (F4.args_si_next _))));unfold lg.«set_iterator.__next__»;refine bn (m:=slotArgs "__next__" 0 _) (bp ?_);refine bn (ue hI rfl ?_);show cp _ _ (setEntries S >>= _) _ _ s;refine bn (rg hS hd hf ?_);rw[cm yv];show cp _ _ (seqItems? (.ref T) >>= _) _ _ s;refine bn (bn (wpAny_load hT (bp ?_)));show cp _ _ (match ps[(i:Int).toNat]? with|some (oo place _)=>_|some _=>_|none=>_) _ _ s;rw[im,hp];refine bn (gz hI yv fun g1 z1 b1=>?_);refine bn (gz (s:={ s with heap:=g1 }) z1 yv fun g2 z2 b2=>?_);refine FS (s:={ s with heap:=g2 }) hh fun h' e kp ⟨oe,e1,e2⟩=>?_;refine bn (kx (T:="StopIteration") (b:=true) ⟨oe,e1,e2⟩ isSubtype_stop ?_);exact bp (hQ _ fun b ob nb eb=>kp b ob (b2.extBut b ob nb (b1.extBut b ob nb eb)))
end
end
section
section
variable {prog:gf}{w:iu}{A:iq}{E:bo->bq->Prop}{s:bq}
theorem uQ{α:Type}{M:Model}{c:Prop}[Decidable c]{a b:Sem α}{Q:α->bq->Prop}(h:¬ c)(q:cp M A b Q E s):cp M A (if c then a else b) Q E s:=by
 rw[cm h];exact q
theorem yO{α:Type}{M:Model}{c:Prop}[Decidable c]{a b:Sem α}{Q:α->bq->Prop}(h:c)(q:cp M A a Q E s):cp M A (if c then a else b) Q E s:=by
 rw[cn h];exact q
theorem D6{S:Addr}{o:Obj}{es:Array (Int×bo)}{t:li}{slot i ep:Nat}{Q:Option (bo×Nat)->bq->Prop}(hS:s.heap.get? S=some o)(hd:o.data=.set es ep t)(hf:t.fits es.size=true)(hb:w.params.followText "set-order" = true)
  (h:Q ((pickOrder (w.params.setOrder S ep) es)[i]?.map fun e=>(e.2,slot)) s):cp (model prog w) A (setNext S slot i ep) Q E s:=by
 unfold setNext;refine bn (ra hS hd hf (bn (vD ?_)));rw[hb];dsimp only;rw[cn rfl,cm yv];refine bn ?_;unfold setWalk;refine bn (ra hS hd hf (bn (vD ?_)));rw[hb,cn rfl];exact bn (wpAny_askSetting (bp (bp h)))
theorem C8{S:Addr}{o:Obj}{es:Array (Int×bo)}{t:li}{slot i ep:Nat}{Q:Option (bo×Nat)->bq->Prop}(hS:s.heap.get? S=some o)(hd:o.data=.set es ep t)(hf:t.fits es.size=true)(hb:w.params.followText "set-order" = false)
  (hdr:(!t.plain&&decide (es.size>1))=false) (hl:t.led=true) (hi:qj t.place slot=i)
  (h:Q (match es[i]?,t.place[i]? with|some (_,x),some j=>some (x,j+1)|_,_=>none) s):cp (model prog w) A (setNext S slot i ep) Q E s:=by
 unfold setNext;refine bn (ra hS hd hf (bn (vD ?_)));rw[hb];dsimp only;rw[cm yv];refine uQ (show ¬((!t.plain&&decide (es.size>1))=true) by rw[hdr];simp) ?_;refine bn ?_;show cp _ _ (if (!t.led&&!es.isEmpty)=true then unsupported "set:maker-not-led" else pure ()) _ _ s;rw[cm (by rw[hl];simp)];refine bp ?_;rw[hi];exact bp h
structure Wk(prog:gf)(w:iu)(A:iq)(I:Addr)(fp:List Addr)(vs:List bo)(St:Nat->Heap->Prop):Prop where
 mem:I∈fp
 frame:∀i h h',St i h->(∀b∈fp,∀o,h.get? b=some o->h'.get? b=some o)->St i h'
 item:∀i v (s:bq) (Q:Option bo->bq->Prop) (E:bo->bq->Prop),vs[i]?=some v->St i s.heap->(∀h',St (i+1) h'->(∀b o,b≠I->s.heap.get? b=some o->h'.get? b=some o)->Q (some v) { s with heap:=h' })->cp (model prog w) A (nq (.ref I)) Q E s
 done:∀(s:bq) (Q:Option bo->bq->Prop) (E:bo->bq->Prop),St vs.length s.heap->(∀h',(∀b o,b≠I->s.heap.get? b=some o->h'.get? b=some o)->Q none { s with heap:=h' })->cp (model prog w) A (nq (.ref I)) Q E s
theorem IQ{R:Result->bq->Prop}{I:Addr}{fp:List Addr}{vs:List bo}{St:Nat->Heap->Prop}(W:Wk prog w A.in1 I fp vs St)(hn:vs.length<=1000)(S:Addr)(ab:S∉fp)(res:bo):
  ∀(m i:Nat) (s:bq) (acc:Array bo) (c:Nat),vs.length-i=m->i<=vs.length->St i s.heap->s.heap.get? S=some (jp "list" acc c)->acc.toList=vs.take i ->
  (∀h' c',(∀b o,b≠S->b≠I->s.heap.get? b=some o->h'.get? b=some o)->h'.get? S=some (jp "list" vs.toArray c')->R (.ok (.ret res)) { s with heap:=h' }) ->
  codeAny (model prog w) A (.builtin "list.extend.loop" ⟨[.ref S,.ref I,res],[]⟩) R s:=by
 have z:S≠I:=fun e=>ab (e▸W.mem);intro m;induction m with
 |zero=>
  intro i s acc c hm hi st hS ha hR;obtain rfl:i=vs.length:=yw
  refine lf F.entry_extend_loop ?_;rw[ku F.plain_extend_loop _];show cp _ A.in1 (nq (.ref I) >>= _) _ _ s;refine bn (W.done s _ _ st fun h' kp=>bp (hR h' c (fun b o _ nI e=>kp b o nI e) ?_));have:acc=vs.toArray:=by
   rw[take_length]at ha;rw[<- ha]
  rw[<- this];exact kp S _ z hS
 |succ m ih=>
  intro i s acc c hm hi st hS ha hR;have q:i<vs.length:=yw
  refine lf F.entry_extend_loop ?_;rw[ku F.plain_extend_loop _];show cp _ A.in1 (nq (.ref I) >>= _) _ _ s;refine bn (W.item i vs[i] s _ _ (cw q) st fun h' st' kp=>?_);have aa:=kp S _ z hS;have sz:acc.size=i:=by rw[<- gh,ha,qb];omega
  show cp _ A.in1 (updateSeq S (·.push vs[i]) >>= _) _ _ _;refine bn (wpAny_updateSeq (s:={ s with heap:=h' }) aa rfl (bp ⟨uq F.plain_extend_loop _,ih (i+1) _ (acc.push vs[i]) _ yw q (W.frame _ h' _ st' fun b hb o e=>?_) (uh _ aa rfl) ?_ fun h'' c' ac hS''=>?_⟩)
   (by rw[sz,kj];omega) (by show (acc.push vs[i]).size<=_;rw[Array.size_push,sz,kj];omega))
  ·exact(Heap.get?_update_other _ _ (fun h:S=b=>ab (by rw[h];exact hb))).trans e
  ·rw[toList_push,ha,List.take_succ_eq_append_getElem q]
  ·exact hR h'' c' (fun b o nS nI e=>ac b o nS nI ((Heap.get?_update_other _ _ (fun h:S=b=>nS h.symm)).trans (kp b o nI e))) hS''
theorem CL{I S:Addr}{o:Obj}{es:Array (Int×bo)}{t:li}{ep:Nat}(hh:A.handled=none)(q:S≠I)(hd:o.data=.set es ep t)(hf:t.fits es.size=true)(us:List (Int×bo))(sl:Nat->Nat)
  (hn:∀i e,us[i]?=some e->∀(A:iq) (Q:Option (bo×Nat)->bq->Prop) (E:bo->bq->Prop) (s:bq),s.heap.get? S=some o->Q (some (e.2,sl (i+1))) s->cp (model prog w) A (setNext S (sl i) i ep) Q E s)
  (he:∀(A:iq) (Q:Option (bo×Nat)->bq->Prop) (E:bo->bq->Prop) (s:bq),s.heap.get? S=some o->Q none s->cp (model prog w) A (setNext S (sl us.length) us.length ep) Q E s):
  Wk prog w A I [I,S] (us.map (·.2)) (fun i h=>IsSI h I S (nr (sl i)) i es.size ep/\h.get? S=some o) where
 mem:=by simp
 frame:=fun i h h' ⟨a,b⟩ k=>⟨k I yv _ a,k S yv _ b⟩
 item:=fun i v s Q E hv ⟨a,b⟩ hQ=>by
  rw[ie]at hv;obtain⟨e,he,rfl⟩:=map_eq_some_iff.mp hv;exact JR a b hd hf (hn i e he) fun h' z sb=>hQ h' ⟨z,sb.extBut S _ q b⟩ fun b' o' nb e=>sb.extBut b' o' nb e
 done:=fun s Q E ⟨a,b⟩ hQ=>by
  rw[cu]at a;exact KW hh a b hd hf he fun h' kp=>hQ h' kp
theorem ID{I S T:Addr}{o:Obj}{es:Array (Int×bo)}{t:li}{ep:Nat}(hh:A.handled=none)(ab:S≠I)(aa:T≠I)(hd:o.data=.set es ep t)(hf:t.fits es.size=true)(ps:List Nat)(hp:∀p∈ps,p<es.size):
  Wk prog w A I [I,S,T] (ps.map fun p=>(es.getD p (0,.none)).2) (fun i h=>IsSI h I S (.ref T) i es.size ep/\h.get? S=some o/\IsT h T (ps.map fun p:Nat=>nr p).toArray) where
 mem:=by simp
 frame:=fun i h h' ⟨a,b,c⟩ k=>⟨k I yv _ a,k S yv _ b,k T yv _ c⟩
 item:=fun i v s Q E hv ⟨a,b,c⟩ hQ=>by
  rw[ie]at hv;obtain⟨p,q,rfl⟩:=map_eq_some_iff.mp hv;have lp:=hp p (bw q);have ee:es[p]?=some (es.getD p (0,.none)):=by simp[Array.getD,lp]
  refine Lm a b hd hf c (p:=p) (by simp[q]) ee fun h' z sb=>hQ h' ⟨z,sb.extBut S _ ab b,sb.extBut T _ aa c⟩ fun b' o' nb e=>sb.extBut b' o' nb e
 done:=fun s Q E ⟨a,b,c⟩ hQ=>by
  rw[cu]at a;exact K3 hh a b hd hf c yv fun h' kp=>hQ h' kp
end
end
section
def mB(t:li):Nat->Nat
 | 0=>0
 |i+1=>t.place.getD i 0+1
theorem Cd{t:li}(h:Rise t.place):∀i,i<=t.place.size->qj t.place (mB t i)=i
 | 0,_=>Cp (bel h) ⟨nj _,fun _ _ z=>absurd z (Nat.not_lt_zero _),fun _ _ _ _=>nj _⟩
 |i+1,hi=>by
  have il:i<t.place.size:=yw
  have e:=gu il;have eg:mB t (i+1)=t.place[i]+1:=by simp[mB,Array.getD,il]
  rw[eg];refine Cp (bel h) ⟨hi,fun k x hk ek=>?_,fun k x hk ek=>?_⟩
  ·by_cases z:k=i
   ·subst z;rw[e]at ek;cases ek;omega
   ·have:=h.at (show k<i by omega) ek e;omega
  ·have:=h.at (show i<k by omega) e ek;omega
theorem Jr{t:li}{n:Nat}(h:t.fits n=true):t.place.size=n:=by
 unfold SetTable.fits at h;rw[ix]at h;simpa using h.1
section
variable {prog:gf}{w:iu}{A:iq}{E:bo->bq->Prop}{s:bq}
theorem LI{S:Addr}{o:Obj}{es:Array (Int×bo)}{t:li}{ep:Nat}{Q:bo->bq->Prop}(hS:s.heap.get? S=some o)(hx:o.ExactSet)(hd:o.data=.set es ep t)(tb:Tab (!w.params.followText "set-order") t es.size)(hz:es.size<100)
  (h:∀I h' d fp us St,s.heap.objs.size<=I->(∀b∈fp,b=S\/s.heap.objs.size<=b)->(∀b o,s.heap.get? b=some o->h'.get? b=some o)->us.Perm (es.toList.map (·.2))->(∀A':iq,A'.handled=none->Wk prog w A' I fp us St)->St 0 h'->Q (.ref I) { s with heap:=h',drawn:=d }):
  cp (model prog w) A (pyIter (.ref S)) Q E s:=by
 have ty:s.TypeIs (.ref S) "set":=⟨o,hS,hx.1⟩;have lt:=gi hS;have ps:=Jr tb.fits;refine wpAny_pyIter_slot ty F.slot_set_iter (gx F.slot_set_iter ty F4.entry_set_iter ?_ (F.args_set_iter_1 _));unfold lg.«frozenset.__iter__»;refine bn (m:=Builtin.Frozenset.slot0 "__iter__" _) (bp ?_);refine bn (bn (rg hS hd tb.fits (bp ?_)));unfold setDrawn;refine bn ?_;refine bn (ra hS hd tb.fits (bn (vD (bp ?_))));show cp _ _ (if (!w.params.followText "set-order" && (!t.plain&&decide (es.size>1)))=true then _ else _) _ _ s;cases hb:w.params.followText "set-order" with
 |true=>
  refine uQ yv (bn (bp ?_));refine bn (wpAny_setEpoch_of hS hd tb.fits ?_);refine bn (io (bp ⟨_,rfl,"set_iterator",_,⟨_,cy _ rfl,rfl⟩,F4.slot_si_next.lookup,?_⟩));have hp:=Jo (w.params.setOrder S ep) es;refine h _ _ s.drawn [s.heap.objs.size,S] ((pickOrder (w.params.setOrder S ep) es).toList.map (·.2)) _ (dh _) (fun b z=>?_) (fun b o e=>bu _ e) (hp.map _)
   (fun A' hh=>CL hh (gy lt) hd tb.fits (pickOrder (w.params.setOrder S ep) es).toList (fun _=>0) (fun i e hi A Q E s hS q=>D6 hS hd tb.fits hb (by rw[jw]at hi;rw[hi];exact q)) fun A Q E s hS q=>D6 hS hd tb.fits hb (by rw[gh,Array.getElem?_eq_none (dh _)];exact q))
   ⟨cy _ rfl,bu _ hS⟩
  simp only[mw,km,or_false]at z;exact z.elim (fun e=>.inr (le_of_eq e.symm)) .inl
 |false=>
  have hl:t.led=true:=by rw[tb.led,hb];rfl
  cases hdr:(!t.plain&&decide (es.size>1))with
  |false=>
   refine uQ yv (bn (bp ?_));refine bn (wpAny_setEpoch_of hS hd tb.fits ?_);refine bn (io (bp ⟨_,rfl,"set_iterator",_,⟨_,cy _ rfl,rfl⟩,F4.slot_si_next.lookup,?_⟩));refine h _ _ s.drawn [s.heap.objs.size,S] (es.toList.map (·.2)) _ (dh _) (fun b z=>?_) (fun b o e=>bu _ e) (qk _)
    (fun A' hh=>CL hh (gy lt) hd tb.fits es.toList (mB t) (fun i e hi A Q E s hS q=>C8 (i:=i) hS hd tb.fits hb hdr hl (Cd tb.rise i ?_) ?_) fun A Q E s hS q=>C8 hS hd tb.fits hb hdr hl (Cd tb.rise _ (by rw[gh];omega)) (by rw[gh,Array.getElem?_eq_none (dh _)];exact q))
    ⟨cy _ rfl,bu _ hS⟩
   ·simp only[mw,km,or_false]at z;exact z.elim (fun e=>.inr (le_of_eq e.symm)) .inl
   ·have:=(List.getElem?_eq_some_iff.mp hi).1;rw[gh]at this;omega
   ·have il:=(List.getElem?_eq_some_iff.mp hi).1;rw[gh]at il;rw[jw]at hi;have ip:i<t.place.size:=yw
    rw[hi,gu ip];have:mB t (i+1)=t.place[i]+1:=by simp[mB,Array.getD,ip]
    rw[this]at q;exact q
  |true=>
   refine yO yv ?_;refine bn (BX es.size (gg es.size) s _ yv fun d ys hp=>bn (wpAny_newTuple ?_ ?_))
   ·have aa:(s.heap.push { cls:=.type "tuple",data:=.seq (ys.map fun i:Nat=>nr i).toArray }).get? S=some o:=bu _ hS;refine bn (wpAny_setEpoch_of (s:={ s with heap:=s.heap.push { cls:=.type "tuple",data:=.seq (ys.map fun i:Nat=>nr i).toArray },drawn:=d }) aa hd tb.fits ?_);refine bn (io (bp ⟨_,rfl,"set_iterator",_,⟨_,cy _ rfl,rfl⟩,F4.slot_si_next.lookup,?_⟩));have sz:(s.heap.push { cls:=.type "tuple",data:=.seq (ys.map fun i:Nat=>nr i).toArray }).objs.size=s.heap.objs.size+1:=size_push ..;refine h _ _ d [(s.heap.push { cls:=.type "tuple",data:=.seq (ys.map fun i:Nat=>nr i).toArray }).objs.size,S,s.heap.objs.size] (ys.map fun p=>(es.getD p (0,.none)).2) _ (by rw[sz];exact le_succ _) (fun b z=>?_) (fun b o e=>bu _ (bu _ e)) ?_
     (fun A' hh=>ID hh ?_ ?_ hd tb.fits ys fun p m=>?_)
     ⟨cy _ rfl,bu _ aa,bu _ (cy _ rfl)⟩
    ·simp only[mw,km,or_false]at z;rcases z with e|e|e
     ·exact .inr (by rw[e,sz];exact le_succ _)
     ·exact .inl e
     ·exact .inr (le_of_eq e.symm)
    ·refine(hp.map _).trans ?_;have:(gg es.size).map (fun p=>(es.getD p (0,.none)).2)=es.toList.map (·.2):=by
      refine List.ext_getElem yv fun i h1 h2=>?_;have hi:i<es.size:=by simpa using h1
      simp[Array.getD,hi]
     rw[this]
    ·rw[sz];exact gy (ua lt)
    ·rw[sz];exact gy (Nat.lt_succ_self _)
    ·exact mem_range.mp (hp.mem_iff.mp m)
   ·have:=hp.length_eq;rw[ko]at this;rw[cu,kj];omega
end
end
section
namespace F4
theorem len_set:typeLookup (.type "set") "__len__" = pure (some (.builtin "set.__len__")):=by rw[typeLookup_type,builtinLookup_eq_fast];kernel_rfl
end F4
section
variable {prog:gf}{w:iu}{A:iq}{E:bo->bq->Prop}{s:bq}
theorem IY{L:Addr}{c:Nat}{Q:Unit->bq->Prop}(hL:s.heap.get? L=some (jp "list" #[] c))(h:∀h' c',gd L s.heap h'->h'.get? L=some (jp "list" #[] c')->Q () { s with heap:=h' }):
  cp (model prog w) A (Builtin.List.listTouch (.ref L)) Q E s:=by
 unfold Builtin.List.listTouch;have g1:=uu hL (fun xs=>xs.push .none);refine bn (listUpdate_at hL rfl ?_ (nj _) (by show (#[]:Array bo).size+1<=_;simp));have g2:=uu g1 (fun xs=>xs.pop);refine listUpdate_at (s:={ s with heap:=s.heap.update L (kt fun xs=>xs.push .none) }) g1 rfl ?_ (by simp[kj]) yv;exact h _ _ ((kg ..).trans (kg ..)) g2
theorem Az{S:Addr}{o:Obj}{es:Array (Int×bo)}{t:li}{ep:Nat}{Q:List bo->bq->Prop}(hh:A.handled=none)(hS:s.heap.get? S=some o)(hx:o.ExactSet)(hd:o.data=.set es ep t)(tb:Tab (!w.params.followText "set-order") t es.size)(hz:es.size<100)
  (h:∀h' d us,us.Perm (es.toList.map (·.2))->(∀b o,s.heap.get? b=some o->h'.get? b=some o)->Q us { s with heap:=h',drawn:=d }):cp (model prog w) A (collect (.ref S)) Q E s:=by
 have lt:=gi hS;unfold collect;refine bn (wpAny_runValue (lf F.entry_proto_collect ?_));rw[ku F.plain_proto_collect _];show cp _ A.in1 (newList [] >>= fun l=>again (.builtin "list.__iadd__" ⟨[l,.ref S],[]⟩)) _ _ s;refine bn (io ?_);refine bp ⟨uq F.plain_list_iadd _,lf F.entry_list_iadd ?_⟩;rw[ku F.plain_list_iadd _];have hL:(s.heap.push (jp "list" #[] 0)).get? s.heap.objs.size=some (jp "list" #[] 0):=cy _ rfl;have q:(s.heap.push (jp "list" #[] 0)).get? S=some o:=bu _ hS;have sz:(s.heap.push (jp "list" #[] 0)).objs.size=s.heap.objs.size+1:=size_push ..;show cp _ A.in1 (Builtin.List.listExtendWith (.ref s.heap.objs.size) (.ref S) (.ref s.heap.objs.size)) _ _ { s with heap:=s.heap.push (jp "list" #[] 0) };have ty:Shared.TypeIs { s with heap:=s.heap.push (jp "list" #[] 0) } (.ref S) "set":=⟨o,q,hx.1⟩;have sr:Builtin.List.listSameRef (.ref s.heap.objs.size) (.ref S)=false:=by simp[Builtin.List.listSameRef,vf lt]
 unfold Builtin.List.listExtendWith;refine bn (ug ty ?_);rw[cm (by rw[sr];decide)];refine bn (LI (s:={ s with heap:=s.heap.push (jp "list" #[] 0) }) q hx hd tb hz fun I h' d fp us St hI ae kp hp W st0=>?_);have aa:Shared.TypeIs { s with heap:=h',drawn:=d } (.ref S) "set":=⟨o,kp S o q,hx.1⟩;refine bn (jd ?_);unfold Builtin.List.listLengthHint;refine bn (wpAny_specialOf aa F4.len_set ?_)
 (generalize hid:("set.__len__":String)=id0;(fail_if_success (clear hid id0));wp_delta;rw[show splitId id0=some ("set","__len__")from by subst hid;decide +kernel];subst hid)
 refine bn (kx (b:=true) aa sub_set_self ?_);refine uQ dz ?_;refine yO (by decide +kernel) ?_;refine bn (ug aa (bp ?_));refine yO (by decide +kernel) ?_;refine bn (lq ?_);have ag:h'.get? s.heap.objs.size=some (jp "list" #[] 0):=kp _ _ hL;have nL:s.heap.objs.size∉fp:=fun m=>by
  rcases ae _ m with e|e
  ·exact absurd e (vf lt)
  ·have e':s.heap.objs.size+1<=s.heap.objs.size:=by rw[<- sz];exact e
   omega
 refine bn (IY (s:={ s with heap:=h',drawn:=d }) ag fun h2 c2 sb ab=>?_);have W1:=W A.in1 hh;refine bp ⟨uq F.plain_extend_loop _,IQ W1 (by rw[hp.length_eq,cu,gh];omega) _ nL _ _ 0 { s with heap:=h2,drawn:=d } #[] c2 rfl (nj _) (W1.frame 0 h' h2 st0 fun b hb ob e=>sb.extBut b ob (fun z=>nL (z▸hb)) e) ab rfl fun h3 c3 af ah=>?_⟩;refine bn (wpAny_load ah ?_);show cp _ _ (pure us.toArray.toList) _ _ _;rw[List.toList_toArray];refine bp (h h3 d us hp fun b ob e=>?_);have lb:=gi e;refine af b ob (gy lb) (fun z=>?_) (sb.extBut b ob (gy lb) (kp b ob (bu _ e)));rw[z]at lb;have ac:s.heap.objs.size+1<=I:=by rw[<- sz];exact hI
 exact absurd (lt_trans lb ac) (sy _)
theorem lY:∀(l m:List Int),l.Nodup->(∀x∈l,x∈m)->l.length<=m.length
 | [],m,_,_=>nj _
 |a::l,m,nd,h=>by
  obtain⟨n1,n2⟩:=nodup_cons.mp nd;have ma:=h a dw;have:=lY l (m.erase a) n2 fun x mx=>(List.mem_erase_of_ne (show x≠a from fun e=>n1 (by rw[<- e];exact mx))).mpr (h x (cz _ mx));rw[List.length_erase_of_mem ma]at this;have:0<m.length:=List.length_pos_of_mem ma;rw[ft];omega
theorem y9:∀{us:List bo} (h:∀v∈us,∃n t,v=oo n t),∃ns,kz us ns/\ns=us.map fun v=>kE (0,v)
 | [],_=>⟨[],.nil,rfl⟩
 |v::us,h=>by
  obtain⟨n,t,rfl⟩:=h v dw;obtain⟨ns,h1,h2⟩:=y9 (us:=us) fun v m=>h v (cz _ m);exact⟨n::ns,.cons n t h1,by rw[h2];rfl⟩
end
end
section
theorem Inv.drw{X:Cx}{ze:List (Addr×Obj)}{σ:St}{H:Hp}{s:bq}(d:Drawn)(I:Inv X ze σ H s):Inv X ze σ H { s with drawn:=d } :=
 I.call (h':=s.heap) (g':=s.gens) (t':=s.toks) (ch:=[]) Un.refl I.hok I.bare (fun _ z=>nomatch z)
theorem AK:jq "set" = some (.type "set"):=by decide +kernel
theorem uL:∀{vs:List bo}{ns:List Int},kz vs ns->∀(i:Nat) v,vs[i]?=some v->∃tk,v=.int (ns.getD i 0) tk
 |_,_,.nil,i,v,h=>by simp at h
 |_,_,.cons n t h,0,v,e=>⟨t,by simpa using e.symm⟩
 |_,_,.cons n t h,i+1,v,e=>by
  have:=uL h i v (by simpa using e);simpa using this
theorem nJ:∀{vs:List bo}{ns:List Int},kz vs ns->vs.length=ns.length
 |_,_,.nil=>rfl
 |_,_,.cons n t h=>by simp[nJ h]
end
section
theorem Iw:fillsNumberSlot (.type "tuple") "mul" = pure false:=
 PySem.fillsNumberSlot_seq (id:="tuple.__mul__") (r:=some (.builtin "tuple.__rmul__")) F.slot_tuple_mul.lookup (by decide +kernel) F.slot_tuple_rmul.lookup (by decide +kernel)
theorem HI:seqRepeat? (.type "tuple")=pure (some (.builtin "tuple.__mul__")):=by
 unfold seqRepeat?;rw[PySem.seqSlot_of (T:="tuple") (name:="__mul__") (id:="tuple.__mul__") F.slot_tuple_mul.lookup (by decide +kernel),PySem.seqSlot_of (T:="tuple") (name:="__rmul__") (id:="tuple.__rmul__") F.slot_tuple_rmul.lookup (by decide +kernel)];rfl
theorem GJ(a:Int)(t:Tok)(l:Addr)(q:Array bo)(n:Nat)(d:Option Addr)(sl:Array (Option bo)):
  Meets (lg.«int.__rmul__» ⟨[.int a t,.ref l],[]⟩) (fun _ R s=>s.heap.get? l=some { cls:=.type "tuple",dict:=d,data:=.seq q n,slots:=sl }/\R (.ok (.ret Value.notImplemented)) s):=
 .of_wp fun prog w A R s h=>by obtain⟨hp,g,d,tk,os⟩:=s;obtain⟨hl,h⟩:=h;wp_walk;exact⟨_,rfl,h⟩
theorem LL(l:Addr)(q:Array bo)(n:Nat)(d:Option Addr)(sl:Array (Option bo))(u:Tok):
  Meets (lg.«tuple.__mul__» ⟨[.ref l,.int 1 u],[]⟩) (fun _ R s=>s.heap.get? l=some { cls:=.type "tuple",dict:=d,data:=.seq q n,slots:=sl }/\R (.ok (.ret (.ref l))) s):=
 .of_wp fun prog w A R s h=>by
  obtain⟨hp,g,d,tk,os⟩:=s;obtain⟨hl,h⟩:=h
  wp_walk
  exact⟨_,rfl,h⟩
theorem Lw(l:Addr)(q:Array bo)(n:Nat)(d:Option Addr)(sl:Array (Option bo))(u:Tok)(x:Int)(hx:x<=0)(z:-(2 ^ 63)<=x)(hi:q.isEmpty=false):
  Meets (lg.«tuple.__mul__» ⟨[.ref l,.int x u],[]⟩) (fun _ R s=>s.heap.get? l=some { cls:=.type "tuple",dict:=d,data:=.seq q n,slots:=sl }/\R (.ok (.ret (.ref s.heap.objs.size))) { s with heap:=s.heap.push { cls:=.type "tuple",data:=.seq #[] } }):=
 .of_wp fun prog w A R s h=>by
  obtain⟨hp,g,d,tk,os⟩:=s;obtain⟨hl,h⟩:=h;have c0:(decide (x < -2 ^ 63)||decide (x≥2 ^ 63))=false:=by simp;omega
  have c1:(q.isEmpty||x==1)=false:=by rw[hi];simp;omega
  have c2:(decide (x<=0)||q.isEmpty)=true:=by rw[fy hx];rfl
  wp_walk
  refine qt (by rw[c0];rfl) ?_
  wp_walk
  refine qt (by rw[c1];rfl) ?_;refine wpAny_ite_true (by rw[c2];rfl) ?_
  wp_walk
  exact⟨_,rfl,h⟩
theorem MU(l:Addr)(q:Array bo)(n:Nat)(d:Option Addr)(sl:Array (Option bo))(u:Tok)(x:Int)(hx:2<=x)(z:x<2 ^ 63)(hi:q.isEmpty=false)(hz:q.size*x.toNat<=fk):
  Meets (lg.«tuple.__mul__» ⟨[.ref l,.int x u],[]⟩) (fun _ R s=>s.heap.get? l=some { cls:=.type "tuple",dict:=d,data:=.seq q n,slots:=sl }/\R (.ok (.ret (.ref s.heap.objs.size))) { s with heap:=s.heap.push { cls:=.type "tuple",data:=.seq ((bx x.toNat q).foldl (· ++ ·) #[]) } }):=
 .of_wp fun prog w A R s h=>by
  obtain⟨hp,g,d,tk,os⟩:=s;obtain⟨hl,h⟩:=h;have c0:(decide (x < -2 ^ 63)||decide (x≥2 ^ 63))=false:=by simp;omega
  have c1:(q.isEmpty||x==1)=false:=by rw[hi];simp;omega
  have c2:(decide (x<=0)||q.isEmpty)=false:=by rw[hi,fw yw];rfl
  have ez:(q.size:Int)*x=(q.size*x.toNat:Nat):=by rw[Int.natCast_mul,Int.toNat_of_nonneg yw]
  have c3:¬((q.size:Int)*x>(2 ^ 63-1)/8):=by
   rw[ez];have h1:(fk:Int)<=(2 ^ 63-1)/8:=by decide
   have h2:((q.size*x.toNat:Nat):Int)<=(fk:Int):=Int.ofNat_le.mpr hz;exact fun h3=>absurd (Int.le_trans h2 h1) (Int.not_le.mpr h3)
  have c4:Builtin.Tuple.tupleTooMany ((q.size:Int)*x)=false:=by
   unfold Builtin.Tuple.tupleTooMany;rw[ez];exact fw (Int.not_lt.mpr (Int.ofNat_le.mpr hz))
  have c5:((bx x.toNat q).foldl (· ++ ·) #[]).size<=fk:=by
   have:=sW q.toList x.toNat [];simp only[Array.toArray_toList]at this;rw[nil_append]at this;rw[this,fq,A8,gh,mul_comm];exact hz
  wp_walk
  refine qt (by rw[c0];rfl) ?_
  wp_walk
  refine qt (by rw[c1];rfl) ?_;refine qt (by rw[c2];rfl) ?_;refine qt (fw c3) ?_;refine qt (by rw[c4];rfl) ?_
  wp_walk
  exact⟨_,rfl,h⟩
def Fb(K:fe):R2:=fun x y H Q=>∃a k xs,x=.ref a/\y=.int k/\SqT K H a xs/\xs≠[]/\-1000<=k/\k<=1000/\xs.length*k.toNat<=1000 /\
 (k=1->Q (.ref a) H)/\(k≠1->∀p,H p=none->Q (.ref p) (upd H p (.tup (bx k.toNat xs).flatten)))
theorem JC{X:Cx}:OpR X (oh .Mult) (Fb X.K):=by
 intro ze s σ H x y v u Q I rx ry h;obtain⟨a,k,xs,rfl,rfl,ha,hx,h1,h2,hz,q1,q2⟩:=h;cases rx;obtain⟨t,rfl⟩:=ry;obtain⟨aa,r1,p1,_⟩:=I.tuple ha;have ae:aa≠[]:=fun z=>hx (r1.nil_iff.mp z);have ab:aa.toArray.isEmpty=false:=by
  cases aa with
  |nil=>exact absurd rfl ae
  |cons _ _=>rfl
 have hl:aa.length=xs.length:=r1.length.symm;obtain⟨⟨cls,dd,data,sl⟩,ho,hc,n,hd⟩:=id p1;simp only at hc hd;subst hc hd;have ac:aa.toArray.size*k.toNat<=fk:=by
  rw[fq,hl];exact lz (small1000 hz)
 refine wpAny_binaryOp_repeat_ref (T:="tuple") (U:="int") dz ⟨_,ho,rfl⟩ (fun s'=>typeIs_int s' k t) Iw F.fills_int_mul F.slot_int_rmul HI F.slot_int_index.lookup
  (ub F.slot_int_rmul (typeIs_int s k t) F.entry_int_rmul (F.args_int_rmul_2 _ _) (GJ k t a aa.toArray n dd sl) ⟨ho,rfl,⟨_,ho,rfl⟩,?_⟩)
 by_cases hk:k=1
 ·subst hk;exact ub F.slot_tuple_mul ⟨_,ho,rfl⟩ F.entry_tuple_mul (F.args_tuple_mul_2 _ _) (LL a aa.toArray n dd sl t) ⟨ho,.ref a,H,I,rfl,q1 rfl⟩
 ·have fin:∀us,us=(bx k.toNat aa).flatten->EP X ze σ Q (.ref s.heap.objs.size) { s with heap:=s.heap.push { cls:=.type "tuple",data:=.seq us.toArray } }:=fun us e=>by
   refine⟨.ref s.heap.objs.size,_,I.laid (t':=s.toks) (o:=.tup (bx k.toNat xs).flatten) (fun b ob q=>bu _ q) (dh _) ?_,rfl,q2 hk _ (I.hok.fresh (dh _))⟩;refine⟨⟨by rw[A8,mul_comm];exact lz (small1000 hz),_,cy _ rfl,rfl⟩,us,?_,IsTup.new _ _⟩;rw[e];exact r1.rep k.toNat
  by_cases h0:k<=0
  ·refine ub F.slot_tuple_mul ⟨_,ho,rfl⟩ F.entry_tuple_mul (F.args_tuple_mul_2 _ _) (Lw a aa.toArray n dd sl t k h0 yw ab) ⟨ho,?_⟩;have e0:k.toNat=0:=yw
   exact fin [] (by rw[e0];rfl)
  ·refine ub F.slot_tuple_mul ⟨_,ho,rfl⟩ F.entry_tuple_mul (F.args_tuple_mul_2 _ _) (MU a aa.toArray n dd sl t k yw yw ab ac) ⟨ho,?_⟩;have e1:=sW aa k.toNat [];rw[nil_append]at e1;have:=fin _ rfl;rw[<- e1]at this;exact this
def kY:D2:=fun x y S R=>asT x fun ds=>asI y fun j=>ds≠[]/\-1000<=j/\j<=1000/\ds.length*j.toNat<=1000/\R (.d (.tuple (bx j.toNat ds).flatten)) S
theorem GH{K:fe}:RO (Fb K) kY:=fun h o H S x y v u R Q hs hx hy q c=>by
 obtain⟨ds,rfl,q⟩:=iH q;replace q:=bM q;obtain⟨j,rfl,hn,h1,h2,hz,q⟩:=q;obtain⟨a,vs,rfl,ea,l⟩:=d9 hx;refine⟨a,j,vs,rfl,bQ hy,.of ea,?_,h1,h2,by rw[l.length];exact hz,fun e=>?_,fun _=>lZ hs (l.rep j.toNat) c q⟩
 ·intro z;have:=l.length;rw[z]at this;exact hn (List.length_eq_zero_iff.mp this.symm)
 ·subst e;have e1:(bx (1:Int).toNat ds).flatten=ds:=by simp
  rw[e1]at q;exact c o H S _ _ Ex.refl hs hx q
end
section
section
variable {prog:gf}{w:iu}{A:iq}{E:bo->bq->Prop}{s:bq}
theorem wB{h h':Heap}{l:Addr}{q:Array bo}(x:h.IsList l q)(k:∀o,h.get? l=some o->h'.get? l=some o):h'.IsList l q:=let ⟨o,ho,r⟩:=x;⟨o,k o ho,r⟩
theorem Cw{it t:Addr}{q:Array bo}(ae:t≠it):∀(n i:Nat) (s:bq) (Q:List bo->bq->Prop),s.heap.IsListIter it t i->s.heap.IsList t q->i+n<=q.size ->
  (∀h',h'.IsListIter it t (i+n)->gd it s.heap h'->Q ((q.toList.drop i).take n) { s with heap:=h' })->cp (model prog w) A (draw (.ref it) n) Q E s
 | 0,i,s,Q,hit,_,_,hQ=>by
  show cp _ _ (pure []) Q E s;exact bp (by simpa using hQ s.heap hit (Heap.SameBut.refl ..))
 |n+1,i,s,Q,hit,ht,hle,hQ=>by
  have ac:i<q.size:=yw
  show cp _ _ (nq (.ref it) >>= _) Q E s;refine bn (wpAny_pyNext_list_item hit ht (x:=q[i]) (by simp[ac]) fun h₁ aa ab=>?_);refine bn (jd (Cw ae n (i+1) _ _ aa (wB ht fun o e=>ab.extBut t o ae e) yw fun h₂ z af=>bp ?_));have hd:q.toList.drop i=q[i]::q.toList.drop (i+1):=by simp[nc,ac]
  have:=hQ h₂ (by rw[show i+(n+1)=i+1+n by omega];exact z) (ab.trans af);rw[hd,List.take_succ_cons]at this;exact this
theorem Ji{t:Addr}{q:Array bo}{Q:List bo->bq->Prop}(hh:A.handled=none)(ht:s.heap.IsList t q)
  (hQ:∀h',va s.heap.objs.size s.heap h'->Q q.toList { s with heap:=h' }):cp (model prog w) A (unpackItems (.ref t) q.size none) Q E s:=by
 have ac:t≠s.heap.objs.size:=by obtain⟨o,ho,_⟩:=ht;exact gy (gi ho)
 unfold unpackItems;refine bn ?_
 ·unfold notIterableAtAll;refine bn (wpAny_specialOf ht.typeIs PySem.slot_list_iter.lookup ?_);refine bp ?_;simp only[fg,if_false];refine bn (jd (qv ht ?_));have hp:∀o,s.heap.get? t=some o->(s.heap.push { cls:=.type "list_iterator",data:=.fields #[.ref t,.int 0 0] }).get? t=some o:=fun o e=>bu _ e;refine bn (jd (Cw ac q.size 0 _ _ ⟨_,cy _ rfl,rfl,rfl⟩ (wB ht hp) yw fun h₁ z aa=>?_));have ab:List.take q.size (List.drop 0 q.toList)=q.toList:=by
   rw[List.drop_zero];exact lr yv
  rw[ab];rw[cm yv];have ae:h₁.IsList t q:=wB ht fun o e=>aa.extBut t o ac (hp o e);refine bn (jd (wpAny_pyNext_list_end hh z ae yv fun h₂ af=>?_));simp only[Option.isSome_none,fg,if_false];refine bp (hQ h₂ fun b o hb e=>af b o hb (aa.extBut b o hb (bu _ e)))
theorem IJ{env:Env}{elts:List Expr}{x1}{pos:Pos}{t:Addr}{q:Array bo}{Q:Unit->bq->Prop}(hh:A.handled=none)(ht:s.heap.IsList t q)
  (hn:(rc elts env).length=q.size) (hstar:(rc elts env).findIdx? (·.1)=none)
  (h:∀h',va s.heap.objs.size s.heap h'->cp (model prog w) A (assignInOrder ((rc elts env).map (·.2)) q.toList) Q E { s with heap:=h' }):
  cp (model prog w) A (assign (.Tuple elts x1 pos) env (.ref t)) Q E s:=by
 rw[assign_Tuple];refine bn (wpAny_standAt ?_);unfold unpack;rw[hn,hstar];exact bn (jd (Ji hh ht h))
end
def DR(K:fe)(n:Nat)(t:TGs):TG:=fun v σ H Q=>∃a xs,v=.ref a/\SqL K H a xs/\xs.length=n/\t xs σ H Q
theorem Gh{X:Cx}{es:List Expr}{k:Nat}{t:TGs}{n:Nat}{pos:Pos}(hc:X.calm=true)(h:PGs X es t)
  (hn:(rc es X.env).length=n:=by rfl) (hst:(rc es X.env).findIdx? (·.1)=none:=by rfl):PG X (.Tuple es k pos) (DR X.K n t):=by
 intro ze s σ H v u Q I r hw;obtain⟨a,xs,e1,hq,hl,hw⟩:=hw;subst e1;cases r;obtain⟨q,rv,ht,hz⟩:=I.list hq;refine IJ (I.ok.hd hc) ht.isList (by simp[hn,<- hl,rv.length]) hst fun h' hx=>?_;have I1:Inv X ze σ H { s with heap:=h' }:=I.kept (t':=s.toks) fun b o e=>hx b o (gy (gi e)) e;exact h ze _ σ H xs _ Q I1 (by simpa using rv) hw
def jY(n:Nat)(r:DGs):DG:=fun x δ S N=>asL S x fun ds=>ds.length=n/\r ds δ S N
theorem LP{K:fe}{n:Nat}{t:TGs}{r:DGs}(h1:RGs t r):RG (DR K n t) (jY n r):=fun h o H δ σ S x v N M he hs hx q c=>by
 obtain⟨ds,hd,hn,q⟩:=q;obtain⟨a,vs,rfl,ea,l⟩:=cA hs hd hx;exact⟨a,vs,rfl,.of ea,by rw[l.length];exact hn,h1 h o H δ σ S ds vs N M he hs l q c⟩
end
end L2
namespace L2
open PySem PySem.Spec PyProof.Rows
section
abbrev EXD:=Addr->List (Str×bt)->Prop
abbrev PX:=List XV->Sto->RX->EXD->Prop
def CnX(h o:List Addr)(H:Hp)(EX:EXD)(E:XK):Prop:=∀o' H' S' C a fs,Ex o H o' H'->RepS h o' H' S'->HasE (vx h o' H') C fs (.ref a)->EX C fs->E (.ref C) (some a) H'
theorem CnX.pre{h o o':List Addr}{H H':Hp}{EX:EXD}{E:XK}(c:CnX h o H EX E)(e:Ex o H o' H'):CnX h o' H' EX E:=fun o2 H2 S2 C a fs e2=>c o2 H2 S2 C a fs (e.trans e2)
def RSx(E:XK)(EX:EXD)(t:TS)(dt:DS):Prop:=∀(h o:List Addr) (H:Hp) (δ:XE) (σ:St) (S:Sto) (En:DEnds) (D:Ends),RepE h o H δ σ->RepS h o H S->dt En δ S->EOk h o H En D->CnX h o H EX E->t D σ H
section
variable {E:XK}{EX:EXD}{t u:TS}{dt du:DS}
theorem LX(ht:RS t dt):RSx E EX t dt:=fun h o H δ σ S En D he hs q c _=>ht h o H δ σ S En D he hs q c
def oB(EX:EXD)(C:Addr):DS:=fun _ _ _=>EX C []
end
end
section
theorem Km:isSubtype (.type "tuple") (.type "set")=pure false:=by rw[isSubtype_type];kernel_rfl
theorem Id:isSubtype (.type "tuple") (.type "frozenset")=pure false:=by rw[isSubtype_type];kernel_rfl
section
variable {prog:gf}{w:iu}{A:iq}{E:bo->bq->Prop}{s:bq}
theorem JA{S l:Addr}{vs:Array bo}{ns:List Int}{led:Bool}{Q:Unit->bq->Prop}(hh:A.handled=none)(hS:SetI led s.heap S #[])(hl:s.heap.IsTuple l vs)(hz:vs.size=ns.length)(hv:∀(i:Nat) v,vs[i]?=some v->∃tk,v=.int (ns.getD i 0) tk)(hn:ns.length<90)
  (h:∀h' tk es,(∀b o,b≠S->s.heap.get? b=some o->h'.get? b=some o)->SetI led h' S es->(∀x,x∈es.toList.map kE↔x∈ns)->Q () { s with heap:=h',toks:=tk }):
  cp (model prog w) A (Builtin.Frozenset.updateFrom "set.__init__" S (.ref l)) Q E s:=by
 have ty:s.TypeIs (.ref l) "tuple":=by
  obtain⟨o,e,c,_⟩:=hl;exact⟨o,e,c⟩
 have lS:l≠S:=fun e=>by
  obtain⟨o,_,_,e1,c1,_⟩:=hS;obtain⟨o',e',c',_⟩:=hl;rw[e,e1]at e';cases e';rw[c1.1]at c';simp at c'
 unfold Builtin.Frozenset.updateFrom Builtin.Frozenset.isAnySet;refine bn (bn (kx ty Km (kx ty Id ?_)));simp only[fg,if_false];refine bn (ug ty ?_);rw[cm dz];refine bn (sf hl ?_);obtain⟨o,eo⟩:∃o,s.heap.get? l=some o:=⟨_,hl.choose_spec.1⟩;obtain⟨oS,eS⟩:∃o,s.heap.get? S=some o:=⟨_,hS.choose_spec.choose_spec.choose_spec.1⟩;have ll:=gi eo;have z:=gi eS;have up:∀b ob,s.heap.get? b=some ob->(s.heap.push { cls:=.type "tuple_iterator",data:=.fields #[.ref l,.int 0 0] }).get? b=some ob:=fun b ob e=>bu _ e;have W:=(Walks.tuple (prog:=prog) (w:=w) (A:=A.in1) hh s.heap.objs.size l (gy ll) vs).toS;refine bn (wpAny_runValue (Iz (led:=led) W yw S (by
  simp only[mw,km,or_false,not_or];exact⟨gy z,fun e=>lS e.symm⟩) (fun i=>ns.getD i 0) hv _ 0 _ #[] rfl (nj _) ⟨⟨_,cy _ rfl,rfl,rfl⟩,hl.at fun ob e=>up l ob e⟩ (hS.at fun ob e=>up S ob e) yv (dh _) fun s' es mv S' ks=>?_))
 refine bp ?_;obtain⟨h',ab,ac,q,aa⟩:=s';obtain⟨m1,m2,m3,m4,m5⟩:=mv;dsimp only at m1 m2 m3 m4 m5 S';subst m2 m3 m4;refine h h' q es (fun b ob nb e=>m1 b ob (by
  simp only[mw,km,or_false,not_or];exact⟨nb,gy (gi e)⟩) (up b ob e)) S' fun x=>?_
 rw[ks x,hz];constructor
 ·rintro⟨j,hj,rfl⟩;rw[fj,cw hj];exact qd hj
 ·intro m;obtain⟨j,hj,e⟩:=List.mem_iff_getElem.mp m;exact⟨j,hj,by rw[fj,cw hj];exact e.symm⟩
theorem Kh{l:Addr}{vs:Array bo}{ns:List Int}{Q:bo->bq->Prop}(hh:A.handled=none)(hl:s.heap.IsTuple l vs)(hz:vs.size=ns.length)(hv:∀(i:Nat) v,vs[i]?=some v->∃tk,v=.int (ns.getD i 0) tk)(hn:ns.length<90)
  (h:∀a h' tk es,s.heap.objs.size<=a->(∀b o,s.heap.get? b=some o->h'.get? b=some o)->SetI (!w.params.followText "set-order") h' a es->(∀x,x∈es.toList.map kE↔x∈ns)->Q (.ref a) { s with heap:=h',toks:=tk }):
  cp (model prog w) A (call (.type "set") [.ref l]) Q E s:=by
 obtain⟨c,tl,ac⟩:=F.called_set.mro;have z:=F.called_set.made;have ae:=F.called_set.sub;refine wpAny_call (codeAny_of_tree ?_);show cp _ _ (callAny (.type "set") _) _ _ _;refine bp ⟨Code.quiet_builtin _ (by decide +kernel),lf F.entry_type_call ?_⟩;rw[Around.under_plain (weight_type_call_type "set" [.ref l] []) rfl];have h1:=F.called_set.notType;have h2:=F.called_set.canCreate;have af:=F4.typeCall_set_1 (.ref l)
 repeat (any_goals (first|assumption|wp_step))
 generalize hO:({ cls:=.type "set",dict:=none,data:=.set #[] 0 (.fresh 0 0 (!w.params.followText "set-order")) }:Obj)=O;refine uf (Dq (E:=E) (Q:=fun ob s1=>ob=.ref s.heap.objs.size/\s1 = { s with heap:=s.heap.push O }) ⟨rfl,by rw[hO]⟩) fun r s1 hr=>?_;cases r with
 |error e=>exact hr
 |ok fl=>
  cases fl with
  |ret obj=>
   obtain⟨rfl,rfl⟩:=hr;have hS:(s.heap.push O).get? s.heap.objs.size=some O:=cy _ (by rw[<- hO];rfl);have hT:Shared.TypeIs { s with heap:=s.heap.push O } (.ref s.heap.objs.size) "set":=⟨_,hS,by rw[<- hO]⟩;have ag:=F.called_set.init.lookup;have ah:=F.called_set.init.bind (.ref s.heap.objs.size)
   repeat (any_goals (first|assumption|wp_step))
   refine uf (codeAny_call_builtin (R:=wants (fun r s2=>r=.none/\Q (.ref s.heap.objs.size) s2) E) F.called_set.init.plain F.entry_set_init (Cm hT ?_)) fun r2 s2 q=>?_
   ·unfold lg.«set.__init__» noKeywords;have ab:SetI (!w.params.followText "set-order") (s.heap.push O) s.heap.objs.size #[]:=by
     subst hO;exact⟨_,_,_,hS,⟨rfl,rfl,rfl⟩,rfl,yv,yv,yv,Bi _⟩
    have aa:(s.heap.push O).IsTuple l vs:=hl.at fun ob e=>bu _ e;subst hO;have key:=fun Q1=>@JA prog w A.in1.in1 (fun e s'=>wants (fun r s2=>r=lj/\Q (gk s.heap.objs.size) s2) E (Except.error e) s') { s with heap:=s.heap.push { cls:=.type "set",dict:=none,data:=.set #[] 0 (.fresh 0 0 (!w.params.followText "set-order")) } } s.heap.objs.size l vs ns (!w.params.followText "set-order") Q1 hh ab aa hz hv hn
    wp_walk using key _
    intro h' tk es kp S' ks;exact bp ⟨rfl,h _ h' tk es (dh _) (fun b o e=>kp b o (gy (gi e)) (bu _ e)) S' ks⟩
   ·cases r2 with
    |error e=>exact q
    |ok fl2=>
     cases fl2 with
     |ret r=>
      obtain⟨rfl,hq⟩:=q
      repeat (any_goals (first|assumption|wp_step))
     |_=>exact q.elim
  |_=>exact hr.elim
theorem MT{l:Addr}{vs:Array bo}{ns:List Int}{Q:bo->bq->Prop}(hh:A.handled=none)(hl:s.heap.IsTuple l vs)(hz:vs.size=ns.length)(hv:∀(i:Nat) v,vs[i]?=some v->∃tk,v=.int (ns.getD i 0) tk)(hn:ns.length<60)
  (h:∀D h' tk d out ms c,s.heap.objs.size<=D->(∀b o,s.heap.get? b=some o->h'.get? b=some o)->kz out ms->ms.Pairwise (· < ·)->(∀x,x∈ms↔x∈ns)->h'.get? D=some (jp "list" out.toArray c)->Q (.ref D) { s with heap:=h',toks:=tk,drawn:=d }):
  cp (model prog w) A (call (.type "set") [.ref l]) (fun a s'=>cp (model prog w) A (call (.builtin "sorted") [a]) Q E s') E s:=by
 refine Kh hh hl hz hv yw fun a h1 tk es ha ab ac hk=>?_;obtain⟨o,ep,t,ho,ae,hd,hok,aa,af,tb⟩:=ac;refine Calls.call_function_entry kind_sorted plain_sorted entry_sorted (args_sorted1 _) ?_;unfold lg.«sorted»;refine bn (m:=checkCount "sorted" 1 1 1) (bp ?_);refine bn (Az (s:={ s with heap:=h1,toks:=tk }) (A:=A.in1) hh ho ae hd tb af fun h2 d us hp z=>?_);have ul:us.length=es.size:=by rw[hp.length_eq,cu,gh]
 have ui:∀v∈us,∃n t,v=oo n t:=fun v m=>by
  obtain⟨e,me,rfl⟩:=mem_map.mp (hp.mem_iff.mp m);obtain⟨n,t,e1,_⟩:=hok e me;exact⟨n,t,e1⟩
 obtain⟨ag,hI,e0⟩:=y9 ui;have p0:ag.Perm (es.toList.map kE):=by
  rw[e0];refine(hp.map fun v=>kE (0,v)).trans ?_;rw[jx];exact qk _
 have el:es.size<=ns.length:=by
  have:=lY _ ns aa fun x m=>(hk x).mp m
  rwa [cu,gh]at this
 refine bn (wpAny_newList ?_ (by rw[ul,kj];omega));have q:(h2.push (jp "list" us.toArray 0)).get? h2.objs.size=some (jp "list" us.toArray 0):=cy _ rfl;refine bn (jd (gx slot_list_sort ⟨_,q,rfl⟩ entry_list_sort (list_sort_tree (s:={ s with heap:=h2.push (jp "list" us.toArray 0),toks:=tk,drawn:=d }) q hI yw fun out ms a1 a2 a3=>⟨_,rfl,?_⟩) (args_list_sort _)));have np:ms.Nodup:=(a2.trans p0).nodup_iff.mpr aa;obtain⟨c,hc⟩:=sortedHeap_at (out:=out) q;refine bp ⟨_,rfl,h h2.objs.size _ tk d out.toList ms c ?_ (fun b o e=>?_) a1 ?_ (fun x=>?_) ?_⟩
 ·exact lw ha (lz (gi (z a o ho)))
 ·have e2:=z b o (ab b o e);have lb:=gi e2;rw[sortedHeap_old (gy lb) (by rw[size_push'];exact ua lb)];exact bu _ e2
 ·exact(List.Pairwise.and a3 np).imp fun⟨h1,h2⟩=>by omega
 ·rw[(a2.trans p0).mem_iff,hk x]
 ·simpa using hc
end
def Bv(K:fe):List V->Hp->VK->Prop:=fun xs H Q=>∃(p:Addr) (ns:List Int),xs=[.ref p]/\SqT K H p (ns.map V.int)/\ns.length<60/\∀(l:Addr) (ms:List Int),H l=none->ms.Pairwise (· < ·)->(∀x,x∈ms↔x∈ns)->Q (.ref l) (upd H l (.lst (ms.map V.int)))
section
variable {X:Cx}{e:Expr}{t:TA}{p p2 pos pos2:Pos}
theorem MF(hc:X.calm=true)(aa:Gl X "sorted")(ac:X.mg "sorted" = none)(af:Gl X "set")(ae:X.mg "set" = none)(ha:PA X [e] t)
  (he:fx [e] X.env=(false,eval e X.env)::fx [] X.env:=by rfl) (hpl:(rb pos2 (fx [] X.env)).any (·.1)=false:=by rfl)
  (he2:fx [vb (.Name "set" p2) [e] [] pos2] X.env=(false,eval (vb (.Name "set" p2) [e] [] pos2) X.env)::fx [] X.env:=by rfl) (hpl2:(rb pos (fx [] X.env)).any (·.1)=false:=by rfl):
  PE X (.Call (.Name "sorted" p) [.Call (.Name "set" p2) [e] [] pos2] [] pos) (tCB (Bv X.K) t):=by
 intro ze s σ H Q I h;refine lc (eJ I aa ac boot_sorted ?_);refine PyProof.Rows.callWith_builtin1 ?_ he2 hpl2;rw[he2];show cp _ _ (spliced [(false,eval (vb (.Name "set" p2) [e] [] pos2) X.env)]) _ _ s;refine Calls.spliced_cons ?_;refine lc (eJ I af ae AK ?_);refine kr (thn (ha pos2 ze s σ H _ I h) fun us s1 ⟨vs,H1,I1,r1,q1⟩=>?_) he hpl;obtain⟨pl,ns,rfl,hq,hn,q⟩:=q1;obtain⟨u,rfl,rx⟩:=vals1 r1;cases (show u=gk pl from rx);obtain⟨ag,rv,ab,_⟩:=I1.tuple hq;have hI:=iP rv;refine qe (MT (ns:=ns) (I1.ok.hd hc) ab (by rw[fq];exact nJ hI) (fun i v hv=>uL hI i v (by simpa using hv)) hn fun D h' tk d out ms c hD kp oI pw mm hg=>?_) (fun a s2 z=>Calls.spliced_nil z) fun _ _ z=>z;refine⟨.ref D,_,((I1.drw d).laid (t':=tk) kp hD (show ObjOk X.prog X.w _ h' D (.lst (ms.map V.int))from⟨?_,out,c,rV oI,hg⟩)),rfl,q D ms (I1.hok.fresh hD) pw mm⟩;have:=lY ms ns (pw.imp fun h=>by omega) fun x m=>(mm x).mp m;rw[cu,kj];omega
end
def lH:List XV->Sto->RX->Prop:=fun xs S R=>arg1 xs fun x=>∃ns:List Int,x=.d (.tuple (ns.map cq))/\ns.length<60/\∀ms:List Int,ms.Pairwise (· < ·)->(∀x,x∈ms↔x∈ns)->R (.d (.list (ms.map cq))) S
theorem Jz{K:fe}:RC (Bv K) lH:=fun h o H S xs vs R Q hs hx q c=>by
 obtain⟨x,rfl,ns,rfl,hn,q1⟩:=cB q;obtain⟨v,rfl,z⟩:=hxs1 hx;obtain⟨a,us,rfl,ea,l⟩:=zR.mp z;rw[iX l]at ea;refine⟨a,ns,rfl,.of (zN _ _ ea),hn,fun l ms hl pw mm=>?_⟩;exact gX hs (oJ ms) c (q1 ms pw mm) l hl
end
end L2
namespace L2
open PySem PySem.Spec PyProof.Rows
section
def pJ(EX:EXD)(C:Addr)(ns:List Str)(da:DA):DS:=fun _ δ S=>da δ S fun xs _=>∃ds,datas xs=some ds/\ds.length=ns.length/\EX C (ns.zip ds)
end
end L2
namespace L2
open PySem PySem.Spec PyProof.Rows
section
abbrev Phi:=List Addr->List Addr->Hp->Prop
class Stb (Φ:Phi):Prop where
 st:∀{h o o':List Addr}{H H':Hp},Φ h o H->Ex o H o' H'->Φ h o' H'
def REp(Φ:Phi)(t:TE)(dt:DE):Prop:=∀(h o:List Addr) (H:Hp) (δ:XE) (σ:St) (S:Sto) (R:RX) (Q:VK),RepE h o H δ σ->RepS h o H S->dt δ S R->Cn h o H R Q->Φ h o H->t σ H Q
def RTp(Φ:Phi)(t:TT)(dt:DT):Prop:=∀(h o:List Addr) (H:Hp) (δ:XE) (σ:St) (S:Sto) (R:Bool->Sto->Prop) (Q:Bool->Hp->Prop),RepE h o H δ σ->RepS h o H S->dt δ S R ->
 (∀o' H' S' b,Ex o H o' H'->RepS h o' H' S'->R b S'->Q b H')->Φ h o H->t σ H Q
def RAp(Φ:Phi)(t:TA)(dt:DA):Prop:=∀(h o:List Addr) (H:Hp) (δ:XE) (σ:St) (S:Sto) (R:List XV->Sto->Prop) (Q:List V->Hp->Prop),RepE h o H δ σ->RepS h o H S->dt δ S R ->
 (∀o' H' S' xs vs,Ex o H o' H'->RepS h o' H' S'->HasXs h o' H' xs vs->R xs S'->Q vs H')->Φ h o H->t σ H Q
def RIp(Φ:Phi)(w:TI)(di:DI):Prop:=∀(h o:List Addr) (H:Hp) (δ:XE) (σ:St) (S:Sto) (R:List bt->Sto->Prop) (Q:It->Hp->Prop),RepE h o H δ σ->RepS h o H S->di δ S R ->
 (∀o' H' S' ds J,Ex o H o' H'->RepS h o' H' S'->WalkX h o' H' J ds->R ds S'->Q J H')->Φ h o H->w σ H Q
section
variable {Φ:Phi} [Stb Φ] {ta tb te:TE}{da db de:DE}{tl:TA}{dl:DA}{tt tu:TT}{dt du:DT}
theorem zB(a:RE te de):REp Φ te de:=fun h o H δ σ S R Q he hs q c _=>a h o H δ σ S R Q he hs q c
theorem Dt(a:RT tt dt):RTp Φ tt dt:=fun h o H δ σ S R Q he hs q c _=>a h o H δ σ S R Q he hs q c
theorem AD(a:RA tl dl):RAp Φ tl dl:=fun h o H δ σ S R Q he hs q c _=>a h o H δ σ S R Q he hs q c
theorem oR{w:TI}{di:DI}(a:RI w di):RIp Φ w di:=fun h o H δ σ S R Q he hs q c _=>a h o H δ σ S R Q he hs q c
theorem eR(ha:REp Φ ta da)(hb:RAp Φ tl dl):RAp Φ (cX ta tl) (zc da dl):=fun h o H δ σ S R Q he hs q c x=>
 ha h o H δ σ S _ _ he hs q (fun o1 H1 S1 y v e1 s1 x1 d1=>hb h o1 H1 δ σ S1 _ _ (he.mono e1) s1 d1 (fun o2 H2 S2 xs vs e2 s2 x2 d2=>
  c o2 H2 S2 (y::xs) (v::vs) (e1.trans e2) s2 ⟨v,vs,rfl,x1.mono e2,x2⟩ d2) (Stb.st x e1)) x
theorem pF(ha:REp Φ ta da):RTp Φ (tQ ta) (dB da):=fun h o H δ σ S R Q he hs q c w=>
 ha h o H δ σ S _ _ he hs q (fun o1 H1 S1 x v e1 s1 x1 d1=>by
  replace d1:=iZ d1;obtain⟨b,rfl,d1⟩:=d1;exact⟨b,eE x1,c o1 H1 S1 b e1 s1 d1⟩) w
end
section
variable {E:XK}{EX:EXD}{ta tb te:TE}{da db de:DE}{tl:TA}{dl:DA}{tt tu:TT}{dt du:DT}
def pG(EX:EXD)(m:Nat)(q:PX)(da:DA):DE:=fun δ S R=>da δ S fun xs S1=>∃ds,datas xs=some ds/\ds.length=m/\q (ds.map XV.d) [] (ret0 S1 R) EX
end
def wD(N P:List Str)(sc:Scope):Bool:=decide (sc.kind=.function)&&!sc.isCoroutine&&!sc.isGenerator&&decide N.Nodup&&decide (N.take P.length=P)&&P.all (fun x=>decide (sc.names.lookup x=some .local)||decide (sc.names.lookup x=some .cell))&&sc.names.all fun y=>decide (y.2≠.free)
theorem fsc{N P:List Str}{sc:Scope}(h:wD N P sc=true):FnScope N P sc:=by
 simp only[wD,ix,decide_eq_true_eq,Bool.not_eq_true',all_eq_true,Bool.or_eq_true]at h;obtain⟨⟨⟨⟨⟨⟨h1,h2⟩,h3⟩,h4⟩,h5⟩,h6⟩,h7⟩:=h;exact⟨h1,h2,h3,h4,h5,h6,h7⟩
end
section
section
variable {κ α:Type} [DecidableEq κ]
def lkA(m:List (κ×α))(k:κ):Option α:=(m.find? fun p=>decide (p.1=k)).map (·.2)
def ptA(m:List (κ×α))(k:κ)(v:α):List (κ×α):=if (m.any fun p=>decide (p.1=k))=true then m.map (fun p=>if p.1=k then (p.1,v)else p)else m++[(k,v)]
def HasM(H:Hp):List (κ×bt)->List (κ×V)->Prop
 | [],m=>m=[]
 |p::r,m=>∃v m',m=(p.1,v)::m'/\Has H p.2 v/\HasM H r m'
theorem HasM.mono{H H':Hp}(s:Same H H'):∀{m:List (κ×bt)}{m':List (κ×V)},HasM H m m'->HasM H' m m'
 | [],_,q=>q
 |p::r,_,⟨v,t,e,q,l⟩=>⟨v,t,e,Has.mono s _ _ q,HasM.mono s l⟩
theorem HasM.length{H:Hp}:∀{m:List (κ×bt)}{m':List (κ×V)},HasM H m m'->m'.length=m.length
 | [],_,q=>by rw[show _=[]from q];rfl
 |p::r,_,⟨v,t,e,q,l⟩=>by rw[e,ft,ft,HasM.length l]
theorem HasM.val{H:Hp}(k:κ):∀{m:List (κ×bt)}{m':List (κ×V)},HasM H m m'->(lkA m k=none/\eG m' k=none)\/∃d v,lkA m k=some d/\eG m' k=some v/\Has H d v
 | [],m',q=>by rw[show m'=[]from q];exact .inl ⟨rfl,rfl⟩
 |p::r,m',⟨v,t,e,q,l⟩=>by
  subst e;by_cases hk:p.1=k
  ·exact .inr ⟨p.2,v,by simp[lkA,hk],tJ hk,q⟩
  ·have e1:lkA (p::r) k=lkA r k:=by simp[lkA,hk]
   rw[e1,uE hk];exact HasM.val k l
theorem HasM.any{H:Hp}(k:κ):∀{m:List (κ×bt)}{m':List (κ×V)},HasM H m m'->(m'.any fun p=>decide (p.1=k))=m.any fun p=>decide (p.1=k)
 | [],m',q=>by rw[show m'=[]from q];rfl
 |p::r,m',⟨v,t,e,q,l⟩=>by
  subst e;rw[any_cons,any_cons,HasM.any k l]
theorem HasM.sets{H:Hp}{k:κ}{d:bt}{v:V}(hv:Has H d v):∀{m:List (κ×bt)}{m':List (κ×V)},HasM H m m'->HasM H (m.map fun p=>if p.1=k then (p.1,d)else p) (m'.map fun p=>if p.1=k then (p.1,v)else p)
 | [],m',q=>by rw[show m'=[]from q];rfl
 |p::r,m',⟨u,t,e,q,l⟩=>by
  subst e;rw[ga,ga];by_cases hk:p.1=k
  ·exact⟨v,_,by simp[hk],by simpa[hk]using hv,HasM.sets hv l⟩
  ·exact⟨u,_,by simp[hk],by simpa[hk]using q,HasM.sets hv l⟩
theorem HasM.snoc{H:Hp}{k:κ}{d:bt}{v:V}(hv:Has H d v):∀{m:List (κ×bt)}{m':List (κ×V)},HasM H m m'->HasM H (m++[(k,d)]) (m'++[(k,v)])
 | [],m',q=>by rw[show m'=[]from q];exact⟨v,[],rfl,hv,rfl⟩
 |p::r,m',⟨u,t,e,q,l⟩=>by subst e;exact⟨u,_,rfl,q,HasM.snoc hv l⟩
theorem HasM.put{H:Hp}{k:κ}{d:bt}{v:V}{m:List (κ×bt)}{m':List (κ×V)}(l:HasM H m m')(hv:Has H d v):HasM H (ptA m k d) (cN m' k v):=by
 unfold ptA cN;rw[l.any k];split
 ·exact l.sets hv
 ·exact l.snoc hv
end
inductive KSg where
 |int|bool|many (s:KSg)|two (s t:KSg)
def KG:KSg->Type
 | .int=>Int
 | .bool=>Bool
 | .many s=>List (KG s)
 | .two s t=>KG s×KG t
instance decKG:(s:KSg)->DecidableEq (KG s)
 | .int=>inferInstanceAs (DecidableEq Int)
 | .bool=>inferInstanceAs (DecidableEq Bool)
 | .many s=>have:=decKG s;inferInstanceAs (DecidableEq (List (KG s)))
 | .two s t=>have:=decKG s;have:=decKG t;inferInstanceAs (DecidableEq (KG s×KG t))
def khash:(s:KSg)->KG s->Int
 | .int,i=>hashInt i
 | .bool,b=>reduceHash (match (show Bool from b)with|true=>1|false=>0)
 | .many s,ks=>reduceHash (Builtin.Tuple.tupleHashOf (ks.map (khash s)))
 | .two s t,k=>reduceHash (Builtin.Tuple.tupleHashOf [khash s k.1,khash t k.2])
def kdat:(g:KSg)->KG g->bt
 | .int,i=>.int i
 | .bool,b=>.bool b
 | .many g,ks=>.tuple (List.map (kdat g) ks)
 | .two g g',k=>.tuple [kdat g k.1,kdat g' k.2]
def PDict(g:KSg)(ob:Obj)(xs:List (KG g×Addr×bo)):Prop:=ob.ExactDict/\∃es ep,ob.data=.dict es ep/\es.toList=xs.map (fun x=>⟨khash g x.1,.ref x.2.1,x.2.2⟩)/\(xs.map (·.1)).Nodup
def PrG(G:Hp)(g:KSg):List (KG g×bt)->List (KG g×Addr×bo)->Prop
 | [],xs=>xs=[]
 |p::r,xs=>∃q t,xs=q::t/\q.1=p.1/\Has G (kdat g p.1) (.ref q.2.1)/\(∃v,Has G p.2 v/\RelV v q.2.2)/\PrG G g r t
theorem PrG.mono{G G':Hp}{g:KSg}(s:Same G G'):∀{m:List (KG g×bt)}{xs:List (KG g×Addr×bo)},PrG G g m xs->PrG G' g m xs
 | [],_,q=>q
 |p::r,_,⟨q,t,e,e1,h1,⟨v,h2,h3⟩,l⟩=>⟨q,t,e,e1,Has.mono s _ _ h1,⟨v,Has.mono s _ _ h2,h3⟩,PrG.mono s l⟩
inductive DD where
 |k (m:List (Key×bt))
 |t (m:List (List Key×bt))
 |g (g:KSg) (ob:Obj) (m:List (KG g×bt))
def DD.pairs:DD->List (bt×bt)
 | .k m=>m.map fun p=>(kD p.1,p.2)
 | .t m=>m.map fun p=>(.tuple (p.1.map kD),p.2)
 | .g sg _ m=>m.map fun p=>(kdat sg p.1,p.2)
def DD.len:DD->Nat
 | .k m=>m.length
 | .t m=>m.length
 | .g _ _ m=>m.length
def gD:bt->Option Key
 | .int i=>some (.inl i)
 | .str x=>some (.inr x)
 |_=>none
def l4:List bt->Option (List Key)
 | []=>some []
 |d::ds=>(gD d).bind fun k=>(l4 ds).map (k :: ·)
def lE:bt->Option (List Key)
 | .tuple ds=>l4 ds
 |_=>none
def DD.get:DD->bt->Option (Option bt)
 | .k m,y=>(gD y).map (lkA m)
 | .t m,y=>(lE y).map (lkA m)
 | .g _ _ _,_=>none
def DD.put:DD->bt->bt->Option DD
 | .k m,y,d=>(gD y).map fun k=>.k (ptA m k d)
 | .t m,y,d=>(lE y).map fun k=>.t (ptA m k d)
 | .g _ _ _,_,_=>none
def RAt(G H:Hp)(a:Addr):DD->Prop
 | .k m=>∃m',Rd H a (.dK m')/\HasM G m m'
 | .t m=>∃m',Rd H a (.dT m')/\HasM G m m'
 | .g g ob m=>H a=some (obO a ob)/\(a==ly)=false/\∃xs,PDict g ob xs/\PrG G g m xs
def DAt(G H:Hp)(a:Addr):DD->Prop
 | .k m=>∃m',H a=some (.dK m')/\HasM G m m'
 | .t m=>∃m',H a=some (.dT m')/\HasM G m m'
 | .g g ob m=>H a=some (obO a ob)/\(a==ly)=false/\∃xs,PDict g ob xs/\PrG G g m xs
theorem xY{H:Hp}{y:bt}{v:V}{k:Key}(e:gD y=some k)(q:Has H y v):v=kV k:=by
 cases y with
 |int i=>cases e;exact eY.mp q
 |str x=>cases e;exact iR.mp q
 |_=>cases e
theorem B4{H:Hp}:∀{ds:List bt}{vs:List V}{ks:List Key},l4 ds=some ks->HasL H ds vs->vs=ks.map kV
 | [],vs,ks,e,l=>by cases e;exact zx.mp l
 |d::ds,vs,ks,e,l=>by
  obtain⟨v,r,rfl,q,l⟩:=zq.mp l;unfold l4 at e;cases hk:gD d with
  |none=>rw[hk]at e;cases e
  |some k=>
   rw[hk,Option.bind_some]at e;cases hs:l4 ds with
   |none=>rw[hs]at e;cases e
   |some ks'=>
    rw[hs]at e;cases e;rw[xY hk q,B4 hs l];rfl
theorem Fm{H:Hp}{y:bt}{v:V}{ks:List Key}(e:lE y=some ks)(q:Has H y v):∃b,v=.ref b/\H b=some (.tup (ks.map kV)):=by
 cases y with
 |tuple ds=>
  obtain⟨b,vs,rfl,eb,l⟩:=zR.mp q;exact⟨b,rfl,by rw[<- B4 (show l4 ds=some ks from e) l];exact eb⟩
 |_=>cases e
theorem DAt.mono{G G' H H':Hp}{a:Addr}{D:DD}(s:Same G G')(e:∀u,H a=some u->H' a=some u)(q:DAt G H a D):DAt G' H' a D:=by
 cases D with
 |k m=>obtain⟨m',e1,l⟩:=q;exact⟨m',e _ e1,l.mono s⟩
 |t m=>obtain⟨m',e1,l⟩:=q;exact⟨m',e _ e1,l.mono s⟩
 |g g ob m=>obtain⟨e1,ha,xs,pd,l⟩:=q;exact⟨e _ e1,ha,xs,pd,l.mono s⟩
theorem DAt.rd{G H:Hp}{a:Addr}{D:DD}(q:DAt G H a D):RAt G H a D:=by
 cases D with
 |k m=>obtain⟨m',e1,l⟩:=q;exact⟨m',.inl e1,l⟩
 |t m=>obtain⟨m',e1,l⟩:=q;exact⟨m',.inl e1,l⟩
 |g g ob m=>exact q
theorem DAt.mo{G H:Hp}{a:Addr}{D:DD}(q:DAt G H a D):∃u:MO,H a=some u.ho:=by
 cases D with
 |k m=>obtain⟨m',e1,l⟩:=q;exact⟨.k m',e1⟩
 |t m=>obtain⟨m',e1,l⟩:=q;exact⟨.t m',e1⟩
 |g g ob m=>exact⟨.x a ob,q.1⟩
def RelD(G:Hp):Option bt->Option V->Prop
 |none,r=>r=none
 |some d,r=>∃u,r=some u/\Has G d u
theorem RAt.get{G H:Hp}{a:Addr}{D:DD}{y:bt}{v:V}{o:Option bt}(sv:Same G H)(q:RAt G H a D)(hy:Has G y v)(e:D.get y=some o):∃r,DGet H a v r/\RelD G o r:=by
 cases D with
 |k m=>
  obtain⟨m',e1,l⟩:=q;replace e:(gD y).map (lkA m)=some o:=e;cases hk:gD y with
  |none=>rw[hk]at e;cases e
  |some k=>
   rw[hk]at e;cases e;rw[xY hk hy];refine⟨_,.inl ⟨m',k,e1,rfl,rfl⟩,?_⟩;rcases l.val k with ⟨z1,z2⟩|⟨d,u,z1,z2,z3⟩
   ·rw[z1];exact z2
   ·rw[z1];exact⟨u,z2,z3⟩
 |t m=>
  obtain⟨m',e1,l⟩:=q;replace e:(lE y).map (lkA m)=some o:=e;cases hk:lE y with
  |none=>rw[hk]at e;cases e
  |some k=>
   rw[hk]at e;cases e;obtain⟨b,rfl,eb⟩:=Fm hk hy;refine⟨_,.inr ⟨m',k,b,e1,rfl,sv _ _ eb,rfl⟩,?_⟩;rcases l.val k with ⟨z1,z2⟩|⟨d,u,z1,z2,z3⟩
   ·rw[z1];exact z2
   ·rw[z1];exact⟨u,z2,z3⟩
 |g g ob m=>cases e
theorem DAt.put{G H:Hp}{a:Addr}{D D':DD}{y d:bt}{v u:V}(sv:Same G H)(q:DAt G H a D)(hy:Has G y v)(hd:Has G d u)(e:D.put y d=some D')(hl:D.len<1000):
  ∃x:MO,DPut H a v u (upd H a x.ho)/\∀H',H' a=some x.ho->DAt G H' a D':=by
 cases D with
 |k m=>
  obtain⟨m',e1,l⟩:=q;replace e:((gD y).map fun k=>DD.k (ptA m k d))=some D':=e;cases hk:gD y with
  |none=>rw[hk]at e;cases e
  |some k=>
   rw[hk]at e;cases e;rw[xY hk hy];exact⟨.k (cN m' k u),DPut.k e1 (by rw[l.length];exact small1000 (lz hl)),fun H' z=>⟨_,z,l.put hd⟩⟩
 |t m=>
  obtain⟨m',e1,l⟩:=q;replace e:((lE y).map fun k=>DD.t (ptA m k d))=some D':=e;cases hk:lE y with
  |none=>rw[hk]at e;cases e
  |some k=>
   rw[hk]at e;cases e;obtain⟨b,rfl,eb⟩:=Fm hk hy;exact⟨.t (cN m' k u),DPut.t e1 (sv _ _ eb) (by rw[l.length];exact small1000 (lz hl)),fun H' z=>⟨_,z,l.put hd⟩⟩
 |g g ob m=>cases e
theorem Kv{a b:Key}(e:kD a=kD b):a=b:=by
 cases a<;>cases b<;>cases e<;>rfl
theorem Ag{H:Hp}:∀{m:List (Key×bt)}{m':List (Key×V)},HasM H m m'->HasV H (m.map fun p=>(kD p.1,p.2)) (m'.map (·.2))/\m'.map (fun p=>kD p.1)=m.map fun p=>kD p.1
 | [],m',q=>by rw[show m'=[]from q];exact⟨Ki.mpr rfl,rfl⟩
 |p::r,m',⟨v,t,e,q,l⟩=>by
  subst e;obtain⟨z1,z2⟩:=Ag l;exact⟨F6.mpr ⟨v,_,rfl,q,z1⟩,by rw[ga,ga,z2]⟩
theorem Br{H:Hp}:∀{m:List (Key×bt)}{m':List (Key×V)},HasV H (m.map fun p=>(kD p.1,p.2)) (m'.map (·.2))->m.map (fun p=>kD p.1)=m'.map (fun p=>kD p.1)->HasM H m m'
 | [],[],_,_=>rfl
 | [],_::_,_,e=>by simp at e
 |_::_,[],_,e=>by simp at e
 |p::r,q::t,h,e=>by
  rw[ga,ga]at h;obtain⟨v,s,e1,e2,e3⟩:=F6.mp h;rw[uv]at e1;rw[ga,ga,uv]at e;have z:=Kv e.1;obtain⟨q1,q2⟩:=q;refine⟨q2,t,by rw[z],?_,Br (by rw[e1.2];exact e3) e.2⟩;have z1:q2=v:=e1.1;rw[z1];exact e2
theorem oC{H:Hp}{m:List (Key×bt)}{v:V}:Has H (.dict (DD.pairs (.k m))) v↔∃a ob m',v=.ref a/\H a=some (.frz ob (.dK m'))/\HasM H m m':=by
 rw[AN];constructor
 ·rintro⟨a,vs,rfl,⟨ob,m',e,e1,e2⟩|⟨ob,p,m',e,e1,e2⟩,l⟩
  rotate_left
  ·cases m with
   |nil=>cases e1
   |cons q r=>
    have z:=congrArg List.head? e1;simp only[DD.pairs,ga,List.head?_cons,Option.some.injEq]at z;cases h:q.1<;>rw[h]at z<;>cases z
  subst e2;refine⟨a,ob,m',rfl,e,Br l ?_⟩;rw[<- e1];simp[DD.pairs]
 ·rintro⟨a,ob,m',rfl,e,l⟩;obtain⟨z1,z2⟩:=Ag l;exact⟨a,_,rfl,.inl ⟨ob,m',e,by rw[z2];simp[DD.pairs],rfl⟩,z1⟩
abbrev DM:=List (Addr×DD)
def ad(M:DM):List Addr:=M.map (·.1)
structure RepM(h o:List Addr)(H:Hp)(M:DM):Prop where
 nd:(ad M).Nodup
 nh:∀a∈ad M,a∉h/\a∉o
 ct:∀a D,(a,D)∈M->DAt (vx (h++ad M) o H) H a D
section
variable {h o o':List Addr}{H H':Hp}{M:DM}{S:Sto}
theorem RepM.at(r:RepM h o H M){a:Addr}(m:a∈ad M):∃D,(a,D)∈M/\DAt (vx (h++ad M) o H) H a D:=by
 obtain⟨p,mp,e⟩:=mem_map.mp m;obtain⟨b,D⟩:=p;cases e;exact⟨D,mp,r.ct _ D mp⟩
theorem RepM.mono(r:RepM h o H M)(e:Ex o H o' H'):RepM h o' H' M:=by
 have k1:∀a∈ad M,∀u,H a=some u->a∉o'/\H' a=some u:=fun a m u z=>e.kp a u (r.nh a m).2 z;refine⟨r.nd,fun a m=>⟨(r.nh a m).1,?_⟩,fun a D m=>?_⟩
 ·obtain⟨D,_,q⟩:=r.at m;obtain⟨u,z⟩:=q.mo;exact(k1 a m _ z).1
 ·exact(r.ct a D m).mono e.vx fun u z=>(k1 a (mem_map.mpr ⟨_,m,rfl⟩) u z).2
theorem RepM.nil:RepM h o H []:=⟨lu,fun a m=>(by cases m),fun a D m=>(by cases m)⟩
def cK(M:DM)(a:Addr)(D:DD):DM:=M.map fun p=>if p.1=a then (a,D)else p
theorem lG{a:Addr}{D:DD}:∀{M:DM},ad (cK M a D)=ad M
 | []=>rfl
 |p::r=>by
  have z:=lG (a:=a) (D:=D) (M:=r);unfold ad cK at z ⊢;rw[ga,ga,ga,z];by_cases e:p.1=a<;>simp[e]
theorem yH{a:Addr}{u:HO}(m:a∈h):Same (vx h o H) (vx h o (upd H a u)):=fun b w e=>by
 obtain⟨z1,z2,z3⟩:=zE.mp e;exact zE.mpr ⟨z1,z2,by rw[zD (fun z=>z1 (by rw[z];exact m))];exact z3⟩
theorem HasX.view(s:Same (vx h o H) (vx h o H')):∀{x:XV}{v:V},HasX h o H x v->HasX h o H' x v
 | .d d,v,q=>Has.mono s d v q
 | .l k,v,q=>q
 | .o w,v,q=>q
 | .x C fs,v,q=>HasE.mono s q
 | .p k d,v,q=>HasLP.to s (fun _ z=>z) q
theorem RepE.view{δ:XE}{σ:St}(s:Same (vx h o H) (vx h o H'))(r:RepE h o H δ σ):RepE h o H' δ σ:=⟨r.len,fun i x e=>let ⟨v,e1,e2⟩:=r.get i x e;⟨v,e1,e2.view s⟩⟩
theorem RepS.hidden{a:Addr}{u:MO}(r:RepS h o H S)(m:a∈h):RepS h o (L2.upd H a u.ho) S where
 len:=r.len
 nd:=r.nd
 dis:=r.dis
 hal:=fun b mb=>by
  by_cases e:b=a
  ·subst e;exact⟨u,zX⟩
  ·obtain⟨w,z⟩:=r.hal b mb;exact⟨w,by rw[zD e];exact z⟩
 cont:=fun k b ds e1 e2=>by
  obtain⟨vs,e3,l⟩:=r.cont k b ds e1 e2;have ne:b≠a:=fun z=>r.dis b (bw e1) (z▸m);exact⟨vs,by rw[zD ne];exact e3,HasL.mono (yH m) _ _ l⟩
theorem RepM.put{a:Addr}{D D':DD}{u:MO}(r:RepM h o H M)(m:(a,D)∈M)(q:∀H',H' a=some u.ho->DAt (vx (h++ad M) o H) H' a D'):RepM h o (L2.upd H a u.ho) (cK M a D'):=by
 have ma:a∈ad M:=mem_map.mpr ⟨_,m,rfl⟩;refine⟨by rw[lG];exact r.nd,by rw[lG];exact r.nh,fun b D2 mb=>?_⟩;rw[lG];have sv:Same (vx (h++ad M) o H) (vx (h++ad M) o (L2.upd H a u.ho)):=yH (fh _ ma);obtain⟨p,mp,ep⟩:=mem_map.mp mb;by_cases e:p.1=a
 ·rw[cn e]at ep;cases ep;exact(q _ zX).mono sv fun _ z=>z
 ·rw[cm e]at ep;subst ep;exact(r.ct _ _ mp).mono sv fun w z=>by rw[zD e];exact z
theorem RepS.less{l:List Addr}(r:RepS (h++l) o H S):RepS h o H S where
 len:=r.len
 nd:=r.nd
 dis:=fun a ma z=>r.dis a ma (cg _ z)
 hal:=fun b mb=>r.hal b (cg _ mb)
 cont:=fun k b ds e1 e2=>by
  obtain⟨vs,e3,q⟩:=r.cont k b ds e1 e2;exact⟨vs,e3,HasL.mono (fun c u z=>let ⟨z1,z2,z3⟩:=zE.mp z;zE.mpr ⟨fun mm=>z1 (cg _ mm),z2,z3⟩) _ _ q⟩
theorem kO{l:List Addr}:Same (vx (h++l) o H) (vx h o H):=fun c u z=>let ⟨z1,z2,z3⟩:=zE.mp z;zE.mpr ⟨fun mm=>z1 (cg _ mm),z2,z3⟩
theorem HasX.less{l:List Addr}:∀{x:XV}{v:V},HasX (h++l) o H x v->HasX h o H x v
 | .d d,v,q=>Has.mono kO d v q
 | .l k,v,q=>q
 | .o w,v,q=>q
 | .x C fs,v,q=>HasE.mono kO q
 | .p k d,v,q=>HasLP.to kO (fun _ z=>z) q
end
end
section
structure DEndsM where
 nx:XE->Sto->DM->Prop
 rt:XV->Sto->DM->Prop
 bk:XE->Sto->DM->Prop:=fun _ _ _=>False
 ct:XE->Sto->DM->Prop:=fun _ _ _=>False
abbrev DSm:=DEndsM->XE->Sto->DM->Prop
def Fr(H:Hp)(M:DM):Prop:=∀a∈ad M,H a=none
def NxM(h o:List Addr)(H:Hp)(A:List Addr)(N:XE->Sto->DM->Prop)(Y:St->Hp->Prop):Prop:=∀o' H' δ' S' M' σ',Ex o H o' H'->ad M'=A->RepE (h++ad M') o' H' δ' σ'->RepS (h++ad M') o' H' S'->RepM h o' H' M'->N δ' S' M'->Y σ' H'
structure EOkM(h o:List Addr)(H:Hp)(A:List Addr)(E:DEndsM)(D:Ends):Prop where
 nx:NxM h o H A E.nx D.nx
 rt:∀o' H' S' M' x v,Ex o H o' H'->ad M'=A->RepS (h++ad M') o' H' S'->RepM h o' H' M'->HasX (h++ad M') o' H' x v->E.rt x S' M'->D.rt v H'
 bk:NxM h o H A E.bk D.bk
 ct:NxM h o H A E.ct D.ct
def RSm(E:XK)(EX:EXD)(t:TS)(dt:DSm):Prop:=∀(h o0:List Addr) (H0:Hp) (o:List Addr) (H:Hp) (δ:XE) (σ:St) (S:Sto) (M:DM) (En:DEndsM) (D:Ends),Ex o0 H0 o H->Fr H0 M->RepE (h++ad M) o H δ σ->RepS (h++ad M) o H S->RepM h o H M->dt En δ S M ->
 EOkM h o0 H0 (ad M) En D->CnX h o0 H0 EX E->t D σ H
theorem CnX.inn{E:XK}{EX:EXD}{h o0 o l:List Addr}{H0 H:Hp}(x:CnX h o0 H0 EX E)(e0:Ex o0 H0 o H):CnX (h++l) o H EX E:=fun o' H' S' C a fs e s' hE q=>x o' H' S' C a fs (e0.trans e) s'.less (HasE.mono kO hE) q
def aY(dt:DS):DSm:=fun En δ S M=>dt { nx:=fun δ' S'=>En.nx δ' S' M,rt:=fun x S'=>En.rt x S' M,bk:=fun δ' S'=>En.bk δ' S' M,ct:=fun δ' S'=>En.ct δ' S' M } δ S
def bV(t u:DSm):DSm:=fun En δ S M=>t { En with nx:=u En } δ S M
def fL(c:DM->DT)(t u:DSm):DSm:=fun En δ S M=>c M δ S fun b S1=>if b=true then t En δ S1 M else u En δ S1 M
def eV(g:DG)(b:DSm):List bt->DSm
 | [],E,δ,S,M=>E.nx δ S M
 |d::ds,E,δ,S,M=>g (.d d) δ S fun δ1 S1=>b { nx:=fun δ2 S2 M2=>eV g b ds E δ2 S2 M2,ct:=fun δ2 S2 M2=>eV g b ds E δ2 S2 M2,bk:=E.nx,rt:=E.rt } δ1 S1 M
def fO(i:DM->DI)(g:DG)(b:DSm):DSm:=fun En δ S M=>i M δ S fun ds S1=>eV g b ds En δ S1 M
def PhM(M:DM):Phi:=fun h' o H=>∃h,h'=h++ad M/\RepM h o H M
instance {M:DM}:Stb (PhM M):=⟨fun⟨h,e,r⟩ x=>⟨h,e,r.mono x⟩⟩
section
variable {E:XK}{EX:EXD}{t u:TS}{dt du:DSm}
theorem HV{ds:DS}(ht:RSx E EX t ds):RSm E EX t (aY ds):=fun h o0 H0 o H δ σ S M En D e0 fr he hs rm q c x=>
 ht (h++ad M) o H δ σ S _ D he hs q ⟨fun o' H' δ' S' σ' e aa z n=>c.nx o' H' δ' S' M σ' (e0.trans e) rfl aa z (rm.mono e) n,fun o' H' S' y v e z hy n=>c.rt o' H' S' M y v (e0.trans e) rfl z (rm.mono e) hy n,
  fun o' H' δ' S' σ' e aa z n=>c.bk o' H' δ' S' M σ' (e0.trans e) rfl aa z (rm.mono e) n,fun o' H' δ' S' σ' e aa z n=>c.ct o' H' δ' S' M σ' (e0.trans e) rfl aa z (rm.mono e) n⟩ (x.inn e0)
theorem dX{ds:DS}(ht:RS t ds):RSm E EX t (aY ds):=HV (LX ht)
theorem gN(ht:RSm E EX t dt)(hu:RSm E EX u du):RSm E EX (cV t u) (bV dt du):=fun h o0 H0 o H δ σ S M En D e0 fr he hs rm q c x=>
 ht h o0 H0 o H δ σ S M _ _ e0 fr he hs rm q ⟨fun o1 H1 δ1 S1 M1 σ1 e1 ea ab aa z q1=>hu h o0 H0 o1 H1 δ1 σ1 S1 M1 En D e1 (by unfold Fr;rw[ea];exact fr) ab aa z q1 (by rw[ea];exact c) x,c.rt,c.bk,c.ct⟩ x
theorem AM{tc:TT}{dc:DM->DT}(hc:∀M,RTp (PhM M) tc (dc M))(ht:RSm E EX t dt)(hu:RSm E EX u du):RSm E EX (pX tc t u) (fL dc dt du):=fun h o0 H0 o H δ σ S M En D e0 fr he hs rm q c x=>
 hc M (h++ad M) o H δ σ S _ _ he hs q (fun o1 H1 S1 b e1 s1 d1=>by
  cases b with
  |true=>exact eI (ht h o0 H0 o1 H1 δ σ S1 M En D (e0.trans e1) fr (he.mono e1) s1 (rm.mono e1) (by simpa using d1) c x)
  |false=>exact eP (hu h o0 H0 o1 H1 δ σ S1 M En D (e0.trans e1) fr (he.mono e1) s1 (rm.mono e1) (by simpa using d1) c x)) ⟨h,rfl,rm⟩
theorem qG{wi:TI}{g:TG}{tb:TS}{di:DM->DI}{dg:DG}{db:DSm}(hi:∀M,RIp (PhM M) wi (di M))(hg:RG g dg)(hb:RSm E EX tb db):RSm E EX (nX wi g tb) (fO di dg db):=fun h o0 H0 o H δ σ S M En D e0 fr he hs rm q c x=>
 hi M (h++ad M) o H δ σ S _ _ he hs q (fun o1 H1 S1 ds J e1 s1 wk d1=>by
  refine⟨fun i m σ2 H2=>m=ds.length-i/\i<=ds.length/\∃o2 δ2 S2 M2,Ex o0 H0 o2 H2/\ExH (h++ad M) o1 H1 o2 H2/\ad M2=ad M/\RepE (h++ad M) o2 H2 δ2 σ2/\RepS (h++ad M) o2 H2 S2/\RepM h o2 H2 M2/\eV dg db (ds.drop i) En δ2 S2 M2,
   ⟨ds.length,yv,nj _,o1,δ,S1,M,e0.trans e1,ExH.refl,rfl,he.mono e1,s1,rm.mono e1,d1⟩,?_⟩
  rintro i m σ2 H2 ⟨rfl,hi,o2,δ2,S2,M2,e2,x2,ea,ak,ah,aj,d2⟩;by_cases hlt:i<ds.length
  ·have ed:ds[i]?=some ds[i]:=cw hlt;rw[nc hlt]at d2;refine .inr ⟨wk.go i _ o2 H2 x2 ed,fun σ3 H3=>∃o3 δ3 S3 M3,Ex o0 H0 o3 H3/\ExH (h++ad M) o1 H1 o3 H3/\ad M3=ad M/\RepE (h++ad M) o3 H3 δ3 σ3/\RepS (h++ad M) o3 H3 S3/\RepM h o3 H3 M3/\eV dg db (ds.drop (i+1)) En δ3 S3 M3,fun σ3 H3 n=>⟨ds.length-(i+1),yw,rfl,hlt,n⟩,fun y H3 yy=>?_⟩;obtain⟨s3,hx⟩:=wk.yld i _ o2 H2 y H3 S2 x2 ah ed yy;have ai:Ex o2 H2 o2 H3:=Ex.of_same s3;refine hg (h++ad M) o2 H3 δ2 σ2 S2 (.d ds[i]) y _ _ (ak.mono ai) (ah.same s3) hx d2 fun o4 H4 δ4 S4 σ4 e4 am an d4=>?_;have af:Ex o2 H2 o4 H4:=ai.trans e4;have nM:∀b u,H0 b=some u->b∉ad M:=fun b u z mb=>by
    rw[fr b mb]at z;cases z
   have ae:Ex o0 H0 o4 (fun b=>if b∈ad M then none else H4 b):=⟨(e2.trans af).pre,fun b u nb z=>by
    obtain⟨z1,z2⟩:=(e2.trans af).kp b u nb z;exact⟨z1,by show (if b∈ad M then none else H4 b)=some u;rw[cm (nM b u z)];exact z2⟩⟩
   have al:∀{o5 H5},Ex o4 (fun b=>if b∈ad M then none else H4 b) o5 H5->ExH (h++ad M) o4 H4 o5 H5:=fun e5=>⟨e5.pre,fun b u n1 n2 z=>e5.kp b u n2 (by show (if b∈ad M then none else H4 b)=some u;rw[cm (fun mb=>n1 (fh _ mb))];exact z)⟩;have ab:∀o5 H5 δ5 S5 M5 σ5,Ex o4 (fun b=>if b∈ad M then none else H4 b) o5 H5->ad M5=ad M2->RepE (h++ad M5) o5 H5 δ5 σ5->RepS (h++ad M5) o5 H5 S5->RepM h o5 H5 M5->eV dg db (ds.drop (i+1)) En δ5 S5 M5 ->
     ∃o3 δ3 S3 M3,Ex o0 H0 o3 H5/\ExH (h++ad M) o1 H1 o3 H5/\ad M3=ad M/\RepE (h++ad M) o3 H5 δ3 σ5/\RepS (h++ad M) o3 H5 S3/\RepM h o3 H5 M3/\eV dg db (ds.drop (i+1)) En δ3 S3 M3:=fun o5 H5 δ5 S5 M5 σ5 e5 a5 ag aa ac d5=>
    ⟨o5,δ5,S5,M5,ae.trans e5,(x2.trans af.hid).trans (al e5),a5.trans ea,by rw[<- ea,<- a5];exact ag,by rw[<- ea,<- a5];exact aa,ac,d5⟩
   refine hb h o4 (fun b=>if b∈ad M then none else H4 b) o4 H4 δ4 σ4 S4 M2 _ _ ⟨⟨[],yv⟩,fun b u nb eb=>?_⟩ (fun a ma=>by show (if a∈ad M then none else H4 a)=none;rw[cn (by rw[<- ea];exact ma)]) (by rw[ea];exact am) (by rw[ea];exact an) (aj.mono af) d4
    ⟨ab,fun o5 H5 S5 M5 y5 v5 e5 a5 aa ac ao q5=>c.rt o5 H5 S5 M5 y5 v5 (ae.trans e5) (a5.trans ea) aa ac ao q5,fun o5 H5 δ5 S5 M5 σ5 e5 a5 ag aa ac q5=>c.nx o5 H5 δ5 S5 M5 σ5 (ae.trans e5) (a5.trans ea) ag aa ac q5,ab⟩ (x.pre ae)
   refine⟨nb,?_⟩;by_cases mb:b∈ad M
   ·simp[mb]at eb
   ·simpa[mb]using eb
  ·have ei:i=ds.length:=yw
   subst ei;rw[drop_length]at d2;exact .inl ⟨wk.stop _ o2 H2 x2 (dh _),c.nx o2 H2 δ2 S2 M2 σ2 e2 ea (by rw[ea];exact ak) (by rw[ea];exact ah) aj d2⟩) ⟨h,rfl,rm⟩
end
end
section
section
variable {h h' o:List Addr}{H H':Hp}
theorem HasX.to(s:Same (vx h o H) (vx h' o H')):∀{x:XV}{v:V},HasX h o H x v->HasX h' o H' x v
 | .d d,v,q=>Has.mono s d v q
 | .l k,v,q=>q
 | .o w,v,q=>q
 | .x C fs,v,q=>HasE.mono s q
 | .p k d,v,q=>HasLP.to s (fun _ z=>z) q
theorem RepE.to{δ:XE}{σ:St}(s:Same (vx h o H) (vx h' o H'))(r:RepE h o H δ σ):RepE h' o H' δ σ:=⟨r.len,fun i x e=>let ⟨v,e1,e2⟩:=r.get i x e;⟨v,e1,e2.to s⟩⟩
end
def gY(a:Addr)(m:List (Key×bt)):XV->XV
 | .o (.ref b)=>if b=a then .d (.dict (DD.pairs (.k m)))else .o (.ref b)
 |x=>x
theorem K8{h h' o:List Addr}{H H':Hp}{a:Addr}{m:List (Key×bt)}{m':List (Key×V)}{ob:Obj}(s:Same (vx h o H) (vx h' o H'))(e:vx h' o H' a=some (.frz ob (.dK m')))(l:HasM (vx h o H) m m'):∀{x:XV}{v:V},HasX h o H x v->HasX h' o H' (gY a m x) v
 | .d d,v,z=>Has.mono s d v z
 | .l k,v,z=>z
 | .x C fs,v,z=>HasE.mono s z
 | .p k d,v,z=>HasLP.to s (fun _ z=>z) z
 | .o w,v,z=>by
  cases w with
  |ref b=>
   unfold gY;dsimp only;split
   ·rename_i eb;subst eb;rw[show v=.ref b from z];exact oC.mpr ⟨b,ob,m',rfl,e,l.mono s⟩
   ·exact z
  |_=>exact z
theorem Ga{h h' o:List Addr}{H H':Hp}{a:Addr}{m:List (Key×bt)}{m':List (Key×V)}{ob:Obj}{δ:XE}{σ:St}(s:Same (vx h o H) (vx h' o H'))(e:vx h' o H' a=some (.frz ob (.dK m')))(l:HasM (vx h o H) m m')(r:RepE h o H δ σ):RepE h' o H' (δ.map (Option.map (gY a m))) σ:=by
 refine⟨by rw[cu];exact r.len,fun i x ex=>?_⟩;rw[ie]at ex;cases hd:δ[i]? with
 |none=>rw[hd]at ex;cases ex
 |some y=>
  rw[hd]at ex;cases y with
  |none=>cases ex
  |some y=>
   cases ex;obtain⟨v,e1,e2⟩:=r.get i y hd;exact⟨v,e1,K8 s e l e2⟩
theorem zK{M:DM}{a:Addr}{D:DD}:ad (M++[(a,D)])=ad M++[a]:=by simp[ad]
theorem RepM.init{h o:List Addr}{H:Hp}{M:DM}{a:Addr}{D:DD}(r:RepM h o H (M++[(a,D)])):RepM h o H M:=by
 have nd:=r.nd;rw[zK]at nd;refine⟨(nodup_append.mp nd).1,fun b m=>r.nh b (by rw[zK];exact cg _ m),fun b D2 m=>?_⟩;have z:=r.ct b D2 (cg _ m);rw[zK,<- gn]at z;exact z.mono kO fun _ z=>z
def fU(f:Bool)(i:Nat)(D0:DD)(b:DSm):DSm:=fun En δ S M=>∀a,a∉ad M->b { nx:=(fun δ' S' M'=>if f=true then (∃M1 m,M'=M1++[(a,.k m)]/\δ'[i]?=some (some (.o (.ref a)))/\En.nx (δ'.map (Option.map (gY a m))) S' M1)else (∃M1 D,M'=M1++[(a,D)]/\En.nx δ' S' M1)),rt:=(fun x S' M'=>∃M1 D,M'=M1++[(a,D)]/\En.rt x S' M1),bk:=(fun δ' S' M'=>∃M1 D,M'=M1++[(a,D)]/\En.bk δ' S' M1),ct:=(fun δ' S' M'=>∃M1 D,M'=M1++[(a,D)]/\En.ct δ' S' M1) } (δ.set i (some (.o (.ref a)))) S (M++[(a,D0)])
section
variable {E:XK}{EX:EXD}{tb:TS}{db:DSm}{i:Nat}
theorem IE{f:Bool}{p:Addr}{u:MO}{D0:DD}(hD:∀(G H:Hp),H p=some u.ho->DAt G H p D0)(hb:RSm E EX tb db){h o0:List Addr}{H0:Hp}{o:List Addr}{H:Hp}{δ:XE}{σ:St}{S:Sto}{M:DM}{En:DEndsM}{D:Ends}(e0:Ex o0 H0 o H)(fr:Fr H0 M)(he:RepE (h++ad M) o H δ σ)(hs:RepS (h++ad M) o H S)(rm:RepM h o H M)
  (q:fU f i D0 db En δ S M) (c:EOkM h o0 H0 (ad M) En D) (x:CnX h o0 H0 EX E) (hp:H p=none):(if f=true then j9 i tb else tb) D (σ.set i (some (.ref p))) (upd H p u.ho):=by
 have nM:p∉ad M:=fun m=>by
  obtain⟨D2,_,z⟩:=rm.at m;obtain⟨w,ew⟩:=z.mo;rw[hp]at ew;cases ew
 have f1:=hs.fresh hp;have nh:p∉h:=fun m=>f1.1 (cg _ m);have sH:Same H (upd H p u.ho):=Same.laid hp;have e1:Ex o0 H0 o (upd H p u.ho):=e0.trans (Ex.of_same sH);have H0p:H0 p=none:=by
  cases z:H0 p with
  |none=>rfl
  |some w=>
   by_cases m:p∈o0
   ·obtain⟨r,er⟩:=e0.pre;exact absurd (show p∈o by rw[er];exact cg _ m) f1.2
   ·have:=(e0.kp p w m z).2;rw[hp]at this;cases this
 have sv:Same (vx (h++ad M) o H) (vx (h++(ad M++[p])) o (upd H p u.ho)):=fun b w z=>by
  obtain⟨z1,z2,z3⟩:=zE.mp z;have ne:b≠p:=zI z3 hp;refine zE.mpr ⟨fun m=>?_,z2,by rw[zD ne];exact z3⟩;rw[<- gn]at m;rcases mem_append.mp m with m|m
  ·exact z1 m
  ·exact ne (mem_singleton.mp m)
 have sM:RepS (h++ad (M++[(p,D0)])) o (upd H p u.ho) S:=by
  rw[zK];refine⟨hs.len,hs.nd,fun a ma z=>?_,fun b mb=>?_,fun k b ds e1 e2=>?_⟩
  ·rw[<- gn]at z;rcases mem_append.mp z with z|z
   ·exact hs.dis a ma z
   ·rw[mem_singleton.mp z]at ma;exact f1.2 ma
  ·rw[<- gn]at mb;rcases mem_append.mp mb with m|m
   ·obtain⟨w,ew⟩:=hs.hal b m;exact⟨w,sH _ _ ew⟩
   ·rw[mem_singleton.mp m];exact⟨u,zX⟩
  ·obtain⟨vs,e3,l⟩:=hs.cont k b ds e1 e2;exact⟨vs,sH _ _ e3,HasL.mono sv _ _ l⟩
 have mM:RepM h o (upd H p u.ho) (M++[(p,D0)]):=by
  refine⟨by rw[zK];exact lN rm.nd nM,fun a ma=>?_,fun a D2 m=>?_⟩
  ·rw[zK]at ma;rcases mem_append.mp ma with m|m
   ·exact rm.nh a m
   ·rw[mem_singleton.mp m];exact⟨nh,f1.2⟩
  ·rw[zK];rcases mem_append.mp m with m|m
   ·exact(rm.ct a D2 m).mono sv fun w z=>sH _ _ z
   ·have:=mem_singleton.mp m;cases this;exact hD _ _ zX
 have hE:RepE (h++ad (M++[(p,D0)])) o (upd H p u.ho) (δ.set i (some (.o (.ref p)))) (σ.set i (some (.ref p))):=by
  rw[zK];exact(he.to sv).set (show HasX _ _ _ (.o (.ref p)) (.ref p)from rfl)
 have ag:Fr H0 (M++[(p,D0)]):=fun a ma=>by
  rw[zK]at ma;rcases mem_append.mp ma with m|m
  ·exact fr a m
  ·rw[mem_singleton.mp m];exact H0p
 have ac:∀{N:XE->Sto->DM->Prop}{Y:St->Hp->Prop},NxM h o0 H0 (ad M) N Y->NxM h o0 H0 (ad (M++[(p,D0)])) (fun δ' S' M'=>∃M1 D,M'=M1++[(p,D)]/\N δ' S' M1) Y:=fun {N Y} nx o' H' δ' S' M' σ' ex ea ae aa ab ⟨M1,D2,eM,n⟩=>by
  subst eM;rw[zK,zK]at ea;rw[zK,<- gn]at ae aa;exact nx o' H' _ S' M1 σ' ex (append_inj_left' ea rfl) (ae.to kO) aa.less ab.init n
 have af:∀o' H' S' M' y v,Ex o0 H0 o' H'->ad M'=ad (M++[(p,D0)])->RepS (h++ad M') o' H' S'->RepM h o' H' M'->HasX (h++ad M') o' H' y v->(∃M1 D,M'=M1++[(p,D)]/\En.rt y S' M1)->D.rt v H':=by
  rintro o' H' S' M' y v ex ea aa ab ah ⟨M1,D2,eM,n⟩;subst eM;rw[zK,zK]at ea;rw[zK,<- gn]at ah aa;exact c.rt o' H' S' M1 _ v ex (append_inj_left' ea rfl) aa.less ab.init ah.less n
 have qq:=q p nM;cases f with
 |false=>
  refine hb h o0 H0 o _ _ _ S (M++[(p,D0)]) _ D e1 ag hE sM mM qq ⟨?_,af,ac c.bk,ac c.ct⟩ x;exact fun o' H' δ' S' M' σ' ex ea ae aa ab n=>ac c.nx o' H' δ' S' M' σ' ex ea ae aa ab (by simpa using n)
 |true=>
  refine hb h o0 H0 o _ _ _ S (M++[(p,D0)]) _ { D with nx:=fun σ' H'=>∃a m,σ'[i]?=some (some (.ref a))/\H' a=some (.dK m)/\∀ob,D.nx σ' (upd H' a (.frz ob (.dK m))) } e1 ag hE sM mM qq ⟨?_,af,ac c.bk,ac c.ct⟩ x;intro o' H' δ' S' M' σ' ex ea ae aa ab n;obtain⟨M1,m,eM,ei,n2⟩:∃M1 m,M'=M1++[(p,DD.k m)]/\δ'[i]?=some (some (.o (.ref p)))/\En.nx (δ'.map (Option.map (gY p m))) S' M1:=by simpa using n
  subst eM;obtain⟨v,ev,hv⟩:=ae.get i _ ei;have ai:v=.ref p:=hv;subst ai;have nn:=ab.nh p (by rw[zK];simp);have nd:=ab.nd;rw[zK,zK]at ea;rw[zK]at nd;have pn:p∉ad M1:=fun m=>(nodup_append.mp nd).2.2 p m p yv rfl;obtain⟨m',em,l⟩:=ab.ct p (.k m) yv;refine⟨p,m',ev,em,fun ob=>?_⟩;have np:p∉h++ad M1:=fun z=>(mem_append.mp z).elim nn.1 pn;have s2:Same (vx (h++ad (M1++[(p,DD.k m)])) o' H') (vx (h++ad M1) o' (upd H' p (.frz ob (.dK m')))):=fun b w z=>by
   obtain⟨z1,z2,z3⟩:=zE.mp z;rw[zK,<- gn]at z1;have ne:b≠p:=fun z=>z1 (by rw[z];simp);exact zE.mpr ⟨fun mm=>z1 (cg _ mm),z2,by rw[zD ne];exact z3⟩
  refine c.nx o' _ _ S' M1 σ' ⟨ex.pre,fun b w nb zb=>?_⟩ (append_inj_left' ea rfl) (Ga s2 (zE.mpr ⟨np,nn.2,zX⟩) l ae) ?_ ?_ n2
  ·obtain⟨z1,z3⟩:=ex.kp b w nb zb;exact⟨z1,by rw[zD (fun z=>by rw[z,H0p]at zb;cases zb)];exact z3⟩
  ·refine⟨aa.len,aa.nd,fun a ma z=>aa.dis a ma (by rw[zK,<- gn];exact cg _ z),fun b mb=>?_,fun k b ds q1 q2=>?_⟩
   ·obtain⟨w,ew⟩:=aa.hal b (by rw[zK,<- gn];exact cg _ mb);exact⟨w,by rw[zD (fun z=>np (by rw[<- z];exact mb))];exact ew⟩
   ·obtain⟨vs,q3,l3⟩:=aa.cont k b ds q1 q2;exact⟨vs,by rw[zD (fun z=>nn.2 (by rw[<- z];exact bw q1))];exact q3,HasL.mono s2 _ _ l3⟩
  ·have r1:=ab.init;refine⟨r1.nd,r1.nh,fun b D3 mb=>?_⟩;have nb:b≠p:=fun z=>pn (by rw[<- z];exact mem_map.mpr ⟨_,mb,rfl⟩);exact(ab.ct b D3 (cg _ mb)).mono s2 fun w z=>by rw[zD nb];exact z
theorem uY(hb:RSm E EX tb db):RSm E EX (cV (qI vS (k9 i)) (j9 i tb)) (fU true i (.k []) db):=fun h o0 H0 o H δ σ S M En D e0 fr he hs rm q c x p hp=>
 IE (f:=true) (D0:=.k []) (u:=.k []) (fun G H z=>⟨[],z,rfl⟩) hb e0 fr he hs rm q c x hp
def gO(dt:DSm):DS:=fun En δ S=>dt { nx:=fun δ' S' _=>En.nx δ' S',rt:=fun x S' _=>En.rt x S',bk:=fun δ' S' _=>En.bk δ' S',ct:=fun δ' S' _=>En.ct δ' S' } δ S []
theorem K5{t:TS}{dt:DSm}(ht:RSm E EX t dt):RSx E EX t (gO dt):=fun h o H δ σ S En D he hs q c x=>by
 have z:h++ad []=h:=kw _;have nx:∀{N:XE->Sto->Prop}{Y:St->Hp->Prop},Nx h o H N Y->NxM h o H (ad []) (fun δ' S' _=>N δ' S') Y:=fun {N Y} n o' H' δ' S' M' σ' ex ea ab aa _ q'=>by
  rw[ea,z]at ab aa;exact n o' H' δ' S' σ' ex ab aa q'
 refine ht h o H o H δ σ S [] _ D Ex.refl (fun a m=>by cases m) (by rw[z];exact he) (by rw[z];exact hs) RepM.nil q ⟨nx c.nx,?_,nx c.bk,nx c.ct⟩ x;rintro o' H' S' M' y v ex ea aa _ ac q';rw[ea,z]at aa ac;exact c.rt o' H' S' y v ex aa ac q'
theorem yU{t:TS}{dt:DSm}(ht:RSm E0 (fun _ _=>False) t dt):RS t (gO dt):=fun h o H δ σ S En D he hs q c=>K5 ht h o H δ σ S En D he hs q c fun _ _ _ _ _ _ _ _ _ z=>z.elim
end
end
section
def ROp(Φ:Phi)(r:R2)(rd:D2):Prop:=∀(h o:List Addr) (H:Hp) (S:Sto) (x y:XV) (v u:V) (R:RX) (Q:VK),Φ h o H->RepS h o H S->HasX h o H x v->HasX h o H y u->rd x y S R->Cn h o H R Q->r v u H Q
section
variable {Φ:Phi} [Stb Φ] {ta tb:TE}{da db:DE}
theorem rD{r:R2}{rd:D2}(hr:ROp Φ r rd)(ha:REp Φ ta da)(hb:REp Φ tb db):REp Φ (tOp r ta tb) (dOp rd da db):=fun h o H δ σ S R Q he hs q c w=>
 ha h o H δ σ S _ _ he hs q (fun o1 H1 S1 x v e1 s1 x1 d1=>hb h o1 H1 δ σ S1 _ _ (he.mono e1) s1 d1 (fun o2 H2 S2 y u e2 s2 y2 d2=>
  hr h o2 H2 S2 x y v u R Q (Stb.st w (e1.trans e2)) s2 (x1.mono e2) y2 d2 (c.pre (e1.trans e2))) (Stb.st w e1)) w
end
theorem Fh{t:TE}{de:DE}(a:REp (PhM []) t de):RE t de:=fun h o H δ σ S R Q he hs q c=>a h o H δ σ S R Q he hs q c ⟨h,(kw _).symm,RepM.nil⟩
theorem Lo{t:TT}{de:DT}(a:RTp (PhM []) t de):RT t de:=fun h o H δ σ S R Q he hs q c=>a h o H δ σ S R Q he hs q c ⟨h,(kw _).symm,RepM.nil⟩
def IsDD(M:DM)(x:XV)(D:DD):Prop:=(∃a,x=.o (.ref a)/\(a,D)∈M)\/∃m,D=.k m/\x=.d (.dict (DD.pairs (.k m)))
theorem Du{M:DM}{h o:List Addr}{H:Hp}{x:XV}{D:DD}{v:V}(φ:PhM M h o H)(q:IsDD M x D)(hx:HasX h o H x v):∃a,v=.ref a/\RAt (vx h o H) H a D:=by
 rcases q with ⟨a,rfl,m⟩|⟨m,rfl,rfl⟩
 ·obtain⟨h0,rfl,rm⟩:=φ;exact⟨a,hx,(rm.ct a D m).rd⟩
 ·obtain⟨a,ob,m',rfl,e,l⟩:=oC.mp (show Has _ _ v from hx);exact⟨a,rfl,m',.inr ⟨ob,zN _ _ e⟩,l⟩
def w8(n:Bool):R2:=fun y x H Q=>∃a o,x=.ref a/\DGet H a y o/\Q (.bl (if n=true then !o.isSome else o.isSome)) H
theorem Ju{X:Cx}(hu:X.A.units+64<uk):OpR X (ki .In) (w8 false):=fun ze s σ H y x v u Q I ry rx ⟨a,o,e,g,q⟩=>by
 subst e;obtain rfl:u=gk a:=rx;exact HL yw I g ry fun s3 I3=>⟨.bl o.isSome,H,I3,rfl,q⟩
theorem uS{X:Cx}(hu:X.A.units+64<uk):OpR X (ki .NotIn) (w8 true):=fun ze s σ H y x v u Q I ry rx ⟨a,o,e,g,q⟩=>by
 subst e;obtain rfl:u=gk a:=rx;exact Jc yw I g ry fun s3 I3=>⟨.bl (!o.isSome),H,I3,rfl,q⟩
def dE(M:DM)(n:Bool):D2:=fun y x S R=>asD y fun k=>∃D o,IsDD M x D/\D.get k=some o/\R (.d (.bool (if n=true then !o.isSome else o.isSome))) S
theorem Hr{G:Hp}{o:Option bt}{r:Option V}(q:RelD G o r):r.isSome=o.isSome:=by
 cases o with
 |none=>rw[show r=none from q];rfl
 |some d=>obtain⟨u,rfl,_⟩:=q;rfl
theorem lV{M:DM}{n:Bool}:ROp (PhM M) (w8 n) (dE M n):=fun h o H S y x v u R Q φ hs hy hx q c=>by
 obtain⟨k,rfl,D,r,hD,e,q⟩:=iN q;obtain⟨a,rfl,da⟩:=Du φ hD hx;obtain⟨r',g,rr⟩:=da.get zN hy e;refine⟨a,r',rfl,g,?_⟩;rw[Hr rr];exact c o H S _ _ Ex.refl hs (xB _) q
def fZ(M:DM)(dd dy:DE):DE:=fun δ S R=>dd δ S fun x S1=>dy δ S1 fun y S2=>asD y fun k=>∃D d,IsDD M x D/\D.get k=some (some d)/\R (.d d) S2
theorem vW{M:DM}{td ty:TE}{dd dy:DE}(hd:REp (PhM M) td dd)(hy:REp (PhM M) ty dy):REp (PhM M) (Ar td ty) (fZ M dd dy):=fun h o H δ σ S R Q he hs q c w=>
 hd h o H δ σ S _ _ he hs q (fun o1 H1 S1 x v e1 s1 x1 d1=>hy h o1 H1 δ σ S1 _ _ (he.mono e1) s1 d1 (fun o2 H2 S2 y u e2 s2 y2 d2=>by
  obtain⟨k,rfl,D,d,hD,e,q⟩:=iN d2;obtain⟨a,rfl,da⟩:=Du (Stb.st w (e1.trans e2)) hD (x1.mono e2);obtain⟨r',g,r2,rfl,h2⟩:=da.get zN y2 e;exact⟨a,r2,rfl,g,c o2 H2 S2 (.d d) r2 (e1.trans e2) s2 h2 q⟩) (Stb.st w e1)) w
def dJ(j:Nat)(dk dv:DM->DE):DSm:=fun En δ S M=>dv M δ S fun x S1=>asD x fun d=>zh j δ S1 fun y S2=>∃a,y=.o (.ref a)/\dk M δ S2 fun z S3=>asD z fun k=>∃D D',(a,D)∈M/\D.put k d=some D'/\D.len<1000/\En.nx δ S3 (cK M a D')
theorem pL{E:XK}{EX:EXD}{j:Nat}{ty tv:TE}{dk dv:DM->DE}(hk:∀M,REp (PhM M) ty (dk M))(hv:∀M,REp (PhM M) tv (dv M)):RSm E EX (Aw (gU j) ty tv) (dJ j dk dv):=fun h o0 H0 o H δ σ S M En D e0 fr he hs rm q c x=>
 hv M (h++ad M) o H δ σ S _ _ he hs q (fun o1 H1 S1 y v e1 s1 x1 d1=>by
  obtain⟨d,rfl,y1,ey,a,rfl,d2⟩:=iN d1;have ab:=he.mono e1;obtain⟨v1,ev,ae⟩:=ab.get j _ ey;have af:v1=.ref a:=ae;subst af;refine⟨_,ev,hk M (h++ad M) o1 H1 δ σ S1 _ _ ab s1 d2 (fun o2 H2 S2 z u e2 s2 z2 d3=>?_) ⟨h,rfl,rm.mono e1⟩⟩;obtain⟨k,rfl,D1,D2,mD,eD,hl,n⟩:=iN d3;have aa:=e1.trans e2;have ac:=rm.mono aa;have ma:a∈ad M:=mem_map.mpr ⟨_,mD,rfl⟩;obtain⟨w,pt,fin⟩:=(ac.ct a D1 mD).put zN z2 (x1.mono e2) eD hl;have mh:a∈h++ad M:=fh _ ma;refine⟨a,_,rfl,pt,c.nx o2 _ δ S2 (cK M a D2) σ ⟨(e0.trans aa).pre,fun b w' nb zb=>?_⟩ lG ?_ ?_ (ac.put mD fin) n⟩
  ·obtain⟨z1,z3⟩:=(e0.trans aa).kp b w' nb zb;exact⟨z1,by rw[zD (fun z=>by rw[z,fr a ma]at zb;cases zb)];exact z3⟩
  ·rw[lG];exact(ab.mono e2).view (yH mh)
  ·rw[lG];exact s2.hidden mh) ⟨h,rfl,rm⟩
theorem CB{t t':TS}{d:DS}(h:RS t d)(e:t'=t:=by rfl):RS t' d:=e▸h
end
end L2
namespace L2
open PySem PySem.Spec PySem.Calls PyProof.Rows
theorem MK{P:gf}{w:iu}{k:Key}{u:bo}(h:(bY P w).is k u=true):RelV (kV k) u:=by
 have h':kF k u=true:=h;cases k with
 |inl i=>
  have q:qu i u=true:=h';cases u<;>simp[qu]at q;rename_i j t;subst q;exact⟨t,rfl⟩
 |inr x=>
  have q:Value.isStrOf x u=true:=h';cases u<;>simp[Value.isStrOf]at q;rename_i j t;subst q;exact⟨t,rfl⟩
theorem A2{P:gf}{w:iu}{H:Hp}{h:Heap}{a:Addr}{ob:Obj}{m:List (Key×V)}(ok:HOk P w H h)(e:H a=some (.frz ob (.dK m))):(a==ly)=false/\m.length<=fk/\∃es ep vs,ob.data=.dict es ep/\KV m vs/\h.DictAt (bY P w) a vs ep:=by
 obtain⟨e1,hz,q,vs,kv,o,es,ep,ho,r1,r2,r3⟩:=(show ObjOk P w H h a (.frz ob (.dK m))from ok a _ e);rw[e1]at ho;cases ho;exact⟨q,hz,es,ep,vs,r2,kv,_,es,e1,r1,r2,r3⟩
theorem KV.get{kvs:List (Key×V)}{vs:List (Key×bo)}(r:KV kvs vs):∀{i:Nat}{p:Key×V},kvs[i]?=some p->∃u,vs[i]?=some (p.1,u)/\RelV p.2 u:=by
 unfold KV at r;induction r with
 |nil=>intro i p e;simp at e
 | @cons p q ps qs h t ih=>
  intro i x e;cases i with
  |zero=>
   simp at e;subst e;exact⟨q.2,by simp[h.1],h.2⟩
  |succ i=>
   obtain⟨u,e1,e2⟩:=ih (i:=i) (p:=x) (by simpa using e);exact⟨u,by simpa using e1,e2⟩
def DD.itemsD(m:List (Key×bt)):List bt:=m.map fun p=>.tuple [kD p.1,p.2]
def r8(e:DE):DI:=fun δ S R=>e δ S fun x S1=>∃m,x=.d (.dict (DD.pairs (.k m)))/\R (DD.itemsD m) S1
end L2
namespace L2
open PySem PySem.Spec PyProof.Rows
section
section
variable {E:XK}{EX:EXD}{a b c d e f u:TS}{dt du:DS}{i:Nat}
theorem vY(h:RS (cV a b) dt)(hu:RS u du):RS (cV a (cV b u)) (aA dt du):=CB (zQ h hu)
end
end
end L2
namespace HT
open PySem PyProof.Rows
section
open PySem.SeqAt
open PySem.AutoSeq1 (wpAny_loadPart')
open PySem.MeetsSeq PySem.MeetsSeq2 PySem.MeetsSeq3
theorem lexLt_self:∀ns:List Int,lexLt ns ns=false
 | []=>rfl
 |x::xs=>by rw[lexLt_cons,cn rfl,lexLt_self xs]
end
end HT
namespace L2
open PySem PySem.Spec PySem.Calls PyProof.Rows
theorem Db:∀(xs:List V) (us:List bo),xs.length=us.length->(∀(j:Nat) (x:V) (u:bo),xs[j]?=some x->us[j]?=some u->RelV x u)->Vals xs us
 | [],[],_,_=>.nil
 |x::xs,u::us,hl,h=>.cons (h 0 x u rfl rfl) (Db xs us (by simpa using hl) fun j y v e1 e2=>h (j+1) y v (by simpa using e1) (by simpa using e2))
 | [],_::_,hl,_=>by simp at hl
 |_::_,[],hl,_=>by simp at hl
end L2
namespace L2
open PySem PyProof.Rows
def Ae:Bool->df->Array df->Nat->Nat->Nat->StateT iw Sem (Option Nat):=sortPriv% PySem.Builtin.gallop
def LB:Array df->Array df->StateT iw Sem (Array df):=sortPriv% PySem.Builtin.mergeLo
def KF:Array df->Array df->StateT iw Sem (Array df):=sortPriv% PySem.Builtin.mergeHi
structure LtOk(prog:gf)(w:iu)(A:iq)(E:bo->bq->Prop)(s:bq)(kd:sx)(D:df->Prop)(lt:df->df->Bool):Prop where
 ask:∀x y (st:iw) (Q:Option Bool->iw->Prop),D x->D y->kindOf st=kd->Q (some (lt x y)) st->wpS (model prog w) A E s (lt' x y) Q st
 asym:∀x y,D x->D y->lt x y=true->lt y x=false
 tr:∀x y z,D x->D y->D z->lt y x=false->lt z y=false->lt z x=false
section
variable {prog:gf}{w:iu}{A:iq}{E:bo->bq->Prop}{s:bq}{kd:sx}{D:df->Prop}{lt:df->df->Bool}
theorem zz{z:Array df}{i:Nat}{x:df}{Q:df->iw->Prop}{st:iw}(h:z[i]?=some x)(q:Q x st):wpS (model prog w) A E s (elem' z i) Q st:=by
 rw[elem'_eq,h];exact ci q
def bey(lt:df->df->Bool)(left:Bool)(key x:df):Bool:=if left=true then lt x key else !lt key x
theorem qW(O:LtOk prog w A E s kd D lt){left:Bool}{key x:df}{z:Array df}{i:Nat}{Q:Option Bool->iw->Prop}{st:iw}(hk:kindOf st=kd)(hD:D key)(hg:z[i]?=some x)(hx:D x)(q:Q (some (bey lt left key x)) st):
  wpS (model prog w) A E s (do
   let y <- elem' z i
   if left=true then lt' y key
    else do
     let r <- lt' key y
     pure (Option.map (fun b=>!b) r)) Q st:=by
 refine ca (zz hg ?_);unfold bey at q;by_cases h:left=true
 ·rw[cn h]at q ⊢;exact O.ask _ _ _ _ hx hD hk q
 ·rw[cm h]at q ⊢;exact ca (O.ask _ _ _ _ hD hx hk (ci q))
theorem ET{n:Nat}{p:Nat->Bool}{α:Type}{f:Nat->Option α×Nat×Nat->StateT iw Sem (ForInStep (Option α×Nat×Nat))}{Q:Option α×Nat×Nat->iw->Prop}{st:iw}
  (hf:∀x lo hi (Q':ForInStep (Option α×Nat×Nat)->iw->Prop),hi<=n->(hi<=lo->Q' (.done (none,lo,hi)) st)->(lo<hi->p (lo+(hi-lo)/2)=true->Q' (.yield (none,lo+(hi-lo)/2+1,hi)) st) ->
   (lo<hi->p (lo+(hi-lo)/2)=false->Q' (.yield (none,lo,lo+(hi-lo)/2)) st)->wpS (model prog w) A E s (f x (none,lo,hi)) Q' st)
  (hmono:∀i j,i<=j->j<n->p j=true->p i=true) {lo hi:Nat} (h1:lo<=hi) (h2:hi<=n) (h3:∀i,i<lo->p i=true) (h4:∀i,hi<=i->i<n->p i=false)
  (q:∀k,k<=n->(∀i,i<k->p i=true)->(∀i,k<=i->i<n->p i=false)->Q (none,k,k) st):wpS (model prog w) A E s (forIn [:n] (none,lo,hi) f) Q st:=by
 refine jj (I:=fun k c st'=>st'=st/\∃lo hi,c=(none,lo,hi)/\lo<=hi/\hi<=n/\hi-lo+k<=n/\(∀i,i<lo->p i=true)/\∀i,hi<=i->i<n->p i=false) ?step ?fin ⟨rfl,lo,hi,rfl,h1,h2,yw,h3,h4⟩
 case fin=>
  rintro c st' ⟨rfl,lo,hi,rfl,a1,a2,a3,a4,a5⟩;have:lo=hi:=yw
  subst this;exact q lo a2 a4 a5
 case step=>
  rintro k c st' _ ae ⟨rfl,lo,hi,rfl,a1,a2,a3,a4,a5⟩;refine hf k lo hi _ a2 (fun ac=>?_) (fun aa hp=>?_) fun aa hp=>?_
  ·have:lo=hi:=yw
   subst this;exact q lo a2 a4 a5
  ·refine⟨rfl,_,_,rfl,yw,a2,yw,fun i z=>?_,a5⟩;exact hmono i (lo+(hi-lo)/2) yw yw hp
  ·refine⟨rfl,_,_,rfl,yw,yw,yw,a4,fun i z ab=>?_⟩;cases hpi:p i with
   |false=>rfl
   |true=>rw[hmono (lo+(hi-lo)/2) i z ab hpi]at hp;cases hp
theorem GC(O:LtOk prog w A E s kd D lt){left:Bool}{key:df}{ac:Array df}{base n hint:Nat}{Q:Option Nat->iw->Prop}{st:iw}(hk:kindOf st=kd)(hD:D key)(g:Nat->df)(hg:∀i,i<n->ac[base+i]?=some (g i))(aa:∀i,i<n->D (g i))
  (hmono:∀i j,i<=j->j<n->bey lt left key (g j)=true->bey lt left key (g i)=true) (hh:hint<n)
  (q:∀k,k<=n->(∀i,i<k->bey lt left key (g i)=true)->(∀i,k<=i->i<n->bey lt left key (g i)=false)->Q (some k) st):wpS (model prog w) A E s (Ae left key ac base n hint) Q st:=by
 have ae:∀i j,i<=j->j<n->bey lt left key (g i)=false->bey lt left key (g j)=false:=fun i j h1 h2 h3=>by
  cases h:bey lt left key (g j)with
  |false=>rfl
  |true=>rw[hmono i j h1 h2 h]at h3;cases h3
 refine ca (qW O hk hD (hg hint hh) (aa hint hh) ?_);cases hb:bey lt left key (g hint)with
 |true=>
  simp only[if_true];refine ca (ng (jj (I:=fun k c st'=>st'=st/\∃la z,c=(none,la,z)/\la<z/\k+1<=z/\hint+la<n/\bey lt left key (g (hint+la))=true)
   (Q:=fun c st'=>st'=st/\∃la z,c=(none,la,z)/\la<z/\hint+la<n/\bey lt left key (g (hint+la))=true/\(n-hint<=z\/(hint+z<n/\bey lt left key (g (hint+z))=false))) ?step ?fin ⟨rfl,0,1,rfl,yw,yw,yw,hb⟩) ?post)
  case step=>
   rintro k c st' _ af ⟨rfl,la,z,rfl,h1,h2,h3,h4⟩;by_cases ho:z≥n-hint
   ·rw[cn ho];exact ci ⟨rfl,la,z,rfl,h1,h3,h4,.inl ho⟩
   ·rw[cm ho];have hn:hint+z<n:=yw
    refine ca (qW O hk hD (hg _ hn) (aa _ hn) ?_);cases hb2:bey lt left key (g (hint+z))with
    |true=>exact ci ⟨rfl,z,2*z+1,rfl,yw,yw,hn,hb2⟩
    |false=>exact ci ⟨rfl,la,z,rfl,h1,h3,h4,.inr ⟨hn,hb2⟩⟩
  case fin=>
   rintro c st' ⟨rfl,la,z,rfl,h1,h2,h3,h4⟩;exact⟨rfl,la,z,rfl,h1,h3,h4,.inl yw⟩
  case post=>
   rintro c st' ⟨rfl,la,z,rfl,h1,h3,h4,h5⟩;dsimp only;refine ca (ET (p:=fun i=>bey lt left key (g i)) ?hf hmono yw yw (fun i hi=>hmono i (hint+la) yw h3 h4) (fun i hi ab=>?_) fun k k1 k2 k3=>?_)
   case hf=>
    intro x lo hi Q' hn e1 e2 e3;by_cases ho:lo≥hi
    ·rw[cn ho];exact ci (e1 ho)
    ·rw[cm ho];have hm:lo+(hi-lo)/2<n:=yw
     refine ca (qW O hk hD (hg _ hm) (aa _ hm) ?_);dsimp only;cases hb2:bey lt left key (g (lo+(hi-lo)/2))with
     |true=>exact ci (e2 yw hb2)
     |false=>exact ci (e3 yw hb2)
   ·rcases h5 with h5|⟨h5,h6⟩
    ·omega
    ·exact ae (hint+z) i yw ab h6
   ·exact ci (q k k1 k2 k3)
 |false=>
  simp only[fg,if_false];refine ca (ng (jj (I:=fun k c st'=>st'=st/\∃la z,c=(none,la,z)/\la<z/\k+1<=z/\la<=hint/\bey lt left key (g (hint-la))=false)
   (Q:=fun c st'=>st'=st/\∃la z,c=(none,la,z)/\la<z/\la<=hint/\bey lt left key (g (hint-la))=false/\(hint+1<=z\/(z<=hint/\bey lt left key (g (hint-z))=true))) ?step ?fin ⟨rfl,0,1,rfl,yw,yw,yw,hb⟩) ?post)
  case step=>
   rintro k c st' _ af ⟨rfl,la,z,rfl,h1,h2,h3,h4⟩;by_cases ho:z≥hint+1
   ·rw[cn ho];exact ci ⟨rfl,la,z,rfl,h1,h3,h4,.inl ho⟩
   ·rw[cm ho];have hn:hint-z<n:=yw
    refine ca (qW O hk hD (hg _ hn) (aa _ hn) ?_);cases hb2:bey lt left key (g (hint-z))with
    |true=>exact ci ⟨rfl,la,z,rfl,h1,h3,h4,.inr ⟨yw,hb2⟩⟩
    |false=>exact ci ⟨rfl,z,2*z+1,rfl,yw,yw,yw,hb2⟩
  case fin=>
   rintro c st' ⟨rfl,la,z,rfl,h1,h2,h3,h4⟩;exact⟨rfl,la,z,rfl,h1,h3,h4,.inl yw⟩
  case post=>
   rintro c st' ⟨rfl,la,z,rfl,h1,h3,h4,h5⟩;dsimp only;refine ca (ET (p:=fun i=>bey lt left key (g i)) ?hf hmono yw yw (fun i hi=>?_) (fun i hi ab=>ae (hint-la) i yw ab h4) fun k k1 k2 k3=>?_)
   case hf=>
    intro x lo hi Q' hn e1 e2 e3;by_cases ho:lo≥hi
    ·rw[cn ho];exact ci (e1 ho)
    ·rw[cm ho];have hm:lo+(hi-lo)/2<n:=yw
     refine ca (qW O hk hD (hg _ hm) (aa _ hm) ?_);dsimp only;cases hb2:bey lt left key (g (lo+(hi-lo)/2))with
     |true=>exact ci (e2 yw hb2)
     |false=>exact ci (e3 yw hb2)
   ·rcases h5 with h5|⟨h5,h6⟩
    ·omega
    ·exact hmono i (hint-z) yw yw h6
   ·exact ci (q k k1 k2 k3)
def SrtL(lt:df->df->Bool)(l:List df):Prop:=l.Pairwise fun x y=>lt y x=false
structure MI(lt:df->df->Bool)(L0 out A B:List df):Prop where
 pm:(out++(A++B)).Perm L0
 so:SrtL lt out
 le:∀x∈out,∀y∈A++B,lt y x=false
 sa:SrtL lt A
 sb:SrtL lt B
theorem CM{l:List df}{x:df}(h:SrtL lt l)(k:∀y∈l,lt x y=false):SrtL lt (l++[x]):=by
 unfold SrtL at *;rw[lx];exact⟨h,yv,fun y m z mz=>by rw[mem_singleton.mp mz];exact k y m⟩
theorem MI.takeA{L0 out A B:List df}{x:df}(h:MI lt L0 out (x::A) B)(k:∀y∈B,lt y x=false):MI lt L0 (out++[x]) A B:=by
 have sa:=h.sa;unfold SrtL at sa;rw[re]at sa;refine⟨by rw[gn];exact h.pm,CM h.so fun y m=>h.le y m x yv,fun z mz y my=>?_,sa.2,h.sb⟩;rcases mem_append.mp mz with mz|mz
 ·exact h.le z mz y (by rcases mem_append.mp my with m|m<;>simp[m])
 ·rw[mem_singleton.mp mz];rcases mem_append.mp my with m|m
  ·exact sa.1 y m
  ·exact k y m
theorem MI.takeB{L0 out A B:List df}{y:df}(h:MI lt L0 out A (y::B))(k:∀x∈A,lt x y=false):MI lt L0 (out++[y]) A B:=by
 have sb:=h.sb;unfold SrtL at sb;rw[re]at sb;refine⟨?_,CM h.so fun x m=>h.le x m y yv,fun z mz x mx=>?_,h.sa,sb.2⟩
 ·refine .trans ?_ h.pm;rw[gn];refine List.Perm.append_left _ ?_;exact(List.perm_middle (a:=y) (l₁:=A) (l₂:=B)).symm
 ·rcases mem_append.mp mz with mz|mz
  ·exact h.le z mz x (by rcases mem_append.mp mx with m|m<;>simp[m])
  ·rw[mem_singleton.mp mz];rcases mem_append.mp mx with m|m
   ·exact k x m
   ·exact sb.1 x m
theorem MI.takesA{L0:List df}:∀{X out A B:List df},MI lt L0 out (X++A) B->(∀x∈X,∀y∈B,lt y x=false)->MI lt L0 (out++X) A B
 | [],out,A,B,h,_=>by simpa using h
 |x::X,out,A,B,h,k=>by
  have:=MI.takesA (MI.takeA h (k x dw)) fun z m=>k z (cz _ m);simpa using this
theorem MI.takesB{L0:List df}:∀{Y out A B:List df},MI lt L0 out A (Y++B)->(∀y∈Y,∀x∈A,lt x y=false)->MI lt L0 (out++Y) A B
 | [],out,A,B,h,_=>by simpa using h
 |y::Y,out,A,B,h,k=>by
  have:=MI.takesB (MI.takeB h (k y dw)) fun z m=>k z (cz _ m);simpa using this
def MDone(lt:df->df->Bool)(L0 l:List df):Prop:=l.Perm L0/\SrtL lt l
theorem MI.doneA{L0 out A:List df}(h:MI lt L0 out A []):MDone lt L0 (out++A):=by
 refine⟨by simpa using h.pm,?_⟩;unfold SrtL;rw[lx];exact⟨h.so,h.sa,fun x m y m'=>h.le x m y (by simpa using m')⟩
theorem MI.lastA{L0 out B:List df}{x:df}(h:MI lt L0 out [x] B)(k:∀y∈B,lt x y=false):MDone lt L0 (out++B++[x]):=by
 have h2:MI lt L0 (out++B) [x] []:=MI.takesB (B:=[]) (by simpa using h) fun y m z mz=>by rw[mem_singleton.mp mz];exact k y m
 exact h2.doneA
def sameSt(st st':iw):Prop:=kindOf st'=kindOf st/\ck st'=ck st/\fc st'=fc st/\ur st'=ur st
theorem sameSt.rfl'{st:iw}:sameSt st st:=⟨rfl,rfl,rfl,rfl⟩
theorem LtOk.irr(O:LtOk prog w A E s kd D lt){x:df}(h:D x):lt x x=false:=by
 cases e:lt x x with
 |false=>rfl
 |true=>rw[O.asym x x h h e]at e;cases e
theorem cG(O:LtOk prog w A E s kd D lt){l:List df}(h:SrtL lt l)(hD:∀x∈l,D x){i j:Nat}{x y:df}(ij:i<=j)(hx:l[i]?=some x)(hy:l[j]?=some y):lt y x=false:=by
 rcases Nat.lt_or_eq_of_le ij with h1|h1
 ·obtain⟨hi,ex⟩:=List.getElem?_eq_some_iff.mp hx;obtain⟨hj,ey⟩:=List.getElem?_eq_some_iff.mp hy;have:=pairwise_iff_getElem.mp h i j hi hj h1;rw[ex,ey]at this;exact this
 ·subst h1;rw[hx]at hy;cases hy;exact O.irr (hD x (bw hx))
theorem mW{l:List df}{i:Nat}{x:df}(h:l[i]?=some x):l.drop i=x::l.drop (i+1):=by
 obtain⟨hi,e⟩:=List.getElem?_eq_some_iff.mp h;rw[nc hi,e]
theorem cD{a:Array df}{i:Nat}(h:i<a.size):∃x,a[i]?=some x/\a.toList[i]?=some x:=⟨a[i],by simp[h],by simp[h]⟩
theorem iO{l:List df}{i:Nat}{y:df}(h:y∈l.drop i):∃j,i<=j/\l[j]?=some y:=by
 obtain⟨j,hj⟩:=mem_iff_getElem?.mp h;rw[uo]at hj;exact⟨i+j,yw,hj⟩
structure MInv(lt:df->df->Bool)(a b out:Array df)(ia ib:Nat):Prop where
 mi:MI lt (a.toList++b.toList) out.toList (a.toList.drop ia) (b.toList.drop ib)
 ha:ia+1<a.size
 hb:ib<b.size
section
variable {a b out:Array df}{ia ib:Nat}
theorem MInv.stepB(O:LtOk prog w A E s kd D lt)(q:∀x∈a.toList,D x)(ab:∀x∈b.toList,D x)(aa:SrtL lt a.toList){x y:df}(h:MInv lt a b out ia ib)(hx:a.toList[ia]?=some x)(hy:b.toList[ib]?=some y)(l:lt y x=true):
  MI lt (a.toList++b.toList) (out.push y).toList (a.toList.drop ia) (b.toList.drop (ib+1)):=by
 have m:=h.mi;rw[mW hy]at m;have:=m.takeB fun z mz=>by
  obtain⟨j,hj,ez⟩:=iO mz;have Dx:=q x (bw hx);have Dy:=ab y (bw hy);have Dz:=q z (bw ez);exact O.tr y x z Dy Dx Dz (O.asym y x Dy Dx l) (cG O aa q hj hx ez)
 simpa using this
theorem MInv.stepA(O:LtOk prog w A E s kd D lt)(ab:∀x∈a.toList,D x)(q:∀x∈b.toList,D x)(aa:SrtL lt b.toList){x y:df}(h:MInv lt a b out ia ib)(hx:a.toList[ia]?=some x)(hy:b.toList[ib]?=some y)(l:lt y x=false):
  MI lt (a.toList++b.toList) (out.push x).toList (a.toList.drop (ia+1)) (b.toList.drop ib):=by
 have m:=h.mi;rw[mW hx]at m;have:=m.takeA fun z mz=>by
  obtain⟨j,hj,ez⟩:=iO mz;exact O.tr x y z (ab x (bw hx)) (q y (bw hy)) (q z (bw ez)) l (cG O aa q hj hy ez)
 simpa using this
theorem mQ(a:Array df)(i:Nat):(a.extract i a.size).toList=a.toList.drop i:=by
 rw[ql,ld,lr yv]
theorem l8(q:ib=b.size)(m:MI lt (a.toList++b.toList) out.toList (a.toList.drop ia) (b.toList.drop ib)):MDone lt (a.toList++b.toList) (out++a.extract ia a.size++b.extract ib b.size).toList:=by
 have e:b.toList.drop ib=[]:=List.drop_of_length_le (by simp[q]);rw[kq,kq,mQ,mQ,e,kw];rw[e]at m;exact m.doneA
theorem GD(q:ia=a.size)(m:MI lt (a.toList++b.toList) out.toList (a.toList.drop ia) (b.toList.drop ib)):MDone lt (a.toList++b.toList) (out++a.extract ia a.size++b.extract ib b.size).toList:=by
 have e:a.toList.drop ia=[]:=List.drop_of_length_le (by simp[q]);rw[kq,kq,mQ,mQ,e,kw];rw[e]at m;have h2:MI lt (a.toList++b.toList) (out.toList++b.toList.drop ib) [] []:=MI.takesB (B:=[]) (by simpa using m) (fun y my x mx=>by cases mx);have:=h2.doneA;simpa using this
theorem lA(hl:∀x,a[a.size-1]?=some x->∀y∈b.toList,lt x y=false)(h1:ia+1=a.size)(m:MI lt (a.toList++b.toList) out.toList (a.toList.drop ia) (b.toList.drop ib)):MDone lt (a.toList++b.toList) (out++b.extract ib b.size++a.extract ia a.size).toList:=by
 obtain⟨x,e1,e2⟩:=cD (a:=a) (i:=ia) yw;have ed:a.toList.drop ia=[x]:=by
  rw[mW e2,List.drop_of_length_le (by simp;omega)]
 rw[ed]at m;have hx:=hl x (by rw[show a.size-1=ia by omega];exact e1);have:=m.lastA fun y my=>hx y (mem_of_mem_drop my);rw[kq,kq,mQ,mQ,ed];exact this
end
theorem gal(O:LtOk prog w A E s kd D lt){left:Bool}{key:df}{z:Array df}{base n hint:Nat}{Q:Option Nat->iw->Prop}{st:iw}(hk:kindOf st=kd)(Dk:D key)(hD:∀j,base<=j->j<base+n->∃x,z[j]?=some x/\D x)
  (hs:∀i j x y,base<=i->i<=j->j<base+n->z[i]?=some x->z[j]?=some y->lt y x=false) (hh:hint<n)
  (q:∀k,k<=n->(∀j x,base<=j->j<base+k->z[j]?=some x->bey lt left key x=true)->(∀j x,base+k<=j->j<base+n->z[j]?=some x->bey lt left key x=false)->Q (some k) st):wpS (model prog w) A E s (Ae left key z base n hint) Q st:=by
 have hg:∀i,i<n->z[base+i]?=some ((z[base+i]?).getD key):=fun i hi=>by
  obtain⟨x,e,_⟩:=hD (base+i) yw yw;rw[e];rfl
 have aa:∀i,i<n->D ((z[base+i]?).getD key):=fun i hi=>by
  obtain⟨x,e,d⟩:=hD (base+i) yw yw;rw[e];exact d
 refine GC O hk Dk (fun i=>(z[base+i]?).getD key) hg aa (fun i j ac hj hb=>?_) hh fun k k1 k2 k3=>q k k1 (fun j x h1 h2 e=>?_) fun j x h1 h2 e=>?_
 ·have s1:=hs (base+i) (base+j) _ _ yw yw yw (hg i yw) (hg j hj);have Di:=aa i yw;have Dj:=aa j hj
  try dsimp only at hb ⊢
  generalize (z[base+i]?).getD key=x at s1 Di ⊢;generalize (z[base+j]?).getD key=y at s1 Dj hb;cases left with
  |true=>
   unfold bey at hb ⊢;rw[cn rfl]at hb ⊢;cases hx:lt x key with
   |true=>rfl
   |false=>rw[O.tr key x y Dk Di Dj hx s1]at hb;cases hb
  |false=>
   unfold bey at hb ⊢;rw[cm dz]at hb ⊢;have ab:lt key y=false:=by simpa using hb
   rw[O.tr x y key Di Dj Dk s1 ab];rfl
 ·have:=k2 (j-base) yw
  try dsimp only at this
  rw[show base+(j-base)=j by omega,e]at this;exact this
 ·have:=k3 (j-base) yw yw
  try dsimp only at this
  rw[show base+(j-base)=j by omega,e]at this;exact this
theorem v8{a:Array df}{i k:Nat}:(a.extract i (i+k)).toList=(a.toList.drop i).take k:=by
 rw[ql,ld,Nat.add_sub_cancel_left]
theorem tY{l:List df}{i k:Nat}{x:df}(h:x∈(l.drop i).take k):∃j,i<=j/\j<i+k/\l[j]?=some x:=by
 obtain⟨j,hj⟩:=mem_iff_getElem?.mp h;rw[um]at hj;split at hj
 ·rw[uo]at hj;exact⟨i+j,yw,yw,hj⟩
 ·cases hj
theorem mP(a:Array df)(i:Nat):a.extract i (i+0) = #[]:=by
 apply Array.toList_inj.mp;rw[v8,take_zero]
section
variable {a b out:Array df}{ia ib k:Nat}{L0:List df}
theorem GR(m:MI lt L0 out.toList (a.toList.drop ia) (b.toList.drop ib))(h:∀j x,ia<=j->j<ia+k->a.toList[j]?=some x->∀y∈b.toList.drop ib,lt y x=false):MI lt L0 (out++a.extract ia (ia+k)).toList (a.toList.drop (ia+k)) (b.toList.drop ib):=by
 rw[kq,v8];refine MI.takesA ?_ fun x mx y my=>?_
 ·rw[<- List.drop_drop,oq];exact m
 ·obtain⟨j,h1,h2,e⟩:=tY mx;exact h j x h1 h2 e y my
theorem BO(m:MI lt L0 out.toList (a.toList.drop ia) (b.toList.drop ib))(h:∀j y,ib<=j->j<ib+k->b.toList[j]?=some y->∀x∈a.toList.drop ia,lt x y=false):MI lt L0 (out++b.extract ib (ib+k)).toList (a.toList.drop ia) (b.toList.drop (ib+k)):=by
 rw[kq,v8];refine MI.takesB ?_ fun x mx y my=>?_
 ·rw[<- List.drop_drop,oq];exact m
 ·obtain⟨j,h1,h2,e⟩:=tY mx;exact h j x h1 h2 e y my
theorem t0(m:MI lt L0 out.toList (a.toList.drop ia) (b.toList.drop ib)){x:df}(hx:a.toList[ia]?=some x)(h:∀y∈b.toList.drop ib,lt y x=false):MI lt L0 (out.push x).toList (a.toList.drop (ia+1)) (b.toList.drop ib):=by
 rw[mW hx]at m;have:=m.takeA h;simpa using this
theorem CP(m:MI lt L0 out.toList (a.toList.drop ia) (b.toList.drop ib)){y:df}(hy:b.toList[ib]?=some y)(h:∀x∈a.toList.drop ia,lt x y=false):MI lt L0 (out.push y).toList (a.toList.drop ia) (b.toList.drop (ib+1)):=by
 rw[mW hy]at m;have:=m.takeB h;simpa using this
end
theorem zY{a:Array df}{i:Nat}{x:df}:a[i]?=some x↔a.toList[i]?=some x:=by simp
theorem fin3{prog:gf}{w:iu}{A:iq}{E:bo->bq->Prop}{s:bq}{τ:Type}{P C:Prop}{_:Decidable P}{f g:StateT iw Sem τ}{Q':τ->iw->Prop}{st':iw}(hf:C->wpS (model prog w) A E s f Q' st')(hg:C->wpS (model prog w) A E s g Q' st')(h:C):wpS (model prog w) A E s (if P then f else g) Q' st':=by
 split
 ·exact hf h
 ·exact hg h
theorem J9(O:LtOk prog w A E s kd D lt){a b:Array df}{Q:Array df->iw->Prop}{st:iw}(hk:kindOf st=kd)(au:∀x∈a.toList,D x)(ay:∀x∈b.toList,D x)(ha:SrtL lt a.toList)(hb:SrtL lt b.toList)(aw:1<=a.size)(ax:1<=b.size)
  (h0:∀y,b[0]?=some y->∀x∈a.toList,lt x y=false) (hl:∀x,a[a.size-1]?=some x->∀y∈b.toList,lt x y=false)
  (q:∀(out:Array df) st',MDone lt (a.toList++b.toList) out.toList->sameSt st st'->Q out st'):wpS (model prog w) A E s (LB a b) Q st:=by
 refine ca (wpS_lift (lq ⟨rfl,?_⟩));obtain⟨y0,bh,bi⟩:=cD (a:=b) (i:=0) (by clear aw;omega);refine ca (zz bh ?_);have m0:MI lt (a.toList++b.toList) [] a.toList b.toList:=⟨qk _,qx,(fun x m=>by cases m),ha,hb⟩;have m1:MI lt (a.toList++b.toList) (#[y0]:Array df).toList (a.toList.drop 0) (b.toList.drop 1):=by
  have e:b.toList=y0::b.toList.drop 1:=by have:=mW bi;simpa using this
  have m2:MI lt (a.toList++b.toList) [] a.toList (y0::b.toList.drop 1):=by
   have:=m0
   conv at this=>arg 5;rw[e]
   exact this
  have:=m2.takeB (h0 y0 bh);simpa using this
 by_cases c1:1=b.size
 ·rw[cn (by simpa using c1)];exact ci (q _ _ (l8 c1 m1) sameSt.rfl')
 rw[cm (by simpa using c1)];by_cases c2:0+1=a.size
 ·rw[cn (by simpa using c2)];exact ci (q _ _ (lA hl c2 m1) sameSt.rfl')
 rw[cm (by simpa using c2)];refine ca (uw ?_);have bg:∀{out:Array df}{ia ib:Nat},MInv lt a b out ia ib->ia+ib<a.size+b.size:=fun h=>by have:=h.ha;have:=h.hb;(clear c2 c1 ax aw;omega)
 refine ca (ng (jj
  (I:=fun k c st'=>sameSt st st'/\∃out ia ib mg,c=(none,out,ia,ib,mg)/\MInv lt a b out ia ib/\k<ia+ib)
  (Q:=fun c st'=>sameSt st st'/\∃r rest,c=(some r,rest)/\MDone lt (a.toList++b.toList) r.toList) ?step ?fin ⟨sameSt.rfl',#[y0],0,1,_,rfl,⟨m1,by clear c1 ax;omega,by clear c2 aw;omega⟩,by clear c2 c1 ax aw;omega⟩) ?post)
 case fin=>
  rintro c st' ⟨a9,out,ia,ib,mg,rfl,hm,a5⟩;have:=bg hm
  (clear c2 c1 ax aw;omega)
 case post=>
  rintro c st' ⟨a9,r,rest,rfl,hd⟩;exact ci (q r st' hd a9)
 case step=>
  rintro k c st' _ a4 ⟨a9,out,ia,ib,mg,rfl,hm,a5⟩;refine ca (ng (jj
   (I:=fun j c st'=>sameSt st st'/\∃am an ao ac bc,c=(none,am,an,ao,ac,bc)/\MInv lt a b am an ao/\j+(ia+ib)<=an+ao)
   (Q:=fun c st'=>sameSt st st'/\((∃r rest,c=(some r,rest)/\MDone lt (a.toList++b.toList) r.toList)\/∃am an ao ac bc,c=(none,am,an,ao,ac,bc)/\MInv lt a b am an ao/\ia+ib<an+ao)) ?step1 ?fin1 ⟨a9,out,ia,ib,0,0,rfl,hm,by clear a5 a4 c2 c1 ax aw;omega⟩) ?post1)
  case fin1=>
   rintro c ba ⟨ak,am,an,ao,ac,bc,rfl,av,a2⟩;have:=bg av
   (clear a5 a4 c2 c1 ax aw;omega)
  case step1=>
   rintro j c ba _ hj ⟨ak,am,an,ao,ac,bc,rfl,av,a2⟩;obtain⟨y,ey,a0⟩:=cD (a:=b) (i:=ao) av.hb
   clear a4 ax a5 c2 c1 hj aw
   obtain⟨x,ex,ex'⟩:=cD (a:=a) (i:=an) (by have:=av.ha;(clear a2;omega));have Dx:=au x (bw ex');have Dy:=ay y (bw a0);have ai:kindOf ba=kd:=ak.1.trans hk;refine ca (zz ey (ca (zz ex (ca (O.ask y x ba _ Dy Dx ai ?_)))));cases hlt2:lt y x with
   |true=>
    have ms:=av.stepB O au ay ha ex' a0 hlt2;simp only[if_true];refine ca (zz ey ?_);by_cases c3:ao+1=b.size
    ·rw[cn (by simpa using c3)];exact ci ⟨ak,.inl ⟨_,_,rfl,l8 c3 ms⟩⟩
    ·rw[cm (by simpa using c3)];have ar:MInv lt a b (am.push y) an (ao+1):=⟨ms,av.ha,by have:=av.hb;(clear a2;omega)⟩;by_cases c4:bc+1≥mg
     ·rw[cn c4];exact ci ⟨ak,.inr ⟨_,_,_,_,_,rfl,ar,by clear c4 c3;omega⟩⟩
     ·rw[cm c4];exact ci ⟨ak,_,_,_,_,_,rfl,ar,by clear c4 c3;omega⟩
   |false=>
    have ms:=av.stepA O au ay hb ex' a0 hlt2;simp only[fg,if_false];refine ca (zz ex ?_);by_cases c3:an+1+1=a.size
    ·rw[cn (by simpa using c3)];exact ci ⟨ak,.inl ⟨_,_,rfl,lA hl c3 ms⟩⟩
    ·rw[cm (by simpa using c3)];have ar:MInv lt a b (am.push x) (an+1) ao:=⟨ms,by have:=av.ha;(clear a2;omega),av.hb⟩;by_cases c4:ac+1≥mg
     ·rw[cn c4];exact ci ⟨ak,.inr ⟨_,_,_,_,_,rfl,ar,by clear c4 c3;omega⟩⟩
     ·rw[cm c4];exact ci ⟨ak,_,_,_,_,_,rfl,ar,by clear c4 c3;omega⟩
  case post1=>
   rintro c ba ⟨ak,hc⟩;rcases hc with ⟨r,rest,rfl,hd⟩|⟨am,an,ao,ac,bc,rfl,av,a2⟩
   ·dsimp only;exact ci ⟨ak,_,_,rfl,hd⟩
   ·dsimp only;refine ca (wpS_lift (lq ⟨rfl,?_⟩));refine ca (ng (jj
     (I:=fun j c st'=>sameSt st st'/\∃aj ag ah a3 a7 a6,c=(none,aj,ag,ah,a3,a7,a6)/\MInv lt a b aj ag ah/\j+(an+ao)<=ag+ah)
     (Q:=fun c st'=>sameSt st st'/\((∃r rest,c=(some r,rest)/\MDone lt (a.toList++b.toList) r.toList)\/∃aj ag ah a3 a7 a6,c=(none,aj,ag,ah,a3,a7,a6)/\MInv lt a b aj ag ah/\an+ao<=ag+ah)) ?step2 ?az ⟨ak,am,an,ao,_,_,_,rfl,av,by clear a2 a5 a4 c2 c1 ax aw;omega⟩) ?post2)
    case az=>
     rintro c bd ⟨al,aj,ag,ah,a3,a7,a6,rfl,ar,aa⟩;have:=bg ar
     (clear a2 a5 a4 c2 c1 ax aw;omega)
    case post2=>
     rintro c bd ⟨al,hc⟩;rcases hc with ⟨r,rest,rfl,hd⟩|⟨aj,ag,ah,a3,a7,a6,rfl,ar,aa⟩
     ·dsimp only;exact ci ⟨al,_,_,rfl,hd⟩
     ·dsimp only;refine ca (ou (ci ⟨⟨al.1,al.2.1,al.2.2.1,al.2.2.2⟩,aj,ag,ah,_,rfl,ar,by clear a4 c2 c1 ax aw;omega⟩))
    case step2=>
     rintro j c bd _ hj ⟨al,aj,ag,ah,a3,a7,a6,rfl,ar,aa⟩;obtain⟨y,ey,a0⟩:=cD (a:=b) (i:=ah) ar.hb;have ae:=ar.ha;have ab:=ar.hb;have Dy:=ay y (bw a0);have aD:∀j,j<a.size->∃x,a[j]?=some x/\D x:=fun j hj=>by
      obtain⟨x,e,e'⟩:=cD (a:=a) hj;exact⟨x,e,au x (bw e')⟩
     have bD:∀j,j<b.size->∃x,b[j]?=some x/\D x:=fun j hj=>by
      obtain⟨x,e,e'⟩:=cD (a:=b) hj;exact⟨x,e,ay x (bw e')⟩
     dsimp only;have az:∀(P:Prop) (_:Decidable P) (f g:StateT iw Sem (ForInStep (Option (Array df)×Array df×Nat×Nat×Nat×Nat×Nat))) (Q':ForInStep (Option (Array df)×Array df×Nat×Nat×Nat×Nat×Nat)->iw->Prop) (st':iw),wpS (model prog w) A E s f Q' st'->wpS (model prog w) A E s g Q' st'->wpS (model prog w) A E s (if P then f else g) Q' st':=fun P _ f g Q' st' h1 h2=>by
      split
      ·exact h1
      ·exact h2
     refine fin3 (C:=?C3) ?f3 ?g3 ?h3
     case f3=>intro h;generalize a3-1=m0;revert m0;exact h
     case g3=>intro h;generalize a3=m0;revert m0;exact h
     intro m0
     clear a4 ax a5 c2 a2 c1 hj aw
     all_goals
      refine ca (ou ?_);refine ca (zz ey ?_);refine ca (gal O (al.1.trans hk) Dy (fun j h1 h2=>aD j (by clear h1 ab aa;omega)) (fun i j x z h1 h2 h3 e1 e2=>cG O ha au h2 (zY.mp e1) (zY.mp e2)) (by clear ab aa;omega) fun k1 ap g1 g2=>?_);dsimp only;have af:sameSt st bd:=al
      have bl:MI lt (a.toList++b.toList) (aj++a.extract ag (ag+k1)).toList (a.toList.drop (ag+k1)) (b.toList.drop ah):=GR ar.mi fun j x h1 h2 e z mz=>by
       have:=g1 j x h1 h2 (zY.mpr e);obtain⟨j2,aq,ez⟩:=iO mz;have l1:lt y x=false:=by simpa[bey]using this
       exact O.tr x y z (au x (bw e)) Dy (ay z (bw ez)) l1 (cG O hb ay aq a0 ez)
      have gt:∀x∈a.toList.drop (ag+k1),lt x y=false:=fun x mx=>by
       obtain⟨j2,aq,ex⟩:=iO mx;have a1:=(List.getElem?_eq_some_iff.mp ex).1;have:=g2 j2 x aq (by simp at a1;(clear aq ap ab ae aa;omega)) (zY.mpr ex);have l1:lt y x=true:=by simpa[bey]using this
       exact O.asym y x Dy (au x (bw ex)) l1
      have bj:k1=0->(aj++a.extract ag (ag+k1))=aj:=fun z=>by subst z;rw[mP,Array.append_empty]
      have go:∀(outA:Array df) (iaA:Nat) (mgA acA:Nat),MI lt (a.toList++b.toList) outA.toList (a.toList.drop iaA) (b.toList.drop ah)->(∀x∈a.toList.drop iaA,lt x y=false)->ag<=iaA->iaA+1<a.size->True:=fun _ _ _ _ _ _ _ _=>trivial;by_cases c5:k1>0
      ·rw[cn c5];by_cases c6:ag+k1+1=a.size
       ·rw[cn (by simpa using c6)];exact ci ⟨af,.inl ⟨_,_,rfl,lA hl c6 bl⟩⟩
       rw[cm (by simpa using c6)];by_cases c7:ag+k1=a.size
       ·rw[cn (by simpa using c7)];exact ci ⟨af,.inl ⟨_,_,rfl,GD c7 bl⟩⟩
       rw[cm (by simpa using c7)];refine ca (zz ey ?_);have mb:=CP bl a0 gt;by_cases d1:ah+1=b.size
       ·rw[cn (by simpa using d1)];exact ci ⟨af,.inl ⟨_,_,rfl,l8 d1 mb⟩⟩
       rw[cm (by simpa using d1)];obtain⟨x,ex,ex'⟩:=cD (a:=a) (i:=(ag+k1)) (by clear d1 c6 c5 ab aa;omega);have Dx:=au x (bw ex');refine ca (zz ex ?_);refine ca (gal O (al.1.trans hk) Dx (fun j h1 h2=>bD j (by clear h1 d1 c7 c6 c5 ap ae aa;omega)) (fun i j x z h1 h2 h3 e1 e2=>cG O hb ay h2 (zY.mp e1) (zY.mp e2)) (by clear c7 c6 c5 ap ae aa;omega) fun k2 ai f1 f2=>?_);dsimp only;have bb:=BO (k:=k2) mb fun j z h1 h2 e x2 bf=>by
        have:=f1 j z h1 h2 (zY.mpr e);obtain⟨j2,aq,a8⟩:=iO bf;have Dz:=ay z (bw e);have l1:lt z x=true:=by simpa[bey]using this
        exact O.tr z x x2 Dz Dx (au x2 (bw a8)) (O.asym z x Dz Dx l1) (cG O ha au aq ex' a8)
       have gb:∀z∈b.toList.drop (ah+1+k2),lt z x=false:=fun z mz=>by
        obtain⟨j2,aq,ez⟩:=iO mz;have a1:=(List.getElem?_eq_some_iff.mp ez).1;have:=f2 j2 z aq (by simp at a1;(clear aq ai d1 c7 c6 c5 ap ab ae aa;omega)) (zY.mpr ez);simpa[bey]using this
       by_cases d2:k2>0
       ·rw[cn d2];by_cases d3:ah+1+k2=b.size
        ·rw[cn (by simpa using d3)];exact ci ⟨af,.inl ⟨_,_,rfl,l8 d3 bb⟩⟩
        rw[cm (by simpa using d3)];refine ca (zz ex ?_);have mf:=t0 bb ex' gb;by_cases d4:(ag+k1)+1+1=a.size
        ·rw[cn (by simpa using d4)];exact ci ⟨af,.inl ⟨_,_,rfl,lA hl d4 mf⟩⟩
        rw[cm (by simpa using d4)]
        clear d2 c5 d1
        refine az _ _ _ _ _ _ ?_ ?_
        ·exact ci ⟨af,.inr ⟨_,_,_,_,_,_,rfl,⟨mf,by clear d3 ai ab aa;omega,by clear d4 c7 c6 ap ae aa;omega⟩,by clear d4 d3 ai c7 c6 ap ab ae;omega⟩⟩
        ·exact ci ⟨af,_,_,_,_,_,_,rfl,⟨mf,by clear d3 ai ab aa;omega,by clear d4 c7 c6 ap ae aa;omega⟩,by clear d4 d3 ai c7 c6 ap ab ae;omega⟩
       ·rw[cm d2];have be:k2=0:=by clear ai d1 c7 c6 c5 ap ab ae aa;omega
        subst be;have ee:∀o:Array df,o++b.extract (ah+1) (ah+1+0)=o:=fun o=>by rw[mP,Array.append_empty]
        rw[ee,vg]at bb;rw[vg]at gb;refine ca (zz ex ?_);have mf:=t0 bb ex' gb;by_cases d4:(ag+k1)+1+1=a.size
        ·rw[cn (by simpa using d4)];exact ci ⟨af,.inl ⟨_,_,rfl,lA hl d4 mf⟩⟩
        rw[cm (by simpa using d4)]
        clear d2 c5 ai
        refine az _ _ _ _ _ _ ?_ ?_
        ·exact ci ⟨af,.inr ⟨_,_,_,_,_,_,rfl,⟨mf,by clear d1 ab aa;omega,by clear d4 c7 c6 ap ae aa;omega⟩,by clear d4 d1 c7 c6 ap ab ae;omega⟩⟩
        ·exact ci ⟨af,_,_,_,_,_,_,rfl,⟨mf,by clear d1 ab aa;omega,by clear d4 c7 c6 ap ae aa;omega⟩,by clear d4 d1 c7 c6 ap ab ae;omega⟩
      ·rw[cm c5];have k0:k1=0:=by clear ap ab ae aa;omega
       subst k0;rw[bj rfl,vg]at bl;rw[vg]at gt;refine ca (zz ey ?_);have mb:=CP bl a0 gt;by_cases d1:ah+1=b.size
       ·rw[cn (by simpa using d1)];exact ci ⟨af,.inl ⟨_,_,rfl,l8 d1 mb⟩⟩
       rw[cm (by simpa using d1)]
       clear c5 ap
       obtain⟨x,ex,ex'⟩:=cD (a:=a) (i:=ag) (by clear d1 ab aa;omega);have Dx:=au x (bw ex');refine ca (zz ex ?_);refine ca (gal O (al.1.trans hk) Dx (fun j h1 h2=>bD j (by clear h1 d1 ae aa;omega)) (fun i j x z h1 h2 h3 e1 e2=>cG O hb ay h2 (zY.mp e1) (zY.mp e2)) (by clear ae aa;omega) fun k2 ai f1 f2=>?_);dsimp only;have bb:=BO (k:=k2) mb fun j z h1 h2 e x2 bf=>by
        have:=f1 j z h1 h2 (zY.mpr e);obtain⟨j2,aq,a8⟩:=iO bf;have Dz:=ay z (bw e);have l1:lt z x=true:=by simpa[bey]using this
        exact O.tr z x x2 Dz Dx (au x2 (bw a8)) (O.asym z x Dz Dx l1) (cG O ha au aq ex' a8)
       have gb:∀z∈b.toList.drop (ah+1+k2),lt z x=false:=fun z mz=>by
        obtain⟨j2,aq,ez⟩:=iO mz;have a1:=(List.getElem?_eq_some_iff.mp ez).1;have:=f2 j2 z aq (by simp at a1;(clear aq ai d1 ab ae aa;omega)) (zY.mpr ez);simpa[bey]using this
       by_cases d2:k2>0
       ·rw[cn d2];by_cases d3:ah+1+k2=b.size
        ·rw[cn (by simpa using d3)];exact ci ⟨af,.inl ⟨_,_,rfl,l8 d3 bb⟩⟩
        rw[cm (by simpa using d3)];refine ca (zz ex ?_);have mf:=t0 bb ex' gb;by_cases d4:ag+1+1=a.size
        ·rw[cn (by simpa using d4)];exact ci ⟨af,.inl ⟨_,_,rfl,lA hl d4 mf⟩⟩
        rw[cm (by simpa using d4)];refine az _ _ _ _ _ _ ?_ ?_
        ·exact ci ⟨af,.inr ⟨_,_,_,_,_,_,rfl,⟨mf,by clear d3 d2 ai d1 ab aa;omega,by clear d4 d2 d1 ae aa;omega⟩,by clear d4 d3 d2 ai d1 ab ae;omega⟩⟩
        ·exact ci ⟨af,_,_,_,_,_,_,rfl,⟨mf,by clear d3 d2 ai d1 ab aa;omega,by clear d4 d2 d1 ae aa;omega⟩,by clear d4 d3 d2 ai d1 ab ae;omega⟩
       ·rw[cm d2];have be:k2=0:=by clear ai d1 ab ae aa;omega
        subst be;have ee:∀o:Array df,o++b.extract (ah+1) (ah+1+0)=o:=fun o=>by rw[mP,Array.append_empty]
        rw[ee,vg]at bb;rw[vg]at gb;refine ca (zz ex ?_);have mf:=t0 bb ex' gb;by_cases d4:ag+1+1=a.size
        ·rw[cn (by simpa using d4)];exact ci ⟨af,.inl ⟨_,_,rfl,lA hl d4 mf⟩⟩
        rw[cm (by simpa using d4)];refine az _ _ _ _ _ _ ?_ ?_
        ·exact ci ⟨af,.inr ⟨_,_,_,_,_,_,rfl,⟨mf,by clear d2 ai d1 ab aa;omega,by clear d4 d2 ai ae aa;omega⟩,by clear d4 d2 ai d1 ab ae;omega⟩⟩
        ·exact ci ⟨af,_,_,_,_,_,_,rfl,⟨mf,by clear d2 ai d1 ab aa;omega,by clear d4 d2 ai ae aa;omega⟩,by clear d4 d2 ai d1 ab ae;omega⟩
def flt(lt:df->df->Bool):df->df->Bool:=fun x y=>lt y x
theorem MDone.rev{L0 l:List df}(h:MDone (flt lt) L0 l):MDone lt L0 l.reverse:=by
 refine⟨(List.reverse_perm l).trans h.1,?_⟩;unfold SrtL;rw[List.pairwise_reverse];exact h.2
theorem xV{l:List df}{i:Nat}{x:df}(h:l[i]?=some x):(l.take (i+1)).reverse=x::(l.take i).reverse:=by
 rw[take_add_one,h];simp
theorem jH{l:List df}{i:Nat}{y:df}(h:y∈(l.take i).reverse):∃j,j<i/\l[j]?=some y:=by
 obtain⟨j,hj⟩:=mem_iff_getElem?.mp (mem_reverse.mp h);rw[um]at hj;split at hj
 ·exact⟨j,by assumption,hj⟩
 ·cases hj
theorem mJ(a:Array df)(n:Nat):(a.extract 0 n).toList=a.toList.take n:=by
 rw[ql,ld];simp
theorem B1{l:List df}(h:SrtL lt l)(n:Nat):SrtL (flt lt) (l.take n).reverse:=by
 unfold SrtL;rw[List.pairwise_reverse];exact qm (List.take_sublist n l) h
section
variable {a b out:Array df}{na nb k:Nat}{L0:List df}
theorem yV(m:MI (flt lt) L0 out.toList (a.toList.take (na+1)).reverse (b.toList.take nb).reverse){x:df}(hx:a.toList[na]?=some x)(h:∀y∈(b.toList.take nb).reverse,lt x y=false):MI (flt lt) L0 (out.push x).toList (a.toList.take na).reverse (b.toList.take nb).reverse:=by
 rw[xV hx]at m;have:=m.takeA h;simpa using this
theorem BI(m:MI (flt lt) L0 out.toList (a.toList.take na).reverse (b.toList.take (nb+1)).reverse){y:df}(hy:b.toList[nb]?=some y)(h:∀x∈(a.toList.take na).reverse,lt y x=false):MI (flt lt) L0 (out.push y).toList (a.toList.take na).reverse (b.toList.take nb).reverse:=by
 rw[xV hy]at m;have:=m.takeB h;simpa using this
theorem uF{n:Nat}(hn:n=na+1)(m:MI (flt lt) L0 out.toList (a.toList.take n).reverse (b.toList.take nb).reverse){x:df}(hx:a.toList[na]?=some x)(h:∀y∈(b.toList.take nb).reverse,lt x y=false):MI (flt lt) L0 (out.push x).toList (a.toList.take na).reverse (b.toList.take nb).reverse:=by
 subst hn;exact yV m hx h
theorem FW{n:Nat}(hn:n=nb+1)(m:MI (flt lt) L0 out.toList (a.toList.take na).reverse (b.toList.take n).reverse){y:df}(hy:b.toList[nb]?=some y)(h:∀x∈(a.toList.take na).reverse,lt y x=false):MI (flt lt) L0 (out.push y).toList (a.toList.take na).reverse (b.toList.take nb).reverse:=by
 subst hn;exact BI m hy h
theorem B3{l:List df}{i n:Nat}(h:i<=n):(l.take n).reverse=((l.drop i).take (n-i)).reverse++(l.take i).reverse:=by
 rw[<- List.reverse_append];congr 1;have:=List.take_add (l:=l) (i:=i) (j:=n-i);rw[show i+(n-i)=n by omega]at this;exact this
theorem Ey(a:Array df){i n:Nat}(h:i<=n):(a.extract i n).reverse.toList=((a.toList.drop i).take (n-i)).reverse:=by
 rw[Array.toList_reverse,ql,ld]
theorem Gc(m:MI (flt lt) L0 out.toList (a.toList.take na).reverse (b.toList.take nb).reverse)(hk:k<=na)(h:∀j x,k<=j->j<na->a.toList[j]?=some x->∀y∈(b.toList.take nb).reverse,lt x y=false):MI (flt lt) L0 (out++(a.extract k na).reverse).toList (a.toList.take k).reverse (b.toList.take nb).reverse:=by
 rw[kq,Ey a hk];rw[B3 hk]at m;refine MI.takesA m fun x mx y my=>?_;obtain⟨j,h1,h2,e⟩:=tY (mem_reverse.mp mx);exact h j x h1 (by clear h1;omega) e y my
theorem DK(m:MI (flt lt) L0 out.toList (a.toList.take na).reverse (b.toList.take nb).reverse)(hk:k<=nb)(h:∀j y,k<=j->j<nb->b.toList[j]?=some y->∀x∈(a.toList.take na).reverse,lt y x=false):MI (flt lt) L0 (out++(b.extract k nb).reverse).toList (a.toList.take na).reverse (b.toList.take k).reverse:=by
 rw[kq,Ey b hk];rw[B3 hk]at m;refine MI.takesB m fun x mx y my=>?_;obtain⟨j,h1,h2,e⟩:=tY (mem_reverse.mp mx);exact h j x h1 yw e y my
theorem kP(h0:na=0)(m:MI (flt lt) L0 out.toList (a.toList.take na).reverse (b.toList.take nb).reverse):MDone lt L0 (a.extract 0 na++b.extract 0 nb++out.reverse).toList:=by
 subst h0;have h2:MI (flt lt) L0 (out.toList++(b.toList.take nb).reverse) [] []:=MI.takesB (B:=[]) (by simpa using m) (fun y my x mx=>by cases mx);have:=h2.doneA.rev;rw[kq,kq,mJ,mJ,Array.toList_reverse];simpa using this
theorem By(h0:nb=0)(m:MI (flt lt) L0 out.toList (a.toList.take na).reverse (b.toList.take nb).reverse):MDone lt L0 (a.extract 0 na++b.extract 0 nb++out.reverse).toList:=by
 subst h0;have h1:MI (flt lt) L0 out.toList (a.toList.take na).reverse []:=by simpa using m
 have:=h1.doneA.rev;rw[kq,kq,mJ,mJ,Array.toList_reverse];simpa using this
theorem mO(hf:∀y,b[0]?=some y->∀x∈a.toList,lt x y=false)(h1:nb=1)(q:1<=b.size)(m:MI (flt lt) L0 out.toList (a.toList.take na).reverse (b.toList.take nb).reverse):MDone lt L0 (b.extract 0 nb++a.extract 0 na++out.reverse).toList:=by
 subst h1;obtain⟨y,e1,e2⟩:=cD (a:=b) (i:=0) yw;have ed:(b.toList.take (0+1)).reverse=[y]:=by rw[xV e2];simp
 rw[show (1:Nat)=0+1 from rfl,ed]at m;have h2:MI (flt lt) L0 (out.toList++(a.toList.take na).reverse) [] [y]:=MI.takesA (A:=[]) (by simpa using m) fun x mx z mz=>by
  rw[mem_singleton.mp mz];exact hf y e1 x (mem_of_mem_take (mem_reverse.mp mx))
 have h3:MI (flt lt) L0 (out.toList++(a.toList.take na).reverse++[y]) [] []:=MI.takesB (B:=[]) (by simpa using h2) (fun y my x mx=>by cases mx);have:=h3.doneA.rev;have ee:b.toList.take 1=[y]:=by have:=congrArg List.reverse ed;simpa using this
 rw[kq,kq,mJ,mJ,Array.toList_reverse,ee];simpa using this
end
structure HInv(lt:df->df->Bool)(a b out:Array df)(na nb:Nat):Prop where
 mi:MI (flt lt) (a.toList++b.toList) out.toList (a.toList.take na).reverse (b.toList.take nb).reverse
 a0:0<na
 a1:na<=a.size
 b0:1<nb
 b1:nb<=b.size
theorem M6(O:LtOk prog w A E s kd D lt){a b:Array df}{Q:Array df->iw->Prop}{st:iw}(hk:kindOf st=kd)(aw:∀x∈a.toList,D x)(au:∀x∈b.toList,D x)(ha:SrtL lt a.toList)(hb:SrtL lt b.toList)(af:1<=a.size)(ab:1<=b.size)
  (h0:∀y,b[0]?=some y->∀x∈a.toList,lt x y=false) (hl:∀x,a[a.size-1]?=some x->∀y∈b.toList,lt x y=false)
  (q:∀(out:Array df) st',MDone lt (a.toList++b.toList) out.toList->sameSt st st'->Q out st'):wpS (model prog w) A E s (KF a b) Q st:=by
 refine ca (wpS_lift (lq ⟨rfl,?_⟩));obtain⟨x0,bf,bg⟩:=cD (a:=a) (i:=a.size-1) (by clear ab;omega);refine ca (zz bf ?_);have av:∀{τ:Type} (P:Prop) (_:Decidable P) (f g:StateT iw Sem τ) (Q':τ->iw->Prop) (st':iw),wpS (model prog w) A E s f Q' st'->wpS (model prog w) A E s g Q' st'->wpS (model prog w) A E s (if P then f else g) Q' st':=fun P _ f g Q' st' h1 h2=>by
  split
  ·exact h1
  ·exact h2
 have ta:a.toList.take a.size=a.toList:=lr yv;have tb:b.toList.take b.size=b.toList:=lr yv;have m0:MI (flt lt) (a.toList++b.toList) (#[]:Array df).toList (a.toList.take a.size).reverse (b.toList.take b.size).reverse:=by
  refine⟨?_,qx,(fun x m=>by cases m),B1 ha _,B1 hb _⟩;rw[ta,tb];exact(List.reverse_perm _).append (List.reverse_perm _)
 have m1:MI (flt lt) (a.toList++b.toList) (#[x0]:Array df).toList (a.toList.take (a.size-1)).reverse (b.toList.take b.size).reverse:=by
  have m2:=m0;rw[show a.size=a.size-1+1 by clear ab;omega]at m2;have:=yV m2 bg fun y my=>hl x0 bf y (mem_of_mem_take (mem_reverse.mp my));simpa using this
 by_cases c1:a.size-1=0
 ·rw[cn (by simpa using c1)];exact ci (q _ _ (kP c1 m1) sameSt.rfl')
 rw[cm (by simpa using c1)];by_cases c2:b.size=1
 ·rw[cn (by simpa using c2)];exact ci (q _ _ (mO h0 c2 ab m1) sameSt.rfl')
 rw[cm (by simpa using c2)];refine ca (uw ?_);refine ca (ng (jj (a:=0)
  (I:=fun k c st'=>sameSt st st'/\∃out na nb mg,c=(none,na,nb,out,mg)/\HInv lt a b out na nb/\na+nb+k<a.size+b.size)
  (Q:=fun c st'=>sameSt st st'/\∃(r:Array df),∃rest,c=(some r,rest)/\MDone lt (a.toList++b.toList) r.toList) ?step ?fin ⟨sameSt.rfl',#[x0],a.size-1,b.size,_,rfl,⟨m1,by clear c2 ab af;omega,by clear c2 c1 ab af;omega,by clear c1 af;omega,by clear c2 c1 ab af;omega⟩,by clear c2 c1 ab;omega⟩) ?post)
 case fin=>
  rintro c st' ⟨a8,out,na,nb,mg,rfl,hm,a4⟩
  (clear c2 c1 ab af;omega)
 case post=>
  rintro c st' ⟨a8,r,rest,rfl,hd⟩;exact ci (q r st' hd a8)
 case step=>
  rintro k c st' _ az ⟨a8,out,na,nb,mg,rfl,hm,a4⟩;refine ca (ng (jj (a:=0)
   (I:=fun j c st'=>sameSt st st'/\∃am ak al ac bc,c=(none,ak,al,am,ac,bc)/\HInv lt a b am ak al/\ak+al+j<=na+nb)
   (Q:=fun c st'=>sameSt st st'/\((∃(r:Array df),∃rest,c=(some r,rest)/\MDone lt (a.toList++b.toList) r.toList)\/∃am ak al ac bc,c=(none,ak,al,am,ac,bc)/\HInv lt a b am ak al/\ak+al<na+nb)) ?step1 ?fin1 ⟨a8,out,na,nb,0,0,rfl,hm,by clear a4 az c2 c1 ab af;omega⟩) ?post1)
  case fin1=>
   rintro c a9 ⟨an,am,ak,al,ac,bc,rfl,ax,aq⟩;have:=ax.a0
   (clear this az c2 c1 ab af;omega)
  case step1=>
   rintro j c a9 _ hj ⟨an,am,ak,al,ac,bc,rfl,ax,aq⟩;have z1:=ax.a0;have z2:=ax.a1;have z3:=ax.b0;have z4:=ax.b1;obtain⟨y,ey,a2⟩:=cD (a:=b) (i:=al-1) (by clear z3 z2 z1 aq hj a4 az c2 c1 af;omega);obtain⟨x,ex,ex'⟩:=cD (a:=a) (i:=ak-1) (by clear z4 z3 z1 aq hj a4 az c2 c1 ab;omega);have Dx:=aw x (bw ex');have Dy:=au y (bw a2);have ag:kindOf a9=kd:=an.1.trans hk;have mm:=ax.mi;refine ca (zz ey (ca (zz ex (ca (O.ask y x a9 _ Dy Dx ag ?_)))))
   clear az a4 c2 c1 hj af
   cases hlt2:lt y x with
   |true=>
    have ms:MI (flt lt) (a.toList++b.toList) (am.push x).toList (a.toList.take (ak-1)).reverse (b.toList.take al).reverse:=by
     rw[show ak=ak-1+1 by clear z4 z3 z2 aq ab;omega]at mm;exact yV mm ex' fun z mz=>by
      obtain⟨j2,ay,ez⟩:=jH mz;exact O.tr z y x (au z (bw ez)) Dy Dx (cG O hb au (by clear z4 z3 z2 z1 aq ab;omega) ez a2) (O.asym y x Dy Dx hlt2)
    simp only[if_true];refine ca (zz ex ?_);by_cases c3:ak-1=0
    ·rw[cn (by simpa using c3)];exact ci ⟨an,.inl ⟨_,_,rfl,kP c3 ms⟩⟩
    ·rw[cm (by simpa using c3)];have ar:HInv lt a b (am.push x) (ak-1) al:=⟨ms,by clear z4 z3 z2 z1 aq ab;omega,by clear c3 z4 z3 z1 aq ab;omega,z3,z4⟩;refine av _ _ _ _ _ _ ?_ ?_
     ·exact ci ⟨an,.inr ⟨_,_,_,_,_,rfl,ar,by clear c3 z4 z3 z2 ab;omega⟩⟩
     ·exact ci ⟨an,_,_,_,_,_,rfl,ar,by clear c3 z4 z3 z2 ab;omega⟩
   |false=>
    have ms:MI (flt lt) (a.toList++b.toList) (am.push y).toList (a.toList.take ak).reverse (b.toList.take (al-1)).reverse:=by
     rw[show al=al-1+1 by clear z4 z2 z1 aq ab;omega]at mm;exact BI mm a2 fun z mz=>by
      obtain⟨j2,ay,ez⟩:=jH mz;exact O.tr z x y (aw z (bw ez)) Dx Dy (cG O ha aw (by clear z4 z3 z2 z1 aq ab;omega) ez ex') hlt2
    simp only[fg,if_false];refine ca (zz ey ?_);by_cases c3:al-1=1
    ·rw[cn (by simpa using c3)];exact ci ⟨an,.inl ⟨_,_,rfl,mO h0 c3 ab ms⟩⟩
    ·rw[cm (by simpa using c3)];have ar:HInv lt a b (am.push y) ak (al-1):=⟨ms,z1,z2,by clear z4 z2 z1 aq ab;omega,by clear c3 z3 z2 z1 aq ab;omega⟩;refine av _ _ _ _ _ _ ?_ ?_
     ·exact ci ⟨an,.inr ⟨_,_,_,_,_,rfl,ar,by clear c3 z4 z2 z1 ab;omega⟩⟩
     ·exact ci ⟨an,_,_,_,_,_,rfl,ar,by clear c3 z4 z2 z1 ab;omega⟩
  case post1=>
   rintro c a9 ⟨an,hc⟩;rcases hc with ⟨r,rest,rfl,hd⟩|⟨am,ak,al,ac,bc,rfl,ax,aq⟩
   ·dsimp only;exact ci ⟨an,_,_,rfl,hd⟩
   ·dsimp only;refine ca (wpS_lift (lq ⟨rfl,?_⟩));refine ca (ng (jj (a:=0)
     (I:=fun j c st'=>sameSt st st'/\∃aj ao ae a3 a6 a5,c=(none,ao,ae,aj,a3,a6,a5)/\HInv lt a b aj ao ae/\ao+ae+j<=ak+al)
     (Q:=fun c st'=>sameSt st st'/\((∃(r:Array df),∃rest,c=(some r,rest)/\MDone lt (a.toList++b.toList) r.toList)\/∃aj ao ae a3 a6 a5,c=(none,ao,ae,aj,a3,a6,a5)/\HInv lt a b aj ao ae/\ao+ae<=ak+al)) ?step2 ?av ⟨an,am,ak,al,_,_,_,rfl,ax,by clear aq a4 az c2 c1 ab af;omega⟩) ?post2)
    case av=>
     rintro c ba ⟨ap,aj,ao,ae,a3,a6,a5,rfl,ar,aa⟩;have:=ar.a0;have:=ax.a1;have:=ax.b1
     (clear this az c2 c1 ab af;omega)
    case post2=>
     rintro c ba ⟨ap,hc⟩;rcases hc with ⟨r,rest,rfl,hd⟩|⟨aj,ao,ae,a3,a6,a5,rfl,ar,aa⟩
     ·dsimp only;exact ci ⟨ap,_,_,rfl,hd⟩
     ·dsimp only;refine ca (ou (ci ⟨⟨ap.1,ap.2.1,ap.2.2.1,ap.2.2.2⟩,aj,ao,ae,_,rfl,ar,by clear az c2 c1 ab af;omega⟩))
    case step2=>
     rintro j c ba _ hj ⟨ap,aj,ao,ae,a3,a6,a5,rfl,ar,aa⟩;have z1:=ar.a0;have z2:=ar.a1;have z3:=ar.b0;have z4:=ar.b1;obtain⟨y,ey,a2⟩:=cD (a:=b) (i:=ae-1) (by clear z3 z2 z1 aa hj aq a4 az c2 c1 af;omega);have Dy:=au y (bw a2);have aD:∀j,j<a.size->∃x,a[j]?=some x/\D x:=fun j hj=>by
      obtain⟨x,e,e'⟩:=cD (a:=a) hj;exact⟨x,e,aw x (bw e')⟩
     have bD:∀j,j<b.size->∃x,b[j]?=some x/\D x:=fun j hj=>by
      obtain⟨x,e,e'⟩:=cD (a:=b) hj;exact⟨x,e,au x (bw e')⟩
     dsimp only;refine fin3 (C:=?C3) ?f3 ?g3 ?h3
     case f3=>intro h;generalize a3-1=m0;revert m0;exact h
     case g3=>intro h;generalize a3=m0;revert m0;exact h
     intro m0
     clear az a4 c2 aq c1 hj
     all_goals
      refine ca (ou ?_);refine ca (zz ey ?_);refine ca (gal O (ap.1.trans hk) Dy (fun j h1 h2=>aD j (by clear h1 z4 z3 z1 aa ab af;omega)) (fun i j x z h1 h2 h3 e1 e2=>cG O ha aw h2 (zY.mp e1) (zY.mp e2)) (by clear z4 z3 z2 aa ab af;omega) fun k1 ai g1 g2=>?_);dsimp only;have ah:sameSt st ba:=ap;have bl:MI (flt lt) (a.toList++b.toList) (aj++(a.extract k1 ao).reverse).toList (a.toList.take k1).reverse (b.toList.take ae).reverse:=Gc ar.mi ai fun j x h1 h2 e z mz=>by
       clear aa z4 ai ab af z1 z3 z2
       have:=g2 j x (by clear h2;omega) (by clear h1;omega) (zY.mpr e);obtain⟨j2,ay,ez⟩:=jH mz;have Dx:=aw x (bw e);have l1:lt y x=true:=by simpa[bey]using this
       exact O.tr z y x (au z (bw ez)) Dy Dx (cG O hb au (by clear h2 h1;omega) ez a2) (O.asym y x Dy Dx l1)
      have gt:∀x∈(a.toList.take k1).reverse,lt y x=false:=fun x mx=>by
       obtain⟨j2,ay,ex⟩:=jH mx;have:=g1 j2 x (by clear ay ai z4 z3 z2 z1 aa ab af;omega) (by clear ai z4 z3 z2 z1 aa ab af;omega) (zY.mpr ex);simpa[bey]using this
      by_cases c5:ao-k1>0
      ·rw[cn c5];by_cases c6:k1=0
       ·rw[cn (by simpa using c6)];exact ci ⟨ah,.inl ⟨_,_,rfl,kP c6 bl⟩⟩
       rw[cm (by simpa using c6)];refine ca (zz ey ?_);have mb:MI (flt lt) (a.toList++b.toList) ((aj++(a.extract k1 ao).reverse).push y).toList (a.toList.take k1).reverse (b.toList.take (ae-1)).reverse:=FW (by clear c6 c5 ai z4 z2 z1 aa ab af;omega) bl a2 gt;by_cases d1:ae-1=1
       ·rw[cn (by simpa using d1)];exact ci ⟨ah,.inl ⟨_,_,rfl,mO h0 d1 ab mb⟩⟩
       rw[cm (by simpa using d1)];obtain⟨x,ex,ex'⟩:=cD (a:=a) (i:=k1-1) (by clear d1 c6 c5 z4 z3 z1 aa ab;omega);have Dx:=aw x (bw ex');refine ca (zz ex ?_);refine ca (gal O (ap.1.trans hk) Dx (fun j h1 h2=>bD j (by clear h1 d1 c6 c5 ai z3 z2 z1 aa ab af;omega)) (fun i j x z h1 h2 h3 e1 e2=>cG O hb au h2 (zY.mp e1) (zY.mp e2)) (by clear d1 c6 c5 ai z4 z2 z1 aa ab af;omega) fun k2 ag f1 f2=>?_);dsimp only;have bb:=DK (k:=k2) mb ag fun j z h1 h2 e x2 be=>by
        clear c5 aa z4 ai ab ag af z1 z3 c6 d1 z2
        have:=f2 j z (by clear h2;omega) (by clear h1;omega) (zY.mpr e);obtain⟨j2,ay,a7⟩:=jH be;have Dz:=au z (bw e);have l1:lt z x=false:=by simpa[bey]using this
        exact O.tr x2 x z (aw x2 (bw a7)) Dx Dz (cG O ha aw (by clear h2 h1;omega) a7 ex') l1
       have gb:∀z∈(b.toList.take k2).reverse,lt x z=false:=fun z mz=>by
        obtain⟨j2,ay,ez⟩:=jH mz;have:=f1 j2 z (by clear ay ag d1 c6 c5 ai z4 z3 z2 z1 aa ab af;omega) (by clear ag d1 c6 c5 ai z4 z3 z2 z1 aa ab af;omega) (zY.mpr ez);have l1:lt z x=true:=by simpa[bey]using this
        exact O.asym z x (au z (bw ez)) Dx l1
       by_cases d2:ae-1-k2>0
       ·rw[cn d2];by_cases d3:k2=1
        ·rw[cn (by simpa using d3)];exact ci ⟨ah,.inl ⟨_,_,rfl,mO h0 d3 ab bb⟩⟩
        rw[cm (by simpa using d3)];by_cases d5:k2=0
        ·rw[cn (by simpa using d5)];exact ci ⟨ah,.inl ⟨_,_,rfl,By d5 bb⟩⟩
        rw[cm (by simpa using d5)];refine ca (zz ex ?_);have mf:MI (flt lt) (a.toList++b.toList) (((aj++(a.extract k1 ao).reverse).push y++(b.extract k2 (ae-1)).reverse).push x).toList (a.toList.take (k1-1)).reverse (b.toList.take k2).reverse:=uF (by clear d5 d3 d2 ag d1 c5 ai z4 z3 z2 z1 aa ab af;omega) bb ex' gb;by_cases d4:k1-1=0
        ·rw[cn (by simpa using d4)];exact ci ⟨ah,.inl ⟨_,_,rfl,kP d4 mf⟩⟩
        rw[cm (by simpa using d4)]
        clear d2 c5 ab af z3 c6 d1
        refine av _ _ _ _ _ _ ?_ ?_
        ·exact ci ⟨ah,.inr ⟨_,_,_,_,_,_,rfl,⟨mf,by clear d5 d3 ag ai z4 z2 z1 aa;omega,by clear d4 d5 d3 ag z4 z1 aa;omega,by clear d4 ag ai z4 z2 z1 aa;omega,by clear d4 d5 d3 ai z2 z1 aa;omega⟩,by clear d4 d5 d3 z4 z2 z1;omega⟩⟩
        ·exact ci ⟨ah,_,_,_,_,_,_,rfl,⟨mf,by clear d5 d3 ag ai z4 z2 z1 aa;omega,by clear d4 d5 d3 ag z4 z1 aa;omega,by clear d4 ag ai z4 z2 z1 aa;omega,by clear d4 d5 d3 ai z2 z1 aa;omega⟩,by clear d4 d5 d3 z4 z2;omega⟩
       ·rw[cm d2];have bd:k2=ae-1:=by clear d1 c6 c5 ai z4 z3 z2 z1 aa ab af;omega
        subst bd;have ee:∀o:Array df,o++(b.extract (ae-1) (ae-1)).reverse=o:=fun o=>by
         have:b.extract (ae-1) (ae-1+0) = #[]:=mP b _;rw[vg]at this;rw[this];simp
        rw[ee]at bb;refine ca (zz ex ?_);have mf:MI (flt lt) (a.toList++b.toList) (((aj++(a.extract k1 ao).reverse).push y).push x).toList (a.toList.take (k1-1)).reverse (b.toList.take (ae-1)).reverse:=uF (by clear d2 ag d1 c5 ai z4 z3 z2 z1 aa ab af;omega) bb ex' gb;by_cases d4:k1-1=0
        ·rw[cn (by simpa using d4)];exact ci ⟨ah,.inl ⟨_,_,rfl,kP d4 mf⟩⟩
        rw[cm (by simpa using d4)]
        clear d2 c5 ab ag af c6
        refine av _ _ _ _ _ _ ?_ ?_
        ·exact ci ⟨ah,.inr ⟨_,_,_,_,_,_,rfl,⟨mf,by clear d1 ai z4 z3 z2 z1 aa;omega,by clear d4 d1 z4 z3 z1 aa;omega,by clear d4 ai z4 z2 z1 aa;omega,by clear d4 d1 ai z3 z2 z1 aa;omega⟩,by clear d4 d1 z4 z3 z2 z1;omega⟩⟩
        ·exact ci ⟨ah,_,_,_,_,_,_,rfl,⟨mf,by clear d1 ai z4 z3 z2 z1 aa;omega,by clear d4 d1 z4 z3 z1 aa;omega,by clear d4 ai z4 z2 z1 aa;omega,by clear d4 d1 ai z3 z2 z1 aa;omega⟩,by clear d4 d1 z4 z3 z2;omega⟩
      ·rw[cm c5];have k0:k1=ao:=by clear z4 z3 z2 z1 aa ab af;omega
       subst k0;have bh:∀o:Array df,o++(a.extract k1 k1).reverse=o:=fun o=>by
        have:a.extract k1 (k1+0) = #[]:=mP a k1;rw[vg]at this;rw[this];simp
       rw[bh]at bl;refine ca (zz ey ?_);have mb:MI (flt lt) (a.toList++b.toList) (aj.push y).toList (a.toList.take k1).reverse (b.toList.take (ae-1)).reverse:=FW (by clear c5 ai z2 z1 aa z4 ab af;omega) bl a2 gt;by_cases d1:ae-1=1
       ·rw[cn (by simpa using d1)];exact ci ⟨ah,.inl ⟨_,_,rfl,mO h0 d1 ab mb⟩⟩
       rw[cm (by simpa using d1)];obtain⟨x,ex,ex'⟩:=cD (a:=a) (i:=k1-1) (by clear d1 c5 ai z1 aa z4 z3 ab;omega);have Dx:=aw x (bw ex');refine ca (zz ex ?_)
       clear c5 ai af
       refine ca (gal O (ap.1.trans hk) Dx (fun j h1 h2=>bD j (by clear h1 d1 z2 z1 aa z3 ab;omega)) (fun i j x z h1 h2 h3 e1 e2=>cG O hb au h2 (zY.mp e1) (zY.mp e2)) (by clear d1 z2 z1 aa z4 ab;omega) fun k2 ag f1 f2=>?_);dsimp only;have bb:=DK (k:=k2) mb ag fun j z h1 h2 e x2 be=>by
        clear aa z4 ab ag z1 z3 d1 z2
        have:=f2 j z (by clear h2;omega) (by clear h1;omega) (zY.mpr e);obtain⟨j2,ay,a7⟩:=jH be;have Dz:=au z (bw e);have l1:lt z x=false:=by simpa[bey]using this
        exact O.tr x2 x z (aw x2 (bw a7)) Dx Dz (cG O ha aw (by clear h2 h1;omega) a7 ex') l1
       have gb:∀z∈(b.toList.take k2).reverse,lt x z=false:=fun z mz=>by
        obtain⟨j2,ay,ez⟩:=jH mz;have:=f1 j2 z (by clear ay ag d1 z2 z1 aa z4 z3 ab;omega) (by clear ag d1 z2 z1 aa z4 z3 ab;omega) (zY.mpr ez);have l1:lt z x=true:=by simpa[bey]using this
        exact O.asym z x (au z (bw ez)) Dx l1
       by_cases d2:ae-1-k2>0
       ·rw[cn d2];by_cases d3:k2=1
        ·rw[cn (by simpa using d3)];exact ci ⟨ah,.inl ⟨_,_,rfl,mO h0 d3 ab bb⟩⟩
        rw[cm (by simpa using d3)];by_cases d5:k2=0
        ·rw[cn (by simpa using d5)];exact ci ⟨ah,.inl ⟨_,_,rfl,By d5 bb⟩⟩
        rw[cm (by simpa using d5)];refine ca (zz ex ?_);have mf:MI (flt lt) (a.toList++b.toList) ((aj.push y++(b.extract k2 (ae-1)).reverse).push x).toList (a.toList.take (k1-1)).reverse (b.toList.take k2).reverse:=uF (by clear d5 d3 d2 ag d1 z2 aa z4 z3 ab;omega) bb ex' gb;by_cases d4:k1-1=0
        ·rw[cn (by simpa using d4)];exact ci ⟨ah,.inl ⟨_,_,rfl,kP d4 mf⟩⟩
        rw[cm (by simpa using d4)]
        clear d2 ab z1 d1
        refine av _ _ _ _ _ _ ?_ ?_
        ·exact ci ⟨ah,.inr ⟨_,_,_,_,_,_,rfl,⟨mf,by clear d5 d3 ag z2 aa z4 z3;omega,by clear d4 d5 d3 ag aa z4 z3;omega,by clear d4 ag z2 aa z4 z3;omega,by clear d4 d5 d3 z2 aa z3;omega⟩,by clear d4 d5 d3 z2 z4 z3;omega⟩⟩
        ·exact ci ⟨ah,_,_,_,_,_,_,rfl,⟨mf,by clear d5 d3 ag z2 aa z4 z3;omega,by clear d4 d5 d3 ag aa z4 z3;omega,by clear d4 ag z2 aa z4 z3;omega,by clear d4 d5 d3 z2 aa z3;omega⟩,by clear d4 d5 d3 z2 z4;omega⟩
       ·rw[cm d2];have bd:k2=ae-1:=by clear d1 z2 z1 aa z4 z3 ab;omega
        subst bd;have ee:∀o:Array df,o++(b.extract (ae-1) (ae-1)).reverse=o:=fun o=>by
         have:b.extract (ae-1) (ae-1+0) = #[]:=mP b _;rw[vg]at this;rw[this];simp
        rw[ee]at bb;refine ca (zz ex ?_);have mf:MI (flt lt) (a.toList++b.toList) ((aj.push y).push x).toList (a.toList.take (k1-1)).reverse (b.toList.take (ae-1)).reverse:=uF (by clear d2 ag d1 z2 aa z4 z3 ab;omega) bb ex' gb;by_cases d4:k1-1=0
        ·rw[cn (by simpa using d4)];exact ci ⟨ah,.inl ⟨_,_,rfl,kP d4 mf⟩⟩
        rw[cm (by simpa using d4)]
        clear d2 ab ag z1
        refine av _ _ _ _ _ _ ?_ ?_
        ·exact ci ⟨ah,.inr ⟨_,_,_,_,_,_,rfl,⟨mf,by clear d1 z2 aa z4 z3;omega,by clear d4 d1 aa z4 z3;omega,by clear d4 z2 aa z4;omega,by clear d4 d1 z2 aa z3;omega⟩,by clear d4 d1 z2 z4 z3;omega⟩⟩
        ·exact ci ⟨ah,_,_,_,_,_,_,rfl,⟨mf,by clear d1 z2 aa z4 z3;omega,by clear d4 d1 aa z4 z3;omega,by clear d4 z2 aa z4;omega,by clear d4 d1 z2 aa z3;omega⟩,by clear d4 d1 z2 z4;omega⟩
def G(xs:Array df)(i:Nat):df:=(xs[i]?).getD (.none,.none)
theorem xM{xs:Array df}{i:Nat}(h:i<xs.size):xs[i]?=some (G xs i):=by unfold G;simp[h]
def Sg(lt:df->df->Bool)(xs:Array df)(lo hi:Nat):Prop:=∀i j,lo<=i->i<=j->j<hi->lt (G xs j) (G xs i)=false
structure Tb(kd:sx)(D:df->Prop)(a₀:Array df)(lo:Nat)(st0 st:iw):Prop where
 kd:kindOf st=kd
 fl:ur st=none
 pm:(ck st).Perm a₀
 pe:fc st=fc st0
 lo:∀i,i<lo->G (ck st) i=G (ck st0) i
 d:∀x∈a₀.toList,D x
section
variable {a₀:Array df}{lo:Nat}{st0 st st':iw}
theorem Tb.size(h:Tb kd D a₀ lo st0 st):(ck st).size=a₀.size:=h.pm.size_eq
theorem Tb.at(h:Tb kd D a₀ lo st0 st){i:Nat}(hi:i<a₀.size):(ck st)[i]?=some (G (ck st) i):=xM (by rw[h.size];exact hi)
theorem Tb.dd(h:Tb kd D a₀ lo st0 st){i:Nat}(hi:i<a₀.size):D (G (ck st) i):=by
 have e:=h.at hi;have m:G (ck st) i∈(ck st).toList:=bw (by rw[<- zY];exact e);exact h.d _ ((Array.perm_iff_toList_perm.mp h.pm).mem_iff.mp m)
theorem fI(O:LtOk prog w A E s kd D lt)(h:Tb kd D a₀ lo st0 st){i j:Nat}{Q:Option Bool->iw->Prop}(hi:i<a₀.size)(hj:j<a₀.size)(q:Q (some (lt (G (ck st) i) (G (ck st) j))) st):wpS (model prog w) A E s (ltAt' i j) Q st:=by
 rw[ltAt'_eq];refine ca (uw ?_);refine ca (zz (h.at hi) (ca (zz (h.at hj) ?_)));exact O.ask _ _ _ _ (h.dd hi) (h.dd hj) h.kd q
theorem kZ{xs:Array df}{i j k:Nat}(hj:j<=xs.size):G (mirror xs i j ((j-i)/2)) k=if i<=k/\k<j then G xs (i+j-1-k)else G xs k:=by
 unfold G;rw[getElem?_mirror_all hj];split<;>rfl
theorem yJ{xs:Array df}{src d k:Nat}(hs:src<xs.size)(hd:d<=src):G (bubble xs src d) k=if k=src-d then G xs src else if src-d<k/\k<=src then G xs (k-1)else G xs k:=by
 unfold G;rw[getElem?_bubble hs d hd];split
 ·rfl
 ·split<;>rfl
theorem Tb.mirror(h:Tb kd D a₀ lo st0 st){i j:Nat}(hi:lo<=i)(hj:j<=a₀.size):Tb kd D a₀ lo st0 (qp st (mirror (ck st) i j ((j-i)/2))):=by
 refine⟨h.kd,h.fl,(mirror_perm _ _ _ _).trans h.pm,h.pe,fun k hk=>?_,h.d⟩;show G (PyProof.Rows.mirror (ck st) i j ((j-i)/2)) k=_;rw[kZ (by rw[h.size];exact hj),cm yw];exact h.lo k hk
theorem Tb.bubble(h:Tb kd D a₀ lo st0 st){src d:Nat}(hs:src<a₀.size)(hd:d<=src)(hl:lo<=src-d):Tb kd D a₀ lo st0 (qp st (bubble (ck st) src d)):=by
 refine⟨h.kd,h.fl,(bubble_perm _ _ _).trans h.pm,h.pe,fun k hk=>?_,h.d⟩;show G (PyProof.Rows.bubble (ck st) src d) k=_;rw[yJ (by rw[h.size];exact hs) hd,cm yw,cm yw];exact h.lo k hk
theorem iG{i j:Nat}{Q:Unit->iw->Prop}(q:Q () (qp st (mirror (ck st) i j ((j-i)/2)))):wpS (model prog w) A E s (reverseSlice' i j) Q st:=by
 rw[reverseSlice'_eq];exact ou q
theorem Sg.more(O:LtOk prog w A E s kd D lt)(h:Tb kd D a₀ lo st0 st){l n:Nat}(hn:n<a₀.size)(hl:l<n)(hs:Sg lt (ck st) l n)(h1:lt (G (ck st) n) (G (ck st) (n-1))=false):Sg lt (ck st) l (n+1):=fun i j hi q hj=>by
 by_cases e:j<n
 ·exact hs i j hi q e
 ·have ej:j=n:=yw
  subst ej;by_cases e2:i=j
  ·rw[e2];exact O.irr (h.dd hn)
  ·exact O.tr _ (G (ck st) (j-1)) _ (h.dd yw) (h.dd yw) (h.dd hn) (hs i (j-1) hi yw yw) h1
theorem Sg.one(O:LtOk prog w A E s kd D lt)(h:Tb kd D a₀ lo st0 st){l:Nat}(hn:l<a₀.size):Sg lt (ck st) l (l+1):=fun i j hi q hj=>by
 have e1:i=l:=by clear hn;omega
 have e2:j=l:=by clear e1 hn;omega
 rw[e1,e2];exact O.irr (h.dd hn)
def Fg(lt:df->df->Bool)(xs:Array df)(lo hi:Nat):Prop:=∀i j,lo<=i->i<=j->j<hi->lt (G xs i) (G xs j)=false
theorem sL{xs:Array df}{l n:Nat}(hn:n<=xs.size)(hs:Fg lt xs l n):Sg lt (mirror xs l n ((n-l)/2)) l n:=fun i j hi q hj=>by
 rw[kZ hn,kZ hn,cn (by clear hn;omega),cn (by clear hn;omega)];exact hs _ _ (by clear q hi hn;omega) (by clear hj hi hn;omega) (by clear q hn;omega)
end
def Eg(lt:df->df->Bool)(xs:Array df)(lo hi:Nat):Prop:=∀i j,lo<=i->i<hi->lo<=j->j<hi->lt (G xs i) (G xs j)=false
theorem qB{xs:Array df}{l i n:Nat}(hn:n<=xs.size)(hl:l<=i)(hf:Fg lt xs l n)(he:Eg lt xs i n):Fg lt (mirror xs i n ((n-i)/2)) l n:=fun p q hp z hq=>by
 rw[kZ hn,kZ hn]
 clear hl hn
 by_cases h1:i<=p
 ·rw[cn (by clear hp;omega),cn (by clear hp;omega)];exact he _ _ (by clear h1 hp;omega) (by clear z hp;omega) (by clear h1 z hp;omega) (by clear hp;omega)
 ·rw[cm (by clear hq z hp;omega)];by_cases h2:i<=q
  ·rw[cn (by clear h1 z hp;omega)];exact hf _ _ hp (by clear h2 z hp;omega) (by clear h1 z hp;omega)
  ·rw[cm (by clear h1 hq z hp;omega)];exact hf p q hp z hq
theorem yG{xs:Array df}{i n k:Nat}(hn:n<=xs.size)(hk:n<=k):G (mirror xs i n ((n-i)/2)) k=G xs k:=by
 rw[kZ hn,cm (by clear hn;omega)]
theorem yF{xs:Array df}{i n:Nat}(hn:n<=xs.size)(hi:i<n):G (mirror xs i n ((n-i)/2)) (n-1)=G xs i:=by
 rw[kZ hn,cn (by clear hn;omega)];congr 1
 (clear hn;omega)
theorem iW(O:LtOk prog w A E s kd D lt){a₀:Array df}{lo:Nat}{st0 st:iw}(h:Tb kd D a₀ lo st0 st){l n:Nat}(hn:n<a₀.size)(hl:l<n)(hs:Fg lt (ck st) l n)(h1:lt (G (ck st) (n-1)) (G (ck st) n)=false):Fg lt (ck st) l (n+1):=fun i j hi q hj=>by
 by_cases e:j<n
 ·exact hs i j hi q e
 ·have ej:j=n:=yw
  subst ej;by_cases e2:i=j
  ·rw[e2];exact O.irr (h.dd hn)
  ·exact O.tr _ (G (ck st) (j-1)) _ (h.dd hn) (h.dd yw) (h.dd yw) h1 (hs i (j-1) hi yw yw)
theorem Ir(O:LtOk prog w A E s kd D lt){a₀:Array df}{lo ae:Nat}{st0 st:iw}{Q:Option Nat->iw->Prop}(h:Tb kd D a₀ lo st0 st)(hn:lo+ae<=a₀.size)(h1:1<=ae)
  (q:∀m st',Tb kd D a₀ lo st0 st'->1<=m->m<=ae->Sg lt (ck st') lo (lo+m)->Q (some m) st'):wpS (model prog w) A E s (countRun' lo ae) Q st:=by
 refine ca (ng (jj (a:=1)
  (I:=fun k c st'=>st'=st/\c=(none,k)/\Sg lt (ck st) lo (lo+k))
  (Q:=fun c st'=>st'=st/\∃n,c=(none,n)/\1<=n/\n<=ae/\Sg lt (ck st) lo (lo+n)/\(n=ae\/lt (G (ck st) (lo+n)) (G (ck st) (lo+n-1))=true)) ?step ?fin ⟨rfl,rfl,Sg.one O h yw⟩) ?post)
 case fin=>
  rintro c st' ⟨rfl,rfl,hs⟩;rw[show max 1 ae=ae by clear hn;omega]at hs ⊢;exact⟨rfl,ae,rfl,h1,dh _,hs,.inl rfl⟩
 case step=>
  rintro k c st' z aa ⟨rfl,rfl,hs⟩;refine ca (fI O h (i:=lo+k) (j:=lo+k-1) (by clear z h1;omega) (by clear z h1;omega) ?_);cases e:lt (G (ck st') (lo+k)) (G (ck st') (lo+k-1))with
  |true=>
   simp only[if_true];exact ci ⟨rfl,k,rfl,z,by clear z h1 hn;omega,hs,.inr e⟩
  |false=>
   simp only[fg,if_false];refine ci ⟨rfl,rfl,?_⟩;exact Sg.more (n:=lo+k) O h (by clear z h1;omega) (by clear aa h1 hn;omega) hs e
 case post=>
  rintro c st' ⟨rfl,n,rfl,n1,n2,hs,al⟩;dsimp only;by_cases hnn:n=ae
  ·rw[cn (by simpa using hnn)];exact ci (q n st' h n1 n2 hs)
  rw[cm (by simpa using hnn)];have aq:=al.resolve_left hnn;by_cases hgt:n>1
  ·rw[cn hgt];refine ca (fI O h (i:=lo) (j:=lo+n-1) (by clear hgt hnn al n2 n1;omega) (by clear hgt hnn al n1;omega) ?_);cases e0:lt (G (ck st') lo) (G (ck st') (lo+n-1))with
   |true=>
    simp only[if_true];exact ci (q n st' h n1 n2 hs)
   |false=>
    simp only[fg,if_false];have hsz:lo+n<=(ck st').size:=by rw[h.size];(clear hgt hnn al n1 h1;omega)
    have hal:∀p q,lo<=p->p<lo+n->lo<=q->q<lo+n->lt (G (ck st') p) (G (ck st') q)=false:=fun p q p1 p2 q1 q2=>by
     have s1:=hs lo q (dh _) q1 q2
     clear al hnn hgt hsz
     have s2:=hs p (lo+n-1) p1 (by clear q2 q1 p1 n2 n1 h1 hn;omega) (by clear q2 q1 p2 p1 n2 h1 hn;omega);have d0:=h.dd (i:=lo) (by clear q2 q1 p2 p1 n2 n1;omega);have dn:=h.dd (i:=lo+n-1) (by clear q2 q1 p2 p1 n1;omega);have dp:=h.dd (i:=p) (by clear q2 q1 p1 n1 h1;omega);have dq:=h.dd (i:=q) (by clear q1 p2 p1 n1 h1;omega);have s3:=hs q (lo+n-1) q1 (by clear q1 p2 p1 n2 n1 h1 hn;omega) (by clear q2 q1 p2 p1 n2 h1 hn;omega);have s4:=hs lo p (dh _) p1 p2;by_cases hpq:p<=q
     ·exact O.tr _ (G (ck st') lo) _ dq d0 dp (O.tr _ (G (ck st') (lo+n-1)) _ dq dn d0 s3 e0) s4
     ·exact hs q p q1 (by clear q2 q1 p2 p1 n2 n1 h1 hn;omega) p2
    have hT:=h.mirror (i:=lo) (j:=lo+n) (dh _) (by clear hsz hgt hnn al n1 h1;omega);have hF:Fg lt (ck (qp st' (mirror (ck st') lo (lo+n) ((lo+n-lo)/2)))) lo (lo+(n+1)):=by
     clear al hgt
     have ar:Fg lt (ck st') lo (lo+n):=fun p q p1 pq q2=>hal p q p1 (by clear p1 hsz hnn n2 n1 h1 hn;omega) (by clear q2 hsz hnn n2 n1 h1 hn;omega) q2;have au:=qB hsz (dh _) ar fun p q p1 p2 q1 q2=>hal p q p1 p2 q1 q2;refine iW (n:=lo+n) O hT (by clear hsz n1 h1;omega) (by clear hsz hnn n2 h1 hn;omega) au ?_;show lt (G (mirror (ck st') lo (lo+n) _) (lo+n-1)) (G (mirror (ck st') lo (lo+n) _) (lo+n))=false;rw[yG hsz (dh _),yF hsz (by clear hsz hnn n2 h1 hn;omega)];have d1:=h.dd (i:=lo+n) (by clear hsz n1 h1;omega);have d2:=h.dd (i:=lo+n-1) (by clear hsz hnn n1;omega);exact O.tr _ _ _ d1 d2 (h.dd (by clear hsz hnn n2 n1;omega)) (O.asym _ _ d1 d2 aq) e0
    refine ca (iG ?_)
    revert hT hF
    generalize (qp st' (mirror (ck st') lo (lo+n) ((lo+n-lo)/2)))=stA;intro hT hF;refine ca (wpS_lift (lq ⟨rfl,?_⟩));refine ca (ng (jj (a:=n+1)
     (I:=fun k c st'=>Tb kd D a₀ lo st0 st'/\∃ac,c=(none,k,ac)/\Fg lt (ck st') lo (lo+k)/\ac+1<=k/\Eg lt (ck st') (lo+k-(ac+1)) (lo+k))
     (Q:=fun c st'=>Tb kd D a₀ lo st0 st'/\∃m ac,c=(none,m,ac)/\1<=m/\m<=ae/\Fg lt (ck st') lo (lo+m)/\ac+1<=m/\Eg lt (ck st') (lo+m-(ac+1)) (lo+m)) ?step2 ?fin2 ⟨hT,0,rfl,hF,by clear hsz hgt hnn al n2 n1 h1 hn;omega,fun i j h1 h2 h3 h4=>by
      have e1:i=j:=by clear hsz hgt hnn al n2 n1 hn;omega
      rw[e1];exact O.irr (hT.dd (by clear e1 h3 h2 h1 hsz hgt al n1;omega))⟩) ?post2)
    case fin2=>
     rintro c ag ⟨af,ac,rfl,ak,ab,aj⟩;rw[show max (n+1) ae=ae by clear ab hsz hgt al n1 h1 hn;omega]at ak ab aj ⊢;exact⟨af,ae,ac,rfl,by clear ab hsz hgt hnn al n2 n1 hn;omega,dh _,ak,ab,aj⟩
    case step2=>
     rintro k c ag z aa ⟨af,ac,rfl,ak,ab,aj⟩
     clear al n2 hnn hgt n1
     refine ca (fI O af (i:=lo+k) (j:=lo+k-1) (by clear ab z hsz h1;omega) (by clear ab z hsz h1;omega) ?_);have hsz:lo+k<=(ck ag).size:=by rw[af.size];(clear ab z hsz h1;omega)
     cases e:lt (G (ck ag) (lo+k)) (G (ck ag) (lo+k-1))with
     |true=>
      simp only[if_true];by_cases hq0:ac>0
      ·rw[cn hq0];have an:=af.mirror (i:=lo+k-(ac+1)) (j:=lo+k) (by clear hq0 hsz aa z h1 hn;omega) (by clear hq0 hsz ab z h1;omega);refine ca (iG (ci ⟨an,0,rfl,?_,by clear hq0 hsz ab aa z h1 hn;omega,fun i j h1 h2 h3 h4=>by
        have e1:i=j:=by clear hq0 hsz ab aa z hn;omega
        rw[e1];exact O.irr (an.dd (by clear e1 h3 h2 h1 hq0 hsz ab z;omega))⟩))
       refine iW (n:=lo+k) O an (by clear hq0 hsz ab z h1;omega) (by clear hq0 hsz ab aa h1 hn;omega) (qB hsz (by clear hq0 hsz aa z h1 hn;omega) ak aj) ?_;show lt (G (mirror (ck ag) (lo+k-(ac+1)) (lo+k) _) (lo+k-1)) (G (mirror (ck ag) (lo+k-(ac+1)) (lo+k) _) (lo+k))=false;rw[yG hsz (dh _),yF hsz (by clear hq0 hsz ab aa h1 hn;omega)]
       clear ab hsz hq0 h1
       have d1:=af.dd (i:=lo+k) (by clear z;omega);have d2:=af.dd (i:=lo+k-1) (by clear z;omega);have d3:=af.dd (i:=lo+k-(ac+1)) (by clear z;omega);exact O.tr _ _ _ d1 d2 d3 (O.asym _ _ d1 d2 e) (aj _ _ (by clear aa z hn;omega) (by clear aa hn;omega) (by clear aa z hn;omega) (by clear aa hn;omega))
      ·rw[cm hq0]
       clear ab hsz hq0
       refine ci ⟨af,0,rfl,?_,by clear aa z h1 hn;omega,fun i j h1 h2 h3 h4=>by
        have e1:i=j:=by clear aa z hn;omega
        rw[e1];exact O.irr (af.dd (by clear e1 h3 h2 h1 z;omega))⟩
       exact iW (n:=lo+k) O af (by clear z h1;omega) (by clear aa h1 hn;omega) ak (O.asym _ _ (af.dd (by clear z h1;omega)) (af.dd (by clear z h1;omega)) e)
     |false=>
      simp only[fg,if_false];refine ca (fI O af (i:=lo+k-1) (j:=lo+k) (by clear hsz ab z h1;omega) (by clear hsz ab z h1;omega) ?_);cases e2:lt (G (ck ag) (lo+k-1)) (G (ck ag) (lo+k))with
      |true=>
       simp only[if_true];exact ci ⟨af,k,ac,rfl,by clear hsz ab aa h1 hn;omega,by clear hsz ab z h1 hn;omega,ak,ab,aj⟩
      |false=>
       simp only[fg,if_false];refine ci ⟨af,ac+1,rfl,iW (n:=lo+k) O af (by clear hsz ab z h1;omega) (by clear hsz ab aa h1 hn;omega) ak e2,by clear hsz aa z h1 hn;omega,fun i j h1 h2 h3 h4=>?_⟩
       clear ab hsz
       have dk:=af.dd (i:=lo+k) (by clear h4 h3 h2 h1 z;omega);have dl:=af.dd (i:=lo+k-1) (by clear h4 h3 h2 h1 z;omega);by_cases z1:i=lo+k
       ·rw[z1];by_cases z2:j=lo+k
        ·rw[z2];exact O.irr dk
        ·exact O.tr _ _ _ (af.dd (by clear z2 z1 h3 h2 h1 z;omega)) dl dk (aj _ _ (by clear z2 z1 h4 h3 h2 h1 aa z hn;omega) (by clear z2 z1 h4 h3 h2 h1 aa hn;omega) (by clear z2 z1 h4 h2 h1 aa z hn;omega) (by clear z1 h3 h2 h1 aa z hn;omega)) e
       ·by_cases z2:j=lo+k
        ·rw[z2];exact O.tr _ _ _ dk dl (af.dd (by clear z2 z1 h4 h3 h1 z;omega)) e2 (aj _ _ (by clear z2 z1 h4 h3 h2 aa z hn;omega) (by clear z2 h4 h3 h1 aa z hn;omega) (by clear z2 z1 h4 h3 h2 h1 aa z hn;omega) (by clear z2 z1 h4 h3 h2 h1 aa hn;omega))
        ·exact aj i j (by clear z2 z1 h4 h3 h2 aa z hn;omega) (by clear z2 h4 h3 h1 aa z hn;omega) (by clear z2 z1 h4 h2 h1 aa z hn;omega) (by clear z1 h3 h2 h1 aa z hn;omega)
    case post2=>
     rintro c ag ⟨af,m,ac,rfl,m1,m2,ak,ab,aj⟩
     clear al n2 hnn hgt n1
     have hsz:lo+m<=(ck ag).size:=by rw[af.size];(clear ab m1 hsz h1;omega)
     have an:=af.mirror (i:=lo+m-(ac+1)) (j:=lo+m) (by clear hsz m2 m1 h1 hn;omega) (by clear hsz ab m1 h1;omega);have ao:=qB hsz (by clear hsz m2 m1 h1 hn;omega) ak aj;by_cases hq0:ac>0
     ·rw[cn hq0];refine ca (iG ?_);have ai:=an.mirror (i:=lo) (j:=lo+m) (dh _) (by clear hq0 hsz ab m1 h1;omega);have am:Sg lt (ck (qp (qp ag (mirror (ck ag) (lo+m-(ac+1)) (lo+m) ((lo+m-(lo+m-(ac+1)))/2))) (mirror (mirror (ck ag) (lo+m-(ac+1)) (lo+m) ((lo+m-(lo+m-(ac+1)))/2)) lo (lo+m) ((lo+m-lo)/2)))) lo (lo+m):=sL (by rw[mirror_size];exact hsz) ao;refine ca (iG ?_)
      revert ai am
      generalize (qp (qp ag (mirror (ck ag) (lo+m-(ac+1)) (lo+m) ((lo+m-(lo+m-(ac+1)))/2))) (mirror (mirror (ck ag) (lo+m-(ac+1)) (lo+m) ((lo+m-(lo+m-(ac+1)))/2)) lo (lo+m) ((lo+m-lo)/2)))=st4;intro ai am;refine ca (ng (jj (a:=m)
       (I:=fun k c st'=>st'=st4/\c=(none,k)/\Sg lt (ck st4) lo (lo+k))
       (Q:=fun c st'=>st'=st4/\∃n,c=(none,n)/\1<=n/\n<=ae/\Sg lt (ck st4) lo (lo+n)) ?step3 ?fin3 ⟨rfl,rfl,am⟩) ?post3)
      case fin3=>
       rintro c ah ⟨rfl,rfl,hs⟩;rw[show max m ae=ae by clear hq0 hsz ab m1 h1 hn;omega]at hs ⊢;exact⟨rfl,ae,rfl,by clear hq0 hsz ab m2 m1 hn;omega,dh _,hs⟩
      case step3=>
       rintro k c ah z aa ⟨rfl,rfl,hs⟩
       clear ab hsz hq0 m2 h1
       refine ca (fI O ai (i:=lo+k) (j:=lo+k-1) (by clear z m1;omega) (by clear z m1;omega) ?_);cases e:lt (G (ck ah) (lo+k)) (G (ck ah) (lo+k-1))with
       |true=>
        simp only[if_true];exact ci ⟨rfl,k,rfl,by clear aa hn;omega,by clear z m1 hn;omega,hs⟩
       |false=>
        simp only[fg,if_false];exact ci ⟨rfl,rfl,Sg.more (n:=lo+k) O ai (by clear z m1;omega) (by clear aa hn;omega) hs e⟩
      case post3=>
       rintro c ah ⟨rfl,n',rfl,p1,p2,hs⟩;exact ci (q n' ah ai p1 p2 hs)
     ·rw[cm hq0];have ai:=af.mirror (i:=lo) (j:=lo+m) (dh _) (by clear hq0 hsz ab m1 h1;omega);have am:Sg lt (ck (qp ag (mirror (ck ag) lo (lo+m) ((lo+m-lo)/2)))) lo (lo+m):=sL hsz ak;refine ca (iG ?_)
      revert ai am
      generalize (qp ag (mirror (ck ag) lo (lo+m) ((lo+m-lo)/2)))=st4;intro ai am;refine ca (ng (jj (a:=m)
       (I:=fun k c st'=>st'=st4/\c=(none,k)/\Sg lt (ck st4) lo (lo+k))
       (Q:=fun c st'=>st'=st4/\∃n,c=(none,n)/\1<=n/\n<=ae/\Sg lt (ck st4) lo (lo+n)) ?step3 ?fin3 ⟨rfl,rfl,am⟩) ?post3)
      case fin3=>
       rintro c ah ⟨rfl,rfl,hs⟩;rw[show max m ae=ae by clear hq0 hsz ab m1 h1 hn;omega]at hs ⊢;exact⟨rfl,ae,rfl,by clear hq0 hsz ab m2 m1 hn;omega,dh _,hs⟩
      case step3=>
       rintro k c ah z aa ⟨rfl,rfl,hs⟩
       clear ab hsz hq0 m2 h1
       refine ca (fI O ai (i:=lo+k) (j:=lo+k-1) (by clear z m1;omega) (by clear z m1;omega) ?_);cases e:lt (G (ck ah) (lo+k)) (G (ck ah) (lo+k-1))with
       |true=>
        simp only[if_true];exact ci ⟨rfl,k,rfl,by clear aa hn;omega,by clear z m1 hn;omega,hs⟩
       |false=>
        simp only[fg,if_false];exact ci ⟨rfl,rfl,Sg.more (n:=lo+k) O ai (by clear z m1;omega) (by clear aa hn;omega) hs e⟩
      case post3=>
       rintro c ah ⟨rfl,n',rfl,p1,p2,hs⟩;exact ci (q n' ah ai p1 p2 hs)
  ·rw[cm hgt];have ap:n=1:=by clear hnn al n2 h1 hn;omega
   have hT:=h;have hF:Fg lt (ck st') lo (lo+(n+1)):=by
    subst ap
    clear al hgt n2 n1
    refine iW (n:=lo+1) O h yw (by clear hnn h1 hn;omega) (fun p q p1 pq q2=>?_) (O.asym _ _ (h.dd yw) (h.dd (by clear hnn;omega)) aq);have e1:p=q:=by clear hnn h1 hn;omega
    rw[e1];exact O.irr (h.dd (by clear e1 pq p1 hnn;omega))
   refine ca (wpS_lift (lq ⟨rfl,?_⟩))
   clear al hgt n1 ap
   refine ca (ng (jj (a:=n+1)
    (I:=fun k c st'=>Tb kd D a₀ lo st0 st'/\∃ac,c=(none,k,ac)/\Fg lt (ck st') lo (lo+k)/\ac+1<=k/\Eg lt (ck st') (lo+k-(ac+1)) (lo+k))
    (Q:=fun c st'=>Tb kd D a₀ lo st0 st'/\∃m ac,c=(none,m,ac)/\1<=m/\m<=ae/\Fg lt (ck st') lo (lo+m)/\ac+1<=m/\Eg lt (ck st') (lo+m-(ac+1)) (lo+m)) ?step2 ?fin2 ⟨hT,0,rfl,hF,by clear hnn n2 h1 hn;omega,fun i j h1 h2 h3 h4=>by
     have e1:i=j:=by clear hnn n2 hn;omega
     rw[e1];exact O.irr (hT.dd (by clear e1 h3 h2 h1;omega))⟩) ?post2)
   case fin2=>
    rintro c ag ⟨af,ac,rfl,ak,ab,aj⟩;rw[show max (n+1) ae=ae by clear ab h1 hn;omega]at ak ab aj ⊢;exact⟨af,ae,ac,rfl,by clear ab hnn n2 hn;omega,dh _,ak,ab,aj⟩
   case step2=>
    rintro k c ag z aa ⟨af,ac,rfl,ak,ab,aj⟩
    clear n2 hnn
    refine ca (fI O af (i:=lo+k) (j:=lo+k-1) (by clear ab z h1;omega) (by clear ab z h1;omega) ?_);have hsz:lo+k<=(ck ag).size:=by rw[af.size];(clear ab z h1;omega)
    cases e:lt (G (ck ag) (lo+k)) (G (ck ag) (lo+k-1))with
    |true=>
     simp only[if_true];by_cases hq0:ac>0
     ·rw[cn hq0];have an:=af.mirror (i:=lo+k-(ac+1)) (j:=lo+k) (by clear hq0 hsz aa z h1 hn;omega) (by clear hq0 hsz ab z h1;omega);refine ca (iG (ci ⟨an,0,rfl,?_,by clear hq0 hsz ab aa z h1 hn;omega,fun i j h1 h2 h3 h4=>by
       have e1:i=j:=by clear hq0 hsz ab aa z hn;omega
       rw[e1];exact O.irr (an.dd (by clear e1 h3 h2 h1 hq0 hsz ab z;omega))⟩))
      refine iW (n:=lo+k) O an (by clear hq0 hsz ab z h1;omega) (by clear hq0 hsz ab aa h1 hn;omega) (qB hsz (by clear hq0 hsz aa z h1 hn;omega) ak aj) ?_;show lt (G (mirror (ck ag) (lo+k-(ac+1)) (lo+k) _) (lo+k-1)) (G (mirror (ck ag) (lo+k-(ac+1)) (lo+k) _) (lo+k))=false;rw[yG hsz (dh _),yF hsz (by clear hq0 hsz ab aa h1 hn;omega)]
      clear ab hsz hq0 h1
      have d1:=af.dd (i:=lo+k) (by clear z;omega);have d2:=af.dd (i:=lo+k-1) (by clear z;omega);have d3:=af.dd (i:=lo+k-(ac+1)) (by clear z;omega);exact O.tr _ _ _ d1 d2 d3 (O.asym _ _ d1 d2 e) (aj _ _ (by clear aa z hn;omega) (by clear aa hn;omega) (by clear aa z hn;omega) (by clear aa hn;omega))
     ·rw[cm hq0]
      clear ab hsz hq0
      refine ci ⟨af,0,rfl,?_,by clear aa z h1 hn;omega,fun i j h1 h2 h3 h4=>by
       have e1:i=j:=by clear aa z hn;omega
       rw[e1];exact O.irr (af.dd (by clear e1 h3 h2 h1 z;omega))⟩
      exact iW (n:=lo+k) O af (by clear z h1;omega) (by clear aa h1 hn;omega) ak (O.asym _ _ (af.dd (by clear z h1;omega)) (af.dd (by clear z h1;omega)) e)
    |false=>
     simp only[fg,if_false];refine ca (fI O af (i:=lo+k-1) (j:=lo+k) (by clear hsz ab z h1;omega) (by clear hsz ab z h1;omega) ?_);cases e2:lt (G (ck ag) (lo+k-1)) (G (ck ag) (lo+k))with
     |true=>
      simp only[if_true];exact ci ⟨af,k,ac,rfl,by clear hsz ab aa h1 hn;omega,by clear hsz ab z h1 hn;omega,ak,ab,aj⟩
     |false=>
      simp only[fg,if_false];refine ci ⟨af,ac+1,rfl,iW (n:=lo+k) O af (by clear hsz ab z h1;omega) (by clear hsz ab aa h1 hn;omega) ak e2,by clear hsz aa z h1 hn;omega,fun i j h1 h2 h3 h4=>?_⟩
      clear ab hsz
      have dk:=af.dd (i:=lo+k) (by clear h4 h3 h2 h1 z;omega);have dl:=af.dd (i:=lo+k-1) (by clear h4 h3 h2 h1 z;omega);by_cases z1:i=lo+k
      ·rw[z1]
       clear h2 z1 h1
       by_cases z2:j=lo+k
       ·rw[z2];exact O.irr dk
       ·exact O.tr _ _ _ (af.dd (by clear z2 h3 z;omega)) dl dk (aj _ _ (by clear z2 h4 h3 aa z hn;omega) (by clear z2 h4 h3 aa hn;omega) (by clear z2 h4 aa z hn;omega) (by clear h3 aa z hn;omega)) e
      ·by_cases z2:j=lo+k
       ·rw[z2];exact O.tr _ _ _ dk dl (af.dd (by clear z2 z1 h4 h3 h1 z;omega)) e2 (aj _ _ (by clear z2 z1 h4 h3 h2 aa z hn;omega) (by clear z2 h4 h3 h1 aa z hn;omega) (by clear z2 z1 h4 h3 h2 h1 aa z hn;omega) (by clear z2 z1 h4 h3 h2 h1 aa hn;omega))
       ·exact aj i j (by clear z2 z1 h4 h3 h2 aa z hn;omega) (by clear z2 h4 h3 h1 aa z hn;omega) (by clear z2 z1 h4 h2 h1 aa z hn;omega) (by clear z1 h3 h2 h1 aa z hn;omega)
   case post2=>
    rintro c ag ⟨af,m,ac,rfl,m1,m2,ak,ab,aj⟩;have hsz:lo+m<=(ck ag).size:=by rw[af.size];(clear ab m1 hnn n2 h1;omega)
    have an:=af.mirror (i:=lo+m-(ac+1)) (j:=lo+m) (by clear hsz m2 m1 hnn n2 h1 hn;omega) (by clear hsz ab m1 hnn n2 h1;omega);have ao:=qB hsz (by clear hsz m2 m1 hnn n2 h1 hn;omega) ak aj
    clear n2 ab hnn
    by_cases hq0:ac>0
    ·rw[cn hq0];refine ca (iG ?_);have ai:=an.mirror (i:=lo) (j:=lo+m) (dh _) (by clear hq0 hsz m1 h1;omega);have am:Sg lt (ck (qp (qp ag (mirror (ck ag) (lo+m-(ac+1)) (lo+m) ((lo+m-(lo+m-(ac+1)))/2))) (mirror (mirror (ck ag) (lo+m-(ac+1)) (lo+m) ((lo+m-(lo+m-(ac+1)))/2)) lo (lo+m) ((lo+m-lo)/2)))) lo (lo+m):=sL (by rw[mirror_size];exact hsz) ao;refine ca (iG ?_)
     revert ai am
     generalize (qp (qp ag (mirror (ck ag) (lo+m-(ac+1)) (lo+m) ((lo+m-(lo+m-(ac+1)))/2))) (mirror (mirror (ck ag) (lo+m-(ac+1)) (lo+m) ((lo+m-(lo+m-(ac+1)))/2)) lo (lo+m) ((lo+m-lo)/2)))=st4;intro ai am;refine ca (ng (jj (a:=m)
      (I:=fun k c st'=>st'=st4/\c=(none,k)/\Sg lt (ck st4) lo (lo+k))
      (Q:=fun c st'=>st'=st4/\∃n,c=(none,n)/\1<=n/\n<=ae/\Sg lt (ck st4) lo (lo+n)) ?step3 ?fin3 ⟨rfl,rfl,am⟩) ?post3)
     case fin3=>
      rintro c ah ⟨rfl,rfl,hs⟩;rw[show max m ae=ae by clear hq0 hsz m1 h1 hn;omega]at hs ⊢;exact⟨rfl,ae,rfl,by clear hq0 hsz m2 m1 hn;omega,dh _,hs⟩
     case step3=>
      rintro k c ah z aa ⟨rfl,rfl,hs⟩
      clear hsz hq0 m2 h1
      refine ca (fI O ai (i:=lo+k) (j:=lo+k-1) (by clear z m1;omega) (by clear z m1;omega) ?_);cases e:lt (G (ck ah) (lo+k)) (G (ck ah) (lo+k-1))with
      |true=>
       simp only[if_true];exact ci ⟨rfl,k,rfl,by clear aa hn;omega,by clear z m1 hn;omega,hs⟩
      |false=>
       simp only[fg,if_false];exact ci ⟨rfl,rfl,Sg.more (n:=lo+k) O ai (by clear z m1;omega) (by clear aa hn;omega) hs e⟩
     case post3=>
      rintro c ah ⟨rfl,n',rfl,p1,p2,hs⟩;exact ci (q n' ah ai p1 p2 hs)
    ·rw[cm hq0];have ai:=af.mirror (i:=lo) (j:=lo+m) (dh _) (by clear hq0 hsz m1 h1;omega);have am:Sg lt (ck (qp ag (mirror (ck ag) lo (lo+m) ((lo+m-lo)/2)))) lo (lo+m):=sL hsz ak;refine ca (iG ?_)
     revert ai am
     generalize (qp ag (mirror (ck ag) lo (lo+m) ((lo+m-lo)/2)))=st4;intro ai am;refine ca (ng (jj (a:=m)
      (I:=fun k c st'=>st'=st4/\c=(none,k)/\Sg lt (ck st4) lo (lo+k))
      (Q:=fun c st'=>st'=st4/\∃n,c=(none,n)/\1<=n/\n<=ae/\Sg lt (ck st4) lo (lo+n)) ?step3 ?fin3 ⟨rfl,rfl,am⟩) ?post3)
     case fin3=>
      rintro c ah ⟨rfl,rfl,hs⟩;rw[show max m ae=ae by clear hq0 hsz m1 h1 hn;omega]at hs ⊢;exact⟨rfl,ae,rfl,by clear hq0 hsz m2 m1 hn;omega,dh _,hs⟩
     case step3=>
      rintro k c ah z aa ⟨rfl,rfl,hs⟩
      clear hsz hq0 m2 h1
      refine ca (fI O ai (i:=lo+k) (j:=lo+k-1) (by clear z m1;omega) (by clear z m1;omega) ?_);cases e:lt (G (ck ah) (lo+k)) (G (ck ah) (lo+k-1))with
      |true=>
       simp only[if_true];exact ci ⟨rfl,k,rfl,by clear aa hn;omega,by clear z m1 hn;omega,hs⟩
      |false=>
       simp only[fg,if_false];exact ci ⟨rfl,rfl,Sg.more (n:=lo+k) O ai (by clear z m1;omega) (by clear aa hn;omega) hs e⟩
     case post3=>
      rintro c ah ⟨rfl,n',rfl,p1,p2,hs⟩;exact ci (q n' ah ai p1 p2 hs)
theorem GP(O:LtOk prog w A E s kd D lt){a₀:Array df}{lo n ok:Nat}{st0 st:iw}{Q:Bool->iw->Prop}(h:Tb kd D a₀ lo st0 st)(hn:lo+n<=a₀.size)(h1:1<=ok)(hok:ok<=n)(hs:Sg lt (ck st) lo (lo+ok))
  (q:∀st',Tb kd D a₀ lo st0 st'->Sg lt (ck st') lo (lo+n)->Q true st'):wpS (model prog w) A E s (binarySort' lo n ok) Q st:=by
 refine ca (ng (jj (a:=max ok 1)
  (I:=fun k c st'=>c=(none,())/\Tb kd D a₀ lo st0 st'/\Sg lt (ck st') lo (lo+k))
  (Q:=fun c st'=>c=(none,())/\Tb kd D a₀ lo st0 st'/\Sg lt (ck st') lo (lo+n)) ?step ?fin ⟨rfl,h,by rw[show max ok 1=ok by omega];exact hs⟩) ?post)
 case fin=>
  rintro c st' ⟨rfl,hT,hS⟩;rw[show max (max ok 1) n=n by omega]at hS;exact⟨rfl,hT,hS⟩
 case post=>
  rintro c st' ⟨rfl,hT,hS⟩;exact ci (q st' hT hS)
 case step=>
  rintro k c st' ae ac ⟨rfl,hT,hS⟩;have k1:1<=k:=yw
  refine ca (ng (jj (a:=0)
   (I:=fun j c z=>z=st'/\∃l r,c=(none,l,r)/\l<=r/\r<=k/\r-l+j<=k/\(∀i,i<l->lt (G (ck st') (lo+k)) (G (ck st') (lo+i))=false)/\∀i,r<=i->i<k->lt (G (ck st') (lo+k)) (G (ck st') (lo+i))=true)
   (Q:=fun c z=>z=st'/\∃l,c=(none,l,l)/\l<=k/\(∀i,i<l->lt (G (ck st') (lo+k)) (G (ck st') (lo+i))=false)/\∀i,l<=i->i<k->lt (G (ck st') (lo+k)) (G (ck st') (lo+i))=true) ?step2 ?fin2 ⟨rfl,0,k,rfl,yw,yw,yw,fun i hi=>by omega,fun i h1 h2=>by omega⟩) ?post2)
  case fin2=>
   rintro c z ⟨rfl,l,r,rfl,a1,a2,a3,a4,a5⟩;have:l=r:=yw
   subst this;exact⟨rfl,l,rfl,a2,a4,a5⟩
  case step2=>
   rintro j c z _ hj ⟨rfl,l,r,rfl,a1,a2,a3,a4,a5⟩;by_cases hlr:l≥r
   ·rw[cn hlr];have:l=r:=yw
    subst this;exact ci ⟨rfl,l,rfl,a2,a4,a5⟩
   rw[cm hlr];have hm:(l+r)/2<k:=yw
   refine ca (fI O hT (i:=lo+k) (j:=lo+(l+r)/2) yw yw ?_);have dk:=hT.dd (i:=lo+k) yw;have dm:=hT.dd (i:=lo+(l+r)/2) yw;cases e:lt (G (ck z) (lo+k)) (G (ck z) (lo+(l+r)/2))with
   |true=>
    simp only[if_true];refine ci ⟨rfl,l,(l+r)/2,rfl,yw,yw,yw,a4,fun i i1 i2=>?_⟩;have di:=hT.dd (i:=lo+i) yw;cases e2:lt (G (ck z) (lo+k)) (G (ck z) (lo+i))with
    |true=>rfl
    |false=>
     have:=O.tr _ _ _ dm di dk (hS (lo+(l+r)/2) (lo+i) yw yw yw) e2;rw[this]at e;cases e
   |false=>
    simp only[fg,if_false];refine ci ⟨rfl,(l+r)/2+1,r,rfl,yw,yw,yw,fun i i1=>?_,a5⟩;exact O.tr _ _ _ (hT.dd yw) dm dk (hS (lo+i) (lo+(l+r)/2) yw yw yw) e
  case post2=>
   rintro c z ⟨rfl,l,rfl,l1,l2,l3⟩;have aa:lo+k<(ck z).size:=by rw[hT.size];omega
   have hd:lo+k-(lo+l)=k-l:=yw
   refine ca (ou (ci ⟨rfl,hT.bubble (src:=lo+k) (d:=lo+k-(lo+l)) yw yw yw,?_⟩));intro i j hi ab hj;show lt (G (bubble (ck z) (lo+k) (lo+k-(lo+l))) j) (G (bubble (ck z) (lo+k) (lo+k-(lo+l))) i)=false;rw[yJ aa yw,yJ aa yw,show lo+k-(lo+k-(lo+l))=lo+l by omega];have dk:=hT.dd (i:=lo+k) yw;by_cases i1:i=lo+l
   ·rw[cn i1];by_cases j1:j=lo+l
    ·rw[cn j1];exact O.irr dk
    ·rw[cm j1,cn yw];have:=l3 (j-1-lo) yw yw;rw[show lo+(j-1-lo)=j-1 by omega]at this;exact O.asym _ _ dk (hT.dd yw) this
   ·rw[cm i1];by_cases i2:lo+l<i/\i<=lo+k
    ·rw[cn i2,cm yw,cn yw];exact hS _ _ yw yw yw
    ·rw[cm i2];by_cases j1:j=lo+l
     ·rw[cn j1];have:=l2 (i-lo) yw;rw[show lo+(i-lo)=i by omega]at this;exact this
     ·rw[cm j1];by_cases j2:lo+l<j/\j<=lo+k
      ·rw[cn j2];exact hS _ _ yw yw yw
      ·rw[cm j2];exact hS i j hi ab yw
structure Ts(kd:sx)(D:df->Prop)(a₀:Array df)(st:iw):Prop where
 kd:kindOf st=kd
 fl:ur st=none
 pm:(ck st).Perm a₀
 d:∀x∈a₀.toList,D x
section
variable {a₀:Array df}{st:iw}
theorem Ts.size(h:Ts kd D a₀ st):(ck st).size=a₀.size:=h.pm.size_eq
theorem Ts.mem(h:Ts kd D a₀ st){x:df}(m:x∈(ck st).toList):D x:=h.d x ((Array.perm_iff_toList_perm.mp h.pm).mem_iff.mp m)
theorem Ts.at(h:Ts kd D a₀ st){i:Nat}(hi:i<a₀.size):(ck st)[i]?=some (G (ck st) i):=xM (by rw[h.size];exact hi)
theorem Ts.dd(h:Ts kd D a₀ st){i:Nat}(hi:i<a₀.size):D (G (ck st) i):=h.mem (bw (by rw[<- zY];exact h.at hi))
theorem Ts.tb(h:Ts kd D a₀ st)(lo:Nat):Tb kd D a₀ lo st st:=⟨h.kd,h.fl,h.pm,rfl,fun _ _=>rfl,h.d⟩
end
theorem Cr{xs:Array df}{i:Nat}{x:df}(h:xs.toList[i]?=some x):G xs i=x:=by
 unfold G;rw[zY.mpr h];rfl
theorem F9(s:Nat):∀(l:List df) (k:Nat) (xs:Array df),s+k+l.length<=xs.size->((l.zipIdx k).foldl (fun a p=>a.setIfInBounds (s+p.2) p.1) xs).toList=xs.toList.take (s+k)++l++xs.toList.drop (s+k+l.length)
 | [],k,xs,_=>by simp
 |x::l,k,xs,h=>by
  rw[ft]at h;rw[zipIdx_cons,List.foldl_cons,F9 s l (k+1) _ (by rw[Array.size_setIfInBounds];omega)];simp only[Array.toList_setIfInBounds];have hl:s+k<xs.toList.length:=by simp;omega
  have e1:(xs.toList.set (s+k) x).take (s+(k+1))=xs.toList.take (s+k)++[x]:=by
   rw[show s+(k+1)=s+k+1 by omega,take_add_one,pb hl,List.take_set_of_le (dh _)];rfl
  have e2:(xs.toList.set (s+k) x).drop (s+(k+1)+l.length)=xs.toList.drop (s+k+(x::l).length):=by
   rw[List.drop_set_of_lt yw,ft];congr 1;omega
  rw[e1,e2];simp
theorem JP{x:iw}{Q:PUnit->iw->Prop}{st:iw}(h:Q ⟨⟩ x):wpS (model prog w) A E s (set x:StateT iw Sem PUnit) Q st:=by
 unfold wpS;rw[StateT.run_set];exact bp ⟨rfl,h⟩
theorem lI{xs:Array df}{lo hi:Nat}(hh:hi<=xs.size){x:df}(m:x∈(xs.extract lo hi).toList):∃r,lo<=r/\r<hi/\G xs r=x:=by
 rw[ql,ld]at m;obtain⟨j,hj⟩:=mem_iff_getElem?.mp m;rw[um]at hj;split at hj
 ·rw[uo]at hj;exact⟨lo+j,by clear hh;omega,by clear hh;omega,Cr hj⟩
 ·cases hj
theorem y8{xs:Array df}{lo hi j:Nat}(hh:hi<=xs.size)(hj:j<hi-lo):(xs.extract lo hi)[j]?=some (G xs (lo+j)):=by
 rw[zY,ql,ld,um,cn yw,uo,<- zY];exact xM yw
theorem B0{xs:Array df}{lo hi:Nat}(hh:hi<=xs.size)(h:Sg lt xs lo hi):SrtL lt (xs.extract lo hi).toList:=by
 unfold SrtL;rw[pairwise_iff_getElem];intro i j q z aa;have e1:=cw q;have e2:=cw z;have hl:(xs.extract lo hi).toList.length=hi-lo:=by simp;omega
 rw[<- zY,y8 hh yw]at e1 e2;rw[<- ji e1,<- ji e2];exact h _ _ yw yw yw
theorem MW(O:LtOk prog w A E s kd D lt){a₀:Array df}{i sa na pw sb nb a0:Nat}{st:iw}{Q:Bool->iw->Prop}(h:Ts kd D a₀ st)(e1:(fc st)[i]?=some (sa,na,pw))(e2:(fc st)[i+1]?=some (sb,nb,a0))(aa:sb=sa+na)(ac:1<=na)(ab:1<=nb)(hsz:sb+nb<=a₀.size)
  (sA:Sg lt (ck st) sa (sa+na)) (sB:Sg lt (ck st) sb (sb+nb))
  (q:∀st',Ts kd D a₀ st'->fc st'=((fc st).setIfInBounds i (sa,na+nb,pw)).eraseIdxIfInBounds (i+1)->(∀j,j<sa\/sa+na+nb<=j->G (ck st') j=G (ck st) j)->Sg lt (ck st') sa (sa+na+nb)->Q true st'):wpS (model prog w) A E s (mergeAt' i) Q st:=by
 refine ca (uw ?_);simp only[e1,e2];have ae:(ck st).size=a₀.size:=h.size;refine ca (JP ?_);refine ca (zz (h.at (i:=sb) (by clear ae ac aa;omega)) ?_);refine ca (gal O (key:=G (ck st) sb) (hint:=0) h.kd (h.dd (by clear ae ac aa;omega)) (fun j h1 h2=>⟨_,h.at (by clear h1 ae ab ac;omega),h.dd (by clear h1 ae ab ac;omega)⟩) (fun i j x y h1 h2 h3 ex ey=>by
  rw[h.at (by clear h1 ae ab ac;omega)]at ex ey;cases ex;cases ey;exact sA i j h1 h2 h3) (by clear ae hsz ab aa;omega) fun k hk g1 g2=>?_)
 dsimp only;have aq:∀j,sa<=j->j<sa+k->lt (G (ck st) sb) (G (ck st) j)=false:=fun j h1 h2=>by
  have:=g1 j _ h1 h2 (h.at (by clear h1 ae ab ac;omega));simpa[bey]using this
 have au:∀j,sa+k<=j->j<sa+na->lt (G (ck st) sb) (G (ck st) j)=true:=fun j h1 h2=>by
  have:=g2 j _ h1 h2 (h.at (by clear h1 hk ae ab ac;omega));simpa[bey]using this
 by_cases c1:na-k=0
 ·rw[cn (by simpa using c1)];refine ci (q _ ⟨h.kd,h.fl,h.pm,h.d⟩ rfl (fun j _=>rfl) fun p r hp af hr=>?_);show lt (G (ck st) r) (G (ck st) p)=false
  clear hk ac ae
  by_cases z1:r<sa+na
  ·exact sA p r hp af z1
  ·by_cases z2:p<sa+na
   ·exact O.tr _ _ _ (h.dd (by clear z2 z1 hp c1 ab;omega)) (h.dd (i:=sb) (by clear z2 z1 hr af hp c1 aa;omega)) (h.dd (by clear z2 z1 af hp c1 ab;omega)) (aq p hp (by clear z1 hr af hp hsz ab aa;omega)) (sB sb r (dh _) (by clear z2 hr af hp c1 hsz ab;omega) (by clear z2 z1 af hp c1 hsz ab;omega))
   ·exact sB p r (by clear z1 hr af hp c1 hsz ab;omega) af (by clear z2 z1 af hp c1 hsz ab;omega)
 rw[cm (by simpa using c1)];have ei:sa+k+(na-k)-1=sb-1:=by clear c1 ae hsz ab ac;omega
 rw[ei];refine ca (zz (h.at (i:=sb-1) (by clear ei c1 hk ae ab;omega)) ?_);refine ca (gal O (key:=G (ck st) (sb-1)) (hint:=nb-1) h.kd (h.dd (by clear ei c1 hk ae ab;omega)) (fun j h1 h2=>⟨_,h.at (by clear h1 ei c1 hk ae ab ac aa;omega),h.dd (by clear h1 ei c1 hk ae ab ac aa;omega)⟩) (fun i j x y h1 h2 h3 ex ey=>by
  rw[h.at (by clear h1 ei c1 hk ae ab ac aa;omega)]at ex ey;cases ex;cases ey;exact sB i j h1 h2 h3) (by clear ei c1 hk ae hsz ac aa;omega) fun m hm f1 f2=>?_)
 dsimp only;have aw:∀j,sb<=j->j<sb+m->lt (G (ck st) j) (G (ck st) (sb-1))=true:=fun j h1 h2=>by
  have:=f1 j _ h1 h2 (h.at (by clear h1 ei c1 hk ae ab ac aa;omega));simpa[bey]using this
 have ap:∀j,sb+m<=j->j<sb+nb->lt (G (ck st) j) (G (ck st) (sb-1))=false:=fun j h1 h2=>by
  have:=f2 j _ h1 h2 (h.at (by clear h1 hm ei c1 hk ae ab ac aa;omega));simpa[bey]using this
 by_cases c2:m=0
 ·rw[cn (by simpa using c2)];refine ci (q _ ⟨h.kd,h.fl,h.pm,h.d⟩ rfl (fun j _=>rfl) fun p r hp af hr=>?_);show lt (G (ck st) r) (G (ck st) p)=false
  clear hm hk ab c1 ei ae
  by_cases z1:r<sa+na
  ·exact sA p r hp af z1
  ·by_cases z2:p<sa+na
   ·exact O.tr _ _ _ (h.dd (by clear z2 z1 hp c2 ac;omega)) (h.dd (i:=sb-1) (by clear z2 z1 hr af hp c2;omega)) (h.dd (by clear z2 z1 af hp c2 ac;omega)) (sA p (sb-1) hp (by clear z1 hr af hp c2 hsz ac;omega) (by clear z2 z1 hr af hp c2 hsz;omega)) (ap r (by clear z2 hr af hp hsz ac;omega) (by clear z2 z1 af hp c2 hsz ac;omega))
   ·exact sB p r (by clear z1 hr af hp c2 hsz ac;omega) af (by clear z2 z1 af hp c2 hsz ac;omega)
 rw[cm (by simpa using c2)];have xD:∀x∈((ck st).extract (sa+k) sb).toList,D x:=fun x mx=>by
  obtain⟨r,r1,r2,rfl⟩:=lI (by clear c2 hm ei c1 hk ab ac aa;omega) mx;exact h.dd (by clear r1 c2 hm ei c1 hk ae ab ac aa;omega)
 have yD:∀x∈((ck st).extract sb (sb+m)).toList,D x:=fun x mx=>by
  obtain⟨r,r1,r2,rfl⟩:=lI (by clear c2 ei c1 hk ab ac aa;omega) mx;exact h.dd (by clear r1 c2 ei c1 hk ae ab ac aa;omega)
 have xS:=B0 (lt:=lt) (xs:=ck st) (lo:=sa+k) (hi:=sb) (by clear c2 hm ei c1 hk ab ac aa;omega) fun p r h1 h2 h3=>sA p r (by clear h3 h2 c2 hm ei c1 hk ae hsz ab ac aa;omega) h2 (by clear h2 h1 c2 hm ei c1 hk ae hsz ab ac;omega);have yS:=B0 (lt:=lt) (xs:=ck st) (lo:=sb) (hi:=sb+m) (by clear c2 ei c1 hk ab ac aa;omega) fun p r h1 h2 h3=>sB p r (by clear h3 h2 c2 hm ei c1 hk ae hsz ab ac aa;omega) h2 (by clear h2 h1 c2 ei c1 hk ae hsz ab ac aa;omega);have xz:((ck st).extract (sa+k) sb).size=sb-(sa+k):=by simp;(clear c2 hm ei c1 hk ab ac aa;omega)
 have yz:((ck st).extract sb (sb+m)).size=m:=by simp;(clear xz c2 ei c1 hk ab ac aa;omega)
 have y0:∀y,((ck st).extract sb (sb+m))[0]?=some y->∀x∈((ck st).extract (sa+k) sb).toList,lt x y=false:=fun y ey x mx=>by
  clear hk yz xz c1 ac ei
  rw[y8 (by clear c2 ab aa;omega) (by clear hm ae hsz ab aa;omega)]at ey;cases ey;obtain⟨r,r1,r2,rfl⟩:=lI (by clear c2 hm ab aa;omega) mx;exact O.asym _ _ (h.dd (by clear r2 r1 c2 hm ae aa;omega)) (h.dd (by clear r1 c2 hm ae ab aa;omega)) (au r r1 (by clear r1 c2 hm ae hsz ab;omega))
 have xl:∀x,((ck st).extract (sa+k) sb)[((ck st).extract (sa+k) sb).size-1]?=some x->∀y∈((ck st).extract sb (sb+m)).toList,lt x y=false:=fun x ex y my=>by
  clear hk yz c2 ab ei
  rw[xz,y8 (by clear xz hm c1 ac aa;omega) (by clear xz hm ae hsz ac;omega)]at ex;cases ex;obtain⟨r,r1,r2,rfl⟩:=lI (by clear xz c1 ac aa;omega) my;rw[show sa+k+(sb-(sa+k)-1)=sb-1 by clear r2 r1 xz hm ae hsz ac;omega];exact O.asym _ _ (h.dd (by clear r1 xz c1 ae ac aa;omega)) (h.dd (by clear r2 r1 xz hm c1 ae;omega)) (aw r r1 r2)
 have fin:∀(out:Array df) (st':iw) (aj:iw),MDone lt (((ck st).extract (sa+k) sb).toList++((ck st).extract sb (sb+m)).toList) out.toList->sameSt aj st'->ck aj=ck st->kindOf aj=kindOf st->ur aj=ur st->fc aj=((fc st).setIfInBounds i (sa,na+nb,pw)).eraseIdxIfInBounds (i+1) ->
   ∀ah:iw,kindOf ah=kindOf st'->ur ah=ur st'->fc ah=fc st'->ck ah=rp (fun a x=>a.setIfInBounds (sa+k+x.snd) x.fst) (ck st') out.toList.zipIdx->Q true ah/\ur ah=none:=fun out st' aj hd al ax ar ay av ah ek ef ep ea=>by
  obtain⟨s1,s2,s3,s4⟩:=al;have ag:out.toList.length=sb-(sa+k)+m:=by
   have:=hd.1.length_eq;rw[fu]at this;simp only[gh]at this ⊢
   (clear c2 hm ei c1 hk ae hsz ab ac aa;omega)
  rw[s2,ax]at ea;have hw:=F9 (sa+k) out.toList 0 (ck st) (by clear yz xz c2 ei c1 ab ac;omega);have ht:(ck ah).toList=(ck st).toList.take (sa+k)++out.toList++(ck st).toList.drop (sb+m):=by
   rw[ea];rw[vg]at hw;rw[hw];congr 2
   (clear yz xz c2 hm ei c1 ae hsz ab ac;omega)
  have a2:(ck ah).Perm (ck st):=by
   rw[Array.perm_iff_toList_perm,ht];have e0:(ck st).toList=(ck st).toList.take (sa+k)++(((ck st).extract (sa+k) sb).toList++((ck st).extract sb (sb+m)).toList)++(ck st).toList.drop (sb+m):=by
    rw[ql,ql,ld,ld,gn,gn,show sb+m-sb=m by clear ag yz xz c2 hm ei c1 hk ae hsz ab ac aa;omega];have q1:(ck st).toList.drop (sb+m)=((ck st).toList.drop sb).drop m:=by rw[List.drop_drop]
    rw[q1,oq];have q2:(ck st).toList.drop sb=((ck st).toList.drop (sa+k)).drop (sb-(sa+k)):=by rw[List.drop_drop];congr 1;(clear ag yz xz c2 hm ei c1 ae hsz ab ac;omega)
    rw[q2,oq,oq]
   conv=>rhs;rw[e0]
   exact(hd.1.append_left _).append_right _
  have ao:Ts kd D a₀ ah:=⟨ek.trans (s1.trans (ar.trans h.kd)),ef.trans (s4.trans (ay.trans h.fl)),a2.trans h.pm,h.d⟩;have tl:((ck st).toList.take (sa+k)).length=sa+k:=by rw[qb,gh];(clear ag yz xz c2 hm ei c1 ab ac;omega)
  have ai:∀j,j<sa+k\/sb+m<=j->G (ck ah) j=G (ck st) j:=fun j hj=>by
   unfold G;congr 1;rw[<- jw,<- jw,ht]
   clear hm yz c2 xz ab c1 ac hsz ei ae
   rcases hj with hj|hj
   ·rw[gn,gm (by clear ag hk aa;omega),um,cn hj]
   ·rw[om (by rw[fu,tl,ag];(clear tl ag;omega)),fu,tl,ag,uo];congr 1
    (clear tl ag;omega)
  have an:∀j,sa+k<=j->j<sb+m->∃z,out.toList[j-(sa+k)]?=some z/\G (ck ah) j=z/\∃r,sa+k<=r/\r<sb+m/\G (ck st) r=z:=fun j h1 h2=>by
   have hj:j-(sa+k)<out.toList.length:=by clear h1 tl yz xz c2 hm ei hk ae hsz ab ac;omega
   have ez:=cw hj
   clear yz ag h2 c2 xz ab c1 ac ei
   refine⟨_,ez,Cr ?_,?_⟩
   ·rw[ht,gn,om (by clear hm hk ae hsz aa;omega),tl,gm hj];exact ez
   ·have mz:=hd.1.mem_iff.mp (bw ez);rcases mem_append.mp mz with mz|mz
    ·obtain⟨r,r1,r2,r3⟩:=lI (by clear h1 tl hm hk aa;omega) mz;exact⟨r,r1,by clear r1 h1 tl hm hk ae hsz aa;omega,r3⟩
    ·obtain⟨r,r1,r2,r3⟩:=lI (by clear h1 tl hk aa;omega) mz;exact⟨r,by clear r2 h1 tl hm ae hsz;omega,r2,r3⟩
  refine⟨q ah ao (ep.trans (s3.trans av)) (fun j hj=>ai j (by clear tl ag yz xz c2 ei c1 hk ae hsz ab ac;omega)) fun p r hp af hr=>?_,ao.fl⟩;have up:∀p q',sa<=p->p<sa+k->sb<=q'->q'<sb+nb->lt (G (ck st) q') (G (ck st) p)=false:=fun p q' p1 p2 q1 q2=>O.tr _ _ _ (h.dd (by clear q2 q1 p1 hr af hp tl ag yz xz c2 hm ei c1 ae ab ac;omega)) (h.dd (i:=sb) (by clear q2 q1 p2 p1 hr af hp tl ag yz xz c2 hm ei c1 hk ae ac aa;omega)) (h.dd (by clear q1 p2 p1 hr af hp tl ag yz xz c2 hm ei c1 hk ae ab ac aa;omega)) (aq p p1 p2) (sB sb q' (dh _) q1 q2);have dn:∀p q',sa<=p->p<sb->sb+m<=q'->q'<sb+nb->lt (G (ck st) q') (G (ck st) p)=false:=fun p q' p1 p2 q1 q2=>O.tr _ _ _ (h.dd (by clear q2 q1 p1 hr af hp tl ag yz xz c2 hm ei c1 hk ae ab ac aa;omega)) (h.dd (i:=sb-1) (by clear q2 q1 p2 p1 hr af hp tl ag yz xz c2 hm ei c1 hk ae ab;omega)) (h.dd (by clear q1 p2 p1 hr af hp tl ag yz xz c2 hm ei c1 hk ae ab ac aa;omega)) (sA p (sb-1) p1 (by clear q2 q1 p1 hr af hp tl ag yz xz c2 hm ei c1 hk ae hsz ab ac aa;omega) (by clear q2 q1 p2 p1 hr af hp tl ag yz xz c2 hm ei c1 hk ae hsz ab;omega)) (ap q' q1 q2)
  clear yz ag c2 xz ab c1 ac hsz ei tl ae
  by_cases p1:p<sa+k
  ·rw[ai p (.inl p1)];by_cases r1:r<sa+k
   ·rw[ai r (.inl r1)];exact sA p r hp af (by clear p1 hr af hp hm aa;omega)
   clear af hk
   by_cases r2:sb+m<=r
   ·rw[ai r (.inr r2)];exact up p r hp p1 (by clear r1 p1 hr hp hm aa;omega) (by clear r2 r1 p1 hp hm;omega)
   ·obtain⟨z,_,ez,t,t1,t2,t3⟩:=an r (by clear r2 p1 hr hp hm aa;omega) (by clear r1 p1 hr hp hm aa;omega);rw[ez,<- t3];by_cases tb:t<sb
    ·exact sA p t hp (by clear tb t2 r2 r1 hr hp hm aa;omega) (by clear t2 t1 r2 r1 p1 hr hp hm;omega)
    ·exact up p t hp p1 (by clear t2 t1 r2 r1 p1 hr hp hm aa;omega) (by clear tb t1 r2 r1 p1 hr hp aa;omega)
  clear hp hm hk
  by_cases p2:sb+m<=p
  ·rw[ai p (.inr p2),ai r (.inr (by clear p1 hr aa;omega))];exact sB p r (by clear p1 hr af aa;omega) af (by clear p2 p1 af;omega)
  obtain⟨z,oz,ez,t,t1,t2,t3⟩:=an p (by clear p2 hr af aa;omega) (by clear p1 hr af aa;omega);by_cases r2:sb+m<=r
  ·rw[ai r (.inr r2),ez,<- t3]
   clear af p1 p2
   by_cases tb:t<sb
   ·exact dn t r (by clear tb r2 t2 hr aa;omega) tb r2 (by clear tb r2 t2 t1;omega)
   ·exact sB t r (by clear r2 t2 t1 hr aa;omega) (by clear tb t1 hr aa;omega) (by clear tb r2 t2 t1;omega)
  ·obtain⟨z',a1,az,_⟩:=an r (by clear r2 t2 t1 p2 hr aa;omega) (by clear t2 t1 p2 p1 hr af aa;omega);rw[ez,az];exact cG O hd.2 (fun x mx=>by
    rcases mem_append.mp (hd.1.mem_iff.mp mx)with mx|mx
    ·exact xD x mx
    ·exact yD x mx) (show p-(sa+k)<=r-(sa+k) by clear r2 t2 t1 p2 p1 hr aa;omega) oz a1
 clear hm hk ab ac hsz ei ae
 have ak:1<=((ck st).extract (sa+k) sb).size:=by rw[xz];(clear yz xz c2;omega)
 have am:1<=((ck st).extract sb (sb+m)).size:=by rw[yz];(clear ak yz xz c1 aa;omega)
 have ak:1<=((ck st).extract (sa+k) sb).size:=by rw[xz];(clear am ak yz xz c2;omega)
 have am:1<=((ck st).extract sb (sb+m)).size:=by rw[yz];(clear ak am yz xz c1 aa;omega)
 by_cases c3:na-k<=m
 ·rw[cn c3];refine ca (J9 O h.kd xD yD xS yS ak am y0 xl fun out st' hd al=>?_);refine ca (ou (ca (uw ?_)));obtain⟨z1,z2⟩:=fin out st' _ hd al rfl rfl rfl rfl (qp st' (rp (fun a x=>a.setIfInBounds (sa+k+x.snd) x.fst) (ck st') out.toList.zipIdx)) rfl rfl rfl rfl;refine ci ?_;show Q (ur (qp st' (rp (fun a x=>a.setIfInBounds (sa+k+x.snd) x.fst) (ck st') out.toList.zipIdx))).isNone (qp st' (rp (fun a x=>a.setIfInBounds (sa+k+x.snd) x.fst) (ck st') out.toList.zipIdx));rw[z2];exact z1
 ·rw[cm c3];refine ca (M6 O h.kd xD yD xS yS ak am y0 xl fun out st' hd al=>?_);refine ca (ou (ca (uw ?_)));obtain⟨z1,z2⟩:=fin out st' _ hd al rfl rfl rfl rfl (qp st' (rp (fun a x=>a.setIfInBounds (sa+k+x.snd) x.fst) (ck st') out.toList.zipIdx)) rfl rfl rfl rfl;refine ci ?_;show Q (ur (qp st' (rp (fun a x=>a.setIfInBounds (sa+k+x.snd) x.fst) (ck st') out.toList.zipIdx))).isNone (qp st' (rp (fun a x=>a.setIfInBounds (sa+k+x.snd) x.fst) (ck st') out.toList.zipIdx));rw[z2];exact z1
def Stk(lt:df->df->Bool)(xs:Array df):Nat->List (Nat×Nat×Nat)->Nat->Prop
 |s,[],e=>s=e
 |s,r::p,e=>r.1=s/\1<=r.2.1/\Sg lt xs s (s+r.2.1)/\Stk lt xs (s+r.2.1) p e
theorem Stk.le{xs:Array df}:∀{p:List (Nat×Nat×Nat)}{s e:Nat},Stk lt xs s p e->s+p.length<=e
 | [],s,e,h=>by have:s=e:=h;simp;omega
 |r::p,s,e,h=>by
  obtain⟨h1,h2,h3,h4⟩:=h;have:=Stk.le h4;rw[ft]
  (clear h1;omega)
theorem Stk.mono{xs ys:Array df}:∀{p:List (Nat×Nat×Nat)}{s e:Nat},Stk lt xs s p e->(∀i,s<=i->i<e->G ys i=G xs i)->Stk lt ys s p e
 | [],s,e,h,_=>h
 |r::p,s,e,h,k=>by
  obtain⟨h1,h2,h3,h4⟩:=h;have:=Stk.le h4;refine⟨h1,h2,fun i j hi q hj=>?_,Stk.mono h4 fun i hi hj=>k i yw hj⟩;rw[k i yw yw,k j yw yw];exact h3 i j hi q hj
theorem Stk.push{xs:Array df}{n w':Nat}:∀{p:List (Nat×Nat×Nat)}{s e:Nat},Stk lt xs s p e->1<=n->Sg lt xs e (e+n)->Stk lt xs s (p++[(e,n,w')]) (e+n)
 | [],s,e,h,h1,h2=>by
  have:s=e:=h;subst this;exact⟨rfl,h1,h2,rfl⟩
 |r::p,s,e,h,k1,k2=>by
  obtain⟨h1,h2,h3,h4⟩:=h;exact⟨h1,h2,h3,Stk.push h4 k1 k2⟩
theorem Stk.modLast{xs:Array df}{pw:Nat}:∀{p:List (Nat×Nat×Nat)}{s e:Nat},Stk lt xs s p e->∀k,Stk lt xs s (p.modify k fun x=>(x.1,x.2.1,pw)) e
 | [],s,e,h,k=>by simpa using h
 |r::p,s,e,h,0=>by
  obtain⟨h1,h2,h3,h4⟩:=h;exact⟨h1,h2,h3,h4⟩
 |r::p,s,e,h,k+1=>by
  obtain⟨h1,h2,h3,h4⟩:=h;exact⟨h1,h2,h3,Stk.modLast h4 k⟩
theorem Stk.at{xs:Array df}{sa na pw sb nb ab:Nat}:∀{p:List (Nat×Nat×Nat)}{s e i:Nat},Stk lt xs s p e->p[i]?=some (sa,na,pw)->p[i+1]?=some (sb,nb,ab) ->
  s<=sa/\sb=sa+na/\1<=na/\1<=nb/\sb+nb<=e/\Sg lt xs sa (sa+na)/\Sg lt xs sb (sb+nb)/\∀ys:Array df,(∀j,j<sa\/sa+na+nb<=j->G ys j=G xs j)->Sg lt ys sa (sa+na+nb)->Stk lt ys s ((p.set i (sa,na+nb,pw)).eraseIdx (i+1)) e
 | [],s,e,i,_,h1,_=>by simp at h1
 |r::p,s,e,0,h,e1,e2=>by
  have er:r=(sa,na,pw):=by simpa using e1
  subst er;cases p with
  |nil=>simp at e2
  |cons r2 p=>
   have ae:r2=(sb,nb,ab):=by simpa using e2
   subst ae;obtain⟨h1,h2,h3,h5,h6,h7,h8⟩:=h;have af:sa=s:=h1;have ag:sb=s+na:=h5;subst af;have q:=Stk.le h8;have aa:1<=nb:=h6;have z:1<=na:=h2;subst ag;have ah:Stk lt xs (sa+na+nb) p e:=h8;refine⟨dh _,rfl,z,aa,by have:sa+na+nb+p.length<=e:=q;(clear q h5 h6 z aa h1 h2;omega),h3,h7,fun ys k1 k2=>?_⟩;refine⟨rfl,by show 1<=na+nb;(clear q h5 h6 z h1 h2;omega),?_,?_⟩
   ·show Sg lt ys sa (sa+(na+nb));rw[<- Nat.add_assoc];exact k2
   ·show Stk lt ys (sa+(na+nb)) p e;rw[<- Nat.add_assoc];exact Stk.mono ah fun i hi hj=>k1 i (.inr hi)
 |r::p,s,e,i+1,h,e1,e2=>by
  obtain⟨h1,h2,h3,h4⟩:=h;obtain⟨q1,q2,q3,q4,q5,q6,q7,q8⟩:=Stk.at h4 (by simpa using e1) (by simpa using e2);refine⟨by clear q5 q4 q3 q2 h2 h1;omega,q2,q3,q4,q5,q6,q7,fun ys k1 k2=>?_⟩;refine⟨h1,h2,fun i j hi ac hj=>?_,q8 ys k1 k2⟩;rw[k1 i (.inl (by clear hi q5 q4 q3 q2 h2 h1;omega)),k1 j (.inl (by clear ac hi q5 q4 q3 q2 h2 h1;omega))];exact h3 i j hi ac hj
theorem vP(O:LtOk prog w A E s kd D lt){a₀:Array df}{i lo:Nat}{st:iw}{Q:Bool->iw->Prop}(h:Ts kd D a₀ st)(hs:Stk lt (ck st) 0 (fc st).toList lo)(ab:lo<=a₀.size)(hi:i+1<(fc st).size)
  (q:∀st',Ts kd D a₀ st'->Stk lt (ck st') 0 (fc st').toList lo->(fc st').size+1=(fc st).size->(∀j,lo<=j->G (ck st') j=G (ck st) j)->Q true st'):wpS (model prog w) A E s (mergeAt' i) Q st:=by
 obtain⟨⟨sa,na,pw⟩,g1⟩:∃r,(fc st)[i]?=some r:=⟨_,gu yw⟩;obtain⟨⟨sb,nb,aa⟩,g2⟩:∃r,(fc st)[i+1]?=some r:=⟨_,gu yw⟩;obtain⟨q1,q2,q3,q4,q5,q6,q7,q8⟩:=Stk.at hs (i:=i) (by rw[<- jw]at g1;exact g1) (by rw[<- jw]at g2;exact g2);refine MW O h g1 g2 q2 q3 q4 yw q6 q7 fun st' hT hp hg hS=>?_;have z:(fc st').toList=((fc st).toList.set i (sa,na+nb,pw)).eraseIdx (i+1):=by
  rw[hp,Array.eraseIdxIfInBounds,dif_pos (by rw[Array.size_setIfInBounds];exact hi),Array.toList_eraseIdx,Array.toList_setIfInBounds]
 refine q st' hT ?_ ?_ fun j hj=>hg j (.inr yw)
 ·rw[z];exact q8 _ hg hS
 ·have:=congrArg ow z;rw[List.length_eraseIdx_of_lt (by simp;omega),length_set,gh,gh]at this;omega
theorem HG(O:LtOk prog w A E s kd D lt){a₀:Array df}{st:iw}{Q:Unit->iw->Prop}(h:Ts kd D a₀ st)(ap:fc st = #[])(h2:2<=a₀.size)
  (q:∀st',Ts kd D a₀ st'->Sg lt (ck st') 0 a₀.size->Q () st'):wpS (model prog w) A E s sortRuns' Q st:=by
 rw[sortRuns'_eq];refine ca (uw ?_);dsimp only;rw[h.size];generalize minRun' a₀.size a₀.size 0=mr;refine ca (ng (jj (a:=0)
  (I:=fun k c st'=>∃lo,c=(none,lo)/\k<=lo/\lo<=a₀.size/\Ts kd D a₀ st'/\Stk lt (ck st') 0 (fc st').toList lo)
  (Q:=fun c st'=>∃lo,c=(none,lo)/\lo=a₀.size/\Ts kd D a₀ st'/\Stk lt (ck st') 0 (fc st').toList lo) ?step ?fin ⟨0,rfl,dh _,nj _,h,by rw[ap];rfl⟩) ?post)
 case fin=>
  rintro c st' ⟨lo,rfl,k1,k2,hT,hS⟩;exact⟨lo,rfl,yw,hT,hS⟩
 case post=>
  rintro c st' ⟨lo,rfl,rfl,hT,hS⟩;dsimp only;have hz:=Stk.le hS;rw[gh]at hz;refine ca (ng (jj (a:=0)
   (I:=fun k c ab=>c=(none,())/\Ts kd D a₀ ab/\Stk lt (ck ab) 0 (fc ab).toList a₀.size/\(fc ab).size+k<=a₀.size+0\/c=(none,())/\Ts kd D a₀ ab/\Stk lt (ck ab) 0 (fc ab).toList a₀.size/\(fc ab).size<=1)
   (Q:=fun c ab=>c=(none,())/\Ts kd D a₀ ab/\Stk lt (ck ab) 0 (fc ab).toList a₀.size/\(fc ab).size<=1) ?stepF ?finF (.inl ⟨rfl,hT,hS,yw⟩)) ?postF)
  case finF=>
   rintro c ab (⟨rfl,h3,h4,h5⟩|hh)
   ·exact⟨rfl,h3,h4,yw⟩
   ·exact hh
  case stepF=>
   rintro k c ab _ hk hh;have au:c=(none,())/\Ts kd D a₀ ab/\Stk lt (ck ab) 0 (fc ab).toList a₀.size/\((fc ab).size+k<=a₀.size\/(fc ab).size<=1):=by
    rcases hh with ⟨a1,a2,a3,a4⟩|⟨a1,a2,a3,a4⟩
    ·exact⟨a1,a2,a3,.inl yw⟩
    ·exact⟨a1,a2,a3,.inr a4⟩
   obtain⟨rfl,h3,h4,h5⟩:=au;refine ca (uw ?_)
   try dsimp only
   by_cases d1:(fc ab).size<=1
   ·rw[cn d1];exact ci ⟨rfl,h3,h4,d1⟩
   rw[cm d1];generalize hgen:(if (if (fc ab).size-2>0 then Option.map (fun x=>x.snd.fst) (fc ab)[(fc ab).size-2-1]? else none).any (fun x=>decide (x<(fc ab)[(fc ab).size-2+1]?.elim 0 fun x=>x.snd.fst))=true then (fc ab).size-2-1 else (fc ab).size-2)=ii;have aq:ii+1<(fc ab).size:=by
    have hx:∀(P:Prop) (_:Decidable P),(if P then (fc ab).size-2-1 else (fc ab).size-2)+1<(fc ab).size:=fun P _=>by
     by_cases z:P
     ·rw[cn z];omega
     ·rw[cm z];omega
    rw[<- hgen];exact hx _ _
   refine ca (vP O h3 h4 (dh _) aq fun am h6 s6 z6 g6=>?_);simp only[Bool.not_true,fg,if_false];exact ci (.inl ⟨rfl,h6,s6,yw⟩)
  case postF=>
   rintro c ab ⟨rfl,h3,h4,h5⟩;dsimp only;refine ci (q ab h3 ?_);cases hl:(fc ab).toList with
   |nil=>
    rw[hl]at h4;have:0=a₀.size:=h4;omega
   |cons r rest=>
    have hr:rest=[]:=by
     have:=congrArg ow hl;rw[gh,ft]at this;exact ju yw
    rw[hl,hr]at h4;obtain⟨e1,e2,e3,e4⟩:=h4;have ar:0+r.2.1=a₀.size:=e4;rw[<- ar];exact e3
 case step=>
  rintro k c st' _ hk ⟨lo,rfl,k1,k2,hT,hS⟩;dsimp only;by_cases c1:lo≥a₀.size
  ·rw[cn c1];exact ci ⟨lo,rfl,yw,hT,hS⟩
  rw[cm c1];refine ca (Ir O (hT.tb lo) yw yw fun m ab ao m1 m2 an=>?_);dsimp only;by_cases c2:m<mr
  ·rw[cn c2];refine ca (wpS_lift (lq ⟨rfl,?_⟩));refine ca (GP O ao (n:=min (a₀.size-lo) mr) yw m1 yw an fun ae af ai=>?_);simp only[Bool.not_true,fg,if_false];have n1:1<=min (a₀.size-lo) mr:=yw
   have n2:lo+min (a₀.size-lo) mr<=a₀.size:=yw
   generalize min (a₀.size-lo) mr=n at n1 n2 ai;have ah:Ts kd D a₀ ae:=⟨af.kd,af.fl,af.pm,af.d⟩;have ak:Stk lt (ck ae) 0 (fc ae).toList lo:=by
    rw[af.pe];exact Stk.mono hS fun i _ hi=>af.lo i hi
   refine ca (uw ?_);have fin:∀aa:iw,Ts kd D a₀ aa->Stk lt (ck aa) 0 (fc aa).toList lo->(∀j,lo<=j->G (ck aa) j=G (ck ae) j)->Stk lt (ck aa) 0 ((fc aa).push (lo,n,0)).toList (lo+n):=fun aa hM ag ac=>by
    rw[toList_push];refine Stk.push ag n1 fun i j hi al hj=>?_;rw[ac i hi,ac j yw];exact ai i j hi al hj
   cases hbk:(fc ae).back? with
   |none=>
    try dsimp only
    exact ca (ou (ci ⟨lo+n,rfl,yw,yw,⟨ah.kd,ah.fl,ah.pm,ah.d⟩,fin ae ah ak fun _ _=>rfl⟩))
   |some r=>
    obtain⟨s1,aj,w1⟩:=r
    try dsimp only
    generalize power' a₀.size (2*s1+aj) (2*s1+aj+aj+n) a₀.size=pw;refine ca (ng (jj (a:=0)
     (I:=fun _ c aa=>c=(none,())/\Ts kd D a₀ aa/\Stk lt (ck aa) 0 (fc aa).toList lo/\∀j,lo<=j->G (ck aa) j=G (ck ae) j)
     (Q:=fun c aa=>c=(none,())/\Ts kd D a₀ aa/\Stk lt (ck aa) 0 (fc aa).toList lo/\∀j,lo<=j->G (ck aa) j=G (ck ae) j) ?stepM (fun _ _ hh=>hh) ⟨rfl,ah,ak,fun _ _=>rfl⟩) ?postM)
    case stepM=>
     rintro kk c aa _ _ ⟨rfl,hM,ag,ac⟩;refine ca (uw ?_)
     try dsimp only
     by_cases d1:(fc aa).size>1
     ·rw[cn d1];obtain⟨⟨oa,ob,oc⟩,og⟩:∃r,(fc aa)[(fc aa).size-2]?=some r:=⟨_,gu yw⟩;rw[og];dsimp only;by_cases d2:oc<=pw
      ·rw[cn d2];exact ci ⟨rfl,hM,ag,ac⟩
      ·rw[cm d2];refine ca (vP O hM ag k2 yw fun am h5 s5 z5 g5=>?_);simp only[Bool.not_true,fg,if_false];exact ci ⟨rfl,h5,s5,fun j hj=>(g5 j hj).trans (ac j hj)⟩
     ·rw[cm d1];exact ci ⟨rfl,hM,ag,ac⟩
    case postM=>
     rintro c aa ⟨rfl,hM,ag,ac⟩;dsimp only;refine ca (ou (ca (ou (ci ⟨lo+n,rfl,yw,yw,⟨hM.kd,hM.fl,hM.pm,hM.d⟩,?_⟩))));refine fin (setPending aa ((fc aa).modify ((fc aa).size-1) fun x=>(x.1,x.2.1,pw))) ⟨hM.kd,hM.fl,hM.pm,hM.d⟩ ?_ ac;show Stk lt (ck aa) 0 ((fc aa).modify ((fc aa).size-1) fun x=>(x.1,x.2.1,pw)).toList lo;rw[Array.toList_modify];exact Stk.modLast ag _
  ·rw[cm c2];have n1:1<=m:=m1;have n2:lo+m<=a₀.size:=yw
   have ai:=an;have af:=ao;generalize m=n at n1 n2 ai
   revert af ai
   generalize ab=ae;intro af ai;have ah:Ts kd D a₀ ae:=⟨af.kd,af.fl,af.pm,af.d⟩;have ak:Stk lt (ck ae) 0 (fc ae).toList lo:=by
    rw[af.pe];exact Stk.mono hS fun i _ hi=>af.lo i hi
   refine ca (uw ?_);have fin:∀aa:iw,Ts kd D a₀ aa->Stk lt (ck aa) 0 (fc aa).toList lo->(∀j,lo<=j->G (ck aa) j=G (ck ae) j)->Stk lt (ck aa) 0 ((fc aa).push (lo,n,0)).toList (lo+n):=fun aa hM ag ac=>by
    rw[toList_push];refine Stk.push ag n1 fun i j hi al hj=>?_;rw[ac i hi,ac j yw];exact ai i j hi al hj
   cases hbk:(fc ae).back? with
   |none=>
    try dsimp only
    exact ca (ou (ci ⟨lo+n,rfl,yw,yw,⟨ah.kd,ah.fl,ah.pm,ah.d⟩,fin ae ah ak fun _ _=>rfl⟩))
   |some r=>
    obtain⟨s1,aj,w1⟩:=r
    try dsimp only
    generalize power' a₀.size (2*s1+aj) (2*s1+aj+aj+n) a₀.size=pw;refine ca (ng (jj (a:=0)
     (I:=fun _ c aa=>c=(none,())/\Ts kd D a₀ aa/\Stk lt (ck aa) 0 (fc aa).toList lo/\∀j,lo<=j->G (ck aa) j=G (ck ae) j)
     (Q:=fun c aa=>c=(none,())/\Ts kd D a₀ aa/\Stk lt (ck aa) 0 (fc aa).toList lo/\∀j,lo<=j->G (ck aa) j=G (ck ae) j) ?stepM (fun _ _ hh=>hh) ⟨rfl,ah,ak,fun _ _=>rfl⟩) ?postM)
    case stepM=>
     rintro kk c aa _ _ ⟨rfl,hM,ag,ac⟩;refine ca (uw ?_)
     try dsimp only
     by_cases d1:(fc aa).size>1
     ·rw[cn d1];obtain⟨⟨oa,ob,oc⟩,og⟩:∃r,(fc aa)[(fc aa).size-2]?=some r:=⟨_,gu yw⟩;rw[og];dsimp only;by_cases d2:oc<=pw
      ·rw[cn d2];exact ci ⟨rfl,hM,ag,ac⟩
      ·rw[cm d2];refine ca (vP O hM ag k2 yw fun am h5 s5 z5 g5=>?_);simp only[Bool.not_true,fg,if_false];exact ci ⟨rfl,h5,s5,fun j hj=>(g5 j hj).trans (ac j hj)⟩
     ·rw[cm d1];exact ci ⟨rfl,hM,ag,ac⟩
    case postM=>
     rintro c aa ⟨rfl,hM,ag,ac⟩;refine ca (ou (ca (ou (ci ⟨lo+n,rfl,yw,yw,⟨hM.kd,hM.fl,hM.pm,hM.d⟩,?_⟩))));refine fin (setPending aa ((fc aa).modify ((fc aa).size-1) fun x=>(x.1,x.2.1,pw))) ⟨hM.kd,hM.fl,hM.pm,hM.d⟩ ?_ ac;show Stk lt (ck aa) 0 ((fc aa).modify ((fc aa).size-1) fun x=>(x.1,x.2.1,pw)).toList lo;rw[Array.toList_modify];exact Stk.modLast ag _
end
end L2
namespace L2
open PySem PySem.Spec PySem.Calls PyProof.Rows PySem.W
theorem lexLt_trans0:∀{a b c:List Int},HT.lexLt a b=true->HT.lexLt b c=true->HT.lexLt a c=true
 | [],[],_,h,_=>by cases h
 | [],_::_,[],_,h=>by cases h
 | [],_::_,_::_,_,_=>rfl
 |_::_,[],_,h,_=>by cases h
 |_::_,_::_,[],_,h=>by cases h
 |x::xs,y::ys,z::zs,h,k=>by
  rw[HT.lexLt_cons]at h k ⊢;split at h
  ·rename_i e;subst e;split at k
   ·rename_i e;subst e;rw[cn rfl];exact lexLt_trans0 h k
   ·rename_i e;rw[cm e];exact k
  ·rename_i e;have h':=jf h;split at k
   ·rename_i e2;subst e2;rw[cm e];exact h
   ·have k':=jf k;rw[cm yw];exact fy yw
theorem lexLt_tri0:∀(a b:List Int),HT.lexLt a b=true\/a=b\/HT.lexLt b a=true
 | [],[]=>.inr (.inl rfl)
 | [],_::_=>.inl rfl
 |_::_,[]=>.inr (.inr rfl)
 |x::xs,y::ys=>by
  rw[HT.lexLt_cons,HT.lexLt_cons];by_cases e:x=y
  ·subst e;rw[cn rfl,cn rfl];rcases lexLt_tri0 xs ys with h|h|h
   ·exact .inl h
   ·exact .inr (.inl (by rw[h]))
   ·exact .inr (.inr h)
  ·rw[cm e,cm (kf e)];by_cases hl:x<y
   ·exact .inl (fy hl)
   ·exact .inr (.inr (fy yw))
section
variable {prog:gf}{w:iu}{A:iq}{E:bo->bq->Prop}{s:bq}
theorem MX{α:Type}{r:α->α->Prop}{l:List α}(h:l.length<2):l.Pairwise r:=by
 cases l with
 |nil=>exact .nil
 |cons x l=>
  cases l with
  |nil=>exact List.pairwise_singleton _ _
  |cons y l=>exact absurd h yv
theorem Cy{a:Addr}{vs:List bo}{n:Nat}{kd:sx}{lt:df->df->Bool}{P:PySem.Fin->bq->Prop}(ho:s.heap.get? a=some (jp "list" vs.toArray n))(hz:vs.length<=10000000)
  (hkd:∀h3,KeptBut a s.heap h3->∀(Q:sx->bq->Prop),2<=vs.length->Q kd { s with heap:=h3 }->cp (model prog w) A (keyKind' vs.toArray) Q E { s with heap:=h3 })
  (hO:∀h3,KeptBut a s.heap h3->LtOk prog w A E { s with heap:=h3 } kd (fun x=>x.1=x.2/\x.1∈vs) lt)
  (h:∀h' c (out:List bo),KeptBut a s.heap h'->out.Perm vs->out.Pairwise (fun x y=>lt (y,y) (x,x)=false)->h'.get? a=some (jp "list" out.toArray c)->P (.done (.ret .none)) { s with heap:=h' }):
  cp (model prog w) A (lg.«list.sort» ⟨[.ref a],[]⟩) P E s:=by
 have ha:a<s.heap.objs.size:=gi ho;have s1:=kg s.heap a (kt fun _=>(#[]:Array bo));obtain⟨e1,ac⟩:∃e1,(s.heap.update a (kt fun _=>(#[]:Array bo))).get? a=some (jp "list" #[] e1):=⟨_,uu ho fun _=>#[]⟩;have keep:KeptBut a s.heap (((s.heap.update a (kt fun _=>(#[]:Array bo))).push (jp "tuple" vs.toArray 0)).push (jp "list" #[] 0)):=fun b o nb e=>
  bu _ (bu _ ((s1.2 b nb).trans e))
 have q:(((s.heap.update a (kt fun _=>(#[]:Array bo))).push (jp "tuple" vs.toArray 0)).push (jp "list" #[] 0)).get? a=some (jp "list" #[] e1):=bu _ (bu _ ac);rw[list_sort_plain];refine bn (listItems_at ho rfl ?_);refine bn (listUpdate_at ho rfl ?_ (by rw[fq,kj];omega) (nj _));refine bn (seqEpoch_at ac rfl ?_);refine bn (wpAny_newTuple ?_ (by show vs.length<=_;rw[kj];omega));refine bn (wpAny_newList ?_ (nj _));refine jd ?_;show cp (model prog w) A _ P E { s with heap:=((s.heap.update a (kt fun _=>(#[]:Array bo))).push (jp "tuple" vs.toArray 0)).push (jp "list" #[] 0) };generalize ((s.heap.update a (kt fun _=>(#[]:Array bo))).push (jp "tuple" vs.toArray 0)).push (jp "list" #[] 0)=h3 at keep q ⊢;dsimp only;by_cases hn2:vs.toArray.size<2
 ·rw[cn hn2,cn hn2];refine bn (bp ?_);rw[StateT.run_pure];refine bn (bp ?_);dsimp only;have eo:(ck (SortSt.mk' general' (vs.toArray.zip vs.toArray) #[] 7 none)).map (·.2)=ny vs:=by
   apply Array.toList_inj.mp;show ((vs.toArray.zip vs.toArray).map (·.2)).toList=vs;rw[Array.toList_map,Array.toList_zip,List.map_snd_zip (dh _)]
  rw[eo];have s2:=kg h3 a (kt fun _=>ny vs);obtain⟨c2,aa⟩:∃c2,(h3.update a (kt fun _=>ny vs)).get? a=some (jp "list" (ny vs) c2):=⟨_,uu q fun _=>ny vs⟩;refine bn (seqEpoch_at q rfl ?_);refine bn (listUpdate_at q rfl ?_ (nj _) (by show (ny vs).size<=_;rw[fq,kj];omega));simp only[bne_self_eq_false,fg,if_false];refine bp (h _ c2 vs (fun b o nb e=>(s2.2 b nb).trans (keep b o nb e)) (qk _) ?_ aa);rw[fq]at hn2;exact MX hn2
 ·rw[cm hn2,cm hn2];rw[fq]at hn2;refine bn (hkd h3 keep _ yw ?_);have O:=hO h3 keep;have hT:Ts kd (fun x:df=>x.1=x.2/\x.1∈vs) (pairsOf vs) (SortSt.mk' kd (vs.toArray.zip vs.toArray) #[] 7 none):=⟨rfl,rfl,Array.Perm.refl _,fun x m=>by
   rw[pairsOf_toList]at m;exact mem_zip_self m⟩
  refine bn (qe (HG O (Q:=fun _ st'=>Ts kd (fun x:df=>x.1=x.2/\x.1∈vs) (pairsOf vs) st'/\Sg lt (ck st') 0 (pairsOf vs).size) hT rfl (by rw[pairsOf_size];omega) fun st' a1 a2=>⟨a1,a2⟩) ?_ fun _ _ e=>e);rintro⟨⟨⟩,st'⟩ s' ⟨rfl,hT',hS'⟩;dsimp only;have hp:((ck st').toList.map (·.2)).Perm vs:=by
   have h1:=(Array.perm_iff_toList_perm.mp hT'.pm).map (·.2);rw[pairsOf_toList,List.map_snd_zip (dh _)]at h1;exact h1
  have hs:((ck st').toList.map (·.2)).Pairwise (fun x y=>lt (y,y) (x,x)=false):=by
   rw[pp,pairwise_iff_getElem];intro i j hi hj ae;have ab:i<(pairsOf vs).size:=by rw[<- hT'.size];simpa using hi
   have z:j<(pairsOf vs).size:=by rw[<- hT'.size];simpa using hj
   have g1:=hT'.at ab;have g2:=hT'.at z;rw[zY,cw hi]at g1;rw[zY,cw hj]at g2;have d1:=(hT'.dd ab).1;have d2:=(hT'.dd z).1;rw[ji g1,ji g2];have z1:((G (ck st') i).2,(G (ck st') i).2)=G (ck st') i:=Prod.ext d1.symm rfl;have z2:((G (ck st') j).2,(G (ck st') j).2)=G (ck st') j:=Prod.ext d2.symm rfl;rw[z1,z2];exact hS' i j (nj _) (lz ae) z
  have eo:(ck st').map (·.2)=ny ((ck st').toList.map (·.2)):=by
   apply Array.toList_inj.mp;rw[Array.toList_map]
  rw[eo];generalize (ck st').toList.map (·.2)=out at hp hs;have s2:=kg h3 a (kt fun _=>ny out);obtain⟨c2,aa⟩:∃c2,(h3.update a (kt fun _=>ny out)).get? a=some (jp "list" (ny out) c2):=⟨_,uu q fun _=>ny out⟩;refine bn (seqEpoch_at q rfl ?_);refine bn (listUpdate_at q rfl ?_ (nj _) (by show (ny out).size<=_;rw[fq,hp.length_eq,kj];omega));rw[hT'.fl];simp only[bne_self_eq_false,fg,if_false];exact bp (h _ c2 out (fun b o nb e=>(s2.2 b nb).trans (keep b o nb e)) hp hs aa)
theorem C6{kd:sx}{x y:df}{b:Bool}{st:iw}{Q:Option Bool->iw->Prop}(hk:kindOf st=kd)(h:cp (model prog w) A (keyLt' kd x.1 y.1) (fun c s'=>s'=s/\c=b) (fun _ _=>False) s)(q:Q (some b) st):wpS (model prog w) A E s (lt' x y) Q st:=by
 rw[lt'_eq];refine ca (uw ?_);rw[hk];refine ca (wpS_lift (nl (qe h (fun c s' hc=>?_) fun _ _ e=>e.elim)));obtain⟨rfl,rfl⟩:=hc;exact⟨rfl,ci q⟩
theorem Hg{vs:List bo}{ns:List Int}(hI:kz vs ns):LtOk prog w A E s oneType' (fun x=>x.1=x.2/\x.1∈vs) (fun x y=>decide (numOf x.1<numOf y.1)) where
 ask:=fun x y st Q hx hy hk q=>by
  obtain⟨n,t,ex⟩:=hI.all _ hx.2;obtain⟨m,u,ey⟩:=hI.all _ hy.2;refine C6 hk ?_ q;rw[keyLt'_oneType,ex,ey];exact oneLt_int ⟨rfl,rfl⟩
 asym:=fun x y _ _ h=>fw (by have:=jf h;omega)
 tr:=fun x y z _ _ _ h1 h2=>fw (by have:=of_decide_eq_false h1;have:=of_decide_eq_false h2;omega)
theorem ED{Q:Bool->bq->Prop}:∀{xs ys:List bo}{ns ms:List Int} (i k:Nat),kz xs ns->kz ys ms->Q (HT.lexLt ns ms) s->KatLex prog w A true (decide (k+xs.length<k+ys.length)) Q (xs.zip ys) i s
 | [],ys,ns,ms,i,k,h1,h2,q=>by
  cases h1;rw[List.zip_nil_left];refine kat_nil ?_;cases h2 with
  |nil=>
   rw[fw yv];exact q
  |cons n t h2=>
   rw[fy yv];exact q
 |x::xs,[],ns,ms,i,k,h1,h2,q=>by
  cases h2;cases h1 with
  |cons n t h1=>
   rw[List.zip_nil_right];refine kat_nil ?_;rw[fw yv];exact q
 |x::xs,y::ys,ns,ms,i,k,h1,h2,q=>by
  cases h1 with
  |cons n t h1=>
   cases h2 with
   |cons m u h2=>
    rw[zip_cons_cons];refine kat_cons (wpAny_eqBool_int ?_);rw[HT.lexLt_cons]at q;refine kat_go (fun e=>?_) fun e=>?_
    ·have e1:n=m:=by simpa using e
     rw[cn e1]at q;refine kat_yes ?_;have:=ED (Q:=Q) (i+1) (k+1) h1 h2 q;have ed:decide (k+((oo n t)::xs).length<k+((oo m u)::ys).length)=decide (k+1+xs.length<k+1+ys.length):=by
      rw[decide_eq_decide,ft,ft];omega
     rw[ed];exact this
    ·have e1:n≠m:=by simpa using e
     rw[cm e1]at q;refine kat_no ?_;cases hb:(true&&i==0)with
     |true=>exact oneLt_int q
     |false=>exact kat_one _ _ (lt_int q)
def TupI(h:Heap)(v:bo)(ns:List Int):Prop:=ns≠[]/\∃a o xs n,v=.ref a/\h.get? a=some o/\o.cls=.type "tuple"/\o.data=.seq xs n/\kz xs.toList ns
theorem Hd{vs:List bo}(aa:bo->List Int)(hT:∀v∈vs,TupI s.heap v (aa v)):LtOk prog w A E s (tuples' true) (fun x=>x.1=x.2/\x.1∈vs) (fun x y=>HT.lexLt (aa x.1) (aa y.1)) where
 ask:=fun x y st Q hx hy hk q=>by
  obtain⟨_,a,o,xs,n,ex,g1,c1,d1,i1⟩:=hT _ hx.2;obtain⟨_,b,o',ys,m,ey,g2,c2,d2,i2⟩:=hT _ hy.2;refine C6 hk ?_ q;rw[ex,ey];refine kat_lt g1 d1 g2 d2 ?_;have:=ED (prog:=prog) (w:=w) (A:=A) (s:=s) (Q:=fun c s'=>s'=s/\c=HT.lexLt (aa (.ref a)) (aa (.ref b))) 0 0 (by rw[ex]at i1;exact i1) (by rw[ey]at i2;exact i2) ⟨rfl,rfl⟩;simpa using this
 asym:=fun x y _ _ h=>by
  cases e:HT.lexLt (aa y.1) (aa x.1)with
  |false=>rfl
  |true=>
   have:=lexLt_trans0 h e;rw[HT.lexLt_self]at this;cases this
 tr:=fun x y z _ _ _ h1 h2=>by
  cases e:HT.lexLt (aa z.1) (aa x.1)with
  |false=>rfl
  |true=>
   rcases lexLt_tri0 (aa y.1) (aa x.1)with h|h|h
   ·rw[h]at h1;cases h1
   ·rw[h]at h2;rw[h2]at e;cases e
   ·have:=lexLt_trans0 e h;rw[this]at h2;cases h2
theorem MH{vs:List bo}(q:bo->List Int)(hT:∀v∈vs,TupI s.heap v (q v))(h2:2<=vs.length){Q:sx->bq->Prop}(h:Q (tuples' true) s):cp (model prog w) A (keyKind' vs.toArray) Q E s:=by
 have fs:∀l:List bo,(∀v∈l,TupI s.heap v (q v))->∃fs:List bo,KatTups s.heap l fs/\fs.length=l.length/\∀f∈fs,∃n t,f=oo n t:=by
  intro l;induction l with
  |nil=>intro _;exact⟨[],KatTups.nil,rfl,(fun f m=>by cases m)⟩
  |cons v l ih=>
   intro hl;obtain⟨fs,k,e,fi⟩:=ih fun x m=>hl x (cz _ m);obtain⟨aa,a,o,xs,n,ev,g1,c1,d1,i1⟩:=hl v dw;subst ev;obtain⟨f,t,hf⟩:∃n t,xs[0]?=some (oo n t):=by
    cases hx:xs.toList with
    |nil=>rw[hx]at i1;cases hn:q (.ref a)with
     |nil=>exact absurd hn aa
     |cons x y=>rw[hn]at i1;cases i1
    |cons x r=>
     rw[hx]at i1;obtain⟨n,t,rfl⟩:=i1.all x dw;exact⟨n,t,by rw[<- jw,hx];rfl⟩
   refine⟨.int f t::fs,KatTups.cons g1 c1 d1 hf k,by simp[e],fun z m=>?_⟩;rcases mem_cons.mp m with rfl|m
   ·exact⟨f,t,rfl⟩
   ·exact fi z m
 obtain⟨fs,k,e,fi⟩:=fs vs hT;refine kat_kind (T:=.type "int") k yw (fun v m=>?_) rfl ?_
 ·obtain⟨n,t,rfl⟩:=fi v m;exact .now
 ·rw[show (Value.type "int" != Value.type "tuple")=true by decide];exact h
theorem L7{vs:List bo}{kd:sx}{lt:df->df->Bool}{P:PySem.Fin->bq->Prop}(hz:vs.length<=10000000)
  (hkd:∀(A':iq) (E':bo->bq->Prop) h3,(∀b o,s.heap.get? b=some o->h3.get? b=some o)->∀(Q:sx->bq->Prop),2<=vs.length->Q kd { s with heap:=h3 }->cp (model prog w) A' (keyKind' vs.toArray) Q E' { s with heap:=h3 })
  (hO:∀(A':iq) (E':bo->bq->Prop) h3,(∀b o,s.heap.get? b=some o->h3.get? b=some o)->LtOk prog w A' E' { s with heap:=h3 } kd (fun x=>x.1=x.2/\x.1∈vs) lt)
  (h:∀D h' c (out:List bo),s.heap.objs.size<=D->(∀b o,s.heap.get? b=some o->h'.get? b=some o)->out.Perm vs->out.Pairwise (fun x y=>lt (y,y) (x,x)=false)->h'.get? D=some (jp "list" out.toArray c)->P (.done (.ret (.ref D))) { s with heap:=h' }):
  cp (model prog w) A (newList vs >>= fun l=>holding [l] (call (.builtin "list.sort") [l] []) >>= fun _=>ret l) P E s:=by
 refine bn (wpAny_newList ?_ (by show vs.length<=_;rw[kj];omega));have z:(s.heap.push (jp "list" vs.toArray 0)).get? s.heap.objs.size=some (jp "list" vs.toArray 0):=cy _ rfl;have keep:∀b o,s.heap.get? b=some o->(s.heap.push (jp "list" vs.toArray 0)).get? b=some o:=fun b o q=>bu _ q;show cp _ _ _ _ _ { s with heap:=s.heap.push (jp "list" vs.toArray 0) };refine bn (jd (gx slot_list_sort ⟨_,z,rfl⟩ entry_list_sort ?body (args_list_sort _)))
 case body=>
  refine Cy (s:={ s with heap:=s.heap.push (jp "list" vs.toArray 0) }) (kd:=kd) (lt:=lt) z hz (fun h3 k=>hkd _ _ h3 fun b o e=>k b o (gy (gi e)) (keep b o e)) (fun h3 k=>hO _ _ h3 fun b o e=>k b o (gy (gi e)) (keep b o e)) fun h' c out k1 hp hs k2=>?_;exact⟨_,rfl,bp (h _ h' c out (dh _) (fun b o e=>k1 b o (gy (gi e)) (keep b o e)) hp hs k2)⟩
theorem GY{l:Addr}{vs:List bo}{kd:sx}{lt:df->df->Bool}{Q:bo->bq->Prop}(hl:s.heap.IsList l vs.toArray)(hz:vs.length<=10000000)
  (hkd:∀(A':iq) (E':bo->bq->Prop) h3,(∀b o,s.heap.get? b=some o->h3.get? b=some o)->∀(Q:sx->bq->Prop),2<=vs.length->Q kd { s with heap:=h3 }->cp (model prog w) A' (keyKind' vs.toArray) Q E' { s with heap:=h3 })
  (hO:∀(A':iq) (E':bo->bq->Prop) h3,(∀b o,s.heap.get? b=some o->h3.get? b=some o)->LtOk prog w A' E' { s with heap:=h3 } kd (fun x=>x.1=x.2/\x.1∈vs) lt)
  (h:∀D h' c (out:List bo),s.heap.objs.size<=D->(∀b o,s.heap.get? b=some o->h'.get? b=some o)->out.Perm vs->out.Pairwise (fun x y=>lt (y,y) (x,x)=false)->h'.get? D=some (jp "list" out.toArray c)->Q (.ref D) { s with heap:=h' }):
  cp (model prog w) A (call (.builtin "sorted") [.ref l]) Q E s:=by
 refine Calls.call_function_entry kind_sorted plain_sorted entry_sorted (args_sorted1 _) ?_;unfold lg.«sorted»;refine bn (m:=checkCount "sorted" 1 1 _) (bp ?_);refine bn (collect_list (vs:=vs) hl ?_ (by rw[kj];omega));refine bn (wpAny_newList ?_ (by show vs.length<=_;rw[kj];omega));have hsz:((s.heap.push (jp "list" #[] 0)).update s.heap.objs.size (kt (· ++ (vs.toArray:Array bo)))).objs.size=s.heap.objs.size+1:=by
  rw[Heap.size_update,size_push']
 have aa:(((s.heap.push (jp "list" #[] 0)).update s.heap.objs.size (kt (· ++ (vs.toArray:Array bo)))).push (jp "list" vs.toArray 0)).get? (s.heap.objs.size+1)=some (jp "list" vs.toArray 0):=by
  rw[<- hsz];exact cy _ rfl
 have keep:∀b o,s.heap.get? b=some o->(((s.heap.push (jp "list" #[] 0)).update s.heap.objs.size (kt (· ++ (vs.toArray:Array bo)))).push (jp "list" vs.toArray 0)).get? b=some o:=fun b o q=>by
  have z:b<s.heap.objs.size:=gi q;rw[Heap.get?_push_ne _ _ _ (by rw[hsz];exact gy (ua z)),Heap.get?_update_ne _ _ _ _ (gy z),Heap.get?_push_ne _ _ _ (gy z)];exact q
 show cp _ _ _ _ _ { s with heap:=((s.heap.push (jp "list" #[] 0)).update s.heap.objs.size (kt (· ++ (vs.toArray:Array bo)))).push (jp "list" vs.toArray 0) };rw[hsz];refine bn (jd (gx slot_list_sort ⟨_,aa,rfl⟩ entry_list_sort ?body (args_list_sort _)))
 case body=>
  refine Cy (s:={ s with heap:=((s.heap.push (jp "list" #[] 0)).update s.heap.objs.size (kt (· ++ (vs.toArray:Array bo)))).push (jp "list" vs.toArray 0) }) (kd:=kd) (lt:=lt) aa hz (fun h3 k=>hkd _ _ h3 fun b o e=>k b o (gy (ua (gi e))) (keep b o e)) (fun h3 k=>hO _ _ h3 fun b o e=>k b o (gy (ua (gi e))) (keep b o e)) fun h' c out k1 hp hs k2=>?_;exact⟨_,rfl,bp ⟨_,rfl,h _ h' c out (le_succ _) (fun b o e=>k1 b o (gy (ua (gi e))) (keep b o e)) hp hs k2⟩⟩
theorem Gj{vs:List bo}{ns:List Int}(hI:kz vs ns)(h2:2<=vs.length){Q:sx->bq->Prop}(h:Q oneType' s):cp (model prog w) A (keyKind' vs.toArray) Q E s:=by
 match vs,hI,h2 with
 |v1::v2::r,hI,_=>
  rw[keyKind_ints hI];exact bp h
end
theorem Ev:∀{vs:List bo}{ns:List Int},kz vs ns->vs.map numOf=ns
 |_,_,.nil=>rfl
 |_,_,.cons n t h=>by rw[ga,Ev h];rfl
theorem D8:∀{vs:List bo},(∀v∈vs,∃n t,v=oo n t)->kz vs (vs.map numOf)
 | [],_=>.nil
 |v::r,h=>by
  obtain⟨n,t,rfl⟩:=h v dw;exact .cons n t (D8 fun x m=>h x (cz _ m))
theorem Jx{out vs:List bo}{ns:List Int}(hI:kz vs ns)(hp:out.Perm vs)(hs:out.Pairwise (fun x y=>decide (numOf (y,y).1<numOf (x,x).1)=false)):kz out (out.map numOf)/\(out.map numOf).Perm ns/\(out.map numOf).Pairwise (· <= ·):=by
 refine⟨D8 fun v m=>hI.all v (hp.mem_iff.mp m),?_,?_⟩
 ·have:=hp.map numOf
  rwa [Ev hI]at this
 ·rw[pp];exact hs.imp fun h=>by have:=of_decide_eq_false h;dsimp only at this;omega
def Al:List V->Hp->VK->Prop:=fun xs H Q=>∃p ob m,xs=[.ref p]/\H p=some (.frz ob (.dK m))/\∃ns:List Int,m.map (·.1)=ns.map vc/\ns.length<=10000000/\∀(l:Addr) (ms:List Int),H l=none->ms.Perm ns->ms.Pairwise (· <= ·)->Q (.ref l) (upd H l (.lst (ms.map V.int)))
theorem L6{X:Cx}(hc:X.calm=true):CallR X (.builtin "sorted") Al:=by
 intro ze s σ H xs us Q I r h;obtain⟨p,ob,m,rfl,hp,ns,em,hn,q⟩:=h;obtain⟨u,rfl,rx⟩:=vals1 r;cases rx;obtain⟨ab,hz,es,ep,vs,eo,kv,da⟩:=A2 I.hok hp;have hl:vs.length=m.length:=kv.length.symm;have hm:m.length=ns.length:=by have:=congrArg ow em;simpa using this
 refine Calls.call_function_entry kind_sorted plain_sorted entry_sorted (args_sorted1 _) ?_;unfold lg.«sorted»;refine bn (m:=checkCount "sorted" 1 1 _) (bp ?_);refine bn (W.kdu_collect (A:=X.A.in1) (W.kdl_dict (knd:=bY X.prog X.w) (kvs:=vs) (ep:=ep) ab) (I.ok.hd hc) da (by rw[hl];exact hz) fun h1 tk acc aa it=>?_);have ha:acc.size=m.length:=it.1.trans hl;have hv:Vals (ns.map V.int) acc.toList:=Db _ _ (by simp[ha,hm]) fun j x u ex eu=>by
  rw[ie]at ex;cases en:ns[j]? with
  |none=>rw[en]at ex;cases ex
  |some n=>
   rw[en]at ex;have ex':V.int n=x:=ji ex;subst ex';obtain⟨k,y,e1,e2⟩:=it.2 j u (by rw[<- jw];exact eu);have ek:(m.map (·.1))[j]?=some (vc n):=by rw[em,ie,en];rfl
   rw[ie]at ek;cases emj:m[j]? with
   |none=>rw[emj]at ek;cases ek
   |some pr=>
    rw[emj]at ek;obtain⟨w,e3,_⟩:=kv.get emj;rw[e1]at e3;cases e3;have:=MK e2;rw[show pr.1=vc n from ji ek]at this;exact this
 have hI:=iP hv;refine L7 (s:={ s with heap:=h1,toks:=tk }) (kd:=oneType') (lt:=fun x y=>decide (numOf x.1<numOf y.1)) (by rw[nJ hI];exact hn) (fun A' E' h3 _ Q h2 z=>Gj hI h2 z) (fun A' E' h3 _=>Hg hI) fun D h' c out hD kp hp hs hg=>?_;obtain⟨o1,o2,o3⟩:=Jx hI hp hs;have I1:Inv X ze σ H { s with heap:=h1,toks:=tk }:=I.kept (t':=tk) aa;refine⟨_,rfl,.ref D,_,I1.laid (t':=tk) kp hD (show ObjOk X.prog X.w _ h' D (.lst ((out.map numOf).map V.int))from⟨?_,out,c,rV o1,hg⟩),rfl,q _ _ (I1.hok.fresh hD) o2 o3⟩;rw[cu,o2.length_eq,kj];omega
def kQ:List XV->Sto->RX->Prop:=fun xs S R=>arg1 xs fun x=>∃m:List (Key×bt),x=.d (.dict (DD.pairs (.k m)))/\∃ns:List Int,m.map (·.1)=ns.map vc/\ns.length<=10000000/\∀ms:List Int,ms.Perm ns->ms.Pairwise (· <= ·)->R (.d (.list (ms.map cq))) S
theorem HasM.keys{H:Hp}:∀{m:List (Key×bt)}{m':List (Key×V)},HasM H m m'->m'.map (·.1)=m.map (·.1)
 | [],_,q=>by
  have e:_=[]:=q;subst e;rfl
 |p::r,_,⟨v,t,e,q,l⟩=>by
  subst e;rw[ga,ga,HasM.keys l]
theorem Kw:RC Al kQ:=fun h o H S xs vs R Q hs hx q c=>by
 obtain⟨x,rfl,m,rfl,ns,em,hn,q1⟩:=cB q;obtain⟨v,rfl,z⟩:=hxs1 hx;obtain⟨a,ob,m',rfl,ea,hm⟩:=oC.mp (show Has (vx h o H) _ _ from z);exact⟨a,ob,m',rfl,zN _ _ ea,ns,hm.keys.trans em,hn,fun l ms hl pm pw=>gX hs (oJ ms) c (q1 ms pm pw) l hl⟩
def v4:V->Int
 | .int n=>n
 |_=>0
def dG(H:Hp):bo->List Int
 | .ref a=>match H a with
  |some (.tup xs)=>xs.map v4
  |_=>[]
 |_=>[]
theorem Dh:∀ns:List Int,(ns.map V.int).map v4=ns
 | []=>rfl
 |n::r=>by rw[ga,ga,Dh r];rfl
theorem FB{H:Hp}{a:Addr}{ns:List Int}(e:H a=some (.tup (ns.map V.int))):dG H (.ref a)=ns:=by
 show (match H a with|some (.tup xs)=>xs.map v4|_=>[])=ns;rw[e];exact Dh ns
def adr:bo->Addr
 | .ref a=>a
 |_=>0
theorem BT:∀{as:List Addr}{us:List bo},Vals (as.map V.ref) us->us=as.map gk
 | [],_,.nil=>rfl
 |a::r,_,.cons e h=>by rw[BT h,show _=gk a from e];rfl
theorem BC{α:Type}:∀zs:List (Addr×α),Vals (zs.map fun z=>V.ref z.1) (zs.map fun z=>gk z.1)
 | []=>.nil
 |a::r=>.cons rfl (BC r)
theorem Gn{P:gf}{w:iu}{H:Hp}{h:Heap}{a:Addr}{ns:List Int}(ok:HOk P w H h)(e:H a=some (.tup (ns.map V.int)))(hn:ns≠[]):TupI h (.ref a) ns:=by
 obtain⟨_,us,rv,ob,hb,cb,n,db⟩:=(show ObjOk P w H h a (.tup (ns.map V.int))from ok a _ e);exact⟨hn,a,ob,us.toArray,n,rfl,hb,cb,db,by simpa using iP rv⟩
theorem TupI.keep{h h':Heap}{v:bo}{ns:List Int}(x:TupI h v ns)(k:∀b o,h.get? b=some o->h'.get? b=some o):TupI h' v ns:=by
 obtain⟨hn,a,o,xs,n,e,g,r⟩:=x;exact⟨hn,a,o,xs,n,e,k _ _ g,r⟩
def Fk(K:fe):List V->Hp->VK->Prop:=fun xs H Q=>∃(p:Addr) (zs:List (Addr×List Int)),xs=[.ref p]/\SqL K H p (zs.map fun z=>V.ref z.1)/\(∀z∈zs,H z.1=some (.tup (z.2.map V.int))/\z.2≠[])/\zs.length<=10000000 /\
 ∀(l:Addr) (ys:List (Addr×List Int)),H l=none->ys.Perm zs->ys.Pairwise (fun x y=>HT.lexLt y.2 x.2=false)->Q (.ref l) (upd H l (.lst (ys.map fun z=>V.ref z.1)))
theorem GV{H:Hp}{zs:List (Addr×List Int)}{out:List bo}(hz:∀z∈zs,H z.1=some (.tup (z.2.map V.int))/\z.2≠[])(hp:out.Perm (zs.map fun z=>gk z.1))(hs:out.Pairwise (fun x y=>HT.lexLt (dG H (y,y).1) (dG H (x,x).1)=false)):
  (out.map fun v=>(adr v,dG H v)).Perm zs/\(out.map fun v=>(adr v,dG H v)).Pairwise (fun x y=>HT.lexLt y.2 x.2=false)/\out=(out.map fun v=>(adr v,dG H v)).map fun z=>gk z.1:=by
 refine⟨?_,?_,?_⟩
 ·refine(hp.map fun v=>(adr v,dG H v)).trans (List.Perm.of_eq ?_);rw[jx]
  conv=>rhs;rw[<- map_id zs]
  exact rh fun z m=>Prod.ext rfl (FB (hz z m).1)
 ·rw[pp];exact hs
 ·rw[jx]
  conv=>lhs;rw[<- map_id out]
  refine rh fun v m=>?_;obtain⟨z,_,rfl⟩:=mem_map.mp (hp.mem_iff.mp m);rfl
theorem KO{X:Cx}:CallR X (.builtin "sorted") (Fk X.K):=by
 intro ze s σ H xs us Q I r h;obtain⟨p,zs,rfl,hq,hz,hn,q⟩:=h;obtain⟨u,rfl,rx⟩:=vals1 r;cases (show u=gk p from rx);obtain⟨aa,rv,pl,_⟩:=I.list hq;have ei:aa=zs.map fun z=>gk z.1:=by
  have:=BT (as:=zs.map (·.1)) (by rw[jx];exact rv);rw[this,jx];rfl
 subst ei;have hT:∀v∈zs.map (fun z=>gk z.1),TupI s.heap v (dG H v):=fun v m=>by
  obtain⟨z,mz,rfl⟩:=mem_map.mp m;rw[FB (hz z mz).1];exact Gn I.hok (hz z mz).1 (hz z mz).2
 refine GY (kd:=tuples' true) (lt:=fun x y=>HT.lexLt (dG H x.1) (dG H y.1)) pl.isList (by rw[cu];exact hn) (fun A' E' h3 k Q h2 z=>MH (s:={ s with heap:=h3 }) (dG H) (fun v m=>(hT v m).keep k) h2 z) (fun A' E' h3 k=>Hd (s:={ s with heap:=h3 }) (dG H) fun v m=>(hT v m).keep k) fun D h' c out hD kp hp hs hg=>?_;obtain⟨o1,o2,o3⟩:=GV hz hp hs;refine⟨.ref D,_,I.laid (t':=s.toks) kp hD (show ObjOk X.prog X.w _ h' D (.lst ((out.map fun v=>(adr v,dG H v)).map fun z=>V.ref z.1))from⟨?_,out,c,?_,hg⟩),rfl,q _ _ (I.hok.fresh hD) o1 o2⟩
 ·rw[cu,o1.length_eq,kj];omega
 ·have:=BC (out.map fun v=>(adr v,dG H v));rw[<- o3]at this;exact this
def kM:List XV->Sto->RX->Prop:=fun xs S R=>arg1 xs fun x=>∃ds,gZ S x=some ds/\∃nss:List (List Int),ds=nss.map rQ/\nss.length<=10000000/\(∀ns∈nss,ns≠[])/\∀mss:List (List Int),mss.Perm nss->mss.Pairwise (fun x y=>HT.lexLt y x=false)->R (.d (.list (mss.map rQ))) S
theorem Bh{H:Hp}:∀{nss:List (List Int)}{ws:List V},HasL H (nss.map rQ) ws->∃zs:List (Addr×List Int),ws=zs.map (fun z=>V.ref z.1)/\zs.map (·.2)=nss/\∀z∈zs,H z.1=some (.tup (z.2.map V.int))
 | [],ws,l=>⟨[],zx.mp l,rfl,fun z m=>by cases m⟩
 |ns::r,ws,l=>by
  obtain⟨v,t,rfl,h1,h2⟩:=zq.mp l;obtain⟨a,us,rfl,ea,la⟩:=zR.mp h1;rw[iX la]at ea;obtain⟨zs,rfl,e2,hz⟩:=Bh h2;refine⟨(a,ns)::zs,rfl,by rw[ga,e2],fun z m=>?_⟩;rcases mem_cons.mp m with rfl|m
  ·exact ea
  ·exact hz z m
theorem E2{H:Hp}:∀{zs:List (Addr×List Int)},(∀z∈zs,H z.1=some (.tup (z.2.map V.int)))->HasL H ((zs.map (·.2)).map rQ) (zs.map fun z=>V.ref z.1)
 | [],_=>zx.mpr rfl
 |z::r,h=>zq.mpr ⟨_,_,rfl,zR.mpr ⟨z.1,_,rfl,h z dw,oJ z.2⟩,E2 fun x m=>h x (cz _ m)⟩
theorem Em{K:fe}:RC (Fk K) kM:=fun h o H S xs vs R Q hs hx q c=>by
 obtain⟨x,rfl,ds,hd,ac,rfl,hn,ab,q1⟩:=cB q;obtain⟨v,rfl,aa⟩:=hxs1 hx;obtain⟨a,ws,rfl,ea,l⟩:=cA hs hd aa;obtain⟨zs,rfl,e2,hz⟩:=Bh l;subst e2;refine⟨a,zs,rfl,.of ea,fun z m=>⟨zN _ _ (hz z m),ab _ (oy m)⟩,by simpa using hn,fun l ys hl pm pw=>?_⟩;exact gX hs (E2 (zs:=ys) fun z m=>hz z (pm.mem_iff.mp m)) c (q1 _ (pm.map _) (by rw[pp];exact pw)) l hl
end L2
namespace L2
open PySem PySem.Spec PySem.Calls PyProof.Rows
def oQ(j:Nat)(dk dv:DM->DE):DSm:=fun En δ S M=>zh j δ S fun y S1=>∃a m,y=.o (.ref a)/\(a,DD.k m)∈M/\dk M δ S1 fun z S2=>dv M δ S2 fun x S3=>asD z fun k=>asD x fun d=>∃kk,gD k=some kk/\m.length<1000/\if (lkA m kk).isSome=true then En.nx δ S3 M else En.nx δ S3 (cK M a (.k (ptA m kk d)))
def oY(k:Int)(e:DE):DE:=fun δ S R=>e δ S fun x S1=>asD x fun d=>R (.d (.dict [(.int k,d)])) S1
end L2
namespace L2
open PySem PySem.Spec PyProof.Rows
section
section
variable {X:Cx}{es l:List Expr}{te tk tv:TE}{t:TA}{p pos':Pos}{ks:List (Option Expr)}{e k v:Expr}{x:Str}{ps:List Str}{j:Nat}
theorem F1{q:PN}{n:Nat}(D:Df X.prog X.w X.K X.mg X.base x ps n (spN ps q))(hr:Room j X.A)(hk:n<=j)(ha:QA X (e::es) t)(hg:Gl X x:=by rfl)(z:(x==("__debug__":Str))=false:=by decide)
  (q1:fx (e::es) X.env=(false,eval e X.env)::fx es X.env:=by rfl) (q2:((rb p (fx es X.env)).any fun x=>x.fst)=false:=by rfl):PE X (.Call (.Name x pos') (e::es) [] p) (fS (spN ps q) [] E0 t):=zw D hr hk ha.out hg z q1 q2
end
end
end L2
namespace L2
theorem len0{α:Type}{l:List α}(h:l.length=0):l=[]:=ju h
theorem len1{α:Type}{l:List α}(h:l.length=1):∃a0,l=[a0]:=by
 cases l with
 |nil=>cases h
 |cons x r=>
  obtain rfl:=len0 (Nat.succ.inj h);exact⟨x,rfl⟩
theorem len2{α:Type}{l:List α}(h:l.length=2):∃a0 a1,l=[a0,a1]:=by
 cases l with
 |nil=>cases h
 |cons x r=>
  obtain⟨a1,rfl⟩:=len1 (Nat.succ.inj h);exact⟨x,a1,rfl⟩
theorem len3{α:Type}{l:List α}(h:l.length=3):∃a0 a1 a2,l=[a0,a1,a2]:=by
 cases l with
 |nil=>cases h
 |cons x r=>
  obtain⟨a1,a2,rfl⟩:=len2 (Nat.succ.inj h);exact⟨x,a1,a2,rfl⟩
theorem len4{α:Type}{l:List α}(h:l.length=4):∃a0 a1 a2 a3,l=[a0,a1,a2,a3]:=by
 cases l with
 |nil=>cases h
 |cons x r=>
  obtain⟨a1,a2,a3,rfl⟩:=len3 (Nat.succ.inj h);exact⟨x,a1,a2,a3,rfl⟩
end L2
namespace L2
open PySem PySem.Spec PyProof.Rows
section
section
variable {prog:gf}{w:iu}{A:iq}{E:bo->bq->Prop}{s:bq}
theorem SetI.few{led:Bool}{h:Heap}{S:Addr}{es:Array (Int×bo)}(hS:SetI led h S es)(L:List Int)(hk:∀x,x∈es.toList.map kE->x∈L):es.size<=L.length:=by
 obtain⟨o,ep,t,ho,z,hd,hok,q,aa,tb⟩:=hS;have:=lY _ L q hk
 rwa [cu,gh]at this
theorem Mf{R:Result->bq->Prop}{I:Addr}{fp wr:List Addr}{G:Array GenState->Array GenState->Prop}{n:Nat}{P:Nat->bo->Prop}{St:Nat->bq->Prop}{led:Bool}(W:WalksS prog w A.in1 I fp wr G n P St)(L:List Int)(hn:L.length<60)(S:Addr)(af:S∉fp)
  (key:Nat->Int) (hP:∀i v,P i v->∃tk,v=.int (key i) tk) (hkL:∀i,i<n->key i∈L):
  ∀(m i:Nat) (s:bq) (es:Array (Int×bo)),n-i=m->i<=n->St i s->SetI led s.heap S es->(∀x,x∈es.toList.map kE↔∃j,j<i/\x=key j) ->
  (∀s' q,Moved (S::wr) G s s'->SetI led s'.heap S q->(∀x,x∈q.toList.map kE↔∃j,j<n/\x=key j)->R (.ok (.ret .none)) s') ->
  codeAny (model prog w) A (.builtin "set.update.loop" ⟨[.ref S,.ref I],[]⟩) R s:=by
 have ag:S∉wr:=fun h=>af (W.sub _ h);have aa:∀b∈wr,b∈S::wr:=fun b hb=>cz _ hb;intro m;induction m with
 |zero=>
  intro i s es hm hi ab hS hk hR;obtain rfl:i=n:=yw
  refine lf F4.entry_update_loop ?_;rw[ku F4.plain_update_loop _];show cp _ A.in1 (nq (.ref I) >>= _) _ _ s;refine bn (W.done s _ _ ab fun s' mv=>?_);exact bp (hR s' es (mv.mono aa) (hS.at fun o e=>mv.heap S o ag e) hk)
 |succ m ih=>
  intro i s es hm hi ab hS hk hR;have ac:i<n:=yw
  refine lf F4.entry_update_loop ?_;rw[ku F4.plain_update_loop _];show cp _ A.in1 (nq (.ref I) >>= _) _ _ s;refine bn (W.item i s _ _ ac ab fun v s' hv ah mv=>?_);obtain⟨tk,rfl⟩:=hP i v hv;have ae:SetI led s'.heap S es:=hS.at fun o e=>mv.heap S o ag e;have few:=ae.few L fun x m=>by
   obtain⟨j,hj,rfl⟩:=(hk x).mp m;exact hkL j yw
  refine bn (jd (C5 ae yw fun b h' q sb S' mk z'=>?_));refine bp ⟨uq F4.plain_update_loop _,ih (i+1) _ q yw ac (W.frame _ s' h' (s'.toks+1) ah (le_succ _) fun b hb o e=>sb.extBut b o (fun z=>af (z▸hb)) e) S' (fun x=>?_) fun s'' es'' mv'' S'' k''=>?_⟩
  ·rw[mk x,hk x];constructor
   ·rintro(⟨j,hj,e⟩|e)
    ·exact⟨j,yw,e⟩
    ·exact⟨i,yw,e⟩
   ·rintro⟨j,hj,e⟩;by_cases z:j=i
    ·subst z;exact .inr e
    ·exact .inl ⟨j,yw,e⟩
  ·exact hR s'' es'' (Moved.trans W.gtrans ((mv.mono aa).then_heap (le_succ _) fun b o hb e=>sb.extBut b o (fun z=>hb (z▸dw)) e) mv'') S'' k''
theorem HQ{S l:Addr}{vs:Array bo}{ns:List Int}{led:Bool}{Q:Unit->bq->Prop}(hh:A.handled=none)(hS:SetI led s.heap S #[])(hl:s.heap.IsList l vs)(hz:vs.size=ns.length)(hv:∀(i:Nat) v,vs[i]?=some v->∃tk,v=.int (ns.getD i 0) tk)(L:List Int)(hn:L.length<60)(hL:∀x∈ns,x∈L)
  (h:∀h' tk es,(∀b o,b≠S->s.heap.get? b=some o->h'.get? b=some o)->SetI led h' S es->(∀x,x∈es.toList.map kE↔x∈ns)->Q () { s with heap:=h',toks:=tk }):
  cp (model prog w) A (Builtin.Frozenset.updateFrom "set.__init__" S (.ref l)) Q E s:=by
 have ty:s.TypeIs (.ref l) "list":=by
  obtain⟨o,e,c,_⟩:=hl;exact⟨o,e,c⟩
 have lS:l≠S:=fun e=>by
  obtain⟨o,_,_,e1,c1,_⟩:=hS;obtain⟨o',e',c',_⟩:=hl;rw[e,e1]at e';cases e';rw[c1.1]at c';simp at c'
 unfold Builtin.Frozenset.updateFrom Builtin.Frozenset.isAnySet;refine bn (bn (kx ty F4.sub_list_set (kx ty F4.sub_list_frz ?_)));simp only[fg,if_false];refine bn (ug ty ?_);rw[cm dz];refine bn (qv hl ?_);obtain⟨o,eo⟩:∃o,s.heap.get? l=some o:=⟨_,hl.choose_spec.1⟩;obtain⟨oS,eS⟩:∃o,s.heap.get? S=some o:=⟨_,hS.choose_spec.choose_spec.choose_spec.1⟩;have ll:=gi eo;have z:=gi eS;have up:∀b ob,s.heap.get? b=some ob->(s.heap.push { cls:=.type "list_iterator",data:=.fields #[.ref l,.int 0 0] }).get? b=some ob:=fun b ob e=>bu _ e;have W:=(Walks.list (prog:=prog) (w:=w) (A:=A.in1) hh s.heap.objs.size l (gy ll) vs).toS;refine bn (wpAny_runValue (Mf (led:=led) W L hn S (by
  simp only[mw,km,or_false,not_or];exact⟨gy z,fun e=>lS e.symm⟩) (fun i=>ns.getD i 0) hv (fun j hj=>hL _ (by
   rw[hz]at hj;simp only[fj,cw hj];exact qd hj)) _ 0 _ #[] rfl (nj _) ⟨⟨_,cy _ rfl,rfl,rfl⟩,hl.at fun ob e=>up l ob e⟩ (hS.at fun ob e=>up S ob e) yv fun s' es mv S' ks=>?_))
 refine bp ?_;obtain⟨h',ab,ac,q,aa⟩:=s';obtain⟨m1,m2,m3,m4,m5⟩:=mv;dsimp only at m1 m2 m3 m4 m5 S';subst m2 m3 m4;refine h h' q es (fun b ob nb e=>m1 b ob (by
  simp only[mw,km,or_false,not_or];exact⟨nb,gy (gi e)⟩) (up b ob e)) S' fun x=>?_
 rw[ks x,hz];constructor
 ·rintro⟨j,hj,rfl⟩;rw[fj,cw hj];exact qd hj
 ·intro m;obtain⟨j,hj,e⟩:=List.mem_iff_getElem.mp m;exact⟨j,hj,by rw[fj,cw hj];exact e.symm⟩
theorem Ep{l:Addr}{vs:Array bo}{ns:List Int}{Q:bo->bq->Prop}(hh:A.handled=none)(hl:s.heap.IsList l vs)(hz:vs.size=ns.length)(hv:∀(i:Nat) v,vs[i]?=some v->∃tk,v=.int (ns.getD i 0) tk)(L:List Int)(hn:L.length<60)(hL:∀x∈ns,x∈L)
  (h:∀a h' tk es,s.heap.objs.size<=a->(∀b o,s.heap.get? b=some o->h'.get? b=some o)->SetI (!w.params.followText "set-order") h' a es->(∀x,x∈es.toList.map kE↔x∈ns)->Q (.ref a) { s with heap:=h',toks:=tk }):
  cp (model prog w) A (call (.type "set") [.ref l]) Q E s:=by
 obtain⟨c,tl,ac⟩:=F.called_set.mro;have z:=F.called_set.made;have ae:=F.called_set.sub;refine wpAny_call (codeAny_of_tree ?_);show cp _ _ (callAny (.type "set") _) _ _ _;refine bp ⟨Code.quiet_builtin _ (by decide +kernel),lf F.entry_type_call ?_⟩;rw[Around.under_plain (weight_type_call_type "set" [.ref l] []) rfl];have h1:=F.called_set.notType;have h2:=F.called_set.canCreate;have af:=F4.typeCall_set_1 (.ref l)
 repeat (any_goals (first|assumption|wp_step))
 generalize hO:({ cls:=.type "set",dict:=none,data:=.set #[] 0 (.fresh 0 0 (!w.params.followText "set-order")) }:Obj)=O;refine uf (Dq (E:=E) (Q:=fun ob s1=>ob=.ref s.heap.objs.size/\s1 = { s with heap:=s.heap.push O }) ⟨rfl,by rw[hO]⟩) fun r s1 hr=>?_;cases r with
 |error e=>exact hr
 |ok fl=>
  cases fl with
  |ret obj=>
   obtain⟨rfl,rfl⟩:=hr;have hS:(s.heap.push O).get? s.heap.objs.size=some O:=cy _ (by rw[<- hO];rfl);have hT:Shared.TypeIs { s with heap:=s.heap.push O } (.ref s.heap.objs.size) "set":=⟨_,hS,by rw[<- hO]⟩;have ag:=F.called_set.init.lookup;have ah:=F.called_set.init.bind (.ref s.heap.objs.size)
   repeat (any_goals (first|assumption|wp_step))
   refine uf (codeAny_call_builtin (R:=wants (fun r s2=>r=.none/\Q (.ref s.heap.objs.size) s2) E) F.called_set.init.plain F.entry_set_init (Cm hT ?_)) fun r2 s2 q=>?_
   ·unfold lg.«set.__init__» noKeywords;have ab:SetI (!w.params.followText "set-order") (s.heap.push O) s.heap.objs.size #[]:=by
     subst hO;exact⟨_,_,_,hS,⟨rfl,rfl,rfl⟩,rfl,yv,yv,yv,Bi _⟩
    have aa:(s.heap.push O).IsList l vs:=hl.at fun ob e=>bu _ e;subst hO;have key:=fun Q1=>@HQ prog w A.in1.in1 (fun e s'=>wants (fun r s2=>r=lj/\Q (gk s.heap.objs.size) s2) E (Except.error e) s') { s with heap:=s.heap.push { cls:=.type "set",dict:=none,data:=.set #[] 0 (.fresh 0 0 (!w.params.followText "set-order")) } } s.heap.objs.size l vs ns (!w.params.followText "set-order") Q1 hh ab aa hz hv L hn hL
    wp_walk using key _
    intro h' tk es kp S' ks;exact bp ⟨rfl,h _ h' tk es (dh _) (fun b o e=>kp b o (gy (gi e)) (bu _ e)) S' ks⟩
   ·cases r2 with
    |error e=>exact q
    |ok fl2=>
     cases fl2 with
     |ret r=>
      obtain⟨rfl,hq⟩:=q
      repeat (any_goals (first|assumption|wp_step))
     |_=>exact q.elim
  |_=>exact hr.elim
theorem Ll{l:Addr}{vs:Array bo}{ns:List Int}{Q:bo->bq->Prop}(hh:A.handled=none)(hl:s.heap.IsList l vs)(hz:vs.size=ns.length)(hv:∀(i:Nat) v,vs[i]?=some v->∃tk,v=.int (ns.getD i 0) tk)(L:List Int)(hn:L.length<60)(hL:∀x∈ns,x∈L)
  (h:∀D h' tk d out ms c,s.heap.objs.size<=D->(∀b o,s.heap.get? b=some o->h'.get? b=some o)->kz out ms->ms.Pairwise (· < ·)->(∀x,x∈ms↔x∈ns)->h'.get? D=some (jp "list" out.toArray c)->Q (.ref D) { s with heap:=h',toks:=tk,drawn:=d }):
  cp (model prog w) A (call (.type "set") [.ref l]) (fun a s'=>cp (model prog w) A (call (.builtin "sorted") [a]) Q E s') E s:=by
 refine Ep hh hl hz hv L hn hL fun a h1 tk es ha ab ac hk=>?_;obtain⟨o,ep,t,ho,ae,hd,hok,aa,af,tb⟩:=ac;refine Calls.call_function_entry kind_sorted plain_sorted entry_sorted (args_sorted1 _) ?_;unfold lg.«sorted»;refine bn (m:=checkCount "sorted" 1 1 1) (bp ?_);refine bn (Az (s:={ s with heap:=h1,toks:=tk }) (A:=A.in1) hh ho ae hd tb af fun h2 d us hp z=>?_);have ul:us.length=es.size:=by rw[hp.length_eq,cu,gh]
 have ui:∀v∈us,∃n t,v=oo n t:=fun v m=>by
  obtain⟨e,me,rfl⟩:=mem_map.mp (hp.mem_iff.mp m);obtain⟨n,t,e1,_⟩:=hok e me;exact⟨n,t,e1⟩
 obtain⟨ag,hI,e0⟩:=y9 ui;have p0:ag.Perm (es.toList.map kE):=by
  rw[e0];refine(hp.map fun v=>kE (0,v)).trans ?_;rw[jx];exact qk _
 have el:es.size<=L.length:=by
  have:=lY _ L aa fun x m=>hL x ((hk x).mp m)
  rwa [cu,gh]at this
 refine bn (wpAny_newList ?_ (by rw[ul,kj];omega));have q:(h2.push (jp "list" us.toArray 0)).get? h2.objs.size=some (jp "list" us.toArray 0):=cy _ rfl;refine bn (jd (gx slot_list_sort ⟨_,q,rfl⟩ entry_list_sort (list_sort_tree (s:={ s with heap:=h2.push (jp "list" us.toArray 0),toks:=tk,drawn:=d }) q hI yw fun out ms a1 a2 a3=>⟨_,rfl,?_⟩) (args_list_sort _)));have np:ms.Nodup:=(a2.trans p0).nodup_iff.mpr aa;obtain⟨c,hc⟩:=sortedHeap_at (out:=out) q;refine bp ⟨_,rfl,h h2.objs.size _ tk d out.toList ms c ?_ (fun b o e=>?_) a1 ?_ (fun x=>?_) ?_⟩
 ·exact lw ha (lz (gi (z a o ho)))
 ·have e2:=z b o (ab b o e);have lb:=gi e2;rw[sortedHeap_old (gy lb) (by rw[size_push'];exact ua lb)];exact bu _ e2
 ·exact(List.Pairwise.and a3 np).imp fun⟨h1,h2⟩=>by omega
 ·rw[(a2.trans p0).mem_iff,hk x]
 ·simpa using hc
end
def D7(K:fe):List V->Hp->VK->Prop:=fun xs H Q=>∃(p:Addr) (ns:List Int),xs=[.ref p]/\SqL K H p (ns.map V.int)/\(∃L:List Int,L.length<60/\∀x∈ns,x∈L)/\∀(l:Addr) (ms:List Int),H l=none->ms.Pairwise (· < ·)->(∀x,x∈ms↔x∈ns)->Q (.ref l) (upd H l (.lst (ms.map V.int)))
section
variable {X:Cx}{e:Expr}{t:TA}{p p2 pos pos2:Pos}
theorem Ko(hc:X.calm=true)(aa:Gl X "sorted")(ac:X.mg "sorted" = none)(af:Gl X "set")(ae:X.mg "set" = none)(ha:PA X [e] t)
  (he:fx [e] X.env=(false,eval e X.env)::fx [] X.env:=by rfl) (hpl:(rb pos2 (fx [] X.env)).any (·.1)=false:=by rfl)
  (he2:fx [vb (.Name "set" p2) [e] [] pos2] X.env=(false,eval (vb (.Name "set" p2) [e] [] pos2) X.env)::fx [] X.env:=by rfl) (hpl2:(rb pos (fx [] X.env)).any (·.1)=false:=by rfl):
  PE X (.Call (.Name "sorted" p) [.Call (.Name "set" p2) [e] [] pos2] [] pos) (tCB (D7 X.K) t):=by
 intro ze s σ H Q I h;refine lc (eJ I aa ac boot_sorted ?_);refine PyProof.Rows.callWith_builtin1 ?_ he2 hpl2;rw[he2];show cp _ _ (spliced [(false,eval (vb (.Name "set" p2) [e] [] pos2) X.env)]) _ _ s;refine Calls.spliced_cons ?_;refine lc (eJ I af ae AK ?_);refine kr (thn (ha pos2 ze s σ H _ I h) fun us s1 ⟨vs,H1,I1,r1,q1⟩=>?_) he hpl;obtain⟨pl,ns,rfl,hq,⟨L,hn,hL⟩,q⟩:=q1;obtain⟨u,rfl,rx⟩:=vals1 r1;cases (show u=gk pl from rx);obtain⟨ag,rv,ab,_⟩:=I1.list hq;have hI:=iP rv;refine qe (Ll (ns:=ns) (I1.ok.hd hc) ab.isList (by rw[fq];exact nJ hI) (fun i v hv=>uL hI i v (by simpa using hv)) L hn hL fun D h' tk d out ms c hD kp oI pw mm hg=>?_) (fun a s2 z=>Calls.spliced_nil z) fun _ _ z=>z;refine⟨.ref D,_,((I1.drw d).laid (t':=tk) kp hD (show ObjOk X.prog X.w _ h' D (.lst (ms.map V.int))from⟨?_,out,c,rV oI,hg⟩)),rfl,q D ms (I1.hok.fresh hD) pw mm⟩;have:=lY ms L (pw.imp fun h=>by omega) fun x m=>hL x ((mm x).mp m);rw[cu,kj];omega
end
def j7:List XV->Sto->RX->Prop:=fun xs S R=>arg1 xs fun x=>∃ds,gZ S x=some ds/\∃ns:List Int,ds=ns.map cq/\(∃L:List Int,L.length<60/\∀x∈ns,x∈L)/\∀ms:List Int,ms.Pairwise (· < ·)->(∀x,x∈ms↔x∈ns)->R (.d (.list (ms.map cq))) S
theorem E8{K:fe}:RC (D7 K) j7:=fun h o H S xs vs R Q hs hx q c=>by
 obtain⟨x,rfl,ds,hd,ns,rfl,hn,q1⟩:=cB q;obtain⟨v,rfl,z⟩:=hxs1 hx;obtain⟨a,ws,rfl,ea,l⟩:=cA hs hd z;rw[iX l]at ea;refine⟨a,ns,rfl,.of ea,hn,fun l ms hl pw mm=>?_⟩;exact gX hs (oJ ms) c (q1 ms pw mm) l hl
end
section
def oN:List XV->Sto->RX->Prop:=fun xs S R=>arg1 xs fun x=>∃ns:List Int,x=.d (.tuple (ns.map cq))/\ns.length<=10000000/\∀ms:List Int,ms.Perm ns->ms.Pairwise (· <= ·)->R (.d (.list (ms.map cq))) S
end
end L2
namespace L2
open PySem PySem.Spec PySem.Calls PyProof.Rows
open Sem (wp)
def sC(a:DA):DE:=fun δ S R=>a δ S fun xs S1=>arg2 xs fun x y=>∃ds,bT x=some ds/\∃es,bT y=some es/\min ds.length es.length<=1000/\R (.d (.list (cJ ds es))) S1
end L2
namespace L2
open PySem PySem.Spec PyProof.Rows
section
theorem lo{sc:Scope}{x:Str}(h:sc.names.lookup x=some .local:=by rfl):Loc sc x:=je h
theorem fsd{N P:List Str}{sc:Scope}(h:wD N P sc=true:=by decide +kernel):FnScope N P sc:=fsc h
end
end L2
namespace L2
open PySem PySem.Spec PySem.Calls PyProof.Rows
inductive AllK {α:Type} (F:α->bo->Prop):List α->List bo->Prop
 |nil:AllK F [] []
 |cons {k v ks vs}:F k v->AllK F ks vs->AllK F (k::ks) (v::vs)
section
variable {prog:gf}{w:iu}{A:iq}{E:bo->bq->Prop}{s:bq}
structure DOb(h:Heap)(d:Addr)(ob:Obj)(es:Array tw)(ep:Nat):Prop where
 at_:h.get? d=some ob
 ex:ob.ExactDict
 dt:ob.data=.dict es ep
end
end L2
namespace L2
open PySem PySem.Spec PySem.Calls PyProof.Rows
section
variable {prog:gf}{w:iu}{A:iq}{E:bo->bq->Prop}{s:bq}
theorem Ly{d:Addr}(hd:(d==ly)=false):MeetsIn prog w (lg.«dict.values» ⟨[.ref d],[]⟩) (fun _ R s=>s.TypeIs (.ref d) "dict" /\
   R (.ok (.ret (.ref s.heap.objs.size))) { s with heap:=s.heap.push { cls:=.type "dict_values",data:=.fields #[.ref d] } }):=
 .of_wp fun A R s ⟨hT,h⟩=>by
  refine bn ?_;unfold Builtin.Dict.noArgs;refine bn (wpAny_notOrdered_dict hT ?_);show cp _ _ (pure d) _ _ s;refine bp ?_;show cp _ _ (Builtin.Dict.showsAll d >>= _) _ _ s;unfold Builtin.Dict.showsAll;rw[cm (by rw[hd];exact jg)];exact bn (bp (bn (io (bp ⟨_,rfl,h⟩))))
theorem IP{v d:Addr}{ob:Obj}{es:Array tw}{ep:Nat}{Q:bo->bq->Prop}(hv:s.heap.IsValuesView v d)(hm:DOb s.heap d ob es ep)
  (hQ:Q (.ref s.heap.objs.size) { s with heap:=s.heap.push { cls:=.type "dict_valueiterator",data:=.fields #[.ref d,.int 0 0,.int es.size 0,.int ep 0] } }):cp (model prog w) A (pyIter (.ref v)) Q E s:=by
 obtain⟨ov,z,ab,aa⟩:=id hv;have q:Builtin.Dict_items.ownsTuple "dict_valueiterator" = false:=by decide
 refine wpAny_pyIter_slot hv.typeIs F.slot_dict_values_iter (gx F.slot_dict_values_iter hv.typeIs F.entry_dict_values_iter ?_ (F.args_dict_values_iter_1 _));unfold lg.«dict_values.__iter__» Builtin.Dict_items.dictOf Builtin.Dict_items.newIterator;refine bn (bp (bn (bn (jt z aa (x:=.ref d) rfl (bp (bn (bn (wpAny_dictEntries hm.at_ hm.dt (bn (wpAny_dictEpoch hm.at_ hm.dt ?_))))))))));simp only[q,fg,if_false];refine io (bp ⟨_,rfl,"dict_valueiterator",_,⟨_,cy _ rfl,rfl⟩,F.slot_dict_valueiterator_next.lookup,?_⟩);simpa[nr]using hQ
theorem G8{it d:Addr}{ob:Obj}{es:Array tw}{i ep:Nat}{e:tw}{Q:Option bo->bq->Prop}(q:s.heap.IsValIter it d i es.size ep)(hm:DOb s.heap d ob es ep)(hx:es[i]?=some e)
  (hQ:∀h',h'.IsValIter it d (i+1) es.size ep->gd it s.heap h'->Q (some e.val) { s with heap:=h' }):cp (model prog w) A (nq (.ref it)) Q E s:=by
 obtain⟨o,ho,hc,hd⟩:=id q;have aa:Builtin.Dict_items.ownsTuple "dict_valueiterator" = false:=by decide
 unfold nq;refine bn (nl (gw (name:=lh "__next__") q.typeIs F.slot_dict_valueiterator_next (gx F.slot_dict_valueiterator_next q.typeIs F.entry_dict_valueiterator_next ?_ (F.args_dict_valueiterator_next_1 _))));refine bn (bp (bn (bn ?_)))
 first|refine bn (wpAny_typeNameOfWhole_valiter q.typeIs (bp ?_))|refine bn (wpAny_typeNameOf_valiter q.typeIs (bp ?_))
 refine bn (ue ho hd ?_);simp only[aa,fg,if_false];show cp _ _ (if (gk d==lj)=true then _ else _) _ _ s;rw[cm (show ¬((gk d==lj)=true)from jg)];refine bn (bp (bn (wpAny_dictEntries hm.at_ hm.dt ?_)));rw[cm yv];refine bn (bp (bn (wpAny_dictEpoch hm.at_ hm.dt ?_)));rw[cm yv];refine bp ?_;simp only[show ¬((i:Int)<0)from by omega,if_false,im,hx];refine bn ?_
 first|refine bn (wpAny_typeNameOfWhole_valiter q.typeIs (bp ?_))|refine bn (wpAny_typeNameOf_valiter q.typeIs (bp ?_))
 refine bn (wpAny_isOneOf_valiter q.typeIs ?_);show cp _ _ (setField (.ref it) 1 (nr ((i:Int)+1)) >>= _) _ _ s;refine bn (wpAny_setField ho hd yv ?_);have z:(s.heap.update it (Obj.mapFields (·.setIfInBounds 1 (nr ((i:Int)+1))))).IsValIter it d (i+1) es.size ep:=⟨_,uh _ ho (Obj.isFreed_of_fields (Obj.data_mapFields hd _)),(Obj.cls_mapFields ..).trans hc,by rw[Obj.data_mapFields hd];simp[nr]⟩;refine bn (jd (bn (wpAny_isOneOf_valiter (s:={ s with heap:=s.heap.update it (Obj.mapFields (·.setIfInBounds 1 (nr ((i:Int)+1)))) }) z.typeIs (bn (wpAny_isOneOf_valiter (s:={ s with heap:=s.heap.update it (Obj.mapFields (·.setIfInBounds 1 (nr ((i:Int)+1)))) }) z.typeIs ?_)))));show cp _ _ (pure e.val) _ _ _;exact bp (bp ⟨_,rfl,bp (hQ _ z (kg ..))⟩)
theorem JI{it d:Addr}{ob:Obj}{es:Array tw}{i ep:Nat}{Q:Option bo->bq->Prop}(hh:A.handled=none)(q:s.heap.IsValIter it d i es.size ep)(hm:DOb s.heap d ob es ep)(hx:es.size<=i)
  (hQ:∀h',va it s.heap h'->Q none { s with heap:=h' }):cp (model prog w) A (nq (.ref it)) Q E s:=by
 obtain⟨o,ho,hc,hd⟩:=id q;have z:Builtin.Dict_items.ownsTuple "dict_valueiterator" = false:=by decide
 unfold nq;refine bn (nl (gw (name:=lh "__next__") q.typeIs F.slot_dict_valueiterator_next (gx F.slot_dict_valueiterator_next q.typeIs F.entry_dict_valueiterator_next ?_ (F.args_dict_valueiterator_next_1 _))));refine bn (bp (bn (bn ?_)))
 first|refine bn (wpAny_typeNameOfWhole_valiter q.typeIs (bp ?_))|refine bn (wpAny_typeNameOf_valiter q.typeIs (bp ?_))
 refine bn (ue ho hd ?_);simp only[z,fg,if_false];show cp _ _ (if (gk d==lj)=true then _ else _) _ _ s;rw[cm (show ¬((gk d==lj)=true)from jg)];refine bn (bp (bn (wpAny_dictEntries hm.at_ hm.dt ?_)));rw[cm yv];refine bn (bp (bn (wpAny_dictEpoch hm.at_ hm.dt ?_)));rw[cm yv];refine bp ?_;simp only[show ¬((i:Int)<0)from by omega,if_false,im,Array.getElem?_eq_none hx];refine bn ?_
 first|refine bn (wpAny_typeNameOfWhole_valiter q.typeIs (bp ?_))|refine bn (wpAny_typeNameOf_valiter q.typeIs (bp ?_))
 show cp _ _ (setField (.ref it) 0 .none >>= _) _ _ s;refine bn (wpAny_setField ho hd yv ?_);show cp _ _ (newExc (.type "StopIteration") [] >>= _) _ _ _;simp only[newExc,newTuple];refine bn (bn (io ?_ (by size_fits)));refine bn (m:=uc _ _) (wpAny_of_eq (a:=lj) (by first|rfl|(simp only[uc];rfl)) ?_);refine io ?_ (by size_fits);simp only[raiseNew];refine bn (wpAny_handled ?_);rw[show A.in1.handled=none from hh];refine bn (bp (wpAny_throw ?_));refine bn (kx (T:="StopIteration") (b:=true) ⟨_,cy _ rfl,rfl⟩ isSubtype_stop ?_);exact bp (hQ _ (((kg ..).extBut.push _).push _))
theorem DOb.at{h h':Heap}{d:Addr}{ob:Obj}{es:Array tw}{ep:Nat}(x:DOb h d ob es ep)(k:∀o,h.get? d=some o->h'.get? d=some o):DOb h' d ob es ep:=⟨k _ x.at_,x.ex,x.dt⟩
theorem Hw(hh:A.handled=none)(I d:Addr)(ab:d≠I)(ob:Obj)(es:Array tw)(ep:Nat):
  Walks prog w A I [I,d] [I] es.size (fun i v=>∃e,es[i]?=some e/\v=e.val) (fun i h=>h.IsValIter I d i es.size ep/\DOb h d ob es ep) where
 sub:=fun b hb=>by simp at hb;simp[hb]
 frame:=fun _ _ _ st hk=>⟨let ⟨o,ho,r⟩:=st.1;⟨o,hk I yv o ho,r⟩,st.2.at fun o e=>hk d yv o e⟩
 item:=fun i s Q E hi st hQ=>by
  refine G8 st.1 st.2 (gu hi) fun h' z sb=>?_;exact hQ _ h' s.toks ⟨_,gu hi,rfl⟩ ⟨z,st.2.at fun o e=>sb.extBut d o ab e⟩ fun b o hb e=>sb.extBut b o (fun q=>hb (by simp[q])) e
 done:=fun s Q E st hQ=>JI hh st.1 st.2 (dh _) fun h' aa=>hQ h' s.toks fun b o hb e=>aa b o (fun q=>hb (by simp[q])) e
 self:=fun _ _ _ _ st hQ=>wpAny_pyIter_valiter st.1 hQ
theorem Ln{r d:Addr}{ob:Obj}{es:Array tw}{ep:Nat}:W.KdlSrc prog w "dict_values" r d es.size (fun i v=>∃e,es[i]?=some e/\v=e.val) (fun h=>h.IsValuesView r d/\DOb h d ob es ep) where
 type:=fun _ hm=>hm.1.typeIs
 there:=fun _ hm=>⟨let ⟨_,ho,_⟩:=hm.1;gi ho,gi hm.2.at_⟩
 keep:=fun _ _ hm hk=>⟨let ⟨o,ho,x⟩:=hm.1;⟨o,hk r (.inl rfl) o ho,x⟩,hm.2.at fun o e=>hk d (.inr rfl) o e⟩
 notList:=by decide
 notTuple:=by decide
 hint:=fun _ _ _ _ hm hq=>W.kdl_hint_values hm.1.typeIs hq
 iter:=fun _ _ hh hm=>⟨_,_,(fun _ _ hq=>IP hm.1 hm.2 hq),Hw hh _ d (gy (gi hm.2.at_)) ob es ep,⟨⟨_,cy _ rfl,rfl,rfl⟩,hm.2.at fun o e=>bu _ e⟩⟩
end
def vwO(p a:Addr):HO:=.ext fun h=>h.IsValuesView p a
theorem MB{P:gf}{w:iu}{H:Hp}{h:Heap}{p a:Addr}(e:h.IsValuesView p a):ObjOk P w H h p (vwO p a):=⟨e,let ⟨o,ho,_⟩:=e;⟨o,ho⟩,fun h1 h2 ⟨o,ho,x⟩ k=>⟨o,k o ho,x⟩⟩
def Bu(td:TE):TE:=fun σ H Q=>td σ H fun x H1=>∃a,x=.ref a/\IsD H1 a/\∀p,H1 p=none->Q (.ref p) (upd H1 p (vwO p a))
section
variable {X:Cx}{apos cpos:Pos}{l:Expr}{te:TE}
theorem Jf(hl:PE X l te)(aa:attributeBase l "values" X.env (eval l X.env)=eval l X.env)(z:(apos.endLine==cpos.line)=true):PE X (.Call (.Attribute l "values" apos) [] [] cpos) (Bu te):=by
 intro ze s σ H Q I h;refine wpAny_Call_method (T:="dict") (id:="dict.values") aa rfl z F.plainAttrs_dict F.slot_dict_values F.type_dict_values (thn (hl ze s σ H _ I h) fun v s1 ⟨x,H1,I1,r1,q1⟩=>?_);obtain⟨a,e,hd,q⟩:=q1;subst e;cases r1;obtain⟨t1,t2,t3⟩:=Je I1 hd;refine⟨t1,t2,?_⟩;show cp _ _ (callWith cpos (.builtin "dict.values") [.ref a] [] []) _ _ s1;refine method_meetsIn F.slot_dict_values F.entry_dict_values rfl (PyProof.Rows.evalArgs_none ⟨rfl,t1,F.args_dict_values_1 _,_,Ly t3,t1,?_⟩);exact⟨.ref s1.heap.objs.size,_,I1.laid (a:=s1.heap.objs.size) (t':=s1.toks) (fun _ _ q=>bu _ q) (dh _) (MB ⟨_,cy _ rfl,rfl,rfl⟩),rfl,q _ (I1.hok.fresh (dh _))⟩
end
theorem HasM.vals{κ:Type}[DecidableEq κ]{H:Hp}:∀{m:List (κ×bt)}{m':List (κ×V)},HasM H m m'->HasL H (m.map (·.2)) (m'.map (·.2))
 | [],_,q=>by rw[show _=[]from q];exact zx.mpr rfl
 |p::r,_,⟨v,t,e,q,l⟩=>by subst e;exact zq.mpr ⟨_,_,rfl,q,HasM.vals l⟩
end L2
namespace L2
open PySem PySem.Spec PyProof.Rows
section
def hB(b:Bool):Int:=reduceHash (match b with|true=>1|false=>0)
end
section
def n9(z:Str)(e:DE):DE:=fun δ S R=>e δ S fun x S1=>(∃d,bK S1 x=some d/\gj d=true/\R (.d (.bool (!PyData.eqv d (.tuple [.str z])))) S1)\/(x=.d (.dict [])/\R (.d (.bool true)) S1)
end
section
def jX(H:Hp)(A:List Addr):Hp:=fun b=>if b∈A then none else H b
theorem xT{H:Hp}{A:List Addr}{b:Addr}{u:HO}:jX H A b=some u↔b∉A/\H b=some u:=by
 unfold jX;split
 ·rename_i m;exact⟨fun z=>(by cases z),fun z=>absurd m z.1⟩
 ·rename_i m;exact⟨fun z=>⟨m,z⟩,fun z=>z.2⟩
theorem Lj{o:List Addr}{H:Hp}{A:List Addr}:Ex o (jX H A) o H:=⟨⟨[],yv⟩,fun b u nb e=>⟨nb,(xT.mp e).2⟩⟩
abbrev PNm:=List XV->Sto->DM->(bt->Sto->DM->Prop)->Prop
def CnM(h o:List Addr)(H:Hp)(A:List Addr)(R:bt->Sto->DM->Prop)(Q:VK):Prop:=∀o' H' S' M' d v,Ex o (jX H A) o' H'->ad M'=A->RepS (h++ad M') o' H' S'->RepM h o' H' M'->HasX (h++ad M') o' H' (.d d) v->R d S' M'->Q v H'
def lfM(q:PNm):List V->Hp->VK->Prop:=fun vs H Q=>∃h o S M xs R,RepS (h++ad M) o H S/\RepM h o H M/\HasXs (h++ad M) o H xs vs/\q xs S M R/\CnM h o H (ad M) R Q
def spM(ps:List Str)(q:PNm):Sp:=fun vs H Q _=>vs.length=ps.length/\lfM q vs H Q
def nP(R:bt->Sto->DM->Prop):DEndsM:={ nx:=fun _ S M=>R .none S M,rt:=fun x S M=>∃d,x=.d d/\R d S M }
theorem Md{h o:List Addr}{H:Hp}(r:RepS h o H []):o=[]:=ju (by rw[<- r.len];rfl)
theorem G6{h o:List Addr}{H:Hp}{A:List Addr}{R:bt->Sto->DM->Prop}{Q:VK}(c:CnM h o H A R Q):EOkM h o (jX H A) A (nP R) { nx:=fun _ H'=>Q .non H',rt:=Q } :=
 ⟨fun o' H' δ' S' M' σ' e ea he hs rm q=>c o' H' S' M' .none .non e ea hs rm xN q,fun o' H' S' M' x v e ea hs rm hx ⟨d,ed,q⟩=>by
  subst ed;exact c o' H' S' M' d v e ea hs rm hx q,fun _ _ _ _ _ _ _ _ _ _ _ q=>q.elim,fun _ _ _ _ _ _ _ _ _ _ _ q=>q.elim⟩
section
variable {P:gf}{w:iu}{K:fe}{mg:Str->Option bo}{base:Heap}{x:Str}{st:Stmt}{N ps:List Str}{k:Nat}
theorem Df.dM{q:PNm}(D:Dd K mg x st ps)(S:FnScope N ps (zj st))(n:Nat)(hn:N.length=ps.length+n)
  (hbody:∀(f:Addr) (aa:bo) (A:iq) (outer:List Env) (s:bq) (H:Hp) (E:XK),Room k (A.deeper (vh x (zj st) s.heap.objs.size f aa)) ->
   ∃t dt,PSs (fN CX0 P w K mg base N x (zj st) f aa A outer s H E).nox (dP st) t/\RSm E0 (fun _ _=>False) t dt/\∀xs S M R,q xs S M R->dt (nP R) (xs.map some++bx n Option.none) S M):Df P w K mg base x ps (k+1) (spM ps q):=by
 refine Df.of D S (fun vs H Q E h=>h.1) fun f aa A outer s H vs Q E hr ⟨hl,h,o,S',M,xs,R,ab,rm,hx,hq,c⟩=>?_;obtain⟨t,dt,h1,h2,h3⟩:=hbody f aa A outer s H E hr;refine⟨t,h1,h2 h o (jX H (ad M)) o H _ _ S' M _ _ Lj (fun a m=>?_) ?_ ab rm (h3 xs S' M R hq) (G6 c) fun _ _ _ _ _ _ _ _ _ z=>z.elim⟩
 ·unfold jX;rw[cn m]
 ·have e:N.length-vs.length=n:=yw
  unfold start;rw[e];exact E5 hx
end
section
variable {h o o':List Addr}{H H':Hp}{M M':DM}{S:Sto}
theorem tZ{A:List Addr}:Same (vx (h++A) o H) (vx (h++o++A) [] H)/\Same (vx (h++o++A) [] H) (vx (h++A) o H):=by
 refine⟨fun b u e=>?_,fun b u e=>?_⟩
 ·obtain⟨z1,z2,z3⟩:=zE.mp e;refine zE.mpr ⟨fun z=>?_,fun z=>(by cases z),z3⟩;rcases mem_append.mp z with z|z
  ·rcases mem_append.mp z with z|z
   ·exact z1 (cg _ z)
   ·exact z2 z
  ·exact z1 (fh _ z)
 ·obtain⟨z1,_,z3⟩:=zE.mp e;refine zE.mpr ⟨fun z=>?_,fun z=>z1 (cg _ (fh _ z)),z3⟩;rcases mem_append.mp z with z|z
  ·exact z1 (cg _ (cg _ z))
  ·exact z1 (fh _ z)
def fK:XV->Bool
 | .d _=>true
 | .o _=>true
 |_=>false
theorem mC{h':List Addr}(s:Same (vx h o H) (vx h' o' H')):∀{x:XV}{v:V},fK x=true->HasX h o H x v->HasX h' o' H' x v
 | .d d,v,_,q=>Has.mono s d v q
 | .o w,v,_,q=>q
theorem xQ{h':List Addr}(s:Same (vx h o H) (vx h' o' H')):∀{xs:List XV}{vs:List V},xs.all fK=true->HasXs h o H xs vs->HasXs h' o' H' xs vs
 | [],_,_,q=>q
 |x::xs,vs,n,⟨v,r,e,q,l⟩=>by
  rw[all_cons,ix]at n;exact⟨v,r,e,mC s n.1 q,xQ s n.2 l⟩
theorem Iq{A:List Addr}{b:Addr}(m:b∈h++o++A):b∈(h++A)++o:=by
 rcases mem_append.mp m with z|z
 ·rcases mem_append.mp z with z|z
  ·exact cg _ (cg _ z)
  ·exact fh _ z
 ·exact cg _ (fh _ z)
theorem Ap{q:PNm}{xs:List XV}{vs:List V}{o0:List Addr}{H0:Hp}{δ:XE}{σ:St}{R:bt->DM->Prop}{Q:VK}(e0:Ex o0 H0 o H)(fr:Fr H0 M)(he:RepE (h++ad M) o H δ σ)(hs:RepS (h++ad M) o H S)(rm:RepM h o H M)
  (hn:xs.all fK=true) (hx:HasXs (h++ad M) o H xs vs) (hq:q xs [] M fun d S' M'=>S'=[]/\R d M')
  (c:∀H' M' d v,Ex o0 H0 o H'->ad M'=ad M->RepE (h++ad M') o H' δ σ->RepS (h++ad M') o H' S->RepM h o H' M'->HasX (h++ad M') o H' (.d d) v->R d M'->Q v H'):lfM q vs H Q:=by
 have r0:=rep0 hs;refine⟨h++o,[],[],M,xs,_,⟨rfl,lu,fun a m=>(by cases m),fun b mb=>r0.hal b (Iq mb),fun k a ds e=>(by cases e)⟩,⟨rm.nd,fun a m=>⟨fun z=>?_,fun z=>(by cases z)⟩,fun a D m=>(rm.ct a D m).mono tZ.1 fun u z=>z⟩,xQ tZ.1 hn hx,hq,fun o' H' S' M' d v e ea ab aa ac ⟨z,qq⟩=>?_⟩
 ·rcases mem_append.mp z with z|z
  ·exact(rm.nh a m).1 z
  ·exact(rm.nh a m).2 z
 ·subst z;have z:=Md ab;subst z;have kp:∀b u,b∉ad M->H b=some u->H' b=some u:=fun b u nb z=>(e.kp b u (fun w=>(by cases w)) (xT.mpr ⟨nb,z⟩)).2;have sm:Same (vx (h++ad M) o H) (vx (h++ad M) o H'):=fun b u z=>by
   obtain⟨z1,z2,z3⟩:=zE.mp z;exact zE.mpr ⟨z1,z2,kp b u (fun w=>z1 (fh _ w)) z3⟩
  refine c H' M' d v ⟨e0.pre,fun b u nb z=>?_⟩ ea ?_ ?_ ?_ ?_ qq
  ·obtain⟨w1,w2⟩:=e0.kp b u nb z;exact⟨w1,kp b u (fun m=>by have:=fr b m;rw[this]at z;cases z) w2⟩
  ·rw[ea];exact he.view sm
  ·rw[ea]at ab ⊢;refine⟨hs.len,hs.nd,hs.dis,fun b mb=>ab.hal b ?_,fun k a ds e1 e2=>?_⟩
   ·rcases mem_append.mp mb with z|z
    ·exact cg _ (cg _ z)
    ·exact fh _ z
   ·obtain⟨ws,e3,l⟩:=hs.cont k a ds e1 e2;exact⟨ws,kp a _ (fun m=>(rm.nh a m).2 (bw e1)) e3,HasL.mono sm _ _ l⟩
  ·refine⟨aa.nd,fun a m=>⟨fun z=>(aa.nh a m).1 (cg _ z),fun z=>(aa.nh a m).1 (fh _ z)⟩,fun a D m=>(aa.ct a D m).mono tZ.2 fun u z=>z⟩
  ·exact mC tZ.2 rfl ac
end
abbrev DTm:=XE->Sto->DM->(Bool->Sto->DM->Prop)->Prop
def RTm(t:TT)(dt:DTm):Prop:=∀(h o0:List Addr) (H0:Hp) (o:List Addr) (H:Hp) (δ:XE) (σ:St) (S:Sto) (M:DM) (R:Bool->Sto->DM->Prop) (Q:Bool->Hp->Prop),Ex o0 H0 o H->Fr H0 M->RepE (h++ad M) o H δ σ->RepS (h++ad M) o H S->RepM h o H M->dt δ S M R ->
 (∀o' H' S' M' b,Ex o0 H0 o' H'->ad M'=ad M->RepE (h++ad M') o' H' δ σ->RepS (h++ad M') o' H' S'->RepM h o' H' M'->R b S' M'->Q b H')->t σ H Q
def dmT(d:DM->DT):DTm:=fun δ S M R=>d M δ S fun b S'=>R b S' M
def gV(a b:DTm):DTm:=fun δ S M R=>a δ S M fun x S1 M1=>if x=true then R true S1 M1 else b δ S1 M1 R
def gG(c:DTm)(t u:DSm):DSm:=fun En δ S M=>c δ S M fun b S1 M1=>if b=true then t En δ S1 M1 else u En δ S1 M1
def jM(m:Nat)(q:PNm)(da:DM->DA):DTm:=fun δ S M R=>da M δ S fun xs S1=>xs.length=m/\xs.all fK=true/\q xs [] M fun d S' M'=>S'=[]/\∃b,d=.bool b/\R b S1 M'
section
variable {E:XK}{EX:EXD}{t u:TS}{dt du:DSm}{tc td:TT}{dc dd:DTm}
theorem EH{d:DM->DT}(hc:∀M,RTp (PhM M) tc (d M)):RTm tc (dmT d):=fun h o0 H0 o H δ σ S M R Q e0 fr he hs rm q c=>
 hc M (h++ad M) o H δ σ S _ _ he hs q (fun o1 H1 S1 b e1 s1 d1=>c o1 H1 S1 M b (e0.trans e1) rfl (he.mono e1) s1 (rm.mono e1) d1) ⟨h,rfl,rm⟩
theorem Cz(ha:RTm tc dc)(hb:RTm td dd):RTm (tOr tc td) (gV dc dd):=fun h o0 H0 o H δ σ S M R Q e0 fr he hs rm q c=>
 ha h o0 H0 o H δ σ S M _ _ e0 fr he hs rm q fun o1 H1 S1 M1 b e1 ea ab aa z d1=>by
  cases b with
  |false=>exact eP (hb h o0 H0 o1 H1 δ σ S1 M1 R Q e1 (by unfold Fr;rw[ea];exact fr) ab aa z (by simpa using d1) fun o2 H2 S2 M2 b e2 ac=>c o2 H2 S2 M2 b e2 (ac.trans ea))
  |true=>exact eI (c o1 H1 S1 M1 true e1 ea ab aa z (by simpa using d1))
theorem wP(hc:RTm tc dc)(ht:RSm E EX t dt)(hu:RSm E EX u du):RSm E EX (pX tc t u) (gG dc dt du):=fun h o0 H0 o H δ σ S M En D e0 fr he hs rm q c x=>
 hc h o0 H0 o H δ σ S M _ _ e0 fr he hs rm q fun o1 H1 S1 M1 b e1 ea ac ab aa d1=>by
  have z:Fr H0 M1:=by unfold Fr;rw[ea];exact fr
  cases b with
  |true=>exact eI (ht h o0 H0 o1 H1 δ σ S1 M1 En D e1 z ac ab aa (by simpa using d1) (by rw[ea];exact c) x)
  |false=>exact eP (hu h o0 H0 o1 H1 δ σ S1 M1 En D e1 z ac ab aa (by simpa using d1) (by rw[ea];exact c) x)
theorem Ht{K:fe}{ps:List Str}{q:PNm}{m:Nat}{ta:TA}{da:DM->DA}(ha:∀M,RAp (PhM M) ta (da M))(hm:ps.length=m:=by rfl):
  RTm (fun σ H Q=>fS (spM ps q) [] E0 ta σ H fun x H'=>∃k,TruV K x H' k/\Q k H') (jM m q da):=fun h o0 H0 o H δ σ S M R Q e0 fr he hs rm w c=>
 ha M (h++ad M) o H δ σ S _ _ he hs w (fun o1 H1 S1 xs vs e1 s1 x1 ⟨hl,hn,d1⟩=>by
  have hv:=x1.len;rw[kw];refine⟨by rw[hv,hl,hm],Ap (e0.trans e1) fr (he.mono e1) s1 (rm.mono e1) hn x1 d1 fun H' M' d v e2 ea ab aa z ac ⟨b,ed,r⟩=>?_⟩;subst ed;have:=eE ac;subst this;exact⟨b,rfl,c o1 H' S1 M' b e2 ea ab aa z r⟩) ⟨h,rfl,rm⟩
end
section
variable {X:Cx}{x:Str}{ps:List Str}{k j:Nat}{pos pos':Pos}{e:Expr}{es:List Expr}{t:TA}
theorem sY{q:PNm}(D:Df X.prog X.w X.K X.mg X.base x ps k (spM ps q))(hr:Room j X.A)(hk:k<=j)(ha:PA X (e::es) t)(hg:Gl X x:=by rfl)(z:(x==("__debug__":Str))=false:=by decide)
  (q1:fx (e::es) X.env=(false,eval e X.env)::fx es X.env:=by rfl) (q2:((rb pos (fx es X.env)).any fun x=>x.fst)=false:=by rfl):PE X (.Call (.Name x pos') (e::es) [] pos) (fS (spM ps q) [] E0 t):=by
 obtain⟨f,fd,F,hm,kp,hb⟩:=D.ex;exact vN (dvs:=[]) (ds:=[]) (E:=E0) F (hr.mono hk) hg hm kp hb .nil pass0 ha z q1 q2
end
theorem Df.noneM{P:gf}{w:iu}{K:fe}{mg:Str->Option bo}{base:Heap}{x:Str}{st:Stmt}{ps:List Str}{k:Nat}(D:Dd K mg x st ps):Df P w K mg base x ps k (spM ps fun _ _ _ _=>False):=by
 obtain⟨f,fd,F,hm,hb⟩:=D.ex;have no:∀{vs H Q E},spM ps (fun _ _ _ _=>False) vs H Q E->False:=fun {vs H Q E} h=>by
  obtain⟨_,h,o,S,M,xs,R,_,_,_,q,_⟩:=h;exact q
 exact⟨f,fd,⟨fun _ _ _ _ h=>(no h).elim,fun _ _ _ _ _ _ _ _ _ _ _ _ _ h=>(no h).elim⟩,hm,F.kp,hb⟩
theorem LH{p:Addr}{u:MO}{D0:DD}(hD:∀(G H:Hp),H p=some u.ho->DAt G H p D0){h o0:List Addr}{H0:Hp}{o:List Addr}{H:Hp}{δ:XE}{σ:St}{S:Sto}{M:DM}(e0:Ex o0 H0 o H)(fr:Fr H0 M)(he:RepE (h++ad M) o H δ σ)(hs:RepS (h++ad M) o H S)(rm:RepM h o H M)(hp:H p=none):
  p∉ad M/\Ex o0 H0 o (upd H p u.ho)/\Fr H0 (M++[(p,D0)])/\RepE (h++ad (M++[(p,D0)])) o (upd H p u.ho) δ σ/\RepS (h++ad (M++[(p,D0)])) o (upd H p u.ho) S/\RepM h o (upd H p u.ho) (M++[(p,D0)])/\Same (vx (h++ad M) o H) (vx (h++ad (M++[(p,D0)])) o (upd H p u.ho)):=by
 have nM:p∉ad M:=fun m=>by
  obtain⟨D2,_,z⟩:=rm.at m;obtain⟨w,ew⟩:=z.mo;rw[hp]at ew;cases ew
 have f1:=hs.fresh hp;have nh:p∉h:=fun m=>f1.1 (cg _ m);have sH:Same H (upd H p u.ho):=Same.laid hp;have H0p:H0 p=none:=by
  cases z:H0 p with
  |none=>rfl
  |some w=>
   by_cases m:p∈o0
   ·obtain⟨r,er⟩:=e0.pre;exact absurd (show p∈o by rw[er];exact cg _ m) f1.2
   ·have:=(e0.kp p w m z).2;rw[hp]at this;cases this
 have sv:Same (vx (h++ad M) o H) (vx (h++(ad M++[p])) o (upd H p u.ho)):=fun b w z=>by
  obtain⟨z1,z2,z3⟩:=zE.mp z;have ne:b≠p:=zI z3 hp;refine zE.mpr ⟨fun m=>?_,z2,by rw[zD ne];exact z3⟩;rw[<- gn]at m;rcases mem_append.mp m with m|m
  ·exact z1 m
  ·exact ne (mem_singleton.mp m)
 refine⟨nM,e0.trans (Ex.of_same sH),fun a ma=>?_,?_,?_,?_,?_⟩
 ·rw[zK]at ma;rcases mem_append.mp ma with m|m
  ·exact fr a m
  ·rw[mem_singleton.mp m];exact H0p
 ·rw[zK];exact he.to sv
 ·rw[zK];refine⟨hs.len,hs.nd,fun a ma z=>?_,fun b mb=>?_,fun k b ds e1 e2=>?_⟩
  ·rw[<- gn]at z;rcases mem_append.mp z with z|z
   ·exact hs.dis a ma z
   ·rw[mem_singleton.mp z]at ma;exact f1.2 ma
  ·rw[<- gn]at mb;rcases mem_append.mp mb with m|m
   ·obtain⟨w,ew⟩:=hs.hal b m;exact⟨w,sH _ _ ew⟩
   ·rw[mem_singleton.mp m];exact⟨u,zX⟩
  ·obtain⟨vs,e3,l⟩:=hs.cont k b ds e1 e2;exact⟨vs,sH _ _ e3,HasL.mono sv _ _ l⟩
 ·refine⟨by rw[zK];exact lN rm.nd nM,fun a ma=>?_,fun a D2 m=>?_⟩
  ·rw[zK]at ma;rcases mem_append.mp ma with m|m
   ·exact rm.nh a m
   ·rw[mem_singleton.mp m];exact⟨nh,f1.2⟩
  ·rw[zK];rcases mem_append.mp m with m|m
   ·exact(rm.ct a D2 m).mono sv fun w z=>sH _ _ z
   ·have:=mem_singleton.mp m;cases this;exact hD _ _ zX
 ·rw[zK];exact sv
def jV(q:PNm)(da db dc:DM->DE):DSm:=fun En δ S M=>da M δ S fun x S1=>db M δ S1 fun y S2=>dc M δ S2 fun z S3=>[x,y,z].all fK=true/\∀p,p∉ad M->q [x,y,z,.o (.ref p)] [] (M++[(p,.k [])]) fun _ S' M'=>S'=[]/\∃M1 D,M'=M1++[(p,D)]/\En.nx δ S3 M1
theorem DJ{E:XK}{EX:EXD}{ps:List Str}{q:PNm}{ta tb tc:TE}{da db dc:DM->DE}(ha:∀M,REp (PhM M) ta (da M))(hb:∀M,REp (PhM M) tb (db M))(hc:∀M,REp (PhM M) tc (dc M))(hm:ps.length=4:=by rfl):RSm E EX (uZ (fS (spM ps q) [] E0 (cX ta (cX tb (cX tc (cX vS iS)))))) (jV q da db dc):=fun h o0 H0 o H δ σ S M En D e0 fr he hs rm w c x=>
 ha M (h++ad M) o H δ σ S _ _ he hs w (fun o1 H1 S1 x1 v1 e1 s1 ah d1=>
  hb M (h++ad M) o1 H1 δ σ S1 _ _ (he.mono e1) s1 d1 (fun o2 H2 S2 x2 v2 e2 s2 aj d2=>
   hc M (h++ad M) o2 H2 δ σ S2 _ _ (he.mono (e1.trans e2)) s2 d2 (fun o3 H3 S3 x3 v3 e3 s3 ai ⟨hn,d3⟩ p hp=>by
    obtain⟨nM,n1,n2,n3,n4,n5,n6⟩:=LH (u:=.k []) (D0:=.k []) (fun G H z=>⟨[],z,rfl⟩) (e0.trans (e1.trans (e2.trans e3))) fr (he.mono (e1.trans (e2.trans e3))) s3 (rm.mono (e1.trans (e2.trans e3))) hp;simp only[all_cons,List.all_nil,Bool.and_true,ix]at hn;obtain⟨ae,af,aa⟩:=hn;refine⟨by rw[hm];rfl,Ap n1 n2 n3 n4 n5 (xs:=[x1,x2,x3,.o (.ref p)]) (by simp only[all_cons,List.all_nil,ae,af,aa];rfl) ?_ (d3 p nM) fun H' M' d v e4 ea ab ac ag ak ⟨M1,D1,eM,r⟩=>?_⟩
    ·exact⟨v1,_,rfl,mC n6 ae (ah.mono (e2.trans e3)),v2,_,rfl,mC n6 af (aj.mono e3),v3,_,rfl,mC n6 aa ai,.ref p,[],rfl,rfl,rfl⟩
    ·subst eM;rw[zK,zK]at ea;rw[zK,<- gn]at ab ac;exact c.nx o3 H' δ S3 M1 σ e4 (append_inj_left' ea rfl) (ab.to kO) ac.less ag.init r) ⟨h,rfl,rm.mono (e1.trans e2)⟩) ⟨h,rfl,rm.mono e1⟩) ⟨h,rfl,rm⟩
end
end L2
namespace L2
open PySem PySem.Spec PyProof.Rows
section
section
variable {X:Cx}
def CZ:List V->Hp->VK->Prop:=fun xs H Q=>∃a ob m,xs=[.ref a]/\H a=some (.frz ob (.dK m))/\Q (.int m.length) H
theorem A3:CallR X (.builtin "len") CZ:=by
 intro ze s σ H xs us Q I r h;obtain⟨a,ob,m,rfl,ea,q⟩:=h;obtain⟨u,rfl,rx⟩:=vals1 r;cases (show u=gk a from rx);obtain⟨na,z,es,ep,vs,_,kv,⟨o,ab,ho,r1⟩⟩:=A2 I.hok ea;have aa:m.length=vs.length:=kv.length;have ac:fk=16777216:=kj;exact call_len_dict (knd:=bY X.prog X.w) (kvs:=vs) na ⟨o,ab,ep,ho,r1⟩ yw ⟨.int _,H,I.tok _,⟨_,by rw[aa]⟩,q⟩
def gI:List XV->Sto->RX->Prop:=fun xs S R=>arg1 xs fun x=>∃m:List (Key×bt),x=.d (.dict (DD.pairs (.k m)))/\R (.d (.int m.length)) S
theorem Dw{H:Hp}:∀{m:List (Key×bt)}{m':List (Key×V)},HasM H m m'->m'.length=m.length
 | [],_,q=>by rw[show _=[]from q];rfl
 |p::r,_,⟨v,t,e,_,l⟩=>by rw[e,ft,ft,Dw l]
theorem LM:RC CZ gI:=fun h o H S xs vs R Q hs hx q c=>by
 obtain⟨x,rfl,m,rfl,q1⟩:=cB q;obtain⟨v,rfl,z⟩:=hxs1 hx;obtain⟨a,ob,m',rfl,ea,l⟩:=oC.mp (show Has (vx h o H) _ _ from z);exact⟨a,ob,m',rfl,zN _ _ ea,by rw[Dw l];exact c o H S _ _ Ex.refl hs (xI _) q1⟩
end
end
section
section
variable {h o o':List Addr}{H H':Hp}{M M':DM}{S:Sto}
abbrev qD (o:List Addr) (a:Addr):List Addr:=o.filter (fun b=>b≠a)
theorem LJ{A:List Addr}{k:Nat}{a:Addr}(ea:o[k]?=some a)(b:Addr):(b∈h++qD o a++A\/b∈[a])↔(b∈h++A\/b∈o):=by
 have ma:=bw ea;by_cases e:b=a
 ·subst e;simp[ma]
 ·simp[e,or_assoc,or_comm,or_left_comm]
theorem DP{A:List Addr}{k:Nat}{a:Addr}(ea:o[k]?=some a):vx (h++qD o a++A) [a] H=vx (h++A) o H:=jA (LJ ea)
theorem CW{h':List Addr}{a:Addr}{k:Nat}(ea:o[k]?=some a)(s:Same (vx h o H) (vx h' [a] H)):∀{xs:List XV}{vs:List V}{i:Nat},xs[i]?=some (.l k)->(xs.set i (.d .none)).all fK=true->HasXs h o H xs vs->HasXs h' [a] H (xs.set i (.l 0)) vs
 | [],_,i,e,_,_=>by simp at e
 |x::xs,vs,0,e,n,⟨v,r,e1,q,l⟩=>by
  rw[rq]at e;cases e;rw[set_cons_zero,all_cons,ix]at n;obtain⟨b,eb,rfl⟩:=q;rw[ea]at eb;cases eb;exact⟨_,r,e1,⟨a,rfl,rfl⟩,xQ s n.2 l⟩
 |x::xs,vs,i+1,e,n,⟨v,r,e1,q,l⟩=>by
  rw[qh]at e;rw[set_cons_succ,all_cons,ix]at n;exact⟨v,r,e1,mC s n.1 q,CW ea s e n.2 l⟩
theorem E7{q:PNm}{xs:List XV}{vs:List V}{i k:Nat}{p:List bt}{o0:List Addr}{H0:Hp}{δ:XE}{σ:St}{R:bt->List bt->DM->Prop}{Q:VK}(e0:Ex o0 H0 o H)(fr:Fr H0 M)(he:RepE (h++ad M) o H δ σ)(hs:RepS (h++ad M) o H S)(rm:RepM h o H M)
  (ek:xs[i]?=some (.l k)) (ep:S[k]?=some p) (hn:(xs.set i (.d .none)).all fK=true) (hx:HasXs (h++ad M) o H xs vs) (hq:q (xs.set i (.l 0)) [p] M fun d S' M'=>∃p',S'=[p']/\R d p' M')
  (c:∀H' M' p' d v,Ex o0 H0 o H'->ad M'=ad M->RepE (h++ad M') o H' δ σ->RepS (h++ad M') o H' (S.set k p')->RepM h o H' M'->HasX (h++ad M') o H' (.d d) v->R d p' M'->Q v H'):lfM q vs H Q:=by
 obtain⟨v0,_,a,ea,_⟩:=hx.get ek;have ma:=bw ea;have nA:a∉ad M:=fun m=>(rm.nh a m).2 ma;have r0:=pS hs ea ep;have ve:vx (h++qD o a++ad M) [a] H=vx (h++ad M) o H:=DP ea;refine⟨h++qD o a,[a],[p],M,xs.set i (.l 0),_,⟨rfl,yv,fun b mb z=>?_,fun b mb=>?_,fun j b ds e1 e2=>?_⟩,⟨rm.nd,fun b m=>⟨fun z=>?_,fun z=>?_⟩,fun b D m=>(rm.ct b D m).mono (by rw[ve];exact fun _ _ z=>z) fun u z=>z⟩,CW ea (by rw[ve];exact fun _ _ z=>z) ek hn hx,hq,fun o' H' S' M' d v e eA ab aa af ⟨p',z,qq⟩=>?_⟩
 ·rw[mem_singleton.mp mb]at z;rcases mem_append.mp z with z|z
  ·rcases mem_append.mp z with z|z
   ·exact hs.dis a ma (cg _ z)
   ·have:=(mem_filter.mp z).2;simp at this
  ·exact nA z
 ·rcases mem_append.mp mb with z|z
  ·rcases mem_append.mp z with z|z
   ·exact hs.hal b (cg _ z)
   ·exact hs.oam b (mem_filter.mp z).1
  ·exact hs.hal b (fh _ z)
 ·cases j with
  |succ j=>simp at e1
  |zero=>
   cases e1;cases e2;obtain⟨ws,e3,l⟩:=hs.cont k a p ea ep;exact⟨ws,e3,by rw[ve];exact l⟩
 ·rcases mem_append.mp z with z|z
  ·exact(rm.nh b m).1 z
  ·exact(rm.nh b m).2 (mem_filter.mp z).1
 ·rw[mem_singleton.mp z]at m;exact nA m
 ·subst z;obtain⟨t,et⟩:=e.pre;have lo:o'.length=1:=by rw[<- ab.len];rfl
  have e1:o'=[a]:=by
   rw[et]at lo ⊢;have:t=[]:=ju (by simpa using lo);rw[this];rfl
  subst e1;have kp:∀b u,b≠a->b∉ad M->H b=some u->H' b=some u:=fun b u na nb z=>(e.kp b u (fun w=>na (mem_singleton.mp w)) (xT.mpr ⟨nb,z⟩)).2;have sm:Same (vx (h++ad M) o H) (vx (h++ad M) o H'):=fun b u z=>by
   obtain⟨z1,z2,z3⟩:=zE.mp z;exact zE.mpr ⟨z1,z2,kp b u (fun w=>z2 (w▸ma)) (fun w=>z1 (fh _ w)) z3⟩
  have ac:vx (h++qD o a++ad M') [a] H'=vx (h++ad M') o H':=DP ea;refine c H' M' p' d v ⟨e0.pre,fun b u nb z=>?_⟩ eA ?_ ?_ ?_ ?_ qq
  ·obtain⟨w1,w2⟩:=e0.kp b u nb z;exact⟨w1,kp b u (fun w=>w1 (w▸ma)) (fun m=>by have:=fr b m;rw[this]at z;cases z) w2⟩
  ·rw[eA];exact he.view sm
  ·refine⟨by rw[length_set];exact hs.len,hs.nd,fun b mb z=>?_,fun b mb=>ab.hal b ?_,fun j b ds e2 e3=>?_⟩
   ·rw[eA]at z;exact hs.dis b mb z
   ·rcases mem_append.mp mb with z|z
    ·exact cg _ (cg _ z)
    ·exact fh _ z
   ·by_cases ej:j=k
    ·subst ej;rw[ea]at e2;cases e2;have ae:j<S.length:=(List.getElem?_eq_some_iff.mp ep).1;rw[pb ae]at e3;cases e3;obtain⟨ws,e4,l⟩:=ab.cont 0 a p' rfl rfl;exact⟨ws,e4,by rw[ac]at l;exact l⟩
    ·rw[sn (kf ej)]at e3;obtain⟨ws,e4,l⟩:=hs.cont j b ds e2 e3;have hb:b≠a:=fun w=>by
      subst w;obtain⟨h1,h2⟩:=List.getElem?_eq_some_iff.mp e2;obtain⟨h3,h4⟩:=List.getElem?_eq_some_iff.mp ea;have pw:=pairwise_iff_getElem.mp hs.nd;rcases Nat.lt_trichotomy j k with z|z|z
      ·exact pw j k h1 h3 z (h2.trans h4.symm)
      ·exact ej z
      ·exact pw k j h3 h1 z (h4.trans h2.symm)
     refine⟨ws,kp b _ hb (fun m=>(rm.nh b m).2 (bw e2)) e4,?_⟩;rw[eA];exact HasL.mono sm _ _ l
  ·refine⟨aa.nd,fun b m=>⟨fun z=>(aa.nh b m).1 (cg _ z),fun z=>?_⟩,fun b D m=>?_⟩
   ·by_cases w:b=a
    ·exact(aa.nh b m).2 (by rw[w];simp)
    ·exact(aa.nh b m).1 (fh _ (mem_filter.mpr ⟨z,by simpa using w⟩))
   ·refine(aa.ct b D m).mono ?_ fun u z=>z;rw[ac];exact fun _ _ z=>z
  ·show Has _ _ _;rw[<- ac];exact af
end
def kU(i m:Nat)(q:PNm)(da:DM->DA):DSm:=fun En δ S M=>da M δ S fun xs S1=>xs.length=m/\∃k,xs[i]?=some (.l k)/\∃p,S1[k]?=some p/\(xs.set i (.d .none)).all fK=true/\q (xs.set i (.l 0)) [p] M fun _ S' M'=>∃p',S'=[p']/\En.nx δ (S1.set k p') M'
def iY(i m:Nat)(q:PNm)(da:DM->DA):DTm:=fun δ S M R=>da M δ S fun xs S1=>xs.length=m/\∃k,xs[i]?=some (.l k)/\∃p,S1[k]?=some p/\(xs.set i (.d .none)).all fK=true/\q (xs.set i (.l 0)) [p] M fun d S' M'=>∃p',S'=[p']/\∃b,d=.bool b/\R b (S1.set k p') M'
section
variable {E:XK}{EX:EXD}
theorem Jj{K:fe}{ps:List Str}{q:PNm}{i m:Nat}{ta:TA}{da:DM->DA}(ha:∀M,RAp (PhM M) ta (da M))(hm:ps.length=m:=by rfl):
  RTm (fun σ H Q=>fS (spM ps q) [] E0 ta σ H fun x H'=>∃k,TruV K x H' k/\Q k H') (iY i m q da):=fun h o0 H0 o H δ σ S M R Q e0 fr he hs rm w c=>
 ha M (h++ad M) o H δ σ S _ _ he hs w (fun o1 H1 S1 xs vs e1 s1 x1 ⟨hl,k,ek,p,ep,hn,d1⟩=>by
  have hv:=x1.len;rw[kw];refine⟨by rw[hv,hl,hm],E7 (e0.trans e1) fr (he.mono e1) s1 (rm.mono e1) ek ep hn x1 d1 fun H' M' p' d v e2 ea ab aa z ac ⟨b,ed,r⟩=>?_⟩;subst ed;have:=eE ac;subst this;exact⟨b,rfl,c o1 H' _ M' b e2 ea ab aa z r⟩) ⟨h,rfl,rm⟩
theorem FY{ps:List Str}{q:PNm}{i m:Nat}{ta:TA}{da:DM->DA}(ha:∀M,RAp (PhM M) ta (da M))(hm:ps.length=m:=by rfl):RSm E EX (uZ (fS (spM ps q) [] E0 ta)) (kU i m q da):=fun h o0 H0 o H δ σ S M En D e0 fr he hs rm w c x=>
 ha M (h++ad M) o H δ σ S _ _ he hs w (fun o1 H1 S1 xs vs e1 s1 x1 ⟨hl,k,ek,p,ep,hn,d1⟩=>by
  have hv:=x1.len;rw[kw];exact⟨by rw[hv,hl,hm],E7 (R:=fun _ p' M'=>En.nx δ (S1.set k p') M') (e0.trans e1) fr (he.mono e1) s1 (rm.mono e1) ek ep hn x1 d1 fun H' M' p' d v e2 ea ab aa z ac r=>c.nx o1 H' δ _ M' σ e2 ea ab aa z r⟩) ⟨h,rfl,rm⟩
end
theorem n8{R:bt->Sto->DM->Prop}{d:bt}{S:Sto}{M:DM}:(nP R).rt (.d d) S M=R d S M:=propext ⟨fun⟨e,z,q⟩=>by cases z;exact q,fun q=>⟨d,rfl,q⟩⟩
theorem pA{d:bt}:fK (.d d)=true:=rfl
theorem pO{v:V}:fK (.o v)=true:=rfl
end
end L2
namespace L2
open PySem PySem.Spec PySem.Calls PyProof.Rows PySem.W
section
variable {X:Cx}
def rH:List XV->Sto->RX->Prop:=fun xs S R=>arg1 xs fun x=>∃ns:List Int,x=.d (.tuple (ns.map cq))/\ns.length<60/\∀ms:List Int,ms.Perm ns->ms.Pairwise (· ≥ ·)->R (.d (.list (ms.map cq))) S
end
end L2
namespace L2
open PySem PySem.Spec PySem.Calls PyProof.Rows
def yN(cd:DM->DT)(b:DSm):DSm:=fun E δ S M=>∃W:Nat->XE->Sto->DM->Prop,(∃m,W m δ S M)/\∀m δ S M,W m δ S M ->
 cd M δ S fun x S1=>if x=true then ∃N:XE->Sto->DM->Prop,(∀ δ' S' M',N δ' S' M'->∃m',m'<m/\W m' δ' S' M')/\b { nx:=N,ct:=N,bk:=E.nx,rt:=E.rt } δ S1 M else E.nx δ S1 M
section
variable {E:XK}{EX:EXD}
theorem EC{tc:TT}{tb:TS}{dc:DM->DT}{db:DSm}(hc:∀M,RTp (PhM M) tc (dc M))(hb:RSm E EX tb db):RSm E EX (CO tc tb) (yN dc db):=fun h o0 H0 o H δ σ S M En D e0 fr he hs rm ⟨W,⟨m0,w0⟩,q⟩ c x=>by
 refine⟨fun m σ2 H2=>∃o2 δ2 S2 M2,Ex o0 H0 o2 H2/\ad M2=ad M/\RepE (h++ad M2) o2 H2 δ2 σ2/\RepS (h++ad M2) o2 H2 S2/\RepM h o2 H2 M2/\W m δ2 S2 M2,⟨m0,o,δ,S,M,e0,rfl,he,hs,rm,w0⟩,?_⟩;rintro m σ2 H2 ⟨o2,δ2,S2,M2,e2,ea,ae,ag,aa,w2⟩;refine hc M2 (h++ad M2) o2 H2 δ2 σ2 S2 _ _ ae ag (q m δ2 S2 M2 w2) (fun o3 H3 S3 b e3 s3 d3=>?_) ⟨h,rfl,aa⟩;have ak:Fr H0 M2:=by unfold Fr;rw[ea];exact fr
 cases b with
 |false=>exact eP (c.nx o3 H3 δ2 S3 M2 σ2 (e2.trans e3) ea (ae.mono e3) s3 (aa.mono e3) (by simpa using d3))
 |true=>
  refine eI ?_;obtain⟨N,n1,d3⟩:∃N:XE->Sto->DM->Prop,(∀ δ' S' M',N δ' S' M'->∃m',m'<m/\W m' δ' S' M')/\db { nx:=N,ct:=N,bk:=En.nx,rt:=En.rt } δ2 S3 M2:=by simpa using d3
  refine⟨fun σ4 H4=>∃o4 δ4 S4 M4,Ex o0 H0 o4 H4/\ad M4=ad M/\RepE (h++ad M4) o4 H4 δ4 σ4/\RepS (h++ad M4) o4 H4 S4/\RepM h o4 H4 M4/\N δ4 S4 M4,fun σ4 H4 ⟨o4,δ4,S4,M4,e4,aj,ah,ai,af,n4⟩=>?_,?_⟩
  ·obtain⟨m',hm,w'⟩:=n1 δ4 S4 M4 n4;exact⟨m',hm,o4,δ4,S4,M4,e4,aj,ah,ai,af,w'⟩
  ·exact hb h o0 H0 o3 H3 δ2 σ2 S3 M2 _ _ (e2.trans e3) ak (ae.mono e3) s3 (aa.mono e3) d3 ⟨fun o5 H5 δ5 S5 M5 σ5 e5 a5 ab z ac d5=>⟨o5,δ5,S5,M5,e5,a5.trans ea,ab,z,ac,d5⟩,(by rw[ea];exact c.rt),(by rw[ea];exact c.nx),fun o5 H5 δ5 S5 M5 σ5 e5 a5 ab z ac d5=>⟨o5,δ5,S5,M5,e5,a5.trans ea,ab,z,ac,d5⟩⟩ x
end
section
variable {a b c u:TS}{dt du:DS}{i j:Nat}
theorem FK(h:RS (cV a (j9 i (cV b (j9 j c)))) dt)(hu:RS u du):RS (cV a (cV b (cV (j9 i (j9 j c)) u))) (aA dt du):=CB (zQ h hu)
end
section
variable {X:Cx}
def DX:List V->Hp->VK->Prop:=fun xs H Q=>∃p a ob kvs,xs=[.ref p]/\H p=some (vwO p a)/\H a=some (.frz ob (.dK kvs))/\∀l,H l=none->Q (.ref l) (upd H l (.lst (kvs.map (·.2))))
theorem Hc{K:Type}[DecidableEq K]{P:gf}{w:iu}{knd:KeyKind P w K}{es:List tw}{kvs:List (K×bo)}(h:Pairs knd es kvs):es.map (·.val)=kvs.map (·.2):=by
 induction h with
 |nil=>rfl
 |cons h1 h2 _ ih=>rw[ga,ga,ih,h2]
theorem KV.vals{kvs:List (Key×V)}{vs:List (Key×bo)}(r:KV kvs vs):Vals (kvs.map (·.2)) (vs.map (·.2)):=by
 unfold KV at r;induction r with
 |nil=>exact .nil
 |cons h t ih=>exact .cons h.2 ih
theorem Ip(hc:X.calm=true):CallR X (.type "list") DX:=by
 intro ze s σ H xs us Q I r h;obtain⟨p,a,ob,kvs,rfl,hp,ha,q⟩:=h;obtain⟨u,rfl,rx⟩:=vals1 r;cases rx;obtain⟨vv,_,_⟩:=(show ObjOk X.prog X.w H s.heap p (vwO p a)from I.hok p _ hp);obtain⟨ab,hz,es,ep,vs,eo,kv,o,aa,e1,e2,e3,ek,pr,_⟩:=A2 I.hok ha;have ev:=Hc pr;have hl:aa.size=kvs.length:=by rw[<- gh,<- cu (f:=fun e:tw=>e.val),ev,cu,kv.length]
 refine W.kdl_call (Ln (ob:=o) (es:=aa) (ep:=ep)) (I.ok.hd hc) ⟨vv,e1,e2,e3⟩ (by rw[hl];exact hz) fun h' tk z c' kp e it=>?_;have ea:z.toList=vs.map (·.2):=by
  rw[<- ev];refine List.ext_getElem? fun j=>?_;rcases Nat.lt_or_ge j z.size with hj|hj
  ·obtain⟨en,z1,z2⟩:=it.2 j z[j] (by simp[hj]);rw[jw,gu hj,ie,jw,z1,z2];rfl
  ·rw[jw,Array.getElem?_eq_none hj,getElem?_eq_none];have:=it.1;rw[cu,gh];omega
 exact⟨.ref s.heap.objs.size,_,I.laid (t':=tk) kp (dh _) (show ObjOk X.prog X.w _ h' _ (.lst (kvs.map (·.2)))from⟨by rw[cu];exact hz,z.toList,c',by rw[ea];exact kv.vals,by simpa using e⟩),rfl,q _ (I.hok.fresh (dh _))⟩
end
def jT(dd:DE):DE:=fun δ S R=>dd δ S fun x S1=>∃m:List (Key×bt),x=.d (.dict (DD.pairs (.k m)))/\R (.d (.list (m.map (·.2)))) S1
theorem IU{td:TE}{dd:DE}(hd:RE td dd):RE (tCB DX (cX (Bu td) iS)) (jT dd):=fun h o H δ σ S R Q he hs q c=>
 hd h o H δ σ S _ _ he hs q fun o1 H1 S1 x v e1 s1 x1 ⟨m,ex,d1⟩=>by
  subst ex;obtain⟨a,ob,m',rfl,ea,l⟩:=oC.mp (show Has _ _ v from x1);have em:=zN _ _ ea;refine⟨a,rfl,.inl ⟨m',.inr ⟨ob,em⟩⟩,fun p hp=>⟨p,a,ob,m',rfl,zX,by rw[zD (zI em hp)];exact em,?_⟩⟩;have sU:Same H1 (upd H1 p (vwO p a)):=Same.laid hp;have eU:Ex o1 H1 o1 (upd H1 p (vwO p a)):=Ex.of_same sU;exact gX (s1.same sU) (HasL.mono eU.vx _ _ l.vals) (c.pre (e1.trans eU)) d1
def Et(K:fe):List V->Hp->VK->Prop:=fun xs H Q=>∃(p:Addr) (ns:List Int),xs=[.ref p]/\SqL K H p (ns.map V.int)/\(∃L:List Int,L.length<60/\∀x∈ns,x∈L)/\∀ms:List Int,ms.Nodup->(∀x,x∈ms↔x∈ns)->Q (.int ms.length) H
section
variable {X:Cx}{e:Expr}{t:TA}{p p2 pos pos2:Pos}
theorem BH(hc:X.calm=true)(aa:Gl X "len")(ae:X.mg "len" = none)(aj:Gl X "set")(ag:X.mg "set" = none)(ha:PA X [e] t)
  (he:fx [e] X.env=(false,eval e X.env)::fx [] X.env:=by rfl) (hpl:(rb pos2 (fx [] X.env)).any (·.1)=false:=by rfl)
  (he2:fx [vb (.Name "set" p2) [e] [] pos2] X.env=(false,eval (vb (.Name "set" p2) [e] [] pos2) X.env)::fx [] X.env:=by rfl) (hpl2:(rb pos (fx [] X.env)).any (·.1)=false:=by rfl):
  PE X (.Call (.Name "len" p) [.Call (.Name "set" p2) [e] [] pos2] [] pos) (tCB (Et X.K) t):=by
 intro ze s σ H Q I h;refine lc (eJ I aa ae aV ?_ dz dz);refine PyProof.Rows.callWith_builtin1 ?_ he2 hpl2;rw[he2];show cp _ _ (spliced [(false,eval (vb (.Name "set" p2) [e] [] pos2) X.env)]) _ _ s;refine Calls.spliced_cons ?_;refine lc (eJ I aj ag AK ?_);refine kr (thn (ha pos2 ze s σ H _ I h) fun us s1 ⟨vs,H1,I1,r1,q1⟩=>?_) he hpl;obtain⟨pl,ns,rfl,hq,⟨L,hn,hL⟩,q⟩:=q1;obtain⟨u,rfl,rx⟩:=vals1 r1;cases (show u=gk pl from rx);obtain⟨ak,rv,ab,_⟩:=I1.list hq;have hI:=iP rv;refine Ep (ns:=ns) (I1.ok.hd hc) ab.isList (by rw[fq];exact nJ hI) (fun i v hv=>uL hI i v (by simpa using hv)) L hn hL fun a h1 tk es ha z af hk=>?_;obtain⟨o,ep,tb,ho,ah,hd,hok,ai,al,ac⟩:=af;refine Calls.spliced_nil ?_;refine call_len_set (s:={ s1 with heap:=h1,toks:=tk }) ho ah hd ac.fits yw ?_;refine⟨.int es.size,H1,I1.kept (t':=tk+1+1) z,⟨_,rfl⟩,?_⟩;have:=q (es.toList.map kE) ai hk
 rwa [cu,gh]at this
end
def iQ:List XV->Sto->RX->Prop:=fun xs S R=>arg1 xs fun x=>∃ds,gZ S x=some ds/\∃ns:List Int,ds=ns.map cq/\(∃L:List Int,L.length<60/\∀x∈ns,x∈L)/\∀ms:List Int,ms.Nodup->(∀x,x∈ms↔x∈ns)->R (.d (.int ms.length)) S
theorem Ie{K:fe}:RC (Et K) iQ:=fun h o H S xs vs R Q hs hx q c=>by
 obtain⟨x,rfl,ds,hd,ns,rfl,hL,q1⟩:=cB q;obtain⟨v,rfl,z⟩:=hxs1 hx;obtain⟨a,ws,rfl,ea,l⟩:=cA hs hd z;rw[iX l]at ea;exact⟨a,ns,rfl,.of ea,hL,fun ms nd mm=>c o H S _ _ Ex.refl hs (xI _) (q1 ms nd mm)⟩
end L2
namespace My
open PySem L2
def uJ:PN:=fun xs S R=>(aC (eC (dCB cQ (zc (zh 0) (zc (dO (.ty "int")) zu))) (h9 (dCB cQ (zc (zh 0) (zc (dO (.ty "bool")) zu)))))) (aO S.length R) (xs.map some++bx 0 none) S
def pW:PN:=fun xs S R=>(aA (aE (dOp (dI (fun _ j=>0<j) fun i j=>i % j) (dOp aR (zh 0) (dC (.int 7919))) (dC (.int 2147483647))) (zm 0)) (aC (dOp (dI (fun _ j=>0<j) fun i j=>i % j) (dOp aR (dOp aR (dOp cM (zh 0) (zh 0)) (dOp cM (dC (.int 48271)) (zh 0))) (dC (.int 12345))) (dC (.int 2147483629))))) (aO S.length R) (xs.map some++bx 0 none) S
def CD:PN:=fun xs S R=>(aA (aE (dCB (dI2 fun i j=>if j>i then j else i) (zc (zh 0) (zc (dOp (dI0 fun i j=>i-j) (dC (.int 0)) (zh 0)) zu))) (zm 1)) (aC (dS (zc (zh 1) (zc (dCB i4 (zc (dOp (dIb fun i j=>decide (j<=i)) (zh 1) (dOp (dI CPow fun i j=>i ^ j.toNat) (dC (.int 10)) (dC (.int 18)))) zu)) (zc (dOp (dI (fun _ j=>0<j) fun i j=>i % j) (zh 1) (dC (.int 1000003))) zu)))))) (aO S.length R) (xs.map some++bx 1 none) S
def lU:PN:=fun xs S R=>(aC (eC (dCB cQ (zc (zh 0) (zc (dO (.ty "int")) zu))) (h9 (dCB cQ (zc (zh 0) (zc (dO (.ty "bool")) zu)))))) (aO S.length R) (xs.map some++bx 0 none) S
def zA:PN:=fun xs S R=>(aA (aQ (dB (dOp cE (dOp dIx (zh 0) (dC (.int 1))) (dC (.int 1)))) (aA (aE (dOp (dI (fun _ j=>0<j) fun i j=>i % j) (dOp dIx (zh 0) (dC (.int 0))) (zh 1)) (zm 2)) (aA (aE (dOp dFd (dOp dIx (zh 0) (dC (.int 0))) (zh 1)) (iT (zh 0) (dC (.int 0)))) (aC (zh 2)))) aI) (aA (aE (aF 1 pW (zc (dOp aR (aF 1 pW (zc (dOp dIx (zh 0) (dC (.int 2))) zu)) (dC (.int 7))) zu)) (iT (zh 0) (dC (.int 2)))) (aC (dOp (dI (fun _ j=>0<j) fun i j=>i % j) (dOp dFd (dOp dIx (zh 0) (dC (.int 2))) (dC (.int 64))) (zh 1))))) (aO S.length R) (xs.map some++bx 1 none) S
def sO:PN:=fun xs S R=>(aA (aE (aU 0 2 zA (zc (zh 0) (zc (dC (.int 8)) zu))) (zm 1)) (aA (aQ (dB (dOp (dIb fun i j=>decide (i<j)) (zh 1) (dC (.int 5)))) (aC (dOp (dI0 fun i j=>i-j) (aU 0 2 zA (zc (zh 0) (zc (dC (.int 13)) zu))) (dC (.int 6)))) aI) (aA (aQ (dB (dOp (dIb fun i j=>decide (i<j)) (zh 1) (dC (.int 7)))) (aC (dOp (dI0 fun i j=>i-j) (aU 0 2 zA (zc (zh 0) (zc (dC (.int 2001)) zu))) (dC (.int 1000)))) aI) (aC (dOp cM (dOp (dI0 fun i j=>i-j) (aU 0 2 zA (zc (zh 0) (zc (dOp cM (dC (.int 2)) (dOp (dI CPow fun i j=>i ^ j.toNat) (dC (.int 10)) (dC (.int 30)))) zu))) (dOp (dI CPow fun i j=>i ^ j.toNat) (dC (.int 10)) (dC (.int 30)))) (dOp (dI CPow fun i j=>i ^ j.toNat) (dC (.int 10)) (dC (.int 28)))))))) (aO S.length R) (xs.map some++bx 1 none) S
def FA:PN:=fun xs S R=>(aA (aE (aU 0 2 zA (zc (zh 0) (zc (dC (.int 8)) zu))) (zm 1)) (aA (aQ (dB (dOp (dIb fun i j=>decide (i<j)) (zh 1) (dC (.int 5)))) (aC (dOp (dI0 fun i j=>i-j) (aU 0 2 zA (zc (zh 0) (zc (dC (.int 13)) zu))) (dC (.int 6)))) aI) (aA (aQ (dB (dOp (dIb fun i j=>decide (i<j)) (zh 1) (dC (.int 7)))) (aC (dOp (dI0 fun i j=>i-j) (aU 0 2 zA (zc (zh 0) (zc (dC (.int 2001)) zu))) (dC (.int 1000)))) aI) (aC (dOp cM (dOp (dI0 fun i j=>i-j) (aU 0 2 zA (zc (zh 0) (zc (dOp cM (dC (.int 2)) (dOp (dI CPow fun i j=>i ^ j.toNat) (dC (.int 10)) (dC (.int 30)))) zu))) (dOp (dI CPow fun i j=>i ^ j.toNat) (dC (.int 10)) (dC (.int 30)))) (dOp (dI CPow fun i j=>i ^ j.toNat) (dC (.int 10)) (dC (.int 28)))))))) (aO S.length R) (xs.map some++bx 1 none) S
def AU:PN:=fun xs S R=>(aA (aE (dCB (dI2 fun i j=>if j>i then j else i) (zc (zh 0) (zc (dOp (dI0 fun i j=>i-j) (dC (.int 0)) (zh 0)) zu))) (zm 1)) (aC (dS (zc (zh 1) (zc (dCB i4 (zc (dOp (dIb fun i j=>decide (j<=i)) (zh 1) (dOp (dI CPow fun i j=>i ^ j.toNat) (dC (.int 10)) (dC (.int 18)))) zu)) (zc (dOp (dI (fun _ j=>0<j) fun i j=>i % j) (zh 1) (dC (.int 1000003))) zu)))))) (aO S.length R) (xs.map some++bx 1 none) S
def uR:PN:=fun xs S R=>(aC (dCB kW (zc (bE [none,none,some 1] (aW (dOp dIx (zh 0) (dC (.int 0)))) (bJ 2 (zO (zm 0) (zO (zm 1) bH))) aK (dOp cM (zh 1) (dOp dIx (zh 2) (zh 0)))) zu))) (aO S.length R) (xs.map some++bx 0 none) S
def uO:PN:=fun xs S R=>(aC (f7 (dIb fun i j=>decide (i<=j)) (dIb fun i j=>decide (i<=j)) (dOp dIx (zh 0) (dC (.int 1))) (aF 2 uR (zc (zh 0) (zc (zh 1) zu))) (dOp dIx (zh 0) (dC (.int 2))))) (aO S.length R) (xs.map some++bx 0 none) S
def sV:PN:=fun xs S R=>(aA (aE (zh 0) (bJ 3 (zO (zm 3) (zO (zm 4) (zO (zm 5) bH))))) (aC (f7 (dIb fun i j=>decide (i<=j)) (dIb fun i j=>decide (i<=j)) (zh 4) (dOp aR (dOp cM (dOp dIx (dOp dIx (zh 3) (dC (.int 0))) (dC (.int 1))) (zh 1)) (dOp cM (dOp dIx (dOp dIx (zh 3) (dC (.int 1))) (dC (.int 1))) (zh 2))) (zh 5)))) (aO S.length R) (xs.map some++bx 3 none) S
def lQ:PN:=fun xs S R=>(aA (aE (dS zu) (zm 3)) (aA (dD (cZ (zc (dCB aS (zc (zh 1) zu)) zu)) (zm 4) (dD (cZ (zc (dCB aS (zc (zh 2) zu)) zu)) (zm 5) (aQ (aX (aF 3 sV (zc (zh 0) (zc (dOp dIx (zh 1) (zh 4)) (zc (dOp dIx (zh 2) (zh 5)) zu))))) (d8 (dBM eK (zh 3) (zc (aL (zc (zh 4) (zc (zh 5) zu))) zu))) aI))) (aC (zh 3)))) (aO S.length R) (xs.map some++bx 3 none) S
def tT:PN:=fun xs S R=>(aA (aQ (dOr (aZ (aX (dCB cQ (zc (zh 0) (zc (dO (.ty "list")) zu))))) (dB (dOp eO (dCB aS (zc (zh 0) zu)) (dCB aS (zc (zh 1) zu))))) (aC (dC (.bool false))) aI) (aA (dD (aW (zh 0)) (zm 2) (aQ (dOr (aZ (aX (dCB cQ (zc (zh 2) (zc (dO (.ty "tuple")) zu))))) (dOr (dB (dOp eO (dCB aS (zc (zh 2) zu)) (dC (.int 2)))) (dOr (aZ (aX (aF 1 lU (zc (dOp dIx (zh 2) (dC (.int 0))) zu)))) (aZ (aX (aF 1 lU (zc (dOp dIx (zh 2) (dC (.int 1))) zu))))))) (aC (dC (.bool false))) aI)) (aC (dOp cE (zh 0) (zh 1))))) (aO S.length R) (xs.map some++bx 1 none) S
def tK:PN:=fun xs S R=>(aC (gC [none,none,some 0,some 1] (jS (zc (zh 2) zu)) (bJ 2 (zO (zm 0) (zO (zm 1) bH))) (aX (aF 2 uO (zc (zh 2) (zc (aL (zc (zh 3) (zc (zh 1) zu))) zu)))) (zh 0))) (aO S.length R) (xs.map some++bx 0 none) S
def rN:PN:=fun xs S R=>(aA (aE (aU 0 2 zA (zc (zh 0) (zc (dOp aR (zh 1) (dC (.int 1))) zu))) (zm 4)) (aA (aQ (dB (dOp cE (aU 0 2 zA (zc (zh 0) (zc (dC (.int 8)) zu))) (dC (.int 0)))) (aC (dOp kY (aL (zc (zh 2) zu)) (zh 4))) aI) (aC (dCB hG (zc (bE [none,some 2,some 0,some 3] (cZ (zc (zh 4) zu)) (zm 0) aK (dOp aR (zh 1) (aU 0 2 zA (zc (zh 2) (zc (zh 3) zu))))) zu))))) (aO S.length R) (xs.map some++bx 1 none) S
def mR:PN:=fun xs S R=>(aC (gC [none,some 0,some 2] (aW (zh 1)) (zm 0) aK (aF 3 tK (zc (zh 1) (zc (zh 0) (zc (zh 2) zu)))))) (aO S.length R) (xs.map some++bx 0 none) S
def u5:PN:=fun xs S R=>(aA (aE (dY (zc (aU 0 1 sO (zc (zh 0) zu)) (zc (aU 0 1 sO (zc (zh 0) zu)) zu))) (zm 2)) (aA (aE (dOp dIx (dY (zc (dC (.int 1)) (zc (dC (.int 3)) (zc (dC (.int 8)) (zc (dC (.int 40)) zu))))) (aU 0 2 zA (zc (zh 0) (zc (dC (.int 4)) zu)))) (zm 3)) (aA (aE (bE [none,some 0] (cZ (zc (dC (.int 2)) zu)) (zm 0) aK (dOp dIx (dY (zc (dC (.int 1)) (zc (dUn (dUI fun i=>-i) (dC (.int 1))) (zc (dC (.int 2)) (zc (dUn (dUI fun i=>-i) (dC (.int 2))) (zc (dC (.int 3)) (zc (dUn (dUI fun i=>-i) (dC (.int 3))) zu))))))) (aU 0 2 zA (zc (zh 1) (zc (dC (.int 6)) zu))))) (jY 2 (zO (zm 4) (zO (zm 5) bH)))) (aA (aE (dOp cM (zh 3) (dOp aR (dCB iV (zc (zh 4) zu)) (dCB iV (zc (zh 5) zu)))) (zm 6)) (aA (aE (dOp (dI0 fun i j=>i-j) (dOp aR (dOp aR (dOp cM (zh 4) (dOp dIx (zh 2) (dC (.int 0)))) (dOp cM (zh 5) (dOp dIx (zh 2) (dC (.int 1))))) (aU 0 2 zA (zc (zh 0) (zc (dOp aR (dOp cM (dC (.int 2)) (zh 6)) (dC (.int 1))) zu)))) (zh 6)) (zm 7)) (aA (aE (dOp aR (zh 7) (dOp dIx (dY (zc (dC (.int 0)) (zc (dC (.int 1)) (zc (dC (.int 2)) (zc (zh 3) (zc (zh 6) (zc (dOp cM (dC (.int 3)) (zh 3)) zu))))))) (aU 0 2 zA (zc (zh 0) (zc (dC (.int 6)) zu))))) (zm 8)) (aA (aE (aU 0 4 rN (zc (zh 0) (zc (zh 1) (zc (dOp dIx (zh 2) (dC (.int 0))) (zc (zh 3) zu))))) (zm 9)) (aC (aL (zc (aL (zc (aL (zc (aL (zc (dC (.int 0)) (zc (zh 4) zu))) (zc (aL (zc (dC (.int 1)) (zc (zh 5) zu))) zu))) (zc (zh 7) (zc (zh 8) zu)))) (zc (zh 9) (zc (aU 0 4 rN (zc (zh 0) (zc (zh 1) (zc (dOp dIx (zh 2) (dC (.int 1))) (zc (zh 3) zu))))) zu)))))))))))) (aO S.length R) (xs.map some++bx 8 none) S
def qS:PN:=fun xs S R=>(aA (aE (dS zu) (zm 3)) (aA (dD (jS (zc (aF 3 mR (zc (zh 0) (zc (zh 1) (zc (zh 2) zu)))) zu)) (bJ 2 (zO (zm 4) (zO (zm 5) bH))) (d8 (dBM kB (zh 3) (zc (bE [none,some 4] (aW (zh 5)) (zm 0) aK (aL (zc (zh 1) (zc (zh 0) zu)))) zu)))) (aC (zh 3)))) (aO S.length R) (xs.map some++bx 3 none) S
def l6:PN:=fun xs S R=>(aC (gC [none,some 1] (aW (zh 0)) (zm 0) (dB (dOp fW (zh 0) (zh 1))) (zh 0))) (aO S.length R) (xs.map some++bx 0 none) S
def kA:Nat->PNm
 | 0=>fun _ _ _ _=>False
 |n+1=>fun xs S M R=>(bV (fO (fun M=>(aW (dOp dIx (zh 0) (zh 1)))) (zm 4) (bV (fL (fun M=>(dB (dOp (dE M false) (zh 4) (zh 3)))) (aY jE) (aY aI)) (bV (dJ 3 (fun M=>(zh 4)) (fun M=>(dC (.bool true)))) (gG (gV (dmT (fun M=>(dB (dOp (dE M true) (zh 4) (zh 2))))) (jM 4 (kA n) (fun M=>(zc (zh 0) (zc (fZ M (zh 2) (zh 4)) (zc (zh 2) (zc (zh 3) zu))))))) (bV (dJ 2 (fun M=>(zh 4)) (fun M=>(zh 1))) (aY (aC (dC (.bool true))))) (aY aI))))) (aY (aC (dC (.bool false))))) (nP R) (xs.map some++bx 1 none) S M
def uU:PNm:=kA 12
def kS:PN:=fun xs S R=>(aA (gO (fU true 1 (.k []) (fO (fun M=>(cZ (zc (dCB aS (zc (zh 0) zu)) zu))) (zm 2) (jV uU (fun M=>(zh 0)) (fun M=>(zh 2)) (fun M=>(zh 1)))))) (aC (zh 1))) (aO S.length R) (xs.map some++bx 2 none) S
def vH:PN:=fun xs S R=>(aA (dD (aW (aF 2 l6 (zc (dOp dIx (zh 0) (zh 1)) (zc (zh 2) zu)))) (zm 4) (aA (aE (bE [none,some 2,some 4] (aW (dSl mX (zh 0) (fA (dOp aR (zh 1) (dC (.int 1)))) eX)) (zm 0) aK (aF 2 l6 (zc (zh 0) (zc (dOp aR (zh 1) (dY (zc (zh 2) zu))) zu)))) (zm 5)) (aQ (dB (dOp cE (dCB gI (zc (aF 1 kS (zc (zh 5) zu)) zu)) (zh 3))) (aC (zh 4)) aI))) (aC (dC .none))) (aO S.length R) (xs.map some++bx 2 none) S
def jB:PN:=fun xs S R=>(aA (aE (aF 3 mR (zc (zh 0) (zc (zh 1) (zc (zh 2) zu)))) (zm 3)) (aA (aE (dCB gI (zc (aF 1 kS (zc (zh 3) zu)) zu)) (zm 4)) (aA (aE (dS zu) (zm 5)) (aA (aE (dS zu) (zm 6)) (aA (dD (cZ (zc (dCB aS (zc (zh 3) zu)) zu)) (zm 7) (aA (aE (kT 4 vH (zc (zh 3) (zc (zh 7) (zc (zh 6) (zc (dOp (dI0 fun i j=>i-j) (dOp (dI0 fun i j=>i-j) (zh 4) (dCB aS (zc (zh 5) zu))) (dC (.int 1))) zu))))) (zm 8)) (aQ (dB (dOp lB (zh 8) (dC .none))) (aA (d8 (dBM eK (zh 5) (zc (aL (zc (zh 7) (zc (zh 8) zu))) zu))) (d8 (dBM eK (zh 6) (zc (zh 8) zu)))) aI))) (aC (zh 5))))))) (aO S.length R) (xs.map some++bx 6 none) S
def oU:PN:=fun xs S R=>(aA (aQ (dOr (aZ (aX (dCB cQ (zc (zh 1) (zc (dO (.ty "tuple")) zu))))) (aZ (aX (dCB fY (zc (bE [none,some 0] (aW (zh 1)) (zm 0) aK (eC (aF 1 uJ (zc (zh 0) zu)) (f7 (dIb fun i j=>decide (i<=j)) (dIb fun i j=>decide (i<j)) (dC (.int 0)) (zh 0) (dCB aS (zc (zh 1) zu))))) zu))))) (aC (dC (.bool false))) aI) (aC (dCB fY (zc (bE [none,none] (lD (zc (zh 1) (zc (dSl hW (zh 1) (fA (dC (.int 1))) eX) zu))) (bJ 2 (zO (zm 0) (zO (zm 1) bH))) aK (dOp (dIb fun i j=>decide (i<j)) (zh 0) (zh 1))) zu)))) (aO S.length R) (xs.map some++bx 0 none) S
def tS:PN:=fun xs S R=>(aA (aQ (dOr (aZ (aX (dCB cQ (zc (zh 3) (zc (dO (.ty "tuple")) zu))))) (dB (dOp eO (dCB aS (zc (zh 3) zu)) (dC (.int 2))))) (aC (dC (.bool false))) aI) (aA (aQ (dOr (aZ (aX (aF 2 oU (zc (zh 1) (zc (dOp dIx (zh 3) (dC (.int 0))) zu))))) (aZ (aX (aF 2 oU (zc (zh 2) (zc (dOp dIx (zh 3) (dC (.int 1))) zu)))))) (aC (dC (.bool false))) aI) (aC (dCB fY (zc (bE [none,none,some 3] (aW (aF 3 qS (zc (zh 0) (zc (zh 1) (zc (zh 2) zu))))) (bJ 2 (zO (zm 0) (zO (zm 1) bH))) aK (i7 (dOp dIn (zh 0) (dOp dIx (zh 2) (dC (.int 0)))) (dOp dIn (zh 1) (dOp dIx (zh 2) (dC (.int 1)))))) zu))))) (aO S.length R) (xs.map some++bx 0 none) S
def tB:PN:=fun xs S R=>(aA (aE (bE [none,none] (aW (zh 0)) (bJ 2 (zO (zm 0) (zO (zm 1) bH))) aK (zh 0)) (zm 1)) (aA (aE (bE [none,none] (aW (zh 0)) (bJ 2 (zO (zm 0) (zO (zm 1) bH))) aK (zh 1)) (zm 2)) (aC (eC (dOp cE (dCB iQ (zc (zh 1) zu)) (dCB aS (zc (zh 1) zu))) (dOp cE (dCB iQ (zc (zh 2) zu)) (dCB aS (zc (zh 2) zu))))))) (aO S.length R) (xs.map some++bx 2 none) S
def pH:PN:=fun xs S R=>(aA (aQ (dOr (aZ (aX (dCB cQ (zc (zh 0) (zc (dO (.ty "tuple")) zu))))) (aZ (aX (dCB fY (zc (bE [none,some 1] (aW (zh 0)) (zm 0) aK (eC (aF 1 lU (zc (zh 0) zu)) (f7 (dIb fun i j=>decide (i<=j)) (dIb fun i j=>decide (i<j)) (dC (.int 0)) (zh 0) (dCB aS (zc (zh 1) zu))))) zu))))) (aC (dC (.bool false))) aI) (aC (dOp cE (dCB k6 (zc (zh 0) zu)) (dCB lH (zc (zh 0) zu))))) (aO S.length R) (xs.map some++bx 0 none) S
def u7:PN:=fun xs S R=>(aA (aQ (dOr (aZ (aX (dCB cQ (zc (zh 3) (zc (dO (.ty "tuple")) zu))))) (dB (dOp eO (dCB aS (zc (zh 3) zu)) (dC (.int 2))))) (aC (dC (.bool false))) aI) (aA (aQ (dOr (aZ (aX (aF 2 pH (zc (dOp dIx (zh 3) (dC (.int 0))) (zc (zh 1) zu))))) (aZ (aX (aF 2 pH (zc (dOp dIx (zh 3) (dC (.int 1))) (zc (zh 2) zu)))))) (aC (dC (.bool false))) aI) (aC (dCB fY (zc (bE [none,none,some 3] (aW (aF 3 lQ (zc (zh 0) (zc (zh 1) (zc (zh 2) zu))))) (bJ 2 (zO (zm 0) (zO (zm 1) bH))) aK (i7 (dOp dIn (zh 0) (dOp dIx (zh 2) (dC (.int 0)))) (dOp dIn (zh 1) (dOp dIx (zh 2) (dC (.int 1)))))) zu))))) (aO S.length R) (xs.map some++bx 0 none) S
def jU:Nat->PNm
 | 0=>fun _ _ _ _=>False
 |n+1=>fun xs S M R=>(bV (fO (fun M=>(aW (zh 0))) (bJ 2 (zO (zm 4) (zO (zm 5) bH))) (fL (fun M=>(fG (dB (dOp cE (zh 4) (zh 1))) (dB (dOp fW (zh 5) (zh 3))))) (bV (aY (d8 (dBM eK (zh 3) (zc (zh 5) zu)))) (gG (gV (dmT (fun M=>(dB (dOp (dE M true) (zh 5) (zh 2))))) (iY 3 4 (jU n) (fun M=>(zc (zh 0) (zc (fZ M (zh 2) (zh 5)) (zc (zh 2) (zc (zh 3) zu))))))) (bV (dJ 2 (fun M=>(zh 5)) (fun M=>(zh 1))) (aY (aC (dC (.bool true))))) (aY aI))) (aY aI))) (aY (aC (dC (.bool false))))) (nP R) (xs.map some++bx 2 none) S M
def Aa:PNm:=jU 12
def sT:PN:=fun xs S R=>(aA (gO (fU true 1 (.k []) (fO (fun M=>(aW (dCB j7 (zc (bE [none,none] (aW (zh 0)) (bJ 2 (zO (zm 0) (zO (zm 1) bH))) aK (zh 0)) zu)))) (zm 2) (kU 3 4 Aa (fun M=>(zc (zh 0) (zc (zh 2) (zc (zh 1) (zc (dS zu) zu))))))))) (aC (dCB gI (zc (zh 1) zu)))) (aO S.length R) (xs.map some++bx 2 none) S
def uT:PN:=fun xs S R=>(aA (aE (aF 3 mR (zc (zh 0) (zc (zh 1) (zc (zh 2) zu)))) (zm 3)) (aA (aE (aF 1 kS (zc (zh 3) zu)) (zm 4)) (aA (aE (gC [none,some 4] (cZ (zc (dCB aS (zc (zh 3) zu)) zu)) (zm 0) (dB (dOp fW (zh 0) (jT (zh 1)))) (zh 0)) (zm 5)) (aA (gO (fU true 6 (.k []) (fU true 7 (.k []) (yN (fun M=>(aX (zh 5))) (bV (aY (aE (j3 k8 (zh 5)) (zm 8))) (bV (dJ 6 (fun M=>(zh 8)) (fun M=>(dC (.bool true)))) (fO (fun M=>(aW (dOp dIx (zh 3) (zh 8)))) (zm 9) (fL (fun M=>(dB (dOp (dE M true) (zh 9) (zh 7)))) (bV (dJ 7 (fun M=>(zh 9)) (fun M=>(dC (.bool true)))) (aY (d8 (dBM eK (zh 5) (zc (fZ [] (zh 4) (zh 9)) zu))))) (aY aI))))))))) (aC (aL (zc (dCB hG (zc (bE [none,some 6] (cZ (zc (dCB aS (zc (zh 3) zu)) zu)) (zm 0) (dB (dOp (dE [] true) (zh 0) (zh 1))) (zh 0)) zu)) (zc (dCB hG (zc (dCB kQ (zc (zh 7) zu)) zu)) zu)))))))) (aO S.length R) (xs.map some++bx 7 none) S
def sK:PN:=fun xs S R=>(aA (dD (cZ (zc (dCB aS (zc (zh 3) zu)) zu)) (zm 4) (aA (aE (bE [none,none] (aW (dSl mX (zh 3) eX (fA (zh 4)))) (bJ 2 (zO (zm 0) (zO (zm 1) bH))) aK (zh 1)) (zm 5)) (aA (aE (dUn (dUI fun i=>-i) (dC (.int 1))) (zm 6)) (aA (aQ (dB (dOp (dIb fun i j=>decide (j<i)) (zh 4) (dC (.int 0)))) (aE (dOp dIx (dOp dIx (zh 3) (dOp (dI0 fun i j=>i-j) (zh 4) (dC (.int 1)))) (dC (.int 0))) (zm 6)) aI) (aA (aE (bE [none,none,some 6,some 5] (aW (aF 3 lQ (zc (zh 0) (zc (zh 1) (zc (zh 2) zu))))) (bJ 2 (zO (zm 0) (zO (zm 1) bH))) (fG (dB (dOp (dIb fun i j=>decide (j<i)) (zh 0) (zh 2))) (dB (dOp fW (zh 1) (zh 3)))) (aL (zc (zh 0) (zc (zh 1) zu)))) (zm 7)) (dD (aW (zh 7)) (bJ 2 (zO (zm 8) (zO (zm 9) bH))) (aQ (dB (dOp jZ (aL (zc (zh 8) (zc (zh 9) zu))) (dOp dIx (zh 3) (zh 4)))) (aA (aE (bE [none,none,some 8,some 9] (aW (zh 7)) (bJ 2 (zO (zm 0) (zO (zm 1) bH))) (fG (dB (dOp (dIb fun i j=>decide (j<i)) (zh 0) (zh 2))) (dB (dOp eO (zh 1) (zh 3)))) (aL (zc (zh 0) (zc (zh 1) zu)))) (zm 10)) (aQ (dB (dOp cE (dOp aR (aF 1 sT (zc (zh 10) zu)) (dC (.int 1))) (dOp (dI0 fun i j=>i-j) (dCB aS (zc (zh 3) zu)) (zh 4)))) (aC (dC (.bool true))) aI)) aI))))))) (aC (dC (.bool false)))) (aO S.length R) (xs.map some++bx 7 none) S
def lP:PN:=fun xs S R=>(aA (aE (aF 3 jB (zc (zh 0) (zc (zh 1) (zc (zh 2) zu)))) (zm 3)) (aA (aE (aF 3 lQ (zc (zh 0) (zc (zh 1) (zc (zh 2) zu)))) (zm 4)) (aA (aQ (dOr (aZ (aX (aF 2 tT (zc (zh 3) (zc (dCB kM (zc (bE [none,some 3] (aW (zh 4)) (zm 0) (dB (dOp dIn (zh 0) (zh 1))) (zh 0)) zu)) zu))))) (aZ (aX (aF 1 tB (zc (zh 3) zu))))) (aC (dC (.bool false))) aI) (aA (aE (aF 3 uT (zc (zh 0) (zc (zh 1) (zc (zh 2) zu)))) (zm 5)) (aA (aQ (dOr (aZ (aX (aF 4 u7 (zc (zh 0) (zc (zh 1) (zc (zh 2) (zc (zh 5) zu))))))) (dB (dOp kX (aF 4 tS (zc (zh 0) (zc (zh 1) (zc (zh 2) (zc (zh 5) zu))))) (dC (.bool true))))) (aC (dC (.bool false))) aI) (aC (eC (dOp cE (dOp aR (dCB aS (zc (dOp dIx (zh 5) (dC (.int 0))) zu)) (dCB aS (zc (dOp dIx (zh 5) (dC (.int 1))) zu))) (dCB aS (zc (zh 3) zu))) (h9 (aF 4 sK (zc (zh 0) (zc (zh 1) (zc (zh 2) (zc (zh 3) zu))))))))))))) (aO S.length R) (xs.map some++bx 3 none) S
def wA:DS:=(aQ (dOr (aZ (aX (aF 3 lP (zc (aL (zc (aL (zc (aL (zc (dC (.int 0)) (zc (dC (.int 1)) zu))) (zc (aL (zc (dC (.int 1)) (zc (dUn (dUI fun i=>-i) (dC (.int 1))) zu))) zu))) (zc (dC (.int 0)) (zc (dC (.int 0)) zu)))) (zc (aL zu) (zc (aL (zc (dC (.int 5)) zu)) zu)))))) (dB (dOp eO (aF 3 qS (zc (aL (zc (aL (zc (aL (zc (dC (.int 0)) (zc (dC (.int 1)) zu))) (zc (aL (zc (dC (.int 1)) (zc (dC (.int 1)) zu))) zu))) (zc (dC (.int 0)) (zc (dC (.int 0)) zu)))) (zc (aL (zc (dC (.int 0)) zu)) (zc (aL zu) zu)))) (dY zu)))) (aC (dC (.bool false))) aI)
def xJ:DS:=(aA (aE (aF 1 AU (zc (zh 1) zu)) (zm 2)) (aA (aE (aU 0 2 u5 (zc (zh 2) (zc (dC (.int 10)) zu))) (bJ 3 (zO (zm 3) (zO (zm 4) (zO (zm 5) bH))))) (aA (aQ (dOr (aZ (aX (aF 3 lP (zc (zh 3) (zc (zh 4) (zc (zh 5) zu)))))) (aZ (aX (aF 3 lP (zc (zh 3) (zc (zh 5) (zc (zh 4) zu))))))) (aC (dC (.bool false))) aI) (aA (aE (dCB aS (zc (aF 3 jB (zc (zh 3) (zc (zh 4) (zc (zh 5) zu)))) zu)) (zm 6)) (aA (aE (aL (zc (dOp dIx (zh 3) (dC (.int 0))) (zc (dOp (dI0 fun i j=>i-j) (dOp dIx (zh 3) (dC (.int 1))) (aU 0 2 zA (zc (zh 2) (zc (dC (.int 3)) zu)))) (zc (dOp aR (dOp dIx (zh 3) (dC (.int 2))) (aU 0 2 zA (zc (zh 2) (zc (dC (.int 3)) zu)))) zu)))) (zm 7)) (aA (aQ (dB (dOp (dIb fun i j=>decide (i<j)) (dCB aS (zc (aF 3 jB (zc (zh 7) (zc (zh 4) (zc (zh 5) zu)))) zu)) (zh 6))) (aC (dC (.bool false))) aI) (aA (aE (dOp aR (zh 4) (dSl hW (dOp aR (dOp aR (zh 5) (zh 4)) (aL (zc (dC (.int 0)) zu))) eX (fA (dC (.int 1))))) (zm 8)) (aQ (fG (dB (dOp (dIb fun i j=>decide (i<j)) (dCB aS (zc (zh 4) zu)) (dC (.int 10)))) (dB (dOp fW (dCB aS (zc (aF 3 jB (zc (zh 3) (zc (zh 8) (zc (zh 5) zu)))) zu)) (aL (zc (zh 6) (zc (dOp aR (zh 6) (dC (.int 1))) zu)))))) (aC (dC (.bool false))) aI))))))))
end My
namespace My
open PySem L2
theorem seq1{t u:DS}{E:DEnds}{δ:XE}{S:Sto}(h:t { E with nx:=u E } δ S):aA t u E δ S:=h
theorem seqm{t u:DSm}{E:DEndsM}{δ:XE}{S:Sto}{M:DM}(h:t { E with nx:=u E } δ S M):bV t u E δ S M:=h
theorem cut{t u:DS}{E:DEnds}{δ:XE}{S:Sto}(I:XE->Sto->Prop)(h1:∀N:XE->Sto->Prop,(∀ δ' S',I δ' S'->N δ' S')->t { E with nx:=N } δ S)(h2:∀ δ' S',I δ' S'->u E δ' S'):aA t u E δ S:=h1 _ h2
theorem mV(i j:Int):kh (.int i) (.int j)=decide (i=j):=rfl
theorem pD(i:Int):gj (.int i)=true:=rfl
theorem pR:("int" ∈ iD)=True:=eq_true dz
theorem sE:("bool" ∈ iD)=True:=eq_true dz
theorem rE:("tuple" ∈ iD)=True:=eq_true dz
theorem rK:("list" ∈ iD)=True:=eq_true dz
end My
namespace My
open PySem L2
local macro_rules|`(tactic|walk_at $s:str)=>do
 let xs<-("aE jT iQ rH gG gV dmT jM jV kU iY gI n8 pA pO n9 sC all_cons List.all_nil Bool.and_self kY jY oB pJ pG gO fU aY fL fO dJ fZ dE r8 nB kX kQ kM oQ oY oN j7 lH jZ hW zm zh dC dO dOp dUn zu zc dCB aL dY dS dB aZ fG dOr eC i7 h9 dIf f7 dI dI0 dIb dUI cE eO rX lB rY qV pI m7 nE rZ oT nR dFd aX sD qO eX fA dSl aS rR pC qF cQ iV i4 dI2 hG k6 dBM j3 eK kB k8 kW fY aF aU kT oV oW mZ nC pY nZ oX rW rF qK qU asL nV rS m6 sI qE oO qX qA rJ pN nH sG oH pQ rL qM aC aQ d8 aI jE oG dD aW qR qN cZ pE jS lD bJ zO nF nO pU nN bH iT bE gC aK f6 sF kK qP oA r9 pB List.replicate map_cons map_nil map_some Option.bind_some Option.bind_none Option.join_some getElem?_cons_zero getElem?_cons_succ set_cons_zero set_cons_succ List.take_succ_cons take_zero List.take_nil length_cons length_nil nil_append cons_append Option.some.injEq exists_eq_left' exists_eq_left List.cons.injEq XV.d.injEq XV.l.injEq XV.o.injEq PyData.int.injEq PyData.list.injEq PyData.tuple.injEq PyData.bool.injEq PyData.str.injEq and_true true_and decide_eq_true_eq Bool.not_true Bool.not_false Bool.false_eq_true Bool.true_eq_false not_true_eq_false not_false_eq_true decide_true decide_false Bool.not_eq_true' jJ decide_eq_false_iff_not Nat.reduceAdd Nat.reduceMul zero_add Nat.reduceLT Nat.reduceLeDiff Nat.reduceEqDiff Int.reduceLT Int.reduceLE Int.reduceNeg Int.reducePow Int.reduceToNat Int.reduceEq Int.reduceAdd Int.reduceSub Int.reduceMul le_refl zero_le length_append length_map mV pD List.isEmpty_nil List.isEmpty_cons Int.cast_ofNat_Int Int.natCast_zero Int.natCast_one pR sE rE rK nY qC oF oD".splitOn " ").toArray.mapM fun n=>`(Lean.Parser.Tactic.simpLemma|$(Lean.mkIdent n.toName):ident)
 match s.getString with
 |"d"=>`(tactic|((try dsimp only[↓reduceIte,$xs,*]);(try simp only[↓reduceIte,$xs,*])))
 |"n"=>`(tactic|(refine seq1 ?_; walk_at "d"))
 |"dX"=>`(tactic|(try simp -implicitDefEqProofs only [↓reduceIte,$xs,*]))
 |"e"=>`(tactic|((try dsimp only[aA,bV,↓reduceIte,$xs,*]);(try simp only[aA,bV,↓reduceIte,$xs,*])))
 |_=>Lean.Macro.throwUnsupported
section
abbrev Mt:=List (Nat×Nat)
theorem cI{α:Type}[DecidableEq α]:∀{l l':List α},l.Nodup->(∀x∈l,x∈l')->l.length<=l'.length
 | [],_,_,_=>nj _
 |x::l,l',nd,h=>by
  rw[qg]at nd;have mx:=h x dw;have:=cI (l:=l) (l':=l'.erase x) nd.2 fun y my=>by
   have ne:y≠x:=fun e=>nd.1 (e▸my);exact(List.mem_erase_of_ne ne).mpr (h y (cz _ my))
  rw[List.length_erase_of_mem mx]at this;have:0<l'.length:=List.length_pos_of_mem mx;rw[ft];omega
def fmL(f:Nat->Mt->List Nat->Bool×Mt×List Nat)(i:Nat):List Nat->Mt->List Nat->Bool×Mt×List Nat
 | [],M,a=>(false,M,a)
 |j::js,M,a=>
  if j∈a then fmL f i js M a
  else match lkA M j with
   |none=>(true,ptA M j i,a++[j])
   |some i2=>if (f i2 M (a++[j])).1=true then (true,ptA (f i2 M (a++[j])).2.1 j i,(f i2 M (a++[j])).2.2)else fmL f i js (f i2 M (a++[j])).2.1 (f i2 M (a++[j])).2.2
def aB(q:List (List Nat))(i:Nat):List Nat:=q.getD i []
def fm(q:List (List Nat)):Nat->Nat->Mt->List Nat->Bool×Mt×List Nat
 | 0,_,M,a=>(false,M,a)
 |n+1,i,M,a=>fmL (fm q n) i (aB q i) M a
def KN(M:Mt):Prop:=(M.map (·.1)).Nodup
def Ed(q:List (List Nat))(M:Mt):Prop:=∀p∈M,p.1∈aB q p.2
def Cl(q:List (List Nat))(M:Mt)(C:List Nat):Prop:=∀j∈C,∃i,lkA M j=some i/\∀j2∈aB q i,j2∈C
theorem xF{q:List (List Nat)}{f:Nat->Mt->List Nat->Bool×Mt×List Nat}{i:Nat}{C:List Nat}
  (hf:∀i2 M a,Cl q M C->(∀j∈aB q i2,j∈C)->(f i2 M a).1=false/\(f i2 M a).2.1=M):∀js M a,Cl q M C->(∀j∈js,j∈C)->(fmL f i js M a).1=false/\(fmL f i js M a).2.1=M
 | [],M,a,_,_=>⟨rfl,rfl⟩
 |j::js,M,a,hc,hj=>by
  unfold fmL;split
  ·exact xF hf js M a hc fun x m=>hj x (cz _ m)
  ·obtain⟨i2,e,h2⟩:=hc j (hj j dw);rw[e];obtain⟨r1,r2⟩:=hf i2 M (a++[j]) hc h2;show (if (f i2 M (a++[j])).1=true then _ else _:Bool×Mt×List Nat).1=false/\_;simp only[r1,fg,if_false,r2];exact xF hf js M _ hc fun x m=>hj x (cz _ m)
theorem FR{q:List (List Nat)}{C:List Nat}:∀n i M a,Cl q M C->(∀j∈aB q i,j∈C)->(fm q n i M a).1=false/\(fm q n i M a).2.1=M
 | 0,_,_,_,_,_=>⟨rfl,rfl⟩
 |n+1,i,M,a,hc,hj=>xF (FR n) (aB q i) M a hc hj
structure FmOk(rows:List (List Nat))(m i:Nat)(js:List Nat)(M:Mt)(a:List Nat)(r:Bool×Mt×List Nat):Prop where
 sub:∀j∈a,j∈r.2.2
 nd:r.2.2.Nodup
 lt:∀j∈r.2.2,j<m
 no:r.1=false->r.2.1=M/\(∀j∈js,j∈r.2.2)/\∀j∈r.2.2,j∈a\/∃i2,lkA M j=some i2/\∀j2∈aB rows i2,j2∈r.2.2
 yes:r.1=true->KN r.2.1/\Ed rows r.2.1/\(r.2.1.map (·.2)).Perm (i::M.map (·.2))/\∀j∈a,lkA r.2.1 j=lkA M j
 cl:r.1=true->∀C,Cl rows M C->∀j∈C,lkA r.2.1 j=lkA M j
theorem FX{M:Mt}{j:Nat}(h:lkA M j=none):∀p∈M,p.1≠j:=fun p m e=>by
 unfold lkA at h;rw[Option.map_eq_none_iff,List.find?_eq_none]at h;exact h p m (by simp[e])
theorem e9{M:Mt}{j i:Nat}(h:lkA M j=some i):(j,i)∈M:=by
 unfold lkA at h;obtain⟨q,e,e2⟩:=map_eq_some_iff.mp h;have h0:=find?_some e;have h1:=jf h0;have h2:=List.mem_of_find?_eq_some e;obtain⟨q1,q2⟩:=q;cases h1;cases e2;exact h2
theorem Ka{M:Mt}(hn:KN M){j i:Nat}(h:(j,i)∈M):lkA M j=some i:=by
 induction M with
 |nil=>cases h
 |cons p M ih=>
  unfold KN at hn;rw[ga,qg]at hn;rcases mem_cons.mp h with e|e
  ·subst e;unfold lkA;simp
  ·have ne:p.1≠j:=fun z=>hn.1 (z▸oy e);have:=ih hn.2 e;unfold lkA at this ⊢;rw[qy (by simpa using ne)];exact this
theorem tX{M:Mt}{j i:Nat}(h:lkA M j=none):ptA M j i=M++[(j,i)]:=by
 have hn:=FX h;unfold ptA;rw[cm];intro z;rw[any_eq_true]at z;obtain⟨p,mp,hp⟩:=z;exact hn p mp (jf hp)
theorem Ba{M:Mt}{j i i2:Nat}(hn:KN M)(h:lkA M j=some i2):∃A B,M=A++(j,i2)::B/\ptA M j i=A++(j,i)::B:=by
 have hm:=e9 h;obtain⟨A,B,e⟩:=List.append_of_mem hm;subst e;refine⟨A,B,rfl,?_⟩;unfold KN at hn;rw[jk,ga,qz]at hn;have hA:∀p∈A,p.1≠j:=fun p m z=>hn.2.2 p.1 (oy m) j yv z;have hB:∀p∈B,p.1≠j:=fun p m z=>(nodup_cons.mp hn.2.1).1 (mem_map.mpr ⟨p,m,z⟩);unfold ptA;rw[cn yv];rw[jk,ga,cn rfl];congr 1
 ·exact(rh fun p m=>cm (hA p m)).trans (map_id' A)
 ·congr 1;exact(rh fun p m=>cm (hB p m)).trans (map_id' B)
theorem u4{M:Mt}{j i j':Nat}(hn:KN M)(hj:j'≠j):lkA (ptA M j i) j'=lkA M j':=by
 cases h:lkA M j with
 |none=>
  rw[tX h];unfold lkA;rw[List.find?_append];cases M.find? fun p=>decide (p.1=j')with
  |none=>simp[kf hj]
  |some q=>rfl
 |some i2=>
  obtain⟨A,B,e1,e2⟩:=Ba (i:=i) hn h;rw[e2,e1];unfold lkA;rw[List.find?_append,List.find?_append,qy (by simpa using kf hj),qy (by simpa using kf hj)]
theorem AL{aa:List (List Nat)}{f:Nat->Mt->List Nat->Bool×Mt×List Nat}{m K i:Nat}
  (hf:∀i2 M a,KN M->Ed aa M->a.Nodup->(∀j∈a,j<m)->K<=a.length->FmOk aa m i2 (aB aa i2) M a (f i2 M a))
  (hno:∀C i2 M a,Cl aa M C->(∀j∈aB aa i2,j∈C)->(f i2 M a).1=false):
  ∀js M a,(∀j∈js,j∈aB aa i)->(∀j∈js,j<m)->KN M->Ed aa M->a.Nodup->(∀j∈a,j<m)->K<=a.length+1->FmOk aa m i js M a (fmL f i js M a)
 | [],M,a,_,_,hn,he,an,al,_=>⟨fun _ h=>h,an,al,fun _=>⟨rfl,fun _ h=>(nomatch h),fun j h=>.inl h⟩,fun h=>(nomatch h),fun h=>(nomatch h)⟩
 |j::js,M,a,hi,hm,hn,he,an,al,hK=>by
  have af:∀x∈js,x∈aB aa i:=fun x m=>hi x (cz _ m);have ae:∀x∈js,x<m:=fun x h=>hm x (cz _ h);have hj:=hi j dw;unfold fmL;split
  ·rename_i ja;have r:=AL hf hno js M a af ae hn he an al hK;refine⟨r.sub,r.nd,r.lt,fun h=>?_,r.yes,r.cl⟩;obtain⟨r1,r2,r3⟩:=r.no h;refine⟨r1,fun x mx=>?_,r3⟩;rcases mem_cons.mp mx with rfl|mx
   ·exact r.sub _ ja
   ·exact r2 x mx
  ·rename_i ja;have ab:(a++[j]).Nodup:=by
    rw[qz];refine⟨an,yv,fun x mx y my e=>?_⟩;rw[mem_singleton.mp my]at e;exact ja (e▸mx)
   have ac:∀x∈a++[j],x<m:=fun x mx=>by
    rcases mem_append.mp mx with mx|mx
    ·exact al x mx
    ·rw[mem_singleton.mp mx];exact hm j dw
   have l1:(a++[j]).length=a.length+1:=by simp
   cases h:lkA M j with
   |none=>
    have hk:=FX h;refine⟨fun x mx=>cg _ mx,ab,ac,fun z=>(nomatch z),fun _=>⟨?_,?_,?_,?_⟩,fun _ C hc x mx=>?_⟩
    ·show KN (ptA M j i);rw[tX h];unfold KN at hn ⊢;rw[jk,qz];refine⟨hn,yv,fun x mx y my e=>?_⟩;obtain⟨p,mp,rfl⟩:=mem_map.mp mx;have ey:y=j:=by simpa using my
     exact hk p mp (e.trans ey)
    ·show Ed aa (ptA M j i);rw[tX h];intro p mp;rcases mem_append.mp mp with mp|mp
     ·exact he p mp
     ·rw[mem_singleton.mp mp];exact hj
    ·show ((ptA M j i).map (·.2)).Perm _;rw[tX h,jk];exact List.perm_append_singleton _ _
    ·intro x mx;exact u4 hn fun e=>ja (e▸mx)
    ·refine u4 hn fun e=>?_;obtain⟨i2,e2,_⟩:=hc x mx;rw[e,h]at e2;cases e2
   |some i2=>
    have r:=hf i2 M (a++[j]) hn he ab ac yw;have nf:=fun C=>hno C i2 M (a++[j]);show FmOk aa m i (j::js) M a (if (f i2 M (a++[j])).1=true then _ else _);generalize f i2 M (a++[j])=q at r nf;obtain⟨b,M',a'⟩:=q;cases b with
    |true=>
     obtain⟨y1,y2,y3,y4⟩:=r.yes rfl;rw[cn rfl];have ej:lkA M' j=some i2:=(y4 j yv).trans h;simp only at y1 y2 y3 y4 ⊢;obtain⟨A,B,e1,e2⟩:=Ba (i:=i) y1 ej;refine⟨fun x mx=>r.sub x (cg _ mx),r.nd,r.lt,fun z=>(nomatch z),fun _=>⟨?_,?_,?_,?_⟩,fun _ C hc x mx=>?_⟩
     ·show KN (ptA M' j i);rw[e2];rw[e1]at y1;unfold KN at y1 ⊢;simpa using y1
     ·show Ed aa (ptA M' j i);rw[e2];intro p mp;rw[e1]at y2;rcases mem_append.mp mp with mp|mp
      ·exact y2 p (cg _ mp)
      ·rcases mem_cons.mp mp with rfl|mp
       ·exact hj
       ·exact y2 p (fh _ (cz _ mp))
     ·show ((ptA M' j i).map (·.2)).Perm _;rw[e2];rw[e1,jk,ga]at y3;rw[jk,ga];have z:(i2::(A.map (·.2)++B.map (·.2))).Perm (i2::M.map (·.2)):=List.perm_middle.symm.trans y3;exact List.perm_middle.trans (List.Perm.cons i ((List.perm_cons i2).mp z))
     ·intro x mx;exact(u4 y1 fun e=>ja (by rw[<- e];exact mx)).trans (y4 x (cg _ mx))
     ·refine(u4 y1 fun e=>?_).trans (r.cl rfl C hc x mx);subst e;obtain⟨i3,e3,ag⟩:=hc x mx;rw[h]at e3;cases e3;exact Bool.noConfusion (nf C hc ag)
    |false=>
     obtain⟨n1,n2,n3⟩:=r.no rfl;simp only at n1 n2 n3;subst n1;rw[cm yv];have la:a.length<=a'.length:=cI an fun x mx=>r.sub x (cg _ mx);have s:=AL hf hno js M' a' af ae hn he r.nd r.lt yw;refine⟨fun x mx=>s.sub x (r.sub x (cg _ mx)),s.nd,s.lt,fun z=>?_,fun z=>?_,s.cl⟩
     ·obtain⟨s1,s2,s3⟩:=s.no z;refine⟨s1,fun x mx=>?_,fun x mx=>?_⟩
      ·rcases mem_cons.mp mx with rfl|mx
       ·exact s.sub _ (r.sub _ yv)
       ·exact s2 x mx
      ·rcases s3 x mx with w|w
       ·rcases n3 x w with v|⟨i3,v1,v2⟩
        ·rcases mem_append.mp v with v|v
         ·exact .inl v
         ·rw[mem_singleton.mp v];exact .inr ⟨i2,h,fun j2 m2=>s.sub _ (n2 j2 m2)⟩
        ·exact .inr ⟨i3,v1,fun j2 m2=>s.sub _ (v2 j2 m2)⟩
       ·exact .inr w
     ·obtain⟨s1,s2,s3,s4⟩:=s.yes z;exact⟨s1,s2,s3,fun x mx=>s4 x (r.sub x (cg _ mx))⟩
theorem rC{q:List (List Nat)}{m:Nat}(hr:∀i,∀j∈aB q i,j<m):∀n i M a,KN M->Ed q M->a.Nodup->(∀j∈a,j<m)->m<n+a.length->FmOk q m i (aB q i) M a (fm q n i M a)
 | 0,i,M,a,_,_,an,al,h=>by
  have:=cI (l':=gg m) an fun x mx=>mem_range.mpr (al x mx);rw[ko]at this;omega
 |n+1,i,M,a,hn,he,an,al,h=>AL (K:=m+1-n) (fun i2 M a hn he an al hk=>rC hr n i2 M a hn he an al yw) (fun C i2 M a hc hj=>(FR n i2 M a hc hj).1) (aB q i) M a (fun _ h=>h) (hr i) hn he an al yw
def mmN(q:List (List Nat))(n:Nat):Nat->Mt
 | 0=>[]
 |k+1=>(fm q n k (mmN q n k) []).2.1
structure MmOk(rows:List (List Nat))(k:Nat)(M:Mt):Prop where
 kn:KN M
 ed:Ed rows M
 vn:(M.map (·.2)).Nodup
 vl:∀p∈M,p.2<k
 cv:∃C,Cl rows M C/\∀i,i<k->i∉M.map (·.2)->∀j∈aB rows i,j∈C
theorem qJ{aa:List (List Nat)}{m n:Nat}(hr:∀i,∀j∈aB aa i,j<m)(hn:m<n):∀k,MmOk aa k (mmN aa n k)
 | 0=>⟨lu,fun p h=>(nomatch h),lu,fun p h=>(nomatch h),[],fun j h=>(nomatch h),fun i h=>(nomatch h)⟩
 |k+1=>by
  have o:=qJ hr hn k;have r:=rC hr n k (mmN aa n k) [] o.kn o.ed lu (fun j h=>(nomatch h)) (by simpa using hn);show MmOk aa (k+1) (fm aa n k (mmN aa n k) []).2.1;generalize mmN aa n k=M at o r ⊢;generalize fm aa n k M []=q at r ⊢;obtain⟨b,M',a'⟩:=q;obtain⟨C,hc,hu⟩:=o.cv;cases b with
  |true=>
   obtain⟨y1,y2,y3,_⟩:=r.yes rfl;have y4:=r.cl rfl C hc;simp only at y1 y2 y3 y4 ⊢;have nk:k∉M.map (·.2):=fun h=>by
    obtain⟨p,mp,e⟩:=mem_map.mp h;have:=o.vl p mp;omega
   refine⟨y1,y2,y3.nodup_iff.mpr (nodup_cons.mpr ⟨nk,o.vn⟩),fun p mp=>?_,C,fun j hj=>?_,fun i hi ni j hj=>?_⟩
   ·have:=y3.mem_iff.mp (oy mp);rcases mem_cons.mp this with e|e
    ·omega
    ·obtain⟨p',ac,e'⟩:=mem_map.mp e;have:=o.vl p' ac;omega
   ·obtain⟨i,e,h⟩:=hc j hj;exact⟨i,(y4 j hj).trans e,h⟩
   ·have ab:i∉k::M.map (·.2):=fun h=>ni (y3.mem_iff.mpr h);rw[mw,not_or]at ab;exact hu i yw ab.2 j hj
  |false=>
   obtain⟨n1,n2,n3⟩:=r.no rfl;simp only at n1 n2 n3 ⊢;subst n1;refine⟨o.kn,o.ed,o.vn,fun p mp=>by have:=o.vl p mp;omega,C++a',fun j hj=>?_,fun i hi ni j hj=>?_⟩
   ·rcases mem_append.mp hj with h|h
    ·obtain⟨i,e,w⟩:=hc j h;exact⟨i,e,fun j2 m2=>cg _ (w j2 m2)⟩
    ·rcases n3 j h with z|⟨i,e,w⟩
     ·cases z
     ·exact⟨i,e,fun j2 m2=>fh _ (w j2 m2)⟩
   ·by_cases e:i=k
    ·subst e;exact fh _ (n2 j hj)
    ·exact cg _ (hu i yw ni j hj)
theorem kJ{α β:Type}{f:α->β}:∀{l:List α},l.Nodup->(∀x∈l,∀y∈l,f x=f y->x=y)->(l.map f).Nodup
 | [],_,_=>lu
 |x::l,nd,h=>by
  rw[qg]at nd;rw[ga,qg];refine⟨fun z=>?_,kJ nd.2 fun a ma b mb=>h a (cz _ ma) b (cz _ mb)⟩;obtain⟨y,my,e⟩:=mem_map.mp z;have:=h y (cz _ my) x dw e;exact nd.1 (this▸my)
theorem mT{α β:Type}{f:α->β}:∀{l:List α},(l.map f).Nodup->l.Nodup
 | [],_=>lu
 |x::l,h=>by
  rw[ga,qg]at h;exact nodup_cons.mpr ⟨fun m=>h.1 (oy m),mT h.2⟩
theorem fT{α β:Type}{f:α->β}:∀{l:List α},(l.map f).Nodup->∀{x y:α},x∈l->y∈l->f x=f y->x=y
 | [],_,_,_,m,_,_=>nomatch m
 |a::l,nd,x,y,mx,my,e=>by
  rw[ga,qg]at nd;rcases mem_cons.mp mx with z|z
  ·rcases mem_cons.mp my with w|w
   ·rw[z,w]
   ·rw[z]at e;exact absurd (by rw[e];exact oy w) nd.1
  ·rcases mem_cons.mp my with w|w
   ·rw[w]at e;exact absurd (by rw[<- e];exact oy z) nd.1
   ·exact fT nd.2 z w e
theorem KL{aa:List (List Nat)}{k:Nat}{M M2:Mt}(o:MmOk aa k M)(k2:KN M2)(e2:Ed aa M2)(v2:(M2.map (·.2)).Nodup)(l2:∀p∈M2,p.2<k):M2.length<=M.length:=by
 obtain⟨C,hc,hu⟩:=o.cv;have ex:∀p∈M2,∃q∈M,(p.1∈C->q.1=p.1)/\(p.1∉C->q.2=p.2/\q.1∉C):=fun p mp=>by
  by_cases h:p.1∈C
  ·obtain⟨i,e,_⟩:=hc p.1 h;exact⟨(p.1,i),e9 e,fun _=>rfl,fun z=>absurd h z⟩
  ·by_cases h2:p.2∈M.map (·.2)
   ·obtain⟨q,mq,eq⟩:=mem_map.mp h2;refine⟨q,mq,fun z=>absurd z h,fun _=>⟨eq,fun z=>?_⟩⟩;obtain⟨i,e,w⟩:=hc q.1 z;have:=fT o.kn mq (e9 e) rfl;rw[this]at eq;simp only at eq;subst eq;exact h (w p.1 (e2 p mp))
   ·exact absurd (hu p.2 (l2 p mp) h2 p.1 (e2 p mp)) h
 have pick:∃f:Nat×Nat->Nat×Nat,∀p∈M2,f p∈M/\(p.1∈C->(f p).1=p.1)/\(p.1∉C->(f p).2=p.2/\(f p).1∉C):=by
  refine⟨fun p=>if h:p∈M2 then Classical.choose (ex p h)else p,fun p mp=>?_⟩;simp only[mp,dif_pos];exact Classical.choose_spec (ex p mp)
 obtain⟨f,hf⟩:=pick;have nd:(M2.map f).Nodup:=kJ (mT k2) fun x mx y my e=>by
  obtain⟨x1,x2,x3⟩:=hf x mx;obtain⟨y1,y2,y3⟩:=hf y my;by_cases hx:x.1∈C
  ·by_cases hy:y.1∈C
   ·exact fT k2 mx my (by rw[<- x2 hx,<- y2 hy,e])
   ·exact absurd (by rw[<- e,x2 hx];exact hx) (y3 hy).2
  ·by_cases hy:y.1∈C
   ·exact absurd (by rw[e,y2 hy];exact hy) (x3 hx).2
   ·exact fT v2 mx my (by rw[<- (x3 hx).1,<- (y3 hy).1,e])
 have:=cI (l':=M) nd fun z mz=>by
  obtain⟨p,mp,rfl⟩:=mem_map.mp mz;exact(hf p mp).1
 rwa [cu]at this
inductive Ma:Nat->List (List Nat)->List Nat->List (Nat×Nat)->Prop
 |nil {i u}:Ma i [] u []
 |skip {i r rs u s}:Ma (i+1) rs u s->Ma i (r::rs) u s
 |take {i r rs u j s}:j∈r->j∉u->Ma (i+1) rs (u++[j]) s->Ma i (r::rs) u ((i,j)::s)
def frR(u:List Nat)(r:List Nat):List Nat:=r.filter fun j=>decide (j∉u)
def frs8(u:List Nat)(q:List (List Nat)):List (List Nat):=q.map (frR u)
theorem vF(u:List Nat)(q:List (List Nat))(i:Nat):aB (frs8 u q) i=frR u (aB q i):=by
 unfold aB frs8;rw[fj,fj,ie];cases q[i]?<;>rfl
theorem iL{u r:List Nat}{j:Nat}:j∈frR u r↔j∈r/\j∉u:=by
 unfold frR;rw[mem_filter,decide_eq_true_eq]
theorem Ma.facts{i:Nat}{q:List (List Nat)}{u:List Nat}{s:List (Nat×Nat)}(h:Ma i q u s):(∀p∈s,i<=p.1/\p.1<i+q.length/\p.2∈aB q (p.1-i)/\p.2∉u)/\(s.map (·.1)).Nodup/\(s.map (·.2)).Nodup:=by
 induction h with
 |nil=>exact⟨fun p m=>(nomatch m),lu,lu⟩
 | @skip i r rs u s _ ih=>
  refine⟨fun p m=>?_,ih.2⟩;obtain⟨h1,h2,h3,h4⟩:=ih.1 p m;refine⟨yw,by rw[ft];omega,?_,h4⟩;have e:p.1-i=(p.1-(i+1))+1:=yw
  rw[e];simpa[aB]using h3
 | @take i r rs u j s hj hu _ ih=>
  refine⟨fun p m=>?_,?_,?_⟩
  ·rcases mem_cons.mp m with rfl|m
   ·refine⟨dh _,yv,?_,hu⟩;simpa[aB]using hj
   ·obtain⟨h1,h2,h3,h4⟩:=ih.1 p m;refine⟨yw,by rw[ft];omega,?_,fun z=>h4 (cg _ z)⟩;have e:p.1-i=(p.1-(i+1))+1:=yw
    rw[e];simpa[aB]using h3
  ·rw[ga,qg];refine⟨fun z=>?_,ih.2.1⟩;obtain⟨p,mp,e⟩:=mem_map.mp z;have:=(ih.1 p mp).1;simp only at e;omega
  ·rw[ga,qg];refine⟨fun z=>?_,ih.2.2⟩;obtain⟨p,mp,e⟩:=mem_map.mp z;have:=(ih.1 p mp).2.2.2;simp only at e;rw[e]at this;exact this yv
theorem Ma.mt{i:Nat}{z:List (List Nat)}{u:List Nat}{s:List (Nat×Nat)}(h:Ma i z u s):KN (s.map fun p=>(p.2,p.1-i))/\Ed (frs8 u z) (s.map fun p=>(p.2,p.1-i))/\((s.map fun p=>(p.2,p.1-i)).map (·.2)).Nodup/\∀p∈s.map fun p=>(p.2,p.1-i),p.2<z.length:=by
 obtain⟨f,n1,n2⟩:=h.facts;refine⟨?_,fun p m=>?_,?_,fun p m=>?_⟩
 ·unfold KN;rw[jx];exact n2
 ·obtain⟨q,mq,rfl⟩:=mem_map.mp m;obtain⟨h1,h2,h3,h4⟩:=f q mq;show q.2∈aB (frs8 u z) (q.1-i);rw[vF];exact iL.mpr ⟨h3,h4⟩
 ·rw[jx];refine kJ (mT n1) fun x mx y my e=>?_;obtain⟨x1,_⟩:=f x mx;obtain⟨y1,_⟩:=f y my;simp only[Function.comp_apply]at e;exact fT n1 mx my yw
 ·obtain⟨q,mq,rfl⟩:=mem_map.mp m;obtain⟨h1,h2,_⟩:=f q mq;show q.1-i<z.length;omega
theorem Cu{α:Type}{A B:List α}{x:α}(h:(A++x::B).Nodup):(A++B).Nodup/\x∉A++B:=by
 rw[List.perm_middle.nodup_iff,qg]at h;exact⟨h.2,h.1⟩
theorem wI:∀(rows:List (List Nat)) (i:Nat) (u:List Nat) (M:Mt),KN M->Ed (frs8 u rows) M->(M.map (·.2)).Nodup->(∀p∈M,p.2<rows.length)->∃s,Ma i rows u s/\s.length=M.length
 | [],i,u,M,_,_,_,hl=>by
  cases M with
  |nil=>exact⟨[],.nil,rfl⟩
  |cons p M=>exact absurd (hl p dw) yv
 |r::rs,i,u,M,hk,he,hv,hl=>by
  have ab:∀k,aB (frs8 u (r::rs)) (k+1)=aB (frs8 u rs) k:=fun k=>by simp[aB,frs8]
  by_cases h0:0∈M.map (·.2)
  ·obtain⟨p,mp,e0⟩:=mem_map.mp h0;obtain⟨j,i0⟩:=p;simp only at e0;subst e0;obtain⟨A,B,rfl⟩:=List.append_of_mem mp;have hj:=he _ mp;rw[vF]at hj;obtain⟨ae,ac⟩:=iL.mp hj;unfold KN at hk;rw[jk,ga]at hk hv;obtain⟨k1,k2⟩:=Cu hk;obtain⟨v1,v2⟩:=Cu hv;rw[<- jk]at k1 k2 v1 v2;have pos:∀q∈A++B,1<=q.2:=fun q mq=>by
    rcases Nat.eq_zero_or_pos q.2 with z|z
    ·exact absurd (mem_map.mpr ⟨q,mq,z⟩) v2
    ·exact z
   have sub:∀q∈A++B,q∈A++(j,0)::B:=fun q mq=>by
    rcases mem_append.mp mq with z|z
    ·exact cg _ z
    ·exact fh _ (cz _ z)
   obtain⟨s,hs,ls⟩:=wI rs (i+1) (u++[j]) ((A++B).map fun q=>(q.1,q.2-1)) (by unfold KN;rw[jx];exact k1) (fun q mq=>by
     obtain⟨q',aa,rfl⟩:=mem_map.mp mq;have h1:=he q' (sub q' aa);have h2:=pos q' aa;have e:q'.2=(q'.2-1)+1:=yw
     rw[e,ab,vF]at h1;show q'.1∈aB (frs8 (u++[j]) rs) (q'.2-1);rw[vF];obtain⟨h3,h4⟩:=iL.mp h1;refine iL.mpr ⟨h3,fun z=>?_⟩;rcases mem_append.mp z with z|z
     ·exact h4 z
     ·exact k2 (mem_map.mpr ⟨q',aa,mem_singleton.mp z⟩)) (by
     rw[jx];refine kJ (mT v1) fun x mx y my e=>?_;have:=pos x mx;have:=pos y my;simp only[Function.comp_apply]at e;exact fT v1 mx my yw) (fun q mq=>by
     obtain⟨q',aa,rfl⟩:=mem_map.mp mq;have h1:=hl q' (sub q' aa);have h2:=pos q' aa;rw[ft]at h1;show q'.2-1<rs.length;omega)
   refine⟨(i,j)::s,.take ?_ ac hs,?_⟩
   ·simpa[aB]using ae
   ·rw[cu,fu]at ls;rw[ft,fu,ft,ls];omega
  ·have pos:∀q∈M,1<=q.2:=fun q mq=>by
    rcases Nat.eq_zero_or_pos q.2 with z|z
    ·exact absurd (mem_map.mpr ⟨q,mq,z⟩) h0
    ·exact z
   obtain⟨s,hs,ls⟩:=wI rs (i+1) u (M.map fun q=>(q.1,q.2-1)) (by unfold KN;rw[jx];exact hk) (fun q mq=>by
     obtain⟨q',aa,rfl⟩:=mem_map.mp mq;have h1:=he q' aa;have h2:=pos q' aa;have e:q'.2=(q'.2-1)+1:=yw
     rw[e,ab]at h1;exact h1) (by
     rw[jx];refine kJ (mT hv) fun x mx y my e=>?_;have:=pos x mx;have:=pos y my;simp only[Function.comp_apply]at e;exact fT hv mx my yw) (fun q mq=>by
     obtain⟨q',aa,rfl⟩:=mem_map.mp mq;have h1:=hl q' aa;have h2:=pos q' aa;rw[ft]at h1;show q'.2-1<rs.length;omega)
   exact⟨s,.skip hs,by rw[ls,cu]⟩
def nu(n:Nat)(q:List (List Nat)):Nat:=(mmN q n q.length).length
def Bd(m:Nat)(q:List (List Nat)):Prop:=∀r∈q,∀j∈r,j<m
theorem Bd.row{m:Nat}{q:List (List Nat)}(h:Bd m q):∀i,∀j∈aB q i,j<m:=fun i j hj=>by
 unfold aB at hj;rw[fj]at hj;cases e:q[i]? with
 |none=>rw[e]at hj;cases hj
 |some r=>rw[e]at hj;exact h r (bw e) j hj
theorem Bd.fr{m:Nat}{q:List (List Nat)}(h:Bd m q)(u:List Nat):Bd m (frs8 u q):=fun r hr j hj=>by
 obtain⟨r',mr,rfl⟩:=mem_map.mp hr;exact h r' mr j (iL.mp hj).1
theorem xH(u:List Nat)(q:List (List Nat)):(frs8 u q).length=q.length:=cu ..
theorem mE{m n i:Nat}{q:List (List Nat)}{u:List Nat}{s:List (Nat×Nat)}(hb:Bd m q)(hn:m<n)(h:Ma i q u s):s.length<=nu n (frs8 u q):=by
 obtain⟨k1,e1,v1,l1⟩:=h.mt;have:=KL (qJ (hb.fr u).row hn (frs8 u q).length) k1 e1 v1 (by rw[xH];exact l1)
 rwa [cu]at this
theorem yZ{m n:Nat}{q:List (List Nat)}{u:List Nat}(i:Nat)(hb:Bd m q)(hn:m<n):∃s,Ma i q u s/\s.length=nu n (frs8 u q):=by
 have o:=qJ (hb.fr u).row hn (frs8 u q).length;exact wI q i u _ o.kn o.ed o.vn (by have:=o.vl;rw[xH]at this ⊢;exact this)
def gr(n:Nat):List (List Nat)->Nat->List Nat->Nat->List (Nat×Nat)
 | [],_,_,_=>[]
 |r::rs,i,u,w=>match (frR u r).find? fun j=>decide (nu n (frs8 (u++[j]) rs)+1=w)with
  |some j=>(i,j)::gr n rs (i+1) (u++[j]) (w-1)
  |none=>gr n rs (i+1) u w
def ltP(p q:Nat×Nat):Prop:=p.1<q.1\/(p.1=q.1/\p.2<q.2)
def leL:List (Nat×Nat)->List (Nat×Nat)->Prop
 | [],_=>True
 |_::_,[]=>False
 |p::s,q::t=>ltP p q\/(p=q/\leL s t)
theorem Lb{l:List Nat}{P:Nat->Bool}(hs:l.Pairwise (· < ·)){j j':Nat}(h:l.find? P=some j)(m:j'∈l)(hp:P j'=true):j<=j':=by
 induction l with
 |nil=>cases m
 |cons x l ih=>
  rw[re]at hs;by_cases hx:P x=true
  ·rw[List.find?_cons_of_pos hx]at h;cases h;rcases mem_cons.mp m with rfl|m
   ·exact dh _
   ·exact lz (hs.1 j' m)
  ·rw[qy hx]at h;rcases mem_cons.mp m with rfl|m
   ·exact absurd hp hx
   ·exact ih hs.2 h m
theorem yA{m n:Nat}(hn:m<n):∀(rows:List (List Nat)) (i:Nat) (u:List Nat) (w:Nat),Bd m rows->(∀r∈rows,r.Pairwise (· < ·))->w=nu n (frs8 u rows) ->
  Ma i rows u (gr n rows i u w)/\(gr n rows i u w).length=w/\∀s,Ma i rows u s->s.length=w->leL (gr n rows i u w) s
 | [],i,u,w,_,_,hw=>⟨.nil,by rw[hw];rfl,fun s _ _=>trivial⟩
 |r::rs,i,u,w,hb,hr,hw=>by
  have aa:Bd m rs:=fun x h=>hb x (cz _ h);have ab:∀x∈rs,x.Pairwise (· < ·):=fun x h=>hr x (cz _ h);have up:∀j t,j∈r->j∉u->Ma (i+1) rs (u++[j]) t->t.length+1=w->nu n (frs8 (u++[j]) rs)+1=w:=fun j t hj hu ht hl=>by
   have h1:=mE aa hn ht;obtain⟨s,hs,ls⟩:=yZ (u:=u++[j]) (i+1) aa hn;have h2:=mE hb hn (Ma.take hj hu hs);rw[ft,<- hw]at h2;omega
  have sr:(frR u r).Pairwise (· < ·):=(hr r dw).sublist jb;unfold gr;cases hf:(frR u r).find? fun j=>decide (nu n (frs8 (u++[j]) rs)+1=w)with
  |some j=>
   have h0:=find?_some hf;have hj:=jf h0;obtain⟨j1,j2⟩:=iL.mp (List.mem_of_find?_eq_some hf);obtain⟨g1,g2,g3⟩:=yA hn rs (i+1) (u++[j]) (w-1) aa ab yw;refine⟨.take j1 j2 g1,by rw[ft,g2];omega,fun s hs ls=>?_⟩;cases hs with
   |skip h=>
    have ae:=h.facts.1;cases s with
    |nil=>simp at ls;omega
    |cons q t=>
     have:=(ae q dw).1;exact .inl (.inl (by show i<q.1;omega))
   | @take _ _ _ _ j' t k1 k2 h=>
    rw[ft]at ls;have e:=up j' t k1 k2 h ls;have le:=Lb sr hf (iL.mpr ⟨k1,k2⟩) (fy e);rcases Nat.lt_or_ge j j' with z|z
    ·exact .inl (.inr ⟨rfl,z⟩)
    ·have ej:j'=j:=yw
     subst ej;exact .inr ⟨rfl,g3 t h yw⟩
  |none=>
   have no:∀j t,j∈r->j∉u->Ma (i+1) rs (u++[j]) t->t.length+1≠w:=fun j t hj hu ht hl=>by
    have e:=up j t hj hu ht hl;rw[List.find?_eq_none]at hf;exact hf j (iL.mpr ⟨hj,hu⟩) (fy e)
   have ew:w=nu n (frs8 u rs):=by
    obtain⟨s,hs,ls⟩:=yZ (u:=u) i hb hn;rw[<- hw]at ls;have le:nu n (frs8 u rs)<=w:=by
     obtain⟨s',ac,af⟩:=yZ (u:=u) (i+1) aa hn;have:=mE hb hn (Ma.skip (r:=r) ac);rw[<- hw]at this;omega
    cases hs with
    |skip h=>
     have:=mE aa hn h;omega
    |take k1 k2 h=>exact absurd (by rw[ft]at ls;exact ls) (no _ _ k1 k2 h)
   obtain⟨g1,g2,g3⟩:=yA hn rs (i+1) u w aa ab ew;refine⟨.skip g1,g2,fun s hs ls=>?_⟩;cases hs with
   |skip h=>exact g3 s h ls
   |take k1 k2 h=>exact absurd (by rw[ft]at ls;exact ls) (no _ _ k1 k2 h)
def gS:Nat->List (List Nat)->List (Nat×Nat)
 |_,[]=>[]
 |i,r::rs=>r.map (fun j=>(i,j))++gS (i+1) rs
def cfl(p q:Nat×Nat):Bool:=decide (p.1=q.1)||decide (p.2=q.2)
def wR(F:List (List (Nat×Nat)))(p:Nat×Nat):List (List (Nat×Nat)):=F++(F.filter fun s=>!(s.any (cfl p))).map (· ++ [p])
def lm(q:List (Nat×Nat)):List (List (Nat×Nat)):=q.foldl wR [[]]
theorem HH(d:List (Nat×Nat))(p:Nat×Nat):lm (d++[p])=wR (lm d) p:=by
 unfold lm;rw[List.foldl_append];rfl
theorem Io{α:Type}{P:List α->Prop}(h0:P [])(h1:∀l x,P l->P (l++[x]))(l:List α):P l:=by
 have:∀n,n<=l.length->P (l.take n):=by
  intro n;induction n with
  |zero=>intro _;rw[take_zero];exact h0
  |succ n ih=>
   intro h;rw[take_add_one,cw (show n<l.length by omega)];exact h1 _ _ (ih yw)
 have:=this l.length (dh _)
 rwa [take_length]at this
def Fr(s:List (Nat×Nat)):Prop:=s.Pairwise fun a b=>cfl b a=false
theorem iE(d:List (Nat×Nat)):∀s,s∈lm d↔s.Sublist d/\Fr s:=by
 induction d using Io with
 |h0=>
  intro s;show s∈[[]]↔_;rw[tz];constructor
  ·rintro rfl;exact⟨List.Sublist.refl _,qx⟩
  ·rintro⟨h,_⟩;exact List.sublist_nil.mp h
 |h1 d p ih=>
  intro s;rw[HH];unfold wR;rw[uy,ih,mem_map];constructor
  ·rintro(⟨h1,h2⟩|⟨t,mt,rfl⟩)
   ·exact⟨h1.trans (List.sublist_append_left ..),h2⟩
   ·rw[mem_filter,ih]at mt;obtain⟨⟨h1,h2⟩,h3⟩:=mt;refine⟨List.Sublist.append h1 (List.Sublist.refl _),?_⟩;unfold Fr;rw[lx];refine⟨h2,List.pairwise_singleton ..,fun a ma b mb=>?_⟩;rw[mem_singleton.mp mb];rw[Bool.not_eq_true',List.any_eq_false]at h3;have:=h3 a ma;simpa using this
  ·rintro⟨h1,h2⟩;obtain⟨s1,s2,rfl,a1,a2⟩:=List.sublist_append_iff.mp h1;unfold Fr at h2;rw[lx]at h2;have a3:s2=[]\/s2=[p]:=by
    cases a2 with
    |cons _ h=>exact .inl (List.sublist_nil.mp h)
    |cons_cons _ h=>exact .inr (by rw[List.sublist_nil.mp h])
   rcases a3 with rfl|rfl
   ·exact .inl ⟨by simpa using a1,by simpa[Fr]using h2.1⟩
   ·refine .inr ⟨s1,?_,rfl⟩;rw[mem_filter,ih];refine⟨⟨a1,h2.1⟩,?_⟩;rw[Bool.not_eq_true',List.any_eq_false];intro a ma;have:=h2.2.2 a ma p dw;simpa using this
theorem EJ:∀{s:List (Nat×Nat)},(s.map (·.1)).Nodup->(s.map (·.2)).Nodup->Fr s
 | [],_,_=>qx
 |p::s,h1,h2=>by
  rw[ga,qg]at h1 h2;refine List.Pairwise.cons (fun b mb=>?_) (EJ h1.2 h2.2);unfold cfl;rw[fw (fun z=>h1.1 (mem_map.mpr ⟨b,mb,z⟩)),fw (fun z=>h2.1 (mem_map.mpr ⟨b,mb,z⟩))];rfl
theorem Ma.sub{i:Nat}{q:List (List Nat)}{u:List Nat}{s:List (Nat×Nat)}(h:Ma i q u s):s.Sublist (gS i q):=by
 induction h with
 |nil=>exact List.Sublist.refl _
 |skip _ ih=>exact ih.trans (List.sublist_append_right ..)
 | @take i r rs u j s hj hu _ ih=>exact List.Sublist.append (l₁:=[(i,j)]) (List.singleton_sublist.mpr (mem_map.mpr ⟨j,hj,rfl⟩)) ih
theorem xX:∀{rows:List (List Nat)}{i:Nat}{u:List Nat}{s:List (Nat×Nat)},s.Sublist (gS i rows)->Fr s->(∀p∈s,p.2∉u)->Ma i rows u s
 | [],i,u,s,h,_,_=>by
  rw[List.sublist_nil.mp h];exact .nil
 |r::rs,i,u,s,h,hf,hu=>by
  obtain⟨s1,s2,rfl,a1,a2⟩:=List.sublist_append_iff.mp h;unfold Fr at hf;rw[lx]at hf;have f1:∀p∈s1,p.1=i/\p.2∈r:=fun p mp=>by
   obtain⟨j,mj,rfl⟩:=mem_map.mp (a1.subset mp);exact⟨rfl,mj⟩
  cases s1 with
  |nil=>exact .skip (xX a2 hf.2.1 fun p mp=>hu p (by simpa using mp))
  |cons p s1=>
   cases s1 with
   |nil=>
    obtain⟨e1,e2⟩:=f1 p dw;obtain⟨p1,p2⟩:=p;simp only at e1 e2;subst e1;refine .take e2 (hu (p1,p2) yv) (xX a2 hf.2.1 fun q mq=>?_);intro z;rcases mem_append.mp z with z|z
    ·exact hu q (cz _ mq) z
    ·have:=hf.2.2 (p1,p2) dw q mq;unfold cfl at this;rw[Bool.or_eq_false_iff]at this;exact of_decide_eq_false this.2 (mem_singleton.mp z)
   |cons q s1=>
    have h1:=(f1 p dw).1;have h2:=(f1 q yv).1;have:=(pairwise_cons.mp hf.1).1 q dw;unfold cfl at this;rw[Bool.or_eq_false_iff]at this;exact absurd (h2.trans h1.symm) (of_decide_eq_false this.1)
theorem jK{q:List (List Nat)}{s:List (Nat×Nat)}:s∈lm (gS 0 q)↔Ma 0 q [] s:=by
 rw[iE];constructor
 ·rintro⟨h1,h2⟩;exact xX h1 h2 fun p _=>by simp
 ·intro h;exact⟨h.sub,EJ h.facts.2.1 h.facts.2.2⟩
theorem BA:∀{rows:List (List Nat)}{i:Nat}{p:Nat×Nat},p∈gS i rows->i<=p.1
 | [],_,_,h=>nomatch h
 |r::rs,i,p,h=>by
  rcases mem_append.mp h with h|h
  ·obtain⟨j,_,rfl⟩:=mem_map.mp h;exact dh _
  ·have:=BA h;omega
end
section
def vals(M:Mt):List Nat:=M.map (·.2)
structure CvI(rows:List (List Nat))(k:Nat)(M:Mt)(C seen oth left:List Nat):Prop where
 oc:∀j∈oth,j∈C
 on:oth.Nodup
 lv:∀i,(i∈left\/i∈seen)↔((i<k/\i∉vals M)\/∃j∈oth,lkA M j=some i)
 nd:(left++seen).Nodup
theorem CvI.row{q:List (List Nat)}{k:Nat}{M:Mt}{C z aa left:List Nat}(h:CvI q k M C z aa left)(hc:Cl q M C)(hu:∀i,i<k->i∉vals M->∀j∈aB q i,j∈C){i:Nat}(hi:i∈left\/i∈z):∀j∈aB q i,j∈C:=fun j hj=>by
 rcases(h.lv i).mp hi with ⟨h1,h2⟩|⟨j',h1,h2⟩
 ·exact hu i h1 h2 j hj
 ·obtain⟨i',e,w⟩:=hc j' (h.oc j' h1);rw[h2]at e;cases e;exact w j hj
theorem CvI.step{q:List (List Nat)}{k:Nat}{M:Mt}{C aa ab left:List Nat}(o:MmOk q k M)(hc:Cl q M C)(h:CvI q k M C aa ab left){j:Nat}(jc:j∈C)(jo:j∉ab):∃i,lkA M j=some i/\CvI q k M C aa (ab++[j]) (left++[i]):=by
 obtain⟨i,e,_⟩:=hc j jc;have mi:i∈vals M:=mem_map.mpr ⟨_,e9 e,rfl⟩;have ni:¬(i∈left\/i∈aa):=fun z=>by
  rcases(h.lv i).mp z with ⟨_,h2⟩|⟨j',h1,h2⟩
  ·exact h2 mi
  ·have:=fT o.vn (e9 e) (e9 h2) rfl;have ej:j=j':=congrArg Prod.fst this;exact jo (ej▸h1)
 rw[not_or]at ni;refine⟨i,e,fun x mx=>?_,?_,fun x=>?_,?_⟩
 ·rcases mem_append.mp mx with z|z
  ·exact h.oc x z
  ·rw[mem_singleton.mp z];exact jc
 ·rw[qz];refine⟨h.on,yv,fun x mx y my e=>?_⟩;rw[mem_singleton.mp my]at e;exact jo (e▸mx)
 ·have:=h.lv x;constructor
  ·rintro(z|z)
   ·rcases mem_append.mp z with z|z
    ·rcases this.mp (.inl z)with w|⟨j',w1,w2⟩
     ·exact .inl w
     ·exact .inr ⟨j',cg _ w1,w2⟩
    ·rw[mem_singleton.mp z];exact .inr ⟨j,yv,e⟩
   ·rcases this.mp (.inr z)with w|⟨j',w1,w2⟩
    ·exact .inl w
    ·exact .inr ⟨j',cg _ w1,w2⟩
  ·rintro(z|⟨j',w1,w2⟩)
   ·rcases this.mpr (.inl z)with w|w
    ·exact .inl (cg _ w)
    ·exact .inr w
   ·rcases mem_append.mp w1 with w1|w1
    ·rcases this.mpr (.inr ⟨j',w1,w2⟩)with w|w
     ·exact .inl (cg _ w)
     ·exact .inr w
    ·rw[mem_singleton.mp w1,e]at w2;cases w2;exact .inl yv
 ·rw[gn,List.singleton_append,List.perm_middle.nodup_iff,qg];exact⟨fun z=>(mem_append.mp z).elim ni.1 ni.2,h.nd⟩
theorem CvI.pop{aa:List (List Nat)}{k:Nat}{M:Mt}{C q ab left:List Nat}{i:Nat}(h:CvI aa k M C q ab (left++[i])):CvI aa k M C (q++[i]) ab left:=by
 refine⟨h.oc,h.on,fun x=>?_,?_⟩
 ·rw[<- h.lv x];simp only[uy,tz];constructor
  ·rintro(z|z|z)
   ·exact .inl (.inl z)
   ·exact .inr z
   ·exact .inl (.inr z)
  ·rintro((z|z)|z)
   ·exact .inl z
   ·exact .inr (.inr z)
   ·exact .inr (.inl z)
 ·have:=h.nd;rw[gn,List.singleton_append]at this;refine(List.Perm.nodup_iff ?_).mp this;exact List.Perm.append_left left (List.perm_append_singleton i q).symm
theorem GF{q:List (List Nat)}{k:Nat}{M:Mt}{C:List Nat}:CvI q k M C [] [] ((gg k).filter fun i=>decide (i∉vals M)):=by
 refine⟨fun _ h=>(nomatch h),lu,fun i=>?_,?_⟩
 ·rw[mem_filter,mem_range,decide_eq_true_eq];constructor
  ·rintro(z|z)
   ·exact .inl z
   ·cases z
  ·rintro(z|⟨_,z,_⟩)
   ·exact .inl z
   ·cases z
 ·rw[kw];exact List.nodup_range.sublist jb
theorem xW{α:Type}(P:α->Bool):∀l:List α,l.length=(l.filter P).length+(l.filter fun x=>!P x).length
 | []=>rfl
 |x::l=>by
  have:=xW P l;cases h:P x with
  |true=>rw[List.filter_cons_of_pos h,List.filter_cons_of_neg (by simp[h]),ft,ft];omega
  |false=>rw[List.filter_cons_of_neg (by simp[h]),List.filter_cons_of_pos (by simp[h]),ft,ft];omega
theorem GW{ab:List (List Nat)}{k:Nat}{M:Mt}{C aa q:List Nat}(o:MmOk ab k M)(hc:Cl ab M C)(h:CvI ab k M C aa q []):((gg k).filter fun i=>decide (i∉aa)).length+q.length=M.length:=by
 have sv:∀i,i∈aa↔((i<k/\i∉vals M)\/∃j∈q,lkA M j=some i):=fun i=>by
  rw[<- h.lv i];simp
 have p1:M.length=(M.filter fun p=>decide (p.1∈q)).length+(M.filter fun p=>!decide (p.1∈q)).length:=xW _ M;have p2:(M.filter fun p=>decide (p.1∈q)).length=q.length:=by
  refine Nat.le_antisymm ?_ ?_
  ·have:=cI (l:=(M.filter fun p=>decide (p.1∈q)).map (·.1)) (l':=q) (List.Nodup.sublist (List.Sublist.map (fun p:Nat×Nat=>p.1) jb) (show (M.map (·.1)).Nodup from o.kn)) fun x mx=>by
    obtain⟨p,mp,rfl⟩:=mem_map.mp mx;exact jf (mem_filter.mp mp).2
   rwa [cu]at this
  ·have:=cI (l':=(M.filter fun p=>decide (p.1∈q)).map (·.1)) h.on fun x mx=>by
    obtain⟨i,e,_⟩:=hc x (h.oc x mx);exact mem_map.mpr ⟨(x,i),mem_filter.mpr ⟨e9 e,fy mx⟩,rfl⟩
   rwa [cu]at this
 have p3:(M.filter fun p=>!decide (p.1∈q)).length=((gg k).filter fun i=>decide (i∉aa)).length:=by
  refine Nat.le_antisymm ?_ ?_
  ·have:=cI (l:=(M.filter fun p=>!decide (p.1∈q)).map (·.2)) (l':=(gg k).filter fun i=>decide (i∉aa)) (o.vn.sublist (List.Sublist.map _ jb)) fun x mx=>by
    obtain⟨p,mp,rfl⟩:=mem_map.mp mx;obtain⟨m1,m2⟩:=mem_filter.mp mp;have m3:p.1∉q:=by simpa using m2
    refine mem_filter.mpr ⟨mem_range.mpr (o.vl p m1),fy fun z=>?_⟩;rcases(sv p.2).mp z with ⟨_,w⟩|⟨j,w1,w2⟩
    ·exact w (mem_map.mpr ⟨p,m1,rfl⟩)
    ·have:=fT o.vn m1 (e9 w2) rfl;exact m3 (by rw[this];exact w1)
   rwa [cu]at this
  ·have:=cI (l':=(M.filter fun p=>!decide (p.1∈q)).map (·.2)) (l:=(gg k).filter fun i=>decide (i∉aa)) (List.nodup_range.sublist jb) fun x mx=>by
    obtain⟨m1,m2⟩:=mem_filter.mp mx;have m3:=jf m2;have m4:x∈vals M:=Classical.byContradiction fun z=>m3 ((sv x).mpr (.inl ⟨mem_range.mp m1,z⟩));obtain⟨p,mp,e⟩:=mem_map.mp m4;refine mem_map.mpr ⟨p,mem_filter.mpr ⟨mp,?_⟩,e⟩;have:p.1∉q:=fun z=>m3 ((sv x).mpr (.inr ⟨p.1,z,Ka o.kn (by rw[<- e];exact mp)⟩));simpa using this
   rwa [cu]at this
 omega
end
section
variable {R:RX}
theorem Be{n:Int}(q:∀m,0<=m->R (.d (.int m)) []):pW [.d (.int n)] [] R:=by
 unfold pW;walk_at "e";have h1:=Int.emod_nonneg (n+7919) (show (2147483647:Int)≠0 by decide);have h2:=Int.emod_lt_of_pos (n+7919) (show (0:Int)<2147483647 by decide);exact⟨gQ yw yw,gQ dz dz,q _ (Int.emod_nonneg _ dz)⟩
theorem zT{p:List bt}{n:Int}(hp:bX p)(hn:0<n)(hb:n.natAbs.log2<9000)(q:∀r p',0<=r->r<n->bX p'->R (.d (.int r)) [p']):zA [.l 0,.d (.int n)] [p] R:=by
 obtain⟨l,g,sd,rfl,hl⟩:=hp;unfold zA;walk_at "e";split
 ·refine⟨hn,.inl ⟨⟨hn,hb⟩,0,rfl,?_⟩⟩;walk_at "e";exact q _ _ (Int.emod_nonneg _ yw) (Int.emod_lt_of_pos _ hn) ⟨_,_,_,rfl,Int.ediv_nonneg hl yw⟩
 ·refine Be fun m _=>?_;walk_at "e";refine Be fun m' h'=>?_;walk_at "e";refine⟨2,rfl,?_⟩;walk_at "e";exact .inl ⟨⟨by decide,by decide +kernel⟩,hn,q _ _ (Int.emod_nonneg _ yw) (Int.emod_lt_of_pos _ hn) ⟨_,_,_,rfl,hl⟩⟩
theorem JL{n:Int}(q:∀p,bX p->R (.l 0) [p]):CD [.d (.int n)] [] R:=by
 unfold CD;walk_at "e";refine⟨⟨by decide,by decide,by decide⟩,?_⟩;refine .inr (q _ ⟨_,_,_,rfl,?_⟩);split<;>omega
theorem Hu{n:Int}(q:∀p,bX p->R (.l 0) [p]):AU [.d (.int n)] [] R:=JL q
theorem Ha{p:List bt}(hp:bX p)(q:∀r p',-10 ^ 58<=r->r<=10 ^ 58->bX p'->R (.d (.int r)) [p']):FA [.l 0] [p] R:=by
 unfold FA;walk_at "e";refine zT hp dz (by decide +kernel) fun r p1 r0 r1 aa=>?_;walk_at "e";split
 ·refine zT aa dz (by decide +kernel) fun r p2 r0 r1 z=>?_;walk_at "e";exact q _ _ yw yw z
 ·split
  ·refine zT aa dz (by decide +kernel) fun r p2 r0 r1 z=>?_;walk_at "e";exact q _ _ yw yw z
  ·refine⟨⟨by decide,by decide,by decide⟩,gQ dz dz,?_⟩;have k1:(10:Int) ^ 30=1000000000000000000000000000000:=by decide +kernel
   have k2:(10:Int) ^ 28=10000000000000000000000000000:=by decide +kernel
   refine zT aa (by decide +kernel) (by decide +kernel) fun r p2 r0 r1 z=>?_;walk_at "e"
   try simp only[k1,k2]at r1 ⊢
   refine⟨⟨by decide,by decide,by decide⟩,⟨by decide,by decide,by decide⟩,Ho 128 128 yw (by decide +kernel),q _ _ yw yw z⟩
theorem DY{p:List bt}(hp:bX p)(q:∀r p',-10 ^ 58<=r->r<=10 ^ 58->bX p'->R (.d (.int r)) [p']):sO [.l 0] [p] R:=Ha hp q
end
section
variable {R:RX}
set_option maxHeartbeats 8000000 in
abbrev Part:=Str×Int×Int
theorem Bt{α:Type}{f:α->bt}{l:List α}{k:Nat}{x:α}(e:l[k]?=some x):atI (l.map f) (k:Int)=some (f x):=hU (by rw[ie,e];rfl)
end
section
variable {R:RX}{S:Sto}
abbrev Term:=Nat×Int
def tmD(t:Term):bt:=.tuple [.int t.1,.int t.2]
def uN(ts:List Term):bt:=.tuple (ts.map tmD)
structure Gap where
 ts:List Term
 lo:Int
 hi:Int
def aP(g:Gap):bt:=.tuple [uN g.ts,.int g.lo,.int g.hi]
theorem u6(g:Gap):aP g=.tuple [uN g.ts,.int g.lo,.int g.hi]:=rfl
theorem LG(t:Term):tmD t=.tuple [.int t.1,.int t.2]:=rfl
def aG(ns:List Int):bt:=.tuple (ns.map cq)
structure Tm3(n:Nat)(ts:List Term):Prop where
 len:ts.length<=100
 ok:∀t∈ts,t.1<n/\-3<=t.2/\t.2<=3
def worth(ts:List Term)(ns:List Int):Int:=(ts.map fun t=>t.2*ns.getD t.1 0).sum
theorem Ii{ns:List Int}{k:Nat}(h:k<ns.length):ns[k]?=some (ns.getD k 0):=by
 rw[cw h,fj,cw h];rfl
def part(ps:List Part)(k:Nat):Part:=ps.getD k ("",0,0)
def plo(ps:List Part)(k:Nat):Int:=(part ps k).2.1
def phi(ps:List Part)(k:Nat):Int:=(part ps k).2.2
def tLo(ps:List Part)(t:Term):Int:=min (t.2*plo ps t.1) (t.2*phi ps t.1)
def IN(ps:List Part)(ts:List Term):Int:=(ts.map (tLo ps)).sum
theorem gH{α:Type}{f:α->bt}{l:List α}{i:Nat}{d:bt}(h:(l.map f)[i]?=some d):∃x,l[i]?=some x/\d=f x:=by
 rw[ie]at h;obtain⟨x,e,rfl⟩:=map_eq_some_iff.mp h;exact⟨x,e,rfl⟩
theorem wJ{ds:List bt}{r:Int}{P:bt->Prop}(h0:0<=r)(h1:r<ds.length)(hP:∀d∈ds,P d):∃d,atI ds r=some d/\P d:=by
 obtain⟨k,rfl⟩:=Int.eq_ofNat_of_zero_le h0;have hk:k<ds.length:=yw
 exact⟨ds[k],hU (cw hk),hP _ (qd hk)⟩
theorem yY{g:DG}{te:DE}{fin:Sto->Prop}{α:Type}(F:α->Prop)(f:α->bt)(P:XE->Prop):∀(ds:List bt) (acc:List α) (p:List bt) (τ:XE),P τ->bX p->acc.length+ds.length<=1000 ->
  (∀d∈ds,∀ τ p acc (R:XE->RX),P τ->bX p->(∀ τ' x p',P τ'->bX p'->F x->R τ' (.d (f x)) [p',acc])->g (.d d) τ [p,acc] fun τ1 S1=>te τ1 S1 (R τ1)) ->
  (∀xs p',bX p'->(∀x∈xs,F x)->xs.length=ds.length->fin [p',(acc++xs).map f])->bB 1 g aK te fin ds τ [p,acc.map f]
 | [],acc,p,τ,_,hp,_,_,h=>by
  have:=h [] p hp yv rfl;rw[kw]at this;exact this
 |d::ds,acc,p,τ,hP,hp,hl,el,h=>by
  show g (.d d) τ [p,acc.map f] fun τ1 S1=>aK τ1 S1 fun b S2=>if b=true then te τ1 S2 fun x S3=>asD x fun e=>∃acc,S3[1]?=some acc/\acc.length<1000/\bB 1 g aK te fin ds τ1 (S3.set 1 (acc++[e]))else bB 1 g aK te fin ds τ1 S2
  simp only[aK,↓reduceIte];rw[ft]at hl;refine el d dw τ p (acc.map f) (fun τ1 x S3=>asD x fun e=>∃acc,S3[1]?=some acc/\acc.length<1000/\bB 1 g aK te fin ds τ1 (S3.set 1 (acc++[e]))) hP hp fun τ' x p' q z hF=>?_;refine⟨acc.map f,rfl,by rw[cu];omega,?_⟩;have e:([p',acc.map f]:Sto).set 1 (acc.map f++[f x])=[p',(acc++[x]).map f]:=by simp
  rw[e];refine yY F f P ds (acc++[x]) p' τ' q z (by rw[fu,iy];omega) (fun e m=>el e (cz _ m)) fun xs p'' hp'' fs hl=>?_;rw[gn];exact h (x::xs) p'' hp'' (fun y m=>(mem_cons.mp m).elim (fun e=>e▸hF) (fs y)) (by simp[hl])
end
section
variable {R:RX}{S:Sto}
theorem GN{g:Gap}{ns:List Int}(h3:Tm3 ns.length g.ts)(q:R (.d (.int (worth g.ts ns))) []):uR [.d (aP g),.d (aG ns)] [] R:=by
 unfold uR aG;rw[u6,uN];walk_at "e";refine cmp2 (S0:=[]) (fun t:Term=>.int (t.2*ns.getD t.1 0)) rfl g.ts (by have:=h3.len;omega) ?_ ?_
 ·intro t mt u v acc R' hk;obtain⟨t1,t2,t3⟩:=h3.ok t mt;have e:=Bt (f:=cq) (Ii t1);rw[LG];walk_at "e";refine⟨_,e,?_⟩;walk_at "e";exact⟨gQ yw yw,hk _ _⟩
 ·walk_at "e";refine⟨g.ts.map fun t:Term=>t.2*ns.getD t.1 0,by rw[jx];rfl,q⟩
def dU(g:Gap)(ns:List Int):Bool:=decide (g.lo<=worth g.ts ns/\worth g.ts ns<=g.hi)
theorem JO{g:Gap}{ns:List Int}(h3:Tm3 ns.length g.ts)(q:R (.d (.bool (dU g ns))) []):uO [.d (aP g),.d (aG ns)] [] R:=by
 unfold uO;walk_at "e";rw[u6];walk_at "e";rw[<- u6];refine GN h3 ?_;walk_at "e";unfold dU at q;by_cases h:g.lo<=worth g.ts ns
 ·simp only[h,true_and]at q;rw[cn h];exact q
 ·simp only[h,false_and,decide_false]at q;rw[cm h];exact q
def Hv(a t:Int):Int:=-(a/(-t))
def pick(ps:List Part)(t:Term)(ts:List Term)(left:Int):Int:=if t.2<0 then max (plo ps t.1) (Hv (left-IN ps ts) t.2)else plo ps t.1
theorem LR{α:Type}{f:α->bt}{ts:List α}{i:Nat}(il:i<ts.length):b9 (ts.map f) (some ((i:Int)+1)) none=(ts.drop (i+1)).map f:=by
 have ei:(i:Int)+1=((i+1:Nat):Int):=yw
 unfold b9;have e1:HT.sIx ts.length ts.length none=ts.length:=rfl;rw[cu,ei,e1,HT.sIx_nat,Nat.min_eq_left il,lr yv,List.map_drop]
end
section
variable {R:RX}{S:Sto}
def vI:bt->Bool
 | .int _=>true
 |_=>false
theorem xR{d:bt}(q:R (.d (.bool (vI d))) []):lU [.d d] [] R:=by
 unfold lU;cases d<;>(walk_at "e";exact q)
end
section
variable {R:RX}{S:Sto}
def rng(lo:Int)(n:Nat):List Int:=(gg n).map fun k:Nat=>lo+k
def Ic(p:Part):List Int:=rng p.2.1 (p.2.2-p.2.1+1).toNat
def ext(q:List (List Int))(p:Part):List (List Int):=q.flatMap fun a=>(Ic p).map fun x=>a++[x]
end
section
variable {R:RX}{S:Sto}
theorem rep1{base:Int}{n:Nat}:(bx n [cq base]).flatten=(bx n base).map cq:=by
 induction n with
 |zero=>rfl
 |succ n ih=>rw[ox,uj,ih,ox,ga];rfl
theorem Bz{p:List bt}{m base z:Int}(hp:bX p)(m0:0<=m)(m1:m<=100)(w0:0<z)(w1:z<=1000)(q:∀(b:List Int) p',(b.length:Int)<=m->(∀x∈b,base<=x/\x<base+z)->bX p'->R (.d (aG b)) [p']):rN [.l 0,.d (.int m),.d (.int base),.d (.int z)] [p] R:=by
 unfold rN;walk_at "d"
 walk_at "n"
 refine zT hp yw (AC yw yw) fun r p1 r0 r1 ae=>?_;walk_at "d"
 walk_at "n"
 refine zT ae dz (by decide +kernel) fun r2 p2 r3 r4 aa=>?_;walk_at "d";split
 ·refine⟨yv,yw,yw,yw,?_⟩;rw[rep1];exact q (bx r.toNat base) p2 (by rw[List.length_replicate];omega) (fun x m=>by rw[List.mem_replicate]at m;omega) aa
 ·refine yY (α:=Int) (fun x=>base<=x/\x<base+z) cq (fun τ=>∃u,τ=[u,some (.d (.int base)),some (.l 0),some (.d (.int z))]) _ [] p2 _ ⟨_,rfl⟩ aa (by rw[mU];simp;omega) ?_ ?_
  ·rintro d md _ p acc R' ⟨u,rfl⟩ hp hk;walk_at "d";refine zT hp w0 (AC w0 yw) fun r p' r0 r1 ab=>?_;walk_at "d";exact hk _ _ p' ⟨_,rfl⟩ ab ⟨yw,yw⟩
  ·intro ws p3 ac hw hl;rw[mU]at hl;walk_at "d";exact q ws p3 yw hw ac
structure Tim(s:Int):Prop where
 ne:s≠0
 lo:-3<=s
 hi:s<=3
structure Gp2(g:Gap)(s t:Int):Prop where
 ts:g.ts=[(0,s),(1,t)]
 s3:Tim s
 t3:Tim t
 le:g.lo<=g.hi
 lo:-10 ^ 60<=g.lo
 hi:g.hi<=10 ^ 60
structure Bx(b:List Int):Prop where
 l10:b.length<=10
 lo:∀x∈b,-10 ^ 59<=x
 hi:∀x∈b,x<=10 ^ 59
theorem Tim.mul{s a:Int}(h:Tim s)(h1:-10 ^ 58<=a)(h2:a<=10 ^ 58):-(3*10 ^ 58)<=s*a/\s*a<=3*10 ^ 58:=by
 have:s = -3\/s = -2\/s = -1\/s=0\/s=1\/s=2\/s=3:=by have:=h.lo;have:=h.hi;omega
 rcases this with rfl|rfl|rfl|rfl|rfl|rfl|rfl<;>omega
theorem IW{p:List bt}{m:Int}(hp:bX p)(m0:0<=m)(m1:m<=10)(q:∀(g:Gap) (s t:Int) (one other:List Int) p',Gp2 g s t->Bx one->Bx other->(one.length:Int)<=m->(other.length:Int)<=m->(-10 ^ 59<=g.lo/\g.hi<=10 ^ 59)->bX p'->R (.d (.tuple [aP g,aG one,aG other])) [p']):u5 [.l 0,.d (.int m)] [p] R:=by
 unfold u5;walk_at "dX"
 (refine seq1 ?_;walk_at "dX")
 refine DY hp fun a p1 a1 a2 aj=>?_;walk_at "dX";refine DY aj fun b p2 b1 b2 af=>?_;walk_at "dX"
 (refine seq1 ?_;walk_at "dX")
 refine zT af dz (by decide +kernel) fun r p3 r0 r1 an=>?_;walk_at "dX";obtain⟨d,ed,w,rfl,w0,w1⟩:=wJ (P:=fun d=>∃w:Int,d=.int w/\0<w/\w<=40) (ds:=[cq 1,.int 3,.int 8,.int 40]) r0 r1 (by
  intro d m;simp only[mw,km,or_false]at m;rcases m with rfl|rfl|rfl|rfl<;>exact⟨_,rfl,by decide,by decide⟩)
 refine⟨_,ed,?_⟩;walk_at "dX"
 (refine seq1 ?_;walk_at "dX")
 have ab:∀d∈[cq 1,.int (-1),.int 2,.int (-2),.int 3,.int (-3)],∃s:Int,d=.int s/\Tim s:=by
  intro d m;simp only[mw,km,or_false]at m;rcases m with rfl|rfl|rfl|rfl|rfl|rfl<;>exact⟨_,rfl,by decide,by decide,by decide⟩
 refine yY (α:=Int) Tim cq (fun τ=>∃u,τ=[u,some (.l 0)]) _ [] p3 _ ⟨_,rfl⟩ an (by rw[mU];decide) ?_ ?_
 ·rintro d md _ p acc R' ⟨u,rfl⟩ hp hk;walk_at "dX";refine zT hp dz (by decide +kernel) fun r p' r0 r1 ak=>?_;obtain⟨d,ed,s,rfl,hs⟩:=wJ (ds:=[cq 1,.int (-1),.int 2,.int (-2),.int 3,.int (-3)]) r0 r1 ab;walk_at "dX";exact⟨_,ed,hk _ _ p' ⟨_,rfl⟩ ak hs⟩
 intro ss p4 ae z hl;rw[mU]at hl;obtain⟨s,t,rfl⟩:∃s t,ss=[s,t]:=by
  match ss,hl with
  | [s,t],_=>exact⟨s,t,rfl⟩
 have hs:=z s yv;have ht:=z t yv;rw[nil_append];walk_at "dX"
 (refine seq1 ?_;walk_at "dX")
 have f0:0<(if s<0 then -s else s)+(if t<0 then -t else t):=by
  have:=hs.ne;split<;>split<;>omega
 have f1:(if s<0 then -s else s)+(if t<0 then -t else t)<=6:=by
  have:=hs.lo;have:=hs.hi;have:=ht.lo;have:=ht.hi;split<;>split<;>omega
 generalize hF:(if s<0 then -s else s)+(if t<0 then -t else t)=F at f0 f1 ⊢;refine⟨G9 yw yw,?_⟩;have aa:0<w*F:=Int.mul_pos w0 f0;have ac:w*F<=40*6:=Int.mul_le_mul w1 f1 yw yw;generalize hfar:w*F=far at aa ac ⊢
 (refine seq1 ?_;walk_at "dX")
 have sa:=hs.mul a1 a2;have tb:=ht.mul b1 b2;have ap:(10:Int) ^ 59=10*10 ^ 58:=by decide
 have au:(10:Int) ^ 60=100*10 ^ 58:=by decide
 have k0:(1000:Int)<10 ^ 58:=by decide
 have ao:=hs.lo;have aq:=hs.hi;have ar:=ht.lo;have av:=ht.hi;refine⟨gQ yw yw,gQ yw yw,gQ dz dz,?_⟩;generalize s*a=sa' at sa ⊢;generalize t*b=tb' at tb ⊢;refine zT ae yw (AC yw yw) fun r2 p5 r3 r4 ai=>?_;walk_at "dX";generalize hlo:sa'+tb'+r2-far=lo
 (refine seq1 ?_;walk_at "dX")
 refine⟨gQ dz dz,?_⟩;refine zT ai dz (by decide +kernel) fun r5 p6 r6 r7 ah=>?_;obtain⟨d,ag,u,rfl,u0,u1⟩:=wJ (P:=fun d=>∃w:Int,d=.int w/\0<=w/\w<=1000) (ds:=[cq 0,.int 1,.int 2,.int w,.int far,.int (3*w)]) r6 r7 (by
  intro d m;simp only[mw,km,or_false]at m;rcases m with rfl|rfl|rfl|rfl|rfl|rfl<;>exact⟨_,rfl,yw,yw⟩)
 walk_at "dX";refine⟨_,ag,?_⟩;walk_at "dX"
 (refine seq1 ?_;walk_at "dX")
 refine Bz ah m0 yw w0 yw fun one p7 o1 o2 al=>?_;walk_at "dX";refine Bz al m0 yw w0 yw fun other p8 o3 o4 am=>?_;walk_at "dX";exact q ⟨[(0,s),(1,t)],lo,lo+u⟩ s t one other p8 ⟨rfl,hs,ht,by show lo<=lo+u;omega,by show _<=lo;omega,by show lo+u<=_;omega⟩ ⟨yw,fun x m=>by have:=o2 x m;omega,fun x m=>by have:=o2 x m;omega⟩ ⟨yw,fun x m=>by have:=o4 x m;omega,fun x m=>by have:=o4 x m;omega⟩ o1 o3 ⟨by show _<=lo;omega,by show lo+u<=_;omega⟩ am
end
section
variable {R:RX}{S:Sto}
theorem gE(ns:List Int):aG ns=.tuple (ns.map cq):=rfl
end
section
variable {R:RX}{S:Sto}
theorem Ec{α:Type}(f:α->bt)(l:List α)(z:α):fJ 0 (l.map f)=(gg l.length).map fun j=>.tuple [.int (j:Nat),f (l.getD j z)]:=by
 apply List.ext_getElem?;intro i;rw[ie];by_cases h:i<l.length
 ·obtain⟨d,hd⟩:∃d,(fJ 0 (l.map f))[i]?=some d:=⟨_,cw (by rw[vB,cu];exact h)⟩;obtain⟨e,h1,h2⟩:=tD _ _ _ _ hd;rw[ie,cw h]at h1;rw[hd,h2,getElem?_range h];simp only[map_some,Option.some.injEq]at h1 ⊢;rw[<- h1,zero_add,fj,cw h];rfl
 ·rw[getElem?_eq_none (by rw[vB,cu];omega),getElem?_eq_none (by rw[ko];omega)];rfl
theorem Gp2.tm{g:Gap}{s t x y:Int}(h:Gp2 g s t):Tm3 [x,y].length g.ts:=by
 have hs:=h.s3;have ht:=h.t3;rw[h.ts];refine⟨yv,fun u m=>?_⟩;simp only[mw,km,or_false]at m;rcases m with rfl|rfl
 ·exact⟨yv,hs.lo,hs.hi⟩
 ·exact⟨yv,ht.lo,ht.hi⟩
def cS(g:Gap)(x:Int)(other:List Int):List Nat:=(gg other.length).filter fun j=>dU g [x,other.getD j 0]
def bN(c:List Nat):bt:=.list (c.map fun k:Nat=>.int k)
theorem gB(c:List Nat):bN c=.list (c.map fun k:Nat=>.int k):=rfl
theorem Jd{g:Gap}{s t x:Int}{other:List Int}{d2:bt}(e2:bT (.d d2)=some (other.map cq))(hg:Gp2 g s t)(hb:other.length<=1000)(q:R (.d (bN (cS g x other))) []\/R (.l 0) [(cS g x other).map fun k:Nat=>.int k]):tK [.d (aP g),.d (.int x),.d d2] [] R:=by
 unfold tK;walk_at "d";refine⟨_,e2,?_⟩;rw[Ec cq other 0];refine cmf2 (S0:=[]) (fun j:Nat=>.int j) (fun j=>dU g [x,other.getD j 0]) rfl (gg other.length) (by rw[ko];exact hb) ?_ ?_
 ·intro j mj u v acc R' hk;walk_at "d";refine JO (ns:=[x,other.getD j 0]) hg.tm ?_;walk_at "d";refine hk _ _ fun _ T hT=>?_;walk_at "d";exact hT
 ·walk_at "d";exact q
theorem vT{g:Gap}{s t:Int}{one other:List Int}{d1 d2:bt}(e1:bT (.d d1)=some (one.map cq))(e2:bT (.d d2)=some (other.map cq))(hg:Gp2 g s t)(h1:one.length<=1000)(h2:other.length<=1000)(q:R (.d (.list (one.map fun x=>bN (cS g x other)))) []\/R (.l 0) [one.map fun x=>bN (cS g x other)]):mR [.d (aP g),.d d1,.d d2] [] R:=by
 unfold mR;walk_at "d";refine⟨_,e1,?_⟩;refine cmp1 (S0:=[]) (fun x=>bN (cS g x other)) rfl one h1 ?_ ?_
 ·intro x mx u acc R' hk;walk_at "d";refine Jd e2 hg h2 (.inl ?_);walk_at "d";exact hk _
 ·walk_at "d";exact q
abbrev Pr:=Nat×Nat
def prD(p:Pr):bt:=.tuple [.int p.1,.int p.2]
theorem eB(p:Pr):prD p=.tuple [.int p.1,.int p.2]:=rfl
def gA(g:Gap)(one other:List Int)(i:Nat):List Pr:=(cS g (one.getD i 0) other).map fun j=>(i,j)
def prs(g:Gap)(one other:List Int):List Pr:=(gg one.length).flatMap (gA g one other)
theorem vR{g:Gap}{x:Int}{other:List Int}:(cS g x other).length<=other.length:=lw (length_filter_le _ _) (by rw[ko];exact dh _)
theorem kH{g:Gap}{one other:List Int}:∀n:Nat,((gg n).flatMap (gA g one other)).length<=n*other.length
 | 0=>by simp
 |n+1=>by
  have:=kH (g:=g) (one:=one) (other:=other) n;have h2:=vR (g:=g) (x:=one.getD n 0) (other:=other);rw[range_succ,List.flatMap_append,fu,List.flatMap_singleton,Nat.add_mul,Nat.one_mul];unfold gA at this ⊢;rw[cu];omega
theorem Bo{g:Gap}{s t:Int}{one other:List Int}{d1 d2:bt}(e1:bT (.d d1)=some (one.map cq))(e2:bT (.d d2)=some (other.map cq))(hg:Gp2 g s t)(h1:one.length<=30)(h2:other.length<=30)(q:R (.d (.list ((prs g one other).map prD))) []\/R (.l 0) [(prs g one other).map prD]):qS [.d (aP g),.d d1,.d d2] [] R:=by
 unfold qS;walk_at "d"
 walk_at "n"
 walk_at "n";refine vT e1 e2 hg yw yw (.inl ?_);walk_at "d";rw[Ec (fun x=>bN (cS g x other)) one 0];refine jD (fun i δ S=>∃(u v:Option XV),S=[((gg i).flatMap (gA g one other)).map prD]/\δ=[some (.d (aP g)),some (.d d1),some (.d d2),some (.l 0),u,v]) ⟨_,_,rfl,rfl⟩ ?_ ?_
 ·rintro i d _ _ N hi ⟨u,v,rfl,rfl⟩ hN;obtain⟨j,e,rfl⟩:=gH hi;have il:i<one.length:=by simpa using (List.getElem?_eq_some_iff.mp e).1
  have ej:i=j:=by simpa[getElem?_range il]using e
  subst ej;have fl:=vR (g:=g) (x:=one.getD i 0) (other:=other);have pl:=kH (g:=g) (one:=one) (other:=other) i;have pm:i*other.length<=30*30:=mul_le_mul yw h2;rw[gB];walk_at "d";refine cmp1 (S0:=[((gg i).flatMap (gA g one other)).map prD]) (fun k:Nat=>prD (i,k)) rfl (cS g (one.getD i 0) other) yw ?_ ?_
  ·intro k mk u acc R' hk;walk_at "d";exact hk _
  ·walk_at "d";refine⟨yw,hN _ _ ⟨_,_,?_,rfl⟩⟩;rw[range_succ,List.flatMap_append,List.flatMap_singleton,jk];unfold gA;rw[jx];rfl
 ·rintro _ _ ⟨u,v,rfl,rfl⟩;rw[cu,ko];walk_at "d";exact q
end
section
variable {R:RX}{S:Sto}
theorem nU{n i k:Nat}(h:(gg n)[i]?=some k):i=k/\k<n:=by
 have:=List.getElem?_eq_some_iff.mp h;obtain⟨h1,h2⟩:=this;rw[List.getElem_range]at h2;rw[ko]at h1;omega
theorem LW{p:Nat->Bool}{j:Nat}:(gg (j+1)).filter p=(gg j).filter p++if p j=true then [j]else []:=by
 rw[range_succ,List.filter_append,List.filter_cons];cases p j<;>simp
theorem EL{b:List Int}{j:Nat}(h:j<b.length):atI (b.map cq) (j:Int)=some (.int (b.getD j 0)):=Bt (f:=cq) (by rw[fj,cw h];rfl)
end
section
variable {R:RX}{S:Sto}
def fF(n:Nat):bt->Bool
 | .int k=>decide (0<=k)&&decide (k<n)
 |_=>false
def ival:bt->Int
 | .int k=>k
 |_=>0
def g9(ks:List Int):Bool:=decide (ks.Pairwise (· < ·))
def fD(n:Nat):bt->Bool
 | .tuple ds=>ds.all (fF n)&&g9 (ds.map ival)
 |_=>false
theorem xC{n:Nat}:∀{ds:List bt},ds.all (fF n)=true->ds=(ds.map ival).map cq
 | [],_=>rfl
 |d::ds,h=>by
  rw[all_cons,ix]at h;have e:=xC h.2;cases d<;>first|(have:=h.1;cases this;done)|(rw[ga,ga,<- e];rfl)
theorem cut1(ks:List Int):b9 (ks.map cq) (some 1) none=(ks.drop 1).map cq:=by
 unfold b9;have e1:HT.sIx (ks.map cq).length 0 (some 1)=min 1 ks.length:=by rw[show (1:Int)=((1:Nat):Int)from rfl,HT.sIx_nat,cu]
 rw[e1,HT.sIx_none,cu,List.map_drop];cases ks with
 |nil=>rfl
 |cons x t=>
  rw[show min 1 (x::t).length=1 by simp];exact lr yv
theorem Ay:∀ks:List Int,((ks.zip (ks.drop 1)).map fun q=>decide (q.1<q.2)).all id=g9 ks
 | []=>by simp[g9]
 | [x]=>by simp[g9]
 |x::y::t=>by
  have ih:=Ay (y::t);rw[show (x::y::t).drop 1=y::t from rfl,zip_cons_cons,ga,all_cons];rw[show (y::t).zip t=(y::t).zip ((y::t).drop 1)from rfl,ih];unfold g9;by_cases h:x<y
  ·by_cases g:(y::t).Pairwise (· < ·)
   ·have:(x::y::t).Pairwise (· < ·):=by
     rw[re];refine⟨fun a m=>?_,g⟩;rcases mem_cons.mp m with rfl|m
     ·exact h
     ·exact Int.lt_trans h ((pairwise_cons.mp g).1 a m)
    simp only[id,fy h,fy g,fy this,Bool.and_self]
   ·have:¬(x::y::t).Pairwise (· < ·):=fun z=>g (pairwise_cons.mp z).2;rw[fw g,fw this,Bool.and_false]
  ·have:¬(x::y::t).Pairwise (· < ·):=fun z=>h ((pairwise_cons.mp z).1 y dw);rw[fw this,id,fw h,qf]
theorem Hn{d:bt}(q:R (.d (.bool (vI d))) []):uJ [.d d] [] R:=by
 unfold uJ;cases d<;>(walk_at "e";exact q)
theorem cmp1d{n:Nat}{S0:Sto}{g:DG}{te:DE}{fin:Sto->Prop}{caps:XE}(f:bt->bt)(hn:S0.length=n)(l:List bt){u:Option XV}(hl:l.length<=1000)
  (el:∀x∈l,∀(u:Option XV) acc (R:XE->RX),(∀u',R (u'::caps) (.d (f x)) (S0++[acc]))->g (.d x) (u::caps) (S0++[acc]) fun τ1 S1=>te τ1 S1 (R τ1)) (hf:fin (S0++[l.map f])):bB n g aK te fin l (u::caps) (S0++[[]]):=by
 have:=cmp1 (h:=fun d:bt=>d) (g:=g) (te:=te) (fin:=fin) (caps:=caps) (u:=u) f hn l hl el hf
 rwa [map_id']at this
theorem Dr{one:List Int}{d:bt}(hd:∀ds,d=.tuple ds->ds.length<=50)(q:R (.d (.bool (fD one.length d))) []):oU [.d (aG one),.d d] [] R:=by
 unfold oU;rw[gE];cases d with
 |tuple ds=>
  have z:=hd ds rfl;walk_at "d"
  walk_at "n"
  refine cmp1d (S0:=[]) (fun x=>.bool (fF one.length x)) rfl ds yw ?_ ?_
  ·intro x mx u acc R' hk;walk_at "d";refine Hn ?_;walk_at "d";cases x with
   |int k=>
    rw[cn (show vI (.int k)=true from rfl)];walk_at "d";have e:fF one.length (.int k)=(decide (0<=k)&&decide (k<one.length)):=rfl;rw[e]at hk;split
    ·rename_i h;rw[fy h,rf]at hk;exact hk _
    ·rename_i h;rw[fw h,qf]at hk;exact hk _
   |_=>(refine(cm (by intro h;cases h)).mpr ?_;exact hk _)
  ·walk_at "d";refine⟨ds.map (fF one.length),by rw[jx];rfl,?_⟩;rw[all_map,show (id∘fF one.length)=fF one.length from rfl];have ep:fD one.length (.tuple ds)=(ds.all (fF one.length)&&g9 (ds.map ival)):=rfl;rw[ep]at q;cases ha:ds.all (fF one.length)with
   |false=>
    rw[ha,qf]at q;rw[cn rfl];exact q
   |true=>
    rw[ha,rf]at q;rw[cm dz];have ei:=xC ha;generalize ds.map ival=ks at ei q;subst ei;rw[cu]at z;rw[cut1,FD];refine cmp2 (S0:=[]) (fun q:Int×Int=>.bool (decide (q.1<q.2))) rfl (ks.zip (ks.drop 1)) (by rw[List.length_zip];omega) ?_ ?_
    ·intro y my u v acc R' hk;walk_at "d";exact hk _ _
    ·refine⟨[],_,rfl,rfl,(ks.zip (ks.drop 1)).map fun q=>decide (q.1<q.2),by rw[jx];rfl,?_⟩;rw[Ay];exact q
 |_=>(walk_at "d";walk_at "n";exact q)
theorem worth2{g:Gap}{s t x y:Int}(h:Gp2 g s t):worth g.ts [x,y]=s*x+t*y:=by
 rw[h.ts];simp[worth]
theorem KH{g:Gap}{s t x y:Int}(hg:Gp2 g s t)(q:R (.d (.bool (dU g [x,y]))) []):sV [.d (aP g),.d (.int x),.d (.int y)] [] R:=by
 have hs:=hg.s3;have ht:=hg.t3;have s1:=hs.lo;have s2:=hs.hi;have t1:=ht.lo;have t2:=ht.hi;unfold sV aP uN;unfold dU at q;rw[worth2 hg]at q;rw[hg.ts];walk_at "d"
 walk_at "n"
 unfold tmD;walk_at "d";refine⟨gQ yw yw,gQ yw yw,?_⟩;split
 ·rename_i h;have e:decide (g.lo<=s*x+t*y/\s*x+t*y<=g.hi)=decide (s*x+t*y<=g.hi):=by simp[h]
  rw[e]at q;exact q
 ·rename_i h;have e:decide (g.lo<=s*x+t*y/\s*x+t*y<=g.hi)=false:=by simp[h]
  rw[e]at q;exact q
theorem Hx{g:Gap}{x:Int}{other:List Int}{j:Nat}:(gg (j+1)).filter (fun j=>dU g [x,other.getD j 0])=(gg j).filter (fun j=>dU g [x,other.getD j 0])++if dU g [x,other.getD j 0]=true then [j]else []:=LW
theorem xK{g:Gap}{s t:Int}{one other:List Int}(hg:Gp2 g s t)(h1:one.length<=30)(h2:other.length<=30)(q:R (.d (.list ((prs g one other).map prD))) []\/R (.l 0) [(prs g one other).map prD]):lQ [.d (aP g),.d (aG one),.d (aG other)] [] R:=by
 unfold lQ;rw[gE,gE];walk_at "d"
 walk_at "n"
 walk_at "n";have er:∀n:Nat,fB 0 ((n:Nat):Int).toNat=(gg n).map fun k:Nat=>.int k:=fun n=>by
  unfold fB;rw[im];exact rh fun k _=>by rw[Int.zero_add]
 rw[er];refine jD (fun i δ S=>∃(u v:Option XV),S=[((gg i).flatMap (gA g one other)).map prD]/\δ=[some (.d (aP g)),some (.d (.tuple (one.map cq))),some (.d (.tuple (other.map cq))),some (.l 0),u,v]) ⟨_,_,rfl,rfl⟩ ?_ ?_
 ·rintro i d _ _ N hi ⟨u,v,rfl,rfl⟩ hN;obtain⟨k,e,rfl⟩:=gH hi;obtain⟨rfl,il⟩:=nU e;have pl:=kH (g:=g) (one:=one) (other:=other) i;have pm:i*other.length<=30*30:=mul_le_mul yw h2;walk_at "d";rw[er];refine jD (fun j δ S=>∃(v:Option XV),S=[((gg i).flatMap (gA g one other)++((gg j).filter fun j=>dU g [one.getD i 0,other.getD j 0]).map fun j=>(i,j)).map prD]/\δ=[some (.d (aP g)),some (.d (.tuple (one.map cq))),some (.d (.tuple (other.map cq))),some (.l 0),some (.d (.int (i:Nat))),v]) ⟨_,yv,rfl⟩ ?_ ?_
  ·rintro j d _ _ N' hj ⟨v,rfl,rfl⟩ z;obtain⟨m,e,rfl⟩:=gH hj;obtain⟨rfl,jl⟩:=nU e;have fl:((gg j).filter fun j=>dU g [one.getD i 0,other.getD j 0]).length<=j:=lw (length_filter_le _ _) (by rw[ko];exact dh _);walk_at "d";refine⟨_,EL il,_,EL jl,?_⟩;refine KH hg ?_;walk_at "d";have fs:=Hx (g:=g) (x:=one.getD i 0) (other:=other) (j:=j);split
   ·rename_i hk;rw[cn hk]at fs;refine⟨yw,z _ _ ⟨_,?_,rfl⟩⟩;rw[fs,jk,jk,jk,jk,<- gn];rfl
   ·rename_i hk;rw[cm hk,kw]at fs;refine z _ _ ⟨_,?_,rfl⟩;rw[fs]
  ·rintro _ _ ⟨v,rfl,rfl⟩;rw[cu,ko];refine hN _ _ ⟨_,_,?_,rfl⟩;rw[range_succ,List.flatMap_append,List.flatMap_singleton];rfl
 ·rintro _ _ ⟨u,v,rfl,rfl⟩;rw[cu,ko];walk_at "d";exact q
def dQ(i:Nat):bt->Bool
 | .tuple ds=>ds.any fun z=>kh z (.int i)
 |_=>false
def uM(g:Gap)(one other:List Int):bt->Bool
 | .tuple [x,y]=>fD one.length x&&(fD other.length y&&(prs g one other).all fun p=>dQ p.1 x||dQ p.2 y)
 |_=>false
def Th(d:bt):Prop:=∀x y,d=.tuple [x,y]->(∀ds,x=.tuple ds->ds.length<=50)/\(∀ds,y=.tuple ds->ds.length<=50)
theorem len2{ds:List bt}(h:ds.length=2):∃x y,ds=[x,y]:=by
 match ds,h with
 | [x,y],_=>exact⟨x,y,rfl⟩
theorem LK{g:Gap}{one other:List Int}{ds:List bt}(h:ds.length≠2):uM g one other (.tuple ds)=false:=by
 match ds,h with
 | [],_=>rfl
 | [_],_=>rfl
 | [_,_],h=>exact absurd rfl h
 |_::_::_::_,_=>rfl
theorem F7{n:Nat}{d:bt}(h:fD n d=true):∃ks:List Int,d=.tuple (ks.map cq):=by
 cases d with
 |tuple ds=>
  have:(ds.all (fF n)&&g9 (ds.map ival))=true:=h;rw[ix]at this;exact⟨_,congrArg PyData.tuple (xC this.1)⟩
 |_=>cases h
theorem shI(l:List Int):gj (.list (l.map cq))=true:=(l0 (oK fun _ _=>(fQ:Shp 0 _))).ok
theorem Kf{g:Gap}{s t:Int}{one other:List Int}{d:bt}(hg:Gp2 g s t)(h1:one.length<=30)(h2:other.length<=30)(ht:Th d)(q:R (.d (.bool (uM g one other d))) []):tS [.d (aP g),.d (aG one),.d (aG other),.d d] [] R:=by
 unfold tS;cases d with
 |tuple ds=>
  by_cases h:ds.length=2
  ·obtain⟨x,y,rfl⟩:=len2 h;obtain⟨tx,ty⟩:=ht x y rfl;have ec:uM g one other (.tuple [x,y])=(fD one.length x&&(fD other.length y&&(prs g one other).all fun p=>dQ p.1 x||dQ p.2 y)):=rfl;rw[ec]at q;walk_at "d"
   walk_at "n"
   walk_at "n"
   refine Dr tx ?_;walk_at "d";cases hx:fD one.length x with
   |false=>
    rw[hx,qf]at q;walk_at "d";exact q
   |true=>
    rw[hx,rf]at q;walk_at "d";refine Dr ty ?_;walk_at "d";cases hy:fD other.length y with
    |false=>
     rw[hy,qf]at q;walk_at "d";exact q
    |true=>
     rw[hy,rf]at q;obtain⟨ks,rfl⟩:=F7 hx;obtain⟨ls,rfl⟩:=F7 hy;walk_at "d";refine Bo (d1:=aG one) (d2:=aG other) rfl rfl hg h1 h2 (.inl ?_);walk_at "d";have pl:=kH (g:=g) (one:=one) (other:=other) one.length;have pm:one.length*other.length<=30*30:=mul_le_mul h1 h2;have z:(prs g one other).length<=1000:=by unfold prs;omega
     refine cmp2 (S0:=[]) (fun p:Pr=>.bool (dQ p.1 (.tuple (ks.map cq))||dQ p.2 (.tuple (ls.map cq)))) rfl (prs g one other) z ?_ ?_
     ·intro p mp u v acc R' hk;rw[eB];walk_at "d";refine⟨shI ks,?_⟩;have m1:dQ p.1 (.tuple (ks.map cq))=(ks.map cq).any fun y=>kh y (.int p.1):=rfl;have m2:dQ p.2 (.tuple (ls.map cq))=(ls.map cq).any fun y=>kh y (.int p.2):=rfl;rw[m1,m2]at hk;cases ha:(ks.map cq).any fun y=>kh y (.int p.1)with
      |true=>
       rw[ha,Bool.true_or]at hk;exact hk _ _
      |false=>
       rw[ha,Bool.false_or]at hk;rw[cm dz];exact⟨shI ls,hk _ _⟩
     ·refine⟨[],_,rfl,rfl,(prs g one other).map fun p=>(dQ p.1 (.tuple (ks.map cq))||dQ p.2 (.tuple (ls.map cq))),by rw[jx];rfl,?_⟩;rw[all_map];exact q
  ·rw[LK h]at q;walk_at "d"
   walk_at "n"
   rw[cn yw];exact q
 |_=>(walk_at "d";walk_at "n";exact q)
end
section
variable {R:RX}{S:Sto}
theorem t9{α:Type}{r:α->α->Prop}(as:∀{a b},r a b->r b a->False):∀{l m:List α},l.Pairwise r->m.Pairwise r->(∀x,x∈l↔x∈m)->l=m
 | [],[],_,_,_=>rfl
 | [],y::m,_,_,h=>by have:=(h y).mpr dw;simp at this
 |x::l,[],_,_,h=>by have:=(h x).mp dw;simp at this
 |x::l,y::m,hl,hm,h=>by
  rw[re]at hl hm;have e:x=y:=by
   rcases mem_cons.mp ((h x).mp dw)with e|e
   ·exact e
   ·rcases mem_cons.mp ((h y).mpr dw)with e'|e'
    ·exact e'.symm
    ·exact(as (hm.1 _ e) (hl.1 _ e')).elim
  subst e;congr 1;refine t9 as hl.2 hm.2 fun z=>⟨fun mz=>?_,fun mz=>?_⟩
  ·rcases mem_cons.mp ((h z).mp (cz _ mz))with e|e
   ·subst e;exact(as (hl.1 _ mz) (hl.1 _ mz)).elim
   ·exact e
  ·rcases mem_cons.mp ((h z).mpr (cz _ mz))with e|e
   ·subst e;exact(as (hm.1 _ mz) (hm.1 _ mz)).elim
   ·exact e
theorem Kr{a b:List Int}(h:HT.lexLt a b=true)(k:HT.lexLt b a=true):False:=by
 have:=L2.lexLt_trans0 h k;rw[HT.lexLt_self]at this;cases this
theorem HR{l:List (List Int)}(hn:l.Nodup)(hs:l.Pairwise fun x y=>HT.lexLt y x=false):l.Pairwise fun x y=>HT.lexLt x y=true:=
 (List.Pairwise.and hs hn).imp fun {x y} ⟨h1,h2⟩=>by
  rcases L2.lexLt_tri0 x y with h|h|h
  ·exact h
  ·exact absurd h h2
  ·rw[h1]at h;cases h
theorem Me{l m n:List (List Int)}(hp:m.Perm n)(hs:m.Pairwise fun x y=>HT.lexLt y x=false)(hn:n.Nodup)(hl:l.Pairwise fun x y=>HT.lexLt x y=true)(hm:∀x,x∈n↔x∈l):m=l:=
 t9 (r:=fun x y=>HT.lexLt x y=true) Kr (HR (hp.nodup_iff.mpr hn) hs) hl fun x=>hp.mem_iff.trans (hm x)
end
section
variable {R:RX}{S:Sto}
theorem jF{g:Gap}{one other:List Int}{p:Pr}:p∈prs g one other↔p.1<one.length/\p.2<other.length/\dU g [one.getD p.1 0,other.getD p.2 0]=true:=by
 unfold prs gA cS;rw[List.mem_flatMap];constructor
 ·rintro⟨i,mi,mp⟩;obtain⟨j,mj,rfl⟩:=mem_map.mp mp;rw[mem_filter,mem_range]at mj;exact⟨mem_range.mp mi,mj.1,mj.2⟩
 ·rintro⟨h1,h2,h3⟩;exact⟨p.1,mem_range.mpr h1,mem_map.mpr ⟨p.2,mem_filter.mpr ⟨mem_range.mpr h2,h3⟩,rfl⟩⟩
theorem Jh{cs:List Pr}(q:R (.d (.bool true)) []):tT [.d (.list (cs.map prD)),.d (.list (cs.map prD))] [] R:=by
 have sh:gj (.list (cs.map prD))=true:=(l0 (oK fun c _=>(wU (u9 fQ fQ):Shp 1 (prD c)))).ok;have er:=SeqAt.eqv_refl _ (ig sh);unfold tT;walk_at "d"
 walk_at "n"
 walk_at "n";refine jD (fun i δ S=>∃(u:Option XV),S=[]/\δ=[some (.d (.list (cs.map prD))),some (.d (.list (cs.map prD))),u]) ⟨_,rfl,rfl⟩ ?_ ?_
 ·rintro i d _ _ N hi ⟨u,rfl,rfl⟩ hN;obtain⟨c,e,rfl⟩:=gH hi;rw[eB];walk_at "d";refine xR ?_;walk_at "d";refine xR ?_;walk_at "d";exact hN _ _ ⟨_,rfl,rfl⟩
 ·rintro _ _ ⟨u,rfl,rfl⟩;walk_at "d";rw[er];exact⟨sh,sh,q⟩
end
section
variable {R:RX}{S:Sto}
theorem uC{g:DG}{b:DSm}{E:DEndsM}:∀{ds:List bt}{δ:XE}{S:Sto}{M:DM} (I:Nat->XE->Sto->DM->Prop),I 0 δ S M ->
  (∀i d δ S M (N:XE->Sto->DM->Prop),ds[i]?=some d->I i δ S M->(∀ δ' S' M',I (i+1) δ' S' M'->N δ' S' M')->g (.d d) δ S fun δ1 S1=>b { nx:=N,ct:=N,bk:=E.nx,rt:=E.rt } δ1 S1 M) ->
  (∀ δ S M,I ds.length δ S M->E.nx δ S M)->eV g b ds E δ S M
 | [],δ,S,M,I,h0,_,fin=>fin δ S M h0
 |d::ds,δ,S,M,I,h0,step,fin=>by
  show g (.d d) δ S fun δ1 S1=>b _ δ1 S1 M;refine step 0 d δ S M _ rfl h0 fun δ' S' M' h1=>?_;exact uC (ds:=ds) (fun i=>I (i+1)) h1 (fun i e δ S M N hi=>step (i+1) e δ S M N (by simpa using hi)) fin
def kN(j:Nat):Key:=vc (j:Int)
def mtD(M:Mt):List (Key×bt):=M.map fun p=>(kN p.1,.int (p.2:Nat))
def aJ(a:List Nat):List (Key×bt):=a.map fun j=>(kN j,.bool true)
theorem oZ{a b:Nat}:(kN a=kN b)=(a=b):=by
 unfold kN;simp only[Sum.inl.injEq,Int.natCast_inj]
theorem mF:∀(M:Mt) (j:Nat),lkA (mtD M) (kN j)=(lkA M j).map fun i=>.int (i:Nat)
 | [],j=>rfl
 |p::M,j=>by
  have ih:=mF M j;unfold lkA mtD at ih ⊢;rw[ga,ux,ux];simp only[oZ];by_cases h:p.1=j
  ·simp[h]
  ·simp only[h,decide_false];exact ih
theorem uK(M:Mt)(j i:Nat):ptA (mtD M) (kN j) (.int (i:Nat))=mtD (ptA M j i):=by
 unfold ptA mtD;have e:((M.map fun p=>((kN p.1,.int (p.2:Nat)):Key×bt)).any fun p=>decide (p.1=kN j))=M.any fun p=>decide (p.1=j):=by
  rw[any_map];congr 1;funext p;simp only[Function.comp,oZ]
 rw[e];split
 ·rw[jx,jx];congr 1;funext p;simp only[Function.comp,oZ];split<;>rfl
 ·rw[jk];rfl
theorem wL(a:List Nat)(j:Nat):(lkA (aJ a) (kN j)).isSome=decide (j∈a):=by
 unfold lkA aJ;rw[isSome_map,ut,List.find?_isSome];simp only[mem_map,decide_eq_true_eq];constructor
 ·rintro⟨_,⟨x,mx,rfl⟩,e⟩;rw[oZ]at e;exact e▸mx
 ·intro h;exact⟨_,⟨j,h,rfl⟩,rfl⟩
theorem v6{a:List Nat}{j:Nat}(h:j∉a):ptA (aJ a) (kN j) (.bool true)=aJ (a++[j]):=by
 unfold ptA;rw[cm]
 ·unfold aJ;rw[jk];rfl
 ·intro z;rw[any_eq_true]at z;obtain⟨p,mp,e⟩:=z;obtain⟨x,mx,rfl⟩:=mem_map.mp mp;have e2:=jf e;rw[oZ]at e2;exact h (e2▸mx)
def cC(q:List (List Nat)):bt:=.list (q.map bN)
theorem gK(q:List (List Nat)):cC q=.list (q.map bN):=rfl
theorem AW{q:List (List Nat)}{i:Nat}(h:i<q.length):atI (q.map bN) (i:Int)=some (bN (aB q i)):=by
 refine hU ?_;rw[ie,cw h];unfold aB;rw[fj,cw h];rfl
def dmO(a p:Addr)(M:Mt)(k:List Nat):DM:=[(a,.k (mtD M)),(p,.k (aJ k))]
theorem Ky{a p:Addr}(h:p≠a){M:Mt}{k k':List Nat}:cK (dmO a p M k) p (.k (aJ k'))=dmO a p M k':=by
 unfold cK dmO;simp[kf h]
theorem F5{a p:Addr}(h:p≠a){M M':Mt}{k:List Nat}:cK (dmO a p M k) a (.k (mtD M'))=dmO a p M' k:=by
 unfold cK dmO;simp[h]
theorem l5(M:Mt):(mtD M).length=M.length:=cu ..
theorem wE(k:List Nat):(aJ k).length=k.length:=cu ..
structure St8(rows:List (List Nat))(m:Nat)(M:Mt)(k:List Nat):Prop where
 kn:KN M
 ed:Ed rows M
 vl:∀p∈M,p.2<rows.length
 nd:k.Nodup
 lt:∀j∈k,j<m
theorem tH{q:List (List Nat)}{m:Nat}(hr:∀i,∀j∈aB q i,j<m){M:Mt}(hn:KN M)(he:Ed q M):M.length<=m:=by
 unfold KN at hn;have:=cI (l:=M.map fun p=>p.1) (l':=gg m) hn fun x mx=>by
  obtain⟨p,mp,rfl⟩:=mem_map.mp mx;exact mem_range.mpr (hr p.2 _ (he p mp))
 simpa using this
theorem fH{m:Nat}{k:List Nat}(hn:k.Nodup)(hl:∀j∈k,j<m):k.length<=m:=by
 have:=cI (l':=gg m) hn fun x mx=>mem_range.mpr (hl x mx);simpa using this
theorem Bj{z:List (List Nat)}{m:Nat}(hr:∀i,∀j∈aB z i,j<m)(hm:m<900){a p:Addr}(ap:p≠a):∀(n i:Nat) (M:Mt) (k:List Nat) (R:bt->Sto->DM->Prop),i<z.length->St8 z m M k->m<n+k.length ->
  R (.bool (fm z n i M k).1) [] (dmO a p (fm z n i M k).2.1 (fm z n i M k).2.2)->kA n [.d (cC z),.d (.int (i:Nat)),.o (.ref a),.o (.ref p)] [] (dmO a p M k) R
 | 0,i,M,k,R,_,st,hk,_=>by
  have:=fH st.nd st.lt;omega
 |n+1,i,M,k,R,hi,st,hk,q=>by
  unfold kA;refine seqm ?_;rw[gK];walk_at "d";refine⟨_,AW hi,?_⟩;rw[gB];walk_at "d";have go:∀(js:List Nat) (M:Mt) (k:List Nat) (u:Option XV) (En:DEndsM),(∀j∈js,j∈aB z i)->St8 z m M k->m<n+1+k.length ->
    ((fmL (fm z n) i js M k).1=true->En.rt (.d (.bool true)) [] (dmO a p (fmL (fm z n) i js M k).2.1 (fmL (fm z n) i js M k).2.2)) ->
    ((fmL (fm z n) i js M k).1=false->∀u',En.nx [some (.d (cC z)),some (.d (.int (i:Nat))),some (.o (.ref a)),some (.o (.ref p)),u'] [] (dmO a p (fmL (fm z n) i js M k).2.1 (fmL (fm z n) i js M k).2.2)) ->
    eV (zm 4) (bV (fL (fun M=>(dB (dOp (dE M false) (zh 4) (zh 3)))) (aY jE) (aY aI)) (bV (dJ 3 (fun M=>(zh 4)) (fun M=>(dC (.bool true)))) (gG (gV (dmT (fun M=>(dB (dOp (dE M true) (zh 4) (zh 2))))) (jM 4 (kA n) (fun M=>(zc (zh 0) (zc (fZ M (zh 2) (zh 4)) (zc (zh 2) (zc (zh 3) zu))))))) (bV (dJ 2 (fun M=>(zh 4)) (fun M=>(zh 1))) (aY (aC (dC (.bool true))))) (aY aI)))) (js.map fun k:Nat=>.int k) En [some (.d (cC z)),some (.d (.int (i:Nat))),some (.o (.ref a)),some (.o (.ref p)),u] [] (dmO a p M k):=by
   intro js;induction js with
   |nil=>
    intro M k u En _ _ _ _ h2;exact h2 rfl u
   |cons j js ih=>
    intro M k u En hj st hk h1 h2;have ac:∀x∈js,x∈aB z i:=fun x mx=>hj x (cz _ mx);have jm:j<m:=hr i j (hj j dw);rw[ga];unfold eV;walk_at "d";refine seqm ?_;walk_at "d";refine⟨.k (aJ k),lkA (aJ k) (kN j),.inl ⟨p,rfl,by simp[dmO]⟩,rfl,?_⟩;rw[wL];unfold fmL at h1 h2;by_cases ja:j∈k
    ·rw[cn ja]at h1 h2;rw[cn (by simpa using ja)];exact ih M k _ En ac st hk h1 h2
    ·rw[cm ja]at h1 h2;rw[cm (by simpa using ja)];refine seqm ?_;walk_at "d";have ab:(k++[j]).Nodup:=by
      rw[qz];refine⟨st.nd,yv,fun x mx y my e=>?_⟩;rw[mem_singleton.mp my]at e;exact ja (e▸mx)
     have ae:∀x∈k++[j],x<m:=fun x mx=>by
      rcases mem_append.mp mx with mx|mx
      ·exact st.lt x mx
      ·rw[mem_singleton.mp mx];exact jm
     have ag:St8 z m M (k++[j]):=⟨st.kn,st.ed,st.vl,ab,ae⟩;have l1:(k++[j]).length=k.length+1:=by simp
     refine⟨p,rfl,.k (aJ k),.k (aJ (k++[j])),by simp[dmO],?_,?_,?_⟩
     ·show some (DD.k (ptA (aJ k) (kN j) (.bool true)))=_;rw[v6 ja]
     ·show (aJ k).length<1000;rw[wE];have:=fH st.nd st.lt;omega
     ·rw[Ky ap];walk_at "d";refine⟨.k (mtD M),lkA (mtD M) (kN j),.inl ⟨a,rfl,by simp[dmO]⟩,rfl,?_⟩;rw[mF];have ml:=tH hr st.kn st.ed;cases h:lkA M j with
      |none=>
       rw[h]at h1 h2;walk_at "d";rw[cn yv];refine seqm ?_;walk_at "d";refine⟨a,rfl,.k (mtD M),.k (mtD (ptA M j i)),by simp[dmO],?_,?_,?_⟩
       ·show some (DD.k (ptA (mtD M) (kN j) (.int (i:Nat))))=_;rw[uK]
       ·show (mtD M).length<1000;rw[l5];omega
       ·rw[F5 ap];exact h1 rfl
      |some i2=>
       rw[h]at h1 h2;walk_at "d";rw[cm yv];refine⟨.k (mtD M),.int (i2:Nat),.inl ⟨a,rfl,by simp[dmO]⟩,?_,?_⟩
       ·show some (lkA (mtD M) (kN j))=_;rw[mF,h];rfl
       have af:i2<z.length:=st.vl _ (e9 h);have aa:=rC hr n i2 M (k++[j]) st.kn st.ed ab ae yw;refine Bj hr hm ap n i2 M (k++[j]) _ af ag yw ?_;simp only at h1 h2;generalize fm z n i2 M (k++[j])=r at aa h1 h2 ⊢;obtain⟨b,M',k'⟩:=r;simp only at h1 h2 ⊢;refine⟨trivial,b,rfl,?_⟩;cases b with
       |true=>
        obtain⟨y1,y2,y3,_⟩:=aa.yes rfl;simp only at y1 y2 y3;rw[cn rfl]at h1 h2;walk_at "d";refine seqm ?_;walk_at "d";have ah:=tH hr y1 y2;refine⟨a,rfl,.k (mtD M'),.k (mtD (ptA M' j i)),by simp[dmO],?_,?_,?_⟩
        ·show some (DD.k (ptA (mtD M') (kN j) (.int (i:Nat))))=_;rw[uK]
        ·show (mtD M').length<1000;rw[l5];omega
        ·rw[F5 ap];exact h1 rfl
       |false=>
        obtain⟨n1,_,_⟩:=aa.no rfl;simp only at n1;subst n1;rw[cm yv]at h1 h2;walk_at "d";have la:(k++[j]).length<=k'.length:=cI ab fun x mx=>aa.sub x mx;exact ih M' k' _ En ac ⟨st.kn,st.ed,st.vl,aa.nd,aa.lt⟩ yw h1 h2
  refine go (aB z i) M k none _ (fun _ h=>h) st yw (fun h=>?_) (fun h u'=>?_)
  ·walk_at "d";unfold fm at q;rw[h]at q;exact q
  ·walk_at "d";unfold fm at q;rw[h]at q;exact q
theorem er9(n:Nat):fB 0 ((n:Nat):Int).toNat=(gg n).map fun k:Nat=>.int k:=by
 unfold fB;rw[im];exact rh fun k _=>by rw[Int.zero_add]
theorem Hk(a p:Addr)(M:Mt):[(a,DD.k (mtD M)),(p,DD.k [])]=dmO a p M []:=rfl
theorem K4{z:List (List Nat)}{m:Nat}(hr:∀i,∀j∈aB z i,j<m)(hm:m<12){a p:Addr}(ap:p≠a){i:Nat}{M:Mt}{R:bt->Sto->DM->Prop}(hi:i<z.length)(kn:KN M)(ed:Ed z M)(vl:∀p∈M,p.2<z.length)
  (q:R (.bool (fm z 12 i M []).1) [] (dmO a p (fm z 12 i M []).2.1 (fm z 12 i M []).2.2)):uU [.d (cC z),.d (.int (i:Nat)),.o (.ref a),.o (.ref p)] [] [(a,.k (mtD M)),(p,.k [])] R:=by
 unfold uU;rw[Hk];exact Bj hr yw ap 12 i M [] R hi ⟨kn,ed,vl,lu,fun j h=>(nomatch h)⟩ (by simpa using hm) q
theorem AJ{z:List (List Nat)}{m:Nat}(hb:Bd m z)(hm:m<12)(hl:z.length<=1000)(q:R (.d (.dict (DD.pairs (.k (mtD (mmN z 12 z.length)))))) []):kS [.d (cC z)] [] R:=by
 unfold kS;refine seq1 ?_;rw[gK];walk_at "d";intro a _;walk_at "d";rw[er9];refine uC (fun i δ S M=>∃(u:Option XV),S=[]/\M=[(a,.k (mtD (mmN z 12 i)))]/\δ=[some (.d (cC z)),some (.o (.ref a)),u]) ⟨_,rfl,rfl,rfl⟩ ?_ ?_
 ·rintro i d _ _ _ N hi ⟨u,rfl,rfl,rfl⟩ hN;obtain⟨k,e,rfl⟩:=gH hi;obtain⟨rfl,il⟩:=nU e;have ok:=qJ hb.row hm i;walk_at "d";intro p hp;have ap:p≠a:=by simpa[ad]using hp
  refine K4 hb.row hm ap il ok.kn ok.ed (fun p mp=>lt_trans (ok.vl p mp) il) ?_;refine⟨rfl,_,_,rfl,hN _ _ _ ⟨_,rfl,rfl,rfl⟩⟩
 ·rintro _ _ _ ⟨u,rfl,rfl,rfl⟩;rw[cu,ko];refine⟨[],_,rfl,rfl,?_⟩;walk_at "d";rw[show gY a (mtD (mmN z 12 z.length)) (.o (.ref a))=.d (.dict (DD.pairs (.k (mtD (mmN z 12 z.length)))))from cn rfl];exact q
theorem j0(u:List Nat)(j:Nat):((u.map fun k:Nat=>cq k).any fun y=>kh y (.int (j:Nat)))=decide (j∈u):=by
 rw[any_map,ut,any_eq_true];simp only[Function.comp,mV,decide_eq_true_eq];constructor
 ·rintro⟨x,mx,e⟩;have:x=j:=yw
  exact this▸mx
 ·intro h;exact⟨j,h,rfl⟩
theorem shN(u:List Nat):gj (.list (u.map fun k:Nat=>cq k))=true:=(l0 (oK fun _ _=>(fQ:Shp 0 _))).ok
theorem CJ{r u:List Nat}(hl:r.length<=1000)(q:R (.d (bN (frR u r))) []\/R (.l 0) [(frR u r).map fun k:Nat=>.int k]):l6 [.d (bN r),.d (bN u)] [] R:=by
 unfold l6;rw[gB,gB];walk_at "d";refine cmf1 (S0:=[]) (fun j:Nat=>.int j) (fun j=>decide (j∉u)) rfl r hl ?_ ?_
 ·intro j mj v acc R' hk;walk_at "d";refine⟨shN u,?_⟩;rw[j0];rw[show (!decide (j∈u))=decide (j∉u)from by simp];refine hk _ fun _ T hT=>?_;walk_at "d";exact hT
 ·walk_at "d";exact q
theorem Bc{q:List (List Nat)}:(mtD (mmN q 12 q.length)).length=nu 12 q:=by
 rw[l5];rfl
theorem Gy{z:List (List Nat)}{m i w:Nat}{u:List Nat}{k:Int}(hb:Bd m z)(hm:m<12)(hl:z.length<=900)(aa:∀r∈z,r.length<=900)(hi:i<z.length)(hk:k=w-1)(hu:u.length<=900)
  (q:R (.d (((frR u (aB z i)).find? fun j=>decide (nu 12 (frs8 (u++[j]) (z.drop (i+1)))+1=w)).elim .none fun j=>.int (j:Nat))) []):vH [.d (cC z),.d (.int (i:Nat)),.d (bN u),.d (.int k)] [] R:=by
 have rl:(aB z i).length<=900:=by
  unfold aB;rw[fj,cw hi];exact aa _ (qd hi)
 unfold vH;refine seq1 ?_;rw[gK];walk_at "d";refine⟨_,AW hi,?_⟩;refine CJ yw (.inl ?_);rw[gB];walk_at "d";refine⟨_,(show bT (.d (bN (frR u (aB z i))))=some ((frR u (aB z i)).map fun k:Nat=>.int k)from rfl),?_⟩;generalize hf:frR u (aB z i)=fr at q ⊢;have go:∀(js:List Nat) (x y:Option XV) (En:DEnds),(∀j,(js.find? fun j=>decide (nu 12 (frs8 (u++[j]) (z.drop (i+1)))+1=w))=some j->En.rt (.d (.int (j:Nat))) []) ->
   ((js.find? fun j=>decide (nu 12 (frs8 (u++[j]) (z.drop (i+1)))+1=w))=none->∀x' y',En.nx [some (.d (cC z)),some (.d (.int (i:Nat))),some (.d (bN u)),some (.d (.int k)),x',y'] []) ->
   jN (zm 4) (aA (aE (bE [none,some 2,some 4] (aW (dSl mX (zh 0) (fA (dOp aR (zh 1) (dC (.int 1)))) eX)) (zm 0) aK (aF 2 l6 (zc (zh 0) (zc (dOp aR (zh 1) (dY (zc (zh 2) zu))) zu)))) (zm 5)) (aQ (dB (dOp cE (dCB gI (zc (aF 1 kS (zc (zh 5) zu)) zu)) (zh 3))) (aC (zh 4)) aI)) (js.map fun k:Nat=>.int k) En [some (.d (cC z)),some (.d (.int (i:Nat))),some (.d (bN u)),some (.d (.int k)),x,y] []:=by
  intro js;induction js with
  |nil=>
   intro x y En _ h2;exact h2 rfl x y
  |cons j js ih=>
   intro x y En h1 h2;rw[ga];unfold jN;rw[gK,gB];walk_at "d"
   walk_at "n"
   rw[LR hi];refine cmp1 (S0:=[]) (fun r=>bN (frR (u++[j]) r)) rfl (z.drop (i+1)) (by rw[length_drop];omega) ?_ ?_
   ·intro r mr v acc R' ac;walk_at "d";rw[show (u.map (fun k:Nat=>cq k)++[cq (j:Nat)])=(u++[j]).map (fun k:Nat=>cq k)from by rw[jk];rfl,<- gB];refine⟨yw,?_⟩;refine CJ (r:=r) (by have:=aa r (mem_of_mem_drop mr);omega) (.inl ?_);walk_at "d";exact ac _
   ·refine⟨[],_,rfl,rfl,?_⟩;have ab:Bd m (frs8 (u++[j]) (z.drop (i+1))):=Bd.fr (fun r hr=>hb r (mem_of_mem_drop hr)) _;rw[show (PyData.list ((z.drop (i+1)).map fun r=>bN (frR (u++[j]) r)))=cC (frs8 (u++[j]) (z.drop (i+1)))from by unfold cC frs8;rw[jx];rfl];refine AJ ab hm (by rw[xH,length_drop];omega) ?_;walk_at "d";refine⟨_,rfl,?_⟩;rw[Bc];by_cases e:nu 12 (frs8 (u++[j]) (z.drop (i+1)))+1=w
    ·rw[cn yw];exact h1 j (List.find?_cons_of_pos (by simpa using e))
    ·rw[cm yw];have e2:(j::js).find? (fun j=>decide (nu 12 (frs8 (u++[j]) (z.drop (i+1)))+1=w))=js.find? (fun j=>decide (nu 12 (frs8 (u++[j]) (z.drop (i+1)))+1=w)):=qy (by simpa using e);rw[e2]at h1 h2;exact ih _ _ En h1 h2
 rw[<- gK,<- gB];refine go fr none none _ (fun j e=>?_) (fun e x' y'=>?_)
 ·walk_at "d";rw[e]at q;exact q
 ·walk_at "d";rw[e]at q;exact q
def aN(g:Gap)(one other:List Int):List (List Nat):=one.map fun x=>cS g x other
theorem Dv{g:Gap}{one other:List Int}:PyData.list (one.map fun x=>bN (cS g x other))=cC (aN g one other):=by
 unfold cC aN;rw[jx];rfl
theorem jP{g:Gap}{one other:List Int}:Bd other.length (aN g one other):=fun r hr j hj=>by
 obtain⟨x,_,rfl⟩:=mem_map.mp hr;unfold cS at hj;exact mem_range.mp (mem_filter.mp hj).1
theorem BB{g:Gap}{one other:List Int}:∀r∈aN g one other,r.Pairwise (· < ·):=fun r hr=>by
 obtain⟨x,_,rfl⟩:=mem_map.mp hr;unfold cS;exact List.pairwise_lt_range.sublist jb
theorem BF{g:Gap}{one other:List Int}:∀r∈aN g one other,r.length<=other.length:=fun r hr=>by
 obtain⟨x,_,rfl⟩:=mem_map.mp hr;exact vR
def mtc(g:Gap)(one other:List Int):List Pr:=gr 12 (aN g one other) 0 [] (nu 12 (aN g one other))
theorem uD{g:Gap}{s t:Int}{one other:List Int}{d1 d2:bt}(e1:bT (.d d1)=some (one.map cq))(e2:bT (.d d2)=some (other.map cq))(hg:Gp2 g s t)(h1:one.length<=30)(h2:other.length<=11)(q:R (.d (.list ((mtc g one other).map prD))) []\/R (.l 0) [(mtc g one other).map prD]):jB [.d (aP g),.d d1,.d d2] [] R:=by
 have hb:=jP (g:=g) (one:=one) (other:=other);have hl:=BF (g:=g) (one:=one) (other:=other);have fl:(aN g one other).length=one.length:=cu ..;unfold jB;walk_at "d"
 walk_at "n"
 refine vT e1 e2 hg yw yw (.inl ?_);walk_at "d";rw[Dv];unfold mtc at q;generalize aN g one other=rows at hb hl fl q ⊢
 walk_at "n"
 refine AJ hb yw yw ?_;walk_at "d";refine⟨_,rfl,?_⟩;rw[Bc]
 walk_at "n"
 walk_at "n"
 refine seq1 ?_;rw[gK];walk_at "d";rw[er9];refine jD (fun i δ S=>∃(z:List Pr) (w:Nat) (x y:Option XV),gr 12 rows 0 [] (nu 12 rows)=z++gr 12 (rows.drop i) i (z.map (·.2)) w/\z.length+w=nu 12 rows/\z.length<=i/\S=[z.map prD,(z.map (·.2)).map fun k:Nat=>.int k]/\δ=[some (.d (aP g)),some (.d d1),some (.d d2),some (.d (cC rows)),some (.d (.int (nu 12 rows:Nat))),some (.l 0),some (.l 1),x,y]) ⟨[],_,_,_,rfl,zero_add _,nj _,rfl,rfl⟩ ?_ ?_
 ·rintro i d _ _ N hi ⟨z,w,x,y,ge,gl,tl,rfl,rfl⟩ hN;obtain⟨k,e,rfl⟩:=gH hi;obtain⟨rfl,il⟩:=nU e;walk_at "d"
  walk_at "n"
  rw[<- gB];refine Gy (w:=w) hb yw yw (fun r hr=>by have:=hl r hr;omega) il yw (by rw[cu];omega) ?_;rw[nc il]at ge;have gc:∀(r:List Nat) (rs:List (List Nat)) (i:Nat) (u:List Nat) (w:Nat),gr 12 (r::rs) i u w=(match (frR u r).find? fun j=>decide (nu 12 (frs8 (u++[j]) rs)+1=w)with|some j=>(i,j)::gr 12 rs (i+1) (u++[j]) (w-1)|none=>gr 12 rs (i+1) u w):=fun _ _ _ _ _=>rfl;rw[gc]at ge;have er:rows[i]=aB rows i:=by
   unfold aB;rw[fj,cw il];rfl
  rw[er]at ge;cases hf:(frR (z.map (·.2)) (aB rows i)).find? fun j=>decide (nu 12 (frs8 (z.map (·.2)++[j]) (rows.drop (i+1)))+1=w)with
  |none=>
   rw[hf]at ge;simp only at ge;rw[Option.elim_none];walk_at "d";exact⟨rfl,hN _ _ ⟨z,w,_,_,ge,gl,yw,rfl,rfl⟩⟩
  |some j=>
   rw[hf]at ge;simp only at ge;have hw:=find?_some hf;have ab:nu 12 (frs8 (z.map (·.2)++[j]) (rows.drop (i+1)))+1=w:=by simpa using hw
   rw[Option.elim_some];walk_at "d";refine⟨rfl,?_⟩
   walk_at "n"
   refine⟨yw,yw,?_⟩;refine hN _ _ ⟨z++[(i,j)],w-1,_,_,?_,by rw[fu,iy];omega,by rw[fu,iy];omega,?_,rfl⟩
   ·rw[ge,jk,gn];rfl
   ·rw[jk,jk,jk];rfl
 ·rintro _ _ ⟨z,w,x,y,ge,gl,tl,rfl,rfl⟩;rw[cu,ko]at ge;rw[drop_length]at ge;have aa:gr 12 rows 0 [] (nu 12 rows)=z:=by rw[ge];unfold gr;rw[kw]
  rw[aa]at q;walk_at "d";exact q
end
section
variable {R:RX}{S:Sto}
theorem Fs{α β γ:Type}(f:α->β)(g:β->List γ):∀l:List α,(l.map f).flatMap g=l.flatMap fun x=>g (f x)
 | []=>rfl
 |x::l=>by rw[ga,flatMap_cons,flatMap_cons,Fs f g l]
theorem vX{α β:Type}{f g:α->List β}:∀{l:List α},(∀x∈l,f x=g x)->l.flatMap f=l.flatMap g
 | [],_=>rfl
 |x::l,h=>by rw[flatMap_cons,flatMap_cons,h x dw,vX fun y m=>h y (cz _ m)]
theorem EW:∀(rows:List (List Nat)) (i:Nat),gS i rows=(gg rows.length).flatMap fun k=>(aB rows k).map fun j=>(i+k,j)
 | [],i=>rfl
 |r::rs,i=>by
  rw[ft,List.range_succ_eq_map,flatMap_cons,Fs];show r.map (fun j=>(i,j))++gS (i+1) rs=_;rw[EW rs (i+1)];congr 1;refine vX fun k _=>?_;show _=(aB rs k).map _;congr 1;funext j;rw[show i+1+k=i+(k+1)from by omega]
theorem hX{g:Gap}{one other:List Int}:prs g one other=gS 0 (aN g one other):=by
 rw[EW];unfold prs;rw[show (aN g one other).length=one.length from cu ..];refine vX fun k hk=>?_;have kl:=mem_range.mp hk;unfold gA aN aB;rw[fj,fj,ie,cw kl];simp
theorem IM(r:List Nat):frR [] r=r:=by
 unfold frR;rw[List.filter_eq_self];intro a _;simp
theorem vK(q:List (List Nat)):frs8 [] q=q:=by
 unfold frs8;exact(rh fun r _=>IM r).trans (map_id' q)
theorem jO{g:Gap}{one other:List Int}(h2:other.length<=11):Ma 0 (aN g one other) [] (mtc g one other)/\(mtc g one other).length=nu 12 (aN g one other)/\∀s,Ma 0 (aN g one other) [] s->s.length=nu 12 (aN g one other)->leL (mtc g one other) s:=
 yA (m:=other.length) yw (aN g one other) 0 [] _ jP BB (by rw[vK])
theorem At{g:Gap}{one other:List Int}(h2:other.length<=11):(mtc g one other).length<=one.length:=by
 obtain⟨f1,f2,_⟩:=(jO (g:=g) (one:=one) h2).1.facts;have:=fH (m:=one.length) f2 fun j mj=>by
  obtain⟨p,mp,rfl⟩:=mem_map.mp mj;have z:=(f1 p mp).2.1;rw[show (aN g one other).length=one.length from cu ..,zero_add]at z;exact z
 rwa [cu]at this
end
section
variable {R:RX}{S:Sto}
def dA(c:List Nat):bt:=.tuple (c.map fun k:Nat=>.int k)
theorem iB(c:List Nat):dA c=.tuple (c.map fun k:Nat=>.int k):=rfl
theorem Jm(M:Mt):(mtD M).map (·.2)=(vals M).map fun k:Nat=>cq k:=by
 unfold mtD vals;rw[jx,jx];rfl
theorem GE{c:DM->DT}{b:DEndsM->XE->Sto->DM->Prop}{E:DEndsM}{δ:XE}{S:Sto}{M:DM}(W:Nat->XE->Sto->DM->Prop)(m0:Nat)(w0:W m0 δ S M)(q:∀m δ S M,W m δ S M->c M δ S fun x S1=>if x=true then ∃N:XE->Sto->DM->Prop,(∀ δ' S' M',N δ' S' M'->∃m',m'<m/\W m' δ' S' M')/\b { nx:=N,ct:=N,bk:=E.nx,rt:=E.rt } δ S1 M else E.nx δ S1 M):yN c b E δ S M:=⟨W,⟨m0,w0⟩,q⟩
theorem Kq{α β:Type}{f:α->β}{l l2:List β}(h:l.Perm l2):∀m:List α,l2=m.map f->∃m':List α,m'.Perm m/\l=m'.map f:=by
 induction h with
 |nil=>
  intro m e;have:m=[]:=List.map_eq_nil_iff.mp e.symm;subst this;exact⟨[],.nil,rfl⟩
 | @cons x l1 l2 _ ih=>
  intro m e;cases m with
  |nil=>cases e
  |cons y m=>
   rw[ga,uv]at e;obtain⟨m',p,e2⟩:=ih m e.2;exact⟨y::m',p.cons y,by rw[ga,e.1,e2]⟩
 |swap x y l=>
  intro m e;cases m with
  |nil=>cases e
  |cons a m=>
   cases m with
   |nil=>cases e
   |cons b m=>
    rw[ga,ga,uv,uv]at e;exact⟨b::a::m,.swap _ _ _,by rw[ga,ga,e.1,e.2.1,e.2.2]⟩
 |trans _ _ ih1 ih2=>
  intro m e;obtain⟨m2,p2,e2⟩:=ih2 m e;obtain⟨m1,p1,e1⟩:=ih1 m2 e2;exact⟨m1,p1.trans p2,e1⟩
def eQ(a p:Addr)(s o:List Nat):DM:=[(a,.k (aJ s)),(p,.k (aJ o))]
theorem GT{a p:Addr}(h:p≠a){s s' o:List Nat}:cK (eQ a p s o) a (.k (aJ s'))=eQ a p s' o:=by
 unfold cK eQ;simp[h]
theorem JZ{a p:Addr}(h:p≠a){s o o':List Nat}:cK (eQ a p s o) p (.k (aJ o'))=eQ a p s o':=by
 unfold cK eQ;simp[kf h]
structure Cvr(rows:List (List Nat))(X Y:List Nat):Prop where
 xs:X.Pairwise (· < ·)
 xl:∀i∈X,i<rows.length
 ys:Y.Pairwise (· < ·)
 yl:∀m,Bd m rows->∀j∈Y,j<m
 cv:∀i,i<rows.length->∀j∈aB rows i,i∈X\/j∈Y
 ct:X.length+Y.length=nu 12 rows
def WC(q:List (List Nat))(C:List Nat)(z aa left:List Nat):Prop:=CvI q q.length (mmN q 12 q.length) C z aa left/\∀i∈z,∀j∈aB q i,j∈aa
theorem G5{g:Gap}{s t:Int}{one other:List Int}(hg:Gp2 g s t)(h1:one.length<=11)(h2:other.length<=11)(q:∀X Y,Cvr (aN g one other) X Y->R (.d (.tuple [dA X,dA Y])) []):uT [.d (aP g),.d (aG one),.d (aG other)] [] R:=by
 have hb:=jP (g:=g) (one:=one) (other:=other);have hl:=BF (g:=g) (one:=one) (other:=other);have fl:(aN g one other).length=one.length:=cu ..;unfold uT;walk_at "d"
 walk_at "n"
 refine vT (one:=one) (other:=other) rfl rfl hg yw yw (.inl ?_);walk_at "d";rw[Dv];generalize aN g one other=rows at hb hl fl q ⊢
 walk_at "n"
 refine AJ hb yw yw ?_;walk_at "d";have ok:=qJ hb.row (n:=12) yw rows.length;obtain⟨C,hc,hu⟩:=ok.cv;have ak:(mmN rows 12 rows.length).length=nu 12 rows:=rfl;have vl:∀p∈mmN rows 12 rows.length,p.2<rows.length:=ok.vl;have aj:∀j,lkA (mtD (mmN rows 12 rows.length)) (kN j)=(lkA (mmN rows 12 rows.length) j).map fun i=>.int (i:Nat):=mF _;refine seq1 ?_;rw[gK];walk_at "d";rw[er9];refine cmf1 (S0:=[]) (fun i:Nat=>.int i) (fun i=>decide (i∉vals (mmN rows 12 rows.length))) rfl (gg rows.length) (by rw[ko];omega) ?_ ?_
 ·intro i mi u acc R' hk;walk_at "d";refine⟨_,rfl,?_⟩;rw[Jm];walk_at "d";refine⟨shN _,?_⟩;rw[j0,show (!decide (i∈vals (mmN rows 12 rows.length)))=decide (i∉vals (mmN rows 12 rows.length))from by simp];refine hk _ fun _ T hT=>?_;walk_at "d";exact hT
 walk_at "d";walk_at "n";intro a _;walk_at "d";intro p hp;have pa:p≠a:=by simpa[ad]using hp
 walk_at "d";have W0:WC rows C [] [] ((gg rows.length).filter fun i=>decide (i∉vals (mmN rows 12 rows.length))):=⟨GF,fun i h=>(by cases h)⟩;generalize (gg rows.length).filter (fun i=>decide (i∉vals (mmN rows 12 rows.length)))=left0 at W0 ⊢;have ag:∀aa ab left,WC rows C aa ab left->aa.length<=rows.length/\(∀i∈left,i<rows.length):=fun aa ab left w=>by
  have lt:∀i,(i∈left\/i∈aa)->i<rows.length:=fun i m=>by
   rcases(w.1.lv i).mp m with z|⟨j,_,e⟩
   ·exact z.1
   ·exact vl _ (e9 e)
  refine⟨fH (m:=rows.length) ?_ fun j m=>lt j (.inr m),fun i m=>lt i (.inl m)⟩;exact(nodup_append.mp w.1.nd).2.1
 have af:∀aa ab left,CvI rows rows.length (mmN rows 12 rows.length) C aa ab left->ab.length<=11/\∀m,Bd m rows->∀j∈ab,j<m:=fun aa ab left w=>by
  have lt:∀m,Bd m rows->∀j∈ab,j<m:=fun m ah j mj=>by
   obtain⟨i,e,_⟩:=hc j (w.oc j mj);exact ah.row i j (ok.ed _ (e9 e))
  have:=fH w.on (lt _ hb);exact⟨yw,lt⟩
 refine GE (fun m δ S M=>∃(aa ab left:List Nat) (u v:Option XV),WC rows C aa ab left/\m=rows.length-aa.length/\S=[left.map fun k:Nat=>.int k]/\M=eQ a p aa ab/\δ=[some (.d (aP g)),some (.d (aG one)),some (.d (aG other)),some (.d (cC rows)),some (.d (.dict (DD.pairs (.k (mtD (mmN rows 12 rows.length)))))),some (.l 0),some (.o (.ref a)),some (.o (.ref p)),u,v]) _ ⟨[],[],left0,_,_,W0,rfl,rfl,rfl,rfl⟩ ?_;rintro m _ _ _ ⟨aa,ab,left,u,v,w,rfl,rfl,rfl,rfl⟩;obtain⟨sl,ll⟩:=ag aa ab left w;walk_at "d";cases hlast:left.reverse with
 |nil=>
  have e0:left=[]:=by simpa using hlast
  subst e0;rw[cm yv];have fz:gY p (aJ ab) (.o (.ref a))=.o (.ref a):=cm (fun z=>pa (by cases z;rfl));refine⟨[(a,.k (aJ aa))],aJ ab,rfl,[],aJ aa,rfl,fz,rows.length,?_,?_⟩
  ·rw[gK];show some (rows.map bN).length=_;rw[cu]
  rw[er9,fz,show gY a (aJ aa) (.o (.ref a))=.d (.dict (DD.pairs (.k (aJ aa))))from cn rfl];refine cmf1 (S0:=[[]]) (fun i:Nat=>.int i) (fun i=>decide (i∉aa)) rfl (gg rows.length) (by rw[ko];omega) ?_ ?_
  ·intro i mi x acc R' hk;walk_at "d";refine⟨.k (aJ aa),lkA (aJ aa) (kN i),.inr ⟨_,rfl,rfl⟩,rfl,?_⟩;rw[wL,show (!decide (i∈aa))=decide (i∉aa)from by simp];refine hk _ fun _ T hT=>?_;walk_at "d";exact hT
  ·refine⟨[[]],_,rfl,rfl,aJ ab,?_,ab.map fun k:Nat=>(k:Int),?_,by rw[cu];have:=(af aa ab [] w.1).1;omega,fun ms pm sm=>?_⟩
   ·rw[show gY p (aJ ab) (.o (.ref p))=.d (.dict (DD.pairs (.k (aJ ab))))from cn rfl];rfl
   ·unfold aJ;rw[jx,jx];rfl
   ·obtain⟨js,pj,rfl⟩:=Kq pm ab rfl;have sj:js.Pairwise (· < ·):=by
     rw[pp]at sm;exact(List.Pairwise.and sm (pj.nodup_iff.mpr w.1.on)).imp fun⟨z1,z2⟩=>by omega
    have:=q ((gg rows.length).filter fun i=>decide (i∉aa)) js ⟨List.pairwise_lt_range.sublist jb,fun i mi=>mem_range.mp (mem_filter.mp mi).1,sj,fun m hm j mj=>(af aa ab [] w.1).2 m hm j (pj.mem_iff.mp mj),fun i hi j mj=>?_,?_⟩
    ·rw[iB,iB]at this;rw[jx];exact this
    ·by_cases hs:i∈aa
     ·exact .inr (pj.mem_iff.mpr (w.2 i hs j mj))
     ·exact .inl (mem_filter.mpr ⟨mem_range.mpr hi,fy hs⟩)
    ·rw[pj.length_eq];exact(GW ok hc w.1).trans ak
 |cons i r=>
  have e0:left=r.reverse++[i]:=by
   have:=congrArg List.reverse hlast;simpa using this
  subst e0;generalize r.reverse=L at w ll ⊢
  clear hlast
  have hi:i<rows.length:=ll i yv;rw[cn yv];have ns:i∉aa:=fun z=>(nodup_append.mp w.1.nd).2.2 i yv i z rfl;have cr:=w.1.row hc hu (i:=i) (.inl yv);have w1:=w.1.pop;have w2:=w.2;refine⟨fun δ' S' M'=>∃(ab left:List Nat) (u v:Option XV),WC rows C (aa++[i]) ab left/\S'=[left.map fun k:Nat=>.int k]/\M'=eQ a p (aa++[i]) ab/\δ'=[some (.d (aP g)),some (.d (aG one)),some (.d (aG other)),some (.d (cC rows)),some (.d (.dict (DD.pairs (.k (mtD (mmN rows 12 rows.length)))))),some (.l 0),some (.o (.ref a)),some (.o (.ref p)),u,v],fun δ' S' M' ⟨ac,ae,u',v',w',e1,e2,e3⟩=>⟨_,?_,aa++[i],ac,ae,u',v',w',rfl,e1,e2,e3⟩,?_⟩
  ·have:=(ag _ _ _ w').1;rw[fu,iy]at this ⊢;omega
  refine seqm ?_;walk_at "d";refine⟨.int (i:Nat),by rw[ie,Nat.add_sub_cancel,om (dh _),Nat.sub_self];rfl,?_⟩;refine seqm ?_;walk_at "d";refine⟨a,rfl,.k (aJ aa),.k (aJ (aa++[i])),by simp[eQ],?_,?_,?_⟩
  ·show some (DD.k (ptA (aJ aa) (kN i) (.bool true)))=_;rw[v6 ns]
  ·show (aJ aa).length<1000;rw[wE];omega
  rw[GT pa,gK];walk_at "d";refine⟨_,AW hi,?_⟩;rw[gB];walk_at "d";rw[<- gK];refine uC (fun k δ S M=>∃(ab left:List Nat) (v:Option XV),CvI rows rows.length (mmN rows 12 rows.length) C (aa++[i]) ab left/\(∀i∈aa,∀j∈aB rows i,j∈ab)/\(∀j∈(aB rows i).take k,j∈ab)/\left.length<=100+k/\S=[left.map fun k:Nat=>.int k]/\M=eQ a p (aa++[i]) ab/\δ=[some (.d (aP g)),some (.d (aG one)),some (.d (aG other)),some (.d (cC rows)),some (.d (.dict (DD.pairs (.k (mtD (mmN rows 12 rows.length)))))),some (.l 0),some (.o (.ref a)),some (.o (.ref p)),some (.d (.int (i:Nat))),v]) ⟨ab,L,_,w1,w2,fun j m=>(by cases m),?_,?_,rfl,rfl⟩ ?_ ?_
  ·have:=fH (m:=rows.length) (nodup_append.mp (nodup_append.mp w.1.nd).1).1 fun j m=>ll j (cg _ m);omega
  ·rw[jk,show [i].map (fun k:Nat=>cq k)=[cq (i:Nat)]from rfl,List.dropLast_concat]
  ·rintro k d _ _ _ N hk ⟨ac,ae,v',c1,c2,c3,c4,rfl,rfl,rfl⟩ hN;obtain⟨j,ej,rfl⟩:=gH hk;have jr:=bw ej;have jc:=cr j jr;walk_at "d";refine⟨.k (aJ ac),lkA (aJ ac) (kN j),.inl ⟨p,rfl,by simp[eQ]⟩,rfl,?_⟩;rw[wL];by_cases jo:j∈ac
   ·rw[cm (by simpa using jo)];refine hN _ _ _ ⟨ac,ae,_,c1,c2,fun x mx=>?_,yw,rfl,rfl,rfl⟩;rw[take_add_one,ej]at mx;rcases mem_append.mp mx with z|z
    ·exact c3 x z
    ·have:x=j:=by simpa using z
     rw[this];exact jo
   ·rw[cn (by simpa using jo)];obtain⟨i',e',ai⟩:=c1.step ok hc jc jo;have ol:=(af (aa++[i]) ac ae c1).1;refine seqm ?_;walk_at "d";refine⟨p,rfl,.k (aJ ac),.k (aJ (ac++[j])),by simp[eQ],?_,?_,?_⟩
    ·show some (DD.k (ptA (aJ ac) (kN j) (.bool true)))=_;rw[v6 jo]
    ·show (aJ ac).length<1000;rw[wE];omega
    rw[JZ pa];walk_at "d";refine⟨.k (mtD (mmN rows 12 rows.length)),.int (i':Nat),.inr ⟨_,rfl,rfl⟩,?_,?_,?_⟩
    ·show some (lkA (mtD (mmN rows 12 rows.length)) (kN j))=_;rw[aj,e'];rfl
    ·have kl:=(List.getElem?_eq_some_iff.mp ej).1;have:(aB rows i).length<=other.length:=by
      unfold aB;rw[fj,cw hi];exact hl _ (qd hi)
     omega
    ·refine hN _ _ _ ⟨ac++[j],ae++[i'],_,ai,fun x mx y my=>cg _ (c2 x mx y my),fun x mx=>?_,by rw[fu,iy];omega,by rw[jk];rfl,rfl,rfl⟩;rw[take_add_one,ej]at mx;rcases mem_append.mp mx with z|z
     ·exact cg _ (c3 x z)
     ·have:x=j:=by simpa using z
      rw[this];simp
  ·rintro _ _ _ ⟨ac,ae,v',c1,c2,c3,c4,rfl,rfl,rfl⟩;rw[cu,take_length]at c3;refine⟨ac,ae,_,_,⟨c1,fun x mx y my=>?_⟩,rfl,rfl,rfl⟩;rcases mem_append.mp mx with z|z
   ·exact c2 x z y my
   ·rw[mem_singleton.mp z]at my;exact c3 y my
end
section
variable {R:RX}{S:Sto}
def bF(n:Nat)(rest:List Pr):List (List Nat):=(gg n).map fun i=>(rest.filter fun p=>decide (p.1=i)).map (·.2)
theorem t7{n:Nat}{rest:List Pr}{i:Nat}(h:i<n):aB (bF n rest) i=(rest.filter fun p=>decide (p.1=i)).map (·.2):=by
 unfold aB bF;rw[fj,ie,getElem?_range h];rfl
theorem v7{n:Nat}{rest:List Pr}:(bF n rest).length=n:=by
 unfold bF;rw[cu,ko]
theorem EG{n:Nat}{rest:List Pr}{i j:Nat}(h:j∈aB (bF n rest) i):(i,j)∈rest:=by
 by_cases hi:i<n
 ·rw[t7 hi]at h;obtain⟨p,mp,rfl⟩:=mem_map.mp h;obtain⟨m1,m2⟩:=mem_filter.mp mp;have:=jf m2;subst this;exact m1
 ·unfold aB at h;rw[fj,getElem?_eq_none (by rw[v7];omega)]at h;cases h
theorem EY(a:Addr)(D D':L2.DD):cK [(a,D)] a D'=[(a,D')]:=by simp[cK]
theorem Do{rest:List Pr}{n0 m:Nat}(hr:∀i,∀j∈aB (bF n0 rest) i,j<m)(hm:m<900){a:Addr}:∀(n i:Nat) (M:Mt) (k:List Nat) (R:bt->Sto->DM->Prop),i<n0->St8 (bF n0 rest) m M k->m<n+k.length ->
  R (.bool (fm (bF n0 rest) n i M k).1) [(fm (bF n0 rest) n i M k).2.2.map fun j:Nat=>.int j] [(a,.k (mtD (fm (bF n0 rest) n i M k).2.1))]->jU n [.d (.list (rest.map prD)),.d (.int (i:Nat)),.o (.ref a),.l 0] [k.map fun j:Nat=>.int j] [(a,.k (mtD M))] R
 | 0,i,M,k,R,_,st,hk,_=>by
  have:=fH st.nd st.lt;omega
 |n+1,i,M,k,R,hi,st,hk,q=>by
  unfold jU;refine seqm ?_;walk_at "d";have go:∀(ps:List Pr) (M:Mt) (k:List Nat) (u v:Option XV) (En:DEndsM),(∀p∈ps,p∈rest)->St8 (bF n0 rest) m M k->m<n+1+k.length ->
    ((fmL (fm (bF n0 rest) n) i ((ps.filter fun p=>decide (p.1=i)).map (·.2)) M k).1=true->En.rt (.d (.bool true)) [(fmL (fm (bF n0 rest) n) i ((ps.filter fun p=>decide (p.1=i)).map (·.2)) M k).2.2.map fun j:Nat=>.int j] [(a,.k (mtD (fmL (fm (bF n0 rest) n) i ((ps.filter fun p=>decide (p.1=i)).map (·.2)) M k).2.1))]) ->
    ((fmL (fm (bF n0 rest) n) i ((ps.filter fun p=>decide (p.1=i)).map (·.2)) M k).1=false->∀u' v',En.nx [some (.d (.list (rest.map prD))),some (.d (.int (i:Nat))),some (.o (.ref a)),some (.l 0),u',v'] [(fmL (fm (bF n0 rest) n) i ((ps.filter fun p=>decide (p.1=i)).map (·.2)) M k).2.2.map fun j:Nat=>.int j] [(a,.k (mtD (fmL (fm (bF n0 rest) n) i ((ps.filter fun p=>decide (p.1=i)).map (·.2)) M k).2.1))]) ->
    eV (bJ 2 (zO (zm 4) (zO (zm 5) bH))) (fL (fun M=>(fG (dB (dOp cE (zh 4) (zh 1))) (dB (dOp fW (zh 5) (zh 3))))) (bV (aY (d8 (dBM eK (zh 3) (zc (zh 5) zu)))) (gG (gV (dmT (fun M=>(dB (dOp (dE M true) (zh 5) (zh 2))))) (iY 3 4 (jU n) (fun M=>(zc (zh 0) (zc (fZ M (zh 2) (zh 5)) (zc (zh 2) (zc (zh 3) zu))))))) (bV (dJ 2 (fun M=>(zh 5)) (fun M=>(zh 1))) (aY (aC (dC (.bool true))))) (aY aI))) (aY aI)) (ps.map prD) En [some (.d (.list (rest.map prD))),some (.d (.int (i:Nat))),some (.o (.ref a)),some (.l 0),u,v] [k.map fun j:Nat=>.int j] [(a,.k (mtD M))]:=by
   intro ps;induction ps with
   |nil=>
    intro M k u v En _ _ _ _ h2;exact h2 rfl u v
   |cons p ps ih=>
    intro M k u v En hp st hk h1 h2;have aa:∀x∈ps,x∈rest:=fun x mx=>hp x (cz _ mx);have mp:=hp p dw;rw[ga];unfold eV;rw[eB];walk_at "d";by_cases pi:p.1=i
    ·rw[cn yw];refine⟨shN k,?_⟩;rw[j0];rw[List.filter_cons_of_pos (by simpa using pi),ga]at h1 h2;have jr:p.2∈aB (bF n0 rest) i:=by
      rw[t7 hi];exact mem_map.mpr ⟨p,mem_filter.mpr ⟨mp,by simpa using pi⟩,rfl⟩
     have jm:=hr i p.2 jr;generalize (ps.filter fun p=>decide (p.1=i)).map (·.2)=js at h1 h2 ih;generalize p.2=j at jr jm h1 h2 ⊢;unfold fmL at h1 h2;by_cases ja:j∈k
     ·rw[cn ja]at h1 h2;rw[cm (by simpa using ja)];exact ih M k _ _ En aa st hk h1 h2
     ·rw[cm ja]at h1 h2;rw[cn (by simpa using ja)];have kl:=fH st.nd st.lt;refine seqm ?_;walk_at "d";refine⟨yw,?_⟩;rw[show (k.map (fun j:Nat=>cq j)++[cq (j:Nat)])=(k++[j]).map (fun j:Nat=>cq j)from by rw[jk];rfl];have ab:(k++[j]).Nodup:=by
       rw[qz];refine⟨st.nd,yv,fun x mx y my e=>?_⟩;rw[mem_singleton.mp my]at e;exact ja (e▸mx)
      have ac:∀x∈k++[j],x<m:=fun x mx=>by
       rcases mem_append.mp mx with mx|mx
       ·exact st.lt x mx
       ·rw[mem_singleton.mp mx];exact jm
      have af:St8 (bF n0 rest) m M (k++[j]):=⟨st.kn,st.ed,st.vl,ab,ac⟩;have l1:(k++[j]).length=k.length+1:=by simp
      refine⟨.k (mtD M),lkA (mtD M) (kN j),.inl ⟨a,rfl,yv⟩,rfl,?_⟩;rw[mF];have ml:=tH hr st.kn st.ed;cases h:lkA M j with
      |none=>
       rw[h]at h1 h2;walk_at "d";rw[cn yv];refine seqm ?_;walk_at "d";refine⟨a,rfl,.k (mtD M),.k (mtD (ptA M j i)),yv,?_,?_,?_⟩
       ·show some (DD.k (ptA (mtD M) (kN j) (.int (i:Nat))))=_;rw[uK]
       ·show (mtD M).length<1000;rw[l5];omega
       ·rw[EY];exact h1 rfl
      |some i2=>
       rw[h]at h1 h2;walk_at "d";rw[cm yv];refine⟨.k (mtD M),.int (i2:Nat),.inl ⟨a,rfl,yv⟩,?_,?_⟩
       ·show some (lkA (mtD M) (kN j))=_;rw[mF,h];rfl
       have ae:i2<n0:=by
        have:=st.vl _ (e9 h)
        rwa [v7]at this
       have z:=rC hr n i2 M (k++[j]) st.kn st.ed ab ac yw;walk_at "d";refine Do hr hm n i2 M (k++[j]) _ ae af yw ?_;simp only at h1 h2;generalize fm (bF n0 rest) n i2 M (k++[j])=r at z h1 h2 ⊢;obtain⟨b,M',k'⟩:=r;simp only at h1 h2 ⊢;refine⟨_,rfl,b,rfl,?_⟩;cases b with
       |true=>
        obtain⟨y1,y2,y3,_⟩:=z.yes rfl;simp only at y1 y2 y3;rw[cn rfl]at h1 h2;walk_at "d";refine seqm ?_;walk_at "d";have ag:=tH hr y1 y2;refine⟨a,rfl,.k (mtD M'),.k (mtD (ptA M' j i)),yv,?_,?_,?_⟩
        ·show some (DD.k (ptA (mtD M') (kN j) (.int (i:Nat))))=_;rw[uK]
        ·show (mtD M').length<1000;rw[l5];omega
        ·rw[EY];exact h1 rfl
       |false=>
        obtain⟨n1,_,_⟩:=z.no rfl;simp only at n1;subst n1;rw[cm yv]at h1 h2;walk_at "d";have la:(k++[j]).length<=k'.length:=cI ab fun x mx=>z.sub x mx;exact ih M' k' _ _ En aa ⟨st.kn,st.ed,st.vl,z.nd,z.lt⟩ yw h1 h2
    ·rw[cm yw];rw[List.filter_cons_of_neg (by simpa using pi)]at h1 h2;exact ih M k _ _ En aa st hk h1 h2
  refine go rest M k none none _ (fun _ h=>h) st yw (fun h=>?_) (fun h u' v'=>?_)
  ·walk_at "d";unfold fm at q;rw[t7 hi]at q;rw[h]at q;exact q
  ·walk_at "d";unfold fm at q;rw[t7 hi]at q;rw[h]at q;exact q
structure MtR(rest:List Pr)(M:Mt):Prop where
 kn:KN M
 vn:(M.map (·.2)).Nodup
 ed:∀p∈M,(p.2,p.1)∈rest
theorem LS{rest:List Pr}{n0 m:Nat}(hn:n0<=11)(hm:m<=11)(hp:∀p∈rest,p.1<n0/\p.2<m)(hl:rest.length<=1000)(q:∀M,MtR rest M->R (.d (.int (M.length:Nat))) []):sT [.d (.list (rest.map prD))] [] R:=by
 have hr:∀i,∀j∈aB (bF n0 rest) i,j<m:=fun i j mj=>(hp _ (EG mj)).2;unfold sT;walk_at "n";intro a _;walk_at "d";refine cmp2 (S0:=[]) (fun p:Pr=>.int (p.1:Nat)) rfl rest hl ?_ ?_
 ·intro p mp u v acc R' hk;rw[eB];walk_at "d";exact hk _ _
 walk_at "d";refine⟨rest.map fun p=>((p.1:Nat):Int),by rw[jx];rfl,⟨(gg n0).map fun k:Nat=>(k:Int),by rw[cu,ko];omega,fun x mx=>?_⟩,fun ms pw mm=>?_⟩
 ·obtain⟨p,mp,rfl⟩:=mem_map.mp mx;exact mem_map.mpr ⟨p.1,mem_range.mpr (hp p mp).1,rfl⟩
 have mN:∀x∈ms,∃i:Nat,x=(i:Int)/\i<n0:=fun x mx=>by
  obtain⟨p,mp,rfl⟩:=mem_map.mp ((mm x).mp mx);exact⟨p.1,rfl,(hp p mp).1⟩
 refine uC (fun t δ S M'=>∃(M:Mt) (u:Option XV),KN M/\Ed (bF n0 rest) M/\(M.map (·.2)).Nodup/\(∀p∈M,((p.2:Nat):Int)∈ms.take t)/\M'=[(a,.k (mtD M))]/\δ=[some (.d (.list (rest.map prD))),some (.o (.ref a)),u]) ⟨[],_,lu,fun p h=>(by cases h),lu,fun p h=>(by cases h),rfl,rfl⟩ ?_ ?_
 ·rintro t d _ S1 _ N ht ⟨M,u,k1,k2,k3,k4,rfl,rfl⟩ hN;obtain⟨x,ex,rfl⟩:=gH ht;obtain⟨i,rfl,hi⟩:=mN x (bw ex);walk_at "d";refine⟨[],by rw[om (dh _),Nat.sub_self];rfl,?_⟩;unfold Aa;have vl:∀p∈M,p.2<(bF n0 rest).length:=fun p mp=>by
   obtain⟨i',e,ab⟩:=mN _ (mem_of_mem_take (k4 p mp));rw[v7];omega
  have z:=rC hr 12 i M [] k1 k2 lu (fun j h=>(by cases h)) (by simp;omega);refine Do hr yw 12 i M [] _ hi ⟨k1,k2,vl,lu,fun j h=>(by cases h)⟩ (by simp;omega) ?_;generalize fm (bF n0 rest) 12 i M []=r at z ⊢;obtain⟨b,M',k'⟩:=r;refine⟨_,rfl,?_⟩;have tk:ms.take (t+1)=ms.take t++[(i:Int)]:=by rw[take_add_one,ex];rfl
  cases b with
  |true=>
   obtain⟨y1,y2,y3,_⟩:=z.yes rfl;simp only at y1 y2 y3;have ni:i∉M.map (·.2):=fun h=>by
    obtain⟨p,mp,e⟩:=mem_map.mp h;have h1:=k4 p mp;rw[e]at h1;have nd:(ms.take (t+1)).Nodup:=(pw.imp fun h=>(by omega:_≠_)).sublist (List.take_sublist _ _);rw[tk,qz]at nd;exact nd.2.2 _ h1 _ yv rfl
   refine hN _ _ _ ⟨M',_,y1,y2,y3.nodup_iff.mpr (nodup_cons.mpr ⟨ni,k3⟩),fun p mp=>?_,rfl,rfl⟩;have:=y3.mem_iff.mp (oy mp);rw[tk];rcases mem_cons.mp this with e|e
   ·rw[e];simp
   ·obtain⟨p',aa,e'⟩:=mem_map.mp e;have h1:=k4 p' aa;rw[e']at h1;exact cg _ h1
  |false=>
   obtain⟨n1,_,_⟩:=z.no rfl;simp only at n1;subst n1;refine hN _ _ _ ⟨M',_,k1,k2,k3,fun p mp=>?_,rfl,rfl⟩;rw[tk];exact cg _ (k4 p mp)
 ·rintro _ S1 _ ⟨M,u,k1,k2,k3,k4,rfl,rfl⟩;refine⟨[],_,rfl,rfl,?_⟩;walk_at "d";rw[show gY a (mtD M) (.o (.ref a))=.d (.dict (DD.pairs (.k (mtD M))))from cn rfl];walk_at "d";refine⟨_,rfl,?_⟩;rw[l5];exact q M ⟨k1,k3,fun p mp=>EG (k2 p mp)⟩
theorem rT{α:Type}{r:α->α->Prop}(ir:∀a,¬ r a a)(tr:∀a b c,r a b->r b c->r a c):∀{L s:List α},L.Pairwise r->s.Pairwise r->(∀x∈s,x∈L)->s.Sublist L
 | [],[],_,_,_=>.slnil
 | [],x::s,_,_,h=>by have:=h x dw;cases this
 |y::L,[],_,_,_=>List.nil_sublist _
 |y::L,x::s,hL,hs,h=>by
  rw[re]at hL hs;rcases mem_cons.mp (h x dw)with e|e
  ·subst e;refine .cons₂ _ (rT ir tr hL.2 hs.2 fun z mz=>?_);rcases mem_cons.mp (h z (cz _ mz))with e|e
   ·subst e;exact absurd (hs.1 z mz) (ir z)
   ·exact e
  ·refine .cons _ (rT ir tr hL.2 (pairwise_cons.mpr hs) fun z mz=>?_);rcases mem_cons.mp (h z mz)with e2|e2
   ·subst e2;rcases mem_cons.mp mz with e3|e3
    ·subst e3;exact e
    ·exact absurd (tr _ _ _ (hL.1 x e) (hs.1 z e3)) (ir z)
   ·exact e2
theorem f9(a:Pr):¬ ltP a a:=fun h=>by
 rcases h with h|⟨_,h⟩<;>omega
theorem oP(a b c:Pr)(h:ltP a b)(k:ltP b c):ltP a c:=by
 unfold ltP at *;omega
theorem Bp:∀(rows:List (List Nat)) (i:Nat),(∀r∈rows,r.Pairwise (· < ·))->(gS i rows).Pairwise ltP
 | [],i,_=>.nil
 |r::rs,i,h=>by
  show (r.map (fun j=>(i,j))++gS (i+1) rs).Pairwise ltP;rw[lx];refine⟨?_,Bp rs (i+1) fun x m=>h x (cz _ m),fun p mp q mq=>?_⟩
  ·rw[pp];exact(h r dw).imp fun z=>.inr ⟨rfl,z⟩
  ·obtain⟨j,_,rfl⟩:=mem_map.mp mp;have:=BA mq;exact .inl (by show i<q.1;omega)
theorem eT{g:Gap}{one other:List Int}:(prs g one other).Pairwise ltP:=by
 rw[hX];exact Bp _ _ BB
theorem EQ{x y:Pr}:∀{P A B:List Pr},leL (P++x::A) (P++y::B)->ltP y x->False
 | [],A,B,h,k=>by
  rcases h with h|⟨e,_⟩
  ·exact f9 _ (oP _ _ _ h k)
  ·subst e;exact f9 _ k
 |p::P,A,B,h,k=>by
  rcases h with h|⟨_,h⟩
  ·exact f9 _ h
  ·exact EQ h k
theorem Gm{g:Gap}{one other:List Int}{P A:List Pr}{x y:Pr}{M:Mt}(h2:other.length<=11)(hm:mtc g one other=P++x::A)(my:y∈prs g one other)(yx:ltP y x)(yP:∀p∈P,p.1<y.1/\p.2≠y.2)
  (hM:MtR ((prs g one other).filter fun p=>decide ((∀q∈P,q.1<p.1/\q.2≠p.2)/\y.1<p.1/\p.2≠y.2)) M):M.length+1≠(mtc g one other).length-P.length:=fun he=>by
 obtain⟨m1,m2,m3⟩:=jO (g:=g) (one:=one) (other:=other) h2;have aa:=(iE _ _).mp (jK.mpr m1);rw[<- hX]at aa
 let T:=(prs g one other).filter fun p=>decide ((p.2,p.1)∈M)
 have tM:∀p∈T,(p.2,p.1)∈M:=fun p mp=>jf (mem_filter.mp mp).2;have tR:∀p∈T,p∈prs g one other/\(∀q∈P,q.1<p.1/\q.2≠p.2)/\y.1<p.1/\p.2≠y.2:=fun p mp=>by
  obtain⟨z1,z2⟩:=mem_filter.mp (hM.ed _ (tM p mp));exact⟨z1,jf z2⟩
 have tl:T.length=M.length:=by
  have i1:=cI (l:=M.map fun p=>(p.2,p.1)) (l':=T) (kJ (mT (f:=fun p:Nat×Nat=>p.1) hM.kn) fun a _ b _ e=>by cases a;cases b;cases e;rfl) fun p mp=>by
   obtain⟨z,mz,rfl⟩:=mem_map.mp mp;exact mem_filter.mpr ⟨(mem_filter.mp (hM.ed z mz)).1,fy mz⟩
  have tn:T.Nodup:=qm jb (List.Pairwise.imp (S:=fun a b:Pr=>a≠b) (fun {a b} h (e:a=b)=>f9 a (by rw[<- e]at h;exact h)) eT);have i2:=cI (l:=T) (l':=M.map fun p=>(p.2,p.1)) tn fun p mp=>mem_map.mpr ⟨_,tM p mp,rfl⟩;rw[cu]at i1 i2;omega
 have pP:P.Pairwise ltP:=by
  have:(mtc g one other).Pairwise ltP:=eT.sublist aa.1;rw[hm,lx]at this;exact this.1
 have sP:∀p∈P,p∈prs g one other:=fun p mp=>aa.1.subset (by rw[hm];exact cg _ mp);have fP:Fr P:=by
  have:=aa.2;unfold Fr at this;rw[hm,lx]at this;exact this.1
 have s1:(P++y::T).Sublist (prs g one other):=by
  refine rT f9 oP eT ?_ fun p mp=>?_
  ·rw[lx,re];refine⟨pP,⟨fun p mp=>.inl (tR p mp).2.2.1,eT.sublist jb⟩,fun p mp q mq=>?_⟩;rcases mem_cons.mp mq with rfl|mq
   ·exact .inl (yP p mp).1
   ·exact .inl ((tR q mq).2.1 p mp).1
  ·rcases mem_append.mp mp with mp|mp
   ·exact sP p mp
   ·rcases mem_cons.mp mp with rfl|mp
    ·exact my
    ·exact(tR p mp).1
 have cf:∀{a b:Pr},a.1≠b.1->a.2≠b.2->cfl a b=false:=fun {a b} h1 h2=>by
  unfold cfl;rw[fw h1,fw h2];rfl
 have s2:Fr (P++y::T):=by
  unfold Fr;rw[lx,re];refine⟨fP,⟨fun p mp=>cf (by have:=(tR p mp).2.2.1;omega) (tR p mp).2.2.2,?_⟩,fun p mp q mq=>?_⟩
  ·have tp:T.Pairwise ltP:=eT.sublist jb;rw[pairwise_iff_getElem]at tp ⊢;intro i j hi hj ab;have h1:=tp i j hi hj ab;have a1:=tM _ (qd hi);have a2:=tM _ (qd hj);refine cf (fun e=>?_) (fun e=>?_)
   ·have:=fT hM.vn a1 a2 e.symm;have e2:T[i].2=T[j].2:=congrArg Prod.fst this;exact f9 T[i] (by rw[show T[j]=T[i]from Prod.ext e e2.symm]at h1;exact h1)
   ·have:=fT (f:=fun p:Nat×Nat=>p.1) hM.kn a1 a2 e.symm;have e2:T[i].1=T[j].1:=congrArg Prod.snd this;exact f9 T[i] (by rw[show T[j]=T[i]from Prod.ext e2.symm e]at h1;exact h1)
  ·rcases mem_cons.mp mq with rfl|mq
   ·exact cf (by have:=(yP p mp).1;omega) (fun z=>(yP p mp).2 z.symm)
   ·have:=(tR q mq).2.1 p mp;exact cf yw (fun z=>this.2 z.symm)
 have mS:Ma 0 (aN g one other) [] (P++y::T):=jK.mp ((iE _ _).mpr (by rw[<- hX];exact⟨s1,s2⟩));have ln:(P++y::T).length=nu 12 (aN g one other):=by
  rw[<- m2,fu,ft,tl];have:P.length<(mtc g one other).length:=by rw[hm,fu,ft];omega
  omega
 have:=m3 _ mS ln;rw[hm]at this;exact EQ this yx
theorem Lu{cs:List Pr}{n m:Nat}(hn:n<=20)(hm:m<=20)(hl:cs.length<=1000)(h1:(cs.map (·.1)).Nodup)(h2:(cs.map (·.2)).Nodup)(b1:∀p∈cs,p.1<n/\p.2<m)(q:R (.d (.bool true)) []):tB [.d (.list (cs.map prD))] [] R:=by
 have aa:∀{l:List Nat},l.Nodup->(l.map fun k:Nat=>(k:Int)).Nodup:=fun {l} h=>kJ h fun a _ b _ e=>by omega
 have z:∀{l:List Nat}{ms:List Int},l.Nodup->ms.Nodup->(∀x,x∈ms↔x∈l.map fun k:Nat=>(k:Int))->ms.length=l.length:=fun {l ms} a b h=>by
  have i1:=cI b fun x mx=>(h x).mp mx;have i2:=cI (aa a) fun x mx=>(h x).mpr mx;rw[cu]at i1 i2;omega
 unfold tB;walk_at "d"
 walk_at "n"
 refine cmp2 (S0:=[]) (fun p:Pr=>.int (p.1:Nat)) rfl cs hl ?_ ?_
 ·intro p mp u v acc R' hk;rw[eB];walk_at "d";exact hk _ _
 walk_at "d"
 walk_at "n"
 refine cmp2 (S0:=[]) (fun p:Pr=>.int (p.2:Nat)) rfl cs hl ?_ ?_
 ·intro p mp u v acc R' hk;rw[eB];walk_at "d";exact hk _ _
 walk_at "d";refine⟨(cs.map (·.1)).map fun k:Nat=>(k:Int),by rw[jx,jx];rfl,⟨(gg n).map fun k:Nat=>(k:Int),by rw[cu,ko];omega,fun x mx=>?_⟩,fun ms nd mm=>?_⟩
 ·obtain⟨k,mk,rfl⟩:=mem_map.mp mx;obtain⟨p,mp,rfl⟩:=mem_map.mp mk;exact mem_map.mpr ⟨p.1,mem_range.mpr (b1 p mp).1,rfl⟩
 have e1:=z h1 nd mm;rw[cu]at e1;rw[e1,cn rfl];walk_at "d";refine⟨(cs.map (·.2)).map fun k:Nat=>(k:Int),by rw[jx,jx];rfl,⟨(gg m).map fun k:Nat=>(k:Int),by rw[cu,ko];omega,fun x mx=>?_⟩,fun ms nd mm=>?_⟩
 ·obtain⟨k,mk,rfl⟩:=mem_map.mp mx;obtain⟨p,mp,rfl⟩:=mem_map.mp mk;exact mem_map.mpr ⟨p.2,mem_range.mpr (b1 p mp).2,rfl⟩
 have e2:=z h2 nd mm;rw[cu]at e2;rw[e2,fy rfl];exact q
theorem Fo{X:List Nat}{one:List Int}(hx:X.Pairwise (· < ·))(hl:∀i∈X,i<one.length)(h1:one.length<=30)(q:R (.d (.bool true)) []):pH [.d (dA X),.d (aG one)] [] R:=by
 have xl:=fH (hx.imp fun h=>(by omega:_≠_)) hl;unfold pH;rw[iB,gE];walk_at "d"
 walk_at "n"
 refine cmp1 (S0:=[]) (fun _:Nat=>.bool true) rfl X yw ?_ ?_
 ·intro k mk u acc R' hk;have:=hl k mk;walk_at "d";refine xR ?_;walk_at "d";rw[cn (show vI (.int (k:Nat))=true from rfl),cn yw,fy yw];exact hk _
 walk_at "d";refine⟨X.map fun _=>true,by rw[jx];rfl,?_⟩;rw[show (X.map fun _=>true).all id=true from by rw[all_map];exact all_eq_true.mpr fun _ _=>rfl];walk_at "d";refine⟨X.map fun k:Nat=>(k:Int),by rw[jx];rfl,by rw[cu];omega,fun ms pw mm=>?_⟩;have e:ms=X.map fun k:Nat=>(k:Int):=t9 (r:=fun a b:Int=>a<b) (fun {a b} h1 h2=>by omega) pw (by rw[pp];exact hx.imp fun h=>by omega) mm;subst e;have e2:(X.map fun k:Nat=>(k:Int)).map cq=X.map fun k:Nat=>cq k:=by rw[jx];rfl
 rw[e2];refine⟨shN X,shN X,?_⟩;rw[SeqAt.eqv_refl _ (ig (shN X))];exact q
theorem Jg{g:Gap}{one other:List Int}{i:Nat}(h:i<one.length):aB (aN g one other) i=cS g (one.getD i 0) other:=by
 unfold aB aN;rw[fj,fj,ie,cw h];rfl
theorem sJ{g:Gap}{one other:List Int}{p:Pr}(h:p∈prs g one other):p.1<one.length/\p.2<other.length/\p.2∈aB (aN g one other) p.1:=by
 obtain⟨a1,a2,a3⟩:=jF.mp h;refine⟨a1,a2,?_⟩;rw[Jg a1];unfold cS;exact mem_filter.mpr ⟨mem_range.mpr a2,a3⟩
theorem KS{g:Gap}{s t:Int}{one other:List Int}{X Y:List Nat}(hg:Gp2 g s t)(h1:one.length<=11)(h2:other.length<=11)(hc:Cvr (aN g one other) X Y)(q:R (.d (.bool true)) []):u7 [.d (aP g),.d (aG one),.d (aG other),.d (.tuple [dA X,dA Y])] [] R:=by
 have fl:(aN g one other).length=one.length:=cu ..;have xl:∀i∈X,i<one.length:=fun i m=>by have:=hc.xl i m;omega
 have yl:∀i∈Y,i<other.length:=hc.yl _ jP;unfold u7;walk_at "d"
 walk_at "n"
 walk_at "n";refine Fo hc.xs xl yw ?_;walk_at "d";refine Fo hc.ys yl yw ?_;walk_at "d";refine xK hg yw yw (.inl ?_);have pl:=kH (g:=g) (one:=one) (other:=other) one.length;have pm:one.length*other.length<=11*11:=mul_le_mul h1 h2;walk_at "d";refine cmp2 (S0:=[]) (fun _:Pr=>.bool true) rfl (prs g one other) (by unfold prs;omega) ?_ ?_
 ·intro p mp u v acc R' hk;obtain⟨a1,a2,a3⟩:=sJ mp;have hv:=hc.cv p.1 yw p.2 a3;rw[eB,iB,iB];walk_at "d";refine⟨shN X,?_⟩;rw[j0,j0];by_cases z:p.1∈X
  ·rw[cn (by simpa using z)];exact hk _ _
  ·rw[cm (by simpa using z)];refine⟨shN Y,?_⟩;rw[fy (hv.resolve_left z)];exact hk _ _
 walk_at "d";refine⟨(prs g one other).map fun _=>true,by rw[jx];rfl,?_⟩;rw[show ((prs g one other).map fun _=>true).all id=true from by rw[all_map];exact all_eq_true.mpr fun _ _=>rfl];exact q
theorem BL{n:Nat}{X:List Nat}(hx:X.Pairwise (· < ·))(hl:∀i∈X,i<n):fD n (dA X)=true:=by
 show ((X.map fun k:Nat=>cq k).all (fF n)&&g9 ((X.map fun k:Nat=>cq k).map ival))=true;rw[ix];refine⟨?_,?_⟩
 ·rw[all_map,all_eq_true];intro k mk;have:=hl k mk;show (decide ((0:Int)<=(k:Nat))&&decide (((k:Nat):Int)<n))=true;rw[fy yw,fy yw];rfl
 ·unfold g9;rw[jx];refine fy ?_;rw[pp];exact hx.imp fun h=>by show ((_:Nat):Int)<((_:Nat):Int);omega
theorem Ik{g:Gap}{one other:List Int}{X Y:List Nat}(hc:Cvr (aN g one other) X Y):uM g one other (.tuple [dA X,dA Y])=true:=by
 have fl:(aN g one other).length=one.length:=cu ..;show (fD one.length (dA X)&&(fD other.length (dA Y)&&(prs g one other).all fun p=>dQ p.1 (dA X)||dQ p.2 (dA Y)))=true;rw[BL hc.xs fun i m=>by have:=hc.xl i m;omega,BL hc.ys (hc.yl _ jP),rf,rf,all_eq_true];intro p mp;obtain⟨a1,a2,a3⟩:=sJ mp;have hv:=hc.cv p.1 yw p.2 a3;rw[Bool.or_eq_true];have mm:∀(i:Nat) (Z:List Nat),dQ i (dA Z)=decide (i∈Z):=fun i Z=>j0 Z i;rw[mm,mm,decide_eq_true_eq,decide_eq_true_eq];exact hv
theorem B5{p q:Pr}:HT.lexLt [((p.1:Nat):Int),((p.2:Nat):Int)] [((q.1:Nat):Int),((q.2:Nat):Int)]=true↔ltP p q:=by
 rw[HT.lexLt_cons,HT.lexLt_cons];unfold ltP;by_cases e:p.1=q.1
 ·rw[cn yw];by_cases e2:p.2=q.2
  ·rw[cn yw];simp[HT.lexLt,e,e2]
  ·rw[cm yw,decide_eq_true_eq];omega
 ·rw[cm yw,decide_eq_true_eq];omega
theorem FO{α β:Type}{f:α->β}{l:List α}{k:Nat}:b9 (l.map f) none (some ((k:Nat):Int))=(l.take k).map f:=by
 have hs:∀(i d:Nat),HT.sIx (l.map f).length d (some (i:Nat))=min i (l.map f).length:=fun i d=>by
  unfold HT.sIx;simp;omega
 unfold b9;rw[hs,show HT.sIx (l.map f).length 0 none=0 from rfl,List.drop_zero,Nat.sub_zero,<- List.map_take,cu];congr 1;by_cases h:k<=l.length
 ·rw[Nat.min_eq_left h]
 ·rw[Nat.min_eq_right yw,lr (dh _),lr yw]
theorem Hz{g:Gap}{s t:Int}{one other:List Int}(hg:Gp2 g s t)(h1:one.length<=11)(h2:other.length<=11)(q:R (.d (.bool false)) []):sK [.d (aP g),.d (aG one),.d (aG other),.d (.list ((mtc g one other).map prD))] [] R:=by
 have ml:=At (g:=g) (one:=one) (other:=other) h2;have pl:=kH (g:=g) (one:=one) (other:=other) one.length;have pm:one.length*other.length<=11*11:=mul_le_mul h1 h2;have ak:(prs g one other).length<=121:=by unfold prs;omega
 obtain⟨m1,m2,m3⟩:=jO (g:=g) (one:=one) (other:=other) h2;have ac:=(iE _ _).mp (jK.mpr m1);rw[<- hX]at ac;have af:(mtc g one other).Pairwise ltP:=eT.sublist ac.1;have no:=fun P A x y M=>Gm (g:=g) (one:=one) (other:=other) (P:=P) (A:=A) (x:=x) (y:=y) (M:=M) h2;unfold sK;walk_at "n";generalize mtc g one other=F at ml m1 m2 m3 ac af no ⊢;rw[er9];refine jD (fun i δ S=>∃(x4 x5 x6 x7 x8 x9 ab:Option XV),S=[]/\δ=[some (.d (aP g)),some (.d (aG one)),some (.d (aG other)),some (.d (.list (F.map prD))),x4,x5,x6,x7,x8,x9,ab]) ⟨_,_,_,_,_,_,_,rfl,rfl⟩ ?_ ?_
 ·rintro i d _ _ N hi ⟨x4,x5,x6,x7,x8,x9,ab,rfl,rfl⟩ hN;obtain⟨k,e,rfl⟩:=gH hi;obtain⟨rfl,il⟩:=nU e;walk_at "d"
  walk_at "n"
  rw[FO];refine cmp2 (S0:=[]) (fun p:Pr=>.int (p.2:Nat)) rfl (F.take i) (by rw[qb];omega) ?_ ?_
  ·intro p mp u v acc R' hk;rw[eB];walk_at "d";exact hk _ _
  refine⟨[],_,rfl,rfl,?_⟩;walk_at "d"
  walk_at "n"
  refine cut (fun δ S=>S=[]/\∃L:Int,(∀p∈F.take i,((p.1:Nat):Int)<=L)/\(∀y:Nat,(∀p∈F.take i,p.1<y)->L<(y:Int))/\δ=[some (.d (aP g)),some (.d (aG one)),some (.d (aG other)),some (.d (.list (F.map prD))),some (.d (.int (i:Nat))),some (.d (.list ((F.take i).map fun p:Pr=>.int (p.2:Nat)))),some (.d (.int L)),x7,x8,x9,ab]) ?_ ?_
  ·intro N2 aj;walk_at "d";by_cases i0:i=0
   ·subst i0;rw[cm yw];exact aj _ _ ⟨rfl,-1,fun p m=>(by cases m),fun y _=>by omega,rfl⟩
   ·rw[cn yw];have aa:i-1<F.length:=yw
    refine⟨prD F[i-1],?_,?_⟩
    ·rw[show ((i:Int)-1)=((i-1:Nat):Int)from by omega];refine hU ?_;rw[ie,cw aa];rfl
    rw[eB];walk_at "d";have mt:F[i-1]∈F.take i:=by
     refine mem_iff_getElem?.mpr ⟨i-1,?_⟩;rw[List.getElem?_take_of_lt yw,cw aa]
    refine aj _ _ ⟨rfl,_,fun p m=>?_,fun y hy=>?_,rfl⟩
    ·obtain⟨k,ek⟩:=mem_iff_getElem?.mp m;have kl:k<i:=by
      have:=(List.getElem?_eq_some_iff.mp ek).1;rw[qb]at this;omega
     rw[List.getElem?_take_of_lt kl]at ek;obtain⟨k1,k2⟩:=List.getElem?_eq_some_iff.mp ek;by_cases ke:k=i-1
     ·subst ke;rw[k2];omega
     ·have:=pairwise_iff_getElem.mp af k (i-1) k1 aa yw;rw[k2]at this;rcases this with z|⟨z,_⟩<;>omega
    ·have:=hy _ mt;omega
  rintro _ _ ⟨rfl,L,L1,L2,rfl⟩
  walk_at "n"
  refine xK hg yw yw (.inl ?_);walk_at "d";have al:gj (.list ((F.take i).map fun p:Pr=>cq (p.2:Nat)))=true:=(l0 (oK fun _ _=>(fQ:Shp 0 _))).ok;have ai:∀j:Nat,(((F.take i).map fun p:Pr=>cq (p.2:Nat)).any fun y=>kh y (.int (j:Nat)))=decide (j∈(F.take i).map (·.2)):=fun j=>by
   have:=j0 ((F.take i).map (·.2)) j;rw[jx]at this;exact this
  refine cmf2 (S0:=[]) prD (fun p:Pr=>decide (L<((p.1:Nat):Int))&&decide (p.2∉(F.take i).map (·.2))) rfl (prs g one other) yw ?_ ?_
  ·intro p mp u v acc R' hk;rw[eB];walk_at "d";by_cases z:L<((p.1:Nat):Int)
   ·rw[cn z];rw[fy z,rf]at hk;refine⟨al,?_⟩;rw[ai,show (!decide (p.2∈(F.take i).map (·.2)))=decide (p.2∉(F.take i).map (·.2))from by simp];refine hk _ _ fun _ T hT=>?_;walk_at "d";exact hT
   ·rw[cm z];rw[fw z,qf]at hk;exact hk _ _ fun h=>by cases h
  refine⟨[],_,rfl,rfl,?_⟩;have ae:∀p∈(prs g one other).filter (fun p:Pr=>decide (L<((p.1:Nat):Int))&&decide (p.2∉(F.take i).map (·.2))),p∈prs g one other/\∀q∈F.take i,q.1<p.1/\q.2≠p.2:=fun p mp=>by
   obtain⟨z1,z2⟩:=mem_filter.mp mp;rw[ix,decide_eq_true_eq,decide_eq_true_eq]at z2;refine⟨z1,fun q mq=>⟨?_,fun e=>z2.2 (mem_map.mpr ⟨q,mq,e⟩)⟩⟩;have:=L1 q mq;omega
  have ll:((prs g one other).filter (fun p:Pr=>decide (L<((p.1:Nat):Int))&&decide (p.2∉(F.take i).map (·.2)))).length<=121:=lw (length_filter_le _ _) ak;generalize (prs g one other).filter (fun p:Pr=>decide (L<((p.1:Nat):Int))&&decide (p.2∉(F.take i).map (·.2)))=left at ae ll ⊢;walk_at "d";have eF:F=F.take i++F[i]::F.drop (i+1):=by
   rw[<- nc il,oq]
  have tl:(F.take i).length=i:=by rw[qb];omega
  refine jD (fun k δ S=>∃(x8 x9 ab:Option XV),S=[]/\δ=[some (.d (aP g)),some (.d (aG one)),some (.d (aG other)),some (.d (.list (F.map prD))),some (.d (.int (i:Nat))),some (.d (.list ((F.take i).map fun p:Pr=>.int (p.2:Nat)))),some (.d (.int L)),some (.d (.list (left.map prD))),x8,x9,ab]) ⟨_,_,_,rfl,rfl⟩ ?_ ?_
  ·rintro k d _ _ N3 an ⟨am,ao,ag,rfl,rfl⟩ ah;obtain⟨y,ey,rfl⟩:=gH an;obtain⟨yp,yP⟩:=ae y (bw ey);rw[eB];walk_at "d";refine⟨prD F[i],hU (by rw[ie,cw il];rfl),?_⟩;rw[eB];walk_at "d";refine⟨[((y.1:Nat):Int),((y.2:Nat):Int)],rfl,[((F[i].1:Nat):Int),((F[i].2:Nat):Int)],rfl,?_⟩;by_cases aa:HT.lexLt [((y.1:Nat):Int),((y.2:Nat):Int)] [((F[i].1:Nat):Int),((F[i].2:Nat):Int)]=true
   ·rw[cn aa];have yx:=B5.mp aa
    walk_at "n"
    refine cmf2 (S0:=[]) prD (fun p:Pr=>decide (((y.1:Nat):Int)<((p.1:Nat):Int))&&decide (p.2≠y.2)) rfl left yw ?_ ?_
    ·intro p mp u v acc R' hk;rw[eB];walk_at "d";by_cases z:((y.1:Nat):Int)<((p.1:Nat):Int)
     ·rw[cn z];rw[fy z,rf]at hk;rw[show (!decide (((p.2:Nat):Int)=((y.2:Nat):Int)))=decide (p.2≠y.2)from by simp only[Int.natCast_inj,ne_eq,decide_not]];refine hk _ _ fun _ T hT=>?_;walk_at "d";exact hT
     ·rw[cm z];rw[fw z,qf]at hk;exact hk _ _ fun h=>by cases h
    refine⟨[],_,rfl,rfl,?_⟩;walk_at "d";refine LS (n0:=one.length) (m:=other.length) h1 h2 (fun p mp=>?_) (lw (length_filter_le _ _) yw) fun M hM=>?_
    ·have:=(ae p (mem_filter.mp mp).1).1;obtain⟨a1,a2,_⟩:=sJ this;exact⟨a1,a2⟩
    have ap:=no (F.take i) (F.drop (i+1)) F[i] y M eF yp yx yP ⟨hM.kn,hM.vn,fun p mp=>?_⟩
    ·walk_at "d";rw[cm yw];exact ah _ _ ⟨_,_,_,rfl,rfl⟩
    ·obtain⟨z1,z2⟩:=mem_filter.mp (hM.ed p mp);obtain⟨z3,z4⟩:=ae _ z1;rw[ix,decide_eq_true_eq,decide_eq_true_eq]at z2;exact mem_filter.mpr ⟨z3,fy ⟨z4,by have:=z2.1;omega,z2.2⟩⟩
   ·rw[cm aa];exact ah _ _ ⟨_,_,_,rfl,rfl⟩
  ·rintro _ _ ⟨am,ao,ag,rfl,rfl⟩;exact hN _ _ ⟨_,_,_,_,_,_,_,rfl,rfl⟩
 ·rintro _ _ ⟨x4,x5,x6,x7,x8,x9,ab,rfl,rfl⟩;walk_at "d";exact q
theorem yL{g:Gap}{s t:Int}{one other:List Int}(hg:Gp2 g s t)(h1:one.length<=11)(h2:other.length<=11)(q:R (.d (.bool true)) []):lP [.d (aP g),.d (aG one),.d (aG other)] [] R:=by
 have ml:=At (g:=g) (one:=one) (other:=other) h2;have pl:=kH (g:=g) (one:=one) (other:=other) one.length;have pm:one.length*other.length<=11*11:=mul_le_mul h1 h2;have ai:(prs g one other).length<=121:=by unfold prs;omega
 obtain⟨m1,m2,m3⟩:=jO (g:=g) (one:=one) (other:=other) h2;have z:=(iE _ _).mp (jK.mpr m1);rw[<- hX]at z;obtain⟨f1,f2,f3⟩:=m1.facts;have ab:(mtc g one other).Pairwise ltP:=eT.sublist z.1;unfold lP;walk_at "d"
 walk_at "n"
 refine uD (one:=one) (other:=other) rfl rfl hg yw yw (.inl ?_);walk_at "d"
 walk_at "n"
 refine xK hg yw yw (.inl ?_);walk_at "d";walk_at "n";have ah:gj (.list ((mtc g one other).map prD))=true:=(l0 (oK fun c _=>(wU (u9 fQ fQ):Shp 1 (prD c)))).ok;have af:∀p:Pr,gj (prD p)=true:=fun p=>(wU (u9 fQ fQ):Shp 1 (prD p)).ok;have aa:∀p q:Pr,kh (prD p) (prD q)=decide (p=q):=fun p q=>by
  have e:kh (prD p) (prD q)=(decide (((p.1:Nat):Int)=((q.1:Nat):Int))&&(decide (((p.2:Nat):Int)=((q.2:Nat):Int))&&true)):=rfl;rw[e,Bool.and_true,ut,ix,decide_eq_true_eq,decide_eq_true_eq,decide_eq_true_eq];constructor
  ·rintro⟨a,b⟩;exact Prod.ext yw yw
  ·rintro rfl;exact⟨rfl,rfl⟩
 have eF:(prs g one other).filter (fun p=>decide (p∈mtc g one other))=mtc g one other:=by
  refine t9 (r:=ltP) (fun {a b} h1 h2=>f9 _ (oP _ _ _ h1 h2)) (eT.sublist jb) ab fun x=>?_;rw[mem_filter,decide_eq_true_eq];exact⟨fun h=>h.2,fun h=>⟨z.1.subset h,h⟩⟩
 refine cmf1 (S0:=[]) prD (fun p:Pr=>decide (p∈mtc g one other)) rfl (prs g one other) yw ?_ ?_
 ·intro p mp u acc R' hk;walk_at "d";refine⟨af p,ah,?_⟩;rw[show ((mtc g one other).map prD).any (fun y=>kh y (prD p))=decide (p∈mtc g one other)from ?_]
  ·refine hk _ fun _ T hT=>?_;walk_at "d";exact hT
  ·rw[any_map,ut,any_eq_true,decide_eq_true_eq];constructor
   ·rintro⟨x,mx,e⟩;have:kh (prD x) (prD p)=true:=e;rw[aa,decide_eq_true_eq]at this;exact this▸mx
   ·intro h;exact⟨p,h,by show kh (prD p) (prD p)=true;rw[aa];simp⟩
 walk_at "d";rw[eF];refine⟨(mtc g one other).map fun p=>[((p.1:Nat):Int),((p.2:Nat):Int)],by rw[jx];rfl,by rw[cu];omega,fun ns m=>?_,fun ac ae ag=>?_⟩
 ·obtain⟨p,_,rfl⟩:=mem_map.mp m;simp
 have em:ac=(mtc g one other).map fun p=>[((p.1:Nat):Int),((p.2:Nat):Int)]:=by
  have hl:((mtc g one other).map fun p=>[((p.1:Nat):Int),((p.2:Nat):Int)]).Pairwise fun x y=>HT.lexLt x y=true:=by
   rw[pp];exact ab.imp fun h=>B5.mpr h
  refine Me ae ag ?_ hl fun x=>Iff.rfl;refine hl.imp fun {a b} h e=>?_;rw[e,HT.lexLt_self]at h;cases h
 subst em;rw[jx,show (rQ∘fun p:Pr=>[((p.1:Nat):Int),((p.2:Nat):Int)])=prD from rfl];refine Jh ?_;walk_at "d";have bd:∀p∈mtc g one other,p.1<one.length/\p.2<other.length:=fun p mp=>by
  obtain⟨a1,a2,_⟩:=sJ (z.1.subset mp);exact⟨a1,a2⟩
 refine Lu (n:=one.length) (m:=other.length) yw yw yw f2 f3 bd ?_;walk_at "d"
 walk_at "n"
 refine G5 hg h1 h2 fun X Y hc=>?_;walk_at "d";walk_at "n";refine KS hg h1 h2 hc ?_;walk_at "d";refine Kf hg yw yw ?_ ?_
 ·intro x y e;cases e;have fl:(aN g one other).length=one.length:=cu ..;have xl:=fH (m:=one.length) (hc.xs.imp fun h=>(by omega:_≠_)) fun i m=>by have:=hc.xl i m;omega
  have yl:=fH (m:=other.length) (hc.ys.imp fun h=>(by omega:_≠_)) (hc.yl _ jP);refine⟨fun ds e=>?_,fun ds e=>?_⟩
  ·rw[iB]at e;cases e;rw[cu];omega
  ·rw[iB]at e;cases e;rw[cu];omega
 rw[Ik hc];have ct:=hc.ct;rw[iB,iB];walk_at "d";rw[cn yw];refine Hz hg h1 h2 ?_;walk_at "d";exact q
theorem BE{g g':Gap}{one other q:List Int}(h2:other.length<=11)(hs:∀p∈prs g one other,p∈prs g' q other):(mtc g one other).length<=(mtc g' q other).length:=by
 obtain⟨m1,_,_⟩:=jO (g:=g) (one:=one) (other:=other) h2;obtain⟨_,m2,_⟩:=jO (g:=g') (one:=q) (other:=other) h2;have z:=(iE _ _).mp (jK.mpr m1);rw[<- hX]at z;have s1:(mtc g one other).Sublist (prs g' q other):=rT f9 oP eT (eT.sublist z.1) fun p mp=>hs p (z.1.subset mp);have mS:Ma 0 (aN g' q other) [] (mtc g one other):=jK.mp ((iE _ _).mpr (by rw[<- hX];exact⟨s1,z.2⟩));have:=mE (n:=12) jP yw mS;rw[vK]at this;omega
theorem HM{g:Gap}{one other:List Int}{y:Int}(h2:other.length<=11):(mtc g (one++[y]) other).length<=(mtc g one other).length+1:=by
 obtain⟨m1,_,_⟩:=jO (g:=g) (one:=one++[y]) (other:=other) h2;obtain⟨_,m2,_⟩:=jO (g:=g) (one:=one) (other:=other) h2;have q:=(iE _ _).mp (jK.mpr m1);rw[<- hX]at q;obtain⟨_,f2,_⟩:=m1.facts;generalize mtc g (one++[y]) other=F at q f2 ⊢;have aa:∀p∈F,p.1<one.length+1:=fun p mp=>by
  obtain⟨a1,_,_⟩:=jF.mp (q.1.subset mp);rw[fu,iy]at a1;exact a1
 have fs:((F.filter fun p=>decide (p.1<one.length))).Sublist (prs g one other):=by
  refine rT f9 oP eT ((eT.sublist q.1).sublist jb) fun p mp=>?_;obtain⟨z1,z2⟩:=mem_filter.mp mp;have z3:=jf z2;obtain⟨_,a2,a3⟩:=jF.mp (q.1.subset z1);refine jF.mpr ⟨z3,a2,?_⟩;rw[fj,gm z3,<- fj]at a3;exact a3
 have ff:Fr (F.filter fun p=>decide (p.1<one.length)):=qm jb q.2;have mS:Ma 0 (aN g one other) [] (F.filter fun p=>decide (p.1<one.length)):=jK.mp ((iE _ _).mpr (by rw[<- hX];exact⟨fs,ff⟩));have nm:=mE (n:=12) jP yw mS;rw[vK]at nm;have fl:ow (α:=Pr) F=ow (α:=Pr) (F.filter fun p=>decide (p.1<one.length))+ow (α:=Pr) (F.filter fun p=>!decide (p.1<one.length)):=xW _ F;have ac:ow (α:=Pr) (F.filter fun p=>decide (p.1<one.length))<=nu 12 (aN g one other):=nm;have z:(F.filter fun p=>!decide (p.1<one.length)).length<=1:=by
  have:=cI (l:=(F.filter fun p=>!decide (p.1<one.length)).map (·.1)) (l':=[one.length]) (f2.sublist (List.Sublist.map _ jb)) fun x mx=>by
   obtain⟨p,mp,rfl⟩:=mem_map.mp mx;obtain⟨z1,z2⟩:=mem_filter.mp mp;have z3:¬ p.1<one.length:=by simpa using z2
   have:=aa p z1;rw[tz];omega
  rwa [cu]at this
 have ab:ow (α:=Pr) (F.filter fun p=>!decide (p.1<one.length))<=1:=z;show ow (α:=Pr) F<=_
 clear nm z
 omega
def wdr5(g:Gap)(a b:Int):Gap:=⟨g.ts,g.lo-a,g.hi+b⟩
theorem GM{g:Gap}{s t a b:Int}(h:Gp2 g s t)(hw:-10 ^ 59<=g.lo/\g.hi<=10 ^ 59)(a0:0<=a)(a1:a<1000)(b0:0<=b)(b1:b<1000):Gp2 (wdr5 g a b) s t:=by
 have k:(10:Int) ^ 60=10*10 ^ 59:=by decide
 have k1:(1000:Int)<10 ^ 59:=by decide
 have h3:=h.le;refine⟨h.ts,h.s3,h.t3,?_,?_,?_⟩
 ·show g.lo-a<=g.hi+b;omega
 ·show -10 ^ 60<=g.lo-a;omega
 ·show g.hi+b<=10 ^ 60;omega
theorem Kz{g:Gap}{a b:Int}{one other:List Int}(a0:0<=a)(b0:0<=b):∀p∈prs g one other,p∈prs (wdr5 g a b) one other:=fun p mp=>by
 obtain⟨h1,h2,h3⟩:=jF.mp mp;refine jF.mpr ⟨h1,h2,?_⟩;unfold dU at h3 ⊢;have:=jf h3;refine fy ?_;show g.lo-a<=worth g.ts _/\worth g.ts _<=g.hi+b;omega
theorem Jn{g:Gap}{one other:List Int}{y:Int}:∀p∈prs g one other,p∈prs g (one++[y]) other:=fun p mp=>by
 obtain⟨h1,h2,h3⟩:=jF.mp mp;refine jF.mpr ⟨by rw[fu];omega,h2,?_⟩;rw[fj,gm h1,<- fj];exact h3
theorem Is{g:Gap}{s t:Int}{one other:List Int}{rest:DEnds->XE->Sto->Prop}{E:DEnds}{x0 x1 x2 x6 x7 x8:Option XV}{S:Sto}(hg:Gp2 g s t)(h1:one.length<=11)(h2:other.length<=11)(h:∀n:Nat,n=(mtc g one other).length->rest E [x0,x1,x2,some (.d (aP g)),some (.d (aG one)),some (.d (aG other)),some (.d (.int (n:Nat))),x7,x8] S):
  aA (aE (dCB aS (zc (aF 3 jB (zc (zh 3) (zc (zh 4) (zc (zh 5) zu)))) zu)) (zm 6)) rest E [x0,x1,x2,some (.d (aP g)),some (.d (aG one)),some (.d (aG other)),x6,x7,x8] S:=by
 walk_at "n";refine uD (one:=one) (other:=other) rfl rfl hg yw yw (.inl ?_);walk_at "d";exact h _ rfl
theorem Iu{g:Gap}{p:List bt}{rest:DEnds->XE->Sto->Prop}{E:DEnds}{x0 x1 x4 x5 x6 x7 x8:Option XV}(hp:bX p)(h:∀(a b:Int) p',0<=a->a<3->0<=b->b<3->bX p'->rest E [x0,x1,some (.l 0),some (.d (aP g)),x4,x5,x6,some (.d (aP (wdr5 g a b))),x8] [p']):
  aA (aE (aL (zc (dOp dIx (zh 3) (dC (cq 0))) (zc (dOp (dI0 fun i j=>i-j) (dOp dIx (zh 3) (dC (cq 1))) (aU 0 2 zA (zc (zh 2) (zc (dC (cq 3)) zu)))) (zc (dOp aR (dOp dIx (zh 3) (dC (cq 2))) (aU 0 2 zA (zc (zh 2) (zc (dC (cq 3)) zu)))) zu)))) (zm 7)) rest E [x0,x1,some (.l 0),some (.d (aP g)),x4,x5,x6,x7,x8] [p]:=by
 refine seq1 ?_;rw[u6];walk_at "d";refine zT hp dz (by decide +kernel) fun r1 p1 r0 rr aa=>?_;walk_at "d";refine zT aa dz (by decide +kernel) fun r2 p2 r3 q z=>?_;walk_at "d";exact h r1 r2 p2 r0 rr r3 q z
theorem L3{one other:List Int}{rest:DEnds->XE->Sto->Prop}{E:DEnds}{x0 x1 x2 x3 x6 x7 x8:Option XV}{S:Sto}(h1:one.length<=11)(h2:other.length<=11)(h:∀y:Int,rest E [x0,x1,x2,x3,some (.d (aG one)),some (.d (aG other)),x6,x7,some (.d (aG (one++[y])))] S):
  aA (aE (dOp aR (zh 4) (dSl hW (dOp aR (dOp aR (zh 5) (zh 4)) (aL (zc (dC (cq 0)) zu))) eX (fA (dC (cq 1))))) (zm 8)) rest E [x0,x1,x2,x3,some (.d (aG one)),some (.d (aG other)),x6,x7,x8] S:=by
 obtain⟨y,ey⟩:∃y:Int,(other++one++[0]).take 1=[y]:=by
  cases ho:other++one++[0]with
  |nil=>simp at ho
  |cons y r=>exact⟨y,rfl⟩
 have h':=h y;rw[gE,gE,gE,jk]at h';refine seq1 ?_;rw[gE,gE];walk_at "d";have ec:b9 (other.map cq++one.map cq++[cq 0]) none (some 1)=[cq y]:=by
  have:=FO (f:=cq) (l:=other++one++[0]) (k:=1);rw[ey,jk,jk]at this;exact this
 rw[ec];exact⟨yw,yw,by rw[iy];omega,h'⟩
theorem Lx(a:Addr)(n:Int):xJ (GA a 8) ((some (.o (.ref a))::bx 8 none).set 1 (some (.d (.int n)))) []:=by
 unfold xJ;walk_at "d"
 walk_at "n"
 refine Hu fun p hp=>?_;walk_at "d"
 walk_at "n"
 refine IW hp dz dz fun g s t one other p1 hg h1 h2 l1 l2 hw aa=>?_;walk_at "d";have o1:one.length<=10:=yw
 have o2:other.length<=10:=yw
 walk_at "n";refine yL hg yw yw ?_;walk_at "d";refine yL hg yw yw ?_;walk_at "d";refine Is hg yw yw fun hn en=>?_;refine Iu aa fun wa wb p2 a0 a1 b0 b1 ab=>?_;have q:=GM hg hw a0 yw b0 yw (b:=wb);have ge:=BE (other:=other) yw (Kz (g:=g) (one:=one) a0 b0 (b:=wb));walk_at "n";refine uD (one:=one) (other:=other) rfl rfl q yw yw (.inl ?_);walk_at "d";rw[cm yw];refine L3 yw yw fun y=>?_;have g1:=BE (other:=other) yw (Jn (g:=g) (one:=one) (other:=other) (y:=y));have g2:=HM (g:=g) (one:=one) (other:=other) (y:=y) yw;rw[gE one];walk_at "d";by_cases hl:one.length<10
 ·rw[cn yw];refine uD (one:=one++[y]) (other:=other) rfl rfl hg (by rw[fu,iy];omega) yw (.inl ?_);walk_at "d";refine⟨(l0 (u9 fQ fQ):Shp 1 _).ok,?_⟩;have e3:(mtc g (one++[y]) other).length=hn\/(mtc g (one++[y]) other).length=hn+1:=yw
  generalize (mtc g (one++[y]) other).length=z at e3;rw[cm]
  ·trivial
  ·rw[Bool.not_eq_false];show (decide ((hn:Int)=(z:Nat))||(decide ((hn:Int)+1=(z:Nat))||false))=true;rcases e3 with rfl|rfl
   ·rw[fy rfl];rfl
   ·rw[fy (show (hn:Int)+1=((hn+1:Nat):Int)from by omega),Bool.true_or,Bool.or_true]
 ·rw[cm yw];trivial
def gap50:Gap:=⟨[(0,1),(1,-1)],0,0⟩
theorem gp50:Gp2 gap50 1 (-1):=⟨rfl,⟨by decide,by decide,by decide⟩,⟨by decide,by decide,by decide⟩,by decide,by decide,by decide⟩
theorem M8:(PyData.tuple [.tuple [.tuple [.int 0,.int 1],.tuple [.int 1,.int (-1)]],.int 0,.int 0])=aP gap50:=rfl
def gap50b:Gap:=⟨[(0,1),(1,1)],0,0⟩
theorem gp50b:Gp2 gap50b 1 1:=⟨rfl,⟨by decide,by decide,by decide⟩,⟨by decide,by decide,by decide⟩,by decide,by decide,by decide⟩
theorem Hq:(PyData.tuple [.tuple [.tuple [.int 0,.int 1],.tuple [.int 1,.int 1]],.int 0,.int 0])=aP gap50b:=rfl
theorem GL(a:Addr):wA (C4 a 8) (some (.o (.ref a))::bx 8 none) []:=by
 unfold wA;walk_at "d";rw[M8,Hq];refine yL (one:=[]) (other:=[5]) gp50 dz dz ?_;walk_at "d";refine Bo (one:=[0]) (other:=[]) rfl rfl gp50b dz dz (.inl ?_);rw[show prs gap50b [0] []=[]from rfl];walk_at "d";refine⟨rfl,?_⟩;rw[cm dz];trivial
end
end My
namespace My
open PySem L2
def top (i : Nat) : Stmt := PySem.Challenge.pw_gaugewright_k50_whole_as_many_as_a_cover.main.body.getD i (.Pass ⟨0, 0, 0, 0⟩)
abbrev Cb:Stmt:=top 18
theorem IG:FnScope ["script","k"] ["script","k"] (zj Cb):=fsd
abbrev Cj:Stmt:=top 20
theorem Fi:FnScope ["cell","left"] ["cell"] (zj Cj):=fsd
abbrev CC:Stmt:=top 19
theorem E3:FnScope ["seed"] ["seed"] (zj CC):=fsd
abbrev D4:Stmt:=top 21
theorem BZ:FnScope ["pen","many","found"] ["pen","many"] (zj D4):=fsd
abbrev xG:Stmt:=top 24
theorem Ds:FnScope ["pen","most","base","wide","many"] ["pen","most","base","wide"] (zj xG):=fsd
abbrev Fq:Stmt:=top 23
theorem B9:FnScope ["pen","way"] ["pen"] (zj Fq):=fsd
abbrev vV:Stmt:=top 25
theorem iJ:FnScope ["pen","most","bases","wide","s","t","far","low","high","one"] ["pen","most"] (zj vV):=fsd
abbrev xZ:Stmt:=top 3
theorem Gx:FnScope ["gap","one"] ["gap","one"] (zj xZ):=fsd
abbrev Cg:Stmt:=top 4
theorem Kx:FnScope ["gap","one"] ["gap","one"] (zj Cg):=fsd
abbrev vU:Stmt:=top 8
theorem HS:FnScope ["gap","number","other"] ["gap","number","other"] (zj vU):=fsd
abbrev A1:Stmt:=top 7
theorem K9:FnScope ["gap","one","other"] ["gap","one","other"] (zj A1):=fsd
abbrev F8:Stmt:=top 13
theorem D9:FnScope ["rows","i","matches","asked","j"] ["rows","i","matches","asked"] (zj F8):=fsd
abbrev Cv:Stmt:=top 12
theorem w6:FnScope ["rows","matches","i"] ["rows"] (zj Cv):=fsd
abbrev wG:Stmt:=top 11
theorem Ls:FnScope ["row","used"] ["row","used"] (zj wG):=fsd
abbrev wO:Stmt:=top 10
theorem vQ:FnScope ["rows","i","used","wanted","j","later"] ["rows","i","used","wanted"] (zj wO):=fsd
abbrev De:Stmt:=top 9
theorem kG:FnScope ["gap","one","other","rows","most","told","used","i","j"] ["gap","one","other"] (zj De):=fsd
abbrev Dc:Stmt:=top 26
theorem uP:FnScope ["gap","here","there","terms","low","high"] ["gap","here","there"] (zj Dc):=fsd
abbrev DU:Stmt:=top 27
theorem tW:FnScope ["gap","one","other","found","i","j"] ["gap","one","other"] (zj DU):=fsd
abbrev u8:Stmt:=top 14
theorem jG:FnScope ["gap","one","other","rows","matches","left","seen","others","i","j"] ["gap","one","other"] (zj u8):=fsd
abbrev CQ:Stmt:=top 22
theorem Gq:FnScope ["found"] ["found"] (zj CQ):=fsd
abbrev CS:Stmt:=top 28
theorem EU:FnScope ["found","due","one"] ["found","due"] (zj CS):=fsd
abbrev tV:Stmt:=top 29
theorem AS:FnScope ["found","ones","others"] ["found"] (zj tV):=fsd
abbrev AH:Stmt:=top 30
theorem Gg:FnScope ["side","box"] ["side","box"] (zj AH):=fsd
abbrev AZ:Stmt:=top 31
theorem Mc:FnScope ["gap","one","other","covering"] ["gap","one","other","covering"] (zj AZ):=fsd
abbrev Fu:Stmt:=top 1
theorem Lz:FnScope ["thing"] ["thing"] (zj Fu):=fsd
abbrev uH:Stmt:=top 16
theorem IK:FnScope ["box","thing"] ["box","thing"] (zj uH):=fsd
abbrev wY:Stmt:=top 6
theorem uV:FnScope ["gap","one","other","found","i","partners"] ["gap","one","other"] (zj wY):=fsd
abbrev AQ:Stmt:=top 15
theorem MS:FnScope ["gap","one","other","thing"] ["gap","one","other","thing"] (zj AQ):=fsd
abbrev EA:Stmt:=top 34
theorem xU:FnScope ["rest","i","mates","seen","a","j"] ["rest","i","mates","seen"] (zj EA):=fsd
abbrev wQ:Stmt:=top 33
theorem AY:FnScope ["rest","mates","i"] ["rest"] (zj wQ):=fsd
abbrev qY:Stmt:=top 32
theorem zW:FnScope ["gap","one","other","found","at","gone","last","left","i","j","rest"] ["gap","one","other","found"] (zj qY):=fsd
abbrev AX:Stmt:=top 35
theorem vG:FnScope ["gap","one","other","found","due","covering"] ["gap","one","other"] (zj AX):=fsd
abbrev s_law:Stmt:=top 36
theorem hZ:FnScope ["script","cell","pen","gap","one","other","here","wider","more"] ["script"] (zj s_law):=fsd
structure Txt(mg:Str->Option bo):Prop where
 n_len:mg "len" = none
 n_max:mg "max" = none
 n_int:mg "int" = none
 n_tuple:mg "tuple" = none
 n_range:mg "range" = none
 n_abs:mg "abs" = none
 n_sum:mg "sum" = none
 n_enumerate:mg "enumerate" = none
 n_list:mg "list" = none
 n_sorted:mg "sorted" = none
 n_isinstance:mg "isinstance" = none
 n_bool:mg "bool" = none
 n_set:mg "set" = none
 n_all:mg "all" = none
 n_zip:mg "zip" = none
structure Dds(K:fe)(mg:Str->Option bo):Prop where
 a0:Dd K mg "_law_cell_at" Cb ["script","k"]
 a1:Dd K mg "_law_pen" Cj ["cell"]
 a2:Dd K mg "_law_next" CC ["seed"]
 a3:Dd K mg "_law_draw" D4 ["pen","many"]
 a4:Dd K mg "_law_box" xG ["pen","most","base","wide"]
 a5:Dd K mg "_law_number" Fq ["pen"]
 a6:Dd K mg "_law_boxes" vV ["pen","most"]
 a7:Dd K mg "worth_of" xZ ["gap","one"]
 a8:Dd K mg "keeps" Cg ["gap","one"]
 a9:Dd K mg "fitting_pieces" vU ["gap","number","other"]
 a10:Dd K mg "partners_of" A1 ["gap","one","other"]
 a11:Dd K mg "find_match" F8 ["rows","i","matches","asked"]
 a12:Dd K mg "most_matched" Cv ["rows"]
 a13:Dd K mg "free_partners" wG ["row","used"]
 a14:Dd K mg "least_partner" wO ["rows","i","used","wanted"]
 a15:Dd K mg "matched" De ["gap","one","other"]
 a16:Dd K mg "_law_fits" Dc ["gap","here","there"]
 a17:Dd K mg "_law_due_pairs" DU ["gap","one","other"]
 a18:Dd K mg "cover_of" u8 ["gap","one","other"]
 a19:Dd K mg "_law_whole" CQ ["found"]
 a20:Dd K mg "_law_pairs_are" CS ["found","due"]
 a21:Dd K mg "_law_free" tV ["found"]
 a22:Dd K mg "_law_rising" AH ["side","box"]
 a23:Dd K mg "_law_covers" AZ ["gap","one","other","covering"]
 a24:Dd K mg "is_whole" Fu ["thing"]
 a25:Dd K mg "are_rising_pieces" uH ["box","thing"]
 a26:Dd K mg "pairs" wY ["gap","one","other"]
 a27:Dd K mg "cover_holds" AQ ["gap","one","other","thing"]
 a28:Dd K mg "_law_gives" EA ["rest","i","mates","seen"]
 a29:Dd K mg "_law_most" wQ ["rest"]
 a30:Dd K mg "_law_lesser" qY ["gap","one","other","found"]
 a31:Dd K mg "_law_right" AX ["gap","one","other"]
section
variable {P:gf}{w:iu}{K:fe}{mg:Str->Option bo}{base:Heap}
local macro_rules|`(tactic|walk_at "r")=>do
 let ts<-("zg 0,zf 2,zr 0,zM 0,zt 0,bA 1,fV 0,zQ 2,cU 2,bU 2,zQ 0,dL 0,cL 0,iC 0,gF 3,iA 0,gW 1,lJ 2,i8 1,zf 0,zH 2,bL 1,Ck 0,AE 0,gJ 0,GU 0,HE 0,Ij 0,lC 2,tN 0,bA 0,cU 0,C2 1,dZ 0,bP 1,oM 1,Cq 0,dR 1,mG 0,lV 0,lW 0,lW 3,tP 1,tF 3,Ab 2,yI 0,gF 0,wN 0,tO 1,LM 0,GK 1,lC 0,i8 0,gW 0,HF 0,Kp 2,IC 0,wF 5,wP 0,vY 0,tP 0,tF 0,Ie 0,uW 2,m8 0,Jp 0,G2 0,GH 0,LP 1,BG 0,Ej 0,DJ 0,Ff 0,Jl 2,KM 1,FK 0,EC 0,Gf 2,K6 0,Fh 0,bL 0,Kw 0,GO 0,Jz 0,Cc 1,EF 0,bP 0,E8 0,FY 0,p9 2,rB 0,IL 0,bU 1,Em 0,IA 0,nQ 4,AI 0,nW 0,rG 1,aM 3,bR 2,eL 1,bR 0".splitOn ",").toArray.mapM fun x=>do
  let i:=x.splitOn " "
  let h<-`(term|?_)
  let hs:=Array.replicate ((i.getD 1 "").toNat!) h
  `(Lean.Parser.Tactic.tacticSeq|refine $(Lean.mkIdent (i.getD 0 "").toName) $hs*)
 `(tactic|repeat' (first|with_reducible (first $[|$ts:tacticSeq]*)|rfl))
theorem IZ(T:Txt mg:=by assumption)(dd:Dds K mg:=by assumption):Df P w K mg base "_law_cell_at" ["script","k"] 1 (sp2 (A9 K)):=by
 refine Df.of2 dd.a0 IG (fun v u=>[some v,some u]) (fun _ _=>rfl) fun f z A outer s H v u Q E hr h=>?_;obtain⟨a,ns,i,rfl,rfl,hS,h0,q⟩:=h;refine⟨_,(zi (aT (zG iU (pv 1) (zo Ib (by rfl) T.n_len aV (za (pv 0) zd)) (nomark _)) (zn (zy (aH Bs (pv 0) (pv 1) (fun _ _=>rfl)))) zP) (zn (zy zk))),?_⟩;simp only[cV,pX,tQ,tOp,KJ,tCB,cX,iS,A0,tC,vJ,Am,rq,qh];refine⟨a,_,rfl,.inl hS,?_⟩;simp only[Am,KK,decide_eq_true_eq];refine ite2 (fun hi=>?_) (fun _=>q 0);obtain⟨n,e⟩:=JS h0 hi;exact⟨a,_,i,_,rfl,rfl,hS,e,q n⟩
variable (T:Txt mg:=by assumption) (dd:Dds K mg:=by assumption)
include T dd
theorem Ks:Df P w K mg base "_law_pen" ["cell"] 1 (spN ["cell"] AU):=by
 exact Df.dN dd.a1 Fi 1 rfl fun f z A outer s H E hr=>⟨_,_,(zi (zV (i:=1) Fi.nd rfl lo (zo (IH rfl) (by rfl) T.n_max L8 (za (pv 0) (za (zS gM zk (pv 0)) zd)))) (zn (zy (fC (za (pv 1) (za (mK JX (by rfl) T.n_int yX (za (fR Lf (pv 1) (zS tE zk zk) (nomark _)) zd)) (za (zS qZ (pv 1) zk) zd))))))),(by walk_at "r"),fun xs S R q=>q⟩
theorem B7:Df P w K mg base "_law_next" ["seed"] 1 (spN ["seed"] pW):=by
 exact Df.dN dd.a2 E3 0 rfl fun f z A outer s H E hr=>⟨_,_,(zi (zV (i:=0) E3.nd rfl lo (zS qZ (zS bO (pv 0) zk) zk)) (zn (zy (zS qZ (zS bO (zS bO (zS eZ (pv 0) (pv 0)) (zS eZ zk (pv 0))) zk) zk)))),(by walk_at "r"),fun xs S R q=>q⟩
theorem zZ:Df P w K mg base "_law_draw" ["pen","many"] 2 (spN ["pen","many"] zA):=by
 exact Df.dN dd.a3 BZ 1 rfl fun f z A outer s H E hr=>⟨_,_,(zi (aT (zG (f8 hr.units) (aH zJ (pv 0) zk (fun _ _=>rfl)) zk (nomark _)) (zi (zV (i:=2) BZ.nd rfl lo (zS qZ (aH zJ (pv 0) zk (fun _ _=>rfl)) (pv 1))) (zi (qL (zS CI (aH zJ (pv 0) zk (fun _ _=>rfl)) (pv 1)) (Ai (pv 0) zk ER)) (zn (zy (pv 2))))) zP) (zi (qL (zw B7 hr dz (za (zS bO (zw B7 hr dz (za (aH zJ (pv 0) zk (fun _ _=>rfl)) zd)) zk) zd)) (Ai (pv 0) zk ER)) (zn (zy (zS qZ (zS CI (aH zJ (pv 0) zk (fun _ _=>rfl)) zk) (pv 1)))))),(by walk_at "r"),fun xs S R q=>q⟩
theorem EO:Df P w K mg base "_law_box" ["pen","most","base","wide"] 3 (spN ["pen","most","base","wide"] rN):=by
 exact Df.dN dd.a4 Ds 1 rfl fun f z A outer s H E hr=>⟨_,_,(zi (zV (i:=4) Ds.nd rfl lo (zw zZ hr dz (za (pv 0) (za (zS bO (pv 1) zk) zd)))) (zi (aT (zG (f8 hr.units) (zw zZ hr dz (za (pv 0) (za zk zd))) zk (nomark _)) (zn (zy (zS JC (bZ (za (pv 2) zd)) (pv 4)))) zP) (zn (zy (mK AO (by rfl) T.n_tuple iM (za (cP (fun _ _ h=>h) rfl (zF rfl rfl rfl rfl (N:=["k","base","pen","wide"]) (caps:=[none,some 2,some 0,some 3]) (by show bG ["pen","most","base","wide","many"] (zj xG).names _ _ _=true;decide +kernel)) (iF rfl T.n_range (za (pv 4) zd)) (fun _ _ _ _=>(zp (i:=0) (by show ic (["k","base","pen","wide"]:List Str);decide) rfl (je rfl))) (fun _ _ _ _=>cW) (fun _ _ _ _=>(zS bO (pv 1) (zw zZ hr dz (za (pv 2) (za (pv 3) zd)))))) zd)))))),(zQ (by walk_at "r") (zQ (by walk_at "r") (bA (bR wN (zf (bW (oM (zf zg zr)) zt cY (aM iA zg (lJ (i:=0) (zf zg (zf zg zr))))) zr))))),fun xs S R q=>q⟩
theorem Ee:Df P w K mg base "_law_number" ["pen"] 3 (spN ["pen"] sO):=by
 exact Df.dN dd.a5 B9 1 rfl fun f z A outer s H E hr=>⟨_,_,(zi (zV (i:=1) B9.nd rfl lo (zw zZ hr dz (za (pv 0) (za zk zd)))) (zi (aT (zG iU (pv 1) zk (nomark _)) (zn (zy (zS gM (zw zZ hr dz (za (pv 0) (za zk zd))) zk))) zP) (zi (aT (zG iU (pv 1) zk (nomark _)) (zn (zy (zS gM (zw zZ hr dz (za (pv 0) (za zk zd))) zk))) zP) (zn (zy (zS eZ (zS gM (zw zZ hr dz (za (pv 0) (za (zS eZ zk (zS tE zk zk)) zd))) (zS tE zk zk)) (zS tE zk zk))))))),(by walk_at "r"),fun xs S R q=>q⟩
theorem Gb:Df P w K mg base "_law_boxes" ["pen","most"] 4 (spN ["pen","most"] u5):=by
 exact Df.dN dd.a6 iJ 8 rfl fun f z A outer s H E hr=>⟨_,_,(zi (zV (i:=2) iJ.nd rfl lo (fC (za (zw Ee hr dz (za (pv 0) zd)) (za (zw Ee hr dz (za (pv 0) zd)) zd)))) (zi (zV (i:=3) iJ.nd rfl lo (aH zJ (fC (za zk (za zk (za zk (za zk zd))))) (zw zZ hr dz (za (pv 0) (za zk zd))) (fun _ _=>rfl))) (zi (qL (cP (fun _ _ h=>h) rfl (zF rfl rfl rfl rfl (N:=["k","pen"]) (caps:=[none,some 0]) (by show bG ["pen","most","bases","wide","s","t","far","low","high","one"] (zj vV).names _ _ _=true;decide +kernel)) (iF rfl T.n_range (za zk zd)) (fun _ _ _ _=>(zp (i:=0) (by show ic (["k","pen"]:List Str);decide) rfl (je rfl))) (fun _ _ _ _=>cW) (fun _ _ _ _=>(aH zJ (Eu (e8 zk (e8 (pZ rA zk) (e8 zk (e8 (pZ rA zk) (e8 zk (e8 (pZ rA zk) cO))))))) (zw zZ hr dz (za (pv 1) (za zk zd))) (fun _ _=>rfl)))) (Gh (n:=2) rfl (zv (zp (i:=4) iJ.nd rfl (je rfl)) (zv (zp (i:=5) iJ.nd rfl (je rfl)) cF)))) (zi (zV (i:=6) iJ.nd rfl lo (zS eZ (pv 3) (zS bO (zo Bl (by rfl) T.n_abs Ao (za (pv 4) zd)) (zo Bl (by rfl) T.n_abs Ao (za (pv 5) zd))))) (zi (zV (i:=7) iJ.nd rfl lo (zS gM (zS bO (zS bO (zS eZ (pv 4) (aH zJ (pv 2) zk (fun _ _=>rfl))) (zS eZ (pv 5) (aH zJ (pv 2) zk (fun _ _=>rfl)))) (zw zZ hr dz (za (pv 0) (za (zS bO (zS eZ zk (pv 6)) zk) zd)))) (pv 6))) (zi (zV (i:=8) iJ.nd rfl lo (zS bO (pv 7) (aH zJ (Eu (e8 zk (e8 zk (e8 zk (e8 (pv 3) (e8 (pv 6) (e8 (zS eZ zk (pv 3)) cO))))))) (zw zZ hr dz (za (pv 0) (za zk zd))) (fun _ _=>rfl)))) (zi (zV (i:=9) iJ.nd rfl lo (zw EO hr dz (za (pv 0) (za (pv 1) (za (aH zJ (pv 2) zk (fun _ _=>rfl)) (za (pv 3) zd)))))) (zn (zy (bZ (za (bZ (za (bZ (za (bZ (za zk (za (pv 4) zd))) (za (bZ (za zk (za (pv 5) zd))) zd))) (za (pv 7) (za (pv 8) zd)))) (za (pv 9) (za (zw EO hr dz (za (pv 0) (za (pv 1) (za (aH zJ (pv 2) zk (fun _ _=>rfl)) (za (pv 3) zd))))) zd))))))))))))),(zQ (by walk_at "r") (zQ (by walk_at "r") (zQ (cU (bW (oM (zf zM zr)) zt cY (aM fV (tO (zf zM (zf (p9 rB zM) (zf zM (zf (p9 rB zM) (zf zM (zf (p9 rB zM) zr))))))) (lJ (i:=0) (zf zg (zf zM zr))))) (by walk_at "r")) (by walk_at "r")))),fun xs S R q=>q⟩
theorem Go:Df P w K mg base "worth_of" ["gap","one"] 1 (spN ["gap","one"] uR):=by
 exact Df.dN dd.a7 Gx 0 rfl fun f z A outer s H E hr=>⟨_,_,(zn (zy (zo (Ix rfl) (by rfl) T.n_sum L5 (za (cP (fun _ _ h=>h) rfl (zF rfl rfl rfl rfl (N:=["part","times","one"]) (caps:=[none,none,some 1]) (by show bG ["gap","one"] (zj xZ).names _ _ _=true;decide +kernel)) (bI (aH zJ (pv 0) zk (fun _ _=>rfl))) (fun _ _ _ _=>(cT (n:=2) rfl (zv (zp (i:=0) (by show ic (["part","times","one"]:List Str);decide) rfl (je rfl)) (zv (zp (i:=1) (by show ic (["part","times","one"]:List Str);decide) rfl (je rfl)) cF)))) (fun _ _ _ _=>cW) (fun _ _ _ _=>(zS eZ (pv 1) (aH zJ (pv 2) (pv 0) (fun _ _=>rfl))))) zd)))),(bA (bR BG (zf (bW (bP (aM fV zg zM)) (dR (zH zt (zH zt dZ))) cY (aM Ck zg (aM fV zg zg))) zr))),fun xs S R q=>q⟩
theorem MY:Df P w K mg base "keeps" ["gap","one"] 2 (spN ["gap","one"] uO):=by
 exact Df.dN dd.a8 Kx 0 rfl fun f z A outer s H E hr=>⟨_,_,(zn (zy (vC lR lR (aH zJ (pv 0) zk (fun _ _=>rfl)) (zw Go hr dz (za (pv 0) (za (pv 1) zd))) (aH zJ (pv 0) zk (fun _ _=>rfl))))),(by walk_at "r"),fun xs S R q=>q⟩
theorem LY:Df P w K mg base "fitting_pieces" ["gap","number","other"] 3 (spN ["gap","number","other"] tK):=by
 exact Df.dN dd.a9 HS 0 rfl fun f z A outer s H E hr=>⟨_,_,(zn (zy (cP (fun _ _ h=>h) rfl (zF rfl rfl rfl rfl (N:=["j","its_number","gap","number"]) (caps:=[none,none,some 0,some 1]) (by show bG ["gap","number","other"] (zj vU).names _ _ _=true;decide +kernel)) (BY rfl T.n_enumerate (za (pv 2) zd)) (fun _ _ _ _=>(cT (n:=2) rfl (zv (zp (i:=0) (by show ic (["j","its_number","gap","number"]:List Str);decide) rfl (je rfl)) (zv (zp (i:=1) (by show ic (["j","its_number","gap","number"]:List Str);decide) rfl (je rfl)) cF)))) (fun _ _ _ _=>(jW (zL (zw MY hr dz (za (pv 2) (za (bZ (za (pv 3) (za (pv 1) zd))) zd))) (fun _=>rfl)))) (fun _ _ _ _=>(pv 0))))),(bA (uI (Cc (zf zg zr)) (dR (zH zt (zH zt dZ))) (gW (bU (zf zg (zf (bL (zf zg (zf zg zr))) zr)))) zg)),fun xs S R q=>q⟩
theorem A6:Df P w K mg base "partners_of" ["gap","one","other"] 4 (spN ["gap","one","other"] mR):=by
 exact Df.dN dd.a10 K9 0 rfl fun f z A outer s H E hr=>⟨_,_,(zn (zy (cP (fun _ _ h=>h) rfl (zF rfl rfl rfl rfl (N:=["number","gap","other"]) (caps:=[none,some 0,some 2]) (by show bG ["gap","one","other"] (zj A1).names _ _ _=true;decide +kernel)) (bI (pv 1)) (fun _ _ _ _=>(zp (i:=0) (by show ic (["number","gap","other"]:List Str);decide) rfl (je rfl))) (fun _ _ _ _=>cW) (fun _ _ _ _=>(zw LY hr dz (za (pv 1) (za (pv 0) (za (pv 2) zd)))))))),(bA (uI (bP zg) zt cY (bU (zf zg (zf zg (zf zg zr)))))),fun xs S R q=>q⟩
theorem Fc:∀n,Df P w K mg base "find_match" ["rows","i","matches","asked"] (1+n) (spM ["rows","i","matches","asked"] (kA n))
 | 0=>Df.noneM dd.a11
 |n+1=>by
  have yC:=Fc  n;show Df P w K mg base "find_match" ["rows","i","matches","asked"] (1+n+1) (spM ["rows","i","matches","asked"] (kA (n+1)));exact Df.dM dd.a11 D9 1 rfl fun f z A outer s H E hr=>⟨_,_,(zi (c8 jy rfl (bI (aH zJ (pv 0) (pv 1) (fun _ _=>rfl))) (zp (i:=4) D9.nd rfl (je rfl)) (zi (aT (zG (Ju hr.units) (pv 4) (pv 3) (by rfl)) (zn MC) zP) (zi (o9 (jR hr) (pv 3) (pv 4) bC rfl) (zn (aT (PW.pt (cR (zG (uS hr.units) (pv 4) (pv 2) (by rfl)) (dF (zL (sY yC hr yw (za (pv 0) (za (yE (jR hr) (pv 2) (pv 4) (fun _ _=>rfl)) (za (pv 2) (za (pv 3) zd))))) (fun _=>rfl))))) (zi (o9 (jR hr) (pv 2) (pv 4) (pv 1) rfl) (zn (zy bC))) zP))))) (zn (zy bC))),(gN (qG (fun M=>oR (by walk_at "r")) zt (gN (AM (fun M=>(pF (rD lV (zB zg) (zB zg)))) (dX Ej) (dX dL)) (gN (pL (fun M=>(zB zg)) (fun M=>(zB cL))) (wP (Cz (EH (fun M=>(pF (rD lV (zB zg) (zB zg))))) (Ht (fun M=>(eR (zB zg) (eR (vW (zB zg) (zB zg)) (eR (zB zg) (eR (zB zg) (AD zr)))))))) (gN (pL (fun M=>(zB zg)) (fun M=>(zB zg))) (dX (bA cL))) (dX dL))))) (dX (bA cL))),fun xs S M R q=>q⟩
theorem yC:Df P w K mg base "find_match" ["rows","i","matches","asked"] 13 (spM ["rows","i","matches","asked"] uU):=Fc T dd  12
theorem yT:Df P w K mg base "most_matched" ["rows"] 14 (spN ["rows"] kS):=by
 exact Df.dN dd.a12 w6 2 rfl fun f z A outer s H E hr=>⟨_,_,(zi (zV (i:=1) w6.nd rfl lo pK) (zi (vE (i:=1) (c8 jy rfl (iF rfl T.n_range (za (zo zC (by rfl) T.n_len aV (za (pv 0) zd)) zd)) (zp (i:=2) w6.nd rfl (je rfl)) (zn (i6 (sY yC hr dz (za (pv 0) (za (pv 2) (za (pv 1) (za pK zd))))))))) (zn (zy (pv 1))))),(vY (yU (uY (qG (fun M=>oR (by walk_at "r")) zt (DJ (fun M=>(zB zg)) (fun M=>(zB zg)) (fun M=>(zB zg)))))) (bA zg)),fun xs S R q=>q⟩
theorem FG:Df P w K mg base "free_partners" ["row","used"] 1 (spN ["row","used"] l6):=by
 exact Df.dN dd.a13 Ls 0 rfl fun f z A outer s H E hr=>⟨_,_,(zn (zy (cP (fun _ _ h=>h) rfl (zF rfl rfl rfl rfl (N:=["j","used"]) (caps:=[none,some 1]) (by show bG ["row","used"] (zj wG).names _ _ _=true;decide +kernel)) (bI (pv 0)) (fun _ _ _ _=>(zp (i:=0) (by show ic (["j","used"]:List Str);decide) rfl (je rfl))) (fun _ _ _ _=>(jW (zG (qQ hr.units) (pv 0) (pv 1) (by rfl)))) (fun _ _ _ _=>(pv 0))))),(bA (uI (bP zg) zt (eL (aM m8 zg zg)) zg)),fun xs S R q=>q⟩
theorem Lg:Df P w K mg base "least_partner" ["rows","i","used","wanted"] 15 (spN ["rows","i","used","wanted"] vH):=by
 exact Df.dN dd.a14 vQ 2 rfl fun f z A outer s H E hr=>⟨_,_,(zi (c8 jy rfl (bI (zw FG hr dz (za (aH zJ (pv 0) (pv 1) (fun _ _=>rfl)) (za (pv 2) zd)))) (zp (i:=4) vQ.nd rfl (vi rfl)) (zi (mH (i:=5) (fun _ _ h=>h) rfl (zF rfl rfl rfl rfl (N:=["row","used","j"]) (caps:=[none,some 2,some 4]) (by show bG ["rows","i","used","wanted","j","later"] (zj wO).names _ _ _=true;decide +kernel)) vQ.nd rfl rfl (bI (rP El (pv 0) (lL (zS bO (pv 1) zk)) vA)) (fun _ _ _ _=>(zp (i:=0) (by show ic (["row","used","j"]:List Str);decide) rfl (je rfl))) (fun _ _ _ _=>cW) (fun _ _ _ _=>(zw FG hr dz (za (pv 0) (za (zS bO (pv 1) (fC (za (pv 2) zd))) zd))))) (zn (aT (zG (f8 hr.units) (zo A3 (by rfl) T.n_len aV (za (zw yT hr dz (za (pv 5) zd)) zd)) (pv 3) (nomark _)) (zn (zy (pv 4))) zP)))) (zn (zy BM))),(zQ (lW (by walk_at "r") zt (zQ (cU (bW (bP (nQ DL zg (rG (aM iA zg zM)) nW)) zt cY (bU (zf zg (zf (aM iA zg (tO (zf zg zr))) zr)))) zt) (by walk_at "r"))) (bA Ff)),fun xs S R q=>q⟩
theorem tI:Df P w K mg base "matched" ["gap","one","other"] 16 (spN ["gap","one","other"] jB):=by
 exact Df.dN dd.a15 kG 6 rfl fun f z A outer s H E hr=>⟨_,_,(zi (zV (i:=3) kG.nd rfl lo (zw A6 hr dz (za (pv 0) (za (pv 1) (za (pv 2) zd))))) (zi (zV (i:=4) kG.nd rfl lo (zo A3 (by rfl) T.n_len aV (za (zw yT hr dz (za (pv 3) zd)) zd))) (zi (zV (i:=5) kG.nd rfl lo (fC zd)) (zi (zV (i:=6) kG.nd rfl lo (fC zd)) (zi (c8 jy rfl (iF rfl T.n_range (za (zo zC (by rfl) T.n_len aV (za (pv 3) zd)) zd)) (zp (i:=7) kG.nd rfl (je rfl)) (zi (zV (i:=8) kG.nd rfl lo (zw Lg hr dz (za (pv 3) (za (pv 7) (za (pv 6) (za (zS gM (zS gM (pv 4) (zo zC (by rfl) T.n_len aV (za (pv 5) zd))) zk) zd)))))) (zn (aT (zG JE (pv 8) BM (nomark _)) (zi (i6 (lO PySem.F.plainAttrs_list PySem.F.slot_list_append PySem.F.type_list_append lT (pv 5) (za (bZ (za (pv 7) (za (pv 8) zd))) zd))) (zn (i6 (lO PySem.F.plainAttrs_list PySem.F.slot_list_append PySem.F.type_list_append lT (pv 6) (za (pv 8) zd))))) zP)))) (zn (zy (pv 5)))))))),(by walk_at "r"),fun xs S R q=>q⟩
theorem J8:Df P w K mg base "_law_fits" ["gap","here","there"] 1 (spN ["gap","here","there"] sV):=by
 exact Df.dN dd.a16 uP 3 rfl fun f z A outer s H E hr=>⟨_,_,(zi (qL (pv 0) (cT (n:=3) rfl (zv (zp (i:=3) uP.nd rfl (je rfl)) (zv (zp (i:=4) uP.nd rfl (je rfl)) (zv (zp (i:=5) uP.nd rfl (je rfl)) cF))))) (zn (zy (vC lR lR (pv 4) (zS bO (zS eZ (aH zJ (aH zJ (pv 3) zk (fun _ _=>rfl)) zk (fun _ _=>rfl)) (pv 1)) (zS eZ (aH zJ (aH zJ (pv 3) zk (fun _ _=>rfl)) zk (fun _ _=>rfl)) (pv 2))) (pv 5))))),(by walk_at "r"),fun xs S R q=>q⟩
theorem AA:Df P w K mg base "_law_due_pairs" ["gap","one","other"] 2 (spN ["gap","one","other"] lQ):=by
 exact Df.dN dd.a17 tW 3 rfl fun f z A outer s H E hr=>⟨_,_,(zi (zV (i:=3) tW.nd rfl lo (fC zd)) (zi (c8 jy rfl (iF rfl T.n_range (za (zo zC (by rfl) T.n_len aV (za (pv 1) zd)) zd)) (zp (i:=4) tW.nd rfl (je rfl)) (zn (c8 jy rfl (iF rfl T.n_range (za (zo zC (by rfl) T.n_len aV (za (pv 2) zd)) zd)) (zp (i:=5) tW.nd rfl (je rfl)) (zn (aT (zL (zw J8 hr dz (za (pv 0) (za (aH zJ (pv 1) (pv 4) (fun _ _=>rfl)) (za (aH zJ (pv 2) (pv 5) (fun _ _=>rfl)) zd)))) (fun _=>rfl)) (zn (i6 (lO PySem.F.plainAttrs_list PySem.F.slot_list_append PySem.F.type_list_append lT (pv 3) (za (bZ (za (pv 4) (za (pv 5) zd))) zd)))) zP))))) (zn (zy (pv 3))))),(by walk_at "r"),fun xs S R q=>q⟩
theorem Kl:Df P w K mg base "cover_of" ["gap","one","other"] 15 (spN ["gap","one","other"] uT):=by
 exact Df.dN dd.a18 jG 7 rfl fun f z A outer s H E hr=>⟨_,_,(zi (zV (i:=3) jG.nd rfl lo (zw A6 hr dz (za (pv 0) (za (pv 1) (za (pv 2) zd))))) (zi (zV (i:=4) jG.nd rfl (vi rfl) (zw yT hr dz (za (pv 3) zd))) (zi (mH (i:=5) (fun _ _ h=>h) rfl (zF rfl rfl rfl rfl (N:=["i","matches"]) (caps:=[none,some 4]) (by show bG ["gap","one","other","rows","matches","left","seen","others","i","j"] (zj u8).names _ _ _=true;decide +kernel)) jG.nd rfl rfl (iF rfl T.n_range (za (zo zC (by rfl) T.n_len aV (za (pv 3) zd)) zd)) (fun _ _ _ _=>(zp (i:=0) (by show ic (["i","matches"]:List Str);decide) rfl (je rfl))) (fun _ _ _ _=>(jW (zG (qQ hr.units) (pv 0) (mK (Ip rfl) (by rfl) T.n_list yK (za (Jf (pv 1) rfl rfl) zd)) (by rfl)))) (fun _ _ _ _=>(pv 0))) (zi (zV (i:=6) jG.nd rfl (vi rfl) pK) (zi (zV (i:=7) jG.nd rfl lo pK) (zi (vE (i:=6) (vE (i:=7) (HZ jy (zL (pv 5) (fun _=>rfl)) (zi (zV (i:=8) jG.nd rfl lo (K1 PySem.F.plainAttrs_list PySem.F.slot_list_pop PySem.F.type_list_pop HW (pv 5))) (zi (o9 (jR hr) (pv 6) (pv 8) bC rfl) (zn (c8 jy rfl (bI (aH zJ (pv 3) (pv 8) (fun _ _=>rfl))) (zp (i:=9) jG.nd rfl (je rfl)) (zn (aT (zG (uS hr.units) (pv 9) (pv 7) (by rfl)) (zi (o9 (jR hr) (pv 7) (pv 9) bC rfl) (zn (i6 (lO PySem.F.plainAttrs_list PySem.F.slot_list_append PySem.F.type_list_append lT (pv 5) (za (yE (jR hr) (pv 4) (pv 9) (fun _ _=>rfl)) zd))))) zP))))))))) (zn (zy (bZ (za (mK AO (by rfl) T.n_tuple iM (za (cP (fun _ _ h=>h) rfl (zF rfl rfl rfl rfl (N:=["i","seen"]) (caps:=[none,some 6]) (by show bG ["gap","one","other","rows","matches","left","seen","others","i","j"] (zj u8).names _ _ _=true;decide +kernel)) (iF rfl T.n_range (za (zo zC (by rfl) T.n_len aV (za (pv 3) zd)) zd)) (fun _ _ _ _=>(zp (i:=0) (by show ic (["i","seen"]:List Str);decide) rfl (je rfl))) (fun _ _ _ _=>(jW (zG (uS hr.units) (pv 0) (pv 1) (by rfl)))) (fun _ _ _ _=>(pv 0))) zd)) (za (mK AO (by rfl) T.n_tuple iM (za (zo (L6 rfl) (by rfl) T.n_sorted Co (za (pv 7) zd)) zd)) zd))))))))))),(zQ (by walk_at "r") (zQ (by walk_at "r") (zQ (cU (uI (oM (zf (bR iC (zf zg zr)) zr)) zt (eL (aM m8 zg (IU zg))) zg) zt) (FK (yU (uY (uY (EC (fun M=>(Dt (gW zg))) (gN (dX (by walk_at "r")) (gN (pL (fun M=>(zB zg)) (fun M=>(zB cL))) (qG (fun M=>oR (by walk_at "r")) zt (AM (fun M=>(pF (rD lV (zB zg) (zB zg)))) (gN (pL (fun M=>(zB zg)) (fun M=>(zB cL))) (dX (tP (tF Cq zg (zf (Fh (vW (zB zg) (zB zg))) zr))))) (dX dL))))))))) (bA (bL (zf (bR wN (zf (bW (oM (zf (bR iC (zf zg zr)) zr)) zt (Lo (pF (rD lV (zB zg) (zB zg)))) zg) zr)) (by walk_at "r")))))))),fun xs S R q=>q⟩
theorem Ac:Df P w K mg base "_law_whole" ["found"] 1 (spN ["found"] lU):=by
 exact Df.dN dd.a19 Gq 0 rfl fun f z A outer s H E hr=>⟨_,_,(zn (zy (mI (zo gT (by rfl) T.n_isinstance zU (za (pv 0) (za (gP rfl T.n_int yX (v:=.ty "int") rfl) zd))) (jI (wT (zo gT (by rfl) T.n_isinstance zU (za (pv 0) (za (gP rfl T.n_bool FF (v:=.ty "bool") rfl) zd)))))))),(by walk_at "r"),fun xs S R q=>q⟩
theorem GI:Df P w K mg base "_law_pairs_are" ["found","due"] 2 (spN ["found","due"] tT):=by
 exact Df.dN dd.a20 EU 1 rfl fun f z A outer s H E hr=>⟨_,_,(zi (aT (PW.pt (cR (bS (zL (zo gT (by rfl) T.n_isinstance zU (za (pv 0) (za (gP rfl T.n_list yK (v:=.ty "list") rfl) zd))) (fun _=>rfl))) (dF (zG (lM hr.units) (zo zC (by rfl) T.n_len aV (za (pv 0) zd)) (zo zC (by rfl) T.n_len aV (za (pv 1) zd)) (nomark _))))) (zn (zy bC)) zP) (zi (c8 jy rfl (bI (pv 0)) (zp (i:=2) EU.nd rfl (je rfl)) (zn (aT (PW.pt (cR (bS (zL (zo gT (by rfl) T.n_isinstance zU (za (pv 2) (za (gP rfl T.n_tuple iM (v:=.ty "tuple") rfl) zd))) (fun _=>rfl))) (cR (zG (lM hr.units) (zo zC (by rfl) T.n_len aV (za (pv 2) zd)) zk (nomark _)) (cR (bS (zL (zw Ac hr dz (za (aH zJ (pv 2) zk (fun _ _=>rfl)) zd)) (fun _=>rfl))) (dF (bS (zL (zw Ac hr dz (za (aH zJ (pv 2) zk (fun _ _=>rfl)) zd)) (fun _=>rfl)))))))) (zn (zy bC)) zP))) (zn (zy (fR (f8 hr.units) (pv 0) (pv 1) (nomark _)))))),(by walk_at "r"),fun xs S R q=>q⟩
theorem G0:Df P w K mg base "_law_free" ["found"] 1 (spN ["found"] tB):=by
 exact Df.dN dd.a21 AS 2 rfl fun f z A outer s H E hr=>⟨_,_,(zi (mH (i:=1) (fun _ _ h=>h) rfl (zF (L:=0) rfl rfl rfl rfl (N:=["i","j"]) (caps:=[none,none]) (by show bG ["found","ones","others"] (zj tV).names _ _ _=true;decide +kernel)) AS.nd rfl rfl (bI (pv 0)) (fun _ _ _ _=>(cT (n:=2) rfl (zv (zp (i:=0) (by show ic (["i","j"]:List Str);decide) rfl (je rfl)) (zv (zp (i:=1) (by show ic (["i","j"]:List Str);decide) rfl (je rfl)) cF)))) (fun _ _ _ _=>cW) (fun _ _ _ _=>(pv 0))) (zi (mH (i:=2) (fun _ _ h=>h) rfl (zF (L:=0) rfl rfl rfl rfl (N:=["i","j"]) (caps:=[none,none]) (by show bG ["found","ones","others"] (zj tV).names _ _ _=true;decide +kernel)) AS.nd rfl rfl (bI (pv 0)) (fun _ _ _ _=>(cT (n:=2) rfl (zv (zp (i:=0) (by show ic (["i","j"]:List Str);decide) rfl (je rfl)) (zv (zp (i:=1) (by show ic (["i","j"]:List Str);decide) rfl (je rfl)) cF)))) (fun _ _ _ _=>cW) (fun _ _ _ _=>(pv 1))) (zn (zy (mI (fR (f8 hr.units) (BH rfl rfl T.n_len rfl T.n_set (za (pv 1) zd)) (zo zC (by rfl) T.n_len aV (za (pv 1) zd)) (nomark _)) (jI (fR (f8 hr.units) (BH rfl rfl T.n_len rfl T.n_set (za (pv 2) zd)) (zo zC (by rfl) T.n_len aV (za (pv 2) zd)) (nomark _)))))))),(zQ (cU (bW (bP zg) (dR (zH zt (zH zt dZ))) cY zg) zt) (zQ (cU (bW (bP zg) (dR (zH zt (zH zt dZ))) cY zg) zt) (by walk_at "r"))),fun xs S R q=>q⟩
theorem C0:Df P w K mg base "_law_rising" ["side","box"] 2 (spN ["side","box"] pH):=by
 exact Df.dN dd.a22 Gg 0 rfl fun f z A outer s H E hr=>⟨_,_,(zi (aT (PW.pt (cR (bS (zL (zo gT (by rfl) T.n_isinstance zU (za (pv 0) (za (gP rfl T.n_tuple iM (v:=.ty "tuple") rfl) zd))) (fun _=>rfl))) (dF (bS (zL (zo (nT rfl) (by rfl) T.n_all nK (za (cP (fun _ _ h=>h) rfl (zF rfl rfl rfl rfl (N:=["piece","box"]) (caps:=[none,some 1]) (by show bG ["side","box"] (zj AH).names _ _ _=true;decide +kernel)) (bI (pv 0)) (fun _ _ _ _=>(zp (i:=0) (by show ic (["piece","box"]:List Str);decide) rfl (je rfl))) (fun _ _ _ _=>cW) (fun _ _ _ _=>(mI (zw Ac hr dz (za (pv 0) zd)) (jI (vC lR iU zk (pv 0) (zo zC (by rfl) T.n_len aV (za (pv 1) zd))))))) zd)) (fun _=>rfl)))))) (zn (zy bC)) zP) (zn (zy (fR (f8 hr.units) (mK Iy (by rfl) T.n_list yK (za (pv 0) zd)) (MF rfl rfl T.n_sorted rfl T.n_set (za (pv 0) zd)) (nomark _))))),(zQ (gF (lC (by walk_at "r") (i8 (gW (bR mG (zf (bW (bP zg) zt cY (Ab (bU (zf zg zr)) (wF gJ gJ zM zg (bR iC (zf zg zr))))) zr))))) (bA cL) dL) (by walk_at "r")),fun xs S R q=>q⟩
theorem GG:Df P w K mg base "_law_covers" ["gap","one","other","covering"] 3 (spN ["gap","one","other","covering"] u7):=by
 exact Df.dN dd.a23 Mc 0 rfl fun f z A outer s H E hr=>⟨_,_,(zi (aT (PW.pt (cR (bS (zL (zo gT (by rfl) T.n_isinstance zU (za (pv 3) (za (gP rfl T.n_tuple iM (v:=.ty "tuple") rfl) zd))) (fun _=>rfl))) (dF (zG (lM hr.units) (zo zC (by rfl) T.n_len aV (za (pv 3) zd)) zk (nomark _))))) (zn (zy bC)) zP) (zi (aT (PW.pt (cR (bS (zL (zw C0 hr dz (za (aH zJ (pv 3) zk (fun _ _=>rfl)) (za (pv 1) zd))) (fun _=>rfl))) (dF (bS (zL (zw C0 hr dz (za (aH zJ (pv 3) zk (fun _ _=>rfl)) (za (pv 2) zd))) (fun _=>rfl)))))) (zn (zy bC)) zP) (zn (zy (zo (nT rfl) (by rfl) T.n_all nK (za (cP (fun _ _ h=>h) rfl (zF rfl rfl rfl rfl (N:=["i","j","covering"]) (caps:=[none,none,some 3]) (by show bG ["gap","one","other","covering"] (zj AZ).names _ _ _=true;decide +kernel)) (bI (zw AA hr dz (za (pv 0) (za (pv 1) (za (pv 2) zd))))) (fun _ _ _ _=>(cT (n:=2) rfl (zv (zp (i:=0) (by show ic (["i","j","covering"]:List Str);decide) rfl (je rfl)) (zv (zp (i:=1) (by show ic (["i","j","covering"]:List Str);decide) rfl (je rfl)) cF)))) (fun _ _ _ _=>cW) (fun _ _ _ _=>(Av (fR (o8 hr.units) (pv 0) (aH zJ (pv 2) zk (fun _ _=>rfl)) (by rfl)) (jI (fR (o8 hr.units) (pv 1) (aH zJ (pv 2) zk (fun _ _=>rfl)) (by rfl)))))) zd)))))),(zQ (by walk_at "r") (zQ (by walk_at "r") (bA (bR mG (zf (bW (bP (bU (zf zg (zf zg (zf zg zr))))) (dR (zH zt (zH zt dZ))) cY (Ax (aM pM zg (aM fV zg zM)) (aM pM zg (aM fV zg zM)))) zr))))),fun xs S R q=>q⟩
theorem Hs:Df P w K mg base "is_whole" ["thing"] 1 (spN ["thing"] uJ):=by
 exact Df.dN dd.a24 Lz 0 rfl fun f z A outer s H E hr=>⟨_,_,(zn (zy (mI (zo gT (by rfl) T.n_isinstance zU (za (pv 0) (za (gP rfl T.n_int yX (v:=.ty "int") rfl) zd))) (jI (wT (zo gT (by rfl) T.n_isinstance zU (za (pv 0) (za (gP rfl T.n_bool FF (v:=.ty "bool") rfl) zd)))))))),(by walk_at "r"),fun xs S R q=>q⟩
theorem BQ:Df P w K mg base "are_rising_pieces" ["box","thing"] 2 (spN ["box","thing"] oU):=by
 exact Df.dN dd.a25 IK 0 rfl fun f z A outer s H E hr=>⟨_,_,(zi (aT (PW.pt (cR (bS (zL (zo gT (by rfl) T.n_isinstance zU (za (pv 1) (za (gP rfl T.n_tuple iM (v:=.ty "tuple") rfl) zd))) (fun _=>rfl))) (dF (bS (zL (zo (nT rfl) (by rfl) T.n_all nK (za (cP (fun _ _ h=>h) rfl (zF rfl rfl rfl rfl (N:=["piece","box"]) (caps:=[none,some 0]) (by show bG ["box","thing"] (zj uH).names _ _ _=true;decide +kernel)) (bI (pv 1)) (fun _ _ _ _=>(zp (i:=0) (by show ic (["piece","box"]:List Str);decide) rfl (je rfl))) (fun _ _ _ _=>cW) (fun _ _ _ _=>(mI (zw Hs hr dz (za (pv 0) zd)) (jI (vC lR iU zk (pv 0) (zo zC (by rfl) T.n_len aV (za (pv 1) zd))))))) zd)) (fun _=>rfl)))))) (zn (zy bC)) zP) (zn (zy (zo (nT rfl) (by rfl) T.n_all nK (za (cP (fun _ _ h=>h) rfl (zF rfl rfl rfl rfl (N:=["ahead","piece"]) (caps:=[none,none]) (by show bG ["box","thing"] (zj uH).names _ _ _=true;decide +kernel)) (LD rfl T.n_zip (za (pv 1) (za (rP CK (pv 1) (lL zk) vA) zd))) (fun _ _ _ _=>(cT (n:=2) rfl (zv (zp (i:=0) (by show ic (["ahead","piece"]:List Str);decide) rfl (je rfl)) (zv (zp (i:=1) (by show ic (["ahead","piece"]:List Str);decide) rfl (je rfl)) cF)))) (fun _ _ _ _=>cW) (fun _ _ _ _=>(fR iU (pv 0) (pv 1) (nomark _)))) zd))))),(zQ (gF (lC (by walk_at "r") (i8 (gW (bR mG (zf (bW (bP zg) zt cY (Ab (bU (zf zg zr)) (wF gJ gJ zM zg (bR iC (zf zg zr))))) zr))))) (bA cL) dL) (bA (bR mG (zf (bW (L9 (zf zg (zf (nQ AI zg (rG zM) nW) zr))) (dR (zH zt (zH zt dZ))) cY (aM gJ zg zg)) zr)))),fun xs S R q=>q⟩
theorem Aj:Df P w K mg base "pairs" ["gap","one","other"] 5 (spN ["gap","one","other"] qS):=by
 exact Df.dN dd.a26 uV 3 rfl fun f z A outer s H E hr=>⟨_,_,(zi (zV (i:=3) uV.nd rfl lo (fC zd)) (zi (c8 jy rfl (BY rfl T.n_enumerate (za (zw A6 hr dz (za (pv 0) (za (pv 1) (za (pv 2) zd)))) zd)) (cT (n:=2) rfl (zv (zp (i:=4) uV.nd rfl (vi rfl)) (zv (zp (i:=5) uV.nd rfl (je rfl)) cF))) (zn (i6 (lO PySem.F.plainAttrs_list PySem.F.slot_list_extend PySem.F.type_list_extend G3 (pv 3) (za (cP (fun _ _ h=>h) rfl (zF rfl rfl rfl rfl (N:=["j","i"]) (caps:=[none,some 4]) (by show bG ["gap","one","other","found","i","partners"] (zj wY).names _ _ _=true;decide +kernel)) (bI (pv 5)) (fun _ _ _ _=>(zp (i:=0) (by show ic (["j","i"]:List Str);decide) rfl (je rfl))) (fun _ _ _ _=>cW) (fun _ _ _ _=>(bZ (za (pv 1) (za (pv 0) zd))))) zd))))) (zn (zy (pv 3))))),(zQ (by walk_at "r") (zQ (lW (by walk_at "r") (by walk_at "r") (tP (tF EF zg (zf (bW (bP zg) zt cY (bL (zf zg (zf zg zr)))) zr)))) (bA zg))),fun xs S R q=>q⟩
theorem IX:Df P w K mg base "cover_holds" ["gap","one","other","thing"] 6 (spN ["gap","one","other","thing"] tS):=by
 exact Df.dN dd.a27 MS 0 rfl fun f z A outer s H E hr=>⟨_,_,(zi (aT (PW.pt (cR (bS (zL (zo gT (by rfl) T.n_isinstance zU (za (pv 3) (za (gP rfl T.n_tuple iM (v:=.ty "tuple") rfl) zd))) (fun _=>rfl))) (dF (zG (lM hr.units) (zo zC (by rfl) T.n_len aV (za (pv 3) zd)) zk (nomark _))))) (zn (zy bC)) zP) (zi (aT (PW.pt (cR (bS (zL (zw BQ hr dz (za (pv 1) (za (aH zJ (pv 3) zk (fun _ _=>rfl)) zd))) (fun _=>rfl))) (dF (bS (zL (zw BQ hr dz (za (pv 2) (za (aH zJ (pv 3) zk (fun _ _=>rfl)) zd))) (fun _=>rfl)))))) (zn (zy bC)) zP) (zn (zy (zo (nT rfl) (by rfl) T.n_all nK (za (cP (fun _ _ h=>h) rfl (zF rfl rfl rfl rfl (N:=["i","j","thing"]) (caps:=[none,none,some 3]) (by show bG ["gap","one","other","thing"] (zj AQ).names _ _ _=true;decide +kernel)) (bI (zw Aj hr dz (za (pv 0) (za (pv 1) (za (pv 2) zd))))) (fun _ _ _ _=>(cT (n:=2) rfl (zv (zp (i:=0) (by show ic (["i","j","thing"]:List Str);decide) rfl (je rfl)) (zv (zp (i:=1) (by show ic (["i","j","thing"]:List Str);decide) rfl (je rfl)) cF)))) (fun _ _ _ _=>cW) (fun _ _ _ _=>(Av (fR (o8 hr.units) (pv 0) (aH zJ (pv 2) zk (fun _ _=>rfl)) (by rfl)) (jI (fR (o8 hr.units) (pv 1) (aH zJ (pv 2) zk (fun _ _=>rfl)) (by rfl)))))) zd)))))),(zQ (by walk_at "r") (zQ (by walk_at "r") (bA (bR mG (zf (bW (bP (bU (zf zg (zf zg (zf zg zr))))) (dR (zH zt (zH zt dZ))) cY (Ax (aM pM zg (aM fV zg zM)) (aM pM zg (aM fV zg zM)))) zr))))),fun xs S R q=>q⟩
theorem CY:∀n,Df P w K mg base "_law_gives" ["rest","i","mates","seen"] (1+n) (spM ["rest","i","mates","seen"] (jU n))
 | 0=>Df.noneM dd.a28
 |n+1=>by
  have xL:=CY  n;show Df P w K mg base "_law_gives" ["rest","i","mates","seen"] (1+n+1) (spM ["rest","i","mates","seen"] (jU (n+1)));exact Df.dM dd.a28 xU 2 rfl fun f z A outer s H E hr=>⟨_,_,(zi (c8 jy rfl (bI (pv 0)) (cT (n:=2) rfl (zv (zp (i:=4) xU.nd rfl (je rfl)) (zv (zp (i:=5) xU.nd rfl (je rfl)) cF))) (zn (aT (PW.pt (uX (zG (f8 hr.units) (pv 4) (pv 1) (nomark _)) (uG (zG (qQ hr.units) (pv 5) (pv 3) (by rfl))))) (zi (i6 (lO PySem.F.plainAttrs_list PySem.F.slot_list_append PySem.F.type_list_append lT (pv 3) (za (pv 5) zd))) (zn (aT (PW.pt (cR (zG (uS hr.units) (pv 5) (pv 2) (by rfl)) (dF (zL (sY xL hr yw (za (pv 0) (za (yE (jR hr) (pv 2) (pv 5) (fun _ _=>rfl)) (za (pv 2) (za (pv 3) zd))))) (fun _=>rfl))))) (zi (o9 (jR hr) (pv 2) (pv 5) (pv 1) rfl) (zn (zy bC))) zP))) zP))) (zn (zy bC))),(gN (qG (fun M=>oR (bP zg)) (by walk_at "r") (AM (fun M=>(Dt (by walk_at "r"))) (gN (dX (by walk_at "r")) (wP (Cz (EH (fun M=>(pF (rD lV (zB zg) (zB zg))))) (Jj (i:=3) (fun M=>(eR (zB zg) (eR (vW (zB zg) (zB zg)) (eR (zB zg) (eR (zB zg) (AD zr)))))))) (gN (pL (fun M=>(zB zg)) (fun M=>(zB zg))) (dX (bA cL))) (dX dL))) (dX dL))) (dX (bA cL))),fun xs S M R q=>q⟩
theorem xL:Df P w K mg base "_law_gives" ["rest","i","mates","seen"] 13 (spM ["rest","i","mates","seen"] Aa):=CY T dd  12
theorem Im:Df P w K mg base "_law_most" ["rest"] 14 (spN ["rest"] sT):=by
 exact Df.dN dd.a29 AY 2 rfl fun f z A outer s H E hr=>⟨_,_,(zi (zV (i:=1) AY.nd rfl lo pK) (zi (vE (i:=1) (c8 jy rfl (bI (Ko rfl rfl T.n_sorted rfl T.n_set (za (cP (fun _ _ h=>h) rfl (zF (L:=0) rfl rfl rfl rfl (N:=["a","b"]) (caps:=[none,none]) (by show bG ["rest","mates","i"] (zj wQ).names _ _ _=true;decide +kernel)) (bI (pv 0)) (fun _ _ _ _=>(cT (n:=2) rfl (zv (zp (i:=0) (by show ic (["a","b"]:List Str);decide) rfl (je rfl)) (zv (zp (i:=1) (by show ic (["a","b"]:List Str);decide) rfl (je rfl)) cF)))) (fun _ _ _ _=>cW) (fun _ _ _ _=>(pv 0))) zd))) (zp (i:=2) AY.nd rfl (je rfl)) (zn (i6 (sY xL hr dz (za (pv 0) (za (pv 2) (za (pv 1) (za (fC zd) zd))))))))) (zn (zy (zo A3 (by rfl) T.n_len aV (za (pv 1) zd)))))),(vY (yU (uY (qG (fun M=>oR (bP (bR E8 (zf (bW (bP zg) (dR (zH zt (zH zt dZ))) cY zg) zr)))) zt (FY (i:=3) (fun M=>(eR (zB zg) (eR (zB zg) (eR (zB zg) (eR (zB (C2 zr)) (AD zr)))))))))) (by walk_at "r")),fun xs S R q=>q⟩
theorem KR:Df P w K mg base "_law_lesser" ["gap","one","other","found"] 15 (spN ["gap","one","other","found"] sK):=by
 exact Df.dN dd.a30 zW 7 rfl fun f z A outer s H E hr=>⟨_,_,(zi (c8 jy rfl (iF rfl T.n_range (za (zo zC (by rfl) T.n_len aV (za (pv 3) zd)) zd)) (zp (i:=4) zW.nd rfl (je rfl)) (zi (zV (i:=5) zW.nd rfl (vi rfl) (cP (fun _ _ h=>h) rfl (zF rfl rfl rfl rfl (N:=["i","j"]) (caps:=[none,none]) (by show bG ["gap","one","other","found","at","gone","last","left","i","j","rest"] (zj qY).names _ _ _=true;decide +kernel)) (bI (rP El (pv 3) vA (lL (pv 4)))) (fun _ _ _ _=>(cT (n:=2) rfl (zv (zp (i:=0) (by show ic (["i","j"]:List Str);decide) rfl (je rfl)) (zv (zp (i:=1) (by show ic (["i","j"]:List Str);decide) rfl (je rfl)) cF)))) (fun _ _ _ _=>cW) (fun _ _ _ _=>(pv 1)))) (zi (zV (i:=6) zW.nd rfl (vi rfl) (pZ rA zk)) (zi (aT (zG wX (pv 4) zk (nomark _)) (zn (zV (i:=6) zW.nd rfl (vi rfl) (aH zJ (aH zJ (pv 3) (zS gM (pv 4) zk) (fun _ _=>rfl)) zk (fun _ _=>rfl)))) zP) (zi (mH (i:=7) (fun _ _ h=>h) rfl (zF rfl rfl rfl rfl (N:=["i","j","last","gone"]) (caps:=[none,none,some 6,some 5]) (by show bG ["gap","one","other","found","at","gone","last","left","i","j","rest"] (zj qY).names _ _ _=true;decide +kernel)) zW.nd rfl rfl (bI (zw AA hr dz (za (pv 0) (za (pv 1) (za (pv 2) zd))))) (fun _ _ _ _=>(cT (n:=2) rfl (zv (zp (i:=0) (by show ic (["i","j","last","gone"]:List Str);decide) rfl (je rfl)) (zv (zp (i:=1) (by show ic (["i","j","last","gone"]:List Str);decide) rfl (je rfl)) cF)))) (fun _ _ _ _=>(jW (PW.pt (uX (zG wX (pv 0) (pv 2) (nomark _)) (uG (zG (qQ hr.units) (pv 1) (pv 3) (by rfl))))))) (fun _ _ _ _=>(bZ (za (pv 0) (za (pv 1) zd))))) (zn (c8 jy rfl (bI (pv 7)) (cT (n:=2) rfl (zv (zp (i:=8) zW.nd rfl (vi rfl)) (zv (zp (i:=9) zW.nd rfl (vi rfl)) cF))) (zn (aT (zG (Gr hr.units0) (bZ (za (pv 8) (za (pv 9) zd))) (aH zJ (pv 3) (pv 4) (fun _ _=>rfl)) (nomark _)) (zi (mH (i:=10) (fun _ _ h=>h) rfl (zF rfl rfl rfl rfl (N:=["a","b","i","j"]) (caps:=[none,none,some 8,some 9]) (by show bG ["gap","one","other","found","at","gone","last","left","i","j","rest"] (zj qY).names _ _ _=true;decide +kernel)) zW.nd rfl rfl (bI (pv 7)) (fun _ _ _ _=>(cT (n:=2) rfl (zv (zp (i:=0) (by show ic (["a","b","i","j"]:List Str);decide) rfl (je rfl)) (zv (zp (i:=1) (by show ic (["a","b","i","j"]:List Str);decide) rfl (je rfl)) cF)))) (fun _ _ _ _=>(jW (PW.pt (uX (zG wX (pv 0) (pv 2) (nomark _)) (uG (zG (lM hr.units) (pv 1) (pv 3) (nomark _))))))) (fun _ _ _ _=>(bZ (za (pv 0) (za (pv 1) zd))))) (zn (aT (zG (f8 hr.units) (zS bO (zw Im hr dz (za (pv 10) zd)) zk) (zS gM (zo zC (by rfl) T.n_len aV (za (pv 3) zd)) (pv 4)) (nomark _)) (zn (zy bC)) zP))) zP))))))))) (zn (zy bC))),(zQ (lW (by walk_at "r") zt (zQ (cU (bW (bP (nQ DL zg nW (rG zg))) (dR (zH zt (zH zt dZ))) cY zg) zt) (zQ (by walk_at "r") (zQ (by walk_at "r") (zQ (cU (bW (bP (bU (zf zg (zf zg (zf zg zr))))) (dR (zH zt (zH zt dZ))) (uW (eL (aM gJ zg zg)) (eL (aM m8 zg zg))) (bL (zf zg (zf zg zr)))) zt) (lW (bP zg) (by walk_at "r") (gF (by walk_at "r") (zQ (cU (bW (bP zg) (dR (zH zt (zH zt dZ))) (uW (eL (aM gJ zg zg)) (eL (aM yI zg zg))) (bL (zf zg (zf zg zr)))) zt) (by walk_at "r")) dL))))))) (bA cL)),fun xs S R q=>q⟩
theorem wW:Df P w K mg base "_law_right" ["gap","one","other"] 17 (spN ["gap","one","other"] lP):=by
 exact Df.dN dd.a31 vG 3 rfl fun f z A outer s H E hr=>⟨_,_,(zi (zV (i:=3) vG.nd rfl (vi rfl) (zw tI hr dz (za (pv 0) (za (pv 1) (za (pv 2) zd))))) (zi (zV (i:=4) vG.nd rfl lo (zw AA hr dz (za (pv 0) (za (pv 1) (za (pv 2) zd))))) (zi (aT (PW.pt (cR (bS (zL (zw GI hr dz (za (pv 3) (za (zo KO (by rfl) T.n_sorted Co (za (cP (fun _ _ h=>h) rfl (zF rfl rfl rfl rfl (N:=["pair","found"]) (caps:=[none,some 3]) (by show bG ["gap","one","other","found","due","covering"] (zj AX).names _ _ _=true;decide +kernel)) (bI (pv 4)) (fun _ _ _ _=>(zp (i:=0) (by show ic (["pair","found"]:List Str);decide) rfl (je rfl))) (fun _ _ _ _=>(jW (zG (o8 hr.units) (pv 0) (pv 1) (by rfl)))) (fun _ _ _ _=>(pv 0))) zd)) zd))) (fun _=>rfl))) (dF (bS (zL (zw G0 hr dz (za (pv 3) zd)) (fun _=>rfl)))))) (zn (zy bC)) zP) (zi (zV (i:=5) vG.nd rfl lo (zw Kl hr dz (za (pv 0) (za (pv 1) (za (pv 2) zd))))) (zi (aT (PW.pt (cR (bS (zL (zw GG hr dz (za (pv 0) (za (pv 1) (za (pv 2) (za (pv 5) zd))))) (fun _=>rfl))) (dF (zG K2 (zw IX hr dz (za (pv 0) (za (pv 1) (za (pv 2) (za (pv 5) zd))))) bC (nomark _))))) (zn (zy bC)) zP) (zn (zy (mI (fR (f8 hr.units) (zS bO (zo zC (by rfl) T.n_len aV (za (aH zJ (pv 5) zk (fun _ _=>rfl)) zd)) (zo zC (by rfl) T.n_len aV (za (aH zJ (pv 5) zk (fun _ _=>rfl)) zd))) (zo zC (by rfl) T.n_len aV (za (pv 3) zd)) (nomark _)) (jI (wT (zw KR hr dz (za (pv 0) (za (pv 1) (za (pv 2) (za (pv 3) zd))))))))))))))),(zQ (by walk_at "r") (zQ (by walk_at "r") (zQ (gF (lC (i8 (gW (bU (zf zg (zf (bR Em (zf (bW (bP zg) zt (eL (aM pM zg zg)) zg) zr)) zr))))) (by walk_at "r")) (bA cL) dL) (by walk_at "r")))),fun xs S R q=>q⟩
theorem ok_law{f:Addr}{fd:su}(F:Fun K "law" "law" s_law f fd):FnOk P w K mg base CX0 18 f fd ["script"] (sp1 (wS K)):=by
 refine F.ok1 hZ (fun v=>[some v,none,none,none,none,none,none,none,none]) (fun _=>rfl) fun aa A outer s H v Q E hr h=>?_;obtain⟨a,ns,rfl,hS,z,q⟩:=h;refine⟨_,(zi (aT (PW.pt (cR (bS (zL (F1 wW hr dz (eW (fE (eW (fE (eW (fE (dW (QE.mk zk) (dW (QE.mk zk) cO))) (eW (fE (dW (QE.mk zk) (IR (QE.mk (pZ rA zk)) cO))) cO))) (dW (QE.mk zk) (dW (QE.mk zk) cO)))) (eW (fE cO) (eW (fE (dW (QE.mk zk) cO)) cO)))) (fun _=>rfl))) (dF (zG (lM hr.units) (F1 Aj hr dz (eW (fE (eW (fE (eW (fE (dW (QE.mk zk) (dW (QE.mk zk) cO))) (eW (fE (dW (QE.mk zk) (dW (QE.mk zk) cO))) cO))) (dW (QE.mk zk) (dW (QE.mk zk) cO)))) (eW (fE (dW (QE.mk zk) cO)) (eW (fE cO) cO)))) (fC zd) (nomark _))))) (zn (zy bC)) zP) (zi (c8 jy rfl (Jw (zS F2 (fC (za (Jt IZ hr dz (pv 0) zk) zd)) (rP Bk (pv 0) (lL zk) (lL zk)))) (zp (i:=1) hZ.nd rfl (je rfl)) (zi (zV (i:=2) hZ.nd rfl lo (zw Ks hr dz (za (pv 1) zd))) (zi (qL (zw Gb hr dz (za (pv 2) (za zk zd))) (cT (n:=3) rfl (zv (zp (i:=3) hZ.nd rfl (je rfl)) (zv (zp (i:=4) hZ.nd rfl (je rfl)) (zv (zp (i:=5) hZ.nd rfl (je rfl)) cF))))) (zi (aT (PW.pt (cR (bS (zL (zw wW hr dz (za (pv 3) (za (pv 4) (za (pv 5) zd)))) (fun _=>rfl))) (dF (bS (zL (zw wW hr dz (za (pv 3) (za (pv 5) (za (pv 4) zd)))) (fun _=>rfl)))))) (zn (zy bC)) zP) (zi (zV (i:=6) hZ.nd rfl lo (zo zC (by rfl) T.n_len aV (za (zw tI hr dz (za (pv 3) (za (pv 4) (za (pv 5) zd)))) zd))) (zi (zV (i:=7) hZ.nd rfl lo (bZ (za (aH zJ (pv 3) zk (fun _ _=>rfl)) (za (zS gM (aH zJ (pv 3) zk (fun _ _=>rfl)) (zw zZ hr dz (za (pv 2) (za zk zd)))) (za (zS bO (aH zJ (pv 3) zk (fun _ _=>rfl)) (zw zZ hr dz (za (pv 2) (za zk zd)))) zd))))) (zi (aT (zG iU (zo zC (by rfl) T.n_len aV (za (zw tI hr dz (za (pv 7) (za (pv 4) (za (pv 5) zd)))) zd)) (pv 6) (nomark _)) (zn (zy bC)) zP) (zi (zV (i:=8) hZ.nd rfl lo (zS bO (pv 4) (rP CK (zS bO (zS bO (pv 5) (pv 4)) (bZ (za zk zd))) vA (lL zk)))) (zn (aT (PW.pt (uX (zG iU (zo zC (by rfl) T.n_len aV (za (pv 4) zd)) zk (nomark _)) (uG (zG (qQ hr.units) (zo zC (by rfl) T.n_len aV (za (zw tI hr dz (za (pv 3) (za (pv 8) (za (pv 5) zd)))) zd)) (bZ (za (pv 6) (za (zS bO (pv 6) zk) zd))) (by rfl))))) (zn (zy bC)) zP)))))))))) (zn (zy bC)))),?_⟩;refine HA (a:=a) (m:=8) (dt:=wA) (gF (lC (i8 (gW (bU (zf (bL (zf (bL (zf (bL (zf zM (zf zM zr))) (zf (bL (zf zM (zf (p9 rB zM) zr))) zr))) (zf zM (zf zM zr)))) (zf (bL zr) (zf (bL (zf zM zr)) zr)))))) (eL (aM yI (bU (zf (bL (zf (bL (zf (bL (zf zM (zf zM zr))) (zf (bL (zf zM (zf zM zr))) zr))) (zf zM (zf zM zr)))) (zf (bL (zf zM zr)) (zf (bL zr) zr)))) (tO zr)))) (bA cL) dL) rfl rfl (GL a) fun σ1 H1 z0 z1 s1=>?_;exact G1 (m:=8) (db:=xJ) (zQ (cU (bU (zf zg zr)) zt) (zQ (cU (lJ (i:=0) (zf zg (zf zM zr))) (dR (zH zt (zH zt (zH zt dZ))))) (zQ (gF (lC (i8 (gW (bU (zf zg (zf zg (zf zg zr)))))) (i8 (gW (bU (zf zg (zf zg (zf zg zr))))))) (bA cL) dL) (zQ (cU (bR iC (zf (bU (zf zg (zf zg (zf zg zr)))) zr)) zt) (zQ (cU (bL (zf (aM fV zg zM) (zf (aM AE (aM fV zg zM) (lJ (i:=0) (zf zg (zf zM zr)))) (zf (aM iA (aM fV zg zM) (lJ (i:=0) (zf zg (zf zM zr)))) zr)))) zt) (zQ (gF (eL (aM gJ (bR iC (zf (bU (zf zg (zf zg (zf zg zr)))) zr)) zg)) (bA cL) dL) (zQ (cU (aM iA zg (nQ AI (aM iA (aM iA zg zg) (bL (zf zM zr))) nW (rG zM))) zt) (gF (uW (eL (aM gJ (bR iC (zf zg zr)) zM)) (eL (aM m8 (bR iC (zf (bU (zf zg (zf zg (zf zg zr)))) zr)) (bL (zf zg (zf (aM iA zg zM) zr)))))) (bA cL) dL)))))))) z0 z1 (s1.seq hS) z (fun n=>Lx a n) dz fun _ H2 _=>q H2
end
end My
theorem Gk:L2.tabsG=[]:=rfl
namespace PySem.W.Fast
def tw3596891497554879447:Unit:=()
def tw14544944721305973686:Unit:=()
def tw2272579638526949714:Unit:=()
def tw505656231895009235:Unit:=()
def tw5466682187640861696:Unit:=()
def tw4849064513538931845:Unit:=()
def tw15999159599601635355:Unit:=()
def tw7837172712633534870:Unit:=()
def tw5843253371038431202:Unit:=()
def tw8642152898143145705:Unit:=()
def tw9530252289807912247:Unit:=()
def tw11317706620847693704:Unit:=()
def tw9263434318153589827:Unit:=()
def tw17638371212607397212:Unit:=()
def tw15677999662748936077:Unit:=()
def tw17489634723205581679:Unit:=()
def tw476255345096742934:Unit:=()
def tw11106216176613649171:Unit:=()
def tw23609079812936971:Unit:=()
def tw705781192615950304:Unit:=()
def tw14721042015333771843:Unit:=()
def tw9203157683951396341:Unit:=()
def tw4608414965911326589:Unit:=()
def tw7788861240499012364:Unit:=()
def tw10070767204368844188:Unit:=()
def tw8466416346641142970:Unit:=()
def tw7223433602450183615:Unit:=()
def tw15510143308513548123:Unit:=()
def tw9672719082272401248:Unit:=()
def tw6518587427608038426:Unit:=()
def tw13367383892140958087:Unit:=()
def tw10880489960508662468:Unit:=()
def tw11308264337719567338:Unit:=()
def tw10259034919289601390:Unit:=()
def tw17018921921725404770:Unit:=()
def tw11680560651752056804:Unit:=()
def tw7885521435840988981:Unit:=()
def tw7539717048361150198:Unit:=()
def tw14513581841724312436:Unit:=()
def tw3478871738681024359:Unit:=()
def tw14918186560002812048:Unit:=()
def tw5931627413818943692:Unit:=()
def tw6890462394760047963:Unit:=()
def tw4874095680251790695:Unit:=()
def tw12090399422488581178:Unit:=()
def tw2771645851017258145:Unit:=()
def tw5917774889156699362:Unit:=()
def tw3722613983932248760:Unit:=()
def tw3715928593732283718:Unit:=()
def tw8449140125082570479:Unit:=()
def tw13730996332907288935:Unit:=()
def tw4430454525440758220:Unit:=()
def tw3739040634412831281:Unit:=()
def tw15610639117746888108:Unit:=()
def tw14214278861251963740:Unit:=()
def tw6981922380717225637:Unit:=()
def tw10478036079776745515:Unit:=()
def tw7621851472067630401:Unit:=()
def tw4180257932974890961:Unit:=()
def tw17104367512906008354:Unit:=()
def tw1342687721265181772:Unit:=()
def tw14375683222529597703:Unit:=()
def tw12777507030828785679:Unit:=()
def tw7104105876630971652:Unit:=()
def tw16128701531100631432:Unit:=()
def tw14944702479925291417:Unit:=()
def tw16030331043527460618:Unit:=()
def tw10403297186899040807:Unit:=()
def tw5030895253864811354:Unit:=()
def tw13033645393200132953:Unit:=()
def tw4066829688043362671:Unit:=()
def tw8299298931922170557:Unit:=()
def tw3570087302846602794:Unit:=()
def tw15628029647714560725:Unit:=()
def tw13445042788119100754:Unit:=()
def tw14558421499326332993:Unit:=()
def tw2302474610721535653:Unit:=()
def tw15835803470431733577:Unit:=()
def tw9903460651526002507:Unit:=()
def tw7008873809856457942:Unit:=()
def tw13038316759534834920:Unit:=()
def tw6970590329549510711:Unit:=()
def tw172566487120795791:Unit:=()
def tw3586880395470396385:Unit:=()
def tw2323951461155561759:Unit:=()
def tw12047262760343019169:Unit:=()
end PySem.W.Fast
open PySem PySem.W PyProof.Rows L2
set_option maxRecDepth 100000 in
set_option maxHeartbeats 0 in
theorem PySem.Challenge.cw_gaugewright_k50_whole_as_many_as_a_cover_holds : PySem.Challenge.rw_gaugewright_k50_whole_as_many_as_a_cover.Holds := by
 w_on;o_law;k_head;(case hw=>w_witness2)
 k_fill
 refine L2.walk_law (l := PySem.Challenge.rw_gaugewright_k50_whole_as_many_as_a_cover) (k := 18) rfl rfl ⟨rfl, by decide, by decide⟩ (fun w h Y => W.kIn_of Y) (fun w h Y => L2.TabsOk.none Gk) ?F
 case F=>
  intro w mg fa h KX G hmg;have d_law:Dd (L2.KOf KX) mg "law" My.s_law ["script"]:=by
   dsimp only[L2.KOf];refine' Dd.mk' KX G ?a ?l ?c ?k ?b
   (case a=>k_is);(case l=>k_is);(case c=>k_is);(case k=>k_is);(case b=>intro _ _ _ _ _ _ us hl;obtain⟨_,rfl⟩:=L2.len1 hl;rfl)
  have T:My.Txt mg:=by
   refine' ⟨ky KX G ?z0,ky KX G ?z1,ky KX G ?z2,ky KX G ?z3,ky KX G ?z4,ky KX G ?z5,ky KX G ?z6,ky KX G ?z7,ky KX G ?z8,ky KX G ?z9,ky KX G ?z10,ky KX G ?z11,ky KX G ?z12,ky KX G ?z13,ky KX G ?z14⟩
   (case z0=>k_is);(case z1=>k_is);(case z2=>k_is);(case z3=>k_is);(case z4=>k_is);(case z5=>k_is);(case z6=>k_is);(case z7=>k_is);(case z8=>k_is);(case z9=>k_is);(case z10=>k_is);(case z11=>k_is);(case z12=>k_is);(case z13=>k_is);(case z14=>k_is)
  have dd:My.Dds (L2.KOf KX) mg:=by constructor<;>(dsimp only[L2.KOf];refine' Dd.mk' KX G ?a ?l ?c ?k ?b;(case a=>k_is);(case l=>k_is);(case c=>k_is);(case k=>k_is);(case b=>(intro _ _ _ _ _ _ us hl;first|(obtain⟨_,rfl⟩:=L2.len1 hl;rfl)|(obtain⟨_,_,rfl⟩:=L2.len2 hl;rfl)|(obtain⟨_,_,_,rfl⟩:=L2.len3 hl;rfl)|(obtain⟨_,_,_,_,rfl⟩:=L2.len4 hl;rfl))))
  obtain⟨f,fd,F,hm,_⟩:=d_law.ex;have e0:=hmg.symm.trans hm;cases e0;exact⟨fd,F.bind1 fun _ _ _ _ _ _ _=>rfl,fun base _ _=>My.ok_law T dd F⟩
#print axioms PySem.Challenge.cw_gaugewright_k50_whole_as_many_as_a_cover_holds
end