import PyProof.Rows.All
import Wide.All
import OpenK.AllK
import Wide.FinOn
import Lean
import PyProof.EqAt
import PyProof.EqKinds
import PyProof.TupleCall
import KE.KTupSum
import KE.KSortTup
import PyProof.SetKind
import PyProof.SetRoads
import PyProof.SetNew
import PyProof.DictKinds
import PyProof.NsDelKeeps
import PyProof.StrWalks
import KE.KEqDict
import KE.KDictList
import PyProof.AttrMissSeq
import PyProof.WalksMore
import KE.KDictOf
import PyProof.Rows.Range3
import KE.KItemsList
import PyProof.FactsAll.dict_3
import KE.KMinKey
import PyProof.Rows.CallKwBuiltin
import PyProof.TupleOfSeq
import KE.KLam
import KE.KNestM
import PyProof.Rows.StrNews
import KE.KIntText
import PyProof.TupleKey
import PyProof.DictFindH
import PyProof.DictRoadsH
import PyProof.DictItems
import PyProof.Rows.TupTab
import Wide.Seal
import PyProof.DictValues
import PySem.Challenge.RW_gaugewright_k40_floors_by_anybody
open Array renaming toList_append→je,length_toList→jr,getElem?_eq_getElem→kt,toList_extract→ni,getElem?_toList→qk
open Bool renaming false_eq_true→fg,and_eq_true→gf,false_ne_true→jh,true_and→js
open False renaming elim→ph
open ForInStep renaming yield→qh
open Int renaming eq_ofNat_of_zero_le→gu,toNat_natCast→lp,zero_add→lv,emod_lt_of_pos→nj,emod_nonneg→nr
open List renaming mem_of_getElem?→bu,replicate→bx,getElem?_eq_getElem→cn,mem_cons_of_mem→cu,length_append→cx,getElem?_concat_length→cz,mem_cons_self→df,size_toArray→fh,getElem?_append_left→fk,map_cons→fm,range→fq,length_cons→ft,getD_eq_getElem?_getD→fu,length_map→fw,Nodup→fx,mem_append_left→gi,not_mem_nil→gk,mem_append_right→gp,length_singleton→gr,append_assoc→gv,getElem?_map→im,mem_cons→ix,eq_nil_of_length_eq_zero→iy,map_map→jb,extract_eq_take_drop→jp,take_add_one→ke,all_eq_true→ki,append_nil→kn,toArray→kq,map_congr_left→kr,getElem?_append_right→kw,take_append_drop→ky,getElem?_zip_eq_some→lg,drop_eq_getElem_cons→lh,take_of_length_le→ls,mem_of_mem_drop→lu,lookup_cons→lx,mem_map_of_mem→me,mem_of_mem_take→nq,getElem?_set_self→nv,length_take→nz,replicate_succ→ou,take_length→oy,foldl→px,getElem?_cons_zero→qb,getElem?_cons_succ→qc,zip_cons_cons→qm,getElem?_drop→qo,foldl_cons→qw,getElem_mem→qx,getElem?_set_ne→rc,find?_cons→rh
open List.cons renaming injEq→qj
open Nat renaming le_refl→ff,ne_of_lt→ig,lt_of_lt_of_le→io,le_trans→jn,lt_succ_of_lt→jx,le_of_lt→ku,zero_le→lc,lt_irrefl→lj,add_zero→sf
open Nat.succ renaming inj→si
open Ne renaming symm→jg
open Option.some renaming inj→gh
open Or renaming inl→fy,inr→sk
open PyProof.Rows renaming wpS_bind→ca,wpS_pure→ci,arrOf→ck,Keyed→cv,pendingOf→cw,SortSt→gq,wpS_forRange→gz,seqObj→jq,wpS_mono→kj,wpS_modify→kz,IntsAre→ll,setArr→nk,SortKind→ow,failedOf→qz,wpS_get→rg
open PySem renaming PyData→bn,wpAny_bind→bo,Value→bp,Shared→bq,wpAny_pure→cq,wpAny→dh,sizeLine→fe,Program→gc,starEach→gx,World→gy,Around→ip,bootBuiltins→iq,wpAny_truthy_bool→ja,compareOp→jt,sizeLine_eq→jv,wpAny_field→jw,wpAny_seqItems→jy,sysModules→kf,wpAny_callSpecial?_slot→kh,wpAny_holding→km,wpAny_newObj_type→ko,wpAny_call_entry→kx,binaryOp→lf,mainGlobals→lw,wpAny_rule→mn,wpAny_setField_rec→ng,NameKind→ny,argBest→on,wpAny_pyIter_tuple→qa,IsPair→qd,FuncData→qf,intItems→qg,wpAny_pyIter_list→qr,cLine→qt,plainId_quiet→qy,wpAny_passesOwn→re,codeAny_builtin→rf,sliceBounds→rn,wpAny_letGo→rp,backTo→sj
open PySem.Around renaming under_plainId→oh
open PySem.Builtin.SmallTypes renaming nextOf→gw
open PySem.Calls renaming spliced_cons→pk
open PySem.F renaming plain_min_loop→ly
open PySem.Heap renaming get?_push_of_some→cp,get?_push_size→fj,lt_size→gg,SameBut→iu,get?_update_other→lq
open PySem.Heap.SameBut renaming update→oq
open PySem.Obj renaming mapSeq→ic
open PySem.PassesOwn renaming never→gj
open PySem.PyData renaming int→bw,tuple→cr,eqv→jj,str→jo,list→li,canLayAll0→lr,canLay0→mj,depthAll→qi
open PySem.SeqAt renaming shaped→gn,canLay_of_shaped→ji
open PySem.Str renaming ofString→rq
open PySem.Value renaming ref→ga,none→qu,type→qv,int→rl
open PySem.W renaming Frag→cy,mg_none_of→jk,kia_one→ql
open Sum renaming inl→kc
open True renaming intro→om
def cf:=@if_neg
def cg:=@if_pos
def dw:=@decide_eq_false
def ge:=@decide_eq_true
def qp:=@of_decide_eq_true
theorem yw{p:Prop}(h:p:=by omega):p:=h
theorem yv{p:Prop}(h:p:=by simp):p:=h
open Option (isSome_iff_exists map_eq_some_iff map_some)
open Nat (add_zero le_of_lt le_refl le_trans lt_irrefl lt_of_lt_of_le lt_succ_of_lt mul_comm mul_le_mul ne_of_gt ne_of_lt succ_mul zero_add zero_le)
open List (all_cons all_eq_true all_map any_cons append_assoc append_nil cons_append drop_eq_getElem_cons drop_length drop_zero eq_nil_of_length_eq_zero extract_eq_take_drop filter_cons find?_cons flatten_cons foldl_cons forIn_cons getD_eq_getElem?_getD getElem?_append_left getElem?_append_right getElem?_concat_length getElem?_cons_succ getElem?_cons_zero getElem?_drop getElem?_eq_getElem getElem?_eq_none getElem?_map getElem?_set_ne getElem?_set_self getElem?_take getElem?_zip_eq_some getElem_mem isPrefixOf_iff_prefix length_append length_cons length_drop length_map length_nil length_set length_singleton length_take lookup_cons map_append map_congr_left map_cons map_drop map_id map_id' map_map map_nil map_take mem_append mem_append_left mem_append_right mem_cons mem_cons_of_mem mem_cons_self mem_filter mem_iff_getElem? mem_map mem_map_of_mem mem_of_getElem? mem_of_mem_drop mem_of_mem_take mem_range mem_reverse mem_singleton nil_append nodup_append nodup_cons nodup_nil not_mem_nil of_mem_zip pairwise_cons pairwise_map range_succ replicate_succ reverse_cons set_cons_succ set_cons_zero size_toArray sum_cons take_add_one take_append_drop take_length take_of_length_le take_zero zipIdx_cons zip_cons_cons)
open PySem.Heap (get?_push_of_some get?_push_size get?_update_other get?_update_self lt_size size_push)
open Array (getElem?_toList length_toList toList_append toList_extract)
theorem dz{p:Prop}[Decidable p](h:decide p=true:=by rfl):p:=qp h
set_option Elab.async false
set_option linter.all false
set_option maxRecDepth 100000
set_option maxHeartbeats 8000000
noncomputable section
namespace L2
open PySem PySem.Spec PyProof.Rows
section
abbrev Key:=Sum Int Str
def mN:Key->bp->Bool
 | .inl k,v=>Value.isInt k v
 | .inr x,v=>Value.isStrOf x v
def Ix(w:gy):Key->Int
 | .inl k=>hashInt k
 | .inr x=>hashStr w x
theorem gX:∀{k:Key}{v:bp},mN k v=true->(∃i t,k=kc i/\v=rl i t)\/(∃x t,k=Sum.inr x/\v=Value.str x t)
 | .inl i,v,h=>by
  obtain⟨t,e⟩:=Value.isInt_shape (k:=i) (v:=v) h;exact .inl ⟨i,t,rfl,e⟩
 | .inr x,v,h=>by
  obtain⟨t,e⟩:=Value.isStrOf_shape (x:=x) (v:=v) h;exact .inr ⟨x,t,rfl,e⟩
theorem GM(i:Int)(t:Tok):mN (.inl i) (.int i t)=true:=by simp[mN,Value.isInt]
theorem JS(x:Str)(t:Tok):mN (.inr x) (.str x t)=true:=by simp[mN,Value.isStrOf]
theorem Fq(a b:Int):decide ((kc a:Key)=kc b)=(a==b):=by
 by_cases e:a=b
 ·subst e;simp
 ·have h:¬(kc a:Key)=kc b:=fun q=>e (Sum.inl.inj q);rw[dw h];exact(beq_eq_false_iff_ne.mpr e).symm
theorem Gm(a b:Str):decide ((Sum.inr a:Key)=Sum.inr b)=decide (a=b):=by
 by_cases e:a=b
 ·subst e;simp
 ·have h:¬(Sum.inr a:Key)=Sum.inr b:=fun q=>e (Sum.inr.inj q);rw[dw h,dw e]
theorem JN(a:Int)(b:Str):decide ((kc a:Key)=Sum.inr b)=false:=dw (fun q=>nomatch q)
theorem Gn(a:Str)(b:Int):decide ((Sum.inr a:Key)=kc b)=false:=dw (fun q=>nomatch q)
def cX(prog:gc)(w:gy):PySem.KeyKind prog w Key where
 is:=mN
 hash:=Ix w
 inj:=fun v a b ha hb=>by
  rcases gX ha with ⟨i,t,rfl,rfl⟩|⟨x,t,rfl,rfl⟩
  ·rcases gX hb with ⟨j,u,rfl,e⟩|⟨y,u,rfl,e⟩
   ·injection e with e1 _;rw[e1]
   ·exact nomatch e
  ·rcases gX hb with ⟨j,u,rfl,e⟩|⟨y,u,rfl,e⟩
   ·exact nomatch e
   ·injection e with e1 _;rw[e1]
 byValue:=fun k v h=>by
  rcases gX h with ⟨i,t,rfl,rfl⟩|⟨x,t,rfl,rfl⟩<;>rfl
 pyHash:=fun hv h=>by
  rcases gX hv with ⟨i,t,rfl,rfl⟩|⟨x,t,rfl,rfl⟩
  ·exact wpAny_pyHash_int h
  ·exact wpAny_pyHash_str h
 eqBool:=fun hu hv h=>by
  rcases gX hu with ⟨i,t,rfl,rfl⟩|⟨x,t,rfl,rfl⟩
  ·rcases gX hv with ⟨j,u,rfl,rfl⟩|⟨y,u,rfl,rfl⟩
   ·rw[Fq]at h;exact wpAny_eqBool_int h
   ·rw[JN]at h;exact SeqAt.EqAt.int_str i t y u _ _ _ _ h
  ·rcases gX hv with ⟨j,u,rfl,rfl⟩|⟨y,u,rfl,rfl⟩
   ·rw[Gn]at h;exact SeqAt.EqAt.str_int x t j u _ _ _ _ h
   ·rw[Gm]at h;exact wpAny_eqBool_str h
 «strs»:=fun k x t v h=>by
  rcases gX h with ⟨i,u,rfl,e⟩|⟨y,u,rfl,e⟩
  ·exact nomatch e
  ·injection e with e1 _
   subst e1;cases v<;>rfl
theorem IY(prog:gc)(w:gy)(i:Int)(t:Tok):(cX prog w).is (.inl i) (.int i t)=true:=GM i t
theorem Fi(prog:gc)(w:gy)(x:Str)(t:Tok):(cX prog w).is (.inr x) (.str x t)=true:=JS x t
end
section
inductive V where
 |non|bl (b:Bool)|int (i:Int)|str (x:Str)|byt (b:Array UInt8)|flt (b:UInt64)|ref (a:Addr)|ty (n:String)
 deriving DecidableEq
def RelV:V->bp->Prop
 | .non,u=>u=qu
 | .bl b,u=>u=Value.bool b
 | .int i,u=>∃t,u=rl i t
 | .str x,u=>∃t,u=Value.str x t
 | .byt b,u=>∃t,u=Value.bytes b t
 | .flt b,u=>∃t,u=Value.float b t
 | .ref a,u=>u=ga a
 | .ty n,u=>u=qv n
abbrev Vals:List V->List bp->Prop:=Paired RelV
theorem Vals.length{xs:List V}{us:List bp}(r:Vals xs us):xs.length=us.length:=Paired.length r
theorem Vals.get:∀{xs:List V}{us:List bp}{i:Nat}{x:V},Vals xs us->xs[i]?=some x->∃u,us[i]?=some u/\RelV x u
 |_,_,_,_,.nil,e=>by simp at e
 |_,_,0,_,.cons r _,e=>by simp at e;subst e;exact⟨_,rfl,r⟩
 |_,_,i+1,x,.cons _ t,e=>by
  obtain⟨u,h1,h2⟩:=Vals.get (i:=i) (x:=x) t (by simpa using e);exact⟨u,by simpa using h1,h2⟩
theorem Vals.set{x:V}{u:bp}(r:RelV x u):∀{xs:List V}{us:List bp} (i:Nat),Vals xs us->Vals (xs.set i x) (us.set i u)
 |_,_,_,.nil=>.nil
 |_,_,0,.cons _ t=>.cons r t
 |_,_,i+1,.cons q t=>.cons q (Vals.set r i t)
theorem Vals.append:∀{xs ys:List V}{us ws:List bp},Vals xs us->Vals ys ws->Vals (xs++ys) (us++ws)
 |_,_,_,_,.nil,s=>s
 |_,_,_,_,.cons r t,s=>.cons r (Vals.append t s)
theorem Vals.take:∀{xs:List V}{us:List bp} (n:Nat),Vals xs us->Vals (xs.take n) (us.take n)
 |_,_,0,_=>.nil
 |_,_,_+1,.nil=>.nil
 |_,_,n+1,.cons r t=>.cons r (Vals.take n t)
theorem Vals.drop:∀{xs:List V}{us:List bp} (n:Nat),Vals xs us->Vals (xs.drop n) (us.drop n)
 |_,_,0,r=>r
 |_,_,_+1,.nil=>.nil
 |_,_,n+1,.cons _ t=>Vals.drop n t
def RelO:Option V->Option bp->Prop
 |some v,some u=>RelV v u
 |none,none=>True
 |_,_=>False
def KV{κ:Type}:List (κ×V)->List (κ×bp)->Prop:=Paired fun(p:κ×V) (q:κ×bp)=>p.1=q.1/\RelV p.2 q.2
def kV:Key->V
 | .inl i=>.int i
 | .inr x=>.str x
inductive HO where
 |lst (xs:List V)
 |tup (xs:List V)
 |dK (kvs:List (Key×V))|dT (kvs:List (List Key×V))
 |set (S:Int->Bool) (n:Nat)
 |ins (C dx:Addr) (fs:List (Str×V))
 |own (x:Addr)
 |xd (fs:List (Str×V))
 |met (f x:Addr)
 |rng (lo hi:Int)
 |frz (o:Obj) (u:HO)
 |tbl (ps:Array bp)
 |ext (φ:Heap->Prop)
abbrev Hp:=Addr->Option HO
def upd(H:Hp)(a:Addr)(o:HO):Hp:=fun b=>if b=a then some o else H b
theorem dM{H:Hp}{a:Addr}{o:HO}:upd H a o a=some o:=by unfold upd;rw[cg rfl]
theorem zZ{H:Hp}{a b:Addr}{o:HO}(h:b≠a):upd H a o b=H b:=by unfold upd;rw[cf h]
theorem E9{H:Hp}{a:Addr}{o u:HO}:upd (upd H a o) a u=upd H a u:=by
 funext b;unfold upd;split<;>rfl
theorem GH{H:Hp}{a b:Addr}{o u:HO}(h:H a=some o)(h':H b=some u)(d:o≠u):a≠b:=by
 intro e;subst e;rw[h]at h';exact d (gh h')
theorem dY{H:Hp}{a b:Addr}{o:HO}(h:H a=some o)(h':H b=none):a≠b:=by
 intro e;subst e;rw[h]at h';cases h'
def TblOk(H:Hp)(ps qs:Array bp):Prop:=qs = #[]\/∃(l c:bp) (q:Str) (t:Tok) (k:Addr) (oc:Obj) (vs:Array bp) (t':Tok),ps = #[l,c,.str q t]/\qs = #[l,c,.ref k]/\H k=some (.frz oc (.own 0))/\oc.data=.fields vs/\vs[1]?=some (.str q t')
theorem TblOk.stay{H H':Hp}{ps qs:Array bp}(x:TblOk H ps qs)(hf:∀b o u,H b=some (.frz o u)->H' b=some (.frz o u)):TblOk H' ps qs:=by
 rcases x with x|⟨l,c,q,t,k,oc,vs,t',e1,e2,e3,r⟩
 ·exact .inl x
 ·exact .inr ⟨l,c,q,t,k,oc,vs,t',e1,e2,hf _ _ _ e3,r⟩
section
variable (P:gc) (w:gy)
def ObjOk(H:Hp)(h:Heap)(a:Addr):HO->Prop
 | .lst xs=>xs.length<=fe/\∃(its:List bp) (n:Nat),Vals xs its/\h.get? a=some { cls:=.type "list",data:=.seq its.toArray n }
 | .tup xs=>(xs.length<=fe/\∃o:Obj,h.get? a=some o/\o.dict=none)/\∃its:List bp,Vals xs its/\IsTup h a its.toArray
 | .dK kvs=>kvs.length<=fe/\(a==kf)=false/\∃vs,KV kvs vs/\h.DictOf (cX P w) a vs
 | .dT kvs=>kvs.length<=fe/\(a==kf)=false/\∃xs:List (List Key×Addr×bp),
   Paired (fun(p:List Key×V) (q:List Key×Addr×bp)=>p.1=q.1/\H q.2.1=some (.tup (p.1.map kV))/\RelV p.2 q.2.2) kvs xs /\
   ∃o es ep,h.get? a=some o/\o.ExactDict/\o.data=.dict es ep/\es.toList=xs.map (entryOfKey (tupleKind (cX P w)))/\(xs.map (·.1)).Nodup
 | .set S n=>h.SetOf (intKind P w) a S n
 | .ins C dx fs=>H dx=some (.own a)/\fs.length<=1000/\dx≠a/\h.get? a=some (W.instObj C dx) /\
   ∃mA,h.Ns1 dx mA/\(∀f,RelO (fs.lookup f) (mA f))/\PySem.Within mA (fs.map (·.1))
 | .own _=>∃o,h.get? a=some o
 | .xd fs=>∃mA,h.Ns1 a mA/\∀f,RelO (fs.lookup f) (mA f)
 | .rng lo hi=>∃t u v,h.get? a=some { cls:=.type "range",data:=.fields #[.int lo t,.int hi u,.int 1 v] }
 | .frz o u=>h.get? a=some o/\ObjOk H h a u
 | .tbl ps=>∃qs:Array bp,h.get? a=some { cls:=.none,data:=.fields qs }/\TblOk H ps qs
 | .met f x=>h.get? a=some (W.methodObj (.ref f) (.ref x))
 | .ext φ=>φ h/\(∃o,h.get? a=some o)/\∀h1 h2:Heap,φ h1->(∀o,h1.get? a=some o->h2.get? a=some o)->φ h2
def HOk(H:Hp)(h:Heap):Prop:=∀a o,H a=some o->ObjOk P w H h a o
end
section
variable {P:gc}{w:gy}{H H':Hp}{h h':Heap}{a:Addr}{o:HO}
theorem ObjOk.lt(x:ObjOk P w H h a o):a<h.objs.size:=by
 cases o with
 |lst xs=>obtain⟨_,_,_,_,e⟩:=x;exact gg e
 |tup xs=>obtain⟨_,_,_,p⟩:=x;exact p.lt
 |dK kvs=>obtain⟨_,_,_,_,o,_,_,e,_⟩:=x;exact gg e
 |dT kvs=>obtain⟨_,_,_,_,o,_,_,e,_⟩:=x;exact gg e
 |set S n=>obtain⟨o,_,_,_,e,_⟩:=x;exact gg e
 |ins C dx fs=>obtain⟨_,_,_,e,_⟩:=x;exact gg e
 |own y=>obtain⟨_,e⟩:=x;exact gg e
 |xd fs=>obtain⟨_,⟨_,_,_,e,_⟩,_⟩:=x;exact gg e
 |rng lo hi=>obtain⟨_,_,_,e⟩:=x;exact gg e
 |frz ob u=>obtain⟨e,_⟩:=x;exact gg e
 |tbl ps=>obtain⟨_,e,_⟩:=x;exact gg e
 |met f y=>exact gg (show h.get? a=some _ from x)
 |ext φ=>obtain⟨_,⟨_,e⟩,_⟩:=x;exact gg e
theorem Paired.mapP{α β:Type}{F G:α->β->Prop}:∀{l₁:List α}{l₂:List β},Paired F l₁ l₂->(∀a b,F a b->G a b)->Paired G l₁ l₂
 |_,_,.nil,_=>.nil
 |_,_,.cons r t,f=>.cons (f _ _ r) (Paired.mapP t f)
theorem ObjOk.stay(x:ObjOk P w H h a o)(k:∀b u,(b=a\/H b=some (.own a))->h.get? b=some u->h'.get? b=some u)
  (ho:∀b,H b=some (.own a)->H' b=some (.own a)) (ht:∀b xs,H b=some (.tup xs)->H' b=some (.tup xs))
  (hf:∀b o u,H b=some (.frz o u)->H' b=some (.frz o u):=by first|exact fun _ _ _ q=>q|(intro b o u q;rw[zZ (dY q (by assumption))];exact q)):ObjOk P w H' h' a o:=by
 induction o with
 |lst xs=>obtain⟨z,aa,n,r,e⟩:=x;exact⟨z,aa,n,r,k _ _ (.inl rfl) e⟩
 |tup xs=>obtain⟨⟨z,o2,e2,d2⟩,aa,r,ob,e,c⟩:=x;exact⟨⟨z,o2,k _ _ (.inl rfl) e2,d2⟩,aa,r,ob,k _ _ (.inl rfl) e,c⟩
 |dK kvs=>obtain⟨z,y,vs,r,ob,es,ep,e,c⟩:=x;exact⟨z,y,vs,r,ob,es,ep,k _ _ (.inl rfl) e,c⟩
 |dT kvs=>
  obtain⟨z,y,xs,r,ob,es,ep,e,c⟩:=x;exact⟨z,y,xs,Paired.mapP r fun p q z=>⟨z.1,ht _ _ z.2.1,z.2.2⟩,ob,es,ep,k _ _ (.inl rfl) e,c⟩
 |set S n=>obtain⟨ob,es,ep,t,e,c⟩:=x;exact⟨ob,es,ep,t,k _ _ (.inl rfl) e,c⟩
 |ins C dx fs=>
  obtain⟨d,z,ne,e,mA,⟨od,es,ep,e2,c⟩,r⟩:=x;exact⟨ho _ d,z,ne,k _ _ (.inl rfl) e,mA,⟨od,es,ep,k _ _ (.inr d) e2,c⟩,r⟩
 |own y=>obtain⟨ob,e⟩:=x;exact⟨ob,k _ _ (.inl rfl) e⟩
 |xd fs=>obtain⟨mA,⟨od,es,ep,e,c⟩,r⟩:=x;exact⟨mA,⟨od,es,ep,k _ _ (.inl rfl) e,c⟩,r⟩
 |rng lo hi=>obtain⟨t,u,v,e⟩:=x;exact⟨t,u,v,k _ _ (.inl rfl) e⟩
 |frz ob u ih=>obtain⟨e,q⟩:=x;exact⟨k _ _ (.inl rfl) e,ih q⟩
 |tbl ps=>
  obtain⟨qs,e,q⟩:=x;exact⟨qs,k a _ (.inl rfl) e,q.stay hf⟩
 |met f y=>
  have e:h.get? a=some (W.methodObj (.ref f) (.ref y)):=x;show h'.get? a=some (W.methodObj (.ref f) (.ref y));exact k a _ (.inl rfl) e
 |ext φ=>obtain⟨p,⟨o,e⟩,st⟩:=x;exact⟨st _ _ p fun o q=>k _ _ (.inl rfl) q,⟨o,k _ _ (.inl rfl) e⟩,st⟩
theorem HOk.lt(x:HOk P w H h)(e:H a=some o):a<h.objs.size:=(x a o e).lt
theorem HOk.fresh(x:HOk P w H h)(e:h.objs.size<=a):H a=none:=by
 cases q:H a with
 |none=>rfl
 |some u=>exact absurd (io (x.lt q) e) (lj _)
theorem HOk.kept(x:HOk P w H h)(k:∀b u,h.get? b=some u->h'.get? b=some u):HOk P w H h':=fun a o e=>
 (x a o e).stay (fun b u _ q=>k b u q) (fun _ q=>q) fun _ _ q=>q
theorem HOk.laid(x:HOk P w H h)(k:∀b u,h.get? b=some u->h'.get? b=some u)(hp:h.objs.size<=a)(aa:ObjOk P w (upd H a o) h' a o):HOk P w (upd H a o) h':=fun b u e=>by
 have hn:=x.fresh hp;by_cases hb:b=a
 ·subst hb;rw[dM]at e;cases e;exact aa
 ·rw[zZ hb]at e;exact(x b u e).stay (fun c v _ q=>k c v q) (fun c q=>by rw[zZ (dY q hn)];exact q) fun c xs q=>by rw[zZ (dY q hn)];exact q
end
def Rd(H:Hp)(a:Addr)(u:HO):Prop:=H a=some u\/∃o,H a=some (.frz o u)
theorem Rd.ok{P:gc}{w:gy}{H:Hp}{h:Heap}{a:Addr}{u:HO}(r:Rd H a u)(x:HOk P w H h):ObjOk P w H h a u:=by
 rcases r with r|⟨o,r⟩
 ·exact x a u r
 ·obtain⟨_,q⟩:=x a _ r;exact q
def Mut:Option HO->Prop
 |some (.lst _)=>True
 |some (.dK _)=>True
 |some (.dT _)=>True
 |some (.set _ _)=>True
 |some (.ins _ _ _)=>True
 |some (.ext _)=>True
 |_=>False
section
variable {P:gc}{w:gy}{H:Hp}{h h':Heap}{x e:Addr}{o':HO}
theorem HOk.write(ok:HOk P w H h)(mu:Mut (H x))(he:e=x\/H e=some (.own x))(k:∀b u,b≠e->h.get? b=some u->h'.get? b=some u)(ae:∃u,h'.get? e=some u)
  (new:ObjOk P w (upd H x o') h' x o'):HOk P w (upd H x o') h':=fun b u q=>by
 have aa:∀c y,H c=some (.own y)->c≠x:=fun c y r z=>by subst z;rw[r]at mu;exact mu
 have ab:∀c xs,H c=some (.tup xs)->c≠x:=fun c xs r z=>by subst z;rw[r]at mu;exact mu
 have ac:∀c o u,H c=some (.frz o u)->c≠x:=fun c o u r z=>by subst z;rw[r]at mu;exact mu
 by_cases hb:b=x
 ·subst hb;rw[dM]at q;cases q;exact new
 ·rw[zZ hb]at q;by_cases hbe:b=e
  ·have q':H b=some (.own x):=by
    rcases he with z|z
    ·exact absurd (hbe.trans z) hb
    ·rw[hbe];exact z
   rw[q]at q';cases q';obtain⟨v,hv⟩:=ae;exact⟨v,by rw[hbe];exact hv⟩
  ·refine(ok b u q).stay (fun c v hc r=>k c v ?_ r) (fun c r=>by rw[zZ (aa c b r)];exact r) (fun c xs r=>by rw[zZ (ab c xs r)];exact r) fun c o u r=>by rw[zZ (ac c o u r)];exact r
   rcases hc with rfl|hc
   ·exact hbe
   ·rintro rfl;rcases he with z|z
    ·exact aa c b hc z
    ·rw[hc]at z;cases z;exact hb rfl
end
structure Un(fs ex:List Addr)(H H':Hp)(h h':Heap):Prop where
 keep:∀b o,h.get? b=some o->H b=none->b∉fs->b∉ex->h'.get? b=some o
 slot:∀b o,h.get? b=some o->H b=none->b∈fs->b∉ex->∃sl,h'.get? b=some { o with slots:=sl }
 free:∀b o,h.get? b=some o->H b=none->b∉ex->H' b=none
 there:∀b o,h.get? b=some o->b∉ex->∃o',h'.get? b=some o'
 tups:∀b xs,H b=some (.tup xs)->H' b=some (.tup xs)
 frzs:∀b o u,H b=some (.frz o u)->H' b=some (.frz o u)
 tbls:∀b ps,H b=some (.tbl ps)->H' b=some (.tbl ps)
section
variable {fs fs' ex ex':List Addr}{H H1 H2:Hp}{h h1 h2 h':Heap}{a x e:Addr}{o:HO}
theorem Un.any(u:Un fs ex H H1 h h1){b:Addr}{ob:Obj}(q:h.get? b=some ob)(n:H b=none)(hx:b∉ex):∃sl,h1.get? b=some { ob with slots:=sl }:=by
 by_cases hb:b∈fs
 ·exact u.slot b ob q n hb hx
 ·exact⟨ob.slots,u.keep b ob q n hb hx⟩
theorem Un.trans(a:Un fs ex H H1 h h1)(b:Un fs ex H1 H2 h1 h2):Un fs ex H H2 h h2 where
 keep:=fun c ob q n hc hx=>b.keep c ob (a.keep c ob q n hc hx) (a.free c ob q n hx) hc hx
 slot:=fun c ob q n hc hx=>by
  obtain⟨sl,e1⟩:=a.slot c ob q n hc hx;obtain⟨aa,e2⟩:=b.slot c _ e1 (a.free c ob q n hx) hc hx;exact⟨aa,e2⟩
 free:=fun c ob q n hx=>by
  obtain⟨o',e1⟩:=a.there c ob q hx;exact b.free c o' e1 (a.free c ob q n hx) hx
 there:=fun c ob q hx=>by
  obtain⟨o',e1⟩:=a.there c ob q hx;exact b.there c o' e1 hx
 tups:=fun c xs q=>b.tups c xs (a.tups c xs q)
 frzs:=fun c ob xs q=>b.frzs c ob xs (a.frzs c ob xs q)
 tbls:=fun c ps q=>b.tbls c _ (a.tbls c ps q)
theorem Un.kept(k:∀b u,h.get? b=some u->h'.get? b=some u):Un fs ex H H h h':=
 ⟨fun b ob q _ _ _=>k b ob q,fun b ob q _ _ _=>⟨ob.slots,k b ob q⟩,fun _ _ _ n _=>n,fun b ob q _=>⟨ob,k b ob q⟩,fun _ _ q=>q,fun _ _ _ q=>q,fun _ _ q=>q⟩
theorem Un.refl:Un fs ex H H h h:=Un.kept fun _ _ q=>q
theorem Un.laid(k:∀b u,h.get? b=some u->h'.get? b=some u)(hp:h.objs.size<=a)(hn:H a=none):Un fs ex H (upd H a o) h h' where
 keep:=fun b u q _ _ _=>k b u q
 slot:=fun b u q _ _ _=>⟨u.slots,k b u q⟩
 free:=fun b u q n _=>by rw[zZ (ig (io (gg q) hp))];exact n
 there:=fun b u q _=>⟨u,k b u q⟩
 tups:=fun b xs q=>by rw[zZ (dY q hn)];exact q
 frzs:=fun b u xs q=>by rw[zZ (dY q hn)];exact q
 tbls:=fun b ps q=>by rw[zZ (dY q hn)];exact q
theorem Un.write(mu:Mut (H x))(he:e=x\/H e=some (.own x))(k:∀b u,b≠e->h.get? b=some u->h'.get? b=some u)(aa:∃u,h'.get? e=some u):Un fs ex H (upd H x o) h h':=by
 have hx:∀b,H b=none->b≠x:=fun b n z=>by subst z;rw[n]at mu;exact mu
 have hb:∀b,H b=none->b≠e:=fun b n z=>by
  subst z;rcases he with r|r
  ·exact hx b n r
  ·rw[n]at r;cases r
 have hm:∀b u,H b=some u->¬ Mut (some u)->b≠x:=fun b u q nm z=>by subst z;rw[q]at mu;exact nm mu
 refine⟨fun b u q n _ _=>k b u (hb b n) q,fun b u q n _ _=>⟨u.slots,k b u (hb b n) q⟩,fun b u q n _=>by rw[zZ (hx b n)];exact n,fun b u q _=>?_,
  fun b xs q=>by rw[zZ (hm b _ q fun z=>z)];exact q,fun b u xs q=>by rw[zZ (hm b _ q fun z=>z)];exact q,fun b ps q=>by rw[zZ (hm b _ q fun z=>z)];exact q⟩
 by_cases hbe:b=e
 ·subst hbe;exact aa
 ·exact⟨u,k b u hbe q⟩
theorem Un.mono(u:Un fs ex H H1 h h1)(hs:∀b∈fs,b∈fs')(hx:∀b∈ex,b∈ex'):Un fs' ex' H H1 h h1:=
 ⟨fun b ob q n hb he=>u.keep b ob q n (fun z=>hb (hs b z)) fun z=>he (hx b z),fun _ _ q n _ he=>u.any q n fun z=>he (hx _ z),fun b ob q n he=>u.free b ob q n fun z=>he (hx b z),fun b ob q he=>u.there b ob q fun z=>he (hx b z),u.tups,u.frzs,u.tbls⟩
end
def trk(h:Heap)(H:Hp):List Addr:=(fq h.objs.size).filter fun a=>(H a).isSome
def hG(h:Heap)(H:Hp):Heap:=W.hideAll h (trk h H)
theorem LR(h:Heap)(H:Hp):(hG h H).objs.size=h.objs.size:=W.hideAll_size _ _
theorem Fj{h:Heap}{H:Hp}{b:Addr}{o:Obj}(e:h.get? b=some o)(n:H b=none):(hG h H).get? b=some o:=
 W.hideAll_get _ e fun hm=>by
  have q:(H b).isSome=true:=(mem_filter.mp hm).2;rw[n]at q;simp at q
theorem Fd{h:Heap}{H:Hp}{b:Addr}{o:Obj}(e:(hG h H).get? b=some o):h.get? b=some o/\H b=none:=by
 have e':h.get? b=some o:=W.of_hideAll (trk h H) e;refine⟨e',?_⟩;cases q:H b with
 |none=>rfl
 |some x=>
  have hm:b∈trk h H:=mem_filter.mpr ⟨mem_range.mpr (gg e'),by simp[q]⟩;have z:(hG h H).get? b=none:=W.hideAll_none (trk h H) hm;rw[z]at e;cases e
def G1(g h:Heap)(L:Addr):List (Addr×Obj):=(fq h.objs.size).filterMap fun a=>if a=L\/(g.get? a).isSome=true then none else (h.get? a).map fun o=>(a,o)
def rest(g h:Heap)(L d:Addr):List (Addr×Obj):=(G1 g h L).filter fun p=>decide (p.1≠d)
end
section
def tabsG:List ((Addr×Addr)×Array bp):=[]
def BltAt(base:Heap)(mg:Str->Option bp):Prop:=∃bm ob,mg "__builtins__" = some (.ref bm)/\bm≠builtinsNs/\base.get? bm=some ob/\ob.cls=.type "module"/\ob.dict=some builtinsNs/\ob.data=.plain
structure Frf(fs:List Addr)(H:Hp):Prop where
 free:∀b∈fs,H b=none
 tab:∀q∈tabsG,H q.1.2=some (.tbl q.2)
structure Mod(K:cy)(mg:Str->Option bp)(base:Heap):Prop where
 kin:K.In base
 glob:base.Ns lw mg
 blt:∃mb,base.Ns builtinsNs mb/\∀x:Str,x ≠ "__name__"->mb x=iq x
 nolimit:base.NoLimit
 bm:BltAt base mg
 hd:∀q∈tabsG,W.CodeHd base q.1.1 q.1.2
structure Cx where
 prog:gc
 w:gy
 K:cy
 mg:Str->Option bp
 base:Heap
 A:ip
 N:List Str
 s₀:bq
 H₀:Hp
 env:Env
 outer:List Env
 stack:List Env
 ex:List Addr
 fn:Str->Bool
 calm:Bool
 pn:List (Addr×Obj)
 xe:bp->bq->Prop
def frs(l:List Env):List Addr:=l.filterMap (·.frame)
abbrev Cx.fs (X:Cx):List Addr:=frs X.outer
def Vis(sc:Scope)(x:Str):Prop:=sc.names.lookup x=some .local\/sc.names.lookup x=some .cell\/sc.names.lookup x=some .free
def Loc(sc:Scope)(x:Str):Prop:=sc.names.lookup x=some .local\/sc.names.lookup x=some .cell
def Look(env:Env)(h:Heap)(m:Str->Option bp)(x:Str)(u:bp):Prop:=
 (env.kindOf x=some .local/\m x=some u)\/((env.kindOf x=some .cell\/env.kindOf x=some .free)/\∃c,env.cells.lookup x=some c/\h.IsCell c (some u))
structure Cx.Ok(X:Cx):Prop where
 mod:Mod X.K X.mg X.base
 kind:X.env.scope.kind=.function
 glob:X.env.globals=lw
 blt:X.env.builtins=builtinsNs
 above:X.s₀.heap.objs.size<=X.env.locals
 inj:∀x y c,X.env.cells.lookup x=some c->X.env.cells.lookup y=some c->x=y
 has:∀x,(X.env.kindOf x=some .cell\/X.env.kindOf x=some .free)->∃c,X.env.cells.lookup x=some c
 cab:∀x c,X.fn x=true->X.env.cells.lookup x=some c->X.s₀.heap.objs.size<=c
 hd:X.calm=true->X.A.handled=none
 frames:X.A.frames=some X.stack
 stk:X.stack=X.outer\/(X.stack=X.env::X.outer/\X.env.frame=some X.env.locals)
 exf:∀b∈X.ex,b≠X.env.locals/\∀x c,X.env.cells.lookup x=some c->c≠b
 bs:∀b o,X.base.get? b=some o->X.s₀.heap.get? b=some o/\X.H₀ b=none
 bsz:X.base.objs.size<=X.s₀.heap.objs.size
 noex:∀b o,X.base.get? b=some o->b∉X.ex
 exfs:∀b∈X.ex,b∉X.fs
 funs:X.s₀.heap.FunFrames X.base X.outer
 frf:Frf X.fs X.H₀
structure Inv(X:Cx)(zk:List (Addr×Obj))(σ:List (Option V))(H:Hp)(s:bq):Prop where
 ok:X.Ok
 os:s.os=X.s₀.os
 bare:AllBare s.gens
 base:Un X.fs X.ex X.H₀ H X.s₀.heap s.heap
 loc:∃m,s.heap.Ns X.env.locals m/\∀(i:Nat) (x:Str) (v:V),X.N[i]?=some x->σ[i]?=some (some v)->Vis X.env.scope x->∃u,RelV v u/\Look X.env s.heap m x u
 cell:∀x c,X.env.cells.lookup x=some c->∃v,s.heap.IsCell c v
 free:H X.env.locals=none
 freeC:∀x c,X.env.cells.lookup x=some c->H c=none
 pin:∀p∈X.pn++zk,s.heap.get? p.1=some p.2/\H p.1=none/\p.1≠X.env.locals/\p.1∉X.fs/\∀v,p.2.data≠.cell v
 hok:HOk X.prog X.w H s.heap
 len:σ.length=X.N.length
section
variable {X:Cx}{zk:List (Addr×Obj)}{σ:List (Option V)}{H H':Hp}{s:bq}{h':Heap}
theorem Cx.Ok.nofr(ok:X.Ok){b:Addr}{o:Obj}(e:X.base.get? b=some o):b∉X.fs:=fun hb=>by
 have:=(ok.funs.mem hb).1;rw[e]at this;cases this
theorem Inv.bs(I:Inv X zk σ H s):∀b o,X.base.get? b=some o->s.heap.get? b=some o/\H b=none:=fun b o e=>
 ⟨I.base.keep b o (I.ok.bs b o e).1 (I.ok.bs b o e).2 (I.ok.nofr e) (I.ok.noex b o e),I.base.free b o (I.ok.bs b o e).1 (I.ok.bs b o e).2 (I.ok.noex b o e)⟩
theorem Inv.bk(I:Inv X zk σ H s):∀b o,X.base.get? b=some o->s.heap.get? b=some o:=fun b o e=>(I.bs b o e).1
theorem Inv.mod(I:Inv X zk σ H s):Mod X.K X.mg X.base:=I.ok.mod
theorem Inv.kIn(I:Inv X zk σ H s):X.K.In s.heap:=I.ok.mod.kin.keeps I.bk
theorem Inv.lt(I:Inv X zk σ H s):X.env.locals<s.heap.objs.size:=let ⟨_,hn,_⟩:=I.loc;hn.lt
theorem Inv.sz(I:Inv X zk σ H s):X.s₀.heap.objs.size<=s.heap.objs.size:=jn I.ok.above (ku I.lt)
theorem Inv.nofs(I:Inv X zk σ H s){a:Addr}(h:s.heap.objs.size<=a):a∉X.fs:=fun hb=>by
 obtain⟨_,o,ho,_⟩:=I.ok.funs.mem hb;exact absurd (io (gg ho) (jn I.sz h)) (lj _)
theorem Inv.cne(I:Inv X zk σ H s):∀x c,X.env.cells.lookup x=some c->c≠X.env.locals:=fun x c e z=>by
 obtain⟨v,o,ho,hd⟩:=I.cell x c e;obtain⟨m,⟨o',es,ep,aa,q,_⟩,_⟩:=I.loc;rw[z,aa]at ho;cases ho;rw[q]at hd;cases hd
theorem Inv.funs(I:Inv X zk σ H s):s.heap.FunFrames X.base X.outer:=by
 have all:∀(l:List Env),(∀b∈frs l,b∈X.fs)->X.s₀.heap.FunFrames X.base l->s.heap.FunFrames X.base l:=by
  intro l;induction l with
  |nil=>intro _ _;trivial
  |cons env r ih=>
   intro hs hl;obtain⟨hk,⟨L,o,hf,hn,ho,hd⟩,hr⟩:=hl;have hL:L∈X.fs:=hs L (by unfold frs;rw[List.filterMap_cons,hf];exact df);obtain⟨sl,e⟩:=I.base.slot L o ho (I.ok.frf.free L hL) hL fun z=>I.ok.exfs L z hL;exact⟨hk,⟨L,_,hf,hn,e,hd⟩,ih (fun b hb=>hs b (by unfold frs;rw[List.filterMap_cons,hf];exact cu _ hb)) hr⟩
 exact all X.outer (fun _ hb=>hb) I.ok.funs
theorem Inv.stack(I:Inv X zk σ H s):s.heap.FunFrames X.base X.stack:=by
 rcases I.ok.stk with e|⟨e,hf⟩
 ·rw[e];exact I.funs
 ·rw[e];obtain⟨m,hn,_⟩:=I.loc;refine .cons (by rw[I.ok.kind];decide) hf hn ?_ I.funs;exact Heap.get?_none_of_le (jn I.ok.bsz I.ok.above)
theorem Inv.stkSub(I:Inv X zk σ H s):∀b∈frs X.stack,b∈X.env.locals::X.fs:=fun b hb=>by
 rcases I.ok.stk with e|⟨e,hf⟩
 ·rw[e]at hb;exact cu _ hb
 ·rw[e]at hb;unfold frs at hb;rw[List.filterMap_cons,hf]at hb;exact hb
theorem Inv.stkFree(I:Inv X zk σ H s):Frf (frs X.stack) H:=⟨fun b hb=>by
 rcases mem_cons.mp (I.stkSub b hb)with e|hb
 ·rw[e];exact I.free
 ·obtain⟨_,o,ho,_⟩:=I.ok.funs.mem hb;exact I.base.free b o ho (I.ok.frf.free b hb) fun z=>I.ok.exfs b z hb,fun q hq=>I.base.tbls _ _ (I.ok.frf.tab q hq)⟩
theorem Inv.step{g':Array GenState}{t':Nat}{d':Drawn}{ch:List Addr}(I:Inv X zk σ H s)
  (hch:∀b∈ch,(b∈X.ex\/X.s₀.heap.objs.size<=b)/\b≠X.env.locals/\(∀x c,X.env.cells.lookup x=some c->c≠b)/\∀p∈X.pn++zk,p.1≠b)
  (keep:∀b o,b≠X.env.locals->b∉X.fs->b∉ch->s.heap.get? b=some o->H b=none->h'.get? b=some o)
  (slot:∀b o,b≠X.env.locals->b∈X.fs->b∉ch->s.heap.get? b=some o->H b=none->∃sl,h'.get? b=some { o with slots:=sl }) (free:∀b o,b∉ch->s.heap.get? b=some o->H b=none->H' b=none)
  (there:∀b o,b∉ch->s.heap.get? b=some o->∃o',h'.get? b=some o')
  (tups:∀b xs,H b=some (.tup xs)->H' b=some (.tup xs)) (frzs:∀b o u,H b=some (.frz o u)->H' b=some (.frz o u)) (tbls:∀b ps,H b=some (.tbl ps)->H' b=some (.tbl ps))
  (ns:∀m,s.heap.Ns X.env.locals m->h'.Ns X.env.locals m) (hok:HOk X.prog X.w H' h') (hg:AllBare g'):
  Inv X zk σ H' { s with heap:=h',gens:=g',drawn:=d',toks:=t' }:=by
 have ae:∀b o,X.s₀.heap.get? b=some o->b≠X.env.locals:=fun b o e=>ig (io (gg e) I.ok.above);have ac:∀b o,X.s₀.heap.get? b=some o->b∉X.ex->b∉ch:=fun b o e hx hb=>by
  rcases(hch b hb).1 with z|z
  ·exact hx z
  ·exact absurd (io (gg e) z) (lj _)
 have ab:∀x c,X.env.cells.lookup x=some c->∀v,s.heap.IsCell c v->h'.IsCell c v:=fun x c e v ⟨o,ho,hd⟩=>by
  have aa:c∉ch:=fun z=>(hch c z).2.2.1 x c e rfl;by_cases hc:c∈X.fs
  ·obtain⟨sl,q⟩:=slot c o (I.cne x c e) hc aa ho (I.freeC x c e);exact⟨_,q,hd⟩
  ·exact⟨o,keep c o (I.cne x c e) hc aa ho (I.freeC x c e),hd⟩
 refine⟨I.ok,I.os,hg,⟨fun b o e n hb hx=>?_,fun b o e n hb hx=>?_,fun b o e n hx=>?_,fun b o e hx=>?_,fun b xs e=>tups b xs (I.base.tups b xs e),fun b o xs e=>frzs b o xs (I.base.frzs b o xs e),fun b ps e=>?_⟩,?_,fun x c e=>?_,?_,fun x c e=>?_,fun p hp=>?_,hok,I.len⟩
 ·exact keep b o (ae b o e) hb (ac b o e hx) (I.base.keep b o e n hb hx) (I.base.free b o e n hx)
 ·obtain⟨sl,e1⟩:=I.base.slot b o e n hb hx;obtain⟨af,e2⟩:=slot b _ (ae b o e) hb (ac b o e hx) e1 (I.base.free b o e n hx);exact⟨af,e2⟩
 ·obtain⟨o',e1⟩:=I.base.there b o e hx;exact free b o' (ac b o e hx) e1 (I.base.free b o e n hx)
 ·obtain⟨o',e1⟩:=I.base.there b o e hx;exact there b o' (ac b o e hx) e1
 ·exact tbls b _ (I.base.tbls b ps e)
 ·obtain⟨m,hn,hl⟩:=I.loc;refine⟨m,ns m hn,fun i x v e1 e2 e3=>?_⟩;obtain⟨u,r,l⟩:=hl i x v e1 e2 e3;refine⟨u,r,?_⟩;rcases l with l|⟨k,c,e,z⟩
  ·exact .inl l
  ·exact .inr ⟨k,c,e,ab x c e _ z⟩
 ·obtain⟨v,z⟩:=I.cell x c e;exact⟨v,ab x c e v z⟩
 ·obtain⟨m,⟨o,_,_,ho,_⟩,_⟩:=I.loc;exact free _ o (fun z=>(hch _ z).2.1 rfl) ho I.free
 ·obtain⟨v,o,ho,hd⟩:=I.cell x c e;exact free c o (fun z=>(hch c z).2.2.1 x c e rfl) ho (I.freeC x c e)
 ·obtain⟨e,n,ne,nf,d⟩:=I.pin p hp;have aa:p.1∉ch:=fun z=>(hch p.1 z).2.2.2 p hp rfl;exact⟨keep p.1 p.2 ne nf aa e n,free p.1 p.2 aa e n,ne,nf,d⟩
theorem Inv.un{t':Nat}(I:Inv X zk σ H s)(u:Un X.fs [] H H' s.heap h')(hok:HOk X.prog X.w H' h'):Inv X zk σ H' { s with heap:=h',toks:=t' }:=by
 obtain⟨m,⟨o,es,ep,ho,r⟩,_⟩:=id I.loc;obtain⟨sl,hL⟩:=u.any ho I.free yv;exact I.step (g':=s.gens) (d':=s.drawn) (ch:=[]) (fun _ z=>nomatch z) (fun b o _ hb _ e n=>u.keep b o e n hb yv) (fun b o _ hb _ e n=>u.slot b o e n hb yv) (fun b o _ e n=>u.free b o e n yv) (fun b o _ e=>u.there b o e yv) u.tups u.frzs u.tbls (fun m' hm=>by
  obtain⟨o',ab,aa,q,r'⟩:=hm;rw[ho]at q;cases q;exact⟨_,ab,aa,hL,r'⟩) hok I.bare
theorem Inv.call{g':Array GenState}{t':Nat}{d':Drawn}{ch:List Addr}(I:Inv X zk σ H s)(u:Un (frs X.stack) ch H H' s.heap h')(hok:HOk X.prog X.w H' h')(hg:AllBare g')
  (hch:∀b∈ch,(b∈X.ex\/X.s₀.heap.objs.size<=b)/\b≠X.env.locals/\(∀x c,X.env.cells.lookup x=some c->c≠b)/\∀p∈X.pn++zk,p.1≠b):
  Inv X zk σ H' { s with heap:=h',gens:=g',drawn:=d',toks:=t' }:=by
 obtain⟨m,⟨o,es,ep,ho,r⟩,_⟩:=id I.loc;obtain⟨sl,hL⟩:=u.any ho I.free fun z=>(hch _ z).2.1 rfl;exact I.step (ch:=ch) hch (fun b o hL hb hc e n=>u.keep b o e n (fun z=>(mem_cons.mp (I.stkSub b z)).elim hL hb) hc) (fun b o _ _ hc e n=>u.any e n hc) (fun b o hc e n=>u.free b o e n hc) (fun b o hc e=>u.there b o e hc) u.tups u.frzs u.tbls (fun m' hm=>by
  obtain⟨o',ab,aa,q,r'⟩:=hm;rw[ho]at q;cases q;exact⟨_,ab,aa,hL,r'⟩) hok hg
theorem Inv.turned{t':Nat}{it:Addr}(I:Inv X zk σ H s)(k:∀b o,b≠it->s.heap.get? b=some o->h'.get? b=some o)(hn:H it=none)(hL:it≠X.env.locals)
  (h1:it∈X.ex\/X.s₀.heap.objs.size<=it) (h2:∀x c,X.env.cells.lookup x=some c->c≠it) (h3:∀p∈X.pn++zk,p.1≠it):Inv X zk σ H { s with heap:=h',toks:=t' }:=by
 have aa:∀b u,H b=some u->b≠it:=fun b u e z=>by rw[z,hn]at e;cases e
 refine I.step (g':=s.gens) (d':=s.drawn) (ch:=[it]) (fun b hb=>?_) (fun b o _ _ hc e _=>k b o (fun z=>hc (by simp[z])) e) (fun b o _ _ hc e _=>⟨o.slots,k b o (fun z=>hc (by simp[z])) e⟩) (fun _ _ _ _ n=>n)
  (fun b o hc e=>⟨o,k b o (fun z=>hc (by simp[z])) e⟩) (fun _ _ e=>e) (fun _ _ _ e=>e) (fun _ _ e=>e) (fun m hm=>?_) (fun b u e=>?_) I.bare
 ·have e:b=it:=by simpa using hb
  subst e;exact⟨h1,hL,h2,h3⟩
 ·obtain⟨o,es,ep,ho,r⟩:=hm;exact⟨o,es,ep,k _ o (jg hL) ho,r⟩
 ·refine(I.hok b u e).stay (fun c v hc q=>k c v ?_ q) (fun _ q=>q) fun _ _ q=>q;rcases hc with z|z
  ·rw[z];exact aa b u e
  ·exact aa c _ z
theorem Inv.tok(I:Inv X zk σ H s)(t:Nat):Inv X zk σ H { s with toks:=t }:=I.un (h':=s.heap) (t':=t) Un.refl I.hok
theorem Inv.kept{t':Nat}(I:Inv X zk σ H s)(k:∀b u,s.heap.get? b=some u->h'.get? b=some u):Inv X zk σ H { s with heap:=h',toks:=t' }:=I.un (Un.kept k) (I.hok.kept k)
theorem Inv.laid{a:Addr}{o:HO}{t':Nat}(I:Inv X zk σ H s)(k:∀b u,s.heap.get? b=some u->h'.get? b=some u)(hp:s.heap.objs.size<=a)(q:ObjOk X.prog X.w (upd H a o) h' a o):
  Inv X zk σ (upd H a o) { s with heap:=h',toks:=t' }:=I.un (Un.laid k hp (I.hok.fresh hp)) (I.hok.laid k hp q)
theorem Inv.write{x e:Addr}{o:HO}{t':Nat}(I:Inv X zk σ H s)(mu:Mut (H x))(he:e=x\/H e=some (.own x))(k:∀b u,b≠e->s.heap.get? b=some u->h'.get? b=some u)(q:∃u,h'.get? e=some u)
  (new:ObjOk X.prog X.w (upd H x o) h' x o):Inv X zk σ (upd H x o) { s with heap:=h',toks:=t' }:=I.un (Un.write mu he k q) (I.hok.write mu he k q new)
theorem Inv.pins_of{q:List (Addr×Obj)}(I:Inv X zk σ H s)(h:∀p∈q,s.heap.get? p.1=some p.2/\H p.1=none/\p.1≠X.env.locals/\p.1∉X.fs/\∀v,p.2.data≠.cell v):Inv X q σ H s:=
 ⟨I.ok,I.os,I.bare,I.base,I.loc,I.cell,I.free,I.freeC,fun p hp=>(mem_append.mp hp).elim (fun z=>I.pin p (gi _ z)) (h p),I.hok,I.len⟩
theorem CC{N:List Str}(hN:N.Nodup){i j:Nat}{x:Str}(a:N[i]?=some x)(b:N[j]?=some x):i=j:=by
 obtain⟨h1,e1⟩:=List.getElem?_eq_some_iff.mp a;obtain⟨h2,e2⟩:=List.getElem?_eq_some_iff.mp b;exact(List.getElem_inj hN).mp (e1.trans e2.symm)
theorem KN{M:Model}{A:ip}{E:bp->bq->Prop}{i:Nat}{x:Str}{v:V}{u:bp}{Q:Unit->bq->Prop}(I:Inv X zk σ H s)(hN:X.N.Nodup)(hi:X.N[i]?=some x)(hx:Loc X.env.scope x)(r:RelV v u)
  (h:∀s',Inv X zk (σ.set i (some v)) H s'->(∃a,iu a s.heap s'.heap/\(a=X.env.locals\/X.env.cells.lookup x=some a))->Q () s') (hf:X.fn x=true\/X.env.scope.names.lookup x=some .local:=by first|exact .inl rfl|exact .inr rfl|assumption):dh M A (storeName X.env x u) Q E s:=by
 obtain⟨m,hn,hl⟩:=id I.loc;have aj:(X.env.scope.kind==.class||(X.env.scope.kind==.module&&X.env.locals != X.env.globals))=false:=by rw[I.ok.kind];rfl
 have ah:i<σ.length:=by rw[I.len];exact(List.getElem?_eq_some_iff.mp hi).1
 have ae:=I.cne;have aa:∀{a:Addr}{h':Heap},(∃o,s.heap.get? a=some o/\H a=none)->iu a s.heap h'->HOk X.prog X.w H h':=fun {a h'} ha hs b ob e=>by
  obtain⟨_,_,ab⟩:=ha;refine(I.hok b ob e).stay (fun c w' hc q=>(hs.2 c ?_).trans q) (fun _ q=>q) fun _ _ q=>q;rintro rfl;rcases hc with rfl|hc
  ·rw[ab]at e;cases e
  ·rw[ab]at hc;cases hc
 rcases hx with hk|hk
 ·refine wpAny_storeName_local hk hn (fun h' ak hs=>?_) aj;obtain⟨oL,_,_,al,_⟩:=id hn;refine h _ ⟨I.ok,I.os,I.bare,⟨fun b o e n hb hx=>?_,fun b o e n hb hx=>?_,I.base.free,fun b o e hx=>?_,I.base.tups,I.base.frzs,I.base.tbls⟩,⟨_,ak,fun j y v' e1 e2 e3=>?_⟩,fun y c e=>?_,I.free,I.freeC,fun p hp=>?_,aa ⟨oL,al,I.free⟩ hs,by simpa using I.len⟩ ⟨_,hs,.inl rfl⟩
  ·exact(hs.2 b (ig (io (gg e) I.ok.above))).trans (I.base.keep b o e n hb hx)
  ·obtain⟨sl,e1⟩:=I.base.slot b o e n hb hx;exact⟨sl,(hs.2 b (ig (io (gg e) I.ok.above))).trans e1⟩
  ·obtain⟨o',e1⟩:=I.base.there b o e hx;exact⟨o',(hs.2 b (ig (io (gg e) I.ok.above))).trans e1⟩
  ·by_cases hj:j=i
   ·subst hj;rw[hi]at e1;cases e1;rw[nv ah]at e2;cases e2;exact⟨u,r,.inl ⟨hk,yv⟩⟩
   ·rw[rc (jg hj)]at e2;obtain⟨u',r',q⟩:=hl j y v' e1 e2 e3;refine⟨u',r',?_⟩;rcases q with ⟨k,e⟩|⟨k,c,e,z⟩
    ·refine .inl ⟨k,?_⟩;have:y≠x:=fun e=>hj (CC hN e1 (e▸hi));simp[this,e]
    ·exact .inr ⟨k,c,e,z.sameBut hs (ae y c e)⟩
  ·obtain⟨w',z⟩:=I.cell y c e;exact⟨w',z.sameBut hs (ae y c e)⟩
  ·obtain⟨e,n,ne,nf,d⟩:=I.pin p hp;exact⟨(hs.2 p.1 ne).trans e,n,ne,nf,d⟩
 ·have ac:X.fn x=true:=by
   rcases hf with z|z
   ·exact z
   ·rw[z]at hk;cases hk
  obtain⟨c,hc⟩:=I.ok.has x (.inl hk);obtain⟨w',z⟩:=I.cell x c hc;refine wpAny_storeName_cell I.ok.kind hk hc z (fun h' ag hs=>?_);obtain⟨oc,af,ai⟩:=id z;refine h { s with heap:=h' } ⟨I.ok,I.os,I.bare,⟨fun b o e n hb hx=>?_,fun b o e n hb hx=>?_,I.base.free,fun b o e hx=>?_,I.base.tups,I.base.frzs,I.base.tbls⟩,⟨m,hn.sameBut hs (jg (ae x c hc)),fun j y v' e1 e2 e3=>?_⟩,fun y c' e=>?_,I.free,I.freeC,fun p hp=>?_,aa ⟨oc,af,I.freeC x c hc⟩ hs,by simpa using I.len⟩ ⟨c,hs,.inr hc⟩
  ·exact(hs.2 b (ig (io (gg e) (I.ok.cab x c ac hc)))).trans (I.base.keep b o e n hb hx)
  ·obtain⟨sl,e1⟩:=I.base.slot b o e n hb hx;exact⟨sl,(hs.2 b (ig (io (gg e) (I.ok.cab x c ac hc)))).trans e1⟩
  ·obtain⟨o',e1⟩:=I.base.there b o e hx;exact⟨o',(hs.2 b (ig (io (gg e) (I.ok.cab x c ac hc)))).trans e1⟩
  ·by_cases hj:j=i
   ·subst hj;rw[hi]at e1;cases e1;rw[nv ah]at e2;cases e2;exact⟨u,r,.inr ⟨.inl hk,c,hc,ag⟩⟩
   ·rw[rc (jg hj)]at e2;obtain⟨u',r',q⟩:=hl j y v' e1 e2 e3;refine⟨u',r',?_⟩;rcases q with q|⟨k,c',e,z'⟩
    ·exact .inl q
    ·refine .inr ⟨k,c',e,z'.sameBut hs ?_⟩;rintro rfl;exact hj (CC hN e1 (I.ok.inj _ _ _ e hc▸hi))
  ·by_cases hcc:c'=c
   ·subst hcc;exact⟨_,ag⟩
   ·obtain⟨w2,z2⟩:=I.cell y c' e;exact⟨w2,z2.sameBut hs hcc⟩
  ·obtain⟨e,n,ne,nf,d⟩:=I.pin p hp;refine⟨(hs.2 p.1 ?_).trans e,n,ne,nf,d⟩;intro q;rw[q,af]at e;have q':oc=p.2:=gh e;exact d w' (by rw[<- q'];exact ai)
theorem wP{M:Model}{A:ip}{E:bp->bq->Prop}{i:Nat}{x:Str}{v:V}{u:bp}{Q:Unit->bq->Prop}(I:Inv X zk σ H s)(hN:X.N.Nodup)(hi:X.N[i]?=some x)(hx:Loc X.env.scope x)(r:RelV v u)
  (h:∀s',Inv X zk (σ.set i (some v)) H s'->Q () s') (hf:X.fn x=true\/X.env.scope.names.lookup x=some .local:=by first|exact .inl rfl|exact .inr rfl|assumption):dh M A (storeName X.env x u) Q E s:=
 KN I hN hi hx r (fun s' I' _=>h s' I') hf
theorem Inv.call'{s':bq}{ch:List Addr}(I:Inv X zk σ H s)(ho:s'.os=s.os)(u:Un (frs X.stack) ch H H' s.heap s'.heap)(hok:HOk X.prog X.w H' s'.heap)(hg:AllBare s'.gens)
  (hch:∀b∈ch,(b∈X.ex\/X.s₀.heap.objs.size<=b)/\b≠X.env.locals/\(∀x c,X.env.cells.lookup x=some c->c≠b)/\∀p∈X.pn++zk,p.1≠b):Inv X zk σ H' s':=by
 obtain⟨h',g',d',t',o'⟩:=s';have e:o'=s.os:=ho;subst e;exact I.call (g':=g') (t':=t') (d':=d') u hok hg hch
end
abbrev XK:=bp->Option Addr->Hp->Prop
abbrev St:=List (Option V)
abbrev VK:=V->Hp->Prop
abbrev TE:=St->Hp->VK->Prop
abbrev TT:=St->Hp->(Bool->Hp->Prop)->Prop
abbrev TA:=St->Hp->(List V->Hp->Prop)->Prop
structure Ends where
 nx:St->Hp->Prop
 rt:VK
 bk:St->Hp->Prop:=fun _ _=>False
 ct:St->Hp->Prop:=fun _ _=>False
abbrev TS:=Ends->St->Hp->Prop
def EP(X:Cx)(zk:List (Addr×Obj))(σ:St)(Q:VK)(u:bp)(s':bq):Prop:=∃v H',Inv X zk σ H' s'/\RelV v u/\Q v H'
def TP(X:Cx)(zk:List (Addr×Obj))(σ:St)(Q:Bool->Hp->Prop)(b:Bool)(s':bq):Prop:=∃H',Inv X zk σ H' s'/\Q b H'
def AP(X:Cx)(zk:List (Addr×Obj))(σ:St)(Q:List V->Hp->Prop)(us:List bp)(s':bq):Prop:=∃vs H',Inv X zk σ H' s'/\Vals vs us/\Q vs H'
def SP(X:Cx)(zk:List (Addr×Obj))(D:Ends)(f:Flow)(s':bq):Prop:=
 match f with
 | .next=>∃ σ' H',Inv X zk σ' H' s'/\D.nx σ' H'
 | .brk=>∃ σ' H',Inv X zk σ' H' s'/\D.bk σ' H'
 | .cont=>∃ σ' H',Inv X zk σ' H' s'/\D.ct σ' H'
 | .ret u=>∃v σ' H',Inv X zk σ' H' s'/\RelV v u/\D.rt v H'
def PE(X:Cx)(e:Expr)(t:TE):Prop:=
 ∀(zk:List (Addr×Obj)) (s:bq) (σ:St) (H:Hp) (Q:VK),Inv X zk σ H s->t σ H Q->dh (model X.prog X.w) X.A (eval e X.env) (EP X zk σ Q) X.xe s
def PT(X:Cx)(e:Expr)(t:TT):Prop:=
 ∀(zk:List (Addr×Obj)) (s:bq) (σ:St) (H:Hp) (Q:Bool->Hp->Prop),Inv X zk σ H s->t σ H Q->dh (model X.prog X.w) X.A (isTrue e X.env (eval e X.env)) (TP X zk σ Q) X.xe s
def PW(X:Cx)(e:Expr)(t:TT):Prop:=
 ∀(whole:Sem bp) (zk:List (Addr×Obj)) (s:bq) (σ:St) (H:Hp) (Q:Bool->Hp->Prop),Inv X zk σ H s->t σ H Q->dh (model X.prog X.w) X.A (isTrue e X.env whole) (TP X zk σ Q) X.xe s
theorem PW.pt{X:Cx}{e:Expr}{t:TT}(h:PW X e t):PT X e t:=h _
def PA(X:Cx)(es:List Expr)(t:TA):Prop:=
 ∀(pos:Pos) (zk:List (Addr×Obj)) (s:bq) (σ:St) (H:Hp) (Q:List V->Hp->Prop),Inv X zk σ H s->t σ H Q->dh (model X.prog X.w) X.A (spliced (sj pos (gx es X.env))) (AP X zk σ Q) X.xe s
def PS(X:Cx)(st:Stmt)(t:TS):Prop:=
 ∀(zk:List (Addr×Obj)) (s:bq) (σ:St) (H:Hp) (D:Ends),Inv X zk σ H s->t D σ H->dh (model X.prog X.w) X.A (exec st X.env) (SP X zk D) X.xe s
def PSs(X:Cx)(st:List Stmt)(t:TS):Prop:=
 ∀(zk:List (Addr×Obj)) (s:bq) (σ:St) (H:Hp) (D:Ends),Inv X zk σ H s->t D σ H->dh (model X.prog X.w) X.A (execs st X.env) (SP X zk D) X.xe s
theorem thn{α:Type}{t:Sem α}{Q Q':α->bq->Prop}{M:Model}{A:ip}{E:bp->bq->Prop}{s:bq}(h:dh M A t Q E s)(hQ:∀a s,Q a s->Q' a s):dh M A t Q' E s:=wpAny_mono h hQ fun _ _ x=>x
end
section
section
variable {X:Cx}
def gJ(i:Nat):TE:=fun σ H Q=>∃v,σ[i]?=some (some v)/\Q v H
def tC(v:V):TE:=fun _ H Q=>Q v H
theorem Jt{i:Nat}{x:Str}{pos:Pos}(hN:X.N[i]?=some x)(hv:Vis X.env.scope x)(hd:(x==("__debug__":Str))=false:=by decide)(q:(x==("__classdict__":Str))=false:=by decide):PE X (.Name x pos) (gJ i):=by
 intro zk s σ H Q I h;obtain⟨v,e,h⟩:=h;obtain⟨m,hn,hl⟩:=I.loc;obtain⟨u,r,l⟩:=hl i x v hN e hv;have fin:EP X zk σ Q u s:=⟨v,H,I,r,h⟩;rcases l with ⟨hk,hm⟩|⟨hk,c,hc,hcell⟩
 ·exact wpAny_Name (wpAny_loadName_local I.ok.kind hk hn hm fin) hd
 ·rcases hk with hk|hk
  ·exact wpAny_Name (wpAny_loadName_cell I.ok.kind hk hc hcell fin) hd
  ·exact wpAny_Name (wpAny_loadName_free I.ok.kind hk hc hcell fin q) hd
theorem ze{i j pos}:PE X (.Constant (.int i) j pos) (tC (.int i)):=fun _ _ _ H _ I h=>wpAny_Constant_int ⟨.int i,H,I.tok _,⟨_,rfl⟩,h⟩
theorem cL{b j pos}:PE X (.Constant (.bool b) j pos) (tC (.bl b)):=fun _ _ _ H _ I h=>Constant_bool ⟨.bl b,H,I,rfl,h⟩
theorem x6{j pos}:PE X (.Constant .none j pos) (tC .non):=fun _ _ _ H _ I h=>Constant_none ⟨.non,H,I,rfl,h⟩
theorem cP{x j pos}:PE X (.Constant (.str x) j pos) (tC (.str x)):=fun _ _ _ H _ I h=>Calls.Constant_str ⟨.str x,H,I.tok _,⟨_,rfl⟩,h⟩
def Gl(X:Cx)(x:Str):Prop:=X.env.kindOf x=some .globalImplicit
theorem Ja{E:bp->bq->Prop}{zk:List (Addr×Obj)}{s:bq}{σ:St}{H:Hp}{x:Str}{u:bp}{pos:Pos}{Q:bp->bq->Prop}(I:Inv X zk σ H s)(hg:Gl X x)(hm:X.mg x=some u)(h:Q u s)
  (hd:(x==("__debug__":Str))=false:=by decide):dh (model X.prog X.w) X.A (eval (.Name x pos) X.env) Q E s:=
 Calls.Name_function_global I.ok.kind hg (Calls.loadGlobal_global (by rw[I.ok.glob];exact I.mod.glob.keeps I.bk) hm h) hd
theorem lI{E:bp->bq->Prop}{zk:List (Addr×Obj)}{s:bq}{σ:St}{H:Hp}{x:Str}{u:bp}{pos:Pos}{Q:bp->bq->Prop}(I:Inv X zk σ H s)(hg:Gl X x)(hm:X.mg x=none)(hv:iq x=some u)(h:Q u s)
  (hn:x ≠ "__name__":=by decide) (hd:(x==("__debug__":Str))=false:=by decide):dh (model X.prog X.w) X.A (eval (.Name x pos) X.env) Q E s:=by
 obtain⟨mb,h1,h2⟩:=I.mod.blt;exact Calls.Name_function_global I.ok.kind hg (Calls.loadGlobal_builtin (by rw[I.ok.glob];exact I.mod.glob.keeps I.bk) hm (by rw[I.ok.blt];exact h1.keeps I.bk) ((h2 x hn).trans hv) h) hd
theorem d7{x:Str}{v:V}{u:bp}{pos:Pos}(hg:Gl X x)(hm:X.mg x=none)(hv:iq x=some u)(r:RelV v u)(hn:x ≠ "__name__":=by decide)(hd:(x==("__debug__":Str))=false:=by decide):PE X (.Name x pos) (tC v):=
 fun _ _ _ H _ I h=>lI I hg hm hv ⟨v,H,I,r,h⟩ hn hd
variable {a b:Expr}{ta tb:TE}{pos:Pos}
variable {tA tB':TT}{rest:List Expr}
def BM(t u:TT):TT:=fun σ H Q=>t σ H fun c H1=>if c=true then u σ H1 Q else Q false H1
def tOr(t u:TT):TT:=fun σ H Q=>t σ H fun c H1=>if c=true then Q true H1 else u σ H1 Q
def AA(t:TT):TT:=fun σ H Q=>t σ H fun c H1=>Q (!c) H1
theorem xF(ha:PT X a tA):PW X (.BoolOp .And [a] pos) tA:=by
 intro wh zk s σ H Q I h;refine isTrue_and (thn (ha zk s σ H Q I h) fun c s1 e=>?_);cases c with
 |true=>exact isTrue_and_nil e
 |false=>exact e
theorem eY(ha:PT X a tA):PW X (.BoolOp .Or [a] pos) tA:=by
 intro wh zk s σ H Q I h;refine isTrue_or (thn (ha zk s σ H Q I h) fun c s1 e=>?_);cases c with
 |false=>exact isTrue_or_nil e
 |true=>exact e
theorem vZ(ha:PT X a tA)(hb:PW X (.BoolOp .And (b::rest) pos) tB'):PW X (.BoolOp .And (a::b::rest) pos) (BM tA tB'):=by
 intro wh zk s σ H Q I h;refine isTrue_and (thn (ha zk s σ H _ I h) fun c s1 ⟨H1,I1,q1⟩=>?_);cases c with
 |true=>exact hb wh zk s1 σ H1 Q I1 q1
 |false=>exact⟨H1,I1,q1⟩
theorem dJ(ha:PT X a tA)(hb:PW X (.BoolOp .Or (b::rest) pos) tB'):PW X (.BoolOp .Or (a::b::rest) pos) (tOr tA tB'):=by
 intro wh zk s σ H Q I h;refine isTrue_or (thn (ha zk s σ H _ I h) fun c s1 ⟨H1,I1,q1⟩=>?_);cases c with
 |true=>exact⟨H1,I1,q1⟩
 |false=>exact hb wh zk s1 σ H1 Q I1 q1
theorem cM(ha:PT X a tA):PT X (.UnaryOp .Not a pos) (AA tA):=by
 intro zk s σ H Q I h;exact isTrue_not (ha zk s σ H (fun c H1=>Q (!c) H1) I h)
def BD(ta tb:TE):TE:=fun σ H Q=>ta σ H fun x H1=>∃c,x=.bl c/\if c=true then tb σ H1 Q else Q (.bl false) H1
def CW(ta tb:TE):TE:=fun σ H Q=>ta σ H fun x H1=>∃c,x=.bl c/\if c=true then Q (.bl true) H1 else tb σ H1 Q
def Es(ta:TE):TE:=fun σ H Q=>ta σ H fun x H1=>∃c,x=.bl c/\Q (.bl (!c)) H1
theorem gB{op}{t:TE}(h:PE X a t):PE X (.BoolOp op [a] pos) t:=fun zk s σ H Q I hw=>BoolOp_one (h zk s σ H Q I hw)
theorem iE(ha:PE X a ta)(hb:PE X (.BoolOp .And (b::rest) pos) tb):PE X (.BoolOp .And (a::b::rest) pos) (BD ta tb):=by
 intro zk s σ H Q I h;refine BoolOp_and (thn (ha zk s σ H _ I h) fun v s1 ⟨x,H1,I1,r1,q1⟩=>?_);obtain⟨c,rfl,q1⟩:=q1;cases r1;refine ja ?_;cases c with
 |true=>exact hb zk s1 σ H1 Q I1 q1
 |false=>exact⟨.bl false,H1,I1,rfl,q1⟩
theorem K2(ha:PE X a ta)(hb:PE X (.BoolOp .Or (b::rest) pos) tb):PE X (.BoolOp .Or (a::b::rest) pos) (CW ta tb):=by
 intro zk s σ H Q I h;refine BoolOp_or (thn (ha zk s σ H _ I h) fun v s1 ⟨x,H1,I1,r1,q1⟩=>?_);obtain⟨c,rfl,q1⟩:=q1;cases r1;refine ja ?_;cases c with
 |false=>exact hb zk s1 σ H1 Q I1 q1
 |true=>exact⟨.bl true,H1,I1,rfl,q1⟩
theorem xW(ha:PE X a ta):PE X (.UnaryOp .Not a pos) (Es ta):=by
 intro zk s σ H Q I h;refine UnaryOp_ (thn (ha zk s σ H _ I h) fun v s1 ⟨x,H1,I1,r1,q1⟩=>?_);obtain⟨c,rfl,q1⟩:=q1;cases r1;exact not_of (ja ⟨.bl (!c),H1,I1,rfl,q1⟩)
def tIf(t:TT)(ta tb:TE):TE:=fun σ H Q=>t σ H fun c H1=>if c=true then ta σ H1 Q else tb σ H1 Q
theorem Fn{c:Expr}(hc:PT X c tA)(ha:PE X a ta)(hb:PE X b tb):PE X (.IfExp c a b pos) (tIf tA ta tb):=by
 intro zk s σ H Q I h;refine wpAny_IfExp (thn (hc zk s σ H _ I h) fun d s1 ⟨H1,I1,q1⟩=>?_);cases d with
 |true=>exact ha zk s1 σ H1 Q I1 q1
 |false=>exact hb zk s1 σ H1 Q I1 q1
end
end
section
def SqL(K:cy)(H:Hp)(a:Addr)(xs:List V):Prop:=
 Rd H a (.lst xs) \/
  ∃(o:Obj) (its:Array bp) (n:Nat),K.lookup a=some o/\o.cls=.type "list"/\o.dict=none/\o.data=.seq its n/\its.size<=fe/\Vals xs its.toList
def SqT(K:cy)(H:Hp)(a:Addr)(xs:List V):Prop:=
 Rd H a (.tup xs) \/
  ∃(o:Obj) (its:Array bp) (n:Nat),K.lookup a=some o/\o.cls=.type "tuple"/\o.data=.seq its n/\its.size<=fe/\Vals xs its.toList
def LO:bp->Option V
 | .none=>some .non
 | .bool b=>some (.bl b)
 | .int i _=>some (.int i)
 | .str x _=>some (.str x)
 | .bytes b _=>some (.byt b)
 | .float b _=>some (.flt b)
 | .ref a=>some (.ref a)
 | .type n=>some (.ty n)
 |_=>none
theorem RelV.abs{x:V}{u:bp}(r:RelV x u):LO u=some x:=by
 cases x with
 |non=>cases r;rfl
 |bl _=>cases r;rfl
 |int _=>obtain⟨t,rfl⟩:=r;rfl
 |str _=>obtain⟨t,rfl⟩:=r;rfl
 |byt _=>obtain⟨t,rfl⟩:=r;rfl
 |flt _=>obtain⟨t,rfl⟩:=r;rfl
 |ref _=>cases r;rfl
 |ty _=>cases r;rfl
theorem RelV.inj{x y:V}{u:bp}(r:RelV x u)(q:RelV y u):x=y:=gh (r.abs.symm.trans q.abs)
theorem Vals.inj:∀{xs ys:List V}{us:List bp},Vals xs us->Vals ys us->xs=ys
 |_,_,_,.nil,.nil=>rfl
 |_,_,_,.cons r t,.cons r' t'=>by rw[r.inj r',Vals.inj t t']
section
variable {X:Cx}{zk:List (Addr×Obj)}{σ:St}{H:Hp}{s:bq}{a:Addr}{xs ys:List V}
theorem SqL.of{K:cy}(h:H a=some (.lst xs)):SqL K H a xs:=.inl (.inl h)
theorem SqT.of{K:cy}(h:H a=some (.tup xs)):SqT K H a xs:=.inl (.inl h)
theorem Inv.list(I:Inv X zk σ H s)(h:SqL X.K H a xs):∃q:List bp,Vals xs q/\PlainL s.heap a q.toArray/\xs.length<=fe:=by
 rcases h with h|⟨o,q,n,hk,hc,hd,hs,hz,r⟩
 ·obtain⟨z,q,n,r,e⟩:=h.ok I.hok;exact⟨q,r,⟨_,n,e,rfl,rfl,rfl⟩,z⟩
 ·refine⟨q.toList,r,⟨o,n,I.kIn a o hk,hc,hd,by simpa using hs⟩,?_⟩;have e:=r.length;simp only[jr]at e;omega
theorem Inv.tuple(I:Inv X zk σ H s)(h:SqT X.K H a xs):∃q:List bp,Vals xs q/\IsTup s.heap a q.toArray/\xs.length<=fe:=by
 rcases h with h|⟨o,q,n,hk,hc,hs,hz,r⟩
 ·obtain⟨z,q,r,p⟩:=h.ok I.hok;exact⟨q,r,p,z.1⟩
 ·refine⟨q.toList,r,⟨o,I.kIn a o hk,hc,n,by simpa using hs⟩,?_⟩;have e:=r.length;simp only[jr]at e;omega
theorem Inv.list_inj(I:Inv X zk σ H s)(h:SqL X.K H a xs)(h':SqL X.K H a ys):xs=ys:=by
 obtain⟨q,r,⟨o,n,e,_,_,d⟩,_⟩:=I.list h;obtain⟨its',r',⟨o',n',e',_,_,d'⟩,_⟩:=I.list h';rw[e]at e';cases e';rw[d]at d';injection d' with d1 _
 have:q=its':=by simpa using congrArg Array.toList d1
 subst this;exact r.inj r'
theorem Inv.tuple_inj(I:Inv X zk σ H s)(h:SqT X.K H a xs)(h':SqT X.K H a ys):xs=ys:=by
 obtain⟨q,r,⟨o,e,_,n,d⟩,_⟩:=I.tuple h;obtain⟨its',r',⟨o',e',_,n',d'⟩,_⟩:=I.tuple h';rw[e]at e';cases e';rw[d]at d';injection d' with d1 _
 have:q=its':=by simpa using congrArg Array.toList d1
 subst this;exact r.inj r'
end
abbrev Cx.wish (X:Cx) (E:bp->bq->Prop):Cx:={ X with xe:=E }
abbrev Cx.nox (X:Cx):Cx:=X.wish fun _ _=>False
theorem Cx.Ok.wish{X:Cx}(ok:X.Ok)(E:bp->bq->Prop):(X.wish E).Ok:=
 ⟨ok.mod,ok.kind,ok.glob,ok.blt,ok.above,ok.inj,ok.has,ok.cab,ok.hd,ok.frames,ok.stk,ok.exf,ok.bs,ok.bsz,ok.noex,ok.exfs,ok.funs,ok.frf⟩
theorem Cx.Ok.unwish{X:Cx}{E:bp->bq->Prop}(ok:(X.wish E).Ok):X.Ok:=
 ⟨ok.mod,ok.kind,ok.glob,ok.blt,ok.above,ok.inj,ok.has,ok.cab,ok.hd,ok.frames,ok.stk,ok.exf,ok.bs,ok.bsz,ok.noex,ok.exfs,ok.funs,ok.frf⟩
section
variable {X:Cx}{zk:List (Addr×Obj)}{σ:St}{H:Hp}{s:bq}{E:bp->bq->Prop}
theorem Inv.wish(I:Inv X zk σ H s)(E:bp->bq->Prop):Inv (X.wish E) zk σ H s:=⟨I.ok.wish E,I.os,I.bare,I.base,I.loc,I.cell,I.free,I.freeC,I.pin,I.hok,I.len⟩
theorem Inv.unwish(I:Inv (X.wish E) zk σ H s):Inv X zk σ H s:=⟨I.ok.unwish,I.os,I.bare,I.base,I.loc,I.cell,I.free,I.freeC,I.pin,I.hok,I.len⟩
theorem SP.unwish{D:Ends}{f:Flow}{s':bq}(h:SP (X.wish E) zk D f s'):SP X zk D f s':=by
 cases f with
 |next=>obtain⟨σ',H',I,q⟩:=h;exact⟨σ',H',I.unwish,q⟩
 |brk=>obtain⟨σ',H',I,q⟩:=h;exact⟨σ',H',I.unwish,q⟩
 |cont=>obtain⟨σ',H',I,q⟩:=h;exact⟨σ',H',I.unwish,q⟩
 |ret u=>obtain⟨v,σ',H',I,r,q⟩:=h;exact⟨v,σ',H',I.unwish,r,q⟩
theorem PSs.nox{st:List Stmt}{t:TS}(h:PSs X.nox st t):PSs X st t:=fun zk s σ H D I hw=>
 wpAny_mono (h zk s σ H D (I.wish _) hw) (fun _ _ q=>q.unwish) fun _ _ z=>ph z
end
section
variable {X:Cx}{st:Stmt}{rest:List Stmt}{t u:TS}{e:Expr}{te:TE}{pos:Pos}
def wC:TS:=fun D σ H=>D.nx σ H
def e9(t u:TS):TS:=fun D σ H=>t { D with nx:=u D } σ H
theorem zJ:PSs X [] wC:=fun _ _ σ H _ I h=>wpAny_execs_nil ⟨σ,H,I,h⟩
theorem zf(h1:PS X st t)(h2:PSs X rest u):PSs X (st::rest) (e9 t u):=by
 intro zk s σ H D I h;refine wpAny_execs_cons (thn (h1 zk s σ H { D with nx:=u D } I h) fun f s1 q=>?_);cases f with
 |next=>
  obtain⟨σ',H',I',q⟩:=q;exact h2 zk s1 σ' H' D I' q
 |ret v=>exact q
 |brk=>exact q
 |cont=>exact q
theorem zn(h1:PS X st t):PSs X [st] t:=by
 intro zk s σ H D I h;refine wpAny_execs_cons (thn (h1 zk s σ H D I h) fun f s1 q=>?_);cases f with
 |next=>exact wpAny_execs_nil q
 |ret v=>exact q
 |brk=>exact q
 |cont=>exact q
theorem Inv.quiet{zk:List (Addr×Obj)}{σ:St}{H:Hp}{s:bq}(I:Inv X zk σ H s):interactive X.env=false:=by simp[interactive,I.ok.kind]
def B5(te:TE):TS:=fun D σ H=>te σ H fun _ H1=>D.nx σ H1
theorem fW(he:PE X e te)(hs:swapsWith e none pos.line X.env=pure false:=by rfl):PS X (.Expr e pos) (B5 te):=by
 intro zk s σ H D I h;exact wpAny_Expr_any (thn (he zk s σ H _ I h) fun v s1 ⟨x,H1,I1,r1,q1⟩=>⟨σ,H1,I1,q1⟩) I.quiet hs
def vA(te:TE):TS:=fun D σ H=>te σ H D.rt
theorem zC(he:PE X e te):PS X (.Return (some e) pos) (vA te):=by
 intro zk s σ H D I h;exact wpAny_Return_some (thn (he zk s σ H _ I h) fun v s1 ⟨x,H1,I1,r1,q1⟩=>⟨x,σ,H1,I1,r1,q1⟩)
def uF(c:TT)(t u:TS):TS:=fun D σ H=>c σ H fun b H1=>if b=true then t D σ H1 else u D σ H1
theorem aN{c:Expr}{a b:List Stmt}{tc:TT}(hc:PT X c tc)(ha:PSs X a t)(hb:PSs X b u):PS X (.If c a b pos) (uF tc t u):=by
 intro zk s σ H D I h;refine wpAny_If (thn (hc zk s σ H _ I h) fun d s1 ⟨H1,I1,q1⟩=>?_);cases d with
 |true=>exact ha zk s1 σ H1 D I1 q1
 |false=>exact hb zk s1 σ H1 D I1 q1
end
abbrev TG:=V->St->Hp->(St->Hp->Prop)->Prop
abbrev TGs:=List V->St->Hp->(St->Hp->Prop)->Prop
def PG(X:Cx)(q:Expr)(t:TG):Prop:=
 ∀(zk:List (Addr×Obj)) (s:bq) (σ:St) (H:Hp) (v:V) (u:bp) (Q:St->Hp->Prop),Inv X zk σ H s->RelV v u->t v σ H Q ->
  dh (model X.prog X.w) X.A (assign q X.env u) (fun _ s'=>∃ σ' H',Inv X zk σ' H' s'/\Q σ' H') X.xe s
def PGs(X:Cx)(ts:List Expr)(t:TGs):Prop:=
 ∀(zk:List (Addr×Obj)) (s:bq) (σ:St) (H:Hp) (vs:List V) (us:List bp) (Q:St->Hp->Prop),Inv X zk σ H s->Vals vs us->t vs σ H Q ->
  dh (model X.prog X.w) X.A (assignInOrder ((assignEach ts X.env).map (·.2)) us) (fun _ s'=>∃ σ' H',Inv X zk σ' H' s'/\Q σ' H') X.xe s
abbrev TSet:=V->V->V->Hp->(Hp->Prop)->Prop
def PSet(X:Cx)(t:TSet):Prop:=
 ∀(zk:List (Addr×Obj)) (s:bq) (σ:St) (H:Hp) (o i v:V) (ov iv u:bp) (Q:Hp->Prop),Inv X zk σ H s->RelV o ov->RelV i iv->RelV v u->t o i v H Q ->
  dh (model X.prog X.w) X.A (setItem ov iv u) (fun _ s'=>∃H',Inv X zk σ H' s'/\Q H') X.xe s
section
variable {X:Cx}{pos:Pos}
def j7(i:Nat):TG:=fun v σ H Q=>Q (σ.set i (some v)) H
theorem zu{i:Nat}{x:Str}(hN:X.N.Nodup)(hi:X.N[i]?=some x)(hx:Loc X.env.scope x)(hf:X.fn x=true\/X.env.scope.names.lookup x=some .local:=by first|exact .inl rfl|exact .inr rfl|assumption):PG X (.Name x pos) (j7 i):=by
 intro zk s σ H v u Q I r h;exact wpAny_assign_Name (wP I hN hi hx r (fun s' I'=>⟨_,H,I',h⟩) hf)
def EG:TGs:=fun vs σ H Q=>vs=[]/\Q σ H
def BT(t:TG)(u:TGs):TGs:=fun vs σ H Q=>∃v r,vs=v::r/\t v σ H fun σ' H'=>u r σ' H' Q
theorem dF:PGs X [] EG:=by
 intro zk s σ H vs us Q I r h;obtain⟨e,h⟩:=h;subst e;cases r;exact assignInOrder_nil ⟨σ,H,I,h⟩
theorem zL{e:Expr}{es:List Expr}{t:TG}{u:TGs}(h1:PG X e t)(h2:PGs X es u)
  (hs:(assignEach (e::es) X.env).map (·.2)=assign e X.env::(assignEach es X.env).map (·.2):=by rfl):PGs X (e::es) (BT t u):=by
 intro zk s σ H vs us Q I r h;obtain⟨v,vr,e1,h⟩:=h;subst e1;cases r with
 |cons r rr=>
  rw[hs];refine assignInOrder_cons (thn (h1 zk s σ H _ _ _ I r h) fun _ s1 ⟨σ1,H1,I1,q1⟩=>?_);exact h2 zk s1 σ1 H1 _ _ Q I1 rr q1
def DU(K:cy)(n:Nat)(t:TGs):TG:=fun v σ H Q=>∃a xs,v=.ref a/\SqT K H a xs/\xs.length=n/\t xs σ H Q
theorem dE{es:List Expr}{k:Nat}{t:TGs}{n:Nat}(hc:X.calm=true)(h:PGs X es t)
  (hn:(assignEach es X.env).length=n:=by rfl) (hst:(assignEach es X.env).findIdx? (·.1)=none:=by rfl):PG X (.Tuple es k pos) (DU X.K n t):=by
 intro zk s σ H v u Q I r hw;obtain⟨a,xs,e1,hq,hl,hw⟩:=hw;subst e1;cases r;obtain⟨q,rv,ht,hz⟩:=I.tuple hq;refine assign_Tuple_tuple (I.ok.hd hc) ht (by simp[hn,<- hl,rv.length]) hst fun h' hx=>?_;have I1:Inv X zk σ H { s with heap:=h' }:=I.kept (t':=s.toks) fun b o e=>hx b o (ig (gg e)) e;exact h zk _ σ H xs _ Q I1 (by simpa using rv) hw
def Cd(to ti:TE)(t:TSet):TG:=fun v σ H Q=>to σ H fun o H1=>ti σ H1 fun i H2=>t o i v H2 fun H3=>Q σ H3
theorem uS{o i:Expr}{to ti:TE}{t:TSet}(ho:PE X o to)(hi:PE X i ti)(hs:PSet X t)
  (ha:∀v,assign (.Subscript o i pos) X.env v=(do
   let ov <- holding [v] (eval o X.env)
   let iv <- holding [v,ov] (eval i X.env)
   standAt pos
   holding [v,ov,iv] (setItem ov iv v)
   release [v,ov,iv] []):=by intro _;rfl):PG X (.Subscript o i pos) (Cd to ti t):=by
 intro zk s σ H v u Q I r h;rw[ha];refine bo (km (thn (ho zk s σ H _ I h) fun ov s1 ⟨x,H1,I1,r1,q1⟩=>?_));refine bo (km (thn (hi zk s1 σ H1 _ I1 q1) fun iv s2 ⟨y,H2,I2,r2,q2⟩=>?_));refine bo (wpAny_standAt (bo (km (thn (hs zk s2 σ H2 x y v ov iv u _ I2 r1 r2 r q2) fun _ s3 ⟨H3,I3,q3⟩=>?_))));exact wpAny_release ⟨σ,H3,I3,q3⟩
def qA(te:TE)(g:TG):TS:=fun D σ H=>te σ H fun x H1=>g x σ H1 D.nx
theorem gT{tg e:Expr}{te:TE}{g:TG}(he:PE X e te)(hg:PG X tg g)(hs:swapsWithSole [tg] e pos.line X.env=pure false:=by rfl)(hw:swappedStores [tg] e X.env=pure none:=by rfl)
  (h1:(assignEach [tg] X.env).map (·.2)=[assign tg X.env]:=by rfl):PS X (.Assign [tg] e pos) (qA te g):=by
 intro zk s σ H D I h;refine wpAny_Assign_stores (thn (he zk s σ H _ I h) fun v s1 ⟨x,H1,I1,r1,q1⟩=>?_) hs hw;rw[h1];exact thn (hg zk s1 σ H1 x v _ I1 r1 q1) fun _ s2 q=>q
theorem zD{i:Nat}{x:Str}{e:Expr}{te:TE}{pos':Pos}(hN:X.N.Nodup)(hi:X.N[i]?=some x)(hx:Loc X.env.scope x)(he:PE X e te)(hs:swapsWith e (some (.Name x pos')) pos.line X.env=pure false:=by rfl)(hf:X.fn x=true\/X.env.scope.names.lookup x=some .local:=by first|exact .inl rfl|exact .inr rfl|assumption):
  PS X (.Assign [.Name x pos'] e pos) (qA te (j7 i)):=by
 intro zk s σ H D I h;refine wpAny_Assign_Name (thn (he zk s σ H _ I h) fun v s1 ⟨y,H1,I1,r1,q1⟩=>?_) hs;exact wP I1 hN hi hx r1 (fun s2 I2=>⟨_,H1,I2,q1⟩) hf
end
structure It where
 go:Nat->Hp->Prop
 yld:Nat->Hp->V->Hp->Prop
 stop:Nat->Hp->Prop
def FpOk(X:Cx)(zk:List (Addr×Obj))(H:Hp)(b:Addr):Prop:=
 H b=none/\b≠X.env.locals/\b∉X.fs/\(b∈X.ex\/X.s₀.heap.objs.size<=b)/\(∀x c,X.env.cells.lookup x=some c->c≠b)/\∀p∈X.pn++zk,p.1≠b
theorem Inv.fpOk{X:Cx}{zk:List (Addr×Obj)}{σ:St}{H H':Hp}{s:bq}{b:Addr}(I:Inv X zk σ H s)(hb:s.heap.objs.size<=b)(hn:H' b=none):FpOk X zk H' b:=by
 refine⟨hn,ne_of_gt (io I.lt hb),I.nofs hb,.inr (jn I.sz hb),fun x c e z=>?_,fun p hp z=>?_⟩
 ·obtain⟨v,q⟩:=I.cell x c e;exact absurd (io q.lt (by rw[z];exact hb)) (lj _)
 ·exact absurd (io (gg (I.pin p hp).1) (by rw[z];exact hb)) (lj _)
structure Turn(P:gc)(w:gy)(K:cy)(tg:Expr)(J:It)(fp:List Addr)(it:Addr)(tn:Nat->Heap->Prop):Prop where
 mem:it∈fp
 obj:∀i h,tn i h->∀b∈fp,∃o,h.get? b=some o/\∀v,o.data≠.cell v
 keep:∀i h h',tn i h->(∀b∈fp,∀o,h.get? b=some o->h'.get? b=some o)->tn i h'
 item:∀(X:Cx),X.prog=P->X.w=w->X.K=K->X.calm=true->∀(i:Nat) (zk:List (Addr×Obj)) (s:bq) (σ:St) (H:Hp) (E:bp->bq->Prop),Inv X zk σ H s->(∀b∈fp,FpOk X zk H b)->tn i s.heap->J.go i H ->
  dh (model P w) X.A (pyNext (.ref it)) (fun r s1=>∃u,r=some u /\
   dh (model P w) X.A (letOwnedTupleGo tg (.ref it) u) (fun _ s2=>∃x H',Inv X zk σ H' s2/\RelV x u/\J.yld i H x H'/\tn (i+1) s2.heap/\∀b∈fp,H' b=none) E s1) E s
 done:∀(X:Cx),X.prog=P->X.w=w->X.K=K->X.calm=true->∀(i:Nat) (zk:List (Addr×Obj)) (s:bq) (σ:St) (H:Hp) (E:bp->bq->Prop),Inv X zk σ H s->(∀b∈fp,FpOk X zk H b)->tn i s.heap->J.stop i H ->
  dh (model P w) X.A (pyNext (.ref it)) (fun r s1=>r=none/\Inv X zk σ H s1) E s
 self:∀(A:ip) (i:Nat) (s:bq) (Q:bp->bq->Prop) (E:bp->bq->Prop),tn i s.heap->Q (.ref it) s->dh (model P w) A (pyIter (.ref it)) Q E s
abbrev TI:=St->Hp->(It->Hp->Prop)->Prop
def PIE(X:Cx)(zk:List (Addr×Obj))(σ:St)(tg:Expr)(R:It->Hp->Prop)(q:bp)(s2:bq):Prop:=
 ∃(it:Addr) (fp:List Addr) (tn:Nat->Heap->Prop) (J:It) (H':Hp),q=.ref it/\Inv X zk σ H' s2/\Turn X.prog X.w X.K tg J fp it tn/\tn 0 s2.heap/\(∀b∈fp,FpOk X zk H' b)/\R J H'
def PI(X:Cx)(tg iter:Expr)(wi:TI):Prop:=
 ∀(zk:List (Addr×Obj)) (s:bq) (σ:St) (H:Hp) (R:It->Hp->Prop),Inv X zk σ H s->wi σ H R ->
  dh (model X.prog X.w) X.A (eval iter X.env) (fun v s1=>dh (model X.prog X.w) X.A (pyIter v) (PIE X zk σ tg R) X.xe s1) X.xe s
theorem sQ{M:Model}{A:ip}{E:bp->bq->Prop}{s:bq}{tg:Expr}{it:Addr}{u:bp}{o:Obj}{n:String}{vs:Array bp}{Q:Unit->bq->Prop}(ho:s.heap.get? it=some o)(hc:o.cls=.type n)(hd:o.data=.fields vs)
    (hn:["enumerate","zip","dict_itemiterator","dict_reverseitemiterator","odict_iterator","itertools.zip_longest","itertools.pairwise"].contains n=false) (hQ:Q () s):dh M A (letOwnedTupleGo tg (.ref it) u) Q E s:=by
  unfold letOwnedTupleGo;cases tg<;>first
    |exact cq hQ
    | (cases u<;>first
        |exact cq hQ
        | (refine bo (wpAny_load ho ?_)
           rw[hc,hd];show dh M A (if (["enumerate","zip","dict_itemiterator","dict_reverseitemiterator","odict_iterator","itertools.zip_longest","itertools.pairwise"].contains n&&vs[0]?==some (rawInt _))=true then _ else _) Q E s;rw[cf (by intro h;rw[hn,Bool.false_and]at h;cases h)];exact cq hQ))
def Itl(K:cy)(a:Addr):It:=
 ⟨fun i H=>∃xs x,SqL K H a xs/\xs[i]?=some x,fun i H x H'=>H'=H/\∀xs,SqL K H a xs->xs[i]?=some x,fun i H=>∃xs,SqL K H a xs/\xs.length<=i⟩
def Itt(K:cy)(a:Addr):It:=
 ⟨fun i H=>∃xs x,SqT K H a xs/\xs[i]?=some x,fun i H x H'=>H'=H/\∀xs,SqT K H a xs->xs[i]?=some x,fun i H=>∃xs,SqT K H a xs/\xs.length<=i⟩
def Itr(lo:Int)(n:Nat):It:=⟨fun i _=>i<n,fun i H x H'=>H'=H/\x=.int (lo+i),fun i _=>n<=i⟩
theorem E1{P:gc}{w:gy}{K:cy}{tg:Expr}(a it:Addr):Turn P w K tg (Itl K a) [it] it (fun i h=>h.IsListIter it a i) where
 mem:=by simp
 obj:=fun i h st b hb=>by
  have e:b=it:=by simpa using hb
  subst e;obtain⟨o,e,c,d⟩:=st;exact⟨o,e,fun v z=>by rw[d]at z;cases z⟩
 keep:=fun i h h' st k=>st.at fun o e=>k it yv o e
 item:=by
  intro X hP hw hK hc i zk s σ H E I hf st hg;subst hP hw hK;obtain⟨xs,x,hq,hx⟩:=hg;obtain⟨q,rv,p,hz⟩:=I.list hq;obtain⟨u,hu,ru⟩:=rv.get hx;obtain⟨f0,f1,f2,f3,f4,f5⟩:=hf it yv;refine wpAny_pyNext_list_item st p.isList (x:=u) (by simpa using hu) fun h' st' sb=>?_;have I1:Inv X zk σ H { s with heap:=h' }:=I.turned (t':=s.toks) (fun b o hb e=>(sb.2 b hb).trans e) f0 f1 f3 f4 f5;obtain⟨o,e,c,d⟩:=id st';exact⟨u,rfl,sQ (s:={ s with heap:=h' }) e c d dz ⟨x,H,I1,ru,⟨rfl,fun ys hy=>by rw[I.list_inj hy hq];exact hx⟩,st',fun b hb=>(hf b hb).1⟩⟩
 done:=by
  intro X hP hw hK hc i zk s σ H E I hf st hg;subst hP hw hK;obtain⟨xs,hq,hx⟩:=hg;obtain⟨q,rv,p,hz⟩:=I.list hq;obtain⟨f0,f1,f2,f3,f4,f5⟩:=hf it yv;have hl:=rv.length;exact wpAny_pyNext_list_end (I.ok.hd hc) st p.isList (by simp;omega) fun h' eb=>⟨rfl,I.turned (t':=s.toks) (fun b o hb e=>eb b o hb e) f0 f1 f3 f4 f5⟩
 self:=fun _ _ _ _ _ st h=>wpAny_pyIter_listiter st h
theorem LC{P:gc}{w:gy}{K:cy}{tg:Expr}(a it:Addr):Turn P w K tg (Itt K a) [it] it (fun i h=>h.IsTupleIter it a i) where
 mem:=by simp
 obj:=fun i h st b hb=>by
  have e:b=it:=by simpa using hb
  subst e;obtain⟨o,e,c,d⟩:=st;exact⟨o,e,fun v z=>by rw[d]at z;cases z⟩
 keep:=fun i h h' st k=>st.at fun o e=>k it yv o e
 item:=by
  intro X hP hw hK hc i zk s σ H E I hf st hg;subst hP hw hK;obtain⟨xs,x,hq,hx⟩:=hg;obtain⟨q,rv,p,hz⟩:=I.tuple hq;obtain⟨u,hu,ru⟩:=rv.get hx;obtain⟨f0,f1,f2,f3,f4,f5⟩:=hf it yv;refine wpAny_pyNext_tuple_item st (show s.heap.IsTuple a q.toArray from p) (x:=u) (by simpa using hu) fun h' st' sb=>?_;have I1:Inv X zk σ H { s with heap:=h' }:=I.turned (t':=s.toks) (fun b o hb e=>(sb.2 b hb).trans e) f0 f1 f3 f4 f5;obtain⟨o,e,c,d⟩:=id st';exact⟨u,rfl,sQ (s:={ s with heap:=h' }) e c d dz ⟨x,H,I1,ru,⟨rfl,fun ys hy=>by rw[I.tuple_inj hy hq];exact hx⟩,st',fun b hb=>(hf b hb).1⟩⟩
 done:=by
  intro X hP hw hK hc i zk s σ H E I hf st hg;subst hP hw hK;obtain⟨xs,hq,hx⟩:=hg;obtain⟨q,rv,p,hz⟩:=I.tuple hq;obtain⟨f0,f1,f2,f3,f4,f5⟩:=hf it yv;have hl:=rv.length;exact wpAny_pyNext_tuple_end (I.ok.hd hc) st (show s.heap.IsTuple a q.toArray from p) (by simp;omega) fun h' eb=>⟨rfl,I.turned (t':=s.toks) (fun b o hb e=>eb b o hb e) f0 f1 f3 f4 f5⟩
 self:=fun _ _ _ _ _ st h=>wpAny_pyIter_tupleiter st h
theorem HF{P:gc}{w:gy}{K:cy}{tg:Expr}(it:Addr)(lo:Int)(n:Nat):Turn P w K tg (Itr lo n) [it] it (fun i h=>IsRangeIter h it (lo+(i:Nat)*1) ((n:Int)-(i:Nat)) 1) where
 mem:=by simp
 obj:=fun i h st b hb=>by
  have e:b=it:=by simpa using hb
  subst e;exact⟨_,st,fun v z=>by
   have z':Data.fields _=Data.cell v:=z;cases z'⟩
 keep:=fun i h h' st k=>k it yv _ st
 item:=by
  intro X hP hw hK hc i zk s σ H E I hf st hg;subst hP hw hK;obtain⟨f0,f1,f2,f3,f4,f5⟩:=hf it yv;have W:=Walks.range (prog:=X.prog) (w:=X.w) (I.ok.hd hc) it lo 1 n;refine W.item i s _ _ hg st fun v h' tk hv st' kk=>?_;obtain⟨t,rfl⟩:=hv;have I1:Inv X zk σ H { s with heap:=h',toks:=tk }:=I.turned (fun b o hb e=>kk b o (by simpa using hb) e) f0 f1 f3 f4 f5;refine⟨_,rfl,sQ (s:={ s with heap:=h',toks:=tk }) (n:="range_iterator") st' rfl rfl dz ⟨.int (lo+i),H,I1,⟨t,?_⟩,⟨rfl,rfl⟩,st',fun b hb=>(hf b hb).1⟩⟩;rw[Int.mul_one]
 done:=by
  intro X hP hw hK hc i zk s σ H E I hf st hg;subst hP hw hK;obtain⟨f0,f1,f2,f3,f4,f5⟩:=hf it yv;exact wpAny_pyNext_range_end (I.ok.hd hc) st (by have:n<=i:=hg;omega) fun h' eb=>⟨rfl,I.turned (t':=s.toks) (fun b o hb e=>eb b o hb e) f0 f1 f3 f4 f5⟩
 self:=fun _ _ _ _ _ st h=>wpAny_pyIter_rangeiter st h
end
section
section
variable {X:Cx}{tg:Expr}
def x5(K:cy)(tl:TE):TI:=fun σ H R=>tl σ H fun x H1=>∃a,x=.ref a/\(∃xs,SqL K H1 a xs)/\R (Itl K a) H1
theorem Lb{l:Expr}{tl:TE}(hl:PE X l tl):PI X tg l (x5 X.K tl):=by
 intro zk s σ H R I h;refine thn (hl zk s σ H _ I h) fun v s1 ⟨x,H1,I1,r1,q1⟩=>?_;obtain⟨a,e,⟨xs,hq⟩,q⟩:=q1;subst e;cases r1;obtain⟨aa,rv,p,hz⟩:=I1.list hq;refine qr p.isList ?_;refine⟨s1.heap.objs.size,[s1.heap.objs.size],_,_,H1,rfl,I1.kept (t':=s1.toks) fun b o e=>cp _ e,E1 a _,⟨_,fj _ rfl,rfl,rfl⟩,fun b hb=>?_,q⟩;have e:b=s1.heap.objs.size:=by simpa using hb
 subst e;exact I1.fpOk (ff _) (I1.hok.fresh (ff _))
def pP(wi:TI)(g:TG)(tb:TS):TS:=fun D σ H=>wi σ H fun J H1=>∃W:Nat->Nat->St->Hp->Prop,(∃m,W 0 m σ H1)/\∀i m σ H,W i m σ H ->
 (J.stop i H/\D.nx σ H)\/(J.go i H/\∃N:St->Hp->Prop,(∀ σ' H',N σ' H'->∃m',m'<m/\W (i+1) m' σ' H')/\∀x H',J.yld i H x H'->g x σ H' fun σ2 H2=>tb { D with nx:=N,ct:=N,bk:=D.nx } σ2 H2)
def oB(fp:List Addr)(h:Heap):List (Addr×Obj):=fp.filterMap fun b=>(h.get? b).map fun o=>(b,o)
theorem sX{fp:List Addr}{h:Heap}{b:Addr}{o:Obj}(hb:b∈fp)(e:h.get? b=some o):(b,o)∈oB fp h:=List.mem_filterMap.mpr ⟨b,hb,by rw[e];rfl⟩
theorem GP{fp:List Addr}{h:Heap}{p:Addr×Obj}(hp:p∈oB fp h):p.1∈fp/\h.get? p.1=some p.2:=by
 obtain⟨b,hb,e⟩:=List.mem_filterMap.mp hp;cases q:h.get? b with
 |none=>rw[q]at e;cases e
 |some o=>
  rw[q]at e;have e':(b,o)=p:=gh e;subst e';exact⟨hb,q⟩
theorem Inv.pinned{zk:List (Addr×Obj)}{σ:St}{H:Hp}{s:bq}{fp:List Addr}(I:Inv X zk σ H s)(hf:∀b∈fp,FpOk X zk H b)(ho:∀b∈fp,∃o,s.heap.get? b=some o/\∀v,o.data≠.cell v):Inv X (zk++oB fp s.heap) σ H s:=
 I.pins_of fun p hp=>(mem_append.mp hp).elim (fun z=>I.pin p (gp _ z)) fun z=>by
  obtain⟨hb,e⟩:=GP z;obtain⟨f0,f1,f2,_⟩:=hf p.1 hb;obtain⟨o,e',d⟩:=ho p.1 hb;rw[e]at e';cases e';exact⟨e,f0,f1,f2,d⟩
theorem Inv.unpinned{zk pl:List (Addr×Obj)}{σ:St}{H:Hp}{s:bq}(I:Inv X (zk++pl) σ H s):Inv X zk σ H s:=I.pins_of fun p hp=>I.pin p (gp _ (gi _ hp))
theorem cT{iter:Expr}{ab:List Stmt}{wi:TI}{g:TG}{tb:TS}{pos:Pos}(hp:PassesOwn (model X.prog X.w) X.A X.env X.xe)(hc:X.calm=true)(hi:PI X tg iter wi)(hg:PG X tg g)(hb:PSs X ab tb)
  (hs:∀x,foldedSetIterable iter X.env x=pure x:=by intro _;rfl):PS X (.For tg iter ab [] pos) (pP wi g tb):=by
 intro zk s σ H D I h;refine wpAny_For (thn (hi zk s σ H _ I h) fun v s1 h1=>thn h1 fun aj s2 h2=>?_) hs;obtain⟨it,fp,tn,J,H2,e,I2,T,ai,f2,W,⟨m0,w0⟩,ag⟩:=h2;subst e
 have aa:∀{H':Hp},(∀b∈fp,H' b=none)->∀b∈fp,FpOk X zk H' b:=fun hn b hb=>⟨hn b hb,(f2 b hb).2⟩;refine codeAny_forLoop_any (fun n s'=>∃i σ' H',Inv X zk σ' H' s'/\tn i s'.heap/\(∀b∈fp,H' b=none)/\W i n σ' H') ?_ m0 ⟨0,σ,H2,I2,ai,fun b hb=>(f2 b hb).1,w0⟩;rintro n s3 ⟨i,σ3,H3,I3,ae,af,w3⟩;rcases ag i n σ3 H3 w3 with ⟨stop,qn⟩|⟨go,N,hN,step⟩
 ·refine re hp (thn (T.done X rfl rfl rfl hc i zk s3 σ3 H3 X.xe I3 (aa af) ae stop) fun r s4 ⟨hr,I4⟩=>?_);subst hr;exact wpAny_execs_nil ⟨σ3,H3,I4,qn⟩
 ·refine re hp (thn (T.item X rfl rfl rfl hc i zk s3 σ3 H3 X.xe I3 (aa af) ae go) fun r s4 ⟨u,hr,h4⟩=>?_);subst hr;refine re hp (thn h4 fun _ s5 ⟨x,H5,I5,r5,y5,ac,ah⟩=>?_);have I5':=I5.pinned (aa ah) (T.obj _ _ ac);refine re hp (thn (hg _ s5 σ3 H5 x u _ I5' r5 (step x H5 y5)) fun _ s6 ⟨σ6,H6,I6,q6⟩=>?_);refine re hp (thn (hb _ s6 σ6 H6 _ I6 q6) fun f s7 q7=>?_);have q:∀{σ7:St}{H7:Hp},Inv X (zk++oB fp s5.heap) σ7 H7 s7->N σ7 H7->∃m,m<n/\∃i σ' H',Inv X zk σ' H' s7/\tn i s7.heap/\(∀b∈fp,H' b=none)/\W i m σ' H':=fun {σ7 H7} I7 n7=>by
   obtain⟨m',hm,w7⟩:=hN σ7 H7 n7;refine⟨m',hm,i+1,σ7,H7,I7.unpinned,T.keep _ _ _ ac fun b hb o e=>(I7.pin (b,o) (gp _ (gp _ (sX hb e)))).1,fun b hb=>?_,w7⟩;obtain⟨o,e,d⟩:=T.obj _ _ ac b hb;exact(I7.pin (b,o) (gp _ (gp _ (sX hb e)))).2.1
  cases f with
  |next=>obtain⟨σ7,H7,I7,n7⟩:=q7;exact q I7 n7
  |cont=>obtain⟨σ7,H7,I7,n7⟩:=q7;exact q I7 n7
  |brk=>obtain⟨σ7,H7,I7,q7⟩:=q7;exact⟨σ7,H7,I7.unpinned,q7⟩
  |ret v=>obtain⟨x7,σ7,H7,I7,r7,q7⟩:=q7;exact⟨x7,σ7,H7,I7.unpinned,r7,q7⟩
end
theorem Fs{K:cy}{a:Addr}{xs:List V}{g:TG}{tb:TS}{D:Ends}{σ:St}{H:Hp}(Pv:Nat->St->Hp->Prop)(h0:Pv 0 σ H)(hl:∀i σ H,i<=xs.length->Pv i σ H->SqL K H a xs)
  (hs:∀i x σ H,xs[i]?=some x->Pv i σ H->g x σ H fun σ2 H2=>tb { D with nx:=Pv (i+1),ct:=Pv (i+1),bk:=D.nx } σ2 H2) (hd:∀ σ H,Pv xs.length σ H->D.nx σ H):
  ∃W:Nat->Nat->St->Hp->Prop,(∃m,W 0 m σ H)/\∀i m σ H,W i m σ H ->
   ((Itl K a).stop i H/\D.nx σ H)\/((Itl K a).go i H/\∃N:St->Hp->Prop,(∀ σ' H',N σ' H'->∃m',m'<m/\W (i+1) m' σ' H')/\∀x H',(Itl K a).yld i H x H'->g x σ H' fun σ2 H2=>tb { D with nx:=N,ct:=N,bk:=D.nx } σ2 H2):=by
 refine⟨fun i m σ H=>m=xs.length-i/\i<=xs.length/\Pv i σ H,⟨xs.length,yv,lc _,h0⟩,?_⟩;rintro i m σ H ⟨rfl,hi,p⟩;have q:=hl i σ H hi p;by_cases hlt:i<xs.length
 ·refine .inr ⟨⟨xs,xs[i],q,by simp[hlt]⟩,Pv (i+1),fun σ' H' p'=>⟨xs.length-(i+1),yw,rfl,hlt,p'⟩,fun x H' y=>?_⟩;obtain⟨e,y⟩:=y;subst e;exact hs i x σ _ (y xs q) p
 ·have e:i=xs.length:=yw
  subst e;exact .inl ⟨⟨xs,q,ff _⟩,hd σ H p⟩
end
section
abbrev R2:=V->V->Hp->VK->Prop
def OpR(X:Cx)(f:bp->bp->Sem bp)(r:R2):Prop:=
 ∀(zk:List (Addr×Obj)) (s:bq) (σ:St) (H:Hp) (x y:V) (v u:bp) (Q:VK),Inv X zk σ H s->RelV x v->RelV y u->r x y H Q ->
  dh (model X.prog X.w) X.A (f v u) (EP X zk σ Q) X.xe s
def UnR(X:Cx)(f:bp->Sem bp)(r:V->Hp->VK->Prop):Prop:=
 ∀(zk:List (Addr×Obj)) (s:bq) (σ:St) (H:Hp) (x:V) (v:bp) (Q:VK),Inv X zk σ H s->RelV x v->r x H Q ->
  dh (model X.prog X.w) X.A (f v) (EP X zk σ Q) X.xe s
def CallR(X:Cx)(f:bp)(r:List V->Hp->VK->Prop):Prop:=
 ∀(zk:List (Addr×Obj)) (s:bq) (σ:St) (H:Hp) (xs:List V) (us:List bp) (Q:VK),Inv X zk σ H s->Vals xs us->r xs H Q ->
  dh (model X.prog X.w) X.A (call f us) (EP X zk σ Q) X.xe s
def TruR(X:Cx)(r:V->Hp->(Bool->Hp->Prop)->Prop):Prop:=
 ∀(zk:List (Addr×Obj)) (s:bq) (σ:St) (H:Hp) (x:V) (v:bp) (Q:Bool->Hp->Prop),Inv X zk σ H s->RelV x v->r x H Q ->
  dh (model X.prog X.w) X.A (truthy v) (TP X zk σ Q) X.xe s
def tOp(r:R2)(ta tb:TE):TE:=fun σ H Q=>ta σ H fun x H1=>tb σ H1 fun y H2=>r x y H2 Q
def tUn(r:V->Hp->VK->Prop)(ta:TE):TE:=fun σ H Q=>ta σ H fun x H1=>r x H1 Q
def rI(C:Int->Int->Prop)(g:Int->Int->V):R2:=fun x y H Q=>∃i j,x=.int i/\y=.int j/\C i j/\Q (g i j) H
def rI0(g:Int->Int->V):R2:=fun x y H Q=>∃i j,x=.int i/\y=.int j/\Q (g i j) H
def rU(g:Int->V):V->Hp->VK->Prop:=fun x H Q=>∃i,x=.int i/\Q (g i) H
section
variable {X:Cx}{a b c:Expr}{ta tb tc:TE}{pos:Pos}
theorem xU(ha:PE X a ta)(hb:PE X b tb){zk:List (Addr×Obj)}{s:bq}{σ:St}{H:Hp}{R:V->V->Hp->Prop}(I:Inv X zk σ H s)
  (h:ta σ H fun x H1=>tb σ H1 fun y H2=>R x y H2) {Q:bp->bq->Prop}{f:bp->bp->Sem bp}
  (hf:∀v u s2 x y H2,Inv X zk σ H2 s2->RelV x v->RelV y u->R x y H2->dh (model X.prog X.w) X.A (f v u) Q X.xe s2):
  dh (model X.prog X.w) X.A (eval a X.env) (fun v s₁=>dh (model X.prog X.w) X.A (eval b X.env) (fun u s₂=>dh (model X.prog X.w) X.A (f v u) Q X.xe s₂) X.xe s₁) X.xe s:=by
 refine thn (ha zk s σ H _ I h) fun v s1 ⟨x,H1,I1,r1,q1⟩=>?_;refine thn (hb zk s1 σ H1 _ I1 q1) fun u s2 ⟨y,H2,I2,r2,q2⟩=>?_;exact hf v u s2 x y H2 I2 r1 r2 q2
theorem zE{op:Operator}{r:R2}(ho:OpR X (lf op) r)(ha:PE X a ta)(hb:PE X b tb):PE X (.BinOp a op b pos) (tOp r ta tb):=by
 intro zk s σ H Q I h;exact wpAny_BinOp (xU ha hb I h fun v u s2 x y H2 I2 rx ry q=>ho zk s2 σ H2 x y v u Q I2 rx ry q)
theorem fE{op:UnaryOp}{r:V->Hp->VK->Prop}(ho:UnR X (unaryOp op) r)(ha:PE X a ta):PE X (.UnaryOp op a pos) (tUn r ta):=by
 intro zk s σ H Q I h;exact UnaryOp_ (thn (ha zk s σ H _ I h) fun v s1 ⟨x,H1,I1,r1,q1⟩=>ho zk s1 σ H1 x v Q I1 r1 q1)
theorem opI{f:bp->bp->Sem bp}{C:Int->Int->Prop}{g:Int->Int->Int}
  (rule:∀(i j:Int) (t u:Tok) (s:bq) (Q:bp->bq->Prop) (E:bp->bq->Prop),C i j->Q (.int (g i j) s.toks) { s with toks:=s.toks+1 }->dh (model X.prog X.w) X.A (f (.int i t) (.int j u)) Q E s):
  OpR X f (rI C fun i j=>.int (g i j)):=by
 intro zk s σ H x y v u Q I rx ry h;obtain⟨i,j,rfl,rfl,hc,q⟩:=h;obtain⟨t,rfl⟩:=rx;obtain⟨t',rfl⟩:=ry;exact rule i j t t' s _ _ hc ⟨.int (g i j),H,I.tok _,⟨_,rfl⟩,q⟩
theorem Eu{f:bp->bp->Sem bp}{g:Int->Int->Int}
  (rule:∀(i j:Int) (t u:Tok) (s:bq) (Q:bp->bq->Prop) (E:bp->bq->Prop),Q (.int (g i j) s.toks) { s with toks:=s.toks+1 }->dh (model X.prog X.w) X.A (f (.int i t) (.int j u)) Q E s):
  OpR X f (rI0 fun i j=>.int (g i j)):=by
 intro zk s σ H x y v u Q I rx ry h;obtain⟨i,j,rfl,rfl,q⟩:=h;obtain⟨t,rfl⟩:=rx;obtain⟨t',rfl⟩:=ry;exact rule i j t t' s _ _ ⟨.int (g i j),H,I.tok _,⟨_,rfl⟩,q⟩
theorem tN{f:bp->bp->Sem bp}{g:Int->Int->Bool}
  (rule:∀(i j:Int) (t u:Tok) (s:bq) (Q:bp->bq->Prop) (E:bp->bq->Prop),Q (.bool (g i j)) s->dh (model X.prog X.w) X.A (f (.int i t) (.int j u)) Q E s):
  OpR X f (rI0 fun i j=>.bl (g i j)):=by
 intro zk s σ H x y v u Q I rx ry h;obtain⟨i,j,rfl,rfl,q⟩:=h;obtain⟨t,rfl⟩:=rx;obtain⟨t',rfl⟩:=ry;exact rule i j t t' s _ _ ⟨.bl (g i j),H,I,rfl,q⟩
def CDivN(i j:Int):Prop:=j≠0/\j.natAbs<1073741824
def CPow(i j:Int):Prop:=0<=j/\j<=1000000/\i.natAbs<2 ^ 64
theorem FA:OpR X (lf .Add) (rI0 fun i j=>.int (i+j)):=Eu fun _ _ _ _ _ _ _ q=>add_int q
theorem eC:OpR X (lf .Sub) (rI0 fun i j=>.int (i-j)):=Eu fun _ _ _ _ _ _ _ q=>sub_int q
theorem K9:OpR X (lf .FloorDiv) (rI CDivN fun i j=>.int (i.fdiv j)):=opI fun _ _ _ _ _ _ _ hc q=>floordiv_int hc.1 q (.inl (PyProof.noPylong_small hc.2))
theorem gE:OpR X (lf .Mod) (rI (fun _ j=>0<j) fun i j=>.int (i % j)):=opI fun i j _ _ _ _ _ hc q=>by
 have h1:(0:Int)<j:=hc;exact mod_int' yw (by rw[Int.fmod_eq_emod_of_nonneg i yw];exact q)
theorem lP:OpR X (lf .Pow) (rI CPow fun i j=>.int (i ^ j.toNat)):=opI fun _ _ _ _ _ _ _ hc q=>pow_int_small hc.1 hc.2.1 hc.2.2 q
theorem unI{f:bp->Sem bp}{g:Int->Int}
  (rule:∀(i:Int) (t:Tok) (s:bq) (Q:bp->bq->Prop) (E:bp->bq->Prop),Q (.int (g i) s.toks) { s with toks:=s.toks+1 }->dh (model X.prog X.w) X.A (f (.int i t)) Q E s):
  UnR X f (rU fun i=>.int (g i)):=by
 intro zk s σ H x v Q I rx h;obtain⟨i,rfl,q⟩:=h;obtain⟨t,rfl⟩:=rx;exact rule i t s _ _ ⟨.int (g i),H,I.tok _,⟨_,rfl⟩,q⟩
theorem fC:UnR X (unaryOp .USub) (rU fun i=>.int (-i)):=unI fun _ _ _ _ _ q=>neg_int q
end
section
variable {X:Cx}{a b c:Expr}{ta tb tc:TE}{pos:Pos}
theorem JJ{zk:List (Addr×Obj)}{σ:St}{H:Hp}{s:bq}{Q:VK}{k k':Bool}(I:Inv X zk σ H s)(q:Q (.bl k) H)(e:k=k'):EP X zk σ Q (.bool k') s:=by
 subst e;exact⟨.bl k,H,I,rfl,q⟩
theorem fZ:OpR X (jt .Lt) (rI0 fun i j=>.bl (decide (i<j))):=tN fun _ _ _ _ _ _ _ q=>lt_int q
theorem mE:OpR X (jt .LtE) (rI0 fun i j=>.bl (decide (i<=j))):=tN fun _ _ _ _ _ _ _ q=>le_int q
theorem kQ:OpR X (jt .Gt) (rI0 fun i j=>.bl (decide (j<i))):=tN fun _ _ _ _ _ _ _ q=>gt_int q
theorem tR:OpR X (jt .GtE) (rI0 fun i j=>.bl (decide (j<=i))):=tN fun _ _ _ _ _ _ _ q=>ge_int q
theorem FD:OpR X (jt .NotIn) (fun x y H Q=>∃i j,x=.str i/\y=.str j/\Q (.bl (!(!(Builtin.Str.occurrences j i 0 j.length 1).isEmpty))) H):=by
 intro zk s σ H x y v u Q I rx ry h;obtain⟨i,j,rfl,rfl,q⟩:=h;obtain⟨t,rfl⟩:=rx;obtain⟨t',rfl⟩:=ry;exact notIn_str (JJ I q rfl)
theorem OpR.or{f:bp->bp->Sem bp}{r r':R2}(h:OpR X f r)(h':OpR X f r'):OpR X f (fun x y H Q=>r x y H Q\/r' x y H Q):=by
 intro zk s σ H x y v u Q I rx ry q;rcases q with q|q
 ·exact h zk s σ H x y v u Q I rx ry q
 ·exact h' zk s σ H x y v u Q I rx ry q
theorem nomark(b:Expr){op:CmpOp}(h:op≠.In:=by decide)(h2:op≠.NotIn:=by decide):behindInMarks op b=false:=by
 have e1:(op==CmpOp.In)=false:=by cases op<;>first|rfl|exact absurd rfl h
 have e2:(op==CmpOp.NotIn)=false:=by cases op<;>first|rfl|exact absurd rfl h2
 cases b<;>simp[behindInMarks,e1,e2]
theorem eO{op:CmpOp}{r:R2}(ho:OpR X (jt op) r)(ha:PE X a ta)(hb:PE X b tb)(hm:behindInMarks op b=false):PE X (.Compare a [op] [b] pos) (tOp r ta tb):=by
 intro zk s σ H Q I h;exact wpAny_Compare1 (xU ha hb I h fun v u s2 x y H2 I2 rx ry q=>ho zk s2 σ H2 x y v u Q I2 rx ry q) hm
def pW(t:TE):TT:=fun σ H Q=>t σ H fun x H'=>∃k,x=.bl k/\Q k H'
theorem zN{op:CmpOp}{r:R2}(ho:OpR X (jt op) r)(ha:PE X a ta)(hb:PE X b tb)(hm:behindInMarks op b=false):PT X (.Compare a [op] [b] pos) (pW (tOp r ta tb)):=by
 intro zk s σ H Q I h;refine wpAny_isTrue_Compare1 (thn (ha zk s σ H _ I h) fun v s1 ⟨x,H1,I1,r1,q1⟩=>thn (hb zk s1 σ H1 _ I1 q1) fun u s2 ⟨y,H2,I2,r2,q2⟩=>
  thn (ho zk s2 σ H2 x y v u _ I2 r1 r2 q2) fun c s3 ⟨z,H3,I3,r3,k,e,q3⟩=>?_) hm
 subst e;cases r3;exact ja ⟨H3,I3,q3⟩
def yM(r r':R2)(ta tb tc:TE):TE:=fun σ H Q=>ta σ H fun x H1=>tb σ H1 fun y H2=>r x y H2 fun z H3=>∃k,z=.bl k /\
 (if k=true then tc σ H3 fun w' H4=>r' y w' H4 Q else Q (.bl false) H3)
theorem yI{op q:CmpOp}{r r':R2}(ho:OpR X (jt op) r)(aa:OpR X (jt q) r')(ha:PE X a ta)(hb:PE X b tb)(hc:PE X c tc)
  (hm:lastMarks [op,q] [b,c]=false:=by with_unfolding_all rfl):PE X (.Compare a [op,q] [b,c] pos) (yM r r' ta tb tc):=by
 intro zk s σ H Q I h;refine Compare_chain (thn (ha zk s σ H _ I h) fun v s1 ⟨x,H1,I1,r1,q1⟩=>chain_link (thn (hb zk s1 σ H1 _ I1 q1) fun u s2 ⟨y,H2,I2,r2,q2⟩=>
  thn (ho zk s2 σ H2 x y v u _ I2 r1 r2 q2) fun d s3 ⟨z,H3,I3,r3,k,e,q3⟩=>?_)) hm
 subst e;cases r3;refine ja ?_;cases k with
 |false=>exact ite_ff ⟨.bl false,H3,I3,rfl,q3⟩
 |true=>exact ite_tt (chain_last (thn (hc zk s3 σ H3 _ I3 q3) fun w' s4 ⟨z',H4,I4,r4,q4⟩=>aa zk s4 σ H4 y z' u w' Q I4 r2 r4 q4))
theorem Ji{op q:CmpOp}{r r':R2}(ho:OpR X (jt op) r)(aa:OpR X (jt q) r')(ha:PE X a ta)(hb:PE X b tb)(hc:PE X c tc)
  (hm:lastMarks [op,q] [b,c]=false:=by with_unfolding_all rfl):PT X (.Compare a [op,q] [b,c] pos) (pW (yM r r' ta tb tc)):=by
 intro zk s σ H Q I h;refine isTrue_chain (thn (ha zk s σ H _ I h) fun v s1 ⟨x,H1,I1,r1,q1⟩=>test_link (thn (hb zk s1 σ H1 _ I1 q1) fun u s2 ⟨y,H2,I2,r2,q2⟩=>
  thn (ho zk s2 σ H2 x y v u _ I2 r1 r2 q2) fun d s3 ⟨z,H3,I3,r3,k,e,q3⟩=>?_)) hm
 subst e;cases r3;refine ja ?_;cases k with
 |false=>
  obtain⟨k',e',q'⟩:=q3;cases e';exact ite_ff ⟨H3,I3,q'⟩
 |true=>
  refine ite_tt (test_last (thn (hc zk s3 σ H3 _ I3 q3) fun w' s4 ⟨z',H4,I4,r4,q4⟩=>thn (aa zk s4 σ H4 y z' u w' _ I4 r2 r4 q4) fun d' s5 ⟨z2,H5,I5,r5,k2,e2,q5⟩=>?_));subst e2;cases r5;exact ja ⟨H5,I5,q5⟩
def TruV(K:cy)(x:V)(H:Hp)(k:Bool):Prop:=
 match x with
 | .non=>k=false
 | .bl b=>k=b
 | .int i=>k=(i != 0)
 | .str y=>y.length<=fe/\k=((y.length:Int) != 0)
 | .byt y=>y.size<=fe/\k=((y.size:Int) != 0)
 | .ref p=>(∃xs,SqL K H p xs/\k=!xs.isEmpty)\/(∃xs,SqT K H p xs/\k=!xs.isEmpty)\/∃kvs,H p=some (.dK kvs)/\k=!kvs.isEmpty
 |_=>False
theorem Fz{κ:Type}{kvs:List (κ×V)}{vs:List (κ×bp)}(r:KV kvs vs):(!vs.isEmpty)=!kvs.isEmpty:=by
 cases r<;>rfl
theorem EL{xs:List V}{q:List bp}(r:Vals xs q):(!q.toArray.isEmpty)=!xs.isEmpty:=by
 cases r<;>simp
theorem line63:(fe:Nat)<2 ^ 63:=by rw[jv];decide
theorem Gf:TruR X (fun x H Q=>∃k,TruV X.K x H k/\Q k H):=by
 intro zk s σ H x v Q I rx h;obtain⟨k,e,q⟩:=h;have hl:=line63;have hs:fe=16777216:=jv;cases x with
 |non=>
  cases rx;have e':k=false:=e;subst e';exact truthy_none ⟨H,I,q⟩
 |bl b=>
  cases rx;have e':k=b:=e;subst e';exact ja ⟨H,I,q⟩
 |int i=>
  obtain⟨t,rfl⟩:=rx;have e':k=(i != 0):=e;subst e';exact PySem.P.truthy_int ⟨H,I,q⟩
 |str y=>
  obtain⟨t,rfl⟩:=rx;obtain⟨hy,e'⟩:y.length<=fe/\k=((y.length:Int) != 0):=e;subst e';exact PySem.P.truthy_str yw ⟨H,I.tok _,q⟩
 |byt y=>
  obtain⟨t,rfl⟩:=rx;obtain⟨hy,e'⟩:y.size<=fe/\k=((y.size:Int) != 0):=e;subst e';exact W.truthy_bytes yw ⟨H,I.tok _,q⟩
 |ref p=>
  cases rx;have e':(∃xs,SqL X.K H p xs/\k=!xs.isEmpty)\/(∃xs,SqT X.K H p xs/\k=!xs.isEmpty)\/∃kvs,H p=some (.dK kvs)/\k=!kvs.isEmpty:=e;rcases e' with ⟨xs,hx,e'⟩|⟨xs,hx,e'⟩|⟨kvs,hx,e'⟩
  ·subst e';obtain⟨ab,r,pl,hz⟩:=I.list hx;have aa:=r.length;exact wpAny_truthy_list pl.isList (by simp only[fh];omega) ⟨H,I.tok _,by rw[EL r];exact q⟩
  ·subst e';obtain⟨ab,r,pl,hz⟩:=I.tuple hx;have aa:=r.length;exact truthy_tuple pl (by simp only[fh];omega) ⟨H,I.tok _,by rw[EL r];exact q⟩
  ·subst e';obtain⟨hz,hS,vs,r,m⟩:kvs.length<=fe/\(p==kf)=false/\∃vs,KV kvs vs/\s.heap.DictOf (cX X.prog X.w) p vs:=I.hok p _ hx;have aa:kvs.length=vs.length:=Paired.length r;exact wpAny_truthy_dict hS m yw ⟨H,I.tok _,by rw[Fz r];exact q⟩
 |_=>exact(show False from e).elim
theorem cN(ha:PE X a ta)(he:∀whole,isTrue a X.env whole=(do let v <- whole;standAt a.pos;holding [v] (truthy v))):
  PT X a (fun σ H Q=>ta σ H fun x H'=>∃k,TruV X.K x H' k/\Q k H'):=by
 intro zk s σ H Q I h;exact isTrue_plain (thn (ha zk s σ H _ I h) fun v s1 ⟨x,H1,I1,r1,q1⟩=>Gf zk s1 σ H1 x v Q I1 r1 q1) (he _)
theorem IS:OpR X (lf .Add) (fun x y H Q=>∃i j,x=.str i/\y=.str j/\i.length+j.length<=fe/\Q (.str (i++j)) H):=by
 intro zk s σ H x y v u Q I rx ry h;obtain⟨i,j,rfl,rfl,hz,q⟩:=h;obtain⟨t,rfl⟩:=rx;obtain⟨t',rfl⟩:=ry;exact add_str (fun t' tk=>⟨.str (i++j),H,I.tok _,⟨_,rfl⟩,q⟩) hz
theorem vals1{x:V}{us:List bp}(r:Vals [x] us):∃u,us=[u]/\RelV x u:=by
 cases r with
 |cons r1 r2=>cases r2;exact⟨_,rfl,r1⟩
theorem vals2{x y:V}{us:List bp}(r:Vals [x,y] us):∃u w',us=[u,w']/\RelV x u/\RelV y w':=by
 cases r with
 |cons r1 r2=>
  cases r2 with
  |cons r3 r4=>cases r4;exact⟨_,_,rfl,r1,r3⟩
theorem C6(hc:X.calm=true):CallR X (.builtin "max") (fun xs H Q=>∃i j,xs=[.int i,.int j]/\Q (.int (if j>i then j else i)) H):=by
 intro zk s σ H xs us Q I r h;obtain⟨i,j,rfl,q⟩:=h;obtain⟨u,w',rfl,⟨t,rfl⟩,⟨t',rfl⟩⟩:=vals2 r;refine max_two_ints (I.ok.hd hc) fun h' tk k=>⟨_,H,I.kept k,?_,q⟩;by_cases hj:j>i
 ·rw[cg hj,cg hj];exact⟨_,rfl⟩
 ·rw[cf hj,cf hj];exact⟨_,rfl⟩
theorem FQ(hc:X.calm=true):CallR X (.builtin "min") (fun xs H Q=>∃i j,xs=[.int i,.int j]/\Q (.int (if j<i then j else i)) H):=by
 intro zk s σ H xs us Q I r h;obtain⟨i,j,rfl,q⟩:=h;obtain⟨u,w',rfl,⟨t,rfl⟩,⟨t',rfl⟩⟩:=vals2 r;refine min_two_ints (I.ok.hd hc) fun h' tk k=>⟨_,H,I.kept k,?_,q⟩;by_cases hj:j<i
 ·rw[cg hj,cg hj];exact⟨_,rfl⟩
 ·rw[cf hj,cf hj];exact⟨_,rfl⟩
theorem yT:CallR X (.type "int") (fun xs H Q=>(∃i,xs=[.int i]/\Q (.int i) H)\/∃k,xs=[.bl k]/\Q (.int (if k then 1 else 0)) H):=by
 intro zk s σ H xs us Q I r h;rcases h with ⟨i,rfl,q⟩|⟨k,rfl,q⟩
 ·obtain⟨u,rfl,t,rfl⟩:=vals1 r;exact call_int_int ⟨.int i,H,I,⟨_,rfl⟩,q⟩
 ·obtain⟨u,rfl,r1⟩:=vals1 r;cases r1;exact call_int_bool ⟨.int (if k then 1 else 0),H,I.tok _,⟨_,rfl⟩,q⟩
end
end
section
structure ObjM(h:Heap)(x dx C:Addr)(mA:Str->Option bp):Prop where
 obj:h.get? x=some (W.instObj C dx)
 ns:h.Ns1 dx mA
 ne:dx≠x
theorem Jg{h:Heap}{dx:Addr}{mA:Str->Option bp}(n:h.Ns1 dx mA):∃od,h.get? dx=some od/\∀name,W.lookIn name od=some (mA name):=by
 obtain⟨o,es,ep,ho,hd,hk,_,hm⟩:=n;refine⟨o,ho,fun name=>?_⟩;have e:=hm name;unfold nsFind findBy at e;rw[<- Array.find?_toList]at e;unfold W.lookIn;rw[hd];dsimp only;split
 ·rename_i y q;rw[q]at e;exact congrArg some e
 ·rename_i q;rw[q]at e;have a:es.toList.any (·.refKey)=false:=by
   rw[List.any_eq_false];intro y hy;obtain⟨z,t,aa⟩:=hk y (Array.mem_toList_iff.mp hy);simp[DictEntry.refKey,aa]
  have a':¬ es.toList.any (·.refKey)=true:=by rw[a];exact jh
  rw[cf a'];exact congrArg some e
theorem ObjM.look{h:Heap}{x dx C:Addr}{mA:Str->Option bp}(I:ObjM h x dx C mA):∃od,W.InstAt h x (W.instObj C dx) C (some od)/\∀name,W.lookIn name od=some (mA name):=
 let ⟨od,ho,hl⟩:=Jg I.ns
 ⟨od,⟨I.obj,rfl,rfl,ho⟩,hl⟩
section
variable {P:gc}{w:gy}{H H':Hp}{h h':Heap}{a C dx:Addr}{fs fs':List (Str×V)}
theorem HI(hok:HOk P w H h)(e:H a=some (.ins C dx fs)):∃mA,ObjM h a dx C mA/\(∀f,RelO (fs.lookup f) (mA f))/\PySem.Within mA (fs.map (·.1))/\fs.length<=1000/\H dx=some (.own a):=by
 obtain⟨d,z,ne,ob,mA,n,r,q⟩:=(show ObjOk P w H h a (.ins C dx fs)from hok a _ e);exact⟨mA,⟨ob,n,ne⟩,r,q,z,d⟩
end
structure Cls(K:cy)(C:Addr):Prop where
 pg:W.plainGet K C Str.empty=true
 hd:W.hasDictIn K C=true
 po:W.plainOver K C=true
 sa:W.findIn K (.ref C) "__setattr__" = some (some (.builtin "object.__setattr__"))
theorem Cls.get{K:cy}{C:Addr}(c:Cls K C)(f:Str):W.plainGet K C f=true:=c.pg
section
variable {X:Cx}{zk:List (Addr×Obj)}{σ:St}{H:Hp}{s:bq}{A:ip}{E:bp->bq->Prop}{Q:bp->bq->Prop}{c:bp}{b:Bool}
inductive TyOf (K:cy) (H:Hp):V->bp->Prop where
 |non:TyOf K H .non (.type "NoneType")
 |bl (x:Bool):TyOf K H (.bl x) (.type "bool")
 |int (i:Int):TyOf K H (.int i) (.type "int")
 |str (x:Str):TyOf K H (.str x) (.type "str")
 |flt (x:UInt64):TyOf K H (.flt x) (.type "float")
 |lst {a:Addr}{xs:List V} (e:H a=some (.lst xs)):TyOf K H (.ref a) (.type "list")
 |frz {a:Addr}{o:Obj}{xs:List V} (e:H a=some (.frz o (.lst xs))):TyOf K H (.ref a) (.type "list")
 |tup {a:Addr}{xs:List V} (e:H a=some (.tup xs)):TyOf K H (.ref a) (.type "tuple")
 |dK {a:Addr}{kvs:List (Key×V)} (e:Rd H a (.dK kvs)):TyOf K H (.ref a) (.type "dict")
 |dT {a:Addr}{kvs:List (List Key×V)} (e:Rd H a (.dT kvs)):TyOf K H (.ref a) (.type "dict")
 |ins {a C dx:Addr}{fs:List (Str×V)} (e:H a=some (.ins C dx fs)) (cl:Cls K C) (ha:W.findIn K (.ref C) "__class__" = some (some (.builtin "object.__class__")))
   (hn:W.specialIn K (.builtin "object.__class__") "__get__" = some (some (.builtin "getset_descriptor.__get__"))) (htk:W.takesIn K (.builtin "object.__class__")=some true)
   (hm:W.mroIn K C (.type "object")=some true):TyOf K H (.ref a) (.ref C)
theorem Hh{x:V}{u t:bp}(I:Inv X zk σ H s)(rx:RelV x u)(ty:TyOf X.K H x t)(e:W.kitOne X.K t c=some b)(h:∀tk,Q (.bool b) { s with toks:=tk }):
  dh (model X.prog X.w) A (call (.builtin "isinstance") [u,c]) Q E s:=by
 cases ty with
 |non=>cases (show u=qu from rx);exact ql W.kitx_none I.kIn om e (fun z=>nomatch z) h
 |bl y=>cases (show u=Value.bool y from rx);exact ql W.kitx_bool I.kIn om e (fun z=>nomatch z) h
 |int i=>obtain⟨t,q⟩:=(show ∃t,u=rl i t from rx);cases q;exact ql W.kitx_int I.kIn om e (fun z=>nomatch z) h
 |str y=>obtain⟨t,q⟩:=(show ∃t,u=Value.str y t from rx);cases q;exact ql W.kitx_str I.kIn om e (fun z=>nomatch z) h
 |flt y=>obtain⟨t,q⟩:=(show ∃t,u=Value.float y t from rx);cases q;exact ql W.kitx_float I.kIn om e (fun z=>nomatch z) h
 | @lst a xs ea=>
  cases (show u=ga a from rx);obtain⟨_,_,n,_,h1⟩:=(show ObjOk X.prog X.w H s.heap a (.lst xs)from I.hok a _ ea);exact ql W.kitx_list I.kIn ⟨_,h1,rfl⟩ e (fun z=>nomatch z) h
 | @frz a ob xs ea=>
  cases (show u=ga a from rx);obtain⟨_,_,_,n,_,h1⟩:=(show ObjOk X.prog X.w H s.heap a (.frz ob (.lst xs))from I.hok a _ ea);exact ql W.kitx_list I.kIn ⟨_,h1,rfl⟩ e (fun z=>nomatch z) h
 | @tup a xs ea=>
  cases (show u=ga a from rx);obtain⟨_,_,_,p⟩:=(show ObjOk X.prog X.w H s.heap a (.tup xs)from I.hok a _ ea);obtain⟨o,h1,h2,_⟩:=p;exact ql W.kitx_tuple I.kIn ⟨o,h1,h2⟩ e (fun z=>nomatch z) h
 | @dK a kvs ea=>
  cases (show u=ga a from rx);obtain⟨_,_,vs,_,p⟩:=(show ObjOk X.prog X.w H s.heap a (.dK kvs)from ea.ok I.hok);obtain⟨o,es,ep,h1,h2,_⟩:=p;exact ql W.kitx_dict I.kIn ⟨o,h1,h2.1⟩ e (fun z=>nomatch z) h
 | @dT a kvs ea=>
  cases (show u=ga a from rx);obtain⟨_,_,xs,_,o,es,ep,h1,h2,_⟩:=(show ObjOk X.prog X.w H s.heap a (.dT kvs)from ea.ok I.hok);exact ql W.kitx_dict I.kIn ⟨o,h1,h2.1⟩ e (fun z=>nomatch z) h
 | @ins a C dx fs ea cl ha hn htk hm=>
  cases (show u=ga a from rx);obtain⟨mA,O,_⟩:=HI I.hok ea;obtain⟨od,J,_⟩:=O.look;exact ql (W.kitx_own (cl.get _) cl.hd ha hn htk hm) I.kIn J e (fun z=>nomatch z) h
end
end
section
structure Room(k:Nat)(A:ip):Prop where
 hd:A.handled=none
 dp:A.depth+3*k+5<recursionLimit
 un:A.units+16*k+200<qt
theorem Room.mono{j k:Nat}{A:ip}(r:Room k A)(h:j<=k):Room j A:=⟨r.hd,by have:=r.dp;omega,by have:=r.un;omega⟩
theorem Room.deeper{k:Nat}{A:ip}(r:Room (k+1) A)(env:Env):Room k (A.deeper env):=
 ⟨r.hd,by have:=r.dp;show A.depth+1+3*k+5<_;omega,by have:=r.un;show A.units+3+16*k+200<_;omega⟩
theorem Room.depth{k:Nat}{A:ip}(r:Room k A):A.depth<recursionLimit:=by have:=r.dp;omega
theorem Room.units{k:Nat}{A:ip}(r:Room k A):A.units+64<qt:=by have:=r.un;omega
theorem Room.units0{k:Nat}{A:ip}(r:Room k A):A.units<qt:=by have:=r.un;omega
def kR:TA:=fun _ H Q=>Q [] H
def fJ(ta:TE)(tr:TA):TA:=fun σ H Q=>ta σ H fun x H1=>tr σ H1 fun xs H2=>Q (x::xs) H2
section
variable {X:Cx}{e:Expr}{es:List Expr}{te:TE}{t:TA}{pos:Pos}
theorem zd:PA X [] kR:=fun _ _ _ _ H Q I h=>Calls.spliced_nil ⟨[],H,I,.nil,h⟩
theorem za(ha:PE X e te)(hr:PA X es t)(hs:gx (e::es) X.env=(false,eval e X.env)::gx es X.env:=by rfl):PA X (e::es) (fJ te t):=by
 intro pos zk s σ H Q I h;rw[hs];show dh _ _ (spliced ((false,eval e X.env)::sj pos (gx es X.env))) _ _ s;refine pk (thn (ha zk s σ H _ I h) fun u s1 ⟨x,H1,I1,r1,q1⟩=>?_);exact thn (hr pos zk s1 σ H1 _ I1 q1) fun us s2 ⟨xs,H2,I2,r2,q2⟩=>⟨x::xs,H2,I2,.cons r1 r2,q2⟩
def xP(t:TA):TE:=fun σ H Q=>t σ H fun xs H1=>xs.length<=fe/\∀p,H1 p=none->Q (.ref p) (upd H1 p (.tup xs))
def jH(t:TA):TE:=fun σ H Q=>t σ H fun xs H1=>xs.length<=fe/\∀p,H1 p=none->Q (.ref p) (upd H1 p (.lst xs))
theorem zU{x1}(h:PA X es t):PE X (.Tuple es x1 pos) (xP t):=by
 intro zk s σ H Q I hq;refine wpAny_Tuple_spliced (thn (h pos zk s σ H _ I hq) fun us s1 ⟨xs,H1,I1,r,z,q⟩=>⟨by rw[<- r.length];exact z,?_⟩);have hf:H1 s1.heap.objs.size=none:=I1.hok.fresh (ff _);refine⟨.ref s1.heap.objs.size,upd H1 s1.heap.objs.size (.tup xs),I1.laid (t':=s1.toks) (fun b u e=>cp _ e) (ff _) ?_,rfl,q _ hf⟩;exact⟨⟨z,_,fj _ rfl,rfl⟩,us,r,⟨_,fj _ rfl,rfl,_,rfl⟩⟩
theorem aR(h:PA X es t):PE X (.List es pos) (jH t):=by
 intro zk s σ H Q I hq;refine wpAny_List_spliced (thn (h pos zk s σ H _ I hq) fun us s1 ⟨xs,H1,I1,r,z,q⟩=>⟨by rw[<- r.length];exact z,?_⟩);have hf:H1 s1.heap.objs.size=none:=I1.hok.fresh (ff _);refine⟨.ref s1.heap.objs.size,upd H1 s1.heap.objs.size (.lst xs),I1.laid (t':=s1.toks) (fun b u e=>cp _ e) (ff _) ?_,rfl,q _ hf⟩;exact⟨z,us,0,r,fj _ rfl⟩
end
abbrev Sp:=List V->Hp->VK->XK->Prop
abbrev CXT:=List Env->Hp->bq->XK->bp->bq->Prop
structure Env0(P:gc)(w:gy)(K:cy)(mg:Str->Option bp)(base:Heap)(A:ip)(outer:List Env)(s:bq)(H:Hp):Prop where
 frames:A.frames=some outer
 mod:Mod K mg base
 bs:∀b o,base.get? b=some o->s.heap.get? b=some o/\H b=none
 bsz:base.objs.size<=s.heap.objs.size
 funs:s.heap.FunFrames base outer
 frf:Frf (frs outer) H
 hok:HOk P w H s.heap
 bare:AllBare s.gens
def CE(outer:List Env)(P:gc)(w:gy)(H:Hp)(s:bq)(Q:VK)(u:bp)(s':bq):Prop:=
 ∃v H',s'.os=s.os/\AllBare s'.gens/\Un (frs outer) [] H H' s.heap s'.heap/\HOk P w H' s'.heap/\RelV v u/\Q v H'
def CR(CX:CXT)(outer:List Env)(P:gc)(w:gy)(H:Hp)(s:bq)(Q:VK)(E:XK)(r:Result)(s':bq):Prop:=
 match r with
 | .ok (.ret u)=>CE outer P w H s Q u s'
 | .ok _=>False
 | .error e=>CX outer H s E e s'
structure FnOk(P:gc)(w:gy)(K:cy)(mg:Str->Option bp)(base:Heap)(CX:CXT)(k:Nat)(f:Addr)(fd:qf)(ps:List Str)(sp:Sp):Prop where
 len:∀vs H Q E,sp vs H Q E->vs.length=ps.length
 run:∀(A:ip) (outer:List Env) (s:bq) (H:Hp) (args:Args) (us:List bp) (vs:List V) (Q:VK) (E:XK),Room k A->Env0 P w K mg base A outer s H->BindsTo s fd args (ps.zip us)->Vals vs us->sp vs H Q E ->
  codeAny (model P w) A (.call (.ref f) args) (CR CX outer P w H s Q E) s
section
variable {X:Cx}{zk:List (Addr×Obj)}{σ:St}{H:Hp}{s s':bq}
theorem Inv.env0(I:Inv X zk σ H s):Env0 X.prog X.w X.K X.mg X.base X.A X.stack s H:=
 ⟨I.ok.frames,I.ok.mod,I.bs,jn I.ok.bsz I.sz,I.stack,I.stkFree,I.hok,I.bare⟩
theorem Inv.after{Q:VK}{u:bp}(I:Inv X zk σ H s)(h:CE X.stack X.prog X.w H s Q u s'):EP X zk σ Q u s':=by
 obtain⟨v,H',os,bare,un,hok,r,q⟩:=h;obtain⟨hh,g,d,t,aa⟩:=s';obtain rfl:aa=s.os:=os;exact⟨v,H',I.call (h':=hh) (g':=g) (d':=d) (t':=t) (ch:=[]) un hok bare (fun b z=>absurd z yv),r,q⟩
end
def pX(sp:Sp)(dvs:List V)(E:XK)(t:TA):TE:=fun σ H Q=>t σ H fun vs H1=>sp (vs++dvs) H1 Q E
def Binds(K:cy)(fd:qf)(ps:List Str)(ds:List bp):Prop:=
 ∀(s:bq) (us:List bp),K.In s.heap->(us++ds).length=ps.length->BindsTo s fd ⟨us,[]⟩ (ps.zip (us++ds))
theorem Binds.all{K:cy}{fd:qf}{ps:List Str}(h:∀us:List bp,us.length=ps.length->bindArgs fd ⟨us,[]⟩=pure (ps.zip us)):Binds K fd ps []:=fun s us _ hl=>by
 rw[kn]at hl ⊢;exact .of_eq (h us hl)
def Passes(CX:CXT)(X:Cx)(E:XK):Prop:=∀(zk:List (Addr×Obj)) (σ:St) (H:Hp) (s:bq) (e:bp) (s':bq),Inv X zk σ H s->CX X.stack H s E e s'->X.xe e s'
section
variable {X:Cx}{CX:CXT}{k:Nat}{f C:Addr}{fd:qf}{ps:List Str}{sp:Sp}{dvs:List V}{ds:List bp}{E:XK}{x m:Str}{p pos apos:Pos}{e o:Expr}{es:List Expr}{ta:TE}{t:TA}
theorem K7{zk:List (Addr×Obj)}{σ:St}{H:Hp}{s:bq}{Q:VK}{us:List bp}{vs:List V}(F:FnOk X.prog X.w X.K X.mg X.base CX k f fd ps sp)(hr:Room k X.A)(hb:Binds X.K fd ps ds)(hd:Vals dvs ds)(hx:Passes CX X E)
  (I:Inv X zk σ H s) (r:Vals vs us) (h:sp (vs++dvs) H Q E):dh (model X.prog X.w) X.A (call (.ref f) us) (EP X zk σ Q) X.xe s:=by
 have r2:Vals (vs++dvs) (us++ds):=r.append hd;have hl:(us++ds).length=ps.length:=by rw[<- r2.length];exact F.len _ _ _ _ h
 refine wpAny_call (codeAny_mono (F.run X.A X.stack s H ⟨us,[]⟩ (us++ds) (vs++dvs) Q E hr I.env0 (hb s us I.kIn hl) r2 h) fun r s' hq=>?_);cases r with
 |error e=>exact hx zk σ H s e s' I hq
 |ok fl=>
  cases fl with
  |ret u=>exact I.after hq
  |next=>exact ph hq
  |brk=>exact ph hq
  |cont=>exact ph hq
theorem Bu(F:FnOk X.prog X.w X.K X.mg X.base CX k f fd ps sp)(hr:Room k X.A)(hg:Gl X x)(hm:X.mg x=some (.ref f))(hk:W.keepIn X.K (.ref f)=true)(hb:Binds X.K fd ps ds)(hd:Vals dvs ds)(hx:Passes CX X E)
  (ha:PA X (e::es) t) (hdb:(x==("__debug__":Str))=false:=by decide) (he:gx (e::es) X.env=(false,eval e X.env)::gx es X.env:=by rfl) (hpl:(sj pos (gx es X.env)).any (·.1)=false:=by rfl):
  PE X (.Call (.Name x p) (e::es) [] pos) (pX sp dvs E t):=by
 intro zk s σ H Q I h;refine wpAny_Call_Name_kw (Ja I hg hm ?_ hdb);refine W.callWith_K (h₀:=X.base) I.ok.mod.kin hk (thn (ha pos zk s σ H _ I h) fun us s1 ⟨vs,H1,I1,r,q⟩=>⟨I1.kIn,?_⟩) he hpl;exact K7 F hr hb hd hx I1 r q
end
structure FnScope(N P:List Str)(sc:Scope):Prop where
 kind:sc.kind=.function
 co:sc.isCoroutine=false
 gen:sc.isGenerator=false
 nd:N.Nodup
 pre:N.take P.length=P
 par:∀x∈P,sc.names.lookup x=some .local\/sc.names.lookup x=some .cell
 nofree:∀y∈sc.names,y.2≠.free
theorem EV{q:Str->Option ny}{x:Str}:∀{binds:List (Str×bp)}{m:Str->Option bp},(∀v,(x,v)∉binds)->bindL q binds m x=m x
 | [],_,_=>rfl
 | (n,v)::r,m,h=>by
  unfold bindL;rw[EV fun w hw=>h w (cu _ hw)];split
  ·have:x≠n:=by rintro rfl;exact h v df
   simp[this]
  ·rfl
theorem DX{q:Str->Option ny}{x:Str}:∀{binds:List (Str×bp)}{m:Str->Option bp},(∀v,(x,v)∉binds)->bindC q binds m x=m x
 | [],_,_=>rfl
 | (n,v)::r,m,h=>by
  unfold bindC;rw[DX fun w hw=>h w (cu _ hw)];split
  ·rfl
  ·have:x≠n:=by rintro rfl;exact h v df
   simp[this]
theorem A7{q:Str->Option ny}{x:Str}{v:bp}:∀{P:List Str}{vs:List bp}{i:Nat}{m:Str->Option bp},P.Nodup->P[i]?=some x->vs[i]?=some v->q x=some .local ->
  bindL q (P.zip vs) m x=some v
 | [],_,_,_,_,h,_,_=>by simp at h
 |_::_,[],_,_,_,_,h,_=>by simp at h
 |p::P,w::vs,0,m,nd,h1,h2,hk=>by
  simp at h1 h2;subst h1;subst h2;show bindL q ((p,w)::P.zip vs) m p=_;unfold bindL;rw[EV fun v hv=>(nodup_cons.mp nd).1 (of_mem_zip hv).1,cg hk];simp
 |p::P,w::vs,i+1,m,nd,h1,h2,hk=>by
  show bindL q ((p,w)::P.zip vs) m x=_;unfold bindL;exact A7 (i:=i) (nodup_cons.mp nd).2 (by simpa using h1) (by simpa using h2) hk
theorem EK{q:Str->Option ny}{x:Str}{v:bp}:∀{P:List Str}{vs:List bp}{i:Nat}{m:Str->Option bp},P.Nodup->P[i]?=some x->vs[i]?=some v->q x≠some .local ->
  bindC q (P.zip vs) m x=some v
 | [],_,_,_,_,h,_,_=>by simp at h
 |_::_,[],_,_,_,_,h,_=>by simp at h
 |p::P,w::vs,0,m,nd,h1,h2,hk=>by
  simp at h1 h2;subst h1;subst h2;show bindC q ((p,w)::P.zip vs) m p=_;unfold bindC;rw[DX fun v hv=>(nodup_cons.mp nd).1 (of_mem_zip hv).1,cf hk];simp
 |p::P,w::vs,i+1,m,nd,h1,h2,hk=>by
  show bindC q ((p,w)::P.zip vs) m x=_;unfold bindC;exact EK (i:=i) (nodup_cons.mp nd).2 (by simpa using h1) (by simpa using h2) hk
def start(N:List Str)(vs:List V):St:=vs.map some++bx (N.length-vs.length) none
def gA(CX:CXT)(P:gc)(w:gy)(K:cy)(mg:Str->Option bp)(base:Heap)(N:List Str)(q:Str)(scope:Scope)(f:Addr)(cd:bp)(A:ip)(outer:List Env)(s:bq)(H:Hp)(E:XK):Cx where
 prog:=P
 w:=w
 K:=K
 mg:=mg
 base:=base
 A:=A.deeper (envOfC q scope s.heap.objs.size f cd)
 N:=N
 s₀:=s
 H₀:=H
 env:=envOfC q scope s.heap.objs.size f cd
 outer:=outer
 stack:=envOfC q scope s.heap.objs.size f cd::outer
 ex:=[]
 calm:=true
 fn:=fun _=>true
 pn:=[]
 xe:=fun e s'=>dh (model P w) (A.deeper (envOfC q scope s.heap.objs.size f cd)) (leaving (envOfC q scope s.heap.objs.size f cd) e) (fun _ s''=>CX outer H s E e s'') (fun e' s''=>CX outer H s E e' s'') s'
theorem Aw{sc:Scope}{n:Nat}{x:Str}(h:sc.names.lookup x=some .cell):∃c,(cellsFrom n sc.names []).lookup x=some c:=by
 have q:=W.cellsFrom_some sc.names n [] (.inl h);exact isSome_iff_exists.mp q
theorem FS{CX:CXT}{P:gc}{w:gy}{K:cy}{mg:Str->Option bp}{base:Heap}{N ps:List Str}{aa:Str}{scope:Scope}{f:Addr}{cd:bp}{A:ip}{outer:List Env}{s s1:bq}{H:Hp}{E:XK}{us:List bp}{vs:List V}
  (S:FnScope N ps scope) (hd:A.handled=none) (e0:Env0 P w K mg base A outer s H) (hl:vs.length=ps.length) (r:Vals vs us)
  (x:InCallC s s.heap.objs.size (bindL (envOfC aa scope s.heap.objs.size f cd).kindOf (ps.zip us) fun _=>none) (cellsFrom (s.heap.objs.size+1) scope.names []) (bindC (envOfC aa scope s.heap.objs.size f cd).kindOf (ps.zip us) fun _=>none) s1):
  Inv (gA CX P w K mg base N aa scope f cd A outer s H E) [] (start N vs) H s1:=by
 have ae:ps.length<=N.length:=by have:=congrArg List.length S.pre;rw[nz]at this;omega
 obtain⟨h1,tk,rfl,hk⟩:=x.done;have ab:∀b:Addr,b∉(gA CX P w K mg base N aa scope f cd A outer s H E).ex:=fun b z=>absurd (show b∈([]:List Addr)from z) yv;refine⟨⟨e0.mod,S.kind,rfl,rfl,ff _,fun y z c h1 h2=>?_,fun y hy=>?_,fun y c _ h=>?_,fun _=>hd,Around.frames_deeper e0.frames,.inr ⟨rfl,rfl⟩,fun b z=>absurd z (ab b),e0.bs,e0.bsz,fun b _ _=>ab b,fun b z=>absurd z (ab b),e0.funs,e0.frf⟩,
  rfl,e0.bare,Un.kept hk,⟨_,x.toInCall.ns,fun i y v h1 h2 h3=>?_⟩,fun y c h=>⟨_,x.cell y c h⟩,e0.hok.fresh (ff _),fun y c h=>?_,fun p hp=>absurd (show p∈([]:List (Addr×Obj))from hp) yv,e0.hok.kept hk,?_⟩
 ·exact name_of_addr x.apart (PySem.mem_of_lookup h1) (PySem.mem_of_lookup h2)
 ·have hy:scope.names.lookup y=some .cell\/scope.names.lookup y=some .free:=hy;rcases hy with hy|hy
  ·exact Aw hy
  ·exact absurd rfl (S.nofree _ (PySem.mem_of_lookup hy))
 ·exact ku (x.above y c (PySem.mem_of_lookup h))
 ·have hi:i<vs.length:=by
   unfold start at h2;by_cases hi:i<vs.length
   ·exact hi
   ·rw[kw (by simpa using hi)]at h2;rw[List.getElem?_replicate]at h2;split at h2<;>cases h2
  have ha:vs[i]?=some v:=by
   unfold start at h2;rw[fk (by simpa using hi),im]at h2;cases e:vs[i]? with
   |none=>rw[e]at h2;cases h2
   |some a=>rw[e]at h2;cases h2;rfl
  obtain⟨u,hu,rv⟩:=r.get ha;have hp:ps[i]?=some y:=by
   rw[<- S.pre,List.getElem?_take_of_lt yw];exact h1
  have ac:ps.Nodup:=by rw[<- S.pre];exact S.nd.sublist (List.take_sublist _ _)
  refine⟨u,rv,?_⟩;rcases S.par y (bu hp)with k|k
  ·exact .inl ⟨k,A7 ac hp hu k⟩
  ·obtain⟨c,e⟩:=Aw (n:=s.heap.objs.size+1) k;refine .inr ⟨.inl k,c,e,?_⟩;have q:=x.cell y c e;rw[EK ac hp hu (by show scope.names.lookup y≠_;rw[k];decide)]at q;exact q
 ·exact e0.hok.fresh (ku (x.above y c (PySem.mem_of_lookup h)))
 ·unfold start;show _=N.length;rw[cx,fw,List.length_replicate];omega
theorem IV{CX:CXT}{P:gc}{w:gy}{K:cy}{mg:Str->Option bp}{base:Heap}{k:Nat}{f:Addr}{name aa:Str}{ac:Arguments}{ae:List Stmt}{scope:Scope}{dV kV ag pm ab ct oc:bp}{an od:Option Addr}
  {osl:Array (Option bp)}{N ps:List Str}{sp:Sp} (lk:K.lookup f=some ⟨oc,od,.func (W.fnOf name aa ac ae scope dV kV ag pm an ab ct),osl⟩) (hcd:W.codeIn K ab aa=true) (S:FnScope N ps scope)
  (len:∀vs H Q E,sp vs H Q E->vs.length=ps.length)
  (hbody:∀(A:ip) (outer:List Env) (s:bq) (H:Hp) (vs:List V) (Q:VK) (E:XK),Room k (A.deeper (envOfC aa scope s.heap.objs.size f ab))->sp vs H Q E ->
   ∃t,PSs (gA CX P w K mg base N aa scope f ab A outer s H E) ae t/\t { nx:=fun _ H'=>Q .non H',rt:=Q } (start N vs) H):
  FnOk P w K mg base CX (k+1) f (W.fnOf name aa ac ae scope dV kV ag pm an ab ct) ps sp:=by
 refine⟨len,fun A outer s H args us vs Q E hr e0 hb r ah=>?_⟩;have hl:=len _ _ _ _ ah;have KX:K.In s.heap:=e0.mod.kin.keeps fun b o e=>(e0.bs b o e).1;have ai:s.heap.NoLimit:=e0.mod.nolimit.keeps fun b o e=>(e0.bs b o e).1;have af:∀y∈ps.zip us,scope.names.lookup y.1=some .local\/(scope.names.lookup y.1=some .cell/\((cellsFrom (s.heap.objs.size+1) scope.names []).lookup y.1).isSome=true):=fun⟨n,v⟩ hy=>by
  rcases S.par n (of_mem_zip hy).1 with q|q
  ·exact .inl q
  ·exact .inr ⟨q,W.cellsFrom_some _ _ _ (.inl q)⟩
 refine codeAny_call_function hr.depth (KX _ _ lk) rfl S.co S.gen rfl (W.codeRec_of KX hcd) (hb _ _ _ _ ?_);refine wpAny_newFunctionEnv_cells S.kind af fun env he s1 x=>?_;subst he;refine⟨ai.keeps x.toInCall.keep,codeAny_func ?_⟩;obtain⟨t,ht,hq⟩:=hbody A outer s H vs Q E (hr.deeper _) ah;have I:Inv (gA CX P w K mg base N aa scope f ab A outer s H E) [] (start N vs) H s1:=FS S hr.hd e0 hl r x;refine wpAny_mono (ht [] s1 (start N vs) H _ I hq) (fun fl s' hs=>?_) fun e s' hs=>hs;have fin:∀{σ':St}{H':Hp}{v:V}{u:bp},Inv (gA CX P w K mg base N aa scope f ab A outer s H E) [] σ' H' s'->RelV v u->Q v H'->CE outer P w H s Q u s':=
  fun {σ' H' v u} J rv q=>⟨v,H',J.os,J.bare,J.base,J.hok,rv,q⟩
 cases fl with
 |ret u=>
  obtain⟨v,σ',H',J,rv,q⟩:=hs;exact fin J rv q
 |next=>
  obtain⟨σ',H',J,q⟩:=hs;exact fin (v:=V.non) (u:=qu) J rfl q
 |brk=>
  obtain⟨_,_,_,q⟩:=hs;exact ph q
 |cont=>
  obtain⟨_,_,_,q⟩:=hs;exact ph q
end
section
section
variable {X:Cx}{x:Str}{p pos:Pos}{e:Expr}{es:List Expr}{t:TA}{id T:String}{r:List V->Hp->VK->Prop}
def tCB(r:List V->Hp->VK->Prop)(t:TA):TE:=fun σ H Q=>t σ H fun vs H1=>r vs H1 Q
theorem zo(hc:CallR X (.builtin id) r)(hg:Gl X x)(hm:X.mg x=none)(hv:iq x=some (.builtin id))(ha:PA X (e::es) t)(hn:x ≠ "__name__":=by decide)(q:(x==("__debug__":Str))=false:=by decide)
  (he:gx (e::es) X.env=(false,eval e X.env)::gx es X.env:=by rfl) (hpl:(sj pos (gx es X.env)).any (·.1)=false:=by rfl):PE X (.Call (.Name x p) (e::es) [] pos) (tCB r t):=by
 intro zk s σ H Q I h;refine wpAny_Call_Name_kw (lI I hg hm hv ?_ hn q);exact PyProof.Rows.callWith_builtin1 (thn (ha pos zk s σ H _ I h) fun us s1 ⟨vs,H1,I1,r1,q1⟩=>hc zk s1 σ H1 vs us Q I1 r1 q1) he hpl
theorem zS(hc:CallR X (.type T) r)(hg:Gl X x)(hm:X.mg x=none)(hv:iq x=some (.type T))(ha:PA X (e::es) t)(hn:x ≠ "__name__":=by decide)(q:(x==("__debug__":Str))=false:=by decide)
  (he:gx (e::es) X.env=(false,eval e X.env)::gx es X.env:=by rfl) (hpl:(sj pos (gx es X.env)).any (·.1)=false:=by rfl):PE X (.Call (.Name x p) (e::es) [] pos) (tCB r t):=by
 intro zk s σ H Q I h;refine wpAny_Call_Name_kw (lI I hg hm hv ?_ hn q);exact PyProof.Rows.callWith_type1 (thn (ha pos zk s σ H _ I h) fun us s1 ⟨vs,H1,I1,r1,q1⟩=>hc zk s1 σ H1 vs us Q I1 r1 q1) he hpl
end
end
end L2
namespace HT
open PySem PyProof.Rows
def lexLt:List Int->List Int->Bool
 | [],[]=>false
 | [],_::_=>true
 |_::_,[]=>false
 |x::xs,y::ys=>if x=y then lexLt xs ys else decide (x<y)
theorem lexLt_cons(x y:Int)(xs ys:List Int):lexLt (x::xs) (y::ys)=if x=y then lexLt xs ys else decide (x<y):=rfl
theorem FW:lexLt [] []=false:=rfl
theorem Gq(y:Int)(ys:List Int):lexLt [] (y::ys)=true:=rfl
theorem J3(x:Int)(xs:List Int):lexLt (x::xs) []=false:=rfl
theorem Jj(A:ip)(s:bq)(a:Int)(t:Tok)(c:Int)(u:Tok):∃e,SeqAt.EqAt A s (.int a t) (.int c u) e/\(e=true↔a=c):=
 ⟨(a==c),SeqAt.EqAt.int_int a t c u,yv⟩
theorem Ig(A:ip)(s:bq)(a:Int)(t:Tok)(c:Int)(u:Tok)(prog:gc)(w:gy)(E:bp->bq->Prop)(Q:bp->bq->Prop)(h:Q (.bool (decide (a<c))) s):
  dh (model prog w) A (richCompare .Lt (.int a t) (.int c u)) Q E s:=
 (PyProof.Rows.lt_int h:dh (model prog w) A (jt .Lt (.int a t) (.int c u)) Q E s)
section
open PySem.SeqAt
open PySem.AutoSeq1 (wpAny_loadPart')
open PySem.MeetsSeq PySem.MeetsSeq2 PySem.MeetsSeq3
theorem tuple_lt_ints(l b:Addr)(items aa:Array bp)(n n2:Nat)(dd ae:Option Addr)(sl af:Array (Option bp))(ns ms:List Int)(hi:ll items.toList ns)(hj:ll aa.toList ms):
  Meets (Builtin.«tuple.__lt__» ⟨[.ref l,.ref b],[]⟩)
   (fun _ R s=>s.heap.get? l=some { cls:=.type "tuple",dict:=dd,data:=.seq items n,slots:=sl }/\s.heap.get? b=some { cls:=.type "tuple",dict:=ae,data:=.seq aa n2,slots:=af } /\
    R (.ok (.ret (.bool (lexLt ns ms)))) s):=
 .of_wp fun prog w A R s h=>by
  obtain⟨hp,g,d,tk,os⟩:=s;obtain⟨hl,hb,h⟩:=h;have f2:=AutoSeq1.sub_tuple_tuple;have z1:items.size=ns.length:=by rw[<- hi.length];simp
  have z2:aa.size=ms.length:=by rw[<- hj.length];simp
  wp_walk using wpAny_loadPart' hl,wpAny_loadPart' hb,wpAny_forIn_list _ (fun rest b s'=>b.1=none/\s'=⟨hp,g,d,tk,os⟩/\∃(vs ws:List bp) (ns' ms':List Int),rest=vs.zip ws /\
   ll vs ns'/\ll ws ms'/\ns'.length+aa.size=ms'.length+items.size/\R (.ok (.ret (.bool (lexLt ns' ms')))) ⟨hp,g,d,tk,os⟩) _
  case turn=>
   rintro⟨y,x⟩ rest b s' ⟨hb',rfl,vs,ws,ns',ms',hz,hvi,hwi,hlen,hR⟩;cases hvi with
   |nil=>rw[List.zip_nil_left]at hz;cases hz
   |cons a t hvi'=>
    cases hwi with
    |nil=>rw[List.zip_nil_right]at hz;cases hz
    |cons c u hwi'=>
     rw[qm]at hz;injection hz with hyx hrest
     injection hyx with hy hx
     subst hy hx;rw[lexLt_cons]at hR;simp only[ft]at hlen;obtain⟨e,he,ab⟩:=Jj A.in1 ⟨hp,g,d,tk,os⟩ a t c u;refine bo (he prog w _ _ ?_);cases e with
     |true=>
      rw[cg (ab.mp rfl)]at hR
      wp_walk
      exact⟨rfl,rfl,_,_,_,_,hrest,hvi',hwi',yw,hR⟩
     |false=>
      rw[cf (fun q=>absurd (ab.mpr q) jh)]at hR;have ac:=Ig A.in1 ⟨hp,g,d,tk,os⟩ a t c u prog w
      wp_walk using ac
      exact⟨_,rfl,by simpa using hR⟩
  case fin=>
   rintro⟨b1,b2⟩ s' ⟨hb',rfl,vs,ws,ns',ms',hz,hvi,hwi,hlen,hR⟩;simp only at hb';subst hb';have hv:lexLt ns' ms'=decide (items.size<aa.size):=by
    cases hvi with
    |nil=>
     cases hwi with
     |nil=>
      simp only[length_nil]at hlen;rw[FW];exact(dw yw).symm
     |cons c u hw=>
      simp only[length_nil,ft]at hlen;rw[Gq];exact(ge yw).symm
    |cons a t hv=>
     cases hwi with
     |nil=>
      simp only[length_nil,ft]at hlen;rw[J3];exact(dw yw).symm
     |cons c u hw=>
      rw[qm]at hz;cases hz
   rw[hv]at hR
   wp_walk
   exact⟨_,rfl,by simpa[Builtin.Tuple.tupleCompareSizes]using hR⟩
  case h=>
   exact⟨rfl,rfl,items.toList,aa.toList,ns,ms,rfl,hi,hj,yw,h⟩
end
section
variable {prog:gc}{w:gy}{A:ip}{E:bp->bq->Prop}{s:bq}
theorem lt_tupInts{l b:Addr}{items q:Array bp}{ns ms:List Int}{Q:bp->bq->Prop}(hl:IsTup s.heap l items)(hb:IsTup s.heap b q)(hi:ll items.toList ns)(hj:ll q.toList ms)
  (hu:A.units<qt) (h:Q (.bool (lexLt ns ms)) s):dh (model prog w) A (jt .Lt (.ref l) (.ref b)) Q E s:=by
 obtain⟨⟨cls,dd,data,sl⟩,ho,hc,n,hd⟩:=id hl;obtain⟨⟨ah,af,ae,ag⟩,ab,ac,n2,aa⟩:=id hb;simp only at hc hd ac aa;subst hc hd ac aa;exact richCompare_meets_room (op:=.Lt) ⟨_,ho,rfl⟩ ⟨_,ab,rfl⟩ PySem.F.slot_tuple_lt PySem.F.entry_tuple_lt (PySem.F.args_tuple_lt_2 _ _) (tuple_lt_ints l b items q n n2 dd af sl ag ns ms hi hj)
  ⟨ho,ab,show Value.bool (lexLt ns ms)≠Value.notImplemented/\Q (.bool (lexLt ns ms)) s from⟨(fun x=>nomatch x),h⟩⟩ hu
theorem cat_tup{t b:Addr}{vs ws:List bp}{Q:bp->bq->Prop}(ht:IsTup s.heap t vs.toArray)(hb:IsTup s.heap b ws.toArray)(hv:vs≠[])
  (h1:ws=[]->Q (.ref t) s) (h2:ws≠[]->Q (.ref s.heap.objs.size) { s with heap:=s.heap.push { cls:=.type "tuple",data:=.seq (vs++ws).toArray } })
  (hsz:vs.length+ws.length<=fe):dh (model prog w) A (lf .Add (.ref t) (.ref b)) Q E s:=by
 obtain⟨⟨cls,dd,data,sl⟩,ho,hc,n,hd⟩:=id ht;obtain⟨⟨ag,ab,af,ae⟩,q,ac,n2,aa⟩:=id hb;simp only at hc hd ac aa;subst hc hd ac aa;have e:vs.toArray++ws.toArray=(vs++ws).toArray:=by simp
 by_cases hw:ws=[]
 ·exact concat_meets ⟨_,ho,rfl⟩ ⟨_,q,rfl⟩ noFill_tuple_add seq_tuple_add PySem.F.slot_tuple_add PySem.F.entry_tuple_add (PySem.F.args_tuple_add_2 _ _)
   (tuple_addW1 t b vs.toArray ws.toArray n n2 dd ab sl ae (by simpa using hv) (by simp[hw])) ⟨ho,q,h1 hw⟩
 ·refine concat_meets ⟨_,ho,rfl⟩ ⟨_,q,rfl⟩ noFill_tuple_add seq_tuple_add PySem.F.slot_tuple_add PySem.F.entry_tuple_add (PySem.F.args_tuple_add_2 _ _)
   (tuple_addW2 t b vs.toArray ws.toArray n n2 dd ab sl ae (by simpa using hv) (by simpa using hw) (by rw[fh,fh];exact hsz)) ⟨ho,q,?_⟩
  rw[e];exact h2 hw
def sIx(n d:Nat):Option Int->Nat
 |none=>d
 |some v=>if v<0 then (v+(n:Int)).toNat else min v.toNat n
theorem sIx_nat(n d k:Nat):sIx n d (some (k:Int))=min k n:=by
 show (if (k:Int)<0 then ((k:Int)+(n:Int)).toNat else min (k:Int).toNat n)=min k n;rw[cf yw,lp]
theorem HD(n d:Nat)(hd:d<=n)(o:Option Int):sIx n d o<=n:=by
 cases o with
 |none=>exact hd
 |some v=>
  show (if v<0 then (v+(n:Int)).toNat else min v.toNat n)<=n;by_cases hv:v<0
  ·rw[cg hv];omega
  ·rw[cf hv];exact Nat.min_le_right _ _
theorem Ed(v:Int)(n d:Nat):(if v<0 then max (v+(n:Int)) 0 else min v (n:Int))=((sIx n d (some v):Nat):Int):=by
 show (if v<0 then max (v+(n:Int)) 0 else min v (n:Int))=(((if v<0 then (v+(n:Int)).toNat else min v.toNat n):Nat):Int);by_cases hv:v<0
 ·simp only[cg hv];omega
 ·simp only[cf hv];omega
theorem Ib(lo hi:Option Int)(n:Nat):Builtin.Slice.sliceAdjust lo hi 1 (n:Int)=(((sIx n 0 lo:Nat):Int),((sIx n n hi:Nat):Int)):=by
 have h1:¬((1:Int)<0):=yw
 unfold Builtin.Slice.sliceAdjust;simp only[h1,if_false];refine Prod.ext ?_ ?_
 ·cases lo with
  |none=>rfl
  |some v=>exact Ed v n 0
 ·cases hi with
  |none=>rfl
  |some v=>exact Ed v n n
theorem He(i j:Nat):Builtin.Slice.slicePlaces (i:Int) (j:Int) 1=j-i:=by
 unfold Builtin.Slice.slicePlaces;have h1:(1:Int)>0:=yw
 simp only[h1,if_true,Int.ediv_one];split<;>omega
theorem Ev{v:bp}{o:Option Int}{Q:Option Int->bq->Prop}(p:IsPart v o)(h:Q o s):dh (model prog w) A (Builtin.Slice.slicePartIndex v) Q E s:=by
 cases p with
 |none=>exact slicePart_none h
 |int i t=>exact slicePart_int h
theorem BS{sl:Addr}{vl vu:bp}{lo hi:Option Int}{n:Nat}{Q:Int×Int×Nat->bq->Prop}(hs:s.heap.IsSliceOf sl vl vu .none)(pl:IsPart vl lo)(pu:IsPart vu hi)
  (h:Q (((sIx n 0 lo:Nat):Int),1,sIx n n hi-sIx n 0 lo) s):dh (model prog w) A (Builtin.Slice.sliceApplied (.ref sl) (pure (n:Int))) Q E s:=by
 obtain⟨os,q,ab,aa⟩:=id hs;unfold Builtin.Slice.sliceApplied Builtin.Slice.sliceFields;refine bo (bo (jw q aa (x:=vl) rfl (bo (jw q aa (x:=vu) rfl (bo (jw q aa (x:=.none) rfl (cq ?_)))))));refine bo (slicePart_none ?_);show dh _ _ (if ((1:Int)==0)=true then _ else _) _ _ s;rw[cf dz];refine bo (Ev pl (bo (Ev pu (bo (cq ?_)))));show dh _ _ (match Builtin.Slice.sliceAdjust lo hi 1 (n:Int)with|(lo,hi)=>pure (lo,(1:Int),Builtin.Slice.slicePlaces lo hi 1)) _ _ s;rw[Ib lo hi n];show dh _ _ (pure (((sIx n 0 lo:Nat):Int),(1:Int),Builtin.Slice.slicePlaces ((sIx n 0 lo:Nat):Int) ((sIx n n hi:Nat):Int) 1)) _ _ s;rw[He];exact cq h
theorem Ie(xs:Array bp)(i k:Nat):((fq k).filterMap fun(m:Nat)=>xs[((i:Int)+(m:Int)*1).toNat]?).toArray=((xs.toList.drop i).take k).toArray:=by
 have e:(fun(m:Nat)=>xs[((i:Int)+(m:Int)*1).toNat]?)=fun m=>xs[i+m]?:=by
  funext m;have:((i:Int)+(m:Int)*1).toNat=i+m:=yw
  rw[this]
 rw[e];have:=pick_run xs i k;rw[List.filterMap_map]at this;have e2:((fun x=>xs[x]?)∘fun x=>i+x)=fun m=>xs[i+m]?:=rfl;rw[e2]at this;rw[this]
theorem getItem_tuple_cut{t sl:Addr}{items:Array bp}{vl vu:bp}{lo hi:Option Int}{Q:bp->bq->Prop}(ht:IsTup s.heap t items)(hs:s.heap.IsSliceOf sl vl vu .none)(pl:IsPart vl lo)(pu:IsPart vu hi)
  (hw:¬(sIx items.size 0 lo=0/\sIx items.size items.size hi=items.size))
  (h:Q (.ref s.heap.objs.size) { s with heap:=s.heap.push { cls:=.type "tuple",data:=.seq ((items.toList.drop (sIx items.size 0 lo)).take (sIx items.size items.size hi-sIx items.size 0 lo)).toArray } })
  (hsz:items.size<=fe):dh (model prog w) A (getItem (.ref t) (.ref sl)) Q E s:=by
 have aa:sizeOk (.seq ((items.toList.drop (sIx items.size 0 lo)).take (sIx items.size items.size hi-sIx items.size 0 lo)).toArray):=by
  show ((items.toList.drop (sIx items.size 0 lo)).take (sIx items.size items.size hi-sIx items.size 0 lo)).toArray.size<=fe;rw[fh,nz,length_drop,jr];omega
 have hj:sIx items.size items.size hi<=items.size:=HD _ _ (ff _) hi;obtain⟨os,ac,af,ag⟩:=id hs;have ae:s.TypeIs (.ref sl) "slice":=⟨os,ac,af⟩;unfold getItem
 try with_reducible refine km ?_
 first|refine bo (cq ?_)|skip
 refine bo (wpAny_sequenceKey ht.typeIs dz ?_);refine bo (kh (name:=rq "__getitem__") ht.typeIs PyProof.Rows.slot_tuple_getitem
  (kx PyProof.Rows.slot_tuple_getitem ht.typeIs entry_tuple_getitem ?_ (args_tuple_getitem _ _)))
 show dh _ _ (Builtin.Tuple.tupleItemsOf (.ref t) >>= _) _ _ s;refine bo (tupleItemsOf_ ht ?_);refine bo (wpAny_typeOf ae ?_);rw[cg dz];refine bo (BS hs pl pu ?_);have ab:¬((((sIx items.size 0 lo:Nat):Int)==0&&(1:Int)==1&&(sIx items.size items.size hi-sIx items.size 0 lo)==items.size)=true):=by
  intro q;rw[gf,gf]at q;have q1:((sIx items.size 0 lo:Nat):Int)=0:=eq_of_beq q.1.1;have q2:sIx items.size items.size hi-sIx items.size 0 lo=items.size:=eq_of_beq q.2;exact hw ⟨yw,yw⟩
 show dh _ _ (if (((sIx items.size 0 lo:Nat):Int)==0&&(1:Int)==1&&(sIx items.size items.size hi-sIx items.size 0 lo)==items.size)=true then _ else _) _ _ s;rw[cf ab,Ie]
 first
  |exact bo (m:=Builtin.Tuple.tupleExact _) (ko (cq ⟨_,rfl,cq h⟩) aa)
  |exact bo (m:=Builtin.Tuple.tupleExact _) (ko (bo (cq (cq ⟨_,rfl,cq h⟩))) aa)
  |exact bo (bo (m:=Builtin.Tuple.tupleExact _) (ko (cq (cq ⟨_,rfl,cq h⟩)) aa))
  |exact bo (bo (m:=Builtin.Tuple.tupleExact _) (ko (cq ⟨_,rfl,cq h⟩) aa))
end
end HT
namespace L2
open PySem PySem.Spec PyProof.Rows
section
abbrev TO:=St->Hp->(Option Int->Hp->Prop)->Prop
def PO(X:Cx)(e:Option Expr)(t:TO):Prop:=
 ∀(zk:List (Addr×Obj)) (s:bq) (σ:St) (H:Hp) (Q:Option Int->Hp->Prop),Inv X zk σ H s->t σ H Q ->
  dh (model X.prog X.w) X.A (evalPart e X.env) (fun u s'=>∃o H',Inv X zk σ H' s'/\IsPart u o/\Q o H') X.xe s
def ER:TO:=fun _ H Q=>Q none H
def lH(t:TE):TO:=fun σ H Q=>t σ H fun x H1=>∃i,x=.int i/\Q (some i) H1
theorem fT{ns:List Int}:∀{us:List bp},Vals (ns.map V.int) us->ll us ns:=by
 induction ns with
 |nil=>intro us r;rw[map_nil]at r;cases r;exact .nil
 |cons n ns ih=>
  intro us r;rw[fm]at r;cases r with
  |cons r1 r2=>
   obtain⟨t,e⟩:=r1;subst e;exact .cons n t (ih r2)
section
variable {X:Cx}{e:Expr}{te:TE}{lo hi:Option Expr}{tl th:TO}{pos p2:Pos}
theorem b9:PO X none ER:=by
 intro zk s σ H Q I h;rw[evalPart_none];exact cq ⟨none,H,I,.none,h⟩
theorem bS(h:PE X e te):PO X (some e) (lH te):=by
 intro zk s σ H Q I hw;rw[evalPart_some];refine thn (h zk s σ H _ I hw) fun u s1 ⟨x,H1,I1,r1,q1⟩=>?_;obtain⟨i,rfl,q⟩:=q1;obtain⟨t,rfl⟩:=r1;exact⟨some i,H1,I1,.int i t,q⟩
def SlR(X:Cx)(r:V->Option Int->Option Int->Hp->VK->Prop):Prop:=
 ∀(zk:List (Addr×Obj)) (s:bq) (σ:St) (H:Hp) (x:V) (v vl vu:bp) (lo hi:Option Int) (sl:Addr) (Q:VK),Inv X zk σ H s->RelV x v->s.heap.IsSliceOf sl vl vu .none->IsPart vl lo->IsPart vu hi->r x lo hi H Q ->
  ∃T id,typeLookup (.type T) "__getitem__" = pure (some (.builtin id))/\s.TypeIs v T/\dh (model X.prog X.w) X.A (getItem v (.ref sl)) (EP X zk σ Q) X.xe s
theorem SlR.or{r r':V->Option Int->Option Int->Hp->VK->Prop}(h:SlR X r)(h':SlR X r'):SlR X (fun x lo hi H Q=>r x lo hi H Q\/r' x lo hi H Q):=by
 intro zk s σ H x v vl vu lo hi sl Q I rx hs pl pu q;rcases q with q|q
 ·exact h zk s σ H x v vl vu lo hi sl Q I rx hs pl pu q
 ·exact h' zk s σ H x v vl vu lo hi sl Q I rx hs pl pu q
def tSl(r:V->Option Int->Option Int->Hp->VK->Prop)(te:TE)(tl th:TO):TE:=fun σ H Q=>te σ H fun x H1=>tl σ H1 fun l H2=>th σ H2 fun u H3=>r x l u H3 Q
theorem bZ{r:V->Option Int->Option Int->Hp->VK->Prop}(hr:SlR X r)(he:PE X e te)(hl:PO X lo tl)(hu:PO X hi th):PE X (.Subscript e (.Slice lo hi none p2) pos) (tSl r te tl th):=by
 intro zk s σ H Q I h;refine Subscript_ (thn (he zk s σ H _ I h) fun v s1 ⟨x,H1,I1,r1,q1⟩=>?_);refine wpAny_Slice (thn (hl zk s1 σ H1 _ I1 q1) fun vl s2 ⟨l,H2,I2,pl,q2⟩=>thn (hu zk s2 σ H2 _ I2 q2) fun vu s3 ⟨u,H3,I3,pu,q3⟩=>?_);rw[evalPart_none];refine cq ?_;have I4:Inv X zk σ H3 { s3 with heap:=s3.heap.push { cls:=.type "slice",data:=.fields #[vl,vu,.none] } }:=I3.kept (t':=s3.toks) fun b ob q=>cp _ q;obtain⟨T,id,hT,ht,hg⟩:=hr zk { s3 with heap:=s3.heap.push { cls:=.type "slice",data:=.fields #[vl,vu,.none] } } σ H3 x v vl vu l u s3.heap.objs.size Q I4 r1 (Heap.IsSliceOf.new ..) pl pu q3;show dh (model X.prog X.w) X.A (subscriptTail e (.Slice lo hi none p2) v (.ref s3.heap.objs.size)) (EP X zk σ Q) X.xe { s3 with heap:=s3.heap.push { cls:=.type "slice",data:=.fields #[vl,vu,.none] } };exact tail_any (ops:=[.ref s3.heap.objs.size,v]) ht hT hg (by with_unfolding_all rfl)
def eK(xs:List V)(lo hi:Option Int):List V:=(xs.drop (HT.sIx xs.length 0 lo)).take (HT.sIx xs.length xs.length hi-HT.sIx xs.length 0 lo)
theorem yE(xs:List V)(lo hi:Option Int):(eK xs lo hi).length<=xs.length:=by
 unfold eK;rw[nz,length_drop];omega
def yX(K:cy):V->Option Int->Option Int->Hp->VK->Prop:=fun x lo hi H Q=>∃a xs,x=.ref a/\SqT K H a xs /\
 ¬(HT.sIx xs.length 0 lo=0/\HT.sIx xs.length xs.length hi=xs.length)/\∀p,H p=none->Q (.ref p) (upd H p (.tup (eK xs lo hi)))
theorem Cv:SlR X (yX X.K):=by
 intro zk s σ H x v vl vu lo hi sl Q I rx hs pl pu h;obtain⟨a,xs,rfl,hx,hw,q⟩:=h;cases rx;obtain⟨ab,r,ht,hz⟩:=I.tuple hx;have aa:ab.toArray.size=xs.length:=by rw[fh];exact r.length.symm
 refine⟨"tuple",_,PyProof.Rows.slot_tuple_getitem.lookup,ht.typeIs,?_⟩;refine HT.getItem_tuple_cut ht hs pl pu (by rw[aa];exact hw) ?_ (by rw[aa];exact hz);rw[aa];refine⟨.ref s.heap.objs.size,_,I.laid (t':=s.toks) (o:=.tup (eK xs lo hi)) (fun b ob q=>cp _ q) (ff _) ?_,rfl,q _ (I.hok.fresh (ff _))⟩;exact⟨⟨jn (yE xs lo hi) hz,_,fj _ rfl,rfl⟩,_,(r.drop (HT.sIx xs.length 0 lo)).take (HT.sIx xs.length xs.length hi-HT.sIx xs.length 0 lo),IsTup.new _ _⟩
def DL(K:cy):R2:=fun x y H Q=>∃a b ns ms,x=.ref a/\y=.ref b/\SqT K H a (ns.map V.int)/\SqT K H b (ms.map V.int)/\Q (.bl (HT.lexLt ns ms)) H
theorem K1(hu:X.A.units<qt):OpR X (jt .Lt) (DL X.K):=by
 intro zk s σ H x y v u Q I rx ry h;obtain⟨a,b,ns,ms,rfl,rfl,ha,hb,q⟩:=h;cases rx;cases ry;obtain⟨ab,r1,p1,_⟩:=I.tuple ha;obtain⟨aa,r2,p2,_⟩:=I.tuple hb;have i1:ll ab.toArray.toList ns:=fT r1;have i2:ll aa.toArray.toList ms:=fT r2;exact HT.lt_tupInts p1 p2 i1 i2 hu ⟨.bl (HT.lexLt ns ms),H,I,rfl,q⟩
def vF(K:cy):R2:=fun x y H Q=>∃a b xs ys,x=.ref a/\y=.ref b/\SqT K H a xs/\SqT K H b ys/\xs≠[]/\xs.length+ys.length<=fe /\
 (ys=[]->Q (.ref a) H)/\(ys≠[]->∀p,H p=none->Q (.ref p) (upd H p (.tup (xs++ys))))
theorem Vals.nil_iff{xs:List V}{us:List bp}(r:Vals xs us):us=[]↔xs=[]:=by
 cases r with
 |nil=>simp
 |cons _ _=>simp
theorem G4:OpR X (lf .Add) (vF X.K):=by
 intro zk s σ H x y v u Q I rx ry h;obtain⟨a,b,xs,ys,rfl,rfl,ha,hb,hx,hz,q1,q2⟩:=h;cases rx;cases ry;obtain⟨ab,r1,p1,_⟩:=I.tuple ha;obtain⟨aa,r2,p2,_⟩:=I.tuple hb;refine HT.cat_tup p1 p2 (fun z=>hx (r1.nil_iff.mp z)) (fun z=>⟨.ref a,H,I,rfl,q1 (r2.nil_iff.mp z)⟩) (fun z=>?_) (by rw[<- r1.length,<- r2.length];exact hz);refine⟨.ref s.heap.objs.size,_,I.laid (t':=s.toks) (o:=.tup (xs++ys)) (fun b ob q=>cp _ q) (ff _) ?_,rfl,q2 (fun w=>z (r2.nil_iff.mpr w)) _ (I.hok.fresh (ff _))⟩;exact⟨⟨by rw[cx];exact hz,_,fj _ rfl,rfl⟩,_,r1.append r2,IsTup.new _ _⟩
end
end
section
def ixN(n:Nat)(i:Int):Option Nat:=if 0<=i then (if i<n then some i.toNat else none)else if -(n:Int)<=i then some (i+n).toNat else none
def atI{α:Type}(xs:List α)(i:Int):Option α:=(ixN xs.length i).bind fun j=>xs[j]?
theorem B1{n:Nat}{i:Int}{j:Nat}(h:ixN n i=some j):seqIndex? i n=some j/\j<n/\-(n:Int)<=i/\i<n:=by
 unfold ixN at h;by_cases h0:0<=i
 ·rw[cg h0]at h;by_cases h1:i<n
  ·rw[cg h1]at h;have e:i.toNat=j:=gh h;exact⟨by rw[seqIndex_of h0 h1,e],yw,yw,h1⟩
  ·rw[cf h1]at h;cases h
 ·rw[cf h0]at h;by_cases h1:-(n:Int)<=i
  ·rw[cg h1]at h;have e:(i+n).toNat=j:=gh h;exact⟨by rw[seqIndex_neg yw h1,e],yw,h1,yw⟩
  ·rw[cf h1]at h;cases h
theorem yG{α:Type}{xs:List α}{i:Int}{v:α}(h:atI xs i=some v):∃j,seqIndex? i xs.length=some j/\xs[j]?=some v/\j<xs.length/\-(xs.length:Int)<=i/\i<xs.length:=by
 unfold atI at h;cases e:ixN xs.length i with
 |none=>rw[e]at h;cases h
 |some j=>
  rw[e]at h;obtain⟨h1,h2,h3,h4⟩:=B1 e;exact⟨j,h1,h,h2,h3,h4⟩
theorem f6{α:Type}{xs:List α}{j:Nat}{v:α}(h:xs[j]?=some v):atI xs (j:Int)=some v:=by
 have hj:j<xs.length:=(List.getElem?_eq_some_iff.mp h).1;have e:ixN xs.length (j:Int)=some j:=by
  unfold ixN;rw[cg yw,cg yw];simp
 unfold atI;rw[e];exact h
theorem FT{α:Type}(xs:List α)(v:α):atI (xs++[v]) (-1)=some v:=by
 have hl:(xs++[v]).length=xs.length+1:=by simp
 have e:ixN (xs++[v]).length (-1)=some xs.length:=by
  unfold ixN;rw[hl,cf dz,cg yw];congr 1;omega
 unfold atI;rw[e];show (xs++[v])[xs.length]?=some v;simp
def PlainIx(b:Expr):Prop:=∀o i,subscripted b false o i=operate [o,i] (getItem o i)
def IxR(X:Cx)(r:R2):Prop:=
 ∀(value slice:Expr) (zk:List (Addr×Obj)) (s:bq) (σ:St) (H:Hp) (x y:V) (v u:bp) (Q:VK),Inv X zk σ H s->RelV x v->RelV y u->r x y H Q ->
  subscripted slice false v u=operate [v,u] (getItem v u)->dh (model X.prog X.w) X.A (subscriptTail value slice v u) (EP X zk σ Q) X.xe s
def MtR(X:Cx)(id:String)(r:V->List V->Hp->VK->Prop):Prop:=
 ∀(zk:List (Addr×Obj)) (s:bq) (σ:St) (H:Hp) (x:V) (xs:List V) (v:bp) (us:List bp) (Q:VK),Inv X zk σ H s->RelV x v->Vals xs us->r x xs H Q ->
  dh (model X.prog X.w) X.A (call (.builtin id) (v::us)) (EP X zk σ Q) X.xe s
section
variable {X:Cx}{a b:Expr}{ta tb:TE}{pos:Pos}
theorem IxR.or{r r':R2}(h:IxR X r)(h':IxR X r'):IxR X (fun x y H Q=>r x y H Q\/r' x y H Q):=by
 intro value aa zk s σ H x y v u Q I rx ry q hs;rcases q with q|q
 ·exact h value aa zk s σ H x y v u Q I rx ry q hs
 ·exact h' value aa zk s σ H x y v u Q I rx ry q hs
theorem zH{r:R2}(hr:IxR X r)(ha:PE X a ta)(hb:PE X b tb)(hs:PlainIx b):PE X (.Subscript a b pos) (tOp r ta tb):=by
 intro zk s σ H Q I h;exact Subscript_ (xU ha hb I h fun v u s2 x y H2 I2 rx ry q=>hr a b zk s2 σ H2 x y v u Q I2 rx ry q (hs _ _))
def wO(K:cy):R2:=fun x y H Q=>∃p xs i v,x=.ref p/\y=.int i/\SqL K H p xs/\atI xs i=some v/\Q v H
def vP(K:cy):R2:=fun x y H Q=>∃p xs i v,x=.ref p/\y=.int i/\SqT K H p xs/\atI xs i=some v/\Q v H
def yB:R2:=fun x y H Q=>∃z i c,x=.str z/\y=.int i/\z.length<=fe/\atI z.cps.toList i=some c/\Q (.str ⟨#[c]⟩) H
theorem C2:IxR X (wO X.K):=by
 intro value ac zk s σ H x y v u Q I rx ry h hs;obtain⟨p,xs,i,z,rfl,rfl,hq,he,q⟩:=h;cases rx;obtain⟨t,rfl⟩:=ry;obtain⟨aa,r,pl,hz⟩:=I.list hq;obtain⟨j,h1,h2,h3,h4,h5⟩:=yG he;obtain⟨w,ew,ab⟩:=r.get h2;have hl:=r.length;have hn:=line63;have fin:EP X zk σ Q w s:=⟨z,H,I,ab,q⟩;by_cases h0:0<=i
 ·have hj:i.toNat=j:=by
   rw[seqIndex_of h0 h5]at h1;exact gh h1
  exact item_listR pl.isList h0 yw (by rw[hj];simpa using ew) fin hs
 ·have hj:(i+(aa.toArray.size:Int)).toNat=j:=by
   rw[seqIndex_neg yw h4]at h1;rw[fh,<- hl];exact gh h1
  exact subscriptTail_builtinR (x:=w) pl.isList.typeIs slot_list_getitem.lookup
   (wpAny_getItem_list_neg (Q:=fun r s'=>r=w/\EP X zk σ Q r s') pl.isList yw (by rw[fh]<;>omega) yw (by rw[hj];simpa using ew) ⟨rfl,fin⟩) hs
theorem Fv:IxR X (vP X.K):=by
 intro value ab zk s σ H x y v u Q I rx ry h hs;obtain⟨p,xs,i,z,rfl,rfl,hq,he,q⟩:=h;cases rx;obtain⟨t,rfl⟩:=ry;obtain⟨ac,r,pl,hz⟩:=I.tuple hq;obtain⟨j,h1,h2,h3,h4,h5⟩:=yG he;obtain⟨w,ew,aa⟩:=r.get h2;have hl:=r.length;have hn:=line63;have fin:EP X zk σ Q w s:=⟨z,H,I,aa,q⟩;exact subscriptTail_builtinR (x:=w) pl.typeIs slot_tuple_getitem.lookup
  (getItem_tuple (j:=j) (Q:=fun r s'=>r=w/\EP X zk σ Q r s') pl yw yw (by rw[fh,<- hl];exact h1) (by simpa using ew) ⟨rfl,fin⟩) hs
theorem F2:IxR X yB:=by
 intro value aa zk s σ H x y v u Q I rx ry h hs;obtain⟨z,i,c,rfl,rfl,hz,he,q⟩:=h;obtain⟨t,rfl⟩:=rx;obtain⟨t',rfl⟩:=ry;obtain⟨j,h1,h2,h3,h4,h5⟩:=yG he;have hl:z.cps.toList.length=z.length:=by simp[Str.length]
 rw[hl]at h1 h4 h5;have hn:=line63;exact tail_any (typeIs_str s z t) slot_str_getitem.lookup (getItem_str (c:=c) (by
  have e1:decide (i < -(2 ^ 63:Int))=false:=dw yw;have e2:decide (i≥2 ^ 63)=false:=dw yw;rw[e1,e2,Bool.or_false]) (by rw[h1];simpa using h2) ⟨.str ⟨#[c]⟩,H,I.tok _,⟨_,rfl⟩,q⟩) hs
def rIx(K:cy):R2:=fun x y H Q=>wO K x y H Q\/vP K x y H Q\/yB x y H Q
theorem zw:IxR X (rIx X.K):=C2.or (Fv.or F2)
theorem GD(q:List bp)(n j:Nat)(u:bp):ic (·.setIfInBounds j u) { cls:=.type "list",data:=.seq q.toArray n } = { cls:=.type "list",data:=.seq (q.set j u).toArray n }:=by
 simp[ic]
theorem Inv.lst{zk:List (Addr×Obj)}{σ:St}{H:Hp}{s:bq}{p:Addr}{xs:List V}(I:Inv X zk σ H s)(h:H p=some (.lst xs)):
  ∃(q:List bp) (n:Nat),Vals xs q/\s.heap.get? p=some { cls:=.type "list",data:=.seq q.toArray n }/\xs.length<=fe:=by
 obtain⟨z,q,n,r,e⟩:=I.hok p _ h;exact⟨q,n,r,e,z⟩
theorem Inv.lstUpd{zk:List (Addr×Obj)}{σ:St}{H:Hp}{s:bq}{p:Addr}{xs ys:List V}{aa its':List bp}{n n':Nat}{f:Obj->Obj}(I:Inv X zk σ H s)(h:H p=some (.lst xs))
  (ho:s.heap.get? p=some { cls:=.type "list",data:=.seq aa.toArray n }) (hf:f { cls:=.type "list",data:=.seq aa.toArray n } = { cls:=.type "list",data:=.seq its'.toArray n' }) (r:Vals ys its') (hz:ys.length<=fe) (t:Nat):
  Inv X zk σ (upd H p (.lst ys)) { s with heap:=s.heap.update p f,toks:=t }:=by
 have e:(s.heap.update p f).get? p=some { cls:=.type "list",data:=.seq its'.toArray n' }:=by
  rw[get?_update_self f ho (by rw[hf]<;>rfl),hf]
 refine I.write (x:=p) (e:=p) (by rw[h];trivial) (.inl rfl) (fun b u hb q=>(lq _ _ (jg hb)).trans q) ⟨_,e⟩ ?_;exact⟨hz,its',n',r,e⟩
def D5:V->V->V->Hp->(Hp->Prop)->Prop:=fun o i v H Q=>∃p xs k j,o=.ref p/\i=.int k/\H p=some (.lst xs)/\ixN xs.length k=some j/\Q (upd H p (.lst (xs.set j v)))
theorem rZ:PSet X D5:=by
 intro zk s σ H o i v ov iv u Q I ro ri rv h;obtain⟨p,xs,k,j,rfl,rfl,hp,hj,q⟩:=h;cases ro;obtain⟨t,rfl⟩:=ri;obtain⟨aa,n,r,ho,hz⟩:=I.lst hp;obtain⟨h1,h2,h3,h4⟩:=B1 hj;have hl:=r.length;have hn:=line63;have I':Inv X zk σ (upd H p (.lst (xs.set j v))) { s with heap:=s.heap.update p (ic (·.setIfInBounds j u)) } :=
  I.lstUpd hp ho (GD aa n j u) (r.set rv j) (by rw[length_set];exact hz) s.toks
 by_cases h0:0<=k
 ·have hk:k.toNat=j:=by
   rw[seqIndex_of h0 h4]at h1;exact gh h1
  exact W.ki_setAt ho h0 yw (by rw[fh,<- hl];exact h4) (by rw[hk];exact⟨_,I',q⟩)
 ·have hk:(k+(aa.toArray.size:Int)).toNat=j:=by
   rw[seqIndex_neg yw h3]at h1;rw[fh,<- hl];exact gh h1
  exact W.ki_setBack ho yw (by rw[fh,<- hl];exact h3) yw (by rw[hk];exact⟨_,I',q⟩)
theorem Gk(lo hi:Option Int)(n:Nat):(rn lo hi none n).1=((HT.sIx n 0 lo:Nat):Int)/\(rn lo hi none n).2.1=((HT.sIx n n hi:Nat):Int)/\(rn lo hi none n).2.2=1:=by
 refine⟨?_,?_,rfl⟩
 ·cases lo with
  |none=>simp[rn,HT.sIx]
  |some i=>
   simp only[rn,HT.sIx,Option.getD_none,show (1:Int)>0 by decide,if_true];by_cases h:i<0
   ·simp only[h,if_true]<;>omega
   ·simp only[h,if_false]<;>omega
 ·cases hi with
  |none=>simp[rn,HT.sIx]
  |some i=>
   simp only[rn,HT.sIx,Option.getD_none,show (1:Int)>0 by decide,if_true];by_cases h:i<0
   ·simp only[h,if_true]<;>omega
   ·simp only[h,if_false]<;>omega
theorem F5(q:List bp)(lo hi:Option Int):slicePick q.toArray lo hi none=((q.drop (HT.sIx q.length 0 lo)).take (HT.sIx q.length q.length hi-HT.sIx q.length 0 lo)).toArray:=by
 obtain⟨h1,h2,h3⟩:=Gk lo hi q.toArray.size;unfold slicePick;rw[h1,h2,h3];simp only[sliceRange_one,pick_run,fh]<;>rfl
def oF(K:cy):V->Option Int->Option Int->Hp->VK->Prop:=fun x lo hi H Q=>∃a xs,x=.ref a/\SqL K H a xs/\∀p,H p=none->Q (.ref p) (upd H p (.lst (eK xs lo hi)))
theorem AX:SlR X (oF X.K):=by
 intro zk s σ H x v vl vu lo hi sl Q I rx hs pl pu h;obtain⟨a,xs,rfl,hx,q⟩:=h;cases rx;obtain⟨ab,r,ht,hz⟩:=I.list hx;have aa:=r.length;refine⟨"list",_,slot_list_getitem.lookup,ht.isList.typeIs,?_⟩;refine wpAny_getItem_list_slice ht.isList hs pl pu .none yv ?_ (by rw[fh]<;>omega);rw[F5,<- aa];refine⟨.ref s.heap.objs.size,_,I.laid (t':=s.toks) (o:=.lst (eK xs lo hi)) (fun b ob q=>cp _ q) (ff _) ?_,rfl,q _ (I.hok.fresh (ff _))⟩;exact⟨jn (yE xs lo hi) hz,_,0,(r.drop (HT.sIx xs.length 0 lo)).take (HT.sIx xs.length xs.length hi-HT.sIx xs.length 0 lo),fj _ rfl⟩
theorem Et:CallR X (.builtin "len") (fun xs H Q=>∃p ys,xs=[.ref p]/\(SqL X.K H p ys\/SqT X.K H p ys)/\Q (.int ys.length) H):=by
 intro zk s σ H xs us Q I r h;obtain⟨p,ys,rfl,hq,q⟩:=h;obtain⟨u,rfl,rx⟩:=vals1 r;cases rx;have hn:=line63;rcases hq with hq|hq
 ·obtain⟨ab,r',pl,hz⟩:=I.list hq;have aa:=r'.length;exact Calls.call_len_list pl.isList (by simp only[fh]<;>omega) ⟨.int ys.length,H,I.tok _,⟨s.toks+1,by rw[fh,aa]⟩,q⟩
 ·obtain⟨ab,r',pl,hz⟩:=I.tuple hq;have aa:=r'.length;exact len_tuple pl (by simp only[fh]<;>omega) ⟨.int ys.length,H,I.tok _,⟨s.toks+1,by rw[fh,aa]⟩,q⟩
theorem FK:CallR X (.builtin "len") (fun xs H Q=>∃z,xs=[.str z]/\z.length<=fe/\Q (.int z.length) H):=by
 intro zk s σ H xs us Q I r h;obtain⟨z,rfl,hz,q⟩:=h;obtain⟨u,rfl,t,rfl⟩:=vals1 r;have hn:=line63;exact len_str yw ⟨.int z.length,H,I.tok _,⟨_,rfl⟩,q⟩
theorem CallR.or{f:bp}{r r':List V->Hp->VK->Prop}(h:CallR X f r)(h':CallR X f r'):CallR X f (fun xs H Q=>r xs H Q\/r' xs H Q):=by
 intro zk s σ H xs us Q I rs q;rcases q with q|q
 ·exact h zk s σ H xs us Q I rs q
 ·exact h' zk s σ H xs us Q I rs q
theorem wX:CallR X (.type "list") (fun xs H Q=>∃p ys,xs=[.ref p]/\(SqL X.K H p ys\/SqT X.K H p ys)/\∀l,H l=none->Q (.ref l) (upd H l (.lst ys))):=by
 intro zk s σ H xs us Q I r h;obtain⟨p,ys,rfl,hq,q⟩:=h;obtain⟨u,rfl,rx⟩:=vals1 r;cases rx;have fin:∀(aa:List bp),Vals ys aa->ys.length<=fe->∀(h':Heap) (c':Nat),(∀b o',s.heap.get? b=some o'->h'.get? b=some o') ->
   h'.get? s.heap.objs.size=some { cls:=.type "list",dict:=none,data:=.seq aa.toArray c',slots:=#[] }->EP X zk σ Q (.ref s.heap.objs.size) { s with heap:=h' }:=fun aa r' hz h' c' kp e=>
  ⟨.ref s.heap.objs.size,_,I.laid (t':=s.toks) kp (ff _) (show ObjOk X.prog X.w _ h' _ (.lst ys)from⟨hz,aa,c',r',e⟩),rfl,q _ (I.hok.fresh (ff _))⟩
 rcases hq with hq|hq
 ·obtain⟨aa,r',pl,hz⟩:=I.list hq;have ab:=r'.length;obtain⟨o,ho,hc,n,hd⟩:=pl.isList;exact call_list_seq p (.inl rfl) ho hc hd (fun h' c' kp e=>fin aa r' hz h' c' kp e) (by simp only[fh]<;>omega)
 ·obtain⟨aa,r',pl,hz⟩:=I.tuple hq;have ab:=r'.length;obtain⟨o,ho,hc,n,hd⟩:=pl;exact call_list_seq p (.inr rfl) ho hc hd (fun h' c' kp e=>fin aa r' hz h' c' kp e) (by simp only[fh]<;>omega)
theorem zM:CallR X (.type "tuple") (fun xs H Q=>∃p ys,xs=[.ref p]/\((SqL X.K H p ys/\∀l,H l=none->Q (.ref l) (upd H l (.tup ys)))\/(SqT X.K H p ys/\Q (.ref p) H))):=by
 intro zk s σ H xs us Q I r h;obtain⟨p,ys,rfl,h⟩:=h;obtain⟨u,rfl,rx⟩:=vals1 r;cases rx;rcases h with ⟨hq,q⟩|⟨hq,q⟩
 ·obtain⟨aa,r',pl,hz⟩:=I.list hq;have ab:=r'.length;refine call_tuple_list pl.isList (fun h' kp=>?_) (by simp only[fh]<;>omega);have I1:Inv X zk σ H { s with heap:=h' }:=I.kept (t':=s.toks) kp;have I2:Inv X zk σ (upd H h'.objs.size (.tup ys)) { s with heap:=h'.push { cls:=.type "tuple",data:=.seq aa.toArray } } :=
   I1.laid (t':=s.toks) (fun b o e=>cp _ e) (ff _) (show ObjOk X.prog X.w _ _ _ (.tup ys)from⟨⟨hz,_,fj _ rfl,rfl⟩,aa,r',IsTup.new _ _⟩)
  exact⟨.ref h'.objs.size,_,I2,rfl,q _ (I1.hok.fresh (ff _))⟩
 ·obtain⟨aa,r',pl,hz⟩:=I.tuple hq;exact call_tuple_same pl ⟨.ref p,H,I,rfl,q⟩
def tyV(K:cy)(T:String)(x:V)(H:Hp):Prop:=match x with
 | .str _=>T = "str"
 | .int _=>T = "int"
 | .ref p=>(T = "list"/\∃xs,SqL K H p xs)\/(T = "tuple"/\∃o,K.lookup p=some o/\o.cls=.type "tuple"/\o.dict=none) \/
   (T = "dict"/\((∃kvs,H p=some (.dK kvs))\/∃kvs,H p=some (.dT kvs)))\/(T = "set"/\∃S n,H p=some (.set S n))
 |_=>False
theorem EH{zk:List (Addr×Obj)}{σ:St}{H:Hp}{s:bq}{T:String}{x:V}{v:bp}(I:Inv X zk σ H s)(r:RelV x v)(ty:tyV X.K T x H):
  s.TypeIs v T/\∀a,v=.ref a->∃ob,s.heap.get? a=some ob/\ob.dict=none:=by
 cases x with
 |str z=>
  obtain⟨t,rfl⟩:=r;cases (show T = "str" from ty);exact⟨typeIs_str s z t,fun _ e=>nomatch e⟩
 |int i=>
  obtain⟨t,rfl⟩:=r;cases (show T = "int" from ty);exact⟨typeIs_int s i t,fun _ e=>nomatch e⟩
 |ref p=>
  cases r;rcases ty with ⟨rfl,xs,hq⟩|⟨rfl,o,hk,hc,hd⟩|⟨rfl,hk⟩|⟨rfl,S,n,hk⟩
  ·obtain⟨q,_,pl,_⟩:=I.list hq;refine⟨pl.isList.typeIs,fun a e=>?_⟩;cases e;obtain⟨o,n,e,c,hd,_⟩:=pl;exact⟨o,e,hd⟩
  ·refine⟨⟨o,I.kIn p o hk,hc⟩,fun a e=>?_⟩;cases e;exact⟨o,I.kIn _ o hk,hd⟩
  ·have z:∃o,s.heap.get? p=some o/\o.ExactDict:=by
    rcases hk with ⟨kvs,hk⟩|⟨kvs,hk⟩
    ·obtain⟨_,_,_,_,o,_,_,e,ex,_⟩:=I.hok p _ hk;exact⟨o,e,ex⟩
    ·obtain⟨_,_,_,_,o,_,_,e,ex,_⟩:=I.hok p _ hk;exact⟨o,e,ex⟩
   obtain⟨o,e,ex⟩:=z;refine⟨⟨o,e,ex.1⟩,fun a e2=>?_⟩;cases e2;exact⟨o,e,ex.2.1⟩
  ·obtain⟨o,_,_,_,e,ex,_⟩:=I.hok p _ hk;refine⟨⟨o,e,ex.1⟩,fun a e2=>?_⟩;cases e2;exact⟨o,e,ex.2.1⟩
 |_=>exact ph ty
def CH(K:cy)(T:String)(r:V->List V->Hp->VK->Prop)(to:TE):TE:=fun σ H Q=>to σ H fun x H1=>tyV K T x H1/\r x [] H1 Q
def tBM(K:cy)(T:String)(r:V->List V->Hp->VK->Prop)(to:TE)(t:TA):TE:=fun σ H Q=>to σ H fun x H1=>tyV K T x H1/\t σ H1 fun xs H2=>r x xs H2 Q
variable {o e:Expr}{es:List Expr}{to:TE}{t:TA}{name:Str}{apos cpos:Pos}{T id:String}{r:V->List V->Hp->VK->Prop}
theorem F1(pa:PlainAttrs T)(slot:Slot T name id)(q:typeOf (.builtin id)=pure (.type "method_descriptor"))(hm:MtR X id r)(ho:PE X o to)
  (hbase:attributeBase o name X.env (eval o X.env)=eval o X.env:=by rfl) (hline:(apos.endLine==cpos.line)=true:=by rfl):PE X (.Call (.Attribute o name apos) [] [] cpos) (CH X.K T r to):=by
 intro zk s σ H Q I h;refine wpAny_Call_method0_late hbase hline (thn (ho zk s σ H _ I h) fun v s1 ⟨x,H1,I1,r1,ty,q1⟩=>?_);obtain⟨h1,h2⟩:=EH I1 r1 ty;exact⟨T,id,pa,slot,q,h1,h2,Calls.callWith_builtin rfl (PySem.evalArgs_none (hm zk s1 σ H1 x [] v [] Q I1 r1 .nil q1))⟩
theorem fL(pa:PlainAttrs T)(slot:Slot T name id)(q:typeOf (.builtin id)=pure (.type "method_descriptor"))(hm:MtR X id r)(ho:PE X o to)(ha:PA X (e::es) t)
  (hbase:attributeBase o name X.env (eval o X.env)=eval o X.env:=by rfl)
  (hfew:((sj cpos (gx (e::es) X.env)).all (fun x=>!x.1)&&(backToKw cpos (keywordEach [] X.env)).all (fun x=>x.1.isSome)
   && decide ((e::es).length+([]:List Keyword).length+(if ([]:List Keyword).isEmpty then 0 else 1)<30))=true:=by rfl)
  (hline:(apos.endLine==cpos.line)=true:=by rfl) (hs:gx (e::es) X.env=(false,eval e X.env)::gx es X.env:=by rfl) (hplain:(sj cpos (gx es X.env)).any (·.1)=false:=by rfl):
  PE X (.Call (.Attribute o name apos) (e::es) [] cpos) (tBM X.K T r to t):=by
 intro zk s σ H Q I h;refine wpAny_Call_method_late hbase hfew hline rfl (thn (ho zk s σ H _ I h) fun v s1 ⟨x,H1,I1,r1,ty,q1⟩=>?_);obtain⟨h1,h2⟩:=EH I1 r1 ty;refine⟨T,id,pa,slot,q,h1,h2,?_⟩;have hA:=ha cpos zk s1 σ H1 _ I1 q1;rw[hs]at hA ⊢;refine Calls.callWith_builtin (by show (false||(sj cpos (gx es X.env)).any (·.1))=false;rw[hplain]<;>rfl) (Calls.evalArgs_plain ?_);exact thn hA fun us s2 ⟨vs,H2,I2,r2,q2⟩=>hm zk s2 σ H2 x vs v us Q I2 r1 r2 q2
end
end
section
def MtM(X:Cx)(id:String)(r:V->List V->Hp->VK->Prop):Prop:=
 ∀(zk:List (Addr×Obj)) (s:bq) (σ:St) (H:Hp) (x:V) (xs:List V) (v:bp) (us:List bp) (Q:VK),Inv X zk σ H s->RelV x v->Vals xs us->r x xs H Q ->
  dh (model X.prog X.w) X.A (call (.builtin id) (v::us)) (EP X zk σ Q) X.xe s
theorem Vals.one:∀{x:V}{us:List bp},Vals [x] us->∃u,us=[u]/\RelV x u
 |_,_,.cons r .nil=>⟨_,rfl,r⟩
theorem Vals.zero:∀{us:List bp},Vals [] us->us=[]
 |_,.nil=>rfl
theorem Vals.reverse{xs:List V}{us:List bp}(h:Vals xs us):Vals xs.reverse us.reverse:=by
 induction h with
 |nil=>exact .nil
 |cons r t ih=>rw[reverse_cons,reverse_cons];exact Vals.append ih (.cons r .nil)
theorem Vals.rep{xs:List V}{us:List bp}(h:Vals xs us):∀k:Nat,Vals (bx k xs).flatten (bx k us).flatten
 | 0=>.nil
 |k+1=>by
  rw[ou,ou,flatten_cons,flatten_cons];exact Vals.append h (Vals.rep h k)
theorem Dm(q:List bp):∀(k:Nat) (acc:List bp),
  px (fun x1 x2=>x1++x2) acc.toArray (bx k q.toArray)=(acc++(bx k q).flatten).toArray
 | 0,acc=>by simp
 |k+1,acc=>by
  have e:acc.toArray++q.toArray=(acc++q).toArray:=by simp
  have e2:(acc++q)++(bx k q).flatten=acc++(bx (k+1) q).flatten:=by
   rw[ou,flatten_cons,gv]
  rw[<- e2,<- Dm q k (acc++q),<- e,ou,qw]
section
variable {X:Cx}{zk:List (Addr×Obj)}{σ:St}{H:Hp}{s:bq}{l b:Addr}{xs ys zs:List V}
theorem Inv.lset{aa its':List bp}{n:Nat}{f:Array bp->Array bp}{t':Nat}(I:Inv X zk σ H s)(hH:H l=some (.lst xs))
  (e:s.heap.get? l=some { cls:=.type "list",data:=.seq aa.toArray n }) (hf:f aa.toArray=its'.toArray) (hv:Vals ys its') (hz:ys.length<=fe):
  Inv X zk σ (upd H l (.lst ys)) { s with heap:=s.heap.update l (ic f),toks:=t' }:=by
 have q:=PySem.IsL.update e f;rw[hf]at q;refine I.write (x:=l) (e:=l) (by rw[hH];exact trivial) (.inl rfl) (fun b' u hb hu=>(lq s.heap (ic f) (jg hb)).trans hu) ⟨_,q⟩ ?_;exact⟨hz,its',_,hv,q⟩
theorem Inv.lnew{aa:List bp}{t':Nat}(I:Inv X zk σ H s)(hv:Vals ys aa)(hz:ys.length<=fe):
  Inv X zk σ (upd H s.heap.objs.size (.lst ys)) { s with heap:=s.heap.push { cls:=.type "list",data:=.seq aa.toArray },toks:=t' } :=
 I.laid (fun _ _ q=>cp _ q) (ff _) ⟨hz,aa,0,hv,fj _ rfl⟩
theorem Inv.fresh(I:Inv X zk σ H s):H s.heap.objs.size=none:=I.hok.fresh (ff _)
theorem Inv.lstM(I:Inv X zk σ H s)(hH:H l=some (.lst xs)):xs.length<=fe/\∃(q:List bp) (n:Nat),Vals xs q/\xs.length=q.length/\s.heap.get? l=some { cls:=.type "list",data:=.seq q.toArray n }:=by
 obtain⟨z,q,n,r,e⟩:=I.hok l _ hH;exact⟨z,q,n,r,r.length,e⟩
theorem Bp{n:Nat}(h:n<=fe):Builtin.List.listTooLong n=false:=by
 unfold Builtin.List.listTooLong;exact dw yw
end
section
variable {X:Cx}
def CD:V->List V->Hp->VK->Prop:=fun x vs H Q=>∃l xs y,x=.ref l/\vs=[y]/\H l=some (.lst xs)/\xs.length<fe/\Q .non (upd H l (.lst (xs++[y])))
theorem gF:MtM X "list.append" CD:=by
 intro zk s σ H x vs v us Q I rx rv h;obtain⟨l,xs,y,rfl,rfl,hH,hz,q⟩:=h;cases rx;obtain⟨u,rfl,ru⟩:=rv.one;obtain⟨z,aa,n,r,hl,e⟩:=I.lstM hH;refine call_meets F.slot_list_append ⟨_,e,rfl⟩ F.entry_list_append (F.args_list_append_2 _ _) (PySem.list_append l aa.toArray n u (by rw[fh];omega)) ⟨e,?_⟩;refine⟨.non,_,I.lset (its':=aa++[u]) hH e yv (r.append (.cons ru .nil)) ?_,rfl,q⟩;rw[cx,gr];omega
def Eh:V->List V->Hp->VK->Prop:=fun x vs H Q=>∃l b xs zs,x=.ref l/\vs=[.ref b]/\H l=some (.lst xs)/\H b=some (.lst zs)/\xs.length+zs.length<=fe/\Q .non (upd H l (.lst (xs++zs)))
theorem LX:MtM X "list.extend" Eh:=by
 intro zk s σ H x vs v us Q I rx rv h;obtain⟨l,b,xs,zs,rfl,rfl,hH,hB,hz,q⟩:=h;cases rx;obtain⟨u,rfl,ru⟩:=rv.one;cases ru;obtain⟨z,ab,n,r,hl,e⟩:=I.lstM hH;obtain⟨z2,aa,n2,r2,ae,e2⟩:=I.lstM hB;have hsz:ab.toArray.size+aa.toArray.size<=fe:=by rw[fh,fh];omega
 have ac:¬(!ab.toArray.isEmpty&&Builtin.List.listTooLong (ab.toArray.size+aa.toArray.size))=true:=by
  rw[Bp hsz,Bool.and_false];exact jh
 refine call_meets F.slot_list_extend ⟨_,e,rfl⟩ F.entry_list_extend (F.args_list_extend_2 _ _)
  (AutoSeq1.list_extend_list_list_0 l ab.toArray n b aa.toArray n2 ac (by rw[fh];omega) yw) ⟨e,e2,?_⟩
 refine⟨.non,_,I.lset (its':=ab++aa) hH e yv (r.append r2) ?_,rfl,q⟩;rw[cx];omega
def Bs:V->List V->Hp->VK->Prop:=fun x vs H Q=>∃l xs,x=.ref l/\vs=[]/\H l=some (.lst xs)/\Q .non (upd H l (.lst xs.reverse))
theorem HZ:MtM X "list.reverse" Bs:=by
 intro zk s σ H x vs v us Q I rx rv h;obtain⟨l,xs,rfl,rfl,hH,q⟩:=h;cases rx;have ab:=rv.zero;subst ab;obtain⟨z,aa,n,r,hl,e⟩:=I.lstM hH;refine call_meets F.slot_list_reverse ⟨_,e,rfl⟩ F.entry_list_reverse (F.args_list_reverse_1 _) (AutoSeq1.list_reverse_list_0 l aa.toArray n (by rw[fh];omega)) ⟨e,?_⟩;refine⟨.non,_,I.lset (its':=aa.reverse) hH e yv r.reverse ?_,rfl,q⟩;rw[List.length_reverse];omega
def lJ:R2:=fun x y H Q=>∃l b xs zs,x=.ref l/\y=.ref b/\H l=some (.lst xs)/\H b=some (.lst zs)/\xs.length+zs.length<=fe/\∀p,H p=none->Q (.ref p) (upd H p (.lst (xs++zs)))
theorem uK:OpR X (lf .Add) lJ:=by
 intro zk s σ H x y v u Q I rx ry h;obtain⟨l,b,xs,zs,rfl,rfl,hH,hB,hz,q⟩:=h;cases rx;cases ry;obtain⟨z,ab,n,r,hl,e⟩:=I.lstM hH;obtain⟨z2,aa,n2,r2,ac,e2⟩:=I.lstM hB;refine PySem.P.add_list e e2 ?_ (by rw[fh,fh];omega);have ea:ab.toArray++aa.toArray=(ab++aa).toArray:=by simp
 rw[ea];exact⟨.ref _,_,I.lnew (t':=s.toks) (r.append r2) (by rw[cx];omega),rfl,q _ I.fresh⟩
def Br:R2:=fun x y H Q=>∃l k xs,x=.ref l/\y=.int k/\H l=some (.lst xs)/\-(2 ^ 63)<=k/\k<2 ^ 63/\xs.length*k.toNat<=fe /\
 ∀p,H p=none->Q (.ref p) (upd H p (.lst (bx k.toNat xs).flatten))
theorem HG{α:Type}(xs:List α)(k:Nat):(bx k xs).flatten.length=k*xs.length:=by
 induction k with
 |zero=>simp
 |succ k ih=>rw[ou,flatten_cons,cx,ih,succ_mul,Nat.add_comm]
theorem Hw:OpR X (lf .Mult) Br:=by
 intro zk s σ H x y v u Q I rx ry h;obtain⟨l,k,xs,rfl,rfl,hH,h1,h2,hz,q⟩:=h;cases rx;obtain⟨t,rfl⟩:=ry;obtain⟨z,aa,n,r,hl,e⟩:=I.lstM hH;have ac:aa.toArray.size*k.toNat<=fe:=by rw[fh,<- hl];exact hz
 have ag:¬ aa.toArray.size*k.toNat>(2 ^ 63-1)/8:=by
  have:(fe:Nat)<=(2 ^ 63-1)/8:=by decide
  omega
 have ae:¬(!Builtin.List.listFitsIndex k)=true:=by
  rw[fitsIndex_both h1 h2];exact jh
 have ab:¬ Builtin.List.listTooLong (aa.toArray.size*k.toNat)=true:=by
  rw[Bp ac];exact jh
 have af:px (fun x1 x2=>x1++x2) #[] (bx (if aa.toArray.isEmpty=true then 0 else k.toNat) aa.toArray)=(bx k.toNat aa).flatten.toArray:=by
  have f0:∀m:Nat,px (fun x1 x2=>x1++x2) #[] (bx m aa.toArray)=(bx m aa).flatten.toArray:=fun m=>by
   have:=Dm aa m [];rw[nil_append]at this;exact this
  rw[f0];cases aa with
  |nil=>simp
  |cons a r'=>rw[cf yv]
 refine wpAny_binaryOp_repeat_ref (T:="list") (U:="int") dz ⟨_,e,rfl⟩ (fun s'=>typeIs_int s' k t) noFill_list_mul F.fills_int_mul F.slot_int_rmul repeat_list F.slot_int_index.lookup
  (call_meets F.slot_int_rmul (typeIs_int s k t) F.entry_int_rmul (F.args_int_rmul_2 _ _) (int___rmul___int_list k t l aa.toArray n)
   ⟨e,rfl,⟨_,e,rfl⟩,call_meets F.slot_list_mul ⟨_,e,rfl⟩ F.entry_list_mul (F.args_list_mul_2 _ _) (AutoListH.list___mul___list_int_3 l aa.toArray n k t ae ag ab) ⟨e,?_⟩⟩)
 rw[af];exact⟨.ref _,_,I.lnew (t':=s.toks) (r.rep k.toNat) (by rw[HG,mul_comm];exact hz),rfl,q _ I.fresh⟩
end
end
section
section
variable {κ:Type} [DecidableEq κ]
def d9(kvs:List (κ×V))(k:κ):Option V:=(kvs.find? fun kv=>decide (kv.1=k)).map (·.2)
def cJ(kvs:List (κ×V))(k:κ)(v:V):List (κ×V):=
 if (kvs.any fun kv=>decide (kv.1=k))=true then kvs.map (fun kv=>if kv.1=k then (kv.1,v)else kv)else kvs++[(k,v)]
theorem sE{p:κ×V}{r:List (κ×V)}{k:κ}(e:p.1=k):d9 (p::r) k=some p.2:=by simp[d9,rh,e]
theorem uL{p:κ×V}{r:List (κ×V)}{k:κ}(e:¬ p.1=k):d9 (p::r) k=d9 r k:=by simp[d9,rh,e]
theorem DB(k:κ):∀kvs:List (κ×V),(kvs.any fun kv=>decide (kv.1=k))=(d9 kvs k).isSome
 | []=>rfl
 |p::r=>by
  rw[any_cons];by_cases e:p.1=k
  ·simp only[sE e,ge e,Bool.true_or,Option.isSome_some]
  ·rw[uL e,dw e,Bool.false_or];exact DB k r
theorem AO(kvs:List (κ×V))(k:κ)(v:V):(cJ kvs k v).length<=kvs.length+1:=by
 unfold cJ;split
 ·rw[fw];omega
 ·rw[cx,ft,length_nil];omega
theorem RelO.isSome_eq{o:Option V}{u:Option bp}(r:RelO o u):o.isSome=u.isSome:=by
 cases o with
 |none=>cases u with
  |none=>rfl
  |some _=>exact(show False from r).elim
 |some _=>cases u with
  |none=>exact(show False from r).elim
  |some _=>rfl
theorem RelO.getD{o:Option V}{u:Option bp}{d:V}{d':bp}(r:RelO o u)(rd:RelV d d'):RelV (o.getD d) (u.getD d'):=by
 cases o with
 |none=>cases u with
  |none=>exact rd
  |some _=>exact(show False from r).elim
 |some _=>cases u with
  |none=>exact(show False from r).elim
  |some _=>exact r
theorem KV.val{kvs:List (κ×V)}{vs:List (κ×bp)}(r:KV kvs vs)(k:κ):RelO (d9 kvs k) (valueAt vs k):=by
 unfold KV at r;induction r with
 |nil=>exact om
 | @cons p q ps qs h t ih=>
  obtain⟨h1,h2⟩:=h;by_cases e:p.1=k
  ·have e':q.1=k:=h1.symm.trans e;have b:valueAt (q::qs) k=some q.2:=by simp[valueAt,rh,e']
   rw[sE e,b];exact h2
  ·have e':¬ q.1=k:=fun z=>e (h1.trans z);have b:valueAt (q::qs) k=valueAt qs k:=by simp[valueAt,rh,e']
   rw[uL e,b];exact ih
theorem KV.any{kvs:List (κ×V)}{vs:List (κ×bp)}(r:KV kvs vs)(k:κ):(kvs.any fun kv=>decide (kv.1=k))=vs.any fun kv=>decide (kv.1=k):=by
 unfold KV at r;induction r with
 |nil=>rfl
 |cons h t ih=>rw[any_cons,any_cons,ih,h.1]
theorem KV.repl{kvs:List (κ×V)}{vs:List (κ×bp)}(r:KV kvs vs)(k:κ){y:V}{u:bp}(ry:RelV y u):
  KV (kvs.map fun kv=>if kv.1=k then (kv.1,y)else kv) (vs.map fun kv=>if kv.1=k then (kv.1,u)else kv):=by
 unfold KV at r ⊢;induction r with
 |nil=>exact .nil
 | @cons p q ps qs h t ih=>
  rw[fm,fm];refine .cons ?_ ih;obtain⟨h1,h2⟩:=h;by_cases e:p.1=k
  ·rw[cg e,cg (h1.symm.trans e)];exact⟨h1,ry⟩
  ·rw[cf e,cf (fun z=>e (h1.trans z))];exact⟨h1,h2⟩
theorem KV.put{kvs:List (κ×V)}{vs:List (κ×bp)}(r:KV kvs vs)(k:κ){y:V}{u:bp}(ry:RelV y u):KV (cJ kvs k y) (stored vs k u):=by
 unfold cJ stored;rw[r.any k];by_cases e:(vs.any fun kv=>decide (kv.1=k))=true
 ·rw[cg e,cg e];exact r.repl k ry
 ·rw[cf e,cf e];exact Paired.snoc r ⟨rfl,ry⟩
theorem KV.length{kvs:List (κ×V)}{vs:List (κ×bp)}(r:KV kvs vs):kvs.length=vs.length:=Paired.length r
end
theorem rQ{P:gc}{w:gy}{k:Key}{u:bp}(r:RelV (kV k) u):(cX P w).is k u=true:=by
 cases k with
 |inl i=>obtain⟨t,e⟩:=(show ∃t,u=rl i t from r);subst e;exact IY P w i t
 |inr x=>obtain⟨t,e⟩:=(show ∃t,u=Value.str x t from r);subst e;exact Fi P w x t
theorem B0{P:gc}{w:gy}:∀{ks:List Key}{us:List bp},Vals (ks.map kV) us->ItemsAre (cX P w) ks us
 | [],_,r=>by rw[map_nil]at r;cases r;exact .nil
 |k::ks,_,r=>by
  rw[fm]at r;cases r with
  |cons h t=>exact .cons (rQ h) (B0 t)
abbrev KT (H:Hp):List (List Key×V)->List (List Key×Addr×bp)->Prop:=Paired fun p q=>p.1=q.1/\H q.2.1=some (.tup (p.1.map kV))/\RelV p.2 q.2.2
theorem KT.val{H:Hp}{kvs:List (List Key×V)}{xs:List (List Key×Addr×bp)}(r:KT H kvs xs)(k:List Key):RelO (d9 kvs k) ((atKey xs k).map (·.2)):=by
 induction r with
 |nil=>exact om
 | @cons p q ps qs h t ih=>
  obtain⟨h1,_,h2⟩:=h;by_cases e:p.1=k
  ·have e':q.1=k:=h1.symm.trans e;have b:atKey (q::qs) k=some q.2:=by simp[atKey,rh,e']
   rw[sE e,b];exact h2
  ·have e':¬ q.1=k:=fun z=>e (h1.trans z);have b:atKey (q::qs) k=atKey qs k:=by simp[atKey,rh,e']
   rw[uL e,b];exact ih
theorem KT.repl{H:Hp}{kvs:List (List Key×V)}{xs:List (List Key×Addr×bp)}(r:KT H kvs xs)(k:List Key){y:V}{u:bp}(ry:RelV y u):
  KT H (kvs.map fun kv=>if kv.1=k then (kv.1,y)else kv) (xs.map (putAt k u)):=by
 induction r with
 |nil=>exact .nil
 | @cons p q ps qs h t ih=>
  rw[fm,fm];refine .cons ?_ ih;obtain⟨h1,h2,h3⟩:=h;unfold putAt;by_cases e:p.1=k
  ·rw[cg e,cg (h1.symm.trans e)];exact⟨h1,h2,ry⟩
  ·rw[cf e,cf (fun z=>e (h1.trans z))];exact⟨h1,h2,h3⟩
theorem KT.put{H:Hp}{kvs:List (List Key×V)}{xs:List (List Key×Addr×bp)}(r:KT H kvs xs)(k:List Key){b:Addr}{y:V}{u:bp}(hb:H b=some (.tup (k.map kV)))(ry:RelV y u):
  KT H (cJ kvs k y) (storedH xs k b u):=by
 have e:(kvs.any fun kv=>decide (kv.1=k))=(atKey xs k).isSome:=by
  rw[DB,(r.val k).isSome_eq,Option.isSome_map]
 unfold cJ storedH;rw[e];by_cases q:(atKey xs k).isSome=true
 ·rw[cg q,cg q];exact r.repl k ry
 ·rw[cf q,cf q];exact Paired.snoc r ⟨rfl,hb,ry⟩
theorem KT.keeps{H H':Hp}{kvs:List (List Key×V)}{xs:List (List Key×Addr×bp)}(r:KT H kvs xs)(ht:∀b ys,H b=some (.tup ys)->H' b=some (.tup ys)):KT H' kvs xs:=
 Paired.mapP r fun _ _ z=>⟨z.1,ht _ _ z.2.1,z.2.2⟩
section
variable {P:gc}{w:gy}{H:Hp}{h:Heap}{a:Addr}
theorem C7{u:HO}(ok:HOk P w H h)(e:Rd H a u):ObjOk P w H h a u:=e.ok ok
theorem tZ{kvs:List (Key×V)}(ok:HOk P w H h)(e:Rd H a (.dK kvs)):kvs.length<=fe/\(a==kf)=false/\∃vs,KV kvs vs/\h.DictOf (cX P w) a vs:=
 show ObjOk P w H h a (.dK kvs)from C7 ok e
theorem JH{kvs:List (Key×V)}(ok:HOk P w H h)(e:H a=some (.dK kvs)):kvs.length<=fe/\(a==kf)=false/\∃vs,KV kvs vs/\h.DictOf (cX P w) a vs:=tZ ok (.inl e)
theorem tH{ks:List Key}(ok:HOk P w H h)(e:H a=some (.tup (ks.map kV))):(tupleKind (cX P w)).is h ks a:=by
 obtain⟨_,q,r,o,h1,h2,n,h3⟩:=(show ObjOk P w H h a (.tup (ks.map kV))from ok a _ e);exact⟨o,q.toArray,n,h1,h2,h3,by simpa using B0 r⟩
theorem uT{kvs:List (List Key×V)}(ok:HOk P w H h)(e:Rd H a (.dT kvs)):kvs.length<=fe/\(a==kf)=false /\
  ∃xs,KT H kvs xs/\h.DictOfH (tupleKind (cX P w)) a xs:=by
 obtain⟨z,y,xs,r,o,es,ep,h1,h2,h3,h4,h5⟩:=(show ObjOk P w H h a (.dT kvs)from C7 ok e);refine⟨z,y,xs,r,o,es,ep,h1,h2,h3,h4,fun x hx=>?_,h5⟩;have all:∀{l:List (List Key×V)}{m:List (List Key×Addr×bp)},KT H l m->∀x∈m,(tupleKind (cX P w)).is h x.1 x.2.1:=by
  intro l m q;induction q with
  |nil=>intro x hx;exact nomatch hx
  | @cons p q ps qs hq t ih=>
   intro x hx;rcases mem_cons.mp hx with e|hx
   ·subst e;exact tH ok (by rw[<- hq.1];exact hq.2.1)
   ·exact ih x hx
 exact all r x hx
theorem HH{kvs:List (List Key×V)}(ok:HOk P w H h)(e:H a=some (.dT kvs)):kvs.length<=fe/\(a==kf)=false /\
  ∃xs,KT H kvs xs/\h.DictOfH (tupleKind (cX P w)) a xs:=uT ok (.inl e)
end
def DGet(H:Hp)(a:Addr)(y:V)(r:Option V):Prop:=
 (∃kvs k,Rd H a (.dK kvs)/\y=kV k/\r=d9 kvs k)\/∃kvs k b,Rd H a (.dT kvs)/\y=.ref b/\H b=some (.tup (k.map kV))/\r=d9 kvs k
def DPut(H:Hp)(a:Addr)(y v:V)(H':Hp):Prop:=
 (∃kvs k,H a=some (.dK kvs)/\y=kV k/\kvs.length<fe/\H'=upd H a (.dK (cJ kvs k v))) \/
 ∃kvs k b,H a=some (.dT kvs)/\y=.ref b/\H b=some (.tup (k.map kV))/\kvs.length<fe/\H'=upd H a (.dT (cJ kvs k v))
theorem DPut.k{H:Hp}{a:Addr}{kvs:List (Key×V)}{k:Key}{v:V}(e:H a=some (.dK kvs))(hl:kvs.length<fe):DPut H a (kV k) v (upd H a (.dK (cJ kvs k v))):=.inl ⟨kvs,k,e,rfl,hl,rfl⟩
theorem DPut.t{H:Hp}{a b:Addr}{kvs:List (List Key×V)}{k:List Key}{v:V}(e:H a=some (.dT kvs))(eb:H b=some (.tup (k.map kV)))(hl:kvs.length<fe):
  DPut H a (.ref b) v (upd H a (.dT (cJ kvs k v))):=.inr ⟨kvs,k,b,e,rfl,eb,hl,rfl⟩
section
variable {X:Cx}{zk:List (Addr×Obj)}{σ:St}{H:Hp}{s:bq}{a:Addr}{y v:V}{u r:bp}{o:Option V}{A:ip}{E:bp->bq->Prop}
theorem Inv.big(I:Inv X zk σ H s):kf<s.heap.objs.size:=by
 have h:lw<s.heap.objs.size:=(I.mod.glob.keeps I.bk).lt;exact Nat.lt_trans dz h
theorem BC{h':Heap}{t':Nat}{ob:HO}(I:Inv X zk σ H s)(mu:Mut (H a))(hs:iu a s.heap h')(he:∃q,h'.get? a=some q)(aa:ObjOk X.prog X.w (upd H a ob) h' a ob):
  Inv X zk σ (upd H a ob) { s with heap:=h',toks:=t' } :=
 I.write (x:=a) (e:=a) mu (.inl rfl) (fun b q hb z=>(hs.2 b hb).trans z) he aa
theorem Kv{P:gc}{w:gy}{H':Hp}{h':Heap}{kvs:List (Key×V)}{vs:List (Key×bp)}(z:kvs.length<=fe)(hd:(a==kf)=false)(q:KV kvs vs)(dd:h'.DictOf (cX P w) a vs):
  ObjOk P w H' h' a (.dK kvs):=⟨z,hd,vs,q,dd⟩
theorem Kk{H':Hp}{Q:Unit->bq->Prop}(hu:A.units+1<qt)(I:Inv X zk σ H s)(g:DPut H a y v H')(ry:RelV y u)(rv:RelV v r)(h:∀s',Inv X zk σ H' s'->Q () s'):
  dh (model X.prog X.w) A (setItem (.ref a) u r) Q E s:=by
 rcases g with ⟨kvs,k,e,ey,l,eH⟩|⟨kvs,k,b,e,ey,eb,l,eH⟩
 ·subst ey eH;obtain⟨z,hd,vs,aa,dd⟩:=JH I.hok e;have hz:vs.length<=fe:=by rw[<- aa.length];exact z
  have hl:(cJ kvs k v).length<=fe:=by have:=AO kvs k v;omega
  refine wpAny_setItem_pairs (hsz:=hz) (rQ ry) dd fun h' ab hs=>h _ ?_;have he:∃q,h'.get? a=some q:=let ⟨q,_,_,hq,_⟩:=ab;⟨q,hq⟩;exact BC I (by rw[e];exact om) hs he (Kv hl hd (aa.put k rv) ab)
 ·subst ey eH;cases (show u=ga b from ry);obtain⟨z,hd,xs,aa,dd⟩:=HH I.hok e;have hz:xs.length<=fe:=by rw[<- Paired.length aa];exact z
  have hl:(cJ kvs k v).length<=fe:=by have:=AO kvs k v;omega
  refine wpAny_setItem_heap (hsz:=hz) (tupleKind_room_in1 hu) (tH I.hok eb) dd fun h' ab hs=>h _ ?_;obtain⟨q,es,ep,hq,h2,h3,h4,_,h5⟩:=ab;refine BC I (by rw[e];exact om) hs ⟨q,hq⟩ ⟨hl,hd,_,(aa.put k eb rv).keeps fun c ys ec=>?_,q,es,ep,hq,h2,h3,h4,h5⟩;rw[zZ (GH ec e (fun z=>nomatch z))];exact ec
end
def Bt(td ty tv:TE):TS:=fun D σ H=>tv σ H fun v H1=>td σ H1 fun x H2=>ty σ H2 fun y H3=>∃a H4,x=.ref a/\DPut H3 a y v H4/\D.nx σ H4
section
variable {X:Cx}{o i e value:Expr}{pos pos' tpos:Pos}{td ty tv:TE}
theorem Hm(hu:X.A.units+1<qt)(ho:PE X o td)(hi:PE X i ty)(hv:PE X value tv)(hs:swapsWith value (some (.Subscript o i pos')) pos.line X.env=pure false):
  PS X (.Assign [.Subscript o i pos'] value pos) (Bt td ty tv):=by
 intro zk s σ H D I h;refine wpAny_Assign_Subscript (thn (hv zk s σ H _ I h) fun r s1 ⟨v,H1,I1,rv,q1⟩=>thn (ho zk s1 σ H1 _ I1 q1) fun u s2 ⟨x,H2,I2,rx,q2⟩=>thn (hi zk s2 σ H2 _ I2 q2) fun iv s3 ⟨y,H3,I3,ry,a,H4,ex,g,q3⟩=>?_) hs;subst ex;obtain rfl:u=ga a:=rx;exact Kk hu I3 g ry rv fun s4 I4=>⟨σ,H4,I4,q3⟩
end
theorem Fm{P:gc}{w:gy}{H:Hp}(h:Heap)(hb:kf<h.objs.size):ObjOk P w H (h.push { cls:=.type "dict",data:=.dict #[] }) h.objs.size (.dK []):=
 ⟨lc _,beq_eq_false_iff_ne.mpr (jg (ig hb)),[],.nil,Heap.DictOf.new h⟩
theorem Ff{P:gc}{w:gy}{H:Hp}(h:Heap)(hb:kf<h.objs.size):ObjOk P w H (h.push { cls:=.type "dict",data:=.dict #[] }) h.objs.size (.dT []):=
 ⟨lc _,beq_eq_false_iff_ne.mpr (jg (ig hb)),[],.nil,_,#[],0,fj _ rfl,⟨rfl,rfl,rfl⟩,rfl,rfl,nodup_nil⟩
def DP:TE:=fun _ H Q=>∀p,H p=none->Q (.ref p) (upd H p (.dK []))
def CL:TE:=fun _ H Q=>∀p,H p=none->Q (.ref p) (upd H p (.dT []))
section
variable {X:Cx}{pos:Pos}
theorem FZ:PE X (.Dict [] [] pos) DP:=fun zk s σ H Q I h=>
 wpAny_Dict_empty ⟨.ref s.heap.objs.size,_,I.laid (a:=s.heap.objs.size) (o:=.dK []) (t':=s.toks) (fun _ _ q=>cp _ q) (ff _) (Fm s.heap I.big),rfl,h _ (I.hok.fresh (ff _))⟩
theorem JP:PE X (.Dict [] [] pos) CL:=fun zk s σ H Q I h=>
 wpAny_Dict_empty ⟨.ref s.heap.objs.size,_,I.laid (a:=s.heap.objs.size) (o:=.dT []) (t':=s.toks) (fun _ _ q=>cp _ q) (ff _) (Ff s.heap I.big),rfl,h _ (I.hok.fresh (ff _))⟩
end
structure M1(X:Cx)(o:Expr)(m:Str)(apos:Pos)(e:Expr)(cpos:Pos):Prop where
 base:attributeBase o m X.env (eval o X.env)=eval o X.env
 few:((sj cpos (gx [e] X.env)).all (fun x=>!x.1)&&(backToKw cpos (keywordEach [] X.env)).all (fun x=>x.1.isSome)
  && decide (([e]:List Expr).length+([]:List Keyword).length+(if ([]:List Keyword).isEmpty then 0 else 1)<30))=true
 line:(apos.endLine==cpos.line)=true
 trees:sj cpos (gx [e] X.env)=[(false,eval e X.env)]
structure M2(X:Cx)(o:Expr)(m:Str)(apos:Pos)(e f:Expr)(cpos:Pos):Prop where
 base:attributeBase o m X.env (eval o X.env)=eval o X.env
 few:((sj cpos (gx [e,f] X.env)).all (fun x=>!x.1)&&(backToKw cpos (keywordEach [] X.env)).all (fun x=>x.1.isSome)
  && decide (([e,f]:List Expr).length+([]:List Keyword).length+(if ([]:List Keyword).isEmpty then 0 else 1)<30))=true
 line:(apos.endLine==cpos.line)=true
 trees:sj cpos (gx [e,f] X.env)=[(false,eval e X.env),(false,eval f X.env)]
def obO(a:Addr)(ob:Obj):HO:=.ext fun h=>h.get? a=some ob
def IsD(H:Hp)(a:Addr):Prop:=(∃kvs,Rd H a (.dK kvs))\/(∃kvs,Rd H a (.dT kvs))\/∃ob,H a=some (obO a ob)/\ob.ExactDict/\(a==kf)=false
theorem AK{X:Cx}{zk:List (Addr×Obj)}{σ:St}{H:Hp}{s:bq}{a:Addr}(I:Inv X zk σ H s)(d:IsD H a):
  s.TypeIs (.ref a) "dict"/\(∀b,ga a=.ref b->∃ob,s.heap.get? b=some ob/\ob.dict=none)/\(a==kf)=false:=by
 rcases d with ⟨kvs,e⟩|⟨kvs,e⟩|⟨ob,e,hx,hd⟩
 rotate_left 2
 ·obtain⟨g,_,_⟩:=(show ObjOk X.prog X.w H s.heap a (obO a ob)from I.hok a _ e);exact⟨⟨ob,g,hx.1⟩,fun b q=>by cases q;exact⟨ob,g,hx.2.1⟩,hd⟩
 ·obtain⟨_,hd,vs,_,dd⟩:=tZ I.hok e;refine⟨dd.typeIs,fun b q=>?_,hd⟩;cases q;obtain⟨ob,_,_,h1,h2,_⟩:=dd;exact⟨ob,h1,h2.2.1⟩
 ·obtain⟨_,hd,xs,_,dd⟩:=uT I.hok e;refine⟨dd.typeIs,fun b q=>?_,hd⟩;cases q;obtain⟨ob,_,_,h1,h2,_⟩:=dd;exact⟨ob,h1,h2.2.1⟩
section
variable {X:Cx}{zk:List (Addr×Obj)}{σ:St}{H:Hp}{s:bq}{a:Addr}{y d:V}{u r:bp}{o:Option V}{A:ip}{E:bp->bq->Prop}
theorem G8{Q:bp->bq->Prop}(hu:A.units+1<qt)(I:Inv X zk σ H s)(g:DGet H a y o)(ry:RelV y u)(rd:RelV d r)(h:∀w' s',Inv X zk σ H s'->RelV (o.getD d) w'->Q w' s'):
  dh (model X.prog X.w) A (call (.builtin "dict.get") [.ref a,u,r]) Q E s:=by
 rcases g with ⟨kvs,k,e,ey,l⟩|⟨kvs,k,b,e,ey,eb,l⟩
 ·subst ey;obtain⟨z,hd,vs,q,dd⟩:=tZ I.hok e;refine call_meetsIn PySem.F.slot_dict_get dd.typeIs PySem.F.entry_dict_get (PySem.F.args_dict_get_3 _ _ _) (meets_dict_get_default (cX X.prog X.w) a (rQ ry) hd r) ⟨_,dd.mapOf,h _ _ (I.tok _) ?_⟩;rw[l];exact(q.val k).getD rd
 ·subst ey;cases (show u=ga b from ry);obtain⟨z,hd,xs,q,dd⟩:=uT I.hok e;refine call_meetsIn PySem.F.slot_dict_get dd.typeIs PySem.F.entry_dict_get (PySem.F.args_dict_get_3 _ _ _) (meetsH_dict_get_default (tupleKind (cX X.prog X.w)) a b hd r) ⟨tupleKind_room_in1 hu,k,xs,tH I.hok eb,dd,h _ _ (I.tok _) ?_⟩;rw[l];exact(q.val k).getD rd
end
def EM(td ty tx:TE):TE:=fun σ H Q=>td σ H fun x H1=>∃a,x=.ref a/\IsD H1 a/\ty σ H1 fun y H2=>tx σ H2 fun z H3=>∃o,DGet H3 a y o/\Q (o.getD z) H3
section
variable {X:Cx}{o e f:Expr}{apos cpos:Pos}{td ty tx:TE}
theorem v3(hu:X.A.units+1<qt)(ho:PE X o td)(he:PE X e ty)(hf:PE X f tx)(m:M2 X o "get" apos e f cpos):PE X (.Call (.Attribute o "get" apos) [e,f] [] cpos) (EM td ty tx):=by
 intro zk s σ H Q I h;refine wpAny_Call_method m.base m.few m.line PySem.F.plainAttrs_dict PySem.F.slot_dict_get PySem.F.type_dict_get (thn (ho zk s σ H _ I h) fun u s1 ⟨x,H1,I1,rx,a,ex,d,q1⟩=>?_);subst ex;obtain rfl:u=ga a:=rx;obtain⟨t1,t2,_⟩:=AK I1 d;refine⟨t1,t2,?_⟩;rw[m.trees];refine Calls.callWith_builtin rfl (Calls.evalArgs_plain (pk (thn (he zk s1 σ H1 _ I1 q1) fun iv s2 ⟨y,H2,I2,ry,q2⟩=>
  pk (thn (hf zk s2 σ H2 _ I2 q2) fun fv s3 ⟨z,H3,I3,rz,ov,g,q3⟩=>Calls.spliced_nil ?_))))
 exact G8 hu I3 g ry rz fun w' s4 I4 q=>⟨_,H3,I4,q,q3⟩
end
end
end L2
namespace Att
open PySem PySem.W PySem.Calls PyProof.Rows
theorem GJ{P:Params}{h:Heap}:∀(ns:List Int) (vs:List bp),WellAll P h vs (ns.map WData.int)->ll vs ns:=by
 intro ns;induction ns with
 |nil=>
  intro vs w;rw[map_nil]at w;cases w;exact .nil
 |cons n ns ih=>
  intro vs w;rw[fm]at w;cases w with
  |cons a b=>
   cases a;exact .cons _ _ (ih _ b)
theorem K8{l:OpenLaw}{n:Nat}(hn:l.most=some n){P:Params}{h:Heap}{args:List WData}{aa:List bp}
  (hpre:l.row.toRowW.claim.pre args=true) (hwl:WellAll P h aa args):
  ∃a vs ns,aa=[ga a]/\args=[WData.list (ns.map WData.int)]/\h.get? a=some { cls:=.type "list",data:=.seq vs.toArray }/\ll vs ns/\ns.length<=n:=by
 have ac:WShape.hasAll [] args [.list .int]=true:=(pre_splitW hpre).1;have hc:l.pre.holds [] { args:=args } = true:=(pre_splitW hpre).2;obtain⟨d,r,rfl,h1,h2⟩:=hasAllW_cons ac;obtain rfl:=hasAllW_nil h2;obtain⟨xs,rfl,h3⟩:=hasW_list h1;obtain⟨ns,rfl⟩:=items_int h3;have ab:ns.length<=n:=by
  unfold OpenLaw.pre at hc;have h4:(WTm.not (.lt (.lit (.int (n:Int))) (.len (.arg 0)))).holds [] { args:=[.list (ns.map .int)] } = true:=by
   have h4:=(holds_andW hc).1;rw[hn]at h4;exact h4
  have h5:=condW_of h4 (w_not (w_lt w_lit (w_len_list (w_arg rfl))));rw[fw]at h5;refine Nat.le_of_not_lt fun q=>?_;have q':(n:Int)<((ns.length:Nat):Int):=yw
  first
   | (rw[ge q']at h5;exact absurd h5 dz)
   | (simp at h5;omega)
 cases hwl with
 |cons w1 w2=>
  cases w2;cases w1 with
  |list ho hall=>exact⟨_,_,ns,rfl,rfl,ho,GJ ns _ hall,ab⟩
theorem Gv(l:OpenLaw)(args:List WData):l.row.toRowW.claim.post args (.bool true) args=true:=
 postW_of (r:=l.row.toRowW) (X:=(true==true))
  (show WShape.has [] (.bool true) .bool=true by first|rfl|decide|simp[WShape.has,WShape.arms,WShape.armsAll])
  (show (WTm.eq .res (.lit (.bool true))).value [] { args:=args,res:=some (.bool true),after:=args } = some (.bool (true==true))from w_eq_bool (w_res rfl) w_lit) rfl
theorem attach_call{l:OpenLaw}{n:Nat}{q:gc}{aa:List Str}{XP:(Str->Option bp)->Heap->Prop}{YP:gy->Heap->Prop}{d:DefRec}
  (hn:l.most=some n) (hdf:d.params.defaults=[])
  (call:∀(w:gy) (s₀ s₁:bq) (mg mb:Str->Option bp) (fa:Addr) (o:Obj) (pm cd ab:bp) (a:Addr) (vs:List bp) (ns:List Int),
   Ground q aa [] XP w s₀ mg mb s₁.heap->YP w s₁.heap ->
   s₁.heap.get? fa=some o->o.data=.func (docDef d.name d.params d.body d.scope pm cd ab)->s₁.heap.CodeRec cd d.name->mg d.name=some (.ref fa) ->
   s₁.heap.get? a=some { cls:=.type "list",data:=.seq vs.toArray }->ll vs ns->ns.length<=n->s₁.gens = #[] ->
   codeAny (model l.prog w) callerA (.call (.ref fa) ⟨[.ref a],[]⟩) (fun r s'=>r=.ok (.ret (.bool true))/\OldK s₁.heap s'.heap/\s'.os=s₁.os/\AllBare s'.gens) s₁):
  WalkO q aa XP YP l.row.toRowW d [] (fun f vs=>PySem.call f vs):=by
 intro w s₀ s₁ mg mb G Y fa o pm cd ab dV kV ho hd ah hD aj hg args ak as af al am ai an;obtain rfl:dV=.none:=Dflts.none hD hdf;obtain rfl:kV=.none:=Dflts.noKw hD;obtain⟨a,vs,ns,rfl,rfl,ag,ac,ae⟩:=K8 hn af ai;refine enter_call (codeAny_mono (call w s₀ s₁ mg mb fa o pm cd ab a vs ns G Y ho (fd_plain hd) ah aj ag ac ae hg) fun r s' hq=>?_);obtain⟨rfl,h2,h3,h4⟩:=hq;exact⟨.inl ⟨.bool true,.bool true,[],rfl,fun _=>rfl,.bool true,Gv l _,fun _=>⟨List.Pairwise.nil,fun _ hm=>(nomatch hm)⟩⟩,h2,h3,h4⟩
end Att
namespace L2
open PySem PySem.Spec PyProof.Rows
section
theorem A9:∀{vs:List bp}{ns:List Int},ll vs ns->Vals (ns.map V.int) vs
 |_,_,.nil=>.nil
 |_,_,.cons n t h=>.cons ⟨t,rfl⟩ (A9 h)
def Only(H:Hp):Prop:=∀b,H b=none\/(∃o xs,H b=some (.frz o (.lst xs)))\/∃q∈tabsG,q.1.2=b/\H b=some (.tbl q.2)
def eT(b:Addr):Option HO:=(tabsG.find? fun q=>q.1.2==b).map fun q=>.tbl q.2
theorem lL{b:Addr}{u:HO}(e:eT b=some u):∃q∈tabsG,q.1.2=b/\u=.tbl q.2:=by
 unfold eT at e;cases h:tabsG.find? fun q=>q.1.2==b with
 |none=>rw[h]at e;cases e
 |some q=>
  rw[h]at e;cases e;exact⟨q,List.mem_of_find?_eq_some h,by simpa using List.find?_some h,rfl⟩
theorem Ht{l:List ((Addr×Addr)×Array bp)}(nd:(l.map fun q=>q.1.2).Nodup){q:(Addr×Addr)×Array bp}(h:q∈l):l.find? (fun r=>r.1.2==q.1.2)=some q:=by
 induction l with
 |nil=>cases h
 |cons p l ih=>
  rw[fm,nodup_cons]at nd;rcases mem_cons.mp h with e|e
  ·subst e;simp
  ·have ne:¬ p.1.2=q.1.2:=fun z=>nd.1 (by rw[z];exact me (f:=fun q:(Addr×Addr)×Array bp=>q.1.2) e);rw[List.find?_cons_of_neg (by simpa using ne)];exact ih nd.2 e
theorem DW(nd:(tabsG.map fun q=>q.1.2).Nodup){q:(Addr×Addr)×Array bp}(h:q∈tabsG):eT q.1.2=some (.tbl q.2):=by
 unfold eT;rw[Ht nd h];rfl
structure TabsOk(K:cy)(h:Heap):Prop where
 nd:(tabsG.map fun q=>q.1.2).Nodup
 hd:∀q∈tabsG,W.CodeHd h q.1.1 q.1.2
 empty:∀q∈tabsG,h.get? q.1.2=some (W.tabObj #[])
 off:∀q∈tabsG,K.lookup q.1.2=none
theorem TabsOk.none{K:cy}{h:Heap}(e:tabsG=[]):TabsOk K h:=⟨by rw[e];exact nodup_nil,fun q z=>absurd z (by rw[e];simp),fun q z=>absurd z (by rw[e];simp),fun q z=>absurd z (by rw[e];simp)⟩
theorem Gr{P:gc}{w:gy}{K:cy}{mg mb:Str->Option bp}{CX:CXT}{k:Nat}{fa a:Addr}{fd:qf}{x:Str}{sp:Sp}{s₁:bq}{vs:List bp}{ns:List Int}
  (KX:K.In s₁.heap) (TT:TabsOk K s₁.heap) (hbm:BltAt s₁.heap mg) (hns:s₁.heap.Ns lw mg) (hb:s₁.heap.Ns builtinsNs mb) (hbb:∀x:Str,x ≠ "__name__"->mb x=iq x) (hlim:s₁.heap.NoLimit) (hg:s₁.gens = #[])
  (ha:s₁.heap.get? a=some { cls:=.type "list",data:=.seq vs.toArray }) (hi:ll vs ns) (hl:ns.length<=fe) (hr:Room k callerA)
  (F:∀base:Heap,K.In base->base.Ns lw mg->FnOk P w K mg base CX k fa fd [x] sp) (hbind:∀(s:bq) (u:bp),BindsTo s fd ⟨[u],[]⟩ [(x,u)])
  (hsp:∀H:Hp,Only H->SqL K H a (ns.map V.int)->sp [.ref a] H (fun v _=>v=.bl true) fun _ _ _=>False)
  (hCX:∀H e s',CX [] H s₁ (fun _ _ _=>False) e s'->False):
  codeAny (model P w) callerA (.call (.ref fa) ⟨[.ref a],[]⟩) (fun r s'=>r=.ok (.ret (.bool true))/\OldK s₁.heap s'.heap/\s'.os=s₁.os/\AllBare s'.gens) s₁:=by
 have rv:=A9 hi;have ag:=hi.length
 have af:∀H:Hp,Only H->SqL K H a (ns.map V.int)->HOk P w H s₁.heap->(∀b,H b≠none->b=a\/∃q∈tabsG,q.1.2=b)->(H a≠none->K.lookup a=none)->(∀q∈tabsG,H q.1.2=some (.tbl q.2)) ->
   codeAny (model P w) callerA (.call (.ref fa) ⟨[.ref a],[]⟩) (fun r s'=>r=.ok (.ret (.bool true))/\OldK s₁.heap s'.heap/\s'.os=s₁.os/\AllBare s'.gens) s₁:=by
  intro H hO hS hok hA hK aj;have al:∀{b:Addr}{o:Obj},s₁.heap.get? b=some o->o.cls≠.type "list"->o.cls≠.none->H b=none:=fun {b o} e c1 c2=>by
   cases q:H b with
   |none=>rfl
   |some u=>
    rcases hA b (by rw[q];simp)with e'|⟨r,aa,e'⟩
    ·subst e';rw[ha]at e;cases e;exact absurd rfl c1
    ·have:=TT.empty r aa;rw[e',e]at this;cases this;exact absurd rfl c2
  have ab:∀{b:Addr}{o:Obj},s₁.heap.get? b=some o->H b=none->(hG s₁.heap H).get? b=some o:=fun e n=>Fj e n;have am:∀{b:Addr}{o:Obj}{es:Array DictEntry}{ep:Nat},s₁.heap.get? b=some o->o.data=.dict es ep->H b=none:=fun {b o es ep} e d=>by
   cases q:H b with
   |none=>rfl
   |some u=>
    rcases hA b (by rw[q];simp)with e'|⟨r,aa,e'⟩
    ·subst e';rw[ha]at e;cases e;have d':Data.seq vs.toArray _=Data.dict es ep:=d;cases d'
    ·have:=TT.empty r aa;rw[e',e]at this;cases this;cases d
  have ac:∀{b:Addr}{m:Str->Option bp},s₁.heap.Ns b m->(hG s₁.heap H).Ns b m:=fun {b m} ⟨o,es,ep,e,d,r⟩=>⟨o,es,ep,ab e (am e d),d,r⟩;have ai:K.In (hG s₁.heap H):=fun b o e=>ab (KX b o e) (by
   cases q:H b with
   |none=>rfl
   |some u=>
    rcases hA b (by rw[q];simp)with e'|⟨r,aa,e'⟩
    ·subst e';rw[hK (by rw[q];simp)]at e;cases e
    ·rw[<- e',TT.off r aa]at e;cases e)
  have hM:Mod K mg (hG s₁.heap H):=⟨ai,ac hns,⟨mb,ac hb,hbb⟩,let ⟨mc,h1,h2⟩:=hlim;⟨mc,ac h1,h2⟩,
   let ⟨bm,ob,b1,b2,b3,b4,b5⟩:=hbm;⟨bm,ob,b1,b2,ab b3 (al b3 (by rw[b4];decide) (by rw[b4];decide)),b4,b5⟩,
   fun q hq=>let ⟨o,vs,file,tf,flags,tg,inF,text,tt,e1,c1,r⟩:=TT.hd q hq;⟨o,vs,file,tf,flags,tg,inF,text,tt,ab e1 (al e1 (by rw[c1];decide) (by rw[c1];decide)),c1,r⟩⟩
  have e0:Env0 P w K mg (hG s₁.heap H) callerA [] s₁ H:=⟨rfl,hM,fun b o e=>Fd e,Nat.le_of_eq (LR _ _),trivial,⟨fun b hb=>absurd (show b∈([]:List Addr)from hb) yv,aj⟩,hok,.of_eq hg⟩;refine codeAny_mono ((F _ ai (ac hns)).run callerA [] s₁ H ⟨[.ref a],[]⟩ [.ref a] [.ref a] _ _ hr e0 (hbind s₁ (.ref a)) (.cons rfl .nil) (hsp H hO hS)) fun r s' h=>?_;cases r with
  |error e=>exact(hCX H e s' h).elim
  |ok fl=>
   cases fl with
   |next=>exact ph h
   |brk=>exact ph h
   |cont=>exact ph h
   |ret u=>
    obtain⟨v,H',os,bare,un,ae,r',q⟩:=h;have q':v=.bl true:=q;subst q';obtain rfl:u=Value.bool true:=r';have all:∀b o,s₁.heap.get? b=some o->s'.heap.get? b=some o\/∃q∈tabsG,q.1.2=b/\o=W.tabObj #[]/\∃ps,s'.heap.get? b=some (W.tabObj ps):=fun b o e=>by
     cases q:H b with
     |none=>exact .inl (un.keep b o e q (by intro z;exact absurd (show b∈([]:List Addr)from z) yv) yv)
     |some u=>
      rcases hO b with z|⟨ob,xs,z⟩|⟨r,aa,e',z⟩
      ·rw[q]at z;cases z
      ·have z2:=un.frzs b ob _ z;obtain⟨e1,_⟩:=hok b _ z;obtain⟨e2,_⟩:=ae b _ z2;rw[e]at e1;cases e1;exact .inl e2
      ·obtain⟨qs,e2,_⟩:=ae b _ (un.tbls b _ z);have:=TT.empty r aa;rw[e',e]at this;cases this;exact .inr ⟨r,aa,e',rfl,qs,e2⟩
    refine⟨rfl,⟨fun b o e=>?_,fun b o e=>?_⟩,os,bare⟩
    ·rcases all b o e with z|⟨r,aa,rfl,rfl,ps,z⟩
     ·exact .inl z
     ·exact .inr (.inl ⟨((TT.hd r aa).tab (TT.empty r aa)).isCodeTable,rfl,#[],ps,rfl,by rw[Array.empty_append];exact z⟩)
    ·rcases all b o e with z|⟨r,aa,rfl,rfl,ps,z⟩
     ·exact⟨o,z⟩
     ·exact⟨_,z⟩
 have ak:∀q∈tabsG,q.1.2≠a:=fun q hq z=>by
  have:=TT.empty q hq;rw[z,ha]at this;cases this
 have ah:∀(H:Hp) (b:Addr) (u:HO),eT b=some u->ObjOk P w H s₁.heap b u:=fun H b u z=>by
  obtain⟨q,hq,rfl,rfl⟩:=lL z;exact⟨#[],TT.empty q hq,.inl rfl⟩
 cases hk:K.lookup a with
 |some o=>
  have e:=KX a o hk;rw[ha]at e;cases e;refine af eT (fun b=>?_) (.inr ⟨_,vs.toArray,_,hk,rfl,rfl,rfl,by rw[fh,ag];exact hl,by simpa using rv⟩) (ah eT) (fun b z=>?_) (fun z=>?_) fun q hq=>DW TT.nd hq
  ·cases q:eT b with
   |none=>exact .inl rfl
   |some u=>obtain⟨r,aa,e',rfl⟩:=lL q;exact .inr (.inr ⟨r,aa,e',rfl⟩)
  ·cases q:eT b with
   |none=>exact absurd q z
   |some u=>obtain⟨r,aa,e',_⟩:=lL q;exact .inr ⟨r,aa,e'⟩
  ·cases q:eT a with
   |none=>exact absurd q z
   |some u=>obtain⟨r,aa,e',_⟩:=lL q;exact absurd e' (ak r aa)
 |none=>
  refine af (fun b=>if b=a then some (.frz { cls:=.type "list",data:=.seq vs.toArray } (.lst (ns.map V.int)))else eT b) (fun b=>?_) (.inl (.inr ⟨{ cls:=.type "list",data:=.seq vs.toArray },cg rfl⟩)) (fun b u z=>?_) (fun b z=>?_) (fun _=>hk) fun q hq=>(cf (ak q hq)).trans (DW TT.nd hq)
  ·by_cases hb:b=a
   ·exact .inr (.inl ⟨_,_,cg hb⟩)
   ·cases q:eT b with
    |none=>exact .inl ((cf hb).trans q)
    |some u=>obtain⟨r,aa,e',rfl⟩:=lL q;exact .inr (.inr ⟨r,aa,e',(cf hb).trans q⟩)
  ·by_cases hb:b=a
   ·have z':=(cg hb).symm.trans z;cases z';subst hb;exact⟨ha,by rw[fw];exact hl,vs,_,rv,ha⟩
   ·have z':=(cf hb).symm.trans z;exact ah _ b u z'
  ·by_cases hb:b=a
   ·exact .inl hb
   ·cases q:eT b with
    |none=>exact absurd ((cf hb).trans q) z
    |some u=>obtain⟨r,aa,e',_⟩:=lL q;exact .inr ⟨r,aa,e'⟩
end
section
abbrev KOf {K:cy}{h:Heap} (_:K.In h):cy:=K
theorem walk_of{l:W.OpenLaw}{n k:Nat}{q:gc}{ab:List Str}{XP:(Str->Option bp)->Heap->Prop}{YP:gy->Heap->Prop}{d:DefRec}{K:Params->cy}{CX:gy->CXT}{sp:gy->Sp}{x:Str}
  (hn:l.most=some n) (hn2:n<=fe) (hdf:d.params.defaults=[]) (hr:Room k callerA)
  (hY:∀(w:gy) (h:Heap),YP w h->(K w.params).In h)
  (hT:∀(w:gy) (h:Heap),YP w h->TabsOk (K w.params) h)
  (F:∀(w:gy) (mg:Str->Option bp) (fa:Addr) (h:Heap),(K w.params).In h->h.Ns lw mg->mg d.name=some (.ref fa) ->
   ∃fd:qf,(∀(s:bq) (u:bp),BindsTo s fd ⟨[u],[]⟩ [(x,u)]) /\
    ∀base:Heap,(K w.params).In base->base.Ns lw mg->FnOk l.prog w (K w.params) mg base (CX w) k fa fd [x] (sp w))
  (hsp:∀(w:gy) (H:Hp) (a:Addr) (ns:List Int),ns.length<=n->Only H->SqL (K w.params) H a (ns.map V.int)->sp w [.ref a] H (fun v _=>v=.bl true) fun _ _ _=>False)
  (hCX:∀(w:gy) (H:Hp) (s:bq) (e:bp) (s':bq),CX w [] H s (fun _ _ _=>False) e s'->False):
  W.WalkO q ab XP YP l.row.toRowW d [] (fun f vs=>PySem.call f vs):=by
 refine Att.attach_call hn hdf fun w s₀ s₁ mg mb fa o pm cd ah a vs ns G Y ho hd ag af ae ac aa hg=>?_;have KX:=hY w _ Y;obtain⟨fd,hb,hF⟩:=F w mg fa _ KX G.T.g af;exact Gr KX (hT w _ Y) (let ⟨bm,ob,a1,a2,a3,a4,a5,a6⟩:=G.T.bmain;⟨bm,ob,a1,a2,a3,a4,a5,a6⟩) G.T.g G.T.b G.T.builtins G.T.nolimit hg ae ac (jn aa hn2) hr hF hb (fun H hO hS=>hsp w H a ns aa hO hS) fun H e s'=>hCX w H s₁ e s'
end
section
def jX(s:Stmt):Arguments:=match s with
 | .FunctionDef _ a _ _ _ _ _ _ _ _=>a
 |_=>{ posonlyargs:=[],args:=[],vararg:=none,kwonlyargs:=[],kw_defaults:=[],kwarg:=none,defaults:=[] }
def e8(s:Stmt):List Stmt:=match s with
 | .FunctionDef _ _ b _ _ _ _ _ _ _=>b
 |_=>[]
def zm(s:Stmt):Scope:=match s with
 | .FunctionDef _ _ _ _ _ _ sc _ _ _=>sc
 |_=>{ kind:=.function,names:=[],isGenerator:=false,isCoroutine:=false }
abbrev CX0:CXT:=fun _ _ _ _ _ _=>False
abbrev E0:XK:=fun _ _ _=>False
theorem pass0{X:Cx}:Passes CX0 X E0:=fun _ _ _ _ _ _ _ h=>h.elim
structure Fun(K:cy)(x qual:Str)(st:Stmt)(f:Addr)(fd:qf):Prop where
 ex:∃(oc:bp) (od:Option Addr) (kV doc pm:bp) (an:Option Addr) (cdv ct:bp) (osl:Array (Option bp)),
  fd=W.fnOf x qual (jX st) (e8 st) (zm st) .none kV doc pm an cdv ct/\K.lookup f=some ⟨oc,od,.func fd,osl⟩/\W.codeIn K cdv qual=true
 kp:W.keepIn K (.ref f)=true
section
variable {P:gc}{w:gy}{K:cy}{mg:Str->Option bp}{base:Heap}
theorem Fun.ok{x aa:Str}{st:Stmt}{f:Addr}{fd:qf}{N ps:List Str}{k:Nat}{sp:Sp}(F:Fun K x aa st f fd)(S:FnScope N ps (zm st))(len:∀vs H Q E,sp vs H Q E->vs.length=ps.length)
  (hbody:∀(ab:bp) (A:ip) (outer:List Env) (s:bq) (H:Hp) (vs:List V) (Q:VK) (E:XK),Room k (A.deeper (envOfC aa (zm st) s.heap.objs.size f ab))->sp vs H Q E ->
   ∃t,PSs (gA CX0 P w K mg base N aa (zm st) f ab A outer s H E).nox (e8 st) t/\t { nx:=fun _ H'=>Q .non H',rt:=Q } (start N vs) H):FnOk P w K mg base CX0 (k+1) f fd ps sp:=by
 obtain⟨oc,od,kV,af,pm,an,ab,ct,ag,rfl,lk,ac⟩:=F.ex;refine IV lk ac S len fun A outer s H vs Q E hr ae=>?_;obtain⟨t,h,q⟩:=hbody ab A outer s H vs Q E hr ae;exact⟨t,h.nox,q⟩
theorem Fun.binds{x q:Str}{st:Stmt}{f:Addr}{fd:qf}{ps:List Str}(F:Fun K x q st f fd)
  (h:∀(kV ab pm:bp) (an:Option Addr) (aa ct:bp) (us:List bp),us.length=ps.length->bindArgs (W.fnOf x q (jX st) (e8 st) (zm st) .none kV ab pm an aa ct) ⟨us,[]⟩=pure (ps.zip us)):Binds K fd ps []:=by
 obtain⟨oc,od,kV,ab,pm,an,aa,ct,ae,rfl,lk,ac⟩:=F.ex;exact .all (h kV ab pm an aa ct)
theorem Av{x q:Str}{st:Stmt}{f:Addr}{oc:bp}{od an:Option Addr}{ac:Array (Option bp)}{kV ab pm aa ct:bp}(l:K.lookup f=some ⟨oc,od,.func (W.fnOf x q (jX st) (e8 st) (zm st) .none kV ab pm an aa ct),ac⟩)
  (c:W.codeIn K aa q=true) (k:W.keepIn K (.ref f)=true):Fun K x q st f (W.fnOf x q (jX st) (e8 st) (zm st) .none kV ab pm an aa ct):=⟨⟨oc,od,kV,ab,pm,an,aa,ct,ac,rfl,l,c⟩,k⟩
end
theorem rC{A:ip}{k:Nat}(hr:Room k A):A.units+1<qt:=Nat.lt_of_le_of_lt (Nat.add_le_add_left (by decide:1<=64) _) hr.units
theorem small1000{n:Nat}(h:n<=1000):n<fe:=Nat.lt_of_le_of_lt h dz
section
variable {X:Cx}
theorem pv(i:Nat){x:Str}{pos:Pos}(hN:X.N[i]?=some x:=by rfl)(hv:Vis X.env.scope x:=by first|exact fy rfl|exact sk (fy rfl)|exact sk (sk rfl))(hd:(x==("__debug__":Str))=false:=by decide)
  (hcd:(x==("__classdict__":Str))=false:=by decide):PE X (.Name x pos) (gJ i):=Jt hN hv hd hcd
end
theorem iA{A B:Prop}(h:B):if false=true then A else B:=by
 rw[cf jh];exact h
theorem g9{A B:Prop}(h:A):if true=true then A else B:=by
 rw[cg rfl];exact h
theorem ite2{c A B:Prop}[Decidable c](h1:c->A)(h2:¬ c->B):if c then A else B:=by
 by_cases h:c
 ·rw[cg h];exact h1 h
 ·rw[cf h];exact h2 h
def Same(H H':Hp):Prop:=∀b o,H b=some o->H' b=some o
theorem Same.refl(H:Hp):Same H H:=fun _ _ h=>h
theorem Same.trans{H H1 H2:Hp}(a:Same H H1)(b:Same H1 H2):Same H H2:=fun c o h=>b c o (a c o h)
theorem Same.seq{K:cy}{H H':Hp}{a:Addr}{xs:List V}(e:Same H H')(h:SqL K H a xs):SqL K H' a xs:=by
 rcases h with (h|⟨o,h⟩)|h
 ·exact .inl (.inl (e _ _ h))
 ·exact .inl (.inr ⟨o,e _ _ h⟩)
 ·exact .inr h
end
section
section
variable {X:Cx}
def CDivX(i j:Int):Prop:=0<j/\j.natAbs.log2<9000
theorem KU:OpR X (lf .FloorDiv) (rI CDivX fun i j=>.int (i/j)):=opI fun i j _ _ _ _ _ hc q=>by
 have h1:(0:Int)<j:=hc.1;exact floordiv_int yw (by rw[Int.fdiv_eq_ediv_of_nonneg i yw];exact q) (.inl (PyProof.noPylong_of_log2 hc.2))
theorem HB:OpR X (lf .Mult) (rI IntMulOk fun i j=>.int (i*j)):=opI fun _ _ _ _ _ _ _ hc q=>mul_int q hc
theorem BU{k:Int}{n:Nat}(h:k.natAbs<2 ^ n):Builtin.Int.intBits k<=n:=by
 unfold Builtin.Int.intBits;split
 ·exact lc _
 ·rename_i h0;have hk:k.natAbs≠0:=by
   intro z;apply h0;rw[Int.natAbs_eq_zero.mp z];rfl
  have:=(Nat.log2_lt hk).mpr h;omega
theorem LZ{i j:Int}(n m:Nat)(hi:i.natAbs<2 ^ n)(hj:j.natAbs<2 ^ m)(hn:n<=2 ^ 20:=by decide)(hm:m<=2 ^ 20:=by decide):IntMulOk i j:=
 .of_bits (jn (BU hi) hn) (jn (BU hj) hm)
theorem gP{i j:Int}(h1:-(2 ^ 64)<i)(h2:i<2 ^ 64):IntMulOk i j:=.of_left (intBits_le_64 h1 h2)
theorem HM{i j:Int}(h1:-(2 ^ 64)<j)(h2:j<2 ^ 64):IntMulOk i j:=.of_right (intBits_le_64 h1 h2)
theorem fD{n:Int}{k:Nat}(h0:0<n)(h:n<2 ^ k):n.natAbs.log2<k:=by
 refine(Nat.log2_lt yw).mpr ?_;have e:((2 ^ k:Nat):Int)=(2:Int) ^ k:=by simp
 omega
end
def kD:Key->bn
 | .inl i=>.int i
 | .inr x=>.str x
def DOf(H:Hp)(a:Addr)(ks:List bn)(vs:List V):Prop:=
 (∃(ob:Obj) (m:List (Key×V)),H a=some (.frz ob (.dK m))/\ks=m.map (fun p=>kD p.1)/\vs=m.map (·.2)) \/
 ∃(ob:Obj) (p:List Key×V) (m:List (List Key×V)),H a=some (.frz ob (.dT (p::m)))/\ks=(p::m).map (fun p=>.tuple (p.1.map kD))/\vs=(p::m).map (·.2)
mutual
def Has(H:Hp):bn->V->Prop
 | .none,v=>v=.non
 | .bool b,v=>v=.bl b
 | .int i,v=>v=.int i
 | .str x,v=>v=.str x
 | .list ds,v=>∃a vs,v=.ref a/\H a=some (.lst vs)/\HasL H ds vs
 | .tuple ds,v=>∃a vs,v=.ref a/\H a=some (.tup vs)/\HasL H ds vs
 | .dict kvs,v=>∃a vs,v=.ref a/\DOf H a (kvs.map (·.1)) vs/\HasV H kvs vs
def HasL(H:Hp):List bn->List V->Prop
 | [],vs=>vs=[]
 |d::ds,vs=>∃v r,vs=v::r/\Has H d v/\HasL H ds r
def HasV(H:Hp):List (bn×bn)->List V->Prop
 | [],vs=>vs=[]
 |p::ps,vs=>∃v r,vs=v::r/\HasP H p v/\HasV H ps r
def HasP(H:Hp):bn×bn->V->Prop
 | (_,d),v=>Has H d v
end
mutual
theorem Has.mono{H H':Hp}(s:Same H H'):∀(d:bn) (v:V),Has H d v->Has H' d v
 | .none,_,h=>by simp only[Has]at h ⊢;exact h
 | .bool _,_,h=>by simp only[Has]at h ⊢;exact h
 | .int _,_,h=>by simp only[Has]at h ⊢;exact h
 | .str _,_,h=>by simp only[Has]at h ⊢;exact h
 | .list ds,v,h=>by
  simp only[Has]at h ⊢;obtain⟨a,vs,e,q,l⟩:=h;exact⟨a,vs,e,s _ _ q,HasL.mono s ds vs l⟩
 | .tuple ds,v,h=>by
  simp only[Has]at h ⊢;obtain⟨a,vs,e,q,l⟩:=h;exact⟨a,vs,e,s _ _ q,HasL.mono s ds vs l⟩
 | .dict kvs,v,h=>by
  simp only[Has]at h ⊢;obtain⟨a,vs,e,q,l⟩:=h;refine⟨a,vs,e,?_,HasV.mono s kvs vs l⟩;rcases q with ⟨ob,m,e1,e2⟩|⟨ob,p,m,e1,e2⟩
  ·exact .inl ⟨ob,m,s _ _ e1,e2⟩
  ·exact .inr ⟨ob,p,m,s _ _ e1,e2⟩
theorem HasL.mono{H H':Hp}(s:Same H H'):∀(ds:List bn) (vs:List V),HasL H ds vs->HasL H' ds vs
 | [],_,h=>by simp only[HasL]at h ⊢;exact h
 |d::ds,vs,h=>by
  simp only[HasL]at h ⊢;obtain⟨v,r,e,q,l⟩:=h;exact⟨v,r,e,Has.mono s d v q,HasL.mono s ds r l⟩
theorem HasV.mono{H H':Hp}(s:Same H H'):∀(ds:List (bn×bn)) (vs:List V),HasV H ds vs->HasV H' ds vs
 | [],_,h=>by simp only[HasV]at h ⊢;exact h
 |d::ds,vs,h=>by
  simp only[HasV]at h ⊢;obtain⟨v,r,e,q,l⟩:=h;exact⟨v,r,e,HasP.mono s d v q,HasV.mono s ds r l⟩
theorem HasP.mono{H H':Hp}(s:Same H H'):∀(p:bn×bn) (v:V),HasP H p v->HasP H' p v
 | (_,d),v,h=>by
  simp only[HasP]at h ⊢;exact Has.mono s d v h
end
section
variable {H:Hp}{v:V}
theorem mG:Has H .none v↔v=.non:=by simp only[Has]
theorem jU{b:Bool}:Has H (.bool b) v↔v=.bl b:=by simp only[Has]
theorem fY{i:Int}:Has H (.int i) v↔v=.int i:=by simp only[Has]
theorem iB{x:Str}:Has H (.str x) v↔v=.str x:=by simp only[Has]
theorem f8{ds:List bn}:Has H (.list ds) v↔∃a vs,v=.ref a/\H a=some (.lst vs)/\HasL H ds vs:=by simp only[Has]
theorem eQ{ds:List bn}:Has H (.tuple ds) v↔∃a vs,v=.ref a/\H a=some (.tup vs)/\HasL H ds vs:=by simp only[Has]
theorem x3{kvs:List (bn×bn)}:Has H (.dict kvs) v↔∃a vs,v=.ref a/\DOf H a (kvs.map (·.1)) vs/\HasV H kvs vs:=by simp only[Has]
theorem C9{vs:List V}:HasV H [] vs↔vs=[]:=by simp only[HasV]
theorem sD{p:bn×bn}{ds:List (bn×bn)}{vs:List V}:HasV H (p::ds) vs↔∃v r,vs=v::r/\Has H p.2 v/\HasV H ds r:=by
 obtain⟨k,d⟩:=p;simp only[HasV,HasP]
theorem zR{vs:List V}:HasL H [] vs↔vs=[]:=by simp only[HasL]
theorem zG{d:bn}{ds:List bn}{vs:List V}:HasL H (d::ds) vs↔∃v r,vs=v::r/\Has H d v/\HasL H ds r:=by simp only[HasL]
theorem HasL.length:∀{ds:List bn}{vs:List V},HasL H ds vs->vs.length=ds.length
 | [],_,h=>by rw[zR.mp h];rfl
 |d::ds,vs,h=>by
  obtain⟨v,r,e,_,l⟩:=zG.mp h;rw[e,ft,ft,HasL.length l]
theorem HasL.get:∀{ds:List bn}{vs:List V}{i:Nat}{d:bn},HasL H ds vs->ds[i]?=some d->∃v,vs[i]?=some v/\Has H d v
 | [],_,_,_,_,e=>by simp at e
 |c::ds,vs,0,d,h,e=>by
  obtain⟨v,r,rfl,q,_⟩:=zG.mp h;simp at e;subst e;exact⟨v,rfl,q⟩
 |c::ds,vs,i+1,d,h,e=>by
  obtain⟨v,r,rfl,_,l⟩:=zG.mp h;obtain⟨u,e1,e2⟩:=HasL.get (i:=i) (d:=d) l (by simpa using e);exact⟨u,by simpa using e1,e2⟩
theorem HasL.append:∀{ds es:List bn}{vs us:List V},HasL H ds vs->HasL H es us->HasL H (ds++es) (vs++us)
 | [],es,vs,us,h,h'=>by rw[zR.mp h];exact h'
 |d::ds,es,vs,us,h,h'=>by
  obtain⟨v,r,rfl,q,l⟩:=zG.mp h;exact zG.mpr ⟨v,r++us,rfl,q,HasL.append l h'⟩
theorem BQ:∀(ns:List Int),HasL H (ns.map .int) (ns.map V.int)
 | []=>zR.mpr rfl
 |n::ns=>zG.mpr ⟨_,_,rfl,fY.mpr rfl,BQ ns⟩
end
def tyD:bn->String
 | .none=>"NoneType" | .bool _=>"bool" | .int _=>"int" | .str _=>"str" | .list _=>"list" | .tuple _=>"tuple" | .dict _=>"dict"
theorem Has.ty{K:cy}{H:Hp}{d:bn}{v:V}(h:Has H d v):TyOf K H v (.type (tyD d)):=by
 cases d with
 |none=>rw[mG.mp h];exact .non
 |bool b=>rw[jU.mp h];exact .bl b
 |int i=>rw[fY.mp h];exact .int i
 |str x=>rw[iB.mp h];exact .str x
 |list ds=>obtain⟨a,vs,rfl,e,_⟩:=f8.mp h;exact .lst e
 |tuple ds=>obtain⟨a,vs,rfl,e,_⟩:=eQ.mp h;exact .tup e
 |dict kvs=>
  obtain⟨a,vs,rfl,e,_⟩:=x3.mp h;rcases e with ⟨ob,m,e,_⟩|⟨ob,p,m,e,_⟩
  ·exact .dK (.inr ⟨ob,e⟩)
  ·exact .dT (.inr ⟨ob,e⟩)
def rW:List String:=["NoneType","bool","int","str","list","tuple","dict"]
def f9:List String:=["int","bool","str","list","tuple","dict"]
def fB(t c:String):Bool:=t==c||(t == "bool" && c == "int")
def jA(d:bn)(c:String):Bool:=fB (tyD d) c
theorem KC(d:bn):tyD d∈rW:=by cases d<;>simp[tyD,rW]
theorem Hv(K:cy){t c:String}(ht:t∈rW)(hc:c∈f9):W.kitOne K (.type t) (.type c)=some (fB t c):=by
 simp only[rW,f9,ix,gk,or_false]at ht hc;rcases ht with rfl|rfl|rfl|rfl|rfl|rfl|rfl<;>rcases hc with rfl|rfl|rfl|rfl|rfl|rfl<;>rfl
def vD:List V->Hp->VK->Prop
 | [x,.ty c],H,Q=>∃d,Has H d x/\c∈f9/\Q (.bl (jA d c)) H
 |_,_,_=>False
theorem Lf{H:Hp}{d:bn}{x:V}{c:String}{Q:VK}(h:Has H d x)(hc:c∈f9)(q:Q (.bl (jA d c)) H):vD [x,.ty c] H Q:=⟨d,h,hc,q⟩
section
variable {X:Cx}
theorem d8:CallR X (.builtin "isinstance") vD:=by
 intro zk s σ H xs us Q I r h
 match xs,h with
 | [x,.ty c],h=>
  obtain⟨d,hx,hc,q⟩:=h;obtain⟨u,w',rfl,ru,aa⟩:=vals2 r;cases (show w'=qv c from aa);exact Hh I ru hx.ty (Hv X.K (KC d) hc) fun tk=>⟨.bl _,H,I.tok tk,rfl,q⟩
end
def sp1(p:V->Hp->VK->Prop):Sp:=fun vs H Q _=>match vs with | [x]=>p x H Q|_=>False
def sp2(p:V->V->Hp->VK->Prop):Sp:=fun vs H Q _=>match vs with | [x,y]=>p x y H Q|_=>False
theorem Bk{p:V->Hp->VK->Prop}:∀(vs:List V) (H:Hp) (Q:VK) (E:XK),sp1 p vs H Q E->∃x,vs=[x]/\p x H Q:=by
 intro vs H Q E h
 match vs,h with
 | [x],h=>exact⟨x,rfl,h⟩
theorem E6{p:V->V->Hp->VK->Prop}:∀(vs:List V) (H:Hp) (Q:VK) (E:XK),sp2 p vs H Q E->∃x y,vs=[x,y]/\p x y H Q:=by
 intro vs H Q E h
 match vs,h with
 | [x,y],h=>exact⟨x,y,rfl,h⟩
structure Dd(K:cy)(mg:Str->Option bp)(x:Str)(st:Stmt)(ps:List Str):Prop where
 ex:∃f fd,Fun K x x st f fd/\mg x=some (.ref f)/\Binds K fd ps []
structure Df(P:gc)(w:gy)(K:cy)(mg:Str->Option bp)(base:Heap)(x:Str)(ps:List Str)(k:Nat)(sp:Sp):Prop where
 ex:∃f fd,FnOk P w K mg base CX0 k f fd ps sp/\mg x=some (.ref f)/\W.keepIn K (.ref f)=true/\Binds K fd ps []
section
variable {P:gc}{w:gy}{K:cy}{mg:Str->Option bp}{base:Heap}{x a b c d e:Str}{st:Stmt}{N:List Str}{k:Nat}
theorem Df.of{ps:List Str}{sp:Sp}(D:Dd K mg x st ps)(S:FnScope N ps (zm st))(len:∀vs H Q E,sp vs H Q E->vs.length=ps.length)
  (hbody:∀(f:Addr) (cdv:bp) (A:ip) (outer:List Env) (s:bq) (H:Hp) (vs:List V) (Q:VK) (E:XK),Room k (A.deeper (envOfC x (zm st) s.heap.objs.size f cdv))->sp vs H Q E ->
   ∃t,PSs (gA CX0 P w K mg base N x (zm st) f cdv A outer s H E).nox (e8 st) t/\t { nx:=fun _ H'=>Q .non H',rt:=Q } (start N vs) H):Df P w K mg base x ps (k+1) sp:=by
 obtain⟨f,fd,F,hm,hb⟩:=D.ex;exact⟨f,fd,F.ok S len (hbody f),hm,F.kp,hb⟩
theorem Df.of2{p:V->V->Hp->VK->Prop}(D:Dd K mg x st [a,b])(S:FnScope N [a,b] (zm st))(σ0:V->V->St)(hs:∀v u,start N [v,u]=σ0 v u)
  (hbody:∀(f:Addr) (q:bp) (A:ip) (outer:List Env) (s:bq) (H:Hp) (v u:V) (Q:VK) (E:XK),Room k (A.deeper (envOfC x (zm st) s.heap.objs.size f q))->p v u H Q ->
   ∃t,PSs (gA CX0 P w K mg base N x (zm st) f q A outer s H E).nox (e8 st) t/\t { nx:=fun _ H'=>Q .non H',rt:=Q } (σ0 v u) H):Df P w K mg base x [a,b] (k+1) (sp2 p):=by
 refine Df.of D S (fun vs H Q E h=>?_) fun f q A outer s H vs Q E hr h=>?_
 ·obtain⟨x,y,rfl,_⟩:=E6 vs H Q E h;rfl
 ·obtain⟨x,y,rfl,h⟩:=E6 vs H Q E h;rw[hs];exact hbody f q A outer s H x y Q E hr h
end
def tC2(p:V->V->Hp->VK->Prop)(ta tb:TE):TE:=fun σ H Q=>ta σ H fun x H1=>tb σ H1 fun y H2=>p x y H2 Q
section
variable {X:Cx}{x a b c d e':Str}{k j:Nat}{pos pos':Pos}{e1 e2 e3 e4 e5:Expr}{t1 t2 t3 t4 t5:TE}
theorem J5{p:V->V->Hp->VK->Prop}(D:Df X.prog X.w X.K X.mg X.base x [a,b] k (sp2 p))(hr:Room j X.A)(hk:k<=j)(h1:PE X e1 t1)(h2:PE X e2 t2)(hg:Gl X x:=by rfl)(q:(x==("__debug__":Str))=false:=by decide)
  (q1:gx [e1,e2] X.env=(false,eval e1 X.env)::gx [e2] X.env:=by rfl) (q2:gx [e2] X.env=(false,eval e2 X.env)::gx [] X.env:=by rfl)
  (hpl:(sj pos (gx [e2] X.env)).any (·.1)=false:=by rfl):PE X (.Call (.Name x pos') [e1,e2] [] pos) (tC2 p t1 t2):=by
 obtain⟨f,fd,F,hm,kp,hb⟩:=D.ex;intro zk s σ H Q I h;exact Bu (dvs:=[]) (ds:=[]) (E:=E0) F (hr.mono hk) hg hm kp hb .nil pass0 (za h1 (za h2 zd q2) q1) q q1 hpl zk s σ H Q I h
end
theorem Dd.mk'{K:cy}{h:Heap}{mg:Str->Option bp}(X:K.In h)(G:h.Ns lw mg){x:Str}{st:Stmt}{ps:List Str}{f:Addr}{oc:bp}{od an:Option Addr}{ab:Array (Option bp)}{kV aa pm q ct:bp}
  (a:W.nsIn K lw x=some (some (.ref f))) (l:K.lookup f=some ⟨oc,od,.func (W.fnOf x x (jX st) (e8 st) (zm st) .none kV aa pm an q ct),ab⟩)
  (c:W.codeIn K q x=true) (k:W.keepIn K (.ref f)=true)
  (hb:∀(kV aa pm:bp) (an:Option Addr) (q ct:bp) (us:List bp),us.length=ps.length->bindArgs (W.fnOf x x (jX st) (e8 st) (zm st) .none kV aa pm an q ct) ⟨us,[]⟩=pure (ps.zip us)):Dd K mg x st ps:=
 ⟨f,_,Av (st:=st) l c k,W.mg_of X G a,(Av (st:=st) l c k).binds hb⟩
theorem zV:iq "len" = some (.builtin "len"):=by decide +kernel
theorem zP:iq "isinstance" = some (.builtin "isinstance"):=by decide +kernel
theorem uX:iq "max" = some (.builtin "max"):=by decide +kernel
theorem BB:iq "min" = some (.builtin "min"):=by decide +kernel
theorem Il:iq "sorted" = some (.builtin "sorted"):=by decide +kernel
theorem qX:iq "int" = some (.type "int"):=by decide +kernel
theorem vC:iq "bool" = some (.type "bool"):=by decide +kernel
theorem G2:iq "str" = some (.type "str"):=by decide +kernel
theorem oM:iq "list" = some (.type "list"):=by decide +kernel
theorem bX:iq "tuple" = some (.type "tuple"):=by decide +kernel
theorem BX:iq "dict" = some (.type "dict"):=by decide +kernel
section
variable {H:Hp}{Q:VK}
theorem IM{i:Nat}{σ:St}:gJ i σ H Q↔match σ[i]? with|some (some v)=>Q v H|_=>False:=by
 unfold gJ;constructor
 ·rintro⟨v,e,q⟩;rw[e];exact q
 ·intro h;split at h
  ·rename_i v e;exact⟨v,e,h⟩
  ·exact h.elim
theorem A8{g:Int->Int->V}{i j:Int}:rI0 g (.int i) (.int j) H Q↔Q (g i j) H:=
 ⟨fun⟨_,_,e1,e2,q⟩=>by cases e1;cases e2;exact q,fun q=>⟨i,j,rfl,rfl,q⟩⟩
theorem Kj{p:Bool->Prop}{b:Bool}:(∃c,V.bl b=V.bl c/\p c)↔p b:=⟨fun⟨_,e,q⟩=>by cases e;exact q,fun q=>⟨b,rfl,q⟩⟩
end
section
variable {K:cy}{H:Hp}{Q:VK}{x y:V}{d:bn}{ds:List bn}
def vL(K:cy):List V->Hp->VK->Prop:=fun xs H Q=>∃p ys,xs=[.ref p]/\(SqL K H p ys\/SqT K H p ys)/\Q (.int ys.length) H
end
section
variable {X:Cx}
theorem Ez:CallR X (.builtin "len") (vL X.K):=Et
end
def hid(a:Addr)(H:Hp):Hp:=fun b=>if b=a then none else H b
theorem Jh{a b:Addr}{H:Hp}(h:b≠a):hid a H b=H b:=cf h
theorem Ew{a:Addr}{H:Hp}:hid a H a=none:=cg rfl
theorem Same.laid{H:Hp}{p:Addr}{o:HO}(h:H p=none):Same H (upd H p o):=fun b u e=>by
 rw[zZ (dY e h)];exact e
section
variable {X:Cx}{zk:List (Addr×Obj)}{σ:St}{H:Hp}{s:bq}{a:Addr}{m:List (Key×V)}
theorem Inv.fz(I:Inv X zk σ H s)(e:H a=some (.dK m)):∃ob,Inv X zk σ (upd H a (.frz ob (.dK m))) s:=by
 have q:=(show ObjOk X.prog X.w H s.heap a (.dK m)from I.hok a _ e);obtain⟨_,_,vs,_,ob,es,ep,h1,_⟩:=id q;exact⟨ob,I.write (x:=a) (e:=a) (o:=.frz ob (.dK m)) (h':=s.heap) (t':=s.toks) (by rw[e];exact om) (.inl rfl) (fun b v _ z=>z) ⟨ob,h1⟩ ⟨h1,q⟩⟩
def wU(t:TE):TE:=fun σ H Q=>t σ H fun v H1=>∃a m,v=.ref a/\H1 a=some (.dK m)/\∀ob,Q v (upd H1 a (.frz ob (.dK m)))
theorem x8{e:Expr}{t:TE}(h:PE X e t):PE X e (wU t):=fun zk s σ H Q I hw=>
 thn (h zk s σ H _ I hw) fun u s1 ⟨v,H1,I1,r1,a,m,ev,ea,q⟩=>by
  obtain⟨ob,J⟩:=I1.fz ea;exact⟨v,_,J,r1,q ob⟩
end
end
section
theorem nL(d:bn):jA d "int" = match d with | .int _=>true | .bool _=>true|_=>false:=by cases d<;>first|rfl|(show fB _ _=_;simp[fB,tyD])
theorem pJ(d:bn):jA d "bool" = match d with | .bool _=>true|_=>false:=by cases d<;>first|rfl|(show fB _ _=_;simp[fB,tyD])
theorem nG(d:bn):jA d "tuple" = match d with | .tuple _=>true|_=>false:=by cases d<;>first|rfl|(show fB _ _=_;simp[fB,tyD])
theorem pE(d:bn):jA d "list" = match d with | .list _=>true|_=>false:=by cases d<;>first|rfl|(show fB _ _=_;simp[fB,tyD])
theorem nA(d:bn):jA d "str" = match d with | .str _=>true|_=>false:=by cases d<;>first|rfl|(show fB _ _=_;simp[fB,tyD])
def vw:List Addr->Hp->Hp
 | [],H=>H
 |a::r,H=>hid a (vw r H)
def yL(K:cy):V->V->Hp->VK->Prop:=fun x y H Q=>∃(a:Addr) (ns:List Int) (i:Int),x=.ref a/\y=.int i/\SqL K H a (ns.map V.int)/\0<=i/\∀n,Q (.int n) H
theorem JV{ns:List Int}{i:Int}(h0:0<=i)(h1:i<((ns.map V.int).length:Int)):∃n,atI (ns.map V.int) i=some (.int n):=by
 obtain⟨k,rfl⟩:=gu h0;have hk:k<ns.length:=by rw[fw]at h1;omega
 exact⟨ns[k],f6 (by rw[im,cn hk];rfl)⟩
theorem J4{ns:List Int}{lo hi:Option Int}{x:V}(h:x∈eK (ns.map V.int) lo hi):∃n,x=.int n:=by
 have h1:=lu (nq h);obtain⟨n,_,e⟩:=mem_map.mp h1;exact⟨n,e.symm⟩
theorem Fun.bind1{K:cy}{x a:Str}{st:Stmt}{f:Addr}{fd:qf}(F:Fun K x x st f fd)
  (h:∀(kV aa pm:bp) (an:Option Addr) (q ct:bp) (u:bp),bindArgs (W.fnOf x x (jX st) (e8 st) (zm st) .none kV aa pm an q ct) ⟨[u],[]⟩=pure [(a,u)]):∀(s:bq) (u:bp),BindsTo s fd ⟨[u],[]⟩ [(a,u)]:=by
 obtain⟨oc,od,kV,aa,pm,an,q,ct,ac,rfl,lk,ab⟩:=F.ex;exact fun s u=>.of_eq (h kV aa pm an q ct u)
def wR(K:cy):V->Hp->VK->Prop:=fun x H Q=>∃(a:Addr) (ns:List Int),x=.ref a/\SqL K H a (ns.map V.int)/\ns.length<=63/\∀H',Q (.bl true) H'
theorem walk_law{l:W.OpenLaw}{k:Nat}{q:gc}{aa:List Str}{XP:(Str->Option bp)->Heap->Prop}{YP:gy->Heap->Prop}{d:DefRec}{K:Params->cy}(hn:l.most=some 63)(ab:d.params.defaults=[])
  (hr:Room k callerA) (hY:∀(w:gy) (h:Heap),YP w h->(K w.params).In h) (hT:∀(w:gy) (h:Heap),YP w h->TabsOk (K w.params) h)
  (F:∀(w:gy) (mg:Str->Option bp) (fa:Addr) (h:Heap),(K w.params).In h->h.Ns lw mg->mg d.name=some (.ref fa) ->
   ∃fd:qf,(∀(s:bq) (u:bp),BindsTo s fd ⟨[u],[]⟩ [("script",u)])/\∀base:Heap,(K w.params).In base->base.Ns lw mg->FnOk l.prog w (K w.params) mg base CX0 k fa fd ["script"] (sp1 (wR (K w.params)))):
  W.WalkO q aa XP YP l.row.toRowW d [] (fun f vs=>PySem.call f vs):=
 L2.walk_of (n:=63) (k:=k) (x:="script") (CX:=fun _=>CX0) (sp:=fun w=>sp1 (wR (K w.params))) hn dz ab hr hY hT F (fun _ _ a ns hl _ hS=>⟨a,ns,rfl,hS,hl,fun _=>rfl⟩) fun _ _ _ _ _ z=>z
theorem Fun.ok1{P:gc}{w:gy}{K:cy}{mg:Str->Option bp}{base:Heap}{x a:Str}{st:Stmt}{f:Addr}{fd:qf}{N:List Str}{k:Nat}{p:V->Hp->VK->Prop}(F:Fun K x x st f fd)(S:FnScope N [a] (zm st))(σ0:V->St)(hs:∀v,start N [v]=σ0 v)
  (hbody:∀(q:bp) (A:ip) (outer:List Env) (s:bq) (H:Hp) (v:V) (Q:VK) (E:XK),Room k (A.deeper (envOfC x (zm st) s.heap.objs.size f q))->p v H Q ->
   ∃t,PSs (gA CX0 P w K mg base N x (zm st) f q A outer s H E).nox (e8 st) t/\t { nx:=fun _ H'=>Q .non H',rt:=Q } (σ0 v) H):FnOk P w K mg base CX0 (k+1) f fd [a] (sp1 p):=by
 refine F.ok S (fun vs H Q E h=>?_) fun q A outer s H vs Q E hr h=>?_
 ·obtain⟨x,rfl,_⟩:=Bk vs H Q E h;rfl
 ·obtain⟨x,rfl,h⟩:=Bk vs H Q E h;rw[hs];exact hbody q A outer s H x Q E hr h
end
section
mutual
theorem Has.reads{X:Cx}{zk:List (Addr×Obj)}{σ:St}{H:Hp}{s:bq}(I:Inv X zk σ H s):∀(d:bn) (v:V) (u:bp),Has H d v->d.canLay0=true->RelV v u->∃as,Reads s.heap u d as
 | .none,v,u,h,_,r=>by
  rw[mG.mp h]at r;cases (show u=qu from r);exact⟨_,.none⟩
 | .bool b,v,u,h,_,r=>by
  rw[jU.mp h]at r;cases (show u=Value.bool b from r);exact⟨_,.bool b⟩
 | .int i,v,u,h,_,r=>by
  rw[fY.mp h]at r;obtain⟨t,q⟩:=(show ∃t,u=rl i t from r);cases q;exact⟨_,.int i t⟩
 | .str x,v,u,h,_,r=>by
  rw[iB.mp h]at r;obtain⟨t,q⟩:=(show ∃t,u=Value.str x t from r);cases q;exact⟨_,.str x t⟩
 | .list ds,v,u,h,c,r=>by
  obtain⟨a,vs,rfl,e,l⟩:=f8.mp h;cases (show u=ga a from r);obtain⟨_,aa,n,rv,e1⟩:=(show ObjOk X.prog X.w H s.heap a (.lst vs)from I.hok a _ e);obtain⟨as,q⟩:=HasL.reads I ds vs aa l (by simpa only[mj]using c) rv;exact⟨_,.list e1 rfl rfl (by simpa using q)⟩
 | .tuple ds,v,u,h,c,r=>by
  obtain⟨a,vs,rfl,e,l⟩:=eQ.mp h;cases (show u=ga a from r);obtain⟨_,aa,rv,o,e1,e2,n,e3⟩:=(show ObjOk X.prog X.w H s.heap a (.tup vs)from I.hok a _ e);obtain⟨as,q⟩:=HasL.reads I ds vs aa l (by simpa only[mj]using c) rv;exact⟨_,.tuple e1 e2 e3 (by simpa using q)⟩
 | .dict _,_,_,_,c,_=>by simp[mj]at c
theorem HasL.reads{X:Cx}{zk:List (Addr×Obj)}{σ:St}{H:Hp}{s:bq}(I:Inv X zk σ H s):∀(ds:List bn) (vs:List V) (us:List bp),HasL H ds vs->lr ds=true->Vals vs us->∃as,ReadsAll s.heap us ds as
 | [],vs,us,h,_,r=>by
  rw[zR.mp h]at r;cases r;exact⟨_,.nil⟩
 |d::ds,vs,us,h,c,r=>by
  obtain⟨v,w',rfl,h1,h2⟩:=zG.mp h;have c':d.canLay0=true/\lr ds=true:=by simpa[lr]using c
  cases r with
  |cons r1 r2=>
   obtain⟨as,q1⟩:=Has.reads I d v _ h1 c'.1 r1;obtain⟨bs,q2⟩:=HasL.reads I ds w' _ h2 c'.2 r2;exact⟨_,.cons q1 q2⟩
end
def Ce:R2:=fun x y H Q=>∃d e,Has H d x/\Has H e y/\gn d=true/\gn e=true/\Q (.bl (jj d e)) H
def CU:R2:=fun x y H Q=>∃d e,Has H d x/\Has H e y/\gn d=true/\gn e=true/\Q (.bl (!PyData.eqv d e)) H
section
variable {X:Cx}
theorem bR(hu:X.A.units+64<qt):OpR X (jt .Eq) Ce:=by
 intro zk s σ H x y v u Q I rx ry h;obtain⟨d,e,hd,he,sd,se,q⟩:=h;obtain⟨as,q1⟩:=Has.reads I d x v hd (ji sd) rx;obtain⟨bs,q2⟩:=Has.reads I e y u he (ji se) ry;exact eq_dataH q1 q2 sd se hu ⟨.bl _,H,I,rfl,q⟩
theorem iL(hu:X.A.units+64<qt):OpR X (jt .NotEq) CU:=by
 intro zk s σ H x y v u Q I rx ry h;obtain⟨d,e,hd,he,sd,se,q⟩:=h;obtain⟨as,q1⟩:=Has.reads I d x v hd (ji sd) rx;obtain⟨bs,q2⟩:=Has.reads I e y u he (ji se) ry;exact ne_dataH q1 q2 sd se hu ⟨.bl _,H,I,rfl,q⟩
end
section
variable {prog:gc}{w:gy}{A:ip}{E:bp->bq->Prop}{s:bq}{l:Addr}
theorem JX{xs:Array (Int×Tok)}{Q:bp->bq->Prop}(hh:A.handled=none)(hl:s.heap.IsTuple l (qg xs))(aa:0<xs.size)
  (h:∀v h' tk,(qg xs)[on (fun i j=>decide (numAt xs i<numAt xs j)) (xs.size-1)]?=some v->(∀b o,s.heap.get? b=some o->h'.get? b=some o)->Q v { s with heap:=h',toks:=tk }):
  dh (model prog w) A (call (.builtin "min") [.ref l]) Q E s:=by
 have q:l<s.heap.objs.size:=by obtain⟨o,e,_⟩:=hl;exact gg e
 refine call_min_walk (qa hl ?_);refine⟨_,[_,l],[_],_,_,_,_,rfl,Walks.tuple (A:=A.in1) hh _ l (ig q) (qg xs),⟨⟨_,fj _ rfl,rfl,rfl⟩,hl.push _⟩,fun c hc=>?_,by simpa[qg]using aa,CmpOf.ints_lt (numAt xs) (fun _ _=>intItems_at),fun v h' tk hP hk=>?_⟩
 ·show c<(s.heap.push _).objs.size;rw[size_push];rcases mem_cons.mp hc with rfl|hc
  ·exact Nat.lt_succ_self _
  ·rcases mem_cons.mp hc with rfl|hc
   ·exact jx q
   ·cases hc
 ·refine h v h' tk (by simpa[qg]using hP) fun b o e=>hk b o (fun hm=>?_) (cp _ e);rcases mem_cons.mp hm with e1|hm
  ·exact absurd (e1▸gg e) (lj _)
  ·cases hm
theorem Gu{xs:Array (Int×Tok)}{Q:bp->bq->Prop}(hh:A.handled=none)(hl:s.heap.IsTuple l (qg xs))(aa:0<xs.size)
  (h:∀v h' tk,(qg xs)[on (fun i j=>decide (numAt xs i>numAt xs j)) (xs.size-1)]?=some v->(∀b o,s.heap.get? b=some o->h'.get? b=some o)->Q v { s with heap:=h',toks:=tk }):
  dh (model prog w) A (call (.builtin "max") [.ref l]) Q E s:=by
 have q:l<s.heap.objs.size:=by obtain⟨o,e,_⟩:=hl;exact gg e
 refine call_max_walk (qa hl ?_);refine⟨_,[_,l],[_],_,_,_,_,rfl,Walks.tuple (A:=A.in1) hh _ l (ig q) (qg xs),⟨⟨_,fj _ rfl,rfl,rfl⟩,hl.push _⟩,fun c hc=>?_,by simpa[qg]using aa,CmpOf.ints_gt (numAt xs) (fun _ _=>intItems_at),fun v h' tk hP hk=>?_⟩
 ·show c<(s.heap.push _).objs.size;rw[size_push];rcases mem_cons.mp hc with rfl|hc
  ·exact Nat.lt_succ_self _
  ·rcases mem_cons.mp hc with rfl|hc
   ·exact jx q
   ·cases hc
 ·refine h v h' tk (by simpa[qg]using hP) fun b o e=>hk b o (fun hm=>?_) (cp _ e);rcases mem_cons.mp hm with e1|hm
  ·exact absurd (e1▸gg e) (lj _)
  ·cases hm
theorem mU{vs:List bp}{ns:List Int}(hi:ll vs ns):∃xs:Array (Int×Tok),vs.toArray=qg xs/\ns=xs.toList.map (·.1):=by
 obtain⟨xs,e⟩:=hi.allInts.items;exact⟨xs,e,by rw[<- hi.numsOf,<- nums_intItems,<- e]⟩
end
def xC(K:cy):List V->Hp->VK->Prop:=fun xs H Q=>∃p ns,xs=[.ref p]/\(SqL K H p (ns.map V.int)\/SqT K H p (ns.map V.int))/\ns≠[]/\∀m,m∈ns->(∀a,a∈ns->m<=a)->Q (.int m) H
def DK(K:cy):List V->Hp->VK->Prop:=fun xs H Q=>∃p ns,xs=[.ref p]/\(SqL K H p (ns.map V.int)\/SqT K H p (ns.map V.int))/\ns≠[]/\∀m,m∈ns->(∀a,a∈ns->a<=m)->Q (.int m) H
section
variable {X:Cx}
theorem FN(hc:X.calm=true):CallR X (.builtin "min") (xC X.K):=by
 intro zk s σ H xs us Q I r h;obtain⟨p,ns,rfl,hq,ab,q⟩:=h;obtain⟨u,rfl,rx⟩:=vals1 r;cases (show u=ga p from rx);have done:∀(ys:Array (Int×Tok)) (v:bp) (h':Heap) (tk:Nat),ns=ys.toList.map (·.1)->0<ys.size->(qg ys)[on (fun i j=>decide (numAt ys i<numAt ys j)) (ys.size-1)]?=some v ->
   (∀b o,s.heap.get? b=some o->h'.get? b=some o)->EP X zk σ Q v { s with heap:=h',toks:=tk }:=by
  intro ys v h' tk aa hsz hv hk;obtain⟨t,rfl⟩:=intItems_at hv;obtain⟨h1,h2⟩:=argBest_lt (numAt ys) (ys.size-1);refine⟨.int _,H,I.kept (t':=tk) hk,⟨t,rfl⟩,q _ ?_ fun a ha=>?_⟩
  ·rw[aa,numAt_eq];exact getD_mem (by rw[fw,jr];omega)
  ·rw[aa]at ha;obtain⟨j,hj,rfl⟩:=mem_getD ha;rw[fw,jr]at hj;rw[<- numAt_eq];exact h2 j yw
 rcases hq with hq|hq
 ·obtain⟨ac,rv,pl,_⟩:=I.list hq;obtain⟨ys,e,aa⟩:=mU (fT rv);have hsz:0<ys.size:=by
   cases ys with
   |mk l=>cases l with
    |nil=>exact absurd aa ab
    |cons _ _=>exact Nat.succ_pos _
  exact min_intList (I.ok.hd hc) (by rw[<- e];exact pl.isList) hsz fun v h' tk hv hk=>done ys v h' tk aa hsz hv hk
 ·obtain⟨ac,rv,pl,_⟩:=I.tuple hq;obtain⟨ys,e,aa⟩:=mU (fT rv);have hsz:0<ys.size:=by
   cases ys with
   |mk l=>cases l with
    |nil=>exact absurd aa ab
    |cons _ _=>exact Nat.succ_pos _
  exact JX (I.ok.hd hc) (by rw[<- e];exact pl) hsz fun v h' tk hv hk=>done ys v h' tk aa hsz hv hk
theorem Iv(hc:X.calm=true):CallR X (.builtin "max") (DK X.K):=by
 intro zk s σ H xs us Q I r h;obtain⟨p,ns,rfl,hq,ab,q⟩:=h;obtain⟨u,rfl,rx⟩:=vals1 r;cases (show u=ga p from rx);have done:∀(ys:Array (Int×Tok)) (v:bp) (h':Heap) (tk:Nat),ns=ys.toList.map (·.1)->0<ys.size->(qg ys)[on (fun i j=>decide (numAt ys i>numAt ys j)) (ys.size-1)]?=some v ->
   (∀b o,s.heap.get? b=some o->h'.get? b=some o)->EP X zk σ Q v { s with heap:=h',toks:=tk }:=by
  intro ys v h' tk aa hsz hv hk;obtain⟨t,rfl⟩:=intItems_at hv;obtain⟨h1,h2⟩:=argBest_gt (numAt ys) (ys.size-1);refine⟨.int _,H,I.kept (t':=tk) hk,⟨t,rfl⟩,q _ ?_ fun a ha=>?_⟩
  ·rw[aa,numAt_eq];exact getD_mem (by rw[fw,jr];omega)
  ·rw[aa]at ha;obtain⟨j,hj,rfl⟩:=mem_getD ha;rw[fw,jr]at hj;rw[<- numAt_eq];exact h2 j yw
 rcases hq with hq|hq
 ·obtain⟨ac,rv,pl,_⟩:=I.list hq;obtain⟨ys,e,aa⟩:=mU (fT rv);have hsz:0<ys.size:=by
   cases ys with
   |mk l=>cases l with
    |nil=>exact absurd aa ab
    |cons _ _=>exact Nat.succ_pos _
  exact max_intList (I.ok.hd hc) (by rw[<- e];exact pl.isList) hsz fun v h' tk hv hk=>done ys v h' tk aa hsz hv hk
 ·obtain⟨ac,rv,pl,_⟩:=I.tuple hq;obtain⟨ys,e,aa⟩:=mU (fT rv);have hsz:0<ys.size:=by
   cases ys with
   |mk l=>cases l with
    |nil=>exact absurd aa ab
    |cons _ _=>exact Nat.succ_pos _
  exact Gu (I.ok.hd hc) (by rw[<- e];exact pl) hsz fun v h' tk hv hk=>done ys v h' tk aa hsz hv hk
end
section
variable {K:cy}{o:List Addr}{σ:St}{H0:Hp}{t t1 t2 t3 t4 t5:TE}{ta:TA}{tt tu:TT}{d d1 d2 d3 d4 d5:bn}{ds:List bn}{b c:Bool}
def mI:bn->Bool
 | .none=>true
 |_=>false
end
def spD(a b:Int):bn:=.tuple [.int a,.int b]
end
section
theorem J0{K:cy}{a:Addr}{ns:List Int}{N:Int}{j:Nat}{tb:TS}{D:Ends}{σ:St}{H:Hp}(P:St->Prop)(h0:σ[0]?=some (some (.ref a)))(hS:SqL K H a (ns.map V.int))(aa:ns.length<=63)(hP:P σ)
  (turn:∀(n:Int) (σ:St) (H1 H2:Hp),P σ->Same H H1->Same H1 H2->tb { D with nx:=fun σ' H'=>Same H1 H'/\P σ',ct:=fun σ' H'=>Same H1 H'/\P σ',bk:=D.nx } (σ.set j (some (.int n))) H2)
  (done:∀(σ:St) (H1:Hp),P σ->Same H H1->D.nx σ H1):
  pP (x5 K (tOp lJ (jH (fJ (tC2 (yL K) (gJ 0) (tC (.int 0))) kR)) (tSl (oF K) (gJ 0) (lH (tC (.int 1))) (lH (tC (.int N)))))) (j7 j) tb D σ H:=by
 refine⟨_,h0,a,ns,0,rfl,rfl,hS,by decide,fun n0=>⟨by show 1<=fe;decide,fun p hp=>?_⟩⟩;have s1:Same H (upd H p (.lst [.int n0])):=Same.laid hp;refine⟨_,h0,_,rfl,_,rfl,a,_,rfl,s1.seq hS,fun p2 q=>?_⟩;have s2:=s1.trans (Same.laid (o:=.lst (eK (ns.map V.int) (some 1) (some N))) q);have np:p≠p2:=dY dM q;have hz:(eK (ns.map V.int) (some 1) (some N)).length<=63:=jn (yE _ _ _) (by rw[fw];exact aa);refine⟨p,p2,_,_,rfl,rfl,by rw[zZ np,dM],dM,ku (small1000 (by simp only[ft,length_nil];omega)),fun p3 ab=>?_⟩;have s3:=s2.trans (Same.laid (o:=.lst ([V.int n0]++eK (ns.map V.int) (some 1) (some N))) ab);refine⟨p3,rfl,⟨_,.of dM⟩,Fs (K:=K) (a:=p3) (xs:=[V.int n0]++eK (ns.map V.int) (some 1) (some N)) (fun i σ' H'=>Same _ H'/\P σ') ⟨Same.refl _,hP⟩ (fun i σ H4 _ ⟨s4,_⟩=>.of (s4 _ _ dM)) ?_ ?_⟩
 ·rintro i x σ' H4 hi ⟨s4,p4⟩;obtain⟨n,rfl⟩:∃n,x=.int n:=by
   rcases mem_append.mp (bu hi)with m|m
   ·exact⟨n0,mem_singleton.mp m⟩
   ·exact J4 m
  exact turn n σ' _ H4 p4 s3 s4
 ·rintro σ' H4 ⟨s4,p4⟩;exact done σ' H4 p4 (s3.trans s4)
end
section
section
variable {prog:gc}{w:gy}{A:ip}{E:bp->bq->Prop}{R:Result->bq->Prop}{s:bq}
theorem Fb{elt aa iter:Expr}{ifs:List Expr}{scope:Scope}{pos:Pos}{it acc:bp}{env:Env}(I:Nat->bq->Prop)
  (turn:∀n s,I n s->dh (model prog w) A (pyNext it) (fun r s₁=>match r with
   |none=>R (.ok .next) s₁
   |some v=>dh (model prog w) A (letOwnedTupleGo aa it v) (fun _ s₀=>dh (model prog w) A (assign aa env v) (fun _ s₂=>
     dh (model prog w) A (forIn ifs true fun c r=>if r=true then do let ok <- isTrue c env (eval c env);pure (qh ok)else pure (qh r)) (fun ok s₃=>
      if ok=true then dh (model prog w) A (eval elt env) (fun x s₄=>
       dh (model prog w) A (call (.builtin "list.append") [acc,x]) (fun _ s₅=>∃m,m<n/\I m s₅) (fun _ _=>False) s₄) (fun _ _=>False) s₃
      else ∃m,m<n/\I m s₃) (fun _ _=>False) s₂) (fun _ _=>False) s₀) (fun _ _=>False) s₁) (fun _ _=>False) s)
  (n:Nat) (h:I n s):
  codeAny (model prog w) A (.compLoop (.ListComp elt [⟨aa,iter,ifs,0⟩] scope pos) 0 it acc env) R s:=by
 have up:∀{α:Type}{t:Sem α}{Q:α->bq->Prop}{E':bp->bq->Prop}{s':bq},dh (model prog w) A t Q (fun _ _=>False) s'->dh (model prog w) A t Q E' s':=fun h=>wpAny_mono h (fun _ _ q=>q) fun _ _ z=>z.elim;refine codeAny_loop rfl I (fun n s hI=>?_) n h;show dh _ A ((compTurn (.ListComp elt [⟨aa,iter,ifs,0⟩] scope pos) 0 it acc env).onRaise (fun x=>do noteFrame x env;theTreesLotGoes x)) _ _ s;refine wpAny_noted ?_;rw[compTurn_list];refine bo (wpAny_standAt (bo (thn (up (turn n s hI)) fun r s₁ h₁=>?_)));cases r with
 |none=>exact cq h₁
 |some v=>
  refine bo (thn (up h₁) fun _ s₀ h₀=>?_);refine bo (thn (up h₀) fun _ s₂ h₂=>bo (thn (up h₂) fun ok s₃ h₃=>?_));cases ok with
  |false=>exact cq ⟨rfl,h₃⟩
  |true=>
   exact bo (bo (thn (up h₃) fun x s₄ h₄=>bo (thn (up h₄) fun _ s₅ h₅=>cq (cq ⟨rfl,h₅⟩))))
end
def c0(X:Cx)(scope:Scope)(cl:List (Str×Addr))(C:Addr)(s₃:bq)(H₃:Hp)(fp:List Addr)(N:List Str):Cx where
 prog:=X.prog
 w:=X.w
 K:=X.K
 mg:=X.mg
 base:=X.base
 A:=X.A
 N:=N
 s₀:=s₃
 H₀:=H₃
 env:=compEnvC scope cl C X.env
 outer:=X.stack
 stack:=X.stack
 ex:=fp
 fn:=fun _=>false
 calm:=X.calm
 pn:=[]
 xe:=fun _ _=>False
def PTs(X:Cx)(ifs:List Expr)(t:TT):Prop:=
 ∀(zk:List (Addr×Obj)) (s:bq) (σ:St) (H:Hp) (Q:Bool->Hp->Prop),Inv X zk σ H s->t σ H Q ->
  dh (model X.prog X.w) X.A (forIn ifs true fun c r=>if r=true then do let ok <- isTrue c X.env (eval c X.env);pure (qh ok)else pure (qh r)) (TP X zk σ Q) X.xe s
def vR:TT:=fun _ H Q=>Q true H
theorem bH{X:Cx}:PTs X [] vR:=fun _ _ _ H _ I h=>wpAny_tests_nil ⟨H,I,h⟩
theorem G5{X:Cx}{c:Expr}{t:TT}(h:PT X c t):PTs X [c] t:=fun zk s σ H Q I hw=>wpAny_tests_one (h zk s σ H Q I hw)
def tau(caps:List (Option Nat))(σ:St):St:=caps.map fun o=>o.bind fun i=>(σ[i]?).join
def lM(caps:List (Option Nat))(wi:TI)(g:TG)(tt:TT)(te:TE):TE:=fun σ H Q=>wi σ H fun J H1=>∀D,H1 D=none->∃W:Nat->Nat->St->Hp->Prop,(∃m,W 0 m (tau caps σ) (upd H1 D (.lst []))) /\
 ∀i m τ H2,W i m τ H2->(J.stop i H2/\Q (.ref D) H2)\/(J.go i H2/\∀x H3,J.yld i H2 x H3->g x τ H3 fun τ4 H4=>tt τ4 H4 fun b H5=>
  if b=true then te τ4 H5 fun v H6=>∃xs,H6 D=some (.lst xs)/\xs.length<fe/\∃m',m'<m/\W (i+1) m' τ4 (upd H6 D (.lst (xs++[v])))else ∃m',m'<m/\W (i+1) m' τ4 H5)
structure CompOk(X:Cx)(scope:Scope)(cl:List (Str×Addr))(N:List Str)(caps:List (Option Nat)):Prop where
 clos:closureFor scope X.env=pure cl
 sub:∀x c,cl.lookup x=some c->X.env.cells.lookup x=some c
 kind:scope.kind=.function
 cell:∀y∈scope.names,y.2≠.cell
 names:∀y∈scope.names,y.2=.local->scope.names.lookup y.1=some .local
 has:∀x,((relabel scope X.env).names.lookup x=some .cell\/(relabel scope X.env).names.lookup x=some .free)->∃c,cl.lookup x=some c
 cap:∀(j i:Nat) (x:Str),caps[j]?=some (some i)->N[j]?=some x->X.N[i]?=some x/\Vis X.env.scope x/\¬ X.env.kindOf x=some .local/\∃c,cl.lookup x=some c/\((relabel scope X.env).names.lookup x=some .cell\/(relabel scope X.env).names.lookup x=some .free)
 len:caps.length=N.length
section
variable {X:Cx}{scope:Scope}{cl:List (Str×Addr)}{N:List Str}{caps:List (Option Nat)}{tg iter elt:Expr}{ifs:List Expr}{pos:Pos}{wi:TI}{g:TG}{tt:TT}{te:TE}
theorem IH{zk:List (Addr×Obj)}{σ:St}{H:Hp}{s:bq}{fp:List Addr}{h₁:Heap}{t':Nat}(c:CompOk X scope cl N caps)(I:Inv X zk σ H s)(f:∀b∈fp,FpOk X zk H b)(fo:∀b∈fp,∃o,s.heap.get? b=some o)
  (hns:h₁.Ns s.heap.objs.size (fun _=>none)) (hk:∀b o,s.heap.get? b=some o->h₁.get? b=some o):
  Inv (c0 X scope cl s.heap.objs.size s H fp N) [] (tau caps σ) H { s with heap:=h₁,toks:=t' }:=by
 have lt:∀b∈fp,b<s.heap.objs.size:=fun b hb=>by obtain⟨o,e⟩:=fo b hb;exact gg e
 have ab:∀x k,cl.lookup x=some k->∃v,s.heap.IsCell k v:=fun x k e=>I.cell x k (c.sub x k e);refine⟨⟨I.ok.mod,c.kind,I.ok.glob,I.ok.blt,ff _,fun x y k h1 h2=>I.ok.inj x y k (c.sub x k h1) (c.sub y k h2),fun x hx=>c.has x hx,fun x k h _=>absurd (show false=true from h) dz,I.ok.hd,I.ok.frames,.inl rfl,
  fun b hb=>⟨ig (lt b hb),fun x k e=>(f b hb).2.2.2.2.1 x k (c.sub x k e)⟩,I.bs,jn I.ok.bsz I.sz,fun b o e hb=>?_,fun b hb z=>?_,I.stack,I.stkFree⟩,
  rfl,I.bare,Un.kept hk,⟨_,hns,fun j x v h1 h2 h3=>?_⟩,fun x k e=>?_,I.hok.fresh (ff _),fun x k e=>I.freeC x k (c.sub x k e),fun p hp=>absurd (show p∈([]:List (Addr×Obj))from hp) yv,I.hok.kept hk,?_⟩
 ·rcases(f b hb).2.2.2.1 with q|q
  ·exact I.ok.noex b o e q
  ·exact absurd (io (gg e) (jn I.ok.bsz q)) (lj _)
 ·rcases mem_cons.mp (I.stkSub b z)with q|q
  ·exact(f b hb).2.1 q
  ·exact(f b hb).2.2.1 q
 ·have aa:(caps.map fun o=>o.bind fun i=>(σ[i]?).join)[j]?=some (some v):=h2;rw[im]at aa;cases e:caps[j]? with
  |none=>rw[e]at aa;cases aa
  |some oi=>
   rw[e]at aa;have h2'':(oi.bind fun i=>(σ[i]?).join)=some v:=gh aa;cases oi with
   |none=>cases h2''
   |some i=>
    have h4:(σ[i]?).join=some v:=h2'';have h5:σ[i]?=some (some v):=by
     cases q:σ[i]? with
     |none=>rw[q]at h4;cases h4
     |some w'=>rw[q]at h4;exact congrArg some h4
    obtain⟨k1,k2,k3,cc,k4,k5⟩:=c.cap j i x e h1;obtain⟨m,hn,hl⟩:=I.loc;obtain⟨u,r,l⟩:=hl i x v k1 h5 k2;refine⟨u,r,.inr ⟨k5,cc,k4,?_⟩⟩;rcases l with ⟨q,_⟩|⟨_,c',hc',hcell⟩
    ·exact(k3 q).elim
    ·rw[c.sub x cc k4]at hc';cases hc';exact hcell.keeps hk
 ·obtain⟨v,q⟩:=ab x k e;exact⟨v,q.keeps hk⟩
 ·show (caps.map _).length=N.length;rw[fw];exact c.len
theorem L9{zk:List (Addr×Obj)}{σ τ:St}{H H':Hp}{s s':bq}{h':Heap}{fp:List Addr}(I:Inv X zk σ H s)(f:∀b∈fp,FpOk X zk H b)(J:Inv (c0 X scope cl s.heap.objs.size s H fp N) [] τ H' s')(hs:iu s.heap.objs.size s'.heap h'):
  Inv X zk σ H' { s' with heap:=h' }:=by
 have hC:H' s.heap.objs.size=none:=J.free;have keep:∀b o,b≠s.heap.objs.size->s'.heap.get? b=some o->h'.get? b=some o:=fun b o nb e=>hs.extBut b o nb e;have u1:Un (frs X.stack) (s.heap.objs.size::fp) H H' s.heap s'.heap:=Un.mono J.base (fun b hb=>hb) (fun b hb=>cu _ hb);have u2:Un (frs X.stack) (s.heap.objs.size::fp) H' H' s'.heap h':=
  ⟨fun b o e _ _ hx=>keep b o (fun z=>hx (by rw[z];exact df)) e,fun b o e _ _ hx=>⟨o.slots,keep b o (fun z=>hx (by rw[z];exact df)) e⟩,fun _ _ _ n _=>n,fun b o e hx=>⟨o,keep b o (fun z=>hx (by rw[z];exact df)) e⟩,fun _ _ q=>q,fun _ _ _ q=>q,fun _ _ q=>q⟩
 have hok:HOk X.prog X.w H' h':=fun a o e=>(J.hok a o e).stay (fun b u hb q=>keep b u (fun z=>by
  rcases hb with hb|hb
  ·rw[<- hb,z,hC]at e;cases e
  ·rw[z,hC]at hb;cases hb) q) (fun b q=>q) fun b xs q=>q
 refine I.call' (s':={ s' with heap:=h' }) (ch:=s.heap.objs.size::fp) J.os (u1.trans u2) hok J.bare fun b hb=>?_;rcases mem_cons.mp hb with rfl|hb
 ·refine⟨.inr I.sz,ne_of_gt I.lt,fun x k e z=>?_,fun p hp z=>?_⟩
  ·obtain⟨v,q⟩:=I.cell x k e;exact absurd q.lt (by rw[z];exact lj _)
  ·exact absurd (gg (I.pin p hp).1) (by rw[z];exact lj _)
 ·obtain⟨f0,f1,f2,f3,f4,f5⟩:=f b hb;exact⟨f3,f1,f4,f5⟩
theorem EZ{zk:List (Addr×Obj)}{σ:St}{H2:Hp}{s2:bq}{it:Addr}{fp:List Addr}{tn:Nat->Heap->Prop}{J:It}{RR:bp->Addr->Result->bq->Prop}{E:bp->bq->Prop}(hc:X.calm=true)(c:CompOk X scope cl N caps)
  (I2:Inv X zk σ H2 s2) (T:Turn X.prog X.w X.K tg J fp it tn) (st2:tn 0 s2.heap) (f2:∀b∈fp,FpOk X zk H2 b)
  (hg:∀C s H fp,PG (c0 X scope cl C s H fp N) tg g) (ht:∀C s H fp,PTs (c0 X scope cl C s H fp N) ifs tt) (he:∀C s H fp,PE (c0 X scope cl C s H fp N) elt te)
  (Q:VK) (hq:∀D,H2 D=none->∃W:Nat->Nat->St->Hp->Prop,(∃m,W 0 m (tau caps σ) (upd H2 D (.lst []))) /\
   ∀i m τ H2,W i m τ H2->(J.stop i H2/\Q (.ref D) H2)\/(J.go i H2/\∀x H3,J.yld i H2 x H3->g x τ H3 fun τ4 H4=>tt τ4 H4 fun b H5=>
    if b=true then te τ4 H5 fun v H6=>∃xs,H6 D=some (.lst xs)/\xs.length<fe/\∃m',m'<m/\W (i+1) m' τ4 (upd H6 D (.lst (xs++[v])))else ∃m',m'<m/\W (i+1) m' τ4 H5))
  (hRR:∀(D C:Addr) (H':Hp) (s':bq) (m:Str->Option bp),s'.heap.Ns C m->FpOk X zk H' C->(∀h',iu C s'.heap h'->Inv X zk σ H' { s' with heap:=h' })->Q (.ref D) H'->RR (.ref D) C (.ok .next) s'):
  dh (model X.prog X.w) X.A (newList []) (fun acc s₃=>dh (model X.prog X.w) X.A (newFunctionEnv scope X.env.globals cl [] X.env.qual none .none (some X.env)) (fun ae s₄=>
   codeAny (model X.prog X.w) X.A (.compStart (.ListComp elt [⟨tg,iter,ifs,0⟩] scope pos) 0 (.ref it) acc { ae with scope:=relabel scope X.env }) (RR acc ae.locals) s₄) E s₃) E s2:=by
 have hD:H2 s2.heap.objs.size=none:=I2.hok.fresh (ff _);obtain⟨W,⟨m0,w0⟩,ak⟩:=hq s2.heap.objs.size hD;have I3:Inv X zk σ (upd H2 s2.heap.objs.size (.lst [])) { s2 with heap:=s2.heap.push { cls:=.type "list",data:=.seq ([]:List bp).toArray } }:=I2.laid (t':=s2.toks) (fun b u e=>cp _ e) (ff _) ⟨lc _,[],0,.nil,fj _ rfl⟩;have fo:∀b∈fp,∃o,s2.heap.get? b=some o:=fun b hb=>by obtain⟨o,e,_⟩:=T.obj 0 _ st2 b hb;exact⟨o,e⟩
 have f3:∀b∈fp,FpOk X zk (upd H2 s2.heap.objs.size (.lst [])) b:=fun b hb=>by
  obtain⟨o,e⟩:=fo b hb;refine⟨?_,(f2 b hb).2⟩;rw[zZ (ig (gg e))];exact(f2 b hb).1
 refine ko (wpAny_newFunctionEnv c.cell (by intro y hy;simp at hy) (fun h₁ ah ag=>?_) c.kind);have hk:∀b o,(s2.heap.push { cls:=.type "list",data:=.seq ([]:List bp).toArray }).get? b=some o->h₁.get? b=some o:=fun b o e=>ag.extBut b o (ig (gg e)) (cp _ e);have al:tn 0 h₁:=T.keep 0 _ _ st2 fun b _ o e=>hk b o (cp _ e);have I4:=IH (t':=s2.toks+([]:List (Str×bp)).length) c I3 f3 (fun b hb=>by obtain⟨o,e⟩:=fo b hb;exact⟨o,cp _ e⟩) ah hk;have aa:∀{H':Hp},(∀b∈fp,H' b=none)->∀b∈fp,FpOk (c0 X scope cl (s2.heap.push { cls:=.type "list",data:=.seq ([]:List bp).toArray }).objs.size { s2 with heap:=s2.heap.push { cls:=.type "list",data:=.seq ([]:List bp).toArray } } (upd H2 s2.heap.objs.size (.lst [])) fp N) [] H' b:=fun hn b hb=>
  ⟨hn b hb,(I4.ok.exf b hb).1,I4.ok.exfs b hb,.inl hb,(I4.ok.exf b hb).2,fun p hp=>absurd (show p∈([]:List (Addr×Obj))from hp) yv⟩
 have ac:codeAny (model X.prog X.w) X.A (.compLoop (.ListComp elt [⟨tg,iter,ifs,0⟩] scope pos) 0 (.ref it) (.ref s2.heap.objs.size) (compEnvC scope cl (s2.heap.push { cls:=.type "list",data:=.seq ([]:List bp).toArray }).objs.size X.env))
   (RR (.ref s2.heap.objs.size) (s2.heap.push { cls:=.type "list",data:=.seq ([]:List bp).toArray }).objs.size) { s2 with heap:=h₁,toks:=s2.toks+([]:List (Str×bp)).length }:=by
  refine Fb (fun n s'=>∃i τ H',Inv (c0 X scope cl (s2.heap.push { cls:=.type "list",data:=.seq ([]:List bp).toArray }).objs.size { s2 with heap:=s2.heap.push { cls:=.type "list",data:=.seq ([]:List bp).toArray } } (upd H2 s2.heap.objs.size (.lst [])) fp N) [] τ H' s'/\tn i s'.heap/\(∀b∈fp,H' b=none)/\W i n τ H') ?_ m0 ⟨0,_,_,I4,al,fun b hb=>(f3 b hb).1,w0⟩;rintro n s5 ⟨i,τ,H5,I5,ai,aj,w5⟩;rcases ak i n τ H5 w5 with ⟨stop,qn⟩|⟨go,step⟩
  ·refine thn (T.done (c0 X scope cl (s2.heap.push { cls:=.type "list",data:=.seq ([]:List bp).toArray }).objs.size { s2 with heap:=s2.heap.push { cls:=.type "list",data:=.seq ([]:List bp).toArray } } (upd H2 s2.heap.objs.size (.lst [])) fp N) rfl rfl rfl hc i [] s5 τ H5 (fun _ _=>False) I5 (aa aj) ai stop) fun r s6 ⟨hr,I6⟩=>?_;subst hr;obtain⟨m,hn,_⟩:=id I6.loc;exact hRR _ _ H5 s6 m hn (I3.fpOk (ff _) I6.free) (fun h' hs=>L9 I3 f3 I6 hs) qn
  ·refine thn (T.item (c0 X scope cl (s2.heap.push { cls:=.type "list",data:=.seq ([]:List bp).toArray }).objs.size { s2 with heap:=s2.heap.push { cls:=.type "list",data:=.seq ([]:List bp).toArray } } (upd H2 s2.heap.objs.size (.lst [])) fp N) rfl rfl rfl hc i [] s5 τ H5 (fun _ _=>False) I5 (aa aj) ai go) fun r s6 ⟨u,hr,h6⟩=>?_;subst hr;refine thn h6 fun _ s7 ⟨x,H7,I7,r7,y7,af,ap⟩=>?_;have I7':=I7.pinned (aa ap) (T.obj _ _ af);refine thn (hg _ _ _ _ _ s7 τ H7 x u _ I7' r7 (step x H7 y7)) fun _ s8 ⟨τ8,H8,I8,q8⟩=>?_;refine thn (ht _ _ _ _ _ s8 τ8 H8 _ I8 q8) fun ok s9 ⟨H9,I9,q9⟩=>?_;have ab:∀{H':Hp}{s':bq}{m:Nat},Inv (c0 X scope cl (s2.heap.push { cls:=.type "list",data:=.seq ([]:List bp).toArray }).objs.size { s2 with heap:=s2.heap.push { cls:=.type "list",data:=.seq ([]:List bp).toArray } } (upd H2 s2.heap.objs.size (.lst [])) fp N) ([]++oB fp s7.heap) τ8 H' s'->(m<n/\W (i+1) m τ8 H') ->
     ∃m,m<n/\∃i τ H',Inv (c0 X scope cl (s2.heap.push { cls:=.type "list",data:=.seq ([]:List bp).toArray }).objs.size { s2 with heap:=s2.heap.push { cls:=.type "list",data:=.seq ([]:List bp).toArray } } (upd H2 s2.heap.objs.size (.lst [])) fp N) [] τ H' s'/\tn i s'.heap/\(∀b∈fp,H' b=none)/\W i m τ H':=fun {H' s' m} I' q=>by
    refine⟨m,q.1,i+1,τ8,H',I'.unpinned,T.keep _ _ _ af fun b hb o e=>(I'.pin (b,o) (gp _ (gp _ (sX hb e)))).1,fun b hb=>?_,q.2⟩;obtain⟨o,e,d⟩:=T.obj _ _ af b hb;exact(I'.pin (b,o) (gp _ (gp _ (sX hb e)))).2.1
   cases ok with
   |false=>
    rw[cf jh]at q9 ⊢;obtain⟨m',hm,w9⟩:=q9;exact ab I9 ⟨hm,w9⟩
   |true=>
    rw[cg rfl]at q9 ⊢;refine thn (he _ _ _ _ _ s9 τ8 H9 _ I9 q9) fun v ao ⟨z,H10,I10,an,xs,hx,hz,m',hm,am⟩=>?_;refine thn (gF _ ao τ8 H10 (.ref s2.heap.objs.size) [z] (.ref s2.heap.objs.size) [v] (fun _ H11=>W (i+1) m' τ8 H11) I10 rfl (.cons an .nil) ⟨_,xs,z,rfl,rfl,hx,hz,am⟩) fun _ ar ⟨_,H11,I11,_,aq⟩=>?_;exact ab I11 ⟨hm,aq⟩
 exact codeAny_compStart_list ac (T.self _ 0 _ _ _ al ac)
theorem cE(hx:∀e s,X.xe e s->False)(hc:X.calm=true)(c:CompOk X scope cl N caps)(hi:PI X tg iter wi)(hg:∀C s H fp,PG (c0 X scope cl C s H fp N) tg g)(ht:∀C s H fp,PTs (c0 X scope cl C s H fp N) ifs tt)(he:∀C s H fp,PE (c0 X scope cl C s H fp N) elt te)
  (hs:∀x,foldedSetIterable iter X.env x=pure x:=by intro _;rfl):PE X (.ListComp elt [⟨tg,iter,ifs,0⟩] scope pos) (lM caps wi g tt te):=by
 intro zk s σ H Q I h;rw[eval_ListComp];refine wpAny_comprehension_free (use:=none) rfl hs c.clos c.kind c.names (thn (hi zk s σ H _ I h) fun v s1 h1=>thn h1 fun ab s2 h2=>?_);obtain⟨it,fp,tn,J,H2,e,I2,T,aa,f2,q2⟩:=h2;subst e;exact EZ (RR:=fun acc C=>compPost (model X.prog X.w) X.A X.xe none (EP X zk σ Q) acc C) hc c I2 T aa f2 hg ht he Q q2 fun D C H' s' m hn _ hb q=>⟨m,hn,fun h' hs=>⟨.ref D,H',hb h' hs,rfl,q⟩⟩
theorem jL{i:Nat}{y:Str}{py aa:Pos}(hx:∀e s,X.xe e s->False)(hc:X.calm=true)(c:CompOk X scope cl N caps)(hN:X.N.Nodup)(ac:X.N[i]?=some y)(hl:X.env.scope.names.lookup y=some .local)(hi:PI X tg iter wi)(hg:∀C s H fp,PG (c0 X scope cl C s H fp N) tg g)
  (ht:∀C s H fp,PTs (c0 X scope cl C s H fp N) ifs tt) (he:∀C s H fp,PE (c0 X scope cl C s H fp N) elt te)
  (hsw:swapsWith (.ListComp elt [⟨tg,iter,ifs,0⟩] scope pos) (some (.Name y py)) aa.line X.env=pure true:=by rfl)
  (hs:∀x,foldedSetIterable iter X.env x=pure x:=by intro _;rfl):PS X (.Assign [.Name y py] (.ListComp elt [⟨tg,iter,ifs,0⟩] scope pos) aa) (qA (lM caps wi g tt te) (j7 i)):=by
 intro zk s σ H D I h;rw[exec_Assign_Name_used _ _ _ _ hsw];refine bo (wpAny_standAt (bo ?_));show dh _ X.A (do let _ <- comprehension (.ListComp elt [⟨tg,iter,ifs,0⟩] scope pos) scope X.env _ (newList []) false (eval iter X.env) (some (assign (.Name y py) X.env))) _ _ s;refine bo (wpAny_mono (wpAny_comprehension_free (use:=some (assign (.Name y py) X.env)) (Q:=fun _ s'=>SP X zk D .next s') rfl hs c.clos c.kind c.names (thn (hi zk s σ H _ I h) fun v s1 h1=>thn h1 fun ae s2 h2=>?_)) (fun _ s' hq=>cq (cq hq)) fun _ _ e=>e);obtain⟨it,fp,tn,J,H2,e,I2,T,ab,f2,q2⟩:=h2;subst e;refine EZ (RR:=fun acc C=>compPost (model X.prog X.w) X.A X.xe (some (assign (.Name y py) X.env)) (fun _ s'=>SP X zk D .next s') acc C) hc c I2 T ab f2 hg ht he (fun v H'=>D.nx (σ.set i (some v)) H') q2 fun Da C H' s' m hn f hb q=>?_;obtain⟨o,es,ep,ho,hd,r⟩:=hn;have I':Inv X zk σ H' s':=hb s'.heap (Heap.SameBut.refl _ _);have I'':Inv X (zk++[(C,o)]) σ H' s':=I'.pins_of fun p hp=>(mem_append.mp hp).elim (fun z=>I'.pin p (gp _ z)) fun z=>by
  cases mem_singleton.mp z;exact⟨ho,f.1,f.2.1,f.2.2.1,fun v e=>by rw[hd]at e;cases e⟩
 refine wpAny_assign_Name (wP I'' hN ac (.inl hl) (show RelV (V.ref Da) (ga Da)from rfl) (fun s2 J2=>?_) (.inr hl));refine⟨m,⟨o,es,ep,(J2.pin (C,o) (gp _ (gp _ (mem_singleton.mpr rfl)))).1,hd,r⟩,fun h' hs=>?_⟩;exact⟨_,H',J2.unpinned.turned (t':=s2.toks) (fun b ob nb e=>hs.extBut b ob nb e) f.1 f.2.1 f.2.2.2.1 f.2.2.2.2.1 f.2.2.2.2.2,q⟩
end
def fN(env:Env):List (Str×ny)->List (Str×Addr)->List (Str×Addr)
 | [],acc=>acc
 | (n,k)::r,acc=>fN env r (if k==.free then (n,(env.cells.lookup n).getD 0)::acc else acc)
theorem Bv{env:Env}{x:Str}{c:Addr}:∀{names:List (Str×ny)}{acc:List (Str×Addr)},(x,c)∈fN env names acc->(x,c)∈acc\/((x,NameKind.free)∈names/\c=(env.cells.lookup x).getD 0)
 | [],_,h=>.inl h
 | (n,k)::r,acc,h=>by
  rcases Bv (names:=r) h with h|⟨h,e⟩
  ·by_cases hk:k==.free
   ·rw[cg hk]at h;rcases mem_cons.mp h with h|h
    ·cases h;have:k=.free:=by simpa using hk
     subst this;exact .inr ⟨df,rfl⟩
    ·exact .inl h
   ·rw[cf hk]at h;exact .inl h
  ·exact .inr ⟨cu _ h,e⟩
theorem Dt{env:Env}{p:Str×Addr}:∀{names:List (Str×ny)}{acc:List (Str×Addr)},p∈acc->p∈fN env names acc
 | [],_,h=>h
 | (n,k)::r,acc,h=>Dt (names:=r) (by split<;>first|exact cu _ h|exact h)
theorem vW{env:Env}{x:Str}:∀{names:List (Str×ny)}{acc:List (Str×Addr)},(x,NameKind.free)∈names->∃c,(x,c)∈fN env names acc
 | (n,k)::r,acc,h=>by
  rcases mem_cons.mp h with h|h
  ·cases h;exact⟨_,Dt (names:=r) (by rw[cg dz];exact df)⟩
  ·exact vW (names:=r) h
theorem yH{β:Type}{x:Str}{c:β}:∀{l:List (Str×β)},(x,c)∈l->∃c',l.lookup x=some c'
 | (n,v)::r,h=>by
  cases e:x==n with
  |true=>exact⟨v,by rw[lx,e]⟩
  |false=>
   rcases mem_cons.mp h with h|h
   ·cases h;simp at e
   ·obtain⟨c',q⟩:=yH (l:=r) h;exact⟨c',by rw[lx,e];exact q⟩
theorem JT{env:Env}{scope:Scope}(h:∀y∈scope.names,y.2=.free->(env.cells.lookup y.1).isSome=true):closureFor scope env=pure (fN env scope.names []):=by
 have go:∀(names:List (Str×ny)) (acc:List (Str×Addr)),(∀y∈names,y.2=.free->(env.cells.lookup y.1).isSome=true) ->
   (forIn names acc (fun(x:Str×ny) (cs:List (Str×Addr))=>(if x.2==.free then (do let c <- cellOf env x.1;pure (qh ((x.1,c)::cs)))else pure (qh cs):Sem (ForInStep (List (Str×Addr))))))=(pure (fN env names acc):Sem (List (Str×Addr))):=by
  intro names;induction names with
  |nil=>intro acc _;rfl
  |cons y r ih=>
   intro acc hy;obtain⟨n,k⟩:=y;rw[forIn_cons];by_cases hk:k==.free
   ·have hs:=hy (n,k) df (by simpa using hk);obtain⟨c,hc⟩:=isSome_iff_exists.mp hs;have aa:env.cells.lookup n=some c:=hc;simp only[hk,if_true,cellOf,aa,pure_bind,fN,Option.getD_some];exact ih _ fun y q=>hy y (cu _ q)
   ·simp only[hk,fg,if_false,pure_bind,fN];exact ih _ fun y q=>hy y (cu _ q)
 have g:=go scope.names [] h;exact(bind_pure _).trans g
def bA(DN:List Str)(dsc sc:List (Str×ny))(N:List Str)(caps:List (Option Nat)):Bool:=
 (caps.length==N.length)&&sc.all (fun y=>y.2 != .cell&&(y.2 != .free||dsc.lookup y.1==some .cell)&&(y.2 != .local||sc.lookup y.1==some .local)) &&
 (caps.zip N).all fun p=>match p.1 with|none=>true|some i=>DN[i]?==some p.2&&dsc.lookup p.2==some .cell&&sc.lookup p.2==some .free
theorem yY{dsc:List (Str×ny)}{env:Env}{x:Str}{k:ny}:∀{names:List (Str×ny)},(names.map fun(n,k)=>if (k==.free&&env.scope.kind==.function&&env.kindOf n==some .cell)then (n,.cell)else (n,k)).lookup x=some k ->
  ∃k',names.lookup x=some k'/\(k'=k\/(k'=.free/\k=.cell))
 | [],h=>by simp at h
 | (n,k0)::r,h=>by
  cases e:x==n with
  |true=>
   refine⟨k0,by rw[lx,e],?_⟩;rw[fm]at h;dsimp only at h;split at h
   ·rename_i hc;rw[lx,e]at h;have:k0=.free:=by simp at hc;exact hc.1.1
    cases h;exact .inr ⟨this,rfl⟩
   ·rw[lx,e]at h;cases h;exact .inl rfl
  |false=>
   rw[fm]at h;dsimp only at h;have h':(r.map fun(n,k)=>if (k==NameKind.free&&env.scope.kind==.function&&env.kindOf n==some .cell)then (n,NameKind.cell)else (n,k)).lookup x=some k:=by
    split at h<;>(rw[lx,e]at h;exact h)
   obtain⟨k',q,z⟩:=yY (dsc:=dsc) h';exact⟨k',by rw[lx,e];exact q,z⟩
theorem Aa{env:Env}{x:Str}(h1:env.scope.kind=.function)(h2:env.kindOf x=some .cell):∀{names:List (Str×ny)},names.lookup x=some .free ->
  (names.map fun(n,k)=>if (k==.free&&env.scope.kind==.function&&env.kindOf n==some .cell)then (n,.cell)else (n,k)).lookup x=some .cell
 | [],h=>by simp at h
 | (n,k0)::r,h=>by
  rw[fm];cases e:x==n with
  |true=>
   rw[lx,e]at h;cases h;have en:x=n:=by simpa using e
   subst en;dsimp only;rw[cg (by rw[h1,h2];decide),lx,e]
  |false=>
   rw[lx,e]at h;have ih:=Aa h1 h2 (names:=r) h;dsimp only;split<;>(rw[lx,e];exact ih)
theorem zI{X:Cx}{dsc:Scope}{L:Nat}{scope:Scope}{N:List Str}{caps:List (Option Nat)}(hd:X.env.scope=dsc)(hc:X.env.cells=cellsFrom L dsc.names [])(ag:dsc.kind=.function)(hk:scope.kind=.function)(h:bA X.N dsc.names scope.names N caps=true):
  CompOk X scope (fN X.env scope.names []) N caps:=by
 subst hd;simp only[bA,gf,ki,beq_iff_eq]at h;obtain⟨⟨hl,hs⟩,hz⟩:=h;have ac:∀y∈scope.names,y.2=.free->X.env.scope.names.lookup y.1=some .cell:=fun y hy e=>by
  have q:=(hs y hy).1.2;rw[e]at q;simpa using q
 have ab:∀y∈scope.names,y.2≠.cell:=fun y hy e=>by
  have q:=(hs y hy).1.1;rw[e]at q;simp at q
 have aa:∀x,X.env.scope.names.lookup x=some .cell->(X.env.cells.lookup x).isSome=true:=fun x e=>by
  rw[hc];exact W.cellsFrom_some _ _ _ (.inl e)
 have sub:∀x c,(fN X.env scope.names []).lookup x=some c->X.env.cells.lookup x=some c:=fun x c e=>by
  rcases Bv (PySem.mem_of_lookup e)with q|⟨q,ec⟩
  ·cases q
  ·obtain⟨c',ae⟩:=isSome_iff_exists.mp (aa x (ac _ q rfl));rw[ec,ae];rfl
 refine⟨JT fun y hy e=>aa y.1 (ac y hy e),sub,hk,ab,fun y hy e=>?_,fun x hx=>?_,fun j i x h1 h2=>?_,hl⟩
 ·have q:=(hs y hy).2;rw[e]at q;simpa using q
 ·have fin:(x,NameKind.free)∈scope.names->∃c,(fN X.env scope.names []).lookup x=some c:=fun m=>by
   obtain⟨c,hm⟩:=vW (env:=X.env) (acc:=[]) m;exact yH hm
  rcases hx with hx|hx
  ·obtain⟨k',q,z⟩:=yY (dsc:=[]) hx;rcases z with rfl|⟨rfl,_⟩
   ·exact absurd rfl (ab _ (PySem.mem_of_lookup q))
   ·exact fin (PySem.mem_of_lookup q)
  ·obtain⟨k',q,z⟩:=yY (dsc:=[]) hx;rcases z with rfl|⟨_,z⟩
   ·exact fin (PySem.mem_of_lookup q)
   ·cases z
 ·have hm:(some i,x)∈caps.zip N:=by
   have:(caps.zip N)[j]?=some (some i,x):=by rw[lg];exact⟨h1,h2⟩
   exact bu this
  have q:=hz _ hm;simp only[gf,beq_iff_eq]at q;obtain⟨⟨q1,q2⟩,q3⟩:=q;obtain⟨c,af⟩:=vW (env:=X.env) (acc:=[]) (PySem.mem_of_lookup q3);obtain⟨c',ae⟩:=yH af;refine⟨q1,.inr (.inl q2),fun z=>?_,c',ae,.inl (Aa ag q2 q3)⟩;have z':X.env.scope.names.lookup x=some .local:=z;rw[q2]at z';cases z'
end
section
section
variable {X:Cx}
def CO:R2:=fun x y H Q=>∃z n,x=.str z/\y=.int n/\z.length<=1000/\n<=1000/\-1000<=n/\Q (.str (PySem.Txt.mul z n)) H
theorem GB{z:Str}{n:Int}(h1:z.length<=1000)(h2:n<=1000)(h3:-1000<=n):PySem.MulOk z n:=by
 refine⟨by simp;omega,fun a _ b=>?_,fun a _=>?_⟩
 ·have e:(1000:Int)<=(2 ^ 63-1)/n:=by
   rw[Int.le_ediv_iff_mul_le yw];have:=Int.mul_le_mul_of_nonneg_left h2 (show (0:Int)<=1000 by decide);omega
  omega
 ·have e:z.length*n.toNat<=1000*1000:=mul_le_mul h1 yw;unfold Builtin.Str.tooLong;simp only[decide_eq_false_iff_not,Nat.not_lt];exact jn e dz
theorem Ir:OpR X (lf .Mult) CO:=by
 intro zk s σ H x y v u Q I rx ry h;obtain⟨z,n,rfl,rfl,h1,h2,h3,q⟩:=h;obtain⟨t,rfl⟩:=rx;obtain⟨t',rfl⟩:=ry;exact PySem.SB.mul (GB h1 h2 h3) fun _ k=>⟨.str _,H,I.tok _,⟨_,rfl⟩,q⟩
def Dn:V->Option Int->Option Int->Hp->VK->Prop:=fun x lo hi H Q=>∃z,x=.str z/\z.length<=fe/\Q (.str (PySem.Txt.slice z lo hi)) H
theorem Hc:SlR X Dn:=by
 intro zk s σ H x v vl vu lo hi sl Q I rx hs pl pu h;obtain⟨z,rfl,hz,q⟩:=h;obtain⟨t,rfl⟩:=rx;refine⟨"str",_,F.slot_str_getitem.lookup,typeIs_str _ _ _,?_⟩;have fin:∀(a b:Option (Int×Tok)),a.map (·.1)=lo->b.map (·.1)=hi->s.heap.IsSlice sl a b none->dh (model X.prog X.w) X.A (getItem (.str z t) (.ref sl)) (EP X zk σ Q) X.xe s:=fun a b e1 e2 aa=>by
  subst e1 e2;exact wpAny_getItem_str_slice (l:=a) (u:=b) (st:=none) aa rfl (post_val_or_str ⟨jn (PySem.Txt.slice_le z _ _) hz,fun _ k=>⟨.str _,H,I.tok _,⟨_,rfl⟩,q⟩⟩)
 cases pl with
 |none=>
  cases pu with
  |none=>exact fin none none rfl rfl hs
  |int j tj=>exact fin none (some (j,tj)) rfl rfl hs
 |int i ti=>
  cases pu with
  |none=>exact fin (some (i,ti)) none rfl rfl hs
  |int j tj=>exact fin (some (i,ti)) (some (j,tj)) rfl rfl hs
theorem Bc:∀{zs:List Str}{us:List bp},Vals (zs.map V.str) us->StrsAre us zs
 | [],_,.nil=>.nil
 |z::zs,_,.cons r t=>by
  obtain⟨tk,rfl⟩:=r;exact .cons z tk (Bc t)
def Do(K:cy):V->List V->Hp->VK->Prop:=fun x vs H Q=>∃z a zs,x=.str z/\vs=[.ref a]/\SqL K H a (zs.map V.str)/\z.length<=16/\zs.length<=1000/\(∀y∈zs,y.length<=1000)/\Q (.str (PySem.Txt.join z zs)) H
theorem Bh{zs:List Str}(h:∀y∈zs,y.length<=1000):(zs.map (·.length)).sum<=zs.length*1000:=by
 induction zs with
 |nil=>simp
 |cons z zs ih=>
  have h1:=h z df;have h2:=ih fun y hy=>h y (cu _ hy);simp only[fm,sum_cons,ft,Nat.add_mul,Nat.one_mul];omega
theorem Jq:MtR X "str.join" (Do X.K):=by
 intro zk s σ H x vs v us Q I rx rv h;obtain⟨z,a,zs,rfl,rfl,hq,hz,hn,hl,q⟩:=h;obtain⟨t,rfl⟩:=rx;obtain⟨u,rfl,r1⟩:=rv.one;cases r1;obtain⟨aa,r,pl,hsz⟩:=I.list hq;have hs:=Bh hl;refine join_listW pl.isList (by simpa using Bc r) hz yw fun _ k=>⟨.str _,H,I.tok _,⟨_,rfl⟩,q⟩
end
section
variable {K:cy}{o:List Addr}{σ:St}{H0:Hp}{t:TE}{ta:TA}{ds:List bn}
def f7(lo:Int)(n:Nat):List bn:=(fq n).map fun k:Nat=>.int (lo+k)
theorem eV{lo:Int}{n:Nat}:(f7 lo n).length=n:=by simp[f7]
theorem fH{lo:Int}{n i:Nat}{d:bn}(h:(f7 lo n)[i]?=some d):i<n/\d=.int (lo+i):=by
 have hi:i<n:=by
  have:=List.getElem?_eq_some_iff.mp h;obtain⟨hl,_⟩:=this
  rwa [eV]at hl
 refine⟨hi,?_⟩;simp only[f7,im,List.getElem?_range hi,map_some,Option.some.injEq]at h;exact h.symm
end
theorem K5{y:Str}{zs:List Str}(hy:y.length<=16)(hz:∀z∈zs,z.length<=1000):(PySem.Txt.join y zs).length<=zs.length*1016:=by
 show (Builtin.Str.glued y zs).length<=_;rw[StrLaws.glued_eq_join];cases zs with
 |nil=>exact lc _
 |cons a r=>
  rw[len_join_cons];have h1:=Bh hz;have h2:r.length*y.length<=r.length*16:=Nat.mul_le_mul_left _ hy;simp only[ft]at h1 ⊢;omega
def aL{α:Type}(xs:List α)(lo hi:Option Int):List α:=(xs.drop (HT.sIx xs.length 0 lo)).take (HT.sIx xs.length xs.length hi-HT.sIx xs.length 0 lo)
theorem oZ{α:Type}(xs:List α)(lo hi:Option Int):(aL xs lo hi).length<=xs.length:=by
 unfold aL;rw[nz,length_drop];omega
theorem HasL.drop{H:Hp}:∀{ds:List bn}{vs:List V} (n:Nat),HasL H ds vs->HasL H (ds.drop n) (vs.drop n)
 |ds,vs,0,h=>h
 | [],vs,n+1,h=>by rw[zR.mp h];exact zR.mpr rfl
 |d::ds,vs,n+1,h=>by
  obtain⟨v,r,rfl,_,l⟩:=zG.mp h;exact HasL.drop n l
theorem HasL.take{H:Hp}:∀{ds:List bn}{vs:List V} (n:Nat),HasL H ds vs->HasL H (ds.take n) (vs.take n)
 |ds,vs,0,h=>zR.mpr rfl
 | [],vs,n+1,h=>by rw[zR.mp h];exact zR.mpr rfl
 |d::ds,vs,n+1,h=>by
  obtain⟨v,r,rfl,q,l⟩:=zG.mp h;exact zG.mpr ⟨v,_,rfl,q,HasL.take n l⟩
theorem HasL.cut{H:Hp}{ds:List bn}{vs:List V}(lo hi:Option Int)(h:HasL H ds vs):HasL H (aL ds lo hi) (eK vs lo hi):=by
 unfold aL eK;rw[h.length];exact(h.drop _).take _
theorem HasL.rev{H:Hp}:∀{ds:List bn}{vs:List V},HasL H ds vs->HasL H ds.reverse vs.reverse
 | [],vs,h=>by rw[zR.mp h];exact zR.mpr rfl
 |d::ds,vs,h=>by
  obtain⟨v,r,rfl,q,l⟩:=zG.mp h;rw[reverse_cons,reverse_cons];exact(HasL.rev l).append (zG.mpr ⟨v,[],rfl,q,zR.mpr rfl⟩)
end
section
theorem AN:∀{l:List Addr}{H:Hp}{b:Addr}{u:HO},vw l H b=some u↔b∉l/\H b=some u
 | [],H,b,u=>by simp[vw]
 |a::r,H,b,u=>by
  show hid a (vw r H) b=some u↔_;by_cases h:b=a
  ·subst h;simp[Ew]
  ·rw[Jh h,AN];simp[h]
def vx(h o:List Addr)(H:Hp):Hp:=vw (h++o) H
theorem aW{h o:List Addr}{H:Hp}{b:Addr}{u:HO}:vx h o H b=some u↔b∉h/\b∉o/\H b=some u:=by
 unfold vx;rw[AN];simp[and_assoc]
theorem cF{h o:List Addr}{H:Hp}:Same (vx h o H) H:=fun b u e=>(aW.mp e).2.2
theorem l5{h o:List Addr}{H H':Hp}(s:Same H H'):Same (vx h o H) (vx h o H'):=fun b u e=>by
 obtain⟨h1,h2,h3⟩:=aW.mp e;exact aW.mpr ⟨h1,h2,s b u h3⟩
structure Ex(o:List Addr)(H:Hp)(o':List Addr)(H':Hp):Prop where
 pre:∃r,o'=o++r
 kp:∀b u,b∉o->H b=some u->b∉o'/\H' b=some u
section
variable {h o o' o'':List Addr}{H H' H'':Hp}{S:List (List bn)}{p a:Addr}
theorem Ex.refl:Ex o H o H:=⟨⟨[],yv⟩,fun _ _ a b=>⟨a,b⟩⟩
theorem Ex.trans(a:Ex o H o' H')(b:Ex o' H' o'' H''):Ex o H o'' H'':=by
 obtain⟨⟨r,e⟩,ka⟩:=a;obtain⟨⟨t,e'⟩,kb⟩:=b;refine⟨⟨r++t,by rw[e',e,gv]⟩,fun b u h1 h2=>?_⟩;obtain⟨h3,h4⟩:=ka b u h1 h2;exact kb b u h3 h4
theorem Ex.vx(e:Ex o H o' H'):Same (L2.vx h o H) (L2.vx h o' H'):=fun b u q=>by
 obtain⟨h1,h2,h3⟩:=aW.mp q;obtain⟨h4,h5⟩:=e.kp b u h2 h3;exact aW.mpr ⟨h1,h4,h5⟩
structure ExH(h o:List Addr)(H:Hp)(o':List Addr)(H':Hp):Prop where
 pre:∃r,o'=o++r
 kp:∀b u,b∉h->b∉o->H b=some u->b∉o'/\H' b=some u
theorem Ex.hid(e:Ex o H o' H'):ExH h o H o' H':=⟨e.pre,fun b u _=>e.kp b u⟩
theorem ExH.refl:ExH h o H o H:=Ex.refl.hid
theorem ExH.trans(a:ExH h o H o' H')(b:ExH h o' H' o'' H''):ExH h o H o'' H'':=by
 obtain⟨⟨r,e⟩,ka⟩:=a;obtain⟨⟨t,e'⟩,kb⟩:=b;refine⟨⟨r++t,by rw[e',e,gv]⟩,fun b u h0 h1 h2=>?_⟩;obtain⟨h3,h4⟩:=ka b u h0 h1 h2;exact kb b u h0 h3 h4
theorem ExH.vx(e:ExH h o H o' H'):Same (L2.vx h o H) (L2.vx h o' H'):=fun b u q=>by
 obtain⟨h1,h2,h3⟩:=aW.mp q;obtain⟨h4,h5⟩:=e.kp b u h1 h2 h3;exact aW.mpr ⟨h1,h4,h5⟩
theorem Ex.of_same(s:Same H H'):Ex o H o H':=⟨⟨[],yv⟩,fun b u h e=>⟨h,s b u e⟩⟩
theorem j6{α:Type}{l t:List α}{k:Nat}{a:α}(q:l[k]?=some a):(l++t)[k]?=some a:=by
 obtain⟨hk,_⟩:=List.getElem?_eq_some_iff.mp q;rw[fk hk];exact q
def exO(a C:Addr)(d:Option Addr):HO:=.ext fun h=>∃o,h.get? a=some o/\o.cls=.ref C/\o.dict=d/\∃vs,o.data=.fields vs
def xw(dx:Addr)(fs:List (Str×V)):HO:=.ext fun h=>∃mA,h.Ns1 dx mA/\(∀f,RelO (fs.lookup f) (mA f))/\PySem.Within mA (fs.map (·.1))
def HasE(H:Hp)(C:Addr)(fs:List (Str×bn))(v:V):Prop:=∃a d,v=.ref a/\H a=some (exO a C d)/\∀f dt,fs.lookup f=some dt->∃dx vs u,d=some dx/\H dx=some (xw dx vs)/\vs.lookup f=some u/\Has H dt u
theorem HasE.mono{H H':Hp}{C:Addr}{fs:List (Str×bn)}{v:V}(s:Same H H')(q:HasE H C fs v):HasE H' C fs v:=by
 obtain⟨a,d,e,ha,hf⟩:=q;refine⟨a,d,e,s _ _ ha,fun f dt l=>?_⟩;obtain⟨dx,vs,u,e1,e2,e3,e4⟩:=hf f dt l;exact⟨dx,vs,u,e1,s _ _ e2,e3,Has.mono s _ _ e4⟩
inductive XV where
 |d (d:bn)
 |l (k:Nat)
 |o (v:V)
 |x (C:Addr) (fs:List (Str×bn))
def HasX(h o:List Addr)(H:Hp):XV->V->Prop
 | .d d,v=>Has (vx h o H) d v
 | .l k,v=>∃a,o[k]?=some a/\v=.ref a
 | .o w,v=>v=w
 | .x C fs,v=>HasE (vx h o H) C fs v
theorem HasX.mono(e:Ex o H o' H'):∀{x:XV}{v:V},HasX h o H x v->HasX h o' H' x v
 | .d d,v,q=>Has.mono e.vx d v q
 | .l k,v,⟨a,q,r⟩=>by
  obtain⟨t,rfl⟩:=e.pre;exact⟨a,j6 q,r⟩
 | .o w,v,q=>q
 | .x C fs,v,q=>HasE.mono e.vx q
def HasXs(h o:List Addr)(H:Hp):List XV->List V->Prop
 | [],vs=>vs=[]
 |x::xs,vs=>∃v r,vs=v::r/\HasX h o H x v/\HasXs h o H xs r
abbrev Sto:=List (List bn)
inductive MO where
 |l (vs:List V)
 |k (m:List (Key×V))
 |t (m:List (List Key×V))
 |x (a:Addr) (ob:Obj)
def MO.ho:MO->HO
 | .l vs=>.lst vs
 | .k m=>.dK m
 | .t m=>.dT m
 | .x a ob=>obO a ob
structure RepS(h o:List Addr)(H:Hp)(S:Sto):Prop where
 len:S.length=o.length
 nd:o.Nodup
 dis:∀a∈o,a∉h
 hal:∀b∈h,∃u:MO,H b=some u.ho
 cont:∀(k:Nat) (a:Addr) (ds:List bn),o[k]?=some a->S[k]?=some ds->∃vs,H a=some (.lst vs)/\HasL (vx h o H) ds vs
theorem F7{α β:Type}{l:List α}{t:List β}{k:Nat}{a:α}(hl:t.length=l.length)(q:l[k]?=some a):∃b,t[k]?=some b:=by
 obtain⟨hk,_⟩:=List.getElem?_eq_some_iff.mp q;exact⟨t[k]'yw,cn _⟩
theorem RepS.oal(r:RepS h o H S):∀a∈o,∃u,H a=some (.lst u):=fun a ha=>by
 obtain⟨k,hk⟩:=mem_iff_getElem?.mp ha;obtain⟨ds,e⟩:=F7 r.len hk;obtain⟨vs,e',_⟩:=r.cont k a ds hk e;exact⟨_,e'⟩
theorem RepS.oam(r:RepS h o H S):∀a∈o,∃u:MO,H a=some u.ho:=fun a ha=>let ⟨u,e⟩:=r.oal a ha;⟨.l u,e⟩
theorem RepS.fresh(r:RepS h o H S)(hp:H p=none):p∉h/\p∉o:=by
 constructor
 ·intro m;obtain⟨u,e⟩:=r.hal p m;rw[hp]at e;cases e
 ·intro m;obtain⟨u,e⟩:=r.oal p m;rw[hp]at e;cases e
theorem RepS.same(r:RepS h o H S)(s:Same H H'):RepS h o H' S where
 len:=r.len
 nd:=r.nd
 dis:=r.dis
 hal:=fun b m=>by obtain⟨u,e⟩:=r.hal b m;exact⟨u,s b _ e⟩
 cont:=fun k a ds e1 e2=>by
  obtain⟨vs,e3,l⟩:=r.cont k a ds e1 e2;exact⟨vs,s _ _ e3,HasL.mono (l5 s) _ _ l⟩
theorem RepS.laid{u:HO}(r:RepS h o H S)(hp:H p=none):vx h o (upd H p u) p=some u:=by
 obtain⟨h1,h2⟩:=r.fresh hp;exact aW.mpr ⟨h1,h2,dM⟩
theorem Ex.new{u:HO}(r:RepS h o H S)(hp:H p=none):Ex o H (o++[p]) (upd H p u):=by
 refine⟨⟨[p],rfl⟩,fun b w hb e=>?_⟩;have ne:b≠p:=dY e hp;exact⟨by simp[hb,ne],by rw[zZ ne];exact e⟩
theorem pK{α:Type}{l:List α}{a:α}(h:l.Nodup)(n:a∉l):(l++[a]).Nodup:=by
 rw[nodup_append];refine⟨h,yv,fun x hx y hy e=>?_⟩;rw[mem_singleton]at hy;subst hy;subst e;exact n hx
theorem RepS.new{ds:List bn}{vs:List V}(r:RepS h o H S)(hp:H p=none)(l:HasL (vx h o H) ds vs):RepS h (o++[p]) (upd H p (.lst vs)) (S++[ds]):=by
 obtain⟨h1,h2⟩:=r.fresh hp;have ex:Ex o H (o++[p]) (upd H p (.lst vs)):=Ex.new r hp;refine⟨by simp[r.len],pK r.nd h2,fun a ha=>?_,fun b hb=>?_,fun k a es e1 e2=>?_⟩
 ·rcases mem_append.mp ha with ha|ha
  ·exact r.dis a ha
  ·rw[mem_singleton.mp ha];exact h1
 ·obtain⟨u,e⟩:=r.hal b hb;exact⟨u,by rw[zZ (dY e hp)];exact e⟩
 ·by_cases hk:k<o.length
  ·rw[fk hk]at e1;rw[fk (by rw[r.len];exact hk)]at e2;obtain⟨ws,e3,l3⟩:=r.cont k a es e1 e2;refine⟨ws,?_,l3.mono ex.vx⟩;rw[zZ (dY e3 hp)];exact e3
  ·have aa:k=o.length:=by
    obtain⟨q,_⟩:=List.getElem?_eq_some_iff.mp e1;rw[cx,gr]at q;omega
   subst aa;rw[cz]at e1;rw[<- r.len,cz]at e2;cases e1;cases e2;exact⟨vs,dM,l.mono ex.vx⟩
theorem Ex.upd{k:Nat}{u:HO}(e:o[k]?=some a):Ex o H o (L2.upd H a u):=
 ⟨⟨[],yv⟩,fun b w hb eb=>⟨hb,by rw[zZ (fun z=>hb (by rw[z];exact bu e))];exact eb⟩⟩
theorem uJ{l:List Addr}(h:l.Nodup){i j:Nat}{a:Addr}(e1:l[i]?=some a)(e2:l[j]?=some a):i=j:=by
 obtain⟨hi,e1⟩:=List.getElem?_eq_some_iff.mp e1;obtain⟨hj,e2⟩:=List.getElem?_eq_some_iff.mp e2;exact(List.getElem_inj h).mp (e1.trans e2.symm)
theorem RepS.upd{k:Nat}{ds:List bn}{vs:List V}(r:RepS h o H S)(e:o[k]?=some a)(l:HasL (vx h o H) ds vs):RepS h o (L2.upd H a (.lst vs)) (S.set k ds):=by
 have ex:Ex o H o (L2.upd H a (.lst vs)):=Ex.upd e;refine⟨by simp[r.len],r.nd,r.dis,fun b hb=>?_,fun j b es e1 e2=>?_⟩
 ·obtain⟨u,eb⟩:=r.hal b hb;have ne:b≠a:=fun z=>r.dis a (bu e) (z▸hb);exact⟨u,by rw[zZ ne];exact eb⟩
 ·by_cases hj:j=k
  ·subst hj;rw[e1]at e;cases e;obtain⟨hk,_⟩:=List.getElem?_eq_some_iff.mp e1;rw[nv (by rw[r.len];exact hk)]at e2;cases e2;exact⟨vs,dM,l.mono ex.vx⟩
  ·rw[rc (jg hj)]at e2;obtain⟨ws,e3,l3⟩:=r.cont j b es e1 e2;have ne:b≠a:=fun z=>hj (uJ r.nd e1 (z▸e));exact⟨ws,by rw[zZ ne];exact e3,l3.mono ex.vx⟩
abbrev XE:=List (Option XV)
structure RepE(h o:List Addr)(H:Hp)(δ:XE)(σ:St):Prop where
 len:δ.length=σ.length
 get:∀(i:Nat) x,δ[i]?=some (some x)->∃v,σ[i]?=some (some v)/\HasX h o H x v
variable {δ:XE}{σ:St}
theorem RepE.mono(r:RepE h o H δ σ)(e:Ex o H o' H'):RepE h o' H' δ σ:=⟨r.len,fun i x q=>by
 obtain⟨v,e1,e2⟩:=r.get i x q;exact⟨v,e1,e2.mono e⟩⟩
theorem RepE.set{i:Nat}{x:XV}{v:V}(r:RepE h o H δ σ)(q:HasX h o H x v):RepE h o H (δ.set i (some x)) (σ.set i (some v)):=by
 refine⟨by simp[r.len],fun j y e=>?_⟩;rw[List.getElem?_set]at e ⊢;by_cases hij:i=j
 ·rw[cg hij]at e ⊢;by_cases hl:i<δ.length
  ·rw[cg hl]at e;rw[cg (by rw[<- r.len];exact hl)];cases e;exact⟨v,rfl,q⟩
  ·rw[cf hl]at e;cases e
 ·rw[cf hij]at e ⊢;exact r.get j y e
def fO(caps:List (Option Nat))(δ:XE):XE:=caps.map fun o=>o.bind fun i=>(δ[i]?).join
theorem RepE.tau{caps:List (Option Nat)}(r:RepE h o H δ σ):RepE h o H (fO caps δ) (L2.tau caps σ):=by
 refine⟨by simp[fO,L2.tau],fun i x e=>?_⟩;unfold fO at e;unfold L2.tau;rw[im]at e ⊢;cases hc:caps[i]? with
 |none=>rw[hc]at e;cases e
 |some c=>
  rw[hc]at e;cases c with
  |none=>cases e
  |some j=>
   have e':(δ[j]?).join=some x:=by simpa using e
   have e2:δ[j]?=some (some x):=by
    cases hd:δ[j]? with
    |none=>rw[hd]at e';cases e'
    |some y=>rw[hd]at e';exact congrArg some (by simpa using e')
   obtain⟨v,e3,e4⟩:=r.get j x e2;exact⟨v,by simp[e3],e4⟩
end
abbrev RX:=XV->Sto->Prop
abbrev DE:=XE->Sto->RX->Prop
abbrev DT:=XE->Sto->(Bool->Sto->Prop)->Prop
abbrev DA:=XE->Sto->(List XV->Sto->Prop)->Prop
abbrev D2:=XV->XV->Sto->RX->Prop
def Cn(h o:List Addr)(H:Hp)(R:RX)(Q:VK):Prop:=∀o' H' S' x v,Ex o H o' H'->RepS h o' H' S'->HasX h o' H' x v->R x S'->Q v H'
theorem Cn.pre{h o o':List Addr}{H H':Hp}{R:RX}{Q:VK}(c:Cn h o H R Q)(e:Ex o H o' H'):Cn h o' H' R Q:=fun o2 H2 S2 x v e2=>c o2 H2 S2 x v (e.trans e2)
def RE(t:TE)(dt:DE):Prop:=∀(h o:List Addr) (H:Hp) (δ:XE) (σ:St) (S:Sto) (R:RX) (Q:VK),RepE h o H δ σ->RepS h o H S->dt δ S R->Cn h o H R Q->t σ H Q
def RT(t:TT)(dt:DT):Prop:=∀(h o:List Addr) (H:Hp) (δ:XE) (σ:St) (S:Sto) (R:Bool->Sto->Prop) (Q:Bool->Hp->Prop),RepE h o H δ σ->RepS h o H S->dt δ S R ->
 (∀o' H' S' b,Ex o H o' H'->RepS h o' H' S'->R b S'->Q b H')->t σ H Q
def RA(t:TA)(dt:DA):Prop:=∀(h o:List Addr) (H:Hp) (δ:XE) (σ:St) (S:Sto) (R:List XV->Sto->Prop) (Q:List V->Hp->Prop),RepE h o H δ σ->RepS h o H S->dt δ S R ->
 (∀o' H' S' xs vs,Ex o H o' H'->RepS h o' H' S'->HasXs h o' H' xs vs->R xs S'->Q vs H')->t σ H Q
def RO(r:R2)(rd:D2):Prop:=∀(h o:List Addr) (H:Hp) (S:Sto) (x y:XV) (v u:V) (R:RX) (Q:VK),RepS h o H S->HasX h o H x v->HasX h o H y u->rd x y S R->Cn h o H R Q->r v u H Q
def RU(r:V->Hp->VK->Prop)(rd:XV->Sto->RX->Prop):Prop:=∀(h o:List Addr) (H:Hp) (S:Sto) (x:XV) (v:V) (R:RX) (Q:VK),RepS h o H S->HasX h o H x v->rd x S R->Cn h o H R Q->r v H Q
def RC(r:List V->Hp->VK->Prop)(rd:List XV->Sto->RX->Prop):Prop:=∀(h o:List Addr) (H:Hp) (S:Sto) (xs:List XV) (vs:List V) (R:RX) (Q:VK),RepS h o H S->HasXs h o H xs vs->rd xs S R->Cn h o H R Q->r vs H Q
def asI:XV->(Int->Prop)->Prop
 | .d (.int i),k=>k i
 |_,_=>False
def asB:XV->(Bool->Prop)->Prop
 | .d (.bool i),k=>k i
 |_,_=>False
def asS:XV->(Str->Prop)->Prop
 | .d (.str i),k=>k i
 |_,_=>False
def asT:XV->(List bn->Prop)->Prop
 | .d (.tuple i),k=>k i
 |_,_=>False
def fV(S:Sto):XV->Option (List bn)
 | .d (.list ds)=>some ds
 | .l k=>S[k]?
 |_=>none
def asL(S:Sto)(x:XV)(k:List bn->Prop):Prop:=∃ds,fV S x=some ds/\k ds
def dZ(S:Sto):XV->Option bn
 | .d d=>some d
 | .l k=>(S[k]?).map .list
 | .o _=>none
 | .x _ _=>none
def asD(x:XV)(k:bn->Prop):Prop:=match x with
 | .d d=>k d
 |_=>False
theorem cV{x:XV}{k:Int->Prop}(h:asI x k):∃i,x=.d (.int i)/\k i:=by
 unfold asI at h;split at h
 ·exact⟨_,rfl,h⟩
 ·exact h.elim
theorem oD{x:XV}{k:Bool->Prop}(h:asB x k):∃i,x=.d (.bool i)/\k i:=by
 unfold asB at h;split at h
 ·exact⟨_,rfl,h⟩
 ·exact h.elim
theorem uW{x:XV}{k:Str->Prop}(h:asS x k):∃i,x=.d (.str i)/\k i:=by
 unfold asS at h;split at h
 ·exact⟨_,rfl,h⟩
 ·exact h.elim
theorem hX{x:XV}{k:List bn->Prop}(h:asT x k):∃i,x=.d (.tuple i)/\k i:=by
 unfold asT at h;split at h
 ·exact⟨_,rfl,h⟩
 ·exact h.elim
theorem iD{x:XV}{k:bn->Prop}(h:asD x k):∃i,x=.d i/\k i:=by
 unfold asD at h;split at h
 ·exact⟨_,rfl,h⟩
 ·exact h.elim
section
variable {h o:List Addr}{H:Hp}{S:Sto}{x:XV}{v:V}{i:Int}{b:Bool}{z:Str}{ds:List bn}{d:bn}
theorem cU(q:HasX h o H (.d (.int i)) v):v=.int i:=(fY (H:=vx h o H)).mp q
theorem kE(q:HasX h o H (.d (.bool b)) v):v=.bl b:=(jU (H:=vx h o H)).mp q
theorem fQ(q:HasX h o H (.d (.str z)) v):v=.str z:=(iB (H:=vx h o H)).mp q
theorem eW(q:HasX h o H (.d (.tuple ds)) v):∃a vs,v=.ref a/\H a=some (.tup vs)/\HasL (vx h o H) ds vs:=by
 obtain⟨a,vs,e,q,l⟩:=eQ.mp (show Has _ _ _ from q);exact⟨a,vs,e,cF _ _ q,l⟩
theorem c8(r:RepS h o H S)(e:fV S x=some ds)(q:HasX h o H x v):∃a vs,v=.ref a/\H a=some (.lst vs)/\HasL (vx h o H) ds vs:=by
 unfold fV at e;split at e
 ·cases e;obtain⟨a,vs,e,q,l⟩:=f8.mp (show Has _ _ _ from q);exact⟨a,vs,e,cF _ _ q,l⟩
 ·obtain⟨a,e1,rfl⟩:=q;obtain⟨vs,e2,l⟩:=r.cont _ a ds e1 e;exact⟨a,vs,rfl,e2,l⟩
 ·cases e
theorem gW(r:RepS h o H S)(e:dZ S x=some d)(q:HasX h o H x v):Has H d v:=by
 unfold dZ at e;split at e
 ·cases e;exact Has.mono cF _ _ q
 ·rename_i k;obtain⟨a,e1,rfl⟩:=q;cases hs:S[k]? with
  |none=>rw[hs]at e;cases e
  |some es=>
   rw[hs]at e;cases e;obtain⟨vs,e2,l⟩:=r.cont k a es e1 hs;exact f8.mpr ⟨a,vs,rfl,e2,HasL.mono cF _ _ l⟩
 ·cases e
 ·cases e
theorem xI(i:Int):HasX h o H (.d (.int i)) (.int i):=(fY (H:=vx h o H)).mpr rfl
theorem xB(i:Bool):HasX h o H (.d (.bool i)) (.bl i):=(jU (H:=vx h o H)).mpr rfl
theorem xS(i:Str):HasX h o H (.d (.str i)) (.str i):=(iB (H:=vx h o H)).mpr rfl
theorem xN:HasX h o H (.d .none) .non:=(mG (H:=vx h o H)).mpr rfl
theorem n8{vs:List V}{R:RX}{Q:VK}(r:RepS h o H S)(l:HasL (vx h o H) ds vs)(c:Cn h o H R Q)(q:R (.d (.tuple ds)) S):∀p,H p=none->Q (.ref p) (upd H p (.tup vs)):=fun p hp=>
 c o _ S (.d (.tuple ds)) _ (Ex.of_same (Same.laid hp)) (r.same (Same.laid hp)) (eQ.mpr ⟨p,vs,rfl,r.laid hp,l.mono (l5 (Same.laid hp))⟩) q
theorem lU{vs:List V}{R:RX}{Q:VK}(r:RepS h o H S)(l:HasL (vx h o H) ds vs)(c:Cn h o H R Q)(q:R (.d (.list ds)) S):∀p,H p=none->Q (.ref p) (upd H p (.lst vs)):=fun p hp=>
 c o _ S (.d (.list ds)) _ (Ex.of_same (Same.laid hp)) (r.same (Same.laid hp)) (f8.mpr ⟨p,vs,rfl,r.laid hp,l.mono (l5 (Same.laid hp))⟩) q
theorem vB{vs:List V}{R:RX}{Q:VK}(r:RepS h o H S)(l:HasL (vx h o H) ds vs)(c:Cn h o H R Q)(q:R (.l S.length) (S++[ds])):∀p,H p=none->Q (.ref p) (upd H p (.lst vs)):=fun p hp=>
 c (o++[p]) _ (S++[ds]) (.l S.length) _ (Ex.new r hp) (r.new hp l) ⟨p,by rw[r.len,cz],rfl⟩ q
theorem uV:∀{xs:List XV}{vs:List V}{ds:List bn},HasXs h o H xs vs->xs=ds.map XV.d->HasL (vx h o H) ds vs
 | [],vs,[],q,_=>zR.mpr q
 |x::xs,vs,d::ds,⟨v,r,e,q,l⟩,e2=>by
  rw[fm]at e2;cases e2;exact zG.mpr ⟨v,r,e,q,uV l rfl⟩
 |x::xs,vs,[],_,e2=>by cases e2
 | [],vs,d::ds,_,e2=>by cases e2
end
def datas:List XV->Option (List bn)
 | []=>some []
 | .d d::r=>(datas r).map (d :: ·)
 |_::_=>none
theorem lA:∀{xs:List XV}{ds:List bn},datas xs=some ds->xs=ds.map XV.d
 | [],ds,e=>by cases e;rfl
 | .d d::r,ds,e=>by
  unfold datas at e;cases hr:datas r with
  |none=>rw[hr]at e;cases e
  |some es=>
   rw[hr]at e;cases e;rw[lA hr];rfl
 | .l _::_,_,e=>by cases e
 | .o _::_,_,e=>by cases e
 | .x _ _::_,_,e=>by cases e
def zh(i:Nat):DE:=fun δ S R=>∃x,δ[i]?=some (some x)/\R x S
def dC(d:bn):DE:=fun _ S R=>R (.d d) S
def dO(v:V):DE:=fun _ S R=>R (.o v) S
def dOp(rd:D2)(a b:DE):DE:=fun δ S R=>a δ S fun x S1=>b δ S1 fun y S2=>rd x y S2 R
def dUn(rd:XV->Sto->RX->Prop)(a:DE):DE:=fun δ S R=>a δ S fun x S1=>rd x S1 R
def zq:DA:=fun _ S R=>R [] S
def zc(a:DE)(b:DA):DA:=fun δ S R=>a δ S fun x S1=>b δ S1 fun xs S2=>R (x::xs) S2
def dCB(rd:List XV->Sto->RX->Prop)(a:DA):DE:=fun δ S R=>a δ S fun xs S1=>rd xs S1 R
def aF(a:DA):DE:=fun δ S R=>a δ S fun xs S1=>∃ds,datas xs=some ds/\ds.length<=1000/\R (.d (.tuple ds)) S1
def aT(a:DA):DE:=fun δ S R=>a δ S fun xs S1=>∃ds,datas xs=some ds/\ds.length<=1000/\R (.d (.list ds)) S1
def cC(a:DA):DE:=fun δ S R=>a δ S fun xs S1=>∃ds,datas xs=some ds/\ds.length<=1000/\R (.l S1.length) (S1++[ds])
section
variable {t ta tb tc:TE}{da db dc:DE}{tl:TA}{dl:DA}{tt tu:TT}{dt du:DT}
theorem zi{i:Nat}:RE (gJ i) (zh i):=fun h o H δ σ S R Q he hs ⟨x,e,q⟩ c=>by
 obtain⟨v,e1,e2⟩:=he.get i x e;exact⟨v,e1,c o H S x v Ex.refl hs e2 q⟩
theorem zO{i:Int}:RE (tC (.int i)) (dC (.int i)):=fun h o H δ σ S R Q he hs q c=>c o H S _ _ Ex.refl hs (xI i) q
theorem kB{i:Bool}:RE (tC (.bl i)) (dC (.bool i)):=fun h o H δ σ S R Q he hs q c=>c o H S _ _ Ex.refl hs (xB i) q
theorem tQ{i:Str}:RE (tC (.str i)) (dC (.str i)):=fun h o H δ σ S R Q he hs q c=>c o H S _ _ Ex.refl hs (xS i) q
theorem Au:RE (tC .non) (dC .none):=fun h o H δ σ S R Q he hs q c=>c o H S _ _ Ex.refl hs xN q
theorem AJ{v:V}:RE (tC v) (dO v):=fun h o H δ σ S R Q he hs q c=>c o H S (.o v) v Ex.refl hs rfl q
theorem zX{r:R2}{rd:D2}(hr:RO r rd)(ha:RE ta da)(hb:RE tb db):RE (tOp r ta tb) (dOp rd da db):=fun h o H δ σ S R Q he hs q c=>
 ha h o H δ σ S _ _ he hs q fun o1 H1 S1 x v e1 s1 x1 d1=>hb h o1 H1 δ σ S1 _ _ (he.mono e1) s1 d1 fun o2 H2 S2 y u e2 s2 y2 d2=>
  hr h o2 H2 S2 x y v u R Q s2 (x1.mono e2) y2 d2 (c.pre (e1.trans e2))
theorem IB{r:V->Hp->VK->Prop}{rd:XV->Sto->RX->Prop}(hr:RU r rd)(ha:RE ta da):RE (tUn r ta) (dUn rd da):=fun h o H δ σ S R Q he hs q c=>
 ha h o H δ σ S _ _ he hs q fun o1 H1 S1 x v e1 s1 x1 d1=>hr h o1 H1 S1 x v R Q s1 x1 d1 (c.pre e1)
theorem zz:RA kR zq:=fun h o H δ σ S R Q he hs q c=>c o H S [] [] Ex.refl hs rfl q
theorem zg(ha:RE ta da)(hb:RA tl dl):RA (fJ ta tl) (zc da dl):=fun h o H δ σ S R Q he hs q c=>
 ha h o H δ σ S _ _ he hs q fun o1 H1 S1 x v e1 s1 x1 d1=>hb h o1 H1 δ σ S1 _ _ (he.mono e1) s1 d1 fun o2 H2 S2 xs vs e2 s2 x2 d2=>
  c o2 H2 S2 (x::xs) (v::vs) (e1.trans e2) s2 ⟨v,vs,rfl,x1.mono e2,x2⟩ d2
theorem aU{r:List V->Hp->VK->Prop}{rd:List XV->Sto->RX->Prop}(hr:RC r rd)(ha:RA tl dl):RE (tCB r tl) (dCB rd dl):=fun h o H δ σ S R Q he hs q c=>
 ha h o H δ σ S _ _ he hs q fun o1 H1 S1 xs vs e1 s1 x1 d1=>hr h o1 H1 S1 xs vs R Q s1 x1 d1 (c.pre e1)
theorem gV(ha:RA tl dl):RE (xP tl) (aF dl):=fun h o H δ σ S R Q he hs q c=>
 ha h o H δ σ S _ _ he hs q fun o1 H1 S1 xs vs e1 s1 x1 ⟨ds,e,hl,d1⟩=>by
  have l:=uV x1 (lA e);exact⟨by rw[l.length];exact ku (small1000 hl),n8 s1 l (c.pre e1) d1⟩
theorem sZ(ha:RA tl dl):RE (jH tl) (aT dl):=fun h o H δ σ S R Q he hs q c=>
 ha h o H δ σ S _ _ he hs q fun o1 H1 S1 xs vs e1 s1 x1 ⟨ds,e,hl,d1⟩=>by
  have l:=uV x1 (lA e);exact⟨by rw[l.length];exact ku (small1000 hl),lU s1 l (c.pre e1) d1⟩
theorem HL(ha:RA tl dl):RE (jH tl) (cC dl):=fun h o H δ σ S R Q he hs q c=>
 ha h o H δ σ S _ _ he hs q fun o1 H1 S1 xs vs e1 s1 x1 ⟨ds,e,hl,d1⟩=>by
  have l:=uV x1 (lA e);exact⟨by rw[l.length];exact ku (small1000 hl),vB s1 l (c.pre e1) d1⟩
def dB(a:DE):DT:=fun δ S R=>a δ S fun x S1=>asB x fun b=>R b S1
def bM(a:DT):DT:=fun δ S R=>a δ S fun b S1=>R (!b) S1
def gZ(a b:DT):DT:=fun δ S R=>a δ S fun x S1=>if x=true then b δ S1 R else R false S1
def dOr(a b:DT):DT:=fun δ S R=>a δ S fun x S1=>if x=true then R true S1 else b δ S1 R
def dR(a b:DE):DE:=fun δ S R=>a δ S fun x S1=>asB x fun c=>if c=true then b δ S1 R else R (.d (.bool false)) S1
def kZ(a b:DE):DE:=fun δ S R=>a δ S fun x S1=>asB x fun c=>if c=true then R (.d (.bool true)) S1 else b δ S1 R
def hV(a:DE):DE:=fun δ S R=>a δ S fun x S1=>asB x fun c=>R (.d (.bool (!c))) S1
def dIf(c:DT)(a b:DE):DE:=fun δ S R=>c δ S fun x S1=>if x=true then a δ S1 R else b δ S1 R
theorem CF(ha:RE ta da):RT (pW ta) (dB da):=fun h o H δ σ S R Q he hs q c=>
 ha h o H δ σ S _ _ he hs q fun o1 H1 S1 x v e1 s1 x1 d1=>by
  replace d1:=oD d1;obtain⟨b,rfl,d1⟩:=d1;exact⟨b,kE x1,c o1 H1 S1 b e1 s1 d1⟩
theorem iN(ha:RT tt dt):RT (AA tt) (bM dt):=fun h o H δ σ S R Q he hs q c=>
 ha h o H δ σ S _ _ he hs q fun o1 H1 S1 b e1 s1 d1=>c o1 H1 S1 _ e1 s1 d1
theorem Ke(ha:RT tt dt)(hb:RT tu du):RT (BM tt tu) (gZ dt du):=fun h o H δ σ S R Q he hs q c=>
 ha h o H δ σ S _ _ he hs q fun o1 H1 S1 b e1 s1 d1=>by
  cases b with
  |true=>exact g9 (hb h o1 H1 δ σ S1 R Q (he.mono e1) s1 (by simpa using d1) fun o2 H2 S2 b e2=>c o2 H2 S2 b (e1.trans e2))
  |false=>exact iA (c o1 H1 S1 false e1 s1 (by simpa using d1))
theorem FU(ha:RT tt dt)(hb:RT tu du):RT (tOr tt tu) (dOr dt du):=fun h o H δ σ S R Q he hs q c=>
 ha h o H δ σ S _ _ he hs q fun o1 H1 S1 b e1 s1 d1=>by
  cases b with
  |false=>exact iA (hb h o1 H1 δ σ S1 R Q (he.mono e1) s1 (by simpa using d1) fun o2 H2 S2 b e2=>c o2 H2 S2 b (e1.trans e2))
  |true=>exact g9 (c o1 H1 S1 true e1 s1 (by simpa using d1))
theorem rE(ha:RE ta da)(hb:RE tb db):RE (BD ta tb) (dR da db):=fun h o H δ σ S R Q he hs q c=>
 ha h o H δ σ S _ _ he hs q fun o1 H1 S1 x v e1 s1 x1 d1=>by
  replace d1:=oD d1;obtain⟨b,rfl,d1⟩:=d1;refine⟨b,kE x1,?_⟩;cases b with
  |true=>exact g9 (hb h o1 H1 δ σ S1 R Q (he.mono e1) s1 (by simpa using d1) (c.pre e1))
  |false=>exact iA (c o1 H1 S1 _ _ e1 s1 (xB false) (by simpa using d1))
theorem LN(ha:RE ta da)(hb:RE tb db):RE (CW ta tb) (kZ da db):=fun h o H δ σ S R Q he hs q c=>
 ha h o H δ σ S _ _ he hs q fun o1 H1 S1 x v e1 s1 x1 d1=>by
  replace d1:=oD d1;obtain⟨b,rfl,d1⟩:=d1;refine⟨b,kE x1,?_⟩;cases b with
  |false=>exact iA (hb h o1 H1 δ σ S1 R Q (he.mono e1) s1 (by simpa using d1) (c.pre e1))
  |true=>exact g9 (c o1 H1 S1 _ _ e1 s1 (xB true) (by simpa using d1))
theorem FB(ha:RE ta da):RE (Es ta) (hV da):=fun h o H δ σ S R Q he hs q c=>
 ha h o H δ σ S _ _ he hs q fun o1 H1 S1 x v e1 s1 x1 d1=>by
  replace d1:=oD d1;obtain⟨b,rfl,d1⟩:=d1;exact⟨b,kE x1,c o1 H1 S1 _ _ e1 s1 (xB _) d1⟩
theorem Em(hc:RT tt dt)(ha:RE ta da)(hb:RE tb db):RE (tIf tt ta tb) (dIf dt da db):=fun h o H δ σ S R Q he hs q c=>
 hc h o H δ σ S _ _ he hs q fun o1 H1 S1 b e1 s1 d1=>by
  cases b with
  |true=>exact g9 (ha h o1 H1 δ σ S1 R Q (he.mono e1) s1 (by simpa using d1) (c.pre e1))
  |false=>exact iA (hb h o1 H1 δ σ S1 R Q (he.mono e1) s1 (by simpa using d1) (c.pre e1))
def gO(rd q:D2)(a b e:DE):DE:=fun δ S R=>a δ S fun x S1=>b δ S1 fun y S2=>rd x y S2 fun z S3=>asB z fun k=>if k=true then e δ S3 fun u S4=>q y u S4 R else R (.d (.bool false)) S3
theorem AC{r r':R2}{rd aa:D2}(hr:RO r rd)(ab:RO r' aa)(ha:RE ta da)(hb:RE tb db)(hc:RE tc dc):RE (yM r r' ta tb tc) (gO rd aa da db dc):=fun h o H δ σ S R Q he hs q c=>
 ha h o H δ σ S _ _ he hs q fun o1 H1 S1 x v e1 s1 x1 d1=>hb h o1 H1 δ σ S1 _ _ (he.mono e1) s1 d1 fun o2 H2 S2 y u e2 s2 y2 d2=>
  hr h o2 H2 S2 x y v u _ _ s2 (x1.mono e2) y2 d2 fun o3 H3 S3 z w e3 s3 z3 d3=>by
   replace d3:=oD d3;obtain⟨b,rfl,d3⟩:=d3;refine⟨b,kE z3,?_⟩;cases b with
   |false=>exact iA (c o3 H3 S3 _ _ ((e1.trans e2).trans e3) s3 (xB false) (by simpa using d3))
   |true=>exact g9 (hc h o3 H3 δ σ S3 _ _ (((he.mono e1).mono e2).mono e3) s3 (by simpa using d3) fun o4 H4 S4 k w' e4 s4 k4 d4=>ab h o4 H4 S4 y k u w' R Q s4 ((y2.mono e3).mono e4) k4 d4 (c.pre (((e1.trans e2).trans e3).trans e4)))
end
def dI(C:Int->Int->Prop)(g:Int->Int->Int):D2:=fun x y S R=>asI x fun i=>asI y fun j=>C i j/\R (.d (.int (g i j))) S
def dI0(g:Int->Int->Int):D2:=fun x y S R=>asI x fun i=>asI y fun j=>R (.d (.int (g i j))) S
def dIb(g:Int->Int->Bool):D2:=fun x y S R=>asI x fun i=>asI y fun j=>R (.d (.bool (g i j))) S
def dUI(g:Int->Int):XV->Sto->RX->Prop:=fun x S R=>asI x fun i=>R (.d (.int (g i))) S
def aV:D2:=fun x y S R=>∃d,dZ S x=some d/\∃e,dZ S y=some e/\gn d=true/\gn e=true/\R (.d (.bool (jj d e))) S
def eB:D2:=fun x y S R=>∃d,dZ S x=some d/\∃e,dZ S y=some e/\gn d=true/\gn e=true/\R (.d (.bool (!PyData.eqv d e))) S
def nV:D2:=fun x _ S R=>asD x fun d=>R (.d (.bool (mI d))) S
def GW:D2:=fun x y S R=>asT x fun ds=>asI y fun i=>∃d,atI ds i=some d/\R (.d d) S
def K4:D2:=fun x y S R=>asL S x fun ds=>asI y fun i=>∃d,atI ds i=some d/\R (.d d) S
def F0:D2:=fun x y S R=>asL S x fun ds=>asL S y fun es=>ds.length+es.length<=1000/\R (.d (.list (ds++es))) S
def Hu:D2:=fun x y S R=>asT x fun ds=>asT y fun es=>ds≠[]/\ds.length+es.length<=1000/\R (.d (.tuple (ds++es))) S
section
theorem iF{C:Int->Int->Prop}{g:Int->Int->Int}:RO (rI C fun i j=>.int (g i j)) (dI C g):=fun h o H S x y v u R Q hs hx hy q c=>by
 replace q:=cV q;obtain⟨i,rfl,q⟩:=q;replace q:=cV q;obtain⟨j,rfl,hc,q⟩:=q;exact⟨i,j,cU hx,cU hy,hc,c o H S _ _ Ex.refl hs (xI _) q⟩
theorem lW{g:Int->Int->Int}:RO (rI0 fun i j=>.int (g i j)) (dI0 g):=fun h o H S x y v u R Q hs hx hy q c=>by
 replace q:=cV q;obtain⟨i,rfl,q⟩:=q;replace q:=cV q;obtain⟨j,rfl,q⟩:=q;exact⟨i,j,cU hx,cU hy,c o H S _ _ Ex.refl hs (xI _) q⟩
theorem kW{g:Int->Int->Bool}:RO (rI0 fun i j=>.bl (g i j)) (dIb g):=fun h o H S x y v u R Q hs hx hy q c=>by
 replace q:=cV q;obtain⟨i,rfl,q⟩:=q;replace q:=cV q;obtain⟨j,rfl,q⟩:=q;exact⟨i,j,cU hx,cU hy,c o H S _ _ Ex.refl hs (xB _) q⟩
theorem FY{g:Int->Int}:RU (rU fun i=>.int (g i)) (dUI g):=fun h o H S x v R Q hs hx q c=>by
 replace q:=cV q;obtain⟨i,rfl,q⟩:=q;exact⟨i,cU hx,c o H S _ _ Ex.refl hs (xI _) q⟩
theorem rF:RO Ce aV:=fun h o H S x y v u R Q hs hx hy q c=>by
 obtain⟨d,q1,e,q2,q3,q4,q⟩:=q;exact⟨d,e,gW hs q1 hx,gW hs q2 hy,q3,q4,c o H S _ _ Ex.refl hs (xB _) q⟩
theorem E3:RO CU eB:=fun h o H S x y v u R Q hs hx hy q c=>by
 obtain⟨d,q1,e,q2,q3,q4,q⟩:=q;exact⟨d,e,gW hs q1 hx,gW hs q2 hy,q3,q4,c o H S _ _ Ex.refl hs (xB _) q⟩
theorem HasL.atI{H:Hp}{ds:List bn}{vs:List V}{i:Int}{d:bn}(l:HasL H ds vs)(e:L2.atI ds i=some d):∃v,L2.atI vs i=some v/\Has H d v:=by
 unfold L2.atI at e ⊢;rw[l.length];cases hn:ixN ds.length i with
 |none=>rw[hn]at e;cases e
 |some j=>
  rw[hn]at e;exact l.get (show ds[j]?=some d from e)
theorem GV{K:cy}:RO (vP K) GW:=fun h o H S x y v u R Q hs hx hy q c=>by
 replace q:=hX q;obtain⟨ds,rfl,q⟩:=q;replace q:=cV q;obtain⟨i,rfl,d,e,q⟩:=q;obtain⟨a,vs,rfl,ea,l⟩:=eW hx;obtain⟨w,ew,hw⟩:=l.atI e;exact⟨a,vs,i,w,rfl,cU hy,.of ea,ew,c o H S (.d d) w Ex.refl hs hw q⟩
theorem AM{K:cy}:RO (wO K) K4:=fun h o H S x y v u R Q hs hx hy q c=>by
 obtain⟨ds,e0,q⟩:=q;replace q:=cV q;obtain⟨i,rfl,d,e,q⟩:=q;obtain⟨a,vs,rfl,ea,l⟩:=c8 hs e0 hx;obtain⟨w,ew,hw⟩:=l.atI e;exact⟨a,vs,i,w,rfl,cU hy,.of ea,ew,c o H S (.d d) w Ex.refl hs hw q⟩
theorem Jm:RO lJ F0:=fun h o H S x y v u R Q hs hx hy q c=>by
 obtain⟨ds,e0,es,e1,hl,q⟩:=q;obtain⟨a,vs,rfl,ea,la⟩:=c8 hs e0 hx;obtain⟨b,us,rfl,eb,lb⟩:=c8 hs e1 hy;exact⟨a,b,vs,us,rfl,rfl,ea,eb,by rw[la.length,lb.length];exact ku (small1000 hl),lU hs (la.append lb) c q⟩
theorem Fx{K:cy}:RO (vF K) Hu:=fun h o H S x y v u R Q hs hx hy q c=>by
 replace q:=hX q;obtain⟨ds,rfl,q⟩:=q;replace q:=hX q;obtain⟨es,rfl,hn,hl,q⟩:=q;obtain⟨a,vs,rfl,ea,la⟩:=eW hx;obtain⟨b,us,rfl,eb,lb⟩:=eW hy;refine⟨a,b,vs,us,rfl,rfl,.of ea,.of eb,fun z=>?_,by rw[la.length,lb.length];exact ku (small1000 hl),fun z=>?_,fun _=>n8 hs (la.append lb) c q⟩
 ·subst z;have:=la.length;exact hn (iy this.symm)
 ·subst z;have e:es=[]:=iy lb.length.symm;subst e;rw[kn]at q;exact c o H S (.d (.tuple ds)) _ Ex.refl hs hx q
end
abbrev DO:=XE->Sto->(Option Int->Sto->Prop)->Prop
def RP(t:TO)(dt:DO):Prop:=∀(h o:List Addr) (H:Hp) (δ:XE) (σ:St) (S:Sto) (R:Option Int->Sto->Prop) (Q:Option Int->Hp->Prop),RepE h o H δ σ->RepS h o H S->dt δ S R ->
 (∀o' H' S' b,Ex o H o' H'->RepS h o' H' S'->R b S'->Q b H')->t σ H Q
def bG:DO:=fun _ S R=>R none S
def bF(a:DE):DO:=fun δ S R=>a δ S fun x S1=>asI x fun i=>R (some i) S1
theorem iJ:RP ER bG:=fun h o H δ σ S R Q he hs q c=>c o H S none Ex.refl hs q
theorem gY{t:TE}{da:DE}(ha:RE t da):RP (lH t) (bF da):=fun h o H δ σ S R Q he hs q c=>
 ha h o H δ σ S _ _ he hs q fun o1 H1 S1 x v e1 s1 x1 d1=>by
  replace d1:=cV d1;obtain⟨i,rfl,d1⟩:=d1;exact⟨i,cU x1,c o1 H1 S1 _ e1 s1 d1⟩
abbrev D3:=XV->Option Int->Option Int->Sto->RX->Prop
def RL(r:V->Option Int->Option Int->Hp->VK->Prop)(rd:D3):Prop:=∀(h o:List Addr) (H:Hp) (S:Sto) (x:XV) (v:V) (a b:Option Int) (R:RX) (Q:VK),RepS h o H S->HasX h o H x v->rd x a b S R->Cn h o H R Q->r v a b H Q
def dSl(rd:D3)(e:DE)(a b:DO):DE:=fun δ S R=>e δ S fun x S1=>a δ S1 fun i S2=>b δ S2 fun j S3=>rd x i j S3 R
theorem hJ{r:V->Option Int->Option Int->Hp->VK->Prop}{rd:D3}{te:TE}{de:DE}{ta tb:TO}{da db:DO}(hr:RL r rd)(aa:RE te de)(ha:RP ta da)(hb:RP tb db):RE (tSl r te ta tb) (dSl rd de da db):=fun h o H δ σ S R Q he hs q c=>
 aa h o H δ σ S _ _ he hs q fun o1 H1 S1 x v e1 s1 x1 d1=>ha h o1 H1 δ σ S1 _ _ (he.mono e1) s1 d1 fun o2 H2 S2 i e2 s2 d2=>hb h o2 H2 δ σ S2 _ _ ((he.mono e1).mono e2) s2 d2 fun o3 H3 S3 j e3 s3 d3=>
  hr h o3 H3 S3 x v i j R Q s3 ((x1.mono e2).mono e3) d3 (c.pre ((e1.trans e2).trans e3))
def GZ:D3:=fun x i j S R=>asL S x fun ds=>R (.d (.list (aL ds i j))) S
def KW:D3:=fun x i j S R=>asT x fun ds=>¬(HT.sIx ds.length 0 i=0/\HT.sIx ds.length ds.length j=ds.length)/\R (.d (.tuple (aL ds i j))) S
theorem A4{K:cy}:RL (oF K) GZ:=fun h o H S x v a b R Q hs hx q c=>by
 obtain⟨ds,e0,q⟩:=q;obtain⟨p,vs,rfl,ea,l⟩:=c8 hs e0 hx;exact⟨p,vs,rfl,.of ea,lU hs (l.cut a b) c q⟩
theorem IE{K:cy}:RL (yX K) KW:=fun h o H S x v a b R Q hs hx q c=>by
 replace q:=hX q;obtain⟨ds,rfl,hn,q⟩:=q;obtain⟨p,vs,rfl,ea,l⟩:=eW hx;exact⟨p,vs,rfl,.of ea,by rw[l.length];exact hn,n8 hs (l.cut a b) c q⟩
def asQ(S:Sto):XV->Option (List bn)
 | .d (.tuple ds)=>some ds
 | .d (.list ds)=>some ds
 | .l k=>S[k]?
 |_=>none
theorem lG{h o:List Addr}{H:Hp}{S:Sto}{x:XV}{v:V}{ds:List bn}(r:RepS h o H S)(e:asQ S x=some ds)(q:HasX h o H x v):∃a vs,v=.ref a/\(H a=some (.tup vs)\/H a=some (.lst vs))/\HasL (vx h o H) ds vs:=by
 unfold asQ at e;split at e
 ·cases e;obtain⟨a,vs,e,q,l⟩:=eW q;exact⟨a,vs,e,.inl q,l⟩
 ·cases e;obtain⟨a,vs,e,q,l⟩:=c8 (x:=.d (.list ds)) (ds:=ds) r rfl q;exact⟨a,vs,e,.inr q,l⟩
 ·rename_i k;obtain⟨a,vs,e,q,l⟩:=c8 (x:=.l k) r e q;exact⟨a,vs,e,.inr q,l⟩
 ·cases e
def arg1:List XV->(XV->Prop)->Prop
 | [x],k=>k x
 |_,_=>False
def arg2:List XV->(XV->XV->Prop)->Prop
 | [x,y],k=>k x y
 |_,_=>False
theorem dD{xs:List XV}{k:XV->Prop}(h:arg1 xs k):∃x,xs=[x]/\k x:=by
 unfold arg1 at h;split at h
 ·exact⟨_,rfl,h⟩
 ·exact h.elim
theorem w4{xs:List XV}{k:XV->XV->Prop}(h:arg2 xs k):∃x y,xs=[x,y]/\k x y:=by
 unfold arg2 at h;split at h
 ·exact⟨_,_,rfl,h⟩
 ·exact h.elim
theorem hxs1{h o:List Addr}{H:Hp}{x:XV}{vs:List V}(q:HasXs h o H [x] vs):∃v,vs=[v]/\HasX h o H x v:=by
 obtain⟨v,r,e,hx,hr⟩:=q;cases hr;exact⟨v,e,hx⟩
theorem hxs2{h o:List Addr}{H:Hp}{x y:XV}{vs:List V}(q:HasXs h o H [x,y] vs):∃v u,vs=[v,u]/\HasX h o H x v/\HasX h o H y u:=by
 obtain⟨v,r,e,hx,q⟩:=q;obtain⟨u,e',hy⟩:=hxs1 q;subst e';exact⟨v,u,e,hx,hy⟩
def xO:XV->(String->Prop)->Prop
 | .o v,k=>∃c,v=.ty c/\k c
 |_,_=>False
def vO:XV->(Int->Prop)->Prop
 | .d d,k=>match d with
  | .int i=>k i
  | .bool b=>k (if b then 1 else 0)
  |_=>False
 |_,_=>False
theorem Ju{x:XV}{k:String->Prop}(h:xO x k):∃c,x=.o (.ty c)/\k c:=by
 cases x with
 |o v=>
  obtain⟨c,rfl,h⟩:=h;exact⟨c,rfl,h⟩
 |d d=>exact h.elim
 |l j=>exact h.elim
 |x _ _=>exact h.elim
theorem JD{x:XV}{k:Int->Prop}(h:vO x k):(∃i,x=.d (.int i)/\k i)\/∃b,x=.d (.bool b)/\k (if b then 1 else 0):=by
 cases x with
 |d d=>
  cases d with
  |int i=>exact .inl ⟨i,rfl,h⟩
  |bool b=>exact .inr ⟨b,rfl,h⟩
  |_=>exact h.elim
 |_=>exact h.elim
def FO:List XV->Sto->RX->Prop:=fun xs S R=>arg1 xs fun x=>∃ds,asQ S x=some ds/\R (.d (.int ds.length)) S
theorem xQ{K:cy}:RC (vL K) FO:=fun h o H S xs vs R Q hs hx q c=>by
 obtain⟨x,rfl,ds,hd,q1⟩:=dD q;obtain⟨v,rfl,aa⟩:=hxs1 hx;obtain⟨a,ws,rfl,ea,l⟩:=lG hs hd aa;refine⟨a,ws,rfl,ea.elim (fun z=>.inr (.of z)) (fun z=>.inl (.of z)),?_⟩;rw[l.length];exact c o H S _ _ Ex.refl hs (xI _) q1
def cO:List XV->Sto->RX->Prop:=fun xs S R=>arg2 xs fun x y=>xO y fun cl=>∃d,dZ S x=some d/\cl∈f9/\R (.d (.bool (jA d cl))) S
theorem CN:RC vD cO:=fun h o H S xs vs R Q hs hx q c=>by
 obtain⟨x,y,rfl,q1⟩:=w4 q;obtain⟨cl,rfl,d,hd,hc,q2⟩:=Ju q1;obtain⟨v,u,rfl,aa,hu⟩:=hxs2 hx;cases hu;exact Lf (gW hs hd aa) hc (c o H S _ _ Ex.refl hs (xB _) q2)
def gR:List XV->Sto->RX->Prop:=fun xs S R=>arg1 xs fun x=>vO x fun i=>R (.d (.int i)) S
theorem v8:RC (fun xs H Q=>(∃i,xs=[.int i]/\Q (.int i) H)\/∃k,xs=[.bl k]/\Q (.int (if k then 1 else 0)) H) gR:=fun h o H S xs vs R Q hs hx q c=>by
 obtain⟨x,rfl,q1⟩:=dD q;obtain⟨v,rfl,aa⟩:=hxs1 hx;rcases JD q1 with ⟨i,rfl,q2⟩|⟨b,rfl,q2⟩
 ·exact .inl ⟨_,by rw[cU aa],c o H S _ _ Ex.refl hs (xI _) q2⟩
 ·exact .inr ⟨_,by rw[kE aa],c o H S _ _ Ex.refl hs (xI _) q2⟩
def dI2(g:Int->Int->Int):List XV->Sto->RX->Prop:=fun xs S R=>arg2 xs fun x y=>asI x fun i=>asI y fun j=>R (.d (.int (g i j))) S
theorem F3{g:Int->Int->Int}:RC (fun xs H Q=>∃i j,xs=[.int i,.int j]/\Q (.int (g i j)) H) (dI2 g):=fun h o H S xs vs R Q hs hx q c=>by
 obtain⟨x,y,rfl,q1⟩:=w4 q;obtain⟨v,u,rfl,aa,hu⟩:=hxs2 hx;obtain⟨i,rfl,q2⟩:=cV q1;obtain⟨j,rfl,q3⟩:=cV q2;exact⟨i,j,by rw[cU aa,cU hu],c o H S _ _ Ex.refl hs (xI _) q3⟩
def bW:List XV->Sto->RX->Prop:=fun xs S R=>arg1 xs fun x=>∃ds,asQ S x=some ds/\R (.d (.tuple ds)) S
theorem jW{K:cy}:RC (fun xs H Q=>∃p ys,xs=[.ref p]/\((SqL K H p ys/\∀l,H l=none->Q (.ref l) (upd H l (.tup ys)))\/(SqT K H p ys/\Q (.ref p) H))) bW:=fun h o H S xs vs R Q hs hx q c=>by
 obtain⟨x,rfl,ds,hd,q1⟩:=dD q;obtain⟨v,rfl,aa⟩:=hxs1 hx;obtain⟨a,ws,rfl,ea,l⟩:=lG hs hd aa;refine⟨a,ws,rfl,ea.elim (fun z=>.inr ⟨.of z,?_⟩) (fun z=>.inl ⟨.of z,n8 hs l c q1⟩)⟩;have hh:HasX h o H (.d (.tuple ds)) (.ref a):=by
  unfold asQ at hd;split at hd
  ·cases hd;exact aa
  ·obtain⟨a',us,e1,e2,_⟩:=c8 (x:=.d (.list _)) hs rfl aa;cases e1;rw[z]at e2;cases e2
  ·rename_i k;obtain⟨a',us,e1,e2,_⟩:=c8 (x:=.l k) hs hd aa;cases e1;rw[z]at e2;cases e2
  ·cases hd
 exact c o H S _ _ Ex.refl hs hh q1
def iX:List XV->Sto->RX->Prop:=fun xs S R=>arg1 xs fun x=>∃ds,asQ S x=some ds/\R (.d (.list ds)) S
def kC:List XV->Sto->RX->Prop:=fun xs S R=>arg1 xs fun x=>∃ds,asQ S x=some ds/\R (.l S.length) (S++[ds])
theorem Ha{K:cy}:RC (fun xs H Q=>∃p ys,xs=[.ref p]/\(SqL K H p ys\/SqT K H p ys)/\∀l,H l=none->Q (.ref l) (upd H l (.lst ys))) iX:=fun h o H S xs vs R Q hs hx q c=>by
 obtain⟨x,rfl,ds,hd,q1⟩:=dD q;obtain⟨v,rfl,aa⟩:=hxs1 hx;obtain⟨a,ws,rfl,ea,l⟩:=lG hs hd aa;exact⟨a,ws,rfl,ea.elim (fun z=>.inr (.of z)) (fun z=>.inl (.of z)),lU hs l c q1⟩
theorem L3{K:cy}:RC (fun xs H Q=>∃p ys,xs=[.ref p]/\(SqL K H p ys\/SqT K H p ys)/\∀l,H l=none->Q (.ref l) (upd H l (.lst ys))) kC:=fun h o H S xs vs R Q hs hx q c=>by
 obtain⟨x,rfl,ds,hd,q1⟩:=dD q;obtain⟨v,rfl,aa⟩:=hxs1 hx;obtain⟨a,ws,rfl,ea,l⟩:=lG hs hd aa;exact⟨a,ws,rfl,ea.elim (fun z=>.inr (.of z)) (fun z=>.inl (.of z)),vB hs l c q1⟩
theorem jB{H:Hp}:∀{ns:List Int}{vs:List V},HasL H (ns.map bw) vs->vs=ns.map V.int
 | [],vs,h=>zR.mp h
 |n::ns,vs,h=>by
  obtain⟨v,r,rfl,h1,h2⟩:=zG.mp h;rw[fY.mp h1,jB h2];rfl
def CP:List XV->Sto->RX->Prop:=fun xs S R=>arg1 xs fun x=>∃ds,asQ S x=some ds/\∃ns,ds=ns.map bw/\ns≠[]/\∀m,m∈ns->(∀a,a∈ns->m<=a)->R (.d (.int m)) S
def wH:List XV->Sto->RX->Prop:=fun xs S R=>arg1 xs fun x=>∃ds,asQ S x=some ds/\∃ns,ds=ns.map bw/\ns≠[]/\∀m,m∈ns->(∀a,a∈ns->a<=m)->R (.d (.int m)) S
theorem JO{K:cy}:RC (xC K) CP:=fun h o H S xs vs R Q hs hx q c=>by
 obtain⟨x,rfl,ds,hd,ns,rfl,hn,q1⟩:=dD q;obtain⟨v,rfl,aa⟩:=hxs1 hx;obtain⟨a,ws,rfl,ea,l⟩:=lG hs hd aa;rw[jB l]at ea;exact⟨a,ns,rfl,ea.elim (fun z=>.inr (.of z)) (fun z=>.inl (.of z)),hn,fun m m1 m2=>c o H S _ _ Ex.refl hs (xI _) (q1 m m1 m2)⟩
theorem Kd{K:cy}:RC (DK K) wH:=fun h o H S xs vs R Q hs hx q c=>by
 obtain⟨x,rfl,ds,hd,ns,rfl,hn,q1⟩:=dD q;obtain⟨v,rfl,aa⟩:=hxs1 hx;obtain⟨a,ws,rfl,ea,l⟩:=lG hs hd aa;rw[jB l]at ea;exact⟨a,ns,rfl,ea.elim (fun z=>.inr (.of z)) (fun z=>.inl (.of z)),hn,fun m m1 m2=>c o H S _ _ Ex.refl hs (xI _) (q1 m m1 m2)⟩
def dBM(rd:XV->List XV->Sto->RX->Prop)(e:DE)(a:DA):DE:=fun δ S R=>e δ S fun x S1=>∃k,x=.l k/\k<S1.length/\a δ S1 fun xs S2=>rd x xs S2 R
def jT(rd:XV->List XV->Sto->RX->Prop)(e:DE):DE:=fun δ S R=>e δ S fun x S1=>∃k,x=.l k/\k<S1.length/\rd x [] S1 R
def RM(r:V->List V->Hp->VK->Prop)(rd:XV->List XV->Sto->RX->Prop):Prop:=∀(h o:List Addr) (H:Hp) (S:Sto) (x:XV) (v:V) (xs:List XV) (vs:List V) (R:RX) (Q:VK),RepS h o H S->HasX h o H x v->HasXs h o H xs vs->rd x xs S R->Cn h o H R Q->r v vs H Q
theorem C5{K:cy}{H:Hp}{a:Addr}{vs:List V}(e:H a=some (.lst vs)):tyV K "list" (.ref a) H:=.inl ⟨rfl,vs,.of e⟩
theorem Ae{h o:List Addr}{H:Hp}{S:Sto}{k:Nat}{v:V}(hs:RepS h o H S)(hk:k<S.length)(hx:HasX h o H (.l k) v):∃a vs,v=.ref a/\H a=some (.lst vs):=by
 obtain⟨a,e,rfl⟩:=hx;obtain⟨vs,e2,_⟩:=hs.cont k a _ e (cn hk);exact⟨a,vs,rfl,e2⟩
theorem qZ{K:cy}{r:V->List V->Hp->VK->Prop}{rd:XV->List XV->Sto->RX->Prop}{te:TE}{de:DE}{tl:TA}{dl:DA}(hr:RM r rd)(aa:RE te de)(ha:RA tl dl):RE (tBM K "list" r te tl) (dBM rd de dl):=fun h o H δ σ S R Q he hs q c=>
 aa h o H δ σ S _ _ he hs q fun o1 H1 S1 x v e1 s1 x1 ⟨k,ek,hk,d1⟩=>by
  subst ek;obtain⟨a,ws,rfl,ea⟩:=Ae s1 hk x1;exact⟨C5 ea,ha h o1 H1 δ σ S1 _ _ (he.mono e1) s1 d1 fun o2 H2 S2 xs vs e2 s2 x2 d2=>hr h o2 H2 S2 (.l k) _ xs vs R Q s2 (x1.mono e2) x2 d2 (c.pre (e1.trans e2))⟩
theorem FX{K:cy}{r:V->List V->Hp->VK->Prop}{rd:XV->List XV->Sto->RX->Prop}{te:TE}{de:DE}(hr:RM r rd)(aa:RE te de):RE (CH K "list" r te) (jT rd de):=fun h o H δ σ S R Q he hs q c=>
 aa h o H δ σ S _ _ he hs q fun o1 H1 S1 x v e1 s1 x1 ⟨k,ek,hk,d1⟩=>by
  subst ek;obtain⟨a,ws,rfl,ea⟩:=Ae s1 hk x1;exact⟨C5 ea,hr h o1 H1 S1 (.l k) _ [] [] R Q s1 x1 rfl d1 (c.pre e1)⟩
def dU:XV->List XV->Sto->RX->Prop:=fun x xs S R=>∃k,x=.l k/\∃ds,S[k]?=some ds/\arg1 xs fun y=>asD y fun d=>ds.length<1000/\R (.d .none) (S.set k (ds++[d]))
theorem w6:RM CD dU:=fun h o H S x v xs vs R Q hs hx aa q c=>by
 obtain⟨k,rfl,ds,e,q1⟩:=q;obtain⟨y,rfl,q2⟩:=dD q1;obtain⟨d,rfl,hl,q3⟩:=iD q2;obtain⟨a,ea,rfl⟩:=hx;obtain⟨u,rfl,hu⟩:=hxs1 aa;obtain⟨ws,ew,l⟩:=hs.cont k a ds ea e;exact⟨a,ws,u,rfl,rfl,ew,by rw[l.length];exact small1000 (ku hl),c o _ _ (.d .none) _ (Ex.upd ea) (hs.upd ea (l.append (zG.mpr ⟨u,[],rfl,hu,zR.mpr rfl⟩))) xN q3⟩
def kM:XV->List XV->Sto->RX->Prop:=fun x xs S R=>∃k,x=.l k/\∃ds,S[k]?=some ds/\xs=[]/\R (.d .none) (S.set k ds.reverse)
theorem Gy:RM Bs kM:=fun h o H S x v xs vs R Q hs hx aa q c=>by
 obtain⟨k,rfl,ds,e,rfl,q1⟩:=q;obtain⟨a,ea,rfl⟩:=hx;obtain⟨ws,ew,l⟩:=hs.cont k a ds ea e;cases aa;exact⟨a,ws,rfl,rfl,ew,c o _ _ (.d .none) _ (Ex.upd ea) (hs.upd ea l.rev) xN q1⟩
def k8:XV->List XV->Sto->RX->Prop:=fun x xs S R=>∃k,x=.l k/\∃ds,S[k]?=some ds/\arg1 xs fun y=>∃es,fV S y=some es/\ds.length+es.length<=1000/\R (.d .none) (S.set k (ds++es))
theorem EO:RM Eh k8:=fun h o H S x v xs vs R Q hs hx aa q c=>by
 obtain⟨k,rfl,ds,e,q1⟩:=q;obtain⟨y,rfl,es,ey,hl,q3⟩:=dD q1;obtain⟨a,ea,rfl⟩:=hx;obtain⟨u,rfl,hu⟩:=hxs1 aa;obtain⟨ws,ew,l⟩:=hs.cont k a ds ea e;obtain⟨b,zs,rfl,eb,lb⟩:=c8 hs ey hu;exact⟨a,b,ws,zs,rfl,rfl,ew,eb,by rw[l.length,lb.length];exact ku (small1000 hl),c o _ _ (.d .none) _ (Ex.upd ea) (hs.upd ea (l.append lb)) xN q3⟩
def ret0(S:Sto)(R:RX):RX:=fun y S'=>match y,S' with
 | .d d,[]=>R (.d d) S
 | .l 0,[ds]=>R (.l S.length) (S++[ds])
 |_,_=>False
def sG(k:Nat)(S:Sto)(R:RX):RX:=fun y S'=>match y,S' with
 | .d d,[p]=>R (.d d) (S.set k p)
 | .l 1,[p,ds]=>R (.l S.length) (S.set k p++[ds])
 |_,_=>False
section
variable {h o:List Addr}{H:Hp}{S:Sto}{R:RX}{Q:VK}
theorem jY{h o h' o':List Addr}{H:Hp}(e:∀b,(b∈h'\/b∈o')↔(b∈h\/b∈o)):vx h' o' H=vx h o H:=by
 funext b;have q:∀u,vx h' o' H b=some u↔vx h o H b=some u:=fun u=>by
  rw[aW,aW];have:=e b;constructor
  ·rintro⟨a1,a2,a3⟩;exact⟨fun m=>(this.mpr (.inl m)).elim a1 a2,fun m=>(this.mpr (.inr m)).elim a1 a2,a3⟩
  ·rintro⟨a1,a2,a3⟩;exact⟨fun m=>(this.mp (.inl m)).elim a1 a2,fun m=>(this.mp (.inr m)).elim a1 a2,a3⟩
 cases e1:vx h' o' H b with
 |some u=>exact((q u).mp e1).symm
 |none=>
  cases e2:vx h o H b with
  |none=>rfl
  |some u=>rw[(q u).mpr e2]at e1;cases e1
theorem rep0(hs:RepS h o H S):RepS (h++o) [] H [] where
 len:=rfl
 nd:=nodup_nil
 dis:=fun a ha=>by cases ha
 hal:=fun b hb=>(mem_append.mp hb).elim (hs.hal b) (hs.oam b)
 cont:=fun k a ds e=>by simp at e
theorem hx0{d:bn}{v:V}(hx:HasX h o H (.d d) v):HasX (h++o) [] H (.d d) v:=by
 show Has (vx (h++o) [] H) d v;rw[jY (h:=h) (o:=o) fun b=>by simp];exact hx
theorem hx0'{d:bn}{v:V}(hx:HasX (h++o) [] H (.d d) v):HasX h o H (.d d) v:=by
 show Has (vx h o H) d v;rw[<- jY (h':=h++o) (o':=[]) (h:=h) (o:=o) fun b=>by simp];exact hx
theorem cn0(hs:RepS h o H S)(c:Cn h o H R Q):Cn (h++o) [] H (ret0 S R) Q:=fun o' H' S' y v e s' hy q=>by
 have sm:Same H (vx [] o' H'):=fun b u eb=>by
  obtain⟨a1,a2⟩:=e.kp b u yv eb;exact aW.mpr ⟨yv,a1,a2⟩
 have sH:Same H H':=fun b u eb=>(aW.mp (sm b u eb)).2.2;unfold ret0 at q;split at q
 ·have e0:o'=[]:=iy s'.len.symm;subst e0;exact c o H' S _ v (Ex.of_same sH) (hs.same sH) (hx0' hy) q
 ·rename_i ds;obtain⟨a,rfl⟩:∃a,o'=[a]:=List.length_eq_one_iff.mp s'.len.symm;obtain⟨a',ea,rfl⟩:=hy;cases ea;obtain⟨vs,ev,l⟩:=s'.cont 0 a ds rfl rfl;have na:a∉h++o:=s'.dis a yv;have hn:H a=none:=by
   cases eh:H a with
   |none=>rfl
   |some u=>exact absurd (e.kp a u yv eh).1 yv
  have e2:Ex o H (o++[a]) H':=⟨⟨[a],rfl⟩,fun b u hb eb=>by
   obtain⟨a1,a2⟩:=e.kp b u yv eb;exact⟨by simp only[mem_append,not_or];exact⟨hb,a1⟩,a2⟩⟩
  have ab:vx (h++o) [a] H'=vx h (o++[a]) H':=jY fun b=>by simp[or_assoc]
  rw[ab]at l;refine c (o++[a]) H' (S++[ds]) (.l S.length) _ e2 ⟨by simp[hs.len],pK hs.nd fun m=>na (gp _ m),fun b hb=>?_,fun b hb=>?_,fun k b es q1 q2=>?_⟩ ⟨a,by rw[hs.len,cz],rfl⟩ q
  ·rcases mem_append.mp hb with hb|hb
   ·exact hs.dis b hb
   ·rw[mem_singleton.mp hb];exact fun m=>na (gi _ m)
  ·obtain⟨u,eb⟩:=hs.hal b hb;exact⟨u,sH b _ eb⟩
  ·by_cases hk:k<o.length
   ·rw[fk hk]at q1;rw[fk (by rw[hs.len];exact hk)]at q2;obtain⟨ws,e3,l3⟩:=hs.cont k b es q1 q2;exact⟨ws,sH _ _ e3,l3.mono e2.vx⟩
   ·have aa:k=o.length:=by
     obtain⟨q,_⟩:=List.getElem?_eq_some_iff.mp q1;rw[cx,gr]at q;omega
    subst aa;rw[cz]at q1;rw[<- hs.len,cz]at q2;cases q1;cases q2;exact⟨vs,ev,l⟩
 ·exact q.elim
theorem tV{k:Nat}{a:Addr}{p:List bn}(hs:RepS h o H S)(ea:o[k]?=some a)(ep:S[k]?=some p):RepS (h++o.filter (fun b=>b≠a)) [a] H [p] where
 len:=rfl
 nd:=by simp
 dis:=fun b hb=>by
  rw[mem_singleton.mp hb];intro m;rcases mem_append.mp m with m|m
  ·exact hs.dis a (bu ea) m
  ·have:=(mem_filter.mp m).2;simp at this
 hal:=fun b hb=>(mem_append.mp hb).elim (hs.hal b) fun m=>hs.oam b (mem_filter.mp m).1
 cont:=fun j b ds e1 e2=>by
  cases j with
  |succ j=>simp at e1
  |zero=>
   cases e1;cases e2;obtain⟨vs,e3,l⟩:=hs.cont k a p ea ep;refine⟨vs,e3,?_⟩;rw[jY (h:=h) (o:=o) (mem_pen ea)];exact l
where
 mem_pen {h o:List Addr}{k:Nat}{a:Addr} (ea:o[k]?=some a) (b:Addr):(b∈h++o.filter (fun b=>b≠a)\/b∈[a])↔(b∈h\/b∈o):=by
  have ma:=bu ea;by_cases e:b=a
  ·subst e;simp[ma]
  ·simp[e]
theorem hxP{k:Nat}{a:Addr}{d:bn}{v:V}(ea:o[k]?=some a)(hx:HasX h o H (.d d) v):HasX (h++o.filter (fun b=>b≠a)) [a] H (.d d) v:=by
 show Has (vx _ _ H) d v;rw[jY (h:=h) (o:=o) (tV.mem_pen ea)];exact hx
theorem cnP{k:Nat}{a:Addr}{p:List bn}(hs:RepS h o H S)(ea:o[k]?=some a)(ep:S[k]?=some p)(c:Cn h o H R Q):Cn (h++o.filter (fun b=>b≠a)) [a] H (sG k S R) Q:=fun o' H' S' y v e s' hy q=>by
 have ma:=bu ea;have hk:k<o.length:=(List.getElem?_eq_some_iff.mp ea).1;unfold sG at q;split at q
 ·rename_i d p';obtain⟨r,rfl⟩:=e.pre;have er:r=[]:=by
   have:=s'.len;simp at this;exact this
  subst er;have ex:Ex o H o H':=⟨⟨[],yv⟩,fun b u hb eb=>⟨hb,(e.kp b u (fun m=>hb (by rw[mem_singleton.mp m];exact ma)) eb).2⟩⟩;obtain⟨vs,ev,l⟩:=s'.cont 0 a p' rfl rfl;have aa:vx (h++o.filter (fun b=>b≠a)) ([a]++[]) H'=vx h o H':=jY (tV.mem_pen ea);rw[aa]at l;refine c o H' (S.set k p') (.d d) v ex ⟨by simp[hs.len],hs.nd,hs.dis,fun b hb=>?_,fun j b es q1 q2=>?_⟩ (by
   have ab:Has (vx (h++o.filter (fun b=>b≠a)) ([a]++[]) H') d v:=hy;rw[aa]at ab;exact ab) q
  ·obtain⟨u,eb⟩:=hs.hal b hb;exact⟨u,(e.kp b _ (fun m=>hs.dis a ma (by rw[<- mem_singleton.mp m];exact hb)) eb).2⟩
  ·by_cases hj:j=k
   ·subst hj;rw[q1]at ea;cases ea;rw[nv (by rw[hs.len];exact hk)]at q2;cases q2;exact⟨vs,ev,l⟩
   ·rw[rc (jg hj)]at q2;obtain⟨ws,e3,l3⟩:=hs.cont j b es q1 q2;have ne:b≠a:=fun z=>hj (uJ hs.nd q1 (z▸ea));exact⟨ws,(e.kp b _ (by simp[ne]) e3).2,l3.mono ex.vx⟩
 ·rename_i p' ds;obtain⟨r,rfl⟩:=e.pre;obtain⟨a2,rfl⟩:∃a2,r=[a2]:=by
   have:=s'.len;simp at this;exact List.length_eq_one_iff.mp this
  obtain⟨b2,ae,rfl⟩:=hy;cases ae;obtain⟨vs,ev,l⟩:=s'.cont 0 a p' rfl rfl;obtain⟨ac,af,l2⟩:=s'.cont 1 a2 ds rfl rfl;have n2:a2∉h++o.filter (fun b=>b≠a):=s'.dis a2 yv;have n3:a≠a2:=by
   have:=s'.nd;simp at this;exact this
  have n4:a2∉o:=fun m=>n2 (gp _ (mem_filter.mpr ⟨m,by simp[jg n3]⟩));have ex:Ex o H (o++[a2]) H':=⟨⟨[a2],rfl⟩,fun b u hb eb=>by
   obtain⟨z1,z2⟩:=e.kp b u (fun m=>hb (by rw[mem_singleton.mp m];exact ma)) eb;refine⟨?_,z2⟩;simp only[mem_append,not_or];exact⟨hb,fun m=>z1 (by simp at m ⊢;exact .inr m)⟩⟩
  have aa:vx (h++o.filter (fun b=>b≠a)) ([a]++[a2]) H'=vx h (o++[a2]) H':=jY fun b=>by
   have:=tV.mem_pen (h:=h) ea b;simp only[mem_append]at this ⊢;rw[<- or_assoc,this,or_assoc]
  rw[aa]at l l2;refine c (o++[a2]) H' (S.set k p'++[ds]) (.l S.length) _ ex ⟨by simp[hs.len],pK hs.nd n4,fun b hb=>?_,fun b hb=>?_,fun j b es q1 q2=>?_⟩ ⟨a2,by rw[hs.len,cz],rfl⟩ q
  ·rcases mem_append.mp hb with hb|hb
   ·exact hs.dis b hb
   ·rw[mem_singleton.mp hb];exact fun m=>n2 (gi _ m)
  ·obtain⟨u,eb⟩:=hs.hal b hb;exact⟨u,(e.kp b _ (fun m=>hs.dis a ma (by rw[<- mem_singleton.mp m];exact hb)) eb).2⟩
  ·by_cases hjo:j<o.length
   ·rw[fk hjo]at q1;rw[fk (by rw[length_set,hs.len];exact hjo)]at q2;by_cases hj:j=k
    ·subst hj;rw[q1]at ea;cases ea;rw[nv (by rw[hs.len];exact hk)]at q2;cases q2;exact⟨vs,ev,l⟩
    ·rw[rc (jg hj)]at q2;obtain⟨ws,e3,l3⟩:=hs.cont j b es q1 q2;have ne:b≠a:=fun z=>hj (uJ hs.nd q1 (z▸ea));exact⟨ws,(e.kp b _ (by simp[ne]) e3).2,l3.mono ex.vx⟩
   ·have ag:j=o.length:=by
     obtain⟨q,_⟩:=List.getElem?_eq_some_iff.mp q1;rw[cx,gr]at q;omega
    subst ag;rw[cz]at q1;rw[<- hs.len,<- length_set (i:=k) (a:=p'),cz]at q2;cases q1;cases q2;exact⟨ac,af,l2⟩
 ·exact q.elim
end
structure DEnds where
 nx:XE->Sto->Prop
 rt:RX
 bk:XE->Sto->Prop:=fun _ _=>False
 ct:XE->Sto->Prop:=fun _ _=>False
abbrev DS:=DEnds->XE->Sto->Prop
abbrev DG:=XV->XE->Sto->(XE->Sto->Prop)->Prop
abbrev DGs:=List bn->XE->Sto->(XE->Sto->Prop)->Prop
def Nx(h o:List Addr)(H:Hp)(N:XE->Sto->Prop)(M:St->Hp->Prop):Prop:=∀o' H' δ' S' σ',Ex o H o' H'->RepE h o' H' δ' σ'->RepS h o' H' S'->N δ' S'->M σ' H'
theorem Nx.pre{h o o':List Addr}{H H':Hp}{N:XE->Sto->Prop}{M:St->Hp->Prop}(c:Nx h o H N M)(e:Ex o H o' H'):Nx h o' H' N M:=fun o2 H2 δ2 S2 σ2 e2=>c o2 H2 δ2 S2 σ2 (e.trans e2)
structure EOk(h o:List Addr)(H:Hp)(E:DEnds)(D:Ends):Prop where
 nx:Nx h o H E.nx D.nx
 rt:Cn h o H E.rt D.rt
 bk:Nx h o H E.bk D.bk
 ct:Nx h o H E.ct D.ct
theorem EOk.pre{h o o':List Addr}{H H':Hp}{E:DEnds}{D:Ends}(c:EOk h o H E D)(e:Ex o H o' H'):EOk h o' H' E D:=⟨c.nx.pre e,c.rt.pre e,c.bk.pre e,c.ct.pre e⟩
def RS(t:TS)(dt:DS):Prop:=∀(h o:List Addr) (H:Hp) (δ:XE) (σ:St) (S:Sto) (E:DEnds) (D:Ends),RepE h o H δ σ->RepS h o H S->dt E δ S->EOk h o H E D->t D σ H
def RG(t:TG)(dt:DG):Prop:=∀(h o:List Addr) (H:Hp) (δ:XE) (σ:St) (S:Sto) (x:XV) (v:V) (N:XE->Sto->Prop) (M:St->Hp->Prop),RepE h o H δ σ->RepS h o H S->HasX h o H x v->dt x δ S N->Nx h o H N M->t v σ H M
def RGs(t:TGs)(dt:DGs):Prop:=∀(h o:List Addr) (H:Hp) (δ:XE) (σ:St) (S:Sto) (ds:List bn) (vs:List V) (N:XE->Sto->Prop) (M:St->Hp->Prop),RepE h o H δ σ->RepS h o H S->HasL (vx h o H) ds vs->dt ds δ S N->Nx h o H N M->t vs σ H M
def zj(i:Nat):DG:=fun x δ S N=>N (δ.set i (some x)) S
def cB:DGs:=fun ds δ S N=>ds=[]/\N δ S
def hdD:List bn->(bn->List bn->Prop)->Prop
 |d::es,k=>k d es
 | [],_=>False
theorem Kq{ds:List bn}{k:bn->List bn->Prop}(h:hdD ds k):∃d es,ds=d::es/\k d es:=by
 cases ds with
 |nil=>exact h.elim
 |cons d es=>exact⟨d,es,rfl,h⟩
theorem m7{d:bn}{es:List bn}{k:bn->List bn->Prop}:hdD (d::es) k=k d es:=rfl
def aQ(g:DG)(r:DGs):DGs:=fun ds δ S N=>hdD ds fun d es=>g (.d d) δ S fun δ' S'=>r es δ' S' N
def cG(n:Nat)(r:DGs):DG:=fun x δ S N=>asT x fun ds=>ds.length=n/\r ds δ S N
def gC(a b:DE):DG:=fun x δ S N=>a δ S fun y S1=>b δ S1 fun z S2=>asD x fun d=>∃k,y=.l k/\∃ds,S2[k]?=some ds/\asI z fun i=>∃j,ixN ds.length i=some j/\N δ (S2.set k (ds.set j d))
theorem zy{i:Nat}:RG (j7 i) (zj i):=fun h o H δ σ S x v N M he hs hx q c=>c o H _ S _ Ex.refl (he.set hx) hs q
theorem gM:RGs EG cB:=fun h o H δ σ S ds vs N M he hs l ⟨e,q⟩ c=>by
 subst e;exact⟨zR.mp l,c o H δ S σ Ex.refl he hs q⟩
theorem dA{t:TG}{u:TGs}{g:DG}{r:DGs}(h1:RG t g)(h2:RGs u r):RGs (BT t u) (aQ g r):=fun h o H δ σ S ds vs N M he hs l q0 c=>by
 obtain⟨d,es,rfl,q⟩:=Kq q0;obtain⟨v,ws,rfl,hv,l⟩:=zG.mp l;exact⟨v,ws,rfl,h1 h o H δ σ S (.d d) v _ _ he hs hv q fun o1 H1 δ1 S1 σ1 e1 aa ab q1=>h2 h o1 H1 δ1 σ1 S1 es ws N M aa ab (l.mono e1.vx) q1 (c.pre e1)⟩
theorem gQ{K:cy}{n:Nat}{t:TGs}{r:DGs}(h1:RGs t r):RG (DU K n t) (cG n r):=fun h o H δ σ S x v N M he hs hx q c=>by
 replace q:=hX q;obtain⟨ds,rfl,hn,q⟩:=q;obtain⟨a,vs,rfl,ea,l⟩:=eW hx;exact⟨a,vs,rfl,.of ea,by rw[l.length];exact hn,h1 h o H δ σ S ds vs N M he hs l q c⟩
theorem HasL.setAt{H:Hp}:∀{ds:List bn}{vs:List V}{j:Nat}{d:bn}{v:V},HasL H ds vs->Has H d v->HasL H (ds.set j d) (vs.set j v)
 | [],vs,j,d,v,l,_=>by rw[zR.mp l];exact zR.mpr rfl
 |c::ds,vs,0,d,v,l,q=>by
  obtain⟨u,r,rfl,_,l⟩:=zG.mp l;exact zG.mpr ⟨v,r,rfl,q,l⟩
 |c::ds,vs,j+1,d,v,l,q=>by
  obtain⟨u,r,rfl,hu,l⟩:=zG.mp l;exact zG.mpr ⟨u,r.set j v,rfl,hu,HasL.setAt l q⟩
theorem GX{ta tb:TE}{da db:DE}(ha:RE ta da)(hb:RE tb db):RG (Cd ta tb D5) (gC da db):=fun h o H δ σ S x v N M he hs hx q c=>
 ha h o H δ σ S _ _ he hs q fun o1 H1 S1 y u e1 s1 y1 d1=>hb h o1 H1 δ σ S1 _ _ (he.mono e1) s1 d1 fun o2 H2 S2 z w e2 s2 z2 d0=>by
  obtain⟨d,rfl,k,rfl,ds,es,d2⟩:=iD d0;replace d2:=cV d2;obtain⟨i,rfl,j,ej,d2⟩:=d2;obtain⟨a,ea,rfl⟩:=y1.mono e2;obtain⟨ws,ew,l⟩:=s2.cont k a ds ea es;refine⟨a,ws,i,j,rfl,cU z2,ew,by rw[l.length];exact ej,?_⟩;exact c o2 _ δ _ σ ((e1.trans e2).trans (Ex.upd ea)) (((he.mono e1).mono e2).mono (Ex.upd ea)) (s2.upd ea (l.setAt (hx.mono (e1.trans e2)))) d2
def aK:DS:=fun E δ S=>E.nx δ S
def zT(t u:DS):DS:=fun E δ S=>t { E with nx:=u E } δ S
def aA(e:DE)(g:DG):DS:=fun E δ S=>e δ S fun x S1=>g x δ S1 E.nx
def c9(e:DE):DS:=fun E δ S=>e δ S fun _ S1=>E.nx δ S1
def aB(e:DE):DS:=fun E δ S=>e δ S E.rt
def aJ(c:DT)(t u:DS):DS:=fun E δ S=>c δ S fun b S1=>if b=true then t E δ S1 else u E δ S1
section
variable {t u:TS}{dt du:DS}{te:TE}{de:DE}
theorem hU:RS wC aK:=fun h o H δ σ S E D he hs q c=>c.nx o H δ S σ Ex.refl he hs q
theorem zF(ht:RS t dt)(hu:RS u du):RS (e9 t u) (zT dt du):=fun h o H δ σ S E D he hs q c=>
 ht h o H δ σ S _ _ he hs q ⟨fun o1 H1 δ1 S1 σ1 e1 ab aa q1=>hu h o1 H1 δ1 σ1 S1 E D ab aa q1 (c.pre e1),c.rt,c.bk,c.ct⟩
theorem bV{g:TG}{dg:DG}(aa:RE te de)(hg:RG g dg):RS (qA te g) (aA de dg):=fun h o H δ σ S E D he hs q c=>
 aa h o H δ σ S _ _ he hs q fun o1 H1 S1 x v e1 s1 x1 d1=>hg h o1 H1 δ σ S1 x v _ _ (he.mono e1) s1 x1 d1 (c.nx.pre e1)
theorem oX(aa:RE te de):RS (B5 te) (c9 de):=fun h o H δ σ S E D he hs q c=>
 aa h o H δ σ S _ _ he hs q fun o1 H1 S1 x v e1 s1 x1 d1=>c.nx o1 H1 δ S1 σ e1 (he.mono e1) s1 d1
theorem cI(aa:RE te de):RS (vA te) (aB de):=fun h o H δ σ S E D he hs q c=>aa h o H δ σ S _ _ he hs q c.rt
theorem gL{tc:TT}{dc:DT}(hc:RT tc dc)(ht:RS t dt)(hu:RS u du):RS (uF tc t u) (aJ dc dt du):=fun h o H δ σ S E D he hs q c=>
 hc h o H δ σ S _ _ he hs q fun o1 H1 S1 b e1 s1 d1=>by
  cases b with
  |true=>exact g9 (ht h o1 H1 δ σ S1 E D (he.mono e1) s1 (by simpa using d1) (c.pre e1))
  |false=>exact iA (hu h o1 H1 δ σ S1 E D (he.mono e1) s1 (by simpa using d1) (c.pre e1))
def frz(n:Nat)(ds:List bn):Option XV->Option XV
 |some (.l k)=>if k=n then some (.d (.list ds))else some (.l k)
 |y=>y
end
abbrev DI:=XE->Sto->(List bn->Sto->Prop)->Prop
structure WalkX(h o:List Addr)(H:Hp)(J:It)(ds:List bn):Prop where
 stop:∀(i:Nat) o2 H2,ExH h o H o2 H2->ds.length<=i->J.stop i H2
 go:∀(i:Nat) d o2 H2,ExH h o H o2 H2->ds[i]?=some d->J.go i H2
 yld:∀(i:Nat) d o2 H2 x H3 S2,ExH h o H o2 H2->RepS h o2 H2 S2->ds[i]?=some d->J.yld i H2 x H3->Same H2 H3/\Has (vx h o2 H3) d x
def RI(w:TI)(di:DI):Prop:=∀(h o:List Addr) (H:Hp) (δ:XE) (σ:St) (S:Sto) (R:List bn->Sto->Prop) (Q:It->Hp->Prop),RepE h o H δ σ->RepS h o H S->di δ S R ->
 (∀o' H' S' ds J,Ex o H o' H'->RepS h o' H' S'->WalkX h o' H' J ds->R ds S'->Q J H')->w σ H Q
theorem HK{h o:List Addr}{H:Hp}{lo:Int}{n:Nat}:WalkX h o H (Itr lo n) (f7 lo n) where
 stop:=fun i _ _ _ hi=>by rw[eV]at hi;exact hi
 go:=fun i d _ _ _ hi=>(fH hi).1
 yld:=fun i d o2 H2 x H3 S2 _ _ hi y=>by
  obtain⟨e,ex⟩:=y;subst e ex;rw[(fH hi).2];exact⟨Same.refl _,fY.mpr rfl⟩
def lR(g:DG)(b:DS):List bn->DS
 | [],E,δ,S=>E.nx δ S
 |d::ds,E,δ,S=>g (.d d) δ S fun δ1 S1=>b { nx:=fun δ2 S2=>lR g b ds E δ2 S2,ct:=fun δ2 S2=>lR g b ds E δ2 S2,bk:=E.nx,rt:=E.rt } δ1 S1
def bT(i:DI)(g:DG)(b:DS):DS:=fun E δ S=>i δ S fun ds S1=>lR g b ds E δ S1
theorem gU{wi:TI}{g:TG}{tb:TS}{di:DI}{dg:DG}{db:DS}(hi:RI wi di)(hg:RG g dg)(hb:RS tb db):RS (pP wi g tb) (bT di dg db):=fun h o H δ σ S E D he hs q c=>
 hi h o H δ σ S _ _ he hs q fun o1 H1 S1 ds J e1 s1 wk d1=>by
  refine⟨fun i m σ2 H2=>m=ds.length-i/\i<=ds.length/\∃o2 δ2 S2,Ex o1 H1 o2 H2/\RepE h o2 H2 δ2 σ2/\RepS h o2 H2 S2/\lR dg db (ds.drop i) E δ2 S2,⟨ds.length,yv,lc _,o1,δ,S1,Ex.refl,he.mono e1,s1,d1⟩,?_⟩;rintro i m σ2 H2 ⟨rfl,hi,o2,δ2,S2,e2,ag,ac,d2⟩;by_cases hlt:i<ds.length
  ·have ed:ds[i]?=some ds[i]:=cn hlt;rw[lh hlt]at d2;refine .inr ⟨wk.go i _ o2 H2 e2.hid ed,fun σ3 H3=>∃o3 δ3 S3,Ex o1 H1 o3 H3/\RepE h o3 H3 δ3 σ3/\RepS h o3 H3 S3/\lR dg db (ds.drop (i+1)) E δ3 S3,fun σ3 H3 n=>⟨ds.length-(i+1),yw,rfl,hlt,n⟩,fun x H3 y=>?_⟩;obtain⟨s3,hx⟩:=wk.yld i _ o2 H2 x H3 S2 e2.hid ac ed y;have af:Ex o2 H2 o2 H3:=Ex.of_same s3;refine hg h o2 H3 δ2 σ2 S2 (.d ds[i]) x _ _ (ag.mono af) (ac.same s3) hx d2 fun o4 H4 δ4 S4 σ4 e4 ai ah d4=>?_;have ae:Ex o1 H1 o4 H4:=(e2.trans af).trans e4;have ce:=(c.pre e1).pre ae;exact hb h o4 H4 δ4 σ4 S4 _ _ ai ah d4 ⟨fun o5 H5 δ5 S5 σ5 e5 ab aa d5=>⟨o5,δ5,S5,ae.trans e5,ab,aa,d5⟩,ce.rt,ce.nx,fun o5 H5 δ5 S5 σ5 e5 ab aa d5=>⟨o5,δ5,S5,ae.trans e5,ab,aa,d5⟩⟩
  ·have ei:i=ds.length:=yw
   subst ei;rw[drop_length]at d2;exact .inl ⟨wk.stop _ o2 H2 e2.hid (ff _),c.nx o2 H2 δ2 S2 σ2 (e1.trans e2) ag ac d2⟩
def aG:DT:=fun _ S R=>R true S
theorem bJ:RT vR aG:=fun h o H δ σ S R Q he hs q c=>c o H S true Ex.refl hs q
def bE(n:Nat)(g:DG)(tt:DT)(te:DE)(fin:Sto->Prop):List bn->XE->Sto->Prop
 | [],_,S=>fin S
 |d::ds,τ,S=>g (.d d) τ S fun τ1 S1=>tt τ1 S1 fun b S2=>if b=true then te τ1 S2 fun x S3=>asD x fun e=>∃acc,S3[n]?=some acc/\acc.length<1000/\bE n g tt te fin ds τ1 (S3.set n (acc++[e]))else bE n g tt te fin ds τ1 S2
def gI(caps:List (Option Nat))(i:DI)(g:DG)(tt:DT)(te:DE):DE:=fun δ S R=>i δ S fun ds S1=>bE S1.length g tt te (fun S2=>R (.l S1.length) S2) ds (fO caps δ) (S1++[[]])
def aZ(caps:List (Option Nat))(i:DI)(g:DG)(tt:DT)(te:DE):DE:=fun δ S R=>i δ S fun ds S1=>bE S1.length g tt te (fun S2=>∃S0 acc,S2=S0++[acc]/\S0.length=S1.length/\R (.d (.list acc)) S0) ds (fO caps δ) (S1++[[]])
theorem RepS.pop{h o r:List Addr}{H:Hp}{S0 T:Sto}(hs:RepS h (o++r) H (S0++T))(hl:S0.length=o.length):RepS h o H S0 where
 len:=hl
 nd:=(nodup_append.mp hs.nd).1
 dis:=fun a ha=>hs.dis a (gi _ ha)
 hal:=hs.hal
 cont:=fun k a ds e1 e2=>by
  obtain⟨vs,e3,l⟩:=hs.cont k a ds (j6 e1) (j6 e2);exact⟨vs,e3,l.mono fun b u e=>by
   obtain⟨z1,z2,z3⟩:=aW.mp e;exact aW.mpr ⟨z1,fun m=>z2 (gi _ m),z3⟩⟩
theorem j8{h o r:List Addr}{H:Hp}:Same (vx h (o++r) H) (vx h o H):=fun b u e=>by
 obtain⟨z1,z2,z3⟩:=aW.mp e;exact aW.mpr ⟨z1,fun m=>z2 (gi _ m),z3⟩
theorem Ex.pop{o o' r:List Addr}{H H':Hp}(e:Ex o H (o++r) H'):Ex o H o H':=⟨⟨[],yv⟩,fun b u hb eb=>⟨hb,(e.kp b u hb eb).2⟩⟩
theorem Dp{caps:List (Option Nat)}{wi:TI}{g:TG}{tt:TT}{te:TE}{di:DI}{dg:DG}{ac:DT}{ab:DE}(hi:RI wi di)(hg:RG g dg)(ht:RT tt ac)(ai:RE te ab)
  {h o:List Addr}{H:Hp}{δ:XE}{σ:St}{S:Sto}{Q:VK}{fin:Nat->Sto->Prop} (he:RepE h o H δ σ) (hs:RepS h o H S) (q:di δ S fun ds S1=>bE S1.length dg ac ab (fin S1.length) ds (fO caps δ) (S1++[[]]))
  (c:∀o1 H1 D o2 H2 S2,Ex o H o1 H1->H1 D=none->Ex (o1++[D]) (upd H1 D (.lst [])) o2 H2->RepS h o2 H2 S2->fin o1.length S2->Q (.ref D) H2):lM caps wi g tt te σ H Q:=by
 refine hi h o H δ σ S _ _ he hs q fun o1 H1 S1 ds J e1 s1 wk d1 D hD=>?_;have eN:Ex o1 H1 (o1++[D]) (upd H1 D (.lst [])):=Ex.new s1 hD;have sN:RepS h (o1++[D]) (upd H1 D (.lst [])) (S1++[[]]):=s1.new hD (zR.mpr rfl);have hn:S1.length=o1.length:=s1.len;refine⟨fun i m τ H2=>m=ds.length-i/\i<=ds.length/\∃o2 δ2 S2,Ex (o1++[D]) (upd H1 D (.lst [])) o2 H2/\RepE h o2 H2 δ2 τ/\RepS h o2 H2 S2/\bE S1.length dg ac ab (fin S1.length) (ds.drop i) δ2 S2,⟨ds.length,yv,lc _,_,_,_,Ex.refl,((he.mono e1).mono eN).tau,sN,d1⟩,?_⟩;rintro i m τ H2 ⟨rfl,hi,o2,δ2,S2,e2,aj,ae,d2⟩;by_cases hlt:i<ds.length
 ·have ed:ds[i]?=some ds[i]:=cn hlt;rw[lh hlt]at d2;refine .inr ⟨wk.go i _ o2 H2 (eN.trans e2).hid ed,fun x H3 y=>?_⟩;obtain⟨s3,hx⟩:=wk.yld i _ o2 H2 x H3 S2 (eN.trans e2).hid ae ed y;have af:Ex o2 H2 o2 H3:=Ex.of_same s3;refine hg h o2 H3 δ2 τ S2 (.d ds[i]) x _ _ (aj.mono af) (ae.same s3) hx d2 fun o4 H4 δ4 S4 τ4 e4 aa ak d4=>?_;refine ht h o4 H4 δ4 τ4 S4 _ _ aa ak d4 fun o5 H5 S5 b e5 s5 d5=>?_;have ah:=((e2.trans af).trans e4).trans e5;cases b with
  |false=>exact iA ⟨ds.length-(i+1),yw,rfl,hlt,o5,δ4,S5,ah,aa.mono e5,s5,by simpa using d5⟩
  |true=>
   refine g9 (ai h o5 H5 δ4 τ4 S5 _ _ (aa.mono e5) s5 (by simpa using d5) fun o6 H6 S6 z v e6 s6 z6 d6=>?_);replace d6:=iD d6;obtain⟨e,rfl,acc,ea,hl,d6⟩:=d6;have ag:=ah.trans e6;have eD:o6[S1.length]?=some D:=by
    obtain⟨r,rfl⟩:=ag.pre;rw[hn];exact j6 (by rw[cz])
   obtain⟨vs,ev,l⟩:=s6.cont _ D acc eD ea;refine⟨vs,ev,by rw[l.length];exact small1000 (ku hl),ds.length-(i+1),yw,rfl,hlt,o6,δ4,_,ag.trans (Ex.upd eD),((aa.mono e5).mono e6).mono (Ex.upd eD),s6.upd eD (l.append (zG.mpr ⟨v,[],rfl,z6,zR.mpr rfl⟩)),d6⟩
 ·have ei:i=ds.length:=yw
  subst ei;rw[drop_length]at d2;exact .inl ⟨wk.stop _ o2 H2 (eN.trans e2).hid (ff _),c o1 H1 D o2 H2 S2 e1 hD e2 ae (hn▸d2)⟩
theorem rO{caps:List (Option Nat)}{wi:TI}{g:TG}{tt:TT}{te:TE}{di:DI}{dg:DG}{aa:DT}{ab:DE}(hi:RI wi di)(hg:RG g dg)(ht:RT tt aa)(ac:RE te ab):RE (lM caps wi g tt te) (gI caps di dg aa ab):=fun h o H δ σ S R Q he hs q c=>by
 refine Dp (fin:=fun n S2=>R (.l n) S2) hi hg ht ac he hs q fun o1 H1 D o2 H2 S2 e1 hD e2 s2 f=>?_;have eN:Ex o1 H1 (o1++[D]) (upd H1 D (.lst [])):=⟨⟨[D],rfl⟩,fun b w hb e=>by
  have ne:b≠D:=dY e hD;exact⟨by simp[hb,ne],by rw[zZ ne];exact e⟩⟩
 refine c o2 H2 S2 (.l o1.length) _ ((e1.trans eN).trans e2) s2 ⟨D,?_,rfl⟩ f;obtain⟨r,rfl⟩:=e2.pre;exact j6 (by rw[cz])
theorem bP{caps:List (Option Nat)}{wi:TI}{g:TG}{tt:TT}{te:TE}{di:DI}{dg:DG}{aa:DT}{ac:DE}(hi:RI wi di)(hg:RG g dg)(ht:RT tt aa)(ae:RE te ac):RE (lM caps wi g tt te) (aZ caps di dg aa ac):=fun h o H δ σ S R Q he hs q c=>by
 refine Dp (fin:=fun n S2=>∃(S0:Sto) (acc:List bn),S2=S0++[acc]/\S0.length=n/\R (.d (.list acc)) S0) hi hg ht ae he hs q fun o1 H1 D o2 H2 S2 e1 hD e2 s2 ⟨S0,acc,eS,hl,f⟩=>?_;subst eS;have eN:Ex o1 H1 (o1++[D]) (upd H1 D (.lst [])):=⟨⟨[D],rfl⟩,fun b w hb e=>by
  have ne:b≠D:=dY e hD;exact⟨by simp[hb,ne],by rw[zZ ne];exact e⟩⟩
 have ab:=eN.trans e2;obtain⟨r,rfl⟩:=e2.pre;have er:r=[]:=by
  have:=s2.len;simp only[cx,gr,hl]at this;exact iy yw
 subst er;rw[kn]at s2 ab;have s0:RepS h o1 H2 S0:=s2.pop hl;refine c o1 H2 S0 (.d (.list acc)) _ (e1.trans (Ex.pop (o':=o1) ab)) s0 ?_ f;obtain⟨vs,ev,l⟩:=s2.cont o1.length D acc (by rw[cz]) (by rw[<- hl,cz]);have nD:D∉o1:=by
  have:=(nodup_append.mp s2.nd).2.2;intro m;exact this D m D yv rfl
 exact f8.mpr ⟨D,vs,rfl,aW.mpr ⟨s2.dis D yv,nD,ev⟩,l.mono j8⟩
def fin(n:Nat)(R:RX):RX:=fun y S'=>match y with
 | .l k=>if k<n then R (.l k) (S'.take n)else ∃ds,S'[k]?=some ds/\(R (.d (.list ds)) (S'.take n)\/R (.l n) (S'.take n++[ds]))
 |y=>R y (S'.take n)
theorem Cg{h o:List Addr}{H:Hp}{S:Sto}{R:RX}{Q:VK}(hs:RepS h o H S)(c:Cn h o H R Q):Cn h o H (fin S.length R) Q:=fun o' H' S' y v e s' hy q=>by
 obtain⟨r,rfl⟩:=e.pre;have eS:S'=S'.take S.length++S'.drop S.length:=(ky _ _).symm;have hl:(S'.take S.length).length=o.length:=by
  have:=s'.len;rw[cx]at this;rw[nz,this,hs.len];omega
 have s0:RepS h o H' (S'.take S.length):=by
  rw[eS]at s';exact s'.pop hl
 have e0:Ex o H o H':=Ex.pop (o':=o) e;cases y with
 |d d=>exact c o H' _ (.d d) v e0 s0 (Has.mono j8 d v hy) q
 |o w=>exact c o H' _ (.o w) v e0 s0 hy q
 |x C fs=>exact c o H' _ (.x C fs) v e0 s0 (HasE.mono j8 hy) q
 |l k=>
  unfold fin at q;by_cases hk:k<S.length
  ·simp only[hk,↓reduceIte]at q;obtain⟨a,ea,rfl⟩:=hy;exact c o H' _ (.l k) _ e0 s0 ⟨a,by rw[fk (by rw[<- hs.len];exact hk)]at ea;exact ea,rfl⟩ q
  ·simp only[hk,↓reduceIte]at q;obtain⟨ds,ab,q⟩:=q;obtain⟨a,ea,rfl⟩:=hy;obtain⟨vs,ev,l⟩:=s'.cont k a ds ea ab;have na:a∉o:=fun m=>by
    obtain⟨j,ej⟩:=mem_iff_getElem?.mp m;have hj:j<o.length:=(List.getElem?_eq_some_iff.mp ej).1;have:=uJ s'.nd (j6 (t:=r) ej) ea;rw[hs.len]at hk;omega
   have nh:a∉h:=s'.dis a (bu ea);rcases q with q|q
   ·exact c o H' _ (.d (.list ds)) _ e0 s0 (f8.mpr ⟨a,vs,rfl,aW.mpr ⟨nh,na,ev⟩,l.mono j8⟩) q
   ·have hn:H a=none:=by
     cases eh:H a with
     |none=>rfl
     |some u=>exact absurd (bu ea) (e.kp a u na eh).1
    have e1:Ex o H (o++[a]) H':=⟨⟨[a],rfl⟩,fun b u hb eb=>⟨by simp only[mem_append,mem_singleton,not_or];exact⟨hb,dY eb hn⟩,(e0.kp b u hb eb).2⟩⟩;have sub:Same (vx h (o++r) H') (vx h (o++[a]) H'):=fun b u eb=>by
     obtain⟨z1,z2,z3⟩:=aW.mp eb;refine aW.mpr ⟨z1,?_,z3⟩;simp only[mem_append,mem_singleton,not_or];exact⟨fun m=>z2 (gi _ m),fun z=>z2 (by rw[z];exact bu ea)⟩
    refine c (o++[a]) H' _ (.l S.length) _ e1 ⟨by rw[cx,cx,hl];rfl,pK hs.nd na,fun b hb=>?_,s0.hal,fun j b es q1 q2=>?_⟩ ⟨a,by rw[hs.len,cz],rfl⟩ q
    ·rcases mem_append.mp hb with hb|hb
     ·exact hs.dis b hb
     ·rw[mem_singleton.mp hb];exact nh
    ·by_cases hj:j<o.length
     ·rw[fk hj]at q1;rw[fk (by rw[hl];exact hj),List.getElem?_take_of_lt (by rw[hs.len];exact hj)]at q2;obtain⟨ws,e3,l3⟩:=s'.cont j b es (j6 q1) q2;exact⟨ws,e3,l3.mono sub⟩
     ·have aa:j=o.length:=by
       obtain⟨q,_⟩:=List.getElem?_eq_some_iff.mp q1;rw[cx,gr]at q;omega
      subst aa;rw[cz]at q1;rw[<- hl,cz]at q2;cases q1;cases q2;exact⟨vs,ev,l.mono sub⟩
def aO(n:Nat)(R:RX):DEnds:={ nx:=fun _ S'=>fin n R (.d .none) S',rt:=fin n R }
theorem eok{h o:List Addr}{H:Hp}{S:Sto}{R:RX}{Q:VK}(hs:RepS h o H S)(c:Cn h o H R Q):EOk h o H (aO S.length R) { nx:=fun _ H'=>Q .non H',rt:=Q } :=
 ⟨fun o' H' δ' S' σ' e he aa q=>Cg hs c o' H' S' _ _ e aa xN q,Cg hs c,fun _ _ _ _ _ _ _ _ q=>q.elim,fun _ _ _ _ _ _ _ _ q=>q.elim⟩
def zW(p:List bn):Prop:=∃l g s:Int,p=[.int l,.int g,.int s]/\0<=l
end
section
def Cs(K:cy):List V->Hp->VK->Prop:=fun xs H Q=>∃(p:Addr) (ns:List Int),xs=[.ref p]/\SqL K H p (ns.map V.int)/\Q (.int ns.sum) H
def xE(K:cy):List V->Hp->VK->Prop:=fun xs H Q=>∃(p:Addr) (bs:List Bool),xs=[.ref p]/\SqL K H p (bs.map V.bl)/\Q (.bl (bs.all id)) H
theorem lS:iq "sum" = some (.builtin "sum"):=by decide +kernel
theorem jE:iq "all" = some (.builtin "all"):=by decide +kernel
section
variable {X:Cx}
theorem mS(hc:X.calm=true):CallR X (.builtin "sum") (Cs X.K):=by
 intro zk s σ H xs us Q I r h;obtain⟨p,ns,rfl,hq,q⟩:=h;obtain⟨u,rfl,rx⟩:=vals1 r;cases (show u=ga p from rx);obtain⟨ab,rv,pl,_⟩:=I.list hq;obtain⟨ys,e,aa⟩:=mU (fT rv);refine sum_intListG (I.ok.hd hc) (by rw[<- e];exact pl.isList) fun h' tk t' hk=>⟨.int ns.sum,H,I.kept (t':=tk) hk,⟨t',?_⟩,q⟩;have es:preSum (numAt ys) ys.size=ns.sum:=by
  rw[preSum_eq,aa,ls yv]
 rw[es]
theorem Cw:∀{bs:List Bool}{us:List bp}{i:Nat}{v:bp},Vals (bs.map V.bl) us->us[i]?=some v->∃b,bs[i]?=some b/\v=.bool b
 | [],_,i,v,.nil,e=>by simp at e
 |b::bs,_,0,v,.cons r _,e=>by
  rw[qb]at e;cases e;exact⟨b,rfl,r⟩
 |b::bs,_,i+1,v,.cons _ t,e=>by
  obtain⟨c,e1,e2⟩:=Cw (i:=i) (v:=v) t (by simpa using e);exact⟨c,by simpa using e1,e2⟩
theorem G9(bs:List Bool):((fq bs.length).all fun i=>(bs[i]?).getD true)=bs.all id:=by
 rw[Bool.eq_iff_iff,ki,ki];constructor
 ·intro h b hb;obtain⟨i,hi⟩:=mem_iff_getElem?.mp hb;have hl:=(List.getElem?_eq_some_iff.mp hi).1;have:=h i (mem_range.mpr hl);rw[hi]at this;exact this
 ·intro h i hi;have hl:=mem_range.mp hi;rw[cn hl];exact h _ (qx hl)
theorem iR(hc:X.calm=true):CallR X (.builtin "all") (xE X.K):=by
 intro zk s σ H xs us Q I r h;obtain⟨p,bs,rfl,hq,q⟩:=h;obtain⟨u,rfl,rx⟩:=vals1 r;cases (show u=ga p from rx);obtain⟨aa,rv,pl,_⟩:=I.list hq;have hl:=pl.isList;have ab:p<s.heap.objs.size:=by
  obtain⟨_,e,_⟩:=hl;exact gg e
 refine call_all_walk (x:=ga p) (qr hl ?_);refine⟨s.heap.objs.size,[s.heap.objs.size,p],[s.heap.objs.size],aa.toArray.size,_,_,fun i=>(bs[i]?).getD true,rfl,
  Walks.list (A:=X.A.in1) (I.ok.hd hc) _ p (ig ab) aa.toArray,⟨⟨_,fj _ rfl,rfl,rfl⟩,hl.push _⟩,fun i v s' Q' E' hP hQ=>?_,fun h' tk hk=>?_⟩
 ·obtain⟨b,e,rfl⟩:=Cw (i:=i) (v:=v) rv (by simpa using hP);have ac:Q' b s':=by simpa[e]using hQ
  exact ja ac
 ·have hz:aa.toArray.size=bs.length:=by
   have:=rv.length;rw[fw]at this;simp[this]
  rw[hz,G9];refine⟨.bl _,H,I.kept (t':=tk) fun b o e=>hk b o (fun hm=>?_) (cp _ e),rfl,q⟩;rw[mem_singleton.mp hm]at e;exact lj _ (gg e)
end
def eX:List XV->Sto->RX->Prop:=fun xs S R=>arg1 xs fun x=>∃ds,fV S x=some ds/\∃ns:List Int,ds=ns.map bw/\R (.d (.int ns.sum)) S
theorem k9{K:cy}:RC (Cs K) eX:=fun h o H S xs vs R Q hs hx q c=>by
 obtain⟨x,rfl,ds,hd,ns,rfl,q1⟩:=dD q;obtain⟨v,rfl,aa⟩:=hxs1 hx;obtain⟨a,ws,rfl,ea,l⟩:=c8 hs hd aa;rw[jB l]at ea;exact⟨a,ns,rfl,.of ea,c o H S _ _ Ex.refl hs (xI _) q1⟩
theorem AS{H:Hp}:∀{ns:List Bool}{vs:List V},HasL H (ns.map PyData.bool) vs->vs=ns.map V.bl
 | [],vs,h=>zR.mp h
 |n::ns,vs,h=>by
  obtain⟨v,r,rfl,h1,h2⟩:=zG.mp h;rw[jU.mp h1,AS h2];rfl
def eG:List XV->Sto->RX->Prop:=fun xs S R=>arg1 xs fun x=>∃ds,fV S x=some ds/\∃ns:List Bool,ds=ns.map PyData.bool/\R (.d (.bool (ns.all id))) S
theorem hZ{K:cy}:RC (xE K) eG:=fun h o H S xs vs R Q hs hx q c=>by
 obtain⟨x,rfl,ds,hd,ns,rfl,q1⟩:=dD q;obtain⟨v,rfl,aa⟩:=hxs1 hx;obtain⟨a,ws,rfl,ea,l⟩:=c8 hs hd aa;rw[AS l]at ea;exact⟨a,ns,rfl,.of ea,c o H S _ _ Ex.refl hs (xB _) q1⟩
section
variable {S:Sto}{i:Int}{b:Bool}{z:Str}{ds:List bn}{d:bn}{k:Nat}{x y:XV}{R:RX}{c:String}{p:List bn}{n:Nat}{v:V}
theorem pB{K:Int->Prop}:asI (.d (.int i)) K=K i:=rfl
theorem oW{K:Bool->Prop}:asB (.d (.bool b)) K=K b:=rfl
theorem nQ{K:Str->Prop}:asS (.d (.str z)) K=K z:=rfl
theorem oJ{K:List bn->Prop}:asT (.d (.tuple ds)) K=K ds:=rfl
theorem nR{K:bn->Prop}:asD (.d d) K=K d:=rfl
theorem p9:fV S (.d (.list ds))=some ds:=rfl
theorem rL:fV S (.l k)=S[k]?:=rfl
theorem nF:asQ S (.d (.list ds))=some ds:=rfl
theorem nC:asQ S (.d (.tuple ds))=some ds:=rfl
theorem pG:asQ S (.l k)=S[k]?:=rfl
theorem rM:dZ S (.d d)=some d:=rfl
theorem qM:dZ S (.l k)=(S[k]?).map .list:=rfl
theorem oS:ret0 S R (.d d) []=R (.d d) S:=rfl
theorem qG:ret0 S R (.l 0) [ds]=R (.l S.length) (S++[ds]):=rfl
theorem o9:sG k S R (.d d) [p]=R (.d d) (S.set k p):=rfl
theorem nN:fin n R (.d d) S=R (.d d) (S.take n):=rfl
theorem nO:fin n R (.l k) S=if k<n then R (.l k) (S.take n)else ∃ds,S[k]?=some ds/\(R (.d (.list ds)) (S.take n)\/R (.l n) (S.take n++[ds])):=rfl
theorem nZ{K:XV->Prop}:arg1 [x] K=K x:=rfl
theorem oO{K:XV->XV->Prop}:arg2 [x,y] K=K x y:=rfl
theorem rJ{K:String->Prop}:xO (.o (.ty c)) K↔K c:=⟨fun⟨_,e,q⟩=>by cases e;exact q,fun q=>⟨c,rfl,q⟩⟩
theorem oR{K:Int->Prop}:vO (.d (.bool b)) K=K (if b then 1 else 0):=rfl
theorem nX:(aO n R).rt x S=fin n R x S:=rfl
theorem qW:datas []=some []:=rfl
theorem nT{r:List XV}:datas (.d d::r)=(datas r).map (d :: ·):=rfl
end
theorem qL{α:Type}{a:α}{l:List α}:atI (a::l) 0=some a:=f6 (j:=0) rfl
theorem nJ{α:Type}{a b:α}{l:List α}:atI (a::b::l) 1=some b:=f6 (j:=1) rfl
theorem qF{α:Type}{a b c:α}{l:List α}:atI (a::b::c::l) 2=some c:=f6 (j:=2) rfl
theorem qU{α:Type}{a b c d:α}{l:List α}:atI (a::b::c::d::l) 3=some d:=f6 (j:=3) rfl
theorem oQ{α:Type}{a b c d e:α}{l:List α}:atI (a::b::c::d::e::l) 4=some e:=f6 (j:=4) rfl
def Shp(n:Nat)(d:bn):Prop:=d.canLay0=true/\d.depth<=n
theorem fG{n:Nat}{i:Int}:Shp n (.int i):=⟨rfl,lc _⟩
theorem Gd{n:Nat}{i:Bool}:Shp n (.bool i):=⟨rfl,lc _⟩
theorem Id{n:Nat}:Shp n .none:=⟨rfl,lc _⟩
theorem wW{n:Nat}:∀{ds:List bn},(∀d∈ds,Shp n d)->lr ds=true/\qi ds<=n
 | [],_=>⟨by simp only[lr],by simp only[qi];exact lc _⟩
 |d::ds,h=>by
  obtain⟨h1,h2⟩:=h d df;obtain⟨h3,h4⟩:=wW (ds:=ds) fun e m=>h e (cu _ m);simp only[lr,qi,h1,h3,Bool.and_true,true_and];omega
theorem r9{n:Nat}{ds:List bn}(h:∀d∈ds,Shp n d):Shp (n+1) (.list ds):=by
 obtain⟨h1,h2⟩:=wW h;exact⟨by simp only[mj];exact h1,by simp only[PyData.depth];omega⟩
theorem lB{n:Nat}{ds:List bn}(h:∀d∈ds,Shp n d):Shp (n+1) (.tuple ds):=by
 obtain⟨h1,h2⟩:=wW h;exact⟨by simp only[mj];exact h1,by simp only[PyData.depth];omega⟩
theorem xR{α:Type}{n:Nat}{f:α->bn}{l:List α}(h:∀x∈l,Shp n (f x)):∀d∈l.map f,Shp n d:=fun d m=>by
 obtain⟨x,hx,rfl⟩:=mem_map.mp m;exact h x hx
theorem CB{n:Nat}{a b:bn}(h1:Shp n a)(h2:Shp n b):∀d∈[a,b],Shp n d:=by
 intro d m;simp only[ix,gk,or_false]at m;rcases m with rfl|rfl
 ·exact h1
 ·exact h2
theorem Shp.ok{n:Nat}{d:bn}(h:Shp n d)(hn:n<=64:=by decide):gn d=true:=by
 unfold gn;rw[h.1,ge (jn h.2 hn)];rfl
theorem cY{g:DG}{b:DS}{E:DEnds}:∀{ds:List bn}{δ:XE}{S:Sto} (I:Nat->XE->Sto->Prop),I 0 δ S ->
  (∀i d δ S (N:XE->Sto->Prop),ds[i]?=some d->I i δ S->(∀ δ' S',I (i+1) δ' S'->N δ' S')->g (.d d) δ S fun δ1 S1=>b { nx:=N,ct:=N,bk:=E.nx,rt:=E.rt } δ1 S1) ->
  (∀ δ S,I ds.length δ S->E.nx δ S)->lR g b ds E δ S
 | [],δ,S,I,h0,_,fin=>fin δ S h0
 |d::ds,δ,S,I,h0,step,fin=>by
  show g (.d d) δ S fun δ1 S1=>b _ δ1 S1;refine step 0 d δ S _ rfl h0 fun δ' S' h1=>?_;exact cY (ds:=ds) (fun i=>I (i+1)) h1 (fun i e δ S N hi=>step (i+1) e δ S N (by simpa using hi)) fin
theorem mV{α:Type}{l:List α}{a b:α}{n:Nat}(h:l.length=n):(l++[a]).set n b=l++[b]:=by
 subst h;rw[List.set_append_right _ _ (ff _),Nat.sub_self];rfl
theorem KB{H:Hp}:RepS [] [] H []:=⟨rfl,nodup_nil,fun _ h=>(nomatch h),fun _ h=>(nomatch h),fun _ _ _ e=>(by simp at e)⟩
theorem Ex.same_nil{o':List Addr}{H H':Hp}(e:Ex [] H o' H'):Same H H':=fun b u q=>(e.kp b u yv q).2
theorem Jw{K:cy}{a:Addr}{ns:List Int}{N:Int}{j m:Nat}{tb:TS}{db:DS}{D:Ends}{σ:St}{H:Hp}(hb:RS tb db)(h0:σ[0]?=some (some (.ref a)))(hl:σ.length=m+1)(hS:SqL K H a (ns.map V.int))(aa:ns.length<=63)
  (turn:∀n:Int,db { nx:=fun δ _=>δ[0]?=some (some (.o (.ref a)))/\δ.length=m+1,ct:=fun δ _=>δ[0]?=some (some (.o (.ref a)))/\δ.length=m+1,rt:=fun _ _=>False } ((some (.o (.ref a))::bx m none).set j (some (.d (.int n)))) [])
  (hj:j≠0) (done:∀(σ:St) (H1:Hp),Same H H1->D.nx σ H1):
  pP (x5 K (tOp lJ (jH (fJ (tC2 (yL K) (gJ 0) (tC (.int 0))) kR)) (tSl (oF K) (gJ 0) (lH (tC (.int 1))) (lH (tC (.int N)))))) (j7 j) tb D σ H:=by
 refine J0 (a:=a) (ns:=ns) (fun σ=>σ[0]?=some (some (.ref a))/\σ.length=m+1) h0 hS aa ⟨h0,hl⟩ ?_ fun σ H1 _ s=>done σ H1 s;rintro n σ1 H1 H2 ⟨z0,z1⟩ s1 s2;refine hb [] [] H2 _ _ [] _ _ ⟨by simp[z1],fun i x e=>?_⟩ KB (turn n) ⟨?_,fun _ _ _ _ _ _ _ _ q=>q.elim,fun _ _ _ _ _ _ _ _ q=>q.elim,?_⟩
 ·rw[List.getElem?_set]at e ⊢;by_cases hij:j=i
  ·rw[cg hij]at e ⊢;by_cases hjl:j<m+1
   ·rw[cg (by simpa using hjl)]at e;rw[cg (by rw[z1];exact hjl)];cases e;exact⟨.int n,rfl,xI n⟩
   ·rw[cf (by simpa using hjl)]at e;cases e
  ·rw[cf hij]at e ⊢;cases i with
   |zero=>
    cases e;exact⟨.ref a,z0,rfl⟩
   |succ i=>
    rw[qc,List.getElem?_replicate]at e;split at e<;>cases e
 ·rintro o' H' δ' S' σ' e he hs ⟨q1,q2⟩;obtain⟨v,ev,hv⟩:=he.get 0 _ q1;cases hv;exact⟨s2.trans e.same_nil,ev,by rw[<- he.len];exact q2⟩
 ·rintro o' H' δ' S' σ' e he hs ⟨q1,q2⟩;obtain⟨v,ev,hv⟩:=he.get 0 _ q1;cases hv;exact⟨s2.trans e.same_nil,ev,by rw[<- he.len];exact q2⟩
end
section
theorem Jz{P:gc}{w:gy}{K:cy}{tg:Expr}(it:Addr)(lo:Int)(n:Nat):Turn P w K tg (Itr lo n) [it] it (fun i h=>IsLongIter h it (lo+(i:Nat)*1) ((n:Int)-(i:Nat)) 1) where
 mem:=by simp
 obj:=fun i h st b hb=>by
  have e:b=it:=by simpa using hb
  subst e;exact⟨_,st,fun v z=>by
   have z':Data.fields _=Data.cell v:=z;cases z'⟩
 keep:=fun i h h' st k=>k it yv _ st
 item:=by
  intro X hP hw hK hc i zk s σ H E I hf st hg;subst hP hw hK;obtain⟨f0,f1,f2,f3,f4,f5⟩:=hf it yv;have W:=Walks.longrange (prog:=X.prog) (w:=X.w) (I.ok.hd hc) it lo 1 n;refine W.item i s _ _ hg st fun v h' tk hv st' kk=>?_;obtain⟨t,rfl⟩:=hv;have I1:Inv X zk σ H { s with heap:=h',toks:=tk }:=I.turned (fun b o hb e=>kk b o (by simpa using hb) e) f0 f1 f3 f4 f5;refine⟨_,rfl,sQ (s:={ s with heap:=h',toks:=tk }) (n:="longrange_iterator") st' rfl rfl dz ⟨.int (lo+i),H,I1,⟨t,?_⟩,⟨rfl,rfl⟩,st',fun b hb=>(hf b hb).1⟩⟩;rw[Int.mul_one]
 done:=by
  intro X hP hw hK hc i zk s σ H E I hf st hg;subst hP hw hK;obtain⟨f0,f1,f2,f3,f4,f5⟩:=hf it yv;exact wpAny_pyNext_long_end (I.ok.hd hc) st (by have:n<=i:=hg;omega) fun h' eb=>⟨rfl,I.turned (t':=s.toks) (fun b o hb e=>eb b o hb e) f0 f1 f3 f4 f5⟩
 self:=fun _ _ _ _ _ st h=>wpAny_pyIter_longiter st h
section
variable {X:Cx}{tg:Expr}
theorem Hi{zk:List (Addr×Obj)}{σ:St}{H:Hp}{s:bq}{R:It->Hp->Prop}{E:bp->bq->Prop}{lo hi:Int}{t u v:Tok}{tk:Nat}(I:Inv X zk σ H s)
  (q:R (Itr lo (hi-lo).toNat) H):dh (model X.prog X.w) X.A (pyIter (.ref s.heap.objs.size)) (PIE X zk σ tg R) E { s with heap:=s.heap.push { cls:=.type "range",data:=.fields #[.int lo t,.int hi u,.int 1 v] },toks:=tk }:=by
 have I1:Inv X zk σ H { s with heap:=s.heap.push { cls:=.type "range",data:=.fields #[.int lo t,.int hi u,.int 1 v] },toks:=tk }:=I.kept fun b o e=>cp _ e;have e1:lo+((0:Nat):Int)*1=lo:=by simp
 have e2:(((hi-lo).toNat:Nat):Int)-((0:Nat):Int)=Builtin.Range.rangeSize lo hi 1:=by rw[rangeSize_one];split<;>omega
 cases hsm:Builtin.Range.small lo hi 1 with
 |true=>
  refine wpAny_pyIter_range (IsRange.new ..) hsm ?_;refine⟨(s.heap.push { cls:=.type "range",data:=.fields #[.int lo t,.int hi u,.int 1 v] }).objs.size,[(s.heap.push { cls:=.type "range",data:=.fields #[.int lo t,.int hi u,.int 1 v] }).objs.size],_,_,H,rfl,
   I1.kept (t':=tk) fun b o e=>cp _ e,HF _ lo (hi-lo).toNat,?_,fun b hb=>?_,q⟩
  ·show IsRangeIter _ _ (lo+((0:Nat):Int)*1) ((((hi-lo).toNat:Nat):Int)-((0:Nat):Int)) 1;rw[e1,e2];exact fj _ rfl
  ·have e:b=(s.heap.push { cls:=.type "range",data:=.fields #[.int lo t,.int hi u,.int 1 v] }).objs.size:=by simpa using hb
   subst e;exact I1.fpOk (ff _) (I1.hok.fresh (ff _))
 |false=>
  refine wpAny_pyIter_longrange (IsRange.new ..) hsm ?_;refine⟨(s.heap.push { cls:=.type "range",data:=.fields #[.int lo t,.int hi u,.int 1 v] }).objs.size,[(s.heap.push { cls:=.type "range",data:=.fields #[.int lo t,.int hi u,.int 1 v] }).objs.size],_,_,H,rfl,
   I1.kept (t':=tk) fun b o e=>cp _ e,Jz _ lo (hi-lo).toNat,?_,fun b hb=>?_,q⟩
  ·show IsLongIter _ _ (lo+((0:Nat):Int)*1) ((((hi-lo).toNat:Nat):Int)-((0:Nat):Int)) 1;rw[e1,e2];exact fj _ rfl
  ·have e:b=(s.heap.push { cls:=.type "range",data:=.fields #[.int lo t,.int hi u,.int 1 v] }).objs.size:=by simpa using hb
   subst e;exact I1.fpOk (ff _) (I1.hok.fresh (ff _))
def E4(ta:TA):TI:=fun σ H R=>ta σ H fun vs H1=>∃j:Int,vs=[.int j]/\R (Itr 0 j.toNat) H1
theorem zY{a:Expr}{ta:TA}{p pos:Pos}(hg:Gl X "range")(hm:X.mg "range" = none)(ha:PA X [a] ta)(hs:gx [a] X.env=[(false,eval a X.env)]:=by rfl):PI X tg (.Call (.Name "range" p) [a] [] pos) (E4 ta):=by
 intro zk s σ H R I h;refine Call_ (lI I hg hm boot_range (PyProof.Rows.callWith_type1 (thn (ha pos zk s σ H _ I h) fun us s1 ⟨vs,H1,I1,r1,q1⟩=>?_) hs rfl));obtain⟨j,e,q⟩:=q1;subst e;cases r1 with
 |cons r rr=>
  cases rr;obtain⟨t,rfl⟩:=r;exact call_range_1 (Hi I1 (by simpa using q))
end
def bO(a:DA):DI:=fun δ S R=>a δ S fun xs S1=>arg1 xs fun x=>asI x fun j=>R (f7 0 j.toNat) S1
def pM(a:DA):DI:=fun δ S R=>a δ S fun xs S1=>arg2 xs fun x y=>asI x fun i=>asI y fun j=>R (f7 i (j-i).toNat) S1
theorem fP{ta:TA}{da:DA}(ha:RA ta da):RI (E4 ta) (bO da):=fun h o H δ σ S R Q he hs q c=>
 ha h o H δ σ S _ _ he hs q fun o1 H1 S1 xs vs e1 s1 x1 d0=>by
  obtain⟨x,rfl,d2⟩:=dD d0;obtain⟨j,rfl,d1⟩:=cV d2;obtain⟨v,rfl,hv⟩:=hxs1 x1;rw[cU hv];exact⟨j,rfl,c o1 H1 S1 _ _ e1 s1 HK d1⟩
end
section
open Sem (wp)
open AutoSeq1 (wpAny_loadPart')
section
variable {X:Cx}{zk:List (Addr×Obj)}{σ:St}{H:Hp}{s:bq}{h':Heap}
theorem Inv.turnLaid{t':Nat}{ch:List Addr}{T:Addr}{o:HO}(I:Inv X zk σ H s)(k:∀b u,b∉ch->s.heap.get? b=some u->h'.get? b=some u)(hf:∀b∈ch,FpOk X zk H b)(hT:s.heap.objs.size<=T)
  (new:ObjOk X.prog X.w (upd H T o) h' T o):Inv X zk σ (upd H T o) { s with heap:=h',toks:=t' }:=by
 have hn:H T=none:=I.hok.fresh hT;have aa:∀b u,H b=some u->b∉ch:=fun b u e m=>by rw[(hf b m).1]at e;cases e
 have ab:∀b u,s.heap.get? b=some u->b≠T:=fun b u e z=>absurd (io (gg e) hT) (by rw[z];exact lj _);have up:∀b u,H b=some u->upd H T o b=some u:=fun b u e=>(zZ (dY e hn)).trans e;refine I.step (g':=s.gens) (d':=s.drawn) (ch:=ch) (fun b hb=>?_) (fun b u _ _ hc e _=>k b u hc e) (fun b u _ _ hc e _=>⟨u.slots,k b u hc e⟩) (fun b u _ e n=>(zZ (ab b u e)).trans n)
  (fun b u hc e=>⟨u,k b u hc e⟩) (fun b xs e=>up b _ e) (fun b u v e=>up b _ e) (fun b ps e=>up b _ e) (fun m hm=>?_) (fun b u e=>?_) I.bare
 ·obtain⟨_,f1,_,f3,f4,f5⟩:=hf b hb;exact⟨f3,f1,f4,f5⟩
 ·obtain⟨ob,es,ep,ho,r⟩:=hm;exact⟨ob,es,ep,k _ ob (fun z=>(hf _ z).2.1 rfl) ho,r⟩
 ·by_cases hb:b=T
  ·subst hb;rw[dM]at e;cases e;exact new
  ·rw[zZ hb]at e;refine(I.hok b u e).stay (fun c v hc q=>k c v ?_ q) (fun c q=>up c _ q) (fun c xs q=>up c _ q) fun c o u q=>up c _ q;rcases hc with z|z
   ·rw[z];exact aa b u e
   ·exact aa c _ z
theorem Inv.turnedN{t':Nat}{ch:List Addr}(I:Inv X zk σ H s)(k:∀b u,b∉ch->s.heap.get? b=some u->h'.get? b=some u)(hf:∀b∈ch,FpOk X zk H b):Inv X zk σ H { s with heap:=h',toks:=t' }:=by
 have aa:∀b u,H b=some u->b∉ch:=fun b u e m=>by rw[(hf b m).1]at e;cases e
 refine I.step (g':=s.gens) (d':=s.drawn) (ch:=ch) (fun b hb=>?_) (fun b u _ _ hc e _=>k b u hc e) (fun b u _ _ hc e _=>⟨u.slots,k b u hc e⟩) (fun b u _ e n=>n)
  (fun b u hc e=>⟨u,k b u hc e⟩) (fun b xs e=>e) (fun b u v e=>e) (fun b ps e=>e) (fun m hm=>?_) (fun b u e=>?_) I.bare
 ·obtain⟨_,f1,_,f3,f4,f5⟩:=hf b hb;exact⟨f3,f1,f4,f5⟩
 ·obtain⟨ob,es,ep,ho,r⟩:=hm;exact⟨ob,es,ep,k _ ob (fun z=>(hf _ z).2.1 rfl) ho,r⟩
 ·refine(I.hok b u e).stay (fun c v hc q=>k c v ?_ q) (fun _ q=>q) fun _ _ q=>q;rcases hc with z|z
  ·rw[z];exact aa b u e
  ·exact aa c _ z
end
section
variable {prog:gc}{w:gy}{A:ip}{E:bp->bq->Prop}{s:bq}
theorem Im{j t:Addr}{i:Nat}{vs:Array bp}{x:bp}{Q:bp->bq->Prop}(hj:s.heap.IsTupleIter j t i)(ht:s.heap.IsTuple t vs)(hx:vs[i]?=some x)
  (hQ:∀g,g.IsTupleIter j t (i+1)->iu j s.heap g->Q x { s with heap:=g }):dh (model prog w) A (gw (.ref j)) Q E s:=by
 obtain⟨oj,ej,cj,dj⟩:=id hj;obtain⟨ot,et,_,nt,dt⟩:=ht;unfold gw;refine bo (kh (name:=rq "__next__") hj.typeIs F.slot_tuple_iterator_next (kx F.slot_tuple_iterator_next hj.typeIs F.entry_tuple_iterator_next ?_ (F.args_tuple_iterator_next_1 _)));show dh _ _ (field (.ref j) 0 >>= _) _ _ s;refine bo (jw ej dj (x:=.ref t) rfl ?_);show dh _ _ (ite ((ga t==qu)=true) _ _) _ _ s;refine(cf (show ¬((ga t==qu)=true)from jh))▸?_;show dh _ _ (field (.ref j) 1 >>= _) _ _ s;refine bo (jw ej dj (x:=.int i 0) rfl ?_);refine bo (m:=seqItems? (.ref t)) (jy et dt ?_);simp only[hx,lp];refine bo (wpAny_setField ej dj yv (cq ⟨x,rfl,cq (hQ _ ⟨_,get?_update_self _ ej (Obj.isFreed_of_fields (Obj.data_mapFields dj _)),(Obj.cls_mapFields ..).trans cj,?_⟩ (oq ..))⟩));rw[Obj.data_mapFields dj];simp[rawInt]
theorem JA{j t:Addr}{i:Nat}{vs:Array bp}{Q:bp->bq->Prop}(hh:A.handled=none)(hj:s.heap.IsTupleIter j t i)(ht:s.heap.IsTuple t vs)(hx:vs[i]?=none)
  (hE:∀g e,Heap.ExtBut j s.heap g->(∃o,g.get? e=some o/\o.cls=.type "StopIteration")->E (.ref e) { s with heap:=g }):dh (model prog w) A (gw (.ref j)) Q E s:=by
 obtain⟨oj,ej,cj,dj⟩:=id hj;obtain⟨ot,et,_,nt,dt⟩:=ht;unfold gw;refine bo (kh (name:=rq "__next__") hj.typeIs F.slot_tuple_iterator_next (kx F.slot_tuple_iterator_next hj.typeIs F.entry_tuple_iterator_next ?_ (F.args_tuple_iterator_next_1 _)));show dh _ _ (field (.ref j) 0 >>= _) _ _ s;refine bo (jw ej dj (x:=.ref t) rfl ?_);show dh _ _ (ite ((ga t==qu)=true) _ _) _ _ s;refine(cf (show ¬((ga t==qu)=true)from jh))▸?_;show dh _ _ (field (.ref j) 1 >>= _) _ _ s;refine bo (jw ej dj (x:=.int i 0) rfl ?_);refine bo (m:=seqItems? (.ref t)) (jy et dt ?_);simp only[hx,lp];refine bo (mn (bo (wpAny_setField ej dj yv ?_)));show dh _ _ (newExc (.type "StopIteration") [] >>= _) _ _ _;refine bo ?_;simp only[newExc,newTuple];refine bo (ko ?_ (by size_fits));refine bo (m:=firstArgMember _ _) (wpAny_of_eq (a:=qu) (by first|rfl|(simp only[firstArgMember];rfl)) ?_);refine ko ?_ (by size_fits);simp only[raiseNew];refine bo (wpAny_handled ?_)
 first|rw[show A.in1.handled=none from hh]|rw[hh]
 exact bo (cq (wpAny_throw (hE _ _ (((oq ..).extBut.push _).push _) ⟨_,fj _ rfl,rfl⟩)))
end
def DJ(i:Nat):List bn->List bn
 | []=>[]
 |d::ds=>.tuple [.int i,d]::DJ (i+1) ds
end
section
def dIx:D2:=fun x y S R=>asI y fun i=>match x with
 | .d (.tuple ds)=>∃d,atI ds i=some d/\R (.d d) S
 | .d (.list ds)=>∃d,atI ds i=some d/\R (.d d) S
 | .l k=>∃ds,S[k]?=some ds/\∃d,atI ds i=some d/\R (.d d) S
 | .d (.str z)=>z.length<=fe/\∃c,atI z.cps.toList i=some c/\R (.d (.str ⟨#[c]⟩)) S
 |_=>False
theorem GS:RO yB (fun x y S R=>asS x fun z=>asI y fun i=>z.length<=fe/\∃c,atI z.cps.toList i=some c/\R (.d (.str ⟨#[c]⟩)) S):=fun h o H S x y v u R Q hs hx hy q c=>by
 replace q:=uW q;obtain⟨z,rfl,q⟩:=q;replace q:=cV q;obtain⟨i,rfl,hz,k,ek,q⟩:=q;exact⟨z,i,k,fQ hx,cU hy,hz,ek,c o H S _ _ Ex.refl hs (xS _) q⟩
theorem bN{K:cy}:RO (rIx K) dIx:=fun h o H S x y v u R Q hs hx hy q c=>by
 replace q:=cV q;obtain⟨i,rfl,q⟩:=q;split at q
 ·exact .inr (.inl (GV h o H S _ _ v u R Q hs hx hy q c))
 ·exact .inl (AM h o H S _ _ v u R Q hs hx hy ⟨_,rfl,q⟩ c)
 ·exact .inl (AM h o H S _ _ v u R Q hs hx hy q c)
 ·exact .inr (.inr (GS h o H S _ _ v u R Q hs hx hy q c))
 ·exact q.elim
section
variable {S:Sto}{R:RX}{ds:List bn}{i:Int}{k:Nat}{z:Str}
theorem nK:dIx (.d (.tuple ds)) (.d (.int i)) S R=∃d,atI ds i=some d/\R (.d d) S:=rfl
theorem oY:dIx (.d (.list ds)) (.d (.int i)) S R=∃d,atI ds i=some d/\R (.d d) S:=rfl
theorem oC:dIx (.l k) (.d (.int i)) S R=∃ds,S[k]?=some ds/\∃d,atI ds i=some d/\R (.d d) S:=rfl
theorem pD:dIx (.d (.str z)) (.d (.int i)) S R=(z.length<=fe/\∃c,atI z.cps.toList i=some c/\R (.d (.str ⟨#[c]⟩)) S):=rfl
end
def Ax(K:cy):V->Option Int->Option Int->Hp->VK->Prop:=fun x a b H Q=>oF K x a b H Q\/(yX K x a b H Q\/Dn x a b H Q)
theorem dS{X:Cx}:SlR X (Ax X.K):=AX.or (Cv.or Hc)
def cK:D3:=fun x i j S R=>match x with
 | .d (.tuple ds)=>¬(HT.sIx ds.length 0 i=0/\HT.sIx ds.length ds.length j=ds.length)/\R (.d (.tuple (aL ds i j))) S
 | .d (.list ds)=>R (.d (.list (aL ds i j))) S
 | .l k=>∃ds,S[k]?=some ds/\R (.d (.list (aL ds i j))) S
 | .d (.str z)=>z.length<=fe/\R (.d (.str (PySem.Txt.slice z i j))) S
 |_=>False
theorem tI{K:cy}:RL (Ax K) cK:=fun h o H S x v a b R Q hs hx q c=>by
 unfold cK at q;split at q
 ·exact .inr (.inl (IE h o H S _ v a b R Q hs hx q c))
 ·exact .inl (A4 h o H S _ v a b R Q hs hx ⟨_,rfl,q⟩ c)
 ·exact .inl (A4 h o H S _ v a b R Q hs hx q c)
 ·exact .inr (.inr ⟨_,fQ hx,q.1,c o H S _ _ Ex.refl hs (xS _) q.2⟩)
 ·exact q.elim
section
variable {S:Sto}{R:RX}{ds:List bn}{i j:Option Int}{k:Nat}{z:Str}
theorem pY:cK (.d (.tuple ds)) i j S R=(¬(HT.sIx ds.length 0 i=0/\HT.sIx ds.length ds.length j=ds.length)/\R (.d (.tuple (aL ds i j))) S):=rfl
theorem mX:cK (.d (.list ds)) i j S R=R (.d (.list (aL ds i j))) S:=rfl
theorem pF:cK (.l k) i j S R=∃ds,S[k]?=some ds/\R (.d (.list (aL ds i j))) S:=rfl
theorem qC:cK (.d (.str z)) i j S R=(z.length<=fe/\R (.d (.str (PySem.Txt.slice z i j))) S):=rfl
end
def EN(K:cy):R2:=fun x y H Q=>∃a b ys,x=.ref a/\y=.ref b/\SqT K H a []/\SqT K H b ys/\Q (.ref b) H
theorem IF{X:Cx}:OpR X (lf .Add) (EN X.K):=by
 intro zk s σ H x y v u Q I rx ry h;obtain⟨a,b,ys,rfl,rfl,ha,hb,q⟩:=h;cases rx;cases ry;obtain⟨ab,r1,p1,_⟩:=I.tuple ha;obtain⟨aa,r2,p2,_⟩:=I.tuple hb;cases r1;obtain⟨⟨c1,d1,e1,l1⟩,o1,w1,n1,k1⟩:=id p1;obtain⟨⟨c2,d2,e2,l2⟩,o2,w2,n2,k2⟩:=id p2;simp only at w1 k1 w2 k2;subst w1 k1 w2 k2;exact concat_meets ⟨_,o1,rfl⟩ ⟨_,o2,rfl⟩ noFill_tuple_add seq_tuple_add PySem.F.slot_tuple_add PySem.F.entry_tuple_add (PySem.F.args_tuple_add_2 _ _) (tuple_addW0 a b _ _ n1 n2 d1 d2 l1 l2 yv) ⟨o1,o2,⟨.ref b,H,I,rfl,q⟩⟩
def Cj(K:cy):R2:=fun x y H Q=>rI0 (fun i j=>.int (i+j)) x y H Q\/(lJ x y H Q\/(vF K x y H Q\/(EN K x y H Q\/∃i j,x=.str i/\y=.str j/\i.length+j.length<=fe/\Q (.str (i++j)) H)))
theorem zA{X:Cx}:OpR X (lf .Add) (Cj X.K):=FA.or (uK.or (G4.or (IF.or IS)))
def aE:D2:=fun x y S R=>match x,y with
 | .d (.int i),.d (.int j)=>R (.d (.int (i+j))) S
 | .d (.tuple ds),.d (.tuple es)=>ds.length+es.length<=1000/\R (.d (.tuple (ds++es))) S
 | .d (.str a),.d (.str b)=>a.length+b.length<=fe/\R (.d (.str (a++b))) S
 |x,y=>asL S x fun ds=>asL S y fun es=>ds.length+es.length<=1000/\R (.d (.list (ds++es))) S
theorem cW{K:cy}:RO (Cj K) aE:=fun h o H S x y v u R Q hs hx hy q c=>by
 unfold aE at q;split at q
 ·exact .inl (lW h o H S _ _ v u R Q hs hx hy q c)
 ·rename_i ds es;cases ds with
  |cons d ds=>exact .inr (.inr (.inl (Fx h o H S _ _ v u R Q hs hx hy ⟨yv,q⟩ c)))
  |nil=>
   obtain⟨a,vs,rfl,ea,l⟩:=eW hx;obtain⟨b,us,rfl,eb,l'⟩:=eW hy;rw[zR.mp l]at ea;exact .inr (.inr (.inr (.inl ⟨a,b,us,rfl,rfl,.of ea,.of eb,c o H S (.d (.tuple es)) _ Ex.refl hs hy q.2⟩)))
 ·exact .inr (.inr (.inr (.inr ⟨_,_,fQ hx,fQ hy,q.1,c o H S _ _ Ex.refl hs (xS _) q.2⟩)))
 ·exact .inr (.inl (Jm h o H S _ _ v u R Q hs hx hy q c))
section
variable {S:Sto}{R:RX}{ds es:List bn}{i j:Int}{k l:Nat}{a b:Str}
theorem qK:aE (.d (.int i)) (.d (.int j)) S R=R (.d (.int (i+j))) S:=rfl
theorem oK:aE (.d (.tuple ds)) (.d (.tuple es)) S R=(ds.length+es.length<=1000/\R (.d (.tuple (ds++es))) S):=rfl
theorem pQ:aE (.d (.list ds)) (.d (.list es)) S R↔(ds.length+es.length<=1000/\R (.d (.list (ds++es))) S):=⟨fun⟨_,e,_,e',q⟩=>by cases e;cases e';exact q,fun q=>⟨_,rfl,_,rfl,q⟩⟩
theorem m9:aE (.l k) (.d (.list es)) S R↔∃ds,S[k]?=some ds/\ds.length+es.length<=1000/\R (.d (.list (ds++es))) S:=⟨fun⟨_,e,_,e',q⟩=>by cases e';exact⟨_,e,q⟩,fun⟨_,e,q⟩=>⟨_,e,_,rfl,q⟩⟩
end
def E7:R2:=fun x y H Q=>rI IntMulOk (fun i j=>.int (i*j)) x y H Q\/(CO x y H Q\/Br x y H Q)
theorem dX{X:Cx}:OpR X (lf .Mult) E7:=HB.or (Ir.or Hw)
def cD:D2:=fun x y S R=>asI y fun j=>match x with
 | .d (.int i)=>IntMulOk i j/\R (.d (.int (i*j))) S
 | .d (.str z)=>z.length<=1000/\j<=1000/\-1000<=j/\R (.d (.str (PySem.Txt.mul z j))) S
 | .d (.list ds)=>j<=1000/\-1000<=j/\ds.length*j.toNat<=1000/\R (.d (.list (bx j.toNat ds).flatten)) S
 |_=>False
theorem HasL.rep{H:Hp}{ds:List bn}{vs:List V}(l:HasL H ds vs):∀n:Nat,HasL H (bx n ds).flatten (bx n vs).flatten
 | 0=>zR.mpr rfl
 |n+1=>by
  rw[ou,ou,flatten_cons,flatten_cons];exact l.append (HasL.rep l n)
theorem kI:RO E7 cD:=fun h o H S x y v u R Q hs hx hy q c=>by
 replace q:=cV q;obtain⟨j,rfl,q⟩:=q;split at q
 ·exact .inl (iF h o H S _ _ v u R Q hs hx hy q c)
 ·exact .inr (.inl ⟨_,_,fQ hx,cU hy,q.1,q.2.1,q.2.2.1,c o H S _ _ Ex.refl hs (xS _) q.2.2.2⟩)
 ·obtain⟨a,vs,rfl,ea,l⟩:=c8 (x:=.d (.list _)) hs rfl hx;obtain⟨h1,h2,h3,q⟩:=q;exact .inr (.inr ⟨a,j,vs,rfl,cU hy,ea,yw,yw,by rw[l.length];exact ku (small1000 h3),lU hs (l.rep j.toNat) c q⟩)
 ·exact q.elim
section
variable {S:Sto}{R:RX}{i j:Int}{z:Str}{ds:List bn}
theorem pN:cD (.d (.list ds)) (.d (.int j)) S R=(j<=1000/\-1000<=j/\ds.length*j.toNat<=1000/\R (.d (.list (bx j.toNat ds).flatten)) S):=rfl
theorem qR:cD (.d (.int i)) (.d (.int j)) S R=(IntMulOk i j/\R (.d (.int (i*j))) S):=rfl
theorem mZ:cD (.d (.str z)) (.d (.int j)) S R=(z.length<=1000/\j<=1000/\-1000<=j/\R (.d (.str (PySem.Txt.mul z j))) S):=rfl
end
def Dg:R2:=fun x y H Q=>rI CDivX (fun i j=>.int (i/j)) x y H Q\/rI CDivN (fun i j=>.int (i.fdiv j)) x y H Q
theorem rH{X:Cx}:OpR X (lf .FloorDiv) Dg:=KU.or K9
def dFd:D2:=fun x y S R=>asI x fun i=>asI y fun j=>(CDivX i j/\R (.d (.int (i/j))) S)\/(CDivN i j/\R (.d (.int (i.fdiv j))) S)
theorem LQ:RO Dg dFd:=fun h o H S x y v u R Q hs hx hy q c=>by
 replace q:=cV q;obtain⟨i,rfl,q⟩:=q;replace q:=cV q;obtain⟨j,rfl,q⟩:=q;rcases q with q|q
 ·exact .inl (iF (C:=CDivX) (g:=fun i j=>i/j) h o H S _ _ v u R Q hs hx hy q c)
 ·exact .inr (iF (C:=CDivN) (g:=fun i j=>i.fdiv j) h o H S _ _ v u R Q hs hx hy q c)
def uP(S:Sto):XV->Option Bool
 | .d .none=>some false
 | .d (.bool b)=>some b
 | .d (.int i)=>some (i != 0)
 | .d (.str z)=>if z.length<=fe then some ((z.length:Int) != 0)else none
 | .d (.list ds)=>some (!ds.isEmpty)
 | .d (.tuple ds)=>some (!ds.isEmpty)
 | .l k=>(S[k]?).map fun ds=>!ds.isEmpty
 |_=>none
def bL(a:DE):DT:=fun δ S R=>a δ S fun x S1=>∃k,uP S1 x=some k/\R k S1
theorem vV{H:Hp}{ds:List bn}{vs:List V}(l:HasL H ds vs):(!ds.isEmpty)=!vs.isEmpty:=by
 have:=l.length;cases ds<;>cases vs<;>simp_all
theorem iC{K:cy}{ta:TE}{da:DE}(ha:RE ta da):RT (fun σ H Q=>ta σ H fun x H'=>∃k,TruV K x H' k/\Q k H') (bL da):=fun h o H δ σ S R Q he hs q c=>
 ha h o H δ σ S _ _ he hs q fun o1 H1 S1 x v e1 s1 x1 ⟨k,ek,d1⟩=>by
  refine⟨k,?_,c o1 H1 S1 k e1 s1 d1⟩;unfold uP at ek;split at ek
  ·cases ek;rw[(mG (H:=vx h o1 H1)).mp x1];rfl
  ·cases ek;rw[kE x1];rfl
  ·cases ek;rw[cU x1];rfl
  ·split at ek
   ·rename_i hz;cases ek;rw[fQ x1];exact⟨hz,rfl⟩
   ·cases ek
  ·obtain⟨a,vs,rfl,ea,l⟩:=c8 (x:=.d (.list _)) s1 rfl x1;cases ek;exact .inl ⟨vs,.of ea,vV l⟩
  ·obtain⟨a,vs,rfl,ea,l⟩:=eW x1;cases ek;exact .inr (.inl ⟨vs,.of ea,vV l⟩)
  ·rename_i j _;cases hj:S1[j]? with
   |none=>rw[hj]at ek;cases ek
   |some ds=>
    rw[hj]at ek;cases ek;obtain⟨a,vs,rfl,ea,l⟩:=c8 (x:=.l j) s1 hj x1;exact .inl ⟨vs,.of ea,vV l⟩
  ·cases ek
section
variable {S:Sto}{b:Bool}{i:Int}{ds:List bn}{k:Nat}
theorem oU:uP S (.d (.bool b))=some b:=rfl
theorem nW:uP S (.l k)=(S[k]?).map fun ds=>!ds.isEmpty:=rfl
end
def qN:DS:=fun _ _ _=>False
def xY(K:cy)(tl:TE):TI:=fun σ H R=>tl σ H fun x H1=>∃a,x=.ref a/\(((∃xs,SqL K H1 a xs)/\R (Itl K a) H1)\/((∃xs,SqT K H1 a xs)/\R (Itt K a) H1))
theorem b6{X:Cx}{tg:Expr}{l:Expr}{tl:TE}(hl:PE X l tl):PI X tg l (xY X.K tl):=by
 intro zk s σ H R I h;refine thn (hl zk s σ H _ I h) fun v s1 ⟨x,H1,I1,r1,q1⟩=>?_;obtain⟨a,e,⟨⟨xs,hq⟩,q⟩|⟨⟨xs,hq⟩,q⟩⟩:=q1
 ·subst e;cases r1;obtain⟨aa,rv,p,hz⟩:=I1.list hq;refine qr p.isList ?_;refine⟨s1.heap.objs.size,[s1.heap.objs.size],_,_,H1,rfl,I1.kept (t':=s1.toks) fun b o e=>cp _ e,E1 a _,⟨_,fj _ rfl,rfl,rfl⟩,fun b hb=>?_,q⟩;have e:b=s1.heap.objs.size:=by simpa using hb
  subst e;exact I1.fpOk (ff _) (I1.hok.fresh (ff _))
 ·subst e;cases r1;obtain⟨aa,rv,p,hz⟩:=I1.tuple hq;refine qa (show s1.heap.IsTuple a aa.toArray from p) ?_;refine⟨s1.heap.objs.size,[s1.heap.objs.size],_,_,H1,rfl,I1.kept (t':=s1.toks) fun b o e=>cp _ e,LC a _,⟨_,fj _ rfl,rfl,rfl⟩,fun b hb=>?_,q⟩;have e:b=s1.heap.objs.size:=by simpa using hb
  subst e;exact I1.fpOk (ff _) (I1.hok.fresh (ff _))
def eZ:XV->Option (List bn)
 | .d (.list ds)=>some ds
 | .d (.tuple ds)=>some ds
 |_=>none
theorem oH{ds:List bn}:eZ (.d (.list ds))=some ds:=rfl
theorem pI{ds:List bn}:eZ (.d (.tuple ds))=some ds:=rfl
def bI(e:DE):DI:=fun δ S R=>e δ S fun x S1=>∃ds,eZ x=some ds/\R ds S1
theorem cS{K:cy}{te:TE}{de:DE}(aa:RE te de):RI (xY K te) (bI de):=fun h o H δ σ S R Q he hs q c=>
 aa h o H δ σ S _ _ he hs q fun o1 H1 S1 x v e1 s1 x1 ⟨ds,ex,d1⟩=>by
  unfold eZ at ex;split at ex
  ·cases ex;obtain⟨a,vs,rfl,ea,l⟩:=f8.mp (show Has _ _ _ from x1);have hl:=l.length;refine⟨a,rfl,.inl ⟨⟨vs,.of (cF _ _ ea)⟩,c o1 H1 S1 ds _ e1 s1 ⟨fun i o2 H2 e2 hi=>⟨vs,.of (cF _ _ (e2.vx _ _ ea)),yw⟩,fun i d o2 H2 e2 hi=>?_,fun i d o2 H2 x H3 S2 e2 s2 hi y=>?_⟩ d1⟩⟩
   ·obtain⟨v,ev,_⟩:=l.get hi;exact⟨vs,v,.of (cF _ _ (e2.vx _ _ ea)),ev⟩
   ·obtain⟨v,ev,hv⟩:=l.get hi;have e3:H3=H2:=y.1;subst e3;have ex:=y.2 vs (.of (cF _ _ (e2.vx _ _ ea)));rw[ev]at ex;cases ex;exact⟨Same.refl _,hv.mono e2.vx⟩
  ·cases ex;obtain⟨a,vs,rfl,ea,l⟩:=eQ.mp (show Has _ _ _ from x1);have hl:=l.length;refine⟨a,rfl,.inr ⟨⟨vs,.of (cF _ _ ea)⟩,c o1 H1 S1 ds _ e1 s1 ⟨fun i o2 H2 e2 hi=>⟨vs,.of (cF _ _ (e2.vx _ _ ea)),yw⟩,fun i d o2 H2 e2 hi=>?_,fun i d o2 H2 x H3 S2 e2 s2 hi y=>?_⟩ d1⟩⟩
   ·obtain⟨v,ev,_⟩:=l.get hi;exact⟨vs,v,.of (cF _ _ (e2.vx _ _ ea)),ev⟩
   ·obtain⟨v,ev,hv⟩:=l.get hi;have e3:H3=H2:=y.1;subst e3;have ex:=y.2 vs (.of (cF _ _ (e2.vx _ _ ea)));rw[ev]at ex;cases ex;exact⟨Same.refl _,hv.mono e2.vx⟩
  ·cases ex
def kH(dt:DS):DS:=fun E δ S=>dt { E with nx:=fun δ' S'=>∃S0 ds,S'=S0++[ds]/\S.length<=S0.length/\E.nx (δ'.map (frz S0.length ds)) S0 } δ S
theorem KO{t:TS}{dt:DS}(ht:RS t dt):RS t (kH dt):=fun h o H δ σ S E D he hs q c=>by
 refine ht h o H δ σ S _ D he hs q ⟨fun o' H' δ' S' σ' e aa ab ⟨S0,ds,eS,hl,n⟩=>?_,c.rt,c.bk,c.ct⟩;subst eS;obtain⟨r,rfl⟩:=e.pre;have hL:=ab.len;simp only[cx,gr]at hL;have hS:=hs.len;have ae:r≠[]:=fun z=>by subst z;simp at hL;omega
 obtain⟨r0,a,rfl⟩:∃r0 a,r=r0++[a]:=⟨r.dropLast,r.getLast ae,(List.dropLast_concat_getLast ae).symm⟩;have ac:S0.length=(o++r0).length:=by simp at hL ⊢;omega
 rw[<- gv]at ab aa e;have nd:=nodup_append.mp ab.nd;have na:a∉o++r0:=fun m=>nd.2.2 a m a yv rfl;have nh:a∉h:=ab.dis a yv;refine c.nx (o++r0) H' _ S0 σ' ⟨⟨r0,rfl⟩,fun b u hb eb=>?_⟩ ⟨by rw[fw];exact aa.len,fun i x ex=>?_⟩ (ab.pop ac) n
 ·obtain⟨z1,z2⟩:=e.kp b u hb eb;exact⟨fun m=>z1 (gi _ m),z2⟩
 ·rw[im]at ex;obtain⟨y,ey,ex⟩:=map_eq_some_iff.mp ex
  match y,ey,ex with
  |none,ey,ex=>cases ex
  |some (.d d),ey,ex=>
   cases ex;obtain⟨v,e1,e2⟩:=aa.get i _ ey;exact⟨v,e1,Has.mono j8 d v e2⟩
  |some (.o w),ey,ex=>
   cases ex;exact aa.get i _ ey
  |some (.x C fs),ey,ex=>
   cases ex;obtain⟨v,e1,e2⟩:=aa.get i _ ey;exact⟨v,e1,HasE.mono j8 e2⟩
  |some (.l k),ey,ex=>
   obtain⟨v,e1,b,eb,rfl⟩:=aa.get i _ ey;unfold frz at ex;by_cases hk:k=S0.length
   ·simp only[hk,↓reduceIte]at ex;cases ex;rw[hk,ac,cz]at eb;cases eb;obtain⟨vs,ev,l⟩:=ab.cont k a ds (by rw[hk,ac,cz]) (by rw[hk,cz]);exact⟨_,e1,f8.mpr ⟨a,vs,rfl,aW.mpr ⟨nh,na,ev⟩,l.mono j8⟩⟩
   ·simp only[hk,↓reduceIte]at ex;cases ex;have af:=(List.getElem?_eq_some_iff.mp eb).1;simp only[cx,gr]at af;simp only[cx]at ac;rw[fk (by simp only[cx];omega)]at eb;exact⟨_,e1,b,eb,rfl⟩
section
variable {t1 t2 t3 t4 t5 t6 t7 t8:TS}{d:DS}
theorem Fu(h:RS (e9 (e9 t1 t2) t3) d):RS (e9 t1 (e9 t2 t3)) d:=h
end
end
section
abbrev PN:=List XV->Sto->RX->Prop
def lfN(q:PN):List V->Hp->VK->Prop:=fun vs H Q=>∃h o S xs R,RepS h o H S/\HasXs h o H xs vs/\q xs S R/\Cn h o H R Q
def spN(ps:List Str)(q:PN):Sp:=fun vs H Q _=>vs.length=ps.length/\lfN q vs H Q
theorem HasXs.len{h o:List Addr}{H:Hp}:∀{xs:List XV}{vs:List V},HasXs h o H xs vs->vs.length=xs.length
 | [],vs,q=>by rw[show vs=[]from q];rfl
 |x::xs,vs,⟨v,r,e,_,l⟩=>by rw[e,ft,ft,HasXs.len l]
theorem HasXs.get{h o:List Addr}{H:Hp}:∀{xs:List XV}{vs:List V}{i:Nat}{x:XV},HasXs h o H xs vs->xs[i]?=some x->∃v,vs[i]?=some v/\HasX h o H x v
 | [],_,i,_,_,e=>by simp at e
 |y::xs,vs,0,x,⟨v,r,e1,q,l⟩,e=>by
  rw[qb]at e;cases e;subst e1;exact⟨v,rfl,q⟩
 |y::xs,vs,i+1,x,⟨v,r,e1,q,l⟩,e=>by
  subst e1;rw[qc]at e ⊢;exact HasXs.get l e
theorem LD{h o:List Addr}{H:Hp}{xs:List XV}{vs:List V}{n:Nat}(q:HasXs h o H xs vs):RepE h o H (xs.map some++bx n none) (vs.map some++bx n none):=by
 have hl:=q.len;refine⟨by simp[hl],fun i x e=>?_⟩;by_cases hi:i<xs.length
 ·rw[fk (by rw[fw];exact hi),im]at e;obtain⟨y,ey,e⟩:=map_eq_some_iff.mp e;cases e;obtain⟨v,ev,hv⟩:=q.get ey;exact⟨v,by rw[fk (by rw[fw,hl];exact hi),im,ev];rfl,hv⟩
 ·rw[kw (by rw[fw];omega),List.getElem?_replicate]at e;split at e<;>cases e
section
variable {P:gc}{w:gy}{K:cy}{mg:Str->Option bp}{base:Heap}{x:Str}{st:Stmt}{N ps:List Str}{k:Nat}
theorem Df.dN{q:PN}(D:Dd K mg x st ps)(S:FnScope N ps (zm st))(n:Nat)(hn:N.length=ps.length+n)
  (hbody:∀(f:Addr) (aa:bp) (A:ip) (outer:List Env) (s:bq) (H:Hp) (E:XK),Room k (A.deeper (envOfC x (zm st) s.heap.objs.size f aa)) ->
   ∃t dt,PSs (gA CX0 P w K mg base N x (zm st) f aa A outer s H E).nox (e8 st) t/\RS t dt/\∀xs S R,q xs S R->dt (aO S.length R) (xs.map some++bx n none) S):Df P w K mg base x ps (k+1) (spN ps q):=by
 refine Df.of D S (fun vs H Q E h=>h.1) fun f aa A outer s H vs Q E hr ⟨hl,h,o,S',xs,R,ab,hx,hq,c⟩=>?_;obtain⟨t,dt,h1,h2,h3⟩:=hbody f aa A outer s H E hr;refine⟨t,h1,h2 h o H _ _ S' _ _ ?_ ab (h3 xs S' R hq) (eok ab c)⟩;have e:N.length-vs.length=n:=yw
 unfold start;rw[e];exact LD hx
end
section
variable {X:Cx}{x:Str}{ps:List Str}{k j:Nat}{pos pos':Pos}{e:Expr}{es:List Expr}{t:TA}
theorem zv{q:PN}(D:Df X.prog X.w X.K X.mg X.base x ps k (spN ps q))(hr:Room j X.A)(hk:k<=j)(ha:PA X (e::es) t)(hg:Gl X x:=by rfl)(aa:(x==("__debug__":Str))=false:=by decide)
  (q1:gx (e::es) X.env=(false,eval e X.env)::gx es X.env:=by rfl) (q2:((sj pos (gx es X.env)).any fun x=>x.fst)=false:=by rfl):PE X (.Call (.Name x pos') (e::es) [] pos) (pX (spN ps q) [] E0 t):=by
 obtain⟨f,fd,F,hm,kp,hb⟩:=D.ex;exact Bu (dvs:=[]) (ds:=[]) (E:=E0) F (hr.mono hk) hg hm kp hb .nil pass0 ha aa q1 q2
end
def aP(m:Nat)(q:PN)(da:DA):DE:=fun δ S R=>da δ S fun xs S1=>∃ds,datas xs=some ds/\ds.length=m/\q (ds.map XV.d) [] (ret0 S1 R)
theorem hxs0{h o:List Addr}{H:Hp}:∀{ds:List bn}{vs:List V},HasXs h o H (ds.map XV.d) vs->HasXs (h++o) [] H (ds.map XV.d) vs
 | [],_,q=>q
 |d::ds,vs,⟨v,r,e,q,l⟩=>⟨v,r,e,hx0 q,hxs0 l⟩
theorem dW{ps:List Str}{q:PN}{m:Nat}{t:TA}{da:DA}(ha:RA t da)(hm:ps.length=m:=by rfl):RE (pX (spN ps q) [] E0 t) (aP m q da):=fun h o H δ σ S R Q he hs w c=>
 ha h o H δ σ S _ _ he hs w fun o1 H1 S1 xs vs e1 s1 x1 ⟨ds,e,hl,d1⟩=>by
  have ex:=lA e;subst ex;have hv:=x1.len;rw[kn];exact⟨by rw[hv,fw,hl,hm],h++o1,[],[],_,_,rep0 s1,hxs0 x1,d1,cn0 s1 (c.pre e1)⟩
def zB(i m:Nat)(q:PN)(da:DA):DE:=fun δ S R=>da δ S fun xs S1=>∃k,xs[i]?=some (.l k)/\∃p,S1[k]?=some p/\∃ds,datas (xs.set i (.d .none))=some ds/\ds.length=m/\q ((ds.map XV.d).set i (.l 0)) [p] (sG k S1 R)
theorem Cf{h o:List Addr}{H:Hp}{k:Nat}{a:Addr}(ea:o[k]?=some a):∀{xs:List XV}{vs:List V}{ds:List bn}{i:Nat},HasXs h o H xs vs->xs[i]?=some (.l k)->datas (xs.set i (.d .none))=some ds->HasXs (h++o.filter (fun b=>b≠a)) [a] H ((ds.map XV.d).set i (.l 0)) vs
 | [],_,_,i,_,e,_=>by simp at e
 |x::xs,vs,ds,0,⟨v,r,e1,q,l⟩,e,ed=>by
  rw[qb]at e;cases e;rw[set_cons_zero]at ed;obtain⟨aa,rfl⟩:∃aa,ds=.none::aa:=by
   unfold datas at ed;cases hd:datas xs with
   |none=>rw[hd]at ed;cases ed
   |some y=>rw[hd]at ed;cases ed;exact⟨y,rfl⟩
  have ab:datas xs=some aa:=by
   unfold datas at ed;cases hd:datas xs with
   |none=>rw[hd]at ed;cases ed
   |some y=>rw[hd]at ed;cases ed;rfl
  have ex:=lA ab;subst ex;obtain⟨b,eb,rfl⟩:=q;rw[ea]at eb;cases eb;exact⟨_,r,e1,⟨a,rfl,rfl⟩,go (ea:=ea) l⟩
 |x::xs,vs,ds,i+1,⟨v,r,e1,q,l⟩,e,ed=>by
  rw[qc]at e;rw[set_cons_succ]at ed
  match x,q,ed with
  | .d d,q,ed=>
   unfold datas at ed;cases hd:datas (xs.set i (.d .none))with
   |none=>rw[hd]at ed;cases ed
   |some aa=>
    rw[hd]at ed;cases ed;exact⟨v,r,e1,hxP ea q,Cf ea l e hd⟩
  | .l j,q,ed=>cases ed
  | .o w,q,ed=>cases ed
  | .x _ _,q,ed=>cases ed
where
 go {h o:List Addr}{H:Hp}{k:Nat}{a:Addr}{ea:o[k]?=some a}:∀{ds:List bn}{vs:List V},HasXs h o H (ds.map XV.d) vs->HasXs (h++o.filter (fun b=>b≠a)) [a] H (ds.map XV.d) vs
 | [],_,q=>q
 |d::ds,vs,⟨v,r,e,q,l⟩=>⟨v,r,e,hxP ea q,go (ea:=ea) l⟩
theorem JF:∀{xs:List XV}{ds:List bn},datas xs=some ds->xs.length=ds.length:=fun e=>by
 rw[lA e,fw]
theorem eE{ps:List Str}{q:PN}{i m:Nat}{t:TA}{da:DA}(ha:RA t da)(hm:ps.length=m:=by rfl):RE (pX (spN ps q) [] E0 t) (zB i m q da):=fun h o H δ σ S R Q he hs w c=>
 ha h o H δ σ S _ _ he hs w fun o1 H1 S1 xs vs e1 s1 x1 ⟨k,ek,p,ep,ds,e,hl,d1⟩=>by
  have hv:=x1.len;have hd:=JF e;rw[length_set]at hd;obtain⟨v,_,a,ea,_⟩:=x1.get ek;rw[kn];exact⟨by rw[hv,hd,hl,hm],_,[a],[p],_,_,tV s1 ea ep,Cf ea x1 ek e,d1,cnP s1 ea ep (c.pre e1)⟩
mutual
def k6:bn->Bool
 | .list _=>false
 | .dict _=>false
 | .tuple ds=>pC ds
 |_=>true
def pC:List bn->Bool
 | []=>true
 |d::ds=>k6 d&&pC ds
end
mutual
theorem E8{h o:List Addr}{H G:Hp}(sm:Same G H)(hh:∀b,b∈h\/b∈o->∃u:MO,H b=some u.ho):∀(d:bn) (v:V),k6 d=true->Has G d v->Has (vx h o H) d v
 | .none,v,_,q=>mG.mpr (mG.mp q)
 | .bool b,v,_,q=>jU.mpr (jU.mp q)
 | .int i,v,_,q=>fY.mpr (fY.mp q)
 | .str z,v,_,q=>iB.mpr (iB.mp q)
 | .list ds,v,n,_=>by simp[k6]at n
 | .dict ds,v,n,_=>by simp[k6]at n
 | .tuple ds,v,n,q=>by
  obtain⟨a,vs,e,ea,l⟩:=eQ.mp q;have n':pC ds=true:=by simpa[k6]using n
  have aa:=sm _ _ ea;refine eQ.mpr ⟨a,vs,e,aW.mpr ⟨fun m=>?_,fun m=>?_,aa⟩,BO sm hh ds vs n' l⟩
  ·obtain⟨u,eu⟩:=hh a (.inl m);rw[aa]at eu;cases u<;>cases eu
  ·obtain⟨u,eu⟩:=hh a (.inr m);rw[aa]at eu;cases u<;>cases eu
theorem BO{h o:List Addr}{H G:Hp}(sm:Same G H)(hh:∀b,b∈h\/b∈o->∃u:MO,H b=some u.ho):∀(ds:List bn) (vs:List V),pC ds=true->HasL G ds vs->HasL (vx h o H) ds vs
 | [],vs,_,q=>zR.mpr (zR.mp q)
 |d::ds,vs,n,q=>by
  obtain⟨v,r,e,hv,l⟩:=zG.mp q;simp only[pC,gf]at n;exact zG.mpr ⟨v,r,e,E8 sm hh d v n.1 hv,BO sm hh ds r n.2 l⟩
end
def rN(S:Sto)(R:RX):RX:=fun y S'=>match y,S' with
 | .d d,[]=>k6 d=true/\R (.d d) S
 |_,_=>False
theorem pV{S:Sto}{R:RX}{d:bn}:rN S R (.d d) []=(k6 d=true/\R (.d d) S):=rfl
def views(S:Sto):List XV->Option (List bn)
 | []=>some []
 |x::r=>(dZ S x).bind fun d=>(views S r).map (d :: ·)
theorem rD{S:Sto}:views S []=some []:=rfl
theorem lV{S:Sto}{x:XV}{r:List XV}:views S (x::r)=(dZ S x).bind fun d=>(views S r).map (d :: ·):=rfl
def jN(m:Nat)(q:PN)(da:DA):DE:=fun δ S R=>da δ S fun xs S1=>∃ds,views S1 xs=some ds/\ds.length=m/\q (ds.map XV.d) [] (rN S1 R)
theorem Hn{h o:List Addr}{H:Hp}{S:Sto}(hs:RepS h o H S):RepS h [] H []:=⟨rfl,nodup_nil,(fun _ h=>(nomatch h)),hs.hal,(fun _ _ _ e=>(by simp at e))⟩
theorem hxV{h o:List Addr}{H:Hp}{S:Sto}{x:XV}{v:V}{d:bn}(hs:RepS h o H S)(e:dZ S x=some d)(q:HasX h o H x v):HasX h [] H (.d d) v:=by
 have sub:Same (vx h o H) (vx h [] H):=fun b u eb=>by
  obtain⟨z1,z2,z3⟩:=aW.mp eb;exact aW.mpr ⟨z1,yv,z3⟩
 unfold dZ at e;split at e
 ·cases e;exact Has.mono sub _ _ q
 ·rename_i k;obtain⟨a,ea,rfl⟩:=q;cases hk:S[k]? with
  |none=>rw[hk]at e;cases e
  |some ds=>
   rw[hk]at e;cases e;obtain⟨vs,ev,l⟩:=hs.cont k a ds ea hk;exact f8.mpr ⟨a,vs,rfl,aW.mpr ⟨hs.dis a (bu ea),yv,ev⟩,l.mono sub⟩
 ·cases e
 ·cases e
theorem Dq{h o:List Addr}{H:Hp}{S:Sto}(hs:RepS h o H S):∀{xs:List XV}{vs:List V}{ds:List bn},views S xs=some ds->HasXs h o H xs vs->HasXs h [] H (ds.map XV.d) vs/\vs.length=ds.length
 | [],vs,ds,e,q=>by cases e;exact⟨q,by rw[show vs=[]from q];rfl⟩
 |x::xs,vs,ds,e,⟨v,r,e1,q,l⟩=>by
  rw[lV]at e;cases hd:dZ S x with
  |none=>rw[hd]at e;cases e
  |some d=>
   rw[hd,Option.bind_some]at e;cases hr:views S xs with
   |none=>rw[hr]at e;cases e
   |some es=>
    rw[hr]at e;cases e;obtain⟨z1,z2⟩:=Dq hs hr l;exact⟨⟨v,r,e1,hxV hs hd q,z1⟩,by rw[e1,ft,ft,z2]⟩
theorem cnV{h o:List Addr}{H:Hp}{S:Sto}{R:RX}{Q:VK}(hs:RepS h o H S)(c:Cn h o H R Q):Cn h [] H (rN S R) Q:=fun o' H' S' y v e s' hy q=>by
 unfold rN at q;split at q
 ·rename_i d;have sH:Same H H':=fun b u eb=>(e.kp b u yv eb).2;have e0:o'=[]:=iy s'.len.symm;subst e0;have aa:=hs.same sH;refine c o H' S (.d d) v (Ex.of_same sH) aa (E8 (cF (h:=h) (o:=[])) (fun b m=>?_) d v q.1 hy) q.2;exact m.elim (aa.hal b) (aa.oam b)
 ·exact q.elim
theorem Gc{ps:List Str}{q:PN}{m:Nat}{t:TA}{da:DA}(ha:RA t da)(hm:ps.length=m:=by rfl):RE (pX (spN ps q) [] E0 t) (jN m q da):=fun h o H δ σ S R Q he hs w c=>
 ha h o H δ σ S _ _ he hs w fun o1 H1 S1 xs vs e1 s1 x1 ⟨ds,e,hl,d1⟩=>by
  obtain⟨z1,z2⟩:=Dq s1 e x1;rw[kn];exact⟨by rw[z2,hl,hm],h,[],[],_,_,Hn s1,z1,d1,cnV s1 (c.pre e1)⟩
end
section
def yN(K:cy):List V->Hp->VK->Prop:=fun xs H Q=>vL K xs H Q\/∃z,xs=[.str z]/\z.length<=fe/\Q (.int z.length) H
theorem zx{X:Cx}:CallR X (.builtin "len") (yN X.K):=Et.or FK
def kX(S:Sto):XV->Option Nat
 | .d (.tuple ds)=>some ds.length
 | .d (.list ds)=>some ds.length
 | .l k=>(S[k]?).map List.length
 | .d (.str z)=>if z.length<=fe then some z.length else none
 |_=>none
def aI:List XV->Sto->RX->Prop:=fun xs S R=>arg1 xs fun x=>∃n,kX S x=some n/\R (.d (.int n)) S
theorem eF{K:cy}:RC (yN K) aI:=fun h o H S xs vs R Q hs hx q c=>by
 obtain⟨x,rfl,n,hd,q1⟩:=dD q;unfold kX at hd;split at hd
 ·cases hd;exact .inl (xQ h o H S _ vs R Q hs hx ⟨_,rfl,q1⟩ c)
 ·cases hd;exact .inl (xQ h o H S _ vs R Q hs hx ⟨_,rfl,q1⟩ c)
 ·rename_i k;cases hk:S[k]? with
  |none=>rw[hk]at hd;cases hd
  |some ds=>
   rw[hk]at hd;cases hd;exact .inl (xQ h o H S _ vs R Q hs hx ⟨ds,hk,q1⟩ c)
 ·split at hd
  ·rename_i hz;cases hd;obtain⟨v,rfl,aa⟩:=hxs1 hx;exact .inr ⟨_,by rw[fQ aa],hz,c o H S _ _ Ex.refl hs (xI _) q1⟩
  ·cases hd
 ·cases hd
section
variable {S:Sto}{ds:List bn}{k:Nat}{z:Str}
theorem kG:kX S (.d (.tuple ds))=some ds.length:=rfl
theorem pU:kX S (.d (.list ds))=some ds.length:=rfl
theorem oP:kX S (.l k)=(S[k]?).map List.length:=rfl
end
def Ek(q:Bool):R2:=fun x y H Q=>∃d e ds,Has H d x/\Has H e y/\gn d=true/\gn (.list ds)=true/\(e=.list ds\/e=.tuple ds)/\Q (.bl (if q then !ds.any (fun y=>jj y d)else ds.any (fun y=>jj y d))) H
theorem Hf{ds:List bn}(h:gn (.list ds)=true):lr ds=true/\qi ds<=63:=by
 have h1:=ji h;have h2:=SeqAt.depth_of_shaped h;simp only[mj,PyData.depth]at h1 h2;exact⟨h1,yw⟩
theorem Gs{X:Cx}(hu:X.A.units+64<qt):OpR X (jt .NotIn) (Ek true):=by
 intro zk s σ H x y v u Q I rx ry h;obtain⟨d,e,ds,hd,he,sd,se,ee,q⟩:=h;obtain⟨s1,s2⟩:=Hf se;obtain⟨as,q1⟩:=Has.reads I d x v hd (ji sd) rx;have hm:X.A.units+1+min (qi ds) d.depth<qt:=by
  have:=Nat.min_le_left (qi ds) d.depth;omega
 rcases ee with rfl|rfl
 ·obtain⟨bs,q2⟩:=Has.reads I (.list ds) y u he (by simpa only[mj]using s1) ry;exact SeqAt.notIn_list_reads q2 q1 s1 (ji sd) hm ⟨.bl _,H,I,rfl,q⟩
 ·obtain⟨bs,q2⟩:=Has.reads I (.tuple ds) y u he (by simpa only[mj]using s1) ry;exact SeqAt.notIn_tuple_reads q2 q1 s1 (ji sd) hm ⟨.bl _,H,I,rfl,q⟩
def BN:R2:=fun x y H Q=>Ek true x y H Q\/∃i j,x=.str i/\y=.str j/\Q (.bl (!(!(Builtin.Str.occurrences j i 0 j.length 1).isEmpty))) H
theorem Ck{X:Cx}(hu:X.A.units+64<qt):OpR X (jt .NotIn) BN:=(Gs hu).or FD
def n6:D2:=fun x y S R=>match y with
 | .d (.str b)=>asS x fun a=>R (.d (.bool (!(!(Builtin.Str.occurrences b a 0 b.length 1).isEmpty)))) S
 |y=>∃d,dZ S x=some d/\∃ds,asQ S y=some ds/\gn d=true/\gn (.list ds)=true/\R (.d (.bool (!ds.any fun y=>jj y d))) S
theorem Ft{h o:List Addr}{H:Hp}{S:Sto}{x:XV}{v:V}{ds:List bn}(hs:RepS h o H S)(e:asQ S x=some ds)(q:HasX h o H x v):∃e,Has H e v/\(e=.list ds\/e=.tuple ds):=by
 unfold asQ at e;split at e
 ·cases e;exact⟨_,gW (x:=.d _) hs rfl q,.inr rfl⟩
 ·cases e;exact⟨_,gW (x:=.d _) hs rfl q,.inl rfl⟩
 ·rename_i k;exact⟨.list ds,gW (x:=.l k) hs (by show (S[k]?).map li=_;rw[e];rfl) q,.inl rfl⟩
 ·cases e
theorem IJ:RO BN n6:=fun h o H S x y v u R Q hs hx hy q c=>by
 unfold n6 at q;split at q
 ·replace q:=uW q;obtain⟨a,rfl,q⟩:=q;exact .inr ⟨_,_,fQ hx,fQ hy,c o H S _ _ Ex.refl hs (xB _) q⟩
 ·obtain⟨d,e1,ds,e2,s1,s2,q⟩:=q;obtain⟨e,he,ee⟩:=Ft hs e2 hy;exact .inl ⟨d,e,ds,gW hs e1 hx,he,s1,s2,ee,c o H S _ _ Ex.refl hs (xB _) q⟩
section
variable {S:Sto}{ds:List bn}{k:Nat}{a b:Str}{x:XV}{R:RX}
theorem oT:n6 x (.d (.tuple ds)) S R↔∃d,dZ S x=some d/\gn d=true/\gn (.list ds)=true/\R (.d (.bool (!ds.any fun y=>jj y d))) S:=⟨fun⟨d,e,_,e',q⟩=>by cases e';exact⟨d,e,q⟩,fun⟨d,e,q⟩=>⟨d,e,_,rfl,q⟩⟩
end
def qD(a:DA):DI:=fun δ S R=>a δ S fun xs S1=>arg1 xs fun x=>∃ds,eZ x=some ds/\R (DJ 0 ds) S1
def pL:XV->List XV->Sto->RX->Prop:=fun x xs S R=>∃k,x=.l k/\∃ds,S[k]?=some ds/\xs=[]/\∃d,ds[ds.length-1]?=some d/\R (.d d) (S.set k ds.dropLast)
def jO(rd:XV->List XV->Sto->RX->Prop)(e:DE)(a:DA):DE:=fun δ S R=>e δ S fun x S1=>∃z,x=.d (.str z)/\a δ S1 fun xs S2=>rd x xs S2 R
theorem AL{K:cy}{r:V->List V->Hp->VK->Prop}{rd:XV->List XV->Sto->RX->Prop}{te:TE}{de:DE}{tl:TA}{dl:DA}(hr:RM r rd)(aa:RE te de)(ha:RA tl dl):RE (tBM K "str" r te tl) (jO rd de dl):=fun h o H δ σ S R Q he hs q c=>
 aa h o H δ σ S _ _ he hs q fun o1 H1 S1 x v e1 s1 x1 ⟨z,ez,d1⟩=>by
  subst ez;cases fQ x1;exact⟨rfl,ha h o1 H1 δ σ S1 _ _ (he.mono e1) s1 d1 fun o2 H2 S2 xs vs e2 s2 x2 d2=>hr h o2 H2 S2 (.d (.str z)) _ xs vs R Q s2 (HasX.mono (x:=.d (.str z)) e2 x1) x2 d2 (c.pre (e1.trans e2))⟩
theorem DQ{H:Hp}:∀{ns:List Str}{vs:List V},HasL H (ns.map jo) vs->vs=ns.map V.str
 | [],vs,h=>zR.mp h
 |n::ns,vs,h=>by
  obtain⟨v,r,rfl,h1,h2⟩:=zG.mp h;rw[iB.mp h1,DQ h2];rfl
def kA:XV->List XV->Sto->RX->Prop:=fun x xs S R=>asS x fun z=>arg1 xs fun y=>∃ds,fV S y=some ds/\∃zs:List Str,ds=zs.map jo/\z.length<=16/\zs.length<=1000/\(∀y∈zs,y.length<=1000)/\R (.d (.str (PySem.Txt.join z zs))) S
theorem IX{K:cy}:RM (Do K) kA:=fun h o H S x v xs vs R Q hs hx aa q c=>by
 replace q:=uW q;obtain⟨z,rfl,q⟩:=q;obtain⟨y,rfl,ds,e,zs,rfl,h1,h2,h3,q1⟩:=dD q;obtain⟨u,rfl,hu⟩:=hxs1 aa;obtain⟨a,ws,rfl,ea,l⟩:=c8 hs e hu;rw[DQ l]at ea;exact⟨z,a,zs,fQ hx,rfl,.of ea,h1,h2,h3,c o H S _ _ Ex.refl hs (xS _) q1⟩
def i0:D2:=fun x y S R=>asL S x fun ds=>asL S y fun es=>ds.length+es.length<=1000/\R (.l S.length) (S++[ds++es])
theorem HQ:RO lJ i0:=fun h o H S x y v u R Q hs hx hy q c=>by
 obtain⟨ds,e0,es,e1,hl,q⟩:=q;obtain⟨a,vs,rfl,ea,la⟩:=c8 hs e0 hx;obtain⟨b,us,rfl,eb,lb⟩:=c8 hs e1 hy;exact⟨a,b,vs,us,rfl,rfl,ea,eb,by rw[la.length,lb.length];exact ku (small1000 hl),vB hs (la.append lb) c q⟩
abbrev G6 (a:Addr) (m:Nat):DEnds:={ nx:=fun δ _=>δ[0]?=some (some (.o (.ref a)))/\δ.length=m+1,ct:=fun δ _=>δ[0]?=some (some (.o (.ref a)))/\δ.length=m+1,rt:=fun _ _=>False }
end
section
open Sem (wp)
def ItK(t:Bool)(h:Heap)(j a:Addr)(k:Nat):Prop:=match t with
 |true=>h.IsTupleIter j a k
 |false=>h.IsListIter j a k
def SqK(t:Bool)(h:Heap)(a:Addr)(xs:Array bp):Prop:=match t with
 |true=>h.IsTuple a xs
 |false=>h.IsList a xs
theorem ItK.at{t:Bool}{h g:Heap}{j a:Addr}{k:Nat}(q:ItK t h j a k)(f:∀o,h.get? j=some o->g.get? j=some o):ItK t g j a k:=by
 cases t
 ·exact Heap.IsListIter.at (show h.IsListIter j a k from q) f
 ·exact Heap.IsTupleIter.at (show h.IsTupleIter j a k from q) f
theorem ItK.here{t:Bool}{h:Heap}{j a:Addr}{k:Nat}(q:ItK t h j a k):∃o,h.get? j=some o/\∀v,o.data≠.cell v:=by
 cases t<;>(obtain⟨o,e,c,d⟩:=q;exact⟨o,e,fun v z=>by rw[d]at z;cases z⟩)
theorem SqK.at{t:Bool}{h g:Heap}{a:Addr}{xs:Array bp}(q:SqK t h a xs)(f:∀o,h.get? a=some o->g.get? a=some o):SqK t g a xs:=by
 cases t<;>(obtain⟨o,e,r⟩:=q;exact⟨o,f o e,r⟩)
theorem SqK.here{t:Bool}{h:Heap}{a:Addr}{xs:Array bp}(q:SqK t h a xs):∃o,h.get? a=some o:=by
 cases t<;>(obtain⟨o,e,r⟩:=q;exact⟨o,e⟩)
section
variable {prog:gc}{w:gy}{A:ip}{E:bp->bq->Prop}{s:bq}
theorem vY{t:Bool}{j a:Addr}{k:Nat}{xs:Array bp}{x:bp}{Q:bp->bq->Prop}(hj:ItK t s.heap j a k)(ha:SqK t s.heap a xs)(hx:xs[k]?=some x)
  (hQ:∀g,ItK t g j a (k+1)->iu j s.heap g->Q x { s with heap:=g }):dh (model prog w) A (gw (.ref j)) Q E s:=by
 cases t
 ·exact wpAny_nextOf_list_item hj ha hx hQ
 ·exact Im hj ha hx hQ
theorem Cq{t:Bool}{j a:Addr}{k:Nat}{xs:Array bp}{Q:bp->bq->Prop}(hh:A.handled=none)(hj:ItK t s.heap j a k)(ha:SqK t s.heap a xs)(hx:xs[k]?=none)
  (hE:∀g e,Heap.ExtBut j s.heap g->(∃o,g.get? e=some o/\o.cls=.type "StopIteration")->E (.ref e) { s with heap:=g }):dh (model prog w) A (gw (.ref j)) Q E s:=by
 cases t
 ·exact wpAny_nextOf_list_end hh hj ha hx hE
 ·exact JA hh hj ha hx hE
theorem Cz{t:Bool}{a:Addr}{xs:Array bp}{Q:bp->bq->Prop}(ha:SqK t s.heap a xs)(hQ:Q (.ref s.heap.objs.size) { s with heap:=s.heap.push { cls:=.type (if t then "tuple_iterator" else "list_iterator"),data:=.fields #[.ref a,.int 0 0] } }):dh (model prog w) A (pyIter (.ref a)) Q E s:=by
 cases t
 ·exact qr ha hQ
 ·exact qa ha hQ
theorem wN{T:Addr}{c d x:bp}{k:Nat}{Q:Unit->bq->Prop}(hT:qd s.heap T c d)(hQ:∀g,g.get? T=some { cls:=.type "tuple",data:=.seq ((#[c,d]:Array bp).setIfInBounds k x) }->iu T s.heap g->Q () { s with heap:=g }):
  dh (model prog w) A (updateSeq T (·.setIfInBounds k x)) Q E s:=wpAny_updateSeq_pair hT hQ
structure ZAp(z p r i j a b:Addr):Prop where
 pz:p≠z
 rz:r≠z
 iz:i≠z
 jz:j≠z
 pr:p≠r
 pi:p≠i
 pj:p≠j
 ri:r≠i
 rj:r≠j
 ij:i≠j
 az:a≠z
 ar:a≠r
 ai:a≠i
 aj:a≠j
 bz:b≠z
 br:b≠r
 bi:b≠i
 bj:b≠j
theorem Gb{t u:Bool}{z p r i j a b:Addr}{k m:Nat}{xs ys:Array bp}{x y c d:bp}{Q:bp->bq->Prop}(D:ZAp z p r i j a b)(hz:IsZip s.heap z p r .none)(hp:qd s.heap p (.ref i) (.ref j))(hr:qd s.heap r c d)
  (hi:ItK t s.heap i a k) (hj:ItK u s.heap j b m) (ha:SqK t s.heap a xs) (hb:SqK u s.heap b ys) (hx:xs[k]?=some x) (hy:ys[m]?=some y)
  (hQ:∀g,IsZip g z p r (rawInt s.heap.objs.size)->qd g r x y->ItK t g i a (k+1)->ItK u g j b (m+1)->qd g s.heap.objs.size x y ->
   (∀q o,q≠z->q≠r->q≠i->q≠j->s.heap.get? q=some o->g.get? q=some o)->Q (.ref s.heap.objs.size) { s with heap:=g }):
  dh (model prog w) A (Builtin.«zip.__next__» ⟨[.ref z],[]⟩) (fun fn s'=>∃v,fn=.done (.ret v)/\Q v s') E s:=by
 obtain⟨h0,gs,dr,tk,os⟩:=s;show dh _ _ (field (.ref z) 2 >>= _) _ _ ⟨h0,gs,dr,tk,os⟩;refine bo (jw hz rfl (x:=.bool false) rfl ?_);show dh _ _ (field (.ref z) 3 >>= _) _ _ ⟨h0,gs,dr,tk,os⟩;refine bo (jw hz rfl (x:=.ref p) rfl (bo (jy hp rfl ?_)));show dh _ _ (Builtin.SmallTypes.ownedTupleIsFree (.ref z) >>= _) _ _ ⟨h0,gs,dr,tk,os⟩;refine bo ?_;unfold Builtin.SmallTypes.ownedTupleIsFree;refine bo (jw hz rfl (x:=.none) rfl (cq ?_));simp only[if_true];refine bo (mn (bo (jw hz rfl (x:=.ref r) rfl (bo (ng hz yv fun g1 z1 b1=>?_)))));replace z1:IsZip g1 z p r .ellipsis:=z1;replace b1:iu z h0 g1:=b1;refine bo ?_;simp only[zipIdx_cons,List.zipIdx_nil,forIn_cons,List.forIn_nil];refine bo (bo (wpAny_onRaise ?_));show dh _ _ (gw (.ref i) >>= _) _ _ ⟨g1,gs,dr,tk,os⟩;refine bo (vY (s:=⟨g1,gs,dr,tk,os⟩) (hi.at fun o e=>b1.extBut i o D.iz e) (ha.at fun o e=>b1.extBut a o D.az e) hx fun g2 i2 b2=>cq ?_);replace b2:iu i g1 g2:=b2;have r2:qd g2 r c d:=b2.extBut r _ D.ri (b1.extBut r _ D.rz hr);refine bo (jy (s:=⟨g2,gs,dr,tk,os⟩) r2 rfl (bo (wN (s:=⟨g2,gs,dr,tk,os⟩) r2 fun g3 r3 b3=>?_)));replace r3:qd g3 r x d:=r3;replace b3:iu r g2 g3:=b3;refine bo (rp (cq (bo (bo (wpAny_onRaise ?_)))));show dh _ _ (gw (.ref j) >>= _) _ _ ⟨g3,gs,dr,tk,os⟩;have aa:∀q o,q≠z->q≠r->q≠i->h0.get? q=some o->g3.get? q=some o:=fun q o n1 n2 n3 e=>b3.extBut q o n2 (b2.extBut q o n3 (b1.extBut q o n1 e));refine bo (vY (s:=⟨g3,gs,dr,tk,os⟩) (hj.at fun o e=>aa j o D.jz (jg D.rj) (jg D.ij) e) (hb.at fun o e=>aa b o D.bz D.br D.bi e) hy fun g4 j4 b4=>cq ?_);replace b4:iu j g3 g4:=b4;have r4:qd g4 r x d:=b4.extBut r _ D.rj r3;refine bo (jy (s:=⟨g4,gs,dr,tk,os⟩) r4 rfl (bo (wN (s:=⟨g4,gs,dr,tk,os⟩) r4 fun g5 r5 b5=>?_)));replace r5:qd g5 r x y:=r5;replace b5:iu r g4 g5:=b5;refine bo (rp (cq (cq (bo (jy (s:=⟨g5,gs,dr,tk,os⟩) r5 rfl (bo (wpAny_newTuple ?_)))))));have sz:g5.objs.size=h0.objs.size:=by rw[b5.1,b4.1,b3.1,b2.1,b1.1]
 have z5:IsZip g5 z p r .ellipsis:=b5.extBut z _ (jg D.rz) (b4.extBut z _ (jg D.jz) (b3.extBut z _ (jg D.rz) (b2.extBut z _ (jg D.iz) z1)));have k5:∀q o,q≠z->q≠r->q≠i->q≠j->h0.get? q=some o->g5.get? q=some o:=fun q o n1 n2 n3 n4 e=>b5.extBut q o n2 (b4.extBut q o n4 (aa q o n1 n2 n3 e));have i5:ItK t g5 i a (k+1):=ItK.at i2 fun o e=>b5.extBut i o (jg D.ri) (b4.extBut i o D.ij (b3.extBut i o (jg D.ri) e));have j5:ItK u g5 j b (m+1):=ItK.at j4 fun o e=>b5.extBut j o (jg D.rj) e;have zl:z<g5.objs.size:=gg z5;show dh _ _ (Builtin.SmallTypes.ownedTupleHandOut (.ref z) (.ref g5.objs.size) >>= _) _ _ _;refine bo ?_;unfold Builtin.SmallTypes.ownedTupleHandOut;have z6:IsZip (g5.push { cls:=.type "tuple",data:=.seq #[x,y] }) z p r .ellipsis:=cp _ z5;refine bo (ng z6 yv fun g7 z7 b7=>?_);replace z7:IsZip g7 z p r (rawInt g5.objs.size):=z7;replace b7:iu z (g5.push { cls:=.type "tuple",data:=.seq #[x,y] }) g7:=b7;refine ng z7 yv fun g8 z8 b8=>?_;replace z8:IsZip g8 z p r (rawInt g5.objs.size):=z8;replace b8:iu z g7 g8:=b8;have up:∀q o,q≠z->g5.get? q=some o->g8.get? q=some o:=fun q o n e=>b8.extBut q o n (b7.extBut q o n (cp _ e));have t8:qd g8 g5.objs.size x y:=b8.extBut _ _ (ne_of_gt zl) (b7.extBut _ _ (ne_of_gt zl) (fj _ rfl));rw[sz]at z8 t8;refine cq ⟨_,rfl,?_⟩;show Q (.ref g5.objs.size) _;rw[sz];exact hQ g8 z8 (up r _ D.rz r5) (i5.at fun o e=>up i o D.iz e) (j5.at fun o e=>up j o D.jz e) t8 fun q o n1 n2 n3 n4 e=>up q o n1 (k5 q o n1 n2 n3 n4 e)
theorem L5{t u:Bool}{z p r i j a b:Addr}{k m:Nat}{xs ys:Array bp}{c d:bp}{Q:Fin->bq->Prop}(hh:A.handled=none)(D:ZAp z p r i j a b)(hz:IsZip s.heap z p r .none)(hp:qd s.heap p (.ref i) (.ref j))(hr:qd s.heap r c d)
  (hi:ItK t s.heap i a k) (hj:ItK u s.heap j b m) (ha:SqK t s.heap a xs) (hb:SqK u s.heap b ys) (hend:xs[k]?=none\/ys[m]?=none)
  (hE:∀g e,(∀q o,q≠z->q≠r->q≠i->q≠j->s.heap.get? q=some o->g.get? q=some o)->(∃o,g.get? e=some o/\o.cls=.type "StopIteration")->E (.ref e) { s with heap:=g }):
  dh (model prog w) A (Builtin.«zip.__next__» ⟨[.ref z],[]⟩) Q E s:=by
 obtain⟨h0,gs,dr,tk,os⟩:=s;show dh _ _ (field (.ref z) 2 >>= _) _ _ ⟨h0,gs,dr,tk,os⟩;refine bo (jw hz rfl (x:=.bool false) rfl ?_);show dh _ _ (field (.ref z) 3 >>= _) _ _ ⟨h0,gs,dr,tk,os⟩;refine bo (jw hz rfl (x:=.ref p) rfl (bo (jy hp rfl ?_)));show dh _ _ (Builtin.SmallTypes.ownedTupleIsFree (.ref z) >>= _) _ _ ⟨h0,gs,dr,tk,os⟩;refine bo ?_;unfold Builtin.SmallTypes.ownedTupleIsFree;refine bo (jw hz rfl (x:=.none) rfl (cq ?_));simp only[if_true];refine bo (mn (bo (jw hz rfl (x:=.ref r) rfl (bo (ng hz yv fun g1 z1 b1=>?_)))));replace z1:IsZip g1 z p r .ellipsis:=z1;replace b1:iu z h0 g1:=b1;refine bo ?_;simp only[zipIdx_cons,List.zipIdx_nil,forIn_cons,List.forIn_nil];refine bo (bo (wpAny_onRaise ?_));show dh _ _ (gw (.ref i) >>= _) _ _ ⟨g1,gs,dr,tk,os⟩;have aa:∀{g:Heap}{e:Addr}{o:Obj},IsZip g z p r .ellipsis->g.get? e=some o->o.cls=.type "StopIteration"->e≠z:=fun h1 h2 h3 w=>by
  subst w;rw[h1]at h2;cases h2;simp at h3
 cases hx:xs[k]? with
 |none=>
  refine bo (Cq (s:=⟨g1,gs,dr,tk,os⟩) hh (hi.at fun o e=>b1.extBut i o D.iz e) (ha.at fun o e=>b1.extBut a o D.az e) hx fun g2 e b2 he=>?_);obtain⟨oe,e1,e2⟩:=he;have z2:IsZip g2 z p r .ellipsis:=b2 z _ (jg D.iz) z1;exact ng z2 yv fun g3 _ b3=>hE g3 e (fun q o n1 _ n3 _ w=>b3.extBut q o n1 (b2 q o n3 (b1.extBut q o n1 w))) ⟨oe,b3.extBut e oe (aa z2 e1 e2) e1,e2⟩
 |some x=>
  have hy:ys[m]?=none:=hend.elim (fun w=>by rw[hx]at w;cases w) id;refine bo (vY (s:=⟨g1,gs,dr,tk,os⟩) (hi.at fun o e=>b1.extBut i o D.iz e) (ha.at fun o e=>b1.extBut a o D.az e) hx fun g2 i2 b2=>cq ?_);replace b2:iu i g1 g2:=b2;have r2:qd g2 r c d:=b2.extBut r _ D.ri (b1.extBut r _ D.rz hr);refine bo (jy (s:=⟨g2,gs,dr,tk,os⟩) r2 rfl (bo (wN (s:=⟨g2,gs,dr,tk,os⟩) r2 fun g3 r3 b3=>?_)));replace b3:iu r g2 g3:=b3;refine bo (rp (cq (bo (bo (wpAny_onRaise ?_)))));show dh _ _ (gw (.ref j) >>= _) _ _ ⟨g3,gs,dr,tk,os⟩;have ab:∀q o,q≠z->q≠r->q≠i->h0.get? q=some o->g3.get? q=some o:=fun q o n1 n2 n3 e=>b3.extBut q o n2 (b2.extBut q o n3 (b1.extBut q o n1 e));refine bo (Cq (s:=⟨g3,gs,dr,tk,os⟩) hh (hj.at fun o e=>ab j o D.jz (jg D.rj) (jg D.ij) e) (hb.at fun o e=>ab b o D.bz D.br D.bi e) hy fun g4 e b4 he=>?_);obtain⟨oe,e1,e2⟩:=he;have z4:IsZip g4 z p r .ellipsis:=b4 z _ (jg D.jz) (b3.extBut z _ (jg D.rz) (b2.extBut z _ (jg D.iz) z1));exact ng z4 yv fun g5 _ b5=>hE g5 e (fun q o n1 n2 n3 n4 w=>b5.extBut q o n1 (b4 q o n4 (ab q o n1 n2 n3 w))) ⟨oe,b5.extBut e oe (aa z4 e1 e2) e1,e2⟩
abbrev kL (t:Bool) (h:Heap) (a:Addr):Heap:=h.push { cls:=.type (if t then "tuple_iterator" else "list_iterator"),data:=.fields #[.ref a,.int 0 0] }
abbrev i6 (t u:Bool) (h:Heap) (a b:Addr):Heap:=(kL t h a).push { cls:=.type (if u then "tuple_iterator" else "list_iterator"),data:=.fields #[.ref b,.int 0 0] }
abbrev jI (t u:Bool) (h:Heap) (a b:Addr):Heap:=(i6 t u h a b).push { cls:=.type "tuple",data:=.seq #[.ref h.objs.size,.ref (kL t h a).objs.size] }
abbrev kP (t u:Bool) (h:Heap) (a b:Addr):Heap:=(jI t u h a b).push { cls:=.type "tuple",data:=.seq #[.none,.none] }
abbrev vH (t u:Bool) (h:Heap) (a b:Addr):Heap:=(kP t u h a b).push { cls:=.type "zip",data:=.fields #[.none,.bool false,.bool false,.ref (i6 t u h a b).objs.size,.ref (jI t u h a b).objs.size] }
theorem FV(t u:Bool)(a b:Addr)(xs ys:Array bp):Meets (Builtin.«zip.__new__» ⟨[.type "zip",.ref a,.ref b],[]⟩) (fun _ R s=>SqK t s.heap a xs/\SqK u s.heap b ys /\
   ∀g,IsZip g (s.heap.objs.size+4) (s.heap.objs.size+2) (s.heap.objs.size+3) .none->qd g (s.heap.objs.size+2) (.ref s.heap.objs.size) (.ref (s.heap.objs.size+1))->qd g (s.heap.objs.size+3) .none .none ->
    ItK t g s.heap.objs.size a 0->ItK u g (s.heap.objs.size+1) b 0->(∀q o,s.heap.get? q=some o->g.get? q=some o)->R (.ok (.ret (.ref (s.heap.objs.size+4)))) { s with heap:=g }):=
 .of_wp fun prog w A R s aa=>by
  obtain⟨g0,gs,dr,tk,os⟩:=s;obtain⟨ha,hb,aa⟩:=aa;have sub:=sub_zip;have hA:SqK t (Shared.heap ⟨g0,gs,dr,tk,os⟩) a xs:=ha;have hB:SqK u (Shared.heap ⟨g0.push { cls:=.type (if t then "tuple_iterator" else "list_iterator"),data:=.fields #[.ref a,.int 0 0] },gs,dr,tk,os⟩) b ys:=SqK.at hb fun o e=>cp _ e
  wp_walk using Cz hA,Cz hB
  refine⟨_,rfl,?_⟩;have z1:(kL t g0 a).objs.size=g0.objs.size+1:=size_push ..;have z2:(i6 t u g0 a b).objs.size=g0.objs.size+2:=by rw[size_push,z1]
  have z3:(jI t u g0 a b).objs.size=g0.objs.size+3:=by rw[size_push,z2]
  have z4:(kP t u g0 a b).objs.size=g0.objs.size+4:=by rw[size_push,z3]
  have f1:=fj g0 (o:={ cls:=.type (if t then "tuple_iterator" else "list_iterator"),data:=.fields #[.ref a,.int 0 0] }) (by cases t<;>rfl);have f2:=fj (kL t g0 a) (o:={ cls:=.type (if u then "tuple_iterator" else "list_iterator"),data:=.fields #[.ref b,.int 0 0] }) (by cases u<;>rfl);have f3:=fj (i6 t u g0 a b) (o:={ cls:=.type "tuple",data:=.seq #[.ref g0.objs.size,.ref (kL t g0 a).objs.size] }) rfl;have f4:=fj (jI t u g0 a b) (o:={ cls:=.type "tuple",data:=.seq #[.none,.none] }) rfl;have f5:=fj (kP t u g0 a b) (o:={ cls:=.type "zip",data:=.fields #[.none,.bool false,.bool false,.ref (i6 t u g0 a b).objs.size,.ref (jI t u g0 a b).objs.size] }) rfl;have c1:∀q o,g0.get? q=some o->(kL t g0 a).get? q=some o:=fun q o e=>cp _ e;have c2:∀q o,(kL t g0 a).get? q=some o->(i6 t u g0 a b).get? q=some o:=fun q o e=>cp _ e;have c3:∀q o,(i6 t u g0 a b).get? q=some o->(jI t u g0 a b).get? q=some o:=fun q o e=>cp _ e;have c4:∀q o,(jI t u g0 a b).get? q=some o->(kP t u g0 a b).get? q=some o:=fun q o e=>cp _ e;have c5:∀q o,(kP t u g0 a b).get? q=some o->(vH t u g0 a b).get? q=some o:=fun q o e=>cp _ e;have y1:=c5 _ _ (c4 _ _ (c3 _ _ (c2 _ _ f1)));have y2:=c5 _ _ (c4 _ _ (c3 _ _ f2));have y3:=c5 _ _ (c4 _ _ f3);have y4:=c5 _ _ f4;have y5:(vH t u g0 a b).get? (kP t u g0 a b).objs.size=some { cls:=.type "zip",data:=.fields #[.none,.bool false,.bool false,.ref (i6 t u g0 a b).objs.size,.ref (jI t u g0 a b).objs.size] }:=f5;have fin:R (.ok (.ret (.ref (kP t u g0 a b).objs.size))) ⟨vH t u g0 a b,gs,dr,tk,os⟩:=by
   rw[z4,z2,z3]at y5;rw[z2,z1]at y3;rw[z3]at y4;rw[z1]at y2;rw[z4];refine aa _ y5 y3 y4 ?_ ?_ fun q o e=>c5 q o (c4 q o (c3 q o (c2 q o (c1 q o e))))
   ·cases t<;>exact⟨_,y1,rfl,rfl⟩
   ·cases u<;>exact⟨_,y2,rfl,rfl⟩
  exact fin
theorem Hb{t u:Bool}{a b:Addr}{xs ys:Array bp}{Q:bp->bq->Prop}(ha:SqK t s.heap a xs)(hb:SqK u s.heap b ys)
  (hyp:∀g,IsZip g (s.heap.objs.size+4) (s.heap.objs.size+2) (s.heap.objs.size+3) .none->qd g (s.heap.objs.size+2) (.ref s.heap.objs.size) (.ref (s.heap.objs.size+1))->qd g (s.heap.objs.size+3) .none .none ->
    ItK t g s.heap.objs.size a 0->ItK u g (s.heap.objs.size+1) b 0->(∀q o,s.heap.get? q=some o->g.get? q=some o)->Q (.ref (s.heap.objs.size+4)) { s with heap:=g }):dh (model prog w) A (call (.type "zip") [.ref a,.ref b]) Q E s:=by
 refine callType_new F.called_zip dz (F.typeCall_zip_2 _ _) (F.newCall_zip_2 _ _) (fun ob=>F.args_object_init_3 ob _ _) F.entry_zip_new (FV t u a b xs ys) ⟨ha,hb,fun g h1 h2 h3 h4 h5 h6=>?_⟩;exact⟨⟨_,h1,rfl⟩,hyp g h1 h2 h3 h4 h5 h6⟩
end
def Itz(S1 S2:Hp->Addr->List V->Prop)(a b:Addr):It:=
 ⟨fun i H=>∃xs ys x y,S1 H a xs/\S2 H b ys/\xs[i]?=some x/\ys[i]?=some y,fun i H x H'=>∃p v u,H p=none/\x=.ref p/\H'=upd H p (.tup [v,u])/\(∀xs,S1 H a xs->xs[i]?=some v)/\(∀ys,S2 H b ys->ys[i]?=some u),fun i H=>∃xs ys,S1 H a xs/\S2 H b ys/\(xs.length<=i\/ys.length<=i)⟩
def SqV(K:cy)(t:Bool)(H:Hp)(a:Addr)(xs:List V):Prop:=match t with
 |true=>SqT K H a xs
 |false=>SqL K H a xs
theorem Inv.seqK{X:Cx}{zk:List (Addr×Obj)}{σ:St}{H:Hp}{s:bq}{t:Bool}{a:Addr}{xs:List V}(I:Inv X zk σ H s)(h:SqV X.K t H a xs):∃q:List bp,Vals xs q/\SqK t s.heap a q.toArray/\∀ys,SqV X.K t H a ys->ys=xs:=by
 cases t
 ·obtain⟨q,rv,p,_⟩:=I.list h;exact⟨q,rv,p.isList,fun ys hy=>I.list_inj hy h⟩
 ·obtain⟨q,rv,p,_⟩:=I.tuple h;exact⟨q,rv,p,fun ys hy=>I.tuple_inj hy h⟩
theorem JY{P:gc}{w:gy}{K:cy}{elts:List Expr}{n:Nat}{pos:Pos}(t u:Bool)(z p r i j a b:Addr)(D:ZAp z p r i j a b):Turn P w K (.Tuple elts n pos) (Itz (SqV K t) (SqV K u) a b) [z,p,r,i,j] z
  (fun k h=>IsZip h z p r .none/\qd h p (.ref i) (.ref j)/\(∃c d,qd h r c d)/\ItK t h i a k/\ItK u h j b k) where
 mem:=by simp
 obj:=fun k h ⟨h1,h2,⟨c,d,h3⟩,h4,h5⟩ q hq=>by
  simp only[ix,gk,or_false]at hq;rcases hq with rfl|rfl|rfl|rfl|rfl
  ·exact⟨_,h1,fun v e=>by cases (show Data.fields _=Data.cell v from e)⟩
  ·exact⟨_,h2,fun v e=>by cases (show Data.seq _ _=Data.cell v from e)⟩
  ·exact⟨_,h3,fun v e=>by cases (show Data.seq _ _=Data.cell v from e)⟩
  ·exact h4.here
  ·exact h5.here
 keep:=fun k h h' ⟨h1,h2,⟨c,d,h3⟩,h4,h5⟩ f=>⟨f z yv _ h1,f p yv _ h2,⟨c,d,f r yv _ h3⟩,h4.at fun o e=>f i yv o e,h5.at fun o e=>f j yv o e⟩
 item:=by
  intro X hP hw hK hc k zk s σ H E I hf st hg;subst hP hw hK;obtain⟨xs,ys,x,y,q1,q2,ex,ey⟩:=hg;obtain⟨ah,rv,sq,inj⟩:=I.seqK q1;obtain⟨ag,ab,ae,aa⟩:=I.seqK q2;obtain⟨v1,e1,r1⟩:=rv.get ex;obtain⟨v2,e2,r2⟩:=ab.get ey;obtain⟨h1,h2,⟨c,d,h3⟩,h4,h5⟩:=st;have ty:s.TypeIs (.ref z) "zip":=⟨_,h1,rfl⟩;unfold pyNext;refine bo (wpAny_attempt (kh (name:=rq "__next__") ty F.slot_zip_next (kx F.slot_zip_next ty F.entry_zip_next
   (Gb D h1 h2 h3 h4 h5 sq ae (by simpa using e1) (by simpa using e2) fun g a1 a2 a3 a4 a5 kk=>cq ⟨_,rfl,?_⟩) (F.args_zip_next_1 _))))
  refine wpAny_letOwnedTupleGo_zip (s:={ s with heap:=g }) a1 fun g' z' b'=>?_;have lt:∀{q o},s.heap.get? q=some o->s.heap.objs.size≠q:=fun e=>ne_of_gt (gg e);have b'':iu z g g':=b';have pT:qd g' s.heap.objs.size v1 v2:=b''.extBut _ _ (lt h1) a5;have hn:=I.hok.fresh (ff s.heap.objs.size);have af:∀q o,q∉[z,r,i,j]->s.heap.get? q=some o->g'.get? q=some o:=fun q o hq e=>by
   simp only[ix,gk,or_false,not_or]at hq;exact b''.extBut q o hq.1 (kk q o hq.1 hq.2.1 hq.2.2.1 hq.2.2.2 e)
  have I1:Inv X zk σ (upd H s.heap.objs.size (.tup [x,y])) { s with heap:=g' }:=I.turnLaid (t':=s.toks) (ch:=[z,r,i,j]) af (fun q hq=>hf q (by
   simp only[ix,gk,or_false]at hq ⊢;rcases hq with h|h|h|h
   ·exact .inl h
   ·exact .inr (.inr (.inl h))
   ·exact .inr (.inr (.inr (.inl h)))
   ·exact .inr (.inr (.inr (.inr h))))) (ff _) ⟨⟨by show 2<=fe;decide,_,pT,rfl⟩,[v1,v2],.cons r1 (.cons r2 .nil),⟨_,pT,rfl,_,rfl⟩⟩
  have ac:∀q,q∈[z,p,r,i,j]->q≠s.heap.objs.size:=fun q hq w=>by
   simp only[ix,gk,or_false]at hq;obtain⟨o1,w1,_⟩:=h4.here;obtain⟨o2,w2,_⟩:=h5.here;rcases hq with h|h|h|h|h
   ·exact lt h1 (w.symm.trans h)
   ·exact lt h2 (w.symm.trans h)
   ·exact lt h3 (w.symm.trans h)
   ·exact lt w1 (w.symm.trans h)
   ·exact lt w2 (w.symm.trans h)
  refine⟨.ref s.heap.objs.size,_,I1,rfl,⟨_,x,y,hn,rfl,rfl,fun zs hz=>by rw[inj zs hz];exact ex,fun zs hz=>by rw[aa zs hz];exact ey⟩,⟨z',af p _ (by simp[D.pz,D.pr,D.pi,D.pj]) h2,⟨_,_,b''.extBut r _ D.rz a2⟩,a3.at fun o e=>b''.extBut i o D.iz e,a4.at fun o e=>b''.extBut j o D.jz e⟩,fun q hq=>?_⟩;rw[zZ (ac q hq)];exact(hf q hq).1
 done:=by
  intro X hP hw hK hc k zk s σ H E I hf st hg;subst hP hw hK;obtain⟨xs,ys,q1,q2,hl⟩:=hg;obtain⟨ah,rv,sq,inj⟩:=I.seqK q1;obtain⟨ag,ab,ae,aa⟩:=I.seqK q2;obtain⟨h1,h2,⟨c,d,h3⟩,h4,h5⟩:=st;have l1:=rv.length;have l2:=ab.length;have ty:s.TypeIs (.ref z) "zip":=⟨_,h1,rfl⟩;unfold pyNext;refine bo (wpAny_attempt (kh (name:=rq "__next__") ty F.slot_zip_next (kx F.slot_zip_next ty F.entry_zip_next
   (L5 (I.ok.hd hc) D h1 h2 h3 h4 h5 sq ae (hl.elim (fun h=>.inl (by simp;omega)) fun h=>.inr (by simp;omega)) fun g e kk he=>?_) (F.args_zip_next_1 _))))
  obtain⟨o,ho,ai⟩:=he;refine bo (wpAny_isInstance (T:="StopIteration") (b:=true) ⟨o,ho,ai⟩ isSubtype_stop (cq ⟨rfl,?_⟩));refine I.turnedN (t':=s.toks) (ch:=[z,r,i,j]) (fun q o hq e=>?_) fun q hq=>hf q (by
   simp only[ix,gk,or_false]at hq ⊢;rcases hq with h|h|h|h
   ·exact .inl h
   ·exact .inr (.inr (.inl h))
   ·exact .inr (.inr (.inr (.inl h)))
   ·exact .inr (.inr (.inr (.inr h))))
  simp only[ix,gk,or_false,not_or]at hq;exact kk q o hq.1 hq.2.1 hq.2.2.1 hq.2.2.2 e
 self:=fun _ _ _ _ _ st h=>wpAny_pyIter_zip st.1 h
theorem nne{a b:Nat}(h:a<b\/b<a):(show Addr from a)≠(show Addr from b):=fun e=>by
 have e':a=b:=e;omega
theorem L8(N a b:Nat)(ha:a<N)(hb:b<N):ZAp (N+4) (N+2) (N+3) N (N+1) a b:=by
 constructor<;>exact nne yw
theorem Gi(N q:Nat)(hq:q=N+4\/q=N+2\/q=N+3\/q=N\/q=N+1):N<=q:=yw
section
variable {X:Cx}{elts:List Expr}{n:Nat}{tpos:Pos}
theorem Ga:iq "zip" = some (.type "zip"):=by decide +kernel
def C4(K:cy)(ta:TA):TI:=fun σ H R=>ta σ H fun vs H1=>∃a b t u,vs=[.ref a,.ref b]/\(∃xs,SqV K t H1 a xs)/\(∃ys,SqV K u H1 b ys)/\R (Itz (SqV K t) (SqV K u) a b) H1
theorem iT{e1 e2:Expr}{ta:TA}{p pos:Pos}(hg:Gl X "zip")(hm:X.mg "zip" = none)(ha:PA X [e1,e2] ta)(hs:gx [e1,e2] X.env=[(false,eval e1 X.env),(false,eval e2 X.env)]:=by rfl)(aa:gx [e2] X.env=[(false,eval e2 X.env)]:=by rfl):
  PI X (.Tuple elts n tpos) (.Call (.Name "zip" p) [e1,e2] [] pos) (C4 X.K ta):=by
 intro zk s σ H R I h;refine Call_ (lI I hg hm Ga (PyProof.Rows.callWith_type1 (thn (ha pos zk s σ H _ I h) fun us s1 ⟨vs,H1,I1,r1,q1⟩=>?_) (by rw[hs,aa]) (by rw[aa];rfl)));obtain⟨a,b,t,u,e,⟨xs,q1⟩,⟨ys,q2⟩,q⟩:=q1;subst e;cases r1 with
 |cons r rr=>
  cases rr with
  |cons r' rr=>
   cases rr;cases r;cases r';obtain⟨af,rv,sq,_⟩:=I1.seqK q1;obtain⟨ac,ae,ab,_⟩:=I1.seqK q2;refine Hb sq ab fun g h1 h2 h3 h4 h5 k=>?_;refine wpAny_pyIter_zip (s:={ s1 with heap:=g }) h1 ?_
   have I2:Inv X zk σ H1 { s1 with heap:=g }:=I1.kept (t':=s1.toks) k;obtain⟨oa,fa⟩:=sq.here;obtain⟨ob,fb⟩:=ab.here;have la:=gg fa;have lb:=gg fb;have D:ZAp (s1.heap.objs.size+4) (s1.heap.objs.size+2) (s1.heap.objs.size+3) s1.heap.objs.size (s1.heap.objs.size+1) a b:=L8 _ _ _ la lb;refine⟨_,[s1.heap.objs.size+4,s1.heap.objs.size+2,s1.heap.objs.size+3,s1.heap.objs.size,s1.heap.objs.size+1],_,_,H1,rfl,I2,JY t u _ _ _ _ _ a b D,⟨h1,h2,⟨_,_,h3⟩,h4,h5⟩,fun q hq=>?_,q⟩;have hl:s1.heap.objs.size<=q:=by
    simp only[ix,gk,or_false]at hq;exact Gi _ _ hq
   exact I1.fpOk hl (I1.hok.fresh hl)
end
def cZ:List bn->List bn->List bn
 |d::ds,e::es=>.tuple [d,e]::cZ ds es
 |_,_=>[]
theorem wF:∀(ds es:List bn) (k:Nat) (x:bn),(cZ ds es)[k]?=some x->∃d e,ds[k]?=some d/\es[k]?=some e/\x=.tuple [d,e]
 | [],_,_,_,h=>by simp[cZ]at h
 |_::_,[],_,_,h=>by simp[cZ]at h
 |d::ds,e::es,0,x,h=>by
  have e':cr [d,e]=x:=by simpa[cZ]using h
  exact⟨d,e,rfl,rfl,e'.symm⟩
 |d::ds,e::es,k+1,x,h=>by
  obtain⟨d',e',h1,h2,h3⟩:=wF ds es k x (by simpa[cZ]using h);exact⟨d',e',by simpa using h1,by simpa using h2,h3⟩
theorem EI:∀(ds es:List bn),(cZ ds es).length=min ds.length es.length
 | [],_=>by simp[cZ]
 |_::_,[]=>by simp[cZ]
 |d::ds,e::es=>by simp[cZ,EI ds es];try omega
theorem h9{α β:Type}(f:α->bn)(g:β->bn):∀(xs:List α) (ys:List β),cZ (xs.map f) (ys.map g)=(xs.zip ys).map fun q=>.tuple [f q.1,g q.2]
 | [],_=>by simp[cZ]
 |_::_,[]=>by simp[cZ]
 |x::xs,y::ys=>by simp[cZ,h9 f g xs ys]
def eL(a:DA):DI:=fun δ S R=>a δ S fun xs S1=>arg2 xs fun x y=>∃ds,eZ x=some ds/\∃es,eZ y=some es/\R (cZ ds es) S1
theorem D9{K:cy}{h o:List Addr}{H:Hp}{x:XV}{v:V}{ds:List bn}(e:eZ x=some ds)(q:HasX h o H x v):∃t a ws,v=.ref a/\HasL (vx h o H) ds ws/\∀{o2 H2},ExH h o H o2 H2->SqV K t H2 a ws:=by
 unfold eZ at e;split at e
 ·cases e;obtain⟨a,ws,rfl,ea,l⟩:=f8.mp (show Has (vx h o H) (.list ds) v from q);exact⟨false,a,ws,rfl,l,fun e2=>(SqL.of (cF _ _ (e2.vx _ _ ea)):SqL K _ a ws)⟩
 ·cases e;obtain⟨a,ws,rfl,ea,l⟩:=eQ.mp (show Has (vx h o H) (.tuple ds) v from q);exact⟨true,a,ws,rfl,l,fun e2=>(SqT.of (cF _ _ (e2.vx _ _ ea)):SqT K _ a ws)⟩
 ·cases e
theorem kJ{K:cy}{ta:TA}{da:DA}(ha:RA ta da):RI (C4 K ta) (eL da):=fun h o H δ σ S R Q he hs q c=>
 ha h o H δ σ S _ _ he hs q fun o1 H1 S1 xs vs e1 s1 x1 d0=>by
  obtain⟨x,y,rfl,ds,hd,es,af,d1⟩:=w4 d0;obtain⟨v,u,rfl,hv,hu⟩:=hxs2 x1;obtain⟨t,a,ws,rfl,l,k1⟩:=D9 (K:=K) hd hv;obtain⟨t',b,zs,rfl,l',k2⟩:=D9 (K:=K) af hu;have hl:=l.length;have ag:=l'.length;refine⟨a,b,t,t',rfl,⟨ws,k1 ExH.refl⟩,⟨zs,k2 ExH.refl⟩,c o1 H1 S1 _ _ e1 s1 ⟨fun i o2 H2 e2 hi=>⟨ws,zs,k1 e2,k2 e2,by rw[EI]at hi;omega⟩,fun i d o2 H2 e2 hi=>?_,fun i d o2 H2 x H3 S2 e2 s2 hi y=>?_⟩ d1⟩
  ·obtain⟨d',e',h1,h2,rfl⟩:=wF ds es i d hi;obtain⟨u1,ab,_⟩:=l.get h1;obtain⟨u2,aa,_⟩:=l'.get h2;exact⟨ws,zs,u1,u2,k1 e2,k2 e2,ab,aa⟩
  ·obtain⟨d',e',h1,h2,rfl⟩:=wF ds es i d hi;obtain⟨u1,ab,ae⟩:=l.get h1;obtain⟨u2,aa,ac⟩:=l'.get h2;obtain⟨p,v,u,hp,rfl,rfl,y1,y2⟩:=y;have f1:=y1 ws (k1 e2);have f2:=y2 zs (k2 e2);rw[ab]at f1;rw[aa]at f2;cases f1;cases f2;exact⟨Same.laid hp,eQ.mpr ⟨p,_,rfl,s2.laid hp,zG.mpr ⟨_,_,rfl,(ae.mono e2.vx).mono (l5 (Same.laid hp)),zG.mpr ⟨_,_,rfl,(ac.mono e2.vx).mono (l5 (Same.laid hp)),zR.mpr rfl⟩⟩⟩⟩
end
section
open Sem (wp)
section
variable {prog:gc}{w:gy}{A:ip}{R:Result->bq->Prop}{I:Addr}{fp wr:List Addr}{n:Nat}{P:Nat->bp->Prop}{St:Nat->Heap->Prop}
def CmpH(prog:gc)(w:gy)(A:ip)(g:Heap)(q:List Addr)(P:Nat->bp->Prop)(bt:Nat->Nat->Bool):Prop:=
 ∀i j x y (s:bq) (Q:bp->bq->Prop) (E:bp->bq->Prop),(∀b o,b∉q->g.get? b=some o->s.heap.get? b=some o)->P i x->P j y->Q (.bool (bt i j)) s->dh (model prog w) A (richCompare .Lt x y) Q E s
theorem HS(W:Walks prog w A.in1 I fp wr n P St)(bt:Nat->Nat->Bool){g:Heap}(S:Addr)(cm:CmpH prog w A.in1 g (S::wr) P bt)(nS:S∉fp):∀(d j:Nat) (s:bq) (q:bp) (c:Nat),n=j+1+d->(∀b o,b∉S::wr->g.get? b=some o->s.heap.get? b=some o)->St (j+1) s.heap->P (on bt j) q ->
   s.heap.get? S=some { cls:=.type "list",dict:=none,data:=.seq #[q,q] c,slots:=#[] } ->
   (∀v h' tk,P (on bt (n-1)) v->(∀b o,b∉S::wr->s.heap.get? b=some o->h'.get? b=some o)->R (.ok (.ret v)) { s with heap:=h',toks:=tk })->codeAny (model prog w) A (.builtin "min.loop" ⟨[.ref I,.none,.ref S],[]⟩) R s:=by
 have nw:S∉wr:=fun m=>nS (W.sub _ m);have nm:(toString "min" ++ toString ".loop":String) = "min.loop":=by decide
 intro d;induction d with
 |zero=>
  intro j s q c hd kg st hb hS fin;have hj:j+1=n:=yw
  refine rf F.entry_min_loop ?_;rw[oh ly _];show dh _ A.in1 (seqItems? (.ref S) >>= _) _ _ s;refine bo (jy hS rfl ?_);show dh _ A.in1 (tryCatch (pyNext (.ref I)) _ >>= _) _ _ s;refine bo (wpAny_tryCatch (W.done s _ _ (by rw[<- hj];exact st) fun h1 t1 k1=>?_));have aa:=k1 S _ nw hS;show dh _ A.in1 (updateSeq S (fun _=>#[]) >>= _) _ _ _;refine bo (wpAny_updateSeq aa rfl (bo (rp (cq (fin q _ t1 (by rw[<- hj];exact hb) fun b o hn e=>?_)))));rw[ix,not_or]at hn;exact(lq _ _ (jg hn.1)).trans (k1 b o hn.2 e)
 |succ d ih=>
  intro j s q c hd kg st hb hS fin;refine rf F.entry_min_loop ?_;rw[oh ly _];show dh _ A.in1 (seqItems? (.ref S) >>= _) _ _ s;refine bo (jy hS rfl ?_);show dh _ A.in1 (tryCatch (pyNext (.ref I)) _ >>= _) _ _ s;refine bo (wpAny_tryCatch (W.item (j+1) s _ _ yw st fun x h1 t1 hx ac k1=>?_));have aa:=k1 S _ nw hS;have ab:∀b o,b∉S::wr->g.get? b=some o->h1.get? b=some o:=fun b o hn e=>k1 b o (fun m=>hn (cu _ m)) (kg b o hn e);show dh _ A.in1 (tryCatch (holding [x,x] (richCompare .Lt x q >>= _)) _ >>= _) _ _ _;refine bo (wpAny_tryCatch (km (bo (cm (j+1) (on bt j) x q _ _ _ ab hx hb (bo (km (ja (bo (rp (cq ?_)))))))))) ;cases ht:bt (j+1) (on bt j)with
  |true=>
   simp only[if_true];refine bo (wpAny_updateSeq aa rfl (bo (rp ?_)));rw[nm];have keep:∀b o,b∉S::wr->s.heap.get? b=some o->(h1.update S (ic fun _=>#[x,x])).get? b=some o:=fun b o hn e=>by
    rw[ix,not_or]at hn;exact(lq _ _ (jg hn.1)).trans (k1 b o hn.2 e)
   refine cq ⟨qy ly _,ih (j+1) _ x _ yw (fun b o hn e=>keep b o hn (kg b o hn e)) (W.frame _ _ _ ac fun b m o e=>?_) (by simp only[on,ht,if_true];exact hx) (get?_update_self _ aa rfl) fun v h2 t2 hv k2=>fin v h2 t2 hv fun b o hn e=>k2 b o hn (keep b o hn e)⟩;exact(lq _ _ (fun z:S=b=>nS (by rw[z];exact m))).trans e
  |false=>
   simp only[fg,if_false];refine bo (rp ?_);rw[nm];exact cq ⟨qy ly _,ih (j+1) _ q c yw ab ac (by simp only[on,ht,fg,if_false];exact hb) aa fun v h2 t2 hv k2=>fin v h2 t2 hv fun b o hn e=>k2 b o hn (k1 b o (fun m=>hn (cu _ m)) e)⟩
theorem Hx(W:Walks prog w A.in1 I fp wr n P St)(bt:Nat->Nat->Bool)(S:Addr)(nS:S∉fp)(hn:0<n){s:bq}{c:Nat}(cm:CmpH prog w A.in1 s.heap (S::wr) P bt)(st:St 0 s.heap)(hS:s.heap.get? S=some { cls:=.type "list",dict:=none,data:=.seq #[] c,slots:=#[] })
  (fin:∀v h' tk,P (on bt (n-1)) v->(∀b o,b∉S::wr->s.heap.get? b=some o->h'.get? b=some o)->R (.ok (.ret v)) { s with heap:=h',toks:=tk }):codeAny (model prog w) A (.builtin "min.loop" ⟨[.ref I,.none,.ref S],[]⟩) R s:=by
 have nw:S∉wr:=fun m=>nS (W.sub _ m);have nm:(toString "min" ++ toString ".loop":String) = "min.loop":=by decide
 refine rf F.entry_min_loop ?_;rw[oh ly _];show dh _ A.in1 (seqItems? (.ref S) >>= _) _ _ s;refine bo (jy hS rfl ?_);show dh _ A.in1 (tryCatch (pyNext (.ref I)) _ >>= _) _ _ s;refine bo (wpAny_tryCatch (W.item 0 s _ _ hn st fun x h1 t1 hx aa k1=>?_));have q:=k1 S _ nw hS;show dh _ A.in1 (updateSeq S (fun _=>#[x,x]) >>= _) _ _ _;refine bo (wpAny_updateSeq q rfl ?_);rw[nm];have keep:∀b o,b∉S::wr->s.heap.get? b=some o->(h1.update S (ic fun _=>#[x,x])).get? b=some o:=fun b o hn e=>by
  rw[ix,not_or]at hn;exact(lq _ _ (jg hn.1)).trans (k1 b o hn.2 e)
 refine cq ⟨qy ly _,HS W bt S cm nS (n-1) 0 _ x _ yw keep (W.frame _ _ _ aa fun b m o e=>?_) hx (get?_update_self _ q rfl) fun v h2 t2 hv k2=>fin v h2 t2 hv fun b o hn e=>k2 b o hn (keep b o hn e)⟩;exact(lq _ _ (fun z:S=b=>nS (by rw[z];exact m))).trans e
end
section
variable {prog:gc}{w:gy}{A:ip}{E:bp->bq->Prop}{s:bq}
theorem ID{l:Addr}{aa:Array bp}{Q:bp->bq->Prop}(hh:A.handled=none)(hl:s.heap.IsList l aa)(ac:0<aa.size)(bt:Nat->Nat->Bool)
  (cm:∀i j x y (s':bq) (Q:bp->bq->Prop) (E:bp->bq->Prop),(∀b o,s.heap.get? b=some o->s'.heap.get? b=some o)->aa[i]?=some x->aa[j]?=some y->Q (.bool (bt i j)) s'->dh (model prog w) A.in1 (richCompare .Lt x y) Q E s')
  (fin:∀v h' tk,aa[on bt (aa.size-1)]?=some v->(∀b o,s.heap.get? b=some o->h'.get? b=some o)->Q v { s with heap:=h',toks:=tk }):dh (model prog w) A (call (.builtin "min") [.ref l]) Q E s:=by
 have nm:(toString "min" ++ toString ".loop":String) = "min.loop":=by decide
 have lt:l<s.heap.objs.size:=by obtain⟨o,e,_⟩:=hl;exact gg e
 refine call_function_tree F.kind_min F.plain_min F.entry_min (F.args_min1 _) ?_;show dh _ A.in1 (Builtin.Builtins.bindParams "min" ["key","default"] 0 ⟨[],[]⟩ >>= _) _ _ s;refine bo (wpAny_of_eq (show Builtin.Builtins.bindParams "min" ["key","default"] 0 ⟨[],[]⟩=pure [none,none]from rfl) (bo (cq (bo (qr hl ?_)))));refine bo (ko ?_);rw[nm];have z1:(s.heap.push { cls:=.type "list_iterator",data:=.fields #[.ref l,.int 0 0] }).objs.size=s.heap.objs.size+1:=size_push ..;have nS:(s.heap.push { cls:=.type "list_iterator",data:=.fields #[.ref l,.int 0 0] }).objs.size∉[s.heap.objs.size,l]:=by
  rw[z1];simp only[ix,gk,or_false,not_or];exact⟨Nat.succ_ne_self _,ne_of_gt (jx lt)⟩
 have up:∀b o,s.heap.get? b=some o->((s.heap.push { cls:=.type "list_iterator",data:=.fields #[.ref l,.int 0 0] }).push { cls:=.type "list",data:=.seq #[] }).get? b=some o:=fun b o e=>cp _ (cp _ e);have ab:∀b o,s.heap.get? b=some o->b∉(s.heap.push { cls:=.type "list_iterator",data:=.fields #[.ref l,.int 0 0] }).objs.size :: [s.heap.objs.size]:=fun b o e=>by
  rw[z1];simp only[ix,gk,or_false,not_or];have:=gg e;exact⟨ig (jx this),ig this⟩
 refine cq ⟨qy ly _,Hx (Walks.list (A:=A.in1) hh _ l (ig lt) aa) bt _ nS ac (fun i j x y s' Q' E' k hi hj q=>cm i j x y s' Q' E' (fun b o e=>k b o (ab b o e) (up b o e)) hi hj q) ?_ (fj _ rfl) fun v h' tk hv k=>fin v h' tk hv fun b o e=>k b o (ab b o e) (up b o e)⟩;exact⟨⟨_,cp _ (fj _ rfl),rfl,rfl⟩,(hl.push _).push _⟩
end
def Dh(K:cy):List V->Hp->VK->Prop:=fun xs H Q=>∃(p:Addr) (vs:List V) (nss:List (List Int)),xs=[.ref p]/\SqL K H p vs/\vs≠[]/\Paired (fun(v:V) (ns:List Int)=>∃a,v=.ref a/\H a=some (.tup (ns.map V.int))) vs nss /\
 ∀(i:Nat) v ns,vs[i]?=some v->nss[i]?=some ns->(∀ms∈nss,HT.lexLt ms ns=false)->Q v H
theorem Bl{ns:Nat->List Int}(tr:∀a b c:List Int,HT.lexLt a b=false->HT.lexLt b c=false->HT.lexLt a c=false)(as:∀a b:List Int,HT.lexLt a b=true->HT.lexLt b a=false):∀k,on (fun i j=>HT.lexLt (ns i) (ns j)) k<=k/\∀j,j<=k->HT.lexLt (ns j) (ns (on (fun i j=>HT.lexLt (ns i) (ns j)) k))=false
 | 0=>⟨ff _,fun j hj=>by
   have:j=0:=yw
   subst this;show HT.lexLt (ns 0) (ns 0)=false;cases h:HT.lexLt (ns 0) (ns 0)with
   |false=>rfl
   |true=>have:=as _ _ h;rw[h]at this;cases this⟩
 |k+1=>by
  obtain⟨h1,h2⟩:=Bl tr as (ns:=ns) k;simp only[on];by_cases hb:HT.lexLt (ns (k+1)) (ns (on (fun i j=>HT.lexLt (ns i) (ns j)) k))=true
  ·rw[cg hb];refine⟨ff _,fun j hj=>?_⟩;by_cases e:j=k+1
   ·subst e;cases h:HT.lexLt (ns (k+1)) (ns (k+1))with
    |false=>rfl
    |true=>have:=as _ _ h;rw[h]at this;cases this
   ·exact tr _ _ _ (h2 j yw) (as _ _ hb)
  ·rw[cf hb];refine⟨yw,fun j hj=>?_⟩;by_cases e:j=k+1
   ·subst e;exact Bool.eq_false_iff.mpr hb
   ·exact h2 j yw
theorem DZ:∀a b:List Int,HT.lexLt a b=true->HT.lexLt b a=false
 | [],[],h=>by cases h
 | [],y::ys,_=>rfl
 |x::xs,[],h=>by cases h
 |x::xs,y::ys,h=>by
  rw[HT.lexLt_cons]at h ⊢;by_cases e:x=y
  ·subst e;rw[cg rfl]at h ⊢;exact DZ xs ys h
  ·rw[cf e]at h;rw[cf (jg e)];simp only[decide_eq_true_eq]at h;simp only[decide_eq_false_iff_not];omega
theorem Bj:∀a b c:List Int,HT.lexLt a b=false->HT.lexLt b c=false->HT.lexLt a c=false
 |_,_,[],_,_=>by rename_i a b _ _;cases a<;>rfl
 | [],[],z::zs,_,h=>by cases h
 | [],y::ys,z::zs,h,_=>by cases h
 |x::xs,[],z::zs,_,h=>by cases h
 |x::xs,y::ys,z::zs,h,k=>by
  rw[HT.lexLt_cons]at h k ⊢;by_cases e:x=y
  ·subst e;rw[cg rfl]at h;by_cases e2:x=z
   ·subst e2;rw[cg rfl]at k ⊢;exact Bj xs ys zs h k
   ·rw[cf e2]at k ⊢;exact k
  ·rw[cf e]at h;by_cases e2:y=z
   ·subst e2;rw[cf e];exact h
   ·rw[cf e2]at k;simp only[decide_eq_false_iff_not]at h k;rw[cf yw];simp only[decide_eq_false_iff_not];omega
theorem GO{X:Cx}(hc:X.calm=true)(hu:X.A.units+64<qt):CallR X (.builtin "min") (Dh X.K):=by
 intro zk s σ H xs us Q I r h;obtain⟨p,vs,aa,rfl,hq,af,pr,q⟩:=h;obtain⟨u,rfl,rx⟩:=vals1 r;cases (show u=ga p from rx);obtain⟨ab,rv,pl,_⟩:=I.list hq;have hl:=rv.length;have ai:=Paired.length pr;have hsz:0<ab.toArray.size:=by
  rw[fh,<- hl];exact List.length_pos_iff.mpr af
 have ac:∀(i:Nat) x,ab.toArray[i]?=some x->∃(v:V) (ns:List Int),vs[i]?=some v/\aa[i]?=some ns/\RelV v x/\∃a,v=.ref a/\H a=some (.tup (ns.map V.int)):=fun i x hx=>by
  have hi:i<ab.length:=by
   have:=(Array.getElem?_eq_some_iff.mp hx).1;simpa using this
  have e1:vs[i]?=some vs[i]:=cn yw;have e2:aa[i]?=some aa[i]:=cn yw;obtain⟨x',ae,rr⟩:=rv.get e1;have:x=x':=by
   have h2:ab[i]?=some x:=by simpa using hx
   rw[ae]at h2;exact(gh h2).symm
  subst this;have pg:∀{a:List V}{b:List (List Int)}{i:Nat}{v:V}{ns:List Int},Paired (fun(v:V) (ns:List Int)=>∃a,v=.ref a/\H a=some (.tup (ns.map V.int))) a b->a[i]?=some v->b[i]?=some ns->∃a,v=.ref a/\H a=some (.tup (ns.map V.int)):=by
   intro a b i v ns pq;induction pq generalizing i with
   |nil=>intro h;simp at h
   |cons r0 _ ih=>
    cases i with
    |zero=>
     intro h1 h2;rw[qb]at h1 h2;cases h1;cases h2;exact r0
    |succ i=>
     intro h1 h2;rw[qc]at h1 h2;exact ih h1 h2
  exact⟨_,_,e1,e2,rr,pg pr e1 e2⟩
 refine ID (I.ok.hd hc) pl.isList hsz (fun i j=>HT.lexLt (aa.getD i []) (aa.getD j [])) (fun i j x y s' Q' E' k hx hy q'=>?_) fun v h' tk hv k=>?_
 ·obtain⟨v1,n1,_,f1,r1,a1,rfl,e1⟩:=ac i x hx;obtain⟨v2,n2,_,f2,r2,a2,rfl,e2⟩:=ac j y hy;cases r1;cases r2;obtain⟨_,ah,w1,t1⟩:=(show ObjOk X.prog X.w H s.heap a1 (.tup (n1.map V.int))from I.hok a1 _ e1);obtain⟨_,aj,w2,t2⟩:=(show ObjOk X.prog X.w H s.heap a2 (.tup (n2.map V.int))from I.hok a2 _ e2);have g1:aa.getD i []=n1:=by rw[fu,f1];rfl
  have g2:aa.getD j []=n2:=by rw[fu,f2];rfl
  rw[g1,g2]at q';obtain⟨o1,b1,c1⟩:=t1;obtain⟨o2,b2,c2⟩:=t2;exact HT.lt_tupInts ⟨o1,k _ _ b1,c1⟩ ⟨o2,k _ _ b2,c2⟩ (fT w1) (fT w2) (by show X.A.units+1<qt;omega) q'
 ·obtain⟨v1,n1,e1,f1,r1,_⟩:=ac _ v hv;obtain⟨_,h2⟩:=Bl (ns:=fun i=>aa.getD i []) Bj DZ (ab.toArray.size-1);refine⟨v1,H,I.kept (t':=tk) k,r1,q _ v1 n1 e1 f1 fun ms hm=>?_⟩;obtain⟨j,hj⟩:=mem_iff_getElem?.mp hm;have ag:=(List.getElem?_eq_some_iff.mp hj).1;have:=h2 j (by rw[fh];omega);rw[show aa.getD j []=ms by rw[fu,hj];rfl]at this;rw[show aa.getD (on (fun i j=>HT.lexLt (aa.getD i []) (aa.getD j [])) (ab.toArray.size-1)) []=n1 by rw[fu,f1];rfl]at this;exact this
def Ah(K:cy):List V->Hp->VK->Prop:=fun xs H Q=>xC K xs H Q\/Dh K xs H Q
theorem GI{X:Cx}(hc:X.calm=true)(hu:X.A.units+64<qt):CallR X (.builtin "min") (Ah X.K):=(FN hc).or (GO hc hu)
def fK(ns:List Int):bn:=.tuple (ns.map bw)
def vQ:List XV->Sto->RX->Prop:=fun xs S R=>CP xs S R\/arg1 xs fun x=>∃ds,fV S x=some ds/\∃nss:List (List Int),ds=nss.map fK/\nss≠[]/\∀m,m∈nss->(∀a,a∈nss->HT.lexLt a m=false)->R (.d (fK m)) S
theorem G7{K:cy}:RC (Ah K) vQ:=fun h o H S xs vs R Q hs hx q c=>by
 rcases q with q|q
 ·exact .inl (JO h o H S xs vs R Q hs hx q c)
 ·obtain⟨x,rfl,ds,hd,aa,rfl,hn,q1⟩:=dD q;obtain⟨v,rfl,ab⟩:=hxs1 hx;obtain⟨a,ws,rfl,ea,l⟩:=c8 hs hd ab;have hl:=l.length;refine .inr ⟨a,ws,aa,rfl,.of ea,fun z=>hn ?_,?_,fun i v ns e1 e2 hm=>?_⟩
  ·subst z;rw[fw]at hl;exact iy hl.symm
  ·have go:∀{aa:List (List Int)}{ws:List V},HasL (vx h o H) (aa.map fK) ws->Paired (fun(v:V) (ns:List Int)=>∃a,v=.ref a/\H a=some (.tup (ns.map V.int))) ws aa:=by
    intro aa;induction aa with
    |nil=>intro ws l;rw[zR.mp l];exact .nil
    |cons n aa ih=>
     intro ws l;obtain⟨v,r,rfl,h1,l2⟩:=zG.mp l;obtain⟨b,us,rfl,eb,lb⟩:=eQ.mp h1;rw[jB lb]at eb;exact .cons ⟨b,rfl,cF _ _ eb⟩ (ih l2)
   exact go l
  ·obtain⟨v',ev,hv⟩:=l.get (show (aa.map fK)[i]?=some (fK ns) by rw[im,e2];rfl);rw[e1]at ev;cases ev;exact c o H S (.d (fK ns)) v Ex.refl hs hv (q1 ns (bu e2) hm)
theorem HC:RE (wU DP) (dC (.dict [])):=fun h o H δ σ S R Q he hs q c p hp=>⟨p,[],rfl,dM,fun ob=>by
 have e:upd (upd H p (.dK [])) p (.frz ob (.dK []))=upd H p (.frz ob (.dK [])):=E9;rw[e];refine c o _ S (.d (.dict [])) _ (Ex.of_same (Same.laid hp)) (hs.same (Same.laid hp)) ?_ q;show Has _ _ _;simp only[Has];exact⟨p,[],rfl,.inl ⟨ob,[],hs.laid hp,rfl,rfl⟩,C9.mpr rfl⟩⟩
section
variable {S:Sto}{P:Sto->List bn->Prop}{a b c d:List bn}{x:List bn}
theorem iS{S0:Sto}:(∃T ds,S0++[x]=T++[ds]/\P T ds)↔P S0 x:=by
 constructor
 ·rintro⟨T,ds,e,q⟩;obtain⟨rfl,e2⟩:=List.append_inj' e rfl;cases e2;exact q
 ·exact fun q=>⟨S0,x,rfl,q⟩
theorem pH:(∃T ds,[a]=T++[ds]/\P T ds)↔P [] a:=iS (S0:=[])
theorem oN:(∃T ds,[a,b]=T++[ds]/\P T ds)↔P [a] b:=iS (S0:=[a])
theorem n5:(∃T ds,[a,b,c]=T++[ds]/\P T ds)↔P [a,b] c:=iS (S0:=[a,b])
end
section
variable {α:Type}{n:Nat}{g:DG}{tt:DT}{te:DE}{fin:Sto->Prop}{S0:Sto}{caps:XE}
theorem Ci{h:α->bn}{f:α->bn}(P:XE->Prop)(hn:S0.length=n)(l:List α)(τ:XE)(hP:P τ)(hl:l.length<=1000)
  (el:∀x∈l,∀ τ acc (R:XE->RX),P τ->(∀ τ',P τ'->R τ' (.d (f x)) (S0++[acc]))->g (.d (h x)) τ (S0++[acc]) fun τ1 S1=>te τ1 S1 (R τ1)) (hf:fin (S0++[l.map f])):bE n g aG te fin (l.map h) τ (S0++[[]]):=by
 have go:∀(l:List α) (acc:List bn) (τ:XE),P τ->acc.length+l.length<=1000->(∀x∈l,∀ τ acc (R:XE->RX),P τ->(∀ τ',P τ'->R τ' (.d (f x)) (S0++[acc]))->g (.d (h x)) τ (S0++[acc]) fun τ1 S1=>te τ1 S1 (R τ1)) ->
   fin (S0++[acc++l.map f])->bE n g aG te fin (l.map h) τ (S0++[acc]):=by
  intro l;induction l with
  |nil=>intro acc τ _ _ _ h;rw[map_nil,kn]at h;exact h
  |cons x l ih=>
   intro acc τ hP hl el hh;show g (.d (h x)) τ (S0++[acc]) fun τ1 S1=>aG τ1 S1 fun b S2=>if b=true then te τ1 S2 fun x S3=>asD x fun e=>∃acc,S3[n]?=some acc/\acc.length<1000/\bE n g aG te fin (l.map h) τ1 (S3.set n (acc++[e]))else bE n g aG te fin (l.map h) τ1 S2
   simp only[aG,↓reduceIte];rw[ft]at hl;refine el x df τ acc (fun τ1 x S3=>asD x fun e=>∃acc,S3[n]?=some acc/\acc.length<1000/\bE n g aG te fin (l.map h) τ1 (S3.set n (acc++[e]))) hP fun τ' q=>?_;refine⟨acc,by rw[<- hn,cz],yw,?_⟩;rw[mV hn];refine ih (acc++[f x]) τ' q (by rw[cx,gr];omega) (fun e m=>el e (cu _ m)) ?_;rw[gv];exact hh
 exact go l [] τ hP (by simpa using hl) el (by simpa using hf)
theorem cmp1{h:α->bn}(f:α->bn)(hn:S0.length=n)(l:List α){u:Option XV}(hl:l.length<=1000)
  (el:∀x∈l,∀(u:Option XV) acc (R:XE->RX),(∀u',R (u'::caps) (.d (f x)) (S0++[acc]))->g (.d (h x)) (u::caps) (S0++[acc]) fun τ1 S1=>te τ1 S1 (R τ1)) (hf:fin (S0++[l.map f])):bE n g aG te fin (l.map h) (u::caps) (S0++[[]]):=
 Ci (fun τ=>∃u,τ=u::caps) hn l _ ⟨u,rfl⟩ hl (fun x m τ acc R ⟨u,e⟩ k=>by subst e;exact el x m u acc R fun u'=>k _ ⟨u',rfl⟩) hf
theorem cmp2{h:α->bn}(f:α->bn)(hn:S0.length=n)(l:List α){u v:Option XV}(hl:l.length<=1000)
  (el:∀x∈l,∀(u v:Option XV) acc (R:XE->RX),(∀u' v',R (u'::v'::caps) (.d (f x)) (S0++[acc]))->g (.d (h x)) (u::v::caps) (S0++[acc]) fun τ1 S1=>te τ1 S1 (R τ1)) (hf:fin (S0++[l.map f])):bE n g aG te fin (l.map h) (u::v::caps) (S0++[[]]):=
 Ci (fun τ=>∃u v,τ=u::v::caps) hn l _ ⟨u,v,rfl⟩ hl (fun x m τ acc R ⟨u,v,e⟩ k=>by subst e;exact el x m u v acc R fun u' v'=>k _ ⟨u',v',rfl⟩) hf
theorem G0{h:α->bn}{f:α->bn}{p:α->Bool}(P:XE->Prop)(hn:S0.length=n)(l:List α)(τ:XE)(hP:P τ)(hl:l.length<=1000)
  (el:∀x∈l,∀ τ acc (R:XE->Bool->Sto->Prop),P τ->(∀ τ',P τ'->(p x=true->∀T:RX,T (.d (f x)) (S0++[acc])->te τ' (S0++[acc]) T)->R τ' (p x) (S0++[acc]))->g (.d (h x)) τ (S0++[acc]) fun τ1 S1=>tt τ1 S1 (R τ1))
  (hf:fin (S0++[(l.filter p).map f])):bE n g tt te fin (l.map h) τ (S0++[[]]):=by
 have go:∀(l:List α) (acc:List bn) (τ:XE),P τ->acc.length+l.length<=1000->(∀x∈l,∀ τ acc (R:XE->Bool->Sto->Prop),P τ->(∀ τ',P τ'->(p x=true->∀T:RX,T (.d (f x)) (S0++[acc])->te τ' (S0++[acc]) T)->R τ' (p x) (S0++[acc]))->g (.d (h x)) τ (S0++[acc]) fun τ1 S1=>tt τ1 S1 (R τ1)) ->
   fin (S0++[acc++(l.filter p).map f])->bE n g tt te fin (l.map h) τ (S0++[acc]):=by
  intro l;induction l with
  |nil=>intro acc τ _ _ _ h;rw[List.filter_nil,map_nil,kn]at h;exact h
  |cons x l ih=>
   intro acc τ hP hl el hh;show g (.d (h x)) τ (S0++[acc]) fun τ1 S1=>tt τ1 S1 fun b S2=>if b=true then te τ1 S2 fun x S3=>asD x fun e=>∃acc,S3[n]?=some acc/\acc.length<1000/\bE n g tt te fin (l.map h) τ1 (S3.set n (acc++[e]))else bE n g tt te fin (l.map h) τ1 S2
   rw[ft]at hl;refine el x df τ acc (fun τ1 b S2=>if b=true then te τ1 S2 fun x S3=>asD x fun e=>∃acc,S3[n]?=some acc/\acc.length<1000/\bE n g tt te fin (l.map h) τ1 (S3.set n (acc++[e]))else bE n g tt te fin (l.map h) τ1 S2) hP fun τ' q ev=>?_;cases hp:p x with
   |false=>
    rw[List.filter_cons_of_neg (by rw[hp];exact jh)]at hh;exact iA (ih acc τ' q yw (fun e m=>el e (cu _ m)) hh)
   |true=>
    rw[List.filter_cons_of_pos hp,fm]at hh;refine g9 (ev hp _ ⟨acc,by rw[<- hn,cz],yw,?_⟩);rw[mV hn];exact ih (acc++[f x]) τ' q (by rw[cx,gr];omega) (fun e m=>el e (cu _ m)) (by rw[gv];exact hh)
 exact go l [] τ hP (by simpa using hl) el (by simpa using hf)
theorem cmf1{h:α->bn}(f:α->bn)(p:α->Bool)(hn:S0.length=n)(l:List α){u:Option XV}(hl:l.length<=1000)
  (el:∀x∈l,∀(u:Option XV) acc (R:XE->Bool->Sto->Prop),(∀u',(p x=true->∀T:RX,T (.d (f x)) (S0++[acc])->te (u'::caps) (S0++[acc]) T)->R (u'::caps) (p x) (S0++[acc]))->g (.d (h x)) (u::caps) (S0++[acc]) fun τ1 S1=>tt τ1 S1 (R τ1)) (hf:fin (S0++[(l.filter p).map f])):bE n g tt te fin (l.map h) (u::caps) (S0++[[]]):=
 G0 (fun τ=>∃u,τ=u::caps) hn l _ ⟨u,rfl⟩ hl (fun x m τ acc R ⟨u,e⟩ k=>by subst e;exact el x m u acc R fun u' hh=>k _ ⟨u',rfl⟩ hh) hf
end
end
section
@[irreducible] def QSs (X:Cx) (st:List Stmt) (t:TS):Prop:=PSs X st t
theorem QSs.out{X:Cx}{st:List Stmt}{t:TS}(h:QSs X st t):PSs X st t:=by unfold QSs at h;exact h
theorem QSs.mk{X:Cx}{st:List Stmt}{t:TS}(h:PSs X st t):QSs X st t:=by unfold QSs;exact h
@[irreducible] def QA (X:Cx) (es:List Expr) (t:TA):Prop:=PA X es t
theorem QA.out{X:Cx}{es:List Expr}{t:TA}(h:QA X es t):PA X es t:=by unfold QA at h;exact h
theorem QA.mk{X:Cx}{es:List Expr}{t:TA}(h:PA X es t):QA X es t:=by unfold QA;exact h
theorem fA{X:Cx}:QA X [] kR:=QA.mk zd
theorem bQ{X:Cx}{e:Expr}{es:List Expr}{te:TE}{t:TA}(ha:PE X e te)(hr:QA X es t)(hs:gx (e::es) X.env=(false,eval e X.env)::gx es X.env:=by rfl):QA X (e::es) (fJ te t):=QA.mk (za ha hr.out hs)
theorem qQ{X:Cx}{es:List Expr}{t:TA}{pos:Pos}(h:QA X es t):PE X (.List es pos) (jH t):=aR h.out
@[irreducible] def QS (X:Cx) (st:Stmt) (t:TS):Prop:=PS X st t
theorem QS.out{X:Cx}{st:Stmt}{t:TS}(h:QS X st t):PS X st t:=by unfold QS at h;exact h
theorem QS.mk{X:Cx}{st:Stmt}{t:TS}(h:PS X st t):QS X st t:=by unfold QS;exact h
end
end L2
namespace HT
open PySem PyProof.Rows
section
variable {prog:gc}{w:gy}{A:ip}{E:bp->bq->Prop}{s:bq}
theorem tup_whole{t sl:Addr}{items:Array bp}{vl vu:bp}{lo hi:Option Int}{Q:bp->bq->Prop}(ht:IsTup s.heap t items)(hs:s.heap.IsSliceOf sl vl vu .none)(pl:IsPart vl lo)(pu:IsPart vu hi)
  (hw:sIx items.size 0 lo=0/\sIx items.size items.size hi=items.size) (h:Q (.ref t) s):dh (model prog w) A (getItem (.ref t) (.ref sl)) Q E s:=by
 obtain⟨os,q,aa,ac⟩:=id hs;have ab:s.TypeIs (.ref sl) "slice":=⟨os,q,aa⟩;unfold getItem
 try with_reducible refine km ?_
 first|refine bo (cq ?_)|skip
 refine bo (wpAny_sequenceKey ht.typeIs dz ?_);refine bo (kh (name:=rq "__getitem__") ht.typeIs PyProof.Rows.slot_tuple_getitem
  (kx PyProof.Rows.slot_tuple_getitem ht.typeIs entry_tuple_getitem ?_ (args_tuple_getitem _ _)))
 show dh _ _ (Builtin.Tuple.tupleItemsOf (.ref t) >>= _) _ _ s;refine bo (tupleItemsOf_ ht (bo (wpAny_typeOf ab ?_)));rw[cg dz];refine bo (BS hs pl pu ?_);rw[hw.1,hw.2];show dh _ _ (if (((0:Nat):Int)==0&&(1:Int)==1&&(items.size-0)==items.size)=true then _ else _) _ _ s;rw[cg yv];unfold Builtin.Tuple.tupleIsExact;refine bo (bo (wpAny_typeOf ht.typeIs (cq ?_)));rw[cg dz];exact bo (mn (cq ⟨_,rfl,cq h⟩))
end
end HT
namespace L2
open PySem PySem.Spec PyProof.Rows
section
section
variable {X:Cx}{e ek:Expr}{te tk:TE}{pos p2:Pos}
def EY(K:cy):V->Option Int->Option Int->Hp->VK->Prop:=fun x lo hi H Q=>∃a xs,x=.ref a/\SqT K H a xs /\
 ((HT.sIx xs.length 0 lo=0/\HT.sIx xs.length xs.length hi=xs.length)->Q (.ref a) H)/\∀p,H p=none->Q (.ref p) (upd H p (.tup (eK xs lo hi)))
theorem jK:SlR X (EY X.K):=by
 intro zk s σ H x v vl vu lo hi sl Q I rx hs pl pu h;obtain⟨a,xs,rfl,hx,hw,q⟩:=h;by_cases z:HT.sIx xs.length 0 lo=0/\HT.sIx xs.length xs.length hi=xs.length
 ·cases rx;obtain⟨ab,r,ht,hz⟩:=I.tuple hx;have aa:ab.toArray.size=xs.length:=by rw[fh];exact r.length.symm
  refine⟨"tuple",_,PyProof.Rows.slot_tuple_getitem.lookup,ht.typeIs,?_⟩;exact HT.tup_whole ht hs pl pu (by rw[aa];exact z) ⟨.ref a,H,I,rfl,hw z⟩
 ·exact Cv zk s σ H _ v vl vu lo hi sl Q I rx hs pl pu ⟨a,xs,rfl,hx,z,q⟩
end
def eI:D3:=fun x i j S R=>asT x fun ds=>R (.d (.tuple (aL ds i j))) S
theorem Gz{α:Type}(xs:List α)(lo hi:Option Int)(h:HT.sIx xs.length 0 lo=0/\HT.sIx xs.length xs.length hi=xs.length):aL xs lo hi=xs:=by
 unfold aL;rw[h.1,h.2];simp
theorem mL{K:cy}:RL (EY K) eI:=fun h o H S x v a b R Q hs hx q c=>by
 replace q:=hX q;obtain⟨ds,rfl,q⟩:=q;obtain⟨p,vs,rfl,ea,l⟩:=eW hx;refine⟨p,vs,rfl,.of ea,fun z=>?_,n8 hs (l.cut a b) c q⟩;rw[l.length]at z;rw[Gz ds a b z]at q;exact c o H S _ _ Ex.refl hs hx q
end
section
theorem Df.none{P:gc}{w:gy}{K:cy}{mg:Str->Option bp}{base:Heap}{x:Str}{st:Stmt}{ps:List Str}{k:Nat}(D:Dd K mg x st ps):Df P w K mg base x ps k (spN ps fun _ _ _=>False):=by
 obtain⟨f,fd,F,hm,hb⟩:=D.ex;have no:∀{vs H Q E},spN ps (fun _ _ _=>False) vs H Q E->False:=fun {vs H Q E} h=>by
  obtain⟨_,h,o,S,xs,R,_,_,q,_⟩:=h;exact q
 exact⟨f,fd,⟨fun _ _ _ _ h=>(no h).elim,fun _ _ _ _ _ _ _ _ _ _ _ _ _ h=>(no h).elim⟩,hm,F.kp,hb⟩
theorem Aj{r:Addr}{lo hi x:Int}{t u v tx:Tok}:Meets (Builtin.«range.__contains__» ⟨[.ref r,.int x tx],[]⟩) (fun _ R s=>IsRange s.heap r lo hi 1 t u v/\R (.ok (.ret (.bool (decide (lo<=x/\x<hi))))) s):=by
 rintro prog w A R s ⟨hr,q⟩;have e:(Builtin.Range.rangePlace? lo hi 1 x).isSome=decide (lo<=x/\x<hi):=by
  unfold Builtin.Range.rangePlace?;by_cases h:lo<=x/\x<hi
  ·simp[h]
  ·simp[h]
 rw[<- e]at q;obtain⟨hp,g,d,tk,os⟩:=s
 wp_walk using AutoSeq1.wpAny_loadPart' hr
 exact q
def AG(k:Bool):CmpOp:=if k=true then .NotIn else .In
theorem LJ{prog:gc}{w:gy}{A:ip}{E:bp->bq->Prop}{s:bq}{r:Addr}{lo hi x:Int}{t u v tx:Tok}{Q:bp->bq->Prop}{k:Bool}(hr:IsRange s.heap r lo hi 1 t u v)
  (h:Q (.bool (if k=true then !decide (lo<=x/\x<hi)else decide (lo<=x/\x<hi))) s):dh (model prog w) A (jt (AG k) (.int x tx) (.ref r)) Q E s:=by
 cases k with
 |false=>exact SeqRoads2.in_meets ⟨_,hr,rfl⟩ F.slot_range_contains F.entry_range_contains (F.args_range_contains_2 _ _) (Aj (t:=t) (u:=u) (v:=v)) ⟨hr,_,rfl,h⟩
 |true=>exact SeqRoads2.notIn_meets ⟨_,hr,rfl⟩ F.slot_range_contains F.entry_range_contains (F.args_range_contains_2 _ _) (Aj (t:=t) (u:=u) (v:=v)) ⟨hr,_,rfl,h⟩
def A3(vs:List V)(a b:Int):Prop:=(vs=[.int b]/\a=0)\/vs=[.int a,.int b]
def x9(k:Bool)(ta:TE)(tb:TA):TE:=fun σ H Q=>ta σ H fun x H1=>tb σ H1 fun ys H2=>∃i a b:Int,x=.int i/\A3 ys a b/\Q (.bl (if k=true then !decide (a<=i/\i<b)else decide (a<=i/\i<b))) H2
section
variable {X:Cx}{l e e':Expr}{es:List Expr}{ta:TE}{tb:TA}{p pos pos':Pos}{k:Bool}
theorem Ip{zk:List (Addr×Obj)}{s:bq}{σ:St}{H:Hp}{Q:bp->bq->Prop}{vs:List V}{us:List bp}{a b:Int}(I:Inv X zk σ H s)(r:Vals vs us)(h:A3 vs a b)
  (q:∀(r:Addr) (t u v:Tok) (s':bq),IsRange s'.heap r a b 1 t u v->Inv X zk σ H s'->Q (.ref r) s'):dh (model X.prog X.w) X.A (call (.type "range") us) Q X.xe s:=by
 rcases h with ⟨rfl,rfl⟩|rfl
 ·cases r with
  |cons r rr=>
   cases rr;obtain⟨t,rfl⟩:=r;exact call_range_1 (q _ _ _ _ _ (IsRange.new ..) (I.kept fun b o e=>cp _ e))
 ·cases r with
  |cons r rr=>
   cases rr with
   |cons r' rr=>
    cases rr;obtain⟨t,rfl⟩:=r;obtain⟨t',rfl⟩:=r';exact call_range_2 (q _ _ _ _ _ (IsRange.new ..) (I.kept fun b o e=>cp _ e))
theorem KF{zk:List (Addr×Obj)}{s:bq}{σ:St}{H:Hp}{Q:VK}(hg:Gl X "range")(hm:X.mg "range" = none)(ha:PE X l ta)(hb:PA X [e] tb)(hs:gx [e] X.env=[(false,eval e X.env)])(I:Inv X zk σ H s)(h:x9 k ta tb σ H Q):
  dh (model X.prog X.w) X.A (eval l X.env) (fun a s1=>dh (model X.prog X.w) X.A (eval (.Call (.Name "range" p) [e] [] pos) X.env) (fun b s2=>dh (model X.prog X.w) X.A (jt (AG k) a b) (EP X zk σ Q) X.xe s2) X.xe s1) X.xe s:=by
 refine thn (ha zk s σ H _ I h) fun a s1 ⟨x,H1,I1,r1,q1⟩=>?_;refine Call_ (lI I1 hg hm boot_range (PyProof.Rows.callWith_type1 (thn (hb pos zk s1 σ H1 _ I1 q1) fun us s2 ⟨vs,H2,I2,r2,q2⟩=>?_) hs rfl));obtain⟨i,n,m,rfl,hv,q⟩:=q2;obtain⟨tx,rfl⟩:=r1;exact Ip I2 r2 hv fun r t u v s' ir I3=>LJ ir ⟨.bl _,H2,I3,rfl,q⟩
theorem EB(k:Bool){op:CmpOp}(hg:Gl X "range")(hm:X.mg "range" = none)(ha:PE X l ta)(hb:PA X [e] tb)(ho:op=AG k:=by rfl)(hs:gx [e] X.env=[(false,eval e X.env)]:=by rfl)(hk:behindInMarks op (.Call (.Name "range" p) [e] [] pos)=false:=by rfl):
  PT X (.Compare l [op] [.Call (.Name "range" p) [e] [] pos] pos') (pW (x9 k ta tb)):=by
 subst ho;intro zk s σ H Q I h;refine wpAny_isTrue_Compare1 (thn (KF (Q:=fun x H'=>∃k,x=.bl k/\Q k H') hg hm ha hb hs I h) fun a s1 q1=>thn q1 fun b s2 q2=>thn q2 fun c s3 ⟨z,H3,I3,r3,k,e,q3⟩=>?_) hk;subst e;cases r3;exact ja ⟨H3,I3,q3⟩
end
def i7(k:Bool)(a:DE)(b:DA):DE:=fun δ S R=>a δ S fun x S1=>b δ S1 fun ys S2=>asI x fun i=>arg1 ys fun y=>asI y fun n=>R (.d (.bool (if k=true then !decide (0<=i/\i<n)else decide (0<=i/\i<n)))) S2
theorem GF{k:Bool}{ta:TE}{da:DE}{tb:TA}{db:DA}(ha:RE ta da)(hb:RA tb db):RE (x9 k ta tb) (i7 k da db):=fun h o H δ σ S R Q he hs q c=>
 ha h o H δ σ S _ _ he hs q fun o1 H1 S1 x v e1 s1 x1 d1=>hb h o1 H1 δ σ S1 _ _ (he.mono e1) s1 d1 fun o2 H2 S2 ys us e2 s2 y2 d2=>by
  obtain⟨i,rfl,d3⟩:=cV d2;obtain⟨y,rfl,d4⟩:=dD d3;obtain⟨n,rfl,d5⟩:=cV d4;obtain⟨u,rfl,hu⟩:=hxs1 y2;refine⟨i,0,n,cU (x1.mono e2),.inl ⟨by rw[cU hu],rfl⟩,c o2 H2 S2 _ _ (e1.trans e2) s2 (xB _) d5⟩
end
section
@[irreducible] def QE (X:Cx) (e:Expr) (t:TE):Prop:=PE X e t
theorem QE.out{X:Cx}{e:Expr}{t:TE}(h:QE X e t):PE X e t:=by unfold QE at h;exact h
theorem QE.mk{X:Cx}{e:Expr}{t:TE}(h:PE X e t):QE X e t:=by unfold QE;exact h
theorem tD{X:Cx}{es:List Expr}{t:TA}{k:Nat}{pos:Pos}(h:QA X es t):QE X (.Tuple es k pos) (xP t):=QE.mk (zU h.out)
theorem ET{X:Cx}{es:List Expr}{t:TA}{pos:Pos}(h:QA X es t):QE X (.List es pos) (jH t):=QE.mk (aR h.out)
section
variable {X:Cx}{es l l':List Expr}{te:TE}{t:TA}{k:Nat}{p:Pos}{c:Const}{x:Str}{ks:List (Option Expr)}
theorem uC(ha:QE X (.Tuple l k p) te)(hr:QA X es t):QA X (.Tuple l k p::es) (fJ te t):=QA.mk (za ha.out hr.out rfl)
theorem Ei(ha:QE X (.List l p) te)(hr:QA X es t):QA X (.List l p::es) (fJ te t):=QA.mk (za ha.out hr.out rfl)
theorem yV(ha:QE X (.Constant c k p) te)(hr:QA X es t):QA X (.Constant c k p::es) (fJ te t):=QA.mk (za ha.out hr.out rfl)
theorem Fl(ha:QE X (.Dict [] [] p) te)(hr:QA X es t):QA X (.Dict [] [] p::es) (fJ te t):=QA.mk (za ha.out hr.out rfl)
end
theorem Hg{X:Cx}{st:Stmt}{rest:List Stmt}{t u:TS}(h1:PS X st t)(h2:QSs X rest u):PSs X (st::rest) (e9 t u):=zf h1 h2.out
theorem LI{X:Cx}{st:Stmt}{t:TS}(h1:QS X st t):QSs X [st] t:=QSs.mk (zn h1.out)
theorem KD{X:Cx}{K:cy}{es:List Expr}{t8:TA}{scope:Scope}{cl:List (Str×Addr)}{N:List Str}{caps:List (Option Nat)}{elt tg:Expr}{te:TE}{g:TG}{a b:List Stmt}{ta tb:TS}{p1 p2 p3 p4 pc pl:Pos}(h8:QA X es t8)(hx:∀e s,X.xe e s->False)(hc:X.calm=true)(c:CompOk X scope cl N caps)
  (hg:∀C s H fp,PG (c0 X scope cl C s H fp N) tg g) (he:∀C s H fp,PE (c0 X scope cl C s H fp N) elt te) (hgl:Gl X "all") (hm:X.mg "all" = none) (ha:PSs X a ta) (hb:PSs X b tb) (hK:X.K=K)
  (q1:gx [.ListComp elt [⟨tg,.List es pl,[],0⟩] scope pc] X.env=[(false,eval (.ListComp elt [⟨tg,.List es pl,[],0⟩] scope pc) X.env)]):
  QS X (.If (.UnaryOp .Not (.Call (.Name "all" p1) [.ListComp elt [⟨tg,.List es pl,[],0⟩] scope pc] [] p2) p3) a b p4)
   (uF (AA fun σ H Q=>tCB (xE K) (fJ (lM caps (xY K (jH t8)) g vR te) kR) σ H fun x H'=>∃k,TruV K x H' k/\Q k H') ta tb):=by
 subst hK;refine QS.mk (aN (cM (cN (zo (iR hc) hgl hm jE (za (cE hx hc c (b6 (aR h8.out)) hg (fun _ _ _ _=>bH) he (fun _=>rfl)) zd q1)) (fun _=>rfl))) ha hb)
end
end L2
namespace L2
open PySem PySem.Spec PySem.Calls PyProof.Rows PySem.W
section
variable {prog:gc}{w:gy}{A:ip}{E:bp->bq->Prop}{s:bq}
def KeptBut(a:Addr)(h h':Heap):Prop:=∀b o,b≠a->h.get? b=some o->h'.get? b=some o
end
end L2
namespace L2
open PySem PySem.Spec PyProof.Rows
section
def jZ:D2:=fun x y S R=>asT x fun ds=>asT y fun es=>∃ns,ds=ns.map bw/\∃ms,es=ms.map bw/\R (.d (.bool (HT.lexLt ns ms))) S
theorem LM{K:cy}:RO (DL K) jZ:=fun h o H S x y v u R Q hs hx hy q c=>by
 replace q:=hX q;obtain⟨ds,rfl,q⟩:=q;replace q:=hX q;obtain⟨es,rfl,ns,rfl,ms,rfl,q⟩:=q;obtain⟨a,vs,rfl,ea,l1⟩:=eW hx;obtain⟨b,ws,rfl,eb,l2⟩:=eW hy;have e1:=jB l1;have e2:=jB l2;subst e1 e2;exact⟨a,b,ns,ms,rfl,rfl,.of ea,.of eb,c o H S _ _ Ex.refl hs (xB _) q⟩
end
section
theorem Kr{X:Cx}{K:cy}(hK:X.K=K):CallR X (.builtin "len") (yN K):=by
 subst hK;exact zx
end
end L2
namespace L2
open PySem PySem.Spec PyProof.Rows
section
abbrev EXD:=Addr->List (Str×bn)->Prop
abbrev PX:=List XV->Sto->RX->EXD->Prop
def CnX(h o:List Addr)(H:Hp)(EX:EXD)(E:XK):Prop:=∀o' H' S' C a fs,Ex o H o' H'->RepS h o' H' S'->HasE (vx h o' H') C fs (.ref a)->EX C fs->E (.ref C) (some a) H'
theorem CnX.pre{h o o':List Addr}{H H':Hp}{EX:EXD}{E:XK}(c:CnX h o H EX E)(e:Ex o H o' H'):CnX h o' H' EX E:=fun o2 H2 S2 C a fs e2=>c o2 H2 S2 C a fs (e.trans e2)
def RSx(E:XK)(EX:EXD)(t:TS)(dt:DS):Prop:=∀(h o:List Addr) (H:Hp) (δ:XE) (σ:St) (S:Sto) (En:DEnds) (D:Ends),RepE h o H δ σ->RepS h o H S->dt En δ S->EOk h o H En D->CnX h o H EX E->t D σ H
end
end L2
namespace L2
open PySem PySem.Spec PyProof.Rows
section
def qT(EX:EXD)(C:Addr)(ns:List Str)(da:DA):DS:=fun _ δ S=>da δ S fun xs _=>∃ds,datas xs=some ds/\ds.length=ns.length/\EX C (ns.zip ds)
end
end L2
namespace L2
open PySem PySem.Spec PyProof.Rows
section
abbrev Phi:=List Addr->List Addr->Hp->Prop
class Stb (Φ:Phi):Prop where
 st:∀{h o o':List Addr}{H H':Hp},Φ h o H->Ex o H o' H'->Φ h o' H'
def REp(Φ:Phi)(t:TE)(dt:DE):Prop:=∀(h o:List Addr) (H:Hp) (δ:XE) (σ:St) (S:Sto) (R:RX) (Q:VK),RepE h o H δ σ->RepS h o H S->dt δ S R->Cn h o H R Q->Φ h o H->t σ H Q
def RIp(Φ:Phi)(w:TI)(di:DI):Prop:=∀(h o:List Addr) (H:Hp) (δ:XE) (σ:St) (S:Sto) (R:List bn->Sto->Prop) (Q:It->Hp->Prop),RepE h o H δ σ->RepS h o H S->di δ S R ->
 (∀o' H' S' ds J,Ex o H o' H'->RepS h o' H' S'->WalkX h o' H' J ds->R ds S'->Q J H')->Φ h o H->w σ H Q
section
variable {Φ:Phi} [Stb Φ] {ta tb te:TE}{da db de:DE}{tl:TA}{dl:DA}{tt tu:TT}{dt du:DT}
theorem fF(a:RE te de):REp Φ te de:=fun h o H δ σ S R Q he hs q c _=>a h o H δ σ S R Q he hs q c
theorem IA{w:TI}{di:DI}(a:RI w di):RIp Φ w di:=fun h o H δ σ S R Q he hs q c _=>a h o H δ σ S R Q he hs q c
theorem GQ{r:R2}{rd:D2}(hr:RO r rd)(ha:REp Φ ta da)(hb:REp Φ tb db):REp Φ (tOp r ta tb) (dOp rd da db):=fun h o H δ σ S R Q he hs q c w=>
 ha h o H δ σ S _ _ he hs q (fun o1 H1 S1 x v e1 s1 x1 d1=>hb h o1 H1 δ σ S1 _ _ (he.mono e1) s1 d1 (fun o2 H2 S2 y u e2 s2 y2 d2=>
  hr h o2 H2 S2 x y v u R Q s2 (x1.mono e2) y2 d2 (c.pre (e1.trans e2))) (Stb.st w e1)) w
end
section
variable {E:XK}{EX:EXD}{ta tb te:TE}{da db de:DE}{tl:TA}{dl:DA}{tt tu:TT}{dt du:DT}
def qB(EX:EXD)(m:Nat)(q:PX)(da:DA):DE:=fun δ S R=>da δ S fun xs S1=>∃ds,datas xs=some ds/\ds.length=m/\q (ds.map XV.d) [] (ret0 S1 R) EX
end
def yP(N P:List Str)(sc:Scope):Bool:=decide (sc.kind=.function)&&!sc.isCoroutine&&!sc.isGenerator&&decide N.Nodup&&decide (N.take P.length=P)&&P.all (fun x=>decide (sc.names.lookup x=some .local)||decide (sc.names.lookup x=some .cell))&&sc.names.all fun y=>decide (y.2≠.free)
theorem fsc{N P:List Str}{sc:Scope}(h:yP N P sc=true):FnScope N P sc:=by
 simp only[yP,gf,decide_eq_true_eq,Bool.not_eq_true',ki,Bool.or_eq_true]at h;obtain⟨⟨⟨⟨⟨⟨h1,h2⟩,h3⟩,h4⟩,h5⟩,h6⟩,h7⟩:=h;exact⟨h1,h2,h3,h4,h5,h6,h7⟩
end
section
section
variable {κ α:Type} [DecidableEq κ]
def lkA(m:List (κ×α))(k:κ):Option α:=(m.find? fun p=>decide (p.1=k)).map (·.2)
def ptA(m:List (κ×α))(k:κ)(v:α):List (κ×α):=if (m.any fun p=>decide (p.1=k))=true then m.map (fun p=>if p.1=k then (p.1,v)else p)else m++[(k,v)]
def HasM(H:Hp):List (κ×bn)->List (κ×V)->Prop
 | [],m=>m=[]
 |p::r,m=>∃v m',m=(p.1,v)::m'/\Has H p.2 v/\HasM H r m'
theorem HasM.mono{H H':Hp}(s:Same H H'):∀{m:List (κ×bn)}{m':List (κ×V)},HasM H m m'->HasM H' m m'
 | [],_,q=>q
 |p::r,_,⟨v,t,e,q,l⟩=>⟨v,t,e,Has.mono s _ _ q,HasM.mono s l⟩
theorem HasM.length{H:Hp}:∀{m:List (κ×bn)}{m':List (κ×V)},HasM H m m'->m'.length=m.length
 | [],_,q=>by rw[show _=[]from q];rfl
 |p::r,_,⟨v,t,e,q,l⟩=>by rw[e,ft,ft,HasM.length l]
theorem HasM.val{H:Hp}(k:κ):∀{m:List (κ×bn)}{m':List (κ×V)},HasM H m m'->(lkA m k=none/\d9 m' k=none)\/∃d v,lkA m k=some d/\d9 m' k=some v/\Has H d v
 | [],m',q=>by rw[show m'=[]from q];exact .inl ⟨rfl,rfl⟩
 |p::r,m',⟨v,t,e,q,l⟩=>by
  subst e;by_cases hk:p.1=k
  ·exact .inr ⟨p.2,v,by simp[lkA,hk],sE hk,q⟩
  ·have e1:lkA (p::r) k=lkA r k:=by simp[lkA,hk]
   rw[e1,uL hk];exact HasM.val k l
theorem HasM.any{H:Hp}(k:κ):∀{m:List (κ×bn)}{m':List (κ×V)},HasM H m m'->(m'.any fun p=>decide (p.1=k))=m.any fun p=>decide (p.1=k)
 | [],m',q=>by rw[show m'=[]from q];rfl
 |p::r,m',⟨v,t,e,q,l⟩=>by
  subst e;rw[any_cons,any_cons,HasM.any k l]
theorem HasM.sets{H:Hp}{k:κ}{d:bn}{v:V}(hv:Has H d v):∀{m:List (κ×bn)}{m':List (κ×V)},HasM H m m'->HasM H (m.map fun p=>if p.1=k then (p.1,d)else p) (m'.map fun p=>if p.1=k then (p.1,v)else p)
 | [],m',q=>by rw[show m'=[]from q];rfl
 |p::r,m',⟨u,t,e,q,l⟩=>by
  subst e;rw[fm,fm];by_cases hk:p.1=k
  ·exact⟨v,_,by simp[hk],by simpa[hk]using hv,HasM.sets hv l⟩
  ·exact⟨u,_,by simp[hk],by simpa[hk]using q,HasM.sets hv l⟩
theorem HasM.snoc{H:Hp}{k:κ}{d:bn}{v:V}(hv:Has H d v):∀{m:List (κ×bn)}{m':List (κ×V)},HasM H m m'->HasM H (m++[(k,d)]) (m'++[(k,v)])
 | [],m',q=>by rw[show m'=[]from q];exact⟨v,[],rfl,hv,rfl⟩
 |p::r,m',⟨u,t,e,q,l⟩=>by subst e;exact⟨u,_,rfl,q,HasM.snoc hv l⟩
theorem HasM.put{H:Hp}{k:κ}{d:bn}{v:V}{m:List (κ×bn)}{m':List (κ×V)}(l:HasM H m m')(hv:Has H d v):HasM H (ptA m k d) (cJ m' k v):=by
 unfold ptA cJ;rw[l.any k];split
 ·exact l.sets hv
 ·exact l.snoc hv
end
inductive KSg where
 |int|bool|many (s:KSg)|two (s t:KSg)
def KG:KSg->Type
 | .int=>Int
 | .bool=>Bool
 | .many s=>List (KG s)
 | .two s t=>KG s×KG t
instance decKG:(s:KSg)->DecidableEq (KG s)
 | .int=>inferInstanceAs (DecidableEq Int)
 | .bool=>inferInstanceAs (DecidableEq Bool)
 | .many s=>have:=decKG s;inferInstanceAs (DecidableEq (List (KG s)))
 | .two s t=>have:=decKG s;have:=decKG t;inferInstanceAs (DecidableEq (KG s×KG t))
def khash:(s:KSg)->KG s->Int
 | .int,i=>hashInt i
 | .bool,b=>reduceHash (match (show Bool from b)with|true=>1|false=>0)
 | .many s,ks=>reduceHash (Builtin.Tuple.tupleHashOf (ks.map (khash s)))
 | .two s t,k=>reduceHash (Builtin.Tuple.tupleHashOf [khash s k.1,khash t k.2])
def kdat:(g:KSg)->KG g->bn
 | .int,i=>.int i
 | .bool,b=>.bool b
 | .many g,ks=>.tuple (List.map (kdat g) ks)
 | .two g g',k=>.tuple [kdat g k.1,kdat g' k.2]
def PDict(g:KSg)(ob:Obj)(xs:List (KG g×Addr×bp)):Prop:=ob.ExactDict/\∃es ep,ob.data=.dict es ep/\es.toList=xs.map (fun x=>⟨khash g x.1,.ref x.2.1,x.2.2⟩)/\(xs.map (·.1)).Nodup
def PrG(G:Hp)(g:KSg):List (KG g×bn)->List (KG g×Addr×bp)->Prop
 | [],xs=>xs=[]
 |p::r,xs=>∃q t,xs=q::t/\q.1=p.1/\Has G (kdat g p.1) (.ref q.2.1)/\(∃v,Has G p.2 v/\RelV v q.2.2)/\PrG G g r t
theorem PrG.mono{G G':Hp}{g:KSg}(s:Same G G'):∀{m:List (KG g×bn)}{xs:List (KG g×Addr×bp)},PrG G g m xs->PrG G' g m xs
 | [],_,q=>q
 |p::r,_,⟨q,t,e,e1,h1,⟨v,h2,h3⟩,l⟩=>⟨q,t,e,e1,Has.mono s _ _ h1,⟨v,Has.mono s _ _ h2,h3⟩,PrG.mono s l⟩
inductive DD where
 |k (m:List (Key×bn))
 |t (m:List (List Key×bn))
 |g (g:KSg) (ob:Obj) (m:List (KG g×bn))
def DD.pairs:DD->List (bn×bn)
 | .k m=>m.map fun p=>(kD p.1,p.2)
 | .t m=>m.map fun p=>(.tuple (p.1.map kD),p.2)
 | .g sg _ m=>m.map fun p=>(kdat sg p.1,p.2)
def DD.len:DD->Nat
 | .k m=>m.length
 | .t m=>m.length
 | .g _ _ m=>m.length
def fI:bn->Option Key
 | .int i=>some (.inl i)
 | .str x=>some (.inr x)
 |_=>none
def iQ:List bn->Option (List Key)
 | []=>some []
 |d::ds=>(fI d).bind fun k=>(iQ ds).map (k :: ·)
def fS:bn->Option (List Key)
 | .tuple ds=>iQ ds
 |_=>none
def DD.get:DD->bn->Option (Option bn)
 | .k m,y=>(fI y).map (lkA m)
 | .t m,y=>(fS y).map (lkA m)
 | .g _ _ _,_=>none
def DD.put:DD->bn->bn->Option DD
 | .k m,y,d=>(fI y).map fun k=>.k (ptA m k d)
 | .t m,y,d=>(fS y).map fun k=>.t (ptA m k d)
 | .g _ _ _,_,_=>none
def RAt(G H:Hp)(a:Addr):DD->Prop
 | .k m=>∃m',Rd H a (.dK m')/\HasM G m m'
 | .t m=>∃m',Rd H a (.dT m')/\HasM G m m'
 | .g g ob m=>H a=some (obO a ob)/\(a==kf)=false/\∃xs,PDict g ob xs/\PrG G g m xs
def DAt(G H:Hp)(a:Addr):DD->Prop
 | .k m=>∃m',H a=some (.dK m')/\HasM G m m'
 | .t m=>∃m',H a=some (.dT m')/\HasM G m m'
 | .g g ob m=>H a=some (obO a ob)/\(a==kf)=false/\∃xs,PDict g ob xs/\PrG G g m xs
theorem AE{H:Hp}{y:bn}{v:V}{k:Key}(e:fI y=some k)(q:Has H y v):v=kV k:=by
 cases y with
 |int i=>cases e;exact fY.mp q
 |str x=>cases e;exact iB.mp q
 |_=>cases e
theorem Eo{H:Hp}:∀{ds:List bn}{vs:List V}{ks:List Key},iQ ds=some ks->HasL H ds vs->vs=ks.map kV
 | [],vs,ks,e,l=>by cases e;exact zR.mp l
 |d::ds,vs,ks,e,l=>by
  obtain⟨v,r,rfl,q,l⟩:=zG.mp l;unfold iQ at e;cases hk:fI d with
  |none=>rw[hk]at e;cases e
  |some k=>
   rw[hk,Option.bind_some]at e;cases hs:iQ ds with
   |none=>rw[hs]at e;cases e
   |some ks'=>
    rw[hs]at e;cases e;rw[AE hk q,Eo hs l];rfl
theorem vG{H:Hp}{y:bn}{v:V}{ks:List Key}(e:fS y=some ks)(q:Has H y v):∃b,v=.ref b/\H b=some (.tup (ks.map kV)):=by
 cases y with
 |tuple ds=>
  obtain⟨b,vs,rfl,eb,l⟩:=eQ.mp q;exact⟨b,rfl,by rw[<- Eo (show iQ ds=some ks from e) l];exact eb⟩
 |_=>cases e
theorem DAt.mono{G G' H H':Hp}{a:Addr}{D:DD}(s:Same G G')(e:∀u,H a=some u->H' a=some u)(q:DAt G H a D):DAt G' H' a D:=by
 cases D with
 |k m=>obtain⟨m',e1,l⟩:=q;exact⟨m',e _ e1,l.mono s⟩
 |t m=>obtain⟨m',e1,l⟩:=q;exact⟨m',e _ e1,l.mono s⟩
 |g g ob m=>obtain⟨e1,ha,xs,pd,l⟩:=q;exact⟨e _ e1,ha,xs,pd,l.mono s⟩
theorem DAt.rd{G H:Hp}{a:Addr}{D:DD}(q:DAt G H a D):RAt G H a D:=by
 cases D with
 |k m=>obtain⟨m',e1,l⟩:=q;exact⟨m',.inl e1,l⟩
 |t m=>obtain⟨m',e1,l⟩:=q;exact⟨m',.inl e1,l⟩
 |g g ob m=>exact q
theorem DAt.mo{G H:Hp}{a:Addr}{D:DD}(q:DAt G H a D):∃u:MO,H a=some u.ho:=by
 cases D with
 |k m=>obtain⟨m',e1,l⟩:=q;exact⟨.k m',e1⟩
 |t m=>obtain⟨m',e1,l⟩:=q;exact⟨.t m',e1⟩
 |g g ob m=>exact⟨.x a ob,q.1⟩
def RelD(G:Hp):Option bn->Option V->Prop
 |none,r=>r=none
 |some d,r=>∃u,r=some u/\Has G d u
theorem RAt.get{G H:Hp}{a:Addr}{D:DD}{y:bn}{v:V}{o:Option bn}(sv:Same G H)(q:RAt G H a D)(hy:Has G y v)(e:D.get y=some o):∃r,DGet H a v r/\RelD G o r:=by
 cases D with
 |k m=>
  obtain⟨m',e1,l⟩:=q;replace e:(fI y).map (lkA m)=some o:=e;cases hk:fI y with
  |none=>rw[hk]at e;cases e
  |some k=>
   rw[hk]at e;cases e;rw[AE hk hy];refine⟨_,.inl ⟨m',k,e1,rfl,rfl⟩,?_⟩;rcases l.val k with ⟨z1,z2⟩|⟨d,u,z1,z2,z3⟩
   ·rw[z1];exact z2
   ·rw[z1];exact⟨u,z2,z3⟩
 |t m=>
  obtain⟨m',e1,l⟩:=q;replace e:(fS y).map (lkA m)=some o:=e;cases hk:fS y with
  |none=>rw[hk]at e;cases e
  |some k=>
   rw[hk]at e;cases e;obtain⟨b,rfl,eb⟩:=vG hk hy;refine⟨_,.inr ⟨m',k,b,e1,rfl,sv _ _ eb,rfl⟩,?_⟩;rcases l.val k with ⟨z1,z2⟩|⟨d,u,z1,z2,z3⟩
   ·rw[z1];exact z2
   ·rw[z1];exact⟨u,z2,z3⟩
 |g g ob m=>cases e
theorem RAt.isD{G H:Hp}{a:Addr}{D:DD}(q:RAt G H a D):IsD H a:=by
 cases D with
 |k m=>obtain⟨m',e1,_⟩:=q;exact .inl ⟨m',e1⟩
 |t m=>obtain⟨m',e1,_⟩:=q;exact .inr (.inl ⟨m',e1⟩)
 |g g ob m=>obtain⟨e1,ha,xs,pd,l⟩:=q;exact .inr (.inr ⟨ob,e1,pd.1,ha⟩)
theorem DAt.put{G H:Hp}{a:Addr}{D D':DD}{y d:bn}{v u:V}(sv:Same G H)(q:DAt G H a D)(hy:Has G y v)(hd:Has G d u)(e:D.put y d=some D')(hl:D.len<1000):
  ∃x:MO,DPut H a v u (upd H a x.ho)/\∀H',H' a=some x.ho->DAt G H' a D':=by
 cases D with
 |k m=>
  obtain⟨m',e1,l⟩:=q;replace e:((fI y).map fun k=>DD.k (ptA m k d))=some D':=e;cases hk:fI y with
  |none=>rw[hk]at e;cases e
  |some k=>
   rw[hk]at e;cases e;rw[AE hk hy];exact⟨.k (cJ m' k u),DPut.k e1 (by rw[l.length];exact small1000 (ku hl)),fun H' z=>⟨_,z,l.put hd⟩⟩
 |t m=>
  obtain⟨m',e1,l⟩:=q;replace e:((fS y).map fun k=>DD.t (ptA m k d))=some D':=e;cases hk:fS y with
  |none=>rw[hk]at e;cases e
  |some k=>
   rw[hk]at e;cases e;obtain⟨b,rfl,eb⟩:=vG hk hy;exact⟨.t (cJ m' k u),DPut.t e1 (sv _ _ eb) (by rw[l.length];exact small1000 (ku hl)),fun H' z=>⟨_,z,l.put hd⟩⟩
 |g g ob m=>cases e
theorem C0{a b:Key}(e:kD a=kD b):a=b:=by
 cases a<;>cases b<;>cases e<;>rfl
theorem Ds{H:Hp}:∀{m:List (Key×bn)}{m':List (Key×V)},HasM H m m'->HasV H (m.map fun p=>(kD p.1,p.2)) (m'.map (·.2))/\m'.map (fun p=>kD p.1)=m.map fun p=>kD p.1
 | [],m',q=>by rw[show m'=[]from q];exact⟨C9.mpr rfl,rfl⟩
 |p::r,m',⟨v,t,e,q,l⟩=>by
  subst e;obtain⟨z1,z2⟩:=Ds l;exact⟨sD.mpr ⟨v,_,rfl,q,z1⟩,by rw[fm,fm,z2]⟩
theorem De{H:Hp}:∀{m:List (Key×bn)}{m':List (Key×V)},HasV H (m.map fun p=>(kD p.1,p.2)) (m'.map (·.2))->m.map (fun p=>kD p.1)=m'.map (fun p=>kD p.1)->HasM H m m'
 | [],[],_,_=>rfl
 | [],_::_,_,e=>by simp at e
 |_::_,[],_,e=>by simp at e
 |p::r,q::t,h,e=>by
  rw[fm,fm]at h;obtain⟨v,s,e1,e2,e3⟩:=sD.mp h;rw[qj]at e1;rw[fm,fm,qj]at e;have z:=C0 e.1;obtain⟨q1,q2⟩:=q;refine⟨q2,t,by rw[z],?_,De (by rw[e1.2];exact e3) e.2⟩;have z1:q2=v:=e1.1;rw[z1];exact e2
theorem Az{H:Hp}{m:List (Key×bn)}{v:V}:Has H (.dict (DD.pairs (.k m))) v↔∃a ob m',v=.ref a/\H a=some (.frz ob (.dK m'))/\HasM H m m':=by
 rw[x3];constructor
 ·rintro⟨a,vs,rfl,⟨ob,m',e,e1,e2⟩|⟨ob,p,m',e,e1,e2⟩,l⟩
  rotate_left
  ·cases m with
   |nil=>cases e1
   |cons q r=>
    have z:=congrArg List.head? e1;simp only[DD.pairs,fm,List.head?_cons,Option.some.injEq]at z;cases h:q.1<;>rw[h]at z<;>cases z
  subst e2;refine⟨a,ob,m',rfl,e,De l ?_⟩;rw[<- e1];simp[DD.pairs]
 ·rintro⟨a,ob,m',rfl,e,l⟩;obtain⟨z1,z2⟩:=Ds l;exact⟨a,_,rfl,.inl ⟨ob,m',e,by rw[z2];simp[DD.pairs],rfl⟩,z1⟩
abbrev DM:=List (Addr×DD)
def ad(M:DM):List Addr:=M.map (·.1)
structure RepM(h o:List Addr)(H:Hp)(M:DM):Prop where
 nd:(ad M).Nodup
 nh:∀a∈ad M,a∉h/\a∉o
 ct:∀a D,(a,D)∈M->DAt (vx (h++ad M) o H) H a D
section
variable {h o o':List Addr}{H H':Hp}{M:DM}{S:Sto}
theorem RepM.at(r:RepM h o H M){a:Addr}(m:a∈ad M):∃D,(a,D)∈M/\DAt (vx (h++ad M) o H) H a D:=by
 obtain⟨p,mp,e⟩:=mem_map.mp m;obtain⟨b,D⟩:=p;cases e;exact⟨D,mp,r.ct _ D mp⟩
theorem RepM.mono(r:RepM h o H M)(e:Ex o H o' H'):RepM h o' H' M:=by
 have k1:∀a∈ad M,∀u,H a=some u->a∉o'/\H' a=some u:=fun a m u z=>e.kp a u (r.nh a m).2 z;refine⟨r.nd,fun a m=>⟨(r.nh a m).1,?_⟩,fun a D m=>?_⟩
 ·obtain⟨D,_,q⟩:=r.at m;obtain⟨u,z⟩:=q.mo;exact(k1 a m _ z).1
 ·exact(r.ct a D m).mono e.vx fun u z=>(k1 a (mem_map.mpr ⟨_,m,rfl⟩) u z).2
theorem RepM.nil:RepM h o H []:=⟨nodup_nil,fun a m=>(by cases m),fun a D m=>(by cases m)⟩
def jQ(M:DM)(a:Addr)(D:DD):DM:=M.map fun p=>if p.1=a then (a,D)else p
theorem kF{a:Addr}{D:DD}:∀{M:DM},ad (jQ M a D)=ad M
 | []=>rfl
 |p::r=>by
  have z:=kF (a:=a) (D:=D) (M:=r);unfold ad jQ at z ⊢;rw[fm,fm,fm,z];by_cases e:p.1=a<;>simp[e]
theorem uZ{a:Addr}{u:HO}(m:a∈h):Same (vx h o H) (vx h o (upd H a u)):=fun b w e=>by
 obtain⟨z1,z2,z3⟩:=aW.mp e;exact aW.mpr ⟨z1,z2,by rw[zZ (fun z=>z1 (by rw[z];exact m))];exact z3⟩
theorem HasX.view(s:Same (vx h o H) (vx h o H')):∀{x:XV}{v:V},HasX h o H x v->HasX h o H' x v
 | .d d,v,q=>Has.mono s d v q
 | .l k,v,q=>q
 | .o w,v,q=>q
 | .x C fs,v,q=>HasE.mono s q
theorem RepE.view{δ:XE}{σ:St}(s:Same (vx h o H) (vx h o H'))(r:RepE h o H δ σ):RepE h o H' δ σ:=⟨r.len,fun i x e=>let ⟨v,e1,e2⟩:=r.get i x e;⟨v,e1,e2.view s⟩⟩
theorem RepS.hidden{a:Addr}{u:MO}(r:RepS h o H S)(m:a∈h):RepS h o (L2.upd H a u.ho) S where
 len:=r.len
 nd:=r.nd
 dis:=r.dis
 hal:=fun b mb=>by
  by_cases e:b=a
  ·subst e;exact⟨u,dM⟩
  ·obtain⟨w,z⟩:=r.hal b mb;exact⟨w,by rw[zZ e];exact z⟩
 cont:=fun k b ds e1 e2=>by
  obtain⟨vs,e3,l⟩:=r.cont k b ds e1 e2;have ne:b≠a:=fun z=>r.dis b (bu e1) (z▸m);exact⟨vs,by rw[zZ ne];exact e3,HasL.mono (uZ m) _ _ l⟩
theorem RepM.put{a:Addr}{D D':DD}{u:MO}(r:RepM h o H M)(m:(a,D)∈M)(q:∀H',H' a=some u.ho->DAt (vx (h++ad M) o H) H' a D'):RepM h o (L2.upd H a u.ho) (jQ M a D'):=by
 have ma:a∈ad M:=mem_map.mpr ⟨_,m,rfl⟩;refine⟨by rw[kF];exact r.nd,by rw[kF];exact r.nh,fun b D2 mb=>?_⟩;rw[kF];have sv:Same (vx (h++ad M) o H) (vx (h++ad M) o (L2.upd H a u.ho)):=uZ (gp _ ma);obtain⟨p,mp,ep⟩:=mem_map.mp mb;by_cases e:p.1=a
 ·rw[cg e]at ep;cases ep;exact(q _ dM).mono sv fun _ z=>z
 ·rw[cf e]at ep;subst ep;exact(r.ct _ _ mp).mono sv fun w z=>by rw[zZ e];exact z
theorem RepS.less{l:List Addr}(r:RepS (h++l) o H S):RepS h o H S where
 len:=r.len
 nd:=r.nd
 dis:=fun a ma z=>r.dis a ma (gi _ z)
 hal:=fun b mb=>r.hal b (gi _ mb)
 cont:=fun k b ds e1 e2=>by
  obtain⟨vs,e3,q⟩:=r.cont k b ds e1 e2;exact⟨vs,e3,HasL.mono (fun c u z=>let ⟨z1,z2,z3⟩:=aW.mp z;aW.mpr ⟨fun mm=>z1 (gi _ mm),z2,z3⟩) _ _ q⟩
theorem sR{l:List Addr}:Same (vx (h++l) o H) (vx h o H):=fun c u z=>let ⟨z1,z2,z3⟩:=aW.mp z;aW.mpr ⟨fun mm=>z1 (gi _ mm),z2,z3⟩
theorem HasX.less{l:List Addr}:∀{x:XV}{v:V},HasX (h++l) o H x v->HasX h o H x v
 | .d d,v,q=>Has.mono sR d v q
 | .l k,v,q=>q
 | .o w,v,q=>q
 | .x C fs,v,q=>HasE.mono sR q
end
end
section
structure DEndsM where
 nx:XE->Sto->DM->Prop
 rt:XV->Sto->DM->Prop
 bk:XE->Sto->DM->Prop:=fun _ _ _=>False
 ct:XE->Sto->DM->Prop:=fun _ _ _=>False
abbrev DSm:=DEndsM->XE->Sto->DM->Prop
def Fr(H:Hp)(M:DM):Prop:=∀a∈ad M,H a=none
def NxM(h o:List Addr)(H:Hp)(A:List Addr)(N:XE->Sto->DM->Prop)(Y:St->Hp->Prop):Prop:=∀o' H' δ' S' M' σ',Ex o H o' H'->ad M'=A->RepE (h++ad M') o' H' δ' σ'->RepS (h++ad M') o' H' S'->RepM h o' H' M'->N δ' S' M'->Y σ' H'
structure EOkM(h o:List Addr)(H:Hp)(A:List Addr)(E:DEndsM)(D:Ends):Prop where
 nx:NxM h o H A E.nx D.nx
 rt:∀o' H' S' M' x v,Ex o H o' H'->ad M'=A->RepS (h++ad M') o' H' S'->RepM h o' H' M'->HasX (h++ad M') o' H' x v->E.rt x S' M'->D.rt v H'
 bk:NxM h o H A E.bk D.bk
 ct:NxM h o H A E.ct D.ct
def RSm(E:XK)(EX:EXD)(t:TS)(dt:DSm):Prop:=∀(h o0:List Addr) (H0:Hp) (o:List Addr) (H:Hp) (δ:XE) (σ:St) (S:Sto) (M:DM) (En:DEndsM) (D:Ends),Ex o0 H0 o H->Fr H0 M->RepE (h++ad M) o H δ σ->RepS (h++ad M) o H S->RepM h o H M->dt En δ S M ->
 EOkM h o0 H0 (ad M) En D->CnX h o0 H0 EX E->t D σ H
def nY(dt:DS):DSm:=fun En δ S M=>dt { nx:=fun δ' S'=>En.nx δ' S' M,rt:=fun x S'=>En.rt x S' M,bk:=fun δ' S'=>En.bk δ' S' M,ct:=fun δ' S'=>En.ct δ' S' M } δ S
def oG(c:DM->DT)(t u:DSm):DSm:=fun En δ S M=>c M δ S fun b S1=>if b=true then t En δ S1 M else u En δ S1 M
def i9(g:DG)(b:DSm):List bn->DSm
 | [],E,δ,S,M=>E.nx δ S M
 |d::ds,E,δ,S,M=>g (.d d) δ S fun δ1 S1=>b { nx:=fun δ2 S2 M2=>i9 g b ds E δ2 S2 M2,ct:=fun δ2 S2 M2=>i9 g b ds E δ2 S2 M2,bk:=E.nx,rt:=E.rt } δ1 S1 M
def jP(i:DM->DI)(g:DG)(b:DSm):DSm:=fun En δ S M=>i M δ S fun ds S1=>i9 g b ds En δ S1 M
def PhM(M:DM):Phi:=fun h' o H=>∃h,h'=h++ad M/\RepM h o H M
instance {M:DM}:Stb (PhM M):=⟨fun⟨h,e,r⟩ x=>⟨h,e,r.mono x⟩⟩
section
variable {E:XK}{EX:EXD}{t u:TS}{dt du:DSm}
theorem Fp{wi:TI}{g:TG}{tb:TS}{di:DM->DI}{dg:DG}{db:DSm}(hi:∀M,RIp (PhM M) wi (di M))(hg:RG g dg)(hb:RSm E EX tb db):RSm E EX (pP wi g tb) (jP di dg db):=fun h o0 H0 o H δ σ S M En D e0 fr he hs rm q c x=>
 hi M (h++ad M) o H δ σ S _ _ he hs q (fun o1 H1 S1 ds J e1 s1 wk d1=>by
  refine⟨fun i m σ2 H2=>m=ds.length-i/\i<=ds.length/\∃o2 δ2 S2 M2,Ex o0 H0 o2 H2/\ExH (h++ad M) o1 H1 o2 H2/\ad M2=ad M/\RepE (h++ad M) o2 H2 δ2 σ2/\RepS (h++ad M) o2 H2 S2/\RepM h o2 H2 M2/\i9 dg db (ds.drop i) En δ2 S2 M2,
   ⟨ds.length,yv,lc _,o1,δ,S1,M,e0.trans e1,ExH.refl,rfl,he.mono e1,s1,rm.mono e1,d1⟩,?_⟩
  rintro i m σ2 H2 ⟨rfl,hi,o2,δ2,S2,M2,e2,x2,ea,ak,ah,aj,d2⟩;by_cases hlt:i<ds.length
  ·have ed:ds[i]?=some ds[i]:=cn hlt;rw[lh hlt]at d2;refine .inr ⟨wk.go i _ o2 H2 x2 ed,fun σ3 H3=>∃o3 δ3 S3 M3,Ex o0 H0 o3 H3/\ExH (h++ad M) o1 H1 o3 H3/\ad M3=ad M/\RepE (h++ad M) o3 H3 δ3 σ3/\RepS (h++ad M) o3 H3 S3/\RepM h o3 H3 M3/\i9 dg db (ds.drop (i+1)) En δ3 S3 M3,fun σ3 H3 n=>⟨ds.length-(i+1),yw,rfl,hlt,n⟩,fun y H3 yy=>?_⟩;obtain⟨s3,hx⟩:=wk.yld i _ o2 H2 y H3 S2 x2 ah ed yy;have ai:Ex o2 H2 o2 H3:=Ex.of_same s3;refine hg (h++ad M) o2 H3 δ2 σ2 S2 (.d ds[i]) y _ _ (ak.mono ai) (ah.same s3) hx d2 fun o4 H4 δ4 S4 σ4 e4 ao al d4=>?_;have ae:Ex o2 H2 o4 H4:=ai.trans e4;have nM:∀b u,H0 b=some u->b∉ad M:=fun b u z mb=>by
    rw[fr b mb]at z;cases z
   have af:Ex o0 H0 o4 (fun b=>if b∈ad M then none else H4 b):=⟨(e2.trans ae).pre,fun b u nb z=>by
    obtain⟨z1,z2⟩:=(e2.trans ae).kp b u nb z;exact⟨z1,by show (if b∈ad M then none else H4 b)=some u;rw[cf (nM b u z)];exact z2⟩⟩
   have am:∀{o5 H5},Ex o4 (fun b=>if b∈ad M then none else H4 b) o5 H5->ExH (h++ad M) o4 H4 o5 H5:=fun e5=>⟨e5.pre,fun b u n1 n2 z=>e5.kp b u n2 (by show (if b∈ad M then none else H4 b)=some u;rw[cf (fun mb=>n1 (gp _ mb))];exact z)⟩;have aa:∀o5 H5 δ5 S5 M5 σ5,Ex o4 (fun b=>if b∈ad M then none else H4 b) o5 H5->ad M5=ad M2->RepE (h++ad M5) o5 H5 δ5 σ5->RepS (h++ad M5) o5 H5 S5->RepM h o5 H5 M5->i9 dg db (ds.drop (i+1)) En δ5 S5 M5 ->
     ∃o3 δ3 S3 M3,Ex o0 H0 o3 H5/\ExH (h++ad M) o1 H1 o3 H5/\ad M3=ad M/\RepE (h++ad M) o3 H5 δ3 σ5/\RepS (h++ad M) o3 H5 S3/\RepM h o3 H5 M3/\i9 dg db (ds.drop (i+1)) En δ3 S3 M3:=fun o5 H5 δ5 S5 M5 σ5 e5 a5 ag ac ab d5=>
    ⟨o5,δ5,S5,M5,af.trans e5,(x2.trans ae.hid).trans (am e5),a5.trans ea,by rw[<- ea,<- a5];exact ag,by rw[<- ea,<- a5];exact ac,ab,d5⟩
   refine hb h o4 (fun b=>if b∈ad M then none else H4 b) o4 H4 δ4 σ4 S4 M2 _ _ ⟨⟨[],yv⟩,fun b u nb eb=>?_⟩ (fun a ma=>by show (if a∈ad M then none else H4 a)=none;rw[cg (by rw[<- ea];exact ma)]) (by rw[ea];exact ao) (by rw[ea];exact al) (aj.mono ae) d4
    ⟨aa,fun o5 H5 S5 M5 y5 v5 e5 a5 ac ab an q5=>c.rt o5 H5 S5 M5 y5 v5 (af.trans e5) (a5.trans ea) ac ab an q5,fun o5 H5 δ5 S5 M5 σ5 e5 a5 ag ac ab q5=>c.nx o5 H5 δ5 S5 M5 σ5 (af.trans e5) (a5.trans ea) ag ac ab q5,aa⟩ (x.pre af)
   refine⟨nb,?_⟩;by_cases mb:b∈ad M
   ·simp[mb]at eb
   ·simpa[mb]using eb
  ·have ei:i=ds.length:=yw
   subst ei;rw[drop_length]at d2;exact .inl ⟨wk.stop _ o2 H2 x2 (ff _),c.nx o2 H2 δ2 S2 M2 σ2 e2 ea (by rw[ea];exact ak) (by rw[ea];exact ah) aj d2⟩) ⟨h,rfl,rm⟩
end
end
section
section
variable {h h' o:List Addr}{H H':Hp}
theorem HasX.to(s:Same (vx h o H) (vx h' o H')):∀{x:XV}{v:V},HasX h o H x v->HasX h' o H' x v
 | .d d,v,q=>Has.mono s d v q
 | .l k,v,q=>q
 | .o w,v,q=>q
 | .x C fs,v,q=>HasE.mono s q
theorem RepE.to{δ:XE}{σ:St}(s:Same (vx h o H) (vx h' o H'))(r:RepE h o H δ σ):RepE h' o H' δ σ:=⟨r.len,fun i x e=>let ⟨v,e1,e2⟩:=r.get i x e;⟨v,e1,e2.to s⟩⟩
end
def IP(a:Addr)(m:List (Key×bn)):XV->XV
 | .o (.ref b)=>if b=a then .d (.dict (DD.pairs (.k m)))else .o (.ref b)
 |x=>x
theorem cR{M:DM}{a:Addr}{D:DD}:ad (M++[(a,D)])=ad M++[a]:=by simp[ad]
theorem RepM.init{h o:List Addr}{H:Hp}{M:DM}{a:Addr}{D:DD}(r:RepM h o H (M++[(a,D)])):RepM h o H M:=by
 have nd:=r.nd;rw[cR]at nd;refine⟨(nodup_append.mp nd).1,fun b m=>r.nh b (by rw[cR];exact gi _ m),fun b D2 m=>?_⟩;have z:=r.ct b D2 (gi _ m);rw[cR,<- gv]at z;exact z.mono sR fun _ z=>z
def rG(f:Bool)(i:Nat)(D0:DD)(b:DSm):DSm:=fun En δ S M=>∀a,a∉ad M->b { nx:=(fun δ' S' M'=>if f=true then (∃M1 m,M'=M1++[(a,.k m)]/\δ'[i]?=some (some (.o (.ref a)))/\En.nx (δ'.map (Option.map (IP a m))) S' M1)else (∃M1 D,M'=M1++[(a,D)]/\En.nx δ' S' M1)),rt:=(fun x S' M'=>∃M1 D,M'=M1++[(a,D)]/\En.rt x S' M1),bk:=(fun δ' S' M'=>∃M1 D,M'=M1++[(a,D)]/\En.bk δ' S' M1),ct:=(fun δ' S' M'=>∃M1 D,M'=M1++[(a,D)]/\En.ct δ' S' M1) } (δ.set i (some (.o (.ref a)))) S (M++[(a,D0)])
section
variable {E:XK}{EX:EXD}{tb:TS}{db:DSm}{i:Nat}
def iK(dt:DSm):DS:=fun En δ S=>dt { nx:=fun δ' S' _=>En.nx δ' S',rt:=fun x S' _=>En.rt x S',bk:=fun δ' S' _=>En.bk δ' S',ct:=fun δ' S' _=>En.ct δ' S' } δ S []
theorem LS{t:TS}{dt:DSm}(ht:RSm E EX t dt):RSx E EX t (iK dt):=fun h o H δ σ S En D he hs q c x=>by
 have z:h++ad []=h:=kn _;have nx:∀{N:XE->Sto->Prop}{Y:St->Hp->Prop},Nx h o H N Y->NxM h o H (ad []) (fun δ' S' _=>N δ' S') Y:=fun {N Y} n o' H' δ' S' M' σ' ex ea ab aa _ q'=>by
  rw[ea,z]at ab aa;exact n o' H' δ' S' σ' ex ab aa q'
 refine ht h o H o H δ σ S [] _ D Ex.refl (fun a m=>by cases m) (by rw[z];exact he) (by rw[z];exact hs) RepM.nil q ⟨nx c.nx,?_,nx c.bk,nx c.ct⟩ x;rintro o' H' S' M' y v ex ea aa _ ac q';rw[ea,z]at aa ac;exact c.rt o' H' S' y v ex aa ac q'
theorem Gh{t:TS}{dt:DSm}(ht:RSm E0 (fun _ _=>False) t dt):RS t (iK dt):=fun h o H δ σ S En D he hs q c=>LS ht h o H δ σ S En D he hs q c fun _ _ _ _ _ _ _ _ _ z=>z.elim
end
end
section
theorem rS{t:TE}{de:DE}(a:REp (PhM []) t de):RE t de:=fun h o H δ σ S R Q he hs q c=>a h o H δ σ S R Q he hs q c ⟨h,(kn _).symm,RepM.nil⟩
def IsDD(M:DM)(x:XV)(D:DD):Prop:=(∃a,x=.o (.ref a)/\(a,D)∈M)\/∃m,D=.k m/\x=.d (.dict (DD.pairs (.k m)))
theorem Dr{M:DM}{h o:List Addr}{H:Hp}{x:XV}{D:DD}{v:V}(φ:PhM M h o H)(q:IsDD M x D)(hx:HasX h o H x v):∃a,v=.ref a/\RAt (vx h o H) H a D:=by
 rcases q with ⟨a,rfl,m⟩|⟨m,rfl,rfl⟩
 ·obtain⟨h0,rfl,rm⟩:=φ;exact⟨a,hx,(rm.ct a D m).rd⟩
 ·obtain⟨a,ob,m',rfl,e,l⟩:=Az.mp (show Has _ _ v from hx);exact⟨a,rfl,m',.inr ⟨ob,cF _ _ e⟩,l⟩
def iM(M:DM)(dd dy dx:DE):DE:=fun δ S R=>dd δ S fun x S1=>∃D,IsDD M x D/\dy δ S1 fun y S2=>dx δ S2 fun z S3=>asD y fun k=>asD z fun dz=>∃o,D.get k=some o/\R (.d (o.getD dz)) S3
theorem xV{M:DM}{td ty tx:TE}{dd dy dx:DE}(hd:REp (PhM M) td dd)(hy:REp (PhM M) ty dy)(hx:REp (PhM M) tx dx):REp (PhM M) (EM td ty tx) (iM M dd dy dx):=fun h o H δ σ S R Q he hs q c w=>
 hd h o H δ σ S _ _ he hs q (fun o1 H1 S1 x v e1 s1 x1 ⟨D,hD,d1⟩=>by
  obtain⟨a,rfl,da⟩:=Dr (Stb.st w e1) hD x1;refine⟨a,rfl,da.isD,hy h o1 H1 δ σ S1 _ _ (he.mono e1) s1 d1 (fun o2 H2 S2 y u e2 s2 y2 d2=>hx h o2 H2 δ σ S2 _ _ ((he.mono e1).mono e2) s2 d2 (fun o3 H3 S3 z t e3 s3 z3 d3=>?_) (Stb.st w (e1.trans e2))) (Stb.st w e1)⟩;replace d3:=iD d3;obtain⟨k,rfl,d3⟩:=d3;obtain⟨dz,rfl,r,e,q⟩:=iD d3;obtain⟨a',ea,aa⟩:=Dr (Stb.st w ((e1.trans e2).trans e3)) hD (x1.mono (e2.trans e3));cases ea;obtain⟨r',g,rr⟩:=aa.get cF (y2.mono e3) e;refine⟨r',g,?_⟩;cases r with
  |none=>
   rw[show r'=none from rr];exact c o3 H3 S3 (.d dz) t ((e1.trans e2).trans e3) s3 z3 q
  |some d=>
   obtain⟨r2,rfl,h2⟩:=rr;exact c o3 H3 S3 (.d d) r2 ((e1.trans e2).trans e3) s3 h2 q) w
def kK(j:Nat)(dk dv:DM->DE):DSm:=fun En δ S M=>dv M δ S fun x S1=>asD x fun d=>zh j δ S1 fun y S2=>∃a,y=.o (.ref a)/\dk M δ S2 fun z S3=>asD z fun k=>∃D D',(a,D)∈M/\D.put k d=some D'/\D.len<1000/\En.nx δ S3 (jQ M a D')
theorem Kc{E:XK}{EX:EXD}{j:Nat}{ty tv:TE}{dk dv:DM->DE}(hk:∀M,REp (PhM M) ty (dk M))(hv:∀M,REp (PhM M) tv (dv M)):RSm E EX (Bt (gJ j) ty tv) (kK j dk dv):=fun h o0 H0 o H δ σ S M En D e0 fr he hs rm q c x=>
 hv M (h++ad M) o H δ σ S _ _ he hs q (fun o1 H1 S1 y v e1 s1 x1 d1=>by
  obtain⟨d,rfl,y1,ey,a,rfl,d2⟩:=iD d1;have aa:=he.mono e1;obtain⟨v1,ev,ae⟩:=aa.get j _ ey;have af:v1=.ref a:=ae;subst af;refine⟨_,ev,hk M (h++ad M) o1 H1 δ σ S1 _ _ aa s1 d2 (fun o2 H2 S2 z u e2 s2 z2 d3=>?_) ⟨h,rfl,rm.mono e1⟩⟩;obtain⟨k,rfl,D1,D2,mD,eD,hl,n⟩:=iD d3;have ab:=e1.trans e2;have ac:=rm.mono ab;have ma:a∈ad M:=mem_map.mpr ⟨_,mD,rfl⟩;obtain⟨w,pt,fin⟩:=(ac.ct a D1 mD).put cF z2 (x1.mono e2) eD hl;have mh:a∈h++ad M:=gp _ ma;refine⟨a,_,rfl,pt,c.nx o2 _ δ S2 (jQ M a D2) σ ⟨(e0.trans ab).pre,fun b w' nb zb=>?_⟩ kF ?_ ?_ (ac.put mD fin) n⟩
  ·obtain⟨z1,z3⟩:=(e0.trans ab).kp b w' nb zb;exact⟨z1,by rw[zZ (fun z=>by rw[z,fr a ma]at zb;cases zb)];exact z3⟩
  ·rw[kF];exact(aa.mono e2).view (uZ mh)
  ·rw[kF];exact s2.hidden mh) ⟨h,rfl,rm⟩
theorem L1{t t':TS}{d:DS}(h:RS t d)(e:t'=t:=by rfl):RS t' d:=e▸h
end
end L2
namespace L2
open PySem PySem.Spec PySem.Calls PyProof.Rows
def DD.itemsD(m:List (Key×bn)):List bn:=m.map fun p=>.tuple [kD p.1,p.2]
def nE(e:DE):DI:=fun δ S R=>e δ S fun x S1=>∃m,x=.d (.dict (DD.pairs (.k m)))/\R (DD.itemsD m) S1
end L2
namespace L2
open PySem PySem.Spec PyProof.Rows
section
section
variable {E:XK}{EX:EXD}{a b c d e f u:TS}{dt du:DS}{i:Nat}
theorem Bb(h:RS (e9 a b) dt)(hu:RS u du):RS (e9 a (e9 b u)) (zT dt du):=L1 (zF h hu)
end
end
end L2
namespace HT
open PySem PyProof.Rows
section
open PySem.SeqAt
open PySem.AutoSeq1 (wpAny_loadPart')
open PySem.MeetsSeq PySem.MeetsSeq2 PySem.MeetsSeq3
theorem lexLt_self:∀ns:List Int,lexLt ns ns=false
 | []=>rfl
 |x::xs=>by rw[lexLt_cons,cg rfl,lexLt_self xs]
end
end HT
namespace HT
open PySem PyProof.Rows
theorem Fa:typeLookup (.type "tuple") "keys" = pure none:=am_miss_of_fast (by decide +kernel)
set_option maxRecDepth 8000 in
theorem IL{prog:gc}{w:gy}{A:ip}{E:bp->bq->Prop}{s:bq}{a:Addr}{o:Obj}{xs:Array bp}{k:Nat}{Q:Option bp->bq->Prop}
  (hx:s.heap.get? a=some o) (hc:o.cls=.type "tuple") (hdat:o.data=.seq xs k) (hd:o.dict=none) (hA:A.handled=none)
  (h:∀h' tk,(∀b ob,s.heap.get? b=some ob->h'.get? b=some ob)->Q none { s with heap:=h',toks:=tk }):
  dh (model prog w) A (getAttr? (.ref a) "keys") Q E s:=by
 obtain⟨c,ae,ac,sl⟩:=o;simp only at hc hdat hd;subst hc hdat hd;obtain⟨hp,g,d,tk,os⟩:=s;have hT:∀aa,(⟨hp,g,d,aa,os⟩:bq).TypeIs (.ref a) "tuple":=fun _=>⟨_,hx,rfl⟩;have f1:=sub_AttributeError;have f3:=F.slot_tuple_getattribute.lookup;have f4:=F.slot_tuple_getattribute.bind (.ref a);have f5:=am_tuple_getattr_none;have q:(["__module__","__name__","__qualname__","__doc__","__annotations__"]:List Str).contains ("keys":Str)=false:=by decide +kernel
 unfold getAttr? getAttrBy? getAttrBy
 repeat (any_goals (first|assumption|exact hT _|((with_reducible show dh _ _ (call (Value.builtin "tuple.__getattribute__") _ _) _ _ _);refine call_meets F.slot_tuple_getattribute (hT _) am_entry_tuple_getattribute (F.args_tuple_getattribute_2 _ _) (meets_getattribute_miss_tuple a xs k sl "keys" _ Fa q) ⟨hx,hA,fun h' aa e ab=>?_⟩)|wp_step))
 obtain⟨t',u',he⟩:=ab.there;show dh _ _ (getattributeRaised _ _ _ _ _ _ _) _ _ _;unfold getattributeRaised
 repeat (any_goals (first|assumption|wp_step))
 exact h _ _ ab.keeps
theorem Cr:entryFor table "dict.update.loop" = some Builtin.«dict.update.loop»:=entryFor_of_tree (by kernel_rfl)
theorem tB:plainId "dict.update.loop" = true:=by decide +kernel
section
variable {prog:gc}{w:gy}{K:Type} [DecidableEq K] {knd:PySem.KeyKind prog w K}
def EF(acc kvs:List (K×bp)):List (K×bp):=kvs.foldl (fun a p=>stored a p.1 p.2) acc
def PairsAt(knd:PySem.KeyKind prog w K)(ap:List Addr)(h:Heap)(vs:List bp)(kvs:List (K×bp)):Prop:=Paired (fun v kv=>∃b key,v=ga b/\b∉ap/\knd.is kv.1 key=true/\IsTup h b #[key,kv.2]) vs kvs
theorem PairsAt.keeps{ap:List Addr}{h h':Heap}{vs:List bp}{kvs:List (K×bp)}(r:PairsAt knd ap h vs kvs)(k:∀b o,b∉ap->h.get? b=some o->h'.get? b=some o):PairsAt knd ap h' vs kvs:=by
 unfold PairsAt at *;induction r with
 |nil=>exact .nil
 |cons x t ih=>
  obtain⟨b,key,e,nb,hk,o,g,c⟩:=x;exact .cons ⟨b,key,e,nb,hk,o,k b o nb g,c⟩ ih
theorem JR(kvs:List (K×bp))(k:K)(v:bp):(stored kvs k v).length<=kvs.length+1:=by
 unfold stored;split<;>simp
theorem LW{A:ip}{R:Result->bq->Prop}{I S:Addr}{fp wr:List Addr}{n:Nat}{P:Nat->bp->Prop}{St:Nat->Heap->Prop}{items:List bp}(W:Walks prog w A.in1 I fp wr n P St)(ae:S∉fp)(hP:∀i v,P i v->items[i]?=some v):
  ∀(kvs:List (K×bp)) (i:Nat) (s:bq) (acc:List (K×bp)),kvs.length+i=n->St i s.heap->s.heap.DictOf knd S acc->PairsAt knd (S::wr) s.heap (items.drop i) kvs->acc.length+kvs.length<=1000 ->
   (∀h' tk,h'.DictOf knd S (EF acc kvs)->(∀b o,b∉S::wr->s.heap.get? b=some o->h'.get? b=some o)->R (.ok (.ret .none)) { s with heap:=h',toks:=tk }) ->
   codeAny (model prog w) A (.builtin "dict.update.loop" ⟨[.ref S,.ref I,rawInt i,.none],[]⟩) R s:=by
 have ab:S∉wr:=fun h=>ae (W.sub _ h);intro kvs;induction kvs with
 |nil=>
  intro i s acc hn q hS hp hl hR;have hi:i=n:=by simpa using hn
  subst hi;refine rf Cr ?_;rw[oh tB _];show dh _ A.in1 (pyNext (.ref I) >>= _) _ _ s;refine bo (W.done s _ _ q fun h' tk hm=>?_);show dh _ A.in1 (Builtin.Dict.addKeywords S [] >>= _) _ _ _;refine bo (cq (cq (hR h' tk ?_ fun b o nb e=>hm b o (fun z=>nb (cu _ z)) e)));obtain⟨o,es,ep,ho,r⟩:=hS;exact⟨o,es,ep,hm S _ ab ho,r⟩
 |cons kv kvs ih=>
  intro i s acc hn q hS hp hl hR;have ah:i<n:=by rw[ft]at hn;omega
  refine rf Cr ?_;rw[oh tB _];show dh _ A.in1 (pyNext (.ref I) >>= _) _ _ s;refine bo (W.item i s _ _ ah q fun v h' tk al ag hm=>?_);have ev:=hP i v al;have ed:items.drop i=v::items.drop (i+1):=by
   obtain⟨ai,rfl⟩:=List.getElem?_eq_some_iff.mp ev;exact lh ai
  rw[ed]at hp;have ac:=hp.keeps (h':=h') fun b o nb e=>hm b o (fun z=>nb (cu _ z)) e;unfold PairsAt at ac;cases ac with
  |cons x t=>
   obtain⟨b,key,rfl,nb,hk,⟨cls,dd,data,sl⟩,ho,hc,m,hd⟩:=x;simp only at hc hd;subst hc hd;have ak:h'.DictOf knd S acc:=by
    obtain⟨o,es,ep,ho,r⟩:=hS;exact⟨o,es,ep,hm S _ ab ho,r⟩
   have hT:({ s with heap:=h',toks:=tk }:bq).TypeIs (.ref b) "tuple":=⟨_,ho,rfl⟩;dsimp only;refine bo (km (bo (wpAny_tryCatch ?_)));unfold Builtin.Dict.pairItems;refine bo (wpAny_typeOf hT ?_);rw[cg dz];have hz:acc.length<=fe:=by rw[ft]at hl;rw[jv];omega
   have af:∀(Q:Unit->bq->Prop) (E:bp->bq->Prop),(∀h2,h2.DictOf knd S (stored acc kv.1 kv.2)->iu S h' h2->Q () { s with heap:=h2,toks:=tk+1 })->dh (model prog w) A.in1 (dictSet S key kv.2) Q E { s with heap:=h',toks:=tk } :=
    fun Q E hQ=>wpAny_dictSet_pairs (s:={ s with heap:=h',toks:=tk }) hk ak hQ hz
   wp_walk using PySem.AutoSeq1.wpAny_loadPart' ho,af
   intro h2 hD aa
   wp_walk
   have hc:((i:Int)+1)=((i+1:Nat):Int):=by push_cast;rfl
   rw[hc];have nS:∀{c:Addr},c∈fp->c≠S:=fun m z=>ae (z▸m);refine⟨qy tB _,ih (i+1) _ (stored acc kv.1 kv.2) (by rw[ft]at hn;omega) (W.frame _ _ _ ag fun c m o e=>?_) hD (PairsAt.keeps t fun c o nc e=>?_) ?_ fun h3 am aj k3=>hR h3 am aj fun c o nc e=>k3 c o nc ?_⟩
   ·rw[aa.2 c (nS m)];exact e
   ·rw[aa.2 c (fun z=>nc (by rw[z];exact df))];exact e
   ·have:=JR acc kv.1 kv.2;rw[ft]at hl;omega
   ·show h2.get? c=some o;rw[aa.2 c (fun z=>nc (by rw[z];exact df))];exact hm c o (fun z=>nc (cu _ z)) e
theorem call_dictP{A:ip}{E:bp->bq->Prop}{s:bq}{p:Addr}{op:Obj}{items:Array bp}{nn:Nat}{kvs:List (K×bp)}{Q:bp->bq->Prop}(hp:s.heap.get? p=some op)(hc:op.cls=.type "tuple")(aa:op.data=.seq items nn)(hd:op.dict=none)
  (hh:A.handled=none) (hpr:∀ap:List Addr,(∀a∈ap,s.heap.objs.size<=a)->PairsAt knd ap s.heap items.toList kvs) (hk:kvs.length=items.size) (hl:kvs.length<=1000)
  (h:∀h' tk,h'.DictOf knd s.heap.objs.size (EF [] kvs)->(∀b o,s.heap.get? b=some o->h'.get? b=some o)->Q (.ref s.heap.objs.size) { s with heap:=h',toks:=tk }):
  dh (model prog w) A (call (.type "dict") [.ref p]) Q E s:=by
 refine callType_codes (Q₁:=fun obj s₁=>obj=.ref s.heap.objs.size/\s₁ = { s with heap:=s.heap.push { cls:=.type "dict",data:=.dict #[] } }) PySem.F.kt_called_dict (PySem.F.kt_typeCall_dict_1 _) PySem.F.entry_dict_init (kt_code_dict_new _ ⟨rfl,rfl⟩) ?_;rintro obj s₁ ⟨rfl,rfl⟩;have q:(s.heap.push { cls:=.type "dict",data:=.dict #[] }).DictOf knd s.heap.objs.size []:=Heap.DictOf.new s.heap;have ac:(s.heap.push { cls:=.type "dict",data:=.dict #[] }).get? p=some op:=cp _ hp;have hT:({ s with heap:=s.heap.push { cls:=.type "dict",data:=.dict #[] } }:bq).TypeIs (.ref p) "tuple":=⟨_,ac,hc⟩;have ai:=gg hp;refine⟨q.typeIs,PySem.F.args_dict_init_2 _ _,?_⟩;unfold Builtin.«dict.__init__»;refine bo ?_;unfold Builtin.Dict.selfAndRest;refine bo (wpAny_notOrdered_dict q.typeIs ?_);show dh _ _ (pure (s.heap.objs.size,[ga p])) _ _ _;refine cq ?_;show dh _ _ (Builtin.Dict.updateFrom "dict.__init__" s.heap.objs.size (.ref p) [] .none) _ _ _;unfold Builtin.Dict.updateFrom;refine bo (wpAny_typeOf hT ?_);rw[cg dz];refine bo (IL (A:=A.in1.in1) ac hc aa hd hh fun h2 ah k2=>?_);rw[cg (show (none:Option bp).isNone=true from rfl)];refine bo (mn ?_);have ae:=k2 _ _ ac;have ag:h2.IsTuple p items:=⟨_,ae,hc,nn,aa⟩;refine bo (qa (s:={ s with heap:=h2,toks:=ah }) ag ?_);have g0:∃o,h2.get? s.heap.objs.size=some o:=by
  obtain⟨o,es,ep,ho,r⟩:=id q;exact⟨o,k2 _ _ ho⟩
 obtain⟨o0,g0⟩:=g0;have ab:s.heap.objs.size<h2.objs.size:=gg g0;have af:p<h2.objs.size:=gg ae;have hS:(h2.push { cls:=.type "tuple_iterator",data:=.fields #[.ref p,.int 0 0] }).DictOf knd s.heap.objs.size []:=by
  obtain⟨o,es,ep,ho,r⟩:=q;exact⟨o,es,ep,cp _ (k2 _ _ ho),r⟩
 refine cq ⟨qy tB _,?_⟩;refine LW (knd:=knd) (A:=A.in1) (items:=items.toList) (Walks.tuple (A:=A.in1.in1) hh h2.objs.size p (ig af) items) ?_ ?_ kvs 0 _ [] ?_ ?_ hS ?_ ?_ ?_
 ·simp only[ix,gk,or_false,not_or];exact⟨ig ab,ne_of_gt ai⟩
 ·intro i v e;rw[qk];exact e
 ·omega
 ·exact⟨⟨_,fj _ rfl,rfl,rfl⟩,ag.at fun o e=>cp _ e⟩
 ·rw[drop_zero];refine PairsAt.keeps (hpr _ fun a m=>?_) fun b o nb e=>cp _ (k2 _ _ (cp _ e));simp only[ix,gk,or_false]at m;rcases m with rfl|rfl
  ·exact ff _
  ·exact ku ab
 ·simpa using hl
 ·intro h3 aj hD k3;refine⟨rfl,h h3 aj hD fun b o e=>k3 b o (fun m=>?_) (cp _ (k2 _ _ (cp _ e)))⟩;have:=gg e;simp only[ix,gk,or_false]at m;rcases m with z|z
  ·rw[z]at this;exact absurd this (lj _)
  ·rw[z]at this;exact absurd (Nat.lt_trans this ab) (lj _)
end
end HT
namespace L2
open PySem PySem.Spec PySem.Calls PyProof.Rows
def uU(kvs:List (Key×V)):List (Key×V):=kvs.foldl (fun a p=>cJ a p.1 p.2) []
def PrV(H:Hp):List V->List (Key×V)->Prop:=Paired fun v kv=>∃b,v=.ref b/\H b=some (.tup [kV kv.1,kv.2])
def An:List V->Hp->VK->Prop:=fun xs H Q=>∃p ws kvs,xs=[.ref p]/\H p=some (.tup ws)/\PrV H ws kvs/\kvs.length<=1000/\∀l,H l=none->Q (.ref l) (upd H l (.dK (uU kvs)))
theorem Hq(a:List (Key×V))(k:Key)(v:V):(cJ a k v).length<=a.length+1:=by
 unfold cJ;split<;>simp
theorem Bi:∀(kvs acc:List (Key×V)),(kvs.foldl (fun a p=>cJ a p.1 p.2) acc).length<=acc.length+kvs.length
 | [],acc=>by simp
 |p::r,acc=>by
  rw[qw,ft];have h1:=Bi r (cJ acc p.1 p.2);have h2:=Hq acc p.1 p.2;omega
theorem Ey{kvs:List (Key×V)}{vs:List (Key×bp)}(r:KV kvs vs):∀{acc:List (Key×V)}{aa:List (Key×bp)},KV acc aa->KV (kvs.foldl (fun a p=>cJ a p.1 p.2) acc) (vs.foldl (fun a p=>stored a p.1 p.2) aa):=by
 unfold KV at r;induction r with
 |nil=>intro acc aa h;exact h
 | @cons p q ps qs h t ih=>
  intro acc aa ha;rw[qw,qw];refine ih ?_;rw[<- h.1];exact ha.put p.1 h.2
section
variable {X:Cx}
theorem JM{zk:List (Addr×Obj)}{σ:St}{H:Hp}{s:bq}(I:Inv X zk σ H s):∀{ws:List V}{kvs:List (Key×V)}{aa:List bp},PrV H ws kvs->Vals ws aa ->
  ∃q:List (Key×bp),KV kvs q/\∀ap:List Addr,(∀a∈ap,s.heap.objs.size<=a)->HT.PairsAt (cX X.prog X.w) ap s.heap aa q:=by
 intro ws kvs aa pr;unfold PrV at pr;induction pr generalizing aa with
 |nil=>
  intro rv;cases rv;exact⟨[],.nil,fun _ _=>.nil⟩
 | @cons v kv ws kvs h t ih=>
  intro rv;cases rv with
  |cons r rv=>
   obtain⟨b,rfl,hb⟩:=h;cases r;obtain⟨q,hk,hp⟩:=ih rv;obtain⟨_,is,r2,o,g,c,n,e⟩:=(show ObjOk X.prog X.w H s.heap b (.tup [kV kv.1,kv.2])from I.hok b _ hb);cases r2 with
   |cons ra r2=>cases r2 with
    | @cons _ u2 _ _ rb r2=>
     cases r2;refine⟨(kv.1,u2)::q,.cons ⟨rfl,rb⟩ hk,fun ap ha=>.cons ⟨b,_,rfl,fun m=>?_,rQ ra,o,g,c,n,e⟩ (hp ap ha)⟩;exact absurd (io (gg g) (ha b m)) (lj _)
theorem Co(hc:X.calm=true):CallR X (.type "dict") An:=by
 intro zk s σ H xs us Q I r h;obtain⟨p,ws,kvs,rfl,hp,pr,hl,q⟩:=h;obtain⟨u,rfl,rx⟩:=vals1 r;cases rx;obtain⟨⟨hz,o1,g1,d1⟩,ae,rv,o2,g2,c2,n2,e2⟩:=(show ObjOk X.prog X.w H s.heap p (.tup ws)from I.hok p _ hp);rw[g1]at g2;cases g2;obtain⟨aa,ab,ac⟩:=JM I pr rv;have l1:kvs.length=aa.length:=Paired.length ab;have l2:ws.length=kvs.length:=Paired.length pr;have l3:=rv.length;refine HT.call_dictP (knd:=cX X.prog X.w) (items:=ae.toArray) (kvs:=aa) g1 c2 e2 d1 (I.ok.hd hc) (by simpa using ac) (by simp;omega) yw fun h' tk hD kp=>?_;have ln:=Bi kvs [];exact⟨.ref s.heap.objs.size,_,I.laid (t':=tk) kp (ff _) (show ObjOk X.prog X.w _ h' _ (.dK (uU kvs))from⟨by unfold uU;rw[jv];simp at ln;omega,beq_eq_false_iff_ne.mpr (jg (ig I.big)),_,Ey ab .nil,hD⟩),rfl,q _ (I.hok.fresh (ff _))⟩
end
def p0(kvs:List (Key×bn)):List (Key×bn):=kvs.foldl (fun m p=>ptA m p.1 p.2) []
theorem Cl{H:Hp}:∀{kvs:List (Key×bn)}{kv':List (Key×V)},HasM H kvs kv'->∀{acc:List (Key×bn)}{acc':List (Key×V)},HasM H acc acc'->HasM H (kvs.foldl (fun m p=>ptA m p.1 p.2) acc) (kv'.foldl (fun a p=>cJ a p.1 p.2) acc')
 | [],_,q,acc,acc',ha=>by
  have e:_=[]:=q;subst e;exact ha
 |p::r,_,⟨v,t,e,q,l⟩,acc,acc',ha=>by
  subst e;rw[qw,qw];exact Cl l (ha.put q)
theorem Cp{h o:List Addr}{H:Hp}:∀{kvs:List (Key×bn)}{ws:List V},HasL (vx h o H) (kvs.map fun p=>cr [kD p.1,p.2]) ws->∃q,PrV H ws q/\HasM (vx h o H) kvs q
 | [],ws,l=>by
  have e:=zR.mp l;subst e;exact⟨[],.nil,rfl⟩
 |p::r,ws,l=>by
  obtain⟨v,t,rfl,hv,l⟩:=zG.mp l;obtain⟨q,pr,hm⟩:=Cp l;obtain⟨b,vs,rfl,eb,lb⟩:=eQ.mp hv;obtain⟨v1,r1,rfl,h1,k1⟩:=zG.mp lb;obtain⟨v2,r2,rfl,h2,k2⟩:=zG.mp k1;have e3:=zR.mp k2;subst e3;have e4:v1=kV p.1:=by
   cases hp:p.1 with
   |inl i=>rw[hp]at h1;exact fY.mp h1
   |inr x=>rw[hp]at h1;exact iB.mp h1
  subst e4;exact⟨(p.1,v2)::q,.cons ⟨b,rfl,cF _ _ eb⟩ pr,⟨v2,q,rfl,h2,hm⟩⟩
def jC(da:DA):DE:=fun δ S R=>da δ S fun xs S1=>arg1 xs fun x=>asT x fun ds=>∃kvs:List (Key×bn),ds=kvs.map (fun p=>.tuple [kD p.1,p.2])/\kvs.length<=1000/\R (.d (.dict (DD.pairs (.k (p0 kvs))))) S1
theorem Lg{ta:TA}{da:DA}(ha:RA ta da):RE (wU (tCB An ta)) (jC da):=fun h o H δ σ S R Q he hs q c=>
 ha h o H δ σ S _ _ he hs q fun o1 H1 S1 xs vs e1 s1 x1 d0=>by
  obtain⟨x,rfl,d1⟩:=dD d0;replace d1:=hX d1;obtain⟨ds,rfl,kvs,rfl,hl,d2⟩:=d1;obtain⟨v,rfl,hv⟩:=hxs1 x1;obtain⟨a,ws,rfl,ea,l⟩:=eW hv;obtain⟨aa,pr,hm⟩:=Cp l;have ln:aa.length<=1000:=by rw[hm.length];exact hl
  refine⟨a,ws,aa,rfl,ea,pr,ln,fun p hp=>⟨p,_,rfl,dM,fun ob=>?_⟩⟩;rw[E9];refine(c.pre e1) o1 _ S1 (.d (.dict (DD.pairs (.k (p0 kvs))))) _ (Ex.of_same (Same.laid hp)) (s1.same (Same.laid hp)) ?_ d2;show Has _ _ _;exact Az.mpr ⟨p,ob,uU aa,rfl,s1.laid hp,HasM.mono (l5 (Same.laid hp)) (Cl hm rfl)⟩
end L2
namespace L2
open PySem PyProof.Rows
def CI:Bool->cv->Array cv->Nat->Nat->Nat->StateT gq Sem (Option Nat):=sortPriv% PySem.Builtin.gallop
def IN:Array cv->Array cv->StateT gq Sem (Array cv):=sortPriv% PySem.Builtin.mergeLo
def GL:Array cv->Array cv->StateT gq Sem (Array cv):=sortPriv% PySem.Builtin.mergeHi
structure LtOk(prog:gc)(w:gy)(A:ip)(E:bp->bq->Prop)(s:bq)(kd:ow)(D:cv->Prop)(lt:cv->cv->Bool):Prop where
 ask:∀x y (st:gq) (Q:Option Bool->gq->Prop),D x->D y->kindOf st=kd->Q (some (lt x y)) st->wpS (model prog w) A E s (lt' x y) Q st
 asym:∀x y,D x->D y->lt x y=true->lt y x=false
 tr:∀x y z,D x->D y->D z->lt y x=false->lt z y=false->lt z x=false
section
variable {prog:gc}{w:gy}{A:ip}{E:bp->bq->Prop}{s:bq}{kd:ow}{D:cv->Prop}{lt:cv->cv->Bool}
theorem zQ{aa:Array cv}{i:Nat}{x:cv}{Q:cv->gq->Prop}{st:gq}(h:aa[i]?=some x)(q:Q x st):wpS (model prog w) A E s (elem' aa i) Q st:=by
 rw[elem'_eq,h];exact ci q
def bey(lt:cv->cv->Bool)(left:Bool)(key x:cv):Bool:=if left=true then lt x key else !lt key x
theorem rA(O:LtOk prog w A E s kd D lt){left:Bool}{key x:cv}{aa:Array cv}{i:Nat}{Q:Option Bool->gq->Prop}{st:gq}(hk:kindOf st=kd)(hD:D key)(hg:aa[i]?=some x)(hx:D x)(q:Q (some (bey lt left key x)) st):
  wpS (model prog w) A E s (do
   let y <- elem' aa i
   if left=true then lt' y key
    else do
     let r <- lt' key y
     pure (Option.map (fun b=>!b) r)) Q st:=by
 refine ca (zQ hg ?_);unfold bey at q;by_cases h:left=true
 ·rw[cg h]at q ⊢;exact O.ask _ _ _ _ hx hD hk q
 ·rw[cf h]at q ⊢;exact ca (O.ask _ _ _ _ hD hx hk (ci q))
theorem A5{n:Nat}{p:Nat->Bool}{α:Type}{f:Nat->Option α×Nat×Nat->StateT gq Sem (ForInStep (Option α×Nat×Nat))}{Q:Option α×Nat×Nat->gq->Prop}{st:gq}
  (hf:∀x lo hi (Q':ForInStep (Option α×Nat×Nat)->gq->Prop),hi<=n->(hi<=lo->Q' (.done (none,lo,hi)) st)->(lo<hi->p (lo+(hi-lo)/2)=true->Q' (.yield (none,lo+(hi-lo)/2+1,hi)) st) ->
   (lo<hi->p (lo+(hi-lo)/2)=false->Q' (.yield (none,lo,lo+(hi-lo)/2)) st)->wpS (model prog w) A E s (f x (none,lo,hi)) Q' st)
  (hmono:∀i j,i<=j->j<n->p j=true->p i=true) {lo hi:Nat} (h1:lo<=hi) (h2:hi<=n) (h3:∀i,i<lo->p i=true) (h4:∀i,hi<=i->i<n->p i=false)
  (q:∀k,k<=n->(∀i,i<k->p i=true)->(∀i,k<=i->i<n->p i=false)->Q (none,k,k) st):wpS (model prog w) A E s (forIn [:n] (none,lo,hi) f) Q st:=by
 refine gz (I:=fun k c st'=>st'=st/\∃lo hi,c=(none,lo,hi)/\lo<=hi/\hi<=n/\hi-lo+k<=n/\(∀i,i<lo->p i=true)/\∀i,hi<=i->i<n->p i=false) ?step ?fin ⟨rfl,lo,hi,rfl,h1,h2,yw,h3,h4⟩
 case fin=>
  rintro c st' ⟨rfl,lo,hi,rfl,a1,a2,a3,a4,a5⟩;have:lo=hi:=yw
  subst this;exact q lo a2 a4 a5
 case step=>
  rintro k c st' _ af ⟨rfl,lo,hi,rfl,a1,a2,a3,a4,a5⟩;refine hf k lo hi _ a2 (fun ae=>?_) (fun ab hp=>?_) fun ab hp=>?_
  ·have:lo=hi:=yw
   subst this;exact q lo a2 a4 a5
  ·refine⟨rfl,_,_,rfl,yw,a2,yw,fun i aa=>?_,a5⟩;exact hmono i (lo+(hi-lo)/2) yw yw hp
  ·refine⟨rfl,_,_,rfl,yw,yw,yw,a4,fun i aa ac=>?_⟩;cases hpi:p i with
   |false=>rfl
   |true=>rw[hmono (lo+(hi-lo)/2) i aa ac hpi]at hp;cases hp
theorem Jv(O:LtOk prog w A E s kd D lt){left:Bool}{key:cv}{af:Array cv}{base n hint:Nat}{Q:Option Nat->gq->Prop}{st:gq}(hk:kindOf st=kd)(hD:D key)(g:Nat->cv)(hg:∀i,i<n->af[base+i]?=some (g i))(ab:∀i,i<n->D (g i))
  (hmono:∀i j,i<=j->j<n->bey lt left key (g j)=true->bey lt left key (g i)=true) (hh:hint<n)
  (q:∀k,k<=n->(∀i,i<k->bey lt left key (g i)=true)->(∀i,k<=i->i<n->bey lt left key (g i)=false)->Q (some k) st):wpS (model prog w) A E s (CI left key af base n hint) Q st:=by
 have ae:∀i j,i<=j->j<n->bey lt left key (g i)=false->bey lt left key (g j)=false:=fun i j h1 h2 h3=>by
  cases h:bey lt left key (g j)with
  |false=>rfl
  |true=>rw[hmono i j h1 h2 h]at h3;cases h3
 refine ca (rA O hk hD (hg hint hh) (ab hint hh) ?_);cases hb:bey lt left key (g hint)with
 |true=>
  simp only[if_true];refine ca (kj (gz (I:=fun k c st'=>st'=st/\∃la aa,c=(none,la,aa)/\la<aa/\k+1<=aa/\hint+la<n/\bey lt left key (g (hint+la))=true)
   (Q:=fun c st'=>st'=st/\∃la aa,c=(none,la,aa)/\la<aa/\hint+la<n/\bey lt left key (g (hint+la))=true/\(n-hint<=aa\/(hint+aa<n/\bey lt left key (g (hint+aa))=false))) ?step ?fin ⟨rfl,0,1,rfl,yw,yw,yw,hb⟩) ?post)
  case step=>
   rintro k c st' _ ag ⟨rfl,la,aa,rfl,h1,h2,h3,h4⟩;by_cases ho:aa≥n-hint
   ·rw[cg ho];exact ci ⟨rfl,la,aa,rfl,h1,h3,h4,.inl ho⟩
   ·rw[cf ho];have hn:hint+aa<n:=yw
    refine ca (rA O hk hD (hg _ hn) (ab _ hn) ?_);cases hb2:bey lt left key (g (hint+aa))with
    |true=>exact ci ⟨rfl,aa,2*aa+1,rfl,yw,yw,hn,hb2⟩
    |false=>exact ci ⟨rfl,la,aa,rfl,h1,h3,h4,.inr ⟨hn,hb2⟩⟩
  case fin=>
   rintro c st' ⟨rfl,la,aa,rfl,h1,h2,h3,h4⟩;exact⟨rfl,la,aa,rfl,h1,h3,h4,.inl yw⟩
  case post=>
   rintro c st' ⟨rfl,la,aa,rfl,h1,h3,h4,h5⟩;dsimp only;refine ca (A5 (p:=fun i=>bey lt left key (g i)) ?hf hmono yw yw (fun i hi=>hmono i (hint+la) yw h3 h4) (fun i hi ac=>?_) fun k k1 k2 k3=>?_)
   case hf=>
    intro x lo hi Q' hn e1 e2 e3;by_cases ho:lo≥hi
    ·rw[cg ho];exact ci (e1 ho)
    ·rw[cf ho];have hm:lo+(hi-lo)/2<n:=yw
     refine ca (rA O hk hD (hg _ hm) (ab _ hm) ?_);dsimp only;cases hb2:bey lt left key (g (lo+(hi-lo)/2))with
     |true=>exact ci (e2 yw hb2)
     |false=>exact ci (e3 yw hb2)
   ·rcases h5 with h5|⟨h5,h6⟩
    ·omega
    ·exact ae (hint+aa) i yw ac h6
   ·exact ci (q k k1 k2 k3)
 |false=>
  simp only[fg,if_false];refine ca (kj (gz (I:=fun k c st'=>st'=st/\∃la aa,c=(none,la,aa)/\la<aa/\k+1<=aa/\la<=hint/\bey lt left key (g (hint-la))=false)
   (Q:=fun c st'=>st'=st/\∃la aa,c=(none,la,aa)/\la<aa/\la<=hint/\bey lt left key (g (hint-la))=false/\(hint+1<=aa\/(aa<=hint/\bey lt left key (g (hint-aa))=true))) ?step ?fin ⟨rfl,0,1,rfl,yw,yw,yw,hb⟩) ?post)
  case step=>
   rintro k c st' _ ag ⟨rfl,la,aa,rfl,h1,h2,h3,h4⟩;by_cases ho:aa≥hint+1
   ·rw[cg ho];exact ci ⟨rfl,la,aa,rfl,h1,h3,h4,.inl ho⟩
   ·rw[cf ho];have hn:hint-aa<n:=yw
    refine ca (rA O hk hD (hg _ hn) (ab _ hn) ?_);cases hb2:bey lt left key (g (hint-aa))with
    |true=>exact ci ⟨rfl,la,aa,rfl,h1,h3,h4,.inr ⟨yw,hb2⟩⟩
    |false=>exact ci ⟨rfl,aa,2*aa+1,rfl,yw,yw,yw,hb2⟩
  case fin=>
   rintro c st' ⟨rfl,la,aa,rfl,h1,h2,h3,h4⟩;exact⟨rfl,la,aa,rfl,h1,h3,h4,.inl yw⟩
  case post=>
   rintro c st' ⟨rfl,la,aa,rfl,h1,h3,h4,h5⟩;dsimp only;refine ca (A5 (p:=fun i=>bey lt left key (g i)) ?hf hmono yw yw (fun i hi=>?_) (fun i hi ac=>ae (hint-la) i yw ac h4) fun k k1 k2 k3=>?_)
   case hf=>
    intro x lo hi Q' hn e1 e2 e3;by_cases ho:lo≥hi
    ·rw[cg ho];exact ci (e1 ho)
    ·rw[cf ho];have hm:lo+(hi-lo)/2<n:=yw
     refine ca (rA O hk hD (hg _ hm) (ab _ hm) ?_);dsimp only;cases hb2:bey lt left key (g (lo+(hi-lo)/2))with
     |true=>exact ci (e2 yw hb2)
     |false=>exact ci (e3 yw hb2)
   ·rcases h5 with h5|⟨h5,h6⟩
    ·omega
    ·exact hmono i (hint-aa) yw yw h6
   ·exact ci (q k k1 k2 k3)
def SrtL(lt:cv->cv->Bool)(l:List cv):Prop:=l.Pairwise fun x y=>lt y x=false
structure MI(lt:cv->cv->Bool)(L0 out A B:List cv):Prop where
 pm:(out++(A++B)).Perm L0
 so:SrtL lt out
 le:∀x∈out,∀y∈A++B,lt y x=false
 sa:SrtL lt A
 sb:SrtL lt B
theorem CT{l:List cv}{x:cv}(h:SrtL lt l)(k:∀y∈l,lt x y=false):SrtL lt (l++[x]):=by
 unfold SrtL at *;rw[List.pairwise_append];exact⟨h,yv,fun y m z mz=>by rw[mem_singleton.mp mz];exact k y m⟩
theorem MI.takeA{L0 out A B:List cv}{x:cv}(h:MI lt L0 out (x::A) B)(k:∀y∈B,lt y x=false):MI lt L0 (out++[x]) A B:=by
 have sa:=h.sa;unfold SrtL at sa;rw[pairwise_cons]at sa;refine⟨by rw[gv];exact h.pm,CT h.so fun y m=>h.le y m x yv,fun z mz y my=>?_,sa.2,h.sb⟩;rcases mem_append.mp mz with mz|mz
 ·exact h.le z mz y (by rcases mem_append.mp my with m|m<;>simp[m])
 ·rw[mem_singleton.mp mz];rcases mem_append.mp my with m|m
  ·exact sa.1 y m
  ·exact k y m
theorem MI.takeB{L0 out A B:List cv}{y:cv}(h:MI lt L0 out A (y::B))(k:∀x∈A,lt x y=false):MI lt L0 (out++[y]) A B:=by
 have sb:=h.sb;unfold SrtL at sb;rw[pairwise_cons]at sb;refine⟨?_,CT h.so fun x m=>h.le x m y yv,fun z mz x mx=>?_,h.sa,sb.2⟩
 ·refine .trans ?_ h.pm;rw[gv];refine List.Perm.append_left _ ?_;exact(List.perm_middle (a:=y) (l₁:=A) (l₂:=B)).symm
 ·rcases mem_append.mp mz with mz|mz
  ·exact h.le z mz x (by rcases mem_append.mp mx with m|m<;>simp[m])
  ·rw[mem_singleton.mp mz];rcases mem_append.mp mx with m|m
   ·exact k x m
   ·exact sb.1 x m
theorem MI.takesA{L0:List cv}:∀{X out A B:List cv},MI lt L0 out (X++A) B->(∀x∈X,∀y∈B,lt y x=false)->MI lt L0 (out++X) A B
 | [],out,A,B,h,_=>by simpa using h
 |x::X,out,A,B,h,k=>by
  have:=MI.takesA (MI.takeA h (k x df)) fun z m=>k z (cu _ m);simpa using this
theorem MI.takesB{L0:List cv}:∀{Y out A B:List cv},MI lt L0 out A (Y++B)->(∀y∈Y,∀x∈A,lt x y=false)->MI lt L0 (out++Y) A B
 | [],out,A,B,h,_=>by simpa using h
 |y::Y,out,A,B,h,k=>by
  have:=MI.takesB (MI.takeB h (k y df)) fun z m=>k z (cu _ m);simpa using this
def MDone(lt:cv->cv->Bool)(L0 l:List cv):Prop:=l.Perm L0/\SrtL lt l
theorem MI.doneA{L0 out A:List cv}(h:MI lt L0 out A []):MDone lt L0 (out++A):=by
 refine⟨by simpa using h.pm,?_⟩;unfold SrtL;rw[List.pairwise_append];exact⟨h.so,h.sa,fun x m y m'=>h.le x m y (by simpa using m')⟩
theorem MI.lastA{L0 out B:List cv}{x:cv}(h:MI lt L0 out [x] B)(k:∀y∈B,lt x y=false):MDone lt L0 (out++B++[x]):=by
 have h2:MI lt L0 (out++B) [x] []:=MI.takesB (B:=[]) (by simpa using h) fun y m z mz=>by rw[mem_singleton.mp mz];exact k y m
 exact h2.doneA
def sameSt(st st':gq):Prop:=kindOf st'=kindOf st/\ck st'=ck st/\cw st'=cw st/\qz st'=qz st
theorem sameSt.rfl'{st:gq}:sameSt st st:=⟨rfl,rfl,rfl,rfl⟩
theorem LtOk.irr(O:LtOk prog w A E s kd D lt){x:cv}(h:D x):lt x x=false:=by
 cases e:lt x x with
 |false=>rfl
 |true=>rw[O.asym x x h h e]at e;cases e
theorem dQ(O:LtOk prog w A E s kd D lt){l:List cv}(h:SrtL lt l)(hD:∀x∈l,D x){i j:Nat}{x y:cv}(ij:i<=j)(hx:l[i]?=some x)(hy:l[j]?=some y):lt y x=false:=by
 rcases Nat.lt_or_eq_of_le ij with h1|h1
 ·obtain⟨hi,ex⟩:=List.getElem?_eq_some_iff.mp hx;obtain⟨hj,ey⟩:=List.getElem?_eq_some_iff.mp hy;have:=List.pairwise_iff_getElem.mp h i j hi hj h1;rw[ex,ey]at this;exact this
 ·subst h1;rw[hx]at hy;cases hy;exact O.irr (hD x (bu hx))
theorem iW{l:List cv}{i:Nat}{x:cv}(h:l[i]?=some x):l.drop i=x::l.drop (i+1):=by
 obtain⟨hi,e⟩:=List.getElem?_eq_some_iff.mp h;rw[lh hi,e]
theorem dL{a:Array cv}{i:Nat}(h:i<a.size):∃x,a[i]?=some x/\a.toList[i]?=some x:=⟨a[i],by simp[h],by simp[h]⟩
theorem iV{l:List cv}{i:Nat}{y:cv}(h:y∈l.drop i):∃j,i<=j/\l[j]?=some y:=by
 obtain⟨j,hj⟩:=mem_iff_getElem?.mp h;rw[qo]at hj;exact⟨i+j,yw,hj⟩
structure MInv(lt:cv->cv->Bool)(a b out:Array cv)(ia ib:Nat):Prop where
 mi:MI lt (a.toList++b.toList) out.toList (a.toList.drop ia) (b.toList.drop ib)
 ha:ia+1<a.size
 hb:ib<b.size
section
variable {a b out:Array cv}{ia ib:Nat}
theorem MInv.stepB(O:LtOk prog w A E s kd D lt)(q:∀x∈a.toList,D x)(aa:∀x∈b.toList,D x)(ab:SrtL lt a.toList){x y:cv}(h:MInv lt a b out ia ib)(hx:a.toList[ia]?=some x)(hy:b.toList[ib]?=some y)(l:lt y x=true):
  MI lt (a.toList++b.toList) (out.push y).toList (a.toList.drop ia) (b.toList.drop (ib+1)):=by
 have m:=h.mi;rw[iW hy]at m;have:=m.takeB fun z mz=>by
  obtain⟨j,hj,ez⟩:=iV mz;have Dx:=q x (bu hx);have Dy:=aa y (bu hy);have Dz:=q z (bu ez);exact O.tr y x z Dy Dx Dz (O.asym y x Dy Dx l) (dQ O ab q hj hx ez)
 simpa using this
theorem MInv.stepA(O:LtOk prog w A E s kd D lt)(aa:∀x∈a.toList,D x)(q:∀x∈b.toList,D x)(ab:SrtL lt b.toList){x y:cv}(h:MInv lt a b out ia ib)(hx:a.toList[ia]?=some x)(hy:b.toList[ib]?=some y)(l:lt y x=false):
  MI lt (a.toList++b.toList) (out.push x).toList (a.toList.drop (ia+1)) (b.toList.drop ib):=by
 have m:=h.mi;rw[iW hx]at m;have:=m.takeA fun z mz=>by
  obtain⟨j,hj,ez⟩:=iV mz;exact O.tr x y z (aa x (bu hx)) (q y (bu hy)) (q z (bu ez)) l (dQ O ab q hj hy ez)
 simpa using this
theorem mT(a:Array cv)(i:Nat):(a.extract i a.size).toList=a.toList.drop i:=by
 rw[ni,jp,ls yv]
theorem mJ(q:ib=b.size)(m:MI lt (a.toList++b.toList) out.toList (a.toList.drop ia) (b.toList.drop ib)):MDone lt (a.toList++b.toList) (out++a.extract ia a.size++b.extract ib b.size).toList:=by
 have e:b.toList.drop ib=[]:=List.drop_of_length_le (by simp[q]);rw[je,je,mT,mT,e,kn];rw[e]at m;exact m.doneA
theorem LH(q:ia=a.size)(m:MI lt (a.toList++b.toList) out.toList (a.toList.drop ia) (b.toList.drop ib)):MDone lt (a.toList++b.toList) (out++a.extract ia a.size++b.extract ib b.size).toList:=by
 have e:a.toList.drop ia=[]:=List.drop_of_length_le (by simp[q]);rw[je,je,mT,mT,e,kn];rw[e]at m;have h2:MI lt (a.toList++b.toList) (out.toList++b.toList.drop ib) [] []:=MI.takesB (B:=[]) (by simpa using m) (fun y my x mx=>by cases mx);have:=h2.doneA;simpa using this
theorem k7(hl:∀x,a[a.size-1]?=some x->∀y∈b.toList,lt x y=false)(h1:ia+1=a.size)(m:MI lt (a.toList++b.toList) out.toList (a.toList.drop ia) (b.toList.drop ib)):MDone lt (a.toList++b.toList) (out++b.extract ib b.size++a.extract ia a.size).toList:=by
 obtain⟨x,e1,e2⟩:=dL (a:=a) (i:=ia) yw;have ed:a.toList.drop ia=[x]:=by
  rw[iW e2,List.drop_of_length_le (by simp;omega)]
 rw[ed]at m;have hx:=hl x (by rw[show a.size-1=ia by omega];exact e1);have:=m.lastA fun y my=>hx y (lu my);rw[je,je,mT,mT,ed];exact this
end
theorem gal(O:LtOk prog w A E s kd D lt){left:Bool}{key:cv}{aa:Array cv}{base n hint:Nat}{Q:Option Nat->gq->Prop}{st:gq}(hk:kindOf st=kd)(Dk:D key)(hD:∀j,base<=j->j<base+n->∃x,aa[j]?=some x/\D x)
  (hs:∀i j x y,base<=i->i<=j->j<base+n->aa[i]?=some x->aa[j]?=some y->lt y x=false) (hh:hint<n)
  (q:∀k,k<=n->(∀j x,base<=j->j<base+k->aa[j]?=some x->bey lt left key x=true)->(∀j x,base+k<=j->j<base+n->aa[j]?=some x->bey lt left key x=false)->Q (some k) st):wpS (model prog w) A E s (CI left key aa base n hint) Q st:=by
 have hg:∀i,i<n->aa[base+i]?=some ((aa[base+i]?).getD key):=fun i hi=>by
  obtain⟨x,e,_⟩:=hD (base+i) yw yw;rw[e];rfl
 have ab:∀i,i<n->D ((aa[base+i]?).getD key):=fun i hi=>by
  obtain⟨x,e,d⟩:=hD (base+i) yw yw;rw[e];exact d
 refine Jv O hk Dk (fun i=>(aa[base+i]?).getD key) hg ab (fun i j ae hj hb=>?_) hh fun k k1 k2 k3=>q k k1 (fun j x h1 h2 e=>?_) fun j x h1 h2 e=>?_
 ·have s1:=hs (base+i) (base+j) _ _ yw yw yw (hg i yw) (hg j hj);have Di:=ab i yw;have Dj:=ab j hj
  try dsimp only at hb ⊢
  generalize (aa[base+i]?).getD key=x at s1 Di ⊢;generalize (aa[base+j]?).getD key=y at s1 Dj hb;cases left with
  |true=>
   unfold bey at hb ⊢;rw[cg rfl]at hb ⊢;cases hx:lt x key with
   |true=>rfl
   |false=>rw[O.tr key x y Dk Di Dj hx s1]at hb;cases hb
  |false=>
   unfold bey at hb ⊢;rw[cf dz]at hb ⊢;have ac:lt key y=false:=by simpa using hb
   rw[O.tr x y key Di Dj Dk s1 ac];rfl
 ·have:=k2 (j-base) yw
  try dsimp only at this
  rw[show base+(j-base)=j by omega,e]at this;exact this
 ·have:=k3 (j-base) yw yw
  try dsimp only at this
  rw[show base+(j-base)=j by omega,e]at this;exact this
theorem wI{a:Array cv}{i k:Nat}:(a.extract i (i+k)).toList=(a.toList.drop i).take k:=by
 rw[ni,jp,Nat.add_sub_cancel_left]
theorem uA{l:List cv}{i k:Nat}{x:cv}(h:x∈(l.drop i).take k):∃j,i<=j/\j<i+k/\l[j]?=some x:=by
 obtain⟨j,hj⟩:=mem_iff_getElem?.mp h;rw[getElem?_take]at hj;split at hj
 ·rw[qo]at hj;exact⟨i+j,yw,yw,hj⟩
 ·cases hj
theorem lX(a:Array cv)(i:Nat):a.extract i (i+0) = #[]:=by
 apply Array.toList_inj.mp;rw[wI,take_zero]
section
variable {a b out:Array cv}{ia ib k:Nat}{L0:List cv}
theorem Hz(m:MI lt L0 out.toList (a.toList.drop ia) (b.toList.drop ib))(h:∀j x,ia<=j->j<ia+k->a.toList[j]?=some x->∀y∈b.toList.drop ib,lt y x=false):MI lt L0 (out++a.extract ia (ia+k)).toList (a.toList.drop (ia+k)) (b.toList.drop ib):=by
 rw[je,wI];refine MI.takesA ?_ fun x mx y my=>?_
 ·rw[<- List.drop_drop,ky];exact m
 ·obtain⟨j,h1,h2,e⟩:=uA mx;exact h j x h1 h2 e y my
theorem Bo(m:MI lt L0 out.toList (a.toList.drop ia) (b.toList.drop ib))(h:∀j y,ib<=j->j<ib+k->b.toList[j]?=some y->∀x∈a.toList.drop ia,lt x y=false):MI lt L0 (out++b.extract ib (ib+k)).toList (a.toList.drop ia) (b.toList.drop (ib+k)):=by
 rw[je,wI];refine MI.takesB ?_ fun x mx y my=>?_
 ·rw[<- List.drop_drop,ky];exact m
 ·obtain⟨j,h1,h2,e⟩:=uA mx;exact h j x h1 h2 e y my
theorem rY(m:MI lt L0 out.toList (a.toList.drop ia) (b.toList.drop ib)){x:cv}(hx:a.toList[ia]?=some x)(h:∀y∈b.toList.drop ib,lt y x=false):MI lt L0 (out.push x).toList (a.toList.drop (ia+1)) (b.toList.drop ib):=by
 rw[iW hx]at m;have:=m.takeA h;simpa using this
theorem CS(m:MI lt L0 out.toList (a.toList.drop ia) (b.toList.drop ib)){y:cv}(hy:b.toList[ib]?=some y)(h:∀x∈a.toList.drop ia,lt x y=false):MI lt L0 (out.push y).toList (a.toList.drop ia) (b.toList.drop (ib+1)):=by
 rw[iW hy]at m;have:=m.takeB h;simpa using this
end
theorem bC{a:Array cv}{i:Nat}{x:cv}:a[i]?=some x↔a.toList[i]?=some x:=by simp
theorem fin3{prog:gc}{w:gy}{A:ip}{E:bp->bq->Prop}{s:bq}{τ:Type}{P C:Prop}{_:Decidable P}{f g:StateT gq Sem τ}{Q':τ->gq->Prop}{st':gq}(hf:C->wpS (model prog w) A E s f Q' st')(hg:C->wpS (model prog w) A E s g Q' st')(h:C):wpS (model prog w) A E s (if P then f else g) Q' st':=by
 split
 ·exact hf h
 ·exact hg h
theorem KK(O:LtOk prog w A E s kd D lt){a b:Array cv}{Q:Array cv->gq->Prop}{st:gq}(hk:kindOf st=kd)(az:∀x∈a.toList,D x)(a1:∀x∈b.toList,D x)(ha:SrtL lt a.toList)(hb:SrtL lt b.toList)(aa:1<=a.size)(ab:1<=b.size)
  (h0:∀y,b[0]?=some y->∀x∈a.toList,lt x y=false) (hl:∀x,a[a.size-1]?=some x->∀y∈b.toList,lt x y=false)
  (q:∀(out:Array cv) st',MDone lt (a.toList++b.toList) out.toList->sameSt st st'->Q out st'):wpS (model prog w) A E s (IN a b) Q st:=by
 refine ca (wpS_lift (mn ⟨rfl,?_⟩));obtain⟨y0,bh,bi⟩:=dL (a:=b) (i:=0) (by clear aa;omega);refine ca (zQ bh ?_);have m0:MI lt (a.toList++b.toList) [] a.toList b.toList:=⟨List.Perm.refl _,List.Pairwise.nil,(fun x m=>by cases m),ha,hb⟩;have m1:MI lt (a.toList++b.toList) (#[y0]:Array cv).toList (a.toList.drop 0) (b.toList.drop 1):=by
  have e:b.toList=y0::b.toList.drop 1:=by have:=iW bi;simpa using this
  have m2:MI lt (a.toList++b.toList) [] a.toList (y0::b.toList.drop 1):=by
   have:=m0
   conv at this=>arg 5;rw[e]
   exact this
  have:=m2.takeB (h0 y0 bh);simpa using this
 by_cases c1:1=b.size
 ·rw[cg (by simpa using c1)];exact ci (q _ _ (mJ c1 m1) sameSt.rfl')
 rw[cf (by simpa using c1)];by_cases c2:0+1=a.size
 ·rw[cg (by simpa using c2)];exact ci (q _ _ (k7 hl c2 m1) sameSt.rfl')
 rw[cf (by simpa using c2)];refine ca (rg ?_);have be:∀{out:Array cv}{ia ib:Nat},MInv lt a b out ia ib->ia+ib<a.size+b.size:=fun h=>by have:=h.ha;have:=h.hb;(clear c2 c1 ab aa;omega)
 refine ca (kj (gz
  (I:=fun k c st'=>sameSt st st'/\∃out ia ib mg,c=(none,out,ia,ib,mg)/\MInv lt a b out ia ib/\k<ia+ib)
  (Q:=fun c st'=>sameSt st st'/\∃r rest,c=(some r,rest)/\MDone lt (a.toList++b.toList) r.toList) ?step ?fin ⟨sameSt.rfl',#[y0],0,1,_,rfl,⟨m1,by clear c1 ab;omega,by clear c2 aa;omega⟩,by clear c2 c1 ab aa;omega⟩) ?post)
 case fin=>
  rintro c st' ⟨a9,out,ia,ib,mg,rfl,hm,ae⟩;have:=be hm
  (clear c2 c1 ab aa;omega)
 case post=>
  rintro c st' ⟨a9,r,rest,rfl,hd⟩;exact ci (q r st' hd a9)
 case step=>
  rintro k c st' _ af ⟨a9,out,ia,ib,mg,rfl,hm,ae⟩;refine ca (kj (gz
   (I:=fun j c st'=>sameSt st st'/\∃aq av ar ac bc,c=(none,aq,av,ar,ac,bc)/\MInv lt a b aq av ar/\j+(ia+ib)<=av+ar)
   (Q:=fun c st'=>sameSt st st'/\((∃r rest,c=(some r,rest)/\MDone lt (a.toList++b.toList) r.toList)\/∃aq av ar ac bc,c=(none,aq,av,ar,ac,bc)/\MInv lt a b aq av ar/\ia+ib<av+ar)) ?step1 ?fin1 ⟨a9,out,ia,ib,0,0,rfl,hm,by clear ae af c2 c1 ab aa;omega⟩) ?post1)
  case fin1=>
   rintro c ba ⟨aw,aq,av,ar,ac,bc,rfl,a0,ah⟩;have:=be a0
   (clear ae af c2 c1 ab aa;omega)
  case step1=>
   rintro j c ba _ hj ⟨aw,aq,av,ar,ac,bc,rfl,a0,ah⟩;obtain⟨y,ey,a5⟩:=dL (a:=b) (i:=ar) a0.hb;obtain⟨x,ex,ex'⟩:=dL (a:=a) (i:=av) (by have:=a0.ha;(clear ah hj ae af c2 c1 ab aa;omega));have Dx:=az x (bu ex');have Dy:=a1 y (bu a5);have am:kindOf ba=kd:=aw.1.trans hk;refine ca (zQ ey (ca (zQ ex (ca (O.ask y x ba _ Dy Dx am ?_)))));cases hlt2:lt y x with
   |true=>
    have ms:=a0.stepB O az a1 ha ex' a5 hlt2;simp only[if_true];refine ca (zQ ey ?_);by_cases c3:ar+1=b.size
    ·rw[cg (by simpa using c3)];exact ci ⟨aw,.inl ⟨_,_,rfl,mJ c3 ms⟩⟩
    ·rw[cf (by simpa using c3)];have ay:MInv lt a b (aq.push y) av (ar+1):=⟨ms,a0.ha,by have:=a0.hb;(clear ah hj ae af c2 c1 ab aa;omega)⟩;by_cases c4:bc+1≥mg
     ·rw[cg c4];exact ci ⟨aw,.inr ⟨_,_,_,_,_,rfl,ay,by clear c4 c3 hj ae af c2 c1 ab aa;omega⟩⟩
     ·rw[cf c4];exact ci ⟨aw,_,_,_,_,_,rfl,ay,by clear c4 c3 hj ae af c2 c1 ab aa;omega⟩
   |false=>
    have ms:=a0.stepA O az a1 hb ex' a5 hlt2;simp only[fg,if_false];refine ca (zQ ex ?_);by_cases c3:av+1+1=a.size
    ·rw[cg (by simpa using c3)];exact ci ⟨aw,.inl ⟨_,_,rfl,k7 hl c3 ms⟩⟩
    ·rw[cf (by simpa using c3)];have ay:MInv lt a b (aq.push x) (av+1) ar:=⟨ms,by have:=a0.ha;(clear ah hj ae af c2 c1 ab aa;omega),a0.hb⟩;by_cases c4:ac+1≥mg
     ·rw[cg c4];exact ci ⟨aw,.inr ⟨_,_,_,_,_,rfl,ay,by clear c4 c3 hj ae af c2 c1 ab aa;omega⟩⟩
     ·rw[cf c4];exact ci ⟨aw,_,_,_,_,_,rfl,ay,by clear c4 c3 hj ae af c2 c1 ab aa;omega⟩
  case post1=>
   rintro c ba ⟨aw,hc⟩;rcases hc with ⟨r,rest,rfl,hd⟩|⟨aq,av,ar,ac,bc,rfl,a0,ah⟩
   ·dsimp only;exact ci ⟨aw,_,_,rfl,hd⟩
   ·dsimp only;refine ca (wpS_lift (mn ⟨rfl,?_⟩));refine ca (kj (gz
     (I:=fun j c st'=>sameSt st st'/\∃ap an ao a4 a6 a7,c=(none,ap,an,ao,a4,a6,a7)/\MInv lt a b ap an ao/\j+(av+ar)<=an+ao)
     (Q:=fun c st'=>sameSt st st'/\((∃r rest,c=(some r,rest)/\MDone lt (a.toList++b.toList) r.toList)\/∃ap an ao a4 a6 a7,c=(none,ap,an,ao,a4,a6,a7)/\MInv lt a b ap an ao/\av+ar<=an+ao)) ?step2 ?a2 ⟨aw,aq,av,ar,_,_,_,rfl,a0,by clear ah ae af c2 c1 ab aa;omega⟩) ?post2)
    case a2=>
     rintro c bd ⟨au,ap,an,ao,a4,a6,a7,rfl,ay,ag⟩;have:=be ay
     (clear ah ae af c2 c1 ab aa;omega)
    case post2=>
     rintro c bd ⟨au,hc⟩;rcases hc with ⟨r,rest,rfl,hd⟩|⟨ap,an,ao,a4,a6,a7,rfl,ay,ag⟩
     ·dsimp only;exact ci ⟨au,_,_,rfl,hd⟩
     ·dsimp only;refine ca (kz (ci ⟨⟨au.1,au.2.1,au.2.2.1,au.2.2.2⟩,ap,an,ao,_,rfl,ay,by clear af c2 c1 ab aa;omega⟩))
    case step2=>
     rintro j c bd _ hj ⟨au,ap,an,ao,a4,a6,a7,rfl,ay,ag⟩;obtain⟨y,ey,a5⟩:=dL (a:=b) (i:=ao) ay.hb;have ai:=ay.ha;have aj:=ay.hb;have Dy:=a1 y (bu a5);have aD:∀j,j<a.size->∃x,a[j]?=some x/\D x:=fun j hj=>by
      obtain⟨x,e,e'⟩:=dL (a:=a) hj;exact⟨x,e,az x (bu e')⟩
     have bD:∀j,j<b.size->∃x,b[j]?=some x/\D x:=fun j hj=>by
      obtain⟨x,e,e'⟩:=dL (a:=b) hj;exact⟨x,e,a1 x (bu e')⟩
     dsimp only;have a2:∀(P:Prop) (_:Decidable P) (f g:StateT gq Sem (ForInStep (Option (Array cv)×Array cv×Nat×Nat×Nat×Nat×Nat))) (Q':ForInStep (Option (Array cv)×Array cv×Nat×Nat×Nat×Nat×Nat)->gq->Prop) (st':gq),wpS (model prog w) A E s f Q' st'->wpS (model prog w) A E s g Q' st'->wpS (model prog w) A E s (if P then f else g) Q' st':=fun P _ f g Q' st' h1 h2=>by
      split
      ·exact h1
      ·exact h2
     refine fin3 (C:=?C3) ?f3 ?g3 ?h3
     case f3=>intro h;generalize a4-1=m0;revert m0;exact h
     case g3=>intro h;generalize a4=m0;revert m0;exact h
     intro m0
     all_goals
      refine ca (kz ?_);refine ca (zQ ey ?_);refine ca (gal O (au.1.trans hk) Dy (fun j h1 h2=>aD j (by clear h1 aj ag hj ah ae af c2 c1 ab aa;omega)) (fun i j x z h1 h2 h3 e1 e2=>dQ O ha az h2 (bC.mp e1) (bC.mp e2)) (by clear aj ag hj ah ae af c2 c1 ab aa;omega) fun k1 ak g1 g2=>?_);dsimp only;have al:sameSt st bd:=au
      have bl:MI lt (a.toList++b.toList) (ap++a.extract an (an+k1)).toList (a.toList.drop (an+k1)) (b.toList.drop ao):=Hz ay.mi fun j x h1 h2 e z mz=>by
       have:=g1 j x h1 h2 (bC.mpr e);obtain⟨j2,ax,ez⟩:=iV mz;have l1:lt y x=false:=by simpa[bey]using this
       exact O.tr x y z (az x (bu e)) Dy (a1 z (bu ez)) l1 (dQ O hb a1 ax a5 ez)
      have gt:∀x∈a.toList.drop (an+k1),lt x y=false:=fun x mx=>by
       obtain⟨j2,ax,ex⟩:=iV mx;have a3:=(List.getElem?_eq_some_iff.mp ex).1;have:=g2 j2 x ax (by simp at a3;(clear ax ak aj ai ag hj ah ae af c2 c1 ab aa;omega)) (bC.mpr ex);have l1:lt y x=true:=by simpa[bey]using this
       exact O.asym y x Dy (az x (bu ex)) l1
      have bj:k1=0->(ap++a.extract an (an+k1))=ap:=fun z=>by subst z;rw[lX,Array.append_empty]
      have go:∀(outA:Array cv) (iaA:Nat) (mgA acA:Nat),MI lt (a.toList++b.toList) outA.toList (a.toList.drop iaA) (b.toList.drop ao)->(∀x∈a.toList.drop iaA,lt x y=false)->an<=iaA->iaA+1<a.size->True:=fun _ _ _ _ _ _ _ _=>trivial;by_cases c5:k1>0
      ·rw[cg c5];by_cases c6:an+k1+1=a.size
       ·rw[cg (by simpa using c6)];exact ci ⟨al,.inl ⟨_,_,rfl,k7 hl c6 bl⟩⟩
       rw[cf (by simpa using c6)];by_cases c7:an+k1=a.size
       ·rw[cg (by simpa using c7)];exact ci ⟨al,.inl ⟨_,_,rfl,LH c7 bl⟩⟩
       rw[cf (by simpa using c7)];refine ca (zQ ey ?_);have mb:=CS bl a5 gt;by_cases d1:ao+1=b.size
       ·rw[cg (by simpa using d1)];exact ci ⟨al,.inl ⟨_,_,rfl,mJ d1 mb⟩⟩
       rw[cf (by simpa using d1)];obtain⟨x,ex,ex'⟩:=dL (a:=a) (i:=(an+k1)) (by clear d1 c6 c5 aj ag hj ah ae af c2 c1 ab aa;omega);have Dx:=az x (bu ex');refine ca (zQ ex ?_);refine ca (gal O (au.1.trans hk) Dx (fun j h1 h2=>bD j (by clear h1 d1 c7 c6 c5 ak ai ag hj ah ae af c2 c1 ab aa;omega)) (fun i j x z h1 h2 h3 e1 e2=>dQ O hb a1 h2 (bC.mp e1) (bC.mp e2)) (by clear c7 c6 c5 ak ai ag hj ah ae af c2 c1 ab aa;omega) fun k2 am f1 f2=>?_);dsimp only;have bb:=Bo (k:=k2) mb fun j z h1 h2 e x2 bf=>by
        have:=f1 j z h1 h2 (bC.mpr e);obtain⟨j2,ax,a8⟩:=iV bf;have Dz:=a1 z (bu e);have l1:lt z x=true:=by simpa[bey]using this
        exact O.tr z x x2 Dz Dx (az x2 (bu a8)) (O.asym z x Dz Dx l1) (dQ O ha az ax ex' a8)
       have gb:∀z∈b.toList.drop (ao+1+k2),lt z x=false:=fun z mz=>by
        obtain⟨j2,ax,ez⟩:=iV mz;have a3:=(List.getElem?_eq_some_iff.mp ez).1;have:=f2 j2 z ax (by simp at a3;(clear ax am d1 c7 c6 c5 ak aj ai ag hj ah ae af c2 c1 ab aa;omega)) (bC.mpr ez);simpa[bey]using this
       by_cases d2:k2>0
       ·rw[cg d2];by_cases d3:ao+1+k2=b.size
        ·rw[cg (by simpa using d3)];exact ci ⟨al,.inl ⟨_,_,rfl,mJ d3 bb⟩⟩
        rw[cf (by simpa using d3)];refine ca (zQ ex ?_);have mf:=rY bb ex' gb;by_cases d4:(an+k1)+1+1=a.size
        ·rw[cg (by simpa using d4)];exact ci ⟨al,.inl ⟨_,_,rfl,k7 hl d4 mf⟩⟩
        rw[cf (by simpa using d4)];refine a2 _ _ _ _ _ _ ?_ ?_
        ·exact ci ⟨al,.inr ⟨_,_,_,_,_,_,rfl,⟨mf,by clear d3 d2 am d1 c5 aj ag hj ah ae af c2 c1 ab aa;omega,by clear d4 d2 d1 c7 c6 c5 ak ai ag hj ah ae af c2 c1 ab aa;omega⟩,by clear d4 d3 d2 am d1 c7 c6 c5 ak aj ai hj ah ae af c2 c1 ab aa;omega⟩⟩
        ·exact ci ⟨al,_,_,_,_,_,_,rfl,⟨mf,by clear d3 d2 am d1 c5 aj ag hj ah ae af c2 c1 ab aa;omega,by clear d4 d2 d1 c7 c6 c5 ak ai ag hj ah ae af c2 c1 ab aa;omega⟩,by clear d4 d3 d2 am d1 c7 c6 c5 ak aj ai hj ah ae af c2 c1 ab aa;omega⟩
       ·rw[cf d2];have bg:k2=0:=by clear am d1 c7 c6 c5 ak aj ai ag hj ah ae af c2 c1 ab aa;omega
        subst bg;have ee:∀o:Array cv,o++b.extract (ao+1) (ao+1+0)=o:=fun o=>by rw[lX,Array.append_empty]
        rw[ee,sf]at bb;rw[sf]at gb;refine ca (zQ ex ?_);have mf:=rY bb ex' gb;by_cases d4:(an+k1)+1+1=a.size
        ·rw[cg (by simpa using d4)];exact ci ⟨al,.inl ⟨_,_,rfl,k7 hl d4 mf⟩⟩
        rw[cf (by simpa using d4)];refine a2 _ _ _ _ _ _ ?_ ?_
        ·exact ci ⟨al,.inr ⟨_,_,_,_,_,_,rfl,⟨mf,by clear d2 am d1 c5 aj ag hj ah ae af c2 c1 ab aa;omega,by clear d4 d2 am c7 c6 c5 ak ai ag hj ah ae af c2 c1 ab aa;omega⟩,by clear d4 d2 am d1 c7 c6 c5 ak aj ai hj ah ae af c2 c1 ab aa;omega⟩⟩
        ·exact ci ⟨al,_,_,_,_,_,_,rfl,⟨mf,by clear d2 am d1 c5 aj ag hj ah ae af c2 c1 ab aa;omega,by clear d4 d2 am c7 c6 c5 ak ai ag hj ah ae af c2 c1 ab aa;omega⟩,by clear d4 d2 am d1 c7 c6 c5 ak aj ai hj ah ae af c2 c1 ab aa;omega⟩
      ·rw[cf c5];have k0:k1=0:=by clear ak aj ai ag hj ah ae af c2 c1 ab aa;omega
       subst k0;rw[bj rfl,sf]at bl;rw[sf]at gt;refine ca (zQ ey ?_);have mb:=CS bl a5 gt;by_cases d1:ao+1=b.size
       ·rw[cg (by simpa using d1)];exact ci ⟨al,.inl ⟨_,_,rfl,mJ d1 mb⟩⟩
       rw[cf (by simpa using d1)];obtain⟨x,ex,ex'⟩:=dL (a:=a) (i:=an) (by clear d1 c5 ak aj ag hj ah ae af c2 c1 ab aa;omega);have Dx:=az x (bu ex');refine ca (zQ ex ?_);refine ca (gal O (au.1.trans hk) Dx (fun j h1 h2=>bD j (by clear h1 d1 c5 ak ai ag hj ah ae af c2 c1 ab aa;omega)) (fun i j x z h1 h2 h3 e1 e2=>dQ O hb a1 h2 (bC.mp e1) (bC.mp e2)) (by clear c5 ak ai ag hj ah ae af c2 c1 ab aa;omega) fun k2 am f1 f2=>?_);dsimp only;have bb:=Bo (k:=k2) mb fun j z h1 h2 e x2 bf=>by
        have:=f1 j z h1 h2 (bC.mpr e);obtain⟨j2,ax,a8⟩:=iV bf;have Dz:=a1 z (bu e);have l1:lt z x=true:=by simpa[bey]using this
        exact O.tr z x x2 Dz Dx (az x2 (bu a8)) (O.asym z x Dz Dx l1) (dQ O ha az ax ex' a8)
       have gb:∀z∈b.toList.drop (ao+1+k2),lt z x=false:=fun z mz=>by
        obtain⟨j2,ax,ez⟩:=iV mz;have a3:=(List.getElem?_eq_some_iff.mp ez).1;have:=f2 j2 z ax (by simp at a3;(clear ax am d1 c5 ak aj ai ag hj ah ae af c2 c1 ab aa;omega)) (bC.mpr ez);simpa[bey]using this
       by_cases d2:k2>0
       ·rw[cg d2];by_cases d3:ao+1+k2=b.size
        ·rw[cg (by simpa using d3)];exact ci ⟨al,.inl ⟨_,_,rfl,mJ d3 bb⟩⟩
        rw[cf (by simpa using d3)];refine ca (zQ ex ?_);have mf:=rY bb ex' gb;by_cases d4:an+1+1=a.size
        ·rw[cg (by simpa using d4)];exact ci ⟨al,.inl ⟨_,_,rfl,k7 hl d4 mf⟩⟩
        rw[cf (by simpa using d4)];refine a2 _ _ _ _ _ _ ?_ ?_
        ·exact ci ⟨al,.inr ⟨_,_,_,_,_,_,rfl,⟨mf,by clear d3 d2 am d1 c5 ak aj ag hj ah ae af c2 c1 ab aa;omega,by clear d4 d2 d1 c5 ak ai ag hj ah ae af c2 c1 ab aa;omega⟩,by clear d4 d3 d2 am d1 c5 ak aj ai hj ah ae af c2 c1 ab aa;omega⟩⟩
        ·exact ci ⟨al,_,_,_,_,_,_,rfl,⟨mf,by clear d3 d2 am d1 c5 ak aj ag hj ah ae af c2 c1 ab aa;omega,by clear d4 d2 d1 c5 ak ai ag hj ah ae af c2 c1 ab aa;omega⟩,by clear d4 d3 d2 am d1 c5 ak aj ai hj ah ae af c2 c1 ab aa;omega⟩
       ·rw[cf d2];have bg:k2=0:=by clear am d1 c5 ak aj ai ag hj ah ae af c2 c1 ab aa;omega
        subst bg;have ee:∀o:Array cv,o++b.extract (ao+1) (ao+1+0)=o:=fun o=>by rw[lX,Array.append_empty]
        rw[ee,sf]at bb;rw[sf]at gb;refine ca (zQ ex ?_);have mf:=rY bb ex' gb;by_cases d4:an+1+1=a.size
        ·rw[cg (by simpa using d4)];exact ci ⟨al,.inl ⟨_,_,rfl,k7 hl d4 mf⟩⟩
        rw[cf (by simpa using d4)];refine a2 _ _ _ _ _ _ ?_ ?_
        ·exact ci ⟨al,.inr ⟨_,_,_,_,_,_,rfl,⟨mf,by clear d2 am d1 c5 ak aj ag hj ah ae af c2 c1 ab aa;omega,by clear d4 d2 am c5 ak ai ag hj ah ae af c2 c1 ab aa;omega⟩,by clear d4 d2 am d1 c5 ak aj ai hj ah ae af c2 c1 ab aa;omega⟩⟩
        ·exact ci ⟨al,_,_,_,_,_,_,rfl,⟨mf,by clear d2 am d1 c5 ak aj ag hj ah ae af c2 c1 ab aa;omega,by clear d4 d2 am c5 ak ai ag hj ah ae af c2 c1 ab aa;omega⟩,by clear d4 d2 am d1 c5 ak aj ai hj ah ae af c2 c1 ab aa;omega⟩
def flt(lt:cv->cv->Bool):cv->cv->Bool:=fun x y=>lt y x
theorem MDone.rev{L0 l:List cv}(h:MDone (flt lt) L0 l):MDone lt L0 l.reverse:=by
 refine⟨(List.reverse_perm l).trans h.1,?_⟩;unfold SrtL;rw[List.pairwise_reverse];exact h.2
theorem wT{l:List cv}{i:Nat}{x:cv}(h:l[i]?=some x):(l.take (i+1)).reverse=x::(l.take i).reverse:=by
 rw[ke,h];simp
theorem jJ{l:List cv}{i:Nat}{y:cv}(h:y∈(l.take i).reverse):∃j,j<i/\l[j]?=some y:=by
 obtain⟨j,hj⟩:=mem_iff_getElem?.mp (mem_reverse.mp h);rw[getElem?_take]at hj;split at hj
 ·exact⟨j,by assumption,hj⟩
 ·cases hj
theorem mH(a:Array cv)(n:Nat):(a.extract 0 n).toList=a.toList.take n:=by
 rw[ni,jp];simp
theorem BZ{l:List cv}(h:SrtL lt l)(n:Nat):SrtL (flt lt) (l.take n).reverse:=by
 unfold SrtL;rw[List.pairwise_reverse];exact List.Pairwise.sublist (List.take_sublist n l) h
section
variable {a b out:Array cv}{na nb k:Nat}{L0:List cv}
theorem yF(m:MI (flt lt) L0 out.toList (a.toList.take (na+1)).reverse (b.toList.take nb).reverse){x:cv}(hx:a.toList[na]?=some x)(h:∀y∈(b.toList.take nb).reverse,lt x y=false):MI (flt lt) L0 (out.push x).toList (a.toList.take na).reverse (b.toList.take nb).reverse:=by
 rw[wT hx]at m;have:=m.takeA h;simpa using this
theorem Bn(m:MI (flt lt) L0 out.toList (a.toList.take na).reverse (b.toList.take (nb+1)).reverse){y:cv}(hy:b.toList[nb]?=some y)(h:∀x∈(a.toList.take na).reverse,lt y x=false):MI (flt lt) L0 (out.push y).toList (a.toList.take na).reverse (b.toList.take nb).reverse:=by
 rw[wT hy]at m;have:=m.takeB h;simpa using this
theorem uB{n:Nat}(hn:n=na+1)(m:MI (flt lt) L0 out.toList (a.toList.take n).reverse (b.toList.take nb).reverse){x:cv}(hx:a.toList[na]?=some x)(h:∀y∈(b.toList.take nb).reverse,lt x y=false):MI (flt lt) L0 (out.push x).toList (a.toList.take na).reverse (b.toList.take nb).reverse:=by
 subst hn;exact yF m hx h
theorem DV{n:Nat}(hn:n=nb+1)(m:MI (flt lt) L0 out.toList (a.toList.take na).reverse (b.toList.take n).reverse){y:cv}(hy:b.toList[nb]?=some y)(h:∀x∈(a.toList.take na).reverse,lt y x=false):MI (flt lt) L0 (out.push y).toList (a.toList.take na).reverse (b.toList.take nb).reverse:=by
 subst hn;exact Bn m hy h
theorem D6{l:List cv}{i n:Nat}(h:i<=n):(l.take n).reverse=((l.drop i).take (n-i)).reverse++(l.take i).reverse:=by
 rw[<- List.reverse_append];congr 1;have:=List.take_add (l:=l) (i:=i) (j:=n-i);rw[show i+(n-i)=n by omega]at this;exact this
theorem BP(a:Array cv){i n:Nat}(h:i<=n):(a.extract i n).reverse.toList=((a.toList.drop i).take (n-i)).reverse:=by
 rw[Array.toList_reverse,ni,jp]
theorem GE(m:MI (flt lt) L0 out.toList (a.toList.take na).reverse (b.toList.take nb).reverse)(hk:k<=na)(h:∀j x,k<=j->j<na->a.toList[j]?=some x->∀y∈(b.toList.take nb).reverse,lt x y=false):MI (flt lt) L0 (out++(a.extract k na).reverse).toList (a.toList.take k).reverse (b.toList.take nb).reverse:=by
 rw[je,BP a hk];rw[D6 hk]at m;refine MI.takesA m fun x mx y my=>?_;obtain⟨j,h1,h2,e⟩:=uA (mem_reverse.mp mx);exact h j x h1 (by clear h1;omega) e y my
theorem AW(m:MI (flt lt) L0 out.toList (a.toList.take na).reverse (b.toList.take nb).reverse)(hk:k<=nb)(h:∀j y,k<=j->j<nb->b.toList[j]?=some y->∀x∈(a.toList.take na).reverse,lt y x=false):MI (flt lt) L0 (out++(b.extract k nb).reverse).toList (a.toList.take na).reverse (b.toList.take k).reverse:=by
 rw[je,BP b hk];rw[D6 hk]at m;refine MI.takesB m fun x mx y my=>?_;obtain⟨j,h1,h2,e⟩:=uA (mem_reverse.mp mx);exact h j x h1 yw e y my
theorem jS(h0:na=0)(m:MI (flt lt) L0 out.toList (a.toList.take na).reverse (b.toList.take nb).reverse):MDone lt L0 (a.extract 0 na++b.extract 0 nb++out.reverse).toList:=by
 subst h0;have h2:MI (flt lt) L0 (out.toList++(b.toList.take nb).reverse) [] []:=MI.takesB (B:=[]) (by simpa using m) (fun y my x mx=>by cases mx);have:=h2.doneA.rev;rw[je,je,mH,mH,Array.toList_reverse];simpa using this
theorem By(h0:nb=0)(m:MI (flt lt) L0 out.toList (a.toList.take na).reverse (b.toList.take nb).reverse):MDone lt L0 (a.extract 0 na++b.extract 0 nb++out.reverse).toList:=by
 subst h0;have h1:MI (flt lt) L0 out.toList (a.toList.take na).reverse []:=by simpa using m
 have:=h1.doneA.rev;rw[je,je,mH,mH,Array.toList_reverse];simpa using this
theorem l7(hf:∀y,b[0]?=some y->∀x∈a.toList,lt x y=false)(h1:nb=1)(q:1<=b.size)(m:MI (flt lt) L0 out.toList (a.toList.take na).reverse (b.toList.take nb).reverse):MDone lt L0 (b.extract 0 nb++a.extract 0 na++out.reverse).toList:=by
 subst h1;obtain⟨y,e1,e2⟩:=dL (a:=b) (i:=0) yw;have ed:(b.toList.take (0+1)).reverse=[y]:=by rw[wT e2];simp
 rw[show (1:Nat)=0+1 from rfl,ed]at m;have h2:MI (flt lt) L0 (out.toList++(a.toList.take na).reverse) [] [y]:=MI.takesA (A:=[]) (by simpa using m) fun x mx z mz=>by
  rw[mem_singleton.mp mz];exact hf y e1 x (nq (mem_reverse.mp mx))
 have h3:MI (flt lt) L0 (out.toList++(a.toList.take na).reverse++[y]) [] []:=MI.takesB (B:=[]) (by simpa using h2) (fun y my x mx=>by cases mx);have:=h3.doneA.rev;have ee:b.toList.take 1=[y]:=by have:=congrArg List.reverse ed;simpa using this
 rw[je,je,mH,mH,Array.toList_reverse,ee];simpa using this
end
structure HInv(lt:cv->cv->Bool)(a b out:Array cv)(na nb:Nat):Prop where
 mi:MI (flt lt) (a.toList++b.toList) out.toList (a.toList.take na).reverse (b.toList.take nb).reverse
 a0:0<na
 a1:na<=a.size
 b0:1<nb
 b1:nb<=b.size
theorem GK(O:LtOk prog w A E s kd D lt){a b:Array cv}{Q:Array cv->gq->Prop}{st:gq}(hk:kindOf st=kd)(ay:∀x∈a.toList,D x)(aw:∀x∈b.toList,D x)(ha:SrtL lt a.toList)(hb:SrtL lt b.toList)(ae:1<=a.size)(aa:1<=b.size)
  (h0:∀y,b[0]?=some y->∀x∈a.toList,lt x y=false) (hl:∀x,a[a.size-1]?=some x->∀y∈b.toList,lt x y=false)
  (q:∀(out:Array cv) st',MDone lt (a.toList++b.toList) out.toList->sameSt st st'->Q out st'):wpS (model prog w) A E s (GL a b) Q st:=by
 refine ca (wpS_lift (mn ⟨rfl,?_⟩));obtain⟨x0,bf,bg⟩:=dL (a:=a) (i:=a.size-1) (by clear aa;omega);refine ca (zQ bf ?_);have ax:∀{τ:Type} (P:Prop) (_:Decidable P) (f g:StateT gq Sem τ) (Q':τ->gq->Prop) (st':gq),wpS (model prog w) A E s f Q' st'->wpS (model prog w) A E s g Q' st'->wpS (model prog w) A E s (if P then f else g) Q' st':=fun P _ f g Q' st' h1 h2=>by
  split
  ·exact h1
  ·exact h2
 have ta:a.toList.take a.size=a.toList:=ls yv;have tb:b.toList.take b.size=b.toList:=ls yv;have m0:MI (flt lt) (a.toList++b.toList) (#[]:Array cv).toList (a.toList.take a.size).reverse (b.toList.take b.size).reverse:=by
  refine⟨?_,List.Pairwise.nil,(fun x m=>by cases m),BZ ha _,BZ hb _⟩;rw[ta,tb];exact(List.reverse_perm _).append (List.reverse_perm _)
 have m1:MI (flt lt) (a.toList++b.toList) (#[x0]:Array cv).toList (a.toList.take (a.size-1)).reverse (b.toList.take b.size).reverse:=by
  have m2:=m0;rw[show a.size=a.size-1+1 by clear aa;omega]at m2;have:=yF m2 bg fun y my=>hl x0 bf y (nq (mem_reverse.mp my));simpa using this
 by_cases c1:a.size-1=0
 ·rw[cg (by simpa using c1)];exact ci (q _ _ (jS c1 m1) sameSt.rfl')
 rw[cf (by simpa using c1)];by_cases c2:b.size=1
 ·rw[cg (by simpa using c2)];exact ci (q _ _ (l7 h0 c2 aa m1) sameSt.rfl')
 rw[cf (by simpa using c2)];refine ca (rg ?_);refine ca (kj (gz (a:=0)
  (I:=fun k c st'=>sameSt st st'/\∃out na nb mg,c=(none,na,nb,out,mg)/\HInv lt a b out na nb/\na+nb+k<a.size+b.size)
  (Q:=fun c st'=>sameSt st st'/\∃(r:Array cv),∃rest,c=(some r,rest)/\MDone lt (a.toList++b.toList) r.toList) ?step ?fin ⟨sameSt.rfl',#[x0],a.size-1,b.size,_,rfl,⟨m1,by clear c2 aa ae;omega,by clear c2 c1 aa ae;omega,by clear c1 ae;omega,by clear c2 c1 aa ae;omega⟩,by clear c2 c1 aa;omega⟩) ?post)
 case fin=>
  rintro c st' ⟨a8,out,na,nb,mg,rfl,hm,ag⟩
  (clear c2 c1 aa ae;omega)
 case post=>
  rintro c st' ⟨a8,r,rest,rfl,hd⟩;exact ci (q r st' hd a8)
 case step=>
  rintro k c st' _ af ⟨a8,out,na,nb,mg,rfl,hm,ag⟩;refine ca (kj (gz (a:=0)
   (I:=fun j c st'=>sameSt st st'/\∃ap an ao ac bc,c=(none,an,ao,ap,ac,bc)/\HInv lt a b ap an ao/\an+ao+j<=na+nb)
   (Q:=fun c st'=>sameSt st st'/\((∃(r:Array cv),∃rest,c=(some r,rest)/\MDone lt (a.toList++b.toList) r.toList)\/∃ap an ao ac bc,c=(none,an,ao,ap,ac,bc)/\HInv lt a b ap an ao/\an+ao<na+nb)) ?step1 ?fin1 ⟨a8,out,na,nb,0,0,rfl,hm,by clear ag af c2 c1 aa ae;omega⟩) ?post1)
  case fin1=>
   rintro c a9 ⟨ar,ap,an,ao,ac,bc,rfl,az,ah⟩;have:=az.a0
   (clear this af c2 c1 aa ae;omega)
  case step1=>
   rintro j c a9 _ hj ⟨ar,ap,an,ao,ac,bc,rfl,az,ah⟩;have z1:=az.a0;have z2:=az.a1;have z3:=az.b0;have z4:=az.b1;obtain⟨y,ey,a4⟩:=dL (a:=b) (i:=ao-1) (by clear z3 z2 z1 ah hj ag af c2 c1 ae;omega);obtain⟨x,ex,ex'⟩:=dL (a:=a) (i:=an-1) (by clear z4 z3 z1 ah hj ag af c2 c1 aa;omega);have Dx:=ay x (bu ex');have Dy:=aw y (bu a4);have aj:kindOf a9=kd:=ar.1.trans hk;have mm:=az.mi;refine ca (zQ ey (ca (zQ ex (ca (O.ask y x a9 _ Dy Dx aj ?_)))));cases hlt2:lt y x with
   |true=>
    have ms:MI (flt lt) (a.toList++b.toList) (ap.push x).toList (a.toList.take (an-1)).reverse (b.toList.take ao).reverse:=by
     rw[show an=an-1+1 by clear z4 z3 z2 ah hj ag af c2 c1 aa ae;omega]at mm;exact yF mm ex' fun z mz=>by
      obtain⟨j2,a2,ez⟩:=jJ mz;exact O.tr z y x (aw z (bu ez)) Dy Dx (dQ O hb aw (by clear z4 z3 z2 z1 ah hj ag af c2 c1 aa ae;omega) ez a4) (O.asym y x Dy Dx hlt2)
    simp only[if_true];refine ca (zQ ex ?_);by_cases c3:an-1=0
    ·rw[cg (by simpa using c3)];exact ci ⟨ar,.inl ⟨_,_,rfl,jS c3 ms⟩⟩
    ·rw[cf (by simpa using c3)];have av:HInv lt a b (ap.push x) (an-1) ao:=⟨ms,by clear z4 z3 z2 z1 ah hj ag af c2 c1 aa ae;omega,by clear c3 z4 z3 z1 ah hj ag af c2 c1 aa ae;omega,z3,z4⟩;refine ax _ _ _ _ _ _ ?_ ?_
     ·exact ci ⟨ar,.inr ⟨_,_,_,_,_,rfl,av,by clear c3 z4 z3 z2 hj ag af c2 c1 aa ae;omega⟩⟩
     ·exact ci ⟨ar,_,_,_,_,_,rfl,av,by clear c3 z4 z3 z2 hj ag af c2 c1 aa ae;omega⟩
   |false=>
    have ms:MI (flt lt) (a.toList++b.toList) (ap.push y).toList (a.toList.take an).reverse (b.toList.take (ao-1)).reverse:=by
     rw[show ao=ao-1+1 by clear z4 z2 z1 ah hj ag af c2 c1 aa ae;omega]at mm;exact Bn mm a4 fun z mz=>by
      obtain⟨j2,a2,ez⟩:=jJ mz;exact O.tr z x y (ay z (bu ez)) Dx Dy (dQ O ha ay (by clear z4 z3 z2 z1 ah hj ag af c2 c1 aa ae;omega) ez ex') hlt2
    simp only[fg,if_false];refine ca (zQ ey ?_);by_cases c3:ao-1=1
    ·rw[cg (by simpa using c3)];exact ci ⟨ar,.inl ⟨_,_,rfl,l7 h0 c3 aa ms⟩⟩
    ·rw[cf (by simpa using c3)];have av:HInv lt a b (ap.push y) an (ao-1):=⟨ms,z1,z2,by clear z4 z2 z1 ah hj ag af c2 c1 aa ae;omega,by clear c3 z3 z2 z1 ah hj ag af c2 c1 aa ae;omega⟩;refine ax _ _ _ _ _ _ ?_ ?_
     ·exact ci ⟨ar,.inr ⟨_,_,_,_,_,rfl,av,by clear c3 z4 z2 z1 hj ag af c2 c1 aa ae;omega⟩⟩
     ·exact ci ⟨ar,_,_,_,_,_,rfl,av,by clear c3 z4 z2 z1 hj ag af c2 c1 aa ae;omega⟩
  case post1=>
   rintro c a9 ⟨ar,hc⟩;rcases hc with ⟨r,rest,rfl,hd⟩|⟨ap,an,ao,ac,bc,rfl,az,ah⟩
   ·dsimp only;exact ci ⟨ar,_,_,rfl,hd⟩
   ·dsimp only;refine ca (wpS_lift (mn ⟨rfl,?_⟩));refine ca (kj (gz (a:=0)
     (I:=fun j c st'=>sameSt st st'/\∃am au ak a3 a5 a6,c=(none,au,ak,am,a3,a5,a6)/\HInv lt a b am au ak/\au+ak+j<=an+ao)
     (Q:=fun c st'=>sameSt st st'/\((∃(r:Array cv),∃rest,c=(some r,rest)/\MDone lt (a.toList++b.toList) r.toList)\/∃am au ak a3 a5 a6,c=(none,au,ak,am,a3,a5,a6)/\HInv lt a b am au ak/\au+ak<=an+ao)) ?step2 ?ax ⟨ar,ap,an,ao,_,_,_,rfl,az,by clear ah ag af c2 c1 aa ae;omega⟩) ?post2)
    case ax=>
     rintro c ba ⟨aq,am,au,ak,a3,a5,a6,rfl,av,ab⟩;have:=av.a0;have:=az.a1;have:=az.b1
     (clear this af c2 c1 aa ae;omega)
    case post2=>
     rintro c ba ⟨aq,hc⟩;rcases hc with ⟨r,rest,rfl,hd⟩|⟨am,au,ak,a3,a5,a6,rfl,av,ab⟩
     ·dsimp only;exact ci ⟨aq,_,_,rfl,hd⟩
     ·dsimp only;refine ca (kz (ci ⟨⟨aq.1,aq.2.1,aq.2.2.1,aq.2.2.2⟩,am,au,ak,_,rfl,av,by clear af c2 c1 aa ae;omega⟩))
    case step2=>
     rintro j c ba _ hj ⟨aq,am,au,ak,a3,a5,a6,rfl,av,ab⟩;have z1:=av.a0;have z2:=av.a1;have z3:=av.b0;have z4:=av.b1;obtain⟨y,ey,a4⟩:=dL (a:=b) (i:=ak-1) (by clear z3 z2 z1 ab hj ah ag af c2 c1 ae;omega);have Dy:=aw y (bu a4);have aD:∀j,j<a.size->∃x,a[j]?=some x/\D x:=fun j hj=>by
      obtain⟨x,e,e'⟩:=dL (a:=a) hj;exact⟨x,e,ay x (bu e')⟩
     have bD:∀j,j<b.size->∃x,b[j]?=some x/\D x:=fun j hj=>by
      obtain⟨x,e,e'⟩:=dL (a:=b) hj;exact⟨x,e,aw x (bu e')⟩
     dsimp only;refine fin3 (C:=?C3) ?f3 ?g3 ?h3
     case f3=>intro h;generalize a3-1=m0;revert m0;exact h
     case g3=>intro h;generalize a3=m0;revert m0;exact h
     intro m0
     all_goals
      refine ca (kz ?_);refine ca (zQ ey ?_);refine ca (gal O (aq.1.trans hk) Dy (fun j h1 h2=>aD j (by clear h1 z4 z3 z1 ab hj ah ag af c2 c1 aa ae;omega)) (fun i j x z h1 h2 h3 e1 e2=>dQ O ha ay h2 (bC.mp e1) (bC.mp e2)) (by clear z4 z3 z2 ab hj ah ag af c2 c1 aa ae;omega) fun k1 ai g1 g2=>?_);dsimp only;have al:sameSt st ba:=aq;have bl:MI (flt lt) (a.toList++b.toList) (am++(a.extract k1 au).reverse).toList (a.toList.take k1).reverse (b.toList.take ak).reverse:=GE av.mi ai fun j x h1 h2 e z mz=>by
       have:=g2 j x (by clear h2 ai z4 z3 z2 z1 ab hj ah ag af c2 c1 aa ae;omega) (by clear h1 ai z4 z3 z2 z1 ab hj ah ag af c2 c1 aa ae;omega) (bC.mpr e);obtain⟨j2,a2,ez⟩:=jJ mz;have Dx:=ay x (bu e);have l1:lt y x=true:=by simpa[bey]using this
       exact O.tr z y x (aw z (bu ez)) Dy Dx (dQ O hb aw (by clear h2 h1 ai z4 z3 z2 z1 ab hj ah ag af c2 c1 aa ae;omega) ez a4) (O.asym y x Dy Dx l1)
      have gt:∀x∈(a.toList.take k1).reverse,lt y x=false:=fun x mx=>by
       obtain⟨j2,a2,ex⟩:=jJ mx;have:=g1 j2 x (by clear a2 ai z4 z3 z2 z1 ab hj ah ag af c2 c1 aa ae;omega) (by clear ai z4 z3 z2 z1 ab hj ah ag af c2 c1 aa ae;omega) (bC.mpr ex);simpa[bey]using this
      by_cases c5:au-k1>0
      ·rw[cg c5];by_cases c6:k1=0
       ·rw[cg (by simpa using c6)];exact ci ⟨al,.inl ⟨_,_,rfl,jS c6 bl⟩⟩
       rw[cf (by simpa using c6)];refine ca (zQ ey ?_);have mb:MI (flt lt) (a.toList++b.toList) ((am++(a.extract k1 au).reverse).push y).toList (a.toList.take k1).reverse (b.toList.take (ak-1)).reverse:=DV (by clear c6 c5 ai z4 z2 z1 ab hj ah ag af c2 c1 aa ae;omega) bl a4 gt;by_cases d1:ak-1=1
       ·rw[cg (by simpa using d1)];exact ci ⟨al,.inl ⟨_,_,rfl,l7 h0 d1 aa mb⟩⟩
       rw[cf (by simpa using d1)];obtain⟨x,ex,ex'⟩:=dL (a:=a) (i:=k1-1) (by clear d1 c6 c5 z4 z3 z1 ab hj ah ag af c2 c1 aa;omega);have Dx:=ay x (bu ex');refine ca (zQ ex ?_);refine ca (gal O (aq.1.trans hk) Dx (fun j h1 h2=>bD j (by clear h1 d1 c6 c5 ai z3 z2 z1 ab hj ah ag af c2 c1 aa ae;omega)) (fun i j x z h1 h2 h3 e1 e2=>dQ O hb aw h2 (bC.mp e1) (bC.mp e2)) (by clear d1 c6 c5 ai z4 z2 z1 ab hj ah ag af c2 c1 aa ae;omega) fun k2 aj f1 f2=>?_);dsimp only;have bb:=AW (k:=k2) mb aj fun j z h1 h2 e x2 bd=>by
        have:=f2 j z (by clear h2 aj d1 c6 c5 ai z4 z3 z2 z1 ab hj ah ag af c2 c1 aa ae;omega) (by clear h1 aj d1 c6 c5 ai z4 z3 z2 z1 ab hj ah ag af c2 c1 aa ae;omega) (bC.mpr e);obtain⟨j2,a2,a7⟩:=jJ bd;have Dz:=aw z (bu e);have l1:lt z x=false:=by simpa[bey]using this
        exact O.tr x2 x z (ay x2 (bu a7)) Dx Dz (dQ O ha ay (by clear h2 h1 aj d1 c6 c5 ai z4 z3 z2 z1 ab hj ah ag af c2 c1 aa ae;omega) a7 ex') l1
       have gb:∀z∈(b.toList.take k2).reverse,lt x z=false:=fun z mz=>by
        obtain⟨j2,a2,ez⟩:=jJ mz;have:=f1 j2 z (by clear a2 aj d1 c6 c5 ai z4 z3 z2 z1 ab hj ah ag af c2 c1 aa ae;omega) (by clear aj d1 c6 c5 ai z4 z3 z2 z1 ab hj ah ag af c2 c1 aa ae;omega) (bC.mpr ez);have l1:lt z x=true:=by simpa[bey]using this
        exact O.asym z x (aw z (bu ez)) Dx l1
       by_cases d2:ak-1-k2>0
       ·rw[cg d2];by_cases d3:k2=1
        ·rw[cg (by simpa using d3)];exact ci ⟨al,.inl ⟨_,_,rfl,l7 h0 d3 aa bb⟩⟩
        rw[cf (by simpa using d3)];by_cases d5:k2=0
        ·rw[cg (by simpa using d5)];exact ci ⟨al,.inl ⟨_,_,rfl,By d5 bb⟩⟩
        rw[cf (by simpa using d5)];refine ca (zQ ex ?_);have mf:MI (flt lt) (a.toList++b.toList) (((am++(a.extract k1 au).reverse).push y++(b.extract k2 (ak-1)).reverse).push x).toList (a.toList.take (k1-1)).reverse (b.toList.take k2).reverse:=uB (by clear d5 d3 d2 aj d1 c5 ai z4 z3 z2 z1 ab hj ah ag af c2 c1 aa ae;omega) bb ex' gb;by_cases d4:k1-1=0
        ·rw[cg (by simpa using d4)];exact ci ⟨al,.inl ⟨_,_,rfl,jS d4 mf⟩⟩
        rw[cf (by simpa using d4)];refine ax _ _ _ _ _ _ ?_ ?_
        ·exact ci ⟨al,.inr ⟨_,_,_,_,_,_,rfl,⟨mf,by clear d5 d3 d2 aj d1 c6 c5 ai z4 z3 z2 z1 ab hj ah ag af c2 c1 aa ae;omega,by clear d4 d5 d3 d2 aj d1 c6 c5 z4 z3 z1 ab hj ah ag af c2 c1 aa ae;omega,by clear d4 d2 aj d1 c6 c5 ai z4 z3 z2 z1 ab hj ah ag af c2 c1 aa ae;omega,by clear d4 d5 d3 d2 d1 c6 c5 ai z3 z2 z1 ab hj ah ag af c2 c1 aa ae;omega⟩,by clear d4 d5 d3 d2 d1 c6 c5 z4 z3 z2 z1 hj ah ag af c2 c1 aa ae;omega⟩⟩
        ·exact ci ⟨al,_,_,_,_,_,_,rfl,⟨mf,by clear d5 d3 d2 aj d1 c6 c5 ai z4 z3 z2 z1 ab hj ah ag af c2 c1 aa ae;omega,by clear d4 d5 d3 d2 aj d1 c6 c5 z4 z3 z1 ab hj ah ag af c2 c1 aa ae;omega,by clear d4 d2 aj d1 c6 c5 ai z4 z3 z2 z1 ab hj ah ag af c2 c1 aa ae;omega,by clear d4 d5 d3 d2 d1 c6 c5 ai z3 z2 z1 ab hj ah ag af c2 c1 aa ae;omega⟩,by clear d4 d5 d3 d2 d1 c6 c5 z4 z3 z2 hj ah ag af c2 c1 aa ae;omega⟩
       ·rw[cf d2];have be:k2=ak-1:=by clear d1 c6 c5 ai z4 z3 z2 z1 ab hj ah ag af c2 c1 aa ae;omega
        subst be;have ee:∀o:Array cv,o++(b.extract (ak-1) (ak-1)).reverse=o:=fun o=>by
         have:b.extract (ak-1) (ak-1+0) = #[]:=lX b _;rw[sf]at this;rw[this];simp
        rw[ee]at bb;refine ca (zQ ex ?_);have mf:MI (flt lt) (a.toList++b.toList) (((am++(a.extract k1 au).reverse).push y).push x).toList (a.toList.take (k1-1)).reverse (b.toList.take (ak-1)).reverse:=uB (by clear d2 aj d1 c5 ai z4 z3 z2 z1 ab hj ah ag af c2 c1 aa ae;omega) bb ex' gb;by_cases d4:k1-1=0
        ·rw[cg (by simpa using d4)];exact ci ⟨al,.inl ⟨_,_,rfl,jS d4 mf⟩⟩
        rw[cf (by simpa using d4)];refine ax _ _ _ _ _ _ ?_ ?_
        ·exact ci ⟨al,.inr ⟨_,_,_,_,_,_,rfl,⟨mf,by clear d2 aj d1 c6 c5 ai z4 z3 z2 z1 ab hj ah ag af c2 c1 aa ae;omega,by clear d4 d2 aj d1 c6 c5 z4 z3 z1 ab hj ah ag af c2 c1 aa ae;omega,by clear d4 d2 aj c6 c5 ai z4 z2 z1 ab hj ah ag af c2 c1 aa ae;omega,by clear d4 d2 aj d1 c6 c5 ai z3 z2 z1 ab hj ah ag af c2 c1 aa ae;omega⟩,by clear d4 d2 aj d1 c6 c5 z4 z3 z2 z1 hj ah ag af c2 c1 aa ae;omega⟩⟩
        ·exact ci ⟨al,_,_,_,_,_,_,rfl,⟨mf,by clear d2 aj d1 c6 c5 ai z4 z3 z2 z1 ab hj ah ag af c2 c1 aa ae;omega,by clear d4 d2 aj d1 c6 c5 z4 z3 z1 ab hj ah ag af c2 c1 aa ae;omega,by clear d4 d2 aj c6 c5 ai z4 z2 z1 ab hj ah ag af c2 c1 aa ae;omega,by clear d4 d2 aj d1 c6 c5 ai z3 z2 z1 ab hj ah ag af c2 c1 aa ae;omega⟩,by clear d4 d2 aj d1 c6 c5 z4 z3 z2 hj ah ag af c2 c1 aa ae;omega⟩
      ·rw[cf c5];have k0:k1=au:=by clear z4 z3 z2 z1 ab hj ah ag af c2 c1 aa ae;omega
       subst k0;have bh:∀o:Array cv,o++(a.extract k1 k1).reverse=o:=fun o=>by
        have:a.extract k1 (k1+0) = #[]:=lX a k1;rw[sf]at this;rw[this];simp
       rw[bh]at bl;refine ca (zQ ey ?_);have mb:MI (flt lt) (a.toList++b.toList) (am.push y).toList (a.toList.take k1).reverse (b.toList.take (ak-1)).reverse:=DV (by clear c5 ai z2 z1 ab z4 hj ah ag af c2 c1 aa ae;omega) bl a4 gt;by_cases d1:ak-1=1
       ·rw[cg (by simpa using d1)];exact ci ⟨al,.inl ⟨_,_,rfl,l7 h0 d1 aa mb⟩⟩
       rw[cf (by simpa using d1)];obtain⟨x,ex,ex'⟩:=dL (a:=a) (i:=k1-1) (by clear d1 c5 ai z1 ab z4 z3 hj ah ag af c2 c1 aa;omega);have Dx:=ay x (bu ex');refine ca (zQ ex ?_);refine ca (gal O (aq.1.trans hk) Dx (fun j h1 h2=>bD j (by clear h1 d1 c5 ai z2 z1 ab z3 hj ah ag af c2 c1 aa ae;omega)) (fun i j x z h1 h2 h3 e1 e2=>dQ O hb aw h2 (bC.mp e1) (bC.mp e2)) (by clear d1 c5 ai z2 z1 ab z4 hj ah ag af c2 c1 aa ae;omega) fun k2 aj f1 f2=>?_);dsimp only;have bb:=AW (k:=k2) mb aj fun j z h1 h2 e x2 bd=>by
        have:=f2 j z (by clear h2 aj d1 c5 ai z2 z1 ab z4 z3 hj ah ag af c2 c1 aa ae;omega) (by clear h1 aj d1 c5 ai z2 z1 ab z4 z3 hj ah ag af c2 c1 aa ae;omega) (bC.mpr e);obtain⟨j2,a2,a7⟩:=jJ bd;have Dz:=aw z (bu e);have l1:lt z x=false:=by simpa[bey]using this
        exact O.tr x2 x z (ay x2 (bu a7)) Dx Dz (dQ O ha ay (by clear h2 h1 aj d1 c5 ai z2 z1 ab z4 z3 hj ah ag af c2 c1 aa ae;omega) a7 ex') l1
       have gb:∀z∈(b.toList.take k2).reverse,lt x z=false:=fun z mz=>by
        obtain⟨j2,a2,ez⟩:=jJ mz;have:=f1 j2 z (by clear a2 aj d1 c5 ai z2 z1 ab z4 z3 hj ah ag af c2 c1 aa ae;omega) (by clear aj d1 c5 ai z2 z1 ab z4 z3 hj ah ag af c2 c1 aa ae;omega) (bC.mpr ez);have l1:lt z x=true:=by simpa[bey]using this
        exact O.asym z x (aw z (bu ez)) Dx l1
       by_cases d2:ak-1-k2>0
       ·rw[cg d2];by_cases d3:k2=1
        ·rw[cg (by simpa using d3)];exact ci ⟨al,.inl ⟨_,_,rfl,l7 h0 d3 aa bb⟩⟩
        rw[cf (by simpa using d3)];by_cases d5:k2=0
        ·rw[cg (by simpa using d5)];exact ci ⟨al,.inl ⟨_,_,rfl,By d5 bb⟩⟩
        rw[cf (by simpa using d5)];refine ca (zQ ex ?_);have mf:MI (flt lt) (a.toList++b.toList) ((am.push y++(b.extract k2 (ak-1)).reverse).push x).toList (a.toList.take (k1-1)).reverse (b.toList.take k2).reverse:=uB (by clear d5 d3 d2 aj d1 c5 ai z2 ab z4 z3 hj ah ag af c2 c1 aa ae;omega) bb ex' gb;by_cases d4:k1-1=0
        ·rw[cg (by simpa using d4)];exact ci ⟨al,.inl ⟨_,_,rfl,jS d4 mf⟩⟩
        rw[cf (by simpa using d4)];refine ax _ _ _ _ _ _ ?_ ?_
        ·exact ci ⟨al,.inr ⟨_,_,_,_,_,_,rfl,⟨mf,by clear d5 d3 d2 aj d1 c5 ai z2 z1 ab z4 z3 hj ah ag af c2 c1 aa ae;omega,by clear d4 d5 d3 d2 aj d1 c5 ai z1 ab z4 z3 hj ah ag af c2 c1 aa ae;omega,by clear d4 d2 aj d1 c5 ai z2 z1 ab z4 z3 hj ah ag af c2 c1 aa ae;omega,by clear d4 d5 d3 d2 d1 c5 ai z2 z1 ab z3 hj ah ag af c2 c1 aa ae;omega⟩,by clear d4 d5 d3 d2 d1 c5 ai z2 z1 z4 z3 hj ah ag af c2 c1 aa ae;omega⟩⟩
        ·exact ci ⟨al,_,_,_,_,_,_,rfl,⟨mf,by clear d5 d3 d2 aj d1 c5 ai z2 z1 ab z4 z3 hj ah ag af c2 c1 aa ae;omega,by clear d4 d5 d3 d2 aj d1 c5 ai z1 ab z4 z3 hj ah ag af c2 c1 aa ae;omega,by clear d4 d2 aj d1 c5 ai z2 z1 ab z4 z3 hj ah ag af c2 c1 aa ae;omega,by clear d4 d5 d3 d2 d1 c5 ai z2 z1 ab z3 hj ah ag af c2 c1 aa ae;omega⟩,by clear d4 d5 d3 d2 d1 c5 ai z2 z1 z4 hj ah ag af c2 c1 aa ae;omega⟩
       ·rw[cf d2];have be:k2=ak-1:=by clear d1 c5 ai z2 z1 ab z4 z3 hj ah ag af c2 c1 aa ae;omega
        subst be;have ee:∀o:Array cv,o++(b.extract (ak-1) (ak-1)).reverse=o:=fun o=>by
         have:b.extract (ak-1) (ak-1+0) = #[]:=lX b _;rw[sf]at this;rw[this];simp
        rw[ee]at bb;refine ca (zQ ex ?_);have mf:MI (flt lt) (a.toList++b.toList) ((am.push y).push x).toList (a.toList.take (k1-1)).reverse (b.toList.take (ak-1)).reverse:=uB (by clear d2 aj d1 c5 ai z2 ab z4 z3 hj ah ag af c2 c1 aa ae;omega) bb ex' gb;by_cases d4:k1-1=0
        ·rw[cg (by simpa using d4)];exact ci ⟨al,.inl ⟨_,_,rfl,jS d4 mf⟩⟩
        rw[cf (by simpa using d4)];refine ax _ _ _ _ _ _ ?_ ?_
        ·exact ci ⟨al,.inr ⟨_,_,_,_,_,_,rfl,⟨mf,by clear d2 aj d1 c5 ai z2 z1 ab z4 z3 hj ah ag af c2 c1 aa ae;omega,by clear d4 d2 aj d1 c5 ai z1 ab z4 z3 hj ah ag af c2 c1 aa ae;omega,by clear d4 d2 aj c5 ai z2 z1 ab z4 hj ah ag af c2 c1 aa ae;omega,by clear d4 d2 aj d1 c5 ai z2 z1 ab z3 hj ah ag af c2 c1 aa ae;omega⟩,by clear d4 d2 aj d1 c5 ai z2 z1 z4 z3 hj ah ag af c2 c1 aa ae;omega⟩⟩
        ·exact ci ⟨al,_,_,_,_,_,_,rfl,⟨mf,by clear d2 aj d1 c5 ai z2 z1 ab z4 z3 hj ah ag af c2 c1 aa ae;omega,by clear d4 d2 aj d1 c5 ai z1 ab z4 z3 hj ah ag af c2 c1 aa ae;omega,by clear d4 d2 aj c5 ai z2 z1 ab z4 hj ah ag af c2 c1 aa ae;omega,by clear d4 d2 aj d1 c5 ai z2 z1 ab z3 hj ah ag af c2 c1 aa ae;omega⟩,by clear d4 d2 aj d1 c5 ai z2 z1 z4 hj ah ag af c2 c1 aa ae;omega⟩
def G(xs:Array cv)(i:Nat):cv:=(xs[i]?).getD (.none,.none)
theorem wQ{xs:Array cv}{i:Nat}(h:i<xs.size):xs[i]?=some (G xs i):=by unfold G;simp[h]
def Sg(lt:cv->cv->Bool)(xs:Array cv)(lo hi:Nat):Prop:=∀i j,lo<=i->i<=j->j<hi->lt (G xs j) (G xs i)=false
structure Tb(kd:ow)(D:cv->Prop)(a₀:Array cv)(lo:Nat)(st0 st:gq):Prop where
 kd:kindOf st=kd
 fl:qz st=none
 pm:(ck st).Perm a₀
 pe:cw st=cw st0
 lo:∀i,i<lo->G (ck st) i=G (ck st0) i
 d:∀x∈a₀.toList,D x
section
variable {a₀:Array cv}{lo:Nat}{st0 st st':gq}
theorem Tb.size(h:Tb kd D a₀ lo st0 st):(ck st).size=a₀.size:=h.pm.size_eq
theorem Tb.at(h:Tb kd D a₀ lo st0 st){i:Nat}(hi:i<a₀.size):(ck st)[i]?=some (G (ck st) i):=wQ (by rw[h.size];exact hi)
theorem Tb.dd(h:Tb kd D a₀ lo st0 st){i:Nat}(hi:i<a₀.size):D (G (ck st) i):=by
 have e:=h.at hi;have m:G (ck st) i∈(ck st).toList:=bu (by rw[<- bC];exact e);exact h.d _ ((Array.perm_iff_toList_perm.mp h.pm).mem_iff.mp m)
theorem fM(O:LtOk prog w A E s kd D lt)(h:Tb kd D a₀ lo st0 st){i j:Nat}{Q:Option Bool->gq->Prop}(hi:i<a₀.size)(hj:j<a₀.size)(q:Q (some (lt (G (ck st) i) (G (ck st) j))) st):wpS (model prog w) A E s (ltAt' i j) Q st:=by
 rw[ltAt'_eq];refine ca (rg ?_);refine ca (zQ (h.at hi) (ca (zQ (h.at hj) ?_)));exact O.ask _ _ _ _ (h.dd hi) (h.dd hj) h.kd q
theorem kY{xs:Array cv}{i j k:Nat}(hj:j<=xs.size):G (mirror xs i j ((j-i)/2)) k=if i<=k/\k<j then G xs (i+j-1-k)else G xs k:=by
 unfold G;rw[getElem?_mirror_all hj];split<;>rfl
theorem xH{xs:Array cv}{src d k:Nat}(hs:src<xs.size)(hd:d<=src):G (bubble xs src d) k=if k=src-d then G xs src else if src-d<k/\k<=src then G xs (k-1)else G xs k:=by
 unfold G;rw[getElem?_bubble hs d hd];split
 ·rfl
 ·split<;>rfl
theorem Tb.mirror(h:Tb kd D a₀ lo st0 st){i j:Nat}(hi:lo<=i)(hj:j<=a₀.size):Tb kd D a₀ lo st0 (nk st (mirror (ck st) i j ((j-i)/2))):=by
 refine⟨h.kd,h.fl,(mirror_perm _ _ _ _).trans h.pm,h.pe,fun k hk=>?_,h.d⟩;show G (PyProof.Rows.mirror (ck st) i j ((j-i)/2)) k=_;rw[kY (by rw[h.size];exact hj),cf yw];exact h.lo k hk
theorem Tb.bubble(h:Tb kd D a₀ lo st0 st){src d:Nat}(hs:src<a₀.size)(hd:d<=src)(hl:lo<=src-d):Tb kd D a₀ lo st0 (nk st (bubble (ck st) src d)):=by
 refine⟨h.kd,h.fl,(bubble_perm _ _ _).trans h.pm,h.pe,fun k hk=>?_,h.d⟩;show G (PyProof.Rows.bubble (ck st) src d) k=_;rw[xH (by rw[h.size];exact hs) hd,cf yw,cf yw];exact h.lo k hk
theorem iG{i j:Nat}{Q:Unit->gq->Prop}(q:Q () (nk st (mirror (ck st) i j ((j-i)/2)))):wpS (model prog w) A E s (reverseSlice' i j) Q st:=by
 rw[reverseSlice'_eq];exact kz q
theorem Sg.more(O:LtOk prog w A E s kd D lt)(h:Tb kd D a₀ lo st0 st){l n:Nat}(hn:n<a₀.size)(hl:l<n)(hs:Sg lt (ck st) l n)(h1:lt (G (ck st) n) (G (ck st) (n-1))=false):Sg lt (ck st) l (n+1):=fun i j hi q hj=>by
 by_cases e:j<n
 ·exact hs i j hi q e
 ·have ej:j=n:=yw
  subst ej;by_cases e2:i=j
  ·rw[e2];exact O.irr (h.dd hn)
  ·exact O.tr _ (G (ck st) (j-1)) _ (h.dd yw) (h.dd yw) (h.dd hn) (hs i (j-1) hi yw yw) h1
theorem Sg.one(O:LtOk prog w A E s kd D lt)(h:Tb kd D a₀ lo st0 st){l:Nat}(hn:l<a₀.size):Sg lt (ck st) l (l+1):=fun i j hi q hj=>by
 have e1:i=l:=by clear hn;omega
 have e2:j=l:=by clear e1 hn;omega
 rw[e1,e2];exact O.irr (h.dd hn)
def Fg(lt:cv->cv->Bool)(xs:Array cv)(lo hi:Nat):Prop:=∀i j,lo<=i->i<=j->j<hi->lt (G xs i) (G xs j)=false
theorem sU{xs:Array cv}{l n:Nat}(hn:n<=xs.size)(hs:Fg lt xs l n):Sg lt (mirror xs l n ((n-l)/2)) l n:=fun i j hi q hj=>by
 rw[kY hn,kY hn,cg (by clear hn;omega),cg (by clear hn;omega)];exact hs _ _ (by clear q hi hn;omega) (by clear hj hi hn;omega) (by clear q hn;omega)
end
def Eg(lt:cv->cv->Bool)(xs:Array cv)(lo hi:Nat):Prop:=∀i j,lo<=i->i<hi->lo<=j->j<hi->lt (G xs i) (G xs j)=false
theorem oI{xs:Array cv}{l i n:Nat}(hn:n<=xs.size)(hl:l<=i)(hf:Fg lt xs l n)(he:Eg lt xs i n):Fg lt (mirror xs i n ((n-i)/2)) l n:=fun p q hp aa hq=>by
 rw[kY hn,kY hn];by_cases h1:i<=p
 ·rw[cg (by clear hp hl hn;omega),cg (by clear hp hl hn;omega)];exact he _ _ (by clear h1 hp hl hn;omega) (by clear aa hp hl hn;omega) (by clear h1 aa hp hl hn;omega) (by clear hp hl hn;omega)
 ·rw[cf (by clear hq aa hp hl hn;omega)];by_cases h2:i<=q
  ·rw[cg (by clear h1 aa hp hl hn;omega)];exact hf _ _ hp (by clear h2 aa hp hl hn;omega) (by clear h1 aa hp hl hn;omega)
  ·rw[cf (by clear h1 hq aa hp hl hn;omega)];exact hf p q hp aa hq
theorem yZ{xs:Array cv}{i n k:Nat}(hn:n<=xs.size)(hk:n<=k):G (mirror xs i n ((n-i)/2)) k=G xs k:=by
 rw[kY hn,cf (by clear hn;omega)]
theorem xX{xs:Array cv}{i n:Nat}(hn:n<=xs.size)(hi:i<n):G (mirror xs i n ((n-i)/2)) (n-1)=G xs i:=by
 rw[kY hn,cg (by clear hn;omega)];congr 1
 (clear hn;omega)
theorem jD(O:LtOk prog w A E s kd D lt){a₀:Array cv}{lo:Nat}{st0 st:gq}(h:Tb kd D a₀ lo st0 st){l n:Nat}(hn:n<a₀.size)(hl:l<n)(hs:Fg lt (ck st) l n)(h1:lt (G (ck st) (n-1)) (G (ck st) n)=false):Fg lt (ck st) l (n+1):=fun i j hi q hj=>by
 by_cases e:j<n
 ·exact hs i j hi q e
 ·have ej:j=n:=yw
  subst ej;by_cases e2:i=j
  ·rw[e2];exact O.irr (h.dd hn)
  ·exact O.tr _ (G (ck st) (j-1)) _ (h.dd hn) (h.dd yw) (h.dd yw) h1 (hs i (j-1) hi yw yw)
theorem F4(O:LtOk prog w A E s kd D lt){a₀:Array cv}{lo ah:Nat}{st0 st:gq}{Q:Option Nat->gq->Prop}(h:Tb kd D a₀ lo st0 st)(hn:lo+ah<=a₀.size)(h1:1<=ah)
  (q:∀m st',Tb kd D a₀ lo st0 st'->1<=m->m<=ah->Sg lt (ck st') lo (lo+m)->Q (some m) st'):wpS (model prog w) A E s (countRun' lo ah) Q st:=by
 refine ca (kj (gz (a:=1)
  (I:=fun k c st'=>st'=st/\c=(none,k)/\Sg lt (ck st) lo (lo+k))
  (Q:=fun c st'=>st'=st/\∃n,c=(none,n)/\1<=n/\n<=ah/\Sg lt (ck st) lo (lo+n)/\(n=ah\/lt (G (ck st) (lo+n)) (G (ck st) (lo+n-1))=true)) ?step ?fin ⟨rfl,rfl,Sg.one O h yw⟩) ?post)
 case fin=>
  rintro c st' ⟨rfl,rfl,hs⟩;rw[show max 1 ah=ah by clear hn;omega]at hs ⊢;exact⟨rfl,ah,rfl,h1,ff _,hs,.inl rfl⟩
 case step=>
  rintro k c st' ac af ⟨rfl,rfl,hs⟩;refine ca (fM O h (i:=lo+k) (j:=lo+k-1) (by clear ac h1;omega) (by clear ac h1;omega) ?_);cases e:lt (G (ck st') (lo+k)) (G (ck st') (lo+k-1))with
  |true=>
   simp only[if_true];exact ci ⟨rfl,k,rfl,ac,by clear ac h1 hn;omega,hs,.inr e⟩
  |false=>
   simp only[fg,if_false];refine ci ⟨rfl,rfl,?_⟩;exact Sg.more (n:=lo+k) O h (by clear ac h1;omega) (by clear af h1 hn;omega) hs e
 case post=>
  rintro c st' ⟨rfl,n,rfl,n1,n2,hs,aa⟩;dsimp only;by_cases hnn:n=ah
  ·rw[cg (by simpa using hnn)];exact ci (q n st' h n1 n2 hs)
  rw[cf (by simpa using hnn)];have ar:=aa.resolve_left hnn;by_cases hgt:n>1
  ·rw[cg hgt];refine ca (fM O h (i:=lo) (j:=lo+n-1) (by clear hgt hnn aa n2 n1;omega) (by clear hgt hnn aa n1;omega) ?_);cases e0:lt (G (ck st') lo) (G (ck st') (lo+n-1))with
   |true=>
    simp only[if_true];exact ci (q n st' h n1 n2 hs)
   |false=>
    simp only[fg,if_false];have hsz:lo+n<=(ck st').size:=by rw[h.size];(clear hgt hnn aa n1 h1;omega)
    have hal:∀p q,lo<=p->p<lo+n->lo<=q->q<lo+n->lt (G (ck st') p) (G (ck st') q)=false:=fun p q p1 p2 q1 q2=>by
     have s1:=hs lo q (ff _) q1 q2;have s2:=hs p (lo+n-1) p1 (by clear q2 q1 p1 hsz hgt hnn aa n2 n1 h1 hn;omega) (by clear q2 q1 p2 p1 hsz hgt hnn aa n2 h1 hn;omega);have d0:=h.dd (i:=lo) (by clear q2 q1 p2 p1 hsz hgt hnn aa n2 n1;omega);have dn:=h.dd (i:=lo+n-1) (by clear q2 q1 p2 p1 hsz hgt hnn aa n1;omega);have dp:=h.dd (i:=p) (by clear q2 q1 p1 hsz hgt hnn aa n1 h1;omega);have dq:=h.dd (i:=q) (by clear q1 p2 p1 hsz hgt hnn aa n1 h1;omega);have s3:=hs q (lo+n-1) q1 (by clear q1 p2 p1 hsz hgt hnn aa n2 n1 h1 hn;omega) (by clear q2 q1 p2 p1 hsz hgt hnn aa n2 h1 hn;omega);have s4:=hs lo p (ff _) p1 p2;by_cases hpq:p<=q
     ·exact O.tr _ (G (ck st') lo) _ dq d0 dp (O.tr _ (G (ck st') (lo+n-1)) _ dq dn d0 s3 e0) s4
     ·exact hs q p q1 (by clear q2 q1 p2 p1 hsz hgt hnn aa n2 n1 h1 hn;omega) p2
    have hT:=h.mirror (i:=lo) (j:=lo+n) (ff _) (by clear hsz hgt hnn aa n1 h1;omega);have hF:Fg lt (ck (nk st' (mirror (ck st') lo (lo+n) ((lo+n-lo)/2)))) lo (lo+(n+1)):=by
     have av:Fg lt (ck st') lo (lo+n):=fun p q p1 pq q2=>hal p q p1 (by clear p1 hsz hgt hnn aa n2 n1 h1 hn;omega) (by clear q2 hsz hgt hnn aa n2 n1 h1 hn;omega) q2;have au:=oI hsz (ff _) av fun p q p1 p2 q1 q2=>hal p q p1 p2 q1 q2;refine jD (n:=lo+n) O hT (by clear hsz hgt aa n1 h1;omega) (by clear hsz hgt hnn aa n2 h1 hn;omega) au ?_;show lt (G (mirror (ck st') lo (lo+n) _) (lo+n-1)) (G (mirror (ck st') lo (lo+n) _) (lo+n))=false;rw[yZ hsz (ff _),xX hsz (by clear hsz hgt hnn aa n2 h1 hn;omega)];have d1:=h.dd (i:=lo+n) (by clear hsz hgt aa n1 h1;omega);have d2:=h.dd (i:=lo+n-1) (by clear hsz hgt hnn aa n1;omega);exact O.tr _ _ _ d1 d2 (h.dd (by clear hsz hgt hnn aa n2 n1;omega)) (O.asym _ _ d1 d2 ar) e0
    refine ca (iG ?_)
    revert hT hF
    generalize (nk st' (mirror (ck st') lo (lo+n) ((lo+n-lo)/2)))=stA;intro hT hF;refine ca (wpS_lift (mn ⟨rfl,?_⟩));refine ca (kj (gz (a:=n+1)
     (I:=fun k c st'=>Tb kd D a₀ lo st0 st'/\∃ag,c=(none,k,ag)/\Fg lt (ck st') lo (lo+k)/\ag+1<=k/\Eg lt (ck st') (lo+k-(ag+1)) (lo+k))
     (Q:=fun c st'=>Tb kd D a₀ lo st0 st'/\∃m ag,c=(none,m,ag)/\1<=m/\m<=ah/\Fg lt (ck st') lo (lo+m)/\ag+1<=m/\Eg lt (ck st') (lo+m-(ag+1)) (lo+m)) ?step2 ?fin2 ⟨hT,0,rfl,hF,by clear hsz hgt hnn aa n2 n1 h1 hn;omega,fun i j h1 h2 h3 h4=>by
      have e1:i=j:=by clear hsz hgt hnn aa n2 n1 hn;omega
      rw[e1];exact O.irr (hT.dd (by clear e1 h3 h2 h1 hsz hgt aa n1;omega))⟩) ?post2)
    case fin2=>
     rintro c aj ⟨ai,ag,rfl,an,ab,am⟩;rw[show max (n+1) ah=ah by clear ab hsz hgt aa n1 h1 hn;omega]at an ab am ⊢;exact⟨ai,ah,ag,rfl,by clear ab hsz hgt hnn aa n2 n1 hn;omega,ff _,an,ab,am⟩
    case step2=>
     rintro k c aj ac af ⟨ai,ag,rfl,an,ab,am⟩;refine ca (fM O ai (i:=lo+k) (j:=lo+k-1) (by clear ab ac hsz hgt hnn aa n2 n1 h1;omega) (by clear ab ac hsz hgt hnn aa n2 n1 h1;omega) ?_);have hsz:lo+k<=(ck aj).size:=by rw[ai.size];(clear ab ac hsz hgt hnn aa n2 n1 h1;omega)
     cases e:lt (G (ck aj) (lo+k)) (G (ck aj) (lo+k-1))with
     |true=>
      simp only[if_true];by_cases hq0:ag>0
      ·rw[cg hq0];have ap:=ai.mirror (i:=lo+k-(ag+1)) (j:=lo+k) (by clear hq0 hsz af ac hgt hnn aa n2 n1 h1 hn;omega) (by clear hq0 hsz ab ac hgt hnn aa n2 n1 h1;omega);refine ca (iG (ci ⟨ap,0,rfl,?_,by clear hq0 hsz ab af ac hgt hnn aa n2 n1 h1 hn;omega,fun i j h1 h2 h3 h4=>by
        have e1:i=j:=by clear hq0 hsz ab af ac hgt hnn aa n2 n1 hn;omega
        rw[e1];exact O.irr (ap.dd (by clear e1 h3 h2 h1 hq0 hsz ab ac hgt hnn aa n2 n1;omega))⟩))
       refine jD (n:=lo+k) O ap (by clear hq0 hsz ab ac hgt hnn aa n2 n1 h1;omega) (by clear hq0 hsz ab af hgt hnn aa n2 n1 h1 hn;omega) (oI hsz (by clear hq0 hsz af ac hgt hnn aa n2 n1 h1 hn;omega) an am) ?_;show lt (G (mirror (ck aj) (lo+k-(ag+1)) (lo+k) _) (lo+k-1)) (G (mirror (ck aj) (lo+k-(ag+1)) (lo+k) _) (lo+k))=false;rw[yZ hsz (ff _),xX hsz (by clear hq0 hsz ab af hgt hnn aa n2 n1 h1 hn;omega)];have d1:=ai.dd (i:=lo+k) (by clear hq0 hsz ab ac hgt hnn aa n2 n1 h1;omega);have d2:=ai.dd (i:=lo+k-1) (by clear hq0 hsz ab ac hgt hnn aa n2 n1 h1;omega);have d3:=ai.dd (i:=lo+k-(ag+1)) (by clear hq0 hsz ab ac hgt hnn aa n2 n1 h1;omega);exact O.tr _ _ _ d1 d2 d3 (O.asym _ _ d1 d2 e) (am _ _ (by clear hq0 hsz ab af ac hgt hnn aa n2 n1 h1 hn;omega) (by clear hq0 hsz ab af hgt hnn aa n2 n1 h1 hn;omega) (by clear hq0 hsz ab af ac hgt hnn aa n2 n1 h1 hn;omega) (by clear hq0 hsz ab af hgt hnn aa n2 n1 h1 hn;omega))
      ·rw[cf hq0];refine ci ⟨ai,0,rfl,?_,by clear hq0 hsz ab af ac hgt hnn aa n2 n1 h1 hn;omega,fun i j h1 h2 h3 h4=>by
        have e1:i=j:=by clear hq0 hsz ab af ac hgt hnn aa n2 n1 hn;omega
        rw[e1];exact O.irr (ai.dd (by clear e1 h3 h2 h1 hq0 hsz ab ac hgt hnn aa n2 n1;omega))⟩
       exact jD (n:=lo+k) O ai (by clear hq0 hsz ab ac hgt hnn aa n2 n1 h1;omega) (by clear hq0 hsz ab af hgt hnn aa n2 n1 h1 hn;omega) an (O.asym _ _ (ai.dd (by clear hq0 hsz ab ac hgt hnn aa n2 n1 h1;omega)) (ai.dd (by clear hq0 hsz ab ac hgt hnn aa n2 n1 h1;omega)) e)
     |false=>
      simp only[fg,if_false];refine ca (fM O ai (i:=lo+k-1) (j:=lo+k) (by clear hsz ab ac hgt hnn aa n2 n1 h1;omega) (by clear hsz ab ac hgt hnn aa n2 n1 h1;omega) ?_);cases e2:lt (G (ck aj) (lo+k-1)) (G (ck aj) (lo+k))with
      |true=>
       simp only[if_true];exact ci ⟨ai,k,ag,rfl,by clear hsz ab af hgt hnn aa n2 n1 h1 hn;omega,by clear hsz ab ac hgt hnn aa n2 n1 h1 hn;omega,an,ab,am⟩
      |false=>
       simp only[fg,if_false];refine ci ⟨ai,ag+1,rfl,jD (n:=lo+k) O ai (by clear hsz ab ac hgt hnn aa n2 n1 h1;omega) (by clear hsz ab af hgt hnn aa n2 n1 h1 hn;omega) an e2,by clear hsz af ac hgt hnn aa n2 n1 h1 hn;omega,fun i j h1 h2 h3 h4=>?_⟩;have dk:=ai.dd (i:=lo+k) (by clear h4 h3 h2 h1 hsz ab ac hgt hnn aa n2 n1;omega);have dl:=ai.dd (i:=lo+k-1) (by clear h4 h3 h2 h1 hsz ab ac hgt hnn aa n2 n1;omega);by_cases z1:i=lo+k
       ·rw[z1];by_cases z2:j=lo+k
        ·rw[z2];exact O.irr dk
        ·exact O.tr _ _ _ (ai.dd (by clear z2 z1 h3 h2 h1 hsz ab ac hgt hnn aa n2 n1;omega)) dl dk (am _ _ (by clear z2 z1 h4 h3 h2 h1 hsz ab af ac hgt hnn aa n2 n1 hn;omega) (by clear z2 z1 h4 h3 h2 h1 hsz ab af hgt hnn aa n2 n1 hn;omega) (by clear z2 z1 h4 h2 h1 hsz ab af ac hgt hnn aa n2 n1 hn;omega) (by clear z1 h3 h2 h1 hsz ab af ac hgt hnn aa n2 n1 hn;omega)) e
       ·by_cases z2:j=lo+k
        ·rw[z2];exact O.tr _ _ _ dk dl (ai.dd (by clear z2 z1 h4 h3 h1 hsz ab ac hgt hnn aa n2 n1;omega)) e2 (am _ _ (by clear z2 z1 h4 h3 h2 hsz ab af ac hgt hnn aa n2 n1 hn;omega) (by clear z2 h4 h3 h1 hsz ab af ac hgt hnn aa n2 n1 hn;omega) (by clear z2 z1 h4 h3 h2 h1 hsz ab af ac hgt hnn aa n2 n1 hn;omega) (by clear z2 z1 h4 h3 h2 h1 hsz ab af hgt hnn aa n2 n1 hn;omega))
        ·exact am i j (by clear z2 z1 h4 h3 h2 hsz ab af ac hgt hnn aa n2 n1 hn;omega) (by clear z2 h4 h3 h1 hsz ab af ac hgt hnn aa n2 n1 hn;omega) (by clear z2 z1 h4 h2 h1 hsz ab af ac hgt hnn aa n2 n1 hn;omega) (by clear z1 h3 h2 h1 hsz ab af ac hgt hnn aa n2 n1 hn;omega)
    case post2=>
     rintro c aj ⟨ai,m,ag,rfl,m1,m2,an,ab,am⟩;have hsz:lo+m<=(ck aj).size:=by rw[ai.size];(clear ab m1 hsz hgt hnn aa n2 n1 h1;omega)
     have ap:=ai.mirror (i:=lo+m-(ag+1)) (j:=lo+m) (by clear hsz m2 m1 hgt hnn aa n2 n1 h1 hn;omega) (by clear hsz ab m1 hgt hnn aa n2 n1 h1;omega);have aq:=oI hsz (by clear hsz m2 m1 hgt hnn aa n2 n1 h1 hn;omega) an am;by_cases hq0:ag>0
     ·rw[cg hq0];refine ca (iG ?_);have ak:=ap.mirror (i:=lo) (j:=lo+m) (ff _) (by clear hq0 hsz ab m1 hgt hnn aa n2 n1 h1;omega);have ao:Sg lt (ck (nk (nk aj (mirror (ck aj) (lo+m-(ag+1)) (lo+m) ((lo+m-(lo+m-(ag+1)))/2))) (mirror (mirror (ck aj) (lo+m-(ag+1)) (lo+m) ((lo+m-(lo+m-(ag+1)))/2)) lo (lo+m) ((lo+m-lo)/2)))) lo (lo+m):=sU (by rw[mirror_size];exact hsz) aq;refine ca (iG ?_)
      revert ak ao
      generalize (nk (nk aj (mirror (ck aj) (lo+m-(ag+1)) (lo+m) ((lo+m-(lo+m-(ag+1)))/2))) (mirror (mirror (ck aj) (lo+m-(ag+1)) (lo+m) ((lo+m-(lo+m-(ag+1)))/2)) lo (lo+m) ((lo+m-lo)/2)))=st4;intro ak ao;refine ca (kj (gz (a:=m)
       (I:=fun k c st'=>st'=st4/\c=(none,k)/\Sg lt (ck st4) lo (lo+k))
       (Q:=fun c st'=>st'=st4/\∃n,c=(none,n)/\1<=n/\n<=ah/\Sg lt (ck st4) lo (lo+n)) ?step3 ?fin3 ⟨rfl,rfl,ao⟩) ?post3)
      case fin3=>
       rintro c al ⟨rfl,rfl,hs⟩;rw[show max m ah=ah by clear hq0 hsz ab m1 hgt hnn aa n2 n1 h1 hn;omega]at hs ⊢;exact⟨rfl,ah,rfl,by clear hq0 hsz ab m2 m1 hgt hnn aa n2 n1 hn;omega,ff _,hs⟩
      case step3=>
       rintro k c al ac af ⟨rfl,rfl,hs⟩;refine ca (fM O ak (i:=lo+k) (j:=lo+k-1) (by clear ac hq0 hsz ab m2 m1 hgt hnn aa n2 n1 h1;omega) (by clear ac hq0 hsz ab m2 m1 hgt hnn aa n2 n1 h1;omega) ?_);cases e:lt (G (ck al) (lo+k)) (G (ck al) (lo+k-1))with
       |true=>
        simp only[if_true];exact ci ⟨rfl,k,rfl,by clear af hq0 hsz ab m2 hgt hnn aa n2 n1 h1 hn;omega,by clear ac hq0 hsz ab m2 m1 hgt hnn aa n2 n1 h1 hn;omega,hs⟩
       |false=>
        simp only[fg,if_false];exact ci ⟨rfl,rfl,Sg.more (n:=lo+k) O ak (by clear ac hq0 hsz ab m2 m1 hgt hnn aa n2 n1 h1;omega) (by clear af hq0 hsz ab m2 hgt hnn aa n2 n1 h1 hn;omega) hs e⟩
      case post3=>
       rintro c al ⟨rfl,n',rfl,p1,p2,hs⟩;exact ci (q n' al ak p1 p2 hs)
     ·rw[cf hq0];have ak:=ai.mirror (i:=lo) (j:=lo+m) (ff _) (by clear hq0 hsz ab m1 hgt hnn aa n2 n1 h1;omega);have ao:Sg lt (ck (nk aj (mirror (ck aj) lo (lo+m) ((lo+m-lo)/2)))) lo (lo+m):=sU hsz an;refine ca (iG ?_)
      revert ak ao
      generalize (nk aj (mirror (ck aj) lo (lo+m) ((lo+m-lo)/2)))=st4;intro ak ao;refine ca (kj (gz (a:=m)
       (I:=fun k c st'=>st'=st4/\c=(none,k)/\Sg lt (ck st4) lo (lo+k))
       (Q:=fun c st'=>st'=st4/\∃n,c=(none,n)/\1<=n/\n<=ah/\Sg lt (ck st4) lo (lo+n)) ?step3 ?fin3 ⟨rfl,rfl,ao⟩) ?post3)
      case fin3=>
       rintro c al ⟨rfl,rfl,hs⟩;rw[show max m ah=ah by clear hq0 hsz ab m1 hgt hnn aa n2 n1 h1 hn;omega]at hs ⊢;exact⟨rfl,ah,rfl,by clear hq0 hsz ab m2 m1 hgt hnn aa n2 n1 hn;omega,ff _,hs⟩
      case step3=>
       rintro k c al ac af ⟨rfl,rfl,hs⟩;refine ca (fM O ak (i:=lo+k) (j:=lo+k-1) (by clear ac hq0 hsz ab m2 m1 hgt hnn aa n2 n1 h1;omega) (by clear ac hq0 hsz ab m2 m1 hgt hnn aa n2 n1 h1;omega) ?_);cases e:lt (G (ck al) (lo+k)) (G (ck al) (lo+k-1))with
       |true=>
        simp only[if_true];exact ci ⟨rfl,k,rfl,by clear af hq0 hsz ab m2 hgt hnn aa n2 n1 h1 hn;omega,by clear ac hq0 hsz ab m2 m1 hgt hnn aa n2 n1 h1 hn;omega,hs⟩
       |false=>
        simp only[fg,if_false];exact ci ⟨rfl,rfl,Sg.more (n:=lo+k) O ak (by clear ac hq0 hsz ab m2 m1 hgt hnn aa n2 n1 h1;omega) (by clear af hq0 hsz ab m2 hgt hnn aa n2 n1 h1 hn;omega) hs e⟩
      case post3=>
       rintro c al ⟨rfl,n',rfl,p1,p2,hs⟩;exact ci (q n' al ak p1 p2 hs)
  ·rw[cf hgt];have ae:n=1:=by clear hnn aa n2 h1 hn;omega
   have hT:=h;have hF:Fg lt (ck st') lo (lo+(n+1)):=by
    subst ae;refine jD (n:=lo+1) O h (by clear hgt aa n2 n1;omega) (by clear hgt hnn aa n2 n1 h1 hn;omega) (fun p q p1 pq q2=>?_) (O.asym _ _ (h.dd (by clear hgt aa n2 n1;omega)) (h.dd (by clear hgt hnn aa n2 n1;omega)) ar);have e1:p=q:=by clear hgt hnn aa n2 n1 h1 hn;omega
    rw[e1];exact O.irr (h.dd (by clear e1 pq p1 hgt hnn aa n2 n1;omega))
   refine ca (wpS_lift (mn ⟨rfl,?_⟩));refine ca (kj (gz (a:=n+1)
    (I:=fun k c st'=>Tb kd D a₀ lo st0 st'/\∃ag,c=(none,k,ag)/\Fg lt (ck st') lo (lo+k)/\ag+1<=k/\Eg lt (ck st') (lo+k-(ag+1)) (lo+k))
    (Q:=fun c st'=>Tb kd D a₀ lo st0 st'/\∃m ag,c=(none,m,ag)/\1<=m/\m<=ah/\Fg lt (ck st') lo (lo+m)/\ag+1<=m/\Eg lt (ck st') (lo+m-(ag+1)) (lo+m)) ?step2 ?fin2 ⟨hT,0,rfl,hF,by clear ae hgt hnn aa n2 n1 h1 hn;omega,fun i j h1 h2 h3 h4=>by
     have e1:i=j:=by clear ae hgt hnn aa n2 n1 hn;omega
     rw[e1];exact O.irr (hT.dd (by clear e1 h3 h2 h1 ae hgt aa n1;omega))⟩) ?post2)
   case fin2=>
    rintro c aj ⟨ai,ag,rfl,an,ab,am⟩;rw[show max (n+1) ah=ah by clear ab ae hgt aa n1 h1 hn;omega]at an ab am ⊢;exact⟨ai,ah,ag,rfl,by clear ab ae hgt hnn aa n2 n1 hn;omega,ff _,an,ab,am⟩
   case step2=>
    rintro k c aj ac af ⟨ai,ag,rfl,an,ab,am⟩;refine ca (fM O ai (i:=lo+k) (j:=lo+k-1) (by clear ab ac ae hgt hnn aa n2 n1 h1;omega) (by clear ab ac ae hgt hnn aa n2 n1 h1;omega) ?_);have hsz:lo+k<=(ck aj).size:=by rw[ai.size];(clear ab ac ae hgt hnn aa n2 n1 h1;omega)
    cases e:lt (G (ck aj) (lo+k)) (G (ck aj) (lo+k-1))with
    |true=>
     simp only[if_true];by_cases hq0:ag>0
     ·rw[cg hq0];have ap:=ai.mirror (i:=lo+k-(ag+1)) (j:=lo+k) (by clear hq0 hsz af ac ae hgt hnn aa n2 n1 h1 hn;omega) (by clear hq0 hsz ab ac ae hgt hnn aa n2 n1 h1;omega);refine ca (iG (ci ⟨ap,0,rfl,?_,by clear hq0 hsz ab af ac ae hgt hnn aa n2 n1 h1 hn;omega,fun i j h1 h2 h3 h4=>by
       have e1:i=j:=by clear hq0 hsz ab af ac ae hgt hnn aa n2 n1 hn;omega
       rw[e1];exact O.irr (ap.dd (by clear e1 h3 h2 h1 hq0 hsz ab ac ae hgt hnn aa n2 n1;omega))⟩))
      refine jD (n:=lo+k) O ap (by clear hq0 hsz ab ac ae hgt hnn aa n2 n1 h1;omega) (by clear hq0 hsz ab af ae hgt hnn aa n2 n1 h1 hn;omega) (oI hsz (by clear hq0 hsz af ac ae hgt hnn aa n2 n1 h1 hn;omega) an am) ?_;show lt (G (mirror (ck aj) (lo+k-(ag+1)) (lo+k) _) (lo+k-1)) (G (mirror (ck aj) (lo+k-(ag+1)) (lo+k) _) (lo+k))=false;rw[yZ hsz (ff _),xX hsz (by clear hq0 hsz ab af ae hgt hnn aa n2 n1 h1 hn;omega)];have d1:=ai.dd (i:=lo+k) (by clear hq0 hsz ab ac ae hgt hnn aa n2 n1 h1;omega);have d2:=ai.dd (i:=lo+k-1) (by clear hq0 hsz ab ac ae hgt hnn aa n2 n1 h1;omega);have d3:=ai.dd (i:=lo+k-(ag+1)) (by clear hq0 hsz ab ac ae hgt hnn aa n2 n1 h1;omega);exact O.tr _ _ _ d1 d2 d3 (O.asym _ _ d1 d2 e) (am _ _ (by clear hq0 hsz ab af ac ae hgt hnn aa n2 n1 h1 hn;omega) (by clear hq0 hsz ab af ae hgt hnn aa n2 n1 h1 hn;omega) (by clear hq0 hsz ab af ac ae hgt hnn aa n2 n1 h1 hn;omega) (by clear hq0 hsz ab af ae hgt hnn aa n2 n1 h1 hn;omega))
     ·rw[cf hq0];refine ci ⟨ai,0,rfl,?_,by clear hq0 hsz ab af ac ae hgt hnn aa n2 n1 h1 hn;omega,fun i j h1 h2 h3 h4=>by
       have e1:i=j:=by clear hq0 hsz ab af ac ae hgt hnn aa n2 n1 hn;omega
       rw[e1];exact O.irr (ai.dd (by clear e1 h3 h2 h1 hq0 hsz ab ac ae hgt hnn aa n2 n1;omega))⟩
      exact jD (n:=lo+k) O ai (by clear hq0 hsz ab ac ae hgt hnn aa n2 n1 h1;omega) (by clear hq0 hsz ab af ae hgt hnn aa n2 n1 h1 hn;omega) an (O.asym _ _ (ai.dd (by clear hq0 hsz ab ac ae hgt hnn aa n2 n1 h1;omega)) (ai.dd (by clear hq0 hsz ab ac ae hgt hnn aa n2 n1 h1;omega)) e)
    |false=>
     simp only[fg,if_false];refine ca (fM O ai (i:=lo+k-1) (j:=lo+k) (by clear hsz ab ac ae hgt hnn aa n2 n1 h1;omega) (by clear hsz ab ac ae hgt hnn aa n2 n1 h1;omega) ?_);cases e2:lt (G (ck aj) (lo+k-1)) (G (ck aj) (lo+k))with
     |true=>
      simp only[if_true];exact ci ⟨ai,k,ag,rfl,by clear hsz ab af ae hgt hnn aa n2 n1 h1 hn;omega,by clear hsz ab ac ae hgt hnn aa n2 n1 h1 hn;omega,an,ab,am⟩
     |false=>
      simp only[fg,if_false];refine ci ⟨ai,ag+1,rfl,jD (n:=lo+k) O ai (by clear hsz ab ac ae hgt hnn aa n2 n1 h1;omega) (by clear hsz ab af ae hgt hnn aa n2 n1 h1 hn;omega) an e2,by clear hsz af ac ae hgt hnn aa n2 n1 h1 hn;omega,fun i j h1 h2 h3 h4=>?_⟩;have dk:=ai.dd (i:=lo+k) (by clear h4 h3 h2 h1 hsz ab ac ae hgt hnn aa n2 n1;omega);have dl:=ai.dd (i:=lo+k-1) (by clear h4 h3 h2 h1 hsz ab ac ae hgt hnn aa n2 n1;omega);by_cases z1:i=lo+k
      ·rw[z1];by_cases z2:j=lo+k
       ·rw[z2];exact O.irr dk
       ·exact O.tr _ _ _ (ai.dd (by clear z2 z1 h3 h2 h1 hsz ab ac ae hgt hnn aa n2 n1;omega)) dl dk (am _ _ (by clear z2 z1 h4 h3 h2 h1 hsz ab af ac ae hgt hnn aa n2 n1 hn;omega) (by clear z2 z1 h4 h3 h2 h1 hsz ab af ae hgt hnn aa n2 n1 hn;omega) (by clear z2 z1 h4 h2 h1 hsz ab af ac ae hgt hnn aa n2 n1 hn;omega) (by clear z1 h3 h2 h1 hsz ab af ac ae hgt hnn aa n2 n1 hn;omega)) e
      ·by_cases z2:j=lo+k
       ·rw[z2];exact O.tr _ _ _ dk dl (ai.dd (by clear z2 z1 h4 h3 h1 hsz ab ac ae hgt hnn aa n2 n1;omega)) e2 (am _ _ (by clear z2 z1 h4 h3 h2 hsz ab af ac ae hgt hnn aa n2 n1 hn;omega) (by clear z2 h4 h3 h1 hsz ab af ac ae hgt hnn aa n2 n1 hn;omega) (by clear z2 z1 h4 h3 h2 h1 hsz ab af ac ae hgt hnn aa n2 n1 hn;omega) (by clear z2 z1 h4 h3 h2 h1 hsz ab af ae hgt hnn aa n2 n1 hn;omega))
       ·exact am i j (by clear z2 z1 h4 h3 h2 hsz ab af ac ae hgt hnn aa n2 n1 hn;omega) (by clear z2 h4 h3 h1 hsz ab af ac ae hgt hnn aa n2 n1 hn;omega) (by clear z2 z1 h4 h2 h1 hsz ab af ac ae hgt hnn aa n2 n1 hn;omega) (by clear z1 h3 h2 h1 hsz ab af ac ae hgt hnn aa n2 n1 hn;omega)
   case post2=>
    rintro c aj ⟨ai,m,ag,rfl,m1,m2,an,ab,am⟩;have hsz:lo+m<=(ck aj).size:=by rw[ai.size];(clear ab m1 ae hgt hnn aa n2 n1 h1;omega)
    have ap:=ai.mirror (i:=lo+m-(ag+1)) (j:=lo+m) (by clear hsz m2 m1 ae hgt hnn aa n2 n1 h1 hn;omega) (by clear hsz ab m1 ae hgt hnn aa n2 n1 h1;omega);have aq:=oI hsz (by clear hsz m2 m1 ae hgt hnn aa n2 n1 h1 hn;omega) an am;by_cases hq0:ag>0
    ·rw[cg hq0];refine ca (iG ?_);have ak:=ap.mirror (i:=lo) (j:=lo+m) (ff _) (by clear hq0 hsz ab m1 ae hgt hnn aa n2 n1 h1;omega);have ao:Sg lt (ck (nk (nk aj (mirror (ck aj) (lo+m-(ag+1)) (lo+m) ((lo+m-(lo+m-(ag+1)))/2))) (mirror (mirror (ck aj) (lo+m-(ag+1)) (lo+m) ((lo+m-(lo+m-(ag+1)))/2)) lo (lo+m) ((lo+m-lo)/2)))) lo (lo+m):=sU (by rw[mirror_size];exact hsz) aq;refine ca (iG ?_)
     revert ak ao
     generalize (nk (nk aj (mirror (ck aj) (lo+m-(ag+1)) (lo+m) ((lo+m-(lo+m-(ag+1)))/2))) (mirror (mirror (ck aj) (lo+m-(ag+1)) (lo+m) ((lo+m-(lo+m-(ag+1)))/2)) lo (lo+m) ((lo+m-lo)/2)))=st4;intro ak ao;refine ca (kj (gz (a:=m)
      (I:=fun k c st'=>st'=st4/\c=(none,k)/\Sg lt (ck st4) lo (lo+k))
      (Q:=fun c st'=>st'=st4/\∃n,c=(none,n)/\1<=n/\n<=ah/\Sg lt (ck st4) lo (lo+n)) ?step3 ?fin3 ⟨rfl,rfl,ao⟩) ?post3)
     case fin3=>
      rintro c al ⟨rfl,rfl,hs⟩;rw[show max m ah=ah by clear hq0 hsz ab m1 ae hgt hnn aa n2 n1 h1 hn;omega]at hs ⊢;exact⟨rfl,ah,rfl,by clear hq0 hsz ab m2 m1 ae hgt hnn aa n2 n1 hn;omega,ff _,hs⟩
     case step3=>
      rintro k c al ac af ⟨rfl,rfl,hs⟩;refine ca (fM O ak (i:=lo+k) (j:=lo+k-1) (by clear ac hq0 hsz ab m2 m1 ae hgt hnn aa n2 n1 h1;omega) (by clear ac hq0 hsz ab m2 m1 ae hgt hnn aa n2 n1 h1;omega) ?_);cases e:lt (G (ck al) (lo+k)) (G (ck al) (lo+k-1))with
      |true=>
       simp only[if_true];exact ci ⟨rfl,k,rfl,by clear af hq0 hsz ab m2 ae hgt hnn aa n2 n1 h1 hn;omega,by clear ac hq0 hsz ab m2 m1 ae hgt hnn aa n2 n1 h1 hn;omega,hs⟩
      |false=>
       simp only[fg,if_false];exact ci ⟨rfl,rfl,Sg.more (n:=lo+k) O ak (by clear ac hq0 hsz ab m2 m1 ae hgt hnn aa n2 n1 h1;omega) (by clear af hq0 hsz ab m2 ae hgt hnn aa n2 n1 h1 hn;omega) hs e⟩
     case post3=>
      rintro c al ⟨rfl,n',rfl,p1,p2,hs⟩;exact ci (q n' al ak p1 p2 hs)
    ·rw[cf hq0];have ak:=ai.mirror (i:=lo) (j:=lo+m) (ff _) (by clear hq0 hsz ab m1 ae hgt hnn aa n2 n1 h1;omega);have ao:Sg lt (ck (nk aj (mirror (ck aj) lo (lo+m) ((lo+m-lo)/2)))) lo (lo+m):=sU hsz an;refine ca (iG ?_)
     revert ak ao
     generalize (nk aj (mirror (ck aj) lo (lo+m) ((lo+m-lo)/2)))=st4;intro ak ao;refine ca (kj (gz (a:=m)
      (I:=fun k c st'=>st'=st4/\c=(none,k)/\Sg lt (ck st4) lo (lo+k))
      (Q:=fun c st'=>st'=st4/\∃n,c=(none,n)/\1<=n/\n<=ah/\Sg lt (ck st4) lo (lo+n)) ?step3 ?fin3 ⟨rfl,rfl,ao⟩) ?post3)
     case fin3=>
      rintro c al ⟨rfl,rfl,hs⟩;rw[show max m ah=ah by clear hq0 hsz ab m1 ae hgt hnn aa n2 n1 h1 hn;omega]at hs ⊢;exact⟨rfl,ah,rfl,by clear hq0 hsz ab m2 m1 ae hgt hnn aa n2 n1 hn;omega,ff _,hs⟩
     case step3=>
      rintro k c al ac af ⟨rfl,rfl,hs⟩;refine ca (fM O ak (i:=lo+k) (j:=lo+k-1) (by clear ac hq0 hsz ab m2 m1 ae hgt hnn aa n2 n1 h1;omega) (by clear ac hq0 hsz ab m2 m1 ae hgt hnn aa n2 n1 h1;omega) ?_);cases e:lt (G (ck al) (lo+k)) (G (ck al) (lo+k-1))with
      |true=>
       simp only[if_true];exact ci ⟨rfl,k,rfl,by clear af hq0 hsz ab m2 ae hgt hnn aa n2 n1 h1 hn;omega,by clear ac hq0 hsz ab m2 m1 ae hgt hnn aa n2 n1 h1 hn;omega,hs⟩
      |false=>
       simp only[fg,if_false];exact ci ⟨rfl,rfl,Sg.more (n:=lo+k) O ak (by clear ac hq0 hsz ab m2 m1 ae hgt hnn aa n2 n1 h1;omega) (by clear af hq0 hsz ab m2 ae hgt hnn aa n2 n1 h1 hn;omega) hs e⟩
     case post3=>
      rintro c al ⟨rfl,n',rfl,p1,p2,hs⟩;exact ci (q n' al ak p1 p2 hs)
theorem L6(O:LtOk prog w A E s kd D lt){a₀:Array cv}{lo n ok:Nat}{st0 st:gq}{Q:Bool->gq->Prop}(h:Tb kd D a₀ lo st0 st)(hn:lo+n<=a₀.size)(h1:1<=ok)(hok:ok<=n)(hs:Sg lt (ck st) lo (lo+ok))
  (q:∀st',Tb kd D a₀ lo st0 st'->Sg lt (ck st') lo (lo+n)->Q true st'):wpS (model prog w) A E s (binarySort' lo n ok) Q st:=by
 refine ca (kj (gz (a:=max ok 1)
  (I:=fun k c st'=>c=(none,())/\Tb kd D a₀ lo st0 st'/\Sg lt (ck st') lo (lo+k))
  (Q:=fun c st'=>c=(none,())/\Tb kd D a₀ lo st0 st'/\Sg lt (ck st') lo (lo+n)) ?step ?fin ⟨rfl,h,by rw[show max ok 1=ok by omega];exact hs⟩) ?post)
 case fin=>
  rintro c st' ⟨rfl,hT,hS⟩;rw[show max (max ok 1) n=n by omega]at hS;exact⟨rfl,hT,hS⟩
 case post=>
  rintro c st' ⟨rfl,hT,hS⟩;exact ci (q st' hT hS)
 case step=>
  rintro k c st' ae af ⟨rfl,hT,hS⟩;have k1:1<=k:=yw
  refine ca (kj (gz (a:=0)
   (I:=fun j c aa=>aa=st'/\∃l r,c=(none,l,r)/\l<=r/\r<=k/\r-l+j<=k/\(∀i,i<l->lt (G (ck st') (lo+k)) (G (ck st') (lo+i))=false)/\∀i,r<=i->i<k->lt (G (ck st') (lo+k)) (G (ck st') (lo+i))=true)
   (Q:=fun c aa=>aa=st'/\∃l,c=(none,l,l)/\l<=k/\(∀i,i<l->lt (G (ck st') (lo+k)) (G (ck st') (lo+i))=false)/\∀i,l<=i->i<k->lt (G (ck st') (lo+k)) (G (ck st') (lo+i))=true) ?step2 ?fin2 ⟨rfl,0,k,rfl,yw,yw,yw,fun i hi=>by omega,fun i h1 h2=>by omega⟩) ?post2)
  case fin2=>
   rintro c aa ⟨rfl,l,r,rfl,a1,a2,a3,a4,a5⟩;have:l=r:=yw
   subst this;exact⟨rfl,l,rfl,a2,a4,a5⟩
  case step2=>
   rintro j c aa _ hj ⟨rfl,l,r,rfl,a1,a2,a3,a4,a5⟩;by_cases hlr:l≥r
   ·rw[cg hlr];have:l=r:=yw
    subst this;exact ci ⟨rfl,l,rfl,a2,a4,a5⟩
   rw[cf hlr];have hm:(l+r)/2<k:=yw
   refine ca (fM O hT (i:=lo+k) (j:=lo+(l+r)/2) yw yw ?_);have dk:=hT.dd (i:=lo+k) yw;have dm:=hT.dd (i:=lo+(l+r)/2) yw;cases e:lt (G (ck aa) (lo+k)) (G (ck aa) (lo+(l+r)/2))with
   |true=>
    simp only[if_true];refine ci ⟨rfl,l,(l+r)/2,rfl,yw,yw,yw,a4,fun i i1 i2=>?_⟩;have di:=hT.dd (i:=lo+i) yw;cases e2:lt (G (ck aa) (lo+k)) (G (ck aa) (lo+i))with
    |true=>rfl
    |false=>
     have:=O.tr _ _ _ dm di dk (hS (lo+(l+r)/2) (lo+i) yw yw yw) e2;rw[this]at e;cases e
   |false=>
    simp only[fg,if_false];refine ci ⟨rfl,(l+r)/2+1,r,rfl,yw,yw,yw,fun i i1=>?_,a5⟩;exact O.tr _ _ _ (hT.dd yw) dm dk (hS (lo+i) (lo+(l+r)/2) yw yw yw) e
  case post2=>
   rintro c aa ⟨rfl,l,rfl,l1,l2,l3⟩;have ab:lo+k<(ck aa).size:=by rw[hT.size];omega
   have hd:lo+k-(lo+l)=k-l:=yw
   refine ca (kz (ci ⟨rfl,hT.bubble (src:=lo+k) (d:=lo+k-(lo+l)) yw yw yw,?_⟩));intro i j hi ac hj;show lt (G (bubble (ck aa) (lo+k) (lo+k-(lo+l))) j) (G (bubble (ck aa) (lo+k) (lo+k-(lo+l))) i)=false;rw[xH ab yw,xH ab yw,show lo+k-(lo+k-(lo+l))=lo+l by omega];have dk:=hT.dd (i:=lo+k) yw;by_cases i1:i=lo+l
   ·rw[cg i1];by_cases j1:j=lo+l
    ·rw[cg j1];exact O.irr dk
    ·rw[cf j1,cg yw];have:=l3 (j-1-lo) yw yw;rw[show lo+(j-1-lo)=j-1 by omega]at this;exact O.asym _ _ dk (hT.dd yw) this
   ·rw[cf i1];by_cases i2:lo+l<i/\i<=lo+k
    ·rw[cg i2,cf yw,cg yw];exact hS _ _ yw yw yw
    ·rw[cf i2];by_cases j1:j=lo+l
     ·rw[cg j1];have:=l2 (i-lo) yw;rw[show lo+(i-lo)=i by omega]at this;exact this
     ·rw[cf j1];by_cases j2:lo+l<j/\j<=lo+k
      ·rw[cg j2];exact hS _ _ yw yw yw
      ·rw[cf j2];exact hS i j hi ac yw
structure Ts(kd:ow)(D:cv->Prop)(a₀:Array cv)(st:gq):Prop where
 kd:kindOf st=kd
 fl:qz st=none
 pm:(ck st).Perm a₀
 d:∀x∈a₀.toList,D x
section
variable {a₀:Array cv}{st:gq}
theorem Ts.size(h:Ts kd D a₀ st):(ck st).size=a₀.size:=h.pm.size_eq
theorem Ts.mem(h:Ts kd D a₀ st){x:cv}(m:x∈(ck st).toList):D x:=h.d x ((Array.perm_iff_toList_perm.mp h.pm).mem_iff.mp m)
theorem Ts.at(h:Ts kd D a₀ st){i:Nat}(hi:i<a₀.size):(ck st)[i]?=some (G (ck st) i):=wQ (by rw[h.size];exact hi)
theorem Ts.dd(h:Ts kd D a₀ st){i:Nat}(hi:i<a₀.size):D (G (ck st) i):=h.mem (bu (by rw[<- bC];exact h.at hi))
theorem Ts.tb(h:Ts kd D a₀ st)(lo:Nat):Tb kd D a₀ lo st st:=⟨h.kd,h.fl,h.pm,rfl,fun _ _=>rfl,h.d⟩
end
theorem BG{xs:Array cv}{i:Nat}{x:cv}(h:xs.toList[i]?=some x):G xs i=x:=by
 unfold G;rw[bC.mpr h];rfl
theorem DF(s:Nat):∀(l:List cv) (k:Nat) (xs:Array cv),s+k+l.length<=xs.size->((l.zipIdx k).foldl (fun a p=>a.setIfInBounds (s+p.2) p.1) xs).toList=xs.toList.take (s+k)++l++xs.toList.drop (s+k+l.length)
 | [],k,xs,_=>by simp
 |x::l,k,xs,h=>by
  rw[ft]at h;rw[zipIdx_cons,qw,DF s l (k+1) _ (by rw[Array.size_setIfInBounds];omega)];simp only[Array.toList_setIfInBounds];have hl:s+k<xs.toList.length:=by simp;omega
  have e1:(xs.toList.set (s+k) x).take (s+(k+1))=xs.toList.take (s+k)++[x]:=by
   rw[show s+(k+1)=s+k+1 by omega,ke,nv hl,List.take_set_of_le (ff _)];rfl
  have e2:(xs.toList.set (s+k) x).drop (s+(k+1)+l.length)=xs.toList.drop (s+k+(x::l).length):=by
   rw[List.drop_set_of_lt yw,ft];congr 1;omega
  rw[e1,e2];simp
theorem GG{x:gq}{Q:PUnit->gq->Prop}{st:gq}(h:Q ⟨⟩ x):wpS (model prog w) A E s (set x:StateT gq Sem PUnit) Q st:=by
 unfold wpS;rw[StateT.run_set];exact cq ⟨rfl,h⟩
theorem l9{xs:Array cv}{lo hi:Nat}(hh:hi<=xs.size){x:cv}(m:x∈(xs.extract lo hi).toList):∃r,lo<=r/\r<hi/\G xs r=x:=by
 rw[ni,jp]at m;obtain⟨j,hj⟩:=mem_iff_getElem?.mp m;rw[getElem?_take]at hj;split at hj
 ·rw[qo]at hj;exact⟨lo+j,by clear hh;omega,by clear hh;omega,BG hj⟩
 ·cases hj
theorem wV{xs:Array cv}{lo hi j:Nat}(hh:hi<=xs.size)(hj:j<hi-lo):(xs.extract lo hi)[j]?=some (G xs (lo+j)):=by
 rw[bC,ni,jp,getElem?_take,cg yw,qo,<- bC];exact wQ yw
theorem Ba{xs:Array cv}{lo hi:Nat}(hh:hi<=xs.size)(h:Sg lt xs lo hi):SrtL lt (xs.extract lo hi).toList:=by
 unfold SrtL;rw[List.pairwise_iff_getElem];intro i j aa q ab;have e1:=cn aa;have e2:=cn q;have hl:(xs.extract lo hi).toList.length=hi-lo:=by simp;omega
 rw[<- bC,wV hh yw]at e1 e2;rw[<- gh e1,<- gh e2];exact h _ _ yw yw yw
theorem IU(O:LtOk prog w A E s kd D lt){a₀:Array cv}{i sa na pw sb nb ay:Nat}{st:gq}{Q:Bool->gq->Prop}(h:Ts kd D a₀ st)(e1:(cw st)[i]?=some (sa,na,pw))(e2:(cw st)[i+1]?=some (sb,nb,ay))(ae:sb=sa+na)(ab:1<=na)(aa:1<=nb)(hsz:sb+nb<=a₀.size)
  (sA:Sg lt (ck st) sa (sa+na)) (sB:Sg lt (ck st) sb (sb+nb))
  (q:∀st',Ts kd D a₀ st'->cw st'=((cw st).setIfInBounds i (sa,na+nb,pw)).eraseIdxIfInBounds (i+1)->(∀j,j<sa\/sa+na+nb<=j->G (ck st') j=G (ck st) j)->Sg lt (ck st') sa (sa+na+nb)->Q true st'):wpS (model prog w) A E s (mergeAt' i) Q st:=by
 refine ca (rg ?_);simp only[e1,e2];have ac:(ck st).size=a₀.size:=h.size;refine ca (GG ?_);refine ca (zQ (h.at (i:=sb) (by clear ac ab ae;omega)) ?_);refine ca (gal O (key:=G (ck st) sb) (hint:=0) h.kd (h.dd (by clear ac ab ae;omega)) (fun j h1 h2=>⟨_,h.at (by clear h1 ac aa ab;omega),h.dd (by clear h1 ac aa ab;omega)⟩) (fun i j x y h1 h2 h3 ex ey=>by
  rw[h.at (by clear h1 ac aa ab;omega)]at ex ey;cases ex;cases ey;exact sA i j h1 h2 h3) (by clear ac hsz aa ae;omega) fun k hk g1 g2=>?_)
 dsimp only;have aq:∀j,sa<=j->j<sa+k->lt (G (ck st) sb) (G (ck st) j)=false:=fun j h1 h2=>by
  have:=g1 j _ h1 h2 (h.at (by clear h1 ac aa ab;omega));simpa[bey]using this
 have au:∀j,sa+k<=j->j<sa+na->lt (G (ck st) sb) (G (ck st) j)=true:=fun j h1 h2=>by
  have:=g2 j _ h1 h2 (h.at (by clear h1 hk ac aa ab;omega));simpa[bey]using this
 by_cases c1:na-k=0
 ·rw[cg (by simpa using c1)];refine ci (q _ ⟨h.kd,h.fl,h.pm,h.d⟩ rfl (fun j _=>rfl) fun p r hp af hr=>?_);show lt (G (ck st) r) (G (ck st) p)=false;by_cases z1:r<sa+na
  ·exact sA p r hp af z1
  ·by_cases z2:p<sa+na
   ·exact O.tr _ _ _ (h.dd (by clear z2 z1 hp c1 hk ac aa ab;omega)) (h.dd (i:=sb) (by clear z2 z1 hr af hp c1 hk ac ab ae;omega)) (h.dd (by clear z2 z1 af hp c1 hk ac aa ab;omega)) (aq p hp (by clear z1 hr af hp hk ac hsz aa ab ae;omega)) (sB sb r (ff _) (by clear z2 hr af hp c1 hk ac hsz aa ab;omega) (by clear z2 z1 af hp c1 hk ac hsz aa ab;omega))
   ·exact sB p r (by clear z1 hr af hp c1 hk ac hsz aa ab;omega) af (by clear z2 z1 af hp c1 hk ac hsz aa ab;omega)
 rw[cf (by simpa using c1)];have ei:sa+k+(na-k)-1=sb-1:=by clear c1 ac hsz aa ab;omega
 rw[ei];refine ca (zQ (h.at (i:=sb-1) (by clear ei c1 hk ac aa;omega)) ?_);refine ca (gal O (key:=G (ck st) (sb-1)) (hint:=nb-1) h.kd (h.dd (by clear ei c1 hk ac aa;omega)) (fun j h1 h2=>⟨_,h.at (by clear h1 ei c1 hk ac aa ab ae;omega),h.dd (by clear h1 ei c1 hk ac aa ab ae;omega)⟩) (fun i j x y h1 h2 h3 ex ey=>by
  rw[h.at (by clear h1 ei c1 hk ac aa ab ae;omega)]at ex ey;cases ex;cases ey;exact sB i j h1 h2 h3) (by clear ei c1 hk ac hsz ab ae;omega) fun m hm f1 f2=>?_)
 dsimp only;have az:∀j,sb<=j->j<sb+m->lt (G (ck st) j) (G (ck st) (sb-1))=true:=fun j h1 h2=>by
  have:=f1 j _ h1 h2 (h.at (by clear h1 ei c1 hk ac aa ab ae;omega));simpa[bey]using this
 have ao:∀j,sb+m<=j->j<sb+nb->lt (G (ck st) j) (G (ck st) (sb-1))=false:=fun j h1 h2=>by
  have:=f2 j _ h1 h2 (h.at (by clear h1 hm ei c1 hk ac aa ab ae;omega));simpa[bey]using this
 by_cases c2:m=0
 ·rw[cg (by simpa using c2)];refine ci (q _ ⟨h.kd,h.fl,h.pm,h.d⟩ rfl (fun j _=>rfl) fun p r hp af hr=>?_);show lt (G (ck st) r) (G (ck st) p)=false;by_cases z1:r<sa+na
  ·exact sA p r hp af z1
  ·by_cases z2:p<sa+na
   ·exact O.tr _ _ _ (h.dd (by clear z2 z1 hp c2 hm ei c1 hk ac aa ab;omega)) (h.dd (i:=sb-1) (by clear z2 z1 hr af hp c2 hm ei c1 hk ac aa;omega)) (h.dd (by clear z2 z1 af hp c2 hm ei c1 hk ac aa ab;omega)) (sA p (sb-1) hp (by clear z1 hr af hp c2 hm ei c1 hk ac hsz aa ab;omega) (by clear z2 z1 hr af hp c2 hm ei c1 hk ac hsz aa;omega)) (ao r (by clear z2 hr af hp hm ei c1 hk ac hsz aa ab;omega) (by clear z2 z1 af hp c2 hm ei c1 hk ac hsz aa ab;omega))
   ·exact sB p r (by clear z1 hr af hp c2 hm ei c1 hk ac hsz aa ab;omega) af (by clear z2 z1 af hp c2 hm ei c1 hk ac hsz aa ab;omega)
 rw[cf (by simpa using c2)];have xD:∀x∈((ck st).extract (sa+k) sb).toList,D x:=fun x mx=>by
  obtain⟨r,r1,r2,rfl⟩:=l9 (by clear c2 hm ei c1 hk aa ab ae;omega) mx;exact h.dd (by clear r1 c2 hm ei c1 hk ac aa ab ae;omega)
 have yD:∀x∈((ck st).extract sb (sb+m)).toList,D x:=fun x mx=>by
  obtain⟨r,r1,r2,rfl⟩:=l9 (by clear c2 ei c1 hk aa ab ae;omega) mx;exact h.dd (by clear r1 c2 ei c1 hk ac aa ab ae;omega)
 have xS:=Ba (lt:=lt) (xs:=ck st) (lo:=sa+k) (hi:=sb) (by clear c2 hm ei c1 hk aa ab ae;omega) fun p r h1 h2 h3=>sA p r (by clear h3 h2 c2 hm ei c1 hk ac hsz aa ab ae;omega) h2 (by clear h2 h1 c2 hm ei c1 hk ac hsz aa ab;omega);have yS:=Ba (lt:=lt) (xs:=ck st) (lo:=sb) (hi:=sb+m) (by clear c2 ei c1 hk aa ab ae;omega) fun p r h1 h2 h3=>sB p r (by clear h3 h2 c2 hm ei c1 hk ac hsz aa ab ae;omega) h2 (by clear h2 h1 c2 ei c1 hk ac hsz aa ab ae;omega);have xz:((ck st).extract (sa+k) sb).size=sb-(sa+k):=by simp;(clear c2 hm ei c1 hk aa ab ae;omega)
 have yz:((ck st).extract sb (sb+m)).size=m:=by simp;(clear xz c2 ei c1 hk aa ab ae;omega)
 have y0:∀y,((ck st).extract sb (sb+m))[0]?=some y->∀x∈((ck st).extract (sa+k) sb).toList,lt x y=false:=fun y ey x mx=>by
  rw[wV (by clear yz xz c2 ei c1 hk aa ab ae;omega) (by clear yz xz hm ei c1 hk ac hsz aa ab ae;omega)]at ey;cases ey;obtain⟨r,r1,r2,rfl⟩:=l9 (by clear yz xz c2 hm ei c1 hk aa ab ae;omega) mx;exact O.asym _ _ (h.dd (by clear r2 r1 yz xz c2 hm ei c1 hk ac ab ae;omega)) (h.dd (by clear r1 yz xz c2 hm ei c1 hk ac aa ab ae;omega)) (au r r1 (by clear r1 yz xz c2 hm ei c1 hk ac hsz aa ab;omega))
 have xl:∀x,((ck st).extract (sa+k) sb)[((ck st).extract (sa+k) sb).size-1]?=some x->∀y∈((ck st).extract sb (sb+m)).toList,lt x y=false:=fun x ex y my=>by
  rw[xz,wV (by clear yz xz c2 hm ei c1 hk aa ab ae;omega) (by clear yz xz c2 hm ei hk ac hsz aa ab;omega)]at ex;cases ex;obtain⟨r,r1,r2,rfl⟩:=l9 (by clear yz xz c2 ei c1 hk aa ab ae;omega) my;rw[show sa+k+(sb-(sa+k)-1)=sb-1 by clear r2 r1 yz xz c2 hm ei hk ac hsz aa ab;omega];exact O.asym _ _ (h.dd (by clear r1 yz xz c2 ei c1 hk ac aa ab ae;omega)) (h.dd (by clear r2 r1 yz xz c2 hm ei c1 hk ac aa;omega)) (az r r1 r2)
 have fin:∀(out:Array cv) (st':gq) (ak:gq),MDone lt (((ck st).extract (sa+k) sb).toList++((ck st).extract sb (sb+m)).toList) out.toList->sameSt ak st'->ck ak=ck st->kindOf ak=kindOf st->qz ak=qz st->cw ak=((cw st).setIfInBounds i (sa,na+nb,pw)).eraseIdxIfInBounds (i+1) ->
   ∀ah:gq,kindOf ah=kindOf st'->qz ah=qz st'->cw ah=cw st'->ck ah=px (fun a x=>a.setIfInBounds (sa+k+x.snd) x.fst) (ck st') out.toList.zipIdx->Q true ah/\qz ah=none:=fun out st' ak hd am a1 ax a0 a2 ah ek ef ep ea=>by
  obtain⟨s1,s2,s3,s4⟩:=am;have ag:out.toList.length=sb-(sa+k)+m:=by
   have:=hd.1.length_eq;rw[cx]at this;simp only[jr]at this ⊢
   (clear c2 hm ei c1 hk ac hsz aa ab ae;omega)
  rw[s2,a1]at ea;have hw:=DF (sa+k) out.toList 0 (ck st) (by clear yz xz c2 ei c1 aa ab;omega);have ht:(ck ah).toList=(ck st).toList.take (sa+k)++out.toList++(ck st).toList.drop (sb+m):=by
   rw[ea];rw[sf]at hw;rw[hw];congr 2
   (clear yz xz c2 hm ei c1 ac hsz aa ab;omega)
  have ar:(ck ah).Perm (ck st):=by
   rw[Array.perm_iff_toList_perm,ht];have e0:(ck st).toList=(ck st).toList.take (sa+k)++(((ck st).extract (sa+k) sb).toList++((ck st).extract sb (sb+m)).toList)++(ck st).toList.drop (sb+m):=by
    rw[ni,ni,jp,jp,gv,gv,show sb+m-sb=m by clear ag yz xz c2 hm ei c1 hk ac hsz aa ab ae;omega];have q1:(ck st).toList.drop (sb+m)=((ck st).toList.drop sb).drop m:=by rw[List.drop_drop]
    rw[q1,ky];have q2:(ck st).toList.drop sb=((ck st).toList.drop (sa+k)).drop (sb-(sa+k)):=by rw[List.drop_drop];congr 1;(clear ag yz xz c2 hm ei c1 ac hsz aa ab;omega)
    rw[q2,ky,ky]
   conv=>rhs;rw[e0]
   exact(hd.1.append_left _).append_right _
  have ap:Ts kd D a₀ ah:=⟨ek.trans (s1.trans (ax.trans h.kd)),ef.trans (s4.trans (a0.trans h.fl)),ar.trans h.pm,h.d⟩;have tl:((ck st).toList.take (sa+k)).length=sa+k:=by rw[nz,jr];(clear ag yz xz c2 hm ei c1 aa ab;omega)
  have ai:∀j,j<sa+k\/sb+m<=j->G (ck ah) j=G (ck st) j:=fun j hj=>by
   unfold G;congr 1;rw[<- qk,<- qk,ht];rcases hj with hj|hj
   ·rw[gv,fk (by clear ag yz xz c2 hm ei c1 hk ac hsz aa ab ae;omega),getElem?_take,cg hj]
   ·rw[kw (by rw[cx,tl,ag];(clear tl ag yz xz c2 hm ei c1 ac hsz aa ab;omega)),cx,tl,ag,qo];congr 1
    (clear tl ag yz xz c2 hm ei c1 ac hsz aa ab;omega)
  have an:∀j,sa+k<=j->j<sb+m->∃z,out.toList[j-(sa+k)]?=some z/\G (ck ah) j=z/\∃r,sa+k<=r/\r<sb+m/\G (ck st) r=z:=fun j h1 h2=>by
   have hj:j-(sa+k)<out.toList.length:=by clear h1 tl yz xz c2 hm ei hk ac hsz aa ab;omega
   have ez:=cn hj;refine⟨_,ez,BG ?_,?_⟩
   ·rw[ht,gv,kw (by clear h2 ag yz xz c2 hm ei c1 hk ac hsz aa ab ae;omega),tl,fk hj];exact ez
   ·have mz:=hd.1.mem_iff.mp (bu ez);rcases mem_append.mp mz with mz|mz
    ·obtain⟨r,r1,r2,r3⟩:=l9 (by clear h2 h1 tl ag yz xz c2 hm ei c1 hk aa ab ae;omega) mz;exact⟨r,r1,by clear r1 h2 h1 tl ag yz xz c2 hm ei c1 hk ac hsz aa ab ae;omega,r3⟩
    ·obtain⟨r,r1,r2,r3⟩:=l9 (by clear h2 h1 tl ag yz xz c2 ei c1 hk aa ab ae;omega) mz;exact⟨r,by clear r2 h2 h1 tl ag yz xz c2 hm ei c1 ac hsz aa ab;omega,r2,r3⟩
  refine⟨q ah ap (ep.trans (s3.trans a2)) (fun j hj=>ai j (by clear tl ag yz xz c2 ei c1 hk ac hsz aa ab;omega)) fun p r hp af hr=>?_,ap.fl⟩;have up:∀p q',sa<=p->p<sa+k->sb<=q'->q'<sb+nb->lt (G (ck st) q') (G (ck st) p)=false:=fun p q' p1 p2 q1 q2=>O.tr _ _ _ (h.dd (by clear q2 q1 p1 hr af hp tl ag yz xz c2 hm ei c1 ac aa ab;omega)) (h.dd (i:=sb) (by clear q2 q1 p2 p1 hr af hp tl ag yz xz c2 hm ei c1 hk ac ab ae;omega)) (h.dd (by clear q1 p2 p1 hr af hp tl ag yz xz c2 hm ei c1 hk ac aa ab ae;omega)) (aq p p1 p2) (sB sb q' (ff _) q1 q2);have dn:∀p q',sa<=p->p<sb->sb+m<=q'->q'<sb+nb->lt (G (ck st) q') (G (ck st) p)=false:=fun p q' p1 p2 q1 q2=>O.tr _ _ _ (h.dd (by clear q2 q1 p1 hr af hp tl ag yz xz c2 hm ei c1 hk ac aa ab ae;omega)) (h.dd (i:=sb-1) (by clear q2 q1 p2 p1 hr af hp tl ag yz xz c2 hm ei c1 hk ac aa;omega)) (h.dd (by clear q1 p2 p1 hr af hp tl ag yz xz c2 hm ei c1 hk ac aa ab ae;omega)) (sA p (sb-1) p1 (by clear q2 q1 p1 hr af hp tl ag yz xz c2 hm ei c1 hk ac hsz aa ab ae;omega) (by clear q2 q1 p2 p1 hr af hp tl ag yz xz c2 hm ei c1 hk ac hsz aa;omega)) (ao q' q1 q2);by_cases p1:p<sa+k
  ·rw[ai p (.inl p1)];by_cases r1:r<sa+k
   ·rw[ai r (.inl r1)];exact sA p r hp af (by clear p1 hr af hp tl ag yz xz c2 hm ei c1 ac hsz aa ab ae;omega)
   by_cases r2:sb+m<=r
   ·rw[ai r (.inr r2)];exact up p r hp p1 (by clear r1 p1 hr af hp tl ag yz xz c2 hm ei c1 hk ac hsz aa ab ae;omega) (by clear r2 r1 p1 af hp tl ag yz xz c2 hm ei c1 hk ac hsz aa ab;omega)
   ·obtain⟨z,_,ez,t,t1,t2,t3⟩:=an r (by clear r2 p1 hr af hp tl ag yz xz c2 hm ei c1 hk ac hsz aa ab ae;omega) (by clear r1 p1 hr af hp tl ag yz xz c2 hm ei c1 hk ac hsz aa ab ae;omega);rw[ez,<- t3];by_cases tb:t<sb
    ·exact sA p t hp (by clear tb t2 r2 r1 hr af hp tl ag yz xz c2 hm ei c1 hk ac hsz aa ab ae;omega) (by clear t2 t1 r2 r1 p1 hr af hp tl ag yz xz c2 hm ei c1 hk ac hsz aa ab;omega)
    ·exact up p t hp p1 (by clear t2 t1 r2 r1 p1 hr af hp tl ag yz xz c2 hm ei c1 hk ac hsz aa ab ae;omega) (by clear tb t1 r2 r1 p1 hr af hp tl ag yz xz c2 ei c1 hk ac hsz aa ab ae;omega)
  by_cases p2:sb+m<=p
  ·rw[ai p (.inr p2),ai r (.inr (by clear p1 hr hp tl ag yz xz c2 hm ei c1 hk ac hsz aa ab ae;omega))];exact sB p r (by clear p1 hr af hp tl ag yz xz c2 hm ei c1 hk ac hsz aa ab ae;omega) af (by clear p2 p1 af hp tl ag yz xz c2 hm ei c1 hk ac hsz aa ab;omega)
  obtain⟨z,oz,ez,t,t1,t2,t3⟩:=an p (by clear p2 hr af hp tl ag yz xz c2 hm ei c1 hk ac hsz aa ab ae;omega) (by clear p1 hr af hp tl ag yz xz c2 hm ei c1 hk ac hsz aa ab ae;omega);by_cases r2:sb+m<=r
  ·rw[ai r (.inr r2),ez,<- t3];by_cases tb:t<sb
   ·exact dn t r (by clear tb r2 t2 p2 p1 hr af hp tl ag yz xz c2 hm ei c1 hk ac hsz aa ab ae;omega) tb r2 (by clear tb r2 t2 t1 p2 p1 af hp tl ag yz xz c2 hm ei c1 hk ac hsz aa ab;omega)
   ·exact sB t r (by clear r2 t2 t1 p2 p1 hr af hp tl ag yz xz c2 hm ei c1 hk ac hsz aa ab ae;omega) (by clear tb t1 p2 p1 hr af hp tl ag yz xz c2 hm ei c1 hk ac hsz aa ab ae;omega) (by clear tb r2 t2 t1 p2 p1 af hp tl ag yz xz c2 hm ei c1 hk ac hsz aa ab;omega)
  ·obtain⟨z',av,aw,_⟩:=an r (by clear r2 t2 t1 p2 hr hp tl ag yz xz c2 hm ei c1 hk ac hsz aa ab ae;omega) (by clear t2 t1 p2 p1 hr af hp tl ag yz xz c2 hm ei c1 hk ac hsz aa ab ae;omega);rw[ez,aw];exact dQ O hd.2 (fun x mx=>by
    rcases mem_append.mp (hd.1.mem_iff.mp mx)with mx|mx
    ·exact xD x mx
    ·exact yD x mx) (show p-(sa+k)<=r-(sa+k) by clear r2 t2 t1 p2 p1 hr hp tl ag yz xz c2 hm ei c1 hk ac hsz aa ab ae;omega) oz av
 have aj:1<=((ck st).extract (sa+k) sb).size:=by rw[xz];(clear yz xz c2 hm ei hk ac hsz aa ab;omega)
 have al:1<=((ck st).extract sb (sb+m)).size:=by rw[yz];(clear aj yz xz hm ei c1 hk ac hsz aa ab ae;omega)
 have aj:1<=((ck st).extract (sa+k) sb).size:=by rw[xz];(clear al aj yz xz c2 hm ei hk ac hsz aa ab;omega)
 have al:1<=((ck st).extract sb (sb+m)).size:=by rw[yz];(clear aj al yz xz hm ei c1 hk ac hsz aa ab ae;omega)
 by_cases c3:na-k<=m
 ·rw[cg c3];refine ca (KK O h.kd xD yD xS yS aj al y0 xl fun out st' hd am=>?_);refine ca (kz (ca (rg ?_)));obtain⟨z1,z2⟩:=fin out st' _ hd am rfl rfl rfl rfl (nk st' (px (fun a x=>a.setIfInBounds (sa+k+x.snd) x.fst) (ck st') out.toList.zipIdx)) rfl rfl rfl rfl;refine ci ?_;show Q (qz (nk st' (px (fun a x=>a.setIfInBounds (sa+k+x.snd) x.fst) (ck st') out.toList.zipIdx))).isNone (nk st' (px (fun a x=>a.setIfInBounds (sa+k+x.snd) x.fst) (ck st') out.toList.zipIdx));rw[z2];exact z1
 ·rw[cf c3];refine ca (GK O h.kd xD yD xS yS aj al y0 xl fun out st' hd am=>?_);refine ca (kz (ca (rg ?_)));obtain⟨z1,z2⟩:=fin out st' _ hd am rfl rfl rfl rfl (nk st' (px (fun a x=>a.setIfInBounds (sa+k+x.snd) x.fst) (ck st') out.toList.zipIdx)) rfl rfl rfl rfl;refine ci ?_;show Q (qz (nk st' (px (fun a x=>a.setIfInBounds (sa+k+x.snd) x.fst) (ck st') out.toList.zipIdx))).isNone (nk st' (px (fun a x=>a.setIfInBounds (sa+k+x.snd) x.fst) (ck st') out.toList.zipIdx));rw[z2];exact z1
def Stk(lt:cv->cv->Bool)(xs:Array cv):Nat->List (Nat×Nat×Nat)->Nat->Prop
 |s,[],e=>s=e
 |s,r::p,e=>r.1=s/\1<=r.2.1/\Sg lt xs s (s+r.2.1)/\Stk lt xs (s+r.2.1) p e
theorem Stk.le{xs:Array cv}:∀{p:List (Nat×Nat×Nat)}{s e:Nat},Stk lt xs s p e->s+p.length<=e
 | [],s,e,h=>by have:s=e:=h;simp;omega
 |r::p,s,e,h=>by
  obtain⟨h1,h2,h3,h4⟩:=h;have:=Stk.le h4;rw[ft]
  (clear h1;omega)
theorem Stk.mono{xs ys:Array cv}:∀{p:List (Nat×Nat×Nat)}{s e:Nat},Stk lt xs s p e->(∀i,s<=i->i<e->G ys i=G xs i)->Stk lt ys s p e
 | [],s,e,h,_=>h
 |r::p,s,e,h,k=>by
  obtain⟨h1,h2,h3,h4⟩:=h;have:=Stk.le h4;refine⟨h1,h2,fun i j hi q hj=>?_,Stk.mono h4 fun i hi hj=>k i yw hj⟩;rw[k i yw yw,k j yw yw];exact h3 i j hi q hj
theorem Stk.push{xs:Array cv}{n w':Nat}:∀{p:List (Nat×Nat×Nat)}{s e:Nat},Stk lt xs s p e->1<=n->Sg lt xs e (e+n)->Stk lt xs s (p++[(e,n,w')]) (e+n)
 | [],s,e,h,h1,h2=>by
  have:s=e:=h;subst this;exact⟨rfl,h1,h2,rfl⟩
 |r::p,s,e,h,k1,k2=>by
  obtain⟨h1,h2,h3,h4⟩:=h;exact⟨h1,h2,h3,Stk.push h4 k1 k2⟩
theorem Stk.modLast{xs:Array cv}{pw:Nat}:∀{p:List (Nat×Nat×Nat)}{s e:Nat},Stk lt xs s p e->∀k,Stk lt xs s (p.modify k fun x=>(x.1,x.2.1,pw)) e
 | [],s,e,h,k=>by simpa using h
 |r::p,s,e,h,0=>by
  obtain⟨h1,h2,h3,h4⟩:=h;exact⟨h1,h2,h3,h4⟩
 |r::p,s,e,h,k+1=>by
  obtain⟨h1,h2,h3,h4⟩:=h;exact⟨h1,h2,h3,Stk.modLast h4 k⟩
theorem Stk.at{xs:Array cv}{sa na pw sb nb ab:Nat}:∀{p:List (Nat×Nat×Nat)}{s e i:Nat},Stk lt xs s p e->p[i]?=some (sa,na,pw)->p[i+1]?=some (sb,nb,ab) ->
  s<=sa/\sb=sa+na/\1<=na/\1<=nb/\sb+nb<=e/\Sg lt xs sa (sa+na)/\Sg lt xs sb (sb+nb)/\∀ys:Array cv,(∀j,j<sa\/sa+na+nb<=j->G ys j=G xs j)->Sg lt ys sa (sa+na+nb)->Stk lt ys s ((p.set i (sa,na+nb,pw)).eraseIdx (i+1)) e
 | [],s,e,i,_,h1,_=>by simp at h1
 |r::p,s,e,0,h,e1,e2=>by
  have er:r=(sa,na,pw):=by simpa using e1
  subst er;cases p with
  |nil=>simp at e2
  |cons r2 p=>
   have af:r2=(sb,nb,ab):=by simpa using e2
   subst af;obtain⟨h1,h2,h3,h5,h6,h7,h8⟩:=h;have ai:sa=s:=h1;have ag:sb=s+na:=h5;subst ai;have q:=Stk.le h8;have ac:1<=nb:=h6;have aa:1<=na:=h2;subst ag;have ah:Stk lt xs (sa+na+nb) p e:=h8;refine⟨ff _,rfl,aa,ac,by have:sa+na+nb+p.length<=e:=q;(clear q h5 h6 aa ac h1 h2;omega),h3,h7,fun ys k1 k2=>?_⟩;refine⟨rfl,by show 1<=na+nb;(clear q h5 h6 aa h1 h2;omega),?_,?_⟩
   ·show Sg lt ys sa (sa+(na+nb));rw[<- Nat.add_assoc];exact k2
   ·show Stk lt ys (sa+(na+nb)) p e;rw[<- Nat.add_assoc];exact Stk.mono ah fun i hi hj=>k1 i (.inr hi)
 |r::p,s,e,i+1,h,e1,e2=>by
  obtain⟨h1,h2,h3,h4⟩:=h;obtain⟨q1,q2,q3,q4,q5,q6,q7,q8⟩:=Stk.at h4 (by simpa using e1) (by simpa using e2);refine⟨by clear q5 q4 q3 q2 h2 h1;omega,q2,q3,q4,q5,q6,q7,fun ys k1 k2=>?_⟩;refine⟨h1,h2,fun i j hi ae hj=>?_,q8 ys k1 k2⟩;rw[k1 i (.inl (by clear hi q5 q4 q3 q2 h2 h1;omega)),k1 j (.inl (by clear ae hi q5 q4 q3 q2 h2 h1;omega))];exact h3 i j hi ae hj
theorem wZ(O:LtOk prog w A E s kd D lt){a₀:Array cv}{i lo:Nat}{st:gq}{Q:Bool->gq->Prop}(h:Ts kd D a₀ st)(hs:Stk lt (ck st) 0 (cw st).toList lo)(ab:lo<=a₀.size)(hi:i+1<(cw st).size)
  (q:∀st',Ts kd D a₀ st'->Stk lt (ck st') 0 (cw st').toList lo->(cw st').size+1=(cw st).size->(∀j,lo<=j->G (ck st') j=G (ck st) j)->Q true st'):wpS (model prog w) A E s (mergeAt' i) Q st:=by
 obtain⟨⟨sa,na,pw⟩,g1⟩:∃r,(cw st)[i]?=some r:=⟨_,kt yw⟩;obtain⟨⟨sb,nb,ac⟩,g2⟩:∃r,(cw st)[i+1]?=some r:=⟨_,kt yw⟩;obtain⟨q1,q2,q3,q4,q5,q6,q7,q8⟩:=Stk.at hs (i:=i) (by rw[<- qk]at g1;exact g1) (by rw[<- qk]at g2;exact g2);refine IU O h g1 g2 q2 q3 q4 yw q6 q7 fun st' hT hp hg hS=>?_;have aa:(cw st').toList=((cw st).toList.set i (sa,na+nb,pw)).eraseIdx (i+1):=by
  rw[hp,Array.eraseIdxIfInBounds,dif_pos (by rw[Array.size_setIfInBounds];exact hi),Array.toList_eraseIdx,Array.toList_setIfInBounds]
 refine q st' hT ?_ ?_ fun j hj=>hg j (.inr yw)
 ·rw[aa];exact q8 _ hg hS
 ·have:=congrArg List.length aa;rw[List.length_eraseIdx_of_lt (by simp;omega),length_set,jr,jr]at this;omega
theorem IK(O:LtOk prog w A E s kd D lt){a₀:Array cv}{st:gq}{Q:Unit->gq->Prop}(h:Ts kd D a₀ st)(aq:cw st = #[])(h2:2<=a₀.size)
  (q:∀st',Ts kd D a₀ st'->Sg lt (ck st') 0 a₀.size->Q () st'):wpS (model prog w) A E s sortRuns' Q st:=by
 rw[sortRuns'_eq];refine ca (rg ?_);dsimp only;rw[h.size];generalize minRun' a₀.size a₀.size 0=mr;refine ca (kj (gz (a:=0)
  (I:=fun k c st'=>∃lo,c=(none,lo)/\k<=lo/\lo<=a₀.size/\Ts kd D a₀ st'/\Stk lt (ck st') 0 (cw st').toList lo)
  (Q:=fun c st'=>∃lo,c=(none,lo)/\lo=a₀.size/\Ts kd D a₀ st'/\Stk lt (ck st') 0 (cw st').toList lo) ?step ?fin ⟨0,rfl,ff _,lc _,h,by rw[aq];rfl⟩) ?post)
 case fin=>
  rintro c st' ⟨lo,rfl,k1,k2,hT,hS⟩;exact⟨lo,rfl,yw,hT,hS⟩
 case post=>
  rintro c st' ⟨lo,rfl,rfl,hT,hS⟩;dsimp only;have hz:=Stk.le hS;rw[jr]at hz;refine ca (kj (gz (a:=0)
   (I:=fun k c ab=>c=(none,())/\Ts kd D a₀ ab/\Stk lt (ck ab) 0 (cw ab).toList a₀.size/\(cw ab).size+k<=a₀.size+0\/c=(none,())/\Ts kd D a₀ ab/\Stk lt (ck ab) 0 (cw ab).toList a₀.size/\(cw ab).size<=1)
   (Q:=fun c ab=>c=(none,())/\Ts kd D a₀ ab/\Stk lt (ck ab) 0 (cw ab).toList a₀.size/\(cw ab).size<=1) ?stepF ?finF (.inl ⟨rfl,hT,hS,yw⟩)) ?postF)
  case finF=>
   rintro c ab (⟨rfl,h3,h4,h5⟩|hh)
   ·exact⟨rfl,h3,h4,yw⟩
   ·exact hh
  case stepF=>
   rintro k c ab _ hk hh;have ar:c=(none,())/\Ts kd D a₀ ab/\Stk lt (ck ab) 0 (cw ab).toList a₀.size/\((cw ab).size+k<=a₀.size\/(cw ab).size<=1):=by
    rcases hh with ⟨a1,a2,a3,a4⟩|⟨a1,a2,a3,a4⟩
    ·exact⟨a1,a2,a3,.inl yw⟩
    ·exact⟨a1,a2,a3,.inr a4⟩
   obtain⟨rfl,h3,h4,h5⟩:=ar;refine ca (rg ?_)
   try dsimp only
   by_cases d1:(cw ab).size<=1
   ·rw[cg d1];exact ci ⟨rfl,h3,h4,d1⟩
   rw[cf d1];generalize hgen:(if (if (cw ab).size-2>0 then Option.map (fun x=>x.snd.fst) (cw ab)[(cw ab).size-2-1]? else none).any (fun x=>decide (x<(cw ab)[(cw ab).size-2+1]?.elim 0 fun x=>x.snd.fst))=true then (cw ab).size-2-1 else (cw ab).size-2)=ii;have au:ii+1<(cw ab).size:=by
    have hx:∀(P:Prop) (_:Decidable P),(if P then (cw ab).size-2-1 else (cw ab).size-2)+1<(cw ab).size:=fun P _=>by
     by_cases z:P
     ·rw[cg z];omega
     ·rw[cf z];omega
    rw[<- hgen];exact hx _ _
   refine ca (wZ O h3 h4 (ff _) au fun ao h6 s6 z6 g6=>?_);simp only[Bool.not_true,fg,if_false];exact ci (.inl ⟨rfl,h6,s6,yw⟩)
  case postF=>
   rintro c ab ⟨rfl,h3,h4,h5⟩;dsimp only;refine ci (q ab h3 ?_);cases hl:(cw ab).toList with
   |nil=>
    rw[hl]at h4;have:0=a₀.size:=h4;omega
   |cons r rest=>
    have hr:rest=[]:=by
     have:=congrArg List.length hl;rw[jr,ft]at this;exact iy yw
    rw[hl,hr]at h4;obtain⟨e1,e2,e3,e4⟩:=h4;have ap:0+r.2.1=a₀.size:=e4;rw[<- ap];exact e3
 case step=>
  rintro k c st' _ hk ⟨lo,rfl,k1,k2,hT,hS⟩;dsimp only;by_cases c1:lo≥a₀.size
  ·rw[cg c1];exact ci ⟨lo,rfl,yw,hT,hS⟩
  rw[cf c1];refine ca (F4 O (hT.tb lo) yw yw fun m ab am m1 m2 an=>?_);dsimp only;by_cases c2:m<mr
  ·rw[cg c2];refine ca (wpS_lift (mn ⟨rfl,?_⟩));refine ca (L6 O am (n:=min (a₀.size-lo) mr) yw m1 yw an fun ae af ai=>?_);simp only[Bool.not_true,fg,if_false];have n1:1<=min (a₀.size-lo) mr:=yw
   have n2:lo+min (a₀.size-lo) mr<=a₀.size:=yw
   generalize min (a₀.size-lo) mr=n at n1 n2 ai;have ah:Ts kd D a₀ ae:=⟨af.kd,af.fl,af.pm,af.d⟩;have ak:Stk lt (ck ae) 0 (cw ae).toList lo:=by
    rw[af.pe];exact Stk.mono hS fun i _ hi=>af.lo i hi
   refine ca (rg ?_);have fin:∀aa:gq,Ts kd D a₀ aa->Stk lt (ck aa) 0 (cw aa).toList lo->(∀j,lo<=j->G (ck aa) j=G (ck ae) j)->Stk lt (ck aa) 0 ((cw aa).push (lo,n,0)).toList (lo+n):=fun aa hM ag ac=>by
    rw[Array.toList_push];refine Stk.push ag n1 fun i j hi al hj=>?_;rw[ac i hi,ac j yw];exact ai i j hi al hj
   cases hbk:(cw ae).back? with
   |none=>
    try dsimp only
    exact ca (kz (ci ⟨lo+n,rfl,yw,yw,⟨ah.kd,ah.fl,ah.pm,ah.d⟩,fin ae ah ak fun _ _=>rfl⟩))
   |some r=>
    obtain⟨s1,aj,w1⟩:=r
    try dsimp only
    generalize power' a₀.size (2*s1+aj) (2*s1+aj+aj+n) a₀.size=pw;refine ca (kj (gz (a:=0)
     (I:=fun _ c aa=>c=(none,())/\Ts kd D a₀ aa/\Stk lt (ck aa) 0 (cw aa).toList lo/\∀j,lo<=j->G (ck aa) j=G (ck ae) j)
     (Q:=fun c aa=>c=(none,())/\Ts kd D a₀ aa/\Stk lt (ck aa) 0 (cw aa).toList lo/\∀j,lo<=j->G (ck aa) j=G (ck ae) j) ?stepM (fun _ _ hh=>hh) ⟨rfl,ah,ak,fun _ _=>rfl⟩) ?postM)
    case stepM=>
     rintro kk c aa _ _ ⟨rfl,hM,ag,ac⟩;refine ca (rg ?_)
     try dsimp only
     by_cases d1:(cw aa).size>1
     ·rw[cg d1];obtain⟨⟨oa,ob,oc⟩,og⟩:∃r,(cw aa)[(cw aa).size-2]?=some r:=⟨_,kt yw⟩;rw[og];dsimp only;by_cases d2:oc<=pw
      ·rw[cg d2];exact ci ⟨rfl,hM,ag,ac⟩
      ·rw[cf d2];refine ca (wZ O hM ag k2 yw fun ao h5 s5 z5 g5=>?_);simp only[Bool.not_true,fg,if_false];exact ci ⟨rfl,h5,s5,fun j hj=>(g5 j hj).trans (ac j hj)⟩
     ·rw[cf d1];exact ci ⟨rfl,hM,ag,ac⟩
    case postM=>
     rintro c aa ⟨rfl,hM,ag,ac⟩;dsimp only;refine ca (kz (ca (kz (ci ⟨lo+n,rfl,yw,yw,⟨hM.kd,hM.fl,hM.pm,hM.d⟩,?_⟩))));refine fin (setPending aa ((cw aa).modify ((cw aa).size-1) fun x=>(x.1,x.2.1,pw))) ⟨hM.kd,hM.fl,hM.pm,hM.d⟩ ?_ ac;show Stk lt (ck aa) 0 ((cw aa).modify ((cw aa).size-1) fun x=>(x.1,x.2.1,pw)).toList lo;rw[Array.toList_modify];exact Stk.modLast ag _
  ·rw[cf c2];have n1:1<=m:=m1;have n2:lo+m<=a₀.size:=yw
   have ai:=an;have af:=am;generalize m=n at n1 n2 ai
   revert af ai
   generalize ab=ae;intro af ai;have ah:Ts kd D a₀ ae:=⟨af.kd,af.fl,af.pm,af.d⟩;have ak:Stk lt (ck ae) 0 (cw ae).toList lo:=by
    rw[af.pe];exact Stk.mono hS fun i _ hi=>af.lo i hi
   refine ca (rg ?_);have fin:∀aa:gq,Ts kd D a₀ aa->Stk lt (ck aa) 0 (cw aa).toList lo->(∀j,lo<=j->G (ck aa) j=G (ck ae) j)->Stk lt (ck aa) 0 ((cw aa).push (lo,n,0)).toList (lo+n):=fun aa hM ag ac=>by
    rw[Array.toList_push];refine Stk.push ag n1 fun i j hi al hj=>?_;rw[ac i hi,ac j yw];exact ai i j hi al hj
   cases hbk:(cw ae).back? with
   |none=>
    try dsimp only
    exact ca (kz (ci ⟨lo+n,rfl,yw,yw,⟨ah.kd,ah.fl,ah.pm,ah.d⟩,fin ae ah ak fun _ _=>rfl⟩))
   |some r=>
    obtain⟨s1,aj,w1⟩:=r
    try dsimp only
    generalize power' a₀.size (2*s1+aj) (2*s1+aj+aj+n) a₀.size=pw;refine ca (kj (gz (a:=0)
     (I:=fun _ c aa=>c=(none,())/\Ts kd D a₀ aa/\Stk lt (ck aa) 0 (cw aa).toList lo/\∀j,lo<=j->G (ck aa) j=G (ck ae) j)
     (Q:=fun c aa=>c=(none,())/\Ts kd D a₀ aa/\Stk lt (ck aa) 0 (cw aa).toList lo/\∀j,lo<=j->G (ck aa) j=G (ck ae) j) ?stepM (fun _ _ hh=>hh) ⟨rfl,ah,ak,fun _ _=>rfl⟩) ?postM)
    case stepM=>
     rintro kk c aa _ _ ⟨rfl,hM,ag,ac⟩;refine ca (rg ?_)
     try dsimp only
     by_cases d1:(cw aa).size>1
     ·rw[cg d1];obtain⟨⟨oa,ob,oc⟩,og⟩:∃r,(cw aa)[(cw aa).size-2]?=some r:=⟨_,kt yw⟩;rw[og];dsimp only;by_cases d2:oc<=pw
      ·rw[cg d2];exact ci ⟨rfl,hM,ag,ac⟩
      ·rw[cf d2];refine ca (wZ O hM ag k2 yw fun ao h5 s5 z5 g5=>?_);simp only[Bool.not_true,fg,if_false];exact ci ⟨rfl,h5,s5,fun j hj=>(g5 j hj).trans (ac j hj)⟩
     ·rw[cf d1];exact ci ⟨rfl,hM,ag,ac⟩
    case postM=>
     rintro c aa ⟨rfl,hM,ag,ac⟩;refine ca (kz (ca (kz (ci ⟨lo+n,rfl,yw,yw,⟨hM.kd,hM.fl,hM.pm,hM.d⟩,?_⟩))));refine fin (setPending aa ((cw aa).modify ((cw aa).size-1) fun x=>(x.1,x.2.1,pw))) ⟨hM.kd,hM.fl,hM.pm,hM.d⟩ ?_ ac;show Stk lt (ck aa) 0 ((cw aa).modify ((cw aa).size-1) fun x=>(x.1,x.2.1,pw)).toList lo;rw[Array.toList_modify];exact Stk.modLast ag _
end
end L2
namespace L2
open PySem PySem.Spec PySem.Calls PyProof.Rows PySem.W
theorem nU:∀{a b c:List Int},HT.lexLt a b=true->HT.lexLt b c=true->HT.lexLt a c=true
 | [],[],_,h,_=>by cases h
 | [],_::_,[],_,h=>by cases h
 | [],_::_,_::_,_,_=>rfl
 |_::_,[],_,h,_=>by cases h
 |_::_,_::_,[],_,h=>by cases h
 |x::xs,y::ys,z::zs,h,k=>by
  rw[HT.lexLt_cons]at h k ⊢;split at h
  ·rename_i e;subst e;split at k
   ·rename_i e;subst e;rw[cg rfl];exact nU h k
   ·rename_i e;rw[cf e];exact k
  ·rename_i e;have h':=qp h;split at k
   ·rename_i e2;subst e2;rw[cf e];exact h
   ·have k':=qp k;rw[cf yw];exact ge yw
theorem v9:∀(a b:List Int),HT.lexLt a b=true\/a=b\/HT.lexLt b a=true
 | [],[]=>.inr (.inl rfl)
 | [],_::_=>.inl rfl
 |_::_,[]=>.inr (.inr rfl)
 |x::xs,y::ys=>by
  rw[HT.lexLt_cons,HT.lexLt_cons];by_cases e:x=y
  ·subst e;rw[cg rfl,cg rfl];rcases v9 xs ys with h|h|h
   ·exact .inl h
   ·exact .inr (.inl (by rw[h]))
   ·exact .inr (.inr h)
  ·rw[cf e,cf (jg e)];by_cases hl:x<y
   ·exact .inl (ge hl)
   ·exact .inr (.inr (ge yw))
section
variable {prog:gc}{w:gy}{A:ip}{E:bp->bq->Prop}{s:bq}
theorem Kb{α:Type}{r:α->α->Prop}{l:List α}(h:l.length<2):l.Pairwise r:=by
 cases l with
 |nil=>exact .nil
 |cons x l=>
  cases l with
  |nil=>exact List.pairwise_singleton _ _
  |cons y l=>exact absurd h yv
theorem A6{a:Addr}{vs:List bp}{n:Nat}{kd:ow}{lt:cv->cv->Bool}{P:PySem.Fin->bq->Prop}(ho:s.heap.get? a=some (jq "list" vs.toArray n))(hz:vs.length<=10000000)
  (hkd:∀h3,KeptBut a s.heap h3->∀(Q:ow->bq->Prop),2<=vs.length->Q kd { s with heap:=h3 }->dh (model prog w) A (keyKind' vs.toArray) Q E { s with heap:=h3 })
  (hO:∀h3,KeptBut a s.heap h3->LtOk prog w A E { s with heap:=h3 } kd (fun x=>x.1=x.2/\x.1∈vs) lt)
  (h:∀h' c (out:List bp),KeptBut a s.heap h'->out.Perm vs->out.Pairwise (fun x y=>lt (y,y) (x,x)=false)->h'.get? a=some (jq "list" out.toArray c)->P (.done (.ret .none)) { s with heap:=h' }):
  dh (model prog w) A (Builtin.«list.sort» ⟨[.ref a],[]⟩) P E s:=by
 have ha:a<s.heap.objs.size:=gg ho;have s1:=oq s.heap a (ic fun _=>(#[]:Array bp));obtain⟨e1,ac⟩:∃e1,(s.heap.update a (ic fun _=>(#[]:Array bp))).get? a=some (jq "list" #[] e1):=⟨_,get?_update_seq ho fun _=>#[]⟩;have keep:KeptBut a s.heap (((s.heap.update a (ic fun _=>(#[]:Array bp))).push (jq "tuple" vs.toArray 0)).push (jq "list" #[] 0)):=fun b o nb e=>
  cp _ (cp _ ((s1.2 b nb).trans e))
 have q:(((s.heap.update a (ic fun _=>(#[]:Array bp))).push (jq "tuple" vs.toArray 0)).push (jq "list" #[] 0)).get? a=some (jq "list" #[] e1):=cp _ (cp _ ac);rw[list_sort_plain];refine bo (listItems_at ho rfl ?_);refine bo (listUpdate_at ho rfl ?_ (by rw[fh,jv];omega) (lc _));refine bo (seqEpoch_at ac rfl ?_);refine bo (wpAny_newTuple ?_ (by show vs.length<=_;rw[jv];omega));refine bo (wpAny_newList ?_ (lc _));refine km ?_;show dh (model prog w) A _ P E { s with heap:=((s.heap.update a (ic fun _=>(#[]:Array bp))).push (jq "tuple" vs.toArray 0)).push (jq "list" #[] 0) };generalize ((s.heap.update a (ic fun _=>(#[]:Array bp))).push (jq "tuple" vs.toArray 0)).push (jq "list" #[] 0)=h3 at keep q ⊢;dsimp only;by_cases hn2:vs.toArray.size<2
 ·rw[cg hn2,cg hn2];refine bo (cq ?_);rw[StateT.run_pure];refine bo (cq ?_);dsimp only;have eo:(ck (SortSt.mk' general' (vs.toArray.zip vs.toArray) #[] 7 none)).map (·.2)=kq vs:=by
   apply Array.toList_inj.mp;show ((vs.toArray.zip vs.toArray).map (·.2)).toList=vs;rw[Array.toList_map,Array.toList_zip,List.map_snd_zip (ff _)]
  rw[eo];have s2:=oq h3 a (ic fun _=>kq vs);obtain⟨c2,ab⟩:∃c2,(h3.update a (ic fun _=>kq vs)).get? a=some (jq "list" (kq vs) c2):=⟨_,get?_update_seq q fun _=>kq vs⟩;refine bo (seqEpoch_at q rfl ?_);refine bo (listUpdate_at q rfl ?_ (lc _) (by show (kq vs).size<=_;rw[fh,jv];omega));simp only[bne_self_eq_false,fg,if_false];refine cq (h _ c2 vs (fun b o nb e=>(s2.2 b nb).trans (keep b o nb e)) (List.Perm.refl _) ?_ ab);rw[fh]at hn2;exact Kb hn2
 ·rw[cf hn2,cf hn2];rw[fh]at hn2;refine bo (hkd h3 keep _ yw ?_);have O:=hO h3 keep;have hT:Ts kd (fun x:cv=>x.1=x.2/\x.1∈vs) (pairsOf vs) (SortSt.mk' kd (vs.toArray.zip vs.toArray) #[] 7 none):=⟨rfl,rfl,Array.Perm.refl _,fun x m=>by
   rw[pairsOf_toList]at m;exact mem_zip_self m⟩
  refine bo (wpAny_mono (IK O (Q:=fun _ st'=>Ts kd (fun x:cv=>x.1=x.2/\x.1∈vs) (pairsOf vs) st'/\Sg lt (ck st') 0 (pairsOf vs).size) hT rfl (by rw[pairsOf_size];omega) fun st' a1 a2=>⟨a1,a2⟩) ?_ fun _ _ e=>e);rintro⟨⟨⟩,st'⟩ s' ⟨rfl,hT',hS'⟩;dsimp only;have hp:((ck st').toList.map (·.2)).Perm vs:=by
   have h1:=(Array.perm_iff_toList_perm.mp hT'.pm).map (·.2);rw[pairsOf_toList,List.map_snd_zip (ff _)]at h1;exact h1
  have hs:((ck st').toList.map (·.2)).Pairwise (fun x y=>lt (y,y) (x,x)=false):=by
   rw[pairwise_map,List.pairwise_iff_getElem];intro i j hi hj af;have ae:i<(pairsOf vs).size:=by rw[<- hT'.size];simpa using hi
   have aa:j<(pairsOf vs).size:=by rw[<- hT'.size];simpa using hj
   have g1:=hT'.at ae;have g2:=hT'.at aa;rw[bC,cn hi]at g1;rw[bC,cn hj]at g2;have d1:=(hT'.dd ae).1;have d2:=(hT'.dd aa).1;rw[gh g1,gh g2];have z1:((G (ck st') i).2,(G (ck st') i).2)=G (ck st') i:=Prod.ext d1.symm rfl;have z2:((G (ck st') j).2,(G (ck st') j).2)=G (ck st') j:=Prod.ext d2.symm rfl;rw[z1,z2];exact hS' i j (lc _) (ku af) aa
  have eo:(ck st').map (·.2)=kq ((ck st').toList.map (·.2)):=by
   apply Array.toList_inj.mp;rw[Array.toList_map]
  rw[eo];generalize (ck st').toList.map (·.2)=out at hp hs;have s2:=oq h3 a (ic fun _=>kq out);obtain⟨c2,ab⟩:∃c2,(h3.update a (ic fun _=>kq out)).get? a=some (jq "list" (kq out) c2):=⟨_,get?_update_seq q fun _=>kq out⟩;refine bo (seqEpoch_at q rfl ?_);refine bo (listUpdate_at q rfl ?_ (lc _) (by show (kq out).size<=_;rw[fh,hp.length_eq,jv];omega));rw[hT'.fl];simp only[bne_self_eq_false,fg,if_false];exact cq (h _ c2 out (fun b o nb e=>(s2.2 b nb).trans (keep b o nb e)) hp hs ab)
theorem Ai{kd:ow}{x y:cv}{b:Bool}{st:gq}{Q:Option Bool->gq->Prop}(hk:kindOf st=kd)(h:dh (model prog w) A (keyLt' kd x.1 y.1) (fun c s'=>s'=s/\c=b) (fun _ _=>False) s)(q:Q (some b) st):wpS (model prog w) A E s (lt' x y) Q st:=by
 rw[lt'_eq];refine ca (rg ?_);rw[hk];refine ca (wpS_lift (wpAny_attempt (wpAny_mono h (fun c s' hc=>?_) fun _ _ e=>e.elim)));obtain⟨rfl,rfl⟩:=hc;exact⟨rfl,ci q⟩
theorem CZ{Q:Bool->bq->Prop}:∀{xs ys:List bp}{ns ms:List Int} (i k:Nat),ll xs ns->ll ys ms->Q (HT.lexLt ns ms) s->KatLex prog w A true (decide (k+xs.length<k+ys.length)) Q (xs.zip ys) i s
 | [],ys,ns,ms,i,k,h1,h2,q=>by
  cases h1;rw[List.zip_nil_left];refine kat_nil ?_;cases h2 with
  |nil=>
   rw[dw yv];exact q
  |cons n t h2=>
   rw[ge yv];exact q
 |x::xs,[],ns,ms,i,k,h1,h2,q=>by
  cases h2;cases h1 with
  |cons n t h1=>
   rw[List.zip_nil_right];refine kat_nil ?_;rw[dw yv];exact q
 |x::xs,y::ys,ns,ms,i,k,h1,h2,q=>by
  cases h1 with
  |cons n t h1=>
   cases h2 with
   |cons m u h2=>
    rw[qm];refine kat_cons (wpAny_eqBool_int ?_);rw[HT.lexLt_cons]at q;refine kat_go (fun e=>?_) fun e=>?_
    ·have e1:n=m:=by simpa using e
     rw[cg e1]at q;refine kat_yes ?_;have:=CZ (Q:=Q) (i+1) (k+1) h1 h2 q;have ed:decide (k+((rl n t)::xs).length<k+((rl m u)::ys).length)=decide (k+1+xs.length<k+1+ys.length):=by
      rw[decide_eq_decide,ft,ft];omega
     rw[ed];exact this
    ·have e1:n≠m:=by simpa using e
     rw[cf e1]at q;refine kat_no ?_;cases hb:(true&&i==0)with
     |true=>exact oneLt_int q
     |false=>exact kat_one _ _ (lt_int q)
def TupI(h:Heap)(v:bp)(ns:List Int):Prop:=ns≠[]/\∃a o xs n,v=.ref a/\h.get? a=some o/\o.cls=.type "tuple"/\o.data=.seq xs n/\ll xs.toList ns
theorem LU{vs:List bp}(aa:bp->List Int)(hT:∀v∈vs,TupI s.heap v (aa v)):LtOk prog w A E s (tuples' true) (fun x=>x.1=x.2/\x.1∈vs) (fun x y=>HT.lexLt (aa x.1) (aa y.1)) where
 ask:=fun x y st Q hx hy hk q=>by
  obtain⟨_,a,o,xs,n,ex,g1,c1,d1,i1⟩:=hT _ hx.2;obtain⟨_,b,o',ys,m,ey,g2,c2,d2,i2⟩:=hT _ hy.2;refine Ai hk ?_ q;rw[ex,ey];refine kat_lt g1 d1 g2 d2 ?_;have:=CZ (prog:=prog) (w:=w) (A:=A) (s:=s) (Q:=fun c s'=>s'=s/\c=HT.lexLt (aa (.ref a)) (aa (.ref b))) 0 0 (by rw[ex]at i1;exact i1) (by rw[ey]at i2;exact i2) ⟨rfl,rfl⟩;simpa using this
 asym:=fun x y _ _ h=>by
  cases e:HT.lexLt (aa y.1) (aa x.1)with
  |false=>rfl
  |true=>
   have:=nU h e;rw[HT.lexLt_self]at this;cases this
 tr:=fun x y z _ _ _ h1 h2=>by
  cases e:HT.lexLt (aa z.1) (aa x.1)with
  |false=>rfl
  |true=>
   rcases v9 (aa y.1) (aa x.1)with h|h|h
   ·rw[h]at h1;cases h1
   ·rw[h]at h2;rw[h2]at e;cases e
   ·have:=nU e h;rw[this]at h2;cases h2
theorem Ka{vs:List bp}(q:bp->List Int)(hT:∀v∈vs,TupI s.heap v (q v))(h2:2<=vs.length){Q:ow->bq->Prop}(h:Q (tuples' true) s):dh (model prog w) A (keyKind' vs.toArray) Q E s:=by
 have fs:∀l:List bp,(∀v∈l,TupI s.heap v (q v))->∃fs:List bp,KatTups s.heap l fs/\fs.length=l.length/\∀f∈fs,∃n t,f=rl n t:=by
  intro l;induction l with
  |nil=>intro _;exact⟨[],KatTups.nil,rfl,(fun f m=>by cases m)⟩
  |cons v l ih=>
   intro hl;obtain⟨fs,k,e,fi⟩:=ih fun x m=>hl x (cu _ m);obtain⟨aa,a,o,xs,n,ev,g1,c1,d1,i1⟩:=hl v df;subst ev;obtain⟨f,t,hf⟩:∃n t,xs[0]?=some (rl n t):=by
    cases hx:xs.toList with
    |nil=>rw[hx]at i1;cases hn:q (.ref a)with
     |nil=>exact absurd hn aa
     |cons x y=>rw[hn]at i1;cases i1
    |cons x r=>
     rw[hx]at i1;obtain⟨n,t,rfl⟩:=i1.all x df;exact⟨n,t,by rw[<- qk,hx];rfl⟩
   refine⟨.int f t::fs,KatTups.cons g1 c1 d1 hf k,by simp[e],fun z m=>?_⟩;rcases mem_cons.mp m with rfl|m
   ·exact⟨f,t,rfl⟩
   ·exact fi z m
 obtain⟨fs,k,e,fi⟩:=fs vs hT;refine kat_kind (T:=.type "int") k yw (fun v m=>?_) rfl ?_
 ·obtain⟨n,t,rfl⟩:=fi v m;exact .now
 ·rw[show (qv "int" != qv "tuple")=true by decide];exact h
theorem IQ{l:Addr}{vs:List bp}{kd:ow}{lt:cv->cv->Bool}{Q:bp->bq->Prop}(hl:s.heap.IsList l vs.toArray)(hz:vs.length<=10000000)
  (hkd:∀(A':ip) (E':bp->bq->Prop) h3,(∀b o,s.heap.get? b=some o->h3.get? b=some o)->∀(Q:ow->bq->Prop),2<=vs.length->Q kd { s with heap:=h3 }->dh (model prog w) A' (keyKind' vs.toArray) Q E' { s with heap:=h3 })
  (hO:∀(A':ip) (E':bp->bq->Prop) h3,(∀b o,s.heap.get? b=some o->h3.get? b=some o)->LtOk prog w A' E' { s with heap:=h3 } kd (fun x=>x.1=x.2/\x.1∈vs) lt)
  (h:∀D h' c (out:List bp),s.heap.objs.size<=D->(∀b o,s.heap.get? b=some o->h'.get? b=some o)->out.Perm vs->out.Pairwise (fun x y=>lt (y,y) (x,x)=false)->h'.get? D=some (jq "list" out.toArray c)->Q (.ref D) { s with heap:=h' }):
  dh (model prog w) A (call (.builtin "sorted") [.ref l]) Q E s:=by
 refine Calls.call_function_entry kind_sorted plain_sorted entry_sorted (args_sorted1 _) ?_;unfold Builtin.«sorted»;refine bo (m:=checkCount "sorted" 1 1 _) (cq ?_);refine bo (collect_list (vs:=vs) hl ?_ (by rw[jv];omega));refine bo (wpAny_newList ?_ (by show vs.length<=_;rw[jv];omega));have hsz:((s.heap.push (jq "list" #[] 0)).update s.heap.objs.size (ic (· ++ (vs.toArray:Array bp)))).objs.size=s.heap.objs.size+1:=by
  rw[Heap.size_update,size_push']
 have ab:(((s.heap.push (jq "list" #[] 0)).update s.heap.objs.size (ic (· ++ (vs.toArray:Array bp)))).push (jq "list" vs.toArray 0)).get? (s.heap.objs.size+1)=some (jq "list" vs.toArray 0):=by
  rw[<- hsz];exact fj _ rfl
 have keep:∀b o,s.heap.get? b=some o->(((s.heap.push (jq "list" #[] 0)).update s.heap.objs.size (ic (· ++ (vs.toArray:Array bp)))).push (jq "list" vs.toArray 0)).get? b=some o:=fun b o q=>by
  have aa:b<s.heap.objs.size:=gg q;rw[Heap.get?_push_ne _ _ _ (by rw[hsz];exact ig (jx aa)),Heap.get?_update_ne _ _ _ _ (ig aa),Heap.get?_push_ne _ _ _ (ig aa)];exact q
 show dh _ _ _ _ _ { s with heap:=((s.heap.push (jq "list" #[] 0)).update s.heap.objs.size (ic (· ++ (vs.toArray:Array bp)))).push (jq "list" vs.toArray 0) };rw[hsz];refine bo (km (kx slot_list_sort ⟨_,ab,rfl⟩ entry_list_sort ?body (args_list_sort _)))
 case body=>
  refine A6 (s:={ s with heap:=((s.heap.push (jq "list" #[] 0)).update s.heap.objs.size (ic (· ++ (vs.toArray:Array bp)))).push (jq "list" vs.toArray 0) }) (kd:=kd) (lt:=lt) ab hz (fun h3 k=>hkd _ _ h3 fun b o e=>k b o (ig (jx (gg e))) (keep b o e)) (fun h3 k=>hO _ _ h3 fun b o e=>k b o (ig (jx (gg e))) (keep b o e)) fun h' c out k1 hp hs k2=>?_;exact⟨_,rfl,cq ⟨_,rfl,h _ h' c out (Nat.le_succ _) (fun b o e=>k1 b o (ig (jx (gg e))) (keep b o e)) hp hs k2⟩⟩
end
def o7:List XV->Sto->RX->Prop:=fun xs S R=>arg1 xs fun x=>∃m:List (Key×bn),x=.d (.dict (DD.pairs (.k m)))/\∃ns:List Int,m.map (·.1)=ns.map kc/\ns.length<=10000000/\∀ms:List Int,ms.Perm ns->ms.Pairwise (· <= ·)->R (.d (.list (ms.map bw))) S
def vN:V->Int
 | .int n=>n
 |_=>0
def bK(H:Hp):bp->List Int
 | .ref a=>match H a with
  |some (.tup xs)=>xs.map vN
  |_=>[]
 |_=>[]
theorem Bd:∀ns:List Int,(ns.map V.int).map vN=ns
 | []=>rfl
 |n::r=>by rw[fm,fm,Bd r];rfl
theorem rK{H:Hp}{a:Addr}{ns:List Int}(e:H a=some (.tup (ns.map V.int))):bK H (.ref a)=ns:=by
 show (match H a with|some (.tup xs)=>xs.map vN|_=>[])=ns;rw[e];exact Bd ns
def adr:bp->Addr
 | .ref a=>a
 |_=>0
theorem v6:∀{as:List Addr}{us:List bp},Vals (as.map V.ref) us->us=as.map ga
 | [],_,.nil=>rfl
 |a::r,_,.cons e h=>by rw[v6 h,show _=ga a from e];rfl
theorem yK{α:Type}:∀zs:List (Addr×α),Vals (zs.map fun z=>V.ref z.1) (zs.map fun z=>ga z.1)
 | []=>.nil
 |a::r=>.cons rfl (yK r)
theorem HW{P:gc}{w:gy}{H:Hp}{h:Heap}{a:Addr}{ns:List Int}(ok:HOk P w H h)(e:H a=some (.tup (ns.map V.int)))(hn:ns≠[]):TupI h (.ref a) ns:=by
 obtain⟨_,us,rv,ob,hb,cb,n,db⟩:=(show ObjOk P w H h a (.tup (ns.map V.int))from ok a _ e);exact⟨hn,a,ob,us.toArray,n,rfl,hb,cb,db,by simpa using fT rv⟩
theorem TupI.keep{h h':Heap}{v:bp}{ns:List Int}(x:TupI h v ns)(k:∀b o,h.get? b=some o->h'.get? b=some o):TupI h' v ns:=by
 obtain⟨hn,a,o,xs,n,e,g,r⟩:=x;exact⟨hn,a,o,xs,n,e,k _ _ g,r⟩
def GU(K:cy):List V->Hp->VK->Prop:=fun xs H Q=>∃(p:Addr) (zs:List (Addr×List Int)),xs=[.ref p]/\SqL K H p (zs.map fun z=>V.ref z.1)/\(∀z∈zs,H z.1=some (.tup (z.2.map V.int))/\z.2≠[])/\zs.length<=10000000 /\
 ∀(l:Addr) (ys:List (Addr×List Int)),H l=none->ys.Perm zs->ys.Pairwise (fun x y=>HT.lexLt y.2 x.2=false)->Q (.ref l) (upd H l (.lst (ys.map fun z=>V.ref z.1)))
theorem HA{H:Hp}{zs:List (Addr×List Int)}{out:List bp}(hz:∀z∈zs,H z.1=some (.tup (z.2.map V.int))/\z.2≠[])(hp:out.Perm (zs.map fun z=>ga z.1))(hs:out.Pairwise (fun x y=>HT.lexLt (bK H (y,y).1) (bK H (x,x).1)=false)):
  (out.map fun v=>(adr v,bK H v)).Perm zs/\(out.map fun v=>(adr v,bK H v)).Pairwise (fun x y=>HT.lexLt y.2 x.2=false)/\out=(out.map fun v=>(adr v,bK H v)).map fun z=>ga z.1:=by
 refine⟨?_,?_,?_⟩
 ·refine(hp.map fun v=>(adr v,bK H v)).trans (List.Perm.of_eq ?_);rw[jb]
  conv=>rhs;rw[<- map_id zs]
  exact kr fun z m=>Prod.ext rfl (rK (hz z m).1)
 ·rw[pairwise_map];exact hs
 ·rw[jb]
  conv=>lhs;rw[<- map_id out]
  refine kr fun v m=>?_;obtain⟨z,_,rfl⟩:=mem_map.mp (hp.mem_iff.mp m);rfl
theorem Jx{X:Cx}:CallR X (.builtin "sorted") (GU X.K):=by
 intro zk s σ H xs us Q I r h;obtain⟨p,zs,rfl,hq,hz,hn,q⟩:=h;obtain⟨u,rfl,rx⟩:=vals1 r;cases (show u=ga p from rx);obtain⟨aa,rv,pl,_⟩:=I.list hq;have ei:aa=zs.map fun z=>ga z.1:=by
  have:=v6 (as:=zs.map (·.1)) (by rw[jb];exact rv);rw[this,jb];rfl
 subst ei;have hT:∀v∈zs.map (fun z=>ga z.1),TupI s.heap v (bK H v):=fun v m=>by
  obtain⟨z,mz,rfl⟩:=mem_map.mp m;rw[rK (hz z mz).1];exact HW I.hok (hz z mz).1 (hz z mz).2
 refine IQ (kd:=tuples' true) (lt:=fun x y=>HT.lexLt (bK H x.1) (bK H y.1)) pl.isList (by rw[fw];exact hn) (fun A' E' h3 k Q h2 z=>Ka (s:={ s with heap:=h3 }) (bK H) (fun v m=>(hT v m).keep k) h2 z) (fun A' E' h3 k=>LU (s:={ s with heap:=h3 }) (bK H) fun v m=>(hT v m).keep k) fun D h' c out hD kp hp hs hg=>?_;obtain⟨o1,o2,o3⟩:=HA hz hp hs;refine⟨.ref D,_,I.laid (t':=s.toks) kp hD (show ObjOk X.prog X.w _ h' D (.lst ((out.map fun v=>(adr v,bK H v)).map fun z=>V.ref z.1))from⟨?_,out,c,?_,hg⟩),rfl,q _ _ (I.hok.fresh hD) o1 o2⟩
 ·rw[fw,o1.length_eq,jv];omega
 ·have:=yK (out.map fun v=>(adr v,bK H v));rw[<- o3]at this;exact this
theorem Ad{H:Hp}:∀{nss:List (List Int)}{ws:List V},HasL H (nss.map fK) ws->∃zs:List (Addr×List Int),ws=zs.map (fun z=>V.ref z.1)/\zs.map (·.2)=nss/\∀z∈zs,H z.1=some (.tup (z.2.map V.int))
 | [],ws,l=>⟨[],zR.mp l,rfl,fun z m=>by cases m⟩
 |ns::r,ws,l=>by
  obtain⟨v,t,rfl,h1,h2⟩:=zG.mp l;obtain⟨a,us,rfl,ea,la⟩:=eQ.mp h1;rw[jB la]at ea;obtain⟨zs,rfl,e2,hz⟩:=Ad h2;refine⟨(a,ns)::zs,rfl,by rw[fm,e2],fun z m=>?_⟩;rcases mem_cons.mp m with rfl|m
  ·exact ea
  ·exact hz z m
theorem EE{H:Hp}:∀{zs:List (Addr×List Int)},(∀z∈zs,H z.1=some (.tup (z.2.map V.int)))->HasL H ((zs.map (·.2)).map fK) (zs.map fun z=>V.ref z.1)
 | [],_=>zR.mpr rfl
 |z::r,h=>zG.mpr ⟨_,_,rfl,eQ.mpr ⟨z.1,_,rfl,h z df,BQ z.2⟩,EE fun x m=>h x (cu _ m)⟩
end L2
namespace L2
open PySem PySem.Spec PySem.Calls PyProof.Rows
def qV(j:Nat)(dk dv:DM->DE):DSm:=fun En δ S M=>zh j δ S fun y S1=>∃a m,y=.o (.ref a)/\(a,DD.k m)∈M/\dk M δ S1 fun z S2=>dv M δ S2 fun x S3=>asD z fun k=>asD x fun d=>∃kk,fI k=some kk/\m.length<1000/\if (lkA m kk).isSome=true then En.nx δ S3 M else En.nx δ S3 (jQ M a (.k (ptA m kk d)))
def pS(k:Int)(e:DE):DE:=fun δ S R=>e δ S fun x S1=>asD x fun d=>R (.d (.dict [(.int k,d)])) S1
end L2
namespace L2
theorem len0{α:Type}{l:List α}(h:l.length=0):l=[]:=iy h
theorem len1{α:Type}{l:List α}(h:l.length=1):∃a0,l=[a0]:=by
 cases l with
 |nil=>cases h
 |cons x r=>
  obtain rfl:=len0 (si h);exact⟨x,rfl⟩
theorem len2{α:Type}{l:List α}(h:l.length=2):∃a0 a1,l=[a0,a1]:=by
 cases l with
 |nil=>cases h
 |cons x r=>
  obtain⟨a1,rfl⟩:=len1 (si h);exact⟨x,a1,rfl⟩
theorem len3{α:Type}{l:List α}(h:l.length=3):∃a0 a1 a2,l=[a0,a1,a2]:=by
 cases l with
 |nil=>cases h
 |cons x r=>
  obtain⟨a1,a2,rfl⟩:=len2 (si h);exact⟨x,a1,a2,rfl⟩
theorem len4{α:Type}{l:List α}(h:l.length=4):∃a0 a1 a2 a3,l=[a0,a1,a2,a3]:=by
 cases l with
 |nil=>cases h
 |cons x r=>
  obtain⟨a1,a2,a3,rfl⟩:=len3 (si h);exact⟨x,a1,a2,a3,rfl⟩
theorem len5{α:Type}{l:List α}(h:l.length=5):∃a0 a1 a2 a3 a4,l=[a0,a1,a2,a3,a4]:=by
 cases l with
 |nil=>cases h
 |cons x r=>
  obtain⟨a1,a2,a3,a4,rfl⟩:=len4 (si h);exact⟨x,a1,a2,a3,a4,rfl⟩
theorem len6{α:Type}{l:List α}(h:l.length=6):∃a0 a1 a2 a3 a4 a5,l=[a0,a1,a2,a3,a4,a5]:=by
 cases l with
 |nil=>cases h
 |cons x r=>
  obtain⟨a1,a2,a3,a4,a5,rfl⟩:=len5 (si h);exact⟨x,a1,a2,a3,a4,a5,rfl⟩
end L2
namespace L2
open PySem PySem.Spec PySem.Calls PyProof.Rows
open Sem (wp)
def qP(a:DA):DE:=fun δ S R=>a δ S fun xs S1=>arg2 xs fun x y=>∃ds,eZ x=some ds/\∃es,eZ y=some es/\min ds.length es.length<=1000/\R (.d (.list (cZ ds es))) S1
end L2
namespace L2
open PySem PySem.Spec PyProof.Rows
section
theorem lo{sc:Scope}{x:Str}(h:sc.names.lookup x=some .local:=by rfl):Loc sc x:=fy h
theorem fsd{N P:List Str}{sc:Scope}(h:yP N P sc=true:=by decide +kernel):FnScope N P sc:=fsc h
end
end L2
namespace L2
open PySem PySem.Spec PyProof.Rows
section
section
variable {prog:gc}{w:gy}{A:ip}{E:bp->bq->Prop}{s:bq}
open PySem.W
def TupE(h:Heap)(v:bp)(ns:List Int):Prop:=∃a o xs n,v=.ref a/\h.get? a=some o/\o.cls=.type "tuple"/\o.data=.seq xs n/\ll xs.toList ns
theorem TupE.keep{h h':Heap}{v:bp}{ns:List Int}(x:TupE h v ns)(k:∀b o,h.get? b=some o->h'.get? b=some o):TupE h' v ns:=by
 obtain⟨a,o,xs,n,e,g,r⟩:=x;exact⟨a,o,xs,n,e,k _ _ g,r⟩
theorem J9{P:gc}{w:gy}{H:Hp}{h:Heap}{a:Addr}{ns:List Int}(ok:HOk P w H h)(e:H a=some (.tup (ns.map V.int))):TupE h (.ref a) ns:=by
 obtain⟨_,us,rv,ob,hb,cb,n,db⟩:=(show ObjOk P w H h a (.tup (ns.map V.int))from ok a _ e);exact⟨a,ob,us.toArray,n,rfl,hb,cb,db,by simpa using fT rv⟩
theorem Kw{q:Bool}{a b:Addr}{o o':Obj}{xs ys:Array bp}{n m:Nat}{ns ms:List Int}{Q:Bool->bq->Prop}(g1:s.heap.get? a=some o)(c1:o.cls=.type "tuple")(d1:o.data=.seq xs n)(g2:s.heap.get? b=some o')(c2:o'.cls=.type "tuple")(d2:o'.data=.seq ys m)
  (i1:ll xs.toList ns) (i2:ll ys.toList ms) (hu:A.units<qt) (h:Q (HT.lexLt ns ms) s):dh (model prog w) A (oneLt' q (.ref a) (.ref b)) Q E s:=by
 rw[oneLt'_eq];cases q with
 |false=>
  simp only[fg,if_false];refine bo (HT.lt_tupInts (A:=A) ⟨o,g1,c1,n,d1⟩ ⟨o',g2,c2,m,d2⟩ i1 i2 hu ?_);exact ja h
 |true=>
  simp only[if_true];refine bo (wpAny_cRoomFor hu ?_);obtain⟨cls,dd,data,sl⟩:=o;obtain⟨ae,ab,aa,ac⟩:=o';simp only at c1 d1 c2 d2;subst c1 d1 c2 d2;refine bo (wpAny_callSpecialIfBound?_slot (T:="tuple") ⟨_,g1,rfl⟩ PySem.F.slot_tuple_lt (call_meets (T:="tuple") PySem.F.slot_tuple_lt ⟨_,g1,rfl⟩ PySem.F.entry_tuple_lt (PySem.F.args_tuple_lt_2 _ _) (HT.tuple_lt_ints a b xs ys n m dd ab sl ac ns ms i1 i2) ⟨g1,g2,?_⟩));exact ja h
def kdE(q:bp->List Int)(vs:List bp):ow:=if (vs.head?.any fun v=>!(q v).isEmpty)=true then general' else oneType'
theorem Fo{vs:List bp}(aa:bp->List Int)(hT:∀v∈vs,TupE s.heap v (aa v))(hu:A.units<qt):LtOk prog w A E s (kdE aa vs) (fun x=>x.1=x.2/\x.1∈vs) (fun x y=>HT.lexLt (aa x.1) (aa y.1)) where
 ask:=fun x y st Q hx hy hk q=>by
  obtain⟨a,o,xs,n,ex,g1,c1,d1,i1⟩:=hT _ hx.2;obtain⟨b,o',ys,m,ey,g2,c2,d2,i2⟩:=hT _ hy.2;refine Ai hk ?_ q;rw[ex,ey];rw[ex]at i1;rw[ey]at i2;have:∀ab,dh (model prog w) A (oneLt' ab (.ref a) (.ref b)) (fun c s'=>s'=s/\c=HT.lexLt (aa (.ref a)) (aa (.ref b))) (fun _ _=>False) s:=fun ab=>Kw g1 c1 d1 g2 c2 d2 i1 i2 hu ⟨rfl,rfl⟩;unfold kdE;split
  ·exact this false
  ·exact this true
 asym:=fun x y _ _ h=>by
  cases e:HT.lexLt (aa y.1) (aa x.1)with
  |false=>rfl
  |true=>
   have:=nU h e;rw[HT.lexLt_self]at this;cases this
 tr:=fun x y z _ _ _ h1 h2=>by
  cases e:HT.lexLt (aa z.1) (aa x.1)with
  |false=>rfl
  |true=>
   rcases v9 (aa y.1) (aa x.1)with h|h|h
   ·rw[h]at h1;cases h1
   ·rw[h]at h2;rw[h2]at e;cases e
   ·have:=nU e h;rw[this]at h2;cases h2
theorem KA{v:bp}{ns:List Int}{Q:Option bp->bq->Prop}(hT:TupE s.heap v ns)(h:∀f:Option bp,f.isSome=!ns.isEmpty->Q f s):dh (model prog w) A (firstOfTuple' v) Q E s:=by
 obtain⟨a,o,xs,n,rfl,ho,hc,hd,hi⟩:=hT;rw[kas_first_eq];refine bo (Looks.here (show Looks (model prog w) s.heap (typeOf (.ref a)) o.cls from(Looks.ld ho).andThen .now) ?_);rw[hc,cf (by first|decide|simp)];refine bo (listItems_at ho hd (cq (h _ ?_)));have:xs.size=ns.length:=by rw[<- hi.length];simp
 cases ns with
 |nil=>rw[Array.getElem?_eq_none (by simpa using this)];rfl
 |cons x r=>rw[kt (by rw[this];simp)];rfl
theorem Dv(q:bp->List Int):∀(vs:List bp) {Q:List (Option bp)->bq->Prop},(∀v∈vs,TupE s.heap v (q v))->(∀fs:List (Option bp),fs.map (·.isSome)=vs.map (fun v=>!(q v).isEmpty)->Q fs s)->dh (model prog w) A (vs.mapM firstOfTuple') Q E s
 | [],Q,_,h=>by rw[List.mapM_nil];exact cq (h [] rfl)
 |v::vs,Q,hT,h=>by
  rw[List.mapM_cons];refine bo (KA (hT v df) fun f hf=>?_);exact bo (Dv q vs (fun x m=>hT x (cu _ m)) fun fs aa=>cq (h _ (by rw[fm,fm,hf,aa])))
theorem Ko{vs:List bp}(q:bp->List Int)(hT:∀v∈vs,TupE s.heap v (q v))(h2:2<=vs.length)(hx:∃v∈vs,q v=[]){Q:ow->bq->Prop}(h:Q (kdE q vs) s):dh (model prog w) A (keyKind' vs.toArray) Q E s:=by
 rw[kat_kind_eq,List.mapM_toArray,map_eq_pure_bind];refine bo (bo (Dv q vs hT fun fs aa=>cq ?_));have ac:¬(fs.toArray.all fun x=>x.isSome)=true:=by
  obtain⟨v,mv,ev⟩:=hx;intro z;rw[List.all_toArray,ki]at z;have:(!(q v).isEmpty)∈vs.map (fun v=>!(q v).isEmpty):=me mv;rw[<- aa]at this;obtain⟨f,mf,ef⟩:=mem_map.mp this;rw[z f mf,ev]at ef;cases ef
 rw[cf ac]
 match vs,fs,aa,h2,hT,h with
 |v::u::r,[],aa,_,_,_=>cases aa
 |v::u::r,f::fs,aa,_,hT,h=>
  have hf:f.isSome=!(q v).isEmpty:=by
   rw[fm,fm]at aa;exact(List.cons.inj aa).1
  have e0:(((f::fs).toArray[0]?).bind id).isSome=f.isSome:=by simp
  rw[e0];replace h:Q (if (!(q v).isEmpty)=true then general' else oneType') s:=h;cases hq:f.isSome with
  |true=>
   rw[cg rfl];rw[hq]at hf;rw[<- hf,cg rfl]at h;exact cq h
  |false=>
   rw[cf dz];rw[hq]at hf;rw[<- hf,cf dz]at h;rw[oneTypeOnly'_eq,List.mapM_toArray,map_eq_pure_bind];refine bo (bo (bo (kas_mapM (r:=qv "tuple") _ (fun x mx Q' hq=>?_) (cq ?_))))
   ·obtain⟨a,o,xs,n,rfl,ho,hc,hd,hi⟩:=hT x mx;have:=(show Looks (model prog w) s.heap (typeOf (.ref a)) o.cls from(Looks.ld ho).andThen .now);rw[hc]at this;exact this.here hq
   ·have ab:((List.map (fun _=>qv "tuple") (v::u::r)).toArray.all fun x=>x==qv "tuple")=true:=by
     simp only[List.all_toArray,all_map,ki];intro _ _;rfl
    have h0:(List.map (fun _=>qv "tuple") (v::u::r)).toArray[0]?=some (qv "tuple"):=by simp
    rw[h0];simp only[ab,if_true];exact cq (cq h)
theorem II{l:Addr}{vs:List bp}{kd:ow}{lt:cv->cv->Bool}{Q:bp->bq->Prop}(hl:s.heap.IsList l vs.toArray)(hz:vs.length<=10000000)
  (hkd:∀(A':ip) (E':bp->bq->Prop) h3,(∀b o,s.heap.get? b=some o->h3.get? b=some o)->∀(Q:ow->bq->Prop),2<=vs.length->Q kd { s with heap:=h3 }->dh (model prog w) A' (keyKind' vs.toArray) Q E' { s with heap:=h3 })
  (hu:A.units+2<qt) (hO:∀(A':ip) (E':bp->bq->Prop) h3,A'.units<qt->(∀b o,s.heap.get? b=some o->h3.get? b=some o)->LtOk prog w A' E' { s with heap:=h3 } kd (fun x=>x.1=x.2/\x.1∈vs) lt)
  (h:∀D h' c (out:List bp),s.heap.objs.size<=D->(∀b o,s.heap.get? b=some o->h'.get? b=some o)->out.Perm vs->out.Pairwise (fun x y=>lt (y,y) (x,x)=false)->h'.get? D=some (jq "list" out.toArray c)->Q (.ref D) { s with heap:=h' }):
  dh (model prog w) A (call (.builtin "sorted") [.ref l]) Q E s:=by
 refine Calls.call_function_entry kind_sorted plain_sorted entry_sorted (args_sorted1 _) ?_;unfold Builtin.«sorted»;refine bo (m:=checkCount "sorted" 1 1 _) (cq ?_);refine bo (collect_list (vs:=vs) hl ?_ (by rw[jv];omega));refine bo (wpAny_newList ?_ (by show vs.length<=_;rw[jv];omega));have hsz:((s.heap.push (jq "list" #[] 0)).update s.heap.objs.size (ic (· ++ (vs.toArray:Array bp)))).objs.size=s.heap.objs.size+1:=by
  rw[Heap.size_update,size_push']
 have ab:(((s.heap.push (jq "list" #[] 0)).update s.heap.objs.size (ic (· ++ (vs.toArray:Array bp)))).push (jq "list" vs.toArray 0)).get? (s.heap.objs.size+1)=some (jq "list" vs.toArray 0):=by
  rw[<- hsz];exact fj _ rfl
 have keep:∀b o,s.heap.get? b=some o->(((s.heap.push (jq "list" #[] 0)).update s.heap.objs.size (ic (· ++ (vs.toArray:Array bp)))).push (jq "list" vs.toArray 0)).get? b=some o:=fun b o q=>by
  have aa:b<s.heap.objs.size:=gg q;rw[Heap.get?_push_ne _ _ _ (by rw[hsz];exact ig (jx aa)),Heap.get?_update_ne _ _ _ _ (ig aa),Heap.get?_push_ne _ _ _ (ig aa)];exact q
 show dh _ _ _ _ _ { s with heap:=((s.heap.push (jq "list" #[] 0)).update s.heap.objs.size (ic (· ++ (vs.toArray:Array bp)))).push (jq "list" vs.toArray 0) };rw[hsz];refine bo (km (kx slot_list_sort ⟨_,ab,rfl⟩ entry_list_sort ?body (args_list_sort _)))
 case body=>
  refine A6 (s:={ s with heap:=((s.heap.push (jq "list" #[] 0)).update s.heap.objs.size (ic (· ++ (vs.toArray:Array bp)))).push (jq "list" vs.toArray 0) }) (kd:=kd) (lt:=lt) ab hz (fun h3 k=>hkd _ _ h3 fun b o e=>k b o (ig (jx (gg e))) (keep b o e)) (fun h3 k=>hO _ _ h3 (by show A.units+1+1<qt;omega) fun b o e=>k b o (ig (jx (gg e))) (keep b o e)) fun h' c out k1 hp hs k2=>?_;exact⟨_,rfl,cq ⟨_,rfl,h _ h' c out (Nat.le_succ _) (fun b o e=>k1 b o (ig (jx (gg e))) (keep b o e)) hp hs k2⟩⟩
end
def B8(K:cy):List V->Hp->VK->Prop:=fun xs H Q=>∃(p:Addr) (zs:List (Addr×List Int)),xs=[.ref p]/\SqL K H p (zs.map fun z=>V.ref z.1)/\(∀z∈zs,H z.1=some (.tup (z.2.map V.int)))/\zs.length<=10000000 /\
 ∀(l:Addr) (ys:List (Addr×List Int)),H l=none->ys.Perm zs->ys.Pairwise (fun x y=>HT.lexLt y.2 x.2=false)->Q (.ref l) (upd H l (.lst (ys.map fun z=>V.ref z.1)))
theorem JC{H:Hp}{zs:List (Addr×List Int)}{out:List bp}(hz:∀z∈zs,H z.1=some (.tup (z.2.map V.int)))(hp:out.Perm (zs.map fun z=>ga z.1))(hs:out.Pairwise (fun x y=>HT.lexLt (bK H (y,y).1) (bK H (x,x).1)=false)):
  (out.map fun v=>(adr v,bK H v)).Perm zs/\(out.map fun v=>(adr v,bK H v)).Pairwise (fun x y=>HT.lexLt y.2 x.2=false)/\out=(out.map fun v=>(adr v,bK H v)).map fun z=>ga z.1:=by
 refine⟨?_,?_,?_⟩
 ·refine(hp.map fun v=>(adr v,bK H v)).trans (List.Perm.of_eq ?_);rw[jb]
  conv=>rhs;rw[<- map_id zs]
  exact kr fun z m=>Prod.ext rfl (rK (hz z m))
 ·rw[pairwise_map];exact hs
 ·rw[jb]
  conv=>lhs;rw[<- map_id out]
  refine kr fun v m=>?_;obtain⟨z,_,rfl⟩:=mem_map.mp (hp.mem_iff.mp m);rfl
theorem Js{X:Cx}(hu:X.A.units+64<qt):CallR X (.builtin "sorted") (B8 X.K):=by
 intro zk s σ H xs us Q I r h;obtain⟨p,zs,rfl,hq,hz,hn,q⟩:=h;by_cases hne:∀z∈zs,z.2≠[]
 ·exact Jx zk s σ H _ us Q I r ⟨p,zs,rfl,hq,fun z m=>⟨hz z m,hne z m⟩,hn,q⟩
 obtain⟨u,rfl,rx⟩:=vals1 r;cases (show u=ga p from rx);obtain⟨ab,rv,pl,_⟩:=I.list hq;have ei:ab=zs.map fun z=>ga z.1:=by
  have:=v6 (as:=zs.map (·.1)) (by rw[jb];exact rv);rw[this,jb];rfl
 subst ei;have hT:∀v∈zs.map (fun z=>ga z.1),TupE s.heap v (bK H v):=fun v m=>by
  obtain⟨z,mz,rfl⟩:=mem_map.mp m;rw[rK (hz z mz)];exact J9 I.hok (hz z mz)
 have hx:∃v∈zs.map (fun z=>ga z.1),bK H v=[]:=by
  obtain⟨z,aa⟩:=Classical.not_forall.mp hne;obtain⟨mz,ez⟩:=Classical.not_imp.mp aa;exact⟨_,me mz,by rw[rK (hz z mz)];exact Classical.not_not.mp ez⟩
 refine II (kd:=kdE (bK H) (zs.map fun z=>ga z.1)) (lt:=fun x y=>HT.lexLt (bK H x.1) (bK H y.1)) pl.isList (by rw[fw];exact hn) (fun A' E' h3 k Q h2 z=>Ko (s:={ s with heap:=h3 }) (bK H) (fun v m=>(hT v m).keep k) h2 hx z) yw (fun A' E' h3 ac k=>Fo (s:={ s with heap:=h3 }) (bK H) (fun v m=>(hT v m).keep k) ac) fun D h' c out hD kp hp hs hg=>?_;obtain⟨o1,o2,o3⟩:=JC hz hp hs;refine⟨.ref D,_,I.laid (t':=s.toks) kp hD (show ObjOk X.prog X.w _ h' D (.lst ((out.map fun v=>(adr v,bK H v)).map fun z=>V.ref z.1))from⟨?_,out,c,?_,hg⟩),rfl,q _ _ (I.hok.fresh hD) o1 o2⟩
 ·rw[fw,o1.length_eq,jv];omega
 ·have:=yK (out.map fun v=>(adr v,bK H v));rw[<- o3]at this;exact this
def kO:List XV->Sto->RX->Prop:=fun xs S R=>arg1 xs fun x=>∃ds,fV S x=some ds/\∃nss:List (List Int),ds=nss.map fK/\nss.length<=10000000/\∀mss:List (List Int),mss.Perm nss->mss.Pairwise (fun x y=>HT.lexLt y x=false)->R (.d (.list (mss.map fK))) S
theorem Hk{K:cy}:RC (B8 K) kO:=fun h o H S xs vs R Q hs hx q c=>by
 obtain⟨x,rfl,ds,hd,ab,rfl,hn,q1⟩:=dD q;obtain⟨v,rfl,aa⟩:=hxs1 hx;obtain⟨a,ws,rfl,ea,l⟩:=c8 hs hd aa;obtain⟨zs,rfl,e2,hz⟩:=Ad l;subst e2;refine⟨a,zs,rfl,.of ea,fun z m=>cF _ _ (hz z m),by simpa using hn,fun l ys hl pm pw=>?_⟩;exact lU hs (EE (zs:=ys) fun z m=>hz z (pm.mem_iff.mp m)) c (q1 _ (pm.map _) (by rw[pairwise_map];exact pw)) l hl
end
section
def frT:List (List Key×V)->HO
 | []=>.dK []
 |p::m=>.dT (p::m)
section
variable {X:Cx}{zk:List (Addr×Obj)}{σ:St}{H:Hp}{s:bq}{a:Addr}{m:List (List Key×V)}
theorem HX{P:gc}{w:gy}{H H':Hp}{h:Heap}{a:Addr}(q:ObjOk P w H h a (.dT [])):ObjOk P w H' h a (.dK []):=by
 obtain⟨z,y,xs,r,o,es,ep,h1,h2,h3,h4,h5⟩:=q;cases r;have he:es = #[]:=by
  apply Array.toList_inj.mp;rw[h4];rfl
 subst he;exact⟨z,y,[],.nil,o,_,ep,h1,h2,h3,fun e m=>(by simp at m),.nil,nodup_nil⟩
theorem Inv.fzT(I:Inv X zk σ H s)(e:H a=some (.dT m)):∃ob,Inv X zk σ (upd H a (.frz ob (frT m))) s:=by
 have q:=(show ObjOk X.prog X.w H s.heap a (.dT m)from I.hok a _ e);obtain⟨_,_,xs,_,ob,es,ep,h1,_⟩:=id q;refine⟨ob,I.write (x:=a) (e:=a) (o:=.frz ob (frT m)) (h':=s.heap) (t':=s.toks) (by rw[e];exact om) (.inl rfl) (fun b v _ z=>z) ⟨ob,h1⟩ ?_⟩;cases m with
 |nil=>exact⟨h1,HX q⟩
 |cons p m=>
  refine⟨h1,?_⟩;obtain⟨z,y,xs,r,rest⟩:=q;exact⟨z,y,xs,KT.keeps r fun b ys eb=>by rw[zZ (fun z=>by rw[z,e]at eb;cases eb)];exact eb,rest⟩
def AB(i:Nat)(t:TS):TS:=fun D σ H=>t { D with nx:=fun σ' H'=>∃a m,σ'[i]?=some (some (.ref a))/\H' a=some (.dT m)/\∀ob,D.nx σ' (upd H' a (.frz ob (frT m))) } σ H
theorem Ho{i:Nat}{st:Stmt}{t:TS}(h:PS X st t):PS X st (AB i t):=fun zk s σ H D I hw=>
 thn (h zk s σ H _ I hw) fun f s1 q=>by
  cases f with
  |next=>
   obtain⟨σ1,H1,I1,a,m,e1,e2,q⟩:=q;obtain⟨ob,J⟩:=I1.fzT e2;exact⟨σ1,_,J,q ob⟩
  |brk=>exact q
  |cont=>exact q
  |ret v=>exact q
end
def FzT(H:Hp)(a:Addr)(m:List (List Key×V)):Prop:=∃ob,H a=some (.frz ob (frT m))
theorem Ar:∀{a b:List Key},a.map kD=b.map kD->a=b
 | [],[],_=>rfl
 | [],_::_,e=>by cases e
 |_::_,[],e=>by cases e
 |x::a,y::b,e=>by
  rw[fm,fm]at e;injection e with e1 e2
  rw[C0 e1,Ar e2]
theorem BE{H:Hp}:∀{m:List (List Key×bn)}{m':List (List Key×V)},HasM H m m'->HasV H (m.map fun p=>(.tuple (p.1.map kD),p.2)) (m'.map (·.2))/\m'.map (fun p=>cr (p.1.map kD))=m.map (fun p=>cr (p.1.map kD))
 | [],m',h=>by
  rw[show m'=[]from h];exact⟨rfl,rfl⟩
 |p::r,m',h=>by
  obtain⟨v,t,rfl,q,l⟩:=h;obtain⟨z1,z2⟩:=BE l;exact⟨sD.mpr ⟨v,_,rfl,q,z1⟩,by rw[fm,fm,z2]⟩
theorem DY{H:Hp}:∀{m:List (List Key×bn)}{m':List (List Key×V)},HasV H (m.map fun p=>(.tuple (p.1.map kD),p.2)) (m'.map (·.2))->m.map (fun p=>cr (p.1.map kD))=m'.map (fun p=>cr (p.1.map kD))->HasM H m m'
 | [],[],_,_=>rfl
 | [],_::_,_,e=>by simp at e
 |_::_,[],_,e=>by simp at e
 |p::r,q::t,h,e=>by
  rw[fm,fm]at h;obtain⟨v,s,e1,e2,e3⟩:=sD.mp h;rw[qj]at e1;rw[fm,fm,qj]at e;have z:=Ar (PyData.tuple.inj e.1);obtain⟨q1,q2⟩:=q;refine⟨q2,t,by rw[z],?_,DY (by rw[e1.2];exact e3) e.2⟩;have z1:q2=v:=e1.1;rw[z1];exact e2
theorem yU{H:Hp}{m:List (List Key×bn)}{v:V}:Has H (.dict (DD.pairs (.t m))) v↔∃a m',v=.ref a/\FzT H a m'/\HasM H m m':=by
 rw[x3];constructor
 ·rintro⟨a,vs,rfl,⟨ob,m',e,e1,e2⟩|⟨ob,p,m',e,e1,e2⟩,l⟩
  ·cases m with
   |nil=>
    cases m' with
    |nil=>exact⟨a,[],rfl,⟨ob,e⟩,rfl⟩
    |cons p m'=>cases e1
   |cons q r=>
    cases m' with
    |nil=>cases e1
    |cons p m'=>
     have z:=congrArg List.head? e1;simp only[DD.pairs,fm,List.head?_cons,Option.some.injEq]at z;cases h:p.1<;>rw[h]at z<;>cases z
  ·subst e2;refine⟨a,p::m',rfl,⟨ob,e⟩,DY l ?_⟩;rw[<- e1];simp[DD.pairs]
 ·rintro⟨a,m',rfl,⟨ob,e⟩,l⟩;obtain⟨z1,z2⟩:=BE l;cases m' with
  |nil=>
   cases m with
   |nil=>exact⟨a,[],rfl,.inl ⟨ob,[],e,rfl,rfl⟩,z1⟩
   |cons p m=>simp at z2
  |cons p m'=>exact⟨a,_,rfl,.inr ⟨ob,p,m',e,by rw[z2];simp[DD.pairs],rfl⟩,z1⟩
def nP(a:Addr)(m:List (List Key×bn)):XV->XV
 | .o (.ref b)=>if b=a then .d (.dict (DD.pairs (.t m)))else .o (.ref b)
 |x=>x
theorem Hj{h h' o:List Addr}{H H':Hp}{a:Addr}{m:List (List Key×bn)}{m':List (List Key×V)}{ob:Obj}(s:Same (vx h o H) (vx h' o H'))(e:vx h' o H' a=some (.frz ob (frT m')))(l:HasM (vx h o H) m m'):∀{x:XV}{v:V},HasX h o H x v->HasX h' o H' (nP a m x) v
 | .d d,v,z=>Has.mono s d v z
 | .l k,v,z=>z
 | .x C fs,v,z=>HasE.mono s z
 | .o w,v,z=>by
  cases w with
  |ref b=>
   unfold nP;dsimp only;split
   ·rename_i eb;subst eb;rw[show v=.ref b from z];exact yU.mpr ⟨b,m',rfl,⟨ob,e⟩,l.mono s⟩
   ·exact z
  |_=>exact z
theorem GC{h h' o:List Addr}{H H':Hp}{a:Addr}{m:List (List Key×bn)}{m':List (List Key×V)}{ob:Obj}{δ:XE}{σ:St}(s:Same (vx h o H) (vx h' o H'))(e:vx h' o H' a=some (.frz ob (frT m')))(l:HasM (vx h o H) m m')(r:RepE h o H δ σ):RepE h' o H' (δ.map (Option.map (nP a m))) σ:=by
 refine⟨by rw[fw];exact r.len,fun i x ex=>?_⟩;rw[im]at ex;cases hd:δ[i]? with
 |none=>rw[hd]at ex;cases ex
 |some y=>
  rw[hd]at ex;cases y with
  |none=>cases ex
  |some y=>
   cases ex;obtain⟨v,e1,e2⟩:=r.get i y hd;exact⟨v,e1,Hj s e l e2⟩
def tT(i:Nat)(b:DSm):DSm:=fun En δ S M=>∀a,a∉ad M->b { nx:=(fun δ' S' M'=>∃M1 m,M'=M1++[(a,.t m)]/\δ'[i]?=some (some (.o (.ref a)))/\En.nx (δ'.map (Option.map (nP a m))) S' M1),rt:=(fun x S' M'=>∃M1 D,M'=M1++[(a,D)]/\En.rt x S' M1),bk:=(fun δ' S' M'=>∃M1 D,M'=M1++[(a,D)]/\En.bk δ' S' M1),ct:=(fun δ' S' M'=>∃M1 D,M'=M1++[(a,D)]/\En.ct δ' S' M1) } (δ.set i (some (.o (.ref a)))) S (M++[(a,.t [])])
section
variable {E:XK}{EX:EXD}{tb:TS}{db:DSm}{i:Nat}
theorem Kn(hb:RSm E EX tb db){h o0:List Addr}{H0:Hp}{o:List Addr}{H:Hp}{δ:XE}{σ:St}{S:Sto}{M:DM}{En:DEndsM}{D:Ends}(e0:Ex o0 H0 o H)(fr:Fr H0 M)(he:RepE (h++ad M) o H δ σ)(hs:RepS (h++ad M) o H S)(rm:RepM h o H M)
  (q:tT i db En δ S M) (c:EOkM h o0 H0 (ad M) En D) (x:CnX h o0 H0 EX E) (p:Addr) (hp:H p=none):AB i tb D (σ.set i (some (.ref p))) (upd H p (.dT [])):=by
 have nM:p∉ad M:=fun m=>by
  obtain⟨D2,_,z⟩:=rm.at m;obtain⟨w,ew⟩:=z.mo;rw[hp]at ew;cases ew
 have f1:=hs.fresh hp;have nh:p∉h:=fun m=>f1.1 (gi _ m);have sH:Same H (upd H p (.dT [])):=Same.laid hp;have e1:Ex o0 H0 o (upd H p (.dT [])):=e0.trans (Ex.of_same sH);have H0p:H0 p=none:=by
  cases z:H0 p with
  |none=>rfl
  |some w=>
   by_cases m:p∈o0
   ·obtain⟨r,er⟩:=e0.pre;exact absurd (show p∈o by rw[er];exact gi _ m) f1.2
   ·have:=(e0.kp p w m z).2;rw[hp]at this;cases this
 have sv:Same (vx (h++ad M) o H) (vx (h++(ad M++[p])) o (upd H p (.dT []))):=fun b w z=>by
  obtain⟨z1,z2,z3⟩:=aW.mp z;have ne:b≠p:=dY z3 hp;refine aW.mpr ⟨fun m=>?_,z2,by rw[zZ ne];exact z3⟩;rw[<- gv]at m;rcases mem_append.mp m with m|m
  ·exact z1 m
  ·exact ne (mem_singleton.mp m)
 have sM:RepS (h++ad (M++[(p,(.t []))])) o (upd H p (.dT [])) S:=by
  rw[cR];refine⟨hs.len,hs.nd,fun a ma z=>?_,fun b mb=>?_,fun k b ds e1 e2=>?_⟩
  ·rw[<- gv]at z;rcases mem_append.mp z with z|z
   ·exact hs.dis a ma z
   ·rw[mem_singleton.mp z]at ma;exact f1.2 ma
  ·rw[<- gv]at mb;rcases mem_append.mp mb with m|m
   ·obtain⟨w,ew⟩:=hs.hal b m;exact⟨w,sH _ _ ew⟩
   ·rw[mem_singleton.mp m];exact⟨.t [],dM⟩
  ·obtain⟨vs,e3,l⟩:=hs.cont k b ds e1 e2;exact⟨vs,sH _ _ e3,HasL.mono sv _ _ l⟩
 have mM:RepM h o (upd H p (.dT [])) (M++[(p,(.t []))]):=by
  refine⟨by rw[cR];exact pK rm.nd nM,fun a ma=>?_,fun a D2 m=>?_⟩
  ·rw[cR]at ma;rcases mem_append.mp ma with m|m
   ·exact rm.nh a m
   ·rw[mem_singleton.mp m];exact⟨nh,f1.2⟩
  ·rw[cR];rcases mem_append.mp m with m|m
   ·exact(rm.ct a D2 m).mono sv fun w z=>sH _ _ z
   ·have:=mem_singleton.mp m;cases this;exact⟨[],dM,rfl⟩
 have hE:RepE (h++ad (M++[(p,(.t []))])) o (upd H p (.dT [])) (δ.set i (some (.o (.ref p)))) (σ.set i (some (.ref p))):=by
  rw[cR];exact(he.to sv).set (show HasX _ _ _ (.o (.ref p)) (.ref p)from rfl)
 have ag:Fr H0 (M++[(p,(.t []))]):=fun a ma=>by
  rw[cR]at ma;rcases mem_append.mp ma with m|m
  ·exact fr a m
  ·rw[mem_singleton.mp m];exact H0p
 have ae:∀{N:XE->Sto->DM->Prop}{Y:St->Hp->Prop},NxM h o0 H0 (ad M) N Y->NxM h o0 H0 (ad (M++[(p,(.t []))])) (fun δ' S' M'=>∃M1 D,M'=M1++[(p,D)]/\N δ' S' M1) Y:=fun {N Y} nx o' H' δ' S' M' σ' ex ea ac aa ab ⟨M1,D2,eM,n⟩=>by
  subst eM;rw[cR,cR]at ea;rw[cR,<- gv]at ac aa;exact nx o' H' _ S' M1 σ' ex (List.append_inj_left' ea rfl) (ac.to sR) aa.less ab.init n
 have ah:∀o' H' S' M' y v,Ex o0 H0 o' H'->ad M'=ad (M++[(p,(.t []))])->RepS (h++ad M') o' H' S'->RepM h o' H' M'->HasX (h++ad M') o' H' y v->(∃M1 D,M'=M1++[(p,D)]/\En.rt y S' M1)->D.rt v H':=by
  rintro o' H' S' M' y v ex ea aa ab af ⟨M1,D2,eM,n⟩;subst eM;rw[cR,cR]at ea;rw[cR,<- gv]at af aa;exact c.rt o' H' S' M1 _ v ex (List.append_inj_left' ea rfl) aa.less ab.init af.less n
 have qq:=q p nM;refine hb h o0 H0 o _ _ _ S (M++[(p,(.t []))]) _ { D with nx:=fun σ' H'=>∃a m,σ'[i]?=some (some (.ref a))/\H' a=some (.dT m)/\∀ob,D.nx σ' (upd H' a (.frz ob (frT m))) } e1 ag hE sM mM qq ⟨?_,ah,ae c.bk,ae c.ct⟩ x;intro o' H' δ' S' M' σ' ex ea ac aa ab n;obtain⟨M1,m,eM,ei,n2⟩:=n;subst eM;obtain⟨v,ev,hv⟩:=ac.get i _ ei;have ai:v=.ref p:=hv;subst ai;have nn:=ab.nh p (by rw[cR];simp);have nd:=ab.nd;rw[cR,cR]at ea;rw[cR]at nd;have pn:p∉ad M1:=fun m=>(nodup_append.mp nd).2.2 p m p yv rfl;obtain⟨m',em,l⟩:=ab.ct p (.t m) yv;refine⟨p,m',ev,em,fun ob=>?_⟩;have np:p∉h++ad M1:=fun z=>(mem_append.mp z).elim nn.1 pn;have s2:Same (vx (h++ad (M1++[(p,DD.t m)])) o' H') (vx (h++ad M1) o' (upd H' p (.frz ob (frT m')))):=fun b w z=>by
  obtain⟨z1,z2,z3⟩:=aW.mp z;rw[cR,<- gv]at z1;have ne:b≠p:=fun z=>z1 (by rw[z];simp);exact aW.mpr ⟨fun mm=>z1 (gi _ mm),z2,by rw[zZ ne];exact z3⟩
 refine c.nx o' _ _ S' M1 σ' ⟨ex.pre,fun b w nb zb=>?_⟩ (List.append_inj_left' ea rfl) (GC s2 (aW.mpr ⟨np,nn.2,dM⟩) l ac) ?_ ?_ n2
 ·obtain⟨z1,z3⟩:=ex.kp b w nb zb;exact⟨z1,by rw[zZ (fun z=>by rw[z,H0p]at zb;cases zb)];exact z3⟩
 ·refine⟨aa.len,aa.nd,fun a ma z=>aa.dis a ma (by rw[cR,<- gv];exact gi _ z),fun b mb=>?_,fun k b ds q1 q2=>?_⟩
  ·obtain⟨w,ew⟩:=aa.hal b (by rw[cR,<- gv];exact gi _ mb);exact⟨w,by rw[zZ (fun z=>np (by rw[<- z];exact mb))];exact ew⟩
  ·obtain⟨vs,q3,l3⟩:=aa.cont k b ds q1 q2;exact⟨vs,by rw[zZ (fun z=>nn.2 (by rw[<- z];exact bu q1))];exact q3,HasL.mono s2 _ _ l3⟩
 ·have r1:=ab.init;refine⟨r1.nd,r1.nh,fun b D3 mb=>?_⟩;have nb:b≠p:=fun z=>pn (by rw[<- z];exact mem_map.mpr ⟨_,mb,rfl⟩);exact(ab.ct b D3 (gi _ mb)).mono s2 fun w z=>by rw[zZ nb];exact z
theorem AT(hb:RSm E EX tb db):RSm E EX (e9 (qA CL (j7 i)) (AB i tb)) (tT i db):=fun h o0 H0 o H δ σ S M En D e0 fr he hs rm q c x p hp=>
 Kn hb e0 fr he hs rm q c x p hp
end
def RdT(H:Hp)(a:Addr)(m:List (List Key×V)):Prop:=Rd H a (frT m)
theorem JI{P:gc}{w:gy}{H:Hp}{h:Heap}{a:Addr}{kvs:List (List Key×V)}(ok:HOk P w H h)(e:RdT H a kvs):(a==kf)=false/\∃xs,KT H kvs xs/\h.DictOfH (tupleKind (cX P w)) a xs:=by
 cases kvs with
 |nil=>
  obtain⟨_,y,vs,r,o,es,ep,h1,h2,h3,h4,h5,_⟩:=tZ ok e;cases r;have he:es.toList=[]:=by
   cases hq:es.toList with
   |nil=>rfl
   |cons x r=>rw[hq]at h5;cases h5
  exact⟨y,[],.nil,o,es,ep,h1,h2,h3,by rw[he];rfl,fun x m=>(by cases m),nodup_nil⟩
 |cons p m=>
  obtain⟨_,y,r⟩:=uT ok e;exact⟨y,r⟩
theorem JZ{H:Hp}{a:Addr}{m:List (List Key×V)}(e:RdT H a m):IsD H a:=by
 cases m with
 |nil=>exact .inl ⟨_,e⟩
 |cons p m=>exact .inr (.inl ⟨_,e⟩)
def A1(td ty tx:TE):TE:=fun σ H Q=>td σ H fun x H1=>∃a,x=.ref a/\(∃m,RdT H1 a m)/\ty σ H1 fun y H2=>tx σ H2 fun z H3=>∃m k b,RdT H3 a m/\y=.ref b/\H3 b=some (.tup (k.map kV))/\Q ((d9 m k).getD z) H3
section
variable {X:Cx}{o e f:Expr}{apos cpos:Pos}{td ty tx:TE}
theorem J1(hu:X.A.units+1<qt)(ho:PE X o td)(he:PE X e ty)(hf:PE X f tx)(m:M2 X o "get" apos e f cpos):PE X (.Call (.Attribute o "get" apos) [e,f] [] cpos) (A1 td ty tx):=by
 intro zk s σ H Q I h;refine wpAny_Call_method m.base m.few m.line PySem.F.plainAttrs_dict PySem.F.slot_dict_get PySem.F.type_dict_get (thn (ho zk s σ H _ I h) fun u s1 ⟨x,H1,I1,rx,a,ex,⟨mm,d⟩,q1⟩=>?_);subst ex;obtain rfl:u=ga a:=rx;obtain⟨t1,t2,_⟩:=AK I1 (JZ d);refine⟨t1,t2,?_⟩;rw[m.trees];refine Calls.callWith_builtin rfl (Calls.evalArgs_plain (pk (thn (he zk s1 σ H1 _ I1 q1) fun iv s2 ⟨y,H2,I2,ry,q2⟩=>
  pk (thn (hf zk s2 σ H2 _ I2 q2) fun fv s3 ⟨z,H3,I3,rz,kvs,k,b,e3,ey,eb,q3⟩=>Calls.spliced_nil ?_))))
 subst ey;cases (show iv=ga b from ry);obtain⟨hd,xs,q,dd⟩:=JI I3.hok e3;exact call_meetsIn PySem.F.slot_dict_get dd.typeIs PySem.F.entry_dict_get (PySem.F.args_dict_get_3 _ _ _) (meetsH_dict_get_default (tupleKind (cX X.prog X.w)) a b hd fv) ⟨tupleKind_room_in1 hu,k,xs,tH I3.hok eb,dd,⟨_,H3,I3.tok _,(q.val k).getD rz,q3⟩⟩
end
def jV(dd dy dx:DE):DE:=fun δ S R=>dd δ S fun x S1=>∃m,x=.d (.dict (DD.pairs (.t m)))/\dy δ S1 fun y S2=>dx δ S2 fun z S3=>asD y fun k=>asD z fun dz=>∃ks,fS k=some ks/\R (.d ((lkA m ks).getD dz)) S3
theorem FM{H:Hp}:∀{m:List (List Key×bn)}{m':List (List Key×V)} (k:List Key),HasM H m m'->RelD H (lkA m k) (d9 m' k):=fun k l=>by
 rcases l.val k with ⟨z1,z2⟩|⟨d,u,z1,z2,z3⟩
 ·rw[z1];exact z2
 ·rw[z1];exact⟨u,z2,z3⟩
theorem F8{td ty tx:TE}{dd dy dx:DE}(hd:RE td dd)(hy:RE ty dy)(hx:RE tx dx):RE (A1 td ty tx) (jV dd dy dx):=fun h o H δ σ S R Q he hs q c=>
 hd h o H δ σ S _ _ he hs q fun o1 H1 S1 x v e1 s1 x1 ⟨m,ex,d1⟩=>by
  subst ex;obtain⟨a,m',rfl,⟨ob,fz⟩,l⟩:=yU.mp (show Has _ _ v from x1);refine⟨a,rfl,⟨m',.inr ⟨ob,cF _ _ fz⟩⟩,hy h o1 H1 δ σ S1 _ _ (he.mono e1) s1 d1 fun o2 H2 S2 y u e2 s2 y2 d2=>hx h o2 H2 δ σ S2 _ _ ((he.mono e1).mono e2) s2 d2 fun o3 H3 S3 z t e3 s3 z3 d3=>?_⟩;replace d3:=iD d3;obtain⟨k,rfl,d3⟩:=d3;obtain⟨dz,rfl,ks,e,q⟩:=iD d3;obtain⟨a',m2,ea,⟨ab,aa⟩,l2⟩:=yU.mp (show Has _ _ _ from x1.mono (e2.trans e3));cases ea;obtain⟨b,rfl,eb⟩:=vG e (show Has _ _ _ from y2.mono e3);refine⟨m2,ks,b,.inr ⟨ab,cF _ _ aa⟩,rfl,cF _ _ eb,?_⟩;have rr:=FM ks l2;cases hl:lkA m ks with
  |none=>
   rw[hl]at rr q;rw[show d9 m2 ks=none from rr];exact c o3 H3 S3 (.d dz) t ((e1.trans e2).trans e3) s3 z3 q
  |some d=>
   rw[hl]at rr q;obtain⟨r2,er,h2⟩:=rr;rw[er];exact c o3 H3 S3 (.d d) r2 ((e1.trans e2).trans e3) s3 h2 q
end
end L2
namespace L2
open PySem PySem.Spec PySem.Calls PyProof.Rows
inductive AllK {α:Type} (F:α->bp->Prop):List α->List bp->Prop
 |nil:AllK F [] []
 |cons {k v ks vs}:F k v->AllK F ks vs->AllK F (k::ks) (v::vs)
end L2
namespace My
open PySem L2
def iZ:PN:=fun xs S R=>(aB (dR (dCB cO (zc (zh 0) (zc (dO (.ty "int")) zq))) (hV (dCB cO (zc (zh 0) (zc (dO (.ty "bool")) zq)))))) (aO S.length R) (xs.map some++bx 0 none) S
def qJ:PN:=fun xs S R=>(zT (aA (dOp (dI (fun _ j=>0<j) fun i j=>i % j) (dOp aE (zh 0) (dC (.int 7919))) (dC (.int 2147483647))) (zj 0)) (aB (dOp (dI (fun _ j=>0<j) fun i j=>i % j) (dOp aE (dOp aE (dOp cD (zh 0) (zh 0)) (dOp cD (dC (.int 48271)) (zh 0))) (dC (.int 12345))) (dC (.int 2147483629))))) (aO S.length R) (xs.map some++bx 0 none) S
def uI:PN:=fun xs S R=>(zT (aA (dCB (dI2 fun i j=>if j>i then j else i) (zc (zh 0) (zc (dOp (dI0 fun i j=>i-j) (dC (.int 0)) (zh 0)) zq))) (zj 1)) (aB (cC (zc (zh 1) (zc (dCB gR (zc (dOp (dIb fun i j=>decide (j<=i)) (zh 1) (dOp (dI CPow fun i j=>i ^ j.toNat) (dC (.int 10)) (dC (.int 18)))) zq)) (zc (dOp (dI (fun _ j=>0<j) fun i j=>i % j) (zh 1) (dC (.int 1000003))) zq)))))) (aO S.length R) (xs.map some++bx 1 none) S
def mC:PN:=fun xs S R=>(aB (dR (dCB cO (zc (zh 0) (zc (dO (.ty "int")) zq))) (hV (dCB cO (zc (zh 0) (zc (dO (.ty "bool")) zq)))))) (aO S.length R) (xs.map some++bx 0 none) S
def zp:PN:=fun xs S R=>(zT (aJ (dB (dOp aV (dOp dIx (zh 0) (dC (.int 1))) (dC (.int 1)))) (zT (aA (dOp (dI (fun _ j=>0<j) fun i j=>i % j) (dOp dIx (zh 0) (dC (.int 0))) (zh 1)) (zj 2)) (zT (aA (dOp dFd (dOp dIx (zh 0) (dC (.int 0))) (zh 1)) (gC (zh 0) (dC (.int 0)))) (aB (zh 2)))) aK) (zT (aA (aP 1 qJ (zc (dOp aE (aP 1 qJ (zc (dOp dIx (zh 0) (dC (.int 2))) zq)) (dC (.int 7))) zq)) (gC (zh 0) (dC (.int 2)))) (aB (dOp (dI (fun _ j=>0<j) fun i j=>i % j) (dOp dFd (dOp dIx (zh 0) (dC (.int 2))) (dC (.int 64))) (zh 1))))) (aO S.length R) (xs.map some++bx 1 none) S
def Am:PN:=fun xs S R=>(zT (aA (zB 0 2 zp (zc (zh 0) (zc (dC (.int 8)) zq))) (zj 1)) (zT (aJ (dB (dOp (dIb fun i j=>decide (i<j)) (zh 1) (dC (.int 5)))) (aB (dOp (dI0 fun i j=>i-j) (zB 0 2 zp (zc (zh 0) (zc (dC (.int 13)) zq))) (dC (.int 6)))) aK) (zT (aJ (dB (dOp (dIb fun i j=>decide (i<j)) (zh 1) (dC (.int 7)))) (aB (dOp (dI0 fun i j=>i-j) (zB 0 2 zp (zc (zh 0) (zc (dC (.int 2001)) zq))) (dC (.int 1000)))) aK) (aB (dOp cD (dOp (dI0 fun i j=>i-j) (zB 0 2 zp (zc (zh 0) (zc (dOp cD (dC (.int 2)) (dOp (dI CPow fun i j=>i ^ j.toNat) (dC (.int 10)) (dC (.int 30)))) zq))) (dOp (dI CPow fun i j=>i ^ j.toNat) (dC (.int 10)) (dC (.int 30)))) (dOp (dI CPow fun i j=>i ^ j.toNat) (dC (.int 10)) (dC (.int 28)))))))) (aO S.length R) (xs.map some++bx 1 none) S
def mR:PN:=fun xs S R=>(zT (aA (zB 0 2 zp (zc (zh 0) (zc (dC (.int 8)) zq))) (zj 1)) (zT (aJ (dB (dOp (dIb fun i j=>decide (i<j)) (zh 1) (dC (.int 5)))) (aB (dOp (dI0 fun i j=>i-j) (zB 0 2 zp (zc (zh 0) (zc (dC (.int 13)) zq))) (dC (.int 6)))) aK) (zT (aJ (dB (dOp (dIb fun i j=>decide (i<j)) (zh 1) (dC (.int 7)))) (aB (dOp (dI0 fun i j=>i-j) (zB 0 2 zp (zc (zh 0) (zc (dC (.int 2001)) zq))) (dC (.int 1000)))) aK) (aB (dOp cD (dOp (dI0 fun i j=>i-j) (zB 0 2 zp (zc (zh 0) (zc (dOp cD (dC (.int 2)) (dOp (dI CPow fun i j=>i ^ j.toNat) (dC (.int 10)) (dC (.int 30)))) zq))) (dOp (dI CPow fun i j=>i ^ j.toNat) (dC (.int 10)) (dC (.int 30)))) (dOp (dI CPow fun i j=>i ^ j.toNat) (dC (.int 10)) (dC (.int 28)))))))) (aO S.length R) (xs.map some++bx 1 none) S
def Bg:PN:=fun xs S R=>(zT (aA (zB 0 1 Am (zc (zh 0) zq)) (zj 1)) (zT (aA (zB 0 2 zp (zc (zh 0) (zc (dC (.int 5)) zq))) (zj 2)) (zT (aJ (dB (dOp aV (zB 0 2 zp (zc (zh 0) (zc (dC (.int 8)) zq))) (dC (.int 7)))) (aA (zB 0 2 zp (zc (zh 0) (zc (dOp (dI CPow fun i j=>i ^ j.toNat) (dC (.int 10)) (dC (.int 40))) zq))) (zj 2)) aK) (aB (aF (zc (zh 1) (zc (dOp aE (zh 1) (zh 2)) zq))))))) (aO S.length R) (xs.map some++bx 2 none) S
def jM:PN:=fun xs S R=>(zT (aA (dC (.str "abcdefghijklmnopqrstuvwxyz")) (zj 1)) (zT (aA (zB 0 2 zp (zc (zh 0) (zc (dC (.int 3)) zq))) (zj 2)) (zT (aA (zB 0 2 zp (zc (zh 0) (zc (dC (.int 26)) zq))) (zj 3)) (zT (aA (gI [none,some 1,some 3] (bO (zc (dC (.int 8)) zq)) (zj 0) aG (dOp cD (dOp dIx (zh 1) (dOp (dI (fun _ j=>0<j) fun i j=>i % j) (dOp aE (zh 2) (dOp cD (dC (.int 5)) (zh 0))) (dC (.int 26)))) (dOp aE (dC (.int 1)) (dOp (dI (fun _ j=>0<j) fun i j=>i % j) (dOp aE (zh 2) (dOp cD (dC (.int 3)) (zh 0))) (dC (.int 8)))))) (zj 4)) (zT (aJ (dB (dOp aV (zh 2) (dC (.int 0)))) (zT (aA (jO kA (dC (.str "")) (zc (aZ [none,some 1,some 3] (bO (zc (dC (.int 8)) zq)) (zj 0) aG (dOp dIx (zh 1) (dOp (dI (fun _ j=>0<j) fun i j=>i % j) (dOp aE (zh 2) (dOp cD (dC (.int 7)) (zh 0))) (dC (.int 26))))) zq)) (zj 5)) (aA (gI [none,some 5] (bO (zc (dC (.int 8)) zq)) (zj 0) aG (dSl cK (zh 1) bG (bF (dOp aE (zh 0) (dC (.int 1)))))) (zj 4))) aK) (zT (aJ (dB (dOp aV (zh 2) (dC (.int 1)))) (aA (cC (zc (dC (.str "part")) (zc (dC (.str "gap")) (zc (dC (.str "cut")) (zc (dC (.str "a")) (zc (dC (.str "aa")) (zc (dC (.str "dear")) (zc (dC (.str "b")) (zc (dC (.str "keeps")) zq))))))))) (zj 4)) aK) (zT (aA (zB 0 2 zp (zc (zh 0) (zc (dC (.int 8)) zq))) (zj 6)) (zT (aA (dOp i0 (dSl cK (zh 4) (bF (zh 6)) bG) (dSl cK (zh 4) bG (bF (zh 6)))) (zj 4)) (zT (aJ (dB (dOp aV (zB 0 2 zp (zc (zh 0) (zc (dC (.int 2)) zq))) (dC (.int 1)))) (c9 (jT kM (zh 4))) aK) (aB (zh 4))))))))))) (aO S.length R) (xs.map some++bx 6 none) S
def sW:PN:=fun xs S R=>(zT (aJ (dOr (bM (bL (dCB cO (zc (zh 1) (zc (dO (.ty "tuple")) zq))))) (dB (dOp eB (dCB aI (zc (zh 1) zq)) (dCB aI (zc (zh 0) zq))))) (aB (dC (.bool false))) aK) (aB (dCB eG (zc (aZ [none,none] (eL (zc (zh 1) (zc (zh 0) zq))) (cG 2 (aQ (zj 0) (aQ (zj 1) cB))) aG (dR (aP 1 iZ (zc (zh 0) zq)) (gO (dIb fun i j=>decide (i<=j)) (dIb fun i j=>decide (i<=j)) (dOp dIx (zh 1) (dC (.int 1))) (zh 0) (dOp dIx (zh 1) (dC (.int 2)))))) zq)))) (aO S.length R) (xs.map some++bx 0 none) S
def uE:PN:=fun xs S R=>(aB (dCB eX (zc (aZ [none,none,some 1] (bI (dOp dIx (zh 0) (dC (.int 0)))) (cG 2 (aQ (zj 0) (aQ (zj 1) cB))) aG (dOp cD (zh 1) (dOp dIx (zh 2) (zh 0)))) zq))) (aO S.length R) (xs.map some++bx 0 none) S
def tK:PN:=fun xs S R=>(aB (gO (dIb fun i j=>decide (i<=j)) (dIb fun i j=>decide (i<=j)) (dOp dIx (zh 0) (dC (.int 1))) (aP 2 uE (zc (zh 0) (zc (zh 1) zq))) (dOp dIx (zh 0) (dC (.int 2))))) (aO S.length R) (xs.map some++bx 0 none) S
def qI:PN:=fun xs S R=>(zT (aA (dC (.int 0)) (zj 2)) (zT (aA (dC (.int 0)) (zj 3)) (zT (bT (bI (zh 1)) (cG 2 (aQ (zj 4) (aQ (zj 5) cB))) (zT (aA (aT (zc (dOp cD (zh 5) (dOp dIx (dOp dIx (zh 0) (zh 4)) (dC (.int 1)))) (zc (dOp cD (zh 5) (dOp dIx (dOp dIx (zh 0) (zh 4)) (dC (.int 2)))) zq))) (zj 6)) (zT (aA (dOp aE (zh 2) (dCB vQ (zc (zh 6) zq))) (zj 2)) (aA (dOp aE (zh 3) (dCB wH (zc (zh 6) zq))) (zj 3))))) (aB (aF (zc (zh 2) (zc (zh 3) zq))))))) (aO S.length R) (xs.map some++bx 5 none) S
def tM:PN:=fun xs S R=>(zT (aA (cC zq) (zj 2)) (zT (bT (bO (zc (dCB aI (zc (zh 1) zq)) zq)) (zj 3) (zT (aA (dOp (dI0 fun i j=>i-j) (zB 0 2 zp (zc (zh 0) (zc (dC (.int 9)) zq))) (dC (.int 4))) (zj 4)) (aJ (dB (dOp n6 (zh 4) (aF (zc (dUn (dUI fun i=>-i) (dC (.int 4))) (zc (dC (.int 0)) (zc (dC (.int 4)) zq)))))) (c9 (dBM dU (zh 2) (zc (aF (zc (zh 3) (zc (zh 4) zq))) zq))) aK))) (zT (aJ (dB (dOp aV (zh 2) (aT zq))) (aA (cC (zc (aF (zc (zB 0 2 zp (zc (zh 0) (zc (dCB aI (zc (zh 1) zq)) zq))) (zc (dOp dIx (aT (zc (dC (.int 1)) (zc (dUn (dUI fun i=>-i) (dC (.int 1))) (zc (dC (.int 2)) (zc (dUn (dUI fun i=>-i) (dC (.int 3))) zq))))) (zB 0 2 zp (zc (zh 0) (zc (dC (.int 4)) zq)))) zq))) zq)) (zj 2)) aK) (zT (aA (jN 2 qI (zc (zh 1) (zc (zh 2) zq))) (cG 2 (aQ (zj 5) (aQ (zj 6) cB)))) (zT (aA (dOp (dI0 fun i j=>i-j) (zh 6) (zh 5)) (zj 7)) (zT (aA (dOp aE (zh 5) (dOp dIx (aT (zc (dC (.int 0)) (zc (dC (.int 1)) (zc (dUn (dUI fun i=>-i) (dC (.int 1))) (zc (dOp dFd (zh 7) (dC (.int 2))) (zc (dOp dFd (zh 7) (dC (.int 3))) (zc (dOp aE (zh 7) (dC (.int 1))) zq))))))) (zB 0 2 zp (zc (zh 0) (zc (dC (.int 6)) zq))))) (zj 8)) (zT (aA (dOp aE (zh 8) (dOp dIx (aT (zc (dC (.int 0)) (zc (dC (.int 1)) (zc (dC (.int 2)) (zc (dOp dFd (zh 7) (dC (.int 2))) (zc (zh 7) (zc (dOp aE (zh 7) (dC (.int 2))) zq))))))) (zB 0 2 zp (zc (zh 0) (zc (dC (.int 6)) zq))))) (zj 9)) (aB (aF (zc (dCB bW (zc (zh 2) zq)) (zc (zh 8) (zc (zh 9) zq)))))))))))) (aO S.length R) (xs.map some++bx 8 none) S
def rX:PN:=fun xs S R=>(zT (aA (zB 0 1 mR (zc (zh 0) zq)) (zj 1)) (zT (aA (zB 0 2 zp (zc (zh 0) (zc (dC (.int 5)) zq))) (zj 2)) (zT (aJ (dB (dOp aV (zB 0 2 zp (zc (zh 0) (zc (dC (.int 8)) zq))) (dC (.int 7)))) (aA (zB 0 2 zp (zc (zh 0) (zc (dOp (dI CPow fun i j=>i ^ j.toNat) (dC (.int 10)) (dC (.int 40))) zq))) (zj 2)) aK) (aB (aF (zc (zh 1) (zc (dOp aE (zh 1) (zh 2)) zq))))))) (aO S.length R) (xs.map some++bx 2 none) S
def wJ:PN:=fun xs S R=>(zT (aA (zB 0 1 jM (zc (zh 0) zq)) (zj 2)) (zT (aA (aZ [none,some 0] (bO (zc (dOp aE (dC (.int 1)) (zB 0 2 zp (zc (zh 0) (zc (zh 1) zq)))) zq)) (zj 0) aG (dOp aE (dC (.int 1)) (zB 0 2 zp (zc (zh 1) (zc (dC (.int 3)) zq))))) (zj 3)) (zT (aJ (dB (dOp aV (zB 0 2 zp (zc (zh 0) (zc (dC (.int 12)) zq))) (dC (.int 0)))) (aA (dOp dIx (aT (zc (dOp cD (aT (zc (dC (.int 2)) zq)) (dC (.int 8))) (zc (aT (zc (dC (.int 17)) (zc (dC (.int 17)) zq))) (zc (aT (zc (dC (.int 300)) zq)) (zc (dOp cD (aT (zc (dC (.int 1)) zq)) (dC (.int 8))) zq))))) (zB 0 2 zp (zc (zh 0) (zc (dC (.int 4)) zq)))) (zj 3)) aK) (zT (aA (cC zq) (zj 4)) (zT (bT (bO (zc (dCB aI (zc (zh 3) zq)) zq)) (zj 5) (zT (aA (zB 0 1 mR (zc (zh 0) zq)) (zj 6)) (c9 (dBM dU (zh 4) (zc (aF (zc (dOp dIx (zh 2) (zh 5)) (zc (zh 6) (zc (dOp (dI0 fun i j=>i-j) (dOp aE (zh 6) (dOp dIx (zh 3) (zh 5))) (dC (.int 1))) zq)))) zq))))) (aB (dCB bW (zc (zh 4) zq)))))))) (aO S.length R) (xs.map some++bx 5 none) S
def tF:PN:=fun xs S R=>(zT (aA (gI [none,some 0,some 1] (bO (zc (dOp aE (dC (.int 1)) (zB 0 2 zp (zc (zh 0) (zc (zh 2) zq)))) zq)) (zj 0) aG (zB 0 2 tM (zc (zh 1) (zc (zh 2) zq)))) (zj 3)) (zT (aJ (gZ (dB (dOp aV (zB 0 2 zp (zc (zh 0) (zc (dC (.int 3)) zq))) (dC (.int 0)))) (dB (dOp (dIb fun i j=>decide (j<i)) (dCB aI (zc (zh 3) zq)) (dC (.int 1))))) (aA (aF (zc (dOp dIx (dOp dIx (zh 3) (dC (.int 0))) (dC (.int 0))) (zc (dOp aE (dOp dIx (dOp dIx (zh 3) (dC (.int 0))) (dC (.int 2))) (dC (.int 1))) (zc (dOp aE (dOp aE (dOp dIx (dOp dIx (zh 3) (dC (.int 0))) (dC (.int 2))) (dC (.int 1))) (zB 0 2 zp (zc (zh 0) (zc (dC (.int 3)) zq)))) zq)))) (gC (zh 3) (dUn (dUI fun i=>-i) (dC (.int 1))))) aK) (aB (dCB bW (zc (zh 3) zq))))) (aO S.length R) (xs.map some++bx 1 none) S
def wS:PN:=fun xs S R=>(zT (aA (zB 0 1 jM (zc (zh 0) zq)) (zj 2)) (zT (aA (cC zq) (zj 3)) (zT (bT (bO (zc (dOp aE (dC (.int 1)) (zB 0 2 zp (zc (zh 0) (zc (zh 1) zq)))) zq)) (zj 4) (c9 (dBM dU (zh 3) (zc (dOp aE (aF (zc (dOp dIx (zh 2) (zh 4)) zq)) (zB 0 1 rX (zc (zh 0) zq))) zq)))) (aB (dCB bW (zc (zh 3) zq)))))) (aO S.length R) (xs.map some++bx 3 none) S
def rB:PN:=fun xs S R=>(aB (gI [none] (bI (zh 0)) (zj 0) aG (dCB aI (zc (zh 0) zq)))) (aO S.length R) (xs.map some++bx 0 none) S
def sP:PN:=fun xs S R=>(aB (dCB eX (zc (aZ [none,none] (eL (zc (zh 0) (zc (zh 1) zq))) (cG 2 (aQ (zj 0) (aQ (zj 1) cB))) aG (dOp dIx (dOp dIx (zh 0) (zh 1)) (dC (.int 2)))) zq))) (aO S.length R) (xs.map some++bx 0 none) S
def tJ:PN:=fun xs S R=>(zT (aA (aZ [none,none] (eL (zc (zh 1) (zc (zh 2) zq))) (cG 2 (aQ (zj 0) (aQ (zj 1) cB))) aG (dOp dIx (zh 0) (zh 1))) (zj 3)) (aB (dCB bW (zc (aZ [none,none] (eL (zc (zh 0) (zc (zh 3) zq))) (cG 2 (aQ (zj 0) (aQ (zj 1) cB))) aG (aF (zc (dOp dIx (zh 0) (dC (.int 0))) (zc (dOp dIx (zh 1) (dC (.int 0))) (zc (dOp dIx (zh 1) (dC (.int 1))) zq))))) zq)))) (aO S.length R) (xs.map some++bx 1 none) S
def uD:PN:=fun xs S R=>(zT (aJ (dOr (bM (bL (dCB cO (zc (zh 1) (zc (dO (.ty "tuple")) zq))))) (dB (dOp (dIb fun i j=>decide (j<i)) (dCB aI (zc (zh 1) zq)) (dCB aI (zc (zh 0) zq))))) (aB (dC (.bool false))) aK) (aB (dCB eG (zc (aZ [none,none] (eL (zc (zh 1) (zc (zh 0) zq))) (cG 2 (aQ (zj 0) (aQ (zj 1) cB))) aG (dR (aP 1 iZ (zc (zh 0) zq)) (gO (dIb fun i j=>decide (i<=j)) (dIb fun i j=>decide (i<j)) (dC (.int 0)) (zh 0) (zh 1)))) zq)))) (aO S.length R) (xs.map some++bx 0 none) S
def t9:PN:=fun xs S R=>(zT (aA (cC zq) (zj 2)) (zT (aA (dOp dIx (aT (zc (dC (.int 4)) (zc (dC (.int 4)) (zc (dC (.int 4)) (zc (dOp (dI CPow fun i j=>i ^ j.toNat) (dC (.int 10)) (dC (.int 50))) zq))))) (zB 0 2 zp (zc (zh 0) (zc (dC (.int 4)) zq)))) (zj 3)) (zT (bT (bI (zh 1)) (cG 3 (aQ (zj 4) (aQ (zj 5) (aQ (zj 6) cB)))) (zT (aA (cC (zc (aF (zc (zh 5) (zc (zh 6) (zc (dC (.int 0)) zq)))) zq)) (zj 7)) (zT (bT (bO (zc (zB 0 2 zp (zc (zh 0) (zc (dC (.int 4)) zq))) zq)) (zj 8) (zT (aA (dOp dIx (zh 7) (dUn (dUI fun i=>-i) (dC (.int 1)))) (cG 3 (aQ (zj 9) (aQ (zj 10) (aQ (zj 11) cB))))) (aJ (dB (dOp (dIb fun i j=>decide (i<j)) (zh 9) (zh 10))) (zT (aA (dOp aE (zh 9) (zB 0 2 zp (zc (zh 0) (zc (dOp aE (dCB (dI2 fun i j=>if j<i then j else i) (zc (dOp (dI0 fun i j=>i-j) (zh 10) (zh 9)) (zc (dC (.int 3)) zq))) (dC (.int 1))) zq)))) (zj 12)) (zT (aA (dCB (dI2 fun i j=>if j>i then j else i) (zc (zh 12) (zc (dOp (dI0 fun i j=>i-j) (zh 10) (zB 0 2 zp (zc (zh 0) (zc (dC (.int 3)) zq)))) zq))) (zj 13)) (zT (aJ (gZ (dB (dOp aV (zh 12) (zh 9))) (dB (dOp aV (zh 13) (zh 10)))) (aA (dOp aE (zh 9) (dC (.int 1))) (zj 12)) aK) (c9 (dBM dU (zh 7) (zc (aF (zc (zh 12) (zc (zh 13) (zc (dOp aE (dOp aE (zh 11) (dC (.int 1))) (zB 0 2 zp (zc (zh 0) (zc (zh 3) zq)))) zq)))) zq)))))) aK))) (c9 (dBM dU (zh 2) (zc (dCB bW (zc (zh 7) zq)) zq)))))) (aB (dCB bW (zc (zh 2) zq)))))) (aO S.length R) (xs.map some++bx 12 none) S
def uH:PN:=fun xs S R=>(zT (aA (aT (zc (aF zq) zq)) (zj 1)) (zT (bT (bI (zh 0)) (zj 2) (zT (kH (zT (aA (cC zq) (zj 3)) (bT (bI (zh 1)) (zj 4) (c9 (dBM k8 (zh 3) (zc (aZ [none,some 4] (bO (zc (dCB aI (zc (zh 2) zq)) zq)) (zj 0) aG (dOp aE (zh 1) (aF (zc (zh 0) zq)))) zq)))))) (aA (zh 3) (zj 1)))) (aB (zh 1)))) (aO S.length R) (xs.map some++bx 4 none) S
def jG:PN:=fun xs S R=>(aB (dCB eX (zc (aZ [none,some 0,some 1] (bO (zc (dCB aI (zc (zh 1) zq)) zq)) (zj 0) aG (dOp dIx (dOp dIx (dOp dIx (zh 1) (zh 0)) (dOp dIx (zh 2) (zh 0))) (dC (.int 2)))) zq))) (aO S.length R) (xs.map some++bx 0 none) S
def lN:PN:=fun xs S R=>(aB (dCB bW (zc (aZ [none,some 0,some 1,some 2] (bO (zc (dCB aI (zc (zh 0) zq)) zq)) (zj 0) aG (dOp aE (aF (zc (dOp dIx (dOp dIx (zh 1) (zh 0)) (dC (.int 0))) zq)) (dSl cK (dOp dIx (dOp dIx (zh 2) (zh 0)) (dOp dIx (zh 3) (zh 0))) bG (bF (dC (.int 2)))))) zq))) (aO S.length R) (xs.map some++bx 0 none) S
def tL:PN:=fun xs S R=>(zT (aA (dCB kC (zc (zB 0 3 tF (zc (zh 0) (zc (zh 1) (zc (zh 3) zq)))) zq)) (zj 4)) (zT (aJ (dB (dOp (dIb fun i j=>decide (j<i)) (zB 0 2 zp (zc (zh 0) (zc (dC (.int 3)) zq))) (dC (.int 0)))) (zT (aA (dCB bW (zc (aZ [none,some 0] (bI (zh 2)) (zj 0) aG (zB 0 2 zp (zc (zh 1) (zc (dCB aI (zc (zh 0) zq)) zq)))) zq)) (zj 5)) (zT (aA (aP 3 lN (zc (zh 1) (zc (zh 2) (zc (zh 5) zq)))) (zj 6)) (bT (bO (zc (dCB aI (zc (zh 4) zq)) zq)) (zj 7) (zT (aA (aP 2 qI (zc (zh 6) (zc (dOp dIx (dOp dIx (zh 4) (zh 7)) (dC (.int 0))) zq))) (cG 2 (aQ (zj 8) (aQ (zj 9) cB)))) (aA (aF (zc (dOp dIx (dOp dIx (zh 4) (zh 7)) (dC (.int 0))) (zc (dOp (dI0 fun i j=>i-j) (zh 8) (zB 0 2 zp (zc (zh 0) (zc (dC (.int 2)) zq)))) (zc (dOp aE (zh 9) (zB 0 2 zp (zc (zh 0) (zc (dC (.int 2)) zq)))) zq)))) (gC (zh 4) (zh 7))))))) aK) (aB (dCB bW (zc (zh 4) zq))))) (aO S.length R) (xs.map some++bx 6 none) S
def nH:PN:=fun xs S R=>(zT (aA (dC (.int 1)) (zj 2)) (zT (bT (bI (dSl cK (zh 0) (bF (dCB aI (zc (zh 1) zq))) bG)) (zj 3) (aA (dOp cD (zh 2) (zh 3)) (zj 2))) (aB (zh 2)))) (aO S.length R) (xs.map some++bx 2 none) S
def sL:PN:=fun xs S R=>(zT (aA (aZ [none] (bI (aP 1 rB (zc (zh 1) zq))) (zj 0) aG (dOp (dI0 fun i j=>i-j) (zh 0) (dC (.int 1)))) (zj 3)) (aB (aP 3 tJ (zc (zh 0) (zc (zh 1) (zc (dOp aE (zh 2) (dCB bW (zc (dSl cK (zh 3) (bF (dCB aI (zc (zh 2) zq))) bG) zq))) zq)))))) (aO S.length R) (xs.map some++bx 1 none) S
def sO:PN:=fun xs S R=>(aB (dCB eX (zc (aZ [none,some 1,some 0] (bO (zc (dOp aE (dCB aI (zc (zh 0) zq)) (dC (.int 1))) zq)) (zj 0) aG (jV (zh 1) (dSl eI (zh 2) bG (bF (zh 0))) (dC (.int 0)))) zq))) (aO S.length R) (xs.map some++bx 0 none) S
def o8:PN:=fun xs S R=>(zT (aJ (dOr (bM (bL (dCB cO (zc (zh 5) (zc (dO (.ty "tuple")) zq))))) (dOr (dB (dOp n6 (dCB aI (zc (zh 5) zq)) (aF (zc (dC (.int 1)) (zc (dC (.int 3)) zq))))) (bM (bL (dCB cO (zc (dOp dIx (zh 5) (dC (.int 0))) (zc (dO (.ty "str")) zq))))))) (aB (dC (.bool false))) aK) (zT (aJ (dB (dOp aV (dCB aI (zc (zh 5) zq)) (dC (.int 1)))) (aB (dR (dOp aV (dOp dIx (zh 5) (dC (.int 0))) (dC (.str "dear"))) (dOp (dIb fun i j=>decide (j<=i)) (aP 2 jG (zc (zh 2) (zc (zh 4) zq))) (zh 3)))) aK) (zT (aJ (dOr (dB (dOp eB (dOp dIx (zh 5) (dC (.int 0))) (dC (.str "breaks")))) (dOr (bM (bL (aP 1 mC (zc (dOp dIx (zh 5) (dC (.int 1))) zq)))) (dB (i7 true (dOp dIx (zh 5) (dC (.int 1))) (zc (dCB aI (zc (zh 1) zq)) zq))))) (aB (dC (.bool false))) aK) (zT (aA (dOp aE (zh 4) (dCB bW (zc (aZ [none] (bI (dSl eI (zh 2) (bF (dCB aI (zc (zh 4) zq))) bG)) (zj 0) aG (dOp (dI0 fun i j=>i-j) (dCB aI (zc (zh 0) zq)) (dC (.int 1)))) zq))) (zj 6)) (zT (aA (aP 3 lN (zc (zh 0) (zc (zh 2) (zc (zh 6) zq)))) (zj 7)) (zT (aA (dOp dIx (zh 5) (dC (.int 2))) (zj 8)) (zT (aJ (dOr (bM (bL (dCB cO (zc (zh 8) (zc (dO (.ty "tuple")) zq))))) (dB (dOp eB (dCB aI (zc (zh 8) zq)) (dCB aI (zc (zh 7) zq))))) (aB (dC (.bool false))) aK) (zT (bT (eL (zc (zh 8) (zc (zh 7) zq))) (cG 2 (aQ (zj 9) (aQ (zj 10) cB))) (aJ (dOr (bM (bL (aP 1 mC (zc (zh 9) zq)))) (dOr (dB (dOp (dIb fun i j=>decide (i<j)) (zh 9) (dOp dIx (zh 10) (dC (.int 1))))) (dB (dOp (dIb fun i j=>decide (j<i)) (zh 9) (dOp dIx (zh 10) (dC (.int 2))))))) (aB (dC (.bool false))) aK)) (zT (aA (dOp dIx (zh 1) (dOp dIx (zh 5) (dC (.int 1)))) (zj 11)) (zT (aA (dCB eX (zc (aZ [none,none,some 8] (bI (dOp dIx (zh 11) (dC (.int 0)))) (cG 2 (aQ (zj 0) (aQ (zj 1) cB))) aG (dOp cD (zh 1) (dOp dIx (zh 2) (zh 0)))) zq)) (zj 12)) (aB (kZ (dOp (dIb fun i j=>decide (i<j)) (zh 12) (dOp dIx (zh 11) (dC (.int 1)))) (dOp (dIb fun i j=>decide (j<i)) (zh 12) (dOp dIx (zh 11) (dC (.int 2)))))))))))))))) (aO S.length R) (xs.map some++bx 7 none) S
def rT:PN:=fun xs S R=>(zT (aJ (bM (bL (dCB eG (zc (aZ [none,some 0] (bI (zh 1)) (zj 0) aG (aP 2 uD (zc (zh 1) (zc (zh 0) zq)))) zq)))) (aB (dC (.bool false))) aK) (zT (aJ (bM (bL (dCB eG (zc (aZ [none,none] (eL (zc (zh 1) (zc (dSl cK (zh 1) (bF (dC (.int 1))) bG) zq))) (cG 2 (aQ (zj 0) (aQ (zj 1) cB))) aG (dR (dOp jZ (zh 0) (zh 1)) (dOp eB (dSl eI (zh 1) bG (bF (dCB aI (zc (zh 0) zq)))) (zh 0)))) zq)))) (aB (dC (.bool false))) aK) (aB (dOp aV (dCB eX (zc (aZ [none,some 0] (bI (zh 1)) (zj 0) aG (aP 2 nH (zc (zh 1) (zc (zh 0) zq)))) zq)) (aP 2 nH (zc (zh 0) (zc (aF zq) zq))))))) (aO S.length R) (xs.map some++bx 0 none) S
def tW:PN:=fun xs S R=>(zT (aJ (dB (dOp aV (zh 4) (aF (zc (dC (.str "dear")) zq)))) (aB (dOp (dIb fun i j=>decide (j<=i)) (aP 2 sP (zc (zh 1) (zc (zh 3) zq))) (zh 2))) aK) (zT (aJ (dOr (bM (bL (dCB cO (zc (zh 4) (zc (dO (.ty "tuple")) zq))))) (dOr (dB (dOp eB (dCB aI (zc (zh 4) zq)) (dC (.int 3)))) (dB (dOp eB (dOp dIx (zh 4) (dC (.int 0))) (dC (.str "breaks")))))) (aB (dC (.bool false))) aK) (zT (aJ (dOr (bM (bL (aP 1 iZ (zc (dOp dIx (zh 4) (dC (.int 1))) zq)))) (bM (dB (gO (dIb fun i j=>decide (i<=j)) (dIb fun i j=>decide (i<j)) (dC (.int 0)) (dOp dIx (zh 4) (dC (.int 1))) (dCB aI (zc (dOp dIx (zh 0) (dC (.int 1))) zq)))))) (aB (dC (.bool false))) aK) (aB (dR (aP 2 sW (zc (aP 3 sL (zc (dOp dIx (zh 0) (dC (.int 0))) (zc (zh 1) (zc (zh 3) zq)))) (zc (dOp dIx (zh 4) (dC (.int 2))) zq))) (hV (aP 2 tK (zc (dOp dIx (dOp dIx (zh 0) (dC (.int 1))) (dOp dIx (zh 4) (dC (.int 1)))) (zc (dOp dIx (zh 4) (dC (.int 2))) zq))))))))) (aO S.length R) (xs.map some++bx 0 none) S
def tO:PN:=fun xs S R=>(zT (aJ (bM (bL (dCB cO (zc (zh 1) (zc (dO (.ty "list")) zq))))) (aB (dC (.bool false))) aK) (zT (aJ (bM (bL (dCB eG (zc (aZ [none] (bI (zh 1)) (zj 0) aG (dR (dCB cO (zc (zh 0) (zc (dO (.ty "tuple")) zq))) (dOp aV (dCB aI (zc (zh 0) zq)) (dC (.int 2))))) zq)))) (aB (dC (.bool false))) aK) (aB (aP 2 rT (zc (zh 0) (zc (aZ [none] (bI (zh 1)) (zj 0) aG (dOp dIx (zh 0) (dC (.int 0)))) zq)))))) (aO S.length R) (xs.map some++bx 0 none) S
def tY:PN:=fun xs S R=>(zT (aJ (bM (bL (aP 2 tO (zc (aP 1 rB (zc (zh 1) zq)) (zc (zh 3) zq))))) (aB (dC (.bool false))) aK) (aB (dCB eG (zc (aZ [none,none,some 0,some 1,some 2] (bI (zh 3)) (cG 2 (aQ (zj 0) (aQ (zj 1) cB))) aG (aP 5 tW (zc (zh 2) (zc (zh 3) (zc (zh 4) (zc (zh 0) (zc (zh 1) zq))))))) zq)))) (aO S.length R) (xs.map some++bx 0 none) S
def tU:PN:=fun xs S R=>(zT (aA (dOp aE (zh 3) (dCB bW (zc (aZ [none] (bI (dSl eI (zh 2) (bF (dCB aI (zc (zh 3) zq))) bG)) (zj 0) aG (dOp (dI0 fun i j=>i-j) (dCB aI (zc (zh 0) zq)) (dC (.int 1)))) zq))) (zj 4)) (zT (aA (aP 3 lN (zc (zh 0) (zc (zh 2) (zc (zh 4) zq)))) (zj 5)) (zT (aA (cC zq) (zj 6)) (zT (bT (bO (zc (dCB aI (zc (zh 1) zq)) zq)) (zj 7) (zT (aA (jC (zc (dOp dIx (dOp dIx (zh 1) (zh 7)) (dC (.int 0))) zq)) (zj 8)) (bT (bI (aT (zc (dC (.int 0)) (zc (dC (.int 1)) zq)))) (zj 9) (zT (aA (cC zq) (zj 10)) (zT (bT (bO (zc (dCB aI (zc (zh 0) zq)) zq)) (zj 11) (c9 (dBM dU (zh 10) (zc (dOp dIx (dOp dIx (zh 5) (zh 11)) (dOp aE (dC (.int 1)) (dOp (dI (fun _ j=>0<j) fun i j=>i % j) (dOp aE (zh 9) (dCB gR (zc (dOp (dIb fun i j=>decide (i<j)) (iM [] (zh 8) (zh 11) (dC (.int 0))) (dC (.int 0))) zq))) (dC (.int 2))))) zq)))) (c9 (dBM dU (zh 6) (zc (aF (zc (dC (.str "breaks")) (zc (zh 7) (zc (dCB bW (zc (zh 10) zq)) zq)))) zq)))))))) (aB (zh 6)))))) (aO S.length R) (xs.map some++bx 8 none) S
def rV:PN:=fun xs S R=>(zT (aJ (bM (bL (dCB cO (zc (zh 4) (zc (dO (.ty "list")) zq))))) (aB (dC (.bool false))) aK) (zT (bT (bI (zh 4)) (zj 5) (zT (aJ (dOr (bM (bL (dCB cO (zc (zh 5) (zc (dO (.ty "tuple")) zq))))) (dOr (dB (dOp eB (dCB aI (zc (zh 5) zq)) (dC (.int 2)))) (dOr (bM (bL (dCB cO (zc (dOp dIx (zh 5) (dC (.int 0))) (zc (dO (.ty "tuple")) zq))))) (dB (dOp (dIb fun i j=>decide (j<i)) (dCB aI (zc (dOp dIx (zh 5) (dC (.int 0))) zq)) (dCB aI (zc (zh 2) zq))))))) (aB (dC (.bool false))) aK) (zT (bT (eL (zc (dOp dIx (zh 5) (dC (.int 0))) (zc (zh 2) zq))) (cG 2 (aQ (zj 6) (aQ (zj 7) cB))) (aJ (dOr (bM (bL (aP 1 mC (zc (zh 6) zq)))) (dB (i7 true (zh 6) (zc (dCB aI (zc (zh 7) zq)) zq)))) (aB (dC (.bool false))) aK)) (aJ (bM (bL (aP 6 o8 (zc (zh 0) (zc (zh 1) (zc (zh 2) (zc (zh 3) (zc (dOp dIx (zh 5) (dC (.int 0))) (zc (dOp dIx (zh 5) (dC (.int 1))) zq))))))))) (aB (dC (.bool false))) aK)))) (zT (aA (aZ [none] (bI (zh 4)) (zj 0) aG (dOp dIx (zh 0) (dC (.int 0)))) (zj 8)) (zT (aJ (dB (dOp eB (zh 8) (dCB kO (zc (zh 8) zq)))) (aB (dC (.bool false))) aK) (zT (iK (tT 9 (jP (fun M=>(bI (zh 8))) (zj 10) (kK 9 (fun M=>(zh 10)) (fun M=>(dOp aE (iM M (zh 9) (zh 10) (dC (.int 0))) (dC (.int 1)))))))) (aB (dCB eG (zc (aZ [none,some 9] (bI (aP 1 uH (zc (zh 2) zq))) (zj 0) aG (dOp aV (aP 2 sO (zc (zh 0) (zc (zh 1) zq))) (dC (.int 1)))) zq)))))))) (aO S.length R) (xs.map some++bx 6 none) S
def tS:PN:=fun xs S R=>(zT (aA (zh 0) (cG 2 (aQ (zj 4) (aQ (zj 5) cB)))) (zT (aA (zB 0 2 zp (zc (zh 3) (zc (dC (.int 16)) zq))) (zj 6)) (zT (aJ (dB (dOp (dIb fun i j=>decide (i<j)) (zh 6) (dC (.int 6)))) (zT (aA (dOp dIx (aT (zc (dC (.int 0)) (zc (dCB aI (zc (zh 2) zq)) (zc (dC (.bool true)) (zc (dC .none) (zc (dUn (dUI fun i=>-i) (dC (.int 1))) (zc (dC (.int 1)) zq))))))) (zh 6)) (zj 7)) (aB (aF (zc (zh 4) (zc (aF (zc (dC (.str "breaks")) (zc (zh 7) (zc (dOp dIx (zh 5) (dUn (dUI fun i=>-i) (dC (.int 1)))) zq)))) zq))))) aK) (zT (aA (cC (zc (aF (zc (dSl eI (zh 4) bG (bF (dUn (dUI fun i=>-i) (dC (.int 1))))) (zc (zh 5) zq))) (zc (aF (zc (dOp aE (zh 4) (aF (zc (dC (.int 0)) zq))) (zc (zh 5) zq))) (zc (aF (zc (zh 4) (zc (aF (zc (dC (.str "dear")) zq)) zq))) (zc (aF (zc (dCB iX (zc (zh 4) zq)) (zc (zh 5) zq))) zq))))) (zj 8)) (zT (c9 (dBM dU (zh 8) (zc (aT (zc (zh 4) (zc (zh 5) zq))) zq))) (zT (aA (dOp i0 (zh 8) (aT (zc (aF (zc (zh 4) (zc (dCB iX (zc (zh 5) zq)) zq))) (zc (aF (zc (dOp aE (zh 4) (aF (zc (dC (.int 99)) zq))) (zc (zh 5) zq))) (zc (aF (zc (dCB bW (zc (dOp cD (aT (zc (dUn (dUI fun i=>-i) (dC (.int 1))) zq)) (dCB aI (zc (zh 4) zq))) zq)) (zc (zh 5) zq))) (zc (aF (zc (zh 4) zq)) zq)))))) (zj 8)) (aB (dOp dIx (dOp aE (zh 8) (aT (zc (aF (zc (zh 4) (zc (dOp aE (dSl eI (zh 5) bG (bF (dUn (dUI fun i=>-i) (dC (.int 1))))) (aF (zc (dSl eI (zh 5) (bF (dUn (dUI fun i=>-i) (dC (.int 1)))) bG) zq))) zq))) zq))) (dOp (dI0 fun i j=>i-j) (zh 6) (dC (.int 6))))))))))) (aO S.length R) (xs.map some++bx 5 none) S
def tG:PN:=fun xs S R=>(zT (aA (zh 0) (cG 2 (aQ (zj 4) (aQ (zj 5) cB)))) (zT (aJ (dB (dOp aV (dCB aI (zc (zh 5) zq)) (dC (.int 1)))) (aB (zh 0)) aK) (zT (aA (jC (zc (dOp dIx (dOp dIx (zh 2) (dOp dIx (zh 5) (dC (.int 1)))) (dC (.int 0))) zq)) (zj 6)) (zT (aA (zB 0 2 zp (zc (zh 3) (zc (dC (.int 2)) zq))) (zj 7)) (zT (aA (cC zq) (zj 8)) (zT (bT (bO (zc (dCB aI (zc (zh 1) zq)) zq)) (zj 9) (c9 (dBM dU (zh 8) (zc (dOp dIx (dOp dIx (zh 1) (zh 9)) (dOp aE (dC (.int 1)) (dOp (dI (fun _ j=>0<j) fun i j=>i % j) (dOp aE (zh 7) (dCB gR (zc (dOp (dIb fun i j=>decide (i<j)) (iM [] (zh 6) (zh 9) (dC (.int 0))) (dC (.int 0))) zq))) (dC (.int 2))))) zq)))) (aB (aF (zc (zh 4) (zc (aF (zc (dC (.str "breaks")) (zc (dOp dIx (zh 5) (dC (.int 1))) (zc (dCB bW (zc (zh 8) zq)) zq)))) zq)))))))))) (aO S.length R) (xs.map some++bx 6 none) S
def uN:PN:=fun xs S R=>(zT (aA (zB 0 2 zp (zc (zh 4) (zc (dCB aI (zc (zh 0) zq)) zq))) (zj 5)) (zT (aA (zB 0 2 zp (zc (zh 4) (zc (dC (.int 7)) zq))) (zj 6)) (zT (aJ (dB (dOp aV (zh 6) (dC (.int 0)))) (aB (dOp aE (dSl cK (zh 0) bG (bF (zh 5))) (dSl cK (zh 0) (bF (dOp aE (zh 5) (dC (.int 1)))) bG))) aK) (zT (aJ (dB (dOp aV (zh 6) (dC (.int 1)))) (aB (dOp aE (dSl cK (zh 0) bG (bF (dOp aE (zh 5) (dC (.int 1))))) (dSl cK (zh 0) (bF (zh 5)) bG))) aK) (zT (aJ (dB (dOp aV (zh 6) (dC (.int 2)))) (aB (dOp aE (dSl cK (zh 0) (bF (zh 5)) bG) (dSl cK (zh 0) bG (bF (zh 5))))) aK) (zT (aJ (dB (dOp aV (zh 6) (dC (.int 3)))) (aB (dOp dIx (aT (zc (dCB bW (zc (zh 0) zq)) (zc (dOp aE (zh 0) (aT (zc (aF (zc (aF zq) (zc (aF (zc (dC (.str "dear")) zq)) zq))) zq))) (zc (aT (zc (zh 0) zq)) (zc (dC .none) (zc (aT (zc (aF (zc (aF zq) (zc (aF (zc (dC (.str "dear")) zq)) zq))) zq)) (zc (aT zq) zq))))))) (zB 0 2 zp (zc (zh 4) (zc (dC (.int 6)) zq))))) aK) (zT (aJ (dB (dOp aV (zh 6) (dC (.int 4)))) (aB (dOp aE (dOp aE (dSl cK (zh 0) bG (bF (zh 5))) (aT (zc (zB 3 4 tG (zc (dOp dIx (zh 0) (zh 5)) (zc (zh 1) (zc (zh 3) (zc (zh 4) zq))))) zq))) (dSl cK (zh 0) (bF (dOp aE (zh 5) (dC (.int 1)))) bG))) aK) (aB (dOp aE (dOp aE (dSl cK (zh 0) bG (bF (zh 5))) (aT (zc (zB 3 4 tS (zc (dOp dIx (zh 0) (zh 5)) (zc (zh 2) (zc (zh 3) (zc (zh 4) zq))))) zq))) (dSl cK (zh 0) (bF (dOp aE (zh 5) (dC (.int 1)))) bG)))))))))) (aO S.length R) (xs.map some++bx 2 none) S
def lY:PN:=fun xs S R=>(zT (aA (aP 4 tY (zc (aF (zc (zh 0) (zc (zh 1) zq))) (zc (zh 2) (zc (zh 3) (zc (zh 4) zq))))) (zj 5)) (aB (dR (dCB cO (zc (zh 5) (zc (dO (.ty "bool")) zq))) (dOp aV (zh 5) (aP 5 rV (zc (zh 0) (zc (zh 1) (zc (zh 2) (zc (zh 3) (zc (zh 4) zq)))))))))) (aO S.length R) (xs.map some++bx 1 none) S
def lZ:Nat->PN
 | 0=>fun _ _ _=>False
 |n+1=>fun xs S R=>(zT (aJ (dB (dOp (dIb fun i j=>decide (j<=i)) (aP 2 jG (zc (zh 3) (zc (zh 5) zq))) (zh 4))) (aB (cC (zc (aF (zc (zh 5) (zc (aF (zc (dC (.str "dear")) zq)) zq))) zq))) aK) (zT (aA (aP 4 tU (zc (zh 1) (zc (zh 2) (zc (zh 3) (zc (zh 5) zq))))) (zj 6)) (zT (aA (aZ [none,some 1,some 2,some 3,some 4,some 5] (bI (zh 6)) (zj 0) (bL (aP 6 o8 (zc (zh 1) (zc (zh 2) (zc (zh 3) (zc (zh 4) (zc (zh 5) (zc (zh 0) zq)))))))) (zh 0)) (zj 7)) (zT (aJ (gZ (dB (dOp eB (zh 7) (aT zq))) (dOr (dB (dOp aV (dCB aI (zc (zh 5) zq)) (dCB aI (zc (zh 3) zq)))) (dB (dOp (dIb fun i j=>decide (j<i)) (zB 0 2 zp (zc (zh 0) (zc (dC (.int 3)) zq))) (dC (.int 0)))))) (aB (cC (zc (aF (zc (zh 5) (zc (dOp dIx (zh 7) (zB 0 2 zp (zc (zh 0) (zc (dCB aI (zc (zh 7) zq)) zq)))) zq))) zq))) aK) (zT (aJ (dOr (dB (dOp aV (dCB aI (zc (zh 5) zq)) (dCB aI (zc (zh 3) zq)))) (dB (dOp aV (zB 0 2 zp (zc (zh 0) (zc (dC (.int 8)) zq))) (dC (.int 0))))) (aB (cC (zc (aF (zc (zh 5) (zc (dOp dIx (zh 6) (zB 0 2 zp (zc (zh 0) (zc (dCB aI (zc (zh 6) zq)) zq)))) zq))) zq))) aK) (zT (aA (aT zq) (zj 8)) (zT (bT (bO (zc (dCB aI (zc (dOp dIx (zh 3) (dCB aI (zc (zh 5) zq))) zq)) zq)) (zj 9) (aA (dOp aE (zh 8) (zB 0 6 (lZ n) (zc (zh 0) (zc (zh 1) (zc (zh 2) (zc (zh 3) (zc (zh 4) (zc (dOp aE (zh 5) (aF (zc (zh 9) zq))) zq)))))))) (zj 8))) (aB (zh 8))))))))) (aO S.length R) (xs.map some++bx 4 none) S
def xL:PN:=lZ 160
def AH:DS:=(zT (aA (aP 1 uI (zc (zh 1) zq)) (zj 2)) (zT (aA (dIf (dB (dOp aV (zB 0 2 zp (zc (zh 2) (zc (dC (.int 2)) zq))) (dC (.int 0)))) (zB 0 2 wJ (zc (zh 2) (zc (dC (.int 3)) zq))) (zB 0 2 wS (zc (zh 2) (zc (dC (.int 3)) zq)))) (zj 3)) (zT (aA (dSl eI (zh 3) bG (bF (dC (.int 3)))) (zj 3)) (zT (aA (zB 0 2 t9 (zc (zh 2) (zc (zh 3) zq))) (zj 4)) (zT (aA (zB 0 4 tL (zc (zh 2) (zc (zh 3) (zc (zh 4) (zc (dC (.int 3)) zq))))) (zj 5)) (zT (aA (dCB bW (zc (aZ [none,some 2] (bI (zh 4)) (zj 0) aG (zB 0 2 zp (zc (zh 1) (zc (dCB aI (zc (zh 0) zq)) zq)))) zq)) (zj 6)) (zT (aA (dOp (dI0 fun i j=>i-j) (dOp aE (aP 2 jG (zc (zh 4) (zc (zh 6) zq))) (zB 0 2 zp (zc (zh 2) (zc (dC (.int 3)) zq)))) (dC (.int 1))) (zj 7)) (zT (aA (zB 0 6 xL (zc (zh 2) (zc (zh 3) (zc (zh 5) (zc (zh 4) (zc (zh 7) (zc (aF zq) zq))))))) (zj 8)) (zT (aJ (bM (bL (aP 5 lY (zc (zh 3) (zc (zh 5) (zc (zh 4) (zc (zh 7) (zc (zh 8) zq)))))))) (aB (dC (.bool false))) aK) (zT (bT (bO (zc (dC (.int 6)) zq)) (zj 9) (zT (aA (zB 4 5 uN (zc (zh 8) (zc (zh 3) (zc (zh 4) (zc (zh 5) (zc (zh 2) zq)))))) (zj 10)) (aJ (bM (bL (aP 5 lY (zc (zh 3) (zc (zh 5) (zc (zh 4) (zc (zh 7) (zc (zh 10) zq)))))))) (aB (dC (.bool false))) aK))) (aJ (bM (bL (dCB eG (zc (aZ [none,some 3,some 5,some 4] (bI (aT (zc (aT (zc (aF (zc (aF zq) (zc (aF (zc (dC (.str "dear")) zq)) zq))) zq)) (zc (aF zq) (zc (dC (.int 0)) (zc (aT (zc (dC .none) zq)) (zc (dC (.dict [])) zq))))))) (zj 0) aG (aP 5 lY (zc (zh 1) (zc (zh 2) (zc (zh 3) (zc (dC (.int 0)) (zc (zh 0) zq))))))) zq)))) (aB (dC (.bool false))) aK)))))))))))
end My
namespace My
open PySem L2
theorem seq1{t u:DS}{E:DEnds}{δ:XE}{S:Sto}(h:t { E with nx:=u E } δ S):zT t u E δ S:=h
theorem cut{t u:DS}{E:DEnds}{δ:XE}{S:Sto}(I:XE->Sto->Prop)(h1:∀N:XE->Sto->Prop,(∀ δ' S',I δ' S'->N δ' S')->t { E with nx:=N } δ S)(h2:∀ δ' S',I δ' S'->u E δ' S'):zT t u E δ S:=h1 _ h2
theorem i4(i j:Int):jj (.int i) (.int j)=decide (i=j):=rfl
theorem oA(i j:Bool):jj (.bool i) (.bool j)=decide (i=j):=by cases i<;>cases j<;>rfl
theorem n9(i:Int):gn (.int i)=true:=rfl
theorem qE(i:Bool):gn (.bool i)=true:=rfl
theorem m5:("int" ∈ f9)=True:=eq_true dz
theorem oV:("bool" ∈ f9)=True:=eq_true dz
theorem qH:("tuple" ∈ f9)=True:=eq_true dz
theorem nI:("list" ∈ f9)=True:=eq_true dz
theorem p8:("str" ∈ f9)=True:=eq_true dz
end My
namespace My
open PySem L2
local macro_rules|`(tactic|walk_at $s:str)=>do
 let xs<-("aA kO jV jC qP all_cons List.all_nil Bool.and_self qT qB iK rG nY oG jP kK iM nE i7 o7 qV pS jZ eI zj zh dC dO dOp dUn zq zc dCB aF aT cC dB bM gZ dOr dR kZ hV dIf gO dI dI0 dIb dUI aV eB nV nK oY oC pD pY mX pF qC qK oK pQ m9 qR mZ pN dFd bL oU nW bG bF dSl aI kG pU oP cO gR dI2 bW iX kC dBM jT jO dU kM k8 pL kA i0 eX eG aP zB jN pV rD lV oT pB oW oJ nQ asL p9 rL nF nC pG nR rM qM oS qG o9 nN nO nX nZ oO rJ oR aB aJ c9 aK qN bT bI oH pI bO pM qD eL cG aQ m7 qL nJ qF qU oQ cB gC aZ gI aG fO kH iS pH oN n5 qW nT List.replicate map_cons map_nil map_some Option.bind_some Option.bind_none Option.join_some getElem?_cons_zero getElem?_cons_succ set_cons_zero set_cons_succ List.take_succ_cons take_zero List.take_nil length_cons length_nil nil_append cons_append Option.some.injEq exists_eq_left' exists_eq_left List.cons.injEq XV.d.injEq XV.l.injEq XV.o.injEq PyData.int.injEq PyData.list.injEq PyData.tuple.injEq PyData.bool.injEq PyData.str.injEq and_true true_and decide_eq_true_eq Bool.not_true Bool.not_false Bool.false_eq_true Bool.true_eq_false not_true_eq_false not_false_eq_true decide_true decide_false Bool.not_eq_true' mI decide_eq_false_iff_not Nat.reduceAdd Nat.reduceMul zero_add Nat.reduceLT Nat.reduceLeDiff Nat.reduceEqDiff Int.reduceLT Int.reduceLE Int.reduceNeg Int.reducePow Int.reduceToNat Int.reduceEq Int.reduceAdd Int.reduceSub Int.reduceMul le_refl zero_le length_append length_map i4 oA n9 qE List.isEmpty_nil List.isEmpty_cons Int.cast_ofNat_Int Int.natCast_zero Int.natCast_one m5 oV qH nI p8 nL pJ nG pE nA".splitOn " ").toArray.mapM fun n=>`(Lean.Parser.Tactic.simpLemma|$(Lean.mkIdent n.toName):ident)
 match s.getString with
 |"d"=>`(tactic|((try dsimp only[↓reduceIte,$xs,*]);(try simp only[↓reduceIte,$xs,*])))
 |"n"=>`(tactic|(refine seq1 ?_; walk_at "d"))
 |"dX"=>`(tactic|(try simp -implicitDefEqProofs only [↓reduceIte,$xs,*]))
 |"e"=>`(tactic|((try dsimp only[zT,↓reduceIte,$xs,*]);(try simp only[zT,↓reduceIte,$xs,*])))
 |_=>Lean.Macro.throwUnsupported
section
variable {R:RX}
theorem BW{n:Int}(q:∀m,0<=m->R (.d (.int m)) []):qJ [.d (.int n)] [] R:=by
 unfold qJ;walk_at "e";have h1:=nr (n+7919) (show (2147483647:Int)≠0 by decide);have h2:=nj (n+7919) (show (0:Int)<2147483647 by decide);exact⟨gP yw yw,gP dz dz,q _ (nr _ dz)⟩
theorem zr{p:List bn}{n:Int}(hp:zW p)(hn:0<n)(hb:n.natAbs.log2<9000)(q:∀r p',0<=r->r<n->zW p'->R (.d (.int r)) [p']):zp [.l 0,.d (.int n)] [p] R:=by
 obtain⟨l,g,sd,rfl,hl⟩:=hp;unfold zp;walk_at "e";split
 ·refine⟨hn,.inl ⟨⟨hn,hb⟩,0,rfl,?_⟩⟩;walk_at "e";exact q _ _ (nr _ yw) (nj _ hn) ⟨_,_,_,rfl,Int.ediv_nonneg hl yw⟩
 ·refine BW fun m _=>?_;walk_at "e";refine BW fun m' h'=>?_;walk_at "e";refine⟨2,rfl,?_⟩;walk_at "e";exact .inl ⟨⟨by decide,by decide +kernel⟩,hn,q _ _ (nr _ yw) (nj _ hn) ⟨_,_,_,rfl,hl⟩⟩
theorem JQ{n:Int}(q:∀p,zW p->R (.l 0) [p]):uI [.d (.int n)] [] R:=by
 unfold uI;walk_at "e";refine⟨⟨by decide,by decide,by decide⟩,?_⟩;refine .inr (q _ ⟨_,_,_,rfl,?_⟩);split<;>omega
theorem CM{p:List bn}(hp:zW p)(q:∀r p',-10 ^ 58<=r->r<=10 ^ 58->zW p'->R (.d (.int r)) [p']):mR [.l 0] [p] R:=by
 unfold mR;walk_at "e";refine zr hp dz (by decide +kernel) fun r p1 r0 r1 ab=>?_;walk_at "e";split
 ·refine zr ab dz (by decide +kernel) fun r p2 r0 r1 aa=>?_;walk_at "e";exact q _ _ yw yw aa
 ·split
  ·refine zr ab dz (by decide +kernel) fun r p2 r0 r1 aa=>?_;walk_at "e";exact q _ _ yw yw aa
  ·refine⟨⟨by decide,by decide,by decide⟩,gP dz dz,?_⟩;have k1:(10:Int) ^ 30=1000000000000000000000000000000:=by decide +kernel
   have k2:(10:Int) ^ 28=10000000000000000000000000000:=by decide +kernel
   refine zr ab (by decide +kernel) (by decide +kernel) fun r p2 r0 r1 aa=>?_;walk_at "e"
   try simp only[k1,k2]at r1 ⊢
   refine⟨⟨by decide,by decide,by decide⟩,⟨by decide,by decide,by decide⟩,LZ 128 128 yw (by decide +kernel),q _ _ yw yw aa⟩
theorem Iw{p:List bn}(hp:zW p)(q:∀r p',-10 ^ 58<=r->r<=10 ^ 58->zW p'->R (.d (.int r)) [p']):Am [.l 0] [p] R:=CM hp q
theorem Is{p:List bn}(hp:zW p)(q:∀lo hi p',lo<=hi->-10 ^ 58<=lo->hi<=10 ^ 59->zW p'->R (.d (spD lo hi)) [p']):Bg [.l 0] [p] R:=by
 unfold Bg;walk_at "e";refine Iw hp fun lo p1 l0 l1 ae=>?_;walk_at "e";refine zr ae dz (by decide +kernel) fun wd p2 w0 w1 ac=>?_;walk_at "e";refine zr ac dz (by decide +kernel) fun t p3 t0 t1 aa=>?_;walk_at "e";split
 ·refine⟨⟨by decide,by decide,by decide⟩,?_⟩;refine zr aa (by decide +kernel) (by decide +kernel) fun wd p4 w0 w1 ab=>?_;walk_at "e";have k1:(10:Int) ^ 40=10000000000000000000000000000000000000000:=by decide +kernel
  try rw[k1]at w1
  exact q lo (lo+wd) _ yw l0 yw ab
 ·exact q lo (lo+wd) _ yw l0 yw aa
theorem Je{p:List bn}(hp:zW p)(q:∀lo hi p',lo<=hi->-10 ^ 58<=lo->hi<=10 ^ 59->zW p'->R (.d (spD lo hi)) [p']):rX [.l 0] [p] R:=Is hp q
end
section
variable {R:RX}
theorem Jb{α:Type}[Inhabited α]{l:List α}{i:Int}(h0:0<=i)(h1:i<l.length)(d:α):atI l i=some (l.getD i.toNat d):=by
 obtain⟨k,rfl⟩:=gu h0;have hk:k<l.length:=yw
 rw[f6 (cn hk)];simp[fu,hk]
theorem Db:("abcdefghijklmnopqrstuvwxyz":Str).length=26:=by decide
theorem Kx:("abcdefghijklmnopqrstuvwxyz":Str).cps.toList.length=26:=by rw[<- Db];simp[Str.length]
theorem DC:("abcdefghijklmnopqrstuvwxyz":Str).length<=fe:=ku (small1000 (by rw[Db];decide))
theorem len1(c:Nat):(⟨#[c]⟩:Str).length=1:=rfl
abbrev lsgn (i:Int):Str:=⟨#[("abcdefghijklmnopqrstuvwxyz":Str).cps.toList.getD i.toNat 0]⟩
theorem CA{i:Int}(h0:0<=i)(h1:i<26):atI ("abcdefghijklmnopqrstuvwxyz":Str).cps.toList i=some (("abcdefghijklmnopqrstuvwxyz":Str).cps.toList.getD i.toNat 0):=Jb h0 (by rw[Kx];exact h1) 0
theorem Dc{ds:List bn}{a b:Option Int}{d:bn}(m:d∈aL ds a b):d∈ds:=by
 unfold aL at m;exact lu (nq m)
def hW(z:Str):Bool:=decide (z.length<=100)&&PyData.strOk z&&!decide (z = "zy")
theorem Fc:∀f<26,∀k<8,hW (PySem.Txt.mul (lsgn (((f:Nat)+5*(0+((k:Nat):Int))) % 26)) (1+((f:Nat)+3*(0+((k:Nat):Int))) % 8))=true:=by decide +kernel
theorem Jd:∀f<26,∀k<8,hW (PySem.Txt.slice (PySem.Txt.join "" ((fq 8).map fun k:Nat=>lsgn (((f:Nat)+7*(0+(k:Int))) % 26))) none (some (0+((k:Nat):Int)+1)))=true:=by decide +kernel
theorem Iz{ds:List bn}(h:∀d∈ds,∃z:Str,d=.str z/\hW z=true):∃zs:List Str,ds=zs.map jo/\zs.length=ds.length/\∀z∈zs,hW z=true:=by
 induction ds with
 |nil=>exact⟨[],rfl,rfl,yv⟩
 |cons d ds ih=>
  obtain⟨z,rfl,hz⟩:=h d df;obtain⟨zs,rfl,hl,q⟩:=ih fun d m=>h d (cu _ m);refine⟨z::zs,rfl,yv,fun y m=>?_⟩;rcases mem_cons.mp m with rfl|m
  ·exact hz
  ·exact q y m
theorem C1(a b:Str):(a++b).length=a.length+b.length:=strLen_append a b
theorem Bx:∀zs:List Str,(∀z∈zs,z.length<=1)->(Str.join "" zs).length<=zs.length
 | [],_=>ff 0
 | [a],h=>h a df
 |a::b::r,h=>by
  show (a ++ "" ++ Str.join "" (b::r)).length<=_;rw[C1,C1];have e:("":Str).length=0:=rfl;have h1:=h a df;have h2:=Bx (b::r) fun z m=>h z (cu _ m);rw[e];simp only[ft]at h2 ⊢;omega
def mY(ds:List bn):Prop:=∀d∈ds,∃z:Str,d=.str z/\hW z=true
theorem FJ{ds:List bn}{a:Int}(h0:0<=a)(h1:a<=ds.length):(aL ds (some a) none++aL ds none (some a)).length=ds.length:=by
 obtain⟨k,rfl⟩:=gu h0;have e1:HT.sIx ds.length 0 (some (k:Int))=k:=by rw[HT.sIx_nat];omega
 have e2:HT.sIx ds.length ds.length (some (k:Int))=k:=by rw[HT.sIx_nat];omega
 have e3:HT.sIx ds.length ds.length none=ds.length:=rfl;have e4:HT.sIx ds.length 0 none=0:=rfl;unfold aL;rw[e1,e2,e3,e4,cx,nz,nz,length_drop,length_drop];omega
def wK:List Str:=["part","gap","cut","a","aa","dear","b","keeps"]
set_option maxHeartbeats 8000000 in
theorem Ea{p:List bn}(hp:zW p)(q:∀(ns:List Str) p',ns.length=8->(∀z∈ns,hW z=true)->zW p'->R (.d (.list (ns.map jo))) [p']):jM [.l 0] [p] R:=by
 unfold jM;walk_at "dX"
 (refine seq1 ?_;walk_at "dX")
 (refine seq1 ?_;walk_at "dX")
 refine zr hp dz (by decide +kernel) fun way p1 w0 w1 ak=>?_;walk_at "dX"
 (refine seq1 ?_;walk_at "dX")
 refine zr ak dz (by decide +kernel) fun aa p2 f0 f1 ai=>?_;walk_at "dX";refine cut (fun δ' S'=>∃(ds:List bn),mY ds/\ds.length=8/\S'=[p2,ds]/\δ'=[some (.l 0),some (.d (.str ("abcdefghijklmnopqrstuvwxyz":Str))),some (.d (.int way)),some (.d (.int aa)),some (.l 1),none,none]) (fun N hN=>?_) ?_
 ·walk_at "dX";refine cmp1 (S0:=[p2]) (fun k:Nat=>.str (PySem.Txt.mul (lsgn ((aa+5*(0+k)) % 26)) (1+(aa+3*(0+k)) % 8))) rfl (fq 8) yv ?_ ?_
  ·intro k mk u acc R' hk;have b1:=nr (aa+5*(0+(k:Int))) (show (26:Int)≠0 by decide);have b2:=nj (aa+5*(0+(k:Int))) (show (0:Int)<26 by decide);have b3:=nr (aa+3*(0+(k:Int))) (show (8:Int)≠0 by decide);have b4:=nj (aa+3*(0+(k:Int))) (show (0:Int)<8 by decide);walk_at "dX";refine⟨gP dz dz,DC,_,CA b1 b2,?_⟩;walk_at "dX";refine⟨gP dz dz,?_⟩;walk_at "dX";exact⟨by rw[len1];decide,yw,yw,hk _⟩
  ·refine hN _ _ ⟨_,?_,yv,rfl,rfl⟩;intro d m;obtain⟨k,mk,rfl⟩:=mem_map.mp m;obtain⟨f,rfl⟩:=gu f0;exact⟨_,rfl,Fc f yw k (mem_range.mp mk)⟩
 rintro _ _ ⟨ds,ac,hl,rfl,rfl⟩;refine cut (fun δ' S'=>∃(ds:List bn) (T:Sto) (k:Nat) (u:Option XV),mY ds/\ds.length=8/\T[k]?=some ds/\S'=p2::T/\δ'=[some (.l 0),some (.d (.str ("abcdefghijklmnopqrstuvwxyz":Str))),some (.d (.int way)),some (.d (.int aa)),some (.l (k+1)),u,none]) (fun N hN=>?_) ?_
 ·walk_at "dX";split
  ·refine seq1 ?_;walk_at "dX";refine cmp1 (S0:=[p2,ds]) (fun k:Nat=>.str (lsgn ((aa+7*(0+k)) % 26))) rfl (fq 8) yv ?_ ?_
   ·intro k mk u acc R' hk;have b1:=nr (aa+7*(0+(k:Int))) (show (26:Int)≠0 by decide);have b2:=nj (aa+7*(0+(k:Int))) (show (0:Int)<26 by decide);walk_at "dX";refine⟨gP dz dz,DC,_,CA b1 b2,?_⟩;exact hk _
   ·walk_at "dX";refine⟨(fq 8).map fun k:Nat=>lsgn ((aa+7*(0+k)) % 26),by rw[jb];rfl,by decide,yv,fun y m=>?_,?_⟩
    ·obtain⟨k,_,rfl⟩:=mem_map.mp m;show 1<=1000;decide
    ·have wl:(PySem.Txt.join "" ((fq 8).map fun k:Nat=>lsgn ((aa+7*(0+k)) % 26))).length<=8*1016:=by
      have:=K5 (y:=("":Str)) (zs:=(fq 8).map fun k:Nat=>lsgn ((aa+7*(0+k)) % 26)) dz (fun y m=>by
       obtain⟨k,_,rfl⟩:=mem_map.mp m;show 1<=1000;decide)
      simpa using this
     have am:(PySem.Txt.join "" ((fq 8).map fun k:Nat=>lsgn ((aa+7*(0+k)) % 26))).length<=8:=by
      show (Builtin.Str.glued _ _).length<=_;rw[StrLaws.glued_eq_join];have:=Bx ((fq 8).map fun k:Nat=>lsgn ((aa+7*(0+k)) % 26)) (fun y m=>by
       obtain⟨k,_,rfl⟩:=mem_map.mp m;exact ff 1)
      simpa using this
     walk_at "dX";refine cmp1 (S0:=[p2,ds]) (fun k:Nat=>.str (PySem.Txt.slice (PySem.Txt.join "" ((fq 8).map fun k:Nat=>lsgn ((aa+7*(0+k)) % 26))) none (some (0+k+1)))) rfl (fq 8) yv ?_ ?_
     ·intro k mk u acc R' hk;walk_at "dX";exact⟨jn wl (by rw[jv];decide),hk _⟩
     ·refine hN _ _ ⟨_,[ds,_],1,_,?_,?_,rfl,rfl,rfl⟩
      ·intro d m;obtain⟨k,mk,rfl⟩:=mem_map.mp m;obtain⟨f,rfl⟩:=gu f0;exact⟨_,rfl,Jd f yw k (mem_range.mp mk)⟩
      ·simp
  ·exact hN _ _ ⟨ds,[ds],0,none,ac,hl,rfl,rfl,rfl⟩
 rintro _ _ ⟨ds,T,k,u,ac,hl,hk,rfl,rfl⟩;refine cut (fun δ' S'=>∃(ds:List bn) (T:Sto) (k:Nat),mY ds/\ds.length=8/\T[k]?=some ds/\S'=p2::T/\δ'=[some (.l 0),some (.d (.str ("abcdefghijklmnopqrstuvwxyz":Str))),some (.d (.int way)),some (.d (.int aa)),some (.l (k+1)),u,none]) (fun N hN=>?_) ?_
 ·walk_at "dX";split
  ·refine hN _ _ ⟨wK.map jo,T++[wK.map jo],T.length,?_,rfl,by rw[cz],rfl,rfl⟩;intro d m;obtain⟨z,hz,rfl⟩:=mem_map.mp m;refine⟨z,rfl,?_⟩;simp only[wK,ix,gk,or_false]at hz;rcases hz with rfl|rfl|rfl|rfl|rfl|rfl|rfl|rfl<;>decide +kernel
  ·exact hN _ _ ⟨ds,T,k,ac,hl,hk,rfl,rfl⟩
 rintro _ _ ⟨ds,T,k,ac,hl,hk,rfl,rfl⟩
 (refine seq1 ?_;walk_at "dX")
 refine zr ai dz (by decide +kernel) fun ab p3 a0 a1 aj=>?_;walk_at "dX"
 (refine seq1 ?_;walk_at "dX")
 refine⟨ds,hk,ds,hk,?_⟩;have hc:=FJ (ds:=ds) a0 yw;rw[cx]at hc;refine⟨yw,?_⟩;have ah:(T++[aL ds (some ab) none++aL ds none (some ab)])[T.length]?=some (aL ds (some ab) none++aL ds none (some ab)):=by rw[cz]
 have ag:mY (aL ds (some ab) none++aL ds none (some ab)):=fun d m=>(mem_append.mp m).elim (fun m=>ac d (Dc m)) fun m=>ac d (Dc m);have af:(aL ds (some ab) none++aL ds none (some ab)).length=8:=by rw[cx];omega
 generalize aL ds (some ab) none++aL ds none (some ab)=es at ah ag af ⊢;refine seq1 ?_;walk_at "dX";refine zr aj dz (by decide +kernel) fun r p4 r0 r1 al=>?_;walk_at "dX";have ae:∀(fs:List bn),mY fs->fs.length=8->R (.d (.list fs)) [p4]:=by
  intro fs h1 h2;obtain⟨zs,rfl,z1,z2⟩:=Iz h1;exact q zs p4 yw z2 al
 split
 ·refine⟨yv,es,ah,?_⟩;walk_at "dX";rw[cf yw];refine⟨es.reverse,by simp[mV],.inl (ae _ (fun d m=>ag d (mem_reverse.mp m)) (by simpa using af))⟩
 ·rw[cf yw];exact⟨es,ah,.inl (ae _ ag af)⟩
abbrev Part:=Str×Int×Int
def aX(p:Part):bn:=.tuple [.str p.1,.int p.2.1,.int p.2.2]
def aH(ps:List Part):bn:=.tuple (ps.map aX)
structure Prt(p:Part):Prop where
 nm:hW p.1=true
 le:p.2.1<=p.2.2
 lo:-10 ^ 58<=p.2.1
 hi:p.2.2<=10 ^ 59
structure Drw(ps:List Part):Prop where
 l1:1<=ps.length
 l8:ps.length<=8
 all:∀p∈ps,Prt p
theorem bY{α:Type}{f:α->bn}{l:List α}{k:Nat}{x:α}(e:l[k]?=some x):atI (l.map f) (k:Int)=some (f x):=f6 (by rw[im,e];rfl)
theorem Io{Q:PN}{p:List bn}{m:Int}{span:PN}{names:PN}(hQ:Q=fun xs S R=>(zT (aA (zB 0 1 names (zc (zh 0) zq)) (zj 2)) (zT (aA (cC zq) (zj 3)) (zT (bT (bO (zc (dOp aE (dC (.int 1)) (zB 0 2 zp (zc (zh 0) (zc (zh 1) zq)))) zq)) (zj 4) (c9 (dBM dU (zh 3) (zc (dOp aE (aF (zc (dOp dIx (zh 2) (zh 4)) zq)) (zB 0 1 span (zc (zh 0) zq))) zq)))) (aB (dCB bW (zc (zh 3) zq)))))) (aO S.length R) (xs.map some++bx 3 none) S)
  (hnames:∀{p:List bn}{R:RX},zW p->(∀(ns:List Str) p',ns.length=8->(∀z∈ns,hW z=true)->zW p'->R (.d (.list (ns.map jo))) [p'])->names [.l 0] [p] R)
  (hspan:∀{p:List bn}{R:RX},zW p->(∀lo hi p',lo<=hi->-10 ^ 58<=lo->hi<=10 ^ 59->zW p'->R (.d (spD lo hi)) [p'])->span [.l 0] [p] R)
  (hp:zW p) (m1:0<m) (m8:m<=8) (q:∀(ps:List Part) p',Drw ps->zW p'->R (.d (aH ps)) [p']):Q [.l 0,.d (.int m)] [p] R:=by
 subst hQ;walk_at "d"
 walk_at "n"
 refine hnames hp fun ns p1 hn hz ac=>?_;walk_at "d"
 walk_at "n"
 walk_at "n";refine zr ac m1 (fD m1 yw) fun r p2 r0 r1 aa=>?_;walk_at "d";refine cY (fun i δ S=>∃(p:List bn) (ps:List Part) (u:Option XV),zW p/\ps.length=i/\(∀p∈ps,Prt p)/\S=[p,ps.map aX]/\δ=[some (.l 0),some (.d (.int m)),some (.d (.list (ns.map jo))),some (.l 1),u]) ⟨p2,[],_,aa,rfl,yv,rfl,rfl⟩ ?_ ?_
 ·rintro i d _ _ N hi ⟨p,ps,u,hp,hl,ha,rfl,rfl⟩ hN;obtain⟨ae,rfl⟩:=fH hi;have i8:i<ns.length:=yw
  have e:=bY (f:=jo) (cn i8);walk_at "d";simp only[lv];refine⟨_,e,?_⟩;walk_at "d";refine hspan hp fun lo hi p3 h1 h2 h3 ab=>?_;simp only[spD];walk_at "d";refine⟨yw,hN _ _ ⟨p3,ps++[(ns[i],lo,hi)],_,ab,by simp[hl],fun x hx=>?_,by simp[aX],rfl⟩⟩;rcases mem_append.mp hx with hx|hx
  ·exact ha x hx
  ·rw[mem_singleton.mp hx];exact⟨hz _ (qx i8),h1,h2,h3⟩
 ·rintro _ _ ⟨p,ps,u,hp,hl,ha,rfl,rfl⟩;rw[eV]at hl;walk_at "d";exact q ps p ⟨yw,yw,ha⟩ hp
theorem Jo{p:List bn}{m:Int}(hp:zW p)(m1:0<m)(m8:m<=8)(q:∀(ps:List Part) p',Drw ps->zW p'->R (.d (aH ps)) [p']):wS [.l 0,.d (.int m)] [p] R:=
 Io (span:=rX) (names:=jM) rfl Ea Je hp m1 m8 q
end
section
variable {R:RX}{S:Sto}
theorem F9{a b m:Int}(h1:m∈[a,b])(h2:∀x,x∈[a,b]->m<=x):m=min a b:=by
 have ha:=h2 a yv;have hb:=h2 b yv;simp only[ix,gk,or_false]at h1;omega
theorem Iy{a b m:Int}(h1:m∈[a,b])(h2:∀x,x∈[a,b]->x<=m):m=max a b:=by
 have ha:=h2 a yv;have hb:=h2 b yv;simp only[ix,gk,or_false]at h1;omega
theorem Fe{a b:Int}(q:R (.d (.int (min a b))) S):vQ [.d (.list [.int a,.int b])] S R:=.inl ⟨_,rfl,[a,b],rfl,yv,fun m h1 h2=>by rw[F9 h1 h2];exact q⟩
theorem Le{a b:Int}(q:R (.d (.int (max a b))) S):wH [.d (.list [.int a,.int b])] S R:=⟨_,rfl,[a,b],rfl,yv,fun m h1 h2=>by rw[Iy h1 h2];exact q⟩
abbrev Term:=Nat×Int
def tmD(t:Term):bn:=.tuple [.int t.1,.int t.2]
def lE(ts:List Term):bn:=.tuple (ts.map tmD)
structure Gap where
 ts:List Term
 lo:Int
 hi:Int
def cQ(g:Gap):bn:=.tuple [lE g.ts,.int g.lo,.int g.hi]
theorem fX(g:Gap):cQ g=.tuple [lE g.ts,.int g.lo,.int g.hi]:=rfl
theorem B6(t:Term):tmD t=.tuple [.int t.1,.int t.2]:=rfl
theorem j0(p:Part):aX p=.tuple [.str p.1,.int p.2.1,.int p.2.2]:=rfl
def aC(ns:List Int):bn:=.tuple (ns.map bw)
structure Tms(n:Nat)(ts:List Term):Prop where
 ne:ts≠[]
 len:ts.length<=n
 ok:∀t∈ts,t.1<n/\t.2≠0/\-3<=t.2/\t.2<=3
 srt:ts.Pairwise fun t u=>t.1<u.1
structure Tm3(n:Nat)(ts:List Term):Prop where
 len:ts.length<=100
 ok:∀t∈ts,t.1<n/\-3<=t.2/\t.2<=3
theorem Tms.tm3{n:Nat}{ts:List Term}(h:Tms n ts)(hn:n<=8):Tm3 n ts:=⟨by have:=h.len;omega,fun t m=>⟨(h.ok t m).1,(h.ok t m).2.2⟩⟩
def worth(ts:List Term)(ns:List Int):Int:=(ts.map fun t=>t.2*ns.getD t.1 0).sum
theorem BJ{ns:List Int}{k:Nat}(h:k<ns.length):ns[k]?=some (ns.getD k 0):=by
 rw[cn h,fu,cn h];rfl
def part(ps:List Part)(k:Nat):Part:=ps.getD k ("",0,0)
theorem iO{ps:List Part}{k:Nat}(h:k<ps.length):ps[k]?=some (part ps k):=by
 unfold part;rw[cn h,fu,cn h];rfl
def plo(ps:List Part)(k:Nat):Int:=(part ps k).2.1
def phi(ps:List Part)(k:Nat):Int:=(part ps k).2.2
def tLo(ps:List Part)(t:Term):Int:=min (t.2*plo ps t.1) (t.2*phi ps t.1)
def tHi(ps:List Part)(t:Term):Int:=max (t.2*plo ps t.1) (t.2*phi ps t.1)
def dG(ps:List Part)(ts:List Term):Int:=(ts.map (tLo ps)).sum
def dP(ps:List Part)(ts:List Term):Int:=(ts.map (tHi ps)).sum
theorem Ki{ps:List Part}{t:Term}{ts:List Term}:dG ps (t::ts)=tLo ps t+dG ps ts:=by simp[dG]
theorem IC{ps:List Part}{t:Term}{ts:List Term}:dP ps (t::ts)=tHi ps t+dP ps ts:=by simp[dP]
theorem Iq{ps:List Part}{ts:List Term}{i:Nat}{t:Term}(h:ts[i]?=some t):dG ps (ts.take (i+1))=dG ps (ts.take i)+tLo ps t:=by
 unfold dG;rw[ke,h];simp
theorem Gp{ps:List Part}{ts:List Term}{i:Nat}{t:Term}(h:ts[i]?=some t):dP ps (ts.take (i+1))=dP ps (ts.take i)+tHi ps t:=by
 unfold dP;rw[ke,h];simp
theorem vX(ps:List Part):∀ts:List Term,dG ps ts<=dP ps ts
 | []=>by simp[dG,dP]
 |t::ts=>by
  have:=vX ps ts;rw[Ki,IC];unfold tLo tHi;omega
theorem iH{α:Type}{f:α->bn}{l:List α}{i:Nat}{d:bn}(h:(l.map f)[i]?=some d):∃x,l[i]?=some x/\d=f x:=by
 rw[im]at h;obtain⟨x,e,rfl⟩:=map_eq_some_iff.mp h;exact⟨x,e,rfl⟩
theorem Ag{ps:List Part}{ts:List Term}{t:bn}(ht:eZ (.d t)=some (ts.map tmD))(h3:Tm3 ps.length ts)(q:R (.d (spD (dG ps ts) (dP ps ts))) []):qI [.d (aH ps),.d t] [] R:=by
 unfold qI aH;walk_at "d"
 walk_at "n"
 walk_at "n"
 walk_at "n";refine⟨_,ht,?_⟩;refine cY (fun i δ S=>∃(u1 u2 u3:Option XV),S=[]/\δ=[some (.d (.tuple (ps.map aX))),some (.d t),some (.d (.int (dG ps (ts.take i)))),some (.d (.int (dP ps (ts.take i)))),u1,u2,u3]) ⟨_,_,_,rfl,rfl⟩ ?_ ?_
 ·rintro i d _ _ N hi ⟨u1,u2,u3,rfl,rfl⟩ hN;obtain⟨t,ht,rfl⟩:=iH hi;obtain⟨t1,t2,t3⟩:=h3.ok t (bu ht);have ep:=bY (f:=aX) (iO t1);unfold tmD;walk_at "d"
  walk_at "n"
  refine⟨_,ep,?_⟩;unfold aX;walk_at "d";refine⟨gP yw yw,_,ep,?_⟩;unfold aX;walk_at "d";refine⟨gP yw yw,?_⟩
  walk_at "n"
  refine Fe ?_;walk_at "d";refine Le ?_;walk_at "d";exact hN _ _ ⟨_,_,_,rfl,by rw[Iq ht,Gp ht];rfl⟩
 ·rintro _ _ ⟨u1,u2,u3,rfl,rfl⟩;rw[fw,oy];walk_at "d";exact q
theorem gH{ds:List bn}{r:Int}{P:bn->Prop}(h0:0<=r)(h1:r<ds.length)(hP:∀d∈ds,P d):∃d,atI ds r=some d/\P d:=by
 obtain⟨k,rfl⟩:=gu h0;have hk:k<ds.length:=yw
 exact⟨ds[k],f6 (cn hk),hP _ (qx hk)⟩
theorem ES(ds:List bn):jj (.list ds) (.list [])=decide (ds=[]):=by
 cases ds with
 |nil=>rfl
 |cons d ds=>rfl
theorem Kt(t:Term):Shp 1 (tmD t):=lB (CB fG fG)
theorem HV(ts:List Term):gn (.list (ts.map tmD))=true:=(r9 (xR fun t _=>Kt t)).ok
structure GapOk(n:Nat)(g:Gap):Prop where
 ts:Tms n g.ts
 le:g.lo<=g.hi
theorem La{p:List bn}{ps:List Part}(hp:zW p)(hd:Drw ps)(q:∀g p',GapOk ps.length g->zW p'->R (.d (cQ g)) [p']):tM [.l 0,.d (aH ps)] [p] R:=by
 have h8:=hd.l8;have h1:=hd.l1;unfold tM;walk_at "d"
 walk_at "n"
 refine cut (fun δ S=>∃(p:List bn) (ts:List Term) (u1 u2:Option XV),zW p/\ts.length<=ps.length/\(∀t∈ts,t.1<ps.length/\t.2≠0/\-3<=t.2/\t.2<=3)/\(ts.Pairwise fun t u=>t.1<u.1)/\S=[p,ts.map tmD]/\δ=[some (.l 0),some (.d (aH ps)),some (.l 1),u1,u2,none,none,none,none,none]) (fun N hN=>?_) ?_
 ·walk_at "d";refine⟨ps.length,by unfold aH;walk_at "d",?_⟩;refine cY (fun i δ S=>∃(p:List bn) (ts:List Term) (u1 u2:Option XV),zW p/\ts.length<=i/\(∀t∈ts,t.1<i/\t.2≠0/\-3<=t.2/\t.2<=3)/\(ts.Pairwise fun t u=>t.1<u.1)/\S=[p,ts.map tmD]/\δ=[some (.l 0),some (.d (aH ps)),some (.l 1),u1,u2,none,none,none,none,none]) ⟨p,[],_,_,hp,ff _,yv,.nil,rfl,rfl⟩ ?_ ?_
  ·rintro i d _ _ N hi ⟨p,ts,u1,u2,hp,hl,ht,hw,rfl,rfl⟩ hN;obtain⟨ag,rfl⟩:=fH hi;have ah:i<ps.length:=by simpa using ag
   walk_at "d"
   walk_at "n"
   refine zr hp dz (by decide +kernel) fun r p2 r0 r1 aa=>?_;walk_at "d";refine⟨rfl,?_⟩;simp only[any_cons,List.any_nil,Bool.or_false,i4];have ae:=hN [some (.l 0),some (.d (aH ps)),some (.l 1),some (.d (.int (0+(i:Int)))),some (.d (.int (r-4))),none,none,none,none,none] [p2,ts.map tmD] ⟨p2,ts,_,_,aa,yw,fun t m=>⟨by have:=(ht t m).1;omega,(ht t m).2⟩,hw,rfl,rfl⟩;by_cases hz:r-4 = -4\/r-4=0\/r-4=4
   ·have e:(decide ((-4:Int)=r-4)||(decide ((0:Int)=r-4)||decide ((4:Int)=r-4)))=true:=by
     rcases hz with h|h|h<;>simp[h]
    rw[e];walk_at "d";exact ae
   ·have e:(decide ((-4:Int)=r-4)||(decide ((0:Int)=r-4)||decide ((4:Int)=r-4)))=false:=by
     simp;omega
    rw[e];walk_at "d";refine⟨yw,hN _ _ ⟨p2,ts++[(i,r-4)],_,_,aa,by simp;omega,fun t m=>?_,?_,by simp[tmD],rfl⟩⟩
    ·rcases mem_append.mp m with m|m
     ·exact⟨by have:=(ht t m).1;omega,(ht t m).2⟩
     ·rw[mem_singleton.mp m];exact⟨yv,by simp only;omega,by simp only;omega,by simp only;omega⟩
    ·rw[List.pairwise_append];exact⟨hw,yv,fun t m u m'=>by rw[mem_singleton.mp m'];exact(ht t m).1⟩
  ·rintro _ _ ⟨p,ts,u1,u2,hp,hl,ht,hw,rfl,rfl⟩;rw[eV]at hl ht;have hz:(ps.length:Int).toNat=ps.length:=by simp
   rw[hz]at hl ht;exact hN _ _ ⟨p,ts,u1,u2,hp,hl,ht,hw,rfl,rfl⟩
 rintro _ _ ⟨p,ts,u1,u2,hp,hl,ht,hw,rfl,rfl⟩;refine cut (fun δ S=>∃(p:List bn) (ts:List Term) (T:Sto) (k:Nat),zW p/\Tms ps.length ts/\T[k]?=some (ts.map tmD)/\S=p::T/\δ=[some (.l 0),some (.d (aH ps)),some (.l (k+1)),u1,u2,none,none,none,none,none]) (fun N hN=>?_) ?_
 ·walk_at "d";refine⟨HV ts,rfl,?_⟩;rw[ES];walk_at "d";split
  ·refine⟨ps.length,by unfold aH;walk_at "d",?_⟩;refine zr hp yw (fD yw yw) fun r p2 r0 r1 aa=>?_;walk_at "d";refine zr aa dz (by decide +kernel) fun r3 p3 r2 r4 ab=>?_;obtain⟨d,ed,n,rfl,hn⟩:=gH (ds:=[bw 1,bw (-1),bw 2,bw (-3)]) (P:=fun d=>∃n,d=.int n/\n≠0/\-3<=n/\n<=3) r2 r4 (by
    intro d m;simp only[ix,gk,or_false]at m;rcases m with rfl|rfl|rfl|rfl<;>exact⟨_,rfl,by decide,by decide,by decide⟩)
   obtain⟨k,rfl⟩:=gu r0;walk_at "d";refine⟨_,ed,?_⟩;walk_at "d";refine hN _ _ ⟨p3,[(k,n)],[ts.map tmD,[tmD (k,n)]],1,ab,⟨yv,by simpa using h1,fun t m=>by rw[mem_singleton.mp m];exact⟨by simp only;omega,hn⟩,yv⟩,rfl,rfl,rfl⟩
  ·rename_i af;exact hN _ _ ⟨p,ts,[ts.map tmD],0,hp,⟨fun z=>af (by rw[z];rfl),hl,ht,hw⟩,rfl,rfl,rfl⟩
 rintro _ _ ⟨p,ts,T,k,hp,ac,hk,rfl,rfl⟩
 walk_at "n"
 rw[hk];walk_at "d";refine Ag rfl (ac.tm3 h8) ?_;have lm:=vX ps ts;unfold spD;walk_at "d";refine⟨rfl,?_⟩;walk_at "d"
 walk_at "n"
 walk_at "n"
 refine .inl ⟨⟨by decide,by decide +kernel⟩,.inl ⟨⟨by decide,by decide +kernel⟩,?_⟩⟩;walk_at "d";refine zr hp dz (by decide +kernel) fun r p2 r0 r1 aa=>?_;obtain⟨d,ed,n,rfl⟩:=gH (P:=fun d=>∃n,d=.int n) (ds:=[bw 0,bw 1,bw (-1),bw ((dP ps ts-dG ps ts)/2),bw ((dP ps ts-dG ps ts)/3),bw (dP ps ts-dG ps ts+1)]) r0 r1 yv;walk_at "d";refine⟨_,ed,?_⟩;walk_at "d"
 walk_at "n"
 refine .inl ⟨⟨by decide,by decide +kernel⟩,?_⟩;walk_at "d";refine zr aa dz (by decide +kernel) fun r' p3 r2 r3 ab=>?_;obtain⟨d,ed,n',rfl,h0⟩:=gH (P:=fun d=>∃n,d=.int n/\0<=n) (ds:=[bw 0,bw 1,bw 2,bw ((dP ps ts-dG ps ts)/2),bw (dP ps ts-dG ps ts),bw (dP ps ts-dG ps ts+2)]) r2 r3 (by simp;omega);walk_at "d";refine⟨_,ed,?_⟩;walk_at "d";refine⟨_,hk,?_⟩;walk_at "d";exact q ⟨ts,_,_⟩ p3 ⟨ac,by simp only;omega⟩ ab
def cA(gs:List Gap):bn:=.tuple (gs.map cQ)
structure Gaps(n:Nat)(gs:List Gap):Prop where
 l1:1<=gs.length
 l6:gs.length<=6
 all:∀g∈gs,GapOk n g
theorem vU{g:DG}{te:DE}{fin:Sto->Prop}{α:Type}(F:α->Prop)(f:α->bn)(P:XE->Prop):∀(ds:List bn) (acc:List α) (p:List bn) (τ:XE),P τ->zW p->acc.length+ds.length<=1000 ->
  (∀d∈ds,∀ τ p acc (R:XE->RX),P τ->zW p->(∀ τ' x p',P τ'->zW p'->F x->R τ' (.d (f x)) [p',acc])->g (.d d) τ [p,acc] fun τ1 S1=>te τ1 S1 (R τ1)) ->
  (∀xs p',zW p'->(∀x∈xs,F x)->xs.length=ds.length->fin [p',(acc++xs).map f])->bE 1 g aG te fin ds τ [p,acc.map f]
 | [],acc,p,τ,_,hp,_,_,h=>by
  have:=h [] p hp yv rfl;rw[kn]at this;exact this
 |d::ds,acc,p,τ,hP,hp,hl,el,h=>by
  show g (.d d) τ [p,acc.map f] fun τ1 S1=>aG τ1 S1 fun b S2=>if b=true then te τ1 S2 fun x S3=>asD x fun e=>∃acc,S3[1]?=some acc/\acc.length<1000/\bE 1 g aG te fin ds τ1 (S3.set 1 (acc++[e]))else bE 1 g aG te fin ds τ1 S2
  simp only[aG,↓reduceIte];rw[ft]at hl;refine el d df τ p (acc.map f) (fun τ1 x S3=>asD x fun e=>∃acc,S3[1]?=some acc/\acc.length<1000/\bE 1 g aG te fin ds τ1 (S3.set 1 (acc++[e]))) hP hp fun τ' x p' q aa hF=>?_;refine⟨acc.map f,rfl,by rw[fw];omega,?_⟩;have e:([p',acc.map f]:Sto).set 1 (acc.map f++[f x])=[p',(acc++[x]).map f]:=by simp
  rw[e];refine vU F f P ds (acc++[x]) p' τ' q aa (by rw[cx,gr];omega) (fun e m=>el e (cu _ m)) fun xs p'' hp'' fs hl=>?_;rw[gv];exact h (x::xs) p'' hp'' (fun y m=>(mem_cons.mp m).elim (fun e=>e▸hF) (fs y)) (by simp[hl])
theorem KQ{p:List bn}{ps:List Part}{m:Int}(hp:zW p)(hd:Drw ps)(m1:0<m)(m6:m<=6)(q:∀gs p',Gaps ps.length gs->(gs.length:Int)<=m->zW p'->R (.d (cA gs)) [p']):tF [.l 0,.d (aH ps),.d (.int m)] [p] R:=by
 unfold tF;walk_at "d"
 walk_at "n"
 refine zr hp m1 (fD m1 yw) fun r p1 r0 r1 af=>?_;walk_at "d";refine vU (α:=Gap) (GapOk ps.length) cQ (fun τ=>∃u,τ=[u,some (.l 0),some (.d (aH ps))]) _ [] p1 _ ⟨_,rfl⟩ af (by rw[eV];simp;omega) ?_ ?_
 ·rintro d md _ p acc R' ⟨u,rfl⟩ hp hk;walk_at "d";refine La hp hd fun g p' hg ag=>?_;walk_at "d";exact hk _ g p' ⟨_,rfl⟩ ag hg
 ·intro gs p2 ac hg hl;rw[eV]at hl;rw[nil_append];have l1:1<=gs.length:=yw
  have l6:(gs.length:Int)<=m:=yw
  walk_at "d";refine cut (fun δ S=>∃(p:List bn) (gs:List Gap),zW p/\Gaps ps.length gs/\(gs.length:Int)<=m/\S=[p,gs.map cQ]/\δ=[some (.l 0),some (.d (aH ps)),some (.d (.int m)),some (.l 1)]) (fun N hN=>?_) ?_
  ·walk_at "d";refine zr ac dz (by decide +kernel) fun r2 p3 r3 r4 aa=>?_;walk_at "d";have no:=hN [some (.l 0),some (.d (aH ps)),some (.d (.int m)),some (.l 1)] [p3,gs.map cQ] ⟨p3,gs,aa,⟨l1,yw,hg⟩,l6,rfl,rfl⟩;split
   ·split
    ·obtain⟨g0,ab⟩:∃g0,gs[0]?=some g0:=⟨gs[0],cn yw⟩;have e0:=bY (f:=cQ) ab;have ai:=hg g0 (bu ab);refine⟨_,e0,?_⟩;rw[fX];walk_at "d";refine⟨_,e0,?_⟩;rw[fX];walk_at "d";refine⟨_,e0,?_⟩;rw[fX];walk_at "d";refine zr aa dz (by decide +kernel) fun r5 p4 r6 r7 ah=>?_;walk_at "d";obtain⟨j,hj⟩:∃j,ixN gs.length (-1)=some j/\j<gs.length:=⟨gs.length-1,by unfold ixN;rw[cf yw,cg yw];congr 1;omega,yw⟩;refine⟨j,hj.1,hN _ _ ⟨p4,gs.set j ⟨g0.ts,g0.hi+1,g0.hi+1+r5⟩,ah,⟨by simp;omega,by simp;omega,fun g mg=>?_⟩,by simp;omega,by simp only[List.map_set,cQ],rfl⟩⟩;rcases List.mem_or_eq_of_mem_set mg with h|rfl
     ·exact hg g h
     ·exact⟨ai.ts,by simp only;omega⟩
    ·exact no
   ·exact no
  ·rintro _ _ ⟨p,gs,hp,ae,hm,rfl,rfl⟩;walk_at "d";exact q gs p ae hm hp
end
section
variable {R:RX}{S:Sto}
theorem LV{g:Gap}{ns:List Int}(h3:Tm3 ns.length g.ts)(q:R (.d (.int (worth g.ts ns))) []):uE [.d (cQ g),.d (aC ns)] [] R:=by
 unfold uE aC;rw[fX,lE];walk_at "e";refine cmp2 (S0:=[]) (fun t:Term=>.int (t.2*ns.getD t.1 0)) rfl g.ts (by have:=h3.len;omega) ?_ ?_
 ·intro t mt u v acc R' hk;obtain⟨t1,t2,t3⟩:=h3.ok t mt;have e:=bY (f:=bw) (BJ t1);rw[B6];walk_at "e";refine⟨_,e,?_⟩;walk_at "e";exact⟨gP yw yw,hk _ _⟩
 ·walk_at "e";refine⟨g.ts.map fun t:Term=>t.2*ns.getD t.1 0,by rw[jb];rfl,q⟩
def pA(g:Gap)(ns:List Int):Bool:=decide (g.lo<=worth g.ts ns/\worth g.ts ns<=g.hi)
theorem JB{g:Gap}{ns:List Int}(h3:Tm3 ns.length g.ts)(q:R (.d (.bool (pA g ns))) []):tK [.d (cQ g),.d (aC ns)] [] R:=by
 unfold tK;walk_at "e";rw[fX];walk_at "e";rw[<- fX];refine LV h3 ?_;walk_at "e";unfold pA at q;by_cases h:g.lo<=worth g.ts ns
 ·simp only[h,true_and]at q;rw[cg h];exact q
 ·simp only[h,false_and,decide_false]at q;rw[cf h];exact q
structure InBox(ps:List Part)(ns:List Int):Prop where
 len:ns.length=ps.length
 ok:∀k,k<ps.length->plo ps k<=ns.getD k 0/\ns.getD k 0<=phi ps k
def Ord(ps:List Part):Prop:=∀p∈ps,p.2.1<=p.2.2
theorem Drw.ord{ps:List Part}(h:Drw ps):Ord ps:=fun p m=>(h.all p m).le
theorem J6{n k:Nat}(h:k<n):ixN n (k:Int)=some k:=by
 unfold ixN;rw[cg yw,cg yw];simp
end
section
variable {R:RX}{S:Sto}
def bU:bn->Bool
 | .int _=>true
 |_=>false
end
section
variable {R:RX}{S:Sto}
def rng(lo:Int)(n:Nat):List Int:=(fq n).map fun k:Nat=>lo+k
def GN(p:Part):List Int:=rng p.2.1 (p.2.2-p.2.1+1).toNat
def ext(q:List (List Int))(p:Part):List (List Int):=q.flatMap fun a=>(GN p).map fun x=>a++[x]
theorem Ca{ms:List Int}:InBox [] ms↔ms=[]:=⟨fun h=>iy h.len,fun h=>by subst h;exact⟨rfl,fun k hk=>by simp at hk⟩⟩
theorem A2{p:Part}{ps:List Part}{k:Nat}:part (p::ps) (k+1)=part ps k:=by simp[part]
theorem vI{p:Part}{ps:List Part}{ms:List Int}:InBox (p::ps) ms↔∃x t,ms=x::t/\p.2.1<=x/\x<=p.2.2/\InBox ps t:=by
 constructor
 ·intro h;cases ms with
  |nil=>have:=h.len;simp at this
  |cons x t=>
   have h0:=h.ok 0 yv;refine⟨x,t,rfl,h0.1,h0.2,by have:=h.len;simpa using this,fun k hk=>?_⟩;have:=h.ok (k+1) (by simpa using hk);unfold plo phi at this ⊢;rw[A2]at this;simpa using this
 ·rintro⟨x,t,rfl,h1,h2,h3⟩;refine⟨by simp[h3.len],fun k hk=>?_⟩;cases k with
  |zero=>exact⟨h1,h2⟩
  |succ k=>
   have:=h3.ok k (by simpa using hk);unfold plo phi at this ⊢;rw[A2];simpa using this
def aM:List Nat->Nat
 | []=>1
 |x::xs=>x*aM xs
def yR(ps:List Part):Nat:=aM (ps.map fun p=>(p.2.2-p.2.1+1).toNat)
theorem B4{α β:Type}{f:α->List β}{n:Nat}:∀{l:List α},(∀x∈l,(f x).length=n)->(l.flatMap f).length=l.length*n
 | [],_=>by simp
 |x::l,h=>by
  rw[List.flatMap_cons,cx,h x df,B4 fun y m=>h y (cu _ m),ft,succ_mul,Nat.add_comm]
theorem qS:∀{l:List Nat},(∀x∈l,1<=x)->1<=aM l
 | [],_=>ff _
 |x::l,h=>mul_le_mul (h x df) (qS fun y m=>h y (cu _ m))
theorem uQ:∀(a b:List Nat),aM (a++b)=aM a*aM b
 | [],b=>by simp[aM]
 |x::a,b=>by simp[aM,uQ a b,Nat.mul_assoc]
theorem HN{α:Type}{l:List α}{i:Nat}{x:α}(h:l[i]?=some x):l.take (i+1)=l.take i++[x]:=by rw[ke,h];rfl
end
section
variable {R:RX}{S:Sto}
structure Wds(ws:List Int):Prop where
 l1:1<=ws.length
 l8:ws.length<=8
 pos:∀x∈ws,1<=x
 le:∀x∈ws,x<=300
 prod:aM (ws.map Int.toNat)<=300
theorem prod3:∀{ws:List Int},(∀x∈ws,1<=x/\x<=3)->aM (ws.map Int.toNat)<=3 ^ ws.length
 | [],_=>by simp[aM]
 |x::ws,h=>by
  have h1:=h x df;have h2:=prod3 fun y m=>h y (cu _ m);rw[fm,aM,ft,Nat.pow_succ,mul_comm];exact mul_le_mul h2 yw
theorem wds3{ws:List Int}(l1:1<=ws.length)(l4:ws.length<=4)(h:∀x∈ws,1<=x/\x<=3):Wds ws:=by
 refine⟨l1,yw,fun x m=>(h x m).1,fun x m=>by have:=(h x m).2;omega,jn (prod3 h) ?_⟩;have:ws.length=1\/ws.length=2\/ws.length=3\/ws.length=4:=yw
 rcases this with e|e|e|e<;>rw[e]<;>decide
theorem Gj{Q names number:PN}{p:List bn}{m:Int}(hQ:Q=fun xs S R=>(zT (aA (zB 0 1 names (zc (zh 0) zq)) (zj 2)) (zT (aA (aZ [none,some 0] (bO (zc (dOp aE (dC (.int 1)) (zB 0 2 zp (zc (zh 0) (zc (zh 1) zq)))) zq)) (zj 0) aG (dOp aE (dC (.int 1)) (zB 0 2 zp (zc (zh 1) (zc (dC (.int 3)) zq))))) (zj 3)) (zT (aJ (dB (dOp aV (zB 0 2 zp (zc (zh 0) (zc (dC (.int 12)) zq))) (dC (.int 0)))) (aA (dOp dIx (aT (zc (dOp cD (aT (zc (dC (.int 2)) zq)) (dC (.int 8))) (zc (aT (zc (dC (.int 17)) (zc (dC (.int 17)) zq))) (zc (aT (zc (dC (.int 300)) zq)) (zc (dOp cD (aT (zc (dC (.int 1)) zq)) (dC (.int 8))) zq))))) (zB 0 2 zp (zc (zh 0) (zc (dC (.int 4)) zq)))) (zj 3)) aK) (zT (aA (cC zq) (zj 4)) (zT (bT (bO (zc (dCB aI (zc (zh 3) zq)) zq)) (zj 5) (zT (aA (zB 0 1 number (zc (zh 0) zq)) (zj 6)) (c9 (dBM dU (zh 4) (zc (aF (zc (dOp dIx (zh 2) (zh 5)) (zc (zh 6) (zc (dOp (dI0 fun i j=>i-j) (dOp aE (zh 6) (dOp dIx (zh 3) (zh 5))) (dC (.int 1))) zq)))) zq))))) (aB (dCB bW (zc (zh 4) zq)))))))) (aO S.length R) (xs.map some++bx 5 none) S)
  (hnames:∀{p:List bn}{R:RX},zW p->(∀(ns:List Str) p',ns.length=8->(∀z∈ns,hW z=true)->zW p'->R (.d (.list (ns.map jo))) [p'])->names [.l 0] [p] R)
  (hnumber:∀{p:List bn}{R:RX},zW p->(∀r p',-10 ^ 58<=r->r<=10 ^ 58->zW p'->R (.d (.int r)) [p'])->number [.l 0] [p] R)
  (hp:zW p) (m1:0<m) (m4:m<=4) (q:∀(ps:List Part) p',Drw ps->yR ps<=300->zW p'->R (.d (aH ps)) [p']):Q [.l 0,.d (.int m)] [p] R:=by
 subst hQ;walk_at "d"
 walk_at "n"
 refine hnames hp fun ns p1 hn hz af=>?_;walk_at "d"
 walk_at "n"
 refine zr af m1 (fD m1 yw) fun r p2 r0 r1 ae=>?_;walk_at "d";refine vU (α:=Int) (fun x=>1<=x/\x<=3) bw (fun τ=>∃u,τ=[u,some (.l 0)]) _ [] p2 _ ⟨_,rfl⟩ ae (by rw[eV];simp;omega) ?_ ?_
 ·rintro d md _ p acc R' ⟨u,rfl⟩ hp hk;walk_at "d";refine zr hp dz (by decide +kernel) fun r p' r0 r1 ag=>?_;walk_at "d";exact hk _ _ p' ⟨_,rfl⟩ ag ⟨yw,yw⟩
 ·intro ws p3 ab hw hl;rw[eV]at hl;have aa:Wds ws:=wds3 yw yw hw;rw[nil_append];walk_at "d";refine cut (fun δ S=>∃(p:List bn) (ws:List Int),zW p/\Wds ws/\S=[p]/\δ=[some (.l 0),some (.d (.int m)),some (.d (.list (ns.map jo))),some (.d (.list (ws.map bw))),none,none,none]) (fun N hN=>?_) ?_
  ·walk_at "d";refine zr ab dz (by decide +kernel) fun r2 p4 r3 r4 ac=>?_;walk_at "d";split
   ·refine zr ac dz (by decide +kernel) fun r5 p5 r6 r7 ak=>?_;obtain⟨d,ed,ah,rfl,aj⟩:=gH (P:=fun d=>∃ws:List Int,d=.list (ws.map bw)/\Wds ws) (ds:=[li (bx 8 [bw 2]).flatten,.list [.int 17,.int 17],.list [.int 300],.list (bx 8 [bw 1]).flatten]) r6 r7 (by
     intro d m;simp only[ix,gk,or_false]at m;rcases m with rfl|rfl|rfl|rfl
     ·exact⟨[2,2,2,2,2,2,2,2],rfl,by decide,by decide,by decide,by decide,by decide⟩
     ·exact⟨[17,17],rfl,by decide,by decide,by decide,by decide,by decide⟩
     ·exact⟨[300],rfl,by decide,by decide,by decide,by decide,by decide⟩
     ·exact⟨[1,1,1,1,1,1,1,1],rfl,by decide,by decide,by decide,by decide,by decide⟩)
    walk_at "d";refine⟨_,ed,hN _ _ ⟨p5,ah,ak,aj,rfl,rfl⟩⟩
   ·exact hN _ _ ⟨p4,ws,ac,aa,rfl,rfl⟩
  rintro _ _ ⟨p,ws,hp,aa,rfl,rfl⟩;have w8:=aa.l8
  walk_at "n"
  walk_at "n";refine cY (fun i δ S=>∃(p:List bn) (ps:List Part) (u1 u2:Option XV),zW p/\ps.length=i/\(∀p∈ps,Prt p)/\ps.map (fun p=>(p.2.2-p.2.1+1).toNat)=(ws.take i).map Int.toNat/\S=[p,ps.map aX]/\δ=[some (.l 0),some (.d (.int m)),some (.d (.list (ns.map jo))),some (.d (.list (ws.map bw))),some (.l 1),u1,u2]) ⟨p,[],_,_,hp,rfl,yv,rfl,rfl,rfl⟩ ?_ ?_
  ·rintro i d _ _ N hi ⟨p,ps,u1,u2,hp,hl,ha,hs,rfl,rfl⟩ hN;obtain⟨al,rfl⟩:=fH hi;have iw:i<ws.length:=by simpa using al
   have i8:i<ns.length:=yw
   have e:=bY (f:=jo) (cn i8);have ew:=bY (f:=bw) (cn iw);have w1:=aa.pos _ (qx iw);have am:=aa.le _ (qx iw);have e0:(0:Int)+(i:Int)=(i:Int):=yw
   walk_at "d"
   walk_at "n"
   refine hnumber hp fun lo p3 h1 h2 ab=>?_;walk_at "d";rw[e0];refine⟨_,e,?_⟩;walk_at "d";refine⟨_,ew,?_⟩;walk_at "d";refine⟨yw,hN _ _ ⟨p3,ps++[(ns[i],lo,lo+ws[i]-1)],_,_,ab,by simp[hl],fun x hx=>?_,?_,by simp[aX],rfl⟩⟩
   ·rcases mem_append.mp hx with hx|hx
    ·exact ha x hx
    ·rw[mem_singleton.mp hx];exact⟨hz _ (qx i8),by simp only;omega,h1,by simp only;omega⟩
   ·rw[map_append,hs,HN (cn iw),map_append];congr 1;simp only[fm,map_nil,qj,and_true];omega
  ·rintro _ _ ⟨p,ps,u1,u2,hp,hl,ha,hs,rfl,rfl⟩;rw[eV]at hl hs;have ai:(ws.length:Int).toNat=ws.length:=by simp
   rw[ai]at hl hs;rw[oy]at hs;walk_at "d";have an:=aa.l1;exact q ps p ⟨yw,yw,ha⟩ (by unfold yR;rw[hs];exact aa.prod) hp
theorem KH{p:List bn}{m:Int}(hp:zW p)(m1:0<m)(m4:m<=4)(q:∀(ps:List Part) p',Drw ps->yR ps<=300->zW p'->R (.d (aH ps)) [p']):wJ [.l 0,.d (.int m)] [p] R:=
 Gj (names:=jM) (number:=mR) rfl Ea CM hp m1 m4 q
theorem Bq:∀(a b:List Int),PyData.eqvAll (a.map bw) (b.map bw)=decide (a=b)
 | [],[]=>rfl
 | [],_::_=>rfl
 |_::_,[]=>rfl
 |x::a,y::b=>by
  show (jj (.int x) (.int y)&&PyData.eqvAll (a.map bw) (b.map bw))=_;rw[i4,Bq a b];by_cases h1:x=y<;>by_cases h2:a=b<;>simp[h1,h2]
theorem C8(a b:List Int):jj (aC a) (aC b)=decide (a=b):=Bq a b
theorem lO{n:Nat}(a:List Int):Shp (n+1) (aC a):=lB (xR fun _ _=>fG)
theorem CV(a:List Int):gn (aC a)=true:=(lO (n:=0) a).ok
end
section
variable {R:RX}{S:Sto}
abbrev Off:=Int×Int×Int
def bB(o:Off):bn:=.tuple [.int o.1,.int o.2.1,.int o.2.2]
theorem kS(o:Off):bB o=.tuple [.int o.1,.int o.2.1,.int o.2.2]:=rfl
def aY(l:List Off):bn:=.tuple (l.map bB)
theorem eR(l:List Off):aY l=.tuple (l.map bB):=rfl
def aS(os:List (List Off)):bn:=.tuple (os.map aY)
structure Ofp(p:Part)(l:List Off):Prop where
 l1:1<=l.length
 l4:l.length<=4
 ok:∀o∈l,p.2.1<=o.1/\o.1<=o.2.1/\o.2.1<=p.2.2
structure Offs(ps:List Part)(os:List (List Off)):Prop where
 len:os.length=ps.length
 ok:∀(i:Nat) p l,ps[i]?=some p->os[i]?=some l->Ofp p l
theorem JG{α:Type}{l:List α}(h:1<=l.length):∃m x,l=m++[x]:=⟨l.dropLast,l.getLast (by intro z;subst z;simp at h),(List.dropLast_concat_getLast _).symm⟩
theorem gD{α:Type}{l:List α}{k:Nat}{d:α}(h:k<l.length):l[k]?=some (l.getD k d):=by
 rw[fu];rw[cn h];rfl
def offer(os:List (List Off))(ks:List Nat)(i:Nat):Off:=(os.getD i []).getD (ks.getD i 0) (0,0,0)
structure Chs(os:List (List Off))(ks:List Nat):Prop where
 len:ks.length=os.length
 ok:∀i,i<os.length->ks.getD i 0<(os.getD i []).length
def chosen(ps:List Part)(os:List (List Off))(ks:List Nat):List Part:=(fq ps.length).map fun i=>((part ps i).1,(offer os ks i).1,(offer os ks i).2.1)
def cH(ks:List Nat):bn:=.tuple (ks.map fun k:Nat=>.int k)
theorem j9{ps:List Part}{os:List (List Off)}{ks:List Nat}:(chosen ps os ks).length=ps.length:=by simp[chosen]
theorem gG{os:List (List Off)}{i:Nat}(h:i<os.length):os[i]?=some (os.getD i []):=by rw[cn h,fu,cn h];rfl
theorem ED{os:List (List Off)}{ks:List Nat}(hc:Chs os ks){i:Nat}(h:i<os.length):(os.getD i [])[ks.getD i 0]?=some (offer os ks i):=by
 have:=hc.ok i h;exact gD this
theorem D8{g:DG}{te:DE}{fin:Sto->Prop}{ps:List Part}{os:List (List Off)}{p:List bn}{u0:Option XV}{caps:XE}{n:Nat}(S0:Sto)(hn:S0.length+1=n)(ho:Offs ps os)(h8:ps.length<=8)(hp:zW p)
  (el:∀(l:List Off) (u:Option XV) p acc (R:XE->RX),1<=l.length->l.length<=4->zW p->(∀u' (k:Nat) p',zW p'->k<l.length->R (u'::caps) (.d (.int (k:Nat))) (p'::(S0++[acc])))->g (.d (aY l)) (u::caps) (p::(S0++[acc])) fun τ1 S1=>te τ1 S1 (R τ1))
  (hf:∀ks p',zW p'->Chs os ks->fin (p'::(S0++[ks.map fun k:Nat=>.int k]))):bE n g aG te fin (os.map aY) (u0::caps) (p::(S0++[[]])):=by
 subst hn;have go:∀(os:List (List Off)) (u:Option XV) (acc:List Nat) (p:List bn),zW p->acc.length+os.length<=1000->(∀l∈os,1<=l.length/\l.length<=4) ->
   (∀ks p',zW p'->Chs os ks->fin (p'::(S0++[(acc++ks).map fun k:Nat=>.int k])))->bE (S0.length+1) g aG te fin (os.map aY) (u::caps) (p::(S0++[acc.map fun k:Nat=>.int k])):=by
  intro os;induction os with
  |nil=>
   intro u acc p hp _ _ h;have:=h [] p hp ⟨rfl,fun i hi=>by simp at hi⟩;rw[kn]at this;exact this
  |cons l os ih=>
   intro u acc p hp hl h4 h;show g (.d (aY l)) (u::caps) (p::(S0++[acc.map fun k:Nat=>.int k])) fun τ1 S1=>aG τ1 S1 fun b S2=>if b=true then te τ1 S2 fun x S3=>asD x fun e=>∃acc,S3[S0.length+1]?=some acc/\acc.length<1000/\bE (S0.length+1) g aG te fin (os.map aY) τ1 (S3.set (S0.length+1) (acc++[e]))else bE (S0.length+1) g aG te fin (os.map aY) τ1 S2
   simp only[aG,↓reduceIte];rw[ft]at hl;have aa:=h4 l df;refine el l u p _ (fun τ1 x S3=>asD x fun e=>∃acc,S3[S0.length+1]?=some acc/\acc.length<1000/\bE (S0.length+1) g aG te fin (os.map aY) τ1 (S3.set (S0.length+1) (acc++[e]))) aa.1 aa.2 hp fun u' k p' q hk=>?_;refine⟨acc.map fun k:Nat=>.int k,yv,by rw[fw];omega,?_⟩;have e:(p'::(S0++[acc.map fun k:Nat=>bw k]):Sto).set (S0.length+1) ((acc.map fun k:Nat=>bw k)++[.int (k:Nat)])=p'::(S0++[(acc++[k]).map fun k:Nat=>bw k]):=by
    rw[set_cons_succ,mV rfl];simp
   rw[e];refine ih u' (acc++[k]) p' q (by rw[cx,gr];omega) (fun l m=>h4 l (cu _ m)) fun ks p'' hp'' hc=>?_;rw[gv];refine h (k::ks) p'' hp'' ⟨by simp[hc.len],fun i hi=>?_⟩;cases i with
   |zero=>exact hk
   |succ i=>exact hc.ok i (by simpa using hi)
 refine go os u0 [] p hp (by have:=ho.len;simp;omega) (fun l m=>?_) fun ks p' q hc=>hf ks p' q hc;obtain⟨i,hi⟩:=mem_iff_getElem?.mp m;have hl:=(List.getElem?_eq_some_iff.mp hi).1;have:=ho.ok i _ l (iO (by rw[<- ho.len];exact hl)) hi;exact⟨this.l1,this.l4⟩
theorem xK{ps:List Part}{os:List (List Off)}{ks:List Nat}(ho:Offs ps os)(hc:Chs os ks)(h8:ps.length<=8)(q:R (.d (aH (chosen ps os ks))) []):lN [.d (aH ps),.d (aS os),.d (cH ks)] [] R:=by
 unfold lN aH aS cH;walk_at "d";refine cmp1 (S0:=[]) (fun i:Nat=>aX ((part ps i).1,(offer os ks i).1,(offer os ks i).2.1)) rfl (fq ps.length) (by simp;omega) ?_ ?_
 ·intro i mi u acc R' hk;have hi:=mem_range.mp mi;have aa:i<os.length:=by rw[ho.len];exact hi
  have ab:i<ks.length:=by rw[hc.len];exact aa
  have e1:=bY (f:=aX) (iO hi);have e2:=bY (f:=aY) (gG aa);have e3:=bY (f:=fun k:Nat=>bw k) (show ks[i]?=some (ks.getD i 0) by rw[cn ab,fu,cn ab];rfl);have e4:=bY (f:=bB) (ED hc aa);walk_at "d";simp only[lv];refine⟨_,e1,?_⟩;rw[j0];walk_at "d";refine⟨_,e2,?_⟩;rw[eR];walk_at "d";refine⟨_,e3,?_⟩;walk_at "d";refine⟨_,e4,?_⟩;rw[kS];walk_at "d";have ec:aL [bw (offer os ks i).1,.int (offer os ks i).2.1,.int (offer os ks i).2.2] none (some 2)=[bw (offer os ks i).1,.int (offer os ks i).2.1]:=rfl;rw[ec];walk_at "d";exact⟨by decide,hk _⟩
 ·walk_at "d";have e:(fq ps.length).map (fun i:Nat=>aX ((part ps i).1,(offer os ks i).1,(offer os ks i).2.1))=(chosen ps os ks).map aX:=by
   unfold chosen;rw[jb];rfl
  rw[e];exact q
theorem Lc{ps:List Part}{os:List (List Off)}{ks:List Nat}(ho:Offs ps os)(hc:Chs os ks):(ps.zip ((os.zip ks).map fun q=>q.1.getD q.2 (0,0,0))).map (fun q=>aX (q.1.1,q.2.1,q.2.2.1))=(chosen ps os ks).map aX:=by
 have hl:=ho.len;have hk:=hc.len;refine List.ext_getElem (by simp[j9];omega) fun i h1 h2=>?_;have hi:i<ps.length:=by simpa[j9]using h2
 have ab:i<os.length:=yw
 have aa:i<ks.length:=yw
 simp only[List.getElem_map,List.getElem_zip,chosen,List.getElem_range];have e1:part ps i=ps[i]:=by simp[part,hi]
 have e2:os.getD i []=os[i]:=by simp[ab]
 have e3:ks.getD i 0=ks[i]:=by simp[aa]
 unfold offer;rw[e1,e2,e3]
theorem Ku{ps:List Part}{os:List (List Off)}{ks:List Nat}(ho:Offs ps os)(hc:Chs os ks)(h8:ps.length<=8)(q:R (.d (aH (chosen ps os ks))) []):tJ [.d (aH ps),.d (aS os),.d (cH ks)] [] R:=by
 have hl:=ho.len;have hk:=hc.len;unfold tJ aH aS cH;walk_at "d"
 walk_at "n"
 rw[h9];refine cmp2 (S0:=[]) (fun q:List Off×Nat=>bB (q.1.getD q.2 (0,0,0))) rfl (os.zip ks) (by simp;omega) ?_ ?_
 ·intro x mx u v acc R' aa;obtain⟨i,hi⟩:=mem_iff_getElem?.mp mx;rw[lg]at hi;obtain⟨h1,h2⟩:=hi;have il:i<os.length:=(List.getElem?_eq_some_iff.mp h1).1;have e1:os.getD i []=x.1:=by rw[gG il]at h1;exact gh h1
  have e2:ks.getD i 0=x.2:=by rw[gD (d:=0) yw]at h2;exact gh h2
  have kb:=hc.ok i il;rw[e1,e2]at kb;have e3:=bY (f:=bB) (gD (d:=((0,0,0):Off)) kb);rw[eR];walk_at "d";refine⟨_,e3,?_⟩;exact aa _ _
 ·walk_at "d";have em:(os.zip ks).map (fun q:List Off×Nat=>bB (q.1.getD q.2 (0,0,0)))=((os.zip ks).map fun q:List Off×Nat=>q.1.getD q.2 (0,0,0)).map bB:=by rw[jb];rfl
  rw[em,h9];refine cmp2 (S0:=[]) (fun q:Part×Off=>aX (q.1.1,q.2.1,q.2.2.1)) rfl _ (by simp;omega) ?_ ?_
  ·intro x mx u v acc R' aa;rw[j0,kS];walk_at "d";exact aa _ _
  ·walk_at "d";rw[Lc ho hc];exact q
theorem LY{p:List bn}{ps:List Part}{os:List (List Off)}{m:Int}(hp:zW p)(hd:Drw ps)(ho:Offs ps os)(m1:0<m)(m6:m<=6)(q:∀gs p',Gaps ps.length gs->zW p'->R (.d (cA gs)) [p']):tL [.l 0,.d (aH ps),.d (aS os),.d (.int m)] [p] R:=by
 have h8:=hd.l8;unfold tL;walk_at "d"
 walk_at "n"
 refine KQ hp hd m1 m6 fun gs p1 ae gm ai=>?_;rw[cA];walk_at "d";refine cut (fun δ S=>∃(p:List bn) (gs:List Gap) (u1 u2 u3 u4 u5:Option XV),zW p/\Gaps ps.length gs/\S=[p,gs.map cQ]/\δ=[some (.l 0),some (.d (aH ps)),some (.d (aS os)),some (.d (.int m)),some (.l 1),u1,u2,u3,u4,u5]) (fun N hN=>?_) ?_
 ·walk_at "d";refine zr ai dz (by decide +kernel) fun r p2 r0 r1 ac=>?_;walk_at "d";split
  ·walk_at "n"
   rw[aS];walk_at "d";refine D8 (ps:=ps) (os:=os) [gs.map cQ] rfl ho h8 ac ?_ ?_
   ·intro l u p acc R' l1 l4 hp hk;rw[eR];walk_at "d";refine zr hp yw (fD yw yw) fun r p2 r0 r1 ac=>?_;obtain⟨k,rfl⟩:=gu r0;walk_at "d";exact hk _ k p2 ac yw
   ·intro ks p3 ag hc;walk_at "d"
    walk_at "n"
    have ec:cr (ks.map fun k:Nat=>bw k)=cH ks:=rfl;have eo:cr (os.map aY)=aS os:=rfl;rw[ec,eo];refine xK ho hc h8 ?_;walk_at "d";have cl:=j9 (ps:=ps) (os:=os) (ks:=ks);refine cY (fun i δ S=>∃(p:List bn) (ab:List Gap) (u3 u4 u5:Option XV),zW p/\Gaps ps.length ab/\ab.length=gs.length/\S=[p,ab.map cQ]/\δ=[some (.l 0),some (.d (aH ps)),some (.d (aS os)),some (.d (.int m)),some (.l 1),some (.d (cH ks)),some (.d (aH (chosen ps os ks))),u3,u4,u5]) ⟨p3,gs,_,_,_,ag,ae,rfl,rfl,rfl⟩ ?_ ?_
    ·rintro i d _ _ N' hi ⟨p,ab,u3,u4,u5,hp,aa,hl,rfl,rfl⟩ ah;obtain⟨al,rfl⟩:=fH hi;have il:i<ab.length:=by
      have:i<gs.length:=by simpa using al
      omega
     have hg:=cn il;have e:=bY (f:=cQ) hg;have af:=aa.all _ (bu hg);generalize ab[i]=g at hg e af;walk_at "d"
     walk_at "n"
     simp only[lv];refine⟨_,e,?_⟩;rw[fX];walk_at "d";refine Ag rfl (by rw[cl];exact af.ts.tm3 h8) ?_;unfold spD;walk_at "d";refine⟨_,e,?_⟩;rw[fX];walk_at "d";refine zr hp dz (by decide +kernel) fun r2 p4 r3 r4 ak=>?_;walk_at "d";refine zr ak dz (by decide +kernel) fun r5 p5 r6 r7 aj=>?_;walk_at "d";have lm:=vX (chosen ps os ks) g.ts;refine⟨i,J6 il,ah _ _ ⟨p5,ab.set i ⟨g.ts,dG (chosen ps os ks) g.ts-r2,dP (chosen ps os ks) g.ts+r5⟩,_,_,_,aj,⟨by have:=aa.l1;simpa using this,by have:=aa.l6;simpa using this,fun x mx=>?_⟩,by simpa using hl,by simp only[List.map_set,cQ],rfl⟩⟩;rcases List.mem_or_eq_of_mem_set mx with h|rfl
     ·exact aa.all x h
     ·exact⟨af.ts,by simp only;omega⟩
    ·rintro _ _ ⟨p,ab,u3,u4,u5,hp,aa,hl,rfl,rfl⟩;exact hN _ _ ⟨p,ab,_,_,_,_,_,hp,aa,rfl,rfl⟩
  ·exact hN _ _ ⟨p2,gs,_,_,_,_,_,ac,ae,rfl,rfl⟩
 ·rintro _ _ ⟨p,gs,u1,u2,u3,u4,u5,hp,ae,rfl,rfl⟩;walk_at "d";exact q gs p ae hp
end
section
variable {R:RX}{S:Sto}
theorem Ac{os:List (List Off)}(h8:os.length<=8)(q:R (.d (.list (os.map fun l=>.int l.length))) []):rB [.d (aS os)] [] R:=by
 unfold rB aS;walk_at "d";refine cmp1 (S0:=[]) (fun l:List Off=>.int l.length) rfl os yw ?_ ?_
 ·intro l ml u acc R' hk;rw[eR];walk_at "d";exact hk _
 ·walk_at "d";exact .inl q
end
section
variable {R:RX}
def blk(n i:Nat):List (List Nat):=(fq (n-(i+1))).map fun k=>[i,i+1+k]
end
section
variable {R:RX}
theorem len2{ds:List bn}(h:ds.length=2):∃x y,ds=[x,y]:=by
 match ds,h with
 | [x,y],_=>exact⟨x,y,rfl⟩
end
section
variable {R:RX}{S:Sto}
def HE(ps:List Part)(g:Gap):Bool:=decide (g.hi<dG ps g.ts\/dP ps g.ts<g.lo)
def AY(ps:List Part)(k:Nat)(lo hi:Int):List Part:=ps.set k ((part ps k).1,lo,hi)
inductive Hs:bn->Prop
 |tup {ds:List bn}:(∀x r,ds=x::r->gn x=true)->(∀y∈ds,Hs y)->Hs (.tuple ds)
 |oth {d:bn}:(∀ds,d≠.tuple ds)->Hs d
theorem Hs.hd{x:bn}{r:List bn}(h:Hs (.tuple (x::r))):gn x=true:=by
 cases h with
 |tup h1 h2=>exact h1 x r rfl
 |oth h=>exact absurd rfl (h _)
theorem Hs.item{ds:List bn}(h:Hs (.tuple ds)):∀y∈ds,Hs y:=by
 cases h with
 |tup h1 h2=>exact h2
 |oth h=>exact absurd rfl (h _)
theorem len5{ds:List bn}(h:ds.length=5):∃x y z u v,ds=[x,y,z,u,v]:=by
 match ds,h with
 | [x,y,z,u,v],_=>exact⟨x,y,z,u,v,rfl⟩
def wOf(p:Part):Int:=p.2.2-p.2.1
def IG(ps:List Part)(p:Part):Bool:=ps.all fun x=>decide (wOf x<=wOf p)
def wid(ps:List Part):Nat:=ps.findIdx (IG ps)
noncomputable def pw (gs:List Gap):Nat->List Part->bn
 | 0,_=>.none
 |n+1,ps=>match gs.findIdx? (HE ps)with
  |some i=>.tuple [.str "gap",.int i]
  |none=>.tuple [.str "cut",.int (wid ps),.int ((plo ps (wid ps)+phi ps (wid ps))/2),pw gs n (AY ps (wid ps) (plo ps (wid ps)) ((plo ps (wid ps)+phi ps (wid ps))/2)),pw gs n (AY ps (wid ps) ((plo ps (wid ps)+phi ps (wid ps))/2+1) (phi ps (wid ps)))]
end
section
theorem mP(a b:Int)(x y:List Int):HT.lexLt (a::x) (b::y)=true↔a<b\/a=b/\HT.lexLt x y=true:=by
 rw[HT.lexLt_cons];split
 ·rename_i h;exact⟨fun z=>.inr ⟨h,z⟩,fun z=>z.elim (fun z=>by omega) fun z=>z.2⟩
 ·rename_i h;rw[decide_eq_true_eq];exact⟨fun z=>.inl z,fun z=>z.elim id fun z=>absurd z.1 h⟩
theorem mW(x:List Int):HT.lexLt x []=false:=by cases x<;>rfl
theorem Ef:∀x:List Int,HT.lexLt x x=false
 | []=>rfl
 |a::x=>by
  cases h:HT.lexLt (a::x) (a::x)with
  |false=>rfl
  |true=>
   rcases(mP a a x x).mp h with z|⟨_,z⟩
   ·omega
   ·rw[Ef x]at z;cases z
theorem wL:∀{x y z:List Int},HT.lexLt x y=true->HT.lexLt y z=true->HT.lexLt x z=true
 |x,y,[],_,h=>by rw[mW]at h;cases h
 |x,[],_,h,_=>by rw[mW]at h;cases h
 | [],_::_,_::_,_,_=>rfl
 |a::x,b::y,c::z,h,k=>by
  rw[mP]at h k ⊢;rcases h with h|⟨h,h'⟩<;>rcases k with k|⟨k,k'⟩
  ·exact .inl yw
  ·exact .inl yw
  ·exact .inl yw
  ·exact .inr ⟨yw,wL h' k'⟩
theorem Dw:∀{x y z:List Int},HT.lexLt x y=true->HT.lexLt y z=true->x <+: z->x <+: y
 | [],y,_,_,_,_=>List.nil_prefix
 |a::x,[],_,h,_,_=>by rw[mW]at h;cases h
 |a::x,b::y,[],_,h,_=>by rw[mW]at h;cases h
 |a::x,b::y,c::z,h,k,p=>by
  rw[mP]at h k;rw[List.cons_prefix_cons]at p ⊢;obtain⟨rfl,p⟩:=p;rcases h with h|⟨h,h'⟩<;>rcases k with k|⟨k,k'⟩
  ·omega
  ·omega
  ·omega
  ·exact⟨h,Dw h' k' p⟩
theorem Cb:∀{x y:List Int},x <+: y->HT.lexLt y x=false
 | [],y,_=>mW y
 |a::x,[],p=>by simp at p
 |a::x,b::y,p=>by
  rw[List.cons_prefix_cons]at p;obtain⟨rfl,p⟩:=p;cases h:HT.lexLt (a::y) (a::x)with
  |false=>rfl
  |true=>
   rcases(mP a a y x).mp h with z|⟨_,z⟩
   ·omega
   ·rw[Cb p]at z;cases z
def dH:List (List Int)->Bool
 |x::y::r=>HT.lexLt x y&&!(x.isPrefixOf y)&&dH (y::r)
 |_=>true
def Free(x y:List Int):Prop:=¬ x <+: y/\¬ y <+: x
theorem rR:∀{x:List Int}{B:List (List Int)},dH (x::B)=true->∀y∈B,HT.lexLt x y=true/\¬ x <+: y
 |x,[],_,y,m=>by cases m
 |x,z::r,h,y,m=>by
  simp only[dH,gf,Bool.not_eq_true']at h;obtain⟨⟨h1,h2⟩,h3⟩:=h;have n:¬ x <+: z:=fun p=>by rw[isPrefixOf_iff_prefix.mpr p]at h2;cases h2
  rcases mem_cons.mp m with rfl|m
  ·exact⟨h1,n⟩
  ·have k:=rR h3 y m;exact⟨wL h1 k.1,fun p=>n (Dw h1 k.1 p)⟩
theorem wM:∀{B:List (List Int)},dH B=true->B.Pairwise Free
 | [],_=>.nil
 |x::B,h=>by
  refine .cons (fun y m=>⟨(rR h y m).2,fun p=>?_⟩) (wM ?_)
  ·have:=Cb p;rw[(rR h y m).1]at this;cases this
  ·cases B with
   |nil=>rfl
   |cons z r=>
    simp only[dH,gf]at h;exact h.2
def fil:List Nat->List (List Int)
 | []=>[[]]
 |s::r=>(fq s).flatMap fun k:Nat=>(fil r).map fun z=>(k:Int)::z
theorem qO:∀sz:List Nat,(fil sz).length=aM sz
 | []=>rfl
 |s::r=>by
  have:∀(n:Nat),((fq n).flatMap fun k:Nat=>(fil r).map fun z=>(k:Int)::z).length=n*aM r:=by
   intro n;induction n with
   |zero=>simp
   |succ n ih=>
    rw[range_succ,List.flatMap_append,cx,ih];simp[qO r,succ_mul]
  exact this s
def Bgn:List Nat->List Int->Prop
 |_,[]=>True
 | [],_::_=>False
 |s::r,k::b=>(0<=k/\k<s)/\Bgn r b
theorem uO:∀{sz:List Nat}{z:List Int},z∈fil sz↔z.length=sz.length/\Bgn sz z
 | [],z=>by
  cases z with
  |nil=>simp[fil,Bgn]
  |cons a z=>simp[fil,Bgn]
 |s::r,z=>by
  simp only[fil,List.mem_flatMap,mem_range,mem_map];constructor
  ·rintro⟨k,hk,y,hy,rfl⟩;have:=(uO (sz:=r)).mp hy;exact⟨by simp[this.1],⟨yw,yw⟩,this.2⟩
  ·rintro⟨h1,h2⟩;cases z with
   |nil=>simp at h1
   |cons k z=>
    obtain⟨⟨a,b⟩,c⟩:=h2;exact⟨k.toNat,yw,z,(uO (sz:=r)).mpr ⟨by simpa using h1,c⟩,by rw[Int.toNat_of_nonneg a]⟩
theorem xZ:∀{sz:List Nat}{b:List Int},Bgn sz b->((fil sz).filter fun z=>b.isPrefixOf z).length=aM (sz.drop b.length)
 |sz,[],_=>by
  rw[List.filter_eq_self.mpr (fun _ _=>by simp[List.isPrefixOf])];simp[qO]
 |s::r,k::b,h=>by
  obtain⟨⟨h0,h1⟩,hb⟩:=h;have ih:=xZ (sz:=r) hb;have blk:∀j:Nat,(((fil r).map fun z=>(j:Int)::z).filter fun z=>(k::b).isPrefixOf z).length=if (j:Int)=k then aM (r.drop b.length)else 0:=by
   intro j;rw[List.filter_map,fw];by_cases e:(j:Int)=k
   ·rw[cg e,<- ih];congr 1;apply List.filter_congr;intro z _;simp[List.isPrefixOf,e]
   ·rw[cf e];rw[List.length_eq_zero_iff,List.filter_eq_nil_iff];intro z _;simp[List.isPrefixOf,jg e]
  have all:∀n:Nat,(((fq n).flatMap fun j:Nat=>(fil r).map fun z=>(j:Int)::z).filter fun z=>(k::b).isPrefixOf z).length=if k<n then aM (r.drop b.length)else 0:=by
   intro n;induction n with
   |zero=>rw[cf yw];rfl
   |succ n ih2=>
    rw[range_succ,List.flatMap_append,List.filter_append,cx,ih2];have:=blk n;simp only[List.flatMap_cons,List.flatMap_nil,kn];rw[this];by_cases e1:k<n
    ·rw[cg e1,cf yw,cg yw];rfl
    ·by_cases e2:(n:Int)=k
     ·rw[cf e1,cg e2,cg yw];omega
     ·rw[cf e1,cf e2,cf yw]
  have:=all s;rw[cg h1]at this;exact this
theorem sY{α β:Type}(p:α->β->Bool):∀(A:List α) (B:List β),(A.map fun a=>(B.filter fun b=>p a b).length).sum=(B.map fun b=>(A.filter fun a=>p a b).length).sum
 | [],B=>by
  induction B with
  |nil=>rfl
  |cons b B ih=>simpa using ih
 |a::A,B=>by
  have ih:=sY p A B;rw[fm,sum_cons,ih];induction B with
  |nil=>rfl
  |cons b B ihB=>
   have q:(B.filter fun b=>p a b).length+(B.map fun b=>(A.filter fun a=>p a b).length).sum=(B.map fun b=>((a::A).filter fun a=>p a b).length).sum:=ihB (sY p A B);rw[fm,fm,sum_cons,sum_cons,<- q];by_cases h:p a b=true
   ·simp only[filter_cons,h,if_true,ft];omega
   ·simp only[filter_cons,h,if_false,fg];omega
theorem Ap:∀{l:List Nat},(∀x∈l,x<=1)->(l.sum=l.length↔∀x∈l,x=1)
 | [],_=>by simp
 |a::l,h=>by
  have h1:=h a df;have ih:=Ap (l:=l) fun x m=>h x (cu _ m);have le:l.sum<=l.length:=by
   have:∀{l:List Nat},(∀x∈l,x<=1)->l.sum<=l.length:=by
    intro l;induction l with
    |nil=>simp
    |cons b l ih=>intro h;have:=h b df;have:=ih fun x m=>h x (cu _ m);simp;omega
   exact this fun x m=>h x (cu _ m)
  rw[sum_cons,ft];constructor
  ·intro e x m;rcases mem_cons.mp m with rfl|m
   ·omega
   ·exact ih.mp yw x m
  ·intro e;have:=e a df;have:=ih.mpr fun x m=>e x (cu _ m);omega
theorem sS:∀{B:List (List Int)} (z:List Int),B.Pairwise Free->(B.filter fun b=>b.isPrefixOf z).length<=1
 | [],_,_=>by simp
 |b::B,z,h=>by
  rw[pairwise_cons]at h;by_cases p:b.isPrefixOf z=true
  ·have:B.filter (fun b=>b.isPrefixOf z)=[]:=by
    rw[List.filter_eq_nil_iff];intro c mc pc;have p1:=isPrefixOf_iff_prefix.mp p;have p2:=isPrefixOf_iff_prefix.mp pc;have fr:=h.1 c mc;rcases Nat.le_total b.length c.length with w|w
    ·exact fr.1 (List.prefix_of_prefix_length_le p1 p2 w)
    ·exact fr.2 (List.prefix_of_prefix_length_le p2 p1 w)
   simp[filter_cons,p,this]
  ·simp only[filter_cons,p,if_false,fg];exact sS z h.2
def gS(sz:List Nat)(B:List (List Int)):Nat:=(B.map fun b=>aM (sz.drop b.length)).sum
theorem B7{sz:List Nat}{B:List (List Int)}(hB:∀b∈B,Bgn sz b)(ha:dH B=true):gS sz B=aM sz↔∀z∈fil sz,∃b∈B,b <+: z:=by
 have e1:gS sz B=((fil sz).map fun z=>(B.filter fun b=>b.isPrefixOf z).length).sum:=by
  rw[<- sY (fun(b:List Int) (z:List Int)=>b.isPrefixOf z) B (fil sz)];unfold gS;congr 1;apply kr;intro b mb;exact(xZ (hB b mb)).symm
 have fr:=wM ha;have q:∀x∈(fil sz).map fun z=>(B.filter fun b=>b.isPrefixOf z).length,x<=1:=by
  intro x m;obtain⟨z,_,rfl⟩:=mem_map.mp m;exact sS z fr
 have:=Ap q;rw[fw,qO]at this;rw[e1,this];constructor
 ·intro h z mz;have:=h _ (me mz);cases hf:B.filter fun b=>b.isPrefixOf z with
  |nil=>rw[hf]at this;cases this
  |cons b r=>
   have mb:b∈B.filter fun b=>b.isPrefixOf z:=by rw[hf];exact df
   obtain⟨m1,m2⟩:=mem_filter.mp mb;exact⟨b,m1,isPrefixOf_iff_prefix.mp m2⟩
 ·intro h x m;obtain⟨z,mz,rfl⟩:=mem_map.mp m;obtain⟨b,mb,p⟩:=h z mz;have le:=sS z fr;have:0<(B.filter fun b=>b.isPrefixOf z).length:=List.length_pos_of_mem (mem_filter.mpr ⟨mb,isPrefixOf_iff_prefix.mpr p⟩);omega
end
section
variable {R:RX}{S:Sto}
abbrev Trm:=Int×Int
def wys(l:List Trm):List Trm:=(0,0)::l
def szD(sz:List Nat):bn:=.list (sz.map fun n:Nat=>.int n)
def way(l:List Trm)(k:Int):Trm:=(wys l).getD k.toNat (0,0)
theorem E5:∀{sz:List Nat}{b:List Int}{i:Nat}{k:Int}{s:Nat},Bgn sz b->b[i]?=some k->sz[i]?=some s->0<=k/\k<s
 |_,[],_,_,_,_,e,_=>by simp at e
 | [],_::_,_,_,_,h,_,_=>by cases h
 |s0::sz,k0::b,0,k,s,h,e1,e2=>by
  simp at e1 e2;subst e1 e2;exact h.1
 |s0::sz,k0::b,i+1,k,s,h,e1,e2=>E5 h.2 (by simpa using e1) (by simpa using e2)
theorem tP:∀{sz:List Nat}{b:List Int},Bgn sz b->b.length<=sz.length
 |_,[],_=>lc _
 | [],_::_,h=>by cases h
 |s::sz,k::b,h=>by have:=tP h.2;simp;omega
theorem Ij{α:Type}(l:List α)(x:α):atI (l++[x]) (-1)=some x:=by
 have h:ixN (l++[x]).length (-1)=some l.length:=by
  unfold ixN;rw[cx,gr,cf yw,cg yw];congr 1;omega
 unfold atI;rw[h];simp
theorem pR{α:Type}{ds:List α}{k:Nat}(h:k<=ds.length):aL ds (some (k:Int)) none=ds.drop k:=by
 have e1:HT.sIx ds.length 0 (some (k:Int))=k:=by rw[HT.sIx_nat];omega
 have e2:HT.sIx ds.length ds.length none=ds.length:=rfl;unfold aL;rw[e1,e2,ls yv]
def Sz(sz:List Nat):Prop:=sz.length<=8/\∀s∈sz,s<=4
theorem BA(l:List Nat)(x:Nat):aM (l++[x])=aM l*x:=by
 rw[uQ];simp[aM]
theorem Dl{sz:List Nat}{ds:List bn}(hz:Sz sz)(hl:ds.length<=sz.length)(q:R (.d (.int (aM (sz.drop ds.length)))) []):nH [.d (szD sz),.d (.tuple ds)] [] R:=by
 obtain⟨h8,h4⟩:=hz;unfold nH szD;walk_at "d"
 walk_at "n"
 walk_at "n"
 rw[pR (by simpa using hl),<- map_drop];refine cY (fun i δ S=>∃(u:Option XV),S=[]/\δ=[some (.d (.list (sz.map fun n:Nat=>bw n))),some (.d (.tuple ds)),some (.d (.int (aM ((sz.drop ds.length).take i):Nat))),u]) ⟨none,rfl,by simp[aM]⟩ ?_ ?_
 ·rintro i d _ _ N hi ⟨u,rfl,rfl⟩ hN;obtain⟨x,hx,rfl⟩:=iH hi;walk_at "d";have mx:x∈sz:=lu (bu hx);have x4:=h4 x mx;refine⟨HM yw yw,hN _ _ ⟨some (.d (.int x)),rfl,?_⟩⟩;rw[ke,hx];simp[BA]
 ·rintro _ _ ⟨u,rfl,rfl⟩;rw[fw,oy];walk_at "d";exact q
def chN(n:Nat):bn->Bool
 | .int k=>decide (0<=k/\k<n)
 |_=>false
def bgN(sz:List Nat):bn->Bool
 | .tuple ds=>decide (ds.length<=sz.length)&&((ds.zip sz).map fun q=>chN q.2 q.1).all id
 |_=>false
theorem mK{sz:List Nat}{ds:List bn}:bgN sz (.tuple ds)=(decide (ds.length<=sz.length)&&((ds.zip sz).map fun q=>chN q.2 q.1).all id):=rfl
theorem At{d:bn}(q:R (.d (.bool (bU d))) []):iZ [.d d] [] R:=by
 unfold iZ;cases d<;>(walk_at "e";exact q)
theorem Gw{sz:List Nat}{d:bn}(hz:Sz sz)(q:R (.d (.bool (bgN sz d))) []):uD [.d (szD sz),.d d] [] R:=by
 obtain⟨h8,h4⟩:=hz;unfold uD szD;cases d with
 |tuple ds=>
  walk_at "d"
  walk_at "n"
  by_cases h:ds.length<=sz.length
  ·rw[cf yw];walk_at "d";rw[mK,ge h]at q;have ez:cZ ds (sz.map fun n:Nat=>bw n)=(ds.zip sz).map fun q=>.tuple [q.1,.int (q.2:Nat)]:=by
    have:=h9 (fun d:bn=>d) (fun n:Nat=>bw n) ds sz
    rwa [map_id']at this
   rw[ez];refine cmp2 (S0:=[]) (fun q:bn×Nat=>.bool (chN q.2 q.1)) rfl (ds.zip sz) (by simp;omega) ?_ ?_
   ·intro x mx u v acc R' hk;obtain⟨d,l⟩:=x;walk_at "d";refine At ?_;cases d with
    |int k=>
     simp only[bU];walk_at "d";have e0:chN l (.int k)=decide (0<=k/\k<l):=rfl;by_cases h0:0<=k
     ·rw[cg h0];have:=hk (some (.d (.int k))) (some (.d (.int l)));rw[e0]at this;simpa[h0]using this
     ·rw[cf h0];have:=hk (some (.d (.int k))) (some (.d (.int l)));rw[e0]at this;simpa[h0]using this
    |none=>exact hk _ _
    |bool b=>exact hk _ _
    |str b=>exact hk _ _
    |list b=>exact hk _ _
    |dict b=>exact hk _ _
    |tuple b=>exact hk _ _
   ·walk_at "d";refine⟨(ds.zip sz).map fun q=>chN q.2 q.1,by rw[jb];rfl,?_⟩;exact q
  ·rw[cg yw];rw[mK,dw h]at q;exact q
 |none=>(walk_at "d";walk_at "n";exact q)
 |bool b=>(walk_at "d";walk_at "n";exact q)
 |int b=>(walk_at "d";walk_at "n";exact q)
 |str b=>(walk_at "d";walk_at "n";exact q)
 |list b=>(walk_at "d";walk_at "n";exact q)
 |dict b=>(walk_at "d";walk_at "n";exact q)
def bgO:bn->List Int
 | .tuple ds=>ds.map fun d=>match d with | .int k=>k|_=>0
 |_=>[]
theorem AR:∀{sz:List Nat}{ds:List bn},ds.length<=sz.length->((ds.zip sz).map fun q=>chN q.2 q.1).all id=true->∃b:List Int,ds=b.map bw/\Bgn sz b
 |sz,[],_,_=>⟨[],rfl,by cases sz<;>trivial⟩
 | [],_::_,h,_=>by simp at h
 |s::sz,d::ds,h,k=>by
  simp only[qm,fm,all_cons,gf,id]at k;obtain⟨b,rfl,hb⟩:=AR (by simpa using h) k.2;cases d with
  |int i=>exact⟨i::b,rfl,qp k.1,hb⟩
  |_=>cases k.1
theorem uR{sz:List Nat}{d:bn}:bgN sz d=true↔∃b,d=aC b/\Bgn sz b:=by
 constructor
 ·intro h;cases d with
  |tuple ds=>
   rw[mK,gf,decide_eq_true_eq]at h;obtain⟨b,rfl,hb⟩:=AR h.1 h.2;exact⟨b,rfl,hb⟩
  |_=>cases h
 ·rintro⟨b,rfl,hb⟩;have hl:=tP hb;unfold aC;rw[mK,gf,decide_eq_true_eq];refine⟨by simpa using hl,?_⟩;rw[ki];intro x m;obtain⟨q,mq,rfl⟩:=mem_map.mp m;obtain⟨i,hi⟩:=mem_iff_getElem?.mp mq;rw[lg]at hi;obtain⟨k,hk,e⟩:=iH hi.1;rw[e];exact ge (E5 hb hk hi.2)
theorem lQ(b:List Int):bgO (aC b)=b:=by
 show (b.map bw).map _=b;rw[jb];exact map_id' b
def iU(sz:List Nat)(ds:List bn):Bool:=ds.all (bgN sz)&&(dH (ds.map bgO)&&decide (gS sz (ds.map bgO)=aM sz))
theorem Cc:∀B:List (List Int),dH B=((B.zip B.tail).map fun q=>HT.lexLt q.1 q.2&&!(q.1.isPrefixOf q.2)).all id
 | []=>rfl
 | [x]=>rfl
 |x::y::r=>by
  have:=Cc (y::r);simp only[dH,this,List.tail_cons,qm,fm,all_cons,id]
theorem HY{x y:List Int}:x.isPrefixOf y=decide (y.take x.length=x):=by
 have:x.isPrefixOf y=true↔y.take x.length=x:=by
  rw[isPrefixOf_iff_prefix,List.prefix_iff_eq_take];exact eq_comm
 cases h:x.isPrefixOf y with
 |true=>rw[ge (this.mp h)]
 |false=>
  rw[dw];intro e;rw[this.mpr e]at h;cases h
theorem vK{α:Type}{ds:List α}{k:Nat}:aL ds none (some (k:Int))=ds.take k:=by
 have e1:HT.sIx ds.length ds.length (some (k:Int))=min k ds.length:=by rw[HT.sIx_nat]
 have e2:HT.sIx ds.length 0 none=0:=rfl;unfold aL;rw[e1,e2];rcases Nat.le_total k ds.length with h|h
 ·rw[Nat.min_eq_left h];simp
 ·rw[Nat.min_eq_right h,ls yv,ls h];simp
theorem cmp1dT{n:Nat}{S0:Sto}{g:DG}{te:DE}{fin:Sto->Prop}{caps:XE}(f:bn->bn)(hn:S0.length=n)(l:List bn){u:Option XV}(hl:l.length<=1000)
  (el:∀x∈l,∀(u:Option XV) acc (R:XE->RX),(∀u',R (u'::caps) (.d (f x)) (S0++[acc]))->g (.d x) (u::caps) (S0++[acc]) fun τ1 S1=>te τ1 S1 (R τ1)) (hf:fin (S0++[l.map f])):bE n g aG te fin l (u::caps) (S0++[[]]):=by
 have:=cmp1 (h:=fun d:bn=>d) (g:=g) (te:=te) (fin:=fin) (caps:=caps) (u:=u) f hn l hl el hf
 rwa [map_id']at this
theorem cmp2dT{n:Nat}{S0:Sto}{g:DG}{te:DE}{fin:Sto->Prop}{caps:XE}(f:bn->bn)(hn:S0.length=n)(l:List bn){u v:Option XV}(hl:l.length<=1000)
  (el:∀x∈l,∀(u v:Option XV) acc (R:XE->RX),(∀u' v',R (u'::v'::caps) (.d (f x)) (S0++[acc]))->g (.d x) (u::v::caps) (S0++[acc]) fun τ1 S1=>te τ1 S1 (R τ1)) (hf:fin (S0++[l.map f])):bE n g aG te fin l (u::v::caps) (S0++[[]]):=by
 have:=cmp2 (h:=fun d:bn=>d) (g:=g) (te:=te) (fin:=fin) (caps:=caps) (u:=u) (v:=v) f hn l hl el hf
 rwa [map_id']at this
theorem JE{α:Type}:∀ds:List α,aL ds (some 1) none=ds.tail
 | []=>by
  unfold aL;simp
 |x::r=>by
  have:=pR (ds:=x::r) (k:=1) yv;rw[List.drop_one]at this;exact this
theorem Rb'{b c:Bool}{S:Sto}(q:R (.d (.bool b)) S)(e:b=c):R (.d (.bool c)) S:=e▸q
theorem Hy{sz:List Nat}{ds:List bn}(hz:Sz sz)(hl:ds.length<=900)(q:R (.d (.bool (iU sz ds))) []):rT [.d (szD sz),.d (.list ds)] [] R:=by
 unfold rT;walk_at "d"
 walk_at "n"
 refine cmp1dT (S0:=[]) (fun d=>.bool (bgN sz d)) rfl ds yw ?_ ?_
 ·intro x mx u acc R' hk;walk_at "d";refine Gw hz ?_;walk_at "d";exact hk _
 walk_at "d";refine⟨ds.map (bgN sz),by rw[jb];rfl,?_⟩;have ea:(ds.map (bgN sz)).all id=ds.all (bgN sz):=by rw[all_map];rfl
 rw[ea];cases h:ds.all (bgN sz)with
 |false=>
  walk_at "d";unfold iU at q;rw[h]at q;exact q
 |true=>
  have hB:∃B:List (List Int),ds=B.map aC/\∀b∈B,Bgn sz b:=by
   rw[ki]at h
   clear ea q hl
   induction ds with
   |nil=>exact⟨[],rfl,fun b m=>by cases m⟩
   |cons d ds ih=>
    obtain⟨b,rfl,hb⟩:=uR.mp (h d df);obtain⟨B,rfl,hB⟩:=ih fun x m=>h x (cu _ m);exact⟨b::B,rfl,fun x m=>(mem_cons.mp m).elim (fun e=>e▸hb) (hB x)⟩
  obtain⟨B,rfl,hB⟩:=hB;have eo:(B.map aC).map bgO=B:=by
   rw[jb]
   conv=>rhs;rw[<- map_id B]
   exact kr fun b _=>lQ b
  unfold iU at q;rw[h,eo,js]at q;rw[fw]at hl;walk_at "d"
  walk_at "n"
  rw[JE,<- List.map_tail,h9];refine cmp2 (S0:=[]) (fun q:List Int×List Int=>.bool (HT.lexLt q.1 q.2&&!(q.1.isPrefixOf q.2))) rfl (B.zip B.tail) (by simp;omega) ?_ ?_
  ·intro x mx u v acc R' hk;unfold aC;walk_at "d";refine⟨x.1,rfl,x.2,rfl,?_⟩;cases hx:HT.lexLt x.1 x.2 with
   |false=>
    have:=hk (some (.d (.tuple (x.1.map bw)))) (some (.d (.tuple (x.2.map bw))));rw[hx]at this;exact this
   |true=>
    have:=hk (some (.d (.tuple (x.1.map bw)))) (some (.d (.tuple (x.2.map bw))));rw[hx,js,HY]at this;walk_at "d";rw[vK,<- map_take];have e:=C8 (x.2.take x.1.length) x.1;unfold aC at e;rw[e];exact⟨CV _,CV _,this⟩
  walk_at "d";refine⟨(B.zip B.tail).map fun q=>HT.lexLt q.1 q.2&&!(q.1.isPrefixOf q.2),by rw[jb];rfl,?_⟩;rw[<- Cc];cases ha:dH B with
  |false=>
   rw[ha]at q;walk_at "d";exact q
  |true=>
   rw[ha,js]at q;walk_at "d";refine cmp1 (S0:=[]) (fun b:List Int=>.int (aM (sz.drop b.length):Nat)) rfl B yw ?_ ?_
   ·intro b mb u acc R' hk;have bl:=tP (hB b mb);unfold aC;walk_at "d";refine Dl hz (by simpa using bl) ?_;rw[fw];walk_at "d";exact hk _
   walk_at "d";refine⟨B.map fun b=>((aM (sz.drop b.length):Nat):Int),by rw[jb];rfl,?_⟩;refine Dl (ds:=[]) hz (lc _) ?_;walk_at "d";rw[drop_zero];have e:(B.map fun b=>((aM (sz.drop b.length):Nat):Int)).sum=((gS sz B:Nat):Int):=by
    unfold gS
    clear q hB hl ea h eo ha
    induction B with
    |nil=>rfl
    |cons b B ih=>simp[ih]
   rw[e];refine Rb' q ?_;simp only[decide_eq_decide];omega
def t2:bn->Bool
 | .tuple [_,_]=>true
 |_=>false
def fs1:bn->bn
 | .tuple (a::_)=>a
 |_=>.none
def sn1:bn->bn
 | .tuple [_,b]=>b
 |_=>.none
theorem tE{d:bn}(h:t2 d=true):d=.tuple [fs1 d,sn1 d]:=by
 unfold t2 at h;split at h
 ·rfl
 ·cases h
def arB(sz:List Nat):bn->Bool
 | .list rows=>rows.all t2&&iU sz (rows.map fs1)
 |_=>false
theorem pZ{sz:List Nat}{q:List bn}:arB sz (.list q)=(q.all t2&&iU sz (q.map fs1)):=rfl
theorem Fy{d:bn}{T:RX}(q:T (.d (.bool (t2 d))) S):dR (dCB cO (zc (zh 0) (zc (dO (.ty "tuple")) zq))) (dOp aV (dCB aI (zc (zh 0) zq)) (dC (.int 2))) [some (.d d)] S T:=by
 cases d with
 |tuple ds=>
  walk_at "d"
  match ds,q with
  | [],q=>exact q
  | [_],q=>exact q
  | [_,_],q=>exact q
  |_::_::_::r,q=>
   rw[dw (by simp;omega)];exact q
 |none=>(walk_at "d";exact q)
 |bool b=>(walk_at "d";exact q)
 |int b=>(walk_at "d";exact q)
 |str b=>(walk_at "d";exact q)
 |list b=>(walk_at "d";exact q)
 |dict b=>(walk_at "d";exact q)
theorem IR{sz:List Nat}{d:bn}(hz:Sz sz)(hl:∀rows,d=.list rows->rows.length<=900)(q:R (.d (.bool (arB sz d))) []):tO [.d (szD sz),.d d] [] R:=by
 unfold tO;cases d with
 |list rows=>
  have hl:=hl rows rfl;walk_at "d"
  walk_at "n"
  walk_at "n"
  refine cmp1dT (S0:=[]) (fun d=>.bool (t2 d)) rfl rows yw ?_ ?_
  ·intro x mx u acc R' hk;show dR _ _ [some (.d x)] _ _;exact Fy (hk _)
  walk_at "d";refine⟨rows.map t2,by rw[jb];rfl,?_⟩;have ea:(rows.map t2).all id=rows.all t2:=by rw[all_map];rfl
  rw[ea];cases h:rows.all t2 with
  |false=>
   walk_at "d";rw[pZ,h]at q;exact q
  |true=>
   rw[pZ,h,js]at q;rw[ki]at h;walk_at "d";refine cmp1dT (S0:=[]) fs1 rfl rows yw ?_ ?_
   ·intro x mx u acc R' hk;have:=hk (some (.d x));rw[tE (h x mx)]at this ⊢;walk_at "d";exact this
   walk_at "d";refine Hy hz (by simpa using hl) ?_;walk_at "d";exact q
 |none=>(walk_at "d";walk_at "n";exact q)
 |bool b=>(walk_at "d";walk_at "n";exact q)
 |int b=>(walk_at "d";walk_at "n";exact q)
 |str b=>(walk_at "d";walk_at "n";exact q)
 |tuple b=>(walk_at "d";walk_at "n";exact q)
 |dict b=>(walk_at "d";walk_at "n";exact q)
def jF:bn->Bool
 | .tuple [.str x]=>decide (x = "dear")
 |_=>false
theorem J7(w:bn):jj w (.tuple [.str "dear"])=jF w:=by
 cases w with
 |tuple ds=>
  match ds with
  | []=>rfl
  | [x]=>
   show (jj x (.str "dear")&&true)=_;rw[Bool.and_true];cases x<;>rfl
  |x::y::r=>
   show (jj x (.str "dear")&&false)=_;rw[Bool.and_false];cases x<;>rfl
 |_=>rfl
def eU(gs:List Gap)(k:Int):Gap:=gs.getD k.toNat ⟨[],0,0⟩
structure WT(w:bn):Prop where
 sh:gn w=true
 el:∀ds,w=.tuple ds->∀x∈ds,gn x=true
theorem CK{gs:List Gap}{k:Int}(h0:0<=k)(h1:k<gs.length):atI (gs.map cQ) k=some (cQ (eU gs k))/\eU gs k∈gs:=by
 obtain⟨n,rfl⟩:=gu h0;have hn:n<gs.length:=yw
 have e:eU gs (n:Int)=gs[n]:=by simp[eU,fu,cn hn]
 rw[e];exact⟨bY (cn hn),qx hn⟩
structure ThB(d:bn):Prop where
 len:∀rows,d=.list rows->rows.length<=900
 why:∀rows,d=.list rows->∀r∈rows,∀b w,r=.tuple [b,w]->WT w
end
section
variable {R:RX}{S:Sto}
theorem xJ{d:bn}(q:R (.d (.bool (bU d))) []):mC [.d d] [] R:=by
 unfold mC;cases d<;>(walk_at "e";exact q)
theorem Ee:∀(sz:List Nat) (F:List (List Int)),sz.foldl (fun F s=>F.flatMap fun a=>(fq s).map fun k:Nat=>a++[(k:Int)]) F=F.flatMap fun a=>(fil sz).map fun z=>a++z
 | [],F=>by simp[fil]
 |s::sz,F=>by
  rw[qw,Ee sz,List.flatMap_assoc];congr 1;funext a;simp only[fil,List.flatMap_map,List.map_flatMap,jb];congr 1;funext k;congr 1;funext z;simp
theorem AF(sz:List Nat):sz.foldl (fun F s=>F.flatMap fun a=>(fq s).map fun k:Nat=>a++[(k:Int)]) [[]]=fil sz:=by
 rw[Ee];simp
def stp(F:List (List Int))(s:Nat):List (List Int):=F.flatMap fun a=>(fq s).map fun k:Nat=>a++[(k:Int)]
theorem HU(l:List Nat)(x:Nat):(l++[x]).foldl stp [[]]=stp (l.foldl stp [[]]) x:=by simp
theorem FP(l:List Nat):(l.foldl stp [[]]).length=aM l:=by
 have:=AF l;rw[<- qO,<- this];rfl
theorem KR{sz:List Nat}(h:∀s∈sz,1<=s)(i:Nat):aM (sz.take i)<=aM sz:=by
 have:=uQ (sz.take i) (sz.drop i);rw[ky]at this;rw[this];exact Nat.le_mul_of_pos_right _ (qS fun x m=>h x (lu m))
theorem DH{g:DG}{b:DSm}{E:DEndsM}:∀{ds:List bn}{δ:XE}{S:Sto}{M:DM} (I:Nat->XE->Sto->DM->Prop),I 0 δ S M ->
  (∀i d δ S M (N:XE->Sto->DM->Prop),ds[i]?=some d->I i δ S M->(∀ δ' S' M',I (i+1) δ' S' M'->N δ' S' M')->g (.d d) δ S fun δ1 S1=>b { nx:=N,ct:=N,bk:=E.nx,rt:=E.rt } δ1 S1 M) ->
  (∀ δ S M,I ds.length δ S M->E.nx δ S M)->i9 g b ds E δ S M
 | [],δ,S,M,I,h0,_,fin=>fin δ S M h0
 |d::ds,δ,S,M,I,h0,step,fin=>by
  show g (.d d) δ S fun δ1 S1=>b _ δ1 S1 M;refine step 0 d δ S M _ rfl h0 fun δ' S' M' h1=>?_;exact DH (ds:=ds) (fun i=>I (i+1)) h1 (fun i e δ S M N hi=>step (i+1) e δ S M N (by simpa using hi)) fin
theorem Ii{m:List (List Key×bn)}{k:List Key}{v:bn}:(ptA m k v).length<=m.length+1:=by
 unfold ptA;split<;>simp
theorem wB(b:List Int):fS (aC b)=some (b.map kc):=by
 show iQ (b.map bw)=_;induction b with
 |nil=>rfl
 |cons x b ih=>simp[iQ,fI,ih]
def whG(w:bn):Prop:=w=.tuple [.str "dear"]\/∃k:Int,w=.tuple [.str "off",.int k]
theorem Bw:∀{sz:List Nat}{b:List Int}{s:Nat}{k:Int},Bgn sz b->sz[b.length]?=some s->0<=k->k<s->Bgn sz (b++[k])
 | [],[],_,_,_,e,_,_=>by simp at e
 |s0::sz,[],s,k,_,e,k0,k1=>by
  simp at e;subst e;exact⟨⟨k0,k1⟩,by cases sz<;>trivial⟩
 | [],_::_,_,_,h,_,_,_=>by cases h
 |s0::sz,x::b,s,k,h,e,k0,k1=>⟨h.1,Bw h.2 (by simpa using e) k0 k1⟩
def RT(d:bn):Prop:=∀b w,d=.tuple [b,w]->WT w
theorem sC{w:bn}(h:whG w):WT w:=by
 rcases h with rfl|⟨k,rfl⟩
 ·exact⟨by decide +kernel,fun ds e x m=>by cases e;rw[mem_singleton.mp m];decide +kernel⟩
 ·exact⟨(lB (CB (n:=0) ⟨by decide +kernel,by decide +kernel⟩ fG)).ok,fun ds e x m=>by
   cases e;simp only[ix,gk,or_false]at m;rcases m with rfl|rfl
   ·decide +kernel
   ·rfl⟩
theorem eJ{b w:bn}(h:WT w):RT (.tuple [b,w]):=fun b' w' e=>by cases e;exact h
theorem fU{q:List bn}(hl:q.length<=900)(h:∀r∈q,RT r):ThB (.list q):=⟨fun _ e=>by cases e;exact hl,fun _ e r m b w eq=>by cases e;exact h r m b w eq⟩
theorem qY{d:bn}(h:∀q,d≠.list q):ThB d:=⟨fun q e=>absurd e (h q),fun q e=>absurd e (h q)⟩
theorem mF{α:Type}{xs:List α}{lo hi:Option Int}{x:α}(m:x∈aL xs lo hi):x∈xs:=by
 unfold aL at m;exact lu (nq m)
end
section
variable {R:RX}{S:Sto}
def szO(os:List (List Off)):List Nat:=os.map (·.length)
def kN(ks:List Int):List Nat:=ks.map Int.toNat
theorem Ep:∀{sz:List Nat}{z:List Int},Bgn sz z->(kN z).map (fun k:Nat=>(k:Int))=z/\z.length<=sz.length/\∀(i:Nat) k s,z[i]?=some k->sz[i]?=some s->k.toNat<s
 |_,[],_=>⟨rfl,lc _,fun i k s e=>by simp at e⟩
 | [],_::_,h=>h.elim
 |s::sz,k::z,h=>by
  obtain⟨⟨h0,h1⟩,h2⟩:=h;obtain⟨e1,e2,e3⟩:=Ep h2;refine⟨?_,by simp;omega,fun i k' s' q1 q2=>?_⟩
  ·show ((k.toNat:Nat):Int)::(kN z).map (fun k:Nat=>(k:Int))=k::z;rw[e1,Int.toNat_of_nonneg h0]
  ·cases i with
   |zero=>
    cases q1;cases q2;omega
   |succ i=>exact e3 i k' s' q1 q2
theorem G3{ks:List Int}(h:(kN ks).map (fun k:Nat=>(k:Int))=ks):aC ks=cH (kN ks):=by
 unfold aC cH
 conv=>lhs;rw[<- h]
 rw[jb];rfl
structure OC(ps:List Part)(os:List (List Off)):Prop extends Offs ps os where
 h8:ps.length<=8
 few:aM (szO os)<=256
 nest:∀(i:Nat) l,os[i]?=some l->∀(j:Nat) o o',l[j]?=some o->l[j+1]?=some o'->o.1<=o'.1/\o'.2.1<=o.2.1
theorem OC.sz{ps:List Part}{os:List (List Off)}(h:OC ps os):Sz (szO os)/\∀s∈szO os,1<=s:=by
 have hl:=h.len;have h8:=h.h8;have ok:∀l∈os,1<=l.length/\l.length<=4:=fun l m=>by
  obtain⟨i,hi⟩:=mem_iff_getElem?.mp m;have il:=(List.getElem?_eq_some_iff.mp hi).1;have:=h.ok i _ l (iO yw) hi;exact⟨this.l1,this.l4⟩
 refine⟨⟨by simp[szO];omega,fun s m=>?_⟩,fun s m=>?_⟩
 ·obtain⟨l,ml,rfl⟩:=mem_map.mp m;exact(ok l ml).2
 ·obtain⟨l,ml,rfl⟩:=mem_map.mp m;exact(ok l ml).1
theorem Hd(os:List (List Off)):(os.map fun l=>bw (l.length:Nat))=(szO os).map fun n:Nat=>.int n:=by
 unfold szO;rw[jb];rfl
theorem KM{ps:List Part}{os:List (List Off)}(h:OC ps os)(q:R (.d (.list ((fil (szO os)).map aC))) []):uH [.d (aS os)] [] R:=by
 obtain⟨⟨h8,h4⟩,h1⟩:=h.sz;have l8:os.length<=8:=by have:=h.len;have:=h.h8;omega
 unfold uH aS;walk_at "d"
 walk_at "n"
 walk_at "n"
 refine cY (fun i δ S=>∃(u1 u2 u3:Option XV),S=[]/\δ=[some (.d (.tuple (os.map aY))),some (.d (.list ((((szO os).take i).foldl stp [[]]).map aC))),u1,u2,u3]) ⟨_,_,_,rfl,rfl⟩ ?_ ?_
 ·rintro i d _ _ N hi ⟨u1,u2,u3,rfl,rfl⟩ hN;obtain⟨l,hl,rfl⟩:=iH hi;have es:(szO os)[i]?=some l.length:=by unfold szO;rw[im,hl];rfl
  have n4:=h4 _ (bu es);have pl:=KR (sz:=szO os) h1 (i+1);have pf:=h.few;rw[ke,es]at pl;simp only[Option.toList_some]at pl;rw[BA]at pl;generalize hF:((szO os).take i).foldl stp [[]]=F;have lF:F.length=aM ((szO os).take i):=by rw[<- hF,FP]
  rw[eR];walk_at "d"
  walk_at "n"
  walk_at "n"
  refine cY (fun j δ S=>∃(u3:Option XV),S=[(stp (F.take j) l.length).map aC]/\δ=[some (.d (.tuple (os.map aY))),some (.d (.list (F.map aC))),some (.d (.tuple (l.map bB))),some (.l 0),u3]) ⟨_,by simp[stp],rfl⟩ ?_ ?_
  ·rintro j d _ _ N hj ⟨u3,rfl,rfl⟩ hN;obtain⟨a,ha,rfl⟩:=iH hj;have jl:j<F.length:=(List.getElem?_eq_some_iff.mp ha).1;have e1:stp (F.take (j+1)) l.length=stp (F.take j) l.length++(fq l.length).map fun k:Nat=>a++[(k:Int)]:=by
    rw[ke,ha];simp[stp]
   have e2:(stp (F.take j) l.length).length=j*l.length:=by
    unfold stp;rw[B4 (n:=l.length) (fun x _=>by simp),nz];rw[Nat.min_eq_left yw]
   have e3:j*l.length<=256:=jn (Nat.mul_le_mul_right _ yw) (jn pl pf);have ei:f7 0 ((l.length:Int)).toNat=(fq l.length).map fun k:Nat=>bw (0+(k:Int)):=by
    rw[show ((l.length:Int)).toNat=l.length by omega];simp[f7]
   unfold aC;walk_at "d";rw[ei];refine cmp1 (S0:=[_]) (fun k:Nat=>aC (a++[(k:Int)])) rfl (fq l.length) (by simp;omega) ?_ ?_
   ·intro k mk u acc R' hk;have:=hk (some (.d (.int (0+(k:Int)))));unfold aC at this;walk_at "d";have al:a.length<=8:=by
     have ea:F=fil ((szO os).take i):=by rw[<- hF];exact AF _
     have ma:a∈fil ((szO os).take i):=by rw[<- ea];exact bu ha
     have:=(uO.mp ma).1;simp[szO]at this;omega
    refine⟨yw,?_⟩;simpa using this
   ·walk_at "d";rw[e2,List.length_range];refine⟨yw,hN _ _ ⟨_,?_,rfl⟩⟩;rw[e1,map_append,jb];rfl
  ·rintro _ _ ⟨u3,rfl,rfl⟩;rw[fw,oy];refine⟨[],_,rfl,_,rfl,?_⟩;have e5:((szO os).take (i+1)).foldl stp [[]]=stp F l.length:=by
    rw[ke,es,<- hF];exact HU _ _
   exact hN _ _ ⟨_,_,_,rfl,by rw[e5];rfl⟩
 ·rintro _ _ ⟨u1,u2,u3,rfl,rfl⟩;rw[fw,show os.length=(szO os).length by simp[szO],oy];walk_at "d";have:=AF (szO os);rw[<- this]at q;exact q
def pcO(os:List (List Off))(ks:List Nat):Int:=((os.zip ks).map fun q=>(q.1.getD q.2 (0,0,0)).2.2).sum
theorem Ge(ks:List Int)(i:Nat):(kN ks).getD i 0=(ks.getD i 0).toNat:=by
 unfold kN;simp only[fu,im];cases ks[i]?<;>simp
def bD:Option (List Int)->bn
 |none=>.none
 |some b=>aC b
def Nst(l:List Off):Prop:=∀(j:Nat) o o',l[j]?=some o->l[j+1]?=some o'->o.1<=o'.1/\o'.2.1<=o.2.1
theorem L4{o:Off}:Nst [o]:=fun j a b e1 e2=>by simp at e2
theorem Nst.snoc{q:List Off}{o n:Off}(h:Nst (q++[o]))(hn:o.1<=n.1/\n.2.1<=o.2.1):Nst (q++[o]++[n]):=fun j a b e1 e2=>by
 have hl:=(List.getElem?_eq_some_iff.mp e2).1;simp only[cx,gr]at hl;by_cases hj:j+1<(q++[o]).length
 ·rw[fk yw]at e1;rw[fk hj]at e2;exact h j a b e1 e2
 ·simp only[cx,gr]at hj;have ej:j=q.length:=yw
  subst ej;simp at e1 e2;subst e1 e2;exact hn
structure Ofn(p:Part)(l:List Off):Prop extends Ofp p l where
 nst:Nst l
 pos:∀o∈l,0<=o.2.2
structure OffN(ps:List Part)(os:List (List Off)):Prop where
 len:os.length=ps.length
 ok:∀(i:Nat) p l,ps[i]?=some p->os[i]?=some l->Ofn p l
theorem OffN.offs{ps:List Part}{os:List (List Off)}(h:OffN ps os):Offs ps os:=⟨h.len,fun i p l e1 e2=>(h.ok i p l e1 e2).toOfp⟩
theorem OffN.oc{ps:List Part}{os:List (List Off)}(h:OffN ps os)(h8:ps.length<=8)(few:aM (szO os)<=256):OC ps os:=
 ⟨h.offs,h8,few,fun i l e=>(h.ok i _ l (iO (by have:=(List.getElem?_eq_some_iff.mp e).1;have:=h.len;omega)) e).nst⟩
theorem JK{p:List bn}{ps:List Part}(hp:zW p)(hd:Drw ps)(q:∀os p',OffN ps os->zW p'->R (.d (aS os)) [p']):t9 [.l 0,.d (aH ps)] [p] R:=by
 have h8:=hd.l8;unfold t9;walk_at "d"
 walk_at "n"
 walk_at "n"
 refine⟨⟨by decide,by decide,by decide⟩,?_⟩;refine zr hp dz (by decide +kernel) fun r p1 r0 r1 aj=>?_;obtain⟨d,ed,ae,rfl,g0,gb⟩:=gH (P:=fun d=>∃n:Int,d=.int n/\0<n/\n.natAbs.log2<9000) (ds:=[bw 4,bw 4,bw 4,bw (10 ^ 50)]) r0 r1 (by
  intro d m;simp only[ix,gk,or_false]at m;rcases m with rfl|rfl|rfl|rfl<;>exact⟨_,rfl,by decide +kernel,by decide +kernel⟩)
 walk_at "d";refine⟨_,ed,?_⟩;walk_at "d";refine seq1 ?_;rw[aH];walk_at "d";refine cY (fun i δ S=>∃(p:List bn) (os:List (List Off)) (T:Sto) (u1 u2 u3 u4 u5 u6 u7 u8 u9 ac:Option XV),zW p/\os.length=i/\(∀(j:Nat) p l,ps[j]?=some p->os[j]?=some l->Ofn p l)/\S=p::os.map aY::T/\δ=[some (.l 0),some (.d (.tuple (ps.map aX))),some (.l 1),some (.d (.int ae)),u1,u2,u3,u4,u5,u6,u7,u8,u9,ac]) ⟨p1,[],[],_,_,_,_,_,_,_,_,_,_,aj,rfl,yv,rfl,rfl⟩ ?_ ?_
 ·rintro i d _ _ N hi ⟨p,os,T,u1,u2,u3,u4,u5,u6,u7,u8,u9,ac,hp,hl,ha,rfl,rfl⟩ hN;obtain⟨pt,ak,rfl⟩:=iH hi;have op:=hd.ord pt (bu ak);have il:i<ps.length:=(List.getElem?_eq_some_iff.mp ak).1;rw[j0];walk_at "d"
  walk_at "n"
  refine cut (fun δ S=>∃(p:List bn) (aa:List Off) (u5 u6 u7 u8 u9 ac:Option XV),zW p/\Ofn pt aa/\S=p::os.map aY::(T++[aa.map bB])/\δ=[some (.l 0),some (.d (.tuple (ps.map aX))),some (.l 1),some (.d (.int ae)),some (.d (.str pt.1)),some (.d (.int pt.2.1)),some (.d (.int pt.2.2)),some (.l (T.length+1+1)),u5,u6,u7,u8,u9,ac]) (fun N' ax=>?_) ?_
  ·walk_at "d";refine zr hp dz (by decide +kernel) fun r p1 r0 r1 aj=>?_;walk_at "d";refine cY (fun j δ S=>∃(p:List bn) (aa:List Off) (u5 u6 u7 u8 u9 ac:Option XV),zW p/\aa.length<=j+1/\1<=aa.length/\((∀o∈aa,pt.2.1<=o.1/\o.1<=o.2.1/\o.2.1<=pt.2.2)/\Nst aa/\∀o∈aa,0<=o.2.2)/\S=p::os.map aY::(T++[aa.map bB])/\δ=[some (.l 0),some (.d (.tuple (ps.map aX))),some (.l 1),some (.d (.int ae)),some (.d (.str pt.1)),some (.d (.int pt.2.1)),some (.d (.int pt.2.2)),some (.l (T.length+1+1)),u5,u6,u7,u8,u9,ac]) ⟨p1,[(pt.2.1,pt.2.2,0)],_,_,_,_,_,_,aj,yv,yv,⟨fun o m=>by rw[mem_singleton.mp m];exact⟨Int.le_refl _,op,Int.le_refl _⟩,L4,fun o m=>by rw[mem_singleton.mp m];exact Int.le_refl _⟩,rfl,rfl⟩ ?_ ?_
   ·rintro j d _ _ N2 hj ⟨p,aa,u5,u6,u7,u8,u9,ac,hp,ah,ai,af,rfl,rfl⟩ an;obtain⟨ay,rfl⟩:=fH hj;obtain⟨ab,o,rfl⟩:=JG ai;have oo:=af.1 o yv;walk_at "d";walk_at "n";have gl:(T++[(ab++[o]).map bB])[T.length]?=some (ab.map bB++[bB o]):=by simp
    have al:=FT (ab.map bB) (bB o);refine⟨_,gl,_,al,?_⟩;rw[kS];walk_at "d";have ar:=fun(p:List bn) (hp:zW p) (u5 u6 u7 u8 u9 ac:Option XV)=>an [some (.l 0),some (.d (.tuple (ps.map aX))),some (.l 1),some (.d (.int ae)),some (.d (.str pt.1)),some (.d (.int pt.2.1)),some (.d (.int pt.2.2)),some (.l (T.length+1+1)),u5,u6,u7,u8,u9,ac] (p::os.map aY::(T++[(ab++[o]).map bB])) ⟨p,ab++[o],u5,u6,u7,u8,u9,ac,hp,yw,ai,af,rfl,rfl⟩;split
    ·rename_i a2;have av:=fun(p:List bn) (hp:zW p) (u5 u6 u7 u8 u9 ac:Option XV) (n:Off) (hn:pt.2.1<=n.1/\n.1<=n.2.1/\n.2.1<=pt.2.2) (hn2:o.1<=n.1/\n.2.1<=o.2.1) (hn3:0<=n.2.2)=>an [some (.l 0),some (.d (.tuple (ps.map aX))),some (.l 1),some (.d (.int ae)),some (.d (.str pt.1)),some (.d (.int pt.2.1)),some (.d (.int pt.2.2)),some (.l (T.length+1+1)),u5,u6,u7,u8,u9,ac] (p::os.map aY::(T++[ab.map bB++[bB o]++[bB n]])) ⟨p,ab++[o]++[n],u5,u6,u7,u8,u9,ac,hp,by simp at ah ⊢;omega,yv,⟨fun x m=>by
      rcases mem_append.mp m with m|m
      ·exact af.1 x m
      ·rw[mem_singleton.mp m];exact hn,af.2.1.snoc hn2,fun x m=>by
      rcases mem_append.mp m with m|m
      ·exact af.2.2 x m
      ·rw[mem_singleton.mp m];exact hn3⟩,yv,rfl⟩
     walk_at "n"
     refine zr hp (by split<;>omega) (fD (by split<;>omega) (by split<;>omega)) fun r2 p2 a1 aq ap=>?_;walk_at "d"
     walk_at "n"
     refine zr ap dz (by decide +kernel) fun r3 p3 a3 az aw=>?_;walk_at "d";have rb:r2<=o.2.1-o.1:=by split at aq<;>omega
     have eb:o.1+r2<=(if o.2.1-r3>o.1+r2 then o.2.1-r3 else o.1+r2)/\(if o.2.1-r3>o.1+r2 then o.2.1-r3 else o.1+r2)<=o.2.1:=by split<;>omega
     generalize (if o.2.1-r3>o.1+r2 then o.2.1-r3 else o.1+r2)=e at eb ⊢;refine cut (fun δ S=>∃b:Int,o.1<=b/\b<=e/\S=p3::os.map aY::(T++[(ab++[o]).map bB])/\δ=[some (.l 0),some (.d (.tuple (ps.map aX))),some (.l 1),some (.d (.int ae)),some (.d (.str pt.1)),some (.d (.int pt.2.1)),some (.d (.int pt.2.2)),some (.l (T.length+1+1)),some (.d (.int (0+(j:Int)))),some (.d (.int o.1)),some (.d (.int o.2.1)),some (.d (.int o.2.2)),some (.d (.int b)),some (.d (.int e))]) (fun N3 ao=>?_) ?_
     ·walk_at "d";have no:=ao _ _ ⟨o.1+r2,yw,yw,rfl,rfl⟩;split
      ·split
       ·exact ao _ _ ⟨o.1+1,yw,yw,rfl,rfl⟩
       ·exact no
      ·exact no
     ·rintro _ _ ⟨b,b1,b2,rfl,rfl⟩;walk_at "d";refine⟨yv,?_⟩;refine zr aw g0 gb fun r4 p4 a0 a4 au=>?_;walk_at "d";refine⟨_,gl,by simp at ah ⊢;omega,?_⟩;have es:((T++[(ab++[o]).map bB]).set T.length (ab.map bB++[bB o]++[bB (b,e,o.2.2+1+r4)]))=T++[ab.map bB++[bB o]++[bB (b,e,o.2.2+1+r4)]]:=mV rfl;rw[kS (b,e,_)]at es;rw[es];exact av _ au _ _ _ _ _ _ (b,e,o.2.2+1+r4) ⟨by simp only;omega,by simp only;omega,by simp only;omega⟩ ⟨by simp only;omega,by simp only;omega⟩ (by have:=af.2.2 o yv;simp only;omega)
    ·exact ar _ hp _ _ _ _ _ _
   ·rintro _ _ ⟨p,aa,u5,u6,u7,u8,u9,ac,hp,ah,ai,af,rfl,rfl⟩;rw[eV]at ah;exact ax _ _ ⟨p,aa,_,_,_,_,_,_,hp,⟨⟨ai,yw,af.1⟩,af.2.1,af.2.2⟩,rfl,rfl⟩
  ·rintro _ _ ⟨p,aa,u5,u6,u7,u8,u9,ac,hp,af,rfl,rfl⟩;walk_at "d";have gl:(T++[aa.map bB])[T.length]?=some (aa.map bB):=by simp
   refine⟨yw,_,gl,yw,?_⟩;refine hN _ _ ⟨p,os++[aa],T++[aa.map bB],_,_,_,_,_,_,_,_,_,_,hp,by simp[hl],fun j p' l am ag=>?_,by simp[aY],rfl⟩;by_cases e:j<os.length
   ·rw[fk e]at ag;exact ha j p' l am ag
   ·rw[kw yw]at ag;have:j=i:=by
     have:=(List.getElem?_eq_some_iff.mp ag).1;simp at this;omega
    subst this;rw[ak]at am;cases am;have e0:j-os.length=0:=yw
    rw[e0]at ag;cases ag;exact af
 ·rintro _ _ ⟨p,os,T,u1,u2,u3,u4,u5,u6,u7,u8,u9,ac,hp,hl,ha,rfl,rfl⟩;rw[fw]at hl;walk_at "d";exact q os p ⟨hl,ha⟩ hp
theorem Ch{b:Nat}:∀{sz:List Nat},(∀s∈sz,s<=b)->aM sz<=b ^ sz.length
 | [],_=>ff _
 |s::sz,h=>by
  rw[ft,Nat.pow_succ,mul_comm (b ^ sz.length)];exact mul_le_mul (h s df) (Ch fun x m=>h x (cu _ m))
theorem few4{sz:List Nat}(hl:sz.length<=4)(h:∀s∈sz,s<=4):aM sz<=256:=jn (Ch h) (jn (Nat.pow_le_pow_right dz hl) dz)
theorem OffN.few{ps:List Part}{os:List (List Off)}(h:OffN ps os)(h4:ps.length<=4):aM (szO os)<=256:=by
 refine few4 (by simp[szO];have:=h.len;omega) fun s m=>?_;obtain⟨l,ml,rfl⟩:=mem_map.mp m;obtain⟨i,hi⟩:=mem_iff_getElem?.mp ml;exact(h.ok i _ l (iO (by have:=(List.getElem?_eq_some_iff.mp hi).1;have:=h.len;omega)) hi).l4
end
section
variable {R:RX}{S:Sto}
section
variable {wf:List Int->Option bn}
def Lxp(x y:List Int):Prop:=HT.lexLt x y=true/\x.isPrefixOf y=false
theorem BY:∀{B:List (List Int)},B.Pairwise Lxp->dH B=true
 | [],_=>rfl
 | [_],_=>rfl
 |x::y::r,h=>by
  rw[pairwise_cons]at h;have hy:=h.1 y df;simp only[dH,gf];exact⟨⟨hy.1,by rw[hy.2];rfl⟩,BY h.2⟩
end
theorem iW{α:Type}{l:List α}{n:Nat}{x:α}(h:l[n]?=some x):l.drop n=x::l.drop (n+1):=by
 obtain⟨hn,e⟩:=List.getElem?_eq_some_iff.mp h;rw[lh hn,e]
end
section
variable {R:RX}{S:Sto}{EX:EXD}
theorem mO{os:List (List Off)}{b:List Int}(hb:Bgn (szO os) b):aC b=cH (kN b)/\(kN b).length=b.length/\b.length<=os.length/\∀i,i<b.length->(kN b).getD i 0<(os.getD i []).length:=by
 obtain⟨e1,e2,e3⟩:=Ep hb;have bl:b.length<=os.length:=by simpa[szO]using e2
 refine⟨G3 e1,by simp[kN],bl,fun i hi=>?_⟩;have eb:=cn hi;have eo:=cn (show i<os.length by omega);have:=e3 i _ (os[i]'yw).length eb (by unfold szO;rw[im,eo];rfl);rw[Ge,fu,eb,fu,eo];exact this
theorem JL{ps:List Part}{os:List (List Off)}(ho:Offs ps os)(h8:ps.length<=8):Sz (szO os)/\∀s∈szO os,1<=s:=by
 have hl:=ho.len;have ok:∀l∈os,1<=l.length/\l.length<=4:=fun l m=>by
  obtain⟨i,hi⟩:=mem_iff_getElem?.mp m;have il:=(List.getElem?_eq_some_iff.mp hi).1;have:=ho.ok i _ l (iO yw) hi;exact⟨this.l1,this.l4⟩
 refine⟨⟨by simp[szO];omega,fun s m=>?_⟩,fun s m=>?_⟩
 ·obtain⟨l,ml,rfl⟩:=mem_map.mp m;exact(ok l ml).2
 ·obtain⟨l,ml,rfl⟩:=mem_map.mp m;exact(ok l ml).1
theorem Ld{ps:List Part}{os:List (List Off)}{ks:List Nat}(ho:Offs ps os)(hc:Chs os ks)(h8:ps.length<=8)(q:R (.d (.int (pcO os ks))) []):jG [.d (aS os),.d (cH ks)] [] R:=by
 have hl:=ho.len;have hk:=hc.len;unfold jG aS cH;walk_at "d";refine cmp1 (S0:=[]) (fun i:Nat=>bw (offer os ks i).2.2) rfl (fq ks.length) (by simp;omega) ?_ ?_
 ·intro i mi u acc R' ac;have aa:=mem_range.mp mi;have ab:i<os.length:=yw
  have e2:=bY (f:=aY) (gG ab);have e3:=bY (f:=fun k:Nat=>bw k) (show ks[i]?=some (ks.getD i 0) by rw[cn aa,fu,cn aa];rfl);have e4:=bY (f:=bB) (ED hc ab);walk_at "d";simp only[lv];refine⟨_,e2,?_⟩;rw[eR];walk_at "d";refine⟨_,e3,?_⟩;walk_at "d";refine⟨_,e4,?_⟩;rw[kS];walk_at "d";exact ac _
 ·walk_at "d";refine⟨(fq ks.length).map fun i=>(offer os ks i).2.2,by rw[jb];rfl,?_⟩;have e:(fq ks.length).map (fun i=>(offer os ks i).2.2)=(os.zip ks).map fun q=>(q.1.getD q.2 (0,0,0)).2.2:=by
   apply List.ext_getElem?;intro i;rw[im,im];by_cases hi:i<ks.length
   ·have h2:i<os.length:=yw
    rw[List.getElem?_range hi,(lg (z:=(os.getD i [],ks.getD i 0))).mpr ⟨gG h2,gD (d:=0) hi⟩];rfl
   ·rw[getElem?_eq_none (by simp;omega),getElem?_eq_none (by simp;omega)];rfl
  rw[e];exact q
end
section
variable {R:RX}{S:Sto}
theorem Kl(ps:List Part):aH ps=.tuple (ps.map aX):=rfl
theorem FH{d:bn}(q:R (.d (.bool (bU d))) []):iZ [.d d] [] R:=by
 unfold iZ;cases d<;>(walk_at "e";exact q)
def inP(p:Part):bn->Bool
 | .int k=>decide (p.2.1<=k/\k<=p.2.2)
 |_=>false
def j3(ps:List Part):bn->Bool
 | .tuple ds=>decide (ds.length=ps.length)&&((ds.zip ps).map fun q=>inP q.2 q.1).all id
 |_=>false
theorem mQ(ps:List Part)(ds:List bn):j3 ps (.tuple ds)=(decide (ds.length=ps.length)&&((ds.zip ps).map fun q=>inP q.2 q.1).all id):=rfl
theorem KL{ps:List Part}{d:bn}(hl:ps.length<=100)(q:R (.d (.bool (j3 ps d))) []):sW [.d (aH ps),.d d] [] R:=by
 unfold sW;rw[Kl];cases d with
 |tuple ds=>
  walk_at "d"
  walk_at "n"
  by_cases h:ds.length=ps.length
  ·rw[cf yw];rw[mQ,ge h,js]at q;have ez:cZ ds (ps.map aX)=(ds.zip ps).map fun q=>.tuple [q.1,aX q.2]:=by
    have:=h9 (fun d:bn=>d) aX ds ps
    rwa [map_id']at this
   walk_at "d";rw[ez];refine cmp2 (S0:=[]) (fun q:bn×Part=>.bool (inP q.2 q.1)) rfl (ds.zip ps) (by simp;omega) ?_ ?_
   ·intro x mx u v acc R' hk;obtain⟨d,p⟩:=x;rw[j0];walk_at "d";refine FH ?_;cases d with
    |int k=>
     simp only[bU];walk_at "d";have e0:inP p (.int k)=decide (p.2.1<=k/\k<=p.2.2):=rfl;have aa:=hk (some (.d (.int k))) (some (.d (.tuple [.str p.1,.int p.2.1,.int p.2.2])));rw[e0]at aa;split
     ·rename_i h1;simpa[h1]using aa
     ·rename_i h1;simpa[h1]using aa
    |none=>(simp only[bU];walk_at "d";exact hk _ _)
    |bool b=>(simp only[bU];walk_at "d";exact hk _ _)
    |str b=>(simp only[bU];walk_at "d";exact hk _ _)
    |list b=>(simp only[bU];walk_at "d";exact hk _ _)
    |dict b=>(simp only[bU];walk_at "d";exact hk _ _)
    |tuple b=>(simp only[bU];walk_at "d";exact hk _ _)
   ·walk_at "d";exact⟨_,by rw[jb];rfl,q⟩
  ·rw[cg yw];rw[mQ,dw h]at q;exact q
 |none=>(walk_at "d";walk_at "n";exact q)
 |bool b=>(walk_at "d";walk_at "n";exact q)
 |int b=>(walk_at "d";walk_at "n";exact q)
 |str b=>(walk_at "d";walk_at "n";exact q)
 |list b=>(walk_at "d";walk_at "n";exact q)
 |dict b=>(walk_at "d";walk_at "n";exact q)
theorem r8:∀{ps:List Part}{ds:List bn},(ds.length=ps.length/\((ds.zip ps).map fun q=>inP q.2 q.1).all id=true)↔∃aa:List Int,ds=aa.map bw/\InBox ps aa
 | [],[]=>by
  constructor
  ·intro _;exact⟨[],rfl,Ca.mpr rfl⟩
  ·intro _;exact⟨rfl,rfl⟩
 | [],d::ds=>by
  constructor
  ·intro h;cases h.1
  ·rintro⟨aa,e,h⟩;rw[Ca.mp h]at e;cases e
 |p::ps,[]=>by
  constructor
  ·intro h;cases h.1
  ·rintro⟨aa,e,h⟩;obtain⟨x,t,rfl,_⟩:=vI.mp h;cases e
 |p::ps,d::ds=>by
  have ih:=r8 (ps:=ps) (ds:=ds);constructor
  ·rintro⟨h1,h2⟩;rw[qm,fm,all_cons,gf]at h2;obtain⟨h2,h3⟩:=h2;obtain⟨aa,e,hb⟩:=ih.mp ⟨by simpa using h1,h3⟩;cases d with
   |int k=>
    have ab:decide (p.2.1<=k/\k<=p.2.2)=true:=h2;have:=qp ab;exact⟨k::aa,by rw[e];rfl,vI.mpr ⟨k,aa,rfl,this.1,this.2,hb⟩⟩
   |_=>cases h2
  ·rintro⟨aa,e,h⟩;obtain⟨x,t,rfl,h1,h2,h3⟩:=vI.mp h;rw[fm]at e;injection e with e1 e2
   have:=ih.mpr ⟨t,e2,h3⟩;refine⟨by simpa using this.1,?_⟩;rw[qm,fm,all_cons,this.2,Bool.and_true,e1];exact ge ⟨h1,h2⟩
theorem GY{ps:List Part}{d:bn}:j3 ps d=true↔∃q,d=aC q/\InBox ps q:=by
 constructor
 ·intro h;cases d with
  |tuple ds=>
   rw[mQ,gf,decide_eq_true_eq]at h;obtain⟨q,e,hb⟩:=r8.mp h;exact⟨q,by rw[e];rfl,hb⟩
  |_=>cases h
 ·rintro⟨q,rfl,hb⟩;have h:=r8.mpr ⟨q,rfl,hb⟩;show j3 ps (.tuple (q.map bw))=true;rw[mQ,gf,decide_eq_true_eq];exact h
end
section
theorem y8:∀{x y:List Int},HT.lexLt y x=false->x≠y->HT.lexLt x y=true
 | [],[],_,h=>absurd rfl h
 | [],b::y,_,_=>rfl
 |a::x,[],h,_=>by cases h
 |a::x,b::y,h,n=>by
  rw[mP];have h':¬(b<a\/b=a/\HT.lexLt y x=true):=fun z=>by
   rw[(mP b a y x).mpr z]at h;cases h
  by_cases e:a=b
  ·refine .inr ⟨e,y8 ?_ fun e2=>n (by rw[e,e2])⟩;cases hh:HT.lexLt y x with
   |false=>rfl
   |true=>exact absurd (.inr ⟨e.symm,hh⟩) h'
  ·left;have:¬ b<a:=fun z=>h' (.inl z);omega
theorem HJ{x y:List Int}(h:HT.lexLt x y=true):HT.lexLt y x=false:=by
 cases hh:HT.lexLt y x with
 |false=>rfl
 |true=>
  have:=wL h hh;rw[Ef]at this;cases this
theorem Cy{sz:List Nat}{b:List Int}(hb:Bgn sz b)(h1:∀s∈sz,1<=s):∃z∈fil sz,b <+: z:=by
 have c:=xZ hb;have p:1<=aM (sz.drop b.length):=qS fun x m=>h1 x (lu m);have n:(fil sz).filter (fun z=>b.isPrefixOf z)≠[]:=fun e=>by
  rw[e]at c;simp at c;omega
 obtain⟨z,mz⟩:=List.exists_mem_of_ne_nil _ n;rw[mem_filter]at mz;exact⟨z,mz.1,isPrefixOf_iff_prefix.mp mz.2⟩
def fR(B:List (List Int))(z:List Int):Nat:=(B.filter fun b=>b.isPrefixOf z).length
theorem Eb:∀{B:List (List Int)},dH B=true->B.Pairwise fun x y=>HT.lexLt x y=true
 | [],_=>.nil
 |x::B,h=>by
  refine .cons (fun y m=>(rR h y m).1) (Eb ?_);cases B with
  |nil=>rfl
  |cons z r=>
   simp only[dH,gf]at h;exact h.2
theorem AZ{α β:Type}{Z:List β}{p:β->α->Bool}{q:α->α->Prop}:∀{B:List α},(∀z∈Z,(B.filter (p z)).length<=1)->(∀x∈B,∀y∈B,q x y->∃z∈Z,p z x=true/\p z y=true)->B.Pairwise fun x y=>¬ q x y
 | [],_,_=>.nil
 |x::B,h,k=>by
  refine .cons (fun y my hq=>?_) (AZ (fun z mz=>?_) fun a ma b mb=>k a (cu _ ma) b (cu _ mb))
  ·obtain⟨z,mz,h1,h2⟩:=k x df y (cu _ my) hq;have:=h z mz;rw[List.filter_cons_of_pos h1,ft]at this;have:0<(B.filter (p z)).length:=List.length_pos_of_mem (mem_filter.mpr ⟨my,h2⟩);omega
  ·refine jn ?_ (h z mz);rw[filter_cons];split
   ·simp
   ·exact ff _
theorem KY{sz:List Nat}{B:List (List Int)}(h1:∀s∈sz,1<=s)(hB:∀b∈B,Bgn sz b):(dH B=true/\gS sz B=aM sz)↔(B.Pairwise fun x y=>HT.lexLt y x=false)/\∀z∈fil sz,fR B z=1:=by
 constructor
 ·rintro⟨ha,hs⟩;refine⟨(Eb ha).imp HJ,fun z mz=>?_⟩;obtain⟨b,mb,pb⟩:=(B7 hB ha).mp hs z mz;have:=sS z (wM ha);have:0<(B.filter fun b=>b.isPrefixOf z).length:=List.length_pos_of_mem (mem_filter.mpr ⟨mb,isPrefixOf_iff_prefix.mpr pb⟩);unfold fR;omega
 ·rintro⟨hs,hc⟩;have fr:B.Pairwise fun x y=>¬(x <+: y\/y <+: x):=AZ (Z:=fil sz) (p:=fun z b=>b.isPrefixOf z) (fun z mz=>Nat.le_of_eq (show (B.filter fun b=>b.isPrefixOf z).length=1 from hc z mz)) fun x mx y my hq=>by
   rcases hq with hq|hq
   ·obtain⟨z,mz,pz⟩:=Cy (hB y my) h1;exact⟨z,mz,isPrefixOf_iff_prefix.mpr (hq.trans pz),isPrefixOf_iff_prefix.mpr pz⟩
   ·obtain⟨z,mz,pz⟩:=Cy (hB x mx) h1;exact⟨z,mz,isPrefixOf_iff_prefix.mpr pz,isPrefixOf_iff_prefix.mpr (hq.trans pz)⟩
  have ha:dH B=true:=BY ((hs.and fr).imp fun {x y} h=>by
   refine⟨y8 h.1 fun e=>h.2 (.inl (by rw[e];exact List.prefix_rfl)),?_⟩;cases hh:x.isPrefixOf y with
   |false=>rfl
   |true=>exact absurd (.inl (isPrefixOf_iff_prefix.mp hh)) h.2)
  refine⟨ha,(B7 hB ha).mpr fun z mz=>?_⟩;have:0<(B.filter fun b=>b.isPrefixOf z).length:=by have:=hc z mz;unfold fR at this;omega
  obtain⟨b,mb⟩:=List.exists_mem_of_length_pos this;rw[mem_filter]at mb;exact⟨b,mb.1,isPrefixOf_iff_prefix.mp mb.2⟩
theorem D4(m:Nat):∀n:Nat,((fq n).filter fun k=>decide (k=m)).length=if m<n then 1 else 0
 | 0=>by simp
 |n+1=>by
  rw[range_succ,List.filter_append,cx,D4 m n];by_cases h:n=m
  ·subst h;simp
  ·rw[List.filter_cons_of_neg (by simpa using h)];by_cases h2:m<n
   ·rw[cg h2,cg yw];rfl
   ·rw[cf h2,cf yw];rfl
theorem B3{α:Type}(p:α->Bool):∀l:List α,(l.map fun x=>if p x=true then 1 else 0).sum=(l.filter p).length
 | []=>rfl
 |x::l=>by
  rw[fm,sum_cons,B3 p l,filter_cons];split
  ·rw[ft];omega
  ·omega
theorem FE(B:List (List Int))(z:List Int):((fq (z.length+1)).map fun k=>(B.filter fun b=>decide (b=z.take k)).length).sum=fR B z:=by
 rw[sY (fun k b=>decide (b=z.take k))];unfold fR;rw[<- B3];congr 1;refine kr fun b _=>?_;by_cases h:b.isPrefixOf z=true
 ·rw[cg h];have p:=isPrefixOf_iff_prefix.mp h;have e:=List.prefix_iff_eq_take.mp p;have l:=p.length_le;have:(fq (z.length+1)).filter (fun k=>decide (b=z.take k))=(fq (z.length+1)).filter fun k=>decide (k=b.length):=by
   refine List.filter_congr fun k mk=>?_;have:=mem_range.mp mk;rw[decide_eq_decide];constructor
   ·intro e2;have:=congrArg List.length e2;rw[nz]at this;omega
   ·rintro rfl;exact e
  rw[this,D4,cg yw]
 ·rw[cf h];refine List.length_eq_zero_iff.mpr (List.filter_eq_nil_iff.mpr fun k _ hk=>h ?_);rw[decide_eq_true_eq]at hk;rw[hk];exact isPrefixOf_iff_prefix.mpr (List.take_prefix _ _)
theorem L7{κ α:Type}[DecidableEq κ]{k k':κ}{v:α}:∀{m:List (κ×α)},lkA (ptA m k v) k'=if k=k' then some v else lkA m k':=by
 intro m;unfold ptA;split
 ·rename_i h;induction m with
  |nil=>cases h
  |cons p m ih=>
   rw[fm];unfold lkA at *;rw[rh,rh];by_cases e:p.1=k
   ·rw[cg e];by_cases e2:k=k'
    ·rw[cg e2];simp[e,e2]
    ·rw[cf e2];have n1:¬ p.1=k':=fun z=>e2 (e.symm.trans z);simp only[dw n1];by_cases h2:(m.any fun p=>decide (p.1=k))=true
     ·rw[ih h2,cf e2]
     ·have:m.map (fun p=>if p.1=k then (p.1,v)else p)=m:=by
       conv=>rhs;rw[<- map_id m]
       refine kr fun x mx=>?_;rw[cf fun z=>h2 (List.any_eq_true.mpr ⟨x,mx,ge z⟩)];rfl
      rw[this]
   ·rw[cf e];have h2:(m.any fun p=>decide (p.1=k))=true:=by simpa[e]using h
    have i2:=ih h2;by_cases e3:p.1=k'
    ·have:¬ k=k':=fun z=>e (e3.trans z.symm);simp[e3,this]
    ·simp only[dw e3];exact i2
 ·rename_i h;unfold lkA;rw[List.find?_append];by_cases e:k=k'
  ·rw[cg e];have:m.find? (fun p=>decide (p.1=k'))=none:=by
    rw[List.find?_eq_none];intro x mx hx;exact h (List.any_eq_true.mpr ⟨x,mx,by simpa[e]using hx⟩)
   rw[this];simp[e]
  ·rw[cf e];simp[e]
end
section
variable {R:RX}{S:Sto}{EX:EXD}
def eA(os:List (List Off))(b:List Int):List Nat:=kN b++(os.drop b.length).map fun l=>l.length-1
def nrB(ps:List Part)(os:List (List Off))(b:List Int):List Part:=chosen ps os (eA os b)
section
variable {ps:List Part}{os:List (List Off)}{gs:List Gap}{price:Int}{b:List Int}
theorem EC(ho:Offs ps os):∀i,i<os.length->1<=(os.getD i []).length:=fun i hi=>by
 have hl:=ho.len;exact(ho.ok i _ _ (iO yw) (gG hi)).l1
theorem vE(ho:Offs ps os)(hb:Bgn (szO os) b):Chs os (eA os b):=by
 obtain⟨e,kl,bl,hk⟩:=mO hb;unfold eA;refine⟨by simp[kl];omega,fun i hi=>?_⟩;by_cases hib:i<b.length
 ·rw[fu,fk yw,<- fu];exact hk i hib
 ·have:=EC ho i hi;rw[fu,kw yw,kl,im,qo,show b.length+(i-b.length)=i by omega,gG hi];show (os.getD i []).length-1<_;omega
theorem wA(ho:Offs ps os):cr ((kN b).map (fun k:Nat=>bw (k:Int))++(os.drop b.length).map fun l=>bw ((l.length:Int)-1))=cH (eA os b):=by
 unfold cH eA;rw[map_append,jb];congr 2;refine kr fun l ml=>?_;obtain⟨i,hi⟩:=mem_iff_getElem?.mp ml;rw[qo]at hi;have il:=(List.getElem?_eq_some_iff.mp hi).1;have:=EC ho _ il;have e5:os.getD (b.length+i) []=l:=by rw[gG il]at hi;exact gh hi
 rw[e5]at this;show bw ((l.length:Int)-1)=bw ((l.length-1:Nat):Int);congr 1;omega
theorem Ih(ho:Offs ps os)(h8:ps.length<=8)(hb:Bgn (szO os) b)(q:R (.d (aH (nrB ps os b))) []):sL [.d (aH ps),.d (aS os),.d (aC b)] [] R:=by
 have hl:=ho.len;obtain⟨e,kl,bl,hk⟩:=mO hb;unfold sL;walk_at "d";walk_at "n";refine Ac yw ?_;walk_at "d";refine cmp1 (S0:=[]) (fun l:List Off=>bw ((l.length:Int)-1)) rfl os yw ?_ ?_
 ·intro l ml u acc R' hk;walk_at "d";exact hk _
 ·rw[e];unfold cH;walk_at "d";have c1:aL (os.map fun l:List Off=>bw ((l.length:Int)-1)) (some ((kN b).length:Int)) none=(os.drop b.length).map fun l=>bw ((l.length:Int)-1):=by
   rw[kl,pR (by simpa using bl),map_drop]
  rw[c1];refine⟨by simp;omega,?_⟩;rw[wA ho];exact Ku ho (vE ho hb) h8 q
theorem LF(ho:Offs ps os)(h8:ps.length<=8)(hb:Bgn (szO os) b)(q:R (.d (.int (pcO os (kN b)))) []):sP [.d (aS os),.d (aC b)] [] R:=by
 have hl:=ho.len;obtain⟨e,kl,bl,hk⟩:=mO hb;rw[e];unfold sP aS cH;walk_at "d";rw[h9];refine cmp2 (S0:=[]) (fun q:List Off×Nat=>.int (q.1.getD q.2 (0,0,0)).2.2) rfl (os.zip (kN b)) (by simp;omega) ?_ ?_
 ·intro x mx u v acc R' aa;obtain⟨i,hi⟩:=mem_iff_getElem?.mp mx;rw[lg]at hi;obtain⟨h1,h2⟩:=hi;have il:i<os.length:=(List.getElem?_eq_some_iff.mp h1).1;have ik:i<(kN b).length:=(List.getElem?_eq_some_iff.mp h2).1;have e1:os.getD i []=x.1:=by rw[gG il]at h1;exact gh h1
  have e2:(kN b).getD i 0=x.2:=by rw[gD (d:=0) ik]at h2;exact gh h2
  have kb:=hk i yw;rw[e1,e2]at kb;have e3:=bY (f:=bB) (gD (d:=((0,0,0):Off)) kb);rw[eR];walk_at "d";refine⟨_,e3,?_⟩;rw[kS];walk_at "d";exact aa _ _
 ·walk_at "d";exact⟨_,by rw[jb];rfl,q⟩
def brk3:bn->Bool
 | .tuple [.str x,_,_]=>decide (x = "breaks")
 |_=>false
def Ky:bn->bn
 | .tuple [_,k,_]=>k
 |_=>.none
def Fk:bn->bn
 | .tuple [_,_,s]=>s
 |_=>.none
def sK(ps:List Part)(gs:List Gap)(os:List (List Off))(b:List Int)(k s:bn):Bool:=match k with
 | .int k=>decide (0<=k/\k<gs.length)&&(j3 (nrB ps os b) s&&!pA (eU gs k) (bgO s))
 |_=>false
theorem B9{k:Int}{s:bn}:sK ps gs os b (.int k) s=(decide (0<=k/\k<gs.length)&&(j3 (nrB ps os b) s&&!pA (eU gs k) (bgO s))):=rfl
def fwB(ps:List Part)(gs:List Gap)(os:List (List Off))(price:Int)(b:List Int)(w:bn):Bool:=
 if jF w then decide (price<=pcO os (kN b))else brk3 w&&sK ps gs os b (Ky w) (Fk w)
theorem fwD{w:bn}(h:jF w=true):fwB ps gs os price b w=decide (price<=pcO os (kN b)):=by
 unfold fwB;rw[cg h]
theorem fwN{w:bn}(h:jF w=false)(k:brk3 w=false):fwB ps gs os price b w=false:=by
 unfold fwB;rw[cf (by rw[h];decide),k];rfl
theorem CQ:(nrB ps os b).length=ps.length:=j9
theorem Gg{w:bn}(ho:Offs ps os)(h8:ps.length<=8)(hg:∀g∈gs,Tms ps.length g.ts)(hb:Bgn (szO os) b)(hw:WT w)
  (q:R (.d (.bool (fwB ps gs os price b w))) []):tW [.d (.tuple [aH ps,cA gs]),.d (aS os),.d (.int price),.d (aC b),.d w] [] R:=by
 unfold tW;walk_at "d"
 walk_at "n"
 refine⟨hw.sh,by decide +kernel,?_⟩;rw[J7];cases hd:jF w with
 |true=>
  rw[fwD hd]at q;walk_at "d";refine LF ho h8 hb ?_;walk_at "d";exact q
 |false=>
  have aa:brk3 w=false->R (.d (.bool false)) []:=fun k=>by rw[fwN hd k]at q;exact q
  walk_at "d"
  walk_at "n"
  cases w with
  |tuple ds=>
   match ds with
   | []=>(walk_at "d";exact aa rfl)
   | [x]=>
    walk_at "d";exact aa (by cases x<;>rfl)
   | [x,y]=>
    walk_at "d";exact aa (by cases x<;>rfl)
   |x::y::z::u::r=>
    walk_at "d";have:brk3 (.tuple (x::y::z::u::r))=false:=by cases x<;>rfl
    rw[cg yw];exact aa this
   | [x,k,s]=>
    have e2:brk3 (.tuple [x,k,s])=jj x (.str "breaks"):=by cases x<;>rfl
    walk_at "d";refine⟨hw.el _ rfl x yv,by decide +kernel,?_⟩;rw[<- e2];cases hoff:brk3 (.tuple [x,k,s])with
    |false=>exact aa hoff
    |true=>
     have ew:fwB ps gs os price b (.tuple [x,k,s])=sK ps gs os b k s:=by
      unfold fwB;rw[hd,hoff];rfl
     rw[ew]at q;walk_at "d"
     walk_at "n"
     refine At ?_;cases k with
     |int k=>
      rw[B9]at q;simp only[bU];walk_at "d";unfold cA;by_cases hk0:0<=k
      ·rw[cg hk0];walk_at "d";by_cases hk1:k<gs.length
       ·rw[cf (by simpa using hk1)];rw[ge ⟨hk0,hk1⟩,js]at q;walk_at "d";refine Ih ho h8 hb ?_;walk_at "d";refine KL (by rw[CQ];omega) ?_;cases hs:j3 (nrB ps os b) s with
        |false=>
         rw[hs]at q;walk_at "d";exact q
        |true=>
         rw[hs,js]at q;obtain⟨ac,rfl,ab⟩:=GY.mp hs;rw[lQ]at q;obtain⟨e3,m3⟩:=CK hk0 hk1;walk_at "d";refine⟨_,e3,?_⟩;refine JB (by rw[ab.len,CQ];exact(hg _ m3).tm3 h8) ?_;walk_at "d";exact q
       ·rw[cg (by simpa using hk1)];simpa[hk0,hk1]using q
      ·rw[cf hk0];walk_at "d";simpa[hk0]using q
     |none=>(walk_at "d";exact q)
     |bool b=>(walk_at "d";exact q)
     |str b=>(walk_at "d";exact q)
     |list b=>(walk_at "d";exact q)
     |dict b=>(walk_at "d";exact q)
     |tuple b=>(walk_at "d";exact q)
  |none=>(walk_at "d";exact aa rfl)
  |bool b=>(walk_at "d";exact aa rfl)
  |int b=>(walk_at "d";exact aa rfl)
  |str b=>(walk_at "d";exact aa rfl)
  |list b=>(walk_at "d";exact aa rfl)
  |dict b=>(walk_at "d";exact aa rfl)
end
def frB(ps:List Part)(gs:List Gap)(os:List (List Off))(price:Int)(r:bn):Bool:=fwB ps gs os price (bgO (fs1 r)) (sn1 r)
def iY(ps:List Part)(gs:List Gap)(os:List (List Off))(price:Int):bn->Bool
 | .list rows=>arB (szO os) (.list rows)&&rows.all (frB ps gs os price)
 |_=>false
section
variable {ps:List Part}{os:List (List Off)}{gs:List Gap}{price:Int}{b:List Int}
theorem sJ{q:List bn}:iY ps gs os price (.list q)=(arB (szO os) (.list q)&&q.all (frB ps gs os price)):=rfl
theorem Kh{d:bn}(ho:Offs ps os)(h8:ps.length<=8)(hg:∀g∈gs,Tms ps.length g.ts)(hd:ThB d)
  (q:R (.d (.bool (iY ps gs os price d))) []):tY [.d (.tuple [aH ps,cA gs]),.d (aS os),.d (.int price),.d d] [] R:=by
 have ab:=ho.len;unfold tY;walk_at "d"
 walk_at "n"
 refine Ac yw ?_;rw[Hd];walk_at "d";refine IR (JL ho h8).1 hd.len ?_;walk_at "d";cases ha:arB (szO os) d with
 |false=>
  walk_at "d";have:iY ps gs os price d=false:=by
   cases d with
   |list rows=>rw[sJ,ha];rfl
   |_=>rfl
  rw[this]at q;exact q
 |true=>
  cases d with
  |list rows=>
   have hl:=hd.len rows rfl;rw[sJ,ha,js]at q;rw[pZ,gf]at ha;obtain⟨h2,h3⟩:=ha;unfold iU at h3;rw[gf]at h3;obtain⟨h3,_⟩:=h3;rw[ki]at h2 h3;walk_at "d";refine cmp2dT (S0:=[]) (fun r=>.bool (frB ps gs os price r)) rfl rows yw ?_ ?_
   ·intro x mx u v acc R' hk;have e:=tE (h2 x mx);obtain⟨b,e1,hb⟩:=uR.mp (h3 _ (me mx));have ew:frB ps gs os price x=fwB ps gs os price b (sn1 x):=by
     unfold frB;rw[e1,lQ]
    rw[e1]at e;have wt:=hd.why rows rfl x mx _ _ e;have aa:=hk (some (.d (aC b))) (some (.d (sn1 x)));rw[ew]at aa;generalize sn1 x=w at e wt aa;subst e;walk_at "d";refine Gg ho h8 hg hb wt ?_;walk_at "d";exact aa
   walk_at "d";refine⟨rows.map (frB ps gs os price),by rw[jb];rfl,?_⟩;rw[all_map];exact q
  |_=>cases ha
theorem AU(ho:Offs ps os)(h8:ps.length<=8)(hb:Bgn (szO os) b)(q:R (.d (.int (pcO os (kN b)))) []):jG [.d (aS os),.d (aC b)] [] R:=by
 have hl:=ho.len;obtain⟨e,kl,bl,hk⟩:=mO hb;rw[e];unfold jG aS cH;walk_at "d";refine cmp1 (S0:=[]) (fun i:Nat=>bw (offer os (kN b) i).2.2) rfl (fq (kN b).length) (by simp;omega) ?_ ?_
 ·intro i mi u acc R' ac;have aa:=mem_range.mp mi;have ab:i<os.length:=yw
  have e2:=bY (f:=aY) (gG ab);have e3:=bY (f:=fun k:Nat=>bw k) (gD (d:=0) aa);have e4:=bY (f:=bB) (gD (d:=((0,0,0):Off)) (hk i yw));walk_at "d";simp only[lv];refine⟨_,e2,?_⟩;rw[eR];walk_at "d";refine⟨_,e3,?_⟩;walk_at "d";refine⟨_,e4,?_⟩;rw[kS];walk_at "d";exact ac _
 ·walk_at "d";refine⟨(fq (kN b).length).map fun i=>(offer os (kN b) i).2.2,by rw[jb];rfl,?_⟩;have e:(fq (kN b).length).map (fun i=>(offer os (kN b) i).2.2)=(os.zip (kN b)).map fun q=>(q.1.getD q.2 (0,0,0)).2.2:=by
   apply List.ext_getElem?;intro i;rw[im,im];by_cases hi:i<(kN b).length
   ·have h2:i<os.length:=yw
    rw[List.getElem?_range hi,(lg (z:=(os.getD i [],(kN b).getD i 0))).mpr ⟨gG h2,gD (d:=0) hi⟩];rfl
   ·rw[getElem?_eq_none (by simp;omega),getElem?_eq_none (by simp;omega)];rfl
  rw[e];exact q
end
end
section
variable {R:RX}{S:Sto}{EX:EXD}
section
variable {ps:List Part}{os:List (List Off)}{gs:List Gap}{price:Int}{b:List Int}
theorem Ao{w:bn}(ho:Offs ps os)(h8:ps.length<=8)(hg:∀g∈gs,Tms ps.length g.ts)(hb:Bgn (szO os) b)(hw:WT w)
  (q:R (.d (.bool (fwB ps gs os price b w))) []):o8 [.d (aH ps),.d (cA gs),.d (aS os),.d (.int price),.d (aC b),.d w] [] R:=by
 have hl:=ho.len;obtain⟨e,kl,bl,hk⟩:=mO hb;unfold o8;walk_at "d"
 walk_at "n"
 cases w with
 |tuple ds=>
  have aa:jF (.tuple ds)=false->brk3 (.tuple ds)=false->R (.d (.bool false)) []:=fun h k=>by rw[fwN h k]at q;exact q
  match ds,hw,q,aa with
  | [],hw,q,aa=>
   walk_at "d";refine⟨by decide +kernel,?_⟩;rw[cg dz];exact aa rfl rfl
  | [x],hw,q,aa=>
   walk_at "d";refine⟨by decide +kernel,?_⟩;rw[cf dz];cases x with
   |str z=>
    rw[cf yv]
    walk_at "n"
    refine⟨hw.el _ rfl _ yv,by decide +kernel,?_⟩;have ez:jj (.str z) (.str "dear")=decide (z = "dear"):=rfl;rw[ez];by_cases hz:z = "dear"
    ·rw[fwD (show jF (.tuple [.str z])=true from ge hz)]at q;rw[ge hz];walk_at "d";refine AU ho h8 hb ?_;walk_at "d";exact q
    ·rw[dw hz];walk_at "d";exact aa (dw hz) rfl
   |none=>exact aa rfl rfl
   |bool b=>exact aa rfl rfl
   |int b=>exact aa rfl rfl
   |list b=>exact aa rfl rfl
   |dict b=>exact aa rfl rfl
   |tuple b=>exact aa rfl rfl
  | [x,y],hw,q,aa=>
   walk_at "d";refine⟨by decide +kernel,?_⟩;rw[cg dz];exact aa (by cases x<;>rfl) (by cases x<;>rfl)
  |x::y::z::u::r,hw,q,aa=>
   walk_at "d";refine⟨by decide +kernel,?_⟩;rw[cg ?_]
   ·exact aa (by cases x<;>rfl) (by cases x<;>rfl)
   ·simp only[any_cons,List.any_nil,i4,Bool.or_false];rw[dw yw,dw yw];rfl
  | [x,k,s],hw,q,aa=>
   walk_at "d";refine⟨by decide +kernel,?_⟩;rw[cf dz];cases x with
   |str z=>
    rw[cf yv]
    walk_at "n"
    walk_at "n"
    refine⟨hw.el _ rfl _ yv,by decide +kernel,?_⟩;have ez:jj (.str z) (.str "breaks")=decide (z = "breaks"):=rfl;rw[ez];by_cases hz:z = "breaks"
    ·rw[ge hz];have ew:fwB ps gs os price b (.tuple [.str z,k,s])=sK ps gs os b k s:=by
      unfold fwB;rw[show jF (.tuple [.str z,k,s])=false from rfl,show brk3 (.tuple [.str z,k,s])=true from ge hz];rfl
     rw[ew]at q;walk_at "d";refine xJ ?_;cases k with
     |int k=>
      rw[B9]at q;simp only[bU];unfold cA;walk_at "d";by_cases hk2:0<=k/\k<(gs.length:Int)
      ·rw[ge hk2,js]at q;obtain⟨e3,m3⟩:=CK hk2.1 hk2.2;rw[cf (by simpa using hk2)];have cl:(chosen ps os (eA os b)).length=ps.length:=j9;refine seq1 ?_;rw[e];unfold aS cH;walk_at "d";have c1:aL (os.map aY) (some ((kN b).length:Int)) none=(os.drop b.length).map aY:=by
        rw[kl,pR (by simpa using bl),map_drop]
       rw[c1];refine cmp1 (S0:=[]) (fun l:List Off=>bw ((l.length:Int)-1)) rfl (os.drop b.length) (by simp;omega) ?_ ?_
       ·intro l ml u acc R' af;rw[eR];walk_at "d";exact af _
       walk_at "d";refine⟨by simp;omega,?_⟩;rw[wA ho]
       walk_at "n"
       refine xK (ps:=ps) (os:=os) (ks:=eA os b) ho (vE ho hb) h8 ?_;walk_at "d"
       walk_at "n"
       rw[show aH (chosen ps os (eA os b))=.tuple ((nrB ps os b).map aX)from rfl];have nl:(nrB ps os b).length=ps.length:=j9
       walk_at "n"
       cases s with
       |tuple xs=>
        walk_at "d";by_cases hxl:xs.length=(nrB ps os b).length
        ·rw[cf yw];rw[mQ,ge hxl,js]at q;have ez:cZ xs ((nrB ps os b).map aX)=(xs.zip (nrB ps os b)).map fun q=>.tuple [q.1,aX q.2]:=by
          have:=h9 (fun d:bn=>d) aX xs (nrB ps os b)
          rwa [map_id']at this
         walk_at "n";rw[ez];refine cY (fun i δ S=>∃(u9 ae:Option XV),S=[]/\(∀p∈(xs.zip (nrB ps os b)).take i,inP p.2 p.1=true)/\δ=[some (.d (aH ps)),some (.d (.tuple (gs.map cQ))),some (.d (.tuple (os.map aY))),some (.d (.int price)),some (.d (.tuple ((kN b).map fun k:Nat=>bw (k:Int)))),some (.d (.tuple [.str z,.int k,.tuple xs])),some (.d (cH (eA os b))),some (.d (.tuple ((nrB ps os b).map aX))),some (.d (.tuple xs)),u9,ae,none,none]) ⟨_,_,rfl,yv,rfl⟩ ?_ ?_
         ·rintro i d _ _ N hi ⟨u9,ae,rfl,ha,rfl⟩ hN;obtain⟨⟨d1,p1⟩,ht,rfl⟩:=iH hi;have no:inP p1 d1=false->R (.d (.bool false)) []:=fun hf=>by
           have:((xs.zip (nrB ps os b)).map fun q=>inP q.2 q.1).all id=false:=by
            rw[List.all_eq_false];exact⟨_,me (bu ht),by simp[hf]⟩
           rw[this]at q;exact q
          have ag:inP p1 d1=true->∀p∈(xs.zip (nrB ps os b)).take (i+1),inP p.2 p.1=true:=fun hf p mp=>by
           rw[ke,ht]at mp;rcases mem_append.mp mp with mp|mp
           ·exact ha p mp
           ·have:p=(d1,p1):=by simpa using mp
            rw[this];exact hf
          rw[j0];walk_at "d";refine xJ ?_;cases d1 with
          |int x=>
           have e0:inP p1 (.int x)=decide (p1.2.1<=x/\x<=p1.2.2):=rfl;rw[e0]at no ag;simp only[bU];walk_at "d";by_cases h1:x<p1.2.1
           ·rw[cg h1];exact no (dw yw)
           ·rw[cf h1];by_cases h2:p1.2.2<x
            ·rw[cg h2];exact no (dw yw)
            ·rw[cf h2];exact hN _ _ ⟨_,_,rfl,ag (ge yw),rfl⟩
          |none=>(simp only[bU];walk_at "d";exact no rfl)
          |bool b=>(simp only[bU];walk_at "d";exact no rfl)
          |str b=>(simp only[bU];walk_at "d";exact no rfl)
          |list b=>(simp only[bU];walk_at "d";exact no rfl)
          |dict b=>(simp only[bU];walk_at "d";exact no rfl)
          |tuple b=>(simp only[bU];walk_at "d";exact no rfl)
         ·rintro _ _ ⟨u9,ae,rfl,ha,rfl⟩;rw[fw,oy]at ha;have ac:((xs.zip (nrB ps os b)).map fun q=>inP q.2 q.1).all id=true:=by
           rw[ki];intro y my;obtain⟨p,mp,rfl⟩:=mem_map.mp my;exact ha p mp
          obtain⟨ab,rfl,ah⟩:=r8.mp ⟨hxl,ac⟩;rw[ac,js,show cr (ab.map bw)=aC ab from rfl,lQ]at q;have h3:Tm3 ab.length (eU gs k).ts:=by rw[ah.len,nl];exact(hg _ m3).tm3 h8
          walk_at "n"
          walk_at "n"
          refine⟨_,e3,?_⟩;rw[fX,lE]
          walk_at "n"
          refine cmp2 (S0:=[]) (fun t:Term=>.int (t.2*ab.getD t.1 0)) rfl (eU gs k).ts (by have:=h3.len;omega) ?_ ?_
          ·intro t mt u v acc R' af;obtain⟨t1,t2,t3⟩:=h3.ok t mt;rw[B6];walk_at "d";refine⟨_,bY (f:=bw) (BJ t1),?_⟩;walk_at "d";exact⟨gP yw yw,af _ _⟩
          walk_at "d";refine⟨(eU gs k).ts.map fun t=>t.2*ab.getD t.1 0,by rw[jb];rfl,?_⟩;rw[show ((eU gs k).ts.map fun t=>t.2*ab.getD t.1 0).sum=worth (eU gs k).ts ab from rfl];unfold pA at q;by_cases h1:worth (eU gs k).ts ab<(eU gs k).lo
          ·rw[cg h1];rw[dw yw]at q;exact q
          ·rw[cf h1];refine Rb' q ?_;rw[<- decide_not];simp only[decide_eq_decide];omega
        ·rw[cg yw];rw[mQ,dw hxl]at q;exact q
       |none=>(walk_at "d";exact q)
       |bool b=>(walk_at "d";exact q)
       |int b=>(walk_at "d";exact q)
       |str b=>(walk_at "d";exact q)
       |list b=>(walk_at "d";exact q)
       |dict b=>(walk_at "d";exact q)
      ·rw[dw hk2]at q;rw[cg (by simpa using hk2)];exact q
     |none=>(walk_at "d";exact q)
     |bool b=>(walk_at "d";exact q)
     |str b=>(walk_at "d";exact q)
     |list b=>(walk_at "d";exact q)
     |dict b=>(walk_at "d";exact q)
     |tuple b=>(walk_at "d";exact q)
    ·rw[dw hz];exact aa rfl (dw hz)
   |none=>exact aa rfl rfl
   |bool b=>exact aa rfl rfl
   |int b=>exact aa rfl rfl
   |list b=>exact aa rfl rfl
   |dict b=>exact aa rfl rfl
   |tuple b=>exact aa rfl rfl
 |none=>(walk_at "d";exact q)
 |bool b=>(walk_at "d";exact q)
 |int b=>(walk_at "d";exact q)
 |str b=>(walk_at "d";exact q)
 |list b=>(walk_at "d";exact q)
 |dict b=>(walk_at "d";exact q)
theorem Kp{a b:List Int}(h:a.map (kc:Int->Key)=b.map kc):a=b:=(List.map_inj_right fun _ _ e=>Sum.inl.inj e).mp h
def Cnt(B:List (List Int))(m:List (List Key×bn)):Prop:=∀b:List Int,(lkA m (b.map kc)).getD (.int 0)=.int ((B.filter fun c=>decide (c=b)).length:Nat)
theorem IW{B:List (List Int)}{m:List (List Key×bn)}{z:List Int}(hc:Cnt B m)(hz:z.length<=100)(q:R (.d (.int (fR B z:Nat))) []):sO [.d (aC z),.d (.dict (DD.pairs (.t m)))] [] R:=by
 unfold sO aC;walk_at "d";have ei:f7 0 ((z.length:Int)+1).toNat=(fq (z.length+1)).map fun k:Nat=>bw (0+(k:Int)):=by
  rw[show ((z.length:Int)+1).toNat=z.length+1 by omega];simp[f7]
 rw[ei];refine cmp1 (S0:=[]) (fun k:Nat=>.int (((B.filter fun c=>decide (c=z.take k)).length:Nat):Int)) rfl (fq (z.length+1)) (by simp;omega) ?_ ?_
 ·intro k mk u acc R' aa;have:=aa (some (.d (.int (0+(k:Int)))));rw[lv]at this ⊢;walk_at "d";rw[vK,<- map_take];refine⟨m,rfl,(z.take k).map kc,wB (z.take k),?_⟩;rw[hc];exact this
 ·walk_at "d";refine⟨(fq (z.length+1)).map fun k=>(((B.filter fun c=>decide (c=z.take k)).length:Nat):Int),by rw[jb];rfl,?_⟩;have e:((fq (z.length+1)).map fun k=>(((B.filter fun c=>decide (c=z.take k)).length:Nat):Int)).sum=((fR B z:Nat):Int):=by
   rw[<- FE];generalize fq (z.length+1)=l;induction l with
   |nil=>rfl
   |cons x l ih=>
    rw[fm,fm,sum_cons,sum_cons,ih];omega
  rw[e];exact q
theorem Jn:∀A B:List (List Int),jj (.list (A.map aC)) (.list (B.map aC))=decide (A=B):=by
 intro A B;show PyData.eqvAll (A.map aC) (B.map aC)=_;induction A generalizing B with
 |nil=>
  cases B with
  |nil=>rfl
  |cons y B=>rfl
 |cons x A ih=>
  cases B with
  |nil=>rfl
  |cons y B=>
   rw[fm,fm];show (jj (aC x) (aC y)&&PyData.eqvAll (A.map aC) (B.map aC))=_;rw[ih,C8,<- Bool.decide_and];simp only[decide_eq_decide,qj]
theorem Ay:∀{l m:List (List Int)},l.Pairwise (fun x y=>HT.lexLt y x=false)->m.Pairwise (fun x y=>HT.lexLt y x=false)->l.Perm m->l=m
 | [],m,_,_,p=>by rw[p.nil_eq]
 |x::l,[],_,_,p=>by cases p.length_eq
 |x::l,y::m,hl,hm,p=>by
  have e:x=y:=by
   rw[pairwise_cons]at hl hm;by_cases e:x=y
   ·exact e
   ·have h1:HT.lexLt x y=false:=by
     rcases mem_cons.mp (p.mem_iff.mp df)with z|z
     ·exact absurd z e
     ·exact hm.1 x z
    have h2:HT.lexLt y x=false:=by
     rcases mem_cons.mp (p.mem_iff.mpr df)with z|z
     ·exact absurd z.symm e
     ·exact hl.1 y z
    have:=y8 h2 e;rw[h1]at this;cases this
  subst e;rw[Ay (pairwise_cons.mp hl).2 (pairwise_cons.mp hm).2 ((List.perm_cons x).mp p)]
theorem Km{d:bn}(ho:OC ps os)(hg:∀g∈gs,Tms ps.length g.ts)(hd:ThB d)
  (q:R (.d (.bool (iY ps gs os price d))) []):rV [.d (aH ps),.d (cA gs),.d (aS os),.d (.int price),.d d] [] R:=by
 have h8:=ho.h8;have ap:=ho.len;have few:=ho.few;unfold rV;cases d with
 |list rows=>
  have hl:=hd.len rows rfl;have hw:=hd.why rows rfl;walk_at "d"
  walk_at "n"
  have aa:∀{r:bn},r∈rows->(t2 r=false\/bgN (szO os) (fs1 r)=false\/frB ps gs os price r=false)->R (.d (.bool false)) []:=by
   intro r m h;have:iY ps gs os price (.list rows)=false:=by
    cases hb:iY ps gs os price (.list rows)with
    |false=>rfl
    |true=>
     rw[sJ,pZ]at hb;unfold iU at hb;simp only[gf,ki]at hb;obtain⟨⟨h2,h3,_⟩,h4⟩:=hb;rcases h with h|h|h
     ·rw[h2 r m]at h;cases h
     ·rw[h3 _ (me m)]at h;cases h
     ·rw[h4 r m]at h;cases h
   rw[this]at q;exact q
  walk_at "n"
  refine cY (fun i δ S=>∃(u5 u6 u7:Option XV),S=[]/\(∀r∈rows.take i,t2 r=true/\bgN (szO os) (fs1 r)=true/\frB ps gs os price r=true)/\δ=[some (.d (aH ps)),some (.d (cA gs)),some (.d (aS os)),some (.d (.int price)),some (.d (.list rows)),u5,u6,u7,none,none,none]) ⟨none,none,none,rfl,yv,rfl⟩ ?_ ?_
  ·rintro i r _ _ N hi ⟨u5,u6,u7,rfl,hr,rfl⟩ hN;have mr:=bu hi;walk_at "d"
   walk_at "n"
   cases h2:t2 r with
   |false=>
    cases r with
    |tuple ds=>
     match ds,h2 with
     | [],h2=>(walk_at "d";exact aa mr (.inl h2))
     | [_],h2=>(walk_at "d";exact aa mr (.inl h2))
     |_::_::_::ds,h2=>
      walk_at "d";rw[cg yw];exact aa mr (.inl h2)
    |none=>(walk_at "d";exact aa mr (.inl h2))
    |bool b=>(walk_at "d";exact aa mr (.inl h2))
    |int b=>(walk_at "d";exact aa mr (.inl h2))
    |str b=>(walk_at "d";exact aa mr (.inl h2))
    |list b=>(walk_at "d";exact aa mr (.inl h2))
    |dict b=>(walk_at "d";exact aa mr (.inl h2))
   |true=>
    have e:=tE h2;have ew:=hw r mr _ _ e;generalize hb0:fs1 r=b0 at e;generalize hw0:sn1 r=w at e ew;have F:(bgN (szO os) b0=false\/frB ps gs os price r=false)->R (.d (.bool false)) []:=fun h=>aa mr (.inr (by rw[hb0];exact h));rw[e];cases b0 with
    |tuple ds=>
     unfold aS;walk_at "d";by_cases hdl:ds.length<=os.length
     ·rw[cf yw];have eb:bgN (szO os) (.tuple ds)=((ds.zip os).map fun q=>chN q.2.length q.1).all id:=by
       rw[mK,ge (by simpa[szO]using hdl),js];unfold szO;rw[List.zip_map_right,jb];rfl
      have ez:cZ ds (os.map aY)=(ds.zip os).map fun q=>.tuple [q.1,aY q.2]:=by
       have:=h9 (fun d:bn=>d) aY ds os
       rwa [map_id']at this
      walk_at "n";rw[ez];refine cY (fun i δ S=>∃(u6 u7:Option XV),S=[]/\(∀p∈(ds.zip os).take i,chN p.2.length p.1=true)/\δ=[some (.d (aH ps)),some (.d (cA gs)),some (.d (.tuple (os.map aY))),some (.d (.int price)),some (.d (.list rows)),some (.d (.tuple [.tuple ds,w])),u6,u7,none,none,none]) ⟨_,_,rfl,yv,rfl⟩ ?_ ?_
      ·rintro i2 d _ _ N2 ak ⟨u6,u7,rfl,ha,rfl⟩ am;obtain⟨⟨d1,l1⟩,ht,rfl⟩:=iH ak;have no:chN l1.length d1=false->R (.d (.bool false)) []:=fun hf=>F (.inl (by
        rw[eb,List.all_eq_false];exact⟨_,me (bu ht),by simp[hf]⟩))
       have af:chN l1.length d1=true->∀p∈(ds.zip os).take (i2+1),chN p.2.length p.1=true:=fun hf p mp=>by
        rw[ke,ht]at mp;rcases mem_append.mp mp with mp|mp
        ·exact ha p mp
        ·have:p=(d1,l1):=by simpa using mp
         rw[this];exact hf
       rw[eR];walk_at "d";refine xJ ?_;cases d1 with
       |int x=>
        have e0:chN l1.length (.int x)=decide (0<=x/\x<(l1.length:Nat)):=rfl;rw[e0]at no af;simp only[bU];walk_at "d";by_cases h1:0<=x/\x<(l1.length:Int)
        ·rw[cf (by simpa using h1)];exact am _ _ ⟨_,_,rfl,af (ge h1),rfl⟩
        ·rw[cg (by simpa using h1)];exact no (dw h1)
       |none=>(simp only[bU];walk_at "d";exact no rfl)
       |bool b=>(simp only[bU];walk_at "d";exact no rfl)
       |str b=>(simp only[bU];walk_at "d";exact no rfl)
       |list b=>(simp only[bU];walk_at "d";exact no rfl)
       |dict b=>(simp only[bU];walk_at "d";exact no rfl)
       |tuple b=>(simp only[bU];walk_at "d";exact no rfl)
      ·rintro _ _ ⟨u6,u7,rfl,ha,rfl⟩;rw[fw,oy]at ha;have ac:bgN (szO os) (.tuple ds)=true:=by
        rw[eb,ki];intro y my;obtain⟨p,mp,rfl⟩:=mem_map.mp my;exact ha p mp
       obtain⟨b,ah,an⟩:=uR.mp ac;have er:frB ps gs os price r=fwB ps gs os price b w:=by
        unfold frB;rw[hb0,hw0,ah,lQ]
       walk_at "d";rw[ah];refine Ao ho.toOffs h8 hg an ew ?_;rw[<- er];cases hy:frB ps gs os price r with
       |false=>(walk_at "d";exact F (.inr hy))
       |true=>
        walk_at "d";refine hN _ _ ⟨_,_,_,rfl,fun x mx=>?_,rfl⟩;rw[ke,hi]at mx;rcases mem_append.mp mx with mx|mx
        ·exact hr x mx
        ·have:x=r:=by simpa using mx
         subst this;exact⟨h2,by rw[hb0];exact ac,hy⟩
     ·rw[cg yw];refine F (.inl ?_);rw[mK,dw (by simpa[szO]using hdl)];rfl
    |none=>(walk_at "d";exact F (.inl rfl))
    |bool b=>(walk_at "d";exact F (.inl rfl))
    |int b=>(walk_at "d";exact F (.inl rfl))
    |str b=>(walk_at "d";exact F (.inl rfl))
    |list b=>(walk_at "d";exact F (.inl rfl))
    |dict b=>(walk_at "d";exact F (.inl rfl))
  ·rintro _ _ ⟨u5,u6,u7,rfl,hr,rfl⟩;rw[oy]at hr;have hB:∃L:List (List Int×bn),rows=L.map (fun q=>.tuple [aC q.1,q.2])/\∀q∈L,Bgn (szO os) q.1:=by
    have:∀l:List bn,(∀r∈l,t2 r=true/\bgN (szO os) (fs1 r)=true)->∃L:List (List Int×bn),l=L.map (fun q=>.tuple [aC q.1,q.2])/\∀q∈L,Bgn (szO os) q.1:=by
     intro l;induction l with
     |nil=>exact fun _=>⟨[],rfl,fun q m=>by cases m⟩
     |cons r l ih=>
      intro h;obtain⟨L,rfl,hL⟩:=ih fun x m=>h x (cu _ m);obtain⟨a1,a2⟩:=h r df;obtain⟨b,e1,hb⟩:=uR.mp a2;refine⟨(b,sn1 r)::L,?_,fun q m=>?_⟩
      ·rw[fm];congr 1;rw[tE a1,e1];rfl
      ·rcases mem_cons.mp m with rfl|m
       ·exact hb
       ·exact hL q m
    exact this rows fun r m=>⟨(hr r m).1,(hr r m).2.1⟩
   obtain⟨L,rfl,hL⟩:=hB;rw[fw]at hl;have ai:∀b∈L.map (·.1),Bgn (szO os) b:=fun b m=>by obtain⟨q,mq,rfl⟩:=mem_map.mp m;exact hL q mq
   have ag:iY ps gs os price (.list (L.map (fun q=>.tuple [aC q.1,q.2])))=(dH (L.map (·.1))&&decide (gS (szO os) (L.map (·.1))=aM (szO os))):=by
    rw[sJ,pZ];unfold iU;have e1:((L.map (fun q=>cr [aC q.1,q.2])).map fs1).map bgO=L.map (·.1):=by
     rw[jb,jb];exact kr fun q _=>lQ q.1
    rw[e1];have a1:(L.map (fun q=>cr [aC q.1,q.2])).all t2=true:=all_eq_true.mpr fun r m=>(hr r m).1;have a2:((L.map (fun q=>cr [aC q.1,q.2])).map fs1).all (bgN (szO os))=true:=all_eq_true.mpr fun x m=>by
     obtain⟨r,mr,rfl⟩:=mem_map.mp m;exact(hr r mr).2.1
    have a3:(L.map (fun q=>cr [aC q.1,q.2])).all (frB ps gs os price)=true:=all_eq_true.mpr fun r m=>(hr r m).2.2;rw[a1,a2,a3];simp only[js,Bool.and_true]
   have ab:=KY ho.sz.2 ai;rw[ag]at q
   walk_at "n"
   walk_at "n"
   refine cmp1 (S0:=[]) (fun q:List Int×bn=>aC q.1) rfl L yw ?_ ?_
   ·intro x mx u acc R' hk;walk_at "d";exact hk _
   walk_at "d";have e2:L.map (fun q=>aC q.1)=(L.map (·.1)).map aC:=by rw[jb];rfl
   rw[e2];have ao:(L.map (·.1)).length<=900:=by simpa using hl
   generalize L.map (·.1)=B at q ab ai ao;walk_at "n";have aj:∀B:List (List Int),gn (.list (B.map aC))=true:=fun B=>(r9 (n:=1) (xR fun b _=>lO b)).ok;refine⟨B,rfl,yw,fun ae hp hs=>⟨aj B,aj ae,?_⟩⟩;rw[show ae.map fK=ae.map aC from rfl,Jn];by_cases hBs:B.Pairwise fun x y=>HT.lexLt y x=false
   ·rw[cf (by rw[ge (Ay hBs hs hp.symm)];decide)];refine seq1 ?_;unfold iK tT;walk_at "d";intro a _;refine DH (fun i δ S M=>∃(m:List (List Key×bn)) (u:Option XV),S=[]/\M=[(a,.t m)]/\m.length<=i/\Cnt (B.take i) m/\δ=[some (.d (aH ps)),some (.d (cA gs)),some (.d (aS os)),some (.d (.int price)),some (.d (.list (L.map (fun q=>.tuple [aC q.1,q.2])))),u5,u6,u7,some (.d (.list (B.map aC))),some (.o (.ref a)),u]) ⟨[],none,rfl,rfl,ff _,fun b=>rfl,rfl⟩ ?_ ?_
    ·rintro i d _ _ _ N hi ⟨m,u,rfl,rfl,hm,hk,rfl⟩ hN;obtain⟨b,eb,rfl⟩:=iH hi;have il:i<B.length:=(List.getElem?_eq_some_iff.mp eb).1;walk_at "d";refine⟨.t m,.inl ⟨a,rfl,yv⟩,lkA m (b.map kc),by show (fS (aC b)).map _=_;rw[wB];rfl,?_⟩;rw[hk b];walk_at "d";have pl:=Ii (m:=m) (k:=b.map kc) (v:=.int ((((B.take i).filter fun c=>decide (c=b)).length:Nat)+1));refine⟨a,rfl,.t m,.t (ptA m (b.map kc) (.int ((((B.take i).filter fun c=>decide (c=b)).length:Nat)+1))),yv,by show (fS (aC b)).map _=_;rw[wB];rfl,by show m.length<1000;omega,?_⟩;refine hN _ _ _ ⟨ptA m (b.map kc) (.int ((((B.take i).filter fun c=>decide (c=b)).length:Nat)+1)),_,rfl,by simp[jQ],yw,fun c=>?_,rfl⟩;rw[L7,ke,eb,List.filter_append,cx];by_cases ebc:b=c
     ·subst ebc;rw[cg rfl];simp
     ·rw[cf fun z=>ebc (Kp z),hk c];simp[ebc]
    ·rintro _ _ _ ⟨m,u,rfl,rfl,hm,hk,rfl⟩;rw[fw]at hm hk;rw[oy]at hk;walk_at "d";refine⟨[],m,rfl,?_⟩;simp only[nP,if_true];walk_at "d";refine KM ho ?_;walk_at "d";refine cmp1 (S0:=[]) (fun z:List Int=>.bool (decide (fR B z=1))) rfl (fil (szO os)) (by rw[qO];omega) ?_ ?_
     ·intro z mz v acc R' al;have zl:=(uO.mp mz).1;walk_at "d";refine IW hk (by rw[zl];simp[szO];omega) ?_;walk_at "d";have:=al (some (.d (aC z)));have ed:decide (((fR B z:Nat):Int)=1)=decide (fR B z=1):=by
       simp only[decide_eq_decide];omega
      rw[ed];exact this
     walk_at "d";refine⟨(fil (szO os)).map fun z=>decide (fR B z=1),by rw[jb];rfl,?_⟩;refine Rb' q ?_;rw[Bool.eq_iff_iff,gf,decide_eq_true_eq,ab,all_map,ki];simp only[Function.comp,id,decide_eq_true_eq];exact⟨fun h=>h.2,fun h=>⟨hBs,h⟩⟩
   ·rw[cg (dw fun e=>hBs (by rw[e];exact hs))];refine Rb' q ?_;cases hh:(dH B&&decide (gS (szO os) B=aM (szO os)))with
    |false=>rfl
    |true=>
     rw[gf,decide_eq_true_eq]at hh;exact absurd (ab.mp hh).1 hBs
 |none=>(walk_at "d";walk_at "n";exact q)
 |bool b=>(walk_at "d";walk_at "n";exact q)
 |int b=>(walk_at "d";walk_at "n";exact q)
 |str b=>(walk_at "d";walk_at "n";exact q)
 |tuple b=>(walk_at "d";walk_at "n";exact q)
 |dict b=>(walk_at "d";walk_at "n";exact q)
end
end
section
variable {R:RX}{S:Sto}{EX:EXD}
section
variable {ps:List Part}{os:List (List Off)}{gs:List Gap}{price:Int}{b:List Int}
theorem wY{d:bn}(ho:OC ps os)(hg:∀g∈gs,Tms ps.length g.ts)(hd:ThB d)
  (q:R (.d (.bool true)) []):lY [.d (aH ps),.d (cA gs),.d (aS os),.d (.int price),.d d] [] R:=by
 unfold lY;walk_at "d"
 walk_at "n"
 refine Kh ho.toOffs ho.h8 hg hd ?_;walk_at "d";refine Km ho hg hd ?_;walk_at "d";generalize iY ps gs os price d=b0;cases b0<;>exact q
def whK(n m:Nat)(w:bn):Prop:=w=.tuple [.str "dear"]\/∃(k:Nat) (one:List Int),k<m/\one.length=n/\w=.tuple [.str "breaks",.int k,aC one]
def whX(n m:Nat)(w:bn):Prop:=∃(k:Nat) (one:List Int),k<m/\one.length=n/\w=.tuple [.str "breaks",.int k,aC one]
def RwK(n m:Nat)(r:bn):Prop:=∃(b:List Int) (w:bn),r=.tuple [aC b,w]/\b.length<=8/\whK n m w
theorem vM{z:bn}{k:bn}{x:bn}(hz:Shp 1 z)(hk:Shp 1 k)(hx:Shp 1 x):WT (.tuple [z,k,x]):=
 ⟨(lB (n:=1) fun d m=>by
  simp only[ix,gk,or_false]at m;rcases m with rfl|rfl|rfl<;>assumption).ok,fun ds e y m=>by
  cases e;simp only[ix,gk,or_false]at m;rcases m with rfl|rfl|rfl
  ·exact hz.ok
  ·exact hk.ok
  ·exact hx.ok⟩
theorem oE{n:Nat}:Shp n (.str "breaks"):=⟨by decide +kernel,by show 0<=n;omega⟩
theorem uM{n m:Nat}{w:bn}(h:whK n m w):WT w:=by
 rcases h with rfl|⟨k,one,_,_,rfl⟩
 ·exact sC (.inl rfl)
 ·exact vM oE fG (lO one)
theorem FL{P:bn->Prop}{acc:List (Key×bn)}{k:Key}{v:bn}(h:∀p∈acc,P p.2)(hv:P v):∀p∈ptA acc k v,P p.2:=by
 unfold ptA;split
 ·intro p m;obtain⟨x,mx,rfl⟩:=mem_map.mp m;split
  ·exact hv
  ·exact h x mx
 ·intro p m;rcases mem_append.mp m with m|m
  ·exact h p m
  ·rw[mem_singleton.mp m];exact hv
theorem AQ{P:bn->Prop}:∀(kvs acc:List (Key×bn)),(∀p∈acc,P p.2)->(∀p∈kvs,P p.2)->∀p∈kvs.foldl (fun m p=>ptA m p.1 p.2) acc,P p.2
 | [],acc,h,_=>h
 |q::r,acc,h,hk=>by
  rw[qw];exact AQ r _ (FL h (hk q df)) fun p m=>hk p (cu _ m)
theorem Jc{P:bn->Prop}{m:List (Key×bn)}{k:Key}{v:bn}(h:∀p∈m,P p.2)(e:lkA m k=some v):P v:=by
 unfold lkA at e;cases hf:m.find? (fun p=>decide (p.1=k))with
 |none=>rw[hf]at e;cases e
 |some p=>
  rw[hf]at e;cases e;exact h p (List.mem_of_find?_eq_some hf)
def tmM(g:Gap):List (Key×bn):=p0 (g.ts.map fun t:Term=>((kc (t.1:Int):Key),bw t.2))
theorem AV(g:Gap)(k:Key):∃o:Int,(lkA (tmM g) k).getD (.int 0)=.int o:=by
 have hv:∀p∈tmM g,∃i,p.2=.int i:=AQ (P:=fun d=>∃i,d=.int i) _ [] (fun p m=>by cases m) fun p m=>by
  obtain⟨t,_,rfl⟩:=mem_map.mp m;exact⟨_,rfl⟩
 cases hq:lkA (tmM g) k with
 |none=>exact⟨0,rfl⟩
 |some v=>exact Jc (P:=fun d=>∃i,d=.int i) hv hq
theorem El(p:Part)(up o:Int):∃v:Int,atI [jo p.1,.int p.2.1,.int p.2.2] (1+(up+if o<0 then 1 else 0) % 2)=some (.int v):=by
 have h2:(up+if o<0 then 1 else 0) % 2=0\/(up+if o<0 then 1 else 0) % 2=1:=yw
 generalize (up+if o<0 then 1 else 0) % 2=x at h2;rcases h2 with h|h<;>rw[h]<;>exact⟨_,rfl⟩
theorem Jf(ho:Offs ps os)(h8:ps.length<=8)(gl:gs.length<=100)(hg:∀g∈gs,Tms ps.length g.ts)(hb:Bgn (szO os) b)
  (q:∀ws:List bn,ws.length=2*gs.length->(∀w∈ws,whX ps.length gs.length w)->R (.d (.list ws)) []):tU [.d (aH ps),.d (cA gs),.d (aS os),.d (aC b)] [] R:=by
 have hl:=ho.len;obtain⟨e,kl,bl,hk⟩:=mO hb;unfold tU;refine seq1 ?_;rw[e];unfold aS cH;walk_at "d";have c1:aL (os.map aY) (some ((kN b).length:Int)) none=(os.drop b.length).map aY:=by
  rw[kl,pR (by simpa using bl),map_drop]
 rw[c1];refine cmp1 (S0:=[]) (fun l:List Off=>bw ((l.length:Int)-1)) rfl (os.drop b.length) (by simp;omega) ?_ ?_
 ·intro l ml u acc R' ak;rw[eR];walk_at "d";exact ak _
 walk_at "d";refine⟨by simp;omega,?_⟩;rw[wA ho]
 walk_at "n"
 refine xK (ps:=ps) (os:=os) (ks:=eA os b) ho (vE ho hb) h8 ?_;walk_at "d"
 walk_at "n"
 unfold cA;walk_at "n";have cl:(chosen ps os (eA os b)).length=ps.length:=j9;rw[lp];generalize chosen ps os (eA os b)=cs at cl;refine cY (fun i δ S=>∃(ws:List bn) (T:Sto) (u7 u8 u9 af ab:Option XV),S=ws::T/\ws.length=2*i/\(∀w∈ws,whX ps.length gs.length w)/\δ=[some (.d (aH ps)),some (.d (.tuple (gs.map cQ))),some (.d (.tuple (os.map aY))),some (.d (.tuple ((kN b).map fun k:Nat=>bw (k:Int)))),some (.d (cH (eA os b))),some (.d (aH cs)),some (.l 0),u7,u8,u9,af,ab]) ⟨[],[],_,_,_,_,_,rfl,rfl,yv,rfl⟩ ?_ ?_
 ·rintro i d _ _ N hi ⟨ws,T,u7,u8,u9,af,ab,rfl,ac,ae,rfl⟩ hN;obtain⟨ah,rfl⟩:=fH hi;have eg:=cn ah;generalize gs[i]'ah=g at eg;have ht:=hg g (bu eg);rw[lv];walk_at "d";walk_at "n";refine⟨_,bY eg,?_⟩;rw[fX,lE];walk_at "d";refine⟨g.ts.map fun t:Term=>(kc (t.1:Int),bw t.2),by rw[jb];rfl,by have:=ht.len;simp;omega,?_⟩;rw[show p0 (g.ts.map fun t:Term=>((kc (t.1:Int):Key),bw t.2))=tmM g from rfl];refine cY (fun j δ S=>∃(ws:List bn) (T:Sto) (u9 af ab:Option XV),S=ws::T/\ws.length=2*i+j/\(∀w∈ws,whX ps.length gs.length w)/\δ=[some (.d (aH ps)),some (.d (.tuple (gs.map cQ))),some (.d (.tuple (os.map aY))),some (.d (.tuple ((kN b).map fun k:Nat=>bw (k:Int)))),some (.d (cH (eA os b))),some (.d (aH cs)),some (.l 0),some (.d (.int (i:Int))),some (.d (.dict (DD.pairs (.k (tmM g))))),u9,af,ab]) ⟨ws,T,_,_,_,rfl,ac,ae,rfl⟩ ?_ ?_
  ·rintro j d _ _ N2 hj ⟨ws,T,u9,af,ab,rfl,ac,ae,rfl⟩ al;have jl:j<2:=(List.getElem?_eq_some_iff.mp hj).1;obtain⟨up,rfl⟩:∃up:Int,d=.int up:=by
    have m:=bu hj;simp only[ix,gk,or_false]at m;rcases m with rfl|rfl<;>exact⟨_,rfl⟩
   walk_at "d"
   walk_at "n"
   unfold aH;walk_at "n";rw[lp];refine cY (fun n δ S=>∃(aa:List Int) (ab:Option XV),S=ws::(T++[aa.map bw])/\aa.length=n/\δ=[some (.d (.tuple (ps.map aX))),some (.d (.tuple (gs.map cQ))),some (.d (.tuple (os.map aY))),some (.d (.tuple ((kN b).map fun k:Nat=>bw (k:Int)))),some (.d (cH (eA os b))),some (.d (.tuple (cs.map aX))),some (.l 0),some (.d (.int (i:Int))),some (.d (.dict (DD.pairs (.k (tmM g))))),some (.d (.int up)),some (.l (T.length+1)),ab]) ⟨[],_,rfl,rfl,rfl⟩ ?_ ?_
   ·rintro n d _ _ N3 hn ⟨aa,ab,rfl,ag,rfl⟩ aj;obtain⟨am,rfl⟩:=fH hn;have ec:=cn (show n<cs.length by omega);generalize cs[n]'yw=c at ec;rw[lv];obtain⟨o,eo⟩:=AV g (kc (n:Int));obtain⟨v,ev⟩:=El c up o;walk_at "d";refine⟨yw,_,bY ec,.k (tmM g),.inr ⟨_,rfl,rfl⟩,lkA (tmM g) (kc (n:Int)),rfl,?_⟩;rw[eo,j0];walk_at "d";refine⟨_,ev,?_⟩;have ai:(T++[aa.map bw])[T.length]?=some (aa.map bw):=by simp
    have sl:∀x,(T++[aa.map bw]).set T.length x=T++[x]:=fun x=>by simp
    walk_at "d";refine⟨_,ai,by simp;omega,?_⟩;rw[sl];exact aj _ _ ⟨aa++[v],_,yv,by simp[ag],rfl⟩
   ·rintro _ _ ⟨aa,ab,rfl,ag,rfl⟩;rw[eV]at ag;walk_at "d";refine⟨yw,aa.map bw,yv,yw,al _ _ ⟨ws++[.tuple [.str "breaks",.int i,aC aa]],T++[aa.map bw],_,_,_,rfl,by simp[ac];omega,fun w mw=>?_,rfl⟩⟩;rcases mem_append.mp mw with mw|mw
    ·exact ae w mw
    ·rw[mem_singleton.mp mw];exact⟨i,aa,ah,ag,rfl⟩
  ·rintro _ _ ⟨ws,T,u9,af,ab,rfl,ac,ae,rfl⟩;exact hN _ _ ⟨ws,T,_,_,_,_,_,rfl,ac,ae,rfl⟩
 ·rintro _ _ ⟨ws,T,u7,u8,u9,af,ab,rfl,ac,ae,rfl⟩;rw[eV]at ac;walk_at "d";exact .inl (q ws ac ae)
theorem y9{n m:Nat}{w:bn}(h:whX n m w):whK n m w:=.inr h
theorem DR(ho:OC ps os)(g1:1<=gs.length)(gl:gs.length<=100)(hg:∀g∈gs,Tms ps.length g.ts):∀(m:Nat) (b:List Int) (p:List bn) (R:RX),Bgn (szO os) b->os.length-b.length<m->zW p ->
  (∀(aa:List bn) p',(∀r∈aa,RwK ps.length gs.length r)->1<=aa.length->aa.length<=aM ((szO os).drop b.length)->zW p'->R (.d (.list aa)) [p'])->lZ m [.l 0,.d (aH ps),.d (cA gs),.d (aS os),.d (.int price),.d (aC b)] [p] R
 | 0,_,_,_,_,h,_,_=>absurd h (Nat.not_lt_zero _)
 |m+1,b,p,R,hb,hm,hp,q=>by
  have h8:=ho.h8;have hl:=ho.len;have bl:=tP hb;have av:b.length<=os.length:=by simpa[szO]using bl
  have pp:1<=aM ((szO os).drop b.length):=qS fun x m=>ho.sz.2 x (lu m);have af:∀w p',whK ps.length gs.length w->zW p'->R (.d (.list [.tuple [aC b,w]])) [p']:=fun w p' hw ao=>q _ p' (fun r mr=>by rw[mem_singleton.mp mr];exact⟨b,w,rfl,yw,hw⟩) (ff _) pp ao;unfold lZ;walk_at "d"
  walk_at "n"
  refine AU ho.toOffs h8 hb ?_;walk_at "d";by_cases hpr:price<=pcO os (kN b)
  ·rw[cg hpr];walk_at "d";exact .inl (af _ _ (.inl rfl) hp)
  ·rw[cf hpr]
   walk_at "n"
   refine Jf ho.toOffs h8 gl hg hb fun ws aw aj=>?_;walk_at "d";walk_at "n";have aq:ws=ws.map id:=(map_id ws).symm;rw[aq];refine cmf1 (S0:=[p]) id (fun w=>fwB ps gs os price b w) rfl ws yw ?_ ?_
   ·intro w mw u acc R' hk;walk_at "d";refine Ao ho.toOffs h8 hg hb (uM (y9 (aj w mw))) ?_;walk_at "d";exact hk _ fun _ T hT=>⟨_,rfl,hT⟩
   refine⟨[p],_,rfl,rfl,?_⟩;rw[map_id,map_id];have ak:∀w∈ws.filter (fun w=>fwB ps gs os price b w),whX ps.length gs.length w:=fun w mw=>aj w (mem_filter.mp mw).1;have ap:(ws.filter (fun w=>fwB ps gs os price b w)).length<=ws.length:=List.length_filter_le _ _;generalize ws.filter (fun w=>fwB ps gs os price b w)=gd at ak ap;have lb:∀S,kX S (.d (aC b))=some b.length:=fun S=>by unfold aC;rw[kG,fw]
   have lo:∀S,kX S (.d (aS os))=some os.length:=fun S=>by unfold aS;rw[kG,fw]
   have an:gn (.list gd)=true:=(r9 (n:=2) fun w mw=>by
    obtain⟨k,o1,_,_,rfl⟩:=ak w mw;exact lB fun d md=>by
     simp only[ix,gk,or_false]at md;rcases md with rfl|rfl|rfl
     ·exact oE
     ·exact fG
     ·exact lO o1).ok
   refine cut (fun δ S=>∃p',zW p'/\S=[p']/\δ=[some (.l 0),some (.d (aH ps)),some (.d (cA gs)),some (.d (aS os)),some (.d (.int price)),some (.d (aC b)),some (.d (.list ws)),some (.d (.list gd)),none,none]) (fun N hN=>?_) ?_
   ·have ae:∀p1,zW p1->1<=gd.length->∀r:Int,0<=r->r<(gd.length:Int)->∃d,atI gd r=some d/\whK ps.length gs.length d:=fun p1 _ h1 r r0 r1=>by
     obtain⟨d,ed,hd⟩:=gH (P:=whX ps.length gs.length) r0 r1 ak;exact⟨d,ed,y9 hd⟩
    walk_at "d";refine⟨an,by decide +kernel,?_⟩;rw[ES];by_cases hge:gd=[]
    ·rw[cf (by simp[hge])];exact hN _ _ ⟨p,hp,rfl,rfl⟩
    ·have al:1<=gd.length:=List.length_pos_iff.mpr hge;rw[cg (dw hge)];refine⟨_,lb _,_,lo _,?_⟩;by_cases ai:b.length=os.length
     ·rw[cg yw];refine zr hp yw (fD yw yw) fun r p1 r0 r1 ac=>?_;obtain⟨d,ed,hd⟩:=ae p1 ac al r r0 r1;walk_at "d";refine⟨_,ed,?_⟩;exact .inl (af _ _ hd ac)
     ·rw[cf yw];refine zr hp dz (by decide +kernel) fun r p1 r0 r1 ac=>?_;walk_at "d";by_cases hr0:0<r
      ·rw[cg hr0];refine zr ac yw (fD yw yw) fun r p2 r0 r1 ab=>?_;obtain⟨d,ed,hd⟩:=ae p2 ab al r r0 r1;walk_at "d";refine⟨_,ed,?_⟩;exact .inl (af _ _ hd ab)
      ·rw[cf hr0];exact hN _ _ ⟨p1,ac,rfl,rfl⟩
   rintro _ _ ⟨p1,ac,rfl,rfl⟩;refine cut (fun δ S=>∃p',zW p'/\b.length≠os.length/\S=[p']/\δ=[some (.l 0),some (.d (aH ps)),some (.d (cA gs)),some (.d (aS os)),some (.d (.int price)),some (.d (aC b)),some (.d (.list ws)),some (.d (.list gd)),none,none]) (fun N hN=>?_) ?_
   ·have fin:∀p1,zW p1->∀r:Int,0<=r->r<(ws.length:Int)->∃d,atI ws r=some d/\whK ps.length gs.length d:=fun p1 _ r r0 r1=>by
     obtain⟨d,ed,hd⟩:=gH (P:=whX ps.length gs.length) r0 r1 aj;exact⟨d,ed,y9 hd⟩
    walk_at "d";refine⟨_,lb _,_,lo _,?_⟩;by_cases ai:b.length=os.length
    ·rw[cg yw];refine zr ac yw (fD yw yw) fun r p2 r0 r1 ab=>?_;obtain⟨d,ed,hd⟩:=fin p2 ab r r0 r1;walk_at "d";refine⟨_,ed,?_⟩;exact .inl (af _ _ hd ab)
    ·rw[cf yw];refine zr ac dz (by decide +kernel) fun r p2 r0 r1 ab=>?_;walk_at "d";by_cases hr0:r=0
     ·rw[cg hr0];refine zr ab yw (fD yw yw) fun r p3 r0 r1 ag=>?_;obtain⟨d,ed,hd⟩:=fin p3 ag r r0 r1;walk_at "d";refine⟨_,ed,?_⟩;exact .inl (af _ _ hd ag)
     ·rw[cf hr0];exact hN _ _ ⟨p2,ab,ai,rfl,rfl⟩
   rintro _ _ ⟨p2,ab,ai,rfl,rfl⟩
   walk_at "n"
   have et:=cn (show b.length<os.length by omega);generalize hl0:os[b.length]'yw=l0 at et;have es:(szO os)[b.length]?=some l0.length:=by unfold szO;rw[im,et];rfl
   have ed:=iW es;have few:=ho.few;have dl:aM ((szO os).drop b.length)<=256:=by
    have:=uQ ((szO os).take b.length) ((szO os).drop b.length);rw[ky]at this;have p1:1<=aM ((szO os).take b.length):=qS fun x m=>ho.sz.2 x (nq m);have:aM ((szO os).drop b.length)<=aM (szO os):=by rw[this];exact Nat.le_mul_of_pos_left _ p1
    omega
   generalize hP:aM ((szO os).drop (b.length+1))=P;have eP:aM ((szO os).drop b.length)=l0.length*P:=by rw[ed,<- hP];rfl
   walk_at "n";refine⟨_,lb _,?_⟩;unfold aS;walk_at "d";refine⟨_,bY et,?_⟩;rw[eR];walk_at "d";rw[lp];have l1:1<=l0.length:=ho.sz.2 _ (bu es);refine cY (fun j δ S=>∃(aa:List bn) (p:List bn) (u:Option XV),S=[p]/\zW p/\(∀r∈aa,RwK ps.length gs.length r)/\j<=aa.length/\aa.length<=j*P/\δ=[some (.l 0),some (.d (aH ps)),some (.d (cA gs)),some (.d (.tuple (os.map aY))),some (.d (.int price)),some (.d (aC b)),some (.d (.list ws)),some (.d (.list gd)),some (.d (.list aa)),u]) ⟨[],p2,_,rfl,ab,yv,ff _,yv,rfl⟩ ?_ ?_
   ·rintro j d _ _ N hj ⟨aa,p,u,rfl,hp,hr,am,ah,rfl⟩ hN;obtain⟨au,rfl⟩:=fH hj;have jm:j*P+P<=256:=by
     have:(j+1)*P<=l0.length*P:=Nat.mul_le_mul_right _ yw;rw[succ_mul]at this;omega
    rw[lv];have eb:cr (b.map bw++[bw (j:Int)])=aC (b++[(j:Int)]):=by unfold aC;rw[map_append];rfl
    unfold aC;walk_at "d";refine⟨yw,?_⟩;rw[eb];refine DR ho g1 gl hg m (b++[(j:Int)]) p _ (Bw hb es yw yw) (by simp;omega) hp fun rs p3 ar r1 r2 ag=>?_;rw[cx,gr,hP]at r2;walk_at "d";refine⟨yw,hN _ _ ⟨aa++rs,p3,_,rfl,ag,fun r mr=>?_,by simp;omega,by rw[cx,succ_mul];omega,rfl⟩⟩;rcases mem_append.mp mr with mr|mr
    ·exact hr r mr
    ·exact ar r mr
   ·rintro _ _ ⟨aa,p,u,rfl,hp,hr,am,ah,rfl⟩;rw[eV]at am ah;walk_at "d";exact q aa p hr yw (by rw[eP];exact ah) hp
theorem JW{n m:Nat}{w:bn}(h:whK n m w):∃(ds:List bn) (x:bn),w=.tuple (ds++[x])/\Shp 1 x/\(∀d∈ds,Shp 1 d)/\ds.length<=2:=by
 rcases h with rfl|⟨k,one,_,_,rfl⟩
 ·exact⟨[],.str "dear",rfl,⟨by decide +kernel,by decide +kernel⟩,yv,yv⟩
 ·exact⟨[.str "breaks",.int k],aC one,rfl,lO one,fun d m=>by
   simp only[ix,gk,or_false]at m;rcases m with rfl|rfl
   ·exact oE
   ·exact fG,yv⟩
theorem FC{p:List bn}{w:bn}(hp:zW p)(gl:gs.length<=100)(hb:b.length<=8)(hw:whK ps.length gs.length w)(q:∀d p',RT d->zW p'->R (.d d) [p']):tS [.d (.tuple [aC b,w]),.d (aS os),.d (cA gs),.l 0] [p] R:=by
 obtain⟨ds,x,rfl,hx,ac,dl⟩:=JW hw;have ww:=uM hw;unfold tS;walk_at "d"
 walk_at "n"
 walk_at "n"
 refine zr hp dz (by decide +kernel) fun r p1 r0 r1 ab=>?_;unfold cA aC;walk_at "d"
 walk_at "n"
 by_cases h6:r<6
 ·rw[cg h6];obtain⟨d,ed,hd⟩:=gH (P:=Shp 1) (ds:=[bw 0,.int gs.length,.bool true,.none,.int (-1),.int 1]) r0 (by simpa using h6) (by
   intro d m;simp only[ix,gk,or_false]at m;rcases m with rfl|rfl|rfl|rfl|rfl|rfl
   ·exact fG
   ·exact fG
   ·exact Gd
   ·exact Id
   ·exact fG
   ·exact fG)
  walk_at "n"
  refine⟨_,ed,?_⟩;walk_at "d";refine⟨_,Ij ds x,?_⟩;exact q _ _ (eJ (vM oE hd hx)) ab
 ·rw[cf h6]
  walk_at "n"
  refine⟨yw,?_⟩;walk_at "n";have cl:=oZ (ds++[x]) none (some (-1));rw[cx,gr]at cl;walk_at "n";refine⟨yw,yw,yw,yw,yw,?_⟩;have aa:∀d∈ds++[x],Shp 1 d:=fun d m=>by
   rcases mem_append.mp m with m|m
   ·exact ac d m
   ·rw[mem_singleton.mp m];exact hx
  have w1:WT (.list (ds++[x])):=⟨(r9 aa).ok,fun _ e=>by cases e⟩;have w2:WT (.tuple (aL (ds++[x]) none (some (-1))++[.tuple (aL (ds++[x]) (some (-1)) none)])):=by
   have h2:Shp 2 (.tuple (aL (ds++[x]) (some (-1)) none)):=lB fun d m=>aa d (mF m);have h3:∀d∈aL (ds++[x]) none (some (-1))++[.tuple (aL (ds++[x]) (some (-1)) none)],Shp 2 d:=fun d m=>by
    rcases mem_append.mp m with m|m
    ·have:=aa d (mF m);exact⟨this.1,jn this.2 dz⟩
    ·rw[mem_singleton.mp m];exact h2
   exact⟨(lB h3).ok,fun _ e d m=>by cases e;exact(h3 d m).ok⟩
  obtain⟨d,ed,hd⟩:=gH (P:=RT) (ds:=[cr [cr (aL (b.map bw) none (some (-1))),cr (ds++[x])],
    cr [cr (b.map bw++[bw 0]),cr (ds++[x])],
    cr [cr (b.map bw),cr [jo "dear"]],
    cr [li (b.map bw),cr (ds++[x])],
    li [cr (b.map bw),cr (ds++[x])],
    cr [cr (b.map bw),li (ds++[x])],
    cr [cr (b.map bw++[bw 99]),cr (ds++[x])],
    cr [cr (bx ((b.length:Nat):Int).toNat [bw (-1)]).flatten,cr (ds++[x])],
    cr [cr (b.map bw)],
    cr [cr (b.map bw),cr (aL (ds++[x]) none (some (-1))++[cr (aL (ds++[x]) (some (-1)) none)])]]) (r:=r-6) yw (by simp;omega) (by
   intro d m;simp only[ix,gk,or_false]at m;rcases m with rfl|rfl|rfl|rfl|rfl|rfl|rfl|rfl|rfl|rfl
   ·exact eJ ww
   ·exact eJ ww
   ·exact eJ (sC (.inl rfl))
   ·exact eJ ww
   ·exact fun b w e=>by cases e
   ·exact eJ w1
   ·exact eJ ww
   ·exact eJ ww
   ·exact fun b w e=>by cases e
   ·exact eJ w2)
  exact⟨d,ed,q _ _ hd ab⟩
theorem LB{p:List bn}{w:bn}(hp:zW p)(h8:ps.length<=8)(hg:∀g∈gs,Tms ps.length g.ts)(hw:whK ps.length gs.length w)(q:∀d p',RT d->zW p'->R (.d d) [p']):tG [.d (.tuple [aC b,w]),.d (aH ps),.d (cA gs),.l 0] [p] R:=by
 have ww:=uM hw;unfold tG;rcases hw with rfl|⟨k,one,kl,ol,rfl⟩
 ·walk_at "d"
  walk_at "n"
  walk_at "n"
  exact q _ _ (eJ ww) hp
 ·walk_at "d"
  walk_at "n"
  walk_at "n"
  have eg:=cn kl;generalize gs[k]'kl=g at eg;have ht:=hg g (bu eg);unfold cA aH
  walk_at "n"
  refine⟨_,bY eg,?_⟩;rw[fX,lE];walk_at "d";refine⟨g.ts.map fun t:Term=>(kc (t.1:Int),bw t.2),by rw[jb];rfl,by have:=ht.len;simp;omega,?_⟩;rw[show p0 (g.ts.map fun t:Term=>((kc (t.1:Int):Key),bw t.2))=tmM g from rfl]
  walk_at "n"
  refine zr hp dz (by decide +kernel) fun up p1 r0 r1 ae=>?_;walk_at "d"
  walk_at "n"
  walk_at "n";rw[lp];refine cY (fun n δ S=>∃(aa:List Int) (u9:Option XV),S=[p1,aa.map bw]/\aa.length=n/\δ=[some (.d (.tuple [aC b,.tuple [.str "breaks",.int k,aC one]])),some (.d (.tuple (ps.map aX))),some (.d (.tuple (gs.map cQ))),some (.l 0),some (.d (aC b)),some (.d (.tuple [.str "breaks",.int k,aC one])),some (.d (.dict (DD.pairs (.k (tmM g))))),some (.d (.int up)),some (.l 1),u9]) ⟨[],_,rfl,rfl,rfl⟩ ?_ ?_
  ·rintro n d _ _ N3 hn ⟨aa,u9,rfl,ab,rfl⟩ ac;obtain⟨af,rfl⟩:=fH hn;have ec:=cn (show n<ps.length by omega);generalize ps[n]'yw=c at ec;rw[lv];obtain⟨o,eo⟩:=AV g (kc (n:Int));obtain⟨v,ev⟩:=El c up o;walk_at "d";refine⟨_,bY ec,.k (tmM g),.inr ⟨_,rfl,rfl⟩,lkA (tmM g) (kc (n:Int)),rfl,?_⟩;rw[eo,j0];walk_at "d";refine⟨_,ev,yw,?_⟩;exact ac _ _ ⟨aa++[v],_,yv,by simp[ab],rfl⟩
  ·rintro _ _ ⟨aa,u9,rfl,ab,rfl⟩;walk_at "d";exact q _ _ (eJ (vM oE fG (lO aa))) ae
theorem lK{n m:Nat}{r:bn}(h:RwK n m r):RT r:=by
 obtain⟨b,w,rfl,_,hw⟩:=h;exact eJ (uM hw)
theorem Jr{p aa:List bn}(hp:zW p)(h8:ps.length<=8)(gl:gs.length<=100)(hg:∀g∈gs,Tms ps.length g.ts)(h1:1<=aa.length)(hl:aa.length<=256)(hr:∀r∈aa,RwK ps.length gs.length r)(q:∀d p',ThB d->zW p'->R (.d d) [p']):uN [.d (.list aa),.d (aH ps),.d (aS os),.d (cA gs),.l 0] [p] R:=by
 unfold uN;walk_at "d"
 walk_at "n"
 refine zr hp yw (fD yw yw) fun r p1 r0 r1 af=>?_;walk_at "d"
 walk_at "n"
 refine zr af dz (by decide +kernel) fun way p2 w0 w1 ab=>?_;walk_at "d";have c1:=oZ aa none (some r);have c2:=oZ aa (some (r+1)) none;have c3:=oZ aa none (some (r+1));have c4:=oZ aa (some r) none;have m1:∀x∈aL aa none (some r),RT x:=fun x m=>lK (hr x (mF m));have m2:∀x∈aL aa (some (r+1)) none,RT x:=fun x m=>lK (hr x (mF m));have m3:∀x∈aL aa none (some (r+1)),RT x:=fun x m=>lK (hr x (mF m));have m4:∀x∈aL aa (some r) none,RT x:=fun x m=>lK (hr x (mF m));obtain⟨k,rfl⟩:=gu r0;have hk:k<aa.length:=yw
 have ek:=cn hk;have rk:=hr _ (qx hk);generalize aa[k]'hk=rw0 at ek rk;obtain⟨b,w,rfl,hb,hw⟩:=rk;have rest:∀d,RT d->ThB (.list (aL aa none (some (k:Int))++[d]++aL aa (some ((k:Int)+1)) none)):=fun d hd=>fU (by simp only[cx,ft,length_nil];omega) fun x m=>by
  rcases mem_append.mp m with m|m
  ·rcases mem_append.mp m with m|m
   ·exact m1 x m
   ·rw[mem_singleton.mp m];exact hd
  ·exact m2 x m
 walk_at "n"
 by_cases e0:way=0
 ·rw[cg e0];exact⟨yw,q _ _ (fU (by rw[cx];omega) fun x m=>(mem_append.mp m).elim (m1 x) (m2 x)) ab⟩
 rw[cf e0]
 walk_at "n"
 by_cases e1:way=1
 ·rw[cg e1];exact⟨yw,q _ _ (fU (by rw[cx];omega) fun x m=>(mem_append.mp m).elim (m3 x) (m4 x)) ab⟩
 rw[cf e1]
 walk_at "n"
 by_cases e2:way=2
 ·rw[cg e2];exact⟨yw,q _ _ (fU (by rw[cx];omega) fun x m=>(mem_append.mp m).elim (m4 x) (m1 x)) ab⟩
 rw[cf e2]
 walk_at "n"
 by_cases e3:way=3
 ·rw[cg e3];refine⟨yw,?_⟩;refine zr ab dz (by decide +kernel) fun r3 p3 ag ae ac=>?_;have rd:RT (.tuple [.tuple [],.tuple [.str "dear"]]):=eJ (sC (.inl rfl));obtain⟨d,ed,hd⟩:=gH (P:=ThB) (ds:=[cr aa,li (aa++[cr [cr [],cr [jo "dear"]]]),li [li aa],PyData.none,li [cr [cr [],cr [jo "dear"]]],li []]) ag (by simpa using ae) (by
   intro d m;simp only[ix,gk,or_false]at m;rcases m with rfl|rfl|rfl|rfl|rfl|rfl
   ·exact qY fun _ e=>by cases e
   ·exact fU (by simp;omega) fun x m=>(mem_append.mp m).elim (fun m=>lK (hr x m)) fun m=>by rw[mem_singleton.mp m];exact rd
   ·exact fU yv fun x m=>by rw[mem_singleton.mp m];exact fun b w e=>by cases e
   ·exact qY fun _ e=>by cases e
   ·exact fU yv fun x m=>by rw[mem_singleton.mp m];exact rd
   ·exact fU yv fun x m=>by cases m)
  walk_at "d";exact⟨d,ed,q _ _ hd ac⟩
 rw[cf e3]
 walk_at "n"
 by_cases e4:way=4
 ·rw[cg e4];refine⟨_,f6 ek,?_⟩;walk_at "d";refine LB ab h8 hg hw fun d p3 hd ac=>?_;walk_at "d";exact⟨yw,yw,q _ _ (rest d hd) ac⟩
 ·rw[cf e4];refine⟨_,f6 ek,?_⟩;walk_at "d";refine FC ab gl hb hw fun d p3 hd ac=>?_;walk_at "d";exact⟨yw,yw,q _ _ (rest d hd) ac⟩
end
theorem IZ{ps:List Part}(h:Drw ps):Drw (ps.take 3):=⟨by have:=h.l1;simp;omega,by have:=h.l8;simp;omega,fun p m=>h.all p (nq m)⟩
theorem LG(a:Addr)(n:Int):AH (G6 a 10) ((some (.o (.ref a))::bx 10 none).set 1 (some (.d (.int n)))) []:=by
 unfold AH;walk_at "d"
 walk_at "n"
 refine JQ fun p hp=>?_;walk_at "d";refine cut (fun δ S=>∃(ps:List Part) (p:List bn),Drw ps/\zW p/\S=[p]/\δ=[some (.o (.ref a)),some (.d (.int n)),some (.l 0),some (.d (aH ps)),none,none,none,none,none,none,none]) (fun N hN=>?_) ?_
 ·walk_at "d";refine zr hp dz (by decide +kernel) fun r p1 r0 r1 aa=>?_;walk_at "d";by_cases h0:r=0
  ·rw[cg h0];refine KH aa dz dz fun ps p2 hd hsz q=>?_;walk_at "d";exact hN _ _ ⟨ps,p2,hd,q,rfl,rfl⟩
  ·rw[cf h0];refine Jo aa dz dz fun ps p2 hd q=>?_;walk_at "d";exact hN _ _ ⟨ps,p2,hd,q,rfl,rfl⟩
 rintro _ _ ⟨ag,p1,ak,aa,rfl,rfl⟩;refine seq1 ?_;unfold aH;walk_at "d";rw[show (some 3:Option Int)=some ((3:Nat):Int)from rfl,vK,<- map_take];have hd:=IZ ak;have l3:(ag.take 3).length<=3:=by simp;omega
 generalize ag.take 3=ps at hd l3;have h8:=hd.l8;rw[show cr (ps.map aX)=aH ps from rfl]
 walk_at "n"
 refine JK aa hd fun os p2 ah q=>?_;walk_at "d";have oc:OC ps os:=ah.oc h8 (ah.few yw)
 walk_at "n"
 refine LY q hd oc.toOffs dz dz fun gs p3 ac aj=>?_;walk_at "d";have hg:∀g∈gs,Tms ps.length g.ts:=fun g m=>(ac.all g m).ts;have g6:=ac.l6;have g1:=ac.l1
 walk_at "n"
 refine⟨os.map aY,rfl,?_⟩;refine D8 (ps:=ps) (os:=os) [] rfl oc.toOffs h8 aj ?_ ?_
 ·intro l u p acc R' l1 l4 hp hk;rw[eR];walk_at "d";refine zr hp yw (fD yw yw) fun r p4 r0 r1 af=>?_;walk_at "d";obtain⟨k,rfl⟩:=gu r0;exact hk _ k p4 af yw
 intro ks p4 af hc;refine⟨[p4],_,rfl,rfl,?_⟩;rw[show cr (ks.map fun k:Nat=>bw k)=cH ks from rfl]
 walk_at "n"
 refine Ld oc.toOffs hc h8 ?_;walk_at "d";refine zr af dz (by decide +kernel) fun r p5 r0 r1 al=>?_;walk_at "d";generalize pcO os ks+r-1=price
 walk_at "n"
 unfold xL;rw[show cr []=aC []from rfl];have few:=oc.few;refine DR oc g1 yw hg 160 [] p5 _ (by cases szO os<;>trivial) (by have:=oc.len;simp;omega) al fun ab p6 hr r1 r2 am=>?_;rw[length_nil,drop_zero]at r2;have ai:ThB (.list ab):=fU yw fun r m=>lK (hr r m);walk_at "d"
 walk_at "n"
 refine wY oc hg ai ?_;walk_at "d";walk_at "n";refine cY (fun i δ S=>∃(p:List bn) (u9 ae:Option XV),S=[p]/\zW p/\δ=[some (.o (.ref a)),some (.d (.int n)),some (.l 0),some (.d (aH ps)),some (.d (aS os)),some (.d (cA gs)),some (.d (cH ks)),some (.d (.int price)),some (.d (.list ab)),u9,ae]) ⟨_,_,_,rfl,am,rfl⟩ ?_ ?_
 ·rintro i d _ _ N hi ⟨p,u9,ae,rfl,hp,rfl⟩ hN;walk_at "d"
  walk_at "n"
  refine Jr hp h8 yw hg r1 yw hr fun d p7 hd an=>?_;walk_at "d";refine wY oc hg hd ?_;walk_at "d";exact hN _ _ ⟨_,_,_,rfl,an,rfl⟩
 ·rintro _ _ ⟨p,u9,ae,rfl,hp,rfl⟩;walk_at "d";have all:∀d∈[li [cr [cr [],cr [jo "dear"]]],cr [],bw 0,li [PyData.none],PyData.dict []],ThB d:=by
   intro d m;simp only[ix,gk,or_false]at m;rcases m with rfl|rfl|rfl|rfl|rfl
   ·exact fU yv fun x m=>by rw[mem_singleton.mp m];exact eJ (sC (.inl rfl))
   ·exact qY fun _ e=>by cases e
   ·exact qY fun _ e=>by cases e
   ·exact fU yv fun x m=>by rw[mem_singleton.mp m];exact fun b w e=>by cases e
   ·exact qY fun _ e=>by cases e
  refine cmp1dT (S0:=[p]) (fun _=>.bool true) rfl _ yv ?_ ?_
  ·intro x mx u acc R' hk;walk_at "d";refine wY oc hg (all x mx) ?_;walk_at "d";exact hk _
  ·exact⟨[p],_,rfl,rfl,[true,true,true,true,true],rfl,by decide⟩
end
end My
namespace My
open PySem L2
def top (i : Nat) : Stmt := PySem.Challenge.pw_gaugewright_k40_floors_by_anybody.main.body.getD i (.Pass ⟨0, 0, 0, 0⟩)
abbrev EU:Stmt:=top 20
theorem KP:FnScope ["script","k"] ["script","k"] (zm EU):=fsd
abbrev Er:Stmt:=top 22
theorem CG:FnScope ["cell","left"] ["cell"] (zm Er):=fsd
abbrev Be:Stmt:=top 21
theorem E2:FnScope ["seed"] ["seed"] (zm Be):=fsd
abbrev Al:Stmt:=top 23
theorem Ej:FnScope ["pen","many","found"] ["pen","many"] (zm Al):=fsd
abbrev Aq:Stmt:=top 33
theorem zK:FnScope ["pen","drawing","offers","great","name","low","high","some","k","first","last","price","begin","end"] ["pen","drawing"] (zm Aq):=fsd
abbrev Cu:Stmt:=top 30
theorem i3:FnScope ["drawing","terms","least","most","part","times","ends"] ["drawing","terms"] (zm Cu):=fsd
abbrev BF:Stmt:=top 31
theorem gN:FnScope ["pen","drawing","terms","part","times","least","most","wide","low","high"] ["pen","drawing"] (zm BF):=fsd
abbrev v4:Stmt:=top 32
theorem Ak:FnScope ["pen","drawing","most","gaps"] ["pen","drawing","most"] (zm v4):=fsd
abbrev xA:Stmt:=top 36
theorem Ia:FnScope ["drawing","offers","choice"] ["drawing","offers","choice"] (zm xA):=fsd
abbrev yC:Stmt:=top 38
theorem lC:FnScope ["pen","drawing","offers","most","gaps","choice","chosen","k","least","high"] ["pen","drawing","offers","most"] (zm yC):=fsd
abbrev xM:Stmt:=top 42
theorem iI:FnScope ["drawing","gaps","offers","beginning","last","chosen","found","number","times","up","one","part"] ["drawing","gaps","offers","beginning"] (zm xM):=fsd
abbrev AD:Stmt:=top 35
theorem GA:FnScope ["offers","choice"] ["offers","choice"] (zm AD):=fsd
abbrev Bz:Stmt:=top 24
theorem Hl:FnScope ["found"] ["found"] (zm Bz):=fsd
abbrev tX:Stmt:=top 39
theorem iP:FnScope ["drawing","gaps","offers","price","beginning","why","last","chosen","one","number","part","gap","worth"] ["drawing","gaps","offers","price","beginning","why"] (zm tX):=fsd
abbrev AI:Stmt:=top 43
theorem mB:FnScope ["pen","drawing","gaps","offers","price","beginning","whys","good","rows","number"] ["pen","drawing","gaps","offers","price","beginning"] (zm AI):=fsd
abbrev nB:Stmt:=top 27
theorem gK:FnScope ["pen","letters","way","first","names","word","at"] ["pen"] (zm nB):=fsd
abbrev BR:Stmt:=top 25
theorem EA:FnScope ["pen","way"] ["pen"] (zm BR):=fsd
abbrev v7:Stmt:=top 29
theorem lD:FnScope ["pen","most","names","wides","drawing","k","low"] ["pen","most"] (zm v7):=fsd
abbrev CY:Stmt:=top 26
theorem rP:FnScope ["pen","low","wide"] ["pen"] (zm CY):=fsd
abbrev D7:Stmt:=top 28
theorem sF:FnScope ["pen","most","names","drawing","k"] ["pen","most"] (zm D7):=fsd
abbrev B2:Stmt:=top 13
theorem sI:FnScope ["sizes","beginning","many","size"] ["sizes","beginning"] (zm B2):=fsd
abbrev EQ:Stmt:=top 1
theorem HP:FnScope ["thing"] ["thing"] (zm EQ):=fsd
abbrev wG:Stmt:=top 9
theorem Kz:FnScope ["sizes","thing"] ["sizes","thing"] (zm wG):=fsd
abbrev pO:Stmt:=top 17
theorem J8:FnScope ["sizes","things"] ["sizes","things"] (zm pO):=fsd
abbrev sT:Stmt:=top 16
theorem LP:FnScope ["sizes","thing"] ["sizes","thing"] (zm sT):=fsd
abbrev yA:Stmt:=top 8
theorem Kf:FnScope ["offers"] ["offers"] (zm yA):=fsd
abbrev yJ:Stmt:=top 3
theorem LL:FnScope ["drawing","thing"] ["drawing","thing"] (zm yJ):=fsd
abbrev v0:Stmt:=top 10
theorem Jl:FnScope ["offers","choice"] ["offers","choice"] (zm v0):=fsd
abbrev uG:Stmt:=top 11
theorem BV:FnScope ["drawing","offers","choice","chosen"] ["drawing","offers","choice"] (zm uG):=fsd
abbrev wE:Stmt:=top 14
theorem Bf:FnScope ["drawing","offers","beginning","lasts"] ["drawing","offers","beginning"] (zm wE):=fsd
abbrev vT:Stmt:=top 5
theorem LK:FnScope ["gap","one"] ["gap","one"] (zm vT):=fsd
abbrev Ab:Stmt:=top 6
theorem KJ:FnScope ["gap","one"] ["gap","one"] (zm Ab):=fsd
abbrev BH:Stmt:=top 18
theorem Fh:FnScope ["job","offers","price","beginning","why"] ["job","offers","price","beginning","why"] (zm BH):=fsd
abbrev xG:Stmt:=top 15
theorem Jy:FnScope ["job","offers","price","thing"] ["job","offers","price","thing"] (zm xG):=fsd
abbrev vJ:Stmt:=top 41
theorem FI:FnScope ["choice","table"] ["choice","table"] (zm vJ):=fsd
abbrev y6:Stmt:=top 34
theorem lT:FnScope ["offers","found","some","longer","ahead"] ["offers"] (zm y6):=fsd
abbrev sV:Stmt:=top 40
theorem jR:FnScope ["drawing","gaps","offers","price","thing","row","number","some","rows","table","one"] ["drawing","gaps","offers","price","thing"] (zm sV):=fsd
abbrev Bm:Stmt:=top 47
theorem BL:FnScope ["drawing","gaps","offers","price","thing","found"] ["drawing","gaps","offers","price","thing"] (zm Bm):=fsd
abbrev EJ:Stmt:=top 44
theorem kU:FnScope ["row","offers","gaps","pen","beginning","why","way","odd","some"] ["row","offers","gaps","pen"] (zm EJ):=fsd
abbrev Cm:Stmt:=top 45
theorem kT:FnScope ["row","drawing","gaps","pen","beginning","why","times","up","far","part"] ["row","drawing","gaps","pen"] (zm Cm):=fsd
abbrev Du:Stmt:=top 46
theorem xT:FnScope ["rows","drawing","offers","gaps","pen","at","way"] ["rows","drawing","offers","gaps","pen"] (zm Du):=fsd
abbrev s_law:Stmt:=top 48
theorem e7:FnScope ["script","cell","pen","drawing","offers","gaps","choice","price","rows","turn","other"] ["script"] (zm s_law):=fsd
structure Txt(mg:Str->Option bp):Prop where
 n_tuple:mg "tuple" = none
 n_len:mg "len" = none
 n_range:mg "range" = none
 n_all:mg "all" = none
 n_max:mg "max" = none
 n_int:mg "int" = none
 n_min:mg "min" = none
 n_list:mg "list" = none
 n_dict:mg "dict" = none
 n_sum:mg "sum" = none
 n_isinstance:mg "isinstance" = none
 n_bool:mg "bool" = none
 n_str:mg "str" = none
 n_zip:mg "zip" = none
 n_sorted:mg "sorted" = none
structure Dds(K:cy)(mg:Str->Option bp):Prop where
 a0:Dd K mg "_law_cell_at" EU ["script","k"]
 a1:Dd K mg "_law_pen_of" Er ["cell"]
 a2:Dd K mg "_law_next" Be ["seed"]
 a3:Dd K mg "_law_draw" Al ["pen","many"]
 a4:Dd K mg "_law_offers_of" Aq ["pen","drawing"]
 a5:Dd K mg "_law_ends_of" Cu ["drawing","terms"]
 a6:Dd K mg "_law_gap_of" BF ["pen","drawing"]
 a7:Dd K mg "_law_gaps_of" v4 ["pen","drawing","most"]
 a8:Dd K mg "_law_chosen_of" xA ["drawing","offers","choice"]
 a9:Dd K mg "_law_some_gaps" yC ["pen","drawing","offers","most"]
 a10:Dd K mg "_law_whys" xM ["drawing","gaps","offers","beginning"]
 a11:Dd K mg "_law_price_of" AD ["offers","choice"]
 a12:Dd K mg "_law_whole" Bz ["found"]
 a13:Dd K mg "_law_why_of" tX ["drawing","gaps","offers","price","beginning","why"]
 a14:Dd K mg "_law_rows_of" AI ["pen","drawing","gaps","offers","price","beginning"]
 a15:Dd K mg "_law_names_of" nB ["pen"]
 a16:Dd K mg "_law_number_of" BR ["pen"]
 a17:Dd K mg "_law_few" v7 ["pen","most"]
 a18:Dd K mg "_law_span" CY ["pen"]
 a19:Dd K mg "_law_drawing_of" D7 ["pen","most"]
 a20:Dd K mg "choices_behind" B2 ["sizes","beginning"]
 a21:Dd K mg "is_whole" EQ ["thing"]
 a22:Dd K mg "is_beginning" wG ["sizes","thing"]
 a23:Dd K mg "part_all_choices" pO ["sizes","things"]
 a24:Dd K mg "are_rows" sT ["sizes","thing"]
 a25:Dd K mg "sizes_of" yA ["offers"]
 a26:Dd K mg "is_set" yJ ["drawing","thing"]
 a27:Dd K mg "price_of" v0 ["offers","choice"]
 a28:Dd K mg "narrowed_by" uG ["drawing","offers","choice"]
 a29:Dd K mg "narrowest" wE ["drawing","offers","beginning"]
 a30:Dd K mg "worth_of" vT ["gap","one"]
 a31:Dd K mg "keeps" Ab ["gap","one"]
 a32:Dd K mg "is_why_not" BH ["job","offers","price","beginning","why"]
 a33:Dd K mg "floor_holds" xG ["job","offers","price","thing"]
 a34:Dd K mg "_law_fronts" vJ ["choice","table"]
 a35:Dd K mg "_law_choices" y6 ["offers"]
 a36:Dd K mg "_law_floor" sV ["drawing","gaps","offers","price","thing"]
 a37:Dd K mg "_law_right" Bm ["drawing","gaps","offers","price","thing"]
 a38:Dd K mg "_law_bent" EJ ["row","offers","gaps","pen"]
 a39:Dd K mg "_law_far" Cm ["row","drawing","gaps","pen"]
 a40:Dd K mg "_law_spoilt" Du ["rows","drawing","offers","gaps","pen"]
section
variable {P:gc}{w:gy}{K:cy}{mg:Str->Option bp}{base:Heap}
local macro_rules|`(tactic|walk_at "r")=>do
 let ts<-("zg 2,zi 0,zz 0,zO 0,zy 0,bV 2,bN 0,zF 2,zF 0,cI 1,eE 2,cW 0,hU 0,gV 1,gL 3,eF 0,dW 2,zg 0,sZ 1,rF 0,kW 0,kB 0,tQ 0,dA 2,iN 1,jW 0,FU 2,iC 1,hJ 4,gY 1,iJ 0,HL 1,CN 0,AJ 0,bV 0,tI 0,iF 0,gU 3,cI 0,lW 0,IB 2,FY 0,kI 0,fP 1,gQ 1,gM 0,w6 0,cS 1,oX 1,E3 0,hZ 0,qZ 3,gL 0,gU 0,k9 0,LQ 0,rE 2,GX 2,iN 0,iC 0,mL 0,F3 0,v8 0,Ke 2,oX 0,qZ 0,FB 1,IJ 0,Lg 1,rS 0,GF 2,kJ 1,HQ 0,AC 5,Au 0,Ha 0,G7 0,Kd 0,Gc 2,L3 0,LN 2,AL 0,FX 2,Gy 0,dW 1,EO 0,Hk 0,Bb 0,AT 0,Em 3,zX 3,aU 2,CF 1,aU 0,zX 0".splitOn ",").toArray.mapM fun x=>do
  let i:=x.splitOn " "
  let h<-`(term|?_)
  let hs:=Array.replicate ((i.getD 1 "").toNat!) h
  `(Lean.Parser.Tactic.tacticSeq|refine $(Lean.mkIdent (i.getD 0 "").toName) $hs*)
 `(tactic|repeat' (first|with_reducible (first $[|$ts:tacticSeq]*)|rfl))
theorem F6(T:Txt mg:=by assumption)(dd:Dds K mg:=by assumption):Df P w K mg base "_law_cell_at" ["script","k"] 1 (sp2 (yL K)):=by
 refine Df.of2 dd.a0 KP (fun v u=>[some v,some u]) (fun _ _=>rfl) fun f aa A outer s H v u Q E hr h=>?_;obtain⟨a,ns,i,rfl,rfl,hS,h0,q⟩:=h;refine⟨_,(zf (aN (zN fZ (pv 1) (zo Ez (by rfl) T.n_len zV (za (pv 0) zd)) (nomark _)) (zn (zC (zH C2 (pv 0) (pv 1) (fun _ _=>rfl)))) zJ) (zn (zC ze))),?_⟩;simp only[e9,uF,pW,tOp,IM,tCB,fJ,kR,vA,tC,wC,A8,qb,qc];refine⟨a,_,rfl,.inl hS,?_⟩;simp only[A8,Kj,decide_eq_true_eq];refine ite2 (fun hi=>?_) (fun _=>q 0);obtain⟨n,e⟩:=JV h0 hi;exact⟨a,_,i,_,rfl,rfl,hS,e,q n⟩
variable (T:Txt mg:=by assumption) (dd:Dds K mg:=by assumption)
include T dd
theorem Ik:Df P w K mg base "_law_pen_of" ["cell"] 1 (spN ["cell"] uI):=by
 exact Df.dN dd.a1 CG 1 rfl fun f aa A outer s H E hr=>⟨_,_,(zf (zD (i:=1) CG.nd rfl lo (zo (C6 rfl) (by rfl) T.n_max uX (za (pv 0) (za (zE eC ze (pv 0)) zd)))) (zn (zC (aR (za (pv 1) (za (zS yT (by rfl) T.n_int qX (za (eO tR (pv 1) (zE lP ze ze) (nomark _)) zd)) (za (zE gE (pv 1) ze) zd))))))),(by walk_at "r"),fun xs S R q=>q⟩
theorem A0:Df P w K mg base "_law_next" ["seed"] 1 (spN ["seed"] qJ):=by
 exact Df.dN dd.a2 E2 0 rfl fun f aa A outer s H E hr=>⟨_,_,(zf (zD (i:=0) E2.nd rfl lo (zE gE (zE zA (pv 0) ze) ze)) (zn (zC (zE gE (zE zA (zE zA (zE dX (pv 0) (pv 0)) (zE dX ze (pv 0))) ze) ze)))),(by walk_at "r"),fun xs S R q=>q⟩
theorem zt:Df P w K mg base "_law_draw" ["pen","many"] 2 (spN ["pen","many"] zp):=by
 exact Df.dN dd.a3 Ej 1 rfl fun f aa A outer s H E hr=>⟨_,_,(zf (aN (zN (bR hr.units) (zH zw (pv 0) ze (fun _ _=>rfl)) ze (nomark _)) (zf (zD (i:=2) Ej.nd rfl lo (zE gE (zH zw (pv 0) ze (fun _ _=>rfl)) (pv 1))) (zf (gT (zE rH (zH zw (pv 0) ze (fun _ _=>rfl)) (pv 1)) (uS (pv 0) ze rZ)) (zn (zC (pv 2))))) zJ) (zf (gT (zv A0 hr dz (za (zE zA (zv A0 hr dz (za (zH zw (pv 0) ze (fun _ _=>rfl)) zd)) ze) zd)) (uS (pv 0) ze rZ)) (zn (zC (zE gE (zE rH (zH zw (pv 0) ze (fun _ _=>rfl)) ze) (pv 1)))))),(by walk_at "r"),fun xs S R q=>q⟩
theorem KS:Df P w K mg base "_law_offers_of" ["pen","drawing"] 3 (spN ["pen","drawing"] t9):=by
 exact Df.dN dd.a4 zK 12 rfl fun f aa A outer s H E hr=>⟨_,_,(zf (zD (i:=2) zK.nd rfl lo (aR zd)) (zf (zD (i:=3) zK.nd rfl lo (zH zw (aR (za ze (za ze (za ze (za (zE lP ze ze) zd))))) (zv zt hr dz (za (pv 0) (za ze zd))) (fun _ _=>rfl))) (zf (cT gj rfl (b6 (pv 1)) (dE (n:=3) rfl (zL (zu (i:=4) zK.nd rfl (fy rfl)) (zL (zu (i:=5) zK.nd rfl (fy rfl)) (zL (zu (i:=6) zK.nd rfl (fy rfl)) dF)))) (zf (zD (i:=7) zK.nd rfl lo (aR (za (zU (za (pv 5) (za (pv 6) (za ze zd)))) zd))) (zf (cT gj rfl (zY rfl T.n_range (za (zv zt hr dz (za (pv 0) (za ze zd))) zd)) (zu (i:=8) zK.nd rfl (fy rfl)) (zf (gT (zH zw (pv 7) (fE fC ze) (fun _ _=>rfl)) (dE (n:=3) rfl (zL (zu (i:=9) zK.nd rfl (fy rfl)) (zL (zu (i:=10) zK.nd rfl (fy rfl)) (zL (zu (i:=11) zK.nd rfl (fy rfl)) dF))))) (zn (aN (zN fZ (pv 9) (pv 10) (nomark _)) (zf (zD (i:=12) zK.nd rfl lo (zE zA (pv 9) (zv zt hr dz (za (pv 0) (za (zE zA (zo (FQ rfl) (by rfl) T.n_min BB (za (zE eC (pv 10) (pv 9)) (za ze zd))) ze) zd))))) (zf (zD (i:=13) zK.nd rfl lo (zo (C6 rfl) (by rfl) T.n_max uX (za (pv 12) (za (zE eC (pv 10) (zv zt hr dz (za (pv 0) (za ze zd)))) zd)))) (zf (aN (PW.pt (vZ (zN (bR hr.units) (pv 12) (pv 9) (nomark _)) (xF (zN (bR hr.units) (pv 13) (pv 10) (nomark _))))) (zn (zD (i:=12) zK.nd rfl lo (zE zA (pv 9) ze))) zJ) (zn (fW (fL PySem.F.plainAttrs_list PySem.F.slot_list_append PySem.F.type_list_append gF (pv 7) (za (zU (za (pv 12) (za (pv 13) (za (zE zA (zE zA (pv 11) ze) (zv zt hr dz (za (pv 0) (za (pv 3) zd)))) zd)))) zd))))))) zJ)))) (zn (fW (fL PySem.F.plainAttrs_list PySem.F.slot_list_append PySem.F.type_list_append gF (pv 2) (za (zS zM (by rfl) T.n_tuple bX (za (pv 7) zd)) zd))))))) (zn (zC (zS zM (by rfl) T.n_tuple bX (za (pv 2) zd))))))),(by walk_at "r"),fun xs S R q=>q⟩
theorem Af:Df P w K mg base "_law_ends_of" ["drawing","terms"] 1 (spN ["drawing","terms"] qI):=by
 exact Df.dN dd.a5 i3 5 rfl fun f aa A outer s H E hr=>⟨_,_,(zf (zD (i:=2) i3.nd rfl lo ze) (zf (zD (i:=3) i3.nd rfl lo ze) (zf (cT gj rfl (b6 (pv 1)) (dE (n:=2) rfl (zL (zu (i:=4) i3.nd rfl (fy rfl)) (zL (zu (i:=5) i3.nd rfl (fy rfl)) dF))) (zf (zD (i:=6) i3.nd rfl lo (aR (za (zE dX (pv 5) (zH zw (zH zw (pv 0) (pv 4) (fun _ _=>rfl)) ze (fun _ _=>rfl))) (za (zE dX (pv 5) (zH zw (zH zw (pv 0) (pv 4) (fun _ _=>rfl)) ze (fun _ _=>rfl))) zd)))) (zf (zD (i:=2) i3.nd rfl lo (zE zA (pv 2) (zo (GI rfl hr.units) (by rfl) T.n_min BB (za (pv 6) zd)))) (zn (zD (i:=3) i3.nd rfl lo (zE zA (pv 3) (zo (Iv rfl) (by rfl) T.n_max uX (za (pv 6) zd)))))))) (zn (zC (zU (za (pv 2) (za (pv 3) zd)))))))),(by walk_at "r"),fun xs S R q=>q⟩
theorem K6:Df P w K mg base "_law_gap_of" ["pen","drawing"] 3 (spN ["pen","drawing"] tM):=by
 exact Df.dN dd.a6 gN 8 rfl fun f aa A outer s H E hr=>⟨_,_,(zf (zD (i:=2) gN.nd rfl lo (aR zd)) (zf (cT gj rfl (zY rfl T.n_range (za (zo zx (by rfl) T.n_len zV (za (pv 1) zd)) zd)) (zu (i:=3) gN.nd rfl (fy rfl)) (zf (zD (i:=4) gN.nd rfl lo (zE eC (zv zt hr dz (za (pv 0) (za ze zd))) ze)) (zn (aN (zN (Ck hr.units) (pv 4) (zU (za (fE fC ze) (za ze (za ze zd)))) (by rfl)) (zn (fW (fL PySem.F.plainAttrs_list PySem.F.slot_list_append PySem.F.type_list_append gF (pv 2) (za (zU (za (pv 3) (za (pv 4) zd))) zd)))) zJ)))) (zf (aN (zN (bR hr.units) (pv 2) (aR zd) (nomark _)) (zn (zD (i:=2) gN.nd rfl lo (aR (za (zU (za (zv zt hr dz (za (pv 0) (za (zo zx (by rfl) T.n_len zV (za (pv 1) zd)) zd))) (za (zH zw (aR (za ze (za (fE fC ze) (za ze (za (fE fC ze) zd))))) (zv zt hr dz (za (pv 0) (za ze zd))) (fun _ _=>rfl)) zd))) zd)))) zJ) (zf (gT (zv Af hr dz (za (pv 1) (za (pv 2) zd))) (dE (n:=2) rfl (zL (zu (i:=5) gN.nd rfl (fy rfl)) (zL (zu (i:=6) gN.nd rfl (fy rfl)) dF)))) (zf (zD (i:=7) gN.nd rfl lo (zE eC (pv 6) (pv 5))) (zf (zD (i:=8) gN.nd rfl lo (zE zA (pv 5) (zH zw (qQ (bQ ze (bQ ze (bQ (fE fC ze) (bQ (zE rH (pv 7) ze) (bQ (zE rH (pv 7) ze) (bQ (zE zA (pv 7) ze) fA))))))) (zv zt hr dz (za (pv 0) (za ze zd))) (fun _ _=>rfl)))) (zf (zD (i:=9) gN.nd rfl lo (zE zA (pv 8) (zH zw (qQ (bQ ze (bQ ze (bQ ze (bQ (zE rH (pv 7) ze) (bQ (pv 7) (bQ (zE zA (pv 7) ze) fA))))))) (zv zt hr dz (za (pv 0) (za ze zd))) (fun _ _=>rfl)))) (zn (zC (zU (za (zS zM (by rfl) T.n_tuple bX (za (pv 2) zd)) (za (pv 8) (za (pv 9) zd))))))))))))),(by walk_at "r"),fun xs S R q=>q⟩
theorem I0:Df P w K mg base "_law_gaps_of" ["pen","drawing","most"] 4 (spN ["pen","drawing","most"] tF):=by
 exact Df.dN dd.a7 Ak 1 rfl fun f aa A outer s H E hr=>⟨_,_,(zf (jL (i:=3) (fun _ _ h=>h) rfl (zI rfl rfl rfl rfl (N:=["k","pen","drawing"]) (caps:=[none,some 0,some 1]) (by show bA ["pen","drawing","most","gaps"] (zm v4).names _ _ _=true;decide +kernel)) Ak.nd rfl rfl (zY rfl T.n_range (za (zE zA ze (zv zt hr dz (za (pv 0) (za (pv 2) zd)))) zd)) (fun _ _ _ _=>(zu (i:=0) (by show fx (["k","pen","drawing"]:List Str);decide) rfl (fy rfl))) (fun _ _ _ _=>bH) (fun _ _ _ _=>(zv K6 hr dz (za (pv 1) (za (pv 2) zd))))) (zf (aN (PW.pt (vZ (zN (bR hr.units) (zv zt hr dz (za (pv 0) (za ze zd))) ze (nomark _)) (xF (zN kQ (zo zx (by rfl) T.n_len zV (za (pv 3) zd)) ze (nomark _))))) (zn (gT (zU (za (zH zw (zH zw (pv 3) ze (fun _ _=>rfl)) ze (fun _ _=>rfl)) (za (zE zA (zH zw (zH zw (pv 3) ze (fun _ _=>rfl)) ze (fun _ _=>rfl)) ze) (za (zE zA (zE zA (zH zw (zH zw (pv 3) ze (fun _ _=>rfl)) ze (fun _ _=>rfl)) ze) (zv zt hr dz (za (pv 0) (za ze zd)))) zd)))) (uS (pv 3) (fE fC ze) rZ))) zJ) (zn (zC (zS zM (by rfl) T.n_tuple bX (za (pv 3) zd)))))),(zF (bV (rO (fP (zg (zX cW zO (eE (i:=0) (zg zi (zg zi zz)))) zz)) zy bJ (eE (i:=0) (zg zi (zg zi zz)))) zy) (by walk_at "r")),fun xs S R q=>q⟩
theorem yO:Df P w K mg base "_law_chosen_of" ["drawing","offers","choice"] 1 (spN ["drawing","offers","choice"] lN):=by
 exact Df.dN dd.a8 Ia 0 rfl fun f aa A outer s H E hr=>⟨_,_,(zn (zC (zS zM (by rfl) T.n_tuple bX (za (cE (fun _ _ h=>h) rfl (zI rfl rfl rfl rfl (N:=["k","drawing","offers","choice"]) (caps:=[none,some 0,some 1,some 2]) (by show bA ["drawing","offers","choice"] (zm xA).names _ _ _=true;decide +kernel)) (zY rfl T.n_range (za (zo zx (by rfl) T.n_len zV (za (pv 0) zd)) zd)) (fun _ _ _ _=>(zu (i:=0) (by show fx (["k","drawing","offers","choice"]:List Str);decide) rfl (fy rfl))) (fun _ _ _ _=>bH) (fun _ _ _ _=>(zE zA (zU (za (zH zw (zH zw (pv 1) (pv 0) (fun _ _=>rfl)) ze (fun _ _=>rfl)) zd)) (bZ dS (zH zw (zH zw (pv 2) (pv 0) (fun _ _=>rfl)) (zH zw (pv 3) (pv 0) (fun _ _=>rfl)) (fun _ _=>rfl)) b9 (bS ze))))) zd)))),(cI (aU jW (zg (bP (fP (zg (aU eF (zg zi zz)) zz)) zy bJ (zX cW (gV (zg (zX bN (zX bN zi zi) zO) zz)) (hJ tI (zX bN (zX bN zi zi) (zX bN zi zi)) iJ (gY zO)))) zz))),fun xs S R q=>q⟩
theorem KI:Df P w K mg base "_law_some_gaps" ["pen","drawing","offers","most"] 5 (spN ["pen","drawing","offers","most"] tL):=by
 exact Df.dN dd.a9 lC 6 rfl fun f aa A outer s H E hr=>⟨_,_,(zf (zD (i:=4) lC.nd rfl lo (zS wX (by rfl) T.n_list oM (za (zv I0 hr dz (za (pv 0) (za (pv 1) (za (pv 3) zd)))) zd))) (zf (aN (zN kQ (zv zt hr dz (za (pv 0) (za ze zd))) ze (nomark _)) (zf (zD (i:=5) lC.nd rfl lo (zS zM (by rfl) T.n_tuple bX (za (cE (fun _ _ h=>h) rfl (zI rfl rfl rfl rfl (N:=["some","pen"]) (caps:=[none,some 0]) (by show bA ["pen","drawing","offers","most","gaps","choice","chosen","k","least","high"] (zm yC).names _ _ _=true;decide +kernel)) (b6 (pv 2)) (fun _ _ _ _=>(zu (i:=0) (by show fx (["some","pen"]:List Str);decide) rfl (fy rfl))) (fun _ _ _ _=>bH) (fun _ _ _ _=>(zv zt hr dz (za (pv 1) (za (zo zx (by rfl) T.n_len zV (za (pv 0) zd)) zd))))) zd))) (zf (zD (i:=6) lC.nd rfl lo (zv yO hr dz (za (pv 1) (za (pv 2) (za (pv 5) zd))))) (zn (cT gj rfl (zY rfl T.n_range (za (zo zx (by rfl) T.n_len zV (za (pv 4) zd)) zd)) (zu (i:=7) lC.nd rfl (fy rfl)) (zf (gT (zv Af hr dz (za (pv 6) (za (zH zw (zH zw (pv 4) (pv 7) (fun _ _=>rfl)) ze (fun _ _=>rfl)) zd))) (dE (n:=2) rfl (zL (zu (i:=8) lC.nd rfl (fy rfl)) (zL (zu (i:=9) lC.nd rfl (fy rfl)) dF)))) (zn (gT (zU (za (zH zw (zH zw (pv 4) (pv 7) (fun _ _=>rfl)) ze (fun _ _=>rfl)) (za (zE eC (pv 8) (zv zt hr dz (za (pv 0) (za ze zd)))) (za (zE zA (pv 9) (zv zt hr dz (za (pv 0) (za ze zd)))) zd)))) (uS (pv 4) (pv 7) rZ)))))))) zJ) (zn (zC (zS zM (by rfl) T.n_tuple bX (za (pv 4) zd)))))),(zF (by walk_at "r") (zF (gL (by walk_at "r") (zF (bV (aU jW (zg (bP (cS zi) zy bJ (eE (i:=0) (zg zi (zg (aU eF (zg zi zz)) zz)))) zz)) zy) (by walk_at "r")) hU) (by walk_at "r"))),fun xs S R q=>q⟩
theorem Kg:Df P w K mg base "_law_whys" ["drawing","gaps","offers","beginning"] 2 (spN ["drawing","gaps","offers","beginning"] tU):=by
 exact Df.dN dd.a10 iI 8 rfl fun f aa A outer s H E hr=>⟨_,_,(zf (zD (i:=4) iI.nd rfl lo (zE zA (pv 3) (zS zM (by rfl) T.n_tuple bX (za (cE (fun _ _ h=>h) rfl (zI (L:=0) rfl rfl rfl rfl (N:=["some"]) (caps:=[none]) (by show bA ["drawing","gaps","offers","beginning","last","chosen","found","number","times","up","one","part"] (zm xM).names _ _ _=true;decide +kernel)) (b6 (bZ jK (pv 2) (bS (zo zx (by rfl) T.n_len zV (za (pv 3) zd))) b9)) (fun _ _ _ _=>(zu (i:=0) (by show fx (["some"]:List Str);decide) rfl (fy rfl))) (fun _ _ _ _=>bH) (fun _ _ _ _=>(zE eC (zo zx (by rfl) T.n_len zV (za (pv 0) zd)) ze))) zd)))) (zf (zD (i:=5) iI.nd rfl lo (zv yO hr dz (za (pv 0) (za (pv 2) (za (pv 4) zd))))) (zf (zD (i:=6) iI.nd rfl lo (aR zd)) (zf (cT gj rfl (zY rfl T.n_range (za (zo zx (by rfl) T.n_len zV (za (pv 1) zd)) zd)) (zu (i:=7) iI.nd rfl (fy rfl)) (zf (zD (i:=8) iI.nd rfl lo (x8 (zS (Co rfl) (by rfl) T.n_dict BX (za (zH zw (zH zw (pv 1) (pv 7) (fun _ _=>rfl)) ze (fun _ _=>rfl)) zd)))) (zn (cT gj rfl (b6 (aR (za ze (za ze zd)))) (zu (i:=9) iI.nd rfl (fy rfl)) (zf (zD (i:=10) iI.nd rfl lo (aR zd)) (zf (cT gj rfl (zY rfl T.n_range (za (zo zx (by rfl) T.n_len zV (za (pv 0) zd)) zd)) (zu (i:=11) iI.nd rfl (fy rfl)) (zn (fW (fL PySem.F.plainAttrs_list PySem.F.slot_list_append PySem.F.type_list_append gF (pv 10) (za (zH zw (zH zw (pv 5) (pv 11) (fun _ _=>rfl)) (zE zA ze (zE gE (zE zA (pv 9) (zS yT (by rfl) T.n_int qX (za (eO fZ (v3 (rC hr) (pv 8) (pv 11) ze ⟨rfl,rfl,rfl,rfl⟩) ze (nomark _)) zd))) ze)) (fun _ _=>rfl)) zd))))) (zn (fW (fL PySem.F.plainAttrs_list PySem.F.slot_list_append PySem.F.type_list_append gF (pv 6) (za (zU (za cP (za (pv 7) (za (zS zM (by rfl) T.n_tuple bX (za (pv 10) zd)) zd)))) zd)))))))))) (zn (zC (pv 6))))))),(zF (bV (zX cW zi (aU jW (zg (bP (cS (hJ mL zi (gY (aU eF (zg zi zz))) iJ)) zy bJ (zX lW (aU eF (zg zi zz)) zO)) zz))) zy) (zF (by walk_at "r") (zF (by walk_at "r") (zF (gU (by walk_at "r") zy (zF (by walk_at "r") (gU (by walk_at "r") zy (zF (by walk_at "r") (zF (gU (by walk_at "r") zy (oX (qZ w6 zi (zg (zX bN (by walk_at "r") (zX cW zO (zX iF (zX cW zi (aU v8 (zg (zX kW (rS (xV (fF zi) (fF zi) (fF zO))) zO) zz))) zO))) zz)))) (by walk_at "r")))))) (cI zi))))),fun xs S R q=>q⟩
theorem vS:Df P w K mg base "_law_price_of" ["offers","choice"] 1 (spN ["offers","choice"] jG):=by
 exact Df.dN dd.a11 GA 0 rfl fun f aa A outer s H E hr=>⟨_,_,(zn (zC (zo (mS rfl) (by rfl) T.n_sum lS (za (cE (fun _ _ h=>h) rfl (zI rfl rfl rfl rfl (N:=["k","offers","choice"]) (caps:=[none,some 0,some 1]) (by show bA ["offers","choice"] (zm AD).names _ _ _=true;decide +kernel)) (zY rfl T.n_range (za (zo zx (by rfl) T.n_len zV (za (pv 1) zd)) zd)) (fun _ _ _ _=>(zu (i:=0) (by show fx (["k","offers","choice"]:List Str);decide) rfl (fy rfl))) (fun _ _ _ _=>bH) (fun _ _ _ _=>(zH zw (zH zw (zH zw (pv 1) (pv 0) (fun _ _=>rfl)) (zH zw (pv 2) (pv 0) (fun _ _=>rfl)) (fun _ _=>rfl)) ze (fun _ _=>rfl)))) zd)))),(cI (aU k9 (zg (bP (fP (zg (aU eF (zg zi zz)) zz)) zy bJ (zX bN (zX bN (zX bN zi zi) (zX bN zi zi)) zO)) zz))),fun xs S R q=>q⟩
theorem yW:Df P w K mg base "_law_whole" ["found"] 1 (spN ["found"] mC):=by
 exact Df.dN dd.a12 Hl 0 rfl fun f aa A outer s H E hr=>⟨_,_,(zn (zC (iE (zo d8 (by rfl) T.n_isinstance zP (za (pv 0) (za (d7 rfl T.n_int qX (v:=.ty "int") rfl) zd))) (gB (xW (zo d8 (by rfl) T.n_isinstance zP (za (pv 0) (za (d7 rfl T.n_bool vC (v:=.ty "bool") rfl) zd)))))))),(by walk_at "r"),fun xs S R q=>q⟩
theorem CJ:Df P w K mg base "_law_why_of" ["drawing","gaps","offers","price","beginning","why"] 2 (spN ["drawing","gaps","offers","price","beginning","why"] o8):=by
 exact Df.dN dd.a13 iP 7 rfl fun f aa A outer s H E hr=>⟨_,_,(zf (aN (PW.pt (dJ (cM (cN (zo d8 (by rfl) T.n_isinstance zP (za (pv 5) (za (d7 rfl T.n_tuple bX (v:=.ty "tuple") rfl) zd))) (fun _=>rfl))) (dJ (zN (Ck hr.units) (zo zx (by rfl) T.n_len zV (za (pv 5) zd)) (zU (za ze (za ze zd))) (by rfl)) (eY (cM (cN (zo d8 (by rfl) T.n_isinstance zP (za (zH zw (pv 5) ze (fun _ _=>rfl)) (za (d7 rfl T.n_str G2 (v:=.ty "str") rfl) zd))) (fun _=>rfl))))))) (zn (zC cL)) zJ) (zf (aN (zN (bR hr.units) (zo zx (by rfl) T.n_len zV (za (pv 5) zd)) ze (nomark _)) (zn (zC (iE (eO (bR hr.units) (zH zw (pv 5) ze (fun _ _=>rfl)) cP (nomark _)) (gB (eO tR (zv vS hr dz (za (pv 2) (za (pv 4) zd))) (pv 3) (nomark _)))))) zJ) (zf (aN (PW.pt (dJ (zN (iL hr.units) (zH zw (pv 5) ze (fun _ _=>rfl)) cP (nomark _)) (dJ (cM (cN (zv yW hr dz (za (zH zw (pv 5) ze (fun _ _=>rfl)) zd)) (fun _=>rfl))) (eY (EB true rfl T.n_range (zH zw (pv 5) ze (fun _ _=>rfl)) (za (zo zx (by rfl) T.n_len zV (za (pv 1) zd)) zd)))))) (zn (zC cL)) zJ) (zf (zD (i:=6) iP.nd rfl lo (zE zA (pv 4) (zS zM (by rfl) T.n_tuple bX (za (cE (fun _ _ h=>h) rfl (zI rfl rfl rfl rfl (N:=["some"]) (caps:=[none]) (by show bA ["drawing","gaps","offers","price","beginning","why","last","chosen","one","number","part","gap","worth"] (zm tX).names _ _ _=true;decide +kernel)) (b6 (bZ jK (pv 2) (bS (zo zx (by rfl) T.n_len zV (za (pv 4) zd))) b9)) (fun _ _ _ _=>(zu (i:=0) (by show fx (["some"]:List Str);decide) rfl (fy rfl))) (fun _ _ _ _=>bH) (fun _ _ _ _=>(zE eC (zo zx (by rfl) T.n_len zV (za (pv 0) zd)) ze))) zd)))) (zf (zD (i:=7) iP.nd rfl lo (zv yO hr dz (za (pv 0) (za (pv 2) (za (pv 6) zd))))) (zf (zD (i:=8) iP.nd rfl (sk rfl) (zH zw (pv 5) ze (fun _ _=>rfl))) (zf (aN (PW.pt (dJ (cM (cN (zo d8 (by rfl) T.n_isinstance zP (za (pv 8) (za (d7 rfl T.n_tuple bX (v:=.ty "tuple") rfl) zd))) (fun _=>rfl))) (eY (zN (iL hr.units) (zo zx (by rfl) T.n_len zV (za (pv 8) zd)) (zo zx (by rfl) T.n_len zV (za (pv 7) zd)) (nomark _))))) (zn (zC cL)) zJ) (zf (cT gj rfl (iT rfl T.n_zip (za (pv 8) (za (pv 7) zd))) (dE (n:=2) rfl (zL (zu (i:=9) iP.nd rfl (fy rfl)) (zL (zu (i:=10) iP.nd rfl (fy rfl)) dF))) (zn (aN (PW.pt (dJ (cM (cN (zv yW hr dz (za (pv 9) zd)) (fun _=>rfl))) (dJ (zN fZ (pv 9) (zH zw (pv 10) ze (fun _ _=>rfl)) (nomark _)) (eY (zN kQ (pv 9) (zH zw (pv 10) ze (fun _ _=>rfl)) (nomark _)))))) (zn (zC cL)) zJ))) (zf (zD (i:=11) iP.nd rfl lo (zH zw (pv 1) (zH zw (pv 5) ze (fun _ _=>rfl)) (fun _ _=>rfl))) (zf (zD (i:=12) iP.nd rfl lo (zo (mS rfl) (by rfl) T.n_sum lS (za (cE (fun _ _ h=>h) rfl (zI rfl rfl rfl rfl (N:=["part","times","one"]) (caps:=[none,none,some 8]) (by show bA ["drawing","gaps","offers","price","beginning","why","last","chosen","one","number","part","gap","worth"] (zm tX).names _ _ _=true;decide +kernel)) (b6 (zH zw (pv 11) ze (fun _ _=>rfl))) (fun _ _ _ _=>(dE (n:=2) rfl (zL (zu (i:=0) (by show fx (["part","times","one"]:List Str);decide) rfl (fy rfl)) (zL (zu (i:=1) (by show fx (["part","times","one"]:List Str);decide) rfl (fy rfl)) dF)))) (fun _ _ _ _=>bH) (fun _ _ _ _=>(zE dX (pv 1) (zH zw (pv 2) (pv 0) (fun _ _=>rfl))))) zd))) (zn (zC (K2 (eO fZ (pv 12) (zH zw (pv 11) ze (fun _ _=>rfl)) (nomark _)) (gB (eO kQ (pv 12) (zH zw (pv 11) ze (fun _ _=>rfl)) (nomark _)))))))))))))))),(zF (by walk_at "r") (zF (by walk_at "r") (zF (by walk_at "r") (zF (bV (zX cW zi (aU jW (zg (bP (cS (hJ mL zi (gY (aU eF (zg zi zz))) iJ)) zy bJ (zX lW (aU eF (zg zi zz)) zO)) zz))) zy) (zF (by walk_at "r") (zF (by walk_at "r") (zF (by walk_at "r") (zF (by walk_at "r") (zF (by walk_at "r") (zF (bV (aU k9 (zg (bP (cS (zX bN zi zO)) (gQ (dA zy (dA zy gM))) bJ (zX kI zi (zX bN zi zi))) zz)) zy) (by walk_at "r"))))))))))),fun xs S R q=>q⟩
theorem BI:∀n,Df P w K mg base "_law_rows_of" ["pen","drawing","gaps","offers","price","beginning"] (3+n) (spN ["pen","drawing","gaps","offers","price","beginning"] (lZ n))
 | 0=>Df.none dd.a14
 |n+1=>by
  have uY:=BI  n;show Df P w K mg base "_law_rows_of" ["pen","drawing","gaps","offers","price","beginning"] (3+n+1) (spN ["pen","drawing","gaps","offers","price","beginning"] (lZ (n+1)));exact Df.dN dd.a14 mB 4 rfl fun f aa A outer s H E hr=>⟨_,_,(zf (aN (zN tR (zv vS hr yw (za (pv 3) (za (pv 5) zd))) (pv 4) (nomark _)) (zn (zC (aR (za (zU (za (pv 5) (za (zU (za cP zd)) zd))) zd)))) zJ) (zf (zD (i:=6) mB.nd rfl lo (zv Kg hr yw (za (pv 1) (za (pv 2) (za (pv 3) (za (pv 5) zd)))))) (zf (jL (i:=7) (fun _ _ h=>h) rfl (zI rfl rfl rfl rfl (N:=["why","drawing","gaps","offers","price","beginning"]) (caps:=[none,some 1,some 2,some 3,some 4,some 5]) (by show bA ["pen","drawing","gaps","offers","price","beginning","whys","good","rows","number"] (zm AI).names _ _ _=true;decide +kernel)) mB.nd rfl rfl (b6 (pv 6)) (fun _ _ _ _=>(zu (i:=0) (by show fx (["why","drawing","gaps","offers","price","beginning"]:List Str);decide) rfl (fy rfl))) (fun _ _ _ _=>(G5 (cN (zv CJ hr yw (za (pv 1) (za (pv 2) (za (pv 3) (za (pv 4) (za (pv 5) (za (pv 0) zd))))))) (fun _=>rfl)))) (fun _ _ _ _=>(pv 0))) (zf (aN (PW.pt (vZ (zN (iL hr.units) (pv 7) (aR zd) (nomark _)) (xF (PW.pt (dJ (zN (bR hr.units) (zo zx (by rfl) T.n_len zV (za (pv 5) zd)) (zo zx (by rfl) T.n_len zV (za (pv 3) zd)) (nomark _)) (eY (zN kQ (zv zt hr yw (za (pv 0) (za ze zd))) ze (nomark _)))))))) (zn (zC (aR (za (zU (za (pv 5) (za (zH zw (pv 7) (zv zt hr yw (za (pv 0) (za (zo zx (by rfl) T.n_len zV (za (pv 7) zd)) zd))) (fun _ _=>rfl)) zd))) zd)))) zJ) (zf (aN (PW.pt (dJ (zN (bR hr.units) (zo zx (by rfl) T.n_len zV (za (pv 5) zd)) (zo zx (by rfl) T.n_len zV (za (pv 3) zd)) (nomark _)) (eY (zN (bR hr.units) (zv zt hr yw (za (pv 0) (za ze zd))) ze (nomark _))))) (zn (zC (aR (za (zU (za (pv 5) (za (zH zw (pv 6) (zv zt hr yw (za (pv 0) (za (zo zx (by rfl) T.n_len zV (za (pv 6) zd)) zd))) (fun _ _=>rfl)) zd))) zd)))) zJ) (zf (zD (i:=8) mB.nd rfl lo (aR zd)) (zf (cT gj rfl (zY rfl T.n_range (za (zo zx (by rfl) T.n_len zV (za (zH zw (pv 3) (zo zx (by rfl) T.n_len zV (za (pv 5) zd)) (fun _ _=>rfl)) zd)) zd)) (zu (i:=9) mB.nd rfl (fy rfl)) (zn (zD (i:=8) mB.nd rfl lo (zE zA (pv 8) (zv uY hr yw (za (pv 0) (za (pv 1) (za (pv 2) (za (pv 3) (za (pv 4) (za (zE zA (pv 5) (zU (za (pv 9) zd))) zd))))))))))) (zn (zC (pv 8)))))))))),(zF (by walk_at "r") (zF (by walk_at "r") (zF (bV (bP (cS zi) zy (iC (dW (zg zi (zg zi (zg zi (zg zi (zg zi (zg zi zz)))))))) zi) zy) (by walk_at "r")))),fun xs S R q=>q⟩
theorem uY:Df P w K mg base "_law_rows_of" ["pen","drawing","gaps","offers","price","beginning"] 163 (spN ["pen","drawing","gaps","offers","price","beginning"] xL):=BI T dd  160
theorem EW:Df P w K mg base "_law_names_of" ["pen"] 3 (spN ["pen"] jM):=by
 exact Df.dN dd.a15 gK 6 rfl fun f aa A outer s H E hr=>⟨_,_,(zf (zD (i:=1) gK.nd rfl (sk rfl) cP) (zf (zD (i:=2) gK.nd rfl lo (zv zt hr dz (za (pv 0) (za ze zd)))) (zf (zD (i:=3) gK.nd rfl (sk rfl) (zv zt hr dz (za (pv 0) (za ze zd)))) (zf (jL (i:=4) (fun _ _ h=>h) rfl (zI rfl rfl rfl rfl (N:=["k","letters","first"]) (caps:=[none,some 1,some 3]) (by show bA ["pen","letters","way","first","names","word","at"] (zm nB).names _ _ _=true;decide +kernel)) gK.nd rfl rfl (zY rfl T.n_range (za ze zd)) (fun _ _ _ _=>(zu (i:=0) (by show fx (["k","letters","first"]:List Str);decide) rfl (fy rfl))) (fun _ _ _ _=>bH) (fun _ _ _ _=>(zE dX (zH zw (pv 1) (zE gE (zE zA (pv 2) (zE dX ze (pv 0))) ze) (fun _ _=>rfl)) (zE zA ze (zE gE (zE zA (pv 2) (zE dX ze (pv 0))) ze))))) (zf (aN (zN (bR hr.units) (pv 2) ze (nomark _)) (zf (zD (i:=5) gK.nd rfl (sk rfl) (fL PySem.F.plainAttrs_str PySem.F.slot_str_join PySem.F.type_str_join Jq cP (za (cE (fun _ _ h=>h) rfl (zI rfl rfl rfl rfl (N:=["k","letters","first"]) (caps:=[none,some 1,some 3]) (by show bA ["pen","letters","way","first","names","word","at"] (zm nB).names _ _ _=true;decide +kernel)) (zY rfl T.n_range (za ze zd)) (fun _ _ _ _=>(zu (i:=0) (by show fx (["k","letters","first"]:List Str);decide) rfl (fy rfl))) (fun _ _ _ _=>bH) (fun _ _ _ _=>(zH zw (pv 1) (zE gE (zE zA (pv 2) (zE dX ze (pv 0))) ze) (fun _ _=>rfl)))) zd))) (zn (jL (i:=4) (fun _ _ h=>h) rfl (zI rfl rfl rfl rfl (N:=["k","word"]) (caps:=[none,some 5]) (by show bA ["pen","letters","way","first","names","word","at"] (zm nB).names _ _ _=true;decide +kernel)) gK.nd rfl rfl (zY rfl T.n_range (za ze zd)) (fun _ _ _ _=>(zu (i:=0) (by show fx (["k","word"]:List Str);decide) rfl (fy rfl))) (fun _ _ _ _=>bH) (fun _ _ _ _=>(bZ dS (pv 1) b9 (bS (zE zA (pv 0) ze))))))) zJ) (zf (aN (zN (bR hr.units) (pv 2) ze (nomark _)) (zn (zD (i:=4) gK.nd rfl lo (aR (za cP (za cP (za cP (za cP (za cP (za cP (za cP (za cP zd))))))))))) zJ) (zf (zD (i:=6) gK.nd rfl lo (zv zt hr dz (za (pv 0) (za ze zd)))) (zf (zD (i:=4) gK.nd rfl lo (zE uK (bZ dS (pv 4) (bS (pv 6)) b9) (bZ dS (pv 4) b9 (bS (pv 6))))) (zf (aN (zN (bR hr.units) (zv zt hr dz (za (pv 0) (za ze zd))) ze (nomark _)) (zn (fW (F1 PySem.F.plainAttrs_list PySem.F.slot_list_reverse PySem.F.type_list_reverse HZ (pv 4)))) zJ) (zn (zC (pv 4)))))))))))),(zF (bV tQ zy) (zF (by walk_at "r") (zF (by walk_at "r") (zF (bV (rO (fP (zg zO zz)) zy bJ (zX kI (zX bN zi (zX iF (zX cW zi (zX kI zO zi)) zO)) (zX cW zO (zX iF (zX cW zi (zX kI zO zi)) zO)))) zy) (zF (gL (by walk_at "r") (zF (bV (AL IX tQ (zg (bP (fP (zg zO zz)) zy bJ (zX bN zi (zX iF (zX cW zi (zX kI zO zi)) zO))) zz)) zy) (bV (rO (fP (zg zO zz)) zy bJ (hJ tI zi iJ (gY (zX cW zi zO)))) zy)) hU) (by walk_at "r")))))),fun xs S R q=>q⟩
theorem Ct:Df P w K mg base "_law_number_of" ["pen"] 3 (spN ["pen"] mR):=by
 exact Df.dN dd.a16 EA 1 rfl fun f aa A outer s H E hr=>⟨_,_,(zf (zD (i:=1) EA.nd rfl lo (zv zt hr dz (za (pv 0) (za ze zd)))) (zf (aN (zN fZ (pv 1) ze (nomark _)) (zn (zC (zE eC (zv zt hr dz (za (pv 0) (za ze zd))) ze))) zJ) (zf (aN (zN fZ (pv 1) ze (nomark _)) (zn (zC (zE eC (zv zt hr dz (za (pv 0) (za ze zd))) ze))) zJ) (zn (zC (zE dX (zE eC (zv zt hr dz (za (pv 0) (za (zE dX ze (zE lP ze ze)) zd))) (zE lP ze ze)) (zE lP ze ze))))))),(by walk_at "r"),fun xs S R q=>q⟩
theorem Gx:Df P w K mg base "_law_few" ["pen","most"] 4 (spN ["pen","most"] wJ):=by
 exact Df.dN dd.a17 lD 5 rfl fun f aa A outer s H E hr=>⟨_,_,(zf (zD (i:=2) lD.nd rfl lo (zv EW hr dz (za (pv 0) zd))) (zf (jL (i:=3) (fun _ _ h=>h) rfl (zI rfl rfl rfl rfl (N:=["k","pen"]) (caps:=[none,some 0]) (by show bA ["pen","most","names","wides","drawing","k","low"] (zm v7).names _ _ _=true;decide +kernel)) lD.nd rfl rfl (zY rfl T.n_range (za (zE zA ze (zv zt hr dz (za (pv 0) (za (pv 1) zd)))) zd)) (fun _ _ _ _=>(zu (i:=0) (by show fx (["k","pen"]:List Str);decide) rfl (fy rfl))) (fun _ _ _ _=>bH) (fun _ _ _ _=>(zE zA ze (zv zt hr dz (za (pv 1) (za ze zd)))))) (zf (aN (zN (bR hr.units) (zv zt hr dz (za (pv 0) (za ze zd))) ze (nomark _)) (zn (zD (i:=3) lD.nd rfl lo (zH zw (aR (za (zE dX (aR (za ze zd)) ze) (za (aR (za ze (za ze zd))) (za (aR (za ze zd)) (za (zE dX (aR (za ze zd)) ze) zd))))) (zv zt hr dz (za (pv 0) (za ze zd))) (fun _ _=>rfl)))) zJ) (zf (zD (i:=4) lD.nd rfl lo (aR zd)) (zf (cT gj rfl (zY rfl T.n_range (za (zo zx (by rfl) T.n_len zV (za (pv 3) zd)) zd)) (zu (i:=5) lD.nd rfl (fy rfl)) (zf (zD (i:=6) lD.nd rfl lo (zv Ct hr dz (za (pv 0) zd))) (zn (fW (fL PySem.F.plainAttrs_list PySem.F.slot_list_append PySem.F.type_list_append gF (pv 4) (za (zU (za (zH zw (pv 2) (pv 5) (fun _ _=>rfl)) (za (pv 6) (za (zE eC (zE zA (pv 6) (zH zw (pv 3) (pv 5) (fun _ _=>rfl))) ze) zd)))) zd)))))) (zn (zC (zS zM (by rfl) T.n_tuple bX (za (pv 4) zd))))))))),(zF (by walk_at "r") (zF (bV (bP (fP (zg (zX cW zO (eE (i:=0) (zg zi (zg zi zz)))) zz)) zy bJ (zX cW zO (eE (i:=0) (zg zi (zg zO zz))))) zy) (by walk_at "r"))),fun xs S R q=>q⟩
theorem Hr:Df P w K mg base "_law_span" ["pen"] 4 (spN ["pen"] rX):=by
 exact Df.dN dd.a18 rP 2 rfl fun f aa A outer s H E hr=>⟨_,_,(zf (zD (i:=1) rP.nd rfl lo (zv Ct hr dz (za (pv 0) zd))) (zf (zD (i:=2) rP.nd rfl lo (zv zt hr dz (za (pv 0) (za ze zd)))) (zf (aN (zN (bR hr.units) (zv zt hr dz (za (pv 0) (za ze zd))) ze (nomark _)) (zn (zD (i:=2) rP.nd rfl lo (zv zt hr dz (za (pv 0) (za (zE lP ze ze) zd))))) zJ) (zn (zC (zU (za (pv 1) (za (zE zA (pv 1) (pv 2)) zd)))))))),(by walk_at "r"),fun xs S R q=>q⟩
theorem HR:Df P w K mg base "_law_drawing_of" ["pen","most"] 5 (spN ["pen","most"] wS):=by
 exact Df.dN dd.a19 sF 3 rfl fun f aa A outer s H E hr=>⟨_,_,(zf (zD (i:=2) sF.nd rfl lo (zv EW hr dz (za (pv 0) zd))) (zf (zD (i:=3) sF.nd rfl lo (aR zd)) (zf (cT gj rfl (zY rfl T.n_range (za (zE zA ze (zv zt hr dz (za (pv 0) (za (pv 1) zd)))) zd)) (zu (i:=4) sF.nd rfl (fy rfl)) (zn (fW (fL PySem.F.plainAttrs_list PySem.F.slot_list_append PySem.F.type_list_append gF (pv 3) (za (zE zA (zU (za (zH zw (pv 2) (pv 4) (fun _ _=>rfl)) zd)) (zv Hr hr dz (za (pv 0) zd))) zd))))) (zn (zC (zS zM (by rfl) T.n_tuple bX (za (pv 3) zd))))))),(by walk_at "r"),fun xs S R q=>q⟩
theorem Ec:Df P w K mg base "choices_behind" ["sizes","beginning"] 1 (spN ["sizes","beginning"] nH):=by
 exact Df.dN dd.a20 sI 2 rfl fun f aa A outer s H E hr=>⟨_,_,(zf (zD (i:=2) sI.nd rfl lo ze) (zf (cT gj rfl (b6 (bZ dS (pv 0) (bS (zo zx (by rfl) T.n_len zV (za (pv 1) zd))) b9)) (zu (i:=3) sI.nd rfl (fy rfl)) (zn (zD (i:=2) sI.nd rfl lo (zE dX (pv 2) (pv 3))))) (zn (zC (pv 2))))),(by walk_at "r"),fun xs S R q=>q⟩
theorem wD:Df P w K mg base "is_whole" ["thing"] 1 (spN ["thing"] iZ):=by
 exact Df.dN dd.a21 HP 0 rfl fun f aa A outer s H E hr=>⟨_,_,(zn (zC (iE (zo d8 (by rfl) T.n_isinstance zP (za (pv 0) (za (d7 rfl T.n_int qX (v:=.ty "int") rfl) zd))) (gB (xW (zo d8 (by rfl) T.n_isinstance zP (za (pv 0) (za (d7 rfl T.n_bool vC (v:=.ty "bool") rfl) zd)))))))),(by walk_at "r"),fun xs S R q=>q⟩
theorem JU:Df P w K mg base "is_beginning" ["sizes","thing"] 2 (spN ["sizes","thing"] uD):=by
 exact Df.dN dd.a22 Kz 0 rfl fun f aa A outer s H E hr=>⟨_,_,(zf (aN (PW.pt (dJ (cM (cN (zo d8 (by rfl) T.n_isinstance zP (za (pv 1) (za (d7 rfl T.n_tuple bX (v:=.ty "tuple") rfl) zd))) (fun _=>rfl))) (eY (zN kQ (zo zx (by rfl) T.n_len zV (za (pv 1) zd)) (zo zx (by rfl) T.n_len zV (za (pv 0) zd)) (nomark _))))) (zn (zC cL)) zJ) (zn (zC (zo (iR rfl) (by rfl) T.n_all jE (za (cE (fun _ _ h=>h) rfl (zI (L:=0) rfl rfl rfl rfl (N:=["number","size"]) (caps:=[none,none]) (by show bA ["sizes","thing"] (zm wG).names _ _ _=true;decide +kernel)) (iT rfl T.n_zip (za (pv 1) (za (pv 0) zd))) (fun _ _ _ _=>(dE (n:=2) rfl (zL (zu (i:=0) (by show fx (["number","size"]:List Str);decide) rfl (fy rfl)) (zL (zu (i:=1) (by show fx (["number","size"]:List Str);decide) rfl (fy rfl)) dF)))) (fun _ _ _ _=>bH) (fun _ _ _ _=>(iE (zv wD hr dz (za (pv 0) zd)) (gB (yI mE fZ ze (pv 0) (pv 1)))))) zd))))),(zF (by walk_at "r") (cI (aU hZ (zg (bP (kJ (zg zi (zg zi zz))) (gQ (dA zy (dA zy gM))) bJ (rE (dW (zg zi zz)) (AC kW kW zO zi zi))) zz)))),fun xs S R q=>q⟩
theorem GR:Df P w K mg base "part_all_choices" ["sizes","things"] 3 (spN ["sizes","things"] rT):=by
 exact Df.dN dd.a23 J8 0 rfl fun f aa A outer s H E hr=>⟨_,_,(zf (aN (cM (cN (zo (iR rfl) (by rfl) T.n_all jE (za (cE (fun _ _ h=>h) rfl (zI rfl rfl rfl rfl (N:=["thing","sizes"]) (caps:=[none,some 0]) (by show bA ["sizes","things"] (zm pO).names _ _ _=true;decide +kernel)) (b6 (pv 1)) (fun _ _ _ _=>(zu (i:=0) (by show fx (["thing","sizes"]:List Str);decide) rfl (fy rfl))) (fun _ _ _ _=>bH) (fun _ _ _ _=>(zv JU hr dz (za (pv 1) (za (pv 0) zd))))) zd)) (fun _=>rfl))) (zn (zC cL)) zJ) (zf (aN (cM (cN (zo (iR rfl) (by rfl) T.n_all jE (za (cE (fun _ _ h=>h) rfl (zI rfl rfl rfl rfl (N:=["ahead","thing"]) (caps:=[none,none]) (by show bA ["sizes","things"] (zm pO).names _ _ _=true;decide +kernel)) (iT rfl T.n_zip (za (pv 1) (za (bZ dS (pv 1) (bS ze) b9) zd))) (fun _ _ _ _=>(dE (n:=2) rfl (zL (zu (i:=0) (by show fx (["ahead","thing"]:List Str);decide) rfl (fy rfl)) (zL (zu (i:=1) (by show fx (["ahead","thing"]:List Str);decide) rfl (fy rfl)) dF)))) (fun _ _ _ _=>bH) (fun _ _ _ _=>(iE (eO (K1 hr.units0) (pv 0) (pv 1) (nomark _)) (gB (eO (iL hr.units) (bZ jK (pv 1) b9 (bS (zo zx (by rfl) T.n_len zV (za (pv 0) zd)))) (pv 0) (nomark _)))))) zd)) (fun _=>rfl))) (zn (zC cL)) zJ) (zn (zC (eO (bR hr.units) (zo (mS rfl) (by rfl) T.n_sum lS (za (cE (fun _ _ h=>h) rfl (zI rfl rfl rfl rfl (N:=["thing","sizes"]) (caps:=[none,some 0]) (by show bA ["sizes","things"] (zm pO).names _ _ _=true;decide +kernel)) (b6 (pv 1)) (fun _ _ _ _=>(zu (i:=0) (by show fx (["thing","sizes"]:List Str);decide) rfl (fy rfl))) (fun _ _ _ _=>bH) (fun _ _ _ _=>(zv Ec hr dz (za (pv 1) (za (pv 0) zd))))) zd)) (zv Ec hr dz (za (pv 0) (za (zU zd) zd))) (nomark _)))))),(zF (gL (iN (iC (aU hZ (zg (bP (cS zi) zy bJ (dW (zg zi (zg zi zz)))) zz)))) (cI kB) hU) (zF (gL (iN (iC (aU hZ (zg (bP (kJ (zg zi (zg (hJ tI zi (gY zO) iJ) zz))) (gQ (dA zy (dA zy gM))) bJ (rE (zX LM zi zi) (zX E3 (hJ mL zi iJ (gY (aU eF (zg zi zz)))) zi))) zz)))) (cI kB) hU) (cI (zX rF (aU k9 (zg (bP (cS zi) zy bJ (dW (zg zi (zg zi zz)))) zz)) (by walk_at "r"))))),fun xs S R q=>q⟩
theorem Jp:Df P w K mg base "are_rows" ["sizes","thing"] 4 (spN ["sizes","thing"] tO):=by
 exact Df.dN dd.a24 LP 0 rfl fun f aa A outer s H E hr=>⟨_,_,(zf (aN (cM (cN (zo d8 (by rfl) T.n_isinstance zP (za (pv 1) (za (d7 rfl T.n_list oM (v:=.ty "list") rfl) zd))) (fun _=>rfl))) (zn (zC cL)) zJ) (zf (aN (cM (cN (zo (iR rfl) (by rfl) T.n_all jE (za (cE (fun _ _ h=>h) rfl (zI (L:=0) rfl rfl rfl rfl (N:=["row"]) (caps:=[none]) (by show bA ["sizes","thing"] (zm sT).names _ _ _=true;decide +kernel)) (b6 (pv 1)) (fun _ _ _ _=>(zu (i:=0) (by show fx (["row"]:List Str);decide) rfl (fy rfl))) (fun _ _ _ _=>bH) (fun _ _ _ _=>(iE (zo d8 (by rfl) T.n_isinstance zP (za (pv 0) (za (d7 rfl T.n_tuple bX (v:=.ty "tuple") rfl) zd))) (gB (eO (bR hr.units) (zo zx (by rfl) T.n_len zV (za (pv 0) zd)) ze (nomark _)))))) zd)) (fun _=>rfl))) (zn (zC cL)) zJ) (zn (zC (zv GR hr dz (za (pv 0) (za (cE (fun _ _ h=>h) rfl (zI (L:=0) rfl rfl rfl rfl (N:=["row"]) (caps:=[none]) (by show bA ["sizes","thing"] (zm sT).names _ _ _=true;decide +kernel)) (b6 (pv 1)) (fun _ _ _ _=>(zu (i:=0) (by show fx (["row"]:List Str);decide) rfl (fy rfl))) (fun _ _ _ _=>bH) (fun _ _ _ _=>(zH zw (pv 0) ze (fun _ _=>rfl)))) zd))))))),(zF (by walk_at "r") (zF (gL (iN (iC (aU hZ (zg (bP (cS zi) zy bJ (rE (aU CN (zg zi (zg AJ zz))) (zX rF (aU eF (zg zi zz)) zO))) zz)))) (cI kB) hU) (cI (dW (zg zi (zg (bP (cS zi) zy bJ (zX bN zi zO)) zz)))))),fun xs S R q=>q⟩
theorem BK:Df P w K mg base "sizes_of" ["offers"] 1 (spN ["offers"] rB):=by
 exact Df.dN dd.a25 Kf 0 rfl fun f aa A outer s H E hr=>⟨_,_,(zn (zC (cE (fun _ _ h=>h) rfl (zI (L:=0) rfl rfl rfl rfl (N:=["of_part"]) (caps:=[none]) (by show bA ["offers"] (zm yA).names _ _ _=true;decide +kernel)) (b6 (pv 0)) (fun _ _ _ _=>(zu (i:=0) (by show fx (["of_part"]:List Str);decide) rfl (fy rfl))) (fun _ _ _ _=>bH) (fun _ _ _ _=>(zo zx (by rfl) T.n_len zV (za (pv 0) zd)))))),(cI (rO (cS zi) zy bJ (aU eF (zg zi zz)))),fun xs S R q=>q⟩
theorem Iu:Df P w K mg base "is_set" ["drawing","thing"] 2 (spN ["drawing","thing"] sW):=by
 exact Df.dN dd.a26 LL 0 rfl fun f aa A outer s H E hr=>⟨_,_,(zf (aN (PW.pt (dJ (cM (cN (zo d8 (by rfl) T.n_isinstance zP (za (pv 1) (za (d7 rfl T.n_tuple bX (v:=.ty "tuple") rfl) zd))) (fun _=>rfl))) (eY (zN (iL hr.units) (zo zx (by rfl) T.n_len zV (za (pv 1) zd)) (zo zx (by rfl) T.n_len zV (za (pv 0) zd)) (nomark _))))) (zn (zC cL)) zJ) (zn (zC (zo (iR rfl) (by rfl) T.n_all jE (za (cE (fun _ _ h=>h) rfl (zI (L:=0) rfl rfl rfl rfl (N:=["number","part"]) (caps:=[none,none]) (by show bA ["drawing","thing"] (zm yJ).names _ _ _=true;decide +kernel)) (iT rfl T.n_zip (za (pv 1) (za (pv 0) zd))) (fun _ _ _ _=>(dE (n:=2) rfl (zL (zu (i:=0) (by show fx (["number","part"]:List Str);decide) rfl (fy rfl)) (zL (zu (i:=1) (by show fx (["number","part"]:List Str);decide) rfl (fy rfl)) dF)))) (fun _ _ _ _=>bH) (fun _ _ _ _=>(iE (zv wD hr dz (za (pv 0) zd)) (gB (yI mE mE (zH zw (pv 1) ze (fun _ _=>rfl)) (pv 0) (zH zw (pv 1) ze (fun _ _=>rfl))))))) zd))))),(zF (by walk_at "r") (cI (aU hZ (zg (bP (kJ (zg zi (zg zi zz))) (gQ (dA zy (dA zy gM))) bJ (rE (dW (zg zi zz)) (AC kW kW (zX bN zi zO) zi (zX bN zi zO)))) zz)))),fun xs S R q=>q⟩
theorem Ic:Df P w K mg base "price_of" ["offers","choice"] 1 (spN ["offers","choice"] sP):=by
 exact Df.dN dd.a27 Jl 0 rfl fun f aa A outer s H E hr=>⟨_,_,(zn (zC (zo (mS rfl) (by rfl) T.n_sum lS (za (cE (fun _ _ h=>h) rfl (zI (L:=0) rfl rfl rfl rfl (N:=["of_part","number"]) (caps:=[none,none]) (by show bA ["offers","choice"] (zm v0).names _ _ _=true;decide +kernel)) (iT rfl T.n_zip (za (pv 0) (za (pv 1) zd))) (fun _ _ _ _=>(dE (n:=2) rfl (zL (zu (i:=0) (by show fx (["of_part","number"]:List Str);decide) rfl (fy rfl)) (zL (zu (i:=1) (by show fx (["of_part","number"]:List Str);decide) rfl (fy rfl)) dF)))) (fun _ _ _ _=>bH) (fun _ _ _ _=>(zH zw (zH zw (pv 0) (pv 1) (fun _ _=>rfl)) ze (fun _ _=>rfl)))) zd)))),(cI (aU k9 (zg (bP (kJ (zg zi (zg zi zz))) (gQ (dA zy (dA zy gM))) bJ (zX bN (zX bN zi zi) zO)) zz))),fun xs S R q=>q⟩
theorem IT:Df P w K mg base "narrowed_by" ["drawing","offers","choice"] 1 (spN ["drawing","offers","choice"] tJ):=by
 exact Df.dN dd.a28 BV 1 rfl fun f aa A outer s H E hr=>⟨_,_,(zf (jL (i:=3) (fun _ _ h=>h) rfl (zI (L:=0) rfl rfl rfl rfl (N:=["of_part","number"]) (caps:=[none,none]) (by show bA ["drawing","offers","choice","chosen"] (zm uG).names _ _ _=true;decide +kernel)) BV.nd rfl rfl (iT rfl T.n_zip (za (pv 1) (za (pv 2) zd))) (fun _ _ _ _=>(dE (n:=2) rfl (zL (zu (i:=0) (by show fx (["of_part","number"]:List Str);decide) rfl (fy rfl)) (zL (zu (i:=1) (by show fx (["of_part","number"]:List Str);decide) rfl (fy rfl)) dF)))) (fun _ _ _ _=>bH) (fun _ _ _ _=>(zH zw (pv 0) (pv 1) (fun _ _=>rfl)))) (zn (zC (zS zM (by rfl) T.n_tuple bX (za (cE (fun _ _ h=>h) rfl (zI (L:=0) rfl rfl rfl rfl (N:=["part","offer"]) (caps:=[none,none]) (by show bA ["drawing","offers","choice","chosen"] (zm uG).names _ _ _=true;decide +kernel)) (iT rfl T.n_zip (za (pv 0) (za (pv 3) zd))) (fun _ _ _ _=>(dE (n:=2) rfl (zL (zu (i:=0) (by show fx (["part","offer"]:List Str);decide) rfl (fy rfl)) (zL (zu (i:=1) (by show fx (["part","offer"]:List Str);decide) rfl (fy rfl)) dF)))) (fun _ _ _ _=>bH) (fun _ _ _ _=>(zU (za (zH zw (pv 0) ze (fun _ _=>rfl)) (za (zH zw (pv 1) ze (fun _ _=>rfl)) (za (zH zw (pv 1) ze (fun _ _=>rfl)) zd)))))) zd))))),(zF (bV (bP (kJ (zg zi (zg zi zz))) (gQ (dA zy (dA zy gM))) bJ (zX bN zi zi)) zy) (cI (aU jW (zg (bP (kJ (zg zi (zg zi zz))) (gQ (dA zy (dA zy gM))) bJ (gV (zg (zX bN zi zO) (zg (zX bN zi zO) (zg (zX bN zi zO) zz))))) zz)))),fun xs S R q=>q⟩
theorem FG:Df P w K mg base "narrowest" ["drawing","offers","beginning"] 2 (spN ["drawing","offers","beginning"] sL):=by
 exact Df.dN dd.a29 Bf 1 rfl fun f aa A outer s H E hr=>⟨_,_,(zf (jL (i:=3) (fun _ _ h=>h) rfl (zI (L:=0) rfl rfl rfl rfl (N:=["size"]) (caps:=[none]) (by show bA ["drawing","offers","beginning","lasts"] (zm wE).names _ _ _=true;decide +kernel)) Bf.nd rfl rfl (b6 (zv BK hr dz (za (pv 1) zd))) (fun _ _ _ _=>(zu (i:=0) (by show fx (["size"]:List Str);decide) rfl (fy rfl))) (fun _ _ _ _=>bH) (fun _ _ _ _=>(zE eC (pv 0) ze))) (zn (zC (zv IT hr dz (za (pv 0) (za (pv 1) (za (zE zA (pv 2) (zS zM (by rfl) T.n_tuple bX (za (bZ dS (pv 3) (bS (zo zx (by rfl) T.n_len zV (za (pv 2) zd))) b9) zd))) zd))))))),(zF (bV (bP (cS (dW (zg zi zz))) zy bJ (zX lW zi zO)) zy) (by walk_at "r")),fun xs S R q=>q⟩
theorem K3:Df P w K mg base "worth_of" ["gap","one"] 1 (spN ["gap","one"] uE):=by
 exact Df.dN dd.a30 LK 0 rfl fun f aa A outer s H E hr=>⟨_,_,(zn (zC (zo (mS rfl) (by rfl) T.n_sum lS (za (cE (fun _ _ h=>h) rfl (zI rfl rfl rfl rfl (N:=["part","times","one"]) (caps:=[none,none,some 1]) (by show bA ["gap","one"] (zm vT).names _ _ _=true;decide +kernel)) (b6 (zH zw (pv 0) ze (fun _ _=>rfl))) (fun _ _ _ _=>(dE (n:=2) rfl (zL (zu (i:=0) (by show fx (["part","times","one"]:List Str);decide) rfl (fy rfl)) (zL (zu (i:=1) (by show fx (["part","times","one"]:List Str);decide) rfl (fy rfl)) dF)))) (fun _ _ _ _=>bH) (fun _ _ _ _=>(zE dX (pv 1) (zH zw (pv 2) (pv 0) (fun _ _=>rfl))))) zd)))),(cI (aU k9 (zg (bP (cS (zX bN zi zO)) (gQ (dA zy (dA zy gM))) bJ (zX kI zi (zX bN zi zi))) zz))),fun xs S R q=>q⟩
theorem GT:Df P w K mg base "keeps" ["gap","one"] 2 (spN ["gap","one"] tK):=by
 exact Df.dN dd.a31 KJ 0 rfl fun f aa A outer s H E hr=>⟨_,_,(zn (zC (yI mE mE (zH zw (pv 0) ze (fun _ _=>rfl)) (zv K3 hr dz (za (pv 0) (za (pv 1) zd))) (zH zw (pv 0) ze (fun _ _=>rfl))))),(by walk_at "r"),fun xs S R q=>q⟩
theorem K0:Df P w K mg base "is_why_not" ["job","offers","price","beginning","why"] 3 (spN ["job","offers","price","beginning","why"] tW):=by
 exact Df.dN dd.a32 Fh 0 rfl fun f aa A outer s H E hr=>⟨_,_,(zf (aN (zN (bR hr.units) (pv 4) (zU (za cP zd)) (nomark _)) (zn (zC (eO tR (zv Ic hr dz (za (pv 1) (za (pv 3) zd))) (pv 2) (nomark _)))) zJ) (zf (aN (PW.pt (dJ (cM (cN (zo d8 (by rfl) T.n_isinstance zP (za (pv 4) (za (d7 rfl T.n_tuple bX (v:=.ty "tuple") rfl) zd))) (fun _=>rfl))) (dJ (zN (iL hr.units) (zo zx (by rfl) T.n_len zV (za (pv 4) zd)) ze (nomark _)) (eY (zN (iL hr.units) (zH zw (pv 4) ze (fun _ _=>rfl)) cP (nomark _)))))) (zn (zC cL)) zJ) (zf (aN (PW.pt (dJ (cM (cN (zv wD hr dz (za (zH zw (pv 4) ze (fun _ _=>rfl)) zd)) (fun _=>rfl))) (eY (cM (Ji mE fZ ze (zH zw (pv 4) ze (fun _ _=>rfl)) (zo zx (by rfl) T.n_len zV (za (zH zw (pv 0) ze (fun _ _=>rfl)) zd))))))) (zn (zC cL)) zJ) (zn (zC (iE (zv Iu hr dz (za (zv FG hr dz (za (zH zw (pv 0) ze (fun _ _=>rfl)) (za (pv 1) (za (pv 3) zd)))) (za (zH zw (pv 4) ze (fun _ _=>rfl)) zd))) (gB (xW (zv GT hr dz (za (zH zw (zH zw (pv 0) ze (fun _ _=>rfl)) (zH zw (pv 4) ze (fun _ _=>rfl)) (fun _ _=>rfl)) (za (zH zw (pv 4) ze (fun _ _=>rfl)) zd))))))))))),(by walk_at "r"),fun xs S R q=>q⟩
theorem KZ:Df P w K mg base "floor_holds" ["job","offers","price","thing"] 5 (spN ["job","offers","price","thing"] tY):=by
 exact Df.dN dd.a33 Jy 0 rfl fun f aa A outer s H E hr=>⟨_,_,(zf (aN (cM (cN (zv Jp hr dz (za (zv BK hr dz (za (pv 1) zd)) (za (pv 3) zd))) (fun _=>rfl))) (zn (zC cL)) zJ) (zn (zC (zo (iR rfl) (by rfl) T.n_all jE (za (cE (fun _ _ h=>h) rfl (zI rfl rfl rfl rfl (N:=["beginning","why","job","offers","price"]) (caps:=[none,none,some 0,some 1,some 2]) (by show bA ["job","offers","price","thing"] (zm xG).names _ _ _=true;decide +kernel)) (b6 (pv 3)) (fun _ _ _ _=>(dE (n:=2) rfl (zL (zu (i:=0) (by show fx (["beginning","why","job","offers","price"]:List Str);decide) rfl (fy rfl)) (zL (zu (i:=1) (by show fx (["beginning","why","job","offers","price"]:List Str);decide) rfl (fy rfl)) dF)))) (fun _ _ _ _=>bH) (fun _ _ _ _=>(zv K0 hr dz (za (pv 2) (za (pv 3) (za (pv 4) (za (pv 0) (za (pv 1) zd)))))))) zd))))),(zF (by walk_at "r") (cI (aU hZ (zg (bP (cS zi) (gQ (dA zy (dA zy gM))) bJ (dW (zg zi (zg zi (zg zi (zg zi (zg zi zz))))))) zz)))),fun xs S R q=>q⟩
theorem FR:Df P w K mg base "_law_fronts" ["choice","table"] 1 (spN ["choice","table"] sO):=by
 exact Df.dN dd.a34 FI 0 rfl fun f aa A outer s H E hr=>⟨_,_,(zn (zC (zo (mS rfl) (by rfl) T.n_sum lS (za (cE (fun _ _ h=>h) rfl (zI rfl rfl rfl rfl (N:=["k","table","choice"]) (caps:=[none,some 1,some 0]) (by show bA ["choice","table"] (zm vJ).names _ _ _=true;decide +kernel)) (zY rfl T.n_range (za (zE zA (zo zx (by rfl) T.n_len zV (za (pv 0) zd)) ze) zd)) (fun _ _ _ _=>(zu (i:=0) (by show fx (["k","table","choice"]:List Str);decide) rfl (fy rfl))) (fun _ _ _ _=>bH) (fun _ _ _ _=>(J1 (rC hr) (pv 1) (bZ jK (pv 2) b9 (bS (pv 0))) ze ⟨rfl,rfl,rfl,rfl⟩))) zd)))),(cI (aU k9 (zg (bP (fP (zg (zX cW (aU eF (zg zi zz)) zO) zz)) zy bJ (rS (fF (F8 zi (hJ mL zi iJ (gY zi)) zO)))) zz))),fun xs S R q=>q⟩
theorem Go:Df P w K mg base "_law_choices" ["offers"] 1 (spN ["offers"] uH):=by
 exact Df.dN dd.a35 lT 4 rfl fun f aa A outer s H E hr=>⟨_,_,(zf (zD (i:=1) lT.nd rfl lo (aR (za (zU zd) zd))) (zf (cT gj rfl (b6 (pv 0)) (zu (i:=2) lT.nd rfl (fy rfl)) (zf (zD (i:=3) lT.nd rfl lo (aR zd)) (zf (cT gj rfl (b6 (pv 1)) (zu (i:=4) lT.nd rfl (sk rfl)) (zn (fW (fL PySem.F.plainAttrs_list PySem.F.slot_list_extend PySem.F.type_list_extend LX (pv 3) (za (cE (fun _ _ h=>h) rfl (zI rfl rfl rfl rfl (N:=["number","ahead"]) (caps:=[none,some 4]) (by show bA ["offers","found","some","longer","ahead"] (zm y6).names _ _ _=true;decide +kernel)) (zY rfl T.n_range (za (zo zx (by rfl) T.n_len zV (za (pv 2) zd)) zd)) (fun _ _ _ _=>(zu (i:=0) (by show fx (["number","ahead"]:List Str);decide) rfl (fy rfl))) (fun _ _ _ _=>bH) (fun _ _ _ _=>(zE zA (pv 1) (zU (za (pv 0) zd))))) zd))))) (zn (zD (i:=1) lT.nd rfl lo (pv 3)))))) (zn (zC (pv 1))))),(zF (by walk_at "r") (zF (gU (cS zi) zy (Fu (zF (KO (zF (by walk_at "r") (gU (cS zi) zy (oX (qZ EO zi (zg (bP (fP (zg (aU eF (zg zi zz)) zz)) zy bJ (zX cW zi (gV (zg zi zz)))) zz)))))) (bV zi zy)))) (cI zi))),fun xs S R q=>q⟩
theorem FF:Df P w K mg base "_law_floor" ["drawing","gaps","offers","price","thing"] 3 (spN ["drawing","gaps","offers","price","thing"] rV):=by
 exact Df.dN dd.a36 jR 6 rfl fun f aa A outer s H E hr=>⟨_,_,(zf (aN (cM (cN (zo d8 (by rfl) T.n_isinstance zP (za (pv 4) (za (d7 rfl T.n_list oM (v:=.ty "list") rfl) zd))) (fun _=>rfl))) (zn (zC cL)) zJ) (zf (cT gj rfl (b6 (pv 4)) (zu (i:=5) jR.nd rfl (fy rfl)) (zf (aN (PW.pt (dJ (cM (cN (zo d8 (by rfl) T.n_isinstance zP (za (pv 5) (za (d7 rfl T.n_tuple bX (v:=.ty "tuple") rfl) zd))) (fun _=>rfl))) (dJ (zN (iL hr.units) (zo zx (by rfl) T.n_len zV (za (pv 5) zd)) ze (nomark _)) (dJ (cM (cN (zo d8 (by rfl) T.n_isinstance zP (za (zH zw (pv 5) ze (fun _ _=>rfl)) (za (d7 rfl T.n_tuple bX (v:=.ty "tuple") rfl) zd))) (fun _=>rfl))) (eY (zN kQ (zo zx (by rfl) T.n_len zV (za (zH zw (pv 5) ze (fun _ _=>rfl)) zd)) (zo zx (by rfl) T.n_len zV (za (pv 2) zd)) (nomark _))))))) (zn (zC cL)) zJ) (zf (cT gj rfl (iT rfl T.n_zip (za (zH zw (pv 5) ze (fun _ _=>rfl)) (za (pv 2) zd))) (dE (n:=2) rfl (zL (zu (i:=6) jR.nd rfl (fy rfl)) (zL (zu (i:=7) jR.nd rfl (fy rfl)) dF))) (zn (aN (PW.pt (dJ (cM (cN (zv yW hr dz (za (pv 6) zd)) (fun _=>rfl))) (eY (EB true rfl T.n_range (pv 6) (za (zo zx (by rfl) T.n_len zV (za (pv 7) zd)) zd))))) (zn (zC cL)) zJ))) (zn (aN (cM (cN (zv CJ hr dz (za (pv 0) (za (pv 1) (za (pv 2) (za (pv 3) (za (zH zw (pv 5) ze (fun _ _=>rfl)) (za (zH zw (pv 5) ze (fun _ _=>rfl)) zd))))))) (fun _=>rfl))) (zn (zC cL)) zJ))))) (zf (jL (i:=8) (fun _ _ h=>h) rfl (zI rfl rfl rfl rfl (N:=["row"]) (caps:=[none]) (by show bA ["drawing","gaps","offers","price","thing","row","number","some","rows","table","one"] (zm sV).names _ _ _=true;decide +kernel)) jR.nd rfl rfl (b6 (pv 4)) (fun _ _ _ _=>(zu (i:=0) (by show fx (["row"]:List Str);decide) rfl (fy rfl))) (fun _ _ _ _=>bH) (fun _ _ _ _=>(zH zw (pv 0) ze (fun _ _=>rfl)))) (zf (aN (zN (iL hr.units) (pv 8) (zo (Js hr.units) (by rfl) T.n_sorted Il (za (pv 8) zd)) (nomark _)) (zn (zC cL)) zJ) (zf (zD (i:=9) jR.nd rfl (sk rfl) JP) (zf (Ho (i:=9) (cT gj rfl (b6 (pv 8)) (zu (i:=10) jR.nd rfl (fy rfl)) (zn (Hm (rC hr) (pv 9) (pv 10) (zE zA (v3 (rC hr) (pv 9) (pv 10) ze ⟨rfl,rfl,rfl,rfl⟩) ze) rfl)))) (zn (zC (zo (iR rfl) (by rfl) T.n_all jE (za (cE (fun _ _ h=>h) rfl (zI rfl rfl rfl rfl (N:=["choice","table"]) (caps:=[none,some 9]) (by show bA ["drawing","gaps","offers","price","thing","row","number","some","rows","table","one"] (zm sV).names _ _ _=true;decide +kernel)) (b6 (zv Go hr dz (za (pv 2) zd))) (fun _ _ _ _=>(zu (i:=0) (by show fx (["choice","table"]:List Str);decide) rfl (fy rfl))) (fun _ _ _ _=>bH) (fun _ _ _ _=>(eO (bR hr.units) (zv FR hr dz (za (pv 0) (za (pv 1) zd))) ze (nomark _)))) zd)))))))))),(zF (by walk_at "r") (zF (by walk_at "r") (zF (bV (bP (cS zi) zy bJ (zX bN zi zO)) zy) (zF (by walk_at "r") (Bb (Gh (AT (Fp (fun M=>IA (cS zi)) zy (Kc (fun M=>(fF zi)) (fun M=>(GQ cW (xV (fF zi) (fF zi) (fF zO)) (fF zO))))))) (cI (aU hZ (zg (bP (cS (dW (zg zi zz))) zy bJ (zX rF (dW (zg zi (zg zi zz))) zO)) zz)))))))),fun xs S R q=>q⟩
theorem yQ:Df P w K mg base "_law_right" ["drawing","gaps","offers","price","thing"] 6 (spN ["drawing","gaps","offers","price","thing"] lY):=by
 exact Df.dN dd.a37 BL 1 rfl fun f aa A outer s H E hr=>⟨_,_,(zf (zD (i:=5) BL.nd rfl lo (zv KZ hr dz (za (zU (za (pv 0) (za (pv 1) zd))) (za (pv 2) (za (pv 3) (za (pv 4) zd)))))) (zn (zC (iE (zo d8 (by rfl) T.n_isinstance zP (za (pv 5) (za (d7 rfl T.n_bool vC (v:=.ty "bool") rfl) zd))) (gB (eO (bR hr.units) (pv 5) (zv FF hr dz (za (pv 0) (za (pv 1) (za (pv 2) (za (pv 3) (za (pv 4) zd)))))) (nomark _))))))),(by walk_at "r"),fun xs S R q=>q⟩
theorem Jk:Df P w K mg base "_law_bent" ["row","offers","gaps","pen"] 3 (spN ["row","offers","gaps","pen"] tS):=by
 exact Df.dN dd.a38 kU 5 rfl fun f aa A outer s H E hr=>⟨_,_,(zf (gT (pv 0) (dE (n:=2) rfl (zL (zu (i:=4) kU.nd rfl (fy rfl)) (zL (zu (i:=5) kU.nd rfl (fy rfl)) dF)))) (zf (zD (i:=6) kU.nd rfl lo (zv zt hr dz (za (pv 3) (za ze zd)))) (zf (aN (zN fZ (pv 6) ze (nomark _)) (zf (zD (i:=7) kU.nd rfl lo (zH zw (qQ (bQ ze (bQ (zo zx (by rfl) T.n_len zV (za (pv 2) zd)) (bQ cL (bQ x6 (bQ (fE fC ze) (bQ ze fA))))))) (pv 6) (fun _ _=>rfl))) (zn (zC (zU (za (pv 4) (za (zU (za cP (za (pv 7) (za (zH zw (pv 5) (fE fC ze) (fun _ _=>rfl)) zd)))) zd)))))) zJ) (zf (zD (i:=8) kU.nd rfl lo (aR (za (zU (za (bZ jK (pv 4) b9 (bS (fE fC ze))) (za (pv 5) zd))) (za (zU (za (zE zA (pv 4) (zU (za ze zd))) (za (pv 5) zd))) (za (zU (za (pv 4) (za (zU (za cP zd)) zd))) (za (zU (za (zS wX (by rfl) T.n_list oM (za (pv 4) zd)) (za (pv 5) zd))) zd)))))) (zf (fW (fL PySem.F.plainAttrs_list PySem.F.slot_list_append PySem.F.type_list_append gF (pv 8) (za (aR (za (pv 4) (za (pv 5) zd))) zd))) (zf (zD (i:=8) kU.nd rfl lo (zE uK (pv 8) (qQ (bQ (zU (za (pv 4) (za (zS wX (by rfl) T.n_list oM (za (pv 5) zd)) zd))) (bQ (zU (za (zE zA (pv 4) (zU (za ze zd))) (za (pv 5) zd))) (bQ (zU (za (zS zM (by rfl) T.n_tuple bX (za (zE dX (aR (za (fE fC ze) zd)) (zo zx (by rfl) T.n_len zV (za (pv 4) zd))) zd)) (za (pv 5) zd))) (bQ (zU (za (pv 4) zd)) fA))))))) (zn (zC (zH zw (zE zA (pv 8) (aR (za (zU (za (pv 4) (za (zE zA (bZ jK (pv 5) b9 (bS (fE fC ze))) (zU (za (bZ jK (pv 5) (bS (fE fC ze)) b9) zd))) zd))) zd))) (zE eC (pv 6) ze) (fun _ _=>rfl)))))))))),(by walk_at "r"),fun xs S R q=>q⟩
theorem Ks:Df P w K mg base "_law_far" ["row","drawing","gaps","pen"] 3 (spN ["row","drawing","gaps","pen"] tG):=by
 exact Df.dN dd.a39 kT 6 rfl fun f aa A outer s H E hr=>⟨_,_,(zf (gT (pv 0) (dE (n:=2) rfl (zL (zu (i:=4) kT.nd rfl (fy rfl)) (zL (zu (i:=5) kT.nd rfl (fy rfl)) dF)))) (zf (aN (zN (bR hr.units) (zo zx (by rfl) T.n_len zV (za (pv 5) zd)) ze (nomark _)) (zn (zC (pv 0))) zJ) (zf (zD (i:=6) kT.nd rfl lo (x8 (zS (Co rfl) (by rfl) T.n_dict BX (za (zH zw (zH zw (pv 2) (zH zw (pv 5) ze (fun _ _=>rfl)) (fun _ _=>rfl)) ze (fun _ _=>rfl)) zd)))) (zf (zD (i:=7) kT.nd rfl lo (zv zt hr dz (za (pv 3) (za ze zd)))) (zf (zD (i:=8) kT.nd rfl lo (aR zd)) (zf (cT gj rfl (zY rfl T.n_range (za (zo zx (by rfl) T.n_len zV (za (pv 1) zd)) zd)) (zu (i:=9) kT.nd rfl (fy rfl)) (zn (fW (fL PySem.F.plainAttrs_list PySem.F.slot_list_append PySem.F.type_list_append gF (pv 8) (za (zH zw (zH zw (pv 1) (pv 9) (fun _ _=>rfl)) (zE zA ze (zE gE (zE zA (pv 7) (zS yT (by rfl) T.n_int qX (za (eO fZ (v3 (rC hr) (pv 6) (pv 9) ze ⟨rfl,rfl,rfl,rfl⟩) ze (nomark _)) zd))) ze)) (fun _ _=>rfl)) zd))))) (zn (zC (zU (za (pv 4) (za (zU (za cP (za (zH zw (pv 5) ze (fun _ _=>rfl)) (za (zS zM (by rfl) T.n_tuple bX (za (pv 8) zd)) zd)))) zd))))))))))),(zF (by walk_at "r") (zF (by walk_at "r") (zF (by walk_at "r") (zF (by walk_at "r") (zF (by walk_at "r") (zF (gU (by walk_at "r") zy (oX (qZ w6 zi (zg (zX bN (by walk_at "r") (zX cW zO (zX iF (zX cW zi (aU v8 (zg (zX kW (rS (xV (fF zi) (fF zi) (fF zO))) zO) zz))) zO))) zz)))) (by walk_at "r"))))))),fun xs S R q=>q⟩
theorem Fw:Df P w K mg base "_law_spoilt" ["rows","drawing","offers","gaps","pen"] 4 (spN ["rows","drawing","offers","gaps","pen"] uN):=by
 exact Df.dN dd.a40 xT 2 rfl fun f aa A outer s H E hr=>⟨_,_,(zf (zD (i:=5) xT.nd rfl lo (zv zt hr dz (za (pv 4) (za (zo zx (by rfl) T.n_len zV (za (pv 0) zd)) zd)))) (zf (zD (i:=6) xT.nd rfl lo (zv zt hr dz (za (pv 4) (za ze zd)))) (zf (aN (zN (bR hr.units) (pv 6) ze (nomark _)) (zn (zC (zE zA (bZ dS (pv 0) b9 (bS (pv 5))) (bZ dS (pv 0) (bS (zE zA (pv 5) ze)) b9)))) zJ) (zf (aN (zN (bR hr.units) (pv 6) ze (nomark _)) (zn (zC (zE zA (bZ dS (pv 0) b9 (bS (zE zA (pv 5) ze))) (bZ dS (pv 0) (bS (pv 5)) b9)))) zJ) (zf (aN (zN (bR hr.units) (pv 6) ze (nomark _)) (zn (zC (zE zA (bZ dS (pv 0) (bS (pv 5)) b9) (bZ dS (pv 0) b9 (bS (pv 5)))))) zJ) (zf (aN (zN (bR hr.units) (pv 6) ze (nomark _)) (zn (zC (zH zw (qQ (bQ (zS zM (by rfl) T.n_tuple bX (za (pv 0) zd)) (bQ (zE zA (pv 0) (aR (za (zU (za (zU zd) (za (zU (za cP zd)) zd))) zd))) (bQ (aR (za (pv 0) zd)) (bQ x6 (bQ (aR (za (zU (za (zU zd) (za (zU (za cP zd)) zd))) zd)) (bQ (aR zd) fA))))))) (zv zt hr dz (za (pv 4) (za ze zd))) (fun _ _=>rfl)))) zJ) (zf (aN (zN (bR hr.units) (pv 6) ze (nomark _)) (zn (zC (zE zA (zE zA (bZ dS (pv 0) b9 (bS (pv 5))) (aR (za (zv Ks hr dz (za (zH zw (pv 0) (pv 5) (fun _ _=>rfl)) (za (pv 1) (za (pv 3) (za (pv 4) zd))))) zd))) (bZ dS (pv 0) (bS (zE zA (pv 5) ze)) b9)))) zJ) (zn (zC (zE zA (zE zA (bZ dS (pv 0) b9 (bS (pv 5))) (aR (za (zv Jk hr dz (za (zH zw (pv 0) (pv 5) (fun _ _=>rfl)) (za (pv 2) (za (pv 3) (za (pv 4) zd))))) zd))) (bZ dS (pv 0) (bS (zE zA (pv 5) ze)) b9))))))))))),(by walk_at "r"),fun xs S R q=>q⟩
theorem ok_law{f:Addr}{fd:qf}(F:Fun K "law" "law" s_law f fd):FnOk P w K mg base CX0 164 f fd ["script"] (sp1 (wR K)):=by
 refine F.ok1 e7 (fun v=>[some v,none,none,none,none,none,none,none,none,none,none]) (fun _=>rfl) fun ab A outer s H v Q E hr h=>?_;obtain⟨a,ns,rfl,hS,aa,q⟩:=h;refine⟨_,(zf (cT gj rfl (Lb (zE uK (aR (za (J5 F6 hr dz (pv 0) ze) zd)) (bZ AX (pv 0) (bS ze) (bS ze)))) (zu (i:=1) e7.nd rfl (fy rfl)) (zf (zD (i:=2) e7.nd rfl (sk rfl) (zv Ik hr dz (za (pv 1) zd))) (zf (zD (i:=3) e7.nd rfl (sk rfl) (Fn (zN (bR hr.units) (zv zt hr dz (za (pv 2) (za ze zd))) ze (nomark _)) (zv Gx hr dz (za (pv 2) (za ze zd))) (zv HR hr dz (za (pv 2) (za ze zd))))) (zf (zD (i:=3) e7.nd rfl (sk rfl) (bZ jK (pv 3) b9 (bS ze))) (zf (zD (i:=4) e7.nd rfl (sk rfl) (zv KS hr dz (za (pv 2) (za (pv 3) zd)))) (zf (zD (i:=5) e7.nd rfl (sk rfl) (zv KI hr dz (za (pv 2) (za (pv 3) (za (pv 4) (za ze zd)))))) (zf (zD (i:=6) e7.nd rfl lo (zS zM (by rfl) T.n_tuple bX (za (cE (fun _ _ h=>h) rfl (zI rfl rfl rfl rfl (N:=["some","pen"]) (caps:=[none,some 2]) (by show bA ["script","cell","pen","drawing","offers","gaps","choice","price","rows","turn","other"] (zm s_law).names _ _ _=true;decide +kernel)) (b6 (pv 4)) (fun _ _ _ _=>(zu (i:=0) (by show fx (["some","pen"]:List Str);decide) rfl (fy rfl))) (fun _ _ _ _=>bH) (fun _ _ _ _=>(zv zt hr dz (za (pv 1) (za (zo (Kr (K:=K) rfl) (by rfl) T.n_len zV (za (pv 0) zd)) zd))))) zd))) (zf (zD (i:=7) e7.nd rfl lo (zE eC (zE zA (zv vS hr dz (za (pv 4) (za (pv 6) zd))) (zv zt hr dz (za (pv 2) (za ze zd)))) ze)) (zf (zD (i:=8) e7.nd rfl lo (zv uY hr dz (za (pv 2) (za (pv 3) (za (pv 5) (za (pv 4) (za (pv 7) (za (zU zd) zd)))))))) (zf (aN (cM (cN (zv yQ hr dz (za (pv 3) (za (pv 5) (za (pv 4) (za (pv 7) (za (pv 8) zd)))))) (fun _=>rfl))) (zn (zC cL)) zJ) (Hg (cT gj rfl (zY rfl T.n_range (za ze zd)) (zu (i:=9) e7.nd rfl (fy rfl)) (zf (zD (i:=10) e7.nd rfl lo (zv Fw hr dz (za (pv 8) (za (pv 3) (za (pv 4) (za (pv 5) (za (pv 2) zd))))))) (zn (aN (cM (cN (zv yQ hr dz (za (pv 3) (za (pv 5) (za (pv 4) (za (pv 7) (za (pv 10) zd)))))) (fun _=>rfl))) (zn (zC cL)) zJ)))) (LI (KD (K:=K) (Ei (ET (uC (tD (uC (tD fA) (uC (tD (yV (QE.mk cP) fA)) fA))) fA)) (uC (tD fA) (yV (QE.mk ze) (Ei (ET (yV (QE.mk x6) fA)) (Fl (QE.mk (x8 FZ)) fA))))) (fun _ _ h=>h) rfl (zI rfl rfl rfl rfl (N:=["thing","drawing","gaps","offers"]) (caps:=[none,some 3,some 5,some 4]) (by show bA ["script","cell","pen","drawing","offers","gaps","choice","price","rows","turn","other"] (zm s_law).names _ _ _=true;decide +kernel)) (fun _ _ _ _=>(zu (i:=0) (by show fx (["thing","drawing","gaps","offers"]:List Str);decide) rfl (fy rfl))) (fun _ _ _ _=>(zv yQ hr dz (za (pv 1) (za (pv 2) (za (pv 3) (za ze (za (pv 0) zd))))))) (by rfl) T.n_all (zn (zC cL)) zJ rfl rfl))))))))))))) (zn (zC cL))),?_⟩;exact Jw (m:=10) (db:=AH) (zF (bV (dW (zg zi zz)) zy) (zF (bV (Em (CF (zX rF (eE (i:=0) (zg zi (zg zO zz))) zO)) (eE (i:=0) (zg zi (zg zO zz))) (eE (i:=0) (zg zi (zg zO zz)))) zy) (zF (bV (hJ mL zi iJ (gY zO)) zy) (zF (bV (eE (i:=0) (zg zi (zg zi zz))) zy) (zF (bV (eE (i:=0) (zg zi (zg zi (zg zi (zg zO zz))))) zy) (zF (bV (aU jW (zg (bP (cS zi) zy bJ (eE (i:=0) (zg zi (zg (aU eF (zg zi zz)) zz)))) zz)) zy) (zF (bV (zX lW (zX cW (dW (zg zi (zg zi zz))) (eE (i:=0) (zg zi (zg zO zz)))) zO) zy) (zF (bV (eE (i:=0) (zg zi (zg zi (zg zi (zg zi (zg zi (zg (gV zz) zz))))))) zy) (zF (gL (iN (iC (dW (zg zi (zg zi (zg zi (zg zi (zg zi zz)))))))) (cI kB) hU) (zF (gU (fP (zg zO zz)) zy (zF (bV (eE (i:=4) (zg zi (zg zi (zg zi (zg zi (zg zi zz)))))) zy) (gL (iN (iC (dW (zg zi (zg zi (zg zi (zg zi (zg zi zz)))))))) (cI kB) hU))) (gL (iN (iC (aU hZ (zg (bP (cS (sZ (zg (sZ (zg (gV (zg (gV zz) (zg (gV (zg tQ zz)) zz))) zz)) (zg (gV zz) (zg zO (zg (sZ (zg Au zz)) (zg HC zz))))))) zy bJ (dW (zg zi (zg zi (zg zi (zg zO (zg zi zz))))))) zz)))) (cI kB) hU))))))))))) rfl rfl hS aa (fun n=>LG a n) dz fun _ H2 _=>q H2
end
end My
theorem LA:L2.tabsG=[]:=rfl
namespace PySem.W.Fast
def tw5187584520824056059:Unit:=()
def tw7353036593076919751:Unit:=()
def tw17683924226266879574:Unit:=()
def tw12350338536828667331:Unit:=()
def tw10438825977140245728:Unit:=()
def tw1562582278006124132:Unit:=()
def tw12274211782760357148:Unit:=()
def tw10328998510228388482:Unit:=()
def tw12198910597421551760:Unit:=()
def tw13449520038770018769:Unit:=()
def tw8268600695130292754:Unit:=()
def tw14689700199032920326:Unit:=()
def tw2847289075058125043:Unit:=()
def tw2279380580020929356:Unit:=()
def tw10819341758715869076:Unit:=()
def tw16954793252280248934:Unit:=()
def tw6437847130986997754:Unit:=()
def tw6397370357015164184:Unit:=()
def tw7505388567757227410:Unit:=()
def tw3944971184238462086:Unit:=()
def tw3735728696551281161:Unit:=()
def tw10552662530196024820:Unit:=()
def tw5396850010304523803:Unit:=()
def tw16648802860862251300:Unit:=()
def tw733567282038671759:Unit:=()
def tw7199275641432423559:Unit:=()
def tw41717592110120174:Unit:=()
def tw9482324057568709022:Unit:=()
def tw15412450659250155631:Unit:=()
def tw9823994184685130553:Unit:=()
def tw12199728165792601857:Unit:=()
def tw13760424486476565318:Unit:=()
def tw12282480102466587920:Unit:=()
def tw7436688637603820574:Unit:=()
def tw6459913898797922541:Unit:=()
def tw10864767159108231959:Unit:=()
def tw7371233064540858008:Unit:=()
def tw17986266157842089018:Unit:=()
def tw16002468563279227993:Unit:=()
def tw712086856191053368:Unit:=()
def tw9381620232679843390:Unit:=()
def tw5262146131872704136:Unit:=()
def tw8020492103705854619:Unit:=()
def tw16756591168831346313:Unit:=()
def tw7382532545710569353:Unit:=()
def tw6037044839415585798:Unit:=()
def tw3247127649057569600:Unit:=()
def tw40642459897556574:Unit:=()
def tw8508889972860942199:Unit:=()
def tw7613365802305503692:Unit:=()
def tw10903008903808468703:Unit:=()
def tw16973192384345350023:Unit:=()
def tw2942218297676836509:Unit:=()
def tw11470019508648955784:Unit:=()
def tw2424792426049360889:Unit:=()
def tw848257588210615268:Unit:=()
def tw352996099725818635:Unit:=()
def tw13958528515068249028:Unit:=()
def tw3418272889662376872:Unit:=()
def tw17490743689633277533:Unit:=()
def tw1252316469655248531:Unit:=()
def tw14821143380034810524:Unit:=()
def tw12153900546644914211:Unit:=()
def tw11128444645614397:Unit:=()
def tw7151109639235163125:Unit:=()
def tw13459763686276832407:Unit:=()
def tw4916632756811804107:Unit:=()
def tw3791346588403435272:Unit:=()
def tw11540416301269762073:Unit:=()
def tw1763890241494983878:Unit:=()
def tw6425414098456545223:Unit:=()
def tw9713887757377073166:Unit:=()
def tw5479308976648157845:Unit:=()
def tw17008598936072140898:Unit:=()
def tw16851719568162209761:Unit:=()
def tw12371185098243747191:Unit:=()
def tw15231888724256193333:Unit:=()
def tw15984965161115116984:Unit:=()
def tw10105523307453911086:Unit:=()
def tw8975779101459705793:Unit:=()
def tw14116800531935178490:Unit:=()
def tw14037805936493024420:Unit:=()
def tw6487172967190391979:Unit:=()
def tw2856017346944836786:Unit:=()
def tw10301066918185760661:Unit:=()
def tw1199055183518493653:Unit:=()
def tw15293143241443987819:Unit:=()
def tw6798035944953762381:Unit:=()
def tw15137540692317424632:Unit:=()
def tw18379745507531132477:Unit:=()
def tw16425834285201863449:Unit:=()
def tw2125088059206305454:Unit:=()
def tw2830546939934796110:Unit:=()
def tw13154651997591305895:Unit:=()
def tw16051878952770162720:Unit:=()
def tw3550922669537727507:Unit:=()
def tw13865777761045936726:Unit:=()
def tw1888261801274785140:Unit:=()
def tw12408785874346482349:Unit:=()
def tw1993285571796587789:Unit:=()
def tw11092316756000086219:Unit:=()
def tw6505747257555599331:Unit:=()
def tw15434662802591184494:Unit:=()
def tw5411987969708710436:Unit:=()
def tw11017511704980446387:Unit:=()
def tw7459688935479097835:Unit:=()
def tw15465956643618186172:Unit:=()
def tw15697108251212802859:Unit:=()
def tw6832024074471906002:Unit:=()
def tw15130799143639673842:Unit:=()
def tw16796622478183032900:Unit:=()
def tw3880309422772887032:Unit:=()
end PySem.W.Fast
open PySem PySem.W PyProof.Rows L2
set_option maxRecDepth 100000 in
set_option maxHeartbeats 0 in
theorem PySem.Challenge.cw_gaugewright_k40_floors_by_anybody_holds : PySem.Challenge.rw_gaugewright_k40_floors_by_anybody.Holds := by
 w_on;o_law;k_head;(case hw=>w_witness2)
 k_fill
 refine L2.walk_law (l := PySem.Challenge.rw_gaugewright_k40_floors_by_anybody) (k := 164) rfl rfl ⟨rfl, by decide, by decide⟩ (fun w h Y => W.kIn_of Y) (fun w h Y => L2.TabsOk.none LA) ?F
 case F=>
  intro w mg fa h KX G hmg;have d_law:Dd (L2.KOf KX) mg "law" My.s_law ["script"]:=by
   dsimp only[L2.KOf];refine' Dd.mk' KX G ?a ?l ?c ?k ?b
   (case a=>k_is);(case l=>k_is);(case c=>k_is);(case k=>k_is);(case b=>intro _ _ _ _ _ _ us hl;obtain⟨_,rfl⟩:=L2.len1 hl;rfl)
  have T:My.Txt mg:=by
   refine' ⟨jk KX G ?z0,jk KX G ?z1,jk KX G ?z2,jk KX G ?z3,jk KX G ?z4,jk KX G ?z5,jk KX G ?z6,jk KX G ?z7,jk KX G ?z8,jk KX G ?z9,jk KX G ?z10,jk KX G ?z11,jk KX G ?z12,jk KX G ?z13,jk KX G ?z14⟩
   (case z0=>k_is);(case z1=>k_is);(case z2=>k_is);(case z3=>k_is);(case z4=>k_is);(case z5=>k_is);(case z6=>k_is);(case z7=>k_is);(case z8=>k_is);(case z9=>k_is);(case z10=>k_is);(case z11=>k_is);(case z12=>k_is);(case z13=>k_is);(case z14=>k_is)
  have dd:My.Dds (L2.KOf KX) mg:=by constructor<;>(dsimp only[L2.KOf];refine' Dd.mk' KX G ?a ?l ?c ?k ?b;(case a=>k_is);(case l=>k_is);(case c=>k_is);(case k=>k_is);(case b=>(intro _ _ _ _ _ _ us hl;first|(obtain⟨_,rfl⟩:=L2.len1 hl;rfl)|(obtain⟨_,_,rfl⟩:=L2.len2 hl;rfl)|(obtain⟨_,_,_,rfl⟩:=L2.len3 hl;rfl)|(obtain⟨_,_,_,_,rfl⟩:=L2.len4 hl;rfl)|(obtain⟨_,_,_,_,_,rfl⟩:=L2.len5 hl;rfl)|(obtain⟨_,_,_,_,_,_,rfl⟩:=L2.len6 hl;rfl))))
  obtain⟨f,fd,F,hm,_⟩:=d_law.ex;have e0:=hmg.symm.trans hm;cases e0;exact⟨fd,F.bind1 fun _ _ _ _ _ _ _=>rfl,fun base _ _=>My.ok_law T dd F⟩
#print axioms PySem.Challenge.cw_gaugewright_k40_floors_by_anybody_holds
end