import PyProof.Rows.All
import Wide.All
import OpenK.AllK
import Wide.FinOn
import Lean
import PyProof.EqAt
import PyProof.EqKinds
import PyProof.TupleCall
import KE.KTupSum
import KE.KSortTup
import PyProof.SetKind
import PyProof.SetRoads
import PyProof.SetNew
import PyProof.DictKinds
import PyProof.NsDelKeeps
import PyProof.StrWalks
import KE.KEqDict
import KE.KDictList
import PyProof.AttrMissSeq
import PyProof.WalksMore
import KE.KDictOf
import PyProof.Rows.Range3
import KE.KItemsList
import PyProof.FactsAll.dict_3
import KE.KMinKey
import PyProof.Rows.CallKwBuiltin
import PyProof.TupleOfSeq
import KE.KLam
import KE.KNestM
import PyProof.Rows.StrNews
import KE.KIntText
import PyProof.TupleKey
import PyProof.DictFindH
import PyProof.DictRoadsH
import PyProof.DictItems
import PyProof.Rows.TupTab
import Wide.Seal
import PyProof.DictValues
import PySem.Challenge.RW_gaugewright_k55_witnesses
open Option (isSome_iff_exists map_eq_some_iff map_some)
open Nat (le_of_lt le_refl le_trans lt_irrefl lt_of_lt_of_le ne_of_gt ne_of_lt zero_add zero_le)
open List (all_cons all_eq_true all_map append_assoc append_nil cons_append drop_eq_getElem_cons drop_length eq_nil_of_length_eq_zero flatMap_append flatten_cons foldl_cons forIn_cons getD_eq_getElem?_getD getElem?_append_left getElem?_concat_length getElem?_cons_succ getElem?_cons_zero getElem?_eq_getElem getElem?_map getElem?_set_ne getElem?_set_self getElem_mem getElem_zip length_append length_cons length_drop length_map length_nil length_set length_singleton length_take lookup_cons map_append map_cons map_id' map_map map_nil mem_append mem_append_left mem_append_right mem_cons mem_cons_of_mem mem_cons_self mem_filter mem_iff_getElem? mem_map mem_of_getElem? mem_range mem_singleton nil_append nodup_append nodup_cons nodup_nil not_mem_nil of_mem_zip replicate_succ reverse_cons set_cons_succ set_cons_zero size_toArray take_append_drop take_length take_zero zip_cons_cons)
open PySem.Heap (get?_push_of_some get?_push_size get?_update_other get?_update_self lt_size size_push)
open Array (length_toList)
theorem dz{p:Prop}[Decidable p](h:decide p=true:=by rfl):p:=of_decide_eq_true h
set_option Elab.async false
set_option linter.all false
set_option maxRecDepth 100000
set_option maxHeartbeats 8000000
noncomputable section
namespace L2
open PySem PySem.Spec PyProof.Rows
section
abbrev Key := Sum Int Str
def ziZ: Key -> Value -> Bool
  | .inl k, v => Value.isInt k v
  | .inr x, v => Value.isStrOf x v
def zrE(w : World): Key -> Int
  | .inl k => hashInt k
  | .inr x => hashStr w x
theorem zam: ∀ {k : Key} {v : Value}, ziZ k v=true -> (∃ i t, k=Sum.inl i /\ v=Value.int i t) \/ (∃ x t, k=Sum.inr x /\ v=Value.str x t)
  | .inl i, v, h => by
    obtain⟨t, e⟩ := Value.isInt_shape (k := i) (v := v) h;exact .inl ⟨i, t, rfl, e⟩
  | .inr x, v, h => by
    obtain⟨t, e⟩ := Value.isStrOf_shape (x := x) (v := v) h;exact .inr ⟨x, t, rfl, e⟩
theorem zk6(i : Int)(t : Tok): ziZ (.inl i) (.int i t)=true := by simp [ziZ, Value.isInt]
theorem zj9(x : Str)(t : Tok): ziZ (.inr x) (.str x t)=true := by simp [ziZ, Value.isStrOf]
theorem zpd(a b : Int): decide ((Sum.inl a : Key)=Sum.inl b)=(a == b) := by
  by_cases e : a=b
  · subst e; simp
  · have h : ¬ (Sum.inl a : Key)=Sum.inl b := fun q => e (Sum.inl.inj q)
    rw [decide_eq_false h];exact(beq_eq_false_iff_ne.mpr e).symm
theorem zpg(a b : Str): decide ((Sum.inr a : Key)=Sum.inr b)=decide (a=b) := by
  by_cases e : a=b
  · subst e; simp
  · have h : ¬ (Sum.inr a : Key)=Sum.inr b := fun q => e (Sum.inr.inj q)
    rw [decide_eq_false h, decide_eq_false e]
theorem zpS(a : Int)(b : Str): decide ((Sum.inl a : Key)=Sum.inr b)=false := decide_eq_false (fun q => nomatch q)
theorem zpk(a : Str)(b : Int): decide ((Sum.inr a : Key)=Sum.inl b)=false := decide_eq_false (fun q => nomatch q)
def zbu(prog : Program)(w : World): PySem.KeyKind prog w Key where
  is := ziZ
  hash := zrE w
  inj := fun v a b ha hb => by
    rcases zam ha with ⟨i, t, rfl, rfl⟩ | ⟨x, t, rfl, rfl⟩
    · rcases zam hb with ⟨j, u, rfl, e⟩ | ⟨y, u, rfl, e⟩
      · injection e with e1 _; rw [e1]
      · exact nomatch e
    · rcases zam hb with ⟨j, u, rfl, e⟩ | ⟨y, u, rfl, e⟩
      · exact nomatch e
      · injection e with e1 _; rw [e1]
  byValue := fun k v h => by
    rcases zam h with ⟨i, t, rfl, rfl⟩ | ⟨x, t, rfl, rfl⟩ <;> rfl
  pyHash := fun hv h => by
    rcases zam hv with ⟨i, t, rfl, rfl⟩ | ⟨x, t, rfl, rfl⟩
    · exact wpAny_pyHash_int h
    · exact wpAny_pyHash_str h
  eqBool := fun hu hv h => by
    rcases zam hu with ⟨i, t, rfl, rfl⟩ | ⟨x, t, rfl, rfl⟩
    · rcases zam hv with ⟨j, u, rfl, rfl⟩ | ⟨y, u, rfl, rfl⟩
      · rw [zpd] at h; exact wpAny_eqBool_int h
      · rw [zpS] at h; exact SeqAt.EqAt.int_str i t y u _ _ _ _ h
    · rcases zam hv with ⟨j, u, rfl, rfl⟩ | ⟨y, u, rfl, rfl⟩
      · rw [zpk] at h; exact SeqAt.EqAt.str_int x t j u _ _ _ _ h
      · rw [zpg] at h; exact wpAny_eqBool_str h
  «strs» := fun k x t v h => by
    rcases zam h with ⟨i, u, rfl, e⟩ | ⟨y, u, rfl, e⟩
    · exact nomatch e
    · injection e with e1 _
      subst e1;cases v <;> rfl
theorem zhq(prog : Program)(w : World)(i : Int)(t : Tok): (zbu prog w).is (.inl i) (.int i t)=true := zk6 i t
theorem zhO(prog : Program)(w : World)(x : Str)(t : Tok): (zbu prog w).is (.inr x) (.str x t)=true := zj9 x t
end
section
inductive V where
  | non | bl (b : Bool) | int (i : Int) | str (x : Str) | byt (b : Array UInt8) | flt (b : UInt64) | ref (a : Addr) | ty (n : String)
  deriving DecidableEq
def RelV: V -> Value -> Prop
  | .non, u => u=Value.none
  | .bl b, u => u=Value.bool b
  | .int i, u => ∃ t, u=Value.int i t
  | .str x, u => ∃ t, u=Value.str x t
  | .byt b, u => ∃ t, u=Value.bytes b t
  | .flt b, u => ∃ t, u=Value.float b t
  | .ref a, u => u=Value.ref a
  | .ty n, u => u=Value.type n
abbrev Vals : List V -> List Value -> Prop := Paired RelV
theorem Vals.length{xs : List V}{us : List Value}(r : Vals xs us): xs.length=us.length := Paired.length r
theorem Vals.get: ∀ {xs : List V} {us : List Value} {i : Nat} {x : V}, Vals xs us -> xs[i]? = some x -> ∃ u, us[i]? = some u /\ RelV x u
  | _, _, _, _, .nil, e => by simp at e
  | _, _, 0, _, .cons r _, e => by simp at e; subst e; exact⟨_, rfl, r⟩
  | _, _, i+1, x, .cons _ t, e => by
    obtain⟨u, h1, h2⟩ := Vals.get (i := i) (x := x) t (by simpa using e);exact⟨u, by simpa using h1, h2⟩
theorem Vals.set{x : V}{u : Value}(r : RelV x u): ∀ {xs : List V} {us : List Value} (i : Nat), Vals xs us -> Vals (xs.set i x) (us.set i u)
  | _, _, _, .nil => .nil
  | _, _, 0, .cons _ t => .cons r t
  | _, _, i+1, .cons q t => .cons q (Vals.set r i t)
theorem Vals.append: ∀ {xs ys : List V} {us ws : List Value}, Vals xs us -> Vals ys ws -> Vals (xs++ys) (us++ws)
  | _, _, _, _, .nil, s => s
  | _, _, _, _, .cons r t, s => .cons r (Vals.append t s)
theorem Vals.take: ∀ {xs : List V} {us : List Value} (n : Nat), Vals xs us -> Vals (xs.take n) (us.take n)
  | _, _, 0, _ => .nil
  | _, _, _+1, .nil => .nil
  | _, _, n+1, .cons r t => .cons r (Vals.take n t)
theorem Vals.drop: ∀ {xs : List V} {us : List Value} (n : Nat), Vals xs us -> Vals (xs.drop n) (us.drop n)
  | _, _, 0, r => r
  | _, _, _+1, .nil => .nil
  | _, _, n+1, .cons _ t => Vals.drop n t
def RelO: Option V -> Option Value -> Prop
  | some v, some u => RelV v u
  | none, none => True
  | _, _ => False
def KV{κ : Type}: List (κ×V) -> List (κ×Value) -> Prop := Paired fun(p : κ×V) (q : κ×Value) => p.1=q.1 /\ RelV p.2 q.2
def kV: Key -> V
  | .inl i => .int i
  | .inr x => .str x
inductive HO where
  | lst (xs : List V)
  | tup (xs : List V)
  | dK (kvs : List (Key×V)) | dT (kvs : List (List Key×V))
  | set (S : Int -> Bool) (n : Nat)
  | ins (C dx : Addr) (fs : List (Str×V))
  | own (x : Addr)
  | xd (fs : List (Str×V))
  | met (f x : Addr)
  | rng (lo hi : Int)
  | frz (o : Obj) (u : HO)
  | tbl (ps : Array Value)
  | ext (φ : Heap -> Prop)
abbrev Hp := Addr -> Option HO
def upd(H : Hp)(a : Addr)(o : HO): Hp := fun b => if b=a then some o else H b
theorem zaf{H : Hp}{a : Addr}{o : HO}: upd H a o a=some o := by unfold upd; rw [if_pos rfl]
theorem zG{H : Hp}{a b : Addr}{o : HO}(h : b≠a): upd H a o b=H b := by unfold upd; rw [if_neg h]
theorem zO{H : Hp}{a b : Addr}{o : HO}(h : H a=some o)(h' : H b=none): a≠b := by
  intro e; subst e; rw [h] at h'; cases h'
def TblOk(H : Hp)(ps qs : Array Value): Prop := qs = #[] \/ ∃ (l c : Value) (q : Str) (t : Tok) (k : Addr) (oc : Obj) (vs : Array Value) (t' : Tok), ps = #[l, c, .str q t] /\ qs = #[l, c, .ref k] /\ H k=some (.frz oc (.own 0)) /\ oc.data=.fields vs /\ vs[1]? = some (.str q t')
theorem TblOk.stay{H H' : Hp}{ps qs : Array Value}(x : TblOk H ps qs)(hf : ∀ b o u, H b=some (.frz o u) -> H' b=some (.frz o u)): TblOk H' ps qs := by
  rcases x with x | ⟨l, c, q, t, k, oc, vs, t', e1, e2, e3, r⟩
  · exact .inl x
  · exact .inr ⟨l, c, q, t, k, oc, vs, t', e1, e2, hf _ _ _ e3, r⟩
section
variable (P : Program) (w : World)
def ObjOk(H : Hp)(h : Heap)(a : Addr): HO -> Prop
  | .lst xs => xs.length<=sizeLine /\ ∃ (its : List Value) (n : Nat), Vals xs its /\ h.get? a=some { cls := .type "list", data := .seq its.toArray n }
  | .tup xs => (xs.length<=sizeLine /\ ∃ o : Obj, h.get? a=some o /\ o.dict=none) /\ ∃ its : List Value, Vals xs its /\ IsTup h a its.toArray
  | .dK kvs => kvs.length<=sizeLine /\ (a == sysModules)=false /\ ∃ vs, KV kvs vs /\ h.DictOf (zbu P w) a vs
  | .dT kvs => kvs.length<=sizeLine /\ (a == sysModules)=false /\ ∃ xs : List (List Key×Addr×Value),
      Paired (fun(p : List Key×V) (q : List Key×Addr×Value) => p.1=q.1 /\ H q.2.1=some (.tup (p.1.map kV)) /\ RelV p.2 q.2.2) kvs xs /\
      ∃ o es ep, h.get? a=some o /\ o.ExactDict /\ o.data=.dict es ep /\ es.toList=xs.map (entryOfKey (tupleKind (zbu P w))) /\ (xs.map (·.1)).Nodup
  | .set S n => h.SetOf (intKind P w) a S n
  | .ins C dx fs => H dx=some (.own a) /\ fs.length<=1000 /\ dx≠a /\ h.get? a=some (W.instObj C dx) /\
      ∃ mA, h.Ns1 dx mA /\ (∀ f, RelO (fs.lookup f) (mA f)) /\ PySem.Within mA (fs.map (·.1))
  | .own _ => ∃ o, h.get? a=some o
  | .xd fs => ∃ mA, h.Ns1 a mA /\ ∀ f, RelO (fs.lookup f) (mA f)
  | .rng lo hi => ∃ t u v, h.get? a=some { cls := .type "range", data := .fields #[.int lo t, .int hi u, .int 1 v] }
  | .frz o u => h.get? a=some o /\ ObjOk H h a u
  | .tbl ps => ∃ qs : Array Value, h.get? a=some { cls := .none, data := .fields qs } /\ TblOk H ps qs
  | .met f x => h.get? a=some (W.methodObj (.ref f) (.ref x))
  | .ext φ => φ h /\ (∃ o, h.get? a=some o) /\ ∀ h1 h2 : Heap, φ h1 -> (∀ o, h1.get? a=some o -> h2.get? a=some o) -> φ h2
def HOk(H : Hp)(h : Heap): Prop := ∀ a o, H a=some o -> ObjOk P w H h a o
end
section
variable {P : Program} {w : World} {H H' : Hp} {h h' : Heap} {a : Addr} {o : HO}
theorem ObjOk.lt(x : ObjOk P w H h a o): a<h.objs.size := by
  cases o with
  | lst xs => obtain⟨_, _, _, _, e⟩ := x; exact lt_size e
  | tup xs => obtain⟨_, _, _, p⟩ := x; exact p.lt
  | dK kvs => obtain⟨_, _, _, _, o, _, _, e, _⟩ := x; exact lt_size e
  | dT kvs => obtain⟨_, _, _, _, o, _, _, e, _⟩ := x; exact lt_size e
  | set S n => obtain⟨o, _, _, _, e, _⟩ := x; exact lt_size e
  | ins C dx fs => obtain⟨_, _, _, e, _⟩ := x; exact lt_size e
  | own y => obtain⟨_, e⟩ := x; exact lt_size e
  | xd fs => obtain⟨_, ⟨_, _, _, e, _⟩, _⟩ := x; exact lt_size e
  | rng lo hi => obtain⟨_, _, _, e⟩ := x; exact lt_size e
  | frz ob u => obtain⟨e, _⟩ := x; exact lt_size e
  | tbl ps => obtain⟨_, e, _⟩ := x; exact lt_size e
  | met f y => exact lt_size (show h.get? a=some _ from x)
  | ext φ => obtain⟨_, ⟨_, e⟩, _⟩ := x; exact lt_size e
theorem Paired.mapP{α β : Type}{F G : α -> β -> Prop}: ∀ {l₁ : List α} {l₂ : List β}, Paired F l₁ l₂ -> (∀ a b, F a b -> G a b) -> Paired G l₁ l₂
  | _, _, .nil, _ => .nil
  | _, _, .cons r t, f => .cons (f _ _ r) (Paired.mapP t f)
theorem ObjOk.stay(x : ObjOk P w H h a o)(k : ∀ b u, (b=a \/ H b=some (.own a)) -> h.get? b=some u -> h'.get? b=some u)
    (ho : ∀ b, H b=some (.own a) -> H' b=some (.own a)) (ht : ∀ b xs, H b=some (.tup xs) -> H' b=some (.tup xs))
    (hf : ∀ b o u, H b=some (.frz o u) -> H' b=some (.frz o u) := by first | exact fun _ _ _ q => q | (intro b o u q; rw [zG (zO q (by assumption))]; exact q)) : ObjOk P w H' h' a o := by
  induction o with
  | lst xs => obtain⟨z, its, n, r, e⟩ := x; exact⟨z, its, n, r, k _ _ (.inl rfl) e⟩
  | tup xs => obtain⟨⟨z, o2, e2, d2⟩, its, r, ob, e, c⟩ := x; exact⟨⟨z, o2, k _ _ (.inl rfl) e2, d2⟩, its, r, ob, k _ _ (.inl rfl) e, c⟩
  | dK kvs => obtain⟨z, y, vs, r, ob, es, ep, e, c⟩ := x; exact⟨z, y, vs, r, ob, es, ep, k _ _ (.inl rfl) e, c⟩
  | dT kvs =>
    obtain⟨z, y, xs, r, ob, es, ep, e, c⟩ := x;exact⟨z, y, xs, Paired.mapP r fun p q z => ⟨z.1, ht _ _ z.2.1, z.2.2⟩, ob, es, ep, k _ _ (.inl rfl) e, c⟩
  | set S n => obtain⟨ob, es, ep, t, e, c⟩ := x; exact⟨ob, es, ep, t, k _ _ (.inl rfl) e, c⟩
  | ins C dx fs =>
    obtain⟨d, z, ne, e, mA, ⟨od, es, ep, e2, c⟩, r⟩ := x;exact⟨ho _ d, z, ne, k _ _ (.inl rfl) e, mA, ⟨od, es, ep, k _ _ (.inr d) e2, c⟩, r⟩
  | own y => obtain⟨ob, e⟩ := x; exact⟨ob, k _ _ (.inl rfl) e⟩
  | xd fs => obtain⟨mA, ⟨od, es, ep, e, c⟩, r⟩ := x; exact⟨mA, ⟨od, es, ep, k _ _ (.inl rfl) e, c⟩, r⟩
  | rng lo hi => obtain⟨t, u, v, e⟩ := x; exact⟨t, u, v, k _ _ (.inl rfl) e⟩
  | frz ob u ih => obtain⟨e, q⟩ := x; exact⟨k _ _ (.inl rfl) e, ih q⟩
  | tbl ps =>
    obtain⟨qs, e, q⟩ := x;exact⟨qs, k a _ (.inl rfl) e, q.stay hf⟩
  | met f y =>
    have e : h.get? a=some (W.methodObj (.ref f) (.ref y)) := x;show h'.get? a=some (W.methodObj (.ref f) (.ref y));exact k a _ (.inl rfl) e
  | ext φ => obtain⟨p, ⟨o, e⟩, st⟩ := x; exact⟨st _ _ p fun o q => k _ _ (.inl rfl) q, ⟨o, k _ _ (.inl rfl) e⟩, st⟩
theorem HOk.lt(x : HOk P w H h)(e : H a=some o): a<h.objs.size := (x a o e).lt
theorem HOk.fresh(x : HOk P w H h)(e : h.objs.size<=a): H a=none := by
  cases q : H a with
  | none => rfl
  | some u => exact absurd (lt_of_lt_of_le (x.lt q) e) (lt_irrefl _)
theorem HOk.kept(x : HOk P w H h)(k : ∀ b u, h.get? b=some u -> h'.get? b=some u): HOk P w H h' := fun a o e =>
  (x a o e).stay (fun b u _ q => k b u q) (fun _ q => q) fun _ _ q => q
theorem HOk.laid(x : HOk P w H h)(k : ∀ b u, h.get? b=some u -> h'.get? b=some u)(hp : h.objs.size<=a)(new : ObjOk P w (upd H a o) h' a o): HOk P w (upd H a o) h' := fun b u e => by
  have hn := x.fresh hp;by_cases hb : b=a
  · subst hb; rw [zaf] at e; cases e; exact new
  · rw [zG hb] at e
    exact(x b u e).stay (fun c v _ q => k c v q) (fun c q => by rw [zG (zO q hn)]; exact q) fun c xs q => by rw [zG (zO q hn)]; exact q
end
def Rd(H : Hp)(a : Addr)(u : HO): Prop := H a=some u \/ ∃ o, H a=some (.frz o u)
theorem Rd.ok{P : Program}{w : World}{H : Hp}{h : Heap}{a : Addr}{u : HO}(r : Rd H a u)(x : HOk P w H h): ObjOk P w H h a u := by
  rcases r with r | ⟨o, r⟩
  · exact x a u r
  · obtain⟨_, q⟩ := x a _ r
    exact q
def Mut: Option HO -> Prop
  | some (.lst _) => True
  | some (.dK _) => True
  | some (.dT _) => True
  | some (.set _ _) => True
  | some (.ins _ _ _) => True
  | some (.ext _) => True
  | _ => False
section
variable {P : Program} {w : World} {H : Hp} {h h' : Heap} {x e : Addr} {o' : HO}
theorem HOk.write(ok : HOk P w H h)(mu : Mut (H x))(he : e=x \/ H e=some (.own x))(k : ∀ b u, b≠e -> h.get? b=some u -> h'.get? b=some u)(heo : ∃ u, h'.get? e=some u)
    (new : ObjOk P w (upd H x o') h' x o') : HOk P w (upd H x o') h' := fun b u q => by
  have nown : ∀ c y, H c=some (.own y) -> c≠x := fun c y r z => by subst z; rw [r] at mu; exact mu
  have ntup : ∀ c xs, H c=some (.tup xs) -> c≠x := fun c xs r z => by subst z; rw [r] at mu; exact mu
  have nfrz : ∀ c o u, H c=some (.frz o u) -> c≠x := fun c o u r z => by subst z; rw [r] at mu; exact mu
  by_cases hb : b=x
  · subst hb; rw [zaf] at q; cases q; exact new
  · rw [zG hb] at q
    by_cases hbe : b=e
    · have q' : H b=some (.own x) := by
        rcases he with z | z
        · exact absurd (hbe.trans z) hb
        · rw [hbe]; exact z
      rw [q] at q'; cases q';obtain⟨v, hv⟩ := heo;exact⟨v, by rw [hbe]; exact hv⟩
    · refine(ok b u q).stay (fun c v hc r => k c v ?_ r) (fun c r => by rw [zG (nown c b r)]; exact r) (fun c xs r => by rw [zG (ntup c xs r)]; exact r) fun c o u r => by rw [zG (nfrz c o u r)]; exact r
      rcases hc with rfl | hc
      · exact hbe
      · rintro rfl
        rcases he with z | z
        · exact nown c b hc z
        · rw [hc] at z; cases z; exact hb rfl
end
structure Un(fs ex : List Addr)(H H' : Hp)(h h' : Heap): Prop where
  keep : ∀ b o, h.get? b=some o -> H b=none -> b∉fs -> b∉ex -> h'.get? b=some o
  slot : ∀ b o, h.get? b=some o -> H b=none -> b∈fs -> b∉ex -> ∃ sl, h'.get? b=some { o with slots := sl }
  free : ∀ b o, h.get? b=some o -> H b=none -> b∉ex -> H' b=none
  there : ∀ b o, h.get? b=some o -> b∉ex -> ∃ o', h'.get? b=some o'
  tups : ∀ b xs, H b=some (.tup xs) -> H' b=some (.tup xs)
  frzs : ∀ b o u, H b=some (.frz o u) -> H' b=some (.frz o u)
  tbls : ∀ b ps, H b=some (.tbl ps) -> H' b=some (.tbl ps)
section
variable {fs fs' ex ex' : List Addr} {H H1 H2 : Hp} {h h1 h2 h' : Heap} {a x e : Addr} {o : HO}
theorem Un.any(u : Un fs ex H H1 h h1){b : Addr}{ob : Obj}(q : h.get? b=some ob)(n : H b=none)(hx : b∉ex): ∃ sl, h1.get? b=some { ob with slots := sl } := by
  by_cases hb : b∈fs
  · exact u.slot b ob q n hb hx
  · exact⟨ob.slots, u.keep b ob q n hb hx⟩
theorem Un.trans(a : Un fs ex H H1 h h1)(b : Un fs ex H1 H2 h1 h2): Un fs ex H H2 h h2 where
  keep := fun c ob q n hc hx => b.keep c ob (a.keep c ob q n hc hx) (a.free c ob q n hx) hc hx
  slot := fun c ob q n hc hx => by
    obtain⟨sl, e1⟩ := a.slot c ob q n hc hx;obtain⟨sl', e2⟩ := b.slot c _ e1 (a.free c ob q n hx) hc hx;exact⟨sl', e2⟩
  free := fun c ob q n hx => by
    obtain⟨o', e1⟩ := a.there c ob q hx;exact b.free c o' e1 (a.free c ob q n hx) hx
  there := fun c ob q hx => by
    obtain⟨o', e1⟩ := a.there c ob q hx;exact b.there c o' e1 hx
  tups := fun c xs q => b.tups c xs (a.tups c xs q)
  frzs := fun c ob xs q => b.frzs c ob xs (a.frzs c ob xs q)
  tbls := fun c ps q => b.tbls c _ (a.tbls c ps q)
theorem Un.kept(k : ∀ b u, h.get? b=some u -> h'.get? b=some u): Un fs ex H H h h' :=
  ⟨fun b ob q _ _ _ => k b ob q, fun b ob q _ _ _ => ⟨ob.slots, k b ob q⟩, fun _ _ _ n _ => n, fun b ob q _ => ⟨ob, k b ob q⟩, fun _ _ q => q, fun _ _ _ q => q, fun _ _ q => q⟩
theorem Un.refl: Un fs ex H H h h := Un.kept fun _ _ q => q
theorem Un.laid(k : ∀ b u, h.get? b=some u -> h'.get? b=some u)(hp : h.objs.size<=a)(hn : H a=none): Un fs ex H (upd H a o) h h' where
  keep := fun b u q _ _ _ => k b u q
  slot := fun b u q _ _ _ => ⟨u.slots, k b u q⟩
  free := fun b u q n _ => by rw [zG (ne_of_lt (lt_of_lt_of_le (lt_size q) hp))]; exact n
  there := fun b u q _ => ⟨u, k b u q⟩
  tups := fun b xs q => by rw [zG (zO q hn)]; exact q
  frzs := fun b u xs q => by rw [zG (zO q hn)]; exact q
  tbls := fun b ps q => by rw [zG (zO q hn)]; exact q
theorem Un.write(mu : Mut (H x))(he : e=x \/ H e=some (.own x))(k : ∀ b u, b≠e -> h.get? b=some u -> h'.get? b=some u)(heo : ∃ u, h'.get? e=some u): Un fs ex H (upd H x o) h h' := by
  have hx : ∀ b, H b=none -> b≠x := fun b n z => by subst z; rw [n] at mu; exact mu
  have hb : ∀ b, H b=none -> b≠e := fun b n z => by
    subst z;rcases he with r | r
    · exact hx b n r
    · rw [n] at r; cases r
  have hm : ∀ b u, H b=some u -> ¬ Mut (some u) -> b≠x := fun b u q nm z => by subst z; rw [q] at mu; exact nm mu
  refine⟨fun b u q n _ _ => k b u (hb b n) q, fun b u q n _ _ => ⟨u.slots, k b u (hb b n) q⟩, fun b u q n _ => by rw [zG (hx b n)]; exact n, fun b u q _ => ?_,
    fun b xs q => by rw [zG (hm b _ q fun z => z)]; exact q, fun b u xs q => by rw [zG (hm b _ q fun z => z)]; exact q, fun b ps q => by rw [zG (hm b _ q fun z => z)]; exact q⟩
  by_cases hbe : b=e
  · subst hbe; exact heo
  · exact⟨u, k b u hbe q⟩
theorem Un.mono(u : Un fs ex H H1 h h1)(hs : ∀ b∈fs, b∈fs')(hx : ∀ b∈ex, b∈ex'): Un fs' ex' H H1 h h1 :=
  ⟨fun b ob q n hb he => u.keep b ob q n (fun z => hb (hs b z)) fun z => he (hx b z), fun _ _ q n _ he => u.any q n fun z => he (hx _ z), fun b ob q n he => u.free b ob q n fun z => he (hx b z), fun b ob q he => u.there b ob q fun z => he (hx b z), u.tups, u.frzs, u.tbls⟩
end
def trk(h : Heap)(H : Hp): List Addr := (List.range h.objs.size).filter fun a => (H a).isSome
def zln(h : Heap)(H : Hp): Heap := W.hideAll h (trk h H)
theorem zk5(h : Heap)(H : Hp): (zln h H).objs.size=h.objs.size := W.hideAll_size _ _
theorem zl7{h : Heap}{H : Hp}{b : Addr}{o : Obj}(e : h.get? b=some o)(n : H b=none): (zln h H).get? b=some o :=
  W.hideAll_get _ e fun hm => by
    have q : (H b).isSome=true := (mem_filter.mp hm).2;rw [n] at q; simp at q
theorem znq{h : Heap}{H : Hp}{b : Addr}{o : Obj}(e : (zln h H).get? b=some o): h.get? b=some o /\ H b=none := by
  have e' : h.get? b=some o := W.of_hideAll (trk h H) e;refine⟨e', ?_⟩;cases q : H b with
  | none => rfl
  | some x =>
    have hm : b∈trk h H := mem_filter.mpr ⟨mem_range.mpr (lt_size e'), by simp [q]⟩;have z : (zln h H).get? b=none := W.hideAll_none (trk h H) hm;rw [z] at e; cases e
def znV(g h : Heap)(L : Addr): List (Addr×Obj) := (List.range h.objs.size).filterMap fun a => if a=L \/ (g.get? a).isSome=true then none else (h.get? a).map fun o => (a, o)
def rest(g h : Heap)(L d : Addr): List (Addr×Obj) := (znV g h L).filter fun p => decide (p.1≠d)
end
section
def tabsG: List ((Addr×Addr)×Array Value) := []
def BltAt(base : Heap)(mg : Str -> Option Value): Prop := ∃ bm ob, mg "__builtins__" = some (.ref bm) /\ bm≠builtinsNs /\ base.get? bm=some ob /\ ob.cls=.type "module" /\ ob.dict=some builtinsNs /\ ob.data=.plain
structure Frf(fs : List Addr)(H : Hp): Prop where
  free : ∀ b∈fs, H b=none
  tab : ∀ q∈tabsG, H q.1.2=some (.tbl q.2)
structure Mod(K : W.Frag)(mg : Str -> Option Value)(base : Heap): Prop where
  kin : K.In base
  glob : base.Ns mainGlobals mg
  blt : ∃ mb, base.Ns builtinsNs mb /\ ∀ x : Str, x ≠ "__name__" -> mb x=bootBuiltins x
  nolimit : base.NoLimit
  bm : BltAt base mg
  hd : ∀ q∈tabsG, W.CodeHd base q.1.1 q.1.2
structure Cx where
  prog : Program
  w : World
  K : W.Frag
  mg : Str -> Option Value
  base : Heap
  A : Around
  N : List Str
  s₀ : Shared
  H₀ : Hp
  env : Env
  outer : List Env
  stack : List Env
  ex : List Addr
  fn : Str -> Bool
  calm : Bool
  pn : List (Addr×Obj)
  xe : Value -> Shared -> Prop
def frs(l : List Env): List Addr := l.filterMap (·.frame)
abbrev Cx.fs (X : Cx) : List Addr := frs X.outer
def Vis(sc : Scope)(x : Str): Prop := sc.names.lookup x=some .local \/ sc.names.lookup x=some .cell \/ sc.names.lookup x=some .free
def Loc(sc : Scope)(x : Str): Prop := sc.names.lookup x=some .local \/ sc.names.lookup x=some .cell
def Look(env : Env)(h : Heap)(m : Str -> Option Value)(x : Str)(u : Value): Prop :=
  (env.kindOf x=some .local /\ m x=some u) \/ ((env.kindOf x=some .cell \/ env.kindOf x=some .free) /\ ∃ c, env.cells.lookup x=some c /\ h.IsCell c (some u))
structure Cx.Ok(X : Cx): Prop where
  mod : Mod X.K X.mg X.base
  kind : X.env.scope.kind=.function
  glob : X.env.globals=mainGlobals
  blt : X.env.builtins=builtinsNs
  above : X.s₀.heap.objs.size<=X.env.locals
  inj : ∀ x y c, X.env.cells.lookup x=some c -> X.env.cells.lookup y=some c -> x=y
  has : ∀ x, (X.env.kindOf x=some .cell \/ X.env.kindOf x=some .free) -> ∃ c, X.env.cells.lookup x=some c
  cab : ∀ x c, X.fn x=true -> X.env.cells.lookup x=some c -> X.s₀.heap.objs.size<=c
  hd : X.calm=true -> X.A.handled=none
  frames : X.A.frames=some X.stack
  stk : X.stack=X.outer \/ (X.stack=X.env :: X.outer /\ X.env.frame=some X.env.locals)
  exf : ∀ b∈X.ex, b≠X.env.locals /\ ∀ x c, X.env.cells.lookup x=some c -> c≠b
  bs : ∀ b o, X.base.get? b=some o -> X.s₀.heap.get? b=some o /\ X.H₀ b=none
  bsz : X.base.objs.size<=X.s₀.heap.objs.size
  noex : ∀ b o, X.base.get? b=some o -> b∉X.ex
  exfs : ∀ b∈X.ex, b∉X.fs
  funs : X.s₀.heap.FunFrames X.base X.outer
  frf : Frf X.fs X.H₀
structure Inv(X : Cx)(ze : List (Addr×Obj))(σ : List (Option V))(H : Hp)(s : Shared): Prop where
  ok : X.Ok
  os : s.os=X.s₀.os
  bare : AllBare s.gens
  base : Un X.fs X.ex X.H₀ H X.s₀.heap s.heap
  loc : ∃ m, s.heap.Ns X.env.locals m /\ ∀ (i : Nat) (x : Str) (v : V), X.N[i]? = some x -> σ[i]? = some (some v) -> Vis X.env.scope x -> ∃ u, RelV v u /\ Look X.env s.heap m x u
  cell : ∀ x c, X.env.cells.lookup x=some c -> ∃ v, s.heap.IsCell c v
  free : H X.env.locals=none
  freeC : ∀ x c, X.env.cells.lookup x=some c -> H c=none
  pin : ∀ p∈X.pn++ze, s.heap.get? p.1=some p.2 /\ H p.1=none /\ p.1≠X.env.locals /\ p.1∉X.fs /\ ∀ v, p.2.data≠.cell v
  hok : HOk X.prog X.w H s.heap
  len : σ.length=X.N.length
section
variable {X : Cx} {ze : List (Addr×Obj)} {σ : List (Option V)} {H H' : Hp} {s : Shared} {h' : Heap}
theorem Cx.Ok.nofr(ok : X.Ok){b : Addr}{o : Obj}(e : X.base.get? b=some o): b∉X.fs := fun hb => by
  have := (ok.funs.mem hb).1;rw [e] at this; cases this
theorem Inv.bs(I : Inv X ze σ H s): ∀ b o, X.base.get? b=some o -> s.heap.get? b=some o /\ H b=none := fun b o e =>
  ⟨I.base.keep b o (I.ok.bs b o e).1 (I.ok.bs b o e).2 (I.ok.nofr e) (I.ok.noex b o e), I.base.free b o (I.ok.bs b o e).1 (I.ok.bs b o e).2 (I.ok.noex b o e)⟩
theorem Inv.bk(I : Inv X ze σ H s): ∀ b o, X.base.get? b=some o -> s.heap.get? b=some o := fun b o e => (I.bs b o e).1
theorem Inv.mod(I : Inv X ze σ H s): Mod X.K X.mg X.base := I.ok.mod
theorem Inv.kIn(I : Inv X ze σ H s): X.K.In s.heap := I.ok.mod.kin.keeps I.bk
theorem Inv.lt(I : Inv X ze σ H s): X.env.locals<s.heap.objs.size := let ⟨_, hn, _⟩ := I.loc; hn.lt
theorem Inv.sz(I : Inv X ze σ H s): X.s₀.heap.objs.size<=s.heap.objs.size := le_trans I.ok.above (le_of_lt I.lt)
theorem Inv.nofs(I : Inv X ze σ H s){a : Addr}(h : s.heap.objs.size<=a): a∉X.fs := fun hb => by
  obtain⟨_, o, ho, _⟩ := I.ok.funs.mem hb;exact absurd (lt_of_lt_of_le (lt_size ho) (le_trans I.sz h)) (lt_irrefl _)
theorem Inv.cne(I : Inv X ze σ H s): ∀ x c, X.env.cells.lookup x=some c -> c≠X.env.locals := fun x c e z => by
  obtain⟨v, o, ho, hd⟩ := I.cell x c e;obtain⟨m, ⟨o', es, ep, ho', hd', _⟩, _⟩ := I.loc;rw [z, ho'] at ho; cases ho; rw [hd'] at hd; cases hd
theorem Inv.funs(I : Inv X ze σ H s): s.heap.FunFrames X.base X.outer := by
  have all : ∀ (l : List Env), (∀ b∈frs l, b∈X.fs) -> X.s₀.heap.FunFrames X.base l -> s.heap.FunFrames X.base l := by
    intro l;induction l with
    | nil => intro _ _; trivial
    | cons env r ih =>
      intro hs hl;obtain⟨hk, ⟨L, o, hf, hn, ho, hd⟩, hr⟩ := hl;have hL : L∈X.fs := hs L (by unfold frs; rw [List.filterMap_cons, hf]; exact mem_cons_self);obtain⟨sl, e⟩ := I.base.slot L o ho (I.ok.frf.free L hL) hL fun z => I.ok.exfs L z hL;exact⟨hk, ⟨L, _, hf, hn, e, hd⟩, ih (fun b hb => hs b (by unfold frs; rw [List.filterMap_cons, hf]; exact mem_cons_of_mem _ hb)) hr⟩
  exact all X.outer (fun _ hb => hb) I.ok.funs
theorem Inv.stack(I : Inv X ze σ H s): s.heap.FunFrames X.base X.stack := by
  rcases I.ok.stk with e | ⟨e, hf⟩
  · rw [e]; exact I.funs
  · rw [e]
    obtain⟨m, hn, _⟩ := I.loc;refine .cons (by rw [I.ok.kind]; decide) hf hn ?_ I.funs;exact Heap.get?_none_of_le (le_trans I.ok.bsz I.ok.above)
theorem Inv.stkSub(I : Inv X ze σ H s): ∀ b∈frs X.stack, b∈X.env.locals :: X.fs := fun b hb => by
  rcases I.ok.stk with e | ⟨e, hf⟩
  · rw [e] at hb; exact mem_cons_of_mem _ hb
  · rw [e] at hb
    unfold frs at hb;rw [List.filterMap_cons, hf] at hb;exact hb
theorem Inv.stkFree(I : Inv X ze σ H s): Frf (frs X.stack) H := ⟨fun b hb => by
  rcases mem_cons.mp (I.stkSub b hb) with e | hb
  · rw [e]; exact I.free
  · obtain⟨_, o, ho, _⟩ := I.ok.funs.mem hb
    exact I.base.free b o ho (I.ok.frf.free b hb) fun z => I.ok.exfs b z hb, fun q hq => I.base.tbls _ _ (I.ok.frf.tab q hq)⟩
theorem Inv.step{g' : Array GenState}{t' : Nat}{d' : Drawn}{ch : List Addr}(I : Inv X ze σ H s)
    (hch : ∀ b∈ch, (b∈X.ex \/ X.s₀.heap.objs.size<=b) /\ b≠X.env.locals /\ (∀ x c, X.env.cells.lookup x=some c -> c≠b) /\ ∀ p∈X.pn++ze, p.1≠b)
    (keep : ∀ b o, b≠X.env.locals -> b∉X.fs -> b∉ch -> s.heap.get? b=some o -> H b=none -> h'.get? b=some o)
    (slot : ∀ b o, b≠X.env.locals -> b∈X.fs -> b∉ch -> s.heap.get? b=some o -> H b=none -> ∃ sl, h'.get? b=some { o with slots := sl }) (free : ∀ b o, b∉ch -> s.heap.get? b=some o -> H b=none -> H' b=none)
    (there : ∀ b o, b∉ch -> s.heap.get? b=some o -> ∃ o', h'.get? b=some o')
    (tups : ∀ b xs, H b=some (.tup xs) -> H' b=some (.tup xs)) (frzs : ∀ b o u, H b=some (.frz o u) -> H' b=some (.frz o u)) (tbls : ∀ b ps, H b=some (.tbl ps) -> H' b=some (.tbl ps))
    (ns : ∀ m, s.heap.Ns X.env.locals m -> h'.Ns X.env.locals m) (hok : HOk X.prog X.w H' h') (hg : AllBare g') :
    Inv X ze σ H' { s with heap := h', gens := g', drawn := d', toks := t' } := by
  have neL : ∀ b o, X.s₀.heap.get? b=some o -> b≠X.env.locals := fun b o e => ne_of_lt (lt_of_lt_of_le (lt_size e) I.ok.above);have neC : ∀ b o, X.s₀.heap.get? b=some o -> b∉X.ex -> b∉ch := fun b o e hx hb => by
    rcases(hch b hb).1 with z | z
    · exact hx z
    · exact absurd (lt_of_lt_of_le (lt_size e) z) (lt_irrefl _)
  have cellK : ∀ x c, X.env.cells.lookup x=some c -> ∀ v, s.heap.IsCell c v -> h'.IsCell c v := fun x c e v ⟨o, ho, hd⟩ => by
    have nch : c∉ch := fun z => (hch c z).2.2.1 x c e rfl;by_cases hc : c∈X.fs
    · obtain⟨sl, q⟩ := slot c o (I.cne x c e) hc nch ho (I.freeC x c e)
      exact⟨_, q, hd⟩
    · exact⟨o, keep c o (I.cne x c e) hc nch ho (I.freeC x c e), hd⟩
  refine⟨I.ok, I.os, hg, ⟨fun b o e n hb hx => ?_, fun b o e n hb hx => ?_, fun b o e n hx => ?_, fun b o e hx => ?_, fun b xs e => tups b xs (I.base.tups b xs e), fun b o xs e => frzs b o xs (I.base.frzs b o xs e), fun b ps e => ?_⟩, ?_, fun x c e => ?_, ?_, fun x c e => ?_, fun p hp => ?_, hok, I.len⟩
  · exact keep b o (neL b o e) hb (neC b o e hx) (I.base.keep b o e n hb hx) (I.base.free b o e n hx)
  · obtain⟨sl, e1⟩ := I.base.slot b o e n hb hx
    obtain⟨sl', e2⟩ := slot b _ (neL b o e) hb (neC b o e hx) e1 (I.base.free b o e n hx);exact⟨sl', e2⟩
  · obtain⟨o', e1⟩ := I.base.there b o e hx
    exact free b o' (neC b o e hx) e1 (I.base.free b o e n hx)
  · obtain⟨o', e1⟩ := I.base.there b o e hx
    exact there b o' (neC b o e hx) e1
  · exact tbls b _ (I.base.tbls b ps e)
  · obtain⟨m, hn, hl⟩ := I.loc
    refine⟨m, ns m hn, fun i x v e1 e2 e3 => ?_⟩;obtain⟨u, r, l⟩ := hl i x v e1 e2 e3;refine⟨u, r, ?_⟩;rcases l with l | ⟨k, c, e, z⟩
    · exact .inl l
    · exact .inr ⟨k, c, e, cellK x c e _ z⟩
  · obtain⟨v, z⟩ := I.cell x c e
    exact⟨v, cellK x c e v z⟩
  · obtain⟨m, ⟨o, _, _, ho, _⟩, _⟩ := I.loc
    exact free _ o (fun z => (hch _ z).2.1 rfl) ho I.free
  · obtain⟨v, o, ho, hd⟩ := I.cell x c e
    exact free c o (fun z => (hch c z).2.2.1 x c e rfl) ho (I.freeC x c e)
  · obtain⟨e, n, ne, nf, d⟩ := I.pin p hp
    have nch : p.1∉ch := fun z => (hch p.1 z).2.2.2 p hp rfl;exact⟨keep p.1 p.2 ne nf nch e n, free p.1 p.2 nch e n, ne, nf, d⟩
theorem Inv.un{t' : Nat}(I : Inv X ze σ H s)(u : Un X.fs [] H H' s.heap h')(hok : HOk X.prog X.w H' h'): Inv X ze σ H' { s with heap := h', toks := t' } := by
  obtain⟨m, ⟨o, es, ep, ho, r⟩, _⟩ := id I.loc;obtain⟨sl, hL⟩ := u.any ho I.free (by simp);exact I.step (g' := s.gens) (d' := s.drawn) (ch := []) (fun _ z => nomatch z) (fun b o _ hb _ e n => u.keep b o e n hb (by simp)) (fun b o _ hb _ e n => u.slot b o e n hb (by simp)) (fun b o _ e n => u.free b o e n (by simp)) (fun b o _ e => u.there b o e (by simp)) u.tups u.frzs u.tbls (fun m' hm => by
    obtain⟨o', es', ep', ho', r'⟩ := hm;rw [ho] at ho'; cases ho';exact⟨_, es', ep', hL, r'⟩) hok I.bare
theorem Inv.call{g' : Array GenState}{t' : Nat}{d' : Drawn}{ch : List Addr}(I : Inv X ze σ H s)(u : Un (frs X.stack) ch H H' s.heap h')(hok : HOk X.prog X.w H' h')(hg : AllBare g')
    (hch : ∀ b∈ch, (b∈X.ex \/ X.s₀.heap.objs.size<=b) /\ b≠X.env.locals /\ (∀ x c, X.env.cells.lookup x=some c -> c≠b) /\ ∀ p∈X.pn++ze, p.1≠b) :
    Inv X ze σ H' { s with heap := h', gens := g', drawn := d', toks := t' } := by
  obtain⟨m, ⟨o, es, ep, ho, r⟩, _⟩ := id I.loc;obtain⟨sl, hL⟩ := u.any ho I.free fun z => (hch _ z).2.1 rfl;exact I.step (ch := ch) hch (fun b o hL hb hc e n => u.keep b o e n (fun z => (mem_cons.mp (I.stkSub b z)).elim hL hb) hc) (fun b o _ _ hc e n => u.any e n hc) (fun b o hc e n => u.free b o e n hc) (fun b o hc e => u.there b o e hc) u.tups u.frzs u.tbls (fun m' hm => by
    obtain⟨o', es', ep', ho', r'⟩ := hm;rw [ho] at ho'; cases ho';exact⟨_, es', ep', hL, r'⟩) hok hg
theorem Inv.turned{t' : Nat}{it : Addr}(I : Inv X ze σ H s)(k : ∀ b o, b≠it -> s.heap.get? b=some o -> h'.get? b=some o)(hn : H it=none)(hL : it≠X.env.locals)
    (h1 : it∈X.ex \/ X.s₀.heap.objs.size<=it) (h2 : ∀ x c, X.env.cells.lookup x=some c -> c≠it) (h3 : ∀ p∈X.pn++ze, p.1≠it) : Inv X ze σ H { s with heap := h', toks := t' } := by
  have nit : ∀ b u, H b=some u -> b≠it := fun b u e z => by rw [z, hn] at e; cases e
  refine I.step (g' := s.gens) (d' := s.drawn) (ch := [it]) (fun b hb => ?_) (fun b o _ _ hc e _ => k b o (fun z => hc (by simp [z])) e) (fun b o _ _ hc e _ => ⟨o.slots, k b o (fun z => hc (by simp [z])) e⟩) (fun _ _ _ _ n => n)
    (fun b o hc e => ⟨o, k b o (fun z => hc (by simp [z])) e⟩) (fun _ _ e => e) (fun _ _ _ e => e) (fun _ _ e => e) (fun m hm => ?_) (fun b u e => ?_) I.bare
  · have e : b=it := by simpa using hb
    subst e;exact⟨h1, hL, h2, h3⟩
  · obtain⟨o, es, ep, ho, r⟩ := hm
    exact⟨o, es, ep, k _ o (Ne.symm hL) ho, r⟩
  · refine(I.hok b u e).stay (fun c v hc q => k c v ?_ q) (fun _ q => q) fun _ _ q => q
    rcases hc with z | z
    · rw [z]; exact nit b u e
    · exact nit c _ z
theorem Inv.tok(I : Inv X ze σ H s)(t : Nat): Inv X ze σ H { s with toks := t } := I.un (h' := s.heap) (t' := t) Un.refl I.hok
theorem Inv.kept{t' : Nat}(I : Inv X ze σ H s)(k : ∀ b u, s.heap.get? b=some u -> h'.get? b=some u): Inv X ze σ H { s with heap := h', toks := t' } := I.un (Un.kept k) (I.hok.kept k)
theorem Inv.laid{a : Addr}{o : HO}{t' : Nat}(I : Inv X ze σ H s)(k : ∀ b u, s.heap.get? b=some u -> h'.get? b=some u)(hp : s.heap.objs.size<=a)(new : ObjOk X.prog X.w (upd H a o) h' a o):
    Inv X ze σ (upd H a o) { s with heap := h', toks := t' } := I.un (Un.laid k hp (I.hok.fresh hp)) (I.hok.laid k hp new)
theorem Inv.write{x e : Addr}{o : HO}{t' : Nat}(I : Inv X ze σ H s)(mu : Mut (H x))(he : e=x \/ H e=some (.own x))(k : ∀ b u, b≠e -> s.heap.get? b=some u -> h'.get? b=some u)(heo : ∃ u, h'.get? e=some u)
    (new : ObjOk X.prog X.w (upd H x o) h' x o) : Inv X ze σ (upd H x o) { s with heap := h', toks := t' } := I.un (Un.write mu he k heo) (I.hok.write mu he k heo new)
theorem Inv.pins_of{pins' : List (Addr×Obj)}(I : Inv X ze σ H s)(h : ∀ p∈pins', s.heap.get? p.1=some p.2 /\ H p.1=none /\ p.1≠X.env.locals /\ p.1∉X.fs /\ ∀ v, p.2.data≠.cell v): Inv X pins' σ H s :=
  ⟨I.ok, I.os, I.bare, I.base, I.loc, I.cell, I.free, I.freeC, fun p hp => (mem_append.mp hp).elim (fun z => I.pin p (mem_append_left _ z)) (h p), I.hok, I.len⟩
theorem zh3{N : List Str}(hN : N.Nodup){i j : Nat}{x : Str}(a : N[i]? = some x)(b : N[j]? = some x): i=j := by
  obtain⟨h1, e1⟩ := List.getElem?_eq_some_iff.mp a;obtain⟨h2, e2⟩ := List.getElem?_eq_some_iff.mp b;exact(List.getElem_inj hN).mp (e1.trans e2.symm)
theorem zjD{M : Model}{A : Around}{E : Value -> Shared -> Prop}{i : Nat}{x : Str}{v : V}{u : Value}{Q : Unit -> Shared -> Prop}(I : Inv X ze σ H s)(hN : X.N.Nodup)(hi : X.N[i]? = some x)(hx : Loc X.env.scope x)(r : RelV v u)
    (h : ∀ s', Inv X ze (σ.set i (some v)) H s' -> (∃ a, Heap.SameBut a s.heap s'.heap /\ (a=X.env.locals \/ X.env.cells.lookup x=some a)) -> Q () s') (hf : X.fn x=true \/ X.env.scope.names.lookup x=some .local := by first | exact .inl rfl | exact .inr rfl | assumption) : wpAny M A (storeName X.env x u) Q E s := by
  obtain⟨m, hn, hl⟩ := id I.loc;have hcls : (X.env.scope.kind == .class || (X.env.scope.kind == .module && X.env.locals != X.env.globals))=false := by rw [I.ok.kind]; rfl
  have hiσ : i<σ.length := by rw [I.len]; exact(List.getElem?_eq_some_iff.mp hi).1
  have cne := I.cne;have tracked : ∀ {a : Addr} {h' : Heap}, (∃ o, s.heap.get? a=some o /\ H a=none) -> Heap.SameBut a s.heap h' -> HOk X.prog X.w H h' := fun {a h'} ha hs b ob e => by
    obtain⟨_, _, hfree⟩ := ha;refine(I.hok b ob e).stay (fun c w' hc q => (hs.2 c ?_).trans q) (fun _ q => q) fun _ _ q => q;rintro rfl;rcases hc with rfl | hc
    · rw [hfree] at e; cases e
    · rw [hfree] at hc; cases hc
  rcases hx with hk | hk
  · refine wpAny_storeName_local hk hn (fun h' hn' hs => ?_) hcls
    obtain⟨oL, _, _, hoL, _⟩ := id hn;refine h _ ⟨I.ok, I.os, I.bare, ⟨fun b o e n hb hx => ?_, fun b o e n hb hx => ?_, I.base.free, fun b o e hx => ?_, I.base.tups, I.base.frzs, I.base.tbls⟩, ⟨_, hn', fun j y v' e1 e2 e3 => ?_⟩, fun y c e => ?_, I.free, I.freeC, fun p hp => ?_, tracked ⟨oL, hoL, I.free⟩ hs, by simpa using I.len⟩ ⟨_, hs, .inl rfl⟩
    · exact(hs.2 b (ne_of_lt (lt_of_lt_of_le (lt_size e) I.ok.above))).trans (I.base.keep b o e n hb hx)
    · obtain⟨sl, e1⟩ := I.base.slot b o e n hb hx
      exact⟨sl, (hs.2 b (ne_of_lt (lt_of_lt_of_le (lt_size e) I.ok.above))).trans e1⟩
    · obtain⟨o', e1⟩ := I.base.there b o e hx
      exact⟨o', (hs.2 b (ne_of_lt (lt_of_lt_of_le (lt_size e) I.ok.above))).trans e1⟩
    · by_cases hj : j=i
      · subst hj
        rw [hi] at e1; cases e1;rw [getElem?_set_self hiσ] at e2;cases e2;exact⟨u, r, .inl ⟨hk, by simp⟩⟩
      · rw [getElem?_set_ne (Ne.symm hj)] at e2
        obtain⟨u', r', q⟩ := hl j y v' e1 e2 e3;refine⟨u', r', ?_⟩;rcases q with ⟨k, e⟩ | ⟨k, c, e, z⟩
        · refine .inl ⟨k, ?_⟩
          have : y≠x := fun e => hj (zh3 hN e1 (e▸hi));simp [this, e]
        · exact .inr ⟨k, c, e, z.sameBut hs (cne y c e)⟩
    · obtain⟨w', z⟩ := I.cell y c e
      exact⟨w', z.sameBut hs (cne y c e)⟩
    · obtain⟨e, n, ne, nf, d⟩ := I.pin p hp
      exact⟨(hs.2 p.1 ne).trans e, n, ne, nf, d⟩
  · have hfn : X.fn x=true := by
      rcases hf with z | z
      · exact z
      · rw [z] at hk; cases hk
    obtain⟨c, hc⟩ := I.ok.has x (.inl hk);obtain⟨w', z⟩ := I.cell x c hc;refine wpAny_storeName_cell I.ok.kind hk hc z (fun h' hc' hs => ?_);obtain⟨oc, hoc, hocd⟩ := id z;refine h { s with heap := h' } ⟨I.ok, I.os, I.bare, ⟨fun b o e n hb hx => ?_, fun b o e n hb hx => ?_, I.base.free, fun b o e hx => ?_, I.base.tups, I.base.frzs, I.base.tbls⟩, ⟨m, hn.sameBut hs (Ne.symm (cne x c hc)), fun j y v' e1 e2 e3 => ?_⟩, fun y c' e => ?_, I.free, I.freeC, fun p hp => ?_, tracked ⟨oc, hoc, I.freeC x c hc⟩ hs, by simpa using I.len⟩ ⟨c, hs, .inr hc⟩
    · exact(hs.2 b (ne_of_lt (lt_of_lt_of_le (lt_size e) (I.ok.cab x c hfn hc)))).trans (I.base.keep b o e n hb hx)
    · obtain⟨sl, e1⟩ := I.base.slot b o e n hb hx
      exact⟨sl, (hs.2 b (ne_of_lt (lt_of_lt_of_le (lt_size e) (I.ok.cab x c hfn hc)))).trans e1⟩
    · obtain⟨o', e1⟩ := I.base.there b o e hx
      exact⟨o', (hs.2 b (ne_of_lt (lt_of_lt_of_le (lt_size e) (I.ok.cab x c hfn hc)))).trans e1⟩
    · by_cases hj : j=i
      · subst hj
        rw [hi] at e1; cases e1;rw [getElem?_set_self hiσ] at e2;cases e2;exact⟨u, r, .inr ⟨.inl hk, c, hc, hc'⟩⟩
      · rw [getElem?_set_ne (Ne.symm hj)] at e2
        obtain⟨u', r', q⟩ := hl j y v' e1 e2 e3;refine⟨u', r', ?_⟩;rcases q with q | ⟨k, c', e, z'⟩
        · exact .inl q
        · refine .inr ⟨k, c', e, z'.sameBut hs ?_⟩
          rintro rfl;exact hj (zh3 hN e1 (I.ok.inj _ _ _ e hc▸hi))
    · by_cases hcc : c'=c
      · subst hcc; exact⟨_, hc'⟩
      · obtain⟨w2, z2⟩ := I.cell y c' e
        exact⟨w2, z2.sameBut hs hcc⟩
    · obtain⟨e, n, ne, nf, d⟩ := I.pin p hp
      refine⟨(hs.2 p.1 ?_).trans e, n, ne, nf, d⟩;intro q;rw [q, hoc] at e;have q' : oc=p.2 := Option.some.inj e;exact d w' (by rw [<- q']; exact hocd)
theorem zfG{M : Model}{A : Around}{E : Value -> Shared -> Prop}{i : Nat}{x : Str}{v : V}{u : Value}{Q : Unit -> Shared -> Prop}(I : Inv X ze σ H s)(hN : X.N.Nodup)(hi : X.N[i]? = some x)(hx : Loc X.env.scope x)(r : RelV v u)
    (h : ∀ s', Inv X ze (σ.set i (some v)) H s' -> Q () s') (hf : X.fn x=true \/ X.env.scope.names.lookup x=some .local := by first | exact .inl rfl | exact .inr rfl | assumption) : wpAny M A (storeName X.env x u) Q E s :=
  zjD I hN hi hx r (fun s' I' _ => h s' I') hf
theorem Inv.call'{s' : Shared}{ch : List Addr}(I : Inv X ze σ H s)(ho : s'.os=s.os)(u : Un (frs X.stack) ch H H' s.heap s'.heap)(hok : HOk X.prog X.w H' s'.heap)(hg : AllBare s'.gens)
    (hch : ∀ b∈ch, (b∈X.ex \/ X.s₀.heap.objs.size<=b) /\ b≠X.env.locals /\ (∀ x c, X.env.cells.lookup x=some c -> c≠b) /\ ∀ p∈X.pn++ze, p.1≠b) : Inv X ze σ H' s' := by
  obtain⟨h', g', d', t', o'⟩ := s';have e : o'=s.os := ho;subst e;exact I.call (g' := g') (t' := t') (d' := d') u hok hg hch
end
abbrev XK := Value -> Option Addr -> Hp -> Prop
abbrev St := List (Option V)
abbrev VK := V -> Hp -> Prop
abbrev TE := St -> Hp -> VK -> Prop
abbrev TT := St -> Hp -> (Bool -> Hp -> Prop) -> Prop
abbrev TA := St -> Hp -> (List V -> Hp -> Prop) -> Prop
structure Ends where
  nx : St -> Hp -> Prop
  rt : VK
  bk : St -> Hp -> Prop := fun _ _ => False
  ct : St -> Hp -> Prop := fun _ _ => False
abbrev TS := Ends -> St -> Hp -> Prop
def EP(X : Cx)(ze : List (Addr×Obj))(σ : St)(Q : VK)(u : Value)(s' : Shared): Prop := ∃ v H', Inv X ze σ H' s' /\ RelV v u /\ Q v H'
def TP(X : Cx)(ze : List (Addr×Obj))(σ : St)(Q : Bool -> Hp -> Prop)(b : Bool)(s' : Shared): Prop := ∃ H', Inv X ze σ H' s' /\ Q b H'
def AP(X : Cx)(ze : List (Addr×Obj))(σ : St)(Q : List V -> Hp -> Prop)(us : List Value)(s' : Shared): Prop := ∃ vs H', Inv X ze σ H' s' /\ Vals vs us /\ Q vs H'
def SP(X : Cx)(ze : List (Addr×Obj))(D : Ends)(f : Flow)(s' : Shared): Prop :=
  match f with
  | .next => ∃ σ' H', Inv X ze σ' H' s' /\ D.nx σ' H'
  | .brk => ∃ σ' H', Inv X ze σ' H' s' /\ D.bk σ' H'
  | .cont => ∃ σ' H', Inv X ze σ' H' s' /\ D.ct σ' H'
  | .ret u => ∃ v σ' H', Inv X ze σ' H' s' /\ RelV v u /\ D.rt v H'
def PE(X : Cx)(e : Expr)(t : TE): Prop :=
  ∀ (ze : List (Addr×Obj)) (s : Shared) (σ : St) (H : Hp) (Q : VK), Inv X ze σ H s -> t σ H Q -> wpAny (model X.prog X.w) X.A (eval e X.env) (EP X ze σ Q) X.xe s
def PT(X : Cx)(e : Expr)(t : TT): Prop :=
  ∀ (ze : List (Addr×Obj)) (s : Shared) (σ : St) (H : Hp) (Q : Bool -> Hp -> Prop), Inv X ze σ H s -> t σ H Q -> wpAny (model X.prog X.w) X.A (isTrue e X.env (eval e X.env)) (TP X ze σ Q) X.xe s
def PW(X : Cx)(e : Expr)(t : TT): Prop :=
  ∀ (whole : Sem Value) (ze : List (Addr×Obj)) (s : Shared) (σ : St) (H : Hp) (Q : Bool -> Hp -> Prop), Inv X ze σ H s -> t σ H Q -> wpAny (model X.prog X.w) X.A (isTrue e X.env whole) (TP X ze σ Q) X.xe s
theorem PW.pt{X : Cx}{e : Expr}{t : TT}(h : PW X e t): PT X e t := h _
def PA(X : Cx)(es : List Expr)(t : TA): Prop :=
  ∀ (pos : Pos) (ze : List (Addr×Obj)) (s : Shared) (σ : St) (H : Hp) (Q : List V -> Hp -> Prop), Inv X ze σ H s -> t σ H Q -> wpAny (model X.prog X.w) X.A (spliced (backTo pos (starEach es X.env))) (AP X ze σ Q) X.xe s
def PS(X : Cx)(st : Stmt)(t : TS): Prop :=
  ∀ (ze : List (Addr×Obj)) (s : Shared) (σ : St) (H : Hp) (D : Ends), Inv X ze σ H s -> t D σ H -> wpAny (model X.prog X.w) X.A (exec st X.env) (SP X ze D) X.xe s
def PSs(X : Cx)(st : List Stmt)(t : TS): Prop :=
  ∀ (ze : List (Addr×Obj)) (s : Shared) (σ : St) (H : Hp) (D : Ends), Inv X ze σ H s -> t D σ H -> wpAny (model X.prog X.w) X.A (execs st X.env) (SP X ze D) X.xe s
theorem thn{α : Type}{t : Sem α}{Q Q' : α -> Shared -> Prop}{M : Model}{A : Around}{E : Value -> Shared -> Prop}{s : Shared}(h : wpAny M A t Q E s)(hQ : ∀ a s, Q a s -> Q' a s): wpAny M A t Q' E s := wpAny_mono h hQ fun _ _ x => x
end
section
section
variable {X : Cx}
def zlb(i : Nat): TE := fun σ H Q => ∃ v, σ[i]? = some (some v) /\ Q v H
def tC(v : V): TE := fun _ H Q => Q v H
theorem zoy{i : Nat}{x : Str}{pos : Pos}(hN : X.N[i]? = some x)(hv : Vis X.env.scope x)(hd : (x == ("__debug__" : Str))=false := by decide)(hcd : (x == ("__classdict__" : Str))=false := by decide): PE X (.Name x pos) (zlb i) := by
  intro ze s σ H Q I h;obtain⟨v, e, h⟩ := h;obtain⟨m, hn, hl⟩ := I.loc;obtain⟨u, r, l⟩ := hl i x v hN e hv;have fin : EP X ze σ Q u s := ⟨v, H, I, r, h⟩;rcases l with ⟨hk, hm⟩ | ⟨hk, c, hc, hcell⟩
  · exact wpAny_Name (wpAny_loadName_local I.ok.kind hk hn hm fin) hd
  · rcases hk with hk | hk
    · exact wpAny_Name (wpAny_loadName_cell I.ok.kind hk hc hcell fin) hd
    · exact wpAny_Name (wpAny_loadName_free I.ok.kind hk hc hcell fin hcd) hd
theorem zf{i j pos}: PE X (.Constant (.int i) j pos) (tC (.int i)) := fun _ _ _ H _ I h => wpAny_Constant_int ⟨.int i, H, I.tok _, ⟨_, rfl⟩, h⟩
theorem zb0{b j pos}: PE X (.Constant (.bool b) j pos) (tC (.bl b)) := fun _ _ _ H _ I h => Constant_bool ⟨.bl b, H, I, rfl, h⟩
theorem zjA{j pos}: PE X (.Constant .none j pos) (tC .non) := fun _ _ _ H _ I h => Constant_none ⟨.non, H, I, rfl, h⟩
theorem zcK{x j pos}: PE X (.Constant (.str x) j pos) (tC (.str x)) := fun _ _ _ H _ I h => Calls.Constant_str ⟨.str x, H, I.tok _, ⟨_, rfl⟩, h⟩
def Gl(X : Cx)(x : Str): Prop := X.env.kindOf x=some .globalImplicit
theorem zkm{E : Value -> Shared -> Prop}{ze : List (Addr×Obj)}{s : Shared}{σ : St}{H : Hp}{x : Str}{u : Value}{pos : Pos}{Q : Value -> Shared -> Prop}(I : Inv X ze σ H s)(hg : Gl X x)(hm : X.mg x=some u)(h : Q u s)
    (hd : (x == ("__debug__" : Str))=false := by decide) : wpAny (model X.prog X.w) X.A (eval (.Name x pos) X.env) Q E s :=
  Calls.Name_function_global I.ok.kind hg (Calls.loadGlobal_global (by rw [I.ok.glob]; exact I.mod.glob.keeps I.bk) hm h) hd
theorem zdJ{E : Value -> Shared -> Prop}{ze : List (Addr×Obj)}{s : Shared}{σ : St}{H : Hp}{x : Str}{u : Value}{pos : Pos}{Q : Value -> Shared -> Prop}(I : Inv X ze σ H s)(hg : Gl X x)(hm : X.mg x=none)(hv : bootBuiltins x=some u)(h : Q u s)
    (hn : x ≠ "__name__" := by decide) (hd : (x == ("__debug__" : Str))=false := by decide) : wpAny (model X.prog X.w) X.A (eval (.Name x pos) X.env) Q E s := by
  obtain⟨mb, h1, h2⟩ := I.mod.blt;exact Calls.Name_function_global I.ok.kind hg (Calls.loadGlobal_builtin (by rw [I.ok.glob]; exact I.mod.glob.keeps I.bk) hm (by rw [I.ok.blt]; exact h1.keeps I.bk) ((h2 x hn).trans hv) h) hd
theorem znS{x : Str}{v : V}{u : Value}{pos : Pos}(hg : Gl X x)(hm : X.mg x=some u)(r : RelV v u)(hd : (x == ("__debug__" : Str))=false := by decide): PE X (.Name x pos) (tC v) :=
  fun _ _ _ H _ I h => zkm I hg hm ⟨v, H, I, r, h⟩ hd
theorem za7{x : Str}{v : V}{u : Value}{pos : Pos}(hg : Gl X x)(hm : X.mg x=none)(hv : bootBuiltins x=some u)(r : RelV v u)(hn : x ≠ "__name__" := by decide)(hd : (x == ("__debug__" : Str))=false := by decide): PE X (.Name x pos) (tC v) :=
  fun _ _ _ H _ I h => zdJ I hg hm hv ⟨v, H, I, r, h⟩ hn hd
variable {a b : Expr} {ta tb : TE} {pos : Pos}
variable {tA tB' : TT} {rest : List Expr}
def zri(t u : TT): TT := fun σ H Q => t σ H fun c H1 => if c=true then u σ H1 Q else Q false H1
def tOr(t u : TT): TT := fun σ H Q => t σ H fun c H1 => if c=true then Q true H1 else u σ H1 Q
def zrw(t : TT): TT := fun σ H Q => t σ H fun c H1 => Q (!c) H1
theorem znU(ha : PT X a tA): PW X (.BoolOp .And [a] pos) tA := by
  intro wh ze s σ H Q I h;refine isTrue_and (thn (ha ze s σ H Q I h) fun c s1 e => ?_);cases c with
  | true => exact isTrue_and_nil e
  | false => exact e
theorem zbQ(ha : PT X a tA): PW X (.BoolOp .Or [a] pos) tA := by
  intro wh ze s σ H Q I h;refine isTrue_or (thn (ha ze s σ H Q I h) fun c s1 e => ?_);cases c with
  | false => exact isTrue_or_nil e
  | true => exact e
theorem zpP(ha : PT X a tA)(hb : PW X (.BoolOp .And (b :: rest) pos) tB'): PW X (.BoolOp .And (a :: b :: rest) pos) (zri tA tB') := by
  intro wh ze s σ H Q I h;refine isTrue_and (thn (ha ze s σ H _ I h) fun c s1 ⟨H1, I1, q1⟩ => ?_);cases c with
  | true => exact hb wh ze s1 σ H1 Q I1 q1
  | false => exact⟨H1, I1, q1⟩
theorem zcF(ha : PT X a tA)(hb : PW X (.BoolOp .Or (b :: rest) pos) tB'): PW X (.BoolOp .Or (a :: b :: rest) pos) (tOr tA tB') := by
  intro wh ze s σ H Q I h;refine isTrue_or (thn (ha ze s σ H _ I h) fun c s1 ⟨H1, I1, q1⟩ => ?_);cases c with
  | true => exact⟨H1, I1, q1⟩
  | false => exact hb wh ze s1 σ H1 Q I1 q1
theorem zbk(ha : PT X a tA): PT X (.UnaryOp .Not a pos) (zrw tA) := by
  intro ze s σ H Q I h;exact isTrue_not (ha ze s σ H (fun c H1 => Q (!c) H1) I h)
def zpv(ta tb : TE): TE := fun σ H Q => ta σ H fun x H1 => ∃ c, x=.bl c /\ if c=true then tb σ H1 Q else Q (.bl false) H1
def zpr(ta : TE): TE := fun σ H Q => ta σ H fun x H1 => ∃ c, x=.bl c /\ Q (.bl (!c)) H1
theorem zfB{op}{t : TE}(h : PE X a t): PE X (.BoolOp op [a] pos) t := fun ze s σ H Q I hw => BoolOp_one (h ze s σ H Q I hw)
theorem zdS(ha : PE X a ta)(hb : PE X (.BoolOp .And (b :: rest) pos) tb): PE X (.BoolOp .And (a :: b :: rest) pos) (zpv ta tb) := by
  intro ze s σ H Q I h;refine BoolOp_and (thn (ha ze s σ H _ I h) fun v s1 ⟨x, H1, I1, r1, q1⟩ => ?_);obtain⟨c, rfl, q1⟩ := q1;cases r1;refine wpAny_truthy_bool ?_;cases c with
  | true => exact hb ze s1 σ H1 Q I1 q1
  | false => exact⟨.bl false, H1, I1, rfl, q1⟩
theorem zjU(ha : PE X a ta): PE X (.UnaryOp .Not a pos) (zpr ta) := by
  intro ze s σ H Q I h;refine UnaryOp_ (thn (ha ze s σ H _ I h) fun v s1 ⟨x, H1, I1, r1, q1⟩ => ?_);obtain⟨c, rfl, q1⟩ := q1;cases r1;exact not_of (wpAny_truthy_bool ⟨.bl (!c), H1, I1, rfl, q1⟩)
def tIf(t : TT)(ta tb : TE): TE := fun σ H Q => t σ H fun c H1 => if c=true then ta σ H1 Q else tb σ H1 Q
theorem zfT{c : Expr}(hc : PT X c tA)(ha : PE X a ta)(hb : PE X b tb): PE X (.IfExp c a b pos) (tIf tA ta tb) := by
  intro ze s σ H Q I h;refine wpAny_IfExp (thn (hc ze s σ H _ I h) fun d s1 ⟨H1, I1, q1⟩ => ?_);cases d with
  | true => exact ha ze s1 σ H1 Q I1 q1
  | false => exact hb ze s1 σ H1 Q I1 q1
end
end
section
def SqL(K : W.Frag)(H : Hp)(a : Addr)(xs : List V): Prop :=
  Rd H a (.lst xs) \/
    ∃ (o : Obj) (its : Array Value) (n : Nat), K.lookup a=some o /\ o.cls=.type "list" /\ o.dict=none /\ o.data=.seq its n /\ its.size<=sizeLine /\ Vals xs its.toList
def SqT(K : W.Frag)(H : Hp)(a : Addr)(xs : List V): Prop :=
  Rd H a (.tup xs) \/
    ∃ (o : Obj) (its : Array Value) (n : Nat), K.lookup a=some o /\ o.cls=.type "tuple" /\ o.data=.seq its n /\ its.size<=sizeLine /\ Vals xs its.toList
def zrD: Value -> Option V
  | .none => some .non
  | .bool b => some (.bl b)
  | .int i _ => some (.int i)
  | .str x _ => some (.str x)
  | .bytes b _ => some (.byt b)
  | .float b _ => some (.flt b)
  | .ref a => some (.ref a)
  | .type n => some (.ty n)
  | _ => none
theorem RelV.abs{x : V}{u : Value}(r : RelV x u): zrD u=some x := by
  cases x with
  | non => cases r; rfl
  | bl _ => cases r; rfl
  | int _ => obtain⟨t, rfl⟩ := r; rfl
  | str _ => obtain⟨t, rfl⟩ := r; rfl
  | byt _ => obtain⟨t, rfl⟩ := r; rfl
  | flt _ => obtain⟨t, rfl⟩ := r; rfl
  | ref _ => cases r; rfl
  | ty _ => cases r; rfl
theorem RelV.inj{x y : V}{u : Value}(r : RelV x u)(q : RelV y u): x=y := Option.some.inj (r.abs.symm.trans q.abs)
theorem Vals.inj: ∀ {xs ys : List V} {us : List Value}, Vals xs us -> Vals ys us -> xs=ys
  | _, _, _, .nil, .nil => rfl
  | _, _, _, .cons r t, .cons r' t' => by rw [r.inj r', Vals.inj t t']
section
variable {X : Cx} {ze : List (Addr×Obj)} {σ : St} {H : Hp} {s : Shared} {a : Addr} {xs ys : List V}
theorem SqL.of{K : W.Frag}(h : H a=some (.lst xs)): SqL K H a xs := .inl (.inl h)
theorem SqT.of{K : W.Frag}(h : H a=some (.tup xs)): SqT K H a xs := .inl (.inl h)
theorem Inv.list(I : Inv X ze σ H s)(h : SqL X.K H a xs): ∃ its : List Value, Vals xs its /\ PlainL s.heap a its.toArray /\ xs.length<=sizeLine := by
  rcases h with h | ⟨o, its, n, hk, hc, hd, hs, hz, r⟩
  · obtain⟨z, its, n, r, e⟩ := h.ok I.hok
    exact⟨its, r, ⟨_, n, e, rfl, rfl, rfl⟩, z⟩
  · refine⟨its.toList, r, ⟨o, n, I.kIn a o hk, hc, hd, by simpa using hs⟩, ?_⟩
    have e := r.length;simp only [length_toList] at e;omega
theorem Inv.tuple(I : Inv X ze σ H s)(h : SqT X.K H a xs): ∃ its : List Value, Vals xs its /\ IsTup s.heap a its.toArray /\ xs.length<=sizeLine := by
  rcases h with h | ⟨o, its, n, hk, hc, hs, hz, r⟩
  · obtain⟨z, its, r, p⟩ := h.ok I.hok
    exact⟨its, r, p, z.1⟩
  · refine⟨its.toList, r, ⟨o, I.kIn a o hk, hc, n, by simpa using hs⟩, ?_⟩
    have e := r.length;simp only [length_toList] at e;omega
theorem Inv.list_inj(I : Inv X ze σ H s)(h : SqL X.K H a xs)(h' : SqL X.K H a ys): xs=ys := by
  obtain⟨its, r, ⟨o, n, e, _, _, d⟩, _⟩ := I.list h;obtain⟨its', r', ⟨o', n', e', _, _, d'⟩, _⟩ := I.list h';rw [e] at e'; cases e';rw [d] at d';injection d' with d1 _
  have : its=its' := by simpa using congrArg Array.toList d1
  subst this;exact r.inj r'
theorem Inv.tuple_inj(I : Inv X ze σ H s)(h : SqT X.K H a xs)(h' : SqT X.K H a ys): xs=ys := by
  obtain⟨its, r, ⟨o, e, _, n, d⟩, _⟩ := I.tuple h;obtain⟨its', r', ⟨o', e', _, n', d'⟩, _⟩ := I.tuple h';rw [e] at e'; cases e';rw [d] at d';injection d' with d1 _
  have : its=its' := by simpa using congrArg Array.toList d1
  subst this;exact r.inj r'
end
abbrev Cx.wish (X : Cx) (E : Value -> Shared -> Prop) : Cx := { X with xe := E }
abbrev Cx.nox (X : Cx) : Cx := X.wish fun _ _ => False
theorem Cx.Ok.wish{X : Cx}(ok : X.Ok)(E : Value -> Shared -> Prop): (X.wish E).Ok :=
  ⟨ok.mod, ok.kind, ok.glob, ok.blt, ok.above, ok.inj, ok.has, ok.cab, ok.hd, ok.frames, ok.stk, ok.exf, ok.bs, ok.bsz, ok.noex, ok.exfs, ok.funs, ok.frf⟩
theorem Cx.Ok.unwish{X : Cx}{E : Value -> Shared -> Prop}(ok : (X.wish E).Ok): X.Ok :=
  ⟨ok.mod, ok.kind, ok.glob, ok.blt, ok.above, ok.inj, ok.has, ok.cab, ok.hd, ok.frames, ok.stk, ok.exf, ok.bs, ok.bsz, ok.noex, ok.exfs, ok.funs, ok.frf⟩
section
variable {X : Cx} {ze : List (Addr×Obj)} {σ : St} {H : Hp} {s : Shared} {E : Value -> Shared -> Prop}
theorem Inv.wish(I : Inv X ze σ H s)(E : Value -> Shared -> Prop): Inv (X.wish E) ze σ H s := ⟨I.ok.wish E, I.os, I.bare, I.base, I.loc, I.cell, I.free, I.freeC, I.pin, I.hok, I.len⟩
theorem Inv.unwish(I : Inv (X.wish E) ze σ H s): Inv X ze σ H s := ⟨I.ok.unwish, I.os, I.bare, I.base, I.loc, I.cell, I.free, I.freeC, I.pin, I.hok, I.len⟩
theorem SP.unwish{D : Ends}{f : Flow}{s' : Shared}(h : SP (X.wish E) ze D f s'): SP X ze D f s' := by
  cases f with
  | next => obtain⟨σ', H', I, q⟩ := h; exact⟨σ', H', I.unwish, q⟩
  | brk => obtain⟨σ', H', I, q⟩ := h; exact⟨σ', H', I.unwish, q⟩
  | cont => obtain⟨σ', H', I, q⟩ := h; exact⟨σ', H', I.unwish, q⟩
  | ret u => obtain⟨v, σ', H', I, r, q⟩ := h; exact⟨v, σ', H', I.unwish, r, q⟩
theorem PSs.nox{st : List Stmt}{t : TS}(h : PSs X.nox st t): PSs X st t := fun ze s σ H D I hw =>
  wpAny_mono (h ze s σ H D (I.wish _) hw) (fun _ _ q => q.unwish) fun _ _ z => False.elim z
end
section
variable {X : Cx} {st : Stmt} {rest : List Stmt} {t u : TS} {e : Expr} {te : TE} {pos : Pos}
def znO: TS := fun D σ H => D.nx σ H
def ziv(t u : TS): TS := fun D σ H => t { D with nx := u D } σ H
theorem zN: PSs X [] znO := fun _ _ σ H _ I h => wpAny_execs_nil ⟨σ, H, I, h⟩
theorem zg(h1 : PS X st t)(h2 : PSs X rest u): PSs X (st :: rest) (ziv t u) := by
  intro ze s σ H D I h;refine wpAny_execs_cons (thn (h1 ze s σ H { D with nx := u D } I h) fun f s1 q => ?_);cases f with
  | next =>
    obtain⟨σ', H', I', q⟩ := q;exact h2 ze s1 σ' H' D I' q
  | ret v => exact q
  | brk => exact q
  | cont => exact q
theorem zm(h1 : PS X st t): PSs X [st] t := by
  intro ze s σ H D I h;refine wpAny_execs_cons (thn (h1 ze s σ H D I h) fun f s1 q => ?_);cases f with
  | next => exact wpAny_execs_nil q
  | ret v => exact q
  | brk => exact q
  | cont => exact q
theorem Inv.quiet{ze : List (Addr×Obj)}{σ : St}{H : Hp}{s : Shared}(I : Inv X ze σ H s): interactive X.env=false := by simp [interactive, I.ok.kind]
def zn8(te : TE): TS := fun D σ H => te σ H fun _ H1 => D.nx σ H1
theorem zb1(he : PE X e te)(hs : swapsWith e none pos.line X.env=pure false := by rfl): PS X (.Expr e pos) (zn8 te) := by
  intro ze s σ H D I h;exact wpAny_Expr_any (thn (he ze s σ H _ I h) fun v s1 ⟨x, H1, I1, r1, q1⟩ => ⟨σ, H1, I1, q1⟩) I.quiet hs
def zqY(te : TE): TS := fun D σ H => te σ H D.rt
theorem zy(he : PE X e te): PS X (.Return (some e) pos) (zqY te) := by
  intro ze s σ H D I h;exact wpAny_Return_some (thn (he ze s σ H _ I h) fun v s1 ⟨x, H1, I1, r1, q1⟩ => ⟨x, σ, H1, I1, r1, q1⟩)
def zqV(c : TT)(t u : TS): TS := fun D σ H => c σ H fun b H1 => if b=true then t D σ H1 else u D σ H1
theorem zaX{c : Expr}{a b : List Stmt}{tc : TT}(hc : PT X c tc)(ha : PSs X a t)(hb : PSs X b u): PS X (.If c a b pos) (zqV tc t u) := by
  intro ze s σ H D I h;refine wpAny_If (thn (hc ze s σ H _ I h) fun d s1 ⟨H1, I1, q1⟩ => ?_);cases d with
  | true => exact ha ze s1 σ H1 D I1 q1
  | false => exact hb ze s1 σ H1 D I1 q1
def zmU: TS := fun _ _ _ => False
theorem zlA: PS X st zmU := fun _ _ _ _ _ _ h => h.elim
end
abbrev TG := V -> St -> Hp -> (St -> Hp -> Prop) -> Prop
abbrev TGs := List V -> St -> Hp -> (St -> Hp -> Prop) -> Prop
def PG(X : Cx)(target : Expr)(t : TG): Prop :=
  ∀ (ze : List (Addr×Obj)) (s : Shared) (σ : St) (H : Hp) (v : V) (u : Value) (Q : St -> Hp -> Prop), Inv X ze σ H s -> RelV v u -> t v σ H Q ->
    wpAny (model X.prog X.w) X.A (assign target X.env u) (fun _ s' => ∃ σ' H', Inv X ze σ' H' s' /\ Q σ' H') X.xe s
def PGs(X : Cx)(ts : List Expr)(t : TGs): Prop :=
  ∀ (ze : List (Addr×Obj)) (s : Shared) (σ : St) (H : Hp) (vs : List V) (us : List Value) (Q : St -> Hp -> Prop), Inv X ze σ H s -> Vals vs us -> t vs σ H Q ->
    wpAny (model X.prog X.w) X.A (assignInOrder ((assignEach ts X.env).map (·.2)) us) (fun _ s' => ∃ σ' H', Inv X ze σ' H' s' /\ Q σ' H') X.xe s
abbrev TSet := V -> V -> V -> Hp -> (Hp -> Prop) -> Prop
def PSet(X : Cx)(t : TSet): Prop :=
  ∀ (ze : List (Addr×Obj)) (s : Shared) (σ : St) (H : Hp) (o i v : V) (ov iv u : Value) (Q : Hp -> Prop), Inv X ze σ H s -> RelV o ov -> RelV i iv -> RelV v u -> t o i v H Q ->
    wpAny (model X.prog X.w) X.A (setItem ov iv u) (fun _ s' => ∃ H', Inv X ze σ H' s' /\ Q H') X.xe s
section
variable {X : Cx} {pos : Pos}
def zho(i : Nat): TG := fun v σ H Q => Q (σ.set i (some v)) H
theorem zt{i : Nat}{x : Str}(hN : X.N.Nodup)(hi : X.N[i]? = some x)(hx : Loc X.env.scope x)(hf : X.fn x=true \/ X.env.scope.names.lookup x=some .local := by first | exact .inl rfl | exact .inr rfl | assumption): PG X (.Name x pos) (zho i) := by
  intro ze s σ H v u Q I r h;exact wpAny_assign_Name (zfG I hN hi hx r (fun s' I' => ⟨_, H, I', h⟩) hf)
def zrp: TGs := fun vs σ H Q => vs=[] /\ Q σ H
def zoN(t : TG)(u : TGs): TGs := fun vs σ H Q => ∃ v r, vs=v :: r /\ t v σ H fun σ' H' => u r σ' H' Q
theorem zbH: PGs X [] zrp := by
  intro ze s σ H vs us Q I r h;obtain⟨e, h⟩ := h;subst e;cases r;exact assignInOrder_nil ⟨σ, H, I, h⟩
theorem zT{e : Expr}{es : List Expr}{t : TG}{u : TGs}(h1 : PG X e t)(h2 : PGs X es u)
    (hs : (assignEach (e :: es) X.env).map (·.2)=assign e X.env :: (assignEach es X.env).map (·.2) := by rfl) : PGs X (e :: es) (zoN t u) := by
  intro ze s σ H vs us Q I r h;obtain⟨v, vr, e1, h⟩ := h;subst e1;cases r with
  | cons r rr =>
    rw [hs];refine assignInOrder_cons (thn (h1 ze s σ H _ _ _ I r h) fun _ s1 ⟨σ1, H1, I1, q1⟩ => ?_);exact h2 ze s1 σ1 H1 _ _ Q I1 rr q1
def zru(K : W.Frag)(n : Nat)(t : TGs): TG := fun v σ H Q => ∃ a xs, v=.ref a /\ SqT K H a xs /\ xs.length=n /\ t xs σ H Q
theorem zcI{es : List Expr}{k : Nat}{t : TGs}{n : Nat}(hc : X.calm=true)(h : PGs X es t)
    (hn : (assignEach es X.env).length=n := by rfl) (hst : (assignEach es X.env).findIdx? (·.1)=none := by rfl) : PG X (.Tuple es k pos) (zru X.K n t) := by
  intro ze s σ H v u Q I r hw;obtain⟨a, xs, e1, hq, hl, hw⟩ := hw;subst e1;cases r;obtain⟨its, rv, ht, hz⟩ := I.tuple hq;refine assign_Tuple_tuple (I.ok.hd hc) ht (by simp [hn, <- hl, rv.length]) hst fun h' hx => ?_;have I1 : Inv X ze σ H { s with heap := h' } := I.kept (t' := s.toks) fun b o e => hx b o (ne_of_lt (lt_size e)) e;exact h ze _ σ H xs _ Q I1 (by simpa using rv) hw
def zrc(to ti : TE)(t : TSet): TG := fun v σ H Q => to σ H fun o H1 => ti σ H1 fun i H2 => t o i v H2 fun H3 => Q σ H3
theorem zmI{o i : Expr}{to ti : TE}{t : TSet}(ho : PE X o to)(hi : PE X i ti)(hs : PSet X t)
    (ha : ∀ v, assign (.Subscript o i pos) X.env v=(do
      let ov <- holding [v] (eval o X.env)
      let iv <- holding [v, ov] (eval i X.env)
      standAt pos
      holding [v, ov, iv] (setItem ov iv v)
      release [v, ov, iv] []) := by intro _; rfl) : PG X (.Subscript o i pos) (zrc to ti t) := by
  intro ze s σ H v u Q I r h;rw [ha];refine wpAny_bind (wpAny_holding (thn (ho ze s σ H _ I h) fun ov s1 ⟨x, H1, I1, r1, q1⟩ => ?_));refine wpAny_bind (wpAny_holding (thn (hi ze s1 σ H1 _ I1 q1) fun iv s2 ⟨y, H2, I2, r2, q2⟩ => ?_));refine wpAny_bind (wpAny_standAt (wpAny_bind (wpAny_holding (thn (hs ze s2 σ H2 x y v ov iv u _ I2 r1 r2 r q2) fun _ s3 ⟨H3, I3, q3⟩ => ?_))));exact wpAny_release ⟨σ, H3, I3, q3⟩
def zom(te : TE)(g : TG): TS := fun D σ H => te σ H fun x H1 => g x σ H1 D.nx
theorem zk1{tg e : Expr}{te : TE}{g : TG}(he : PE X e te)(hg : PG X tg g)(hs : swapsWithSole [tg] e pos.line X.env=pure false := by rfl)(hw : swappedStores [tg] e X.env=pure none := by rfl)
    (h1 : (assignEach [tg] X.env).map (·.2)=[assign tg X.env] := by rfl) : PS X (.Assign [tg] e pos) (zom te g) := by
  intro ze s σ H D I h;refine wpAny_Assign_stores (thn (he ze s σ H _ I h) fun v s1 ⟨x, H1, I1, r1, q1⟩ => ?_) hs hw;rw [h1];exact thn (hg ze s1 σ H1 x v _ I1 r1 q1) fun _ s2 q => q
theorem zz{i : Nat}{x : Str}{e : Expr}{te : TE}{pos' : Pos}(hN : X.N.Nodup)(hi : X.N[i]? = some x)(hx : Loc X.env.scope x)(he : PE X e te)(hs : swapsWith e (some (.Name x pos')) pos.line X.env=pure false := by rfl)(hf : X.fn x=true \/ X.env.scope.names.lookup x=some .local := by first | exact .inl rfl | exact .inr rfl | assumption):
    PS X (.Assign [.Name x pos'] e pos) (zom te (zho i)) := by
  intro ze s σ H D I h;refine wpAny_Assign_Name (thn (he ze s σ H _ I h) fun v s1 ⟨y, H1, I1, r1, q1⟩ => ?_) hs;exact zfG I1 hN hi hx r1 (fun s2 I2 => ⟨_, H1, I2, q1⟩) hf
end
structure It where
  go : Nat -> Hp -> Prop
  yld : Nat -> Hp -> V -> Hp -> Prop
  stop : Nat -> Hp -> Prop
def FpOk(X : Cx)(ze : List (Addr×Obj))(H : Hp)(b : Addr): Prop :=
  H b=none /\ b≠X.env.locals /\ b∉X.fs /\ (b∈X.ex \/ X.s₀.heap.objs.size<=b) /\ (∀ x c, X.env.cells.lookup x=some c -> c≠b) /\ ∀ p∈X.pn++ze, p.1≠b
theorem Inv.fpOk{X : Cx}{ze : List (Addr×Obj)}{σ : St}{H H' : Hp}{s : Shared}{b : Addr}(I : Inv X ze σ H s)(hb : s.heap.objs.size<=b)(hn : H' b=none): FpOk X ze H' b := by
  refine⟨hn, ne_of_gt (lt_of_lt_of_le I.lt hb), I.nofs hb, .inr (le_trans I.sz hb), fun x c e z => ?_, fun p hp z => ?_⟩
  · obtain⟨v, q⟩ := I.cell x c e
    exact absurd (lt_of_lt_of_le q.lt (by rw [z]; exact hb)) (lt_irrefl _)
  · exact absurd (lt_of_lt_of_le (lt_size (I.pin p hp).1) (by rw [z]; exact hb)) (lt_irrefl _)
structure Turn(P : Program)(w : World)(K : W.Frag)(tg : Expr)(J : It)(fp : List Addr)(it : Addr)(tn : Nat -> Heap -> Prop): Prop where
  mem : it∈fp
  obj : ∀ i h, tn i h -> ∀ b∈fp, ∃ o, h.get? b=some o /\ ∀ v, o.data≠.cell v
  keep : ∀ i h h', tn i h -> (∀ b∈fp, ∀ o, h.get? b=some o -> h'.get? b=some o) -> tn i h'
  item : ∀ (X : Cx), X.prog=P -> X.w=w -> X.K=K -> X.calm=true -> ∀ (i : Nat) (ze : List (Addr×Obj)) (s : Shared) (σ : St) (H : Hp) (E : Value -> Shared -> Prop), Inv X ze σ H s -> (∀ b∈fp, FpOk X ze H b) -> tn i s.heap -> J.go i H ->
    wpAny (model P w) X.A (pyNext (.ref it)) (fun r s1 => ∃ u, r=some u /\
      wpAny (model P w) X.A (letOwnedTupleGo tg (.ref it) u) (fun _ s2 => ∃ x H', Inv X ze σ H' s2 /\ RelV x u /\ J.yld i H x H' /\ tn (i+1) s2.heap /\ ∀ b∈fp, H' b=none) E s1) E s
  done : ∀ (X : Cx), X.prog=P -> X.w=w -> X.K=K -> X.calm=true -> ∀ (i : Nat) (ze : List (Addr×Obj)) (s : Shared) (σ : St) (H : Hp) (E : Value -> Shared -> Prop), Inv X ze σ H s -> (∀ b∈fp, FpOk X ze H b) -> tn i s.heap -> J.stop i H ->
    wpAny (model P w) X.A (pyNext (.ref it)) (fun r s1 => r=none /\ Inv X ze σ H s1) E s
  self : ∀ (A : Around) (i : Nat) (s : Shared) (Q : Value -> Shared -> Prop) (E : Value -> Shared -> Prop), tn i s.heap -> Q (.ref it) s -> wpAny (model P w) A (pyIter (.ref it)) Q E s
abbrev TI := St -> Hp -> (It -> Hp -> Prop) -> Prop
def PIE(X : Cx)(ze : List (Addr×Obj))(σ : St)(tg : Expr)(R : It -> Hp -> Prop)(itv : Value)(s2 : Shared): Prop :=
  ∃ (it : Addr) (fp : List Addr) (tn : Nat -> Heap -> Prop) (J : It) (H' : Hp), itv=.ref it /\ Inv X ze σ H' s2 /\ Turn X.prog X.w X.K tg J fp it tn /\ tn 0 s2.heap /\ (∀ b∈fp, FpOk X ze H' b) /\ R J H'
def PI(X : Cx)(tg iter : Expr)(wi : TI): Prop :=
  ∀ (ze : List (Addr×Obj)) (s : Shared) (σ : St) (H : Hp) (R : It -> Hp -> Prop), Inv X ze σ H s -> wi σ H R ->
    wpAny (model X.prog X.w) X.A (eval iter X.env) (fun v s1 => wpAny (model X.prog X.w) X.A (pyIter v) (PIE X ze σ tg R) X.xe s1) X.xe s
theorem zlY{M : Model}{A : Around}{E : Value -> Shared -> Prop}{s : Shared}{tg : Expr}{it : Addr}{u : Value}{o : Obj}{n : String}{vs : Array Value}{Q : Unit -> Shared -> Prop}(ho : s.heap.get? it=some o)(hc : o.cls=.type n)(hd : o.data=.fields vs)
    (hn : ["enumerate", "zip", "dict_itemiterator", "dict_reverseitemiterator", "odict_iterator", "itertools.zip_longest", "itertools.pairwise"].contains n=false) (hQ : Q () s) : wpAny M A (letOwnedTupleGo tg (.ref it) u) Q E s := by
  unfold letOwnedTupleGo;cases tg <;> first
    | exact wpAny_pure hQ
    | (cases u <;> first
        | exact wpAny_pure hQ
        | (refine wpAny_bind (wpAny_load ho ?_)
           rw [hc, hd];show wpAny M A (if (["enumerate", "zip", "dict_itemiterator", "dict_reverseitemiterator", "odict_iterator", "itertools.zip_longest", "itertools.pairwise"].contains n && vs[0]? == some (rawInt _))=true then _ else _) Q E s;rw [if_neg (by intro h; rw [hn, Bool.false_and] at h; cases h)];exact wpAny_pure hQ))
def Itl(K : W.Frag)(a : Addr): It :=
  ⟨fun i H => ∃ xs x, SqL K H a xs /\ xs[i]? = some x, fun i H x H' => H'=H /\ ∀ xs, SqL K H a xs -> xs[i]? = some x, fun i H => ∃ xs, SqL K H a xs /\ xs.length<=i⟩
def Itt(K : W.Frag)(a : Addr): It :=
  ⟨fun i H => ∃ xs x, SqT K H a xs /\ xs[i]? = some x, fun i H x H' => H'=H /\ ∀ xs, SqT K H a xs -> xs[i]? = some x, fun i H => ∃ xs, SqT K H a xs /\ xs.length<=i⟩
def Itr(lo : Int)(n : Nat): It := ⟨fun i _ => i<n, fun i H x H' => H'=H /\ x=.int (lo+i), fun i _ => n<=i⟩
theorem zgG{P : Program}{w : World}{K : W.Frag}{tg : Expr}(a it : Addr): Turn P w K tg (Itl K a) [it] it (fun i h => h.IsListIter it a i) where
  mem := by simp
  obj := fun i h st b hb => by
    have e : b=it := by simpa using hb
    subst e;obtain⟨o, e, c, d⟩ := st;exact⟨o, e, fun v z => by rw [d] at z; cases z⟩
  keep := fun i h h' st k => st.at fun o e => k it (by simp) o e
  item := by
    intro X hP hw hK hc i ze s σ H E I hf st hg;subst hP hw hK;obtain⟨xs, x, hq, hx⟩ := hg;obtain⟨its, rv, p, hz⟩ := I.list hq;obtain⟨u, hu, ru⟩ := rv.get hx;obtain⟨f0, f1, f2, f3, f4, f5⟩ := hf it (by simp);refine wpAny_pyNext_list_item st p.isList (x := u) (by simpa using hu) fun h' st' sb => ?_;have I1 : Inv X ze σ H { s with heap := h' } := I.turned (t' := s.toks) (fun b o hb e => (sb.2 b hb).trans e) f0 f1 f3 f4 f5;obtain⟨o, e, c, d⟩ := id st';exact⟨u, rfl, zlY (s := { s with heap := h' }) e c d dz ⟨x, H, I1, ru, ⟨rfl, fun ys hy => by rw [I.list_inj hy hq]; exact hx⟩, st', fun b hb => (hf b hb).1⟩⟩
  done := by
    intro X hP hw hK hc i ze s σ H E I hf st hg;subst hP hw hK;obtain⟨xs, hq, hx⟩ := hg;obtain⟨its, rv, p, hz⟩ := I.list hq;obtain⟨f0, f1, f2, f3, f4, f5⟩ := hf it (by simp);have hl := rv.length;exact wpAny_pyNext_list_end (I.ok.hd hc) st p.isList (by simp; omega) fun h' eb => ⟨rfl, I.turned (t' := s.toks) (fun b o hb e => eb b o hb e) f0 f1 f3 f4 f5⟩
  self := fun _ _ _ _ _ st h => wpAny_pyIter_listiter st h
theorem ziO{P : Program}{w : World}{K : W.Frag}{tg : Expr}(a it : Addr): Turn P w K tg (Itt K a) [it] it (fun i h => h.IsTupleIter it a i) where
  mem := by simp
  obj := fun i h st b hb => by
    have e : b=it := by simpa using hb
    subst e;obtain⟨o, e, c, d⟩ := st;exact⟨o, e, fun v z => by rw [d] at z; cases z⟩
  keep := fun i h h' st k => st.at fun o e => k it (by simp) o e
  item := by
    intro X hP hw hK hc i ze s σ H E I hf st hg;subst hP hw hK;obtain⟨xs, x, hq, hx⟩ := hg;obtain⟨its, rv, p, hz⟩ := I.tuple hq;obtain⟨u, hu, ru⟩ := rv.get hx;obtain⟨f0, f1, f2, f3, f4, f5⟩ := hf it (by simp);refine wpAny_pyNext_tuple_item st (show s.heap.IsTuple a its.toArray from p) (x := u) (by simpa using hu) fun h' st' sb => ?_;have I1 : Inv X ze σ H { s with heap := h' } := I.turned (t' := s.toks) (fun b o hb e => (sb.2 b hb).trans e) f0 f1 f3 f4 f5;obtain⟨o, e, c, d⟩ := id st';exact⟨u, rfl, zlY (s := { s with heap := h' }) e c d dz ⟨x, H, I1, ru, ⟨rfl, fun ys hy => by rw [I.tuple_inj hy hq]; exact hx⟩, st', fun b hb => (hf b hb).1⟩⟩
  done := by
    intro X hP hw hK hc i ze s σ H E I hf st hg;subst hP hw hK;obtain⟨xs, hq, hx⟩ := hg;obtain⟨its, rv, p, hz⟩ := I.tuple hq;obtain⟨f0, f1, f2, f3, f4, f5⟩ := hf it (by simp);have hl := rv.length;exact wpAny_pyNext_tuple_end (I.ok.hd hc) st (show s.heap.IsTuple a its.toArray from p) (by simp; omega) fun h' eb => ⟨rfl, I.turned (t' := s.toks) (fun b o hb e => eb b o hb e) f0 f1 f3 f4 f5⟩
  self := fun _ _ _ _ _ st h => wpAny_pyIter_tupleiter st h
theorem ziQ{P : Program}{w : World}{K : W.Frag}{tg : Expr}(it : Addr)(lo : Int)(n : Nat): Turn P w K tg (Itr lo n) [it] it (fun i h => IsRangeIter h it (lo+(i : Nat)*1) ((n : Int) - (i : Nat)) 1) where
  mem := by simp
  obj := fun i h st b hb => by
    have e : b=it := by simpa using hb
    subst e;exact⟨_, st, fun v z => by
      have z' : Data.fields _=Data.cell v := z;cases z'⟩
  keep := fun i h h' st k => k it (by simp) _ st
  item := by
    intro X hP hw hK hc i ze s σ H E I hf st hg;subst hP hw hK;obtain⟨f0, f1, f2, f3, f4, f5⟩ := hf it (by simp);have W := Walks.range (prog := X.prog) (w := X.w) (I.ok.hd hc) it lo 1 n;refine W.item i s _ _ hg st fun v h' tk hv st' kk => ?_;obtain⟨t, rfl⟩ := hv;have I1 : Inv X ze σ H { s with heap := h', toks := tk } := I.turned (fun b o hb e => kk b o (by simpa using hb) e) f0 f1 f3 f4 f5;refine⟨_, rfl, zlY (s := { s with heap := h', toks := tk }) (n := "range_iterator") st' rfl rfl dz ⟨.int (lo+i), H, I1, ⟨t, ?_⟩, ⟨rfl, rfl⟩, st', fun b hb => (hf b hb).1⟩⟩;rw [Int.mul_one]
  done := by
    intro X hP hw hK hc i ze s σ H E I hf st hg;subst hP hw hK;obtain⟨f0, f1, f2, f3, f4, f5⟩ := hf it (by simp);exact wpAny_pyNext_range_end (I.ok.hd hc) st (by have : n<=i := hg; omega) fun h' eb => ⟨rfl, I.turned (t' := s.toks) (fun b o hb e => eb b o hb e) f0 f1 f3 f4 f5⟩
  self := fun _ _ _ _ _ st h => wpAny_pyIter_rangeiter st h
end
section
section
variable {X : Cx} {tg : Expr}
def znj(K : W.Frag)(tl : TE): TI := fun σ H R => tl σ H fun x H1 => ∃ a, x=.ref a /\ (∃ xs, SqL K H1 a xs) /\ R (Itl K a) H1
theorem znC{l : Expr}{tl : TE}(hl : PE X l tl): PI X tg l (znj X.K tl) := by
  intro ze s σ H R I h;refine thn (hl ze s σ H _ I h) fun v s1 ⟨x, H1, I1, r1, q1⟩ => ?_;obtain⟨a, e, ⟨xs, hq⟩, q⟩ := q1;subst e;cases r1;obtain⟨its, rv, p, hz⟩ := I1.list hq;refine wpAny_pyIter_list p.isList ?_;refine⟨s1.heap.objs.size, [s1.heap.objs.size], _, _, H1, rfl, I1.kept (t' := s1.toks) fun b o e => get?_push_of_some _ e, zgG a _, ⟨_, get?_push_size _ rfl, rfl, rfl⟩, fun b hb => ?_, q⟩;have e : b=s1.heap.objs.size := by simpa using hb
  subst e;exact I1.fpOk (le_refl _) (I1.hok.fresh (le_refl _))
def zor(wi : TI)(g : TG)(tb : TS): TS := fun D σ H => wi σ H fun J H1 => ∃ W : Nat -> Nat -> St -> Hp -> Prop, (∃ m, W 0 m σ H1) /\ ∀ i m σ H, W i m σ H ->
  (J.stop i H /\ D.nx σ H) \/ (J.go i H /\ ∃ N : St -> Hp -> Prop, (∀ σ' H', N σ' H' -> ∃ m', m'<m /\ W (i+1) m' σ' H') /\ ∀ x H', J.yld i H x H' -> g x σ H' fun σ2 H2 => tb { D with nx := N, ct := N, bk := D.nx } σ2 H2)
def zgl(fp : List Addr)(h : Heap): List (Addr×Obj) := fp.filterMap fun b => (h.get? b).map fun o => (b, o)
theorem zcA{fp : List Addr}{h : Heap}{b : Addr}{o : Obj}(hb : b∈fp)(e : h.get? b=some o): (b, o)∈zgl fp h := List.mem_filterMap.mpr ⟨b, hb, by rw [e]; rfl⟩
theorem zlf{fp : List Addr}{h : Heap}{p : Addr×Obj}(hp : p∈zgl fp h): p.1∈fp /\ h.get? p.1=some p.2 := by
  obtain⟨b, hb, e⟩ := List.mem_filterMap.mp hp;cases q : h.get? b with
  | none => rw [q] at e; cases e
  | some o =>
    rw [q] at e;have e' : (b, o)=p := Option.some.inj e;subst e';exact⟨hb, q⟩
theorem Inv.pinned{ze : List (Addr×Obj)}{σ : St}{H : Hp}{s : Shared}{fp : List Addr}(I : Inv X ze σ H s)(hf : ∀ b∈fp, FpOk X ze H b)(ho : ∀ b∈fp, ∃ o, s.heap.get? b=some o /\ ∀ v, o.data≠.cell v): Inv X (ze++zgl fp s.heap) σ H s :=
  I.pins_of fun p hp => (mem_append.mp hp).elim (fun z => I.pin p (mem_append_right _ z)) fun z => by
    obtain⟨hb, e⟩ := zlf z;obtain⟨f0, f1, f2, _⟩ := hf p.1 hb;obtain⟨o, e', d⟩ := ho p.1 hb;rw [e] at e'; cases e';exact⟨e, f0, f1, f2, d⟩
theorem Inv.unpinned{ze pl : List (Addr×Obj)}{σ : St}{H : Hp}{s : Shared}(I : Inv X (ze++pl) σ H s): Inv X ze σ H s := I.pins_of fun p hp => I.pin p (mem_append_right _ (mem_append_left _ hp))
theorem za3{iter : Expr}{body : List Stmt}{wi : TI}{g : TG}{tb : TS}{pos : Pos}(hp : PassesOwn (model X.prog X.w) X.A X.env X.xe)(hc : X.calm=true)(hi : PI X tg iter wi)(hg : PG X tg g)(hb : PSs X body tb)
    (hs : ∀ x, foldedSetIterable iter X.env x=pure x := by intro _; rfl) : PS X (.For tg iter body [] pos) (zor wi g tb) := by
  intro ze s σ H D I h;refine wpAny_For (thn (hi ze s σ H _ I h) fun v s1 h1 => thn h1 fun itv s2 h2 => ?_) hs;obtain⟨it, fp, tn, J, H2, e, I2, T, st2, f2, W, ⟨m0, w0⟩, turn⟩ := h2;subst e
  -- what stays true of the iterator's objects through the loop
  have stat : ∀ {H' : Hp}, (∀ b∈fp, H' b=none) -> ∀ b∈fp, FpOk X ze H' b := fun hn b hb => ⟨hn b hb, (f2 b hb).2⟩;refine codeAny_forLoop_any (fun n s' => ∃ i σ' H', Inv X ze σ' H' s' /\ tn i s'.heap /\ (∀ b∈fp, H' b=none) /\ W i n σ' H') ?_ m0 ⟨0, σ, H2, I2, st2, fun b hb => (f2 b hb).1, w0⟩;rintro n s3 ⟨i, σ3, H3, I3, st3, fr3, w3⟩;rcases turn i n σ3 H3 w3 with ⟨stop, qn⟩ | ⟨go, N, hN, step⟩
  · refine wpAny_passesOwn hp (thn (T.done X rfl rfl rfl hc i ze s3 σ3 H3 X.xe I3 (stat fr3) st3 stop) fun r s4 ⟨hr, I4⟩ => ?_)
    subst hr;exact wpAny_execs_nil ⟨σ3, H3, I4, qn⟩
  · refine wpAny_passesOwn hp (thn (T.item X rfl rfl rfl hc i ze s3 σ3 H3 X.xe I3 (stat fr3) st3 go) fun r s4 ⟨u, hr, h4⟩ => ?_)
    subst hr;refine wpAny_passesOwn hp (thn h4 fun _ s5 ⟨x, H5, I5, r5, y5, st5, fr5⟩ => ?_);have I5' := I5.pinned (stat fr5) (T.obj _ _ st5);refine wpAny_passesOwn hp (thn (hg _ s5 σ3 H5 x u _ I5' r5 (step x H5 y5)) fun _ s6 ⟨σ6, H6, I6, q6⟩ => ?_);refine wpAny_passesOwn hp (thn (hb _ s6 σ6 H6 _ I6 q6) fun f s7 q7 => ?_);have again : ∀ {σ7 : St} {H7 : Hp}, Inv X (ze++zgl fp s5.heap) σ7 H7 s7 -> N σ7 H7 -> ∃ m, m<n /\ ∃ i σ' H', Inv X ze σ' H' s7 /\ tn i s7.heap /\ (∀ b∈fp, H' b=none) /\ W i m σ' H' := fun {σ7 H7} I7 n7 => by
      obtain⟨m', hm, w7⟩ := hN σ7 H7 n7;refine⟨m', hm, i+1, σ7, H7, I7.unpinned, T.keep _ _ _ st5 fun b hb o e => (I7.pin (b, o) (mem_append_right _ (mem_append_right _ (zcA hb e)))).1, fun b hb => ?_, w7⟩;obtain⟨o, e, d⟩ := T.obj _ _ st5 b hb;exact(I7.pin (b, o) (mem_append_right _ (mem_append_right _ (zcA hb e)))).2.1
    cases f with
    | next => obtain⟨σ7, H7, I7, n7⟩ := q7; exact again I7 n7
    | cont => obtain⟨σ7, H7, I7, n7⟩ := q7; exact again I7 n7
    | brk => obtain⟨σ7, H7, I7, q7⟩ := q7; exact⟨σ7, H7, I7.unpinned, q7⟩
    | ret v => obtain⟨x7, σ7, H7, I7, r7, q7⟩ := q7; exact⟨x7, σ7, H7, I7.unpinned, r7, q7⟩
end
theorem zlm{K : W.Frag}{a : Addr}{xs : List V}{g : TG}{tb : TS}{D : Ends}{σ : St}{H : Hp}(Pv : Nat -> St -> Hp -> Prop)(h0 : Pv 0 σ H)(hl : ∀ i σ H, i<=xs.length -> Pv i σ H -> SqL K H a xs)
    (hs : ∀ i x σ H, xs[i]? = some x -> Pv i σ H -> g x σ H fun σ2 H2 => tb { D with nx := Pv (i+1), ct := Pv (i+1), bk := D.nx } σ2 H2) (hd : ∀ σ H, Pv xs.length σ H -> D.nx σ H) :
    ∃ W : Nat -> Nat -> St -> Hp -> Prop, (∃ m, W 0 m σ H) /\ ∀ i m σ H, W i m σ H ->
      ((Itl K a).stop i H /\ D.nx σ H) \/ ((Itl K a).go i H /\ ∃ N : St -> Hp -> Prop, (∀ σ' H', N σ' H' -> ∃ m', m'<m /\ W (i+1) m' σ' H') /\ ∀ x H', (Itl K a).yld i H x H' -> g x σ H' fun σ2 H2 => tb { D with nx := N, ct := N, bk := D.nx } σ2 H2) := by
  refine⟨fun i m σ H => m=xs.length - i /\ i<=xs.length /\ Pv i σ H, ⟨xs.length, by simp, zero_le _, h0⟩, ?_⟩;rintro i m σ H ⟨rfl, hi, p⟩;have q := hl i σ H hi p;by_cases hlt : i<xs.length
  · refine .inr ⟨⟨xs, xs[i], q, by simp [hlt]⟩, Pv (i+1), fun σ' H' p' => ⟨xs.length - (i+1), by omega, rfl, hlt, p'⟩, fun x H' y => ?_⟩
    obtain⟨e, y⟩ := y;subst e;exact hs i x σ _ (y xs q) p
  · have e : i=xs.length := by omega
    subst e;exact .inl ⟨⟨xs, q, le_refl _⟩, hd σ H p⟩
end
section
abbrev R2 := V -> V -> Hp -> VK -> Prop
def OpR(X : Cx)(f : Value -> Value -> Sem Value)(r : R2): Prop :=
  ∀ (ze : List (Addr×Obj)) (s : Shared) (σ : St) (H : Hp) (x y : V) (v u : Value) (Q : VK), Inv X ze σ H s -> RelV x v -> RelV y u -> r x y H Q ->
    wpAny (model X.prog X.w) X.A (f v u) (EP X ze σ Q) X.xe s
def UnR(X : Cx)(f : Value -> Sem Value)(r : V -> Hp -> VK -> Prop): Prop :=
  ∀ (ze : List (Addr×Obj)) (s : Shared) (σ : St) (H : Hp) (x : V) (v : Value) (Q : VK), Inv X ze σ H s -> RelV x v -> r x H Q ->
    wpAny (model X.prog X.w) X.A (f v) (EP X ze σ Q) X.xe s
def CallR(X : Cx)(f : Value)(r : List V -> Hp -> VK -> Prop): Prop :=
  ∀ (ze : List (Addr×Obj)) (s : Shared) (σ : St) (H : Hp) (xs : List V) (us : List Value) (Q : VK), Inv X ze σ H s -> Vals xs us -> r xs H Q ->
    wpAny (model X.prog X.w) X.A (call f us) (EP X ze σ Q) X.xe s
def TruR(X : Cx)(r : V -> Hp -> (Bool -> Hp -> Prop) -> Prop): Prop :=
  ∀ (ze : List (Addr×Obj)) (s : Shared) (σ : St) (H : Hp) (x : V) (v : Value) (Q : Bool -> Hp -> Prop), Inv X ze σ H s -> RelV x v -> r x H Q ->
    wpAny (model X.prog X.w) X.A (truthy v) (TP X ze σ Q) X.xe s
def tOp(r : R2)(ta tb : TE): TE := fun σ H Q => ta σ H fun x H1 => tb σ H1 fun y H2 => r x y H2 Q
def tUn(r : V -> Hp -> VK -> Prop)(ta : TE): TE := fun σ H Q => ta σ H fun x H1 => r x H1 Q
def rI(C : Int -> Int -> Prop)(g : Int -> Int -> V): R2 := fun x y H Q => ∃ i j, x=.int i /\ y=.int j /\ C i j /\ Q (g i j) H
def rI0(g : Int -> Int -> V): R2 := fun x y H Q => ∃ i j, x=.int i /\ y=.int j /\ Q (g i j) H
def rU(g : Int -> V): V -> Hp -> VK -> Prop := fun x H Q => ∃ i, x=.int i /\ Q (g i) H
section
variable {X : Cx} {a b c : Expr} {ta tb tc : TE} {pos : Pos}
theorem zqN(ha : PE X a ta)(hb : PE X b tb){ze : List (Addr×Obj)}{s : Shared}{σ : St}{H : Hp}{R : V -> V -> Hp -> Prop}(I : Inv X ze σ H s)
    (h : ta σ H fun x H1 => tb σ H1 fun y H2 => R x y H2) {Q : Value -> Shared -> Prop} {f : Value -> Value -> Sem Value}
    (hf : ∀ v u s2 x y H2, Inv X ze σ H2 s2 -> RelV x v -> RelV y u -> R x y H2 -> wpAny (model X.prog X.w) X.A (f v u) Q X.xe s2) :
    wpAny (model X.prog X.w) X.A (eval a X.env) (fun v s₁ => wpAny (model X.prog X.w) X.A (eval b X.env) (fun u s₂ => wpAny (model X.prog X.w) X.A (f v u) Q X.xe s₂) X.xe s₁) X.xe s := by
  refine thn (ha ze s σ H _ I h) fun v s1 ⟨x, H1, I1, r1, q1⟩ => ?_;refine thn (hb ze s1 σ H1 _ I1 q1) fun u s2 ⟨y, H2, I2, r2, q2⟩ => ?_;exact hf v u s2 x y H2 I2 r1 r2 q2
theorem zC{op : Operator}{r : R2}(ho : OpR X (binaryOp op) r)(ha : PE X a ta)(hb : PE X b tb): PE X (.BinOp a op b pos) (tOp r ta tb) := by
  intro ze s σ H Q I h;exact wpAny_BinOp (zqN ha hb I h fun v u s2 x y H2 I2 rx ry q => ho ze s2 σ H2 x y v u Q I2 rx ry q)
theorem zi7{op : UnaryOp}{r : V -> Hp -> VK -> Prop}(ho : UnR X (unaryOp op) r)(ha : PE X a ta): PE X (.UnaryOp op a pos) (tUn r ta) := by
  intro ze s σ H Q I h;exact UnaryOp_ (thn (ha ze s σ H _ I h) fun v s1 ⟨x, H1, I1, r1, q1⟩ => ho ze s1 σ H1 x v Q I1 r1 q1)
theorem opI{f : Value -> Value -> Sem Value}{C : Int -> Int -> Prop}{g : Int -> Int -> Int}
    (rule : ∀ (i j : Int) (t u : Tok) (s : Shared) (Q : Value -> Shared -> Prop) (E : Value -> Shared -> Prop), C i j -> Q (.int (g i j) s.toks) { s with toks := s.toks+1 } -> wpAny (model X.prog X.w) X.A (f (.int i t) (.int j u)) Q E s) :
    OpR X f (rI C fun i j => .int (g i j)) := by
  intro ze s σ H x y v u Q I rx ry h;obtain⟨i, j, rfl, rfl, hc, q⟩ := h;obtain⟨t, rfl⟩ := rx;obtain⟨t', rfl⟩ := ry;exact rule i j t t' s _ _ hc ⟨.int (g i j), H, I.tok _, ⟨_, rfl⟩, q⟩
theorem zrj{f : Value -> Value -> Sem Value}{g : Int -> Int -> Int}
    (rule : ∀ (i j : Int) (t u : Tok) (s : Shared) (Q : Value -> Shared -> Prop) (E : Value -> Shared -> Prop), Q (.int (g i j) s.toks) { s with toks := s.toks+1 } -> wpAny (model X.prog X.w) X.A (f (.int i t) (.int j u)) Q E s) :
    OpR X f (rI0 fun i j => .int (g i j)) := by
  intro ze s σ H x y v u Q I rx ry h;obtain⟨i, j, rfl, rfl, q⟩ := h;obtain⟨t, rfl⟩ := rx;obtain⟨t', rfl⟩ := ry;exact rule i j t t' s _ _ ⟨.int (g i j), H, I.tok _, ⟨_, rfl⟩, q⟩
theorem zqm{f : Value -> Value -> Sem Value}{g : Int -> Int -> Bool}
    (rule : ∀ (i j : Int) (t u : Tok) (s : Shared) (Q : Value -> Shared -> Prop) (E : Value -> Shared -> Prop), Q (.bool (g i j)) s -> wpAny (model X.prog X.w) X.A (f (.int i t) (.int j u)) Q E s) :
    OpR X f (rI0 fun i j => .bl (g i j)) := by
  intro ze s σ H x y v u Q I rx ry h;obtain⟨i, j, rfl, rfl, q⟩ := h;obtain⟨t, rfl⟩ := rx;obtain⟨t', rfl⟩ := ry;exact rule i j t t' s _ _ ⟨.bl (g i j), H, I, rfl, q⟩
def CDivN(i j : Int): Prop := j≠0 /\ j.natAbs<1073741824
def CPow(i j : Int): Prop := 0<=j /\ j<=1000000 /\ i.natAbs<2 ^ 64
theorem zoE: OpR X (binaryOp .Add) (rI0 fun i j => .int (i+j)) := zrj fun _ _ _ _ _ _ _ q => add_int q
theorem zco: OpR X (binaryOp .Sub) (rI0 fun i j => .int (i - j)) := zrj fun _ _ _ _ _ _ _ q => sub_int q
theorem zlr: OpR X (binaryOp .FloorDiv) (rI CDivN fun i j => .int (i.fdiv j)) := opI fun _ _ _ _ _ _ _ hc q => floordiv_int hc.1 q (.inl (PyProof.noPylong_small hc.2))
theorem zdX: OpR X (binaryOp .Mod) (rI (fun _ j => 0<j) fun i j => .int (i % j)) := opI fun i j _ _ _ _ _ hc q => by
  have h1 : (0 : Int)<j := hc;exact mod_int' (by omega) (by rw [Int.fmod_eq_emod_of_nonneg i (by omega)]; exact q)
theorem zhW: OpR X (binaryOp .Pow) (rI CPow fun i j => .int (i ^ j.toNat)) := opI fun _ _ _ _ _ _ _ hc q => pow_int_small hc.1 hc.2.1 hc.2.2 q
theorem unI{f : Value -> Sem Value}{g : Int -> Int}
    (rule : ∀ (i : Int) (t : Tok) (s : Shared) (Q : Value -> Shared -> Prop) (E : Value -> Shared -> Prop), Q (.int (g i) s.toks) { s with toks := s.toks+1 } -> wpAny (model X.prog X.w) X.A (f (.int i t)) Q E s) :
    UnR X f (rU fun i => .int (g i)) := by
  intro ze s σ H x v Q I rx h;obtain⟨i, rfl, q⟩ := h;obtain⟨t, rfl⟩ := rx;exact rule i t s _ _ ⟨.int (g i), H, I.tok _, ⟨_, rfl⟩, q⟩
theorem zfr: UnR X (unaryOp .USub) (rU fun i => .int (-i)) := unI fun _ _ _ _ _ q => neg_int q
end
section
variable {X : Cx} {a b c : Expr} {ta tb tc : TE} {pos : Pos}
theorem zig{ze : List (Addr×Obj)}{σ : St}{H : Hp}{s : Shared}{Q : VK}{k k' : Bool}(I : Inv X ze σ H s)(q : Q (.bl k) H)(e : k=k'): EP X ze σ Q (.bool k') s := by
  subst e;exact⟨.bl k, H, I, rfl, q⟩
theorem zns: OpR X (compareOp .Lt) (rI0 fun i j => .bl (decide (i<j))) := zqm fun _ _ _ _ _ _ _ q => lt_int q
theorem ze6: OpR X (compareOp .LtE) (rI0 fun i j => .bl (decide (i<=j))) := zqm fun _ _ _ _ _ _ _ q => le_int q
theorem zl2: OpR X (compareOp .Gt) (rI0 fun i j => .bl (decide (j<i))) := zqm fun _ _ _ _ _ _ _ q => gt_int q
theorem zqE: OpR X (compareOp .GtE) (rI0 fun i j => .bl (decide (j<=i))) := zqm fun _ _ _ _ _ _ _ q => ge_int q
theorem zoY: OpR X (compareOp .Is) (fun x y H Q => y=.non /\ Q (.bl (decide (x=.non))) H) := by
  intro ze s σ H x y v u Q I rx ry h;obtain⟨rfl, q⟩ := h;cases ry;refine is_none_gen (zig I q ?_);cases x <;> first
    | (cases rx; rfl)
    | (obtain⟨t, rfl⟩ := rx; rfl)
theorem znI: OpR X (compareOp .IsNot) (fun x y H Q => y=.non /\ Q (.bl (!decide (x=.non))) H) := by
  intro ze s σ H x y v u Q I rx ry h;obtain⟨rfl, q⟩ := h;cases ry;refine isnot_none_gen (zig I q ?_);cases x <;> first
    | (cases rx; rfl)
    | (obtain⟨t, rfl⟩ := rx; rfl)
theorem zhd: OpR X (compareOp .NotIn) (fun x y H Q => ∃ i j, x=.str i /\ y=.str j /\ Q (.bl (!(!(Builtin.Str.occurrences j i 0 j.length 1).isEmpty))) H) := by
  intro ze s σ H x y v u Q I rx ry h;obtain⟨i, j, rfl, rfl, q⟩ := h;obtain⟨t, rfl⟩ := rx;obtain⟨t', rfl⟩ := ry;exact notIn_str (zig I q rfl)
theorem OpR.or{f : Value -> Value -> Sem Value}{r r' : R2}(h : OpR X f r)(h' : OpR X f r'): OpR X f (fun x y H Q => r x y H Q \/ r' x y H Q) := by
  intro ze s σ H x y v u Q I rx ry q;rcases q with q | q
  · exact h ze s σ H x y v u Q I rx ry q
  · exact h' ze s σ H x y v u Q I rx ry q
theorem nomark(b : Expr){op : CmpOp}(h : op≠.In := by decide)(h2 : op≠.NotIn := by decide): behindInMarks op b=false := by
  have e1 : (op == CmpOp.In)=false := by cases op <;> first | rfl | exact absurd rfl h
  have e2 : (op == CmpOp.NotIn)=false := by cases op <;> first | rfl | exact absurd rfl h2
  cases b <;> simp [behindInMarks, e1, e2]
theorem zhC{op : CmpOp}{r : R2}(ho : OpR X (compareOp op) r)(ha : PE X a ta)(hb : PE X b tb)(hm : behindInMarks op b=false): PE X (.Compare a [op] [b] pos) (tOp r ta tb) := by
  intro ze s σ H Q I h;exact wpAny_Compare1 (zqN ha hb I h fun v u s2 x y H2 I2 rx ry q => ho ze s2 σ H2 x y v u Q I2 rx ry q) hm
def zl5(t : TE): TT := fun σ H Q => t σ H fun x H' => ∃ k, x=.bl k /\ Q k H'
theorem zJ{op : CmpOp}{r : R2}(ho : OpR X (compareOp op) r)(ha : PE X a ta)(hb : PE X b tb)(hm : behindInMarks op b=false): PT X (.Compare a [op] [b] pos) (zl5 (tOp r ta tb)) := by
  intro ze s σ H Q I h;refine wpAny_isTrue_Compare1 (thn (ha ze s σ H _ I h) fun v s1 ⟨x, H1, I1, r1, q1⟩ => thn (hb ze s1 σ H1 _ I1 q1) fun u s2 ⟨y, H2, I2, r2, q2⟩ =>
    thn (ho ze s2 σ H2 x y v u _ I2 r1 r2 q2) fun c s3 ⟨z, H3, I3, r3, k, e, q3⟩ => ?_) hm
  subst e;cases r3;exact wpAny_truthy_bool ⟨H3, I3, q3⟩
def zjv(r r' : R2)(ta tb tc : TE): TE := fun σ H Q => ta σ H fun x H1 => tb σ H1 fun y H2 => r x y H2 fun z H3 => ∃ k, z=.bl k /\
  (if k=true then tc σ H3 fun w' H4 => r' y w' H4 Q else Q (.bl false) H3)
theorem zea{op op' : CmpOp}{r r' : R2}(ho : OpR X (compareOp op) r)(ho' : OpR X (compareOp op') r')(ha : PE X a ta)(hb : PE X b tb)(hc : PE X c tc)
    (hm : lastMarks [op, op'] [b, c]=false := by with_unfolding_all rfl) : PE X (.Compare a [op, op'] [b, c] pos) (zjv r r' ta tb tc) := by
  intro ze s σ H Q I h;refine Compare_chain (thn (ha ze s σ H _ I h) fun v s1 ⟨x, H1, I1, r1, q1⟩ => chain_link (thn (hb ze s1 σ H1 _ I1 q1) fun u s2 ⟨y, H2, I2, r2, q2⟩ =>
    thn (ho ze s2 σ H2 x y v u _ I2 r1 r2 q2) fun d s3 ⟨z, H3, I3, r3, k, e, q3⟩ => ?_)) hm
  subst e;cases r3;refine wpAny_truthy_bool ?_;cases k with
  | false => exact ite_ff ⟨.bl false, H3, I3, rfl, q3⟩
  | true => exact ite_tt (chain_last (thn (hc ze s3 σ H3 _ I3 q3) fun w' s4 ⟨z', H4, I4, r4, q4⟩ => ho' ze s4 σ H4 y z' u w' Q I4 r2 r4 q4))
theorem zlU{op op' : CmpOp}{r r' : R2}(ho : OpR X (compareOp op) r)(ho' : OpR X (compareOp op') r')(ha : PE X a ta)(hb : PE X b tb)(hc : PE X c tc)
    (hm : lastMarks [op, op'] [b, c]=false := by with_unfolding_all rfl) : PT X (.Compare a [op, op'] [b, c] pos) (zl5 (zjv r r' ta tb tc)) := by
  intro ze s σ H Q I h;refine isTrue_chain (thn (ha ze s σ H _ I h) fun v s1 ⟨x, H1, I1, r1, q1⟩ => test_link (thn (hb ze s1 σ H1 _ I1 q1) fun u s2 ⟨y, H2, I2, r2, q2⟩ =>
    thn (ho ze s2 σ H2 x y v u _ I2 r1 r2 q2) fun d s3 ⟨z, H3, I3, r3, k, e, q3⟩ => ?_)) hm
  subst e;cases r3;refine wpAny_truthy_bool ?_;cases k with
  | false =>
    obtain⟨k', e', q'⟩ := q3;cases e';exact ite_ff ⟨H3, I3, q'⟩
  | true =>
    refine ite_tt (test_last (thn (hc ze s3 σ H3 _ I3 q3) fun w' s4 ⟨z', H4, I4, r4, q4⟩ => thn (ho' ze s4 σ H4 y z' u w' _ I4 r2 r4 q4) fun d' s5 ⟨z2, H5, I5, r5, k2, e2, q5⟩ => ?_));subst e2;cases r5;exact wpAny_truthy_bool ⟨H5, I5, q5⟩
def TruV(K : W.Frag)(x : V)(H : Hp)(k : Bool): Prop :=
  match x with
  | .non => k=false
  | .bl b => k=b
  | .int i => k=(i != 0)
  | .str y => y.length<=sizeLine /\ k=((y.length : Int) != 0)
  | .byt y => y.size<=sizeLine /\ k=((y.size : Int) != 0)
  | .ref p => (∃ xs, SqL K H p xs /\ k = !xs.isEmpty) \/ (∃ xs, SqT K H p xs /\ k = !xs.isEmpty) \/ ∃ kvs, H p=some (.dK kvs) /\ k = !kvs.isEmpty
  | _ => False
theorem ziG{κ : Type}{kvs : List (κ×V)}{vs : List (κ×Value)}(r : KV kvs vs): (!vs.isEmpty) = !kvs.isEmpty := by
  cases r <;> rfl
theorem zfC{xs : List V}{its : List Value}(r : Vals xs its): (!its.toArray.isEmpty) = !xs.isEmpty := by
  cases r <;> simp
theorem line63: (sizeLine : Nat)<2 ^ 63 := by rw [sizeLine_eq]; decide
theorem zqe: TruR X (fun x H Q => ∃ k, TruV X.K x H k /\ Q k H) := by
  intro ze s σ H x v Q I rx h;obtain⟨k, e, q⟩ := h;have hl := line63;have hs : sizeLine=16777216 := sizeLine_eq;cases x with
  | non =>
    cases rx;have e' : k=false := e;subst e';exact truthy_none ⟨H, I, q⟩
  | bl b =>
    cases rx;have e' : k=b := e;subst e';exact wpAny_truthy_bool ⟨H, I, q⟩
  | int i =>
    obtain⟨t, rfl⟩ := rx;have e' : k=(i != 0) := e;subst e';exact PySem.P.truthy_int ⟨H, I, q⟩
  | str y =>
    obtain⟨t, rfl⟩ := rx;obtain⟨hy, e'⟩ : y.length<=sizeLine /\ k=((y.length : Int) != 0) := e;subst e';exact PySem.P.truthy_str (by omega) ⟨H, I.tok _, q⟩
  | byt y =>
    obtain⟨t, rfl⟩ := rx;obtain⟨hy, e'⟩ : y.size<=sizeLine /\ k=((y.size : Int) != 0) := e;subst e';exact W.truthy_bytes (by omega) ⟨H, I.tok _, q⟩
  | ref p =>
    cases rx;have e' : (∃ xs, SqL X.K H p xs /\ k = !xs.isEmpty) \/ (∃ xs, SqT X.K H p xs /\ k = !xs.isEmpty) \/ ∃ kvs, H p=some (.dK kvs) /\ k = !kvs.isEmpty := e;rcases e' with ⟨xs, hx, e'⟩ | ⟨xs, hx, e'⟩ | ⟨kvs, hx, e'⟩
    · subst e'
      obtain⟨its, r, pl, hz⟩ := I.list hx;have hlen := r.length;exact wpAny_truthy_list pl.isList (by simp only [size_toArray]; omega) ⟨H, I.tok _, by rw [zfC r]; exact q⟩
    · subst e'
      obtain⟨its, r, pl, hz⟩ := I.tuple hx;have hlen := r.length;exact truthy_tuple pl (by simp only [size_toArray]; omega) ⟨H, I.tok _, by rw [zfC r]; exact q⟩
    · subst e'
      obtain⟨hz, hS, vs, r, m⟩ : kvs.length<=sizeLine /\ (p == sysModules)=false /\ ∃ vs, KV kvs vs /\ s.heap.DictOf (zbu X.prog X.w) p vs := I.hok p _ hx;have hlen : kvs.length=vs.length := Paired.length r;exact wpAny_truthy_dict hS m (by omega) ⟨H, I.tok _, by rw [ziG r]; exact q⟩
  | _ => exact(show False from e).elim
theorem zV(ha : PE X a ta)(he : ∀ whole, isTrue a X.env whole=(do let v <- whole; standAt a.pos; holding [v] (truthy v))):
    PT X a (fun σ H Q => ta σ H fun x H' => ∃ k, TruV X.K x H' k /\ Q k H') := by
  intro ze s σ H Q I h;exact isTrue_plain (thn (ha ze s σ H _ I h) fun v s1 ⟨x, H1, I1, r1, q1⟩ => zqe ze s1 σ H1 x v Q I1 r1 q1) (he _)
theorem ziC: OpR X (binaryOp .Add) (fun x y H Q => ∃ i j, x=.str i /\ y=.str j /\ i.length+j.length<=sizeLine /\ Q (.str (i++j)) H) := by
  intro ze s σ H x y v u Q I rx ry h;obtain⟨i, j, rfl, rfl, hz, q⟩ := h;obtain⟨t, rfl⟩ := rx;obtain⟨t', rfl⟩ := ry;exact add_str (fun t' tk => ⟨.str (i++j), H, I.tok _, ⟨_, rfl⟩, q⟩) hz
theorem vals1{x : V}{us : List Value}(r : Vals [x] us): ∃ u, us=[u] /\ RelV x u := by
  cases r with
  | cons r1 r2 => cases r2; exact⟨_, rfl, r1⟩
theorem vals2{x y : V}{us : List Value}(r : Vals [x, y] us): ∃ u w', us=[u, w'] /\ RelV x u /\ RelV y w' := by
  cases r with
  | cons r1 r2 =>
    cases r2 with
    | cons r3 r4 => cases r4; exact⟨_, _, rfl, r1, r3⟩
theorem zkO(hc : X.calm=true): CallR X (.builtin "max") (fun xs H Q => ∃ i j, xs=[.int i, .int j] /\ Q (.int (if j>i then j else i)) H) := by
  intro ze s σ H xs us Q I r h;obtain⟨i, j, rfl, q⟩ := h;obtain⟨u, w', rfl, ⟨t, rfl⟩, ⟨t', rfl⟩⟩ := vals2 r;refine max_two_ints (I.ok.hd hc) fun h' tk k => ⟨_, H, I.kept k, ?_, q⟩;by_cases hj : j>i
  · rw [if_pos hj, if_pos hj]; exact⟨_, rfl⟩
  · rw [if_neg hj, if_neg hj]; exact⟨_, rfl⟩
theorem zj2: CallR X (.type "int") (fun xs H Q => (∃ i, xs=[.int i] /\ Q (.int i) H) \/ ∃ k, xs=[.bl k] /\ Q (.int (if k then 1 else 0)) H) := by
  intro ze s σ H xs us Q I r h;rcases h with ⟨i, rfl, q⟩ | ⟨k, rfl, q⟩
  · obtain⟨u, rfl, t, rfl⟩ := vals1 r
    exact call_int_int ⟨.int i, H, I, ⟨_, rfl⟩, q⟩
  · obtain⟨u, rfl, r1⟩ := vals1 r
    cases r1;exact call_int_bool ⟨.int (if k then 1 else 0), H, I.tok _, ⟨_, rfl⟩, q⟩
end
end
section
structure ObjM(h : Heap)(x dx C : Addr)(mA : Str -> Option Value): Prop where
  obj : h.get? x=some (W.instObj C dx)
  ns : h.Ns1 dx mA
  ne : dx≠x
theorem zjs{h : Heap}{dx : Addr}{mA : Str -> Option Value}(n : h.Ns1 dx mA): ∃ od, h.get? dx=some od /\ ∀ name, W.lookIn name od=some (mA name) := by
  obtain⟨o, es, ep, ho, hd, hk, _, hm⟩ := n;refine⟨o, ho, fun name => ?_⟩;have e := hm name;unfold nsFind findBy at e;rw [<- Array.find?_toList] at e;unfold W.lookIn;rw [hd];dsimp only;split
  · rename_i y q
    rw [q] at e;exact congrArg some e
  · rename_i q
    rw [q] at e;have a : es.toList.any (·.refKey)=false := by
      rw [List.any_eq_false];intro y hy;obtain⟨z, t, hkey⟩ := hk y (Array.mem_toList_iff.mp hy);simp [DictEntry.refKey, hkey]
    have a' : ¬ es.toList.any (·.refKey)=true := by rw [a]; exact Bool.false_ne_true
    rw [if_neg a'];exact congrArg some e
theorem ObjM.look{h : Heap}{x dx C : Addr}{mA : Str -> Option Value}(I : ObjM h x dx C mA): ∃ od, W.InstAt h x (W.instObj C dx) C (some od) /\ ∀ name, W.lookIn name od=some (mA name) :=
  let ⟨od, ho, hl⟩ := zjs I.ns
  ⟨od, ⟨I.obj, rfl, rfl, ho⟩, hl⟩
section
variable {P : Program} {w : World} {H H' : Hp} {h h' : Heap} {a C dx : Addr} {fs fs' : List (Str×V)}
theorem znf(hok : HOk P w H h)(e : H a=some (.ins C dx fs)): ∃ mA, ObjM h a dx C mA /\ (∀ f, RelO (fs.lookup f) (mA f)) /\ PySem.Within mA (fs.map (·.1)) /\ fs.length<=1000 /\ H dx=some (.own a) := by
  obtain⟨d, z, ne, ob, mA, n, r, q⟩ := (show ObjOk P w H h a (.ins C dx fs) from hok a _ e);exact⟨mA, ⟨ob, n, ne⟩, r, q, z, d⟩
end
structure Cls(K : W.Frag)(C : Addr): Prop where
  pg : W.plainGet K C Str.empty=true
  hd : W.hasDictIn K C=true
  po : W.plainOver K C=true
  sa : W.findIn K (.ref C) "__setattr__" = some (some (.builtin "object.__setattr__"))
theorem Cls.get{K : W.Frag}{C : Addr}(c : Cls K C)(f : Str): W.plainGet K C f=true := c.pg
section
variable {X : Cx} {ze : List (Addr×Obj)} {σ : St} {H : Hp} {s : Shared} {A : Around} {E : Value -> Shared -> Prop} {Q : Value -> Shared -> Prop} {c : Value} {b : Bool}
inductive TyOf (K : W.Frag) (H : Hp) : V -> Value -> Prop where
  | non : TyOf K H .non (.type "NoneType")
  | bl (x : Bool) : TyOf K H (.bl x) (.type "bool")
  | int (i : Int) : TyOf K H (.int i) (.type "int")
  | str (x : Str) : TyOf K H (.str x) (.type "str")
  | flt (x : UInt64) : TyOf K H (.flt x) (.type "float")
  | lst {a : Addr} {xs : List V} (e : H a=some (.lst xs)) : TyOf K H (.ref a) (.type "list")
  | frz {a : Addr} {o : Obj} {xs : List V} (e : H a=some (.frz o (.lst xs))) : TyOf K H (.ref a) (.type "list")
  | tup {a : Addr} {xs : List V} (e : H a=some (.tup xs)) : TyOf K H (.ref a) (.type "tuple")
  | dK {a : Addr} {kvs : List (Key×V)} (e : Rd H a (.dK kvs)) : TyOf K H (.ref a) (.type "dict")
  | dT {a : Addr} {kvs : List (List Key×V)} (e : Rd H a (.dT kvs)) : TyOf K H (.ref a) (.type "dict")
  | ins {a C dx : Addr} {fs : List (Str×V)} (e : H a=some (.ins C dx fs)) (cl : Cls K C) (ha : W.findIn K (.ref C) "__class__" = some (some (.builtin "object.__class__")))
      (hn : W.specialIn K (.builtin "object.__class__") "__get__" = some (some (.builtin "getset_descriptor.__get__"))) (htk : W.takesIn K (.builtin "object.__class__")=some true)
      (hm : W.mroIn K C (.type "object")=some true) : TyOf K H (.ref a) (.ref C)
theorem zjl{x : V}{u t : Value}(I : Inv X ze σ H s)(rx : RelV x u)(ty : TyOf X.K H x t)(e : W.kitOne X.K t c=some b)(h : ∀ tk, Q (.bool b) { s with toks := tk }):
    wpAny (model X.prog X.w) A (call (.builtin "isinstance") [u, c]) Q E s := by
  cases ty with
  | non => cases (show u=Value.none from rx); exact W.kia_one W.kitx_none I.kIn True.intro e (fun z => nomatch z) h
  | bl y => cases (show u=Value.bool y from rx); exact W.kia_one W.kitx_bool I.kIn True.intro e (fun z => nomatch z) h
  | int i => obtain⟨t, q⟩ := (show ∃ t, u=Value.int i t from rx); cases q; exact W.kia_one W.kitx_int I.kIn True.intro e (fun z => nomatch z) h
  | str y => obtain⟨t, q⟩ := (show ∃ t, u=Value.str y t from rx); cases q; exact W.kia_one W.kitx_str I.kIn True.intro e (fun z => nomatch z) h
  | flt y => obtain⟨t, q⟩ := (show ∃ t, u=Value.float y t from rx); cases q; exact W.kia_one W.kitx_float I.kIn True.intro e (fun z => nomatch z) h
  | @lst a xs ea =>
    cases (show u=Value.ref a from rx);obtain⟨_, _, n, _, h1⟩ := (show ObjOk X.prog X.w H s.heap a (.lst xs) from I.hok a _ ea);exact W.kia_one W.kitx_list I.kIn ⟨_, h1, rfl⟩ e (fun z => nomatch z) h
  | @frz a ob xs ea =>
    cases (show u=Value.ref a from rx);obtain⟨_, _, _, n, _, h1⟩ := (show ObjOk X.prog X.w H s.heap a (.frz ob (.lst xs)) from I.hok a _ ea);exact W.kia_one W.kitx_list I.kIn ⟨_, h1, rfl⟩ e (fun z => nomatch z) h
  | @tup a xs ea =>
    cases (show u=Value.ref a from rx);obtain⟨_, _, _, p⟩ := (show ObjOk X.prog X.w H s.heap a (.tup xs) from I.hok a _ ea);obtain⟨o, h1, h2, _⟩ := p;exact W.kia_one W.kitx_tuple I.kIn ⟨o, h1, h2⟩ e (fun z => nomatch z) h
  | @dK a kvs ea =>
    cases (show u=Value.ref a from rx);obtain⟨_, _, vs, _, p⟩ := (show ObjOk X.prog X.w H s.heap a (.dK kvs) from ea.ok I.hok);obtain⟨o, es, ep, h1, h2, _⟩ := p;exact W.kia_one W.kitx_dict I.kIn ⟨o, h1, h2.1⟩ e (fun z => nomatch z) h
  | @dT a kvs ea =>
    cases (show u=Value.ref a from rx);obtain⟨_, _, xs, _, o, es, ep, h1, h2, _⟩ := (show ObjOk X.prog X.w H s.heap a (.dT kvs) from ea.ok I.hok);exact W.kia_one W.kitx_dict I.kIn ⟨o, h1, h2.1⟩ e (fun z => nomatch z) h
  | @ins a C dx fs ea cl ha hn htk hm =>
    cases (show u=Value.ref a from rx);obtain⟨mA, O, _⟩ := znf I.hok ea;obtain⟨od, J, _⟩ := O.look;exact W.kia_one (W.kitx_own (cl.get _) cl.hd ha hn htk hm) I.kIn J e (fun z => nomatch z) h
end
end
section
structure Room(k : Nat)(A : Around): Prop where
  hd : A.handled=none
  dp : A.depth+3*k+5<recursionLimit
  un : A.units+16*k+200<cLine
theorem Room.mono{j k : Nat}{A : Around}(r : Room k A)(h : j<=k): Room j A := ⟨r.hd, by have := r.dp; omega, by have := r.un; omega⟩
theorem Room.deeper{k : Nat}{A : Around}(r : Room (k+1) A)(env : Env): Room k (A.deeper env) :=
  ⟨r.hd, by have := r.dp; show A.depth+1+3*k+5<_; omega, by have := r.un; show A.units+3+16*k+200<_; omega⟩
theorem Room.depth{k : Nat}{A : Around}(r : Room k A): A.depth<recursionLimit := by have := r.dp; omega
theorem Room.units{k : Nat}{A : Around}(r : Room k A): A.units+64<cLine := by have := r.un; omega
def zoq: TA := fun _ H Q => Q [] H
def zjc(ta : TE)(tr : TA): TA := fun σ H Q => ta σ H fun x H1 => tr σ H1 fun xs H2 => Q (x :: xs) H2
section
variable {X : Cx} {e : Expr} {es : List Expr} {te : TE} {t : TA} {pos : Pos}
theorem zd: PA X [] zoq := fun _ _ _ _ H Q I h => Calls.spliced_nil ⟨[], H, I, .nil, h⟩
theorem za(ha : PE X e te)(hr : PA X es t)(hs : starEach (e :: es) X.env=(false, eval e X.env) :: starEach es X.env := by rfl): PA X (e :: es) (zjc te t) := by
  intro pos ze s σ H Q I h;rw [hs];show wpAny _ _ (spliced ((false, eval e X.env) :: backTo pos (starEach es X.env))) _ _ s;refine Calls.spliced_cons (thn (ha ze s σ H _ I h) fun u s1 ⟨x, H1, I1, r1, q1⟩ => ?_);exact thn (hr pos ze s1 σ H1 _ I1 q1) fun us s2 ⟨xs, H2, I2, r2, q2⟩ => ⟨x :: xs, H2, I2, .cons r1 r2, q2⟩
def zrd(t : TA): TE := fun σ H Q => t σ H fun xs H1 => xs.length<=sizeLine /\ ∀ p, H1 p=none -> Q (.ref p) (upd H1 p (.tup xs))
def zol(t : TA): TE := fun σ H Q => t σ H fun xs H1 => xs.length<=sizeLine /\ ∀ p, H1 p=none -> Q (.ref p) (upd H1 p (.lst xs))
theorem zaR{x1}(h : PA X es t): PE X (.Tuple es x1 pos) (zrd t) := by
  intro ze s σ H Q I hq;refine wpAny_Tuple_spliced (thn (h pos ze s σ H _ I hq) fun us s1 ⟨xs, H1, I1, r, z, q⟩ => ⟨by rw [<- r.length]; exact z, ?_⟩);have hf : H1 s1.heap.objs.size=none := I1.hok.fresh (le_refl _);refine⟨.ref s1.heap.objs.size, upd H1 s1.heap.objs.size (.tup xs), I1.laid (t' := s1.toks) (fun b u e => get?_push_of_some _ e) (le_refl _) ?_, rfl, q _ hf⟩;exact⟨⟨z, _, get?_push_size _ rfl, rfl⟩, us, r, ⟨_, get?_push_size _ rfl, rfl, _, rfl⟩⟩
theorem zap(h : PA X es t): PE X (.List es pos) (zol t) := by
  intro ze s σ H Q I hq;refine wpAny_List_spliced (thn (h pos ze s σ H _ I hq) fun us s1 ⟨xs, H1, I1, r, z, q⟩ => ⟨by rw [<- r.length]; exact z, ?_⟩);have hf : H1 s1.heap.objs.size=none := I1.hok.fresh (le_refl _);refine⟨.ref s1.heap.objs.size, upd H1 s1.heap.objs.size (.lst xs), I1.laid (t' := s1.toks) (fun b u e => get?_push_of_some _ e) (le_refl _) ?_, rfl, q _ hf⟩;exact⟨z, us, 0, r, get?_push_size _ rfl⟩
end
abbrev Sp := List V -> Hp -> VK -> XK -> Prop
abbrev CXT := List Env -> Hp -> Shared -> XK -> Value -> Shared -> Prop
structure Env0(P : Program)(w : World)(K : W.Frag)(mg : Str -> Option Value)(base : Heap)(A : Around)(outer : List Env)(s : Shared)(H : Hp): Prop where
  frames : A.frames=some outer
  mod : Mod K mg base
  bs : ∀ b o, base.get? b=some o -> s.heap.get? b=some o /\ H b=none
  bsz : base.objs.size<=s.heap.objs.size
  funs : s.heap.FunFrames base outer
  frf : Frf (frs outer) H
  hok : HOk P w H s.heap
  bare : AllBare s.gens
def CE(outer : List Env)(P : Program)(w : World)(H : Hp)(s : Shared)(Q : VK)(u : Value)(s' : Shared): Prop :=
  ∃ v H', s'.os=s.os /\ AllBare s'.gens /\ Un (frs outer) [] H H' s.heap s'.heap /\ HOk P w H' s'.heap /\ RelV v u /\ Q v H'
def CR(CX : CXT)(outer : List Env)(P : Program)(w : World)(H : Hp)(s : Shared)(Q : VK)(E : XK)(r : Result)(s' : Shared): Prop :=
  match r with
  | .ok (.ret u) => CE outer P w H s Q u s'
  | .ok _ => False
  | .error e => CX outer H s E e s'
structure FnOk(P : Program)(w : World)(K : W.Frag)(mg : Str -> Option Value)(base : Heap)(CX : CXT)(k : Nat)(f : Addr)(fd : FuncData)(ps : List Str)(sp : Sp): Prop where
  len : ∀ vs H Q E, sp vs H Q E -> vs.length=ps.length
  run : ∀ (A : Around) (outer : List Env) (s : Shared) (H : Hp) (args : Args) (us : List Value) (vs : List V) (Q : VK) (E : XK), Room k A -> Env0 P w K mg base A outer s H -> BindsTo s fd args (ps.zip us) -> Vals vs us -> sp vs H Q E ->
    codeAny (model P w) A (.call (.ref f) args) (CR CX outer P w H s Q E) s
section
variable {X : Cx} {ze : List (Addr×Obj)} {σ : St} {H : Hp} {s s' : Shared}
theorem Inv.env0(I : Inv X ze σ H s): Env0 X.prog X.w X.K X.mg X.base X.A X.stack s H :=
  ⟨I.ok.frames, I.ok.mod, I.bs, le_trans I.ok.bsz I.sz, I.stack, I.stkFree, I.hok, I.bare⟩
theorem Inv.after{Q : VK}{u : Value}(I : Inv X ze σ H s)(h : CE X.stack X.prog X.w H s Q u s'): EP X ze σ Q u s' := by
  obtain⟨v, H', os, bare, un, hok, r, q⟩ := h;obtain⟨hh, g, d, t, os'⟩ := s';obtain rfl : os'=s.os := os;exact⟨v, H', I.call (h' := hh) (g' := g) (d' := d) (t' := t) (ch := []) un hok bare (fun b z => absurd z (by simp)), r, q⟩
end
def zkK(sp : Sp)(dvs : List V)(E : XK)(t : TA): TE := fun σ H Q => t σ H fun vs H1 => sp (vs++dvs) H1 Q E
def Binds(K : W.Frag)(fd : FuncData)(ps : List Str)(ds : List Value): Prop :=
  ∀ (s : Shared) (us : List Value), K.In s.heap -> (us++ds).length=ps.length -> BindsTo s fd ⟨us, []⟩ (ps.zip (us++ds))
theorem Binds.all{K : W.Frag}{fd : FuncData}{ps : List Str}(h : ∀ us : List Value, us.length=ps.length -> bindArgs fd ⟨us, []⟩=pure (ps.zip us)): Binds K fd ps [] := fun s us _ hl => by
  rw [append_nil] at hl ⊢;exact .of_eq (h us hl)
def Passes(CX : CXT)(X : Cx)(E : XK): Prop := ∀ (ze : List (Addr×Obj)) (σ : St) (H : Hp) (s : Shared) (e : Value) (s' : Shared), Inv X ze σ H s -> CX X.stack H s E e s' -> X.xe e s'
section
variable {X : Cx} {CX : CXT} {k : Nat} {f C : Addr} {fd : FuncData} {ps : List Str} {sp : Sp} {dvs : List V} {ds : List Value} {E : XK} {x m : Str} {p pos apos : Pos} {e o : Expr} {es : List Expr} {ta : TE} {t : TA}
theorem zo7{ze : List (Addr×Obj)}{σ : St}{H : Hp}{s : Shared}{Q : VK}{us : List Value}{vs : List V}(F : FnOk X.prog X.w X.K X.mg X.base CX k f fd ps sp)(hr : Room k X.A)(hb : Binds X.K fd ps ds)(hd : Vals dvs ds)(hx : Passes CX X E)
    (I : Inv X ze σ H s) (r : Vals vs us) (h : sp (vs++dvs) H Q E) : wpAny (model X.prog X.w) X.A (call (.ref f) us) (EP X ze σ Q) X.xe s := by
  have r2 : Vals (vs++dvs) (us++ds) := r.append hd;have hl : (us++ds).length=ps.length := by rw [<- r2.length]; exact F.len _ _ _ _ h
  refine wpAny_call (codeAny_mono (F.run X.A X.stack s H ⟨us, []⟩ (us++ds) (vs++dvs) Q E hr I.env0 (hb s us I.kIn hl) r2 h) fun r s' hq => ?_);cases r with
  | error e => exact hx ze σ H s e s' I hq
  | ok fl =>
    cases fl with
    | ret u => exact I.after hq
    | next => exact False.elim hq
    | brk => exact False.elim hq
    | cont => exact False.elim hq
theorem zjy(F : FnOk X.prog X.w X.K X.mg X.base CX k f fd ps sp)(hr : Room k X.A)(hg : Gl X x)(hm : X.mg x=some (.ref f))(hk : W.keepIn X.K (.ref f)=true)(hb : Binds X.K fd ps ds)(hd : Vals dvs ds)(hx : Passes CX X E)
    (ha : PA X (e :: es) t) (hdb : (x == ("__debug__" : Str))=false := by decide) (he : starEach (e :: es) X.env=(false, eval e X.env) :: starEach es X.env := by rfl) (hpl : (backTo pos (starEach es X.env)).any (·.1)=false := by rfl) :
    PE X (.Call (.Name x p) (e :: es) [] pos) (zkK sp dvs E t) := by
  intro ze s σ H Q I h;refine wpAny_Call_Name_kw (zkm I hg hm ?_ hdb);refine W.callWith_K (h₀ := X.base) I.ok.mod.kin hk (thn (ha pos ze s σ H _ I h) fun us s1 ⟨vs, H1, I1, r, q⟩ => ⟨I1.kIn, ?_⟩) he hpl;exact zo7 F hr hb hd hx I1 r q
end
structure FnScope(N P : List Str)(sc : Scope): Prop where
  kind : sc.kind=.function
  co : sc.isCoroutine=false
  gen : sc.isGenerator=false
  nd : N.Nodup
  pre : N.take P.length=P
  par : ∀ x∈P, sc.names.lookup x=some .local \/ sc.names.lookup x=some .cell
  nofree : ∀ y∈sc.names, y.2≠.free
theorem zgW{kindOf : Str -> Option NameKind}{x : Str}: ∀ {binds : List (Str×Value)} {m : Str -> Option Value}, (∀ v, (x, v)∉binds) -> bindL kindOf binds m x=m x
  | [], _, _ => rfl
  | (n, v) :: r, m, h => by
    unfold bindL;rw [zgW fun w hw => h w (mem_cons_of_mem _ hw)];split
    · have : x≠n := by rintro rfl; exact h v mem_cons_self
      simp [this]
    · rfl
theorem zgy{kindOf : Str -> Option NameKind}{x : Str}: ∀ {binds : List (Str×Value)} {m : Str -> Option Value}, (∀ v, (x, v)∉binds) -> bindC kindOf binds m x=m x
  | [], _, _ => rfl
  | (n, v) :: r, m, h => by
    unfold bindC;rw [zgy fun w hw => h w (mem_cons_of_mem _ hw)];split
    · rfl
    · have : x≠n := by rintro rfl; exact h v mem_cons_self
      simp [this]
theorem zgq{kindOf : Str -> Option NameKind}{x : Str}{v : Value}: ∀ {P : List Str} {vs : List Value} {i : Nat} {m : Str -> Option Value}, P.Nodup -> P[i]? = some x -> vs[i]? = some v -> kindOf x=some .local ->
    bindL kindOf (P.zip vs) m x=some v
  | [], _, _, _, _, h, _, _ => by simp at h
  | _ :: _, [], _, _, _, _, h, _ => by simp at h
  | p :: P, w :: vs, 0, m, nd, h1, h2, hk => by
    simp at h1 h2; subst h1; subst h2;show bindL kindOf ((p, w) :: P.zip vs) m p=_;unfold bindL;rw [zgW fun v hv => (nodup_cons.mp nd).1 (of_mem_zip hv).1, if_pos hk];simp
  | p :: P, w :: vs, i+1, m, nd, h1, h2, hk => by
    show bindL kindOf ((p, w) :: P.zip vs) m x=_;unfold bindL;exact zgq (i := i) (nodup_cons.mp nd).2 (by simpa using h1) (by simpa using h2) hk
theorem zge{kindOf : Str -> Option NameKind}{x : Str}{v : Value}: ∀ {P : List Str} {vs : List Value} {i : Nat} {m : Str -> Option Value}, P.Nodup -> P[i]? = some x -> vs[i]? = some v -> kindOf x≠some .local ->
    bindC kindOf (P.zip vs) m x=some v
  | [], _, _, _, _, h, _, _ => by simp at h
  | _ :: _, [], _, _, _, _, h, _ => by simp at h
  | p :: P, w :: vs, 0, m, nd, h1, h2, hk => by
    simp at h1 h2; subst h1; subst h2;show bindC kindOf ((p, w) :: P.zip vs) m p=_;unfold bindC;rw [zgy fun v hv => (nodup_cons.mp nd).1 (of_mem_zip hv).1, if_neg hk];simp
  | p :: P, w :: vs, i+1, m, nd, h1, h2, hk => by
    show bindC kindOf ((p, w) :: P.zip vs) m x=_;unfold bindC;exact zge (i := i) (nodup_cons.mp nd).2 (by simpa using h1) (by simpa using h2) hk
def start(N : List Str)(vs : List V): St := vs.map some++List.replicate (N.length - vs.length) none
def zlh(CX : CXT)(P : Program)(w : World)(K : W.Frag)(mg : Str -> Option Value)(base : Heap)(N : List Str)(qual : Str)(scope : Scope)(f : Addr)(cd : Value)(A : Around)(outer : List Env)(s : Shared)(H : Hp)(E : XK): Cx where
  prog := P
  w := w
  K := K
  mg := mg
  base := base
  A := A.deeper (envOfC qual scope s.heap.objs.size f cd)
  N := N
  s₀ := s
  H₀ := H
  env := envOfC qual scope s.heap.objs.size f cd
  outer := outer
  stack := envOfC qual scope s.heap.objs.size f cd :: outer
  ex := []
  calm := true
  fn := fun _ => true
  pn := []
  xe := fun e s' => wpAny (model P w) (A.deeper (envOfC qual scope s.heap.objs.size f cd)) (leaving (envOfC qual scope s.heap.objs.size f cd) e) (fun _ s'' => CX outer H s E e s'') (fun e' s'' => CX outer H s E e' s'') s'
theorem zhV{sc : Scope}{n : Nat}{x : Str}(h : sc.names.lookup x=some .cell): ∃ c, (cellsFrom n sc.names []).lookup x=some c := by
  have q := W.cellsFrom_some sc.names n [] (.inl h);exact isSome_iff_exists.mp q
theorem zky{CX : CXT}{P : Program}{w : World}{K : W.Frag}{mg : Str -> Option Value}{base : Heap}{N ps : List Str}{qual : Str}{scope : Scope}{f : Addr}{cd : Value}{A : Around}{outer : List Env}{s s1 : Shared}{H : Hp}{E : XK}{us : List Value}{vs : List V}
    (S : FnScope N ps scope) (hd : A.handled=none) (e0 : Env0 P w K mg base A outer s H) (hl : vs.length=ps.length) (r : Vals vs us)
    (x : InCallC s s.heap.objs.size (bindL (envOfC qual scope s.heap.objs.size f cd).kindOf (ps.zip us) fun _ => none) (cellsFrom (s.heap.objs.size+1) scope.names []) (bindC (envOfC qual scope s.heap.objs.size f cd).kindOf (ps.zip us) fun _ => none) s1) :
    Inv (zlh CX P w K mg base N qual scope f cd A outer s H E) [] (start N vs) H s1 := by
  have hpl : ps.length<=N.length := by have := congrArg List.length S.pre; rw [length_take] at this; omega
  obtain⟨h1, tk, rfl, hk⟩ := x.done;have noA : ∀ b : Addr, b∉(zlh CX P w K mg base N qual scope f cd A outer s H E).ex := fun b z => absurd (show b∈([] : List Addr) from z) (by simp);refine⟨⟨e0.mod, S.kind, rfl, rfl, le_refl _, fun y z c h1 h2 => ?_, fun y hy => ?_, fun y c _ h => ?_, fun _ => hd, Around.frames_deeper e0.frames, .inr ⟨rfl, rfl⟩, fun b z => absurd z (noA b), e0.bs, e0.bsz, fun b _ _ => noA b, fun b z => absurd z (noA b), e0.funs, e0.frf⟩,
    rfl, e0.bare, Un.kept hk, ⟨_, x.toInCall.ns, fun i y v h1 h2 h3 => ?_⟩, fun y c h => ⟨_, x.cell y c h⟩, e0.hok.fresh (le_refl _), fun y c h => ?_, fun p hp => absurd (show p∈([] : List (Addr×Obj)) from hp) (by simp), e0.hok.kept hk, ?_⟩
  · exact name_of_addr x.apart (PySem.mem_of_lookup h1) (PySem.mem_of_lookup h2)
  · have hy : scope.names.lookup y=some .cell \/ scope.names.lookup y=some .free := hy
    rcases hy with hy | hy
    · exact zhV hy
    · exact absurd rfl (S.nofree _ (PySem.mem_of_lookup hy))
  · exact le_of_lt (x.above y c (PySem.mem_of_lookup h))
  · have hi : i<vs.length := by
      unfold start at h2;by_cases hi : i<vs.length
      · exact hi
      · rw [List.getElem?_append_right (by simpa using hi)] at h2
        rw [List.getElem?_replicate] at h2;split at h2 <;> cases h2
    have ha : vs[i]? = some v := by
      unfold start at h2;rw [getElem?_append_left (by simpa using hi), getElem?_map] at h2;cases e : vs[i]? with
      | none => rw [e] at h2; cases h2
      | some a => rw [e] at h2; cases h2; rfl
    obtain⟨u, hu, rv⟩ := r.get ha;have hp : ps[i]? = some y := by
      rw [<- S.pre, List.getElem?_take_of_lt (by omega)]; exact h1
    have ndP : ps.Nodup := by rw [<- S.pre]; exact S.nd.sublist (List.take_sublist _ _)
    refine⟨u, rv, ?_⟩;rcases S.par y (mem_of_getElem? hp) with k | k
    · exact .inl ⟨k, zgq ndP hp hu k⟩
    · obtain⟨c, e⟩ := zhV (n := s.heap.objs.size+1) k
      refine .inr ⟨.inl k, c, e, ?_⟩;have q := x.cell y c e;rw [zge ndP hp hu (by show scope.names.lookup y≠_; rw [k]; decide)] at q;exact q
  · exact e0.hok.fresh (le_of_lt (x.above y c (PySem.mem_of_lookup h)))
  · unfold start
    show _=N.length;rw [length_append, length_map, List.length_replicate];omega
theorem zqK{CX : CXT}{P : Program}{w : World}{K : W.Frag}{mg : Str -> Option Value}{base : Heap}{k : Nat}{f : Addr}{name qual : Str}{params : Arguments}{body : List Stmt}{scope : Scope}{dV kV doc pm cdv ct oc : Value}{an od : Option Addr}
    {osl : Array (Option Value)} {N ps : List Str} {sp : Sp} (lk : K.lookup f=some ⟨oc, od, .func (W.fnOf name qual params body scope dV kV doc pm an cdv ct), osl⟩) (hcd : W.codeIn K cdv qual=true) (S : FnScope N ps scope)
    (len : ∀ vs H Q E, sp vs H Q E -> vs.length=ps.length)
    (hbody : ∀ (A : Around) (outer : List Env) (s : Shared) (H : Hp) (vs : List V) (Q : VK) (E : XK), Room k (A.deeper (envOfC qual scope s.heap.objs.size f cdv)) -> sp vs H Q E ->
      ∃ t, PSs (zlh CX P w K mg base N qual scope f cdv A outer s H E) body t /\ t { nx := fun _ H' => Q .non H', rt := Q } (start N vs) H) :
    FnOk P w K mg base CX (k+1) f (W.fnOf name qual params body scope dV kV doc pm an cdv ct) ps sp := by
  refine⟨len, fun A outer s H args us vs Q E hr e0 hb r hsp => ?_⟩;have hl := len _ _ _ _ hsp;have KX : K.In s.heap := e0.mod.kin.keeps fun b o e => (e0.bs b o e).1;have lim : s.heap.NoLimit := e0.mod.nolimit.keeps fun b o e => (e0.bs b o e).1;have hkind : ∀ y∈ps.zip us, scope.names.lookup y.1=some .local \/ (scope.names.lookup y.1=some .cell /\ ((cellsFrom (s.heap.objs.size+1) scope.names []).lookup y.1).isSome=true) := fun⟨n, v⟩ hy => by
    rcases S.par n (of_mem_zip hy).1 with q | q
    · exact .inl q
    · exact .inr ⟨q, W.cellsFrom_some _ _ _ (.inl q)⟩
  refine codeAny_call_function hr.depth (KX _ _ lk) rfl S.co S.gen rfl (W.codeRec_of KX hcd) (hb _ _ _ _ ?_);refine wpAny_newFunctionEnv_cells S.kind hkind fun env he s1 x => ?_;subst he;refine⟨lim.keeps x.toInCall.keep, codeAny_func ?_⟩;obtain⟨t, ht, hq⟩ := hbody A outer s H vs Q E (hr.deeper _) hsp;have I : Inv (zlh CX P w K mg base N qual scope f cdv A outer s H E) [] (start N vs) H s1 := zky S hr.hd e0 hl r x;refine wpAny_mono (ht [] s1 (start N vs) H _ I hq) (fun fl s' hs => ?_) fun e s' hs => hs;have fin : ∀ {σ' : St} {H' : Hp} {v : V} {u : Value}, Inv (zlh CX P w K mg base N qual scope f cdv A outer s H E) [] σ' H' s' -> RelV v u -> Q v H' -> CE outer P w H s Q u s' :=
    fun {σ' H' v u} J rv q => ⟨v, H', J.os, J.bare, J.base, J.hok, rv, q⟩
  cases fl with
  | ret u =>
    obtain⟨v, σ', H', J, rv, q⟩ := hs;exact fin J rv q
  | next =>
    obtain⟨σ', H', J, q⟩ := hs;exact fin (v := V.non) (u := Value.none) J rfl q
  | brk =>
    obtain⟨_, _, _, q⟩ := hs;exact False.elim q
  | cont =>
    obtain⟨_, _, _, q⟩ := hs;exact False.elim q
end
section
section
variable {X : Cx} {x : Str} {p pos : Pos} {e : Expr} {es : List Expr} {t : TA} {id T : String} {r : List V -> Hp -> VK -> Prop}
def tCB(r : List V -> Hp -> VK -> Prop)(t : TA): TE := fun σ H Q => t σ H fun vs H1 => r vs H1 Q
theorem zo(hc : CallR X (.builtin id) r)(hg : Gl X x)(hm : X.mg x=none)(hv : bootBuiltins x=some (.builtin id))(ha : PA X (e :: es) t)(hn : x ≠ "__name__" := by decide)(hdb : (x == ("__debug__" : Str))=false := by decide)
    (he : starEach (e :: es) X.env=(false, eval e X.env) :: starEach es X.env := by rfl) (hpl : (backTo pos (starEach es X.env)).any (·.1)=false := by rfl) : PE X (.Call (.Name x p) (e :: es) [] pos) (tCB r t) := by
  intro ze s σ H Q I h;refine wpAny_Call_Name_kw (zdJ I hg hm hv ?_ hn hdb);exact PyProof.Rows.callWith_builtin1 (thn (ha pos ze s σ H _ I h) fun us s1 ⟨vs, H1, I1, r1, q1⟩ => hc ze s1 σ H1 vs us Q I1 r1 q1) he hpl
theorem zbO(hc : CallR X (.type T) r)(hg : Gl X x)(hm : X.mg x=none)(hv : bootBuiltins x=some (.type T))(ha : PA X (e :: es) t)(hn : x ≠ "__name__" := by decide)(hdb : (x == ("__debug__" : Str))=false := by decide)
    (he : starEach (e :: es) X.env=(false, eval e X.env) :: starEach es X.env := by rfl) (hpl : (backTo pos (starEach es X.env)).any (·.1)=false := by rfl) : PE X (.Call (.Name x p) (e :: es) [] pos) (tCB r t) := by
  intro ze s σ H Q I h;refine wpAny_Call_Name_kw (zdJ I hg hm hv ?_ hn hdb);exact PyProof.Rows.callWith_type1 (thn (ha pos ze s σ H _ I h) fun us s1 ⟨vs, H1, I1, r1, q1⟩ => hc ze s1 σ H1 vs us Q I1 r1 q1) he hpl
end
end
end L2
namespace HT
open PySem PyProof.Rows
def lexLt: List Int -> List Int -> Bool
  | [], [] => false
  | [], _ :: _ => true
  | _ :: _, [] => false
  | x :: xs, y :: ys => if x=y then lexLt xs ys else decide (x<y)
theorem lexLt_cons(x y : Int)(xs ys : List Int): lexLt (x :: xs) (y :: ys)=if x=y then lexLt xs ys else decide (x<y) := rfl
theorem zf9: lexLt [] []=false := rfl
theorem ze9(y : Int)(ys : List Int): lexLt [] (y :: ys)=true := rfl
theorem ze2(x : Int)(xs : List Int): lexLt (x :: xs) []=false := rfl
theorem zlv(A : Around)(s : Shared)(a : Int)(t : Tok)(c : Int)(u : Tok): ∃ e, SeqAt.EqAt A s (.int a t) (.int c u) e /\ (e=true↔a=c) :=
  ⟨(a == c), SeqAt.EqAt.int_int a t c u, by simp⟩
theorem zls(A : Around)(s : Shared)(a : Int)(t : Tok)(c : Int)(u : Tok)(prog : Program)(w : World)(E : Value -> Shared -> Prop)(Q : Value -> Shared -> Prop)(h : Q (.bool (decide (a<c))) s):
    wpAny (model prog w) A (richCompare .Lt (.int a t) (.int c u)) Q E s :=
  (PyProof.Rows.lt_int h : wpAny (model prog w) A (compareOp .Lt (.int a t) (.int c u)) Q E s)
section
open PySem.SeqAt
open PySem.AutoSeq1 (wpAny_loadPart')
open PySem.MeetsSeq PySem.MeetsSeq2 PySem.MeetsSeq3
theorem zfV(l b : Addr)(items items2 : Array Value)(n n2 : Nat)(dd dd2 : Option Addr)(sl sl2 : Array (Option Value))(ns ms : List Int)(hi : IntsAre items.toList ns)(hj : IntsAre items2.toList ms):
    Meets (Builtin.«tuple.__lt__» ⟨[.ref l, .ref b], []⟩)
      (fun _ R s => s.heap.get? l=some { cls := .type "tuple", dict := dd, data := .seq items n, slots := sl } /\ s.heap.get? b=some { cls := .type "tuple", dict := dd2, data := .seq items2 n2, slots := sl2 } /\
        R (.ok (.ret (.bool (lexLt ns ms)))) s) :=
  .of_wp fun prog w A R s h => by
    obtain⟨hp, g, d, tk, os⟩ := s; obtain⟨hl, hb, h⟩ := h;have f2 := AutoSeq1.sub_tuple_tuple;have z1 : items.size=ns.length := by rw [<- hi.length]; simp
    have z2 : items2.size=ms.length := by rw [<- hj.length]; simp
    wp_walk using wpAny_loadPart' hl, wpAny_loadPart' hb, wpAny_forIn_list _ (fun rest b s' => b.1=none /\ s'=⟨hp, g, d, tk, os⟩ /\ ∃ (vs ws : List Value) (ns' ms' : List Int), rest=vs.zip ws /\
      IntsAre vs ns' /\ IntsAre ws ms' /\ ns'.length+items2.size=ms'.length+items.size /\ R (.ok (.ret (.bool (lexLt ns' ms')))) ⟨hp, g, d, tk, os⟩) _
    case turn =>
      rintro⟨y, x⟩ rest b s' ⟨hb', rfl, vs, ws, ns', ms', hz, hvi, hwi, hlen, hR⟩;cases hvi with
      | nil => rw [List.zip_nil_left] at hz; cases hz
      | cons a t hvi' =>
        cases hwi with
        | nil => rw [List.zip_nil_right] at hz; cases hz
        | cons c u hwi' =>
          rw [zip_cons_cons] at hz;injection hz with hyx hrest
          injection hyx with hy hx
          subst hy hx;rw [lexLt_cons] at hR;simp only [length_cons] at hlen;obtain⟨e, he, hiff⟩ := zlv A.in1 ⟨hp, g, d, tk, os⟩ a t c u;refine wpAny_bind (he prog w _ _ ?_);cases e with
          | true =>
            rw [if_pos (hiff.mp rfl)] at hR
            wp_walk
            exact⟨rfl, rfl, _, _, _, _, hrest, hvi', hwi', by omega, hR⟩
          | false =>
            rw [if_neg (fun q => absurd (hiff.mpr q) Bool.false_ne_true)] at hR;have hri := zls A.in1 ⟨hp, g, d, tk, os⟩ a t c u prog w
            wp_walk using hri
            exact⟨_, rfl, by simpa using hR⟩
    case fin =>
      rintro⟨b1, b2⟩ s' ⟨hb', rfl, vs, ws, ns', ms', hz, hvi, hwi, hlen, hR⟩;simp only at hb';subst hb';have hv : lexLt ns' ms'=decide (items.size<items2.size) := by
        cases hvi with
        | nil =>
          cases hwi with
          | nil =>
            simp only [length_nil] at hlen;rw [zf9];exact(decide_eq_false (by omega)).symm
          | cons c u hw =>
            simp only [length_nil, length_cons] at hlen;rw [ze9];exact(decide_eq_true (by omega)).symm
        | cons a t hv =>
          cases hwi with
          | nil =>
            simp only [length_nil, length_cons] at hlen;rw [ze2];exact(decide_eq_false (by omega)).symm
          | cons c u hw =>
            rw [zip_cons_cons] at hz;cases hz
      rw [hv] at hR
      wp_walk
      exact⟨_, rfl, by simpa [Builtin.Tuple.tupleCompareSizes] using hR⟩
    case h =>
      exact⟨rfl, rfl, items.toList, items2.toList, ns, ms, rfl, hi, hj, by omega, h⟩
end
section
variable {prog : Program} {w : World} {A : Around} {E : Value -> Shared -> Prop} {s : Shared}
theorem lt_tupInts{l b : Addr}{items items2 : Array Value}{ns ms : List Int}{Q : Value -> Shared -> Prop}(hl : IsTup s.heap l items)(hb : IsTup s.heap b items2)(hi : IntsAre items.toList ns)(hj : IntsAre items2.toList ms)
    (hu : A.units<cLine) (h : Q (.bool (lexLt ns ms)) s) : wpAny (model prog w) A (compareOp .Lt (.ref l) (.ref b)) Q E s := by
  obtain⟨⟨cls, dd, data, sl⟩, ho, hc, n, hd⟩ := id hl;obtain⟨⟨cls2, dd2, data2, sl2⟩, ho2, hc2, n2, hd2⟩ := id hb;simp only at hc hd hc2 hd2;subst hc hd hc2 hd2;exact richCompare_meets_room (op := .Lt) ⟨_, ho, rfl⟩ ⟨_, ho2, rfl⟩ PySem.F.slot_tuple_lt PySem.F.entry_tuple_lt (PySem.F.args_tuple_lt_2 _ _) (zfV l b items items2 n n2 dd dd2 sl sl2 ns ms hi hj)
    ⟨ho, ho2, show Value.bool (lexLt ns ms)≠Value.notImplemented /\ Q (.bool (lexLt ns ms)) s from⟨(fun x => nomatch x), h⟩⟩ hu
theorem cat_tup{t b : Addr}{vs ws : List Value}{Q : Value -> Shared -> Prop}(ht : IsTup s.heap t vs.toArray)(hb : IsTup s.heap b ws.toArray)(hv : vs≠[])
    (h1 : ws=[] -> Q (.ref t) s) (h2 : ws≠[] -> Q (.ref s.heap.objs.size) { s with heap := s.heap.push { cls := .type "tuple", data := .seq (vs++ws).toArray } })
    (hsz : vs.length+ws.length<=sizeLine) : wpAny (model prog w) A (binaryOp .Add (.ref t) (.ref b)) Q E s := by
  obtain⟨⟨cls, dd, data, sl⟩, ho, hc, n, hd⟩ := id ht;obtain⟨⟨cls2, dd2, data2, sl2⟩, ho2, hc2, n2, hd2⟩ := id hb;simp only at hc hd hc2 hd2;subst hc hd hc2 hd2;have e : vs.toArray++ws.toArray=(vs++ws).toArray := by simp
  by_cases hw : ws=[]
  · exact concat_meets ⟨_, ho, rfl⟩ ⟨_, ho2, rfl⟩ noFill_tuple_add seq_tuple_add PySem.F.slot_tuple_add PySem.F.entry_tuple_add (PySem.F.args_tuple_add_2 _ _)
      (tuple_addW1 t b vs.toArray ws.toArray n n2 dd dd2 sl sl2 (by simpa using hv) (by simp [hw])) ⟨ho, ho2, h1 hw⟩
  · refine concat_meets ⟨_, ho, rfl⟩ ⟨_, ho2, rfl⟩ noFill_tuple_add seq_tuple_add PySem.F.slot_tuple_add PySem.F.entry_tuple_add (PySem.F.args_tuple_add_2 _ _)
      (tuple_addW2 t b vs.toArray ws.toArray n n2 dd dd2 sl sl2 (by simpa using hv) (by simpa using hw) (by rw [size_toArray, size_toArray]; exact hsz)) ⟨ho, ho2, ?_⟩
    rw [e];exact h2 hw
def sIx(n d : Nat): Option Int -> Nat
  | none => d
  | some v => if v<0 then (v+(n : Int)).toNat else min v.toNat n
theorem sIx_nat(n d k : Nat): sIx n d (some (k : Int))=min k n := by
  show (if (k : Int)<0 then ((k : Int)+(n : Int)).toNat else min (k : Int).toNat n)=min k n;rw [if_neg (by omega), Int.toNat_natCast]
theorem zo9(n d : Nat)(hd : d<=n)(o : Option Int): sIx n d o<=n := by
  cases o with
  | none => exact hd
  | some v =>
    show (if v<0 then (v+(n : Int)).toNat else min v.toNat n)<=n;by_cases hv : v<0
    · rw [if_pos hv]; omega
    · rw [if_neg hv]; exact Nat.min_le_right _ _
theorem zk8(v : Int)(n d : Nat): (if v<0 then max (v+(n : Int)) 0 else min v (n : Int))=((sIx n d (some v) : Nat) : Int) := by
  show (if v<0 then max (v+(n : Int)) 0 else min v (n : Int))=(((if v<0 then (v+(n : Int)).toNat else min v.toNat n) : Nat) : Int);by_cases hv : v<0
  · simp only [if_pos hv]; omega
  · simp only [if_neg hv]; omega
theorem ziM(lo hi : Option Int)(n : Nat): Builtin.Slice.sliceAdjust lo hi 1 (n : Int)=(((sIx n 0 lo : Nat) : Int), ((sIx n n hi : Nat) : Int)) := by
  have h1 : ¬ ((1 : Int)<0) := by omega
  unfold Builtin.Slice.sliceAdjust;simp only [h1, if_false];refine Prod.ext ?_ ?_
  · cases lo with
    | none => rfl
    | some v => exact zk8 v n 0
  · cases hi with
    | none => rfl
    | some v => exact zk8 v n n
theorem ziK(i j : Nat): Builtin.Slice.slicePlaces (i : Int) (j : Int) 1=j - i := by
  unfold Builtin.Slice.slicePlaces;have h1 : (1 : Int)>0 := by omega
  simp only [h1, if_true, Int.ediv_one];split <;> omega
theorem zfv{v : Value}{o : Option Int}{Q : Option Int -> Shared -> Prop}(p : IsPart v o)(h : Q o s): wpAny (model prog w) A (Builtin.Slice.slicePartIndex v) Q E s := by
  cases p with
  | none => exact slicePart_none h
  | int i t => exact slicePart_int h
theorem zd2{sl : Addr}{vl vu : Value}{lo hi : Option Int}{n : Nat}{Q : Int×Int×Nat -> Shared -> Prop}(hs : s.heap.IsSliceOf sl vl vu .none)(pl : IsPart vl lo)(pu : IsPart vu hi)
    (h : Q (((sIx n 0 lo : Nat) : Int), 1, sIx n n hi - sIx n 0 lo) s) : wpAny (model prog w) A (Builtin.Slice.sliceApplied (.ref sl) (pure (n : Int))) Q E s := by
  obtain⟨os, hos, hcs, hds⟩ := id hs;unfold Builtin.Slice.sliceApplied Builtin.Slice.sliceFields;refine wpAny_bind (wpAny_bind (wpAny_field hos hds (x := vl) rfl (wpAny_bind (wpAny_field hos hds (x := vu) rfl (wpAny_bind (wpAny_field hos hds (x := .none) rfl (wpAny_pure ?_)))))));refine wpAny_bind (slicePart_none ?_);show wpAny _ _ (if ((1 : Int) == 0)=true then _ else _) _ _ s;rw [if_neg dz];refine wpAny_bind (zfv pl (wpAny_bind (zfv pu (wpAny_bind (wpAny_pure ?_)))));show wpAny _ _ (match Builtin.Slice.sliceAdjust lo hi 1 (n : Int) with | (lo, hi) => pure (lo, (1 : Int), Builtin.Slice.slicePlaces lo hi 1)) _ _ s;rw [ziM lo hi n];show wpAny _ _ (pure (((sIx n 0 lo : Nat) : Int), (1 : Int), Builtin.Slice.slicePlaces ((sIx n 0 lo : Nat) : Int) ((sIx n n hi : Nat) : Int) 1)) _ _ s;rw [ziK];exact wpAny_pure h
theorem zlO(xs : Array Value)(i k : Nat): ((List.range k).filterMap fun(m : Nat) => xs[((i : Int)+(m : Int)*1).toNat]?).toArray=((xs.toList.drop i).take k).toArray := by
  have e : (fun(m : Nat) => xs[((i : Int)+(m : Int)*1).toNat]?)=fun m => xs[i+m]? := by
    funext m;have : ((i : Int)+(m : Int)*1).toNat=i+m := by omega
    rw [this]
  rw [e];have := pick_run xs i k;rw [List.filterMap_map] at this;have e2 : ((fun x => xs[x]?)∘fun x => i+x)=fun m => xs[i+m]? := rfl;rw [e2] at this;rw [this]
theorem getItem_tuple_cut{t sl : Addr}{items : Array Value}{vl vu : Value}{lo hi : Option Int}{Q : Value -> Shared -> Prop}(ht : IsTup s.heap t items)(hs : s.heap.IsSliceOf sl vl vu .none)(pl : IsPart vl lo)(pu : IsPart vu hi)
    (hw : ¬ (sIx items.size 0 lo=0 /\ sIx items.size items.size hi=items.size))
    (h : Q (.ref s.heap.objs.size) { s with heap := s.heap.push { cls := .type "tuple", data := .seq ((items.toList.drop (sIx items.size 0 lo)).take (sIx items.size items.size hi - sIx items.size 0 lo)).toArray } })
    (hsz : items.size<=sizeLine) : wpAny (model prog w) A (getItem (.ref t) (.ref sl)) Q E s := by
  have htake : sizeOk (.seq ((items.toList.drop (sIx items.size 0 lo)).take (sIx items.size items.size hi - sIx items.size 0 lo)).toArray) := by
    show ((items.toList.drop (sIx items.size 0 lo)).take (sIx items.size items.size hi - sIx items.size 0 lo)).toArray.size<=sizeLine;rw [size_toArray, length_take, length_drop, length_toList];omega
  have hj : sIx items.size items.size hi<=items.size := zo9 _ _ (le_refl _) hi;obtain⟨os, hos, hcs, hds⟩ := id hs;have hTs : s.TypeIs (.ref sl) "slice" := ⟨os, hos, hcs⟩;unfold getItem
  try with_reducible refine wpAny_holding ?_
  first | refine wpAny_bind (wpAny_pure ?_) | skip
  refine wpAny_bind (wpAny_sequenceKey ht.typeIs dz ?_);refine wpAny_bind (wpAny_callSpecial?_slot (name := Str.ofString "__getitem__") ht.typeIs PyProof.Rows.slot_tuple_getitem
    (wpAny_call_entry PyProof.Rows.slot_tuple_getitem ht.typeIs entry_tuple_getitem ?_ (args_tuple_getitem _ _)))
  show wpAny _ _ (Builtin.Tuple.tupleItemsOf (.ref t) >>= _) _ _ s;refine wpAny_bind (tupleItemsOf_ ht ?_);refine wpAny_bind (wpAny_typeOf hTs ?_);rw [if_pos dz];refine wpAny_bind (zd2 hs pl pu ?_);have hno : ¬ ((((sIx items.size 0 lo : Nat) : Int) == 0 && (1 : Int) == 1 && (sIx items.size items.size hi - sIx items.size 0 lo) == items.size)=true) := by
    intro q;rw [Bool.and_eq_true, Bool.and_eq_true] at q;have q1 : ((sIx items.size 0 lo : Nat) : Int)=0 := eq_of_beq q.1.1;have q2 : sIx items.size items.size hi - sIx items.size 0 lo=items.size := eq_of_beq q.2;exact hw ⟨by omega, by omega⟩
  show wpAny _ _ (if (((sIx items.size 0 lo : Nat) : Int) == 0 && (1 : Int) == 1 && (sIx items.size items.size hi - sIx items.size 0 lo) == items.size)=true then _ else _) _ _ s;rw [if_neg hno, zlO]
  first
    | exact wpAny_bind (m := Builtin.Tuple.tupleExact _) (wpAny_newObj_type (wpAny_pure ⟨_, rfl, wpAny_pure h⟩) htake)
    | exact wpAny_bind (m := Builtin.Tuple.tupleExact _) (wpAny_newObj_type (wpAny_bind (wpAny_pure (wpAny_pure ⟨_, rfl, wpAny_pure h⟩))) htake)
    | exact wpAny_bind (wpAny_bind (m := Builtin.Tuple.tupleExact _) (wpAny_newObj_type (wpAny_pure (wpAny_pure ⟨_, rfl, wpAny_pure h⟩)) htake))
    | exact wpAny_bind (wpAny_bind (m := Builtin.Tuple.tupleExact _) (wpAny_newObj_type (wpAny_pure ⟨_, rfl, wpAny_pure h⟩) htake))
end
end HT
namespace L2
open PySem PySem.Spec PyProof.Rows
section
abbrev TO := St -> Hp -> (Option Int -> Hp -> Prop) -> Prop
def PO(X : Cx)(e : Option Expr)(t : TO): Prop :=
  ∀ (ze : List (Addr×Obj)) (s : Shared) (σ : St) (H : Hp) (Q : Option Int -> Hp -> Prop), Inv X ze σ H s -> t σ H Q ->
    wpAny (model X.prog X.w) X.A (evalPart e X.env) (fun u s' => ∃ o H', Inv X ze σ H' s' /\ IsPart u o /\ Q o H') X.xe s
def zjW: TO := fun _ H Q => Q none H
def ziW(t : TE): TO := fun σ H Q => t σ H fun x H1 => ∃ i, x=.int i /\ Q (some i) H1
theorem za6{ns : List Int}: ∀ {us : List Value}, Vals (ns.map V.int) us -> IntsAre us ns := by
  induction ns with
  | nil => intro us r; rw [map_nil] at r; cases r; exact .nil
  | cons n ns ih =>
    intro us r;rw [map_cons] at r;cases r with
    | cons r1 r2 =>
      obtain⟨t, e⟩ := r1;subst e;exact .cons n t (ih r2)
section
variable {X : Cx} {e : Expr} {te : TE} {lo hi : Option Expr} {tl th : TO} {pos p2 : Pos}
theorem zhr: PO X none zjW := by
  intro ze s σ H Q I h;rw [evalPart_none];exact wpAny_pure ⟨none, H, I, .none, h⟩
theorem zeM(h : PE X e te): PO X (some e) (ziW te) := by
  intro ze s σ H Q I hw;rw [evalPart_some];refine thn (h ze s σ H _ I hw) fun u s1 ⟨x, H1, I1, r1, q1⟩ => ?_;obtain⟨i, rfl, q⟩ := q1;obtain⟨t, rfl⟩ := r1;exact⟨some i, H1, I1, .int i t, q⟩
def SlR(X : Cx)(r : V -> Option Int -> Option Int -> Hp -> VK -> Prop): Prop :=
  ∀ (ze : List (Addr×Obj)) (s : Shared) (σ : St) (H : Hp) (x : V) (v vl vu : Value) (lo hi : Option Int) (sl : Addr) (Q : VK), Inv X ze σ H s -> RelV x v -> s.heap.IsSliceOf sl vl vu .none -> IsPart vl lo -> IsPart vu hi -> r x lo hi H Q ->
    ∃ T id, typeLookup (.type T) "__getitem__" = pure (some (.builtin id)) /\ s.TypeIs v T /\ wpAny (model X.prog X.w) X.A (getItem v (.ref sl)) (EP X ze σ Q) X.xe s
theorem SlR.or{r r' : V -> Option Int -> Option Int -> Hp -> VK -> Prop}(h : SlR X r)(h' : SlR X r'): SlR X (fun x lo hi H Q => r x lo hi H Q \/ r' x lo hi H Q) := by
  intro ze s σ H x v vl vu lo hi sl Q I rx hs pl pu q;rcases q with q | q
  · exact h ze s σ H x v vl vu lo hi sl Q I rx hs pl pu q
  · exact h' ze s σ H x v vl vu lo hi sl Q I rx hs pl pu q
def tSl(r : V -> Option Int -> Option Int -> Hp -> VK -> Prop)(te : TE)(tl th : TO): TE := fun σ H Q => te σ H fun x H1 => tl σ H1 fun l H2 => th σ H2 fun u H3 => r x l u H3 Q
theorem zed{r : V -> Option Int -> Option Int -> Hp -> VK -> Prop}(hr : SlR X r)(he : PE X e te)(hl : PO X lo tl)(hu : PO X hi th): PE X (.Subscript e (.Slice lo hi none p2) pos) (tSl r te tl th) := by
  intro ze s σ H Q I h;refine Subscript_ (thn (he ze s σ H _ I h) fun v s1 ⟨x, H1, I1, r1, q1⟩ => ?_);refine wpAny_Slice (thn (hl ze s1 σ H1 _ I1 q1) fun vl s2 ⟨l, H2, I2, pl, q2⟩ => thn (hu ze s2 σ H2 _ I2 q2) fun vu s3 ⟨u, H3, I3, pu, q3⟩ => ?_);rw [evalPart_none];refine wpAny_pure ?_;have I4 : Inv X ze σ H3 { s3 with heap := s3.heap.push { cls := .type "slice", data := .fields #[vl, vu, .none] } } := I3.kept (t' := s3.toks) fun b ob q => get?_push_of_some _ q;obtain⟨T, id, hT, ht, hg⟩ := hr ze { s3 with heap := s3.heap.push { cls := .type "slice", data := .fields #[vl, vu, .none] } } σ H3 x v vl vu l u s3.heap.objs.size Q I4 r1 (Heap.IsSliceOf.new ..) pl pu q3;show wpAny (model X.prog X.w) X.A (subscriptTail e (.Slice lo hi none p2) v (.ref s3.heap.objs.size)) (EP X ze σ Q) X.xe { s3 with heap := s3.heap.push { cls := .type "slice", data := .fields #[vl, vu, .none] } };exact tail_any (ops := [.ref s3.heap.objs.size, v]) ht hT hg (by with_unfolding_all rfl)
def zi3(xs : List V)(lo hi : Option Int): List V := (xs.drop (HT.sIx xs.length 0 lo)).take (HT.sIx xs.length xs.length hi - HT.sIx xs.length 0 lo)
theorem zc5(xs : List V)(lo hi : Option Int): (zi3 xs lo hi).length<=xs.length := by
  unfold zi3;rw [length_take, length_drop];omega
def zqz(K : W.Frag): V -> Option Int -> Option Int -> Hp -> VK -> Prop := fun x lo hi H Q => ∃ a xs, x=.ref a /\ SqT K H a xs /\
  ¬ (HT.sIx xs.length 0 lo=0 /\ HT.sIx xs.length xs.length hi=xs.length) /\ ∀ p, H p=none -> Q (.ref p) (upd H p (.tup (zi3 xs lo hi)))
theorem zpN: SlR X (zqz X.K) := by
  intro ze s σ H x v vl vu lo hi sl Q I rx hs pl pu h;obtain⟨a, xs, rfl, hx, hw, q⟩ := h;cases rx;obtain⟨its, r, ht, hz⟩ := I.tuple hx;have hlen : its.toArray.size=xs.length := by rw [size_toArray]; exact r.length.symm
  refine⟨"tuple", _, PyProof.Rows.slot_tuple_getitem.lookup, ht.typeIs, ?_⟩;refine HT.getItem_tuple_cut ht hs pl pu (by rw [hlen]; exact hw) ?_ (by rw [hlen]; exact hz);rw [hlen];refine⟨.ref s.heap.objs.size, _, I.laid (t' := s.toks) (o := .tup (zi3 xs lo hi)) (fun b ob q => get?_push_of_some _ q) (le_refl _) ?_, rfl, q _ (I.hok.fresh (le_refl _))⟩;exact⟨⟨le_trans (zc5 xs lo hi) hz, _, get?_push_size _ rfl, rfl⟩, _, (r.drop (HT.sIx xs.length 0 lo)).take (HT.sIx xs.length xs.length hi - HT.sIx xs.length 0 lo), IsTup.new _ _⟩
def zn1(K : W.Frag): R2 := fun x y H Q => ∃ a b xs ys, x=.ref a /\ y=.ref b /\ SqT K H a xs /\ SqT K H b ys /\ xs≠[] /\ xs.length+ys.length<=sizeLine /\
  (ys=[] -> Q (.ref a) H) /\ (ys≠[] -> ∀ p, H p=none -> Q (.ref p) (upd H p (.tup (xs++ys))))
theorem Vals.nil_iff{xs : List V}{us : List Value}(r : Vals xs us): us=[]↔xs=[] := by
  cases r with
  | nil => simp
  | cons _ _ => simp
theorem znp: OpR X (binaryOp .Add) (zn1 X.K) := by
  intro ze s σ H x y v u Q I rx ry h;obtain⟨a, b, xs, ys, rfl, rfl, ha, hb, hx, hz, q1, q2⟩ := h;cases rx;cases ry;obtain⟨its, r1, p1, _⟩ := I.tuple ha;obtain⟨its2, r2, p2, _⟩ := I.tuple hb;refine HT.cat_tup p1 p2 (fun z => hx (r1.nil_iff.mp z)) (fun z => ⟨.ref a, H, I, rfl, q1 (r2.nil_iff.mp z)⟩) (fun z => ?_) (by rw [<- r1.length, <- r2.length]; exact hz);refine⟨.ref s.heap.objs.size, _, I.laid (t' := s.toks) (o := .tup (xs++ys)) (fun b ob q => get?_push_of_some _ q) (le_refl _) ?_, rfl, q2 (fun w => z (r2.nil_iff.mpr w)) _ (I.hok.fresh (le_refl _))⟩;exact⟨⟨by rw [length_append]; exact hz, _, get?_push_size _ rfl, rfl⟩, _, r1.append r2, IsTup.new _ _⟩
end
end
section
def ixN(n : Nat)(i : Int): Option Nat := if 0<=i then (if i<n then some i.toNat else none) else if -(n : Int)<=i then some (i+n).toNat else none
def atI{α : Type}(xs : List α)(i : Int): Option α := (ixN xs.length i).bind fun j => xs[j]?
theorem zkW{n : Nat}{i : Int}{j : Nat}(h : ixN n i=some j): seqIndex? i n=some j /\ j<n /\ -(n : Int)<=i /\ i<n := by
  unfold ixN at h;by_cases h0 : 0<=i
  · rw [if_pos h0] at h
    by_cases h1 : i<n
    · rw [if_pos h1] at h
      have e : i.toNat=j := Option.some.inj h;exact⟨by rw [seqIndex_of h0 h1, e], by omega, by omega, h1⟩
    · rw [if_neg h1] at h; cases h
  · rw [if_neg h0] at h
    by_cases h1 : -(n : Int)<=i
    · rw [if_pos h1] at h
      have e : (i+n).toNat=j := Option.some.inj h;exact⟨by rw [seqIndex_neg (by omega) h1, e], by omega, h1, by omega⟩
    · rw [if_neg h1] at h; cases h
theorem zhu{α : Type}{xs : List α}{i : Int}{v : α}(h : atI xs i=some v): ∃ j, seqIndex? i xs.length=some j /\ xs[j]? = some v /\ j<xs.length /\ -(xs.length : Int)<=i /\ i<xs.length := by
  unfold atI at h;cases e : ixN xs.length i with
  | none => rw [e] at h; cases h
  | some j =>
    rw [e] at h;obtain⟨h1, h2, h3, h4⟩ := zkW e;exact⟨j, h1, h, h2, h3, h4⟩
theorem zcX{α : Type}{xs : List α}{j : Nat}{v : α}(h : xs[j]? = some v): atI xs (j : Int)=some v := by
  have hj : j<xs.length := (List.getElem?_eq_some_iff.mp h).1;have e : ixN xs.length (j : Int)=some j := by
    unfold ixN;rw [if_pos (by omega), if_pos (by omega)]; simp
  unfold atI; rw [e]; exact h
def PlainIx(b : Expr): Prop := ∀ o i, subscripted b false o i=operate [o, i] (getItem o i)
def IxR(X : Cx)(r : R2): Prop :=
  ∀ (value slice : Expr) (ze : List (Addr×Obj)) (s : Shared) (σ : St) (H : Hp) (x y : V) (v u : Value) (Q : VK), Inv X ze σ H s -> RelV x v -> RelV y u -> r x y H Q ->
    subscripted slice false v u=operate [v, u] (getItem v u) -> wpAny (model X.prog X.w) X.A (subscriptTail value slice v u) (EP X ze σ Q) X.xe s
def MtR(X : Cx)(id : String)(r : V -> List V -> Hp -> VK -> Prop): Prop :=
  ∀ (ze : List (Addr×Obj)) (s : Shared) (σ : St) (H : Hp) (x : V) (xs : List V) (v : Value) (us : List Value) (Q : VK), Inv X ze σ H s -> RelV x v -> Vals xs us -> r x xs H Q ->
    wpAny (model X.prog X.w) X.A (call (.builtin id) (v :: us)) (EP X ze σ Q) X.xe s
section
variable {X : Cx} {a b : Expr} {ta tb : TE} {pos : Pos}
theorem IxR.or{r r' : R2}(h : IxR X r)(h' : IxR X r'): IxR X (fun x y H Q => r x y H Q \/ r' x y H Q) := by
  intro value slice ze s σ H x y v u Q I rx ry q hs;rcases q with q | q
  · exact h value slice ze s σ H x y v u Q I rx ry q hs
  · exact h' value slice ze s σ H x y v u Q I rx ry q hs
theorem zM{r : R2}(hr : IxR X r)(ha : PE X a ta)(hb : PE X b tb)(hs : PlainIx b): PE X (.Subscript a b pos) (tOp r ta tb) := by
  intro ze s σ H Q I h;exact Subscript_ (zqN ha hb I h fun v u s2 x y H2 I2 rx ry q => hr a b ze s2 σ H2 x y v u Q I2 rx ry q (hs _ _))
def zqx(K : W.Frag): R2 := fun x y H Q => ∃ p xs i v, x=.ref p /\ y=.int i /\ SqL K H p xs /\ atI xs i=some v /\ Q v H
def zqF(K : W.Frag): R2 := fun x y H Q => ∃ p xs i v, x=.ref p /\ y=.int i /\ SqT K H p xs /\ atI xs i=some v /\ Q v H
def zqU: R2 := fun x y H Q => ∃ z i c, x=.str z /\ y=.int i /\ z.length<=sizeLine /\ atI z.cps.toList i=some c /\ Q (.str ⟨#[c]⟩) H
theorem zjN: IxR X (zqx X.K) := by
  intro value slice ze s σ H x y v u Q I rx ry h hs;obtain⟨p, xs, i, z, rfl, rfl, hq, he, q⟩ := h;cases rx;obtain⟨t, rfl⟩ := ry;obtain⟨its, r, pl, hz⟩ := I.list hq;obtain⟨j, h1, h2, h3, h4, h5⟩ := zhu he;obtain⟨w, ew, rw'⟩ := r.get h2;have hl := r.length;have hn := line63;have fin : EP X ze σ Q w s := ⟨z, H, I, rw', q⟩;by_cases h0 : 0<=i
  · have hj : i.toNat=j := by
      rw [seqIndex_of h0 h5] at h1;exact Option.some.inj h1
    exact item_listR pl.isList h0 (by omega) (by rw [hj]; simpa using ew) fin hs
  · have hj : (i+(its.toArray.size : Int)).toNat=j := by
      rw [seqIndex_neg (by omega) h4] at h1;rw [size_toArray, <- hl];exact Option.some.inj h1
    exact subscriptTail_builtinR (x := w) pl.isList.typeIs slot_list_getitem.lookup
      (wpAny_getItem_list_neg (Q := fun r s' => r=w /\ EP X ze σ Q r s') pl.isList (by omega) (by rw [size_toArray] <;> omega) (by omega) (by rw [hj]; simpa using ew) ⟨rfl, fin⟩) hs
theorem zpq: IxR X (zqF X.K) := by
  intro value slice ze s σ H x y v u Q I rx ry h hs;obtain⟨p, xs, i, z, rfl, rfl, hq, he, q⟩ := h;cases rx;obtain⟨t, rfl⟩ := ry;obtain⟨its, r, pl, hz⟩ := I.tuple hq;obtain⟨j, h1, h2, h3, h4, h5⟩ := zhu he;obtain⟨w, ew, rw'⟩ := r.get h2;have hl := r.length;have hn := line63;have fin : EP X ze σ Q w s := ⟨z, H, I, rw', q⟩;exact subscriptTail_builtinR (x := w) pl.typeIs slot_tuple_getitem.lookup
    (getItem_tuple (j := j) (Q := fun r s' => r=w /\ EP X ze σ Q r s') pl (by omega) (by omega) (by rw [size_toArray, <- hl]; exact h1) (by simpa using ew) ⟨rfl, fin⟩) hs
theorem zo2: IxR X zqU := by
  intro value slice ze s σ H x y v u Q I rx ry h hs;obtain⟨z, i, c, rfl, rfl, hz, he, q⟩ := h;obtain⟨t, rfl⟩ := rx;obtain⟨t', rfl⟩ := ry;obtain⟨j, h1, h2, h3, h4, h5⟩ := zhu he;have hl : z.cps.toList.length=z.length := by simp [Str.length]
  rw [hl] at h1 h4 h5;have hn := line63;exact tail_any (typeIs_str s z t) slot_str_getitem.lookup (getItem_str (c := c) (by
    have e1 : decide (i < -(2 ^ 63 : Int))=false := decide_eq_false (by omega);have e2 : decide (i≥2 ^ 63)=false := decide_eq_false (by omega);rw [e1, e2, Bool.or_false]) (by rw [h1]; simpa using h2) ⟨.str ⟨#[c]⟩, H, I.tok _, ⟨_, rfl⟩, q⟩) hs
def rIx(K : W.Frag): R2 := fun x y H Q => zqx K x y H Q \/ zqF K x y H Q \/ zqU x y H Q
theorem zu: IxR X (rIx X.K) := zjN.or (zpq.or zo2)
theorem ziE(its : List Value)(n j : Nat)(u : Value): Obj.mapSeq (·.setIfInBounds j u) { cls := .type "list", data := .seq its.toArray n } = { cls := .type "list", data := .seq (its.set j u).toArray n } := by
  simp [Obj.mapSeq]
theorem Inv.lst{ze : List (Addr×Obj)}{σ : St}{H : Hp}{s : Shared}{p : Addr}{xs : List V}(I : Inv X ze σ H s)(h : H p=some (.lst xs)):
    ∃ (its : List Value) (n : Nat), Vals xs its /\ s.heap.get? p=some { cls := .type "list", data := .seq its.toArray n } /\ xs.length<=sizeLine := by
  obtain⟨z, its, n, r, e⟩ := I.hok p _ h;exact⟨its, n, r, e, z⟩
theorem Inv.lstUpd{ze : List (Addr×Obj)}{σ : St}{H : Hp}{s : Shared}{p : Addr}{xs ys : List V}{its its' : List Value}{n n' : Nat}{f : Obj -> Obj}(I : Inv X ze σ H s)(h : H p=some (.lst xs))
    (ho : s.heap.get? p=some { cls := .type "list", data := .seq its.toArray n }) (hf : f { cls := .type "list", data := .seq its.toArray n } = { cls := .type "list", data := .seq its'.toArray n' }) (r : Vals ys its') (hz : ys.length<=sizeLine) (t : Nat) :
    Inv X ze σ (upd H p (.lst ys)) { s with heap := s.heap.update p f, toks := t } := by
  have e : (s.heap.update p f).get? p=some { cls := .type "list", data := .seq its'.toArray n' } := by
    rw [get?_update_self f ho (by rw [hf] <;> rfl), hf]
  refine I.write (x := p) (e := p) (by rw [h]; trivial) (.inl rfl) (fun b u hb q => (get?_update_other _ _ (Ne.symm hb)).trans q) ⟨_, e⟩ ?_;exact⟨hz, its', n', r, e⟩
def zpY: V -> V -> V -> Hp -> (Hp -> Prop) -> Prop := fun o i v H Q => ∃ p xs k j, o=.ref p /\ i=.int k /\ H p=some (.lst xs) /\ ixN xs.length k=some j /\ Q (upd H p (.lst (xs.set j v)))
theorem zh5: PSet X zpY := by
  intro ze s σ H o i v ov iv u Q I ro ri rv h;obtain⟨p, xs, k, j, rfl, rfl, hp, hj, q⟩ := h;cases ro;obtain⟨t, rfl⟩ := ri;obtain⟨its, n, r, ho, hz⟩ := I.lst hp;obtain⟨h1, h2, h3, h4⟩ := zkW hj;have hl := r.length;have hn := line63;have I' : Inv X ze σ (upd H p (.lst (xs.set j v))) { s with heap := s.heap.update p (Obj.mapSeq (·.setIfInBounds j u)) } :=
    I.lstUpd hp ho (ziE its n j u) (r.set rv j) (by rw [length_set]; exact hz) s.toks
  by_cases h0 : 0<=k
  · have hk : k.toNat=j := by
      rw [seqIndex_of h0 h4] at h1;exact Option.some.inj h1
    exact W.ki_setAt ho h0 (by omega) (by rw [size_toArray, <- hl]; exact h4) (by rw [hk]; exact⟨_, I', q⟩)
  · have hk : (k+(its.toArray.size : Int)).toNat=j := by
      rw [seqIndex_neg (by omega) h3] at h1;rw [size_toArray, <- hl];exact Option.some.inj h1
    exact W.ki_setBack ho (by omega) (by rw [size_toArray, <- hl]; exact h3) (by omega) (by rw [hk]; exact⟨_, I', q⟩)
theorem zgH(lo hi : Option Int)(n : Nat): (sliceBounds lo hi none n).1=((HT.sIx n 0 lo : Nat) : Int) /\ (sliceBounds lo hi none n).2.1=((HT.sIx n n hi : Nat) : Int) /\ (sliceBounds lo hi none n).2.2=1 := by
  refine⟨?_, ?_, rfl⟩
  · cases lo with
    | none => simp [sliceBounds, HT.sIx]
    | some i =>
      simp only [sliceBounds, HT.sIx, Option.getD_none, show (1 : Int)>0 by decide, if_true];by_cases h : i<0
      · simp only [h, if_true] <;> omega
      · simp only [h, if_false] <;> omega
  · cases hi with
    | none => simp [sliceBounds, HT.sIx]
    | some i =>
      simp only [sliceBounds, HT.sIx, Option.getD_none, show (1 : Int)>0 by decide, if_true];by_cases h : i<0
      · simp only [h, if_true] <;> omega
      · simp only [h, if_false] <;> omega
theorem zfE(its : List Value)(lo hi : Option Int): slicePick its.toArray lo hi none=((its.drop (HT.sIx its.length 0 lo)).take (HT.sIx its.length its.length hi - HT.sIx its.length 0 lo)).toArray := by
  obtain⟨h1, h2, h3⟩ := zgH lo hi its.toArray.size;unfold slicePick;rw [h1, h2, h3];simp only [sliceRange_one, pick_run, size_toArray] <;> rfl
def zou(K : W.Frag): V -> Option Int -> Option Int -> Hp -> VK -> Prop := fun x lo hi H Q => ∃ a xs, x=.ref a /\ SqL K H a xs /\ ∀ p, H p=none -> Q (.ref p) (upd H p (.lst (zi3 xs lo hi)))
theorem zkH: SlR X (zou X.K) := by
  intro ze s σ H x v vl vu lo hi sl Q I rx hs pl pu h;obtain⟨a, xs, rfl, hx, q⟩ := h;cases rx;obtain⟨its, r, ht, hz⟩ := I.list hx;have hlen := r.length;refine⟨"list", _, slot_list_getitem.lookup, ht.isList.typeIs, ?_⟩;refine wpAny_getItem_list_slice ht.isList hs pl pu .none (by simp) ?_ (by rw [size_toArray] <;> omega);rw [zfE, <- hlen];refine⟨.ref s.heap.objs.size, _, I.laid (t' := s.toks) (o := .lst (zi3 xs lo hi)) (fun b ob q => get?_push_of_some _ q) (le_refl _) ?_, rfl, q _ (I.hok.fresh (le_refl _))⟩;exact⟨le_trans (zc5 xs lo hi) hz, _, 0, (r.drop (HT.sIx xs.length 0 lo)).take (HT.sIx xs.length xs.length hi - HT.sIx xs.length 0 lo), get?_push_size _ rfl⟩
theorem zdP: CallR X (.builtin "len") (fun xs H Q => ∃ p ys, xs=[.ref p] /\ (SqL X.K H p ys \/ SqT X.K H p ys) /\ Q (.int ys.length) H) := by
  intro ze s σ H xs us Q I r h;obtain⟨p, ys, rfl, hq, q⟩ := h;obtain⟨u, rfl, rx⟩ := vals1 r;cases rx;have hn := line63;rcases hq with hq | hq
  · obtain⟨its, r', pl, hz⟩ := I.list hq
    have hlen := r'.length;exact Calls.call_len_list pl.isList (by simp only [size_toArray] <;> omega) ⟨.int ys.length, H, I.tok _, ⟨s.toks+1, by rw [size_toArray, hlen]⟩, q⟩
  · obtain⟨its, r', pl, hz⟩ := I.tuple hq
    have hlen := r'.length;exact len_tuple pl (by simp only [size_toArray] <;> omega) ⟨.int ys.length, H, I.tok _, ⟨s.toks+1, by rw [size_toArray, hlen]⟩, q⟩
theorem zgZ: CallR X (.builtin "len") (fun xs H Q => ∃ z, xs=[.str z] /\ z.length<=sizeLine /\ Q (.int z.length) H) := by
  intro ze s σ H xs us Q I r h;obtain⟨z, rfl, hz, q⟩ := h;obtain⟨u, rfl, t, rfl⟩ := vals1 r;have hn := line63;exact len_str (by omega) ⟨.int z.length, H, I.tok _, ⟨_, rfl⟩, q⟩
theorem CallR.or{f : Value}{r r' : List V -> Hp -> VK -> Prop}(h : CallR X f r)(h' : CallR X f r'): CallR X f (fun xs H Q => r xs H Q \/ r' xs H Q) := by
  intro ze s σ H xs us Q I rs q;rcases q with q | q
  · exact h ze s σ H xs us Q I rs q
  · exact h' ze s σ H xs us Q I rs q
theorem zhh: CallR X (.type "list") (fun xs H Q => ∃ p ys, xs=[.ref p] /\ (SqL X.K H p ys \/ SqT X.K H p ys) /\ ∀ l, H l=none -> Q (.ref l) (upd H l (.lst ys))) := by
  intro ze s σ H xs us Q I r h;obtain⟨p, ys, rfl, hq, q⟩ := h;obtain⟨u, rfl, rx⟩ := vals1 r;cases rx;have fin : ∀ (its : List Value), Vals ys its -> ys.length<=sizeLine -> ∀ (h' : Heap) (c' : Nat), (∀ b o', s.heap.get? b=some o' -> h'.get? b=some o') ->
      h'.get? s.heap.objs.size=some { cls := .type "list", dict := none, data := .seq its.toArray c', slots := #[] } -> EP X ze σ Q (.ref s.heap.objs.size) { s with heap := h' } := fun its r' hz h' c' kp e =>
    ⟨.ref s.heap.objs.size, _, I.laid (t' := s.toks) kp (le_refl _) (show ObjOk X.prog X.w _ h' _ (.lst ys) from⟨hz, its, c', r', e⟩), rfl, q _ (I.hok.fresh (le_refl _))⟩
  rcases hq with hq | hq
  · obtain⟨its, r', pl, hz⟩ := I.list hq
    have hlen := r'.length;obtain⟨o, ho, hc, n, hd⟩ := pl.isList;exact call_list_seq p (.inl rfl) ho hc hd (fun h' c' kp e => fin its r' hz h' c' kp e) (by simp only [size_toArray] <;> omega)
  · obtain⟨its, r', pl, hz⟩ := I.tuple hq
    have hlen := r'.length;obtain⟨o, ho, hc, n, hd⟩ := pl;exact call_list_seq p (.inr rfl) ho hc hd (fun h' c' kp e => fin its r' hz h' c' kp e) (by simp only [size_toArray] <;> omega)
theorem zbo: CallR X (.type "tuple") (fun xs H Q => ∃ p ys, xs=[.ref p] /\ ((SqL X.K H p ys /\ ∀ l, H l=none -> Q (.ref l) (upd H l (.tup ys))) \/ (SqT X.K H p ys /\ Q (.ref p) H))) := by
  intro ze s σ H xs us Q I r h;obtain⟨p, ys, rfl, h⟩ := h;obtain⟨u, rfl, rx⟩ := vals1 r;cases rx;rcases h with ⟨hq, q⟩ | ⟨hq, q⟩
  · obtain⟨its, r', pl, hz⟩ := I.list hq
    have hlen := r'.length;refine call_tuple_list pl.isList (fun h' kp => ?_) (by simp only [size_toArray] <;> omega);have I1 : Inv X ze σ H { s with heap := h' } := I.kept (t' := s.toks) kp;have I2 : Inv X ze σ (upd H h'.objs.size (.tup ys)) { s with heap := h'.push { cls := .type "tuple", data := .seq its.toArray } } :=
      I1.laid (t' := s.toks) (fun b o e => get?_push_of_some _ e) (le_refl _) (show ObjOk X.prog X.w _ _ _ (.tup ys) from⟨⟨hz, _, get?_push_size _ rfl, rfl⟩, its, r', IsTup.new _ _⟩)
    exact⟨.ref h'.objs.size, _, I2, rfl, q _ (I1.hok.fresh (le_refl _))⟩
  · obtain⟨its, r', pl, hz⟩ := I.tuple hq
    exact call_tuple_same pl ⟨.ref p, H, I, rfl, q⟩
def tyV(K : W.Frag)(T : String)(x : V)(H : Hp): Prop := match x with
  | .str _ => T = "str"
  | .int _ => T = "int"
  | .ref p => (T = "list" /\ ∃ xs, SqL K H p xs) \/ (T = "tuple" /\ ∃ o, K.lookup p=some o /\ o.cls=.type "tuple" /\ o.dict=none) \/
      (T = "dict" /\ ((∃ kvs, H p=some (.dK kvs)) \/ ∃ kvs, H p=some (.dT kvs))) \/ (T = "set" /\ ∃ S n, H p=some (.set S n))
  | _ => False
theorem zmT{ze : List (Addr×Obj)}{σ : St}{H : Hp}{s : Shared}{T : String}{x : V}{v : Value}(I : Inv X ze σ H s)(r : RelV x v)(ty : tyV X.K T x H):
    s.TypeIs v T /\ ∀ a, v=.ref a -> ∃ ob, s.heap.get? a=some ob /\ ob.dict=none := by
  cases x with
  | str z =>
    obtain⟨t, rfl⟩ := r;cases (show T = "str" from ty);exact⟨typeIs_str s z t, fun _ e => nomatch e⟩
  | int i =>
    obtain⟨t, rfl⟩ := r;cases (show T = "int" from ty);exact⟨typeIs_int s i t, fun _ e => nomatch e⟩
  | ref p =>
    cases r;rcases ty with ⟨rfl, xs, hq⟩ | ⟨rfl, o, hk, hc, hd⟩ | ⟨rfl, hk⟩ | ⟨rfl, S, n, hk⟩
    · obtain⟨its, _, pl, _⟩ := I.list hq
      refine⟨pl.isList.typeIs, fun a e => ?_⟩;cases e;obtain⟨o, n, e, c, hd, _⟩ := pl;exact⟨o, e, hd⟩
    · refine⟨⟨o, I.kIn p o hk, hc⟩, fun a e => ?_⟩
      cases e;exact⟨o, I.kIn _ o hk, hd⟩
    · have z : ∃ o, s.heap.get? p=some o /\ o.ExactDict := by
        rcases hk with ⟨kvs, hk⟩ | ⟨kvs, hk⟩
        · obtain⟨_, _, _, _, o, _, _, e, ex, _⟩ := I.hok p _ hk
          exact⟨o, e, ex⟩
        · obtain⟨_, _, _, _, o, _, _, e, ex, _⟩ := I.hok p _ hk
          exact⟨o, e, ex⟩
      obtain⟨o, e, ex⟩ := z;refine⟨⟨o, e, ex.1⟩, fun a e2 => ?_⟩;cases e2;exact⟨o, e, ex.2.1⟩
    · obtain⟨o, _, _, _, e, ex, _⟩ := I.hok p _ hk
      refine⟨⟨o, e, ex.1⟩, fun a e2 => ?_⟩;cases e2;exact⟨o, e, ex.2.1⟩
  | _ => exact False.elim ty
def zrk(K : W.Frag)(T : String)(r : V -> List V -> Hp -> VK -> Prop)(to : TE): TE := fun σ H Q => to σ H fun x H1 => tyV K T x H1 /\ r x [] H1 Q
def tBM(K : W.Frag)(T : String)(r : V -> List V -> Hp -> VK -> Prop)(to : TE)(t : TA): TE := fun σ H Q => to σ H fun x H1 => tyV K T x H1 /\ t σ H1 fun xs H2 => r x xs H2 Q
variable {o e : Expr} {es : List Expr} {to : TE} {t : TA} {name : Str} {apos cpos : Pos} {T id : String} {r : V -> List V -> Hp -> VK -> Prop}
theorem zpl(pa : PlainAttrs T)(slot : Slot T name id)(hty : typeOf (.builtin id)=pure (.type "method_descriptor"))(hm : MtR X id r)(ho : PE X o to)
    (hbase : attributeBase o name X.env (eval o X.env)=eval o X.env := by rfl) (hline : (apos.endLine == cpos.line)=true := by rfl) : PE X (.Call (.Attribute o name apos) [] [] cpos) (zrk X.K T r to) := by
  intro ze s σ H Q I h;refine wpAny_Call_method0_late hbase hline (thn (ho ze s σ H _ I h) fun v s1 ⟨x, H1, I1, r1, ty, q1⟩ => ?_);obtain⟨h1, h2⟩ := zmT I1 r1 ty;exact⟨T, id, pa, slot, hty, h1, h2, Calls.callWith_builtin rfl (PySem.evalArgs_none (hm ze s1 σ H1 x [] v [] Q I1 r1 .nil q1))⟩
theorem zhQ(pa : PlainAttrs T)(slot : Slot T name id)(hty : typeOf (.builtin id)=pure (.type "method_descriptor"))(hm : MtR X id r)(ho : PE X o to)(ha : PA X (e :: es) t)
    (hbase : attributeBase o name X.env (eval o X.env)=eval o X.env := by rfl)
    (hfew : ((backTo cpos (starEach (e :: es) X.env)).all (fun x => !x.1) && (backToKw cpos (keywordEach [] X.env)).all (fun x => x.1.isSome)
      && decide ((e :: es).length+([] : List Keyword).length+(if ([] : List Keyword).isEmpty then 0 else 1)<30))=true := by rfl)
    (hline : (apos.endLine == cpos.line)=true := by rfl) (hs : starEach (e :: es) X.env=(false, eval e X.env) :: starEach es X.env := by rfl) (hplain : (backTo cpos (starEach es X.env)).any (·.1)=false := by rfl) :
    PE X (.Call (.Attribute o name apos) (e :: es) [] cpos) (tBM X.K T r to t) := by
  intro ze s σ H Q I h;refine wpAny_Call_method_late hbase hfew hline rfl (thn (ho ze s σ H _ I h) fun v s1 ⟨x, H1, I1, r1, ty, q1⟩ => ?_);obtain⟨h1, h2⟩ := zmT I1 r1 ty;refine⟨T, id, pa, slot, hty, h1, h2, ?_⟩;have hA := ha cpos ze s1 σ H1 _ I1 q1;rw [hs] at hA ⊢;refine Calls.callWith_builtin (by show (false || (backTo cpos (starEach es X.env)).any (·.1))=false; rw [hplain] <;> rfl) (Calls.evalArgs_plain ?_);exact thn hA fun us s2 ⟨vs, H2, I2, r2, q2⟩ => hm ze s2 σ H2 x vs v us Q I2 r1 r2 q2
end
end
section
def MtM(X : Cx)(id : String)(r : V -> List V -> Hp -> VK -> Prop): Prop :=
  ∀ (ze : List (Addr×Obj)) (s : Shared) (σ : St) (H : Hp) (x : V) (xs : List V) (v : Value) (us : List Value) (Q : VK), Inv X ze σ H s -> RelV x v -> Vals xs us -> r x xs H Q ->
    wpAny (model X.prog X.w) X.A (call (.builtin id) (v :: us)) (EP X ze σ Q) X.xe s
theorem Vals.one: ∀ {x : V} {us : List Value}, Vals [x] us -> ∃ u, us=[u] /\ RelV x u
  | _, _, .cons r .nil => ⟨_, rfl, r⟩
theorem Vals.zero: ∀ {us : List Value}, Vals [] us -> us=[]
  | _, .nil => rfl
theorem Vals.reverse{xs : List V}{us : List Value}(h : Vals xs us): Vals xs.reverse us.reverse := by
  induction h with
  | nil => exact .nil
  | cons r t ih => rw [reverse_cons, reverse_cons]; exact Vals.append ih (.cons r .nil)
theorem Vals.rep{xs : List V}{us : List Value}(h : Vals xs us): ∀ k : Nat, Vals (List.replicate k xs).flatten (List.replicate k us).flatten
  | 0 => .nil
  | k+1 => by
    rw [replicate_succ, replicate_succ, flatten_cons, flatten_cons];exact Vals.append h (Vals.rep h k)
theorem zg9(its : List Value): ∀ (k : Nat) (acc : List Value),
    List.foldl (fun x1 x2 => x1++x2) acc.toArray (List.replicate k its.toArray)=(acc++(List.replicate k its).flatten).toArray
  | 0, acc => by simp
  | k+1, acc => by
    have e : acc.toArray++its.toArray=(acc++its).toArray := by simp
    have e2 : (acc++its)++(List.replicate k its).flatten=acc++(List.replicate (k+1) its).flatten := by
      rw [replicate_succ, flatten_cons, append_assoc]
    rw [<- e2, <- zg9 its k (acc++its), <- e, replicate_succ, foldl_cons]
section
variable {X : Cx} {ze : List (Addr×Obj)} {σ : St} {H : Hp} {s : Shared} {l b : Addr} {xs ys zs : List V}
theorem Inv.lset{its its' : List Value}{n : Nat}{f : Array Value -> Array Value}{t' : Nat}(I : Inv X ze σ H s)(hH : H l=some (.lst xs))
    (e : s.heap.get? l=some { cls := .type "list", data := .seq its.toArray n }) (hf : f its.toArray=its'.toArray) (hv : Vals ys its') (hz : ys.length<=sizeLine) :
    Inv X ze σ (upd H l (.lst ys)) { s with heap := s.heap.update l (Obj.mapSeq f), toks := t' } := by
  have q := PySem.IsL.update e f;rw [hf] at q;refine I.write (x := l) (e := l) (by rw [hH]; exact trivial) (.inl rfl) (fun b' u hb hu => (get?_update_other s.heap (Obj.mapSeq f) (Ne.symm hb)).trans hu) ⟨_, q⟩ ?_;exact⟨hz, its', _, hv, q⟩
theorem Inv.lnew{its : List Value}{t' : Nat}(I : Inv X ze σ H s)(hv : Vals ys its)(hz : ys.length<=sizeLine):
    Inv X ze σ (upd H s.heap.objs.size (.lst ys)) { s with heap := s.heap.push { cls := .type "list", data := .seq its.toArray }, toks := t' } :=
  I.laid (fun _ _ q => get?_push_of_some _ q) (le_refl _) ⟨hz, its, 0, hv, get?_push_size _ rfl⟩
theorem Inv.fresh(I : Inv X ze σ H s): H s.heap.objs.size=none := I.hok.fresh (le_refl _)
theorem Inv.lstM(I : Inv X ze σ H s)(hH : H l=some (.lst xs)): xs.length<=sizeLine /\ ∃ (its : List Value) (n : Nat), Vals xs its /\ xs.length=its.length /\ s.heap.get? l=some { cls := .type "list", data := .seq its.toArray n } := by
  obtain⟨z, its, n, r, e⟩ := I.hok l _ hH;exact⟨z, its, n, r, r.length, e⟩
theorem zh8{n : Nat}(h : n<=sizeLine): Builtin.List.listTooLong n=false := by
  unfold Builtin.List.listTooLong;exact decide_eq_false (by omega)
end
section
variable {X : Cx}
def zkj: V -> List V -> Hp -> VK -> Prop := fun x vs H Q => ∃ l xs y, x=.ref l /\ vs=[y] /\ H l=some (.lst xs) /\ xs.length<sizeLine /\ Q .non (upd H l (.lst (xs++[y])))
theorem zch: MtM X "list.append" zkj := by
  intro ze s σ H x vs v us Q I rx rv h;obtain⟨l, xs, y, rfl, rfl, hH, hz, q⟩ := h;cases rx;obtain⟨u, rfl, ru⟩ := rv.one;obtain⟨z, its, n, r, hl, e⟩ := I.lstM hH;refine call_meets F.slot_list_append ⟨_, e, rfl⟩ F.entry_list_append (F.args_list_append_2 _ _) (PySem.list_append l its.toArray n u (by rw [size_toArray]; omega)) ⟨e, ?_⟩;refine⟨.non, _, I.lset (its' := its++[u]) hH e (by simp) (r.append (.cons ru .nil)) ?_, rfl, q⟩;rw [length_append, length_singleton];omega
def zkY: V -> List V -> Hp -> VK -> Prop := fun x vs H Q => ∃ l b xs zs, x=.ref l /\ vs=[.ref b] /\ H l=some (.lst xs) /\ H b=some (.lst zs) /\ xs.length+zs.length<=sizeLine /\ Q .non (upd H l (.lst (xs++zs)))
theorem zgX: MtM X "list.extend" zkY := by
  intro ze s σ H x vs v us Q I rx rv h;obtain⟨l, b, xs, zs, rfl, rfl, hH, hB, hz, q⟩ := h;cases rx;obtain⟨u, rfl, ru⟩ := rv.one;cases ru;obtain⟨z, its, n, r, hl, e⟩ := I.lstM hH;obtain⟨z2, its2, n2, r2, hl2, e2⟩ := I.lstM hB;have hsz : its.toArray.size+its2.toArray.size<=sizeLine := by rw [size_toArray, size_toArray]; omega
  have hlong : ¬ (!its.toArray.isEmpty && Builtin.List.listTooLong (its.toArray.size+its2.toArray.size))=true := by
    rw [zh8 hsz, Bool.and_false];exact Bool.false_ne_true
  refine call_meets F.slot_list_extend ⟨_, e, rfl⟩ F.entry_list_extend (F.args_list_extend_2 _ _)
    (AutoSeq1.list_extend_list_list_0 l its.toArray n b its2.toArray n2 hlong (by rw [size_toArray]; omega) (by omega)) ⟨e, e2, ?_⟩
  refine⟨.non, _, I.lset (its' := its++its2) hH e (by simp) (r.append r2) ?_, rfl, q⟩;rw [length_append];omega
def ziu: V -> List V -> Hp -> VK -> Prop := fun x vs H Q => ∃ l xs, x=.ref l /\ vs=[] /\ H l=some (.lst xs) /\ Q .non (upd H l (.lst xs.reverse))
theorem zji: MtM X "list.reverse" ziu := by
  intro ze s σ H x vs v us Q I rx rv h;obtain⟨l, xs, rfl, rfl, hH, q⟩ := h;cases rx;have hus := rv.zero;subst hus;obtain⟨z, its, n, r, hl, e⟩ := I.lstM hH;refine call_meets F.slot_list_reverse ⟨_, e, rfl⟩ F.entry_list_reverse (F.args_list_reverse_1 _) (AutoSeq1.list_reverse_list_0 l its.toArray n (by rw [size_toArray]; omega)) ⟨e, ?_⟩;refine⟨.non, _, I.lset (its' := its.reverse) hH e (by simp) r.reverse ?_, rfl, q⟩;rw [List.length_reverse];omega
def zon: R2 := fun x y H Q => ∃ l b xs zs, x=.ref l /\ y=.ref b /\ H l=some (.lst xs) /\ H b=some (.lst zs) /\ xs.length+zs.length<=sizeLine /\ ∀ p, H p=none -> Q (.ref p) (upd H p (.lst (xs++zs)))
theorem zjq: OpR X (binaryOp .Add) zon := by
  intro ze s σ H x y v u Q I rx ry h;obtain⟨l, b, xs, zs, rfl, rfl, hH, hB, hz, q⟩ := h;cases rx;cases ry;obtain⟨z, its, n, r, hl, e⟩ := I.lstM hH;obtain⟨z2, its2, n2, r2, hl2, e2⟩ := I.lstM hB;refine PySem.P.add_list e e2 ?_ (by rw [size_toArray, size_toArray]; omega);have ea : its.toArray++its2.toArray=(its++its2).toArray := by simp
  rw [ea];exact⟨.ref _, _, I.lnew (t' := s.toks) (r.append r2) (by rw [length_append]; omega), rfl, q _ I.fresh⟩
def zrt: R2 := fun x y H Q => ∃ l k xs, x=.ref l /\ y=.int k /\ H l=some (.lst xs) /\ -(2 ^ 63)<=k /\ k<2 ^ 63 /\ xs.length*k.toNat<=sizeLine /\
  ∀ p, H p=none -> Q (.ref p) (upd H p (.lst (List.replicate k.toNat xs).flatten))
theorem znb{α : Type}(xs : List α)(k : Nat): (List.replicate k xs).flatten.length=k*xs.length := by
  induction k with
  | zero => simp
  | succ k ih => rw [replicate_succ, flatten_cons, length_append, ih, Nat.succ_mul, Nat.add_comm]
theorem zoT: OpR X (binaryOp .Mult) zrt := by
  intro ze s σ H x y v u Q I rx ry h;obtain⟨l, k, xs, rfl, rfl, hH, h1, h2, hz, q⟩ := h;cases rx;obtain⟨t, rfl⟩ := ry;obtain⟨z, its, n, r, hl, e⟩ := I.lstM hH;have hlen : its.toArray.size*k.toNat<=sizeLine := by rw [size_toArray, <- hl]; exact hz
  have hcap : ¬ its.toArray.size*k.toNat>(2 ^ 63 - 1) / 8 := by
    have : (sizeLine : Nat)<=(2 ^ 63 - 1) / 8 := by decide
    omega
  have hfit : ¬ (!Builtin.List.listFitsIndex k)=true := by
    rw [fitsIndex_both h1 h2];exact Bool.false_ne_true
  have hlong : ¬ Builtin.List.listTooLong (its.toArray.size*k.toNat)=true := by
    rw [zh8 hlen];exact Bool.false_ne_true
  have hnew : List.foldl (fun x1 x2 => x1++x2) #[] (List.replicate (if its.toArray.isEmpty=true then 0 else k.toNat) its.toArray)=(List.replicate k.toNat its).flatten.toArray := by
    have f0 : ∀ m : Nat, List.foldl (fun x1 x2 => x1++x2) #[] (List.replicate m its.toArray)=(List.replicate m its).flatten.toArray := fun m => by
      have := zg9 its m [];rw [nil_append] at this;exact this
    rw [f0];cases its with
    | nil => simp
    | cons a r' => rw [if_neg (by simp)]
  refine wpAny_binaryOp_repeat_ref (T := "list") (U := "int") dz ⟨_, e, rfl⟩ (fun s' => typeIs_int s' k t) noFill_list_mul F.fills_int_mul F.slot_int_rmul repeat_list F.slot_int_index.lookup
    (call_meets F.slot_int_rmul (typeIs_int s k t) F.entry_int_rmul (F.args_int_rmul_2 _ _) (int___rmul___int_list k t l its.toArray n)
      ⟨e, rfl, ⟨_, e, rfl⟩, call_meets F.slot_list_mul ⟨_, e, rfl⟩ F.entry_list_mul (F.args_list_mul_2 _ _) (AutoListH.list___mul___list_int_3 l its.toArray n k t hfit hcap hlong) ⟨e, ?_⟩⟩)
  rw [hnew];exact⟨.ref _, _, I.lnew (t' := s.toks) (r.rep k.toNat) (by rw [znb, Nat.mul_comm]; exact hz), rfl, q _ I.fresh⟩
end
end
section
theorem zqJ{P : Program}{w : World}{k : Key}{u : Value}(r : RelV (kV k) u): (zbu P w).is k u=true := by
  cases k with
  | inl i => obtain⟨t, e⟩ := (show ∃ t, u=Value.int i t from r); subst e; exact zhq P w i t
  | inr x => obtain⟨t, e⟩ := (show ∃ t, u=Value.str x t from r); subst e; exact zhO P w x t
theorem zgJ{P : Program}{w : World}: ∀ {ks : List Key} {us : List Value}, Vals (ks.map kV) us -> ItemsAre (zbu P w) ks us
  | [], _, r => by rw [map_nil] at r; cases r; exact .nil
  | k :: ks, _, r => by
    rw [map_cons] at r;cases r with
    | cons h t => exact .cons (zqJ h) (zgJ t)
abbrev KT (H : Hp) : List (List Key×V) -> List (List Key×Addr×Value) -> Prop := Paired fun p q => p.1=q.1 /\ H q.2.1=some (.tup (p.1.map kV)) /\ RelV p.2 q.2.2
section
variable {P : Program} {w : World} {H : Hp} {h : Heap} {a : Addr}
theorem zp6{u : HO}(ok : HOk P w H h)(e : Rd H a u): ObjOk P w H h a u := e.ok ok
theorem zqB{kvs : List (Key×V)}(ok : HOk P w H h)(e : Rd H a (.dK kvs)): kvs.length<=sizeLine /\ (a == sysModules)=false /\ ∃ vs, KV kvs vs /\ h.DictOf (zbu P w) a vs :=
  show ObjOk P w H h a (.dK kvs) from zp6 ok e
theorem zqa{ks : List Key}(ok : HOk P w H h)(e : H a=some (.tup (ks.map kV))): (tupleKind (zbu P w)).is h ks a := by
  obtain⟨_, its, r, o, h1, h2, n, h3⟩ := (show ObjOk P w H h a (.tup (ks.map kV)) from ok a _ e);exact⟨o, its.toArray, n, h1, h2, h3, by simpa using zgJ r⟩
theorem zqL{kvs : List (List Key×V)}(ok : HOk P w H h)(e : Rd H a (.dT kvs)): kvs.length<=sizeLine /\ (a == sysModules)=false /\
    ∃ xs, KT H kvs xs /\ h.DictOfH (tupleKind (zbu P w)) a xs := by
  obtain⟨z, y, xs, r, o, es, ep, h1, h2, h3, h4, h5⟩ := (show ObjOk P w H h a (.dT kvs) from zp6 ok e);refine⟨z, y, xs, r, o, es, ep, h1, h2, h3, h4, fun x hx => ?_, h5⟩;have all : ∀ {l : List (List Key×V)} {m : List (List Key×Addr×Value)}, KT H l m -> ∀ x∈m, (tupleKind (zbu P w)).is h x.1 x.2.1 := by
    intro l m q;induction q with
    | nil => intro x hx; exact nomatch hx
    | @cons p q ps qs hq t ih =>
      intro x hx;rcases mem_cons.mp hx with e | hx
      · subst e
        exact zqa ok (by rw [<- hq.1]; exact hq.2.1)
      · exact ih x hx
  exact all r x hx
end
section
variable {X : Cx} {ze : List (Addr×Obj)} {σ : St} {H : Hp} {s : Shared} {a : Addr} {y v : V} {u r : Value} {o : Option V} {A : Around} {E : Value -> Shared -> Prop}
theorem Inv.big(I : Inv X ze σ H s): sysModules<s.heap.objs.size := by
  have h : mainGlobals<s.heap.objs.size := (I.mod.glob.keeps I.bk).lt;exact Nat.lt_trans dz h
theorem znF{h' : Heap}{t' : Nat}{ob : HO}(I : Inv X ze σ H s)(mu : Mut (H a))(hs : Heap.SameBut a s.heap h')(he : ∃ q, h'.get? a=some q)(new : ObjOk X.prog X.w (upd H a ob) h' a ob):
    Inv X ze σ (upd H a ob) { s with heap := h', toks := t' } :=
  I.write (x := a) (e := a) mu (.inl rfl) (fun b q hb z => (hs.2 b hb).trans z) he new
end
structure M1(X : Cx)(o : Expr)(m : Str)(apos : Pos)(e : Expr)(cpos : Pos): Prop where
  base : attributeBase o m X.env (eval o X.env)=eval o X.env
  few : ((backTo cpos (starEach [e] X.env)).all (fun x => !x.1) && (backToKw cpos (keywordEach [] X.env)).all (fun x => x.1.isSome)
    && decide (([e] : List Expr).length+([] : List Keyword).length+(if ([] : List Keyword).isEmpty then 0 else 1)<30))=true
  line : (apos.endLine == cpos.line)=true
  trees : backTo cpos (starEach [e] X.env)=[(false, eval e X.env)]
structure M2(X : Cx)(o : Expr)(m : Str)(apos : Pos)(e f : Expr)(cpos : Pos): Prop where
  base : attributeBase o m X.env (eval o X.env)=eval o X.env
  few : ((backTo cpos (starEach [e, f] X.env)).all (fun x => !x.1) && (backToKw cpos (keywordEach [] X.env)).all (fun x => x.1.isSome)
    && decide (([e, f] : List Expr).length+([] : List Keyword).length+(if ([] : List Keyword).isEmpty then 0 else 1)<30))=true
  line : (apos.endLine == cpos.line)=true
  trees : backTo cpos (starEach [e, f] X.env)=[(false, eval e X.env), (false, eval f X.env)]
def obO(a : Addr)(ob : Obj): HO := .ext fun h => h.get? a=some ob
def IsD(H : Hp)(a : Addr): Prop := (∃ kvs, Rd H a (.dK kvs)) \/ (∃ kvs, Rd H a (.dT kvs)) \/ ∃ ob, H a=some (obO a ob) /\ ob.ExactDict /\ (a == sysModules)=false
theorem zmg{X : Cx}{ze : List (Addr×Obj)}{σ : St}{H : Hp}{s : Shared}{a : Addr}(I : Inv X ze σ H s)(d : IsD H a):
    s.TypeIs (.ref a) "dict" /\ (∀ b, Value.ref a=.ref b -> ∃ ob, s.heap.get? b=some ob /\ ob.dict=none) /\ (a == sysModules)=false := by
  rcases d with ⟨kvs, e⟩ | ⟨kvs, e⟩ | ⟨ob, e, hx, hd⟩
  rotate_left 2
  · obtain⟨g, _, _⟩ := (show ObjOk X.prog X.w H s.heap a (obO a ob) from I.hok a _ e)
    exact⟨⟨ob, g, hx.1⟩, fun b q => by cases q; exact⟨ob, g, hx.2.1⟩, hd⟩
  · obtain⟨_, hd, vs, _, dd⟩ := zqB I.hok e
    refine⟨dd.typeIs, fun b q => ?_, hd⟩;cases q;obtain⟨ob, _, _, h1, h2, _⟩ := dd;exact⟨ob, h1, h2.2.1⟩
  · obtain⟨_, hd, xs, _, dd⟩ := zqL I.hok e
    refine⟨dd.typeIs, fun b q => ?_, hd⟩;cases q;obtain⟨ob, _, _, h1, h2, _⟩ := dd;exact⟨ob, h1, h2.2.1⟩
end
end L2
namespace Att
open PySem PySem.W PySem.Calls PyProof.Rows
theorem zeT{P : Params}{h : Heap}: ∀ (ns : List Int) (vs : List Value), WellAll P h vs (ns.map WData.int) -> IntsAre vs ns := by
  intro ns;induction ns with
  | nil =>
    intro vs w;rw [map_nil] at w;cases w;exact .nil
  | cons n ns ih =>
    intro vs w;rw [map_cons] at w;cases w with
    | cons a b =>
      cases a;exact .cons _ _ (ih _ b)
theorem zk2{l : OpenLaw}{n : Nat}(hn : l.most=some n){P : Params}{h : Heap}{args : List WData}{vals : List Value}
    (hpre : l.row.toRowW.claim.pre args=true) (hwl : WellAll P h vals args) :
    ∃ a vs ns, vals=[Value.ref a] /\ args=[WData.list (ns.map WData.int)] /\ h.get? a=some { cls := .type "list", data := .seq vs.toArray } /\ IntsAre vs ns /\ ns.length<=n := by
  have hsh : WShape.hasAll [] args [.list .int]=true := (pre_splitW hpre).1;have hc : l.pre.holds [] { args := args } = true := (pre_splitW hpre).2;obtain⟨d, r, rfl, h1, h2⟩ := hasAllW_cons hsh;obtain rfl := hasAllW_nil h2;obtain⟨xs, rfl, h3⟩ := hasW_list h1;obtain⟨ns, rfl⟩ := items_int h3;have hlen : ns.length<=n := by
    unfold OpenLaw.pre at hc;have h4 : (WTm.not (.lt (.lit (.int (n : Int))) (.len (.arg 0)))).holds [] { args := [.list (ns.map .int)] } = true := by
      have h4 := (holds_andW hc).1;rw [hn] at h4;exact h4
    have h5 := condW_of h4 (w_not (w_lt w_lit (w_len_list (w_arg rfl))));rw [length_map] at h5;refine Nat.le_of_not_lt fun q => ?_;have q' : (n : Int)<((ns.length : Nat) : Int) := by omega
    first
      | (rw [decide_eq_true q'] at h5; exact absurd h5 dz)
      | (simp at h5; omega)
  cases hwl with
  | cons w1 w2 =>
    cases w2;cases w1 with
    | list ho hall => exact⟨_, _, ns, rfl, rfl, ho, zeT ns _ hall, hlen⟩
theorem zkz(l : OpenLaw)(args : List WData): l.row.toRowW.claim.post args (.bool true) args=true :=
  postW_of (r := l.row.toRowW) (X := (true == true))
    (show WShape.has [] (.bool true) .bool=true by first | rfl | decide | simp [WShape.has, WShape.arms, WShape.armsAll])
    (show (WTm.eq .res (.lit (.bool true))).value [] { args := args, res := some (.bool true), after := args } = some (.bool (true == true)) from w_eq_bool (w_res rfl) w_lit) rfl
theorem attach_call{l : OpenLaw}{n : Nat}{q : Program}{loose : List Str}{XP : (Str -> Option Value) -> Heap -> Prop}{YP : World -> Heap -> Prop}{d : DefRec}
    (hn : l.most=some n) (hdf : d.params.defaults=[])
    (call : ∀ (w : World) (s₀ s₁ : Shared) (mg mb : Str -> Option Value) (fa : Addr) (o : Obj) (pm cd doc : Value) (a : Addr) (vs : List Value) (ns : List Int),
      Ground q loose [] XP w s₀ mg mb s₁.heap -> YP w s₁.heap ->
      s₁.heap.get? fa=some o -> o.data=.func (docDef d.name d.params d.body d.scope pm cd doc) -> s₁.heap.CodeRec cd d.name -> mg d.name=some (.ref fa) ->
      s₁.heap.get? a=some { cls := .type "list", data := .seq vs.toArray } -> IntsAre vs ns -> ns.length<=n -> s₁.gens = #[] ->
      codeAny (model l.prog w) callerA (.call (.ref fa) ⟨[.ref a], []⟩) (fun r s' => r=.ok (.ret (.bool true)) /\ OldK s₁.heap s'.heap /\ s'.os=s₁.os /\ AllBare s'.gens) s₁) :
    WalkO q loose XP YP l.row.toRowW d [] (fun f vs => PySem.call f vs) := by
  intro w s₀ s₁ mg mb G Y fa o pm cd doc dV kV ho hd hcd hD hmg hg args vals as hpre hlay hrd hwl hlo;obtain rfl : dV=.none := Dflts.none hD hdf;obtain rfl : kV=.none := Dflts.noKw hD;obtain⟨a, vs, ns, rfl, rfl, hobj, hints, hlen⟩ := zk2 hn hpre hwl;refine enter_call (codeAny_mono (call w s₀ s₁ mg mb fa o pm cd doc a vs ns G Y ho (fd_plain hd) hcd hmg hobj hints hlen hg) fun r s' hq => ?_);obtain⟨rfl, h2, h3, h4⟩ := hq;exact⟨.inl ⟨.bool true, .bool true, [], rfl, fun _ => rfl, .bool true, zkz l _, fun _ => ⟨List.Pairwise.nil, fun _ hm => (nomatch hm)⟩⟩, h2, h3, h4⟩
end Att
namespace L2
open PySem PySem.Spec PyProof.Rows
section
theorem zg2: ∀ {vs : List Value} {ns : List Int}, IntsAre vs ns -> Vals (ns.map V.int) vs
  | _, _, .nil => .nil
  | _, _, .cons n t h => .cons ⟨t, rfl⟩ (zg2 h)
def Only(H : Hp): Prop := ∀ b, H b=none \/ (∃ o xs, H b=some (.frz o (.lst xs))) \/ ∃ q∈tabsG, q.1.2=b /\ H b=some (.tbl q.2)
def zdC(b : Addr): Option HO := (tabsG.find? fun q => q.1.2 == b).map fun q => .tbl q.2
theorem zcy{b : Addr}{u : HO}(e : zdC b=some u): ∃ q∈tabsG, q.1.2=b /\ u=.tbl q.2 := by
  unfold zdC at e;cases h : tabsG.find? fun q => q.1.2 == b with
  | none => rw [h] at e; cases e
  | some q =>
    rw [h] at e;cases e;exact⟨q, List.mem_of_find?_eq_some h, by simpa using List.find?_some h, rfl⟩
theorem zjd{l : List ((Addr×Addr)×Array Value)}(nd : (l.map fun q => q.1.2).Nodup){q : (Addr×Addr)×Array Value}(h : q∈l): l.find? (fun r => r.1.2 == q.1.2)=some q := by
  induction l with
  | nil => cases h
  | cons p l ih =>
    rw [map_cons, nodup_cons] at nd;rcases mem_cons.mp h with e | e
    · subst e; simp
    · have ne : ¬ p.1.2=q.1.2 := fun z => nd.1 (by rw [z]; exact List.mem_map_of_mem (f := fun q : (Addr×Addr)×Array Value => q.1.2) e)
      rw [List.find?_cons_of_neg (by simpa using ne)];exact ih nd.2 e
theorem zgt(nd : (tabsG.map fun q => q.1.2).Nodup){q : (Addr×Addr)×Array Value}(h : q∈tabsG): zdC q.1.2=some (.tbl q.2) := by
  unfold zdC;rw [zjd nd h];rfl
structure TabsOk(K : W.Frag)(h : Heap): Prop where
  nd : (tabsG.map fun q => q.1.2).Nodup
  hd : ∀ q∈tabsG, W.CodeHd h q.1.1 q.1.2
  empty : ∀ q∈tabsG, h.get? q.1.2=some (W.tabObj #[])
  off : ∀ q∈tabsG, K.lookup q.1.2=none
theorem TabsOk.none{K : W.Frag}{h : Heap}(e : tabsG=[]): TabsOk K h := ⟨by rw [e]; exact nodup_nil, fun q z => absurd z (by rw [e]; simp), fun q z => absurd z (by rw [e]; simp), fun q z => absurd z (by rw [e]; simp)⟩
theorem zlX{P : Program}{w : World}{K : W.Frag}{mg mb : Str -> Option Value}{CX : CXT}{k : Nat}{fa a : Addr}{fd : FuncData}{x : Str}{sp : Sp}{s₁ : Shared}{vs : List Value}{ns : List Int}
    (KX : K.In s₁.heap) (TT : TabsOk K s₁.heap) (hbm : BltAt s₁.heap mg) (hns : s₁.heap.Ns mainGlobals mg) (hb : s₁.heap.Ns builtinsNs mb) (hbb : ∀ x : Str, x ≠ "__name__" -> mb x=bootBuiltins x) (hlim : s₁.heap.NoLimit) (hg : s₁.gens = #[])
    (ha : s₁.heap.get? a=some { cls := .type "list", data := .seq vs.toArray }) (hi : IntsAre vs ns) (hl : ns.length<=sizeLine) (hr : Room k callerA)
    (F : ∀ base : Heap, K.In base -> base.Ns mainGlobals mg -> FnOk P w K mg base CX k fa fd [x] sp) (hbind : ∀ (s : Shared) (u : Value), BindsTo s fd ⟨[u], []⟩ [(x, u)])
    (hsp : ∀ H : Hp, Only H -> SqL K H a (ns.map V.int) -> sp [.ref a] H (fun v _ => v=.bl true) fun _ _ _ => False)
    (hCX : ∀ H e s', CX [] H s₁ (fun _ _ _ => False) e s' -> False) :
    codeAny (model P w) callerA (.call (.ref fa) ⟨[.ref a], []⟩) (fun r s' => r=.ok (.ret (.bool true)) /\ OldK s₁.heap s'.heap /\ s'.os=s₁.os /\ AllBare s'.gens) s₁ := by
  have rv := zg2 hi;have lenV := hi.length
  -- from an abstract heap in which nothing but the script may be tracked
  have core : ∀ H : Hp, Only H -> SqL K H a (ns.map V.int) -> HOk P w H s₁.heap -> (∀ b, H b≠none -> b=a \/ ∃ q∈tabsG, q.1.2=b) -> (H a≠none -> K.lookup a=none) -> (∀ q∈tabsG, H q.1.2=some (.tbl q.2)) ->
      codeAny (model P w) callerA (.call (.ref fa) ⟨[.ref a], []⟩) (fun r s' => r=.ok (.ret (.bool true)) /\ OldK s₁.heap s'.heap /\ s'.os=s₁.os /\ AllBare s'.gens) s₁ := by
    intro H hO hS hok hA hK hTab;have noO : ∀ {b : Addr} {o : Obj}, s₁.heap.get? b=some o -> o.cls≠.type "list" -> o.cls≠.none -> H b=none := fun {b o} e c1 c2 => by
      cases q : H b with
      | none => rfl
      | some u =>
        rcases hA b (by rw [q]; simp) with e' | ⟨r, hr', e'⟩
        · subst e'
          rw [ha] at e; cases e;exact absurd rfl c1
        · have := TT.empty r hr'
          rw [e', e] at this;cases this;exact absurd rfl c2
    have base_of : ∀ {b : Addr} {o : Obj}, s₁.heap.get? b=some o -> H b=none -> (zln s₁.heap H).get? b=some o := fun e n => zl7 e n;have noA : ∀ {b : Addr} {o : Obj} {es : Array DictEntry} {ep : Nat}, s₁.heap.get? b=some o -> o.data=.dict es ep -> H b=none := fun {b o es ep} e d => by
      cases q : H b with
      | none => rfl
      | some u =>
        rcases hA b (by rw [q]; simp) with e' | ⟨r, hr', e'⟩
        · subst e'
          rw [ha] at e; cases e;have d' : Data.seq vs.toArray _=Data.dict es ep := d;cases d'
        · have := TT.empty r hr'
          rw [e', e] at this;cases this;cases d
    have nsK : ∀ {b : Addr} {m : Str -> Option Value}, s₁.heap.Ns b m -> (zln s₁.heap H).Ns b m := fun {b m} ⟨o, es, ep, e, d, r⟩ => ⟨o, es, ep, base_of e (noA e d), d, r⟩;have hKb : K.In (zln s₁.heap H) := fun b o e => base_of (KX b o e) (by
      cases q : H b with
      | none => rfl
      | some u =>
        rcases hA b (by rw [q]; simp) with e' | ⟨r, hr', e'⟩
        · subst e'
          rw [hK (by rw [q]; simp)] at e; cases e
        · rw [<- e', TT.off r hr'] at e; cases e)
    have hM : Mod K mg (zln s₁.heap H) := ⟨hKb, nsK hns, ⟨mb, nsK hb, hbb⟩, let ⟨mc, h1, h2⟩ := hlim; ⟨mc, nsK h1, h2⟩,
      let ⟨bm, ob, b1, b2, b3, b4, b5⟩ := hbm; ⟨bm, ob, b1, b2, base_of b3 (noO b3 (by rw [b4]; decide) (by rw [b4]; decide)), b4, b5⟩,
      fun q hq => let ⟨o, vs, file, tf, flags, tg, inF, text, tt, e1, c1, r⟩ := TT.hd q hq; ⟨o, vs, file, tf, flags, tg, inF, text, tt, base_of e1 (noO e1 (by rw [c1]; decide) (by rw [c1]; decide)), c1, r⟩⟩
    have e0 : Env0 P w K mg (zln s₁.heap H) callerA [] s₁ H := ⟨rfl, hM, fun b o e => znq e, Nat.le_of_eq (zk5 _ _), trivial, ⟨fun b hb => absurd (show b∈([] : List Addr) from hb) (by simp), hTab⟩, hok, .of_eq hg⟩;refine codeAny_mono ((F _ hKb (nsK hns)).run callerA [] s₁ H ⟨[.ref a], []⟩ [.ref a] [.ref a] _ _ hr e0 (hbind s₁ (.ref a)) (.cons rfl .nil) (hsp H hO hS)) fun r s' h => ?_;cases r with
    | error e => exact(hCX H e s' h).elim
    | ok fl =>
      cases fl with
      | next => exact False.elim h
      | brk => exact False.elim h
      | cont => exact False.elim h
      | ret u =>
        obtain⟨v, H', os, bare, un, hok', r', q⟩ := h;have q' : v=.bl true := q;subst q';obtain rfl : u=Value.bool true := r';have all : ∀ b o, s₁.heap.get? b=some o -> s'.heap.get? b=some o \/ ∃ q∈tabsG, q.1.2=b /\ o=W.tabObj #[] /\ ∃ ps, s'.heap.get? b=some (W.tabObj ps) := fun b o e => by
          cases q : H b with
          | none => exact .inl (un.keep b o e q (by intro z; exact absurd (show b∈([] : List Addr) from z) (by simp)) (by simp))
          | some u =>
            rcases hO b with z | ⟨ob, xs, z⟩ | ⟨r, hr', e', z⟩
            · rw [q] at z; cases z
            · have z2 := un.frzs b ob _ z
              obtain⟨e1, _⟩ := hok b _ z;obtain⟨e2, _⟩ := hok' b _ z2;rw [e] at e1; cases e1;exact .inl e2
            · obtain⟨qs, e2, _⟩ := hok' b _ (un.tbls b _ z)
              have := TT.empty r hr';rw [e', e] at this;cases this;exact .inr ⟨r, hr', e', rfl, qs, e2⟩
        refine⟨rfl, ⟨fun b o e => ?_, fun b o e => ?_⟩, os, bare⟩
        · rcases all b o e with z | ⟨r, hr', rfl, rfl, ps, z⟩
          · exact .inl z
          · exact .inr (.inl ⟨((TT.hd r hr').tab (TT.empty r hr')).isCodeTable, rfl, #[], ps, rfl, by rw [Array.empty_append]; exact z⟩)
        · rcases all b o e with z | ⟨r, hr', rfl, rfl, ps, z⟩
          · exact⟨o, z⟩
          · exact⟨_, z⟩
  have naT : ∀ q∈tabsG, q.1.2≠a := fun q hq z => by
    have := TT.empty q hq;rw [z, ha] at this;cases this
  have tOk : ∀ (H : Hp) (b : Addr) (u : HO), zdC b=some u -> ObjOk P w H s₁.heap b u := fun H b u z => by
    obtain⟨q, hq, rfl, rfl⟩ := zcy z;exact⟨#[], TT.empty q hq, .inl rfl⟩
  cases hk : K.lookup a with
  | some o =>
    -- the script is one of the module's own objects
    have e := KX a o hk;rw [ha] at e;cases e;refine core zdC (fun b => ?_) (.inr ⟨_, vs.toArray, _, hk, rfl, rfl, rfl, by rw [size_toArray, lenV]; exact hl, by simpa using rv⟩) (tOk zdC) (fun b z => ?_) (fun z => ?_) fun q hq => zgt TT.nd hq
    · cases q : zdC b with
      | none => exact .inl rfl
      | some u => obtain⟨r, hr', e', rfl⟩ := zcy q; exact .inr (.inr ⟨r, hr', e', rfl⟩)
    · cases q : zdC b with
      | none => exact absurd q z
      | some u => obtain⟨r, hr', e', _⟩ := zcy q; exact .inr ⟨r, hr', e'⟩
    · cases q : zdC a with
      | none => exact absurd q z
      | some u => obtain⟨r, hr', e', _⟩ := zcy q; exact absurd e' (naT r hr')
  | none =>
    refine core (fun b => if b=a then some (.frz { cls := .type "list", data := .seq vs.toArray } (.lst (ns.map V.int))) else zdC b) (fun b => ?_) (.inl (.inr ⟨{ cls := .type "list", data := .seq vs.toArray }, if_pos rfl⟩)) (fun b u z => ?_) (fun b z => ?_) (fun _ => hk) fun q hq => (if_neg (naT q hq)).trans (zgt TT.nd hq)
    · by_cases hb : b=a
      · exact .inr (.inl ⟨_, _, if_pos hb⟩)
      · cases q : zdC b with
        | none => exact .inl ((if_neg hb).trans q)
        | some u => obtain⟨r, hr', e', rfl⟩ := zcy q; exact .inr (.inr ⟨r, hr', e', (if_neg hb).trans q⟩)
    · by_cases hb : b=a
      · have z' := (if_pos hb).symm.trans z
        cases z';subst hb;exact⟨ha, by rw [length_map]; exact hl, vs, _, rv, ha⟩
      · have z' := (if_neg hb).symm.trans z
        exact tOk _ b u z'
    · by_cases hb : b=a
      · exact .inl hb
      · cases q : zdC b with
        | none => exact absurd ((if_neg hb).trans q) z
        | some u => obtain⟨r, hr', e', _⟩ := zcy q; exact .inr ⟨r, hr', e'⟩
end
section
abbrev KOf {K : W.Frag} {h : Heap} (_ : K.In h) : W.Frag := K
theorem walk_of{l : W.OpenLaw}{n k : Nat}{q : Program}{loose : List Str}{XP : (Str -> Option Value) -> Heap -> Prop}{YP : World -> Heap -> Prop}{d : DefRec}{K : Params -> W.Frag}{CX : World -> CXT}{sp : World -> Sp}{x : Str}
    (hn : l.most=some n) (hn2 : n<=sizeLine) (hdf : d.params.defaults=[]) (hr : Room k callerA)
    (hY : ∀ (w : World) (h : Heap), YP w h -> (K w.params).In h)
    (hT : ∀ (w : World) (h : Heap), YP w h -> TabsOk (K w.params) h)
    (F : ∀ (w : World) (mg : Str -> Option Value) (fa : Addr) (h : Heap), (K w.params).In h -> h.Ns mainGlobals mg -> mg d.name=some (.ref fa) ->
      ∃ fd : FuncData, (∀ (s : Shared) (u : Value), BindsTo s fd ⟨[u], []⟩ [(x, u)]) /\
        ∀ base : Heap, (K w.params).In base -> base.Ns mainGlobals mg -> FnOk l.prog w (K w.params) mg base (CX w) k fa fd [x] (sp w))
    (hsp : ∀ (w : World) (H : Hp) (a : Addr) (ns : List Int), ns.length<=n -> Only H -> SqL (K w.params) H a (ns.map V.int) -> sp w [.ref a] H (fun v _ => v=.bl true) fun _ _ _ => False)
    (hCX : ∀ (w : World) (H : Hp) (s : Shared) (e : Value) (s' : Shared), CX w [] H s (fun _ _ _ => False) e s' -> False) :
    W.WalkO q loose XP YP l.row.toRowW d [] (fun f vs => PySem.call f vs) := by
  refine Att.attach_call hn hdf fun w s₀ s₁ mg mb fa o pm cd doc a vs ns G Y ho hd hcd hmg hobj hints hlen hg => ?_;have KX := hY w _ Y;obtain⟨fd, hb, hF⟩ := F w mg fa _ KX G.T.g hmg;exact zlX KX (hT w _ Y) (let ⟨bm, ob, a1, a2, a3, a4, a5, a6⟩ := G.T.bmain; ⟨bm, ob, a1, a2, a3, a4, a5, a6⟩) G.T.g G.T.b G.T.builtins G.T.nolimit hg hobj hints (le_trans hlen hn2) hr hF hb (fun H hO hS => hsp w H a ns hlen hO hS) fun H e s' => hCX w H s₁ e s'
end
section
def zcT(s : Stmt): Arguments := match s with
  | .FunctionDef _ a _ _ _ _ _ _ _ _ => a
  | _ => { posonlyargs := [], args := [], vararg := none, kwonlyargs := [], kw_defaults := [], kwarg := none, defaults := [] }
def zbj(s : Stmt): List Stmt := match s with
  | .FunctionDef _ _ b _ _ _ _ _ _ _ => b
  | _ => []
def zh(s : Stmt): Scope := match s with
  | .FunctionDef _ _ _ _ _ _ sc _ _ _ => sc
  | _ => { kind := .function, names := [], isGenerator := false, isCoroutine := false }
abbrev CX0 : CXT := fun _ _ _ _ _ _ => False
abbrev E0 : XK := fun _ _ _ => False
theorem pass0{X : Cx}: Passes CX0 X E0 := fun _ _ _ _ _ _ _ h => h.elim
structure Fun(K : W.Frag)(x qual : Str)(st : Stmt)(f : Addr)(fd : FuncData): Prop where
  ex : ∃ (oc : Value) (od : Option Addr) (kV doc pm : Value) (an : Option Addr) (cdv ct : Value) (osl : Array (Option Value)),
    fd=W.fnOf x qual (zcT st) (zbj st) (zh st) .none kV doc pm an cdv ct /\ K.lookup f=some ⟨oc, od, .func fd, osl⟩ /\ W.codeIn K cdv qual=true
  kp : W.keepIn K (.ref f)=true
section
variable {P : Program} {w : World} {K : W.Frag} {mg : Str -> Option Value} {base : Heap}
theorem Fun.ok{x qual : Str}{st : Stmt}{f : Addr}{fd : FuncData}{N ps : List Str}{k : Nat}{sp : Sp}(F : Fun K x qual st f fd)(S : FnScope N ps (zh st))(len : ∀ vs H Q E, sp vs H Q E -> vs.length=ps.length)
    (hbody : ∀ (cdv : Value) (A : Around) (outer : List Env) (s : Shared) (H : Hp) (vs : List V) (Q : VK) (E : XK), Room k (A.deeper (envOfC qual (zh st) s.heap.objs.size f cdv)) -> sp vs H Q E ->
      ∃ t, PSs (zlh CX0 P w K mg base N qual (zh st) f cdv A outer s H E).nox (zbj st) t /\ t { nx := fun _ H' => Q .non H', rt := Q } (start N vs) H) : FnOk P w K mg base CX0 (k+1) f fd ps sp := by
  obtain⟨oc, od, kV, doc, pm, an, cdv, ct, osl, rfl, lk, hcd⟩ := F.ex;refine zqK lk hcd S len fun A outer s H vs Q E hr hsp => ?_;obtain⟨t, h, q⟩ := hbody cdv A outer s H vs Q E hr hsp;exact⟨t, h.nox, q⟩
theorem Fun.binds{x qual : Str}{st : Stmt}{f : Addr}{fd : FuncData}{ps : List Str}(F : Fun K x qual st f fd)
    (h : ∀ (kV doc pm : Value) (an : Option Addr) (cdv ct : Value) (us : List Value), us.length=ps.length -> bindArgs (W.fnOf x qual (zcT st) (zbj st) (zh st) .none kV doc pm an cdv ct) ⟨us, []⟩=pure (ps.zip us)) : Binds K fd ps [] := by
  obtain⟨oc, od, kV, doc, pm, an, cdv, ct, osl, rfl, lk, hcd⟩ := F.ex;exact .all (h kV doc pm an cdv ct)
theorem zmQ{x qual : Str}{st : Stmt}{f : Addr}{oc : Value}{od an : Option Addr}{osl : Array (Option Value)}{kV doc pm cdv ct : Value}(l : K.lookup f=some ⟨oc, od, .func (W.fnOf x qual (zcT st) (zbj st) (zh st) .none kV doc pm an cdv ct), osl⟩)
    (c : W.codeIn K cdv qual=true) (k : W.keepIn K (.ref f)=true) : Fun K x qual st f (W.fnOf x qual (zcT st) (zbj st) (zh st) .none kV doc pm an cdv ct) := ⟨⟨oc, od, kV, doc, pm, an, cdv, ct, osl, rfl, l, c⟩, k⟩
end
theorem small1000{n : Nat}(h : n<=1000): n<sizeLine := Nat.lt_of_le_of_lt h dz
section
variable {X : Cx}
theorem pv(i : Nat){x : Str}{pos : Pos}(hN : X.N[i]? = some x := by rfl)(hv : Vis X.env.scope x := by first | exact Or.inl rfl | exact Or.inr (Or.inl rfl) | exact Or.inr (Or.inr rfl))(hd : (x == ("__debug__" : Str))=false := by decide)
    (hcd : (x == ("__classdict__" : Str))=false := by decide) : PE X (.Name x pos) (zlb i) := zoy hN hv hd hcd
end
theorem zmc{A B : Prop}(h : B): if false=true then A else B := by
  rw [if_neg Bool.false_ne_true];exact h
theorem zmf{A B : Prop}(h : A): if true=true then A else B := by
  rw [if_pos rfl];exact h
theorem ite2{c A B : Prop}[Decidable c](h1 : c -> A)(h2 : ¬ c -> B): if c then A else B := by
  by_cases h : c
  · rw [if_pos h]
    exact h1 h
  · rw [if_neg h]
    exact h2 h
def Same(H H' : Hp): Prop := ∀ b o, H b=some o -> H' b=some o
theorem Same.refl(H : Hp): Same H H := fun _ _ h => h
theorem Same.trans{H H1 H2 : Hp}(a : Same H H1)(b : Same H1 H2): Same H H2 := fun c o h => b c o (a c o h)
theorem Same.seq{K : W.Frag}{H H' : Hp}{a : Addr}{xs : List V}(e : Same H H')(h : SqL K H a xs): SqL K H' a xs := by
  rcases h with (h | ⟨o, h⟩) | h
  · exact .inl (.inl (e _ _ h))
  · exact .inl (.inr ⟨o, e _ _ h⟩)
  · exact .inr h
end
section
section
variable {X : Cx}
def CDivX(i j : Int): Prop := 0<j /\ j.natAbs.log2<9000
theorem zlM: OpR X (binaryOp .FloorDiv) (rI CDivX fun i j => .int (i / j)) := opI fun i j _ _ _ _ _ hc q => by
  have h1 : (0 : Int)<j := hc.1;exact floordiv_int (by omega) (by rw [Int.fdiv_eq_ediv_of_nonneg i (by omega)]; exact q) (.inl (PyProof.noPylong_of_log2 hc.2))
theorem znJ: OpR X (binaryOp .Mult) (rI IntMulOk fun i j => .int (i*j)) := opI fun _ _ _ _ _ _ _ hc q => mul_int q hc
theorem zkJ{k : Int}{n : Nat}(h : k.natAbs<2 ^ n): Builtin.Int.intBits k<=n := by
  unfold Builtin.Int.intBits;split
  · exact zero_le _
  · rename_i h0
    have hk : k.natAbs≠0 := by
      intro z;apply h0;rw [Int.natAbs_eq_zero.mp z];rfl
    have := (Nat.log2_lt hk).mpr h;omega
theorem zqA{i j : Int}(n m : Nat)(hi : i.natAbs<2 ^ n)(hj : j.natAbs<2 ^ m)(hn : n<=2 ^ 20 := by decide)(hm : m<=2 ^ 20 := by decide): IntMulOk i j :=
  .of_bits (le_trans (zkJ hi) hn) (le_trans (zkJ hj) hm)
theorem zct{i j : Int}(h1 : -(2 ^ 64)<i)(h2 : i<2 ^ 64): IntMulOk i j := .of_left (intBits_le_64 h1 h2)
theorem zfD{n : Int}{k : Nat}(h0 : 0<n)(h : n<2 ^ k): n.natAbs.log2<k := by
  refine(Nat.log2_lt (by omega)).mpr ?_;have e : ((2 ^ k : Nat) : Int)=(2 : Int) ^ k := by simp
  omega
end
def kD: Key -> PyData
  | .inl i => .int i
  | .inr x => .str x
def DOf(H : Hp)(a : Addr)(ks : List PyData)(vs : List V): Prop :=
  (∃ (ob : Obj) (m : List (Key×V)), H a=some (.frz ob (.dK m)) /\ ks=m.map (fun p => kD p.1) /\ vs=m.map (·.2)) \/
  ∃ (ob : Obj) (p : List Key×V) (m : List (List Key×V)), H a=some (.frz ob (.dT (p :: m))) /\ ks=(p :: m).map (fun p => .tuple (p.1.map kD)) /\ vs=(p :: m).map (·.2)
mutual
def Has(H : Hp): PyData -> V -> Prop
  | .none, v => v=.non
  | .bool b, v => v=.bl b
  | .int i, v => v=.int i
  | .str x, v => v=.str x
  | .list ds, v => ∃ a vs, v=.ref a /\ H a=some (.lst vs) /\ HasL H ds vs
  | .tuple ds, v => ∃ a vs, v=.ref a /\ H a=some (.tup vs) /\ HasL H ds vs
  | .dict kvs, v => ∃ a vs, v=.ref a /\ DOf H a (kvs.map (·.1)) vs /\ HasV H kvs vs
def HasL(H : Hp): List PyData -> List V -> Prop
  | [], vs => vs=[]
  | d :: ds, vs => ∃ v r, vs=v :: r /\ Has H d v /\ HasL H ds r
def HasV(H : Hp): List (PyData×PyData) -> List V -> Prop
  | [], vs => vs=[]
  | p :: ps, vs => ∃ v r, vs=v :: r /\ HasP H p v /\ HasV H ps r
def HasP(H : Hp): PyData×PyData -> V -> Prop
  | (_, d), v => Has H d v
end
mutual
theorem Has.mono{H H' : Hp}(s : Same H H'): ∀ (d : PyData) (v : V), Has H d v -> Has H' d v
  | .none, _, h => by simp only [Has] at h ⊢; exact h
  | .bool _, _, h => by simp only [Has] at h ⊢; exact h
  | .int _, _, h => by simp only [Has] at h ⊢; exact h
  | .str _, _, h => by simp only [Has] at h ⊢; exact h
  | .list ds, v, h => by
    simp only [Has] at h ⊢;obtain⟨a, vs, e, q, l⟩ := h;exact⟨a, vs, e, s _ _ q, HasL.mono s ds vs l⟩
  | .tuple ds, v, h => by
    simp only [Has] at h ⊢;obtain⟨a, vs, e, q, l⟩ := h;exact⟨a, vs, e, s _ _ q, HasL.mono s ds vs l⟩
  | .dict kvs, v, h => by
    simp only [Has] at h ⊢;obtain⟨a, vs, e, q, l⟩ := h;refine⟨a, vs, e, ?_, HasV.mono s kvs vs l⟩;rcases q with ⟨ob, m, e1, e2⟩ | ⟨ob, p, m, e1, e2⟩
    · exact .inl ⟨ob, m, s _ _ e1, e2⟩
    · exact .inr ⟨ob, p, m, s _ _ e1, e2⟩
theorem HasL.mono{H H' : Hp}(s : Same H H'): ∀ (ds : List PyData) (vs : List V), HasL H ds vs -> HasL H' ds vs
  | [], _, h => by simp only [HasL] at h ⊢; exact h
  | d :: ds, vs, h => by
    simp only [HasL] at h ⊢;obtain⟨v, r, e, q, l⟩ := h;exact⟨v, r, e, Has.mono s d v q, HasL.mono s ds r l⟩
theorem HasV.mono{H H' : Hp}(s : Same H H'): ∀ (ds : List (PyData×PyData)) (vs : List V), HasV H ds vs -> HasV H' ds vs
  | [], _, h => by simp only [HasV] at h ⊢; exact h
  | d :: ds, vs, h => by
    simp only [HasV] at h ⊢;obtain⟨v, r, e, q, l⟩ := h;exact⟨v, r, e, HasP.mono s d v q, HasV.mono s ds r l⟩
theorem HasP.mono{H H' : Hp}(s : Same H H'): ∀ (p : PyData×PyData) (v : V), HasP H p v -> HasP H' p v
  | (_, d), v, h => by
    simp only [HasP] at h ⊢;exact Has.mono s d v h
end
section
variable {H : Hp} {v : V}
theorem zbB: Has H .none v↔v=.non := by simp only [Has]
theorem zbr{b : Bool}: Has H (.bool b) v↔v=.bl b := by simp only [Has]
theorem zbx{i : Int}: Has H (.int i) v↔v=.int i := by simp only [Has]
theorem zcw{x : Str}: Has H (.str x) v↔v=.str x := by simp only [Has]
theorem zaH{ds : List PyData}: Has H (.list ds) v↔∃ a vs, v=.ref a /\ H a=some (.lst vs) /\ HasL H ds vs := by simp only [Has]
theorem zU{ds : List PyData}: Has H (.tuple ds) v↔∃ a vs, v=.ref a /\ H a=some (.tup vs) /\ HasL H ds vs := by simp only [Has]
theorem zfH{kvs : List (PyData×PyData)}: Has H (.dict kvs) v↔∃ a vs, v=.ref a /\ DOf H a (kvs.map (·.1)) vs /\ HasV H kvs vs := by simp only [Has]
theorem zl4{vs : List V}: HasV H [] vs↔vs=[] := by simp only [HasV]
theorem zgQ{p : PyData×PyData}{ds : List (PyData×PyData)}{vs : List V}: HasV H (p :: ds) vs↔∃ v r, vs=v :: r /\ Has H p.2 v /\ HasV H ds r := by
  obtain⟨k, d⟩ := p;simp only [HasV, HasP]
theorem zA{vs : List V}: HasL H [] vs↔vs=[] := by simp only [HasL]
theorem zr{d : PyData}{ds : List PyData}{vs : List V}: HasL H (d :: ds) vs↔∃ v r, vs=v :: r /\ Has H d v /\ HasL H ds r := by simp only [HasL]
theorem HasL.length: ∀ {ds : List PyData} {vs : List V}, HasL H ds vs -> vs.length=ds.length
  | [], _, h => by rw [zA.mp h]; rfl
  | d :: ds, vs, h => by
    obtain⟨v, r, e, _, l⟩ := zr.mp h;rw [e, length_cons, length_cons, HasL.length l]
theorem HasL.get: ∀ {ds : List PyData} {vs : List V} {i : Nat} {d : PyData}, HasL H ds vs -> ds[i]? = some d -> ∃ v, vs[i]? = some v /\ Has H d v
  | [], _, _, _, _, e => by simp at e
  | c :: ds, vs, 0, d, h, e => by
    obtain⟨v, r, rfl, q, _⟩ := zr.mp h;simp at e;subst e;exact⟨v, rfl, q⟩
  | c :: ds, vs, i+1, d, h, e => by
    obtain⟨v, r, rfl, _, l⟩ := zr.mp h;obtain⟨u, e1, e2⟩ := HasL.get (i := i) (d := d) l (by simpa using e);exact⟨u, by simpa using e1, e2⟩
theorem HasL.append: ∀ {ds es : List PyData} {vs us : List V}, HasL H ds vs -> HasL H es us -> HasL H (ds++es) (vs++us)
  | [], es, vs, us, h, h' => by rw [zA.mp h]; exact h'
  | d :: ds, es, vs, us, h, h' => by
    obtain⟨v, r, rfl, q, l⟩ := zr.mp h;exact zr.mpr ⟨v, r++us, rfl, q, HasL.append l h'⟩
theorem zgD: ∀ (ns : List Int), HasL H (ns.map .int) (ns.map V.int)
  | [] => zA.mpr rfl
  | n :: ns => zr.mpr ⟨_, _, rfl, zbx.mpr rfl, zgD ns⟩
end
def tyD: PyData -> String
  | .none => "NoneType" | .bool _ => "bool" | .int _ => "int" | .str _ => "str" | .list _ => "list" | .tuple _ => "tuple" | .dict _ => "dict"
theorem Has.ty{K : W.Frag}{H : Hp}{d : PyData}{v : V}(h : Has H d v): TyOf K H v (.type (tyD d)) := by
  cases d with
  | none => rw [zbB.mp h]; exact .non
  | bool b => rw [zbr.mp h]; exact .bl b
  | int i => rw [zbx.mp h]; exact .int i
  | str x => rw [zcw.mp h]; exact .str x
  | list ds => obtain⟨a, vs, rfl, e, _⟩ := zaH.mp h; exact .lst e
  | tuple ds => obtain⟨a, vs, rfl, e, _⟩ := zU.mp h; exact .tup e
  | dict kvs =>
    obtain⟨a, vs, rfl, e, _⟩ := zfH.mp h;rcases e with ⟨ob, m, e, _⟩ | ⟨ob, p, m, e, _⟩
    · exact .dK (.inr ⟨ob, e⟩)
    · exact .dT (.inr ⟨ob, e⟩)
def zqu: List String := ["NoneType", "bool", "int", "str", "list", "tuple", "dict"]
def zlu: List String := ["int", "bool", "str", "list", "tuple", "dict"]
def zlg(t c : String): Bool := t == c || (t == "bool" && c == "int")
def zoa(d : PyData)(c : String): Bool := zlg (tyD d) c
theorem zn0(d : PyData): tyD d∈zqu := by cases d <;> simp [tyD, zqu]
theorem znT(K : W.Frag){t c : String}(ht : t∈zqu)(hc : c∈zlu): W.kitOne K (.type t) (.type c)=some (zlg t c) := by
  simp only [zqu, zlu, mem_cons, not_mem_nil, or_false] at ht hc;rcases ht with rfl | rfl | rfl | rfl | rfl | rfl | rfl <;> rcases hc with rfl | rfl | rfl | rfl | rfl | rfl <;> rfl
def zqC: List V -> Hp -> VK -> Prop
  | [x, .ty c], H, Q => ∃ d, Has H d x /\ c∈zlu /\ Q (.bl (zoa d c)) H
  | _, _, _ => False
theorem znM{H : Hp}{d : PyData}{x : V}{c : String}{Q : VK}(h : Has H d x)(hc : c∈zlu)(q : Q (.bl (zoa d c)) H): zqC [x, .ty c] H Q := ⟨d, h, hc, q⟩
section
variable {X : Cx}
theorem zax: CallR X (.builtin "isinstance") zqC := by
  intro ze s σ H xs us Q I r h
  match xs, h with
  | [x, .ty c], h =>
    obtain⟨d, hx, hc, q⟩ := h;obtain⟨u, w', rfl, ru, rw'⟩ := vals2 r;cases (show w'=Value.type c from rw');exact zjl I ru hx.ty (znT X.K (zn0 d) hc) fun tk => ⟨.bl _, H, I.tok tk, rfl, q⟩
end
def sp1(p : V -> Hp -> VK -> Prop): Sp := fun vs H Q _ => match vs with | [x] => p x H Q | _ => False
def sp2(p : V -> V -> Hp -> VK -> Prop): Sp := fun vs H Q _ => match vs with | [x, y] => p x y H Q | _ => False
theorem zkt{p : V -> Hp -> VK -> Prop}: ∀ (vs : List V) (H : Hp) (Q : VK) (E : XK), sp1 p vs H Q E -> ∃ x, vs=[x] /\ p x H Q := by
  intro vs H Q E h
  match vs, h with
  | [x], h => exact⟨x, rfl, h⟩
theorem zkF{p : V -> V -> Hp -> VK -> Prop}: ∀ (vs : List V) (H : Hp) (Q : VK) (E : XK), sp2 p vs H Q E -> ∃ x y, vs=[x, y] /\ p x y H Q := by
  intro vs H Q E h
  match vs, h with
  | [x, y], h => exact⟨x, y, rfl, h⟩
structure Dd(K : W.Frag)(mg : Str -> Option Value)(x : Str)(st : Stmt)(ps : List Str): Prop where
  ex : ∃ f fd, Fun K x x st f fd /\ mg x=some (.ref f) /\ Binds K fd ps []
structure Df(P : Program)(w : World)(K : W.Frag)(mg : Str -> Option Value)(base : Heap)(x : Str)(ps : List Str)(k : Nat)(sp : Sp): Prop where
  ex : ∃ f fd, FnOk P w K mg base CX0 k f fd ps sp /\ mg x=some (.ref f) /\ W.keepIn K (.ref f)=true /\ Binds K fd ps []
section
variable {P : Program} {w : World} {K : W.Frag} {mg : Str -> Option Value} {base : Heap} {x a b c d e : Str} {st : Stmt} {N : List Str} {k : Nat}
theorem Df.of{ps : List Str}{sp : Sp}(D : Dd K mg x st ps)(S : FnScope N ps (zh st))(len : ∀ vs H Q E, sp vs H Q E -> vs.length=ps.length)
    (hbody : ∀ (f : Addr) (cdv : Value) (A : Around) (outer : List Env) (s : Shared) (H : Hp) (vs : List V) (Q : VK) (E : XK), Room k (A.deeper (envOfC x (zh st) s.heap.objs.size f cdv)) -> sp vs H Q E ->
      ∃ t, PSs (zlh CX0 P w K mg base N x (zh st) f cdv A outer s H E).nox (zbj st) t /\ t { nx := fun _ H' => Q .non H', rt := Q } (start N vs) H) : Df P w K mg base x ps (k+1) sp := by
  obtain⟨f, fd, F, hm, hb⟩ := D.ex;exact⟨f, fd, F.ok S len (hbody f), hm, F.kp, hb⟩
theorem Df.of2{p : V -> V -> Hp -> VK -> Prop}(D : Dd K mg x st [a, b])(S : FnScope N [a, b] (zh st))(σ0 : V -> V -> St)(hs : ∀ v u, start N [v, u]=σ0 v u)
    (hbody : ∀ (f : Addr) (cdv : Value) (A : Around) (outer : List Env) (s : Shared) (H : Hp) (v u : V) (Q : VK) (E : XK), Room k (A.deeper (envOfC x (zh st) s.heap.objs.size f cdv)) -> p v u H Q ->
      ∃ t, PSs (zlh CX0 P w K mg base N x (zh st) f cdv A outer s H E).nox (zbj st) t /\ t { nx := fun _ H' => Q .non H', rt := Q } (σ0 v u) H) : Df P w K mg base x [a, b] (k+1) (sp2 p) := by
  refine Df.of D S (fun vs H Q E h => ?_) fun f cdv A outer s H vs Q E hr h => ?_
  · obtain⟨x, y, rfl, _⟩ := zkF vs H Q E h
    rfl
  · obtain⟨x, y, rfl, h⟩ := zkF vs H Q E h
    rw [hs];exact hbody f cdv A outer s H x y Q E hr h
end
def tC2(p : V -> V -> Hp -> VK -> Prop)(ta tb : TE): TE := fun σ H Q => ta σ H fun x H1 => tb σ H1 fun y H2 => p x y H2 Q
section
variable {X : Cx} {x a b c d e' : Str} {k j : Nat} {pos pos' : Pos} {e1 e2 e3 e4 e5 : Expr} {t1 t2 t3 t4 t5 : TE}
theorem zoZ{p : V -> V -> Hp -> VK -> Prop}(D : Df X.prog X.w X.K X.mg X.base x [a, b] k (sp2 p))(hr : Room j X.A)(hk : k<=j)(h1 : PE X e1 t1)(h2 : PE X e2 t2)(hg : Gl X x := by rfl)(hdb : (x == ("__debug__" : Str))=false := by decide)
    (q1 : starEach [e1, e2] X.env=(false, eval e1 X.env) :: starEach [e2] X.env := by rfl) (q2 : starEach [e2] X.env=(false, eval e2 X.env) :: starEach [] X.env := by rfl)
    (hpl : (backTo pos (starEach [e2] X.env)).any (·.1)=false := by rfl) : PE X (.Call (.Name x pos') [e1, e2] [] pos) (tC2 p t1 t2) := by
  obtain⟨f, fd, F, hm, kp, hb⟩ := D.ex;intro ze s σ H Q I h;exact zjy (dvs := []) (ds := []) (E := E0) F (hr.mono hk) hg hm kp hb .nil pass0 (za h1 (za h2 zd q2) q1) hdb q1 hpl ze s σ H Q I h
end
theorem Dd.mk'{K : W.Frag}{h : Heap}{mg : Str -> Option Value}(X : K.In h)(G : h.Ns mainGlobals mg){x : Str}{st : Stmt}{ps : List Str}{f : Addr}{oc : Value}{od an : Option Addr}{osl : Array (Option Value)}{kV doc pm cdv ct : Value}
    (a : W.nsIn K mainGlobals x=some (some (.ref f))) (l : K.lookup f=some ⟨oc, od, .func (W.fnOf x x (zcT st) (zbj st) (zh st) .none kV doc pm an cdv ct), osl⟩)
    (c : W.codeIn K cdv x=true) (k : W.keepIn K (.ref f)=true)
    (hb : ∀ (kV doc pm : Value) (an : Option Addr) (cdv ct : Value) (us : List Value), us.length=ps.length -> bindArgs (W.fnOf x x (zcT st) (zbj st) (zh st) .none kV doc pm an cdv ct) ⟨us, []⟩=pure (ps.zip us)) : Dd K mg x st ps :=
  ⟨f, _, zmQ (st := st) l c k, W.mg_of X G a, (zmQ (st := st) l c k).binds hb⟩
theorem zan: bootBuiltins "len" = some (.builtin "len") := by decide +kernel
theorem zE: bootBuiltins "isinstance" = some (.builtin "isinstance") := by decide +kernel
theorem zmM: bootBuiltins "max" = some (.builtin "max") := by decide +kernel
theorem zpj: bootBuiltins "min" = some (.builtin "min") := by decide +kernel
theorem zjw: bootBuiltins "int" = some (.type "int") := by decide +kernel
theorem zhy: bootBuiltins "bool" = some (.type "bool") := by decide +kernel
theorem zfN: bootBuiltins "list" = some (.type "list") := by decide +kernel
theorem za9: bootBuiltins "tuple" = some (.type "tuple") := by decide +kernel
section
variable {H : Hp} {Q : VK}
theorem zl3{i : Nat}{σ : St}: zlb i σ H Q↔match σ[i]? with | some (some v) => Q v H | _ => False := by
  unfold zlb;constructor
  · rintro⟨v, e, q⟩
    rw [e];exact q
  · intro h
    split at h
    · rename_i v e
      exact⟨v, e, h⟩
    · exact h.elim
theorem zkI{g : Int -> Int -> V}{i j : Int}: rI0 g (.int i) (.int j) H Q↔Q (g i j) H :=
  ⟨fun⟨_, _, e1, e2, q⟩ => by cases e1; cases e2; exact q, fun q => ⟨i, j, rfl, rfl, q⟩⟩
theorem zqQ{p : Bool -> Prop}{b : Bool}: (∃ c, V.bl b=V.bl c /\ p c)↔p b := ⟨fun⟨_, e, q⟩ => by cases e; exact q, fun q => ⟨b, rfl, q⟩⟩
end
section
variable {K : W.Frag} {H : Hp} {Q : VK} {x y : V} {d : PyData} {ds : List PyData}
def zqZ(K : W.Frag): List V -> Hp -> VK -> Prop := fun xs H Q => ∃ p ys, xs=[.ref p] /\ (SqL K H p ys \/ SqT K H p ys) /\ Q (.int ys.length) H
end
section
variable {X : Cx}
theorem zj1: CallR X (.builtin "len") (zqZ X.K) := zdP
end
def hid(a : Addr)(H : Hp): Hp := fun b => if b=a then none else H b
theorem zoP{a b : Addr}{H : Hp}(h : b≠a): hid a H b=H b := if_neg h
theorem zlo{a : Addr}{H : Hp}: hid a H a=none := if_pos rfl
theorem Same.laid{H : Hp}{p : Addr}{o : HO}(h : H p=none): Same H (upd H p o) := fun b u e => by
  rw [zG (zO e h)];exact e
section
variable {X : Cx} {ze : List (Addr×Obj)} {σ : St} {H : Hp} {s : Shared} {a : Addr} {m : List (Key×V)}
def zrH(i : Nat)(t : TS): TS := fun D σ H => t { D with nx := fun σ' H' => ∃ a m, σ'[i]? = some (some (.ref a)) /\ H' a=some (.dK m) /\ ∀ ob, D.nx σ' (upd H' a (.frz ob (.dK m))) } σ H
end
end
section
theorem zkB(d : PyData): zoa d "int" = match d with | .int _ => true | .bool _ => true | _ => false := by cases d <;> first | rfl | (show zlg _ _=_; simp [zlg, tyD])
theorem zit(d : PyData): zoa d "bool" = match d with | .bool _ => true | _ => false := by cases d <;> first | rfl | (show zlg _ _=_; simp [zlg, tyD])
theorem zgo(d : PyData): zoa d "tuple" = match d with | .tuple _ => true | _ => false := by cases d <;> first | rfl | (show zlg _ _=_; simp [zlg, tyD])
theorem zh2(d : PyData): zoa d "list" = match d with | .list _ => true | _ => false := by cases d <;> first | rfl | (show zlg _ _=_; simp [zlg, tyD])
def vw: List Addr -> Hp -> Hp
  | [], H => H
  | a :: r, H => hid a (vw r H)
def zod(K : W.Frag): V -> V -> Hp -> VK -> Prop := fun x y H Q => ∃ (a : Addr) (ns : List Int) (i : Int), x=.ref a /\ y=.int i /\ SqL K H a (ns.map V.int) /\ 0<=i /\ ∀ n, Q (.int n) H
theorem znP{ns : List Int}{i : Int}(h0 : 0<=i)(h1 : i<((ns.map V.int).length : Int)): ∃ n, atI (ns.map V.int) i=some (.int n) := by
  obtain⟨k, rfl⟩ := Int.eq_ofNat_of_zero_le h0;have hk : k<ns.length := by rw [length_map] at h1; omega
  exact⟨ns[k], zcX (by rw [getElem?_map, getElem?_eq_getElem hk]; rfl)⟩
theorem zlG{ns : List Int}{lo hi : Option Int}{x : V}(h : x∈zi3 (ns.map V.int) lo hi): ∃ n, x=.int n := by
  have h1 := List.mem_of_mem_drop (List.mem_of_mem_take h);obtain⟨n, _, e⟩ := mem_map.mp h1;exact⟨n, e.symm⟩
theorem Fun.bind1{K : W.Frag}{x a : Str}{st : Stmt}{f : Addr}{fd : FuncData}(F : Fun K x x st f fd)
    (h : ∀ (kV doc pm : Value) (an : Option Addr) (cdv ct : Value) (u : Value), bindArgs (W.fnOf x x (zcT st) (zbj st) (zh st) .none kV doc pm an cdv ct) ⟨[u], []⟩=pure [(a, u)]) : ∀ (s : Shared) (u : Value), BindsTo s fd ⟨[u], []⟩ [(a, u)] := by
  obtain⟨oc, od, kV, doc, pm, an, cdv, ct, osl, rfl, lk, hcd⟩ := F.ex;exact fun s u => .of_eq (h kV doc pm an cdv ct u)
def zqX(K : W.Frag): V -> Hp -> VK -> Prop := fun x H Q => ∃ (a : Addr) (ns : List Int), x=.ref a /\ SqL K H a (ns.map V.int) /\ ns.length<=63 /\ ∀ H', Q (.bl true) H'
theorem walk_law{l : W.OpenLaw}{k : Nat}{q : Program}{loose : List Str}{XP : (Str -> Option Value) -> Heap -> Prop}{YP : World -> Heap -> Prop}{d : DefRec}{K : Params -> W.Frag}(hn : l.most=some 63)(hdf : d.params.defaults=[])
    (hr : Room k callerA) (hY : ∀ (w : World) (h : Heap), YP w h -> (K w.params).In h) (hT : ∀ (w : World) (h : Heap), YP w h -> TabsOk (K w.params) h)
    (F : ∀ (w : World) (mg : Str -> Option Value) (fa : Addr) (h : Heap), (K w.params).In h -> h.Ns mainGlobals mg -> mg d.name=some (.ref fa) ->
      ∃ fd : FuncData, (∀ (s : Shared) (u : Value), BindsTo s fd ⟨[u], []⟩ [("script", u)]) /\ ∀ base : Heap, (K w.params).In base -> base.Ns mainGlobals mg -> FnOk l.prog w (K w.params) mg base CX0 k fa fd ["script"] (sp1 (zqX (K w.params)))) :
    W.WalkO q loose XP YP l.row.toRowW d [] (fun f vs => PySem.call f vs) :=
  L2.walk_of (n := 63) (k := k) (x := "script") (CX := fun _ => CX0) (sp := fun w => sp1 (zqX (K w.params))) hn dz hdf hr hY hT F (fun _ _ a ns hl _ hS => ⟨a, ns, rfl, hS, hl, fun _ => rfl⟩) fun _ _ _ _ _ z => z
theorem Fun.ok1{P : Program}{w : World}{K : W.Frag}{mg : Str -> Option Value}{base : Heap}{x a : Str}{st : Stmt}{f : Addr}{fd : FuncData}{N : List Str}{k : Nat}{p : V -> Hp -> VK -> Prop}(F : Fun K x x st f fd)(S : FnScope N [a] (zh st))(σ0 : V -> St)(hs : ∀ v, start N [v]=σ0 v)
    (hbody : ∀ (cdv : Value) (A : Around) (outer : List Env) (s : Shared) (H : Hp) (v : V) (Q : VK) (E : XK), Room k (A.deeper (envOfC x (zh st) s.heap.objs.size f cdv)) -> p v H Q ->
      ∃ t, PSs (zlh CX0 P w K mg base N x (zh st) f cdv A outer s H E).nox (zbj st) t /\ t { nx := fun _ H' => Q .non H', rt := Q } (σ0 v) H) : FnOk P w K mg base CX0 (k+1) f fd [a] (sp1 p) := by
  refine F.ok S (fun vs H Q E h => ?_) fun cdv A outer s H vs Q E hr h => ?_
  · obtain⟨x, rfl, _⟩ := zkt vs H Q E h
    rfl
  · obtain⟨x, rfl, h⟩ := zkt vs H Q E h
    rw [hs];exact hbody cdv A outer s H x Q E hr h
end
section
mutual
theorem Has.reads{X : Cx}{ze : List (Addr×Obj)}{σ : St}{H : Hp}{s : Shared}(I : Inv X ze σ H s): ∀ (d : PyData) (v : V) (u : Value), Has H d v -> d.canLay0=true -> RelV v u -> ∃ as, Reads s.heap u d as
  | .none, v, u, h, _, r => by
    rw [zbB.mp h] at r;cases (show u=Value.none from r);exact⟨_, .none⟩
  | .bool b, v, u, h, _, r => by
    rw [zbr.mp h] at r;cases (show u=Value.bool b from r);exact⟨_, .bool b⟩
  | .int i, v, u, h, _, r => by
    rw [zbx.mp h] at r;obtain⟨t, q⟩ := (show ∃ t, u=Value.int i t from r);cases q;exact⟨_, .int i t⟩
  | .str x, v, u, h, _, r => by
    rw [zcw.mp h] at r;obtain⟨t, q⟩ := (show ∃ t, u=Value.str x t from r);cases q;exact⟨_, .str x t⟩
  | .list ds, v, u, h, c, r => by
    obtain⟨a, vs, rfl, e, l⟩ := zaH.mp h;cases (show u=Value.ref a from r);obtain⟨_, its, n, rv, e1⟩ := (show ObjOk X.prog X.w H s.heap a (.lst vs) from I.hok a _ e);obtain⟨as, q⟩ := HasL.reads I ds vs its l (by simpa only [PyData.canLay0] using c) rv;exact⟨_, .list e1 rfl rfl (by simpa using q)⟩
  | .tuple ds, v, u, h, c, r => by
    obtain⟨a, vs, rfl, e, l⟩ := zU.mp h;cases (show u=Value.ref a from r);obtain⟨_, its, rv, o, e1, e2, n, e3⟩ := (show ObjOk X.prog X.w H s.heap a (.tup vs) from I.hok a _ e);obtain⟨as, q⟩ := HasL.reads I ds vs its l (by simpa only [PyData.canLay0] using c) rv;exact⟨_, .tuple e1 e2 e3 (by simpa using q)⟩
  | .dict _, _, _, _, c, _ => by simp [PyData.canLay0] at c
theorem HasL.reads{X : Cx}{ze : List (Addr×Obj)}{σ : St}{H : Hp}{s : Shared}(I : Inv X ze σ H s): ∀ (ds : List PyData) (vs : List V) (us : List Value), HasL H ds vs -> PyData.canLayAll0 ds=true -> Vals vs us -> ∃ as, ReadsAll s.heap us ds as
  | [], vs, us, h, _, r => by
    rw [zA.mp h] at r;cases r;exact⟨_, .nil⟩
  | d :: ds, vs, us, h, c, r => by
    obtain⟨v, w', rfl, h1, h2⟩ := zr.mp h;have c' : d.canLay0=true /\ PyData.canLayAll0 ds=true := by simpa [PyData.canLayAll0] using c
    cases r with
    | cons r1 r2 =>
      obtain⟨as, q1⟩ := Has.reads I d v _ h1 c'.1 r1;obtain⟨bs, q2⟩ := HasL.reads I ds w' _ h2 c'.2 r2;exact⟨_, .cons q1 q2⟩
end
def zrg: R2 := fun x y H Q => ∃ d e, Has H d x /\ Has H e y /\ SeqAt.shaped d=true /\ SeqAt.shaped e=true /\ Q (.bl (PyData.eqv d e)) H
def zq4: R2 := fun x y H Q => ∃ d e, Has H d x /\ Has H e y /\ SeqAt.shaped d=true /\ SeqAt.shaped e=true /\ Q (.bl (!PyData.eqv d e)) H
section
variable {X : Cx}
theorem zcJ(hu : X.A.units+64<cLine): OpR X (compareOp .Eq) zrg := by
  intro ze s σ H x y v u Q I rx ry h;obtain⟨d, e, hd, he, sd, se, q⟩ := h;obtain⟨as, q1⟩ := Has.reads I d x v hd (SeqAt.canLay_of_shaped sd) rx;obtain⟨bs, q2⟩ := Has.reads I e y u he (SeqAt.canLay_of_shaped se) ry;exact eq_dataH q1 q2 sd se hu ⟨.bl _, H, I, rfl, q⟩
theorem zcu(hu : X.A.units+64<cLine): OpR X (compareOp .NotEq) zq4 := by
  intro ze s σ H x y v u Q I rx ry h;obtain⟨d, e, hd, he, sd, se, q⟩ := h;obtain⟨as, q1⟩ := Has.reads I d x v hd (SeqAt.canLay_of_shaped sd) rx;obtain⟨bs, q2⟩ := Has.reads I e y u he (SeqAt.canLay_of_shaped se) ry;exact ne_dataH q1 q2 sd se hu ⟨.bl _, H, I, rfl, q⟩
end
section
variable {prog : Program} {w : World} {A : Around} {E : Value -> Shared -> Prop} {s : Shared} {l : Addr}
theorem ziT{xs : Array (Int×Tok)}{Q : Value -> Shared -> Prop}(hh : A.handled=none)(hl : s.heap.IsTuple l (intItems xs))(hne : 0<xs.size)
    (h : ∀ v h' tk, (intItems xs)[argBest (fun i j => decide (numAt xs i<numAt xs j)) (xs.size - 1)]? = some v -> (∀ b o, s.heap.get? b=some o -> h'.get? b=some o) -> Q v { s with heap := h', toks := tk }) :
    wpAny (model prog w) A (call (.builtin "min") [.ref l]) Q E s := by
  have hlt : l<s.heap.objs.size := by obtain⟨o, e, _⟩ := hl; exact lt_size e
  refine call_min_walk (wpAny_pyIter_tuple hl ?_);refine⟨_, [_, l], [_], _, _, _, _, rfl, Walks.tuple (A := A.in1) hh _ l (ne_of_lt hlt) (intItems xs), ⟨⟨_, get?_push_size _ rfl, rfl, rfl⟩, hl.push _⟩, fun c hc => ?_, by simpa [intItems] using hne, CmpOf.ints_lt (numAt xs) (fun _ _ => intItems_at), fun v h' tk hP hk => ?_⟩
  · show c<(s.heap.push _).objs.size
    rw [size_push];rcases mem_cons.mp hc with rfl | hc
    · exact Nat.lt_succ_self _
    · rcases mem_cons.mp hc with rfl | hc
      · exact Nat.lt_succ_of_lt hlt
      · cases hc
  · refine h v h' tk (by simpa [intItems] using hP) fun b o e => hk b o (fun hm => ?_) (get?_push_of_some _ e)
    rcases mem_cons.mp hm with e1 | hm
    · exact absurd (e1▸lt_size e) (lt_irrefl _)
    · cases hm
theorem ziF{xs : Array (Int×Tok)}{Q : Value -> Shared -> Prop}(hh : A.handled=none)(hl : s.heap.IsTuple l (intItems xs))(hne : 0<xs.size)
    (h : ∀ v h' tk, (intItems xs)[argBest (fun i j => decide (numAt xs i>numAt xs j)) (xs.size - 1)]? = some v -> (∀ b o, s.heap.get? b=some o -> h'.get? b=some o) -> Q v { s with heap := h', toks := tk }) :
    wpAny (model prog w) A (call (.builtin "max") [.ref l]) Q E s := by
  have hlt : l<s.heap.objs.size := by obtain⟨o, e, _⟩ := hl; exact lt_size e
  refine call_max_walk (wpAny_pyIter_tuple hl ?_);refine⟨_, [_, l], [_], _, _, _, _, rfl, Walks.tuple (A := A.in1) hh _ l (ne_of_lt hlt) (intItems xs), ⟨⟨_, get?_push_size _ rfl, rfl, rfl⟩, hl.push _⟩, fun c hc => ?_, by simpa [intItems] using hne, CmpOf.ints_gt (numAt xs) (fun _ _ => intItems_at), fun v h' tk hP hk => ?_⟩
  · show c<(s.heap.push _).objs.size
    rw [size_push];rcases mem_cons.mp hc with rfl | hc
    · exact Nat.lt_succ_self _
    · rcases mem_cons.mp hc with rfl | hc
      · exact Nat.lt_succ_of_lt hlt
      · cases hc
  · refine h v h' tk (by simpa [intItems] using hP) fun b o e => hk b o (fun hm => ?_) (get?_push_of_some _ e)
    rcases mem_cons.mp hm with e1 | hm
    · exact absurd (e1▸lt_size e) (lt_irrefl _)
    · cases hm
theorem zeV{vs : List Value}{ns : List Int}(hi : IntsAre vs ns): ∃ xs : Array (Int×Tok), vs.toArray=intItems xs /\ ns=xs.toList.map (·.1) := by
  obtain⟨xs, e⟩ := hi.allInts.items;exact⟨xs, e, by rw [<- hi.numsOf, <- nums_intItems, <- e]⟩
end
def zqH(K : W.Frag): List V -> Hp -> VK -> Prop := fun xs H Q => ∃ p ns, xs=[.ref p] /\ (SqL K H p (ns.map V.int) \/ SqT K H p (ns.map V.int)) /\ ns≠[] /\ ∀ m, m∈ns -> (∀ a, a∈ns -> m<=a) -> Q (.int m) H
def zrl(K : W.Frag): List V -> Hp -> VK -> Prop := fun xs H Q => ∃ p ns, xs=[.ref p] /\ (SqL K H p (ns.map V.int) \/ SqT K H p (ns.map V.int)) /\ ns≠[] /\ ∀ m, m∈ns -> (∀ a, a∈ns -> a<=m) -> Q (.int m) H
section
variable {X : Cx}
theorem zjS(hc : X.calm=true): CallR X (.builtin "min") (zqH X.K) := by
  intro ze s σ H xs us Q I r h;obtain⟨p, ns, rfl, hq, hne, q⟩ := h;obtain⟨u, rfl, rx⟩ := vals1 r;cases (show u=Value.ref p from rx);have done : ∀ (ys : Array (Int×Tok)) (v : Value) (h' : Heap) (tk : Nat), ns=ys.toList.map (·.1) -> 0<ys.size -> (intItems ys)[argBest (fun i j => decide (numAt ys i<numAt ys j)) (ys.size - 1)]? = some v ->
      (∀ b o, s.heap.get? b=some o -> h'.get? b=some o) -> EP X ze σ Q v { s with heap := h', toks := tk } := by
    intro ys v h' tk hns hsz hv hk;obtain⟨t, rfl⟩ := intItems_at hv;obtain⟨h1, h2⟩ := argBest_lt (numAt ys) (ys.size - 1);refine⟨.int _, H, I.kept (t' := tk) hk, ⟨t, rfl⟩, q _ ?_ fun a ha => ?_⟩
    · rw [hns, numAt_eq]; exact getD_mem (by rw [length_map, length_toList]; omega)
    · rw [hns] at ha
      obtain⟨j, hj, rfl⟩ := mem_getD ha;rw [length_map, length_toList] at hj;rw [<- numAt_eq]; exact h2 j (by omega)
  rcases hq with hq | hq
  · obtain⟨its, rv, pl, _⟩ := I.list hq
    obtain⟨ys, e, hns⟩ := zeV (za6 rv);have hsz : 0<ys.size := by
      cases ys with
      | mk l => cases l with
        | nil => exact absurd hns hne
        | cons _ _ => exact Nat.succ_pos _
    exact min_intList (I.ok.hd hc) (by rw [<- e]; exact pl.isList) hsz fun v h' tk hv hk => done ys v h' tk hns hsz hv hk
  · obtain⟨its, rv, pl, _⟩ := I.tuple hq
    obtain⟨ys, e, hns⟩ := zeV (za6 rv);have hsz : 0<ys.size := by
      cases ys with
      | mk l => cases l with
        | nil => exact absurd hns hne
        | cons _ _ => exact Nat.succ_pos _
    exact ziT (I.ok.hd hc) (by rw [<- e]; exact pl) hsz fun v h' tk hv hk => done ys v h' tk hns hsz hv hk
theorem zj5(hc : X.calm=true): CallR X (.builtin "max") (zrl X.K) := by
  intro ze s σ H xs us Q I r h;obtain⟨p, ns, rfl, hq, hne, q⟩ := h;obtain⟨u, rfl, rx⟩ := vals1 r;cases (show u=Value.ref p from rx);have done : ∀ (ys : Array (Int×Tok)) (v : Value) (h' : Heap) (tk : Nat), ns=ys.toList.map (·.1) -> 0<ys.size -> (intItems ys)[argBest (fun i j => decide (numAt ys i>numAt ys j)) (ys.size - 1)]? = some v ->
      (∀ b o, s.heap.get? b=some o -> h'.get? b=some o) -> EP X ze σ Q v { s with heap := h', toks := tk } := by
    intro ys v h' tk hns hsz hv hk;obtain⟨t, rfl⟩ := intItems_at hv;obtain⟨h1, h2⟩ := argBest_gt (numAt ys) (ys.size - 1);refine⟨.int _, H, I.kept (t' := tk) hk, ⟨t, rfl⟩, q _ ?_ fun a ha => ?_⟩
    · rw [hns, numAt_eq]; exact getD_mem (by rw [length_map, length_toList]; omega)
    · rw [hns] at ha
      obtain⟨j, hj, rfl⟩ := mem_getD ha;rw [length_map, length_toList] at hj;rw [<- numAt_eq]; exact h2 j (by omega)
  rcases hq with hq | hq
  · obtain⟨its, rv, pl, _⟩ := I.list hq
    obtain⟨ys, e, hns⟩ := zeV (za6 rv);have hsz : 0<ys.size := by
      cases ys with
      | mk l => cases l with
        | nil => exact absurd hns hne
        | cons _ _ => exact Nat.succ_pos _
    exact max_intList (I.ok.hd hc) (by rw [<- e]; exact pl.isList) hsz fun v h' tk hv hk => done ys v h' tk hns hsz hv hk
  · obtain⟨its, rv, pl, _⟩ := I.tuple hq
    obtain⟨ys, e, hns⟩ := zeV (za6 rv);have hsz : 0<ys.size := by
      cases ys with
      | mk l => cases l with
        | nil => exact absurd hns hne
        | cons _ _ => exact Nat.succ_pos _
    exact ziF (I.ok.hd hc) (by rw [<- e]; exact pl) hsz fun v h' tk hv hk => done ys v h' tk hns hsz hv hk
end
section
variable {K : W.Frag} {o : List Addr} {σ : St} {H0 : Hp} {t t1 t2 t3 t4 t5 : TE} {ta : TA} {tt tu : TT} {d d1 d2 d3 d4 d5 : PyData} {ds : List PyData} {b c : Bool}
def zjr: PyData -> Bool
  | .none => true
  | _ => false
theorem zgA{H : Hp}{v : V}(h : Has H d v): decide (v=.non)=zjr d := by
  cases d with
  | none => rw [zbB.mp h]; rfl
  | bool _ => rw [zbr.mp h]; rfl
  | int _ => rw [zbx.mp h]; rfl
  | str _ => rw [zcw.mp h]; rfl
  | list _ => obtain⟨a, vs, rfl, _⟩ := zaH.mp h; rfl
  | tuple _ => obtain⟨a, vs, rfl, _⟩ := zU.mp h; rfl
  | dict _ => obtain⟨a, vs, rfl, _⟩ := zfH.mp h; rfl
def zq1: R2 := fun x y H Q => y=.non /\ Q (.bl (decide (x=.non))) H
def zpm: R2 := fun x y H Q => y=.non /\ Q (.bl (!decide (x=.non))) H
theorem zoj{X : Cx}: OpR X (compareOp .Is) zq1 := zoY
theorem zlE{X : Cx}: OpR X (compareOp .IsNot) zpm := znI
end
def spD(a b : Int): PyData := .tuple [.int a, .int b]
end
section
theorem zjL{K : W.Frag}{a : Addr}{ns : List Int}{N : Int}{j : Nat}{tb : TS}{D : Ends}{σ : St}{H : Hp}(P : St -> Prop)(h0 : σ[0]? = some (some (.ref a)))(hS : SqL K H a (ns.map V.int))(hlen : ns.length<=63)(hP : P σ)
    (turn : ∀ (n : Int) (σ : St) (H1 H2 : Hp), P σ -> Same H H1 -> Same H1 H2 -> tb { D with nx := fun σ' H' => Same H1 H' /\ P σ', ct := fun σ' H' => Same H1 H' /\ P σ', bk := D.nx } (σ.set j (some (.int n))) H2)
    (done : ∀ (σ : St) (H1 : Hp), P σ -> Same H H1 -> D.nx σ H1) :
    zor (znj K (tOp zon (zol (zjc (tC2 (zod K) (zlb 0) (tC (.int 0))) zoq)) (tSl (zou K) (zlb 0) (ziW (tC (.int 1))) (ziW (tC (.int N)))))) (zho j) tb D σ H := by
  refine⟨_, h0, a, ns, 0, rfl, rfl, hS, by decide, fun n0 => ⟨by show 1<=sizeLine; decide, fun p hp => ?_⟩⟩;have s1 : Same H (upd H p (.lst [.int n0])) := Same.laid hp;refine⟨_, h0, _, rfl, _, rfl, a, _, rfl, s1.seq hS, fun p2 hp2 => ?_⟩;have s2 := s1.trans (Same.laid (o := .lst (zi3 (ns.map V.int) (some 1) (some N))) hp2);have np : p≠p2 := zO zaf hp2;have hz : (zi3 (ns.map V.int) (some 1) (some N)).length<=63 := le_trans (zc5 _ _ _) (by rw [length_map]; exact hlen);refine⟨p, p2, _, _, rfl, rfl, by rw [zG np, zaf], zaf, le_of_lt (small1000 (by simp only [length_cons, length_nil]; omega)), fun p3 hp3 => ?_⟩;have s3 := s2.trans (Same.laid (o := .lst ([V.int n0]++zi3 (ns.map V.int) (some 1) (some N))) hp3);refine⟨p3, rfl, ⟨_, .of zaf⟩, zlm (K := K) (a := p3) (xs := [V.int n0]++zi3 (ns.map V.int) (some 1) (some N)) (fun i σ' H' => Same _ H' /\ P σ') ⟨Same.refl _, hP⟩ (fun i σ H4 _ ⟨s4, _⟩ => .of (s4 _ _ zaf)) ?_ ?_⟩
  · rintro i x σ' H4 hi ⟨s4, p4⟩
    obtain⟨n, rfl⟩ : ∃ n, x=.int n := by
      rcases mem_append.mp (mem_of_getElem? hi) with m | m
      · exact⟨n0, mem_singleton.mp m⟩
      · exact zlG m
    exact turn n σ' _ H4 p4 s3 s4
  · rintro σ' H4 ⟨s4, p4⟩
    exact done σ' H4 p4 (s3.trans s4)
end
section
section
variable {prog : Program} {w : World} {A : Around} {E : Value -> Shared -> Prop} {R : Result -> Shared -> Prop} {s : Shared}
theorem zgO{elt target iter : Expr}{ifs : List Expr}{scope : Scope}{pos : Pos}{it acc : Value}{env : Env}(I : Nat -> Shared -> Prop)
    (turn : ∀ n s, I n s -> wpAny (model prog w) A (pyNext it) (fun r s₁ => match r with
      | none => R (.ok .next) s₁
      | some v => wpAny (model prog w) A (letOwnedTupleGo target it v) (fun _ s₀ => wpAny (model prog w) A (assign target env v) (fun _ s₂ =>
          wpAny (model prog w) A (forIn ifs true fun c r => if r=true then do let ok <- isTrue c env (eval c env); pure (ForInStep.yield ok) else pure (ForInStep.yield r)) (fun ok s₃ =>
            if ok=true then wpAny (model prog w) A (eval elt env) (fun x s₄ =>
              wpAny (model prog w) A (call (.builtin "list.append") [acc, x]) (fun _ s₅ => ∃ m, m<n /\ I m s₅) (fun _ _ => False) s₄) (fun _ _ => False) s₃
            else ∃ m, m<n /\ I m s₃) (fun _ _ => False) s₂) (fun _ _ => False) s₀) (fun _ _ => False) s₁) (fun _ _ => False) s)
    (n : Nat) (h : I n s) :
    codeAny (model prog w) A (.compLoop (.ListComp elt [⟨target, iter, ifs, 0⟩] scope pos) 0 it acc env) R s := by
  have up : ∀ {α : Type} {t : Sem α} {Q : α -> Shared -> Prop} {E' : Value -> Shared -> Prop} {s' : Shared}, wpAny (model prog w) A t Q (fun _ _ => False) s' -> wpAny (model prog w) A t Q E' s' := fun h => wpAny_mono h (fun _ _ q => q) fun _ _ z => z.elim;refine codeAny_loop rfl I (fun n s hI => ?_) n h;show wpAny _ A ((compTurn (.ListComp elt [⟨target, iter, ifs, 0⟩] scope pos) 0 it acc env).onRaise (fun x => do noteFrame x env; theTreesLotGoes x)) _ _ s;refine wpAny_noted ?_;rw [compTurn_list];refine wpAny_bind (wpAny_standAt (wpAny_bind (thn (up (turn n s hI)) fun r s₁ h₁ => ?_)));cases r with
  | none => exact wpAny_pure h₁
  | some v =>
    refine wpAny_bind (thn (up h₁) fun _ s₀ h₀ => ?_);refine wpAny_bind (thn (up h₀) fun _ s₂ h₂ => wpAny_bind (thn (up h₂) fun ok s₃ h₃ => ?_));cases ok with
    | false => exact wpAny_pure ⟨rfl, h₃⟩
    | true =>
      exact wpAny_bind (wpAny_bind (thn (up h₃) fun x s₄ h₄ => wpAny_bind (thn (up h₄) fun _ s₅ h₅ => wpAny_pure (wpAny_pure ⟨rfl, h₅⟩))))
end
def zbh(X : Cx)(scope : Scope)(cl : List (Str×Addr))(C : Addr)(s₃ : Shared)(H₃ : Hp)(fp : List Addr)(N : List Str): Cx where
  prog := X.prog
  w := X.w
  K := X.K
  mg := X.mg
  base := X.base
  A := X.A
  N := N
  s₀ := s₃
  H₀ := H₃
  env := compEnvC scope cl C X.env
  outer := X.stack
  stack := X.stack
  ex := fp
  fn := fun _ => false
  calm := X.calm
  pn := []
  xe := fun _ _ => False
def PTs(X : Cx)(ifs : List Expr)(t : TT): Prop :=
  ∀ (ze : List (Addr×Obj)) (s : Shared) (σ : St) (H : Hp) (Q : Bool -> Hp -> Prop), Inv X ze σ H s -> t σ H Q ->
    wpAny (model X.prog X.w) X.A (forIn ifs true fun c r => if r=true then do let ok <- isTrue c X.env (eval c X.env); pure (ForInStep.yield ok) else pure (ForInStep.yield r)) (TP X ze σ Q) X.xe s
def zpJ: TT := fun _ H Q => Q true H
theorem zaz{X : Cx}: PTs X [] zpJ := fun _ _ _ H _ I h => wpAny_tests_nil ⟨H, I, h⟩
theorem znL{X : Cx}{c : Expr}{t : TT}(h : PT X c t): PTs X [c] t := fun ze s σ H Q I hw => wpAny_tests_one (h ze s σ H Q I hw)
def tau(caps : List (Option Nat))(σ : St): St := caps.map fun o => o.bind fun i => (σ[i]?).join
def zju(caps : List (Option Nat))(wi : TI)(g : TG)(tt : TT)(te : TE): TE := fun σ H Q => wi σ H fun J H1 => ∀ D, H1 D=none -> ∃ W : Nat -> Nat -> St -> Hp -> Prop, (∃ m, W 0 m (tau caps σ) (upd H1 D (.lst []))) /\
  ∀ i m τ H2, W i m τ H2 -> (J.stop i H2 /\ Q (.ref D) H2) \/ (J.go i H2 /\ ∀ x H3, J.yld i H2 x H3 -> g x τ H3 fun τ4 H4 => tt τ4 H4 fun b H5 =>
    if b=true then te τ4 H5 fun v H6 => ∃ xs, H6 D=some (.lst xs) /\ xs.length<sizeLine /\ ∃ m', m'<m /\ W (i+1) m' τ4 (upd H6 D (.lst (xs++[v]))) else ∃ m', m'<m /\ W (i+1) m' τ4 H5)
structure CompOk(X : Cx)(scope : Scope)(cl : List (Str×Addr))(N : List Str)(caps : List (Option Nat)): Prop where
  clos : closureFor scope X.env=pure cl
  sub : ∀ x c, cl.lookup x=some c -> X.env.cells.lookup x=some c
  kind : scope.kind=.function
  cell : ∀ y∈scope.names, y.2≠.cell
  names : ∀ y∈scope.names, y.2=.local -> scope.names.lookup y.1=some .local
  has : ∀ x, ((relabel scope X.env).names.lookup x=some .cell \/ (relabel scope X.env).names.lookup x=some .free) -> ∃ c, cl.lookup x=some c
  cap : ∀ (j i : Nat) (x : Str), caps[j]? = some (some i) -> N[j]? = some x -> X.N[i]? = some x /\ Vis X.env.scope x /\ ¬ X.env.kindOf x=some .local /\ ∃ c, cl.lookup x=some c /\ ((relabel scope X.env).names.lookup x=some .cell \/ (relabel scope X.env).names.lookup x=some .free)
  len : caps.length=N.length
section
variable {X : Cx} {scope : Scope} {cl : List (Str×Addr)} {N : List Str} {caps : List (Option Nat)} {tg iter elt : Expr} {ifs : List Expr} {pos : Pos} {wi : TI} {g : TG} {tt : TT} {te : TE}
theorem zi6{ze : List (Addr×Obj)}{σ : St}{H : Hp}{s : Shared}{fp : List Addr}{h₁ : Heap}{t' : Nat}(c : CompOk X scope cl N caps)(I : Inv X ze σ H s)(f : ∀ b∈fp, FpOk X ze H b)(fo : ∀ b∈fp, ∃ o, s.heap.get? b=some o)
    (hns : h₁.Ns s.heap.objs.size (fun _ => none)) (hk : ∀ b o, s.heap.get? b=some o -> h₁.get? b=some o) :
    Inv (zbh X scope cl s.heap.objs.size s H fp N) [] (tau caps σ) H { s with heap := h₁, toks := t' } := by
  have lt : ∀ b∈fp, b<s.heap.objs.size := fun b hb => by obtain⟨o, e⟩ := fo b hb; exact lt_size e
  have cells : ∀ x k, cl.lookup x=some k -> ∃ v, s.heap.IsCell k v := fun x k e => I.cell x k (c.sub x k e);refine⟨⟨I.ok.mod, c.kind, I.ok.glob, I.ok.blt, le_refl _, fun x y k h1 h2 => I.ok.inj x y k (c.sub x k h1) (c.sub y k h2), fun x hx => c.has x hx, fun x k h _ => absurd (show false=true from h) dz, I.ok.hd, I.ok.frames, .inl rfl,
    fun b hb => ⟨ne_of_lt (lt b hb), fun x k e => (f b hb).2.2.2.2.1 x k (c.sub x k e)⟩, I.bs, le_trans I.ok.bsz I.sz, fun b o e hb => ?_, fun b hb z => ?_, I.stack, I.stkFree⟩,
    rfl, I.bare, Un.kept hk, ⟨_, hns, fun j x v h1 h2 h3 => ?_⟩, fun x k e => ?_, I.hok.fresh (le_refl _), fun x k e => I.freeC x k (c.sub x k e), fun p hp => absurd (show p∈([] : List (Addr×Obj)) from hp) (by simp), I.hok.kept hk, ?_⟩
  · rcases(f b hb).2.2.2.1 with q | q
    · exact I.ok.noex b o e q
    · exact absurd (lt_of_lt_of_le (lt_size e) (le_trans I.ok.bsz q)) (lt_irrefl _)
  · rcases mem_cons.mp (I.stkSub b z) with q | q
    · exact(f b hb).2.1 q
    · exact(f b hb).2.2.1 q
  · have h2' : (caps.map fun o => o.bind fun i => (σ[i]?).join)[j]? = some (some v) := h2
    rw [getElem?_map] at h2';cases e : caps[j]? with
    | none => rw [e] at h2'; cases h2'
    | some oi =>
      rw [e] at h2';have h2'' : (oi.bind fun i => (σ[i]?).join)=some v := Option.some.inj h2';cases oi with
      | none => cases h2''
      | some i =>
        have h4 : (σ[i]?).join=some v := h2'';have h5 : σ[i]? = some (some v) := by
          cases q : σ[i]? with
          | none => rw [q] at h4; cases h4
          | some w' => rw [q] at h4; exact congrArg some h4
        obtain⟨k1, k2, k3, cc, k4, k5⟩ := c.cap j i x e h1;obtain⟨m, hn, hl⟩ := I.loc;obtain⟨u, r, l⟩ := hl i x v k1 h5 k2;refine⟨u, r, .inr ⟨k5, cc, k4, ?_⟩⟩;rcases l with ⟨q, _⟩ | ⟨_, c', hc', hcell⟩
        · exact(k3 q).elim
        · rw [c.sub x cc k4] at hc'
          cases hc';exact hcell.keeps hk
  · obtain⟨v, q⟩ := cells x k e
    exact⟨v, q.keeps hk⟩
  · show (caps.map _).length=N.length
    rw [length_map];exact c.len
theorem zkU{ze : List (Addr×Obj)}{σ τ : St}{H H' : Hp}{s s' : Shared}{h' : Heap}{fp : List Addr}(I : Inv X ze σ H s)(f : ∀ b∈fp, FpOk X ze H b)(J : Inv (zbh X scope cl s.heap.objs.size s H fp N) [] τ H' s')(hs : Heap.SameBut s.heap.objs.size s'.heap h'):
    Inv X ze σ H' { s' with heap := h' } := by
  have hC : H' s.heap.objs.size=none := J.free;have keep : ∀ b o, b≠s.heap.objs.size -> s'.heap.get? b=some o -> h'.get? b=some o := fun b o nb e => hs.extBut b o nb e;have u1 : Un (frs X.stack) (s.heap.objs.size :: fp) H H' s.heap s'.heap := Un.mono J.base (fun b hb => hb) (fun b hb => mem_cons_of_mem _ hb);have u2 : Un (frs X.stack) (s.heap.objs.size :: fp) H' H' s'.heap h' :=
    ⟨fun b o e _ _ hx => keep b o (fun z => hx (by rw [z]; exact mem_cons_self)) e, fun b o e _ _ hx => ⟨o.slots, keep b o (fun z => hx (by rw [z]; exact mem_cons_self)) e⟩, fun _ _ _ n _ => n, fun b o e hx => ⟨o, keep b o (fun z => hx (by rw [z]; exact mem_cons_self)) e⟩, fun _ _ q => q, fun _ _ _ q => q, fun _ _ q => q⟩
  have hok : HOk X.prog X.w H' h' := fun a o e => (J.hok a o e).stay (fun b u hb q => keep b u (fun z => by
    rcases hb with hb | hb
    · rw [<- hb, z, hC] at e; cases e
    · rw [z, hC] at hb; cases hb) q) (fun b q => q) fun b xs q => q
  refine I.call' (s' := { s' with heap := h' }) (ch := s.heap.objs.size :: fp) J.os (u1.trans u2) hok J.bare fun b hb => ?_;rcases mem_cons.mp hb with rfl | hb
  · refine⟨.inr I.sz, ne_of_gt I.lt, fun x k e z => ?_, fun p hp z => ?_⟩
    · obtain⟨v, q⟩ := I.cell x k e
      exact absurd q.lt (by rw [z]; exact lt_irrefl _)
    · exact absurd (lt_size (I.pin p hp).1) (by rw [z]; exact lt_irrefl _)
  · obtain⟨f0, f1, f2, f3, f4, f5⟩ := f b hb
    exact⟨f3, f1, f4, f5⟩
theorem zfo{ze : List (Addr×Obj)}{σ : St}{H2 : Hp}{s2 : Shared}{it : Addr}{fp : List Addr}{tn : Nat -> Heap -> Prop}{J : It}{RR : Value -> Addr -> Result -> Shared -> Prop}{E : Value -> Shared -> Prop}(hc : X.calm=true)(c : CompOk X scope cl N caps)
    (I2 : Inv X ze σ H2 s2) (T : Turn X.prog X.w X.K tg J fp it tn) (st2 : tn 0 s2.heap) (f2 : ∀ b∈fp, FpOk X ze H2 b)
    (hg : ∀ C s H fp, PG (zbh X scope cl C s H fp N) tg g) (ht : ∀ C s H fp, PTs (zbh X scope cl C s H fp N) ifs tt) (he : ∀ C s H fp, PE (zbh X scope cl C s H fp N) elt te)
    (Q : VK) (hq : ∀ D, H2 D=none -> ∃ W : Nat -> Nat -> St -> Hp -> Prop, (∃ m, W 0 m (tau caps σ) (upd H2 D (.lst []))) /\
      ∀ i m τ H2, W i m τ H2 -> (J.stop i H2 /\ Q (.ref D) H2) \/ (J.go i H2 /\ ∀ x H3, J.yld i H2 x H3 -> g x τ H3 fun τ4 H4 => tt τ4 H4 fun b H5 =>
        if b=true then te τ4 H5 fun v H6 => ∃ xs, H6 D=some (.lst xs) /\ xs.length<sizeLine /\ ∃ m', m'<m /\ W (i+1) m' τ4 (upd H6 D (.lst (xs++[v]))) else ∃ m', m'<m /\ W (i+1) m' τ4 H5))
    (hRR : ∀ (D C : Addr) (H' : Hp) (s' : Shared) (m : Str -> Option Value), s'.heap.Ns C m -> FpOk X ze H' C -> (∀ h', Heap.SameBut C s'.heap h' -> Inv X ze σ H' { s' with heap := h' }) -> Q (.ref D) H' -> RR (.ref D) C (.ok .next) s') :
    wpAny (model X.prog X.w) X.A (newList []) (fun acc s₃ => wpAny (model X.prog X.w) X.A (newFunctionEnv scope X.env.globals cl [] X.env.qual none .none (some X.env)) (fun cenv s₄ =>
      codeAny (model X.prog X.w) X.A (.compStart (.ListComp elt [⟨tg, iter, ifs, 0⟩] scope pos) 0 (.ref it) acc { cenv with scope := relabel scope X.env }) (RR acc cenv.locals) s₄) E s₃) E s2 := by
  have hD : H2 s2.heap.objs.size=none := I2.hok.fresh (le_refl _);obtain⟨W, ⟨m0, w0⟩, turn⟩ := hq s2.heap.objs.size hD;have I3 : Inv X ze σ (upd H2 s2.heap.objs.size (.lst [])) { s2 with heap := s2.heap.push { cls := .type "list", data := .seq ([] : List Value).toArray } } := I2.laid (t' := s2.toks) (fun b u e => get?_push_of_some _ e) (le_refl _) ⟨zero_le _, [], 0, .nil, get?_push_size _ rfl⟩;have fo : ∀ b∈fp, ∃ o, s2.heap.get? b=some o := fun b hb => by obtain⟨o, e, _⟩ := T.obj 0 _ st2 b hb; exact⟨o, e⟩
  have f3 : ∀ b∈fp, FpOk X ze (upd H2 s2.heap.objs.size (.lst [])) b := fun b hb => by
    obtain⟨o, e⟩ := fo b hb;refine⟨?_, (f2 b hb).2⟩;rw [zG (ne_of_lt (lt_size e))];exact(f2 b hb).1
  refine wpAny_newObj_type (wpAny_newFunctionEnv c.cell (by intro y hy; simp at hy) (fun h₁ hns₁ hsb₁ => ?_) c.kind);have hk : ∀ b o, (s2.heap.push { cls := .type "list", data := .seq ([] : List Value).toArray }).get? b=some o -> h₁.get? b=some o := fun b o e => hsb₁.extBut b o (ne_of_lt (lt_size e)) (get?_push_of_some _ e);have st4 : tn 0 h₁ := T.keep 0 _ _ st2 fun b _ o e => hk b o (get?_push_of_some _ e);have I4 := zi6 (t' := s2.toks+([] : List (Str×Value)).length) c I3 f3 (fun b hb => by obtain⟨o, e⟩ := fo b hb; exact⟨o, get?_push_of_some _ e⟩) hns₁ hk;have fpok : ∀ {H' : Hp}, (∀ b∈fp, H' b=none) -> ∀ b∈fp, FpOk (zbh X scope cl (s2.heap.push { cls := .type "list", data := .seq ([] : List Value).toArray }).objs.size { s2 with heap := s2.heap.push { cls := .type "list", data := .seq ([] : List Value).toArray } } (upd H2 s2.heap.objs.size (.lst [])) fp N) [] H' b := fun hn b hb =>
    ⟨hn b hb, (I4.ok.exf b hb).1, I4.ok.exfs b hb, .inl hb, (I4.ok.exf b hb).2, fun p hp => absurd (show p∈([] : List (Addr×Obj)) from hp) (by simp)⟩
  have loop : codeAny (model X.prog X.w) X.A (.compLoop (.ListComp elt [⟨tg, iter, ifs, 0⟩] scope pos) 0 (.ref it) (.ref s2.heap.objs.size) (compEnvC scope cl (s2.heap.push { cls := .type "list", data := .seq ([] : List Value).toArray }).objs.size X.env))
      (RR (.ref s2.heap.objs.size) (s2.heap.push { cls := .type "list", data := .seq ([] : List Value).toArray }).objs.size) { s2 with heap := h₁, toks := s2.toks+([] : List (Str×Value)).length } := by
    refine zgO (fun n s' => ∃ i τ H', Inv (zbh X scope cl (s2.heap.push { cls := .type "list", data := .seq ([] : List Value).toArray }).objs.size { s2 with heap := s2.heap.push { cls := .type "list", data := .seq ([] : List Value).toArray } } (upd H2 s2.heap.objs.size (.lst [])) fp N) [] τ H' s' /\ tn i s'.heap /\ (∀ b∈fp, H' b=none) /\ W i n τ H') ?_ m0 ⟨0, _, _, I4, st4, fun b hb => (f3 b hb).1, w0⟩;rintro n s5 ⟨i, τ, H5, I5, st5, fr5, w5⟩;rcases turn i n τ H5 w5 with ⟨stop, qn⟩ | ⟨go, step⟩
    · refine thn (T.done (zbh X scope cl (s2.heap.push { cls := .type "list", data := .seq ([] : List Value).toArray }).objs.size { s2 with heap := s2.heap.push { cls := .type "list", data := .seq ([] : List Value).toArray } } (upd H2 s2.heap.objs.size (.lst [])) fp N) rfl rfl rfl hc i [] s5 τ H5 (fun _ _ => False) I5 (fpok fr5) st5 stop) fun r s6 ⟨hr, I6⟩ => ?_
      subst hr;obtain⟨m, hn, _⟩ := id I6.loc;exact hRR _ _ H5 s6 m hn (I3.fpOk (le_refl _) I6.free) (fun h' hs => zkU I3 f3 I6 hs) qn
    · refine thn (T.item (zbh X scope cl (s2.heap.push { cls := .type "list", data := .seq ([] : List Value).toArray }).objs.size { s2 with heap := s2.heap.push { cls := .type "list", data := .seq ([] : List Value).toArray } } (upd H2 s2.heap.objs.size (.lst [])) fp N) rfl rfl rfl hc i [] s5 τ H5 (fun _ _ => False) I5 (fpok fr5) st5 go) fun r s6 ⟨u, hr, h6⟩ => ?_
      subst hr;refine thn h6 fun _ s7 ⟨x, H7, I7, r7, y7, st7, fr7⟩ => ?_;have I7' := I7.pinned (fpok fr7) (T.obj _ _ st7);refine thn (hg _ _ _ _ _ s7 τ H7 x u _ I7' r7 (step x H7 y7)) fun _ s8 ⟨τ8, H8, I8, q8⟩ => ?_;refine thn (ht _ _ _ _ _ s8 τ8 H8 _ I8 q8) fun ok s9 ⟨H9, I9, q9⟩ => ?_;have again : ∀ {H' : Hp} {s' : Shared} {m : Nat}, Inv (zbh X scope cl (s2.heap.push { cls := .type "list", data := .seq ([] : List Value).toArray }).objs.size { s2 with heap := s2.heap.push { cls := .type "list", data := .seq ([] : List Value).toArray } } (upd H2 s2.heap.objs.size (.lst [])) fp N) ([]++zgl fp s7.heap) τ8 H' s' -> (m<n /\ W (i+1) m τ8 H') ->
          ∃ m, m<n /\ ∃ i τ H', Inv (zbh X scope cl (s2.heap.push { cls := .type "list", data := .seq ([] : List Value).toArray }).objs.size { s2 with heap := s2.heap.push { cls := .type "list", data := .seq ([] : List Value).toArray } } (upd H2 s2.heap.objs.size (.lst [])) fp N) [] τ H' s' /\ tn i s'.heap /\ (∀ b∈fp, H' b=none) /\ W i m τ H' := fun {H' s' m} I' q => by
        refine⟨m, q.1, i+1, τ8, H', I'.unpinned, T.keep _ _ _ st7 fun b hb o e => (I'.pin (b, o) (mem_append_right _ (mem_append_right _ (zcA hb e)))).1, fun b hb => ?_, q.2⟩;obtain⟨o, e, d⟩ := T.obj _ _ st7 b hb;exact(I'.pin (b, o) (mem_append_right _ (mem_append_right _ (zcA hb e)))).2.1
      cases ok with
      | false =>
        rw [if_neg Bool.false_ne_true] at q9 ⊢;obtain⟨m', hm, w9⟩ := q9;exact again I9 ⟨hm, w9⟩
      | true =>
        rw [if_pos rfl] at q9 ⊢;refine thn (he _ _ _ _ _ s9 τ8 H9 _ I9 q9) fun v s10 ⟨z, H10, I10, r10, xs, hx, hz, m', hm, w10⟩ => ?_;refine thn (zch _ s10 τ8 H10 (.ref s2.heap.objs.size) [z] (.ref s2.heap.objs.size) [v] (fun _ H11 => W (i+1) m' τ8 H11) I10 rfl (.cons r10 .nil) ⟨_, xs, z, rfl, rfl, hx, hz, w10⟩) fun _ s11 ⟨_, H11, I11, _, w11⟩ => ?_;exact again I11 ⟨hm, w11⟩
  exact codeAny_compStart_list loop (T.self _ 0 _ _ _ st4 loop)
theorem zaV(hx : ∀ e s, X.xe e s -> False)(hc : X.calm=true)(c : CompOk X scope cl N caps)(hi : PI X tg iter wi)(hg : ∀ C s H fp, PG (zbh X scope cl C s H fp N) tg g)(ht : ∀ C s H fp, PTs (zbh X scope cl C s H fp N) ifs tt)(he : ∀ C s H fp, PE (zbh X scope cl C s H fp N) elt te)
    (hs : ∀ x, foldedSetIterable iter X.env x=pure x := by intro _; rfl) : PE X (.ListComp elt [⟨tg, iter, ifs, 0⟩] scope pos) (zju caps wi g tt te) := by
  intro ze s σ H Q I h;rw [eval_ListComp];refine wpAny_comprehension_free (use := none) rfl hs c.clos c.kind c.names (thn (hi ze s σ H _ I h) fun v s1 h1 => thn h1 fun itv s2 h2 => ?_);obtain⟨it, fp, tn, J, H2, e, I2, T, st2, f2, q2⟩ := h2;subst e;exact zfo (RR := fun acc C => compPost (model X.prog X.w) X.A X.xe none (EP X ze σ Q) acc C) hc c I2 T st2 f2 hg ht he Q q2 fun D C H' s' m hn _ hb q => ⟨m, hn, fun h' hs => ⟨.ref D, H', hb h' hs, rfl, q⟩⟩
theorem zhD{i : Nat}{y : Str}{py spos : Pos}(hx : ∀ e s, X.xe e s -> False)(hc : X.calm=true)(c : CompOk X scope cl N caps)(hN : X.N.Nodup)(hyi : X.N[i]? = some y)(hl : X.env.scope.names.lookup y=some .local)(hi : PI X tg iter wi)(hg : ∀ C s H fp, PG (zbh X scope cl C s H fp N) tg g)
    (ht : ∀ C s H fp, PTs (zbh X scope cl C s H fp N) ifs tt) (he : ∀ C s H fp, PE (zbh X scope cl C s H fp N) elt te)
    (hsw : swapsWith (.ListComp elt [⟨tg, iter, ifs, 0⟩] scope pos) (some (.Name y py)) spos.line X.env=pure true := by rfl)
    (hs : ∀ x, foldedSetIterable iter X.env x=pure x := by intro _; rfl) : PS X (.Assign [.Name y py] (.ListComp elt [⟨tg, iter, ifs, 0⟩] scope pos) spos) (zom (zju caps wi g tt te) (zho i)) := by
  intro ze s σ H D I h;rw [exec_Assign_Name_used _ _ _ _ hsw];refine wpAny_bind (wpAny_standAt (wpAny_bind ?_));show wpAny _ X.A (do let _ <- comprehension (.ListComp elt [⟨tg, iter, ifs, 0⟩] scope pos) scope X.env _ (newList []) false (eval iter X.env) (some (assign (.Name y py) X.env))) _ _ s;refine wpAny_bind (wpAny_mono (wpAny_comprehension_free (use := some (assign (.Name y py) X.env)) (Q := fun _ s' => SP X ze D .next s') rfl hs c.clos c.kind c.names (thn (hi ze s σ H _ I h) fun v s1 h1 => thn h1 fun itv s2 h2 => ?_)) (fun _ s' hq => wpAny_pure (wpAny_pure hq)) fun _ _ e => e);obtain⟨it, fp, tn, J, H2, e, I2, T, st2, f2, q2⟩ := h2;subst e;refine zfo (RR := fun acc C => compPost (model X.prog X.w) X.A X.xe (some (assign (.Name y py) X.env)) (fun _ s' => SP X ze D .next s') acc C) hc c I2 T st2 f2 hg ht he (fun v H' => D.nx (σ.set i (some v)) H') q2 fun Da C H' s' m hn f hb q => ?_;obtain⟨o, es, ep, ho, hd, r⟩ := hn;have I' : Inv X ze σ H' s' := hb s'.heap (Heap.SameBut.refl _ _);have I'' : Inv X (ze++[(C, o)]) σ H' s' := I'.pins_of fun p hp => (mem_append.mp hp).elim (fun z => I'.pin p (mem_append_right _ z)) fun z => by
    cases mem_singleton.mp z;exact⟨ho, f.1, f.2.1, f.2.2.1, fun v e => by rw [hd] at e; cases e⟩
  refine wpAny_assign_Name (zfG I'' hN hyi (.inl hl) (show RelV (V.ref Da) (Value.ref Da) from rfl) (fun s2 J2 => ?_) (.inr hl));refine⟨m, ⟨o, es, ep, (J2.pin (C, o) (mem_append_right _ (mem_append_right _ (mem_singleton.mpr rfl)))).1, hd, r⟩, fun h' hs => ?_⟩;exact⟨_, H', J2.unpinned.turned (t' := s2.toks) (fun b ob nb e => hs.extBut b ob nb e) f.1 f.2.1 f.2.2.2.1 f.2.2.2.2.1 f.2.2.2.2.2, q⟩
end
def zjY(env : Env): List (Str×NameKind) -> List (Str×Addr) -> List (Str×Addr)
  | [], acc => acc
  | (n, k) :: r, acc => zjY env r (if k == .free then (n, (env.cells.lookup n).getD 0) :: acc else acc)
theorem zih{env : Env}{x : Str}{c : Addr}: ∀ {names : List (Str×NameKind)} {acc : List (Str×Addr)}, (x, c)∈zjY env names acc -> (x, c)∈acc \/ ((x, NameKind.free)∈names /\ c=(env.cells.lookup x).getD 0)
  | [], _, h => .inl h
  | (n, k) :: r, acc, h => by
    rcases zih (names := r) h with h | ⟨h, e⟩
    · by_cases hk : k == .free
      · rw [if_pos hk] at h
        rcases mem_cons.mp h with h | h
        · cases h
          have : k=.free := by simpa using hk
          subst this;exact .inr ⟨mem_cons_self, rfl⟩
        · exact .inl h
      · rw [if_neg hk] at h
        exact .inl h
    · exact .inr ⟨mem_cons_of_mem _ h, e⟩
theorem zic{env : Env}{p : Str×Addr}: ∀ {names : List (Str×NameKind)} {acc : List (Str×Addr)}, p∈acc -> p∈zjY env names acc
  | [], _, h => h
  | (n, k) :: r, acc, h => zic (names := r) (by split <;> first | exact mem_cons_of_mem _ h | exact h)
theorem zgd{env : Env}{x : Str}: ∀ {names : List (Str×NameKind)} {acc : List (Str×Addr)}, (x, NameKind.free)∈names -> ∃ c, (x, c)∈zjY env names acc
  | (n, k) :: r, acc, h => by
    rcases mem_cons.mp h with h | h
    · cases h
      exact⟨_, zic (names := r) (by rw [if_pos dz]; exact mem_cons_self)⟩
    · exact zgd (names := r) h
theorem zbU{β : Type}{x : Str}{c : β}: ∀ {l : List (Str×β)}, (x, c)∈l -> ∃ c', l.lookup x=some c'
  | (n, v) :: r, h => by
    cases e : x == n with
    | true => exact⟨v, by rw [lookup_cons, e]⟩
    | false =>
      rcases mem_cons.mp h with h | h
      · cases h
        simp at e
      · obtain⟨c', q⟩ := zbU (l := r) h
        exact⟨c', by rw [lookup_cons, e]; exact q⟩
theorem zfS{env : Env}{scope : Scope}(h : ∀ y∈scope.names, y.2=.free -> (env.cells.lookup y.1).isSome=true): closureFor scope env=pure (zjY env scope.names []) := by
  have go : ∀ (names : List (Str×NameKind)) (acc : List (Str×Addr)), (∀ y∈names, y.2=.free -> (env.cells.lookup y.1).isSome=true) ->
      (forIn names acc (fun(x : Str×NameKind) (cs : List (Str×Addr)) => (if x.2 == .free then (do let c <- cellOf env x.1; pure (ForInStep.yield ((x.1, c) :: cs))) else pure (ForInStep.yield cs) : Sem (ForInStep (List (Str×Addr))))))=(pure (zjY env names acc) : Sem (List (Str×Addr))) := by
    intro names;induction names with
    | nil => intro acc _; rfl
    | cons y r ih =>
      intro acc hy;obtain⟨n, k⟩ := y;rw [forIn_cons];by_cases hk : k == .free
      · have hs := hy (n, k) mem_cons_self (by simpa using hk)
        obtain⟨c, hc⟩ := isSome_iff_exists.mp hs;have hc' : env.cells.lookup n=some c := hc;simp only [hk, if_true, cellOf, hc', pure_bind, zjY, Option.getD_some];exact ih _ fun y hy' => hy y (mem_cons_of_mem _ hy')
      · simp only [hk, Bool.false_eq_true, if_false, pure_bind, zjY]
        exact ih _ fun y hy' => hy y (mem_cons_of_mem _ hy')
  have g := go scope.names [] h;exact(bind_pure _).trans g
def zaS(DN : List Str)(dsc sc : List (Str×NameKind))(N : List Str)(caps : List (Option Nat)): Bool :=
  (caps.length == N.length) && sc.all (fun y => y.2 != .cell && (y.2 != .free || dsc.lookup y.1 == some .cell) && (y.2 != .local || sc.lookup y.1 == some .local)) &&
  (caps.zip N).all fun p => match p.1 with | none => true | some i => DN[i]? == some p.2 && dsc.lookup p.2 == some .cell && sc.lookup p.2 == some .free
theorem zcn{dsc : List (Str×NameKind)}{env : Env}{x : Str}{k : NameKind}: ∀ {names : List (Str×NameKind)}, (names.map fun(n, k) => if (k == .free && env.scope.kind == .function && env.kindOf n == some .cell) then (n, .cell) else (n, k)).lookup x=some k ->
    ∃ k', names.lookup x=some k' /\ (k'=k \/ (k'=.free /\ k=.cell))
  | [], h => by simp at h
  | (n, k0) :: r, h => by
    cases e : x == n with
    | true =>
      refine⟨k0, by rw [lookup_cons, e], ?_⟩;rw [map_cons] at h;dsimp only at h;split at h
      · rename_i hc
        rw [lookup_cons, e] at h;have : k0=.free := by simp at hc; exact hc.1.1
        cases h;exact .inr ⟨this, rfl⟩
      · rw [lookup_cons, e] at h
        cases h;exact .inl rfl
    | false =>
      rw [map_cons] at h;dsimp only at h;have h' : (r.map fun(n, k) => if (k == NameKind.free && env.scope.kind == .function && env.kindOf n == some .cell) then (n, NameKind.cell) else (n, k)).lookup x=some k := by
        split at h <;> (rw [lookup_cons, e] at h; exact h)
      obtain⟨k', q, z⟩ := zcn (dsc := dsc) h';exact⟨k', by rw [lookup_cons, e]; exact q, z⟩
theorem zfi{env : Env}{x : Str}(h1 : env.scope.kind=.function)(h2 : env.kindOf x=some .cell): ∀ {names : List (Str×NameKind)}, names.lookup x=some .free ->
    (names.map fun(n, k) => if (k == .free && env.scope.kind == .function && env.kindOf n == some .cell) then (n, .cell) else (n, k)).lookup x=some .cell
  | [], h => by simp at h
  | (n, k0) :: r, h => by
    rw [map_cons];cases e : x == n with
    | true =>
      rw [lookup_cons, e] at h;cases h;have en : x=n := by simpa using e
      subst en;dsimp only;rw [if_pos (by rw [h1, h2]; decide), lookup_cons, e]
    | false =>
      rw [lookup_cons, e] at h;have ih := zfi h1 h2 (names := r) h;dsimp only;split <;> (rw [lookup_cons, e]; exact ih)
theorem zS{X : Cx}{dsc : Scope}{L : Nat}{scope : Scope}{N : List Str}{caps : List (Option Nat)}(hd : X.env.scope=dsc)(hc : X.env.cells=cellsFrom L dsc.names [])(hdk : dsc.kind=.function)(hk : scope.kind=.function)(h : zaS X.N dsc.names scope.names N caps=true):
    CompOk X scope (zjY X.env scope.names []) N caps := by
  subst hd;simp only [zaS, Bool.and_eq_true, all_eq_true, beq_iff_eq] at h;obtain⟨⟨hl, hs⟩, hz⟩ := h;have hfree : ∀ y∈scope.names, y.2=.free -> X.env.scope.names.lookup y.1=some .cell := fun y hy e => by
    have q := (hs y hy).1.2;rw [e] at q;simpa using q
  have hcell : ∀ y∈scope.names, y.2≠.cell := fun y hy e => by
    have q := (hs y hy).1.1;rw [e] at q;simp at q
  have hsome : ∀ x, X.env.scope.names.lookup x=some .cell -> (X.env.cells.lookup x).isSome=true := fun x e => by
    rw [hc];exact W.cellsFrom_some _ _ _ (.inl e)
  have sub : ∀ x c, (zjY X.env scope.names []).lookup x=some c -> X.env.cells.lookup x=some c := fun x c e => by
    rcases zih (PySem.mem_of_lookup e) with q | ⟨q, ec⟩
    · cases q
    · obtain⟨c', hc'⟩ := isSome_iff_exists.mp (hsome x (hfree _ q rfl))
      rw [ec, hc'];rfl
  refine⟨zfS fun y hy e => hsome y.1 (hfree y hy e), sub, hk, hcell, fun y hy e => ?_, fun x hx => ?_, fun j i x h1 h2 => ?_, hl⟩
  · have q := (hs y hy).2
    rw [e] at q;simpa using q
  · have fin : (x, NameKind.free)∈scope.names -> ∃ c, (zjY X.env scope.names []).lookup x=some c := fun m => by
      obtain⟨c, hm⟩ := zgd (env := X.env) (acc := []) m;exact zbU hm
    rcases hx with hx | hx
    · obtain⟨k', q, z⟩ := zcn (dsc := []) hx
      rcases z with rfl | ⟨rfl, _⟩
      · exact absurd rfl (hcell _ (PySem.mem_of_lookup q))
      · exact fin (PySem.mem_of_lookup q)
    · obtain⟨k', q, z⟩ := zcn (dsc := []) hx
      rcases z with rfl | ⟨_, z⟩
      · exact fin (PySem.mem_of_lookup q)
      · cases z
  · have hm : (some i, x)∈caps.zip N := by
      have : (caps.zip N)[j]? = some (some i, x) := by rw [List.getElem?_zip_eq_some]; exact⟨h1, h2⟩
      exact mem_of_getElem? this
    have q := hz _ hm;simp only [Bool.and_eq_true, beq_iff_eq] at q;obtain⟨⟨q1, q2⟩, q3⟩ := q;obtain⟨c, hmc⟩ := zgd (env := X.env) (acc := []) (PySem.mem_of_lookup q3);obtain⟨c', hc'⟩ := zbU hmc;refine⟨q1, .inr (.inl q2), fun z => ?_, c', hc', .inl (zfi hdk q2 q3)⟩;have z' : X.env.scope.names.lookup x=some .local := z;rw [q2] at z';cases z'
end
section
section
variable {X : Cx}
def zpI: R2 := fun x y H Q => ∃ z n, x=.str z /\ y=.int n /\ z.length<=1000 /\ n<=1000 /\ -1000<=n /\ Q (.str (PySem.Txt.mul z n)) H
theorem zoX{z : Str}{n : Int}(h1 : z.length<=1000)(h2 : n<=1000)(h3 : -1000<=n): PySem.MulOk z n := by
  refine⟨by simp; omega, fun a _ b => ?_, fun a _ => ?_⟩
  · have e : (1000 : Int)<=(2 ^ 63 - 1) / n := by
      rw [Int.le_ediv_iff_mul_le (by omega)];have := Int.mul_le_mul_of_nonneg_left h2 (show (0 : Int)<=1000 by decide);omega
    omega
  · have e : z.length*n.toNat<=1000*1000 := Nat.mul_le_mul h1 (by omega)
    unfold Builtin.Str.tooLong;simp only [decide_eq_false_iff_not, Nat.not_lt];exact le_trans e dz
theorem zn4: OpR X (binaryOp .Mult) zpI := by
  intro ze s σ H x y v u Q I rx ry h;obtain⟨z, n, rfl, rfl, h1, h2, h3, q⟩ := h;obtain⟨t, rfl⟩ := rx;obtain⟨t', rfl⟩ := ry;exact PySem.SB.mul (zoX h1 h2 h3) fun _ k => ⟨.str _, H, I.tok _, ⟨_, rfl⟩, q⟩
def zrb: V -> Option Int -> Option Int -> Hp -> VK -> Prop := fun x lo hi H Q => ∃ z, x=.str z /\ z.length<=sizeLine /\ Q (.str (PySem.Txt.slice z lo hi)) H
theorem zoV: SlR X zrb := by
  intro ze s σ H x v vl vu lo hi sl Q I rx hs pl pu h;obtain⟨z, rfl, hz, q⟩ := h;obtain⟨t, rfl⟩ := rx;refine⟨"str", _, F.slot_str_getitem.lookup, typeIs_str _ _ _, ?_⟩;have fin : ∀ (a b : Option (Int×Tok)), a.map (·.1)=lo -> b.map (·.1)=hi -> s.heap.IsSlice sl a b none -> wpAny (model X.prog X.w) X.A (getItem (.str z t) (.ref sl)) (EP X ze σ Q) X.xe s := fun a b e1 e2 hsl => by
    subst e1 e2;exact wpAny_getItem_str_slice (l := a) (u := b) (st := none) hsl rfl (post_val_or_str ⟨le_trans (PySem.Txt.slice_le z _ _) hz, fun _ k => ⟨.str _, H, I.tok _, ⟨_, rfl⟩, q⟩⟩)
  cases pl with
  | none =>
    cases pu with
    | none => exact fin none none rfl rfl hs
    | int j tj => exact fin none (some (j, tj)) rfl rfl hs
  | int i ti =>
    cases pu with
    | none => exact fin (some (i, ti)) none rfl rfl hs
    | int j tj => exact fin (some (i, ti)) (some (j, tj)) rfl rfl hs
theorem zfx: ∀ {zs : List Str} {us : List Value}, Vals (zs.map V.str) us -> StrsAre us zs
  | [], _, .nil => .nil
  | z :: zs, _, .cons r t => by
    obtain⟨tk, rfl⟩ := r;exact .cons z tk (zfx t)
def zpx(K : W.Frag): V -> List V -> Hp -> VK -> Prop := fun x vs H Q => ∃ z a zs, x=.str z /\ vs=[.ref a] /\ SqL K H a (zs.map V.str) /\ z.length<=16 /\ zs.length<=1000 /\ (∀ y∈zs, y.length<=1000) /\ Q (.str (PySem.Txt.join z zs)) H
theorem zhg{zs : List Str}(h : ∀ y∈zs, y.length<=1000): (zs.map (·.length)).sum<=zs.length*1000 := by
  induction zs with
  | nil => simp
  | cons z zs ih =>
    have h1 := h z mem_cons_self;have h2 := ih fun y hy => h y (mem_cons_of_mem _ hy);simp only [map_cons, List.sum_cons, length_cons, Nat.add_mul, Nat.one_mul];omega
theorem znl: MtR X "str.join" (zpx X.K) := by
  intro ze s σ H x vs v us Q I rx rv h;obtain⟨z, a, zs, rfl, rfl, hq, hz, hn, hl, q⟩ := h;obtain⟨t, rfl⟩ := rx;obtain⟨u, rfl, r1⟩ := rv.one;cases r1;obtain⟨its, r, pl, hsz⟩ := I.list hq;have hs := zhg hl;refine join_listW pl.isList (by simpa using zfx r) hz (by omega) fun _ k => ⟨.str _, H, I.tok _, ⟨_, rfl⟩, q⟩
end
section
variable {K : W.Frag} {o : List Addr} {σ : St} {H0 : Hp} {t : TE} {ta : TA} {ds : List PyData}
def zd6(lo : Int)(n : Nat): List PyData := (List.range n).map fun k : Nat => .int (lo+k)
theorem zW{lo : Int}{n : Nat}: (zd6 lo n).length=n := by simp [zd6]
theorem zbg{lo : Int}{n i : Nat}{d : PyData}(h : (zd6 lo n)[i]? = some d): i<n /\ d=.int (lo+i) := by
  have hi : i<n := by
    have := List.getElem?_eq_some_iff.mp h;obtain⟨hl, _⟩ := this
    rwa [zW] at hl
  refine⟨hi, ?_⟩;simp only [zd6, getElem?_map, List.getElem?_range hi, map_some, Option.some.injEq] at h;exact h.symm
end
theorem zlz{y : Str}{zs : List Str}(hy : y.length<=16)(hz : ∀ z∈zs, z.length<=1000): (PySem.Txt.join y zs).length<=zs.length*1016 := by
  show (Builtin.Str.glued y zs).length<=_;rw [StrLaws.glued_eq_join];cases zs with
  | nil => exact zero_le _
  | cons a r =>
    rw [len_join_cons];have h1 := zhg hz;have h2 : r.length*y.length<=r.length*16 := Nat.mul_le_mul_left _ hy;simp only [length_cons] at h1 ⊢;omega
def zei{α : Type}(xs : List α)(lo hi : Option Int): List α := (xs.drop (HT.sIx xs.length 0 lo)).take (HT.sIx xs.length xs.length hi - HT.sIx xs.length 0 lo)
theorem HasL.drop{H : Hp}: ∀ {ds : List PyData} {vs : List V} (n : Nat), HasL H ds vs -> HasL H (ds.drop n) (vs.drop n)
  | ds, vs, 0, h => h
  | [], vs, n+1, h => by rw [zA.mp h]; exact zA.mpr rfl
  | d :: ds, vs, n+1, h => by
    obtain⟨v, r, rfl, _, l⟩ := zr.mp h;exact HasL.drop n l
theorem HasL.take{H : Hp}: ∀ {ds : List PyData} {vs : List V} (n : Nat), HasL H ds vs -> HasL H (ds.take n) (vs.take n)
  | ds, vs, 0, h => zA.mpr rfl
  | [], vs, n+1, h => by rw [zA.mp h]; exact zA.mpr rfl
  | d :: ds, vs, n+1, h => by
    obtain⟨v, r, rfl, q, l⟩ := zr.mp h;exact zr.mpr ⟨v, _, rfl, q, HasL.take n l⟩
theorem HasL.cut{H : Hp}{ds : List PyData}{vs : List V}(lo hi : Option Int)(h : HasL H ds vs): HasL H (zei ds lo hi) (zi3 vs lo hi) := by
  unfold zei zi3;rw [h.length];exact(h.drop _).take _
theorem HasL.rev{H : Hp}: ∀ {ds : List PyData} {vs : List V}, HasL H ds vs -> HasL H ds.reverse vs.reverse
  | [], vs, h => by rw [zA.mp h]; exact zA.mpr rfl
  | d :: ds, vs, h => by
    obtain⟨v, r, rfl, q, l⟩ := zr.mp h;rw [reverse_cons, reverse_cons];exact(HasL.rev l).append (zr.mpr ⟨v, [], rfl, q, zA.mpr rfl⟩)
end
section
theorem zmZ: ∀ {l : List Addr} {H : Hp} {b : Addr} {u : HO}, vw l H b=some u↔b∉l /\ H b=some u
  | [], H, b, u => by simp [vw]
  | a :: r, H, b, u => by
    show hid a (vw r H) b=some u↔_;by_cases h : b=a
    · subst h; simp [zlo]
    · rw [zoP h, zmZ]; simp [h]
def vx(h o : List Addr)(H : Hp): Hp := vw (h++o) H
theorem zP{h o : List Addr}{H : Hp}{b : Addr}{u : HO}: vx h o H b=some u↔b∉h /\ b∉o /\ H b=some u := by
  unfold vx;rw [zmZ];simp [and_assoc]
theorem zak{h o : List Addr}{H : Hp}: Same (vx h o H) H := fun b u e => (zP.mp e).2.2
theorem zeA{h o : List Addr}{H H' : Hp}(s : Same H H'): Same (vx h o H) (vx h o H') := fun b u e => by
  obtain⟨h1, h2, h3⟩ := zP.mp e;exact zP.mpr ⟨h1, h2, s b u h3⟩
structure Ex(o : List Addr)(H : Hp)(o' : List Addr)(H' : Hp): Prop where
  pre : ∃ r, o'=o++r
  kp : ∀ b u, b∉o -> H b=some u -> b∉o' /\ H' b=some u
section
variable {h o o' o'' : List Addr} {H H' H'' : Hp} {S : List (List PyData)} {p a : Addr}
theorem Ex.refl: Ex o H o H := ⟨⟨[], by simp⟩, fun _ _ a b => ⟨a, b⟩⟩
theorem Ex.trans(a : Ex o H o' H')(b : Ex o' H' o'' H''): Ex o H o'' H'' := by
  obtain⟨⟨r, e⟩, ka⟩ := a;obtain⟨⟨t, e'⟩, kb⟩ := b;refine⟨⟨r++t, by rw [e', e, append_assoc]⟩, fun b u h1 h2 => ?_⟩;obtain⟨h3, h4⟩ := ka b u h1 h2;exact kb b u h3 h4
theorem Ex.vx(e : Ex o H o' H'): Same (L2.vx h o H) (L2.vx h o' H') := fun b u q => by
  obtain⟨h1, h2, h3⟩ := zP.mp q;obtain⟨h4, h5⟩ := e.kp b u h2 h3;exact zP.mpr ⟨h1, h4, h5⟩
structure ExH(h o : List Addr)(H : Hp)(o' : List Addr)(H' : Hp): Prop where
  pre : ∃ r, o'=o++r
  kp : ∀ b u, b∉h -> b∉o -> H b=some u -> b∉o' /\ H' b=some u
theorem Ex.hid(e : Ex o H o' H'): ExH h o H o' H' := ⟨e.pre, fun b u _ => e.kp b u⟩
theorem ExH.refl: ExH h o H o H := Ex.refl.hid
theorem ExH.trans(a : ExH h o H o' H')(b : ExH h o' H' o'' H''): ExH h o H o'' H'' := by
  obtain⟨⟨r, e⟩, ka⟩ := a;obtain⟨⟨t, e'⟩, kb⟩ := b;refine⟨⟨r++t, by rw [e', e, append_assoc]⟩, fun b u h0 h1 h2 => ?_⟩;obtain⟨h3, h4⟩ := ka b u h0 h1 h2;exact kb b u h0 h3 h4
theorem ExH.vx(e : ExH h o H o' H'): Same (L2.vx h o H) (L2.vx h o' H') := fun b u q => by
  obtain⟨h1, h2, h3⟩ := zP.mp q;obtain⟨h4, h5⟩ := e.kp b u h1 h2 h3;exact zP.mpr ⟨h1, h4, h5⟩
theorem Ex.of_same(s : Same H H'): Ex o H o H' := ⟨⟨[], by simp⟩, fun b u h e => ⟨h, s b u e⟩⟩
theorem zcW{α : Type}{l t : List α}{k : Nat}{a : α}(q : l[k]? = some a): (l++t)[k]? = some a := by
  obtain⟨hk, _⟩ := List.getElem?_eq_some_iff.mp q;rw [getElem?_append_left hk];exact q
def exO(a C : Addr)(d : Option Addr): HO := .ext fun h => ∃ o, h.get? a=some o /\ o.cls=.ref C /\ o.dict=d /\ ∃ vs, o.data=.fields vs
def xw(dx : Addr)(fs : List (Str×V)): HO := .ext fun h => ∃ mA, h.Ns1 dx mA /\ (∀ f, RelO (fs.lookup f) (mA f)) /\ PySem.Within mA (fs.map (·.1))
def HasE(H : Hp)(C : Addr)(fs : List (Str×PyData))(v : V): Prop := ∃ a d, v=.ref a /\ H a=some (exO a C d) /\ ∀ f dt, fs.lookup f=some dt -> ∃ dx vs u, d=some dx /\ H dx=some (xw dx vs) /\ vs.lookup f=some u /\ Has H dt u
theorem HasE.mono{H H' : Hp}{C : Addr}{fs : List (Str×PyData)}{v : V}(s : Same H H')(q : HasE H C fs v): HasE H' C fs v := by
  obtain⟨a, d, e, ha, hf⟩ := q;refine⟨a, d, e, s _ _ ha, fun f dt l => ?_⟩;obtain⟨dx, vs, u, e1, e2, e3, e4⟩ := hf f dt l;exact⟨dx, vs, u, e1, s _ _ e2, e3, Has.mono s _ _ e4⟩
inductive XV where
  | d (d : PyData)
  | l (k : Nat)
  | o (v : V)
  | x (C : Addr) (fs : List (Str×PyData))
def HasX(h o : List Addr)(H : Hp): XV -> V -> Prop
  | .d d, v => Has (vx h o H) d v
  | .l k, v => ∃ a, o[k]? = some a /\ v=.ref a
  | .o w, v => v=w
  | .x C fs, v => HasE (vx h o H) C fs v
theorem HasX.mono(e : Ex o H o' H'): ∀ {x : XV} {v : V}, HasX h o H x v -> HasX h o' H' x v
  | .d d, v, q => Has.mono e.vx d v q
  | .l k, v, ⟨a, q, r⟩ => by
    obtain⟨t, rfl⟩ := e.pre;exact⟨a, zcW q, r⟩
  | .o w, v, q => q
  | .x C fs, v, q => HasE.mono e.vx q
def HasXs(h o : List Addr)(H : Hp): List XV -> List V -> Prop
  | [], vs => vs=[]
  | x :: xs, vs => ∃ v r, vs=v :: r /\ HasX h o H x v /\ HasXs h o H xs r
abbrev Sto := List (List PyData)
inductive MO where
  | l (vs : List V)
  | k (m : List (Key×V))
  | t (m : List (List Key×V))
  | x (a : Addr) (ob : Obj)
def MO.ho: MO -> HO
  | .l vs => .lst vs
  | .k m => .dK m
  | .t m => .dT m
  | .x a ob => obO a ob
structure RepS(h o : List Addr)(H : Hp)(S : Sto): Prop where
  len : S.length=o.length
  nd : o.Nodup
  dis : ∀ a∈o, a∉h
  hal : ∀ b∈h, ∃ u : MO, H b=some u.ho
  cont : ∀ (k : Nat) (a : Addr) (ds : List PyData), o[k]? = some a -> S[k]? = some ds -> ∃ vs, H a=some (.lst vs) /\ HasL (vx h o H) ds vs
theorem zlV{α β : Type}{l : List α}{t : List β}{k : Nat}{a : α}(hl : t.length=l.length)(q : l[k]? = some a): ∃ b, t[k]? = some b := by
  obtain⟨hk, _⟩ := List.getElem?_eq_some_iff.mp q;exact⟨t[k]'(by omega), getElem?_eq_getElem _⟩
theorem RepS.oal(r : RepS h o H S): ∀ a∈o, ∃ u, H a=some (.lst u) := fun a ha => by
  obtain⟨k, hk⟩ := mem_iff_getElem?.mp ha;obtain⟨ds, e⟩ := zlV r.len hk;obtain⟨vs, e', _⟩ := r.cont k a ds hk e;exact⟨_, e'⟩
theorem RepS.oam(r : RepS h o H S): ∀ a∈o, ∃ u : MO, H a=some u.ho := fun a ha => let ⟨u, e⟩ := r.oal a ha; ⟨.l u, e⟩
theorem RepS.fresh(r : RepS h o H S)(hp : H p=none): p∉h /\ p∉o := by
  constructor
  · intro m
    obtain⟨u, e⟩ := r.hal p m;rw [hp] at e;cases e
  · intro m
    obtain⟨u, e⟩ := r.oal p m;rw [hp] at e;cases e
theorem RepS.same(r : RepS h o H S)(s : Same H H'): RepS h o H' S where
  len := r.len
  nd := r.nd
  dis := r.dis
  hal := fun b m => by obtain⟨u, e⟩ := r.hal b m; exact⟨u, s b _ e⟩
  cont := fun k a ds e1 e2 => by
    obtain⟨vs, e3, l⟩ := r.cont k a ds e1 e2;exact⟨vs, s _ _ e3, HasL.mono (zeA s) _ _ l⟩
theorem RepS.laid{u : HO}(r : RepS h o H S)(hp : H p=none): vx h o (upd H p u) p=some u := by
  obtain⟨h1, h2⟩ := r.fresh hp;exact zP.mpr ⟨h1, h2, zaf⟩
theorem Ex.new{u : HO}(r : RepS h o H S)(hp : H p=none): Ex o H (o++[p]) (upd H p u) := by
  refine⟨⟨[p], rfl⟩, fun b w hb e => ?_⟩;have ne : b≠p := zO e hp;exact⟨by simp [hb, ne], by rw [zG ne]; exact e⟩
theorem zbL{α : Type}{l : List α}{a : α}(h : l.Nodup)(n : a∉l): (l++[a]).Nodup := by
  rw [nodup_append];refine⟨h, by simp, fun x hx y hy e => ?_⟩;rw [mem_singleton] at hy;subst hy;subst e;exact n hx
theorem RepS.new{ds : List PyData}{vs : List V}(r : RepS h o H S)(hp : H p=none)(l : HasL (vx h o H) ds vs): RepS h (o++[p]) (upd H p (.lst vs)) (S++[ds]) := by
  obtain⟨h1, h2⟩ := r.fresh hp;have ex : Ex o H (o++[p]) (upd H p (.lst vs)) := Ex.new r hp;refine⟨by simp [r.len], zbL r.nd h2, fun a ha => ?_, fun b hb => ?_, fun k a es e1 e2 => ?_⟩
  · rcases mem_append.mp ha with ha | ha
    · exact r.dis a ha
    · rw [mem_singleton.mp ha]; exact h1
  · obtain⟨u, e⟩ := r.hal b hb
    exact⟨u, by rw [zG (zO e hp)]; exact e⟩
  · by_cases hk : k<o.length
    · rw [getElem?_append_left hk] at e1
      rw [getElem?_append_left (by rw [r.len]; exact hk)] at e2;obtain⟨ws, e3, l3⟩ := r.cont k a es e1 e2;refine⟨ws, ?_, l3.mono ex.vx⟩;rw [zG (zO e3 hp)];exact e3
    · have hk' : k=o.length := by
        obtain⟨q, _⟩ := List.getElem?_eq_some_iff.mp e1;rw [length_append, length_singleton] at q;omega
      subst hk';rw [getElem?_concat_length] at e1;rw [<- r.len, getElem?_concat_length] at e2;cases e1;cases e2;exact⟨vs, zaf, l.mono ex.vx⟩
theorem Ex.upd{k : Nat}{u : HO}(e : o[k]? = some a): Ex o H o (L2.upd H a u) :=
  ⟨⟨[], by simp⟩, fun b w hb eb => ⟨hb, by rw [zG (fun z => hb (by rw [z]; exact mem_of_getElem? e))]; exact eb⟩⟩
theorem zdl{l : List Addr}(h : l.Nodup){i j : Nat}{a : Addr}(e1 : l[i]? = some a)(e2 : l[j]? = some a): i=j := by
  obtain⟨hi, e1⟩ := List.getElem?_eq_some_iff.mp e1;obtain⟨hj, e2⟩ := List.getElem?_eq_some_iff.mp e2;exact(List.getElem_inj h).mp (e1.trans e2.symm)
theorem RepS.upd{k : Nat}{ds : List PyData}{vs : List V}(r : RepS h o H S)(e : o[k]? = some a)(l : HasL (vx h o H) ds vs): RepS h o (L2.upd H a (.lst vs)) (S.set k ds) := by
  have ex : Ex o H o (L2.upd H a (.lst vs)) := Ex.upd e;refine⟨by simp [r.len], r.nd, r.dis, fun b hb => ?_, fun j b es e1 e2 => ?_⟩
  · obtain⟨u, eb⟩ := r.hal b hb
    have ne : b≠a := fun z => r.dis a (mem_of_getElem? e) (z▸hb);exact⟨u, by rw [zG ne]; exact eb⟩
  · by_cases hj : j=k
    · subst hj
      rw [e1] at e;cases e;obtain⟨hk, _⟩ := List.getElem?_eq_some_iff.mp e1;rw [getElem?_set_self (by rw [r.len]; exact hk)] at e2;cases e2;exact⟨vs, zaf, l.mono ex.vx⟩
    · rw [getElem?_set_ne (Ne.symm hj)] at e2
      obtain⟨ws, e3, l3⟩ := r.cont j b es e1 e2;have ne : b≠a := fun z => hj (zdl r.nd e1 (z▸e));exact⟨ws, by rw [zG ne]; exact e3, l3.mono ex.vx⟩
abbrev XE := List (Option XV)
structure RepE(h o : List Addr)(H : Hp)(δ : XE)(σ : St): Prop where
  len : δ.length=σ.length
  get : ∀ (i : Nat) x, δ[i]? = some (some x) -> ∃ v, σ[i]? = some (some v) /\ HasX h o H x v
variable {δ : XE} {σ : St}
theorem RepE.mono(r : RepE h o H δ σ)(e : Ex o H o' H'): RepE h o' H' δ σ := ⟨r.len, fun i x q => by
  obtain⟨v, e1, e2⟩ := r.get i x q;exact⟨v, e1, e2.mono e⟩⟩
theorem RepE.set{i : Nat}{x : XV}{v : V}(r : RepE h o H δ σ)(q : HasX h o H x v): RepE h o H (δ.set i (some x)) (σ.set i (some v)) := by
  refine⟨by simp [r.len], fun j y e => ?_⟩;rw [List.getElem?_set] at e ⊢;by_cases hij : i=j
  · rw [if_pos hij] at e ⊢
    by_cases hl : i<δ.length
    · rw [if_pos hl] at e
      rw [if_pos (by rw [<- r.len]; exact hl)];cases e;exact⟨v, rfl, q⟩
    · rw [if_neg hl] at e
      cases e
  · rw [if_neg hij] at e ⊢
    exact r.get j y e
def zmH(caps : List (Option Nat))(δ : XE): XE := caps.map fun o => o.bind fun i => (δ[i]?).join
theorem RepE.tau{caps : List (Option Nat)}(r : RepE h o H δ σ): RepE h o H (zmH caps δ) (L2.tau caps σ) := by
  refine⟨by simp [zmH, L2.tau], fun i x e => ?_⟩;unfold zmH at e;unfold L2.tau;rw [getElem?_map] at e ⊢;cases hc : caps[i]? with
  | none => rw [hc] at e; cases e
  | some c =>
    rw [hc] at e;cases c with
    | none => cases e
    | some j =>
      have e' : (δ[j]?).join=some x := by simpa using e
      have e2 : δ[j]? = some (some x) := by
        cases hd : δ[j]? with
        | none => rw [hd] at e'; cases e'
        | some y => rw [hd] at e'; exact congrArg some (by simpa using e')
      obtain⟨v, e3, e4⟩ := r.get j x e2;exact⟨v, by simp [e3], e4⟩
end
abbrev RX := XV -> Sto -> Prop
abbrev DE := XE -> Sto -> RX -> Prop
abbrev DT := XE -> Sto -> (Bool -> Sto -> Prop) -> Prop
abbrev DA := XE -> Sto -> (List XV -> Sto -> Prop) -> Prop
abbrev D2 := XV -> XV -> Sto -> RX -> Prop
def Cn(h o : List Addr)(H : Hp)(R : RX)(Q : VK): Prop := ∀ o' H' S' x v, Ex o H o' H' -> RepS h o' H' S' -> HasX h o' H' x v -> R x S' -> Q v H'
theorem Cn.pre{h o o' : List Addr}{H H' : Hp}{R : RX}{Q : VK}(c : Cn h o H R Q)(e : Ex o H o' H'): Cn h o' H' R Q := fun o2 H2 S2 x v e2 => c o2 H2 S2 x v (e.trans e2)
def RE(t : TE)(dt : DE): Prop := ∀ (h o : List Addr) (H : Hp) (δ : XE) (σ : St) (S : Sto) (R : RX) (Q : VK), RepE h o H δ σ -> RepS h o H S -> dt δ S R -> Cn h o H R Q -> t σ H Q
def RT(t : TT)(dt : DT): Prop := ∀ (h o : List Addr) (H : Hp) (δ : XE) (σ : St) (S : Sto) (R : Bool -> Sto -> Prop) (Q : Bool -> Hp -> Prop), RepE h o H δ σ -> RepS h o H S -> dt δ S R ->
  (∀ o' H' S' b, Ex o H o' H' -> RepS h o' H' S' -> R b S' -> Q b H') -> t σ H Q
def RA(t : TA)(dt : DA): Prop := ∀ (h o : List Addr) (H : Hp) (δ : XE) (σ : St) (S : Sto) (R : List XV -> Sto -> Prop) (Q : List V -> Hp -> Prop), RepE h o H δ σ -> RepS h o H S -> dt δ S R ->
  (∀ o' H' S' xs vs, Ex o H o' H' -> RepS h o' H' S' -> HasXs h o' H' xs vs -> R xs S' -> Q vs H') -> t σ H Q
def RO(r : R2)(rd : D2): Prop := ∀ (h o : List Addr) (H : Hp) (S : Sto) (x y : XV) (v u : V) (R : RX) (Q : VK), RepS h o H S -> HasX h o H x v -> HasX h o H y u -> rd x y S R -> Cn h o H R Q -> r v u H Q
def RU(r : V -> Hp -> VK -> Prop)(rd : XV -> Sto -> RX -> Prop): Prop := ∀ (h o : List Addr) (H : Hp) (S : Sto) (x : XV) (v : V) (R : RX) (Q : VK), RepS h o H S -> HasX h o H x v -> rd x S R -> Cn h o H R Q -> r v H Q
def RC(r : List V -> Hp -> VK -> Prop)(rd : List XV -> Sto -> RX -> Prop): Prop := ∀ (h o : List Addr) (H : Hp) (S : Sto) (xs : List XV) (vs : List V) (R : RX) (Q : VK), RepS h o H S -> HasXs h o H xs vs -> rd xs S R -> Cn h o H R Q -> r vs H Q
def asI: XV -> (Int -> Prop) -> Prop
  | .d (.int i), k => k i
  | _, _ => False
def asB: XV -> (Bool -> Prop) -> Prop
  | .d (.bool i), k => k i
  | _, _ => False
def asS: XV -> (Str -> Prop) -> Prop
  | .d (.str i), k => k i
  | _, _ => False
def asT: XV -> (List PyData -> Prop) -> Prop
  | .d (.tuple i), k => k i
  | _, _ => False
def zlp(S : Sto): XV -> Option (List PyData)
  | .d (.list ds) => some ds
  | .l k => S[k]?
  | _ => none
def asL(S : Sto)(x : XV)(k : List PyData -> Prop): Prop := ∃ ds, zlp S x=some ds /\ k ds
def zcE(S : Sto): XV -> Option PyData
  | .d d => some d
  | .l k => (S[k]?).map .list
  | .o _ => none
  | .x _ _ => none
def asD(x : XV)(k : PyData -> Prop): Prop := match x with
  | .d d => k d
  | _ => False
theorem zaw{x : XV}{k : Int -> Prop}(h : asI x k): ∃ i, x=.d (.int i) /\ k i := by
  unfold asI at h;split at h
  · exact⟨_, rfl, h⟩
  · exact h.elim
theorem zfl{x : XV}{k : Bool -> Prop}(h : asB x k): ∃ i, x=.d (.bool i) /\ k i := by
  unfold asB at h;split at h
  · exact⟨_, rfl, h⟩
  · exact h.elim
theorem zlc{x : XV}{k : Str -> Prop}(h : asS x k): ∃ i, x=.d (.str i) /\ k i := by
  unfold asS at h;split at h
  · exact⟨_, rfl, h⟩
  · exact h.elim
theorem zha{x : XV}{k : List PyData -> Prop}(h : asT x k): ∃ i, x=.d (.tuple i) /\ k i := by
  unfold asT at h;split at h
  · exact⟨_, rfl, h⟩
  · exact h.elim
theorem zdO{x : XV}{k : PyData -> Prop}(h : asD x k): ∃ i, x=.d i /\ k i := by
  unfold asD at h;split at h
  · exact⟨_, rfl, h⟩
  · exact h.elim
section
variable {h o : List Addr} {H : Hp} {S : Sto} {x : XV} {v : V} {i : Int} {b : Bool} {z : Str} {ds : List PyData} {d : PyData}
theorem zat(q : HasX h o H (.d (.int i)) v): v=.int i := (zbx (H := vx h o H)).mp q
theorem zck(q : HasX h o H (.d (.bool b)) v): v=.bl b := (zbr (H := vx h o H)).mp q
theorem zcr(q : HasX h o H (.d (.str z)) v): v=.str z := (zcw (H := vx h o H)).mp q
theorem zda(q : HasX h o H (.d (.tuple ds)) v): ∃ a vs, v=.ref a /\ H a=some (.tup vs) /\ HasL (vx h o H) ds vs := by
  obtain⟨a, vs, e, q, l⟩ := zU.mp (show Has _ _ _ from q);exact⟨a, vs, e, zak _ _ q, l⟩
theorem za1(r : RepS h o H S)(e : zlp S x=some ds)(q : HasX h o H x v): ∃ a vs, v=.ref a /\ H a=some (.lst vs) /\ HasL (vx h o H) ds vs := by
  unfold zlp at e;split at e
  · cases e
    obtain⟨a, vs, e, q, l⟩ := zaH.mp (show Has _ _ _ from q);exact⟨a, vs, e, zak _ _ q, l⟩
  · obtain⟨a, e1, rfl⟩ := q
    obtain⟨vs, e2, l⟩ := r.cont _ a ds e1 e;exact⟨a, vs, rfl, e2, l⟩
  · cases e
theorem zbZ(r : RepS h o H S)(e : zcE S x=some d)(q : HasX h o H x v): Has H d v := by
  unfold zcE at e;split at e
  · cases e
    exact Has.mono zak _ _ q
  · rename_i k
    obtain⟨a, e1, rfl⟩ := q;cases hs : S[k]? with
    | none => rw [hs] at e; cases e
    | some es =>
      rw [hs] at e;cases e;obtain⟨vs, e2, l⟩ := r.cont k a es e1 hs;exact zaH.mpr ⟨a, vs, rfl, e2, HasL.mono zak _ _ l⟩
  · cases e
  · cases e
theorem xI(i : Int): HasX h o H (.d (.int i)) (.int i) := (zbx (H := vx h o H)).mpr rfl
theorem xB(i : Bool): HasX h o H (.d (.bool i)) (.bl i) := (zbr (H := vx h o H)).mpr rfl
theorem xS(i : Str): HasX h o H (.d (.str i)) (.str i) := (zcw (H := vx h o H)).mpr rfl
theorem xN: HasX h o H (.d .none) .non := (zbB (H := vx h o H)).mpr rfl
theorem zlx{vs : List V}{R : RX}{Q : VK}(r : RepS h o H S)(l : HasL (vx h o H) ds vs)(c : Cn h o H R Q)(q : R (.d (.tuple ds)) S): ∀ p, H p=none -> Q (.ref p) (upd H p (.tup vs)) := fun p hp =>
  c o _ S (.d (.tuple ds)) _ (Ex.of_same (Same.laid hp)) (r.same (Same.laid hp)) (zU.mpr ⟨p, vs, rfl, r.laid hp, l.mono (zeA (Same.laid hp))⟩) q
theorem zi1{vs : List V}{R : RX}{Q : VK}(r : RepS h o H S)(l : HasL (vx h o H) ds vs)(c : Cn h o H R Q)(q : R (.d (.list ds)) S): ∀ p, H p=none -> Q (.ref p) (upd H p (.lst vs)) := fun p hp =>
  c o _ S (.d (.list ds)) _ (Ex.of_same (Same.laid hp)) (r.same (Same.laid hp)) (zaH.mpr ⟨p, vs, rfl, r.laid hp, l.mono (zeA (Same.laid hp))⟩) q
theorem zo4{vs : List V}{R : RX}{Q : VK}(r : RepS h o H S)(l : HasL (vx h o H) ds vs)(c : Cn h o H R Q)(q : R (.l S.length) (S++[ds])): ∀ p, H p=none -> Q (.ref p) (upd H p (.lst vs)) := fun p hp =>
  c (o++[p]) _ (S++[ds]) (.l S.length) _ (Ex.new r hp) (r.new hp l) ⟨p, by rw [r.len, getElem?_concat_length], rfl⟩ q
theorem zeb: ∀ {xs : List XV} {vs : List V} {ds : List PyData}, HasXs h o H xs vs -> xs=ds.map XV.d -> HasL (vx h o H) ds vs
  | [], vs, [], q, _ => zA.mpr q
  | x :: xs, vs, d :: ds, ⟨v, r, e, q, l⟩, e2 => by
    rw [map_cons] at e2;cases e2;exact zr.mpr ⟨v, r, e, q, zeb l rfl⟩
  | x :: xs, vs, [], _, e2 => by cases e2
  | [], vs, d :: ds, _, e2 => by cases e2
end
def datas: List XV -> Option (List PyData)
  | [] => some []
  | .d d :: r => (datas r).map (d :: ·)
  | _ :: _ => none
theorem zbW: ∀ {xs : List XV} {ds : List PyData}, datas xs=some ds -> xs=ds.map XV.d
  | [], ds, e => by cases e; rfl
  | .d d :: r, ds, e => by
    unfold datas at e;cases hr : datas r with
    | none => rw [hr] at e; cases e
    | some es =>
      rw [hr] at e;cases e;rw [zbW hr];rfl
  | .l _ :: _, _, e => by cases e
  | .o _ :: _, _, e => by cases e
  | .x _ _ :: _, _, e => by cases e
def zj(i : Nat): DE := fun δ S R => ∃ x, δ[i]? = some (some x) /\ R x S
def dC(d : PyData): DE := fun _ S R => R (.d d) S
def dO(v : V): DE := fun _ S R => R (.o v) S
def dOp(rd : D2)(a b : DE): DE := fun δ S R => a δ S fun x S1 => b δ S1 fun y S2 => rd x y S2 R
def dUn(rd : XV -> Sto -> RX -> Prop)(a : DE): DE := fun δ S R => a δ S fun x S1 => rd x S1 R
def zp: DA := fun _ S R => R [] S
def zc(a : DE)(b : DA): DA := fun δ S R => a δ S fun x S1 => b δ S1 fun xs S2 => R (x :: xs) S2
def dCB(rd : List XV -> Sto -> RX -> Prop)(a : DA): DE := fun δ S R => a δ S fun xs S1 => rd xs S1 R
def zd4(a : DA): DE := fun δ S R => a δ S fun xs S1 => ∃ ds, datas xs=some ds /\ ds.length<=1000 /\ R (.d (.tuple ds)) S1
def zd9(a : DA): DE := fun δ S R => a δ S fun xs S1 => ∃ ds, datas xs=some ds /\ ds.length<=1000 /\ R (.d (.list ds)) S1
def zd5(a : DA): DE := fun δ S R => a δ S fun xs S1 => ∃ ds, datas xs=some ds /\ ds.length<=1000 /\ R (.l S1.length) (S1++[ds])
section
variable {t ta tb tc : TE} {da db dc : DE} {tl : TA} {dl : DA} {tt tu : TT} {dt du : DT}
theorem zk{i : Nat}: RE (zlb i) (zj i) := fun h o H δ σ S R Q he hs ⟨x, e, q⟩ c => by
  obtain⟨v, e1, e2⟩ := he.get i x e;exact⟨v, e1, c o H S x v Ex.refl hs e2 q⟩
theorem zae{i : Int}: RE (tC (.int i)) (dC (.int i)) := fun h o H δ σ S R Q he hs q c => c o H S _ _ Ex.refl hs (xI i) q
theorem zhH{i : Bool}: RE (tC (.bl i)) (dC (.bool i)) := fun h o H δ σ S R Q he hs q c => c o H S _ _ Ex.refl hs (xB i) q
theorem zjQ{i : Str}: RE (tC (.str i)) (dC (.str i)) := fun h o H δ σ S R Q he hs q c => c o H S _ _ Ex.refl hs (xS i) q
theorem zm0: RE (tC .non) (dC .none) := fun h o H δ σ S R Q he hs q c => c o H S _ _ Ex.refl hs xN q
theorem zrr{v : V}: RE (tC v) (dO v) := fun h o H δ σ S R Q he hs q c => c o H S (.o v) v Ex.refl hs rfl q
theorem zah{r : R2}{rd : D2}(hr : RO r rd)(ha : RE ta da)(hb : RE tb db): RE (tOp r ta tb) (dOp rd da db) := fun h o H δ σ S R Q he hs q c =>
  ha h o H δ σ S _ _ he hs q fun o1 H1 S1 x v e1 s1 x1 d1 => hb h o1 H1 δ σ S1 _ _ (he.mono e1) s1 d1 fun o2 H2 S2 y u e2 s2 y2 d2 =>
    hr h o2 H2 S2 x y v u R Q s2 (x1.mono e2) y2 d2 (c.pre (e1.trans e2))
theorem zpL{r : V -> Hp -> VK -> Prop}{rd : XV -> Sto -> RX -> Prop}(hr : RU r rd)(ha : RE ta da): RE (tUn r ta) (dUn rd da) := fun h o H δ σ S R Q he hs q c =>
  ha h o H δ σ S _ _ he hs q fun o1 H1 S1 x v e1 s1 x1 d1 => hr h o1 H1 S1 x v R Q s1 x1 d1 (c.pre e1)
theorem zx: RA zoq zp := fun h o H δ σ S R Q he hs q c => c o H S [] [] Ex.refl hs rfl q
theorem zi(ha : RE ta da)(hb : RA tl dl): RA (zjc ta tl) (zc da dl) := fun h o H δ σ S R Q he hs q c =>
  ha h o H δ σ S _ _ he hs q fun o1 H1 S1 x v e1 s1 x1 d1 => hb h o1 H1 δ σ S1 _ _ (he.mono e1) s1 d1 fun o2 H2 S2 xs vs e2 s2 x2 d2 =>
    c o2 H2 S2 (x :: xs) (v :: vs) (e1.trans e2) s2 ⟨v, vs, rfl, x1.mono e2, x2⟩ d2
theorem zcq{r : List V -> Hp -> VK -> Prop}{rd : List XV -> Sto -> RX -> Prop}(hr : RC r rd)(ha : RA tl dl): RE (tCB r tl) (dCB rd dl) := fun h o H δ σ S R Q he hs q c =>
  ha h o H δ σ S _ _ he hs q fun o1 H1 S1 xs vs e1 s1 x1 d1 => hr h o1 H1 S1 xs vs R Q s1 x1 d1 (c.pre e1)
theorem zfa(ha : RA tl dl): RE (zrd tl) (zd4 dl) := fun h o H δ σ S R Q he hs q c =>
  ha h o H δ σ S _ _ he hs q fun o1 H1 S1 xs vs e1 s1 x1 ⟨ds, e, hl, d1⟩ => by
    have l := zeb x1 (zbW e);exact⟨by rw [l.length]; exact le_of_lt (small1000 hl), zlx s1 l (c.pre e1) d1⟩
theorem zml(ha : RA tl dl): RE (zol tl) (zd9 dl) := fun h o H δ σ S R Q he hs q c =>
  ha h o H δ σ S _ _ he hs q fun o1 H1 S1 xs vs e1 s1 x1 ⟨ds, e, hl, d1⟩ => by
    have l := zeb x1 (zbW e);exact⟨by rw [l.length]; exact le_of_lt (small1000 hl), zi1 s1 l (c.pre e1) d1⟩
theorem zn6(ha : RA tl dl): RE (zol tl) (zd5 dl) := fun h o H δ σ S R Q he hs q c =>
  ha h o H δ σ S _ _ he hs q fun o1 H1 S1 xs vs e1 s1 x1 ⟨ds, e, hl, d1⟩ => by
    have l := zeb x1 (zbW e);exact⟨by rw [l.length]; exact le_of_lt (small1000 hl), zo4 s1 l (c.pre e1) d1⟩
def dB(a : DE): DT := fun δ S R => a δ S fun x S1 => asB x fun b => R b S1
def zfU(a : DT): DT := fun δ S R => a δ S fun b S1 => R (!b) S1
def zqo(a b : DT): DT := fun δ S R => a δ S fun x S1 => if x=true then b δ S1 R else R false S1
def dOr(a b : DT): DT := fun δ S R => a δ S fun x S1 => if x=true then R true S1 else b δ S1 R
def zeJ(a b : DE): DE := fun δ S R => a δ S fun x S1 => asB x fun c => if c=true then b δ S1 R else R (.d (.bool false)) S1
def zra(a b : DE): DE := fun δ S R => a δ S fun x S1 => asB x fun c => if c=true then R (.d (.bool true)) S1 else b δ S1 R
def ziA(a : DE): DE := fun δ S R => a δ S fun x S1 => asB x fun c => R (.d (.bool (!c))) S1
def dIf(c : DT)(a b : DE): DE := fun δ S R => c δ S fun x S1 => if x=true then a δ S1 R else b δ S1 R
theorem zni(ha : RE ta da): RT (zl5 ta) (dB da) := fun h o H δ σ S R Q he hs q c =>
  ha h o H δ σ S _ _ he hs q fun o1 H1 S1 x v e1 s1 x1 d1 => by
    replace d1 := zfl d1;obtain⟨b, rfl, d1⟩ := d1;exact⟨b, zck x1, c o1 H1 S1 b e1 s1 d1⟩
theorem zgF(ha : RT tt dt): RT (zrw tt) (zfU dt) := fun h o H δ σ S R Q he hs q c =>
  ha h o H δ σ S _ _ he hs q fun o1 H1 S1 b e1 s1 d1 => c o1 H1 S1 _ e1 s1 d1
theorem zoS(ha : RT tt dt)(hb : RT tu du): RT (zri tt tu) (zqo dt du) := fun h o H δ σ S R Q he hs q c =>
  ha h o H δ σ S _ _ he hs q fun o1 H1 S1 b e1 s1 d1 => by
    cases b with
    | true => exact zmf (hb h o1 H1 δ σ S1 R Q (he.mono e1) s1 (by simpa using d1) fun o2 H2 S2 b e2 => c o2 H2 S2 b (e1.trans e2))
    | false => exact zmc (c o1 H1 S1 false e1 s1 (by simpa using d1))
theorem ziz(ha : RT tt dt)(hb : RT tu du): RT (tOr tt tu) (dOr dt du) := fun h o H δ σ S R Q he hs q c =>
  ha h o H δ σ S _ _ he hs q fun o1 H1 S1 b e1 s1 d1 => by
    cases b with
    | false => exact zmc (hb h o1 H1 δ σ S1 R Q (he.mono e1) s1 (by simpa using d1) fun o2 H2 S2 b e2 => c o2 H2 S2 b (e1.trans e2))
    | true => exact zmf (c o1 H1 S1 true e1 s1 (by simpa using d1))
theorem zfe(ha : RE ta da)(hb : RE tb db): RE (zpv ta tb) (zeJ da db) := fun h o H δ σ S R Q he hs q c =>
  ha h o H δ σ S _ _ he hs q fun o1 H1 S1 x v e1 s1 x1 d1 => by
    replace d1 := zfl d1;obtain⟨b, rfl, d1⟩ := d1;refine⟨b, zck x1, ?_⟩;cases b with
    | true => exact zmf (hb h o1 H1 δ σ S1 R Q (he.mono e1) s1 (by simpa using d1) (c.pre e1))
    | false => exact zmc (c o1 H1 S1 _ _ e1 s1 (xB false) (by simpa using d1))
theorem zoM(ha : RE ta da): RE (zpr ta) (ziA da) := fun h o H δ σ S R Q he hs q c =>
  ha h o H δ σ S _ _ he hs q fun o1 H1 S1 x v e1 s1 x1 d1 => by
    replace d1 := zfl d1;obtain⟨b, rfl, d1⟩ := d1;exact⟨b, zck x1, c o1 H1 S1 _ _ e1 s1 (xB _) d1⟩
theorem zqR(hc : RT tt dt)(ha : RE ta da)(hb : RE tb db): RE (tIf tt ta tb) (dIf dt da db) := fun h o H δ σ S R Q he hs q c =>
  hc h o H δ σ S _ _ he hs q fun o1 H1 S1 b e1 s1 d1 => by
    cases b with
    | true => exact zmf (ha h o1 H1 δ σ S1 R Q (he.mono e1) s1 (by simpa using d1) (c.pre e1))
    | false => exact zmc (hb h o1 H1 δ σ S1 R Q (he.mono e1) s1 (by simpa using d1) (c.pre e1))
def zdI(rd rd' : D2)(a b e : DE): DE := fun δ S R => a δ S fun x S1 => b δ S1 fun y S2 => rd x y S2 fun z S3 => asB z fun k => if k=true then e δ S3 fun u S4 => rd' y u S4 R else R (.d (.bool false)) S3
theorem zej{r r' : R2}{rd rd' : D2}(hr : RO r rd)(hr' : RO r' rd')(ha : RE ta da)(hb : RE tb db)(hc : RE tc dc): RE (zjv r r' ta tb tc) (zdI rd rd' da db dc) := fun h o H δ σ S R Q he hs q c =>
  ha h o H δ σ S _ _ he hs q fun o1 H1 S1 x v e1 s1 x1 d1 => hb h o1 H1 δ σ S1 _ _ (he.mono e1) s1 d1 fun o2 H2 S2 y u e2 s2 y2 d2 =>
    hr h o2 H2 S2 x y v u _ _ s2 (x1.mono e2) y2 d2 fun o3 H3 S3 z w e3 s3 z3 d3 => by
      replace d3 := zfl d3;obtain⟨b, rfl, d3⟩ := d3;refine⟨b, zck z3, ?_⟩;cases b with
      | false => exact zmc (c o3 H3 S3 _ _ ((e1.trans e2).trans e3) s3 (xB false) (by simpa using d3))
      | true => exact zmf (hc h o3 H3 δ σ S3 _ _ (((he.mono e1).mono e2).mono e3) s3 (by simpa using d3) fun o4 H4 S4 k w' e4 s4 k4 d4 => hr' h o4 H4 S4 y k u w' R Q s4 ((y2.mono e3).mono e4) k4 d4 (c.pre (((e1.trans e2).trans e3).trans e4)))
end
def dI(C : Int -> Int -> Prop)(g : Int -> Int -> Int): D2 := fun x y S R => asI x fun i => asI y fun j => C i j /\ R (.d (.int (g i j))) S
def dI0(g : Int -> Int -> Int): D2 := fun x y S R => asI x fun i => asI y fun j => R (.d (.int (g i j))) S
def dIb(g : Int -> Int -> Bool): D2 := fun x y S R => asI x fun i => asI y fun j => R (.d (.bool (g i j))) S
def dUI(g : Int -> Int): XV -> Sto -> RX -> Prop := fun x S R => asI x fun i => R (.d (.int (g i))) S
def zh7: D2 := fun x y S R => ∃ d, zcE S x=some d /\ ∃ e, zcE S y=some e /\ SeqAt.shaped d=true /\ SeqAt.shaped e=true /\ R (.d (.bool (PyData.eqv d e))) S
def zh0: D2 := fun x y S R => ∃ d, zcE S x=some d /\ ∃ e, zcE S y=some e /\ SeqAt.shaped d=true /\ SeqAt.shaped e=true /\ R (.d (.bool (!PyData.eqv d e))) S
def zqq: D2 := fun x _ S R => asD x fun d => R (.d (.bool (zjr d))) S
def zlZ: D2 := fun x _ S R => asD x fun d => R (.d (.bool (!zjr d))) S
def zrF: D2 := fun x y S R => asT x fun ds => asI y fun i => ∃ d, atI ds i=some d /\ R (.d d) S
def zrA: D2 := fun x y S R => asL S x fun ds => asI y fun i => ∃ d, atI ds i=some d /\ R (.d d) S
def zrO: D2 := fun x y S R => asL S x fun ds => asL S y fun es => ds.length+es.length<=1000 /\ R (.d (.list (ds++es))) S
def zqT: D2 := fun x y S R => asT x fun ds => asT y fun es => ds≠[] /\ ds.length+es.length<=1000 /\ R (.d (.tuple (ds++es))) S
section
theorem znK{C : Int -> Int -> Prop}{g : Int -> Int -> Int}: RO (rI C fun i j => .int (g i j)) (dI C g) := fun h o H S x y v u R Q hs hx hy q c => by
  replace q := zaw q;obtain⟨i, rfl, q⟩ := q;replace q := zaw q;obtain⟨j, rfl, hc, q⟩ := q;exact⟨i, j, zat hx, zat hy, hc, c o H S _ _ Ex.refl hs (xI _) q⟩
theorem znA{g : Int -> Int -> Int}: RO (rI0 fun i j => .int (g i j)) (dI0 g) := fun h o H S x y v u R Q hs hx hy q c => by
  replace q := zaw q;obtain⟨i, rfl, q⟩ := q;replace q := zaw q;obtain⟨j, rfl, q⟩ := q;exact⟨i, j, zat hx, zat hy, c o H S _ _ Ex.refl hs (xI _) q⟩
theorem zgY{g : Int -> Int -> Bool}: RO (rI0 fun i j => .bl (g i j)) (dIb g) := fun h o H S x y v u R Q hs hx hy q c => by
  replace q := zaw q;obtain⟨i, rfl, q⟩ := q;replace q := zaw q;obtain⟨j, rfl, q⟩ := q;exact⟨i, j, zat hx, zat hy, c o H S _ _ Ex.refl hs (xB _) q⟩
theorem zq5{g : Int -> Int}: RU (rU fun i => .int (g i)) (dUI g) := fun h o H S x v R Q hs hx q c => by
  replace q := zaw q;obtain⟨i, rfl, q⟩ := q;exact⟨i, zat hx, c o H S _ _ Ex.refl hs (xI _) q⟩
theorem zmR: RO zrg zh7 := fun h o H S x y v u R Q hs hx hy q c => by
  obtain⟨d, q1, e, q2, q3, q4, q⟩ := q;exact⟨d, e, zbZ hs q1 hx, zbZ hs q2 hy, q3, q4, c o H S _ _ Ex.refl hs (xB _) q⟩
theorem zjZ: RO zq4 zh0 := fun h o H S x y v u R Q hs hx hy q c => by
  obtain⟨d, q1, e, q2, q3, q4, q⟩ := q;exact⟨d, e, zbZ hs q1 hx, zbZ hs q2 hy, q3, q4, c o H S _ _ Ex.refl hs (xB _) q⟩
theorem zpX{ta : TE}{da : DE}(ha : RE ta da): RE (tOp zq1 ta (tC .non)) (dOp zqq da (dC .none)) := fun h o H δ σ S R Q he hs q c =>
  ha h o H δ σ S _ _ he hs q fun o1 H1 S1 x v e1 s1 x1 d1 => by
    replace d1 := zdO d1;obtain⟨d, rfl, d1⟩ := d1;have e := zgA (show Has _ d v from x1);exact⟨rfl, by rw [e]; exact c o1 H1 S1 _ _ e1 s1 (xB _) d1⟩
theorem znc{ta : TE}{da : DE}(ha : RE ta da): RE (tOp zpm ta (tC .non)) (dOp zlZ da (dC .none)) := fun h o H δ σ S R Q he hs q c =>
  ha h o H δ σ S _ _ he hs q fun o1 H1 S1 x v e1 s1 x1 d1 => by
    replace d1 := zdO d1;obtain⟨d, rfl, d1⟩ := d1;have e := zgA (show Has _ d v from x1);exact⟨rfl, by rw [e]; exact c o1 H1 S1 _ _ e1 s1 (xB _) d1⟩
theorem HasL.atI{H : Hp}{ds : List PyData}{vs : List V}{i : Int}{d : PyData}(l : HasL H ds vs)(e : L2.atI ds i=some d): ∃ v, L2.atI vs i=some v /\ Has H d v := by
  unfold L2.atI at e ⊢;rw [l.length];cases hn : ixN ds.length i with
  | none => rw [hn] at e; cases e
  | some j =>
    rw [hn] at e;exact l.get (show ds[j]? = some d from e)
theorem zoF{K : W.Frag}: RO (zqF K) zrF := fun h o H S x y v u R Q hs hx hy q c => by
  replace q := zha q;obtain⟨ds, rfl, q⟩ := q;replace q := zaw q;obtain⟨i, rfl, d, e, q⟩ := q;obtain⟨a, vs, rfl, ea, l⟩ := zda hx;obtain⟨w, ew, hw⟩ := l.atI e;exact⟨a, vs, i, w, rfl, zat hy, .of ea, ew, c o H S (.d d) w Ex.refl hs hw q⟩
theorem zmq{K : W.Frag}: RO (zqx K) zrA := fun h o H S x y v u R Q hs hx hy q c => by
  obtain⟨ds, e0, q⟩ := q;replace q := zaw q;obtain⟨i, rfl, d, e, q⟩ := q;obtain⟨a, vs, rfl, ea, l⟩ := za1 hs e0 hx;obtain⟨w, ew, hw⟩ := l.atI e;exact⟨a, vs, i, w, rfl, zat hy, .of ea, ew, c o H S (.d d) w Ex.refl hs hw q⟩
theorem zp3: RO zon zrO := fun h o H S x y v u R Q hs hx hy q c => by
  obtain⟨ds, e0, es, e1, hl, q⟩ := q;obtain⟨a, vs, rfl, ea, la⟩ := za1 hs e0 hx;obtain⟨b, us, rfl, eb, lb⟩ := za1 hs e1 hy;exact⟨a, b, vs, us, rfl, rfl, ea, eb, by rw [la.length, lb.length]; exact le_of_lt (small1000 hl), zi1 hs (la.append lb) c q⟩
theorem znw{K : W.Frag}: RO (zn1 K) zqT := fun h o H S x y v u R Q hs hx hy q c => by
  replace q := zha q;obtain⟨ds, rfl, q⟩ := q;replace q := zha q;obtain⟨es, rfl, hn, hl, q⟩ := q;obtain⟨a, vs, rfl, ea, la⟩ := zda hx;obtain⟨b, us, rfl, eb, lb⟩ := zda hy;refine⟨a, b, vs, us, rfl, rfl, .of ea, .of eb, fun z => ?_, by rw [la.length, lb.length]; exact le_of_lt (small1000 hl), fun z => ?_, fun _ => zlx hs (la.append lb) c q⟩
  · subst z
    have := la.length;exact hn (eq_nil_of_length_eq_zero this.symm)
  · subst z
    have e : es=[] := eq_nil_of_length_eq_zero lb.length.symm;subst e;rw [append_nil] at q;exact c o H S (.d (.tuple ds)) _ Ex.refl hs hx q
end
abbrev DO := XE -> Sto -> (Option Int -> Sto -> Prop) -> Prop
def RP(t : TO)(dt : DO): Prop := ∀ (h o : List Addr) (H : Hp) (δ : XE) (σ : St) (S : Sto) (R : Option Int -> Sto -> Prop) (Q : Option Int -> Hp -> Prop), RepE h o H δ σ -> RepS h o H S -> dt δ S R ->
  (∀ o' H' S' b, Ex o H o' H' -> RepS h o' H' S' -> R b S' -> Q b H') -> t σ H Q
def zdx: DO := fun _ S R => R none S
def ziU(a : DE): DO := fun δ S R => a δ S fun x S1 => asI x fun i => R (some i) S1
theorem zkN: RP zjW zdx := fun h o H δ σ S R Q he hs q c => c o H S none Ex.refl hs q
theorem zjG{t : TE}{da : DE}(ha : RE t da): RP (ziW t) (ziU da) := fun h o H δ σ S R Q he hs q c =>
  ha h o H δ σ S _ _ he hs q fun o1 H1 S1 x v e1 s1 x1 d1 => by
    replace d1 := zaw d1;obtain⟨i, rfl, d1⟩ := d1;exact⟨i, zat x1, c o1 H1 S1 _ e1 s1 d1⟩
abbrev D3 := XV -> Option Int -> Option Int -> Sto -> RX -> Prop
def RL(r : V -> Option Int -> Option Int -> Hp -> VK -> Prop)(rd : D3): Prop := ∀ (h o : List Addr) (H : Hp) (S : Sto) (x : XV) (v : V) (a b : Option Int) (R : RX) (Q : VK), RepS h o H S -> HasX h o H x v -> rd x a b S R -> Cn h o H R Q -> r v a b H Q
def dSl(rd : D3)(e : DE)(a b : DO): DE := fun δ S R => e δ S fun x S1 => a δ S1 fun i S2 => b δ S2 fun j S3 => rd x i j S3 R
theorem zpb{r : V -> Option Int -> Option Int -> Hp -> VK -> Prop}{rd : D3}{te : TE}{de : DE}{ta tb : TO}{da db : DO}(hr : RL r rd)(he' : RE te de)(ha : RP ta da)(hb : RP tb db): RE (tSl r te ta tb) (dSl rd de da db) := fun h o H δ σ S R Q he hs q c =>
  he' h o H δ σ S _ _ he hs q fun o1 H1 S1 x v e1 s1 x1 d1 => ha h o1 H1 δ σ S1 _ _ (he.mono e1) s1 d1 fun o2 H2 S2 i e2 s2 d2 => hb h o2 H2 δ σ S2 _ _ ((he.mono e1).mono e2) s2 d2 fun o3 H3 S3 j e3 s3 d3 =>
    hr h o3 H3 S3 x v i j R Q s3 ((x1.mono e2).mono e3) d3 (c.pre ((e1.trans e2).trans e3))
def zrI: D3 := fun x i j S R => asL S x fun ds => R (.d (.list (zei ds i j))) S
def zrP: D3 := fun x i j S R => asT x fun ds => ¬ (HT.sIx ds.length 0 i=0 /\ HT.sIx ds.length ds.length j=ds.length) /\ R (.d (.tuple (zei ds i j))) S
theorem zjV{K : W.Frag}: RL (zou K) zrI := fun h o H S x v a b R Q hs hx q c => by
  obtain⟨ds, e0, q⟩ := q;obtain⟨p, vs, rfl, ea, l⟩ := za1 hs e0 hx;exact⟨p, vs, rfl, .of ea, zi1 hs (l.cut a b) c q⟩
theorem zoK{K : W.Frag}: RL (zqz K) zrP := fun h o H S x v a b R Q hs hx q c => by
  replace q := zha q;obtain⟨ds, rfl, hn, q⟩ := q;obtain⟨p, vs, rfl, ea, l⟩ := zda hx;exact⟨p, vs, rfl, .of ea, by rw [l.length]; exact hn, zlx hs (l.cut a b) c q⟩
def asQ(S : Sto): XV -> Option (List PyData)
  | .d (.tuple ds) => some ds
  | .d (.list ds) => some ds
  | .l k => S[k]?
  | _ => none
theorem zg5{h o : List Addr}{H : Hp}{S : Sto}{x : XV}{v : V}{ds : List PyData}(r : RepS h o H S)(e : asQ S x=some ds)(q : HasX h o H x v): ∃ a vs, v=.ref a /\ (H a=some (.tup vs) \/ H a=some (.lst vs)) /\ HasL (vx h o H) ds vs := by
  unfold asQ at e;split at e
  · cases e
    obtain⟨a, vs, e, q, l⟩ := zda q;exact⟨a, vs, e, .inl q, l⟩
  · cases e
    obtain⟨a, vs, e, q, l⟩ := za1 (x := .d (.list ds)) (ds := ds) r rfl q;exact⟨a, vs, e, .inr q, l⟩
  · rename_i k
    obtain⟨a, vs, e, q, l⟩ := za1 (x := .l k) r e q;exact⟨a, vs, e, .inr q, l⟩
  · cases e
def arg1: List XV -> (XV -> Prop) -> Prop
  | [x], k => k x
  | _, _ => False
def arg2: List XV -> (XV -> XV -> Prop) -> Prop
  | [x, y], k => k x y
  | _, _ => False
theorem zaO{xs : List XV}{k : XV -> Prop}(h : arg1 xs k): ∃ x, xs=[x] /\ k x := by
  unfold arg1 at h;split at h
  · exact⟨_, rfl, h⟩
  · exact h.elim
theorem zeG{xs : List XV}{k : XV -> XV -> Prop}(h : arg2 xs k): ∃ x y, xs=[x, y] /\ k x y := by
  unfold arg2 at h;split at h
  · exact⟨_, _, rfl, h⟩
  · exact h.elim
theorem hxs1{h o : List Addr}{H : Hp}{x : XV}{vs : List V}(q : HasXs h o H [x] vs): ∃ v, vs=[v] /\ HasX h o H x v := by
  obtain⟨v, r, e, hx, hr⟩ := q;cases hr;exact⟨v, e, hx⟩
theorem hxs2{h o : List Addr}{H : Hp}{x y : XV}{vs : List V}(q : HasXs h o H [x, y] vs): ∃ v u, vs=[v, u] /\ HasX h o H x v /\ HasX h o H y u := by
  obtain⟨v, r, e, hx, q⟩ := q;obtain⟨u, e', hy⟩ := hxs1 q;subst e';exact⟨v, u, e, hx, hy⟩
def zq0: XV -> (String -> Prop) -> Prop
  | .o v, k => ∃ c, v=.ty c /\ k c
  | _, _ => False
def zqM: XV -> (Int -> Prop) -> Prop
  | .d d, k => match d with
    | .int i => k i
    | .bool b => k (if b then 1 else 0)
    | _ => False
  | _, _ => False
theorem znk{x : XV}{k : String -> Prop}(h : zq0 x k): ∃ c, x=.o (.ty c) /\ k c := by
  cases x with
  | o v =>
    obtain⟨c, rfl, h⟩ := h;exact⟨c, rfl, h⟩
  | d d => exact h.elim
  | l j => exact h.elim
  | x _ _ => exact h.elim
theorem znB{x : XV}{k : Int -> Prop}(h : zqM x k): (∃ i, x=.d (.int i) /\ k i) \/ ∃ b, x=.d (.bool b) /\ k (if b then 1 else 0) := by
  cases x with
  | d d =>
    cases d with
    | int i => exact .inl ⟨i, rfl, h⟩
    | bool b => exact .inr ⟨b, rfl, h⟩
    | _ => exact h.elim
  | _ => exact h.elim
def zrK: List XV -> Sto -> RX -> Prop := fun xs S R => arg1 xs fun x => ∃ ds, asQ S x=some ds /\ R (.d (.int ds.length)) S
theorem zjC{K : W.Frag}: RC (zqZ K) zrK := fun h o H S xs vs R Q hs hx q c => by
  obtain⟨x, rfl, ds, hd, q1⟩ := zaO q;obtain⟨v, rfl, hx1⟩ := hxs1 hx;obtain⟨a, ws, rfl, ea, l⟩ := zg5 hs hd hx1;refine⟨a, ws, rfl, ea.elim (fun z => .inr (.of z)) (fun z => .inl (.of z)), ?_⟩;rw [l.length];exact c o H S _ _ Ex.refl hs (xI _) q1
def zhk: List XV -> Sto -> RX -> Prop := fun xs S R => arg2 xs fun x y => zq0 y fun cl => ∃ d, zcE S x=some d /\ cl∈zlu /\ R (.d (.bool (zoa d cl))) S
theorem zmF: RC zqC zhk := fun h o H S xs vs R Q hs hx q c => by
  obtain⟨x, y, rfl, q1⟩ := zeG q;obtain⟨cl, rfl, d, hd, hc, q2⟩ := znk q1;obtain⟨v, u, rfl, hx1, hu⟩ := hxs2 hx;cases hu;exact znM (zbZ hs hd hx1) hc (c o H S _ _ Ex.refl hs (xB _) q2)
def zlB: List XV -> Sto -> RX -> Prop := fun xs S R => arg1 xs fun x => zqM x fun i => R (.d (.int i)) S
theorem znH: RC (fun xs H Q => (∃ i, xs=[.int i] /\ Q (.int i) H) \/ ∃ k, xs=[.bl k] /\ Q (.int (if k then 1 else 0)) H) zlB := fun h o H S xs vs R Q hs hx q c => by
  obtain⟨x, rfl, q1⟩ := zaO q;obtain⟨v, rfl, hx1⟩ := hxs1 hx;rcases znB q1 with ⟨i, rfl, q2⟩ | ⟨b, rfl, q2⟩
  · exact .inl ⟨_, by rw [zat hx1], c o H S _ _ Ex.refl hs (xI _) q2⟩
  · exact .inr ⟨_, by rw [zck hx1], c o H S _ _ Ex.refl hs (xI _) q2⟩
def dI2(g : Int -> Int -> Int): List XV -> Sto -> RX -> Prop := fun xs S R => arg2 xs fun x y => asI x fun i => asI y fun j => R (.d (.int (g i j))) S
theorem zqO{g : Int -> Int -> Int}: RC (fun xs H Q => ∃ i j, xs=[.int i, .int j] /\ Q (.int (g i j)) H) (dI2 g) := fun h o H S xs vs R Q hs hx q c => by
  obtain⟨x, y, rfl, q1⟩ := zeG q;obtain⟨v, u, rfl, hx1, hu⟩ := hxs2 hx;obtain⟨i, rfl, q2⟩ := zaw q1;obtain⟨j, rfl, q3⟩ := zaw q2;exact⟨i, j, by rw [zat hx1, zat hu], c o H S _ _ Ex.refl hs (xI _) q3⟩
def zdQ: List XV -> Sto -> RX -> Prop := fun xs S R => arg1 xs fun x => ∃ ds, asQ S x=some ds /\ R (.d (.tuple ds)) S
theorem zgc{K : W.Frag}: RC (fun xs H Q => ∃ p ys, xs=[.ref p] /\ ((SqL K H p ys /\ ∀ l, H l=none -> Q (.ref l) (upd H l (.tup ys))) \/ (SqT K H p ys /\ Q (.ref p) H))) zdQ := fun h o H S xs vs R Q hs hx q c => by
  obtain⟨x, rfl, ds, hd, q1⟩ := zaO q;obtain⟨v, rfl, hx1⟩ := hxs1 hx;obtain⟨a, ws, rfl, ea, l⟩ := zg5 hs hd hx1;refine⟨a, ws, rfl, ea.elim (fun z => .inr ⟨.of z, ?_⟩) (fun z => .inl ⟨.of z, zlx hs l c q1⟩)⟩;have hh : HasX h o H (.d (.tuple ds)) (.ref a) := by
    unfold asQ at hd;split at hd
    · cases hd
      exact hx1
    · obtain⟨a', us, e1, e2, _⟩ := za1 (x := .d (.list _)) hs rfl hx1
      cases e1;rw [z] at e2;cases e2
    · rename_i k
      obtain⟨a', us, e1, e2, _⟩ := za1 (x := .l k) hs hd hx1;cases e1;rw [z] at e2;cases e2
    · cases hd
  exact c o H S _ _ Ex.refl hs hh q1
def zh6: List XV -> Sto -> RX -> Prop := fun xs S R => arg1 xs fun x => ∃ ds, asQ S x=some ds /\ R (.d (.list ds)) S
theorem zh1{K : W.Frag}: RC (fun xs H Q => ∃ p ys, xs=[.ref p] /\ (SqL K H p ys \/ SqT K H p ys) /\ ∀ l, H l=none -> Q (.ref l) (upd H l (.lst ys))) zh6 := fun h o H S xs vs R Q hs hx q c => by
  obtain⟨x, rfl, ds, hd, q1⟩ := zaO q;obtain⟨v, rfl, hx1⟩ := hxs1 hx;obtain⟨a, ws, rfl, ea, l⟩ := zg5 hs hd hx1;exact⟨a, ws, rfl, ea.elim (fun z => .inr (.of z)) (fun z => .inl (.of z)), zi1 hs l c q1⟩
theorem zbN{H : Hp}: ∀ {ns : List Int} {vs : List V}, HasL H (ns.map PyData.int) vs -> vs=ns.map V.int
  | [], vs, h => zA.mp h
  | n :: ns, vs, h => by
    obtain⟨v, r, rfl, h1, h2⟩ := zr.mp h;rw [zbx.mp h1, zbN h2];rfl
def zrv: List XV -> Sto -> RX -> Prop := fun xs S R => arg1 xs fun x => ∃ ds, asQ S x=some ds /\ ∃ ns, ds=ns.map PyData.int /\ ns≠[] /\ ∀ m, m∈ns -> (∀ a, a∈ns -> m<=a) -> R (.d (.int m)) S
def zqI: List XV -> Sto -> RX -> Prop := fun xs S R => arg1 xs fun x => ∃ ds, asQ S x=some ds /\ ∃ ns, ds=ns.map PyData.int /\ ns≠[] /\ ∀ m, m∈ns -> (∀ a, a∈ns -> a<=m) -> R (.d (.int m)) S
theorem zp1{K : W.Frag}: RC (zqH K) zrv := fun h o H S xs vs R Q hs hx q c => by
  obtain⟨x, rfl, ds, hd, ns, rfl, hn, q1⟩ := zaO q;obtain⟨v, rfl, hx1⟩ := hxs1 hx;obtain⟨a, ws, rfl, ea, l⟩ := zg5 hs hd hx1;rw [zbN l] at ea;exact⟨a, ns, rfl, ea.elim (fun z => .inr (.of z)) (fun z => .inl (.of z)), hn, fun m m1 m2 => c o H S _ _ Ex.refl hs (xI _) (q1 m m1 m2)⟩
theorem zo5{K : W.Frag}: RC (zrl K) zqI := fun h o H S xs vs R Q hs hx q c => by
  obtain⟨x, rfl, ds, hd, ns, rfl, hn, q1⟩ := zaO q;obtain⟨v, rfl, hx1⟩ := hxs1 hx;obtain⟨a, ws, rfl, ea, l⟩ := zg5 hs hd hx1;rw [zbN l] at ea;exact⟨a, ns, rfl, ea.elim (fun z => .inr (.of z)) (fun z => .inl (.of z)), hn, fun m m1 m2 => c o H S _ _ Ex.refl hs (xI _) (q1 m m1 m2)⟩
def dBM(rd : XV -> List XV -> Sto -> RX -> Prop)(e : DE)(a : DA): DE := fun δ S R => e δ S fun x S1 => ∃ k, x=.l k /\ k<S1.length /\ a δ S1 fun xs S2 => rd x xs S2 R
def zqn(rd : XV -> List XV -> Sto -> RX -> Prop)(e : DE): DE := fun δ S R => e δ S fun x S1 => ∃ k, x=.l k /\ k<S1.length /\ rd x [] S1 R
def RM(r : V -> List V -> Hp -> VK -> Prop)(rd : XV -> List XV -> Sto -> RX -> Prop): Prop := ∀ (h o : List Addr) (H : Hp) (S : Sto) (x : XV) (v : V) (xs : List XV) (vs : List V) (R : RX) (Q : VK), RepS h o H S -> HasX h o H x v -> HasXs h o H xs vs -> rd x xs S R -> Cn h o H R Q -> r v vs H Q
theorem zhR{K : W.Frag}{H : Hp}{a : Addr}{vs : List V}(e : H a=some (.lst vs)): tyV K "list" (.ref a) H := .inl ⟨rfl, vs, .of e⟩
theorem zmt{h o : List Addr}{H : Hp}{S : Sto}{k : Nat}{v : V}(hs : RepS h o H S)(hk : k<S.length)(hx : HasX h o H (.l k) v): ∃ a vs, v=.ref a /\ H a=some (.lst vs) := by
  obtain⟨a, e, rfl⟩ := hx;obtain⟨vs, e2, _⟩ := hs.cont k a _ e (getElem?_eq_getElem hk);exact⟨a, vs, rfl, e2⟩
theorem zk3{K : W.Frag}{r : V -> List V -> Hp -> VK -> Prop}{rd : XV -> List XV -> Sto -> RX -> Prop}{te : TE}{de : DE}{tl : TA}{dl : DA}(hr : RM r rd)(he' : RE te de)(ha : RA tl dl): RE (tBM K "list" r te tl) (dBM rd de dl) := fun h o H δ σ S R Q he hs q c =>
  he' h o H δ σ S _ _ he hs q fun o1 H1 S1 x v e1 s1 x1 ⟨k, ek, hk, d1⟩ => by
    subst ek;obtain⟨a, ws, rfl, ea⟩ := zmt s1 hk x1;exact⟨zhR ea, ha h o1 H1 δ σ S1 _ _ (he.mono e1) s1 d1 fun o2 H2 S2 xs vs e2 s2 x2 d2 => hr h o2 H2 S2 (.l k) _ xs vs R Q s2 (x1.mono e2) x2 d2 (c.pre (e1.trans e2))⟩
theorem zo8{K : W.Frag}{r : V -> List V -> Hp -> VK -> Prop}{rd : XV -> List XV -> Sto -> RX -> Prop}{te : TE}{de : DE}(hr : RM r rd)(he' : RE te de): RE (zrk K "list" r te) (zqn rd de) := fun h o H δ σ S R Q he hs q c =>
  he' h o H δ σ S _ _ he hs q fun o1 H1 S1 x v e1 s1 x1 ⟨k, ek, hk, d1⟩ => by
    subst ek;obtain⟨a, ws, rfl, ea⟩ := zmt s1 hk x1;exact⟨zhR ea, hr h o1 H1 S1 (.l k) _ [] [] R Q s1 x1 rfl d1 (c.pre e1)⟩
def zb3: XV -> List XV -> Sto -> RX -> Prop := fun x xs S R => ∃ k, x=.l k /\ ∃ ds, S[k]? = some ds /\ arg1 xs fun y => asD y fun d => ds.length<1000 /\ R (.d .none) (S.set k (ds++[d]))
theorem zg6: RM zkj zb3 := fun h o H S x v xs vs R Q hs hx hxs q c => by
  obtain⟨k, rfl, ds, e, q1⟩ := q;obtain⟨y, rfl, q2⟩ := zaO q1;obtain⟨d, rfl, hl, q3⟩ := zdO q2;obtain⟨a, ea, rfl⟩ := hx;obtain⟨u, rfl, hu⟩ := hxs1 hxs;obtain⟨ws, ew, l⟩ := hs.cont k a ds ea e;exact⟨a, ws, u, rfl, rfl, ew, by rw [l.length]; exact small1000 (le_of_lt hl), c o _ _ (.d .none) _ (Ex.upd ea) (hs.upd ea (l.append (zr.mpr ⟨u, [], rfl, hu, zA.mpr rfl⟩))) xN q3⟩
def zeg: XV -> List XV -> Sto -> RX -> Prop := fun x xs S R => ∃ k, x=.l k /\ ∃ ds, S[k]? = some ds /\ xs=[] /\ R (.d .none) (S.set k ds.reverse)
theorem ziN: RM ziu zeg := fun h o H S x v xs vs R Q hs hx hxs q c => by
  obtain⟨k, rfl, ds, e, rfl, q1⟩ := q;obtain⟨a, ea, rfl⟩ := hx;obtain⟨ws, ew, l⟩ := hs.cont k a ds ea e;cases hxs;exact⟨a, ws, rfl, rfl, ew, c o _ _ (.d .none) _ (Ex.upd ea) (hs.upd ea l.rev) xN q1⟩
def zeS: XV -> List XV -> Sto -> RX -> Prop := fun x xs S R => ∃ k, x=.l k /\ ∃ ds, S[k]? = some ds /\ arg1 xs fun y => ∃ es, zlp S y=some es /\ ds.length+es.length<=1000 /\ R (.d .none) (S.set k (ds++es))
theorem zeE: RM zkY zeS := fun h o H S x v xs vs R Q hs hx hxs q c => by
  obtain⟨k, rfl, ds, e, q1⟩ := q;obtain⟨y, rfl, es, ey, hl, q3⟩ := zaO q1;obtain⟨a, ea, rfl⟩ := hx;obtain⟨u, rfl, hu⟩ := hxs1 hxs;obtain⟨ws, ew, l⟩ := hs.cont k a ds ea e;obtain⟨b, zs, rfl, eb, lb⟩ := za1 hs ey hu;exact⟨a, b, ws, zs, rfl, rfl, ew, eb, by rw [l.length, lb.length]; exact le_of_lt (small1000 hl), c o _ _ (.d .none) _ (Ex.upd ea) (hs.upd ea (l.append lb)) xN q3⟩
def ret0(S : Sto)(R : RX): RX := fun y S' => match y, S' with
  | .d d, [] => R (.d d) S
  | .l 0, [ds] => R (.l S.length) (S++[ds])
  | _, _ => False
def zqj(k : Nat)(S : Sto)(R : RX): RX := fun y S' => match y, S' with
  | .d d, [p] => R (.d d) (S.set k p)
  | .l 1, [p, ds] => R (.l S.length) (S.set k p++[ds])
  | _, _ => False
section
variable {h o : List Addr} {H : Hp} {S : Sto} {R : RX} {Q : VK}
theorem zhw{h o h' o' : List Addr}{H : Hp}(e : ∀ b, (b∈h' \/ b∈o')↔(b∈h \/ b∈o)): vx h' o' H=vx h o H := by
  funext b;have iff : ∀ u, vx h' o' H b=some u↔vx h o H b=some u := fun u => by
    rw [zP, zP];have := e b;constructor
    · rintro⟨a1, a2, a3⟩
      exact⟨fun m => (this.mpr (.inl m)).elim a1 a2, fun m => (this.mpr (.inr m)).elim a1 a2, a3⟩
    · rintro⟨a1, a2, a3⟩
      exact⟨fun m => (this.mp (.inl m)).elim a1 a2, fun m => (this.mp (.inr m)).elim a1 a2, a3⟩
  cases e1 : vx h' o' H b with
  | some u => exact((iff u).mp e1).symm
  | none =>
    cases e2 : vx h o H b with
    | none => rfl
    | some u => rw [(iff u).mpr e2] at e1; cases e1
theorem rep0(hs : RepS h o H S): RepS (h++o) [] H [] where
  len := rfl
  nd := nodup_nil
  dis := fun a ha => by cases ha
  hal := fun b hb => (mem_append.mp hb).elim (hs.hal b) (hs.oam b)
  cont := fun k a ds e => by simp at e
theorem hx0{d : PyData}{v : V}(hx : HasX h o H (.d d) v): HasX (h++o) [] H (.d d) v := by
  show Has (vx (h++o) [] H) d v;rw [zhw (h := h) (o := o) fun b => by simp];exact hx
theorem hx0'{d : PyData}{v : V}(hx : HasX (h++o) [] H (.d d) v): HasX h o H (.d d) v := by
  show Has (vx h o H) d v;rw [<- zhw (h' := h++o) (o' := []) (h := h) (o := o) fun b => by simp];exact hx
theorem cn0(hs : RepS h o H S)(c : Cn h o H R Q): Cn (h++o) [] H (ret0 S R) Q := fun o' H' S' y v e s' hy q => by
  have sm : Same H (vx [] o' H') := fun b u eb => by
    obtain⟨a1, a2⟩ := e.kp b u (by simp) eb;exact zP.mpr ⟨by simp, a1, a2⟩
  have sH : Same H H' := fun b u eb => (zP.mp (sm b u eb)).2.2;unfold ret0 at q;split at q
  · have e0 : o'=[] := eq_nil_of_length_eq_zero s'.len.symm
    subst e0;exact c o H' S _ v (Ex.of_same sH) (hs.same sH) (hx0' hy) q
  · rename_i ds
    obtain⟨a, rfl⟩ : ∃ a, o'=[a] := List.length_eq_one_iff.mp s'.len.symm;obtain⟨a', ea, rfl⟩ := hy;cases ea;obtain⟨vs, ev, l⟩ := s'.cont 0 a ds rfl rfl;have na : a∉h++o := s'.dis a (by simp);have hn : H a=none := by
      cases eh : H a with
      | none => rfl
      | some u => exact absurd (e.kp a u (by simp) eh).1 (by simp)
    have e2 : Ex o H (o++[a]) H' := ⟨⟨[a], rfl⟩, fun b u hb eb => by
      obtain⟨a1, a2⟩ := e.kp b u (by simp) eb;exact⟨by simp only [mem_append, not_or]; exact⟨hb, a1⟩, a2⟩⟩
    have ev' : vx (h++o) [a] H'=vx h (o++[a]) H' := zhw fun b => by simp [or_assoc]
    rw [ev'] at l;refine c (o++[a]) H' (S++[ds]) (.l S.length) _ e2 ⟨by simp [hs.len], zbL hs.nd fun m => na (mem_append_right _ m), fun b hb => ?_, fun b hb => ?_, fun k b es q1 q2 => ?_⟩ ⟨a, by rw [hs.len, getElem?_concat_length], rfl⟩ q
    · rcases mem_append.mp hb with hb | hb
      · exact hs.dis b hb
      · rw [mem_singleton.mp hb]; exact fun m => na (mem_append_left _ m)
    · obtain⟨u, eb⟩ := hs.hal b hb
      exact⟨u, sH b _ eb⟩
    · by_cases hk : k<o.length
      · rw [getElem?_append_left hk] at q1
        rw [getElem?_append_left (by rw [hs.len]; exact hk)] at q2;obtain⟨ws, e3, l3⟩ := hs.cont k b es q1 q2;exact⟨ws, sH _ _ e3, l3.mono e2.vx⟩
      · have hk' : k=o.length := by
          obtain⟨q, _⟩ := List.getElem?_eq_some_iff.mp q1;rw [length_append, length_singleton] at q;omega
        subst hk';rw [getElem?_concat_length] at q1;rw [<- hs.len, getElem?_concat_length] at q2;cases q1;cases q2;exact⟨vs, ev, l⟩
  · exact q.elim
theorem zqp{k : Nat}{a : Addr}{p : List PyData}(hs : RepS h o H S)(ea : o[k]? = some a)(ep : S[k]? = some p): RepS (h++o.filter (fun b => b≠a)) [a] H [p] where
  len := rfl
  nd := by simp
  dis := fun b hb => by
    rw [mem_singleton.mp hb];intro m;rcases mem_append.mp m with m | m
    · exact hs.dis a (mem_of_getElem? ea) m
    · have := (mem_filter.mp m).2
      simp at this
  hal := fun b hb => (mem_append.mp hb).elim (hs.hal b) fun m => hs.oam b (mem_filter.mp m).1
  cont := fun j b ds e1 e2 => by
    cases j with
    | succ j => simp at e1
    | zero =>
      cases e1;cases e2;obtain⟨vs, e3, l⟩ := hs.cont k a p ea ep;refine⟨vs, e3, ?_⟩;rw [zhw (h := h) (o := o) (mem_pen ea)];exact l
where
  mem_pen {h o : List Addr} {k : Nat} {a : Addr} (ea : o[k]? = some a) (b : Addr) : (b∈h++o.filter (fun b => b≠a) \/ b∈[a])↔(b∈h \/ b∈o) := by
    have ma := mem_of_getElem? ea;by_cases e : b=a
    · subst e
      simp [ma]
    · simp [e]
theorem hxP{k : Nat}{a : Addr}{d : PyData}{v : V}(ea : o[k]? = some a)(hx : HasX h o H (.d d) v): HasX (h++o.filter (fun b => b≠a)) [a] H (.d d) v := by
  show Has (vx _ _ H) d v;rw [zhw (h := h) (o := o) (zqp.mem_pen ea)];exact hx
theorem cnP{k : Nat}{a : Addr}{p : List PyData}(hs : RepS h o H S)(ea : o[k]? = some a)(ep : S[k]? = some p)(c : Cn h o H R Q): Cn (h++o.filter (fun b => b≠a)) [a] H (zqj k S R) Q := fun o' H' S' y v e s' hy q => by
  have ma := mem_of_getElem? ea;have hk : k<o.length := (List.getElem?_eq_some_iff.mp ea).1;unfold zqj at q;split at q
  · rename_i d p'
    obtain⟨r, rfl⟩ := e.pre;have er : r=[] := by
      have := s'.len;simp at this;exact this
    subst er;have ex : Ex o H o H' := ⟨⟨[], by simp⟩, fun b u hb eb => ⟨hb, (e.kp b u (fun m => hb (by rw [mem_singleton.mp m]; exact ma)) eb).2⟩⟩;obtain⟨vs, ev, l⟩ := s'.cont 0 a p' rfl rfl;have ev' : vx (h++o.filter (fun b => b≠a)) ([a]++[]) H'=vx h o H' := zhw (zqp.mem_pen ea);rw [ev'] at l;refine c o H' (S.set k p') (.d d) v ex ⟨by simp [hs.len], hs.nd, hs.dis, fun b hb => ?_, fun j b es q1 q2 => ?_⟩ (by
      have hy' : Has (vx (h++o.filter (fun b => b≠a)) ([a]++[]) H') d v := hy;rw [ev'] at hy';exact hy') q
    · obtain⟨u, eb⟩ := hs.hal b hb
      exact⟨u, (e.kp b _ (fun m => hs.dis a ma (by rw [<- mem_singleton.mp m]; exact hb)) eb).2⟩
    · by_cases hj : j=k
      · subst hj
        rw [q1] at ea;cases ea;rw [getElem?_set_self (by rw [hs.len]; exact hk)] at q2;cases q2;exact⟨vs, ev, l⟩
      · rw [getElem?_set_ne (Ne.symm hj)] at q2
        obtain⟨ws, e3, l3⟩ := hs.cont j b es q1 q2;have ne : b≠a := fun z => hj (zdl hs.nd q1 (z▸ea));exact⟨ws, (e.kp b _ (by simp [ne]) e3).2, l3.mono ex.vx⟩
  · rename_i p' ds
    obtain⟨r, rfl⟩ := e.pre;obtain⟨a2, rfl⟩ : ∃ a2, r=[a2] := by
      have := s'.len;simp at this;exact List.length_eq_one_iff.mp this
    obtain⟨b2, eb2, rfl⟩ := hy;cases eb2;obtain⟨vs, ev, l⟩ := s'.cont 0 a p' rfl rfl;obtain⟨vs2, ev2, l2⟩ := s'.cont 1 a2 ds rfl rfl;have n2 : a2∉h++o.filter (fun b => b≠a) := s'.dis a2 (by simp);have n3 : a≠a2 := by
      have := s'.nd;simp at this;exact this
    have n4 : a2∉o := fun m => n2 (mem_append_right _ (mem_filter.mpr ⟨m, by simp [Ne.symm n3]⟩));have ex : Ex o H (o++[a2]) H' := ⟨⟨[a2], rfl⟩, fun b u hb eb => by
      obtain⟨z1, z2⟩ := e.kp b u (fun m => hb (by rw [mem_singleton.mp m]; exact ma)) eb;refine⟨?_, z2⟩;simp only [mem_append, not_or];exact⟨hb, fun m => z1 (by simp at m ⊢; exact .inr m)⟩⟩
    have ev' : vx (h++o.filter (fun b => b≠a)) ([a]++[a2]) H'=vx h (o++[a2]) H' := zhw fun b => by
      have := zqp.mem_pen (h := h) ea b;simp only [mem_append] at this ⊢;rw [<- or_assoc, this, or_assoc]
    rw [ev'] at l l2;refine c (o++[a2]) H' (S.set k p'++[ds]) (.l S.length) _ ex ⟨by simp [hs.len], zbL hs.nd n4, fun b hb => ?_, fun b hb => ?_, fun j b es q1 q2 => ?_⟩ ⟨a2, by rw [hs.len, getElem?_concat_length], rfl⟩ q
    · rcases mem_append.mp hb with hb | hb
      · exact hs.dis b hb
      · rw [mem_singleton.mp hb]; exact fun m => n2 (mem_append_left _ m)
    · obtain⟨u, eb⟩ := hs.hal b hb
      exact⟨u, (e.kp b _ (fun m => hs.dis a ma (by rw [<- mem_singleton.mp m]; exact hb)) eb).2⟩
    · by_cases hjo : j<o.length
      · rw [getElem?_append_left hjo] at q1
        rw [getElem?_append_left (by rw [length_set, hs.len]; exact hjo)] at q2;by_cases hj : j=k
        · subst hj
          rw [q1] at ea;cases ea;rw [getElem?_set_self (by rw [hs.len]; exact hk)] at q2;cases q2;exact⟨vs, ev, l⟩
        · rw [getElem?_set_ne (Ne.symm hj)] at q2
          obtain⟨ws, e3, l3⟩ := hs.cont j b es q1 q2;have ne : b≠a := fun z => hj (zdl hs.nd q1 (z▸ea));exact⟨ws, (e.kp b _ (by simp [ne]) e3).2, l3.mono ex.vx⟩
      · have hk' : j=o.length := by
          obtain⟨q, _⟩ := List.getElem?_eq_some_iff.mp q1;rw [length_append, length_singleton] at q;omega
        subst hk';rw [getElem?_concat_length] at q1;rw [<- hs.len, <- length_set (i := k) (a := p'), getElem?_concat_length] at q2;cases q1;cases q2;exact⟨vs2, ev2, l2⟩
  · exact q.elim
end
structure DEnds where
  nx : XE -> Sto -> Prop
  rt : RX
  bk : XE -> Sto -> Prop := fun _ _ => False
  ct : XE -> Sto -> Prop := fun _ _ => False
abbrev DS := DEnds -> XE -> Sto -> Prop
abbrev DG := XV -> XE -> Sto -> (XE -> Sto -> Prop) -> Prop
abbrev DGs := List PyData -> XE -> Sto -> (XE -> Sto -> Prop) -> Prop
def Nx(h o : List Addr)(H : Hp)(N : XE -> Sto -> Prop)(M : St -> Hp -> Prop): Prop := ∀ o' H' δ' S' σ', Ex o H o' H' -> RepE h o' H' δ' σ' -> RepS h o' H' S' -> N δ' S' -> M σ' H'
theorem Nx.pre{h o o' : List Addr}{H H' : Hp}{N : XE -> Sto -> Prop}{M : St -> Hp -> Prop}(c : Nx h o H N M)(e : Ex o H o' H'): Nx h o' H' N M := fun o2 H2 δ2 S2 σ2 e2 => c o2 H2 δ2 S2 σ2 (e.trans e2)
structure EOk(h o : List Addr)(H : Hp)(E : DEnds)(D : Ends): Prop where
  nx : Nx h o H E.nx D.nx
  rt : Cn h o H E.rt D.rt
  bk : Nx h o H E.bk D.bk
  ct : Nx h o H E.ct D.ct
theorem EOk.pre{h o o' : List Addr}{H H' : Hp}{E : DEnds}{D : Ends}(c : EOk h o H E D)(e : Ex o H o' H'): EOk h o' H' E D := ⟨c.nx.pre e, c.rt.pre e, c.bk.pre e, c.ct.pre e⟩
def RS(t : TS)(dt : DS): Prop := ∀ (h o : List Addr) (H : Hp) (δ : XE) (σ : St) (S : Sto) (E : DEnds) (D : Ends), RepE h o H δ σ -> RepS h o H S -> dt E δ S -> EOk h o H E D -> t D σ H
def RG(t : TG)(dt : DG): Prop := ∀ (h o : List Addr) (H : Hp) (δ : XE) (σ : St) (S : Sto) (x : XV) (v : V) (N : XE -> Sto -> Prop) (M : St -> Hp -> Prop), RepE h o H δ σ -> RepS h o H S -> HasX h o H x v -> dt x δ S N -> Nx h o H N M -> t v σ H M
def RGs(t : TGs)(dt : DGs): Prop := ∀ (h o : List Addr) (H : Hp) (δ : XE) (σ : St) (S : Sto) (ds : List PyData) (vs : List V) (N : XE -> Sto -> Prop) (M : St -> Hp -> Prop), RepE h o H δ σ -> RepS h o H S -> HasL (vx h o H) ds vs -> dt ds δ S N -> Nx h o H N M -> t vs σ H M
def zn(i : Nat): DG := fun x δ S N => N (δ.set i (some x)) S
def zdy: DGs := fun ds δ S N => ds=[] /\ N δ S
def hdD: List PyData -> (PyData -> List PyData -> Prop) -> Prop
  | d :: es, k => k d es
  | [], _ => False
theorem zpQ{ds : List PyData}{k : PyData -> List PyData -> Prop}(h : hdD ds k): ∃ d es, ds=d :: es /\ k d es := by
  cases ds with
  | nil => exact h.elim
  | cons d es => exact⟨d, es, rfl, h⟩
theorem zoL{d : PyData}{es : List PyData}{k : PyData -> List PyData -> Prop}: hdD (d :: es) k=k d es := rfl
def zar(g : DG)(r : DGs): DGs := fun ds δ S N => hdD ds fun d es => g (.d d) δ S fun δ' S' => r es δ' S' N
def zdw(n : Nat)(r : DGs): DG := fun x δ S N => asT x fun ds => ds.length=n /\ r ds δ S N
def zkP(a b : DE): DG := fun x δ S N => a δ S fun y S1 => b δ S1 fun z S2 => asD x fun d => ∃ k, y=.l k /\ ∃ ds, S2[k]? = some ds /\ asI z fun i => ∃ j, ixN ds.length i=some j /\ N δ (S2.set k (ds.set j d))
theorem zw{i : Nat}: RG (zho i) (zn i) := fun h o H δ σ S x v N M he hs hx q c => c o H _ S _ Ex.refl (he.set hx) hs q
theorem zdE: RGs zrp zdy := fun h o H δ σ S ds vs N M he hs l ⟨e, q⟩ c => by
  subst e;exact⟨zA.mp l, c o H δ S σ Ex.refl he hs q⟩
theorem zaU{t : TG}{u : TGs}{g : DG}{r : DGs}(h1 : RG t g)(h2 : RGs u r): RGs (zoN t u) (zar g r) := fun h o H δ σ S ds vs N M he hs l q0 c => by
  obtain⟨d, es, rfl, q⟩ := zpQ q0;obtain⟨v, ws, rfl, hv, l⟩ := zr.mp l;exact⟨v, ws, rfl, h1 h o H δ σ S (.d d) v _ _ he hs hv q fun o1 H1 δ1 S1 σ1 e1 he1 hs1 q1 => h2 h o1 H1 δ1 σ1 S1 es ws N M he1 hs1 (l.mono e1.vx) q1 (c.pre e1)⟩
theorem zfy{K : W.Frag}{n : Nat}{t : TGs}{r : DGs}(h1 : RGs t r): RG (zru K n t) (zdw n r) := fun h o H δ σ S x v N M he hs hx q c => by
  replace q := zha q;obtain⟨ds, rfl, hn, q⟩ := q;obtain⟨a, vs, rfl, ea, l⟩ := zda hx;exact⟨a, vs, rfl, .of ea, by rw [l.length]; exact hn, h1 h o H δ σ S ds vs N M he hs l q c⟩
theorem HasL.setAt{H : Hp}: ∀ {ds : List PyData} {vs : List V} {j : Nat} {d : PyData} {v : V}, HasL H ds vs -> Has H d v -> HasL H (ds.set j d) (vs.set j v)
  | [], vs, j, d, v, l, _ => by rw [zA.mp l]; exact zA.mpr rfl
  | c :: ds, vs, 0, d, v, l, q => by
    obtain⟨u, r, rfl, _, l⟩ := zr.mp l;exact zr.mpr ⟨v, r, rfl, q, l⟩
  | c :: ds, vs, j+1, d, v, l, q => by
    obtain⟨u, r, rfl, hu, l⟩ := zr.mp l;exact zr.mpr ⟨u, r.set j v, rfl, hu, HasL.setAt l q⟩
theorem zp5{ta tb : TE}{da db : DE}(ha : RE ta da)(hb : RE tb db): RG (zrc ta tb zpY) (zkP da db) := fun h o H δ σ S x v N M he hs hx q c =>
  ha h o H δ σ S _ _ he hs q fun o1 H1 S1 y u e1 s1 y1 d1 => hb h o1 H1 δ σ S1 _ _ (he.mono e1) s1 d1 fun o2 H2 S2 z w e2 s2 z2 d0 => by
    obtain⟨d, rfl, k, rfl, ds, es, d2⟩ := zdO d0;replace d2 := zaw d2;obtain⟨i, rfl, j, ej, d2⟩ := d2;obtain⟨a, ea, rfl⟩ := y1.mono e2;obtain⟨ws, ew, l⟩ := s2.cont k a ds ea es;refine⟨a, ws, i, j, rfl, zat z2, ew, by rw [l.length]; exact ej, ?_⟩;exact c o2 _ δ _ σ ((e1.trans e2).trans (Ex.upd ea)) (((he.mono e1).mono e2).mono (Ex.upd ea)) (s2.upd ea (l.setAt (hx.mono (e1.trans e2)))) d2
def zaF: DS := fun E δ S => E.nx δ S
def zaa(t u : DS): DS := fun E δ S => t { E with nx := u E } δ S
def zaB(e : DE)(g : DG): DS := fun E δ S => e δ S fun x S1 => g x δ S1 E.nx
def zdB(e : DE): DS := fun E δ S => e δ S fun _ S1 => E.nx δ S1
def zaY(e : DE): DS := fun E δ S => e δ S E.rt
def zcQ(c : DT)(t u : DS): DS := fun E δ S => c δ S fun b S1 => if b=true then t E δ S1 else u E δ S1
section
variable {t u : TS} {dt du : DS} {te : TE} {de : DE}
theorem zc2: RS znO zaF := fun h o H δ σ S E D he hs q c => c.nx o H δ S σ Ex.refl he hs q
theorem zK(ht : RS t dt)(hu : RS u du): RS (ziv t u) (zaa dt du) := fun h o H δ σ S E D he hs q c =>
  ht h o H δ σ S _ _ he hs q ⟨fun o1 H1 δ1 S1 σ1 e1 he1 hs1 q1 => hu h o1 H1 δ1 σ1 S1 E D he1 hs1 q1 (c.pre e1), c.rt, c.bk, c.ct⟩
theorem zbn{g : TG}{dg : DG}(he' : RE te de)(hg : RG g dg): RS (zom te g) (zaB de dg) := fun h o H δ σ S E D he hs q c =>
  he' h o H δ σ S _ _ he hs q fun o1 H1 S1 x v e1 s1 x1 d1 => hg h o1 H1 δ σ S1 x v _ _ (he.mono e1) s1 x1 d1 (c.nx.pre e1)
theorem zeX(he' : RE te de): RS (zn8 te) (zdB de) := fun h o H δ σ S E D he hs q c =>
  he' h o H δ σ S _ _ he hs q fun o1 H1 S1 x v e1 s1 x1 d1 => c.nx o1 H1 δ S1 σ e1 (he.mono e1) s1 d1
theorem zaQ(he' : RE te de): RS (zqY te) (zaY de) := fun h o H δ σ S E D he hs q c => he' h o H δ σ S _ _ he hs q c.rt
theorem zgN{tc : TT}{dc : DT}(hc : RT tc dc)(ht : RS t dt)(hu : RS u du): RS (zqV tc t u) (zcQ dc dt du) := fun h o H δ σ S E D he hs q c =>
  hc h o H δ σ S _ _ he hs q fun o1 H1 S1 b e1 s1 d1 => by
    cases b with
    | true => exact zmf (ht h o1 H1 δ σ S1 E D (he.mono e1) s1 (by simpa using d1) (c.pre e1))
    | false => exact zmc (hu h o1 H1 δ σ S1 E D (he.mono e1) s1 (by simpa using d1) (c.pre e1))
def frz(n : Nat)(ds : List PyData): Option XV -> Option XV
  | some (.l k) => if k=n then some (.d (.list ds)) else some (.l k)
  | y => y
end
abbrev DI := XE -> Sto -> (List PyData -> Sto -> Prop) -> Prop
structure WalkX(h o : List Addr)(H : Hp)(J : It)(ds : List PyData): Prop where
  stop : ∀ (i : Nat) o2 H2, ExH h o H o2 H2 -> ds.length<=i -> J.stop i H2
  go : ∀ (i : Nat) d o2 H2, ExH h o H o2 H2 -> ds[i]? = some d -> J.go i H2
  yld : ∀ (i : Nat) d o2 H2 x H3 S2, ExH h o H o2 H2 -> RepS h o2 H2 S2 -> ds[i]? = some d -> J.yld i H2 x H3 -> Same H2 H3 /\ Has (vx h o2 H3) d x
def RI(w : TI)(di : DI): Prop := ∀ (h o : List Addr) (H : Hp) (δ : XE) (σ : St) (S : Sto) (R : List PyData -> Sto -> Prop) (Q : It -> Hp -> Prop), RepE h o H δ σ -> RepS h o H S -> di δ S R ->
  (∀ o' H' S' ds J, Ex o H o' H' -> RepS h o' H' S' -> WalkX h o' H' J ds -> R ds S' -> Q J H') -> w σ H Q
theorem zgM{h o : List Addr}{H : Hp}{lo : Int}{n : Nat}: WalkX h o H (Itr lo n) (zd6 lo n) where
  stop := fun i _ _ _ hi => by rw [zW] at hi; exact hi
  go := fun i d _ _ _ hi => (zbg hi).1
  yld := fun i d o2 H2 x H3 S2 _ _ hi y => by
    obtain⟨e, ex⟩ := y;subst e ex;rw [(zbg hi).2];exact⟨Same.refl _, zbx.mpr rfl⟩
def zhI(g : DG)(b : DS): List PyData -> DS
  | [], E, δ, S => E.nx δ S
  | d :: ds, E, δ, S => g (.d d) δ S fun δ1 S1 => b { nx := fun δ2 S2 => zhI g b ds E δ2 S2, ct := fun δ2 S2 => zhI g b ds E δ2 S2, bk := E.nx, rt := E.rt } δ1 S1
def zfR(i : DI)(g : DG)(b : DS): DS := fun E δ S => i δ S fun ds S1 => zhI g b ds E δ S1
theorem zeR{wi : TI}{g : TG}{tb : TS}{di : DI}{dg : DG}{db : DS}(hi : RI wi di)(hg : RG g dg)(hb : RS tb db): RS (zor wi g tb) (zfR di dg db) := fun h o H δ σ S E D he hs q c =>
  hi h o H δ σ S _ _ he hs q fun o1 H1 S1 ds J e1 s1 wk d1 => by
    refine⟨fun i m σ2 H2 => m=ds.length - i /\ i<=ds.length /\ ∃ o2 δ2 S2, Ex o1 H1 o2 H2 /\ RepE h o2 H2 δ2 σ2 /\ RepS h o2 H2 S2 /\ zhI dg db (ds.drop i) E δ2 S2, ⟨ds.length, by simp, zero_le _, o1, δ, S1, Ex.refl, he.mono e1, s1, d1⟩, ?_⟩;rintro i m σ2 H2 ⟨rfl, hi, o2, δ2, S2, e2, he2, hs2, d2⟩;by_cases hlt : i<ds.length
    · have ed : ds[i]? = some ds[i] := getElem?_eq_getElem hlt
      rw [drop_eq_getElem_cons hlt] at d2;refine .inr ⟨wk.go i _ o2 H2 e2.hid ed, fun σ3 H3 => ∃ o3 δ3 S3, Ex o1 H1 o3 H3 /\ RepE h o3 H3 δ3 σ3 /\ RepS h o3 H3 S3 /\ zhI dg db (ds.drop (i+1)) E δ3 S3, fun σ3 H3 n => ⟨ds.length - (i+1), by omega, rfl, hlt, n⟩, fun x H3 y => ?_⟩;obtain⟨s3, hx⟩ := wk.yld i _ o2 H2 x H3 S2 e2.hid hs2 ed y;have e23 : Ex o2 H2 o2 H3 := Ex.of_same s3;refine hg h o2 H3 δ2 σ2 S2 (.d ds[i]) x _ _ (he2.mono e23) (hs2.same s3) hx d2 fun o4 H4 δ4 S4 σ4 e4 he4 hs4 d4 => ?_;have e14 : Ex o1 H1 o4 H4 := (e2.trans e23).trans e4;have ce := (c.pre e1).pre e14;exact hb h o4 H4 δ4 σ4 S4 _ _ he4 hs4 d4 ⟨fun o5 H5 δ5 S5 σ5 e5 he5 hs5 d5 => ⟨o5, δ5, S5, e14.trans e5, he5, hs5, d5⟩, ce.rt, ce.nx, fun o5 H5 δ5 S5 σ5 e5 he5 hs5 d5 => ⟨o5, δ5, S5, e14.trans e5, he5, hs5, d5⟩⟩
    · have ei : i=ds.length := by omega
      subst ei;rw [drop_length] at d2;exact .inl ⟨wk.stop _ o2 H2 e2.hid (le_refl _), c.nx o2 H2 δ2 S2 σ2 (e1.trans e2) he2 hs2 d2⟩
def zaq: DT := fun _ S R => R true S
theorem zaA: RT zpJ zaq := fun h o H δ σ S R Q he hs q c => c o H S true Ex.refl hs q
def zd1(n : Nat)(g : DG)(tt : DT)(te : DE)(fin : Sto -> Prop): List PyData -> XE -> Sto -> Prop
  | [], _, S => fin S
  | d :: ds, τ, S => g (.d d) τ S fun τ1 S1 => tt τ1 S1 fun b S2 => if b=true then te τ1 S2 fun x S3 => asD x fun e => ∃ acc, S3[n]? = some acc /\ acc.length<1000 /\ zd1 n g tt te fin ds τ1 (S3.set n (acc++[e])) else zd1 n g tt te fin ds τ1 S2
def zeU(caps : List (Option Nat))(i : DI)(g : DG)(tt : DT)(te : DE): DE := fun δ S R => i δ S fun ds S1 => zd1 S1.length g tt te (fun S2 => R (.l S1.length) S2) ds (zmH caps δ) (S1++[[]])
def zci(caps : List (Option Nat))(i : DI)(g : DG)(tt : DT)(te : DE): DE := fun δ S R => i δ S fun ds S1 => zd1 S1.length g tt te (fun S2 => ∃ S0 acc, S2=S0++[acc] /\ S0.length=S1.length /\ R (.d (.list acc)) S0) ds (zmH caps δ) (S1++[[]])
theorem RepS.pop{h o r : List Addr}{H : Hp}{S0 T : Sto}(hs : RepS h (o++r) H (S0++T))(hl : S0.length=o.length): RepS h o H S0 where
  len := hl
  nd := (nodup_append.mp hs.nd).1
  dis := fun a ha => hs.dis a (mem_append_left _ ha)
  hal := hs.hal
  cont := fun k a ds e1 e2 => by
    obtain⟨vs, e3, l⟩ := hs.cont k a ds (zcW e1) (zcW e2);exact⟨vs, e3, l.mono fun b u e => by
      obtain⟨z1, z2, z3⟩ := zP.mp e;exact zP.mpr ⟨z1, fun m => z2 (mem_append_left _ m), z3⟩⟩
theorem zex{h o r : List Addr}{H : Hp}: Same (vx h (o++r) H) (vx h o H) := fun b u e => by
  obtain⟨z1, z2, z3⟩ := zP.mp e;exact zP.mpr ⟨z1, fun m => z2 (mem_append_left _ m), z3⟩
theorem Ex.pop{o o' r : List Addr}{H H' : Hp}(e : Ex o H (o++r) H'): Ex o H o H' := ⟨⟨[], by simp⟩, fun b u hb eb => ⟨hb, (e.kp b u hb eb).2⟩⟩
theorem zgV{caps : List (Option Nat)}{wi : TI}{g : TG}{tt : TT}{te : TE}{di : DI}{dg : DG}{dtt : DT}{dte : DE}(hi : RI wi di)(hg : RG g dg)(ht : RT tt dtt)(he' : RE te dte)
    {h o : List Addr} {H : Hp} {δ : XE} {σ : St} {S : Sto} {Q : VK} {fin : Nat -> Sto -> Prop} (he : RepE h o H δ σ) (hs : RepS h o H S) (q : di δ S fun ds S1 => zd1 S1.length dg dtt dte (fin S1.length) ds (zmH caps δ) (S1++[[]]))
    (c : ∀ o1 H1 D o2 H2 S2, Ex o H o1 H1 -> H1 D=none -> Ex (o1++[D]) (upd H1 D (.lst [])) o2 H2 -> RepS h o2 H2 S2 -> fin o1.length S2 -> Q (.ref D) H2) : zju caps wi g tt te σ H Q := by
  refine hi h o H δ σ S _ _ he hs q fun o1 H1 S1 ds J e1 s1 wk d1 D hD => ?_;have eN : Ex o1 H1 (o1++[D]) (upd H1 D (.lst [])) := Ex.new s1 hD;have sN : RepS h (o1++[D]) (upd H1 D (.lst [])) (S1++[[]]) := s1.new hD (zA.mpr rfl);have hn : S1.length=o1.length := s1.len;refine⟨fun i m τ H2 => m=ds.length - i /\ i<=ds.length /\ ∃ o2 δ2 S2, Ex (o1++[D]) (upd H1 D (.lst [])) o2 H2 /\ RepE h o2 H2 δ2 τ /\ RepS h o2 H2 S2 /\ zd1 S1.length dg dtt dte (fin S1.length) (ds.drop i) δ2 S2, ⟨ds.length, by simp, zero_le _, _, _, _, Ex.refl, ((he.mono e1).mono eN).tau, sN, d1⟩, ?_⟩;rintro i m τ H2 ⟨rfl, hi, o2, δ2, S2, e2, he2, hs2, d2⟩;by_cases hlt : i<ds.length
  · have ed : ds[i]? = some ds[i] := getElem?_eq_getElem hlt
    rw [drop_eq_getElem_cons hlt] at d2;refine .inr ⟨wk.go i _ o2 H2 (eN.trans e2).hid ed, fun x H3 y => ?_⟩;obtain⟨s3, hx⟩ := wk.yld i _ o2 H2 x H3 S2 (eN.trans e2).hid hs2 ed y;have e23 : Ex o2 H2 o2 H3 := Ex.of_same s3;refine hg h o2 H3 δ2 τ S2 (.d ds[i]) x _ _ (he2.mono e23) (hs2.same s3) hx d2 fun o4 H4 δ4 S4 τ4 e4 he4 hs4 d4 => ?_;refine ht h o4 H4 δ4 τ4 S4 _ _ he4 hs4 d4 fun o5 H5 S5 b e5 s5 d5 => ?_;have e15 := ((e2.trans e23).trans e4).trans e5;cases b with
    | false => exact zmc ⟨ds.length - (i+1), by omega, rfl, hlt, o5, δ4, S5, e15, he4.mono e5, s5, by simpa using d5⟩
    | true =>
      refine zmf (he' h o5 H5 δ4 τ4 S5 _ _ (he4.mono e5) s5 (by simpa using d5) fun o6 H6 S6 z v e6 s6 z6 d6 => ?_);replace d6 := zdO d6;obtain⟨e, rfl, acc, ea, hl, d6⟩ := d6;have e16 := e15.trans e6;have eD : o6[S1.length]? = some D := by
        obtain⟨r, rfl⟩ := e16.pre;rw [hn];exact zcW (by rw [getElem?_concat_length])
      obtain⟨vs, ev, l⟩ := s6.cont _ D acc eD ea;refine⟨vs, ev, by rw [l.length]; exact small1000 (le_of_lt hl), ds.length - (i+1), by omega, rfl, hlt, o6, δ4, _, e16.trans (Ex.upd eD), ((he4.mono e5).mono e6).mono (Ex.upd eD), s6.upd eD (l.append (zr.mpr ⟨v, [], rfl, z6, zA.mpr rfl⟩)), d6⟩
  · have ei : i=ds.length := by omega
    subst ei;rw [drop_length] at d2;exact .inl ⟨wk.stop _ o2 H2 (eN.trans e2).hid (le_refl _), c o1 H1 D o2 H2 S2 e1 hD e2 hs2 (hn▸d2)⟩
theorem zee{caps : List (Option Nat)}{wi : TI}{g : TG}{tt : TT}{te : TE}{di : DI}{dg : DG}{dtt : DT}{dte : DE}(hi : RI wi di)(hg : RG g dg)(ht : RT tt dtt)(he' : RE te dte): RE (zju caps wi g tt te) (zeU caps di dg dtt dte) := fun h o H δ σ S R Q he hs q c => by
  refine zgV (fin := fun n S2 => R (.l n) S2) hi hg ht he' he hs q fun o1 H1 D o2 H2 S2 e1 hD e2 s2 f => ?_;have eN : Ex o1 H1 (o1++[D]) (upd H1 D (.lst [])) := ⟨⟨[D], rfl⟩, fun b w hb e => by
    have ne : b≠D := zO e hD;exact⟨by simp [hb, ne], by rw [zG ne]; exact e⟩⟩
  refine c o2 H2 S2 (.l o1.length) _ ((e1.trans eN).trans e2) s2 ⟨D, ?_, rfl⟩ f;obtain⟨r, rfl⟩ := e2.pre;exact zcW (by rw [getElem?_concat_length])
theorem za8{caps : List (Option Nat)}{wi : TI}{g : TG}{tt : TT}{te : TE}{di : DI}{dg : DG}{dtt : DT}{dte : DE}(hi : RI wi di)(hg : RG g dg)(ht : RT tt dtt)(he' : RE te dte): RE (zju caps wi g tt te) (zci caps di dg dtt dte) := fun h o H δ σ S R Q he hs q c => by
  refine zgV (fin := fun n S2 => ∃ (S0 : Sto) (acc : List PyData), S2=S0++[acc] /\ S0.length=n /\ R (.d (.list acc)) S0) hi hg ht he' he hs q fun o1 H1 D o2 H2 S2 e1 hD e2 s2 ⟨S0, acc, eS, hl, f⟩ => ?_;subst eS;have eN : Ex o1 H1 (o1++[D]) (upd H1 D (.lst [])) := ⟨⟨[D], rfl⟩, fun b w hb e => by
    have ne : b≠D := zO e hD;exact⟨by simp [hb, ne], by rw [zG ne]; exact e⟩⟩
  have e12 := eN.trans e2;obtain⟨r, rfl⟩ := e2.pre;have er : r=[] := by
    have := s2.len;simp only [length_append, length_singleton, hl] at this;exact eq_nil_of_length_eq_zero (by omega)
  subst er;rw [append_nil] at s2 e12;have s0 : RepS h o1 H2 S0 := s2.pop hl;refine c o1 H2 S0 (.d (.list acc)) _ (e1.trans (Ex.pop (o' := o1) e12)) s0 ?_ f;obtain⟨vs, ev, l⟩ := s2.cont o1.length D acc (by rw [getElem?_concat_length]) (by rw [<- hl, getElem?_concat_length]);have nD : D∉o1 := by
    have := (nodup_append.mp s2.nd).2.2;intro m;exact this D m D (by simp) rfl
  exact zaH.mpr ⟨D, vs, rfl, zP.mpr ⟨s2.dis D (by simp), nD, ev⟩, l.mono zex⟩
def fin(n : Nat)(R : RX): RX := fun y S' => match y with
  | .l k => if k<n then R (.l k) (S'.take n) else ∃ ds, S'[k]? = some ds /\ (R (.d (.list ds)) (S'.take n) \/ R (.l n) (S'.take n++[ds]))
  | y => R y (S'.take n)
theorem zm4{h o : List Addr}{H : Hp}{S : Sto}{R : RX}{Q : VK}(hs : RepS h o H S)(c : Cn h o H R Q): Cn h o H (fin S.length R) Q := fun o' H' S' y v e s' hy q => by
  obtain⟨r, rfl⟩ := e.pre;have eS : S'=S'.take S.length++S'.drop S.length := (take_append_drop _ _).symm;have hl : (S'.take S.length).length=o.length := by
    have := s'.len;rw [length_append] at this;rw [length_take, this, hs.len];omega
  have s0 : RepS h o H' (S'.take S.length) := by
    rw [eS] at s';exact s'.pop hl
  have e0 : Ex o H o H' := Ex.pop (o' := o) e;cases y with
  | d d => exact c o H' _ (.d d) v e0 s0 (Has.mono zex d v hy) q
  | o w => exact c o H' _ (.o w) v e0 s0 hy q
  | x C fs => exact c o H' _ (.x C fs) v e0 s0 (HasE.mono zex hy) q
  | l k =>
    unfold fin at q;by_cases hk : k<S.length
    · simp only [hk, ↓reduceIte] at q
      obtain⟨a, ea, rfl⟩ := hy;exact c o H' _ (.l k) _ e0 s0 ⟨a, by rw [getElem?_append_left (by rw [<- hs.len]; exact hk)] at ea; exact ea, rfl⟩ q
    · simp only [hk, ↓reduceIte] at q
      obtain⟨ds, eds, q⟩ := q;obtain⟨a, ea, rfl⟩ := hy;obtain⟨vs, ev, l⟩ := s'.cont k a ds ea eds;have na : a∉o := fun m => by
        obtain⟨j, ej⟩ := mem_iff_getElem?.mp m;have hj : j<o.length := (List.getElem?_eq_some_iff.mp ej).1;have := zdl s'.nd (zcW (t := r) ej) ea;rw [hs.len] at hk;omega
      have nh : a∉h := s'.dis a (mem_of_getElem? ea);rcases q with q | q
      · exact c o H' _ (.d (.list ds)) _ e0 s0 (zaH.mpr ⟨a, vs, rfl, zP.mpr ⟨nh, na, ev⟩, l.mono zex⟩) q
      · have hn : H a=none := by
          cases eh : H a with
          | none => rfl
          | some u => exact absurd (mem_of_getElem? ea) (e.kp a u na eh).1
        have e1 : Ex o H (o++[a]) H' := ⟨⟨[a], rfl⟩, fun b u hb eb => ⟨by simp only [mem_append, mem_singleton, not_or]; exact⟨hb, zO eb hn⟩, (e0.kp b u hb eb).2⟩⟩;have sub : Same (vx h (o++r) H') (vx h (o++[a]) H') := fun b u eb => by
          obtain⟨z1, z2, z3⟩ := zP.mp eb;refine zP.mpr ⟨z1, ?_, z3⟩;simp only [mem_append, mem_singleton, not_or];exact⟨fun m => z2 (mem_append_left _ m), fun z => z2 (by rw [z]; exact mem_of_getElem? ea)⟩
        refine c (o++[a]) H' _ (.l S.length) _ e1 ⟨by rw [length_append, length_append, hl]; rfl, zbL hs.nd na, fun b hb => ?_, s0.hal, fun j b es q1 q2 => ?_⟩ ⟨a, by rw [hs.len, getElem?_concat_length], rfl⟩ q
        · rcases mem_append.mp hb with hb | hb
          · exact hs.dis b hb
          · rw [mem_singleton.mp hb]; exact nh
        · by_cases hj : j<o.length
          · rw [getElem?_append_left hj] at q1
            rw [getElem?_append_left (by rw [hl]; exact hj), List.getElem?_take_of_lt (by rw [hs.len]; exact hj)] at q2;obtain⟨ws, e3, l3⟩ := s'.cont j b es (zcW q1) q2;exact⟨ws, e3, l3.mono sub⟩
          · have hj' : j=o.length := by
              obtain⟨q, _⟩ := List.getElem?_eq_some_iff.mp q1;rw [length_append, length_singleton] at q;omega
            subst hj';rw [getElem?_concat_length] at q1;rw [<- hl, getElem?_concat_length] at q2;cases q1;cases q2;exact⟨vs, ev, l.mono sub⟩
def zbK(n : Nat)(R : RX): DEnds := { nx := fun _ S' => fin n R (.d .none) S', rt := fin n R }
theorem eok{h o : List Addr}{H : Hp}{S : Sto}{R : RX}{Q : VK}(hs : RepS h o H S)(c : Cn h o H R Q): EOk h o H (zbK S.length R) { nx := fun _ H' => Q .non H', rt := Q } :=
  ⟨fun o' H' δ' S' σ' e he hs' q => zm4 hs c o' H' S' _ _ e hs' xN q, zm4 hs c, fun _ _ _ _ _ _ _ _ q => q.elim, fun _ _ _ _ _ _ _ _ q => q.elim⟩
def zbc(p : List PyData): Prop := ∃ l g s : Int, p=[.int l, .int g, .int s] /\ 0<=l
end
section
def zq7(K : W.Frag): List V -> Hp -> VK -> Prop := fun xs H Q => ∃ (p : Addr) (ns : List Int), xs=[.ref p] /\ SqL K H p (ns.map V.int) /\ Q (.int ns.sum) H
def zq6(K : W.Frag): List V -> Hp -> VK -> Prop := fun xs H Q => ∃ (p : Addr) (bs : List Bool), xs=[.ref p] /\ SqL K H p (bs.map V.bl) /\ Q (.bl (bs.all id)) H
theorem zmN: bootBuiltins "sum" = some (.builtin "sum") := by decide +kernel
theorem zgU: bootBuiltins "all" = some (.builtin "all") := by decide +kernel
section
variable {X : Cx}
theorem zgz(hc : X.calm=true): CallR X (.builtin "sum") (zq7 X.K) := by
  intro ze s σ H xs us Q I r h;obtain⟨p, ns, rfl, hq, q⟩ := h;obtain⟨u, rfl, rx⟩ := vals1 r;cases (show u=Value.ref p from rx);obtain⟨its, rv, pl, _⟩ := I.list hq;obtain⟨ys, e, hns⟩ := zeV (za6 rv);refine sum_intListG (I.ok.hd hc) (by rw [<- e]; exact pl.isList) fun h' tk t' hk => ⟨.int ns.sum, H, I.kept (t' := tk) hk, ⟨t', ?_⟩, q⟩;have es : preSum (numAt ys) ys.size=ns.sum := by
    rw [preSum_eq, hns, List.take_of_length_le (by simp)]
  rw [es]
theorem zii: ∀ {bs : List Bool} {us : List Value} {i : Nat} {v : Value}, Vals (bs.map V.bl) us -> us[i]? = some v -> ∃ b, bs[i]? = some b /\ v=.bool b
  | [], _, i, v, .nil, e => by simp at e
  | b :: bs, _, 0, v, .cons r _, e => by
    rw [getElem?_cons_zero] at e;cases e;exact⟨b, rfl, r⟩
  | b :: bs, _, i+1, v, .cons _ t, e => by
    obtain⟨c, e1, e2⟩ := zii (i := i) (v := v) t (by simpa using e);exact⟨c, by simpa using e1, e2⟩
theorem znN(bs : List Bool): ((List.range bs.length).all fun i => (bs[i]?).getD true)=bs.all id := by
  rw [Bool.eq_iff_iff, all_eq_true, all_eq_true];constructor
  · intro h b hb
    obtain⟨i, hi⟩ := mem_iff_getElem?.mp hb;have hl := (List.getElem?_eq_some_iff.mp hi).1;have := h i (mem_range.mpr hl);rw [hi] at this;exact this
  · intro h i hi
    have hl := mem_range.mp hi;rw [getElem?_eq_getElem hl];exact h _ (getElem_mem hl)
theorem zcf(hc : X.calm=true): CallR X (.builtin "all") (zq6 X.K) := by
  intro ze s σ H xs us Q I r h;obtain⟨p, bs, rfl, hq, q⟩ := h;obtain⟨u, rfl, rx⟩ := vals1 r;cases (show u=Value.ref p from rx);obtain⟨its, rv, pl, _⟩ := I.list hq;have hl := pl.isList;have hlt : p<s.heap.objs.size := by
    obtain⟨_, e, _⟩ := hl;exact lt_size e
  refine call_all_walk (x := Value.ref p) (wpAny_pyIter_list hl ?_);refine⟨s.heap.objs.size, [s.heap.objs.size, p], [s.heap.objs.size], its.toArray.size, _, _, fun i => (bs[i]?).getD true, rfl,
    Walks.list (A := X.A.in1) (I.ok.hd hc) _ p (ne_of_lt hlt) its.toArray, ⟨⟨_, get?_push_size _ rfl, rfl, rfl⟩, hl.push _⟩, fun i v s' Q' E' hP hQ => ?_, fun h' tk hk => ?_⟩
  · obtain⟨b, e, rfl⟩ := zii (i := i) (v := v) rv (by simpa using hP)
    have hQ' : Q' b s' := by simpa [e] using hQ
    exact wpAny_truthy_bool hQ'
  · have hz : its.toArray.size=bs.length := by
      have := rv.length;rw [length_map] at this;simp [this]
    rw [hz, znN];refine⟨.bl _, H, I.kept (t' := tk) fun b o e => hk b o (fun hm => ?_) (get?_push_of_some _ e), rfl, q⟩;rw [mem_singleton.mp hm] at e;exact lt_irrefl _ (lt_size e)
end
def zqb: List XV -> Sto -> RX -> Prop := fun xs S R => arg1 xs fun x => ∃ ds, zlp S x=some ds /\ ∃ ns : List Int, ds=ns.map PyData.int /\ R (.d (.int ns.sum)) S
theorem zj7{K : W.Frag}: RC (zq7 K) zqb := fun h o H S xs vs R Q hs hx q c => by
  obtain⟨x, rfl, ds, hd, ns, rfl, q1⟩ := zaO q;obtain⟨v, rfl, hx1⟩ := hxs1 hx;obtain⟨a, ws, rfl, ea, l⟩ := za1 hs hd hx1;rw [zbN l] at ea;exact⟨a, ns, rfl, .of ea, c o H S _ _ Ex.refl hs (xI _) q1⟩
theorem zgn{H : Hp}: ∀ {ns : List Bool} {vs : List V}, HasL H (ns.map PyData.bool) vs -> vs=ns.map V.bl
  | [], vs, h => zA.mp h
  | n :: ns, vs, h => by
    obtain⟨v, r, rfl, h1, h2⟩ := zr.mp h;rw [zbr.mp h1, zgn h2];rfl
def zmP: List XV -> Sto -> RX -> Prop := fun xs S R => arg1 xs fun x => ∃ ds, zlp S x=some ds /\ ∃ ns : List Bool, ds=ns.map PyData.bool /\ R (.d (.bool (ns.all id))) S
theorem zfp{K : W.Frag}: RC (zq6 K) zmP := fun h o H S xs vs R Q hs hx q c => by
  obtain⟨x, rfl, ds, hd, ns, rfl, q1⟩ := zaO q;obtain⟨v, rfl, hx1⟩ := hxs1 hx;obtain⟨a, ws, rfl, ea, l⟩ := za1 hs hd hx1;rw [zgn l] at ea;exact⟨a, ns, rfl, .of ea, c o H S _ _ Ex.refl hs (xB _) q1⟩
section
variable {S : Sto} {i : Int} {b : Bool} {z : Str} {ds : List PyData} {d : PyData} {k : Nat} {x y : XV} {R : RX} {c : String} {p : List PyData} {n : Nat} {v : V}
theorem zpM{K : Int -> Prop}: asI (.d (.int i)) K=K i := rfl
theorem zpK{K : Bool -> Prop}: asB (.d (.bool b)) K=K b := rfl
theorem zoB{K : Str -> Prop}: asS (.d (.str z)) K=K z := rfl
theorem zpo{K : List PyData -> Prop}: asT (.d (.tuple ds)) K=K ds := rfl
theorem zoQ{K : PyData -> Prop}: asD (.d d) K=K d := rfl
theorem zmo: zlp S (.d (.list ds))=some ds := rfl
theorem zo3: asQ S (.d (.list ds))=some ds := rfl
theorem zp9: asQ S (.l k)=S[k]? := rfl
theorem zkS: zcE S (.d d)=some d := rfl
theorem zj3: zcE S (.l k)=(S[k]?).map .list := rfl
theorem zme: ret0 S R (.d d) []=R (.d d) S := rfl
theorem zmG: ret0 S R (.l 0) [ds]=R (.l S.length) (S++[ds]) := rfl
theorem zmK: zqj k S R (.d d) [p]=R (.d d) (S.set k p) := rfl
theorem zoz: fin n R (.d d) S=R (.d d) (S.take n) := rfl
theorem zp7: fin n R (.l k) S=if k<n then R (.l k) (S.take n) else ∃ ds, S[k]? = some ds /\ (R (.d (.list ds)) (S.take n) \/ R (.l n) (S.take n++[ds])) := rfl
theorem zmB{K : XV -> Prop}: arg1 [x] K=K x := rfl
theorem zmz{K : XV -> XV -> Prop}: arg2 [x, y] K=K x y := rfl
theorem zmA{K : String -> Prop}: zq0 (.o (.ty c)) K↔K c := ⟨fun⟨_, e, q⟩ => by cases e; exact q, fun q => ⟨c, rfl, q⟩⟩
theorem zmw{K : Int -> Prop}: zqM (.d (.bool b)) K=K (if b then 1 else 0) := rfl
theorem zj0{δ : XE}: (zbK n R).nx δ S=fin n R (.d .none) S := rfl
theorem zkx: (zbK n R).rt x S=fin n R x S := rfl
theorem zg1: datas []=some [] := rfl
theorem zfh{r : List XV}: datas (.d d :: r)=(datas r).map (d :: ·) := rfl
end
theorem zpZ{α : Type}{a : α}{l : List α}: atI (a :: l) 0=some a := zcX (j := 0) rfl
theorem zoI{α : Type}{a b : α}{l : List α}: atI (a :: b :: l) 1=some b := zcX (j := 1) rfl
theorem zpy{α : Type}{a b c : α}{l : List α}: atI (a :: b :: c :: l) 2=some c := zcX (j := 2) rfl
def Shp(n : Nat)(d : PyData): Prop := d.canLay0=true /\ d.depth<=n
theorem zcS{n : Nat}{i : Int}: Shp n (.int i) := ⟨rfl, zero_le _⟩
theorem zht{n : Nat}: ∀ {ds : List PyData}, (∀ d∈ds, Shp n d) -> PyData.canLayAll0 ds=true /\ PyData.depthAll ds<=n
  | [], _ => ⟨by simp only [PyData.canLayAll0], by simp only [PyData.depthAll]; exact zero_le _⟩
  | d :: ds, h => by
    obtain⟨h1, h2⟩ := h d mem_cons_self;obtain⟨h3, h4⟩ := zht (ds := ds) fun e m => h e (mem_cons_of_mem _ m);simp only [PyData.canLayAll0, PyData.depthAll, h1, h3, Bool.and_true, true_and];omega
theorem zhX{n : Nat}{ds : List PyData}(h : ∀ d∈ds, Shp n d): Shp (n+1) (.list ds) := by
  obtain⟨h1, h2⟩ := zht h;exact⟨by simp only [PyData.canLay0]; exact h1, by simp only [PyData.depth]; omega⟩
theorem zcZ{n : Nat}{ds : List PyData}(h : ∀ d∈ds, Shp n d): Shp (n+1) (.tuple ds) := by
  obtain⟨h1, h2⟩ := zht h;exact⟨by simp only [PyData.canLay0]; exact h1, by simp only [PyData.depth]; omega⟩
theorem zjB{α : Type}{n : Nat}{f : α -> PyData}{l : List α}(h : ∀ x∈l, Shp n (f x)): ∀ d∈l.map f, Shp n d := fun d m => by
  obtain⟨x, hx, rfl⟩ := mem_map.mp m;exact h x hx
theorem zqS{n : Nat}{a b : PyData}(h1 : Shp n a)(h2 : Shp n b): ∀ d∈[a, b], Shp n d := by
  intro d m;simp only [mem_cons, not_mem_nil, or_false] at m;rcases m with rfl | rfl
  · exact h1
  · exact h2
theorem Shp.ok{n : Nat}{d : PyData}(h : Shp n d)(hn : n<=64 := by decide): SeqAt.shaped d=true := by
  unfold SeqAt.shaped;rw [h.1, decide_eq_true (le_trans h.2 hn)];rfl
theorem zai{g : DG}{b : DS}{E : DEnds}: ∀ {ds : List PyData} {δ : XE} {S : Sto} (I : Nat -> XE -> Sto -> Prop), I 0 δ S ->
    (∀ i d δ S (N : XE -> Sto -> Prop), ds[i]? = some d -> I i δ S -> (∀ δ' S', I (i+1) δ' S' -> N δ' S') -> g (.d d) δ S fun δ1 S1 => b { nx := N, ct := N, bk := E.nx, rt := E.rt } δ1 S1) ->
    (∀ δ S, I ds.length δ S -> E.nx δ S) -> zhI g b ds E δ S
  | [], δ, S, I, h0, _, fin => fin δ S h0
  | d :: ds, δ, S, I, h0, step, fin => by
    show g (.d d) δ S fun δ1 S1 => b _ δ1 S1;refine step 0 d δ S _ rfl h0 fun δ' S' h1 => ?_;exact zai (ds := ds) (fun i => I (i+1)) h1 (fun i e δ S N hi => step (i+1) e δ S N (by simpa using hi)) fin
theorem zfX{α : Type}{l : List α}{a b : α}{n : Nat}(h : l.length=n): (l++[a]).set n b=l++[b] := by
  subst h;rw [List.set_append_right _ _ (le_refl _), Nat.sub_self];rfl
theorem zn9{H : Hp}: RepS [] [] H [] := ⟨rfl, nodup_nil, fun _ h => (nomatch h), fun _ h => (nomatch h), fun _ _ _ e => (by simp at e)⟩
theorem Ex.same_nil{o' : List Addr}{H H' : Hp}(e : Ex [] H o' H'): Same H H' := fun b u q => (e.kp b u (by simp) q).2
theorem zn3{K : W.Frag}{a : Addr}{ns : List Int}{N : Int}{j m : Nat}{tb : TS}{db : DS}{D : Ends}{σ : St}{H : Hp}(hb : RS tb db)(h0 : σ[0]? = some (some (.ref a)))(hl : σ.length=m+1)(hS : SqL K H a (ns.map V.int))(hlen : ns.length<=63)
    (turn : ∀ n : Int, db { nx := fun δ _ => δ[0]? = some (some (.o (.ref a))) /\ δ.length=m+1, ct := fun δ _ => δ[0]? = some (some (.o (.ref a))) /\ δ.length=m+1, rt := fun _ _ => False } ((some (.o (.ref a)) :: List.replicate m none).set j (some (.d (.int n)))) [])
    (hj : j≠0) (done : ∀ (σ : St) (H1 : Hp), Same H H1 -> D.nx σ H1) :
    zor (znj K (tOp zon (zol (zjc (tC2 (zod K) (zlb 0) (tC (.int 0))) zoq)) (tSl (zou K) (zlb 0) (ziW (tC (.int 1))) (ziW (tC (.int N)))))) (zho j) tb D σ H := by
  refine zjL (a := a) (ns := ns) (fun σ => σ[0]? = some (some (.ref a)) /\ σ.length=m+1) h0 hS hlen ⟨h0, hl⟩ ?_ fun σ H1 _ s => done σ H1 s;rintro n σ1 H1 H2 ⟨z0, z1⟩ s1 s2;refine hb [] [] H2 _ _ [] _ _ ⟨by simp [z1], fun i x e => ?_⟩ zn9 (turn n) ⟨?_, fun _ _ _ _ _ _ _ _ q => q.elim, fun _ _ _ _ _ _ _ _ q => q.elim, ?_⟩
  · rw [List.getElem?_set] at e ⊢
    by_cases hij : j=i
    · rw [if_pos hij] at e ⊢
      by_cases hjl : j<m+1
      · rw [if_pos (by simpa using hjl)] at e
        rw [if_pos (by rw [z1]; exact hjl)];cases e;exact⟨.int n, rfl, xI n⟩
      · rw [if_neg (by simpa using hjl)] at e
        cases e
    · rw [if_neg hij] at e ⊢
      cases i with
      | zero =>
        cases e;exact⟨.ref a, z0, rfl⟩
      | succ i =>
        rw [getElem?_cons_succ, List.getElem?_replicate] at e;split at e <;> cases e
  · rintro o' H' δ' S' σ' e he hs ⟨q1, q2⟩
    obtain⟨v, ev, hv⟩ := he.get 0 _ q1;cases hv;exact⟨s2.trans e.same_nil, ev, by rw [<- he.len]; exact q2⟩
  · rintro o' H' δ' S' σ' e he hs ⟨q1, q2⟩
    obtain⟨v, ev, hv⟩ := he.get 0 _ q1;cases hv;exact⟨s2.trans e.same_nil, ev, by rw [<- he.len]; exact q2⟩
end
section
theorem zkk{P : Program}{w : World}{K : W.Frag}{tg : Expr}(it : Addr)(lo : Int)(n : Nat): Turn P w K tg (Itr lo n) [it] it (fun i h => IsLongIter h it (lo+(i : Nat)*1) ((n : Int) - (i : Nat)) 1) where
  mem := by simp
  obj := fun i h st b hb => by
    have e : b=it := by simpa using hb
    subst e;exact⟨_, st, fun v z => by
      have z' : Data.fields _=Data.cell v := z;cases z'⟩
  keep := fun i h h' st k => k it (by simp) _ st
  item := by
    intro X hP hw hK hc i ze s σ H E I hf st hg;subst hP hw hK;obtain⟨f0, f1, f2, f3, f4, f5⟩ := hf it (by simp);have W := Walks.longrange (prog := X.prog) (w := X.w) (I.ok.hd hc) it lo 1 n;refine W.item i s _ _ hg st fun v h' tk hv st' kk => ?_;obtain⟨t, rfl⟩ := hv;have I1 : Inv X ze σ H { s with heap := h', toks := tk } := I.turned (fun b o hb e => kk b o (by simpa using hb) e) f0 f1 f3 f4 f5;refine⟨_, rfl, zlY (s := { s with heap := h', toks := tk }) (n := "longrange_iterator") st' rfl rfl dz ⟨.int (lo+i), H, I1, ⟨t, ?_⟩, ⟨rfl, rfl⟩, st', fun b hb => (hf b hb).1⟩⟩;rw [Int.mul_one]
  done := by
    intro X hP hw hK hc i ze s σ H E I hf st hg;subst hP hw hK;obtain⟨f0, f1, f2, f3, f4, f5⟩ := hf it (by simp);exact wpAny_pyNext_long_end (I.ok.hd hc) st (by have : n<=i := hg; omega) fun h' eb => ⟨rfl, I.turned (t' := s.toks) (fun b o hb e => eb b o hb e) f0 f1 f3 f4 f5⟩
  self := fun _ _ _ _ _ st h => wpAny_pyIter_longiter st h
section
variable {X : Cx} {tg : Expr}
theorem zgv{ze : List (Addr×Obj)}{σ : St}{H : Hp}{s : Shared}{R : It -> Hp -> Prop}{E : Value -> Shared -> Prop}{lo hi : Int}{t u v : Tok}{tk : Nat}(I : Inv X ze σ H s)
    (q : R (Itr lo (hi - lo).toNat) H) : wpAny (model X.prog X.w) X.A (pyIter (.ref s.heap.objs.size)) (PIE X ze σ tg R) E { s with heap := s.heap.push { cls := .type "range", data := .fields #[.int lo t, .int hi u, .int 1 v] }, toks := tk } := by
  have I1 : Inv X ze σ H { s with heap := s.heap.push { cls := .type "range", data := .fields #[.int lo t, .int hi u, .int 1 v] }, toks := tk } := I.kept fun b o e => get?_push_of_some _ e;have e1 : lo+((0 : Nat) : Int)*1=lo := by simp
  have e2 : (((hi - lo).toNat : Nat) : Int) - ((0 : Nat) : Int)=Builtin.Range.rangeSize lo hi 1 := by rw [rangeSize_one]; split <;> omega
  cases hsm : Builtin.Range.small lo hi 1 with
  | true =>
    refine wpAny_pyIter_range (IsRange.new ..) hsm ?_;refine⟨(s.heap.push { cls := .type "range", data := .fields #[.int lo t, .int hi u, .int 1 v] }).objs.size, [(s.heap.push { cls := .type "range", data := .fields #[.int lo t, .int hi u, .int 1 v] }).objs.size], _, _, H, rfl,
      I1.kept (t' := tk) fun b o e => get?_push_of_some _ e, ziQ _ lo (hi - lo).toNat, ?_, fun b hb => ?_, q⟩
    · show IsRangeIter _ _ (lo+((0 : Nat) : Int)*1) ((((hi - lo).toNat : Nat) : Int) - ((0 : Nat) : Int)) 1
      rw [e1, e2];exact get?_push_size _ rfl
    · have e : b=(s.heap.push { cls := .type "range", data := .fields #[.int lo t, .int hi u, .int 1 v] }).objs.size := by simpa using hb
      subst e;exact I1.fpOk (le_refl _) (I1.hok.fresh (le_refl _))
  | false =>
    refine wpAny_pyIter_longrange (IsRange.new ..) hsm ?_;refine⟨(s.heap.push { cls := .type "range", data := .fields #[.int lo t, .int hi u, .int 1 v] }).objs.size, [(s.heap.push { cls := .type "range", data := .fields #[.int lo t, .int hi u, .int 1 v] }).objs.size], _, _, H, rfl,
      I1.kept (t' := tk) fun b o e => get?_push_of_some _ e, zkk _ lo (hi - lo).toNat, ?_, fun b hb => ?_, q⟩
    · show IsLongIter _ _ (lo+((0 : Nat) : Int)*1) ((((hi - lo).toNat : Nat) : Int) - ((0 : Nat) : Int)) 1
      rw [e1, e2];exact get?_push_size _ rfl
    · have e : b=(s.heap.push { cls := .type "range", data := .fields #[.int lo t, .int hi u, .int 1 v] }).objs.size := by simpa using hb
      subst e;exact I1.fpOk (le_refl _) (I1.hok.fresh (le_refl _))
def zmp(ta : TA): TI := fun σ H R => ta σ H fun vs H1 => ∃ j : Int, vs=[.int j] /\ R (Itr 0 j.toNat) H1
def zm1(ta : TA): TI := fun σ H R => ta σ H fun vs H1 => ∃ i j : Int, vs=[.int i, .int j] /\ R (Itr i (j - i).toNat) H1
theorem zao{a : Expr}{ta : TA}{p pos : Pos}(hg : Gl X "range")(hm : X.mg "range" = none)(ha : PA X [a] ta)(hs : starEach [a] X.env=[(false, eval a X.env)] := by rfl): PI X tg (.Call (.Name "range" p) [a] [] pos) (zmp ta) := by
  intro ze s σ H R I h;refine Call_ (zdJ I hg hm boot_range (PyProof.Rows.callWith_type1 (thn (ha pos ze s σ H _ I h) fun us s1 ⟨vs, H1, I1, r1, q1⟩ => ?_) hs rfl));obtain⟨j, e, q⟩ := q1;subst e;cases r1 with
  | cons r rr =>
    cases rr;obtain⟨t, rfl⟩ := r;exact call_range_1 (zgv I1 (by simpa using q))
theorem ziJ{a b : Expr}{ta : TA}{p pos : Pos}(hg : Gl X "range")(hm : X.mg "range" = none)(ha : PA X [a, b] ta)(hs : starEach [a, b] X.env=[(false, eval a X.env), (false, eval b X.env)] := by rfl)(hs2 : starEach [b] X.env=[(false, eval b X.env)] := by rfl):
    PI X tg (.Call (.Name "range" p) [a, b] [] pos) (zm1 ta) := by
  intro ze s σ H R I h;refine Call_ (zdJ I hg hm boot_range (PyProof.Rows.callWith_type1 (thn (ha pos ze s σ H _ I h) fun us s1 ⟨vs, H1, I1, r1, q1⟩ => ?_) (by rw [hs, hs2]) (by rw [hs2]; rfl)));obtain⟨i, j, e, q⟩ := q1;subst e;cases r1 with
  | cons r rr =>
    cases rr with
    | cons r' rr =>
      cases rr;obtain⟨t, rfl⟩ := r;obtain⟨t', rfl⟩ := r';exact call_range_2 (zgv I1 q)
end
def zaI(a : DA): DI := fun δ S R => a δ S fun xs S1 => arg1 xs fun x => asI x fun j => R (zd6 0 j.toNat) S1
def zf1(a : DA): DI := fun δ S R => a δ S fun xs S1 => arg2 xs fun x y => asI x fun i => asI y fun j => R (zd6 i (j - i).toNat) S1
theorem zcD{ta : TA}{da : DA}(ha : RA ta da): RI (zmp ta) (zaI da) := fun h o H δ σ S R Q he hs q c =>
  ha h o H δ σ S _ _ he hs q fun o1 H1 S1 xs vs e1 s1 x1 d0 => by
    obtain⟨x, rfl, d2⟩ := zaO d0;obtain⟨j, rfl, d1⟩ := zaw d2;obtain⟨v, rfl, hv⟩ := hxs1 x1;rw [zat hv];exact⟨j, rfl, c o1 H1 S1 _ _ e1 s1 zgM d1⟩
theorem zlT{ta : TA}{da : DA}(ha : RA ta da): RI (zm1 ta) (zf1 da) := fun h o H δ σ S R Q he hs q c =>
  ha h o H δ σ S _ _ he hs q fun o1 H1 S1 xs vs e1 s1 x1 d0 => by
    obtain⟨x, y, rfl, d2⟩ := zeG d0;obtain⟨i, rfl, d3⟩ := zaw d2;obtain⟨j, rfl, d1⟩ := zaw d3;obtain⟨v, u, rfl, hv, hu⟩ := hxs2 x1;rw [zat hv, zat hu];exact⟨i, j, rfl, c o1 H1 S1 _ _ e1 s1 zgM d1⟩
end
section
open Sem (wp)
open AutoSeq1 (wpAny_loadPart')
section
variable {X : Cx} {ze : List (Addr×Obj)} {σ : St} {H : Hp} {s : Shared} {h' : Heap}
theorem Inv.turnLaid{t' : Nat}{ch : List Addr}{T : Addr}{o : HO}(I : Inv X ze σ H s)(k : ∀ b u, b∉ch -> s.heap.get? b=some u -> h'.get? b=some u)(hf : ∀ b∈ch, FpOk X ze H b)(hT : s.heap.objs.size<=T)
    (new : ObjOk X.prog X.w (upd H T o) h' T o) : Inv X ze σ (upd H T o) { s with heap := h', toks := t' } := by
  have hn : H T=none := I.hok.fresh hT;have nch : ∀ b u, H b=some u -> b∉ch := fun b u e m => by rw [(hf b m).1] at e; cases e
  have neT : ∀ b u, s.heap.get? b=some u -> b≠T := fun b u e z => absurd (lt_of_lt_of_le (lt_size e) hT) (by rw [z]; exact lt_irrefl _);have up : ∀ b u, H b=some u -> upd H T o b=some u := fun b u e => (zG (zO e hn)).trans e;refine I.step (g' := s.gens) (d' := s.drawn) (ch := ch) (fun b hb => ?_) (fun b u _ _ hc e _ => k b u hc e) (fun b u _ _ hc e _ => ⟨u.slots, k b u hc e⟩) (fun b u _ e n => (zG (neT b u e)).trans n)
    (fun b u hc e => ⟨u, k b u hc e⟩) (fun b xs e => up b _ e) (fun b u v e => up b _ e) (fun b ps e => up b _ e) (fun m hm => ?_) (fun b u e => ?_) I.bare
  · obtain⟨_, f1, _, f3, f4, f5⟩ := hf b hb
    exact⟨f3, f1, f4, f5⟩
  · obtain⟨ob, es, ep, ho, r⟩ := hm
    exact⟨ob, es, ep, k _ ob (fun z => (hf _ z).2.1 rfl) ho, r⟩
  · by_cases hb : b=T
    · subst hb
      rw [zaf] at e;cases e;exact new
    · rw [zG hb] at e
      refine(I.hok b u e).stay (fun c v hc q => k c v ?_ q) (fun c q => up c _ q) (fun c xs q => up c _ q) fun c o u q => up c _ q;rcases hc with z | z
      · rw [z]; exact nch b u e
      · exact nch c _ z
theorem Inv.turnedN{t' : Nat}{ch : List Addr}(I : Inv X ze σ H s)(k : ∀ b u, b∉ch -> s.heap.get? b=some u -> h'.get? b=some u)(hf : ∀ b∈ch, FpOk X ze H b): Inv X ze σ H { s with heap := h', toks := t' } := by
  have nch : ∀ b u, H b=some u -> b∉ch := fun b u e m => by rw [(hf b m).1] at e; cases e
  refine I.step (g' := s.gens) (d' := s.drawn) (ch := ch) (fun b hb => ?_) (fun b u _ _ hc e _ => k b u hc e) (fun b u _ _ hc e _ => ⟨u.slots, k b u hc e⟩) (fun b u _ e n => n)
    (fun b u hc e => ⟨u, k b u hc e⟩) (fun b xs e => e) (fun b u v e => e) (fun b ps e => e) (fun m hm => ?_) (fun b u e => ?_) I.bare
  · obtain⟨_, f1, _, f3, f4, f5⟩ := hf b hb
    exact⟨f3, f1, f4, f5⟩
  · obtain⟨ob, es, ep, ho, r⟩ := hm
    exact⟨ob, es, ep, k _ ob (fun z => (hf _ z).2.1 rfl) ho, r⟩
  · refine(I.hok b u e).stay (fun c v hc q => k c v ?_ q) (fun _ q => q) fun _ _ q => q
    rcases hc with z | z
    · rw [z]; exact nch b u e
    · exact nch c _ z
end
section
variable {prog : Program} {w : World} {A : Around} {E : Value -> Shared -> Prop} {s : Shared}
theorem zi8{j t : Addr}{i : Nat}{vs : Array Value}{x : Value}{Q : Value -> Shared -> Prop}(hj : s.heap.IsTupleIter j t i)(ht : s.heap.IsTuple t vs)(hx : vs[i]? = some x)
    (hQ : ∀ g, g.IsTupleIter j t (i+1) -> Heap.SameBut j s.heap g -> Q x { s with heap := g }) : wpAny (model prog w) A (Builtin.SmallTypes.nextOf (.ref j)) Q E s := by
  obtain⟨oj, ej, cj, dj⟩ := id hj;obtain⟨ot, et, _, nt, dt⟩ := ht;unfold Builtin.SmallTypes.nextOf;refine wpAny_bind (wpAny_callSpecial?_slot (name := Str.ofString "__next__") hj.typeIs F.slot_tuple_iterator_next (wpAny_call_entry F.slot_tuple_iterator_next hj.typeIs F.entry_tuple_iterator_next ?_ (F.args_tuple_iterator_next_1 _)));show wpAny _ _ (field (.ref j) 0 >>= _) _ _ s;refine wpAny_bind (wpAny_field ej dj (x := .ref t) rfl ?_);show wpAny _ _ (ite ((Value.ref t == Value.none)=true) _ _) _ _ s;refine(if_neg (show ¬ ((Value.ref t == Value.none)=true) from Bool.false_ne_true))▸?_;show wpAny _ _ (field (.ref j) 1 >>= _) _ _ s;refine wpAny_bind (wpAny_field ej dj (x := .int i 0) rfl ?_);refine wpAny_bind (m := seqItems? (.ref t)) (wpAny_seqItems et dt ?_);simp only [hx, Int.toNat_natCast];refine wpAny_bind (wpAny_setField ej dj (by simp) (wpAny_pure ⟨x, rfl, wpAny_pure (hQ _ ⟨_, get?_update_self _ ej (Obj.isFreed_of_fields (Obj.data_mapFields dj _)), (Obj.cls_mapFields ..).trans cj, ?_⟩ (Heap.SameBut.update ..))⟩));rw [Obj.data_mapFields dj];simp [rawInt]
theorem ze8{j t : Addr}{i : Nat}{vs : Array Value}{Q : Value -> Shared -> Prop}(hh : A.handled=none)(hj : s.heap.IsTupleIter j t i)(ht : s.heap.IsTuple t vs)(hx : vs[i]? = none)
    (hE : ∀ g e, Heap.ExtBut j s.heap g -> (∃ o, g.get? e=some o /\ o.cls=.type "StopIteration") -> E (.ref e) { s with heap := g }) : wpAny (model prog w) A (Builtin.SmallTypes.nextOf (.ref j)) Q E s := by
  obtain⟨oj, ej, cj, dj⟩ := id hj;obtain⟨ot, et, _, nt, dt⟩ := ht;unfold Builtin.SmallTypes.nextOf;refine wpAny_bind (wpAny_callSpecial?_slot (name := Str.ofString "__next__") hj.typeIs F.slot_tuple_iterator_next (wpAny_call_entry F.slot_tuple_iterator_next hj.typeIs F.entry_tuple_iterator_next ?_ (F.args_tuple_iterator_next_1 _)));show wpAny _ _ (field (.ref j) 0 >>= _) _ _ s;refine wpAny_bind (wpAny_field ej dj (x := .ref t) rfl ?_);show wpAny _ _ (ite ((Value.ref t == Value.none)=true) _ _) _ _ s;refine(if_neg (show ¬ ((Value.ref t == Value.none)=true) from Bool.false_ne_true))▸?_;show wpAny _ _ (field (.ref j) 1 >>= _) _ _ s;refine wpAny_bind (wpAny_field ej dj (x := .int i 0) rfl ?_);refine wpAny_bind (m := seqItems? (.ref t)) (wpAny_seqItems et dt ?_);simp only [hx, Int.toNat_natCast];refine wpAny_bind (wpAny_rule (wpAny_bind (wpAny_setField ej dj (by simp) ?_)));show wpAny _ _ (newExc (.type "StopIteration") [] >>= _) _ _ _;refine wpAny_bind ?_;simp only [newExc, newTuple];refine wpAny_bind (wpAny_newObj_type ?_ (by size_fits)); refine wpAny_bind (m := firstArgMember _ _) (wpAny_of_eq (a := Value.none) (by first | rfl | (simp only [firstArgMember]; rfl)) ?_);refine wpAny_newObj_type ?_ (by size_fits); simp only [raiseNew];refine wpAny_bind (wpAny_handled ?_)
  first | rw [show A.in1.handled=none from hh] | rw [hh]
  exact wpAny_bind (wpAny_pure (wpAny_throw (hE _ _ (((Heap.SameBut.update ..).extBut.push _).push _) ⟨_, get?_push_size _ rfl, rfl⟩)))
end
def zov(i : Nat): List PyData -> List PyData
  | [] => []
  | d :: ds => .tuple [.int i, d] :: zov (i+1) ds
theorem zlq{X : Cx}{x : Str}{i : Int}{pos : Pos}(hg : Gl X x)(hm : ∃ t, X.mg x=some (.int i t))(hd : (x == ("__debug__" : Str))=false := by decide): PE X (.Name x pos) (tC (.int i)) := by
  obtain⟨t, e⟩ := hm;exact znS hg e ⟨t, rfl⟩ hd
end
section
def dIx: D2 := fun x y S R => asI y fun i => match x with
  | .d (.tuple ds) => ∃ d, atI ds i=some d /\ R (.d d) S
  | .d (.list ds) => ∃ d, atI ds i=some d /\ R (.d d) S
  | .l k => ∃ ds, S[k]? = some ds /\ ∃ d, atI ds i=some d /\ R (.d d) S
  | .d (.str z) => z.length<=sizeLine /\ ∃ c, atI z.cps.toList i=some c /\ R (.d (.str ⟨#[c]⟩)) S
  | _ => False
theorem zos: RO zqU (fun x y S R => asS x fun z => asI y fun i => z.length<=sizeLine /\ ∃ c, atI z.cps.toList i=some c /\ R (.d (.str ⟨#[c]⟩)) S) := fun h o H S x y v u R Q hs hx hy q c => by
  replace q := zlc q;obtain⟨z, rfl, q⟩ := q;replace q := zaw q;obtain⟨i, rfl, hz, k, ek, q⟩ := q;exact⟨z, i, k, zcr hx, zat hy, hz, ek, c o H S _ _ Ex.refl hs (xS _) q⟩
theorem zc0{K : W.Frag}: RO (rIx K) dIx := fun h o H S x y v u R Q hs hx hy q c => by
  replace q := zaw q;obtain⟨i, rfl, q⟩ := q;split at q
  · exact .inr (.inl (zoF h o H S _ _ v u R Q hs hx hy q c))
  · exact .inl (zmq h o H S _ _ v u R Q hs hx hy ⟨_, rfl, q⟩ c)
  · exact .inl (zmq h o H S _ _ v u R Q hs hx hy q c)
  · exact .inr (.inr (zos h o H S _ _ v u R Q hs hx hy q c))
  · exact q.elim
section
variable {S : Sto} {R : RX} {ds : List PyData} {i : Int} {k : Nat} {z : Str}
theorem zoW: dIx (.d (.tuple ds)) (.d (.int i)) S R=∃ d, atI ds i=some d /\ R (.d d) S := rfl
theorem zpt: dIx (.d (.list ds)) (.d (.int i)) S R=∃ d, atI ds i=some d /\ R (.d d) S := rfl
theorem zqd: dIx (.l k) (.d (.int i)) S R=∃ ds, S[k]? = some ds /\ ∃ d, atI ds i=some d /\ R (.d d) S := rfl
theorem zow: dIx (.d (.str z)) (.d (.int i)) S R=(z.length<=sizeLine /\ ∃ c, atI z.cps.toList i=some c /\ R (.d (.str ⟨#[c]⟩)) S) := rfl
end
def zrm(K : W.Frag): V -> Option Int -> Option Int -> Hp -> VK -> Prop := fun x a b H Q => zou K x a b H Q \/ (zqz K x a b H Q \/ zrb x a b H Q)
theorem zku{X : Cx}: SlR X (zrm X.K) := zkH.or (zpN.or zoV)
def znu: D3 := fun x i j S R => match x with
  | .d (.tuple ds) => ¬ (HT.sIx ds.length 0 i=0 /\ HT.sIx ds.length ds.length j=ds.length) /\ R (.d (.tuple (zei ds i j))) S
  | .d (.list ds) => R (.d (.list (zei ds i j))) S
  | .l k => ∃ ds, S[k]? = some ds /\ R (.d (.list (zei ds i j))) S
  | .d (.str z) => z.length<=sizeLine /\ R (.d (.str (PySem.Txt.slice z i j))) S
  | _ => False
theorem zmE{K : W.Frag}: RL (zrm K) znu := fun h o H S x v a b R Q hs hx q c => by
  unfold znu at q;split at q
  · exact .inr (.inl (zoK h o H S _ v a b R Q hs hx q c))
  · exact .inl (zjV h o H S _ v a b R Q hs hx ⟨_, rfl, q⟩ c)
  · exact .inl (zjV h o H S _ v a b R Q hs hx q c)
  · exact .inr (.inr ⟨_, zcr hx, q.1, c o H S _ _ Ex.refl hs (xS _) q.2⟩)
  · exact q.elim
section
variable {S : Sto} {R : RX} {ds : List PyData} {i j : Option Int} {k : Nat} {z : Str}
theorem zmJ: znu (.l k) i j S R=∃ ds, S[k]? = some ds /\ R (.d (.list (zei ds i j))) S := rfl
theorem zm3: znu (.d (.str z)) i j S R=(z.length<=sizeLine /\ R (.d (.str (PySem.Txt.slice z i j))) S) := rfl
end
def zms(K : W.Frag): R2 := fun x y H Q => ∃ a b ys, x=.ref a /\ y=.ref b /\ SqT K H a [] /\ SqT K H b ys /\ Q (.ref b) H
theorem zlC{X : Cx}: OpR X (binaryOp .Add) (zms X.K) := by
  intro ze s σ H x y v u Q I rx ry h;obtain⟨a, b, ys, rfl, rfl, ha, hb, q⟩ := h;cases rx;cases ry;obtain⟨its, r1, p1, _⟩ := I.tuple ha;obtain⟨its2, r2, p2, _⟩ := I.tuple hb;cases r1;obtain⟨⟨c1, d1, e1, l1⟩, o1, w1, n1, k1⟩ := id p1;obtain⟨⟨c2, d2, e2, l2⟩, o2, w2, n2, k2⟩ := id p2;simp only at w1 k1 w2 k2;subst w1 k1 w2 k2;exact concat_meets ⟨_, o1, rfl⟩ ⟨_, o2, rfl⟩ noFill_tuple_add seq_tuple_add PySem.F.slot_tuple_add PySem.F.entry_tuple_add (PySem.F.args_tuple_add_2 _ _) (tuple_addW0 a b _ _ n1 n2 d1 d2 l1 l2 (by simp)) ⟨o1, o2, ⟨.ref b, H, I, rfl, q⟩⟩
def zp0(K : W.Frag): R2 := fun x y H Q => rI0 (fun i j => .int (i+j)) x y H Q \/ (zon x y H Q \/ (zn1 K x y H Q \/ (zms K x y H Q \/ ∃ i j, x=.str i /\ y=.str j /\ i.length+j.length<=sizeLine /\ Q (.str (i++j)) H)))
theorem zL{X : Cx}: OpR X (binaryOp .Add) (zp0 X.K) := zoE.or (zjq.or (znp.or (zlC.or ziC)))
def zb6: D2 := fun x y S R => match x, y with
  | .d (.int i), .d (.int j) => R (.d (.int (i+j))) S
  | .d (.tuple ds), .d (.tuple es) => ds.length+es.length<=1000 /\ R (.d (.tuple (ds++es))) S
  | .d (.str a), .d (.str b) => a.length+b.length<=sizeLine /\ R (.d (.str (a++b))) S
  | x, y => asL S x fun ds => asL S y fun es => ds.length+es.length<=1000 /\ R (.d (.list (ds++es))) S
theorem zbP{K : W.Frag}: RO (zp0 K) zb6 := fun h o H S x y v u R Q hs hx hy q c => by
  unfold zb6 at q;split at q
  · exact .inl (znA h o H S _ _ v u R Q hs hx hy q c)
  · rename_i ds es
    cases ds with
    | cons d ds => exact .inr (.inr (.inl (znw h o H S _ _ v u R Q hs hx hy ⟨by simp, q⟩ c)))
    | nil =>
      obtain⟨a, vs, rfl, ea, l⟩ := zda hx;obtain⟨b, us, rfl, eb, l'⟩ := zda hy;rw [zA.mp l] at ea;exact .inr (.inr (.inr (.inl ⟨a, b, us, rfl, rfl, .of ea, .of eb, c o H S (.d (.tuple es)) _ Ex.refl hs hy q.2⟩)))
  · exact .inr (.inr (.inr (.inr ⟨_, _, zcr hx, zcr hy, q.1, c o H S _ _ Ex.refl hs (xS _) q.2⟩)))
  · exact .inr (.inl (zp3 h o H S _ _ v u R Q hs hx hy q c))
section
variable {S : Sto} {R : RX} {ds es : List PyData} {i j : Int} {k l : Nat} {a b : Str}
theorem zna: zb6 (.d (.int i)) (.d (.int j)) S R=R (.d (.int (i+j))) S := rfl
theorem zmm: zb6 (.d (.tuple ds)) (.d (.tuple es)) S R=(ds.length+es.length<=1000 /\ R (.d (.tuple (ds++es))) S) := rfl
end
def zo0: R2 := fun x y H Q => rI IntMulOk (fun i j => .int (i*j)) x y H Q \/ (zpI x y H Q \/ zrt x y H Q)
theorem zaJ{X : Cx}: OpR X (binaryOp .Mult) zo0 := znJ.or (zn4.or zoT)
def ze1: D2 := fun x y S R => asI y fun j => match x with
  | .d (.int i) => IntMulOk i j /\ R (.d (.int (i*j))) S
  | .d (.str z) => z.length<=1000 /\ j<=1000 /\ -1000<=j /\ R (.d (.str (PySem.Txt.mul z j))) S
  | .d (.list ds) => j<=1000 /\ -1000<=j /\ ds.length*j.toNat<=1000 /\ R (.d (.list (List.replicate j.toNat ds).flatten)) S
  | _ => False
theorem HasL.rep{H : Hp}{ds : List PyData}{vs : List V}(l : HasL H ds vs): ∀ n : Nat, HasL H (List.replicate n ds).flatten (List.replicate n vs).flatten
  | 0 => zA.mpr rfl
  | n+1 => by
    rw [replicate_succ, replicate_succ, flatten_cons, flatten_cons];exact l.append (HasL.rep l n)
theorem zeN: RO zo0 ze1 := fun h o H S x y v u R Q hs hx hy q c => by
  replace q := zaw q;obtain⟨j, rfl, q⟩ := q;split at q
  · exact .inl (znK h o H S _ _ v u R Q hs hx hy q c)
  · exact .inr (.inl ⟨_, _, zcr hx, zat hy, q.1, q.2.1, q.2.2.1, c o H S _ _ Ex.refl hs (xS _) q.2.2.2⟩)
  · obtain⟨a, vs, rfl, ea, l⟩ := za1 (x := .d (.list _)) hs rfl hx
    obtain⟨h1, h2, h3, q⟩ := q;exact .inr (.inr ⟨a, j, vs, rfl, zat hy, ea, by omega, by omega, by rw [l.length]; exact le_of_lt (small1000 h3), zi1 hs (l.rep j.toNat) c q⟩)
  · exact q.elim
section
variable {S : Sto} {R : RX} {i j : Int} {z : Str} {ds : List PyData}
theorem zmx: ze1 (.d (.list ds)) (.d (.int j)) S R=(j<=1000 /\ -1000<=j /\ ds.length*j.toNat<=1000 /\ R (.d (.list (List.replicate j.toNat ds).flatten)) S) := rfl
theorem zm7: ze1 (.d (.int i)) (.d (.int j)) S R=(IntMulOk i j /\ R (.d (.int (i*j))) S) := rfl
theorem zmi: ze1 (.d (.str z)) (.d (.int j)) S R=(z.length<=1000 /\ j<=1000 /\ -1000<=j /\ R (.d (.str (PySem.Txt.mul z j))) S) := rfl
end
def zrf: R2 := fun x y H Q => rI CDivX (fun i j => .int (i / j)) x y H Q \/ rI CDivN (fun i j => .int (i.fdiv j)) x y H Q
theorem zgw{X : Cx}: OpR X (binaryOp .FloorDiv) zrf := zlM.or zlr
def dFd: D2 := fun x y S R => asI x fun i => asI y fun j => (CDivX i j /\ R (.d (.int (i / j))) S) \/ (CDivN i j /\ R (.d (.int (i.fdiv j))) S)
theorem zqW: RO zrf dFd := fun h o H S x y v u R Q hs hx hy q c => by
  replace q := zaw q;obtain⟨i, rfl, q⟩ := q;replace q := zaw q;obtain⟨j, rfl, q⟩ := q;rcases q with q | q
  · exact .inl (znK (C := CDivX) (g := fun i j => i / j) h o H S _ _ v u R Q hs hx hy q c)
  · exact .inr (znK (C := CDivN) (g := fun i j => i.fdiv j) h o H S _ _ v u R Q hs hx hy q c)
def zqi(S : Sto): XV -> Option Bool
  | .d .none => some false
  | .d (.bool b) => some b
  | .d (.int i) => some (i != 0)
  | .d (.str z) => if z.length<=sizeLine then some ((z.length : Int) != 0) else none
  | .d (.list ds) => some (!ds.isEmpty)
  | .d (.tuple ds) => some (!ds.isEmpty)
  | .l k => (S[k]?).map fun ds => !ds.isEmpty
  | _ => none
def zeY(a : DE): DT := fun δ S R => a δ S fun x S1 => ∃ k, zqi S1 x=some k /\ R k S1
theorem zcY{H : Hp}{ds : List PyData}{vs : List V}(l : HasL H ds vs): (!ds.isEmpty) = !vs.isEmpty := by
  have := l.length;cases ds <;> cases vs <;> simp_all
theorem zg0{K : W.Frag}{ta : TE}{da : DE}(ha : RE ta da): RT (fun σ H Q => ta σ H fun x H' => ∃ k, TruV K x H' k /\ Q k H') (zeY da) := fun h o H δ σ S R Q he hs q c =>
  ha h o H δ σ S _ _ he hs q fun o1 H1 S1 x v e1 s1 x1 ⟨k, ek, d1⟩ => by
    refine⟨k, ?_, c o1 H1 S1 k e1 s1 d1⟩;unfold zqi at ek;split at ek
    · cases ek; rw [(zbB (H := vx h o1 H1)).mp x1]; rfl
    · cases ek; rw [zck x1]; rfl
    · cases ek; rw [zat x1]; rfl
    · split at ek
      · rename_i hz
        cases ek; rw [zcr x1]; exact⟨hz, rfl⟩
      · cases ek
    · obtain⟨a, vs, rfl, ea, l⟩ := za1 (x := .d (.list _)) s1 rfl x1
      cases ek;exact .inl ⟨vs, .of ea, zcY l⟩
    · obtain⟨a, vs, rfl, ea, l⟩ := zda x1
      cases ek;exact .inr (.inl ⟨vs, .of ea, zcY l⟩)
    · rename_i j _
      cases hj : S1[j]? with
      | none => rw [hj] at ek; cases ek
      | some ds =>
        rw [hj] at ek;cases ek;obtain⟨a, vs, rfl, ea, l⟩ := za1 (x := .l j) s1 hj x1;exact .inl ⟨vs, .of ea, zcY l⟩
    · cases ek
section
variable {S : Sto} {b : Bool} {i : Int} {ds : List PyData} {k : Nat}
theorem zmj: zqi S (.d (.bool b))=some b := rfl
theorem zmv: zqi S (.d (.tuple ds))=some (!ds.isEmpty) := rfl
end
def zid: DS := fun _ _ _ => False
theorem zli: RS zmU zid := fun h o H δ σ S E D he hs q c => q.elim
def zrh(K : W.Frag)(tl : TE): TI := fun σ H R => tl σ H fun x H1 => ∃ a, x=.ref a /\ (((∃ xs, SqL K H1 a xs) /\ R (Itl K a) H1) \/ ((∃ xs, SqT K H1 a xs) /\ R (Itt K a) H1))
theorem za4{X : Cx}{tg : Expr}{l : Expr}{tl : TE}(hl : PE X l tl): PI X tg l (zrh X.K tl) := by
  intro ze s σ H R I h;refine thn (hl ze s σ H _ I h) fun v s1 ⟨x, H1, I1, r1, q1⟩ => ?_;obtain⟨a, e, ⟨⟨xs, hq⟩, q⟩ | ⟨⟨xs, hq⟩, q⟩⟩ := q1
  · subst e
    cases r1;obtain⟨its, rv, p, hz⟩ := I1.list hq;refine wpAny_pyIter_list p.isList ?_;refine⟨s1.heap.objs.size, [s1.heap.objs.size], _, _, H1, rfl, I1.kept (t' := s1.toks) fun b o e => get?_push_of_some _ e, zgG a _, ⟨_, get?_push_size _ rfl, rfl, rfl⟩, fun b hb => ?_, q⟩;have e : b=s1.heap.objs.size := by simpa using hb
    subst e;exact I1.fpOk (le_refl _) (I1.hok.fresh (le_refl _))
  · subst e
    cases r1;obtain⟨its, rv, p, hz⟩ := I1.tuple hq;refine wpAny_pyIter_tuple (show s1.heap.IsTuple a its.toArray from p) ?_;refine⟨s1.heap.objs.size, [s1.heap.objs.size], _, _, H1, rfl, I1.kept (t' := s1.toks) fun b o e => get?_push_of_some _ e, ziO a _, ⟨_, get?_push_size _ rfl, rfl, rfl⟩, fun b hb => ?_, q⟩;have e : b=s1.heap.objs.size := by simpa using hb
    subst e;exact I1.fpOk (le_refl _) (I1.hok.fresh (le_refl _))
def zjj: XV -> Option (List PyData)
  | .d (.list ds) => some ds
  | .d (.tuple ds) => some ds
  | _ => none
theorem zmX{ds : List PyData}: zjj (.d (.list ds))=some ds := rfl
theorem zmu{ds : List PyData}: zjj (.d (.tuple ds))=some ds := rfl
def zbI(e : DE): DI := fun δ S R => e δ S fun x S1 => ∃ ds, zjj x=some ds /\ R ds S1
theorem zbC{K : W.Frag}{te : TE}{de : DE}(he' : RE te de): RI (zrh K te) (zbI de) := fun h o H δ σ S R Q he hs q c =>
  he' h o H δ σ S _ _ he hs q fun o1 H1 S1 x v e1 s1 x1 ⟨ds, ex, d1⟩ => by
    unfold zjj at ex;split at ex
    · cases ex
      obtain⟨a, vs, rfl, ea, l⟩ := zaH.mp (show Has _ _ _ from x1);have hl := l.length;refine⟨a, rfl, .inl ⟨⟨vs, .of (zak _ _ ea)⟩, c o1 H1 S1 ds _ e1 s1 ⟨fun i o2 H2 e2 hi => ⟨vs, .of (zak _ _ (e2.vx _ _ ea)), by omega⟩, fun i d o2 H2 e2 hi => ?_, fun i d o2 H2 x H3 S2 e2 s2 hi y => ?_⟩ d1⟩⟩
      · obtain⟨v, ev, _⟩ := l.get hi
        exact⟨vs, v, .of (zak _ _ (e2.vx _ _ ea)), ev⟩
      · obtain⟨v, ev, hv⟩ := l.get hi
        have e3 : H3=H2 := y.1;subst e3;have ex := y.2 vs (.of (zak _ _ (e2.vx _ _ ea)));rw [ev] at ex;cases ex;exact⟨Same.refl _, hv.mono e2.vx⟩
    · cases ex
      obtain⟨a, vs, rfl, ea, l⟩ := zU.mp (show Has _ _ _ from x1);have hl := l.length;refine⟨a, rfl, .inr ⟨⟨vs, .of (zak _ _ ea)⟩, c o1 H1 S1 ds _ e1 s1 ⟨fun i o2 H2 e2 hi => ⟨vs, .of (zak _ _ (e2.vx _ _ ea)), by omega⟩, fun i d o2 H2 e2 hi => ?_, fun i d o2 H2 x H3 S2 e2 s2 hi y => ?_⟩ d1⟩⟩
      · obtain⟨v, ev, _⟩ := l.get hi
        exact⟨vs, v, .of (zak _ _ (e2.vx _ _ ea)), ev⟩
      · obtain⟨v, ev, hv⟩ := l.get hi
        have e3 : H3=H2 := y.1;subst e3;have ex := y.2 vs (.of (zak _ _ (e2.vx _ _ ea)));rw [ev] at ex;cases ex;exact⟨Same.refl _, hv.mono e2.vx⟩
    · cases ex
def zqh(dt : DS): DS := fun E δ S => dt { E with nx := fun δ' S' => ∃ S0 ds, S'=S0++[ds] /\ S.length<=S0.length /\ E.nx (δ'.map (frz S0.length ds)) S0 } δ S
theorem zpu{t : TS}{dt : DS}(ht : RS t dt): RS t (zqh dt) := fun h o H δ σ S E D he hs q c => by
  refine ht h o H δ σ S _ D he hs q ⟨fun o' H' δ' S' σ' e he' hs' ⟨S0, ds, eS, hl, n⟩ => ?_, c.rt, c.bk, c.ct⟩;subst eS;obtain⟨r, rfl⟩ := e.pre;have hL := hs'.len;simp only [length_append, length_singleton] at hL;have hS := hs.len;have rne : r≠[] := fun z => by subst z; simp at hL; omega
  obtain⟨r0, a, rfl⟩ : ∃ r0 a, r=r0++[a] := ⟨r.dropLast, r.getLast rne, (List.dropLast_concat_getLast rne).symm⟩;have hS0 : S0.length=(o++r0).length := by simp at hL ⊢; omega
  rw [<- append_assoc] at hs' he' e;have nd := nodup_append.mp hs'.nd;have na : a∉o++r0 := fun m => nd.2.2 a m a (by simp) rfl;have nh : a∉h := hs'.dis a (by simp);refine c.nx (o++r0) H' _ S0 σ' ⟨⟨r0, rfl⟩, fun b u hb eb => ?_⟩ ⟨by rw [length_map]; exact he'.len, fun i x ex => ?_⟩ (hs'.pop hS0) n
  · obtain⟨z1, z2⟩ := e.kp b u hb eb
    exact⟨fun m => z1 (mem_append_left _ m), z2⟩
  · rw [getElem?_map] at ex
    obtain⟨y, ey, ex⟩ := map_eq_some_iff.mp ex
    match y, ey, ex with
    | none, ey, ex => cases ex
    | some (.d d), ey, ex =>
      cases ex;obtain⟨v, e1, e2⟩ := he'.get i _ ey;exact⟨v, e1, Has.mono zex d v e2⟩
    | some (.o w), ey, ex =>
      cases ex;exact he'.get i _ ey
    | some (.x C fs), ey, ex =>
      cases ex;obtain⟨v, e1, e2⟩ := he'.get i _ ey;exact⟨v, e1, HasE.mono zex e2⟩
    | some (.l k), ey, ex =>
      obtain⟨v, e1, b, eb, rfl⟩ := he'.get i _ ey;unfold frz at ex;by_cases hk : k=S0.length
      · simp only [hk, ↓reduceIte] at ex
        cases ex;rw [hk, hS0, getElem?_concat_length] at eb;cases eb;obtain⟨vs, ev, l⟩ := hs'.cont k a ds (by rw [hk, hS0, getElem?_concat_length]) (by rw [hk, getElem?_concat_length]);exact⟨_, e1, zaH.mpr ⟨a, vs, rfl, zP.mpr ⟨nh, na, ev⟩, l.mono zex⟩⟩
      · simp only [hk, ↓reduceIte] at ex
        cases ex;have hlt := (List.getElem?_eq_some_iff.mp eb).1;simp only [length_append, length_singleton] at hlt;simp only [length_append] at hS0;rw [getElem?_append_left (by simp only [length_append]; omega)] at eb;exact⟨_, e1, b, eb, rfl⟩
section
variable {t1 t2 t3 t4 t5 t6 t7 t8 : TS} {d : DS}
theorem zoO(h : RS (ziv (ziv t1 t2) t3) d): RS (ziv t1 (ziv t2 t3)) d := h
end
end
section
abbrev PN := List XV -> Sto -> RX -> Prop
def lfN(q : PN): List V -> Hp -> VK -> Prop := fun vs H Q => ∃ h o S xs R, RepS h o H S /\ HasXs h o H xs vs /\ q xs S R /\ Cn h o H R Q
def spN(ps : List Str)(q : PN): Sp := fun vs H Q _ => vs.length=ps.length /\ lfN q vs H Q
theorem HasXs.len{h o : List Addr}{H : Hp}: ∀ {xs : List XV} {vs : List V}, HasXs h o H xs vs -> vs.length=xs.length
  | [], vs, q => by rw [show vs=[] from q]; rfl
  | x :: xs, vs, ⟨v, r, e, _, l⟩ => by rw [e, length_cons, length_cons, HasXs.len l]
theorem HasXs.get{h o : List Addr}{H : Hp}: ∀ {xs : List XV} {vs : List V} {i : Nat} {x : XV}, HasXs h o H xs vs -> xs[i]? = some x -> ∃ v, vs[i]? = some v /\ HasX h o H x v
  | [], _, i, _, _, e => by simp at e
  | y :: xs, vs, 0, x, ⟨v, r, e1, q, l⟩, e => by
    rw [getElem?_cons_zero] at e;cases e;subst e1;exact⟨v, rfl, q⟩
  | y :: xs, vs, i+1, x, ⟨v, r, e1, q, l⟩, e => by
    subst e1;rw [getElem?_cons_succ] at e ⊢;exact HasXs.get l e
theorem zjg{h o : List Addr}{H : Hp}{xs : List XV}{vs : List V}{n : Nat}(q : HasXs h o H xs vs): RepE h o H (xs.map some++List.replicate n none) (vs.map some++List.replicate n none) := by
  have hl := q.len;refine⟨by simp [hl], fun i x e => ?_⟩;by_cases hi : i<xs.length
  · rw [getElem?_append_left (by rw [length_map]; exact hi), getElem?_map] at e
    obtain⟨y, ey, e⟩ := map_eq_some_iff.mp e;cases e;obtain⟨v, ev, hv⟩ := q.get ey;exact⟨v, by rw [getElem?_append_left (by rw [length_map, hl]; exact hi), getElem?_map, ev]; rfl, hv⟩
  · rw [List.getElem?_append_right (by rw [length_map]; omega), List.getElem?_replicate] at e
    split at e <;> cases e
section
variable {P : Program} {w : World} {K : W.Frag} {mg : Str -> Option Value} {base : Heap} {x : Str} {st : Stmt} {N ps : List Str} {k : Nat}
theorem Df.dN{q : PN}(D : Dd K mg x st ps)(S : FnScope N ps (zh st))(n : Nat)(hn : N.length=ps.length+n)
    (hbody : ∀ (f : Addr) (cdv : Value) (A : Around) (outer : List Env) (s : Shared) (H : Hp) (E : XK), Room k (A.deeper (envOfC x (zh st) s.heap.objs.size f cdv)) ->
      ∃ t dt, PSs (zlh CX0 P w K mg base N x (zh st) f cdv A outer s H E).nox (zbj st) t /\ RS t dt /\ ∀ xs S R, q xs S R -> dt (zbK S.length R) (xs.map some++List.replicate n none) S) : Df P w K mg base x ps (k+1) (spN ps q) := by
  refine Df.of D S (fun vs H Q E h => h.1) fun f cdv A outer s H vs Q E hr ⟨hl, h, o, S', xs, R, hs', hx, hq, c⟩ => ?_;obtain⟨t, dt, h1, h2, h3⟩ := hbody f cdv A outer s H E hr;refine⟨t, h1, h2 h o H _ _ S' _ _ ?_ hs' (h3 xs S' R hq) (eok hs' c)⟩;have e : N.length - vs.length=n := by omega
  unfold start;rw [e];exact zjg hx
end
section
variable {X : Cx} {x : Str} {ps : List Str} {k j : Nat} {pos pos' : Pos} {e : Expr} {es : List Expr} {t : TA}
theorem zq{q : PN}(D : Df X.prog X.w X.K X.mg X.base x ps k (spN ps q))(hr : Room j X.A)(hk : k<=j)(ha : PA X (e :: es) t)(hg : Gl X x := by rfl)(hdb : (x == ("__debug__" : Str))=false := by decide)
    (q1 : starEach (e :: es) X.env=(false, eval e X.env) :: starEach es X.env := by rfl) (q2 : ((backTo pos (starEach es X.env)).any fun x => x.fst)=false := by rfl) : PE X (.Call (.Name x pos') (e :: es) [] pos) (zkK (spN ps q) [] E0 t) := by
  obtain⟨f, fd, F, hm, kp, hb⟩ := D.ex;exact zjy (dvs := []) (ds := []) (E := E0) F (hr.mono hk) hg hm kp hb .nil pass0 ha hdb q1 q2
end
def zZ(m : Nat)(q : PN)(da : DA): DE := fun δ S R => da δ S fun xs S1 => ∃ ds, datas xs=some ds /\ ds.length=m /\ q (ds.map XV.d) [] (ret0 S1 R)
theorem hxs0{h o : List Addr}{H : Hp}: ∀ {ds : List PyData} {vs : List V}, HasXs h o H (ds.map XV.d) vs -> HasXs (h++o) [] H (ds.map XV.d) vs
  | [], _, q => q
  | d :: ds, vs, ⟨v, r, e, q, l⟩ => ⟨v, r, e, hx0 q, hxs0 l⟩
theorem zaK{ps : List Str}{q : PN}{m : Nat}{t : TA}{da : DA}(ha : RA t da)(hm : ps.length=m := by rfl): RE (zkK (spN ps q) [] E0 t) (zZ m q da) := fun h o H δ σ S R Q he hs w c =>
  ha h o H δ σ S _ _ he hs w fun o1 H1 S1 xs vs e1 s1 x1 ⟨ds, e, hl, d1⟩ => by
    have ex := zbW e;subst ex;have hv := x1.len;rw [append_nil];exact⟨by rw [hv, length_map, hl, hm], h++o1, [], [], _, _, rep0 s1, hxs0 x1, d1, cn0 s1 (c.pre e1)⟩
def zac(i m : Nat)(q : PN)(da : DA): DE := fun δ S R => da δ S fun xs S1 => ∃ k, xs[i]? = some (.l k) /\ ∃ p, S1[k]? = some p /\ ∃ ds, datas (xs.set i (.d .none))=some ds /\ ds.length=m /\ q ((ds.map XV.d).set i (.l 0)) [p] (zqj k S1 R)
theorem zrn{h o : List Addr}{H : Hp}{k : Nat}{a : Addr}(ea : o[k]? = some a): ∀ {xs : List XV} {vs : List V} {ds : List PyData} {i : Nat}, HasXs h o H xs vs -> xs[i]? = some (.l k) -> datas (xs.set i (.d .none))=some ds -> HasXs (h++o.filter (fun b => b≠a)) [a] H ((ds.map XV.d).set i (.l 0)) vs
  | [], _, _, i, _, e, _ => by simp at e
  | x :: xs, vs, ds, 0, ⟨v, r, e1, q, l⟩, e, ed => by
    rw [getElem?_cons_zero] at e;cases e;rw [set_cons_zero] at ed;obtain⟨ds', rfl⟩ : ∃ ds', ds=.none :: ds' := by
      unfold datas at ed;cases hd : datas xs with
      | none => rw [hd] at ed; cases ed
      | some y => rw [hd] at ed; cases ed; exact⟨y, rfl⟩
    have ed' : datas xs=some ds' := by
      unfold datas at ed;cases hd : datas xs with
      | none => rw [hd] at ed; cases ed
      | some y => rw [hd] at ed; cases ed; rfl
    have ex := zbW ed';subst ex;obtain⟨b, eb, rfl⟩ := q;rw [ea] at eb;cases eb;exact⟨_, r, e1, ⟨a, rfl, rfl⟩, go (ea := ea) l⟩
  | x :: xs, vs, ds, i+1, ⟨v, r, e1, q, l⟩, e, ed => by
    rw [getElem?_cons_succ] at e;rw [set_cons_succ] at ed
    match x, q, ed with
    | .d d, q, ed =>
      unfold datas at ed;cases hd : datas (xs.set i (.d .none)) with
      | none => rw [hd] at ed; cases ed
      | some ds' =>
        rw [hd] at ed;cases ed;exact⟨v, r, e1, hxP ea q, zrn ea l e hd⟩
    | .l j, q, ed => cases ed
    | .o w, q, ed => cases ed
    | .x _ _, q, ed => cases ed
where
  go {h o : List Addr} {H : Hp} {k : Nat} {a : Addr} {ea : o[k]? = some a} : ∀ {ds : List PyData} {vs : List V}, HasXs h o H (ds.map XV.d) vs -> HasXs (h++o.filter (fun b => b≠a)) [a] H (ds.map XV.d) vs
  | [], _, q => q
  | d :: ds, vs, ⟨v, r, e, q, l⟩ => ⟨v, r, e, hxP ea q, go (ea := ea) l⟩
theorem zjn: ∀ {xs : List XV} {ds : List PyData}, datas xs=some ds -> xs.length=ds.length := fun e => by
  rw [zbW e, length_map]
theorem zdc{ps : List Str}{q : PN}{i m : Nat}{t : TA}{da : DA}(ha : RA t da)(hm : ps.length=m := by rfl): RE (zkK (spN ps q) [] E0 t) (zac i m q da) := fun h o H δ σ S R Q he hs w c =>
  ha h o H δ σ S _ _ he hs w fun o1 H1 S1 xs vs e1 s1 x1 ⟨k, ek, p, ep, ds, e, hl, d1⟩ => by
    have hv := x1.len;have hd := zjn e;rw [length_set] at hd;obtain⟨v, _, a, ea, _⟩ := x1.get ek;rw [append_nil];exact⟨by rw [hv, hd, hl, hm], _, [a], [p], _, _, zqp s1 ea ep, zrn ea x1 ek e, d1, cnP s1 ea ep (c.pre e1)⟩
mutual
def zhJ: PyData -> Bool
  | .list _ => false
  | .dict _ => false
  | .tuple ds => zgL ds
  | _ => true
def zgL: List PyData -> Bool
  | [] => true
  | d :: ds => zhJ d && zgL ds
end
mutual
theorem zhi{h o : List Addr}{H G : Hp}(sm : Same G H)(hh : ∀ b, b∈h \/ b∈o -> ∃ u : MO, H b=some u.ho): ∀ (d : PyData) (v : V), zhJ d=true -> Has G d v -> Has (vx h o H) d v
  | .none, v, _, q => zbB.mpr (zbB.mp q)
  | .bool b, v, _, q => zbr.mpr (zbr.mp q)
  | .int i, v, _, q => zbx.mpr (zbx.mp q)
  | .str z, v, _, q => zcw.mpr (zcw.mp q)
  | .list ds, v, n, _ => by simp [zhJ] at n
  | .dict ds, v, n, _ => by simp [zhJ] at n
  | .tuple ds, v, n, q => by
    obtain⟨a, vs, e, ea, l⟩ := zU.mp q;have n' : zgL ds=true := by simpa [zhJ] using n
    have ea' := sm _ _ ea;refine zU.mpr ⟨a, vs, e, zP.mpr ⟨fun m => ?_, fun m => ?_, ea'⟩, zfk sm hh ds vs n' l⟩
    · obtain⟨u, eu⟩ := hh a (.inl m)
      rw [ea'] at eu;cases u <;> cases eu
    · obtain⟨u, eu⟩ := hh a (.inr m)
      rw [ea'] at eu;cases u <;> cases eu
theorem zfk{h o : List Addr}{H G : Hp}(sm : Same G H)(hh : ∀ b, b∈h \/ b∈o -> ∃ u : MO, H b=some u.ho): ∀ (ds : List PyData) (vs : List V), zgL ds=true -> HasL G ds vs -> HasL (vx h o H) ds vs
  | [], vs, _, q => zA.mpr (zA.mp q)
  | d :: ds, vs, n, q => by
    obtain⟨v, r, e, hv, l⟩ := zr.mp q;simp only [zgL, Bool.and_eq_true] at n;exact zr.mpr ⟨v, r, e, zhi sm hh d v n.1 hv, zfk sm hh ds r n.2 l⟩
end
def zqr(S : Sto)(R : RX): RX := fun y S' => match y, S' with
  | .d d, [] => zhJ d=true /\ R (.d d) S
  | _, _ => False
theorem zmD{S : Sto}{R : RX}{d : PyData}: zqr S R (.d d) []=(zhJ d=true /\ R (.d d) S) := rfl
def views(S : Sto): List XV -> Option (List PyData)
  | [] => some []
  | x :: r => (zcE S x).bind fun d => (views S r).map (d :: ·)
theorem zgk{S : Sto}: views S []=some [] := rfl
theorem zdG{S : Sto}{x : XV}{r : List XV}: views S (x :: r)=(zcE S x).bind fun d => (views S r).map (d :: ·) := rfl
def zdN(m : Nat)(q : PN)(da : DA): DE := fun δ S R => da δ S fun xs S1 => ∃ ds, views S1 xs=some ds /\ ds.length=m /\ q (ds.map XV.d) [] (zqr S1 R)
theorem zrz{h o : List Addr}{H : Hp}{S : Sto}(hs : RepS h o H S): RepS h [] H [] := ⟨rfl, nodup_nil, (fun _ h => (nomatch h)), hs.hal, (fun _ _ _ e => (by simp at e))⟩
theorem hxV{h o : List Addr}{H : Hp}{S : Sto}{x : XV}{v : V}{d : PyData}(hs : RepS h o H S)(e : zcE S x=some d)(q : HasX h o H x v): HasX h [] H (.d d) v := by
  have sub : Same (vx h o H) (vx h [] H) := fun b u eb => by
    obtain⟨z1, z2, z3⟩ := zP.mp eb;exact zP.mpr ⟨z1, by simp, z3⟩
  unfold zcE at e;split at e
  · cases e
    exact Has.mono sub _ _ q
  · rename_i k
    obtain⟨a, ea, rfl⟩ := q;cases hk : S[k]? with
    | none => rw [hk] at e; cases e
    | some ds =>
      rw [hk] at e;cases e;obtain⟨vs, ev, l⟩ := hs.cont k a ds ea hk;exact zaH.mpr ⟨a, vs, rfl, zP.mpr ⟨hs.dis a (mem_of_getElem? ea), by simp, ev⟩, l.mono sub⟩
  · cases e
  · cases e
theorem zre{h o : List Addr}{H : Hp}{S : Sto}(hs : RepS h o H S): ∀ {xs : List XV} {vs : List V} {ds : List PyData}, views S xs=some ds -> HasXs h o H xs vs -> HasXs h [] H (ds.map XV.d) vs /\ vs.length=ds.length
  | [], vs, ds, e, q => by cases e; exact⟨q, by rw [show vs=[] from q]; rfl⟩
  | x :: xs, vs, ds, e, ⟨v, r, e1, q, l⟩ => by
    rw [zdG] at e;cases hd : zcE S x with
    | none => rw [hd] at e; cases e
    | some d =>
      rw [hd, Option.bind_some] at e;cases hr : views S xs with
      | none => rw [hr] at e; cases e
      | some es =>
        rw [hr] at e;cases e;obtain⟨z1, z2⟩ := zre hs hr l;exact⟨⟨v, r, e1, hxV hs hd q, z1⟩, by rw [e1, length_cons, length_cons, z2]⟩
theorem cnV{h o : List Addr}{H : Hp}{S : Sto}{R : RX}{Q : VK}(hs : RepS h o H S)(c : Cn h o H R Q): Cn h [] H (zqr S R) Q := fun o' H' S' y v e s' hy q => by
  unfold zqr at q;split at q
  · rename_i d
    have sH : Same H H' := fun b u eb => (e.kp b u (by simp) eb).2;have e0 : o'=[] := eq_nil_of_length_eq_zero s'.len.symm;subst e0;have hs2 := hs.same sH;refine c o H' S (.d d) v (Ex.of_same sH) hs2 (zhi (zak (h := h) (o := [])) (fun b m => ?_) d v q.1 hy) q.2;exact m.elim (hs2.hal b) (hs2.oam b)
  · exact q.elim
theorem zdd{ps : List Str}{q : PN}{m : Nat}{t : TA}{da : DA}(ha : RA t da)(hm : ps.length=m := by rfl): RE (zkK (spN ps q) [] E0 t) (zdN m q da) := fun h o H δ σ S R Q he hs w c =>
  ha h o H δ σ S _ _ he hs w fun o1 H1 S1 xs vs e1 s1 x1 ⟨ds, e, hl, d1⟩ => by
    obtain⟨z1, z2⟩ := zre s1 e x1;rw [append_nil];exact⟨by rw [z2, hl, hm], h, [], [], _, _, zrz s1, z1, d1, cnV s1 (c.pre e1)⟩
end
section
def zpp(K : W.Frag): List V -> Hp -> VK -> Prop := fun xs H Q => zqZ K xs H Q \/ ∃ z, xs=[.str z] /\ z.length<=sizeLine /\ Q (.int z.length) H
theorem zB{X : Cx}: CallR X (.builtin "len") (zpp X.K) := zdP.or zgZ
def zqg(S : Sto): XV -> Option Nat
  | .d (.tuple ds) => some ds.length
  | .d (.list ds) => some ds.length
  | .l k => (S[k]?).map List.length
  | .d (.str z) => if z.length<=sizeLine then some z.length else none
  | _ => none
def za0: List XV -> Sto -> RX -> Prop := fun xs S R => arg1 xs fun x => ∃ n, zqg S x=some n /\ R (.d (.int n)) S
theorem zey{K : W.Frag}: RC (zpp K) za0 := fun h o H S xs vs R Q hs hx q c => by
  obtain⟨x, rfl, n, hd, q1⟩ := zaO q;unfold zqg at hd;split at hd
  · cases hd
    exact .inl (zjC h o H S _ vs R Q hs hx ⟨_, rfl, q1⟩ c)
  · cases hd
    exact .inl (zjC h o H S _ vs R Q hs hx ⟨_, rfl, q1⟩ c)
  · rename_i k
    cases hk : S[k]? with
    | none => rw [hk] at hd; cases hd
    | some ds =>
      rw [hk] at hd;cases hd;exact .inl (zjC h o H S _ vs R Q hs hx ⟨ds, hk, q1⟩ c)
  · split at hd
    · rename_i hz
      cases hd;obtain⟨v, rfl, hx1⟩ := hxs1 hx;exact .inr ⟨_, by rw [zcr hx1], hz, c o H S _ _ Ex.refl hs (xI _) q1⟩
    · cases hd
  · cases hd
section
variable {S : Sto} {ds : List PyData} {k : Nat} {z : Str}
theorem zmL: zqg S (.d (.tuple ds))=some ds.length := rfl
theorem zm9: zqg S (.d (.list ds))=some ds.length := rfl
end
def zq3(neg : Bool): R2 := fun x y H Q => ∃ d e ds, Has H d x /\ Has H e y /\ SeqAt.shaped d=true /\ SeqAt.shaped (.list ds)=true /\ (e=.list ds \/ e=.tuple ds) /\ Q (.bl (if neg then !ds.any (fun y => PyData.eqv y d) else ds.any (fun y => PyData.eqv y d))) H
theorem zja{ds : List PyData}(h : SeqAt.shaped (.list ds)=true): PyData.canLayAll0 ds=true /\ PyData.depthAll ds<=63 := by
  have h1 := SeqAt.canLay_of_shaped h;have h2 := SeqAt.depth_of_shaped h;simp only [PyData.canLay0, PyData.depth] at h1 h2;exact⟨h1, by omega⟩
theorem zkg{X : Cx}(hu : X.A.units+64<cLine): OpR X (compareOp .NotIn) (zq3 true) := by
  intro ze s σ H x y v u Q I rx ry h;obtain⟨d, e, ds, hd, he, sd, se, ee, q⟩ := h;obtain⟨s1, s2⟩ := zja se;obtain⟨as, q1⟩ := Has.reads I d x v hd (SeqAt.canLay_of_shaped sd) rx;have hm : X.A.units+1+min (PyData.depthAll ds) d.depth<cLine := by
    have := Nat.min_le_left (PyData.depthAll ds) d.depth;omega
  rcases ee with rfl | rfl
  · obtain⟨bs, q2⟩ := Has.reads I (.list ds) y u he (by simpa only [PyData.canLay0] using s1) ry
    exact SeqAt.notIn_list_reads q2 q1 s1 (SeqAt.canLay_of_shaped sd) hm ⟨.bl _, H, I, rfl, q⟩
  · obtain⟨bs, q2⟩ := Has.reads I (.tuple ds) y u he (by simpa only [PyData.canLay0] using s1) ry
    exact SeqAt.notIn_tuple_reads q2 q1 s1 (SeqAt.canLay_of_shaped sd) hm ⟨.bl _, H, I, rfl, q⟩
def zkA: R2 := fun x y H Q => zq3 true x y H Q \/ ∃ i j, x=.str i /\ y=.str j /\ Q (.bl (!(!(Builtin.Str.occurrences j i 0 j.length 1).isEmpty))) H
theorem zkL{X : Cx}(hu : X.A.units+64<cLine): OpR X (compareOp .NotIn) zkA := (zkg hu).or zhd
def zhS: D2 := fun x y S R => match y with
  | .d (.str b) => asS x fun a => R (.d (.bool (!(!(Builtin.Str.occurrences b a 0 b.length 1).isEmpty)))) S
  | y => ∃ d, zcE S x=some d /\ ∃ ds, asQ S y=some ds /\ SeqAt.shaped d=true /\ SeqAt.shaped (.list ds)=true /\ R (.d (.bool (!ds.any fun y => PyData.eqv y d))) S
theorem znv{h o : List Addr}{H : Hp}{S : Sto}{x : XV}{v : V}{ds : List PyData}(hs : RepS h o H S)(e : asQ S x=some ds)(q : HasX h o H x v): ∃ e, Has H e v /\ (e=.list ds \/ e=.tuple ds) := by
  unfold asQ at e;split at e
  · cases e; exact⟨_, zbZ (x := .d _) hs rfl q, .inr rfl⟩
  · cases e; exact⟨_, zbZ (x := .d _) hs rfl q, .inl rfl⟩
  · rename_i k
    exact⟨.list ds, zbZ (x := .l k) hs (by show (S[k]?).map PyData.list=_; rw [e]; rfl) q, .inl rfl⟩
  · cases e
theorem zl8: RO zkA zhS := fun h o H S x y v u R Q hs hx hy q c => by
  unfold zhS at q;split at q
  · replace q := zlc q
    obtain⟨a, rfl, q⟩ := q;exact .inr ⟨_, _, zcr hx, zcr hy, c o H S _ _ Ex.refl hs (xB _) q⟩
  · obtain⟨d, e1, ds, e2, s1, s2, q⟩ := q
    obtain⟨e, he, ee⟩ := znv hs e2 hy;exact .inl ⟨d, e, ds, zbZ hs e1 hx, he, s1, s2, ee, c o H S _ _ Ex.refl hs (xB _) q⟩
section
variable {S : Sto} {ds : List PyData} {k : Nat} {a b : Str} {x : XV} {R : RX}
theorem ziq: zhS x (.d (.tuple ds)) S R↔∃ d, zcE S x=some d /\ SeqAt.shaped d=true /\ SeqAt.shaped (.list ds)=true /\ R (.d (.bool (!ds.any fun y => PyData.eqv y d))) S := ⟨fun⟨d, e, _, e', q⟩ => by cases e'; exact⟨d, e, q⟩, fun⟨d, e, q⟩ => ⟨d, e, _, rfl, q⟩⟩
end
def zj8(a : DA): DI := fun δ S R => a δ S fun xs S1 => arg1 xs fun x => ∃ ds, zjj x=some ds /\ R (zov 0 ds) S1
def zq9: XV -> List XV -> Sto -> RX -> Prop := fun x xs S R => ∃ k, x=.l k /\ ∃ ds, S[k]? = some ds /\ xs=[] /\ ∃ d, ds[ds.length - 1]? = some d /\ R (.d d) (S.set k ds.dropLast)
def zqs(rd : XV -> List XV -> Sto -> RX -> Prop)(e : DE)(a : DA): DE := fun δ S R => e δ S fun x S1 => ∃ z, x=.d (.str z) /\ a δ S1 fun xs S2 => rd x xs S2 R
theorem zmb{K : W.Frag}{r : V -> List V -> Hp -> VK -> Prop}{rd : XV -> List XV -> Sto -> RX -> Prop}{te : TE}{de : DE}{tl : TA}{dl : DA}(hr : RM r rd)(he' : RE te de)(ha : RA tl dl): RE (tBM K "str" r te tl) (zqs rd de dl) := fun h o H δ σ S R Q he hs q c =>
  he' h o H δ σ S _ _ he hs q fun o1 H1 S1 x v e1 s1 x1 ⟨z, ez, d1⟩ => by
    subst ez;cases zcr x1;exact⟨rfl, ha h o1 H1 δ σ S1 _ _ (he.mono e1) s1 d1 fun o2 H2 S2 xs vs e2 s2 x2 d2 => hr h o2 H2 S2 (.d (.str z)) _ xs vs R Q s2 (HasX.mono (x := .d (.str z)) e2 x1) x2 d2 (c.pre (e1.trans e2))⟩
theorem zfw{H : Hp}: ∀ {ns : List Str} {vs : List V}, HasL H (ns.map PyData.str) vs -> vs=ns.map V.str
  | [], vs, h => zA.mp h
  | n :: ns, vs, h => by
    obtain⟨v, r, rfl, h1, h2⟩ := zr.mp h;rw [zcw.mp h1, zfw h2];rfl
def zlK: XV -> List XV -> Sto -> RX -> Prop := fun x xs S R => asS x fun z => arg1 xs fun y => ∃ ds, zlp S y=some ds /\ ∃ zs : List Str, ds=zs.map PyData.str /\ z.length<=16 /\ zs.length<=1000 /\ (∀ y∈zs, y.length<=1000) /\ R (.d (.str (PySem.Txt.join z zs))) S
theorem zlL{K : W.Frag}: RM (zpx K) zlK := fun h o H S x v xs vs R Q hs hx hxs q c => by
  replace q := zlc q;obtain⟨z, rfl, q⟩ := q;obtain⟨y, rfl, ds, e, zs, rfl, h1, h2, h3, q1⟩ := zaO q;obtain⟨u, rfl, hu⟩ := hxs1 hxs;obtain⟨a, ws, rfl, ea, l⟩ := za1 hs e hu;rw [zfw l] at ea;exact⟨z, a, zs, zcr hx, rfl, .of ea, h1, h2, h3, c o H S _ _ Ex.refl hs (xS _) q1⟩
def zlt: D2 := fun x y S R => asL S x fun ds => asL S y fun es => ds.length+es.length<=1000 /\ R (.l S.length) (S++[ds++es])
theorem znE: RO zon zlt := fun h o H S x y v u R Q hs hx hy q c => by
  obtain⟨ds, e0, es, e1, hl, q⟩ := q;obtain⟨a, vs, rfl, ea, la⟩ := za1 hs e0 hx;obtain⟨b, us, rfl, eb, lb⟩ := za1 hs e1 hy;exact⟨a, b, vs, us, rfl, rfl, ea, eb, by rw [la.length, lb.length]; exact le_of_lt (small1000 hl), zo4 hs (la.append lb) c q⟩
abbrev zrC (a : Addr) (m : Nat) : DEnds := { nx := fun δ _ => δ[0]? = some (some (.o (.ref a))) /\ δ.length=m+1, ct := fun δ _ => δ[0]? = some (some (.o (.ref a))) /\ δ.length=m+1, rt := fun _ _ => False }
end
section
open Sem (wp)
def ItK(t : Bool)(h : Heap)(j a : Addr)(k : Nat): Prop := match t with
  | true => h.IsTupleIter j a k
  | false => h.IsListIter j a k
def SqK(t : Bool)(h : Heap)(a : Addr)(xs : Array Value): Prop := match t with
  | true => h.IsTuple a xs
  | false => h.IsList a xs
theorem ItK.at{t : Bool}{h g : Heap}{j a : Addr}{k : Nat}(q : ItK t h j a k)(f : ∀ o, h.get? j=some o -> g.get? j=some o): ItK t g j a k := by
  cases t
  · exact Heap.IsListIter.at (show h.IsListIter j a k from q) f
  · exact Heap.IsTupleIter.at (show h.IsTupleIter j a k from q) f
theorem ItK.here{t : Bool}{h : Heap}{j a : Addr}{k : Nat}(q : ItK t h j a k): ∃ o, h.get? j=some o /\ ∀ v, o.data≠.cell v := by
  cases t <;> (obtain⟨o, e, c, d⟩ := q; exact⟨o, e, fun v z => by rw [d] at z; cases z⟩)
theorem SqK.at{t : Bool}{h g : Heap}{a : Addr}{xs : Array Value}(q : SqK t h a xs)(f : ∀ o, h.get? a=some o -> g.get? a=some o): SqK t g a xs := by
  cases t <;> (obtain⟨o, e, r⟩ := q; exact⟨o, f o e, r⟩)
theorem SqK.here{t : Bool}{h : Heap}{a : Addr}{xs : Array Value}(q : SqK t h a xs): ∃ o, h.get? a=some o := by
  cases t <;> (obtain⟨o, e, r⟩ := q; exact⟨o, e⟩)
section
variable {prog : Program} {w : World} {A : Around} {E : Value -> Shared -> Prop} {s : Shared}
theorem zne{t : Bool}{j a : Addr}{k : Nat}{xs : Array Value}{x : Value}{Q : Value -> Shared -> Prop}(hj : ItK t s.heap j a k)(ha : SqK t s.heap a xs)(hx : xs[k]? = some x)
    (hQ : ∀ g, ItK t g j a (k+1) -> Heap.SameBut j s.heap g -> Q x { s with heap := g }) : wpAny (model prog w) A (Builtin.SmallTypes.nextOf (.ref j)) Q E s := by
  cases t
  · exact wpAny_nextOf_list_item hj ha hx hQ
  · exact zi8 hj ha hx hQ
theorem zgE{t : Bool}{j a : Addr}{k : Nat}{xs : Array Value}{Q : Value -> Shared -> Prop}(hh : A.handled=none)(hj : ItK t s.heap j a k)(ha : SqK t s.heap a xs)(hx : xs[k]? = none)
    (hE : ∀ g e, Heap.ExtBut j s.heap g -> (∃ o, g.get? e=some o /\ o.cls=.type "StopIteration") -> E (.ref e) { s with heap := g }) : wpAny (model prog w) A (Builtin.SmallTypes.nextOf (.ref j)) Q E s := by
  cases t
  · exact wpAny_nextOf_list_end hh hj ha hx hE
  · exact ze8 hh hj ha hx hE
theorem zqc{t : Bool}{a : Addr}{xs : Array Value}{Q : Value -> Shared -> Prop}(ha : SqK t s.heap a xs)(hQ : Q (.ref s.heap.objs.size) { s with heap := s.heap.push { cls := .type (if t then "tuple_iterator" else "list_iterator"), data := .fields #[.ref a, .int 0 0] } }): wpAny (model prog w) A (pyIter (.ref a)) Q E s := by
  cases t
  · exact wpAny_pyIter_list ha hQ
  · exact wpAny_pyIter_tuple ha hQ
theorem zjF{T : Addr}{c d x : Value}{k : Nat}{Q : Unit -> Shared -> Prop}(hT : IsPair s.heap T c d)(hQ : ∀ g, g.get? T=some { cls := .type "tuple", data := .seq ((#[c, d] : Array Value).setIfInBounds k x) } -> Heap.SameBut T s.heap g -> Q () { s with heap := g }):
    wpAny (model prog w) A (updateSeq T (·.setIfInBounds k x)) Q E s := wpAny_updateSeq_pair hT hQ
structure ZAp(z p r i j a b : Addr): Prop where
  pz : p≠z
  rz : r≠z
  iz : i≠z
  jz : j≠z
  pr : p≠r
  pi : p≠i
  pj : p≠j
  ri : r≠i
  rj : r≠j
  ij : i≠j
  az : a≠z
  ar : a≠r
  ai : a≠i
  aj : a≠j
  bz : b≠z
  br : b≠r
  bi : b≠i
  bj : b≠j
theorem zkn{t u : Bool}{z p r i j a b : Addr}{k m : Nat}{xs ys : Array Value}{x y c d : Value}{Q : Value -> Shared -> Prop}(D : ZAp z p r i j a b)(hz : IsZip s.heap z p r .none)(hp : IsPair s.heap p (.ref i) (.ref j))(hr : IsPair s.heap r c d)
    (hi : ItK t s.heap i a k) (hj : ItK u s.heap j b m) (ha : SqK t s.heap a xs) (hb : SqK u s.heap b ys) (hx : xs[k]? = some x) (hy : ys[m]? = some y)
    (hQ : ∀ g, IsZip g z p r (rawInt s.heap.objs.size) -> IsPair g r x y -> ItK t g i a (k+1) -> ItK u g j b (m+1) -> IsPair g s.heap.objs.size x y ->
      (∀ q o, q≠z -> q≠r -> q≠i -> q≠j -> s.heap.get? q=some o -> g.get? q=some o) -> Q (.ref s.heap.objs.size) { s with heap := g }) :
    wpAny (model prog w) A (Builtin.«zip.__next__» ⟨[.ref z], []⟩) (fun fn s' => ∃ v, fn=.done (.ret v) /\ Q v s') E s := by
  obtain⟨h0, gs, dr, tk, os⟩ := s;show wpAny _ _ (field (.ref z) 2 >>= _) _ _ ⟨h0, gs, dr, tk, os⟩;refine wpAny_bind (wpAny_field hz rfl (x := .bool false) rfl ?_);show wpAny _ _ (field (.ref z) 3 >>= _) _ _ ⟨h0, gs, dr, tk, os⟩;refine wpAny_bind (wpAny_field hz rfl (x := .ref p) rfl (wpAny_bind (wpAny_seqItems hp rfl ?_)));show wpAny _ _ (Builtin.SmallTypes.ownedTupleIsFree (.ref z) >>= _) _ _ ⟨h0, gs, dr, tk, os⟩;refine wpAny_bind ?_;unfold Builtin.SmallTypes.ownedTupleIsFree;refine wpAny_bind (wpAny_field hz rfl (x := .none) rfl (wpAny_pure ?_));simp only [if_true];refine wpAny_bind (wpAny_rule (wpAny_bind (wpAny_field hz rfl (x := .ref r) rfl (wpAny_bind (wpAny_setField_rec hz (by simp) fun g1 z1 b1 => ?_)))));replace z1 : IsZip g1 z p r .ellipsis := z1;replace b1 : Heap.SameBut z h0 g1 := b1;refine wpAny_bind ?_;simp only [List.zipIdx_cons, List.zipIdx_nil, forIn_cons, List.forIn_nil];refine wpAny_bind (wpAny_bind (wpAny_onRaise ?_));show wpAny _ _ (Builtin.SmallTypes.nextOf (.ref i) >>= _) _ _ ⟨g1, gs, dr, tk, os⟩;refine wpAny_bind (zne (s := ⟨g1, gs, dr, tk, os⟩) (hi.at fun o e => b1.extBut i o D.iz e) (ha.at fun o e => b1.extBut a o D.az e) hx fun g2 i2 b2 => wpAny_pure ?_);replace b2 : Heap.SameBut i g1 g2 := b2;have r2 : IsPair g2 r c d := b2.extBut r _ D.ri (b1.extBut r _ D.rz hr);refine wpAny_bind (wpAny_seqItems (s := ⟨g2, gs, dr, tk, os⟩) r2 rfl (wpAny_bind (zjF (s := ⟨g2, gs, dr, tk, os⟩) r2 fun g3 r3 b3 => ?_)));replace r3 : IsPair g3 r x d := r3;replace b3 : Heap.SameBut r g2 g3 := b3;refine wpAny_bind (wpAny_letGo (wpAny_pure (wpAny_bind (wpAny_bind (wpAny_onRaise ?_)))));show wpAny _ _ (Builtin.SmallTypes.nextOf (.ref j) >>= _) _ _ ⟨g3, gs, dr, tk, os⟩;have k13 : ∀ q o, q≠z -> q≠r -> q≠i -> h0.get? q=some o -> g3.get? q=some o := fun q o n1 n2 n3 e => b3.extBut q o n2 (b2.extBut q o n3 (b1.extBut q o n1 e));refine wpAny_bind (zne (s := ⟨g3, gs, dr, tk, os⟩) (hj.at fun o e => k13 j o D.jz (Ne.symm D.rj) (Ne.symm D.ij) e) (hb.at fun o e => k13 b o D.bz D.br D.bi e) hy fun g4 j4 b4 => wpAny_pure ?_);replace b4 : Heap.SameBut j g3 g4 := b4;have r4 : IsPair g4 r x d := b4.extBut r _ D.rj r3;refine wpAny_bind (wpAny_seqItems (s := ⟨g4, gs, dr, tk, os⟩) r4 rfl (wpAny_bind (zjF (s := ⟨g4, gs, dr, tk, os⟩) r4 fun g5 r5 b5 => ?_)));replace r5 : IsPair g5 r x y := r5;replace b5 : Heap.SameBut r g4 g5 := b5;refine wpAny_bind (wpAny_letGo (wpAny_pure (wpAny_pure (wpAny_bind (wpAny_seqItems (s := ⟨g5, gs, dr, tk, os⟩) r5 rfl (wpAny_bind (wpAny_newTuple ?_)))))));have sz : g5.objs.size=h0.objs.size := by rw [b5.1, b4.1, b3.1, b2.1, b1.1]
  have z5 : IsZip g5 z p r .ellipsis := b5.extBut z _ (Ne.symm D.rz) (b4.extBut z _ (Ne.symm D.jz) (b3.extBut z _ (Ne.symm D.rz) (b2.extBut z _ (Ne.symm D.iz) z1)));have k5 : ∀ q o, q≠z -> q≠r -> q≠i -> q≠j -> h0.get? q=some o -> g5.get? q=some o := fun q o n1 n2 n3 n4 e => b5.extBut q o n2 (b4.extBut q o n4 (k13 q o n1 n2 n3 e));have i5 : ItK t g5 i a (k+1) := ItK.at i2 fun o e => b5.extBut i o (Ne.symm D.ri) (b4.extBut i o D.ij (b3.extBut i o (Ne.symm D.ri) e));have j5 : ItK u g5 j b (m+1) := ItK.at j4 fun o e => b5.extBut j o (Ne.symm D.rj) e;have zl : z<g5.objs.size := lt_size z5;show wpAny _ _ (Builtin.SmallTypes.ownedTupleHandOut (.ref z) (.ref g5.objs.size) >>= _) _ _ _;refine wpAny_bind ?_;unfold Builtin.SmallTypes.ownedTupleHandOut;have z6 : IsZip (g5.push { cls := .type "tuple", data := .seq #[x, y] }) z p r .ellipsis := get?_push_of_some _ z5;refine wpAny_bind (wpAny_setField_rec z6 (by simp) fun g7 z7 b7 => ?_);replace z7 : IsZip g7 z p r (rawInt g5.objs.size) := z7;replace b7 : Heap.SameBut z (g5.push { cls := .type "tuple", data := .seq #[x, y] }) g7 := b7;refine wpAny_setField_rec z7 (by simp) fun g8 z8 b8 => ?_;replace z8 : IsZip g8 z p r (rawInt g5.objs.size) := z8;replace b8 : Heap.SameBut z g7 g8 := b8;have up : ∀ q o, q≠z -> g5.get? q=some o -> g8.get? q=some o := fun q o n e => b8.extBut q o n (b7.extBut q o n (get?_push_of_some _ e));have t8 : IsPair g8 g5.objs.size x y := b8.extBut _ _ (ne_of_gt zl) (b7.extBut _ _ (ne_of_gt zl) (get?_push_size _ rfl));rw [sz] at z8 t8;refine wpAny_pure ⟨_, rfl, ?_⟩;show Q (.ref g5.objs.size) _;rw [sz];exact hQ g8 z8 (up r _ D.rz r5) (i5.at fun o e => up i o D.iz e) (j5.at fun o e => up j o D.jz e) t8 fun q o n1 n2 n3 n4 e => up q o n1 (k5 q o n1 n2 n3 n4 e)
theorem zjX{t u : Bool}{z p r i j a b : Addr}{k m : Nat}{xs ys : Array Value}{c d : Value}{Q : Fin -> Shared -> Prop}(hh : A.handled=none)(D : ZAp z p r i j a b)(hz : IsZip s.heap z p r .none)(hp : IsPair s.heap p (.ref i) (.ref j))(hr : IsPair s.heap r c d)
    (hi : ItK t s.heap i a k) (hj : ItK u s.heap j b m) (ha : SqK t s.heap a xs) (hb : SqK u s.heap b ys) (hend : xs[k]? = none \/ ys[m]? = none)
    (hE : ∀ g e, (∀ q o, q≠z -> q≠r -> q≠i -> q≠j -> s.heap.get? q=some o -> g.get? q=some o) -> (∃ o, g.get? e=some o /\ o.cls=.type "StopIteration") -> E (.ref e) { s with heap := g }) :
    wpAny (model prog w) A (Builtin.«zip.__next__» ⟨[.ref z], []⟩) Q E s := by
  obtain⟨h0, gs, dr, tk, os⟩ := s;show wpAny _ _ (field (.ref z) 2 >>= _) _ _ ⟨h0, gs, dr, tk, os⟩;refine wpAny_bind (wpAny_field hz rfl (x := .bool false) rfl ?_);show wpAny _ _ (field (.ref z) 3 >>= _) _ _ ⟨h0, gs, dr, tk, os⟩;refine wpAny_bind (wpAny_field hz rfl (x := .ref p) rfl (wpAny_bind (wpAny_seqItems hp rfl ?_)));show wpAny _ _ (Builtin.SmallTypes.ownedTupleIsFree (.ref z) >>= _) _ _ ⟨h0, gs, dr, tk, os⟩;refine wpAny_bind ?_;unfold Builtin.SmallTypes.ownedTupleIsFree;refine wpAny_bind (wpAny_field hz rfl (x := .none) rfl (wpAny_pure ?_));simp only [if_true];refine wpAny_bind (wpAny_rule (wpAny_bind (wpAny_field hz rfl (x := .ref r) rfl (wpAny_bind (wpAny_setField_rec hz (by simp) fun g1 z1 b1 => ?_)))));replace z1 : IsZip g1 z p r .ellipsis := z1;replace b1 : Heap.SameBut z h0 g1 := b1;refine wpAny_bind ?_;simp only [List.zipIdx_cons, List.zipIdx_nil, forIn_cons, List.forIn_nil];refine wpAny_bind (wpAny_bind (wpAny_onRaise ?_));show wpAny _ _ (Builtin.SmallTypes.nextOf (.ref i) >>= _) _ _ ⟨g1, gs, dr, tk, os⟩;have notz : ∀ {g : Heap} {e : Addr} {o : Obj}, IsZip g z p r .ellipsis -> g.get? e=some o -> o.cls=.type "StopIteration" -> e≠z := fun h1 h2 h3 w => by
    subst w;rw [h1] at h2;cases h2;simp at h3
  cases hx : xs[k]? with
  | none =>
    refine wpAny_bind (zgE (s := ⟨g1, gs, dr, tk, os⟩) hh (hi.at fun o e => b1.extBut i o D.iz e) (ha.at fun o e => b1.extBut a o D.az e) hx fun g2 e b2 he => ?_);obtain⟨oe, e1, e2⟩ := he;have z2 : IsZip g2 z p r .ellipsis := b2 z _ (Ne.symm D.iz) z1;exact wpAny_setField_rec z2 (by simp) fun g3 _ b3 => hE g3 e (fun q o n1 _ n3 _ w => b3.extBut q o n1 (b2 q o n3 (b1.extBut q o n1 w))) ⟨oe, b3.extBut e oe (notz z2 e1 e2) e1, e2⟩
  | some x =>
    have hy : ys[m]? = none := hend.elim (fun w => by rw [hx] at w; cases w) id;refine wpAny_bind (zne (s := ⟨g1, gs, dr, tk, os⟩) (hi.at fun o e => b1.extBut i o D.iz e) (ha.at fun o e => b1.extBut a o D.az e) hx fun g2 i2 b2 => wpAny_pure ?_);replace b2 : Heap.SameBut i g1 g2 := b2;have r2 : IsPair g2 r c d := b2.extBut r _ D.ri (b1.extBut r _ D.rz hr);refine wpAny_bind (wpAny_seqItems (s := ⟨g2, gs, dr, tk, os⟩) r2 rfl (wpAny_bind (zjF (s := ⟨g2, gs, dr, tk, os⟩) r2 fun g3 r3 b3 => ?_)));replace b3 : Heap.SameBut r g2 g3 := b3;refine wpAny_bind (wpAny_letGo (wpAny_pure (wpAny_bind (wpAny_bind (wpAny_onRaise ?_)))));show wpAny _ _ (Builtin.SmallTypes.nextOf (.ref j) >>= _) _ _ ⟨g3, gs, dr, tk, os⟩;have k13 : ∀ q o, q≠z -> q≠r -> q≠i -> h0.get? q=some o -> g3.get? q=some o := fun q o n1 n2 n3 e => b3.extBut q o n2 (b2.extBut q o n3 (b1.extBut q o n1 e));refine wpAny_bind (zgE (s := ⟨g3, gs, dr, tk, os⟩) hh (hj.at fun o e => k13 j o D.jz (Ne.symm D.rj) (Ne.symm D.ij) e) (hb.at fun o e => k13 b o D.bz D.br D.bi e) hy fun g4 e b4 he => ?_);obtain⟨oe, e1, e2⟩ := he;have z4 : IsZip g4 z p r .ellipsis := b4 z _ (Ne.symm D.jz) (b3.extBut z _ (Ne.symm D.rz) (b2.extBut z _ (Ne.symm D.iz) z1));exact wpAny_setField_rec z4 (by simp) fun g5 _ b5 => hE g5 e (fun q o n1 n2 n3 n4 w => b5.extBut q o n1 (b4 q o n4 (k13 q o n1 n2 n3 w))) ⟨oe, b5.extBut e oe (notz z4 e1 e2) e1, e2⟩
abbrev zpA (t : Bool) (h : Heap) (a : Addr) : Heap := h.push { cls := .type (if t then "tuple_iterator" else "list_iterator"), data := .fields #[.ref a, .int 0 0] }
abbrev zpB (t u : Bool) (h : Heap) (a b : Addr) : Heap := (zpA t h a).push { cls := .type (if u then "tuple_iterator" else "list_iterator"), data := .fields #[.ref b, .int 0 0] }
abbrev zpC (t u : Bool) (h : Heap) (a b : Addr) : Heap := (zpB t u h a b).push { cls := .type "tuple", data := .seq #[.ref h.objs.size, .ref (zpA t h a).objs.size] }
abbrev zpD (t u : Bool) (h : Heap) (a b : Addr) : Heap := (zpC t u h a b).push { cls := .type "tuple", data := .seq #[.none, .none] }
abbrev zpE (t u : Bool) (h : Heap) (a b : Addr) : Heap := (zpD t u h a b).push { cls := .type "zip", data := .fields #[.none, .bool false, .bool false, .ref (zpB t u h a b).objs.size, .ref (zpC t u h a b).objs.size] }
theorem znh(t u : Bool)(a b : Addr)(xs ys : Array Value): Meets (Builtin.«zip.__new__» ⟨[.type "zip", .ref a, .ref b], []⟩) (fun _ R s => SqK t s.heap a xs /\ SqK u s.heap b ys /\
      ∀ g, IsZip g (s.heap.objs.size+4) (s.heap.objs.size+2) (s.heap.objs.size+3) .none -> IsPair g (s.heap.objs.size+2) (.ref s.heap.objs.size) (.ref (s.heap.objs.size+1)) -> IsPair g (s.heap.objs.size+3) .none .none ->
        ItK t g s.heap.objs.size a 0 -> ItK u g (s.heap.objs.size+1) b 0 -> (∀ q o, s.heap.get? q=some o -> g.get? q=some o) -> R (.ok (.ret (.ref (s.heap.objs.size+4)))) { s with heap := g }) :=
  .of_wp fun prog w A R s hyp => by
    obtain⟨g0, gs, dr, tk, os⟩ := s;obtain⟨ha, hb, hyp⟩ := hyp;have sub := sub_zip;have hA : SqK t (Shared.heap ⟨g0, gs, dr, tk, os⟩) a xs := ha;have hB : SqK u (Shared.heap ⟨g0.push { cls := .type (if t then "tuple_iterator" else "list_iterator"), data := .fields #[.ref a, .int 0 0] }, gs, dr, tk, os⟩) b ys := SqK.at hb fun o e => get?_push_of_some _ e
    wp_walk using zqc hA, zqc hB
    refine⟨_, rfl, ?_⟩;have z1 : (zpA t g0 a).objs.size=g0.objs.size+1 := size_push ..;have z2 : (zpB t u g0 a b).objs.size=g0.objs.size+2 := by rw [size_push, z1]
    have z3 : (zpC t u g0 a b).objs.size=g0.objs.size+3 := by rw [size_push, z2]
    have z4 : (zpD t u g0 a b).objs.size=g0.objs.size+4 := by rw [size_push, z3]
    have f1 := get?_push_size g0 (o := { cls := .type (if t then "tuple_iterator" else "list_iterator"), data := .fields #[.ref a, .int 0 0] }) (by cases t <;> rfl);have f2 := get?_push_size (zpA t g0 a) (o := { cls := .type (if u then "tuple_iterator" else "list_iterator"), data := .fields #[.ref b, .int 0 0] }) (by cases u <;> rfl);have f3 := get?_push_size (zpB t u g0 a b) (o := { cls := .type "tuple", data := .seq #[.ref g0.objs.size, .ref (zpA t g0 a).objs.size] }) rfl;have f4 := get?_push_size (zpC t u g0 a b) (o := { cls := .type "tuple", data := .seq #[.none, .none] }) rfl;have f5 := get?_push_size (zpD t u g0 a b) (o := { cls := .type "zip", data := .fields #[.none, .bool false, .bool false, .ref (zpB t u g0 a b).objs.size, .ref (zpC t u g0 a b).objs.size] }) rfl;have c1 : ∀ q o, g0.get? q=some o -> (zpA t g0 a).get? q=some o := fun q o e => get?_push_of_some _ e;have c2 : ∀ q o, (zpA t g0 a).get? q=some o -> (zpB t u g0 a b).get? q=some o := fun q o e => get?_push_of_some _ e;have c3 : ∀ q o, (zpB t u g0 a b).get? q=some o -> (zpC t u g0 a b).get? q=some o := fun q o e => get?_push_of_some _ e;have c4 : ∀ q o, (zpC t u g0 a b).get? q=some o -> (zpD t u g0 a b).get? q=some o := fun q o e => get?_push_of_some _ e;have c5 : ∀ q o, (zpD t u g0 a b).get? q=some o -> (zpE t u g0 a b).get? q=some o := fun q o e => get?_push_of_some _ e;have y1 := c5 _ _ (c4 _ _ (c3 _ _ (c2 _ _ f1)));have y2 := c5 _ _ (c4 _ _ (c3 _ _ f2));have y3 := c5 _ _ (c4 _ _ f3);have y4 := c5 _ _ f4;have y5 : (zpE t u g0 a b).get? (zpD t u g0 a b).objs.size=some { cls := .type "zip", data := .fields #[.none, .bool false, .bool false, .ref (zpB t u g0 a b).objs.size, .ref (zpC t u g0 a b).objs.size] } := f5;have fin : R (.ok (.ret (.ref (zpD t u g0 a b).objs.size))) ⟨zpE t u g0 a b, gs, dr, tk, os⟩ := by
      rw [z4, z2, z3] at y5;rw [z2, z1] at y3;rw [z3] at y4;rw [z1] at y2;rw [z4];refine hyp _ y5 y3 y4 ?_ ?_ fun q o e => c5 q o (c4 q o (c3 q o (c2 q o (c1 q o e))))
      · cases t <;> exact⟨_, y1, rfl, rfl⟩
      · cases u <;> exact⟨_, y2, rfl, rfl⟩
    exact fin
theorem zk0{t u : Bool}{a b : Addr}{xs ys : Array Value}{Q : Value -> Shared -> Prop}(ha : SqK t s.heap a xs)(hb : SqK u s.heap b ys)
    (hyp : ∀ g, IsZip g (s.heap.objs.size+4) (s.heap.objs.size+2) (s.heap.objs.size+3) .none -> IsPair g (s.heap.objs.size+2) (.ref s.heap.objs.size) (.ref (s.heap.objs.size+1)) -> IsPair g (s.heap.objs.size+3) .none .none ->
        ItK t g s.heap.objs.size a 0 -> ItK u g (s.heap.objs.size+1) b 0 -> (∀ q o, s.heap.get? q=some o -> g.get? q=some o) -> Q (.ref (s.heap.objs.size+4)) { s with heap := g }) : wpAny (model prog w) A (call (.type "zip") [.ref a, .ref b]) Q E s := by
  refine callType_new F.called_zip dz (F.typeCall_zip_2 _ _) (F.newCall_zip_2 _ _) (fun ob => F.args_object_init_3 ob _ _) F.entry_zip_new (znh t u a b xs ys) ⟨ha, hb, fun g h1 h2 h3 h4 h5 h6 => ?_⟩;exact⟨⟨_, h1, rfl⟩, hyp g h1 h2 h3 h4 h5 h6⟩
end
def Itz(S1 S2 : Hp -> Addr -> List V -> Prop)(a b : Addr): It :=
  ⟨fun i H => ∃ xs ys x y, S1 H a xs /\ S2 H b ys /\ xs[i]? = some x /\ ys[i]? = some y, fun i H x H' => ∃ p v u, H p=none /\ x=.ref p /\ H'=upd H p (.tup [v, u]) /\ (∀ xs, S1 H a xs -> xs[i]? = some v) /\ (∀ ys, S2 H b ys -> ys[i]? = some u), fun i H => ∃ xs ys, S1 H a xs /\ S2 H b ys /\ (xs.length<=i \/ ys.length<=i)⟩
def SqV(K : W.Frag)(t : Bool)(H : Hp)(a : Addr)(xs : List V): Prop := match t with
  | true => SqT K H a xs
  | false => SqL K H a xs
theorem Inv.seqK{X : Cx}{ze : List (Addr×Obj)}{σ : St}{H : Hp}{s : Shared}{t : Bool}{a : Addr}{xs : List V}(I : Inv X ze σ H s)(h : SqV X.K t H a xs): ∃ its : List Value, Vals xs its /\ SqK t s.heap a its.toArray /\ ∀ ys, SqV X.K t H a ys -> ys=xs := by
  cases t
  · obtain⟨its, rv, p, _⟩ := I.list h
    exact⟨its, rv, p.isList, fun ys hy => I.list_inj hy h⟩
  · obtain⟨its, rv, p, _⟩ := I.tuple h
    exact⟨its, rv, p, fun ys hy => I.tuple_inj hy h⟩
theorem zlN{P : Program}{w : World}{K : W.Frag}{elts : List Expr}{n : Nat}{pos : Pos}(t u : Bool)(z p r i j a b : Addr)(D : ZAp z p r i j a b): Turn P w K (.Tuple elts n pos) (Itz (SqV K t) (SqV K u) a b) [z, p, r, i, j] z
    (fun k h => IsZip h z p r .none /\ IsPair h p (.ref i) (.ref j) /\ (∃ c d, IsPair h r c d) /\ ItK t h i a k /\ ItK u h j b k) where
  mem := by simp
  obj := fun k h ⟨h1, h2, ⟨c, d, h3⟩, h4, h5⟩ q hq => by
    simp only [mem_cons, not_mem_nil, or_false] at hq;rcases hq with rfl | rfl | rfl | rfl | rfl
    · exact⟨_, h1, fun v e => by cases (show Data.fields _=Data.cell v from e)⟩
    · exact⟨_, h2, fun v e => by cases (show Data.seq _ _=Data.cell v from e)⟩
    · exact⟨_, h3, fun v e => by cases (show Data.seq _ _=Data.cell v from e)⟩
    · exact h4.here
    · exact h5.here
  keep := fun k h h' ⟨h1, h2, ⟨c, d, h3⟩, h4, h5⟩ f => ⟨f z (by simp) _ h1, f p (by simp) _ h2, ⟨c, d, f r (by simp) _ h3⟩, h4.at fun o e => f i (by simp) o e, h5.at fun o e => f j (by simp) o e⟩
  item := by
    intro X hP hw hK hc k ze s σ H E I hf st hg;subst hP hw hK;obtain⟨xs, ys, x, y, q1, q2, ex, ey⟩ := hg;obtain⟨its, rv, sq, inj⟩ := I.seqK q1;obtain⟨its2, rv2, sq2, inj2⟩ := I.seqK q2;obtain⟨v1, e1, r1⟩ := rv.get ex;obtain⟨v2, e2, r2⟩ := rv2.get ey;obtain⟨h1, h2, ⟨c, d, h3⟩, h4, h5⟩ := st;have ty : s.TypeIs (.ref z) "zip" := ⟨_, h1, rfl⟩;unfold pyNext;refine wpAny_bind (wpAny_attempt (wpAny_callSpecial?_slot (name := Str.ofString "__next__") ty F.slot_zip_next (wpAny_call_entry F.slot_zip_next ty F.entry_zip_next
      (zkn D h1 h2 h3 h4 h5 sq sq2 (by simpa using e1) (by simpa using e2) fun g a1 a2 a3 a4 a5 kk => wpAny_pure ⟨_, rfl, ?_⟩) (F.args_zip_next_1 _))))
    refine wpAny_letOwnedTupleGo_zip (s := { s with heap := g }) a1 fun g' z' b' => ?_;have lt : ∀ {q o}, s.heap.get? q=some o -> s.heap.objs.size≠q := fun e => ne_of_gt (lt_size e);have b'' : Heap.SameBut z g g' := b';have pT : IsPair g' s.heap.objs.size v1 v2 := b''.extBut _ _ (lt h1) a5;have hn := I.hok.fresh (le_refl s.heap.objs.size);have kk' : ∀ q o, q∉[z, r, i, j] -> s.heap.get? q=some o -> g'.get? q=some o := fun q o hq e => by
      simp only [mem_cons, not_mem_nil, or_false, not_or] at hq;exact b''.extBut q o hq.1 (kk q o hq.1 hq.2.1 hq.2.2.1 hq.2.2.2 e)
    have I1 : Inv X ze σ (upd H s.heap.objs.size (.tup [x, y])) { s with heap := g' } := I.turnLaid (t' := s.toks) (ch := [z, r, i, j]) kk' (fun q hq => hf q (by
      simp only [mem_cons, not_mem_nil, or_false] at hq ⊢;rcases hq with h | h | h | h
      · exact .inl h
      · exact .inr (.inr (.inl h))
      · exact .inr (.inr (.inr (.inl h)))
      · exact .inr (.inr (.inr (.inr h))))) (le_refl _) ⟨⟨by show 2<=sizeLine; decide, _, pT, rfl⟩, [v1, v2], .cons r1 (.cons r2 .nil), ⟨_, pT, rfl, _, rfl⟩⟩
    have fresh : ∀ q, q∈[z, p, r, i, j] -> q≠s.heap.objs.size := fun q hq w => by
      simp only [mem_cons, not_mem_nil, or_false] at hq;obtain⟨o1, w1, _⟩ := h4.here;obtain⟨o2, w2, _⟩ := h5.here;rcases hq with h | h | h | h | h
      · exact lt h1 (w.symm.trans h)
      · exact lt h2 (w.symm.trans h)
      · exact lt h3 (w.symm.trans h)
      · exact lt w1 (w.symm.trans h)
      · exact lt w2 (w.symm.trans h)
    refine⟨.ref s.heap.objs.size, _, I1, rfl, ⟨_, x, y, hn, rfl, rfl, fun zs hz => by rw [inj zs hz]; exact ex, fun zs hz => by rw [inj2 zs hz]; exact ey⟩, ⟨z', kk' p _ (by simp [D.pz, D.pr, D.pi, D.pj]) h2, ⟨_, _, b''.extBut r _ D.rz a2⟩, a3.at fun o e => b''.extBut i o D.iz e, a4.at fun o e => b''.extBut j o D.jz e⟩, fun q hq => ?_⟩;rw [zG (fresh q hq)];exact(hf q hq).1
  done := by
    intro X hP hw hK hc k ze s σ H E I hf st hg;subst hP hw hK;obtain⟨xs, ys, q1, q2, hl⟩ := hg;obtain⟨its, rv, sq, inj⟩ := I.seqK q1;obtain⟨its2, rv2, sq2, inj2⟩ := I.seqK q2;obtain⟨h1, h2, ⟨c, d, h3⟩, h4, h5⟩ := st;have l1 := rv.length;have l2 := rv2.length;have ty : s.TypeIs (.ref z) "zip" := ⟨_, h1, rfl⟩;unfold pyNext;refine wpAny_bind (wpAny_attempt (wpAny_callSpecial?_slot (name := Str.ofString "__next__") ty F.slot_zip_next (wpAny_call_entry F.slot_zip_next ty F.entry_zip_next
      (zjX (I.ok.hd hc) D h1 h2 h3 h4 h5 sq sq2 (hl.elim (fun h => .inl (by simp; omega)) fun h => .inr (by simp; omega)) fun g e kk he => ?_) (F.args_zip_next_1 _))))
    obtain⟨o, ho, hc'⟩ := he;refine wpAny_bind (wpAny_isInstance (T := "StopIteration") (b := true) ⟨o, ho, hc'⟩ isSubtype_stop (wpAny_pure ⟨rfl, ?_⟩));refine I.turnedN (t' := s.toks) (ch := [z, r, i, j]) (fun q o hq e => ?_) fun q hq => hf q (by
      simp only [mem_cons, not_mem_nil, or_false] at hq ⊢;rcases hq with h | h | h | h
      · exact .inl h
      · exact .inr (.inr (.inl h))
      · exact .inr (.inr (.inr (.inl h)))
      · exact .inr (.inr (.inr (.inr h))))
    simp only [mem_cons, not_mem_nil, or_false, not_or] at hq;exact kk q o hq.1 hq.2.1 hq.2.2.1 hq.2.2.2 e
  self := fun _ _ _ _ _ st h => wpAny_pyIter_zip st.1 h
theorem nne{a b : Nat}(h : a<b \/ b<a): (show Addr from a)≠(show Addr from b) := fun e => by
  have e' : a=b := e;omega
theorem zp8(N a b : Nat)(ha : a<N)(hb : b<N): ZAp (N+4) (N+2) (N+3) N (N+1) a b := by
  constructor <;> exact nne (by omega)
theorem zob(N q : Nat)(hq : q=N+4 \/ q=N+2 \/ q=N+3 \/ q=N \/ q=N+1): N<=q := by omega
section
variable {X : Cx} {elts : List Expr} {n : Nat} {tpos : Pos}
theorem zlW: bootBuiltins "zip" = some (.type "zip") := by decide +kernel
def zpG(K : W.Frag)(ta : TA): TI := fun σ H R => ta σ H fun vs H1 => ∃ a b t u, vs=[.ref a, .ref b] /\ (∃ xs, SqV K t H1 a xs) /\ (∃ ys, SqV K u H1 b ys) /\ R (Itz (SqV K t) (SqV K u) a b) H1
theorem zf6{e1 e2 : Expr}{ta : TA}{p pos : Pos}(hg : Gl X "zip")(hm : X.mg "zip" = none)(ha : PA X [e1, e2] ta)(hs : starEach [e1, e2] X.env=[(false, eval e1 X.env), (false, eval e2 X.env)] := by rfl)(hs2 : starEach [e2] X.env=[(false, eval e2 X.env)] := by rfl):
    PI X (.Tuple elts n tpos) (.Call (.Name "zip" p) [e1, e2] [] pos) (zpG X.K ta) := by
  intro ze s σ H R I h;refine Call_ (zdJ I hg hm zlW (PyProof.Rows.callWith_type1 (thn (ha pos ze s σ H _ I h) fun us s1 ⟨vs, H1, I1, r1, q1⟩ => ?_) (by rw [hs, hs2]) (by rw [hs2]; rfl)));obtain⟨a, b, t, u, e, ⟨xs, q1⟩, ⟨ys, q2⟩, q⟩ := q1;subst e;cases r1 with
  | cons r rr =>
    cases rr with
    | cons r' rr =>
      cases rr;cases r;cases r';obtain⟨its, rv, sq, _⟩ := I1.seqK q1;obtain⟨its2, rv2, sq2, _⟩ := I1.seqK q2;refine zk0 sq sq2 fun g h1 h2 h3 h4 h5 k => ?_;refine wpAny_pyIter_zip (s := { s1 with heap := g }) h1 ?_
      have I2 : Inv X ze σ H1 { s1 with heap := g } := I1.kept (t' := s1.toks) k;obtain⟨oa, fa⟩ := sq.here;obtain⟨ob, fb⟩ := sq2.here;have la := lt_size fa;have lb := lt_size fb;have D : ZAp (s1.heap.objs.size+4) (s1.heap.objs.size+2) (s1.heap.objs.size+3) s1.heap.objs.size (s1.heap.objs.size+1) a b := zp8 _ _ _ la lb;refine⟨_, [s1.heap.objs.size+4, s1.heap.objs.size+2, s1.heap.objs.size+3, s1.heap.objs.size, s1.heap.objs.size+1], _, _, H1, rfl, I2, zlN t u _ _ _ _ _ a b D, ⟨h1, h2, ⟨_, _, h3⟩, h4, h5⟩, fun q hq => ?_, q⟩;have hl : s1.heap.objs.size<=q := by
        simp only [mem_cons, not_mem_nil, or_false] at hq;exact zob _ _ hq
      exact I1.fpOk hl (I1.hok.fresh hl)
end
def zfz: List PyData -> List PyData -> List PyData
  | d :: ds, e :: es => .tuple [d, e] :: zfz ds es
  | _, _ => []
theorem zfM: ∀ (ds es : List PyData) (k : Nat) (x : PyData), (zfz ds es)[k]? = some x -> ∃ d e, ds[k]? = some d /\ es[k]? = some e /\ x=.tuple [d, e]
  | [], _, _, _, h => by simp [zfz] at h
  | _ :: _, [], _, _, h => by simp [zfz] at h
  | d :: ds, e :: es, 0, x, h => by
    have e' : PyData.tuple [d, e]=x := by simpa [zfz] using h
    exact⟨d, e, rfl, rfl, e'.symm⟩
  | d :: ds, e :: es, k+1, x, h => by
    obtain⟨d', e', h1, h2, h3⟩ := zfM ds es k x (by simpa [zfz] using h);exact⟨d', e', by simpa using h1, by simpa using h2, h3⟩
theorem zio: ∀ (ds es : List PyData), (zfz ds es).length=min ds.length es.length
  | [], _ => by simp [zfz]
  | _ :: _, [] => by simp [zfz]
  | d :: ds, e :: es => by simp [zfz, zio ds es]; try omega
theorem zdu{α β : Type}(f : α -> PyData)(g : β -> PyData): ∀ (xs : List α) (ys : List β), zfz (xs.map f) (ys.map g)=(xs.zip ys).map fun q => .tuple [f q.1, g q.2]
  | [], _ => by simp [zfz]
  | _ :: _, [] => by simp [zfz]
  | x :: xs, y :: ys => by simp [zfz, zdu f g xs ys]
def zeO(a : DA): DI := fun δ S R => a δ S fun xs S1 => arg2 xs fun x y => ∃ ds, zjj x=some ds /\ ∃ es, zjj y=some es /\ R (zfz ds es) S1
theorem zis{K : W.Frag}{h o : List Addr}{H : Hp}{x : XV}{v : V}{ds : List PyData}(e : zjj x=some ds)(q : HasX h o H x v): ∃ t a ws, v=.ref a /\ HasL (vx h o H) ds ws /\ ∀ {o2 H2}, ExH h o H o2 H2 -> SqV K t H2 a ws := by
  unfold zjj at e;split at e
  · cases e
    obtain⟨a, ws, rfl, ea, l⟩ := zaH.mp (show Has (vx h o H) (.list ds) v from q);exact⟨false, a, ws, rfl, l, fun e2 => (SqL.of (zak _ _ (e2.vx _ _ ea)) : SqL K _ a ws)⟩
  · cases e
    obtain⟨a, ws, rfl, ea, l⟩ := zU.mp (show Has (vx h o H) (.tuple ds) v from q);exact⟨true, a, ws, rfl, l, fun e2 => (SqT.of (zak _ _ (e2.vx _ _ ea)) : SqT K _ a ws)⟩
  · cases e
theorem zfJ{K : W.Frag}{ta : TA}{da : DA}(ha : RA ta da): RI (zpG K ta) (zeO da) := fun h o H δ σ S R Q he hs q c =>
  ha h o H δ σ S _ _ he hs q fun o1 H1 S1 xs vs e1 s1 x1 d0 => by
    obtain⟨x, y, rfl, ds, hd, es, hes, d1⟩ := zeG d0;obtain⟨v, u, rfl, hv, hu⟩ := hxs2 x1;obtain⟨t, a, ws, rfl, l, k1⟩ := zis (K := K) hd hv;obtain⟨t', b, zs, rfl, l', k2⟩ := zis (K := K) hes hu;have hl := l.length;have hl' := l'.length;refine⟨a, b, t, t', rfl, ⟨ws, k1 ExH.refl⟩, ⟨zs, k2 ExH.refl⟩, c o1 H1 S1 _ _ e1 s1 ⟨fun i o2 H2 e2 hi => ⟨ws, zs, k1 e2, k2 e2, by rw [zio] at hi; omega⟩, fun i d o2 H2 e2 hi => ?_, fun i d o2 H2 x H3 S2 e2 s2 hi y => ?_⟩ d1⟩
    · obtain⟨d', e', h1, h2, rfl⟩ := zfM ds es i d hi
      obtain⟨u1, eu1, _⟩ := l.get h1;obtain⟨u2, eu2, _⟩ := l'.get h2;exact⟨ws, zs, u1, u2, k1 e2, k2 e2, eu1, eu2⟩
    · obtain⟨d', e', h1, h2, rfl⟩ := zfM ds es i d hi
      obtain⟨u1, eu1, hu1⟩ := l.get h1;obtain⟨u2, eu2, hu2⟩ := l'.get h2;obtain⟨p, v, u, hp, rfl, rfl, y1, y2⟩ := y;have f1 := y1 ws (k1 e2);have f2 := y2 zs (k2 e2);rw [eu1] at f1;rw [eu2] at f2;cases f1;cases f2;exact⟨Same.laid hp, zU.mpr ⟨p, _, rfl, s2.laid hp, zr.mpr ⟨_, _, rfl, (hu1.mono e2.vx).mono (zeA (Same.laid hp)), zr.mpr ⟨_, _, rfl, (hu2.mono e2.vx).mono (zeA (Same.laid hp)), zA.mpr rfl⟩⟩⟩⟩
end
section
open Sem (wp)
section
variable {prog : Program} {w : World} {A : Around} {R : Result -> Shared -> Prop} {I : Addr} {fp wr : List Addr} {n : Nat} {P : Nat -> Value -> Prop} {St : Nat -> Heap -> Prop}
def CmpH(prog : Program)(w : World)(A : Around)(g : Heap)(own : List Addr)(P : Nat -> Value -> Prop)(bt : Nat -> Nat -> Bool): Prop :=
  ∀ i j x y (s : Shared) (Q : Value -> Shared -> Prop) (E : Value -> Shared -> Prop), (∀ b o, b∉own -> g.get? b=some o -> s.heap.get? b=some o) -> P i x -> P j y -> Q (.bool (bt i j)) s -> wpAny (model prog w) A (richCompare .Lt x y) Q E s
theorem zjm(W : Walks prog w A.in1 I fp wr n P St)(bt : Nat -> Nat -> Bool){g : Heap}(S : Addr)(cm : CmpH prog w A.in1 g (S :: wr) P bt)(nS : S∉fp): ∀ (d j : Nat) (s : Shared) (best : Value) (c : Nat), n=j+1+d -> (∀ b o, b∉S :: wr -> g.get? b=some o -> s.heap.get? b=some o) -> St (j+1) s.heap -> P (argBest bt j) best ->
      s.heap.get? S=some { cls := .type "list", dict := none, data := .seq #[best, best] c, slots := #[] } ->
      (∀ v h' tk, P (argBest bt (n - 1)) v -> (∀ b o, b∉S :: wr -> s.heap.get? b=some o -> h'.get? b=some o) -> R (.ok (.ret v)) { s with heap := h', toks := tk }) -> codeAny (model prog w) A (.builtin "min.loop" ⟨[.ref I, .none, .ref S], []⟩) R s := by
  have nw : S∉wr := fun m => nS (W.sub _ m);have nm : (toString "min" ++ toString ".loop" : String) = "min.loop" := by decide
  intro d;induction d with
  | zero =>
    intro j s best c hd kg st hb hS fin;have hj : j+1=n := by omega
    refine codeAny_builtin F.entry_min_loop ?_;rw [Around.under_plainId F.plain_min_loop _];show wpAny _ A.in1 (seqItems? (.ref S) >>= _) _ _ s;refine wpAny_bind (wpAny_seqItems hS rfl ?_);show wpAny _ A.in1 (tryCatch (pyNext (.ref I)) _ >>= _) _ _ s;refine wpAny_bind (wpAny_tryCatch (W.done s _ _ (by rw [<- hj]; exact st) fun h1 t1 k1 => ?_));have hS1 := k1 S _ nw hS;show wpAny _ A.in1 (updateSeq S (fun _ => #[]) >>= _) _ _ _;refine wpAny_bind (wpAny_updateSeq hS1 rfl (wpAny_bind (wpAny_letGo (wpAny_pure (fin best _ t1 (by rw [<- hj]; exact hb) fun b o hn e => ?_)))));rw [mem_cons, not_or] at hn;exact(get?_update_other _ _ (Ne.symm hn.1)).trans (k1 b o hn.2 e)
  | succ d ih =>
    intro j s best c hd kg st hb hS fin;refine codeAny_builtin F.entry_min_loop ?_;rw [Around.under_plainId F.plain_min_loop _];show wpAny _ A.in1 (seqItems? (.ref S) >>= _) _ _ s;refine wpAny_bind (wpAny_seqItems hS rfl ?_);show wpAny _ A.in1 (tryCatch (pyNext (.ref I)) _ >>= _) _ _ s;refine wpAny_bind (wpAny_tryCatch (W.item (j+1) s _ _ (by omega) st fun x h1 t1 hx st1 k1 => ?_));have hS1 := k1 S _ nw hS;have kg1 : ∀ b o, b∉S :: wr -> g.get? b=some o -> h1.get? b=some o := fun b o hn e => k1 b o (fun m => hn (mem_cons_of_mem _ m)) (kg b o hn e);show wpAny _ A.in1 (tryCatch (holding [x, x] (richCompare .Lt x best >>= _)) _ >>= _) _ _ _;refine wpAny_bind (wpAny_tryCatch (wpAny_holding (wpAny_bind (cm (j+1) (argBest bt j) x best _ _ _ kg1 hx hb (wpAny_bind (wpAny_holding (wpAny_truthy_bool (wpAny_bind (wpAny_letGo (wpAny_pure ?_)))))))))) ;cases ht : bt (j+1) (argBest bt j) with
    | true =>
      simp only [if_true];refine wpAny_bind (wpAny_updateSeq hS1 rfl (wpAny_bind (wpAny_letGo ?_)));rw [nm];have keep : ∀ b o, b∉S :: wr -> s.heap.get? b=some o -> (h1.update S (Obj.mapSeq fun _ => #[x, x])).get? b=some o := fun b o hn e => by
        rw [mem_cons, not_or] at hn;exact(get?_update_other _ _ (Ne.symm hn.1)).trans (k1 b o hn.2 e)
      refine wpAny_pure ⟨plainId_quiet F.plain_min_loop _, ih (j+1) _ x _ (by omega) (fun b o hn e => keep b o hn (kg b o hn e)) (W.frame _ _ _ st1 fun b m o e => ?_) (by simp only [argBest, ht, if_true]; exact hx) (get?_update_self _ hS1 rfl) fun v h2 t2 hv k2 => fin v h2 t2 hv fun b o hn e => k2 b o hn (keep b o hn e)⟩;exact(get?_update_other _ _ (fun z : S=b => nS (by rw [z]; exact m))).trans e
    | false =>
      simp only [Bool.false_eq_true, if_false];refine wpAny_bind (wpAny_letGo ?_);rw [nm];exact wpAny_pure ⟨plainId_quiet F.plain_min_loop _, ih (j+1) _ best c (by omega) kg1 st1 (by simp only [argBest, ht, Bool.false_eq_true, if_false]; exact hb) hS1 fun v h2 t2 hv k2 => fin v h2 t2 hv fun b o hn e => k2 b o hn (k1 b o (fun m => hn (mem_cons_of_mem _ m)) e)⟩
theorem ziS(W : Walks prog w A.in1 I fp wr n P St)(bt : Nat -> Nat -> Bool)(S : Addr)(nS : S∉fp)(hn : 0<n){s : Shared}{c : Nat}(cm : CmpH prog w A.in1 s.heap (S :: wr) P bt)(st : St 0 s.heap)(hS : s.heap.get? S=some { cls := .type "list", dict := none, data := .seq #[] c, slots := #[] })
    (fin : ∀ v h' tk, P (argBest bt (n - 1)) v -> (∀ b o, b∉S :: wr -> s.heap.get? b=some o -> h'.get? b=some o) -> R (.ok (.ret v)) { s with heap := h', toks := tk }) : codeAny (model prog w) A (.builtin "min.loop" ⟨[.ref I, .none, .ref S], []⟩) R s := by
  have nw : S∉wr := fun m => nS (W.sub _ m);have nm : (toString "min" ++ toString ".loop" : String) = "min.loop" := by decide
  refine codeAny_builtin F.entry_min_loop ?_;rw [Around.under_plainId F.plain_min_loop _];show wpAny _ A.in1 (seqItems? (.ref S) >>= _) _ _ s;refine wpAny_bind (wpAny_seqItems hS rfl ?_);show wpAny _ A.in1 (tryCatch (pyNext (.ref I)) _ >>= _) _ _ s;refine wpAny_bind (wpAny_tryCatch (W.item 0 s _ _ hn st fun x h1 t1 hx st1 k1 => ?_));have hS1 := k1 S _ nw hS;show wpAny _ A.in1 (updateSeq S (fun _ => #[x, x]) >>= _) _ _ _;refine wpAny_bind (wpAny_updateSeq hS1 rfl ?_);rw [nm];have keep : ∀ b o, b∉S :: wr -> s.heap.get? b=some o -> (h1.update S (Obj.mapSeq fun _ => #[x, x])).get? b=some o := fun b o hn e => by
    rw [mem_cons, not_or] at hn;exact(get?_update_other _ _ (Ne.symm hn.1)).trans (k1 b o hn.2 e)
  refine wpAny_pure ⟨plainId_quiet F.plain_min_loop _, zjm W bt S cm nS (n - 1) 0 _ x _ (by omega) keep (W.frame _ _ _ st1 fun b m o e => ?_) hx (get?_update_self _ hS1 rfl) fun v h2 t2 hv k2 => fin v h2 t2 hv fun b o hn e => k2 b o hn (keep b o hn e)⟩;exact(get?_update_other _ _ (fun z : S=b => nS (by rw [z]; exact m))).trans e
end
section
variable {prog : Program} {w : World} {A : Around} {E : Value -> Shared -> Prop} {s : Shared}
theorem zkZ{l : Addr}{its : Array Value}{Q : Value -> Shared -> Prop}(hh : A.handled=none)(hl : s.heap.IsList l its)(hne : 0<its.size)(bt : Nat -> Nat -> Bool)
    (cm : ∀ i j x y (s' : Shared) (Q : Value -> Shared -> Prop) (E : Value -> Shared -> Prop), (∀ b o, s.heap.get? b=some o -> s'.heap.get? b=some o) -> its[i]? = some x -> its[j]? = some y -> Q (.bool (bt i j)) s' -> wpAny (model prog w) A.in1 (richCompare .Lt x y) Q E s')
    (fin : ∀ v h' tk, its[argBest bt (its.size - 1)]? = some v -> (∀ b o, s.heap.get? b=some o -> h'.get? b=some o) -> Q v { s with heap := h', toks := tk }) : wpAny (model prog w) A (call (.builtin "min") [.ref l]) Q E s := by
  have nm : (toString "min" ++ toString ".loop" : String) = "min.loop" := by decide
  have lt : l<s.heap.objs.size := by obtain⟨o, e, _⟩ := hl; exact lt_size e
  refine call_function_tree F.kind_min F.plain_min F.entry_min (F.args_min1 _) ?_;show wpAny _ A.in1 (Builtin.Builtins.bindParams "min" ["key", "default"] 0 ⟨[], []⟩ >>= _) _ _ s;refine wpAny_bind (wpAny_of_eq (show Builtin.Builtins.bindParams "min" ["key", "default"] 0 ⟨[], []⟩=pure [none, none] from rfl) (wpAny_bind (wpAny_pure (wpAny_bind (wpAny_pyIter_list hl ?_)))));refine wpAny_bind (wpAny_newObj_type ?_);rw [nm];have z1 : (s.heap.push { cls := .type "list_iterator", data := .fields #[.ref l, .int 0 0] }).objs.size=s.heap.objs.size+1 := size_push ..;have nS : (s.heap.push { cls := .type "list_iterator", data := .fields #[.ref l, .int 0 0] }).objs.size∉[s.heap.objs.size, l] := by
    rw [z1];simp only [mem_cons, not_mem_nil, or_false, not_or];exact⟨Nat.succ_ne_self _, ne_of_gt (Nat.lt_succ_of_lt lt)⟩
  have up : ∀ b o, s.heap.get? b=some o -> ((s.heap.push { cls := .type "list_iterator", data := .fields #[.ref l, .int 0 0] }).push { cls := .type "list", data := .seq #[] }).get? b=some o := fun b o e => get?_push_of_some _ (get?_push_of_some _ e);have old : ∀ b o, s.heap.get? b=some o -> b∉(s.heap.push { cls := .type "list_iterator", data := .fields #[.ref l, .int 0 0] }).objs.size :: [s.heap.objs.size] := fun b o e => by
    rw [z1];simp only [mem_cons, not_mem_nil, or_false, not_or];have := lt_size e;exact⟨ne_of_lt (Nat.lt_succ_of_lt this), ne_of_lt this⟩
  refine wpAny_pure ⟨plainId_quiet F.plain_min_loop _, ziS (Walks.list (A := A.in1) hh _ l (ne_of_lt lt) its) bt _ nS hne (fun i j x y s' Q' E' k hi hj q => cm i j x y s' Q' E' (fun b o e => k b o (old b o e) (up b o e)) hi hj q) ?_ (get?_push_size _ rfl) fun v h' tk hv k => fin v h' tk hv fun b o e => k b o (old b o e) (up b o e)⟩;exact⟨⟨_, get?_push_of_some _ (get?_push_size _ rfl), rfl, rfl⟩, (hl.push _).push _⟩
end
def zph(K : W.Frag): List V -> Hp -> VK -> Prop := fun xs H Q => ∃ (p : Addr) (vs : List V) (nss : List (List Int)), xs=[.ref p] /\ SqL K H p vs /\ vs≠[] /\ Paired (fun(v : V) (ns : List Int) => ∃ a, v=.ref a /\ H a=some (.tup (ns.map V.int))) vs nss /\
  ∀ (i : Nat) v ns, vs[i]? = some v -> nss[i]? = some ns -> (∀ ms∈nss, HT.lexLt ms ns=false) -> Q v H
theorem zeI{ns : Nat -> List Int}(tr : ∀ a b c : List Int, HT.lexLt a b=false -> HT.lexLt b c=false -> HT.lexLt a c=false)(as : ∀ a b : List Int, HT.lexLt a b=true -> HT.lexLt b a=false): ∀ k, argBest (fun i j => HT.lexLt (ns i) (ns j)) k<=k /\ ∀ j, j<=k -> HT.lexLt (ns j) (ns (argBest (fun i j => HT.lexLt (ns i) (ns j)) k))=false
  | 0 => ⟨le_refl _, fun j hj => by
      have : j=0 := by omega
      subst this;show HT.lexLt (ns 0) (ns 0)=false;cases h : HT.lexLt (ns 0) (ns 0) with
      | false => rfl
      | true => have := as _ _ h; rw [h] at this; cases this⟩
  | k+1 => by
    obtain⟨h1, h2⟩ := zeI tr as (ns := ns) k;simp only [argBest];by_cases hb : HT.lexLt (ns (k+1)) (ns (argBest (fun i j => HT.lexLt (ns i) (ns j)) k))=true
    · rw [if_pos hb]
      refine⟨le_refl _, fun j hj => ?_⟩;by_cases e : j=k+1
      · subst e
        cases h : HT.lexLt (ns (k+1)) (ns (k+1)) with
        | false => rfl
        | true => have := as _ _ h; rw [h] at this; cases this
      · exact tr _ _ _ (h2 j (by omega)) (as _ _ hb)
    · rw [if_neg hb]
      refine⟨by omega, fun j hj => ?_⟩;by_cases e : j=k+1
      · subst e; exact Bool.eq_false_iff.mpr hb
      · exact h2 j (by omega)
theorem zik: ∀ a b : List Int, HT.lexLt a b=true -> HT.lexLt b a=false
  | [], [], h => by cases h
  | [], y :: ys, _ => rfl
  | x :: xs, [], h => by cases h
  | x :: xs, y :: ys, h => by
    rw [HT.lexLt_cons] at h ⊢;by_cases e : x=y
    · subst e
      rw [if_pos rfl] at h ⊢;exact zik xs ys h
    · rw [if_neg e] at h
      rw [if_neg (Ne.symm e)];simp only [decide_eq_true_eq] at h;simp only [decide_eq_false_iff_not];omega
theorem zfj: ∀ a b c : List Int, HT.lexLt a b=false -> HT.lexLt b c=false -> HT.lexLt a c=false
  | _, _, [], _, _ => by rename_i a b _ _; cases a <;> rfl
  | [], [], z :: zs, _, h => by cases h
  | [], y :: ys, z :: zs, h, _ => by cases h
  | x :: xs, [], z :: zs, _, h => by cases h
  | x :: xs, y :: ys, z :: zs, h, k => by
    rw [HT.lexLt_cons] at h k ⊢;by_cases e : x=y
    · subst e
      rw [if_pos rfl] at h;by_cases e2 : x=z
      · subst e2
        rw [if_pos rfl] at k ⊢;exact zfj xs ys zs h k
      · rw [if_neg e2] at k ⊢
        exact k
    · rw [if_neg e] at h
      by_cases e2 : y=z
      · subst e2
        rw [if_neg e];exact h
      · rw [if_neg e2] at k
        simp only [decide_eq_false_iff_not] at h k;rw [if_neg (by omega)];simp only [decide_eq_false_iff_not];omega
theorem zkq{X : Cx}(hc : X.calm=true)(hu : X.A.units+64<cLine): CallR X (.builtin "min") (zph X.K) := by
  intro ze s σ H xs us Q I r h;obtain⟨p, vs, nss, rfl, hq, hne, pr, q⟩ := h;obtain⟨u, rfl, rx⟩ := vals1 r;cases (show u=Value.ref p from rx);obtain⟨its, rv, pl, _⟩ := I.list hq;have hl := rv.length;have hl2 := Paired.length pr;have hsz : 0<its.toArray.size := by
    rw [size_toArray, <- hl];exact List.length_pos_iff.mpr hne
  have at_ : ∀ (i : Nat) x, its.toArray[i]? = some x -> ∃ (v : V) (ns : List Int), vs[i]? = some v /\ nss[i]? = some ns /\ RelV v x /\ ∃ a, v=.ref a /\ H a=some (.tup (ns.map V.int)) := fun i x hx => by
    have hi : i<its.length := by
      have := (Array.getElem?_eq_some_iff.mp hx).1;simpa using this
    have e1 : vs[i]? = some vs[i] := getElem?_eq_getElem (by omega);have e2 : nss[i]? = some nss[i] := getElem?_eq_getElem (by omega);obtain⟨x', hx', rr⟩ := rv.get e1;have : x=x' := by
      have h2 : its[i]? = some x := by simpa using hx
      rw [hx'] at h2;exact(Option.some.inj h2).symm
    subst this;have pg : ∀ {a : List V} {b : List (List Int)} {i : Nat} {v : V} {ns : List Int}, Paired (fun(v : V) (ns : List Int) => ∃ a, v=.ref a /\ H a=some (.tup (ns.map V.int))) a b -> a[i]? = some v -> b[i]? = some ns -> ∃ a, v=.ref a /\ H a=some (.tup (ns.map V.int)) := by
      intro a b i v ns pq;induction pq generalizing i with
      | nil => intro h; simp at h
      | cons r0 _ ih =>
        cases i with
        | zero =>
          intro h1 h2;rw [getElem?_cons_zero] at h1 h2;cases h1;cases h2;exact r0
        | succ i =>
          intro h1 h2;rw [getElem?_cons_succ] at h1 h2;exact ih h1 h2
    exact⟨_, _, e1, e2, rr, pg pr e1 e2⟩
  refine zkZ (I.ok.hd hc) pl.isList hsz (fun i j => HT.lexLt (nss.getD i []) (nss.getD j [])) (fun i j x y s' Q' E' k hx hy q' => ?_) fun v h' tk hv k => ?_
  · obtain⟨v1, n1, _, f1, r1, a1, rfl, e1⟩ := at_ i x hx
    obtain⟨v2, n2, _, f2, r2, a2, rfl, e2⟩ := at_ j y hy;cases r1;cases r2;obtain⟨_, is1, w1, t1⟩ := (show ObjOk X.prog X.w H s.heap a1 (.tup (n1.map V.int)) from I.hok a1 _ e1);obtain⟨_, is2, w2, t2⟩ := (show ObjOk X.prog X.w H s.heap a2 (.tup (n2.map V.int)) from I.hok a2 _ e2);have g1 : nss.getD i []=n1 := by rw [getD_eq_getElem?_getD, f1]; rfl
    have g2 : nss.getD j []=n2 := by rw [getD_eq_getElem?_getD, f2]; rfl
    rw [g1, g2] at q';obtain⟨o1, b1, c1⟩ := t1;obtain⟨o2, b2, c2⟩ := t2;exact HT.lt_tupInts ⟨o1, k _ _ b1, c1⟩ ⟨o2, k _ _ b2, c2⟩ (za6 w1) (za6 w2) (by show X.A.units+1<cLine; omega) q'
  · obtain⟨v1, n1, e1, f1, r1, _⟩ := at_ _ v hv
    obtain⟨_, h2⟩ := zeI (ns := fun i => nss.getD i []) zfj zik (its.toArray.size - 1);refine⟨v1, H, I.kept (t' := tk) k, r1, q _ v1 n1 e1 f1 fun ms hm => ?_⟩;obtain⟨j, hj⟩ := mem_iff_getElem?.mp hm;have hjl := (List.getElem?_eq_some_iff.mp hj).1;have := h2 j (by rw [size_toArray]; omega);rw [show nss.getD j []=ms by rw [getD_eq_getElem?_getD, hj]; rfl] at this;rw [show nss.getD (argBest (fun i j => HT.lexLt (nss.getD i []) (nss.getD j [])) (its.toArray.size - 1)) []=n1 by rw [getD_eq_getElem?_getD, f1]; rfl] at this;exact this
def zqf(K : W.Frag): List V -> Hp -> VK -> Prop := fun xs H Q => zqH K xs H Q \/ zph K xs H Q
theorem zkG{X : Cx}(hc : X.calm=true)(hu : X.A.units+64<cLine): CallR X (.builtin "min") (zqf X.K) := (zjS hc).or (zkq hc hu)
def zoo(ns : List Int): PyData := .tuple (ns.map PyData.int)
def zoe: List XV -> Sto -> RX -> Prop := fun xs S R => zrv xs S R \/ arg1 xs fun x => ∃ ds, zlp S x=some ds /\ ∃ nss : List (List Int), ds=nss.map zoo /\ nss≠[] /\ ∀ m, m∈nss -> (∀ a, a∈nss -> HT.lexLt a m=false) -> R (.d (zoo m)) S
theorem zoc{K : W.Frag}: RC (zqf K) zoe := fun h o H S xs vs R Q hs hx q c => by
  rcases q with q | q
  · exact .inl (zp1 h o H S xs vs R Q hs hx q c)
  · obtain⟨x, rfl, ds, hd, nss, rfl, hn, q1⟩ := zaO q
    obtain⟨v, rfl, hx1⟩ := hxs1 hx;obtain⟨a, ws, rfl, ea, l⟩ := za1 hs hd hx1;have hl := l.length;refine .inr ⟨a, ws, nss, rfl, .of ea, fun z => hn ?_, ?_, fun i v ns e1 e2 hm => ?_⟩
    · subst z
      rw [length_map] at hl;exact eq_nil_of_length_eq_zero hl.symm
    · have go : ∀ {nss : List (List Int)} {ws : List V}, HasL (vx h o H) (nss.map zoo) ws -> Paired (fun(v : V) (ns : List Int) => ∃ a, v=.ref a /\ H a=some (.tup (ns.map V.int))) ws nss := by
        intro nss;induction nss with
        | nil => intro ws l; rw [zA.mp l]; exact .nil
        | cons n nss ih =>
          intro ws l;obtain⟨v, r, rfl, h1, l2⟩ := zr.mp l;obtain⟨b, us, rfl, eb, lb⟩ := zU.mp h1;rw [zbN lb] at eb;exact .cons ⟨b, rfl, zak _ _ eb⟩ (ih l2)
      exact go l
    · obtain⟨v', ev, hv⟩ := l.get (show (nss.map zoo)[i]? = some (zoo ns) by rw [getElem?_map, e2]; rfl)
      rw [e1] at ev;cases ev;exact c o H S (.d (zoo ns)) v Ex.refl hs hv (q1 ns (mem_of_getElem? e2) hm)
section
variable {S : Sto} {P : Sto -> List PyData -> Prop} {a b c d : List PyData} {x : List PyData}
theorem zeL{S0 : Sto}: (∃ T ds, S0++[x]=T++[ds] /\ P T ds)↔P S0 x := by
  constructor
  · rintro⟨T, ds, e, q⟩
    obtain⟨rfl, e2⟩ := List.append_inj' e rfl;cases e2;exact q
  · exact fun q => ⟨S0, x, rfl, q⟩
theorem zil: (∃ T ds, [a]=T++[ds] /\ P T ds)↔P [] a := zeL (S0 := [])
theorem zim: (∃ T ds, [a, b]=T++[ds] /\ P T ds)↔P [a] b := zeL (S0 := [a])
theorem zif: (∃ T ds, [a, b, c]=T++[ds] /\ P T ds)↔P [a, b] c := zeL (S0 := [a, b])
end
section
variable {n k : Nat} {ds : List PyData} {d : PyData} {v : V}
theorem zpa: frz n ds (some (.d d))=some (.d d) := rfl
theorem zpH: frz n ds (some (.l k))=if k=n then some (.d (.list ds)) else some (.l k) := rfl
end
section
variable {α : Type} {n : Nat} {g : DG} {tt : DT} {te : DE} {fin : Sto -> Prop} {S0 : Sto} {caps : XE}
theorem zmV{h : α -> PyData}{f : α -> PyData}(P : XE -> Prop)(hn : S0.length=n)(l : List α)(τ : XE)(hP : P τ)(hl : l.length<=1000)
    (el : ∀ x∈l, ∀ τ acc (R : XE -> RX), P τ -> (∀ τ', P τ' -> R τ' (.d (f x)) (S0++[acc])) -> g (.d (h x)) τ (S0++[acc]) fun τ1 S1 => te τ1 S1 (R τ1)) (hf : fin (S0++[l.map f])) : zd1 n g zaq te fin (l.map h) τ (S0++[[]]) := by
  have go : ∀ (l : List α) (acc : List PyData) (τ : XE), P τ -> acc.length+l.length<=1000 -> (∀ x∈l, ∀ τ acc (R : XE -> RX), P τ -> (∀ τ', P τ' -> R τ' (.d (f x)) (S0++[acc])) -> g (.d (h x)) τ (S0++[acc]) fun τ1 S1 => te τ1 S1 (R τ1)) ->
      fin (S0++[acc++l.map f]) -> zd1 n g zaq te fin (l.map h) τ (S0++[acc]) := by
    intro l;induction l with
    | nil => intro acc τ _ _ _ h; rw [map_nil, append_nil] at h; exact h
    | cons x l ih =>
      intro acc τ hP hl el hh;show g (.d (h x)) τ (S0++[acc]) fun τ1 S1 => zaq τ1 S1 fun b S2 => if b=true then te τ1 S2 fun x S3 => asD x fun e => ∃ acc, S3[n]? = some acc /\ acc.length<1000 /\ zd1 n g zaq te fin (l.map h) τ1 (S3.set n (acc++[e])) else zd1 n g zaq te fin (l.map h) τ1 S2
      simp only [zaq, ↓reduceIte];rw [length_cons] at hl;refine el x mem_cons_self τ acc (fun τ1 x S3 => asD x fun e => ∃ acc, S3[n]? = some acc /\ acc.length<1000 /\ zd1 n g zaq te fin (l.map h) τ1 (S3.set n (acc++[e]))) hP fun τ' hP' => ?_;refine⟨acc, by rw [<- hn, getElem?_concat_length], by omega, ?_⟩;rw [zfX hn];refine ih (acc++[f x]) τ' hP' (by rw [length_append, length_singleton]; omega) (fun e m => el e (mem_cons_of_mem _ m)) ?_;rw [append_assoc];exact hh
  exact go l [] τ hP (by simpa using hl) el (by simpa using hf)
theorem cmp1{h : α -> PyData}(f : α -> PyData)(hn : S0.length=n)(l : List α){u : Option XV}(hl : l.length<=1000)
    (el : ∀ x∈l, ∀ (u : Option XV) acc (R : XE -> RX), (∀ u', R (u' :: caps) (.d (f x)) (S0++[acc])) -> g (.d (h x)) (u :: caps) (S0++[acc]) fun τ1 S1 => te τ1 S1 (R τ1)) (hf : fin (S0++[l.map f])) : zd1 n g zaq te fin (l.map h) (u :: caps) (S0++[[]]) :=
  zmV (fun τ => ∃ u, τ=u :: caps) hn l _ ⟨u, rfl⟩ hl (fun x m τ acc R ⟨u, e⟩ k => by subst e; exact el x m u acc R fun u' => k _ ⟨u', rfl⟩) hf
theorem cmp2{h : α -> PyData}(f : α -> PyData)(hn : S0.length=n)(l : List α){u v : Option XV}(hl : l.length<=1000)
    (el : ∀ x∈l, ∀ (u v : Option XV) acc (R : XE -> RX), (∀ u' v', R (u' :: v' :: caps) (.d (f x)) (S0++[acc])) -> g (.d (h x)) (u :: v :: caps) (S0++[acc]) fun τ1 S1 => te τ1 S1 (R τ1)) (hf : fin (S0++[l.map f])) : zd1 n g zaq te fin (l.map h) (u :: v :: caps) (S0++[[]]) :=
  zmV (fun τ => ∃ u v, τ=u :: v :: caps) hn l _ ⟨u, v, rfl⟩ hl (fun x m τ acc R ⟨u, v, e⟩ k => by subst e; exact el x m u v acc R fun u' v' => k _ ⟨u', v', rfl⟩) hf
theorem zoG{h : α -> PyData}{f : α -> PyData}{p : α -> Bool}(P : XE -> Prop)(hn : S0.length=n)(l : List α)(τ : XE)(hP : P τ)(hl : l.length<=1000)
    (el : ∀ x∈l, ∀ τ acc (R : XE -> Bool -> Sto -> Prop), P τ -> (∀ τ', P τ' -> (p x=true -> ∀ T : RX, T (.d (f x)) (S0++[acc]) -> te τ' (S0++[acc]) T) -> R τ' (p x) (S0++[acc])) -> g (.d (h x)) τ (S0++[acc]) fun τ1 S1 => tt τ1 S1 (R τ1))
    (hf : fin (S0++[(l.filter p).map f])) : zd1 n g tt te fin (l.map h) τ (S0++[[]]) := by
  have go : ∀ (l : List α) (acc : List PyData) (τ : XE), P τ -> acc.length+l.length<=1000 -> (∀ x∈l, ∀ τ acc (R : XE -> Bool -> Sto -> Prop), P τ -> (∀ τ', P τ' -> (p x=true -> ∀ T : RX, T (.d (f x)) (S0++[acc]) -> te τ' (S0++[acc]) T) -> R τ' (p x) (S0++[acc])) -> g (.d (h x)) τ (S0++[acc]) fun τ1 S1 => tt τ1 S1 (R τ1)) ->
      fin (S0++[acc++(l.filter p).map f]) -> zd1 n g tt te fin (l.map h) τ (S0++[acc]) := by
    intro l;induction l with
    | nil => intro acc τ _ _ _ h; rw [List.filter_nil, map_nil, append_nil] at h; exact h
    | cons x l ih =>
      intro acc τ hP hl el hh;show g (.d (h x)) τ (S0++[acc]) fun τ1 S1 => tt τ1 S1 fun b S2 => if b=true then te τ1 S2 fun x S3 => asD x fun e => ∃ acc, S3[n]? = some acc /\ acc.length<1000 /\ zd1 n g tt te fin (l.map h) τ1 (S3.set n (acc++[e])) else zd1 n g tt te fin (l.map h) τ1 S2
      rw [length_cons] at hl;refine el x mem_cons_self τ acc (fun τ1 b S2 => if b=true then te τ1 S2 fun x S3 => asD x fun e => ∃ acc, S3[n]? = some acc /\ acc.length<1000 /\ zd1 n g tt te fin (l.map h) τ1 (S3.set n (acc++[e])) else zd1 n g tt te fin (l.map h) τ1 S2) hP fun τ' hP' ev => ?_;cases hp : p x with
      | false =>
        rw [List.filter_cons_of_neg (by rw [hp]; exact Bool.false_ne_true)] at hh;exact zmc (ih acc τ' hP' (by omega) (fun e m => el e (mem_cons_of_mem _ m)) hh)
      | true =>
        rw [List.filter_cons_of_pos hp, map_cons] at hh;refine zmf (ev hp _ ⟨acc, by rw [<- hn, getElem?_concat_length], by omega, ?_⟩);rw [zfX hn];exact ih (acc++[f x]) τ' hP' (by rw [length_append, length_singleton]; omega) (fun e m => el e (mem_cons_of_mem _ m)) (by rw [append_assoc]; exact hh)
  exact go l [] τ hP (by simpa using hl) el (by simpa using hf)
theorem cmf1{h : α -> PyData}(f : α -> PyData)(p : α -> Bool)(hn : S0.length=n)(l : List α){u : Option XV}(hl : l.length<=1000)
    (el : ∀ x∈l, ∀ (u : Option XV) acc (R : XE -> Bool -> Sto -> Prop), (∀ u', (p x=true -> ∀ T : RX, T (.d (f x)) (S0++[acc]) -> te (u' :: caps) (S0++[acc]) T) -> R (u' :: caps) (p x) (S0++[acc])) -> g (.d (h x)) (u :: caps) (S0++[acc]) fun τ1 S1 => tt τ1 S1 (R τ1)) (hf : fin (S0++[(l.filter p).map f])) : zd1 n g tt te fin (l.map h) (u :: caps) (S0++[[]]) :=
  zoG (fun τ => ∃ u, τ=u :: caps) hn l _ ⟨u, rfl⟩ hl (fun x m τ acc R ⟨u, e⟩ k => by subst e; exact el x m u acc R fun u' hh => k _ ⟨u', rfl⟩ hh) hf
end
end
section
@[irreducible] def QSs (X : Cx) (st : List Stmt) (t : TS) : Prop := PSs X st t
theorem QSs.out{X : Cx}{st : List Stmt}{t : TS}(h : QSs X st t): PSs X st t := by unfold QSs at h; exact h
@[irreducible] def QA (X : Cx) (es : List Expr) (t : TA) : Prop := PA X es t
theorem QA.out{X : Cx}{es : List Expr}{t : TA}(h : QA X es t): PA X es t := by unfold QA at h; exact h
theorem QA.mk{X : Cx}{es : List Expr}{t : TA}(h : PA X es t): QA X es t := by unfold QA; exact h
theorem zmd{X : Cx}: QA X [] zoq := QA.mk zd
theorem zbi{X : Cx}{e : Expr}{es : List Expr}{te : TE}{t : TA}(ha : PE X e te)(hr : QA X es t)(hs : starEach (e :: es) X.env=(false, eval e X.env) :: starEach es X.env := by rfl): QA X (e :: es) (zjc te t) := QA.mk (za ha hr.out hs)
theorem zkV{X : Cx}{es : List Expr}{t : TA}{pos : Pos}(h : QA X es t): PE X (.List es pos) (zol t) := zap h.out
@[irreducible] def QS (X : Cx) (st : Stmt) (t : TS) : Prop := PS X st t
theorem QS.out{X : Cx}{st : Stmt}{t : TS}(h : QS X st t): PS X st t := by unfold QS at h; exact h
end
section
section
variable {prog : Program} {w : World} {A : Around} {E : Value -> Shared -> Prop} {s : Shared}
abbrev zog (acc : Array Value) (c : Nat) : Obj := { cls := .type "list", dict := none, data := .seq acc c, slots := #[] }
abbrev zqk (lo hi : Int) : Obj := { cls := .type "longrange_iterator", data := .fields #[rawInt lo, rawInt (Builtin.Range.rangeSize lo hi 1), rawInt 1] }
abbrev IntsFrom (lo : Int) (acc : Array Value) (n : Nat) : Prop := ItemsOf (fun i v => ∃ t, v=.int (lo+(i : Nat)*1) t) acc n
theorem zjp{R : Result -> Shared -> Prop}{lo : Int}{n L I : Nat}{res : Value}{c0 tk0 : Nat}{h0 : Heap}(hh : A.handled=none)(hn : n<=1000)(ne : L≠I)
    (hI : IsLongIter h0 I (lo+((0 : Nat) : Int)*1) ((n : Int) - ((0 : Nat) : Int)) 1) (hL : h0.get? L=some (zog #[] c0))
    (hR : ∀ h' tk acc c, (∀ b o, b≠L -> b≠I -> h0.get? b=some o -> h'.get? b=some o) -> h'.get? L=some (zog acc c) -> IntsFrom lo acc n -> R (.ok (.ret res)) { s with heap := h', toks := tk }) :
    codeAny (model prog w) A (.builtin "list.extend.loop" ⟨[.ref L, .ref I, res], []⟩) R { s with heap := h0, toks := tk0 } := by
  have walk := (Walks.longrange (prog := prog) (w := w) (A := A.in1) hh I lo 1 n).toS;have small : n<=sizeLine := by rw [sizeLine_eq]; omega
  have out : L∉[I] := by simpa using ne
  refine codeAny_extend_loopS walk small L out res n 0 _ #[] c0 rfl (zero_le _) hI hL (ItemsOf.nil _) ?_;intro s' acc c moved hl' items;rw [Moved.eq_with moved];refine hR s'.heap s'.toks acc c (fun b o b1 b2 e => moved.heap b o ?_ e) hl' items;simp only [mem_cons, not_mem_nil, or_false, not_or];exact⟨b1, b2⟩
theorem zl1{R : Result -> Shared -> Prop}{r L : Addr}{lo hi : Int}{t u v : Tok}{n : Nat}(hh : A.handled=none)(hr : IsRange s.heap r lo hi 1 t u v)(big : Builtin.Range.small lo hi 1=false)(hn : Builtin.Range.rangeSize lo hi 1=(n : Int))(hl : n<=1000)
    {c0 : Nat} (hL : s.heap.get? L=some (zog #[] c0))
    (hR : ∀ h' tk acc c, (∀ b o, b≠L -> s.heap.get? b=some o -> h'.get? b=some o) -> h'.get? L=some (zog acc c) -> IntsFrom lo acc n -> R (.ok (.ret .none)) { s with heap := h', toks := tk }) :
    wpAny (model prog w) A.in1 (Builtin.List.listExtendWith (.ref L) (.ref r) .none)
      (fun f z => match f with
        | .done g => R (.ok g) z
        | .again c => c.quiet=true /\ codeAny (model prog w) A c R z) (fun e z => R (.error e) z) s := by
  have apart : L≠r := fun e => by
    rw [e, hr] at hL;simp at hL
  have low : L<s.heap.objs.size := lt_size hL;have ne : L≠s.heap.objs.size := ne_of_lt low;have same : Builtin.List.listSameRef (.ref L) (.ref r)=false := by simp [Builtin.List.listSameRef, apart]
  have k1 : (Value.type "range" == Value.type "list")=false := by decide
  have k2 : (Value.type "range" == Value.type "tuple")=false := by decide
  unfold Builtin.List.listExtendWith;refine wpAny_bind (wpAny_typeOf (T := "range") ⟨_, hr, rfl⟩ ?_);simp only [same, k1, k2, Bool.or_false, Bool.false_eq_true, if_false];refine wpAny_bind (wpAny_pyIter_longrange hr big ?_);have hit : IsLongIter (s.heap.push (zqk lo hi)) s.heap.objs.size (lo+((0 : Nat) : Int)*1) ((n : Int) - ((0 : Nat) : Int)) 1 := by
    show IsLongIter _ _ _ _ _;rw [<- hn];simpa using get?_push_size _ rfl
  have hL1 := get?_push_of_some (zqk lo hi) hL;refine wpAny_bind (wpAny_holding (wpAny_hint_range (n := n) (get?_push_of_some _ hr) hn (by omega) ?_));have go : ∀ {h0 : Heap} {c0 tk0 : Nat}, IsLongIter h0 s.heap.objs.size (lo+((0 : Nat) : Int)*1) ((n : Int) - ((0 : Nat) : Int)) 1 -> h0.get? L=some (zog #[] c0) -> (∀ b o, b≠L -> s.heap.get? b=some o -> h0.get? b=some o) ->
      codeAny (model prog w) A (.builtin "list.extend.loop" ⟨[.ref L, .ref s.heap.objs.size, .none], []⟩) R { s with heap := h0, toks := tk0 } := fun {h0 c0 tk0} a1 a2 a3 =>
    zjp hh hl ne a1 a2 fun h' tk acc c q1 q2 q3 => hR h' tk acc c (fun b o nb e => q1 b o nb (ne_of_lt (lt_size e)) (a3 b o nb e)) q2 q3
  have still := plainId_quiet F.plain_extend_loop;refine wpAny_ite_split (fun _ => ?_) fun _ => wpAny_pure ⟨still _, go hit hL1 fun b o _ e => get?_push_of_some _ e⟩;refine wpAny_bind (wpAny_rule (wpAny_bind ?_));show wpAny _ _ (updateSeq L (·.push .none) >>= fun _ => updateSeq L (·.pop)) _ _ _;refine wpAny_bind (wpAny_updateSeq hL1 rfl ?_);have hL2 := get?_update_self (Obj.mapSeq (·.push Value.none)) hL1 rfl;refine wpAny_updateSeq (hz := by seq_fits) hL2 rfl ?_;have hL3 := get?_update_self (Obj.mapSeq (·.pop)) hL2 rfl;have other : ∀ b o, b≠L -> (s.heap.push (zqk lo hi)).get? b=some o -> (((s.heap.push (zqk lo hi)).update L (Obj.mapSeq (·.push Value.none))).update L (Obj.mapSeq (·.pop))).get? b=some o := fun b o nb e =>
    (get?_update_other _ _ (Ne.symm nb)).trans ((get?_update_other _ _ (Ne.symm nb)).trans e)
  exact wpAny_pure ⟨still _, go (other _ _ (Ne.symm ne) hit) hL3 fun b o nb e => other b o nb (get?_push_of_some _ e)⟩
theorem zjI{R : Result -> Shared -> Prop}{r L : Addr}{lo hi : Int}{t u v : Tok}{n : Nat}(hh : A.handled=none)(hr : IsRange s.heap r lo hi 1 t u v)(big : Builtin.Range.small lo hi 1=false)(hn : Builtin.Range.rangeSize lo hi 1=(n : Int))(hl : n<=1000)
    (hL : s.heap.get? L=some { cls := .type "list", data := .seq #[] })
    (hR : ∀ h' tk acc c, (∀ b o, b≠L -> s.heap.get? b=some o -> h'.get? b=some o) -> h'.get? L=some (zog acc c) -> IntsFrom lo acc n -> R (.ok (.ret .none)) { s with heap := h', toks := tk }) :
    wpAny (model prog w) A.in1 (Builtin.«list.__init__» ⟨[.ref L, .ref r], []⟩)
      (fun f z => match f with
        | .done g => R (.ok g) z
        | .again c => c.quiet=true /\ codeAny (model prog w) A c R z) (fun e z => R (.error e) z) s := by
  have apart : L≠r := fun e => by
    rw [e, hr] at hL;simp at hL
  show wpAny _ _ (do
    let was <- Builtin.List.listItems (.ref L)
    Builtin.List.listUpdate (.ref L) (fun _ => #[])
    letGo was.toList.reverse
    Builtin.List.listExtendWith (.ref L) (.ref r) .none) _ _ s
  unfold Builtin.List.listItems;refine wpAny_bind (wpAny_bind (wpAny_seqItems hL rfl (wpAny_pure ?_)));show wpAny _ _ (updateSeq L (fun _ => #[]) >>= fun _ => letGo _ >>= fun _ => Builtin.List.listExtendWith (.ref L) (.ref r) .none) _ _ s;refine wpAny_bind (wpAny_updateSeq hL rfl ?_);have hL1 := get?_update_self (Obj.mapSeq (fun _ => (#[] : Array Value))) hL rfl;have other : ∀ b o, b≠L -> s.heap.get? b=some o -> (s.heap.update L (Obj.mapSeq (fun _ => (#[] : Array Value)))).get? b=some o := fun b o nb e => (get?_update_other _ _ (Ne.symm nb)).trans e;refine wpAny_bind (wpAny_letGo ?_);refine zl1 hh (other r _ (Ne.symm apart) hr) big hn hl hL1 fun h' tk acc c q1 q2 q3 => ?_;exact hR h' tk acc c (fun b o nb e => q1 b o nb (other b o nb e)) q2 q3
theorem zfI{Q : Value -> Shared -> Prop}{r : Addr}{lo hi : Int}{t u v : Tok}{n : Nat}(hh : A.handled=none)(hr : IsRange s.heap r lo hi 1 t u v)(hn : Builtin.Range.rangeSize lo hi 1=(n : Int))(hl : n<=1000)
    (hQ : ∀ h' tk acc c, (∀ b o, s.heap.get? b=some o -> h'.get? b=some o) -> h'.get? s.heap.objs.size=some (zog acc c) -> IntsFrom lo acc n -> Q (.ref s.heap.objs.size) { s with heap := h', toks := tk }) :
    wpAny (model prog w) A (call (.type "list") [.ref r]) Q E s := by
  cases sm : Builtin.Range.small lo hi 1 with
  | true => exact call_list_range hh hr sm hn (by omega) hQ
  | false =>
    refine callType_codes (Q₁ := fun ob z => ob=.ref s.heap.objs.size /\ z = { s with heap := s.heap.push { cls := .type "list", data := .seq #[] } }) F.called_list (F.typeCall_list_1 _) F.entry_list_init (code_list_new _ ⟨rfl, rfl⟩) ?_;rintro ob z ⟨rfl, rfl⟩;have hL : (s.heap.push { cls := .type "list", data := .seq #[] }).get? s.heap.objs.size=some { cls := .type "list", data := .seq #[] } := get?_push_size _ rfl;refine⟨⟨_, hL, rfl⟩, F.args_list_init_2 _ _, ?_⟩;refine zjI (A := A.in1) hh (get?_push_of_some _ hr) sm hn hl hL fun h' tk acc c q1 q2 q3 => ⟨rfl, hQ h' tk acc c (fun b o e => ?_) q2 q3⟩;exact q1 b o (ne_of_lt (lt_size e)) (get?_push_of_some _ e)
end
def zpO(ta : TA): TE := fun σ H Q => ta σ H fun vs H1 => ∃ i j : Int, vs=[.int i, .int j] /\ (j - i).toNat<=1000 /\ ∀ l, H1 l=none -> Q (.ref l) (upd H1 l (.lst ((List.range (j - i).toNat).map fun k : Nat => V.int (i+k))))
theorem zh9: ∀ (xs : List V) (us : List Value), xs.length=us.length -> (∀ (k : Nat) (x : V) (u : Value), xs[k]? = some x -> us[k]? = some u -> RelV x u) -> Vals xs us
  | [], [], _, _ => .nil
  | x :: xs, u :: us, hl, h => .cons (h 0 x u rfl rfl) (zh9 xs us (by simpa using hl) fun k y v e1 e2 => h (k+1) y v e1 e2)
  | [], _ :: _, hl, _ => by simp at hl
  | _ :: _, [], hl, _ => by simp at hl
theorem znD{lo : Int}: ∀ {n : Nat} {acc : Array Value}, IntsFrom lo acc n -> Vals ((List.range n).map fun k : Nat => V.int (lo+k)) acc.toList := by
  intro n acc h;obtain⟨hz, hv⟩ := h;refine zh9 _ _ (by simp [hz]) fun k x u ex eu => ?_;rw [getElem?_map] at ex;have hk : k<n := by
    have := (List.getElem?_eq_some_iff.mp eu).1;simpa [hz] using this
  rw [List.getElem?_range hk] at ex;cases ex;obtain⟨tk, rfl⟩ := hv k u (by simpa using eu);exact⟨tk, by rw [Int.mul_one]⟩
theorem znW{X : Cx}{a b : Expr}{ta : TA}{p p' pos pos' : Pos}(hc : X.calm=true)(hgl : Gl X "list")(hml : X.mg "list" = none)(hg : Gl X "range")(hm : X.mg "range" = none)(ha : PA X [a, b] ta)
    (hs : starEach [a, b] X.env=[(false, eval a X.env), (false, eval b X.env)] := by rfl) (hs2 : starEach [b] X.env=[(false, eval b X.env)] := by rfl)
    (hs3 : starEach [.Call (.Name "range" p) [a, b] [] pos] X.env=[(false, eval (.Call (.Name "range" p) [a, b] [] pos) X.env)] := by rfl) :
    PE X (.Call (.Name "list" p') [.Call (.Name "range" p) [a, b] [] pos] [] pos') (zpO ta) := by
  intro ze s σ H Q I h;refine wpAny_Call_Name_kw (zdJ I hgl hml zfN ?_ dz dz);refine PyProof.Rows.callWith_type1 ?_ (by rw [hs3]; rfl) rfl;rw [hs3];show wpAny _ _ (spliced ((false, eval (.Call (.Name "range" p) [a, b] [] pos) X.env) :: [])) _ _ s;refine Calls.spliced_cons (Call_ (zdJ I hg hm boot_range (PyProof.Rows.callWith_type1 (thn (ha pos ze s σ H _ I h) fun us s1 ⟨vs, H1, I1, r1, q1⟩ => ?_) (by rw [hs, hs2]) (by rw [hs2]; rfl))));obtain⟨i, j, e, hl, q⟩ := q1;subst e;cases r1 with
  | cons r rr =>
    cases rr with
    | cons r' rr =>
      cases rr;obtain⟨t, rfl⟩ := r;obtain⟨t', rfl⟩ := r';refine call_range_2 (Calls.spliced_nil ?_);have I2 := I1.kept (h' := s1.heap.push { cls := .type "range", data := .fields #[.int i t, .int j t', .int 1 s1.toks] }) (t' := s1.toks+1) fun b o e => get?_push_of_some _ e;have en : Builtin.Range.rangeSize i j 1=(((j - i).toNat : Nat) : Int) := by rw [rangeSize_one]; split <;> omega
      refine zfI (I2.ok.hd hc) (IsRange.new ..) en hl fun h' tk acc c kp e it => ?_;have hv := znD it;refine⟨.ref _, _, I2.laid (t' := tk) kp (le_refl _) (show ObjOk X.prog X.w _ h' _ (.lst _) from⟨?_, acc.toList, c, hv, ?_⟩), rfl, q _ (I2.hok.fresh (le_refl _))⟩
      · rw [length_map, List.length_range, sizeLine_eq]
        omega
      · simpa using e
def zlI(a : DA): DE := fun δ S R => a δ S fun xs S1 => arg2 xs fun x y => asI x fun i => asI y fun j => (j - i).toNat<=1000 /\ R (.d (.list (zd6 i (j - i).toNat))) S1
theorem znd{ta : TA}{da : DA}(ha : RA ta da): RE (zpO ta) (zlI da) := fun h o H δ σ S R Q he hs q c =>
  ha h o H δ σ S _ _ he hs q fun o1 H1 S1 xs vs e1 s1 x1 d0 => by
    obtain⟨x, y, rfl, d2⟩ := zeG d0;obtain⟨i, rfl, d3⟩ := zaw d2;obtain⟨j, rfl, hl, d4⟩ := zaw d3;obtain⟨v, u, rfl, hv, hu⟩ := hxs2 x1;rw [zat hv, zat hu];have l := zgD (H := vx h o1 H1) ((List.range (j - i).toNat).map fun k : Nat => i+k);rw [map_map, map_map] at l;exact⟨i, j, rfl, hl, zi1 s1 l (c.pre e1) d4⟩
end
end L2
namespace HT
open PySem PyProof.Rows
end HT
namespace L2
open PySem PySem.Spec PyProof.Rows
section
def zro: D3 := fun x i j S R => asT x fun ds => R (.d (.tuple (zei ds i j))) S
end
section
def zo6: R2 := fun x y H Q => ∃ a b, x=.bl a /\ y=.bl b /\ Q (.bl (!decide (a=b))) H
theorem zn7{X : Cx}: OpR X (compareOp .IsNot) zo6 := by
  intro ze s σ H x y v u Q I rx ry h;obtain⟨a, b, rfl, rfl, q⟩ := h;cases rx;cases ry;exact wpAny_isNot_plain (by cases a <;> cases b <;> rfl) (zig I q (by cases a <;> cases b <;> rfl))
def zlQ: D2 := fun x y S R => asB x fun a => asB y fun b => R (.d (.bool (!decide (a=b)))) S
theorem zkr: RO zo6 zlQ := fun h o H S x y v u R Q hs hx hy q c => by
  replace q := zfl q;obtain⟨a, rfl, q⟩ := q;replace q := zfl q;obtain⟨b, rfl, q⟩ := q;exact⟨a, b, zck hx, zck hy, c o H S _ _ Ex.refl hs (xB _) q⟩
end
section
@[irreducible] def QE (X : Cx) (e : Expr) (t : TE) : Prop := PE X e t
theorem QE.out{X : Cx}{e : Expr}{t : TE}(h : QE X e t): PE X e t := by unfold QE at h; exact h
end
end L2
namespace L2
open PySem PySem.Spec PySem.Calls PyProof.Rows PySem.W
end L2
namespace L2
open PySem PySem.Spec PyProof.Rows
section
def zq8: D2 := fun x y S R => asT x fun ds => asT y fun es => ∃ ns, ds=ns.map PyData.int /\ ∃ ms, es=ms.map PyData.int /\ R (.d (.bool (HT.lexLt ns ms))) S
end
section
open Sem (wp)
namespace F4
end F4
end
section
namespace F4
end F4
end
section
namespace F4
end F4
end
section
namespace F4
end F4
end
end L2
namespace L2
open PySem PySem.Spec PySem.Calls PyProof.Rows PySem.W PySem.Builtin PySem.Builtin.ObjectAttr PySem.Builtin.Getset_descriptor
end L2
namespace L2
open PySem PySem.Spec PySem.Calls PyProof.Rows
end L2
namespace L2
open PySem PySem.Spec PyProof.Rows
section
abbrev EXD := Addr -> List (Str×PyData) -> Prop
abbrev PX := List XV -> Sto -> RX -> EXD -> Prop
def CnX(h o : List Addr)(H : Hp)(EX : EXD)(E : XK): Prop := ∀ o' H' S' C a fs, Ex o H o' H' -> RepS h o' H' S' -> HasE (vx h o' H') C fs (.ref a) -> EX C fs -> E (.ref C) (some a) H'
theorem CnX.pre{h o o' : List Addr}{H H' : Hp}{EX : EXD}{E : XK}(c : CnX h o H EX E)(e : Ex o H o' H'): CnX h o' H' EX E := fun o2 H2 S2 C a fs e2 => c o2 H2 S2 C a fs (e.trans e2)
def RSx(E : XK)(EX : EXD)(t : TS)(dt : DS): Prop := ∀ (h o : List Addr) (H : Hp) (δ : XE) (σ : St) (S : Sto) (En : DEnds) (D : Ends), RepE h o H δ σ -> RepS h o H S -> dt En δ S -> EOk h o H En D -> CnX h o H EX E -> t D σ H
section
variable {E : XK} {EX : EXD} {t u : TS} {dt du : DS}
theorem zno(ht : RS t dt): RSx E EX t dt := fun h o H δ σ S En D he hs q c _ => ht h o H δ σ S En D he hs q c
end
end
end L2
namespace L2
open PySem PySem.Spec PySem.Calls PyProof.Rows PySem.W PySem.Builtin PySem.Builtin.ObjectAttr
end L2
namespace L2
open PySem PySem.Spec PySem.Calls PyProof.Rows PySem.W
end L2
namespace L2
open PySem PySem.Spec PySem.Calls PyProof.Rows
end L2
namespace L2
open PySem PySem.Spec PySem.Calls PyProof.Rows
end L2
namespace L2
open PySem PySem.Spec PyProof.Rows
section
def zj4(EX : EXD)(C : Addr)(ns : List Str)(da : DA): DS := fun _ δ S => da δ S fun xs _ => ∃ ds, datas xs=some ds /\ ds.length=ns.length /\ EX C (ns.zip ds)
end
end L2
namespace L2
open PySem PySem.Spec PySem.Calls PyProof.Rows
end L2
namespace L2
open PySem PySem.Spec PyProof.Rows
section
abbrev Phi := List Addr -> List Addr -> Hp -> Prop
class Stb (Φ : Phi) : Prop where
  st : ∀ {h o o' : List Addr} {H H' : Hp}, Φ h o H -> Ex o H o' H' -> Φ h o' H'
def REp(Φ : Phi)(t : TE)(dt : DE): Prop := ∀ (h o : List Addr) (H : Hp) (δ : XE) (σ : St) (S : Sto) (R : RX) (Q : VK), RepE h o H δ σ -> RepS h o H S -> dt δ S R -> Cn h o H R Q -> Φ h o H -> t σ H Q
def RIp(Φ : Phi)(w : TI)(di : DI): Prop := ∀ (h o : List Addr) (H : Hp) (δ : XE) (σ : St) (S : Sto) (R : List PyData -> Sto -> Prop) (Q : It -> Hp -> Prop), RepE h o H δ σ -> RepS h o H S -> di δ S R ->
  (∀ o' H' S' ds J, Ex o H o' H' -> RepS h o' H' S' -> WalkX h o' H' J ds -> R ds S' -> Q J H') -> Φ h o H -> w σ H Q
section
variable {Φ : Phi} [Stb Φ] {ta tb te : TE} {da db de : DE} {tl : TA} {dl : DA} {tt tu : TT} {dt du : DT}
theorem zf8(a : RE te de): REp Φ te de := fun h o H δ σ S R Q he hs q c _ => a h o H δ σ S R Q he hs q c
theorem znt{w : TI}{di : DI}(a : RI w di): RIp Φ w di := fun h o H δ σ S R Q he hs q c _ => a h o H δ σ S R Q he hs q c
end
section
variable {E : XK} {EX : EXD} {ta tb te : TE} {da db de : DE} {tl : TA} {dl : DA} {tt tu : TT} {dt du : DT}
def zmY(EX : EXD)(m : Nat)(q : PX)(da : DA): DE := fun δ S R => da δ S fun xs S1 => ∃ ds, datas xs=some ds /\ ds.length=m /\ q (ds.map XV.d) [] (ret0 S1 R) EX
end
def zqG(N P : List Str)(sc : Scope): Bool := decide (sc.kind=.function) && !sc.isCoroutine && !sc.isGenerator && decide N.Nodup && decide (N.take P.length=P) && P.all (fun x => decide (sc.names.lookup x=some .local) || decide (sc.names.lookup x=some .cell)) && sc.names.all fun y => decide (y.2≠.free)
theorem fsc{N P : List Str}{sc : Scope}(h : zqG N P sc=true): FnScope N P sc := by
  simp only [zqG, Bool.and_eq_true, decide_eq_true_eq, Bool.not_eq_true', all_eq_true, Bool.or_eq_true] at h;obtain⟨⟨⟨⟨⟨⟨h1, h2⟩, h3⟩, h4⟩, h5⟩, h6⟩, h7⟩ := h;exact⟨h1, h2, h3, h4, h5, h6, h7⟩
end
section
section
variable {κ α : Type} [DecidableEq κ]
def lkA(m : List (κ×α))(k : κ): Option α := (m.find? fun p => decide (p.1=k)).map (·.2)
def ptA(m : List (κ×α))(k : κ)(v : α): List (κ×α) := if (m.any fun p => decide (p.1=k))=true then m.map (fun p => if p.1=k then (p.1, v) else p) else m++[(k, v)]
def HasM(H : Hp): List (κ×PyData) -> List (κ×V) -> Prop
  | [], m => m=[]
  | p :: r, m => ∃ v m', m=(p.1, v) :: m' /\ Has H p.2 v /\ HasM H r m'
theorem HasM.mono{H H' : Hp}(s : Same H H'): ∀ {m : List (κ×PyData)} {m' : List (κ×V)}, HasM H m m' -> HasM H' m m'
  | [], _, q => q
  | p :: r, _, ⟨v, t, e, q, l⟩ => ⟨v, t, e, Has.mono s _ _ q, HasM.mono s l⟩
end
inductive KSg where
  | int | bool | many (s : KSg) | two (s t : KSg)
def KG: KSg -> Type
  | .int => Int
  | .bool => Bool
  | .many s => List (KG s)
  | .two s t => KG s×KG t
instance decKG : (s : KSg) -> DecidableEq (KG s)
  | .int => inferInstanceAs (DecidableEq Int)
  | .bool => inferInstanceAs (DecidableEq Bool)
  | .many s => have := decKG s; inferInstanceAs (DecidableEq (List (KG s)))
  | .two s t => have := decKG s; have := decKG t; inferInstanceAs (DecidableEq (KG s×KG t))
def khash: (s : KSg) -> KG s -> Int
  | .int, i => hashInt i
  | .bool, b => reduceHash (match (show Bool from b) with | true => 1 | false => 0)
  | .many s, ks => reduceHash (Builtin.Tuple.tupleHashOf (ks.map (khash s)))
  | .two s t, k => reduceHash (Builtin.Tuple.tupleHashOf [khash s k.1, khash t k.2])
def kdat: (g : KSg) -> KG g -> PyData
  | .int, i => .int i
  | .bool, b => .bool b
  | .many g, ks => .tuple (List.map (kdat g) ks)
  | .two g g', k => .tuple [kdat g k.1, kdat g' k.2]
def PDict(g : KSg)(ob : Obj)(xs : List (KG g×Addr×Value)): Prop := ob.ExactDict /\ ∃ es ep, ob.data=.dict es ep /\ es.toList=xs.map (fun x => ⟨khash g x.1, .ref x.2.1, x.2.2⟩) /\ (xs.map (·.1)).Nodup
def PrG(G : Hp)(g : KSg): List (KG g×PyData) -> List (KG g×Addr×Value) -> Prop
  | [], xs => xs=[]
  | p :: r, xs => ∃ q t, xs=q :: t /\ q.1=p.1 /\ Has G (kdat g p.1) (.ref q.2.1) /\ (∃ v, Has G p.2 v /\ RelV v q.2.2) /\ PrG G g r t
theorem PrG.mono{G G' : Hp}{g : KSg}(s : Same G G'): ∀ {m : List (KG g×PyData)} {xs : List (KG g×Addr×Value)}, PrG G g m xs -> PrG G' g m xs
  | [], _, q => q
  | p :: r, _, ⟨q, t, e, e1, h1, ⟨v, h2, h3⟩, l⟩ => ⟨q, t, e, e1, Has.mono s _ _ h1, ⟨v, Has.mono s _ _ h2, h3⟩, PrG.mono s l⟩
inductive DD where
  | k (m : List (Key×PyData))
  | t (m : List (List Key×PyData))
  | g (g : KSg) (ob : Obj) (m : List (KG g×PyData))
def DD.pairs: DD -> List (PyData×PyData)
  | .k m => m.map fun p => (kD p.1, p.2)
  | .t m => m.map fun p => (.tuple (p.1.map kD), p.2)
  | .g sg _ m => m.map fun p => (kdat sg p.1, p.2)
def zry: PyData -> Option Key
  | .int i => some (.inl i)
  | .str x => some (.inr x)
  | _ => none
def RAt(G H : Hp)(a : Addr): DD -> Prop
  | .k m => ∃ m', Rd H a (.dK m') /\ HasM G m m'
  | .t m => ∃ m', Rd H a (.dT m') /\ HasM G m m'
  | .g g ob m => H a=some (obO a ob) /\ (a == sysModules)=false /\ ∃ xs, PDict g ob xs /\ PrG G g m xs
def DAt(G H : Hp)(a : Addr): DD -> Prop
  | .k m => ∃ m', H a=some (.dK m') /\ HasM G m m'
  | .t m => ∃ m', H a=some (.dT m') /\ HasM G m m'
  | .g g ob m => H a=some (obO a ob) /\ (a == sysModules)=false /\ ∃ xs, PDict g ob xs /\ PrG G g m xs
theorem DAt.mono{G G' H H' : Hp}{a : Addr}{D : DD}(s : Same G G')(e : ∀ u, H a=some u -> H' a=some u)(q : DAt G H a D): DAt G' H' a D := by
  cases D with
  | k m => obtain⟨m', e1, l⟩ := q; exact⟨m', e _ e1, l.mono s⟩
  | t m => obtain⟨m', e1, l⟩ := q; exact⟨m', e _ e1, l.mono s⟩
  | g g ob m => obtain⟨e1, ha, xs, pd, l⟩ := q; exact⟨e _ e1, ha, xs, pd, l.mono s⟩
theorem DAt.rd{G H : Hp}{a : Addr}{D : DD}(q : DAt G H a D): RAt G H a D := by
  cases D with
  | k m => obtain⟨m', e1, l⟩ := q; exact⟨m', .inl e1, l⟩
  | t m => obtain⟨m', e1, l⟩ := q; exact⟨m', .inl e1, l⟩
  | g g ob m => exact q
theorem DAt.mo{G H : Hp}{a : Addr}{D : DD}(q : DAt G H a D): ∃ u : MO, H a=some u.ho := by
  cases D with
  | k m => obtain⟨m', e1, l⟩ := q; exact⟨.k m', e1⟩
  | t m => obtain⟨m', e1, l⟩ := q; exact⟨.t m', e1⟩
  | g g ob m => exact⟨.x a ob, q.1⟩
theorem RAt.isD{G H : Hp}{a : Addr}{D : DD}(q : RAt G H a D): IsD H a := by
  cases D with
  | k m => obtain⟨m', e1, _⟩ := q; exact .inl ⟨m', e1⟩
  | t m => obtain⟨m', e1, _⟩ := q; exact .inr (.inl ⟨m', e1⟩)
  | g g ob m => obtain⟨e1, ha, xs, pd, l⟩ := q; exact .inr (.inr ⟨ob, e1, pd.1, ha⟩)
theorem zoD{a b : Key}(e : kD a=kD b): a=b := by
  cases a <;> cases b <;> cases e <;> rfl
theorem zk7{H : Hp}: ∀ {m : List (Key×PyData)} {m' : List (Key×V)}, HasM H m m' -> HasV H (m.map fun p => (kD p.1, p.2)) (m'.map (·.2)) /\ m'.map (fun p => kD p.1)=m.map fun p => kD p.1
  | [], m', q => by rw [show m'=[] from q]; exact⟨zl4.mpr rfl, rfl⟩
  | p :: r, m', ⟨v, t, e, q, l⟩ => by
    subst e;obtain⟨z1, z2⟩ := zk7 l;exact⟨zgQ.mpr ⟨v, _, rfl, q, z1⟩, by rw [map_cons, map_cons, z2]⟩
theorem zjE{H : Hp}: ∀ {m : List (Key×PyData)} {m' : List (Key×V)}, HasV H (m.map fun p => (kD p.1, p.2)) (m'.map (·.2)) -> m.map (fun p => kD p.1)=m'.map (fun p => kD p.1) -> HasM H m m'
  | [], [], _, _ => rfl
  | [], _ :: _, _, e => by simp at e
  | _ :: _, [], _, e => by simp at e
  | p :: r, q :: t, h, e => by
    rw [map_cons, map_cons] at h;obtain⟨v, s, e1, e2, e3⟩ := zgQ.mp h;rw [List.cons.injEq] at e1;rw [map_cons, map_cons, List.cons.injEq] at e;have z := zoD e.1;obtain⟨q1, q2⟩ := q;refine⟨q2, t, by rw [z], ?_, zjE (by rw [e1.2]; exact e3) e.2⟩;have z1 : q2=v := e1.1;rw [z1];exact e2
theorem zoJ{H : Hp}{m : List (Key×PyData)}{v : V}: Has H (.dict (DD.pairs (.k m))) v↔∃ a ob m', v=.ref a /\ H a=some (.frz ob (.dK m')) /\ HasM H m m' := by
  rw [zfH];constructor
  · rintro⟨a, vs, rfl, ⟨ob, m', e, e1, e2⟩ | ⟨ob, p, m', e, e1, e2⟩, l⟩
    rotate_left
    · cases m with
      | nil => cases e1
      | cons q r =>
        have z := congrArg List.head? e1;simp only [DD.pairs, map_cons, List.head?_cons, Option.some.injEq] at z;cases h : q.1 <;> rw [h] at z <;> cases z
    subst e2;refine⟨a, ob, m', rfl, e, zjE l ?_⟩;rw [<- e1];simp [DD.pairs]
  · rintro⟨a, ob, m', rfl, e, l⟩
    obtain⟨z1, z2⟩ := zk7 l;exact⟨a, _, rfl, .inl ⟨ob, m', e, by rw [z2]; simp [DD.pairs], rfl⟩, z1⟩
abbrev DM := List (Addr×DD)
def ad(M : DM): List Addr := M.map (·.1)
structure RepM(h o : List Addr)(H : Hp)(M : DM): Prop where
  nd : (ad M).Nodup
  nh : ∀ a∈ad M, a∉h /\ a∉o
  ct : ∀ a D, (a, D)∈M -> DAt (vx (h++ad M) o H) H a D
section
variable {h o o' : List Addr} {H H' : Hp} {M : DM} {S : Sto}
theorem RepM.at(r : RepM h o H M){a : Addr}(m : a∈ad M): ∃ D, (a, D)∈M /\ DAt (vx (h++ad M) o H) H a D := by
  obtain⟨p, mp, e⟩ := mem_map.mp m;obtain⟨b, D⟩ := p;cases e;exact⟨D, mp, r.ct _ D mp⟩
theorem RepM.mono(r : RepM h o H M)(e : Ex o H o' H'): RepM h o' H' M := by
  have k1 : ∀ a∈ad M, ∀ u, H a=some u -> a∉o' /\ H' a=some u := fun a m u z => e.kp a u (r.nh a m).2 z;refine⟨r.nd, fun a m => ⟨(r.nh a m).1, ?_⟩, fun a D m => ?_⟩
  · obtain⟨D, _, q⟩ := r.at m
    obtain⟨u, z⟩ := q.mo;exact(k1 a m _ z).1
  · exact(r.ct a D m).mono e.vx fun u z => (k1 a (mem_map.mpr ⟨_, m, rfl⟩) u z).2
theorem RepM.nil: RepM h o H [] := ⟨nodup_nil, fun a m => (by cases m), fun a D m => (by cases m)⟩
def znY(M : DM)(a : Addr)(D : DD): DM := M.map fun p => if p.1=a then (a, D) else p
theorem zev{a : Addr}{D : DD}: ∀ {M : DM}, ad (znY M a D)=ad M
  | [] => rfl
  | p :: r => by
    have z := zev (a := a) (D := D) (M := r);unfold ad znY at z ⊢;rw [map_cons, map_cons, map_cons, z];by_cases e : p.1=a <;> simp [e]
theorem zeK{a : Addr}{u : HO}(m : a∈h): Same (vx h o H) (vx h o (upd H a u)) := fun b w e => by
  obtain⟨z1, z2, z3⟩ := zP.mp e;exact zP.mpr ⟨z1, z2, by rw [zG (fun z => z1 (by rw [z]; exact m))]; exact z3⟩
theorem HasX.view(s : Same (vx h o H) (vx h o H')): ∀ {x : XV} {v : V}, HasX h o H x v -> HasX h o H' x v
  | .d d, v, q => Has.mono s d v q
  | .l k, v, q => q
  | .o w, v, q => q
  | .x C fs, v, q => HasE.mono s q
theorem RepE.view{δ : XE}{σ : St}(s : Same (vx h o H) (vx h o H'))(r : RepE h o H δ σ): RepE h o H' δ σ := ⟨r.len, fun i x e => let ⟨v, e1, e2⟩ := r.get i x e; ⟨v, e1, e2.view s⟩⟩
theorem RepS.hidden{a : Addr}{u : MO}(r : RepS h o H S)(m : a∈h): RepS h o (L2.upd H a u.ho) S where
  len := r.len
  nd := r.nd
  dis := r.dis
  hal := fun b mb => by
    by_cases e : b=a
    · subst e; exact⟨u, zaf⟩
    · obtain⟨w, z⟩ := r.hal b mb
      exact⟨w, by rw [zG e]; exact z⟩
  cont := fun k b ds e1 e2 => by
    obtain⟨vs, e3, l⟩ := r.cont k b ds e1 e2;have ne : b≠a := fun z => r.dis b (mem_of_getElem? e1) (z▸m);exact⟨vs, by rw [zG ne]; exact e3, HasL.mono (zeK m) _ _ l⟩
theorem RepM.put{a : Addr}{D D' : DD}{u : MO}(r : RepM h o H M)(m : (a, D)∈M)(q : ∀ H', H' a=some u.ho -> DAt (vx (h++ad M) o H) H' a D'): RepM h o (L2.upd H a u.ho) (znY M a D') := by
  have ma : a∈ad M := mem_map.mpr ⟨_, m, rfl⟩;refine⟨by rw [zev]; exact r.nd, by rw [zev]; exact r.nh, fun b D2 mb => ?_⟩;rw [zev];have sv : Same (vx (h++ad M) o H) (vx (h++ad M) o (L2.upd H a u.ho)) := zeK (mem_append_right _ ma);obtain⟨p, mp, ep⟩ := mem_map.mp mb;by_cases e : p.1=a
  · rw [if_pos e] at ep
    cases ep;exact(q _ zaf).mono sv fun _ z => z
  · rw [if_neg e] at ep
    subst ep;exact(r.ct _ _ mp).mono sv fun w z => by rw [zG e]; exact z
theorem RepS.less{l : List Addr}(r : RepS (h++l) o H S): RepS h o H S where
  len := r.len
  nd := r.nd
  dis := fun a ma z => r.dis a ma (mem_append_left _ z)
  hal := fun b mb => r.hal b (mem_append_left _ mb)
  cont := fun k b ds e1 e2 => by
    obtain⟨vs, e3, q⟩ := r.cont k b ds e1 e2;exact⟨vs, e3, HasL.mono (fun c u z => let ⟨z1, z2, z3⟩ := zP.mp z; zP.mpr ⟨fun mm => z1 (mem_append_left _ mm), z2, z3⟩) _ _ q⟩
theorem zez{l : List Addr}: Same (vx (h++l) o H) (vx h o H) := fun c u z => let ⟨z1, z2, z3⟩ := zP.mp z; zP.mpr ⟨fun mm => z1 (mem_append_left _ mm), z2, z3⟩
theorem HasX.less{l : List Addr}: ∀ {x : XV} {v : V}, HasX (h++l) o H x v -> HasX h o H x v
  | .d d, v, q => Has.mono zez d v q
  | .l k, v, q => q
  | .o w, v, q => q
  | .x C fs, v, q => HasE.mono zez q
end
end
section
structure DEndsM where
  nx : XE -> Sto -> DM -> Prop
  rt : XV -> Sto -> DM -> Prop
  bk : XE -> Sto -> DM -> Prop := fun _ _ _ => False
  ct : XE -> Sto -> DM -> Prop := fun _ _ _ => False
abbrev DSm := DEndsM -> XE -> Sto -> DM -> Prop
def Fr(H : Hp)(M : DM): Prop := ∀ a∈ad M, H a=none
def NxM(h o : List Addr)(H : Hp)(A : List Addr)(N : XE -> Sto -> DM -> Prop)(Y : St -> Hp -> Prop): Prop := ∀ o' H' δ' S' M' σ', Ex o H o' H' -> ad M'=A -> RepE (h++ad M') o' H' δ' σ' -> RepS (h++ad M') o' H' S' -> RepM h o' H' M' -> N δ' S' M' -> Y σ' H'
structure EOkM(h o : List Addr)(H : Hp)(A : List Addr)(E : DEndsM)(D : Ends): Prop where
  nx : NxM h o H A E.nx D.nx
  rt : ∀ o' H' S' M' x v, Ex o H o' H' -> ad M'=A -> RepS (h++ad M') o' H' S' -> RepM h o' H' M' -> HasX (h++ad M') o' H' x v -> E.rt x S' M' -> D.rt v H'
  bk : NxM h o H A E.bk D.bk
  ct : NxM h o H A E.ct D.ct
def RSm(E : XK)(EX : EXD)(t : TS)(dt : DSm): Prop := ∀ (h o0 : List Addr) (H0 : Hp) (o : List Addr) (H : Hp) (δ : XE) (σ : St) (S : Sto) (M : DM) (En : DEndsM) (D : Ends), Ex o0 H0 o H -> Fr H0 M -> RepE (h++ad M) o H δ σ -> RepS (h++ad M) o H S -> RepM h o H M -> dt En δ S M ->
  EOkM h o0 H0 (ad M) En D -> CnX h o0 H0 EX E -> t D σ H
theorem CnX.inn{E : XK}{EX : EXD}{h o0 o l : List Addr}{H0 H : Hp}(x : CnX h o0 H0 EX E)(e0 : Ex o0 H0 o H): CnX (h++l) o H EX E := fun o' H' S' C a fs e s' hE q => x o' H' S' C a fs (e0.trans e) s'.less (HasE.mono zez hE) q
def zgT(dt : DS): DSm := fun En δ S M => dt { nx := fun δ' S' => En.nx δ' S' M, rt := fun x S' => En.rt x S' M, bk := fun δ' S' => En.bk δ' S' M, ct := fun δ' S' => En.ct δ' S' M } δ S
def zko(t u : DSm): DSm := fun En δ S M => t { En with nx := u En } δ S M
def zrx(c : DM -> DT)(t u : DSm): DSm := fun En δ S M => c M δ S fun b S1 => if b=true then t En δ S1 M else u En δ S1 M
def zlR(e : DM -> DE)(g : DG): DSm := fun En δ S M => e M δ S fun x S1 => g x δ S1 fun δ' S' => En.nx δ' S' M
def zdT(g : DG)(b : DSm): List PyData -> DSm
  | [], E, δ, S, M => E.nx δ S M
  | d :: ds, E, δ, S, M => g (.d d) δ S fun δ1 S1 => b { nx := fun δ2 S2 M2 => zdT g b ds E δ2 S2 M2, ct := fun δ2 S2 M2 => zdT g b ds E δ2 S2 M2, bk := E.nx, rt := E.rt } δ1 S1 M
def zlF(i : DM -> DI)(g : DG)(b : DSm): DSm := fun En δ S M => i M δ S fun ds S1 => zdT g b ds En δ S1 M
def PhM(M : DM): Phi := fun h' o H => ∃ h, h'=h++ad M /\ RepM h o H M
instance {M : DM} : Stb (PhM M) := ⟨fun⟨h, e, r⟩ x => ⟨h, e, r.mono x⟩⟩
section
variable {E : XK} {EX : EXD} {t u : TS} {dt du : DSm}
theorem zl9{ds : DS}(ht : RSx E EX t ds): RSm E EX t (zgT ds) := fun h o0 H0 o H δ σ S M En D e0 fr he hs rm q c x =>
  ht (h++ad M) o H δ σ S _ D he hs q ⟨fun o' H' δ' S' σ' e he' hs' n => c.nx o' H' δ' S' M σ' (e0.trans e) rfl he' hs' (rm.mono e) n, fun o' H' S' y v e hs' hy n => c.rt o' H' S' M y v (e0.trans e) rfl hs' (rm.mono e) hy n,
    fun o' H' δ' S' σ' e he' hs' n => c.bk o' H' δ' S' M σ' (e0.trans e) rfl he' hs' (rm.mono e) n, fun o' H' δ' S' σ' e he' hs' n => c.ct o' H' δ' S' M σ' (e0.trans e) rfl he' hs' (rm.mono e) n⟩ (x.inn e0)
theorem zoi{ds : DS}(ht : RS t ds): RSm E EX t (zgT ds) := zl9 (zno ht)
theorem zm5(ht : RSm E EX t dt)(hu : RSm E EX u du): RSm E EX (ziv t u) (zko dt du) := fun h o0 H0 o H δ σ S M En D e0 fr he hs rm q c x =>
  ht h o0 H0 o H δ σ S M _ _ e0 fr he hs rm q ⟨fun o1 H1 δ1 S1 M1 σ1 e1 ea he1 hs1 rm1 q1 => hu h o0 H0 o1 H1 δ1 σ1 S1 M1 En D e1 (by unfold Fr; rw [ea]; exact fr) he1 hs1 rm1 q1 (by rw [ea]; exact c) x, c.rt, c.bk, c.ct⟩ x
theorem zmk{te : TE}{de : DM -> DE}{g : TG}{dg : DG}(ha : ∀ M, REp (PhM M) te (de M))(hg : RG g dg): RSm E EX (zom te g) (zlR de dg) := fun h o0 H0 o H δ σ S M En D e0 fr he hs rm q c x =>
  ha M (h++ad M) o H δ σ S _ _ he hs q (fun o1 H1 S1 y v e1 s1 x1 d1 => hg (h++ad M) o1 H1 δ σ S1 y v _ _ (he.mono e1) s1 x1 d1 fun o2 H2 δ2 S2 σ2 e2 he2 hs2 n2 => c.nx o2 H2 δ2 S2 M σ2 (e0.trans (e1.trans e2)) rfl he2 hs2 (rm.mono (e1.trans e2)) n2) ⟨h, rfl, rm⟩
theorem zpw{wi : TI}{g : TG}{tb : TS}{di : DM -> DI}{dg : DG}{db : DSm}(hi : ∀ M, RIp (PhM M) wi (di M))(hg : RG g dg)(hb : RSm E EX tb db): RSm E EX (zor wi g tb) (zlF di dg db) := fun h o0 H0 o H δ σ S M En D e0 fr he hs rm q c x =>
  hi M (h++ad M) o H δ σ S _ _ he hs q (fun o1 H1 S1 ds J e1 s1 wk d1 => by
    refine⟨fun i m σ2 H2 => m=ds.length - i /\ i<=ds.length /\ ∃ o2 δ2 S2 M2, Ex o0 H0 o2 H2 /\ ExH (h++ad M) o1 H1 o2 H2 /\ ad M2=ad M /\ RepE (h++ad M) o2 H2 δ2 σ2 /\ RepS (h++ad M) o2 H2 S2 /\ RepM h o2 H2 M2 /\ zdT dg db (ds.drop i) En δ2 S2 M2,
      ⟨ds.length, by simp, zero_le _, o1, δ, S1, M, e0.trans e1, ExH.refl, rfl, he.mono e1, s1, rm.mono e1, d1⟩, ?_⟩
    rintro i m σ2 H2 ⟨rfl, hi, o2, δ2, S2, M2, e2, x2, ea, he2, hs2, rm2, d2⟩;by_cases hlt : i<ds.length
    · have ed : ds[i]? = some ds[i] := getElem?_eq_getElem hlt
      rw [drop_eq_getElem_cons hlt] at d2;refine .inr ⟨wk.go i _ o2 H2 x2 ed, fun σ3 H3 => ∃ o3 δ3 S3 M3, Ex o0 H0 o3 H3 /\ ExH (h++ad M) o1 H1 o3 H3 /\ ad M3=ad M /\ RepE (h++ad M) o3 H3 δ3 σ3 /\ RepS (h++ad M) o3 H3 S3 /\ RepM h o3 H3 M3 /\ zdT dg db (ds.drop (i+1)) En δ3 S3 M3, fun σ3 H3 n => ⟨ds.length - (i+1), by omega, rfl, hlt, n⟩, fun y H3 yy => ?_⟩;obtain⟨s3, hx⟩ := wk.yld i _ o2 H2 y H3 S2 x2 hs2 ed yy;have e23 : Ex o2 H2 o2 H3 := Ex.of_same s3;refine hg (h++ad M) o2 H3 δ2 σ2 S2 (.d ds[i]) y _ _ (he2.mono e23) (hs2.same s3) hx d2 fun o4 H4 δ4 S4 σ4 e4 he4 hs4 d4 => ?_;have e24 : Ex o2 H2 o4 H4 := e23.trans e4;have nM : ∀ b u, H0 b=some u -> b∉ad M := fun b u z mb => by
        rw [fr b mb] at z;cases z
      have e04 : Ex o0 H0 o4 (fun b => if b∈ad M then none else H4 b) := ⟨(e2.trans e24).pre, fun b u nb z => by
        obtain⟨z1, z2⟩ := (e2.trans e24).kp b u nb z;exact⟨z1, by show (if b∈ad M then none else H4 b)=some u; rw [if_neg (nM b u z)]; exact z2⟩⟩
      have exh : ∀ {o5 H5}, Ex o4 (fun b => if b∈ad M then none else H4 b) o5 H5 -> ExH (h++ad M) o4 H4 o5 H5 := fun e5 => ⟨e5.pre, fun b u n1 n2 z => e5.kp b u n2 (by show (if b∈ad M then none else H4 b)=some u; rw [if_neg (fun mb => n1 (mem_append_right _ mb))]; exact z)⟩;have again : ∀ o5 H5 δ5 S5 M5 σ5, Ex o4 (fun b => if b∈ad M then none else H4 b) o5 H5 -> ad M5=ad M2 -> RepE (h++ad M5) o5 H5 δ5 σ5 -> RepS (h++ad M5) o5 H5 S5 -> RepM h o5 H5 M5 -> zdT dg db (ds.drop (i+1)) En δ5 S5 M5 ->
          ∃ o3 δ3 S3 M3, Ex o0 H0 o3 H5 /\ ExH (h++ad M) o1 H1 o3 H5 /\ ad M3=ad M /\ RepE (h++ad M) o3 H5 δ3 σ5 /\ RepS (h++ad M) o3 H5 S3 /\ RepM h o3 H5 M3 /\ zdT dg db (ds.drop (i+1)) En δ3 S3 M3 := fun o5 H5 δ5 S5 M5 σ5 e5 a5 he5 hs5 rm5 d5 =>
        ⟨o5, δ5, S5, M5, e04.trans e5, (x2.trans e24.hid).trans (exh e5), a5.trans ea, by rw [<- ea, <- a5]; exact he5, by rw [<- ea, <- a5]; exact hs5, rm5, d5⟩
      refine hb h o4 (fun b => if b∈ad M then none else H4 b) o4 H4 δ4 σ4 S4 M2 _ _ ⟨⟨[], by simp⟩, fun b u nb eb => ?_⟩ (fun a ma => by show (if a∈ad M then none else H4 a)=none; rw [if_pos (by rw [<- ea]; exact ma)]) (by rw [ea]; exact he4) (by rw [ea]; exact hs4) (rm2.mono e24) d4
        ⟨again, fun o5 H5 S5 M5 y5 v5 e5 a5 hs5 rm5 hx5 q5 => c.rt o5 H5 S5 M5 y5 v5 (e04.trans e5) (a5.trans ea) hs5 rm5 hx5 q5, fun o5 H5 δ5 S5 M5 σ5 e5 a5 he5 hs5 rm5 q5 => c.nx o5 H5 δ5 S5 M5 σ5 (e04.trans e5) (a5.trans ea) he5 hs5 rm5 q5, again⟩ (x.pre e04)
      refine⟨nb, ?_⟩;by_cases mb : b∈ad M
      · simp [mb] at eb
      · simpa [mb] using eb
    · have ei : i=ds.length := by omega
      subst ei;rw [drop_length] at d2;exact .inl ⟨wk.stop _ o2 H2 x2 (le_refl _), c.nx o2 H2 δ2 S2 M2 σ2 e2 ea (by rw [ea]; exact he2) (by rw [ea]; exact hs2) rm2 d2⟩) ⟨h, rfl, rm⟩
end
end
section
section
variable {h h' o : List Addr} {H H' : Hp}
theorem HasX.to(s : Same (vx h o H) (vx h' o H')): ∀ {x : XV} {v : V}, HasX h o H x v -> HasX h' o H' x v
  | .d d, v, q => Has.mono s d v q
  | .l k, v, q => q
  | .o w, v, q => q
  | .x C fs, v, q => HasE.mono s q
theorem RepE.to{δ : XE}{σ : St}(s : Same (vx h o H) (vx h' o H'))(r : RepE h o H δ σ): RepE h' o H' δ σ := ⟨r.len, fun i x e => let ⟨v, e1, e2⟩ := r.get i x e; ⟨v, e1, e2.to s⟩⟩
end
def zpU(a : Addr)(m : List (Key×PyData)): XV -> XV
  | .o (.ref b) => if b=a then .d (.dict (DD.pairs (.k m))) else .o (.ref b)
  | x => x
theorem zpn{h h' o : List Addr}{H H' : Hp}{a : Addr}{m : List (Key×PyData)}{m' : List (Key×V)}{ob : Obj}(s : Same (vx h o H) (vx h' o H'))(e : vx h' o H' a=some (.frz ob (.dK m')))(l : HasM (vx h o H) m m'): ∀ {x : XV} {v : V}, HasX h o H x v -> HasX h' o H' (zpU a m x) v
  | .d d, v, z => Has.mono s d v z
  | .l k, v, z => z
  | .x C fs, v, z => HasE.mono s z
  | .o w, v, z => by
    cases w with
    | ref b =>
      unfold zpU;dsimp only;split
      · rename_i eb
        subst eb;rw [show v=.ref b from z];exact zoJ.mpr ⟨b, ob, m', rfl, e, l.mono s⟩
      · exact z
    | _ => exact z
theorem zlj{h h' o : List Addr}{H H' : Hp}{a : Addr}{m : List (Key×PyData)}{m' : List (Key×V)}{ob : Obj}{δ : XE}{σ : St}(s : Same (vx h o H) (vx h' o H'))(e : vx h' o H' a=some (.frz ob (.dK m')))(l : HasM (vx h o H) m m')(r : RepE h o H δ σ): RepE h' o H' (δ.map (Option.map (zpU a m))) σ := by
  refine⟨by rw [length_map]; exact r.len, fun i x ex => ?_⟩;rw [getElem?_map] at ex;cases hd : δ[i]? with
  | none => rw [hd] at ex; cases ex
  | some y =>
    rw [hd] at ex;cases y with
    | none => cases ex
    | some y =>
      cases ex;obtain⟨v, e1, e2⟩ := r.get i y hd;exact⟨v, e1, zpn s e l e2⟩
theorem zad{M : DM}{a : Addr}{D : DD}: ad (M++[(a, D)])=ad M++[a] := by simp [ad]
theorem RepM.init{h o : List Addr}{H : Hp}{M : DM}{a : Addr}{D : DD}(r : RepM h o H (M++[(a, D)])): RepM h o H M := by
  have nd := r.nd;rw [zad] at nd;refine⟨(nodup_append.mp nd).1, fun b m => r.nh b (by rw [zad]; exact mem_append_left _ m), fun b D2 m => ?_⟩;have z := r.ct b D2 (mem_append_left _ m);rw [zad, <- append_assoc] at z;exact z.mono zez fun _ z => z
def zjt(f : Bool)(i : Nat)(D0 : DD)(b : DSm): DSm := fun En δ S M => ∀ a, a∉ad M -> b { nx := (fun δ' S' M' => if f=true then (∃ M1 m, M'=M1++[(a, .k m)] /\ δ'[i]? = some (some (.o (.ref a))) /\ En.nx (δ'.map (Option.map (zpU a m))) S' M1) else (∃ M1 D, M'=M1++[(a, D)] /\ En.nx δ' S' M1)), rt := (fun x S' M' => ∃ M1 D, M'=M1++[(a, D)] /\ En.rt x S' M1), bk := (fun δ' S' M' => ∃ M1 D, M'=M1++[(a, D)] /\ En.bk δ' S' M1), ct := (fun δ' S' M' => ∃ M1 D, M'=M1++[(a, D)] /\ En.ct δ' S' M1) } (δ.set i (some (.o (.ref a)))) S (M++[(a, D0)])
section
variable {E : XK} {EX : EXD} {tb : TS} {db : DSm} {i : Nat}
theorem zlJ{f : Bool}{p : Addr}{u : MO}{D0 : DD}(hD : ∀ (G H : Hp), H p=some u.ho -> DAt G H p D0)(hb : RSm E EX tb db){h o0 : List Addr}{H0 : Hp}{o : List Addr}{H : Hp}{δ : XE}{σ : St}{S : Sto}{M : DM}{En : DEndsM}{D : Ends}(e0 : Ex o0 H0 o H)(fr : Fr H0 M)(he : RepE (h++ad M) o H δ σ)(hs : RepS (h++ad M) o H S)(rm : RepM h o H M)
    (q : zjt f i D0 db En δ S M) (c : EOkM h o0 H0 (ad M) En D) (x : CnX h o0 H0 EX E) (hp : H p=none) : (if f=true then zrH i tb else tb) D (σ.set i (some (.ref p))) (upd H p u.ho) := by
  have nM : p∉ad M := fun m => by
    obtain⟨D2, _, z⟩ := rm.at m;obtain⟨w, ew⟩ := z.mo;rw [hp] at ew;cases ew
  have f1 := hs.fresh hp;have nh : p∉h := fun m => f1.1 (mem_append_left _ m);have sH : Same H (upd H p u.ho) := Same.laid hp;have e1 : Ex o0 H0 o (upd H p u.ho) := e0.trans (Ex.of_same sH);have H0p : H0 p=none := by
    cases z : H0 p with
    | none => rfl
    | some w =>
      by_cases m : p∈o0
      · obtain⟨r, er⟩ := e0.pre
        exact absurd (show p∈o by rw [er]; exact mem_append_left _ m) f1.2
      · have := (e0.kp p w m z).2
        rw [hp] at this;cases this
  have sv : Same (vx (h++ad M) o H) (vx (h++(ad M++[p])) o (upd H p u.ho)) := fun b w z => by
    obtain⟨z1, z2, z3⟩ := zP.mp z;have ne : b≠p := zO z3 hp;refine zP.mpr ⟨fun m => ?_, z2, by rw [zG ne]; exact z3⟩;rw [<- append_assoc] at m;rcases mem_append.mp m with m | m
    · exact z1 m
    · exact ne (mem_singleton.mp m)
  have sM : RepS (h++ad (M++[(p, D0)])) o (upd H p u.ho) S := by
    rw [zad];refine⟨hs.len, hs.nd, fun a ma z => ?_, fun b mb => ?_, fun k b ds e1 e2 => ?_⟩
    · rw [<- append_assoc] at z
      rcases mem_append.mp z with z | z
      · exact hs.dis a ma z
      · rw [mem_singleton.mp z] at ma
        exact f1.2 ma
    · rw [<- append_assoc] at mb
      rcases mem_append.mp mb with m | m
      · obtain⟨w, ew⟩ := hs.hal b m
        exact⟨w, sH _ _ ew⟩
      · rw [mem_singleton.mp m]
        exact⟨u, zaf⟩
    · obtain⟨vs, e3, l⟩ := hs.cont k b ds e1 e2
      exact⟨vs, sH _ _ e3, HasL.mono sv _ _ l⟩
  have mM : RepM h o (upd H p u.ho) (M++[(p, D0)]) := by
    refine⟨by rw [zad]; exact zbL rm.nd nM, fun a ma => ?_, fun a D2 m => ?_⟩
    · rw [zad] at ma
      rcases mem_append.mp ma with m | m
      · exact rm.nh a m
      · rw [mem_singleton.mp m]
        exact⟨nh, f1.2⟩
    · rw [zad]
      rcases mem_append.mp m with m | m
      · exact(rm.ct a D2 m).mono sv fun w z => sH _ _ z
      · have := mem_singleton.mp m
        cases this;exact hD _ _ zaf
  have hE : RepE (h++ad (M++[(p, D0)])) o (upd H p u.ho) (δ.set i (some (.o (.ref p)))) (σ.set i (some (.ref p))) := by
    rw [zad];exact(he.to sv).set (show HasX _ _ _ (.o (.ref p)) (.ref p) from rfl)
  have fr1 : Fr H0 (M++[(p, D0)]) := fun a ma => by
    rw [zad] at ma;rcases mem_append.mp ma with m | m
    · exact fr a m
    · rw [mem_singleton.mp m]; exact H0p
  have back : ∀ {N : XE -> Sto -> DM -> Prop} {Y : St -> Hp -> Prop}, NxM h o0 H0 (ad M) N Y -> NxM h o0 H0 (ad (M++[(p, D0)])) (fun δ' S' M' => ∃ M1 D, M'=M1++[(p, D)] /\ N δ' S' M1) Y := fun {N Y} nx o' H' δ' S' M' σ' ex ea hE' hS' hM' ⟨M1, D2, eM, n⟩ => by
    subst eM;rw [zad, zad] at ea;rw [zad, <- append_assoc] at hE' hS';exact nx o' H' _ S' M1 σ' ex (List.append_inj_left' ea rfl) (hE'.to zez) hS'.less hM'.init n
  have ret : ∀ o' H' S' M' y v, Ex o0 H0 o' H' -> ad M'=ad (M++[(p, D0)]) -> RepS (h++ad M') o' H' S' -> RepM h o' H' M' -> HasX (h++ad M') o' H' y v -> (∃ M1 D, M'=M1++[(p, D)] /\ En.rt y S' M1) -> D.rt v H' := by
    rintro o' H' S' M' y v ex ea hS' hM' hx' ⟨M1, D2, eM, n⟩;subst eM;rw [zad, zad] at ea;rw [zad, <- append_assoc] at hx' hS';exact c.rt o' H' S' M1 _ v ex (List.append_inj_left' ea rfl) hS'.less hM'.init hx'.less n
  have qq := q p nM;cases f with
  | false =>
    refine hb h o0 H0 o _ _ _ S (M++[(p, D0)]) _ D e1 fr1 hE sM mM qq ⟨?_, ret, back c.bk, back c.ct⟩ x;exact fun o' H' δ' S' M' σ' ex ea hE' hS' hM' n => back c.nx o' H' δ' S' M' σ' ex ea hE' hS' hM' (by simpa using n)
  | true =>
    refine hb h o0 H0 o _ _ _ S (M++[(p, D0)]) _ { D with nx := fun σ' H' => ∃ a m, σ'[i]? = some (some (.ref a)) /\ H' a=some (.dK m) /\ ∀ ob, D.nx σ' (upd H' a (.frz ob (.dK m))) } e1 fr1 hE sM mM qq ⟨?_, ret, back c.bk, back c.ct⟩ x;intro o' H' δ' S' M' σ' ex ea hE' hS' hM' n;obtain⟨M1, m, eM, ei, n2⟩ : ∃ M1 m, M'=M1++[(p, DD.k m)] /\ δ'[i]? = some (some (.o (.ref p))) /\ En.nx (δ'.map (Option.map (zpU p m))) S' M1 := by simpa using n
    subst eM;obtain⟨v, ev, hv⟩ := hE'.get i _ ei;have evp : v=.ref p := hv;subst evp;have nn := hM'.nh p (by rw [zad]; simp);have nd := hM'.nd;rw [zad, zad] at ea;rw [zad] at nd;have pn : p∉ad M1 := fun m => (nodup_append.mp nd).2.2 p m p (by simp) rfl;obtain⟨m', em, l⟩ := hM'.ct p (.k m) (by simp);refine⟨p, m', ev, em, fun ob => ?_⟩;have np : p∉h++ad M1 := fun z => (mem_append.mp z).elim nn.1 pn;have s2 : Same (vx (h++ad (M1++[(p, DD.k m)])) o' H') (vx (h++ad M1) o' (upd H' p (.frz ob (.dK m')))) := fun b w z => by
      obtain⟨z1, z2, z3⟩ := zP.mp z;rw [zad, <- append_assoc] at z1;have ne : b≠p := fun z => z1 (by rw [z]; simp);exact zP.mpr ⟨fun mm => z1 (mem_append_left _ mm), z2, by rw [zG ne]; exact z3⟩
    refine c.nx o' _ _ S' M1 σ' ⟨ex.pre, fun b w nb zb => ?_⟩ (List.append_inj_left' ea rfl) (zlj s2 (zP.mpr ⟨np, nn.2, zaf⟩) l hE') ?_ ?_ n2
    · obtain⟨z1, z3⟩ := ex.kp b w nb zb
      exact⟨z1, by rw [zG (fun z => by rw [z, H0p] at zb; cases zb)]; exact z3⟩
    · refine⟨hS'.len, hS'.nd, fun a ma z => hS'.dis a ma (by rw [zad, <- append_assoc]; exact mem_append_left _ z), fun b mb => ?_, fun k b ds q1 q2 => ?_⟩
      · obtain⟨w, ew⟩ := hS'.hal b (by rw [zad, <- append_assoc]; exact mem_append_left _ mb)
        exact⟨w, by rw [zG (fun z => np (by rw [<- z]; exact mb))]; exact ew⟩
      · obtain⟨vs, q3, l3⟩ := hS'.cont k b ds q1 q2
        exact⟨vs, by rw [zG (fun z => nn.2 (by rw [<- z]; exact mem_of_getElem? q1))]; exact q3, HasL.mono s2 _ _ l3⟩
    · have r1 := hM'.init
      refine⟨r1.nd, r1.nh, fun b D3 mb => ?_⟩;have nb : b≠p := fun z => pn (by rw [<- z]; exact mem_map.mpr ⟨_, mb, rfl⟩);exact(hM'.ct b D3 (mem_append_left _ mb)).mono s2 fun w z => by rw [zG nb]; exact z
def zpi(dt : DSm): DS := fun En δ S => dt { nx := fun δ' S' _ => En.nx δ' S', rt := fun x S' _ => En.rt x S', bk := fun δ' S' _ => En.bk δ' S', ct := fun δ' S' _ => En.ct δ' S' } δ S []
theorem zny{t : TS}{dt : DSm}(ht : RSm E EX t dt): RSx E EX t (zpi dt) := fun h o H δ σ S En D he hs q c x => by
  have z : h++ad []=h := append_nil _;have nx : ∀ {N : XE -> Sto -> Prop} {Y : St -> Hp -> Prop}, Nx h o H N Y -> NxM h o H (ad []) (fun δ' S' _ => N δ' S') Y := fun {N Y} n o' H' δ' S' M' σ' ex ea he' hs' _ q' => by
    rw [ea, z] at he' hs';exact n o' H' δ' S' σ' ex he' hs' q'
  refine ht h o H o H δ σ S [] _ D Ex.refl (fun a m => by cases m) (by rw [z]; exact he) (by rw [z]; exact hs) RepM.nil q ⟨nx c.nx, ?_, nx c.bk, nx c.ct⟩ x;rintro o' H' S' M' y v ex ea hs' _ hx' q';rw [ea, z] at hs' hx';exact c.rt o' H' S' y v ex hs' hx' q'
theorem zok{t : TS}{dt : DSm}(ht : RSm E0 (fun _ _ => False) t dt): RS t (zpi dt) := fun h o H δ σ S En D he hs q c => zny ht h o H δ σ S En D he hs q c fun _ _ _ _ _ _ _ _ _ z => z.elim
end
end
section
theorem zn2{t t' : TS}{d : DS}(h : RS t d)(e : t'=t := by rfl): RS t' d := e▸h
end
end L2
namespace L2
open PySem PySem.Spec PySem.Calls PyProof.Rows
theorem ze4: entryFor table "dict_itemiterator.__iter__" = some Builtin.«dict_keyiterator.__iter__» :=
  entryFor_alias (id' := "dict_keyiterator.__iter__") (by kernel_rfl) rfl (by decide +kernel) (by kernel_rfl)
theorem zeC{prog : Program}{w : World}{A : Around}{E : Value -> Shared -> Prop}{s : Shared}{it d : Addr}{i n ep : Nat}{ok ov : Value}{Q : Value -> Shared -> Prop}(hit : IsItemIter s.heap it d i n ep ok ov)(h : Q (.ref it) s): wpAny (model prog w) A (pyIter (.ref it)) Q E s := by
  have hT : s.TypeIs (.ref it) "dict_itemiterator" := ⟨_, hit, rfl⟩;refine wpAny_pyIter_slot hT F.slot_dict_itemiterator_iter (wpAny_call_entry F.slot_dict_itemiterator_iter hT ze4 ?_ (F.args_dict_itemiterator_iter_1 _));show wpAny _ _ (ret (.ref it)) _ _ s;exact wpAny_pure ⟨_, rfl, "dict_itemiterator", _, hT, F.slot_dict_itemiterator_next.lookup, h⟩
def DD.itemsD(m : List (Key×PyData)): List PyData := m.map fun p => .tuple [kD p.1, p.2]
def zla(e : DE): DI := fun δ S R => e δ S fun x S1 => ∃ m, x=.d (.dict (DD.pairs (.k m))) /\ R (DD.itemsD m) S1
end L2
namespace L2
open PySem PySem.Spec PyProof.Rows
section
section
variable {E : XK} {EX : EXD} {a b c d e f u : TS} {dt du : DS} {i : Nat}
theorem zof(h : RS (ziv a (ziv b c)) dt)(hu : RS u du): RS (ziv a (ziv b (ziv c u))) (zaa dt du) := zn2 (zK h hu)
end
end
end L2
namespace HT
open PySem PyProof.Rows
end HT
namespace L2
open PySem PySem.Spec PyProof.Rows
end L2
namespace L2
open PySem PySem.Spec PySem.Calls PyProof.Rows
end L2
namespace HT
open PySem PyProof.Rows
end HT
namespace L2
open PySem PySem.Spec PySem.Calls PyProof.Rows
end L2
namespace HT
open PySem PyProof.Rows
end HT
namespace L2
open PySem PySem.Spec PySem.Calls PyProof.Rows
end L2
namespace L2
open PySem PySem.Spec PyProof.Rows
end L2
namespace L2
open PySem PyProof.Rows
section
variable {prog : Program} {w : World} {A : Around} {E : Value -> Shared -> Prop} {s : Shared} {kd : SortKind} {D : Keyed -> Prop} {lt : Keyed -> Keyed -> Bool}
def flt(lt : Keyed -> Keyed -> Bool): Keyed -> Keyed -> Bool := fun x y => lt y x
def G(xs : Array Keyed)(i : Nat): Keyed := (xs[i]?).getD (.none, .none)
end
end L2
namespace L2
open PySem PySem.Spec PySem.Calls PyProof.Rows PySem.W
def zm8: List XV -> Sto -> RX -> Prop := fun xs S R => arg1 xs fun x => ∃ m : List (Key×PyData), x=.d (.dict (DD.pairs (.k m))) /\ ∃ ns : List Int, m.map (·.1)=ns.map Sum.inl /\ ns.length<=10000000 /\ ∀ ms : List Int, ms.Perm ns -> ms.Pairwise (· <= ·) -> R (.d (.list (ms.map PyData.int))) S
end L2
namespace L2
open PySem PySem.Spec PyProof.Rows
end L2
namespace L2
open PySem PySem.Spec PySem.Calls PyProof.Rows
end L2
namespace L2
open PySem PySem.Spec PySem.Calls PyProof.Rows
def zoR(j : Nat)(dk dv : DM -> DE): DSm := fun En δ S M => zj j δ S fun y S1 => ∃ a m, y=.o (.ref a) /\ (a, DD.k m)∈M /\ dk M δ S1 fun z S2 => dv M δ S2 fun x S3 => asD z fun k => asD x fun d => ∃ kk, zry k=some kk /\ m.length<1000 /\ if (lkA m kk).isSome=true then En.nx δ S3 M else En.nx δ S3 (znY M a (.k (ptA m kk d)))
def zmO(k : Int)(e : DE): DE := fun δ S R => e δ S fun x S1 => asD x fun d => R (.d (.dict [(.int k, d)])) S1
end L2
namespace L2
open PySem PySem.Spec PySem.Calls PyProof.Rows
end L2
namespace L2
open PySem PySem.Spec PyProof.Rows
end L2
namespace L2
theorem len0{α : Type}{l : List α}(h : l.length=0): l=[] := eq_nil_of_length_eq_zero h
theorem len1{α : Type}{l : List α}(h : l.length=1): ∃ a0, l=[a0] := by
  cases l with
  | nil => cases h
  | cons x r =>
    obtain rfl := len0 (Nat.succ.inj h);exact⟨x, rfl⟩
theorem len2{α : Type}{l : List α}(h : l.length=2): ∃ a0 a1, l=[a0, a1] := by
  cases l with
  | nil => cases h
  | cons x r =>
    obtain⟨a1, rfl⟩ := len1 (Nat.succ.inj h);exact⟨x, a1, rfl⟩
theorem len3{α : Type}{l : List α}(h : l.length=3): ∃ a0 a1 a2, l=[a0, a1, a2] := by
  cases l with
  | nil => cases h
  | cons x r =>
    obtain⟨a1, a2, rfl⟩ := len2 (Nat.succ.inj h);exact⟨x, a1, a2, rfl⟩
theorem len4{α : Type}{l : List α}(h : l.length=4): ∃ a0 a1 a2 a3, l=[a0, a1, a2, a3] := by
  cases l with
  | nil => cases h
  | cons x r =>
    obtain⟨a1, a2, a3, rfl⟩ := len3 (Nat.succ.inj h);exact⟨x, a1, a2, a3, rfl⟩
end L2
namespace L2
open PySem PySem.Spec PyProof.Rows
end L2
namespace L2
open PySem PySem.Spec PySem.Calls PyProof.Rows
open Sem (wp)
def zoC(a : DA): DE := fun δ S R => a δ S fun xs S1 => arg2 xs fun x y => ∃ ds, zjj x=some ds /\ ∃ es, zjj y=some es /\ min ds.length es.length<=1000 /\ R (.d (.list (zfz ds es))) S1
end L2
namespace L2
open PySem PySem.Spec PyProof.Rows
end L2
namespace L2
open PySem PySem.Spec PySem.Calls PyProof.Rows
open Sem (wp)
end L2
namespace L2
open PySem PySem.Spec PySem.Calls PyProof.Rows
open Sem (wp)
end L2
namespace L2
open PySem PySem.Spec PySem.Calls PyProof.Rows
open Sem (wp)
end L2
namespace L2
open PySem PySem.Spec PySem.Calls PyProof.Rows
open Sem (wp)
end L2
namespace L2
open PySem PySem.Spec PySem.Calls PyProof.Rows
end L2
namespace L2
open PySem PySem.Spec PySem.Calls PyProof.Rows
end L2
namespace L2
open PySem PySem.Spec PySem.Calls PyProof.Rows
open Sem (wp)
end L2
namespace L2
open PySem PySem.Spec PySem.Calls PyProof.Rows
end L2
namespace HT
open PySem PyProof.Rows
end HT
namespace L2
open PySem PySem.Spec PyProof.Rows
section
theorem lo{sc : Scope}{x : Str}(h : sc.names.lookup x=some .local := by rfl): Loc sc x := Or.inl h
theorem fsd{N P : List Str}{sc : Scope}(h : zqG N P sc=true := by decide +kernel): FnScope N P sc := fsc h
end
end L2
namespace L2
open PySem PySem.Spec PySem.Calls PyProof.Rows
end L2
namespace L2
open PySem PySem.Spec PyProof.Rows
end L2
namespace L2
open PySem PySem.Spec PySem.Calls PyProof.Rows
inductive AllK {α : Type} (F : α -> Value -> Prop) : List α -> List Value -> Prop
  | nil : AllK F [] []
  | cons {k v ks vs} : F k v -> AllK F ks vs -> AllK F (k :: ks) (v :: vs)
def KAt(h : Heap): (s : KSg) -> KG s -> Value -> Prop
  | .int, i, v => Value.isInt i v=true
  | .bool, b, v => v=.bool b
  | .many s, ks, v => ∃ a vs, v=.ref a /\ h.IsTuple a vs /\ AllK (KAt h s) ks vs.toList
  | .two s t, k, v => ∃ a u w, v=.ref a /\ h.IsTuple a #[u, w] /\ KAt h s k.1 u /\ KAt h t k.2 w
def kdraw: (s : KSg) -> KG s -> Nat
  | .int, _ => 1
  | .bool, _ => 1
  | .many s, ks => (ks.map (kdraw s)).sum+1
  | .two s t, k => kdraw s k.1+kdraw t k.2+1
def KSg.dp: KSg -> Nat
  | .int => 0
  | .bool => 0
  | .many s => s.dp+1
  | .two s t => max s.dp t.dp+1
theorem AllK.inj{α : Type}{F : α -> Value -> Prop}(hi : ∀ a b v, F a v -> F b v -> a=b): ∀ {xs ys : List α} {vs : List Value}, AllK F xs vs -> AllK F ys vs -> xs=ys
  | _, _, _, .nil, .nil => rfl
  | _, _, _, .cons a l, .cons b m => by rw [hi _ _ _ a b, AllK.inj hi l m]
theorem zcU{h : Heap}{a : Addr}{vs us : Array Value}(x : h.IsTuple a vs)(y : h.IsTuple a us): vs=us := by
  obtain⟨o, e, c, n, d⟩ := x;obtain⟨o', e', c', n', d'⟩ := y;rw [e] at e';cases e';rw [d] at d';injection d'
theorem KAt.inj{h : Heap}: ∀ (s : KSg) {x y : KG s} {v : Value}, KAt h s x v -> KAt h s y v -> x=y
  | .int, x, y, v, a, b => Value.isInt_inj v x y a b
  | .bool, x, y, v, a, b => by
    have := (show v=.bool x from a).symm.trans (show v=.bool y from b);injection this
  | .many s, x, y, v, ⟨a, vs, e, t, l⟩, ⟨a', vs', e', t', l'⟩ => by
    subst e;injection e' with e'
    subst e';rw [zcU t' t] at l';exact AllK.inj (F := KAt h s) (fun _ _ _ p q => KAt.inj s p q) l l'
  | .two s t, x, y, v, ⟨a, u, w, e, tt, l, m⟩, ⟨a', u', w', e', tt', l', m'⟩ => by
    subst e;injection e' with e'
    subst e';have z := zcU tt' tt;have z1 : u'=u := by have := congrArg (fun q => q[0]?) z; simpa using this
    have z2 : w'=w := by have := congrArg (fun q => q[1]?) z; simpa using this
    subst z1 z2;exact Prod.ext (KAt.inj s l l') (KAt.inj t m m')
theorem AllK.imp{α : Type}{F G : α -> Value -> Prop}(hi : ∀ a v, F a v -> G a v): ∀ {xs : List α} {vs : List Value}, AllK F xs vs -> AllK G xs vs
  | _, _, .nil => .nil
  | _, _, .cons a l => .cons (hi _ _ a) (l.imp hi)
theorem zdR{h h' : Heap}{a d : Addr}{vs : Array Value}{o : Obj}{es ep}(x : h.IsTuple a vs)(ho : h.get? d=some o)(hd : o.data=.dict es ep)(hs : Heap.SameBut d h h'): h'.IsTuple a vs := by
  obtain⟨o', e, c, n, q⟩ := x;have hne : a≠d := by
    rintro rfl;rw [ho] at e;cases e;rw [hd] at q;cases q
  exact⟨o', (hs.2 a hne).trans e, c, n, q⟩
theorem KAt.keeps{h h' : Heap}{d : Addr}{o : Obj}{es ep}(ho : h.get? d=some o)(hd : o.data=.dict es ep)(hs : Heap.SameBut d h h'): ∀ (s : KSg) {k : KG s} {v : Value}, KAt h s k v -> KAt h' s k v
  | .int, _, _, x => x
  | .bool, _, _, x => x
  | .many s, _, _, ⟨a, vs, e, t, l⟩ => ⟨a, vs, e, zdR t ho hd hs, l.imp fun _ _ q => KAt.keeps ho hd hs s q⟩
  | .two s t, _, _, ⟨a, u, w, e, tt, l, m⟩ => ⟨a, u, w, e, zdR tt ho hd hs, KAt.keeps ho hd hs s l, KAt.keeps ho hd hs t m⟩
section
variable {prog : Program} {w : World} {A : Around} {E : Value -> Shared -> Prop} {s : Shared}
theorem zjM{b : Bool}{Q : Int -> Shared -> Prop}(h : Q (reduceHash (match b with | true => 1 | false => 0)) { s with toks := s.toks+1 }): wpAny (model prog w) A (pyHash (.bool b)) Q E s := by
  refine W.pyHash_slot (T := "bool") rfl F.slot_bool_hash PySem.entry_int_hash (PySem.args_int_hash _) (beq_builtin_none _) (.inl rfl) ?_;cases b
  · exact(show wpAny _ _ (do ret (<- mkInt 0)) _ _ s from wpAny_bind (wpAny_mkInt (wpAny_pure ⟨_, _, rfl, h⟩)))
  · exact(show wpAny _ _ (do ret (<- mkInt 1)) _ _ s from wpAny_bind (wpAny_mkInt (wpAny_pure ⟨_, _, rfl, h⟩)))
theorem zia{a : Addr}{vs : Array Value}{Q : Int -> Shared -> Prop}(ht : s.heap.IsTuple a vs)(hu : A.units<cLine)(L : List (Value×Int×Nat))(hv : vs.toList=L.map (·.1))
    (hp : ∀ x∈L, ∀ (E' : Value -> Shared -> Prop) (s' : Shared) (Q' : Int -> Shared -> Prop), s'.heap=s.heap -> Q' x.2.1 { s' with toks := s'.toks+x.2.2 } -> wpAny (model prog w) A.in1 (pyHash x.1) Q' E' s')
    (h : Q (reduceHash (Builtin.Tuple.tupleHashOf (L.map (·.2.1)))) { s with toks := s.toks+((L.map (·.2.2)).sum+1) }) : wpAny (model prog w) A (pyHash (.ref a)) Q E s := by
  have hT : s.TypeIs (.ref a) "tuple" := let ⟨o, e, c, _⟩ := ht; ⟨o, e, c⟩;obtain⟨o, ho, hc, n, hd⟩ := ht;refine W.pyHash_slot (T := "tuple") hT F.slot_tuple_hash F.entry_tuple_hash (F.args_tuple_hash_1 _) (beq_builtin_none _) (.inr hu) ?_;show wpAny _ _ (Builtin.Tuple.tupleItemsOf (.ref a) >>= _) _ _ s;refine wpAny_bind (wpAny_tupleItemsOf ho hd ?_);refine wpAny_bind ?_;rw [<- Array.forIn_toList];refine wpAny_forIn_list _
    (fun rest (b : Array Int) s' => ∃ done left, L=done++left /\ rest=left.map (·.1) /\ b.toList=done.map (·.2.1) /\ s' = { s with toks := s.toks+(done.map (·.2.2)).sum })
    _ ?_ ?_ _ _ ⟨[], L, rfl, hv, rfl, rfl⟩
  · rintro x rest b s' ⟨done, left, e, hl, hb, rfl⟩
    cases left with
    | nil => simp at hl
    | cons y left =>
      rw [map_cons, List.cons.injEq] at hl;rw [hl.1];refine wpAny_bind (hp y (by rw [e]; simp) _ _ _ rfl ?_);have fin : ∃ done' left', L=done'++left' /\ rest=left'.map (·.1) /\ (b.push y.2.1).toList=done'.map (·.2.1) /\ ({ s with toks := s.toks+(done.map (·.2.2)).sum+y.2.2 } : Shared) = { s with toks := s.toks+(done'.map (·.2.2)).sum } :=
        ⟨done++[y], left, by rw [e]; simp, hl.2, by simp [hb], by simp [Nat.add_assoc]⟩
      first
        | exact wpAny_pure fin
        | exact wpAny_bind (wpAny_pure (wpAny_pure fin))
  · rintro b s' ⟨done, left, e, hl, hb, rfl⟩
    cases left with
    | cons y left => simp at hl
    | nil =>
      rw [append_nil] at e;subst e;show wpAny _ _ (retInt (Builtin.Tuple.tupleHashOf b.toList)) _ _ _;rw [hb];exact(show wpAny _ _ (do ret (<- mkInt (Builtin.Tuple.tupleHashOf (L.map (·.2.1))))) _ _ _ from wpAny_bind (wpAny_mkInt (wpAny_pure ⟨_, _, rfl, by simpa [Nat.add_assoc] using h⟩)))
theorem zeh: ∀ (g : KSg) {k : KG g} {v : Value} {A : Around} {E : Value -> Shared -> Prop} {s : Shared} {Q : Int -> Shared -> Prop}, A.units+g.dp<cLine -> KAt s.heap g k v -> Q (khash g k) { s with toks := s.toks+kdraw g k } -> wpAny (model prog w) A (pyHash v) Q E s
  | .int, k, v, A, E, s, Q, _, x, h => by
    obtain⟨t, rfl⟩ := Value.isInt_shape x;exact wpAny_pyHash_int h
  | .bool, k, v, A, E, s, Q, _, x, h => by
    rw [show v=.bool k from x];exact zjM h
  | .many g, k, v, A, E, s, Q, hu, ⟨a, vs, e, t, l⟩, h => by
    subst e;have hu' : A.units+(g.dp+1)<cLine := hu;have key : ∀ (ks : List (KG g)) (us : List Value), AllK (KAt s.heap g) ks us -> ∃ L : List (Value×Int×Nat), us=L.map (·.1) /\ L.map (·.2.1)=ks.map (khash g) /\ L.map (·.2.2)=ks.map (kdraw g) /\ ∀ x∈L, ∃ k, KAt s.heap g k x.1 /\ x.2.1=khash g k /\ x.2.2=kdraw g k := by
      intro ks us q;induction q with
      | nil => exact⟨[], rfl, rfl, rfl, by simp⟩
      | @cons k u ks us q1 _ ih =>
        obtain⟨L, h1, h2, h3, h4⟩ := ih;refine⟨(u, khash g k, kdraw g k) :: L, by rw [h1]; rfl, by rw [map_cons, map_cons, h2], by rw [map_cons, map_cons, h3], fun x m => ?_⟩;rcases mem_cons.mp m with rfl | m
        · exact⟨k, q1, rfl, rfl⟩
        · exact h4 x m
    obtain⟨L, h1, h2, h3, h4⟩ := key k vs.toList l;refine zia t (by omega) L h1 (fun x m E' s' Q' eh hq => ?_) (by rw [h2, h3]; exact h);obtain⟨k', q1, q2, q3⟩ := h4 x m;refine zeh g (k := k') (by show A.units+1+g.dp<cLine; omega) (by rw [eh]; exact q1) ?_;rw [<- q2, <- q3];exact hq
  | .two g g', k, v, A, E, s, Q, hu, ⟨a, u, u', e, t, l, m⟩, h => by
    subst e;have hu' : A.units+(max g.dp g'.dp+1)<cLine := hu;refine zia t (by omega) [(u, khash g k.1, kdraw g k.1), (u', khash g' k.2, kdraw g' k.2)] rfl (fun x mx E' s' Q' eh hq => ?_) ?_
    · simp only [mem_cons, not_mem_nil, or_false] at mx
      rcases mx with rfl | rfl
      · exact zeh g (k := k.1) (by show A.units+1+g.dp<cLine; omega) (by rw [eh]; exact l) hq
      · exact zeh g' (k := k.2) (by show A.units+1+g'.dp<cLine; omega) (by rw [eh]; exact m) hq
    · have h' : Q (reduceHash (Builtin.Tuple.tupleHashOf [khash g k.1, khash g' k.2])) { s with toks := s.toks+(kdraw g k.1+kdraw g' k.2+1) } := h
      simpa [Nat.add_assoc] using h'
theorem zrL(a b : Int): (a == b)=decide (a=b) := by by_cases z : a=b <;> simp [z]
theorem zrB(a b : Bool): (a == b)=decide (a=b) := by cases a <;> cases b <;> rfl
theorem AllK.length{α : Type}{F : α -> Value -> Prop}: ∀ {xs : List α} {vs : List Value}, AllK F xs vs -> xs.length=vs.length
  | _, _, .nil => rfl
  | _, _, .cons _ l => by rw [length_cons, length_cons, l.length]
theorem AllK.get{α : Type}{F : α -> Value -> Prop}: ∀ {xs : List α} {vs : List Value} {j : Nat} {v : Value}, AllK F xs vs -> vs[j]? = some v -> ∃ x, xs[j]? = some x /\ F x v
  | _, _, 0, v, .cons a _, e => by simp at e; subst e; exact⟨_, rfl, a⟩
  | _, _, j+1, v, .cons _ l, e => by obtain⟨x, e1, e2⟩ := l.get (j := j) (by simpa using e); exact⟨x, by simpa using e1, e2⟩
theorem znG{α : Type}[DecidableEq α](x y : List α): ((List.range (min x.length y.length)).all (fun j => decide (x[j]? = y[j]?)) && x.length == y.length)=decide (x=y) := by
  by_cases e : x=y
  · subst e; simp
  · rw [decide_eq_false e, Bool.and_eq_false_iff]
    by_cases hl : x.length=y.length
    · left
      rw [<- Bool.not_eq_true, all_eq_true];intro h;refine e (List.ext_getElem? fun j => ?_);rcases Nat.lt_or_ge j x.length with hj | hj
      · exact of_decide_eq_true (h j (mem_range.mpr (by omega)))
      · rw [List.getElem?_eq_none hj, List.getElem?_eq_none (by omega)]
    · right
      exact beq_eq_false_iff_ne.mpr hl
theorem zn5{α : Type}[DecidableEq α]{F : α -> Value -> Prop}{A : Around}{s : Shared}{a a' : Addr}{x y : List α}{vs vs' : Array Value}(l : AllK F x vs.toList)(l' : AllK F y vs'.toList)(t : s.heap.IsTuple a vs)(t' : s.heap.IsTuple a' vs')(hu : A.units<cLine)(ha : a≠a')
    (he : ∀ k k' u v, F k u -> F k' v -> PySem.SeqAt.EqAt A.in1 s u v (decide (k=k'))) : PySem.SeqAt.EqAt A s (.ref a) (.ref a') (decide (x=y)) := by
  have c := PySem.SeqAt.RcAt.tuples (A := A) (e := fun j => decide (x[j]? = y[j]?)) t t' hu (fun j h1 h2 => by
    obtain⟨k, e1, k1⟩ := l.get (j := j) (v := vs[j]) (by simp [h1]);obtain⟨k', e2, k2⟩ := l'.get (j := j) (v := vs'[j]) (by simp [h2]);have z : decide (x[j]? = y[j]?)=decide (k=k') := by
      rw [e1, e2];by_cases q : k=k' <;> simp [q]
    show PySem.SeqAt.EqAt A.in1 s vs[j] vs'[j] (decide (x[j]? = y[j]?));rw [z];exact he _ _ _ _ k1 k2)
  have n1 : x.length=vs.size := by rw [l.length, length_toList]
  have n2 : y.length=vs'.size := by rw [l'.length, length_toList]
  rw [<- n1, <- n2, znG] at c;exact PySem.SeqAt.EqAt.of_refs ha c
theorem zje{e : Nat -> Bool}: (List.range 2).all e=(e 0 && e 1) := by
  rw [show List.range 2=[0, 1] from rfl];simp
theorem zir: ∀ (g : KSg) {x y : KG g} {u v : Value} {A : Around} {s : Shared}, A.units+g.dp<cLine -> KAt s.heap g x u -> KAt s.heap g y v -> PySem.SeqAt.EqAt A s u v (decide (x=y))
  | .int, x, y, u, v, A, s, _, p, q => by
    obtain⟨t, rfl⟩ := Value.isInt_shape p;obtain⟨t', rfl⟩ := Value.isInt_shape q;exact fun prog w E Q h => wpAny_eqBool_int (by
      have z : ((show Int from x) == (show Int from y))=decide (x=y) := zrL x y;rw [z];exact h)
  | .bool, x, y, u, v, A, s, _, p, q => by
    rw [show u=.bool x from p, show v=.bool y from q];have z : ((show Bool from x) == (show Bool from y))=decide (x=y) := zrB x y;rw [<- z];exact PySem.SeqAt.EqAt.bool_bool _ _
  | .many g, x, y, u, v, A, s, hu, ⟨a, vs, e, t, l⟩, ⟨a', vs', e', t', l'⟩ => by
    subst e e';have hu' : A.units+(g.dp+1)<cLine := hu;by_cases ha : a=a'
    · subst ha
      rw [zcU t' t] at l';rw [decide_eq_true (show x=y from AllK.inj (F := KAt s.heap g) (fun _ _ _ p q => KAt.inj g p q) l l')];exact PySem.SeqAt.EqAt.same _
    · exact zn5 (F := KAt s.heap g) l l' t t' (by omega) ha fun k k' u v p q => zir g (by show A.units+1+g.dp<cLine; omega) p q
  | .two g g', x, y, u, v, A, s, hu, ⟨a, p, q, e, t, l, m⟩, ⟨a', p', q', e', t', l', m'⟩ => by
    subst e e';have hu' : A.units+(max g.dp g'.dp+1)<cLine := hu;by_cases ha : a=a'
    · subst ha
      rw [decide_eq_true (show x=y from KAt.inj (.two g g') (v := .ref a) ⟨a, p, q, rfl, t, l, m⟩ ⟨a, p', q', rfl, t', l', m'⟩)];exact PySem.SeqAt.EqAt.same _
    · have c := PySem.SeqAt.RcAt.tuples (A := A) (e := fun j => if j=0 then decide (x.1=y.1) else decide (x.2=y.2)) t t' (by omega) (fun j h1 h2 => by
        have : j=0 \/ j=1 := by have : j<2 := h1; omega
        rcases this with rfl | rfl
        · exact zir g (by show A.units+1+g.dp<cLine; omega) l l'
        · exact zir g' (by show A.units+1+g'.dp<cLine; omega) m m')
      have e : decide (x=y)=((List.range (min (#[p, q] : Array Value).size (#[p', q'] : Array Value).size)).all (fun j => if j=0 then decide (x.1=y.1) else decide (x.2=y.2)) && (#[p, q] : Array Value).size == (#[p', q'] : Array Value).size) := by
        show _=((List.range 2).all _ && true);rw [zje, Bool.and_true];obtain⟨x1, x2⟩ := x;obtain⟨y1, y2⟩ := y;show decide ((x1, x2)=(y1, y2))=(decide (x1=y1) && decide (x2=y2));by_cases z1 : x1=y1 <;> by_cases z2 : x2=y2 <;> simp [z1, z2]
      rw [e];exact PySem.SeqAt.EqAt.of_refs ha c
theorem zgf{n : Nat}{a : Addr}{vs : Array Value}{A : Around}{E : Value -> Shared -> Prop}{s : Shared}{Q : Bool -> Shared -> Prop}(ht : s.heap.IsTuple a vs)(hq : ∀ v∈vs.toList, ∀ (E' : Value -> Shared -> Prop) (Q' : Bool -> Shared -> Prop), Q' true s -> wpAny (model prog w) A (eqIsQuiet n v) Q' E' s)(h : Q true s): wpAny (model prog w) A (eqIsQuiet (n+1) (.ref a)) Q E s := by
  have hT : s.TypeIs (.ref a) "tuple" := let ⟨o, e, c, _⟩ := ht; ⟨o, e, c⟩;obtain⟨o, ho, hc, m, hd⟩ := ht;unfold eqIsQuiet;refine wpAny_bind (wpAny_specialOf hT F.slot_tuple_eq.lookup ?_);show wpAny _ _ (isInstance (.ref a) (.type "tuple") >>= _) _ _ s;refine wpAny_bind (wpAny_isInstance hT isSubtype_tuple_tuple ?_);simp only [Bool.not_true, Bool.false_eq_true, if_false];refine wpAny_bind (wpAny_seqItems ho hd ?_);refine wpAny_bind ?_;show wpAny _ _ (forIn vs _ _) _ _ s;rw [<- Array.forIn_toList];refine wpAny_forIn_list _ (fun rest r s' => r.1=none /\ s'=s /\ ∀ v∈rest, v∈vs.toList) _ ?_ ?_ _ _ ⟨rfl, rfl, fun v m => m⟩
  · rintro v rest r s' ⟨hr, rfl, hall⟩
    refine wpAny_bind (hq v (hall v mem_cons_self) _ _ ?_);simp only [Bool.not_true, Bool.false_eq_true, if_false];exact wpAny_pure ⟨rfl, rfl, fun u hu' => hall u (mem_cons_of_mem _ hu')⟩
  · rintro⟨r1, r2⟩ s' ⟨hr, rfl, _⟩
    simp only at hr;subst hr;exact wpAny_pure h
theorem zdh: ∀ (n : Nat) (g : KSg) {k : KG g} {v : Value} {A : Around} {E : Value -> Shared -> Prop} {s : Shared} {Q : Bool -> Shared -> Prop}, g.dp<=n -> KAt s.heap g k v -> Q true s -> wpAny (model prog w) A (eqIsQuiet n v) Q E s
  | n, .int, k, v, A, E, s, Q, _, x, h => by
    obtain⟨t, rfl⟩ := Value.isInt_shape x;rw [eqIsQuiet_byValue n rfl];exact wpAny_pure h
  | n, .bool, k, v, A, E, s, Q, _, x, h => by
    rw [show v=.bool k from x, eqIsQuiet_byValue n rfl];exact wpAny_pure h
  | 0, .many g, k, v, A, E, s, Q, hn, x, h => absurd (show g.dp+1<=0 from hn) (by omega)
  | 0, .two g g', k, v, A, E, s, Q, hn, x, h => absurd (show max g.dp g'.dp+1<=0 from hn) (by omega)
  | n+1, .many g, k, v, A, E, s, Q, hn, ⟨a, vs, e, t, l⟩, h => by
    have hn' : g.dp+1<=n+1 := hn;subst e;refine zgf t (fun v m E' Q' hq => ?_) h;obtain⟨j, hj⟩ := mem_iff_getElem?.mp m;obtain⟨k', _, q⟩ := l.get hj;exact zdh n g (by omega) q hq
  | n+1, .two g g', k, v, A, E, s, Q, hn, ⟨a, u, u', e, t, l, m⟩, h => by
    have hn' : max g.dp g'.dp+1<=n+1 := hn;subst e;refine zgf t (fun v mv E' Q' hq => ?_) h;simp only [mem_cons, not_mem_nil, or_false] at mv;rcases mv with rfl | rfl
    · exact zdh n g (by omega) l hq
    · exact zdh n g' (by omega) m hq
end
def znx(prog : Program)(w : World)(g : KSg)(hg : g.dp<=8): HeapKind prog w (KG g) where
  is := fun h k a => KAt h g k (.ref a)
  hash := khash g
  draws := kdraw g
  room := fun A => A.units+g.dp<cLine
  inj := fun hx hy => KAt.inj g hx hy
  keeps := fun x ho hd hs => x.keeps ho hd hs
  pyHash := fun hu hk h => zeh g hu hk h
  eqBool := fun hu hx hy h => zir g hu hx hy _ _ _ _ h
  quiet := fun hk h => zdh 8 g hg hk h
section
variable {prog : Program} {w : World} {K : Type} [DecidableEq K] {knd : HeapKind prog w K}
theorem ziH{A : Around}{E : Value -> Shared -> Prop}{s : Shared}{d a : Addr}{xs : List (K×Addr×Value)}{k : K}{v : Value}{Q : Value -> Shared -> Prop}(hu : knd.room A)(hkey : knd.is s.heap k a)(hm : s.heap.DictOfH knd d xs)(hsz : xs.length<=sizeLine)
    (h1 : ∀ p, atKey xs k=some p -> Q p.2 { s with toks := s.toks+knd.draws k })
    (h2 : atKey xs k=none -> ∀ h', h'.DictOfH knd d (xs++[(k, a, v)]) -> Heap.SameBut d s.heap h' -> Q v { s with heap := h', toks := s.toks+knd.draws k }) : wpAny (model prog w) A (dictSetDefault d (.ref a) v) Q E s := by
  obtain⟨o, es, ep, ho, hc, hd, he, his, hn⟩ := hm;unfold dictSetDefault
  try with_reducible refine wpAny_holding ?_
  refine wpAny_bind (knd.pyHash hu hkey (wpAny_bind (wpAny_dictFind_heap (s := { s with toks := s.toks+knd.draws k }) hu hkey ho hd he his hn ?_ ?_)))
  · intro hno
    have hnot : k∉xs.map (·.1) := not_mem_keys_of_get hno;refine wpAny_bind (wpAny_rule (wpAny_bind (wpAny_updateDictKeys (hz := by have e := size_of_entries he; omega) (s := { s with toks := s.toks+knd.draws k }) ho hd (wpAny_pure (h2 (atKey_none_of_get hno) _ ⟨_, _, ep+1, get?_update_self _ ho (Obj.isFreed_of_dict (Obj.data_mapDictKeys hd _)), hc.mapDictKeys _, Obj.data_mapDictKeys hd _, ?_, ?_, ?_⟩ (Heap.SameBut.update ..))))))
    · simp [he, entryOfKey]
    · intro x hx
      rcases mem_append.mp hx with hx | hx
      · exact knd.keeps (his x hx) ho hd (Heap.SameBut.update ..)
      · rw [mem_singleton.mp hx]
        exact knd.keeps hkey ho hd (Heap.SameBut.update ..)
    · rw [map_append, nodup_append]
      refine⟨hn, by simp, fun x hx y hy e => ?_⟩;simp only [map_cons, map_nil, mem_singleton] at hy;subst hy;exact hnot (e▸hx)
  · intro j p hj
    refine wpAny_bind (wpAny_dictEntries (s := { s with toks := s.toks+knd.draws k }) ho hd ?_);rw [entry_at he j, hj];exact wpAny_bind (wpAny_rule (wpAny_pure (h1 p (atKey_of_get hn hj))))
theorem zfP{d a : Addr}(hd : (d == sysModules)=false)(v : Value):
    MeetsIn prog w (Builtin.«dict.setdefault» ⟨[.ref d, .ref a, v], []⟩) (fun A R s => knd.room A.in1 /\ ∃ (k : K) (xs : List (K×Addr×Value)), knd.is s.heap k a /\ s.heap.DictOfH knd d xs /\ xs.length<=sizeLine /\ (∀ p, atKey xs k=some p -> R (.ok (.ret p.2)) { s with toks := s.toks+knd.draws k }) /\
      (atKey xs k=none -> ∀ h', h'.DictOfH knd d (xs++[(k, a, v)]) -> Heap.SameBut d s.heap h' -> R (.ok (.ret v)) { s with heap := h', toks := s.toks+knd.draws k })) :=
  .of_wp fun A R s ⟨hu, k, xs, hk, hm, hsz, h1, h2⟩ => by
    unfold Builtin.«dict.setdefault» Builtin.Dict.keyAndDefault;refine wpAny_bind (wpAny_bind (wpAny_notOrdered_dict hm.typeIs ?_));show wpAny _ _ (pure (d, Value.ref a, some v)) _ _ s;refine wpAny_pure ?_;simp only [hd, Bool.false_eq_true, if_false];exact wpAny_bind (ziH hu hk hm hsz (fun p e => wpAny_pure ⟨_, rfl, h1 p e⟩) fun e h' d' sb => wpAny_pure ⟨v, rfl, h2 e h' d' sb⟩)
end
section
variable {prog : Program} {w : World} {A : Around} {E : Value -> Shared -> Prop} {s : Shared}
structure DOb(h : Heap)(d : Addr)(ob : Obj)(es : Array DictEntry)(ep : Nat): Prop where
  at_ : h.get? d=some ob
  ex : ob.ExactDict
  dt : ob.data=.dict es ep
theorem zg3{d : Addr}(hd : (d == sysModules)=false): MeetsIn prog w (Builtin.«dict.items» ⟨[.ref d], []⟩) (fun _ R s => s.TypeIs (.ref d) "dict" /\
      R (.ok (.ret (.ref s.heap.objs.size))) { s with heap := s.heap.push { cls := .type "dict_items", data := .fields #[.ref d] } }) :=
  .of_wp fun A R s ⟨hT, h⟩ => by
    unfold Builtin.«dict.items» Builtin.Dict.noArgs Builtin.Dict.showsAll;refine wpAny_bind (wpAny_bind (wpAny_notOrdered_dict hT ?_)); show wpAny _ _ (pure d) _ _ s; refine wpAny_pure ?_;show wpAny _ _ ((if (d == sysModules)=true then _ else _) >>= _) _ _ s; rw [if_neg (by rw [hd]; exact Bool.false_ne_true)];exact wpAny_bind (wpAny_pure (wpAny_bind (wpAny_newObj_type (wpAny_pure ⟨_, rfl, h⟩))))
theorem zhK{v d : Addr}{ob : Obj}{es : Array DictEntry}{ep : Nat}{Q : Value -> Shared -> Prop}(hv : s.heap.IsItemsView v d)(hm : DOb s.heap d ob es ep)
    (hQ : Q (.ref s.heap.objs.size) { s with heap := s.heap.push { cls := .type "dict_itemiterator", data := .fields #[.none, .bool false, .ref d, .int 0 0, .int es.size 0, .int ep 0, .none, .none] } }) : wpAny (model prog w) A (pyIter (.ref v)) Q E s := by
  obtain⟨ov, hov, hcv, hdv⟩ := id hv;have hown : Builtin.Dict_items.ownsTuple "dict_itemiterator" = true := by decide
  refine wpAny_pyIter_slot hv.typeIs F.slot_dict_items_iter (wpAny_call_entry F.slot_dict_items_iter hv.typeIs F.entry_dict_items_iter ?_ (F.args_dict_items_iter_1 _));unfold Builtin.«dict_items.__iter__» Builtin.Dict_items.dictOf Builtin.Dict_items.newIterator;refine wpAny_bind (wpAny_pure (wpAny_bind (wpAny_bind (wpAny_field hov hdv (x := .ref d) rfl (wpAny_pure (wpAny_bind (wpAny_bind (wpAny_dictEntries hm.at_ hm.dt (wpAny_bind (wpAny_dictEpoch hm.at_ hm.dt ?_)))))))))) ;simp only [hown, if_true];refine wpAny_newObj_type (wpAny_pure ⟨_, rfl, "dict_itemiterator", _, ⟨_, get?_push_size _ rfl, rfl⟩, F.slot_dict_itemiterator_next.lookup, ?_⟩) (by simp only [sizeOk, Builtin.Dict_items.ownedTupleFields, size_toArray, length_append, length_cons, length_nil, sizeLine_eq]; omega);simpa [rawInt, Builtin.Dict_items.ownedTupleFields] using hQ
theorem zhz{it d : Addr}{ob : Obj}{es : Array DictEntry}{i ep : Nat}{e : DictEntry}{ok ov : Value}{Q : Option Value -> Shared -> Prop}(hit : IsItemIter s.heap it d i es.size ep ok ov)(hm : DOb s.heap d ob es ep)(hx : es[i]? = some e)
    (hQ : ∀ h', IsItemIterOut h' it d (i+1) es.size ep e.key e.val s.heap.objs.size -> h'.get? s.heap.objs.size=some { cls := .type "tuple", data := .seq #[e.key, e.val] } -> h'.objs.size=s.heap.objs.size+1 ->
      (∀ b o, b≠it -> s.heap.get? b=some o -> h'.get? b=some o) -> Q (some (.ref s.heap.objs.size)) { s with heap := h' }) : wpAny (model prog w) A (pyNext (.ref it)) Q E s := by
  obtain⟨hp, g, dr, tk, os⟩ := s;have hT : Shared.TypeIs ⟨hp, g, dr, tk, os⟩ (.ref it) "dict_itemiterator" := ⟨_, hit, rfl⟩;have hown : Builtin.Dict_items.ownsTuple "dict_itemiterator" = true := by decide
  have hlt : i<es.size := (Array.getElem?_eq_some_iff.mp hx).1;unfold pyNext;refine wpAny_bind (wpAny_attempt (wpAny_callSpecial?_slot (name := Str.ofString "__next__") hT F.slot_dict_itemiterator_next (wpAny_call_entry F.slot_dict_itemiterator_next hT F.entry_dict_itemiterator_next ?_ (F.args_dict_itemiterator_next_1 _))));refine wpAny_bind (wpAny_pure (wpAny_bind (wpAny_bind ?_)))
  first | refine wpAny_bind (wpAny_typeNameOfWhole_itemiter hT (wpAny_pure ?_)) | refine wpAny_bind (wpAny_typeNameOf_itemiter hT (wpAny_pure ?_))
  refine wpAny_bind (wpAny_fieldsOf hit rfl ?_); simp only [hown, if_true];show wpAny _ _ (if (Value.ref d == Value.none)=true then _ else _) _ _ _; rw [if_neg (show ¬ ((Value.ref d == Value.none)=true) from Bool.false_ne_true)];refine wpAny_bind (wpAny_pure (wpAny_bind (wpAny_dictEntries hm.at_ hm.dt ?_))); rw [if_neg (by simp)];refine wpAny_bind (wpAny_pure (wpAny_bind (wpAny_dictEpoch hm.at_ hm.dt ?_))); rw [if_neg (by simp)]; refine wpAny_pure ?_;simp only [show ¬ ((i : Int)<0) from by omega, if_false, Int.toNat_natCast, hx];refine wpAny_bind ?_
  first | refine wpAny_bind (wpAny_typeNameOfWhole_itemiter hT (wpAny_pure ?_)) | refine wpAny_bind (wpAny_typeNameOf_itemiter hT (wpAny_pure ?_))
  refine wpAny_bind (wpAny_isOneOf_itemiter hT ?_); show wpAny _ _ (setField (.ref it) 3 (rawInt ((i : Int)+1)) >>= _) _ _ ⟨hp, g, dr, tk, os⟩;refine wpAny_bind (wpAny_setField_rec hit (by simp) fun g1 z1 b1 => ?_); replace b1 : Heap.SameBut it hp g1 := b1;replace z1 : IsItemIter g1 it d (i+1) es.size ep ok ov := by
    have e : ((i+1 : Nat) : Int)=(i : Int)+1 := by omega
    unfold IsItemIter; rw [e]; simpa [rawInt] using z1
  have hT1 : Shared.TypeIs ⟨g1, g, dr, tk, os⟩ (.ref it) "dict_itemiterator" := ⟨_, z1, rfl⟩;refine wpAny_bind (wpAny_holding (wpAny_bind (wpAny_isOneOf_itemiter hT1 (wpAny_bind (wpAny_isOneOf_itemiter hT1 ?_)))));show wpAny _ _ (Builtin.Dict_items.pairFromOwner (.ref it) 6 e.key e.val) _ _ ⟨g1, g, dr, tk, os⟩; unfold Builtin.Dict_items.pairFromOwner; refine wpAny_bind (wpAny_newTuple ?_);have z2 : IsItemIter (g1.push { cls := .type "tuple", data := .seq #[e.key, e.val] }) it d (i+1) es.size ep ok ov := get?_push_of_some _ z1;have sz : g1.objs.size=hp.objs.size := b1.1;have il : it<hp.objs.size := lt_size hit;obtain⟨g2, e2⟩ : ∃ g2, g2=g1.push { cls := .type "tuple", data := .seq #[e.key, e.val] } := ⟨_, rfl⟩;rw [<- e2] at z2 ⊢;have t2 : g2.get? hp.objs.size=some { cls := .type "tuple", data := .seq #[e.key, e.val] } := by rw [e2, <- sz]; exact get?_push_size _ rfl
  have s2 : g2.objs.size=hp.objs.size+1 := by rw [e2, size_push, sz]
  have k2 : ∀ b o, b≠it -> hp.get? b=some o -> g2.get? b=some o := fun b o hb q => by rw [e2]; exact get?_push_of_some _ (b1.extBut b o hb q)
  show wpAny _ _ (Builtin.Dict_items.ownedTupleIsFree (.ref it) >>= _) _ _ ⟨g2, g, dr, tk, os⟩; rw [sz]; clear e2 z1 b1 hT1 sz g1;unfold Builtin.Dict_items.ownedTupleIsFree; refine wpAny_bind (wpAny_bind (wpAny_field z2 rfl (x := .none) rfl (wpAny_pure ?_))); simp only [if_true];refine wpAny_bind (wpAny_field z2 rfl (x := ok) rfl (wpAny_bind (wpAny_field z2 rfl (x := ov) rfl ?_)));refine wpAny_bind (wpAny_setField_rec z2 (by simp) fun g3 z3 b3 => ?_); replace b3 : Heap.SameBut it g2 g3 := b3; replace z3 : IsItemIter g3 it d (i+1) es.size ep e.key ov := z3;refine wpAny_bind (wpAny_setField_rec z3 (by simp) fun g4 z4 b4 => ?_); replace b4 : Heap.SameBut it g3 g4 := b4; replace z4 : IsItemIter g4 it d (i+1) es.size ep e.key e.val := z4;refine wpAny_bind (wpAny_setField_rec z4 (by simp) fun g5 z5 b5 => ?_); replace b5 : Heap.SameBut it g4 g5 := b5; replace z5 : IsItemIterOut g5 it d (i+1) es.size ep e.key e.val hp.objs.size := z5;refine wpAny_bind (wpAny_setField_rec z5 (by simp) fun g6 z6 b6 => ?_); replace b6 : Heap.SameBut it g5 g6 := b6; replace z6 : IsItemIterOut g6 it d (i+1) es.size ep e.key e.val hp.objs.size := z6;have all : ∀ b o, b≠it -> g2.get? b=some o -> g6.get? b=some o := fun b o hb q => b6.extBut b o hb (b5.extBut b o hb (b4.extBut b o hb (b3.extBut b o hb q)));exact wpAny_bind (wpAny_letGo (wpAny_pure (wpAny_pure ⟨_, rfl, wpAny_pure (hQ g6 z6 (all _ _ (ne_of_gt il) t2) (by show g6.objs.size=hp.objs.size+1; rw [b6.1, b5.1, b4.1, b3.1, s2]) fun b o hb q => all b o hb (k2 b o hb q))⟩)))
theorem ziY{it d : Addr}{ob : Obj}{es : Array DictEntry}{i ep : Nat}{ok ov : Value}{Q : Option Value -> Shared -> Prop}(hh : A.handled=none)(hit : IsItemIter s.heap it d i es.size ep ok ov)(hm : DOb s.heap d ob es ep)(hx : es.size<=i)
    (hQ : ∀ h', Heap.ExtBut it s.heap h' -> Q none { s with heap := h' }) : wpAny (model prog w) A (pyNext (.ref it)) Q E s := by
  have hT : s.TypeIs (.ref it) "dict_itemiterator" := ⟨_, hit, rfl⟩;have hown : Builtin.Dict_items.ownsTuple "dict_itemiterator" = true := by decide
  unfold pyNext;refine wpAny_bind (wpAny_attempt (wpAny_callSpecial?_slot (name := Str.ofString "__next__") hT F.slot_dict_itemiterator_next (wpAny_call_entry F.slot_dict_itemiterator_next hT F.entry_dict_itemiterator_next ?_ (F.args_dict_itemiterator_next_1 _))));refine wpAny_bind (wpAny_pure (wpAny_bind (wpAny_bind ?_)))
  first | refine wpAny_bind (wpAny_typeNameOfWhole_itemiter hT (wpAny_pure ?_)) | refine wpAny_bind (wpAny_typeNameOf_itemiter hT (wpAny_pure ?_))
  refine wpAny_bind (wpAny_fieldsOf hit rfl ?_); simp only [hown, if_true];show wpAny _ _ (if (Value.ref d == Value.none)=true then _ else _) _ _ s; rw [if_neg (show ¬ ((Value.ref d == Value.none)=true) from Bool.false_ne_true)];refine wpAny_bind (wpAny_pure (wpAny_bind (wpAny_dictEntries hm.at_ hm.dt ?_))); rw [if_neg (by simp)];refine wpAny_bind (wpAny_pure (wpAny_bind (wpAny_dictEpoch hm.at_ hm.dt ?_))); rw [if_neg (by simp)]; refine wpAny_pure ?_;simp only [show ¬ ((i : Int)<0) from by omega, if_false, Int.toNat_natCast, Array.getElem?_eq_none hx];refine wpAny_bind ?_
  first | refine wpAny_bind (wpAny_typeNameOfWhole_itemiter hT (wpAny_pure ?_)) | refine wpAny_bind (wpAny_typeNameOf_itemiter hT (wpAny_pure ?_))
  show wpAny _ _ (setField (.ref it) 2 .none >>= _) _ _ s; refine wpAny_bind (wpAny_setField hit rfl (by simp) ?_);show wpAny _ _ (newExc (.type "StopIteration") [] >>= _) _ _ _; simp only [newExc, newTuple];refine wpAny_bind (wpAny_bind (wpAny_newObj_type ?_ (by size_fits))); refine wpAny_bind (m := firstArgMember _ _) (wpAny_of_eq (a := Value.none) (by first | rfl | (simp only [firstArgMember]; rfl)) ?_);refine wpAny_newObj_type ?_ (by size_fits); simp only [raiseNew]; refine wpAny_bind (wpAny_handled ?_); rw [show A.in1.handled=none from hh];refine wpAny_bind (wpAny_pure (wpAny_throw ?_));refine wpAny_bind (wpAny_isInstance (T := "StopIteration") (b := true) ⟨_, get?_push_size _ rfl, rfl⟩ isSubtype_stop ?_);exact wpAny_pure (hQ _ (((Heap.SameBut.update ..).extBut.push _).push _))
end
theorem zkQ{g : KSg}{h : Heap}{H : Hp}(f : ∀ {k : KG g} {v : V} {u : Value}, Has H (kdat g k) v -> RelV v u -> KAt h g k u): ∀ {ks : List (KG g)} {vs : List V} {us : List Value}, HasL H (ks.map (kdat g)) vs -> Vals vs us -> AllK (KAt h g) ks us
  | [], vs, us, l, r => by rw [zA.mp l] at r; cases r; exact .nil
  | k :: ks, vs, us, l, r => by
    obtain⟨v, t, rfl, q, l⟩ := zr.mp l;cases r with
    | cons r1 r2 => exact .cons (f q r1) (zkQ f l r2)
theorem zfd{P : Program}{w : World}{H : Hp}{h : Heap}(ok : HOk P w H h): ∀ (g : KSg) {k : KG g} {v : V} {u : Value}, Has H (kdat g k) v -> RelV v u -> KAt h g k u
  | .int, k, v, u, q, r => by
    rw [zbx.mp q] at r;obtain⟨t, rfl⟩ := r;exact beq_self_eq_true (α := Int) k
  | .bool, k, v, u, q, r => by
    rw [zbr.mp q] at r;exact r
  | .many g, k, v, u, q, r => by
    obtain⟨a, vs, rfl, ea, l⟩ := zU.mp q;obtain rfl : u=Value.ref a := r;obtain⟨_, its, rv, o, e1, e2, n, e3⟩ := (show ObjOk P w H h a (.tup vs) from ok a _ ea);exact⟨a, its.toArray, rfl, ⟨o, e1, e2, n, e3⟩, zkQ (fun q r => zfd ok g q r) l rv⟩
  | .two g g', k, v, u, q, r => by
    obtain⟨a, vs, rfl, ea, l⟩ := zU.mp q;obtain rfl : u=Value.ref a := r;obtain⟨v1, t1, rfl, q1, l⟩ := zr.mp l;obtain⟨v2, t2, rfl, q2, l⟩ := zr.mp l;obtain rfl := zA.mp l;obtain⟨_, its, rv, o, e1, e2, n, e3⟩ := (show ObjOk P w H h a (.tup [v1, v2]) from ok a _ ea);cases rv with
    | cons r1 rv =>
      cases rv with
      | cons r2 rv =>
        cases rv;exact⟨a, _, _, rfl, ⟨o, e1, e2, n, e3⟩, zfd ok g q1 r1, zfd ok g' q2 r2⟩
theorem zot{P : Program}{w : World}{H : Hp}{h : Heap}{a : Addr}{ob : Obj}{g : KSg}{xs : List (KG g×Addr×Value)}(hg : g.dp<=8)(ok : HOk P w H h)(e : H a=some (obO a ob))(pd : PDict g ob xs)(hk : ∀ x∈xs, Has H (kdat g x.1) (.ref x.2.1)): h.DictOfH (znx P w g hg) a xs := by
  obtain⟨e1, _, _⟩ := (show ObjOk P w H h a (obO a ob) from ok a _ e);obtain⟨hx, es, ep, e2, e3, e4⟩ := pd;exact⟨ob, es, ep, e1, hx, e2, e3, fun x m => zfd ok g (hk x m) rfl, e4⟩
theorem zmW{P : Program}{w : World}{H : Hp}{h : Heap}{a : Addr}{ob : Obj}(e : h.get? a=some ob): ObjOk P w H h a (obO a ob) := ⟨e, ⟨ob, e⟩, fun h1 h2 q k => k ob q⟩
section
variable {X : Cx} {ze : List (Addr×Obj)} {σ : St} {H : Hp} {s : Shared} {a b : Addr} {ob : Obj} {g : KSg} {xs : List (KG g×Addr×Value)} {k : KG g} {r : Value} {v : V} {A : Around} {E : Value -> Shared -> Prop}
theorem zkC{Q : Value -> Shared -> Prop}(hg : g.dp<=8)(hu : A.units+64<cLine)(I : Inv X ze σ H s)(e : H a=some (obO a ob))(hd : (a == sysModules)=false)(pd : PDict g ob xs)(hk : ∀ x∈xs, Has H (kdat g x.1) (.ref x.2.1))(hz : xs.length<1000)(hy : Has H (kdat g k) (.ref b))
    (h1 : ∀ p s', atKey xs k=some p -> Inv X ze σ H s' -> Q p.2 s') (h2 : atKey xs k=none -> ∀ ob' s', PDict g ob' (xs++[(k, b, r)]) -> Inv X ze σ (upd H a (obO a ob')) s' -> Q r s') :
    wpAny (model X.prog X.w) A (call (.builtin "dict.setdefault") [.ref a, .ref b, r]) Q E s := by
  have dd := zot hg I.hok e pd hk;refine call_meetsIn PySem.F.slot_dict_setdefault dd.typeIs PySem.F.entry_dict_setdefault (PySem.F.args_dict_setdefault_3 _ _ _) (zfP (knd := znx X.prog X.w g hg) hd r) ⟨?_, k, xs, zfd I.hok g hy rfl, dd, le_of_lt (small1000 (le_of_lt hz)), fun p ep => h1 p _ ep (I.tok _), fun en h' dd' hs => ?_⟩
  · show A.units+1+g.dp<cLine
    omega
  · obtain⟨o', es, ep, q1, q2, q3, q4, _, q5⟩ := dd'
    exact h2 en o' _ ⟨q2, es, ep, q3, q4, q5⟩ (znF I (by rw [e]; exact True.intro) hs ⟨o', q1⟩ (zmW q1))
theorem znX{Q : Value -> Shared -> Prop}(hg : g.dp<=8)(hu : A.units+64<cLine)(I : Inv X ze σ H s)(e : H a=some (obO a ob))(hd : (a == sysModules)=false)(pd : PDict g ob xs)(hk : ∀ x∈xs, Has H (kdat g x.1) (.ref x.2.1))(hy : Has H (kdat g k) (.ref b))
    (h1 : ∀ s', Inv X ze σ H s' -> Q (((atKey xs k).map (·.2)).getD .none) s') :
    wpAny (model X.prog X.w) A (call (.builtin "dict.get") [.ref a, .ref b]) Q E s := by
  have dd := zot hg I.hok e pd hk;refine call_meetsIn PySem.F.slot_dict_get dd.typeIs PySem.F.entry_dict_get (PySem.F.args_dict_get_2 _ _) (meetsH_dict_get (znx X.prog X.w g hg) a b hd) ⟨?_, k, xs, zfd I.hok g hy rfl, dd, h1 _ (I.tok _)⟩;show A.units+1+g.dp<cLine;omega
end
def KSg.tup: KSg -> Bool
  | .int => false
  | .bool => false
  | _ => true
theorem zix{H : Hp}{g : KSg}(hg : g.tup=true){k : KG g}{v : V}(q : Has H (kdat g k) v): ∃ b, v=.ref b := by
  cases g with
  | int => cases hg
  | bool => cases hg
  | many g => obtain⟨b, _, rfl, _⟩ := zU.mp q; exact⟨b, rfl⟩
  | two g g' => obtain⟨b, _, rfl, _⟩ := zU.mp q; exact⟨b, rfl⟩
def ob0: Obj := { cls := .type "dict", data := .dict #[] }
theorem pd0(g : KSg): PDict g ob0 [] := ⟨⟨rfl, rfl, rfl⟩, #[], 0, rfl, rfl, nodup_nil⟩
def zmr: TE := fun _ H Q => ∀ p, H p=none -> (p == sysModules)=false -> Q (.ref p) (upd H p (obO p ob0))
def GAt(H : Hp)(a : Addr)(g : KSg)(ob : Obj)(xs : List (KG g×Addr×Value)): Prop := H a=some (obO a ob) /\ (a == sysModules)=false /\ PDict g ob xs /\ ∀ x∈xs, Has H (kdat g x.1) (.ref x.2.1)
def zmn(g : KSg)(td ty tx : TE): TE := fun σ H Q => td σ H fun x H1 => ∃ a, x=.ref a /\ IsD H1 a /\ ty σ H1 fun y H2 => tx σ H2 fun z H3 => ∃ ob xs k, GAt H3 a g ob xs /\ xs.length<1000 /\ Has H3 (kdat g k) y /\ (∀ p, atKey xs k=some p -> ∃ v, RelV v p.2 /\ Q v H3) /\ (atKey xs k=none -> ∀ ob' b r, y=.ref b -> RelV z r -> PDict g ob' (xs++[(k, b, r)]) -> Q z (upd H3 a (obO a ob')))
def zkw(g : KSg)(td ty : TE): TE := fun σ H Q => td σ H fun x H1 => ∃ a, x=.ref a /\ IsD H1 a /\ ty σ H1 fun y H2 => ∃ ob xs k, GAt H2 a g ob xs /\ Has H2 (kdat g k) y /\ (∀ p, atKey xs k=some p -> ∃ v, RelV v p.2 /\ Q v H2) /\ (atKey xs k=none -> Q .non H2)
section
variable {X : Cx} {pos apos cpos : Pos} {o e f : Expr} {td ty tx : TE}
theorem zlS: PE X (.Dict [] [] pos) zmr := fun ze s σ H Q I h =>
  wpAny_Dict_empty ⟨.ref s.heap.objs.size, _, I.laid (a := s.heap.objs.size) (o := obO s.heap.objs.size ob0) (t' := s.toks) (fun _ _ q => get?_push_of_some _ q) (le_refl _) (zmW (get?_push_size _ rfl)), rfl, h _ (I.hok.fresh (le_refl _)) (beq_eq_false_iff_ne.mpr (Ne.symm (ne_of_lt I.big)))⟩
theorem zlH{g : KSg}(hg : g.dp<=8)(ht : g.tup=true)(hu : X.A.units+64<cLine)(ho : PE X o td)(he : PE X e ty)(hf : PE X f tx)(m : M2 X o "setdefault" apos e f cpos): PE X (.Call (.Attribute o "setdefault" apos) [e, f] [] cpos) (zmn g td ty tx) := by
  intro ze s σ H Q I h;refine wpAny_Call_method m.base m.few m.line PySem.F.plainAttrs_dict PySem.F.slot_dict_setdefault PySem.F.type_dict_setdefault (thn (ho ze s σ H _ I h) fun u s1 ⟨x, H1, I1, rx, a, ex, d, q1⟩ => ?_);subst ex;obtain rfl : u=Value.ref a := rx;obtain⟨t1, t2, _⟩ := zmg I1 d;refine⟨t1, t2, ?_⟩;rw [m.trees];refine Calls.callWith_builtin rfl (Calls.evalArgs_plain (Calls.spliced_cons (thn (he ze s1 σ H1 _ I1 q1) fun iv s2 ⟨y, H2, I2, ry, q2⟩ =>
    Calls.spliced_cons (thn (hf ze s2 σ H2 _ I2 q2) fun fv s3 ⟨z, H3, I3, rz, ob, xs, k, ⟨ga, gd, gp, gk⟩, hz, hy, q3, q4⟩ => Calls.spliced_nil ?_))))
  obtain⟨b, rfl⟩ := zix ht hy;obtain rfl : iv=Value.ref b := ry;refine zkC hg hu I3 ga gd gp gk hz hy (fun p s' ep I4 => ?_) fun en ob' s' pd' I4 => ⟨z, _, I4, rz, q4 en ob' b fv rfl rz pd'⟩;obtain⟨v, rv, q⟩ := q3 p ep;exact⟨v, H3, I4, rv, q⟩
theorem zkh{g : KSg}(hg : g.dp<=8)(ht : g.tup=true)(hu : X.A.units+64<cLine)(ho : PE X o td)(he : PE X e ty)(m : M1 X o "get" apos e cpos): PE X (.Call (.Attribute o "get" apos) [e] [] cpos) (zkw g td ty) := by
  intro ze s σ H Q I h;refine wpAny_Call_method m.base m.few m.line PySem.F.plainAttrs_dict PySem.F.slot_dict_get PySem.F.type_dict_get (thn (ho ze s σ H _ I h) fun u s1 ⟨x, H1, I1, rx, a, ex, d, q1⟩ => ?_);subst ex;obtain rfl : u=Value.ref a := rx;obtain⟨t1, t2, _⟩ := zmg I1 d;refine⟨t1, t2, ?_⟩;rw [m.trees];refine Calls.callWith_builtin rfl (Calls.evalArgs_plain (Calls.spliced_cons (thn (he ze s1 σ H1 _ I1 q1) fun iv s2 ⟨y, H2, I2, ry, ob, xs, k, ⟨ga, gd, gp, gk⟩, hy, q3, q4⟩ => Calls.spliced_nil ?_)));obtain⟨b, rfl⟩ := zix ht hy;obtain rfl : iv=Value.ref b := ry;refine znX hg hu I2 ga gd gp gk hy fun s' I4 => ?_;cases ek : atKey xs k with
  | none => exact⟨.non, H2, I4, rfl, q4 ek⟩
  | some p =>
    obtain⟨v, rv, q⟩ := q3 p ek;exact⟨v, H2, I4, rv, q⟩
end
abbrev VE : List (V×V) -> List DictEntry -> Prop := Paired fun p e => RelV p.1 e.key /\ RelV p.2 e.val
theorem VE.get{vs : List (V×V)}{es : List DictEntry}(r : VE vs es): ∀ {i : Nat} {p : V×V}, vs[i]? = some p -> ∃ e, es[i]? = some e /\ RelV p.1 e.key /\ RelV p.2 e.val := by
  induction r with
  | nil => intro i p e; simp at e
  | @cons p q ps qs h t ih =>
    intro i x e;cases i with
    | zero => simp at e; subst e; exact⟨q, rfl, h⟩
    | succ i => obtain⟨u, e1, e2⟩ := ih (i := i) (p := x) (by simpa using e); exact⟨u, by simpa using e1, e2⟩
theorem VE.length{vs : List (V×V)}{es : List DictEntry}(r : VE vs es): vs.length=es.length := by
  induction r with
  | nil => rfl
  | cons _ _ ih => rw [length_cons, length_cons, ih]
def ItiG(a : Addr)(ob : Obj)(vs : List (V×V)): It := ⟨fun i H => i<vs.length /\ H a=some (obO a ob), fun i H x H' => ∃ p b, vs[i]? = some p /\ H b=none /\ x=.ref b /\ H'=upd H b (.tup [p.1, p.2]), fun i H => vs.length<=i /\ H a=some (obO a ob)⟩
def tnG(it a : Addr)(n ep : Nat)(i : Nat)(h : Heap): Prop := ∃ ok ov, IsItemIter h it a i n ep ok ov
theorem zjk{P : Program}{w : World}{H : Hp}{h : Heap}{a : Addr}{ob : Obj}(ok : HOk P w H h)(e : H a=some (obO a ob)): h.get? a=some ob := (show ObjOk P w H h a (obO a ob) from ok a _ e).1
theorem zhN{P : Program}{w : World}{K : W.Frag}{elts : List Expr}{n : Nat}{tpos : Pos}(a it : Addr)(ob : Obj)(vs : List (V×V))(es : Array DictEntry)(ep : Nat)(hx : ob.ExactDict)(hd : ob.data=.dict es ep)(ve : VE vs es.toList): Turn P w K (.Tuple elts n tpos) (ItiG a ob vs) [it] it (tnG it a es.size ep) where
  mem := by simp
  obj := fun i h ⟨_, _, st⟩ b hb => by
    have e : b=it := by simpa using hb
    subst e;exact⟨_, st, fun v z => by cases z⟩
  keep := fun i h h' ⟨ok, ov, st⟩ k => ⟨ok, ov, k it (by simp) _ st⟩
  item := by
    intro X hP hw hK hc i ze s σ H E I hf st hg;subst hP hw hK;obtain⟨ok, ov, st⟩ := st;obtain⟨hi, ea⟩ := hg;obtain⟨e, ee, r1, r2⟩ := ve.get (getElem?_eq_getElem hi);refine zhz st ⟨zjk I.hok ea, hx, hd⟩ (e := e) (by rw [<- Array.getElem?_toList]; exact ee) fun h' st' t1 sz kp => ?_;refine⟨_, rfl, wpAny_letOwnedTupleGo_items (s := { s with heap := h' }) st' fun g' e2 b2 => ?_⟩;have lt : it<s.heap.objs.size := lt_size st;have t2 : g'.get? s.heap.objs.size=some { cls := .type "tuple", data := .seq #[e.key, e.val] } := (b2.2 _ (ne_of_gt lt)).trans t1;have neT : H s.heap.objs.size=none := I.hok.fresh (le_refl _);refine⟨.ref s.heap.objs.size, upd H s.heap.objs.size (.tup [vs[i].1, vs[i].2]), I.turnLaid (ch := [it]) (t' := s.toks) (fun b o nb q => (b2.2 b fun z => nb (by simp [z])).trans (kp b o (fun z => nb (by simp [z])) q)) hf (le_refl _) ?_, rfl,
      ⟨vs[i], _, getElem?_eq_getElem hi, neT, rfl, rfl⟩, ⟨_, _, e2⟩, fun b hb => ?_⟩
    · exact⟨⟨by show 2<=sizeLine; decide, _, t2, rfl⟩, [e.key, e.val], .cons r1 (.cons r2 .nil), ⟨_, t2, rfl, _, rfl⟩⟩
    · rw [mem_singleton.mp hb, zG (ne_of_lt lt)]
      exact(hf _ (by simp)).1
  done := by
    intro X hP hw hK hc i ze s σ H E I hf st hg;subst hP hw hK;obtain⟨ok, ov, st⟩ := st;obtain⟨hi, ea⟩ := hg;obtain⟨f0, f1, f2, f3, f4, f5⟩ := hf it (by simp);exact ziY (I.ok.hd hc) st ⟨zjk I.hok ea, hx, hd⟩ (by rw [<- length_toList, <- ve.length]; exact hi) fun h' eb => ⟨rfl, I.turned (t' := s.toks) (fun b o hb e => eb b o hb e) f0 f1 f3 f4 f5⟩
  self := fun _ _ _ _ _ ⟨_, _, st⟩ h => zeC st h
section
variable {X : Cx} {elts : List Expr} {n : Nat} {tpos apos cpos : Pos}
def zki(te : TE): TI := fun σ H R => te σ H fun x H1 => ∃ a ob es ep vs, x=.ref a /\ H1 a=some (obO a ob) /\ (a == sysModules)=false /\ ob.ExactDict /\ ob.data=.dict es ep /\ VE vs es.toList /\ R (ItiG a ob vs) H1
theorem zjo{l : Expr}{te : TE}(hl : PE X l te)(hbase : attributeBase l "items" X.env (eval l X.env)=eval l X.env)(hline : (apos.endLine == cpos.line)=true): PI X (.Tuple elts n tpos) (.Call (.Attribute l "items" apos) [] [] cpos) (zki te) := by
  intro ze s σ H R I h;refine wpAny_Call_method (T := "dict") (id := "dict.items") hbase rfl hline F.plainAttrs_dict F.slot_dict_items F.type_dict_items (thn (hl ze s σ H _ I h) fun v s1 ⟨x, H1, I1, r1, q1⟩ => ?_);obtain⟨a, ob, es, ep, vs, e, ea, hne, hx, hd, ve, q⟩ := q1;subst e;cases r1;have g1 := zjk I1.hok ea;have hT : s1.TypeIs (.ref a) "dict" := ⟨ob, g1, hx.1⟩;refine⟨hT, fun b q => by cases q; exact⟨ob, g1, hx.2.1⟩, ?_⟩;show wpAny _ _ (callWith cpos (.builtin "dict.items") [.ref a] [] []) _ _ s1;refine method_meetsIn F.slot_dict_items F.entry_dict_items rfl (PyProof.Rows.evalArgs_none ⟨rfl, hT, F.args_dict_items_1 _, _, zg3 hne, hT, ?_⟩);refine zhK (s := { s1 with heap := s1.heap.push { cls := .type "dict_items", data := .fields #[.ref a] } }) ⟨_, get?_push_size _ rfl, rfl, rfl⟩ ⟨get?_push_of_some _ g1, hx, hd⟩ ?_;have I2 : Inv X ze σ H1 { s1 with heap := s1.heap.push { cls := .type "dict_items", data := .fields #[.ref a] } } := I1.kept (t' := s1.toks) fun b o e => get?_push_of_some _ e;refine⟨_, [_], _, _, H1, rfl, I2.kept (t' := s1.toks) fun b o e => get?_push_of_some _ e, zhN a _ ob vs es ep hx hd ve, ⟨_, _, get?_push_size _ rfl⟩, fun b hb => ?_, q⟩;rw [mem_singleton.mp hb];exact I2.fpOk (le_refl _) (I2.hok.fresh (le_refl _))
end
end L2
namespace L2
open PySem PySem.Spec PySem.Calls PyProof.Rows
section
variable {G : Hp} {g : KSg}
theorem PrG.length: ∀ {m : List (KG g×PyData)} {xs : List (KG g×Addr×Value)}, PrG G g m xs -> xs.length=m.length
  | [], _, q => by rw [show _=[] from q]; rfl
  | p :: r, _, ⟨q, t, e, _, _, _, l⟩ => by rw [e, length_cons, length_cons, PrG.length l]
theorem PrG.has: ∀ {m : List (KG g×PyData)} {xs : List (KG g×Addr×Value)}, PrG G g m xs -> ∀ x∈xs, Has G (kdat g x.1) (.ref x.2.1)
  | [], _, q, x, mx => by rw [show _=[] from q] at mx; cases mx
  | p :: r, _, ⟨q, t, e, e1, h1, _, l⟩, x, mx => by
    rw [e] at mx;rcases mem_cons.mp mx with rfl | mx
    · rw [e1]; exact h1
    · exact PrG.has l x mx
theorem PrG.at_(k : KG g): ∀ {m : List (KG g×PyData)} {xs : List (KG g×Addr×Value)}, PrG G g m xs -> (lkA m k=none /\ atKey xs k=none) \/ ∃ d p v, lkA m k=some d /\ atKey xs k=some p /\ Has G d v /\ RelV v p.2
  | [], xs, q => by rw [show xs=[] from q]; exact .inl ⟨rfl, rfl⟩
  | p :: r, xs, ⟨q, t, e, e1, h1, ⟨v, h2, h3⟩, l⟩ => by
    subst e;by_cases hk : p.1=k
    · exact .inr ⟨p.2, q.2, v, by simp [lkA, hk], by simp [atKey, e1, hk], h2, h3⟩
    · have z1 : lkA (p :: r) k=lkA r k := by simp [lkA, hk]
      have z2 : atKey (q :: t) k=atKey t k := by simp [atKey, e1, hk]
      rw [z1, z2];exact PrG.at_ k l
theorem PrG.snoc{k : KG g}{b : Addr}{d : PyData}{v : V}{r : Value}(h1 : Has G (kdat g k) (.ref b))(h2 : Has G d v)(h3 : RelV v r): ∀ {m : List (KG g×PyData)} {xs : List (KG g×Addr×Value)}, PrG G g m xs -> PrG G g (m++[(k, d)]) (xs++[(k, b, r)])
  | [], xs, q => by rw [show xs=[] from q]; exact⟨_, [], rfl, rfl, h1, ⟨v, h2, h3⟩, rfl⟩
  | p :: r, xs, ⟨q, t, e, e1, z1, z2, l⟩ => by subst e; exact⟨q, _, rfl, e1, z1, z2, PrG.snoc h1 h2 h3 l⟩
theorem PrG.vals: ∀ {m : List (KG g×PyData)} {xs : List (KG g×Addr×Value)}, PrG G g m xs -> ∃ vs : List (V×V), vs.length=m.length /\ VE vs (xs.map fun x => ⟨khash g x.1, .ref x.2.1, x.2.2⟩) /\ ∀ (i : Nat) (p : KG g×PyData), m[i]? = some p -> ∃ q : V×V, vs[i]? = some q /\ Has G (kdat g p.1) q.1 /\ Has G p.2 q.2
  | [], xs, q => by rw [show xs=[] from q]; exact⟨[], rfl, .nil, fun i p e => by simp at e⟩
  | p :: r, xs, ⟨q, t, e, e1, z1, ⟨v, h2, h3⟩, l⟩ => by
    subst e;obtain⟨vs, a1, a2, a3⟩ := PrG.vals l;refine⟨(.ref q.2.1, v) :: vs, by rw [length_cons, length_cons, a1], .cons ⟨rfl, h3⟩ a2, fun i x ex => ?_⟩;cases i with
    | zero => simp at ex; subst ex; exact⟨_, rfl, z1, h2⟩
    | succ i => obtain⟨y, b1, b2⟩ := a3 i x (by simpa using ex); exact⟨y, by simpa using b1, b2⟩
end
section
variable {E : XK} {EX : EXD} {i j : Nat} {tb : TS} {db : DSm}
theorem zkT{g : KSg}(hb : RSm E EX tb db): RSm E EX (ziv (zom zmr (zho i)) tb) (zjt false i (.g g ob0 []) db) := fun h o0 H0 o H δ σ S M En D e0 fr he hs rm q c x p hp hs' =>
  zlJ (f := false) (D0 := .g g ob0 []) (u := .x p ob0) (fun G H z => ⟨z, hs', [], pd0 g, rfl⟩) hb e0 fr he hs rm q c x hp
def zhU(g : KSg)(j : Nat)(dk dv : DM -> DE): DSm := fun En δ S M => zj j δ S fun y S1 => ∃ a ob m, y=.o (.ref a) /\ (a, DD.g g ob m)∈M /\ dk M δ S1 fun z S2 => dv M δ S2 fun x S3 => asD z fun k => asD x fun d => ∃ kk, k=kdat g kk /\ m.length<1000 /\ if (lkA m kk).isSome=true then En.nx δ S3 M else ∀ ob', En.nx δ S3 (znY M a (.g g ob' (m++[(kk, d)])))
theorem zjR{g : KSg}(ht : g.tup=true){ty tv : TE}{dk dv : DM -> DE}(hk : ∀ M, REp (PhM M) ty (dk M))(hv : ∀ M, REp (PhM M) tv (dv M)): RSm E EX (zn8 (zmn g (zlb j) ty tv)) (zhU g j dk dv) := fun h o0 H0 o H δ σ S M En D e0 fr he hs rm q c x => by
  obtain⟨y1, ey, a, ob, m, rfl, mD, d2⟩ := q;obtain⟨v1, ev, hv1⟩ := he.get j _ ey;have ev1 : v1=.ref a := hv1;subst ev1;refine⟨_, ev, a, rfl, (rm.ct a _ mD).rd.isD, hk M (h++ad M) o H δ σ S _ _ he hs d2 (fun o1 H1 S1 z u e1 s1 z1 d3 => hv M (h++ad M) o1 H1 δ σ S1 _ _ (he.mono e1) s1 d3 (fun o2 H2 S2 y v e2 s2 x2 d4 => ?_) ⟨h, rfl, rm.mono e1⟩) ⟨h, rfl, rm⟩⟩;replace d4 := zdO d4;obtain⟨k, rfl, d4⟩ := d4;obtain⟨d, rfl, kk, rfl, hl, n⟩ := zdO d4;have e12 := e1.trans e2;have rm2 := rm.mono e12;have ma : a∈ad M := mem_map.mpr ⟨_, mD, rfl⟩;obtain⟨e3, hsy, xs, pd, l⟩ := rm2.ct a (.g g ob m) mD;have mh : a∈h++ad M := mem_append_right _ ma;have z2 : Has (vx (h++ad M) o2 H2) (kdat g kk) u := z1.mono e2;refine⟨ob, xs, kk, ⟨e3, hsy, pd, fun x mx => Has.mono zak _ _ (l.has x mx)⟩, by rw [l.length]; exact hl, Has.mono zak _ _ z2, fun p ep => ?_, fun en ob' b r eb rz pd' => ?_⟩
  · rcases l.at_ kk with ⟨y1, y2⟩ | ⟨d', p', w', y1, y2, y3, y4⟩
    · rw [y2] at ep; cases ep
    · rw [y2] at ep
      cases ep;rw [y1] at n;exact⟨w', y4, c.nx o2 H2 δ S2 M σ (e0.trans e12) rfl (he.mono e12) s2 rm2 n⟩
  · rcases l.at_ kk with ⟨y1, y2⟩ | ⟨d', p', w', y1, y2, y3, y4⟩
    · rw [y1] at n
      subst eb;have n2 := n ob';have fin : ∀ H', H' a=some (MO.x a ob').ho -> DAt (vx (h++ad M) o2 H2) H' a (.g g ob' (m++[(kk, d)])) := fun H' z => ⟨z, hsy, _, pd', PrG.snoc z2 x2 rz l⟩;refine c.nx o2 _ δ S2 (znY M a (.g g ob' (m++[(kk, d)]))) σ ⟨(e0.trans e12).pre, fun b w' nb zb => ?_⟩ zev ?_ ?_ (rm2.put mD fin) n2
      · obtain⟨z1, z3⟩ := (e0.trans e12).kp b w' nb zb
        exact⟨z1, by rw [zG (fun z => by rw [z, fr a ma] at zb; cases zb)]; exact z3⟩
      · rw [zev]
        exact(he.mono e12).view (zeK mh)
      · rw [zev]
        exact s2.hidden (u := .x a ob') mh
    · rw [y2] at en; cases en
def zfF(M : DM)(g : KSg)(dd dy : DE): DE := fun δ S R => dd δ S fun x S1 => ∃ a ob m, x=.o (.ref a) /\ (a, DD.g g ob m)∈M /\ dy δ S1 fun y S2 => asD y fun k => ∃ kk, k=kdat g kk /\ R (.d ((lkA m kk).getD .none)) S2
theorem zkv{M : DM}{g : KSg}{td ty : TE}{dd dy : DE}(hd : REp (PhM M) td dd)(hy : REp (PhM M) ty dy): REp (PhM M) (zkw g td ty) (zfF M g dd dy) := fun h o H δ σ S R Q he hs q c w =>
  hd h o H δ σ S _ _ he hs q (fun o1 H1 S1 x v e1 s1 x1 ⟨a, ob, m, ex, mD, d1⟩ => by
    subst ex;obtain rfl : v=.ref a := x1;obtain⟨h1, eh, rm1⟩ := Stb.st (Φ := PhM M) w e1;refine⟨a, rfl, (rm1.ct a _ mD).rd.isD, hy h o1 H1 δ σ S1 _ _ (he.mono e1) s1 d1 (fun o2 H2 S2 y u e2 s2 y2 d2 => ?_) (Stb.st w e1)⟩;obtain⟨k, rfl, kk, rfl, n⟩ := zdO d2;obtain⟨h2, eh2, rm2⟩ := Stb.st (Φ := PhM M) w (e1.trans e2);obtain⟨e3, hsy, xs, pd, l⟩ := rm2.ct a (.g g ob m) mD;rw [<- eh2] at l;refine⟨ob, xs, kk, ⟨e3, hsy, pd, fun x mx => Has.mono zak _ _ (l.has x mx)⟩, Has.mono zak _ _ y2, fun p ep => ?_, fun en => ?_⟩
    · rcases l.at_ kk with ⟨y1, y2⟩ | ⟨d', p', w', y1, y2, y3, y4⟩
      · rw [y2] at ep; cases ep
      · rw [y2] at ep
        cases ep;rw [y1] at n;exact⟨w', y4, c o2 H2 S2 (.d d') w' (e1.trans e2) s2 y3 n⟩
    · rcases l.at_ kk with ⟨y1, y2⟩ | ⟨d', p', w', y1, y2, y3, y4⟩
      · rw [y1] at n
        exact c o2 H2 S2 (.d .none) .non (e1.trans e2) s2 (show Has (vx h o2 H2) .none .non from zbB.mpr rfl) n
      · rw [y2] at en; cases en) w
def dmLoopG(a : Addr)(D0 : DD)(dg : DG)(db : DSm): List PyData -> DSm
  | [], E, δ, S, M => (a, D0)∈M /\ E.nx δ S M
  | d :: ds, E, δ, S, M => (a, D0)∈M /\ dg (.d d) δ S fun δ1 S1 => db { nx := fun δ2 S2 M2 => dmLoopG a D0 dg db ds E δ2 S2 M2, ct := fun δ2 S2 M2 => dmLoopG a D0 dg db ds E δ2 S2 M2, bk := E.nx, rt := E.rt } δ1 S1 M
theorem dmLoopG.mem{a : Addr}{D0 : DD}{dg : DG}{db : DSm}: ∀ {ds : List PyData} {E : DEndsM} {δ : XE} {S : Sto} {M : DM}, dmLoopG a D0 dg db ds E δ S M -> (a, D0)∈M
  | [], _, _, _, _, h => h.1
  | _ :: _, _, _, _, _, h => h.1
def zet(g : KSg)(m : List (KG g×PyData)): List PyData := m.map fun p => .tuple [kdat g p.1, p.2]
def ziw(g : KSg)(j : Nat)(dg : DG)(db : DSm): DSm := fun En δ S M => zj j δ S fun y S1 => ∃ a ob m, y=.o (.ref a) /\ (a, DD.g g ob m)∈M /\ dmLoopG a (.g g ob m) dg db (zet g m) En δ S1 M
theorem zka{gg : KSg}{g : TG}{dg : DG}(hg : RG g dg)(hb : RSm E EX tb db): RSm E EX (zor (zki (zlb j)) g tb) (ziw gg j dg db) := fun h o0 H0 o H δ σ S M En D e0 fr he hs rm q c x => by
  obtain⟨y1, ey, a, ob, m, rfl, mD, d1⟩ := q;obtain⟨v1, ev, hv1⟩ := he.get j _ ey;have ev1 : v1=.ref a := hv1;subst ev1;obtain⟨e3, hsy, xs, ⟨hx, es, ep, hd, hes, hnd⟩, l⟩ := rm.ct a (.g gg ob m) mD;obtain⟨vs, vl, ve, vg⟩ := l.vals;rw [<- hes] at ve;refine⟨_, ev, a, ob, es, ep, vs, rfl, e3, hsy, hx, hd, ve, ?_⟩;have il : (zet gg m).length=vs.length := by unfold zet; rw [length_map, vl]
  generalize hds : zet gg m=ds at d1 il;refine⟨fun i n σ2 H2 => n=ds.length - i /\ i<=ds.length /\ ∃ o2 δ2 S2 M2, Ex o0 H0 o2 H2 /\ ExH (h++ad M) o H o2 H2 /\ ad M2=ad M /\ RepE (h++ad M) o2 H2 δ2 σ2 /\ RepS (h++ad M) o2 H2 S2 /\ RepM h o2 H2 M2 /\ dmLoopG a (.g gg ob m) dg db (ds.drop i) En δ2 S2 M2,
      ⟨ds.length, by simp, zero_le _, o, δ, S, M, e0, ExH.refl, rfl, he, hs, rm, d1⟩, ?_⟩
  rintro i n σ2 H2 ⟨rfl, hi, o2, δ2, S2, M2, e2, x2, ea, he2, hs2, rm2, d2⟩;have at2 : H2 a=some (obO a ob) := (rm2.ct a _ d2.mem).1;by_cases hlt : i<ds.length
  · have ed : ds[i]? = some ds[i] := getElem?_eq_getElem hlt
    rw [drop_eq_getElem_cons hlt] at d2;refine .inr ⟨⟨by omega, at2⟩, fun σ3 H3 => ∃ o3 δ3 S3 M3, Ex o0 H0 o3 H3 /\ ExH (h++ad M) o H o3 H3 /\ ad M3=ad M /\ RepE (h++ad M) o3 H3 δ3 σ3 /\ RepS (h++ad M) o3 H3 S3 /\ RepM h o3 H3 M3 /\ dmLoopG a (.g gg ob m) dg db (ds.drop (i+1)) En δ3 S3 M3, fun σ3 H3 n => ⟨ds.length - (i+1), by omega, rfl, by omega, n⟩, fun y H3 yy => ?_⟩;obtain⟨p, b, ep, nb, ey2, eH⟩ := yy;subst ey2 eH;have s3 : Same H2 (upd H2 b (.tup [p.1, p.2])) := Same.laid nb;have e23 : Ex o2 H2 o2 (upd H2 b (.tup [p.1, p.2])) := Ex.of_same s3;have hxv : HasX (h++ad M) o2 (upd H2 b (.tup [p.1, p.2])) (.d ds[i]) (.ref b) := by
      have em : ∃ r, m[i]? = some r /\ ds[i]=.tuple [kdat gg r.1, r.2] := by
        have hm : i<m.length := by rw [<- vl, <- il]; exact hlt
        refine⟨m[i], getElem?_eq_getElem hm, ?_⟩;have z : ds[i]? = some (PyData.tuple [kdat gg m[i].1, m[i].2]) := by rw [<- hds]; unfold zet; rw [getElem?_map, getElem?_eq_getElem hm]; rfl
        rw [ed] at z;exact Option.some.inj z
      obtain⟨r, er, ed2⟩ := em;obtain⟨qv, eq, k1, k2⟩ := vg i r er;rw [ep] at eq;cases eq;rw [ed2];have sv : Same (vx (h++ad M) o H) (vx (h++ad M) o2 (upd H2 b (.tup [p.1, p.2]))) := fun c u z => e23.vx c u (x2.vx c u z);have f1 := hs2.fresh nb;exact zU.mpr ⟨b, _, rfl, zP.mpr ⟨f1.1, f1.2, zaf⟩, zr.mpr ⟨_, _, rfl, Has.mono sv _ _ k1, zr.mpr ⟨_, _, rfl, Has.mono sv _ _ k2, zA.mpr rfl⟩⟩⟩
    obtain⟨_, d2⟩ := d2;refine hg (h++ad M) o2 _ δ2 σ2 S2 (.d ds[i]) _ _ _ (he2.mono e23) (hs2.same s3) hxv d2 fun o4 H4 δ4 S4 σ4 e4 he4 hs4 d4 => ?_;have e24 : Ex o2 H2 o4 H4 := e23.trans e4;have nM : ∀ b u, H0 b=some u -> b∉ad M := fun b u z mb => by
      rw [fr b mb] at z;cases z
    have e04 : Ex o0 H0 o4 (fun b => if b∈ad M then none else H4 b) := ⟨(e2.trans e24).pre, fun b u nb z => by
      obtain⟨z1, z2⟩ := (e2.trans e24).kp b u nb z;exact⟨z1, by show (if b∈ad M then none else H4 b)=some u; rw [if_neg (nM b u z)]; exact z2⟩⟩
    have exh : ∀ {o5 H5}, Ex o4 (fun b => if b∈ad M then none else H4 b) o5 H5 -> ExH (h++ad M) o4 H4 o5 H5 := fun e5 => ⟨e5.pre, fun b u n1 n2 z => e5.kp b u n2 (by show (if b∈ad M then none else H4 b)=some u; rw [if_neg (fun mb => n1 (mem_append_right _ mb))]; exact z)⟩;have again : ∀ o5 H5 δ5 S5 M5 σ5, Ex o4 (fun b => if b∈ad M then none else H4 b) o5 H5 -> ad M5=ad M2 -> RepE (h++ad M5) o5 H5 δ5 σ5 -> RepS (h++ad M5) o5 H5 S5 -> RepM h o5 H5 M5 -> dmLoopG a (.g gg ob m) dg db (ds.drop (i+1)) En δ5 S5 M5 ->
        ∃ o3 δ3 S3 M3, Ex o0 H0 o3 H5 /\ ExH (h++ad M) o H o3 H5 /\ ad M3=ad M /\ RepE (h++ad M) o3 H5 δ3 σ5 /\ RepS (h++ad M) o3 H5 S3 /\ RepM h o3 H5 M3 /\ dmLoopG a (.g gg ob m) dg db (ds.drop (i+1)) En δ3 S3 M3 := fun o5 H5 δ5 S5 M5 σ5 e5 a5 he5 hs5 rm5 d5 =>
      ⟨o5, δ5, S5, M5, e04.trans e5, (x2.trans e24.hid).trans (exh e5), a5.trans ea, by rw [<- ea, <- a5]; exact he5, by rw [<- ea, <- a5]; exact hs5, rm5, d5⟩
    refine hb h o4 (fun b => if b∈ad M then none else H4 b) o4 H4 δ4 σ4 S4 M2 _ _ ⟨⟨[], by simp⟩, fun b u nb eb => ?_⟩ (fun a ma => by show (if a∈ad M then none else H4 a)=none; rw [if_pos (by rw [<- ea]; exact ma)]) (by rw [ea]; exact he4) (by rw [ea]; exact hs4) (rm2.mono e24) d4
      ⟨again, fun o5 H5 S5 M5 y5 v5 e5 a5 hs5 rm5 hx5 q5 => c.rt o5 H5 S5 M5 y5 v5 (e04.trans e5) (a5.trans ea) hs5 rm5 hx5 q5, fun o5 H5 δ5 S5 M5 σ5 e5 a5 he5 hs5 rm5 q5 => c.nx o5 H5 δ5 S5 M5 σ5 (e04.trans e5) (a5.trans ea) he5 hs5 rm5 q5, again⟩ (x.pre e04)
    refine⟨nb, ?_⟩;by_cases mb : b∈ad M
    · simp [mb] at eb
    · simpa [mb] using eb
  · have ei : i=ds.length := by omega
    subst ei;rw [drop_length] at d2;exact .inl ⟨⟨by omega, at2⟩, c.nx o2 H2 δ2 S2 M2 σ2 e2 ea (by rw [ea]; exact he2) (by rw [ea]; exact hs2) rm2 d2.2⟩
end
end L2
namespace L2
open PySem PySem.Spec PySem.Calls PyProof.Rows
end L2
namespace My
open PySem L2
def zbM: PN := fun xs S R => (zaY (zeJ (dCB zhk (zc (zj 0) (zc (dO (.ty "int")) zp))) (ziA (dCB zhk (zc (zj 0) (zc (dO (.ty "bool")) zp)))))) (zbK S.length R) (xs.map some++List.replicate 0 none) S
def zbT: PN := fun xs S R => (zaa (zaB (dOp (dI (fun _ j => 0<j) fun i j => i % j) (dOp zb6 (zj 0) (dC (.int 7919))) (dC (.int 2147483647))) (zn 0)) (zaY (dOp (dI (fun _ j => 0<j) fun i j => i % j) (dOp zb6 (dOp zb6 (dOp ze1 (zj 0) (zj 0)) (dOp ze1 (dC (.int 48271)) (zj 0))) (dC (.int 12345))) (dC (.int 2147483629))))) (zbK S.length R) (xs.map some++List.replicate 0 none) S
def zbE: PN := fun xs S R => (zaa (zaB (dCB (dI2 fun i j => if j>i then j else i) (zc (zj 0) (zc (dOp (dI0 fun i j => i - j) (dC (.int 0)) (zj 0)) zp))) (zn 1)) (zaY (zd5 (zc (zj 1) (zc (dCB zlB (zc (dOp (dIb fun i j => decide (j<=i)) (zj 1) (dOp (dI CPow fun i j => i ^ j.toNat) (dC (.int 10)) (dC (.int 18)))) zp)) (zc (dOp (dI (fun _ j => 0<j) fun i j => i % j) (zj 1) (dC (.int 1000003))) zp)))))) (zbK S.length R) (xs.map some++List.replicate 1 none) S
def zby: PN := fun xs S R => (zaY (zeJ (dCB zhk (zc (zj 0) (zc (dO (.ty "int")) zp))) (ziA (dCB zhk (zc (zj 0) (zc (dO (.ty "bool")) zp)))))) (zbK S.length R) (xs.map some++List.replicate 0 none) S
def zv: PN := fun xs S R => (zaa (zcQ (dB (dOp zh7 (dOp dIx (zj 0) (dC (.int 1))) (dC (.int 1)))) (zaa (zaB (dOp (dI (fun _ j => 0<j) fun i j => i % j) (dOp dIx (zj 0) (dC (.int 0))) (zj 1)) (zn 2)) (zaa (zaB (dOp dFd (dOp dIx (zj 0) (dC (.int 0))) (zj 1)) (zkP (zj 0) (dC (.int 0)))) (zaY (zj 2)))) zaF) (zaa (zaB (zZ 1 zbT (zc (dOp zb6 (zZ 1 zbT (zc (dOp dIx (zj 0) (dC (.int 2))) zp)) (dC (.int 7))) zp)) (zkP (zj 0) (dC (.int 2)))) (zaY (dOp (dI (fun _ j => 0<j) fun i j => i % j) (dOp dFd (dOp dIx (zj 0) (dC (.int 2))) (dC (.int 64))) (zj 1))))) (zbK S.length R) (xs.map some++List.replicate 1 none) S
def zas: PN := fun xs S R => (zaa (zaB (zac 0 2 zv (zc (zj 0) (zc (dC (.int 8)) zp))) (zn 1)) (zaa (zcQ (dB (dOp (dIb fun i j => decide (i<j)) (zj 1) (dC (.int 5)))) (zaY (dOp (dI0 fun i j => i - j) (zac 0 2 zv (zc (zj 0) (zc (dC (.int 13)) zp))) (dC (.int 6)))) zaF) (zaa (zcQ (dB (dOp (dIb fun i j => decide (i<j)) (zj 1) (dC (.int 7)))) (zaY (dOp (dI0 fun i j => i - j) (zac 0 2 zv (zc (zj 0) (zc (dC (.int 2001)) zp))) (dC (.int 1000)))) zaF) (zaY (dOp ze1 (dOp (dI0 fun i j => i - j) (zac 0 2 zv (zc (zj 0) (zc (dOp ze1 (dC (.int 2)) (dOp (dI CPow fun i j => i ^ j.toNat) (dC (.int 10)) (dC (.int 30)))) zp))) (dOp (dI CPow fun i j => i ^ j.toNat) (dC (.int 10)) (dC (.int 30)))) (dOp (dI CPow fun i j => i ^ j.toNat) (dC (.int 10)) (dC (.int 28)))))))) (zbK S.length R) (xs.map some++List.replicate 1 none) S
def zdg: PN := fun xs S R => (zaY (dOp zb6 (dOp (dI0 fun i j => i - j) (dOp dIx (zj 0) (dC (.int 1))) (dOp dIx (zj 0) (dC (.int 0)))) (dC (.int 1)))) (zbK S.length R) (xs.map some++List.replicate 0 none) S
def zaC: PN := fun xs S R => (zaa (zaB (dC (.str "abcdefghijklmnopqrstuvwxyz")) (zn 1)) (zaa (zaB (zac 0 2 zv (zc (zj 0) (zc (dC (.int 3)) zp))) (zn 2)) (zaa (zaB (zac 0 2 zv (zc (zj 0) (zc (dC (.int 26)) zp))) (zn 3)) (zaa (zaB (zeU [none, some 1, some 3] (zaI (zc (dC (.int 8)) zp)) (zn 0) zaq (dOp ze1 (dOp dIx (zj 1) (dOp (dI (fun _ j => 0<j) fun i j => i % j) (dOp zb6 (zj 2) (dOp ze1 (dC (.int 5)) (zj 0))) (dC (.int 26)))) (dOp zb6 (dC (.int 1)) (dOp (dI (fun _ j => 0<j) fun i j => i % j) (dOp zb6 (zj 2) (dOp ze1 (dC (.int 3)) (zj 0))) (dC (.int 8)))))) (zn 4)) (zaa (zcQ (dB (dOp zh7 (zj 2) (dC (.int 0)))) (zaa (zaB (zqs zlK (dC (.str "")) (zc (zci [none, some 1, some 3] (zaI (zc (dC (.int 8)) zp)) (zn 0) zaq (dOp dIx (zj 1) (dOp (dI (fun _ j => 0<j) fun i j => i % j) (dOp zb6 (zj 2) (dOp ze1 (dC (.int 7)) (zj 0))) (dC (.int 26))))) zp)) (zn 5)) (zaB (zeU [none, some 5] (zaI (zc (dC (.int 8)) zp)) (zn 0) zaq (dSl znu (zj 1) zdx (ziU (dOp zb6 (zj 0) (dC (.int 1)))))) (zn 4))) zaF) (zaa (zcQ (dB (dOp zh7 (zj 2) (dC (.int 1)))) (zaB (zd5 (zc (dC (.str "part")) (zc (dC (.str "gap")) (zc (dC (.str "cut")) (zc (dC (.str "a")) (zc (dC (.str "aa")) (zc (dC (.str "dear")) (zc (dC (.str "b")) (zc (dC (.str "keeps")) zp))))))))) (zn 4)) zaF) (zaa (zaB (zac 0 2 zv (zc (zj 0) (zc (dC (.int 8)) zp))) (zn 6)) (zaa (zaB (dOp zlt (dSl znu (zj 4) (ziU (zj 6)) zdx) (dSl znu (zj 4) zdx (ziU (zj 6)))) (zn 4)) (zaa (zcQ (dB (dOp zh7 (zac 0 2 zv (zc (zj 0) (zc (dC (.int 2)) zp))) (dC (.int 1)))) (zdB (zqn zeg (zj 4))) zaF) (zaY (zj 4))))))))))) (zbK S.length R) (xs.map some++List.replicate 6 none) S
def zdp: PN := fun xs S R => (zaa (zcQ (dOr (zfU (zeY (dCB zhk (zc (zj 1) (zc (dO (.ty "tuple")) zp))))) (dB (dOp zh0 (dCB za0 (zc (zj 1) zp)) (dCB za0 (zc (zj 0) zp))))) (zaY (dC (.bool false))) zaF) (zaY (dCB zmP (zc (zci [none, none] (zeO (zc (zj 1) (zc (zj 0) zp))) (zdw 2 (zar (zn 0) (zar (zn 1) zdy))) zaq (zeJ (zZ 1 zbM (zc (zj 0) zp)) (zdI (dIb fun i j => decide (i<=j)) (dIb fun i j => decide (i<=j)) (dOp dIx (zj 1) (dC (.int 1))) (zj 0) (dOp dIx (zj 1) (dC (.int 2)))))) zp)))) (zbK S.length R) (xs.map some++List.replicate 0 none) S
def zdm: PN := fun xs S R => (zaY (zd4 (zc (dOp dIx (zj 0) (dC (.int 1))) (zc (dOp dIx (zj 0) (dC (.int 2))) zp)))) (zbK S.length R) (xs.map some++List.replicate 0 none) S
def zbt: PN := fun xs S R => (zaa (zaB (zd5 zp) (zn 2)) (zaa (zfR (zbI (zj 0)) (zn 3) (zdB (dBM zeS (zj 2) (zc (zci [none, some 3] (zbI (zj 1)) (zn 0) zaq (dOp zb6 (zj 1) (zd4 (zc (zj 0) zp)))) zp)))) (zaY (zj 2)))) (zbK S.length R) (xs.map some++List.replicate 2 none) S
def zcz: PN := fun xs S R => (zaa (zaB (dC (.int 1)) (zn 1)) (zaa (zfR (zbI (zj 0)) (zn 2) (zaB (dOp ze1 (zj 1) (zZ 1 zdg (zc (zZ 1 zdm (zc (zj 2) zp)) zp))) (zn 1))) (zaY (zj 1)))) (zbK S.length R) (xs.map some++List.replicate 2 none) S
def zab: PN := fun xs S R => (zaa (zaB (zZ 1 zcz (zc (zj 0) zp)) (zn 1)) (zcQ (dB (dOp (dIb fun i j => decide (j<i)) (zj 1) (dC (.int 300)))) zid zaF)) (zbK S.length R) (xs.map some++List.replicate 1 none) S
def zcC: PN := fun xs S R => (zaa (zdB (zZ 1 zab (zc (zj 0) zp))) (zaa (zaB (zd9 (zc (zd4 zp) zp)) (zn 1)) (zaa (zfR (zbI (zj 0)) (zn 2) (zaB (zZ 2 zbt (zc (zj 1) (zc (zlI (zc (dOp dIx (zj 2) (dC (.int 1))) (zc (dOp zb6 (dOp dIx (zj 2) (dC (.int 2))) (dC (.int 1))) zp))) zp))) (zn 1))) (zaY (zj 1))))) (zbK S.length R) (xs.map some++List.replicate 2 none) S
def zcx: PN := fun xs S R => (zaY (dCB zqb (zc (zci [none, none, some 1] (zbI (dOp dIx (zj 0) (dC (.int 0)))) (zdw 2 (zar (zn 0) (zar (zn 1) zdy))) zaq (dOp ze1 (zj 1) (dOp dIx (zj 2) (zj 0)))) zp))) (zbK S.length R) (xs.map some++List.replicate 0 none) S
def zdF: PN := fun xs S R => (zaY (zdI (dIb fun i j => decide (i<=j)) (dIb fun i j => decide (i<=j)) (dOp dIx (zj 0) (dC (.int 1))) (zZ 2 zcx (zc (zj 0) (zc (zj 1) zp))) (dOp dIx (zj 0) (dC (.int 2))))) (zbK S.length R) (xs.map some++List.replicate 0 none) S
def zbs: PN := fun xs S R => (zaa (zaB (dC (.int 0)) (zn 2)) (zaa (zaB (dC (.int 0)) (zn 3)) (zaa (zfR (zbI (zj 1)) (zdw 2 (zar (zn 4) (zar (zn 5) zdy))) (zaa (zaB (zd9 (zc (dOp ze1 (zj 5) (dOp dIx (dOp dIx (zj 0) (zj 4)) (dC (.int 1)))) (zc (dOp ze1 (zj 5) (dOp dIx (dOp dIx (zj 0) (zj 4)) (dC (.int 2)))) zp))) (zn 6)) (zaa (zaB (dOp zb6 (zj 2) (dCB zoe (zc (zj 6) zp))) (zn 2)) (zaB (dOp zb6 (zj 3) (dCB zqI (zc (zj 6) zp))) (zn 3))))) (zaY (zd4 (zc (zj 2) (zc (zj 3) zp))))))) (zbK S.length R) (xs.map some++List.replicate 5 none) S
def zbz: PN := fun xs S R => (zaa (zaB (zd5 zp) (zn 2)) (zaa (zfR (zaI (zc (dCB za0 (zc (zj 1) zp)) zp)) (zn 3) (zaa (zaB (dOp (dI0 fun i j => i - j) (zac 0 2 zv (zc (zj 0) (zc (dC (.int 9)) zp))) (dC (.int 4))) (zn 4)) (zcQ (dB (dOp zhS (zj 4) (zd4 (zc (dUn (dUI fun i => -i) (dC (.int 4))) (zc (dC (.int 0)) (zc (dC (.int 4)) zp)))))) (zdB (dBM zb3 (zj 2) (zc (zd4 (zc (zj 3) (zc (zj 4) zp))) zp))) zaF))) (zaa (zcQ (dB (dOp zh7 (zj 2) (zd9 zp))) (zaB (zd5 (zc (zd4 (zc (zac 0 2 zv (zc (zj 0) (zc (dCB za0 (zc (zj 1) zp)) zp))) (zc (dOp dIx (zd9 (zc (dC (.int 1)) (zc (dUn (dUI fun i => -i) (dC (.int 1))) (zc (dC (.int 2)) (zc (dUn (dUI fun i => -i) (dC (.int 3))) zp))))) (zac 0 2 zv (zc (zj 0) (zc (dC (.int 4)) zp)))) zp))) zp)) (zn 2)) zaF) (zaa (zaB (zdN 2 zbs (zc (zj 1) (zc (zj 2) zp))) (zdw 2 (zar (zn 5) (zar (zn 6) zdy)))) (zaa (zaB (dOp (dI0 fun i j => i - j) (zj 6) (zj 5)) (zn 7)) (zaa (zaB (dOp zb6 (zj 5) (dOp dIx (zd9 (zc (dC (.int 0)) (zc (dC (.int 1)) (zc (dUn (dUI fun i => -i) (dC (.int 1))) (zc (dOp dFd (zj 7) (dC (.int 2))) (zc (dOp dFd (zj 7) (dC (.int 3))) (zc (dOp zb6 (zj 7) (dC (.int 1))) zp))))))) (zac 0 2 zv (zc (zj 0) (zc (dC (.int 6)) zp))))) (zn 8)) (zaa (zaB (dOp zb6 (zj 8) (dOp dIx (zd9 (zc (dC (.int 0)) (zc (dC (.int 1)) (zc (dC (.int 2)) (zc (dOp dFd (zj 7) (dC (.int 2))) (zc (zj 7) (zc (dOp zb6 (zj 7) (dC (.int 2))) zp))))))) (zac 0 2 zv (zc (zj 0) (zc (dC (.int 6)) zp))))) (zn 9)) (zaY (zd4 (zc (dCB zdQ (zc (zj 2) zp)) (zc (zj 8) (zc (zj 9) zp)))))))))))) (zbK S.length R) (xs.map some++List.replicate 8 none) S
def zaj: PN := fun xs S R => (zaa (zaB (zd5 zp) (zn 2)) (zaa (zfR (zbI (zj 0)) (zn 3) (zaa (zaB (dIf (zeY (zj 3)) (dOp zb6 (dOp dIx (zj 3) (dUn (dUI fun i => -i) (dC (.int 1)))) (dC (.int 1))) (dC (.int 0))) (zn 4)) (zfR (zf1 (zc (zj 4) (zc (zj 1) zp))) (zn 5) (zdB (dBM zb3 (zj 2) (zc (dOp zb6 (zj 3) (zd4 (zc (zj 5) zp))) zp)))))) (zaY (zj 2)))) (zbK S.length R) (xs.map some++List.replicate 4 none) S
def zbf: PN := fun xs S R => (zaa (zaB (zd9 (zc (zd4 zp) zp)) (zn 2)) (zaa (zfR (zaI (zc (zj 1) zp)) (zn 3) (zaB (zZ 2 zaj (zc (zj 2) (zc (zj 0) zp))) (zn 2))) (zaY (zj 2)))) (zbK S.length R) (xs.map some++List.replicate 2 none) S
def zaM: PN := fun xs S R => (zaY (dCB zdQ (zc (zci [none, some 0] (zbI (zj 1)) (zn 0) zaq (dOp dIx (zj 1) (zj 0))) zp))) (zbK S.length R) (xs.map some++List.replicate 0 none) S
def zb4: PN := fun xs S R => (zaY (dCB zdQ (zc (zci [none, some 0] (zbI (zj 1)) (zn 0) zaq (dOp dIx (zj 1) (zj 0))) zp))) (zbK S.length R) (xs.map some++List.replicate 0 none) S
def zbb: PN := fun xs S R => (zaa (zaB (zd9 (zc (zd4 zp) zp)) (zn 2)) (zaa (zfR (zaI (zc (zj 1) zp)) (zn 3) (zaa (zqh (zaa (zaB (zd5 zp) (zn 4)) (zfR (zbI (zj 2)) (zn 5) (zdB (dBM zeS (zj 4) (zc (zci [none, some 5] (zaI (zc (zj 0) zp)) (zn 0) (dOr (dB (dOp zh7 (dCB za0 (zc (zj 1) zp)) (dC (.int 0)))) (dB (dOp (dIb fun i j => decide (j<i)) (zj 0) (dOp dIx (zj 1) (dUn (dUI fun i => -i) (dC (.int 1))))))) (dOp zb6 (zj 1) (zd4 (zc (zj 0) zp)))) zp)))))) (zaB (zj 4) (zn 2)))) (zaY (zj 2)))) (zbK S.length R) (xs.map some++List.replicate 4 none) S
def zaP: PN := fun xs S R => (zaa (zpi (zjt false 2 (.g (.two (.many .int) .bool) ob0 []) (zko (zlF (fun M => (zbI (zj 0))) (zdw 2 (zar (zn 3) (zar (zn 4) zdy))) (zhU (.two (.many .int) .bool) 2 (fun M => (zd4 (zc (zZ 2 zaM (zc (zj 3) (zc (zj 1) zp))) (zc (zj 4) zp)))) (fun M => (zj 3)))) (ziw (.two (.many .int) .bool) 2 (zdw 2 (zar (zn 5) (zar (zn 3) zdy))) (zko (zlR (fun M => (zfF M (.two (.many .int) .bool) (zj 2) (zd4 (zc (dOp dIx (zj 5) (dC (.int 0))) (zc (dC (.bool false)) zp))))) (zn 6)) (zgT (zcQ (zqo (zeY (dOp dIx (zj 5) (dC (.int 1)))) (dB (dOp zlZ (zj 6) (dC .none)))) (zaY (zd4 (zc (zj 3) (zc (zj 6) zp)))) zaF))))))) (zaY (dC .none))) (zbK S.length R) (xs.map some++List.replicate 5 none) S
def zav: PN := fun xs S R => (zaY (dIf (dB (dOp (dIb fun i j => decide (j<i)) (zj 1) (dC (.int 0)))) (zZ 2 zbf (zc (dCB za0 (zc (zj 0) zp)) (zc (dOp (dI0 fun i j => i - j) (zj 1) (dC (.int 1))) zp))) (zd9 zp))) (zbK S.length R) (xs.map some++List.replicate 0 none) S
def zbv: PN := fun xs S R => (zaY (zeU [none, some 1] (zbI (zZ 1 zcC (zc (zj 0) zp))) (zn 0) zaq (zd4 (zc (zj 0) (zc (zZ 2 zdF (zc (zj 1) (zc (zj 0) zp))) zp))))) (zbK S.length R) (xs.map some++List.replicate 0 none) S
def zds: PN := fun xs S R => (zaa (zaB (zZ 2 zbv (zc (zj 0) (zc (zj 1) zp))) (zn 2)) (zfR (zaI (zc (dOp zb6 (dCB za0 (zc (zj 0) zp)) (dC (.int 1))) zp)) (zn 3) (zfR (zbI (zZ 2 zbf (zc (dCB za0 (zc (zj 0) zp)) (zc (zj 3) zp)))) (zn 4) (zcQ (dB (dOp zqq (zZ 2 zaP (zc (zj 2) (zc (zj 4) zp))) (dC .none))) (zaY (zj 4)) zaF)))) (zbK S.length R) (xs.map some++List.replicate 3 none) S
def zbd: PN := fun xs S R => (zaa (zaB (zZ 2 zbv (zc (zj 0) (zc (zj 1) zp))) (zn 2)) (zaY (zeU [none, some 2] (zbI (zZ 2 zav (zc (zj 0) (zc (dCB za0 (zc (zZ 2 zds (zc (zj 0) (zc (zj 1) zp))) zp)) zp)))) (zn 0) zaq (dOp zb6 (zd4 (zc (zj 0) zp)) (zZ 2 zaP (zc (zj 1) (zc (zj 0) zp))))))) (zbK S.length R) (xs.map some++List.replicate 1 none) S
def zcv: PN := fun xs S R => (zaa (zaB (zac 0 1 zaC (zc (zj 0) zp)) (zn 2)) (zaa (zaB (zci [none, some 0] (zaI (zc (dOp zb6 (dC (.int 1)) (zac 0 2 zv (zc (zj 0) (zc (zj 1) zp)))) zp)) (zn 0) zaq (dOp zb6 (dC (.int 1)) (zac 0 2 zv (zc (zj 1) (zc (dC (.int 3)) zp))))) (zn 3)) (zaa (zcQ (dB (dOp zh7 (zac 0 2 zv (zc (zj 0) (zc (dC (.int 12)) zp))) (dC (.int 0)))) (zaB (dOp dIx (zd9 (zc (dOp ze1 (zd9 (zc (dC (.int 2)) zp)) (dC (.int 6))) (zc (zd9 (zc (dC (.int 17)) (zc (dC (.int 17)) zp))) (zc (zd9 (zc (dC (.int 300)) zp)) (zc (dOp ze1 (zd9 (zc (dC (.int 1)) zp)) (dC (.int 8))) zp))))) (zac 0 2 zv (zc (zj 0) (zc (dC (.int 4)) zp)))) (zn 3)) zaF) (zaa (zaB (zd5 zp) (zn 4)) (zaa (zfR (zaI (zc (dCB za0 (zc (zj 3) zp)) zp)) (zn 5) (zaa (zaB (zac 0 1 zas (zc (zj 0) zp)) (zn 6)) (zdB (dBM zb3 (zj 4) (zc (zd4 (zc (dOp dIx (zj 2) (zj 5)) (zc (zj 6) (zc (dOp (dI0 fun i j => i - j) (dOp zb6 (zj 6) (dOp dIx (zj 3) (zj 5))) (dC (.int 1))) zp)))) zp))))) (zaY (dCB zdQ (zc (zj 4) zp)))))))) (zbK S.length R) (xs.map some++List.replicate 5 none) S
def zaT: PN := fun xs S R => (zaa (zaB (dCB zqb (zc (zci [none, none, some 1] (zbI (dOp dIx (zj 0) (dC (.int 0)))) (zdw 2 (zar (zn 0) (zar (zn 1) zdy))) zaq (dOp ze1 (zj 1) (dOp dIx (zj 2) (zj 0)))) zp)) (zn 2)) (zaY (zdI (dIb fun i j => decide (i<=j)) (dIb fun i j => decide (i<=j)) (dOp dIx (zj 0) (dC (.int 1))) (zj 2) (dOp dIx (zj 0) (dC (.int 2)))))) (zbK S.length R) (xs.map some++List.replicate 1 none) S
def zdi: PN := fun xs S R => (zaY (zeJ (dCB zhk (zc (zj 0) (zc (dO (.ty "tuple")) zp))) (zeJ (dCB zmP (zc (zci [none] (zbI (zj 0)) (zn 0) zaq (zZ 1 zbM (zc (zj 0) zp))) zp)) (dOp zh7 (zj 0) (zj 1))))) (zbK S.length R) (xs.map some++List.replicate 0 none) S
def zbe: PN := fun xs S R => (zaa (zcQ (dOr (zfU (zeY (dCB zhk (zc (zj 1) (zc (dO (.ty "tuple")) zp))))) (dB (dOp zh0 (dCB za0 (zc (zj 1) zp)) (dCB za0 (zc (zj 0) zp))))) (zaY (dC (.bool false))) zaF) (zaY (dCB zmP (zc (zci [none, none] (zeO (zc (zj 1) (zc (zj 0) zp))) (zdw 2 (zar (zn 0) (zar (zn 1) zdy))) zaq (zeJ (zZ 1 zby (zc (zj 0) zp)) (zdI (dIb fun i j => decide (i<=j)) (dIb fun i j => decide (i<=j)) (dOp dIx (zj 1) (dC (.int 1))) (zj 0) (dOp dIx (zj 1) (dC (.int 2)))))) zp)))) (zbK S.length R) (xs.map some++List.replicate 0 none) S
def zaG: PN := fun xs S R => (zaa (zcQ (dOr (zfU (zeY (dCB zhk (zc (zj 3) (zc (dO (.ty "tuple")) zp))))) (dOr (dB (dOp zh0 (dCB za0 (zc (zj 3) zp)) (dC (.int 3)))) (zfU (zeY (zZ 2 zdi (zc (dOp dIx (zj 3) (dC (.int 0))) (zc (zj 2) zp))))))) (zaY (dC (.bool false))) zaF) (zaa (zcQ (dOr (zfU (zeY (zZ 2 zdp (zc (zj 0) (zc (dOp dIx (zj 3) (dC (.int 1))) zp))))) (zfU (zeY (zZ 2 zdp (zc (zj 0) (zc (dOp dIx (zj 3) (dC (.int 2))) zp)))))) (zaY (dC (.bool false))) zaF) (zaY (zeJ (dOp zh7 (zZ 2 zaM (zc (dOp dIx (zj 3) (dC (.int 1))) (zc (zj 2) zp))) (zZ 2 zaM (zc (dOp dIx (zj 3) (dC (.int 2))) (zc (zj 2) zp)))) (zeJ (zZ 2 zdF (zc (zj 1) (zc (dOp dIx (zj 3) (dC (.int 1))) zp))) (ziA (zZ 2 zdF (zc (zj 1) (zc (dOp dIx (zj 3) (dC (.int 2))) zp))))))))) (zbK S.length R) (xs.map some++List.replicate 0 none) S
def zaW: PN := fun xs S R => (zaa (zaB (dIf (dB (dOp zh7 (zj 2) (dC (.int 0)))) (zd9 zp) (zZ 2 zbb (zc (dCB za0 (zc (zj 0) zp)) (zc (dOp (dI0 fun i j => i - j) (zj 2) (dC (.int 1))) zp)))) (zn 4)) (zaa (zcQ (dOr (zfU (zeY (dCB zhk (zc (zj 3) (zc (dO (.ty "list")) zp))))) (dB (dOp zh0 (dCB za0 (zc (zj 3) zp)) (dCB za0 (zc (zj 4) zp))))) (zaY (dC (.bool false))) zaF) (zaa (zfR (zeO (zc (zj 3) (zc (zj 4) zp))) (zdw 2 (zar (zn 5) (zar (zn 6) zdy))) (zaa (zcQ (dOr (zfU (zeY (dCB zhk (zc (zj 5) (zc (dO (.ty "tuple")) zp))))) (dOr (dB (dOp zh0 (dCB za0 (zc (zj 5) zp)) (dC (.int 3)))) (dOr (zfU (zeY (dCB zhk (zc (dOp dIx (zj 5) (dC (.int 0))) (zc (dO (.ty "tuple")) zp))))) (dB (dOp zh0 (dCB za0 (zc (dOp dIx (zj 5) (dC (.int 0))) zp)) (dCB za0 (zc (zj 6) zp))))))) (zaY (dC (.bool false))) zaF) (zaa (zcQ (dOr (zfU (zeY (dCB zmP (zc (zci [none] (zbI (dOp dIx (zj 5) (dC (.int 0)))) (zn 0) zaq (zZ 1 zby (zc (zj 0) zp))) zp)))) (dB (dOp zh0 (dOp dIx (zj 5) (dC (.int 0))) (zj 6)))) (zaY (dC (.bool false))) zaF) (zaa (zcQ (dOr (zfU (zeY (zZ 2 zbe (zc (zj 0) (zc (dOp dIx (zj 5) (dC (.int 1))) zp))))) (zfU (zeY (zZ 2 zbe (zc (zj 0) (zc (dOp dIx (zj 5) (dC (.int 2))) zp)))))) (zaY (dC (.bool false))) zaF) (zaa (zcQ (dOr (zfU (zeY (zZ 2 zaT (zc (zj 1) (zc (dOp dIx (zj 5) (dC (.int 1))) zp))))) (zeY (zZ 2 zaT (zc (zj 1) (zc (dOp dIx (zj 5) (dC (.int 2))) zp))))) (zaY (dC (.bool false))) zaF) (zcQ (dB (dOp zh0 (zZ 2 zb4 (zc (dOp dIx (zj 5) (dC (.int 1))) (zc (zj 6) zp))) (zZ 2 zb4 (zc (dOp dIx (zj 5) (dC (.int 2))) (zc (zj 6) zp))))) (zaY (dC (.bool false))) zaF)))))) (zaY (dC (.bool true)))))) (zbK S.length R) (xs.map some++List.replicate 3 none) S
def zau: PN := fun xs S R => (zaa (zcQ (dOr (zfU (zeY (dCB zhk (zc (zj 3) (zc (dO (.ty "list")) zp))))) (dB (dOp (dIb fun i j => decide (j<i)) (zj 2) (dOp zb6 (dCB za0 (zc (zj 0) zp)) (dC (.int 1)))))) (zaY (dC (.bool false))) zaF) (zaa (zaB (zZ 2 zav (zc (zj 0) (zc (zj 2) zp))) (zn 4)) (zaa (zcQ (dB (dOp zh0 (dCB za0 (zc (zj 3) zp)) (dCB za0 (zc (zj 4) zp)))) (zaY (dC (.bool false))) zaF) (zaY (dCB zmP (zc (zci [none, none, some 0, some 1] (zeO (zc (zj 4) (zc (zj 3) zp))) (zdw 2 (zar (zn 0) (zar (zn 1) zdy))) zaq (zZ 4 zaG (zc (zj 2) (zc (zj 3) (zc (zj 0) (zc (zj 1) zp)))))) zp)))))) (zbK S.length R) (xs.map some++List.replicate 1 none) S
def zoh: DS := (zaa (zaB (zZ 1 zbE (zc (zj 1) zp)) (zn 2)) (zaa (zaB (zac 0 2 zcv (zc (zj 2) (zc (dC (.int 4)) zp))) (zn 3)) (zaa (zaB (zac 0 2 zbz (zc (zj 2) (zc (zj 3) zp))) (zn 4)) (zaa (zaB (dCB za0 (zc (zZ 2 zds (zc (zj 3) (zc (zj 4) zp))) zp)) (zn 5)) (zaa (zaB (zZ 2 zbd (zc (zj 3) (zc (zj 4) zp))) (zn 6)) (zaa (zcQ (dOr (zfU (zeY (zdN 4 zaW (zc (zj 3) (zc (zj 4) (zc (zj 5) (zc (zj 6) zp))))))) (dB (dOp zlQ (zdN 4 zau (zc (zj 3) (zc (zj 4) (zc (zj 5) (zc (zj 6) zp))))) (dC (.bool true))))) (zaY (dC (.bool false))) zaF) (zaa (zfR (zbI (zd9 (zc (dOp (dI0 fun i j => i - j) (zj 5) (dC (.int 1))) (zc (dOp zb6 (zj 5) (dC (.int 1))) zp)))) (zn 7) (zcQ (dB (zdI (dIb fun i j => decide (i<=j)) (dIb fun i j => decide (i<=j)) (dC (.int 0)) (zj 7) (dOp zb6 (dCB za0 (zc (zj 3) zp)) (dC (.int 1))))) (zaa (zaB (zdN 4 zau (zc (zj 3) (zc (zj 4) (zc (zj 7) (zc (zj 6) zp))))) (zn 8)) (zcQ (dOr (zfU (zeY (dCB zhk (zc (zj 8) (zc (dO (.ty "bool")) zp))))) (dB (dOp zh0 (zj 8) (zdN 4 zaW (zc (zj 3) (zc (zj 4) (zc (zj 7) (zc (zj 6) zp)))))))) (zaY (dC (.bool false))) zaF)) zaF)) (zaa (zaB (dCB zh6 (zc (zj 6) zp)) (zn 9)) (zaa (zdB (dBM zb3 (zj 6) (zc (zd4 zp) zp))) (zcQ (dB (dOp zh0 (zZ 2 zbd (zc (zj 3) (zc (zj 4) zp))) (zj 9))) (zaY (dC (.bool false))) zaF))))))))))
end My
namespace My
open PySem L2
theorem seq1{t u : DS}{E : DEnds}{δ : XE}{S : Sto}(h : t { E with nx := u E } δ S): zaa t u E δ S := h
theorem seqm{t u : DSm}{E : DEndsM}{δ : XE}{S : Sto}{M : DM}(h : t { E with nx := u E } δ S M): zko t u E δ S M := h
theorem cut{t u : DS}{E : DEnds}{δ : XE}{S : Sto}(I : XE -> Sto -> Prop)(h1 : ∀ N : XE -> Sto -> Prop, (∀ δ' S', I δ' S' -> N δ' S') -> t { E with nx := N } δ S)(h2 : ∀ δ' S', I δ' S' -> u E δ' S'): zaa t u E δ S := h1 _ h2
theorem zf0(i j : Int): PyData.eqv (.int i) (.int j)=decide (i=j) := rfl
theorem zij(i j : Bool): PyData.eqv (.bool i) (.bool j)=decide (i=j) := by cases i <;> cases j <;> rfl
theorem zpR(i : Int): SeqAt.shaped (.int i)=true := rfl
theorem zp2(i : Bool): SeqAt.shaped (.bool i)=true := rfl
theorem zjz: ("int" ∈ zlu)=True := eq_true dz
theorem zin: ("bool" ∈ zlu)=True := eq_true dz
theorem zhf: ("tuple" ∈ zlu)=True := eq_true dz
theorem zie: ("list" ∈ zlu)=True := eq_true dz
theorem zpT: SeqAt.shaped .none=true := rfl
end My
namespace My
open PySem L2
local macro_rules | `(tactic| walk_at "d") => `(tactic| (try simp only [zaB, zoC, all_cons, List.all_nil, Bool.and_self, zj4, zmY, zpi, zjt, zgT, zrx, zlR, zlF, zla, zlI, zlQ, zm8, zoR, zhU, ziw, zfF, zmO, zq8, zro, zn, zj, dC, dO, dOp, dUn, zp, zc, dCB, zd4, zd9, zd5, dB, zfU, zqo, dOr, zeJ, zra, ziA, dIf, zdI, dI, dI0, dIb, dUI, zh7, zh0, zqq, zlZ, zoW, zpt, zqd, zow, zmJ, zm3, zna, zmm, zm7, zmi, zmx, dFd, zeY, zmj, zmv, zdx, ziU, dSl, za0, zmL, zm9, zhk, zlB, dI2, zdQ, zh6, dBM, zqn, zqs, zb3, zeg, zeS, zq9, zlK, zlt, zqb, zmP, zZ, zac, zdN, zmD, zgk, zdG, ziq, zpM, zpK, zpo, zoB, asL, zmo, zo3, zp9, zoQ, zkS, zj3, zme, zmG, zmK, zoz, zp7, zj0, zkx, zmB, zmz, zmA, zmw, zaY, zcQ, zdB, zaF, zid, zfR, zbI, zmX, zmu, zaI, zf1, zj8, zeO, zdw, zar, zoL, zpZ, zoI, zpy, zdy, zkP, zci, zeU, zaq, zmH, zqh, zpa, zpH, zeL, zil, zim, zif, zg1, zfh, List.replicate, map_cons, map_nil, map_some, Option.bind_some, Option.bind_none, Option.join_some, getElem?_cons_zero, getElem?_cons_succ, set_cons_zero, set_cons_succ, List.take_succ_cons, take_zero, List.take_nil, length_cons, length_nil, nil_append, cons_append, Option.some.injEq, exists_eq_left', exists_eq_left, List.cons.injEq, XV.d.injEq, XV.l.injEq, XV.o.injEq, PyData.int.injEq, PyData.list.injEq, PyData.tuple.injEq, PyData.bool.injEq, PyData.str.injEq, and_true, true_and, decide_eq_true_eq, Bool.not_true, Bool.not_false, Bool.false_eq_true, Bool.true_eq_false, not_true_eq_false, not_false_eq_true, ↓reduceIte, decide_true, decide_false, Bool.not_eq_true', zjr, decide_eq_false_iff_not, Nat.reduceAdd, Nat.reduceMul, zero_add, Nat.reduceLT, Nat.reduceLeDiff, Nat.reduceEqDiff, Int.reduceLT, Int.reduceLE, Int.reduceNeg, Int.reducePow, Int.reduceToNat, Int.reduceEq, Int.reduceAdd, Int.reduceSub, Int.reduceMul, le_refl, zero_le, length_append, length_map, zf0, zij, zpR, zp2, zpT, List.isEmpty_nil, List.isEmpty_cons, Int.cast_ofNat_Int, Int.natCast_zero, Int.natCast_one, zjz, zin, zhf, zie, zkB, zit, zgo, zh2]))
local macro_rules | `(tactic| walk_at "n")=>`(tactic| (refine seq1 ?_; walk_at "d"))
local macro_rules | `(tactic| walk_at "dX") => `(tactic| (try simp -implicitDefEqProofs only [zaB, zoC, all_cons, List.all_nil, Bool.and_self, zj4, zmY, zpi, zjt, zgT, zrx, zlR, zlF, zla, zlI, zlQ, zm8, zoR, zhU, ziw, zfF, zmO, zq8, zro, zn, zj, dC, dO, dOp, dUn, zp, zc, dCB, zd4, zd9, zd5, dB, zfU, zqo, dOr, zeJ, zra, ziA, dIf, zdI, dI, dI0, dIb, dUI, zh7, zh0, zqq, zlZ, zoW, zpt, zqd, zow, zmJ, zm3, zna, zmm, zm7, zmi, zmx, dFd, zeY, zmj, zmv, zdx, ziU, dSl, za0, zmL, zm9, zhk, zlB, dI2, zdQ, zh6, dBM, zqn, zqs, zb3, zeg, zeS, zq9, zlK, zlt, zqb, zmP, zZ, zac, zdN, zmD, zgk, zdG, ziq, zpM, zpK, zpo, zoB, asL, zmo, zo3, zp9, zoQ, zkS, zj3, zme, zmG, zmK, zoz, zp7, zj0, zkx, zmB, zmz, zmA, zmw, zaY, zcQ, zdB, zaF, zid, zfR, zbI, zmX, zmu, zaI, zf1, zj8, zeO, zdw, zar, zoL, zpZ, zoI, zpy, zdy, zkP, zci, zeU, zaq, zmH, zqh, zpa, zpH, zeL, zil, zim, zif, zg1, zfh, List.replicate, map_cons, map_nil, map_some, Option.bind_some, Option.bind_none, Option.join_some, getElem?_cons_zero, getElem?_cons_succ, set_cons_zero, set_cons_succ, List.take_succ_cons, take_zero, List.take_nil, length_cons, length_nil, nil_append, cons_append, Option.some.injEq, exists_eq_left', exists_eq_left, List.cons.injEq, XV.d.injEq, XV.l.injEq, XV.o.injEq, PyData.int.injEq, PyData.list.injEq, PyData.tuple.injEq, PyData.bool.injEq, PyData.str.injEq, and_true, true_and, decide_eq_true_eq, Bool.not_true, Bool.not_false, Bool.false_eq_true, Bool.true_eq_false, not_true_eq_false, not_false_eq_true, ↓reduceIte, decide_true, decide_false, Bool.not_eq_true', zjr, decide_eq_false_iff_not, Nat.reduceAdd, Nat.reduceMul, zero_add, Nat.reduceLT, Nat.reduceLeDiff, Nat.reduceEqDiff, Int.reduceLT, Int.reduceLE, Int.reduceNeg, Int.reducePow, Int.reduceToNat, Int.reduceEq, Int.reduceAdd, Int.reduceSub, Int.reduceMul, le_refl, zero_le, length_append, length_map, zf0, zij, zpR, zp2, zpT, List.isEmpty_nil, List.isEmpty_cons, Int.cast_ofNat_Int, Int.natCast_zero, Int.natCast_one, zjz, zin, zhf, zie, zkB, zit, zgo, zh2]))
local macro_rules | `(tactic| walk_at "e") => `(tactic| (try simp only [zaa, zaB, zoC, all_cons, List.all_nil, Bool.and_self, zj4, zmY, zpi, zjt, zgT, zko, zrx, zlR, zlF, zla, zlI, zlQ, zm8, zoR, zhU, ziw, zfF, zmO, zq8, zro, zn, zj, dC, dO, dOp, dUn, zp, zc, dCB, zd4, zd9, zd5, dB, zfU, zqo, dOr, zeJ, zra, ziA, dIf, zdI, dI, dI0, dIb, dUI, zh7, zh0, zqq, zlZ, zoW, zpt, zqd, zow, zmJ, zm3, zna, zmm, zm7, zmi, zmx, dFd, zeY, zmj, zmv, zdx, ziU, dSl, za0, zmL, zm9, zhk, zlB, dI2, zdQ, zh6, dBM, zqn, zqs, zb3, zeg, zeS, zq9, zlK, zlt, zqb, zmP, zZ, zac, zdN, zmD, zgk, zdG, ziq, zpM, zpK, zpo, zoB, asL, zmo, zo3, zp9, zoQ, zkS, zj3, zme, zmG, zmK, zoz, zp7, zj0, zkx, zmB, zmz, zmA, zmw, zaY, zcQ, zdB, zaF, zid, zfR, zbI, zmX, zmu, zaI, zf1, zj8, zeO, zdw, zar, zoL, zpZ, zoI, zpy, zdy, zkP, zci, zeU, zaq, zmH, zqh, zpa, zpH, zeL, zil, zim, zif, zg1, zfh, List.replicate, map_cons, map_nil, map_some, Option.bind_some, Option.bind_none, Option.join_some, getElem?_cons_zero, getElem?_cons_succ, set_cons_zero, set_cons_succ, List.take_succ_cons, take_zero, List.take_nil, length_cons, length_nil, nil_append, cons_append, Option.some.injEq, exists_eq_left', exists_eq_left, List.cons.injEq, XV.d.injEq, XV.l.injEq, XV.o.injEq, PyData.int.injEq, PyData.list.injEq, PyData.tuple.injEq, PyData.bool.injEq, PyData.str.injEq, and_true, true_and, decide_eq_true_eq, Bool.not_true, Bool.not_false, Bool.false_eq_true, Bool.true_eq_false, not_true_eq_false, not_false_eq_true, ↓reduceIte, decide_true, decide_false, Bool.not_eq_true', zjr, decide_eq_false_iff_not, Nat.reduceAdd, Nat.reduceMul, zero_add, Nat.reduceLT, Nat.reduceLeDiff, Nat.reduceEqDiff, Int.reduceLT, Int.reduceLE, Int.reduceNeg, Int.reducePow, Int.reduceToNat, Int.reduceEq, Int.reduceAdd, Int.reduceSub, Int.reduceMul, le_refl, zero_le, length_append, length_map, zf0, zij, zpR, zp2, zpT, List.isEmpty_nil, List.isEmpty_cons, Int.cast_ofNat_Int, Int.natCast_zero, Int.natCast_one, zjz, zin, zhf, zie, zkB, zit, zgo, zh2]))
section
variable {R : RX}
theorem zer{n : Int}(q : ∀ m, 0<=m -> R (.d (.int m)) []): zbT [.d (.int n)] [] R := by
  unfold zbT;walk_at "e";have h1 := Int.emod_nonneg (n+7919) (show (2147483647 : Int)≠0 by decide);have h2 := Int.emod_lt_of_pos (n+7919) (show (0 : Int)<2147483647 by decide);exact⟨zct (by omega) (by omega), zct dz dz, q _ (Int.emod_nonneg _ dz)⟩
theorem zD{p : List PyData}{n : Int}(hp : zbc p)(hn : 0<n)(hb : n.natAbs.log2<9000)(q : ∀ r p', 0<=r -> r<n -> zbc p' -> R (.d (.int r)) [p']): zv [.l 0, .d (.int n)] [p] R := by
  obtain⟨l, g, sd, rfl, hl⟩ := hp;unfold zv;walk_at "e";split
  · refine⟨hn, .inl ⟨⟨hn, hb⟩, 0, rfl, ?_⟩⟩
    walk_at "e";exact q _ _ (Int.emod_nonneg _ (by omega)) (Int.emod_lt_of_pos _ hn) ⟨_, _, _, rfl, Int.ediv_nonneg hl (by omega)⟩
  · refine zer fun m _ => ?_
    walk_at "e";refine zer fun m' h' => ?_;walk_at "e";refine⟨2, rfl, ?_⟩;walk_at "e";exact .inl ⟨⟨by decide, by decide +kernel⟩, hn, q _ _ (Int.emod_nonneg _ (by omega)) (Int.emod_lt_of_pos _ hn) ⟨_, _, _, rfl, hl⟩⟩
theorem zfO{n : Int}(q : ∀ p, zbc p -> R (.l 0) [p]): zbE [.d (.int n)] [] R := by
  unfold zbE;walk_at "e";refine⟨⟨by decide, by decide, by decide⟩, ?_⟩;refine .inr (q _ ⟨_, _, _, rfl, ?_⟩);split <;> omega
theorem zd7{p : List PyData}(hp : zbc p)(q : ∀ r p', -10 ^ 58<=r -> r<=10 ^ 58 -> zbc p' -> R (.d (.int r)) [p']): zas [.l 0] [p] R := by
  unfold zas;walk_at "e";refine zD hp dz (by decide +kernel) fun r p1 r0 r1 hp1 => ?_;walk_at "e";split
  · refine zD hp1 dz (by decide +kernel) fun r p2 r0 r1 hp2 => ?_
    walk_at "e";exact q _ _ (by omega) (by omega) hp2
  · split
    · refine zD hp1 dz (by decide +kernel) fun r p2 r0 r1 hp2 => ?_
      walk_at "e";exact q _ _ (by omega) (by omega) hp2
    · refine⟨⟨by decide, by decide, by decide⟩, zct dz dz, ?_⟩
      have k1 : (10 : Int) ^ 30=1000000000000000000000000000000 := by decide +kernel
      have k2 : (10 : Int) ^ 28=10000000000000000000000000000 := by decide +kernel
      refine zD hp1 (by decide +kernel) (by decide +kernel) fun r p2 r0 r1 hp2 => ?_;walk_at "e"
      try simp only [k1, k2] at r1 ⊢
      refine⟨⟨by decide, by decide, by decide⟩, ⟨by decide, by decide, by decide⟩, zqA 128 128 (by omega) (by decide +kernel), q _ _ (by omega) (by omega) hp2⟩
end
section
variable {R : RX}
theorem zp4{α : Type}[Inhabited α]{l : List α}{i : Int}(h0 : 0<=i)(h1 : i<l.length)(d : α): atI l i=some (l.getD i.toNat d) := by
  obtain⟨k, rfl⟩ := Int.eq_ofNat_of_zero_le h0;have hk : k<l.length := by omega
  rw [zcX (getElem?_eq_getElem hk)];simp [getD_eq_getElem?_getD, hk]
theorem zhZ: ("abcdefghijklmnopqrstuvwxyz" : Str).length=26 := by decide
theorem zlk: ("abcdefghijklmnopqrstuvwxyz" : Str).cps.toList.length=26 := by rw [<- zhZ]; simp [Str.length]
theorem zgm: ("abcdefghijklmnopqrstuvwxyz" : Str).length<=sizeLine := le_of_lt (small1000 (by rw [zhZ]; decide))
theorem len1(c : Nat): (⟨#[c]⟩ : Str).length=1 := rfl
abbrev lsgn (i : Int) : Str := ⟨#[("abcdefghijklmnopqrstuvwxyz" : Str).cps.toList.getD i.toNat 0]⟩
theorem zkR{i : Int}(h0 : 0<=i)(h1 : i<26): atI ("abcdefghijklmnopqrstuvwxyz" : Str).cps.toList i=some (("abcdefghijklmnopqrstuvwxyz" : Str).cps.toList.getD i.toNat 0) := zp4 h0 (by rw [zlk]; exact h1) 0
theorem zk9{ds : List PyData}{a b : Option Int}{d : PyData}(m : d∈zei ds a b): d∈ds := by
  unfold zei at m;exact List.mem_of_mem_drop (List.mem_of_mem_take m)
def zdM(z : Str): Bool := decide (z.length<=100) && PyData.strOk z && !decide (z = "zy")
theorem zpc: ∀ f<26, ∀ k<8, zdM (PySem.Txt.mul (lsgn (((f : Nat)+5*(0+((k : Nat) : Int))) % 26)) (1+((f : Nat)+3*(0+((k : Nat) : Int))) % 8))=true := by decide +kernel
theorem zpV: ∀ f<26, ∀ k<8, zdM (PySem.Txt.slice (PySem.Txt.join "" ((List.range 8).map fun k : Nat => lsgn (((f : Nat)+7*(0+(k : Int))) % 26))) none (some (0+((k : Nat) : Int)+1)))=true := by decide +kernel
theorem znZ{ds : List PyData}(h : ∀ d∈ds, ∃ z : Str, d=.str z /\ zdM z=true): ∃ zs : List Str, ds=zs.map PyData.str /\ zs.length=ds.length /\ ∀ z∈zs, zdM z=true := by
  induction ds with
  | nil => exact⟨[], rfl, rfl, by simp⟩
  | cons d ds ih =>
    obtain⟨z, rfl, hz⟩ := h d mem_cons_self;obtain⟨zs, rfl, hl, hzs⟩ := ih fun d m => h d (mem_cons_of_mem _ m);refine⟨z :: zs, rfl, by simp, fun y m => ?_⟩;rcases mem_cons.mp m with rfl | m
    · exact hz
    · exact hzs y m
theorem zjK(a b : Str): (a++b).length=a.length+b.length := strLen_append a b
theorem zhb: ∀ zs : List Str, (∀ z∈zs, z.length<=1) -> (Str.join "" zs).length<=zs.length
  | [], _ => le_refl 0
  | [a], h => h a mem_cons_self
  | a :: b :: r, h => by
    show (a ++ "" ++ Str.join "" (b :: r)).length<=_;rw [zjK, zjK];have e : ("" : Str).length=0 := rfl;have h1 := h a mem_cons_self;have h2 := zhb (b :: r) fun z m => h z (mem_cons_of_mem _ m);rw [e];simp only [length_cons] at h2 ⊢;omega
def zgS(ds : List PyData): Prop := ∀ d∈ds, ∃ z : Str, d=.str z /\ zdM z=true
theorem zhv{ds : List PyData}{a : Int}(h0 : 0<=a)(h1 : a<=ds.length): (zei ds (some a) none++zei ds none (some a)).length=ds.length := by
  obtain⟨k, rfl⟩ := Int.eq_ofNat_of_zero_le h0;have e1 : HT.sIx ds.length 0 (some (k : Int))=k := by rw [HT.sIx_nat]; omega
  have e2 : HT.sIx ds.length ds.length (some (k : Int))=k := by rw [HT.sIx_nat]; omega
  have e3 : HT.sIx ds.length ds.length none=ds.length := rfl;have e4 : HT.sIx ds.length 0 none=0 := rfl;unfold zei;rw [e1, e2, e3, e4, length_append, length_take, length_take, length_drop, length_drop];omega
def zle: List Str := ["part", "gap", "cut", "a", "aa", "dear", "b", "keeps"]
set_option maxHeartbeats 8000000 in
theorem zeq{p : List PyData}(hp : zbc p)(q : ∀ (ns : List Str) p', ns.length=8 -> (∀ z∈ns, zdM z=true) -> zbc p' -> R (.d (.list (ns.map PyData.str))) [p']): zaC [.l 0] [p] R := by
  unfold zaC;walk_at "dX"
  (refine seq1 ?_; walk_at "dX")
  (refine seq1 ?_; walk_at "dX")
  refine zD hp dz (by decide +kernel) fun way p1 w0 w1 hp1 => ?_;walk_at "dX"
  (refine seq1 ?_; walk_at "dX")
  refine zD hp1 dz (by decide +kernel) fun fst p2 f0 f1 hp2 => ?_;walk_at "dX";refine cut (fun δ' S' => ∃ (ds : List PyData), zgS ds /\ ds.length=8 /\ S'=[p2, ds] /\ δ'=[some (.l 0), some (.d (.str ("abcdefghijklmnopqrstuvwxyz" : Str))), some (.d (.int way)), some (.d (.int fst)), some (.l 1), none, none]) (fun N hN => ?_) ?_
  · walk_at "dX"
    refine cmp1 (S0 := [p2]) (fun k : Nat => .str (PySem.Txt.mul (lsgn ((fst+5*(0+k)) % 26)) (1+(fst+3*(0+k)) % 8))) rfl (List.range 8) (by simp) ?_ ?_
    · intro k mk u acc R' hk
      have b1 := Int.emod_nonneg (fst+5*(0+(k : Int))) (show (26 : Int)≠0 by decide);have b2 := Int.emod_lt_of_pos (fst+5*(0+(k : Int))) (show (0 : Int)<26 by decide);have b3 := Int.emod_nonneg (fst+3*(0+(k : Int))) (show (8 : Int)≠0 by decide);have b4 := Int.emod_lt_of_pos (fst+3*(0+(k : Int))) (show (0 : Int)<8 by decide);walk_at "dX";refine⟨zct dz dz, zgm, _, zkR b1 b2, ?_⟩;walk_at "dX";refine⟨zct dz dz, ?_⟩;walk_at "dX";exact⟨by rw [len1]; decide, by omega, by omega, hk _⟩
    · refine hN _ _ ⟨_, ?_, by simp, rfl, rfl⟩
      intro d m;obtain⟨k, mk, rfl⟩ := mem_map.mp m;obtain⟨f, rfl⟩ := Int.eq_ofNat_of_zero_le f0;exact⟨_, rfl, zpc f (by omega) k (mem_range.mp mk)⟩
  rintro _ _ ⟨ds, hds, hl, rfl, rfl⟩;refine cut (fun δ' S' => ∃ (ds : List PyData) (T : Sto) (k : Nat) (u : Option XV), zgS ds /\ ds.length=8 /\ T[k]? = some ds /\ S'=p2 :: T /\ δ'=[some (.l 0), some (.d (.str ("abcdefghijklmnopqrstuvwxyz" : Str))), some (.d (.int way)), some (.d (.int fst)), some (.l (k+1)), u, none]) (fun N hN => ?_) ?_
  · walk_at "dX"
    split
    · refine seq1 ?_
      walk_at "dX";refine cmp1 (S0 := [p2, ds]) (fun k : Nat => .str (lsgn ((fst+7*(0+k)) % 26))) rfl (List.range 8) (by simp) ?_ ?_
      · intro k mk u acc R' hk
        have b1 := Int.emod_nonneg (fst+7*(0+(k : Int))) (show (26 : Int)≠0 by decide);have b2 := Int.emod_lt_of_pos (fst+7*(0+(k : Int))) (show (0 : Int)<26 by decide);walk_at "dX";refine⟨zct dz dz, zgm, _, zkR b1 b2, ?_⟩;exact hk _
      · walk_at "dX"
        refine⟨(List.range 8).map fun k : Nat => lsgn ((fst+7*(0+k)) % 26), by rw [map_map]; rfl, by decide, by simp, fun y m => ?_, ?_⟩
        · obtain⟨k, _, rfl⟩ := mem_map.mp m
          show 1<=1000;decide
        · have wl : (PySem.Txt.join "" ((List.range 8).map fun k : Nat => lsgn ((fst+7*(0+k)) % 26))).length<=8*1016 := by
            have := zlz (y := ("" : Str)) (zs := (List.range 8).map fun k : Nat => lsgn ((fst+7*(0+k)) % 26)) dz (fun y m => by
              obtain⟨k, _, rfl⟩ := mem_map.mp m;show 1<=1000;decide)
            simpa using this
          have wl' : (PySem.Txt.join "" ((List.range 8).map fun k : Nat => lsgn ((fst+7*(0+k)) % 26))).length<=8 := by
            show (Builtin.Str.glued _ _).length<=_;rw [StrLaws.glued_eq_join];have := zhb ((List.range 8).map fun k : Nat => lsgn ((fst+7*(0+k)) % 26)) (fun y m => by
              obtain⟨k, _, rfl⟩ := mem_map.mp m;exact le_refl 1)
            simpa using this
          walk_at "dX";refine cmp1 (S0 := [p2, ds]) (fun k : Nat => .str (PySem.Txt.slice (PySem.Txt.join "" ((List.range 8).map fun k : Nat => lsgn ((fst+7*(0+k)) % 26))) none (some (0+k+1)))) rfl (List.range 8) (by simp) ?_ ?_
          · intro k mk u acc R' hk
            walk_at "dX";exact⟨le_trans wl (by rw [sizeLine_eq]; decide), hk _⟩
          · refine hN _ _ ⟨_, [ds, _], 1, _, ?_, ?_, rfl, rfl, rfl⟩
            · intro d m
              obtain⟨k, mk, rfl⟩ := mem_map.mp m;obtain⟨f, rfl⟩ := Int.eq_ofNat_of_zero_le f0;exact⟨_, rfl, zpV f (by omega) k (mem_range.mp mk)⟩
            · simp
    · exact hN _ _ ⟨ds, [ds], 0, none, hds, hl, rfl, rfl, rfl⟩
  rintro _ _ ⟨ds, T, k, u, hds, hl, hk, rfl, rfl⟩;refine cut (fun δ' S' => ∃ (ds : List PyData) (T : Sto) (k : Nat), zgS ds /\ ds.length=8 /\ T[k]? = some ds /\ S'=p2 :: T /\ δ'=[some (.l 0), some (.d (.str ("abcdefghijklmnopqrstuvwxyz" : Str))), some (.d (.int way)), some (.d (.int fst)), some (.l (k+1)), u, none]) (fun N hN => ?_) ?_
  · walk_at "dX"
    split
    · refine hN _ _ ⟨zle.map PyData.str, T++[zle.map PyData.str], T.length, ?_, rfl, by rw [getElem?_concat_length], rfl, rfl⟩
      intro d m;obtain⟨z, hz, rfl⟩ := mem_map.mp m;refine⟨z, rfl, ?_⟩;simp only [zle, mem_cons, not_mem_nil, or_false] at hz;rcases hz with rfl | rfl | rfl | rfl | rfl | rfl | rfl | rfl <;> decide +kernel
    · exact hN _ _ ⟨ds, T, k, hds, hl, hk, rfl, rfl⟩
  rintro _ _ ⟨ds, T, k, hds, hl, hk, rfl, rfl⟩
  (refine seq1 ?_; walk_at "dX")
  refine zD hp2 dz (by decide +kernel) fun at' p3 a0 a1 hp3 => ?_;walk_at "dX"
  (refine seq1 ?_; walk_at "dX")
  refine⟨ds, hk, ds, hk, ?_⟩;have hc := zhv (ds := ds) a0 (by omega);rw [length_append] at hc;refine⟨by omega, ?_⟩;have hk2 : (T++[zei ds (some at') none++zei ds none (some at')])[T.length]? = some (zei ds (some at') none++zei ds none (some at')) := by rw [getElem?_concat_length]
  have hs2 : zgS (zei ds (some at') none++zei ds none (some at')) := fun d m => (mem_append.mp m).elim (fun m => hds d (zk9 m)) fun m => hds d (zk9 m);have hl2 : (zei ds (some at') none++zei ds none (some at')).length=8 := by rw [length_append]; omega
  generalize zei ds (some at') none++zei ds none (some at')=es at hk2 hs2 hl2 ⊢;refine seq1 ?_;walk_at "dX";refine zD hp3 dz (by decide +kernel) fun r p4 r0 r1 hp4 => ?_;walk_at "dX";have fin' : ∀ (fs : List PyData), zgS fs -> fs.length=8 -> R (.d (.list fs)) [p4] := by
    intro fs h1 h2;obtain⟨zs, rfl, z1, z2⟩ := znZ h1;exact q zs p4 (by omega) z2 hp4
  split
  · refine⟨by simp, es, hk2, ?_⟩
    walk_at "dX";rw [if_neg (by omega)];refine⟨es.reverse, by simp [zfX], .inl (fin' _ (fun d m => hs2 d (List.mem_reverse.mp m)) (by simpa using hl2))⟩
  · rw [if_neg (by omega)]
    exact⟨es, hk2, .inl (fin' _ hs2 hl2)⟩
abbrev Part := Str×Int×Int
def zeu(p : Part): PyData := .tuple [.str p.1, .int p.2.1, .int p.2.2]
def zc4(ps : List Part): PyData := .tuple (ps.map zeu)
structure Prt(p : Part): Prop where
  nm : zdM p.1=true
  le : p.2.1<=p.2.2
  lo : -10 ^ 58<=p.2.1
  hi : p.2.2<=10 ^ 59
structure Drw(ps : List Part): Prop where
  l1 : 1<=ps.length
  l8 : ps.length<=8
  all : ∀ p∈ps, Prt p
theorem zfb{α : Type}{f : α -> PyData}{l : List α}{k : Nat}{x : α}(e : l[k]? = some x): atI (l.map f) (k : Int)=some (f x) := zcX (by rw [getElem?_map, e]; rfl)
end
section
variable {R : RX} {S : Sto}
theorem zoA{a b m : Int}(h1 : m∈[a, b])(h2 : ∀ x, x∈[a, b] -> m<=x): m=min a b := by
  have ha := h2 a (by simp);have hb := h2 b (by simp);simp only [mem_cons, not_mem_nil, or_false] at h1;omega
theorem zoH{a b m : Int}(h1 : m∈[a, b])(h2 : ∀ x, x∈[a, b] -> x<=m): m=max a b := by
  have ha := h2 a (by simp);have hb := h2 b (by simp);simp only [mem_cons, not_mem_nil, or_false] at h1;omega
theorem zrM{a b : Int}(q : R (.d (.int (min a b))) S): zoe [.d (.list [.int a, .int b])] S R := .inl ⟨_, rfl, [a, b], rfl, by simp, fun m h1 h2 => by rw [zoA h1 h2]; exact q⟩
theorem zrN{a b : Int}(q : R (.d (.int (max a b))) S): zqI [.d (.list [.int a, .int b])] S R := ⟨_, rfl, [a, b], rfl, by simp, fun m h1 h2 => by rw [zoH h1 h2]; exact q⟩
abbrev Term := Nat×Int
def tmD(t : Term): PyData := .tuple [.int t.1, .int t.2]
def zqt(ts : List Term): PyData := .tuple (ts.map tmD)
structure Gap where
  ts : List Term
  lo : Int
  hi : Int
def zhl(g : Gap): PyData := .tuple [zqt g.ts, .int g.lo, .int g.hi]
theorem zf5(g : Gap): zhl g=.tuple [zqt g.ts, .int g.lo, .int g.hi] := rfl
theorem zm6(t : Term): tmD t=.tuple [.int t.1, .int t.2] := rfl
theorem zhn(p : Part): zeu p=.tuple [.str p.1, .int p.2.1, .int p.2.2] := rfl
def zaZ(ns : List Int): PyData := .tuple (ns.map PyData.int)
structure Tms(n : Nat)(ts : List Term): Prop where
  ne : ts≠[]
  len : ts.length<=n
  ok : ∀ t∈ts, t.1<n /\ t.2≠0 /\ -3<=t.2 /\ t.2<=3
  srt : ts.Pairwise fun t u => t.1<u.1
structure Tm3(n : Nat)(ts : List Term): Prop where
  len : ts.length<=100
  ok : ∀ t∈ts, t.1<n /\ -3<=t.2 /\ t.2<=3
theorem Tms.tm3{n : Nat}{ts : List Term}(h : Tms n ts)(hn : n<=8): Tm3 n ts := ⟨by have := h.len; omega, fun t m => ⟨(h.ok t m).1, (h.ok t m).2.2⟩⟩
def worth(ts : List Term)(ns : List Int): Int := (ts.map fun t => t.2*ns.getD t.1 0).sum
theorem zhx{ns : List Int}{k : Nat}(h : k<ns.length): ns[k]? = some (ns.getD k 0) := by
  rw [getElem?_eq_getElem h, getD_eq_getElem?_getD, getElem?_eq_getElem h];rfl
def part(ps : List Part)(k : Nat): Part := ps.getD k ("", 0, 0)
theorem zj6{ps : List Part}{k : Nat}(h : k<ps.length): ps[k]? = some (part ps k) := by
  unfold part;rw [getElem?_eq_getElem h, getD_eq_getElem?_getD, getElem?_eq_getElem h];rfl
def plo(ps : List Part)(k : Nat): Int := (part ps k).2.1
def phi(ps : List Part)(k : Nat): Int := (part ps k).2.2
def tLo(ps : List Part)(t : Term): Int := min (t.2*plo ps t.1) (t.2*phi ps t.1)
def tHi(ps : List Part)(t : Term): Int := max (t.2*plo ps t.1) (t.2*phi ps t.1)
def zbm(ps : List Part)(ts : List Term): Int := (ts.map (tLo ps)).sum
def zcG(ps : List Part)(ts : List Term): Int := (ts.map (tHi ps)).sum
theorem zhs{ps : List Part}{t : Term}{ts : List Term}: zbm ps (t :: ts)=tLo ps t+zbm ps ts := by simp [zbm]
theorem zjb{ps : List Part}{t : Term}{ts : List Term}: zcG ps (t :: ts)=tHi ps t+zcG ps ts := by simp [zcG]
theorem zhP{ps : List Part}{ts : List Term}{i : Nat}{t : Term}(h : ts[i]? = some t): zbm ps (ts.take (i+1))=zbm ps (ts.take i)+tLo ps t := by
  unfold zbm;rw [List.take_add_one, h];simp
theorem ziI{ps : List Part}{ts : List Term}{i : Nat}{t : Term}(h : ts[i]? = some t): zcG ps (ts.take (i+1))=zcG ps (ts.take i)+tHi ps t := by
  unfold zcG;rw [List.take_add_one, h];simp
theorem zdb(ps : List Part): ∀ ts : List Term, zbm ps ts<=zcG ps ts
  | [] => by simp [zbm, zcG]
  | t :: ts => by
    have := zdb ps ts;rw [zhs, zjb];unfold tLo tHi;omega
theorem zbG{α : Type}{f : α -> PyData}{l : List α}{i : Nat}{d : PyData}(h : (l.map f)[i]? = some d): ∃ x, l[i]? = some x /\ d=f x := by
  rw [getElem?_map] at h;obtain⟨x, e, rfl⟩ := map_eq_some_iff.mp h;exact⟨x, e, rfl⟩
theorem ze3{ps : List Part}{ts : List Term}{t : PyData}(ht : zjj (.d t)=some (ts.map tmD))(h3 : Tm3 ps.length ts)(q : R (.d (spD (zbm ps ts) (zcG ps ts))) []): zbs [.d (zc4 ps), .d t] [] R := by
  unfold zbs zc4;walk_at "d"
  walk_at "n"
  walk_at "n"
  walk_at "n";refine⟨_, ht, ?_⟩;refine zai (fun i δ S => ∃ (u1 u2 u3 : Option XV), S=[] /\ δ=[some (.d (.tuple (ps.map zeu))), some (.d t), some (.d (.int (zbm ps (ts.take i)))), some (.d (.int (zcG ps (ts.take i)))), u1, u2, u3]) ⟨_, _, _, rfl, rfl⟩ ?_ ?_
  · rintro i d _ _ N hi ⟨u1, u2, u3, rfl, rfl⟩ hN
    obtain⟨t, ht, rfl⟩ := zbG hi;obtain⟨t1, t2, t3⟩ := h3.ok t (mem_of_getElem? ht);have ep := zfb (f := zeu) (zj6 t1);unfold tmD;walk_at "d"
    walk_at "n"
    refine⟨_, ep, ?_⟩;unfold zeu;walk_at "d";refine⟨zct (by omega) (by omega), _, ep, ?_⟩;unfold zeu;walk_at "d";refine⟨zct (by omega) (by omega), ?_⟩
    walk_at "n"
    refine zrM ?_;walk_at "d";refine zrN ?_;walk_at "d";exact hN _ _ ⟨_, _, _, rfl, by rw [zhP ht, ziI ht]; rfl⟩
  · rintro _ _ ⟨u1, u2, u3, rfl, rfl⟩
    rw [length_map, take_length];walk_at "d";exact q
theorem zma{ds : List PyData}{r : Int}{P : PyData -> Prop}(h0 : 0<=r)(h1 : r<ds.length)(hP : ∀ d∈ds, P d): ∃ d, atI ds r=some d /\ P d := by
  obtain⟨k, rfl⟩ := Int.eq_ofNat_of_zero_le h0;have hk : k<ds.length := by omega
  exact⟨ds[k], zcX (getElem?_eq_getElem hk), hP _ (getElem_mem hk)⟩
theorem znm(ds : List PyData): PyData.eqv (.list ds) (.list [])=decide (ds=[]) := by
  cases ds with
  | nil => rfl
  | cons d ds => rfl
theorem zpF(t : Term): Shp 1 (tmD t) := zcZ (zqS zcS zcS)
theorem ziX(ts : List Term): SeqAt.shaped (.list (ts.map tmD))=true := (zhX (zjB fun t _ => zpF t)).ok
structure GapOk(n : Nat)(g : Gap): Prop where
  ts : Tms n g.ts
  le : g.lo<=g.hi
theorem zfK{p : List PyData}{ps : List Part}(hp : zbc p)(hd : Drw ps)(q : ∀ g p', GapOk ps.length g -> zbc p' -> R (.d (zhl g)) [p']): zbz [.l 0, .d (zc4 ps)] [p] R := by
  have h8 := hd.l8;have h1 := hd.l1;unfold zbz;walk_at "d"
  walk_at "n"
  refine cut (fun δ S => ∃ (p : List PyData) (ts : List Term) (u1 u2 : Option XV), zbc p /\ ts.length<=ps.length /\ (∀ t∈ts, t.1<ps.length /\ t.2≠0 /\ -3<=t.2 /\ t.2<=3) /\ (ts.Pairwise fun t u => t.1<u.1) /\ S=[p, ts.map tmD] /\ δ=[some (.l 0), some (.d (zc4 ps)), some (.l 1), u1, u2, none, none, none, none, none]) (fun N hN => ?_) ?_
  · walk_at "d"
    refine⟨ps.length, by unfold zc4; walk_at "d", ?_⟩;refine zai (fun i δ S => ∃ (p : List PyData) (ts : List Term) (u1 u2 : Option XV), zbc p /\ ts.length<=i /\ (∀ t∈ts, t.1<i /\ t.2≠0 /\ -3<=t.2 /\ t.2<=3) /\ (ts.Pairwise fun t u => t.1<u.1) /\ S=[p, ts.map tmD] /\ δ=[some (.l 0), some (.d (zc4 ps)), some (.l 1), u1, u2, none, none, none, none, none]) ⟨p, [], _, _, hp, le_refl _, by simp, .nil, rfl, rfl⟩ ?_ ?_
    · rintro i d _ _ N hi ⟨p, ts, u1, u2, hp, hl, ht, hw, rfl, rfl⟩ hN
      obtain⟨hi', rfl⟩ := zbg hi;have hi8 : i<ps.length := by simpa using hi'
      walk_at "d"
      walk_at "n"
      refine zD hp dz (by decide +kernel) fun r p2 r0 r1 hp2 => ?_;walk_at "d";refine⟨rfl, ?_⟩;simp only [List.any_cons, List.any_nil, Bool.or_false, zf0];have low := hN [some (.l 0), some (.d (zc4 ps)), some (.l 1), some (.d (.int (0+(i : Int)))), some (.d (.int (r - 4))), none, none, none, none, none] [p2, ts.map tmD] ⟨p2, ts, _, _, hp2, by omega, fun t m => ⟨by have := (ht t m).1; omega, (ht t m).2⟩, hw, rfl, rfl⟩;by_cases hz : r - 4 = -4 \/ r - 4=0 \/ r - 4=4
      · have e : (decide ((-4 : Int)=r - 4) || (decide ((0 : Int)=r - 4) || decide ((4 : Int)=r - 4)))=true := by
          rcases hz with h | h | h <;> simp [h]
        rw [e];walk_at "d";exact low
      · have e : (decide ((-4 : Int)=r - 4) || (decide ((0 : Int)=r - 4) || decide ((4 : Int)=r - 4)))=false := by
          simp;omega
        rw [e];walk_at "d";refine⟨by omega, hN _ _ ⟨p2, ts++[(i, r - 4)], _, _, hp2, by simp; omega, fun t m => ?_, ?_, by simp [tmD], rfl⟩⟩
        · rcases mem_append.mp m with m | m
          · exact⟨by have := (ht t m).1; omega, (ht t m).2⟩
          · rw [mem_singleton.mp m]
            exact⟨by simp, by simp only; omega, by simp only; omega, by simp only; omega⟩
        · rw [List.pairwise_append]
          exact⟨hw, by simp, fun t m u m' => by rw [mem_singleton.mp m']; exact(ht t m).1⟩
    · rintro _ _ ⟨p, ts, u1, u2, hp, hl, ht, hw, rfl, rfl⟩
      rw [zW] at hl ht;have hz : (ps.length : Int).toNat=ps.length := by simp
      rw [hz] at hl ht;exact hN _ _ ⟨p, ts, u1, u2, hp, hl, ht, hw, rfl, rfl⟩
  rintro _ _ ⟨p, ts, u1, u2, hp, hl, ht, hw, rfl, rfl⟩;refine cut (fun δ S => ∃ (p : List PyData) (ts : List Term) (T : Sto) (k : Nat), zbc p /\ Tms ps.length ts /\ T[k]? = some (ts.map tmD) /\ S=p :: T /\ δ=[some (.l 0), some (.d (zc4 ps)), some (.l (k+1)), u1, u2, none, none, none, none, none]) (fun N hN => ?_) ?_
  · walk_at "d"
    refine⟨ziX ts, rfl, ?_⟩;rw [znm];walk_at "d";split
    · refine⟨ps.length, by unfold zc4; walk_at "d", ?_⟩
      refine zD hp (by omega) (zfD (by omega) (by omega)) fun r p2 r0 r1 hp2 => ?_;walk_at "d";refine zD hp2 dz (by decide +kernel) fun r3 p3 r2 r4 hp3 => ?_;obtain⟨d, ed, n, rfl, hn⟩ := zma (ds := [PyData.int 1, PyData.int (-1), PyData.int 2, PyData.int (-3)]) (P := fun d => ∃ n, d=.int n /\ n≠0 /\ -3<=n /\ n<=3) r2 r4 (by
        intro d m;simp only [mem_cons, not_mem_nil, or_false] at m;rcases m with rfl | rfl | rfl | rfl <;> exact⟨_, rfl, by decide, by decide, by decide⟩)
      obtain⟨k, rfl⟩ := Int.eq_ofNat_of_zero_le r0;walk_at "d";refine⟨_, ed, ?_⟩;walk_at "d";refine hN _ _ ⟨p3, [(k, n)], [ts.map tmD, [tmD (k, n)]], 1, hp3, ⟨by simp, by simpa using h1, fun t m => by rw [mem_singleton.mp m]; exact⟨by simp only; omega, hn⟩, by simp⟩, rfl, rfl, rfl⟩
    · rename_i hne
      exact hN _ _ ⟨p, ts, [ts.map tmD], 0, hp, ⟨fun z => hne (by rw [z]; rfl), hl, ht, hw⟩, rfl, rfl, rfl⟩
  rintro _ _ ⟨p, ts, T, k, hp, hts, hk, rfl, rfl⟩
  walk_at "n"
  rw [hk];walk_at "d";refine ze3 rfl (hts.tm3 h8) ?_;have lm := zdb ps ts;unfold spD;walk_at "d";refine⟨rfl, ?_⟩;walk_at "d"
  walk_at "n"
  walk_at "n"
  refine .inl ⟨⟨by decide, by decide +kernel⟩, .inl ⟨⟨by decide, by decide +kernel⟩, ?_⟩⟩;walk_at "d";refine zD hp dz (by decide +kernel) fun r p2 r0 r1 hp2 => ?_;obtain⟨d, ed, n, rfl⟩ := zma (P := fun d => ∃ n, d=.int n) (ds := [PyData.int 0, PyData.int 1, PyData.int (-1), PyData.int ((zcG ps ts - zbm ps ts) / 2), PyData.int ((zcG ps ts - zbm ps ts) / 3), PyData.int (zcG ps ts - zbm ps ts+1)]) r0 r1 (by simp);walk_at "d";refine⟨_, ed, ?_⟩;walk_at "d"
  walk_at "n"
  refine .inl ⟨⟨by decide, by decide +kernel⟩, ?_⟩;walk_at "d";refine zD hp2 dz (by decide +kernel) fun r' p3 r2 r3 hp3 => ?_;obtain⟨d, ed, n', rfl, h0⟩ := zma (P := fun d => ∃ n, d=.int n /\ 0<=n) (ds := [PyData.int 0, PyData.int 1, PyData.int 2, PyData.int ((zcG ps ts - zbm ps ts) / 2), PyData.int (zcG ps ts - zbm ps ts), PyData.int (zcG ps ts - zbm ps ts+2)]) r2 r3 (by simp; omega);walk_at "d";refine⟨_, ed, ?_⟩;walk_at "d";refine⟨_, hk, ?_⟩;walk_at "d";exact q ⟨ts, _, _⟩ p3 ⟨hts, by simp only; omega⟩ hp3
theorem zq2{g : DG}{te : DE}{fin : Sto -> Prop}{α : Type}(F : α -> Prop)(f : α -> PyData)(P : XE -> Prop): ∀ (ds : List PyData) (acc : List α) (p : List PyData) (τ : XE), P τ -> zbc p -> acc.length+ds.length<=1000 ->
    (∀ d∈ds, ∀ τ p acc (R : XE -> RX), P τ -> zbc p -> (∀ τ' x p', P τ' -> zbc p' -> F x -> R τ' (.d (f x)) [p', acc]) -> g (.d d) τ [p, acc] fun τ1 S1 => te τ1 S1 (R τ1)) ->
    (∀ xs p', zbc p' -> (∀ x∈xs, F x) -> xs.length=ds.length -> fin [p', (acc++xs).map f]) -> zd1 1 g zaq te fin ds τ [p, acc.map f]
  | [], acc, p, τ, _, hp, _, _, h => by
    have := h [] p hp (by simp) rfl;rw [append_nil] at this;exact this
  | d :: ds, acc, p, τ, hP, hp, hl, el, h => by
    show g (.d d) τ [p, acc.map f] fun τ1 S1 => zaq τ1 S1 fun b S2 => if b=true then te τ1 S2 fun x S3 => asD x fun e => ∃ acc, S3[1]? = some acc /\ acc.length<1000 /\ zd1 1 g zaq te fin ds τ1 (S3.set 1 (acc++[e])) else zd1 1 g zaq te fin ds τ1 S2
    simp only [zaq, ↓reduceIte];rw [length_cons] at hl;refine el d mem_cons_self τ p (acc.map f) (fun τ1 x S3 => asD x fun e => ∃ acc, S3[1]? = some acc /\ acc.length<1000 /\ zd1 1 g zaq te fin ds τ1 (S3.set 1 (acc++[e]))) hP hp fun τ' x p' hP' hp' hF => ?_;refine⟨acc.map f, rfl, by rw [length_map]; omega, ?_⟩;have e : ([p', acc.map f] : Sto).set 1 (acc.map f++[f x])=[p', (acc++[x]).map f] := by simp
    rw [e];refine zq2 F f P ds (acc++[x]) p' τ' hP' hp' (by rw [length_append, length_singleton]; omega) (fun e m => el e (mem_cons_of_mem _ m)) fun xs p'' hp'' fs hl => ?_;rw [append_assoc];exact h (x :: xs) p'' hp'' (fun y m => (mem_cons.mp m).elim (fun e => e▸hF) (fs y)) (by simp [hl])
end
section
variable {R : RX} {S : Sto}
theorem ziD{p : Part}(q : R (.d (spD p.2.1 p.2.2)) []): zdm [.d (zeu p)] [] R := by
  unfold zdm zeu;walk_at "e";exact q
theorem zi2{a b : Int}(q : R (.d (.int (b - a+1))) []): zdg [.d (spD a b)] [] R := by
  unfold zdg spD;walk_at "e";exact q
theorem zhM{g : Gap}{ns : List Int}(h3 : Tm3 ns.length g.ts)(q : R (.d (.int (worth g.ts ns))) []): zcx [.d (zhl g), .d (zaZ ns)] [] R := by
  unfold zcx zaZ;rw [zf5, zqt];walk_at "e";refine cmp2 (S0 := []) (fun t : Term => .int (t.2*ns.getD t.1 0)) rfl g.ts (by have := h3.len; omega) ?_ ?_
  · intro t mt u v acc R' hk
    obtain⟨t1, t2, t3⟩ := h3.ok t mt;have e := zfb (f := PyData.int) (zhx t1);rw [zm6];walk_at "e";refine⟨_, e, ?_⟩;walk_at "e";exact⟨zct (by omega) (by omega), hk _ _⟩
  · walk_at "e"
    refine⟨g.ts.map fun t : Term => t.2*ns.getD t.1 0, by rw [map_map]; rfl, q⟩
def zbA(g : Gap)(ns : List Int): Bool := decide (g.lo<=worth g.ts ns /\ worth g.ts ns<=g.hi)
theorem zf3{g : Gap}{ns : List Int}(h3 : Tm3 ns.length g.ts)(q : R (.d (.bool (zbA g ns))) []): zdF [.d (zhl g), .d (zaZ ns)] [] R := by
  unfold zdF;walk_at "e";rw [zf5];walk_at "e";rw [<- zf5];refine zhM h3 ?_;walk_at "e";unfold zbA at q;by_cases h : g.lo<=worth g.ts ns
  · simp only [h, true_and] at q
    rw [if_pos h];exact q
  · simp only [h, false_and, decide_false] at q
    rw [if_neg h];exact q
structure InBox(ps : List Part)(ns : List Int): Prop where
  len : ns.length=ps.length
  ok : ∀ k, k<ps.length -> plo ps k<=ns.getD k 0 /\ ns.getD k 0<=phi ps k
def Ord(ps : List Part): Prop := ∀ p∈ps, p.2.1<=p.2.2
theorem Drw.ord{ps : List Part}(h : Drw ps): Ord ps := fun p m => (h.all p m).le
end
section
variable {R : RX} {S : Sto}
def zX: PyData -> Bool
  | .int _ => true
  | _ => false
theorem zdV{d : PyData}(q : R (.d (.bool (zX d))) []): zby [.d d] [] R := by
  unfold zby;cases d <;> (walk_at "e"; exact q)
end
section
variable {R : RX} {S : Sto}
def rng(lo : Int)(n : Nat): List Int := (List.range n).map fun k : Nat => lo+k
theorem zld{lo x : Int}{n : Nat}: x∈rng lo n↔lo<=x /\ x<lo+n := by
  unfold rng;rw [mem_map];constructor
  · rintro⟨k, hk, rfl⟩
    have := mem_range.mp hk;omega
  · rintro⟨h1, h2⟩
    exact⟨(x - lo).toNat, mem_range.mpr (by omega), by omega⟩
def zi4(p : Part): List Int := rng p.2.1 (p.2.2 - p.2.1+1).toNat
theorem zh4(p : Part): (zi4 p).length=(p.2.2 - p.2.1+1).toNat := by simp [zi4, rng]
def ziV: List Part -> List (List Int)
  | [] => [[]]
  | p :: ps => (zi4 p).flatMap fun x => (ziV ps).map (x :: ·)
def ext(found : List (List Int))(p : Part): List (List Int) := found.flatMap fun a => (zi4 p).map fun x => a++[x]
theorem zgu: ∀ (ps : List Part) (found : List (List Int)), ps.foldl ext found=found.flatMap fun a => (ziV ps).map (a ++ ·)
  | [], found => by simp [ziV]
  | p :: ps, found => by
    rw [foldl_cons, zgu ps];unfold ext;simp only [ziV, List.flatMap_assoc, List.map_flatMap, List.flatMap_map, map_map];congr 1;funext a;congr 1;funext x;congr 1;funext t;simp
theorem zgh(ps : List Part): ps.foldl ext [[]]=ziV ps := by
  rw [zgu];simp
theorem zkp{ms : List Int}: InBox [] ms↔ms=[] := ⟨fun h => eq_nil_of_length_eq_zero h.len, fun h => by subst h; exact⟨rfl, fun k hk => by simp at hk⟩⟩
theorem zgK{p : Part}{ps : List Part}{k : Nat}: part (p :: ps) (k+1)=part ps k := by simp [part]
theorem ziB{p : Part}{ps : List Part}{ms : List Int}: InBox (p :: ps) ms↔∃ x t, ms=x :: t /\ p.2.1<=x /\ x<=p.2.2 /\ InBox ps t := by
  constructor
  · intro h
    cases ms with
    | nil => have := h.len; simp at this
    | cons x t =>
      have h0 := h.ok 0 (by simp);refine⟨x, t, rfl, h0.1, h0.2, by have := h.len; simpa using this, fun k hk => ?_⟩;have := h.ok (k+1) (by simpa using hk);unfold plo phi at this ⊢;rw [zgK] at this;simpa using this
  · rintro⟨x, t, rfl, h1, h2, h3⟩
    refine⟨by simp [h3.len], fun k hk => ?_⟩;cases k with
    | zero => exact⟨h1, h2⟩
    | succ k =>
      have := h3.ok k (by simpa using hk);unfold plo phi at this ⊢;rw [zgK];simpa using this
theorem zcB: ∀ {ps : List Part} {ms : List Int}, ms∈ziV ps↔InBox ps ms
  | [], ms => by rw [zkp]; simp [ziV]
  | p :: ps, ms => by
    rw [ziB, ziV, List.mem_flatMap];constructor
    · rintro⟨x, hx, h⟩
      obtain⟨t, ht, rfl⟩ := mem_map.mp h;unfold zi4 at hx;rw [zld] at hx;exact⟨x, t, rfl, by omega, by omega, zcB.mp ht⟩
    · rintro⟨x, t, rfl, h1, h2, h3⟩
      exact⟨x, by unfold zi4; rw [zld]; omega, mem_map.mpr ⟨t, zcB.mpr h3, rfl⟩⟩
def zcV: List Nat -> Nat
  | [] => 1
  | x :: xs => x*zcV xs
def zaL(ps : List Part): Nat := zcV (ps.map fun p => (p.2.2 - p.2.1+1).toNat)
theorem zc6{α β : Type}{f : α -> List β}{n : Nat}: ∀ {l : List α}, (∀ x∈l, (f x).length=n) -> (l.flatMap f).length=l.length*n
  | [], _ => by simp
  | x :: l, h => by
    rw [List.flatMap_cons, length_append, h x mem_cons_self, zc6 fun y m => h y (mem_cons_of_mem _ m), length_cons, Nat.succ_mul, Nat.add_comm]
theorem zek: ∀ ps : List Part, (ziV ps).length=zaL ps
  | [] => rfl
  | p :: ps => by
    rw [ziV, zc6 (n := zaL ps) fun x _ => by rw [length_map, zek ps], zh4];rfl
theorem zhA{found : List (List Int)}{p : Part}: (ext found p).length=found.length*(p.2.2 - p.2.1+1).toNat := by
  unfold ext;exact zc6 fun x _ => by rw [length_map, zh4]
theorem zeo{found : List (List Int)}: ∀ {ps : List Part}, (ps.foldl ext found).length=found.length*zaL ps
  | [] => by simp [zaL, zcV]
  | p :: ps => by
    rw [foldl_cons, zeo (ps := ps), zhA];simp [zaL, zcV, Nat.mul_assoc]
theorem zgB: ∀ {l : List Nat}, (∀ x∈l, 1<=x) -> 1<=zcV l
  | [], _ => le_refl _
  | x :: l, h => Nat.mul_le_mul (h x mem_cons_self) (zgB fun y m => h y (mem_cons_of_mem _ m))
theorem zgs{ps : List Part}(ho : Ord ps): 1<=zaL ps := zgB fun x m => by
  obtain⟨p, mp, rfl⟩ := mem_map.mp m;have := ho p mp;omega
theorem zcl: ∀ (a b : List Nat), zcV (a++b)=zcV a*zcV b
  | [], b => by simp [zcV]
  | x :: a, b => by simp [zcV, zcl a b, Nat.mul_assoc]
theorem zdD{ps : List Part}(ho : Ord ps)(i : Nat): zaL (ps.take i)<=zaL ps := by
  have e : zaL ps=zaL (ps.take i)*zaL (ps.drop i) := by
    unfold zaL;rw [<- zcl, <- map_append, take_append_drop]
  have := zgs (ps := ps.drop i) fun p m => ho p (List.mem_of_mem_drop m);rw [e];exact Nat.le_mul_of_pos_right _ this
theorem zF{α : Type}{l : List α}{i : Nat}{x : α}(h : l[i]? = some x): l.take (i+1)=l.take i++[x] := by rw [List.take_add_one, h]; rfl
theorem zkM(a : List Int)(x : Int): PyData.tuple (a.map PyData.int++[.int x])=zaZ (a++[x]) := by simp [zaZ]
end
section
variable {R : RX} {S : Sto}
structure Wds(ws : List Int): Prop where
  l1 : 1<=ws.length
  l8 : ws.length<=8
  pos : ∀ x∈ws, 1<=x
  le : ∀ x∈ws, x<=300
  prod : zcV (ws.map Int.toNat)<=300
theorem prod3: ∀ {ws : List Int}, (∀ x∈ws, 1<=x /\ x<=3) -> zcV (ws.map Int.toNat)<=3 ^ ws.length
  | [], _ => by simp [zcV]
  | x :: ws, h => by
    have h1 := h x mem_cons_self;have h2 := prod3 fun y m => h y (mem_cons_of_mem _ m);rw [map_cons, zcV, length_cons, Nat.pow_succ, Nat.mul_comm];exact Nat.mul_le_mul h2 (by omega)
theorem wds3{ws : List Int}(l1 : 1<=ws.length)(l4 : ws.length<=4)(h : ∀ x∈ws, 1<=x /\ x<=3): Wds ws := by
  refine⟨l1, by omega, fun x m => (h x m).1, fun x m => by have := (h x m).2; omega, le_trans (prod3 h) ?_⟩;have : ws.length=1 \/ ws.length=2 \/ ws.length=3 \/ ws.length=4 := by omega
  rcases this with e | e | e | e <;> rw [e] <;> decide
theorem zes: ∀ (a b : List Int), PyData.eqvAll (a.map PyData.int) (b.map PyData.int)=decide (a=b)
  | [], [] => rfl
  | [], _ :: _ => rfl
  | _ :: _, [] => rfl
  | x :: a, y :: b => by
    show (PyData.eqv (.int x) (.int y) && PyData.eqvAll (a.map PyData.int) (b.map PyData.int))=_;rw [zf0, zes a b];by_cases h1 : x=y <;> by_cases h2 : a=b <;> simp [h1, h2]
theorem zhm(a b : List Int): PyData.eqv (zaZ a) (zaZ b)=decide (a=b) := zes a b
end
section
variable {R : RX} {S : Sto}
theorem zlP{n : Nat}(h : 1<=n): ixN n (-1)=some (n - 1) := by
  unfold ixN;rw [if_neg (by omega), if_pos (by omega)];congr 1;omega
end
section
variable {R : RX}
theorem zfA{ps : List Part}{i : Nat}{p : Part}(e : ps[i]? = some p): zaL (ps.take (i+1))=zaL (ps.take i)*(p.2.2 - p.2.1+1).toNat := by
  unfold zaL;rw [zF e, map_append, zcl];simp [zcV]
theorem zhG{ps : List Part}(ho : Ord ps)(hs : zaL ps<=300)(q : R (.d (.int (zaL ps))) []): zcz [.d (zc4 ps)] [] R := by
  unfold zcz;rw [zc4];walk_at "d"
  walk_at "n"
  walk_at "n";refine zai (fun i δ S => ∃ (u : Option XV), S=[] /\ δ=[some (.d (.tuple (ps.map zeu))), some (.d (.int (zaL (ps.take i)))), u]) ⟨_, rfl, rfl⟩ ?_ ?_
  · rintro i d _ _ N hi ⟨u, rfl, rfl⟩ hN
    obtain⟨p, e, rfl⟩ := zbG hi;have op := ho p (mem_of_getElem? e);have l1 := zdD ho i;walk_at "d";refine ziD ?_;walk_at "d";refine zi2 ?_;walk_at "d";refine⟨zct (by omega) (by omega), hN _ _ ⟨some (.d (zeu p)), rfl, ?_⟩⟩;rw [zfA e, Int.natCast_mul, Int.toNat_of_nonneg (by omega)]
  · rintro _ _ ⟨u, rfl, rfl⟩
    rw [length_map, take_length];walk_at "d";exact q
theorem zke{ps : List Part}(ho : Ord ps)(hs : zaL ps<=300)(q : R (.d .none) []): zab [.d (zc4 ps)] [] R := by
  unfold zab;walk_at "d"
  walk_at "n"
  refine zhG ho hs ?_;walk_at "d";have : ¬ (300 : Int)<(zaL ps : Int) := by omega
  simp only [this, decide_false];walk_at "d";exact q
theorem zkX(p : Part): zd6 p.2.1 (p.2.2+1 - p.2.1).toNat=(zi4 p).map PyData.int := by
  unfold zd6 zi4 rng;rw [map_map, show p.2.2+1 - p.2.1=p.2.2 - p.2.1+1 by omega];rfl
theorem ze0{found : List (List Int)}{p : Part}(hl : (ext found p).length<=1000)(fl : ∀ a∈found, a.length<=100)(h1 : 1<=found.length)(q : R (.d (.list ((ext found p).map zaZ))) []): zbt [.d (.list (found.map zaZ)), .d (.list ((zi4 p).map PyData.int))] [] R := by
  unfold zbt;walk_at "d"
  walk_at "n"
  walk_at "n";refine zai (fun j δ S => ∃ (u : Option XV), S=[(ext (found.take j) p).map zaZ] /\ δ=[some (.d (.list (found.map zaZ))), some (.d (.list ((zi4 p).map PyData.int))), some (.l 0), u]) ⟨_, rfl, rfl⟩ ?_ ?_
  · rintro j d _ _ N hj ⟨u, rfl, rfl⟩ hN
    obtain⟨a, ha, rfl⟩ := zbG hj;have al := fl a (mem_of_getElem? ha);have ej : ext (found.take (j+1)) p=ext (found.take j) p++(zi4 p).map fun x => a++[x] := by
      rw [zF ha];unfold ext;rw [flatMap_append];simp
    have lj : (ext (found.take (j+1)) p).length<=(ext found p).length := by
      rw [zhA, zhA, length_take];exact Nat.mul_le_mul_right _ (by omega)
    have sm : (ext (found.take j) p).length+(zi4 p).length<=1000 := by
      rw [ej, length_append, length_map] at lj;omega
    rw [zaZ];walk_at "d";refine cmp1 (S0 := [(ext (found.take j) p).map zaZ]) (fun x : Int => zaZ (a++[x])) rfl (zi4 p) (by omega) ?_ ?_
    · intro x mx u acc R' hk
      walk_at "d";refine⟨by omega, ?_⟩;rw [zkM];exact hk _
    · walk_at "d"
      refine⟨sm, hN _ _ ⟨_, ?_, rfl⟩⟩;rw [ej, map_append, map_map];rfl
  · rintro _ _ ⟨u, rfl, rfl⟩
    rw [length_map, take_length];walk_at "d";exact .inl q
theorem zhL{ps : List Part}(ho : Ord ps)(h100 : ps.length<=100)(hs : zaL ps<=300)(q : R (.d (.list ((ziV ps).map zaZ))) []): zcC [.d (zc4 ps)] [] R := by
  unfold zcC;walk_at "d"
  walk_at "n"
  refine zke ho hs ?_;rw [zc4];walk_at "d"
  walk_at "n"
  walk_at "n";refine zai (fun i δ S => ∃ (u : Option XV), S=[] /\ δ=[some (.d (.tuple (ps.map zeu))), some (.d (.list (((ps.take i).foldl ext [[]]).map zaZ))), u]) ⟨_, rfl, rfl⟩ ?_ ?_
  · rintro i d _ _ N hi ⟨u, rfl, rfl⟩ hN
    obtain⟨p, e, rfl⟩ := zbG hi;have op := ho p (mem_of_getElem? e);have l1 := zdD ho i;have l2 := zdD ho (i+1);have il : i<ps.length := (List.getElem?_eq_some_iff.mp e).1;have f1 : ((ps.take i).foldl ext [[]]).length=zaL (ps.take i) := by rw [zeo]; simp
    have nx : (ps.take (i+1)).foldl ext [[]]=ext ((ps.take i).foldl ext [[]]) p := by rw [zF e, List.foldl_append]; rfl
    have f2 : (ext ((ps.take i).foldl ext [[]]) p).length=zaL (ps.take (i+1)) := by
      rw [<- nx, zeo];simp
    have fl : ∀ a∈(ps.take i).foldl ext [[]], a.length<=100 := by
      rw [zgh];intro a m;have := (zcB.mp m).len;rw [this, length_take];omega
    have pos : 1<=zaL (ps.take i) := zgs fun p m => ho p (List.mem_of_mem_take m);have pl : (p.2.2+1 - p.2.1).toNat<=1000 := by
      have e1 := zfA e;have e2 : (p.2.2 - p.2.1+1).toNat<=zaL (ps.take i)*(p.2.2 - p.2.1+1).toNat := Nat.le_mul_of_pos_left _ pos;omega
    rw [zhn];walk_at "d";refine⟨pl, ?_⟩;rw [zkX];refine ze0 (by omega) fl (by omega) ?_;walk_at "d";exact hN _ _ ⟨_, rfl, by rw [nx]⟩
  · rintro _ _ ⟨u, rfl, rfl⟩
    rw [length_map, take_length, zgh];walk_at "d";exact q
def zaD(c : List Nat): PyData := .tuple (c.map fun k : Nat => .int k)
def nxt(c : List Nat): Nat := match c.getLast? with | some x => x+1 | none => 0
def one1(n : Nat)(c : List Nat): List (List Nat) := (List.range (n - nxt c)).map fun k => c++[nxt c+k]
def ewm(cs : List (List Nat))(n : Nat): List (List Nat) := cs.flatMap (one1 n)
theorem zgI(c : List Nat)(k : Nat): PyData.tuple ((c.map fun k : Nat => PyData.int k)++[.int (k : Int)])=zaD (c++[k]) := by simp [zaD]
theorem zjO{c : List Nat}{x : Nat}(h : c.getLast? = some x): atI (c.map fun k : Nat => PyData.int k) (-1)=some (.int x) := by
  have ne : c≠[] := fun z => by rw [z] at h; cases h
  have l : 1<=c.length := List.length_pos_iff.mpr ne;unfold atI;rw [length_map, zlP l];show (c.map fun k : Nat => PyData.int k)[c.length - 1]? = _;rw [getElem?_map, <- List.getLast?_eq_getElem?, h];rfl
theorem zgR{cs : List (List Nat)}{n : Nat}(hl : (ewm cs n).length<=900)(hc : ∀ c∈cs, c.length<=100)(q : R (.d (.list ((ewm cs n).map zaD))) []): zaj [.d (.list (cs.map zaD)), .d (.int n)] [] R := by
  unfold zaj;walk_at "d"
  walk_at "n"
  walk_at "n";refine zai (fun i δ S => ∃ (u1 u2 u3 : Option XV), S=[(ewm (cs.take i) n).map zaD] /\ δ=[some (.d (.list (cs.map zaD))), some (.d (.int n)), some (.l 0), u1, u2, u3]) ⟨_, _, _, rfl, rfl⟩ ?_ ?_
  · rintro i d _ _ N hi ⟨u1, u2, u3, rfl, rfl⟩ hN
    obtain⟨c, e, rfl⟩ := zbG hi;have cl := hc c (mem_of_getElem? e);have ee : ewm (cs.take (i+1)) n=ewm (cs.take i) n++one1 n c := by
      unfold ewm;rw [zF e, flatMap_append];simp
    have le : (ewm (cs.take (i+1)) n).length<=(ewm cs n).length := by
      have : ewm cs n=ewm (cs.take (i+1)) n++ewm (cs.drop (i+1)) n := by
        unfold ewm;rw [<- flatMap_append, take_append_drop]
      rw [this, length_append];omega
    rw [ee, length_append] at le;have l1 : (one1 n c).length=n - nxt c := by simp [one1]
    have body : ∀ f : Int, f=(nxt c : Nat) -> zhI (zn 5) (zdB (dBM zb3 (zj 2) (zc (dOp zb6 (zj 3) (zd4 (zc (zj 5) zp))) zp))) (zd6 f ((n : Int) - f).toNat) { nx := N, rt := (zbK 0 R).rt, bk := zaY (zj 2) (zbK 0 R), ct := N } [some (.d (.list (cs.map zaD))), some (.d (.int n)), some (.l 0), some (.d (.tuple (c.map fun k : Nat => .int k))), some (.d (.int f)), u3] [(ewm (cs.take i) n).map zaD] := by
      rintro f rfl;refine zai (fun j δ S => ∃ (u3 : Option XV), S=[(ewm (cs.take i) n++(one1 n c).take j).map zaD] /\ δ=[some (.d (.list (cs.map zaD))), some (.d (.int n)), some (.l 0), some (.d (.tuple (c.map fun k : Nat => .int k))), some (.d (.int (nxt c : Nat))), u3]) ⟨_, by simp, rfl⟩ ?_ ?_
      · rintro j d _ _ N' hj ⟨u3, rfl, rfl⟩ hN2
        obtain⟨hj', rfl⟩ := zbg hj;have hj2 : j<n - nxt c := by omega
        have eo : (one1 n c)[j]? = some (c++[nxt c+j]) := by
          unfold one1;rw [getElem?_map, List.getElem?_range hj2];rfl
        have lt : (ewm (cs.take i) n).length+((one1 n c).take j).length<=900 := by
          rw [length_take];omega
        walk_at "d";refine⟨by omega, by omega, hN2 _ _ ⟨_, ?_, rfl⟩⟩;rw [zF eo, <- append_assoc, map_append (l₂ := [c++[nxt c+j]])];have := zgI c (nxt c+j);rw [Int.natCast_add] at this;rw [this];rfl
      · rintro _ _ ⟨u3, rfl, rfl⟩
        refine hN _ _ ⟨_, _, _, ?_, rfl⟩;rw [ee, zW, List.take_of_length_le (l := one1 n c) (by omega)]
    rw [zaD];walk_at "d";cases hz : c.getLast? with
    | none =>
      have c0 : c=[] := List.getLast?_eq_none_iff.mp hz;subst c0
      walk_at "n"
      exact body 0 rfl
    | some x =>
      have e0 : nxt c=x+1 := by unfold nxt; rw [hz]
      have cne : c.isEmpty=false := by
        cases c with
        | nil => cases hz
        | cons _ _ => rfl
      walk_at "n";rw [if_pos (by rw [List.isEmpty_map]; exact cne)];refine⟨_, zjO hz, ?_⟩;walk_at "d";exact body _ (by rw [e0]; omega)
  · rintro _ _ ⟨u1, u2, u3, rfl, rfl⟩
    rw [length_map, take_length];walk_at "d";exact .inl q
theorem zfZ{n : Nat}(c : List Nat): Shp (n+1) (zaD c) := zcZ (zjB fun _ _ => zcS)
end
section
variable {R : RX} {S : Sto}
def CH(n : Nat): Nat -> List (List Nat)
  | 0 => [[]]
  | m+1 => ewm (CH n m) n
theorem zm2: ∀ n<9, ∀ m<10, (CH n m).length<=900 := by decide +kernel
theorem zjx: ∀ n<9, ∀ m<9, ∀ c∈CH n m, c.length=m /\ ∀ k∈c, k<n := by decide +kernel
theorem zfu{n m : Nat}(hn : n<=8)(hm : m<=8)(q : R (.d (.list ((CH n m).map zaD))) []): zbf [.d (.int n), .d (.int m)] [] R := by
  unfold zbf;walk_at "d"
  walk_at "n"
  walk_at "n";refine zai (fun i δ S => ∃ u : Option XV, S=[] /\ δ=[some (.d (.int n)), some (.d (.int m)), some (.d (.list ((CH n i).map zaD))), u]) ⟨_, rfl, rfl⟩ ?_ ?_
  · rintro i d _ _ N hi ⟨u, rfl, rfl⟩ hN
    obtain⟨hi', rfl⟩ := zbg hi;have him : i<m := by simpa using hi'
    walk_at "d";refine zgR (cs := CH n i) (zm2 n (by omega) (i+1) (by omega)) (fun c mc => by have := (zjx n (by omega) i (by omega) c mc).1; omega) ?_;walk_at "d";exact hN _ _ ⟨_, rfl, rfl⟩
  · rintro _ _ ⟨u, rfl, rfl⟩
    rw [zW];walk_at "d";rw [show ((m : Int)).toNat=m by simp];exact q
end
section
variable {R : RX} {S : Sto}
theorem zcR(ps : List Part): zc4 ps=.tuple (ps.map zeu) := rfl
theorem zd0{d : PyData}(q : R (.d (.bool (zX d))) []): zbM [.d d] [] R := by
  unfold zbM;cases d <;> (walk_at "e"; exact q)
def inP(p : Part): PyData -> Bool
  | .int k => decide (p.2.1<=k /\ k<=p.2.2)
  | _ => false
def zbD(ps : List Part): PyData -> Bool
  | .tuple ds => decide (ds.length=ps.length) && ((ds.zip ps).map fun q => inP q.2 q.1).all id
  | _ => false
theorem zbR(ps : List Part)(ds : List PyData): zbD ps (.tuple ds)=(decide (ds.length=ps.length) && ((ds.zip ps).map fun q => inP q.2 q.1).all id) := rfl
theorem zg4{ps : List Part}{d : PyData}(hl : ps.length<=100)(q : R (.d (.bool (zbD ps d))) []): zdp [.d (zc4 ps), .d d] [] R := by
  unfold zdp;rw [zcR];cases d with
  | tuple ds =>
    walk_at "d"
    walk_at "n"
    by_cases h : ds.length=ps.length
    · rw [if_neg (by omega)]
      rw [zbR, decide_eq_true h, Bool.true_and] at q;have ez : zfz ds (ps.map zeu)=(ds.zip ps).map fun q => .tuple [q.1, zeu q.2] := by
        have := zdu (fun d : PyData => d) zeu ds ps
        rwa [map_id'] at this
      walk_at "d";rw [ez];refine cmp2 (S0 := []) (fun q : PyData×Part => .bool (inP q.2 q.1)) rfl (ds.zip ps) (by simp; omega) ?_ ?_
      · intro x mx u v acc R' hk
        obtain⟨d, p⟩ := x;rw [zhn];walk_at "d";refine zd0 ?_;cases d with
        | int k =>
          simp only [zX];walk_at "d";have e0 : inP p (.int k)=decide (p.2.1<=k /\ k<=p.2.2) := rfl;have hk' := hk (some (.d (.int k))) (some (.d (.tuple [.str p.1, .int p.2.1, .int p.2.2])));rw [e0] at hk';split
          · rename_i h1
            simpa [h1] using hk'
          · rename_i h1
            simpa [h1] using hk'
        | none => (simp only [zX]; walk_at "d"; exact hk _ _)
        | bool b => (simp only [zX]; walk_at "d"; exact hk _ _)
        | str b => (simp only [zX]; walk_at "d"; exact hk _ _)
        | list b => (simp only [zX]; walk_at "d"; exact hk _ _)
        | dict b => (simp only [zX]; walk_at "d"; exact hk _ _)
        | tuple b => (simp only [zX]; walk_at "d"; exact hk _ _)
      · walk_at "d"
        exact⟨_, by rw [map_map]; rfl, q⟩
    · rw [if_pos (by omega)]
      rw [zbR, decide_eq_false h] at q;exact q
  | none => (walk_at "d"; walk_at "n"; exact q)
  | bool b => (walk_at "d"; walk_at "n"; exact q)
  | int b => (walk_at "d"; walk_at "n"; exact q)
  | str b => (walk_at "d"; walk_at "n"; exact q)
  | list b => (walk_at "d"; walk_at "n"; exact q)
  | dict b => (walk_at "d"; walk_at "n"; exact q)
theorem zde{ps : List Part}{d : PyData}(hl : ps.length<=100)(q : R (.d (.bool (zbD ps d))) []): zbe [.d (zc4 ps), .d d] [] R := by
  unfold zbe;rw [zcR];cases d with
  | tuple ds =>
    walk_at "d"
    walk_at "n"
    by_cases h : ds.length=ps.length
    · rw [if_neg (by omega)]
      rw [zbR, decide_eq_true h, Bool.true_and] at q;have ez : zfz ds (ps.map zeu)=(ds.zip ps).map fun q => .tuple [q.1, zeu q.2] := by
        have := zdu (fun d : PyData => d) zeu ds ps
        rwa [map_id'] at this
      walk_at "d";rw [ez];refine cmp2 (S0 := []) (fun q : PyData×Part => .bool (inP q.2 q.1)) rfl (ds.zip ps) (by simp; omega) ?_ ?_
      · intro x mx u v acc R' hk
        obtain⟨d, p⟩ := x;rw [zhn];walk_at "d";refine zdV ?_;cases d with
        | int k =>
          simp only [zX];walk_at "d";have e0 : inP p (.int k)=decide (p.2.1<=k /\ k<=p.2.2) := rfl;have hk' := hk (some (.d (.int k))) (some (.d (.tuple [.str p.1, .int p.2.1, .int p.2.2])));rw [e0] at hk';split
          · rename_i h1
            simpa [h1] using hk'
          · rename_i h1
            simpa [h1] using hk'
        | none => (simp only [zX]; walk_at "d"; exact hk _ _)
        | bool b => (simp only [zX]; walk_at "d"; exact hk _ _)
        | str b => (simp only [zX]; walk_at "d"; exact hk _ _)
        | list b => (simp only [zX]; walk_at "d"; exact hk _ _)
        | dict b => (simp only [zX]; walk_at "d"; exact hk _ _)
        | tuple b => (simp only [zX]; walk_at "d"; exact hk _ _)
      · walk_at "d"
        exact⟨_, by rw [map_map]; rfl, q⟩
    · rw [if_pos (by omega)]
      rw [zbR, decide_eq_false h] at q;exact q
  | none => (walk_at "d"; walk_at "n"; exact q)
  | bool b => (walk_at "d"; walk_at "n"; exact q)
  | int b => (walk_at "d"; walk_at "n"; exact q)
  | str b => (walk_at "d"; walk_at "n"; exact q)
  | list b => (walk_at "d"; walk_at "n"; exact q)
  | dict b => (walk_at "d"; walk_at "n"; exact q)
def atC(ns : List Int)(c : List Nat): List Int := c.map fun k => ns.getD k 0
theorem zbp{ns : List Int}{c : List Nat}(hc : ∀ k∈c, k<ns.length)(hl : c.length<=100)(q : R (.d (zaZ (atC ns c))) []): zaM [.d (zaZ ns), .d (zaD c)] [] R := by
  unfold zaM zaZ zaD;walk_at "d";refine cmp1 (S0 := []) (fun k : Nat => .int (ns.getD k 0)) rfl c (by omega) ?_ ?_
  · intro k mk u acc R' hk
    walk_at "d";exact⟨_, zfb (f := PyData.int) (zhx (hc k mk)), hk _⟩
  · walk_at "d"
    have e : (c.map fun k : Nat => PyData.int (ns.getD k 0))=(atC ns c).map PyData.int := by unfold atC; rw [map_map]; rfl
    rw [e];exact q
theorem zdZ{ns : List Int}{c : List Nat}(hc : ∀ k∈c, k<ns.length)(hl : c.length<=100)(q : R (.d (zaZ (atC ns c))) []): zb4 [.d (zaZ ns), .d (zaD c)] [] R := zbp hc hl q
theorem zrs{g : DG}{te : DE}{fin : Sto -> Prop}{S0 : Sto}{n : Nat}{caps : XE}(f : PyData -> PyData)(hn : S0.length=n)(ds : List PyData){u : Option XV}(hl : ds.length<=1000)
    (el : ∀ x∈ds, ∀ (u : Option XV) acc (R : XE -> RX), (∀ u', R (u' :: caps) (.d (f x)) (S0++[acc])) -> g (.d x) (u :: caps) (S0++[acc]) fun τ1 S1 => te τ1 S1 (R τ1)) (hf : fin (S0++[ds.map f])) : zd1 n g zaq te fin ds (u :: caps) (S0++[[]]) := by
  have := cmp1 (h := fun d : PyData => d) (u := u) f hn ds hl el hf;simpa only [map_id'] using this
def ziP(c : List Nat): PyData -> Bool
  | .tuple ds => ds.all zX && PyData.eqv (.tuple ds) (zaD c)
  | _ => false
theorem zkl(c : List Nat)(ds : List PyData): ziP c (.tuple ds)=(ds.all zX && PyData.eqv (.tuple ds) (zaD c)) := rfl
theorem zg8{ds : List PyData}(h : ds.all zX=true): SeqAt.shaped (.tuple ds)=true := (zcZ (n := 0) fun e m => by
  have := all_eq_true.mp h e m;cases e with
  | int i => exact zcS
  | _ => cases this).ok
def zrq: PyData -> Nat
  | .tuple ds => ds.length
  | _ => 0
theorem ziy{c : List Nat}{d : PyData}(hd : zrq d<=900)(q : R (.d (.bool (ziP c d))) []): zdi [.d d, .d (zaD c)] [] R := by
  unfold zdi;cases d with
  | tuple ds =>
    walk_at "d";rw [zkl] at q;refine zrs (S0 := []) (fun d => .bool (zX d)) rfl ds (le_trans hd dz) ?_ ?_
    · intro x mx u acc R' hk
      walk_at "d";refine zd0 ?_;walk_at "d";exact hk _
    · walk_at "d"
      refine⟨ds.map zX, by rw [map_map]; rfl, ?_⟩;rw [all_map, show ds.all (id∘zX)=ds.all zX from rfl];cases hw : ds.all zX with
      | false =>
        rw [hw] at q;exact q
      | true =>
        rw [hw, Bool.true_and] at q;exact⟨zg8 hw, (zfZ (n := 0) c).ok, q⟩
  | none => (walk_at "d"; exact q)
  | bool b => (walk_at "d"; exact q)
  | int b => (walk_at "d"; exact q)
  | str b => (walk_at "d"; exact q)
  | list b => (walk_at "d"; exact q)
  | dict b => (walk_at "d"; exact q)
def unI: PyData -> Int
  | .int k => k
  | _ => 0
def vI: PyData -> List Int
  | .tuple ds => ds.map unI
  | _ => []
theorem zeF: ∀ {ds : List PyData}, (∀ d∈ds, ∃ k, d=.int k) -> ds=(ds.map unI).map PyData.int
  | [], _ => rfl
  | d :: r, h => by
    obtain⟨k, rfl⟩ := h d mem_cons_self;rw [map_cons, map_cons, <- zeF fun e m => h e (mem_cons_of_mem _ m)];rfl
theorem zef{ps : List Part}{d : PyData}(h : zbD ps d=true): d=zaZ (vI d) /\ (vI d).length=ps.length := by
  cases d with
  | tuple ds =>
    rw [zbR, Bool.and_eq_true, decide_eq_true_eq] at h;obtain⟨h1, h2⟩ := h;refine⟨?_, by simp [vI, h1]⟩;have : ∀ d∈ds, ∃ k, d=.int k := fun d m => by
      obtain⟨i, hi, rfl⟩ := List.mem_iff_getElem.mp m;have hz : i<(ds.zip ps).length := by simp; omega
      have mz : ((ds.zip ps)[i])∈ds.zip ps := getElem_mem hz;have := all_eq_true.mp h2 _ (mem_map.mpr ⟨_, mz, rfl⟩);simp only [getElem_zip, id] at this;generalize ds[i]=d at this;cases d with
      | int k => exact⟨k, rfl⟩
      | _ => cases this
    show PyData.tuple ds=.tuple ((ds.map unI).map PyData.int);rw [<- zeF this]
  | _ => cases h
def zdq(ps : List Part)(g : Gap)(c : List Nat): PyData -> Bool
  | .tuple [x, y, z] => ziP c x && ((zbD ps y && zbD ps z) && (decide (atC (vI y) c=atC (vI z) c) && (zbA g (vI y) && !zbA g (vI z))))
  | _ => false
theorem row3(ps : List Part)(g : Gap)(c : List Nat)(x y z : PyData): zdq ps g c (.tuple [x, y, z])=(ziP c x && ((zbD ps y && zbD ps z) && (decide (atC (vI y) c=atC (vI z) c) && (zbA g (vI y) && !zbA g (vI z))))) := rfl
def zps: PyData -> Prop
  | .tuple (x :: _) => zrq x<=900
  | _ => True
theorem zec(ns : List Int): SeqAt.shaped (zaZ ns)=true := (zcZ (n := 0) fun e m => by
  obtain⟨k, _, rfl⟩ := mem_map.mp m;exact zcS).ok
theorem zdA{ps : List Part}{g : Gap}{c : List Nat}{d : PyData}(hp : ps.length<=100)(h3 : Tm3 ps.length g.ts)(hc : ∀ k∈c, k<ps.length)(hl : c.length<=100)(hd : zps d)(q : R (.d (.bool (zdq ps g c d))) []): zaG [.d (zc4 ps), .d (zhl g), .d (zaD c), .d d] [] R := by
  unfold zaG;cases d with
  | tuple ds =>
    walk_at "d";walk_at "n"
    match ds, hd, q with
    | [x, y, z], hd, q =>
      rw [row3] at q;walk_at "d";refine ziy hd ?_;cases hs : ziP c x with
      | false =>
        rw [hs] at q;walk_at "d";exact q
      | true =>
        rw [hs, Bool.true_and] at q;walk_at "d";walk_at "n";refine zg4 hp ?_;cases hy : zbD ps y with
        | false =>
          rw [hy] at q;walk_at "d";exact q
        | true =>
          walk_at "d";refine zg4 hp ?_;cases hz : zbD ps z with
          | false =>
            rw [hy, hz] at q;walk_at "d";exact q
          | true =>
            rw [hy, hz, Bool.true_and, Bool.true_and] at q;obtain⟨ey, ly⟩ := zef hy;obtain⟨ez, lz⟩ := zef hz;generalize vI y=a at ey ly q;generalize vI z=b at ez lz q;subst ey ez;walk_at "d";refine zbp (by rw [ly]; exact hc) hl ?_;walk_at "d";refine zbp (by rw [lz]; exact hc) hl ?_;walk_at "d";refine⟨zec _, zec _, ?_⟩;rw [zhm];cases he : decide (atC a c=atC b c) with
            | false =>
              rw [he] at q;walk_at "d";exact q
            | true =>
              rw [he, Bool.true_and] at q;walk_at "d";refine zf3 (by rw [ly]; exact h3) ?_;cases hk : zbA g a with
              | false =>
                rw [hk] at q;walk_at "d";exact q
              | true =>
                rw [hk, Bool.true_and] at q;walk_at "d";refine zf3 (by rw [lz]; exact h3) ?_;walk_at "d";exact q
    | [], _, q => (walk_at "d"; exact q)
    | [x], _, q => (walk_at "d"; exact q)
    | [x, y], _, q => (walk_at "d"; exact q)
    | x :: y :: z :: u :: r, _, q =>
      walk_at "d";rw [if_pos (by omega)];exact q
  | none => (walk_at "d"; walk_at "n"; exact q)
  | bool b => (walk_at "d"; walk_at "n"; exact q)
  | int b => (walk_at "d"; walk_at "n"; exact q)
  | str b => (walk_at "d"; walk_at "n"; exact q)
  | list b => (walk_at "d"; walk_at "n"; exact q)
  | dict b => (walk_at "d"; walk_at "n"; exact q)
def pB(c : List Nat)(k : Nat): Bool := match c.getLast? with
  | none => true
  | some x => decide (x<k)
theorem zqP: ∀ n<9, ∀ m<9, ∀ c∈CH n m, ((List.range n).filter (pB c)).map (fun k => c++[k])=one1 n c := by decide +kernel
theorem zrG: ∀ n<9, ∀ m<9, (ewm (CH n m) n).length<=900 := by decide +kernel
theorem zl0{cs : List (List Nat)}{n j : Nat}: (ewm (cs.take j) n).length<=(ewm cs n).length := by
  unfold ewm;have h := take_append_drop j cs;have e : (cs.flatMap (one1 n)).length=((cs.take j).flatMap (one1 n)).length+((cs.drop j).flatMap (one1 n)).length := by
    rw [<- length_append, <- flatMap_append, h]
  omega
theorem zel{n m : Nat}(hn : n<=8)(hm : m<=8)(q : R (.d (.list ((CH n m).map zaD))) []): zbb [.d (.int n), .d (.int m)] [] R := by
  unfold zbb;walk_at "d"
  walk_at "n"
  walk_at "n";refine zai (fun i δ S => ∃ (u3 u4 u5 : Option XV), S=[] /\ δ=[some (.d (.int n)), some (.d (.int m)), some (.d (.list ((CH n i).map zaD))), u3, u4, u5]) ⟨_, _, _, rfl, rfl⟩ ?_ ?_
  · rintro i d _ _ N hi ⟨u3, u4, u5, rfl, rfl⟩ hN
    obtain⟨hi', rfl⟩ := zbg hi;have him : i<m := by simpa using hi'
    have ce := zjx n (by omega) i (by omega);have co := zqP n (by omega) i (by omega);have cl := zrG n (by omega) i (by omega);have hN' := fun u3 u4 u5 => hN [some (.d (.int n)), some (.d (.int m)), some (.d (.list ((ewm (CH n i) n).map zaD))), u3, u4, u5] [] ⟨u3, u4, u5, rfl, rfl⟩;generalize CH n i=found at ce co cl hN' ⊢;walk_at "d";walk_at "n";walk_at "n";refine zai (fun j δ S => ∃ (u : Option XV), S=[(ewm (found.take j) n).map zaD] /\ δ=[some (.d (.int n)), some (.d (.int m)), some (.d (.list (found.map zaD))), some (.d (.int (0+i))), some (.l 0), u]) ⟨_, rfl, rfl⟩ ?_ ?_
    · rintro j d _ _ N' hj ⟨u, rfl, rfl⟩ hN2
      obtain⟨c, hc, rfl⟩ := zbG hj;have mc := mem_of_getElem? hc;have tkj := zF hc;have ej : ewm (found.take (j+1)) n=ewm (found.take j) n++one1 n c := by
        rw [tkj];unfold ewm;rw [flatMap_append];simp
      have lj := zl0 (cs := found) (n := n) (j := j+1);rw [ej, length_append] at lj;obtain⟨c1, c2⟩ := ce c mc;walk_at "d";rw [Int.toNat_natCast, zd6];refine cmf1 (S0 := [(ewm (found.take j) n).map zaD]) (h := fun k : Nat => PyData.int (0+k)) (fun k : Nat => zaD (c++[k])) (pB c) rfl (List.range n) (by simp; omega) ?_ ?_
      · intro k mk u acc R' hk
        rw [Int.zero_add];have te : ∀ T : RX, T (XV.d (zaD (c++[k]))) ([(ewm (found.take j) n).map zaD]++[acc]) -> dOp zb6 (zj 1) (zd4 (zc (zj 0) zp)) [some (.d (.int k)), some (.d (zaD c))] ([(ewm (found.take j) n).map zaD]++[acc]) T := fun T hT => by
          unfold zaD at hT ⊢;walk_at "d";refine⟨by omega, ?_⟩;have e := zgI c k;unfold zaD at e;rw [e];exact hT
        have hk' := hk (some (.d (.int k))) fun _ T hT => te T hT;cases hg : c.getLast? with
        | none =>
          have ec : c=[] := List.getLast?_eq_none_iff.mp hg;have ep : pB c k=true := by unfold pB; rw [hg]
          rw [ep] at hk';subst ec;unfold zaD at hk' ⊢;walk_at "d";exact hk'
        | some x =>
          have ec : c≠[] := fun z => by rw [z] at hg; cases hg
          have el := List.length_pos_iff.mpr ec;have ep : pB c k=decide (x<k) := by unfold pB; rw [hg]
          rw [ep] at hk';have ex := zjO hg;unfold zaD at hk' ⊢;walk_at "d";rw [if_neg (by omega)];refine⟨_, ex, ?_⟩;walk_at "d";have e3 : decide ((x : Int)<(k : Int))=decide (x<k) := by rw [Bool.eq_iff_iff]; simp
          rw [e3];exact hk'
      · walk_at "d"
        have lc := congrArg List.length (co c mc);rw [length_map] at lc;refine⟨by omega, hN2 _ _ ⟨_, ?_, rfl⟩⟩;rw [ej, map_append, <- co c mc, map_map];rfl
    · rintro _ _ ⟨u, rfl, rfl⟩
      rw [length_map, take_length];walk_at "d";exact hN' _ _ _
  · rintro _ _ ⟨u3, u4, u5, rfl, rfl⟩
    rw [zW, Int.toNat_natCast];walk_at "d";exact q
def zfn(n m : Nat): List (List Nat) := if m=0 then [] else CH n (m - 1)
theorem zhc{n m : Nat}(hn : n<=8)(hm : m<=n+1): (zfn n m).length<=900 /\ ∀ c∈zfn n m, c.length<=100 /\ ∀ k∈c, k<n := by
  unfold zfn;split
  · exact⟨by decide, fun c m => by cases m⟩
  · refine⟨zm2 n (by omega) (m - 1) (by omega), fun c mc => ?_⟩
    obtain⟨h1, h2⟩ := zjx n (by omega) (m - 1) (by omega) c mc;exact⟨by omega, h2⟩
def zql(ps : List Part)(g : Gap)(cs : List (List Nat)): PyData -> Bool
  | .list ds => decide (ds.length=cs.length) && (ds.zip cs).all fun q => zdq ps g q.2 q.1
  | _ => false
theorem zqy(ps : List Part)(g : Gap)(cs : List (List Nat))(ds : List PyData): zql ps g cs (.list ds)=(decide (ds.length=cs.length) && (ds.zip cs).all fun q => zdq ps g q.2 q.1) := rfl
def zqD: PyData -> Prop
  | .list ds => ∀ d∈ds, zps d
  | _ => True
theorem zrJ(ds : List PyData)(cs : List (List Nat)): zfz (cs.map zaD) ds=(cs.zip ds).map fun q => .tuple [zaD q.1, q.2] := by
  have := zdu zaD (fun d : PyData => d) cs ds
  rwa [map_id'] at this
theorem zqw(ds : List PyData)(cs : List (List Nat)): zfz ds (cs.map zaD)=(ds.zip cs).map fun q => .tuple [q.1, zaD q.2] := by
  have := zdu (fun d : PyData => d) zaD ds cs
  rwa [map_id'] at this
theorem znn(ds : List PyData)(cs : List (List Nat))(f : PyData -> List Nat -> Bool): ((cs.zip ds).map fun q => f q.2 q.1).all id=(ds.zip cs).all fun q => f q.1 q.2 := by
  induction ds generalizing cs with
  | nil => cases cs <;> rfl
  | cons d r ih =>
    cases cs with
    | nil => rfl
    | cons c cs =>
      rw [zip_cons_cons, zip_cons_cons, map_cons, all_cons, all_cons, ih];rfl
theorem zb9{ps : List Part}{m : Nat}(hp : ps.length<=8)(hm : m<=ps.length+1)(q : R (.d (.list ((zfn ps.length m).map zaD))) []): zav [.d (.tuple (ps.map zeu)), .d (.int m)] [] R := by
  unfold zav;unfold zfn at q;walk_at "d";by_cases h : m=0
  · rw [if_pos h] at q
    rw [if_neg (by omega)];exact q
  · rw [if_neg h] at q
    rw [if_pos (by omega), show (m : Int) - 1=((m - 1 : Nat) : Int) by omega];refine zfu hp (by omega) ?_;walk_at "d";exact q
theorem zb8{ps : List Part}{g : Gap}{m : Nat}{d : PyData}(hp : ps.length<=8)(hm : m<=ps.length+1)(h3 : Tm3 ps.length g.ts)(hd : zqD d)(q : R (.d (.bool (zql ps g (zfn ps.length m) d))) []): zau [.d (zc4 ps), .d (zhl g), .d (.int m), .d d] [] R := by
  obtain⟨dl, de⟩ := zhc hp hm;unfold zau;cases d with
  | list ds =>
    rw [zqy] at q;rw [zcR];walk_at "d";walk_at "n";rw [if_neg (by omega)]
    walk_at "n"
    refine zb9 hp hm ?_;generalize zfn ps.length m=cs at dl de q;walk_at "d";walk_at "n";by_cases hl : ds.length=cs.length
    · rw [if_neg (by omega)]
      rw [decide_eq_true hl, Bool.true_and] at q;rw [zrJ];refine cmp2 (S0 := []) (fun q : List Nat×PyData => .bool (zdq ps g q.1 q.2)) rfl (cs.zip ds) (by simp; omega) ?_ ?_
      · intro x mx u v acc R' hk
        obtain⟨c, d⟩ := x;obtain⟨m1, m2⟩ := of_mem_zip mx;walk_at "d";rw [<- zcR];refine zdA (by omega) h3 (de c m1).2 (de c m1).1 (hd d m2) ?_;walk_at "d";exact hk _ _
      · walk_at "d"
        refine⟨(cs.zip ds).map fun q => zdq ps g q.1 q.2, by rw [map_map]; rfl, ?_⟩;have e := znn ds cs fun d c => zdq ps g c d;rw [e];exact q
    · rw [if_pos (by omega)]
      rw [decide_eq_false hl] at q;exact q
  | none => (walk_at "d"; walk_at "n"; exact q)
  | bool b => (walk_at "d"; walk_at "n"; exact q)
  | int b => (walk_at "d"; walk_at "n"; exact q)
  | str b => (walk_at "d"; walk_at "n"; exact q)
  | tuple b => (walk_at "d"; walk_at "n"; exact q)
  | dict b => (walk_at "d"; walk_at "n"; exact q)
theorem znQ{ds : List PyData}{c : List Nat}(hw : ds.all zX=true)(h : ds.length≠c.length): PyData.eqv (.tuple ds) (zaD c)=false := by
  have e := zeF (ds := ds) fun d m => by
    have := all_eq_true.mp hw d m;cases d with
    | int k => exact⟨k, rfl⟩
    | _ => cases this
  have en : zaD c=zaZ (c.map fun k : Nat => (k : Int)) := by unfold zaD zaZ; rw [map_map]; rfl
  rw [en];have es : PyData.tuple ds=zaZ (ds.map unI) := by unfold zaZ; rw [<- e]
  rw [es, zhm];refine decide_eq_false fun z => h ?_;have := congrArg List.length z;simpa using this
def rwD(r : List Nat×List Int×List Int): PyData := .tuple [zaD r.1, zaZ r.2.1, zaZ r.2.2]
theorem zmy(r : List Nat×List Int×List Int): rwD r=.tuple [zaD r.1, zaZ r.2.1, zaZ r.2.2] := rfl
theorem zpf(r : List Nat×List Int×List Int): Shp 2 (rwD r) := by
  rw [zmy];refine zcZ (n := 1) fun d m => ?_;simp only [mem_cons, not_mem_nil, or_false] at m;rcases m with rfl | rfl | rfl
  · exact zfZ (n := 0) _
  · exact zcZ (n := 0) fun e m => by
      obtain⟨k, _, rfl⟩ := mem_map.mp m;exact zcS
  · exact zcZ (n := 0) fun e m => by
      obtain⟨k, _, rfl⟩ := mem_map.mp m;exact zcS
end
section
variable {R : RX}
abbrev KB : KSg := .two (.many .int) .bool
abbrev Fs := List ((List Int×Bool)×List Int)
abbrev Lks := List (List Int×Bool)
def zfQ(p : List Int×Bool): PyData := .tuple [zaZ p.1, .bool p.2]
theorem zll(p : List Int×Bool): zfQ p=.tuple [zaZ p.1, .bool p.2] := rfl
def zay(ps : List Part)(g : Gap): Lks := (ziV ps).map fun s => (s, zbA g s)
def znz(c : List Nat)(m : Fs)(p : List Int×Bool): Fs := if (lkA m (atC p.1 c, p.2)).isSome=true then m else m++[((atC p.1 c, p.2), p.1)]
def frs(c : List Nat)(looks : Lks): Fs := looks.foldl (znz c) []
theorem zfL(c : List Nat)(l : Lks)(p : List Int×Bool): frs c (l++[p])=znz c (frs c l) p := by
  unfold frs;rw [List.foldl_append];rfl
def mD(m : Fs): List (KG KB×PyData) := m.map fun q => (q.1, zaZ q.2)
theorem zo1(r : List Int)(b : Bool): kdat KB (r, b)=.tuple [zaZ r, .bool b] := by
  show PyData.tuple [.tuple (List.map (kdat .int) r), .bool b]=_;rfl
theorem zkf{κ α : Type}[DecidableEq κ]{p : κ×α}{r : List (κ×α)}{k : κ}(h : p.1=k): lkA (p :: r) k=some p.2 := by simp [lkA, h]
theorem zjP{κ α : Type}[DecidableEq κ]{p : κ×α}{r : List (κ×α)}{k : κ}(h : p.1≠k): lkA (p :: r) k=lkA r k := by simp [lkA, h]
theorem znR(k : List Int×Bool): ∀ m : Fs, lkA (κ := KG KB) (mD m) k=(lkA m k).map zaZ
  | [] => rfl
  | q :: r => by
    by_cases e : q.1=k
    · exact(zkf (κ := KG KB) (p := (q.1, zaZ q.2)) (r := mD r) e).trans (by rw [zkf e]; rfl)
    · exact(zjP (κ := KG KB) (p := (q.1, zaZ q.2)) (r := mD r) e).trans (by rw [zjP e]; exact znR k r)
def onF(m : Fs)(q : (List Int×Bool)×List Int): Option (List Int×List Int) := if q.1.2=true then (lkA m (q.1.1, false)).map fun y => (q.2, y) else none
def twF(c : List Nat)(looks : Lks): Option (List Int×List Int) := (frs c looks).findSome? (onF (frs c looks))
def twD: Option (List Int×List Int) -> PyData
  | none => .none
  | some p => .tuple [zaZ p.1, zaZ p.2]
theorem zox{m : Fs}{k : List Int×Bool}{x : List Int}(h : lkA m k=some x): (k, x)∈m := by
  unfold lkA at h;obtain⟨q, e, e2⟩ := map_eq_some_iff.mp h;have h1 := List.find?_some e;have h2 := List.mem_of_find?_eq_some e;have h3 := of_decide_eq_true h1;obtain⟨q1, q2⟩ := q;cases h3;cases e2;exact h2
theorem zpe{m r : Fs}{k : List Int×Bool}(h : (lkA m k).isSome=true): lkA (m++r) k=lkA m k := by
  unfold lkA at h ⊢;rw [List.find?_append];cases e : m.find? fun p => decide (p.1=k) with
  | none => rw [e] at h; cases h
  | some q => rfl
structure Fi(c : List Nat)(l : Lks)(m : Fs): Prop where
  of : ∀ q∈m, ∃ p∈l, q=((atC p.1 c, p.2), p.1)
  has : ∀ p∈l, (lkA m (atC p.1 c, p.2)).isSome=true
theorem Fi.step{c : List Nat}{l : Lks}{m : Fs}{p : List Int×Bool}(h : Fi c l m): Fi c (l++[p]) (znz c m p) := by
  unfold znz;split
  · rename_i e
    refine⟨fun q mq => ?_, fun x mx => ?_⟩
    · obtain⟨y, my, rfl⟩ := h.of q mq
      exact⟨y, mem_append_left _ my, rfl⟩
    · rcases mem_append.mp mx with mx | mx
      · exact h.has x mx
      · rw [mem_singleton.mp mx]; exact e
  · rename_i e
    refine⟨fun q mq => ?_, fun x mx => ?_⟩
    · rcases mem_append.mp mq with mq | mq
      · obtain⟨y, my, rfl⟩ := h.of q mq
        exact⟨y, mem_append_left _ my, rfl⟩
      · exact⟨p, by simp, mem_singleton.mp mq⟩
    · rcases mem_append.mp mx with mx | mx
      · rw [zpe (h.has x mx)]; exact h.has x mx
      · rw [mem_singleton.mp mx]
        unfold lkA;rw [List.find?_append];cases m.find? fun q => decide (q.1=(atC p.1 c, p.2)) with
        | none => simp
        | some q => rfl
theorem zks(c : List Nat)(l : Lks): ∀ n, n<=l.length -> Fi c (l.take n) (frs c (l.take n))
  | 0, _ => by
    rw [take_zero];exact⟨fun q m => (by cases m), fun p m => (by cases m)⟩
  | n+1, h => by
    rw [zF (getElem?_eq_getElem (show n<l.length by omega)), zfL];exact(zks c l n (by omega)).step
theorem zmS(c : List Nat)(l : Lks): Fi c l (frs c l) := by
  have := zks c l l.length (le_refl _)
  rwa [take_length] at this
theorem tw_some{c : List Nat}{l : Lks}{x y : List Int}(h : twF c l=some (x, y)): (x, true)∈l /\ (y, false)∈l /\ atC x c=atC y c := by
  unfold twF at h;obtain⟨q, mq, hq⟩ := List.exists_of_findSome?_eq_some h;unfold onF at hq;split at hq
  · rename_i e
    obtain⟨z, ez, e2⟩ := map_eq_some_iff.mp hq;obtain⟨p, mp, rfl⟩ := (zmS c l).of q mq;obtain⟨p', mp', e3⟩ := (zmS c l).of _ (zox ez);cases e2;rw [Prod.mk.injEq, Prod.mk.injEq] at e3;obtain⟨⟨e4, e5⟩, e6⟩ := e3;obtain⟨p1, p2⟩ := p;obtain⟨p1', p2'⟩ := p';simp only at e e4 e5 e6 ⊢;subst e e6;rw [<- e5] at mp';exact⟨mp, mp', e4⟩
  · cases hq
theorem zbS{ps : List Part}{g : Gap}{x : List Int}{b : Bool}: (x, b)∈zay ps g↔InBox ps x /\ zbA g x=b := by
  unfold zay;rw [mem_map];constructor
  · rintro⟨s, ms, e⟩
    cases e;exact⟨zcB.mp ms, rfl⟩
  · rintro⟨h, rfl⟩
    exact⟨x, zcB.mpr h, rfl⟩
theorem zkE{x : List Int}{n : Nat}(h : x.length=n): atC x (List.range n)=x := by
  unfold atC;refine List.ext_getElem (by simp [h]) fun i h1 h2 => ?_;simp only [List.getElem_map, List.getElem_range];simp [getD_eq_getElem?_getD, h2]
theorem tw_all{ps : List Part}{g : Gap}: twF (List.range ps.length) (zay ps g)=none := by
  cases h : twF (List.range ps.length) (zay ps g) with
  | none => rfl
  | some p =>
    obtain⟨x, y⟩ := p;obtain⟨h1, h2, h3⟩ := tw_some h;obtain⟨a1, a2⟩ := zbS.mp h1;obtain⟨b1, b2⟩ := zbS.mp h2;rw [zkE a1.len, zkE b1.len] at h3;rw [h3, b2] at a2;cases a2
theorem zpW: ∀ n<9, List.range n∈CH n n := by decide +kernel
structure Few(ps : List Part)(g : Gap)(m : Nat): Prop where
  le : m<=ps.length
  no : ∃ c∈CH ps.length m, twF c (zay ps g)=none
  all : ∀ k, k<m -> ∀ c∈CH ps.length k, ∃ p, twF c (zay ps g)=some p
theorem Few.uniq{ps : List Part}{g : Gap}{m m' : Nat}(h : Few ps g m)(h' : Few ps g m'): m=m' := by
  rcases Nat.lt_trichotomy m m' with z | z | z
  · obtain⟨c, mc, e⟩ := h.no
    obtain⟨p, e2⟩ := h'.all m z c mc;rw [e] at e2;cases e2
  · exact z
  · obtain⟨c, mc, e⟩ := h'.no
    obtain⟨p, e2⟩ := h.all m' z c mc;rw [e] at e2;cases e2
def zop(ps : List Part)(g : Gap)(c : List Nat): List Nat×List Int×List Int := (c, (twF c (zay ps g)).getD ([], []))
def zfW(ps : List Part)(g : Gap)(m : Nat): List PyData := (zfn ps.length m).map fun c => rwD (zop ps g c)
theorem zkd{ps : List Part}{s : List Int}(h : InBox ps s): zbD ps (zaZ s)=true := by
  show zbD ps (.tuple (s.map PyData.int))=true;rw [zbR, Bool.and_eq_true, decide_eq_true_eq, length_map];refine⟨h.len, all_eq_true.mpr fun b mb => ?_⟩;obtain⟨q, mq, rfl⟩ := mem_map.mp mb;obtain⟨i, hi, rfl⟩ := List.mem_iff_getElem.mp mq;have hs : i<s.length := by simp at hi; omega
  have hp : i<ps.length := by simp at hi; omega
  have ok := h.ok i hp;simp only [getElem_zip, List.getElem_map, id];show decide (ps[i].2.1<=s[i] /\ s[i]<=ps[i].2.2)=true;rw [decide_eq_true_eq];have e1 : s.getD i 0=s[i] := by simp [getD_eq_getElem?_getD, hs]
  rw [e1] at ok;have e2 : part ps i=ps[i] := by
    have := zj6 hp;rw [getElem?_eq_getElem hp] at this;exact(Option.some.inj this).symm
  unfold plo phi at ok;rw [e2] at ok;exact ok
theorem zmC(s : List Int): vI (zaZ s)=s := by
  show (s.map PyData.int).map unI=s;rw [map_map];exact map_id' s
theorem zlw(c : List Nat): ziP c (zaD c)=true := by
  show ((c.map fun k : Nat => PyData.int k).all zX && PyData.eqv (zaD c) (zaD c))=true;rw [SeqAt.eqv_refl _ (SeqAt.canLay_of_shaped (zfZ (n := 0) c).ok), Bool.and_true, all_map];exact all_eq_true.mpr fun k _ => rfl
theorem zoU{ps : List Part}{g : Gap}{c : List Nat}{p : List Int×List Int}(h : twF c (zay ps g)=some p): zdq ps g c (rwD (zop ps g c))=true := by
  obtain⟨x, y⟩ := p;obtain⟨h1, h2, h3⟩ := tw_some h;obtain⟨a1, a2⟩ := zbS.mp h1;obtain⟨b1, b2⟩ := zbS.mp h2;unfold zop;rw [h, Option.getD_some, zmy, row3, zlw, zkd a1, zkd b1, zmC, zmC, a2, b2, decide_eq_true h3];rfl
theorem zmh{ps : List Part}{g : Gap}{m : Nat}(h : Few ps g m): zql ps g (zfn ps.length m) (.list (zfW ps g m))=true := by
  rw [zqy, Bool.and_eq_true, decide_eq_true_eq];unfold zfW;refine⟨length_map .., all_eq_true.mpr fun q mq => ?_⟩;obtain⟨i, hi, rfl⟩ := List.mem_iff_getElem.mp mq;have hd : i<(zfn ps.length m).length := by simp at hi; omega
  simp only [getElem_zip, List.getElem_map];have mc : (zfn ps.length m)[i]∈zfn ps.length m := getElem_mem hd;generalize (zfn ps.length m)[i]=c at mc ⊢;unfold zfn at mc;split at mc
  · cases mc
  · rename_i hm
    obtain⟨p, e⟩ := h.all (m - 1) (by omega) c mc;exact zoU e
theorem zgg{g : DG}{b : DSm}{E : DEndsM}: ∀ {ds : List PyData} {δ : XE} {S : Sto} {M : DM} (I : Nat -> XE -> Sto -> DM -> Prop), I 0 δ S M ->
    (∀ i d δ S M (N : XE -> Sto -> DM -> Prop), ds[i]? = some d -> I i δ S M -> (∀ δ' S' M', I (i+1) δ' S' M' -> N δ' S' M') -> g (.d d) δ S fun δ1 S1 => b { nx := N, ct := N, bk := E.nx, rt := E.rt } δ1 S1 M) ->
    (∀ δ S M, I ds.length δ S M -> E.nx δ S M) -> zdT g b ds E δ S M
  | [], δ, S, M, I, h0, _, fin => fin δ S M h0
  | d :: ds, δ, S, M, I, h0, step, fin => by
    show g (.d d) δ S fun δ1 S1 => b _ δ1 S1 M;refine step 0 d δ S M _ rfl h0 fun δ' S' M' h1 => ?_;exact zgg (ds := ds) (fun i => I (i+1)) h1 (fun i e δ S M N hi => step (i+1) e δ S M N (by simpa using hi)) fin
theorem zgC{a : Addr}{D0 : L2.DD}{g : DG}{b : DSm}{E : DEndsM}: ∀ {ds : List PyData} {δ : XE} {S : Sto} {M : DM} (I : Nat -> XE -> Sto -> DM -> Prop), I 0 δ S M -> (∀ i δ S M, I i δ S M -> (a, D0)∈M) ->
    (∀ i d δ S M (N : XE -> Sto -> DM -> Prop), ds[i]? = some d -> I i δ S M -> (∀ δ' S' M', I (i+1) δ' S' M' -> N δ' S' M') -> g (.d d) δ S fun δ1 S1 => b { nx := N, ct := N, bk := E.nx, rt := E.rt } δ1 S1 M) ->
    (∀ δ S M, I ds.length δ S M -> E.nx δ S M) -> dmLoopG a D0 g b ds E δ S M
  | [], δ, S, M, I, h0, hm, _, fin => ⟨hm _ _ _ _ h0, fin δ S M h0⟩
  | d :: ds, δ, S, M, I, h0, hm, step, fin => by
    refine⟨hm _ _ _ _ h0, ?_⟩;show g (.d d) δ S fun δ1 S1 => b _ δ1 S1 M;refine step 0 d δ S M _ rfl h0 fun δ' S' M' h1 => ?_;exact zgC (ds := ds) (fun i => I (i+1)) h1 (fun i => hm (i+1)) (fun i e δ S M N hi => step (i+1) e δ S M N (by simpa using hi)) fin
theorem znr(c : List Nat)(l : Lks): (frs c l).length<=l.length := by
  have : ∀ n, n<=l.length -> (frs c (l.take n)).length<=n := by
    intro n;induction n with
    | zero => intro _; rw [take_zero]; exact le_refl _
    | succ n ih =>
      intro h;rw [zF (getElem?_eq_getElem (show n<l.length by omega)), zfL];have := ih (by omega);unfold znz;split
      · omega
      · rw [length_append, length_singleton]; omega
  have := this l.length (le_refl _)
  rwa [take_length] at this
def itF(q : (List Int×Bool)×List Int): PyData := .tuple [.tuple [zaZ q.1.1, .bool q.1.2], zaZ q.2]
theorem zpz(q : (List Int×Bool)×List Int): itF q=.tuple [.tuple [zaZ q.1.1, .bool q.1.2], zaZ q.2] := rfl
theorem zqv(F : Fs): zet KB (mD F)=F.map itF := by
  unfold zet mD;rw [map_map];rfl
theorem zlD{α β : Type}(f : α -> Option β){l : List α}{i : Nat}{p : α}(ep : l[i]? = some p)(hn : (l.take i).findSome? f=none): l.findSome? f=(f p).or ((l.drop (i+1)).findSome? f) := by
  conv => lhs; rw [<- take_append_drop (i+1) l]
  rw [List.findSome?_append, zF ep, List.findSome?_append, hn];simp
theorem zcN{looks : Lks}{c : List Nat}(hl : looks.length<=300)(hc : ∀ p∈looks, ∀ k∈c, k<p.1.length)(hc1 : c.length<=100)(q : R (.d (twD (twF c looks))) []): zaP [.d (.list (looks.map zfQ)), .d (zaD c)] [] R := by
  unfold zaP;walk_at "n";intro a _;walk_at "d";refine seqm ?_;walk_at "d";refine zgg (fun i δ S M => ∃ (u3 u4 : Option XV) (ob : Obj), S=[] /\ M=[(a, L2.DD.g KB ob (mD (frs c (looks.take i))))] /\ δ=[some (.d (.list (looks.map zfQ))), some (.d (zaD c)), some (.o (.ref a)), u3, u4, none, none]) ⟨_, _, ob0, rfl, rfl, rfl⟩ ?_ ?_
  · rintro i d _ _ _ N hi ⟨u3, u4, ob, rfl, rfl, rfl⟩ hN
    obtain⟨p, ep, rfl⟩ := zbG hi;have mp := mem_of_getElem? ep;have hi2 : i<looks.length := (List.getElem?_eq_some_iff.mp ep).1;rw [zll];walk_at "d";refine⟨a, ob, mD (frs c (looks.take i)), rfl, by simp, ?_⟩;walk_at "d";refine zbp (hc p mp) hc1 ?_;walk_at "d";obtain⟨kp, ek⟩ : ∃ kp : List Int×Bool, kp=(atC p.1 c, p.2) := ⟨_, rfl⟩;refine⟨kp, by rw [ek]; exact(zo1 _ _).symm, ?_, ?_⟩
    · have := znr c (looks.take i)
      rw [length_take] at this;show (List.map _ _).length<1000;rw [length_map];omega
    · have ef : frs c (looks.take (i+1))=znz c (frs c (looks.take i)) p := by rw [zF ep, zfL]
      unfold znz at ef;rw [<- ek] at ef;rw [znR kp, Option.isSome_map];split
      · rename_i hs
        rw [if_pos hs] at ef;exact hN _ _ _ ⟨_, _, ob, rfl, by rw [ef], rfl⟩
      · rename_i hs
        rw [if_neg hs] at ef;intro ob';refine hN _ _ _ ⟨_, _, ob', rfl, ?_, rfl⟩;rw [ef];simp only [znY, map_cons, map_nil, if_true];rw [show mD (frs c (looks.take i)++[(kp, p.1)])=mD (frs c (looks.take i))++[Prod.mk (α := KG KB) kp (zaZ p.1)] from map_append]
  · rintro _ _ _ ⟨u3, u4, ob, rfl, rfl, rfl⟩
    rw [length_map, take_length];unfold twF at q;generalize frs c looks=F at q ⊢;walk_at "d";refine⟨a, ob, mD F, rfl, by simp, ?_⟩;rw [zqv];refine zgC (fun i δ S M => ∃ (u3 u4 u5 u6 : Option XV), (F.take i).findSome? (onF F)=none /\ S=[] /\ M=[(a, L2.DD.g KB ob (mD F))] /\ δ=[some (.d (.list (looks.map zfQ))), some (.d (zaD c)), some (.o (.ref a)), u3, u4, u5, u6]) ⟨_, _, _, _, rfl, rfl, rfl, rfl⟩ (by rintro i _ _ _ ⟨_, _, _, _, _, _, rfl, _⟩; simp) ?_ ?_
    · rintro i d _ _ _ N hi ⟨u3, u4, u5, u6, hn, rfl, rfl, rfl⟩ hN
      obtain⟨p, ep, rfl⟩ := zbG hi;have hi2 : i<F.length := (List.getElem?_eq_some_iff.mp ep).1;have et := zlD (onF F) ep hn;rw [zpz];walk_at "d";refine seqm ?_;walk_at "d";refine⟨a, ob, mD F, rfl, by simp, ?_⟩;walk_at "d";obtain⟨kp, ek⟩ : ∃ kp : List Int×Bool, kp=(p.1.1, false) := ⟨_, rfl⟩;refine⟨kp, by rw [ek]; exact(zo1 _ _).symm, ?_⟩;rw [znR kp];have hN' : onF F p=none -> ∀ u6, N [some (.d (.list (looks.map zfQ))), some (.d (zaD c)), some (.o (.ref a)), some (.d (zaZ p.2)), u4, some (.d (.tuple [zaZ p.1.1, .bool p.1.2])), u6] [] [(a, L2.DD.g KB ob (mD F))] := fun z u6 => hN _ _ _ ⟨_, _, _, u6, by rw [zF ep, List.findSome?_append, hn]; simp [z], rfl, rfl, rfl⟩;obtain⟨⟨p1, p2⟩, p3⟩ := p;cases p2 with
      | false =>
        have z : onF F ((p1, false), p3)=none := rfl;walk_at "d";exact hN' z _
      | true =>
        have z : onF F ((p1, true), p3)=(lkA F (p1, false)).map fun y => (p3, y) := rfl;cases hk : lkA F (p1, false) with
        | none =>
          rw [hk] at z;rw [ek, hk, Option.map_none, Option.getD_none];walk_at "d";exact hN' z _
        | some y =>
          rw [hk] at z;rw [z] at et;rw [et] at q;rw [ek, hk, map_some, Option.getD_some];have hq : R (.d (.tuple [zaZ p3, zaZ y])) [] := q;unfold zaZ at hq ⊢;walk_at "d";exact⟨[], _, rfl, hq⟩
    · rintro _ _ _ ⟨u3, u4, u5, u6, hn, rfl, rfl, rfl⟩
      rw [length_map, take_length] at hn;rw [hn] at q;exact⟨[], _, rfl, q⟩
theorem zdK{ps : List Part}{g : Gap}(ho : Ord ps)(h100 : ps.length<=100)(hs : zaL ps<=300)(h3 : Tm3 ps.length g.ts)(q : R (.d (.list ((zay ps g).map zfQ))) []): zbv [.d (zc4 ps), .d (zhl g)] [] R := by
  unfold zbv;walk_at "d";refine zhL ho h100 hs ?_;walk_at "d";refine cmp1 (S0 := []) (h := zaZ) (fun s => zfQ (s, zbA g s)) rfl (ziV ps) (by rw [zek]; omega) ?_ ?_
  · intro s ms u acc R' hk
    have hb := zcB.mp ms;walk_at "d";refine zf3 (by rw [hb.len]; exact h3) ?_;walk_at "d";exact hk _
  · walk_at "d"
    refine .inl ?_;unfold zay at q;rw [map_map] at q;exact q
theorem zkb{Q names number : PN}{p : List PyData}{m : Int}(hQ : Q=fun xs S R => (zaa (zaB (zac 0 1 names (zc (zj 0) zp)) (zn 2)) (zaa (zaB (zci [none, some 0] (zaI (zc (dOp zb6 (dC (.int 1)) (zac 0 2 zv (zc (zj 0) (zc (zj 1) zp)))) zp)) (zn 0) zaq (dOp zb6 (dC (.int 1)) (zac 0 2 zv (zc (zj 1) (zc (dC (.int 3)) zp))))) (zn 3)) (zaa (zcQ (dB (dOp zh7 (zac 0 2 zv (zc (zj 0) (zc (dC (.int 12)) zp))) (dC (.int 0)))) (zaB (dOp dIx (zd9 (zc (dOp ze1 (zd9 (zc (dC (.int 2)) zp)) (dC (.int 6))) (zc (zd9 (zc (dC (.int 17)) (zc (dC (.int 17)) zp))) (zc (zd9 (zc (dC (.int 300)) zp)) (zc (dOp ze1 (zd9 (zc (dC (.int 1)) zp)) (dC (.int 8))) zp))))) (zac 0 2 zv (zc (zj 0) (zc (dC (.int 4)) zp)))) (zn 3)) zaF) (zaa (zaB (zd5 zp) (zn 4)) (zaa (zfR (zaI (zc (dCB za0 (zc (zj 3) zp)) zp)) (zn 5) (zaa (zaB (zac 0 1 number (zc (zj 0) zp)) (zn 6)) (zdB (dBM zb3 (zj 4) (zc (zd4 (zc (dOp dIx (zj 2) (zj 5)) (zc (zj 6) (zc (dOp (dI0 fun i j => i - j) (dOp zb6 (zj 6) (dOp dIx (zj 3) (zj 5))) (dC (.int 1))) zp)))) zp))))) (zaY (dCB zdQ (zc (zj 4) zp)))))))) (zbK S.length R) (xs.map some++List.replicate 5 none) S)
    (hnames : ∀ {p : List PyData} {R : RX}, zbc p -> (∀ (ns : List Str) p', ns.length=8 -> (∀ z∈ns, zdM z=true) -> zbc p' -> R (.d (.list (ns.map PyData.str))) [p']) -> names [.l 0] [p] R)
    (hnumber : ∀ {p : List PyData} {R : RX}, zbc p -> (∀ r p', -10 ^ 58<=r -> r<=10 ^ 58 -> zbc p' -> R (.d (.int r)) [p']) -> number [.l 0] [p] R)
    (hp : zbc p) (m1 : 0<m) (m4 : m<=4) (q : ∀ (ps : List Part) p', Drw ps -> zaL ps<=300 -> zbc p' -> R (.d (zc4 ps)) [p']) : Q [.l 0, .d (.int m)] [p] R := by
  subst hQ;walk_at "d"
  walk_at "n"
  refine hnames hp fun ns p1 hn hz hp1 => ?_;walk_at "d"
  walk_at "n"
  refine zD hp1 m1 (zfD m1 (by omega)) fun r p2 r0 r1 hp2 => ?_;walk_at "d";refine zq2 (α := Int) (fun x => 1<=x /\ x<=3) PyData.int (fun τ => ∃ u, τ=[u, some (.l 0)]) _ [] p2 _ ⟨_, rfl⟩ hp2 (by rw [zW]; simp; omega) ?_ ?_
  · rintro d md _ p acc R' ⟨u, rfl⟩ hp hk
    walk_at "d";refine zD hp dz (by decide +kernel) fun r p' r0 r1 hp' => ?_;walk_at "d";exact hk _ _ p' ⟨_, rfl⟩ hp' ⟨by omega, by omega⟩
  · intro ws p3 hp3 hw hl
    rw [zW] at hl;have hws : Wds ws := wds3 (by omega) (by omega) hw;rw [nil_append];walk_at "d";refine cut (fun δ S => ∃ (p : List PyData) (ws : List Int), zbc p /\ Wds ws /\ S=[p] /\ δ=[some (.l 0), some (.d (.int m)), some (.d (.list (ns.map PyData.str))), some (.d (.list (ws.map PyData.int))), none, none, none]) (fun N hN => ?_) ?_
    · walk_at "d"
      refine zD hp3 dz (by decide +kernel) fun r2 p4 r3 r4 hp4 => ?_;walk_at "d";split
      · refine zD hp4 dz (by decide +kernel) fun r5 p5 r6 r7 hp5 => ?_
        obtain⟨d, ed, ws', rfl, hw'⟩ := zma (P := fun d => ∃ ws : List Int, d=.list (ws.map PyData.int) /\ Wds ws) (ds := [PyData.list (List.replicate 6 [PyData.int 2]).flatten, .list [.int 17, .int 17], .list [.int 300], .list (List.replicate 8 [PyData.int 1]).flatten]) r6 r7 (by
          intro d m;simp only [mem_cons, not_mem_nil, or_false] at m;rcases m with rfl | rfl | rfl | rfl
          · exact⟨[2, 2, 2, 2, 2, 2], rfl, by decide, by decide, by decide, by decide, by decide⟩
          · exact⟨[17, 17], rfl, by decide, by decide, by decide, by decide, by decide⟩
          · exact⟨[300], rfl, by decide, by decide, by decide, by decide, by decide⟩
          · exact⟨[1, 1, 1, 1, 1, 1, 1, 1], rfl, by decide, by decide, by decide, by decide, by decide⟩)
        walk_at "d";refine⟨_, ed, hN _ _ ⟨p5, ws', hp5, hw', rfl, rfl⟩⟩
      · exact hN _ _ ⟨p4, ws, hp4, hws, rfl, rfl⟩
    rintro _ _ ⟨p, ws, hp, hws, rfl, rfl⟩;have w8 := hws.l8
    walk_at "n"
    walk_at "n";refine zai (fun i δ S => ∃ (p : List PyData) (ps : List Part) (u1 u2 : Option XV), zbc p /\ ps.length=i /\ (∀ p∈ps, Prt p) /\ ps.map (fun p => (p.2.2 - p.2.1+1).toNat)=(ws.take i).map Int.toNat /\ S=[p, ps.map zeu] /\ δ=[some (.l 0), some (.d (.int m)), some (.d (.list (ns.map PyData.str))), some (.d (.list (ws.map PyData.int))), some (.l 1), u1, u2]) ⟨p, [], _, _, hp, rfl, by simp, rfl, rfl, rfl⟩ ?_ ?_
    · rintro i d _ _ N hi ⟨p, ps, u1, u2, hp, hl, ha, hs, rfl, rfl⟩ hN
      obtain⟨hi', rfl⟩ := zbg hi;have iw : i<ws.length := by simpa using hi'
      have i8 : i<ns.length := by omega
      have e := zfb (f := PyData.str) (getElem?_eq_getElem i8);have ew := zfb (f := PyData.int) (getElem?_eq_getElem iw);have w1 := hws.pos _ (getElem_mem iw);have w300 := hws.le _ (getElem_mem iw);have e0 : (0 : Int)+(i : Int)=(i : Int) := by omega
      walk_at "d"
      walk_at "n"
      refine hnumber hp fun lo p3 h1 h2 hp3 => ?_;walk_at "d";rw [e0];refine⟨_, e, ?_⟩;walk_at "d";refine⟨_, ew, ?_⟩;walk_at "d";refine⟨by omega, hN _ _ ⟨p3, ps++[(ns[i], lo, lo+ws[i] - 1)], _, _, hp3, by simp [hl], fun x hx => ?_, ?_, by simp [zeu], rfl⟩⟩
      · rcases mem_append.mp hx with hx | hx
        · exact ha x hx
        · rw [mem_singleton.mp hx]
          exact⟨hz _ (getElem_mem i8), by simp only; omega, h1, by simp only; omega⟩
      · rw [map_append, hs, zF (getElem?_eq_getElem iw), map_append]
        congr 1;simp only [map_cons, map_nil, List.cons.injEq, and_true];omega
    · rintro _ _ ⟨p, ps, u1, u2, hp, hl, ha, hs, rfl, rfl⟩
      rw [zW] at hl hs;have hz' : (ws.length : Int).toNat=ws.length := by simp
      rw [hz'] at hl hs;rw [take_length] at hs;walk_at "d";have hw1 := hws.l1;exact q ps p ⟨by omega, by omega, ha⟩ (by unfold zaL; rw [hs]; exact hws.prod) hp
theorem zf4{p : List PyData}{m : Int}(hp : zbc p)(m1 : 0<m)(m4 : m<=4)(q : ∀ (ps : List Part) p', Drw ps -> zaL ps<=300 -> zbc p' -> R (.d (zc4 ps)) [p']): zcv [.l 0, .d (.int m)] [p] R :=
  zkb (names := zaC) (number := zas) rfl zeq zd7 hp m1 m4 q
theorem zcO{g : Gap}{ns : List Int}(h3 : Tm3 ns.length g.ts)(q : R (.d (.bool (zbA g ns))) []): zaT [.d (zhl g), .d (zaZ ns)] [] R := by
  unfold zaT zaZ;rw [zf5, zqt];walk_at "d"
  walk_at "n"
  refine cmp2 (S0 := []) (fun t : Term => .int (t.2*ns.getD t.1 0)) rfl g.ts (by have := h3.len; omega) ?_ ?_
  · intro t mt u v acc R' hk
    obtain⟨t1, t2, t3⟩ := h3.ok t mt;have e := zfb (f := PyData.int) (zhx t1);rw [zm6];walk_at "d";refine⟨_, e, ?_⟩;walk_at "d";exact⟨zct (by omega) (by omega), hk _ _⟩
  · walk_at "d"
    refine⟨g.ts.map fun t : Term => t.2*ns.getD t.1 0, by rw [map_map]; rfl, ?_⟩;have e0 : zbA g ns=decide (g.lo<=worth g.ts ns /\ worth g.ts ns<=g.hi) := rfl;have e1 : (g.ts.map fun t : Term => t.2*ns.getD t.1 0).sum=worth g.ts ns := rfl;rw [e1];rw [e0] at q;split
    · rename_i h1
      simpa [h1] using q
    · rename_i h1
      simpa [h1] using q
theorem zcP{ps : List Part}{g : Gap}{m : Nat}{d : PyData}(hp : ps.length<=8)(hm : m<=ps.length+1)(h3 : Tm3 ps.length g.ts)(hd : zqD d)(q : R (.d (.bool (zql ps g (zfn ps.length m) d))) []): zaW [.d (zc4 ps), .d (zhl g), .d (.int m), .d d] [] R := by
  obtain⟨dl, de⟩ := zhc hp hm;unfold zaW;rw [zcR];walk_at "d";refine cut (I := fun δ S => S=[] /\ δ=[some (.d (.tuple (ps.map zeu))), some (.d (zhl g)), some (.d (.int m)), some (.d d), some (.d (.list ((zfn ps.length m).map zaD))), none, none]) (fun N hN => ?_) ?_
  · walk_at "d"
    unfold zfn at hN;by_cases h : m=0
    · rw [if_pos h] at hN
      rw [if_pos (by omega)];exact hN _ _ ⟨rfl, rfl⟩
    · rw [if_neg h] at hN
      rw [if_neg (by omega), show (m : Int) - 1=((m - 1 : Nat) : Int) by omega];refine zel hp (by omega) ?_;walk_at "d";exact hN _ _ ⟨rfl, rfl⟩
  · rintro _ _ ⟨rfl, rfl⟩
    generalize zfn ps.length m=cs at dl de q;cases d with
    | list ds =>
      rw [zqy] at q;walk_at "n";by_cases hl : ds.length=cs.length
      · rw [if_neg (by omega)]
        rw [decide_eq_true hl, Bool.true_and] at q;walk_at "n";rw [zqw];refine zai (fun i δ S => ∃ (u5 u6 : Option XV), S=[] /\ ((ds.zip cs).all fun q => zdq ps g q.2 q.1)=(((ds.zip cs).drop i).all fun q => zdq ps g q.2 q.1) /\ δ=[some (.d (.tuple (ps.map zeu))), some (.d (zhl g)), some (.d (.int m)), some (.d (.list ds)), some (.d (.list (cs.map zaD))), u5, u6]) ⟨_, _, rfl, rfl, rfl⟩ ?_ ?_
        · rintro i d _ _ N hi ⟨u5, u6, rfl, ha, rfl⟩ hN
          obtain⟨x, ex, rfl⟩ := zbG hi;obtain⟨row, c⟩ := x;obtain⟨m1, m2⟩ := of_mem_zip (mem_of_getElem? ex);have ed : (ds.zip cs).drop i=(row, c) :: (ds.zip cs).drop (i+1) := by
            obtain⟨hl', e'⟩ := List.getElem?_eq_some_iff.mp ex;rw [drop_eq_getElem_cons hl', e']
          rw [ed, all_cons] at ha;have bad : zdq ps g c row=false -> R (.d (.bool false)) [] := fun h => by
            rw [ha, h] at q;exact q
          have good : zdq ps g c row=true -> ((ds.zip cs).all fun q => zdq ps g q.2 q.1)=(((ds.zip cs).drop (i+1)).all fun q => zdq ps g q.2 q.1) := fun h => by
            rw [ha, h];rfl
          obtain⟨cl, ck⟩ := de c m2;have hro := hd row m1;walk_at "d";refine seq1 ?_;unfold zaD;cases row with
          | tuple rs =>
            match rs, hro, bad, good with
            | [x, y, z], hro, bad, good =>
              rw [row3] at bad good;cases x with
              | tuple xs =>
                walk_at "d";by_cases hlx : xs.length=c.length
                · rw [if_neg (by omega)]
                  walk_at "n";refine zrs (S0 := []) (fun d => .bool (zX d)) rfl xs (le_trans hro dz) ?_ ?_
                  · intro x mx u acc R' hk
                    walk_at "d";refine zdV ?_;walk_at "d";exact hk _
                  · walk_at "d"
                    refine⟨xs.map zX, by rw [map_map]; rfl, ?_⟩;rw [all_map, show xs.all (id∘zX)=xs.all zX from rfl];cases hw : xs.all zX with
                    | false => exact bad (by rw [zkl, hw]; rfl)
                    | true =>
                      rw [if_neg dz];refine⟨zg8 hw, (zfZ (n := 0) c).ok, ?_⟩;rw [show PyData.tuple (c.map fun k : Nat => PyData.int k)=zaD c from rfl];cases he : PyData.eqv (.tuple xs) (zaD c) with
                      | false => exact bad (by rw [zkl, hw, he]; rfl)
                      | true =>
                        rw [if_neg dz];rw [zkl, hw, he, Bool.true_and, Bool.true_and] at bad good;walk_at "n";rw [<- zcR];refine zde (by omega) ?_;cases hy : zbD ps y with
                        | false =>
                          walk_at "d";exact bad (by rw [hy]; rfl)
                        | true =>
                          walk_at "d";refine zde (by omega) ?_;cases hz : zbD ps z with
                          | false =>
                            walk_at "d";exact bad (by rw [hy, hz]; rfl)
                          | true =>
                            rw [hy, hz, Bool.true_and, Bool.true_and] at bad good;obtain⟨ey, ly⟩ := zef hy;obtain⟨ez, lz⟩ := zef hz;generalize vI y=a at ey ly bad good;generalize vI z=b at ez lz bad good;subst ey ez;walk_at "d";walk_at "n";refine zcO (by rw [ly]; exact h3) ?_;cases hk : zbA g a with
                            | false =>
                              walk_at "d";exact bad (by rw [hk]; simp)
                            | true =>
                              walk_at "d";refine zcO (by rw [lz]; exact h3) ?_;cases hk2 : zbA g b with
                              | true =>
                                walk_at "d";exact bad (by rw [hk2]; simp)
                              | false =>
                                walk_at "d";refine zdZ (by rw [ly]; exact ck) cl ?_;walk_at "d";refine zdZ (by rw [lz]; exact ck) cl ?_;walk_at "d";refine⟨zec _, zec _, ?_⟩;rw [zhm];by_cases he2 : atC a c=atC b c
                                · rw [decide_eq_true he2, if_neg dz]
                                  exact hN _ _ ⟨_, _, rfl, good (by rw [decide_eq_true he2, hk, hk2]; rfl), by rw [zcR]; rfl⟩
                                · rw [decide_eq_false he2]
                                  exact bad (by rw [decide_eq_false he2]; rfl)
                · rw [if_pos (by omega)]
                  refine bad ?_;rw [zkl];cases hw : xs.all zX with
                  | false => rfl
                  | true => rw [znQ hw hlx]; rfl
              | none => (walk_at "d"; exact bad rfl)
              | bool b => (walk_at "d"; exact bad rfl)
              | int b => (walk_at "d"; exact bad rfl)
              | str b => (walk_at "d"; exact bad rfl)
              | list b => (walk_at "d"; exact bad rfl)
              | dict b => (walk_at "d"; exact bad rfl)
            | [], _, bad, _ => (walk_at "d"; exact bad rfl)
            | [x], _, bad, _ => (walk_at "d"; exact bad rfl)
            | [x, y], _, bad, _ => (walk_at "d"; exact bad rfl)
            | x :: y :: z :: u :: r, _, bad, _ =>
              walk_at "d";rw [if_pos (by omega)];exact bad rfl
          | none => (walk_at "d"; exact bad rfl)
          | bool b => (walk_at "d"; exact bad rfl)
          | int b => (walk_at "d"; exact bad rfl)
          | str b => (walk_at "d"; exact bad rfl)
          | list b => (walk_at "d"; exact bad rfl)
          | dict b => (walk_at "d"; exact bad rfl)
        · rintro _ _ ⟨u5, u6, rfl, ha, rfl⟩
          rw [length_map, drop_length] at ha;rw [ha] at q;walk_at "d";exact q
      · rw [if_pos (by omega)]
        rw [decide_eq_false hl] at q;exact q
    | none => (walk_at "d"; walk_at "n"; exact q)
    | bool b => (walk_at "d"; walk_at "n"; exact q)
    | int b => (walk_at "d"; walk_at "n"; exact q)
    | str b => (walk_at "d"; walk_at "n"; exact q)
    | tuple b => (walk_at "d"; walk_at "n"; exact q)
    | dict b => (walk_at "d"; walk_at "n"; exact q)
theorem zgj{ps : List Part}{g : Gap}(ho : Ord ps)(h8 : ps.length<=8)(hs : zaL ps<=300)(h3 : Tm3 ps.length g.ts)(q : ∀ c, Few ps g c.length -> R (.d (zaD c)) []): zds [.d (zc4 ps), .d (zhl g)] [] R := by
  have ll : (zay ps g).length<=300 := by unfold zay; rw [length_map, zek]; exact hs
  have lc : ∀ m, m<=ps.length -> ∀ c∈CH ps.length m, ∀ p∈zay ps g, ∀ k∈c, k<p.1.length := fun m hm c mc p mp k mk => by
    obtain⟨x, b⟩ := p;have := (zbS.mp mp).1.len;have h2 := (zjx ps.length (by omega) m (by omega) c mc).2 k mk;simp only;omega
  unfold zds;walk_at "d"
  walk_at "n"
  refine zdK ho (by omega) hs h3 ?_;walk_at "d";refine⟨ps.length, by unfold zc4; walk_at "d", ?_⟩;walk_at "d";refine zai (fun i δ S => ∃ (u3 u4 : Option XV), (∀ k, k<i -> ∀ c∈CH ps.length k, ∃ p, twF c (zay ps g)=some p) /\ S=[] /\ δ=[some (.d (zc4 ps)), some (.d (zhl g)), some (.d (.list ((zay ps g).map zfQ))), u3, u4]) ⟨_, _, fun k hk => absurd hk (Nat.not_lt_zero k), rfl, rfl⟩ ?_ ?_
  · rintro i d _ _ N hi ⟨u3, u4, ha, rfl, rfl⟩ hN
    obtain⟨hi', rfl⟩ := zbg hi;have im : i<=ps.length := by omega
    rw [Int.zero_add];walk_at "d";refine⟨ps.length, by unfold zc4; walk_at "d", ?_⟩;walk_at "d";refine zfu h8 (by omega) ?_;walk_at "d";refine zai (fun j δ S => ∃ (u4 : Option XV), (∀ c∈(CH ps.length i).take j, ∃ p, twF c (zay ps g)=some p) /\ S=[] /\ δ=[some (.d (zc4 ps)), some (.d (zhl g)), some (.d (.list ((zay ps g).map zfQ))), some (.d (.int i)), u4]) ⟨_, fun c m => (by rw [take_zero] at m; cases m), rfl, rfl⟩ ?_ ?_
    · rintro j d _ _ N' hj ⟨u4, hb, rfl, rfl⟩ hN2
      obtain⟨c, ec, rfl⟩ := zbG hj;have mc := mem_of_getElem? ec;have cl := (zjx ps.length (by omega) i (by omega) c mc).1;walk_at "d";refine zcN ll (lc i im c mc) (by omega) ?_;walk_at "d";cases hz : twF c (zay ps g) with
      | none =>
        unfold twD;walk_at "d";exact q c ⟨by rw [cl]; exact im, ⟨c, by rw [cl]; exact mc, hz⟩, by rw [cl]; exact ha⟩
      | some p =>
        unfold twD;walk_at "d";refine hN2 _ _ ⟨_, fun x mx => ?_, rfl, rfl⟩;rw [zF ec] at mx;rcases mem_append.mp mx with mx | mx
        · exact hb x mx
        · rw [mem_singleton.mp mx]; exact⟨p, hz⟩
    · rintro _ _ ⟨u4, hb, rfl, rfl⟩
      rw [length_map, take_length] at hb;refine hN _ _ ⟨_, _, fun k hk => ?_, rfl, rfl⟩;rcases Nat.lt_or_ge k i with z | z
      · exact ha k z
      · rw [show k=i by omega]; exact hb
  · rintro _ _ ⟨u3, u4, ha, rfl, rfl⟩
    rw [zW] at ha;obtain⟨p, e⟩ := ha ps.length (by omega) _ (zpW ps.length (by omega));rw [tw_all] at e;cases e
theorem zdj{ps : List Part}{g : Gap}{m : Nat}(hf : Few ps g m)(ho : Ord ps)(h8 : ps.length<=8)(hs : zaL ps<=300)(h3 : Tm3 ps.length g.ts)(q : R (.d (.list (zfW ps g m))) [] \/ R (.l 0) [zfW ps g m]): zbd [.d (zc4 ps), .d (zhl g)] [] R := by
  have ll : (zay ps g).length<=300 := by unfold zay; rw [length_map, zek]; exact hs
  have hm := hf.le;obtain⟨dl, de⟩ := zhc h8 (show m<=ps.length+1 by omega);unfold zbd;walk_at "d"
  walk_at "n"
  refine zdK ho (by omega) hs h3 ?_;walk_at "d";refine zgj ho h8 hs h3 fun c hc => ?_;have ec := hc.uniq hf;unfold zaD;walk_at "d";rw [ec];refine zb9 h8 (by omega) ?_;walk_at "d";refine cmp1 (S0 := []) (h := zaD) (fun c => rwD (zop ps g c)) rfl (zfn ps.length m) (by omega) ?_ ?_
  · intro c mc u acc R' hk
    obtain⟨c1, c2⟩ := de c mc;have hz : ∃ p, twF c (zay ps g)=some p := by
      unfold zfn at mc;split at mc
      · cases mc
      · exact hf.all (m - 1) (by omega) c mc
    obtain⟨⟨x, y⟩, hz⟩ := hz;have lc : ∀ p∈zay ps g, ∀ k∈c, k<p.1.length := fun p mp k mk => by
      obtain⟨x, b⟩ := p;have := (zbS.mp mp).1.len;have h2 := c2 k mk;simp only;omega
    walk_at "d";refine zcN ll lc c1 ?_;rw [hz];unfold twD;have e : rwD (zop ps g c)=.tuple [zaD c, zaZ x, zaZ y] := by
      unfold zop;rw [hz];rfl
    rw [e] at hk;walk_at "d";exact hk _
  · walk_at "d"
    exact q
theorem zng{ps : List Part}{g : Gap}{m : Nat}(h8 : ps.length<=8)(hm : m<=ps.length+1): zqD (.list (zfW ps g m)) := fun d md => by
  obtain⟨c, mc, rfl⟩ := mem_map.mp md;obtain⟨c1, _⟩ := (zhc h8 hm).2 c mc;show (c.map fun k : Nat => PyData.int k).length<=900;rw [length_map];omega
theorem zhp(a : Addr)(n : Int): zoh (zrC a 9) ((some (.o (.ref a)) :: List.replicate 9 none).set 1 (some (.d (.int n)))) [] := by
  unfold zoh;walk_at "d"
  walk_at "n"
  refine zfO fun p hp => ?_;walk_at "d"
  walk_at "n"
  refine zf4 hp dz dz fun ps p1 hd hs hp1 => ?_;walk_at "d"
  walk_at "n"
  refine zfK hp1 hd fun g p2 hg hp2 => ?_;have h8 := hd.l8;have h3 := hg.ts.tm3 h8;have ho := hd.ord;walk_at "d"
  walk_at "n"
  refine zgj ho h8 hs h3 fun c hc => ?_;unfold zaD;walk_at "d";generalize c.length=m at hc
  walk_at "n"
  have hm := hc.le;have th := zng (g := g) h8 (show m<=ps.length+1 by omega);refine zdj hc ho h8 hs h3 (.inr ?_);walk_at "d";walk_at "n";refine zcP (m := m) h8 (by omega) h3 th ?_;rw [zmh hc];walk_at "d";refine⟨rfl, ?_⟩;refine zb8 (m := m) h8 (by omega) h3 th ?_;rw [zmh hc];walk_at "d";refine⟨rfl, ?_⟩;walk_at "d";walk_at "n";refine zai (fun i δ S => ∃ (u7 u8 : Option XV), S=[p2, zfW ps g m] /\ δ=[some (.o (.ref a)), some (.d (.int n)), some (.l 0), some (.d (zc4 ps)), some (.d (zhl g)), some (.d (.int m)), some (.l 1), u7, u8, none]) ⟨_, _, rfl, rfl⟩ ?_ ?_
  · rintro i d _ _ N hi ⟨u7, u8, rfl, rfl⟩ hN
    have hx : ∃ x : Int, d=.int x := by
      have := mem_of_getElem? hi;simp only [mem_cons, not_mem_nil, or_false] at this;rcases this with rfl | rfl
      · exact⟨_, rfl⟩
      · exact⟨_, rfl⟩
    obtain⟨x, rfl⟩ := hx;walk_at "d";by_cases h0 : 0<=x
    · rw [if_pos h0]
      refine⟨ps.length, by unfold zc4; walk_at "d", ?_⟩;by_cases h1 : x<=(ps.length : Int)+1
      · rw [if_pos h1]
        obtain⟨k, rfl⟩ := Int.eq_ofNat_of_zero_le h0;have hk : k<=ps.length+1 := by omega
        walk_at "n"
        refine zb8 (m := k) h8 hk h3 th ?_;walk_at "d";refine⟨rfl, ?_⟩;walk_at "d";refine zcP (m := k) h8 hk h3 th ?_;walk_at "d";refine⟨rfl, ?_⟩;walk_at "d";exact hN _ _ ⟨_, _, rfl, rfl⟩
      · rw [if_neg h1]
        exact hN _ _ ⟨_, _, rfl, rfl⟩
    · rw [if_neg h0]
      exact hN _ _ ⟨_, _, rfl, rfl⟩
  · rintro _ _ ⟨u7, u8, rfl, rfl⟩
    walk_at "d"
    walk_at "n"
    walk_at "n"
    have rl : (zfW ps g m).length<=900 := by
      unfold zfW;rw [length_map];exact(zhc h8 (show m<=ps.length+1 by omega)).1
    have sh : SeqAt.shaped (.list (zfW ps g m))=true := (zhX (n := 2) fun d md => by
      obtain⟨c, _, rfl⟩ := mem_map.mp md;exact zpf _).ok
    refine⟨by omega, ?_⟩;refine zdj hc ho h8 hs h3 (.inl ?_);walk_at "d";refine⟨sh, sh, ?_⟩;rw [SeqAt.eqv_refl _ (SeqAt.canLay_of_shaped sh), if_neg dz];trivial
end
end My
namespace My
open PySem L2
def top (i : Nat) : Stmt := PySem.Challenge.pw_gaugewright_k55_witnesses.main.body.getD i (.Pass ⟨0, 0, 0, 0⟩)
abbrev zc7 : Stmt := top 32
theorem ze5: FnScope ["script", "k"] ["script", "k"] (zh zc7) := fsd
abbrev zdL : Stmt := top 34
theorem zdk: FnScope ["cell", "left"] ["cell"] (zh zdL) := fsd
abbrev zft : Stmt := top 33
theorem zew: FnScope ["seed"] ["seed"] (zh zft) := fsd
abbrev zfg : Stmt := top 35
theorem zep: FnScope ["pen", "many", "found"] ["pen", "many"] (zh zfg) := fsd
abbrev zaE : Stmt := top 39
theorem zH: FnScope ["pen", "letters", "way", "first", "names", "word", "at"] ["pen"] (zh zaE) := fsd
abbrev zcd : Stmt := top 37
theorem zb7: FnScope ["pen", "way"] ["pen"] (zh zcd) := fsd
abbrev zeP : Stmt := top 40
theorem za5: FnScope ["pen", "most", "names", "wides", "drawing", "k", "low"] ["pen", "most"] (zh zeP) := fsd
abbrev zc9 : Stmt := top 41
theorem zY: FnScope ["drawing", "terms", "least", "most", "part", "times", "ends"] ["drawing", "terms"] (zh zc9) := fsd
abbrev zdU : Stmt := top 42
theorem zQ: FnScope ["pen", "drawing", "terms", "part", "times", "least", "most", "wide", "low", "high"] ["pen", "drawing"] (zh zdU) := fsd
abbrev zdv : Stmt := top 17
theorem zhF: FnScope ["gap", "one"] ["gap", "one"] (zh zdv) := fsd
abbrev zk4 : Stmt := top 18
theorem zly: FnScope ["gap", "one"] ["gap", "one"] (zh zk4) := fsd
abbrev zhj : Stmt := top 7
theorem zi9: FnScope ["one"] ["one"] (zh zhj) := fsd
abbrev zgx : Stmt := top 10
theorem ziR: FnScope ["part"] ["part"] (zh zgx) := fsd
abbrev zfc : Stmt := top 12
theorem zb2: FnScope ["drawing", "many", "part"] ["drawing"] (zh zfc) := fsd
abbrev za2 : Stmt := top 13
theorem zaN: FnScope ["drawing", "many"] ["drawing"] (zh za2) := fsd
abbrev zbX : Stmt := top 15
theorem zbF: FnScope ["beginnings", "numbers", "longer", "beginning"] ["beginnings", "numbers"] (zh zbX) := fsd
abbrev zfq : Stmt := top 14
theorem zb5: FnScope ["drawing", "beginnings", "part"] ["drawing"] (zh zfq) := fsd
abbrev zc1 : Stmt := top 23
theorem zgP: FnScope ["drawing", "gap"] ["drawing", "gap"] (zh zc1) := fsd
abbrev zcs : Stmt := top 25
theorem zga: FnScope ["one", "parts"] ["one", "parts"] (zh zcs) := fsd
abbrev zdo : Stmt := top 24
theorem zag: FnScope ["looks", "parts", "firsts", "one", "kept", "seen", "breaking"] ["looks", "parts"] (zh zdo) := fsd
abbrev zbl : Stmt := top 21
theorem zR: FnScope ["choices", "size", "longer", "choice", "first", "number"] ["choices", "size"] (zh zbl) := fsd
abbrev zdH : Stmt := top 20
theorem zbq: FnScope ["size", "many", "choices", "step"] ["size", "many"] (zh zdH) := fsd
abbrev zcg : Stmt := top 28
theorem zd3: FnScope ["drawing", "many"] ["drawing", "many"] (zh zcg) := fsd
abbrev zhY : Stmt := top 26
theorem zdr: FnScope ["drawing", "gap", "looks", "many", "parts"] ["drawing", "gap"] (zh zhY) := fsd
abbrev zcp : Stmt := top 27
theorem zdf: FnScope ["drawing", "gap", "looks"] ["drawing", "gap"] (zh zcp) := fsd
abbrev zbJ : Stmt := top 47
theorem zal: FnScope ["many", "size", "found", "k", "longer", "one"] ["many", "size"] (zh zbJ) := fsd
abbrev zbY : Stmt := top 44
theorem zcM: FnScope ["gap", "one", "worth"] ["gap", "one"] (zh zbY) := fsd
abbrev zc3 : Stmt := top 45
theorem zgi: FnScope ["one", "parts"] ["one", "parts"] (zh zc3) := fsd
abbrev zeB : Stmt := top 36
theorem zhe: FnScope ["found"] ["found"] (zh zeB) := fsd
abbrev zem : Stmt := top 48
theorem zjf: FnScope ["drawing", "thing"] ["drawing", "thing"] (zh zem) := fsd
abbrev zbV : Stmt := top 49
theorem zba: FnScope ["drawing", "gap", "many", "thing", "due", "row", "parts"] ["drawing", "gap", "many", "thing"] (zh zbV) := fsd
abbrev zff : Stmt := top 4
theorem zhE: FnScope ["thing"] ["thing"] (zh zff) := fsd
abbrev zeH : Stmt := top 5
theorem zi5: FnScope ["thing", "numbers"] ["thing", "numbers"] (zh zeH) := fsd
abbrev zf2 : Stmt := top 11
theorem zjJ: FnScope ["drawing", "thing"] ["drawing", "thing"] (zh zf2) := fsd
abbrev zcb : Stmt := top 30
theorem zdz: FnScope ["drawing", "gap", "parts", "row"] ["drawing", "gap", "parts", "row"] (zh zcb) := fsd
abbrev zbw : Stmt := top 29
theorem zca: FnScope ["drawing", "gap", "many", "thing", "wanted"] ["drawing", "gap", "many", "thing"] (zh zbw) := fsd
abbrev s_law : Stmt := top 50
theorem zcL: FnScope ["script", "cell", "pen", "drawing", "gap", "many", "found", "other", "told", "kept"] ["script"] (zh s_law) := fsd
structure Txt(mg : Str -> Option Value): Prop where
  n_len : mg "len" = none
  n_isinstance : mg "isinstance" = none
  n_bool : mg "bool" = none
  n_list : mg "list" = none
  n_max : mg "max" = none
  n_int : mg "int" = none
  n_range : mg "range" = none
  n_tuple : mg "tuple" = none
  n_min : mg "min" = none
  n_sum : mg "sum" = none
  n_all : mg "all" = none
  n_zip : mg "zip" = none
  g_MOST_SETS : ∃ t, mg "MOST_SETS" = some (.int 300 t)
structure Dds(K : W.Frag)(mg : Str -> Option Value): Prop where
  a0 : Dd K mg "_law_cell_at" zc7 ["script", "k"]
  a1 : Dd K mg "_law_pen_of" zdL ["cell"]
  a2 : Dd K mg "_law_next" zft ["seed"]
  a3 : Dd K mg "_law_draw" zfg ["pen", "many"]
  a4 : Dd K mg "_law_names_of" zaE ["pen"]
  a5 : Dd K mg "_law_number_of" zcd ["pen"]
  a6 : Dd K mg "_law_few" zeP ["pen", "most"]
  a7 : Dd K mg "_law_ends_of" zc9 ["drawing", "terms"]
  a8 : Dd K mg "_law_gap_of" zdU ["pen", "drawing"]
  a9 : Dd K mg "worth_of" zdv ["gap", "one"]
  a10 : Dd K mg "keeps" zk4 ["gap", "one"]
  a11 : Dd K mg "size_of" zhj ["one"]
  a12 : Dd K mg "span_of" zgx ["part"]
  a13 : Dd K mg "how_many" zfc ["drawing"]
  a14 : Dd K mg "refuse_too_many_sets" za2 ["drawing"]
  a15 : Dd K mg "each_longer" zbX ["beginnings", "numbers"]
  a16 : Dd K mg "all_sets" zfq ["drawing"]
  a17 : Dd K mg "looked_at" zc1 ["drawing", "gap"]
  a18 : Dd K mg "numbers_at" zcs ["one", "parts"]
  a19 : Dd K mg "twins_among" zdo ["looks", "parts"]
  a20 : Dd K mg "each_with_one_more" zbl ["choices", "size"]
  a21 : Dd K mg "choices_of" zdH ["size", "many"]
  a22 : Dd K mg "one_part_less" zcg ["drawing", "many"]
  a23 : Dd K mg "fewest" zhY ["drawing", "gap"]
  a24 : Dd K mg "witness_of" zcp ["drawing", "gap"]
  a25 : Dd K mg "_law_parts_of" zbJ ["many", "size"]
  a26 : Dd K mg "_law_kept_of" zbY ["gap", "one"]
  a27 : Dd K mg "_law_at_of" zc3 ["one", "parts"]
  a28 : Dd K mg "_law_whole" zeB ["found"]
  a29 : Dd K mg "_law_set" zem ["drawing", "thing"]
  a30 : Dd K mg "_law_witness" zbV ["drawing", "gap", "many", "thing"]
  a31 : Dd K mg "is_whole" zff ["thing"]
  a32 : Dd K mg "is_same" zeH ["thing", "numbers"]
  a33 : Dd K mg "is_set" zf2 ["drawing", "thing"]
  a34 : Dd K mg "is_witness_row" zcb ["drawing", "gap", "parts", "row"]
  a35 : Dd K mg "witness_holds" zbw ["drawing", "gap", "many", "thing"]
section
variable {P : Program} {w : World} {K : W.Frag} {mg : Str -> Option Value} {base : Heap}
local macro_rules | `(tactic| walk_at "r") => `(tactic| repeat' (first | with_reducible (first | refine zk | refine zi ?_ ?_ | refine zx | refine zae | refine zw | refine zK ?_ ?_ | refine zbn ?_ ?_ | refine zaQ ?_ | refine zc0 | refine zaK ?_ ?_ | refine zc2 | refine zgN ?_ ?_ ?_ | refine zK | refine zey | refine zbP | refine zdc ?_ ?_ | refine zhH | refine zg0 ?_ | refine zml ?_ | refine zfa ?_ | refine zgF ?_ | refine ziz ?_ ?_ | refine zmF | refine zrr | refine zgY | refine zi | refine znA | refine zeR ?_ ?_ ?_ | refine zjZ | refine zjQ | refine zaU ?_ ?_ | refine znK | refine zeN | refine zmR | refine zbC ?_ | refine zaQ | refine zn6 ?_ | refine zeX ?_ | refine zqW | refine zbn | refine zcD ?_ | refine zfy ?_ | refine zdE | refine zpL ?_ ?_ | refine zq5 | refine zdd ?_ ?_ | refine zfp | refine zk3 ?_ ?_ ?_ | refine zg6 | refine zgc | refine zeR | refine zfe ?_ ?_ | refine zej ?_ ?_ ?_ ?_ ?_ | refine zqR ?_ ?_ ?_ | refine zoM ?_ | refine zp5 ?_ ?_ | refine zgN | refine zpb ?_ ?_ ?_ ?_ | refine zmE | refine zjG ?_ | refine zkN | refine zj7 | refine zeX | refine zk3 | refine zeE | refine zfe | refine zqO | refine znH | refine zmb | refine znE | refine zo8 ?_ ?_ | refine ziN | refine zoc | refine zo5 | refine zl8 | refine zli | refine znd ?_ | refine zkT | refine zjR | refine zka | refine zmk | refine zoS ?_ ?_ | refine znc ?_ | refine zm0 | refine zlT ?_ | refine zpX ?_ | refine zfJ ?_ | refine ziz | refine zgF | refine zg0 | refine zkr | refine zh1 | refine zah ?_ ?_ ?_ | refine zcq ?_ ?_ | refine zni ?_ | refine zcq) | rfl))
theorem zf7(T : Txt mg := by assumption)(dd : Dds K mg := by assumption): Df P w K mg base "_law_cell_at" ["script", "k"] 1 (sp2 (zod K)) := by
  refine Df.of2 dd.a0 ze5 (fun v u => [some v, some u]) (fun _ _ => rfl) fun f cdv A outer s H v u Q E hr h => ?_;obtain⟨a, ns, i, rfl, rfl, hS, h0, q⟩ := h;refine⟨_, (zg (zaX (zJ zns (pv 1) (zo zj1 (by rfl) T.n_len zan (za (pv 0) zd)) (nomark _)) (zm (zy (zM zjN (pv 0) (pv 1) (fun _ _ => rfl)))) zN) (zm (zy zf))), ?_⟩;simp only [ziv, zqV, zl5, tOp, zl3, tCB, zjc, zoq, zqY, tC, znO, zkI, getElem?_cons_zero, getElem?_cons_succ];refine⟨a, _, rfl, .inl hS, ?_⟩;simp only [zkI, zqQ, decide_eq_true_eq];refine ite2 (fun hi => ?_) (fun _ => q 0);obtain⟨n, e⟩ := znP h0 hi;exact⟨a, _, i, _, rfl, rfl, hS, e, q n⟩
variable (T : Txt mg := by assumption) (dd : Dds K mg := by assumption)
include T dd
theorem zgr: Df P w K mg base "_law_pen_of" ["cell"] 1 (spN ["cell"] zbE) := by
  exact Df.dN dd.a1 zdk 1 rfl fun f cdv A outer s H E hr => ⟨_, _, (zg (zz (i := 1) zdk.nd rfl lo (zo (zkO rfl) (by rfl) T.n_max zmM (za (pv 0) (za (zC zco zf (pv 0)) zd)))) (zm (zy (zap (za (pv 1) (za (zbO zj2 (by rfl) T.n_int zjw (za (zhC zqE (pv 1) (zC zhW zf zf) (nomark _)) zd)) (za (zC zdX (pv 1) zf) zd))))))), (by walk_at "r"), fun xs S R q => q⟩
theorem zfm: Df P w K mg base "_law_next" ["seed"] 1 (spN ["seed"] zbT) := by
  exact Df.dN dd.a2 zew 0 rfl fun f cdv A outer s H E hr => ⟨_, _, (zg (zz (i := 0) zew.nd rfl lo (zC zdX (zC zL (pv 0) zf) zf)) (zm (zy (zC zdX (zC zL (zC zL (zC zaJ (pv 0) (pv 0)) (zC zaJ zf (pv 0))) zf) zf)))), (by walk_at "r"), fun xs S R q => q⟩
theorem zI: Df P w K mg base "_law_draw" ["pen", "many"] 2 (spN ["pen", "many"] zv) := by
  exact Df.dN dd.a3 zep 1 rfl fun f cdv A outer s H E hr => ⟨_, _, (zg (zaX (zJ (zcJ hr.units) (zM zu (pv 0) zf (fun _ _ => rfl)) zf (nomark _)) (zg (zz (i := 2) zep.nd rfl lo (zC zdX (zM zu (pv 0) zf (fun _ _ => rfl)) (pv 1))) (zg (zk1 (zC zgw (zM zu (pv 0) zf (fun _ _ => rfl)) (pv 1)) (zmI (pv 0) zf zh5)) (zm (zy (pv 2))))) zN) (zg (zk1 (zq zfm hr dz (za (zC zL (zq zfm hr dz (za (zM zu (pv 0) zf (fun _ _ => rfl)) zd)) zf) zd)) (zmI (pv 0) zf zh5)) (zm (zy (zC zdX (zC zgw (zM zu (pv 0) zf (fun _ _ => rfl)) zf) (pv 1)))))), (by walk_at "r"), fun xs S R q => q⟩
theorem zeZ: Df P w K mg base "_law_names_of" ["pen"] 3 (spN ["pen"] zaC) := by
  exact Df.dN dd.a4 zH 6 rfl fun f cdv A outer s H E hr => ⟨_, _, (zg (zz (i := 1) zH.nd rfl (Or.inr rfl) zcK) (zg (zz (i := 2) zH.nd rfl lo (zq zI hr dz (za (pv 0) (za zf zd)))) (zg (zz (i := 3) zH.nd rfl (Or.inr rfl) (zq zI hr dz (za (pv 0) (za zf zd)))) (zg (zhD (i := 4) (fun _ _ h => h) rfl (zS rfl rfl rfl rfl (N := ["k", "letters", "first"]) (caps := [none, some 1, some 3]) (by show zaS ["pen", "letters", "way", "first", "names", "word", "at"] (zh zaE).names _ _ _=true; decide +kernel)) zH.nd rfl rfl (zao rfl T.n_range (za zf zd)) (fun _ _ _ _ => (zt (i := 0) (by show List.Nodup (["k", "letters", "first"] : List Str); decide) rfl (Or.inl rfl))) (fun _ _ _ _ => zaz) (fun _ _ _ _ => (zC zaJ (zM zu (pv 1) (zC zdX (zC zL (pv 2) (zC zaJ zf (pv 0))) zf) (fun _ _ => rfl)) (zC zL zf (zC zdX (zC zL (pv 2) (zC zaJ zf (pv 0))) zf))))) (zg (zaX (zJ (zcJ hr.units) (pv 2) zf (nomark _)) (zg (zz (i := 5) zH.nd rfl (Or.inr rfl) (zhQ PySem.F.plainAttrs_str PySem.F.slot_str_join PySem.F.type_str_join znl zcK (za (zaV (fun _ _ h => h) rfl (zS rfl rfl rfl rfl (N := ["k", "letters", "first"]) (caps := [none, some 1, some 3]) (by show zaS ["pen", "letters", "way", "first", "names", "word", "at"] (zh zaE).names _ _ _=true; decide +kernel)) (zao rfl T.n_range (za zf zd)) (fun _ _ _ _ => (zt (i := 0) (by show List.Nodup (["k", "letters", "first"] : List Str); decide) rfl (Or.inl rfl))) (fun _ _ _ _ => zaz) (fun _ _ _ _ => (zM zu (pv 1) (zC zdX (zC zL (pv 2) (zC zaJ zf (pv 0))) zf) (fun _ _ => rfl)))) zd))) (zm (zhD (i := 4) (fun _ _ h => h) rfl (zS rfl rfl rfl rfl (N := ["k", "word"]) (caps := [none, some 5]) (by show zaS ["pen", "letters", "way", "first", "names", "word", "at"] (zh zaE).names _ _ _=true; decide +kernel)) zH.nd rfl rfl (zao rfl T.n_range (za zf zd)) (fun _ _ _ _ => (zt (i := 0) (by show List.Nodup (["k", "word"] : List Str); decide) rfl (Or.inl rfl))) (fun _ _ _ _ => zaz) (fun _ _ _ _ => (zed zku (pv 1) zhr (zeM (zC zL (pv 0) zf))))))) zN) (zg (zaX (zJ (zcJ hr.units) (pv 2) zf (nomark _)) (zm (zz (i := 4) zH.nd rfl lo (zap (za zcK (za zcK (za zcK (za zcK (za zcK (za zcK (za zcK (za zcK zd))))))))))) zN) (zg (zz (i := 6) zH.nd rfl lo (zq zI hr dz (za (pv 0) (za zf zd)))) (zg (zz (i := 4) zH.nd rfl lo (zC zjq (zed zku (pv 4) (zeM (pv 6)) zhr) (zed zku (pv 4) zhr (zeM (pv 6))))) (zg (zaX (zJ (zcJ hr.units) (zq zI hr dz (za (pv 0) (za zf zd))) zf (nomark _)) (zm (zb1 (zpl PySem.F.plainAttrs_list PySem.F.slot_list_reverse PySem.F.type_list_reverse zji (pv 4)))) zN) (zm (zy (pv 4)))))))))))), (zK (zbn zjQ zw) (zK (by walk_at "r") (zK (by walk_at "r") (zK (zbn (zee (zcD (zi zae zx)) zw zaA (zah zeN (zah zc0 zk (zah znK (zah zbP zk (zah zeN zae zk)) zae)) (zah zbP zae (zah znK (zah zbP zk (zah zeN zae zk)) zae)))) zw) (zK (zgN (by walk_at "r") (zK (zbn (zmb zlL zjQ (zi (za8 (zcD (zi zae zx)) zw zaA (zah zc0 zk (zah znK (zah zbP zk (zah zeN zae zk)) zae))) zx)) zw) (zbn (zee (zcD (zi zae zx)) zw zaA (zpb zmE zk zkN (zjG (zah zbP zk zae)))) zw)) zc2) (by walk_at "r")))))), fun xs S R q => q⟩
theorem zeD: Df P w K mg base "_law_number_of" ["pen"] 3 (spN ["pen"] zas) := by
  exact Df.dN dd.a5 zb7 1 rfl fun f cdv A outer s H E hr => ⟨_, _, (zg (zz (i := 1) zb7.nd rfl lo (zq zI hr dz (za (pv 0) (za zf zd)))) (zg (zaX (zJ zns (pv 1) zf (nomark _)) (zm (zy (zC zco (zq zI hr dz (za (pv 0) (za zf zd))) zf))) zN) (zg (zaX (zJ zns (pv 1) zf (nomark _)) (zm (zy (zC zco (zq zI hr dz (za (pv 0) (za zf zd))) zf))) zN) (zm (zy (zC zaJ (zC zco (zq zI hr dz (za (pv 0) (za (zC zaJ zf (zC zhW zf zf)) zd))) (zC zhW zf zf)) (zC zhW zf zf))))))), (by walk_at "r"), fun xs S R q => q⟩
theorem zjH: Df P w K mg base "_law_few" ["pen", "most"] 4 (spN ["pen", "most"] zcv) := by
  exact Df.dN dd.a6 za5 5 rfl fun f cdv A outer s H E hr => ⟨_, _, (zg (zz (i := 2) za5.nd rfl lo (zq zeZ hr dz (za (pv 0) zd))) (zg (zhD (i := 3) (fun _ _ h => h) rfl (zS rfl rfl rfl rfl (N := ["k", "pen"]) (caps := [none, some 0]) (by show zaS ["pen", "most", "names", "wides", "drawing", "k", "low"] (zh zeP).names _ _ _=true; decide +kernel)) za5.nd rfl rfl (zao rfl T.n_range (za (zC zL zf (zq zI hr dz (za (pv 0) (za (pv 1) zd)))) zd)) (fun _ _ _ _ => (zt (i := 0) (by show List.Nodup (["k", "pen"] : List Str); decide) rfl (Or.inl rfl))) (fun _ _ _ _ => zaz) (fun _ _ _ _ => (zC zL zf (zq zI hr dz (za (pv 1) (za zf zd)))))) (zg (zaX (zJ (zcJ hr.units) (zq zI hr dz (za (pv 0) (za zf zd))) zf (nomark _)) (zm (zz (i := 3) za5.nd rfl lo (zM zu (zap (za (zC zaJ (zap (za zf zd)) zf) (za (zap (za zf (za zf zd))) (za (zap (za zf zd)) (za (zC zaJ (zap (za zf zd)) zf) zd))))) (zq zI hr dz (za (pv 0) (za zf zd))) (fun _ _ => rfl)))) zN) (zg (zz (i := 4) za5.nd rfl lo (zap zd)) (zg (za3 PassesOwn.never rfl (zao rfl T.n_range (za (zo zB (by rfl) T.n_len zan (za (pv 3) zd)) zd)) (zt (i := 5) za5.nd rfl (Or.inl rfl)) (zg (zz (i := 6) za5.nd rfl lo (zq zeD hr dz (za (pv 0) zd))) (zm (zb1 (zhQ PySem.F.plainAttrs_list PySem.F.slot_list_append PySem.F.type_list_append zch (pv 4) (za (zaR (za (zM zu (pv 2) (pv 5) (fun _ _ => rfl)) (za (pv 6) (za (zC zco (zC zL (pv 6) (zM zu (pv 3) (pv 5) (fun _ _ => rfl))) zf) zd)))) zd)))))) (zm (zy (zbO zbo (by rfl) T.n_tuple za9 (za (pv 4) zd))))))))), (zK (by walk_at "r") (zK (zbn (za8 (zcD (zi (zah zbP zae (zdc (i := 0) (zi zk (zi zk zx)))) zx)) zw zaA (zah zbP zae (zdc (i := 0) (zi zk (zi zae zx))))) zw) (by walk_at "r"))), fun xs S R q => q⟩
theorem zgb: Df P w K mg base "_law_ends_of" ["drawing", "terms"] 1 (spN ["drawing", "terms"] zbs) := by
  exact Df.dN dd.a7 zY 5 rfl fun f cdv A outer s H E hr => ⟨_, _, (zg (zz (i := 2) zY.nd rfl lo zf) (zg (zz (i := 3) zY.nd rfl lo zf) (zg (za3 PassesOwn.never rfl (za4 (pv 1)) (zcI (n := 2) rfl (zT (zt (i := 4) zY.nd rfl (Or.inl rfl)) (zT (zt (i := 5) zY.nd rfl (Or.inl rfl)) zbH))) (zg (zz (i := 6) zY.nd rfl lo (zap (za (zC zaJ (pv 5) (zM zu (zM zu (pv 0) (pv 4) (fun _ _ => rfl)) zf (fun _ _ => rfl))) (za (zC zaJ (pv 5) (zM zu (zM zu (pv 0) (pv 4) (fun _ _ => rfl)) zf (fun _ _ => rfl))) zd)))) (zg (zz (i := 2) zY.nd rfl lo (zC zL (pv 2) (zo (zkG rfl hr.units) (by rfl) T.n_min zpj (za (pv 6) zd)))) (zm (zz (i := 3) zY.nd rfl lo (zC zL (pv 3) (zo (zj5 rfl) (by rfl) T.n_max zmM (za (pv 6) zd)))))))) (zm (zy (zaR (za (pv 2) (za (pv 3) zd)))))))), (by walk_at "r"), fun xs S R q => q⟩
theorem zg7: Df P w K mg base "_law_gap_of" ["pen", "drawing"] 3 (spN ["pen", "drawing"] zbz) := by
  exact Df.dN dd.a8 zQ 8 rfl fun f cdv A outer s H E hr => ⟨_, _, (zg (zz (i := 2) zQ.nd rfl lo (zap zd)) (zg (za3 PassesOwn.never rfl (zao rfl T.n_range (za (zo zB (by rfl) T.n_len zan (za (pv 1) zd)) zd)) (zt (i := 3) zQ.nd rfl (Or.inl rfl)) (zg (zz (i := 4) zQ.nd rfl lo (zC zco (zq zI hr dz (za (pv 0) (za zf zd))) zf)) (zm (zaX (zJ (zkL hr.units) (pv 4) (zaR (za (zi7 zfr zf) (za zf (za zf zd)))) (by rfl)) (zm (zb1 (zhQ PySem.F.plainAttrs_list PySem.F.slot_list_append PySem.F.type_list_append zch (pv 2) (za (zaR (za (pv 3) (za (pv 4) zd))) zd)))) zN)))) (zg (zaX (zJ (zcJ hr.units) (pv 2) (zap zd) (nomark _)) (zm (zz (i := 2) zQ.nd rfl lo (zap (za (zaR (za (zq zI hr dz (za (pv 0) (za (zo zB (by rfl) T.n_len zan (za (pv 1) zd)) zd))) (za (zM zu (zap (za zf (za (zi7 zfr zf) (za zf (za (zi7 zfr zf) zd))))) (zq zI hr dz (za (pv 0) (za zf zd))) (fun _ _ => rfl)) zd))) zd)))) zN) (zg (zk1 (zq zgb hr dz (za (pv 1) (za (pv 2) zd))) (zcI (n := 2) rfl (zT (zt (i := 5) zQ.nd rfl (Or.inl rfl)) (zT (zt (i := 6) zQ.nd rfl (Or.inl rfl)) zbH)))) (zg (zz (i := 7) zQ.nd rfl lo (zC zco (pv 6) (pv 5))) (zg (zz (i := 8) zQ.nd rfl lo (zC zL (pv 5) (zM zu (zkV (zbi zf (zbi zf (zbi (zi7 zfr zf) (zbi (zC zgw (pv 7) zf) (zbi (zC zgw (pv 7) zf) (zbi (zC zL (pv 7) zf) zmd))))))) (zq zI hr dz (za (pv 0) (za zf zd))) (fun _ _ => rfl)))) (zg (zz (i := 9) zQ.nd rfl lo (zC zL (pv 8) (zM zu (zkV (zbi zf (zbi zf (zbi zf (zbi (zC zgw (pv 7) zf) (zbi (pv 7) (zbi (zC zL (pv 7) zf) zmd))))))) (zq zI hr dz (za (pv 0) (za zf zd))) (fun _ _ => rfl)))) (zm (zy (zaR (za (zbO zbo (by rfl) T.n_tuple za9 (za (pv 2) zd)) (za (pv 8) (za (pv 9) zd))))))))))))), (by walk_at "r"), fun xs S R q => q⟩
theorem zi0: Df P w K mg base "worth_of" ["gap", "one"] 1 (spN ["gap", "one"] zcx) := by
  exact Df.dN dd.a9 zhF 0 rfl fun f cdv A outer s H E hr => ⟨_, _, (zm (zy (zo (zgz rfl) (by rfl) T.n_sum zmN (za (zaV (fun _ _ h => h) rfl (zS rfl rfl rfl rfl (N := ["part", "times", "one"]) (caps := [none, none, some 1]) (by show zaS ["gap", "one"] (zh zdv).names _ _ _=true; decide +kernel)) (za4 (zM zu (pv 0) zf (fun _ _ => rfl))) (fun _ _ _ _ => (zcI (n := 2) rfl (zT (zt (i := 0) (by show List.Nodup (["part", "times", "one"] : List Str); decide) rfl (Or.inl rfl)) (zT (zt (i := 1) (by show List.Nodup (["part", "times", "one"] : List Str); decide) rfl (Or.inl rfl)) zbH)))) (fun _ _ _ _ => zaz) (fun _ _ _ _ => (zC zaJ (pv 1) (zM zu (pv 2) (pv 0) (fun _ _ => rfl))))) zd)))), (zaQ (zcq zj7 (zi (za8 (zbC (zah zc0 zk zae)) (zfy (zaU zw (zaU zw zdE))) zaA (zah zeN zk (zah zc0 zk zk))) zx))), fun xs S R q => q⟩
theorem zhB: Df P w K mg base "keeps" ["gap", "one"] 2 (spN ["gap", "one"] zdF) := by
  exact Df.dN dd.a10 zly 0 rfl fun f cdv A outer s H E hr => ⟨_, _, (zm (zy (zea ze6 ze6 (zM zu (pv 0) zf (fun _ _ => rfl)) (zq zi0 hr dz (za (pv 0) (za (pv 1) zd))) (zM zu (pv 0) zf (fun _ _ => rfl))))), (by walk_at "r"), fun xs S R q => q⟩
theorem zkc: Df P w K mg base "size_of" ["one"] 1 (spN ["one"] zdg) := by
  exact Df.dN dd.a11 zi9 0 rfl fun f cdv A outer s H E hr => ⟨_, _, (zm (zy (zC zL (zC zco (zM zu (pv 0) zf (fun _ _ => rfl)) (zM zu (pv 0) zf (fun _ _ => rfl))) zf))), (by walk_at "r"), fun xs S R q => q⟩
theorem zkD: Df P w K mg base "span_of" ["part"] 1 (spN ["part"] zdm) := by
  exact Df.dN dd.a12 ziR 0 rfl fun f cdv A outer s H E hr => ⟨_, _, (zm (zy (zaR (za (zM zu (pv 0) zf (fun _ _ => rfl)) (za (zM zu (pv 0) zf (fun _ _ => rfl)) zd))))), (by walk_at "r"), fun xs S R q => q⟩
theorem zjh: Df P w K mg base "how_many" ["drawing"] 2 (spN ["drawing"] zcz) := by
  exact Df.dN dd.a13 zb2 2 rfl fun f cdv A outer s H E hr => ⟨_, _, (zg (zz (i := 1) zb2.nd rfl lo zf) (zg (za3 PassesOwn.never rfl (za4 (pv 0)) (zt (i := 2) zb2.nd rfl (Or.inl rfl)) (zm (zz (i := 1) zb2.nd rfl lo (zC zaJ (pv 1) (zq zkc hr dz (za (zq zkD hr dz (za (pv 2) zd)) zd)))))) (zm (zy (pv 1))))), (by walk_at "r"), fun xs S R q => q⟩
theorem zcc: Df P w K mg base "refuse_too_many_sets" ["drawing"] 3 (spN ["drawing"] zab) := by
  exact Df.dN dd.a14 zaN 1 rfl fun f cdv A outer s H E hr => ⟨_, _, (zg (zz (i := 1) zaN.nd rfl lo (zq zjh hr dz (za (pv 0) zd))) (zm (zaX (zJ zl2 (pv 1) (zlq rfl T.g_MOST_SETS) (nomark _)) (zm zlA) zN))), (by walk_at "r"), fun xs S R q => q⟩
theorem zfY: Df P w K mg base "each_longer" ["beginnings", "numbers"] 1 (spN ["beginnings", "numbers"] zbt) := by
  exact Df.dN dd.a15 zbF 2 rfl fun f cdv A outer s H E hr => ⟨_, _, (zg (zz (i := 2) zbF.nd rfl lo (zap zd)) (zg (za3 PassesOwn.never rfl (za4 (pv 0)) (zt (i := 3) zbF.nd rfl (Or.inr rfl)) (zm (zb1 (zhQ PySem.F.plainAttrs_list PySem.F.slot_list_extend PySem.F.type_list_extend zgX (pv 2) (za (zaV (fun _ _ h => h) rfl (zS rfl rfl rfl rfl (N := ["number", "beginning"]) (caps := [none, some 3]) (by show zaS ["beginnings", "numbers", "longer", "beginning"] (zh zbX).names _ _ _=true; decide +kernel)) (za4 (pv 1)) (fun _ _ _ _ => (zt (i := 0) (by show List.Nodup (["number", "beginning"] : List Str); decide) rfl (Or.inl rfl))) (fun _ _ _ _ => zaz) (fun _ _ _ _ => (zC zL (pv 1) (zaR (za (pv 0) zd))))) zd))))) (zm (zy (pv 2))))), (zK (by walk_at "r") (zK (zeR (zbC zk) zw (zeX (zk3 zeE zk (zi (za8 (zbC zk) zw zaA (zah zbP zk (zfa (zi zk zx)))) zx)))) (zaQ zk))), fun xs S R q => q⟩
theorem ziL: Df P w K mg base "all_sets" ["drawing"] 4 (spN ["drawing"] zcC) := by
  exact Df.dN dd.a16 zb5 2 rfl fun f cdv A outer s H E hr => ⟨_, _, (zg (zb1 (zq zcc hr dz (za (pv 0) zd))) (zg (zz (i := 1) zb5.nd rfl lo (zap (za (zaR zd) zd))) (zg (za3 PassesOwn.never rfl (za4 (pv 0)) (zt (i := 2) zb5.nd rfl (Or.inl rfl)) (zm (zz (i := 1) zb5.nd rfl lo (zq zfY hr dz (za (pv 1) (za (znW rfl rfl T.n_list rfl T.n_range (za (zM zu (pv 2) zf (fun _ _ => rfl)) (za (zC zL (zM zu (pv 2) zf (fun _ _ => rfl)) zf) zd))) zd)))))) (zm (zy (pv 1)))))), (by walk_at "r"), fun xs S R q => q⟩
theorem zeW: Df P w K mg base "looked_at" ["drawing", "gap"] 5 (spN ["drawing", "gap"] zbv) := by
  exact Df.dN dd.a17 zgP 0 rfl fun f cdv A outer s H E hr => ⟨_, _, (zm (zy (zaV (fun _ _ h => h) rfl (zS rfl rfl rfl rfl (N := ["one", "gap"]) (caps := [none, some 1]) (by show zaS ["drawing", "gap"] (zh zc1).names _ _ _=true; decide +kernel)) (za4 (zq ziL hr dz (za (pv 0) zd))) (fun _ _ _ _ => (zt (i := 0) (by show List.Nodup (["one", "gap"] : List Str); decide) rfl (Or.inl rfl))) (fun _ _ _ _ => zaz) (fun _ _ _ _ => (zaR (za (pv 0) (za (zq zhB hr dz (za (pv 1) (za (pv 0) zd))) zd))))))), (zaQ (zee (zbC (zaK (zi zk zx))) zw zaA (zfa (zi zk (zi (zaK (zi zk (zi zk zx))) zx))))), fun xs S R q => q⟩
theorem zce: Df P w K mg base "numbers_at" ["one", "parts"] 1 (spN ["one", "parts"] zaM) := by
  exact Df.dN dd.a18 zga 0 rfl fun f cdv A outer s H E hr => ⟨_, _, (zm (zy (zbO zbo (by rfl) T.n_tuple za9 (za (zaV (fun _ _ h => h) rfl (zS rfl rfl rfl rfl (N := ["part", "one"]) (caps := [none, some 0]) (by show zaS ["one", "parts"] (zh zcs).names _ _ _=true; decide +kernel)) (za4 (pv 1)) (fun _ _ _ _ => (zt (i := 0) (by show List.Nodup (["part", "one"] : List Str); decide) rfl (Or.inl rfl))) (fun _ _ _ _ => zaz) (fun _ _ _ _ => (zM zu (pv 1) (pv 0) (fun _ _ => rfl)))) zd)))), (zaQ (zcq zgc (zi (za8 (zbC zk) zw zaA (zah zc0 zk zk)) zx))), fun xs S R q => q⟩
theorem zdt: Df P w K mg base "twins_among" ["looks", "parts"] 2 (spN ["looks", "parts"] zaP) := by
  exact Df.dN dd.a19 zag 5 rfl fun f cdv A outer s H E hr => ⟨_, _, (zg (zz (i := 2) zag.nd rfl lo zlS) (zg (za3 PassesOwn.never rfl (za4 (pv 0)) (zcI (n := 2) rfl (zT (zt (i := 3) zag.nd rfl (Or.inl rfl)) (zT (zt (i := 4) zag.nd rfl (Or.inl rfl)) zbH))) (zm (zb1 (zlH (g := (.two (.many .int) .bool)) dz rfl hr.units (pv 2) (zaR (za (zq zce hr dz (za (pv 3) (za (pv 1) zd))) (za (pv 4) zd))) (pv 3) ⟨rfl, rfl, rfl, rfl⟩)))) (zg (za3 PassesOwn.never rfl (zjo (pv 2) rfl rfl) (zcI (n := 2) rfl (zT (zt (i := 5) zag.nd rfl (Or.inl rfl)) (zT (zt (i := 3) zag.nd rfl (Or.inl rfl)) zbH))) (zg (zz (i := 6) zag.nd rfl lo (zkh (g := (.two (.many .int) .bool)) dz rfl hr.units (pv 2) (zaR (za (zM zu (pv 5) zf (fun _ _ => rfl)) (za zb0 zd))) ⟨rfl, rfl, rfl, rfl⟩)) (zm (zaX (PW.pt (zpP (zV (zM zu (pv 5) zf (fun _ _ => rfl)) (fun _ => rfl)) (znU (zJ zlE (pv 6) zjA (nomark _))))) (zm (zy (zaR (za (pv 3) (za (pv 6) zd))))) zN)))) (zm (zy zjA))))), (zof (zok (zkT (zm5 (zpw (fun M => znt (zbC zk)) (by walk_at "r") (zjR rfl (fun M => (zf8 (by walk_at "r"))) (fun M => (zf8 zk)))) (zka (by walk_at "r") (zm5 (zmk (fun M => (zkv (zf8 zk) (zf8 (by walk_at "r")))) zw) (zoi (by walk_at "r"))))))) (zaQ zm0)), fun xs S R q => q⟩
theorem zcH: Df P w K mg base "each_with_one_more" ["choices", "size"] 1 (spN ["choices", "size"] zaj) := by
  exact Df.dN dd.a20 zR 4 rfl fun f cdv A outer s H E hr => ⟨_, _, (zg (zz (i := 2) zR.nd rfl lo (zap zd)) (zg (za3 PassesOwn.never rfl (za4 (pv 0)) (zt (i := 3) zR.nd rfl (Or.inl rfl)) (zg (zz (i := 4) zR.nd rfl lo (zfT (zV (pv 3) (fun _ => rfl)) (zC zL (zM zu (pv 3) (zi7 zfr zf) (fun _ _ => rfl)) zf) zf)) (zm (za3 PassesOwn.never rfl (ziJ rfl T.n_range (za (pv 4) (za (pv 1) zd))) (zt (i := 5) zR.nd rfl (Or.inl rfl)) (zm (zb1 (zhQ PySem.F.plainAttrs_list PySem.F.slot_list_append PySem.F.type_list_append zch (pv 2) (za (zC zL (pv 3) (zaR (za (pv 5) zd))) zd)))))))) (zm (zy (pv 2))))), (by walk_at "r"), fun xs S R q => q⟩
theorem zdW: Df P w K mg base "choices_of" ["size", "many"] 2 (spN ["size", "many"] zbf) := by
  exact Df.dN dd.a21 zbq 2 rfl fun f cdv A outer s H E hr => ⟨_, _, (zg (zz (i := 2) zbq.nd rfl lo (zap (za (zaR zd) zd))) (zg (za3 PassesOwn.never rfl (zao rfl T.n_range (za (pv 1) zd)) (zt (i := 3) zbq.nd rfl (Or.inl rfl)) (zm (zz (i := 2) zbq.nd rfl lo (zq zcH hr dz (za (pv 2) (za (pv 0) zd)))))) (zm (zy (pv 2))))), (by walk_at "r"), fun xs S R q => q⟩
theorem zcm: Df P w K mg base "one_part_less" ["drawing", "many"] 3 (spN ["drawing", "many"] zav) := by
  exact Df.dN dd.a22 zd3 0 rfl fun f cdv A outer s H E hr => ⟨_, _, (zm (zy (zfT (zJ zl2 (pv 1) zf (nomark _)) (zq zdW hr dz (za (zo zB (by rfl) T.n_len zan (za (pv 0) zd)) (za (zC zco (pv 1) zf) zd))) (zap zd)))), (by walk_at "r"), fun xs S R q => q⟩
theorem zib: Df P w K mg base "fewest" ["drawing", "gap"] 6 (spN ["drawing", "gap"] zds) := by
  exact Df.dN dd.a23 zdr 3 rfl fun f cdv A outer s H E hr => ⟨_, _, (zg (zz (i := 2) zdr.nd rfl lo (zq zeW hr dz (za (pv 0) (za (pv 1) zd)))) (zm (za3 PassesOwn.never rfl (zao rfl T.n_range (za (zC zL (zo zB (by rfl) T.n_len zan (za (pv 0) zd)) zf) zd)) (zt (i := 3) zdr.nd rfl (Or.inl rfl)) (zm (za3 PassesOwn.never rfl (za4 (zq zdW hr dz (za (zo zB (by rfl) T.n_len zan (za (pv 0) zd)) (za (pv 3) zd)))) (zt (i := 4) zdr.nd rfl (Or.inl rfl)) (zm (zaX (zJ zoj (zq zdt hr dz (za (pv 2) (za (pv 4) zd))) zjA (nomark _)) (zm (zy (pv 4))) zN))))))), (by walk_at "r"), fun xs S R q => q⟩
theorem zdY: Df P w K mg base "witness_of" ["drawing", "gap"] 7 (spN ["drawing", "gap"] zbd) := by
  exact Df.dN dd.a24 zdf 1 rfl fun f cdv A outer s H E hr => ⟨_, _, (zg (zz (i := 2) zdf.nd rfl (Or.inr rfl) (zq zeW hr dz (za (pv 0) (za (pv 1) zd)))) (zm (zy (zaV (fun _ _ h => h) rfl (zS rfl rfl rfl rfl (N := ["parts", "looks"]) (caps := [none, some 2]) (by show zaS ["drawing", "gap", "looks"] (zh zcp).names _ _ _=true; decide +kernel)) (za4 (zq zcm hr dz (za (pv 0) (za (zo zB (by rfl) T.n_len zan (za (zq zib hr dz (za (pv 0) (za (pv 1) zd))) zd)) zd)))) (fun _ _ _ _ => (zt (i := 0) (by show List.Nodup (["parts", "looks"] : List Str); decide) rfl (Or.inl rfl))) (fun _ _ _ _ => zaz) (fun _ _ _ _ => (zC zL (zaR (za (pv 0) zd)) (zq zdt hr dz (za (pv 1) (za (pv 0) zd))))))))), (zK (by walk_at "r") (zaQ (zee (zbC (zaK (zi zk (zi (zcq zey (zi (zaK (zi zk (zi zk zx))) zx)) zx)))) zw zaA (zah zbP (zfa (zi zk zx)) (zaK (zi zk (zi zk zx))))))), fun xs S R q => q⟩
theorem ze7: Df P w K mg base "_law_parts_of" ["many", "size"] 1 (spN ["many", "size"] zbb) := by
  exact Df.dN dd.a25 zal 4 rfl fun f cdv A outer s H E hr => ⟨_, _, (zg (zz (i := 2) zal.nd rfl lo (zap (za (zaR zd) zd))) (zg (za3 PassesOwn.never rfl (zao rfl T.n_range (za (pv 1) zd)) (zt (i := 3) zal.nd rfl (Or.inl rfl)) (zg (zz (i := 4) zal.nd rfl lo (zap zd)) (zg (za3 PassesOwn.never rfl (za4 (pv 2)) (zt (i := 5) zal.nd rfl (Or.inr rfl)) (zm (zb1 (zhQ PySem.F.plainAttrs_list PySem.F.slot_list_extend PySem.F.type_list_extend zgX (pv 4) (za (zaV (fun _ _ h => h) rfl (zS rfl rfl rfl rfl (N := ["part", "one"]) (caps := [none, some 5]) (by show zaS ["many", "size", "found", "k", "longer", "one"] (zh zbJ).names _ _ _=true; decide +kernel)) (zao rfl T.n_range (za (pv 0) zd)) (fun _ _ _ _ => (zt (i := 0) (by show List.Nodup (["part", "one"] : List Str); decide) rfl (Or.inl rfl))) (fun _ _ _ _ => (znL (PW.pt (zcF (zJ (zcJ hr.units) (zo zB (by rfl) T.n_len zan (za (pv 1) zd)) zf (nomark _)) (zbQ (zJ zl2 (pv 0) (zM zu (pv 1) (zi7 zfr zf) (fun _ _ => rfl)) (nomark _))))))) (fun _ _ _ _ => (zC zL (pv 1) (zaR (za (pv 0) zd))))) zd))))) (zm (zz (i := 2) zal.nd rfl lo (pv 4)))))) (zm (zy (pv 2))))), (zK (by walk_at "r") (zK (zeR (by walk_at "r") zw (zoO (zK (zpu (zK (by walk_at "r") (zeR (zbC zk) zw (zeX (zk3 zeE zk (zi (za8 (zcD (zi zk zx)) zw (ziz (zni (zah zmR (zcq zey (zi zk zx)) zae)) (zni (zah zgY zk (zah zc0 zk (zpL zq5 zae))))) (zah zbP zk (zfa (zi zk zx)))) zx)))))) (zbn zk zw)))) (zaQ zk))), fun xs S R q => q⟩
theorem zdn: Df P w K mg base "_law_kept_of" ["gap", "one"] 1 (spN ["gap", "one"] zaT) := by
  exact Df.dN dd.a26 zcM 1 rfl fun f cdv A outer s H E hr => ⟨_, _, (zg (zz (i := 2) zcM.nd rfl lo (zo (zgz rfl) (by rfl) T.n_sum zmN (za (zaV (fun _ _ h => h) rfl (zS rfl rfl rfl rfl (N := ["part", "times", "one"]) (caps := [none, none, some 1]) (by show zaS ["gap", "one", "worth"] (zh zbY).names _ _ _=true; decide +kernel)) (za4 (zM zu (pv 0) zf (fun _ _ => rfl))) (fun _ _ _ _ => (zcI (n := 2) rfl (zT (zt (i := 0) (by show List.Nodup (["part", "times", "one"] : List Str); decide) rfl (Or.inl rfl)) (zT (zt (i := 1) (by show List.Nodup (["part", "times", "one"] : List Str); decide) rfl (Or.inl rfl)) zbH)))) (fun _ _ _ _ => zaz) (fun _ _ _ _ => (zC zaJ (pv 1) (zM zu (pv 2) (pv 0) (fun _ _ => rfl))))) zd))) (zm (zy (zea ze6 ze6 (zM zu (pv 0) zf (fun _ _ => rfl)) (pv 2) (zM zu (pv 0) zf (fun _ _ => rfl)))))), (zK (zbn (zcq zj7 (zi (za8 (zbC (zah zc0 zk zae)) (zfy (zaU zw (zaU zw zdE))) zaA (zah zeN zk (zah zc0 zk zk))) zx)) zw) (by walk_at "r")), fun xs S R q => q⟩
theorem zen: Df P w K mg base "_law_at_of" ["one", "parts"] 1 (spN ["one", "parts"] zb4) := by
  exact Df.dN dd.a27 zgi 0 rfl fun f cdv A outer s H E hr => ⟨_, _, (zm (zy (zbO zbo (by rfl) T.n_tuple za9 (za (zaV (fun _ _ h => h) rfl (zS rfl rfl rfl rfl (N := ["part", "one"]) (caps := [none, some 0]) (by show zaS ["one", "parts"] (zh zc3).names _ _ _=true; decide +kernel)) (za4 (pv 1)) (fun _ _ _ _ => (zt (i := 0) (by show List.Nodup (["part", "one"] : List Str); decide) rfl (Or.inl rfl))) (fun _ _ _ _ => zaz) (fun _ _ _ _ => (zM zu (pv 1) (pv 0) (fun _ _ => rfl)))) zd)))), (zaQ (zcq zgc (zi (za8 (zbC zk) zw zaA (zah zc0 zk zk)) zx))), fun xs S R q => q⟩
theorem zeQ: Df P w K mg base "_law_whole" ["found"] 1 (spN ["found"] zby) := by
  exact Df.dN dd.a28 zhe 0 rfl fun f cdv A outer s H E hr => ⟨_, _, (zm (zy (zdS (zo zax (by rfl) T.n_isinstance zE (za (pv 0) (za (za7 rfl T.n_int zjw (v := .ty "int") rfl) zd))) (zfB (zjU (zo zax (by rfl) T.n_isinstance zE (za (pv 0) (za (za7 rfl T.n_bool zhy (v := .ty "bool") rfl) zd)))))))), (by walk_at "r"), fun xs S R q => q⟩
theorem zgp: Df P w K mg base "_law_set" ["drawing", "thing"] 2 (spN ["drawing", "thing"] zbe) := by
  exact Df.dN dd.a29 zjf 0 rfl fun f cdv A outer s H E hr => ⟨_, _, (zg (zaX (PW.pt (zcF (zbk (zV (zo zax (by rfl) T.n_isinstance zE (za (pv 1) (za (za7 rfl T.n_tuple za9 (v := .ty "tuple") rfl) zd))) (fun _ => rfl))) (zbQ (zJ (zcu hr.units) (zo zB (by rfl) T.n_len zan (za (pv 1) zd)) (zo zB (by rfl) T.n_len zan (za (pv 0) zd)) (nomark _))))) (zm (zy zb0)) zN) (zm (zy (zo (zcf rfl) (by rfl) T.n_all zgU (za (zaV (fun _ _ h => h) rfl (zS (L := 0) rfl rfl rfl rfl (N := ["number", "part"]) (caps := [none, none]) (by show zaS ["drawing", "thing"] (zh zem).names _ _ _=true; decide +kernel)) (zf6 rfl T.n_zip (za (pv 1) (za (pv 0) zd))) (fun _ _ _ _ => (zcI (n := 2) rfl (zT (zt (i := 0) (by show List.Nodup (["number", "part"] : List Str); decide) rfl (Or.inl rfl)) (zT (zt (i := 1) (by show List.Nodup (["number", "part"] : List Str); decide) rfl (Or.inl rfl)) zbH)))) (fun _ _ _ _ => zaz) (fun _ _ _ _ => (zdS (zq zeQ hr dz (za (pv 0) zd)) (zfB (zea ze6 ze6 (zM zu (pv 1) zf (fun _ _ => rfl)) (pv 0) (zM zu (pv 1) zf (fun _ _ => rfl))))))) zd))))), (zK (by walk_at "r") (zaQ (zcq zfp (zi (za8 (zfJ (zi zk (zi zk zx))) (zfy (zaU zw (zaU zw zdE))) zaA (zfe (zaK (zi zk zx)) (zej zgY zgY (zah zc0 zk zae) zk (zah zc0 zk zae)))) zx)))), fun xs S R q => q⟩
theorem zc8: Df P w K mg base "_law_witness" ["drawing", "gap", "many", "thing"] 3 (spN ["drawing", "gap", "many", "thing"] zaW) := by
  exact Df.dN dd.a30 zba 3 rfl fun f cdv A outer s H E hr => ⟨_, _, (zg (zz (i := 4) zba.nd rfl lo (zfT (zJ (zcJ hr.units) (pv 2) zf (nomark _)) (zap zd) (zq ze7 hr dz (za (zo zB (by rfl) T.n_len zan (za (pv 0) zd)) (za (zC zco (pv 2) zf) zd))))) (zg (zaX (PW.pt (zcF (zbk (zV (zo zax (by rfl) T.n_isinstance zE (za (pv 3) (za (za7 rfl T.n_list zfN (v := .ty "list") rfl) zd))) (fun _ => rfl))) (zbQ (zJ (zcu hr.units) (zo zB (by rfl) T.n_len zan (za (pv 3) zd)) (zo zB (by rfl) T.n_len zan (za (pv 4) zd)) (nomark _))))) (zm (zy zb0)) zN) (zg (za3 PassesOwn.never rfl (zf6 rfl T.n_zip (za (pv 3) (za (pv 4) zd))) (zcI (n := 2) rfl (zT (zt (i := 5) zba.nd rfl (Or.inl rfl)) (zT (zt (i := 6) zba.nd rfl (Or.inl rfl)) zbH))) (zg (zaX (PW.pt (zcF (zbk (zV (zo zax (by rfl) T.n_isinstance zE (za (pv 5) (za (za7 rfl T.n_tuple za9 (v := .ty "tuple") rfl) zd))) (fun _ => rfl))) (zcF (zJ (zcu hr.units) (zo zB (by rfl) T.n_len zan (za (pv 5) zd)) zf (nomark _)) (zcF (zbk (zV (zo zax (by rfl) T.n_isinstance zE (za (zM zu (pv 5) zf (fun _ _ => rfl)) (za (za7 rfl T.n_tuple za9 (v := .ty "tuple") rfl) zd))) (fun _ => rfl))) (zbQ (zJ (zcu hr.units) (zo zB (by rfl) T.n_len zan (za (zM zu (pv 5) zf (fun _ _ => rfl)) zd)) (zo zB (by rfl) T.n_len zan (za (pv 6) zd)) (nomark _))))))) (zm (zy zb0)) zN) (zg (zaX (PW.pt (zcF (zbk (zV (zo (zcf rfl) (by rfl) T.n_all zgU (za (zaV (fun _ _ h => h) rfl (zS (L := 0) rfl rfl rfl rfl (N := ["part"]) (caps := [none]) (by show zaS ["drawing", "gap", "many", "thing", "due", "row", "parts"] (zh zbV).names _ _ _=true; decide +kernel)) (za4 (zM zu (pv 5) zf (fun _ _ => rfl))) (fun _ _ _ _ => (zt (i := 0) (by show List.Nodup (["part"] : List Str); decide) rfl (Or.inl rfl))) (fun _ _ _ _ => zaz) (fun _ _ _ _ => (zq zeQ hr dz (za (pv 0) zd)))) zd)) (fun _ => rfl))) (zbQ (zJ (zcu hr.units) (zM zu (pv 5) zf (fun _ _ => rfl)) (pv 6) (nomark _))))) (zm (zy zb0)) zN) (zg (zaX (PW.pt (zcF (zbk (zV (zq zgp hr dz (za (pv 0) (za (zM zu (pv 5) zf (fun _ _ => rfl)) zd))) (fun _ => rfl))) (zbQ (zbk (zV (zq zgp hr dz (za (pv 0) (za (zM zu (pv 5) zf (fun _ _ => rfl)) zd))) (fun _ => rfl)))))) (zm (zy zb0)) zN) (zg (zaX (PW.pt (zcF (zbk (zV (zq zdn hr dz (za (pv 1) (za (zM zu (pv 5) zf (fun _ _ => rfl)) zd))) (fun _ => rfl))) (zbQ (zV (zq zdn hr dz (za (pv 1) (za (zM zu (pv 5) zf (fun _ _ => rfl)) zd))) (fun _ => rfl))))) (zm (zy zb0)) zN) (zm (zaX (zJ (zcu hr.units) (zq zen hr dz (za (zM zu (pv 5) zf (fun _ _ => rfl)) (za (pv 6) zd))) (zq zen hr dz (za (zM zu (pv 5) zf (fun _ _ => rfl)) (za (pv 6) zd))) (nomark _)) (zm (zy zb0)) zN))))))) (zm (zy zb0))))), (zK (by walk_at "r") (zK (by walk_at "r") (zK (zeR (by walk_at "r") (by walk_at "r") (zK (by walk_at "r") (zK (zgN (ziz (zgF (zg0 (zcq zfp (zi (za8 (zbC (zah zc0 zk zae)) zw zaA (zaK (zi zk zx))) zx)))) (by walk_at "r")) (zaQ zhH) zc2) (by walk_at "r")))) (zaQ zhH)))), fun xs S R q => q⟩
theorem zfs: Df P w K mg base "is_whole" ["thing"] 1 (spN ["thing"] zbM) := by
  exact Df.dN dd.a31 zhE 0 rfl fun f cdv A outer s H E hr => ⟨_, _, (zm (zy (zdS (zo zax (by rfl) T.n_isinstance zE (za (pv 0) (za (za7 rfl T.n_int zjw (v := .ty "int") rfl) zd))) (zfB (zjU (zo zax (by rfl) T.n_isinstance zE (za (pv 0) (za (za7 rfl T.n_bool zhy (v := .ty "bool") rfl) zd)))))))), (by walk_at "r"), fun xs S R q => q⟩
theorem zjT: Df P w K mg base "is_same" ["thing", "numbers"] 2 (spN ["thing", "numbers"] zdi) := by
  exact Df.dN dd.a32 zi5 0 rfl fun f cdv A outer s H E hr => ⟨_, _, (zm (zy (zdS (zo zax (by rfl) T.n_isinstance zE (za (pv 0) (za (za7 rfl T.n_tuple za9 (v := .ty "tuple") rfl) zd))) (zdS (zo (zcf rfl) (by rfl) T.n_all zgU (za (zaV (fun _ _ h => h) rfl (zS (L := 0) rfl rfl rfl rfl (N := ["number"]) (caps := [none]) (by show zaS ["thing", "numbers"] (zh zeH).names _ _ _=true; decide +kernel)) (za4 (pv 0)) (fun _ _ _ _ => (zt (i := 0) (by show List.Nodup (["number"] : List Str); decide) rfl (Or.inl rfl))) (fun _ _ _ _ => zaz) (fun _ _ _ _ => (zq zfs hr dz (za (pv 0) zd)))) zd)) (zfB (zhC (zcJ hr.units) (pv 0) (pv 1) (nomark _))))))), (zaQ (zfe (by walk_at "r") (zfe (zcq zfp (zi (za8 (zbC zk) zw zaA (zaK (zi zk zx))) zx)) (by walk_at "r")))), fun xs S R q => q⟩
theorem zhT: Df P w K mg base "is_set" ["drawing", "thing"] 2 (spN ["drawing", "thing"] zdp) := by
  exact Df.dN dd.a33 zjJ 0 rfl fun f cdv A outer s H E hr => ⟨_, _, (zg (zaX (PW.pt (zcF (zbk (zV (zo zax (by rfl) T.n_isinstance zE (za (pv 1) (za (za7 rfl T.n_tuple za9 (v := .ty "tuple") rfl) zd))) (fun _ => rfl))) (zbQ (zJ (zcu hr.units) (zo zB (by rfl) T.n_len zan (za (pv 1) zd)) (zo zB (by rfl) T.n_len zan (za (pv 0) zd)) (nomark _))))) (zm (zy zb0)) zN) (zm (zy (zo (zcf rfl) (by rfl) T.n_all zgU (za (zaV (fun _ _ h => h) rfl (zS (L := 0) rfl rfl rfl rfl (N := ["number", "part"]) (caps := [none, none]) (by show zaS ["drawing", "thing"] (zh zf2).names _ _ _=true; decide +kernel)) (zf6 rfl T.n_zip (za (pv 1) (za (pv 0) zd))) (fun _ _ _ _ => (zcI (n := 2) rfl (zT (zt (i := 0) (by show List.Nodup (["number", "part"] : List Str); decide) rfl (Or.inl rfl)) (zT (zt (i := 1) (by show List.Nodup (["number", "part"] : List Str); decide) rfl (Or.inl rfl)) zbH)))) (fun _ _ _ _ => zaz) (fun _ _ _ _ => (zdS (zq zfs hr dz (za (pv 0) zd)) (zfB (zea ze6 ze6 (zM zu (pv 1) zf (fun _ _ => rfl)) (pv 0) (zM zu (pv 1) zf (fun _ _ => rfl))))))) zd))))), (zK (by walk_at "r") (zaQ (zcq zfp (zi (za8 (zfJ (zi zk (zi zk zx))) (zfy (zaU zw (zaU zw zdE))) zaA (zfe (zaK (zi zk zx)) (zej zgY zgY (zah zc0 zk zae) zk (zah zc0 zk zae)))) zx)))), fun xs S R q => q⟩
theorem zd8: Df P w K mg base "is_witness_row" ["drawing", "gap", "parts", "row"] 3 (spN ["drawing", "gap", "parts", "row"] zaG) := by
  exact Df.dN dd.a34 zdz 0 rfl fun f cdv A outer s H E hr => ⟨_, _, (zg (zaX (PW.pt (zcF (zbk (zV (zo zax (by rfl) T.n_isinstance zE (za (pv 3) (za (za7 rfl T.n_tuple za9 (v := .ty "tuple") rfl) zd))) (fun _ => rfl))) (zcF (zJ (zcu hr.units) (zo zB (by rfl) T.n_len zan (za (pv 3) zd)) zf (nomark _)) (zbQ (zbk (zV (zq zjT hr dz (za (zM zu (pv 3) zf (fun _ _ => rfl)) (za (pv 2) zd))) (fun _ => rfl))))))) (zm (zy zb0)) zN) (zg (zaX (PW.pt (zcF (zbk (zV (zq zhT hr dz (za (pv 0) (za (zM zu (pv 3) zf (fun _ _ => rfl)) zd))) (fun _ => rfl))) (zbQ (zbk (zV (zq zhT hr dz (za (pv 0) (za (zM zu (pv 3) zf (fun _ _ => rfl)) zd))) (fun _ => rfl)))))) (zm (zy zb0)) zN) (zm (zy (zdS (zhC (zcJ hr.units) (zq zce hr dz (za (zM zu (pv 3) zf (fun _ _ => rfl)) (za (pv 2) zd))) (zq zce hr dz (za (zM zu (pv 3) zf (fun _ _ => rfl)) (za (pv 2) zd))) (nomark _)) (zdS (zq zhB hr dz (za (pv 1) (za (zM zu (pv 3) zf (fun _ _ => rfl)) zd))) (zfB (zjU (zq zhB hr dz (za (pv 1) (za (zM zu (pv 3) zf (fun _ _ => rfl)) zd))))))))))), (by walk_at "r"), fun xs S R q => q⟩
theorem zcj: Df P w K mg base "witness_holds" ["drawing", "gap", "many", "thing"] 4 (spN ["drawing", "gap", "many", "thing"] zau) := by
  exact Df.dN dd.a35 zca 1 rfl fun f cdv A outer s H E hr => ⟨_, _, (zg (zaX (PW.pt (zcF (zbk (zV (zo zax (by rfl) T.n_isinstance zE (za (pv 3) (za (za7 rfl T.n_list zfN (v := .ty "list") rfl) zd))) (fun _ => rfl))) (zbQ (zJ zl2 (pv 2) (zC zL (zo zB (by rfl) T.n_len zan (za (pv 0) zd)) zf) (nomark _))))) (zm (zy zb0)) zN) (zg (zz (i := 4) zca.nd rfl lo (zq zcm hr dz (za (pv 0) (za (pv 2) zd)))) (zg (zaX (zJ (zcu hr.units) (zo zB (by rfl) T.n_len zan (za (pv 3) zd)) (zo zB (by rfl) T.n_len zan (za (pv 4) zd)) (nomark _)) (zm (zy zb0)) zN) (zm (zy (zo (zcf rfl) (by rfl) T.n_all zgU (za (zaV (fun _ _ h => h) rfl (zS rfl rfl rfl rfl (N := ["parts", "row", "drawing", "gap"]) (caps := [none, none, some 0, some 1]) (by show zaS ["drawing", "gap", "many", "thing", "wanted"] (zh zbw).names _ _ _=true; decide +kernel)) (zf6 rfl T.n_zip (za (pv 4) (za (pv 3) zd))) (fun _ _ _ _ => (zcI (n := 2) rfl (zT (zt (i := 0) (by show List.Nodup (["parts", "row", "drawing", "gap"] : List Str); decide) rfl (Or.inl rfl)) (zT (zt (i := 1) (by show List.Nodup (["parts", "row", "drawing", "gap"] : List Str); decide) rfl (Or.inl rfl)) zbH)))) (fun _ _ _ _ => zaz) (fun _ _ _ _ => (zq zd8 hr dz (za (pv 2) (za (pv 3) (za (pv 0) (za (pv 1) zd))))))) zd))))))), (zK (by walk_at "r") (zK (by walk_at "r") (zK (by walk_at "r") (zaQ (zcq zfp (zi (za8 (zfJ (zi zk (zi zk zx))) (zfy (zaU zw (zaU zw zdE))) zaA (zaK (zi zk (zi zk (zi zk (zi zk zx)))))) zx)))))), fun xs S R q => q⟩
theorem ok_law{f : Addr}{fd : FuncData}(F : Fun K "law" "law" s_law f fd): FnOk P w K mg base CX0 8 f fd ["script"] (sp1 (zqX K)) := by
  refine F.ok1 zcL (fun v => [some v, none, none, none, none, none, none, none, none, none]) (fun _ => rfl) fun cdv A outer s H v Q E hr h => ?_;obtain⟨a, ns, rfl, hS, hlen, q⟩ := h;refine⟨_, (zg (za3 PassesOwn.never rfl (znC (zC zjq (zap (za (zoZ zf7 hr dz (pv 0) zf) zd)) (zed zkH (pv 0) (zeM zf) (zeM zf)))) (zt (i := 1) zcL.nd rfl (Or.inl rfl)) (zg (zz (i := 2) zcL.nd rfl lo (zq zgr hr dz (za (pv 1) zd))) (zg (zz (i := 3) zcL.nd rfl lo (zq zjH hr dz (za (pv 2) (za zf zd)))) (zg (zz (i := 4) zcL.nd rfl lo (zq zg7 hr dz (za (pv 2) (za (pv 3) zd)))) (zg (zz (i := 5) zcL.nd rfl lo (zo zB (by rfl) T.n_len zan (za (zq zib hr dz (za (pv 3) (za (pv 4) zd))) zd))) (zg (zz (i := 6) zcL.nd rfl lo (zq zdY hr dz (za (pv 3) (za (pv 4) zd)))) (zg (zaX (PW.pt (zcF (zbk (zV (zq zc8 hr dz (za (pv 3) (za (pv 4) (za (pv 5) (za (pv 6) zd))))) (fun _ => rfl))) (zbQ (zJ zn7 (zq zcj hr dz (za (pv 3) (za (pv 4) (za (pv 5) (za (pv 6) zd))))) zb0 (nomark _))))) (zm (zy zb0)) zN) (zg (za3 PassesOwn.never rfl (za4 (zap (za (zC zco (pv 5) zf) (za (zC zL (pv 5) zf) zd)))) (zt (i := 7) zcL.nd rfl (Or.inl rfl)) (zm (zaX (zlU ze6 ze6 zf (pv 7) (zC zL (zo zB (by rfl) T.n_len zan (za (pv 3) zd)) zf)) (zg (zz (i := 8) zcL.nd rfl lo (zq zcj hr dz (za (pv 3) (za (pv 4) (za (pv 7) (za (pv 6) zd)))))) (zm (zaX (PW.pt (zcF (zbk (zV (zo zax (by rfl) T.n_isinstance zE (za (pv 8) (za (za7 rfl T.n_bool zhy (v := .ty "bool") rfl) zd))) (fun _ => rfl))) (zbQ (zJ (zcu hr.units) (pv 8) (zq zc8 hr dz (za (pv 3) (za (pv 4) (za (pv 7) (za (pv 6) zd))))) (nomark _))))) (zm (zy zb0)) zN))) zN))) (zg (zz (i := 9) zcL.nd rfl lo (zbO zhh (by rfl) T.n_list zfN (za (pv 6) zd))) (zg (zb1 (zhQ PySem.F.plainAttrs_list PySem.F.slot_list_append PySem.F.type_list_append zch (pv 6) (za (zaR zd) zd))) (zm (zaX (zJ (zcu hr.units) (zq zdY hr dz (za (pv 3) (za (pv 4) zd))) (pv 9) (nomark _)) (zm (zy zb0)) zN)))))))))))) (zm (zy zb0))), ?_⟩;exact zn3 (m := 9) (db := zoh) (zK (zbn (zaK (zi zk zx)) zw) (zK (zbn (zdc (i := 0) (zi zk (zi zae zx))) zw) (zK (zbn (zdc (i := 0) (zi zk (zi zk zx))) zw) (zK (zbn (zcq zey (zi (zaK (zi zk (zi zk zx))) zx)) zw) (zK (zbn (zaK (zi zk (zi zk zx))) zw) (zK (zgN (ziz (zgF (zg0 (zdd (zi zk (zi zk (zi zk (zi zk zx))))))) (zni (zah zkr (zdd (zi zk (zi zk (zi zk (zi zk zx))))) zhH))) (zaQ zhH) zc2) (zK (zeR (zbC (zml (zi (zah znA zk zae) (zi (zah zbP zk zae) zx)))) zw (zgN (zni (zej zgY zgY zae zk (zah zbP (zcq zey (zi zk zx)) zae))) (zK (zbn (zdd (zi zk (zi zk (zi zk (zi zk zx))))) zw) (zgN (ziz (zgF (zg0 (zcq zmF (zi zk (zi zrr zx))))) (zni (zah zjZ zk (zdd (zi zk (zi zk (zi zk (zi zk zx)))))))) (zaQ zhH) zc2)) zc2)) (zK (zbn (zcq zh1 (zi zk zx)) zw) (zK (zeX (zk3 zg6 zk (zi (zfa zx) zx))) (zgN (zni (zah zjZ (zaK (zi zk (zi zk zx))) zk)) (zaQ zhH) zc2)))))))))) rfl rfl hS hlen (fun n => zhp a n) dz fun _ H2 _ => q H2
end
end My
theorem zl6: L2.tabsG=[] := rfl
namespace PySem.W.Fast
def tw8964462443280700393:Unit:=()
def tw17914821574067111922:Unit:=()
def tw16314540513520977233:Unit:=()
def tw4816777135102584119:Unit:=()
def tw1069472967600686232:Unit:=()
def tw12187358281759530841:Unit:=()
def tw7095516364287616583:Unit:=()
def tw5445047950305355102:Unit:=()
def tw12040310482116340032:Unit:=()
def tw8133830869082941047:Unit:=()
def tw14697079992982559614:Unit:=()
def tw9654825759512106165:Unit:=()
def tw5721167571382528254:Unit:=()
def tw589278033722823012:Unit:=()
def tw6797309320874879346:Unit:=()
def tw14797483808934366435:Unit:=()
def tw2629419380935142664:Unit:=()
def tw6100651689146440389:Unit:=()
def tw15409357560517284226:Unit:=()
def tw12606639222964276169:Unit:=()
def tw11413754774435115346:Unit:=()
def tw9513549762616039522:Unit:=()
def tw16995388653864953565:Unit:=()
def tw9471196043300854686:Unit:=()
def tw12162011374282187458:Unit:=()
def tw3147052604949779477:Unit:=()
def tw17107165137033237921:Unit:=()
def tw6234055790597857970:Unit:=()
def tw1203877615105720641:Unit:=()
def tw2931497415306678453:Unit:=()
def tw18274976136013986725:Unit:=()
def tw16916883630279920952:Unit:=()
def tw10114338221379266373:Unit:=()
def tw17059516653556353155:Unit:=()
def tw1329051274899865126:Unit:=()
def tw4785262357542777335:Unit:=()
def tw3197184835936524240:Unit:=()
def tw17985384614677414920:Unit:=()
def tw14184139915900696613:Unit:=()
def tw3477077226533447856:Unit:=()
def tw3210317397244555658:Unit:=()
def tw12440380460863500847:Unit:=()
def tw8626556062452872080:Unit:=()
def tw9480596355466956289:Unit:=()
def tw4110153973776186385:Unit:=()
def tw4910257386886497853:Unit:=()
def tw13812148780243129066:Unit:=()
def tw13593330436673276486:Unit:=()
def tw742113566140804690:Unit:=()
def tw9539937541350222785:Unit:=()
def tw6122901203323428123:Unit:=()
def tw9609593767698782912:Unit:=()
def tw8507777550541982063:Unit:=()
def tw18407305972519094480:Unit:=()
def tw12198207847972917804:Unit:=()
def tw665446875572336771:Unit:=()
def tw7221209433452985418:Unit:=()
def tw8566572969613134426:Unit:=()
def tw7577944795367751457:Unit:=()
def tw12257946867315594332:Unit:=()
def tw9399686360824759318:Unit:=()
def tw8566993774226649887:Unit:=()
def tw412464182923580761:Unit:=()
def tw9939401932852346234:Unit:=()
def tw16385399018161268780:Unit:=()
def tw1514319975721233287:Unit:=()
def tw663276440295555246:Unit:=()
def tw9564429396638316829:Unit:=()
def tw9516067210930257317:Unit:=()
def tw3374553000394672990:Unit:=()
def tw8126401637430097358:Unit:=()
def tw9076793349091457051:Unit:=()
def tw13728892368668307591:Unit:=()
def tw13806831803313329691:Unit:=()
def tw6532779218829738618:Unit:=()
def tw7938908942740892226:Unit:=()
def tw18440129046887442622:Unit:=()
def tw14341845369573948177:Unit:=()
def tw13126151449752251473:Unit:=()
def tw5929643520632448060:Unit:=()
def tw4240179062886485860:Unit:=()
def tw10953207704134768206:Unit:=()
def tw8511771658739301799:Unit:=()
def tw4545353001169559849:Unit:=()
def tw1646462580087645788:Unit:=()
def tw4832576977873941735:Unit:=()
def tw9026906952665668419:Unit:=()
def tw3096632460961973106:Unit:=()
def tw17857968330424663390:Unit:=()
def tw15436167485909087796:Unit:=()
def tw916481329220466974:Unit:=()
def tw17981227545058868077:Unit:=()
def tw16862676035847489500:Unit:=()
def tw8075416848478229721:Unit:=()
def tw586131976600226855:Unit:=()
def tw5144630104849335183:Unit:=()
def tw18140750122025897492:Unit:=()
def tw1940255099630238672:Unit:=()
def tw258735470056560369:Unit:=()
def tw5657815992955534248:Unit:=()
def tw7084048481361152608:Unit:=()
def tw12824462926070019076:Unit:=()
def tw1405716658974772793:Unit:=()
def tw4081841686519598476:Unit:=()
def tw17042888165242194902:Unit:=()
def tw2298661827736970399:Unit:=()
def tw6804306277326993606:Unit:=()
def tw6884579423626894071:Unit:=()
def tw467119173206605788:Unit:=()
def tw17850764576285129431:Unit:=()
def tw15923688788845193822:Unit:=()
def tw12395517750748240520:Unit:=()
end PySem.W.Fast
open PySem PySem.W PyProof.Rows L2
set_option maxRecDepth 100000 in
set_option maxHeartbeats 0 in
theorem PySem.Challenge.cw_gaugewright_k55_witnesses_holds : PySem.Challenge.rw_gaugewright_k55_witnesses.Holds := by
  w_on; o_law; k_head; (case hw => w_witness2)
  k_fill
  refine L2.walk_law (l := PySem.Challenge.rw_gaugewright_k55_witnesses) (k := 8) rfl rfl ⟨rfl, by decide, by decide⟩ (fun w h Y => W.kIn_of Y) (fun w h Y => L2.TabsOk.none zl6) ?F
  case F =>
    intro w mg fa h KX G hmg;have d_law : Dd (L2.KOf KX) mg "law" My.s_law ["script"] := by
      dsimp only [L2.KOf];refine' Dd.mk' KX G ?a ?l ?c ?k ?b
      (case a => k_is); (case l => k_is); (case c => k_is); (case k => k_is); (case b => intro _ _ _ _ _ _ us hl; obtain⟨_, rfl⟩ := L2.len1 hl; rfl)
    have g12 : ∃ t, mg "MOST_SETS" = some (.int 300 t) := by
      apply Exists.intro;apply W.mg_of KX G
      k_is
    have T : My.Txt mg := by
      refine' ⟨W.mg_none_of KX G ?z0, W.mg_none_of KX G ?z1, W.mg_none_of KX G ?z2, W.mg_none_of KX G ?z3, W.mg_none_of KX G ?z4, W.mg_none_of KX G ?z5, W.mg_none_of KX G ?z6, W.mg_none_of KX G ?z7, W.mg_none_of KX G ?z8, W.mg_none_of KX G ?z9, W.mg_none_of KX G ?z10, W.mg_none_of KX G ?z11, g12⟩
      (case z0 => k_is); (case z1 => k_is); (case z2 => k_is); (case z3 => k_is); (case z4 => k_is); (case z5 => k_is); (case z6 => k_is); (case z7 => k_is); (case z8 => k_is); (case z9 => k_is); (case z10 => k_is); (case z11 => k_is)
    have dd : My.Dds (L2.KOf KX) mg := by constructor <;> (dsimp only [L2.KOf]; refine' Dd.mk' KX G ?a ?l ?c ?k ?b; (case a => k_is); (case l => k_is); (case c => k_is); (case k => k_is); (case b => (intro _ _ _ _ _ _ us hl; first | (obtain⟨_, rfl⟩ := L2.len1 hl; rfl) | (obtain⟨_, _, rfl⟩ := L2.len2 hl; rfl) | (obtain⟨_, _, _, _, rfl⟩ := L2.len4 hl; rfl))))
    obtain⟨f, fd, F, hm, _⟩ := d_law.ex;have e0 := hmg.symm.trans hm;cases e0;exact⟨fd, F.bind1 fun _ _ _ _ _ _ _ => rfl, fun base _ _ => My.ok_law T dd F⟩
#print axioms PySem.Challenge.cw_gaugewright_k55_witnesses_holds
end