import PyProof.Rows.All
import Wide.All
import OpenK.AllK
import Wide.FinOn
import Lean
import PyProof.EqAt
import PyProof.EqKinds
import PyProof.TupleCall
import PySem.Challenge.RW_gaugewright_k14_next_worths
set_option Elab.async false
set_option linter.all false
set_option maxRecDepth 100000
/-! THE HAND LAYER, for ints, bools, texts, own classes, LISTS and tuples (index, slices, in, append, pop ..), calls, loops. Paste it whole ahead of your own text; what your proof does not reach may be deleted. -/
namespace L2
open PySem PySem.Spec PyProof.Rows

/-- a key: an int or a str -/
abbrev Key := Sum Int Str
def keyIs : Key → Value → Bool
  | .inl k, v => Value.isInt k v
  | .inr x, v => Value.isStrOf x v
def keyH (w : World) : Key → Int
  | .inl k => hashInt k
  | .inr x => hashStr w x
theorem keyIs_shape : ∀ {k : Key} {v : Value}, keyIs k v = true → (∃ i t, k = Sum.inl i ∧ v = Value.int i t) ∨ (∃ x t, k = Sum.inr x ∧ v = Value.str x t)
  | .inl i, v, h => by
    obtain ⟨t, e⟩ := Value.isInt_shape (k := i) (v := v) h
    exact .inl ⟨i, t, rfl, e⟩
  | .inr x, v, h => by
    obtain ⟨t, e⟩ := Value.isStrOf_shape (x := x) (v := v) h
    exact .inr ⟨x, t, rfl, e⟩
theorem keyIs_int (i : Int) (t : Tok) : keyIs (.inl i) (.int i t) = true := by simp [keyIs, Value.isInt]
theorem keyIs_str (x : Str) (t : Tok) : keyIs (.inr x) (.str x t) = true := by simp [keyIs, Value.isStrOf]
theorem key_ll (a b : Int) : decide ((Sum.inl a : Key) = Sum.inl b) = (a == b) := by
  by_cases e : a = b
  · subst e; simp
  · have h : ¬ (Sum.inl a : Key) = Sum.inl b := fun q => e (Sum.inl.inj q)
    rw [decide_eq_false h]
    exact (beq_eq_false_iff_ne.mpr e).symm
theorem key_rr (a b : Str) : decide ((Sum.inr a : Key) = Sum.inr b) = decide (a = b) := by
  by_cases e : a = b
  · subst e; simp
  · have h : ¬ (Sum.inr a : Key) = Sum.inr b := fun q => e (Sum.inr.inj q)
    rw [decide_eq_false h, decide_eq_false e]
theorem key_lr (a : Int) (b : Str) : decide ((Sum.inl a : Key) = Sum.inr b) = false := decide_eq_false (fun q => nomatch q)
theorem key_rl (a : Str) (b : Int) : decide ((Sum.inr a : Key) = Sum.inl b) = false := decide_eq_false (fun q => nomatch q)

def mixKind (prog : Program) (w : World) : PySem.KeyKind prog w Key where
  is := keyIs
  hash := keyH w
  inj := fun v a b ha hb => by
    rcases keyIs_shape ha with ⟨i, t, rfl, rfl⟩ | ⟨x, t, rfl, rfl⟩
    · rcases keyIs_shape hb with ⟨j, u, rfl, e⟩ | ⟨y, u, rfl, e⟩
      · injection e with e1 _; rw [e1]
      · exact nomatch e
    · rcases keyIs_shape hb with ⟨j, u, rfl, e⟩ | ⟨y, u, rfl, e⟩
      · exact nomatch e
      · injection e with e1 _; rw [e1]
  byValue := fun k v h => by
    rcases keyIs_shape h with ⟨i, t, rfl, rfl⟩ | ⟨x, t, rfl, rfl⟩ <;> rfl
  pyHash := fun hv h => by
    rcases keyIs_shape hv with ⟨i, t, rfl, rfl⟩ | ⟨x, t, rfl, rfl⟩
    · exact wpAny_pyHash_int h
    · exact wpAny_pyHash_str h
  eqBool := fun hu hv h => by
    rcases keyIs_shape hu with ⟨i, t, rfl, rfl⟩ | ⟨x, t, rfl, rfl⟩
    · rcases keyIs_shape hv with ⟨j, u, rfl, rfl⟩ | ⟨y, u, rfl, rfl⟩
      · rw [key_ll] at h; exact wpAny_eqBool_int h
      · rw [key_lr] at h; exact SeqAt.EqAt.int_str i t y u _ _ _ _ h
    · rcases keyIs_shape hv with ⟨j, u, rfl, rfl⟩ | ⟨y, u, rfl, rfl⟩
      · rw [key_rl] at h; exact SeqAt.EqAt.str_int x t j u _ _ _ _ h
      · rw [key_rr] at h; exact wpAny_eqBool_str h
  «strs» := fun k x t v h => by
    rcases keyIs_shape h with ⟨i, u, rfl, e⟩ | ⟨y, u, rfl, e⟩
    · exact nomatch e
    · injection e with e1 _
      subst e1
      cases v <;> rfl

theorem mixKind_is (prog : Program) (w : World) (k : Key) (v : Value) : (mixKind prog w).is k v = keyIs k v := rfl
theorem mixKind_int (prog : Program) (w : World) (i : Int) (t : Tok) : (mixKind prog w).is (.inl i) (.int i t) = true := keyIs_int i t
theorem mixKind_str (prog : Program) (w : World) (x : Str) (t : Tok) : (mixKind prog w).is (.inr x) (.str x t) = true := keyIs_str x t
end L2

namespace L2
open PySem PySem.Spec PyProof.Rows

/-- a value, without the heap -/
inductive V where
  | non | bl (b : Bool) | int (i : Int) | str (x : Str) | byt (b : Array UInt8) | flt (b : UInt64) | ref (a : Addr) | ty (n : String)
  deriving DecidableEq

def RelV : V → Value → Prop
  | .non, u => u = Value.none
  | .bl b, u => u = Value.bool b
  | .int i, u => ∃ t, u = Value.int i t
  | .str x, u => ∃ t, u = Value.str x t
  | .byt b, u => ∃ t, u = Value.bytes b t
  | .flt b, u => ∃ t, u = Value.float b t
  | .ref a, u => u = Value.ref a
  | .ty n, u => u = Value.type n

abbrev Vals : List V → List Value → Prop := Paired RelV
theorem Vals.length {xs : List V} {us : List Value} (r : Vals xs us) : xs.length = us.length := Paired.length r
theorem Vals.get : ∀ {xs : List V} {us : List Value} {i : Nat} {x : V}, Vals xs us → xs[i]? = some x → ∃ u, us[i]? = some u ∧ RelV x u
  | _, _, _, _, .nil, e => by simp at e
  | _, _, 0, _, .cons r _, e => by simp at e; subst e; exact ⟨_, rfl, r⟩
  | _, _, i + 1, x, .cons _ t, e => by
    obtain ⟨u, h1, h2⟩ := Vals.get (i := i) (x := x) t (by simpa using e)
    exact ⟨u, by simpa using h1, h2⟩
theorem Vals.set {x : V} {u : Value} (r : RelV x u) : ∀ {xs : List V} {us : List Value} (i : Nat), Vals xs us → Vals (xs.set i x) (us.set i u)
  | _, _, _, .nil => .nil
  | _, _, 0, .cons _ t => .cons r t
  | _, _, i + 1, .cons q t => .cons q (Vals.set r i t)
theorem Vals.append : ∀ {xs ys : List V} {us ws : List Value}, Vals xs us → Vals ys ws → Vals (xs ++ ys) (us ++ ws)
  | _, _, _, _, .nil, s => s
  | _, _, _, _, .cons r t, s => .cons r (Vals.append t s)
theorem Vals.take : ∀ {xs : List V} {us : List Value} (n : Nat), Vals xs us → Vals (xs.take n) (us.take n)
  | _, _, 0, _ => .nil
  | _, _, _ + 1, .nil => .nil
  | _, _, n + 1, .cons r t => .cons r (Vals.take n t)
theorem Vals.drop : ∀ {xs : List V} {us : List Value} (n : Nat), Vals xs us → Vals (xs.drop n) (us.drop n)
  | _, _, 0, r => r
  | _, _, _ + 1, .nil => .nil
  | _, _, n + 1, .cons _ t => Vals.drop n t
theorem Vals.none_of : ∀ {xs : List V} {us : List Value} {i : Nat}, Vals xs us → xs[i]? = none → us[i]? = none := fun {xs us i} r e => by
  have h1 := r.length
  have h2 : xs.length ≤ i := List.getElem?_eq_none_iff.mp e
  exact List.getElem?_eq_none_iff.mpr (by omega)

def RelO : Option V → Option Value → Prop
  | some v, some u => RelV v u
  | none, none => True
  | _, _ => False
def KV {κ : Type} : List (κ × V) → List (κ × Value) → Prop := Paired fun (p : κ × V) (q : κ × Value) => p.1 = q.1 ∧ RelV p.2 q.2

/-- a key of a dict (00_mix): an int or a text -/
def kV : Key → V
  | .inl i => .int i
  | .inr x => .str x

/-- what stands at a tracked address -/
inductive HO where
  /-- a list -/
  | lst (xs : List V)
  /-- a tuple (never changes) -/
  | tup (xs : List V)
  /-- a dict whose keys are ints and texts; one whose keys are tuples of ints and texts (the empty one is both) -/
  | dK (kvs : List (Key × V)) | dT (kvs : List (List Key × V))
  /-- a set of ints: its members, its size -/
  | set (S : Int → Bool) (n : Nat)
  /-- an instance of the class at C, its dict at dx, its attributes -/
  | ins (C dx : Addr) (fs : List (Str × V))
  /-- the dict of the instance at x -/
  | own (x : Addr)
  /-- the dict of an exception -/
  | xd (fs : List (Str × V))
  /-- a bound method, f of x -/
  | met (f x : Addr)
  /-- a range object lo, lo + 1, .. below hi -/
  | rng (lo hi : Int)
  /-- a thing that is known to the object (the script; a dict while a loop walks it): read, never written while it is so -/
  | frz (o : Obj) (u : HO)
  /-- a code object's table -/
  | tbl (ps : Array Value)
  /-- any other thing, by what is true of its one object (a def of one's own: SetO a S n := HO.ext fun h => ..) -/
  | ext (φ : Heap → Prop)

abbrev Hp := Addr → Option HO
def upd (H : Hp) (a : Addr) (o : HO) : Hp := fun b => if b = a then some o else H b
theorem upd_same {H : Hp} {a : Addr} {o : HO} : upd H a o a = some o := by unfold upd; rw [if_pos rfl]
theorem upd_ne {H : Hp} {a b : Addr} {o : HO} (h : b ≠ a) : upd H a o b = H b := by unfold upd; rw [if_neg h]
theorem upd_upd {H : Hp} {a : Addr} {o u : HO} : upd (upd H a o) a u = upd H a u := by
  funext b; unfold upd; split <;> rfl
/-- two objects of different content stand apart -/
theorem ne_of {H : Hp} {a b : Addr} {o u : HO} (h : H a = some o) (h' : H b = some u) (d : o ≠ u) : a ≠ b := by
  intro e; subst e; rw [h] at h'; exact d (Option.some.inj h')
theorem ne_of_none {H : Hp} {a b : Addr} {o : HO} (h : H a = some o) (h' : H b = none) : a ≠ b := by
  intro e; subst e; rw [h] at h'; cases h'

section
variable (P : Program) (w : World)
def ObjOk (H : Hp) (h : Heap) (a : Addr) : HO → Prop
  | .lst xs => xs.length ≤ sizeLine ∧ ∃ (its : List Value) (n : Nat), Vals xs its ∧ h.get? a = some { cls := .type "list", data := .seq its.toArray n }
  | .tup xs => xs.length ≤ sizeLine ∧ ∃ its : List Value, Vals xs its ∧ IsTup h a its.toArray
  | .dK kvs => kvs.length ≤ sizeLine ∧ (a == sysModules) = false ∧ ∃ vs, KV kvs vs ∧ h.DictOf (mixKind P w) a vs
  | .dT kvs => kvs.length ≤ sizeLine ∧ (a == sysModules) = false ∧ ∃ xs : List (List Key × Addr × Value),
      Paired (fun (p : List Key × V) (q : List Key × Addr × Value) => p.1 = q.1 ∧ H q.2.1 = some (.tup (p.1.map kV)) ∧ RelV p.2 q.2.2) kvs xs ∧
      ∃ o es ep, h.get? a = some o ∧ o.ExactDict ∧ o.data = .dict es ep ∧ es.toList = xs.map (entryOfKey (tupleKind (mixKind P w))) ∧ (xs.map (·.1)).Nodup
  | .set S n => h.SetOf (intKind P w) a S n
  | .ins C dx fs => H dx = some (.own a) ∧ fs.length ≤ 1000 ∧ dx ≠ a ∧ h.get? a = some (PySem.W.instObj C dx) ∧
      ∃ mA, h.Ns1 dx mA ∧ (∀ f, RelO (fs.lookup f) (mA f)) ∧ PySem.Within mA (fs.map (·.1))
  | .own _ => ∃ o, h.get? a = some o
  | .xd fs => ∃ mA, h.Ns1 a mA ∧ ∀ f, RelO (fs.lookup f) (mA f)
  | .rng lo hi => ∃ t u v, h.get? a = some { cls := .type "range", data := .fields #[.int lo t, .int hi u, .int 1 v] }
  | .frz o u => h.get? a = some o ∧ ObjOk H h a u
  | .tbl ps => h.get? a = some { cls := .none, data := .fields ps }
  | .met f x => h.get? a = some (PySem.W.methodObj (.ref f) (.ref x))
  | .ext φ => φ h ∧ (∃ o, h.get? a = some o) ∧ ∀ h1 h2 : Heap, φ h1 → (∀ o, h1.get? a = some o → h2.get? a = some o) → φ h2
/-- the abstract heap is held -/
def HOk (H : Hp) (h : Heap) : Prop := ∀ a o, H a = some o → ObjOk P w H h a o
end

section
variable {P : Program} {w : World} {H H' : Hp} {h h' : Heap} {a : Addr} {o : HO}
theorem ObjOk.lt (x : ObjOk P w H h a o) : a < h.objs.size := by
  cases o with
  | lst xs => obtain ⟨_, _, _, _, e⟩ := x; exact Heap.lt_size e
  | tup xs => obtain ⟨_, _, _, p⟩ := x; exact p.lt
  | dK kvs => obtain ⟨_, _, _, _, o, _, _, e, _⟩ := x; exact Heap.lt_size e
  | dT kvs => obtain ⟨_, _, _, _, o, _, _, e, _⟩ := x; exact Heap.lt_size e
  | set S n => obtain ⟨o, _, _, _, e, _⟩ := x; exact Heap.lt_size e
  | ins C dx fs => obtain ⟨_, _, _, e, _⟩ := x; exact Heap.lt_size e
  | own y => obtain ⟨_, e⟩ := x; exact Heap.lt_size e
  | xd fs => obtain ⟨_, ⟨_, _, _, e, _⟩, _⟩ := x; exact Heap.lt_size e
  | rng lo hi => obtain ⟨_, _, _, e⟩ := x; exact Heap.lt_size e
  | frz ob u => obtain ⟨e, _⟩ := x; exact Heap.lt_size e
  | tbl ps => exact Heap.lt_size (show h.get? a = some _ from x)
  | met f y => exact Heap.lt_size (show h.get? a = some _ from x)
  | ext φ => obtain ⟨_, ⟨_, e⟩, _⟩ := x; exact Heap.lt_size e
theorem Paired.mapP {α β : Type} {F G : α → β → Prop} : ∀ {l₁ : List α} {l₂ : List β}, Paired F l₁ l₂ → (∀ a b, F a b → G a b) → Paired G l₁ l₂
  | _, _, .nil, _ => .nil
  | _, _, .cons r t, f => .cons (f _ _ r) (Paired.mapP t f)
theorem Paired.imp' {α β : Type} {F G : α → β → Prop} (f : ∀ a b, F a b → G a b) {l₁ : List α} {l₂ : List β} (r : Paired F l₁ l₂) : Paired G l₁ l₂ := Paired.mapP r f
/-- what an object's description leans on: its own object, its own dict, the tuples -/
theorem ObjOk.stay (x : ObjOk P w H h a o) (k : ∀ b u, (b = a ∨ H b = some (.own a)) → h.get? b = some u → h'.get? b = some u)
    (ho : ∀ b, H b = some (.own a) → H' b = some (.own a)) (ht : ∀ b xs, H b = some (.tup xs) → H' b = some (.tup xs)) : ObjOk P w H' h' a o := by
  induction o with
  | lst xs => obtain ⟨z, its, n, r, e⟩ := x; exact ⟨z, its, n, r, k _ _ (.inl rfl) e⟩
  | tup xs => obtain ⟨z, its, r, ob, e, c⟩ := x; exact ⟨z, its, r, ob, k _ _ (.inl rfl) e, c⟩
  | dK kvs => obtain ⟨z, y, vs, r, ob, es, ep, e, c⟩ := x; exact ⟨z, y, vs, r, ob, es, ep, k _ _ (.inl rfl) e, c⟩
  | dT kvs =>
    obtain ⟨z, y, xs, r, ob, es, ep, e, c⟩ := x
    exact ⟨z, y, xs, Paired.mapP r fun p q z => ⟨z.1, ht _ _ z.2.1, z.2.2⟩, ob, es, ep, k _ _ (.inl rfl) e, c⟩
  | set S n => obtain ⟨ob, es, ep, t, e, c⟩ := x; exact ⟨ob, es, ep, t, k _ _ (.inl rfl) e, c⟩
  | ins C dx fs =>
    obtain ⟨d, z, ne, e, mA, ⟨od, es, ep, e2, c⟩, r⟩ := x
    exact ⟨ho _ d, z, ne, k _ _ (.inl rfl) e, mA, ⟨od, es, ep, k _ _ (.inr d) e2, c⟩, r⟩
  | own y => obtain ⟨ob, e⟩ := x; exact ⟨ob, k _ _ (.inl rfl) e⟩
  | xd fs => obtain ⟨mA, ⟨od, es, ep, e, c⟩, r⟩ := x; exact ⟨mA, ⟨od, es, ep, k _ _ (.inl rfl) e, c⟩, r⟩
  | rng lo hi => obtain ⟨t, u, v, e⟩ := x; exact ⟨t, u, v, k _ _ (.inl rfl) e⟩
  | frz ob u ih => obtain ⟨e, q⟩ := x; exact ⟨k _ _ (.inl rfl) e, ih q⟩
  | tbl ps =>
    have e : h.get? a = some { cls := .none, data := .fields ps } := x
    show h'.get? a = some { cls := .none, data := .fields ps }
    exact k a _ (.inl rfl) e
  | met f y =>
    have e : h.get? a = some (PySem.W.methodObj (.ref f) (.ref y)) := x
    show h'.get? a = some (PySem.W.methodObj (.ref f) (.ref y))
    exact k a _ (.inl rfl) e
  | ext φ => obtain ⟨p, ⟨o, e⟩, st⟩ := x; exact ⟨st _ _ p fun o q => k _ _ (.inl rfl) q, ⟨o, k _ _ (.inl rfl) e⟩, st⟩
theorem HOk.lt (x : HOk P w H h) (e : H a = some o) : a < h.objs.size := (x a o e).lt
theorem HOk.fresh (x : HOk P w H h) (e : h.objs.size ≤ a) : H a = none := by
  cases q : H a with
  | none => rfl
  | some u => exact absurd (Nat.lt_of_lt_of_le (x.lt q) e) (Nat.lt_irrefl _)
/-- every object of the heap is kept -/
theorem HOk.kept (x : HOk P w H h) (k : ∀ b u, h.get? b = some u → h'.get? b = some u) : HOk P w H h' := fun a o e =>
  (x a o e).stay (fun b u _ q => k b u q) (fun _ q => q) fun _ _ q => q
/-- a new object is laid and tracked -/
theorem HOk.laid (x : HOk P w H h) (k : ∀ b u, h.get? b = some u → h'.get? b = some u) (hp : h.objs.size ≤ a) (new : ObjOk P w (upd H a o) h' a o) : HOk P w (upd H a o) h' := fun b u e => by
  have hn := x.fresh hp
  by_cases hb : b = a
  · subst hb; rw [upd_same] at e; cases e; exact new
  · rw [upd_ne hb] at e
    exact (x b u e).stay (fun c v _ q => k c v q) (fun c q => by rw [upd_ne (ne_of_none q hn)]; exact q) fun c xs q => by rw [upd_ne (ne_of_none q hn)]; exact q
end

/-- what may be read as u: it is u, or a known u -/
def Rd (H : Hp) (a : Addr) (u : HO) : Prop := H a = some u ∨ ∃ o, H a = some (.frz o u)
theorem Rd.of {H : Hp} {a : Addr} {u : HO} (h : H a = some u) : Rd H a u := .inl h
theorem Rd.ok {P : Program} {w : World} {H : Hp} {h : Heap} {a : Addr} {u : HO} (r : Rd H a u) (x : HOk P w H h) : ObjOk P w H h a u := by
  rcases r with r | ⟨o, r⟩
  · exact x a u r
  · obtain ⟨_, q⟩ := x a _ r
    exact q
/-- what may be written -/
def Mut : Option HO → Prop
  | some (.lst _) => True
  | some (.dK _) => True
  | some (.dT _) => True
  | some (.set _ _) => True
  | some (.ins _ _ _) => True
  | some (.ext _) => True
  | _ => False
section
variable {P : Program} {w : World} {H : Hp} {h h' : Heap} {x e : Addr} {o' : HO}
/-- the object at e is changed: x itself, or the dict of the instance x -/
theorem HOk.write (ok : HOk P w H h) (mu : Mut (H x)) (he : e = x ∨ H e = some (.own x)) (k : ∀ b u, b ≠ e → h.get? b = some u → h'.get? b = some u) (heo : ∃ u, h'.get? e = some u)
    (new : ObjOk P w (upd H x o') h' x o') : HOk P w (upd H x o') h' := fun b u q => by
  have nown : ∀ c y, H c = some (.own y) → c ≠ x := fun c y r z => by subst z; rw [r] at mu; exact mu
  have ntup : ∀ c xs, H c = some (.tup xs) → c ≠ x := fun c xs r z => by subst z; rw [r] at mu; exact mu
  by_cases hb : b = x
  · subst hb; rw [upd_same] at q; cases q; exact new
  · rw [upd_ne hb] at q
    by_cases hbe : b = e
    · have q' : H b = some (.own x) := by
        rcases he with z | z
        · exact absurd (hbe.trans z) hb
        · rw [hbe]; exact z
      rw [q] at q'; cases q'
      obtain ⟨v, hv⟩ := heo
      exact ⟨v, by rw [hbe]; exact hv⟩
    · refine (ok b u q).stay (fun c v hc r => k c v ?_ r) (fun c r => by rw [upd_ne (nown c b r)]; exact r) fun c xs r => by rw [upd_ne (ntup c xs r)]; exact r
      rcases hc with rfl | hc
      · exact hbe
      · rintro rfl
        rcases he with z | z
        · exact nown c b hc z
        · rw [hc] at z; cases z; exact hb rfl
end

/-! ### kept unless tracked; of the frames at fs (the callers') the slots may change (an exception that passes writes there); of the records at ex (iterators) nothing is said -/
structure Un (fs ex : List Addr) (H H' : Hp) (h h' : Heap) : Prop where
  keep : ∀ b o, h.get? b = some o → H b = none → b ∉ fs → b ∉ ex → h'.get? b = some o
  slot : ∀ b o, h.get? b = some o → H b = none → b ∈ fs → b ∉ ex → ∃ sl, h'.get? b = some { o with slots := sl }
  free : ∀ b o, h.get? b = some o → H b = none → b ∉ ex → H' b = none
  there : ∀ b o, h.get? b = some o → b ∉ ex → ∃ o', h'.get? b = some o'
  tups : ∀ b xs, H b = some (.tup xs) → H' b = some (.tup xs)
  frzs : ∀ b o u, H b = some (.frz o u) → H' b = some (.frz o u)
  tbls : ∀ b ps, H b = some (.tbl ps) → ∃ more, H' b = some (.tbl (ps ++ more))
section
variable {fs fs' ex ex' : List Addr} {H H1 H2 : Hp} {h h1 h2 h' : Heap} {a x e : Addr} {o : HO}
theorem Un.any (u : Un fs ex H H1 h h1) {b : Addr} {ob : Obj} (q : h.get? b = some ob) (n : H b = none) (hx : b ∉ ex) : ∃ sl, h1.get? b = some { ob with slots := sl } := by
  by_cases hb : b ∈ fs
  · exact u.slot b ob q n hb hx
  · exact ⟨ob.slots, u.keep b ob q n hb hx⟩
theorem Un.trans (a : Un fs ex H H1 h h1) (b : Un fs ex H1 H2 h1 h2) : Un fs ex H H2 h h2 where
  keep := fun c ob q n hc hx => b.keep c ob (a.keep c ob q n hc hx) (a.free c ob q n hx) hc hx
  slot := fun c ob q n hc hx => by
    obtain ⟨sl, e1⟩ := a.slot c ob q n hc hx
    obtain ⟨sl', e2⟩ := b.slot c _ e1 (a.free c ob q n hx) hc hx
    exact ⟨sl', e2⟩
  free := fun c ob q n hx => by
    obtain ⟨o', e1⟩ := a.there c ob q hx
    exact b.free c o' e1 (a.free c ob q n hx) hx
  there := fun c ob q hx => by
    obtain ⟨o', e1⟩ := a.there c ob q hx
    exact b.there c o' e1 hx
  tups := fun c xs q => b.tups c xs (a.tups c xs q)
  frzs := fun c ob xs q => b.frzs c ob xs (a.frzs c ob xs q)
  tbls := fun c ps q => by
    obtain ⟨m1, e1⟩ := a.tbls c ps q
    obtain ⟨m2, e2⟩ := b.tbls c _ e1
    exact ⟨m1 ++ m2, by rw [e2, Array.append_assoc]⟩
theorem Un.kept (k : ∀ b u, h.get? b = some u → h'.get? b = some u) : Un fs ex H H h h' :=
  ⟨fun b ob q _ _ _ => k b ob q, fun b ob q _ _ _ => ⟨ob.slots, k b ob q⟩, fun _ _ _ n _ => n, fun b ob q _ => ⟨ob, k b ob q⟩, fun _ _ q => q, fun _ _ _ q => q, fun _ ps q => ⟨#[], by rw [q]; simp⟩⟩
theorem Un.refl : Un fs ex H H h h := Un.kept fun _ _ q => q
theorem Un.laid (k : ∀ b u, h.get? b = some u → h'.get? b = some u) (hp : h.objs.size ≤ a) (hn : H a = none) : Un fs ex H (upd H a o) h h' where
  keep := fun b u q _ _ _ => k b u q
  slot := fun b u q _ _ _ => ⟨u.slots, k b u q⟩
  free := fun b u q n _ => by rw [upd_ne (Nat.ne_of_lt (Nat.lt_of_lt_of_le (Heap.lt_size q) hp))]; exact n
  there := fun b u q _ => ⟨u, k b u q⟩
  tups := fun b xs q => by rw [upd_ne (ne_of_none q hn)]; exact q
  frzs := fun b u xs q => by rw [upd_ne (ne_of_none q hn)]; exact q
  tbls := fun b ps q => ⟨#[], by rw [upd_ne (ne_of_none q hn), q]; simp⟩
theorem Un.write (mu : Mut (H x)) (he : e = x ∨ H e = some (.own x)) (k : ∀ b u, b ≠ e → h.get? b = some u → h'.get? b = some u) (heo : ∃ u, h'.get? e = some u) : Un fs ex H (upd H x o) h h' := by
  have hx : ∀ b, H b = none → b ≠ x := fun b n z => by subst z; rw [n] at mu; exact mu
  have hb : ∀ b, H b = none → b ≠ e := fun b n z => by
    subst z
    rcases he with r | r
    · exact hx b n r
    · rw [n] at r; cases r
  have hm : ∀ b u, H b = some u → ¬ Mut (some u) → b ≠ x := fun b u q nm z => by subst z; rw [q] at mu; exact nm mu
  refine ⟨fun b u q n _ _ => k b u (hb b n) q, fun b u q n _ _ => ⟨u.slots, k b u (hb b n) q⟩, fun b u q n _ => by rw [upd_ne (hx b n)]; exact n, fun b u q _ => ?_,
    fun b xs q => by rw [upd_ne (hm b _ q fun z => z)]; exact q, fun b u xs q => by rw [upd_ne (hm b _ q fun z => z)]; exact q, fun b ps q => ⟨#[], by rw [upd_ne (hm b _ q fun z => z), q]; simp⟩⟩
  by_cases hbe : b = e
  · subst hbe; exact heo
  · exact ⟨u, k b u hbe q⟩
theorem Un.mono (u : Un fs ex H H1 h h1) (hs : ∀ b ∈ fs, b ∈ fs') (hx : ∀ b ∈ ex, b ∈ ex') : Un fs' ex' H H1 h h1 :=
  ⟨fun b ob q n hb he => u.keep b ob q n (fun z => hb (hs b z)) fun z => he (hx b z), fun _ _ q n _ he => u.any q n fun z => he (hx _ z), fun b ob q n he => u.free b ob q n fun z => he (hx b z), fun b ob q he => u.there b ob q fun z => he (hx b z), u.tups, u.frzs, u.tbls⟩
end

/-! ### the heap without what is tracked -/
def trk (h : Heap) (H : Hp) : List Addr := (List.range h.objs.size).filter fun a => (H a).isSome
def hidT (h : Heap) (H : Hp) : Heap := PySem.W.hideAll h (trk h H)
theorem hidT_size (h : Heap) (H : Hp) : (hidT h H).objs.size = h.objs.size := PySem.W.hideAll_size _ _
theorem hidT_get {h : Heap} {H : Hp} {b : Addr} {o : Obj} (e : h.get? b = some o) (n : H b = none) : (hidT h H).get? b = some o :=
  PySem.W.hideAll_get _ e fun hm => by
    have q : (H b).isSome = true := (List.mem_filter.mp hm).2
    rw [n] at q; simp at q
theorem of_hidT {h : Heap} {H : Hp} {b : Addr} {o : Obj} (e : (hidT h H).get? b = some o) : h.get? b = some o ∧ H b = none := by
  have e' : h.get? b = some o := PySem.W.of_hideAll (trk h H) e
  refine ⟨e', ?_⟩
  cases q : H b with
  | none => rfl
  | some x =>
    have hm : b ∈ trk h H := List.mem_filter.mpr ⟨List.mem_range.mpr (Heap.lt_size e'), by simp [q]⟩
    have z : (hidT h H).get? b = none := PySem.W.hideAll_none (trk h H) hm
    rw [z] at e; cases e

/-! ### OpenK's ledger, filled with every new object but one -/
def allNews (g h : Heap) (L : Addr) : List (Addr × Obj) := (List.range h.objs.size).filterMap fun a => if a = L ∨ (g.get? a).isSome = true then none else (h.get? a).map fun o => (a, o)
theorem mem_allNews {g h : Heap} {L a : Addr} {o : Obj} (h1 : a ≠ L) (h2 : g.get? a = none) (h3 : h.get? a = some o) : (a, o) ∈ allNews g h L :=
  List.mem_filterMap.mpr ⟨a, List.mem_range.mpr (Heap.lt_size h3), by simp [h1, h2, h3]⟩
theorem of_mem_allNews {g h : Heap} {L : Addr} {p : Addr × Obj} (hp : p ∈ allNews g h L) : p.1 ≠ L ∧ g.get? p.1 = none ∧ h.get? p.1 = some p.2 := by
  obtain ⟨b, _, e⟩ := List.mem_filterMap.mp hp
  split at e
  · cases e
  · rename_i hn
    cases q : h.get? b with
    | none => rw [q] at e; simp at e
    | some u =>
      rw [q] at e
      simp only [Option.map_some, Option.some.injEq] at e
      subst e
      refine ⟨fun z => hn (.inl z), ?_, q⟩
      show g.get? b = none
      cases r : g.get? b with
      | none => rfl
      | some v => exact (hn (.inr (by simp [r]))).elim
def rest (g h : Heap) (L d : Addr) : List (Addr × Obj) := (allNews g h L).filter fun p => decide (p.1 ≠ d)
theorem rest_ne {g h : Heap} {L d : Addr} : ∀ p ∈ rest g h L d, p.1 ≠ d := fun p hp => of_decide_eq_true (List.mem_filter.mp hp).2
theorem mem_rest {g h : Heap} {L d a : Addr} {o : Obj} (h1 : a ≠ L) (h2 : g.get? a = none) (h3 : h.get? a = some o) (h4 : a ≠ d) : (a, o) ∈ rest g h L d :=
  List.mem_filter.mpr ⟨mem_allNews h1 h2 h3, decide_eq_true h4⟩
theorem news_all {g h : Heap} {L : Addr} : News g L h (allNews g h L) := fun p hp => let ⟨a, b, c⟩ := of_mem_allNews hp; ⟨c, a, b⟩
theorem news_at {g h : Heap} {L d : Addr} {o : Obj} (h1 : d ≠ L) (h2 : g.get? d = none) (h3 : h.get? d = some o) : News g L h ((d, o) :: rest g h L d) := fun p hp => by
  rcases List.mem_cons.mp hp with rfl | hp
  · exact ⟨h3, h1, h2⟩
  · exact news_all p (List.mem_filter.mp hp).1
/-- behind a rule that changed d alone: all else but the frame is kept -/
theorem kept_of_news {g h h' : Heap} {L d : Addr} {m : Str → Option Value} (k : ∀ b o, g.get? b = some o → h.get? b = some o) (F : Fr g L h' m) (N : News g L h' (rest g h L d)) :
    ∀ b o, b ≠ L → b ≠ d → h.get? b = some o → h'.get? b = some o := fun b o h1 h2 e => by
  cases q : g.get? b with
  | some u =>
    have := k b u q
    rw [e] at this; cases this
    exact F.keep b _ q
  | none => exact (N (b, o) (mem_rest h1 q e h2)).1
end L2

namespace L2
open PySem PySem.Spec PyProof.Rows

/-- the module's facts, over the base: the heap at the law's entry without what is tracked there -/
structure Mod (K : PySem.W.Frag) (mg : Str → Option Value) (base : Heap) : Prop where
  kin : K.In base
  glob : base.Ns mainGlobals mg
  blt : ∃ mb, base.Ns builtinsNs mb ∧ ∀ x : Str, x ≠ "__name__" → mb x = bootBuiltins x
  nolimit : base.NoLimit

/-- the context: a def's body (or a comprehension's block) running. base: fixed through the whole law; s₀, H₀: the entry; outer: the frames whose slots others may change (a def's callers); stack: all frames that run;
   ex: iterators that were made ahead of the entry and are walked here (a comprehension's); fn: the names whose cells were made at the entry (a def: all; a comprehension's block: its own); calm: not within an except suite; pn: pins that every state bears; xe: what is wanted of an exception that leaves the code -/
structure Cx where
  prog : Program
  w : World
  K : PySem.W.Frag
  mg : Str → Option Value
  base : Heap
  A : Around
  N : List Str
  s₀ : Shared
  H₀ : Hp
  env : Env
  outer : List Env
  stack : List Env
  ex : List Addr
  fn : Str → Bool
  calm : Bool
  pn : List (Addr × Obj)
  xe : Value → Shared → Prop
/-- the callers' frames -/
def frs (l : List Env) : List Addr := l.filterMap (·.frame)
abbrev Cx.fs (X : Cx) : List Addr := frs X.outer

def Vis (sc : Scope) (x : Str) : Prop := sc.names.lookup x = some .local ∨ sc.names.lookup x = some .cell ∨ sc.names.lookup x = some .free
def Loc (sc : Scope) (x : Str) : Prop := sc.names.lookup x = some .local ∨ sc.names.lookup x = some .cell
def Look (env : Env) (h : Heap) (m : Str → Option Value) (x : Str) (u : Value) : Prop :=
  (env.kindOf x = some .local ∧ m x = some u) ∨ ((env.kindOf x = some .cell ∨ env.kindOf x = some .free) ∧ ∃ c, env.cells.lookup x = some c ∧ h.IsCell c (some u))

structure Cx.Ok (X : Cx) : Prop where
  mod : Mod X.K X.mg X.base
  kind : X.env.scope.kind = .function
  glob : X.env.globals = mainGlobals
  blt : X.env.builtins = builtinsNs
  above : X.s₀.heap.objs.size ≤ X.env.locals
  inj : ∀ x y c, X.env.cells.lookup x = some c → X.env.cells.lookup y = some c → x = y
  has : ∀ x, (X.env.kindOf x = some .cell ∨ X.env.kindOf x = some .free) → ∃ c, X.env.cells.lookup x = some c
  cab : ∀ x c, X.fn x = true → X.env.cells.lookup x = some c → X.s₀.heap.objs.size ≤ c
  hd : X.calm = true → X.A.handled = none
  frames : X.A.frames = some X.stack
  stk : X.stack = X.outer ∨ (X.stack = X.env :: X.outer ∧ X.env.frame = some X.env.locals)
  exf : ∀ b ∈ X.ex, b ≠ X.env.locals ∧ ∀ x c, X.env.cells.lookup x = some c → c ≠ b
  bs : ∀ b o, X.base.get? b = some o → X.s₀.heap.get? b = some o ∧ X.H₀ b = none
  bsz : X.base.objs.size ≤ X.s₀.heap.objs.size
  noex : ∀ b o, X.base.get? b = some o → b ∉ X.ex
  exfs : ∀ b ∈ X.ex, b ∉ X.fs
  funs : X.s₀.heap.FunFrames X.base X.outer
  frf : ∀ b ∈ X.fs, X.H₀ b = none

structure Inv (X : Cx) (pins : List (Addr × Obj)) (σ : List (Option V)) (H : Hp) (s : Shared) : Prop where
  ok : X.Ok
  os : s.os = X.s₀.os
  bare : AllBare s.gens
  base : Un X.fs X.ex X.H₀ H X.s₀.heap s.heap
  loc : ∃ m, s.heap.Ns X.env.locals m ∧ ∀ (i : Nat) (x : Str) (v : V), X.N[i]? = some x → σ[i]? = some (some v) → Vis X.env.scope x → ∃ u, RelV v u ∧ Look X.env s.heap m x u
  cell : ∀ x c, X.env.cells.lookup x = some c → ∃ v, s.heap.IsCell c v
  free : H X.env.locals = none
  freeC : ∀ x c, X.env.cells.lookup x = some c → H c = none
  pin : ∀ p ∈ X.pn ++ pins, s.heap.get? p.1 = some p.2 ∧ H p.1 = none ∧ p.1 ≠ X.env.locals ∧ p.1 ∉ X.fs ∧ ∀ v, p.2.data ≠ .cell v
  hok : HOk X.prog X.w H s.heap
  len : σ.length = X.N.length

section
variable {X : Cx} {pins : List (Addr × Obj)} {σ : List (Option V)} {H H' : Hp} {s : Shared} {h' : Heap}

theorem Cx.Ok.nofr (ok : X.Ok) {b : Addr} {o : Obj} (e : X.base.get? b = some o) : b ∉ X.fs := fun hb => by
  have := (ok.funs.mem hb).1
  rw [e] at this; cases this
theorem Inv.bs (I : Inv X pins σ H s) : ∀ b o, X.base.get? b = some o → s.heap.get? b = some o ∧ H b = none := fun b o e =>
  ⟨I.base.keep b o (I.ok.bs b o e).1 (I.ok.bs b o e).2 (I.ok.nofr e) (I.ok.noex b o e), I.base.free b o (I.ok.bs b o e).1 (I.ok.bs b o e).2 (I.ok.noex b o e)⟩
theorem Inv.bk (I : Inv X pins σ H s) : ∀ b o, X.base.get? b = some o → s.heap.get? b = some o := fun b o e => (I.bs b o e).1
theorem Inv.mod (I : Inv X pins σ H s) : Mod X.K X.mg X.base := I.ok.mod
theorem Inv.kIn (I : Inv X pins σ H s) : X.K.In s.heap := I.ok.mod.kin.keeps I.bk
theorem Inv.nolimit (I : Inv X pins σ H s) : s.heap.NoLimit := I.ok.mod.nolimit.keeps I.bk
/-- the frame over the base: for OpenK's rules (K.In X.base is I.mod.kin) -/
theorem Inv.fr (I : Inv X pins σ H s) : ∃ m, Fr X.base X.env.locals s.heap m :=
  let ⟨m, hn, _⟩ := I.loc
  ⟨m, hn, I.bk, Nat.le_trans I.ok.bsz I.ok.above⟩
theorem Inv.lt (I : Inv X pins σ H s) : X.env.locals < s.heap.objs.size := let ⟨_, hn, _⟩ := I.loc; hn.lt
theorem Inv.sz (I : Inv X pins σ H s) : X.s₀.heap.objs.size ≤ s.heap.objs.size := Nat.le_trans I.ok.above (Nat.le_of_lt I.lt)
theorem Inv.nofs (I : Inv X pins σ H s) {a : Addr} (h : s.heap.objs.size ≤ a) : a ∉ X.fs := fun hb => by
  obtain ⟨_, o, ho, _⟩ := I.ok.funs.mem hb
  exact absurd (Nat.lt_of_lt_of_le (Heap.lt_size ho) (Nat.le_trans I.sz h)) (Nat.lt_irrefl _)
theorem Inv.cne (I : Inv X pins σ H s) : ∀ x c, X.env.cells.lookup x = some c → c ≠ X.env.locals := fun x c e z => by
  obtain ⟨v, o, ho, hd⟩ := I.cell x c e
  obtain ⟨m, ⟨o', es, ep, ho', hd', _⟩, _⟩ := I.loc
  rw [z, ho'] at ho; cases ho; rw [hd'] at hd; cases hd
theorem Inv.funs (I : Inv X pins σ H s) : s.heap.FunFrames X.base X.outer := by
  have all : ∀ (l : List Env), (∀ b ∈ frs l, b ∈ X.fs) → X.s₀.heap.FunFrames X.base l → s.heap.FunFrames X.base l := by
    intro l
    induction l with
    | nil => intro _ _; trivial
    | cons env r ih =>
      intro hs hl
      obtain ⟨hk, ⟨L, o, hf, hn, ho, hd⟩, hr⟩ := hl
      have hL : L ∈ X.fs := hs L (by unfold frs; rw [List.filterMap_cons, hf]; exact List.mem_cons_self)
      obtain ⟨sl, e⟩ := I.base.slot L o ho (I.ok.frf L hL) hL fun z => I.ok.exfs L z hL
      exact ⟨hk, ⟨L, _, hf, hn, e, hd⟩, ih (fun b hb => hs b (by unfold frs; rw [List.filterMap_cons, hf]; exact List.mem_cons_of_mem _ hb)) hr⟩
  exact all X.outer (fun _ hb => hb) I.ok.funs

/-- the frames that run, for a call -/
theorem Inv.stack (I : Inv X pins σ H s) : s.heap.FunFrames X.base X.stack := by
  rcases I.ok.stk with e | ⟨e, hf⟩
  · rw [e]; exact I.funs
  · rw [e]
    obtain ⟨m, hn, _⟩ := I.loc
    refine .cons (by rw [I.ok.kind]; decide) hf hn ?_ I.funs
    exact Heap.get?_none_of_le (Nat.le_trans I.ok.bsz I.ok.above)
theorem Inv.stkSub (I : Inv X pins σ H s) : ∀ b ∈ frs X.stack, b ∈ X.env.locals :: X.fs := fun b hb => by
  rcases I.ok.stk with e | ⟨e, hf⟩
  · rw [e] at hb; exact List.mem_cons_of_mem _ hb
  · rw [e] at hb
    unfold frs at hb
    rw [List.filterMap_cons, hf] at hb
    exact hb
theorem Inv.stkFree (I : Inv X pins σ H s) : ∀ b ∈ frs X.stack, H b = none := fun b hb => by
  rcases List.mem_cons.mp (I.stkSub b hb) with e | hb
  · rw [e]; exact I.free
  · obtain ⟨_, o, ho, _⟩ := I.ok.funs.mem hb
    exact I.base.free b o ho (I.ok.frf b hb) fun z => I.ok.exfs b z hb

/-- THE STEP: the untracked objects but the frame and the records at ch are kept (the callers' frames up to slots), the frame's map is kept, the new abstract heap is held -/
theorem Inv.step {g' : Array GenState} {t' : Nat} {d' : Drawn} {ch : List Addr} (I : Inv X pins σ H s)
    (hch : ∀ b ∈ ch, (b ∈ X.ex ∨ X.s₀.heap.objs.size ≤ b) ∧ b ≠ X.env.locals ∧ (∀ x c, X.env.cells.lookup x = some c → c ≠ b) ∧ ∀ p ∈ X.pn ++ pins, p.1 ≠ b)
    (keep : ∀ b o, b ≠ X.env.locals → b ∉ X.fs → b ∉ ch → s.heap.get? b = some o → H b = none → h'.get? b = some o)
    (slot : ∀ b o, b ≠ X.env.locals → b ∈ X.fs → b ∉ ch → s.heap.get? b = some o → H b = none → ∃ sl, h'.get? b = some { o with slots := sl }) (free : ∀ b o, b ∉ ch → s.heap.get? b = some o → H b = none → H' b = none)
    (there : ∀ b o, b ∉ ch → s.heap.get? b = some o → ∃ o', h'.get? b = some o')
    (tups : ∀ b xs, H b = some (.tup xs) → H' b = some (.tup xs)) (frzs : ∀ b o u, H b = some (.frz o u) → H' b = some (.frz o u)) (tbls : ∀ b ps, H b = some (.tbl ps) → ∃ more, H' b = some (.tbl (ps ++ more)))
    (ns : ∀ m, s.heap.Ns X.env.locals m → h'.Ns X.env.locals m) (hok : HOk X.prog X.w H' h') (hg : AllBare g') :
    Inv X pins σ H' { s with heap := h', gens := g', drawn := d', toks := t' } := by
  have neL : ∀ b o, X.s₀.heap.get? b = some o → b ≠ X.env.locals := fun b o e => Nat.ne_of_lt (Nat.lt_of_lt_of_le (Heap.lt_size e) I.ok.above)
  have neC : ∀ b o, X.s₀.heap.get? b = some o → b ∉ X.ex → b ∉ ch := fun b o e hx hb => by
    rcases (hch b hb).1 with z | z
    · exact hx z
    · exact absurd (Nat.lt_of_lt_of_le (Heap.lt_size e) z) (Nat.lt_irrefl _)
  have cellK : ∀ x c, X.env.cells.lookup x = some c → ∀ v, s.heap.IsCell c v → h'.IsCell c v := fun x c e v ⟨o, ho, hd⟩ => by
    have nch : c ∉ ch := fun z => (hch c z).2.2.1 x c e rfl
    by_cases hc : c ∈ X.fs
    · obtain ⟨sl, q⟩ := slot c o (I.cne x c e) hc nch ho (I.freeC x c e)
      exact ⟨_, q, hd⟩
    · exact ⟨o, keep c o (I.cne x c e) hc nch ho (I.freeC x c e), hd⟩
  refine ⟨I.ok, I.os, hg, ⟨fun b o e n hb hx => ?_, fun b o e n hb hx => ?_, fun b o e n hx => ?_, fun b o e hx => ?_, fun b xs e => tups b xs (I.base.tups b xs e), fun b o xs e => frzs b o xs (I.base.frzs b o xs e), fun b ps e => ?_⟩, ?_, fun x c e => ?_, ?_, fun x c e => ?_, fun p hp => ?_, hok, I.len⟩
  · exact keep b o (neL b o e) hb (neC b o e hx) (I.base.keep b o e n hb hx) (I.base.free b o e n hx)
  · obtain ⟨sl, e1⟩ := I.base.slot b o e n hb hx
    obtain ⟨sl', e2⟩ := slot b _ (neL b o e) hb (neC b o e hx) e1 (I.base.free b o e n hx)
    exact ⟨sl', e2⟩
  · obtain ⟨o', e1⟩ := I.base.there b o e hx
    exact free b o' (neC b o e hx) e1 (I.base.free b o e n hx)
  · obtain ⟨o', e1⟩ := I.base.there b o e hx
    exact there b o' (neC b o e hx) e1
  · obtain ⟨m1, e1⟩ := I.base.tbls b ps e
    obtain ⟨m2, e2⟩ := tbls b _ e1
    exact ⟨m1 ++ m2, by rw [e2, Array.append_assoc]⟩
  · obtain ⟨m, hn, hl⟩ := I.loc
    refine ⟨m, ns m hn, fun i x v e1 e2 e3 => ?_⟩
    obtain ⟨u, r, l⟩ := hl i x v e1 e2 e3
    refine ⟨u, r, ?_⟩
    rcases l with l | ⟨k, c, e, z⟩
    · exact .inl l
    · exact .inr ⟨k, c, e, cellK x c e _ z⟩
  · obtain ⟨v, z⟩ := I.cell x c e
    exact ⟨v, cellK x c e v z⟩
  · obtain ⟨m, ⟨o, _, _, ho, _⟩, _⟩ := I.loc
    exact free _ o (fun z => (hch _ z).2.1 rfl) ho I.free
  · obtain ⟨v, o, ho, hd⟩ := I.cell x c e
    exact free c o (fun z => (hch c z).2.2.1 x c e rfl) ho (I.freeC x c e)
  · obtain ⟨e, n, ne, nf, d⟩ := I.pin p hp
    have nch : p.1 ∉ ch := fun z => (hch p.1 z).2.2.2 p hp rfl
    exact ⟨keep p.1 p.2 ne nf nch e n, free p.1 p.2 nch e n, ne, nf, d⟩
/-- .. where the frame's own object is kept too -/
theorem Inv.un {t' : Nat} (I : Inv X pins σ H s) (u : Un X.fs [] H H' s.heap h') (hok : HOk X.prog X.w H' h') : Inv X pins σ H' { s with heap := h', toks := t' } := by
  obtain ⟨m, ⟨o, es, ep, ho, r⟩, _⟩ := id I.loc
  obtain ⟨sl, hL⟩ := u.any ho I.free (by simp)
  exact I.step (g' := s.gens) (d' := s.drawn) (ch := []) (fun _ z => nomatch z) (fun b o _ hb _ e n => u.keep b o e n hb (by simp)) (fun b o _ hb _ e n => u.slot b o e n hb (by simp)) (fun b o _ e n => u.free b o e n (by simp)) (fun b o _ e => u.there b o e (by simp)) u.tups u.frzs u.tbls (fun m' hm => by
    obtain ⟨o', es', ep', ho', r'⟩ := hm
    rw [ho] at ho'; cases ho'
    exact ⟨_, es', ep', hL, r'⟩) hok I.bare
/-- behind a call (or a comprehension's block): the slots of this frame may have changed too, the records at ch may have turned -/
theorem Inv.call {g' : Array GenState} {t' : Nat} {d' : Drawn} {ch : List Addr} (I : Inv X pins σ H s) (u : Un (frs X.stack) ch H H' s.heap h') (hok : HOk X.prog X.w H' h') (hg : AllBare g')
    (hch : ∀ b ∈ ch, (b ∈ X.ex ∨ X.s₀.heap.objs.size ≤ b) ∧ b ≠ X.env.locals ∧ (∀ x c, X.env.cells.lookup x = some c → c ≠ b) ∧ ∀ p ∈ X.pn ++ pins, p.1 ≠ b) :
    Inv X pins σ H' { s with heap := h', gens := g', drawn := d', toks := t' } := by
  obtain ⟨m, ⟨o, es, ep, ho, r⟩, _⟩ := id I.loc
  obtain ⟨sl, hL⟩ := u.any ho I.free fun z => (hch _ z).2.1 rfl
  exact I.step (ch := ch) hch (fun b o hL hb hc e n => u.keep b o e n (fun z => (List.mem_cons.mp (I.stkSub b z)).elim hL hb) hc) (fun b o _ _ hc e n => u.any e n hc) (fun b o hc e n => u.free b o e n hc) (fun b o hc e => u.there b o e hc) u.tups u.frzs u.tbls (fun m' hm => by
    obtain ⟨o', es', ep', ho', r'⟩ := hm
    rw [ho] at ho'; cases ho'
    exact ⟨_, es', ep', hL, r'⟩) hok hg
/-- an untracked record of ours (an iterator) has turned -/
theorem Inv.turned {t' : Nat} {it : Addr} (I : Inv X pins σ H s) (k : ∀ b o, b ≠ it → s.heap.get? b = some o → h'.get? b = some o) (hn : H it = none) (hL : it ≠ X.env.locals)
    (h1 : it ∈ X.ex ∨ X.s₀.heap.objs.size ≤ it) (h2 : ∀ x c, X.env.cells.lookup x = some c → c ≠ it) (h3 : ∀ p ∈ X.pn ++ pins, p.1 ≠ it) : Inv X pins σ H { s with heap := h', toks := t' } := by
  have nit : ∀ b u, H b = some u → b ≠ it := fun b u e z => by rw [z, hn] at e; cases e
  refine I.step (g' := s.gens) (d' := s.drawn) (ch := [it]) (fun b hb => ?_) (fun b o _ _ hc e _ => k b o (fun z => hc (by simp [z])) e) (fun b o _ _ hc e _ => ⟨o.slots, k b o (fun z => hc (by simp [z])) e⟩) (fun _ _ _ _ n => n)
    (fun b o hc e => ⟨o, k b o (fun z => hc (by simp [z])) e⟩) (fun _ _ e => e) (fun _ _ _ e => e) (fun b ps e => ⟨#[], by rw [e]; simp⟩) (fun m hm => ?_) (fun b u e => ?_) I.bare
  · have e : b = it := by simpa using hb
    subst e
    exact ⟨h1, hL, h2, h3⟩
  · obtain ⟨o, es, ep, ho, r⟩ := hm
    exact ⟨o, es, ep, k _ o (Ne.symm hL) ho, r⟩
  · refine (I.hok b u e).stay (fun c v hc q => k c v ?_ q) (fun _ q => q) fun _ _ q => q
    rcases hc with z | z
    · rw [z]; exact nit b u e
    · exact nit c _ z
theorem Inv.tok (I : Inv X pins σ H s) (t : Nat) : Inv X pins σ H { s with toks := t } := I.un (h' := s.heap) (t' := t) Un.refl I.hok
/-- all objects kept -/
theorem Inv.kept {t' : Nat} (I : Inv X pins σ H s) (k : ∀ b u, s.heap.get? b = some u → h'.get? b = some u) : Inv X pins σ H { s with heap := h', toks := t' } := I.un (Un.kept k) (I.hok.kept k)
/-- a new object laid and tracked -/
theorem Inv.laid {a : Addr} {o : HO} {t' : Nat} (I : Inv X pins σ H s) (k : ∀ b u, s.heap.get? b = some u → h'.get? b = some u) (hp : s.heap.objs.size ≤ a) (new : ObjOk X.prog X.w (upd H a o) h' a o) :
    Inv X pins σ (upd H a o) { s with heap := h', toks := t' } := I.un (Un.laid k hp (I.hok.fresh hp)) (I.hok.laid k hp new)
/-- an object written -/
theorem Inv.write {x e : Addr} {o : HO} {t' : Nat} (I : Inv X pins σ H s) (mu : Mut (H x)) (he : e = x ∨ H e = some (.own x)) (k : ∀ b u, b ≠ e → s.heap.get? b = some u → h'.get? b = some u) (heo : ∃ u, h'.get? e = some u)
    (new : ObjOk X.prog X.w (upd H x o) h' x o) : Inv X pins σ (upd H x o) { s with heap := h', toks := t' } := I.un (Un.write mu he k heo) (I.hok.write mu he k heo new)
/-- forgetting slots, pins -/
theorem Inv.weak {σ' : List (Option V)} (I : Inv X pins σ H s) (hl : σ'.length = σ.length) (w : ∀ (i : Nat) v, σ'[i]? = some (some v) → σ[i]? = some (some v)) : Inv X pins σ' H s :=
  ⟨I.ok, I.os, I.bare, I.base, let ⟨m, hn, hl'⟩ := I.loc; ⟨m, hn, fun i x v e1 e2 e3 => hl' i x v e1 (w i v e2) e3⟩, I.cell, I.free, I.freeC, I.pin, I.hok, hl.trans I.len⟩
theorem Inv.pins_of {pins' : List (Addr × Obj)} (I : Inv X pins σ H s) (h : ∀ p ∈ pins', s.heap.get? p.1 = some p.2 ∧ H p.1 = none ∧ p.1 ≠ X.env.locals ∧ p.1 ∉ X.fs ∧ ∀ v, p.2.data ≠ .cell v) : Inv X pins' σ H s :=
  ⟨I.ok, I.os, I.bare, I.base, I.loc, I.cell, I.free, I.freeC, fun p hp => (List.mem_append.mp hp).elim (fun z => I.pin p (List.mem_append_left _ z)) (h p), I.hok, I.len⟩

theorem nodup_ix {N : List Str} (hN : N.Nodup) {i j : Nat} {x : Str} (a : N[i]? = some x) (b : N[j]? = some x) : i = j := by
  obtain ⟨h1, e1⟩ := List.getElem?_eq_some_iff.mp a
  obtain ⟨h2, e2⟩ := List.getElem?_eq_some_iff.mp b
  exact (List.getElem_inj hN).mp (e1.trans e2.symm)

/-- a name is stored; what changed -/
theorem store_ok2 {M : Model} {A : Around} {E : Value → Shared → Prop} {i : Nat} {x : Str} {v : V} {u : Value} {Q : Unit → Shared → Prop} (I : Inv X pins σ H s) (hN : X.N.Nodup) (hi : X.N[i]? = some x) (hx : Loc X.env.scope x) (r : RelV v u)
    (h : ∀ s', Inv X pins (σ.set i (some v)) H s' → (∃ a, Heap.SameBut a s.heap s'.heap ∧ (a = X.env.locals ∨ X.env.cells.lookup x = some a)) → Q () s') (hf : X.fn x = true ∨ X.env.scope.names.lookup x = some .local := by first | exact .inl rfl | exact .inr rfl | assumption) : wpAny M A (storeName X.env x u) Q E s := by
  obtain ⟨m, hn, hl⟩ := id I.loc
  have hcls : (X.env.scope.kind == .class || (X.env.scope.kind == .module && X.env.locals != X.env.globals)) = false := by rw [I.ok.kind]; rfl
  have hiσ : i < σ.length := by rw [I.len]; exact (List.getElem?_eq_some_iff.mp hi).1
  have cne := I.cne
  have tracked : ∀ {a : Addr} {h' : Heap}, (∃ o, s.heap.get? a = some o ∧ H a = none) → Heap.SameBut a s.heap h' → HOk X.prog X.w H h' := fun {a h'} ha hs b ob e => by
    obtain ⟨_, _, hfree⟩ := ha
    refine (I.hok b ob e).stay (fun c w' hc q => (hs.2 c ?_).trans q) (fun _ q => q) fun _ _ q => q
    rintro rfl
    rcases hc with rfl | hc
    · rw [hfree] at e; cases e
    · rw [hfree] at hc; cases hc
  rcases hx with hk | hk
  · refine wpAny_storeName_local hk hn (fun h' hn' hs => ?_) hcls
    obtain ⟨oL, _, _, hoL, _⟩ := id hn
    refine h _ ⟨I.ok, I.os, I.bare, ⟨fun b o e n hb hx => ?_, fun b o e n hb hx => ?_, I.base.free, fun b o e hx => ?_, I.base.tups, I.base.frzs, I.base.tbls⟩, ⟨_, hn', fun j y v' e1 e2 e3 => ?_⟩, fun y c e => ?_, I.free, I.freeC, fun p hp => ?_, tracked ⟨oL, hoL, I.free⟩ hs, by simpa using I.len⟩ ⟨_, hs, .inl rfl⟩
    · exact (hs.2 b (Nat.ne_of_lt (Nat.lt_of_lt_of_le (Heap.lt_size e) I.ok.above))).trans (I.base.keep b o e n hb hx)
    · obtain ⟨sl, e1⟩ := I.base.slot b o e n hb hx
      exact ⟨sl, (hs.2 b (Nat.ne_of_lt (Nat.lt_of_lt_of_le (Heap.lt_size e) I.ok.above))).trans e1⟩
    · obtain ⟨o', e1⟩ := I.base.there b o e hx
      exact ⟨o', (hs.2 b (Nat.ne_of_lt (Nat.lt_of_lt_of_le (Heap.lt_size e) I.ok.above))).trans e1⟩
    · by_cases hj : j = i
      · subst hj
        rw [hi] at e1; cases e1
        rw [List.getElem?_set_self hiσ] at e2
        cases e2
        exact ⟨u, r, .inl ⟨hk, by simp⟩⟩
      · rw [List.getElem?_set_ne (Ne.symm hj)] at e2
        obtain ⟨u', r', q⟩ := hl j y v' e1 e2 e3
        refine ⟨u', r', ?_⟩
        rcases q with ⟨k, e⟩ | ⟨k, c, e, z⟩
        · refine .inl ⟨k, ?_⟩
          have : y ≠ x := fun e => hj (nodup_ix hN e1 (e ▸ hi))
          simp [this, e]
        · exact .inr ⟨k, c, e, z.sameBut hs (cne y c e)⟩
    · obtain ⟨w', z⟩ := I.cell y c e
      exact ⟨w', z.sameBut hs (cne y c e)⟩
    · obtain ⟨e, n, ne, nf, d⟩ := I.pin p hp
      exact ⟨(hs.2 p.1 ne).trans e, n, ne, nf, d⟩
  · have hfn : X.fn x = true := by
      rcases hf with z | z
      · exact z
      · rw [z] at hk; cases hk
    obtain ⟨c, hc⟩ := I.ok.has x (.inl hk)
    obtain ⟨w', z⟩ := I.cell x c hc
    refine wpAny_storeName_cell I.ok.kind hk hc z (fun h' hc' hs => ?_)
    obtain ⟨oc, hoc, hocd⟩ := id z
    refine h { s with heap := h' } ⟨I.ok, I.os, I.bare, ⟨fun b o e n hb hx => ?_, fun b o e n hb hx => ?_, I.base.free, fun b o e hx => ?_, I.base.tups, I.base.frzs, I.base.tbls⟩, ⟨m, hn.sameBut hs (Ne.symm (cne x c hc)), fun j y v' e1 e2 e3 => ?_⟩, fun y c' e => ?_, I.free, I.freeC, fun p hp => ?_, tracked ⟨oc, hoc, I.freeC x c hc⟩ hs, by simpa using I.len⟩ ⟨c, hs, .inr hc⟩
    · exact (hs.2 b (Nat.ne_of_lt (Nat.lt_of_lt_of_le (Heap.lt_size e) (I.ok.cab x c hfn hc)))).trans (I.base.keep b o e n hb hx)
    · obtain ⟨sl, e1⟩ := I.base.slot b o e n hb hx
      exact ⟨sl, (hs.2 b (Nat.ne_of_lt (Nat.lt_of_lt_of_le (Heap.lt_size e) (I.ok.cab x c hfn hc)))).trans e1⟩
    · obtain ⟨o', e1⟩ := I.base.there b o e hx
      exact ⟨o', (hs.2 b (Nat.ne_of_lt (Nat.lt_of_lt_of_le (Heap.lt_size e) (I.ok.cab x c hfn hc)))).trans e1⟩
    · by_cases hj : j = i
      · subst hj
        rw [hi] at e1; cases e1
        rw [List.getElem?_set_self hiσ] at e2
        cases e2
        exact ⟨u, r, .inr ⟨.inl hk, c, hc, hc'⟩⟩
      · rw [List.getElem?_set_ne (Ne.symm hj)] at e2
        obtain ⟨u', r', q⟩ := hl j y v' e1 e2 e3
        refine ⟨u', r', ?_⟩
        rcases q with q | ⟨k, c', e, z'⟩
        · exact .inl q
        · refine .inr ⟨k, c', e, z'.sameBut hs ?_⟩
          rintro rfl
          exact hj (nodup_ix hN e1 (I.ok.inj _ _ _ e hc ▸ hi))
    · by_cases hcc : c' = c
      · subst hcc; exact ⟨_, hc'⟩
      · obtain ⟨w2, z2⟩ := I.cell y c' e
        exact ⟨w2, z2.sameBut hs hcc⟩
    · obtain ⟨e, n, ne, nf, d⟩ := I.pin p hp
      refine ⟨(hs.2 p.1 ?_).trans e, n, ne, nf, d⟩
      intro q
      rw [q, hoc] at e
      have q' : oc = p.2 := Option.some.inj e
      exact d w' (by rw [← q']; exact hocd)
theorem store_ok {M : Model} {A : Around} {E : Value → Shared → Prop} {i : Nat} {x : Str} {v : V} {u : Value} {Q : Unit → Shared → Prop} (I : Inv X pins σ H s) (hN : X.N.Nodup) (hi : X.N[i]? = some x) (hx : Loc X.env.scope x) (r : RelV v u)
    (h : ∀ s', Inv X pins (σ.set i (some v)) H s' → Q () s') (hf : X.fn x = true ∨ X.env.scope.names.lookup x = some .local := by first | exact .inl rfl | exact .inr rfl | assumption) : wpAny M A (storeName X.env x u) Q E s :=
  store_ok2 I hN hi hx r (fun s' I' _ => h s' I') hf
/-- behind a call or a block, the state as it is -/
theorem Inv.call' {s' : Shared} {ch : List Addr} (I : Inv X pins σ H s) (ho : s'.os = s.os) (u : Un (frs X.stack) ch H H' s.heap s'.heap) (hok : HOk X.prog X.w H' s'.heap) (hg : AllBare s'.gens)
    (hch : ∀ b ∈ ch, (b ∈ X.ex ∨ X.s₀.heap.objs.size ≤ b) ∧ b ≠ X.env.locals ∧ (∀ x c, X.env.cells.lookup x = some c → c ≠ b) ∧ ∀ p ∈ X.pn ++ pins, p.1 ≠ b) : Inv X pins σ H' s' := by
  obtain ⟨h', g', d', t', o'⟩ := s'
  have e : o' = s.os := ho
  subst e
  exact I.call (g' := g') (t' := t') (d' := d') u hok hg hch
end

/-! ### the judgements -/
/-- an exception: its class, its own dict's address (where it has one), the abstract heap behind it -/
abbrev XK := Value → Option Addr → Hp → Prop
abbrev St := List (Option V)
abbrev VK := V → Hp → Prop
/-- an expression's reading; a test's; an argument list's -/
abbrev TE := St → Hp → VK → Prop
abbrev TT := St → Hp → (Bool → Hp → Prop) → Prop
abbrev TA := St → Hp → (List V → Hp → Prop) → Prop
/-- what is wanted behind a statement -/
structure Ends where
  nx : St → Hp → Prop
  rt : VK
  bk : St → Hp → Prop := fun _ _ => False
  ct : St → Hp → Prop := fun _ _ => False
abbrev TS := Ends → St → Hp → Prop

def EP (X : Cx) (pins : List (Addr × Obj)) (σ : St) (Q : VK) (u : Value) (s' : Shared) : Prop := ∃ v H', Inv X pins σ H' s' ∧ RelV v u ∧ Q v H'
def TP (X : Cx) (pins : List (Addr × Obj)) (σ : St) (Q : Bool → Hp → Prop) (b : Bool) (s' : Shared) : Prop := ∃ H', Inv X pins σ H' s' ∧ Q b H'
def AP (X : Cx) (pins : List (Addr × Obj)) (σ : St) (Q : List V → Hp → Prop) (us : List Value) (s' : Shared) : Prop := ∃ vs H', Inv X pins σ H' s' ∧ Vals vs us ∧ Q vs H'
def SP (X : Cx) (pins : List (Addr × Obj)) (D : Ends) (f : Flow) (s' : Shared) : Prop :=
  match f with
  | .next => ∃ σ' H', Inv X pins σ' H' s' ∧ D.nx σ' H'
  | .brk => ∃ σ' H', Inv X pins σ' H' s' ∧ D.bk σ' H'
  | .cont => ∃ σ' H', Inv X pins σ' H' s' ∧ D.ct σ' H'
  | .ret u => ∃ v σ' H', Inv X pins σ' H' s' ∧ RelV v u ∧ D.rt v H'

def PE (X : Cx) (e : Expr) (t : TE) : Prop :=
  ∀ (pins : List (Addr × Obj)) (s : Shared) (σ : St) (H : Hp) (Q : VK), Inv X pins σ H s → t σ H Q → wpAny (model X.prog X.w) X.A (eval e X.env) (EP X pins σ Q) X.xe s
def PT (X : Cx) (e : Expr) (t : TT) : Prop :=
  ∀ (pins : List (Addr × Obj)) (s : Shared) (σ : St) (H : Hp) (Q : Bool → Hp → Prop), Inv X pins σ H s → t σ H Q → wpAny (model X.prog X.w) X.A (isTrue e X.env (eval e X.env)) (TP X pins σ Q) X.xe s
/-- a test whatever its 'whole' is (and, or) -/
def PW (X : Cx) (e : Expr) (t : TT) : Prop :=
  ∀ (whole : Sem Value) (pins : List (Addr × Obj)) (s : Shared) (σ : St) (H : Hp) (Q : Bool → Hp → Prop), Inv X pins σ H s → t σ H Q → wpAny (model X.prog X.w) X.A (isTrue e X.env whole) (TP X pins σ Q) X.xe s
theorem PW.pt {X : Cx} {e : Expr} {t : TT} (h : PW X e t) : PT X e t := h _
/-- an argument list (no star), from the left -/
def PA (X : Cx) (es : List Expr) (t : TA) : Prop :=
  ∀ (pos : Pos) (pins : List (Addr × Obj)) (s : Shared) (σ : St) (H : Hp) (Q : List V → Hp → Prop), Inv X pins σ H s → t σ H Q → wpAny (model X.prog X.w) X.A (spliced (backTo pos (starEach es X.env))) (AP X pins σ Q) X.xe s
def PS (X : Cx) (st : Stmt) (t : TS) : Prop :=
  ∀ (pins : List (Addr × Obj)) (s : Shared) (σ : St) (H : Hp) (D : Ends), Inv X pins σ H s → t D σ H → wpAny (model X.prog X.w) X.A (exec st X.env) (SP X pins D) X.xe s
def PSs (X : Cx) (st : List Stmt) (t : TS) : Prop :=
  ∀ (pins : List (Addr × Obj)) (s : Shared) (σ : St) (H : Hp) (D : Ends), Inv X pins σ H s → t D σ H → wpAny (model X.prog X.w) X.A (execs st X.env) (SP X pins D) X.xe s
/-- weaken the end -/
theorem thn {α : Type} {t : Sem α} {Q Q' : α → Shared → Prop} {M : Model} {A : Around} {E : Value → Shared → Prop} {s : Shared} (h : wpAny M A t Q E s) (hQ : ∀ a s, Q a s → Q' a s) : wpAny M A t Q' E s := wpAny_mono h hQ fun _ _ x => x
end L2

namespace L2
open PySem PySem.Spec PyProof.Rows
section
variable {X : Cx}

/-- two expressions in a row -/
theorem bin {a b : Expr} {ta tb : TE} (ha : PE X a ta) (hb : PE X b tb) {pins : List (Addr × Obj)} {s : Shared} {σ : St} {H : Hp} {R : V → V → Hp → Prop} (I : Inv X pins σ H s) (h : ta σ H fun x H1 => tb σ H1 fun y H2 => R x y H2)
    {α : Type} {Q : α → Shared → Prop} {f : Value → Value → Sem α}
    (hf : ∀ v u s2 x y H2, Inv X pins σ H2 s2 → RelV x v → RelV y u → R x y H2 → wpAny (model X.prog X.w) X.A (f v u) Q X.xe s2) :
    wpAny (model X.prog X.w) X.A (eval a X.env) (fun v s₁ => wpAny (model X.prog X.w) X.A (eval b X.env) (fun u s₂ => wpAny (model X.prog X.w) X.A (f v u) Q X.xe s₂) X.xe s₁) X.xe s := by
  refine thn (ha pins s σ H _ I h) fun v s1 ⟨x, H1, I1, r1, q1⟩ => ?_
  refine thn (hb pins s1 σ H1 _ I1 q1) fun u s2 ⟨y, H2, I2, r2, q2⟩ => ?_
  exact hf v u s2 x y H2 I2 r1 r2 q2

/-! ### names and constants -/
def tVar (i : Nat) : TE := fun σ H Q => ∃ v, σ[i]? = some (some v) ∧ Q v H
def tC (v : V) : TE := fun _ H Q => Q v H
theorem pe_var {i : Nat} {x : Str} {pos : Pos} (hN : X.N[i]? = some x) (hv : Vis X.env.scope x) (hd : (x == ("__debug__" : Str)) = false := by decide) (hcd : (x == ("__classdict__" : Str)) = false := by decide) : PE X (.Name x pos) (tVar i) := by
  intro pins s σ H Q I h
  obtain ⟨v, e, h⟩ := h
  obtain ⟨m, hn, hl⟩ := I.loc
  obtain ⟨u, r, l⟩ := hl i x v hN e hv
  have fin : EP X pins σ Q u s := ⟨v, H, I, r, h⟩
  rcases l with ⟨hk, hm⟩ | ⟨hk, c, hc, hcell⟩
  · exact wpAny_Name (wpAny_loadName_local I.ok.kind hk hn hm fin) hd
  · rcases hk with hk | hk
    · exact wpAny_Name (wpAny_loadName_cell I.ok.kind hk hc hcell fin) hd
    · exact wpAny_Name (wpAny_loadName_free I.ok.kind hk hc hcell fin hcd) hd
theorem pe_int {i j pos} : PE X (.Constant (.int i) j pos) (tC (.int i)) := fun _ _ _ H _ I h => wpAny_Constant_int ⟨.int i, H, I.tok _, ⟨_, rfl⟩, h⟩
theorem pe_bl {b j pos} : PE X (.Constant (.bool b) j pos) (tC (.bl b)) := fun _ _ _ H _ I h => Constant_bool ⟨.bl b, H, I, rfl, h⟩
theorem pe_non {j pos} : PE X (.Constant .none j pos) (tC .non) := fun _ _ _ H _ I h => Constant_none ⟨.non, H, I, rfl, h⟩
theorem pe_str {x j pos} : PE X (.Constant (.str x) j pos) (tC (.str x)) := fun _ _ _ H _ I h => Calls.Constant_str ⟨.str x, H, I.tok _, ⟨_, rfl⟩, h⟩

/-- a global name of the def -/
def Gl (X : Cx) (x : Str) : Prop := X.env.kindOf x = some .globalImplicit
theorem ld_glob {E : Value → Shared → Prop} {pins : List (Addr × Obj)} {s : Shared} {σ : St} {H : Hp} {x : Str} {u : Value} {pos : Pos} {Q : Value → Shared → Prop} (I : Inv X pins σ H s) (hg : Gl X x) (hm : X.mg x = some u) (h : Q u s)
    (hd : (x == ("__debug__" : Str)) = false := by decide) : wpAny (model X.prog X.w) X.A (eval (.Name x pos) X.env) Q E s :=
  Calls.Name_function_global I.ok.kind hg (Calls.loadGlobal_global (by rw [I.ok.glob]; exact I.mod.glob.keeps I.bk) hm h) hd
theorem ld_blt {E : Value → Shared → Prop} {pins : List (Addr × Obj)} {s : Shared} {σ : St} {H : Hp} {x : Str} {u : Value} {pos : Pos} {Q : Value → Shared → Prop} (I : Inv X pins σ H s) (hg : Gl X x) (hm : X.mg x = none) (hv : bootBuiltins x = some u) (h : Q u s)
    (hn : x ≠ "__name__" := by decide) (hd : (x == ("__debug__" : Str)) = false := by decide) : wpAny (model X.prog X.w) X.A (eval (.Name x pos) X.env) Q E s := by
  obtain ⟨mb, h1, h2⟩ := I.mod.blt
  exact Calls.Name_function_global I.ok.kind hg (Calls.loadGlobal_builtin (by rw [I.ok.glob]; exact I.mod.glob.keeps I.bk) hm (by rw [I.ok.blt]; exact h1.keeps I.bk) ((h2 x hn).trans hv) h) hd
/-- a module's constant, a class, a function, as a value -/
theorem pe_glob {x : Str} {v : V} {u : Value} {pos : Pos} (hg : Gl X x) (hm : X.mg x = some u) (r : RelV v u) (hd : (x == ("__debug__" : Str)) = false := by decide) : PE X (.Name x pos) (tC v) :=
  fun _ _ _ H _ I h => ld_glob I hg hm ⟨v, H, I, r, h⟩ hd
theorem pe_bltn {x : Str} {v : V} {u : Value} {pos : Pos} (hg : Gl X x) (hm : X.mg x = none) (hv : bootBuiltins x = some u) (r : RelV v u) (hn : x ≠ "__name__" := by decide) (hd : (x == ("__debug__" : Str)) = false := by decide) : PE X (.Name x pos) (tC v) :=
  fun _ _ _ H _ I h => ld_blt I hg hm hv ⟨v, H, I, r, h⟩ hn hd

/-! ### arithmetic -/
/-- two ints -/
def t2I (ta tb : TE) (k : Int → Int → Hp → Prop) : St → Hp → Prop := fun σ H => ta σ H fun x H1 => tb σ H1 fun y H2 => ∃ i j, x = .int i ∧ y = .int j ∧ k i j H2
def tAdd (ta tb : TE) : TE := fun σ H Q => t2I ta tb (fun i j H2 => Q (.int (i + j)) H2) σ H
def tSub (ta tb : TE) : TE := fun σ H Q => t2I ta tb (fun i j H2 => Q (.int (i - j)) H2) σ H
/-- the left factor below 2^64 -/
def tMul (ta tb : TE) : TE := fun σ H Q => t2I ta tb (fun i j H2 => (-(2 ^ 64) < i ∧ i < 2 ^ 64) ∧ Q (.int (i * j)) H2) σ H
variable {a b : Expr} {ta tb : TE} {pos : Pos}
theorem pe_add (ha : PE X a ta) (hb : PE X b tb) : PE X (.BinOp a .Add b pos) (tAdd ta tb) := by
  intro pins s σ H Q I h
  refine wpAny_BinOp (bin ha hb I h fun v u s2 x y H2 I2 rx ry q => ?_)
  obtain ⟨i, j, rfl, rfl, q⟩ := q
  obtain ⟨t, rfl⟩ := rx
  obtain ⟨t', rfl⟩ := ry
  exact add_int ⟨.int _, H2, I2.tok _, ⟨_, rfl⟩, q⟩
theorem pe_sub (ha : PE X a ta) (hb : PE X b tb) : PE X (.BinOp a .Sub b pos) (tSub ta tb) := by
  intro pins s σ H Q I h
  refine wpAny_BinOp (bin ha hb I h fun v u s2 x y H2 I2 rx ry q => ?_)
  obtain ⟨i, j, rfl, rfl, q⟩ := q
  obtain ⟨t, rfl⟩ := rx
  obtain ⟨t', rfl⟩ := ry
  exact sub_int ⟨.int _, H2, I2.tok _, ⟨_, rfl⟩, q⟩
theorem pe_mul (ha : PE X a ta) (hb : PE X b tb) : PE X (.BinOp a .Mult b pos) (tMul ta tb) := by
  intro pins s σ H Q I h
  refine wpAny_BinOp (bin ha hb I h fun v u s2 x y H2 I2 rx ry q => ?_)
  obtain ⟨i, j, rfl, rfl, ⟨q1, q2⟩, q⟩ := q
  obtain ⟨t, rfl⟩ := rx
  obtain ⟨t', rfl⟩ := ry
  exact mul_int ⟨.int _, H2, I2.tok _, ⟨_, rfl⟩, q⟩ (.of_left (intBits_le_64 q1 q2))

/-! ### comparisons -/
def PC (X : Cx) (op : CmpOp) (a b : Expr) (t : TE) : Prop :=
  ∀ (pins : List (Addr × Obj)) (s : Shared) (σ : St) (H : Hp) (Q : VK), Inv X pins σ H s → t σ H Q →
    wpAny (model X.prog X.w) X.A (eval a X.env) (fun v s₁ => wpAny (model X.prog X.w) X.A (eval b X.env) (fun u s₂ => wpAny (model X.prog X.w) X.A (compareOp op v u) (EP X pins σ Q) X.xe s₂) X.xe s₁) X.xe s
theorem nobehind (b : Expr) {op : CmpOp} (h : op ≠ .In) (h2 : op ≠ .NotIn) : behindInMarks op b = false := by
  have e1 : (op == CmpOp.In) = false := by cases op <;> first | rfl | exact absurd rfl h
  have e2 : (op == CmpOp.NotIn) = false := by cases op <;> first | rfl | exact absurd rfl h2
  cases b <;> simp [behindInMarks, e1, e2]
def tCmp (p : Int → Int → Bool) (ta tb : TE) : TE := fun σ H Q => t2I ta tb (fun i j H2 => Q (.bl (p i j)) H2) σ H
abbrev tLt : TE → TE → TE := tCmp fun i j => decide (i < j)
abbrev tLe : TE → TE → TE := tCmp fun i j => decide (i ≤ j)
abbrev tGt : TE → TE → TE := tCmp fun i j => decide (j < i)
abbrev tGe : TE → TE → TE := tCmp fun i j => decide (j ≤ i)
abbrev tEqI : TE → TE → TE := tCmp fun i j => decide (i = j)
abbrev tNeI : TE → TE → TE := tCmp fun i j => !decide (i = j)
/-- a comparison of two ints, by its rule -/
theorem pc_int {op : CmpOp} {p : Int → Int → Bool} (ha : PE X a ta) (hb : PE X b tb)
    (rule : ∀ (i j : Int) (t u : Tok) (Q : Value → Shared → Prop) (s : Shared), Q (.bool (p i j)) s → wpAny (model X.prog X.w) X.A (compareOp op (.int i t) (.int j u)) Q X.xe s) : PC X op a b (tCmp p ta tb) := by
  intro pins s σ H Q I h
  refine bin ha hb I h fun v u s2 x y H2 I2 rx ry q => ?_
  obtain ⟨i, j, rfl, rfl, q⟩ := q
  obtain ⟨t, rfl⟩ := rx
  obtain ⟨t', rfl⟩ := ry
  exact rule i j t t' _ s2 ⟨.bl _, H2, I2, rfl, q⟩
theorem pc_lt (ha : PE X a ta) (hb : PE X b tb) : PC X .Lt a b (tLt ta tb) := pc_int ha hb fun _ _ _ _ _ _ h => lt_int h
theorem pc_le (ha : PE X a ta) (hb : PE X b tb) : PC X .LtE a b (tLe ta tb) := pc_int ha hb fun _ _ _ _ _ _ h => le_int h
theorem pc_gt (ha : PE X a ta) (hb : PE X b tb) : PC X .Gt a b (tGt ta tb) := pc_int ha hb fun _ _ _ _ _ _ h => gt_int h
theorem pc_ge (ha : PE X a ta) (hb : PE X b tb) : PC X .GtE a b (tGe ta tb) := pc_int ha hb fun _ _ _ _ _ _ h => ge_int h
theorem pc_eqI (ha : PE X a ta) (hb : PE X b tb) : PC X .Eq a b (tEqI ta tb) := pc_int ha hb fun _ _ _ _ _ _ h => eq_int (by rw [Bool.beq_eq_decide_eq]; exact h)
theorem pc_neI (ha : PE X a ta) (hb : PE X b tb) : PC X .NotEq a b (tNeI ta tb) := pc_int ha hb fun _ _ _ _ _ _ h => ne_int (by rw [bne, Bool.beq_eq_decide_eq]; exact h)
/-- is None -/
def tIsN (ta : TE) : TE := fun σ H Q => ta σ H fun x H1 => Q (.bl (decide (x = .non))) H1
def tNotN (ta : TE) : TE := fun σ H Q => ta σ H fun x H1 => Q (.bl (!decide (x = .non))) H1
theorem RelV.none_iff {x : V} {v : Value} (r : RelV x v) : (v == Value.none) = decide (x = .non) := by
  cases x with
  | non => cases r; rfl
  | bl _ => cases r; rfl
  | int _ => obtain ⟨t, rfl⟩ := r; rfl
  | str _ => obtain ⟨t, rfl⟩ := r; rfl
  | byt _ => obtain ⟨t, rfl⟩ := r; rfl
  | flt _ => obtain ⟨t, rfl⟩ := r; rfl
  | ref _ => cases r; rfl
  | ty _ => cases r; rfl
theorem pc_isN {j pos'} (ha : PE X a ta) : PC X .Is a (.Constant .none j pos') (tIsN ta) := by
  intro pins s σ H Q I h
  refine thn (ha pins s σ H _ I h) fun v s1 ⟨x, H1, I1, r1, q1⟩ => ?_
  exact Constant_none (is_none_gen ⟨.bl _, H1, I1, by rw [r1.none_iff]; rfl, q1⟩)
theorem pc_notN {j pos'} (ha : PE X a ta) : PC X .IsNot a (.Constant .none j pos') (tNotN ta) := by
  intro pins s σ H Q I h
  refine thn (ha pins s σ H _ I h) fun v s1 ⟨x, H1, I1, r1, q1⟩ => ?_
  exact Constant_none (isnot_none_gen ⟨.bl _, H1, I1, by rw [r1.none_iff]; rfl, q1⟩)
/-- a comparison as a value, as a test -/
def tB (t : TE) : TT := fun σ H Q => t σ H fun x H1 => ∃ c, x = .bl c ∧ Q c H1
theorem pe_cmp {op : CmpOp} {t : TE} (h : PC X op a b t) (h1 : behindInMarks op b = false := by first | exact nobehind _ (by decide) (by decide) | rfl) : PE X (.Compare a [op] [b] pos) t := fun pins s σ H Q I hw => wpAny_Compare1 (h pins s σ H Q I hw) h1
theorem pt_cmp {op : CmpOp} {t : TE} (h : PC X op a b t) (h1 : behindInMarks op b = false := by first | exact nobehind _ (by decide) (by decide) | rfl) : PT X (.Compare a [op] [b] pos) (tB t) := by
  intro pins s σ H Q I hw
  refine wpAny_isTrue_Compare1 (thn (h pins s σ H _ I hw) fun v s1 h1 => thn h1 fun u s2 h2 => thn h2 fun c s3 ⟨x, H1, I1, r1, q1⟩ => ?_) h1
  obtain ⟨d, rfl, q⟩ := q1
  cases r1
  exact wpAny_truthy_bool ⟨H1, I1, q⟩
/-- an expression whose value is a bool, as a test -/
theorem pt_val {e : Expr} {t : TE} (h : PE X e t) (he : ∀ whole, isTrue e X.env whole = (do let v ← whole; standAt e.pos; holding [v] (truthy v)) := by intro _; rfl) : PT X e (tB t) := by
  intro pins s σ H Q I hw
  refine isTrue_plain (thn (h pins s σ H _ I hw) fun v s1 ⟨x, H1, I1, r1, q1⟩ => ?_) (he _)
  obtain ⟨d, rfl, q⟩ := q1
  cases r1
  exact wpAny_truthy_bool ⟨H1, I1, q⟩

/-! ### and, or, not -/
variable {tA tB' : TT} {rest : List Expr}
def tAnd (t u : TT) : TT := fun σ H Q => t σ H fun c H1 => if c = true then u σ H1 Q else Q false H1
def tOr (t u : TT) : TT := fun σ H Q => t σ H fun c H1 => if c = true then Q true H1 else u σ H1 Q
def tNot (t : TT) : TT := fun σ H Q => t σ H fun c H1 => Q (!c) H1
theorem pw_and1 (ha : PT X a tA) : PW X (.BoolOp .And [a] pos) tA := by
  intro wh pins s σ H Q I h
  refine isTrue_and (thn (ha pins s σ H Q I h) fun c s1 e => ?_)
  cases c with
  | true => exact isTrue_and_nil e
  | false => exact e
theorem pw_or1 (ha : PT X a tA) : PW X (.BoolOp .Or [a] pos) tA := by
  intro wh pins s σ H Q I h
  refine isTrue_or (thn (ha pins s σ H Q I h) fun c s1 e => ?_)
  cases c with
  | false => exact isTrue_or_nil e
  | true => exact e
theorem pw_and (ha : PT X a tA) (hb : PW X (.BoolOp .And (b :: rest) pos) tB') : PW X (.BoolOp .And (a :: b :: rest) pos) (tAnd tA tB') := by
  intro wh pins s σ H Q I h
  refine isTrue_and (thn (ha pins s σ H _ I h) fun c s1 ⟨H1, I1, q1⟩ => ?_)
  cases c with
  | true => exact hb wh pins s1 σ H1 Q I1 q1
  | false => exact ⟨H1, I1, q1⟩
theorem pw_or (ha : PT X a tA) (hb : PW X (.BoolOp .Or (b :: rest) pos) tB') : PW X (.BoolOp .Or (a :: b :: rest) pos) (tOr tA tB') := by
  intro wh pins s σ H Q I h
  refine isTrue_or (thn (ha pins s σ H _ I h) fun c s1 ⟨H1, I1, q1⟩ => ?_)
  cases c with
  | true => exact ⟨H1, I1, q1⟩
  | false => exact hb wh pins s1 σ H1 Q I1 q1
theorem pt_not (ha : PT X a tA) : PT X (.UnaryOp .Not a pos) (tNot tA) := by
  intro pins s σ H Q I h
  exact isTrue_not (ha pins s σ H (fun c H1 => Q (!c) H1) I h)
/-- .. as values (bools) -/
def tAndV (ta tb : TE) : TE := fun σ H Q => ta σ H fun x H1 => ∃ c, x = .bl c ∧ if c = true then tb σ H1 Q else Q (.bl false) H1
def tOrV (ta tb : TE) : TE := fun σ H Q => ta σ H fun x H1 => ∃ c, x = .bl c ∧ if c = true then Q (.bl true) H1 else tb σ H1 Q
def tNotV (ta : TE) : TE := fun σ H Q => ta σ H fun x H1 => ∃ c, x = .bl c ∧ Q (.bl (!c)) H1
theorem pe_one {op} {t : TE} (h : PE X a t) : PE X (.BoolOp op [a] pos) t := fun pins s σ H Q I hw => BoolOp_one (h pins s σ H Q I hw)
theorem pe_and (ha : PE X a ta) (hb : PE X (.BoolOp .And (b :: rest) pos) tb) : PE X (.BoolOp .And (a :: b :: rest) pos) (tAndV ta tb) := by
  intro pins s σ H Q I h
  refine BoolOp_and (thn (ha pins s σ H _ I h) fun v s1 ⟨x, H1, I1, r1, q1⟩ => ?_)
  obtain ⟨c, rfl, q1⟩ := q1
  cases r1
  refine wpAny_truthy_bool ?_
  cases c with
  | true => exact hb pins s1 σ H1 Q I1 q1
  | false => exact ⟨.bl false, H1, I1, rfl, q1⟩
theorem pe_or (ha : PE X a ta) (hb : PE X (.BoolOp .Or (b :: rest) pos) tb) : PE X (.BoolOp .Or (a :: b :: rest) pos) (tOrV ta tb) := by
  intro pins s σ H Q I h
  refine BoolOp_or (thn (ha pins s σ H _ I h) fun v s1 ⟨x, H1, I1, r1, q1⟩ => ?_)
  obtain ⟨c, rfl, q1⟩ := q1
  cases r1
  refine wpAny_truthy_bool ?_
  cases c with
  | false => exact hb pins s1 σ H1 Q I1 q1
  | true => exact ⟨.bl true, H1, I1, rfl, q1⟩
theorem pe_not (ha : PE X a ta) : PE X (.UnaryOp .Not a pos) (tNotV ta) := by
  intro pins s σ H Q I h
  refine UnaryOp_ (thn (ha pins s σ H _ I h) fun v s1 ⟨x, H1, I1, r1, q1⟩ => ?_)
  obtain ⟨c, rfl, q1⟩ := q1
  cases r1
  exact not_of (wpAny_truthy_bool ⟨.bl (!c), H1, I1, rfl, q1⟩)
/-- a if t else b -/
def tIf (t : TT) (ta tb : TE) : TE := fun σ H Q => t σ H fun c H1 => if c = true then ta σ H1 Q else tb σ H1 Q
theorem pe_ifExp {c : Expr} (hc : PT X c tA) (ha : PE X a ta) (hb : PE X b tb) : PE X (.IfExp c a b pos) (tIf tA ta tb) := by
  intro pins s σ H Q I h
  refine wpAny_IfExp (thn (hc pins s σ H _ I h) fun d s1 ⟨H1, I1, q1⟩ => ?_)
  cases d with
  | true => exact ha pins s1 σ H1 Q I1 q1
  | false => exact hb pins s1 σ H1 Q I1 q1
end
end L2

namespace L2
open PySem PySem.Spec PyProof.Rows

/-! ### a list, a tuple that is read: tracked, frozen, or an object of the module -/
def SqL (K : PySem.W.Frag) (H : Hp) (a : Addr) (xs : List V) : Prop :=
  Rd H a (.lst xs) ∨
    ∃ (o : Obj) (its : Array Value) (n : Nat), K.lookup a = some o ∧ o.cls = .type "list" ∧ o.dict = none ∧ o.data = .seq its n ∧ its.size ≤ sizeLine ∧ Vals xs its.toList
def SqT (K : PySem.W.Frag) (H : Hp) (a : Addr) (xs : List V) : Prop :=
  Rd H a (.tup xs) ∨
    ∃ (o : Obj) (its : Array Value) (n : Nat), K.lookup a = some o ∧ o.cls = .type "tuple" ∧ o.data = .seq its n ∧ its.size ≤ sizeLine ∧ Vals xs its.toList
def absV : Value → Option V
  | .none => some .non
  | .bool b => some (.bl b)
  | .int i _ => some (.int i)
  | .str x _ => some (.str x)
  | .bytes b _ => some (.byt b)
  | .float b _ => some (.flt b)
  | .ref a => some (.ref a)
  | .type n => some (.ty n)
  | _ => none
theorem RelV.abs {x : V} {u : Value} (r : RelV x u) : absV u = some x := by
  cases x with
  | non => cases r; rfl
  | bl _ => cases r; rfl
  | int _ => obtain ⟨t, rfl⟩ := r; rfl
  | str _ => obtain ⟨t, rfl⟩ := r; rfl
  | byt _ => obtain ⟨t, rfl⟩ := r; rfl
  | flt _ => obtain ⟨t, rfl⟩ := r; rfl
  | ref _ => cases r; rfl
  | ty _ => cases r; rfl
theorem RelV.inj {x y : V} {u : Value} (r : RelV x u) (q : RelV y u) : x = y := Option.some.inj (r.abs.symm.trans q.abs)
theorem Vals.inj : ∀ {xs ys : List V} {us : List Value}, Vals xs us → Vals ys us → xs = ys
  | _, _, _, .nil, .nil => rfl
  | _, _, _, .cons r t, .cons r' t' => by rw [r.inj r', Vals.inj t t']
section
variable {X : Cx} {pins : List (Addr × Obj)} {σ : St} {H : Hp} {s : Shared} {a : Addr} {xs ys : List V}
theorem SqL.of {K : PySem.W.Frag} (h : H a = some (.lst xs)) : SqL K H a xs := .inl (.inl h)
theorem SqT.of {K : PySem.W.Frag} (h : H a = some (.tup xs)) : SqT K H a xs := .inl (.inl h)
theorem Inv.list (I : Inv X pins σ H s) (h : SqL X.K H a xs) : ∃ its : List Value, Vals xs its ∧ PlainL s.heap a its.toArray ∧ xs.length ≤ sizeLine := by
  rcases h with h | ⟨o, its, n, hk, hc, hd, hs, hz, r⟩
  · obtain ⟨z, its, n, r, e⟩ := h.ok I.hok
    exact ⟨its, r, ⟨_, n, e, rfl, rfl, rfl⟩, z⟩
  · refine ⟨its.toList, r, ⟨o, n, I.kIn a o hk, hc, hd, by simpa using hs⟩, ?_⟩
    have e := r.length
    simp only [Array.length_toList] at e
    omega
theorem Inv.tuple (I : Inv X pins σ H s) (h : SqT X.K H a xs) : ∃ its : List Value, Vals xs its ∧ IsTup s.heap a its.toArray ∧ xs.length ≤ sizeLine := by
  rcases h with h | ⟨o, its, n, hk, hc, hs, hz, r⟩
  · obtain ⟨z, its, r, p⟩ := h.ok I.hok
    exact ⟨its, r, p, z⟩
  · refine ⟨its.toList, r, ⟨o, I.kIn a o hk, hc, n, by simpa using hs⟩, ?_⟩
    have e := r.length
    simp only [Array.length_toList] at e
    omega
theorem Inv.list_inj (I : Inv X pins σ H s) (h : SqL X.K H a xs) (h' : SqL X.K H a ys) : xs = ys := by
  obtain ⟨its, r, ⟨o, n, e, _, _, d⟩, _⟩ := I.list h
  obtain ⟨its', r', ⟨o', n', e', _, _, d'⟩, _⟩ := I.list h'
  rw [e] at e'; cases e'
  rw [d] at d'
  injection d' with d1 _
  have : its = its' := by simpa using congrArg Array.toList d1
  subst this
  exact r.inj r'
theorem Inv.tuple_inj (I : Inv X pins σ H s) (h : SqT X.K H a xs) (h' : SqT X.K H a ys) : xs = ys := by
  obtain ⟨its, r, ⟨o, e, _, n, d⟩, _⟩ := I.tuple h
  obtain ⟨its', r', ⟨o', e', _, n', d'⟩, _⟩ := I.tuple h'
  rw [e] at e'; cases e'
  rw [d] at d'
  injection d' with d1 _
  have : its = its' := by simpa using congrArg Array.toList d1
  subst this
  exact r.inj r'
end

/-! ### another wish about exceptions -/
abbrev Cx.wish (X : Cx) (E : Value → Shared → Prop) : Cx := { X with xe := E }
/-- no exception leaves -/
abbrev Cx.nox (X : Cx) : Cx := X.wish fun _ _ => False
theorem Cx.Ok.wish {X : Cx} (ok : X.Ok) (E : Value → Shared → Prop) : (X.wish E).Ok :=
  ⟨ok.mod, ok.kind, ok.glob, ok.blt, ok.above, ok.inj, ok.has, ok.cab, ok.hd, ok.frames, ok.stk, ok.exf, ok.bs, ok.bsz, ok.noex, ok.exfs, ok.funs, ok.frf⟩
theorem Cx.Ok.unwish {X : Cx} {E : Value → Shared → Prop} (ok : (X.wish E).Ok) : X.Ok :=
  ⟨ok.mod, ok.kind, ok.glob, ok.blt, ok.above, ok.inj, ok.has, ok.cab, ok.hd, ok.frames, ok.stk, ok.exf, ok.bs, ok.bsz, ok.noex, ok.exfs, ok.funs, ok.frf⟩
section
variable {X : Cx} {pins : List (Addr × Obj)} {σ : St} {H : Hp} {s : Shared} {E : Value → Shared → Prop}
theorem Inv.wish (I : Inv X pins σ H s) (E : Value → Shared → Prop) : Inv (X.wish E) pins σ H s := ⟨I.ok.wish E, I.os, I.bare, I.base, I.loc, I.cell, I.free, I.freeC, I.pin, I.hok, I.len⟩
theorem Inv.unwish (I : Inv (X.wish E) pins σ H s) : Inv X pins σ H s := ⟨I.ok.unwish, I.os, I.bare, I.base, I.loc, I.cell, I.free, I.freeC, I.pin, I.hok, I.len⟩
theorem SP.unwish {D : Ends} {f : Flow} {s' : Shared} (h : SP (X.wish E) pins D f s') : SP X pins D f s' := by
  cases f with
  | next => obtain ⟨σ', H', I, q⟩ := h; exact ⟨σ', H', I.unwish, q⟩
  | brk => obtain ⟨σ', H', I, q⟩ := h; exact ⟨σ', H', I.unwish, q⟩
  | cont => obtain ⟨σ', H', I, q⟩ := h; exact ⟨σ', H', I.unwish, q⟩
  | ret u => obtain ⟨v, σ', H', I, r, q⟩ := h; exact ⟨v, σ', H', I.unwish, r, q⟩
theorem PE.nox {e : Expr} {t : TE} (h : PE X.nox e t) : PE X e t := fun pins s σ H Q I hw =>
  wpAny_mono (h pins s σ H Q (I.wish _) hw) (fun _ _ ⟨v, H', I', r, q⟩ => ⟨v, H', I'.unwish, r, q⟩) fun _ _ z => False.elim z
theorem PT.nox {e : Expr} {t : TT} (h : PT X.nox e t) : PT X e t := fun pins s σ H Q I hw =>
  wpAny_mono (h pins s σ H Q (I.wish _) hw) (fun _ _ ⟨H', I', q⟩ => ⟨H', I'.unwish, q⟩) fun _ _ z => False.elim z
theorem PSs.nox {st : List Stmt} {t : TS} (h : PSs X.nox st t) : PSs X st t := fun pins s σ H D I hw =>
  wpAny_mono (h pins s σ H D (I.wish _) hw) (fun _ _ q => q.unwish) fun _ _ z => False.elim z
end

/-! ### blocks and small statements -/
section
variable {X : Cx} {st : Stmt} {rest : List Stmt} {t u : TS} {e : Expr} {te : TE} {pos : Pos}
def tNext : TS := fun D σ H => D.nx σ H
def tSeq (t u : TS) : TS := fun D σ H => t { D with nx := u D } σ H
theorem pss_nil : PSs X [] tNext := fun _ _ σ H _ I h => wpAny_execs_nil ⟨σ, H, I, h⟩
theorem pss_cons (h1 : PS X st t) (h2 : PSs X rest u) : PSs X (st :: rest) (tSeq t u) := by
  intro pins s σ H D I h
  refine wpAny_execs_cons (thn (h1 pins s σ H { D with nx := u D } I h) fun f s1 q => ?_)
  cases f with
  | next =>
    obtain ⟨σ', H', I', q⟩ := q
    exact h2 pins s1 σ' H' D I' q
  | ret v => exact q
  | brk => exact q
  | cont => exact q
theorem pss_one (h1 : PS X st t) : PSs X [st] t := by
  intro pins s σ H D I h
  refine wpAny_execs_cons (thn (h1 pins s σ H D I h) fun f s1 q => ?_)
  cases f with
  | next => exact wpAny_execs_nil q
  | ret v => exact q
  | brk => exact q
  | cont => exact q
def tBreak : TS := fun D σ H => D.bk σ H
def tCont : TS := fun D σ H => D.ct σ H
theorem ps_pass : PS X (.Pass pos) tNext := fun _ _ σ H _ I h => wpAny_Pass ⟨σ, H, I, h⟩
theorem ps_break : PS X (.Break pos) tBreak := fun _ _ σ H _ I h => wpAny_Break ⟨σ, H, I, h⟩
theorem ps_continue : PS X (.Continue pos) tCont := fun _ _ σ H _ I h => wpAny_Continue ⟨σ, H, I, h⟩
/-- in a def's body nothing is shown -/
theorem Inv.quiet {pins : List (Addr × Obj)} {σ : St} {H : Hp} {s : Shared} (I : Inv X pins σ H s) : interactive X.env = false := by simp [interactive, I.ok.kind]
/-- a docstring -/
theorem ps_doc {x j pos pos'} : PS X (.Expr (.Constant (.str x) j pos) pos') tNext := fun _ s σ H _ I h => wpAny_Expr (Calls.Constant_str (show SP X _ _ .next { s with toks := s.toks + 1 } from ⟨σ, H, I.tok _, h⟩)) I.quiet
/-- an expression whose value is dropped -/
def tDrop (te : TE) : TS := fun D σ H => te σ H fun _ H1 => D.nx σ H1
theorem ps_expr (he : PE X e te) (hs : swapsWith e none pos.line X.env = pure false := by rfl) : PS X (.Expr e pos) (tDrop te) := by
  intro pins s σ H D I h
  exact wpAny_Expr_any (thn (he pins s σ H _ I h) fun v s1 ⟨x, H1, I1, r1, q1⟩ => ⟨σ, H1, I1, q1⟩) I.quiet hs
def tRet (te : TE) : TS := fun D σ H => te σ H D.rt
theorem ps_ret (he : PE X e te) : PS X (.Return (some e) pos) (tRet te) := by
  intro pins s σ H D I h
  exact wpAny_Return_some (thn (he pins s σ H _ I h) fun v s1 ⟨x, H1, I1, r1, q1⟩ => ⟨x, σ, H1, I1, r1, q1⟩)
def tRetN : TS := fun D _ H => D.rt .non H
theorem ps_retN : PS X (.Return none pos) tRetN := fun _ _ σ H _ I h => wpAny_Return_none ⟨.non, σ, H, I, rfl, h⟩
def tIfS (c : TT) (t u : TS) : TS := fun D σ H => c σ H fun b H1 => if b = true then t D σ H1 else u D σ H1
theorem ps_if {c : Expr} {a b : List Stmt} {tc : TT} (hc : PT X c tc) (ha : PSs X a t) (hb : PSs X b u) : PS X (.If c a b pos) (tIfS tc t u) := by
  intro pins s σ H D I h
  refine wpAny_If (thn (hc pins s σ H _ I h) fun d s1 ⟨H1, I1, q1⟩ => ?_)
  cases d with
  | true => exact ha pins s1 σ H1 D I1 q1
  | false => exact hb pins s1 σ H1 D I1 q1
/-- code that the proof never comes to -/
def tNever : TS := fun _ _ _ => False
theorem ps_never : PS X st tNever := fun _ _ _ _ _ _ h => h.elim
theorem pss_never {sts : List Stmt} : PSs X sts tNever := fun _ _ _ _ _ _ h => h.elim
end

/-! ### targets -/
abbrev TG := V → St → Hp → (St → Hp → Prop) → Prop
abbrev TGs := List V → St → Hp → (St → Hp → Prop) → Prop
def PG (X : Cx) (target : Expr) (t : TG) : Prop :=
  ∀ (pins : List (Addr × Obj)) (s : Shared) (σ : St) (H : Hp) (v : V) (u : Value) (Q : St → Hp → Prop), Inv X pins σ H s → RelV v u → t v σ H Q →
    wpAny (model X.prog X.w) X.A (assign target X.env u) (fun _ s' => ∃ σ' H', Inv X pins σ' H' s' ∧ Q σ' H') X.xe s
/-- several targets, one after another -/
def PGs (X : Cx) (ts : List Expr) (t : TGs) : Prop :=
  ∀ (pins : List (Addr × Obj)) (s : Shared) (σ : St) (H : Hp) (vs : List V) (us : List Value) (Q : St → Hp → Prop), Inv X pins σ H s → Vals vs us → t vs σ H Q →
    wpAny (model X.prog X.w) X.A (assignInOrder ((assignEach ts X.env).map (·.2)) us) (fun _ s' => ∃ σ' H', Inv X pins σ' H' s' ∧ Q σ' H') X.xe s
/-- o[i] = v, by values -/
abbrev TSet := V → V → V → Hp → (Hp → Prop) → Prop
def PSet (X : Cx) (t : TSet) : Prop :=
  ∀ (pins : List (Addr × Obj)) (s : Shared) (σ : St) (H : Hp) (o i v : V) (ov iv u : Value) (Q : Hp → Prop), Inv X pins σ H s → RelV o ov → RelV i iv → RelV v u → t o i v H Q →
    wpAny (model X.prog X.w) X.A (setItem ov iv u) (fun _ s' => ∃ H', Inv X pins σ H' s' ∧ Q H') X.xe s
/-- a op= b, by values -/
abbrev TIp := V → V → Hp → VK → Prop
def PIp (X : Cx) (op : Operator) (t : TIp) : Prop :=
  ∀ (pins : List (Addr × Obj)) (s : Shared) (σ : St) (H : Hp) (x y : V) (v u : Value) (Q : VK), Inv X pins σ H s → RelV x v → RelV y u → t x y H Q →
    wpAny (model X.prog X.w) X.A (inplaceOp op v u) (EP X pins σ Q) X.xe s
section
variable {X : Cx} {pos : Pos}
def gName (i : Nat) : TG := fun v σ H Q => Q (σ.set i (some v)) H
theorem pg_name {i : Nat} {x : Str} (hN : X.N.Nodup) (hi : X.N[i]? = some x) (hx : Loc X.env.scope x) (hf : X.fn x = true ∨ X.env.scope.names.lookup x = some .local := by first | exact .inl rfl | exact .inr rfl | assumption) : PG X (.Name x pos) (gName i) := by
  intro pins s σ H v u Q I r h
  exact wpAny_assign_Name (store_ok I hN hi hx r (fun s' I' => ⟨_, H, I', h⟩) hf)
def gNil : TGs := fun vs σ H Q => vs = [] ∧ Q σ H
def gCons (t : TG) (u : TGs) : TGs := fun vs σ H Q => ∃ v r, vs = v :: r ∧ t v σ H fun σ' H' => u r σ' H' Q
theorem pgs_nil : PGs X [] gNil := by
  intro pins s σ H vs us Q I r h
  obtain ⟨e, h⟩ := h
  subst e
  cases r
  exact assignInOrder_nil ⟨σ, H, I, h⟩
theorem pgs_cons {e : Expr} {es : List Expr} {t : TG} {u : TGs} (h1 : PG X e t) (h2 : PGs X es u)
    (hs : (assignEach (e :: es) X.env).map (·.2) = assign e X.env :: (assignEach es X.env).map (·.2) := by rfl) : PGs X (e :: es) (gCons t u) := by
  intro pins s σ H vs us Q I r h
  obtain ⟨v, vr, e1, h⟩ := h
  subst e1
  cases r with
  | cons r rr =>
    rw [hs]
    refine assignInOrder_cons (thn (h1 pins s σ H _ _ _ I r h) fun _ s1 ⟨σ1, H1, I1, q1⟩ => ?_)
    exact h2 pins s1 σ1 H1 _ _ Q I1 rr q1
/-- (a, b, ..) = a tuple of that length -/
def gTup (K : PySem.W.Frag) (n : Nat) (t : TGs) : TG := fun v σ H Q => ∃ a xs, v = .ref a ∧ SqT K H a xs ∧ xs.length = n ∧ t xs σ H Q
theorem pg_tup {es : List Expr} {k : Nat} {t : TGs} {n : Nat} (hc : X.calm = true) (h : PGs X es t)
    (hn : (assignEach es X.env).length = n := by rfl) (hst : (assignEach es X.env).findIdx? (·.1) = none := by rfl) : PG X (.Tuple es k pos) (gTup X.K n t) := by
  intro pins s σ H v u Q I r hw
  obtain ⟨a, xs, e1, hq, hl, hw⟩ := hw
  subst e1
  cases r
  obtain ⟨its, rv, ht, hz⟩ := I.tuple hq
  refine assign_Tuple_tuple (I.ok.hd hc) ht (by simp [hn, ← hl, rv.length]) hst fun h' hx => ?_
  have I1 : Inv X pins σ H { s with heap := h' } := I.kept (t' := s.toks) fun b o e => hx b o (Nat.ne_of_lt (Heap.lt_size e)) e
  exact h pins _ σ H xs _ Q I1 (by simpa using rv) hw
/-- o[i] = .. -/
def gSub (to ti : TE) (t : TSet) : TG := fun v σ H Q => to σ H fun o H1 => ti σ H1 fun i H2 => t o i v H2 fun H3 => Q σ H3
theorem pg_sub {o i : Expr} {to ti : TE} {t : TSet} (ho : PE X o to) (hi : PE X i ti) (hs : PSet X t)
    (ha : ∀ v, assign (.Subscript o i pos) X.env v = (do
      let ov ← holding [v] (eval o X.env)
      let iv ← holding [v, ov] (eval i X.env)
      standAt pos
      holding [v, ov, iv] (setItem ov iv v)
      release [v, ov, iv] []) := by intro _; rfl) : PG X (.Subscript o i pos) (gSub to ti t) := by
  intro pins s σ H v u Q I r h
  rw [ha]
  refine wpAny_bind (wpAny_holding (thn (ho pins s σ H _ I h) fun ov s1 ⟨x, H1, I1, r1, q1⟩ => ?_))
  refine wpAny_bind (wpAny_holding (thn (hi pins s1 σ H1 _ I1 q1) fun iv s2 ⟨y, H2, I2, r2, q2⟩ => ?_))
  refine wpAny_bind (wpAny_standAt (wpAny_bind (wpAny_holding (thn (hs pins s2 σ H2 x y v ov iv u _ I2 r1 r2 r q2) fun _ s3 ⟨H3, I3, q3⟩ => ?_))))
  exact wpAny_release ⟨σ, H3, I3, q3⟩
/-- target = value -/
def tAsg (te : TE) (g : TG) : TS := fun D σ H => te σ H fun x H1 => g x σ H1 D.nx
theorem ps_asg {tg e : Expr} {te : TE} {g : TG} (he : PE X e te) (hg : PG X tg g) (hs : swapsWithSole [tg] e pos.line X.env = pure false := by rfl) (hw : swappedStores [tg] e X.env = pure none := by rfl)
    (h1 : (assignEach [tg] X.env).map (·.2) = [assign tg X.env] := by rfl) : PS X (.Assign [tg] e pos) (tAsg te g) := by
  intro pins s σ H D I h
  refine wpAny_Assign_stores (thn (he pins s σ H _ I h) fun v s1 ⟨x, H1, I1, r1, q1⟩ => ?_) hs hw
  rw [h1]
  exact thn (hg pins s1 σ H1 x v _ I1 r1 q1) fun _ s2 q => q
/-- name = value -/
theorem ps_set {i : Nat} {x : Str} {e : Expr} {te : TE} {pos' : Pos} (hN : X.N.Nodup) (hi : X.N[i]? = some x) (hx : Loc X.env.scope x) (he : PE X e te) (hs : swapsWith e (some (.Name x pos')) pos.line X.env = pure false := by rfl) (hf : X.fn x = true ∨ X.env.scope.names.lookup x = some .local := by first | exact .inl rfl | exact .inr rfl | assumption) :
    PS X (.Assign [.Name x pos'] e pos) (tAsg te (gName i)) := by
  intro pins s σ H D I h
  refine wpAny_Assign_Name (thn (he pins s σ H _ I h) fun v s1 ⟨y, H1, I1, r1, q1⟩ => ?_) hs
  exact store_ok I1 hN hi hx r1 (fun s2 I2 => ⟨_, H1, I2, q1⟩) hf
/-- a, b = x, y with plain local names: stored from the right; the pair itself is not tracked (the opening rows as in PyProof/Rows/TupAssign.lean:23) -/
def tPar (i j : Nat) (ta : TA) : TS := fun D σ H => ta σ H fun vs H1 => ∃ v w, vs = [v, w] ∧ D.nx ((σ.set i (some v)).set j (some w)) H1
theorem ps_par {i j : Nat} {x y : Str} {a b : Expr} {ta : TA} {px py pt : Pos} {kt k2 pt2} (hc : X.calm = true) (hN : X.N.Nodup) (hi : X.N[i]? = some x) (hj : X.N[j]? = some y) (hij : i ≠ j)
    (hx : X.env.scope.names.lookup x = some .local) (hy : X.env.scope.names.lookup y = some .local) (ha : PA X [a, b] ta)
    (hw : swappedStores [.Tuple [.Name x px, .Name y py] kt pt] (.Tuple [a, b] k2 pt2) X.env = pure (some [x, y]))
    (hs : swapsWithSole [.Tuple [.Name x px, .Name y py] kt pt] (.Tuple [a, b] k2 pt2) pos.line X.env = pure false := by rfl) :
    PS X (.Assign [.Tuple [.Name x px, .Name y py] kt pt] (.Tuple [a, b] k2 pt2) pos) (tPar i j ta) := by
  intro pins s σ H D I h
  rw [exec_Assign_arm]
  refine wpAny_bind (wpAny_standAt ?_)
  rw [hs]
  refine wpAny_bind (wpAny_pure ?_)
  rw [if_neg (by decide)]
  refine wpAny_bind (Tuple_ (thn (ha _ pins s σ H _ I h) fun us s1 ⟨vs, H1, I1, r1, q1⟩ => ?_))
  obtain ⟨v, w, e1, q1⟩ := q1
  subst e1
  obtain ⟨u1, u2, rfl, rv, rw'⟩ : ∃ u1 u2, us = [u1, u2] ∧ RelV v u1 ∧ RelV w u2 := by
    cases r1 with
    | cons p q =>
      cases q with
      | cons p' q' =>
        cases q'
        exact ⟨_, _, rfl, p, p'⟩
  refine wpAny_newObj_type ?_ (by show 2 ≤ sizeLine; decide)
  have I2 : Inv X pins σ H1 { s1 with heap := s1.heap.push { cls := .type "tuple", data := .seq [u1, u2].toArray } } := I1.kept (t' := s1.toks) fun b o e => Heap.get?_push_of_some _ e
  rw [hw]
  refine wpAny_bind (wpAny_pure ?_)
  show wpAny (model X.prog X.w) X.A (do rule "assign.swapped-stores"; let items ← unpackItems (.ref s1.heap.objs.size) 2 none; assignInOrder [fun v => bindName X.env y v, fun v => bindName X.env x v] items.reverse; pure Flow.next) _ _ _
  refine wpAny_bind (wpAny_rule (wpAny_bind (unpackItems_tuple (items := #[u1, u2]) (I.ok.hd hc) (IsTup.new s1.heap _) fun h' hx' => ?_)))
  have I3 := I2.kept (h' := h') (t' := s1.toks) fun b o e => hx' b o (Nat.ne_of_lt (Heap.lt_size e)) e
  show wpAny _ _ (assignInOrder [fun v => bindName X.env y v, fun v => bindName X.env x v] [u2, u1] >>= fun _ => pure Flow.next) _ _ _
  refine wpAny_bind (assignInOrder_cons (wpAny_bindName (store_ok I3 hN hj (.inl hy) rw' (fun s2 I4 => ?_) (.inr hy))))
  refine assignInOrder_cons (wpAny_bindName (store_ok I4 hN hi (.inl hx) rv (fun s3 I5 => assignInOrder_nil (wpAny_pure ?_)) (.inr hx)))
  rw [List.set_comm _ _ (Ne.symm hij)] at I5
  exact ⟨_, H1, I5, q1⟩
/-- name op= e -/
def tAug (i : Nat) (te : TE) (ti : TIp) : TS := fun D σ H => ∃ x, σ[i]? = some (some x) ∧ te σ H fun y H1 => ti x y H1 fun z H2 => D.nx (σ.set i (some z)) H2
theorem ps_aug {i : Nat} {x : Str} {e : Expr} {te : TE} {op : Operator} {ti : TIp} {pos' : Pos} (hN : X.N.Nodup) (hi : X.N[i]? = some x) (hx : Loc X.env.scope x) (he : PE X e te) (ho : PIp X op ti) (hf : X.fn x = true ∨ X.env.scope.names.lookup x = some .local := by first | exact .inl rfl | exact .inr rfl | assumption) :
    PS X (.AugAssign (.Name x pos') op e pos) (tAug i te ti) := by
  intro pins s σ H D I h
  obtain ⟨v, e1, h⟩ := h
  obtain ⟨m, hn, hl⟩ := I.loc
  have vis : Vis X.env.scope x := by rcases hx with k | k; exact .inl k; exact .inr (.inl k)
  obtain ⟨u, r, l⟩ := hl i x v hi e1 vis
  refine wpAny_AugAssign_Name ?_
  have go : wpAny (model X.prog X.w) X.A (eval e X.env) (fun w s₂ => wpAny (model X.prog X.w) X.A (inplaceOp op u w) (fun r s₃ => wpAny (model X.prog X.w) X.A (storeName X.env x r) (fun _ => SP X pins D .next) X.xe s₃) X.xe s₂) X.xe s := by
    refine thn (he pins s σ H _ I h) fun w s1 ⟨y, H1, I1, r1, q1⟩ => ?_
    refine thn (ho pins s1 σ H1 v y u w _ I1 r r1 q1) fun z s2 ⟨zv, H2, I2, r2, q2⟩ => ?_
    exact store_ok I2 hN hi hx r2 (fun s3 I3 => ⟨_, H2, I3, q2⟩) hf
  rcases l with ⟨hk, hm⟩ | ⟨hk, c, hc, hcell⟩
  · exact wpAny_loadName_local I.ok.kind hk hn hm go
  · rcases hk with hk | hk
    · exact wpAny_loadName_cell I.ok.kind hk hc hcell go
    · rcases hx with k | k
      · have : X.env.scope.names.lookup x = some .free := hk
        rw [k] at this; cases this
      · have : X.env.scope.names.lookup x = some .free := hk
        rw [k] at this; cases this
/-- o[i] op= e -/
def tAugS (to ti te : TE) (tget : V → V → Hp → VK → Prop) (tip : TIp) (tset : TSet) : TS := fun D σ H => to σ H fun o H1 => ti σ H1 fun i H2 => tget o i H2 fun x H3 => te σ H3 fun y H4 => tip x y H4 fun z H5 => tset o i z H5 fun H6 => D.nx σ H6
/-- o[i], by values -/
def PGet (X : Cx) (t : V → V → Hp → VK → Prop) : Prop :=
  ∀ (pins : List (Addr × Obj)) (s : Shared) (σ : St) (H : Hp) (o i : V) (ov iv : Value) (Q : VK), Inv X pins σ H s → RelV o ov → RelV i iv → t o i H Q →
    wpAny (model X.prog X.w) X.A (getItem ov iv) (EP X pins σ Q) X.xe s
theorem ps_augS {o i e : Expr} {to ti te : TE} {tget : V → V → Hp → VK → Prop} {tip : TIp} {tset : TSet} {op : Operator} {tpos : Pos} (ho : PE X o to) (hi : PE X i ti) (hg : PGet X tget) (he : PE X e te) (hp : PIp X op tip) (hs : PSet X tset)
    (ha : ∀ ov iv new, augStore i ov iv new = (do holding [new, ov, iv] (setItem ov iv new); release [new, ov, iv] []; pure .next) := by intros; rfl) : PS X (.AugAssign (.Subscript o i tpos) op e pos) (tAugS to ti te tget tip tset) := by
  intro pins s σ H D I h
  refine wpAny_AugAssign_SubscriptAny (thn (ho pins s σ H _ I h) fun ov s1 ⟨x1, H1, I1, r1, q1⟩ => ?_) ha
  refine thn (hi pins s1 σ H1 _ I1 q1) fun iv s2 ⟨x2, H2, I2, r2, q2⟩ => ?_
  refine thn (hg pins s2 σ H2 x1 x2 ov iv _ I2 r1 r2 q2) fun old s3 ⟨x3, H3, I3, r3, q3⟩ => ?_
  refine thn (he pins s3 σ H3 _ I3 q3) fun v s4 ⟨x4, H4, I4, r4, q4⟩ => ?_
  refine thn (hp pins s4 σ H4 x3 x4 old v _ I4 r3 r4 q4) fun new s5 ⟨x5, H5, I5, r5, q5⟩ => ?_
  exact thn (hs pins s5 σ H5 x1 x2 x5 ov iv new _ I5 r1 r2 r5 q5) fun _ s6 ⟨H6, I6, q6⟩ => ⟨σ, H6, I6, q6⟩
/-- ints -/
def ipI (f : Int → Int → Int) : TIp := fun x y H Q => ∃ i j, x = .int i ∧ y = .int j ∧ Q (.int (f i j)) H
theorem ip_add : PIp X .Add (ipI fun i j => i + j) := by
  intro pins s σ H x y v u Q I r1 r2 h
  obtain ⟨i, j, e1, e2, q⟩ := h
  subst e1; subst e2
  obtain ⟨t, rfl⟩ := r1
  obtain ⟨t', rfl⟩ := r2
  exact iadd_int ⟨.int _, H, I.tok _, ⟨_, rfl⟩, q⟩
theorem ip_sub : PIp X .Sub (ipI fun i j => i - j) := by
  intro pins s σ H x y v u Q I r1 r2 h
  obtain ⟨i, j, e1, e2, q⟩ := h
  subst e1; subst e2
  obtain ⟨t, rfl⟩ := r1
  obtain ⟨t', rfl⟩ := r2
  exact isub_int ⟨.int _, H, I.tok _, ⟨_, rfl⟩, q⟩
end

/-! ### while -/
section
variable {X : Cx} {pos : Pos}
/-- the invariant W with its measure -/
def tWhile (c : TT) (tb : TS) : TS := fun D σ H => ∃ W : Nat → St → Hp → Prop, (∃ m, W m σ H) ∧ ∀ m σ H, W m σ H →
  c σ H fun b H1 => if b = true then ∃ N : St → Hp → Prop, (∀ σ' H', N σ' H' → ∃ m', m' < m ∧ W m' σ' H') ∧ tb { D with nx := N, ct := N, bk := D.nx } σ H1 else D.nx σ H1
theorem ps_while {c : Expr} {body : List Stmt} {tc : TT} {tb : TS} (hp : PassesOwn (model X.prog X.w) X.A X.env X.xe) (hc : PT X c tc) (hb : PSs X body tb) : PS X (.While c body [] pos) (tWhile tc tb) := by
  intro pins s σ H D I h
  obtain ⟨W, ⟨m0, w0⟩, turn⟩ := h
  refine wpAny_While (codeAny_whileLoop (fun n s' => ∃ σ' H', Inv X pins σ' H' s' ∧ W n σ' H') ?_ m0 ⟨σ, H, I, w0⟩)
  rintro n s1 ⟨σ1, H1, I1, w1⟩
  refine wpAny_passesOwn hp (thn (hc pins s1 σ1 H1 _ I1 (turn n σ1 H1 w1)) fun b s2 ⟨H2, I2, q2⟩ => ?_)
  cases b with
  | true =>
    obtain ⟨N, hN, q2⟩ := q2
    rw [if_pos rfl]
    refine wpAny_passesOwn hp (thn (hb pins s2 σ1 H2 _ I2 q2) fun f s3 q3 => ?_)
    cases f with
    | next =>
      obtain ⟨σ3, H3, I3, n3⟩ := q3
      obtain ⟨m', hm, w3⟩ := hN σ3 H3 n3
      exact ⟨m', hm, σ3, H3, I3, w3⟩
    | cont =>
      obtain ⟨σ3, H3, I3, n3⟩ := q3
      obtain ⟨m', hm, w3⟩ := hN σ3 H3 n3
      exact ⟨m', hm, σ3, H3, I3, w3⟩
    | brk => exact q3
    | ret v => exact q3
  | false =>
    rw [if_neg Bool.false_ne_true]
    exact wpAny_execs_nil ⟨σ1, H2, I2, q2⟩
end

/-! ### what a loop or a comprehension walks -/
/-- at turn i: it yields x (the heap may grow), or it stops -/
structure It where
  go : Nat → Hp → Prop
  yld : Nat → Hp → V → Hp → Prop
  stop : Nat → Hp → Prop
/-- the iterator's own objects may turn: they are not the frame's, not pinned, younger than the entry (or a comprehension's own) -/
def FpOk (X : Cx) (pins : List (Addr × Obj)) (H : Hp) (b : Addr) : Prop :=
  H b = none ∧ b ≠ X.env.locals ∧ b ∉ X.fs ∧ (b ∈ X.ex ∨ X.s₀.heap.objs.size ≤ b) ∧ (∀ x c, X.env.cells.lookup x = some c → c ≠ b) ∧ ∀ p ∈ X.pn ++ pins, p.1 ≠ b
theorem Inv.fpOk {X : Cx} {pins : List (Addr × Obj)} {σ : St} {H H' : Hp} {s : Shared} {b : Addr} (I : Inv X pins σ H s) (hb : s.heap.objs.size ≤ b) (hn : H' b = none) : FpOk X pins H' b := by
  refine ⟨hn, Nat.ne_of_gt (Nat.lt_of_lt_of_le I.lt hb), I.nofs hb, .inr (Nat.le_trans I.sz hb), fun x c e z => ?_, fun p hp z => ?_⟩
  · obtain ⟨v, q⟩ := I.cell x c e
    exact absurd (Nat.lt_of_lt_of_le q.lt (by rw [z]; exact hb)) (Nat.lt_irrefl _)
  · exact absurd (Nat.lt_of_lt_of_le (Heap.lt_size (I.pin p hp).1) (by rw [z]; exact hb)) (Nat.lt_irrefl _)
structure Turn (P : Program) (w : World) (K : PySem.W.Frag) (tg : Expr) (J : It) (fp : List Addr) (it : Addr) (tn : Nat → Heap → Prop) : Prop where
  mem : it ∈ fp
  obj : ∀ i h, tn i h → ∀ b ∈ fp, ∃ o, h.get? b = some o ∧ ∀ v, o.data ≠ .cell v
  keep : ∀ i h h', tn i h → (∀ b ∈ fp, ∀ o, h.get? b = some o → h'.get? b = some o) → tn i h'
  item : ∀ (X : Cx), X.prog = P → X.w = w → X.K = K → X.calm = true → ∀ (i : Nat) (pins : List (Addr × Obj)) (s : Shared) (σ : St) (H : Hp) (E : Value → Shared → Prop), Inv X pins σ H s → (∀ b ∈ fp, FpOk X pins H b) → tn i s.heap → J.go i H →
    wpAny (model P w) X.A (pyNext (.ref it)) (fun r s1 => ∃ u, r = some u ∧
      wpAny (model P w) X.A (letOwnedTupleGo tg (.ref it) u) (fun _ s2 => ∃ x H', Inv X pins σ H' s2 ∧ RelV x u ∧ J.yld i H x H' ∧ tn (i + 1) s2.heap ∧ ∀ b ∈ fp, H' b = none) E s1) E s
  done : ∀ (X : Cx), X.prog = P → X.w = w → X.K = K → X.calm = true → ∀ (i : Nat) (pins : List (Addr × Obj)) (s : Shared) (σ : St) (H : Hp) (E : Value → Shared → Prop), Inv X pins σ H s → (∀ b ∈ fp, FpOk X pins H b) → tn i s.heap → J.stop i H →
    wpAny (model P w) X.A (pyNext (.ref it)) (fun r s1 => r = none ∧ Inv X pins σ H s1) E s
  self : ∀ (A : Around) (i : Nat) (s : Shared) (Q : Value → Shared → Prop) (E : Value → Shared → Prop), tn i s.heap → Q (.ref it) s → wpAny (model P w) A (pyIter (.ref it)) Q E s
abbrev TI := St → Hp → (It → Hp → Prop) → Prop
/-- an iterator has come -/
def PIE (X : Cx) (pins : List (Addr × Obj)) (σ : St) (tg : Expr) (R : It → Hp → Prop) (itv : Value) (s2 : Shared) : Prop :=
  ∃ (it : Addr) (fp : List Addr) (tn : Nat → Heap → Prop) (J : It) (H' : Hp), itv = .ref it ∧ Inv X pins σ H' s2 ∧ Turn X.prog X.w X.K tg J fp it tn ∧ tn 0 s2.heap ∧ (∀ b ∈ fp, FpOk X pins H' b) ∧ R J H'
def PI (X : Cx) (tg iter : Expr) (wi : TI) : Prop :=
  ∀ (pins : List (Addr × Obj)) (s : Shared) (σ : St) (H : Hp) (R : It → Hp → Prop), Inv X pins σ H s → wi σ H R →
    wpAny (model X.prog X.w) X.A (eval iter X.env) (fun v s1 => wpAny (model X.prog X.w) X.A (pyIter v) (PIE X pins σ tg R) X.xe s1) X.xe s

/-- the step ahead of the store is nothing for an iterator that keeps no tuple -/
theorem go_of {M : Model} {A : Around} {E : Value → Shared → Prop} {s : Shared} {tg : Expr} {it : Addr} {u : Value} {o : Obj} {n : String} {vs : Array Value} {Q : Unit → Shared → Prop} (ho : s.heap.get? it = some o) (hc : o.cls = .type n) (hd : o.data = .fields vs)
    (hn : ["enumerate", "zip", "dict_itemiterator", "dict_reverseitemiterator", "odict_iterator", "itertools.zip_longest", "itertools.pairwise"].contains n = false) (hQ : Q () s) : wpAny M A (letOwnedTupleGo tg (.ref it) u) Q E s := by
  unfold letOwnedTupleGo
  cases tg <;> first
    | exact wpAny_pure hQ
    | (cases u <;> first
        | exact wpAny_pure hQ
        | (refine wpAny_bind (wpAny_load ho ?_)
           rw [hc, hd]
           show wpAny M A (if (["enumerate", "zip", "dict_itemiterator", "dict_reverseitemiterator", "odict_iterator", "itertools.zip_longest", "itertools.pairwise"].contains n && vs[0]? == some (rawInt _)) = true then _ else _) Q E s
           rw [if_neg (by intro h; rw [hn, Bool.false_and] at h; cases h)]
           exact wpAny_pure hQ))

/-- the list at a, as it stands at each turn (a loop may append to it) -/
def Itl (K : PySem.W.Frag) (a : Addr) : It :=
  ⟨fun i H => ∃ xs x, SqL K H a xs ∧ xs[i]? = some x, fun i H x H' => H' = H ∧ ∀ xs, SqL K H a xs → xs[i]? = some x, fun i H => ∃ xs, SqL K H a xs ∧ xs.length ≤ i⟩
def Itt (K : PySem.W.Frag) (a : Addr) : It :=
  ⟨fun i H => ∃ xs x, SqT K H a xs ∧ xs[i]? = some x, fun i H x H' => H' = H ∧ ∀ xs, SqT K H a xs → xs[i]? = some x, fun i H => ∃ xs, SqT K H a xs ∧ xs.length ≤ i⟩
/-- lo, lo + 1, .. (n of them) -/
def Itr (lo : Int) (n : Nat) : It := ⟨fun i _ => i < n, fun i H x H' => H' = H ∧ x = .int (lo + i), fun i _ => n ≤ i⟩
theorem turn_list {P : Program} {w : World} {K : PySem.W.Frag} {tg : Expr} (a it : Addr) : Turn P w K tg (Itl K a) [it] it (fun i h => h.IsListIter it a i) where
  mem := by simp
  obj := fun i h st b hb => by
    have e : b = it := by simpa using hb
    subst e
    obtain ⟨o, e, c, d⟩ := st
    exact ⟨o, e, fun v z => by rw [d] at z; cases z⟩
  keep := fun i h h' st k => st.at fun o e => k it (by simp) o e
  item := by
    intro X hP hw hK hc i pins s σ H E I hf st hg
    subst hP hw hK
    obtain ⟨xs, x, hq, hx⟩ := hg
    obtain ⟨its, rv, p, hz⟩ := I.list hq
    obtain ⟨u, hu, ru⟩ := rv.get hx
    obtain ⟨f0, f1, f2, f3, f4, f5⟩ := hf it (by simp)
    refine wpAny_pyNext_list_item st p.isList (x := u) (by simpa using hu) fun h' st' sb => ?_
    have I1 : Inv X pins σ H { s with heap := h' } := I.turned (t' := s.toks) (fun b o hb e => (sb.2 b hb).trans e) f0 f1 f3 f4 f5
    obtain ⟨o, e, c, d⟩ := id st'
    exact ⟨u, rfl, go_of (s := { s with heap := h' }) e c d (by decide) ⟨x, H, I1, ru, ⟨rfl, fun ys hy => by rw [I.list_inj hy hq]; exact hx⟩, st', fun b hb => (hf b hb).1⟩⟩
  done := by
    intro X hP hw hK hc i pins s σ H E I hf st hg
    subst hP hw hK
    obtain ⟨xs, hq, hx⟩ := hg
    obtain ⟨its, rv, p, hz⟩ := I.list hq
    obtain ⟨f0, f1, f2, f3, f4, f5⟩ := hf it (by simp)
    have hl := rv.length
    exact wpAny_pyNext_list_end (I.ok.hd hc) st p.isList (by simp; omega) fun h' eb => ⟨rfl, I.turned (t' := s.toks) (fun b o hb e => eb b o hb e) f0 f1 f3 f4 f5⟩
  self := fun _ _ _ _ _ st h => wpAny_pyIter_listiter st h
theorem turn_tuple {P : Program} {w : World} {K : PySem.W.Frag} {tg : Expr} (a it : Addr) : Turn P w K tg (Itt K a) [it] it (fun i h => h.IsTupleIter it a i) where
  mem := by simp
  obj := fun i h st b hb => by
    have e : b = it := by simpa using hb
    subst e
    obtain ⟨o, e, c, d⟩ := st
    exact ⟨o, e, fun v z => by rw [d] at z; cases z⟩
  keep := fun i h h' st k => st.at fun o e => k it (by simp) o e
  item := by
    intro X hP hw hK hc i pins s σ H E I hf st hg
    subst hP hw hK
    obtain ⟨xs, x, hq, hx⟩ := hg
    obtain ⟨its, rv, p, hz⟩ := I.tuple hq
    obtain ⟨u, hu, ru⟩ := rv.get hx
    obtain ⟨f0, f1, f2, f3, f4, f5⟩ := hf it (by simp)
    refine wpAny_pyNext_tuple_item st (show s.heap.IsTuple a its.toArray from p) (x := u) (by simpa using hu) fun h' st' sb => ?_
    have I1 : Inv X pins σ H { s with heap := h' } := I.turned (t' := s.toks) (fun b o hb e => (sb.2 b hb).trans e) f0 f1 f3 f4 f5
    obtain ⟨o, e, c, d⟩ := id st'
    exact ⟨u, rfl, go_of (s := { s with heap := h' }) e c d (by decide) ⟨x, H, I1, ru, ⟨rfl, fun ys hy => by rw [I.tuple_inj hy hq]; exact hx⟩, st', fun b hb => (hf b hb).1⟩⟩
  done := by
    intro X hP hw hK hc i pins s σ H E I hf st hg
    subst hP hw hK
    obtain ⟨xs, hq, hx⟩ := hg
    obtain ⟨its, rv, p, hz⟩ := I.tuple hq
    obtain ⟨f0, f1, f2, f3, f4, f5⟩ := hf it (by simp)
    have hl := rv.length
    exact wpAny_pyNext_tuple_end (I.ok.hd hc) st (show s.heap.IsTuple a its.toArray from p) (by simp; omega) fun h' eb => ⟨rfl, I.turned (t' := s.toks) (fun b o hb e => eb b o hb e) f0 f1 f3 f4 f5⟩
  self := fun _ _ _ _ _ st h => wpAny_pyIter_tupleiter st h
theorem turn_range {P : Program} {w : World} {K : PySem.W.Frag} {tg : Expr} (it : Addr) (lo : Int) (n : Nat) : Turn P w K tg (Itr lo n) [it] it (fun i h => IsRangeIter h it (lo + (i : Nat) * 1) ((n : Int) - (i : Nat)) 1) where
  mem := by simp
  obj := fun i h st b hb => by
    have e : b = it := by simpa using hb
    subst e
    exact ⟨_, st, fun v z => by
      have z' : Data.fields _ = Data.cell v := z
      cases z'⟩
  keep := fun i h h' st k => k it (by simp) _ st
  item := by
    intro X hP hw hK hc i pins s σ H E I hf st hg
    subst hP hw hK
    obtain ⟨f0, f1, f2, f3, f4, f5⟩ := hf it (by simp)
    have W := Walks.range (prog := X.prog) (w := X.w) (I.ok.hd hc) it lo 1 n
    refine W.item i s _ _ hg st fun v h' tk hv st' kk => ?_
    obtain ⟨t, rfl⟩ := hv
    have I1 : Inv X pins σ H { s with heap := h', toks := tk } := I.turned (fun b o hb e => kk b o (by simpa using hb) e) f0 f1 f3 f4 f5
    refine ⟨_, rfl, go_of (s := { s with heap := h', toks := tk }) (n := "range_iterator") st' rfl rfl (by decide) ⟨.int (lo + i), H, I1, ⟨t, ?_⟩, ⟨rfl, rfl⟩, st', fun b hb => (hf b hb).1⟩⟩
    rw [Int.mul_one]
  done := by
    intro X hP hw hK hc i pins s σ H E I hf st hg
    subst hP hw hK
    obtain ⟨f0, f1, f2, f3, f4, f5⟩ := hf it (by simp)
    exact wpAny_pyNext_range_end (I.ok.hd hc) st (by have : n ≤ i := hg; omega) fun h' eb => ⟨rfl, I.turned (t' := s.toks) (fun b o hb e => eb b o hb e) f0 f1 f3 f4 f5⟩
  self := fun _ _ _ _ _ st h => wpAny_pyIter_rangeiter st h
end L2

namespace L2
open PySem PySem.Spec PyProof.Rows
section
variable {X : Cx} {tg : Expr}
def iList (K : PySem.W.Frag) (tl : TE) : TI := fun σ H R => tl σ H fun x H1 => ∃ a, x = .ref a ∧ (∃ xs, SqL K H1 a xs) ∧ R (Itl K a) H1
def iTup (K : PySem.W.Frag) (tl : TE) : TI := fun σ H R => tl σ H fun x H1 => ∃ a, x = .ref a ∧ (∃ xs, SqT K H1 a xs) ∧ R (Itt K a) H1
theorem pi_list {l : Expr} {tl : TE} (hl : PE X l tl) : PI X tg l (iList X.K tl) := by
  intro pins s σ H R I h
  refine thn (hl pins s σ H _ I h) fun v s1 ⟨x, H1, I1, r1, q1⟩ => ?_
  obtain ⟨a, e, ⟨xs, hq⟩, q⟩ := q1
  subst e
  cases r1
  obtain ⟨its, rv, p, hz⟩ := I1.list hq
  refine wpAny_pyIter_list p.isList ?_
  refine ⟨s1.heap.objs.size, [s1.heap.objs.size], _, _, H1, rfl, I1.kept (t' := s1.toks) fun b o e => Heap.get?_push_of_some _ e, turn_list a _, ⟨_, Heap.get?_push_size _ rfl, rfl, rfl⟩, fun b hb => ?_, q⟩
  have e : b = s1.heap.objs.size := by simpa using hb
  subst e
  exact I1.fpOk (Nat.le_refl _) (I1.hok.fresh (Nat.le_refl _))
theorem pi_tup {l : Expr} {tl : TE} (hl : PE X l tl) : PI X tg l (iTup X.K tl) := by
  intro pins s σ H R I h
  refine thn (hl pins s σ H _ I h) fun v s1 ⟨x, H1, I1, r1, q1⟩ => ?_
  obtain ⟨a, e, ⟨xs, hq⟩, q⟩ := q1
  subst e
  cases r1
  obtain ⟨its, rv, p, hz⟩ := I1.tuple hq
  refine wpAny_pyIter_tuple (show s1.heap.IsTuple a its.toArray from p) ?_
  refine ⟨s1.heap.objs.size, [s1.heap.objs.size], _, _, H1, rfl, I1.kept (t' := s1.toks) fun b o e => Heap.get?_push_of_some _ e, turn_tuple a _, ⟨_, Heap.get?_push_size _ rfl, rfl, rfl⟩, fun b hb => ?_, q⟩
  have e : b = s1.heap.objs.size := by simpa using hb
  subst e
  exact I1.fpOk (Nat.le_refl _) (I1.hok.fresh (Nat.le_refl _))
/-- a range object just made, walked -/
theorem range_it {pins : List (Addr × Obj)} {σ : St} {H : Hp} {s : Shared} {R : It → Hp → Prop} {E : Value → Shared → Prop} {lo hi : Int} {t u v : Tok} {tk : Nat} (I : Inv X pins σ H s) (h1 : -(2 ^ 62) ≤ lo) (h2 : lo < 2 ^ 62) (h3 : -(2 ^ 62) ≤ hi) (h4 : hi < 2 ^ 62)
    (q : R (Itr lo (hi - lo).toNat) H) : wpAny (model X.prog X.w) X.A (pyIter (.ref s.heap.objs.size)) (PIE X pins σ tg R) E { s with heap := s.heap.push { cls := .type "range", data := .fields #[.int lo t, .int hi u, .int 1 v] }, toks := tk } := by
  refine wpAny_pyIter_range (IsRange.new ..) (small_one h1 h2 h3 h4) ?_
  have I1 : Inv X pins σ H { s with heap := s.heap.push { cls := .type "range", data := .fields #[.int lo t, .int hi u, .int 1 v] }, toks := tk } := I.kept fun b o e => Heap.get?_push_of_some _ e
  refine ⟨(s.heap.push { cls := .type "range", data := .fields #[.int lo t, .int hi u, .int 1 v] }).objs.size, [(s.heap.push { cls := .type "range", data := .fields #[.int lo t, .int hi u, .int 1 v] }).objs.size], _, _, H, rfl,
    I1.kept (t' := tk) fun b o e => Heap.get?_push_of_some _ e, turn_range _ lo (hi - lo).toNat, ?_, fun b hb => ?_, q⟩
  · have e1 : lo + ((0 : Nat) : Int) * 1 = lo := by simp
    have e2 : (((hi - lo).toNat : Nat) : Int) - ((0 : Nat) : Int) = Builtin.Range.rangeSize lo hi 1 := by rw [rangeSize_one]; split <;> omega
    show IsRangeIter _ _ (lo + ((0 : Nat) : Int) * 1) ((((hi - lo).toNat : Nat) : Int) - ((0 : Nat) : Int)) 1
    rw [e1, e2]
    exact Heap.get?_push_size _ rfl
  · have e : b = (s.heap.push { cls := .type "range", data := .fields #[.int lo t, .int hi u, .int 1 v] }).objs.size := by simpa using hb
    subst e
    exact I1.fpOk (Nat.le_refl _) (I1.hok.fresh (Nat.le_refl _))
def iRng1 (ta : TA) : TI := fun σ H R => ta σ H fun vs H1 => ∃ j : Int, vs = [.int j] ∧ -(2 ^ 62) ≤ j ∧ j < 2 ^ 62 ∧ R (Itr 0 j.toNat) H1
def iRng2 (ta : TA) : TI := fun σ H R => ta σ H fun vs H1 => ∃ i j : Int, vs = [.int i, .int j] ∧ (-(2 ^ 62) ≤ i ∧ i < 2 ^ 62 ∧ -(2 ^ 62) ≤ j ∧ j < 2 ^ 62) ∧ R (Itr i (j - i).toNat) H1
theorem pi_range1 {a : Expr} {ta : TA} {p pos : Pos} (hg : Gl X "range") (hm : X.mg "range" = none) (ha : PA X [a] ta) (hs : starEach [a] X.env = [(false, eval a X.env)] := by rfl) : PI X tg (.Call (.Name "range" p) [a] [] pos) (iRng1 ta) := by
  intro pins s σ H R I h
  refine Call_ (ld_blt I hg hm boot_range (PyProof.Rows.callWith_type1 (thn (ha pos pins s σ H _ I h) fun us s1 ⟨vs, H1, I1, r1, q1⟩ => ?_) hs rfl))
  obtain ⟨j, e, q1, q2, q⟩ := q1
  subst e
  cases r1 with
  | cons r rr =>
    cases rr
    obtain ⟨t, rfl⟩ := r
    exact call_range_1 (range_it I1 (by omega) (by omega) q1 q2 (by simpa using q))
theorem pi_range2 {a b : Expr} {ta : TA} {p pos : Pos} (hg : Gl X "range") (hm : X.mg "range" = none) (ha : PA X [a, b] ta) (hs : starEach [a, b] X.env = [(false, eval a X.env), (false, eval b X.env)] := by rfl) (hs2 : starEach [b] X.env = [(false, eval b X.env)] := by rfl) :
    PI X tg (.Call (.Name "range" p) [a, b] [] pos) (iRng2 ta) := by
  intro pins s σ H R I h
  refine Call_ (ld_blt I hg hm boot_range (PyProof.Rows.callWith_type1 (thn (ha pos pins s σ H _ I h) fun us s1 ⟨vs, H1, I1, r1, q1⟩ => ?_) (by rw [hs, hs2]) (by rw [hs2]; rfl)))
  obtain ⟨i, j, e, ⟨q1, q2, q3, q4⟩, q⟩ := q1
  subst e
  cases r1 with
  | cons r rr =>
    cases rr with
    | cons r' rr =>
      cases rr
      obtain ⟨t, rfl⟩ := r
      obtain ⟨t', rfl⟩ := r'
      exact call_range_2 (range_it I1 q1 q2 q3 q4 q)

/-! ### for -/
/-- W: the invariant by the turn and a measure; N: what the body is to reach -/
def tFor (wi : TI) (g : TG) (tb : TS) : TS := fun D σ H => wi σ H fun J H1 => ∃ W : Nat → Nat → St → Hp → Prop, (∃ m, W 0 m σ H1) ∧ ∀ i m σ H, W i m σ H →
  (J.stop i H ∧ D.nx σ H) ∨ (J.go i H ∧ ∃ N : St → Hp → Prop, (∀ σ' H', N σ' H' → ∃ m', m' < m ∧ W (i + 1) m' σ' H') ∧ ∀ x H', J.yld i H x H' → g x σ H' fun σ2 H2 => tb { D with nx := N, ct := N, bk := D.nx } σ2 H2)
/-- the records at fp as they stand -/
def pinsAt (fp : List Addr) (h : Heap) : List (Addr × Obj) := fp.filterMap fun b => (h.get? b).map fun o => (b, o)
theorem mem_pinsAt {fp : List Addr} {h : Heap} {b : Addr} {o : Obj} (hb : b ∈ fp) (e : h.get? b = some o) : (b, o) ∈ pinsAt fp h := List.mem_filterMap.mpr ⟨b, hb, by rw [e]; rfl⟩
theorem of_pinsAt {fp : List Addr} {h : Heap} {p : Addr × Obj} (hp : p ∈ pinsAt fp h) : p.1 ∈ fp ∧ h.get? p.1 = some p.2 := by
  obtain ⟨b, hb, e⟩ := List.mem_filterMap.mp hp
  cases q : h.get? b with
  | none => rw [q] at e; cases e
  | some o =>
    rw [q] at e
    have e' : (b, o) = p := Option.some.inj e
    subst e'
    exact ⟨hb, q⟩
theorem Inv.pinned {pins : List (Addr × Obj)} {σ : St} {H : Hp} {s : Shared} {fp : List Addr} (I : Inv X pins σ H s) (hf : ∀ b ∈ fp, FpOk X pins H b) (ho : ∀ b ∈ fp, ∃ o, s.heap.get? b = some o ∧ ∀ v, o.data ≠ .cell v) : Inv X (pins ++ pinsAt fp s.heap) σ H s :=
  I.pins_of fun p hp => (List.mem_append.mp hp).elim (fun z => I.pin p (List.mem_append_right _ z)) fun z => by
    obtain ⟨hb, e⟩ := of_pinsAt z
    obtain ⟨f0, f1, f2, _⟩ := hf p.1 hb
    obtain ⟨o, e', d⟩ := ho p.1 hb
    rw [e] at e'; cases e'
    exact ⟨e, f0, f1, f2, d⟩
theorem Inv.unpinned {pins pl : List (Addr × Obj)} {σ : St} {H : Hp} {s : Shared} (I : Inv X (pins ++ pl) σ H s) : Inv X pins σ H s := I.pins_of fun p hp => I.pin p (List.mem_append_right _ (List.mem_append_left _ hp))
theorem ps_for {iter : Expr} {body : List Stmt} {wi : TI} {g : TG} {tb : TS} {pos : Pos} (hp : PassesOwn (model X.prog X.w) X.A X.env X.xe) (hc : X.calm = true) (hi : PI X tg iter wi) (hg : PG X tg g) (hb : PSs X body tb)
    (hs : ∀ x, foldedSetIterable iter X.env x = pure x := by intro _; rfl) : PS X (.For tg iter body [] pos) (tFor wi g tb) := by
  intro pins s σ H D I h
  refine wpAny_For (thn (hi pins s σ H _ I h) fun v s1 h1 => thn h1 fun itv s2 h2 => ?_) hs
  obtain ⟨it, fp, tn, J, H2, e, I2, T, st2, f2, W, ⟨m0, w0⟩, turn⟩ := h2
  subst e
  -- what stays true of the iterator's objects through the loop
  have stat : ∀ {H' : Hp}, (∀ b ∈ fp, H' b = none) → ∀ b ∈ fp, FpOk X pins H' b := fun hn b hb => ⟨hn b hb, (f2 b hb).2⟩
  refine codeAny_forLoop_any (fun n s' => ∃ i σ' H', Inv X pins σ' H' s' ∧ tn i s'.heap ∧ (∀ b ∈ fp, H' b = none) ∧ W i n σ' H') ?_ m0 ⟨0, σ, H2, I2, st2, fun b hb => (f2 b hb).1, w0⟩
  rintro n s3 ⟨i, σ3, H3, I3, st3, fr3, w3⟩
  rcases turn i n σ3 H3 w3 with ⟨stop, qn⟩ | ⟨go, N, hN, step⟩
  · refine wpAny_passesOwn hp (thn (T.done X rfl rfl rfl hc i pins s3 σ3 H3 X.xe I3 (stat fr3) st3 stop) fun r s4 ⟨hr, I4⟩ => ?_)
    subst hr
    exact wpAny_execs_nil ⟨σ3, H3, I4, qn⟩
  · refine wpAny_passesOwn hp (thn (T.item X rfl rfl rfl hc i pins s3 σ3 H3 X.xe I3 (stat fr3) st3 go) fun r s4 ⟨u, hr, h4⟩ => ?_)
    subst hr
    refine wpAny_passesOwn hp (thn h4 fun _ s5 ⟨x, H5, I5, r5, y5, st5, fr5⟩ => ?_)
    have I5' := I5.pinned (stat fr5) (T.obj _ _ st5)
    refine wpAny_passesOwn hp (thn (hg _ s5 σ3 H5 x u _ I5' r5 (step x H5 y5)) fun _ s6 ⟨σ6, H6, I6, q6⟩ => ?_)
    refine wpAny_passesOwn hp (thn (hb _ s6 σ6 H6 _ I6 q6) fun f s7 q7 => ?_)
    have again : ∀ {σ7 : St} {H7 : Hp}, Inv X (pins ++ pinsAt fp s5.heap) σ7 H7 s7 → N σ7 H7 → ∃ m, m < n ∧ ∃ i σ' H', Inv X pins σ' H' s7 ∧ tn i s7.heap ∧ (∀ b ∈ fp, H' b = none) ∧ W i m σ' H' := fun {σ7 H7} I7 n7 => by
      obtain ⟨m', hm, w7⟩ := hN σ7 H7 n7
      refine ⟨m', hm, i + 1, σ7, H7, I7.unpinned, T.keep _ _ _ st5 fun b hb o e => (I7.pin (b, o) (List.mem_append_right _ (List.mem_append_right _ (mem_pinsAt hb e)))).1, fun b hb => ?_, w7⟩
      obtain ⟨o, e, d⟩ := T.obj _ _ st5 b hb
      exact (I7.pin (b, o) (List.mem_append_right _ (List.mem_append_right _ (mem_pinsAt hb e)))).2.1
    cases f with
    | next => obtain ⟨σ7, H7, I7, n7⟩ := q7; exact again I7 n7
    | cont => obtain ⟨σ7, H7, I7, n7⟩ := q7; exact again I7 n7
    | brk => obtain ⟨σ7, H7, I7, q7⟩ := q7; exact ⟨σ7, H7, I7.unpinned, q7⟩
    | ret v => obtain ⟨x7, σ7, H7, I7, r7, q7⟩ := q7; exact ⟨x7, σ7, H7, I7.unpinned, r7, q7⟩
end

/-! ### the forms one uses -/
/-- over a list that the body leaves as it is -/
theorem for_list {K : PySem.W.Frag} {a : Addr} {xs : List V} {g : TG} {tb : TS} {D : Ends} {σ : St} {H : Hp} (Pv : Nat → St → Hp → Prop) (h0 : Pv 0 σ H) (hl : ∀ i σ H, i ≤ xs.length → Pv i σ H → SqL K H a xs)
    (hs : ∀ i x σ H, xs[i]? = some x → Pv i σ H → g x σ H fun σ2 H2 => tb { D with nx := Pv (i + 1), ct := Pv (i + 1), bk := D.nx } σ2 H2) (hd : ∀ σ H, Pv xs.length σ H → D.nx σ H) :
    ∃ W : Nat → Nat → St → Hp → Prop, (∃ m, W 0 m σ H) ∧ ∀ i m σ H, W i m σ H →
      ((Itl K a).stop i H ∧ D.nx σ H) ∨ ((Itl K a).go i H ∧ ∃ N : St → Hp → Prop, (∀ σ' H', N σ' H' → ∃ m', m' < m ∧ W (i + 1) m' σ' H') ∧ ∀ x H', (Itl K a).yld i H x H' → g x σ H' fun σ2 H2 => tb { D with nx := N, ct := N, bk := D.nx } σ2 H2) := by
  refine ⟨fun i m σ H => m = xs.length - i ∧ i ≤ xs.length ∧ Pv i σ H, ⟨xs.length, by simp, Nat.zero_le _, h0⟩, ?_⟩
  rintro i m σ H ⟨rfl, hi, p⟩
  have q := hl i σ H hi p
  by_cases hlt : i < xs.length
  · refine .inr ⟨⟨xs, xs[i], q, by simp [hlt]⟩, Pv (i + 1), fun σ' H' p' => ⟨xs.length - (i + 1), by omega, rfl, hlt, p'⟩, fun x H' y => ?_⟩
    obtain ⟨e, y⟩ := y
    subst e
    exact hs i x σ _ (y xs q) p
  · have e : i = xs.length := by omega
    subst e
    exact .inl ⟨⟨xs, q, Nat.le_refl _⟩, hd σ H p⟩
theorem for_tup {K : PySem.W.Frag} {a : Addr} {xs : List V} {g : TG} {tb : TS} {D : Ends} {σ : St} {H : Hp} (Pv : Nat → St → Hp → Prop) (h0 : Pv 0 σ H) (hl : ∀ i σ H, i ≤ xs.length → Pv i σ H → SqT K H a xs)
    (hs : ∀ i x σ H, xs[i]? = some x → Pv i σ H → g x σ H fun σ2 H2 => tb { D with nx := Pv (i + 1), ct := Pv (i + 1), bk := D.nx } σ2 H2) (hd : ∀ σ H, Pv xs.length σ H → D.nx σ H) :
    ∃ W : Nat → Nat → St → Hp → Prop, (∃ m, W 0 m σ H) ∧ ∀ i m σ H, W i m σ H →
      ((Itt K a).stop i H ∧ D.nx σ H) ∨ ((Itt K a).go i H ∧ ∃ N : St → Hp → Prop, (∀ σ' H', N σ' H' → ∃ m', m' < m ∧ W (i + 1) m' σ' H') ∧ ∀ x H', (Itt K a).yld i H x H' → g x σ H' fun σ2 H2 => tb { D with nx := N, ct := N, bk := D.nx } σ2 H2) := by
  refine ⟨fun i m σ H => m = xs.length - i ∧ i ≤ xs.length ∧ Pv i σ H, ⟨xs.length, by simp, Nat.zero_le _, h0⟩, ?_⟩
  rintro i m σ H ⟨rfl, hi, p⟩
  have q := hl i σ H hi p
  by_cases hlt : i < xs.length
  · refine .inr ⟨⟨xs, xs[i], q, by simp [hlt]⟩, Pv (i + 1), fun σ' H' p' => ⟨xs.length - (i + 1), by omega, rfl, hlt, p'⟩, fun x H' y => ?_⟩
    obtain ⟨e, y⟩ := y
    subst e
    exact hs i x σ _ (y xs q) p
  · have e : i = xs.length := by omega
    subst e
    exact .inl ⟨⟨xs, q, Nat.le_refl _⟩, hd σ H p⟩
theorem for_range {lo : Int} {n : Nat} {g : TG} {tb : TS} {D : Ends} {σ : St} {H : Hp} (Pv : Nat → St → Hp → Prop) (h0 : Pv 0 σ H)
    (hs : ∀ i σ H, i < n → Pv i σ H → g (.int (lo + i)) σ H fun σ2 H2 => tb { D with nx := Pv (i + 1), ct := Pv (i + 1), bk := D.nx } σ2 H2) (hd : ∀ σ H, Pv n σ H → D.nx σ H) :
    ∃ W : Nat → Nat → St → Hp → Prop, (∃ m, W 0 m σ H) ∧ ∀ i m σ H, W i m σ H →
      ((Itr lo n).stop i H ∧ D.nx σ H) ∨ ((Itr lo n).go i H ∧ ∃ N : St → Hp → Prop, (∀ σ' H', N σ' H' → ∃ m', m' < m ∧ W (i + 1) m' σ' H') ∧ ∀ x H', (Itr lo n).yld i H x H' → g x σ H' fun σ2 H2 => tb { D with nx := N, ct := N, bk := D.nx } σ2 H2) := by
  refine ⟨fun i m σ H => m = n - i ∧ i ≤ n ∧ Pv i σ H, ⟨n, by simp, Nat.zero_le _, h0⟩, ?_⟩
  rintro i m σ H ⟨rfl, hi, p⟩
  by_cases hlt : i < n
  · refine .inr ⟨hlt, Pv (i + 1), fun σ' H' p' => ⟨n - (i + 1), by omega, rfl, hlt, p'⟩, fun x H' y => ?_⟩
    obtain ⟨e, y⟩ := y
    subst e y
    exact hs i σ _ hlt p
  · have e : i = n := by omega
    subst e
    exact .inl ⟨Nat.le_refl _, hd σ H p⟩
/-- while, by a word and a measure of the state -/
theorem while_by {c : TT} {tb : TS} {D : Ends} {σ : St} {H : Hp} (Pv : St → Hp → Prop) (μ : St → Hp → Nat) (h0 : Pv σ H)
    (hs : ∀ σ H, Pv σ H → c σ H fun b H1 => if b = true then tb { D with nx := fun σ' H' => Pv σ' H' ∧ μ σ' H' < μ σ H, ct := fun σ' H' => Pv σ' H' ∧ μ σ' H' < μ σ H, bk := D.nx } σ H1 else D.nx σ H1)
    (mono : ∀ σ H Q Q', (∀ b H1, Q b H1 → Q' b H1) → c σ H Q → c σ H Q') : tWhile c tb D σ H := by
  refine ⟨fun m σ H => m = μ σ H ∧ Pv σ H, ⟨_, rfl, h0⟩, ?_⟩
  rintro m σ H ⟨rfl, p⟩
  refine mono σ H _ _ (fun b H1 q => ?_) (hs σ H p)
  cases b with
  | true => exact ⟨_, fun σ' H' ⟨p', l⟩ => ⟨_, l, rfl, p'⟩, q⟩
  | false => exact q
end L2

namespace L2
open PySem PySem.Spec PyProof.Rows

abbrev R2 := V → V → Hp → VK → Prop
/-- a two-place operation on values: f is binaryOp op, inplaceOp op or compareOp op -/
def OpR (X : Cx) (f : Value → Value → Sem Value) (r : R2) : Prop :=
  ∀ (pins : List (Addr × Obj)) (s : Shared) (σ : St) (H : Hp) (x y : V) (v u : Value) (Q : VK), Inv X pins σ H s → RelV x v → RelV y u → r x y H Q →
    wpAny (model X.prog X.w) X.A (f v u) (EP X pins σ Q) X.xe s
/-- a one-place operation -/
def UnR (X : Cx) (f : Value → Sem Value) (r : V → Hp → VK → Prop) : Prop :=
  ∀ (pins : List (Addr × Obj)) (s : Shared) (σ : St) (H : Hp) (x : V) (v : Value) (Q : VK), Inv X pins σ H s → RelV x v → r x H Q →
    wpAny (model X.prog X.w) X.A (f v) (EP X pins σ Q) X.xe s
/-- a call of a value that is known (a builtin, a type) with values -/
def CallR (X : Cx) (f : Value) (r : List V → Hp → VK → Prop) : Prop :=
  ∀ (pins : List (Addr × Obj)) (s : Shared) (σ : St) (H : Hp) (xs : List V) (us : List Value) (Q : VK), Inv X pins σ H s → Vals xs us → r xs H Q →
    wpAny (model X.prog X.w) X.A (call f us) (EP X pins σ Q) X.xe s
/-- a value's truth -/
def TruR (X : Cx) (r : V → Hp → (Bool → Hp → Prop) → Prop) : Prop :=
  ∀ (pins : List (Addr × Obj)) (s : Shared) (σ : St) (H : Hp) (x : V) (v : Value) (Q : Bool → Hp → Prop), Inv X pins σ H s → RelV x v → r x H Q →
    wpAny (model X.prog X.w) X.A (truthy v) (TP X pins σ Q) X.xe s

def tOp (r : R2) (ta tb : TE) : TE := fun σ H Q => ta σ H fun x H1 => tb σ H1 fun y H2 => r x y H2 Q
def tUn (r : V → Hp → VK → Prop) (ta : TE) : TE := fun σ H Q => ta σ H fun x H1 => r x H1 Q
/-- ints in, under C, and a value out -/
def rI (C : Int → Int → Prop) (g : Int → Int → V) : R2 := fun x y H Q => ∃ i j, x = .int i ∧ y = .int j ∧ C i j ∧ Q (g i j) H
def rI0 (g : Int → Int → V) : R2 := fun x y H Q => ∃ i j, x = .int i ∧ y = .int j ∧ Q (g i j) H
def rU (g : Int → V) : V → Hp → VK → Prop := fun x H Q => ∃ i, x = .int i ∧ Q (g i) H

section
variable {X : Cx} {a b c : Expr} {ta tb tc : TE} {pos : Pos}

theorem binT (ha : PE X a ta) (hb : PE X b tb) {pins : List (Addr × Obj)} {s : Shared} {σ : St} {H : Hp} {R : V → V → Hp → Prop} (I : Inv X pins σ H s)
    (h : ta σ H fun x H1 => tb σ H1 fun y H2 => R x y H2) {Q : Value → Shared → Prop} {f : Value → Value → Sem Value}
    (hf : ∀ v u s2 x y H2, Inv X pins σ H2 s2 → RelV x v → RelV y u → R x y H2 → wpAny (model X.prog X.w) X.A (f v u) Q X.xe s2) :
    wpAny (model X.prog X.w) X.A (eval a X.env) (fun v s₁ => wpAny (model X.prog X.w) X.A (eval b X.env) (fun u s₂ => wpAny (model X.prog X.w) X.A (f v u) Q X.xe s₂) X.xe s₁) X.xe s := by
  refine thn (ha pins s σ H _ I h) fun v s1 ⟨x, H1, I1, r1, q1⟩ => ?_
  refine thn (hb pins s1 σ H1 _ I1 q1) fun u s2 ⟨y, H2, I2, r2, q2⟩ => ?_
  exact hf v u s2 x y H2 I2 r1 r2 q2

theorem pe_op {op : Operator} {r : R2} (ho : OpR X (binaryOp op) r) (ha : PE X a ta) (hb : PE X b tb) : PE X (.BinOp a op b pos) (tOp r ta tb) := by
  intro pins s σ H Q I h
  exact wpAny_BinOp (binT ha hb I h fun v u s2 x y H2 I2 rx ry q => ho pins s2 σ H2 x y v u Q I2 rx ry q)
theorem pe_un {op : UnaryOp} {r : V → Hp → VK → Prop} (ho : UnR X (unaryOp op) r) (ha : PE X a ta) : PE X (.UnaryOp op a pos) (tUn r ta) := by
  intro pins s σ H Q I h
  exact UnaryOp_ (thn (ha pins s σ H _ I h) fun v s1 ⟨x, H1, I1, r1, q1⟩ => ho pins s1 σ H1 x v Q I1 r1 q1)
/-- a op= e at a name: the name's slot i -/
theorem augR {op : Operator} {r : R2} (ho : OpR X (inplaceOp op) r) {pins : List (Addr × Obj)} {s : Shared} {σ : St} {H : Hp} {x y : V} {v u : Value} {Q : VK} (I : Inv X pins σ H s)
    (rx : RelV x v) (ry : RelV y u) (q : r x y H Q) : wpAny (model X.prog X.w) X.A (inplaceOp op v u) (EP X pins σ Q) X.xe s := ho pins s σ H x y v u Q I rx ry q

/-! ### ints -/
theorem opI {f : Value → Value → Sem Value} {C : Int → Int → Prop} {g : Int → Int → Int}
    (rule : ∀ (i j : Int) (t u : Tok) (s : Shared) (Q : Value → Shared → Prop) (E : Value → Shared → Prop), C i j → Q (.int (g i j) s.toks) { s with toks := s.toks + 1 } → wpAny (model X.prog X.w) X.A (f (.int i t) (.int j u)) Q E s) :
    OpR X f (rI C fun i j => .int (g i j)) := by
  intro pins s σ H x y v u Q I rx ry h
  obtain ⟨i, j, rfl, rfl, hc, q⟩ := h
  obtain ⟨t, rfl⟩ := rx
  obtain ⟨t', rfl⟩ := ry
  exact rule i j t t' s _ _ hc ⟨.int (g i j), H, I.tok _, ⟨_, rfl⟩, q⟩
theorem opI0 {f : Value → Value → Sem Value} {g : Int → Int → Int}
    (rule : ∀ (i j : Int) (t u : Tok) (s : Shared) (Q : Value → Shared → Prop) (E : Value → Shared → Prop), Q (.int (g i j) s.toks) { s with toks := s.toks + 1 } → wpAny (model X.prog X.w) X.A (f (.int i t) (.int j u)) Q E s) :
    OpR X f (rI0 fun i j => .int (g i j)) := by
  intro pins s σ H x y v u Q I rx ry h
  obtain ⟨i, j, rfl, rfl, q⟩ := h
  obtain ⟨t, rfl⟩ := rx
  obtain ⟨t', rfl⟩ := ry
  exact rule i j t t' s _ _ ⟨.int (g i j), H, I.tok _, ⟨_, rfl⟩, q⟩
theorem opB0 {f : Value → Value → Sem Value} {g : Int → Int → Bool}
    (rule : ∀ (i j : Int) (t u : Tok) (s : Shared) (Q : Value → Shared → Prop) (E : Value → Shared → Prop), Q (.bool (g i j)) s → wpAny (model X.prog X.w) X.A (f (.int i t) (.int j u)) Q E s) :
    OpR X f (rI0 fun i j => .bl (g i j)) := by
  intro pins s σ H x y v u Q I rx ry h
  obtain ⟨i, j, rfl, rfl, q⟩ := h
  obtain ⟨t, rfl⟩ := rx
  obtain ⟨t', rfl⟩ := ry
  exact rule i j t t' s _ _ ⟨.bl (g i j), H, I, rfl, q⟩

def CDiv (i j : Int) : Prop := 0 < j ∧ j < 1073741824
def CDivN (i j : Int) : Prop := j ≠ 0 ∧ j.natAbs < 1073741824
def CPow (i j : Int) : Prop := 0 ≤ j ∧ j ≤ 1000000 ∧ i.natAbs < 2 ^ 64
def CMul (i j : Int) : Prop := (-(2 ^ 64) < i ∧ i < 2 ^ 64) ∨ (-(2 ^ 64) < j ∧ j < 2 ^ 64)
theorem CMul.ok {i j : Int} (h : CMul i j) : IntMulOk i j := by
  rcases h with ⟨h1, h2⟩ | ⟨h1, h2⟩
  · exact .of_left (intBits_le_64 h1 h2)
  · exact .of_right (intBits_le_64 h1 h2)
theorem two_pow_nn (k : Nat) : (0 : Int) ≤ 2 ^ k := by
  rw [two_pow_cast]
  exact Int.natCast_nonneg _

theorem op_add : OpR X (binaryOp .Add) (rI0 fun i j => .int (i + j)) := opI0 fun _ _ _ _ _ _ _ q => add_int q
theorem op_sub : OpR X (binaryOp .Sub) (rI0 fun i j => .int (i - j)) := opI0 fun _ _ _ _ _ _ _ q => sub_int q
theorem op_mul : OpR X (binaryOp .Mult) (rI CMul fun i j => .int (i * j)) := opI fun _ _ _ _ _ _ _ hc q => mul_int q hc.ok
/-- // by a positive divisor -/
theorem op_fdiv : OpR X (binaryOp .FloorDiv) (rI CDiv fun i j => .int (i / j)) := opI fun i j _ _ _ _ _ hc q => by
  have h1 : (0 : Int) < j := hc.1
  have h2 : j < 1073741824 := hc.2
  exact floordiv_int (by omega) (by rw [Int.fdiv_eq_ediv_of_nonneg i (by omega)]; exact q) (.inl (PyProof.noPylong_small (by omega)))
theorem op_fdivN : OpR X (binaryOp .FloorDiv) (rI CDivN fun i j => .int (i.fdiv j)) := opI fun _ _ _ _ _ _ _ hc q => floordiv_int hc.1 q (.inl (PyProof.noPylong_small hc.2))
/-- % by a positive divisor of any size -/
theorem op_mod : OpR X (binaryOp .Mod) (rI (fun _ j => 0 < j) fun i j => .int (i % j)) := opI fun i j _ _ _ _ _ hc q => by
  have h1 : (0 : Int) < j := hc
  exact mod_int' (by omega) (by rw [Int.fmod_eq_emod_of_nonneg i (by omega)]; exact q)
theorem op_modN : OpR X (binaryOp .Mod) (rI (fun _ j => j ≠ 0) fun i j => .int (i.fmod j)) := opI fun _ _ _ _ _ _ _ hc q => mod_int' hc q
theorem op_pow : OpR X (binaryOp .Pow) (rI CPow fun i j => .int (i ^ j.toNat)) := opI fun _ _ _ _ _ _ _ hc q => pow_int_small hc.1 hc.2.1 hc.2.2 q
theorem op_shl : OpR X (binaryOp .LShift) (rI CPow fun i j => .int (i * 2 ^ j.toNat)) := opI fun _ _ _ _ _ _ _ hc q => lshift_int_small hc.1 hc.2.1 hc.2.2 q
theorem op_shr : OpR X (binaryOp .RShift) (rI (fun _ j => 0 ≤ j) fun i j => .int (i / 2 ^ j.toNat)) := opI fun i j _ _ _ _ _ hc q =>
  rshift_int hc (by rw [Int.fdiv_eq_ediv_of_nonneg i (two_pow_nn _)]; exact q)
theorem op_and : OpR X (binaryOp .BitAnd) (rI0 fun i j => .int (Builtin.bitAnd i j)) := opI0 fun _ _ _ _ _ _ _ q => and_int q
theorem op_or : OpR X (binaryOp .BitOr) (rI0 fun i j => .int (Builtin.bitOr i j)) := opI0 fun _ _ _ _ _ _ _ q => or_int q
theorem op_xor : OpR X (binaryOp .BitXor) (rI0 fun i j => .int (Builtin.bitXor i j)) := opI0 fun _ _ _ _ _ _ _ q => xor_int q

theorem iop_add : OpR X (inplaceOp .Add) (rI0 fun i j => .int (i + j)) := opI0 fun _ _ _ _ _ _ _ q => iadd_int q
theorem iop_sub : OpR X (inplaceOp .Sub) (rI0 fun i j => .int (i - j)) := opI0 fun _ _ _ _ _ _ _ q => isub_int q
theorem iop_mul : OpR X (inplaceOp .Mult) (rI CMul fun i j => .int (i * j)) := opI fun _ _ _ _ _ _ _ hc q => imul_int q hc.ok
theorem iop_fdiv : OpR X (inplaceOp .FloorDiv) (rI CDiv fun i j => .int (i / j)) := opI fun i j _ _ _ _ _ hc q => by
  have h1 : (0 : Int) < j := hc.1
  have h2 : j < 1073741824 := hc.2
  exact ifloordiv_int (by omega) (by rw [Int.fdiv_eq_ediv_of_nonneg i (by omega)]; exact q) (.inl (PyProof.noPylong_small (by omega)))
theorem iop_mod : OpR X (inplaceOp .Mod) (rI (fun _ j => 0 < j) fun i j => .int (i % j)) := opI fun i j _ _ _ _ _ hc q => by
  have h1 : (0 : Int) < j := hc
  exact imod_int (by omega) (by rw [Int.fmod_eq_emod_of_nonneg i (by omega)]; exact q)
theorem iop_shl : OpR X (inplaceOp .LShift) (rI CPow fun i j => .int (i * 2 ^ j.toNat)) := opI fun _ _ _ _ _ _ _ hc q => ilshift_int_small hc.1 hc.2.1 hc.2.2 q
theorem iop_shr : OpR X (inplaceOp .RShift) (rI (fun _ j => 0 ≤ j) fun i j => .int (i / 2 ^ j.toNat)) := opI fun i j _ _ _ _ _ hc q =>
  irshift_int hc (by rw [Int.fdiv_eq_ediv_of_nonneg i (two_pow_nn _)]; exact q)
theorem iop_and : OpR X (inplaceOp .BitAnd) (rI0 fun i j => .int (Builtin.bitAnd i j)) := opI0 fun _ _ _ _ _ _ _ q => iand_int q
theorem iop_or : OpR X (inplaceOp .BitOr) (rI0 fun i j => .int (Builtin.bitOr i j)) := opI0 fun _ _ _ _ _ _ _ q => ior_int q
theorem iop_xor : OpR X (inplaceOp .BitXor) (rI0 fun i j => .int (Builtin.bitXor i j)) := opI0 fun _ _ _ _ _ _ _ q => ixor_int q

theorem unI {f : Value → Sem Value} {g : Int → Int}
    (rule : ∀ (i : Int) (t : Tok) (s : Shared) (Q : Value → Shared → Prop) (E : Value → Shared → Prop), Q (.int (g i) s.toks) { s with toks := s.toks + 1 } → wpAny (model X.prog X.w) X.A (f (.int i t)) Q E s) :
    UnR X f (rU fun i => .int (g i)) := by
  intro pins s σ H x v Q I rx h
  obtain ⟨i, rfl, q⟩ := h
  obtain ⟨t, rfl⟩ := rx
  exact rule i t s _ _ ⟨.int (g i), H, I.tok _, ⟨_, rfl⟩, q⟩
theorem un_neg : UnR X (unaryOp .USub) (rU fun i => .int (-i)) := unI fun _ _ _ _ _ q => neg_int q
theorem un_inv : UnR X (unaryOp .Invert) (rU fun i => .int (Builtin.bitNot i)) := unI fun _ _ _ _ _ q => invert_int q

/-! ### bools among ints: n += (a < b) -/
theorem op_add_ib : OpR X (binaryOp .Add) (fun x y H Q => ∃ i k, x = .int i ∧ y = .bl k ∧ Q (.int (i + b2i k)) H) := by
  intro pins s σ H x y v u Q I rx ry h
  obtain ⟨i, k, rfl, rfl, q⟩ := h
  obtain ⟨t, rfl⟩ := rx
  cases ry
  exact add_int_bool ⟨.int (i + b2i k), H, I.tok _, ⟨_, rfl⟩, q⟩
end

/-! ### comparisons -/
/-- the scalars that == tells apart as data does -/
def scal : V → V → Bool
  | .non, .non => true | .non, .int _ => true | .int _, .non => true | .non, .bl _ => true | .bl _, .non => true | .non, .str _ => true | .str _, .non => true
  | .int _, .int _ => true | .bl _, .bl _ => true | .str _, .str _ => true | .byt _, .byt _ => true
  | .int _, .str _ => true | .str _, .int _ => true | .bl _, .str _ => true | .str _, .bl _ => true
  | _, _ => false
def rEq : R2 := fun x y H Q => scal x y = true ∧ Q (.bl (decide (x = y))) H
def rNe : R2 := fun x y H Q => scal x y = true ∧ Q (.bl (!decide (x = y))) H

theorem dec_int {i j : Int} : decide (V.int i = V.int j) = (i == j) := by
  rw [Bool.eq_iff_iff]
  simp
theorem dec_bl {i j : Bool} : decide (V.bl i = V.bl j) = (i == j) := by
  rw [Bool.eq_iff_iff]
  simp
theorem dec_str {i j : Str} : decide (V.str i = V.str j) = (i == j) := by
  rw [Bool.eq_iff_iff]
  simp
theorem dec_byt {i j : Array UInt8} : decide (V.byt i = V.byt j) = (i.toList == j.toList) := by
  rw [Bool.eq_iff_iff]
  cases i
  cases j
  simp

section
variable {X : Cx} {a b c : Expr} {ta tb tc : TE} {pos : Pos}
theorem fin_bl {pins : List (Addr × Obj)} {σ : St} {H : Hp} {s : Shared} {Q : VK} {k k' : Bool} (I : Inv X pins σ H s) (q : Q (.bl k) H) (e : k = k') : EP X pins σ Q (.bool k') s := by
  subst e
  exact ⟨.bl k, H, I, rfl, q⟩
theorem op_eq : OpR X (compareOp .Eq) rEq := by
  intro pins s σ H x y v u Q I rx ry h
  obtain ⟨hs, q⟩ := h
  cases x with
  | non =>
    cases rx
    cases y with
    | non => cases ry; exact PySem.EqNone.eq_none_none (fin_bl I q (by simp))
    | bl j => cases ry; exact PySem.EqNone.eq_none_bool (fin_bl I q (by simp))
    | int j => obtain ⟨t', rfl⟩ := ry; exact PySem.EqNone.eq_none_int (fin_bl I q (by simp))
    | str j => obtain ⟨t', rfl⟩ := ry; exact PySem.EqNone.eq_none_str (fin_bl I q (by simp))
    | _ => exact absurd (show false = true from hs) Bool.false_ne_true
  | bl i =>
    cases rx
    cases y with
    | non => cases ry; exact PySem.EqNone.eq_bool_none (fin_bl I q (by simp))
    | bl j => cases ry; exact eq_bool (fin_bl I q dec_bl)
    | str j => obtain ⟨t', rfl⟩ := ry; exact PySem.EqMixed.eq_bool_str (fin_bl I q (by simp))
    | _ => exact absurd (show false = true from hs) Bool.false_ne_true
  | int i =>
    obtain ⟨t, rfl⟩ := rx
    cases y with
    | non => cases ry; exact PySem.EqNone.eq_int_none (fin_bl I q (by simp))
    | int j => obtain ⟨t', rfl⟩ := ry; exact eq_int (fin_bl I q dec_int)
    | str j => obtain ⟨t', rfl⟩ := ry; exact PySem.EqMixed.eq_int_str (fin_bl I q (by simp))
    | _ => exact absurd (show false = true from hs) Bool.false_ne_true
  | str i =>
    obtain ⟨t, rfl⟩ := rx
    cases y with
    | non => cases ry; exact PySem.EqNone.eq_str_none (fin_bl I q (by simp))
    | bl j => cases ry; exact PySem.EqMixed.eq_str_bool (fin_bl I q (by simp))
    | int j => obtain ⟨t', rfl⟩ := ry; exact PySem.EqMixed.eq_str_int (fin_bl I q (by simp))
    | str j => obtain ⟨t', rfl⟩ := ry; exact eq_str (fin_bl I q dec_str)
    | _ => exact absurd (show false = true from hs) Bool.false_ne_true
  | byt i =>
    obtain ⟨t, rfl⟩ := rx
    cases y with
    | byt j => obtain ⟨t', rfl⟩ := ry; exact PySem.W.eq_bytes (fin_bl I q dec_byt)
    | _ => exact absurd (show false = true from hs) Bool.false_ne_true
  | _ => cases y <;> exact absurd (show false = true from hs) Bool.false_ne_true
theorem op_ne : OpR X (compareOp .NotEq) rNe := by
  intro pins s σ H x y v u Q I rx ry h
  obtain ⟨hs, q⟩ := h
  cases x with
  | non =>
    cases rx
    cases y with
    | non => cases ry; exact PySem.EqNone.ne_none_none (fin_bl I q (by simp))
    | bl j => cases ry; exact PySem.EqNone.ne_none_bool (fin_bl I q (by simp))
    | int j => obtain ⟨t', rfl⟩ := ry; exact PySem.EqNone.ne_none_int (fin_bl I q (by simp))
    | str j => obtain ⟨t', rfl⟩ := ry; exact PySem.EqNone.ne_none_str (fin_bl I q (by simp))
    | _ => exact absurd (show false = true from hs) Bool.false_ne_true
  | bl i =>
    cases rx
    cases y with
    | non => cases ry; exact PySem.EqNone.ne_bool_none (fin_bl I q (by simp))
    | bl j => cases ry; exact ne_bool (fin_bl I q (congrArg not dec_bl))
    | str j => obtain ⟨t', rfl⟩ := ry; exact PySem.EqMixed.ne_bool_str (fin_bl I q (by simp))
    | _ => exact absurd (show false = true from hs) Bool.false_ne_true
  | int i =>
    obtain ⟨t, rfl⟩ := rx
    cases y with
    | non => cases ry; exact PySem.EqNone.ne_int_none (fin_bl I q (by simp))
    | int j => obtain ⟨t', rfl⟩ := ry; exact ne_int (fin_bl I q (congrArg not dec_int))
    | str j => obtain ⟨t', rfl⟩ := ry; exact PySem.EqMixed.ne_int_str (fin_bl I q (by simp))
    | _ => exact absurd (show false = true from hs) Bool.false_ne_true
  | str i =>
    obtain ⟨t, rfl⟩ := rx
    cases y with
    | non => cases ry; exact PySem.EqNone.ne_str_none (fin_bl I q (by simp))
    | bl j => cases ry; exact PySem.EqMixed.ne_str_bool (fin_bl I q (by simp))
    | int j => obtain ⟨t', rfl⟩ := ry; exact PySem.EqMixed.ne_str_int (fin_bl I q (by simp))
    | str j => obtain ⟨t', rfl⟩ := ry; exact ne_str (fin_bl I q (congrArg not dec_str))
    | _ => exact absurd (show false = true from hs) Bool.false_ne_true
  | byt i =>
    obtain ⟨t, rfl⟩ := rx
    cases y with
    | byt j => obtain ⟨t', rfl⟩ := ry; exact PySem.W.ne_bytes (fin_bl I q (congrArg not dec_byt))
    | _ => exact absurd (show false = true from hs) Bool.false_ne_true
  | _ => cases y <;> exact absurd (show false = true from hs) Bool.false_ne_true

theorem op_lt : OpR X (compareOp .Lt) (rI0 fun i j => .bl (decide (i < j))) := opB0 fun _ _ _ _ _ _ _ q => lt_int q
theorem op_le : OpR X (compareOp .LtE) (rI0 fun i j => .bl (decide (i ≤ j))) := opB0 fun _ _ _ _ _ _ _ q => le_int q
theorem op_gt : OpR X (compareOp .Gt) (rI0 fun i j => .bl (decide (j < i))) := opB0 fun _ _ _ _ _ _ _ q => gt_int q
theorem op_ge : OpR X (compareOp .GtE) (rI0 fun i j => .bl (decide (j ≤ i))) := opB0 fun _ _ _ _ _ _ _ q => ge_int q
theorem op_lt_str : OpR X (compareOp .Lt) (fun x y H Q => ∃ i j, x = .str i ∧ y = .str j ∧ Q (.bl (decide (i.cps.toList < j.cps.toList))) H) := by
  intro pins s σ H x y v u Q I rx ry h
  obtain ⟨i, j, rfl, rfl, q⟩ := h
  obtain ⟨t, rfl⟩ := rx
  obtain ⟨t', rfl⟩ := ry
  exact lt_str (fin_bl I q rfl)
/-- the one string within the other -/
theorem op_in_str : OpR X (compareOp .In) (fun x y H Q => ∃ i j, x = .str i ∧ y = .str j ∧ Q (.bl (!(Builtin.Str.occurrences j i 0 j.length 1).isEmpty)) H) := by
  intro pins s σ H x y v u Q I rx ry h
  obtain ⟨i, j, rfl, rfl, q⟩ := h
  obtain ⟨t, rfl⟩ := rx
  obtain ⟨t', rfl⟩ := ry
  exact in_str (fin_bl I q rfl)

/-- is None, is not None: the right side a value none -/
theorem op_isN : OpR X (compareOp .Is) (fun x y H Q => y = .non ∧ Q (.bl (decide (x = .non))) H) := by
  intro pins s σ H x y v u Q I rx ry h
  obtain ⟨rfl, q⟩ := h
  cases ry
  refine is_none_gen (fin_bl I q ?_)
  cases x <;> first
    | (cases rx; rfl)
    | (obtain ⟨t, rfl⟩ := rx; rfl)
theorem op_notN : OpR X (compareOp .IsNot) (fun x y H Q => y = .non ∧ Q (.bl (!decide (x = .non))) H) := by
  intro pins s σ H x y v u Q I rx ry h
  obtain ⟨rfl, q⟩ := h
  cases ry
  refine isnot_none_gen (fin_bl I q ?_)
  cases x <;> first
    | (cases rx; rfl)
    | (obtain ⟨t, rfl⟩ := rx; rfl)

theorem op_notin_str : OpR X (compareOp .NotIn) (fun x y H Q => ∃ i j, x = .str i ∧ y = .str j ∧ Q (.bl (!(!(Builtin.Str.occurrences j i 0 j.length 1).isEmpty))) H) := by
  intro pins s σ H x y v u Q I rx ry h
  obtain ⟨i, j, rfl, rfl, q⟩ := h
  obtain ⟨t, rfl⟩ := rx
  obtain ⟨t', rfl⟩ := ry
  exact notIn_str (fin_bl I q rfl)
/-- is, is not of two objects that are tracked lists or instances -/
def isObj : HO → Bool
  | .lst _ => true
  | .ins _ _ _ => true
  | _ => false
theorem obj_there {pins : List (Addr × Obj)} {s : Shared} {σ : St} {H : Hp} {a : Addr} {o : HO} (I : Inv X pins σ H s) (h : H a = some o) (p : isObj o = true) : ∃ ob, s.heap.get? a = some ob ∧ ob.cls ≠ .type "tuple" := by
  cases o with
  | lst xs =>
    obtain ⟨_, its, n, _, e⟩ : xs.length ≤ sizeLine ∧ ∃ (its : List Value) (n : Nat), Vals xs its ∧ s.heap.get? a = some { cls := .type "list", data := .seq its.toArray n } := I.hok a _ h
    exact ⟨_, e, (by show Value.type "list" ≠ .type "tuple"; decide +kernel)⟩
  | ins C dx fs =>
    have x := I.hok a _ h
    obtain ⟨_, _, _, e, _⟩ := x
    exact ⟨_, e, (by show Value.ref C ≠ .type "tuple"; exact fun z => by cases z)⟩
  | _ => exact absurd (show false = true from p) Bool.false_ne_true
theorem op_is_ref : OpR X (compareOp .Is) (fun x y H Q => ∃ a b oa ob, x = .ref a ∧ y = .ref b ∧ H a = some oa ∧ isObj oa = true ∧ H b = some ob ∧ isObj ob = true ∧ Q (.bl (decide (a = b))) H) := by
  intro pins s σ H x y v u Q I rx ry h
  obtain ⟨a, b, oa, ob, rfl, rfl, ha, pa, hb, pb, q⟩ := h
  cases rx
  cases ry
  obtain ⟨o1, e1, n1⟩ := obj_there I ha pa
  obtain ⟨o2, e2, _⟩ := obj_there I hb pb
  by_cases z : a = b
  · subst z
    exact wpAny_is_ref_self (fin_bl I q (by simp))
  · exact wpAny_is_ref_other z e1 e2 n1 (fin_bl I q (by simp [z]))
theorem op_isnot_ref : OpR X (compareOp .IsNot) (fun x y H Q => ∃ a b oa ob, x = .ref a ∧ y = .ref b ∧ H a = some oa ∧ isObj oa = true ∧ H b = some ob ∧ isObj ob = true ∧ Q (.bl (!decide (a = b))) H) := by
  intro pins s σ H x y v u Q I rx ry h
  obtain ⟨a, b, oa, ob, rfl, rfl, ha, pa, hb, pb, q⟩ := h
  cases rx
  cases ry
  obtain ⟨o1, e1, n1⟩ := obj_there I ha pa
  obtain ⟨o2, e2, _⟩ := obj_there I hb pb
  by_cases z : a = b
  · subst z
    exact wpAny_isNot_ref_self (fin_bl I q (by simp))
  · exact wpAny_isNot_ref_other z e1 e2 n1 (fin_bl I q (by simp [z]))

/-- two rules for one operation: by cases -/
theorem OpR.or {f : Value → Value → Sem Value} {r r' : R2} (h : OpR X f r) (h' : OpR X f r') : OpR X f (fun x y H Q => r x y H Q ∨ r' x y H Q) := by
  intro pins s σ H x y v u Q I rx ry q
  rcases q with q | q
  · exact h pins s σ H x y v u Q I rx ry q
  · exact h' pins s σ H x y v u Q I rx ry q

theorem nomark (b : Expr) {op : CmpOp} (h : op ≠ .In := by decide) (h2 : op ≠ .NotIn := by decide) : behindInMarks op b = false := by
  have e1 : (op == CmpOp.In) = false := by cases op <;> first | rfl | exact absurd rfl h
  have e2 : (op == CmpOp.NotIn) = false := by cases op <;> first | rfl | exact absurd rfl h2
  cases b <;> simp [behindInMarks, e1, e2]
/-- a comparison as a value; hm: nomark b, or (for in, not in) by with_unfolding_all rfl -/
theorem pe_cmpR {op : CmpOp} {r : R2} (ho : OpR X (compareOp op) r) (ha : PE X a ta) (hb : PE X b tb) (hm : behindInMarks op b = false) : PE X (.Compare a [op] [b] pos) (tOp r ta tb) := by
  intro pins s σ H Q I h
  exact wpAny_Compare1 (binT ha hb I h fun v u s2 x y H2 I2 rx ry q => ho pins s2 σ H2 x y v u Q I2 rx ry q) hm
/-- a reading of a value as a test -/
def tTest (t : TE) : TT := fun σ H Q => t σ H fun x H' => ∃ k, x = .bl k ∧ Q k H'
theorem pt_cmpR {op : CmpOp} {r : R2} (ho : OpR X (compareOp op) r) (ha : PE X a ta) (hb : PE X b tb) (hm : behindInMarks op b = false) : PT X (.Compare a [op] [b] pos) (tTest (tOp r ta tb)) := by
  intro pins s σ H Q I h
  refine wpAny_isTrue_Compare1 (thn (ha pins s σ H _ I h) fun v s1 ⟨x, H1, I1, r1, q1⟩ => thn (hb pins s1 σ H1 _ I1 q1) fun u s2 ⟨y, H2, I2, r2, q2⟩ =>
    thn (ho pins s2 σ H2 x y v u _ I2 r1 r2 q2) fun c s3 ⟨z, H3, I3, r3, k, e, q3⟩ => ?_) hm
  subst e
  cases r3
  exact wpAny_truthy_bool ⟨H3, I3, q3⟩
/-- a op1 b op2 c -/
def tChain (r r' : R2) (ta tb tc : TE) : TE := fun σ H Q => ta σ H fun x H1 => tb σ H1 fun y H2 => r x y H2 fun z H3 => ∃ k, z = .bl k ∧
  (if k = true then tc σ H3 fun w' H4 => r' y w' H4 Q else Q (.bl false) H3)
theorem pe_chain {op op' : CmpOp} {r r' : R2} (ho : OpR X (compareOp op) r) (ho' : OpR X (compareOp op') r') (ha : PE X a ta) (hb : PE X b tb) (hc : PE X c tc)
    (hm : lastMarks [op, op'] [b, c] = false := by with_unfolding_all rfl) : PE X (.Compare a [op, op'] [b, c] pos) (tChain r r' ta tb tc) := by
  intro pins s σ H Q I h
  refine Compare_chain (thn (ha pins s σ H _ I h) fun v s1 ⟨x, H1, I1, r1, q1⟩ => chain_link (thn (hb pins s1 σ H1 _ I1 q1) fun u s2 ⟨y, H2, I2, r2, q2⟩ =>
    thn (ho pins s2 σ H2 x y v u _ I2 r1 r2 q2) fun d s3 ⟨z, H3, I3, r3, k, e, q3⟩ => ?_)) hm
  subst e
  cases r3
  refine wpAny_truthy_bool ?_
  cases k with
  | false => exact ite_ff ⟨.bl false, H3, I3, rfl, q3⟩
  | true => exact ite_tt (chain_last (thn (hc pins s3 σ H3 _ I3 q3) fun w' s4 ⟨z', H4, I4, r4, q4⟩ => ho' pins s4 σ H4 y z' u w' Q I4 r2 r4 q4))
theorem pt_chain {op op' : CmpOp} {r r' : R2} (ho : OpR X (compareOp op) r) (ho' : OpR X (compareOp op') r') (ha : PE X a ta) (hb : PE X b tb) (hc : PE X c tc)
    (hm : lastMarks [op, op'] [b, c] = false := by with_unfolding_all rfl) : PT X (.Compare a [op, op'] [b, c] pos) (tTest (tChain r r' ta tb tc)) := by
  intro pins s σ H Q I h
  refine isTrue_chain (thn (ha pins s σ H _ I h) fun v s1 ⟨x, H1, I1, r1, q1⟩ => test_link (thn (hb pins s1 σ H1 _ I1 q1) fun u s2 ⟨y, H2, I2, r2, q2⟩ =>
    thn (ho pins s2 σ H2 x y v u _ I2 r1 r2 q2) fun d s3 ⟨z, H3, I3, r3, k, e, q3⟩ => ?_)) hm
  subst e
  cases r3
  refine wpAny_truthy_bool ?_
  cases k with
  | false =>
    obtain ⟨k', e', q'⟩ := q3
    cases e'
    exact ite_ff ⟨H3, I3, q'⟩
  | true =>
    refine ite_tt (test_last (thn (hc pins s3 σ H3 _ I3 q3) fun w' s4 ⟨z', H4, I4, r4, q4⟩ => thn (ho' pins s4 σ H4 y z' u w' _ I4 r2 r4 q4) fun d' s5 ⟨z2, H5, I5, r5, k2, e2, q5⟩ => ?_))
    subst e2
    cases r5
    exact wpAny_truthy_bool ⟨H5, I5, q5⟩

/-! ### truth -/
/-- a value's truth by the abstract heap -/
def TruV (K : PySem.W.Frag) (x : V) (H : Hp) (k : Bool) : Prop :=
  match x with
  | .non => k = false
  | .bl b => k = b
  | .int i => k = (i != 0)
  | .str y => y.length ≤ sizeLine ∧ k = ((y.length : Int) != 0)
  | .byt y => y.size ≤ sizeLine ∧ k = ((y.size : Int) != 0)
  | .ref p => (∃ xs, SqL K H p xs ∧ k = !xs.isEmpty) ∨ (∃ xs, SqT K H p xs ∧ k = !xs.isEmpty) ∨ ∃ kvs, H p = some (.dK kvs) ∧ k = !kvs.isEmpty
  | _ => False
theorem isEmpty_kv {κ : Type} {kvs : List (κ × V)} {vs : List (κ × Value)} (r : KV kvs vs) : (!vs.isEmpty) = !kvs.isEmpty := by
  cases r <;> rfl
theorem isEmpty_of {xs : List V} {its : List Value} (r : Vals xs its) : (!its.toArray.isEmpty) = !xs.isEmpty := by
  cases r <;> simp
theorem line63 : (sizeLine : Nat) < 2 ^ 63 := by rw [sizeLine_eq]; decide
theorem tru_ok : TruR X (fun x H Q => ∃ k, TruV X.K x H k ∧ Q k H) := by
  intro pins s σ H x v Q I rx h
  obtain ⟨k, e, q⟩ := h
  have hl := line63
  have hs : sizeLine = 16777216 := sizeLine_eq
  cases x with
  | non =>
    cases rx
    have e' : k = false := e
    subst e'
    exact truthy_none ⟨H, I, q⟩
  | bl b =>
    cases rx
    have e' : k = b := e
    subst e'
    exact wpAny_truthy_bool ⟨H, I, q⟩
  | int i =>
    obtain ⟨t, rfl⟩ := rx
    have e' : k = (i != 0) := e
    subst e'
    exact PySem.P.truthy_int ⟨H, I, q⟩
  | str y =>
    obtain ⟨t, rfl⟩ := rx
    obtain ⟨hy, e'⟩ : y.length ≤ sizeLine ∧ k = ((y.length : Int) != 0) := e
    subst e'
    exact PySem.P.truthy_str (by omega) ⟨H, I.tok _, q⟩
  | byt y =>
    obtain ⟨t, rfl⟩ := rx
    obtain ⟨hy, e'⟩ : y.size ≤ sizeLine ∧ k = ((y.size : Int) != 0) := e
    subst e'
    exact PySem.W.truthy_bytes (by omega) ⟨H, I.tok _, q⟩
  | ref p =>
    cases rx
    have e' : (∃ xs, SqL X.K H p xs ∧ k = !xs.isEmpty) ∨ (∃ xs, SqT X.K H p xs ∧ k = !xs.isEmpty) ∨ ∃ kvs, H p = some (.dK kvs) ∧ k = !kvs.isEmpty := e
    rcases e' with ⟨xs, hx, e'⟩ | ⟨xs, hx, e'⟩ | ⟨kvs, hx, e'⟩
    · subst e'
      obtain ⟨its, r, pl, hz⟩ := I.list hx
      have hlen := r.length
      exact wpAny_truthy_list pl.isList (by simp only [List.size_toArray]; omega) ⟨H, I.tok _, by rw [isEmpty_of r]; exact q⟩
    · subst e'
      obtain ⟨its, r, pl, hz⟩ := I.tuple hx
      have hlen := r.length
      exact truthy_tuple pl (by simp only [List.size_toArray]; omega) ⟨H, I.tok _, by rw [isEmpty_of r]; exact q⟩
    · subst e'
      obtain ⟨hz, hS, vs, r, m⟩ : kvs.length ≤ sizeLine ∧ (p == sysModules) = false ∧ ∃ vs, KV kvs vs ∧ s.heap.DictOf (mixKind X.prog X.w) p vs := I.hok p _ hx
      have hlen : kvs.length = vs.length := Paired.length r
      exact wpAny_truthy_dict hS m (by omega) ⟨H, I.tok _, by rw [isEmpty_kv r]; exact q⟩
  | _ => exact (show False from e).elim
/-- any expression whose test is its value's truth (a name, a call, a subscript, a field ..: he by fun _ => rfl) -/
theorem pt_truth (ha : PE X a ta) (he : ∀ whole, isTrue a X.env whole = (do let v ← whole; standAt a.pos; holding [v] (truthy v))) :
    PT X a (fun σ H Q => ta σ H fun x H' => ∃ k, TruV X.K x H' k ∧ Q k H') := by
  intro pins s σ H Q I h
  exact isTrue_plain (thn (ha pins s σ H _ I h) fun v s1 ⟨x, H1, I1, r1, q1⟩ => tru_ok pins s1 σ H1 x v Q I1 r1 q1) (he _)

/-! ### strs and bytes -/
theorem pe_byt {x : List UInt8} {k : Nat} : PE X (.Constant (.bytes x) k pos) (fun _ H Q => Q (.byt x.toArray) H) := fun _ _ _ H _ I h => PySem.W.Constant_bytes ⟨.byt x.toArray, H, I.tok _, ⟨_, rfl⟩, h⟩
theorem op_add_str : OpR X (binaryOp .Add) (fun x y H Q => ∃ i j, x = .str i ∧ y = .str j ∧ i.length + j.length ≤ sizeLine ∧ Q (.str (i ++ j)) H) := by
  intro pins s σ H x y v u Q I rx ry h
  obtain ⟨i, j, rfl, rfl, hz, q⟩ := h
  obtain ⟨t, rfl⟩ := rx
  obtain ⟨t', rfl⟩ := ry
  exact add_str (fun t' tk => ⟨.str (i ++ j), H, I.tok _, ⟨_, rfl⟩, q⟩) hz
theorem iop_add_str : OpR X (inplaceOp .Add) (fun x y H Q => ∃ i j, x = .str i ∧ y = .str j ∧ i.length + j.length ≤ sizeLine ∧ Q (.str (i ++ j)) H) := by
  intro pins s σ H x y v u Q I rx ry h
  obtain ⟨i, j, rfl, rfl, hz, q⟩ := h
  obtain ⟨t, rfl⟩ := rx
  obtain ⟨t', rfl⟩ := ry
  exact iadd_str (fun t' tk => ⟨.str (i ++ j), H, I.tok _, ⟨_, rfl⟩, q⟩) hz
theorem op_add_byt : OpR X (binaryOp .Add) (fun x y H Q => ∃ i j, x = .byt i ∧ y = .byt j ∧ i.size + j.size ≤ 16777216 ∧ Q (.byt (i ++ j)) H) := by
  intro pins s σ H x y v u Q I rx ry h
  obtain ⟨i, j, rfl, rfl, hz, q⟩ := h
  obtain ⟨t, rfl⟩ := rx
  obtain ⟨t', rfl⟩ := ry
  exact PySem.W.KBy.add_bytes hz (fun t' tk => ⟨.byt (i ++ j), H, I.tok _, ⟨_, rfl⟩, q⟩)

def PlainIxT (b : Expr) : Prop := ∀ o i, subscripted b false o i = operate [o, i] (getItem o i)
/-- s[i], 0 ≤ i < len -/
theorem pe_item_str (ha : PE X a ta) (hb : PE X b tb) (hs : PlainIxT b) :
    PE X (.Subscript a b pos) (tOp (fun x y H Q => ∃ z i c, x = .str z ∧ y = .int i ∧ 0 ≤ i ∧ i < 2 ^ 63 ∧ i < z.length ∧ z.cps[i.toNat]? = some c ∧ Q (.str ⟨#[c]⟩) H) ta tb) := by
  intro pins s σ H Q I h
  refine Subscript_ (binT ha hb I h fun v u s2 x y H2 I2 rx ry q => ?_)
  obtain ⟨z, i, c, rfl, rfl, h0, h63, h1, hc, q⟩ := q
  obtain ⟨t, rfl⟩ := rx
  obtain ⟨t', rfl⟩ := ry
  have e : seqIndex? i z.length = some i.toNat := PySem.StrLaws.seqIndex_nonneg h0 h1
  exact tail_any (typeIs_str s2 z t) slot_str_getitem.lookup (getItem_str (c := c) (by
    have e1 : decide (i < -(2 ^ 63 : Int)) = false := decide_eq_false (by omega)
    have e2 : decide (i ≥ 2 ^ 63) = false := decide_eq_false (by omega)
    rw [e1, e2] <;> rfl) (by rw [e]; exact hc) ⟨.str ⟨#[c]⟩, H2, I2.tok _, ⟨_, rfl⟩, q⟩) (hs _ _)
/-- b[i], 0 ≤ i < len -/
theorem pe_item_byt (ha : PE X a ta) (hb : PE X b tb) (hs : PlainIxT b) :
    PE X (.Subscript a b pos) (tOp (fun x y H Q => ∃ (z : List UInt8) (i : Int), x = .byt z.toArray ∧ y = .int i ∧ z.length ≤ sizeLine ∧ 0 ≤ i ∧ i < z.length ∧ Q (.int ((z.getD i.toNat 0).toNat : Nat)) H) ta tb) := by
  intro pins s σ H Q I h
  refine Subscript_ (binT ha hb I h fun v u s2 x y H2 I2 rx ry q => ?_)
  obtain ⟨z, i, rfl, rfl, hz, h0, h1, q⟩ := q
  obtain ⟨t, rfl⟩ := rx
  obtain ⟨t', rfl⟩ := ry
  have hl : sizeLine = 16777216 := sizeLine_eq
  exact tail_any (PySem.W.typeIs_bytes s2 z.toArray t) PySem.W.FB.slot_bytes_getitem.lookup (PySem.W.getItem_bytes (by omega) h0 h1 ⟨.int ((z.getD i.toNat 0).toNat : Nat), H2, I2.tok _, ⟨_, rfl⟩, q⟩) (hs _ _)

/-! ### scalar builtins, by CallR -/
theorem vals1 {x : V} {us : List Value} (r : Vals [x] us) : ∃ u, us = [u] ∧ RelV x u := by
  cases r with
  | cons r1 r2 => cases r2; exact ⟨_, rfl, r1⟩
theorem vals2 {x y : V} {us : List Value} (r : Vals [x, y] us) : ∃ u w', us = [u, w'] ∧ RelV x u ∧ RelV y w' := by
  cases r with
  | cons r1 r2 =>
    cases r2 with
    | cons r3 r4 => cases r4; exact ⟨_, _, rfl, r1, r3⟩
theorem call_abs : CallR X (.builtin "abs") (fun xs H Q => ∃ i, xs = [.int i] ∧ Q (.int (if i < 0 then -i else i)) H) := by
  intro pins s σ H xs us Q I r h
  obtain ⟨i, rfl, q⟩ := h
  obtain ⟨u, rfl, t, rfl⟩ := vals1 r
  exact call_abs_int fun u tk => ⟨.int (if i < 0 then -i else i), H, I.tok _, ⟨_, rfl⟩, q⟩
theorem call_max2 (hc : X.calm = true) : CallR X (.builtin "max") (fun xs H Q => ∃ i j, xs = [.int i, .int j] ∧ Q (.int (if j > i then j else i)) H) := by
  intro pins s σ H xs us Q I r h
  obtain ⟨i, j, rfl, q⟩ := h
  obtain ⟨u, w', rfl, ⟨t, rfl⟩, ⟨t', rfl⟩⟩ := vals2 r
  refine max_two_ints (I.ok.hd hc) fun h' tk k => ⟨_, H, I.kept k, ?_, q⟩
  by_cases hj : j > i
  · rw [if_pos hj, if_pos hj]; exact ⟨_, rfl⟩
  · rw [if_neg hj, if_neg hj]; exact ⟨_, rfl⟩
theorem call_min2 (hc : X.calm = true) : CallR X (.builtin "min") (fun xs H Q => ∃ i j, xs = [.int i, .int j] ∧ Q (.int (if j < i then j else i)) H) := by
  intro pins s σ H xs us Q I r h
  obtain ⟨i, j, rfl, q⟩ := h
  obtain ⟨u, w', rfl, ⟨t, rfl⟩, ⟨t', rfl⟩⟩ := vals2 r
  refine min_two_ints (I.ok.hd hc) fun h' tk k => ⟨_, H, I.kept k, ?_, q⟩
  by_cases hj : j < i
  · rw [if_pos hj, if_pos hj]; exact ⟨_, rfl⟩
  · rw [if_neg hj, if_neg hj]; exact ⟨_, rfl⟩
theorem call_int1 : CallR X (.type "int") (fun xs H Q => (∃ i, xs = [.int i] ∧ Q (.int i) H) ∨ ∃ k, xs = [.bl k] ∧ Q (.int (if k then 1 else 0)) H) := by
  intro pins s σ H xs us Q I r h
  rcases h with ⟨i, rfl, q⟩ | ⟨k, rfl, q⟩
  · obtain ⟨u, rfl, t, rfl⟩ := vals1 r
    exact call_int_int ⟨.int i, H, I, ⟨_, rfl⟩, q⟩
  · obtain ⟨u, rfl, r1⟩ := vals1 r
    cases r1
    exact call_int_bool ⟨.int (if k then 1 else 0), H, I.tok _, ⟨_, rfl⟩, q⟩
theorem call_bool1 : CallR X (.type "bool") (fun xs H Q => (∃ i, xs = [.int i] ∧ Q (.bl (i != 0)) H) ∨ ∃ k, xs = [.bl k] ∧ Q (.bl k) H) := by
  intro pins s σ H xs us Q I r h
  rcases h with ⟨i, rfl, q⟩ | ⟨k, rfl, q⟩
  · obtain ⟨u, rfl, t, rfl⟩ := vals1 r
    exact call_bool_int ⟨.bl (i != 0), H, I, rfl, q⟩
  · obtain ⟨u, rfl, r1⟩ := vals1 r
    cases r1
    exact call_bool_bool ⟨.bl k, H, I, rfl, q⟩
theorem call_str_int : CallR X (.type "str") (fun xs H Q => ∃ i, xs = [.int i] ∧ i.natAbs.log2 < 1920 ∧ Q (.str (toString i)) H) := by
  intro pins s σ H xs us Q I r h
  obtain ⟨i, rfl, hz, q⟩ := h
  obtain ⟨u, rfl, t, rfl⟩ := vals1 r
  exact PySem.P.str_of_int hz ⟨.str _, H, I.tok _, ⟨_, rfl⟩, q⟩
theorem call_ord : CallR X (.builtin "ord") (fun xs H Q => ∃ x, xs = [.str x] ∧ x.length = 1 ∧ Q (.int (x.cps.getD 0 0 : Nat)) H) := by
  intro pins s σ H xs us Q I r h
  obtain ⟨x, rfl, hz, q⟩ := h
  obtain ⟨u, rfl, t, rfl⟩ := vals1 r
  exact ord_of_one hz ⟨.int _, H, I.tok _, ⟨_, rfl⟩, q⟩
theorem call_chr : CallR X (.builtin "chr") (fun xs H Q => ∃ i, xs = [.int i] ∧ 0 ≤ i ∧ i ≤ 1114111 ∧ Q (.str ⟨#[i.toNat]⟩) H) := by
  intro pins s σ H xs us Q I r h
  obtain ⟨i, rfl, h0, h1, q⟩ := h
  obtain ⟨u, rfl, t, rfl⟩ := vals1 r
  exact chr_of_range h0 h1 ⟨.str _, H, I.tok _, ⟨_, rfl⟩, q⟩
/-- len of a str, a bytes, a list, a tuple -/
def LenV (K : PySem.W.Frag) (x : V) (H : Hp) (n : Nat) : Prop :=
  match x with
  | .str y => y.length ≤ sizeLine ∧ n = y.length
  | .byt y => y.size ≤ sizeLine ∧ n = y.size
  | .ref p => (∃ xs, SqL K H p xs ∧ n = xs.length) ∨ ∃ xs, SqT K H p xs ∧ n = xs.length
  | _ => False
theorem call_len : CallR X (.builtin "len") (fun xs H Q => ∃ x n, xs = [x] ∧ LenV X.K x H n ∧ Q (.int n) H) := by
  intro pins s σ H xs us Q I r h
  obtain ⟨x, n, rfl, e, q⟩ := h
  obtain ⟨u, rfl, rx⟩ := vals1 r
  have hl := line63
  have hs : sizeLine = 16777216 := sizeLine_eq
  cases x with
  | str y =>
    obtain ⟨t, rfl⟩ := rx
    obtain ⟨hy, e'⟩ : y.length ≤ sizeLine ∧ n = y.length := e
    subst e'
    exact len_str (by omega) ⟨.int _, H, I.tok _, ⟨_, rfl⟩, q⟩
  | byt y =>
    obtain ⟨t, rfl⟩ := rx
    obtain ⟨hy, e'⟩ : y.size ≤ sizeLine ∧ n = y.size := e
    subst e'
    exact PySem.W.len_bytes (by omega) ⟨.int _, H, I.tok _, ⟨_, rfl⟩, q⟩
  | ref p =>
    cases rx
    have e' : (∃ xs, SqL X.K H p xs ∧ n = xs.length) ∨ ∃ xs, SqT X.K H p xs ∧ n = xs.length := e
    rcases e' with ⟨xs, hx, e'⟩ | ⟨xs, hx, e'⟩
    · subst e'
      obtain ⟨its, r', pl, hz⟩ := I.list hx
      have hlen := r'.length
      exact Calls.call_len_list pl.isList (by simp only [List.size_toArray]; omega) ⟨.int xs.length, H, I.tok _, ⟨_, by simp only [List.size_toArray]; rw [hlen]⟩, q⟩
    · subst e'
      obtain ⟨its, r', pl, hz⟩ := I.tuple hx
      have hlen := r'.length
      exact len_tuple pl (by simp only [List.size_toArray]; omega) ⟨.int xs.length, H, I.tok _, ⟨_, by simp only [List.size_toArray]; rw [hlen]⟩, q⟩
  | _ => exact (show False from e).elim
/-- divmod: a new tuple -/
theorem call_divmod : CallR X (.builtin "divmod") (fun xs H Q => ∃ i j, xs = [.int i, .int j] ∧ CDiv i j ∧ ∀ p, H p = none → Q (.ref p) (upd H p (.tup [.int (i / j), .int (i % j)]))) := by
  intro pins s σ H xs us Q I r h
  obtain ⟨i, j, rfl, ⟨h1, h2⟩, q⟩ := h
  obtain ⟨u, w', rfl, ⟨t, rfl⟩, ⟨t', rfl⟩⟩ := vals2 r
  refine divmod_int (by omega) ?_ (.inl (PyProof.noPylong_small (by omega)))
  rw [Int.fdiv_eq_ediv_of_nonneg i (by omega), Int.fmod_eq_emod_of_nonneg i (by omega)]
  have hn : H s.heap.objs.size = none := I.hok.fresh (Nat.le_refl _)
  refine ⟨.ref s.heap.objs.size, _, ?_, rfl, q _ hn⟩
  refine I.laid (fun b o e => Heap.get?_push_of_some _ e) (Nat.le_refl _) ⟨by simp only [List.length_cons, List.length_nil]; rw [sizeLine_eq]; decide, [.int (i / j) s.toks, .int (i % j) (s.toks + 1)], .cons ⟨_, rfl⟩ (.cons ⟨_, rfl⟩ .nil), ?_⟩
  exact ⟨_, Heap.get?_push_size s.heap rfl, rfl, 0, rfl⟩
end
end L2

namespace L2
open PySem PySem.Spec PyProof.Rows

/-! ### an instance, its attributes a map -/
structure ObjM (h : Heap) (x dx C : Addr) (mA : Str → Option Value) : Prop where
  obj : h.get? x = some (PySem.W.instObj C dx)
  ns : h.Ns1 dx mA
  ne : dx ≠ x

theorem lookIn_ns {h : Heap} {dx : Addr} {mA : Str → Option Value} (n : h.Ns1 dx mA) : ∃ od, h.get? dx = some od ∧ ∀ name, PySem.W.lookIn name od = some (mA name) := by
  obtain ⟨o, es, ep, ho, hd, hk, _, hm⟩ := n
  refine ⟨o, ho, fun name => ?_⟩
  have e := hm name
  unfold nsFind findBy at e
  rw [← Array.find?_toList] at e
  unfold PySem.W.lookIn
  rw [hd]
  dsimp only
  split
  · rename_i y q
    rw [q] at e
    exact congrArg some e
  · rename_i q
    rw [q] at e
    have a : es.toList.any (·.refKey) = false := by
      rw [List.any_eq_false]
      intro y hy
      obtain ⟨z, t, hkey⟩ := hk y (Array.mem_toList_iff.mp hy)
      simp [DictEntry.refKey, hkey]
    have a' : ¬ es.toList.any (·.refKey) = true := by rw [a]; exact Bool.false_ne_true
    rw [if_neg a']
    exact congrArg some e

theorem ObjM.look {h : Heap} {x dx C : Addr} {mA : Str → Option Value} (I : ObjM h x dx C mA) : ∃ od, PySem.W.InstAt h x (PySem.W.instObj C dx) C (some od) ∧ ∀ name, PySem.W.lookIn name od = some (mA name) :=
  let ⟨od, ho, hl⟩ := lookIn_ns I.ns
  ⟨od, ⟨I.obj, rfl, rfl, ho⟩, hl⟩

section
variable {prog : Program} {w : World} {A : Around} {E : Value → Shared → Prop} {s : Shared} {K : PySem.W.Frag} {x dx C f : Addr} {mA : Str → Option Value} {name : Str} {v : Value}

theorem get_map {expr : Bool} {Q : Value → Shared → Prop} (X : K.In s.heap) (I : ObjM s.heap x dx C mA) (hg : PySem.W.plainGet K C name = true) (hh : PySem.W.hasDictIn K C = true)
    (ha : PySem.W.findIn K (.ref C) name = some none) (hv : mA name = some v) (hv' : PySem.W.handedIn v = true) (h : Q v { s with toks := s.toks + 1 }) :
    wpAny (model prog w) A (getAttr (.ref x) name expr) Q E s := by
  obtain ⟨od, J, hl⟩ := I.look
  exact PySem.W.get_value X J (PySem.W.plainGet_of hg).1 (PySem.W.findObj_own hh ha rfl (by rw [hl, hv])) hv' h

theorem get_const {expr : Bool} {a : Value} {Q : Value → Shared → Prop} (X : K.In s.heap) (I : ObjM s.heap x dx C mA) (hg : PySem.W.plainGet K C name = true) (hh : PySem.W.hasDictIn K C = true)
    (ha : PySem.W.findIn K (.ref C) name = some (some a)) (hn : PySem.W.specialIn K a "__get__" = some none) (hc : PySem.W.copiedNames.contains name = false) (hv : mA name = none) (hv' : PySem.W.handedIn a = true)
    (h : Q a { s with toks := s.toks + 1 }) : wpAny (model prog w) A (getAttr (.ref x) name expr) Q E s := by
  obtain ⟨od, J, hl⟩ := I.look
  exact PySem.W.get_value X J (PySem.W.plainGet_of hg).1 (PySem.W.findObj_cls hh ha hn hv' hc (by rw [hl, hv])) hv' h

theorem get_meth {pl : Sem Bool} {Q : Value × List Value → Shared → Prop} (X : K.In s.heap) (I : ObjM s.heap x dx C mA) (hg : PySem.W.plainGet K C name = true)
    (hf : PySem.W.findIn K (.ref C) name = some (some (.ref f))) (ht : PySem.W.isFn K (.ref f) = true) (hv : mA name = none) (h : Q (.ref f, [.ref x]) s) :
    wpAny (model prog w) A (getMethod (.ref x) name pl) Q E s := by
  obtain ⟨od, J, hl⟩ := I.look
  exact PySem.W.method_fn X J (PySem.W.plainGet_of hg).1 (PySem.W.plainGet_of hg).2 hf (beq_iff_eq.mp ht) (by show (PySem.W.lookIn name od).map (·.isSome) = some false; rw [hl, hv]; rfl) h

theorem set_map {ns : List Str} {Q : Unit → Shared → Prop} (X : K.In s.heap) (I : ObjM s.heap x dx C mA)
    (hs : PySem.W.findIn K (.ref C) "__setattr__" = some (some (.builtin "object.__setattr__"))) (hp : PySem.W.plainOver K C = true) (ht : PySem.W.takerIn K C name = some none) (hh : PySem.W.hasDictIn K C = true)
    (hw : PySem.Within mA ns) (hsz : ns.length ≤ sizeLine)
    (h : ∀ h', ObjM h' x dx C (fun y => if y = name then some v else mA y) → Heap.SameBut dx s.heap h' → Q () { s with heap := h', toks := s.toks + 2 }) :
    wpAny (model prog w) A (setAttr (.ref x) name v) Q E s := by
  obtain ⟨od, J, hl⟩ := I.look
  refine PySem.W.set_plain X J hs (PySem.W.osa_open (s := { s with toks := s.toks + 1 }) (r := none) X J hp ht fun b => ?_)
  obtain ⟨cd, hc, hd'⟩ := PySem.W.any_some hh
  have hx : s.heap.get? x = some ⟨.ref C, some dx, .plain, #[]⟩ := I.obj
  refine wpAny_bind (wpAny_pure (wpAny_bind (wpAny_bind (wpAny_loadPart hx (wpAny_bind (PySem.W.Looks.here (s := { s with toks := s.toks + 1 }) (PySem.W.looks_clsIn X hc) ?_))))))
  rw [hd']
  refine wpAny_pure (a := some dx) (wpAny_bind (wpAny_pure (wpAny_bind ?_)))
  refine wpAny_nsSet1 (s := { s with toks := s.toks + 1 }) I.ns fun h' hn2 hs2 => ?_
  obtain ⟨oD, esD, epD, hoD, hdD, hcD⟩ := hn2.count (PySem.Within.cons name v hw)
  refine wpAny_bind (wpAny_lookBehind hoD (by rw [hdD]; exact pastItsLine_dict (Nat.le_trans hcD (by rw [List.length_cons]; omega))) ?_)
  exact wpAny_pure (h _ ⟨(hs2.2 _ (Ne.symm I.ne)).trans I.obj, hn2, I.ne⟩ hs2)

/-- C(..): the dict at the heap's end, the instance behind it; then its __init__ -/
theorem make_map {R : Result → Shared → Prop} {vs : List Value} {kw : List (Str × Value)} (X : K.In s.heap) (hm : PySem.W.makesIn K C = true)
    (hi : PySem.W.findIn K (.ref C) "__init__" = some (some (.ref f))) (hf : PySem.W.typeIn K (.ref f) = some (.type "function"))
    (h : codeAny (model prog w) (A.under (.builtin "type.__call__" ⟨.ref C :: vs, kw⟩)) (.call (.ref f) ⟨.ref (s.heap.objs.size + 1) :: vs, kw⟩) (PySem.W.InitBack (s.heap.objs.size + 1) R)
      { s with heap := (s.heap.push PySem.W.emptyDict).push (PySem.W.instObj C s.heap.objs.size) }) :
    codeAny (model prog w) A (.call (.ref C) ⟨vs, kw⟩) R s := by
  obtain ⟨hh, g, d, t, os⟩ := s
  exact PySem.W.make_core (PySem.W.makes_of X hm) (PySem.W.looks_findIn X hi) (fun self => PySem.W.bind_fn X self hf) (.inl rfl) h
/-- C() where there is no __init__ but object's -/
theorem make_map0 {R : Result → Shared → Prop} (X : K.In s.heap) (hm : PySem.W.makesIn K C = true)
    (hi : PySem.W.findIn K (.ref C) "__init__" = some (some (.builtin "object.__init__")))
    (hb : ∀ self, PySem.W.Looks (model prog w) s.heap (bindSpecial (.builtin "object.__init__") self) (.builtin "object.__init__", [self]))
    (h : codeAny (model prog w) (A.under (.builtin "type.__call__" ⟨[.ref C], []⟩)) (.call (.builtin "object.__init__") ⟨[.ref (s.heap.objs.size + 1)], []⟩) (PySem.W.InitBack (s.heap.objs.size + 1) R)
      { s with heap := (s.heap.push PySem.W.emptyDict).push (PySem.W.instObj C s.heap.objs.size) }) :
    codeAny (model prog w) A (.call (.ref C) ⟨[], []⟩) R s := by
  obtain ⟨hh, g, d, t, os⟩ := s
  exact PySem.W.make_core (PySem.W.makes_of X hm) (PySem.W.looks_findIn X hi) hb (.inr ⟨rfl, rfl⟩) h
end

/-! ### the attributes as a list of pairs -/
def putF (f : Str) (v : V) : List (Str × V) → List (Str × V)
  | [] => [(f, v)]
  | (g, x) :: r => if g = f then (g, v) :: r else (g, x) :: putF f v r
theorem lookup_putF (f g : Str) (v : V) : ∀ fs : List (Str × V), (putF f v fs).lookup g = if g = f then some v else fs.lookup g
  | [] => by
    show List.lookup g [(f, v)] = _
    by_cases h : g = f
    · have hb : (g == f) = true := beq_iff_eq.mpr h
      simp only [List.lookup, hb, if_pos h]
    · have hb : (g == f) = false := beq_eq_false_iff_ne.mpr h
      simp only [List.lookup, hb, if_neg h]
  | (k, x) :: r => by
    have ih := lookup_putF f g v r
    rw [show putF f v ((k, x) :: r) = (if k = f then (k, v) :: r else (k, x) :: putF f v r) from rfl]
    by_cases hk : k = f
    · rw [if_pos hk]
      by_cases h : g = k
      · have hb : (g == k) = true := beq_iff_eq.mpr h
        simp only [List.lookup, hb, if_pos (h.trans hk)]
      · have hb : (g == k) = false := beq_eq_false_iff_ne.mpr h
        simp only [List.lookup, hb, if_neg (fun e : g = f => h (e.trans hk.symm))]
    · rw [if_neg hk]
      by_cases h : g = k
      · have hb : (g == k) = true := beq_iff_eq.mpr h
        simp only [List.lookup, hb, if_neg (fun e : g = f => hk (h.symm.trans e))]
      · have hb : (g == k) = false := beq_eq_false_iff_ne.mpr h
        simp only [List.lookup, hb]
        exact ih
theorem keys_putF (f : Str) (v : V) : ∀ fs : List (Str × V), f ∈ (putF f v fs).map (·.1) ∧ ∀ g, g ∈ fs.map (·.1) → g ∈ (putF f v fs).map (·.1)
  | [] => ⟨by simp [putF], fun g h => by simp at h⟩
  | (k, x) :: r => by
    obtain ⟨i1, i2⟩ := keys_putF f v r
    rw [show putF f v ((k, x) :: r) = (if k = f then (k, v) :: r else (k, x) :: putF f v r) from rfl]
    by_cases hk : k = f
    · rw [if_pos hk]
      subst hk
      exact ⟨by simp, fun g h => by simpa using h⟩
    · rw [if_neg hk]
      refine ⟨?_, fun g h => ?_⟩
      · rw [List.map_cons]
        exact List.mem_cons_of_mem _ i1
      · rw [List.map_cons] at h ⊢
        rcases List.mem_cons.mp h with e | e
        · exact List.mem_cons.mpr (.inl e)
        · exact List.mem_cons_of_mem _ (i2 g e)
theorem length_putF (f : Str) (v : V) : ∀ fs : List (Str × V), (putF f v fs).length ≤ fs.length + 1
  | [] => by simp [putF]
  | (k, x) :: r => by
    have ih := length_putF f v r
    rw [show putF f v ((k, x) :: r) = (if k = f then (k, v) :: r else (k, x) :: putF f v r) from rfl]
    by_cases hk : k = f
    · rw [if_pos hk, List.length_cons, List.length_cons]; omega
    · rw [if_neg hk, List.length_cons, List.length_cons]; omega

theorem RelO.some_of {v : V} {o : Option Value} (r : RelO (some v) o) : ∃ u, o = some u ∧ RelV v u := by
  cases o with
  | none => exact (show False from r).elim
  | some u => exact ⟨u, rfl, r⟩
theorem RelO.none_of {o : Option Value} (r : RelO none o) : o = none := by
  cases o with
  | none => rfl
  | some u => exact (show False from r).elim
theorem handed_of {v : V} {u : Value} (r : RelV v u) : PySem.W.handedIn u = true := by
  cases v with
  | non => cases (show u = Value.none from r); rfl
  | bl b => cases (show u = Value.bool b from r); rfl
  | int i => obtain ⟨t, e⟩ := (show ∃ t, u = Value.int i t from r); cases e; rfl
  | str x => obtain ⟨t, e⟩ := (show ∃ t, u = Value.str x t from r); cases e; rfl
  | byt b => obtain ⟨t, e⟩ := (show ∃ t, u = Value.bytes b t from r); cases e; rfl
  | flt b => obtain ⟨t, e⟩ := (show ∃ t, u = Value.float b t from r); cases e; rfl
  | ref a => cases (show u = Value.ref a from r); rfl
  | ty n => cases (show u = Value.type n from r); rfl

section
variable {P : Program} {w : World} {H H' : Hp} {h h' : Heap} {a C dx : Addr} {fs fs' : List (Str × V)}
theorem ins_get (hok : HOk P w H h) (e : H a = some (.ins C dx fs)) : ∃ mA, ObjM h a dx C mA ∧ (∀ f, RelO (fs.lookup f) (mA f)) ∧ PySem.Within mA (fs.map (·.1)) ∧ fs.length ≤ 1000 ∧ H dx = some (.own a) := by
  obtain ⟨d, z, ne, ob, mA, n, r, q⟩ := (show ObjOk P w H h a (.ins C dx fs) from hok a _ e)
  exact ⟨mA, ⟨ob, n, ne⟩, r, q, z, d⟩
end

/-! ### what of the text a class must have -/
structure Cls (K : PySem.W.Frag) (C : Addr) : Prop where
  pg : PySem.W.plainGet K C Str.empty = true
  hd : PySem.W.hasDictIn K C = true
  po : PySem.W.plainOver K C = true
  sa : PySem.W.findIn K (.ref C) "__setattr__" = some (some (.builtin "object.__setattr__"))
theorem Cls.get {K : PySem.W.Frag} {C : Addr} (c : Cls K C) (f : Str) : PySem.W.plainGet K C f = true := c.pg
/-- no class of it has the name -/
def NoAttr (K : PySem.W.Frag) (C : Addr) (f : Str) : Prop := PySem.W.findIn K (.ref C) f = some none
theorem NoAttr.taker {K : PySem.W.Frag} {C : Addr} {f : Str} (n : NoAttr K C f) : PySem.W.takerIn K C f = some none := by
  unfold PySem.W.takerIn
  rw [show PySem.W.findIn K (.ref C) f = some none from n]
  rfl
/-- a constant of the class -/
structure Con (K : PySem.W.Frag) (C : Addr) (f : Str) (v : V) (u : Value) : Prop where
  at_ : PySem.W.findIn K (.ref C) f = some (some u)
  rel : RelV v u
  get : PySem.W.specialIn K u "__get__" = some none
  cp : PySem.W.copiedNames.contains f = false
/-- a method: a plain def of the class or of one above it -/
structure Meth (K : PySem.W.Frag) (C : Addr) (m : Str) (f : Addr) : Prop where
  at_ : PySem.W.findIn K (.ref C) m = some (some (.ref f))
  fn : PySem.W.isFn K (.ref f) = true
  kp : PySem.W.keepIn K (.ref f) = true

section
variable {X : Cx} {pins : List (Addr × Obj)} {σ : St} {H : Hp} {s : Shared} {a C dx : Addr} {fs : List (Str × V)} {f : Str} {v : V} {A : Around} {E : Value → Shared → Prop}

theorem getattr_ok {b : Bool} {Q : Value → Shared → Prop} (I : Inv X pins σ H s) (e : H a = some (.ins C dx fs)) (c : Cls X.K C) (n : NoAttr X.K C f) (l : fs.lookup f = some v)
    (h : ∀ u s', Inv X pins σ H s' → RelV v u → Q u s') : wpAny (model X.prog X.w) A (getAttr (.ref a) f b) Q E s := by
  obtain ⟨mA, O, r, _, _, _⟩ := ins_get I.hok e
  obtain ⟨u, hu, ru⟩ := RelO.some_of (v := v) (o := mA f) (by rw [← l]; exact r f)
  exact get_map I.kIn O (c.get f) c.hd n hu (handed_of ru) (h u _ (I.tok _) ru)

theorem getcon_ok {b : Bool} {u : Value} {Q : Value → Shared → Prop} (I : Inv X pins σ H s) (e : H a = some (.ins C dx fs)) (c : Cls X.K C) (k : Con X.K C f v u) (l : fs.lookup f = none)
    (h : ∀ s', Inv X pins σ H s' → Q u s') : wpAny (model X.prog X.w) A (getAttr (.ref a) f b) Q E s := by
  obtain ⟨mA, O, r, _, _, _⟩ := ins_get I.hok e
  have hn : mA f = none := RelO.none_of (by rw [← l]; exact r f)
  exact get_const I.kIn O (c.get f) c.hd k.at_ k.get k.cp hn (handed_of k.rel) (h _ (I.tok _))

theorem getmeth_ok {m : Str} {g : Addr} {pl : Sem Bool} {Q : Value × List Value → Shared → Prop} (I : Inv X pins σ H s) (e : H a = some (.ins C dx fs)) (c : Cls X.K C) (k : Meth X.K C m g) (l : fs.lookup m = none)
    (h : Q (.ref g, [.ref a]) s) : wpAny (model X.prog X.w) A (getMethod (.ref a) m pl) Q E s := by
  obtain ⟨mA, O, r, _, _, _⟩ := ins_get I.hok e
  have hn : mA m = none := RelO.none_of (by rw [← l]; exact r m)
  exact get_meth I.kIn O (c.get m) k.at_ k.fn hn h

theorem setattr_ok {y : V} {u : Value} {Q : Unit → Shared → Prop} (I : Inv X pins σ H s) (e : H a = some (.ins C dx fs)) (c : Cls X.K C) (n : NoAttr X.K C f) (hl : fs.length < 1000) (ry : RelV y u)
    (h : ∀ s', Inv X pins σ (upd H a (.ins C dx (putF f y fs))) s' → Q () s') : wpAny (model X.prog X.w) A (setAttr (.ref a) f u) Q E s := by
  obtain ⟨mA, O, r, wi, _, ho⟩ := ins_get I.hok e
  have hz : (fs.map (·.1)).length ≤ sizeLine := by rw [List.length_map, sizeLine_eq]; omega
  refine set_map I.kIn O c.sa c.po n.taker c.hd wi hz fun h' O' sb => h _ ?_
  have hd : ∃ o, h'.get? dx = some o := let ⟨o, _, _, e', _⟩ := O'.ns; ⟨o, e'⟩
  refine I.write (x := a) (e := dx) (by rw [e]; exact True.intro) (.inr ho) (fun b q hb z => (sb.2 b hb).trans z) hd ?_
  refine ⟨by rw [upd_ne O.ne]; exact ho, ?_, O.ne, O'.obj, _, O'.ns, fun g => ?_, fun g hg => ?_⟩
  · have := length_putF f y fs; omega
  · show RelO ((putF f y fs).lookup g) (if g = f then some u else mA g)
    rw [lookup_putF]
    by_cases q : g = f
    · rw [if_pos q, if_pos q]; exact ry
    · rw [if_neg q, if_neg q]; exact r g
  · by_cases q : g = f
    · rw [q]; exact (keys_putF f y fs).1
    · refine (keys_putF f y fs).2 g (wi g fun z => hg ?_)
      show (if g = f then some u else mA g) = none
      rw [if_neg q]; exact z

/-- a new instance, tracked, without attributes -/
theorem Inv.made (I : Inv X pins σ H s) : Inv X pins σ (upd (upd H s.heap.objs.size (.own (s.heap.objs.size + 1))) (s.heap.objs.size + 1) (.ins C s.heap.objs.size []))
    { s with heap := (s.heap.push PySem.W.emptyDict).push (PySem.W.instObj C s.heap.objs.size) } := by
  have e1 : (s.heap.push PySem.W.emptyDict).get? s.heap.objs.size = some PySem.W.emptyDict := Heap.get?_push_size s.heap rfl
  have e2 : ((s.heap.push PySem.W.emptyDict).push (PySem.W.instObj C s.heap.objs.size)).get? (s.heap.objs.size + 1) = some (PySem.W.instObj C s.heap.objs.size) := by
    have := Heap.get?_push_size (s.heap.push PySem.W.emptyDict) (o := PySem.W.instObj C s.heap.objs.size) rfl
    rwa [Heap.size_push] at this
  have e3 : (s.heap.push PySem.W.emptyDict).Ns s.heap.objs.size (fun _ => none) := ⟨PySem.W.emptyDict, #[], _, e1, rfl, (fun e he => absurd he (by simp)), fun _ => rfl⟩
  have I1 := I.laid (a := s.heap.objs.size) (o := .own (s.heap.objs.size + 1)) (h' := s.heap.push PySem.W.emptyDict) (t' := s.toks) (fun b u q => Heap.get?_push_of_some _ q) (Nat.le_refl _) ⟨_, e1⟩
  refine I1.laid (a := s.heap.objs.size + 1) (o := .ins C s.heap.objs.size []) (t' := s.toks) (fun b u q => Heap.get?_push_of_some _ q) (Nat.le_of_eq (Heap.size_push _ _)) ?_
  have ne : s.heap.objs.size ≠ s.heap.objs.size + 1 := Nat.ne_of_lt (Nat.lt_succ_self _)
  refine ⟨by rw [upd_ne ne, upd_same], Nat.zero_le _, ne, e2, fun _ => none, (Heap.Ns1.of_empty e3).at fun o q => Heap.get?_push_of_some _ q, fun _ => True.intro, fun y hy => absurd rfl hy⟩

/-- e.f where nothing but the object is asked: through attributeBase (super) and the last hold -/
theorem attr_of {prog : Program} {w : World} {env : Env} {e : Expr} {f : Str} {pos : Pos} {s : Shared} {Q : Value → Shared → Prop} (hb : attributeBase e f env (eval e env) = eval e env)
    (h : wpAny (model prog w) A (eval e env) (fun o s₁ => wpAny (model prog w) A (getAttr o f true) Q E s₁) E s) : wpAny (model prog w) A (eval (.Attribute e f pos) env) Q E s :=
  Attribute_any_ h (by rw [arm_eval_Attribute, hb])
end

/-! ### readings and rules -/
/-- e.f, an attribute of the instance -/
def tFld (K : PySem.W.Frag) (ta : TE) (f : Str) : TE := fun σ H Q => ta σ H fun x H1 => ∃ a C dx fs v, x = .ref a ∧ H1 a = some (.ins C dx fs) ∧ Cls K C ∧ NoAttr K C f ∧ fs.lookup f = some v ∧ Q v H1
/-- e.f, a constant of the class -/
def tCon (K : PySem.W.Frag) (ta : TE) (f : Str) : TE := fun σ H Q => ta σ H fun x H1 => ∃ a C dx fs v u, x = .ref a ∧ H1 a = some (.ins C dx fs) ∧ Cls K C ∧ Con K C f v u ∧ fs.lookup f = none ∧ Q v H1
/-- e.f = value -/
def sFld (K : PySem.W.Frag) (ta tv : TE) (f : Str) : TS := fun D σ H => tv σ H fun y H1 => ta σ H1 fun x H2 => ∃ a C dx fs, x = .ref a ∧ H2 a = some (.ins C dx fs) ∧ Cls K C ∧ NoAttr K C f ∧ fs.length < 1000 ∧
  D.nx σ (upd H2 a (.ins C dx (putF f y fs)))
/-- an augmented operator on two values -/
def InOp (X : Cx) (op : Operator) (rd : V → V → Hp → VK → Prop) : Prop :=
  ∀ (pins : List (Addr × Obj)) (s : Shared) (σ : St) (H : Hp) (x y : V) (u v : Value) (Q : VK), Inv X pins σ H s → RelV x u → RelV y v → rd x y H Q → wpAny (model X.prog X.w) X.A (inplaceOp op u v) (EP X pins σ Q) X.xe s
/-- e.f op= value -/
def sFldAug (K : PySem.W.Frag) (ta tv : TE) (rd : V → V → Hp → VK → Prop) (f : Str) : TS := fun D σ H => ta σ H fun x H1 => ∃ a C dx fs v, x = .ref a ∧ H1 a = some (.ins C dx fs) ∧ Cls K C ∧ NoAttr K C f ∧ fs.lookup f = some v ∧
  tv σ H1 fun y H2 => rd v y H2 fun z H3 => ∃ dx' fs', H3 a = some (.ins C dx' fs') ∧ fs'.length < 1000 ∧ D.nx σ (upd H3 a (.ins C dx' (putF f z fs')))

section
variable {X : Cx} {o e value : Expr} {f : Str} {pos pos' tpos : Pos} {ta tv : TE}
theorem pe_fld (he : PE X e ta) (hb : attributeBase e f X.env (eval e X.env) = eval e X.env) : PE X (.Attribute e f pos) (tFld X.K ta f) := by
  intro pins s σ H Q I h
  refine attr_of hb (thn (he pins s σ H _ I h) fun u s1 ⟨x, H1, I1, rx, a, C, dx, fs, v, ex, ea, c, n, l, q⟩ => ?_)
  subst ex
  obtain rfl : u = Value.ref a := rx
  exact getattr_ok I1 ea c n l fun u' s2 I2 ru => ⟨v, H1, I2, ru, q⟩
theorem pe_con (he : PE X e ta) (hb : attributeBase e f X.env (eval e X.env) = eval e X.env) : PE X (.Attribute e f pos) (tCon X.K ta f) := by
  intro pins s σ H Q I h
  refine attr_of hb (thn (he pins s σ H _ I h) fun u s1 ⟨x, H1, I1, rx, a, C, dx, fs, v, u0, ex, ea, c, k, l, q⟩ => ?_)
  subst ex
  obtain rfl : u = Value.ref a := rx
  exact getcon_ok I1 ea c k l fun s2 I2 => ⟨v, H1, I2, k.rel, q⟩
theorem ps_fld (ha : PE X o ta) (hv : PE X value tv) (hs : swapsWith value (some (.Attribute o f pos')) pos.line X.env = pure false) : PS X (.Assign [.Attribute o f pos'] value pos) (sFld X.K ta tv f) := by
  intro pins s σ H D I h
  refine plainObj_wpAny_Assign_Attribute (thn (hv pins s σ H _ I h) fun u s1 ⟨y, H1, I1, ry, q⟩ => thn (ha pins s1 σ H1 _ I1 q) fun ov s2 ⟨x, H2, I2, rx, a, C, dx, fs, ex, ea, c, n, l, q2⟩ => ?_) hs
  subst ex
  obtain rfl : ov = Value.ref a := rx
  exact setattr_ok I2 ea c n l ry fun s3 I3 => ⟨σ, _, I3, q2⟩
theorem ps_fldaug {op : Operator} {rd : V → V → Hp → VK → Prop} (ha : PE X o ta) (hv : PE X value tv) (hop : InOp X op rd) : PS X (.AugAssign (.Attribute o f tpos) op value pos) (sFldAug X.K ta tv rd f) := by
  intro pins s σ H D I h
  refine wpAny_AugAssign_AttributeAny (thn (ha pins s σ H _ I h) fun ov s1 ⟨x, H1, I1, rx, a, C, dx, fs, v, ex, ea, c, n, l, q⟩ => ?_)
  subst ex
  obtain rfl : ov = Value.ref a := rx
  refine getattr_ok I1 ea c n l fun u s2 I2 ru => thn (hv pins s2 σ H1 _ I2 q) fun w3 s3 ⟨y, H2, I3, ry, q3⟩ => thn (hop pins s3 σ H2 v y u w3 _ I3 ru ry q3) fun w4 s4 ⟨z, H3, I4, rz, dx', fs', ea', l', q4⟩ => ?_
  exact setattr_ok I4 ea' c n l' rz fun s5 I5 => ⟨σ, _, I5, q4⟩
def rAdd : V → V → Hp → VK → Prop := fun x y H Q => ∃ i j, x = .int i ∧ y = .int j ∧ Q (.int (i + j)) H
def rSub : V → V → Hp → VK → Prop := fun x y H Q => ∃ i j, x = .int i ∧ y = .int j ∧ Q (.int (i - j)) H
theorem in_add : InOp X .Add rAdd := by
  rintro pins s σ H x y u v Q I rx ry ⟨i, j, rfl, rfl, q⟩
  obtain ⟨t, rfl⟩ := (show ∃ t, u = Value.int i t from rx)
  obtain ⟨t', rfl⟩ := (show ∃ t', v = Value.int j t' from ry)
  exact PyProof.Rows.iadd_int ⟨.int (i + j), H, I.tok _, ⟨_, rfl⟩, q⟩
theorem in_sub : InOp X .Sub rSub := by
  rintro pins s σ H x y u v Q I rx ry ⟨i, j, rfl, rfl, q⟩
  obtain ⟨t, rfl⟩ := (show ∃ t, u = Value.int i t from rx)
  obtain ⟨t', rfl⟩ := (show ∃ t', v = Value.int j t' from ry)
  exact PyProof.Rows.isub_int ⟨.int (i - j), H, I.tok _, ⟨_, rfl⟩, q⟩

/-- what is between an instance and its method: the tree of a method call -/
theorem methcall_of {pl : Sem Bool} {m : Str} {apos : Pos} {args : List Expr} {pins : List (Addr × Obj)} {s : Shared} {σ : St} {H : Hp} {Q : Value → Shared → Prop} {te : TE} (he : PE X e te) (I : Inv X pins σ H s)
    (h : te σ H fun x H1 => ∃ a C dx fs g, x = .ref a ∧ H1 a = some (.ins C dx fs) ∧ Cls X.K C ∧ Meth X.K C m g ∧ fs.lookup m = none ∧
      ∀ s1, Inv X pins σ H1 s1 → wpAny (model X.prog X.w) X.A (callWith pos (.ref g) [.ref a] (backTo pos (starEach args X.env)) (backToKw pos (keywordEach [] X.env))) Q X.xe s1)
    (ht : eval (.Call (.Attribute e m apos) args [] pos) X.env = (do
      let ov ← eval e X.env
      standAt apos.atName
      let (f, first) ← holding [ov] (getMethod ov m pl)
      callWith pos f first (backTo pos (starEach args X.env)) (backToKw pos (keywordEach [] X.env)))) :
    wpAny (model X.prog X.w) X.A (eval (.Call (.Attribute e m apos) args [] pos) X.env) Q X.xe s := by
  refine PySem.W.methodCall_KW (pl := pl) (thn (he pins s σ H _ I h) fun u s1 ⟨x, H1, I1, rx, a, C, dx, fs, g, ex, ea, c, k, l, q⟩ => ?_) ht
  subst ex
  obtain rfl : u = Value.ref a := rx
  exact getmeth_ok I1 ea c k l (q s1 I1)
end

/-! ### isinstance -/
section
variable {X : Cx} {pins : List (Addr × Obj)} {σ : St} {H : Hp} {s : Shared} {A : Around} {E : Value → Shared → Prop} {Q : Value → Shared → Prop} {c : Value} {b : Bool}
/-- the type of a value, as the fragment's deciders take it; for an instance its class -/
inductive TyOf (K : PySem.W.Frag) (H : Hp) : V → Value → Prop where
  | non : TyOf K H .non (.type "NoneType")
  | bl (x : Bool) : TyOf K H (.bl x) (.type "bool")
  | int (i : Int) : TyOf K H (.int i) (.type "int")
  | str (x : Str) : TyOf K H (.str x) (.type "str")
  | flt (x : UInt64) : TyOf K H (.flt x) (.type "float")
  | lst {a : Addr} {xs : List V} (e : H a = some (.lst xs)) : TyOf K H (.ref a) (.type "list")
  | frz {a : Addr} {o : Obj} {xs : List V} (e : H a = some (.frz o (.lst xs))) : TyOf K H (.ref a) (.type "list")
  | tup {a : Addr} {xs : List V} (e : H a = some (.tup xs)) : TyOf K H (.ref a) (.type "tuple")
  | dK {a : Addr} {kvs : List (Key × V)} (e : H a = some (.dK kvs)) : TyOf K H (.ref a) (.type "dict")
  | dT {a : Addr} {kvs : List (List Key × V)} (e : H a = some (.dT kvs)) : TyOf K H (.ref a) (.type "dict")
  | ins {a C dx : Addr} {fs : List (Str × V)} (e : H a = some (.ins C dx fs)) (cl : Cls K C) (ha : PySem.W.findIn K (.ref C) "__class__" = some (some (.builtin "object.__class__")))
      (hn : PySem.W.specialIn K (.builtin "object.__class__") "__get__" = some (some (.builtin "getset_descriptor.__get__"))) (htk : PySem.W.takesIn K (.builtin "object.__class__") = some true)
      (hm : PySem.W.mroIn K C (.type "object") = some true) : TyOf K H (.ref a) (.ref C)
/-- isinstance(x, c) for one class c, a built-in or an own one: kitOne's answer -/
theorem isinst_ok {x : V} {u t : Value} (I : Inv X pins σ H s) (rx : RelV x u) (ty : TyOf X.K H x t) (e : PySem.W.kitOne X.K t c = some b) (h : ∀ tk, Q (.bool b) { s with toks := tk }) :
    wpAny (model X.prog X.w) A (call (.builtin "isinstance") [u, c]) Q E s := by
  cases ty with
  | non => cases (show u = Value.none from rx); exact PySem.W.kia_one PySem.W.kitx_none I.kIn True.intro e (fun z => nomatch z) h
  | bl y => cases (show u = Value.bool y from rx); exact PySem.W.kia_one PySem.W.kitx_bool I.kIn True.intro e (fun z => nomatch z) h
  | int i => obtain ⟨t, q⟩ := (show ∃ t, u = Value.int i t from rx); cases q; exact PySem.W.kia_one PySem.W.kitx_int I.kIn True.intro e (fun z => nomatch z) h
  | str y => obtain ⟨t, q⟩ := (show ∃ t, u = Value.str y t from rx); cases q; exact PySem.W.kia_one PySem.W.kitx_str I.kIn True.intro e (fun z => nomatch z) h
  | flt y => obtain ⟨t, q⟩ := (show ∃ t, u = Value.float y t from rx); cases q; exact PySem.W.kia_one PySem.W.kitx_float I.kIn True.intro e (fun z => nomatch z) h
  | @lst a xs ea =>
    cases (show u = Value.ref a from rx)
    obtain ⟨_, _, n, _, h1⟩ := (show ObjOk X.prog X.w H s.heap a (.lst xs) from I.hok a _ ea)
    exact PySem.W.kia_one PySem.W.kitx_list I.kIn ⟨_, h1, rfl⟩ e (fun z => nomatch z) h
  | @frz a ob xs ea =>
    cases (show u = Value.ref a from rx)
    obtain ⟨_, _, _, n, _, h1⟩ := (show ObjOk X.prog X.w H s.heap a (.frz ob (.lst xs)) from I.hok a _ ea)
    exact PySem.W.kia_one PySem.W.kitx_list I.kIn ⟨_, h1, rfl⟩ e (fun z => nomatch z) h
  | @tup a xs ea =>
    cases (show u = Value.ref a from rx)
    obtain ⟨_, _, _, p⟩ := (show ObjOk X.prog X.w H s.heap a (.tup xs) from I.hok a _ ea)
    obtain ⟨o, h1, h2, _⟩ := p
    exact PySem.W.kia_one PySem.W.kitx_tuple I.kIn ⟨o, h1, h2⟩ e (fun z => nomatch z) h
  | @dK a kvs ea =>
    cases (show u = Value.ref a from rx)
    obtain ⟨_, _, vs, _, p⟩ := (show ObjOk X.prog X.w H s.heap a (.dK kvs) from I.hok a _ ea)
    obtain ⟨o, es, ep, h1, h2, _⟩ := p
    exact PySem.W.kia_one PySem.W.kitx_dict I.kIn ⟨o, h1, h2.1⟩ e (fun z => nomatch z) h
  | @dT a kvs ea =>
    cases (show u = Value.ref a from rx)
    obtain ⟨_, _, xs, _, o, es, ep, h1, h2, _⟩ := (show ObjOk X.prog X.w H s.heap a (.dT kvs) from I.hok a _ ea)
    exact PySem.W.kia_one PySem.W.kitx_dict I.kIn ⟨o, h1, h2.1⟩ e (fun z => nomatch z) h
  | @ins a C dx fs ea cl ha hn htk hm =>
    cases (show u = Value.ref a from rx)
    obtain ⟨mA, O, _⟩ := ins_get I.hok ea
    obtain ⟨od, J, _⟩ := O.look
    exact PySem.W.kia_one (PySem.W.kitx_own (cl.get _) cl.hd ha hn htk hm) I.kIn J e (fun z => nomatch z) h
end
end L2

namespace L2
open PySem PySem.Spec PyProof.Rows

/-! ### room -/
structure Room (k : Nat) (A : Around) : Prop where
  hd : A.handled = none
  dp : A.depth + 3 * k + 5 < recursionLimit
  un : A.units + 16 * k + 200 < cLine
theorem Room.mono {j k : Nat} {A : Around} (r : Room k A) (h : j ≤ k) : Room j A := ⟨r.hd, by have := r.dp; omega, by have := r.un; omega⟩
theorem Room.deeper {k : Nat} {A : Around} (r : Room (k + 1) A) (env : Env) : Room k (A.deeper env) :=
  ⟨r.hd, by have := r.dp; show A.depth + 1 + 3 * k + 5 < _; omega, by have := r.un; show A.units + 3 + 16 * k + 200 < _; omega⟩
theorem Room.in1 {k : Nat} {A : Around} (r : Room (k + 1) A) : Room k A.in1 :=
  ⟨r.hd, by have := r.dp; show A.depth + 3 * k + 5 < _; omega, by have := r.un; show A.units + 1 + 16 * k + 200 < _; omega⟩
theorem make_depth {A : Around} {C : Addr} {us : List Value} {kw : List (Str × Value)} : (A.under (.builtin "type.__call__" ⟨.ref C :: us, kw⟩)).depth = A.depth + 1 := by
  first | rfl | simp [Around.under, Code.weight, Code.isCreation, Code.isGuard, Code.isCaller, Code.frames, Code.isFrame, guardIds]
theorem make_units {A : Around} {C : Addr} {us : List Value} {kw : List (Str × Value)} : (A.under (.builtin "type.__call__" ⟨.ref C :: us, kw⟩)).units = A.units + 1 := by
  first | rfl | simp [Around.under, Code.cUnits, Code.frames, Code.isFrame]
theorem Room.make {k : Nat} {A : Around} (r : Room (k + 1) A) (C : Addr) (us : List Value) (kw : List (Str × Value)) : Room k (A.under (.builtin "type.__call__" ⟨.ref C :: us, kw⟩)) :=
  ⟨r.hd, by have := r.dp; rw [make_depth]; omega, by have := r.un; rw [make_units]; omega⟩
theorem Room.depth {k : Nat} {A : Around} (r : Room k A) : A.depth < recursionLimit := by have := r.dp; omega
theorem Room.units {k : Nat} {A : Around} (r : Room k A) : A.units + 64 < cLine := by have := r.un; omega
theorem Room.units0 {k : Nat} {A : Around} (r : Room k A) : A.units < cLine := by have := r.un; omega

/-! ### argument lists and displays -/
def tNil : TA := fun _ H Q => Q [] H
def tCons (ta : TE) (tr : TA) : TA := fun σ H Q => ta σ H fun x H1 => tr σ H1 fun xs H2 => Q (x :: xs) H2
section
variable {X : Cx} {e : Expr} {es : List Expr} {te : TE} {t : TA} {pos : Pos}
theorem pa_nil : PA X [] tNil := fun _ _ _ _ H Q I h => Calls.spliced_nil ⟨[], H, I, .nil, h⟩
theorem pa_cons (ha : PE X e te) (hr : PA X es t) (hs : starEach (e :: es) X.env = (false, eval e X.env) :: starEach es X.env := by rfl) : PA X (e :: es) (tCons te t) := by
  intro pos pins s σ H Q I h
  rw [hs]
  show wpAny _ _ (spliced ((false, eval e X.env) :: backTo pos (starEach es X.env))) _ _ s
  refine Calls.spliced_cons (thn (ha pins s σ H _ I h) fun u s1 ⟨x, H1, I1, r1, q1⟩ => ?_)
  exact thn (hr pos pins s1 σ H1 _ I1 q1) fun us s2 ⟨xs, H2, I2, r2, q2⟩ => ⟨x :: xs, H2, I2, .cons r1 r2, q2⟩

/-- a tuple, a list of written items -/
def tTup (t : TA) : TE := fun σ H Q => t σ H fun xs H1 => xs.length ≤ sizeLine ∧ ∀ p, H1 p = none → Q (.ref p) (upd H1 p (.tup xs))
def tLst (t : TA) : TE := fun σ H Q => t σ H fun xs H1 => xs.length ≤ sizeLine ∧ ∀ p, H1 p = none → Q (.ref p) (upd H1 p (.lst xs))
theorem pe_tup {x1} (h : PA X es t) : PE X (.Tuple es x1 pos) (tTup t) := by
  intro pins s σ H Q I hq
  refine wpAny_Tuple_spliced (thn (h pos pins s σ H _ I hq) fun us s1 ⟨xs, H1, I1, r, z, q⟩ => ⟨by rw [← r.length]; exact z, ?_⟩)
  have hf : H1 s1.heap.objs.size = none := I1.hok.fresh (Nat.le_refl _)
  refine ⟨.ref s1.heap.objs.size, upd H1 s1.heap.objs.size (.tup xs), I1.laid (t' := s1.toks) (fun b u e => Heap.get?_push_of_some _ e) (Nat.le_refl _) ?_, rfl, q _ hf⟩
  exact ⟨z, us, r, ⟨_, Heap.get?_push_size _ rfl, rfl, _, rfl⟩⟩
theorem pe_lst (h : PA X es t) : PE X (.List es pos) (tLst t) := by
  intro pins s σ H Q I hq
  refine wpAny_List_spliced (thn (h pos pins s σ H _ I hq) fun us s1 ⟨xs, H1, I1, r, z, q⟩ => ⟨by rw [← r.length]; exact z, ?_⟩)
  have hf : H1 s1.heap.objs.size = none := I1.hok.fresh (Nat.le_refl _)
  refine ⟨.ref s1.heap.objs.size, upd H1 s1.heap.objs.size (.lst xs), I1.laid (t' := s1.toks) (fun b u e => Heap.get?_push_of_some _ e) (Nat.le_refl _) ?_, rfl, q _ hf⟩
  exact ⟨z, us, 0, r, Heap.get?_push_size _ rfl⟩
end

/-! ### what a def promises -/
/-- a def's promise: the bound arguments in the parameters' order, the heap, the wanted end, the wanted exception -/
abbrev Sp := List V → Hp → VK → XK → Prop
/-- how an exception lies behind a call (file 08 gives it): the callers' frames, abstract heap and state ahead of the call, the wish, the exception, the state -/
abbrev CXT := List Env → Hp → Shared → XK → Value → Shared → Prop

/-- the state at a call -/
structure Env0 (P : Program) (w : World) (K : PySem.W.Frag) (mg : Str → Option Value) (base : Heap) (A : Around) (outer : List Env) (s : Shared) (H : Hp) : Prop where
  frames : A.frames = some outer
  mod : Mod K mg base
  bs : ∀ b o, base.get? b = some o → s.heap.get? b = some o ∧ H b = none
  bsz : base.objs.size ≤ s.heap.objs.size
  funs : s.heap.FunFrames base outer
  frf : ∀ b ∈ frs outer, H b = none
  hok : HOk P w H s.heap
  bare : AllBare s.gens
/-- a call's end -/
def CE (outer : List Env) (P : Program) (w : World) (H : Hp) (s : Shared) (Q : VK) (u : Value) (s' : Shared) : Prop :=
  ∃ v H', s'.os = s.os ∧ AllBare s'.gens ∧ Un (frs outer) [] H H' s.heap s'.heap ∧ HOk P w H' s'.heap ∧ RelV v u ∧ Q v H'
def CR (CX : CXT) (outer : List Env) (P : Program) (w : World) (H : Hp) (s : Shared) (Q : VK) (E : XK) (r : Result) (s' : Shared) : Prop :=
  match r with
  | .ok (.ret u) => CE outer P w H s Q u s'
  | .ok _ => False
  | .error e => CX outer H s E e s'
structure FnOk (P : Program) (w : World) (K : PySem.W.Frag) (mg : Str → Option Value) (base : Heap) (CX : CXT) (k : Nat) (f : Addr) (fd : FuncData) (ps : List Str) (sp : Sp) : Prop where
  len : ∀ vs H Q E, sp vs H Q E → vs.length = ps.length
  run : ∀ (A : Around) (outer : List Env) (s : Shared) (H : Hp) (args : Args) (us : List Value) (vs : List V) (Q : VK) (E : XK), Room k A → Env0 P w K mg base A outer s H → BindsTo s fd args (ps.zip us) → Vals vs us → sp vs H Q E →
    codeAny (model P w) A (.call (.ref f) args) (CR CX outer P w H s Q E) s
theorem FnOk.mono {P : Program} {w : World} {K : PySem.W.Frag} {mg : Str → Option Value} {base : Heap} {CX : CXT} {j k : Nat} {f : Addr} {fd : FuncData} {ps : List Str} {sp : Sp} (F : FnOk P w K mg base CX j f fd ps sp) (h : j ≤ k) :
    FnOk P w K mg base CX k f fd ps sp := ⟨F.len, fun A outer s H args us vs Q E hr => F.run A outer s H args us vs Q E (hr.mono h)⟩
/-- a weaker promise -/
theorem FnOk.imp {P : Program} {w : World} {K : PySem.W.Frag} {mg : Str → Option Value} {base : Heap} {CX : CXT} {k : Nat} {f : Addr} {fd : FuncData} {ps : List Str} {sp sp' : Sp} (F : FnOk P w K mg base CX k f fd ps sp)
    (h : ∀ vs H Q E, sp' vs H Q E → sp vs H Q E) : FnOk P w K mg base CX k f fd ps sp' :=
  ⟨fun vs H Q E q => F.len vs H Q E (h _ _ _ _ q), fun A outer s H args us vs Q E hr he hb hv hs => F.run A outer s H args us vs Q E hr he hb hv (h _ _ _ _ hs)⟩

theorem Env0.make {P : Program} {w : World} {K : PySem.W.Frag} {mg : Str → Option Value} {base : Heap} {A : Around} {outer : List Env} {s : Shared} {H : Hp} (e : Env0 P w K mg base A outer s H) (C : Addr) (us : List Value) (kw : List (Str × Value)) :
    Env0 P w K mg base (A.under (.builtin "type.__call__" ⟨.ref C :: us, kw⟩)) outer s H := ⟨by first | exact e.frames | (simpa [Around.under, Code.envs, Code.isFrame, pushEnvs] using e.frames), e.mod, e.bs, e.bsz, e.funs, e.frf, e.hok, e.bare⟩
theorem Env0.in1 {P : Program} {w : World} {K : PySem.W.Frag} {mg : Str → Option Value} {base : Heap} {A : Around} {outer : List Env} {s : Shared} {H : Hp} (e : Env0 P w K mg base A outer s H) :
    Env0 P w K mg base A.in1 outer s H := ⟨e.frames, e.mod, e.bs, e.bsz, e.funs, e.frf, e.hok, e.bare⟩

section
variable {X : Cx} {pins : List (Addr × Obj)} {σ : St} {H : Hp} {s s' : Shared}
/-- from a body: what a callee wants -/
theorem Inv.env0 (I : Inv X pins σ H s) : Env0 X.prog X.w X.K X.mg X.base X.A X.stack s H :=
  ⟨I.ok.frames, I.ok.mod, I.bs, Nat.le_trans I.ok.bsz I.sz, I.stack, I.stkFree, I.hok, I.bare⟩
/-- behind a call -/
theorem Inv.after {Q : VK} {u : Value} (I : Inv X pins σ H s) (h : CE X.stack X.prog X.w H s Q u s') : EP X pins σ Q u s' := by
  obtain ⟨v, H', os, bare, un, hok, r, q⟩ := h
  obtain ⟨hh, g, d, t, os'⟩ := s'
  obtain rfl : os' = s.os := os
  exact ⟨v, H', I.call (h' := hh) (g' := g) (d' := d) (t' := t) (ch := []) un hok bare (fun b z => absurd z (by simp)), r, q⟩
end

/-! ### calls -/
/-- f(..): the written arguments, then the defaults dvs; E: what is wanted of an exception -/
def tCall (sp : Sp) (dvs : List V) (E : XK) (t : TA) : TE := fun σ H Q => t σ H fun vs H1 => sp (vs ++ dvs) H1 Q E
/-- o.m(..) of an instance of the class at C -/
def tMeth (C : Addr) (m : Str) (sp : Sp) (dvs : List V) (E : XK) (ta : TE) (t : TA) : TE := fun σ H Q => ta σ H fun x H1 => ∃ a dx fs, x = .ref a ∧ H1 a = some (.ins C dx fs) ∧ fs.lookup m = none ∧
  t σ H1 fun vs H2 => sp (x :: (vs ++ dvs)) H2 Q E
/-- C(..): a new instance and its dict, then __init__ -/
def tMake (C : Addr) (sp : Sp) (dvs : List V) (E : XK) (t : TA) : TE := fun σ H Q => t σ H fun vs H1 => ∀ x dx, H1 x = none → H1 dx = none → dx ≠ x →
  sp (.ref x :: (vs ++ dvs)) (upd (upd H1 dx (.own x)) x (.ins C dx [])) (fun v H2 => v = .non ∧ Q (.ref x) H2) E

/-- how the parameters are bound: us the positional arguments, kw the keywords' values by name, ds the defaults that fill up -/
def Binds (K : PySem.W.Frag) (fd : FuncData) (ps : List Str) (ds : List Value) : Prop :=
  ∀ (s : Shared) (us : List Value), K.In s.heap → (us ++ ds).length = ps.length → BindsTo s fd ⟨us, []⟩ (ps.zip (us ++ ds))
/-- every parameter is given -/
theorem Binds.all {K : PySem.W.Frag} {fd : FuncData} {ps : List Str} (h : ∀ us : List Value, us.length = ps.length → bindArgs fd ⟨us, []⟩ = pure (ps.zip us)) : Binds K fd ps [] := fun s us _ hl => by
  rw [List.append_nil] at hl ⊢
  exact .of_eq (h us hl)

/-- an exception of a callee reaches what this body wants of exceptions -/
def Passes (CX : CXT) (X : Cx) (E : XK) : Prop := ∀ (pins : List (Addr × Obj)) (σ : St) (H : Hp) (s : Shared) (e : Value) (s' : Shared), Inv X pins σ H s → CX X.stack H s E e s' → X.xe e s'

section
variable {X : Cx} {CX : CXT} {k : Nat} {f C : Addr} {fd : FuncData} {ps : List Str} {sp : Sp} {dvs : List V} {ds : List Value} {E : XK} {x m : Str} {p pos apos : Pos} {e o : Expr} {es : List Expr} {ta : TE} {t : TA}

/-- the callee runs -/
theorem run_fn {pins : List (Addr × Obj)} {σ : St} {H : Hp} {s : Shared} {Q : VK} {us : List Value} {vs : List V} (F : FnOk X.prog X.w X.K X.mg X.base CX k f fd ps sp) (hr : Room k X.A) (hb : Binds X.K fd ps ds) (hd : Vals dvs ds) (hx : Passes CX X E)
    (I : Inv X pins σ H s) (r : Vals vs us) (h : sp (vs ++ dvs) H Q E) : wpAny (model X.prog X.w) X.A (call (.ref f) us) (EP X pins σ Q) X.xe s := by
  have r2 : Vals (vs ++ dvs) (us ++ ds) := r.append hd
  have hl : (us ++ ds).length = ps.length := by rw [← r2.length]; exact F.len _ _ _ _ h
  refine wpAny_call (codeAny_mono (F.run X.A X.stack s H ⟨us, []⟩ (us ++ ds) (vs ++ dvs) Q E hr I.env0 (hb s us I.kIn hl) r2 h) fun r s' hq => ?_)
  cases r with
  | error e => exact hx pins σ H s e s' I hq
  | ok fl =>
    cases fl with
    | ret u => exact I.after hq
    | next => exact False.elim hq
    | brk => exact False.elim hq
    | cont => exact False.elim hq

theorem pe_call (F : FnOk X.prog X.w X.K X.mg X.base CX k f fd ps sp) (hr : Room k X.A) (hg : Gl X x) (hm : X.mg x = some (.ref f)) (hk : PySem.W.keepIn X.K (.ref f) = true) (hb : Binds X.K fd ps ds) (hd : Vals dvs ds) (hx : Passes CX X E)
    (ha : PA X (e :: es) t) (hdb : (x == ("__debug__" : Str)) = false := by decide) (he : starEach (e :: es) X.env = (false, eval e X.env) :: starEach es X.env := by rfl) (hpl : (backTo pos (starEach es X.env)).any (·.1) = false := by rfl) :
    PE X (.Call (.Name x p) (e :: es) [] pos) (tCall sp dvs E t) := by
  intro pins s σ H Q I h
  refine wpAny_Call_Name_kw (ld_glob I hg hm ?_ hdb)
  refine PySem.W.callWith_K (h₀ := X.base) I.ok.mod.kin hk (thn (ha pos pins s σ H _ I h) fun us s1 ⟨vs, H1, I1, r, q⟩ => ⟨I1.kIn, ?_⟩) he hpl
  exact run_fn F hr hb hd hx I1 r q
theorem pe_call0 (F : FnOk X.prog X.w X.K X.mg X.base CX k f fd ps sp) (hr : Room k X.A) (hg : Gl X x) (hm : X.mg x = some (.ref f)) (hk : PySem.W.keepIn X.K (.ref f) = true) (hb : Binds X.K fd ps ds) (hd : Vals dvs ds) (hx : Passes CX X E)
    (hdb : (x == ("__debug__" : Str)) = false := by decide) : PE X (.Call (.Name x p) [] [] pos) (tCall sp dvs E tNil) := by
  intro pins s σ H Q I h
  refine wpAny_Call_Name_kw (ld_glob I hg hm ?_ hdb)
  exact PySem.W.callWith_K0 I.kIn hk (run_fn (us := []) F hr hb hd hx I .nil h)

/-- o.m(e, ..) -/
theorem pe_meth {pl : Sem Bool} (he : PE X o ta) (c : Cls X.K C) (hm : Meth X.K C m f) (F : FnOk X.prog X.w X.K X.mg X.base CX k f fd ps sp) (hr : Room k X.A) (hb : Binds X.K fd ps ds) (hd : Vals dvs ds) (hx : Passes CX X E) (ha : PA X (e :: es) t)
    (hst : starEach (e :: es) X.env = (false, eval e X.env) :: starEach es X.env := by rfl) (hpl : (backTo pos (starEach es X.env)).any (·.1) = false := by rfl)
    (ht : eval (.Call (.Attribute o m apos) (e :: es) [] pos) X.env = (do
      let ov ← eval o X.env
      standAt apos.atName
      let (f, first) ← holding [ov] (getMethod ov m pl)
      callWith pos f first (backTo pos (starEach (e :: es) X.env)) (backToKw pos (keywordEach [] X.env))) := by rfl) :
    PE X (.Call (.Attribute o m apos) (e :: es) [] pos) (tMeth C m sp dvs E ta t) := by
  intro pins s σ H Q I h
  refine PySem.W.methodCall_KW (pl := pl) (thn (he pins s σ H _ I h) fun u s1 ⟨x, H1, I1, rx, a, dx, fs, ex, ea, l, q⟩ => ?_) ht
  subst ex
  obtain rfl : u = Value.ref a := rx
  refine getmeth_ok I1 ea c hm l ?_
  refine PySem.W.callWith_K (first := [.ref a]) (h₀ := X.base) I.ok.mod.kin hm.kp (thn (ha pos pins s1 σ H1 _ I1 q) fun us s2 ⟨vs, H2, I2, r, q2⟩ => ⟨I2.kIn, ?_⟩) hst hpl
  exact run_fn (us := .ref a :: us) (vs := .ref a :: vs) F hr hb hd hx I2 (.cons rfl r) q2
/-- o.m() -/
theorem pe_meth0 {pl : Sem Bool} (he : PE X o ta) (c : Cls X.K C) (hm : Meth X.K C m f) (F : FnOk X.prog X.w X.K X.mg X.base CX k f fd ps sp) (hr : Room k X.A) (hb : Binds X.K fd ps ds) (hd : Vals dvs ds) (hx : Passes CX X E)
    (ht : eval (.Call (.Attribute o m apos) [] [] pos) X.env = (do
      let ov ← eval o X.env
      standAt apos.atName
      let (f, first) ← holding [ov] (getMethod ov m pl)
      callWith pos f first (backTo pos (starEach [] X.env)) (backToKw pos (keywordEach [] X.env))) := by rfl) :
    PE X (.Call (.Attribute o m apos) [] [] pos) (tMeth C m sp dvs E ta tNil) := by
  intro pins s σ H Q I h
  refine PySem.W.methodCall_KW (pl := pl) (thn (he pins s σ H _ I h) fun u s1 ⟨x, H1, I1, rx, a, dx, fs, ex, ea, l, q⟩ => ?_) ht
  subst ex
  obtain rfl : u = Value.ref a := rx
  refine getmeth_ok I1 ea c hm l ?_
  exact PySem.W.callWith_K0 (first := [.ref a]) I1.kIn hm.kp (run_fn (us := [.ref a]) (vs := [.ref a]) F hr hb hd hx I1 (.cons rfl .nil) q)

/-- what a class must have to be made -/
structure Mk (K : PySem.W.Frag) (C f : Addr) : Prop where
  makes : PySem.W.makesIn K C = true
  init : PySem.W.findIn K (.ref C) "__init__" = some (some (.ref f))
  fn : PySem.W.isFn K (.ref f) = true
  kp : PySem.W.keepIn K (.ref C) = true

theorem run_make {pins : List (Addr × Obj)} {σ : St} {H : Hp} {s : Shared} {Q : VK} {us : List Value} {vs : List V} (M : Mk X.K C f) (F : FnOk X.prog X.w X.K X.mg X.base CX k f fd ps sp) (hr : Room (k + 1) X.A) (hb : Binds X.K fd ps ds) (hd : Vals dvs ds)
    (hx : Passes CX X E) (I : Inv X pins σ H s) (r : Vals vs us)
    (h : ∀ x dx, H x = none → H dx = none → dx ≠ x → sp (.ref x :: (vs ++ dvs)) (upd (upd H dx (.own x)) x (.ins C dx [])) (fun v H2 => v = .non ∧ Q (.ref x) H2) E) :
    wpAny (model X.prog X.w) X.A (call (.ref C) us) (EP X pins σ Q) X.xe s := by
  have hq := h (s.heap.objs.size + 1) s.heap.objs.size (I.hok.fresh (Nat.le_succ _)) (I.hok.fresh (Nat.le_refl _)) (Nat.ne_of_lt (Nat.lt_succ_self _))
  have I2 := Inv.made (C := C) I
  have r2 : Vals (V.ref (s.heap.objs.size + 1) :: (vs ++ dvs)) (Value.ref (s.heap.objs.size + 1) :: (us ++ ds)) := .cons rfl (r.append hd)
  have hl : (Value.ref (s.heap.objs.size + 1) :: us ++ ds).length = ps.length := by
    have e := r2.length
    rw [F.len _ _ _ _ hq] at e
    exact e.symm
  refine wpAny_call (make_map (f := f) I.kIn M.makes M.init (beq_iff_eq.mp M.fn) (codeAny_mono (F.run _ X.stack _ _ ⟨Value.ref (s.heap.objs.size + 1) :: us, []⟩ (Value.ref (s.heap.objs.size + 1) :: (us ++ ds)) _ _ E (hr.make C us [])
    (I2.env0.make C us []) (hb _ (Value.ref (s.heap.objs.size + 1) :: us) I2.kIn hl) r2 hq) fun r s' hq' => ?_))
  cases r with
  | error e => exact hx pins σ _ _ e s' I2 hq'
  | ok fl =>
    cases fl with
    | ret u =>
      obtain ⟨v, H', I3, rv, ev, q3⟩ := I2.after hq'
      subst ev
      exact ⟨rv, ⟨V.ref (s.heap.objs.size + 1), H', I3, rfl, q3⟩⟩
    | next => exact False.elim hq'
    | brk => exact False.elim hq'
    | cont => exact False.elim hq'
theorem pe_make (M : Mk X.K C f) (F : FnOk X.prog X.w X.K X.mg X.base CX k f fd ps sp) (hr : Room (k + 1) X.A) (hg : Gl X x) (hm : X.mg x = some (.ref C)) (hb : Binds X.K fd ps ds) (hd : Vals dvs ds) (hx : Passes CX X E)
    (ha : PA X (e :: es) t) (hdb : (x == ("__debug__" : Str)) = false := by decide) (he : starEach (e :: es) X.env = (false, eval e X.env) :: starEach es X.env := by rfl) (hpl : (backTo pos (starEach es X.env)).any (·.1) = false := by rfl) :
    PE X (.Call (.Name x p) (e :: es) [] pos) (tMake C sp dvs E t) := by
  intro pins s σ H Q I h
  refine wpAny_Call_Name_kw (ld_glob I hg hm ?_ hdb)
  refine PySem.W.callWith_K (h₀ := X.base) I.ok.mod.kin M.kp (thn (ha pos pins s σ H _ I h) fun us s1 ⟨vs, H1, I1, r, q⟩ => ⟨I1.kIn, ?_⟩) he hpl
  exact run_make M F hr hb hd hx I1 r q
theorem pe_make0 (M : Mk X.K C f) (F : FnOk X.prog X.w X.K X.mg X.base CX k f fd ps sp) (hr : Room (k + 1) X.A) (hg : Gl X x) (hm : X.mg x = some (.ref C)) (hb : Binds X.K fd ps ds) (hd : Vals dvs ds) (hx : Passes CX X E)
    (hdb : (x == ("__debug__" : Str)) = false := by decide) : PE X (.Call (.Name x p) [] [] pos) (tMake C sp dvs E tNil) := by
  intro pins s σ H Q I h
  refine wpAny_Call_Name_kw (ld_glob I hg hm ?_ hdb)
  exact PySem.W.callWith_K0 I.kIn M.kp (run_make (us := []) M F hr hb hd hx I .nil h)
end

/-! ### keywords -/
/-- the values of the keywords, from the left -/
def PK (X : Cx) (kws : List Keyword) (t : TA) : Prop :=
  ∀ (pos : Pos) (pins : List (Addr × Obj)) (s : Shared) (σ : St) (H : Hp) (Q : List V → Hp → Prop), Inv X pins σ H s → t σ H Q → wpAny (model X.prog X.w) X.A (evalAll ((backToKw pos (keywordEach kws X.env)).map (·.2))) (AP X pins σ Q) X.xe s
section
variable {X : Cx} {CX : CXT} {k : Nat} {f C : Addr} {fd : FuncData} {ps ks : List Str} {sp : Sp} {E : XK} {x m : Str} {p pos apos kpos : Pos} {e o : Expr} {es : List Expr} {kws : List Keyword} {te ta : TE} {t tk : TA} {nm : Option Str}
theorem pk_nil : PK X [] tNil := fun _ _ _ _ H Q I h => wpAny_evalAll_nil ⟨[], H, I, .nil, h⟩
theorem pk_cons (ha : PE X e te) (hr : PK X kws t) : PK X (⟨nm, e, kpos⟩ :: kws) (tCons te t) := by
  intro pos pins s σ H Q I h
  show wpAny _ _ (evalAll ((do let v ← eval e X.env; standAt pos; pure v) :: (backToKw pos (keywordEach kws X.env)).map (·.2))) _ _ s
  refine wpAny_evalAll_cons (wpAny_bind (thn (ha pins s σ H _ I h) fun u s1 ⟨x, H1, I1, r1, q1⟩ => wpAny_bind (wpAny_standAt (wpAny_pure ?_))))
  exact thn (hr pos pins s1 σ H1 _ I1 q1) fun us s2 ⟨xs, H2, I2, r2, q2⟩ => ⟨x :: xs, H2, I2, .cons r1 r2, q2⟩

/-- how a call with keywords binds: g puts the positional values us and the keywords' values ws (names ks) in the parameters' order, defaults among them -/
structure KBinds (K : PySem.W.Frag) (fd : FuncData) (ps ks : List Str) (g : List Value → List Value → List Value) (gV : List V → List V → List V) : Prop where
  to : ∀ (s : Shared) (us ws : List Value), K.In s.heap → (g us ws).length = ps.length → BindsTo s fd ⟨us, ks.zip ws⟩ (ps.zip (g us ws))
  rel : ∀ {vs : List V} {us : List Value} {zs : List V} {ws : List Value}, Vals vs us → Vals zs ws → Vals (gV vs zs) (g us ws)
def tCallK (sp : Sp) (gV : List V → List V → List V) (E : XK) (t tk : TA) : TE := fun σ H Q => t σ H fun vs H1 => tk σ H1 fun zs H2 => sp (gV vs zs) H2 Q E
variable {g : List Value → List Value → List Value} {gV : List V → List V → List V}
theorem run_fnk {pins : List (Addr × Obj)} {σ : St} {H : Hp} {s : Shared} {Q : VK} {us ws : List Value} {vs zs : List V} (F : FnOk X.prog X.w X.K X.mg X.base CX k f fd ps sp) (hr : Room k X.A) (hb : KBinds X.K fd ps ks g gV) (hx : Passes CX X E)
    (I : Inv X pins σ H s) (r : Vals vs us) (rz : Vals zs ws) (h : sp (gV vs zs) H Q E) : wpAny (model X.prog X.w) X.A (call (.ref f) us (ks.zip ws)) (EP X pins σ Q) X.xe s := by
  have r2 := hb.rel r rz
  have hl : (g us ws).length = ps.length := by rw [← r2.length]; exact F.len _ _ _ _ h
  refine wpAny_call (codeAny_mono (F.run X.A X.stack s H ⟨us, ks.zip ws⟩ (g us ws) (gV vs zs) Q E hr I.env0 (hb.to s us ws I.kIn hl) r2 h) fun r s' hq => ?_)
  cases r with
  | error e => exact hx pins σ H s e s' I hq
  | ok fl =>
    cases fl with
    | ret u => exact I.after hq
    | next => exact False.elim hq
    | brk => exact False.elim hq
    | cont => exact False.elim hq
/-- f(e, .., k = v, ..) -/
theorem pe_callK (F : FnOk X.prog X.w X.K X.mg X.base CX k f fd ps sp) (hr : Room k X.A) (hg : Gl X x) (hm : X.mg x = some (.ref f)) (hk : PySem.W.keepIn X.K (.ref f) = true) (hb : KBinds X.K fd ps ks g gV) (hx : Passes CX X E)
    (ha : PA X (e :: es) t) (hkw : PK X kws tk) (hall : (backToKw pos (keywordEach kws X.env)).all (·.1.isSome) = true := by rfl) (hks : (backToKw pos (keywordEach kws X.env)).filterMap (·.1) = ks := by rfl)
    (hdb : (x == ("__debug__" : Str)) = false := by decide) (he : starEach (e :: es) X.env = (false, eval e X.env) :: starEach es X.env := by rfl)
    (hpl : ((backTo pos (starEach (e :: es) X.env)).any (·.1) || (backToKw pos (keywordEach kws X.env)).any (·.1.isNone)) = false := by rfl) :
    PE X (.Call (.Name x p) (e :: es) kws pos) (tCallK sp gV E t tk) := by
  intro pins s σ H Q I h
  refine wpAny_Call_Name_kw (ld_glob I hg hm ?_ hdb)
  refine PySem.W.callWith_KW (h₀ := X.base) I.ok.mod.kin hk hall (thn (ha pos pins s σ H _ I h) fun us s1 ⟨vs, H1, I1, r, q⟩ => ?_) hpl he
  refine thn (hkw pos pins s1 σ H1 _ I1 q) fun ws s2 ⟨zs, H2, I2, rz, q2⟩ => ⟨I2.kIn, ?_⟩
  rw [hks]
  exact run_fnk F hr hb hx I2 r rz q2
end

/-! ### a def's body keeps its promise -/
/-- names: the parameters first -/
structure FnScope (N P : List Str) (sc : Scope) : Prop where
  kind : sc.kind = .function
  co : sc.isCoroutine = false
  gen : sc.isGenerator = false
  nd : N.Nodup
  pre : N.take P.length = P
  par : ∀ x ∈ P, sc.names.lookup x = some .local ∨ sc.names.lookup x = some .cell
  nofree : ∀ y ∈ sc.names, y.2 ≠ .free

theorem bindL_out {kindOf : Str → Option NameKind} {x : Str} : ∀ {binds : List (Str × Value)} {m : Str → Option Value}, (∀ v, (x, v) ∉ binds) → bindL kindOf binds m x = m x
  | [], _, _ => rfl
  | (n, v) :: r, m, h => by
    unfold bindL
    rw [bindL_out fun w hw => h w (List.mem_cons_of_mem _ hw)]
    split
    · have : x ≠ n := by rintro rfl; exact h v List.mem_cons_self
      simp [this]
    · rfl
theorem bindC_out {kindOf : Str → Option NameKind} {x : Str} : ∀ {binds : List (Str × Value)} {m : Str → Option Value}, (∀ v, (x, v) ∉ binds) → bindC kindOf binds m x = m x
  | [], _, _ => rfl
  | (n, v) :: r, m, h => by
    unfold bindC
    rw [bindC_out fun w hw => h w (List.mem_cons_of_mem _ hw)]
    split
    · rfl
    · have : x ≠ n := by rintro rfl; exact h v List.mem_cons_self
      simp [this]
theorem bindL_get {kindOf : Str → Option NameKind} {x : Str} {v : Value} : ∀ {P : List Str} {vs : List Value} {i : Nat} {m : Str → Option Value}, P.Nodup → P[i]? = some x → vs[i]? = some v → kindOf x = some .local →
    bindL kindOf (P.zip vs) m x = some v
  | [], _, _, _, _, h, _, _ => by simp at h
  | _ :: _, [], _, _, _, _, h, _ => by simp at h
  | p :: P, w :: vs, 0, m, nd, h1, h2, hk => by
    simp at h1 h2; subst h1; subst h2
    show bindL kindOf ((p, w) :: P.zip vs) m p = _
    unfold bindL
    rw [bindL_out fun v hv => (List.nodup_cons.mp nd).1 (List.of_mem_zip hv).1, if_pos hk]
    simp
  | p :: P, w :: vs, i + 1, m, nd, h1, h2, hk => by
    show bindL kindOf ((p, w) :: P.zip vs) m x = _
    unfold bindL
    exact bindL_get (i := i) (List.nodup_cons.mp nd).2 (by simpa using h1) (by simpa using h2) hk
theorem bindC_get {kindOf : Str → Option NameKind} {x : Str} {v : Value} : ∀ {P : List Str} {vs : List Value} {i : Nat} {m : Str → Option Value}, P.Nodup → P[i]? = some x → vs[i]? = some v → kindOf x ≠ some .local →
    bindC kindOf (P.zip vs) m x = some v
  | [], _, _, _, _, h, _, _ => by simp at h
  | _ :: _, [], _, _, _, _, h, _ => by simp at h
  | p :: P, w :: vs, 0, m, nd, h1, h2, hk => by
    simp at h1 h2; subst h1; subst h2
    show bindC kindOf ((p, w) :: P.zip vs) m p = _
    unfold bindC
    rw [bindC_out fun v hv => (List.nodup_cons.mp nd).1 (List.of_mem_zip hv).1, if_neg hk]
    simp
  | p :: P, w :: vs, i + 1, m, nd, h1, h2, hk => by
    show bindC kindOf ((p, w) :: P.zip vs) m x = _
    unfold bindC
    exact bindC_get (i := i) (List.nodup_cons.mp nd).2 (by simpa using h1) (by simpa using h2) hk

/-- the names' values at the entry -/
def start (N : List Str) (vs : List V) : St := vs.map some ++ List.replicate (N.length - vs.length) none

/-- the context of a def's body, at its entry; an exception leaves the frame, then lies as CX says -/
def cxOf (CX : CXT) (P : Program) (w : World) (K : PySem.W.Frag) (mg : Str → Option Value) (base : Heap) (N : List Str) (qual : Str) (scope : Scope) (f : Addr) (cd : Value) (A : Around) (outer : List Env) (s : Shared) (H : Hp) (E : XK) : Cx where
  prog := P
  w := w
  K := K
  mg := mg
  base := base
  A := A.deeper (envOfC qual scope s.heap.objs.size f cd)
  N := N
  s₀ := s
  H₀ := H
  env := envOfC qual scope s.heap.objs.size f cd
  outer := outer
  stack := envOfC qual scope s.heap.objs.size f cd :: outer
  ex := []
  calm := true
  fn := fun _ => true
  pn := []
  xe := fun e s' => wpAny (model P w) (A.deeper (envOfC qual scope s.heap.objs.size f cd)) (leaving (envOfC qual scope s.heap.objs.size f cd) e) (fun _ s'' => CX outer H s E e s'') (fun e' s'' => CX outer H s E e' s'') s'

theorem cell_has {sc : Scope} {n : Nat} {x : Str} (h : sc.names.lookup x = some .cell) : ∃ c, (cellsFrom n sc.names []).lookup x = some c := by
  have q := PySem.W.cellsFrom_some sc.names n [] (.inl h)
  exact Option.isSome_iff_exists.mp q

theorem inv_start {CX : CXT} {P : Program} {w : World} {K : PySem.W.Frag} {mg : Str → Option Value} {base : Heap} {N ps : List Str} {qual : Str} {scope : Scope} {f : Addr} {cd : Value} {A : Around} {outer : List Env} {s s1 : Shared} {H : Hp} {E : XK} {us : List Value} {vs : List V}
    (S : FnScope N ps scope) (hd : A.handled = none) (e0 : Env0 P w K mg base A outer s H) (hl : vs.length = ps.length) (r : Vals vs us)
    (x : InCallC s s.heap.objs.size (bindL (envOfC qual scope s.heap.objs.size f cd).kindOf (ps.zip us) fun _ => none) (cellsFrom (s.heap.objs.size + 1) scope.names []) (bindC (envOfC qual scope s.heap.objs.size f cd).kindOf (ps.zip us) fun _ => none) s1) :
    Inv (cxOf CX P w K mg base N qual scope f cd A outer s H E) [] (start N vs) H s1 := by
  have hpl : ps.length ≤ N.length := by have := congrArg List.length S.pre; rw [List.length_take] at this; omega
  obtain ⟨h1, tk, rfl, hk⟩ := x.done
  have noA : ∀ b : Addr, b ∉ (cxOf CX P w K mg base N qual scope f cd A outer s H E).ex := fun b z => absurd (show b ∈ ([] : List Addr) from z) (by simp)
  refine ⟨⟨e0.mod, S.kind, rfl, rfl, Nat.le_refl _, fun y z c h1 h2 => ?_, fun y hy => ?_, fun y c _ h => ?_, fun _ => hd, Around.frames_deeper e0.frames, .inr ⟨rfl, rfl⟩, fun b z => absurd z (noA b), e0.bs, e0.bsz, fun b _ _ => noA b, fun b z => absurd z (noA b), e0.funs, e0.frf⟩,
    rfl, e0.bare, Un.kept hk, ⟨_, x.toInCall.ns, fun i y v h1 h2 h3 => ?_⟩, fun y c h => ⟨_, x.cell y c h⟩, e0.hok.fresh (Nat.le_refl _), fun y c h => ?_, fun p hp => absurd (show p ∈ ([] : List (Addr × Obj)) from hp) (by simp), e0.hok.kept hk, ?_⟩
  · exact name_of_addr x.apart (PySem.mem_of_lookup h1) (PySem.mem_of_lookup h2)
  · have hy : scope.names.lookup y = some .cell ∨ scope.names.lookup y = some .free := hy
    rcases hy with hy | hy
    · exact cell_has hy
    · exact absurd rfl (S.nofree _ (PySem.mem_of_lookup hy))
  · exact Nat.le_of_lt (x.above y c (PySem.mem_of_lookup h))
  · have hi : i < vs.length := by
      unfold start at h2
      by_cases hi : i < vs.length
      · exact hi
      · rw [List.getElem?_append_right (by simpa using hi)] at h2
        rw [List.getElem?_replicate] at h2
        split at h2 <;> cases h2
    have ha : vs[i]? = some v := by
      unfold start at h2
      rw [List.getElem?_append_left (by simpa using hi), List.getElem?_map] at h2
      cases e : vs[i]? with
      | none => rw [e] at h2; cases h2
      | some a => rw [e] at h2; cases h2; rfl
    obtain ⟨u, hu, rv⟩ := r.get ha
    have hp : ps[i]? = some y := by
      rw [← S.pre, List.getElem?_take_of_lt (by omega)]; exact h1
    have ndP : ps.Nodup := by rw [← S.pre]; exact S.nd.sublist (List.take_sublist _ _)
    refine ⟨u, rv, ?_⟩
    rcases S.par y (List.mem_of_getElem? hp) with k | k
    · exact .inl ⟨k, bindL_get ndP hp hu k⟩
    · obtain ⟨c, e⟩ := cell_has (n := s.heap.objs.size + 1) k
      refine .inr ⟨.inl k, c, e, ?_⟩
      have q := x.cell y c e
      rw [bindC_get ndP hp hu (by show scope.names.lookup y ≠ _; rw [k]; decide)] at q
      exact q
  · exact e0.hok.fresh (Nat.le_of_lt (x.above y c (PySem.mem_of_lookup h)))
  · unfold start
    show _ = N.length
    rw [List.length_append, List.length_map, List.length_replicate]
    omega

/-- THE RULE: a def (or a method) of the text, by its body. The body's reading t is chosen for each entry; it is run at the parameters' values -/
theorem fn_of {CX : CXT} {P : Program} {w : World} {K : PySem.W.Frag} {mg : Str → Option Value} {base : Heap} {k : Nat} {f : Addr} {name qual : Str} {params : Arguments} {body : List Stmt} {scope : Scope} {dV kV doc pm cdv ct oc : Value} {an od : Option Addr}
    {osl : Array (Option Value)} {N ps : List Str} {sp : Sp} (lk : K.lookup f = some ⟨oc, od, .func (PySem.W.fnOf name qual params body scope dV kV doc pm an cdv ct), osl⟩) (hcd : PySem.W.codeIn K cdv qual = true) (S : FnScope N ps scope)
    (len : ∀ vs H Q E, sp vs H Q E → vs.length = ps.length)
    (hbody : ∀ (A : Around) (outer : List Env) (s : Shared) (H : Hp) (vs : List V) (Q : VK) (E : XK), Room k (A.deeper (envOfC qual scope s.heap.objs.size f cdv)) → sp vs H Q E →
      ∃ t, PSs (cxOf CX P w K mg base N qual scope f cdv A outer s H E) body t ∧ t { nx := fun _ H' => Q .non H', rt := Q } (start N vs) H) :
    FnOk P w K mg base CX (k + 1) f (PySem.W.fnOf name qual params body scope dV kV doc pm an cdv ct) ps sp := by
  refine ⟨len, fun A outer s H args us vs Q E hr e0 hb r hsp => ?_⟩
  have hl := len _ _ _ _ hsp
  have KX : K.In s.heap := e0.mod.kin.keeps fun b o e => (e0.bs b o e).1
  have lim : s.heap.NoLimit := e0.mod.nolimit.keeps fun b o e => (e0.bs b o e).1
  have hkind : ∀ y ∈ ps.zip us, scope.names.lookup y.1 = some .local ∨ (scope.names.lookup y.1 = some .cell ∧ ((cellsFrom (s.heap.objs.size + 1) scope.names []).lookup y.1).isSome = true) := fun ⟨n, v⟩ hy => by
    rcases S.par n (List.of_mem_zip hy).1 with q | q
    · exact .inl q
    · exact .inr ⟨q, PySem.W.cellsFrom_some _ _ _ (.inl q)⟩
  refine codeAny_call_function hr.depth (KX _ _ lk) rfl S.co S.gen rfl (PySem.W.codeRec_of KX hcd) (hb _ _ _ _ ?_)
  refine wpAny_newFunctionEnv_cells S.kind hkind fun env he s1 x => ?_
  subst he
  refine ⟨lim.keeps x.toInCall.keep, codeAny_func ?_⟩
  obtain ⟨t, ht, hq⟩ := hbody A outer s H vs Q E (hr.deeper _) hsp
  have I : Inv (cxOf CX P w K mg base N qual scope f cdv A outer s H E) [] (start N vs) H s1 := inv_start S hr.hd e0 hl r x
  refine wpAny_mono (ht [] s1 (start N vs) H _ I hq) (fun fl s' hs => ?_) fun e s' hs => hs
  have fin : ∀ {σ' : St} {H' : Hp} {v : V} {u : Value}, Inv (cxOf CX P w K mg base N qual scope f cdv A outer s H E) [] σ' H' s' → RelV v u → Q v H' → CE outer P w H s Q u s' :=
    fun {σ' H' v u} J rv q => ⟨v, H', J.os, J.bare, J.base, J.hok, rv, q⟩
  cases fl with
  | ret u =>
    obtain ⟨v, σ', H', J, rv, q⟩ := hs
    exact fin J rv q
  | next =>
    obtain ⟨σ', H', J, q⟩ := hs
    exact fin (v := V.non) (u := Value.none) J rfl q
  | brk =>
    obtain ⟨_, _, _, q⟩ := hs
    exact False.elim q
  | cont =>
    obtain ⟨_, _, _, q⟩ := hs
    exact False.elim q
end L2

namespace L2
open PySem PySem.Spec PyProof.Rows
section
variable {X : Cx} {x : Str} {p pos : Pos} {e : Expr} {es : List Expr} {t : TA} {id T : String} {r : List V → Hp → VK → Prop}

def tCB (r : List V → Hp → VK → Prop) (t : TA) : TE := fun σ H Q => t σ H fun vs H1 => r vs H1 Q
/-- f(e, ..), f a built-in function -/
theorem pe_callB (hc : CallR X (.builtin id) r) (hg : Gl X x) (hm : X.mg x = none) (hv : bootBuiltins x = some (.builtin id)) (ha : PA X (e :: es) t) (hn : x ≠ "__name__" := by decide) (hdb : (x == ("__debug__" : Str)) = false := by decide)
    (he : starEach (e :: es) X.env = (false, eval e X.env) :: starEach es X.env := by rfl) (hpl : (backTo pos (starEach es X.env)).any (·.1) = false := by rfl) : PE X (.Call (.Name x p) (e :: es) [] pos) (tCB r t) := by
  intro pins s σ H Q I h
  refine wpAny_Call_Name_kw (ld_blt I hg hm hv ?_ hn hdb)
  exact PyProof.Rows.callWith_builtin1 (thn (ha pos pins s σ H _ I h) fun us s1 ⟨vs, H1, I1, r1, q1⟩ => hc pins s1 σ H1 vs us Q I1 r1 q1) he hpl
/-- T(e, ..), T a built-in type -/
theorem pe_callTy (hc : CallR X (.type T) r) (hg : Gl X x) (hm : X.mg x = none) (hv : bootBuiltins x = some (.type T)) (ha : PA X (e :: es) t) (hn : x ≠ "__name__" := by decide) (hdb : (x == ("__debug__" : Str)) = false := by decide)
    (he : starEach (e :: es) X.env = (false, eval e X.env) :: starEach es X.env := by rfl) (hpl : (backTo pos (starEach es X.env)).any (·.1) = false := by rfl) : PE X (.Call (.Name x p) (e :: es) [] pos) (tCB r t) := by
  intro pins s σ H Q I h
  refine wpAny_Call_Name_kw (ld_blt I hg hm hv ?_ hn hdb)
  exact PyProof.Rows.callWith_type1 (thn (ha pos pins s σ H _ I h) fun us s1 ⟨vs, H1, I1, r1, q1⟩ => hc pins s1 σ H1 vs us Q I1 r1 q1) he hpl
/-- T() -/
theorem pe_callTy0 (hc : CallR X (.type T) r) (hg : Gl X x) (hm : X.mg x = none) (hv : bootBuiltins x = some (.type T)) (hn : x ≠ "__name__" := by decide) (hdb : (x == ("__debug__" : Str)) = false := by decide) :
    PE X (.Call (.Name x p) [] [] pos) (tCB r tNil) := by
  intro pins s σ H Q I h
  refine wpAny_Call_Name_kw (ld_blt I hg hm hv ?_ hn hdb)
  exact PyProof.Rows.callWith_type0 (hc pins s σ H [] [] Q I .nil h)
end
end L2

namespace HT
open PySem PyProof.Rows

/-- t < u of tuples of ints -/
def lexLt : List Int → List Int → Bool
  | [], [] => false
  | [], _ :: _ => true
  | _ :: _, [] => false
  | x :: xs, y :: ys => if x = y then lexLt xs ys else decide (x < y)
theorem lexLt_cons (x y : Int) (xs ys : List Int) : lexLt (x :: xs) (y :: ys) = if x = y then lexLt xs ys else decide (x < y) := rfl
theorem lexLt_nil_nil : lexLt [] [] = false := rfl
theorem lexLt_nil_cons (y : Int) (ys : List Int) : lexLt [] (y :: ys) = true := rfl
theorem lexLt_cons_nil (x : Int) (xs : List Int) : lexLt (x :: xs) [] = false := rfl

theorem eqAt_int (A : Around) (s : Shared) (a : Int) (t : Tok) (c : Int) (u : Tok) : ∃ e, SeqAt.EqAt A s (.int a t) (.int c u) e ∧ (e = true ↔ a = c) :=
  ⟨(a == c), SeqAt.EqAt.int_int a t c u, by simp⟩
theorem rcLt_int (A : Around) (s : Shared) (a : Int) (t : Tok) (c : Int) (u : Tok) (prog : Program) (w : World) (E : Value → Shared → Prop) (Q : Value → Shared → Prop) (h : Q (.bool (decide (a < c))) s) :
    wpAny (model prog w) A (richCompare .Lt (.int a t) (.int c u)) Q E s :=
  (PyProof.Rows.lt_int h : wpAny (model prog w) A (compareOp .Lt (.int a t) (.int c u)) Q E s)

section
open PySem.SeqAt
open PySem.AutoSeq1 (wpAny_loadPart')
open PySem.MeetsSeq PySem.MeetsSeq2 PySem.MeetsSeq3

theorem tuple_lt_ints (l b : Addr) (items items2 : Array Value) (n n2 : Nat) (dd dd2 : Option Addr) (sl sl2 : Array (Option Value)) (ns ms : List Int) (hi : IntsAre items.toList ns) (hj : IntsAre items2.toList ms) :
    Meets (Builtin.«tuple.__lt__» ⟨[.ref l, .ref b], []⟩)
      (fun _ R s => s.heap.get? l = some { cls := .type "tuple", dict := dd, data := .seq items n, slots := sl } ∧ s.heap.get? b = some { cls := .type "tuple", dict := dd2, data := .seq items2 n2, slots := sl2 } ∧
        R (.ok (.ret (.bool (lexLt ns ms)))) s) :=
  .of_wp fun prog w A R s h => by
    obtain ⟨hp, g, d, tk, os⟩ := s; obtain ⟨hl, hb, h⟩ := h
    have f2 := AutoSeq1.sub_tuple_tuple
    have z1 : items.size = ns.length := by rw [← hi.length]; simp
    have z2 : items2.size = ms.length := by rw [← hj.length]; simp
    wp_walk using wpAny_loadPart' hl, wpAny_loadPart' hb, wpAny_forIn_list _ (fun rest b s' => b.1 = none ∧ s' = ⟨hp, g, d, tk, os⟩ ∧ ∃ (vs ws : List Value) (ns' ms' : List Int), rest = vs.zip ws ∧
      IntsAre vs ns' ∧ IntsAre ws ms' ∧ ns'.length + items2.size = ms'.length + items.size ∧ R (.ok (.ret (.bool (lexLt ns' ms')))) ⟨hp, g, d, tk, os⟩) _
    case turn =>
      rintro ⟨y, x⟩ rest b s' ⟨hb', rfl, vs, ws, ns', ms', hz, hvi, hwi, hlen, hR⟩
      cases hvi with
      | nil => rw [List.zip_nil_left] at hz; cases hz
      | cons a t hvi' =>
        cases hwi with
        | nil => rw [List.zip_nil_right] at hz; cases hz
        | cons c u hwi' =>
          rw [List.zip_cons_cons] at hz
          injection hz with hyx hrest
          injection hyx with hy hx
          subst hy hx
          rw [lexLt_cons] at hR
          simp only [List.length_cons] at hlen
          obtain ⟨e, he, hiff⟩ := eqAt_int A.in1 ⟨hp, g, d, tk, os⟩ a t c u
          refine wpAny_bind (he prog w _ _ ?_)
          cases e with
          | true =>
            rw [if_pos (hiff.mp rfl)] at hR
            wp_walk
            exact ⟨rfl, rfl, _, _, _, _, hrest, hvi', hwi', by omega, hR⟩
          | false =>
            rw [if_neg (fun q => absurd (hiff.mpr q) Bool.false_ne_true)] at hR
            have hri := rcLt_int A.in1 ⟨hp, g, d, tk, os⟩ a t c u prog w
            wp_walk using hri
            exact ⟨_, rfl, by simpa using hR⟩
    case fin =>
      rintro ⟨b1, b2⟩ s' ⟨hb', rfl, vs, ws, ns', ms', hz, hvi, hwi, hlen, hR⟩
      simp only at hb'
      subst hb'
      have hv : lexLt ns' ms' = decide (items.size < items2.size) := by
        cases hvi with
        | nil =>
          cases hwi with
          | nil =>
            simp only [List.length_nil] at hlen
            rw [lexLt_nil_nil]
            exact (decide_eq_false (by omega)).symm
          | cons c u hw =>
            simp only [List.length_nil, List.length_cons] at hlen
            rw [lexLt_nil_cons]
            exact (decide_eq_true (by omega)).symm
        | cons a t hv =>
          cases hwi with
          | nil =>
            simp only [List.length_nil, List.length_cons] at hlen
            rw [lexLt_cons_nil]
            exact (decide_eq_false (by omega)).symm
          | cons c u hw =>
            rw [List.zip_cons_cons] at hz
            cases hz
      rw [hv] at hR
      wp_walk
      exact ⟨_, rfl, by simpa [Builtin.Tuple.tupleCompareSizes] using hR⟩
    case h =>
      exact ⟨rfl, rfl, items.toList, items2.toList, ns, ms, rfl, hi, hj, by omega, h⟩
end

section
variable {prog : Program} {w : World} {A : Around} {E : Value → Shared → Prop} {s : Shared}

theorem lt_tupInts {l b : Addr} {items items2 : Array Value} {ns ms : List Int} {Q : Value → Shared → Prop} (hl : IsTup s.heap l items) (hb : IsTup s.heap b items2) (hi : IntsAre items.toList ns) (hj : IntsAre items2.toList ms)
    (hu : A.units < cLine) (h : Q (.bool (lexLt ns ms)) s) : wpAny (model prog w) A (compareOp .Lt (.ref l) (.ref b)) Q E s := by
  obtain ⟨⟨cls, dd, data, sl⟩, ho, hc, n, hd⟩ := id hl
  obtain ⟨⟨cls2, dd2, data2, sl2⟩, ho2, hc2, n2, hd2⟩ := id hb
  simp only at hc hd hc2 hd2
  subst hc hd hc2 hd2
  exact richCompare_meets_room (op := .Lt) ⟨_, ho, rfl⟩ ⟨_, ho2, rfl⟩ PySem.F.slot_tuple_lt PySem.F.entry_tuple_lt (PySem.F.args_tuple_lt_2 _ _) (tuple_lt_ints l b items items2 n n2 dd dd2 sl sl2 ns ms hi hj)
    ⟨ho, ho2, show Value.bool (lexLt ns ms) ≠ Value.notImplemented ∧ Q (.bool (lexLt ns ms)) s from ⟨(fun x => nomatch x), h⟩⟩ hu

/-- t + u, t not empty -/
theorem cat_tup {t b : Addr} {vs ws : List Value} {Q : Value → Shared → Prop} (ht : IsTup s.heap t vs.toArray) (hb : IsTup s.heap b ws.toArray) (hv : vs ≠ [])
    (h1 : ws = [] → Q (.ref t) s) (h2 : ws ≠ [] → Q (.ref s.heap.objs.size) { s with heap := s.heap.push { cls := .type "tuple", data := .seq (vs ++ ws).toArray } })
    (hsz : vs.length + ws.length ≤ sizeLine) : wpAny (model prog w) A (binaryOp .Add (.ref t) (.ref b)) Q E s := by
  obtain ⟨⟨cls, dd, data, sl⟩, ho, hc, n, hd⟩ := id ht
  obtain ⟨⟨cls2, dd2, data2, sl2⟩, ho2, hc2, n2, hd2⟩ := id hb
  simp only at hc hd hc2 hd2
  subst hc hd hc2 hd2
  have e : vs.toArray ++ ws.toArray = (vs ++ ws).toArray := by simp
  by_cases hw : ws = []
  · exact concat_meets ⟨_, ho, rfl⟩ ⟨_, ho2, rfl⟩ noFill_tuple_add seq_tuple_add PySem.F.slot_tuple_add PySem.F.entry_tuple_add (PySem.F.args_tuple_add_2 _ _)
      (tuple_addW1 t b vs.toArray ws.toArray n n2 dd dd2 sl sl2 (by simpa using hv) (by simp [hw])) ⟨ho, ho2, h1 hw⟩
  · refine concat_meets ⟨_, ho, rfl⟩ ⟨_, ho2, rfl⟩ noFill_tuple_add seq_tuple_add PySem.F.slot_tuple_add PySem.F.entry_tuple_add (PySem.F.args_tuple_add_2 _ _)
      (tuple_addW2 t b vs.toArray ws.toArray n n2 dd dd2 sl sl2 (by simpa using hv) (by simpa using hw) (by rw [List.size_toArray, List.size_toArray]; exact hsz)) ⟨ho, ho2, ?_⟩
    rw [e]
    exact h2 hw

/-! ### t[a:b], not the whole -/
/-- a slice's bound as a place among n (d where it is left out) -/
def sIx (n d : Nat) : Option Int → Nat
  | none => d
  | some v => if v < 0 then (v + (n : Int)).toNat else min v.toNat n
theorem sIx_none (n d : Nat) : sIx n d none = d := rfl
theorem sIx_nat (n d k : Nat) : sIx n d (some (k : Int)) = min k n := by
  show (if (k : Int) < 0 then ((k : Int) + (n : Int)).toNat else min (k : Int).toNat n) = min k n
  rw [if_neg (by omega), Int.toNat_natCast]
theorem sIx_le (n d : Nat) (hd : d ≤ n) (o : Option Int) : sIx n d o ≤ n := by
  cases o with
  | none => exact hd
  | some v =>
    show (if v < 0 then (v + (n : Int)).toNat else min v.toNat n) ≤ n
    by_cases hv : v < 0
    · rw [if_pos hv]; omega
    · rw [if_neg hv]; exact Nat.min_le_right _ _
theorem clip_eq (v : Int) (n d : Nat) : (if v < 0 then max (v + (n : Int)) 0 else min v (n : Int)) = ((sIx n d (some v) : Nat) : Int) := by
  show (if v < 0 then max (v + (n : Int)) 0 else min v (n : Int)) = (((if v < 0 then (v + (n : Int)).toNat else min v.toNat n) : Nat) : Int)
  by_cases hv : v < 0
  · simp only [if_pos hv]; omega
  · simp only [if_neg hv]; omega
theorem adjust_gen (lo hi : Option Int) (n : Nat) : Builtin.Slice.sliceAdjust lo hi 1 (n : Int) = (((sIx n 0 lo : Nat) : Int), ((sIx n n hi : Nat) : Int)) := by
  have h1 : ¬ ((1 : Int) < 0) := by omega
  unfold Builtin.Slice.sliceAdjust
  simp only [h1, if_false]
  refine Prod.ext ?_ ?_
  · cases lo with
    | none => rfl
    | some v => exact clip_eq v n 0
  · cases hi with
    | none => rfl
    | some v => exact clip_eq v n n
theorem places_gen (i j : Nat) : Builtin.Slice.slicePlaces (i : Int) (j : Int) 1 = j - i := by
  unfold Builtin.Slice.slicePlaces
  have h1 : (1 : Int) > 0 := by omega
  simp only [h1, if_true, Int.ediv_one]
  split <;> omega
theorem slicePart_ {v : Value} {o : Option Int} {Q : Option Int → Shared → Prop} (p : IsPart v o) (h : Q o s) : wpAny (model prog w) A (Builtin.Slice.slicePartIndex v) Q E s := by
  cases p with
  | none => exact slicePart_none h
  | int i t => exact slicePart_int h
theorem sliceApplied_gen {sl : Addr} {vl vu : Value} {lo hi : Option Int} {n : Nat} {Q : Int × Int × Nat → Shared → Prop} (hs : s.heap.IsSliceOf sl vl vu .none) (pl : IsPart vl lo) (pu : IsPart vu hi)
    (h : Q (((sIx n 0 lo : Nat) : Int), 1, sIx n n hi - sIx n 0 lo) s) : wpAny (model prog w) A (Builtin.Slice.sliceApplied (.ref sl) (pure (n : Int))) Q E s := by
  obtain ⟨os, hos, hcs, hds⟩ := id hs
  unfold Builtin.Slice.sliceApplied Builtin.Slice.sliceFields
  refine wpAny_bind (wpAny_bind (wpAny_field hos hds (x := vl) rfl (wpAny_bind (wpAny_field hos hds (x := vu) rfl (wpAny_bind (wpAny_field hos hds (x := .none) rfl (wpAny_pure ?_)))))))
  refine wpAny_bind (slicePart_none ?_)
  show wpAny _ _ (if ((1 : Int) == 0) = true then _ else _) _ _ s
  rw [if_neg (by decide)]
  refine wpAny_bind (slicePart_ pl (wpAny_bind (slicePart_ pu (wpAny_bind (wpAny_pure ?_)))))
  show wpAny _ _ (match Builtin.Slice.sliceAdjust lo hi 1 (n : Int) with | (lo, hi) => pure (lo, (1 : Int), Builtin.Slice.slicePlaces lo hi 1)) _ _ s
  rw [adjust_gen lo hi n]
  show wpAny _ _ (pure (((sIx n 0 lo : Nat) : Int), (1 : Int), Builtin.Slice.slicePlaces ((sIx n 0 lo : Nat) : Int) ((sIx n n hi : Nat) : Int) 1)) _ _ s
  rw [places_gen]
  exact wpAny_pure h
theorem pick_gen (xs : Array Value) (i k : Nat) : ((List.range k).filterMap fun (m : Nat) => xs[((i : Int) + (m : Int) * 1).toNat]?).toArray = ((xs.toList.drop i).take k).toArray := by
  have e : (fun (m : Nat) => xs[((i : Int) + (m : Int) * 1).toNat]?) = fun m => xs[i + m]? := by
    funext m
    have : ((i : Int) + (m : Int) * 1).toNat = i + m := by omega
    rw [this]
  rw [e]
  have := pick_run xs i k
  rw [List.filterMap_map] at this
  have e2 : ((fun x => xs[x]?) ∘ fun x => i + x) = fun m => xs[i + m]? := rfl
  rw [e2] at this
  rw [this]

theorem getItem_tuple_cut {t sl : Addr} {items : Array Value} {vl vu : Value} {lo hi : Option Int} {Q : Value → Shared → Prop} (ht : IsTup s.heap t items) (hs : s.heap.IsSliceOf sl vl vu .none) (pl : IsPart vl lo) (pu : IsPart vu hi)
    (hw : ¬ (sIx items.size 0 lo = 0 ∧ sIx items.size items.size hi = items.size))
    (h : Q (.ref s.heap.objs.size) { s with heap := s.heap.push { cls := .type "tuple", data := .seq ((items.toList.drop (sIx items.size 0 lo)).take (sIx items.size items.size hi - sIx items.size 0 lo)).toArray } })
    (hsz : items.size ≤ sizeLine) : wpAny (model prog w) A (getItem (.ref t) (.ref sl)) Q E s := by
  have htake : sizeOk (.seq ((items.toList.drop (sIx items.size 0 lo)).take (sIx items.size items.size hi - sIx items.size 0 lo)).toArray) := by
    show ((items.toList.drop (sIx items.size 0 lo)).take (sIx items.size items.size hi - sIx items.size 0 lo)).toArray.size ≤ sizeLine
    rw [List.size_toArray, List.length_take, List.length_drop, Array.length_toList]
    omega
  have hj : sIx items.size items.size hi ≤ items.size := sIx_le _ _ (Nat.le_refl _) hi
  obtain ⟨os, hos, hcs, hds⟩ := id hs
  have hTs : s.TypeIs (.ref sl) "slice" := ⟨os, hos, hcs⟩
  unfold getItem
  try with_reducible refine wpAny_holding ?_
  first | refine wpAny_bind (wpAny_pure ?_) | skip
  refine wpAny_bind (wpAny_sequenceKey ht.typeIs (by decide) ?_)
  refine wpAny_bind (wpAny_callSpecial?_slot (name := Str.ofString "__getitem__") ht.typeIs PyProof.Rows.slot_tuple_getitem
    (wpAny_call_entry PyProof.Rows.slot_tuple_getitem ht.typeIs entry_tuple_getitem ?_ (args_tuple_getitem _ _)))
  show wpAny _ _ (Builtin.Tuple.tupleItemsOf (.ref t) >>= _) _ _ s
  refine wpAny_bind (tupleItemsOf_ ht ?_)
  refine wpAny_bind (wpAny_typeOf hTs ?_)
  rw [if_pos (by decide)]
  refine wpAny_bind (sliceApplied_gen hs pl pu ?_)
  have hno : ¬ ((((sIx items.size 0 lo : Nat) : Int) == 0 && (1 : Int) == 1 && (sIx items.size items.size hi - sIx items.size 0 lo) == items.size) = true) := by
    intro q
    rw [Bool.and_eq_true, Bool.and_eq_true] at q
    have q1 : ((sIx items.size 0 lo : Nat) : Int) = 0 := eq_of_beq q.1.1
    have q2 : sIx items.size items.size hi - sIx items.size 0 lo = items.size := eq_of_beq q.2
    exact hw ⟨by omega, by omega⟩
  show wpAny _ _ (if (((sIx items.size 0 lo : Nat) : Int) == 0 && (1 : Int) == 1 && (sIx items.size items.size hi - sIx items.size 0 lo) == items.size) = true then _ else _) _ _ s
  rw [if_neg hno, pick_gen]
  first
    | exact wpAny_bind (m := Builtin.Tuple.tupleExact _) (wpAny_newObj_type (wpAny_pure ⟨_, rfl, wpAny_pure h⟩) htake)
    | exact wpAny_bind (m := Builtin.Tuple.tupleExact _) (wpAny_newObj_type (wpAny_bind (wpAny_pure (wpAny_pure ⟨_, rfl, wpAny_pure h⟩))) htake)
    | exact wpAny_bind (wpAny_bind (m := Builtin.Tuple.tupleExact _) (wpAny_newObj_type (wpAny_pure (wpAny_pure ⟨_, rfl, wpAny_pure h⟩)) htake))
    | exact wpAny_bind (wpAny_bind (m := Builtin.Tuple.tupleExact _) (wpAny_newObj_type (wpAny_pure ⟨_, rfl, wpAny_pure h⟩) htake))
end
end HT

namespace L2
open PySem PySem.Spec PyProof.Rows

/-! ### the parts of a slice -/
abbrev TO := St → Hp → (Option Int → Hp → Prop) → Prop
/-- a slice's part (left out, or an int) -/
def PO (X : Cx) (e : Option Expr) (t : TO) : Prop :=
  ∀ (pins : List (Addr × Obj)) (s : Shared) (σ : St) (H : Hp) (Q : Option Int → Hp → Prop), Inv X pins σ H s → t σ H Q →
    wpAny (model X.prog X.w) X.A (evalPart e X.env) (fun u s' => ∃ o H', Inv X pins σ H' s' ∧ IsPart u o ∧ Q o H') X.xe s
def tNoPart : TO := fun _ H Q => Q none H
def tPart (t : TE) : TO := fun σ H Q => t σ H fun x H1 => ∃ i, x = .int i ∧ Q (some i) H1

theorem intsAre_of {ns : List Int} : ∀ {us : List Value}, Vals (ns.map V.int) us → IntsAre us ns := by
  induction ns with
  | nil => intro us r; rw [List.map_nil] at r; cases r; exact .nil
  | cons n ns ih =>
    intro us r
    rw [List.map_cons] at r
    cases r with
    | cons r1 r2 =>
      obtain ⟨t, e⟩ := r1
      subst e
      exact .cons n t (ih r2)

section
variable {X : Cx} {e : Expr} {te : TE} {lo hi : Option Expr} {tl th : TO} {pos p2 : Pos}

theorem po_none : PO X none tNoPart := by
  intro pins s σ H Q I h
  rw [evalPart_none]
  exact wpAny_pure ⟨none, H, I, .none, h⟩
theorem po_some (h : PE X e te) : PO X (some e) (tPart te) := by
  intro pins s σ H Q I hw
  rw [evalPart_some]
  refine thn (h pins s σ H _ I hw) fun u s1 ⟨x, H1, I1, r1, q1⟩ => ?_
  obtain ⟨i, rfl, q⟩ := q1
  obtain ⟨t, rfl⟩ := r1
  exact ⟨some i, H1, I1, .int i t, q⟩

/-- what a slice of a value is, by values: the slice object stands at sl -/
def SlR (X : Cx) (r : V → Option Int → Option Int → Hp → VK → Prop) : Prop :=
  ∀ (pins : List (Addr × Obj)) (s : Shared) (σ : St) (H : Hp) (x : V) (v vl vu : Value) (lo hi : Option Int) (sl : Addr) (Q : VK), Inv X pins σ H s → RelV x v → s.heap.IsSliceOf sl vl vu .none → IsPart vl lo → IsPart vu hi → r x lo hi H Q →
    ∃ T id, typeLookup (.type T) "__getitem__" = pure (some (.builtin id)) ∧ s.TypeIs v T ∧ wpAny (model X.prog X.w) X.A (getItem v (.ref sl)) (EP X pins σ Q) X.xe s
theorem SlR.or {r r' : V → Option Int → Option Int → Hp → VK → Prop} (h : SlR X r) (h' : SlR X r') : SlR X (fun x lo hi H Q => r x lo hi H Q ∨ r' x lo hi H Q) := by
  intro pins s σ H x v vl vu lo hi sl Q I rx hs pl pu q
  rcases q with q | q
  · exact h pins s σ H x v vl vu lo hi sl Q I rx hs pl pu q
  · exact h' pins s σ H x v vl vu lo hi sl Q I rx hs pl pu q
def tSl (r : V → Option Int → Option Int → Hp → VK → Prop) (te : TE) (tl th : TO) : TE := fun σ H Q => te σ H fun x H1 => tl σ H1 fun l H2 => th σ H2 fun u H3 => r x l u H3 Q
/-- a[lo:hi], any a -/
theorem pe_slice {r : V → Option Int → Option Int → Hp → VK → Prop} (hr : SlR X r) (he : PE X e te) (hl : PO X lo tl) (hu : PO X hi th) : PE X (.Subscript e (.Slice lo hi none p2) pos) (tSl r te tl th) := by
  intro pins s σ H Q I h
  refine Subscript_ (thn (he pins s σ H _ I h) fun v s1 ⟨x, H1, I1, r1, q1⟩ => ?_)
  refine wpAny_Slice (thn (hl pins s1 σ H1 _ I1 q1) fun vl s2 ⟨l, H2, I2, pl, q2⟩ => thn (hu pins s2 σ H2 _ I2 q2) fun vu s3 ⟨u, H3, I3, pu, q3⟩ => ?_)
  rw [evalPart_none]
  refine wpAny_pure ?_
  have I4 : Inv X pins σ H3 { s3 with heap := s3.heap.push { cls := .type "slice", data := .fields #[vl, vu, .none] } } := I3.kept (t' := s3.toks) fun b ob q => Heap.get?_push_of_some _ q
  obtain ⟨T, id, hT, ht, hg⟩ := hr pins { s3 with heap := s3.heap.push { cls := .type "slice", data := .fields #[vl, vu, .none] } } σ H3 x v vl vu l u s3.heap.objs.size Q I4 r1 (Heap.IsSliceOf.new ..) pl pu q3
  show wpAny (model X.prog X.w) X.A (subscriptTail e (.Slice lo hi none p2) v (.ref s3.heap.objs.size)) (EP X pins σ Q) X.xe { s3 with heap := s3.heap.push { cls := .type "slice", data := .fields #[vl, vu, .none] } }
  exact tail_any (ops := [.ref s3.heap.objs.size, v]) ht hT hg (by with_unfolding_all rfl)

/-- the items of xs[lo:hi] -/
def cutV (xs : List V) (lo hi : Option Int) : List V := (xs.drop (HT.sIx xs.length 0 lo)).take (HT.sIx xs.length xs.length hi - HT.sIx xs.length 0 lo)
theorem cutV_length (xs : List V) (lo hi : Option Int) : (cutV xs lo hi).length ≤ xs.length := by
  unfold cutV
  rw [List.length_take, List.length_drop]
  omega
/-- t[lo:hi], not the whole of it (the whole would be t itself) -/
def rSlT (K : PySem.W.Frag) : V → Option Int → Option Int → Hp → VK → Prop := fun x lo hi H Q => ∃ a xs, x = .ref a ∧ SqT K H a xs ∧
  ¬ (HT.sIx xs.length 0 lo = 0 ∧ HT.sIx xs.length xs.length hi = xs.length) ∧ ∀ p, H p = none → Q (.ref p) (upd H p (.tup (cutV xs lo hi)))
theorem sl_tup : SlR X (rSlT X.K) := by
  intro pins s σ H x v vl vu lo hi sl Q I rx hs pl pu h
  obtain ⟨a, xs, rfl, hx, hw, q⟩ := h
  cases rx
  obtain ⟨its, r, ht, hz⟩ := I.tuple hx
  have hlen : its.toArray.size = xs.length := by rw [List.size_toArray]; exact r.length.symm
  refine ⟨"tuple", _, PyProof.Rows.slot_tuple_getitem.lookup, ht.typeIs, ?_⟩
  refine HT.getItem_tuple_cut ht hs pl pu (by rw [hlen]; exact hw) ?_ (by rw [hlen]; exact hz)
  rw [hlen]
  refine ⟨.ref s.heap.objs.size, _, I.laid (t' := s.toks) (o := .tup (cutV xs lo hi)) (fun b ob q => Heap.get?_push_of_some _ q) (Nat.le_refl _) ?_, rfl, q _ (I.hok.fresh (Nat.le_refl _))⟩
  exact ⟨Nat.le_trans (cutV_length xs lo hi) hz, _, (r.drop (HT.sIx xs.length 0 lo)).take (HT.sIx xs.length xs.length hi - HT.sIx xs.length 0 lo), IsTup.new _ _⟩

/-! ### t < u, t + u -/
def rLtT (K : PySem.W.Frag) : R2 := fun x y H Q => ∃ a b ns ms, x = .ref a ∧ y = .ref b ∧ SqT K H a (ns.map V.int) ∧ SqT K H b (ms.map V.int) ∧ Q (.bl (HT.lexLt ns ms)) H
theorem op_ltT (hu : X.A.units < cLine) : OpR X (compareOp .Lt) (rLtT X.K) := by
  intro pins s σ H x y v u Q I rx ry h
  obtain ⟨a, b, ns, ms, rfl, rfl, ha, hb, q⟩ := h
  cases rx
  cases ry
  obtain ⟨its, r1, p1, _⟩ := I.tuple ha
  obtain ⟨its2, r2, p2, _⟩ := I.tuple hb
  have i1 : IntsAre its.toArray.toList ns := intsAre_of r1
  have i2 : IntsAre its2.toArray.toList ms := intsAre_of r2
  exact HT.lt_tupInts p1 p2 i1 i2 hu ⟨.bl (HT.lexLt ns ms), H, I, rfl, q⟩
/-- t + u, t not empty: u empty gives t itself -/
def rCatT (K : PySem.W.Frag) : R2 := fun x y H Q => ∃ a b xs ys, x = .ref a ∧ y = .ref b ∧ SqT K H a xs ∧ SqT K H b ys ∧ xs ≠ [] ∧ xs.length + ys.length ≤ sizeLine ∧
  (ys = [] → Q (.ref a) H) ∧ (ys ≠ [] → ∀ p, H p = none → Q (.ref p) (upd H p (.tup (xs ++ ys))))
theorem Vals.nil_iff {xs : List V} {us : List Value} (r : Vals xs us) : us = [] ↔ xs = [] := by
  cases r with
  | nil => simp
  | cons _ _ => simp
theorem op_catT : OpR X (binaryOp .Add) (rCatT X.K) := by
  intro pins s σ H x y v u Q I rx ry h
  obtain ⟨a, b, xs, ys, rfl, rfl, ha, hb, hx, hz, q1, q2⟩ := h
  cases rx
  cases ry
  obtain ⟨its, r1, p1, _⟩ := I.tuple ha
  obtain ⟨its2, r2, p2, _⟩ := I.tuple hb
  refine HT.cat_tup p1 p2 (fun z => hx (r1.nil_iff.mp z)) (fun z => ⟨.ref a, H, I, rfl, q1 (r2.nil_iff.mp z)⟩) (fun z => ?_) (by rw [← r1.length, ← r2.length]; exact hz)
  refine ⟨.ref s.heap.objs.size, _, I.laid (t' := s.toks) (o := .tup (xs ++ ys)) (fun b ob q => Heap.get?_push_of_some _ q) (Nat.le_refl _) ?_, rfl, q2 (fun w => z (r2.nil_iff.mpr w)) _ (I.hok.fresh (Nat.le_refl _))⟩
  exact ⟨by rw [List.length_append]; exact hz, _, r1.append r2, IsTup.new _ _⟩
/-- tuple(t) -/
theorem call_tupleT : CallR X (.type "tuple") (fun xs H Q => ∃ a ys, xs = [.ref a] ∧ SqT X.K H a ys ∧ Q (.ref a) H) := by
  intro pins s σ H xs us Q I r h
  obtain ⟨a, ys, rfl, ha, q⟩ := h
  obtain ⟨u, rfl, ru⟩ := vals1 r
  cases ru
  obtain ⟨its, _, p1, _⟩ := I.tuple ha
  exact call_tuple_same (items := its.toArray) p1 ⟨.ref a, H, I, rfl, q⟩
end
end L2

namespace L2
open PySem PySem.Spec PyProof.Rows

/-! ### places -/
/-- the place that an index of any sign means -/
def ixN (n : Nat) (i : Int) : Option Nat := if 0 ≤ i then (if i < n then some i.toNat else none) else if -(n : Int) ≤ i then some (i + n).toNat else none
def atI {α : Type} (xs : List α) (i : Int) : Option α := (ixN xs.length i).bind fun j => xs[j]?
theorem ixN_seq {n : Nat} {i : Int} {j : Nat} (h : ixN n i = some j) : seqIndex? i n = some j ∧ j < n ∧ -(n : Int) ≤ i ∧ i < n := by
  unfold ixN at h
  by_cases h0 : 0 ≤ i
  · rw [if_pos h0] at h
    by_cases h1 : i < n
    · rw [if_pos h1] at h
      have e : i.toNat = j := Option.some.inj h
      exact ⟨by rw [seqIndex_of h0 h1, e], by omega, by omega, h1⟩
    · rw [if_neg h1] at h; cases h
  · rw [if_neg h0] at h
    by_cases h1 : -(n : Int) ≤ i
    · rw [if_pos h1] at h
      have e : (i + n).toNat = j := Option.some.inj h
      exact ⟨by rw [seqIndex_neg (by omega) h1, e], by omega, h1, by omega⟩
    · rw [if_neg h1] at h; cases h
theorem atI_get {α : Type} {xs : List α} {i : Int} {v : α} (h : atI xs i = some v) : ∃ j, seqIndex? i xs.length = some j ∧ xs[j]? = some v ∧ j < xs.length ∧ -(xs.length : Int) ≤ i ∧ i < xs.length := by
  unfold atI at h
  cases e : ixN xs.length i with
  | none => rw [e] at h; cases h
  | some j =>
    rw [e] at h
    obtain ⟨h1, h2, h3, h4⟩ := ixN_seq e
    exact ⟨j, h1, h, h2, h3, h4⟩
theorem atI_nat {α : Type} {xs : List α} {j : Nat} {v : α} (h : xs[j]? = some v) : atI xs (j : Int) = some v := by
  have hj : j < xs.length := (List.getElem?_eq_some_iff.mp h).1
  have e : ixN xs.length (j : Int) = some j := by
    unfold ixN
    rw [if_pos (by omega), if_pos (by omega)]; simp
  unfold atI; rw [e]; exact h
theorem atI_last {α : Type} (xs : List α) (v : α) : atI (xs ++ [v]) (-1) = some v := by
  have hl : (xs ++ [v]).length = xs.length + 1 := by simp
  have e : ixN (xs ++ [v]).length (-1) = some xs.length := by
    unfold ixN
    rw [hl, if_neg (by decide), if_pos (by omega)]
    congr 1
    omega
  unfold atI
  rw [e]
  show (xs ++ [v])[xs.length]? = some v
  simp

/-! ### what may be subscripted -/
/-- what stands as an index of a plain subscript -/
def PlainIx (b : Expr) : Prop := ∀ o i, subscripted b false o i = operate [o, i] (getItem o i)
/-- a subscript by values -/
def IxR (X : Cx) (r : R2) : Prop :=
  ∀ (value slice : Expr) (pins : List (Addr × Obj)) (s : Shared) (σ : St) (H : Hp) (x y : V) (v u : Value) (Q : VK), Inv X pins σ H s → RelV x v → RelV y u → r x y H Q →
    subscripted slice false v u = operate [v, u] (getItem v u) → wpAny (model X.prog X.w) X.A (subscriptTail value slice v u) (EP X pins σ Q) X.xe s
/-- a call of a builtin's method by values: the receiver, the arguments -/
def MtR (X : Cx) (id : String) (r : V → List V → Hp → VK → Prop) : Prop :=
  ∀ (pins : List (Addr × Obj)) (s : Shared) (σ : St) (H : Hp) (x : V) (xs : List V) (v : Value) (us : List Value) (Q : VK), Inv X pins σ H s → RelV x v → Vals xs us → r x xs H Q →
    wpAny (model X.prog X.w) X.A (call (.builtin id) (v :: us)) (EP X pins σ Q) X.xe s
section
variable {X : Cx} {a b : Expr} {ta tb : TE} {pos : Pos}
theorem IxR.or {r r' : R2} (h : IxR X r) (h' : IxR X r') : IxR X (fun x y H Q => r x y H Q ∨ r' x y H Q) := by
  intro value slice pins s σ H x y v u Q I rx ry q hs
  rcases q with q | q
  · exact h value slice pins s σ H x y v u Q I rx ry q hs
  · exact h' value slice pins s σ H x y v u Q I rx ry q hs
theorem MtR.or {id : String} {r r' : V → List V → Hp → VK → Prop} (h : MtR X id r) (h' : MtR X id r') : MtR X id (fun x xs H Q => r x xs H Q ∨ r' x xs H Q) := by
  intro pins s σ H x xs v us Q I rx rs q
  rcases q with q | q
  · exact h pins s σ H x xs v us Q I rx rs q
  · exact h' pins s σ H x xs v us Q I rx rs q
/-- a[b] -/
theorem pe_ix {r : R2} (hr : IxR X r) (ha : PE X a ta) (hb : PE X b tb) (hs : PlainIx b) : PE X (.Subscript a b pos) (tOp r ta tb) := by
  intro pins s σ H Q I h
  exact Subscript_ (binT ha hb I h fun v u s2 x y H2 I2 rx ry q => hr a b pins s2 σ H2 x y v u Q I2 rx ry q (hs _ _))

def rIxL (K : PySem.W.Frag) : R2 := fun x y H Q => ∃ p xs i v, x = .ref p ∧ y = .int i ∧ SqL K H p xs ∧ atI xs i = some v ∧ Q v H
def rIxT (K : PySem.W.Frag) : R2 := fun x y H Q => ∃ p xs i v, x = .ref p ∧ y = .int i ∧ SqT K H p xs ∧ atI xs i = some v ∧ Q v H
def rIxS : R2 := fun x y H Q => ∃ z i c, x = .str z ∧ y = .int i ∧ z.length ≤ sizeLine ∧ atI z.cps.toList i = some c ∧ Q (.str ⟨#[c]⟩) H
theorem ix_list : IxR X (rIxL X.K) := by
  intro value slice pins s σ H x y v u Q I rx ry h hs
  obtain ⟨p, xs, i, z, rfl, rfl, hq, he, q⟩ := h
  cases rx
  obtain ⟨t, rfl⟩ := ry
  obtain ⟨its, r, pl, hz⟩ := I.list hq
  obtain ⟨j, h1, h2, h3, h4, h5⟩ := atI_get he
  obtain ⟨w, ew, rw'⟩ := r.get h2
  have hl := r.length
  have hn := line63
  have fin : EP X pins σ Q w s := ⟨z, H, I, rw', q⟩
  by_cases h0 : 0 ≤ i
  · have hj : i.toNat = j := by
      rw [seqIndex_of h0 h5] at h1
      exact Option.some.inj h1
    exact item_listR pl.isList h0 (by omega) (by rw [hj]; simpa using ew) fin hs
  · have hj : (i + (its.toArray.size : Int)).toNat = j := by
      rw [seqIndex_neg (by omega) h4] at h1
      rw [List.size_toArray, ← hl]
      exact Option.some.inj h1
    exact subscriptTail_builtinR (x := w) pl.isList.typeIs slot_list_getitem.lookup
      (wpAny_getItem_list_neg (Q := fun r s' => r = w ∧ EP X pins σ Q r s') pl.isList (by omega) (by rw [List.size_toArray] <;> omega) (by omega) (by rw [hj]; simpa using ew) ⟨rfl, fin⟩) hs
theorem ix_tup : IxR X (rIxT X.K) := by
  intro value slice pins s σ H x y v u Q I rx ry h hs
  obtain ⟨p, xs, i, z, rfl, rfl, hq, he, q⟩ := h
  cases rx
  obtain ⟨t, rfl⟩ := ry
  obtain ⟨its, r, pl, hz⟩ := I.tuple hq
  obtain ⟨j, h1, h2, h3, h4, h5⟩ := atI_get he
  obtain ⟨w, ew, rw'⟩ := r.get h2
  have hl := r.length
  have hn := line63
  have fin : EP X pins σ Q w s := ⟨z, H, I, rw', q⟩
  exact subscriptTail_builtinR (x := w) pl.typeIs slot_tuple_getitem.lookup
    (getItem_tuple (j := j) (Q := fun r s' => r = w ∧ EP X pins σ Q r s') pl (by omega) (by omega) (by rw [List.size_toArray, ← hl]; exact h1) (by simpa using ew) ⟨rfl, fin⟩) hs
theorem ix_str : IxR X rIxS := by
  intro value slice pins s σ H x y v u Q I rx ry h hs
  obtain ⟨z, i, c, rfl, rfl, hz, he, q⟩ := h
  obtain ⟨t, rfl⟩ := rx
  obtain ⟨t', rfl⟩ := ry
  obtain ⟨j, h1, h2, h3, h4, h5⟩ := atI_get he
  have hl : z.cps.toList.length = z.length := by simp [Str.length]
  rw [hl] at h1 h4 h5
  have hn := line63
  exact tail_any (typeIs_str s z t) slot_str_getitem.lookup (getItem_str (c := c) (by
    have e1 : decide (i < -(2 ^ 63 : Int)) = false := decide_eq_false (by omega)
    have e2 : decide (i ≥ 2 ^ 63) = false := decide_eq_false (by omega)
    rw [e1, e2, Bool.or_false]) (by rw [h1]; simpa using h2) ⟨.str ⟨#[c]⟩, H, I.tok _, ⟨_, rfl⟩, q⟩) hs
/-- list, tuple or str -/
def rIx (K : PySem.W.Frag) : R2 := fun x y H Q => rIxL K x y H Q ∨ rIxT K x y H Q ∨ rIxS x y H Q
theorem ix_seq : IxR X (rIx X.K) := ix_list.or (ix_tup.or ix_str)

/-! ### xs[i] = v, any sign -/
/-- the list's object behind a store -/
theorem mapSeq_set (its : List Value) (n j : Nat) (u : Value) : Obj.mapSeq (·.setIfInBounds j u) { cls := .type "list", data := .seq its.toArray n } = { cls := .type "list", data := .seq (its.set j u).toArray n } := by
  simp [Obj.mapSeq]
theorem Inv.lst {pins : List (Addr × Obj)} {σ : St} {H : Hp} {s : Shared} {p : Addr} {xs : List V} (I : Inv X pins σ H s) (h : H p = some (.lst xs)) :
    ∃ (its : List Value) (n : Nat), Vals xs its ∧ s.heap.get? p = some { cls := .type "list", data := .seq its.toArray n } ∧ xs.length ≤ sizeLine := by
  obtain ⟨z, its, n, r, e⟩ := I.hok p _ h
  exact ⟨its, n, r, e, z⟩
/-- the list at p is written by an update of its object -/
theorem Inv.lstUpd {pins : List (Addr × Obj)} {σ : St} {H : Hp} {s : Shared} {p : Addr} {xs ys : List V} {its its' : List Value} {n n' : Nat} {f : Obj → Obj} (I : Inv X pins σ H s) (h : H p = some (.lst xs))
    (ho : s.heap.get? p = some { cls := .type "list", data := .seq its.toArray n }) (hf : f { cls := .type "list", data := .seq its.toArray n } = { cls := .type "list", data := .seq its'.toArray n' }) (r : Vals ys its') (hz : ys.length ≤ sizeLine) (t : Nat) :
    Inv X pins σ (upd H p (.lst ys)) { s with heap := s.heap.update p f, toks := t } := by
  have e : (s.heap.update p f).get? p = some { cls := .type "list", data := .seq its'.toArray n' } := by
    rw [Heap.get?_update_self f ho (by rw [hf] <;> rfl), hf]
  refine I.write (x := p) (e := p) (by rw [h]; trivial) (.inl rfl) (fun b u hb q => (Heap.get?_update_other _ _ (Ne.symm hb)).trans q) ⟨_, e⟩ ?_
  exact ⟨hz, its', n', r, e⟩
def rSetL : V → V → V → Hp → (Hp → Prop) → Prop := fun o i v H Q => ∃ p xs k j, o = .ref p ∧ i = .int k ∧ H p = some (.lst xs) ∧ ixN xs.length k = some j ∧ Q (upd H p (.lst (xs.set j v)))
theorem set_list : PSet X rSetL := by
  intro pins s σ H o i v ov iv u Q I ro ri rv h
  obtain ⟨p, xs, k, j, rfl, rfl, hp, hj, q⟩ := h
  cases ro
  obtain ⟨t, rfl⟩ := ri
  obtain ⟨its, n, r, ho, hz⟩ := I.lst hp
  obtain ⟨h1, h2, h3, h4⟩ := ixN_seq hj
  have hl := r.length
  have hn := line63
  have I' : Inv X pins σ (upd H p (.lst (xs.set j v))) { s with heap := s.heap.update p (Obj.mapSeq (·.setIfInBounds j u)) } :=
    I.lstUpd hp ho (mapSeq_set its n j u) (r.set rv j) (by rw [List.length_set]; exact hz) s.toks
  by_cases h0 : 0 ≤ k
  · have hk : k.toNat = j := by
      rw [seqIndex_of h0 h4] at h1
      exact Option.some.inj h1
    exact PySem.W.ki_setAt ho h0 (by omega) (by rw [List.size_toArray, ← hl]; exact h4) (by rw [hk]; exact ⟨_, I', q⟩)
  · have hk : (k + (its.toArray.size : Int)).toNat = j := by
      rw [seqIndex_neg (by omega) h3] at h1
      rw [List.size_toArray, ← hl]
      exact Option.some.inj h1
    exact PySem.W.ki_setBack ho (by omega) (by rw [List.size_toArray, ← hl]; exact h3) (by omega) (by rw [hk]; exact ⟨_, I', q⟩)

/-! ### slices -/
theorem slice_bounds (lo hi : Option Int) (n : Nat) : (sliceBounds lo hi none n).1 = ((HT.sIx n 0 lo : Nat) : Int) ∧ (sliceBounds lo hi none n).2.1 = ((HT.sIx n n hi : Nat) : Int) ∧ (sliceBounds lo hi none n).2.2 = 1 := by
  refine ⟨?_, ?_, rfl⟩
  · cases lo with
    | none => simp [sliceBounds, HT.sIx]
    | some i =>
      simp only [sliceBounds, HT.sIx, Option.getD_none, show (1 : Int) > 0 by decide, if_true]
      by_cases h : i < 0
      · simp only [h, if_true] <;> omega
      · simp only [h, if_false] <;> omega
  · cases hi with
    | none => simp [sliceBounds, HT.sIx]
    | some i =>
      simp only [sliceBounds, HT.sIx, Option.getD_none, show (1 : Int) > 0 by decide, if_true]
      by_cases h : i < 0
      · simp only [h, if_true] <;> omega
      · simp only [h, if_false] <;> omega
theorem slicePick_cut (its : List Value) (lo hi : Option Int) : slicePick its.toArray lo hi none = ((its.drop (HT.sIx its.length 0 lo)).take (HT.sIx its.length its.length hi - HT.sIx its.length 0 lo)).toArray := by
  obtain ⟨h1, h2, h3⟩ := slice_bounds lo hi its.toArray.size
  unfold slicePick
  rw [h1, h2, h3]
  simp only [sliceRange_one, pick_run, List.size_toArray] <;> rfl
/-- xs[lo:hi] of a list: a new list -/
def rSlL (K : PySem.W.Frag) : V → Option Int → Option Int → Hp → VK → Prop := fun x lo hi H Q => ∃ a xs, x = .ref a ∧ SqL K H a xs ∧ ∀ p, H p = none → Q (.ref p) (upd H p (.lst (cutV xs lo hi)))
theorem sl_list : SlR X (rSlL X.K) := by
  intro pins s σ H x v vl vu lo hi sl Q I rx hs pl pu h
  obtain ⟨a, xs, rfl, hx, q⟩ := h
  cases rx
  obtain ⟨its, r, ht, hz⟩ := I.list hx
  have hlen := r.length
  refine ⟨"list", _, slot_list_getitem.lookup, ht.isList.typeIs, ?_⟩
  refine wpAny_getItem_list_slice ht.isList hs pl pu .none (by simp) ?_ (by rw [List.size_toArray] <;> omega)
  rw [slicePick_cut, ← hlen]
  refine ⟨.ref s.heap.objs.size, _, I.laid (t' := s.toks) (o := .lst (cutV xs lo hi)) (fun b ob q => Heap.get?_push_of_some _ q) (Nat.le_refl _) ?_, rfl, q _ (I.hok.fresh (Nat.le_refl _))⟩
  exact ⟨Nat.le_trans (cutV_length xs lo hi) hz, _, 0, (r.drop (HT.sIx xs.length 0 lo)).take (HT.sIx xs.length xs.length hi - HT.sIx xs.length 0 lo), Heap.get?_push_size _ rfl⟩

/-! ### in, not in: flat items -/
def flatV : V → Bool
  | .non => true
  | .bl _ => true
  | .int _ => true
  | .str _ => true
  | _ => false
/-- == of flat values -/
def eqV : V → V → Bool
  | .non, .non => true
  | .bl a, .bl b => a == b
  | .bl a, .int b => (if a then 1 else 0) == b
  | .int a, .bl b => a == (if b then 1 else 0)
  | .int a, .int b => a == b
  | .str a, .str b => a == b
  | _, _ => false
theorem eqAt_V {A : Around} {s : Shared} {y x : V} {u v : Value} (ry : RelV y u) (rx : RelV x v) (fy : flatV y = true) (fx : flatV x = true) : SeqAt.EqAt A s u v (eqV y x) := by
  cases y with
  | non =>
    cases ry
    cases x with
    | non => cases rx; exact SeqAt.EqAt.same _
    | bl b => cases rx; exact SeqAt.EqAt.none_bool b
    | int b => obtain ⟨t, rfl⟩ := rx; exact SeqAt.EqAt.none_int b t
    | str b => obtain ⟨t, rfl⟩ := rx; exact SeqAt.EqAt.none_str b t
    | _ => exact absurd (show false = true from fx) Bool.false_ne_true
  | bl a =>
    cases ry
    cases x with
    | non => cases rx; exact SeqAt.EqAt.bool_none a
    | bl b => cases rx; exact SeqAt.EqAt.bool_bool a b
    | int b => obtain ⟨t, rfl⟩ := rx; exact SeqAt.EqAt.bool_int a b t
    | str b => obtain ⟨t, rfl⟩ := rx; exact SeqAt.EqAt.bool_str a b t
    | _ => exact absurd (show false = true from fx) Bool.false_ne_true
  | int a =>
    obtain ⟨t', rfl⟩ := ry
    cases x with
    | non => cases rx; exact SeqAt.EqAt.int_none a t'
    | bl b => cases rx; exact SeqAt.EqAt.int_bool a t' b
    | int b => obtain ⟨t, rfl⟩ := rx; exact SeqAt.EqAt.int_int a t' b t
    | str b => obtain ⟨t, rfl⟩ := rx; exact SeqAt.EqAt.int_str a t' b t
    | _ => exact absurd (show false = true from fx) Bool.false_ne_true
  | str a =>
    obtain ⟨t', rfl⟩ := ry
    cases x with
    | non => cases rx; exact SeqAt.EqAt.str_none a t'
    | bl b => cases rx; exact SeqAt.EqAt.str_bool a t' b
    | int b => obtain ⟨t, rfl⟩ := rx; exact SeqAt.EqAt.str_int a t' b t
    | str b => obtain ⟨t, rfl⟩ := rx; exact SeqAt.EqAt.str_str a t' b t
    | _ => exact absurd (show false = true from fx) Bool.false_ne_true
  | _ => exact absurd (show false = true from fy) Bool.false_ne_true
/-- the items' answers, read off the values (a value's own answer does not lean on its token) -/
def eqU (x : V) (u : Value) : Bool := match u with
  | .none => eqV .non x
  | .bool b => eqV (.bl b) x
  | .int i _ => eqV (.int i) x
  | .str z _ => eqV (.str z) x
  | _ => false
theorem eqU_of {x y : V} {u : Value} (r : RelV y u) (f : flatV y = true) : eqU x u = eqV y x := by
  cases y with
  | non => cases r; rfl
  | bl b => cases r; rfl
  | int i => obtain ⟨t, rfl⟩ := r; rfl
  | str z => obtain ⟨t, rfl⟩ := r; rfl
  | _ => exact absurd (show false = true from f) Bool.false_ne_true
theorem any_eqU {x : V} : ∀ {xs : List V} {us : List Value}, Vals xs us → xs.all flatV = true → us.any (eqU x) = xs.any fun y => eqV y x
  | _, _, .nil, _ => rfl
  | y :: xs, u :: us, .cons r t, f => by
    rw [List.all_cons, Bool.and_eq_true] at f
    rw [List.any_cons, List.any_cons, eqU_of r f.1, any_eqU t f.2]
theorem mem_eqAt {A : Around} {s : Shared} {x : V} {v : Value} (rx : RelV x v) (fx : flatV x = true) : ∀ {xs : List V} {us : List Value}, Vals xs us → xs.all flatV = true → ∀ u ∈ us, SeqAt.EqAt A s u v (eqU x u)
  | _, _, .nil, _ => fun u hu => by cases hu
  | y :: xs, u :: us, .cons r t, f => fun u' hu => by
    rw [List.all_cons, Bool.and_eq_true] at f
    rcases List.mem_cons.mp hu with rfl | hu
    · rw [eqU_of r f.1]; exact eqAt_V r rx f.1 fx
    · exact mem_eqAt rx fx t f.2 u' hu
def inV (x : V) (xs : List V) : Bool := xs.any fun y => eqV y x
/-- x in a list or tuple of flat items -/
def rIn (K : PySem.W.Frag) (neg : Bool) : R2 := fun x y H Q => ∃ p xs, y = .ref p ∧ (SqL K H p xs ∨ SqT K H p xs) ∧ flatV x = true ∧ xs.all flatV = true ∧ Q (.bl (if neg then !inV x xs else inV x xs)) H
theorem op_in_seq : OpR X (compareOp .In) (rIn X.K false) := by
  intro pins s σ H x y v u Q I rx ry h
  obtain ⟨p, xs, rfl, hq, fx, fs, q⟩ := h
  cases ry
  rcases hq with hq | hq
  · obtain ⟨its, r, pl, hz⟩ := I.list hq
    refine SeqAt.in_listAt (eqU x) pl.isList (fun w hw => mem_eqAt rx fx r fs w (by simpa using hw)) ⟨.bl _, H, I, rfl, ?_⟩
    rw [show its.toArray.any (eqU x) = its.any (eqU x) by simp, any_eqU r fs]
    exact q
  · obtain ⟨its, r, pl, hz⟩ := I.tuple hq
    refine SeqAt.in_tupleAt (eqU x) pl (fun w hw => mem_eqAt rx fx r fs w (by simpa using hw)) ⟨.bl _, H, I, rfl, ?_⟩
    rw [show its.toArray.any (eqU x) = its.any (eqU x) by simp, any_eqU r fs]
    exact q
theorem op_notIn_seq : OpR X (compareOp .NotIn) (rIn X.K true) := by
  intro pins s σ H x y v u Q I rx ry h
  obtain ⟨p, xs, rfl, hq, fx, fs, q⟩ := h
  cases ry
  rcases hq with hq | hq
  · obtain ⟨its, r, pl, hz⟩ := I.list hq
    refine SeqAt.notIn_listAt (eqU x) pl.isList (fun w hw => mem_eqAt rx fx r fs w (by simpa using hw)) ⟨.bl _, H, I, rfl, ?_⟩
    rw [show its.toArray.any (eqU x) = its.any (eqU x) by simp, any_eqU r fs]
    exact q
  · obtain ⟨its, r, pl, hz⟩ := I.tuple hq
    refine SeqAt.notIn_tupleAt (eqU x) pl (fun w hw => mem_eqAt rx fx r fs w (by simpa using hw)) ⟨.bl _, H, I, rfl, ?_⟩
    rw [show its.toArray.any (eqU x) = its.any (eqU x) by simp, any_eqU r fs]
    exact q
theorem op_notIn_str : OpR X (compareOp .NotIn) (fun x y H Q => ∃ i j, x = .str i ∧ y = .str j ∧ Q (.bl (!(!(Builtin.Str.occurrences j i 0 j.length 1).isEmpty))) H) := by
  intro pins s σ H x y v u Q I rx ry h
  obtain ⟨i, j, rfl, rfl, q⟩ := h
  obtain ⟨t, rfl⟩ := rx
  obtain ⟨t', rfl⟩ := ry
  exact notIn_str ⟨.bl _, H, I, rfl, q⟩

/-! ### len, list(x), tuple(x) of any list or tuple that is read -/
theorem call_len_seq : CallR X (.builtin "len") (fun xs H Q => ∃ p ys, xs = [.ref p] ∧ (SqL X.K H p ys ∨ SqT X.K H p ys) ∧ Q (.int ys.length) H) := by
  intro pins s σ H xs us Q I r h
  obtain ⟨p, ys, rfl, hq, q⟩ := h
  obtain ⟨u, rfl, rx⟩ := vals1 r
  cases rx
  have hn := line63
  rcases hq with hq | hq
  · obtain ⟨its, r', pl, hz⟩ := I.list hq
    have hlen := r'.length
    exact Calls.call_len_list pl.isList (by simp only [List.size_toArray] <;> omega) ⟨.int ys.length, H, I.tok _, ⟨s.toks + 1, by rw [List.size_toArray, hlen]⟩, q⟩
  · obtain ⟨its, r', pl, hz⟩ := I.tuple hq
    have hlen := r'.length
    exact len_tuple pl (by simp only [List.size_toArray] <;> omega) ⟨.int ys.length, H, I.tok _, ⟨s.toks + 1, by rw [List.size_toArray, hlen]⟩, q⟩
theorem call_len_str : CallR X (.builtin "len") (fun xs H Q => ∃ z, xs = [.str z] ∧ z.length ≤ sizeLine ∧ Q (.int z.length) H) := by
  intro pins s σ H xs us Q I r h
  obtain ⟨z, rfl, hz, q⟩ := h
  obtain ⟨u, rfl, t, rfl⟩ := vals1 r
  have hn := line63
  exact len_str (by omega) ⟨.int z.length, H, I.tok _, ⟨_, rfl⟩, q⟩
theorem CallR.or {f : Value} {r r' : List V → Hp → VK → Prop} (h : CallR X f r) (h' : CallR X f r') : CallR X f (fun xs H Q => r xs H Q ∨ r' xs H Q) := by
  intro pins s σ H xs us Q I rs q
  rcases q with q | q
  · exact h pins s σ H xs us Q I rs q
  · exact h' pins s σ H xs us Q I rs q
theorem call_list_of : CallR X (.type "list") (fun xs H Q => ∃ p ys, xs = [.ref p] ∧ (SqL X.K H p ys ∨ SqT X.K H p ys) ∧ ∀ l, H l = none → Q (.ref l) (upd H l (.lst ys))) := by
  intro pins s σ H xs us Q I r h
  obtain ⟨p, ys, rfl, hq, q⟩ := h
  obtain ⟨u, rfl, rx⟩ := vals1 r
  cases rx
  have fin : ∀ (its : List Value), Vals ys its → ys.length ≤ sizeLine → ∀ (h' : Heap) (c' : Nat), (∀ b o', s.heap.get? b = some o' → h'.get? b = some o') →
      h'.get? s.heap.objs.size = some { cls := .type "list", dict := none, data := .seq its.toArray c', slots := #[] } → EP X pins σ Q (.ref s.heap.objs.size) { s with heap := h' } := fun its r' hz h' c' kp e =>
    ⟨.ref s.heap.objs.size, _, I.laid (t' := s.toks) kp (Nat.le_refl _) (show ObjOk X.prog X.w _ h' _ (.lst ys) from ⟨hz, its, c', r', e⟩), rfl, q _ (I.hok.fresh (Nat.le_refl _))⟩
  rcases hq with hq | hq
  · obtain ⟨its, r', pl, hz⟩ := I.list hq
    have hlen := r'.length
    obtain ⟨o, ho, hc, n, hd⟩ := pl.isList
    exact call_list_seq p (.inl rfl) ho hc hd (fun h' c' kp e => fin its r' hz h' c' kp e) (by simp only [List.size_toArray] <;> omega)
  · obtain ⟨its, r', pl, hz⟩ := I.tuple hq
    have hlen := r'.length
    obtain ⟨o, ho, hc, n, hd⟩ := pl
    exact call_list_seq p (.inr rfl) ho hc hd (fun h' c' kp e => fin its r' hz h' c' kp e) (by simp only [List.size_toArray] <;> omega)
theorem call_tuple_of : CallR X (.type "tuple") (fun xs H Q => ∃ p ys, xs = [.ref p] ∧ ((SqL X.K H p ys ∧ ∀ l, H l = none → Q (.ref l) (upd H l (.tup ys))) ∨ (SqT X.K H p ys ∧ Q (.ref p) H))) := by
  intro pins s σ H xs us Q I r h
  obtain ⟨p, ys, rfl, h⟩ := h
  obtain ⟨u, rfl, rx⟩ := vals1 r
  cases rx
  rcases h with ⟨hq, q⟩ | ⟨hq, q⟩
  · obtain ⟨its, r', pl, hz⟩ := I.list hq
    have hlen := r'.length
    refine call_tuple_list pl.isList (fun h' kp => ?_) (by simp only [List.size_toArray] <;> omega)
    have I1 : Inv X pins σ H { s with heap := h' } := I.kept (t' := s.toks) kp
    have I2 : Inv X pins σ (upd H h'.objs.size (.tup ys)) { s with heap := h'.push { cls := .type "tuple", data := .seq its.toArray } } :=
      I1.laid (t' := s.toks) (fun b o e => Heap.get?_push_of_some _ e) (Nat.le_refl _) (show ObjOk X.prog X.w _ _ _ (.tup ys) from ⟨hz, its, r', IsTup.new _ _⟩)
    exact ⟨.ref h'.objs.size, _, I2, rfl, q _ (I1.hok.fresh (Nat.le_refl _))⟩
  · obtain ⟨its, r', pl, hz⟩ := I.tuple hq
    exact call_tuple_same pl ⟨.ref p, H, I, rfl, q⟩

/-! ### the call of a builtin's method: o.m(..) -/
/-- the value is of that builtin type -/
def tyV (K : PySem.W.Frag) (T : String) (x : V) (H : Hp) : Prop := match x with
  | .str _ => T = "str"
  | .int _ => T = "int"
  | .ref p => (T = "list" ∧ ∃ xs, SqL K H p xs) ∨ (T = "tuple" ∧ ∃ o, K.lookup p = some o ∧ o.cls = .type "tuple" ∧ o.dict = none) ∨
      (T = "dict" ∧ ((∃ kvs, H p = some (.dK kvs)) ∨ ∃ kvs, H p = some (.dT kvs))) ∨ (T = "set" ∧ ∃ S n, H p = some (.set S n))
  | _ => False
theorem tyV_is {pins : List (Addr × Obj)} {σ : St} {H : Hp} {s : Shared} {T : String} {x : V} {v : Value} (I : Inv X pins σ H s) (r : RelV x v) (ty : tyV X.K T x H) :
    s.TypeIs v T ∧ ∀ a, v = .ref a → ∃ ob, s.heap.get? a = some ob ∧ ob.dict = none := by
  cases x with
  | str z =>
    obtain ⟨t, rfl⟩ := r
    cases (show T = "str" from ty)
    exact ⟨typeIs_str s z t, fun _ e => nomatch e⟩
  | int i =>
    obtain ⟨t, rfl⟩ := r
    cases (show T = "int" from ty)
    exact ⟨typeIs_int s i t, fun _ e => nomatch e⟩
  | ref p =>
    cases r
    rcases ty with ⟨rfl, xs, hq⟩ | ⟨rfl, o, hk, hc, hd⟩ | ⟨rfl, hk⟩ | ⟨rfl, S, n, hk⟩
    · obtain ⟨its, _, pl, _⟩ := I.list hq
      refine ⟨pl.isList.typeIs, fun a e => ?_⟩
      cases e
      obtain ⟨o, n, e, c, hd, _⟩ := pl
      exact ⟨o, e, hd⟩
    · refine ⟨⟨o, I.kIn p o hk, hc⟩, fun a e => ?_⟩
      cases e
      exact ⟨o, I.kIn _ o hk, hd⟩
    · have z : ∃ o, s.heap.get? p = some o ∧ o.ExactDict := by
        rcases hk with ⟨kvs, hk⟩ | ⟨kvs, hk⟩
        · obtain ⟨_, _, _, _, o, _, _, e, ex, _⟩ := I.hok p _ hk
          exact ⟨o, e, ex⟩
        · obtain ⟨_, _, _, _, o, _, _, e, ex, _⟩ := I.hok p _ hk
          exact ⟨o, e, ex⟩
      obtain ⟨o, e, ex⟩ := z
      refine ⟨⟨o, e, ex.1⟩, fun a e2 => ?_⟩
      cases e2
      exact ⟨o, e, ex.2.1⟩
    · obtain ⟨o, _, _, _, e, ex, _⟩ := I.hok p _ hk
      refine ⟨⟨o, e, ex.1⟩, fun a e2 => ?_⟩
      cases e2
      exact ⟨o, e, ex.2.1⟩
  | _ => exact False.elim ty
def tBM0 (K : PySem.W.Frag) (T : String) (r : V → List V → Hp → VK → Prop) (to : TE) : TE := fun σ H Q => to σ H fun x H1 => tyV K T x H1 ∧ r x [] H1 Q
def tBM (K : PySem.W.Frag) (T : String) (r : V → List V → Hp → VK → Prop) (to : TE) (t : TA) : TE := fun σ H Q => to σ H fun x H1 => tyV K T x H1 ∧ t σ H1 fun xs H2 => r x xs H2 Q
variable {o e : Expr} {es : List Expr} {to : TE} {t : TA} {name : Str} {apos cpos : Pos} {T id : String} {r : V → List V → Hp → VK → Prop}
theorem pe_bm0 (pa : PlainAttrs T) (slot : Slot T name id) (hty : typeOf (.builtin id) = pure (.type "method_descriptor")) (hm : MtR X id r) (ho : PE X o to)
    (hbase : attributeBase o name X.env (eval o X.env) = eval o X.env := by rfl) (hline : (apos.endLine == cpos.line) = true := by rfl) : PE X (.Call (.Attribute o name apos) [] [] cpos) (tBM0 X.K T r to) := by
  intro pins s σ H Q I h
  refine wpAny_Call_method0_late hbase hline (thn (ho pins s σ H _ I h) fun v s1 ⟨x, H1, I1, r1, ty, q1⟩ => ?_)
  obtain ⟨h1, h2⟩ := tyV_is I1 r1 ty
  exact ⟨T, id, pa, slot, hty, h1, h2, Calls.callWith_builtin rfl (PySem.evalArgs_none (hm pins s1 σ H1 x [] v [] Q I1 r1 .nil q1))⟩
theorem pe_bm (pa : PlainAttrs T) (slot : Slot T name id) (hty : typeOf (.builtin id) = pure (.type "method_descriptor")) (hm : MtR X id r) (ho : PE X o to) (ha : PA X (e :: es) t)
    (hbase : attributeBase o name X.env (eval o X.env) = eval o X.env := by rfl)
    (hfew : ((backTo cpos (starEach (e :: es) X.env)).all (fun x => !x.1) && (backToKw cpos (keywordEach [] X.env)).all (fun x => x.1.isSome)
      && decide ((e :: es).length + ([] : List Keyword).length + (if ([] : List Keyword).isEmpty then 0 else 1) < 30)) = true := by rfl)
    (hline : (apos.endLine == cpos.line) = true := by rfl) (hs : starEach (e :: es) X.env = (false, eval e X.env) :: starEach es X.env := by rfl) (hplain : (backTo cpos (starEach es X.env)).any (·.1) = false := by rfl) :
    PE X (.Call (.Attribute o name apos) (e :: es) [] cpos) (tBM X.K T r to t) := by
  intro pins s σ H Q I h
  refine wpAny_Call_method_late hbase hfew hline rfl (thn (ho pins s σ H _ I h) fun v s1 ⟨x, H1, I1, r1, ty, q1⟩ => ?_)
  obtain ⟨h1, h2⟩ := tyV_is I1 r1 ty
  refine ⟨T, id, pa, slot, hty, h1, h2, ?_⟩
  have hA := ha cpos pins s1 σ H1 _ I1 q1
  rw [hs] at hA ⊢
  refine Calls.callWith_builtin (by show (false || (backTo cpos (starEach es X.env)).any (·.1)) = false; rw [hplain] <;> rfl) (Calls.evalArgs_plain ?_)
  exact thn hA fun us s2 ⟨vs, H2, I2, r2, q2⟩ => hm pins s2 σ H2 x vs v us Q I2 r1 r2 q2
/- xs.append(e), list.index on a module's tuple .. are MtR facts of 06m -/
end
end L2

namespace L2
open PySem PySem.Spec PyProof.Rows

def MtM (X : Cx) (id : String) (r : V → List V → Hp → VK → Prop) : Prop :=
  ∀ (pins : List (Addr × Obj)) (s : Shared) (σ : St) (H : Hp) (x : V) (xs : List V) (v : Value) (us : List Value) (Q : VK), Inv X pins σ H s → RelV x v → Vals xs us → r x xs H Q →
    wpAny (model X.prog X.w) X.A (call (.builtin id) (v :: us)) (EP X pins σ Q) X.xe s

/-! ### lists of values -/
theorem Vals.one : ∀ {x : V} {us : List Value}, Vals [x] us → ∃ u, us = [u] ∧ RelV x u
  | _, _, .cons r .nil => ⟨_, rfl, r⟩
theorem Vals.two : ∀ {x y : V} {us : List Value}, Vals [x, y] us → ∃ u v, us = [u, v] ∧ RelV x u ∧ RelV y v
  | _, _, _, .cons r (.cons q .nil) => ⟨_, _, rfl, r, q⟩
theorem Vals.zero : ∀ {us : List Value}, Vals [] us → us = []
  | _, .nil => rfl
theorem Vals.dropLast {xs : List V} {us : List Value} (h : Vals xs us) : Vals xs.dropLast us.dropLast := by
  induction h with
  | nil => exact .nil
  | cons r t ih =>
    cases t with
    | nil => exact .nil
    | cons q t' => exact .cons r ih
theorem Vals.eraseIdx : ∀ {xs : List V} {us : List Value} (i : Nat), Vals xs us → Vals (xs.eraseIdx i) (us.eraseIdx i)
  | _, _, _, .nil => .nil
  | _, _, 0, .cons _ t => t
  | _, _, i + 1, .cons r t => .cons r (Vals.eraseIdx i t)
theorem Vals.reverse {xs : List V} {us : List Value} (h : Vals xs us) : Vals xs.reverse us.reverse := by
  induction h with
  | nil => exact .nil
  | cons r t ih => rw [List.reverse_cons, List.reverse_cons]; exact Vals.append ih (.cons r .nil)
theorem Vals.rep {xs : List V} {us : List Value} (h : Vals xs us) : ∀ k : Nat, Vals (List.replicate k xs).flatten (List.replicate k us).flatten
  | 0 => .nil
  | k + 1 => by
    rw [List.replicate_succ, List.replicate_succ, List.flatten_cons, List.flatten_cons]
    exact Vals.append h (Vals.rep h k)
theorem erase_last {α : Type} (l : List α) : l.eraseIdx (l.length - 1) = l.dropLast := by
  induction l with
  | nil => rfl
  | cons a r ih =>
    cases r with
    | nil => rfl
    | cons b r =>
      have e : (a :: b :: r).length - 1 = ((b :: r).length - 1) + 1 := by
        have h1 : (a :: b :: r).length = r.length + 2 := rfl
        have h2 : (b :: r).length = r.length + 1 := rfl
        omega
      rw [e, List.eraseIdx_cons_succ, ih]
      all_goals rfl
theorem len_erase {α : Type} : ∀ (l : List α) (i : Nat), (l.eraseIdx i).length ≤ l.length
  | [], _ => Nat.le_refl _
  | _ :: _, 0 => Nat.le_succ _
  | _ :: r, i + 1 => Nat.succ_le_succ (len_erase r i)
theorem foldl_rep (its : List Value) : ∀ (k : Nat) (acc : List Value),
    List.foldl (fun x1 x2 => x1 ++ x2) acc.toArray (List.replicate k its.toArray) = (acc ++ (List.replicate k its).flatten).toArray
  | 0, acc => by simp
  | k + 1, acc => by
    have e : acc.toArray ++ its.toArray = (acc ++ its).toArray := by simp
    have e2 : (acc ++ its) ++ (List.replicate k its).flatten = acc ++ (List.replicate (k + 1) its).flatten := by
      rw [List.replicate_succ, List.flatten_cons, List.append_assoc]
    rw [← e2, ← foldl_rep its k (acc ++ its), ← e, List.replicate_succ, List.foldl_cons]

section
variable {X : Cx} {pins : List (Addr × Obj)} {σ : St} {H : Hp} {s : Shared} {l b : Addr} {xs ys zs : List V}

/-! ### the two steps: a tracked list is rewritten, a new list is laid -/
theorem Inv.lset {its its' : List Value} {n : Nat} {f : Array Value → Array Value} {t' : Nat} (I : Inv X pins σ H s) (hH : H l = some (.lst xs))
    (e : s.heap.get? l = some { cls := .type "list", data := .seq its.toArray n }) (hf : f its.toArray = its'.toArray) (hv : Vals ys its') (hz : ys.length ≤ sizeLine) :
    Inv X pins σ (upd H l (.lst ys)) { s with heap := s.heap.update l (Obj.mapSeq f), toks := t' } := by
  have q := PySem.IsL.update e f
  rw [hf] at q
  refine I.write (x := l) (e := l) (by rw [hH]; exact trivial) (.inl rfl) (fun b' u hb hu => (Heap.get?_update_other s.heap (Obj.mapSeq f) (Ne.symm hb)).trans hu) ⟨_, q⟩ ?_
  exact ⟨hz, its', _, hv, q⟩
theorem Inv.lnew {its : List Value} {t' : Nat} (I : Inv X pins σ H s) (hv : Vals ys its) (hz : ys.length ≤ sizeLine) :
    Inv X pins σ (upd H s.heap.objs.size (.lst ys)) { s with heap := s.heap.push { cls := .type "list", data := .seq its.toArray }, toks := t' } :=
  I.laid (fun _ _ q => Heap.get?_push_of_some _ q) (Nat.le_refl _) ⟨hz, its, 0, hv, Heap.get?_push_size _ rfl⟩
theorem Inv.fresh (I : Inv X pins σ H s) : H s.heap.objs.size = none := I.hok.fresh (Nat.le_refl _)
theorem Inv.lstM (I : Inv X pins σ H s) (hH : H l = some (.lst xs)) : xs.length ≤ sizeLine ∧ ∃ (its : List Value) (n : Nat), Vals xs its ∧ xs.length = its.length ∧ s.heap.get? l = some { cls := .type "list", data := .seq its.toArray n } := by
  obtain ⟨z, its, n, r, e⟩ := I.hok l _ hH
  exact ⟨z, its, n, r, r.length, e⟩

theorem notLongL {n : Nat} (h : n ≤ sizeLine) : Builtin.List.listTooLong n = false := by
  unfold Builtin.List.listTooLong
  exact decide_eq_false (by omega)
end

section
variable {X : Cx}

/-! ### methods -/
def rAppend : V → List V → Hp → VK → Prop := fun x vs H Q => ∃ l xs y, x = .ref l ∧ vs = [y] ∧ H l = some (.lst xs) ∧ xs.length < sizeLine ∧ Q .non (upd H l (.lst (xs ++ [y])))
theorem mt_append : MtM X "list.append" rAppend := by
  intro pins s σ H x vs v us Q I rx rv h
  obtain ⟨l, xs, y, rfl, rfl, hH, hz, q⟩ := h
  cases rx
  obtain ⟨u, rfl, ru⟩ := rv.one
  obtain ⟨z, its, n, r, hl, e⟩ := I.lstM hH
  refine call_meets F.slot_list_append ⟨_, e, rfl⟩ F.entry_list_append (F.args_list_append_2 _ _) (PySem.list_append l its.toArray n u (by rw [List.size_toArray]; omega)) ⟨e, ?_⟩
  refine ⟨.non, _, I.lset (its' := its ++ [u]) hH e (by simp) (r.append (.cons ru .nil)) ?_, rfl, q⟩
  rw [List.length_append, List.length_singleton]
  omega

def rExtend : V → List V → Hp → VK → Prop := fun x vs H Q => ∃ l b xs zs, x = .ref l ∧ vs = [.ref b] ∧ H l = some (.lst xs) ∧ H b = some (.lst zs) ∧ xs.length + zs.length ≤ sizeLine ∧ Q .non (upd H l (.lst (xs ++ zs)))
theorem mt_extend : MtM X "list.extend" rExtend := by
  intro pins s σ H x vs v us Q I rx rv h
  obtain ⟨l, b, xs, zs, rfl, rfl, hH, hB, hz, q⟩ := h
  cases rx
  obtain ⟨u, rfl, ru⟩ := rv.one
  cases ru
  obtain ⟨z, its, n, r, hl, e⟩ := I.lstM hH
  obtain ⟨z2, its2, n2, r2, hl2, e2⟩ := I.lstM hB
  have hsz : its.toArray.size + its2.toArray.size ≤ sizeLine := by rw [List.size_toArray, List.size_toArray]; omega
  have hlong : ¬ (!its.toArray.isEmpty && Builtin.List.listTooLong (its.toArray.size + its2.toArray.size)) = true := by
    rw [notLongL hsz, Bool.and_false]
    exact Bool.false_ne_true
  refine call_meets F.slot_list_extend ⟨_, e, rfl⟩ F.entry_list_extend (F.args_list_extend_2 _ _)
    (AutoSeq1.list_extend_list_list_0 l its.toArray n b its2.toArray n2 hlong (by rw [List.size_toArray]; omega) (by omega)) ⟨e, e2, ?_⟩
  refine ⟨.non, _, I.lset (its' := its ++ its2) hH e (by simp) (r.append r2) ?_, rfl, q⟩
  rw [List.length_append]
  omega

def rPop : V → List V → Hp → VK → Prop := fun x vs H Q => ∃ l xs y, x = .ref l ∧ vs = [] ∧ H l = some (.lst xs) ∧ xs[xs.length - 1]? = some y ∧ Q y (upd H l (.lst xs.dropLast))
theorem mt_pop : MtM X "list.pop" rPop := by
  intro pins s σ H x vs v us Q I rx rv h
  obtain ⟨l, xs, y, rfl, rfl, hH, hy, q⟩ := h
  cases rx
  have hus := rv.zero
  subst hus
  obtain ⟨z, its, n, r, hl, e⟩ := I.lstM hH
  obtain ⟨u, hu, ru⟩ := r.get hy
  have hy' : its.toArray[its.toArray.size - 1]? = some u := by
    show its.toArray[its.length - 1]? = some u
    rw [← Array.getElem?_toList, ← hl]
    exact hu
  refine call_meets F.slot_list_pop ⟨_, e, rfl⟩ F.entry_list_pop (F.args_list_pop_1 _) (MeetsSeq.list_pop_last l its.toArray n u hy' (by rw [List.size_toArray]; omega)) ⟨e, ?_⟩
  refine ⟨y, _, I.lset (its' := its.dropLast) hH e ?_ r.dropLast ?_, ru, q⟩
  · show its.toArray.eraseIdxIfInBounds (its.toArray.size - 1) = its.dropLast.toArray
    rw [List.size_toArray, List.eraseIdxIfInBounds_toArray, erase_last]
  · rw [List.length_dropLast]
    omega

def rPopAt : V → List V → Hp → VK → Prop := fun x vs H Q => ∃ l xs i k y, x = .ref l ∧ vs = [.int i] ∧ H l = some (.lst xs) ∧ -(2 ^ 63) ≤ i ∧ i < 2 ^ 63 ∧ seqIndex? i xs.length = some k ∧ xs[k]? = some y ∧ Q y (upd H l (.lst (xs.eraseIdx k)))
theorem mt_popAt : MtM X "list.pop" rPopAt := by
  intro pins s σ H x vs v us Q I rx rv h
  obtain ⟨l, xs, i, k, y, rfl, rfl, hH, h1, h2, hk, hy, q⟩ := h
  cases rx
  obtain ⟨u, rfl, ru⟩ := rv.one
  obtain ⟨t, rfl⟩ := ru
  obtain ⟨z, its, n, r, hl, e⟩ := I.lstM hH
  obtain ⟨w, hw, rw'⟩ := r.get hy
  refine call_meets F.slot_list_pop ⟨_, e, rfl⟩ F.entry_list_pop (F.args_list_pop_2 _ _)
    (MeetsSeq.list_pop_at l its.toArray n i t k w (fitsIndex_both h1 h2) (by rw [List.size_toArray, ← hl]; exact hk) (by rw [← Array.getElem?_toList]; exact hw) (by rw [List.size_toArray]; omega)) ⟨e, ?_⟩
  refine ⟨y, _, I.lset (its' := its.eraseIdx k) hH e ?_ (r.eraseIdx k) ?_, rw', q⟩
  · show its.toArray.eraseIdxIfInBounds k = (its.eraseIdx k).toArray
    rw [List.eraseIdxIfInBounds_toArray]
  · have := len_erase xs k
    omega

def rReverse : V → List V → Hp → VK → Prop := fun x vs H Q => ∃ l xs, x = .ref l ∧ vs = [] ∧ H l = some (.lst xs) ∧ Q .non (upd H l (.lst xs.reverse))
theorem mt_reverse : MtM X "list.reverse" rReverse := by
  intro pins s σ H x vs v us Q I rx rv h
  obtain ⟨l, xs, rfl, rfl, hH, q⟩ := h
  cases rx
  have hus := rv.zero
  subst hus
  obtain ⟨z, its, n, r, hl, e⟩ := I.lstM hH
  refine call_meets F.slot_list_reverse ⟨_, e, rfl⟩ F.entry_list_reverse (F.args_list_reverse_1 _) (AutoSeq1.list_reverse_list_0 l its.toArray n (by rw [List.size_toArray]; omega)) ⟨e, ?_⟩
  refine ⟨.non, _, I.lset (its' := its.reverse) hH e (by simp) r.reverse ?_, rfl, q⟩
  rw [List.length_reverse]
  omega

def rClear : V → List V → Hp → VK → Prop := fun x vs H Q => ∃ l xs, x = .ref l ∧ vs = [] ∧ H l = some (.lst xs) ∧ Q .non (upd H l (.lst []))
theorem mt_clear : MtM X "list.clear" rClear := by
  intro pins s σ H x vs v us Q I rx rv h
  obtain ⟨l, xs, rfl, rfl, hH, q⟩ := h
  cases rx
  have hus := rv.zero
  subst hus
  obtain ⟨z, its, n, r, hl, e⟩ := I.lstM hH
  refine call_meets F.slot_list_clear ⟨_, e, rfl⟩ F.entry_list_clear (F.args_list_clear_1 _) (AutoSeq1.list_clear_list_0 l its.toArray n (by rw [List.size_toArray]; omega)) ⟨e, ?_⟩
  exact ⟨.non, _, I.lset (its' := []) (ys := []) hH e rfl .nil (Nat.zero_le _), rfl, q⟩

/-! ### list + list, list += list, list * int -/
def rCat : R2 := fun x y H Q => ∃ l b xs zs, x = .ref l ∧ y = .ref b ∧ H l = some (.lst xs) ∧ H b = some (.lst zs) ∧ xs.length + zs.length ≤ sizeLine ∧ ∀ p, H p = none → Q (.ref p) (upd H p (.lst (xs ++ zs)))
theorem op_cat : OpR X (binaryOp .Add) rCat := by
  intro pins s σ H x y v u Q I rx ry h
  obtain ⟨l, b, xs, zs, rfl, rfl, hH, hB, hz, q⟩ := h
  cases rx
  cases ry
  obtain ⟨z, its, n, r, hl, e⟩ := I.lstM hH
  obtain ⟨z2, its2, n2, r2, hl2, e2⟩ := I.lstM hB
  refine PySem.P.add_list e e2 ?_ (by rw [List.size_toArray, List.size_toArray]; omega)
  have ea : its.toArray ++ its2.toArray = (its ++ its2).toArray := by simp
  rw [ea]
  exact ⟨.ref _, _, I.lnew (t' := s.toks) (r.append r2) (by rw [List.length_append]; omega), rfl, q _ I.fresh⟩
/-- a list times an int (a negative one is nothing) -/
def rRep : R2 := fun x y H Q => ∃ l k xs, x = .ref l ∧ y = .int k ∧ H l = some (.lst xs) ∧ -(2 ^ 63) ≤ k ∧ k < 2 ^ 63 ∧ xs.length * k.toNat ≤ sizeLine ∧
  ∀ p, H p = none → Q (.ref p) (upd H p (.lst (List.replicate k.toNat xs).flatten))
theorem len_rep {α : Type} (xs : List α) (k : Nat) : (List.replicate k xs).flatten.length = k * xs.length := by
  induction k with
  | zero => simp
  | succ k ih => rw [List.replicate_succ, List.flatten_cons, List.length_append, ih, Nat.succ_mul, Nat.add_comm]
theorem op_rep : OpR X (binaryOp .Mult) rRep := by
  intro pins s σ H x y v u Q I rx ry h
  obtain ⟨l, k, xs, rfl, rfl, hH, h1, h2, hz, q⟩ := h
  cases rx
  obtain ⟨t, rfl⟩ := ry
  obtain ⟨z, its, n, r, hl, e⟩ := I.lstM hH
  have hlen : its.toArray.size * k.toNat ≤ sizeLine := by rw [List.size_toArray, ← hl]; exact hz
  have hcap : ¬ its.toArray.size * k.toNat > (2 ^ 63 - 1) / 8 := by
    have : (sizeLine : Nat) ≤ (2 ^ 63 - 1) / 8 := by decide
    omega
  have hfit : ¬ (!Builtin.List.listFitsIndex k) = true := by
    rw [fitsIndex_both h1 h2]
    exact Bool.false_ne_true
  have hlong : ¬ Builtin.List.listTooLong (its.toArray.size * k.toNat) = true := by
    rw [notLongL hlen]
    exact Bool.false_ne_true
  have hnew : List.foldl (fun x1 x2 => x1 ++ x2) #[] (List.replicate (if its.toArray.isEmpty = true then 0 else k.toNat) its.toArray) = (List.replicate k.toNat its).flatten.toArray := by
    have f0 : ∀ m : Nat, List.foldl (fun x1 x2 => x1 ++ x2) #[] (List.replicate m its.toArray) = (List.replicate m its).flatten.toArray := fun m => by
      have := foldl_rep its m []
      rw [List.nil_append] at this
      exact this
    rw [f0]
    cases its with
    | nil => simp
    | cons a r' => rw [if_neg (by simp)]
  refine wpAny_binaryOp_repeat_ref (T := "list") (U := "int") (by decide) ⟨_, e, rfl⟩ (fun s' => typeIs_int s' k t) noFill_list_mul F.fills_int_mul F.slot_int_rmul repeat_list F.slot_int_index.lookup
    (call_meets F.slot_int_rmul (typeIs_int s k t) F.entry_int_rmul (F.args_int_rmul_2 _ _) (int___rmul___int_list k t l its.toArray n)
      ⟨e, rfl, ⟨_, e, rfl⟩, call_meets F.slot_list_mul ⟨_, e, rfl⟩ F.entry_list_mul (F.args_list_mul_2 _ _) (AutoListH.list___mul___list_int_3 l its.toArray n k t hfit hcap hlong) ⟨e, ?_⟩⟩)
  rw [hnew]
  exact ⟨.ref _, _, I.lnew (t' := s.toks) (r.rep k.toNat) (by rw [len_rep, Nat.mul_comm]; exact hz), rfl, q _ I.fresh⟩

/-! ### del xs[i] -/
theorem del_list {pins : List (Addr × Obj)} {s : Shared} {σ : St} {H : Hp} {l : Addr} {xs : List V} {i : Int} {t : Tok} {k : Nat} {Q : Unit → Shared → Prop} (I : Inv X pins σ H s) (hH : H l = some (.lst xs))
    (h1 : -(2 ^ 63) ≤ i) (h2 : i < 2 ^ 63) (hk : seqIndex? i xs.length = some k) (h : ∀ s', Inv X pins σ (upd H l (.lst (xs.eraseIdx k))) s' → Q () s') :
    wpAny (model X.prog X.w) X.A (delItem (.ref l) (.int i t)) Q X.xe s := by
  obtain ⟨z, its, n, r, hl, e⟩ := I.lstM hH
  refine PySem.P.delItem_list (k := k) e (fitsIndex_both h1 h2) (by rw [List.size_toArray, ← hl]; exact hk) (h _ ?_) (by rw [List.size_toArray]; omega)
  refine I.lset (its' := its.eraseIdx k) (t' := s.toks) hH e ?_ (r.eraseIdx k) ?_
  · show its.toArray.eraseIdxIfInBounds k = (its.eraseIdx k).toArray
    rw [List.eraseIdxIfInBounds_toArray]
  · have := len_erase xs k
    omega
end

/-! ### xs[a:b] = ys -/
section
variable {prog : Program} {w : World} {A : Around} {E : Value → Shared → Prop} {s : Shared}
theorem splice_eq (its its2 : List Value) (a c : Nat) : its.toArray.extract 0 a ++ its2.toArray ++ its.toArray.extract c its.toArray.size = (its.take a ++ its2 ++ its.drop c).toArray := by
  apply Array.toList_inj.mp
  first
    | (simp
       exact List.take_of_length_le (by simp))
    | simp [List.take_of_length_le]
    | simp
theorem bounds_run {a c n : Nat} (hac : a ≤ c) (hc : c ≤ n) : sliceBounds (some (a : Int)) (some (c : Int)) none n = ((a : Int), (c : Int), 1) := by
  simp only [sliceBounds, Option.getD_none]
  have h1 : ¬ ((a : Int) < 0) := by omega
  have h2 : ¬ ((c : Int) < 0) := by omega
  simp only [h1, h2, if_false, show (1 : Int) > 0 by decide, if_true]
  congr 1
  · omega
  · congr 1; omega
set_option maxRecDepth 100000 in
/-- list.__setitem__ with a slice of step one and another list -/
theorem setItem_slice {l b sl : Addr} {items new : Array Value} {n n2 : Nat} {vl vu : Value} {a c : Nat} {Q : Unit → Shared → Prop}
    (e : s.heap.get? l = some { cls := .type "list", data := .seq items n }) (e2 : s.heap.get? b = some { cls := .type "list", data := .seq new n2 }) (hne : l ≠ b)
    (hs : s.heap.IsSliceOf sl vl vu .none) (pl : IsPart vl (some (a : Int))) (pu : IsPart vu (some (c : Int))) (hac : a ≤ c) (hc : c ≤ items.size)
    (hsz : items.size + new.size ≤ sizeLine) (h : Q () { s with heap := s.heap.update l (Obj.mapSeq fun xs => xs.extract 0 a ++ new ++ xs.extract c xs.size) }) :
    wpAny (model prog w) A (setItem (.ref l) (.ref sl) (.ref b)) Q E s := by
  have hl : s.heap.IsList l items := PySem.IsL.isList e
  have hb : s.heap.IsList b new := PySem.IsL.isList e2
  obtain ⟨os, hos, hcs, hds⟩ := id hs
  have hTs : s.TypeIs (.ref sl) "slice" := ⟨os, hos, hcs⟩
  have hstep : ¬ ((rawPart none == rawInt 0) = true) := Bool.false_ne_true
  have hsame : Builtin.List.listSameRef (.ref l) (.ref b) = false := by
    unfold Builtin.List.listSameRef
    exact beq_eq_false_iff_ne.mpr hne
  have hmax : (max (a : Int) (c : Int)).toNat = c := by omega
  have hz' : ((fun xs : Array Value => xs.extract 0 a ++ new ++ xs.extract c xs.size) items).size ≤ sizeLine + 1 := by
    simp only [Array.size_append, Array.size_extract]
    omega
  unfold setItem
  try with_reducible refine wpAny_holding ?_
  first | refine wpAny_bind (wpAny_pure ?_) | skip
  refine wpAny_bind (wpAny_sequenceKey hl.typeIs (by decide) ?_)
  refine wpAny_bind (wpAny_callSpecial?_slot (name := Str.ofString "__setitem__") hl.typeIs slot_list_setitem
    (wpAny_call_entry slot_list_setitem hl.typeIs entry_list_setitem ?_ (args_list_setitem _ _ _)))
  show wpAny _ _ (Builtin.List.listSubscript? (.ref sl) >>= _) _ _ s
  refine wpAny_bind ?_
  unfold Builtin.List.listSubscript?
  refine wpAny_bind (wpAny_specialOf hTs slice_no_index ?_)
  simp only [Option.isNone_none, if_true]
  refine wpAny_pure ?_
  show wpAny _ _ (typeOf (.ref sl) >>= _) _ _ s
  refine wpAny_bind (wpAny_typeOf hTs ?_)
  first
    | rw [if_neg (by decide)]
    | refine PySem.W.KFB.if_not (by decide) ?_
  rw [listSliceParts_eq]
  refine wpAny_bind (wpAny_bind (wpAny_field hos hds (x := .none) rfl (wpAny_bind (wpAny_listPart .none ?_))))
  rw [if_neg hstep]
  refine wpAny_bind (wpAny_field hos hds (x := vl) rfl (wpAny_bind (wpAny_listPart pl ?_)))
  refine wpAny_bind (wpAny_field hos hds (x := vu) rfl (wpAny_bind (wpAny_listPart pu (wpAny_pure ?_))))
  first
    | simp only [hsame, Bool.false_eq_true, if_false]
    | refine PySem.W.KFB.if_not hsame ?_
    | (dsimp only
       rw [if_neg (by rw [hsame]; exact Bool.false_ne_true)])
  refine wpAny_bind (m := Builtin.List.listAllItems (.ref b) "must assign iterable to extended slice") ?_
  unfold Builtin.List.listAllItems
  refine wpAny_bind (wpAny_typeOf hb.typeIs ?_)
  first
    | refine PySem.W.KFB.if_so (by decide) ?_
    | rw [if_pos (by decide)]
    | simp only [beq_self_eq_true, Bool.true_or, if_true]
  unfold Builtin.List.listItems
  refine wpAny_bind (wpAny_seqItems e2 rfl (wpAny_pure ?_))
  refine wpAny_bind (wpAny_bind (wpAny_seqItems e rfl (wpAny_pure ?_)))
  refine wpAny_bind (wpAny_of_eq ((sliceIndices_raw (some (a : Int)) (some (c : Int)) none items.size (by simp)).trans (congrArg (pure : Int × Int × Int → Sem (Int × Int × Int)) (bounds_run hac hc))) ?_)
  show wpAny _ _ (if ((1 : Int) == 1) = true then _ else _) _ _ s
  rw [if_pos (by decide)]
  refine wpAny_bind (wpAny_rule ?_)
  first
    | simp only [notLongL hsz, Bool.false_eq_true, if_false]
    | refine PySem.W.KFB.if_not (notLongL hsz) ?_
  first | refine wpAny_bind (wpAny_pure ?_) | skip
  show wpAny _ _ (updateSeq l (fun xs => xs.extract 0 ((a : Int)).toNat ++ new ++ xs.extract (max (a : Int) (c : Int)).toNat xs.size) >>= _) _ _ s
  rw [hmax, Int.toNat_natCast]
  refine wpAny_bind (wpAny_updateSeq (hz := Nat.le_trans (Nat.le_add_right _ _) hsz) (_hz' := hz') e rfl ?_)
  refine wpAny_bind (wpAny_letGo ?_)
  first
    | exact wpAny_bind (wpAny_pure (wpAny_pure ⟨.none, rfl, wpAny_pure h⟩))
    | exact wpAny_pure ⟨.none, rfl, wpAny_pure h⟩
end

section
variable {X : Cx}
/-- xs[a:c] = ys of another list, at the value level: sl is the slice object that was just made -/
theorem set_slice {pins : List (Addr × Obj)} {s : Shared} {σ : St} {H : Hp} {l b sl : Addr} {xs ys : List V} {a c : Int} {vl vu : Value} {Q : Unit → Shared → Prop} (I : Inv X pins σ H s)
    (hH : H l = some (.lst xs)) (hB : H b = some (.lst ys)) (hne : l ≠ b) (hs : s.heap.IsSliceOf sl vl vu .none) (ra : RelV (.int a) vl) (rc : RelV (.int c) vu) (h0 : 0 ≤ a) (hac : a ≤ c) (hc : c ≤ xs.length)
    (hz : xs.length + ys.length ≤ sizeLine) (h : ∀ s', Inv X pins σ (upd H l (.lst (xs.take a.toNat ++ ys ++ xs.drop c.toNat))) s' → Q () s') :
    wpAny (model X.prog X.w) X.A (setItem (.ref l) (.ref sl) (.ref b)) Q X.xe s := by
  obtain ⟨ta, rfl⟩ := ra
  obtain ⟨tc, rfl⟩ := rc
  obtain ⟨z, its, n, r, hl, e⟩ := I.lstM hH
  obtain ⟨z2, its2, n2, r2, hl2, e2⟩ := I.lstM hB
  obtain ⟨a', rfl⟩ := Int.eq_ofNat_of_zero_le h0
  obtain ⟨c', rfl⟩ := Int.eq_ofNat_of_zero_le (Int.le_trans h0 hac)
  simp only [Int.toNat_natCast] at h
  refine setItem_slice (a := a') (c := c') e e2 hne hs (.int _ _) (.int _ _) (by omega) (by rw [List.size_toArray]; omega) (by rw [List.size_toArray, List.size_toArray]; omega) (h _ ?_)
  refine I.lset (its' := its.take a' ++ its2 ++ its.drop c') (t' := s.toks) hH e ?_ (Vals.append (Vals.append (r.take _) r2) (r.drop _)) ?_
  · exact splice_eq its its2 a' c'
  · rw [List.length_append, List.length_append, List.length_take, List.length_drop]
    omega
end
end L2

namespace L2
open PySem PySem.Spec PyProof.Rows

/-! ### lists of pairs as tables -/
section
variable {κ : Type} [DecidableEq κ]
def valV (kvs : List (κ × V)) (k : κ) : Option V := (kvs.find? fun kv => decide (kv.1 = k)).map (·.2)
/-- in its place, or at the end -/
def putK (kvs : List (κ × V)) (k : κ) (v : V) : List (κ × V) :=
  if (kvs.any fun kv => decide (kv.1 = k)) = true then kvs.map (fun kv => if kv.1 = k then (kv.1, v) else kv) else kvs ++ [(k, v)]
def dropK (kvs : List (κ × V)) (k : κ) : List (κ × V) := kvs.filter fun kv => decide (kv.1 ≠ k)

theorem valV_nil {k : κ} : valV ([] : List (κ × V)) k = none := rfl
theorem valV_pos {p : κ × V} {r : List (κ × V)} {k : κ} (e : p.1 = k) : valV (p :: r) k = some p.2 := by simp [valV, List.find?_cons, e]
theorem valV_neg {p : κ × V} {r : List (κ × V)} {k : κ} (e : ¬ p.1 = k) : valV (p :: r) k = valV r k := by simp [valV, List.find?_cons, e]
theorem valV_any (k : κ) : ∀ kvs : List (κ × V), (kvs.any fun kv => decide (kv.1 = k)) = (valV kvs k).isSome
  | [] => rfl
  | p :: r => by
    rw [List.any_cons]
    by_cases e : p.1 = k
    · simp only [valV_pos e, decide_eq_true e, Bool.true_or, Option.isSome_some]
    · rw [valV_neg e, decide_eq_false e, Bool.false_or]; exact valV_any k r
theorem valV_map (k j : κ) (y : V) : ∀ kvs : List (κ × V), valV (kvs.map fun kv => if kv.1 = k then (kv.1, y) else kv) j = (valV kvs j).map fun x => if j = k then y else x
  | [] => rfl
  | p :: r => by
    have ih := valV_map k j y r
    rw [List.map_cons]
    by_cases h : p.1 = k
    · rw [if_pos h]
      by_cases e : p.1 = j
      · rw [valV_pos (p := (p.1, y)) e, valV_pos e, Option.map_some, if_pos (e.symm.trans h)]
      · rw [valV_neg (p := (p.1, y)) e, valV_neg e, ih]
    · rw [if_neg h]
      by_cases e : p.1 = j
      · rw [valV_pos (p := p) e, valV_pos e, Option.map_some, if_neg (fun z => h (e.trans z))]
      · rw [valV_neg (p := p) e, valV_neg e, ih]
theorem valV_snoc (k j : κ) (y : V) : ∀ kvs : List (κ × V), valV kvs k = none → valV (kvs ++ [(k, y)]) j = if j = k then some y else valV kvs j
  | [], _ => by
    by_cases e : k = j
    · rw [if_pos e.symm]; exact valV_pos (p := (k, y)) e
    · rw [if_neg (fun z => e z.symm)]; exact valV_neg (p := (k, y)) e
  | p :: r, hn => by
    rw [List.cons_append]
    have hk : ¬ p.1 = k := fun z => by rw [valV_pos z] at hn; cases hn
    rw [valV_neg hk] at hn
    have ih := valV_snoc k j y r hn
    by_cases e : p.1 = j
    · rw [valV_pos e, valV_pos e, if_neg (fun z => hk (e.trans z))]
    · rw [valV_neg e, valV_neg e, ih]
theorem valV_put (kvs : List (κ × V)) (k j : κ) (y : V) : valV (putK kvs k y) j = if j = k then some y else valV kvs j := by
  unfold putK
  by_cases a : (kvs.any fun kv => decide (kv.1 = k)) = true
  · rw [if_pos a, valV_map]
    rw [valV_any] at a
    by_cases e : j = k
    · obtain ⟨x, hx⟩ := Option.isSome_iff_exists.mp a
      rw [if_pos e, e, hx, Option.map_some, if_pos rfl]
    · rw [if_neg e]
      cases valV kvs j with
      | none => rfl
      | some x => rw [Option.map_some, if_neg e]
  · rw [if_neg a]
    refine valV_snoc k j y kvs ?_
    rw [valV_any] at a
    cases q : valV kvs k with
    | none => rfl
    | some x => rw [q] at a; exact (a rfl).elim
theorem length_putK (kvs : List (κ × V)) (k : κ) (v : V) : (putK kvs k v).length ≤ kvs.length + 1 := by
  unfold putK
  split
  · rw [List.length_map]; omega
  · rw [List.length_append, List.length_cons, List.length_nil]; omega
theorem putK_new {kvs : List (κ × V)} {k : κ} (v : V) (h : valV kvs k = none) : putK kvs k v = kvs ++ [(k, v)] := by
  unfold putK
  rw [valV_any, h]
  exact if_neg (by decide)

theorem RelO.isSome_eq {o : Option V} {u : Option Value} (r : RelO o u) : o.isSome = u.isSome := by
  cases o with
  | none => cases u with
    | none => rfl
    | some _ => exact (show False from r).elim
  | some _ => cases u with
    | none => exact (show False from r).elim
    | some _ => rfl
theorem RelO.getD {o : Option V} {u : Option Value} {d : V} {d' : Value} (r : RelO o u) (rd : RelV d d') : RelV (o.getD d) (u.getD d') := by
  cases o with
  | none => cases u with
    | none => exact rd
    | some _ => exact (show False from r).elim
  | some _ => cases u with
    | none => exact (show False from r).elim
    | some _ => exact r

/-- raw tables of the same keys -/
theorem KV.val {kvs : List (κ × V)} {vs : List (κ × Value)} (r : KV kvs vs) (k : κ) : RelO (valV kvs k) (valueAt vs k) := by
  unfold KV at r
  induction r with
  | nil => exact True.intro
  | @cons p q ps qs h t ih =>
    obtain ⟨h1, h2⟩ := h
    by_cases e : p.1 = k
    · have e' : q.1 = k := h1.symm.trans e
      have b : valueAt (q :: qs) k = some q.2 := by simp [valueAt, List.find?_cons, e']
      rw [valV_pos e, b]; exact h2
    · have e' : ¬ q.1 = k := fun z => e (h1.trans z)
      have b : valueAt (q :: qs) k = valueAt qs k := by simp [valueAt, List.find?_cons, e']
      rw [valV_neg e, b]; exact ih
theorem KV.any {kvs : List (κ × V)} {vs : List (κ × Value)} (r : KV kvs vs) (k : κ) : (kvs.any fun kv => decide (kv.1 = k)) = vs.any fun kv => decide (kv.1 = k) := by
  unfold KV at r
  induction r with
  | nil => rfl
  | cons h t ih => rw [List.any_cons, List.any_cons, ih, h.1]
theorem KV.repl {kvs : List (κ × V)} {vs : List (κ × Value)} (r : KV kvs vs) (k : κ) {y : V} {u : Value} (ry : RelV y u) :
    KV (kvs.map fun kv => if kv.1 = k then (kv.1, y) else kv) (vs.map fun kv => if kv.1 = k then (kv.1, u) else kv) := by
  unfold KV at r ⊢
  induction r with
  | nil => exact .nil
  | @cons p q ps qs h t ih =>
    rw [List.map_cons, List.map_cons]
    refine .cons ?_ ih
    obtain ⟨h1, h2⟩ := h
    by_cases e : p.1 = k
    · rw [if_pos e, if_pos (h1.symm.trans e)]; exact ⟨h1, ry⟩
    · rw [if_neg e, if_neg (fun z => e (h1.trans z))]; exact ⟨h1, h2⟩
theorem KV.put {kvs : List (κ × V)} {vs : List (κ × Value)} (r : KV kvs vs) (k : κ) {y : V} {u : Value} (ry : RelV y u) : KV (putK kvs k y) (stored vs k u) := by
  unfold putK stored
  rw [r.any k]
  by_cases e : (vs.any fun kv => decide (kv.1 = k)) = true
  · rw [if_pos e, if_pos e]; exact r.repl k ry
  · rw [if_neg e, if_neg e]; exact Paired.snoc r ⟨rfl, ry⟩
theorem KV.drop {kvs : List (κ × V)} {vs : List (κ × Value)} (r : KV kvs vs) (k : κ) : KV (dropK kvs k) (without vs k) := by
  unfold KV at r ⊢
  unfold dropK without
  induction r with
  | nil => exact .nil
  | @cons p q ps qs h t ih =>
    obtain ⟨h1, h2⟩ := h
    rw [List.filter_cons, List.filter_cons]
    by_cases e : p.1 = k
    · have a : ¬ decide (p.1 ≠ k) = true := by simp [e]
      have b : ¬ decide (q.1 ≠ k) = true := by simp [h1.symm.trans e]
      rw [if_neg a, if_neg b]; exact ih
    · have e' : ¬ q.1 = k := fun z => e (h1.trans z)
      have a : decide (p.1 ≠ k) = true := by simp [e]
      have b : decide (q.1 ≠ k) = true := by simp [e']
      rw [if_pos a, if_pos b]; exact .cons ⟨h1, h2⟩ ih
theorem KV.keys {kvs : List (κ × V)} {vs : List (κ × Value)} (r : KV kvs vs) : kvs.map (·.1) = vs.map (·.1) := by
  unfold KV at r
  induction r with
  | nil => rfl
  | cons h t ih => rw [List.map_cons, List.map_cons, ih, h.1]
theorem KV.length {kvs : List (κ × V)} {vs : List (κ × Value)} (r : KV kvs vs) : kvs.length = vs.length := Paired.length r
theorem dropK_le (kvs : List (κ × V)) (k : κ) : (dropK kvs k).length ≤ kvs.length := List.length_filter_le _ _
end


/-! ### a tracked dict, its keys ints and texts or tuples of these -/
theorem kV_is {P : Program} {w : World} {k : Key} {u : Value} (r : RelV (kV k) u) : (mixKind P w).is k u = true := by
  cases k with
  | inl i => obtain ⟨t, e⟩ := (show ∃ t, u = Value.int i t from r); subst e; exact mixKind_int P w i t
  | inr x => obtain ⟨t, e⟩ := (show ∃ t, u = Value.str x t from r); subst e; exact mixKind_str P w x t
theorem kV_inj {a b : Key} (e : kV a = kV b) : a = b := by
  cases a with
  | inl i => cases b with
    | inl j => have e' : V.int i = V.int j := e; injection e' with e'; rw [e']
    | inr y => exact nomatch (show V.int i = V.str y from e)
  | inr x => cases b with
    | inl j => exact nomatch (show V.str x = V.int j from e)
    | inr y => have e' : V.str x = V.str y := e; injection e' with e'; rw [e']
theorem kVs_inj : ∀ {a b : List Key}, a.map kV = b.map kV → a = b
  | [], [], _ => rfl
  | [], _ :: _, e => by simp at e
  | _ :: _, [], e => by simp at e
  | x :: xs, y :: ys, e => by
    rw [List.map_cons, List.map_cons] at e
    injection e with e1 e2
    rw [kV_inj e1, kVs_inj e2]
theorem items_are {P : Program} {w : World} : ∀ {ks : List Key} {us : List Value}, Vals (ks.map kV) us → ItemsAre (mixKind P w) ks us
  | [], _, r => by rw [List.map_nil] at r; cases r; exact .nil
  | k :: ks, _, r => by
    rw [List.map_cons] at r
    cases r with
    | cons h t => exact .cons (kV_is h) (items_are t)

/-- raw entries of a dict with tuple keys -/
abbrev KT (H : Hp) : List (List Key × V) → List (List Key × Addr × Value) → Prop := Paired fun p q => p.1 = q.1 ∧ H q.2.1 = some (.tup (p.1.map kV)) ∧ RelV p.2 q.2.2
theorem KT.val {H : Hp} {kvs : List (List Key × V)} {xs : List (List Key × Addr × Value)} (r : KT H kvs xs) (k : List Key) : RelO (valV kvs k) ((atKey xs k).map (·.2)) := by
  induction r with
  | nil => exact True.intro
  | @cons p q ps qs h t ih =>
    obtain ⟨h1, _, h2⟩ := h
    by_cases e : p.1 = k
    · have e' : q.1 = k := h1.symm.trans e
      have b : atKey (q :: qs) k = some q.2 := by simp [atKey, List.find?_cons, e']
      rw [valV_pos e, b]; exact h2
    · have e' : ¬ q.1 = k := fun z => e (h1.trans z)
      have b : atKey (q :: qs) k = atKey qs k := by simp [atKey, List.find?_cons, e']
      rw [valV_neg e, b]; exact ih
theorem KT.repl {H : Hp} {kvs : List (List Key × V)} {xs : List (List Key × Addr × Value)} (r : KT H kvs xs) (k : List Key) {y : V} {u : Value} (ry : RelV y u) :
    KT H (kvs.map fun kv => if kv.1 = k then (kv.1, y) else kv) (xs.map (putAt k u)) := by
  induction r with
  | nil => exact .nil
  | @cons p q ps qs h t ih =>
    rw [List.map_cons, List.map_cons]
    refine .cons ?_ ih
    obtain ⟨h1, h2, h3⟩ := h
    unfold putAt
    by_cases e : p.1 = k
    · rw [if_pos e, if_pos (h1.symm.trans e)]; exact ⟨h1, h2, ry⟩
    · rw [if_neg e, if_neg (fun z => e (h1.trans z))]; exact ⟨h1, h2, h3⟩
theorem KT.put {H : Hp} {kvs : List (List Key × V)} {xs : List (List Key × Addr × Value)} (r : KT H kvs xs) (k : List Key) {b : Addr} {y : V} {u : Value} (hb : H b = some (.tup (k.map kV))) (ry : RelV y u) :
    KT H (putK kvs k y) (storedH xs k b u) := by
  have e : (kvs.any fun kv => decide (kv.1 = k)) = (atKey xs k).isSome := by
    rw [valV_any, (r.val k).isSome_eq, Option.isSome_map]
  unfold putK storedH
  rw [e]
  by_cases q : (atKey xs k).isSome = true
  · rw [if_pos q, if_pos q]; exact r.repl k ry
  · rw [if_neg q, if_neg q]; exact Paired.snoc r ⟨rfl, hb, ry⟩
theorem KT.keeps {H H' : Hp} {kvs : List (List Key × V)} {xs : List (List Key × Addr × Value)} (r : KT H kvs xs) (ht : ∀ b ys, H b = some (.tup ys) → H' b = some (.tup ys)) : KT H' kvs xs :=
  Paired.mapP r fun _ _ z => ⟨z.1, ht _ _ z.2.1, z.2.2⟩

section
variable {P : Program} {w : World} {H : Hp} {h : Heap} {a : Addr}
theorem rd_of {u : HO} (ok : HOk P w H h) (e : Rd H a u) : ObjOk P w H h a u := e.ok ok
theorem dk_rd {kvs : List (Key × V)} (ok : HOk P w H h) (e : Rd H a (.dK kvs)) : kvs.length ≤ sizeLine ∧ (a == sysModules) = false ∧ ∃ vs, KV kvs vs ∧ h.DictOf (mixKind P w) a vs :=
  show ObjOk P w H h a (.dK kvs) from rd_of ok e
theorem dk_of {kvs : List (Key × V)} (ok : HOk P w H h) (e : H a = some (.dK kvs)) : kvs.length ≤ sizeLine ∧ (a == sysModules) = false ∧ ∃ vs, KV kvs vs ∧ h.DictOf (mixKind P w) a vs := dk_rd ok (.inl e)
/-- a tracked tuple of ints and texts is a key -/
theorem key_of {ks : List Key} (ok : HOk P w H h) (e : H a = some (.tup (ks.map kV))) : (tupleKind (mixKind P w)).is h ks a := by
  obtain ⟨_, its, r, o, h1, h2, n, h3⟩ := (show ObjOk P w H h a (.tup (ks.map kV)) from ok a _ e)
  exact ⟨o, its.toArray, n, h1, h2, h3, by simpa using items_are r⟩
theorem dt_rd {kvs : List (List Key × V)} (ok : HOk P w H h) (e : Rd H a (.dT kvs)) : kvs.length ≤ sizeLine ∧ (a == sysModules) = false ∧
    ∃ xs, KT H kvs xs ∧ h.DictOfH (tupleKind (mixKind P w)) a xs := by
  obtain ⟨z, y, xs, r, o, es, ep, h1, h2, h3, h4, h5⟩ := (show ObjOk P w H h a (.dT kvs) from rd_of ok e)
  refine ⟨z, y, xs, r, o, es, ep, h1, h2, h3, h4, fun x hx => ?_, h5⟩
  have all : ∀ {l : List (List Key × V)} {m : List (List Key × Addr × Value)}, KT H l m → ∀ x ∈ m, (tupleKind (mixKind P w)).is h x.1 x.2.1 := by
    intro l m q
    induction q with
    | nil => intro x hx; exact nomatch hx
    | @cons p q ps qs hq t ih =>
      intro x hx
      rcases List.mem_cons.mp hx with e | hx
      · subst e
        exact key_of ok (by rw [← hq.1]; exact hq.2.1)
      · exact ih x hx
  exact all r x hx
theorem dt_of {kvs : List (List Key × V)} (ok : HOk P w H h) (e : H a = some (.dT kvs)) : kvs.length ≤ sizeLine ∧ (a == sysModules) = false ∧
    ∃ xs, KT H kvs xs ∧ h.DictOfH (tupleKind (mixKind P w)) a xs := dt_rd ok (.inl e)
end

/-- what the dict at a holds at the key y -/
def DGet (H : Hp) (a : Addr) (y : V) (r : Option V) : Prop :=
  (∃ kvs k, Rd H a (.dK kvs) ∧ y = kV k ∧ r = valV kvs k) ∨ ∃ kvs k b, Rd H a (.dT kvs) ∧ y = .ref b ∧ H b = some (.tup (k.map kV)) ∧ r = valV kvs k
/-- the heap behind a[y] = v -/
def DPut (H : Hp) (a : Addr) (y v : V) (H' : Hp) : Prop :=
  (∃ kvs k, H a = some (.dK kvs) ∧ y = kV k ∧ kvs.length < sizeLine ∧ H' = upd H a (.dK (putK kvs k v))) ∨
  ∃ kvs k b, H a = some (.dT kvs) ∧ y = .ref b ∧ H b = some (.tup (k.map kV)) ∧ kvs.length < sizeLine ∧ H' = upd H a (.dT (putK kvs k v))
theorem DGet.k {H : Hp} {a : Addr} {kvs : List (Key × V)} {k : Key} (e : H a = some (.dK kvs)) : DGet H a (kV k) (valV kvs k) := .inl ⟨kvs, k, .inl e, rfl, rfl⟩
theorem DGet.t {H : Hp} {a b : Addr} {kvs : List (List Key × V)} {k : List Key} (e : H a = some (.dT kvs)) (eb : H b = some (.tup (k.map kV))) : DGet H a (.ref b) (valV kvs k) := .inr ⟨kvs, k, b, .inl e, rfl, eb, rfl⟩
theorem DPut.k {H : Hp} {a : Addr} {kvs : List (Key × V)} {k : Key} {v : V} (e : H a = some (.dK kvs)) (hl : kvs.length < sizeLine) : DPut H a (kV k) v (upd H a (.dK (putK kvs k v))) := .inl ⟨kvs, k, e, rfl, hl, rfl⟩
theorem DPut.t {H : Hp} {a b : Addr} {kvs : List (List Key × V)} {k : List Key} {v : V} (e : H a = some (.dT kvs)) (eb : H b = some (.tup (k.map kV))) (hl : kvs.length < sizeLine) :
    DPut H a (.ref b) v (upd H a (.dT (putK kvs k v))) := .inr ⟨kvs, k, b, e, rfl, eb, hl, rfl⟩


section
variable {X : Cx} {pins : List (Addr × Obj)} {σ : St} {H : Hp} {s : Shared} {a : Addr} {y v : V} {u r : Value} {o : Option V} {A : Around} {E : Value → Shared → Prop}

theorem Inv.big (I : Inv X pins σ H s) : sysModules < s.heap.objs.size := by
  have h : mainGlobals < s.heap.objs.size := (I.mod.glob.keeps I.bk).lt
  exact Nat.lt_trans (by decide) h

/-- d[y], there -/
theorem d_getItem {Q : Value → Shared → Prop} (hu : A.units + 1 < cLine) (I : Inv X pins σ H s) (g : DGet H a y (some v)) (ry : RelV y u) (h : ∀ w' s', Inv X pins σ H s' → RelV v w' → Q w' s') :
    wpAny (model X.prog X.w) A (getItem (.ref a) u) Q E s := by
  rcases g with ⟨kvs, k, e, ey, l⟩ | ⟨kvs, k, b, e, ey, eb, l⟩
  · subst ey
    obtain ⟨z, hd, vs, rel, dd⟩ := dk_rd I.hok e
    obtain ⟨w', hw, rw'⟩ := RelO.some_of (v := v) (o := valueAt vs k) (by rw [l]; exact rel.val k)
    exact wpAny_getItem_of (kV_is ry) dd.mapOf hw (h w' _ (I.tok _) rw')
  · subst ey
    cases (show u = Value.ref b from ry)
    obtain ⟨z, hd, xs, rel, dd⟩ := dt_rd I.hok e
    obtain ⟨w', hw, rw'⟩ := RelO.some_of (v := v) (o := (atKey xs k).map (·.2)) (by rw [l]; exact rel.val k)
    obtain ⟨p, hp, hp2⟩ := Option.map_eq_some_iff.mp hw
    refine wpAny_getItem_heap (tupleKind_room_in1 hu) (key_of I.hok eb) dd hp ?_
    rw [hp2]
    exact h w' _ (I.tok _) rw'
/-- y in d -/
theorem d_in {Q : Value → Shared → Prop} (hu : A.units + 1 < cLine) (I : Inv X pins σ H s) (g : DGet H a y o) (ry : RelV y u) (h : ∀ s', Inv X pins σ H s' → Q (.bool o.isSome) s') :
    wpAny (model X.prog X.w) A (compareOp .In u (.ref a)) Q E s := by
  rcases g with ⟨kvs, k, e, ey, l⟩ | ⟨kvs, k, b, e, ey, eb, l⟩
  · subst ey
    obtain ⟨z, hd, vs, rel, dd⟩ := dk_rd I.hok e
    refine wpAny_in_of (kV_is ry) hd dd.mapOf ?_
    rw [← (rel.val k).isSome_eq, ← l]
    exact h _ (I.tok _)
  · subst ey
    cases (show u = Value.ref b from ry)
    obtain ⟨z, hd, xs, rel, dd⟩ := dt_rd I.hok e
    refine wpAny_in_heap (tupleKind_room_in1 hu) (key_of I.hok eb) hd dd ?_
    have q := (rel.val k).isSome_eq
    rw [Option.isSome_map] at q
    rw [← q, ← l]
    exact h _ (I.tok _)
theorem d_notIn {Q : Value → Shared → Prop} (hu : A.units + 1 < cLine) (I : Inv X pins σ H s) (g : DGet H a y o) (ry : RelV y u) (h : ∀ s', Inv X pins σ H s' → Q (.bool (!o.isSome)) s') :
    wpAny (model X.prog X.w) A (compareOp .NotIn u (.ref a)) Q E s := by
  rcases g with ⟨kvs, k, e, ey, l⟩ | ⟨kvs, k, b, e, ey, eb, l⟩
  · subst ey
    obtain ⟨z, hd, vs, rel, dd⟩ := dk_rd I.hok e
    refine wpAny_notIn_of (kV_is ry) hd dd.mapOf ?_
    rw [← (rel.val k).isSome_eq, ← l]
    exact h _ (I.tok _)
  · subst ey
    cases (show u = Value.ref b from ry)
    obtain ⟨z, hd, xs, rel, dd⟩ := dt_rd I.hok e
    refine wpAny_notIn_heap (tupleKind_room_in1 hu) (key_of I.hok eb) hd dd ?_
    have q := (rel.val k).isSome_eq
    rw [Option.isSome_map] at q
    rw [← q, ← l]
    exact h _ (I.tok _)
/-- a dict's object is replaced -/
theorem d_write {h' : Heap} {t' : Nat} {ob : HO} (I : Inv X pins σ H s) (mu : Mut (H a)) (hs : Heap.SameBut a s.heap h') (he : ∃ q, h'.get? a = some q) (new : ObjOk X.prog X.w (upd H a ob) h' a ob) :
    Inv X pins σ (upd H a ob) { s with heap := h', toks := t' } :=
  I.write (x := a) (e := a) mu (.inl rfl) (fun b q hb z => (hs.2 b hb).trans z) he new
theorem dk_new {P : Program} {w : World} {H' : Hp} {h' : Heap} {kvs : List (Key × V)} {vs : List (Key × Value)} (z : kvs.length ≤ sizeLine) (hd : (a == sysModules) = false) (rel : KV kvs vs) (dd : h'.DictOf (mixKind P w) a vs) :
    ObjOk P w H' h' a (.dK kvs) := ⟨z, hd, vs, rel, dd⟩
/-- d[y] = v -/
theorem d_setItem {H' : Hp} {Q : Unit → Shared → Prop} (hu : A.units + 1 < cLine) (I : Inv X pins σ H s) (g : DPut H a y v H') (ry : RelV y u) (rv : RelV v r) (h : ∀ s', Inv X pins σ H' s' → Q () s') :
    wpAny (model X.prog X.w) A (setItem (.ref a) u r) Q E s := by
  rcases g with ⟨kvs, k, e, ey, l, eH⟩ | ⟨kvs, k, b, e, ey, eb, l, eH⟩
  · subst ey eH
    obtain ⟨z, hd, vs, rel, dd⟩ := dk_of I.hok e
    have hz : vs.length ≤ sizeLine := by rw [← rel.length]; exact z
    have hl : (putK kvs k v).length ≤ sizeLine := by have := length_putK kvs k v; omega
    refine wpAny_setItem_pairs (hsz := hz) (kV_is ry) dd fun h' dd' hs => h _ ?_
    have he : ∃ q, h'.get? a = some q := let ⟨q, _, _, hq, _⟩ := dd'; ⟨q, hq⟩
    exact d_write I (by rw [e]; exact True.intro) hs he (dk_new hl hd (rel.put k rv) dd')
  · subst ey eH
    cases (show u = Value.ref b from ry)
    obtain ⟨z, hd, xs, rel, dd⟩ := dt_of I.hok e
    have hz : xs.length ≤ sizeLine := by rw [← Paired.length rel]; exact z
    have hl : (putK kvs k v).length ≤ sizeLine := by have := length_putK kvs k v; omega
    refine wpAny_setItem_heap (hsz := hz) (tupleKind_room_in1 hu) (key_of I.hok eb) dd fun h' dd' hs => h _ ?_
    obtain ⟨q, es, ep, hq, h2, h3, h4, _, h5⟩ := dd'
    refine d_write I (by rw [e]; exact True.intro) hs ⟨q, hq⟩ ⟨hl, hd, _, (rel.put k eb rv).keeps fun c ys ec => ?_, q, es, ep, hq, h2, h3, h4, h5⟩
    rw [upd_ne (ne_of ec e (fun z => nomatch z))]
    exact ec
end

section
variable {X : Cx} {pins : List (Addr × Obj)} {σ : St} {H : Hp} {s : Shared} {a : Addr} {kvs : List (Key × V)} {k : Key} {u : Value} {A : Around} {E : Value → Shared → Prop}
/-- del d[k] -/
theorem d_delItem {Q : Unit → Shared → Prop} (I : Inv X pins σ H s) (e : H a = some (.dK kvs)) (ry : RelV (kV k) u) (l : (valV kvs k).isSome = true) (h : ∀ s', Inv X pins σ (upd H a (.dK (dropK kvs k))) s' → Q () s') :
    wpAny (model X.prog X.w) A (delItem (.ref a) u) Q E s := by
  obtain ⟨z, hd, vs, rel, dd⟩ := dk_of I.hok e
  refine wpAny_delItem_slot dd.typeIs (by decide) PySem.F.slot_dict_delitem
    (call_meetsIn PySem.F.slot_dict_delitem dd.typeIs PySem.F.entry_dict_delitem (PySem.F.args_dict_delitem_2 _ _) (meets_dict_delitem_pairs (mixKind X.prog X.w) a (kV_is ry)) ⟨vs, dd, by rw [← rel.length]; exact z, by rw [← (rel.val k).isSome_eq]; exact l, fun h' dd' hs => h _ ?_⟩)
  have he : ∃ q, h'.get? a = some q := let ⟨q, _, _, hq, _⟩ := dd'; ⟨q, hq⟩
  exact d_write I (by rw [e]; exact True.intro) hs he (dk_new (Nat.le_trans (dropK_le kvs k) z) hd (rel.drop k) dd')
/-- d.pop(k[, x]), there -/
theorem d_pop {v : V} {more : List Value} {Q : Value → Shared → Prop} (I : Inv X pins σ H s) (e : H a = some (.dK kvs)) (ry : RelV (kV k) u) (l : valV kvs k = some v) (hm : more = [] ∨ ∃ x, more = [x])
    (h : ∀ w' s', Inv X pins σ (upd H a (.dK (dropK kvs k))) s' → RelV v w' → Q w' s') : wpAny (model X.prog X.w) A (call (.builtin "dict.pop") (.ref a :: u :: more)) Q E s := by
  obtain ⟨z, hd, vs, rel, dd⟩ := dk_of I.hok e
  obtain ⟨w', hw, rw'⟩ := RelO.some_of (v := v) (o := valueAt vs k) (by rw [← l]; exact rel.val k)
  have hp : (keyPart u).isSome = true := by
    cases k with
    | inl i => obtain ⟨t, q⟩ := (show ∃ t, u = Value.int i t from ry); subst q; rfl
    | inr x => obtain ⟨t, q⟩ := (show ∃ t, u = Value.str x t from ry); subst q; rfl
  have ha : argsOk "dict.pop" ⟨.ref a :: u :: more, []⟩ := by
    rcases hm with q | ⟨x, q⟩
    · subst q; exact PySem.F.args_dict_pop_2 _ _
    · subst q; exact PySem.F.args_dict_pop_3 _ _ _
  refine call_meetsIn PySem.F.slot_dict_pop dd.typeIs PySem.F.entry_dict_pop ha (meets_dict_pop_there (mixKind X.prog X.w) a (kV_is ry) more hm hp)
    ⟨vs, w', dd, by rw [← rel.length]; exact z, hw, fun h' dd' hs => h w' _ ?_ rw'⟩
  have he : ∃ q, h'.get? a = some q := let ⟨q, _, _, hq, _⟩ := dd'; ⟨q, hq⟩
  exact d_write I (by rw [e]; exact True.intro) hs he (dk_new (Nat.le_trans (dropK_le kvs k) z) hd (rel.drop k) dd')
/-- d.pop(k, x), not there -/
theorem d_popD {r : Value} {Q : Value → Shared → Prop} (I : Inv X pins σ H s) (e : H a = some (.dK kvs)) (ry : RelV (kV k) u) (l : valV kvs k = none) (h : ∀ s', Inv X pins σ H s' → Q r s') :
    wpAny (model X.prog X.w) A (call (.builtin "dict.pop") [.ref a, u, r]) Q E s := by
  obtain ⟨z, hd, vs, rel, dd⟩ := dk_of I.hok e
  have hn : valueAt vs k = none := RelO.none_of (by rw [← l]; exact rel.val k)
  have hp : (keyPart u).isSome = true := by
    cases k with
    | inl i => obtain ⟨t, q⟩ := (show ∃ t, u = Value.int i t from ry); subst q; rfl
    | inr x => obtain ⟨t, q⟩ := (show ∃ t, u = Value.str x t from ry); subst q; rfl
  exact call_meetsIn PySem.F.slot_dict_pop dd.typeIs PySem.F.entry_dict_pop (PySem.F.args_dict_pop_3 _ _ _) (meets_dict_pop_default (mixKind X.prog X.w) a (kV_is ry) hd hp r) ⟨vs, dd, hn, h _ (I.tok _)⟩
/-- d.clear() -/
theorem d_clear {Q : Value → Shared → Prop} (I : Inv X pins σ H s) (e : H a = some (.dK kvs)) (h : ∀ s', Inv X pins σ (upd H a (.dK [])) s' → Q .none s') : wpAny (model X.prog X.w) A (call (.builtin "dict.clear") [.ref a]) Q E s := by
  obtain ⟨z, hd, vs, rel, dd⟩ := dk_of I.hok e
  refine call_meetsIn PySem.F.slot_dict_clear dd.typeIs PySem.F.entry_dict_clear (PySem.F.args_dict_clear_1 _) (meets_dict_clear (mixKind X.prog X.w) a) ⟨vs, dd, by rw [← rel.length]; exact z, fun h' dd' hs => h _ ?_⟩
  have he : ∃ q, h'.get? a = some q := let ⟨q, _, _, hq, _⟩ := dd'; ⟨q, hq⟩
  exact d_write (t' := s.toks) I (by rw [e]; exact True.intro) hs he (dk_new (Nat.zero_le _) hd .nil dd')
/-- len(d) -/
theorem d_len {Q : Value → Shared → Prop} (I : Inv X pins σ H s) (e : Rd H a (.dK kvs)) (h : ∀ t s', Inv X pins σ H s' → Q (.int kvs.length t) s') : wpAny (model X.prog X.w) A (call (.builtin "len") [.ref a]) Q E s := by
  obtain ⟨z, hd, vs, rel, dd⟩ := dk_rd I.hok e
  refine call_len_dict hd dd (by rw [← rel.length]; rw [sizeLine_eq] at z; omega) ?_
  rw [← rel.length]
  exact h _ _ (I.tok _)
/-- if d -/
theorem d_truth {Q : Bool → Shared → Prop} (I : Inv X pins σ H s) (e : Rd H a (.dK kvs)) (h : ∀ s', Inv X pins σ H s' → Q (!kvs.isEmpty) s') : wpAny (model X.prog X.w) A (truthy (.ref a)) Q E s := by
  obtain ⟨z, hd, vs, rel, dd⟩ := dk_rd I.hok e
  refine wpAny_truthy_dict hd dd (by rw [← rel.length]; rw [sizeLine_eq] at z; omega) ?_
  have q : kvs.isEmpty = vs.isEmpty := by cases rel <;> rfl
  rw [← q]
  exact h _ (I.tok _)
end


/-! ### readings and rules -/
/-- the element of a subscription, not a slice -/
def NoSl (i : Expr) : Prop := ∀ ov iv, subscripted i false ov iv = operate [ov, iv] (getItem ov iv)
theorem subD_of {prog : Program} {w : World} {A : Around} {E : Value → Shared → Prop} {s : Shared} {env : Env} {value slice : Expr} {pos : Pos} {T id : String} {Q : Value → Shared → Prop}
    (hl : typeLookup (.type T) "__getitem__" = pure (some (.builtin id))) (hs : NoSl slice)
    (h : wpAny (model prog w) A (eval value env) (fun o s₁ => wpAny (model prog w) A (eval slice env) (fun i s₂ => s₂.TypeIs o T ∧ wpAny (model prog w) A (getItem o i) Q E s₂) E s₁) E s) :
    wpAny (model prog w) A (eval (.Subscript value slice pos) env) Q E s := by
  refine Subscript_ (wpAny_mono h (fun o s₁ h₁ => wpAny_mono h₁ (fun i s₂ h₂ => ?_) fun _ _ x => x) fun _ _ x => x)
  obtain ⟨hT, h₂⟩ := h₂
  unfold subscriptTail
  refine wpAny_bind ?_
  rw [getitemInPython_of_ne hT.not_modules]
  refine wpAny_bind (wpAny_specialOf hT hl ?_)
  have fin : wpAny (model prog w) A (subscripted slice false o i) (fun r s₃ => wpAny (model prog w) A (letTemporaryGo value o r >>= fun _ => pure r) Q E s₃) E s₂ := by
    rw [hs o i]
    exact wpAny_operating (wpAny_mono h₂ (fun r s₃ h₃ => wpAny_bind (wpAny_letTemporaryGo (wpAny_pure h₃))) fun _ _ x => x)
  first
    | exact wpAny_pure (wpAny_bind fin)
    | exact wpAny_bind (wpAny_pure (wpAny_bind fin))
    | exact wpAny_bind fin

theorem dict_typeIs {X : Cx} {pins : List (Addr × Obj)} {σ : St} {H : Hp} {s : Shared} {a : Addr} {y : V} {o : Option V} (I : Inv X pins σ H s) (g : DGet H a y o) : s.TypeIs (.ref a) "dict" := by
  rcases g with ⟨kvs, k, e, _, _⟩ | ⟨kvs, k, b, e, _, _, _⟩
  · obtain ⟨_, _, vs, _, dd⟩ := dk_rd I.hok e
    exact dd.typeIs
  · obtain ⟨_, _, xs, _, dd⟩ := dt_rd I.hok e
    exact dd.typeIs
theorem dict_noDict {X : Cx} {pins : List (Addr × Obj)} {σ : St} {H : Hp} {s : Shared} {a : Addr} {y : V} {o : Option V} (I : Inv X pins σ H s) (g : DGet H a y o) :
    ∀ b, Value.ref a = .ref b → ∃ ob, s.heap.get? b = some ob ∧ ob.dict = none := fun b q => by
  cases q
  rcases g with ⟨kvs, k, e, _, _⟩ | ⟨kvs, k, b, e, _, _, _⟩
  · obtain ⟨_, _, vs, _, ob, _, _, h1, h2, _⟩ := dk_rd I.hok e
    exact ⟨ob, h1, h2.2.1⟩
  · obtain ⟨_, _, xs, _, ob, _, _, h1, h2, _⟩ := dt_rd I.hok e
    exact ⟨ob, h1, h2.2.1⟩

/-- d[y] -/
def tDGet (td ty : TE) : TE := fun σ H Q => td σ H fun x H1 => ty σ H1 fun y H2 => ∃ a v, x = .ref a ∧ DGet H2 a y (some v) ∧ Q v H2
/-- y in d, y not in d -/
def tDIn (ty td : TE) : TE := fun σ H Q => ty σ H fun y H1 => td σ H1 fun x H2 => ∃ a o, x = .ref a ∧ DGet H2 a y o ∧ Q (.bl o.isSome) H2
def tDNotIn (ty td : TE) : TE := fun σ H Q => ty σ H fun y H1 => td σ H1 fun x H2 => ∃ a o, x = .ref a ∧ DGet H2 a y o ∧ Q (.bl (!o.isSome)) H2
/-- d[y] = v -/
def sDPut (td ty tv : TE) : TS := fun D σ H => tv σ H fun v H1 => td σ H1 fun x H2 => ty σ H2 fun y H3 => ∃ a H4, x = .ref a ∧ DPut H3 a y v H4 ∧ D.nx σ H4
/-- d[y] op= v -/
def sDAug (td ty tv : TE) (rd : V → V → Hp → VK → Prop) : TS := fun D σ H => td σ H fun x H1 => ty σ H1 fun y H2 => ∃ a v, x = .ref a ∧ DGet H2 a y (some v) ∧
  tv σ H2 fun y2 H3 => rd v y2 H3 fun z H4 => ∃ H5, DPut H4 a y z H5 ∧ D.nx σ H5
/-- del d[y] -/
def sDDel (td ty : TE) : TS := fun D σ H => td σ H fun x H1 => ty σ H1 fun y H2 => ∃ a kvs k, x = .ref a ∧ H2 a = some (.dK kvs) ∧ y = kV k ∧ (valV kvs k).isSome = true ∧ D.nx σ (upd H2 a (.dK (dropK kvs k)))

section
variable {X : Cx} {o i e value : Expr} {pos pos' tpos : Pos} {td ty tv : TE}
theorem pe_dget (hu : X.A.units + 1 < cLine) (ho : PE X o td) (hi : PE X i ty) (hs : NoSl i) : PE X (.Subscript o i pos) (tDGet td ty) := by
  intro pins s σ H Q I h
  refine subD_of PySem.F.slot_dict_getitem.lookup hs (thn (ho pins s σ H _ I h) fun u s1 ⟨x, H1, I1, rx, q1⟩ => thn (hi pins s1 σ H1 _ I1 q1) fun iv s2 ⟨y, H2, I2, ry, a, v, ex, g, q2⟩ => ?_)
  subst ex
  obtain rfl : u = Value.ref a := rx
  exact ⟨dict_typeIs I2 g, d_getItem hu I2 g ry fun w' s3 I3 rw' => ⟨v, H2, I3, rw', q2⟩⟩
theorem pc_din (hu : X.A.units + 1 < cLine) (hi : PE X i ty) (ho : PE X o td) : PC X .In i o (tDIn ty td) := by
  intro pins s σ H Q I h
  refine thn (hi pins s σ H _ I h) fun iv s1 ⟨y, H1, I1, ry, q1⟩ => thn (ho pins s1 σ H1 _ I1 q1) fun u s2 ⟨x, H2, I2, rx, a, ov, ex, g, q2⟩ => ?_
  subst ex
  obtain rfl : u = Value.ref a := rx
  exact d_in hu I2 g ry fun s3 I3 => ⟨.bl ov.isSome, H2, I3, rfl, q2⟩
theorem pc_dnotin (hu : X.A.units + 1 < cLine) (hi : PE X i ty) (ho : PE X o td) : PC X .NotIn i o (tDNotIn ty td) := by
  intro pins s σ H Q I h
  refine thn (hi pins s σ H _ I h) fun iv s1 ⟨y, H1, I1, ry, q1⟩ => thn (ho pins s1 σ H1 _ I1 q1) fun u s2 ⟨x, H2, I2, rx, a, ov, ex, g, q2⟩ => ?_
  subst ex
  obtain rfl : u = Value.ref a := rx
  exact d_notIn hu I2 g ry fun s3 I3 => ⟨.bl (!ov.isSome), H2, I3, rfl, q2⟩
theorem ps_dput (hu : X.A.units + 1 < cLine) (ho : PE X o td) (hi : PE X i ty) (hv : PE X value tv) (hs : swapsWith value (some (.Subscript o i pos')) pos.line X.env = pure false) :
    PS X (.Assign [.Subscript o i pos'] value pos) (sDPut td ty tv) := by
  intro pins s σ H D I h
  refine wpAny_Assign_Subscript (thn (hv pins s σ H _ I h) fun r s1 ⟨v, H1, I1, rv, q1⟩ => thn (ho pins s1 σ H1 _ I1 q1) fun u s2 ⟨x, H2, I2, rx, q2⟩ => thn (hi pins s2 σ H2 _ I2 q2) fun iv s3 ⟨y, H3, I3, ry, a, H4, ex, g, q3⟩ => ?_) hs
  subst ex
  obtain rfl : u = Value.ref a := rx
  exact d_setItem hu I3 g ry rv fun s4 I4 => ⟨σ, H4, I4, q3⟩
theorem ps_daug {op : Operator} {rd : V → V → Hp → VK → Prop} (hu : X.A.units + 1 < cLine) (ho : PE X o td) (hi : PE X i ty) (hv : PE X value tv) (hop : InOp X op rd)
    (ha : ∀ ov iv new, augStore i ov iv new = (do holding [new, ov, iv] (setItem ov iv new); release [new, ov, iv] []; pure .next)) : PS X (.AugAssign (.Subscript o i tpos) op value pos) (sDAug td ty tv rd) := by
  intro pins s σ H D I h
  refine wpAny_AugAssign_SubscriptAny (thn (ho pins s σ H _ I h) fun u s1 ⟨x, H1, I1, rx, q1⟩ => thn (hi pins s1 σ H1 _ I1 q1) fun iv s2 ⟨y, H2, I2, ry, a, v, ex, g, q2⟩ => ?_) ha
  subst ex
  obtain rfl : u = Value.ref a := rx
  refine d_getItem hu I2 g ry fun w' s3 I3 rw' => thn (hv pins s3 σ H2 _ I3 q2) fun w2 s4 ⟨y2, H3, I4, ry2, q3⟩ => thn (hop pins s4 σ H3 v y2 w' w2 _ I4 rw' ry2 q3) fun w3 s5 ⟨z, H4, I5, rz, H5, g5, q4⟩ => ?_
  exact d_setItem hu I5 g5 ry rz fun s6 I6 => ⟨σ, H5, I6, q4⟩
theorem ps_ddel (ho : PE X o td) (hi : PE X i ty) : PS X (.Delete [.Subscript o i tpos] pos) (sDDel td ty) := by
  intro pins s σ H D I h
  refine wpAny_Delete (wpAny_deleteEach_cons (wpAny_delete_Subscript (thn (ho pins s σ H _ I h) fun u s1 ⟨x, H1, I1, rx, q1⟩ => thn (hi pins s1 σ H1 _ I1 q1) fun iv s2 ⟨y, H2, I2, ry, a, kvs, k, ex, e, ey, l, q2⟩ => ?_)))
  subst ex ey
  obtain rfl : u = Value.ref a := rx
  exact d_delItem I2 e ry l fun s3 I3 => wpAny_deleteEach_nil ⟨σ, _, I3, q2⟩
end


/-! ### displays -/
theorem dk_empty {P : Program} {w : World} {H : Hp} (h : Heap) (hb : sysModules < h.objs.size) : ObjOk P w H (h.push { cls := .type "dict", data := .dict #[] }) h.objs.size (.dK []) :=
  ⟨Nat.zero_le _, beq_eq_false_iff_ne.mpr (Ne.symm (Nat.ne_of_lt hb)), [], .nil, Heap.DictOf.new h⟩
theorem dt_empty {P : Program} {w : World} {H : Hp} (h : Heap) (hb : sysModules < h.objs.size) : ObjOk P w H (h.push { cls := .type "dict", data := .dict #[] }) h.objs.size (.dT []) :=
  ⟨Nat.zero_le _, beq_eq_false_iff_ne.mpr (Ne.symm (Nat.ne_of_lt hb)), [], .nil, _, #[], 0, Heap.get?_push_size _ rfl, ⟨rfl, rfl, rfl⟩, rfl, rfl, List.nodup_nil⟩
/-- {}, to be a dict of the kind that is wanted -/
def tDNewK : TE := fun _ H Q => ∀ p, H p = none → Q (.ref p) (upd H p (.dK []))
def tDNewT : TE := fun _ H Q => ∀ p, H p = none → Q (.ref p) (upd H p (.dT []))
section
variable {X : Cx} {pos : Pos}
theorem pe_dnewK : PE X (.Dict [] [] pos) tDNewK := fun pins s σ H Q I h =>
  wpAny_Dict_empty ⟨.ref s.heap.objs.size, _, I.laid (a := s.heap.objs.size) (o := .dK []) (t' := s.toks) (fun _ _ q => Heap.get?_push_of_some _ q) (Nat.le_refl _) (dk_empty s.heap I.big), rfl, h _ (I.hok.fresh (Nat.le_refl _))⟩
theorem pe_dnewT : PE X (.Dict [] [] pos) tDNewT := fun pins s σ H Q I h =>
  wpAny_Dict_empty ⟨.ref s.heap.objs.size, _, I.laid (a := s.heap.objs.size) (o := .dT []) (t' := s.toks) (fun _ _ q => Heap.get?_push_of_some _ q) (Nat.le_refl _) (dt_empty s.heap I.big), rfl, h _ (I.hok.fresh (Nat.le_refl _))⟩
end

/-- the pairs of a display, from the left -/
def tPairs : List (TE × TE) → St → Hp → (List (V × V) → Hp → Prop) → Prop
  | [], _, H, Q => Q [] H
  | (tk, tv) :: r, σ, H, Q => tk σ H fun x H1 => tv σ H1 fun y H2 => tPairs r σ H2 fun ps H3 => Q ((x, y) :: ps) H3
abbrev VV : List (V × V) → List (Value × Value) → Prop := Paired fun p q => RelV p.1 q.1 ∧ RelV p.2 q.2
def PPs (X : Cx) (pos : Pos) (keys : List (Option Expr)) (values : List Expr) (trs : List (TE × TE)) : Prop :=
  ∀ (pins : List (Addr × Obj)) (s : Shared) (σ : St) (H : Hp) (Q : List (V × V) → Hp → Prop), Inv X pins σ H s → tPairs trs σ H Q →
    wpAny (model X.prog X.w) X.A (evalPairs (pairTrees keys values X.env pos)) (fun vs s' => ∃ ps H', Inv X pins σ H' s' ∧ VV ps vs ∧ Q ps H') X.xe s
theorem pps_nil {X : Cx} {pos : Pos} : PPs X pos [] [] [] := fun pins s σ H Q I h => pairTrees_nil_walk ⟨[], H, I, .nil, h⟩
theorem pps_cons {X : Cx} {pos : Pos} {k v : Expr} {ks : List (Option Expr)} {vs : List Expr} {tk tv : TE} {trs : List (TE × TE)} (hk : PE X k tk) (hv : PE X v tv) (hr : PPs X pos ks vs trs) :
    PPs X pos (some k :: ks) (v :: vs) ((tk, tv) :: trs) := fun pins s σ H Q I h =>
  pairTrees_cons_walk (thn (hk pins s σ H _ I h) fun u s1 ⟨x, H1, I1, rx, q1⟩ => thn (hv pins s1 σ H1 _ I1 q1) fun w2 s2 ⟨y, H2, I2, ry, q2⟩ =>
    thn (hr pins s2 σ H2 _ I2 q2) fun ws s3 ⟨ps, H3, I3, rel, q3⟩ => ⟨(x, y) :: ps, H3, I3, .cons ⟨rx, ry⟩ rel, q3⟩)

def mergeK (kvs more : List (Key × V)) : List (Key × V) := more.foldl (fun acc kv => putK acc kv.1 kv.2) kvs
theorem KV.merge : ∀ {more : List (Key × V)} {rs : List (Key × Value)} {kvs : List (Key × V)} {vs : List (Key × Value)}, KV more rs → KV kvs vs → KV (mergeK kvs more) (merged vs rs) := by
  intro more rs kvs vs r
  unfold KV at r
  induction r generalizing kvs vs with
  | nil => intro q; exact q
  | @cons p q ps qs h t ih =>
    intro r0
    have e : KV (putK kvs p.1 p.2) (stored vs q.1 q.2) := by
      have := r0.put p.1 h.2
      rw [← h.1]; exact this
    exact ih e
theorem length_mergeK : ∀ (more kvs : List (Key × V)), (mergeK kvs more).length ≤ kvs.length + more.length
  | [], kvs => by show kvs.length ≤ kvs.length + 0; omega
  | p :: r, kvs => by
    have h1 := length_mergeK r (putK kvs p.1 p.2)
    have h2 := length_putK kvs p.1 p.2
    show (mergeK (putK kvs p.1 p.2) r).length ≤ _
    rw [List.length_cons]; omega
theorem carries_of {P : Program} {w : World} : ∀ {kvs : List (Key × V)} {ws : List (Value × Value)}, VV (kvs.map fun kv => (kV kv.1, kv.2)) ws → ∃ rs, Carries (mixKind P w) ws rs ∧ KV kvs rs
  | [], _, r => by rw [List.map_nil] at r; cases r; exact ⟨[], True.intro, .nil⟩
  | p :: kvs, _, r => by
    rw [List.map_cons] at r
    cases r with
    | @cons a b as bs h t =>
      obtain ⟨rs, c, q⟩ := carries_of (P := P) (w := w) t
      obtain ⟨b1, b2⟩ := b
      exact ⟨(p.1, b2) :: rs, ⟨kV_is h.1, rfl, c⟩, .cons ⟨rfl, h.2⟩ q⟩
/-- {k: v, ..} with keys ints and texts; the new dict stands empty while the pairs are made -/
def tDisp (trs : List (TE × TE)) : TE := fun σ H Q => ∀ p, H p = none → tPairs trs σ (upd H p (.dK [])) fun ps H2 => H2 p = some (.dK []) ∧ ∃ kvs : List (Key × V), ps = kvs.map (fun kv => (kV kv.1, kv.2)) ∧ kvs.length ≤ 15 ∧ Q (.ref p) (upd H2 p (.dK (mergeK [] kvs)))
theorem pe_disp {X : Cx} {pos : Pos} {keys : List (Option Expr)} {values : List Expr} {trs : List (TE × TE)} (h : PPs X pos keys values trs) (hall : keys.all (·.isSome) = true) (hl : keys.length = values.length) (h0 : keys ≠ [])
    (h15 : keys.length ≤ 15) : PE X (.Dict keys values pos) (tDisp trs) := by
  intro pins s σ H Q I q
  have hn := I.hok.fresh (Nat.le_refl s.heap.objs.size)
  have I1 := I.laid (a := s.heap.objs.size) (o := .dK []) (h' := s.heap.push { cls := .type "dict", data := .dict #[] }) (t' := s.toks) (fun _ _ q => Heap.get?_push_of_some _ q) (Nat.le_refl _) (dk_empty s.heap I.big)
  refine wpAny_Dict_walk (knd := mixKind X.prog X.w) hall hl h0 h15 (thn (h pins _ σ _ _ I1 (q _ hn)) fun ws s2 ⟨ps, H2, I2, rel, e, kvs, ep, lk, q2⟩ => ?_)
  subst ep
  obtain ⟨rs, c, rk⟩ := carries_of (P := X.prog) (w := X.w) rel
  obtain ⟨z, hd, vs0, r0, dd⟩ := dk_of I2.hok e
  cases r0
  refine ⟨rs, c, dd, fun h' dd' hs => ⟨.ref s.heap.objs.size, _, ?_, rfl, q2⟩⟩
  have hz : (mergeK [] kvs).length ≤ sizeLine := by
    have h1 := length_mergeK kvs []
    rw [List.length_nil] at h1
    rw [sizeLine_eq]; omega
  have he : ∃ q, h'.get? s.heap.objs.size = some q := let ⟨q, _, _, hq, _⟩ := dd'; ⟨q, hq⟩
  exact d_write I2 (by rw [e]; exact True.intro) hs he (dk_new hz hd (rk.merge .nil) dd')


/-! ### methods -/
/-- a method call o.m(e) of a built-in, with one argument: what must be seen of the text -/
structure M1 (X : Cx) (o : Expr) (m : Str) (apos : Pos) (e : Expr) (cpos : Pos) : Prop where
  base : attributeBase o m X.env (eval o X.env) = eval o X.env
  few : ((backTo cpos (starEach [e] X.env)).all (fun x => !x.1) && (backToKw cpos (keywordEach [] X.env)).all (fun x => x.1.isSome)
    && decide (([e] : List Expr).length + ([] : List Keyword).length + (if ([] : List Keyword).isEmpty then 0 else 1) < 30)) = true
  line : (apos.endLine == cpos.line) = true
  trees : backTo cpos (starEach [e] X.env) = [(false, eval e X.env)]
structure M2 (X : Cx) (o : Expr) (m : Str) (apos : Pos) (e f : Expr) (cpos : Pos) : Prop where
  base : attributeBase o m X.env (eval o X.env) = eval o X.env
  few : ((backTo cpos (starEach [e, f] X.env)).all (fun x => !x.1) && (backToKw cpos (keywordEach [] X.env)).all (fun x => x.1.isSome)
    && decide (([e, f] : List Expr).length + ([] : List Keyword).length + (if ([] : List Keyword).isEmpty then 0 else 1) < 30)) = true
  line : (apos.endLine == cpos.line) = true
  trees : backTo cpos (starEach [e, f] X.env) = [(false, eval e X.env), (false, eval f X.env)]

/-- a is a dict, whatever its keys -/
def IsD (H : Hp) (a : Addr) : Prop := (∃ kvs, Rd H a (.dK kvs)) ∨ ∃ kvs, Rd H a (.dT kvs)
theorem isD_at {X : Cx} {pins : List (Addr × Obj)} {σ : St} {H : Hp} {s : Shared} {a : Addr} (I : Inv X pins σ H s) (d : IsD H a) :
    s.TypeIs (.ref a) "dict" ∧ (∀ b, Value.ref a = .ref b → ∃ ob, s.heap.get? b = some ob ∧ ob.dict = none) ∧ (a == sysModules) = false := by
  rcases d with ⟨kvs, e⟩ | ⟨kvs, e⟩
  · obtain ⟨_, hd, vs, _, dd⟩ := dk_rd I.hok e
    refine ⟨dd.typeIs, fun b q => ?_, hd⟩
    cases q
    obtain ⟨ob, _, _, h1, h2, _⟩ := dd
    exact ⟨ob, h1, h2.2.1⟩
  · obtain ⟨_, hd, xs, _, dd⟩ := dt_rd I.hok e
    refine ⟨dd.typeIs, fun b q => ?_, hd⟩
    cases q
    obtain ⟨ob, _, _, h1, h2, _⟩ := dd
    exact ⟨ob, h1, h2.2.1⟩

section
variable {X : Cx} {pins : List (Addr × Obj)} {σ : St} {H : Hp} {s : Shared} {a : Addr} {y d : V} {u r : Value} {o : Option V} {A : Around} {E : Value → Shared → Prop}
/-- d.get(y) -/
theorem d_get1 {Q : Value → Shared → Prop} (hu : A.units + 1 < cLine) (I : Inv X pins σ H s) (g : DGet H a y o) (ry : RelV y u) (h : ∀ w' s', Inv X pins σ H s' → RelV (o.getD .non) w' → Q w' s') :
    wpAny (model X.prog X.w) A (call (.builtin "dict.get") [.ref a, u]) Q E s := by
  rcases g with ⟨kvs, k, e, ey, l⟩ | ⟨kvs, k, b, e, ey, eb, l⟩
  · subst ey
    obtain ⟨z, hd, vs, rel, dd⟩ := dk_rd I.hok e
    refine call_meetsIn PySem.F.slot_dict_get dd.typeIs PySem.F.entry_dict_get (PySem.F.args_dict_get_2 _ _) (meets_dict_get (mixKind X.prog X.w) a (kV_is ry) hd) ⟨_, dd.mapOf, h _ _ (I.tok _) ?_⟩
    rw [l]
    exact (rel.val k).getD rfl
  · subst ey
    cases (show u = Value.ref b from ry)
    obtain ⟨z, hd, xs, rel, dd⟩ := dt_rd I.hok e
    refine call_meetsIn PySem.F.slot_dict_get dd.typeIs PySem.F.entry_dict_get (PySem.F.args_dict_get_2 _ _) (meetsH_dict_get (tupleKind (mixKind X.prog X.w)) a b hd) ⟨tupleKind_room_in1 hu, k, xs, key_of I.hok eb, dd, h _ _ (I.tok _) ?_⟩
    rw [l]
    exact (rel.val k).getD rfl
/-- d.get(y, x) -/
theorem d_get2 {Q : Value → Shared → Prop} (hu : A.units + 1 < cLine) (I : Inv X pins σ H s) (g : DGet H a y o) (ry : RelV y u) (rd : RelV d r) (h : ∀ w' s', Inv X pins σ H s' → RelV (o.getD d) w' → Q w' s') :
    wpAny (model X.prog X.w) A (call (.builtin "dict.get") [.ref a, u, r]) Q E s := by
  rcases g with ⟨kvs, k, e, ey, l⟩ | ⟨kvs, k, b, e, ey, eb, l⟩
  · subst ey
    obtain ⟨z, hd, vs, rel, dd⟩ := dk_rd I.hok e
    refine call_meetsIn PySem.F.slot_dict_get dd.typeIs PySem.F.entry_dict_get (PySem.F.args_dict_get_3 _ _ _) (meets_dict_get_default (mixKind X.prog X.w) a (kV_is ry) hd r) ⟨_, dd.mapOf, h _ _ (I.tok _) ?_⟩
    rw [l]
    exact (rel.val k).getD rd
  · subst ey
    cases (show u = Value.ref b from ry)
    obtain ⟨z, hd, xs, rel, dd⟩ := dt_rd I.hok e
    refine call_meetsIn PySem.F.slot_dict_get dd.typeIs PySem.F.entry_dict_get (PySem.F.args_dict_get_3 _ _ _) (meetsH_dict_get_default (tupleKind (mixKind X.prog X.w)) a b hd r) ⟨tupleKind_room_in1 hu, k, xs, key_of I.hok eb, dd, h _ _ (I.tok _) ?_⟩
    rw [l]
    exact (rel.val k).getD rd
end

def tDGet1 (td ty : TE) : TE := fun σ H Q => td σ H fun x H1 => ∃ a, x = .ref a ∧ IsD H1 a ∧ ty σ H1 fun y H2 => ∃ o, DGet H2 a y o ∧ Q (o.getD .non) H2
def tDGet2 (td ty tx : TE) : TE := fun σ H Q => td σ H fun x H1 => ∃ a, x = .ref a ∧ IsD H1 a ∧ ty σ H1 fun y H2 => tx σ H2 fun z H3 => ∃ o, DGet H3 a y o ∧ Q (o.getD z) H3
/-- d.pop(k): there; d.pop(k, x): there or not -/
def tDPop1 (td ty : TE) : TE := fun σ H Q => td σ H fun x H1 => ∃ a, x = .ref a ∧ IsD H1 a ∧ ty σ H1 fun y H2 => ∃ kvs k v, H2 a = some (.dK kvs) ∧ y = kV k ∧ valV kvs k = some v ∧ Q v (upd H2 a (.dK (dropK kvs k)))
def tDPop2 (td ty tx : TE) : TE := fun σ H Q => td σ H fun x H1 => ∃ a, x = .ref a ∧ IsD H1 a ∧ ty σ H1 fun y H2 => tx σ H2 fun z H3 => ∃ kvs k, H3 a = some (.dK kvs) ∧ y = kV k ∧
  (∀ v, valV kvs k = some v → Q v (upd H3 a (.dK (dropK kvs k)))) ∧ (valV kvs k = none → Q z H3)
section
variable {X : Cx} {o e f : Expr} {apos cpos : Pos} {td ty tx : TE}
theorem pe_dget1 (hu : X.A.units + 1 < cLine) (ho : PE X o td) (he : PE X e ty) (m : M1 X o "get" apos e cpos) : PE X (.Call (.Attribute o "get" apos) [e] [] cpos) (tDGet1 td ty) := by
  intro pins s σ H Q I h
  refine wpAny_Call_method m.base m.few m.line PySem.F.plainAttrs_dict PySem.F.slot_dict_get PySem.F.type_dict_get (thn (ho pins s σ H _ I h) fun u s1 ⟨x, H1, I1, rx, a, ex, d, q1⟩ => ?_)
  subst ex
  obtain rfl : u = Value.ref a := rx
  obtain ⟨t1, t2, _⟩ := isD_at I1 d
  refine ⟨t1, t2, ?_⟩
  rw [m.trees]
  refine Calls.callWith_builtin rfl (Calls.evalArgs_plain (Calls.spliced_cons (thn (he pins s1 σ H1 _ I1 q1) fun iv s2 ⟨y, H2, I2, ry, ov, g, q2⟩ => Calls.spliced_nil ?_)))
  exact d_get1 hu I2 g ry fun w' s3 I3 rw' => ⟨_, H2, I3, rw', q2⟩
theorem pe_dget2 (hu : X.A.units + 1 < cLine) (ho : PE X o td) (he : PE X e ty) (hf : PE X f tx) (m : M2 X o "get" apos e f cpos) : PE X (.Call (.Attribute o "get" apos) [e, f] [] cpos) (tDGet2 td ty tx) := by
  intro pins s σ H Q I h
  refine wpAny_Call_method m.base m.few m.line PySem.F.plainAttrs_dict PySem.F.slot_dict_get PySem.F.type_dict_get (thn (ho pins s σ H _ I h) fun u s1 ⟨x, H1, I1, rx, a, ex, d, q1⟩ => ?_)
  subst ex
  obtain rfl : u = Value.ref a := rx
  obtain ⟨t1, t2, _⟩ := isD_at I1 d
  refine ⟨t1, t2, ?_⟩
  rw [m.trees]
  refine Calls.callWith_builtin rfl (Calls.evalArgs_plain (Calls.spliced_cons (thn (he pins s1 σ H1 _ I1 q1) fun iv s2 ⟨y, H2, I2, ry, q2⟩ =>
    Calls.spliced_cons (thn (hf pins s2 σ H2 _ I2 q2) fun fv s3 ⟨z, H3, I3, rz, ov, g, q3⟩ => Calls.spliced_nil ?_))))
  exact d_get2 hu I3 g ry rz fun w' s4 I4 rw' => ⟨_, H3, I4, rw', q3⟩
theorem pe_dpop1 (ho : PE X o td) (he : PE X e ty) (m : M1 X o "pop" apos e cpos) : PE X (.Call (.Attribute o "pop" apos) [e] [] cpos) (tDPop1 td ty) := by
  intro pins s σ H Q I h
  refine wpAny_Call_method m.base m.few m.line PySem.F.plainAttrs_dict PySem.F.slot_dict_pop PySem.F.type_dict_pop (thn (ho pins s σ H _ I h) fun u s1 ⟨x, H1, I1, rx, a, ex, d, q1⟩ => ?_)
  subst ex
  obtain rfl : u = Value.ref a := rx
  obtain ⟨t1, t2, _⟩ := isD_at I1 d
  refine ⟨t1, t2, ?_⟩
  rw [m.trees]
  refine Calls.callWith_builtin rfl (Calls.evalArgs_plain (Calls.spliced_cons (thn (he pins s1 σ H1 _ I1 q1) fun iv s2 ⟨y, H2, I2, ry, kvs, k, v, ea, ey, l, q2⟩ => Calls.spliced_nil ?_)))
  subst ey
  exact d_pop I2 ea ry l (.inl rfl) fun w' s3 I3 rw' => ⟨v, _, I3, rw', q2⟩
theorem pe_dpop2 (ho : PE X o td) (he : PE X e ty) (hf : PE X f tx) (m : M2 X o "pop" apos e f cpos) : PE X (.Call (.Attribute o "pop" apos) [e, f] [] cpos) (tDPop2 td ty tx) := by
  intro pins s σ H Q I h
  refine wpAny_Call_method m.base m.few m.line PySem.F.plainAttrs_dict PySem.F.slot_dict_pop PySem.F.type_dict_pop (thn (ho pins s σ H _ I h) fun u s1 ⟨x, H1, I1, rx, a, ex, d, q1⟩ => ?_)
  subst ex
  obtain rfl : u = Value.ref a := rx
  obtain ⟨t1, t2, _⟩ := isD_at I1 d
  refine ⟨t1, t2, ?_⟩
  rw [m.trees]
  refine Calls.callWith_builtin rfl (Calls.evalArgs_plain (Calls.spliced_cons (thn (he pins s1 σ H1 _ I1 q1) fun iv s2 ⟨y, H2, I2, ry, q2⟩ =>
    Calls.spliced_cons (thn (hf pins s2 σ H2 _ I2 q2) fun fv s3 ⟨z, H3, I3, rz, kvs, k, ea, ey, q3, q4⟩ => Calls.spliced_nil ?_))))
  subst ey
  cases l : valV kvs k with
  | some v => exact d_pop I3 ea ry l (.inr ⟨fv, rfl⟩) fun w' s4 I4 rw' => ⟨v, _, I4, rw', q3 v l⟩
  | none => exact d_popD I3 ea ry l fun s4 I4 => ⟨z, H3, I4, rz, q4 l⟩
end

/-! ### dict(d): a copy -/
section
variable {X : Cx} {pins : List (Addr × Obj)} {σ : St} {H : Hp} {s : Shared} {a : Addr} {kvs : List (Key × V)} {A : Around} {E : Value → Shared → Prop}
theorem d_copyOf {Q : Value → Shared → Prop} (I : Inv X pins σ H s) (e : Rd H a (.dK kvs)) (h : ∀ p s', H p = none → Inv X pins σ (upd H p (.dK kvs)) s' → Q (.ref p) s') : wpAny (model X.prog X.w) A (call (.type "dict") [.ref a]) Q E s := by
  obtain ⟨z, hd, vs, rel, dd⟩ := dk_rd I.hok e
  refine kt_call_dict hd dd (by rw [← rel.length]; exact z) fun h' dd' hs => ?_
  refine h _ _ (I.hok.fresh (Nat.le_refl _)) (I.laid (a := s.heap.objs.size) (o := .dK kvs) (t' := s.toks) (fun b q hq => ?_) (Nat.le_refl _) (dk_new z (beq_eq_false_iff_ne.mpr (Ne.symm (Nat.ne_of_lt I.big))) rel dd'))
  exact (hs.2 b (Nat.ne_of_lt (Heap.lt_size hq))).trans (Heap.get?_push_of_some _ hq)
end


section
variable {X : Cx} {pins : List (Addr × Obj)} {σ : St} {H : Hp} {s : Shared} {a : Addr} {y : V} {u : Value} {A : Around} {E : Value → Shared → Prop}
/-- d[y], not there: a KeyError -/
theorem d_missing {Q : Value → Shared → Prop} (hu : A.units + 1 < cLine) (hh : A.handled = none) (I : Inv X pins σ H s) (g : DGet H a y none) (ry : RelV y u)
    (h : ∀ h' e t', Heap.NewExc s.heap h' e "KeyError" → E (.ref e) { s with heap := h', toks := t' }) : wpAny (model X.prog X.w) A (getItem (.ref a) u) Q E s := by
  rcases g with ⟨kvs, k, e, ey, l⟩ | ⟨kvs, k, b, e, ey, eb, l⟩
  · subst ey
    obtain ⟨z, hd, vs, rel, dd⟩ := dk_rd I.hok e
    have hn : valueAt vs k = none := RelO.none_of (by rw [l]; exact rel.val k)
    exact wpAny_getItem_missing_of (kV_is ry) hd hh dd.mapOf hn fun h' ex ne => h h' ex _ ne
  · subst ey
    cases (show u = Value.ref b from ry)
    obtain ⟨z, hd, xs, rel, dd⟩ := dt_rd I.hok e
    have hn : (atKey xs k).map (·.2) = none := RelO.none_of (by rw [l]; exact rel.val k)
    exact wpAny_getItem_missing_heap (tupleKind_room_in1 hu) (key_of I.hok eb) hd hh dd (Option.map_eq_none_iff.mp hn) fun h' ex ne => h h' ex _ ne
end
end L2

namespace Att
open PySem PySem.W PySem.Calls PyProof.Rows

/-! ### the script -/
theorem ints_of_wellAll {P : Params} {h : Heap} : ∀ (ns : List Int) (vs : List Value), WellAll P h vs (ns.map WData.int) → IntsAre vs ns := by
  intro ns
  induction ns with
  | nil =>
    intro vs w
    rw [List.map_nil] at w
    cases w
    exact .nil
  | cons n ns ih =>
    intro vs w
    rw [List.map_cons] at w
    cases w with
    | cons a b =>
      cases a
      exact .cons _ _ (ih _ b)

theorem script_of {l : OpenLaw} {n : Nat} (hn : l.most = some n) {P : Params} {h : Heap} {args : List WData} {vals : List Value}
    (hpre : l.row.toRowW.claim.pre args = true) (hwl : WellAll P h vals args) :
    ∃ a vs ns, vals = [Value.ref a] ∧ args = [WData.list (ns.map WData.int)] ∧ h.get? a = some { cls := .type "list", data := .seq vs.toArray } ∧ IntsAre vs ns ∧ ns.length ≤ n := by
  have hsh : WShape.hasAll [] args [.list .int] = true := (pre_splitW hpre).1
  have hc : l.pre.holds [] { args := args } = true := (pre_splitW hpre).2
  obtain ⟨d, r, rfl, h1, h2⟩ := hasAllW_cons hsh
  obtain rfl := hasAllW_nil h2
  obtain ⟨xs, rfl, h3⟩ := hasW_list h1
  obtain ⟨ns, rfl⟩ := items_int h3
  have hlen : ns.length ≤ n := by
    unfold OpenLaw.pre at hc
    have h4 : (WTm.not (.lt (.lit (.int (n : Int))) (.len (.arg 0)))).holds [] { args := [.list (ns.map .int)] } = true := by
      have h4 := (holds_andW hc).1
      rw [hn] at h4
      exact h4
    have h5 := condW_of h4 (w_not (w_lt w_lit (w_len_list (w_arg rfl))))
    rw [List.length_map] at h5
    refine Nat.le_of_not_lt fun q => ?_
    have q' : (n : Int) < ((ns.length : Nat) : Int) := by omega
    first
      | (rw [decide_eq_true q'] at h5; exact absurd h5 (by decide))
      | (simp at h5; omega)
  cases hwl with
  | cons w1 w2 =>
    cases w2
    cases w1 with
    | list ho hall => exact ⟨_, _, ns, rfl, rfl, ho, ints_of_wellAll ns _ hall, hlen⟩

theorem post_true (l : OpenLaw) (args : List WData) : l.row.toRowW.claim.post args (.bool true) args = true :=
  postW_of (r := l.row.toRowW) (X := (true == true))
    (show WShape.has [] (.bool true) .bool = true by first | rfl | decide | simp [WShape.has, WShape.arms, WShape.armsAll])
    (show (WTm.eq .res (.lit (.bool true))).value [] { args := args, res := some (.bool true), after := args } = some (.bool (true == true)) from w_eq_bool (w_res rfl) w_lit) rfl

/-! ### the attachment: holds_open's last premise (the goal 'hc' behind k_head) from a wpAny of the law's body -/
theorem attach {l : OpenLaw} {n : Nat} {q : Program} {loose : List Str} {XP : (Str → Option Value) → Heap → Prop} {YP : World → Heap → Prop} {d : DefRec} {x : Str}
    (hn : l.most = some n) (hdf : d.params.defaults = [])
    (hbind : ∀ pm cd doc v : Value, bindArgs (docDef d.name d.params d.body d.scope pm cd doc) ⟨[v], []⟩ = pure [(x, v)])
    (hx : d.scope.names.lookup x = some .local ∨ d.scope.names.lookup x = some .cell)
    (hk : d.scope.kind = .function) (hco : d.scope.isCoroutine = false) (hgen : d.scope.isGenerator = false)
    (body : ∀ (w : World) (s₀ s₁ s : Shared) (mg mb : Str → Option Value) (fa : Addr) (o : Obj) (pm cd doc : Value) (a : Addr) (vs : List Value) (ns : List Int),
      Ground q loose [] XP w s₀ mg mb s₁.heap → YP w s₁.heap →
      s₁.heap.get? fa = some o → o.data = .func (docDef d.name d.params d.body d.scope pm cd doc) → s₁.heap.CodeRec cd d.name → mg d.name = some (.ref fa) →
      s₁.heap.get? a = some { cls := .type "list", data := .seq vs.toArray } → IntsAre vs ns → ns.length ≤ n →
      s.gens = #[] → s.os = s₁.os →
      Fr s₁.heap s₁.heap.objs.size s.heap (bindL (envOfC d.name d.scope s₁.heap.objs.size fa cd).kindOf [(x, .ref a)] fun _ => none) →
      Cl s₁.heap.objs.size (cellsFrom (s₁.heap.objs.size + 1) d.scope.names []) s.heap (bindC (envOfC d.name d.scope s₁.heap.objs.size fa cd).kindOf [(x, .ref a)] fun _ => none) →
      wpAny (model l.prog w) (callerA.deeper (envOfC d.name d.scope s₁.heap.objs.size fa cd)) (execs d.body (envOfC d.name d.scope s₁.heap.objs.size fa cd))
        (fun f s' => f = .ret (.bool true) ∧ OldK s₁.heap s'.heap ∧ s'.os = s₁.os ∧ AllBare s'.gens) (fun _ _ => False) s) :
    WalkO q loose XP YP l.row.toRowW d [] (fun f vs => PySem.call f vs) := by
  intro w s₀ s₁ mg mb G Y fa o pm cd doc dV kV ho hd hcd hD hmg hg args vals as hpre hlay hrd hwl hlo
  obtain rfl : dV = .none := Dflts.none hD hdf
  obtain rfl : kV = .none := Dflts.noKw hD
  obtain ⟨a, vs, ns, rfl, rfl, hobj, hints, hlen⟩ := script_of hn hpre hwl
  refine enter_call ?_
  refine call_cells_ret (o := o) (by rw [depth_caller]; decide) ho (fd_plain hd) G.T.nolimit hcd (hbind pm cd doc (.ref a)) (fun y hy => ?_) (fun h₁ tk F X => ?_) hco hgen hk
  · obtain rfl : y = (x, Value.ref a) := List.mem_singleton.mp hy
    rcases hx with e | e
    · exact .inl e
    · exact .inr ⟨e, cellsFrom_some _ _ _ (.inl e)⟩
  · refine wpAny_mono (body w s₀ s₁ { s₁ with heap := h₁, toks := tk } mg mb fa o pm cd doc a vs ns G Y ho (fd_plain hd) hcd hmg hobj hints hlen hg rfl F X) (fun f s' hq => ?_) (fun _ _ hq => hq)
    obtain ⟨rfl, h2, h3, h4⟩ := hq
    exact ⟨.inl ⟨.bool true, .bool true, [], rfl, fun _ => rfl, .bool true, post_true l _, fun _ => ⟨List.Pairwise.nil, fun _ hm => (nomatch hm)⟩⟩, h2, h3, h4⟩

/-- the same from a codeAny of the CALL (for a layer whose function contracts speak of calls) -/
theorem attach_call {l : OpenLaw} {n : Nat} {q : Program} {loose : List Str} {XP : (Str → Option Value) → Heap → Prop} {YP : World → Heap → Prop} {d : DefRec}
    (hn : l.most = some n) (hdf : d.params.defaults = [])
    (call : ∀ (w : World) (s₀ s₁ : Shared) (mg mb : Str → Option Value) (fa : Addr) (o : Obj) (pm cd doc : Value) (a : Addr) (vs : List Value) (ns : List Int),
      Ground q loose [] XP w s₀ mg mb s₁.heap → YP w s₁.heap →
      s₁.heap.get? fa = some o → o.data = .func (docDef d.name d.params d.body d.scope pm cd doc) → s₁.heap.CodeRec cd d.name → mg d.name = some (.ref fa) →
      s₁.heap.get? a = some { cls := .type "list", data := .seq vs.toArray } → IntsAre vs ns → ns.length ≤ n → s₁.gens = #[] →
      codeAny (model l.prog w) callerA (.call (.ref fa) ⟨[.ref a], []⟩) (fun r s' => r = .ok (.ret (.bool true)) ∧ OldK s₁.heap s'.heap ∧ s'.os = s₁.os ∧ AllBare s'.gens) s₁) :
    WalkO q loose XP YP l.row.toRowW d [] (fun f vs => PySem.call f vs) := by
  intro w s₀ s₁ mg mb G Y fa o pm cd doc dV kV ho hd hcd hD hmg hg args vals as hpre hlay hrd hwl hlo
  obtain rfl : dV = .none := Dflts.none hD hdf
  obtain rfl : kV = .none := Dflts.noKw hD
  obtain ⟨a, vs, ns, rfl, rfl, hobj, hints, hlen⟩ := script_of hn hpre hwl
  refine enter_call (codeAny_mono (call w s₀ s₁ mg mb fa o pm cd doc a vs ns G Y ho (fd_plain hd) hcd hmg hobj hints hlen hg) fun r s' hq => ?_)
  obtain ⟨rfl, h2, h3, h4⟩ := hq
  exact ⟨.inl ⟨.bool true, .bool true, [], rfl, fun _ => rfl, .bool true, post_true l _, fun _ => ⟨List.Pairwise.nil, fun _ hm => (nomatch hm)⟩⟩, h2, h3, h4⟩

/-- the same where the top left finished generators (o_head chose holds_openN): nothing may have changed at all and no generator may be left -/
theorem attachN {l : OpenLaw} {n : Nat} {q : Program} {loose : List Str} {XP : (Str → Option Value) → Heap → Prop} {YP : World → Heap → Prop} {d : DefRec} {x : Str}
    (hn : l.most = some n) (hdf : d.params.defaults = [])
    (hbind : ∀ pm cd doc v : Value, bindArgs (docDef d.name d.params d.body d.scope pm cd doc) ⟨[v], []⟩ = pure [(x, v)])
    (hx : d.scope.names.lookup x = some .local ∨ d.scope.names.lookup x = some .cell)
    (hk : d.scope.kind = .function) (hco : d.scope.isCoroutine = false) (hgen : d.scope.isGenerator = false)
    (body : ∀ (w : World) (s₀ s₁ s : Shared) (mg mb : Str → Option Value) (fa : Addr) (o : Obj) (pm cd doc : Value) (a : Addr) (vs : List Value) (ns : List Int),
      Ground q loose [] XP w s₀ mg mb s₁.heap → YP w s₁.heap →
      s₁.heap.get? fa = some o → o.data = .func (docDef d.name d.params d.body d.scope pm cd doc) → s₁.heap.CodeRec cd d.name → mg d.name = some (.ref fa) →
      s₁.heap.get? a = some { cls := .type "list", data := .seq vs.toArray } → IntsAre vs ns → ns.length ≤ n →
      s.gens = #[] → s.os = s₁.os →
      Fr s₁.heap s₁.heap.objs.size s.heap (bindL (envOfC d.name d.scope s₁.heap.objs.size fa cd).kindOf [(x, .ref a)] fun _ => none) →
      Cl s₁.heap.objs.size (cellsFrom (s₁.heap.objs.size + 1) d.scope.names []) s.heap (bindC (envOfC d.name d.scope s₁.heap.objs.size fa cd).kindOf [(x, .ref a)] fun _ => none) →
      wpAny (model l.prog w) (callerA.deeper (envOfC d.name d.scope s₁.heap.objs.size fa cd)) (execs d.body (envOfC d.name d.scope s₁.heap.objs.size fa cd))
        (fun f s' => f = .ret (.bool true) ∧ (∀ b o, s₁.heap.get? b = some o → s'.heap.get? b = some o) ∧ s'.os = s₁.os ∧ s'.gens = #[]) (fun _ _ => False) s) :
    WalkN q loose XP YP l.row.toRowW d [] (fun f vs => PySem.call f vs) := by
  intro w s₀ s₁ mg mb G Y fa o pm cd doc dV kV ho hd hcd hD hmg hg args vals as hpre hlay hrd hwl hlo
  obtain rfl : dV = .none := Dflts.none hD hdf
  obtain rfl : kV = .none := Dflts.noKw hD
  obtain ⟨a, vs, ns, rfl, rfl, hobj, hints, hlen⟩ := script_of hn hpre hwl
  refine enter_callW ?_
  refine call_cells_ret (o := o) (by rw [depth_caller]; decide) ho (fd_plain hd) G.T.nolimit hcd (hbind pm cd doc (.ref a)) (fun y hy => ?_) (fun h₁ tk F X => ?_) hco hgen hk
  · obtain rfl : y = (x, Value.ref a) := List.mem_singleton.mp hy
    rcases hx with e | e
    · exact .inl e
    · exact .inr ⟨e, cellsFrom_some _ _ _ (.inl e)⟩
  · refine wpAny_mono (body w s₀ s₁ { s₁ with heap := h₁, toks := tk } mg mb fa o pm cd doc a vs ns G Y ho (fd_plain hd) hcd hmg hobj hints hlen hg rfl F X) (fun f s' hq => ?_) (fun _ _ hq => hq)
    obtain ⟨rfl, h2, h3, h4⟩ := hq
    exact ⟨.inl ⟨.bool true, .bool true, [], rfl, fun _ => rfl, .bool true, post_true l _, fun _ => ⟨List.Pairwise.nil, fun _ hm => (nomatch hm)⟩⟩, h2, h3, h4⟩

/-! ### rules over ANY heap (no ledger) from facts about the written part K: the library's own take a ledger (News) for what they write -/
section
variable {prog : Program} {w : World} {A : Around} {E : Value → Shared → Prop} {s : Shared} {K : Frag}

/-- a def of the module, or a method (qual 'C.m'), entered: the frame is the next address; cells behind it -/
theorem call_fn {R : Result → Shared → Prop} {name qual : Str} {params : Arguments} {body : List Stmt} {scope : Scope} {dV kV doc pm cdv ct oc : Value} {an od : Option Addr} {osl : Array (Option Value)} {f : Addr} {args : Args} {binds : List (Str × Value)}
    (X : K.In s.heap) (hlim : s.heap.NoLimit) (ho : K.lookup f = some ⟨oc, od, .func (fnOf name qual params body scope dV kV doc pm an cdv ct), osl⟩) (hcd : codeIn K cdv qual = true) (hroom : A.depth < recursionLimit)
    (hbind : BindsTo s (fnOf name qual params body scope dV kV doc pm an cdv ct) args binds)
    (hkind : (binds.all fun y => scope.names.lookup y.1 == some .local || scope.names.lookup y.1 == some .cell) = true)
    (h : ∀ s₁, InCallC s s.heap.objs.size (bindL (envOfC qual scope s.heap.objs.size f cdv).kindOf binds fun _ => none) (cellsFrom (s.heap.objs.size + 1) scope.names [])
        (bindC (envOfC qual scope s.heap.objs.size f cdv).kindOf binds fun _ => none) s₁ →
      wpAny (model prog w) (A.deeper (envOfC qual scope s.heap.objs.size f cdv)) (execs body (envOfC qual scope s.heap.objs.size f cdv))
        (fun fl s' => R (.ok (.ret (match fl with | .ret v => v | _ => .none))) s')
        (fun e s' => wpAny (model prog w) (A.deeper (envOfC qual scope s.heap.objs.size f cdv)) (leaving (envOfC qual scope s.heap.objs.size f cdv) e) (fun _ s'' => R (.error e) s'') (fun e' s'' => R (.error e') s'') s') s₁)
    (hco : scope.isCoroutine = false) (hgen : scope.isGenerator = false) (hk : scope.kind = .function) : codeAny (model prog w) A (.call (.ref f) args) R s := by
  refine codeAny_call_function hroom (X _ _ ho) rfl hco hgen rfl (codeRec_of X hcd) (hbind _ _ _ _ ?_)
  refine wpAny_newFunctionEnv_cells hk (kindsX hkind _) fun env he s₁ x => ?_
  subst he
  exact ⟨hlim.keeps x.toInCall.keep, codeAny_func (h s₁ x)⟩

/-- C(..): dict at size, instance at size + 1, then __init__ -/
theorem make_obj {R : Result → Shared → Prop} {C fI : Addr} {rest : List Value} {kw : List (Str × Value)}
    (X : K.In s.heap) (hm : makesIn K C = true) (hi : findIn K (.ref C) "__init__" = some (some (.ref fI))) (hf : isFn K (.ref fI) = true)
    (h : codeAny (model prog w) (A.under (.builtin "type.__call__" ⟨.ref C :: rest, kw⟩)) (.call (.ref fI) ⟨.ref (s.heap.objs.size + 1) :: rest, kw⟩) (InitBack (s.heap.objs.size + 1) R)
      { s with heap := (s.heap.push emptyDict).push (instObj C s.heap.objs.size) }) : codeAny (model prog w) A (.call (.ref C) ⟨rest, kw⟩) R s := by
  obtain ⟨hh, g, d, t, os⟩ := s
  exact make_core (makes_of X hm) (looks_findIn X hi) (fun self => bind_fn X self (beq_iff_eq.mp hf)) (.inl rfl) h

/-- x.name where the instance's dict holds the name and the class does not -/
theorem get_field {x C : Addr} {ox : Obj} {es : List DictEntry} {n : Nat} {name : Str} {expr : Bool} {v : Value} {Q : Value → Shared → Prop}
    (X : K.In s.heap) (I : PySem.W.InstAt s.heap x ox C (some (dictOf es n))) (hg : plainGet K C name = true) (hh : hasDictIn K C = true) (ha : findIn K (.ref C) name = some none)
    (hl : getL name es = some (some v)) (hv : handedIn v = true) (h : Q v { s with toks := s.toks + 1 }) : wpAny (model prog w) A (getAttr (.ref x) name expr) Q E s :=
  get_value X I (plainGet_of hg).1 (findObj_own hh ha rfl hl) hv h

/-- x.m(..): the method found in the class -/
theorem get_method {x C f : Addr} {ox : Obj} {es : List DictEntry} {n : Nat} {name : Str} {pl : Sem Bool} {Q : Value × List Value → Shared → Prop}
    (X : K.In s.heap) (I : PySem.W.InstAt s.heap x ox C (some (dictOf es n))) (hg : plainGet K C name = true) (hf : findIn K (.ref C) name = some (some (.ref f))) (ht : isFn K (.ref f) = true)
    (hl : getL name es = some none) (h : Q (.ref f, [.ref x]) s) : wpAny (model prog w) A (getMethod (.ref x) name pl) Q E s :=
  method_fn X I (plainGet_of hg).1 (plainGet_of hg).2 hf (beq_iff_eq.mp ht) (by show (lookIn name (dictOf es n)).map _ = _; rw [lookIn_dict, hl]; rfl) h

/-! the whole heap as the ledger: makes every rule that writes through a ledger a rule over any heap -/
def noObjs (h : Heap) : Heap := { h with objs := #[] }
theorem noObjs_get (h : Heap) (b : Addr) : (noObjs h).get? b = none := by
  cases e : (noObjs h).get? b with
  | none => rfl
  | some o => exact absurd (Heap.lt_size e) (Nat.not_lt_zero _)
def ledger (h : Heap) (L d : Addr) : List (Addr × Obj) := (List.range h.objs.size).filterMap fun a => if a = L ∨ a = d then none else (h.get? a).map fun o => (a, o)
theorem mem_ledger {h : Heap} {L d a : Addr} {o : Obj} : (a, o) ∈ ledger h L d ↔ a ≠ L ∧ a ≠ d ∧ h.get? a = some o := by
  unfold ledger
  rw [List.mem_filterMap]
  constructor
  · rintro ⟨b, _, e⟩
    split at e
    · cases e
    · rename_i hb
      obtain ⟨o', ho, e'⟩ := Option.map_eq_some_iff.mp e
      cases e'
      exact ⟨fun q => hb (.inl q), fun q => hb (.inr q), ho⟩
  · rintro ⟨n1, n2, ho⟩
    refine ⟨a, List.mem_range.mpr (Heap.lt_size ho), ?_⟩
    rw [if_neg (show ¬ (a = L ∨ a = d) from fun q => q.elim n1 n2), ho] <;> rfl
theorem news_ledger {h : Heap} {L d : Addr} {od : Obj} (hne : d ≠ L) (ho : h.get? d = some od) : News (noObjs h) L h ([] ++ (d, od) :: ledger h L d) := by
  rintro ⟨a, o⟩ hp
  rcases List.mem_cons.mp hp with e | hp
  · cases e
    exact ⟨ho, hne, noObjs_get _ _⟩
  · obtain ⟨n1, n2, e⟩ := mem_ledger.mp hp
    exact ⟨e, n1, noObjs_get _ _⟩
theorem fr_all {h : Heap} {L : Addr} {m : Str → Option Value} (n : h.Ns L m) : Fr (noObjs h) L h m :=
  ⟨n, fun b o e => (by rw [noObjs_get] at e; cases e), Nat.zero_le _⟩
/-- Upd of the head entry (for append_K, setItem_K ..) -/
theorem upd_ledger {h : Heap} {L d : Addr} {o o' : Obj} : Upd d o o' ((d, o) :: ledger h L d) ((d, o') :: ledger h L d) :=
  .head fun ⟨_, _⟩ hp => (mem_ledger.mp hp).2.1

/-- x.name = v over any heap: L is any namespace of the heap (the frame's, say): its map stays, its object is not told; all else but the dict stays -/
theorem set_field {x C dx L : Addr} {ox : Obj} {m : Str → Option Value} {es es' : List DictEntry} {n n' : Nat} {name : Str} {v : Value} {Q : Unit → Shared → Prop}
    (X : K.In s.heap) (I : PySem.W.InstAt s.heap x ox C (some (dictOf es n))) (hd : ox.dict = some dx) (hL : s.heap.Ns L m) (hne : dx ≠ L)
    (hs : findIn K (.ref C) "__setattr__" = some (some (.builtin "object.__setattr__"))) (hp : plainOver K C = true) (ht : takerIn K C name = some none) (hh : hasDictIn K C = true) (hl : (getL name es).isSome = true)
    (e : (putL name (PyData.keyHash w.params name) (.str name (s.toks + 1)) v es, putN name es n) = (es', n')) (hz : es'.length ≤ 1000)
    (h : ∀ h' : Heap, h'.Ns L m → h'.get? dx = some (dictOf es' n') → (∀ b o, b ≠ dx → b ≠ L → s.heap.get? b = some o → h'.get? b = some o) → Q () { s with heap := h', toks := s.toks + 2 }) :
    wpAny (model prog w) A (setAttr (.ref x) name v) Q E s := by
  obtain ⟨e1, e2⟩ := Prod.mk.inj e
  have hdx : s.heap.get? dx = some (dictOf es n) := by
    have := I.dict
    rw [hd] at this
    exact this
  refine set_plain X I hs (osa_dict (s := { s with toks := s.toks + 1 }) (h₀ := noObjs s.heap) (L := L) (m := m) (od := dictOf es n) (od' := dictOf es' n') (es := es') (n := n') (pre := []) (post := ledger s.heap L dx)
    (fr_all hL) (news_ledger hne hdx) X I hd hp ht hh hl (fun _ q => nomatch q) (fun ⟨_, _⟩ q => (mem_ledger.mp q).2.1) (by rw [putName_dict, e1, e2]) rfl hz fun h' F' N' => ?_)
  exact h h' F'.ns (N'.get (List.Mem.head _)) fun b o n1 n2 ho => N'.get (List.Mem.tail _ (mem_ledger.mpr ⟨n2, n1, ho⟩))
end
end Att

namespace L2
open PySem PySem.Spec PyProof.Rows

theorem vals_ints : ∀ {vs : List Value} {ns : List Int}, IntsAre vs ns → Vals (ns.map V.int) vs
  | _, _, .nil => .nil
  | _, _, .cons n t h => .cons ⟨t, rfl⟩ (vals_ints h)

/-- nothing is tracked but the script, known to the object (or it is an object of the module) -/
def Only (H : Hp) : Prop := ∀ b, H b = none ∨ ∃ o xs, H b = some (.frz o (.lst xs))

/-- THE HEAD: the law's promise, at the heap behind the top. F, the promise of the law's def, may use that base is part of the heap (so K.In base, base.Ns mainGlobals mg stand in Mod) -/
theorem law_call {P : Program} {w : World} {K : PySem.W.Frag} {mg mb : Str → Option Value} {CX : CXT} {k : Nat} {fa a : Addr} {fd : FuncData} {x : Str} {sp : Sp} {s₁ : Shared} {vs : List Value} {ns : List Int}
    (KX : K.In s₁.heap) (hns : s₁.heap.Ns mainGlobals mg) (hb : s₁.heap.Ns builtinsNs mb) (hbb : ∀ x : Str, x ≠ "__name__" → mb x = bootBuiltins x) (hlim : s₁.heap.NoLimit) (hg : s₁.gens = #[])
    (ha : s₁.heap.get? a = some { cls := .type "list", data := .seq vs.toArray }) (hi : IntsAre vs ns) (hl : ns.length ≤ sizeLine) (hr : Room k callerA)
    (F : ∀ base : Heap, K.In base → base.Ns mainGlobals mg → FnOk P w K mg base CX k fa fd [x] sp) (hbind : ∀ (s : Shared) (u : Value), BindsTo s fd ⟨[u], []⟩ [(x, u)])
    (hsp : ∀ H : Hp, Only H → SqL K H a (ns.map V.int) → sp [.ref a] H (fun v _ => v = .bl true) fun _ _ _ => False)
    (hCX : ∀ H e s', CX [] H s₁ (fun _ _ _ => False) e s' → False) :
    codeAny (model P w) callerA (.call (.ref fa) ⟨[.ref a], []⟩) (fun r s' => r = .ok (.ret (.bool true)) ∧ OldK s₁.heap s'.heap ∧ s'.os = s₁.os ∧ AllBare s'.gens) s₁ := by
  have rv := vals_ints hi
  have lenV := hi.length
  -- from an abstract heap in which nothing but the script may be tracked
  have core : ∀ H : Hp, Only H → SqL K H a (ns.map V.int) → HOk P w H s₁.heap → (∀ b, H b ≠ none → b = a) → (H a ≠ none → K.lookup a = none) →
      codeAny (model P w) callerA (.call (.ref fa) ⟨[.ref a], []⟩) (fun r s' => r = .ok (.ret (.bool true)) ∧ OldK s₁.heap s'.heap ∧ s'.os = s₁.os ∧ AllBare s'.gens) s₁ := by
    intro H hO hS hok hA hK
    have base_of : ∀ {b : Addr} {o : Obj}, s₁.heap.get? b = some o → H b = none → (hidT s₁.heap H).get? b = some o := fun e n => hidT_get e n
    have noA : ∀ {b : Addr} {o : Obj} {es : Array DictEntry} {ep : Nat}, s₁.heap.get? b = some o → o.data = .dict es ep → H b = none := fun {b o es ep} e d => by
      cases q : H b with
      | none => rfl
      | some u =>
        have e' : b = a := hA b (by rw [q]; simp)
        subst e'
        rw [ha] at e; cases e
        have d' : Data.seq vs.toArray _ = Data.dict es ep := d
        cases d'
    have nsK : ∀ {b : Addr} {m : Str → Option Value}, s₁.heap.Ns b m → (hidT s₁.heap H).Ns b m := fun {b m} ⟨o, es, ep, e, d, r⟩ => ⟨o, es, ep, base_of e (noA e d), d, r⟩
    have hKb : K.In (hidT s₁.heap H) := fun b o e => base_of (KX b o e) (by
      cases q : H b with
      | none => rfl
      | some u =>
        have e' : b = a := hA b (by rw [q]; simp)
        subst e'
        rw [hK (by rw [q]; simp)] at e; cases e)
    have hM : Mod K mg (hidT s₁.heap H) := ⟨hKb, nsK hns, ⟨mb, nsK hb, hbb⟩, let ⟨mc, h1, h2⟩ := hlim; ⟨mc, nsK h1, h2⟩⟩
    have e0 : Env0 P w K mg (hidT s₁.heap H) callerA [] s₁ H := ⟨rfl, hM, fun b o e => of_hidT e, Nat.le_of_eq (hidT_size _ _), trivial, fun b hb => absurd (show b ∈ ([] : List Addr) from hb) (by simp), hok, .of_eq hg⟩
    refine codeAny_mono ((F _ hKb (nsK hns)).run callerA [] s₁ H ⟨[.ref a], []⟩ [.ref a] [.ref a] _ _ hr e0 (hbind s₁ (.ref a)) (.cons rfl .nil) (hsp H hO hS)) fun r s' h => ?_
    cases r with
    | error e => exact (hCX H e s' h).elim
    | ok fl =>
      cases fl with
      | next => exact False.elim h
      | brk => exact False.elim h
      | cont => exact False.elim h
      | ret u =>
        obtain ⟨v, H', os, bare, un, hok', r', q⟩ := h
        have q' : v = .bl true := q
        subst q'
        obtain rfl : u = Value.bool true := r'
        refine ⟨rfl, OldK.of_keep fun b o e => ?_, os, bare⟩
        cases q : H b with
        | none => exact un.keep b o e q (by intro z; exact absurd (show b ∈ ([] : List Addr) from z) (by simp)) (by simp)
        | some u =>
          rcases hO b with z | ⟨ob, xs, z⟩
          · rw [q] at z; cases z
          · have z2 := un.frzs b ob _ z
            obtain ⟨e1, _⟩ := hok b _ z
            obtain ⟨e2, _⟩ := hok' b _ z2
            rw [e] at e1; cases e1
            exact e2
  cases hk : K.lookup a with
  | some o =>
    -- the script is one of the module's own objects
    have e := KX a o hk
    rw [ha] at e
    cases e
    refine core (fun _ => none) (fun _ => .inl rfl) (.inr ⟨_, vs.toArray, _, hk, rfl, rfl, rfl, by rw [List.size_toArray, lenV]; exact hl, by simpa using rv⟩) (fun b u z => by have z' : (none : Option HO) = some u := z; cases z') (fun b z => absurd rfl z) fun z => absurd rfl z
  | none =>
    refine core (fun b => if b = a then some (.frz { cls := .type "list", data := .seq vs.toArray } (.lst (ns.map V.int))) else none) (fun b => ?_) (.inl (.inr ⟨{ cls := .type "list", data := .seq vs.toArray }, if_pos rfl⟩)) (fun b u z => ?_) (fun b z => ?_) fun _ => hk
    · by_cases hb : b = a
      · exact .inr ⟨_, _, if_pos hb⟩
      · exact .inl (if_neg hb)
    · by_cases hb : b = a
      · have z' := (if_pos hb).symm.trans z
        cases z'
        subst hb
        exact ⟨ha, by rw [List.length_map]; exact hl, vs, _, rv, ha⟩
      · have z' := (if_neg hb).symm.trans z
        cases z'
    · by_cases hb : b = a
      · exact hb
      · exact absurd (if_neg hb) z
end L2

namespace L2
open PySem PySem.Spec PyProof.Rows

abbrev KOf {K : PySem.W.Frag} {h : Heap} (_ : K.In h) : PySem.W.Frag := K

/-- the goal that k_head leaves (case hc), from the law's promise. F gives the function object fd (K's own) once, then the promise over every base -/
theorem walk_of {l : PySem.W.OpenLaw} {n k : Nat} {q : Program} {loose : List Str} {XP : (Str → Option Value) → Heap → Prop} {YP : World → Heap → Prop} {d : DefRec} {K : Params → PySem.W.Frag} {CX : World → CXT} {sp : World → Sp} {x : Str}
    (hn : l.most = some n) (hn2 : n ≤ sizeLine) (hdf : d.params.defaults = []) (hr : Room k callerA)
    (hY : ∀ (w : World) (h : Heap), YP w h → (K w.params).In h)
    (F : ∀ (w : World) (mg : Str → Option Value) (fa : Addr) (h : Heap), (K w.params).In h → h.Ns mainGlobals mg → mg d.name = some (.ref fa) →
      ∃ fd : FuncData, (∀ (s : Shared) (u : Value), BindsTo s fd ⟨[u], []⟩ [(x, u)]) ∧
        ∀ base : Heap, (K w.params).In base → base.Ns mainGlobals mg → FnOk l.prog w (K w.params) mg base (CX w) k fa fd [x] (sp w))
    (hsp : ∀ (w : World) (H : Hp) (a : Addr) (ns : List Int), ns.length ≤ n → Only H → SqL (K w.params) H a (ns.map V.int) → sp w [.ref a] H (fun v _ => v = .bl true) fun _ _ _ => False)
    (hCX : ∀ (w : World) (H : Hp) (s : Shared) (e : Value) (s' : Shared), CX w [] H s (fun _ _ _ => False) e s' → False) :
    PySem.W.WalkO q loose XP YP l.row.toRowW d [] (fun f vs => PySem.call f vs) := by
  refine Att.attach_call hn hdf fun w s₀ s₁ mg mb fa o pm cd doc a vs ns G Y ho hd hcd hmg hobj hints hlen hg => ?_
  have KX := hY w _ Y
  obtain ⟨fd, hb, hF⟩ := F w mg fa _ KX G.T.g hmg
  exact law_call KX G.T.g G.T.b G.T.builtins G.T.nolimit hg hobj hints (Nat.le_trans hlen hn2) hr hF hb (fun H hO hS => hsp w H a ns hlen hO hS) fun H e s' => hCX w H s₁ e s'
/-- the same where the promise hangs on the written part alone: (sp := My.sp_law), no hole under a binder -/
theorem walk_ofK {l : PySem.W.OpenLaw} {n k : Nat} {q : Program} {loose : List Str} {XP : (Str → Option Value) → Heap → Prop} {YP : World → Heap → Prop} {d : DefRec} {K : Params → PySem.W.Frag} {CX : CXT} {sp : PySem.W.Frag → Sp} {x : Str}
    (hn : l.most = some n) (hn2 : n ≤ sizeLine) (hdf : d.params.defaults = []) (hr : Room k callerA)
    (hY : ∀ (w : World) (h : Heap), YP w h → (K w.params).In h)
    (F : ∀ (w : World) (mg : Str → Option Value) (fa : Addr) (h : Heap), (K w.params).In h → h.Ns mainGlobals mg → mg d.name = some (.ref fa) →
      ∃ fd : FuncData, (∀ (s : Shared) (u : Value), BindsTo s fd ⟨[u], []⟩ [(x, u)]) ∧
        ∀ base : Heap, (K w.params).In base → base.Ns mainGlobals mg → FnOk l.prog w (K w.params) mg base CX k fa fd [x] (sp (K w.params)))
    (hsp : ∀ (K : PySem.W.Frag) (H : Hp) (a : Addr) (ns : List Int), ns.length ≤ n → Only H → SqL K H a (ns.map V.int) → sp K [.ref a] H (fun v _ => v = .bl true) fun _ _ _ => False)
    (hCX : ∀ (H : Hp) (s : Shared) (e : Value) (s' : Shared), CX [] H s (fun _ _ _ => False) e s' → False) :
    PySem.W.WalkO q loose XP YP l.row.toRowW d [] (fun f vs => PySem.call f vs) :=
  walk_of (K := K) (CX := fun _ => CX) (sp := fun w => sp (K w.params)) hn hn2 hdf hr hY F (fun w H a ns h1 h2 h3 => hsp (K w.params) H a ns h1 h2 h3) fun _ H s e s' => hCX H s e s'
end L2

/- THE LAST THEOREM (shape; LID, My.* are yours):
   My.Adr: a structure of the addresses that your layer names (classes, functions); My.Txt K t: a structure (Prop) of the equations over K;
   My.txt_mk : {K} {implicit addresses ..} (e1 : nsIn K mainGlobals "law" = some (some (.ref f))) (e2 : K.lookup f = some ⟨oc, od, .func (fnOf "law" "law" params body scope dV kV doc pm an cdv ct), sl⟩) (e3 : codeIn K cdv "law" = true) .. : ∃ t, My.Txt K t

set_option maxRecDepth 100000 in
set_option maxHeartbeats 0 in
theorem PySem.Challenge.cw_LID_holds : PySem.Challenge.rw_LID.Holds := by
  w_on; o_law; k_head; (case hw => w_witness2)
  k_fill
  refine L2.walk_of (l := PySem.Challenge.rw_LID) (n := 63) (k := 40) (x := "script") (CX := fun w => ..) (sp := fun _ => My.sp_law) rfl (by decide) rfl ⟨rfl, by decide, by decide⟩ (fun w h Y => PySem.W.kIn_of Y) ?F ?S ?C
  case F =>
    intro w mg fa h KX G hmg
    have T : ∃ t, My.Txt (L2.KOf KX) t := by
      dsimp only [L2.KOf]                          -- K must stand as «<heap const> w.params» for k_is
      refine' My.txt_mk ?e1 ?e2 ?e3 ..
      (case e1 => PySem.W.k_is)                    -- in the order: a name -> its address -> its object -> its parts
      (case e2 => PySem.W.k_is)
      ..
    obtain ⟨t, T⟩ := T
    have e0 := hmg.symm.trans (PySem.W.mg_of KX G T.law)
    cases e0                                       -- fa is the law's own address
    exact ⟨_, fun s u => .of_eq rfl, fun base kb nb => My.law_fn T kb nb⟩     -- if «.of_eq rfl» comes too early: refine' ⟨_, ?b, fun base kb nb => My.law_fn T kb nb⟩; exact fun s u => .of_eq rfl
  case S => exact fun w H a ns hl hO hS => ..
  case C => exact ..
(the tactic k_is has no namespace: write k_is) -/

/-! SHORT WORDS over the layer: a def of the text, its body, what a loop and a test want. -/
namespace L2
open PySem PySem.Spec PyProof.Rows

/-! ### the text by places -/
/-- the j-th statement of a class's body -/
def inClass (s : Stmt) (j : Nat) : Stmt := match s with
  | .ClassDef _ _ _ body _ _ _ _ _ _ _ => body.getD j (.Pass ⟨0, 0, 0, 0⟩)
  | _ => .Pass ⟨0, 0, 0, 0⟩
def defArgs (s : Stmt) : Arguments := match s with
  | .FunctionDef _ a _ _ _ _ _ _ _ _ => a
  | _ => { posonlyargs := [], args := [], vararg := none, kwonlyargs := [], kw_defaults := [], kwarg := none, defaults := [] }
def defBody (s : Stmt) : List Stmt := match s with
  | .FunctionDef _ _ b _ _ _ _ _ _ _ => b
  | _ => []
def defScope (s : Stmt) : Scope := match s with
  | .FunctionDef _ _ _ _ _ _ sc _ _ _ => sc
  | _ => { kind := .function, names := [], isGenerator := false, isCoroutine := false }

/-! ### no exception leaves a def -/
abbrev CX0 : CXT := fun _ _ _ _ _ _ => False
abbrev E0 : XK := fun _ _ _ => False
theorem pass0 {X : Cx} : Passes CX0 X E0 := fun _ _ _ _ _ _ _ h => h.elim

/-! ### a def (or method) of the text as it stands behind the top -/
structure Fun (K : PySem.W.Frag) (x qual : Str) (st : Stmt) (f : Addr) (fd : FuncData) : Prop where
  ex : ∃ (oc : Value) (od : Option Addr) (kV doc pm : Value) (an : Option Addr) (cdv ct : Value) (osl : Array (Option Value)),
    fd = PySem.W.fnOf x qual (defArgs st) (defBody st) (defScope st) .none kV doc pm an cdv ct ∧ K.lookup f = some ⟨oc, od, .func fd, osl⟩ ∧ PySem.W.codeIn K cdv qual = true
  kp : PySem.W.keepIn K (.ref f) = true
section
variable {P : Program} {w : World} {K : PySem.W.Frag} {mg : Str → Option Value} {base : Heap}
/-- THE RULE for a def: its body as a term of rules, and the reading of that term -/
theorem Fun.ok {x qual : Str} {st : Stmt} {f : Addr} {fd : FuncData} {N ps : List Str} {k : Nat} {sp : Sp} (F : Fun K x qual st f fd) (S : FnScope N ps (defScope st)) (len : ∀ vs H Q E, sp vs H Q E → vs.length = ps.length)
    (hbody : ∀ (cdv : Value) (A : Around) (outer : List Env) (s : Shared) (H : Hp) (vs : List V) (Q : VK) (E : XK), Room k (A.deeper (envOfC qual (defScope st) s.heap.objs.size f cdv)) → sp vs H Q E →
      ∃ t, PSs (cxOf CX0 P w K mg base N qual (defScope st) f cdv A outer s H E).nox (defBody st) t ∧ t { nx := fun _ H' => Q .non H', rt := Q } (start N vs) H) : FnOk P w K mg base CX0 (k + 1) f fd ps sp := by
  obtain ⟨oc, od, kV, doc, pm, an, cdv, ct, osl, rfl, lk, hcd⟩ := F.ex
  refine fn_of lk hcd S len fun A outer s H vs Q E hr hsp => ?_
  obtain ⟨t, h, q⟩ := hbody cdv A outer s H vs Q E hr hsp
  exact ⟨t, h.nox, q⟩
/-- how its arguments bind (no defaults): h is «fun _ _ _ _ _ _ us hl => match us, hl with | [_, _], _ => rfl», one _ a parameter -/
theorem Fun.binds {x qual : Str} {st : Stmt} {f : Addr} {fd : FuncData} {ps : List Str} (F : Fun K x qual st f fd)
    (h : ∀ (kV doc pm : Value) (an : Option Addr) (cdv ct : Value) (us : List Value), us.length = ps.length → bindArgs (PySem.W.fnOf x qual (defArgs st) (defBody st) (defScope st) .none kV doc pm an cdv ct) ⟨us, []⟩ = pure (ps.zip us)) : Binds K fd ps [] := by
  obtain ⟨oc, od, kV, doc, pm, an, cdv, ct, osl, rfl, lk, hcd⟩ := F.ex
  exact .all (h kV doc pm an cdv ct)
theorem fun_mk {x qual : Str} {st : Stmt} {f : Addr} {oc : Value} {od an : Option Addr} {osl : Array (Option Value)} {kV doc pm cdv ct : Value} (l : K.lookup f = some ⟨oc, od, .func (PySem.W.fnOf x qual (defArgs st) (defBody st) (defScope st) .none kV doc pm an cdv ct), osl⟩)
    (c : PySem.W.codeIn K cdv qual = true) (k : PySem.W.keepIn K (.ref f) = true) : Fun K x qual st f (PySem.W.fnOf x qual (defArgs st) (defBody st) (defScope st) .none kV doc pm an cdv ct) := ⟨⟨oc, od, kV, doc, pm, an, cdv, ct, osl, rfl, l, c⟩, k⟩
end
theorem hu_of {A : Around} {k : Nat} (hr : Room k A) : A.units + 1 < cLine := Nat.lt_of_le_of_lt (Nat.add_le_add_left (by decide : 1 ≤ 64) _) hr.units
theorem small1000 {n : Nat} (h : n ≤ 1000) : n < sizeLine := Nat.lt_of_le_of_lt h (by decide)

/-! ### expressions in short: the name that stands in the i-th slot -/
section
variable {X : Cx}
theorem pv (i : Nat) {x : Str} {pos : Pos} (hN : X.N[i]? = some x := by rfl) (hv : Vis X.env.scope x := by first | exact Or.inl rfl | exact Or.inr (Or.inl rfl) | exact Or.inr (Or.inr rfl)) (hd : (x == ("__debug__" : Str)) = false := by decide)
    (hcd : (x == ("__classdict__" : Str)) = false := by decide) : PE X (.Name x pos) (tVar i) := pe_var hN hv hd hcd
end

/-! ### tests -/
theorem iteF {A B : Prop} (h : B) : if false = true then A else B := by
  rw [if_neg Bool.false_ne_true]
  exact h
theorem iteT {A B : Prop} (h : A) : if true = true then A else B := by
  rw [if_pos rfl]
  exact h
theorem ite2 {c A B : Prop} [Decidable c] (h1 : c → A) (h2 : ¬ c → B) : if c then A else B := by
  by_cases h : c
  · rw [if_pos h]
    exact h1 h
  · rw [if_neg h]
    exact h2 h
theorem iteNS {c A B : Prop} [Decidable c] (hc : c) (h : B) : if (!decide c) = true then A else B := by
  rw [decide_eq_true hc]
  exact iteF h

/-! ### heaps -/
/-- all that was tracked is as it was -/
def Same (H H' : Hp) : Prop := ∀ b o, H b = some o → H' b = some o
theorem Same.refl (H : Hp) : Same H H := fun _ _ h => h
theorem Same.trans {H H1 H2 : Hp} (a : Same H H1) (b : Same H1 H2) : Same H H2 := fun c o h => b c o (a c o h)
theorem Same.free {H H' : Hp} (e : Same H H') {l : Addr} (h : H' l = Option.none) : H l = Option.none := by
  cases q : H l with
  | none => rfl
  | some o =>
    rw [e l o q] at h
    cases h
theorem Same.seq {K : PySem.W.Frag} {H H' : Hp} {a : Addr} {xs : List V} (e : Same H H') (h : SqL K H a xs) : SqL K H' a xs := by
  rcases h with (h | ⟨o, h⟩) | h
  · exact .inl (.inl (e _ _ h))
  · exact .inl (.inr ⟨o, e _ _ h⟩)
  · exact .inr h

end L2

namespace L2
open PySem PySem.Spec PyProof.Rows
/-! ### a dict's pairs: keys that differ -/
section
variable {κ : Type} [DecidableEq κ]
theorem valV_not {kvs : List (κ × V)} {k : κ} (h : valV kvs k = none) : ¬ k ∈ kvs.map (·.1) := by
  intro m
  obtain ⟨p, hp, e⟩ := List.mem_map.mp m
  have q : (kvs.any fun kv => decide (kv.1 = k)) = true := List.any_eq_true.mpr ⟨p, hp, decide_eq_true e⟩
  rw [valV_any, h] at q
  exact absurd q (by simp)
theorem valV_in {kvs : List (κ × V)} {k : κ} {v : V} (h : valV kvs k = some v) : k ∈ kvs.map (·.1) := by
  have q : (kvs.any fun kv => decide (kv.1 = k)) = true := by
    rw [valV_any, h]
    all_goals rfl
  obtain ⟨p, hp, e⟩ := List.any_eq_true.mp q
  exact List.mem_map.mpr ⟨p, hp, of_decide_eq_true e⟩
theorem nd_snoc : ∀ {l : List κ} {k : κ}, l.Nodup → ¬ k ∈ l → (l ++ [k]).Nodup
  | [], k, _, _ => by simp
  | a :: r, k, h, hk => by
    obtain ⟨h1, h2⟩ := List.nodup_cons.mp h
    show (a :: (r ++ [k])).Nodup
    refine List.nodup_cons.mpr ⟨fun m => ?_, nd_snoc h2 fun m => hk (List.mem_cons.mpr (Or.inr m))⟩
    rcases List.mem_append.mp m with q | q
    · exact h1 q
    · exact hk (List.mem_cons.mpr (Or.inl (List.mem_singleton.mp q).symm))
theorem nd_putK {kvs : List (κ × V)} {k : κ} (v : V) (hn : (kvs.map (·.1)).Nodup) (h : valV kvs k = none) : ((putK kvs k v).map (·.1)).Nodup := by
  rw [putK_new v h, List.map_append]
  exact nd_snoc hn (valV_not h)
theorem dropK_pos {p : κ × V} {r : List (κ × V)} {k : κ} (e : p.1 = k) : dropK (p :: r) k = dropK r k := by
  unfold dropK
  rw [List.filter_cons, if_neg (by simp [e])]
theorem dropK_neg {p : κ × V} {r : List (κ × V)} {k : κ} (e : ¬ p.1 = k) : dropK (p :: r) k = p :: dropK r k := by
  unfold dropK
  rw [List.filter_cons, if_pos (by simp [e])]
theorem dropK_no : ∀ {kvs : List (κ × V)} {k : κ}, ¬ k ∈ kvs.map (·.1) → dropK kvs k = kvs
  | [], _, _ => rfl
  | p :: r, k, h => by
    have h' : ¬ k ∈ r.map (·.1) := fun m => by
      obtain ⟨q, hq, e⟩ := List.mem_map.mp m
      exact h (List.mem_map.mpr ⟨q, List.mem_cons.mpr (Or.inr hq), e⟩)
    rw [dropK_neg fun e => h (List.mem_map.mpr ⟨p, List.mem_cons.mpr (Or.inl rfl), e⟩), dropK_no h']
theorem dropK_mem {kvs : List (κ × V)} {k : κ} {p : κ × V} (h : p ∈ dropK kvs k) : p ∈ kvs := (List.mem_filter.mp h).1
theorem nd_dropK : ∀ {kvs : List (κ × V)} {k : κ}, (kvs.map (·.1)).Nodup → ((dropK kvs k).map (·.1)).Nodup
  | [], _, _ => List.nodup_nil
  | p :: r, k, h => by
    have h : (p.1 :: r.map (·.1)).Nodup := h
    obtain ⟨h1, h2⟩ := List.nodup_cons.mp h
    by_cases e : p.1 = k
    · rw [dropK_pos e]
      exact nd_dropK h2
    · rw [dropK_neg e]
      show (p.1 :: (dropK r k).map (·.1)).Nodup
      refine List.nodup_cons.mpr ⟨fun m => h1 ?_, nd_dropK h2⟩
      obtain ⟨q, hq, eq⟩ := List.mem_map.mp m
      exact List.mem_map.mpr ⟨q, dropK_mem hq, eq⟩
theorem dropK_len : ∀ {kvs : List (κ × V)} {k : κ}, (kvs.map (·.1)).Nodup → k ∈ kvs.map (·.1) → (dropK kvs k).length + 1 = kvs.length
  | [], _, _, m => by simp at m
  | p :: r, k, h, m => by
    have h : (p.1 :: r.map (·.1)).Nodup := h
    have m : k = p.1 ∨ k ∈ r.map (·.1) := List.mem_cons.mp m
    obtain ⟨h1, h2⟩ := List.nodup_cons.mp h
    by_cases e : p.1 = k
    · subst e
      rw [dropK_pos rfl, dropK_no h1]
      all_goals rfl
    · have m' : k ∈ r.map (·.1) := m.resolve_left fun z => e z.symm
      have q := dropK_len h2 m'
      rw [dropK_neg e, List.length_cons, List.length_cons]
      omega
end
end L2


set_option Elab.async false
set_option linter.all false
set_option maxRecDepth 100000
/-! MY EXTENSION of the hand layer: big ints, isinstance, data (PyData) at the abstract heap, defs by name, readings for simp. -/
namespace L2
open PySem PySem.Spec PyProof.Rows

/-! ### big ints -/
section
variable {X : Cx}
def CDivX (i j : Int) : Prop := 0 < j ∧ j.natAbs.log2 < 9000
theorem op_fdivX : OpR X (binaryOp .FloorDiv) (rI CDivX fun i j => .int (i / j)) := opI fun i j _ _ _ _ _ hc q => by
  have h1 : (0 : Int) < j := hc.1
  exact floordiv_int (by omega) (by rw [Int.fdiv_eq_ediv_of_nonneg i (by omega)]; exact q) (.inl (PyProof.noPylong_of_log2 hc.2))
theorem op_mulX : OpR X (binaryOp .Mult) (rI IntMulOk fun i j => .int (i * j)) := opI fun _ _ _ _ _ _ _ hc q => mul_int q hc
theorem bits_of {k : Int} {n : Nat} (h : k.natAbs < 2 ^ n) : Builtin.Int.intBits k ≤ n := by
  unfold Builtin.Int.intBits
  split
  · exact Nat.zero_le _
  · rename_i h0
    have hk : k.natAbs ≠ 0 := by
      intro z
      apply h0
      rw [Int.natAbs_eq_zero.mp z]
      rfl
    have := (Nat.log2_lt hk).mpr h
    omega
theorem mulOk {i j : Int} (n m : Nat) (hi : i.natAbs < 2 ^ n) (hj : j.natAbs < 2 ^ m) (hn : n ≤ 2 ^ 20 := by decide) (hm : m ≤ 2 ^ 20 := by decide) : IntMulOk i j :=
  .of_bits (Nat.le_trans (bits_of hi) hn) (Nat.le_trans (bits_of hj) hm)
theorem mulOkL {i j : Int} (h1 : -(2 ^ 64) < i) (h2 : i < 2 ^ 64) : IntMulOk i j := .of_left (intBits_le_64 h1 h2)
theorem mulOkR {i j : Int} (h1 : -(2 ^ 64) < j) (h2 : j < 2 ^ 64) : IntMulOk i j := .of_right (intBits_le_64 h1 h2)
theorem log2_small {n : Int} {k : Nat} (h0 : 0 < n) (h : n < 2 ^ k) : n.natAbs.log2 < k := by
  refine (Nat.log2_lt (by omega)).mpr ?_
  have e : ((2 ^ k : Nat) : Int) = (2 : Int) ^ k := by simp
  omega
end

/-! ### data -/
mutual
def Has (H : Hp) : PyData → V → Prop
  | .none, v => v = .non
  | .bool b, v => v = .bl b
  | .int i, v => v = .int i
  | .str x, v => v = .str x
  | .list ds, v => ∃ a vs, v = .ref a ∧ H a = some (.lst vs) ∧ HasL H ds vs
  | .tuple ds, v => ∃ a vs, v = .ref a ∧ H a = some (.tup vs) ∧ HasL H ds vs
  | .dict _, v => ∃ a kvs, v = .ref a ∧ H a = some (.dK kvs)
def HasL (H : Hp) : List PyData → List V → Prop
  | [], vs => vs = []
  | d :: ds, vs => ∃ v r, vs = v :: r ∧ Has H d v ∧ HasL H ds r
end
mutual
theorem Has.mono {H H' : Hp} (s : Same H H') : ∀ (d : PyData) (v : V), Has H d v → Has H' d v
  | .none, _, h => by simp only [Has] at h ⊢; exact h
  | .bool _, _, h => by simp only [Has] at h ⊢; exact h
  | .int _, _, h => by simp only [Has] at h ⊢; exact h
  | .str _, _, h => by simp only [Has] at h ⊢; exact h
  | .list ds, v, h => by
    simp only [Has] at h ⊢
    obtain ⟨a, vs, e, q, l⟩ := h
    exact ⟨a, vs, e, s _ _ q, HasL.mono s ds vs l⟩
  | .tuple ds, v, h => by
    simp only [Has] at h ⊢
    obtain ⟨a, vs, e, q, l⟩ := h
    exact ⟨a, vs, e, s _ _ q, HasL.mono s ds vs l⟩
  | .dict _, v, h => by
    simp only [Has] at h ⊢
    obtain ⟨a, vs, e, q⟩ := h
    exact ⟨a, vs, e, s _ _ q⟩
theorem HasL.mono {H H' : Hp} (s : Same H H') : ∀ (ds : List PyData) (vs : List V), HasL H ds vs → HasL H' ds vs
  | [], _, h => by simp only [HasL] at h ⊢; exact h
  | d :: ds, vs, h => by
    simp only [HasL] at h ⊢
    obtain ⟨v, r, e, q, l⟩ := h
    exact ⟨v, r, e, Has.mono s d v q, HasL.mono s ds r l⟩
end
section
variable {H : Hp} {v : V}
theorem has_none : Has H .none v ↔ v = .non := by simp only [Has]
theorem has_bool {b : Bool} : Has H (.bool b) v ↔ v = .bl b := by simp only [Has]
theorem has_int {i : Int} : Has H (.int i) v ↔ v = .int i := by simp only [Has]
theorem has_str {x : Str} : Has H (.str x) v ↔ v = .str x := by simp only [Has]
theorem has_list {ds : List PyData} : Has H (.list ds) v ↔ ∃ a vs, v = .ref a ∧ H a = some (.lst vs) ∧ HasL H ds vs := by simp only [Has]
theorem has_tuple {ds : List PyData} : Has H (.tuple ds) v ↔ ∃ a vs, v = .ref a ∧ H a = some (.tup vs) ∧ HasL H ds vs := by simp only [Has]
theorem has_dict {kvs : List (PyData × PyData)} : Has H (.dict kvs) v ↔ ∃ a kvs, v = .ref a ∧ H a = some (.dK kvs) := by simp only [Has]
theorem hasL_nil {vs : List V} : HasL H [] vs ↔ vs = [] := by simp only [HasL]
theorem hasL_cons {d : PyData} {ds : List PyData} {vs : List V} : HasL H (d :: ds) vs ↔ ∃ v r, vs = v :: r ∧ Has H d v ∧ HasL H ds r := by simp only [HasL]
theorem HasL.length : ∀ {ds : List PyData} {vs : List V}, HasL H ds vs → vs.length = ds.length
  | [], _, h => by rw [hasL_nil.mp h]; rfl
  | d :: ds, vs, h => by
    obtain ⟨v, r, e, _, l⟩ := hasL_cons.mp h
    rw [e, List.length_cons, List.length_cons, HasL.length l]
theorem HasL.get : ∀ {ds : List PyData} {vs : List V} {i : Nat} {d : PyData}, HasL H ds vs → ds[i]? = some d → ∃ v, vs[i]? = some v ∧ Has H d v
  | [], _, _, _, _, e => by simp at e
  | c :: ds, vs, 0, d, h, e => by
    obtain ⟨v, r, rfl, q, _⟩ := hasL_cons.mp h
    simp at e
    subst e
    exact ⟨v, rfl, q⟩
  | c :: ds, vs, i + 1, d, h, e => by
    obtain ⟨v, r, rfl, _, l⟩ := hasL_cons.mp h
    obtain ⟨u, e1, e2⟩ := HasL.get (i := i) (d := d) l (by simpa using e)
    exact ⟨u, by simpa using e1, e2⟩
theorem HasL.append : ∀ {ds es : List PyData} {vs us : List V}, HasL H ds vs → HasL H es us → HasL H (ds ++ es) (vs ++ us)
  | [], es, vs, us, h, h' => by rw [hasL_nil.mp h]; exact h'
  | d :: ds, es, vs, us, h, h' => by
    obtain ⟨v, r, rfl, q, l⟩ := hasL_cons.mp h
    exact hasL_cons.mpr ⟨v, r ++ us, rfl, q, HasL.append l h'⟩
/-- the ints -/
theorem hasL_ints : ∀ (ns : List Int), HasL H (ns.map .int) (ns.map V.int)
  | [] => hasL_nil.mpr rfl
  | n :: ns => hasL_cons.mpr ⟨_, _, rfl, has_int.mpr rfl, hasL_ints ns⟩
end
def tyD : PyData → String
  | .none => "NoneType" | .bool _ => "bool" | .int _ => "int" | .str _ => "str" | .list _ => "list" | .tuple _ => "tuple" | .dict _ => "dict"
theorem Has.ty {K : PySem.W.Frag} {H : Hp} {d : PyData} {v : V} (h : Has H d v) : TyOf K H v (.type (tyD d)) := by
  cases d with
  | none => rw [has_none.mp h]; exact .non
  | bool b => rw [has_bool.mp h]; exact .bl b
  | int i => rw [has_int.mp h]; exact .int i
  | str x => rw [has_str.mp h]; exact .str x
  | list ds => obtain ⟨a, vs, rfl, e, _⟩ := has_list.mp h; exact .lst e
  | tuple ds => obtain ⟨a, vs, rfl, e, _⟩ := has_tuple.mp h; exact .tup e
  | dict kvs => obtain ⟨a, vs, rfl, e⟩ := has_dict.mp h; exact .dK e

/-! ### isinstance of data -/
def tysD : List String := ["NoneType", "bool", "int", "str", "list", "tuple", "dict"]
def clsD : List String := ["int", "bool", "str", "list", "tuple", "dict"]
def isiT (t c : String) : Bool := t == c || (t == "bool" && c == "int")
def isiD (d : PyData) (c : String) : Bool := isiT (tyD d) c
theorem tyD_mem (d : PyData) : tyD d ∈ tysD := by cases d <;> simp [tyD, tysD]
theorem kit_all (K : PySem.W.Frag) {t c : String} (ht : t ∈ tysD) (hc : c ∈ clsD) : PySem.W.kitOne K (.type t) (.type c) = some (isiT t c) := by
  simp only [tysD, clsD, List.mem_cons, List.not_mem_nil, or_false] at ht hc
  rcases ht with rfl | rfl | rfl | rfl | rfl | rfl | rfl <;> rcases hc with rfl | rfl | rfl | rfl | rfl | rfl <;> rfl
def rIsi : List V → Hp → VK → Prop
  | [x, .ty c], H, Q => ∃ d, Has H d x ∧ c ∈ clsD ∧ Q (.bl (isiD d c)) H
  | _, _, _ => False
theorem rIsi_of {H : Hp} {d : PyData} {x : V} {c : String} {Q : VK} (h : Has H d x) (hc : c ∈ clsD) (q : Q (.bl (isiD d c)) H) : rIsi [x, .ty c] H Q := ⟨d, h, hc, q⟩
section
variable {X : Cx}
theorem call_isi : CallR X (.builtin "isinstance") rIsi := by
  intro pins s σ H xs us Q I r h
  match xs, h with
  | [x, .ty c], h =>
    obtain ⟨d, hx, hc, q⟩ := h
    obtain ⟨u, w', rfl, ru, rw'⟩ := vals2 r
    cases (show w' = Value.type c from rw')
    exact isinst_ok I ru hx.ty (kit_all X.K (tyD_mem d) hc) fun tk => ⟨.bl _, H, I.tok tk, rfl, q⟩
end

/-! ### defs by name -/
def sp1 (p : V → Hp → VK → Prop) : Sp := fun vs H Q _ => match vs with | [x] => p x H Q | _ => False
def sp2 (p : V → V → Hp → VK → Prop) : Sp := fun vs H Q _ => match vs with | [x, y] => p x y H Q | _ => False
def sp3 (p : V → V → V → Hp → VK → Prop) : Sp := fun vs H Q _ => match vs with | [x, y, z] => p x y z H Q | _ => False
def sp4 (p : V → V → V → V → Hp → VK → Prop) : Sp := fun vs H Q _ => match vs with | [x, y, z, u] => p x y z u H Q | _ => False
def sp5 (p : V → V → V → V → V → Hp → VK → Prop) : Sp := fun vs H Q _ => match vs with | [x, y, z, u, t] => p x y z u t H Q | _ => False
theorem sp1_len {p : V → Hp → VK → Prop} : ∀ (vs : List V) (H : Hp) (Q : VK) (E : XK), sp1 p vs H Q E → ∃ x, vs = [x] ∧ p x H Q := by
  intro vs H Q E h
  match vs, h with
  | [x], h => exact ⟨x, rfl, h⟩
theorem sp2_len {p : V → V → Hp → VK → Prop} : ∀ (vs : List V) (H : Hp) (Q : VK) (E : XK), sp2 p vs H Q E → ∃ x y, vs = [x, y] ∧ p x y H Q := by
  intro vs H Q E h
  match vs, h with
  | [x, y], h => exact ⟨x, y, rfl, h⟩
theorem sp3_len {p : V → V → V → Hp → VK → Prop} : ∀ (vs : List V) (H : Hp) (Q : VK) (E : XK), sp3 p vs H Q E → ∃ x y z, vs = [x, y, z] ∧ p x y z H Q := by
  intro vs H Q E h
  match vs, h with
  | [x, y, z], h => exact ⟨x, y, z, rfl, h⟩
theorem sp4_len {p : V → V → V → V → Hp → VK → Prop} : ∀ (vs : List V) (H : Hp) (Q : VK) (E : XK), sp4 p vs H Q E → ∃ x y z u, vs = [x, y, z, u] ∧ p x y z u H Q := by
  intro vs H Q E h
  match vs, h with
  | [x, y, z, u], h => exact ⟨x, y, z, u, rfl, h⟩
theorem sp5_len {p : V → V → V → V → V → Hp → VK → Prop} : ∀ (vs : List V) (H : Hp) (Q : VK) (E : XK), sp5 p vs H Q E → ∃ x y z u t, vs = [x, y, z, u, t] ∧ p x y z u t H Q := by
  intro vs H Q E h
  match vs, h with
  | [x, y, z, u, t], h => exact ⟨x, y, z, u, t, rfl, h⟩
/-- a def of the text as the top has left it -/
structure Dd (K : PySem.W.Frag) (mg : Str → Option Value) (x : Str) (st : Stmt) (ps : List Str) : Prop where
  ex : ∃ f fd, Fun K x x st f fd ∧ mg x = some (.ref f) ∧ Binds K fd ps []
/-- a def that keeps its promise, by its name -/
structure Df (P : Program) (w : World) (K : PySem.W.Frag) (mg : Str → Option Value) (base : Heap) (x : Str) (ps : List Str) (k : Nat) (sp : Sp) : Prop where
  ex : ∃ f fd, FnOk P w K mg base CX0 k f fd ps sp ∧ mg x = some (.ref f) ∧ PySem.W.keepIn K (.ref f) = true ∧ Binds K fd ps []
section
variable {P : Program} {w : World} {K : PySem.W.Frag} {mg : Str → Option Value} {base : Heap} {x a b c d e : Str} {st : Stmt} {N : List Str} {k : Nat}
theorem Df.of {ps : List Str} {sp : Sp} (D : Dd K mg x st ps) (S : FnScope N ps (defScope st)) (len : ∀ vs H Q E, sp vs H Q E → vs.length = ps.length)
    (hbody : ∀ (f : Addr) (cdv : Value) (A : Around) (outer : List Env) (s : Shared) (H : Hp) (vs : List V) (Q : VK) (E : XK), Room k (A.deeper (envOfC x (defScope st) s.heap.objs.size f cdv)) → sp vs H Q E →
      ∃ t, PSs (cxOf CX0 P w K mg base N x (defScope st) f cdv A outer s H E).nox (defBody st) t ∧ t { nx := fun _ H' => Q .non H', rt := Q } (start N vs) H) : Df P w K mg base x ps (k + 1) sp := by
  obtain ⟨f, fd, F, hm, hb⟩ := D.ex
  exact ⟨f, fd, F.ok S len (hbody f), hm, F.kp, hb⟩
theorem Df.of1 {p : V → Hp → VK → Prop} (D : Dd K mg x st [a]) (S : FnScope N [a] (defScope st)) (σ0 : V → St) (hs : ∀ v, start N [v] = σ0 v)
    (hbody : ∀ (f : Addr) (cdv : Value) (A : Around) (outer : List Env) (s : Shared) (H : Hp) (v : V) (Q : VK) (E : XK), Room k (A.deeper (envOfC x (defScope st) s.heap.objs.size f cdv)) → p v H Q →
      ∃ t, PSs (cxOf CX0 P w K mg base N x (defScope st) f cdv A outer s H E).nox (defBody st) t ∧ t { nx := fun _ H' => Q .non H', rt := Q } (σ0 v) H) : Df P w K mg base x [a] (k + 1) (sp1 p) := by
  refine Df.of D S (fun vs H Q E h => ?_) fun f cdv A outer s H vs Q E hr h => ?_
  · obtain ⟨x, rfl, _⟩ := sp1_len vs H Q E h
    rfl
  · obtain ⟨x, rfl, h⟩ := sp1_len vs H Q E h
    rw [hs]
    exact hbody f cdv A outer s H x Q E hr h
theorem Df.of2 {p : V → V → Hp → VK → Prop} (D : Dd K mg x st [a, b]) (S : FnScope N [a, b] (defScope st)) (σ0 : V → V → St) (hs : ∀ v u, start N [v, u] = σ0 v u)
    (hbody : ∀ (f : Addr) (cdv : Value) (A : Around) (outer : List Env) (s : Shared) (H : Hp) (v u : V) (Q : VK) (E : XK), Room k (A.deeper (envOfC x (defScope st) s.heap.objs.size f cdv)) → p v u H Q →
      ∃ t, PSs (cxOf CX0 P w K mg base N x (defScope st) f cdv A outer s H E).nox (defBody st) t ∧ t { nx := fun _ H' => Q .non H', rt := Q } (σ0 v u) H) : Df P w K mg base x [a, b] (k + 1) (sp2 p) := by
  refine Df.of D S (fun vs H Q E h => ?_) fun f cdv A outer s H vs Q E hr h => ?_
  · obtain ⟨x, y, rfl, _⟩ := sp2_len vs H Q E h
    rfl
  · obtain ⟨x, y, rfl, h⟩ := sp2_len vs H Q E h
    rw [hs]
    exact hbody f cdv A outer s H x y Q E hr h
theorem Df.of3 {p : V → V → V → Hp → VK → Prop} (D : Dd K mg x st [a, b, c]) (S : FnScope N [a, b, c] (defScope st)) (σ0 : V → V → V → St) (hs : ∀ v u z, start N [v, u, z] = σ0 v u z)
    (hbody : ∀ (f : Addr) (cdv : Value) (A : Around) (outer : List Env) (s : Shared) (H : Hp) (v u z : V) (Q : VK) (E : XK), Room k (A.deeper (envOfC x (defScope st) s.heap.objs.size f cdv)) → p v u z H Q →
      ∃ t, PSs (cxOf CX0 P w K mg base N x (defScope st) f cdv A outer s H E).nox (defBody st) t ∧ t { nx := fun _ H' => Q .non H', rt := Q } (σ0 v u z) H) : Df P w K mg base x [a, b, c] (k + 1) (sp3 p) := by
  refine Df.of D S (fun vs H Q E h => ?_) fun f cdv A outer s H vs Q E hr h => ?_
  · obtain ⟨x, y, z, rfl, _⟩ := sp3_len vs H Q E h
    rfl
  · obtain ⟨x, y, z, rfl, h⟩ := sp3_len vs H Q E h
    rw [hs]
    exact hbody f cdv A outer s H x y z Q E hr h
theorem Df.of4 {p : V → V → V → V → Hp → VK → Prop} (D : Dd K mg x st [a, b, c, d]) (S : FnScope N [a, b, c, d] (defScope st)) (σ0 : V → V → V → V → St) (hs : ∀ v u z t, start N [v, u, z, t] = σ0 v u z t)
    (hbody : ∀ (f : Addr) (cdv : Value) (A : Around) (outer : List Env) (s : Shared) (H : Hp) (v u z t : V) (Q : VK) (E : XK), Room k (A.deeper (envOfC x (defScope st) s.heap.objs.size f cdv)) → p v u z t H Q →
      ∃ t', PSs (cxOf CX0 P w K mg base N x (defScope st) f cdv A outer s H E).nox (defBody st) t' ∧ t' { nx := fun _ H' => Q .non H', rt := Q } (σ0 v u z t) H) : Df P w K mg base x [a, b, c, d] (k + 1) (sp4 p) := by
  refine Df.of D S (fun vs H Q E h => ?_) fun f cdv A outer s H vs Q E hr h => ?_
  · obtain ⟨x, y, z, u, rfl, _⟩ := sp4_len vs H Q E h
    rfl
  · obtain ⟨x, y, z, u, rfl, h⟩ := sp4_len vs H Q E h
    rw [hs]
    exact hbody f cdv A outer s H x y z u Q E hr h
theorem Df.of5 {p : V → V → V → V → V → Hp → VK → Prop} (D : Dd K mg x st [a, b, c, d, e]) (S : FnScope N [a, b, c, d, e] (defScope st)) (σ0 : V → V → V → V → V → St) (hs : ∀ v u z t r, start N [v, u, z, t, r] = σ0 v u z t r)
    (hbody : ∀ (f : Addr) (cdv : Value) (A : Around) (outer : List Env) (s : Shared) (H : Hp) (v u z t r : V) (Q : VK) (E : XK), Room k (A.deeper (envOfC x (defScope st) s.heap.objs.size f cdv)) → p v u z t r H Q →
      ∃ t', PSs (cxOf CX0 P w K mg base N x (defScope st) f cdv A outer s H E).nox (defBody st) t' ∧ t' { nx := fun _ H' => Q .non H', rt := Q } (σ0 v u z t r) H) : Df P w K mg base x [a, b, c, d, e] (k + 1) (sp5 p) := by
  refine Df.of D S (fun vs H Q E h => ?_) fun f cdv A outer s H vs Q E hr h => ?_
  · obtain ⟨x, y, z, u, t, rfl, _⟩ := sp5_len vs H Q E h
    rfl
  · obtain ⟨x, y, z, u, t, rfl, h⟩ := sp5_len vs H Q E h
    rw [hs]
    exact hbody f cdv A outer s H x y z u t Q E hr h
end
def tC1 (p : V → Hp → VK → Prop) (ta : TE) : TE := fun σ H Q => ta σ H fun x H1 => p x H1 Q
def tC2 (p : V → V → Hp → VK → Prop) (ta tb : TE) : TE := fun σ H Q => ta σ H fun x H1 => tb σ H1 fun y H2 => p x y H2 Q
def tC3 (p : V → V → V → Hp → VK → Prop) (ta tb tc : TE) : TE := fun σ H Q => ta σ H fun x H1 => tb σ H1 fun y H2 => tc σ H2 fun z H3 => p x y z H3 Q
def tC4 (p : V → V → V → V → Hp → VK → Prop) (ta tb tc td : TE) : TE := fun σ H Q => ta σ H fun x H1 => tb σ H1 fun y H2 => tc σ H2 fun z H3 => td σ H3 fun u H4 => p x y z u H4 Q
def tC5 (p : V → V → V → V → V → Hp → VK → Prop) (ta tb tc td te : TE) : TE := fun σ H Q => ta σ H fun x H1 => tb σ H1 fun y H2 => tc σ H2 fun z H3 => td σ H3 fun u H4 => te σ H4 fun t H5 => p x y z u t H5 Q
section
variable {X : Cx} {x a b c d e' : Str} {k j : Nat} {pos pos' : Pos} {e1 e2 e3 e4 e5 : Expr} {t1 t2 t3 t4 t5 : TE}
theorem pe_df1 {p : V → Hp → VK → Prop} (D : Df X.prog X.w X.K X.mg X.base x [a] k (sp1 p)) (hr : Room j X.A) (hk : k ≤ j) (h1 : PE X e1 t1) (hg : Gl X x := by rfl) (hdb : (x == ("__debug__" : Str)) = false := by decide)
    (q1 : starEach [e1] X.env = (false, eval e1 X.env) :: starEach [] X.env := by rfl) : PE X (.Call (.Name x pos') [e1] [] pos) (tC1 p t1) := by
  obtain ⟨f, fd, F, hm, kp, hb⟩ := D.ex
  intro pins s σ H Q I h
  exact pe_call (dvs := []) (ds := []) (E := E0) F (hr.mono hk) hg hm kp hb .nil pass0 (pa_cons h1 pa_nil q1) hdb q1 rfl pins s σ H Q I h
theorem pe_df2 {p : V → V → Hp → VK → Prop} (D : Df X.prog X.w X.K X.mg X.base x [a, b] k (sp2 p)) (hr : Room j X.A) (hk : k ≤ j) (h1 : PE X e1 t1) (h2 : PE X e2 t2) (hg : Gl X x := by rfl) (hdb : (x == ("__debug__" : Str)) = false := by decide)
    (q1 : starEach [e1, e2] X.env = (false, eval e1 X.env) :: starEach [e2] X.env := by rfl) (q2 : starEach [e2] X.env = (false, eval e2 X.env) :: starEach [] X.env := by rfl)
    (hpl : (backTo pos (starEach [e2] X.env)).any (·.1) = false := by rfl) : PE X (.Call (.Name x pos') [e1, e2] [] pos) (tC2 p t1 t2) := by
  obtain ⟨f, fd, F, hm, kp, hb⟩ := D.ex
  intro pins s σ H Q I h
  exact pe_call (dvs := []) (ds := []) (E := E0) F (hr.mono hk) hg hm kp hb .nil pass0 (pa_cons h1 (pa_cons h2 pa_nil q2) q1) hdb q1 hpl pins s σ H Q I h
theorem pe_df3 {p : V → V → V → Hp → VK → Prop} (D : Df X.prog X.w X.K X.mg X.base x [a, b, c] k (sp3 p)) (hr : Room j X.A) (hk : k ≤ j) (h1 : PE X e1 t1) (h2 : PE X e2 t2) (h3 : PE X e3 t3) (hg : Gl X x := by rfl) (hdb : (x == ("__debug__" : Str)) = false := by decide)
    (q1 : starEach [e1, e2, e3] X.env = (false, eval e1 X.env) :: starEach [e2, e3] X.env := by rfl) (q2 : starEach [e2, e3] X.env = (false, eval e2 X.env) :: starEach [e3] X.env := by rfl) (q3 : starEach [e3] X.env = (false, eval e3 X.env) :: starEach [] X.env := by rfl)
    (hpl : (backTo pos (starEach [e2, e3] X.env)).any (·.1) = false := by rfl) : PE X (.Call (.Name x pos') [e1, e2, e3] [] pos) (tC3 p t1 t2 t3) := by
  obtain ⟨f, fd, F, hm, kp, hb⟩ := D.ex
  intro pins s σ H Q I h
  exact pe_call (dvs := []) (ds := []) (E := E0) F (hr.mono hk) hg hm kp hb .nil pass0 (pa_cons h1 (pa_cons h2 (pa_cons h3 pa_nil q3) q2) q1) hdb q1 hpl pins s σ H Q I h
theorem pe_df4 {p : V → V → V → V → Hp → VK → Prop} (D : Df X.prog X.w X.K X.mg X.base x [a, b, c, d] k (sp4 p)) (hr : Room j X.A) (hk : k ≤ j) (h1 : PE X e1 t1) (h2 : PE X e2 t2) (h3 : PE X e3 t3) (h4 : PE X e4 t4) (hg : Gl X x := by rfl) (hdb : (x == ("__debug__" : Str)) = false := by decide)
    (q1 : starEach [e1, e2, e3, e4] X.env = (false, eval e1 X.env) :: starEach [e2, e3, e4] X.env := by rfl) (q2 : starEach [e2, e3, e4] X.env = (false, eval e2 X.env) :: starEach [e3, e4] X.env := by rfl) (q3 : starEach [e3, e4] X.env = (false, eval e3 X.env) :: starEach [e4] X.env := by rfl)
    (q4 : starEach [e4] X.env = (false, eval e4 X.env) :: starEach [] X.env := by rfl)
    (hpl : (backTo pos (starEach [e2, e3, e4] X.env)).any (·.1) = false := by rfl) : PE X (.Call (.Name x pos') [e1, e2, e3, e4] [] pos) (tC4 p t1 t2 t3 t4) := by
  obtain ⟨f, fd, F, hm, kp, hb⟩ := D.ex
  intro pins s σ H Q I h
  exact pe_call (dvs := []) (ds := []) (E := E0) F (hr.mono hk) hg hm kp hb .nil pass0 (pa_cons h1 (pa_cons h2 (pa_cons h3 (pa_cons h4 pa_nil q4) q3) q2) q1) hdb q1 hpl pins s σ H Q I h
theorem pe_df5 {p : V → V → V → V → V → Hp → VK → Prop} (D : Df X.prog X.w X.K X.mg X.base x [a, b, c, d, e'] k (sp5 p)) (hr : Room j X.A) (hk : k ≤ j) (h1 : PE X e1 t1) (h2 : PE X e2 t2) (h3 : PE X e3 t3) (h4 : PE X e4 t4) (h5 : PE X e5 t5) (hg : Gl X x := by rfl) (hdb : (x == ("__debug__" : Str)) = false := by decide)
    (q1 : starEach [e1, e2, e3, e4, e5] X.env = (false, eval e1 X.env) :: starEach [e2, e3, e4, e5] X.env := by rfl) (q2 : starEach [e2, e3, e4, e5] X.env = (false, eval e2 X.env) :: starEach [e3, e4, e5] X.env := by rfl) (q3 : starEach [e3, e4, e5] X.env = (false, eval e3 X.env) :: starEach [e4, e5] X.env := by rfl)
    (q4 : starEach [e4, e5] X.env = (false, eval e4 X.env) :: starEach [e5] X.env := by rfl) (q5 : starEach [e5] X.env = (false, eval e5 X.env) :: starEach [] X.env := by rfl)
    (hpl : (backTo pos (starEach [e2, e3, e4, e5] X.env)).any (·.1) = false := by rfl) : PE X (.Call (.Name x pos') [e1, e2, e3, e4, e5] [] pos) (tC5 p t1 t2 t3 t4 t5) := by
  obtain ⟨f, fd, F, hm, kp, hb⟩ := D.ex
  intro pins s σ H Q I h
  exact pe_call (dvs := []) (ds := []) (E := E0) F (hr.mono hk) hg hm kp hb .nil pass0 (pa_cons h1 (pa_cons h2 (pa_cons h3 (pa_cons h4 (pa_cons h5 pa_nil q5) q4) q3) q2) q1) hdb q1 hpl pins s σ H Q I h
end
/-- a def of the text, from what the top has written -/
theorem Dd.mk' {K : PySem.W.Frag} {h : Heap} {mg : Str → Option Value} (X : K.In h) (G : h.Ns mainGlobals mg) {x : Str} {st : Stmt} {ps : List Str} {f : Addr} {oc : Value} {od an : Option Addr} {osl : Array (Option Value)} {kV doc pm cdv ct : Value}
    (a : PySem.W.nsIn K mainGlobals x = some (some (.ref f))) (l : K.lookup f = some ⟨oc, od, .func (PySem.W.fnOf x x (defArgs st) (defBody st) (defScope st) .none kV doc pm an cdv ct), osl⟩)
    (c : PySem.W.codeIn K cdv x = true) (k : PySem.W.keepIn K (.ref f) = true)
    (hb : ∀ (kV doc pm : Value) (an : Option Addr) (cdv ct : Value) (us : List Value), us.length = ps.length → bindArgs (PySem.W.fnOf x x (defArgs st) (defBody st) (defScope st) .none kV doc pm an cdv ct) ⟨us, []⟩ = pure (ps.zip us)) : Dd K mg x st ps :=
  ⟨f, _, fun_mk (st := st) l c k, PySem.W.mg_of X G a, (fun_mk (st := st) l c k).binds hb⟩

/-! ### builtins' names -/
theorem bt_len : bootBuiltins "len" = some (.builtin "len") := by decide +kernel
theorem bt_isinstance : bootBuiltins "isinstance" = some (.builtin "isinstance") := by decide +kernel
theorem bt_max : bootBuiltins "max" = some (.builtin "max") := by decide +kernel
theorem bt_min : bootBuiltins "min" = some (.builtin "min") := by decide +kernel
theorem bt_abs : bootBuiltins "abs" = some (.builtin "abs") := by decide +kernel
theorem bt_sorted : bootBuiltins "sorted" = some (.builtin "sorted") := by decide +kernel
theorem bt_int : bootBuiltins "int" = some (.type "int") := by decide +kernel
theorem bt_bool : bootBuiltins "bool" = some (.type "bool") := by decide +kernel
theorem bt_str : bootBuiltins "str" = some (.type "str") := by decide +kernel
theorem bt_list : bootBuiltins "list" = some (.type "list") := by decide +kernel
theorem bt_tuple : bootBuiltins "tuple" = some (.type "tuple") := by decide +kernel
theorem bt_dict : bootBuiltins "dict" = some (.type "dict") := by decide +kernel
theorem bt_set : bootBuiltins "set" = some (.type "set") := by decide +kernel

/-! ### readings for simp -/
section
variable {H : Hp} {Q : VK}
theorem tVar_iff {i : Nat} {σ : St} : tVar i σ H Q ↔ match σ[i]? with | some (some v) => Q v H | _ => False := by
  unfold tVar
  constructor
  · rintro ⟨v, e, q⟩
    rw [e]
    exact q
  · intro h
    split at h
    · rename_i v e
      exact ⟨v, e, h⟩
    · exact h.elim
theorem rI0_int {g : Int → Int → V} {i j : Int} : rI0 g (.int i) (.int j) H Q ↔ Q (g i j) H :=
  ⟨fun ⟨_, _, e1, e2, q⟩ => by cases e1; cases e2; exact q, fun q => ⟨i, j, rfl, rfl, q⟩⟩
theorem rI_int {C : Int → Int → Prop} {g : Int → Int → V} {i j : Int} : rI C g (.int i) (.int j) H Q ↔ C i j ∧ Q (g i j) H :=
  ⟨fun ⟨_, _, e1, e2, q⟩ => by cases e1; cases e2; exact q, fun q => ⟨i, j, rfl, rfl, q⟩⟩
theorem rU_int {g : Int → V} {i : Int} : rU g (.int i) H Q ↔ Q (g i) H := ⟨fun ⟨_, e1, q⟩ => by cases e1; exact q, fun q => ⟨i, rfl, q⟩⟩
theorem rEq_int {i j : Int} : rEq (.int i) (.int j) H Q ↔ Q (.bl (decide (i = j))) H := by
  unfold rEq
  simp only [scal, V.int.injEq, true_and]
theorem rNe_int {i j : Int} : rNe (.int i) (.int j) H Q ↔ Q (.bl (!decide (i = j))) H := by
  unfold rNe
  simp only [scal, V.int.injEq, true_and]
theorem rEq_bl {i j : Bool} : rEq (.bl i) (.bl j) H Q ↔ Q (.bl (decide (i = j))) H := by
  unfold rEq
  simp only [scal, V.bl.injEq, true_and]
theorem rNe_bl {i j : Bool} : rNe (.bl i) (.bl j) H Q ↔ Q (.bl (!decide (i = j))) H := by
  unfold rNe
  simp only [scal, V.bl.injEq, true_and]
theorem ex_bl {p : Bool → Prop} {b : Bool} : (∃ c, V.bl b = V.bl c ∧ p c) ↔ p b := ⟨fun ⟨_, e, q⟩ => by cases e; exact q, fun q => ⟨b, rfl, q⟩⟩
theorem ex_int {p : Int → Prop} {b : Int} : (∃ c, V.int b = V.int c ∧ p c) ↔ p b := ⟨fun ⟨_, e, q⟩ => by cases e; exact q, fun q => ⟨b, rfl, q⟩⟩
theorem ex_ref {p : Addr → Prop} {b : Addr} : (∃ c, V.ref b = V.ref c ∧ p c) ↔ p b := ⟨fun ⟨_, e, q⟩ => by cases e; exact q, fun q => ⟨b, rfl, q⟩⟩
end
/-! readings at data -/
section
variable {K : PySem.W.Frag} {H : Hp} {Q : VK} {x y : V} {d : PyData} {ds : List PyData}
theorem rd_ixT {i : Nat} (h : Has H (.tuple ds) x) (hi : ds[i]? = some d) (q : ∀ v, Has H d v → Q v H) : rIxT K x (.int i) H Q := by
  obtain ⟨a, vs, rfl, e, l⟩ := has_tuple.mp h
  obtain ⟨v, e1, hv⟩ := l.get hi
  exact ⟨a, vs, i, v, rfl, rfl, .of e, atI_nat e1, q v hv⟩
theorem rd_ixL {i : Nat} (h : Has H (.list ds) x) (hi : ds[i]? = some d) (q : ∀ v, Has H d v → Q v H) : rIxL K x (.int i) H Q := by
  obtain ⟨a, vs, rfl, e, l⟩ := has_list.mp h
  obtain ⟨v, e1, hv⟩ := l.get hi
  exact ⟨a, vs, i, v, rfl, rfl, .of e, atI_nat e1, q v hv⟩
/-- len of data -/
def rLen (K : PySem.W.Frag) : List V → Hp → VK → Prop := fun xs H Q => ∃ p ys, xs = [.ref p] ∧ (SqL K H p ys ∨ SqT K H p ys) ∧ Q (.int ys.length) H
theorem rd_lenT (h : Has H (.tuple ds) x) (q : Q (.int (ds.length : Int)) H) : rLen K [x] H Q := by
  obtain ⟨a, vs, rfl, e, l⟩ := has_tuple.mp h
  exact ⟨a, vs, rfl, .inr (.of e), by rw [l.length]; exact q⟩
theorem rd_lenL (h : Has H (.list ds) x) (q : Q (.int (ds.length : Int)) H) : rLen K [x] H Q := by
  obtain ⟨a, vs, rfl, e, l⟩ := has_list.mp h
  exact ⟨a, vs, rfl, .inl (.of e), by rw [l.length]; exact q⟩
theorem rd_lenTn (n : Int) (e : (ds.length : Int) = n) (h : Has H (.tuple ds) x) (q : Q (.int n) H) : rLen K [x] H Q := by
  subst e
  exact rd_lenT h q
theorem rd_lenLn (n : Int) (e : (ds.length : Int) = n) (h : Has H (.list ds) x) (q : Q (.int n) H) : rLen K [x] H Q := by
  subst e
  exact rd_lenL h q
end
section
variable {X : Cx}
theorem call_lenQ : CallR X (.builtin "len") (rLen X.K) := call_len_seq
end

/-! ### heaps: one object apart -/
def hid (a : Addr) (H : Hp) : Hp := fun b => if b = a then none else H b
theorem hid_at {a b : Addr} {H : Hp} (h : b ≠ a) : hid a H b = H b := if_neg h
theorem hid_self {a : Addr} {H : Hp} : hid a H a = none := if_pos rfl
theorem hid_same {a : Addr} {H : Hp} : Same (hid a H) H := fun b o e => by
  by_cases h : b = a
  · rw [h, hid_self] at e
    cases e
  · rw [hid_at h] at e
    exact e
theorem hid_upd {a : Addr} {H : Hp} {o : HO} : hid a (upd H a o) = hid a H := by
  funext b
  unfold hid
  split
  · rfl
  · rename_i h
    exact upd_ne h
theorem Same.hid {a : Addr} {H H' : Hp} (s : Same H H') : Same (hid a H) (hid a H') := fun b o e => by
  by_cases h : b = a
  · rw [h, hid_self] at e
    cases e
  · rw [hid_at h] at e ⊢
    exact s b o e
theorem Same.laid {H : Hp} {p : Addr} {o : HO} (h : H p = none) : Same H (upd H p o) := fun b u e => by
  rw [upd_ne (ne_of_none e h)]
  exact e
theorem Has.hid {a : Addr} {H : Hp} {d : PyData} {v : V} (h : Has (hid a H) d v) : Has H d v := h.mono hid_same
end L2

set_option Elab.async false
set_option linter.all false
set_option maxRecDepth 100000
/-! MY EXTENSION, second part: data that an expression gives; the pen of the laws. -/
namespace L2
open PySem PySem.Spec PyProof.Rows

theorem isi_int (d : PyData) : isiD d "int" = match d with | .int _ => true | .bool _ => true | _ => false := by cases d <;> first | rfl | (show isiT _ _ = _; simp [isiT, tyD])
theorem isi_bool (d : PyData) : isiD d "bool" = match d with | .bool _ => true | _ => false := by cases d <;> first | rfl | (show isiT _ _ = _; simp [isiT, tyD])
theorem isi_tuple (d : PyData) : isiD d "tuple" = match d with | .tuple _ => true | _ => false := by cases d <;> first | rfl | (show isiT _ _ = _; simp [isiT, tyD])
theorem isi_list (d : PyData) : isiD d "list" = match d with | .list _ => true | _ => false := by cases d <;> first | rfl | (show isiT _ _ = _; simp [isiT, tyD])
theorem isi_str (d : PyData) : isiD d "str" = match d with | .str _ => true | _ => false := by cases d <;> first | rfl | (show isiT _ _ = _; simp [isiT, tyD])

/-! ### views: the heap, or the heap without the pen -/
def vw : List Addr → Hp → Hp
  | [], H => H
  | a :: r, H => hid a (vw r H)
def Tr : List Addr → Hp → Prop
  | [], _ => True
  | a :: r, H => (∃ o, H a = some o) ∧ Tr r H
theorem vw_same : ∀ {o : List Addr} {H : Hp}, Same (vw o H) H
  | [], H => Same.refl H
  | a :: r, H => Same.trans (hid_same (a := a) (H := vw r H)) vw_same
theorem Same.vw : ∀ {o : List Addr} {H H' : Hp}, Same H H' → Same (vw o H) (vw o H')
  | [], _, _, s => s
  | _ :: r, _, _, s => (Same.vw (o := r) s).hid
theorem Tr.same : ∀ {o : List Addr} {H H' : Hp}, Tr o H → Same H H' → Tr o H'
  | [], _, _, _, _ => trivial
  | _ :: r, _, _, ⟨⟨u, e⟩, t⟩, s => ⟨⟨u, s _ _ e⟩, Tr.same (o := r) t s⟩
theorem vw_upd : ∀ {o : List Addr} {H H2 : Hp} {p : Addr} {u : HO}, Tr o H → H p = none → vw o (upd H2 p u) p = some u
  | [], _, _, _, _, _, _ => upd_same
  | a :: r, H, H2, p, u, ⟨⟨x, e⟩, t⟩, h => (hid_at (Ne.symm (ne_of_none e h))).trans (vw_upd (o := r) t h)
theorem vw_laid {o : List Addr} {H : Hp} {p : Addr} {u : HO} (t : Tr o H) (h : H p = none) : vw o (upd H p u) p = some u := vw_upd t h
/-- an address that is free stays out of every view -/
theorem vw_none : ∀ {o : List Addr} {H : Hp} {p : Addr}, H p = none → vw o H p = none
  | [], _, _, h => h
  | a :: r, H, p, h => by
    by_cases e : p = a
    · rw [e]; exact hid_self
    · exact (hid_at e).trans (vw_none (o := r) h)
/-- a new thing is hidden, too -/
theorem Same.vw_new {o : List Addr} {H H' : Hp} {D : Addr} (s : Same H H') (h : H D = none) : Same (L2.vw o H) (L2.vw (D :: o) H') := fun b u e => by
  have hb : b ≠ D := fun z => by rw [z, vw_none h] at e; cases e
  exact (hid_at hb).trans (Same.vw s b u e)
/-- an expression gives data; the heap grows -/
def Gv (o : List Addr) (σ : St) (H0 : Hp) (t : TE) (d : PyData) : Prop := ∀ (H : Hp) (Q : VK), Same H0 H → (∀ v H', Same H H' → Has (vw o H') d v → Q v H') → t σ H Q
def GvA (o : List Addr) (σ : St) (H0 : Hp) (t : TA) (ds : List PyData) : Prop := ∀ (H : Hp) (Q : List V → Hp → Prop), Same H0 H → (∀ vs H', Same H H' → HasL (vw o H') ds vs → Q vs H') → t σ H Q
section
variable {o : List Addr} {σ : St} {H0 : Hp} {t t1 t2 : TE} {ta : TA} {d d1 d2 : PyData} {ds es : List PyData}
theorem gv_int {i : Int} : Gv o σ H0 (tC (.int i)) (.int i) := fun H _ _ q => q _ H (Same.refl H) (has_int.mpr rfl)
theorem gv_bl {i : Bool} : Gv o σ H0 (tC (.bl i)) (.bool i) := fun H _ _ q => q _ H (Same.refl H) (has_bool.mpr rfl)
theorem gv_non : Gv o σ H0 (tC .non) .none := fun H _ _ q => q _ H (Same.refl H) (has_none.mpr rfl)
theorem gv_str {x : Str} : Gv o σ H0 (tC (.str x)) (.str x) := fun H _ _ q => q _ H (Same.refl H) (has_str.mpr rfl)
theorem gv_var {i : Nat} {v : V} (e : σ[i]? = some (some v)) (h : Has (vw o H0) d v) : Gv o σ H0 (tVar i) d := fun H _ s q => ⟨v, e, q v H (Same.refl H) (h.mono s.vw)⟩
theorem gv_varI {i : Nat} {n : Int} (e : σ[i]? = some (some (.int n))) : Gv o σ H0 (tVar i) (.int n) := gv_var e (has_int.mpr rfl)
theorem gv_add {i j : Int} (h1 : Gv o σ H0 t1 (.int i)) (h2 : Gv o σ H0 t2 (.int j)) : Gv o σ H0 (tOp (rI0 fun i j => .int (i + j)) t1 t2) (.int (i + j)) := fun H Q s q =>
  h1 H _ s fun v H1 s1 e1 => h2 H1 _ (s.trans s1) fun u H2 s2 e2 => by
    rw [has_int.mp e1, has_int.mp e2]
    exact rI0_int.mpr (q _ H2 (s1.trans s2) (has_int.mpr rfl))
theorem gv_sub {i j : Int} (h1 : Gv o σ H0 t1 (.int i)) (h2 : Gv o σ H0 t2 (.int j)) : Gv o σ H0 (tOp (rI0 fun i j => .int (i - j)) t1 t2) (.int (i - j)) := fun H Q s q =>
  h1 H _ s fun v H1 s1 e1 => h2 H1 _ (s.trans s1) fun u H2 s2 e2 => by
    rw [has_int.mp e1, has_int.mp e2]
    exact rI0_int.mpr (q _ H2 (s1.trans s2) (has_int.mpr rfl))
theorem gv_neg {i : Int} (h1 : Gv o σ H0 t1 (.int i)) : Gv o σ H0 (tUn (rU fun i => .int (-i)) t1) (.int (-i)) := fun H Q s q =>
  h1 H _ s fun v H1 s1 e1 => by
    rw [has_int.mp e1]
    exact rU_int.mpr (q _ H1 s1 (has_int.mpr rfl))
theorem gva_nil : GvA o σ H0 tNil [] := fun H _ _ q => q [] H (Same.refl H) (hasL_nil.mpr rfl)
theorem gva_cons (h1 : Gv o σ H0 t d) (h2 : GvA o σ H0 ta ds) : GvA o σ H0 (tCons t ta) (d :: ds) := fun H _ s q =>
  h1 H _ s fun v H1 s1 e1 => h2 H1 _ (s.trans s1) fun vs H2 s2 e2 => q (v :: vs) H2 (s1.trans s2) (hasL_cons.mpr ⟨v, vs, rfl, e1.mono s2.vw, e2⟩)
theorem gv_tup (T : Tr o H0) (h : GvA o σ H0 ta ds) (hl : ds.length ≤ 1000 := by decide) : Gv o σ H0 (tTup ta) (.tuple ds) := fun H Q s q =>
  h H _ s fun vs H1 s1 e1 => ⟨by rw [e1.length]; exact Nat.le_of_lt (small1000 hl), fun p hp => q _ _ (s1.trans (Same.laid hp)) (has_tuple.mpr ⟨p, vs, rfl, vw_laid (T.same (s.trans s1)) hp, e1.mono (Same.laid hp).vw⟩)⟩
theorem gv_lst (T : Tr o H0) (h : GvA o σ H0 ta ds) (hl : ds.length ≤ 1000 := by decide) : Gv o σ H0 (tLst ta) (.list ds) := fun H Q s q =>
  h H _ s fun vs H1 s1 e1 => ⟨by rw [e1.length]; exact Nat.le_of_lt (small1000 hl), fun p hp => q _ _ (s1.trans (Same.laid hp)) (has_list.mpr ⟨p, vs, rfl, vw_laid (T.same (s.trans s1)) hp, e1.mono (Same.laid hp).vw⟩)⟩
theorem gv_cat (T : Tr o H0) (h1 : Gv o σ H0 t1 (.list ds)) (h2 : Gv o σ H0 t2 (.list es)) (hl : ds.length + es.length ≤ 1000) : Gv o σ H0 (tOp rCat t1 t2) (.list (ds ++ es)) := fun H Q s q =>
  h1 H _ s fun v H1 s1 e1 => h2 H1 _ (s.trans s1) fun u H2 s2 e2 => by
    obtain ⟨a, vs, rfl, ea, la⟩ := has_list.mp (e1.mono s2.vw)
    obtain ⟨b, us, rfl, eb, lb⟩ := has_list.mp e2
    refine ⟨a, b, vs, us, rfl, rfl, vw_same _ _ ea, vw_same _ _ eb, by rw [la.length, lb.length]; exact Nat.le_of_lt (small1000 hl), fun p hp => ?_⟩
    exact q _ _ ((s1.trans s2).trans (Same.laid hp)) (has_list.mpr ⟨p, _, rfl, vw_laid (T.same ((s.trans s1).trans s2)) hp, (la.append lb).mono (Same.laid hp).vw⟩)
theorem gv_disp1 {i : Int} (T : Tr o H0) (h1 : Gv o σ H0 t1 (.int i)) (h2 : Gv o σ H0 t2 d2) : Gv o σ H0 (tDisp [(t1, t2)]) (.dict []) := fun H Q s q p hp =>
  h1 (upd H p (.dK [])) _ (s.trans (Same.laid hp)) fun v H1 s1 e1 => h2 H1 _ ((s.trans (Same.laid hp)).trans s1) fun u H2 s2 e2 => by
    refine ⟨s2 _ _ (s1 _ _ upd_same), [(Sum.inl i, u)], by rw [has_int.mp e1]; rfl, by show 1 ≤ 15; decide, q _ _ (fun b u' e => ?_) (has_dict.mpr ⟨p, _, rfl, vw_upd (T.same s) hp⟩)⟩
    have hb := ne_of_none e hp
    rw [upd_ne hb]
    exact s2 _ _ (s1 _ _ ((upd_ne hb).trans e))
theorem gv_dnew (T : Tr o H0) : Gv o σ H0 tDNewK (.dict []) := fun H Q s q => fun p hp => q _ _ (Same.laid hp) (has_dict.mpr ⟨p, _, rfl, vw_laid (T.same s) hp⟩)
end
section
variable {K : PySem.W.Frag} {o : List Addr} {H : Hp} {Q : VK} {x y : V} {d : PyData} {ds : List PyData}
theorem rdv_ixT {i : Nat} (h : Has (vw o H) (.tuple ds) x) (hi : ds[i]? = some d) (q : ∀ v, Has (vw o H) d v → Q v H) : rIxT K x (.int i) H Q := by
  obtain ⟨a, vs, rfl, e, l⟩ := has_tuple.mp h
  obtain ⟨v, e1, hv⟩ := l.get hi
  exact ⟨a, vs, i, v, rfl, rfl, .of (vw_same _ _ e), atI_nat e1, q v hv⟩
theorem rdv_ixL {i : Nat} (h : Has (vw o H) (.list ds) x) (hi : ds[i]? = some d) (q : ∀ v, Has (vw o H) d v → Q v H) : rIxL K x (.int i) H Q := by
  obtain ⟨a, vs, rfl, e, l⟩ := has_list.mp h
  obtain ⟨v, e1, hv⟩ := l.get hi
  exact ⟨a, vs, i, v, rfl, rfl, .of (vw_same _ _ e), atI_nat e1, q v hv⟩
/-- an int in bounds as an index -/
theorem rdv_ixLi {r : Int} (h : Has (vw o H) (.list ds) x) (h0 : 0 ≤ r) (h1 : r < ds.length) (q : ∀ d v, d ∈ ds → Has (vw o H) d v → Q v H) : rIxL K x (.int r) H Q := by
  obtain ⟨n, rfl⟩ := Int.eq_ofNat_of_zero_le h0
  have hn : n < ds.length := by omega
  exact rdv_ixL h (List.getElem?_eq_getElem hn) fun v hv => q _ v (List.getElem_mem hn) hv
theorem rIxL_at {a : Addr} {xs : List V} {i : Int} {v : V} (h : H a = some (.lst xs)) (e : atI xs i = some v) (q : Q v H) : rIxL K (.ref a) (.int i) H Q := ⟨a, xs, i, v, rfl, rfl, .of h, e, q⟩
theorem rSetL_at {a : Addr} {xs : List V} {i : Int} {j : Nat} {v : V} {R : Hp → Prop} (h : H a = some (.lst xs)) (e : ixN xs.length i = some j) (q : R (upd H a (.lst (xs.set j v)))) : rSetL (.ref a) (.int i) v H R := ⟨a, xs, i, j, rfl, rfl, h, e, q⟩
end
theorem Same.through {H2 H4 H5 : Hp} {a : Addr} (s : Same H2 H4) (n : H2 a = none) (t : Same (L2.hid a H4) (L2.hid a H5)) : Same H2 H5 := fun b o e => by
  have hb : b ≠ a := ne_of_none e n
  have := t b o ((hid_at hb).trans (s b o e))
  rw [hid_at hb] at this
  exact this
theorem Same.of_eq {H H' : Hp} (e : H' = H) : Same H H' := by rw [e]; exact Same.refl H

/-! ### the pen -/
structure Pen (H : Hp) (a : Addr) : Prop where
  ex : ∃ l f s : Int, H a = some (.lst [.int l, .int f, .int s]) ∧ 0 ≤ l
theorem Pen.same {H H' : Hp} {a : Addr} (p : Pen H a) (s : Same H H') : Pen H' a := by
  obtain ⟨l, f, s', e, h⟩ := p.ex
  exact ⟨l, f, s', s _ _ e, h⟩
theorem Pen.tr {H : Hp} {a : Addr} (p : Pen H a) : Tr [a] H := by
  obtain ⟨l, f, s', e, h⟩ := p.ex
  exact ⟨⟨_, e⟩, trivial⟩
def pCell (K : PySem.W.Frag) : V → V → Hp → VK → Prop := fun x y H Q => ∃ (a : Addr) (ns : List Int) (i : Int), x = .ref a ∧ y = .int i ∧ SqL K H a (ns.map V.int) ∧ 0 ≤ i ∧ ∀ n, Q (.int n) H
def pNext : V → Hp → VK → Prop := fun x H Q => ∃ n, x = .int n ∧ ∀ m, 0 ≤ m → Q (.int m) H
def pPenOf : V → Hp → VK → Prop := fun x H Q => ∃ n, x = .int n ∧ ∀ a H', H a = none → Same H H' → Pen H' a → Q (.ref a) H'
def pDraw : V → V → Hp → VK → Prop := fun x y H Q => ∃ a n, x = .ref a ∧ y = .int n ∧ Pen H a ∧ 0 < n ∧ n.natAbs.log2 < 9000 ∧ ∀ r H', 0 ≤ r → r < n → Pen H' a → hid a H' = hid a H → Q (.int r) H'
def pNumber : V → Hp → VK → Prop := fun x H Q => ∃ a, x = .ref a ∧ Pen H a ∧ ∀ r H', -10 ^ 58 ≤ r → r ≤ 10 ^ 58 → Pen H' a → hid a H' = hid a H → Q (.int r) H'
def pSpan : V → Hp → VK → Prop := fun x H Q => ∃ a, x = .ref a ∧ Pen H a ∧ ∀ lo hi v H', lo ≤ hi → -10 ^ 58 ≤ lo → hi ≤ 10 ^ 59 → Pen H' a → Same (hid a H) (hid a H') → Has (hid a H') (.tuple [.int lo, .int hi]) v → Q v H'
theorem atI_int {ns : List Int} {i : Int} (h0 : 0 ≤ i) (h1 : i < ((ns.map V.int).length : Int)) : ∃ n, atI (ns.map V.int) i = some (.int n) := by
  obtain ⟨k, rfl⟩ := Int.eq_ofNat_of_zero_le h0
  have hk : k < ns.length := by rw [List.length_map] at h1; omega
  exact ⟨ns[k], atI_nat (by rw [List.getElem?_map, List.getElem?_eq_getElem hk]; rfl)⟩
theorem cut_ints {ns : List Int} {lo hi : Option Int} {x : V} (h : x ∈ cutV (ns.map V.int) lo hi) : ∃ n, x = .int n := by
  have h1 := List.mem_of_mem_drop (List.mem_of_mem_take h)
  obtain ⟨n, _, e⟩ := List.mem_map.mp h1
  exact ⟨n, e.symm⟩
theorem Fun.bind1 {K : PySem.W.Frag} {x a : Str} {st : Stmt} {f : Addr} {fd : FuncData} (F : Fun K x x st f fd)
    (h : ∀ (kV doc pm : Value) (an : Option Addr) (cdv ct : Value) (u : Value), bindArgs (PySem.W.fnOf x x (defArgs st) (defBody st) (defScope st) .none kV doc pm an cdv ct) ⟨[u], []⟩ = pure [(a, u)]) : ∀ (s : Shared) (u : Value), BindsTo s fd ⟨[u], []⟩ [(a, u)] := by
  obtain ⟨oc, od, kV, doc, pm, an, cdv, ct, osl, rfl, lk, hcd⟩ := F.ex
  exact fun s u => .of_eq (h kV doc pm an cdv ct u)
/-- the law's def: any list of at most 63 ints in, True out -/
def pLaw (K : PySem.W.Frag) : V → Hp → VK → Prop := fun x H Q => ∃ (a : Addr) (ns : List Int), x = .ref a ∧ SqL K H a (ns.map V.int) ∧ ns.length ≤ 63 ∧ ∀ H', Q (.bl true) H'
theorem walk_law {l : PySem.W.OpenLaw} {k : Nat} {q : Program} {loose : List Str} {XP : (Str → Option Value) → Heap → Prop} {YP : World → Heap → Prop} {d : DefRec} {K : Params → PySem.W.Frag} (hn : l.most = some 63) (hdf : d.params.defaults = [])
    (hr : Room k callerA) (hY : ∀ (w : World) (h : Heap), YP w h → (K w.params).In h)
    (F : ∀ (w : World) (mg : Str → Option Value) (fa : Addr) (h : Heap), (K w.params).In h → h.Ns mainGlobals mg → mg d.name = some (.ref fa) →
      ∃ fd : FuncData, (∀ (s : Shared) (u : Value), BindsTo s fd ⟨[u], []⟩ [("script", u)]) ∧ ∀ base : Heap, (K w.params).In base → base.Ns mainGlobals mg → FnOk l.prog w (K w.params) mg base CX0 k fa fd ["script"] (sp1 (pLaw (K w.params)))) :
    PySem.W.WalkO q loose XP YP l.row.toRowW d [] (fun f vs => PySem.call f vs) :=
  L2.walk_of (n := 63) (k := k) (x := "script") (CX := fun _ => CX0) (sp := fun w => sp1 (pLaw (K w.params))) hn (by decide) hdf hr hY F (fun _ _ a ns hl _ hS => ⟨a, ns, rfl, hS, hl, fun _ => rfl⟩) fun _ _ _ _ _ z => z
theorem Fun.ok1 {P : Program} {w : World} {K : PySem.W.Frag} {mg : Str → Option Value} {base : Heap} {x a : Str} {st : Stmt} {f : Addr} {fd : FuncData} {N : List Str} {k : Nat} {p : V → Hp → VK → Prop} (F : Fun K x x st f fd) (S : FnScope N [a] (defScope st)) (σ0 : V → St) (hs : ∀ v, start N [v] = σ0 v)
    (hbody : ∀ (cdv : Value) (A : Around) (outer : List Env) (s : Shared) (H : Hp) (v : V) (Q : VK) (E : XK), Room k (A.deeper (envOfC x (defScope st) s.heap.objs.size f cdv)) → p v H Q →
      ∃ t, PSs (cxOf CX0 P w K mg base N x (defScope st) f cdv A outer s H E).nox (defBody st) t ∧ t { nx := fun _ H' => Q .non H', rt := Q } (σ0 v) H) : FnOk P w K mg base CX0 (k + 1) f fd [a] (sp1 p) := by
  refine F.ok S (fun vs H Q E h => ?_) fun cdv A outer s H vs Q E hr h => ?_
  · obtain ⟨x, rfl, _⟩ := sp1_len vs H Q E h
    rfl
  · obtain ⟨x, rfl, h⟩ := sp1_len vs H Q E h
    rw [hs]
    exact hbody cdv A outer s H x Q E hr h
end L2

set_option Elab.async false
set_option linter.all false
set_option maxRecDepth 100000
set_option maxHeartbeats 1000000
/-! MY EXTENSION, third part: == of data, min and max of tuples, expressions and tests that give data. -/
namespace L2
open PySem PySem.Spec PyProof.Rows

/-! ### == of data -/
mutual
theorem Has.reads {X : Cx} {pins : List (Addr × Obj)} {σ : St} {H : Hp} {s : Shared} (I : Inv X pins σ H s) : ∀ (d : PyData) (v : V) (u : Value), Has H d v → d.canLay0 = true → RelV v u → ∃ as, Reads s.heap u d as
  | .none, v, u, h, _, r => by
    rw [has_none.mp h] at r
    cases (show u = Value.none from r)
    exact ⟨_, .none⟩
  | .bool b, v, u, h, _, r => by
    rw [has_bool.mp h] at r
    cases (show u = Value.bool b from r)
    exact ⟨_, .bool b⟩
  | .int i, v, u, h, _, r => by
    rw [has_int.mp h] at r
    obtain ⟨t, q⟩ := (show ∃ t, u = Value.int i t from r)
    cases q
    exact ⟨_, .int i t⟩
  | .str x, v, u, h, _, r => by
    rw [has_str.mp h] at r
    obtain ⟨t, q⟩ := (show ∃ t, u = Value.str x t from r)
    cases q
    exact ⟨_, .str x t⟩
  | .list ds, v, u, h, c, r => by
    obtain ⟨a, vs, rfl, e, l⟩ := has_list.mp h
    cases (show u = Value.ref a from r)
    obtain ⟨_, its, n, rv, e1⟩ := (show ObjOk X.prog X.w H s.heap a (.lst vs) from I.hok a _ e)
    obtain ⟨as, q⟩ := HasL.reads I ds vs its l (by simpa only [PyData.canLay0] using c) rv
    exact ⟨_, .list e1 rfl rfl (by simpa using q)⟩
  | .tuple ds, v, u, h, c, r => by
    obtain ⟨a, vs, rfl, e, l⟩ := has_tuple.mp h
    cases (show u = Value.ref a from r)
    obtain ⟨_, its, rv, o, e1, e2, n, e3⟩ := (show ObjOk X.prog X.w H s.heap a (.tup vs) from I.hok a _ e)
    obtain ⟨as, q⟩ := HasL.reads I ds vs its l (by simpa only [PyData.canLay0] using c) rv
    exact ⟨_, .tuple e1 e2 e3 (by simpa using q)⟩
  | .dict _, _, _, _, c, _ => by simp [PyData.canLay0] at c
theorem HasL.reads {X : Cx} {pins : List (Addr × Obj)} {σ : St} {H : Hp} {s : Shared} (I : Inv X pins σ H s) : ∀ (ds : List PyData) (vs : List V) (us : List Value), HasL H ds vs → PyData.canLayAll0 ds = true → Vals vs us → ∃ as, ReadsAll s.heap us ds as
  | [], vs, us, h, _, r => by
    rw [hasL_nil.mp h] at r
    cases r
    exact ⟨_, .nil⟩
  | d :: ds, vs, us, h, c, r => by
    obtain ⟨v, w', rfl, h1, h2⟩ := hasL_cons.mp h
    have c' : d.canLay0 = true ∧ PyData.canLayAll0 ds = true := by simpa [PyData.canLayAll0] using c
    cases r with
    | cons r1 r2 =>
      obtain ⟨as, q1⟩ := Has.reads I d v _ h1 c'.1 r1
      obtain ⟨bs, q2⟩ := HasL.reads I ds w' _ h2 c'.2 r2
      exact ⟨_, .cons q1 q2⟩
end
def rEqD : R2 := fun x y H Q => ∃ d e, Has H d x ∧ Has H e y ∧ SeqAt.shaped d = true ∧ SeqAt.shaped e = true ∧ Q (.bl (PyData.eqv d e)) H
def rNeD : R2 := fun x y H Q => ∃ d e, Has H d x ∧ Has H e y ∧ SeqAt.shaped d = true ∧ SeqAt.shaped e = true ∧ Q (.bl (!PyData.eqv d e)) H
section
variable {X : Cx}
theorem op_eqD (hu : X.A.units + 64 < cLine) : OpR X (compareOp .Eq) rEqD := by
  intro pins s σ H x y v u Q I rx ry h
  obtain ⟨d, e, hd, he, sd, se, q⟩ := h
  obtain ⟨as, q1⟩ := Has.reads I d x v hd (SeqAt.canLay_of_shaped sd) rx
  obtain ⟨bs, q2⟩ := Has.reads I e y u he (SeqAt.canLay_of_shaped se) ry
  exact eq_dataH q1 q2 sd se hu ⟨.bl _, H, I, rfl, q⟩
theorem op_neD (hu : X.A.units + 64 < cLine) : OpR X (compareOp .NotEq) rNeD := by
  intro pins s σ H x y v u Q I rx ry h
  obtain ⟨d, e, hd, he, sd, se, q⟩ := h
  obtain ⟨as, q1⟩ := Has.reads I d x v hd (SeqAt.canLay_of_shaped sd) rx
  obtain ⟨bs, q2⟩ := Has.reads I e y u he (SeqAt.canLay_of_shaped se) ry
  exact ne_dataH q1 q2 sd se hu ⟨.bl _, H, I, rfl, q⟩
end

/-! ### min and max of a tuple of ints -/
section
variable {prog : Program} {w : World} {A : Around} {E : Value → Shared → Prop} {s : Shared} {l : Addr}
theorem min_intTup {xs : Array (Int × Tok)} {Q : Value → Shared → Prop} (hh : A.handled = none) (hl : s.heap.IsTuple l (intItems xs)) (hne : 0 < xs.size)
    (h : ∀ v h' tk, (intItems xs)[argBest (fun i j => decide (numAt xs i < numAt xs j)) (xs.size - 1)]? = some v → (∀ b o, s.heap.get? b = some o → h'.get? b = some o) → Q v { s with heap := h', toks := tk }) :
    wpAny (model prog w) A (call (.builtin "min") [.ref l]) Q E s := by
  have hlt : l < s.heap.objs.size := by obtain ⟨o, e, _⟩ := hl; exact Heap.lt_size e
  refine call_min_walk (wpAny_pyIter_tuple hl ?_)
  refine ⟨_, [_, l], [_], _, _, _, _, rfl, Walks.tuple (A := A.in1) hh _ l (Nat.ne_of_lt hlt) (intItems xs), ⟨⟨_, Heap.get?_push_size _ rfl, rfl, rfl⟩, hl.push _⟩, fun c hc => ?_, by simpa [intItems] using hne, CmpOf.ints_lt (numAt xs) (fun _ _ => intItems_at), fun v h' tk hP hk => ?_⟩
  · show c < (s.heap.push _).objs.size
    rw [Heap.size_push]
    rcases List.mem_cons.mp hc with rfl | hc
    · exact Nat.lt_succ_self _
    · rcases List.mem_cons.mp hc with rfl | hc
      · exact Nat.lt_succ_of_lt hlt
      · cases hc
  · refine h v h' tk (by simpa [intItems] using hP) fun b o e => hk b o (fun hm => ?_) (Heap.get?_push_of_some _ e)
    rcases List.mem_cons.mp hm with e1 | hm
    · exact absurd (e1 ▸ Heap.lt_size e) (Nat.lt_irrefl _)
    · cases hm
theorem max_intTup {xs : Array (Int × Tok)} {Q : Value → Shared → Prop} (hh : A.handled = none) (hl : s.heap.IsTuple l (intItems xs)) (hne : 0 < xs.size)
    (h : ∀ v h' tk, (intItems xs)[argBest (fun i j => decide (numAt xs i > numAt xs j)) (xs.size - 1)]? = some v → (∀ b o, s.heap.get? b = some o → h'.get? b = some o) → Q v { s with heap := h', toks := tk }) :
    wpAny (model prog w) A (call (.builtin "max") [.ref l]) Q E s := by
  have hlt : l < s.heap.objs.size := by obtain ⟨o, e, _⟩ := hl; exact Heap.lt_size e
  refine call_max_walk (wpAny_pyIter_tuple hl ?_)
  refine ⟨_, [_, l], [_], _, _, _, _, rfl, Walks.tuple (A := A.in1) hh _ l (Nat.ne_of_lt hlt) (intItems xs), ⟨⟨_, Heap.get?_push_size _ rfl, rfl, rfl⟩, hl.push _⟩, fun c hc => ?_, by simpa [intItems] using hne, CmpOf.ints_gt (numAt xs) (fun _ _ => intItems_at), fun v h' tk hP hk => ?_⟩
  · show c < (s.heap.push _).objs.size
    rw [Heap.size_push]
    rcases List.mem_cons.mp hc with rfl | hc
    · exact Nat.lt_succ_self _
    · rcases List.mem_cons.mp hc with rfl | hc
      · exact Nat.lt_succ_of_lt hlt
      · cases hc
  · refine h v h' tk (by simpa [intItems] using hP) fun b o e => hk b o (fun hm => ?_) (Heap.get?_push_of_some _ e)
    rcases List.mem_cons.mp hm with e1 | hm
    · exact absurd (e1 ▸ Heap.lt_size e) (Nat.lt_irrefl _)
    · cases hm
theorem ints_at {vs : List Value} {ns : List Int} (hi : IntsAre vs ns) : ∃ xs : Array (Int × Tok), vs.toArray = intItems xs ∧ ns = xs.toList.map (·.1) := by
  obtain ⟨xs, e⟩ := hi.allInts.items
  exact ⟨xs, e, by rw [← hi.numsOf, ← nums_intItems, ← e]⟩
end
/-- min, max of a tuple or list of ints -/
def rMin (K : PySem.W.Frag) : List V → Hp → VK → Prop := fun xs H Q => ∃ p ns, xs = [.ref p] ∧ (SqL K H p (ns.map V.int) ∨ SqT K H p (ns.map V.int)) ∧ ns ≠ [] ∧ ∀ m, m ∈ ns → (∀ a, a ∈ ns → m ≤ a) → Q (.int m) H
def rMax (K : PySem.W.Frag) : List V → Hp → VK → Prop := fun xs H Q => ∃ p ns, xs = [.ref p] ∧ (SqL K H p (ns.map V.int) ∨ SqT K H p (ns.map V.int)) ∧ ns ≠ [] ∧ ∀ m, m ∈ ns → (∀ a, a ∈ ns → a ≤ m) → Q (.int m) H
section
variable {X : Cx}
theorem call_minQ (hc : X.calm = true) : CallR X (.builtin "min") (rMin X.K) := by
  intro pins s σ H xs us Q I r h
  obtain ⟨p, ns, rfl, hq, hne, q⟩ := h
  obtain ⟨u, rfl, rx⟩ := vals1 r
  cases (show u = Value.ref p from rx)
  have done : ∀ (ys : Array (Int × Tok)) (v : Value) (h' : Heap) (tk : Nat), ns = ys.toList.map (·.1) → 0 < ys.size → (intItems ys)[argBest (fun i j => decide (numAt ys i < numAt ys j)) (ys.size - 1)]? = some v →
      (∀ b o, s.heap.get? b = some o → h'.get? b = some o) → EP X pins σ Q v { s with heap := h', toks := tk } := by
    intro ys v h' tk hns hsz hv hk
    obtain ⟨t, rfl⟩ := intItems_at hv
    obtain ⟨h1, h2⟩ := argBest_lt (numAt ys) (ys.size - 1)
    refine ⟨.int _, H, I.kept (t' := tk) hk, ⟨t, rfl⟩, q _ ?_ fun a ha => ?_⟩
    · rw [hns, numAt_eq]; exact getD_mem (by rw [List.length_map, Array.length_toList]; omega)
    · rw [hns] at ha
      obtain ⟨j, hj, rfl⟩ := mem_getD ha
      rw [List.length_map, Array.length_toList] at hj
      rw [← numAt_eq]; exact h2 j (by omega)
  rcases hq with hq | hq
  · obtain ⟨its, rv, pl, _⟩ := I.list hq
    obtain ⟨ys, e, hns⟩ := ints_at (intsAre_of rv)
    have hsz : 0 < ys.size := by
      cases ys with
      | mk l => cases l with
        | nil => exact absurd hns hne
        | cons _ _ => exact Nat.succ_pos _
    exact min_intList (I.ok.hd hc) (by rw [← e]; exact pl.isList) hsz fun v h' tk hv hk => done ys v h' tk hns hsz hv hk
  · obtain ⟨its, rv, pl, _⟩ := I.tuple hq
    obtain ⟨ys, e, hns⟩ := ints_at (intsAre_of rv)
    have hsz : 0 < ys.size := by
      cases ys with
      | mk l => cases l with
        | nil => exact absurd hns hne
        | cons _ _ => exact Nat.succ_pos _
    exact min_intTup (I.ok.hd hc) (by rw [← e]; exact pl) hsz fun v h' tk hv hk => done ys v h' tk hns hsz hv hk
theorem call_maxQ (hc : X.calm = true) : CallR X (.builtin "max") (rMax X.K) := by
  intro pins s σ H xs us Q I r h
  obtain ⟨p, ns, rfl, hq, hne, q⟩ := h
  obtain ⟨u, rfl, rx⟩ := vals1 r
  cases (show u = Value.ref p from rx)
  have done : ∀ (ys : Array (Int × Tok)) (v : Value) (h' : Heap) (tk : Nat), ns = ys.toList.map (·.1) → 0 < ys.size → (intItems ys)[argBest (fun i j => decide (numAt ys i > numAt ys j)) (ys.size - 1)]? = some v →
      (∀ b o, s.heap.get? b = some o → h'.get? b = some o) → EP X pins σ Q v { s with heap := h', toks := tk } := by
    intro ys v h' tk hns hsz hv hk
    obtain ⟨t, rfl⟩ := intItems_at hv
    obtain ⟨h1, h2⟩ := argBest_gt (numAt ys) (ys.size - 1)
    refine ⟨.int _, H, I.kept (t' := tk) hk, ⟨t, rfl⟩, q _ ?_ fun a ha => ?_⟩
    · rw [hns, numAt_eq]; exact getD_mem (by rw [List.length_map, Array.length_toList]; omega)
    · rw [hns] at ha
      obtain ⟨j, hj, rfl⟩ := mem_getD ha
      rw [List.length_map, Array.length_toList] at hj
      rw [← numAt_eq]; exact h2 j (by omega)
  rcases hq with hq | hq
  · obtain ⟨its, rv, pl, _⟩ := I.list hq
    obtain ⟨ys, e, hns⟩ := ints_at (intsAre_of rv)
    have hsz : 0 < ys.size := by
      cases ys with
      | mk l => cases l with
        | nil => exact absurd hns hne
        | cons _ _ => exact Nat.succ_pos _
    exact max_intList (I.ok.hd hc) (by rw [← e]; exact pl.isList) hsz fun v h' tk hv hk => done ys v h' tk hns hsz hv hk
  · obtain ⟨its, rv, pl, _⟩ := I.tuple hq
    obtain ⟨ys, e, hns⟩ := ints_at (intsAre_of rv)
    have hsz : 0 < ys.size := by
      cases ys with
      | mk l => cases l with
        | nil => exact absurd hns hne
        | cons _ _ => exact Nat.succ_pos _
    exact max_intTup (I.ok.hd hc) (by rw [← e]; exact pl) hsz fun v h' tk hv hk => done ys v h' tk hns hsz hv hk
end

/-! ### more expressions that give data -/
def TrL : List Addr → Hp → Prop
  | [], _ => True
  | a :: r, H => (∃ xs, H a = some (.lst xs)) ∧ TrL r H
theorem TrL.tr : ∀ {o : List Addr} {H : Hp}, TrL o H → Tr o H
  | [], _, _ => trivial
  | _ :: r, _, ⟨⟨xs, e⟩, t⟩ => ⟨⟨_, e⟩, TrL.tr (o := r) t⟩
theorem TrL.same : ∀ {o : List Addr} {H H' : Hp}, TrL o H → Same H H' → TrL o H'
  | [], _, _, _, _ => trivial
  | _ :: r, _, _, ⟨⟨u, e⟩, t⟩, s => ⟨⟨u, s _ _ e⟩, TrL.same (o := r) t s⟩
theorem Pen.trl {H : Hp} {a : Addr} (p : Pen H a) : TrL [a] H := by
  obtain ⟨l, f, s', e, h⟩ := p.ex
  exact ⟨⟨_, e⟩, trivial⟩
theorem vw_tup : ∀ {o : List Addr} {H : Hp} {p : Addr} {vs : List V}, TrL o H → H p = some (.tup vs) → vw o H p = some (.tup vs)
  | [], _, _, _, _, e => e
  | a :: r, H, p, vs, ⟨⟨xs, e'⟩, t⟩, e => (hid_at (ne_of e e' (by intro z; cases z))).trans (vw_tup (o := r) t e)
mutual
/-- no list and no dict within -/
def tupD : PyData → Bool
  | .none => true
  | .bool _ => true
  | .int _ => true
  | .str _ => true
  | .tuple ds => tupDs ds
  | .list _ => false
  | .dict _ => false
def tupDs : List PyData → Bool
  | [] => true
  | d :: ds => tupD d && tupDs ds
end
mutual
theorem Has.vwT {o : List Addr} {H : Hp} (t : TrL o H) : ∀ (d : PyData) (v : V), tupD d = true → Has H d v → Has (vw o H) d v
  | .none, v, _, h => has_none.mpr (has_none.mp h)
  | .bool _, v, _, h => has_bool.mpr (has_bool.mp h)
  | .int _, v, _, h => has_int.mpr (has_int.mp h)
  | .str _, v, _, h => has_str.mpr (has_str.mp h)
  | .tuple ds, v, c, h => by
    obtain ⟨a, vs, rfl, e, l⟩ := has_tuple.mp h
    exact has_tuple.mpr ⟨a, vs, rfl, vw_tup t e, HasL.vwT t ds vs (by simpa only [tupD] using c) l⟩
  | .list _, _, c, _ => by simp [tupD] at c
  | .dict _, _, c, _ => by simp [tupD] at c
theorem HasL.vwT {o : List Addr} {H : Hp} (t : TrL o H) : ∀ (ds : List PyData) (vs : List V), tupDs ds = true → HasL H ds vs → HasL (vw o H) ds vs
  | [], _, _, h => hasL_nil.mpr (hasL_nil.mp h)
  | d :: ds, vs, c, h => by
    obtain ⟨v, r, rfl, h1, h2⟩ := hasL_cons.mp h
    have c' : tupD d = true ∧ tupDs ds = true := by simpa [tupDs] using c
    exact hasL_cons.mpr ⟨v, r, rfl, Has.vwT t d v c'.1 h1, HasL.vwT t ds r c'.2 h2⟩
end
/-- a test that comes out as b -/
def GvT (σ : St) (H0 : Hp) (t : TT) (b : Bool) : Prop := ∀ (H : Hp) (Q : Bool → Hp → Prop), Same H0 H → (∀ H', Same H H' → Q b H') → t σ H Q
section
variable {K : PySem.W.Frag} {o : List Addr} {σ : St} {H0 : Hp} {t t1 t2 t3 t4 t5 : TE} {ta : TA} {tt tu : TT} {d d1 d2 d3 d4 d5 : PyData} {ds : List PyData} {b c : Bool}
theorem gv_var0 {i : Nat} {v : V} (e : σ[i]? = some (some v)) (h : Has H0 d v) : Gv [] σ H0 (tVar i) d := gv_var (o := []) e h
theorem gv_varP {a : Addr} {i : Nat} {v : V} (e : σ[i]? = some (some v)) (h : Has (hid a H0) d v) : Gv [a] σ H0 (tVar i) d := gv_var (o := [a]) e h
theorem gv_I0i {g : Int → Int → Int} {i j : Int} (h1 : Gv o σ H0 t1 (.int i)) (h2 : Gv o σ H0 t2 (.int j)) : Gv o σ H0 (tOp (rI0 fun i j => .int (g i j)) t1 t2) (.int (g i j)) := fun H Q s q =>
  h1 H _ s fun v H1 s1 e1 => h2 H1 _ (s.trans s1) fun u H2 s2 e2 => by
    rw [has_int.mp e1, has_int.mp e2]
    exact rI0_int.mpr (q _ H2 (s1.trans s2) (has_int.mpr rfl))
theorem gv_I0b {g : Int → Int → Bool} {i j : Int} (h1 : Gv o σ H0 t1 (.int i)) (h2 : Gv o σ H0 t2 (.int j)) : Gv o σ H0 (tOp (rI0 fun i j => .bl (g i j)) t1 t2) (.bool (g i j)) := fun H Q s q =>
  h1 H _ s fun v H1 s1 e1 => h2 H1 _ (s.trans s1) fun u H2 s2 e2 => by
    rw [has_int.mp e1, has_int.mp e2]
    exact rI0_int.mpr (q _ H2 (s1.trans s2) (has_bool.mpr rfl))
theorem gv_Ii {C : Int → Int → Prop} {g : Int → Int → Int} {i j : Int} (h1 : Gv o σ H0 t1 (.int i)) (h2 : Gv o σ H0 t2 (.int j)) (hc : C i j) : Gv o σ H0 (tOp (rI C fun i j => .int (g i j)) t1 t2) (.int (g i j)) := fun H Q s q =>
  h1 H _ s fun v H1 s1 e1 => h2 H1 _ (s.trans s1) fun u H2 s2 e2 => by
    rw [has_int.mp e1, has_int.mp e2]
    exact rI_int.mpr ⟨hc, q _ H2 (s1.trans s2) (has_int.mpr rfl)⟩
theorem gv_eqI {i j : Int} (h1 : Gv o σ H0 t1 (.int i)) (h2 : Gv o σ H0 t2 (.int j)) : Gv o σ H0 (tOp rEq t1 t2) (.bool (decide (i = j))) := fun H Q s q =>
  h1 H _ s fun v H1 s1 e1 => h2 H1 _ (s.trans s1) fun u H2 s2 e2 => by
    rw [has_int.mp e1, has_int.mp e2]
    exact rEq_int.mpr (q _ H2 (s1.trans s2) (has_bool.mpr rfl))
theorem gv_neI {i j : Int} (h1 : Gv o σ H0 t1 (.int i)) (h2 : Gv o σ H0 t2 (.int j)) : Gv o σ H0 (tOp rNe t1 t2) (.bool (!decide (i = j))) := fun H Q s q =>
  h1 H _ s fun v H1 s1 e1 => h2 H1 _ (s.trans s1) fun u H2 s2 e2 => by
    rw [has_int.mp e1, has_int.mp e2]
    exact rNe_int.mpr (q _ H2 (s1.trans s2) (has_bool.mpr rfl))
theorem gv_eqB {i j : Bool} (h1 : Gv o σ H0 t1 (.bool i)) (h2 : Gv o σ H0 t2 (.bool j)) : Gv o σ H0 (tOp rEq t1 t2) (.bool (decide (i = j))) := fun H Q s q =>
  h1 H _ s fun v H1 s1 e1 => h2 H1 _ (s.trans s1) fun u H2 s2 e2 => by
    rw [has_bool.mp e1, has_bool.mp e2]
    exact rEq_bl.mpr (q _ H2 (s1.trans s2) (has_bool.mpr rfl))
theorem gv_neB {i j : Bool} (h1 : Gv o σ H0 t1 (.bool i)) (h2 : Gv o σ H0 t2 (.bool j)) : Gv o σ H0 (tOp rNe t1 t2) (.bool (!decide (i = j))) := fun H Q s q =>
  h1 H _ s fun v H1 s1 e1 => h2 H1 _ (s.trans s1) fun u H2 s2 e2 => by
    rw [has_bool.mp e1, has_bool.mp e2]
    exact rNe_bl.mpr (q _ H2 (s1.trans s2) (has_bool.mpr rfl))
theorem gv_eqD (h1 : Gv o σ H0 t1 d1) (h2 : Gv o σ H0 t2 d2) (c1 : SeqAt.shaped d1 = true) (c2 : SeqAt.shaped d2 = true) : Gv o σ H0 (tOp rEqD t1 t2) (.bool (PyData.eqv d1 d2)) := fun H Q s q =>
  h1 H _ s fun v H1 s1 e1 => h2 H1 _ (s.trans s1) fun u H2 s2 e2 => ⟨d1, d2, (e1.mono s2.vw).mono vw_same, e2.mono vw_same, c1, c2, q _ H2 (s1.trans s2) (has_bool.mpr rfl)⟩
theorem gv_neD (h1 : Gv o σ H0 t1 d1) (h2 : Gv o σ H0 t2 d2) (c1 : SeqAt.shaped d1 = true) (c2 : SeqAt.shaped d2 = true) : Gv o σ H0 (tOp rNeD t1 t2) (.bool (!PyData.eqv d1 d2)) := fun H Q s q =>
  h1 H _ s fun v H1 s1 e1 => h2 H1 _ (s.trans s1) fun u H2 s2 e2 => ⟨d1, d2, (e1.mono s2.vw).mono vw_same, e2.mono vw_same, c1, c2, q _ H2 (s1.trans s2) (has_bool.mpr rfl)⟩
def noneD : PyData → Bool
  | .none => true
  | _ => false
theorem has_noneD {H : Hp} {v : V} (h : Has H d v) : decide (v = .non) = noneD d := by
  cases d with
  | none => rw [has_none.mp h]; rfl
  | bool _ => rw [has_bool.mp h]; rfl
  | int _ => rw [has_int.mp h]; rfl
  | str _ => rw [has_str.mp h]; rfl
  | list _ => obtain ⟨a, vs, rfl, _⟩ := has_list.mp h; rfl
  | tuple _ => obtain ⟨a, vs, rfl, _⟩ := has_tuple.mp h; rfl
  | dict _ => obtain ⟨a, vs, rfl, _⟩ := has_dict.mp h; rfl
def rIsN : R2 := fun x y H Q => y = .non ∧ Q (.bl (decide (x = .non))) H
def rNotN : R2 := fun x y H Q => y = .non ∧ Q (.bl (!decide (x = .non))) H
theorem op_isNQ {X : Cx} : OpR X (compareOp .Is) rIsN := op_isN
theorem op_notNQ {X : Cx} : OpR X (compareOp .IsNot) rNotN := op_notN
theorem gv_isN (h1 : Gv o σ H0 t1 d) : Gv o σ H0 (tOp rIsN t1 (tC .non)) (.bool (noneD d)) := fun H Q s q =>
  h1 H _ s fun v H1 s1 e1 => ⟨rfl, by rw [has_noneD e1]; exact q _ H1 s1 (has_bool.mpr rfl)⟩
theorem gv_notN (h1 : Gv o σ H0 t1 d) : Gv o σ H0 (tOp rNotN t1 (tC .non)) (.bool (!noneD d)) := fun H Q s q =>
  h1 H _ s fun v H1 s1 e1 => ⟨rfl, by rw [has_noneD e1]; exact q _ H1 s1 (has_bool.mpr rfl)⟩
theorem gv_ixT {i : Nat} (h1 : Gv o σ H0 t1 (.tuple ds)) (hi : ds[i]? = some d) : Gv o σ H0 (tOp (rIxT K) t1 (tC (.int i))) d := fun H Q s q =>
  h1 H _ s fun v H1 s1 e1 => rdv_ixT e1 hi fun u hu => q u H1 s1 hu
theorem gv_ixT0 (h1 : Gv o σ H0 t1 (.tuple (d :: ds))) : Gv o σ H0 (tOp (rIxT K) t1 (tC (.int 0))) d := gv_ixT (i := 0) h1 rfl
theorem gv_ixT1 (h1 : Gv o σ H0 t1 (.tuple (d1 :: d :: ds))) : Gv o σ H0 (tOp (rIxT K) t1 (tC (.int 1))) d := gv_ixT (i := 1) h1 rfl
theorem gv_ixT2 (h1 : Gv o σ H0 t1 (.tuple (d1 :: d2 :: d :: ds))) : Gv o σ H0 (tOp (rIxT K) t1 (tC (.int 2))) d := gv_ixT (i := 2) h1 rfl
theorem gv_lenT (h1 : Gv o σ H0 t1 (.tuple ds)) : Gv o σ H0 (tCB (rLen K) (tCons t1 tNil)) (.int (ds.length : Int)) := fun H Q s q =>
  h1 H _ s fun v H1 s1 e1 => rd_lenT (e1.mono vw_same) (q _ H1 s1 (has_int.mpr rfl))
theorem gv_lenL (h1 : Gv o σ H0 t1 (.list ds)) : Gv o σ H0 (tCB (rLen K) (tCons t1 tNil)) (.int (ds.length : Int)) := fun H Q s q =>
  h1 H _ s fun v H1 s1 e1 => rd_lenL (e1.mono vw_same) (q _ H1 s1 (has_int.mpr rfl))
theorem gv_isi {cl : String} (h1 : Gv o σ H0 t1 d) (hc : cl ∈ clsD) : Gv o σ H0 (tCB rIsi (tCons t1 (tCons (tC (.ty cl)) tNil))) (.bool (isiD d cl)) := fun H Q s q =>
  h1 H _ s fun v H1 s1 e1 => rIsi_of (e1.mono vw_same) hc (q _ H1 s1 (has_bool.mpr rfl))
theorem gv_max2 {i j : Int} (h1 : Gv o σ H0 t1 (.int i)) (h2 : Gv o σ H0 t2 (.int j)) : Gv o σ H0 (tCB (fun xs H Q => ∃ i j, xs = [.int i, .int j] ∧ Q (.int (if j > i then j else i)) H) (tCons t1 (tCons t2 tNil))) (.int (if j > i then j else i)) := fun H Q s q =>
  h1 H _ s fun v H1 s1 e1 => h2 H1 _ (s.trans s1) fun u H2 s2 e2 => ⟨i, j, by rw [has_int.mp e1, has_int.mp e2], q _ H2 (s1.trans s2) (has_int.mpr rfl)⟩
theorem gv_min2 {i j : Int} (h1 : Gv o σ H0 t1 (.int i)) (h2 : Gv o σ H0 t2 (.int j)) : Gv o σ H0 (tCB (fun xs H Q => ∃ i j, xs = [.int i, .int j] ∧ Q (.int (if j < i then j else i)) H) (tCons t1 (tCons t2 tNil))) (.int (if j < i then j else i)) := fun H Q s q =>
  h1 H _ s fun v H1 s1 e1 => h2 H1 _ (s.trans s1) fun u H2 s2 e2 => ⟨i, j, by rw [has_int.mp e1, has_int.mp e2], q _ H2 (s1.trans s2) (has_int.mpr rfl)⟩
/-- and, or, not as values -/
theorem gv_and (h1 : Gv o σ H0 t1 (.bool b)) (h2 : b = true → Gv o σ H0 t2 (.bool c)) : Gv o σ H0 (tAndV t1 t2) (.bool (b && c)) := fun H Q s q =>
  h1 H _ s fun v H1 s1 e1 => ⟨b, has_bool.mp e1, by
    cases b with
    | true => exact iteT (h2 rfl H1 Q (s.trans s1) fun v H2 s2 e2 => q v H2 (s1.trans s2) (by simpa using e2))
    | false => exact iteF (q _ H1 s1 (has_bool.mpr rfl))⟩
theorem gv_or (h1 : Gv o σ H0 t1 (.bool b)) (h2 : b = false → Gv o σ H0 t2 (.bool c)) : Gv o σ H0 (tOrV t1 t2) (.bool (b || c)) := fun H Q s q =>
  h1 H _ s fun v H1 s1 e1 => ⟨b, has_bool.mp e1, by
    cases b with
    | false => exact iteF (h2 rfl H1 Q (s.trans s1) fun v H2 s2 e2 => q v H2 (s1.trans s2) (by simpa using e2))
    | true => exact iteT (q _ H1 s1 (has_bool.mpr rfl))⟩
theorem gv_not (h1 : Gv o σ H0 t1 (.bool b)) : Gv o σ H0 (tNotV t1) (.bool (!b)) := fun H Q s q =>
  h1 H _ s fun v H1 s1 e1 => ⟨b, has_bool.mp e1, q _ H1 s1 (has_bool.mpr rfl)⟩
theorem gv_if (h1 : GvT σ H0 tt b) (h2 : b = true → Gv o σ H0 t1 d) (h3 : b = false → Gv o σ H0 t2 d) : Gv o σ H0 (tIf tt t1 t2) d := fun H Q s q =>
  h1 H _ s fun H1 s1 => by
    cases b with
    | true => exact iteT (h2 rfl H1 Q (s.trans s1) fun v H2 s2 e2 => q v H2 (s1.trans s2) e2)
    | false => exact iteF (h3 rfl H1 Q (s.trans s1) fun v H2 s2 e2 => q v H2 (s1.trans s2) e2)
theorem gv_ifI {i j : Int} (h1 : GvT σ H0 tt b) (h2 : Gv o σ H0 t1 (.int i)) (h3 : Gv o σ H0 t2 (.int j)) : Gv o σ H0 (tIf tt t1 t2) (.int (if b = true then i else j)) :=
  gv_if h1 (fun e => by subst e; exact h2) (fun e => by subst e; exact h3)
theorem gv_ifP {p : Prop} [Decidable p] {d1 d2 : PyData} (h1 : GvT σ H0 tt (decide p)) (h2 : Gv o σ H0 t1 d1) (h3 : Gv o σ H0 t2 d2) : Gv o σ H0 (tIf tt t1 t2) (if p then d1 else d2) :=
  gv_if h1 (fun e => by rw [if_pos (of_decide_eq_true e)]; exact h2) (fun e => by rw [if_neg (of_decide_eq_false e)]; exact h3)
/-- tests -/
theorem gt_b (h1 : Gv o σ H0 t (.bool b)) : GvT σ H0 (tB t) b := fun H Q s q => h1 H _ s fun v H1 s1 e1 => ⟨b, has_bool.mp e1, q H1 s1⟩
theorem gt_t (h1 : Gv o σ H0 t (.bool b)) : GvT σ H0 (tTest t) b := fun H Q s q => h1 H _ s fun v H1 s1 e1 => ⟨b, has_bool.mp e1, q H1 s1⟩
theorem gt_not (h1 : GvT σ H0 tt b) : GvT σ H0 (tNot tt) (!b) := fun H Q s q => h1 H _ s fun H1 s1 => q H1 s1
theorem gt_and (h1 : GvT σ H0 tt b) (h2 : b = true → GvT σ H0 tu c) : GvT σ H0 (tAnd tt tu) (b && c) := fun H Q s q =>
  h1 H _ s fun H1 s1 => by
    cases b with
    | true => exact iteT (h2 rfl H1 Q (s.trans s1) fun H2 s2 => by simpa using q H2 (s1.trans s2))
    | false => exact iteF (q H1 s1)
theorem gt_andF (h1 : GvT σ H0 tt b) (h2 : b = true → GvT σ H0 tu false) : GvT σ H0 (tAnd tt tu) false := fun H Q s q =>
  h1 H _ s fun H1 s1 => by
    cases b with
    | true => exact iteT (h2 rfl H1 Q (s.trans s1) fun H2 s2 => q H2 (s1.trans s2))
    | false => exact iteF (q H1 s1)
theorem gt_or (h1 : GvT σ H0 tt b) (h2 : b = false → GvT σ H0 tu c) : GvT σ H0 (tOr tt tu) (b || c) := fun H Q s q =>
  h1 H _ s fun H1 s1 => by
    cases b with
    | false => exact iteF (h2 rfl H1 Q (s.trans s1) fun H2 s2 => by simpa using q H2 (s1.trans s2))
    | true => exact iteT (q H1 s1)
/-- calls of defs; o none: any data; o the pen's: data of tuples -/
theorem gv_c1 {p : V → Hp → VK → Prop} (hp : ∀ x H Q, Has H d1 x → (∀ v H', Same H H' → Has H' d v → Q v H') → p x H Q) (h1 : Gv o σ H0 t1 d1) (T : TrL o H0) (hd : tupD d = true) : Gv o σ H0 (tC1 p t1) d := fun H Q s q =>
  h1 H _ s fun v H1 s1 e1 => hp v H1 Q (e1.mono vw_same) fun r H3 s3 e3 => q r H3 (s1.trans s3) (Has.vwT (T.same ((s.trans s1).trans s3)) _ _ hd e3)
theorem gv_c2 {p : V → V → Hp → VK → Prop} (hp : ∀ x y H Q, Has H d1 x → Has H d2 y → (∀ v H', Same H H' → Has H' d v → Q v H') → p x y H Q) (h1 : Gv o σ H0 t1 d1) (h2 : Gv o σ H0 t2 d2) (T : TrL o H0) (hd : tupD d = true) : Gv o σ H0 (tC2 p t1 t2) d := fun H Q s q =>
  h1 H _ s fun v H1 s1 e1 => h2 H1 _ (s.trans s1) fun u H2 s2 e2 => hp v u H2 Q ((e1.mono s2.vw).mono vw_same) (e2.mono vw_same) fun r H3 s3 e3 => q r H3 ((s1.trans s2).trans s3) (Has.vwT (T.same (((s.trans s1).trans s2).trans s3)) _ _ hd e3)
theorem gv_c3 {p : V → V → V → Hp → VK → Prop} (hp : ∀ x y z H Q, Has H d1 x → Has H d2 y → Has H d3 z → (∀ v H', Same H H' → Has H' d v → Q v H') → p x y z H Q) (h1 : Gv o σ H0 t1 d1) (h2 : Gv o σ H0 t2 d2) (h3 : Gv o σ H0 t3 d3) (T : TrL o H0) (hd : tupD d = true) : Gv o σ H0 (tC3 p t1 t2 t3) d := fun H Q s q =>
  h1 H _ s fun v H1 s1 e1 => h2 H1 _ (s.trans s1) fun u H2 s2 e2 => h3 H2 _ ((s.trans s1).trans s2) fun w' H3 s3 e3 =>
    hp v u w' H3 Q ((e1.mono (s2.trans s3).vw).mono vw_same) ((e2.mono s3.vw).mono vw_same) (e3.mono vw_same) fun r H4 s4 e4 => q r H4 (((s1.trans s2).trans s3).trans s4) (Has.vwT (T.same ((((s.trans s1).trans s2).trans s3).trans s4)) _ _ hd e4)
end
theorem ite_t {b : Bool} {A B : Prop} (h : b = true) (k : A) : if b = true then A else B := by rw [if_pos h]; exact k
theorem ite_f {b : Bool} {A B : Prop} (h : b = false) (k : B) : if b = true then A else B := by rw [h]; exact iteF k
/-- a span's data -/
def spD (a b : Int) : PyData := .tuple [.int a, .int b]
theorem shaped_sp (a b : Int) : SeqAt.shaped (spD a b) = true := rfl
theorem eqv_sp (a b c d : Int) : PyData.eqv (spD a b) (spD c d) = decide (a = c ∧ b = d) := by
  simp only [spD, PyData.eqv, PyData.eqvAll, Bool.and_true]
  by_cases h1 : a = c <;> by_cases h2 : b = d <;> simp [h1, h2]
theorem eqv_none_sp (c d : Int) : PyData.eqv .none (spD c d) = false := rfl
theorem eqv_sp_none (c d : Int) : PyData.eqv (spD c d) .none = false := rfl
end L2
namespace L2
open PySem PySem.Spec PyProof.Rows
theorem tSeq_via {t u : TS} {D : Ends} {σ : St} {H : Hp} (I : St → Hp → Prop) (fin : ∀ σ' H', I σ' H' → u D σ' H') (h : ∀ nx : St → Hp → Prop, (∀ σ' H', I σ' H' → nx σ' H') → t { D with nx := nx } σ H) : tSeq t u D σ H := h (u D) fin
/-- for cell in [_law_cell_at(script, 0)] + script[1:N]: the body at any int; the heap grows, the places keep their shape P -/
theorem for_cells {K : PySem.W.Frag} {a : Addr} {ns : List Int} {N : Int} {j : Nat} {tb : TS} {D : Ends} {σ : St} {H : Hp} (P : St → Prop) (h0 : σ[0]? = some (some (.ref a))) (hS : SqL K H a (ns.map V.int)) (hlen : ns.length ≤ 63) (hP : P σ)
    (turn : ∀ (n : Int) (σ : St) (H1 H2 : Hp), P σ → Same H H1 → Same H1 H2 → tb { D with nx := fun σ' H' => Same H1 H' ∧ P σ', ct := fun σ' H' => Same H1 H' ∧ P σ', bk := D.nx } (σ.set j (some (.int n))) H2)
    (done : ∀ (σ : St) (H1 : Hp), P σ → Same H H1 → D.nx σ H1) :
    tFor (iList K (tOp rCat (tLst (tCons (tC2 (pCell K) (tVar 0) (tC (.int 0))) tNil)) (tSl (rSlL K) (tVar 0) (tPart (tC (.int 1))) (tPart (tC (.int N)))))) (gName j) tb D σ H := by
  refine ⟨_, h0, a, ns, 0, rfl, rfl, hS, by decide, fun n0 => ⟨by show 1 ≤ sizeLine; decide, fun p hp => ?_⟩⟩
  have s1 : Same H (upd H p (.lst [.int n0])) := Same.laid hp
  refine ⟨_, h0, _, rfl, _, rfl, a, _, rfl, s1.seq hS, fun p2 hp2 => ?_⟩
  have s2 := s1.trans (Same.laid (o := .lst (cutV (ns.map V.int) (some 1) (some N))) hp2)
  have np : p ≠ p2 := ne_of_none upd_same hp2
  have hz : (cutV (ns.map V.int) (some 1) (some N)).length ≤ 63 := Nat.le_trans (cutV_length _ _ _) (by rw [List.length_map]; exact hlen)
  refine ⟨p, p2, _, _, rfl, rfl, by rw [upd_ne np, upd_same], upd_same, Nat.le_of_lt (small1000 (by simp only [List.length_cons, List.length_nil]; omega)), fun p3 hp3 => ?_⟩
  have s3 := s2.trans (Same.laid (o := .lst ([V.int n0] ++ cutV (ns.map V.int) (some 1) (some N))) hp3)
  refine ⟨p3, rfl, ⟨_, .of upd_same⟩, for_list (K := K) (a := p3) (xs := [V.int n0] ++ cutV (ns.map V.int) (some 1) (some N)) (fun i σ' H' => Same _ H' ∧ P σ') ⟨Same.refl _, hP⟩ (fun i σ H4 _ ⟨s4, _⟩ => .of (s4 _ _ upd_same)) ?_ ?_⟩
  · rintro i x σ' H4 hi ⟨s4, p4⟩
    obtain ⟨n, rfl⟩ : ∃ n, x = .int n := by
      rcases List.mem_append.mp (List.mem_of_getElem? hi) with m | m
      · exact ⟨n0, List.mem_singleton.mp m⟩
      · exact cut_ints m
    exact turn n σ' _ H4 p4 s3 s4
  · rintro σ' H4 ⟨s4, p4⟩
    exact done σ' H4 p4 (s3.trans s4)
theorem HasL.getV {H : Hp} : ∀ {ds : List PyData} {vs : List V} {i : Nat} {x : V}, HasL H ds vs → vs[i]? = some x → ∃ d, d ∈ ds ∧ Has H d x
  | [], _, i, x, h, e => by
    rw [hasL_nil.mp h] at e
    simp at e
  | d :: ds, vs, 0, x, h, e => by
    obtain ⟨v, r, rfl, q, _⟩ := hasL_cons.mp h
    have e' : v = x := by simpa using e
    exact ⟨d, List.mem_cons_self, e' ▸ q⟩
  | d :: ds, vs, i + 1, x, h, e => by
    obtain ⟨v, r, rfl, _, l⟩ := hasL_cons.mp h
    obtain ⟨d', m, q⟩ := HasL.getV l (show r[i]? = some x by simpa using e)
    exact ⟨d', List.mem_cons_of_mem _ m, q⟩
/-- a loop over a list of data -/
theorem for_data {K : PySem.W.Frag} {ds : List PyData} {t : TE} {j : Nat} {tb : TS} {D : Ends} {σ : St} {H : Hp} (g : Gv [] σ H t (.list ds)) (P : St → Prop) (hP : P σ)
    (turn : ∀ (dx : PyData) (x : V) (σ : St) (H1 H2 : Hp), dx ∈ ds → P σ → Same H H1 → Same H1 H2 → Has H2 dx x → tb { D with nx := fun σ' H' => Same H1 H' ∧ P σ', ct := fun σ' H' => Same H1 H' ∧ P σ', bk := D.nx } (σ.set j (some x)) H2)
    (done : ∀ (σ : St) (H1 : Hp), P σ → Same H H1 → D.nx σ H1) :
    tFor (iList K t) (gName j) tb D σ H := by
  refine g H _ (Same.refl H) fun v H1 s1 h1 => ?_
  obtain ⟨p, vs, rfl, hp, hl⟩ := has_list.mp (show Has H1 (.list ds) v from h1)
  refine ⟨p, rfl, ⟨_, .of hp⟩, for_list (K := K) (a := p) (xs := vs) (fun i σ' H' => Same H1 H' ∧ P σ') ⟨Same.refl _, hP⟩ (fun i σ H4 _ ⟨s4, _⟩ => .of (s4 _ _ hp)) ?_ ?_⟩
  · rintro i x σ' H4 hi ⟨s4, p4⟩
    obtain ⟨d, m, q⟩ := hl.getV hi
    exact turn d x σ' H1 H4 m p4 s1 s4 (q.mono s4)
  · rintro σ' H4 ⟨s4, p4⟩
    exact done σ' H4 p4 (s1.trans s4)
end L2

set_option Elab.async false
set_option linter.all false
set_option maxRecDepth 100000
set_option maxHeartbeats 1000000
/-! MY EXTENSION, fourth part: a list comprehension of one clause, in a body from which no exception leaves. -/
namespace L2
open PySem PySem.Spec PyProof.Rows

section
variable {prog : Program} {w : World} {A : Around} {E : Value → Shared → Prop} {R : Result → Shared → Prop} {s : Shared}
/-- the loop of a comprehension, the clause's target any -/
theorem compLoop_any {elt target iter : Expr} {ifs : List Expr} {scope : Scope} {pos : Pos} {it acc : Value} {env : Env} (I : Nat → Shared → Prop)
    (turn : ∀ n s, I n s → wpAny (model prog w) A (pyNext it) (fun r s₁ => match r with
      | none => R (.ok .next) s₁
      | some v => wpAny (model prog w) A (letOwnedTupleGo target it v) (fun _ s₀ => wpAny (model prog w) A (assign target env v) (fun _ s₂ =>
          wpAny (model prog w) A (forIn ifs true fun c r => if r = true then do let ok ← isTrue c env (eval c env); pure (ForInStep.yield ok) else pure (ForInStep.yield r)) (fun ok s₃ =>
            if ok = true then wpAny (model prog w) A (eval elt env) (fun x s₄ =>
              wpAny (model prog w) A (call (.builtin "list.append") [acc, x]) (fun _ s₅ => ∃ m, m < n ∧ I m s₅) (fun _ _ => False) s₄) (fun _ _ => False) s₃
            else ∃ m, m < n ∧ I m s₃) (fun _ _ => False) s₂) (fun _ _ => False) s₀) (fun _ _ => False) s₁) (fun _ _ => False) s)
    (n : Nat) (h : I n s) :
    codeAny (model prog w) A (.compLoop (.ListComp elt [⟨target, iter, ifs, 0⟩] scope pos) 0 it acc env) R s := by
  have up : ∀ {α : Type} {t : Sem α} {Q : α → Shared → Prop} {E' : Value → Shared → Prop} {s' : Shared}, wpAny (model prog w) A t Q (fun _ _ => False) s' → wpAny (model prog w) A t Q E' s' := fun h => wpAny_mono h (fun _ _ q => q) fun _ _ z => z.elim
  refine codeAny_loop rfl I (fun n s hI => ?_) n h
  show wpAny _ A ((compTurn (.ListComp elt [⟨target, iter, ifs, 0⟩] scope pos) 0 it acc env).onRaise (fun x => do noteFrame x env; theTreesLotGoes x)) _ _ s
  refine wpAny_noted ?_
  rw [compTurn_list]
  refine wpAny_bind (wpAny_standAt (wpAny_bind (thn (up (turn n s hI)) fun r s₁ h₁ => ?_)))
  cases r with
  | none => exact wpAny_pure h₁
  | some v =>
    refine wpAny_bind (thn (up h₁) fun _ s₀ h₀ => ?_)
    refine wpAny_bind (thn (up h₀) fun _ s₂ h₂ => wpAny_bind (thn (up h₂) fun ok s₃ h₃ => ?_))
    cases ok with
    | false => exact wpAny_pure ⟨rfl, h₃⟩
    | true =>
      exact wpAny_bind (wpAny_bind (thn (up h₃) fun x s₄ h₄ => wpAny_bind (thn (up h₄) fun _ s₅ h₅ => wpAny_pure (wpAny_pure ⟨rfl, h₅⟩))))
end

/-- the context of a comprehension's block -/
def compCx (X : Cx) (scope : Scope) (cl : List (Str × Addr)) (C : Addr) (s₃ : Shared) (H₃ : Hp) (fp : List Addr) (N : List Str) : Cx where
  prog := X.prog
  w := X.w
  K := X.K
  mg := X.mg
  base := X.base
  A := X.A
  N := N
  s₀ := s₃
  H₀ := H₃
  env := compEnvC scope cl C X.env
  outer := X.stack
  stack := X.stack
  ex := fp
  fn := fun _ => false
  calm := X.calm
  pn := []
  xe := fun _ _ => False
/-- the tests of a clause -/
def PTs (X : Cx) (ifs : List Expr) (t : TT) : Prop :=
  ∀ (pins : List (Addr × Obj)) (s : Shared) (σ : St) (H : Hp) (Q : Bool → Hp → Prop), Inv X pins σ H s → t σ H Q →
    wpAny (model X.prog X.w) X.A (forIn ifs true fun c r => if r = true then do let ok ← isTrue c X.env (eval c X.env); pure (ForInStep.yield ok) else pure (ForInStep.yield r)) (TP X pins σ Q) X.xe s
def tNoIf : TT := fun _ H Q => Q true H
theorem pts_nil {X : Cx} : PTs X [] tNoIf := fun _ _ _ H _ I h => wpAny_tests_nil ⟨H, I, h⟩
theorem pts_one {X : Cx} {c : Expr} {t : TT} (h : PT X c t) : PTs X [c] t := fun pins s σ H Q I hw => wpAny_tests_one (h pins s σ H Q I hw)
/-- how the comprehension's names stand at its start: caps says from which slot a name of the def's comes -/
def tau (caps : List (Option Nat)) (σ : St) : St := caps.map fun o => o.bind fun i => (σ[i]?).join
/-- [elt for tg in iter if ..] : D the new list -/
def tComp (caps : List (Option Nat)) (wi : TI) (g : TG) (tt : TT) (te : TE) : TE := fun σ H Q => wi σ H fun J H1 => ∀ D, H1 D = none → ∃ W : Nat → Nat → St → Hp → Prop, (∃ m, W 0 m (tau caps σ) (upd H1 D (.lst []))) ∧
  ∀ i m τ H2, W i m τ H2 → (J.stop i H2 ∧ Q (.ref D) H2) ∨ (J.go i H2 ∧ ∀ x H3, J.yld i H2 x H3 → g x τ H3 fun τ4 H4 => tt τ4 H4 fun b H5 =>
    if b = true then te τ4 H5 fun v H6 => ∃ xs, H6 D = some (.lst xs) ∧ xs.length < sizeLine ∧ ∃ m', m' < m ∧ W (i + 1) m' τ4 (upd H6 D (.lst (xs ++ [v]))) else ∃ m', m' < m ∧ W (i + 1) m' τ4 H5)
/-- what the names of a comprehension must be -/
structure CompOk (X : Cx) (scope : Scope) (cl : List (Str × Addr)) (N : List Str) (caps : List (Option Nat)) : Prop where
  clos : closureFor scope X.env = pure cl
  sub : ∀ x c, cl.lookup x = some c → X.env.cells.lookup x = some c
  kind : scope.kind = .function
  cell : ∀ y ∈ scope.names, y.2 ≠ .cell
  names : ∀ y ∈ scope.names, y.2 = .local → scope.names.lookup y.1 = some .local
  has : ∀ x, ((relabel scope X.env).names.lookup x = some .cell ∨ (relabel scope X.env).names.lookup x = some .free) → ∃ c, cl.lookup x = some c
  cap : ∀ (j i : Nat) (x : Str), caps[j]? = some (some i) → N[j]? = some x → X.N[i]? = some x ∧ Vis X.env.scope x ∧ ¬ X.env.kindOf x = some .local ∧ ∃ c, cl.lookup x = some c ∧ ((relabel scope X.env).names.lookup x = some .cell ∨ (relabel scope X.env).names.lookup x = some .free)
  len : caps.length = N.length
section
variable {X : Cx} {scope : Scope} {cl : List (Str × Addr)} {N : List Str} {caps : List (Option Nat)} {tg iter elt : Expr} {ifs : List Expr} {pos : Pos} {wi : TI} {g : TG} {tt : TT} {te : TE}
/-- the block's start -/
theorem comp_start {pins : List (Addr × Obj)} {σ : St} {H : Hp} {s : Shared} {fp : List Addr} {h₁ : Heap} {t' : Nat} (c : CompOk X scope cl N caps) (I : Inv X pins σ H s) (f : ∀ b ∈ fp, FpOk X pins H b) (fo : ∀ b ∈ fp, ∃ o, s.heap.get? b = some o)
    (hns : h₁.Ns s.heap.objs.size (fun _ => none)) (hk : ∀ b o, s.heap.get? b = some o → h₁.get? b = some o) :
    Inv (compCx X scope cl s.heap.objs.size s H fp N) [] (tau caps σ) H { s with heap := h₁, toks := t' } := by
  have lt : ∀ b ∈ fp, b < s.heap.objs.size := fun b hb => by obtain ⟨o, e⟩ := fo b hb; exact Heap.lt_size e
  have cells : ∀ x k, cl.lookup x = some k → ∃ v, s.heap.IsCell k v := fun x k e => I.cell x k (c.sub x k e)
  refine ⟨⟨I.ok.mod, c.kind, I.ok.glob, I.ok.blt, Nat.le_refl _, fun x y k h1 h2 => I.ok.inj x y k (c.sub x k h1) (c.sub y k h2), fun x hx => c.has x hx, fun x k h _ => absurd (show false = true from h) (by decide), I.ok.hd, I.ok.frames, .inl rfl,
    fun b hb => ⟨Nat.ne_of_lt (lt b hb), fun x k e => (f b hb).2.2.2.2.1 x k (c.sub x k e)⟩, I.bs, Nat.le_trans I.ok.bsz I.sz, fun b o e hb => ?_, fun b hb z => ?_, I.stack, I.stkFree⟩,
    rfl, I.bare, Un.kept hk, ⟨_, hns, fun j x v h1 h2 h3 => ?_⟩, fun x k e => ?_, I.hok.fresh (Nat.le_refl _), fun x k e => I.freeC x k (c.sub x k e), fun p hp => absurd (show p ∈ ([] : List (Addr × Obj)) from hp) (by simp), I.hok.kept hk, ?_⟩
  · rcases (f b hb).2.2.2.1 with q | q
    · exact I.ok.noex b o e q
    · exact absurd (Nat.lt_of_lt_of_le (Heap.lt_size e) (Nat.le_trans I.ok.bsz q)) (Nat.lt_irrefl _)
  · rcases List.mem_cons.mp (I.stkSub b z) with q | q
    · exact (f b hb).2.1 q
    · exact (f b hb).2.2.1 q
  · have h2' : (caps.map fun o => o.bind fun i => (σ[i]?).join)[j]? = some (some v) := h2
    rw [List.getElem?_map] at h2'
    cases e : caps[j]? with
    | none => rw [e] at h2'; cases h2'
    | some oi =>
      rw [e] at h2'
      have h2'' : (oi.bind fun i => (σ[i]?).join) = some v := Option.some.inj h2'
      cases oi with
      | none => cases h2''
      | some i =>
        have h4 : (σ[i]?).join = some v := h2''
        have h5 : σ[i]? = some (some v) := by
          cases q : σ[i]? with
          | none => rw [q] at h4; cases h4
          | some w' => rw [q] at h4; exact congrArg some h4
        obtain ⟨k1, k2, k3, cc, k4, k5⟩ := c.cap j i x e h1
        obtain ⟨m, hn, hl⟩ := I.loc
        obtain ⟨u, r, l⟩ := hl i x v k1 h5 k2
        refine ⟨u, r, .inr ⟨k5, cc, k4, ?_⟩⟩
        rcases l with ⟨q, _⟩ | ⟨_, c', hc', hcell⟩
        · exact (k3 q).elim
        · rw [c.sub x cc k4] at hc'
          cases hc'
          exact hcell.keeps hk
  · obtain ⟨v, q⟩ := cells x k e
    exact ⟨v, q.keeps hk⟩
  · show (caps.map _).length = N.length
    rw [List.length_map]
    exact c.len
/-- behind the block -/
theorem comp_back {pins : List (Addr × Obj)} {σ τ : St} {H H' : Hp} {s s' : Shared} {h' : Heap} {fp : List Addr} (I : Inv X pins σ H s) (f : ∀ b ∈ fp, FpOk X pins H b) (J : Inv (compCx X scope cl s.heap.objs.size s H fp N) [] τ H' s') (hs : Heap.SameBut s.heap.objs.size s'.heap h') :
    Inv X pins σ H' { s' with heap := h' } := by
  have hC : H' s.heap.objs.size = none := J.free
  have keep : ∀ b o, b ≠ s.heap.objs.size → s'.heap.get? b = some o → h'.get? b = some o := fun b o nb e => hs.extBut b o nb e
  have u1 : Un (frs X.stack) (s.heap.objs.size :: fp) H H' s.heap s'.heap := Un.mono J.base (fun b hb => hb) (fun b hb => List.mem_cons_of_mem _ hb)
  have u2 : Un (frs X.stack) (s.heap.objs.size :: fp) H' H' s'.heap h' :=
    ⟨fun b o e _ _ hx => keep b o (fun z => hx (by rw [z]; exact List.mem_cons_self)) e, fun b o e _ _ hx => ⟨o.slots, keep b o (fun z => hx (by rw [z]; exact List.mem_cons_self)) e⟩, fun _ _ _ n _ => n, fun b o e hx => ⟨o, keep b o (fun z => hx (by rw [z]; exact List.mem_cons_self)) e⟩, fun _ _ q => q, fun _ _ _ q => q, fun _ ps q => ⟨#[], by rw [q]; simp⟩⟩
  have hok : HOk X.prog X.w H' h' := fun a o e => (J.hok a o e).stay (fun b u hb q => keep b u (fun z => by
    rcases hb with hb | hb
    · rw [← hb, z, hC] at e; cases e
    · rw [z, hC] at hb; cases hb) q) (fun b q => q) fun b xs q => q
  refine I.call' (s' := { s' with heap := h' }) (ch := s.heap.objs.size :: fp) J.os (u1.trans u2) hok J.bare fun b hb => ?_
  rcases List.mem_cons.mp hb with rfl | hb
  · refine ⟨.inr I.sz, Nat.ne_of_gt I.lt, fun x k e z => ?_, fun p hp z => ?_⟩
    · obtain ⟨v, q⟩ := I.cell x k e
      exact absurd q.lt (by rw [z]; exact Nat.lt_irrefl _)
    · exact absurd (Heap.lt_size (I.pin p hp).1) (by rw [z]; exact Nat.lt_irrefl _)
  · obtain ⟨f0, f1, f2, f3, f4, f5⟩ := f b hb
    exact ⟨f3, f1, f4, f5⟩
/-- the block itself -/
theorem comp_block {pins : List (Addr × Obj)} {σ : St} {H2 : Hp} {s2 : Shared} {it : Addr} {fp : List Addr} {tn : Nat → Heap → Prop} {J : It} {RR : Value → Addr → Result → Shared → Prop} {E : Value → Shared → Prop} (hc : X.calm = true) (c : CompOk X scope cl N caps)
    (I2 : Inv X pins σ H2 s2) (T : Turn X.prog X.w X.K tg J fp it tn) (st2 : tn 0 s2.heap) (f2 : ∀ b ∈ fp, FpOk X pins H2 b)
    (hg : ∀ C s H fp, PG (compCx X scope cl C s H fp N) tg g) (ht : ∀ C s H fp, PTs (compCx X scope cl C s H fp N) ifs tt) (he : ∀ C s H fp, PE (compCx X scope cl C s H fp N) elt te)
    (Q : VK) (hq : ∀ D, H2 D = none → ∃ W : Nat → Nat → St → Hp → Prop, (∃ m, W 0 m (tau caps σ) (upd H2 D (.lst []))) ∧
      ∀ i m τ H2, W i m τ H2 → (J.stop i H2 ∧ Q (.ref D) H2) ∨ (J.go i H2 ∧ ∀ x H3, J.yld i H2 x H3 → g x τ H3 fun τ4 H4 => tt τ4 H4 fun b H5 =>
        if b = true then te τ4 H5 fun v H6 => ∃ xs, H6 D = some (.lst xs) ∧ xs.length < sizeLine ∧ ∃ m', m' < m ∧ W (i + 1) m' τ4 (upd H6 D (.lst (xs ++ [v]))) else ∃ m', m' < m ∧ W (i + 1) m' τ4 H5))
    (hRR : ∀ (D C : Addr) (H' : Hp) (s' : Shared) (m : Str → Option Value), s'.heap.Ns C m → FpOk X pins H' C → (∀ h', Heap.SameBut C s'.heap h' → Inv X pins σ H' { s' with heap := h' }) → Q (.ref D) H' → RR (.ref D) C (.ok .next) s') :
    wpAny (model X.prog X.w) X.A (newList []) (fun acc s₃ => wpAny (model X.prog X.w) X.A (newFunctionEnv scope X.env.globals cl [] X.env.qual none .none (some X.env)) (fun cenv s₄ =>
      codeAny (model X.prog X.w) X.A (.compStart (.ListComp elt [⟨tg, iter, ifs, 0⟩] scope pos) 0 (.ref it) acc { cenv with scope := relabel scope X.env }) (RR acc cenv.locals) s₄) E s₃) E s2 := by
  have hD : H2 s2.heap.objs.size = none := I2.hok.fresh (Nat.le_refl _)
  obtain ⟨W, ⟨m0, w0⟩, turn⟩ := hq s2.heap.objs.size hD
  have I3 : Inv X pins σ (upd H2 s2.heap.objs.size (.lst [])) { s2 with heap := s2.heap.push { cls := .type "list", data := .seq ([] : List Value).toArray } } := I2.laid (t' := s2.toks) (fun b u e => Heap.get?_push_of_some _ e) (Nat.le_refl _) ⟨Nat.zero_le _, [], 0, .nil, Heap.get?_push_size _ rfl⟩
  have fo : ∀ b ∈ fp, ∃ o, s2.heap.get? b = some o := fun b hb => by obtain ⟨o, e, _⟩ := T.obj 0 _ st2 b hb; exact ⟨o, e⟩
  have f3 : ∀ b ∈ fp, FpOk X pins (upd H2 s2.heap.objs.size (.lst [])) b := fun b hb => by
    obtain ⟨o, e⟩ := fo b hb
    refine ⟨?_, (f2 b hb).2⟩
    rw [upd_ne (Nat.ne_of_lt (Heap.lt_size e))]
    exact (f2 b hb).1
  refine wpAny_newObj_type (wpAny_newFunctionEnv c.cell (by intro y hy; simp at hy) (fun h₁ hns₁ hsb₁ => ?_) c.kind)
  have hk : ∀ b o, (s2.heap.push { cls := .type "list", data := .seq ([] : List Value).toArray }).get? b = some o → h₁.get? b = some o := fun b o e => hsb₁.extBut b o (Nat.ne_of_lt (Heap.lt_size e)) (Heap.get?_push_of_some _ e)
  have st4 : tn 0 h₁ := T.keep 0 _ _ st2 fun b _ o e => hk b o (Heap.get?_push_of_some _ e)
  have I4 := comp_start (t' := s2.toks + ([] : List (Str × Value)).length) c I3 f3 (fun b hb => by obtain ⟨o, e⟩ := fo b hb; exact ⟨o, Heap.get?_push_of_some _ e⟩) hns₁ hk
  have fpok : ∀ {H' : Hp}, (∀ b ∈ fp, H' b = none) → ∀ b ∈ fp, FpOk (compCx X scope cl (s2.heap.push { cls := .type "list", data := .seq ([] : List Value).toArray }).objs.size { s2 with heap := s2.heap.push { cls := .type "list", data := .seq ([] : List Value).toArray } } (upd H2 s2.heap.objs.size (.lst [])) fp N) [] H' b := fun hn b hb =>
    ⟨hn b hb, (I4.ok.exf b hb).1, I4.ok.exfs b hb, .inl hb, (I4.ok.exf b hb).2, fun p hp => absurd (show p ∈ ([] : List (Addr × Obj)) from hp) (by simp)⟩
  have loop : codeAny (model X.prog X.w) X.A (.compLoop (.ListComp elt [⟨tg, iter, ifs, 0⟩] scope pos) 0 (.ref it) (.ref s2.heap.objs.size) (compEnvC scope cl (s2.heap.push { cls := .type "list", data := .seq ([] : List Value).toArray }).objs.size X.env))
      (RR (.ref s2.heap.objs.size) (s2.heap.push { cls := .type "list", data := .seq ([] : List Value).toArray }).objs.size) { s2 with heap := h₁, toks := s2.toks + ([] : List (Str × Value)).length } := by
    refine compLoop_any (fun n s' => ∃ i τ H', Inv (compCx X scope cl (s2.heap.push { cls := .type "list", data := .seq ([] : List Value).toArray }).objs.size { s2 with heap := s2.heap.push { cls := .type "list", data := .seq ([] : List Value).toArray } } (upd H2 s2.heap.objs.size (.lst [])) fp N) [] τ H' s' ∧ tn i s'.heap ∧ (∀ b ∈ fp, H' b = none) ∧ W i n τ H') ?_ m0 ⟨0, _, _, I4, st4, fun b hb => (f3 b hb).1, w0⟩
    rintro n s5 ⟨i, τ, H5, I5, st5, fr5, w5⟩
    rcases turn i n τ H5 w5 with ⟨stop, qn⟩ | ⟨go, step⟩
    · refine thn (T.done (compCx X scope cl (s2.heap.push { cls := .type "list", data := .seq ([] : List Value).toArray }).objs.size { s2 with heap := s2.heap.push { cls := .type "list", data := .seq ([] : List Value).toArray } } (upd H2 s2.heap.objs.size (.lst [])) fp N) rfl rfl rfl hc i [] s5 τ H5 (fun _ _ => False) I5 (fpok fr5) st5 stop) fun r s6 ⟨hr, I6⟩ => ?_
      subst hr
      obtain ⟨m, hn, _⟩ := id I6.loc
      exact hRR _ _ H5 s6 m hn (I3.fpOk (Nat.le_refl _) I6.free) (fun h' hs => comp_back I3 f3 I6 hs) qn
    · refine thn (T.item (compCx X scope cl (s2.heap.push { cls := .type "list", data := .seq ([] : List Value).toArray }).objs.size { s2 with heap := s2.heap.push { cls := .type "list", data := .seq ([] : List Value).toArray } } (upd H2 s2.heap.objs.size (.lst [])) fp N) rfl rfl rfl hc i [] s5 τ H5 (fun _ _ => False) I5 (fpok fr5) st5 go) fun r s6 ⟨u, hr, h6⟩ => ?_
      subst hr
      refine thn h6 fun _ s7 ⟨x, H7, I7, r7, y7, st7, fr7⟩ => ?_
      have I7' := I7.pinned (fpok fr7) (T.obj _ _ st7)
      refine thn (hg _ _ _ _ _ s7 τ H7 x u _ I7' r7 (step x H7 y7)) fun _ s8 ⟨τ8, H8, I8, q8⟩ => ?_
      refine thn (ht _ _ _ _ _ s8 τ8 H8 _ I8 q8) fun ok s9 ⟨H9, I9, q9⟩ => ?_
      have again : ∀ {H' : Hp} {s' : Shared} {m : Nat}, Inv (compCx X scope cl (s2.heap.push { cls := .type "list", data := .seq ([] : List Value).toArray }).objs.size { s2 with heap := s2.heap.push { cls := .type "list", data := .seq ([] : List Value).toArray } } (upd H2 s2.heap.objs.size (.lst [])) fp N) ([] ++ pinsAt fp s7.heap) τ8 H' s' → (m < n ∧ W (i + 1) m τ8 H') →
          ∃ m, m < n ∧ ∃ i τ H', Inv (compCx X scope cl (s2.heap.push { cls := .type "list", data := .seq ([] : List Value).toArray }).objs.size { s2 with heap := s2.heap.push { cls := .type "list", data := .seq ([] : List Value).toArray } } (upd H2 s2.heap.objs.size (.lst [])) fp N) [] τ H' s' ∧ tn i s'.heap ∧ (∀ b ∈ fp, H' b = none) ∧ W i m τ H' := fun {H' s' m} I' q => by
        refine ⟨m, q.1, i + 1, τ8, H', I'.unpinned, T.keep _ _ _ st7 fun b hb o e => (I'.pin (b, o) (List.mem_append_right _ (List.mem_append_right _ (mem_pinsAt hb e)))).1, fun b hb => ?_, q.2⟩
        obtain ⟨o, e, d⟩ := T.obj _ _ st7 b hb
        exact (I'.pin (b, o) (List.mem_append_right _ (List.mem_append_right _ (mem_pinsAt hb e)))).2.1
      cases ok with
      | false =>
        rw [if_neg Bool.false_ne_true] at q9 ⊢
        obtain ⟨m', hm, w9⟩ := q9
        exact again I9 ⟨hm, w9⟩
      | true =>
        rw [if_pos rfl] at q9 ⊢
        refine thn (he _ _ _ _ _ s9 τ8 H9 _ I9 q9) fun v s10 ⟨z, H10, I10, r10, xs, hx, hz, m', hm, w10⟩ => ?_
        refine thn (mt_append _ s10 τ8 H10 (.ref s2.heap.objs.size) [z] (.ref s2.heap.objs.size) [v] (fun _ H11 => W (i + 1) m' τ8 H11) I10 rfl (.cons r10 .nil) ⟨_, xs, z, rfl, rfl, hx, hz, w10⟩) fun _ s11 ⟨_, H11, I11, _, w11⟩ => ?_
        exact again I11 ⟨hm, w11⟩
  exact codeAny_compStart_list loop (T.self _ 0 _ _ _ st4 loop)
theorem pe_comp (hx : ∀ e s, X.xe e s → False) (hc : X.calm = true) (c : CompOk X scope cl N caps) (hi : PI X tg iter wi) (hg : ∀ C s H fp, PG (compCx X scope cl C s H fp N) tg g) (ht : ∀ C s H fp, PTs (compCx X scope cl C s H fp N) ifs tt) (he : ∀ C s H fp, PE (compCx X scope cl C s H fp N) elt te)
    (hs : ∀ x, foldedSetIterable iter X.env x = pure x := by intro _; rfl) : PE X (.ListComp elt [⟨tg, iter, ifs, 0⟩] scope pos) (tComp caps wi g tt te) := by
  intro pins s σ H Q I h
  rw [eval_ListComp]
  refine wpAny_comprehension_free (use := none) rfl hs c.clos c.kind c.names (thn (hi pins s σ H _ I h) fun v s1 h1 => thn h1 fun itv s2 h2 => ?_)
  obtain ⟨it, fp, tn, J, H2, e, I2, T, st2, f2, q2⟩ := h2
  subst e
  exact comp_block (RR := fun acc C => compPost (model X.prog X.w) X.A X.xe none (EP X pins σ Q) acc C) hc c I2 T st2 f2 hg ht he Q q2 fun D C H' s' m hn _ hb q => ⟨m, hn, fun h' hs => ⟨.ref D, H', hb h' hs, rfl, q⟩⟩
/-- y = [elt for ..], the name stored ahead of the block's own names -/
theorem ps_setC {i : Nat} {y : Str} {py spos : Pos} (hx : ∀ e s, X.xe e s → False) (hc : X.calm = true) (c : CompOk X scope cl N caps) (hN : X.N.Nodup) (hyi : X.N[i]? = some y) (hl : X.env.scope.names.lookup y = some .local) (hi : PI X tg iter wi) (hg : ∀ C s H fp, PG (compCx X scope cl C s H fp N) tg g)
    (ht : ∀ C s H fp, PTs (compCx X scope cl C s H fp N) ifs tt) (he : ∀ C s H fp, PE (compCx X scope cl C s H fp N) elt te)
    (hsw : swapsWith (.ListComp elt [⟨tg, iter, ifs, 0⟩] scope pos) (some (.Name y py)) spos.line X.env = pure true := by rfl)
    (hs : ∀ x, foldedSetIterable iter X.env x = pure x := by intro _; rfl) : PS X (.Assign [.Name y py] (.ListComp elt [⟨tg, iter, ifs, 0⟩] scope pos) spos) (tAsg (tComp caps wi g tt te) (gName i)) := by
  intro pins s σ H D I h
  rw [exec_Assign_Name_used _ _ _ _ hsw]
  refine wpAny_bind (wpAny_standAt (wpAny_bind ?_))
  show wpAny _ X.A (do let _ ← comprehension (.ListComp elt [⟨tg, iter, ifs, 0⟩] scope pos) scope X.env _ (newList []) false (eval iter X.env) (some (assign (.Name y py) X.env))) _ _ s
  refine wpAny_bind (wpAny_mono (wpAny_comprehension_free (use := some (assign (.Name y py) X.env)) (Q := fun _ s' => SP X pins D .next s') rfl hs c.clos c.kind c.names (thn (hi pins s σ H _ I h) fun v s1 h1 => thn h1 fun itv s2 h2 => ?_)) (fun _ s' hq => wpAny_pure (wpAny_pure hq)) fun _ _ e => e)
  obtain ⟨it, fp, tn, J, H2, e, I2, T, st2, f2, q2⟩ := h2
  subst e
  refine comp_block (RR := fun acc C => compPost (model X.prog X.w) X.A X.xe (some (assign (.Name y py) X.env)) (fun _ s' => SP X pins D .next s') acc C) hc c I2 T st2 f2 hg ht he (fun v H' => D.nx (σ.set i (some v)) H') q2 fun Da C H' s' m hn f hb q => ?_
  obtain ⟨o, es, ep, ho, hd, r⟩ := hn
  have I' : Inv X pins σ H' s' := hb s'.heap (Heap.SameBut.refl _ _)
  have I'' : Inv X (pins ++ [(C, o)]) σ H' s' := I'.pins_of fun p hp => (List.mem_append.mp hp).elim (fun z => I'.pin p (List.mem_append_right _ z)) fun z => by
    cases List.mem_singleton.mp z
    exact ⟨ho, f.1, f.2.1, f.2.2.1, fun v e => by rw [hd] at e; cases e⟩
  refine wpAny_assign_Name (store_ok I'' hN hyi (.inl hl) (show RelV (V.ref Da) (Value.ref Da) from rfl) (fun s2 J2 => ?_) (.inr hl))
  refine ⟨m, ⟨o, es, ep, (J2.pin (C, o) (List.mem_append_right _ (List.mem_append_right _ (List.mem_singleton.mpr rfl)))).1, hd, r⟩, fun h' hs => ?_⟩
  exact ⟨_, H', J2.unpinned.turned (t' := s2.toks) (fun b ob nb e => hs.extBut b ob nb e) f.1 f.2.1 f.2.2.2.1 f.2.2.2.2.1 f.2.2.2.2.2, q⟩
end

/-! ### the names of a comprehension, as they stand in a def's text -/
def clOf (env : Env) : List (Str × NameKind) → List (Str × Addr) → List (Str × Addr)
  | [], acc => acc
  | (n, k) :: r, acc => clOf env r (if k == .free then (n, (env.cells.lookup n).getD 0) :: acc else acc)
theorem clOf_mem {env : Env} {x : Str} {c : Addr} : ∀ {names : List (Str × NameKind)} {acc : List (Str × Addr)}, (x, c) ∈ clOf env names acc → (x, c) ∈ acc ∨ ((x, NameKind.free) ∈ names ∧ c = (env.cells.lookup x).getD 0)
  | [], _, h => .inl h
  | (n, k) :: r, acc, h => by
    rcases clOf_mem (names := r) h with h | ⟨h, e⟩
    · by_cases hk : k == .free
      · rw [if_pos hk] at h
        rcases List.mem_cons.mp h with h | h
        · cases h
          have : k = .free := by simpa using hk
          subst this
          exact .inr ⟨List.mem_cons_self, rfl⟩
        · exact .inl h
      · rw [if_neg hk] at h
        exact .inl h
    · exact .inr ⟨List.mem_cons_of_mem _ h, e⟩
theorem clOf_acc {env : Env} {p : Str × Addr} : ∀ {names : List (Str × NameKind)} {acc : List (Str × Addr)}, p ∈ acc → p ∈ clOf env names acc
  | [], _, h => h
  | (n, k) :: r, acc, h => clOf_acc (names := r) (by split <;> first | exact List.mem_cons_of_mem _ h | exact h)
theorem clOf_has {env : Env} {x : Str} : ∀ {names : List (Str × NameKind)} {acc : List (Str × Addr)}, (x, NameKind.free) ∈ names → ∃ c, (x, c) ∈ clOf env names acc
  | (n, k) :: r, acc, h => by
    rcases List.mem_cons.mp h with h | h
    · cases h
      exact ⟨_, clOf_acc (names := r) (by rw [if_pos (by decide)]; exact List.mem_cons_self)⟩
    · exact clOf_has (names := r) h
theorem lookup_of_mem {β : Type} {x : Str} {c : β} : ∀ {l : List (Str × β)}, (x, c) ∈ l → ∃ c', l.lookup x = some c'
  | (n, v) :: r, h => by
    cases e : x == n with
    | true => exact ⟨v, by rw [List.lookup_cons, e]⟩
    | false =>
      rcases List.mem_cons.mp h with h | h
      · cases h
        simp at e
      · obtain ⟨c', q⟩ := lookup_of_mem (l := r) h
        exact ⟨c', by rw [List.lookup_cons, e]; exact q⟩
theorem closureFor_is {env : Env} {scope : Scope} (h : ∀ y ∈ scope.names, y.2 = .free → (env.cells.lookup y.1).isSome = true) : closureFor scope env = pure (clOf env scope.names []) := by
  have go : ∀ (names : List (Str × NameKind)) (acc : List (Str × Addr)), (∀ y ∈ names, y.2 = .free → (env.cells.lookup y.1).isSome = true) →
      (forIn names acc (fun (x : Str × NameKind) (cs : List (Str × Addr)) => (if x.2 == .free then (do let c ← cellOf env x.1; pure (ForInStep.yield ((x.1, c) :: cs))) else pure (ForInStep.yield cs) : Sem (ForInStep (List (Str × Addr)))))) = (pure (clOf env names acc) : Sem (List (Str × Addr))) := by
    intro names
    induction names with
    | nil => intro acc _; rfl
    | cons y r ih =>
      intro acc hy
      obtain ⟨n, k⟩ := y
      rw [List.forIn_cons]
      by_cases hk : k == .free
      · have hs := hy (n, k) List.mem_cons_self (by simpa using hk)
        obtain ⟨c, hc⟩ := Option.isSome_iff_exists.mp hs
        have hc' : env.cells.lookup n = some c := hc
        simp only [hk, if_true, cellOf, hc', pure_bind, clOf, Option.getD_some]
        exact ih _ fun y hy' => hy y (List.mem_cons_of_mem _ hy')
      · simp only [hk, Bool.false_eq_true, if_false, pure_bind, clOf]
        exact ih _ fun y hy' => hy y (List.mem_cons_of_mem _ hy')
  have g := go scope.names [] h
  exact (bind_pure _).trans g
/-- the facts of the text that a comprehension's names must have: dsc the def's names, sc the comprehension's -/
def capsOk (DN : List Str) (dsc sc : List (Str × NameKind)) (N : List Str) (caps : List (Option Nat)) : Bool :=
  (caps.length == N.length) && sc.all (fun y => y.2 != .cell && (y.2 != .free || dsc.lookup y.1 == some .cell) && (y.2 != .local || sc.lookup y.1 == some .local)) &&
  (caps.zip N).all fun p => match p.1 with | none => true | some i => DN[i]? == some p.2 && dsc.lookup p.2 == some .cell && sc.lookup p.2 == some .free
theorem lookup_relab {dsc : List (Str × NameKind)} {env : Env} {x : Str} {k : NameKind} : ∀ {names : List (Str × NameKind)}, (names.map fun (n, k) => if (k == .free && env.scope.kind == .function && env.kindOf n == some .cell) then (n, .cell) else (n, k)).lookup x = some k →
    ∃ k', names.lookup x = some k' ∧ (k' = k ∨ (k' = .free ∧ k = .cell))
  | [], h => by simp at h
  | (n, k0) :: r, h => by
    cases e : x == n with
    | true =>
      refine ⟨k0, by rw [List.lookup_cons, e], ?_⟩
      rw [List.map_cons] at h
      dsimp only at h
      split at h
      · rename_i hc
        rw [List.lookup_cons, e] at h
        have : k0 = .free := by simp at hc; exact hc.1.1
        cases h
        exact .inr ⟨this, rfl⟩
      · rw [List.lookup_cons, e] at h
        cases h
        exact .inl rfl
    | false =>
      rw [List.map_cons] at h
      dsimp only at h
      have h' : (r.map fun (n, k) => if (k == NameKind.free && env.scope.kind == .function && env.kindOf n == some .cell) then (n, NameKind.cell) else (n, k)).lookup x = some k := by
        split at h <;> (rw [List.lookup_cons, e] at h; exact h)
      obtain ⟨k', q, z⟩ := lookup_relab (dsc := dsc) h'
      exact ⟨k', by rw [List.lookup_cons, e]; exact q, z⟩
theorem relab_free {env : Env} {x : Str} (h1 : env.scope.kind = .function) (h2 : env.kindOf x = some .cell) : ∀ {names : List (Str × NameKind)}, names.lookup x = some .free →
    (names.map fun (n, k) => if (k == .free && env.scope.kind == .function && env.kindOf n == some .cell) then (n, .cell) else (n, k)).lookup x = some .cell
  | [], h => by simp at h
  | (n, k0) :: r, h => by
    rw [List.map_cons]
    cases e : x == n with
    | true =>
      rw [List.lookup_cons, e] at h
      cases h
      have en : x = n := by simpa using e
      subst en
      dsimp only
      rw [if_pos (by rw [h1, h2]; decide), List.lookup_cons, e]
    | false =>
      rw [List.lookup_cons, e] at h
      have ih := relab_free h1 h2 (names := r) h
      dsimp only
      split <;> (rw [List.lookup_cons, e]; exact ih)
theorem compOk_of {X : Cx} {dsc : Scope} {L : Nat} {scope : Scope} {N : List Str} {caps : List (Option Nat)} (hd : X.env.scope = dsc) (hc : X.env.cells = cellsFrom L dsc.names []) (hdk : dsc.kind = .function) (hk : scope.kind = .function) (h : capsOk X.N dsc.names scope.names N caps = true) :
    CompOk X scope (clOf X.env scope.names []) N caps := by
  subst hd
  simp only [capsOk, Bool.and_eq_true, List.all_eq_true, beq_iff_eq] at h
  obtain ⟨⟨hl, hs⟩, hz⟩ := h
  have hfree : ∀ y ∈ scope.names, y.2 = .free → X.env.scope.names.lookup y.1 = some .cell := fun y hy e => by
    have q := (hs y hy).1.2
    rw [e] at q
    simpa using q
  have hcell : ∀ y ∈ scope.names, y.2 ≠ .cell := fun y hy e => by
    have q := (hs y hy).1.1
    rw [e] at q
    simp at q
  have hsome : ∀ x, X.env.scope.names.lookup x = some .cell → (X.env.cells.lookup x).isSome = true := fun x e => by
    rw [hc]
    exact PySem.W.cellsFrom_some _ _ _ (.inl e)
  have sub : ∀ x c, (clOf X.env scope.names []).lookup x = some c → X.env.cells.lookup x = some c := fun x c e => by
    rcases clOf_mem (PySem.mem_of_lookup e) with q | ⟨q, ec⟩
    · cases q
    · obtain ⟨c', hc'⟩ := Option.isSome_iff_exists.mp (hsome x (hfree _ q rfl))
      rw [ec, hc']
      rfl
  refine ⟨closureFor_is fun y hy e => hsome y.1 (hfree y hy e), sub, hk, hcell, fun y hy e => ?_, fun x hx => ?_, fun j i x h1 h2 => ?_, hl⟩
  · have q := (hs y hy).2
    rw [e] at q
    simpa using q
  · have fin : (x, NameKind.free) ∈ scope.names → ∃ c, (clOf X.env scope.names []).lookup x = some c := fun m => by
      obtain ⟨c, hm⟩ := clOf_has (env := X.env) (acc := []) m
      exact lookup_of_mem hm
    rcases hx with hx | hx
    · obtain ⟨k', q, z⟩ := lookup_relab (dsc := []) hx
      rcases z with rfl | ⟨rfl, _⟩
      · exact absurd rfl (hcell _ (PySem.mem_of_lookup q))
      · exact fin (PySem.mem_of_lookup q)
    · obtain ⟨k', q, z⟩ := lookup_relab (dsc := []) hx
      rcases z with rfl | ⟨_, z⟩
      · exact fin (PySem.mem_of_lookup q)
      · cases z
  · have hm : (some i, x) ∈ caps.zip N := by
      have : (caps.zip N)[j]? = some (some i, x) := by rw [List.getElem?_zip_eq_some]; exact ⟨h1, h2⟩
      exact List.mem_of_getElem? this
    have q := hz _ hm
    simp only [Bool.and_eq_true, beq_iff_eq] at q
    obtain ⟨⟨q1, q2⟩, q3⟩ := q
    obtain ⟨c, hmc⟩ := clOf_has (env := X.env) (acc := []) (PySem.mem_of_lookup q3)
    obtain ⟨c', hc'⟩ := lookup_of_mem hmc
    refine ⟨q1, .inr (.inl q2), fun z => ?_, c', hc', .inl (relab_free hdk q2 q3)⟩
    have z' : X.env.scope.names.lookup x = some .local := z
    rw [q2] at z'
    cases z'
end L2

set_option Elab.async false
set_option linter.all false
set_option maxRecDepth 100000
set_option maxHeartbeats 1000000
/-! MY EXTENSION, fifth part: texts (times, slices, join), comprehensions that give data. -/
namespace L2
open PySem PySem.Spec PyProof.Rows
section
variable {X : Cx}
def rMulS : R2 := fun x y H Q => ∃ z n, x = .str z ∧ y = .int n ∧ z.length ≤ 1000 ∧ n ≤ 1000 ∧ -1000 ≤ n ∧ Q (.str (PySem.Txt.mul z n)) H
theorem mulOkS {z : Str} {n : Int} (h1 : z.length ≤ 1000) (h2 : n ≤ 1000) (h3 : -1000 ≤ n) : PySem.MulOk z n := by
  refine ⟨by simp; omega, fun a _ b => ?_, fun a _ => ?_⟩
  · have e : (1000 : Int) ≤ (2 ^ 63 - 1) / n := by
      rw [Int.le_ediv_iff_mul_le (by omega)]
      have := Int.mul_le_mul_of_nonneg_left h2 (show (0 : Int) ≤ 1000 by decide)
      omega
    omega
  · have e : z.length * n.toNat ≤ 1000 * 1000 := Nat.mul_le_mul h1 (by omega)
    unfold Builtin.Str.tooLong
    simp only [decide_eq_false_iff_not, Nat.not_lt]
    exact Nat.le_trans e (by decide)
theorem op_mulS : OpR X (binaryOp .Mult) rMulS := by
  intro pins s σ H x y v u Q I rx ry h
  obtain ⟨z, n, rfl, rfl, h1, h2, h3, q⟩ := h
  obtain ⟨t, rfl⟩ := rx
  obtain ⟨t', rfl⟩ := ry
  exact PySem.SB.mul (mulOkS h1 h2 h3) fun _ k => ⟨.str _, H, I.tok _, ⟨_, rfl⟩, q⟩
def rSlS : V → Option Int → Option Int → Hp → VK → Prop := fun x lo hi H Q => ∃ z, x = .str z ∧ z.length ≤ sizeLine ∧ Q (.str (PySem.Txt.slice z lo hi)) H
theorem sl_str : SlR X rSlS := by
  intro pins s σ H x v vl vu lo hi sl Q I rx hs pl pu h
  obtain ⟨z, rfl, hz, q⟩ := h
  obtain ⟨t, rfl⟩ := rx
  refine ⟨"str", _, F.slot_str_getitem.lookup, typeIs_str _ _ _, ?_⟩
  have fin : ∀ (a b : Option (Int × Tok)), a.map (·.1) = lo → b.map (·.1) = hi → s.heap.IsSlice sl a b none → wpAny (model X.prog X.w) X.A (getItem (.str z t) (.ref sl)) (EP X pins σ Q) X.xe s := fun a b e1 e2 hsl => by
    subst e1 e2
    exact wpAny_getItem_str_slice (l := a) (u := b) (st := none) hsl rfl (post_val_or_str ⟨Nat.le_trans (PySem.Txt.slice_le z _ _) hz, fun _ k => ⟨.str _, H, I.tok _, ⟨_, rfl⟩, q⟩⟩)
  cases pl with
  | none =>
    cases pu with
    | none => exact fin none none rfl rfl hs
    | int j tj => exact fin none (some (j, tj)) rfl rfl hs
  | int i ti =>
    cases pu with
    | none => exact fin (some (i, ti)) none rfl rfl hs
    | int j tj => exact fin (some (i, ti)) (some (j, tj)) rfl rfl hs
theorem strsAre_of : ∀ {zs : List Str} {us : List Value}, Vals (zs.map V.str) us → StrsAre us zs
  | [], _, .nil => .nil
  | z :: zs, _, .cons r t => by
    obtain ⟨tk, rfl⟩ := r
    exact .cons z tk (strsAre_of t)
def rJoin (K : PySem.W.Frag) : V → List V → Hp → VK → Prop := fun x vs H Q => ∃ z a zs, x = .str z ∧ vs = [.ref a] ∧ SqL K H a (zs.map V.str) ∧ z.length ≤ 16 ∧ zs.length ≤ 1000 ∧ (∀ y ∈ zs, y.length ≤ 1000) ∧ Q (.str (PySem.Txt.join z zs)) H
theorem sum_le_of {zs : List Str} (h : ∀ y ∈ zs, y.length ≤ 1000) : (zs.map (·.length)).sum ≤ zs.length * 1000 := by
  induction zs with
  | nil => simp
  | cons z zs ih =>
    have h1 := h z List.mem_cons_self
    have h2 := ih fun y hy => h y (List.mem_cons_of_mem _ hy)
    simp only [List.map_cons, List.sum_cons, List.length_cons, Nat.add_mul, Nat.one_mul]
    omega
theorem mt_join : MtR X "str.join" (rJoin X.K) := by
  intro pins s σ H x vs v us Q I rx rv h
  obtain ⟨z, a, zs, rfl, rfl, hq, hz, hn, hl, q⟩ := h
  obtain ⟨t, rfl⟩ := rx
  obtain ⟨u, rfl, r1⟩ := rv.one
  cases r1
  obtain ⟨its, r, pl, hsz⟩ := I.list hq
  have hs := sum_le_of hl
  refine join_listW pl.isList (by simpa using strsAre_of r) hz (by omega) fun _ k => ⟨.str _, H, I.tok _, ⟨_, rfl⟩, q⟩
end

/-! ### what a loop or a comprehension goes through, as data -/
/-- J goes through ds: o are the addresses that are hidden -/
structure Walk (o : List Addr) (H1 : Hp) (J : It) (ds : List PyData) : Prop where
  stop : ∀ (i : Nat) (H2 : Hp), Same H1 H2 → ds.length ≤ i → J.stop i H2
  go : ∀ (i : Nat) (d : PyData) (H2 : Hp), Same H1 H2 → ds[i]? = some d → J.go i H2
  yld : ∀ (i : Nat) (d : PyData) (H2 : Hp) (x : V) (H3 : Hp), Same H1 H2 → ds[i]? = some d → J.yld i H2 x H3 → Same H2 H3 ∧ ∀ o', Tr o' H2 → Same (vw o H1) (vw o' H2) → Has (vw o' H3) d x
def Src (o : List Addr) (σ : St) (H0 : Hp) (wi : TI) (ds : List PyData) : Prop := ∀ (H : Hp) (R : It → Hp → Prop), Same H0 H → (∀ J H1, Same H H1 → Walk o H1 J ds → R J H1) → wi σ H R
section
variable {K : PySem.W.Frag} {o : List Addr} {σ : St} {H0 : Hp} {t : TE} {ta : TA} {ds : List PyData}
theorem src_list (g : Gv o σ H0 t (.list ds)) : Src o σ H0 (iList K t) ds := fun H R s q => by
  refine g H _ s fun v H1 s1 e1 => ?_
  obtain ⟨a, vs, rfl, ea, l⟩ := has_list.mp e1
  have ea' := vw_same _ _ ea
  have hl := l.length
  refine ⟨a, rfl, ⟨vs, .of ea'⟩, q _ H1 s1 ⟨fun i H2 s2 hi => ⟨vs, .of (s2 _ _ ea'), by omega⟩, fun i d H2 s2 hi => ?_, fun i d H2 x H3 s2 hi y => ?_⟩⟩
  · obtain ⟨v, ev, _⟩ := l.get hi
    exact ⟨vs, v, .of (s2 _ _ ea'), ev⟩
  · obtain ⟨v, ev, hv⟩ := l.get hi
    have e3 : H3 = H2 := y.1
    subst e3
    have ex := y.2 vs (.of (s2 _ _ ea'))
    rw [ev] at ex
    cases ex
    exact ⟨Same.refl _, fun o' _ so => hv.mono so⟩
theorem src_tup (g : Gv o σ H0 t (.tuple ds)) : Src o σ H0 (iTup K t) ds := fun H R s q => by
  refine g H _ s fun v H1 s1 e1 => ?_
  obtain ⟨a, vs, rfl, ea, l⟩ := has_tuple.mp e1
  have ea' := vw_same _ _ ea
  have hl := l.length
  refine ⟨a, rfl, ⟨vs, .of ea'⟩, q _ H1 s1 ⟨fun i H2 s2 hi => ⟨vs, .of (s2 _ _ ea'), by omega⟩, fun i d H2 s2 hi => ?_, fun i d H2 x H3 s2 hi y => ?_⟩⟩
  · obtain ⟨v, ev, _⟩ := l.get hi
    exact ⟨vs, v, .of (s2 _ _ ea'), ev⟩
  · obtain ⟨v, ev, hv⟩ := l.get hi
    have e3 : H3 = H2 := y.1
    subst e3
    have ex := y.2 vs (.of (s2 _ _ ea'))
    rw [ev] at ex
    cases ex
    exact ⟨Same.refl _, fun o' _ so => hv.mono so⟩
/-- lo, lo + 1, .. : n of them -/
def intsD (lo : Int) (n : Nat) : List PyData := (List.range n).map fun k : Nat => .int (lo + k)
theorem intsD_length {lo : Int} {n : Nat} : (intsD lo n).length = n := by simp [intsD]
theorem intsD_get {lo : Int} {n i : Nat} {d : PyData} (h : (intsD lo n)[i]? = some d) : i < n ∧ d = .int (lo + i) := by
  have hi : i < n := by
    have := List.getElem?_eq_some_iff.mp h
    obtain ⟨hl, _⟩ := this
    rwa [intsD_length] at hl
  refine ⟨hi, ?_⟩
  simp only [intsD, List.getElem?_map, List.getElem?_range hi, Option.map_some, Option.some.injEq] at h
  exact h.symm
theorem walk_range {lo : Int} {n : Nat} {H1 : Hp} : Walk o H1 (Itr lo n) (intsD lo n) where
  stop := fun i H2 _ hi => by rw [intsD_length] at hi; exact hi
  go := fun i d H2 _ hi => (intsD_get hi).1
  yld := fun i d H2 x H3 _ hi y => by
    obtain ⟨e, ex⟩ := y
    subst e ex
    rw [(intsD_get hi).2]
    exact ⟨Same.refl _, fun o' _ _ => has_int.mpr rfl⟩
theorem src_rng1 {j : Int} (g : GvA o σ H0 ta [.int j]) (h1 : -(2 ^ 62) ≤ j) (h2 : j < 2 ^ 62) : Src o σ H0 (iRng1 ta) (intsD 0 j.toNat) := fun H R s q => by
  refine g H _ s fun vs H1 s1 e1 => ?_
  obtain ⟨v, r, rfl, hv, hr⟩ := hasL_cons.mp e1
  cases hasL_nil.mp hr
  cases has_int.mp hv
  exact ⟨j, rfl, h1, h2, q _ H1 s1 walk_range⟩
theorem src_rng2 {i j : Int} (g : GvA o σ H0 ta [.int i, .int j]) (h1 : -(2 ^ 62) ≤ i) (h2 : i < 2 ^ 62) (h3 : -(2 ^ 62) ≤ j) (h4 : j < 2 ^ 62) : Src o σ H0 (iRng2 ta) (intsD i (j - i).toNat) := fun H R s q => by
  refine g H _ s fun vs H1 s1 e1 => ?_
  obtain ⟨v, r, rfl, hv, hr⟩ := hasL_cons.mp e1
  obtain ⟨v', r', rfl, hv', hr'⟩ := hasL_cons.mp hr
  cases hasL_nil.mp hr'
  cases has_int.mp hv
  cases has_int.mp hv'
  exact ⟨i, j, rfl, ⟨h1, h2, h3, h4⟩, q _ H1 s1 walk_range⟩
end
section
variable {K : PySem.W.Frag} {o : List Addr} {σ : St} {H0 : Hp} {wi : TI} {g : TG} {tt : TT} {te : TE} {caps : List (Option Nat)} {ds : List PyData}
theorem vw_hid_upd {D : Addr} {H : Hp} {u : HO} : ∀ {o : List Addr}, hid D (vw o (upd H D u)) = hid D (vw o H)
  | [] => hid_upd
  | a :: r => by
    have ih := vw_hid_upd (D := D) (H := H) (u := u) (o := r)
    funext b
    have ihb := congrFun ih b
    by_cases hb : b = D
    · rw [hb, hid_self, hid_self]
    · rw [hid_at hb, hid_at hb] at ihb ⊢
      show hid a (vw r (upd H D u)) b = hid a (vw r H) b
      by_cases ha : b = a
      · rw [ha, hid_self, hid_self]
      · rw [hid_at ha, hid_at ha, ihb]
theorem not_mem_of {D : Addr} {H H2 : Hp} {u : HO} {o : List Addr} (t : Tr o H) (h : H D = none) (e : H2 D = some u) : vw o H2 D = some u := by
  have q := vw_upd (H2 := H2) (u := u) t h
  have : upd H2 D u = H2 := by
    funext b
    by_cases hb : b = D
    · rw [hb, upd_same, e]
    · exact upd_ne hb
  rwa [this] at q
theorem gv_compF {f : PyData → PyData} {p : PyData → Bool} (src : Src o σ H0 wi ds) (T : Tr o H0) (hl : ds.length ≤ 1000) (P : St → Prop) (h0 : P (tau caps σ))
    (el : ∀ dx x (τ : St) (D : Addr) (H : Hp), dx ∈ ds → P τ → Same H0 H → (∃ xs, H D = some (.lst xs)) → Same (vw o H0) (vw (D :: o) H) → Has (vw (D :: o) H) dx x → ∀ (R : St → VK) (R0 : St → Hp → Prop),
      (∀ τ' v H', p dx = true → P τ' → Same H H' → Has (vw (D :: o) H') (f dx) v → R τ' v H') → (∀ τ' H', p dx = false → P τ' → Same H H' → R0 τ' H') →
      g x τ H fun τ4 H4 => tt τ4 H4 fun b H5 => if b = true then te τ4 H5 (R τ4) else R0 τ4 H5) :
    Gv o σ H0 (tComp caps wi g tt te) (.list ((ds.filter p).map f)) := fun H Q s q => by
  refine src H _ s fun J H1 s1 wk D hD => ?_
  have T1 : Tr o H1 := T.same (s.trans s1)
  refine ⟨fun i m τ H2 => m = ds.length - i ∧ i ≤ ds.length ∧ P τ ∧ Same H1 H2 ∧ ∃ acc, H2 D = some (.lst acc) ∧ acc.length ≤ i ∧ HasL (vw (D :: o) H2) (((ds.take i).filter p).map f) acc,
    ⟨ds.length, rfl, Nat.zero_le _, h0, Same.laid hD, [], upd_same, Nat.le_refl _, hasL_nil.mpr rfl⟩, ?_⟩
  rintro i m τ H2 ⟨rfl, hi, hP, s2, acc, ea, la, ha⟩
  by_cases hlt : i < ds.length
  · obtain ⟨d, ed⟩ : ∃ d, ds[i]? = some d := ⟨ds[i], List.getElem?_eq_getElem hlt⟩
    refine .inr ⟨wk.go i d H2 s2 ed, fun x H3 y => ?_⟩
    obtain ⟨s3, hx⟩ := wk.yld i d H2 x H3 s2 ed y
    have sv : Same (vw o H1) (vw (D :: o) H2) := s2.vw_new hD
    have T2 : Tr (D :: o) H2 := ⟨⟨_, ea⟩, T1.same s2⟩
    have hx' := hx (D :: o) T2 sv
    have fin : ∀ (τ' : St) (H' : Hp), Same H3 H' → Same H1 H' := fun _ H' s' => (s2.trans s3).trans s'
    have et : (ds.take (i + 1)).filter p = (ds.take i).filter p ++ (if p d = true then [d] else []) := by
      rw [List.take_add_one, ed, List.filter_append]
      by_cases hp : p d = true <;> simp [hp]
    have sH : Same (vw o H0) (vw (D :: o) H3) := ((s.trans s1).vw.trans sv).trans s3.vw
    refine el d x τ D H3 (List.mem_of_getElem? ed) hP (((s.trans s1).trans s2).trans s3) ⟨acc, s3 _ _ ea⟩ sH hx' (fun τ' v H' => _) (fun τ' H' => _) ?_ ?_
    · intro τ' v H' hp hP' s' hv
      have e' : H' D = some (.lst acc) := s' _ _ (s3 _ _ ea)
      refine ⟨acc, e', Nat.lt_of_le_of_lt (Nat.le_trans la hi) (small1000 hl), ds.length - (i + 1), by omega, rfl, hlt, hP', fun b u eb => ?_, acc ++ [v], upd_same, by simp; omega, ?_⟩
      · have hb : b ≠ D := ne_of_none eb hD
        rw [upd_ne hb]
        exact fin τ' H' s' b u eb
      · rw [et, if_pos hp, List.map_append]
        show HasL (hid D (vw o (upd H' D _))) _ _
        rw [vw_hid_upd]
        exact (ha.mono (s3.trans s').vw).append (hasL_cons.mpr ⟨v, [], rfl, hv, hasL_nil.mpr rfl⟩)
    · intro τ' H' hp hP' s'
      have e' : H' D = some (.lst acc) := s' _ _ (s3 _ _ ea)
      refine ⟨ds.length - (i + 1), by omega, rfl, hlt, hP', fin τ' H' s', acc, e', by omega, ?_⟩
      rw [et, if_neg (by rw [hp]; exact Bool.false_ne_true), List.append_nil]
      exact ha.mono (s3.trans s').vw
  · have e : i = ds.length := by omega
    subst e
    refine .inl ⟨wk.stop _ H2 s2 (Nat.le_refl _), q _ H2 (s1.trans s2) (has_list.mpr ⟨D, acc, rfl, not_mem_of T1 hD ea, ?_⟩)⟩
    rw [List.take_length] at ha
    exact ha.mono hid_same
theorem gv_comp {f : PyData → PyData} (src : Src o σ H0 wi ds) (T : Tr o H0) (hl : ds.length ≤ 1000) (P : St → Prop) (h0 : P (tau caps σ))
    (el : ∀ dx x (τ : St) (D : Addr) (H : Hp), dx ∈ ds → P τ → Same H0 H → (∃ xs, H D = some (.lst xs)) → Same (vw o H0) (vw (D :: o) H) → Has (vw (D :: o) H) dx x → ∀ (R : St → VK),
      (∀ τ' v H', P τ' → Same H H' → Has (vw (D :: o) H') (f dx) v → R τ' v H') → g x τ H fun τ4 H4 => te τ4 H4 (R τ4)) :
    Gv o σ H0 (tComp caps wi g tNoIf te) (.list (ds.map f)) := by
  have k := gv_compF (p := fun _ => true) (f := f) (tt := tNoIf) (te := te) src T hl P h0 (g := g) (caps := caps) fun dx x τ D H m hP s hD sv hx R R0 q _ => el dx x τ D H m hP s hD sv hx R fun τ' v H' => q τ' v H' rfl
  have e : ds.filter (fun _ => true) = ds := List.filter_eq_self.mpr fun _ _ => rfl
  rwa [e] at k
/-- the target a name -/
theorem gv_compN {f : PyData → PyData} {j : Nat} (src : Src o σ H0 wi ds) (T : Tr o H0) (hl : ds.length ≤ 1000) (P : St → Prop) (h0 : P (tau caps σ)) (hs : ∀ τ x, P τ → P (τ.set j (some x)))
    (el : ∀ dx x (τ : St) (D : Addr) (H : Hp), dx ∈ ds → P τ → Same H0 H → (∃ xs, H D = some (.lst xs)) → Same (vw o H0) (vw (D :: o) H) → Has (vw (D :: o) H) dx x → Gv (D :: o) (τ.set j (some x)) H te (f dx)) :
    Gv o σ H0 (tComp caps wi (gName j) tNoIf te) (.list (ds.map f)) :=
  gv_comp src T hl P h0 fun dx x τ D H m hP s hD sv hx R q => el dx x τ D H m hP s hD sv hx H _ (Same.refl H) fun v H' s' hv => q _ v H' (hs τ x hP) s' hv
theorem g_tup2 {a b : Nat} {d1 d2 : PyData} {x : V} {τ : St} {H : Hp} {Q : St → Hp → Prop} (h : Has (vw o H) (.tuple [d1, d2]) x) (q : ∀ v1 v2, Has (vw o H) d1 v1 → Has (vw o H) d2 v2 → Q ((τ.set a (some v1)).set b (some v2)) H) :
    gTup K 2 (gCons (gName a) (gCons (gName b) gNil)) x τ H Q := by
  obtain ⟨p, vs, rfl, e, l⟩ := has_tuple.mp h
  obtain ⟨v1, r1, rfl, h1, l1⟩ := hasL_cons.mp l
  obtain ⟨v2, r2, rfl, h2, l2⟩ := hasL_cons.mp l1
  cases hasL_nil.mp l2
  exact ⟨p, _, rfl, .of (vw_same _ _ e), rfl, v1, _, rfl, v2, _, rfl, rfl, q v1 v2 h1 h2⟩
theorem g_tup3 {a b c : Nat} {d1 d2 d3 : PyData} {x : V} {τ : St} {H : Hp} {Q : St → Hp → Prop} (h : Has (vw o H) (.tuple [d1, d2, d3]) x)
    (q : ∀ v1 v2 v3, Has (vw o H) d1 v1 → Has (vw o H) d2 v2 → Has (vw o H) d3 v3 → Q (((τ.set a (some v1)).set b (some v2)).set c (some v3)) H) :
    gTup K 3 (gCons (gName a) (gCons (gName b) (gCons (gName c) gNil))) x τ H Q := by
  obtain ⟨p, vs, rfl, e, l⟩ := has_tuple.mp h
  obtain ⟨v1, r1, rfl, h1, l1⟩ := hasL_cons.mp l
  obtain ⟨v2, r2, rfl, h2, l2⟩ := hasL_cons.mp l1
  obtain ⟨v3, r3, rfl, h3, l3⟩ := hasL_cons.mp l2
  cases hasL_nil.mp l3
  exact ⟨p, _, rfl, .of (vw_same _ _ e), rfl, v1, _, rfl, v2, _, rfl, v3, _, rfl, rfl, q v1 v2 v3 h1 h2 h3⟩
end

/-! ### statements one behind another, by what holds between them -/
theorem seq_cut {t u : TS} {D : Ends} {σ : St} {H : Hp} (P : St → Hp → Prop) (h1 : ∀ N : St → Hp → Prop, (∀ σ' H', P σ' H' → N σ' H') → t { D with nx := N } σ H) (h2 : ∀ σ' H', P σ' H' → u D σ' H') : tSeq t u D σ H := h1 _ h2
theorem len_mul {z : Str} {n : Int} : (PySem.Txt.mul z n).length ≤ z.length * n.toNat := by
  have go : ∀ (k : Nat) (a acc : Array Nat), ((List.replicate k a).foldl (· ++ ·) acc).size = acc.size + k * a.size := by
    intro k a
    induction k with
    | zero => intro acc; simp
    | succ k ih => intro acc; rw [List.replicate_succ, List.foldl_cons, ih, Array.size_append, Nat.succ_mul]; omega
  unfold PySem.Txt.mul
  split
  · exact Nat.zero_le _
  · rename_i h
    split
    · exact Nat.le_mul_of_pos_right _ (by omega)
    · show Array.size _ ≤ _
      rw [go]
      show 0 + n.toNat * z.length ≤ _
      rw [Nat.zero_add, Nat.mul_comm]
      exact Nat.le_refl _
section
variable {o : List Addr} {σ : St} {H0 : Hp} {t1 t2 : TE}
/-- the i-th sign of a text -/
def sgn (z : Str) (i : Int) : Str := ⟨#[z.cps.toList.getD i.toNat 0]⟩
theorem gv_ixS {z : Str} {i : Int} (h1 : Gv o σ H0 t1 (.str z)) (h2 : Gv o σ H0 t2 (.int i)) (hz : z.length ≤ 1000) (i0 : 0 ≤ i) (i1 : i < z.length) : Gv o σ H0 (tOp rIxS t1 t2) (.str (sgn z i)) := fun H Q s q =>
  h1 H _ s fun v H1 s1 e1 => h2 H1 _ (s.trans s1) fun u H2 s2 e2 => by
    rw [has_str.mp e1, has_int.mp e2]
    obtain ⟨k, rfl⟩ := Int.eq_ofNat_of_zero_le i0
    have hl : z.cps.toList.length = z.length := by simp [Str.length]
    have hk : k < z.cps.toList.length := by omega
    refine ⟨z, k, z.cps.toList.getD k 0, rfl, rfl, Nat.le_of_lt (small1000 hz), atI_nat ?_, q _ H2 (s1.trans s2) (has_str.mpr rfl)⟩
    rw [List.getD_eq_getElem?_getD, List.getElem?_eq_getElem hk]
    rfl
theorem sgn_len {z : Str} {i : Int} : (sgn z i).length = 1 := rfl
theorem gv_mulS {z : Str} {n : Int} (h1 : Gv o σ H0 t1 (.str z)) (h2 : Gv o σ H0 t2 (.int n)) (hz : z.length ≤ 1000) (n0 : -1000 ≤ n) (n1 : n ≤ 1000) : Gv o σ H0 (tOp rMulS t1 t2) (.str (PySem.Txt.mul z n)) := fun H Q s q =>
  h1 H _ s fun v H1 s1 e1 => h2 H1 _ (s.trans s1) fun u H2 s2 e2 => by
    rw [has_str.mp e1, has_int.mp e2]
    exact ⟨z, n, rfl, rfl, hz, n1, n0, q _ H2 (s1.trans s2) (has_str.mpr rfl)⟩
end

theorem len_join {y : Str} {zs : List Str} (hy : y.length ≤ 16) (hz : ∀ z ∈ zs, z.length ≤ 1000) : (PySem.Txt.join y zs).length ≤ zs.length * 1016 := by
  show (Builtin.Str.glued y zs).length ≤ _
  rw [StrLaws.glued_eq_join]
  cases zs with
  | nil => exact Nat.zero_le _
  | cons a r =>
    rw [len_join_cons]
    have h1 := sum_le_of hz
    have h2 : r.length * y.length ≤ r.length * 16 := Nat.mul_le_mul_left _ hy
    simp only [List.length_cons] at h1 ⊢
    omega
theorem hasL_strs {H : Hp} : ∀ {zs : List Str} {vs : List V}, HasL H (zs.map PyData.str) vs → vs = zs.map V.str
  | [], vs, h => hasL_nil.mp h
  | z :: zs, vs, h => by
    obtain ⟨v, r, rfl, h1, h2⟩ := hasL_cons.mp h
    rw [has_str.mp h1, hasL_strs h2]
    rfl
theorem strs_hasL {H : Hp} : ∀ {zs : List Str}, HasL H (zs.map PyData.str) (zs.map V.str)
  | [] => hasL_nil.mpr rfl
  | z :: zs => hasL_cons.mpr ⟨_, _, rfl, has_str.mpr rfl, strs_hasL⟩
/-- a part of a list -/
def cutL {α : Type} (xs : List α) (lo hi : Option Int) : List α := (xs.drop (HT.sIx xs.length 0 lo)).take (HT.sIx xs.length xs.length hi - HT.sIx xs.length 0 lo)
theorem cutL_map {α β : Type} (f : α → β) (xs : List α) (lo hi : Option Int) : (cutL xs lo hi).map f = cutL (xs.map f) lo hi := by
  unfold cutL
  rw [List.map_take, List.map_drop, List.length_map]
theorem cutL_mem {α : Type} {xs : List α} {lo hi : Option Int} {x : α} (h : x ∈ cutL xs lo hi) : x ∈ xs := List.mem_of_mem_drop (List.mem_of_mem_take h)
theorem cutL_length {α : Type} (xs : List α) (lo hi : Option Int) : (cutL xs lo hi).length ≤ xs.length := by
  unfold cutL
  rw [List.length_take, List.length_drop]
  omega
theorem HasL.drop {H : Hp} : ∀ {ds : List PyData} {vs : List V} (n : Nat), HasL H ds vs → HasL H (ds.drop n) (vs.drop n)
  | ds, vs, 0, h => h
  | [], vs, n + 1, h => by rw [hasL_nil.mp h]; exact hasL_nil.mpr rfl
  | d :: ds, vs, n + 1, h => by
    obtain ⟨v, r, rfl, _, l⟩ := hasL_cons.mp h
    exact HasL.drop n l
theorem HasL.take {H : Hp} : ∀ {ds : List PyData} {vs : List V} (n : Nat), HasL H ds vs → HasL H (ds.take n) (vs.take n)
  | ds, vs, 0, h => hasL_nil.mpr rfl
  | [], vs, n + 1, h => by rw [hasL_nil.mp h]; exact hasL_nil.mpr rfl
  | d :: ds, vs, n + 1, h => by
    obtain ⟨v, r, rfl, q, l⟩ := hasL_cons.mp h
    exact hasL_cons.mpr ⟨v, _, rfl, q, HasL.take n l⟩
theorem HasL.cut {H : Hp} {ds : List PyData} {vs : List V} (lo hi : Option Int) (h : HasL H ds vs) : HasL H (cutL ds lo hi) (cutV vs lo hi) := by
  unfold cutL cutV
  rw [h.length]
  exact (h.drop _).take _
theorem HasL.rev {H : Hp} : ∀ {ds : List PyData} {vs : List V}, HasL H ds vs → HasL H ds.reverse vs.reverse
  | [], vs, h => by rw [hasL_nil.mp h]; exact hasL_nil.mpr rfl
  | d :: ds, vs, h => by
    obtain ⟨v, r, rfl, q, l⟩ := hasL_cons.mp h
    rw [List.reverse_cons, List.reverse_cons]
    exact (HasL.rev l).append (hasL_cons.mpr ⟨v, [], rfl, q, hasL_nil.mpr rfl⟩)
/-- the two parts of a list at one place: together as long as the list -/
theorem cut_two {α : Type} (xs : List α) {i : Int} (h0 : 0 ≤ i) : (cutL xs (some i) none ++ cutL xs none (some i)).length = xs.length := by
  have e1 : HT.sIx xs.length 0 none = 0 := rfl
  have e2 : HT.sIx xs.length xs.length none = xs.length := rfl
  obtain ⟨k, rfl⟩ := Int.eq_ofNat_of_zero_le h0
  have e3 : ∀ d, HT.sIx xs.length d (some (k : Int)) = min k xs.length := fun d => by
    unfold HT.sIx
    simp
    try omega
  unfold cutL
  rw [List.length_append, List.length_take, List.length_take, List.length_drop, List.length_drop, e1, e2, e3, e3]
  omega
section
variable {K : PySem.W.Frag} {o : List Addr} {σ : St} {H0 : Hp} {t1 t2 : TE} {ds : List PyData}
theorem gv_slS {z : Str} {j : Int} (h1 : Gv o σ H0 t1 (.str z)) (h2 : Gv o σ H0 t2 (.int j)) (hz : z.length ≤ sizeLine) : Gv o σ H0 (tSl rSlS t1 tNoPart (tPart t2)) (.str (PySem.Txt.slice z none (some j))) := fun H Q s q =>
  h1 H _ s fun v H1 s1 e1 => h2 H1 _ (s.trans s1) fun u H2 s2 e2 => by
    rw [has_str.mp e1, has_int.mp e2]
    exact ⟨j, rfl, z, rfl, hz, q _ H2 (s1.trans s2) (has_str.mpr rfl)⟩
end
theorem Same.hid_upd {K H : Hp} {a p : Addr} {o : HO} (s : Same K (L2.hid a H)) (h : K p = none) : Same K (L2.hid a (upd H p o)) := fun b u e => by
  have hb : b ≠ p := ne_of_none e h
  have k := s b u e
  by_cases ha : b = a
  · rw [ha, hid_self] at k
    cases k
  · rw [hid_at ha] at k ⊢
    rw [upd_ne hb]
    exact k
theorem atI_nat' {xs : List V} {i : Nat} {v : V} (h : xs[i]? = some v) : atI xs (0 + (i : Int)) = some v := by rw [Int.zero_add]; exact atI_nat h
/-- data without lists stay when a list is changed -/
theorem HasL.updT {H : Hp} {p : Addr} {xs : List V} {u : HO} {ds : List PyData} {vs : List V} (c : tupDs ds = true) (e : H p = some (.lst xs)) (h : HasL H ds vs) : HasL (upd H p u) ds vs := by
  have k : HasL (L2.vw [p] H) ds vs := HasL.vwT (o := [p]) (show TrL [p] H from ⟨⟨xs, e⟩, trivial⟩) ds vs c h
  refine HasL.mono (fun b o eb => ?_) ds vs k
  have hb : b ≠ p := fun z => by
    have : L2.hid p H b = some o := eb
    rw [z, hid_self] at this
    cases this
  rw [upd_ne hb]
  exact hid_same b o eb
end L2

set_option Elab.async false
set_option linter.all false
set_option maxRecDepth 100000
set_option maxHeartbeats 200000
/-! MY EXTENSION, sixth part: the data layer. Values are data, or lists that are tracked; a text's meaning is read at data alone. -/
namespace L2
open PySem PySem.Spec PyProof.Rows

/-! ### views by membership -/
theorem vw_iff : ∀ {l : List Addr} {H : Hp} {b : Addr} {u : HO}, vw l H b = some u ↔ b ∉ l ∧ H b = some u
  | [], H, b, u => by simp [vw]
  | a :: r, H, b, u => by
    show hid a (vw r H) b = some u ↔ _
    by_cases h : b = a
    · subst h; simp [hid_self]
    · rw [hid_at h, vw_iff]; simp [h]
/-- h: hidden and not touched; o: tracked -/
def vx (h o : List Addr) (H : Hp) : Hp := vw (h ++ o) H
theorem vx_iff {h o : List Addr} {H : Hp} {b : Addr} {u : HO} : vx h o H b = some u ↔ b ∉ h ∧ b ∉ o ∧ H b = some u := by
  unfold vx
  rw [vw_iff]
  simp [and_assoc]
theorem vx_full {h o : List Addr} {H : Hp} : Same (vx h o H) H := fun b u e => (vx_iff.mp e).2.2
theorem vx_same {h o : List Addr} {H H' : Hp} (s : Same H H') : Same (vx h o H) (vx h o H') := fun b u e => by
  obtain ⟨h1, h2, h3⟩ := vx_iff.mp e
  exact vx_iff.mpr ⟨h1, h2, s b u h3⟩
/-- from one state to a later one -/
structure Ex (o : List Addr) (H : Hp) (o' : List Addr) (H' : Hp) : Prop where
  pre : ∃ r, o' = o ++ r
  kp : ∀ b u, b ∉ o → H b = some u → b ∉ o' ∧ H' b = some u
section
variable {h o o' o'' : List Addr} {H H' H'' : Hp} {S : List (List PyData)} {p a : Addr}
theorem Ex.refl : Ex o H o H := ⟨⟨[], by simp⟩, fun _ _ a b => ⟨a, b⟩⟩
theorem Ex.trans (a : Ex o H o' H') (b : Ex o' H' o'' H'') : Ex o H o'' H'' := by
  obtain ⟨⟨r, e⟩, ka⟩ := a
  obtain ⟨⟨t, e'⟩, kb⟩ := b
  refine ⟨⟨r ++ t, by rw [e', e, List.append_assoc]⟩, fun b u h1 h2 => ?_⟩
  obtain ⟨h3, h4⟩ := ka b u h1 h2
  exact kb b u h3 h4
theorem Ex.vx (e : Ex o H o' H') : Same (L2.vx h o H) (L2.vx h o' H') := fun b u q => by
  obtain ⟨h1, h2, h3⟩ := vx_iff.mp q
  obtain ⟨h4, h5⟩ := e.kp b u h2 h3
  exact vx_iff.mpr ⟨h1, h4, h5⟩
theorem Ex.of_same (s : Same H H') : Ex o H o H' := ⟨⟨[], by simp⟩, fun b u h e => ⟨h, s b u e⟩⟩
theorem get_app {α : Type} {l t : List α} {k : Nat} {a : α} (q : l[k]? = some a) : (l ++ t)[k]? = some a := by
  obtain ⟨hk, _⟩ := List.getElem?_eq_some_iff.mp q
  rw [List.getElem?_append_left hk]
  exact q
/-- a datum, a tracked list, or a value that is only carried -/
inductive XV where
  | d (d : PyData)
  | l (k : Nat)
  | o (v : V)
def HasX (h o : List Addr) (H : Hp) : XV → V → Prop
  | .d d, v => Has (vx h o H) d v
  | .l k, v => ∃ a, o[k]? = some a ∧ v = .ref a
  | .o w, v => v = w
theorem HasX.mono (e : Ex o H o' H') : ∀ {x : XV} {v : V}, HasX h o H x v → HasX h o' H' x v
  | .d d, v, q => Has.mono e.vx d v q
  | .l k, v, ⟨a, q, r⟩ => by
    obtain ⟨t, rfl⟩ := e.pre
    exact ⟨a, get_app q, r⟩
  | .o w, v, q => q
def HasXs (h o : List Addr) (H : Hp) : List XV → List V → Prop
  | [], vs => vs = []
  | x :: xs, vs => ∃ v r, vs = v :: r ∧ HasX h o H x v ∧ HasXs h o H xs r
theorem HasXs.mono (e : Ex o H o' H') : ∀ {xs : List XV} {vs : List V}, HasXs h o H xs vs → HasXs h o' H' xs vs
  | [], _, q => q
  | x :: xs, vs, ⟨v, r, e1, q, l⟩ => ⟨v, r, e1, q.mono e, HasXs.mono e l⟩
abbrev Sto := List (List PyData)
structure RepS (h o : List Addr) (H : Hp) (S : Sto) : Prop where
  len : S.length = o.length
  nd : o.Nodup
  dis : ∀ a ∈ o, a ∉ h
  hal : ∀ b ∈ h, ∃ u, H b = some (.lst u)
  cont : ∀ (k : Nat) (a : Addr) (ds : List PyData), o[k]? = some a → S[k]? = some ds → ∃ vs, H a = some (.lst vs) ∧ HasL (vx h o H) ds vs
theorem get_same {α β : Type} {l : List α} {t : List β} {k : Nat} {a : α} (hl : t.length = l.length) (q : l[k]? = some a) : ∃ b, t[k]? = some b := by
  obtain ⟨hk, _⟩ := List.getElem?_eq_some_iff.mp q
  exact ⟨t[k]'(by omega), List.getElem?_eq_getElem _⟩
theorem RepS.oal (r : RepS h o H S) : ∀ a ∈ o, ∃ u, H a = some (.lst u) := fun a ha => by
  obtain ⟨k, hk⟩ := List.mem_iff_getElem?.mp ha
  obtain ⟨ds, e⟩ := get_same r.len hk
  obtain ⟨vs, e', _⟩ := r.cont k a ds hk e
  exact ⟨_, e'⟩
theorem RepS.fresh (r : RepS h o H S) (hp : H p = none) : p ∉ h ∧ p ∉ o := by
  constructor
  · intro m
    obtain ⟨u, e⟩ := r.hal p m
    rw [hp] at e
    cases e
  · intro m
    obtain ⟨u, e⟩ := r.oal p m
    rw [hp] at e
    cases e
theorem RepS.same (r : RepS h o H S) (s : Same H H') : RepS h o H' S where
  len := r.len
  nd := r.nd
  dis := r.dis
  hal := fun b m => by obtain ⟨u, e⟩ := r.hal b m; exact ⟨u, s b _ e⟩
  cont := fun k a ds e1 e2 => by
    obtain ⟨vs, e3, l⟩ := r.cont k a ds e1 e2
    exact ⟨vs, s _ _ e3, HasL.mono (vx_same s) _ _ l⟩
/-- a new object that is data -/
theorem RepS.laid {u : HO} (r : RepS h o H S) (hp : H p = none) : vx h o (upd H p u) p = some u := by
  obtain ⟨h1, h2⟩ := r.fresh hp
  exact vx_iff.mpr ⟨h1, h2, upd_same⟩
/-- a new list that is tracked -/
theorem Ex.new {u : HO} (r : RepS h o H S) (hp : H p = none) : Ex o H (o ++ [p]) (upd H p u) := by
  refine ⟨⟨[p], rfl⟩, fun b w hb e => ?_⟩
  have ne : b ≠ p := ne_of_none e hp
  exact ⟨by simp [hb, ne], by rw [upd_ne ne]; exact e⟩
theorem nodup_snoc {α : Type} {l : List α} {a : α} (h : l.Nodup) (n : a ∉ l) : (l ++ [a]).Nodup := by
  rw [List.nodup_append]
  refine ⟨h, by simp, fun x hx y hy e => ?_⟩
  rw [List.mem_singleton] at hy
  subst hy
  subst e
  exact n hx
theorem RepS.new {ds : List PyData} {vs : List V} (r : RepS h o H S) (hp : H p = none) (l : HasL (vx h o H) ds vs) : RepS h (o ++ [p]) (upd H p (.lst vs)) (S ++ [ds]) := by
  obtain ⟨h1, h2⟩ := r.fresh hp
  have ex : Ex o H (o ++ [p]) (upd H p (.lst vs)) := Ex.new r hp
  refine ⟨by simp [r.len], nodup_snoc r.nd h2, fun a ha => ?_, fun b hb => ?_, fun k a es e1 e2 => ?_⟩
  · rcases List.mem_append.mp ha with ha | ha
    · exact r.dis a ha
    · rw [List.mem_singleton.mp ha]; exact h1
  · obtain ⟨u, e⟩ := r.hal b hb
    exact ⟨u, by rw [upd_ne (ne_of_none e hp)]; exact e⟩
  · by_cases hk : k < o.length
    · rw [List.getElem?_append_left hk] at e1
      rw [List.getElem?_append_left (by rw [r.len]; exact hk)] at e2
      obtain ⟨ws, e3, l3⟩ := r.cont k a es e1 e2
      refine ⟨ws, ?_, l3.mono ex.vx⟩
      rw [upd_ne (ne_of_none e3 hp)]
      exact e3
    · have hk' : k = o.length := by
        obtain ⟨q, _⟩ := List.getElem?_eq_some_iff.mp e1
        rw [List.length_append, List.length_singleton] at q
        omega
      subst hk'
      rw [List.getElem?_concat_length] at e1
      rw [← r.len, List.getElem?_concat_length] at e2
      cases e1
      cases e2
      exact ⟨vs, upd_same, l.mono ex.vx⟩
/-- a tracked list is changed -/
theorem Ex.upd {k : Nat} {u : HO} (e : o[k]? = some a) : Ex o H o (L2.upd H a u) :=
  ⟨⟨[], by simp⟩, fun b w hb eb => ⟨hb, by rw [upd_ne (fun z => hb (by rw [z]; exact List.mem_of_getElem? e))]; exact eb⟩⟩
theorem nodup_get {l : List Addr} (h : l.Nodup) {i j : Nat} {a : Addr} (e1 : l[i]? = some a) (e2 : l[j]? = some a) : i = j := by
  obtain ⟨hi, e1⟩ := List.getElem?_eq_some_iff.mp e1
  obtain ⟨hj, e2⟩ := List.getElem?_eq_some_iff.mp e2
  exact (List.getElem_inj h).mp (e1.trans e2.symm)
theorem RepS.upd {k : Nat} {ds : List PyData} {vs : List V} (r : RepS h o H S) (e : o[k]? = some a) (l : HasL (vx h o H) ds vs) : RepS h o (L2.upd H a (.lst vs)) (S.set k ds) := by
  have ex : Ex o H o (L2.upd H a (.lst vs)) := Ex.upd e
  refine ⟨by simp [r.len], r.nd, r.dis, fun b hb => ?_, fun j b es e1 e2 => ?_⟩
  · obtain ⟨u, eb⟩ := r.hal b hb
    have ne : b ≠ a := fun z => r.dis a (List.mem_of_getElem? e) (z ▸ hb)
    exact ⟨u, by rw [upd_ne ne]; exact eb⟩
  · by_cases hj : j = k
    · subst hj
      rw [e1] at e
      cases e
      obtain ⟨hk, _⟩ := List.getElem?_eq_some_iff.mp e1
      rw [List.getElem?_set_self (by rw [r.len]; exact hk)] at e2
      cases e2
      exact ⟨vs, upd_same, l.mono ex.vx⟩
    · rw [List.getElem?_set_ne (Ne.symm hj)] at e2
      obtain ⟨ws, e3, l3⟩ := r.cont j b es e1 e2
      have ne : b ≠ a := fun z => hj (nodup_get r.nd e1 (z ▸ e))
      exact ⟨ws, by rw [upd_ne ne]; exact e3, l3.mono ex.vx⟩
/-- the names -/
abbrev XE := List (Option XV)
structure RepE (h o : List Addr) (H : Hp) (δ : XE) (σ : St) : Prop where
  len : δ.length = σ.length
  get : ∀ (i : Nat) x, δ[i]? = some (some x) → ∃ v, σ[i]? = some (some v) ∧ HasX h o H x v
variable {δ : XE} {σ : St}
theorem RepE.mono (r : RepE h o H δ σ) (e : Ex o H o' H') : RepE h o' H' δ σ := ⟨r.len, fun i x q => by
  obtain ⟨v, e1, e2⟩ := r.get i x q
  exact ⟨v, e1, e2.mono e⟩⟩
theorem RepE.set {i : Nat} {x : XV} {v : V} (r : RepE h o H δ σ) (q : HasX h o H x v) : RepE h o H (δ.set i (some x)) (σ.set i (some v)) := by
  refine ⟨by simp [r.len], fun j y e => ?_⟩
  rw [List.getElem?_set] at e ⊢
  by_cases hij : i = j
  · rw [if_pos hij] at e ⊢
    by_cases hl : i < δ.length
    · rw [if_pos hl] at e
      rw [if_pos (by rw [← r.len]; exact hl)]
      cases e
      exact ⟨v, rfl, q⟩
    · rw [if_neg hl] at e
      cases e
  · rw [if_neg hij] at e ⊢
    exact r.get j y e
def tauX (caps : List (Option Nat)) (δ : XE) : XE := caps.map fun o => o.bind fun i => (δ[i]?).join
theorem RepE.tau {caps : List (Option Nat)} (r : RepE h o H δ σ) : RepE h o H (tauX caps δ) (L2.tau caps σ) := by
  refine ⟨by simp [tauX, L2.tau], fun i x e => ?_⟩
  unfold tauX at e
  unfold L2.tau
  rw [List.getElem?_map] at e ⊢
  cases hc : caps[i]? with
  | none => rw [hc] at e; cases e
  | some c =>
    rw [hc] at e
    cases c with
    | none => cases e
    | some j =>
      have e' : (δ[j]?).join = some x := by simpa using e
      have e2 : δ[j]? = some (some x) := by
        cases hd : δ[j]? with
        | none => rw [hd] at e'; cases e'
        | some y => rw [hd] at e'; exact congrArg some (by simpa using e')
      obtain ⟨v, e3, e4⟩ := r.get j x e2
      exact ⟨v, by simp [e3], e4⟩
end

/-! ### meanings at data -/
abbrev RX := XV → Sto → Prop
abbrev DE := XE → Sto → RX → Prop
abbrev DT := XE → Sto → (Bool → Sto → Prop) → Prop
abbrev DA := XE → Sto → (List XV → Sto → Prop) → Prop
abbrev D2 := XV → XV → Sto → RX → Prop
def Cn (h o : List Addr) (H : Hp) (R : RX) (Q : VK) : Prop := ∀ o' H' S' x v, Ex o H o' H' → RepS h o' H' S' → HasX h o' H' x v → R x S' → Q v H'
theorem Cn.pre {h o o' : List Addr} {H H' : Hp} {R : RX} {Q : VK} (c : Cn h o H R Q) (e : Ex o H o' H') : Cn h o' H' R Q := fun o2 H2 S2 x v e2 => c o2 H2 S2 x v (e.trans e2)
def RE (t : TE) (dt : DE) : Prop := ∀ (h o : List Addr) (H : Hp) (δ : XE) (σ : St) (S : Sto) (R : RX) (Q : VK), RepE h o H δ σ → RepS h o H S → dt δ S R → Cn h o H R Q → t σ H Q
def RT (t : TT) (dt : DT) : Prop := ∀ (h o : List Addr) (H : Hp) (δ : XE) (σ : St) (S : Sto) (R : Bool → Sto → Prop) (Q : Bool → Hp → Prop), RepE h o H δ σ → RepS h o H S → dt δ S R →
  (∀ o' H' S' b, Ex o H o' H' → RepS h o' H' S' → R b S' → Q b H') → t σ H Q
def RA (t : TA) (dt : DA) : Prop := ∀ (h o : List Addr) (H : Hp) (δ : XE) (σ : St) (S : Sto) (R : List XV → Sto → Prop) (Q : List V → Hp → Prop), RepE h o H δ σ → RepS h o H S → dt δ S R →
  (∀ o' H' S' xs vs, Ex o H o' H' → RepS h o' H' S' → HasXs h o' H' xs vs → R xs S' → Q vs H') → t σ H Q
/-- two values and a result -/
def RO (r : R2) (rd : D2) : Prop := ∀ (h o : List Addr) (H : Hp) (S : Sto) (x y : XV) (v u : V) (R : RX) (Q : VK), RepS h o H S → HasX h o H x v → HasX h o H y u → rd x y S R → Cn h o H R Q → r v u H Q
def RU (r : V → Hp → VK → Prop) (rd : XV → Sto → RX → Prop) : Prop := ∀ (h o : List Addr) (H : Hp) (S : Sto) (x : XV) (v : V) (R : RX) (Q : VK), RepS h o H S → HasX h o H x v → rd x S R → Cn h o H R Q → r v H Q
def RC (r : List V → Hp → VK → Prop) (rd : List XV → Sto → RX → Prop) : Prop := ∀ (h o : List Addr) (H : Hp) (S : Sto) (xs : List XV) (vs : List V) (R : RX) (Q : VK), RepS h o H S → HasXs h o H xs vs → rd xs S R → Cn h o H R Q → r vs H Q

def asI : XV → (Int → Prop) → Prop
  | .d (.int i), k => k i
  | _, _ => False
def asB : XV → (Bool → Prop) → Prop
  | .d (.bool i), k => k i
  | _, _ => False
def asS : XV → (Str → Prop) → Prop
  | .d (.str i), k => k i
  | _, _ => False
def asT : XV → (List PyData → Prop) → Prop
  | .d (.tuple i), k => k i
  | _, _ => False
def asLs (S : Sto) : XV → Option (List PyData)
  | .d (.list ds) => some ds
  | .l k => S[k]?
  | _ => none
def asL (S : Sto) (x : XV) (k : List PyData → Prop) : Prop := ∃ ds, asLs S x = some ds ∧ k ds
def asDat (S : Sto) : XV → Option PyData
  | .d d => some d
  | .l k => (S[k]?).map .list
  | .o _ => none
def asD (x : XV) (k : PyData → Prop) : Prop := match x with
  | .d d => k d
  | _ => False
theorem asI_ex {x : XV} {k : Int → Prop} (h : asI x k) : ∃ i, x = .d (.int i) ∧ k i := by
  unfold asI at h
  split at h
  · exact ⟨_, rfl, h⟩
  · exact h.elim
theorem asB_ex {x : XV} {k : Bool → Prop} (h : asB x k) : ∃ i, x = .d (.bool i) ∧ k i := by
  unfold asB at h
  split at h
  · exact ⟨_, rfl, h⟩
  · exact h.elim
theorem asS_ex {x : XV} {k : Str → Prop} (h : asS x k) : ∃ i, x = .d (.str i) ∧ k i := by
  unfold asS at h
  split at h
  · exact ⟨_, rfl, h⟩
  · exact h.elim
theorem asT_ex {x : XV} {k : List PyData → Prop} (h : asT x k) : ∃ i, x = .d (.tuple i) ∧ k i := by
  unfold asT at h
  split at h
  · exact ⟨_, rfl, h⟩
  · exact h.elim
theorem asD_ex {x : XV} {k : PyData → Prop} (h : asD x k) : ∃ i, x = .d i ∧ k i := by
  unfold asD at h
  split at h
  · exact ⟨_, rfl, h⟩
  · exact h.elim
section
variable {h o : List Addr} {H : Hp} {S : Sto} {x : XV} {v : V} {i : Int} {b : Bool} {z : Str} {ds : List PyData} {d : PyData}
theorem hx_int (q : HasX h o H (.d (.int i)) v) : v = .int i := (has_int (H := vx h o H)).mp q
theorem hx_bool (q : HasX h o H (.d (.bool b)) v) : v = .bl b := (has_bool (H := vx h o H)).mp q
theorem hx_str (q : HasX h o H (.d (.str z)) v) : v = .str z := (has_str (H := vx h o H)).mp q
theorem hx_tup (q : HasX h o H (.d (.tuple ds)) v) : ∃ a vs, v = .ref a ∧ H a = some (.tup vs) ∧ HasL (vx h o H) ds vs := by
  obtain ⟨a, vs, e, q, l⟩ := has_tuple.mp (show Has _ _ _ from q)
  exact ⟨a, vs, e, vx_full _ _ q, l⟩
theorem hx_lst (r : RepS h o H S) (e : asLs S x = some ds) (q : HasX h o H x v) : ∃ a vs, v = .ref a ∧ H a = some (.lst vs) ∧ HasL (vx h o H) ds vs := by
  unfold asLs at e
  split at e
  · cases e
    obtain ⟨a, vs, e, q, l⟩ := has_list.mp (show Has _ _ _ from q)
    exact ⟨a, vs, e, vx_full _ _ q, l⟩
  · obtain ⟨a, e1, rfl⟩ := q
    obtain ⟨vs, e2, l⟩ := r.cont _ a ds e1 e
    exact ⟨a, vs, rfl, e2, l⟩
  · cases e
theorem hx_full (r : RepS h o H S) (e : asDat S x = some d) (q : HasX h o H x v) : Has H d v := by
  unfold asDat at e
  split at e
  · cases e
    exact Has.mono vx_full _ _ q
  · rename_i k
    obtain ⟨a, e1, rfl⟩ := q
    cases hs : S[k]? with
    | none => rw [hs] at e; cases e
    | some es =>
      rw [hs] at e
      cases e
      obtain ⟨vs, e2, l⟩ := r.cont k a es e1 hs
      exact has_list.mpr ⟨a, vs, rfl, e2, HasL.mono vx_full _ _ l⟩
  · cases e
theorem xI (i : Int) : HasX h o H (.d (.int i)) (.int i) := (has_int (H := vx h o H)).mpr rfl
theorem xB (i : Bool) : HasX h o H (.d (.bool i)) (.bl i) := (has_bool (H := vx h o H)).mpr rfl
theorem xS (i : Str) : HasX h o H (.d (.str i)) (.str i) := (has_str (H := vx h o H)).mpr rfl
theorem xN : HasX h o H (.d .none) .non := (has_none (H := vx h o H)).mpr rfl
/-- new tuples and lists -/
theorem mkTup {vs : List V} {R : RX} {Q : VK} (r : RepS h o H S) (l : HasL (vx h o H) ds vs) (c : Cn h o H R Q) (q : R (.d (.tuple ds)) S) : ∀ p, H p = none → Q (.ref p) (upd H p (.tup vs)) := fun p hp =>
  c o _ S (.d (.tuple ds)) _ (Ex.of_same (Same.laid hp)) (r.same (Same.laid hp)) (has_tuple.mpr ⟨p, vs, rfl, r.laid hp, l.mono (vx_same (Same.laid hp))⟩) q
theorem mkLst {vs : List V} {R : RX} {Q : VK} (r : RepS h o H S) (l : HasL (vx h o H) ds vs) (c : Cn h o H R Q) (q : R (.d (.list ds)) S) : ∀ p, H p = none → Q (.ref p) (upd H p (.lst vs)) := fun p hp =>
  c o _ S (.d (.list ds)) _ (Ex.of_same (Same.laid hp)) (r.same (Same.laid hp)) (has_list.mpr ⟨p, vs, rfl, r.laid hp, l.mono (vx_same (Same.laid hp))⟩) q
/-- a new list, tracked -/
theorem mkTrk {vs : List V} {R : RX} {Q : VK} (r : RepS h o H S) (l : HasL (vx h o H) ds vs) (c : Cn h o H R Q) (q : R (.l S.length) (S ++ [ds])) : ∀ p, H p = none → Q (.ref p) (upd H p (.lst vs)) := fun p hp =>
  c (o ++ [p]) _ (S ++ [ds]) (.l S.length) _ (Ex.new r hp) (r.new hp l) ⟨p, by rw [r.len, List.getElem?_concat_length], rfl⟩ q
theorem hxs_data : ∀ {xs : List XV} {vs : List V} {ds : List PyData}, HasXs h o H xs vs → xs = ds.map XV.d → HasL (vx h o H) ds vs
  | [], vs, [], q, _ => hasL_nil.mpr q
  | x :: xs, vs, d :: ds, ⟨v, r, e, q, l⟩, e2 => by
    rw [List.map_cons] at e2
    cases e2
    exact hasL_cons.mpr ⟨v, r, e, q, hxs_data l rfl⟩
  | x :: xs, vs, [], _, e2 => by cases e2
  | [], vs, d :: ds, _, e2 => by cases e2
theorem hasL_hxs : ∀ {vs : List V} {ds : List PyData}, HasL (vx h o H) ds vs → HasXs h o H (ds.map XV.d) vs
  | vs, [], q => hasL_nil.mp q
  | vs, d :: ds, q => by
    obtain ⟨v, r, e, q, l⟩ := hasL_cons.mp q
    exact ⟨v, r, e, q, hasL_hxs l⟩
end
/-- the data of values -/
def datas : List XV → Option (List PyData)
  | [] => some []
  | .d d :: r => (datas r).map (d :: ·)
  | _ :: _ => none
theorem datas_eq : ∀ {xs : List XV} {ds : List PyData}, datas xs = some ds → xs = ds.map XV.d
  | [], ds, e => by cases e; rfl
  | .d d :: r, ds, e => by
    unfold datas at e
    cases hr : datas r with
    | none => rw [hr] at e; cases e
    | some es =>
      rw [hr] at e
      cases e
      rw [datas_eq hr]
      rfl
  | .l _ :: _, _, e => by cases e
  | .o _ :: _, _, e => by cases e

/-! ### expressions -/
def dVar (i : Nat) : DE := fun δ S R => ∃ x, δ[i]? = some (some x) ∧ R x S
def dC (d : PyData) : DE := fun _ S R => R (.d d) S
def dO (v : V) : DE := fun _ S R => R (.o v) S
def dOp (rd : D2) (a b : DE) : DE := fun δ S R => a δ S fun x S1 => b δ S1 fun y S2 => rd x y S2 R
def dUn (rd : XV → Sto → RX → Prop) (a : DE) : DE := fun δ S R => a δ S fun x S1 => rd x S1 R
def dNil : DA := fun _ S R => R [] S
def dCons (a : DE) (b : DA) : DA := fun δ S R => a δ S fun x S1 => b δ S1 fun xs S2 => R (x :: xs) S2
def dCB (rd : List XV → Sto → RX → Prop) (a : DA) : DE := fun δ S R => a δ S fun xs S1 => rd xs S1 R
def dTup (a : DA) : DE := fun δ S R => a δ S fun xs S1 => ∃ ds, datas xs = some ds ∧ ds.length ≤ 1000 ∧ R (.d (.tuple ds)) S1
def dLst (a : DA) : DE := fun δ S R => a δ S fun xs S1 => ∃ ds, datas xs = some ds ∧ ds.length ≤ 1000 ∧ R (.d (.list ds)) S1
/-- a list display that is tracked -/
def dLstT (a : DA) : DE := fun δ S R => a δ S fun xs S1 => ∃ ds, datas xs = some ds ∧ ds.length ≤ 1000 ∧ R (.l S1.length) (S1 ++ [ds])
section
variable {t ta tb tc : TE} {da db dc : DE} {tl : TA} {dl : DA} {tt tu : TT} {dt du : DT}
theorem re_var {i : Nat} : RE (tVar i) (dVar i) := fun h o H δ σ S R Q he hs ⟨x, e, q⟩ c => by
  obtain ⟨v, e1, e2⟩ := he.get i x e
  exact ⟨v, e1, c o H S x v Ex.refl hs e2 q⟩
theorem re_int {i : Int} : RE (tC (.int i)) (dC (.int i)) := fun h o H δ σ S R Q he hs q c => c o H S _ _ Ex.refl hs (xI i) q
theorem re_bl {i : Bool} : RE (tC (.bl i)) (dC (.bool i)) := fun h o H δ σ S R Q he hs q c => c o H S _ _ Ex.refl hs (xB i) q
theorem re_str {i : Str} : RE (tC (.str i)) (dC (.str i)) := fun h o H δ σ S R Q he hs q c => c o H S _ _ Ex.refl hs (xS i) q
theorem re_non : RE (tC .non) (dC .none) := fun h o H δ σ S R Q he hs q c => c o H S _ _ Ex.refl hs xN q
theorem re_o {v : V} : RE (tC v) (dO v) := fun h o H δ σ S R Q he hs q c => c o H S (.o v) v Ex.refl hs rfl q
theorem re_op {r : R2} {rd : D2} (hr : RO r rd) (ha : RE ta da) (hb : RE tb db) : RE (tOp r ta tb) (dOp rd da db) := fun h o H δ σ S R Q he hs q c =>
  ha h o H δ σ S _ _ he hs q fun o1 H1 S1 x v e1 s1 x1 d1 => hb h o1 H1 δ σ S1 _ _ (he.mono e1) s1 d1 fun o2 H2 S2 y u e2 s2 y2 d2 =>
    hr h o2 H2 S2 x y v u R Q s2 (x1.mono e2) y2 d2 (c.pre (e1.trans e2))
theorem re_un {r : V → Hp → VK → Prop} {rd : XV → Sto → RX → Prop} (hr : RU r rd) (ha : RE ta da) : RE (tUn r ta) (dUn rd da) := fun h o H δ σ S R Q he hs q c =>
  ha h o H δ σ S _ _ he hs q fun o1 H1 S1 x v e1 s1 x1 d1 => hr h o1 H1 S1 x v R Q s1 x1 d1 (c.pre e1)
theorem ra_nil : RA tNil dNil := fun h o H δ σ S R Q he hs q c => c o H S [] [] Ex.refl hs rfl q
theorem ra_cons (ha : RE ta da) (hb : RA tl dl) : RA (tCons ta tl) (dCons da dl) := fun h o H δ σ S R Q he hs q c =>
  ha h o H δ σ S _ _ he hs q fun o1 H1 S1 x v e1 s1 x1 d1 => hb h o1 H1 δ σ S1 _ _ (he.mono e1) s1 d1 fun o2 H2 S2 xs vs e2 s2 x2 d2 =>
    c o2 H2 S2 (x :: xs) (v :: vs) (e1.trans e2) s2 ⟨v, vs, rfl, x1.mono e2, x2⟩ d2
theorem re_cb {r : List V → Hp → VK → Prop} {rd : List XV → Sto → RX → Prop} (hr : RC r rd) (ha : RA tl dl) : RE (tCB r tl) (dCB rd dl) := fun h o H δ σ S R Q he hs q c =>
  ha h o H δ σ S _ _ he hs q fun o1 H1 S1 xs vs e1 s1 x1 d1 => hr h o1 H1 S1 xs vs R Q s1 x1 d1 (c.pre e1)
theorem re_tup (ha : RA tl dl) : RE (tTup tl) (dTup dl) := fun h o H δ σ S R Q he hs q c =>
  ha h o H δ σ S _ _ he hs q fun o1 H1 S1 xs vs e1 s1 x1 ⟨ds, e, hl, d1⟩ => by
    have l := hxs_data x1 (datas_eq e)
    exact ⟨by rw [l.length]; exact Nat.le_of_lt (small1000 hl), mkTup s1 l (c.pre e1) d1⟩
theorem re_lst (ha : RA tl dl) : RE (tLst tl) (dLst dl) := fun h o H δ σ S R Q he hs q c =>
  ha h o H δ σ S _ _ he hs q fun o1 H1 S1 xs vs e1 s1 x1 ⟨ds, e, hl, d1⟩ => by
    have l := hxs_data x1 (datas_eq e)
    exact ⟨by rw [l.length]; exact Nat.le_of_lt (small1000 hl), mkLst s1 l (c.pre e1) d1⟩
theorem re_lstT (ha : RA tl dl) : RE (tLst tl) (dLstT dl) := fun h o H δ σ S R Q he hs q c =>
  ha h o H δ σ S _ _ he hs q fun o1 H1 S1 xs vs e1 s1 x1 ⟨ds, e, hl, d1⟩ => by
    have l := hxs_data x1 (datas_eq e)
    exact ⟨by rw [l.length]; exact Nat.le_of_lt (small1000 hl), mkTrk s1 l (c.pre e1) d1⟩
/-! tests -/
def dB (a : DE) : DT := fun δ S R => a δ S fun x S1 => asB x fun b => R b S1
def dNot (a : DT) : DT := fun δ S R => a δ S fun b S1 => R (!b) S1
def dAnd (a b : DT) : DT := fun δ S R => a δ S fun x S1 => if x = true then b δ S1 R else R false S1
def dOr (a b : DT) : DT := fun δ S R => a δ S fun x S1 => if x = true then R true S1 else b δ S1 R
def dAndV (a b : DE) : DE := fun δ S R => a δ S fun x S1 => asB x fun c => if c = true then b δ S1 R else R (.d (.bool false)) S1
def dOrV (a b : DE) : DE := fun δ S R => a δ S fun x S1 => asB x fun c => if c = true then R (.d (.bool true)) S1 else b δ S1 R
def dNotV (a : DE) : DE := fun δ S R => a δ S fun x S1 => asB x fun c => R (.d (.bool (!c))) S1
def dIf (c : DT) (a b : DE) : DE := fun δ S R => c δ S fun x S1 => if x = true then a δ S1 R else b δ S1 R
theorem rt_b (ha : RE ta da) : RT (tB ta) (dB da) := fun h o H δ σ S R Q he hs q c =>
  ha h o H δ σ S _ _ he hs q fun o1 H1 S1 x v e1 s1 x1 d1 => by
    replace d1 := asB_ex d1
    obtain ⟨b, rfl, d1⟩ := d1
    exact ⟨b, hx_bool x1, c o1 H1 S1 b e1 s1 d1⟩
theorem rt_t (ha : RE ta da) : RT (tTest ta) (dB da) := fun h o H δ σ S R Q he hs q c =>
  ha h o H δ σ S _ _ he hs q fun o1 H1 S1 x v e1 s1 x1 d1 => by
    replace d1 := asB_ex d1
    obtain ⟨b, rfl, d1⟩ := d1
    exact ⟨b, hx_bool x1, c o1 H1 S1 b e1 s1 d1⟩
theorem rt_not (ha : RT tt dt) : RT (tNot tt) (dNot dt) := fun h o H δ σ S R Q he hs q c =>
  ha h o H δ σ S _ _ he hs q fun o1 H1 S1 b e1 s1 d1 => c o1 H1 S1 _ e1 s1 d1
theorem rt_and (ha : RT tt dt) (hb : RT tu du) : RT (tAnd tt tu) (dAnd dt du) := fun h o H δ σ S R Q he hs q c =>
  ha h o H δ σ S _ _ he hs q fun o1 H1 S1 b e1 s1 d1 => by
    cases b with
    | true => exact iteT (hb h o1 H1 δ σ S1 R Q (he.mono e1) s1 (by simpa using d1) fun o2 H2 S2 b e2 => c o2 H2 S2 b (e1.trans e2))
    | false => exact iteF (c o1 H1 S1 false e1 s1 (by simpa using d1))
theorem rt_or (ha : RT tt dt) (hb : RT tu du) : RT (tOr tt tu) (dOr dt du) := fun h o H δ σ S R Q he hs q c =>
  ha h o H δ σ S _ _ he hs q fun o1 H1 S1 b e1 s1 d1 => by
    cases b with
    | false => exact iteF (hb h o1 H1 δ σ S1 R Q (he.mono e1) s1 (by simpa using d1) fun o2 H2 S2 b e2 => c o2 H2 S2 b (e1.trans e2))
    | true => exact iteT (c o1 H1 S1 true e1 s1 (by simpa using d1))
theorem re_and (ha : RE ta da) (hb : RE tb db) : RE (tAndV ta tb) (dAndV da db) := fun h o H δ σ S R Q he hs q c =>
  ha h o H δ σ S _ _ he hs q fun o1 H1 S1 x v e1 s1 x1 d1 => by
    replace d1 := asB_ex d1
    obtain ⟨b, rfl, d1⟩ := d1
    refine ⟨b, hx_bool x1, ?_⟩
    cases b with
    | true => exact iteT (hb h o1 H1 δ σ S1 R Q (he.mono e1) s1 (by simpa using d1) (c.pre e1))
    | false => exact iteF (c o1 H1 S1 _ _ e1 s1 (xB false) (by simpa using d1))
theorem re_or (ha : RE ta da) (hb : RE tb db) : RE (tOrV ta tb) (dOrV da db) := fun h o H δ σ S R Q he hs q c =>
  ha h o H δ σ S _ _ he hs q fun o1 H1 S1 x v e1 s1 x1 d1 => by
    replace d1 := asB_ex d1
    obtain ⟨b, rfl, d1⟩ := d1
    refine ⟨b, hx_bool x1, ?_⟩
    cases b with
    | false => exact iteF (hb h o1 H1 δ σ S1 R Q (he.mono e1) s1 (by simpa using d1) (c.pre e1))
    | true => exact iteT (c o1 H1 S1 _ _ e1 s1 (xB true) (by simpa using d1))
theorem re_not (ha : RE ta da) : RE (tNotV ta) (dNotV da) := fun h o H δ σ S R Q he hs q c =>
  ha h o H δ σ S _ _ he hs q fun o1 H1 S1 x v e1 s1 x1 d1 => by
    replace d1 := asB_ex d1
    obtain ⟨b, rfl, d1⟩ := d1
    exact ⟨b, hx_bool x1, c o1 H1 S1 _ _ e1 s1 (xB _) d1⟩
theorem re_if (hc : RT tt dt) (ha : RE ta da) (hb : RE tb db) : RE (tIf tt ta tb) (dIf dt da db) := fun h o H δ σ S R Q he hs q c =>
  hc h o H δ σ S _ _ he hs q fun o1 H1 S1 b e1 s1 d1 => by
    cases b with
    | true => exact iteT (ha h o1 H1 δ σ S1 R Q (he.mono e1) s1 (by simpa using d1) (c.pre e1))
    | false => exact iteF (hb h o1 H1 δ σ S1 R Q (he.mono e1) s1 (by simpa using d1) (c.pre e1))
def dChain (rd rd' : D2) (a b e : DE) : DE := fun δ S R => a δ S fun x S1 => b δ S1 fun y S2 => rd x y S2 fun z S3 => asB z fun k => if k = true then e δ S3 fun u S4 => rd' y u S4 R else R (.d (.bool false)) S3
theorem re_chain {r r' : R2} {rd rd' : D2} (hr : RO r rd) (hr' : RO r' rd') (ha : RE ta da) (hb : RE tb db) (hc : RE tc dc) : RE (tChain r r' ta tb tc) (dChain rd rd' da db dc) := fun h o H δ σ S R Q he hs q c =>
  ha h o H δ σ S _ _ he hs q fun o1 H1 S1 x v e1 s1 x1 d1 => hb h o1 H1 δ σ S1 _ _ (he.mono e1) s1 d1 fun o2 H2 S2 y u e2 s2 y2 d2 =>
    hr h o2 H2 S2 x y v u _ _ s2 (x1.mono e2) y2 d2 fun o3 H3 S3 z w e3 s3 z3 d3 => by
      replace d3 := asB_ex d3
      obtain ⟨b, rfl, d3⟩ := d3
      refine ⟨b, hx_bool z3, ?_⟩
      cases b with
      | false => exact iteF (c o3 H3 S3 _ _ ((e1.trans e2).trans e3) s3 (xB false) (by simpa using d3))
      | true => exact iteT (hc h o3 H3 δ σ S3 _ _ (((he.mono e1).mono e2).mono e3) s3 (by simpa using d3) fun o4 H4 S4 k w' e4 s4 k4 d4 => hr' h o4 H4 S4 y k u w' R Q s4 ((y2.mono e3).mono e4) k4 d4 (c.pre (((e1.trans e2).trans e3).trans e4)))
end

/-! ### operations -/
def dI (C : Int → Int → Prop) (g : Int → Int → Int) : D2 := fun x y S R => asI x fun i => asI y fun j => C i j ∧ R (.d (.int (g i j))) S
def dI0 (g : Int → Int → Int) : D2 := fun x y S R => asI x fun i => asI y fun j => R (.d (.int (g i j))) S
def dIb (g : Int → Int → Bool) : D2 := fun x y S R => asI x fun i => asI y fun j => R (.d (.bool (g i j))) S
def dUI (g : Int → Int) : XV → Sto → RX → Prop := fun x S R => asI x fun i => R (.d (.int (g i))) S
def dEqI : D2 := dIb fun i j => decide (i = j)
def dNeI : D2 := dIb fun i j => !decide (i = j)
def dEqB : D2 := fun x y S R => asB x fun i => asB y fun j => R (.d (.bool (decide (i = j)))) S
def dNeB : D2 := fun x y S R => asB x fun i => asB y fun j => R (.d (.bool (!decide (i = j)))) S
def dEqD : D2 := fun x y S R => ∃ d, asDat S x = some d ∧ ∃ e, asDat S y = some e ∧ SeqAt.shaped d = true ∧ SeqAt.shaped e = true ∧ R (.d (.bool (PyData.eqv d e))) S
def dNeD : D2 := fun x y S R => ∃ d, asDat S x = some d ∧ ∃ e, asDat S y = some e ∧ SeqAt.shaped d = true ∧ SeqAt.shaped e = true ∧ R (.d (.bool (!PyData.eqv d e))) S
def dIsN : D2 := fun x _ S R => asD x fun d => R (.d (.bool (noneD d))) S
def dNotN : D2 := fun x _ S R => asD x fun d => R (.d (.bool (!noneD d))) S
def dIxT : D2 := fun x y S R => asT x fun ds => asI y fun i => ∃ d, atI ds i = some d ∧ R (.d d) S
def dIxL : D2 := fun x y S R => asL S x fun ds => asI y fun i => ∃ d, atI ds i = some d ∧ R (.d d) S
def dCat : D2 := fun x y S R => asL S x fun ds => asL S y fun es => ds.length + es.length ≤ 1000 ∧ R (.d (.list (ds ++ es))) S
def dCatT : D2 := fun x y S R => asT x fun ds => asT y fun es => ds ≠ [] ∧ ds.length + es.length ≤ 1000 ∧ R (.d (.tuple (ds ++ es))) S
section
theorem ro_I {C : Int → Int → Prop} {g : Int → Int → Int} : RO (rI C fun i j => .int (g i j)) (dI C g) := fun h o H S x y v u R Q hs hx hy q c => by
  replace q := asI_ex q
  obtain ⟨i, rfl, q⟩ := q
  replace q := asI_ex q
  obtain ⟨j, rfl, hc, q⟩ := q
  exact ⟨i, j, hx_int hx, hx_int hy, hc, c o H S _ _ Ex.refl hs (xI _) q⟩
theorem ro_I0 {g : Int → Int → Int} : RO (rI0 fun i j => .int (g i j)) (dI0 g) := fun h o H S x y v u R Q hs hx hy q c => by
  replace q := asI_ex q
  obtain ⟨i, rfl, q⟩ := q
  replace q := asI_ex q
  obtain ⟨j, rfl, q⟩ := q
  exact ⟨i, j, hx_int hx, hx_int hy, c o H S _ _ Ex.refl hs (xI _) q⟩
theorem ro_Ib {g : Int → Int → Bool} : RO (rI0 fun i j => .bl (g i j)) (dIb g) := fun h o H S x y v u R Q hs hx hy q c => by
  replace q := asI_ex q
  obtain ⟨i, rfl, q⟩ := q
  replace q := asI_ex q
  obtain ⟨j, rfl, q⟩ := q
  exact ⟨i, j, hx_int hx, hx_int hy, c o H S _ _ Ex.refl hs (xB _) q⟩
theorem ru_I {g : Int → Int} : RU (rU fun i => .int (g i)) (dUI g) := fun h o H S x v R Q hs hx q c => by
  replace q := asI_ex q
  obtain ⟨i, rfl, q⟩ := q
  exact ⟨i, hx_int hx, c o H S _ _ Ex.refl hs (xI _) q⟩
theorem ro_eqI : RO rEq dEqI := fun h o H S x y v u R Q hs hx hy q c => by
  replace q := asI_ex q
  obtain ⟨i, rfl, q⟩ := q
  replace q := asI_ex q
  obtain ⟨j, rfl, q⟩ := q
  rw [hx_int hx, hx_int hy]
  exact rEq_int.mpr (c o H S _ _ Ex.refl hs (xB _) q)
theorem ro_neI : RO rNe dNeI := fun h o H S x y v u R Q hs hx hy q c => by
  replace q := asI_ex q
  obtain ⟨i, rfl, q⟩ := q
  replace q := asI_ex q
  obtain ⟨j, rfl, q⟩ := q
  rw [hx_int hx, hx_int hy]
  exact rNe_int.mpr (c o H S _ _ Ex.refl hs (xB _) q)
theorem ro_eqB : RO rEq dEqB := fun h o H S x y v u R Q hs hx hy q c => by
  replace q := asB_ex q
  obtain ⟨i, rfl, q⟩ := q
  replace q := asB_ex q
  obtain ⟨j, rfl, q⟩ := q
  rw [hx_bool hx, hx_bool hy]
  exact rEq_bl.mpr (c o H S _ _ Ex.refl hs (xB _) q)
theorem ro_neB : RO rNe dNeB := fun h o H S x y v u R Q hs hx hy q c => by
  replace q := asB_ex q
  obtain ⟨i, rfl, q⟩ := q
  replace q := asB_ex q
  obtain ⟨j, rfl, q⟩ := q
  rw [hx_bool hx, hx_bool hy]
  exact rNe_bl.mpr (c o H S _ _ Ex.refl hs (xB _) q)
theorem ro_eqD : RO rEqD dEqD := fun h o H S x y v u R Q hs hx hy q c => by
  obtain ⟨d, q1, e, q2, q3, q4, q⟩ := q
  exact ⟨d, e, hx_full hs q1 hx, hx_full hs q2 hy, q3, q4, c o H S _ _ Ex.refl hs (xB _) q⟩
theorem ro_neD : RO rNeD dNeD := fun h o H S x y v u R Q hs hx hy q c => by
  obtain ⟨d, q1, e, q2, q3, q4, q⟩ := q
  exact ⟨d, e, hx_full hs q1 hx, hx_full hs q2 hy, q3, q4, c o H S _ _ Ex.refl hs (xB _) q⟩
theorem re_isN {ta : TE} {da : DE} (ha : RE ta da) : RE (tOp rIsN ta (tC .non)) (dOp dIsN da (dC .none)) := fun h o H δ σ S R Q he hs q c =>
  ha h o H δ σ S _ _ he hs q fun o1 H1 S1 x v e1 s1 x1 d1 => by
    replace d1 := asD_ex d1
    obtain ⟨d, rfl, d1⟩ := d1
    have e := has_noneD (show Has _ d v from x1)
    exact ⟨rfl, by rw [e]; exact c o1 H1 S1 _ _ e1 s1 (xB _) d1⟩
theorem re_notN {ta : TE} {da : DE} (ha : RE ta da) : RE (tOp rNotN ta (tC .non)) (dOp dNotN da (dC .none)) := fun h o H δ σ S R Q he hs q c =>
  ha h o H δ σ S _ _ he hs q fun o1 H1 S1 x v e1 s1 x1 d1 => by
    replace d1 := asD_ex d1
    obtain ⟨d, rfl, d1⟩ := d1
    have e := has_noneD (show Has _ d v from x1)
    exact ⟨rfl, by rw [e]; exact c o1 H1 S1 _ _ e1 s1 (xB _) d1⟩
theorem HasL.atI {H : Hp} {ds : List PyData} {vs : List V} {i : Int} {d : PyData} (l : HasL H ds vs) (e : L2.atI ds i = some d) : ∃ v, L2.atI vs i = some v ∧ Has H d v := by
  unfold L2.atI at e ⊢
  rw [l.length]
  cases hn : ixN ds.length i with
  | none => rw [hn] at e; cases e
  | some j =>
    rw [hn] at e
    exact l.get (show ds[j]? = some d from e)
theorem ro_ixT {K : PySem.W.Frag} : RO (rIxT K) dIxT := fun h o H S x y v u R Q hs hx hy q c => by
  replace q := asT_ex q
  obtain ⟨ds, rfl, q⟩ := q
  replace q := asI_ex q
  obtain ⟨i, rfl, d, e, q⟩ := q
  obtain ⟨a, vs, rfl, ea, l⟩ := hx_tup hx
  obtain ⟨w, ew, hw⟩ := l.atI e
  exact ⟨a, vs, i, w, rfl, hx_int hy, .of ea, ew, c o H S (.d d) w Ex.refl hs hw q⟩
theorem ro_ixL {K : PySem.W.Frag} : RO (rIxL K) dIxL := fun h o H S x y v u R Q hs hx hy q c => by
  obtain ⟨ds, e0, q⟩ := q
  replace q := asI_ex q
  obtain ⟨i, rfl, d, e, q⟩ := q
  obtain ⟨a, vs, rfl, ea, l⟩ := hx_lst hs e0 hx
  obtain ⟨w, ew, hw⟩ := l.atI e
  exact ⟨a, vs, i, w, rfl, hx_int hy, .of ea, ew, c o H S (.d d) w Ex.refl hs hw q⟩
theorem ro_cat : RO rCat dCat := fun h o H S x y v u R Q hs hx hy q c => by
  obtain ⟨ds, e0, es, e1, hl, q⟩ := q
  obtain ⟨a, vs, rfl, ea, la⟩ := hx_lst hs e0 hx
  obtain ⟨b, us, rfl, eb, lb⟩ := hx_lst hs e1 hy
  exact ⟨a, b, vs, us, rfl, rfl, ea, eb, by rw [la.length, lb.length]; exact Nat.le_of_lt (small1000 hl), mkLst hs (la.append lb) c q⟩
theorem ro_catT {K : PySem.W.Frag} : RO (rCatT K) dCatT := fun h o H S x y v u R Q hs hx hy q c => by
  replace q := asT_ex q
  obtain ⟨ds, rfl, q⟩ := q
  replace q := asT_ex q
  obtain ⟨es, rfl, hn, hl, q⟩ := q
  obtain ⟨a, vs, rfl, ea, la⟩ := hx_tup hx
  obtain ⟨b, us, rfl, eb, lb⟩ := hx_tup hy
  refine ⟨a, b, vs, us, rfl, rfl, .of ea, .of eb, fun z => ?_, by rw [la.length, lb.length]; exact Nat.le_of_lt (small1000 hl), fun z => ?_, fun _ => mkTup hs (la.append lb) c q⟩
  · subst z
    have := la.length
    exact hn (List.eq_nil_of_length_eq_zero this.symm)
  · subst z
    have e : es = [] := List.eq_nil_of_length_eq_zero lb.length.symm
    subst e
    rw [List.append_nil] at q
    exact c o H S (.d (.tuple ds)) _ Ex.refl hs hx q
end
/-! slices -/
abbrev DO := XE → Sto → (Option Int → Sto → Prop) → Prop
def RP (t : TO) (dt : DO) : Prop := ∀ (h o : List Addr) (H : Hp) (δ : XE) (σ : St) (S : Sto) (R : Option Int → Sto → Prop) (Q : Option Int → Hp → Prop), RepE h o H δ σ → RepS h o H S → dt δ S R →
  (∀ o' H' S' b, Ex o H o' H' → RepS h o' H' S' → R b S' → Q b H') → t σ H Q
def dNoPart : DO := fun _ S R => R none S
def dPart (a : DE) : DO := fun δ S R => a δ S fun x S1 => asI x fun i => R (some i) S1
theorem rp_none : RP tNoPart dNoPart := fun h o H δ σ S R Q he hs q c => c o H S none Ex.refl hs q
theorem rp_some {t : TE} {da : DE} (ha : RE t da) : RP (tPart t) (dPart da) := fun h o H δ σ S R Q he hs q c =>
  ha h o H δ σ S _ _ he hs q fun o1 H1 S1 x v e1 s1 x1 d1 => by
    replace d1 := asI_ex d1
    obtain ⟨i, rfl, d1⟩ := d1
    exact ⟨i, hx_int x1, c o1 H1 S1 _ e1 s1 d1⟩
abbrev D3 := XV → Option Int → Option Int → Sto → RX → Prop
def RL (r : V → Option Int → Option Int → Hp → VK → Prop) (rd : D3) : Prop := ∀ (h o : List Addr) (H : Hp) (S : Sto) (x : XV) (v : V) (a b : Option Int) (R : RX) (Q : VK), RepS h o H S → HasX h o H x v → rd x a b S R → Cn h o H R Q → r v a b H Q
def dSl (rd : D3) (e : DE) (a b : DO) : DE := fun δ S R => e δ S fun x S1 => a δ S1 fun i S2 => b δ S2 fun j S3 => rd x i j S3 R
theorem re_sl {r : V → Option Int → Option Int → Hp → VK → Prop} {rd : D3} {te : TE} {de : DE} {ta tb : TO} {da db : DO} (hr : RL r rd) (he' : RE te de) (ha : RP ta da) (hb : RP tb db) : RE (tSl r te ta tb) (dSl rd de da db) := fun h o H δ σ S R Q he hs q c =>
  he' h o H δ σ S _ _ he hs q fun o1 H1 S1 x v e1 s1 x1 d1 => ha h o1 H1 δ σ S1 _ _ (he.mono e1) s1 d1 fun o2 H2 S2 i e2 s2 d2 => hb h o2 H2 δ σ S2 _ _ ((he.mono e1).mono e2) s2 d2 fun o3 H3 S3 j e3 s3 d3 =>
    hr h o3 H3 S3 x v i j R Q s3 ((x1.mono e2).mono e3) d3 (c.pre ((e1.trans e2).trans e3))
def dSlL : D3 := fun x i j S R => asL S x fun ds => R (.d (.list (cutL ds i j))) S
def dSlT : D3 := fun x i j S R => asT x fun ds => ¬ (HT.sIx ds.length 0 i = 0 ∧ HT.sIx ds.length ds.length j = ds.length) ∧ R (.d (.tuple (cutL ds i j))) S
theorem rl_list {K : PySem.W.Frag} : RL (rSlL K) dSlL := fun h o H S x v a b R Q hs hx q c => by
  obtain ⟨ds, e0, q⟩ := q
  obtain ⟨p, vs, rfl, ea, l⟩ := hx_lst hs e0 hx
  exact ⟨p, vs, rfl, .of ea, mkLst hs (l.cut a b) c q⟩
theorem rl_tup {K : PySem.W.Frag} : RL (rSlT K) dSlT := fun h o H S x v a b R Q hs hx q c => by
  replace q := asT_ex q
  obtain ⟨ds, rfl, hn, q⟩ := q
  obtain ⟨p, vs, rfl, ea, l⟩ := hx_tup hx
  exact ⟨p, vs, rfl, .of ea, by rw [l.length]; exact hn, mkTup hs (l.cut a b) c q⟩
/-! builtins -/
/-- the items of a tuple, a list or a tracked list -/
def asQ (S : Sto) : XV → Option (List PyData)
  | .d (.tuple ds) => some ds
  | .d (.list ds) => some ds
  | .l k => S[k]?
  | _ => none
theorem hx_seq {h o : List Addr} {H : Hp} {S : Sto} {x : XV} {v : V} {ds : List PyData} (r : RepS h o H S) (e : asQ S x = some ds) (q : HasX h o H x v) : ∃ a vs, v = .ref a ∧ (H a = some (.tup vs) ∨ H a = some (.lst vs)) ∧ HasL (vx h o H) ds vs := by
  unfold asQ at e
  split at e
  · cases e
    obtain ⟨a, vs, e, q, l⟩ := hx_tup q
    exact ⟨a, vs, e, .inl q, l⟩
  · cases e
    obtain ⟨a, vs, e, q, l⟩ := hx_lst (x := .d (.list ds)) (ds := ds) r rfl q
    exact ⟨a, vs, e, .inr q, l⟩
  · rename_i k
    obtain ⟨a, vs, e, q, l⟩ := hx_lst (x := .l k) r e q
    exact ⟨a, vs, e, .inr q, l⟩
  · cases e
def arg1 : List XV → (XV → Prop) → Prop
  | [x], k => k x
  | _, _ => False
def arg2 : List XV → (XV → XV → Prop) → Prop
  | [x, y], k => k x y
  | _, _ => False
theorem arg1_ex {xs : List XV} {k : XV → Prop} (h : arg1 xs k) : ∃ x, xs = [x] ∧ k x := by
  unfold arg1 at h
  split at h
  · exact ⟨_, rfl, h⟩
  · exact h.elim
theorem arg2_ex {xs : List XV} {k : XV → XV → Prop} (h : arg2 xs k) : ∃ x y, xs = [x, y] ∧ k x y := by
  unfold arg2 at h
  split at h
  · exact ⟨_, _, rfl, h⟩
  · exact h.elim
theorem hxs1 {h o : List Addr} {H : Hp} {x : XV} {vs : List V} (q : HasXs h o H [x] vs) : ∃ v, vs = [v] ∧ HasX h o H x v := by
  obtain ⟨v, r, e, hx, hr⟩ := q
  cases hr
  exact ⟨v, e, hx⟩
theorem hxs2 {h o : List Addr} {H : Hp} {x y : XV} {vs : List V} (q : HasXs h o H [x, y] vs) : ∃ v u, vs = [v, u] ∧ HasX h o H x v ∧ HasX h o H y u := by
  obtain ⟨v, r, e, hx, q⟩ := q
  obtain ⟨u, e', hy⟩ := hxs1 q
  subst e'
  exact ⟨v, u, e, hx, hy⟩
/-- a type's name -/
def asTy : XV → (String → Prop) → Prop
  | .o v, k => ∃ c, v = .ty c ∧ k c
  | _, _ => False
def asIB : XV → (Int → Prop) → Prop
  | .d d, k => match d with
    | .int i => k i
    | .bool b => k (if b then 1 else 0)
    | _ => False
  | _, _ => False
theorem asTy_ex {x : XV} {k : String → Prop} (h : asTy x k) : ∃ c, x = .o (.ty c) ∧ k c := by
  cases x with
  | o v =>
    obtain ⟨c, rfl, h⟩ := h
    exact ⟨c, rfl, h⟩
  | d d => exact h.elim
  | l j => exact h.elim
theorem asIB_ex {x : XV} {k : Int → Prop} (h : asIB x k) : (∃ i, x = .d (.int i) ∧ k i) ∨ ∃ b, x = .d (.bool b) ∧ k (if b then 1 else 0) := by
  cases x with
  | d d =>
    cases d with
    | int i => exact .inl ⟨i, rfl, h⟩
    | bool b => exact .inr ⟨b, rfl, h⟩
    | _ => exact h.elim
  | _ => exact h.elim
def dLen : List XV → Sto → RX → Prop := fun xs S R => arg1 xs fun x => ∃ ds, asQ S x = some ds ∧ R (.d (.int ds.length)) S
theorem rc_len {K : PySem.W.Frag} : RC (rLen K) dLen := fun h o H S xs vs R Q hs hx q c => by
  obtain ⟨x, rfl, ds, hd, q1⟩ := arg1_ex q
  obtain ⟨v, rfl, hx1⟩ := hxs1 hx
  obtain ⟨a, ws, rfl, ea, l⟩ := hx_seq hs hd hx1
  refine ⟨a, ws, rfl, ea.elim (fun z => .inr (.of z)) (fun z => .inl (.of z)), ?_⟩
  rw [l.length]
  exact c o H S _ _ Ex.refl hs (xI _) q1
def dIsi : List XV → Sto → RX → Prop := fun xs S R => arg2 xs fun x y => asTy y fun cl => ∃ d, asDat S x = some d ∧ cl ∈ clsD ∧ R (.d (.bool (isiD d cl))) S
theorem rc_isi : RC rIsi dIsi := fun h o H S xs vs R Q hs hx q c => by
  obtain ⟨x, y, rfl, q1⟩ := arg2_ex q
  obtain ⟨cl, rfl, d, hd, hc, q2⟩ := asTy_ex q1
  obtain ⟨v, u, rfl, hx1, hu⟩ := hxs2 hx
  cases hu
  exact rIsi_of (hx_full hs hd hx1) hc (c o H S _ _ Ex.refl hs (xB _) q2)
def dAbs : List XV → Sto → RX → Prop := fun xs S R => arg1 xs fun x => asI x fun i => R (.d (.int (if i < 0 then -i else i))) S
theorem rc_abs : RC (fun xs H Q => ∃ i, xs = [.int i] ∧ Q (.int (if i < 0 then -i else i)) H) dAbs := fun h o H S xs vs R Q hs hx q c => by
  obtain ⟨x, rfl, q1⟩ := arg1_ex q
  obtain ⟨v, rfl, hx1⟩ := hxs1 hx
  obtain ⟨i, rfl, q2⟩ := asI_ex q1
  exact ⟨i, by rw [hx_int hx1], c o H S _ _ Ex.refl hs (xI _) q2⟩
def dInt1 : List XV → Sto → RX → Prop := fun xs S R => arg1 xs fun x => asIB x fun i => R (.d (.int i)) S
theorem rc_int1 : RC (fun xs H Q => (∃ i, xs = [.int i] ∧ Q (.int i) H) ∨ ∃ k, xs = [.bl k] ∧ Q (.int (if k then 1 else 0)) H) dInt1 := fun h o H S xs vs R Q hs hx q c => by
  obtain ⟨x, rfl, q1⟩ := arg1_ex q
  obtain ⟨v, rfl, hx1⟩ := hxs1 hx
  rcases asIB_ex q1 with ⟨i, rfl, q2⟩ | ⟨b, rfl, q2⟩
  · exact .inl ⟨_, by rw [hx_int hx1], c o H S _ _ Ex.refl hs (xI _) q2⟩
  · exact .inr ⟨_, by rw [hx_bool hx1], c o H S _ _ Ex.refl hs (xI _) q2⟩
def dI2 (g : Int → Int → Int) : List XV → Sto → RX → Prop := fun xs S R => arg2 xs fun x y => asI x fun i => asI y fun j => R (.d (.int (g i j))) S
theorem rc_I2 {g : Int → Int → Int} : RC (fun xs H Q => ∃ i j, xs = [.int i, .int j] ∧ Q (.int (g i j)) H) (dI2 g) := fun h o H S xs vs R Q hs hx q c => by
  obtain ⟨x, y, rfl, q1⟩ := arg2_ex q
  obtain ⟨v, u, rfl, hx1, hu⟩ := hxs2 hx
  obtain ⟨i, rfl, q2⟩ := asI_ex q1
  obtain ⟨j, rfl, q3⟩ := asI_ex q2
  exact ⟨i, j, by rw [hx_int hx1, hx_int hu], c o H S _ _ Ex.refl hs (xI _) q3⟩
def dTupOf : List XV → Sto → RX → Prop := fun xs S R => arg1 xs fun x => ∃ ds, asQ S x = some ds ∧ R (.d (.tuple ds)) S
theorem rc_tupOf {K : PySem.W.Frag} : RC (fun xs H Q => ∃ p ys, xs = [.ref p] ∧ ((SqL K H p ys ∧ ∀ l, H l = none → Q (.ref l) (upd H l (.tup ys))) ∨ (SqT K H p ys ∧ Q (.ref p) H))) dTupOf := fun h o H S xs vs R Q hs hx q c => by
  obtain ⟨x, rfl, ds, hd, q1⟩ := arg1_ex q
  obtain ⟨v, rfl, hx1⟩ := hxs1 hx
  obtain ⟨a, ws, rfl, ea, l⟩ := hx_seq hs hd hx1
  refine ⟨a, ws, rfl, ea.elim (fun z => .inr ⟨.of z, ?_⟩) (fun z => .inl ⟨.of z, mkTup hs l c q1⟩)⟩
  have hh : HasX h o H (.d (.tuple ds)) (.ref a) := by
    unfold asQ at hd
    split at hd
    · cases hd
      exact hx1
    · obtain ⟨a', us, e1, e2, _⟩ := hx_lst (x := .d (.list _)) hs rfl hx1
      cases e1
      rw [z] at e2
      cases e2
    · rename_i k
      obtain ⟨a', us, e1, e2, _⟩ := hx_lst (x := .l k) hs hd hx1
      cases e1
      rw [z] at e2
      cases e2
    · cases hd
  exact c o H S _ _ Ex.refl hs hh q1
def dLstOf : List XV → Sto → RX → Prop := fun xs S R => arg1 xs fun x => ∃ ds, asQ S x = some ds ∧ R (.d (.list ds)) S
def dLstOfT : List XV → Sto → RX → Prop := fun xs S R => arg1 xs fun x => ∃ ds, asQ S x = some ds ∧ R (.l S.length) (S ++ [ds])
theorem rc_lstOf {K : PySem.W.Frag} : RC (fun xs H Q => ∃ p ys, xs = [.ref p] ∧ (SqL K H p ys ∨ SqT K H p ys) ∧ ∀ l, H l = none → Q (.ref l) (upd H l (.lst ys))) dLstOf := fun h o H S xs vs R Q hs hx q c => by
  obtain ⟨x, rfl, ds, hd, q1⟩ := arg1_ex q
  obtain ⟨v, rfl, hx1⟩ := hxs1 hx
  obtain ⟨a, ws, rfl, ea, l⟩ := hx_seq hs hd hx1
  exact ⟨a, ws, rfl, ea.elim (fun z => .inr (.of z)) (fun z => .inl (.of z)), mkLst hs l c q1⟩
theorem rc_lstOfT {K : PySem.W.Frag} : RC (fun xs H Q => ∃ p ys, xs = [.ref p] ∧ (SqL K H p ys ∨ SqT K H p ys) ∧ ∀ l, H l = none → Q (.ref l) (upd H l (.lst ys))) dLstOfT := fun h o H S xs vs R Q hs hx q c => by
  obtain ⟨x, rfl, ds, hd, q1⟩ := arg1_ex q
  obtain ⟨v, rfl, hx1⟩ := hxs1 hx
  obtain ⟨a, ws, rfl, ea, l⟩ := hx_seq hs hd hx1
  exact ⟨a, ws, rfl, ea.elim (fun z => .inr (.of z)) (fun z => .inl (.of z)), mkTrk hs l c q1⟩
theorem hasL_intsV {H : Hp} : ∀ {ns : List Int} {vs : List V}, HasL H (ns.map PyData.int) vs → vs = ns.map V.int
  | [], vs, h => hasL_nil.mp h
  | n :: ns, vs, h => by
    obtain ⟨v, r, rfl, h1, h2⟩ := hasL_cons.mp h
    rw [has_int.mp h1, hasL_intsV h2]
    rfl
/-- min, max of a list or tuple of ints -/
def dMin : List XV → Sto → RX → Prop := fun xs S R => arg1 xs fun x => ∃ ds, asQ S x = some ds ∧ ∃ ns, ds = ns.map PyData.int ∧ ns ≠ [] ∧ ∀ m, m ∈ ns → (∀ a, a ∈ ns → m ≤ a) → R (.d (.int m)) S
def dMax : List XV → Sto → RX → Prop := fun xs S R => arg1 xs fun x => ∃ ds, asQ S x = some ds ∧ ∃ ns, ds = ns.map PyData.int ∧ ns ≠ [] ∧ ∀ m, m ∈ ns → (∀ a, a ∈ ns → a ≤ m) → R (.d (.int m)) S
theorem rc_min {K : PySem.W.Frag} : RC (rMin K) dMin := fun h o H S xs vs R Q hs hx q c => by
  obtain ⟨x, rfl, ds, hd, ns, rfl, hn, q1⟩ := arg1_ex q
  obtain ⟨v, rfl, hx1⟩ := hxs1 hx
  obtain ⟨a, ws, rfl, ea, l⟩ := hx_seq hs hd hx1
  rw [hasL_intsV l] at ea
  exact ⟨a, ns, rfl, ea.elim (fun z => .inr (.of z)) (fun z => .inl (.of z)), hn, fun m m1 m2 => c o H S _ _ Ex.refl hs (xI _) (q1 m m1 m2)⟩
theorem rc_max {K : PySem.W.Frag} : RC (rMax K) dMax := fun h o H S xs vs R Q hs hx q c => by
  obtain ⟨x, rfl, ds, hd, ns, rfl, hn, q1⟩ := arg1_ex q
  obtain ⟨v, rfl, hx1⟩ := hxs1 hx
  obtain ⟨a, ws, rfl, ea, l⟩ := hx_seq hs hd hx1
  rw [hasL_intsV l] at ea
  exact ⟨a, ns, rfl, ea.elim (fun z => .inr (.of z)) (fun z => .inl (.of z)), hn, fun m m1 m2 => c o H S _ _ Ex.refl hs (xI _) (q1 m m1 m2)⟩
/-! methods that change a tracked list -/
def dBM (rd : XV → List XV → Sto → RX → Prop) (e : DE) (a : DA) : DE := fun δ S R => e δ S fun x S1 => ∃ k, x = .l k ∧ k < S1.length ∧ a δ S1 fun xs S2 => rd x xs S2 R
def dBM0 (rd : XV → List XV → Sto → RX → Prop) (e : DE) : DE := fun δ S R => e δ S fun x S1 => ∃ k, x = .l k ∧ k < S1.length ∧ rd x [] S1 R
def RM (r : V → List V → Hp → VK → Prop) (rd : XV → List XV → Sto → RX → Prop) : Prop := ∀ (h o : List Addr) (H : Hp) (S : Sto) (x : XV) (v : V) (xs : List XV) (vs : List V) (R : RX) (Q : VK), RepS h o H S → HasX h o H x v → HasXs h o H xs vs → rd x xs S R → Cn h o H R Q → r v vs H Q
theorem tyV_list {K : PySem.W.Frag} {H : Hp} {a : Addr} {vs : List V} (e : H a = some (.lst vs)) : tyV K "list" (.ref a) H := .inl ⟨rfl, vs, .of e⟩
theorem trk_at {h o : List Addr} {H : Hp} {S : Sto} {k : Nat} {v : V} (hs : RepS h o H S) (hk : k < S.length) (hx : HasX h o H (.l k) v) : ∃ a vs, v = .ref a ∧ H a = some (.lst vs) := by
  obtain ⟨a, e, rfl⟩ := hx
  obtain ⟨vs, e2, _⟩ := hs.cont k a _ e (List.getElem?_eq_getElem hk)
  exact ⟨a, vs, rfl, e2⟩
theorem re_bm {K : PySem.W.Frag} {r : V → List V → Hp → VK → Prop} {rd : XV → List XV → Sto → RX → Prop} {te : TE} {de : DE} {tl : TA} {dl : DA} (hr : RM r rd) (he' : RE te de) (ha : RA tl dl) : RE (tBM K "list" r te tl) (dBM rd de dl) := fun h o H δ σ S R Q he hs q c =>
  he' h o H δ σ S _ _ he hs q fun o1 H1 S1 x v e1 s1 x1 ⟨k, ek, hk, d1⟩ => by
    subst ek
    obtain ⟨a, ws, rfl, ea⟩ := trk_at s1 hk x1
    exact ⟨tyV_list ea, ha h o1 H1 δ σ S1 _ _ (he.mono e1) s1 d1 fun o2 H2 S2 xs vs e2 s2 x2 d2 => hr h o2 H2 S2 (.l k) _ xs vs R Q s2 (x1.mono e2) x2 d2 (c.pre (e1.trans e2))⟩
theorem re_bm0 {K : PySem.W.Frag} {r : V → List V → Hp → VK → Prop} {rd : XV → List XV → Sto → RX → Prop} {te : TE} {de : DE} (hr : RM r rd) (he' : RE te de) : RE (tBM0 K "list" r te) (dBM0 rd de) := fun h o H δ σ S R Q he hs q c =>
  he' h o H δ σ S _ _ he hs q fun o1 H1 S1 x v e1 s1 x1 ⟨k, ek, hk, d1⟩ => by
    subst ek
    obtain ⟨a, ws, rfl, ea⟩ := trk_at s1 hk x1
    exact ⟨tyV_list ea, hr h o1 H1 S1 (.l k) _ [] [] R Q s1 x1 rfl d1 (c.pre e1)⟩
def dAppend : XV → List XV → Sto → RX → Prop := fun x xs S R => ∃ k, x = .l k ∧ ∃ ds, S[k]? = some ds ∧ arg1 xs fun y => asD y fun d => ds.length < 1000 ∧ R (.d .none) (S.set k (ds ++ [d]))
theorem rm_append : RM rAppend dAppend := fun h o H S x v xs vs R Q hs hx hxs q c => by
  obtain ⟨k, rfl, ds, e, q1⟩ := q
  obtain ⟨y, rfl, q2⟩ := arg1_ex q1
  obtain ⟨d, rfl, hl, q3⟩ := asD_ex q2
  obtain ⟨a, ea, rfl⟩ := hx
  obtain ⟨u, rfl, hu⟩ := hxs1 hxs
  obtain ⟨ws, ew, l⟩ := hs.cont k a ds ea e
  exact ⟨a, ws, u, rfl, rfl, ew, by rw [l.length]; exact small1000 (Nat.le_of_lt hl), c o _ _ (.d .none) _ (Ex.upd ea) (hs.upd ea (l.append (hasL_cons.mpr ⟨u, [], rfl, hu, hasL_nil.mpr rfl⟩))) xN q3⟩
def dReverse : XV → List XV → Sto → RX → Prop := fun x xs S R => ∃ k, x = .l k ∧ ∃ ds, S[k]? = some ds ∧ xs = [] ∧ R (.d .none) (S.set k ds.reverse)
theorem rm_reverse : RM rReverse dReverse := fun h o H S x v xs vs R Q hs hx hxs q c => by
  obtain ⟨k, rfl, ds, e, rfl, q1⟩ := q
  obtain ⟨a, ea, rfl⟩ := hx
  obtain ⟨ws, ew, l⟩ := hs.cont k a ds ea e
  cases hxs
  exact ⟨a, ws, rfl, rfl, ew, c o _ _ (.d .none) _ (Ex.upd ea) (hs.upd ea l.rev) xN q1⟩
def dExtend : XV → List XV → Sto → RX → Prop := fun x xs S R => ∃ k, x = .l k ∧ ∃ ds, S[k]? = some ds ∧ arg1 xs fun y => ∃ es, asLs S y = some es ∧ ds.length + es.length ≤ 1000 ∧ R (.d .none) (S.set k (ds ++ es))
theorem rm_extend : RM rExtend dExtend := fun h o H S x v xs vs R Q hs hx hxs q c => by
  obtain ⟨k, rfl, ds, e, q1⟩ := q
  obtain ⟨y, rfl, es, ey, hl, q3⟩ := arg1_ex q1
  obtain ⟨a, ea, rfl⟩ := hx
  obtain ⟨u, rfl, hu⟩ := hxs1 hxs
  obtain ⟨ws, ew, l⟩ := hs.cont k a ds ea e
  obtain ⟨b, zs, rfl, eb, lb⟩ := hx_lst hs ey hu
  exact ⟨a, b, ws, zs, rfl, rfl, ew, eb, by rw [l.length, lb.length]; exact Nat.le_of_lt (small1000 hl), c o _ _ (.d .none) _ (Ex.upd ea) (hs.upd ea (l.append lb)) xN q3⟩
/-! ### calls of defs -/
abbrev P1 := XV → Sto → RX → Prop
abbrev P2 := XV → XV → Sto → RX → Prop
abbrev P3 := XV → XV → XV → Sto → RX → Prop
abbrev P4 := XV → XV → XV → XV → Sto → RX → Prop
def lf1 (q : P1) : V → Hp → VK → Prop := fun v H Q => ∃ h o S x R, RepS h o H S ∧ HasX h o H x v ∧ q x S R ∧ Cn h o H R Q
def lf2 (q : P2) : V → V → Hp → VK → Prop := fun v u H Q => ∃ h o S x y R, RepS h o H S ∧ HasX h o H x v ∧ HasX h o H y u ∧ q x y S R ∧ Cn h o H R Q
def lf3 (q : P3) : V → V → V → Hp → VK → Prop := fun v u w H Q => ∃ h o S x y z R, RepS h o H S ∧ HasX h o H x v ∧ HasX h o H y u ∧ HasX h o H z w ∧ q x y z S R ∧ Cn h o H R Q
def lf4 (q : P4) : V → V → V → V → Hp → VK → Prop := fun v u w t H Q => ∃ h o S x y z a R, RepS h o H S ∧ HasX h o H x v ∧ HasX h o H y u ∧ HasX h o H z w ∧ HasX h o H a t ∧ q x y z a S R ∧ Cn h o H R Q
/-- a def that gets data alone: what it may tell -/
def ret0 (S : Sto) (R : RX) : RX := fun y S' => match y, S' with
  | .d d, [] => R (.d d) S
  | .l 0, [ds] => R (.l S.length) (S ++ [ds])
  | _, _ => False
/-- a def that gets the tracked list k as its first one -/
def retP (k : Nat) (S : Sto) (R : RX) : RX := fun y S' => match y, S' with
  | .d d, [p] => R (.d d) (S.set k p)
  | .l 1, [p, ds] => R (.l S.length) (S.set k p ++ [ds])
  | _, _ => False
section
variable {h o : List Addr} {H : Hp} {S : Sto} {R : RX} {Q : VK}
theorem vx_eq {h o h' o' : List Addr} {H : Hp} (e : ∀ b, (b ∈ h' ∨ b ∈ o') ↔ (b ∈ h ∨ b ∈ o)) : vx h' o' H = vx h o H := by
  funext b
  have iff : ∀ u, vx h' o' H b = some u ↔ vx h o H b = some u := fun u => by
    rw [vx_iff, vx_iff]
    have := e b
    constructor
    · rintro ⟨a1, a2, a3⟩
      exact ⟨fun m => (this.mpr (.inl m)).elim a1 a2, fun m => (this.mpr (.inr m)).elim a1 a2, a3⟩
    · rintro ⟨a1, a2, a3⟩
      exact ⟨fun m => (this.mp (.inl m)).elim a1 a2, fun m => (this.mp (.inr m)).elim a1 a2, a3⟩
  cases e1 : vx h' o' H b with
  | some u => exact ((iff u).mp e1).symm
  | none =>
    cases e2 : vx h o H b with
    | none => rfl
    | some u => rw [(iff u).mpr e2] at e1; cases e1
theorem rep0 (hs : RepS h o H S) : RepS (h ++ o) [] H [] where
  len := rfl
  nd := List.nodup_nil
  dis := fun a ha => by cases ha
  hal := fun b hb => (List.mem_append.mp hb).elim (hs.hal b) (hs.oal b)
  cont := fun k a ds e => by simp at e
theorem hx0 {d : PyData} {v : V} (hx : HasX h o H (.d d) v) : HasX (h ++ o) [] H (.d d) v := by
  show Has (vx (h ++ o) [] H) d v
  rw [vx_eq (h := h) (o := o) fun b => by simp]
  exact hx
theorem hx0' {d : PyData} {v : V} (hx : HasX (h ++ o) [] H (.d d) v) : HasX h o H (.d d) v := by
  show Has (vx h o H) d v
  rw [← vx_eq (h' := h ++ o) (o' := []) (h := h) (o := o) fun b => by simp]
  exact hx
theorem cn0 (hs : RepS h o H S) (c : Cn h o H R Q) : Cn (h ++ o) [] H (ret0 S R) Q := fun o' H' S' y v e s' hy q => by
  have sm : Same H (vx [] o' H') := fun b u eb => by
    obtain ⟨a1, a2⟩ := e.kp b u (by simp) eb
    exact vx_iff.mpr ⟨by simp, a1, a2⟩
  have sH : Same H H' := fun b u eb => (vx_iff.mp (sm b u eb)).2.2
  unfold ret0 at q
  split at q
  · have e0 : o' = [] := List.eq_nil_of_length_eq_zero s'.len.symm
    subst e0
    exact c o H' S _ v (Ex.of_same sH) (hs.same sH) (hx0' hy) q
  · rename_i ds
    obtain ⟨a, rfl⟩ : ∃ a, o' = [a] := List.length_eq_one_iff.mp s'.len.symm
    obtain ⟨a', ea, rfl⟩ := hy
    cases ea
    obtain ⟨vs, ev, l⟩ := s'.cont 0 a ds rfl rfl
    have na : a ∉ h ++ o := s'.dis a (by simp)
    have hn : H a = none := by
      cases eh : H a with
      | none => rfl
      | some u => exact absurd (e.kp a u (by simp) eh).1 (by simp)
    have e2 : Ex o H (o ++ [a]) H' := ⟨⟨[a], rfl⟩, fun b u hb eb => by
      obtain ⟨a1, a2⟩ := e.kp b u (by simp) eb
      exact ⟨by simp only [List.mem_append, not_or]; exact ⟨hb, a1⟩, a2⟩⟩
    have ev' : vx (h ++ o) [a] H' = vx h (o ++ [a]) H' := vx_eq fun b => by simp [or_assoc]
    rw [ev'] at l
    refine c (o ++ [a]) H' (S ++ [ds]) (.l S.length) _ e2 ⟨by simp [hs.len], nodup_snoc hs.nd fun m => na (List.mem_append_right _ m), fun b hb => ?_, fun b hb => ?_, fun k b es q1 q2 => ?_⟩ ⟨a, by rw [hs.len, List.getElem?_concat_length], rfl⟩ q
    · rcases List.mem_append.mp hb with hb | hb
      · exact hs.dis b hb
      · rw [List.mem_singleton.mp hb]; exact fun m => na (List.mem_append_left _ m)
    · obtain ⟨u, eb⟩ := hs.hal b hb
      exact ⟨u, sH b _ eb⟩
    · by_cases hk : k < o.length
      · rw [List.getElem?_append_left hk] at q1
        rw [List.getElem?_append_left (by rw [hs.len]; exact hk)] at q2
        obtain ⟨ws, e3, l3⟩ := hs.cont k b es q1 q2
        exact ⟨ws, sH _ _ e3, l3.mono e2.vx⟩
      · have hk' : k = o.length := by
          obtain ⟨q, _⟩ := List.getElem?_eq_some_iff.mp q1
          rw [List.length_append, List.length_singleton] at q
          omega
        subst hk'
        rw [List.getElem?_concat_length] at q1
        rw [← hs.len, List.getElem?_concat_length] at q2
        cases q1
        cases q2
        exact ⟨vs, ev, l⟩
  · exact q.elim
/-- the tracked list k alone -/
theorem repP {k : Nat} {a : Addr} {p : List PyData} (hs : RepS h o H S) (ea : o[k]? = some a) (ep : S[k]? = some p) : RepS (h ++ o.filter (fun b => b ≠ a)) [a] H [p] where
  len := rfl
  nd := by simp
  dis := fun b hb => by
    rw [List.mem_singleton.mp hb]
    intro m
    rcases List.mem_append.mp m with m | m
    · exact hs.dis a (List.mem_of_getElem? ea) m
    · have := (List.mem_filter.mp m).2
      simp at this
  hal := fun b hb => (List.mem_append.mp hb).elim (hs.hal b) fun m => hs.oal b (List.mem_filter.mp m).1
  cont := fun j b ds e1 e2 => by
    cases j with
    | succ j => simp at e1
    | zero =>
      cases e1
      cases e2
      obtain ⟨vs, e3, l⟩ := hs.cont k a p ea ep
      refine ⟨vs, e3, ?_⟩
      rw [vx_eq (h := h) (o := o) (mem_pen ea)]
      exact l
where
  mem_pen {h o : List Addr} {k : Nat} {a : Addr} (ea : o[k]? = some a) (b : Addr) : (b ∈ h ++ o.filter (fun b => b ≠ a) ∨ b ∈ [a]) ↔ (b ∈ h ∨ b ∈ o) := by
    have ma := List.mem_of_getElem? ea
    by_cases e : b = a
    · subst e
      simp [ma]
    · simp [e]
theorem hxP {k : Nat} {a : Addr} {d : PyData} {v : V} (ea : o[k]? = some a) (hx : HasX h o H (.d d) v) : HasX (h ++ o.filter (fun b => b ≠ a)) [a] H (.d d) v := by
  show Has (vx _ _ H) d v
  rw [vx_eq (h := h) (o := o) (repP.mem_pen ea)]
  exact hx
theorem cnP {k : Nat} {a : Addr} {p : List PyData} (hs : RepS h o H S) (ea : o[k]? = some a) (ep : S[k]? = some p) (c : Cn h o H R Q) : Cn (h ++ o.filter (fun b => b ≠ a)) [a] H (retP k S R) Q := fun o' H' S' y v e s' hy q => by
  have ma := List.mem_of_getElem? ea
  have hk : k < o.length := (List.getElem?_eq_some_iff.mp ea).1
  unfold retP at q
  split at q
  · rename_i d p'
    obtain ⟨r, rfl⟩ := e.pre
    have er : r = [] := by
      have := s'.len
      simp at this
      exact this
    subst er
    have ex : Ex o H o H' := ⟨⟨[], by simp⟩, fun b u hb eb => ⟨hb, (e.kp b u (fun m => hb (by rw [List.mem_singleton.mp m]; exact ma)) eb).2⟩⟩
    obtain ⟨vs, ev, l⟩ := s'.cont 0 a p' rfl rfl
    have ev' : vx (h ++ o.filter (fun b => b ≠ a)) ([a] ++ []) H' = vx h o H' := vx_eq (repP.mem_pen ea)
    rw [ev'] at l
    refine c o H' (S.set k p') (.d d) v ex ⟨by simp [hs.len], hs.nd, hs.dis, fun b hb => ?_, fun j b es q1 q2 => ?_⟩ (by
      have hy' : Has (vx (h ++ o.filter (fun b => b ≠ a)) ([a] ++ []) H') d v := hy
      rw [ev'] at hy'
      exact hy') q
    · obtain ⟨u, eb⟩ := hs.hal b hb
      exact ⟨u, (e.kp b _ (fun m => hs.dis a ma (by rw [← List.mem_singleton.mp m]; exact hb)) eb).2⟩
    · by_cases hj : j = k
      · subst hj
        rw [q1] at ea
        cases ea
        rw [List.getElem?_set_self (by rw [hs.len]; exact hk)] at q2
        cases q2
        exact ⟨vs, ev, l⟩
      · rw [List.getElem?_set_ne (Ne.symm hj)] at q2
        obtain ⟨ws, e3, l3⟩ := hs.cont j b es q1 q2
        have ne : b ≠ a := fun z => hj (nodup_get hs.nd q1 (z ▸ ea))
        exact ⟨ws, (e.kp b _ (by simp [ne]) e3).2, l3.mono ex.vx⟩
  · rename_i p' ds
    obtain ⟨r, rfl⟩ := e.pre
    obtain ⟨a2, rfl⟩ : ∃ a2, r = [a2] := by
      have := s'.len
      simp at this
      exact List.length_eq_one_iff.mp this
    obtain ⟨b2, eb2, rfl⟩ := hy
    cases eb2
    obtain ⟨vs, ev, l⟩ := s'.cont 0 a p' rfl rfl
    obtain ⟨vs2, ev2, l2⟩ := s'.cont 1 a2 ds rfl rfl
    have n2 : a2 ∉ h ++ o.filter (fun b => b ≠ a) := s'.dis a2 (by simp)
    have n3 : a ≠ a2 := by
      have := s'.nd
      simp at this
      exact this
    have n4 : a2 ∉ o := fun m => n2 (List.mem_append_right _ (List.mem_filter.mpr ⟨m, by simp [Ne.symm n3]⟩))
    have ex : Ex o H (o ++ [a2]) H' := ⟨⟨[a2], rfl⟩, fun b u hb eb => by
      obtain ⟨z1, z2⟩ := e.kp b u (fun m => hb (by rw [List.mem_singleton.mp m]; exact ma)) eb
      refine ⟨?_, z2⟩
      simp only [List.mem_append, not_or]
      exact ⟨hb, fun m => z1 (by simp at m ⊢; exact .inr m)⟩⟩
    have ev' : vx (h ++ o.filter (fun b => b ≠ a)) ([a] ++ [a2]) H' = vx h (o ++ [a2]) H' := vx_eq fun b => by
      have := repP.mem_pen (h := h) ea b
      simp only [List.mem_append] at this ⊢
      rw [← or_assoc, this, or_assoc]
    rw [ev'] at l l2
    refine c (o ++ [a2]) H' (S.set k p' ++ [ds]) (.l S.length) _ ex ⟨by simp [hs.len], nodup_snoc hs.nd n4, fun b hb => ?_, fun b hb => ?_, fun j b es q1 q2 => ?_⟩ ⟨a2, by rw [hs.len, List.getElem?_concat_length], rfl⟩ q
    · rcases List.mem_append.mp hb with hb | hb
      · exact hs.dis b hb
      · rw [List.mem_singleton.mp hb]; exact fun m => n2 (List.mem_append_left _ m)
    · obtain ⟨u, eb⟩ := hs.hal b hb
      exact ⟨u, (e.kp b _ (fun m => hs.dis a ma (by rw [← List.mem_singleton.mp m]; exact hb)) eb).2⟩
    · by_cases hjo : j < o.length
      · rw [List.getElem?_append_left hjo] at q1
        rw [List.getElem?_append_left (by rw [List.length_set, hs.len]; exact hjo)] at q2
        by_cases hj : j = k
        · subst hj
          rw [q1] at ea
          cases ea
          rw [List.getElem?_set_self (by rw [hs.len]; exact hk)] at q2
          cases q2
          exact ⟨vs, ev, l⟩
        · rw [List.getElem?_set_ne (Ne.symm hj)] at q2
          obtain ⟨ws, e3, l3⟩ := hs.cont j b es q1 q2
          have ne : b ≠ a := fun z => hj (nodup_get hs.nd q1 (z ▸ ea))
          exact ⟨ws, (e.kp b _ (by simp [ne]) e3).2, l3.mono ex.vx⟩
      · have hk' : j = o.length := by
          obtain ⟨q, _⟩ := List.getElem?_eq_some_iff.mp q1
          rw [List.length_append, List.length_singleton] at q
          omega
        subst hk'
        rw [List.getElem?_concat_length] at q1
        rw [← hs.len, ← List.length_set (i := k) (a := p'), List.getElem?_concat_length] at q2
        cases q1
        cases q2
        exact ⟨vs2, ev2, l2⟩
  · exact q.elim
end
/-- all arguments data -/
def dF1 (q : P1) (a : DE) : DE := fun δ S R => a δ S fun x S1 => asD x fun d => q (.d d) [] (ret0 S1 R)
def dF2 (q : P2) (a b : DE) : DE := fun δ S R => a δ S fun x S1 => b δ S1 fun y S2 => asD x fun d => asD y fun e => q (.d d) (.d e) [] (ret0 S2 R)
def dF3 (q : P3) (a b c : DE) : DE := fun δ S R => a δ S fun x S1 => b δ S1 fun y S2 => c δ S2 fun z S3 => asD x fun d => asD y fun e => asD z fun f => q (.d d) (.d e) (.d f) [] (ret0 S3 R)
def dF4 (q : P4) (a b c g : DE) : DE := fun δ S R => a δ S fun x S1 => b δ S1 fun y S2 => c δ S2 fun z S3 => g δ S3 fun w S4 => asD x fun d => asD y fun e => asD z fun f => asD w fun i => q (.d d) (.d e) (.d f) (.d i) [] (ret0 S4 R)
/-- the tracked list first, last -/
def asK (S : Sto) (x : XV) (k : Nat → List PyData → Prop) : Prop := match x with
  | .l j => ∃ p, S[j]? = some p ∧ k j p
  | _ => False
theorem asK_ex {S : Sto} {x : XV} {k : Nat → List PyData → Prop} (h : asK S x k) : ∃ j p, x = .l j ∧ S[j]? = some p ∧ k j p := by
  unfold asK at h
  split at h
  · obtain ⟨p, e, q⟩ := h
    exact ⟨_, p, rfl, e, q⟩
  · exact h.elim
def dP1 (q : P1) (a : DE) : DE := fun δ S R => a δ S fun x S1 => asK S1 x fun k p => q (.l 0) [p] (retP k S1 R)
def dP2 (q : P2) (a b : DE) : DE := fun δ S R => a δ S fun x S1 => b δ S1 fun y S2 => asK S2 x fun k p => asD y fun e => q (.l 0) (.d e) [p] (retP k S2 R)
def dP2' (q : P2) (a b : DE) : DE := fun δ S R => a δ S fun x S1 => b δ S1 fun y S2 => asD x fun d => asK S2 y fun k p => q (.d d) (.l 0) [p] (retP k S2 R)
def dP3 (q : P3) (a b c : DE) : DE := fun δ S R => a δ S fun x S1 => b δ S1 fun y S2 => c δ S2 fun z S3 => asK S3 x fun k p => asD y fun e => asD z fun f => q (.l 0) (.d e) (.d f) [p] (retP k S3 R)
def dP3' (q : P3) (a b c : DE) : DE := fun δ S R => a δ S fun x S1 => b δ S1 fun y S2 => c δ S2 fun z S3 => asD x fun d => asD y fun e => asK S3 z fun k p => q (.d d) (.d e) (.l 0) [p] (retP k S3 R)
def dP4 (q : P4) (a b c g : DE) : DE := fun δ S R => a δ S fun x S1 => b δ S1 fun y S2 => c δ S2 fun z S3 => g δ S3 fun w S4 => asK S4 x fun k p => asD y fun e => asD z fun f => asD w fun i => q (.l 0) (.d e) (.d f) (.d i) [p] (retP k S4 R)
section
variable {ta tb tc td : TE} {da db dc dd : DE}
theorem re_f1 {q : P1} (ha : RE ta da) : RE (tC1 (lf1 q) ta) (dF1 q da) := fun h o H δ σ S R Q he hs w c =>
  ha h o H δ σ S _ _ he hs w fun o1 H1 S1 x v e1 s1 x1 d1 => by
    replace d1 := asD_ex d1
    obtain ⟨d, rfl, d1⟩ := d1
    exact ⟨h ++ o1, [], [], _, _, rep0 s1, hx0 x1, d1, cn0 s1 (c.pre e1)⟩
theorem re_f2 {q : P2} (ha : RE ta da) (hb : RE tb db) : RE (tC2 (lf2 q) ta tb) (dF2 q da db) := fun h o H δ σ S R Q he hs w c =>
  ha h o H δ σ S _ _ he hs w fun o1 H1 S1 x v e1 s1 x1 d1 => hb h o1 H1 δ σ S1 _ _ (he.mono e1) s1 d1 fun o2 H2 S2 y u e2 s2 y2 d2 => by
    replace d2 := asD_ex d2
    obtain ⟨d, rfl, d2⟩ := d2
    replace d2 := asD_ex d2
    obtain ⟨e, rfl, d2⟩ := d2
    exact ⟨h ++ o2, [], [], _, _, _, rep0 s2, hx0 (x1.mono e2), hx0 y2, d2, cn0 s2 (c.pre (e1.trans e2))⟩
theorem re_f3 {q : P3} (ha : RE ta da) (hb : RE tb db) (hc : RE tc dc) : RE (tC3 (lf3 q) ta tb tc) (dF3 q da db dc) := fun h o H δ σ S R Q he hs w c =>
  ha h o H δ σ S _ _ he hs w fun o1 H1 S1 x v e1 s1 x1 d1 => hb h o1 H1 δ σ S1 _ _ (he.mono e1) s1 d1 fun o2 H2 S2 y u e2 s2 y2 d2 => hc h o2 H2 δ σ S2 _ _ ((he.mono e1).mono e2) s2 d2 fun o3 H3 S3 z t e3 s3 z3 d3 => by
    replace d3 := asD_ex d3
    obtain ⟨d, rfl, d3⟩ := d3
    replace d3 := asD_ex d3
    obtain ⟨e, rfl, d3⟩ := d3
    replace d3 := asD_ex d3
    obtain ⟨f, rfl, d3⟩ := d3
    exact ⟨h ++ o3, [], [], _, _, _, _, rep0 s3, hx0 (x1.mono (e2.trans e3)), hx0 (y2.mono e3), hx0 z3, d3, cn0 s3 (c.pre ((e1.trans e2).trans e3))⟩
theorem re_f4 {q : P4} (ha : RE ta da) (hb : RE tb db) (hc : RE tc dc) (hd : RE td dd) : RE (tC4 (lf4 q) ta tb tc td) (dF4 q da db dc dd) := fun h o H δ σ S R Q he hs w c =>
  ha h o H δ σ S _ _ he hs w fun o1 H1 S1 x v e1 s1 x1 d1 => hb h o1 H1 δ σ S1 _ _ (he.mono e1) s1 d1 fun o2 H2 S2 y u e2 s2 y2 d2 => hc h o2 H2 δ σ S2 _ _ ((he.mono e1).mono e2) s2 d2 fun o3 H3 S3 z t e3 s3 z3 d3 =>
    hd h o3 H3 δ σ S3 _ _ (((he.mono e1).mono e2).mono e3) s3 d3 fun o4 H4 S4 a k e4 s4 a4 d4 => by
      replace d4 := asD_ex d4
      obtain ⟨d, rfl, d4⟩ := d4
      replace d4 := asD_ex d4
      obtain ⟨e, rfl, d4⟩ := d4
      replace d4 := asD_ex d4
      obtain ⟨f, rfl, d4⟩ := d4
      replace d4 := asD_ex d4
      obtain ⟨i, rfl, d4⟩ := d4
      exact ⟨h ++ o4, [], [], _, _, _, _, _, rep0 s4, hx0 (x1.mono ((e2.trans e3).trans e4)), hx0 (y2.mono (e3.trans e4)), hx0 (z3.mono e4), hx0 a4, d4, cn0 s4 (c.pre (((e1.trans e2).trans e3).trans e4))⟩
theorem re_p1 {q : P1} (ha : RE ta da) : RE (tC1 (lf1 q) ta) (dP1 q da) := fun h o H δ σ S R Q he hs w c =>
  ha h o H δ σ S _ _ he hs w fun o1 H1 S1 x v e1 s1 x1 d1 => by
    replace d1 := asK_ex d1
    obtain ⟨k, p, rfl, ep, d1⟩ := d1
    obtain ⟨a, ea, rfl⟩ := x1
    exact ⟨_, [a], [p], .l 0, _, repP s1 ea ep, ⟨a, rfl, rfl⟩, d1, cnP s1 ea ep (c.pre e1)⟩
theorem re_p2 {q : P2} (ha : RE ta da) (hb : RE tb db) : RE (tC2 (lf2 q) ta tb) (dP2 q da db) := fun h o H δ σ S R Q he hs w c =>
  ha h o H δ σ S _ _ he hs w fun o1 H1 S1 x v e1 s1 x1 d1 => hb h o1 H1 δ σ S1 _ _ (he.mono e1) s1 d1 fun o2 H2 S2 y u e2 s2 y2 d2 => by
    replace d2 := asK_ex d2
    obtain ⟨k, p, rfl, ep, d2⟩ := d2
    replace d2 := asD_ex d2
    obtain ⟨e, rfl, d2⟩ := d2
    obtain ⟨a, ea, rfl⟩ := x1.mono e2
    exact ⟨_, [a], [p], .l 0, _, _, repP s2 ea ep, ⟨a, rfl, rfl⟩, hxP ea y2, d2, cnP s2 ea ep (c.pre (e1.trans e2))⟩
theorem re_p2' {q : P2} (ha : RE ta da) (hb : RE tb db) : RE (tC2 (lf2 q) ta tb) (dP2' q da db) := fun h o H δ σ S R Q he hs w c =>
  ha h o H δ σ S _ _ he hs w fun o1 H1 S1 x v e1 s1 x1 d1 => hb h o1 H1 δ σ S1 _ _ (he.mono e1) s1 d1 fun o2 H2 S2 y u e2 s2 y2 d2 => by
    replace d2 := asD_ex d2
    obtain ⟨d, rfl, d2⟩ := d2
    replace d2 := asK_ex d2
    obtain ⟨k, p, rfl, ep, d2⟩ := d2
    obtain ⟨a, ea, rfl⟩ := y2
    exact ⟨_, [a], [p], _, .l 0, _, repP s2 ea ep, hxP ea (x1.mono e2), ⟨a, rfl, rfl⟩, d2, cnP s2 ea ep (c.pre (e1.trans e2))⟩
theorem re_p3 {q : P3} (ha : RE ta da) (hb : RE tb db) (hc : RE tc dc) : RE (tC3 (lf3 q) ta tb tc) (dP3 q da db dc) := fun h o H δ σ S R Q he hs w c =>
  ha h o H δ σ S _ _ he hs w fun o1 H1 S1 x v e1 s1 x1 d1 => hb h o1 H1 δ σ S1 _ _ (he.mono e1) s1 d1 fun o2 H2 S2 y u e2 s2 y2 d2 => hc h o2 H2 δ σ S2 _ _ ((he.mono e1).mono e2) s2 d2 fun o3 H3 S3 z t e3 s3 z3 d3 => by
    replace d3 := asK_ex d3
    obtain ⟨k, p, rfl, ep, d3⟩ := d3
    replace d3 := asD_ex d3
    obtain ⟨e, rfl, d3⟩ := d3
    replace d3 := asD_ex d3
    obtain ⟨f, rfl, d3⟩ := d3
    obtain ⟨a, ea, rfl⟩ := x1.mono (e2.trans e3)
    exact ⟨_, [a], [p], .l 0, _, _, _, repP s3 ea ep, ⟨a, rfl, rfl⟩, hxP ea (y2.mono e3), hxP ea z3, d3, cnP s3 ea ep (c.pre ((e1.trans e2).trans e3))⟩
theorem re_p3' {q : P3} (ha : RE ta da) (hb : RE tb db) (hc : RE tc dc) : RE (tC3 (lf3 q) ta tb tc) (dP3' q da db dc) := fun h o H δ σ S R Q he hs w c =>
  ha h o H δ σ S _ _ he hs w fun o1 H1 S1 x v e1 s1 x1 d1 => hb h o1 H1 δ σ S1 _ _ (he.mono e1) s1 d1 fun o2 H2 S2 y u e2 s2 y2 d2 => hc h o2 H2 δ σ S2 _ _ ((he.mono e1).mono e2) s2 d2 fun o3 H3 S3 z t e3 s3 z3 d3 => by
    replace d3 := asD_ex d3
    obtain ⟨d, rfl, d3⟩ := d3
    replace d3 := asD_ex d3
    obtain ⟨e, rfl, d3⟩ := d3
    replace d3 := asK_ex d3
    obtain ⟨k, p, rfl, ep, d3⟩ := d3
    obtain ⟨a, ea, rfl⟩ := z3
    exact ⟨_, [a], [p], _, _, .l 0, _, repP s3 ea ep, hxP ea (x1.mono (e2.trans e3)), hxP ea (y2.mono e3), ⟨a, rfl, rfl⟩, d3, cnP s3 ea ep (c.pre ((e1.trans e2).trans e3))⟩
theorem re_p4 {q : P4} (ha : RE ta da) (hb : RE tb db) (hc : RE tc dc) (hd : RE td dd) : RE (tC4 (lf4 q) ta tb tc td) (dP4 q da db dc dd) := fun h o H δ σ S R Q he hs w c =>
  ha h o H δ σ S _ _ he hs w fun o1 H1 S1 x v e1 s1 x1 d1 => hb h o1 H1 δ σ S1 _ _ (he.mono e1) s1 d1 fun o2 H2 S2 y u e2 s2 y2 d2 => hc h o2 H2 δ σ S2 _ _ ((he.mono e1).mono e2) s2 d2 fun o3 H3 S3 z t e3 s3 z3 d3 =>
    hd h o3 H3 δ σ S3 _ _ (((he.mono e1).mono e2).mono e3) s3 d3 fun o4 H4 S4 a' k' e4 s4 a4 d4 => by
      replace d4 := asK_ex d4
      obtain ⟨k, p, rfl, ep, d4⟩ := d4
      replace d4 := asD_ex d4
      obtain ⟨e, rfl, d4⟩ := d4
      replace d4 := asD_ex d4
      obtain ⟨f, rfl, d4⟩ := d4
      replace d4 := asD_ex d4
      obtain ⟨i, rfl, d4⟩ := d4
      obtain ⟨a, ea, rfl⟩ := x1.mono ((e2.trans e3).trans e4)
      exact ⟨_, [a], [p], .l 0, _, _, _, _, repP s4 ea ep, ⟨a, rfl, rfl⟩, hxP ea (y2.mono (e3.trans e4)), hxP ea (z3.mono e4), hxP ea a4, d4, cnP s4 ea ep (c.pre (((e1.trans e2).trans e3).trans e4))⟩
end
/-! ### targets and statements -/
structure DEnds where
  nx : XE → Sto → Prop
  rt : RX
  bk : XE → Sto → Prop := fun _ _ => False
  ct : XE → Sto → Prop := fun _ _ => False
abbrev DS := DEnds → XE → Sto → Prop
abbrev DG := XV → XE → Sto → (XE → Sto → Prop) → Prop
abbrev DGs := List PyData → XE → Sto → (XE → Sto → Prop) → Prop
def Nx (h o : List Addr) (H : Hp) (N : XE → Sto → Prop) (M : St → Hp → Prop) : Prop := ∀ o' H' δ' S' σ', Ex o H o' H' → RepE h o' H' δ' σ' → RepS h o' H' S' → N δ' S' → M σ' H'
theorem Nx.pre {h o o' : List Addr} {H H' : Hp} {N : XE → Sto → Prop} {M : St → Hp → Prop} (c : Nx h o H N M) (e : Ex o H o' H') : Nx h o' H' N M := fun o2 H2 δ2 S2 σ2 e2 => c o2 H2 δ2 S2 σ2 (e.trans e2)
structure EOk (h o : List Addr) (H : Hp) (E : DEnds) (D : Ends) : Prop where
  nx : Nx h o H E.nx D.nx
  rt : Cn h o H E.rt D.rt
  bk : Nx h o H E.bk D.bk
  ct : Nx h o H E.ct D.ct
theorem EOk.pre {h o o' : List Addr} {H H' : Hp} {E : DEnds} {D : Ends} (c : EOk h o H E D) (e : Ex o H o' H') : EOk h o' H' E D := ⟨c.nx.pre e, c.rt.pre e, c.bk.pre e, c.ct.pre e⟩
def RS (t : TS) (dt : DS) : Prop := ∀ (h o : List Addr) (H : Hp) (δ : XE) (σ : St) (S : Sto) (E : DEnds) (D : Ends), RepE h o H δ σ → RepS h o H S → dt E δ S → EOk h o H E D → t D σ H
def RG (t : TG) (dt : DG) : Prop := ∀ (h o : List Addr) (H : Hp) (δ : XE) (σ : St) (S : Sto) (x : XV) (v : V) (N : XE → Sto → Prop) (M : St → Hp → Prop), RepE h o H δ σ → RepS h o H S → HasX h o H x v → dt x δ S N → Nx h o H N M → t v σ H M
def RGs (t : TGs) (dt : DGs) : Prop := ∀ (h o : List Addr) (H : Hp) (δ : XE) (σ : St) (S : Sto) (ds : List PyData) (vs : List V) (N : XE → Sto → Prop) (M : St → Hp → Prop), RepE h o H δ σ → RepS h o H S → HasL (vx h o H) ds vs → dt ds δ S N → Nx h o H N M → t vs σ H M
def dgName (i : Nat) : DG := fun x δ S N => N (δ.set i (some x)) S
def dgNil : DGs := fun ds δ S N => ds = [] ∧ N δ S
def hdD : List PyData → (PyData → List PyData → Prop) → Prop
  | d :: es, k => k d es
  | [], _ => False
theorem hdD_ex {ds : List PyData} {k : PyData → List PyData → Prop} (h : hdD ds k) : ∃ d es, ds = d :: es ∧ k d es := by
  cases ds with
  | nil => exact h.elim
  | cons d es => exact ⟨d, es, rfl, h⟩
theorem hdD_c {d : PyData} {es : List PyData} {k : PyData → List PyData → Prop} : hdD (d :: es) k = k d es := rfl
def dgCons (g : DG) (r : DGs) : DGs := fun ds δ S N => hdD ds fun d es => g (.d d) δ S fun δ' S' => r es δ' S' N
def dgTup (n : Nat) (r : DGs) : DG := fun x δ S N => asT x fun ds => ds.length = n ∧ r ds δ S N
def dgSet (a b : DE) : DG := fun x δ S N => a δ S fun y S1 => b δ S1 fun z S2 => asD x fun d => ∃ k, y = .l k ∧ ∃ ds, S2[k]? = some ds ∧ asI z fun i => ∃ j, ixN ds.length i = some j ∧ N δ (S2.set k (ds.set j d))
theorem rg_name {i : Nat} : RG (gName i) (dgName i) := fun h o H δ σ S x v N M he hs hx q c => c o H _ S _ Ex.refl (he.set hx) hs q
theorem rgs_nil : RGs gNil dgNil := fun h o H δ σ S ds vs N M he hs l ⟨e, q⟩ c => by
  subst e
  exact ⟨hasL_nil.mp l, c o H δ S σ Ex.refl he hs q⟩
theorem rgs_cons {t : TG} {u : TGs} {g : DG} {r : DGs} (h1 : RG t g) (h2 : RGs u r) : RGs (gCons t u) (dgCons g r) := fun h o H δ σ S ds vs N M he hs l q0 c => by
  obtain ⟨d, es, rfl, q⟩ := hdD_ex q0
  obtain ⟨v, ws, rfl, hv, l⟩ := hasL_cons.mp l
  exact ⟨v, ws, rfl, h1 h o H δ σ S (.d d) v _ _ he hs hv q fun o1 H1 δ1 S1 σ1 e1 he1 hs1 q1 => h2 h o1 H1 δ1 σ1 S1 es ws N M he1 hs1 (l.mono e1.vx) q1 (c.pre e1)⟩
theorem rg_tup {K : PySem.W.Frag} {n : Nat} {t : TGs} {r : DGs} (h1 : RGs t r) : RG (gTup K n t) (dgTup n r) := fun h o H δ σ S x v N M he hs hx q c => by
  replace q := asT_ex q
  obtain ⟨ds, rfl, hn, q⟩ := q
  obtain ⟨a, vs, rfl, ea, l⟩ := hx_tup hx
  exact ⟨a, vs, rfl, .of ea, by rw [l.length]; exact hn, h1 h o H δ σ S ds vs N M he hs l q c⟩
theorem HasL.setAt {H : Hp} : ∀ {ds : List PyData} {vs : List V} {j : Nat} {d : PyData} {v : V}, HasL H ds vs → Has H d v → HasL H (ds.set j d) (vs.set j v)
  | [], vs, j, d, v, l, _ => by rw [hasL_nil.mp l]; exact hasL_nil.mpr rfl
  | c :: ds, vs, 0, d, v, l, q => by
    obtain ⟨u, r, rfl, _, l⟩ := hasL_cons.mp l
    exact hasL_cons.mpr ⟨v, r, rfl, q, l⟩
  | c :: ds, vs, j + 1, d, v, l, q => by
    obtain ⟨u, r, rfl, hu, l⟩ := hasL_cons.mp l
    exact hasL_cons.mpr ⟨u, r.set j v, rfl, hu, HasL.setAt l q⟩
theorem rg_set {ta tb : TE} {da db : DE} (ha : RE ta da) (hb : RE tb db) : RG (gSub ta tb rSetL) (dgSet da db) := fun h o H δ σ S x v N M he hs hx q c =>
  ha h o H δ σ S _ _ he hs q fun o1 H1 S1 y u e1 s1 y1 d1 => hb h o1 H1 δ σ S1 _ _ (he.mono e1) s1 d1 fun o2 H2 S2 z w e2 s2 z2 d0 => by
    obtain ⟨d, rfl, k, rfl, ds, es, d2⟩ := asD_ex d0
    replace d2 := asI_ex d2
    obtain ⟨i, rfl, j, ej, d2⟩ := d2
    obtain ⟨a, ea, rfl⟩ := y1.mono e2
    obtain ⟨ws, ew, l⟩ := s2.cont k a ds ea es
    refine ⟨a, ws, i, j, rfl, hx_int z2, ew, by rw [l.length]; exact ej, ?_⟩
    exact c o2 _ δ _ σ ((e1.trans e2).trans (Ex.upd ea)) (((he.mono e1).mono e2).mono (Ex.upd ea)) (s2.upd ea (l.setAt (hx.mono (e1.trans e2)))) d2
def dNext : DS := fun E δ S => E.nx δ S
def dSeq (t u : DS) : DS := fun E δ S => t { E with nx := u E } δ S
def dAsg (e : DE) (g : DG) : DS := fun E δ S => e δ S fun x S1 => g x δ S1 E.nx
def dDrop (e : DE) : DS := fun E δ S => e δ S fun _ S1 => E.nx δ S1
def dRet (e : DE) : DS := fun E δ S => e δ S E.rt
def dRetN : DS := fun E _ S => E.rt (.d .none) S
def dIfS (c : DT) (t u : DS) : DS := fun E δ S => c δ S fun b S1 => if b = true then t E δ S1 else u E δ S1
def dBreak : DS := fun E δ S => E.bk δ S
def dCont : DS := fun E δ S => E.ct δ S
section
variable {t u : TS} {dt du : DS} {te : TE} {de : DE}
theorem rs_next : RS tNext dNext := fun h o H δ σ S E D he hs q c => c.nx o H δ S σ Ex.refl he hs q
theorem rs_break : RS tBreak dBreak := fun h o H δ σ S E D he hs q c => c.bk o H δ S σ Ex.refl he hs q
theorem rs_cont : RS tCont dCont := fun h o H δ σ S E D he hs q c => c.ct o H δ S σ Ex.refl he hs q
theorem rs_seq (ht : RS t dt) (hu : RS u du) : RS (tSeq t u) (dSeq dt du) := fun h o H δ σ S E D he hs q c =>
  ht h o H δ σ S _ _ he hs q ⟨fun o1 H1 δ1 S1 σ1 e1 he1 hs1 q1 => hu h o1 H1 δ1 σ1 S1 E D he1 hs1 q1 (c.pre e1), c.rt, c.bk, c.ct⟩
theorem rs_asg {g : TG} {dg : DG} (he' : RE te de) (hg : RG g dg) : RS (tAsg te g) (dAsg de dg) := fun h o H δ σ S E D he hs q c =>
  he' h o H δ σ S _ _ he hs q fun o1 H1 S1 x v e1 s1 x1 d1 => hg h o1 H1 δ σ S1 x v _ _ (he.mono e1) s1 x1 d1 (c.nx.pre e1)
theorem rs_drop (he' : RE te de) : RS (tDrop te) (dDrop de) := fun h o H δ σ S E D he hs q c =>
  he' h o H δ σ S _ _ he hs q fun o1 H1 S1 x v e1 s1 x1 d1 => c.nx o1 H1 δ S1 σ e1 (he.mono e1) s1 d1
theorem rs_ret (he' : RE te de) : RS (tRet te) (dRet de) := fun h o H δ σ S E D he hs q c => he' h o H δ σ S _ _ he hs q c.rt
theorem rs_retN : RS tRetN dRetN := fun h o H δ σ S E D he hs q c => c.rt o H S _ _ Ex.refl hs xN q
theorem rs_if {tc : TT} {dc : DT} (hc : RT tc dc) (ht : RS t dt) (hu : RS u du) : RS (tIfS tc t u) (dIfS dc dt du) := fun h o H δ σ S E D he hs q c =>
  hc h o H δ σ S _ _ he hs q fun o1 H1 S1 b e1 s1 d1 => by
    cases b with
    | true => exact iteT (ht h o1 H1 δ σ S1 E D (he.mono e1) s1 (by simpa using d1) (c.pre e1))
    | false => exact iteF (hu h o1 H1 δ σ S1 E D (he.mono e1) s1 (by simpa using d1) (c.pre e1))
/-- the last tracked list becomes data -/
def frz (n : Nat) (ds : List PyData) : Option XV → Option XV
  | some (.l k) => if k = n then some (.d (.list ds)) else some (.l k)
  | y => y
def dFz (dt : DS) : DS := fun E δ S => dt { E with nx := fun δ' S' => ∃ S0 ds, S' = S0 ++ [ds] ∧ E.nx (δ'.map (frz S0.length ds)) S0 } δ S
end
/-! ### loops -/
abbrev DI := XE → Sto → (List PyData → Sto → Prop) → Prop
structure WalkX (h o : List Addr) (H : Hp) (J : It) (ds : List PyData) : Prop where
  stop : ∀ (i : Nat) o2 H2, Ex o H o2 H2 → ds.length ≤ i → J.stop i H2
  go : ∀ (i : Nat) d o2 H2, Ex o H o2 H2 → ds[i]? = some d → J.go i H2
  yld : ∀ (i : Nat) d o2 H2 x H3 S2, Ex o H o2 H2 → RepS h o2 H2 S2 → ds[i]? = some d → J.yld i H2 x H3 → Same H2 H3 ∧ Has (vx h o2 H3) d x
def RI (w : TI) (di : DI) : Prop := ∀ (h o : List Addr) (H : Hp) (δ : XE) (σ : St) (S : Sto) (R : List PyData → Sto → Prop) (Q : It → Hp → Prop), RepE h o H δ σ → RepS h o H S → di δ S R →
  (∀ o' H' S' ds J, Ex o H o' H' → RepS h o' H' S' → WalkX h o' H' J ds → R ds S' → Q J H') → w σ H Q
def diList (e : DE) : DI := fun δ S R => e δ S fun x S1 => ∃ ds, x = .d (.list ds) ∧ R ds S1
def diTup (e : DE) : DI := fun δ S R => e δ S fun x S1 => asT x fun ds => R ds S1
def diRng1 (a : DA) : DI := fun δ S R => a δ S fun xs S1 => arg1 xs fun x => asI x fun j => -(2 ^ 62) ≤ j ∧ j < 2 ^ 62 ∧ R (intsD 0 j.toNat) S1
def diRng2 (a : DA) : DI := fun δ S R => a δ S fun xs S1 => arg2 xs fun x y => asI x fun i => asI y fun j => (-(2 ^ 62) ≤ i ∧ i < 2 ^ 62 ∧ -(2 ^ 62) ≤ j ∧ j < 2 ^ 62) ∧ R (intsD i (j - i).toNat) S1
theorem ri_list {K : PySem.W.Frag} {te : TE} {de : DE} (he' : RE te de) : RI (iList K te) (diList de) := fun h o H δ σ S R Q he hs q c =>
  he' h o H δ σ S _ _ he hs q fun o1 H1 S1 x v e1 s1 x1 ⟨ds, ex, d1⟩ => by
    subst ex
    obtain ⟨a, vs, rfl, ea, l⟩ := has_list.mp (show Has _ _ _ from x1)
    have hl := l.length
    refine ⟨a, rfl, ⟨vs, .of (vx_full _ _ ea)⟩, c o1 H1 S1 ds _ e1 s1 ⟨fun i o2 H2 e2 hi => ⟨vs, .of (vx_full _ _ (e2.vx _ _ ea)), by omega⟩, fun i d o2 H2 e2 hi => ?_, fun i d o2 H2 x H3 S2 e2 s2 hi y => ?_⟩ d1⟩
    · obtain ⟨v, ev, _⟩ := l.get hi
      exact ⟨vs, v, .of (vx_full _ _ (e2.vx _ _ ea)), ev⟩
    · obtain ⟨v, ev, hv⟩ := l.get hi
      have e3 : H3 = H2 := y.1
      subst e3
      have ex := y.2 vs (.of (vx_full _ _ (e2.vx _ _ ea)))
      rw [ev] at ex
      cases ex
      exact ⟨Same.refl _, hv.mono e2.vx⟩
theorem ri_tup {K : PySem.W.Frag} {te : TE} {de : DE} (he' : RE te de) : RI (iTup K te) (diTup de) := fun h o H δ σ S R Q he hs q c =>
  he' h o H δ σ S _ _ he hs q fun o1 H1 S1 x v e1 s1 x1 d1 => by
    replace d1 := asT_ex d1
    obtain ⟨ds, rfl, d1⟩ := d1
    obtain ⟨a, vs, rfl, ea, l⟩ := has_tuple.mp (show Has _ _ _ from x1)
    have hl := l.length
    refine ⟨a, rfl, ⟨vs, .of (vx_full _ _ ea)⟩, c o1 H1 S1 ds _ e1 s1 ⟨fun i o2 H2 e2 hi => ⟨vs, .of (vx_full _ _ (e2.vx _ _ ea)), by omega⟩, fun i d o2 H2 e2 hi => ?_, fun i d o2 H2 x H3 S2 e2 s2 hi y => ?_⟩ d1⟩
    · obtain ⟨v, ev, _⟩ := l.get hi
      exact ⟨vs, v, .of (vx_full _ _ (e2.vx _ _ ea)), ev⟩
    · obtain ⟨v, ev, hv⟩ := l.get hi
      have e3 : H3 = H2 := y.1
      subst e3
      have ex := y.2 vs (.of (vx_full _ _ (e2.vx _ _ ea)))
      rw [ev] at ex
      cases ex
      exact ⟨Same.refl _, hv.mono e2.vx⟩
theorem walkX_rng {h o : List Addr} {H : Hp} {lo : Int} {n : Nat} : WalkX h o H (Itr lo n) (intsD lo n) where
  stop := fun i _ _ _ hi => by rw [intsD_length] at hi; exact hi
  go := fun i d _ _ _ hi => (intsD_get hi).1
  yld := fun i d o2 H2 x H3 S2 _ _ hi y => by
    obtain ⟨e, ex⟩ := y
    subst e ex
    rw [(intsD_get hi).2]
    exact ⟨Same.refl _, has_int.mpr rfl⟩
theorem ri_rng1 {ta : TA} {da : DA} (ha : RA ta da) : RI (iRng1 ta) (diRng1 da) := fun h o H δ σ S R Q he hs q c =>
  ha h o H δ σ S _ _ he hs q fun o1 H1 S1 xs vs e1 s1 x1 d0 => by
    obtain ⟨x, rfl, d2⟩ := arg1_ex d0
    obtain ⟨j, rfl, h1, h2, d1⟩ := asI_ex d2
    obtain ⟨v, rfl, hv⟩ := hxs1 x1
    rw [hx_int hv]
    exact ⟨j, rfl, h1, h2, c o1 H1 S1 _ _ e1 s1 walkX_rng d1⟩
theorem ri_rng2 {ta : TA} {da : DA} (ha : RA ta da) : RI (iRng2 ta) (diRng2 da) := fun h o H δ σ S R Q he hs q c =>
  ha h o H δ σ S _ _ he hs q fun o1 H1 S1 xs vs e1 s1 x1 d0 => by
    obtain ⟨x, y, rfl, d2⟩ := arg2_ex d0
    obtain ⟨i, rfl, d3⟩ := asI_ex d2
    obtain ⟨j, rfl, hb, d1⟩ := asI_ex d3
    obtain ⟨v, u, rfl, hv, hu⟩ := hxs2 x1
    rw [hx_int hv, hx_int hu]
    exact ⟨i, j, rfl, hb, c o1 H1 S1 _ _ e1 s1 walkX_rng d1⟩
def dLoop (g : DG) (b : DS) : List PyData → DS
  | [], E, δ, S => E.nx δ S
  | d :: ds, E, δ, S => g (.d d) δ S fun δ1 S1 => b { nx := fun δ2 S2 => dLoop g b ds E δ2 S2, ct := fun δ2 S2 => dLoop g b ds E δ2 S2, bk := E.nx, rt := E.rt } δ1 S1
def dFor (i : DI) (g : DG) (b : DS) : DS := fun E δ S => i δ S fun ds S1 => dLoop g b ds E δ S1
theorem rs_for {wi : TI} {g : TG} {tb : TS} {di : DI} {dg : DG} {db : DS} (hi : RI wi di) (hg : RG g dg) (hb : RS tb db) : RS (tFor wi g tb) (dFor di dg db) := fun h o H δ σ S E D he hs q c =>
  hi h o H δ σ S _ _ he hs q fun o1 H1 S1 ds J e1 s1 wk d1 => by
    refine ⟨fun i m σ2 H2 => m = ds.length - i ∧ i ≤ ds.length ∧ ∃ o2 δ2 S2, Ex o1 H1 o2 H2 ∧ RepE h o2 H2 δ2 σ2 ∧ RepS h o2 H2 S2 ∧ dLoop dg db (ds.drop i) E δ2 S2, ⟨ds.length, by simp, Nat.zero_le _, o1, δ, S1, Ex.refl, he.mono e1, s1, d1⟩, ?_⟩
    rintro i m σ2 H2 ⟨rfl, hi, o2, δ2, S2, e2, he2, hs2, d2⟩
    by_cases hlt : i < ds.length
    · have ed : ds[i]? = some ds[i] := List.getElem?_eq_getElem hlt
      rw [List.drop_eq_getElem_cons hlt] at d2
      refine .inr ⟨wk.go i _ o2 H2 e2 ed, fun σ3 H3 => ∃ o3 δ3 S3, Ex o1 H1 o3 H3 ∧ RepE h o3 H3 δ3 σ3 ∧ RepS h o3 H3 S3 ∧ dLoop dg db (ds.drop (i + 1)) E δ3 S3, fun σ3 H3 n => ⟨ds.length - (i + 1), by omega, rfl, hlt, n⟩, fun x H3 y => ?_⟩
      obtain ⟨s3, hx⟩ := wk.yld i _ o2 H2 x H3 S2 e2 hs2 ed y
      have e23 : Ex o2 H2 o2 H3 := Ex.of_same s3
      refine hg h o2 H3 δ2 σ2 S2 (.d ds[i]) x _ _ (he2.mono e23) (hs2.same s3) hx d2 fun o4 H4 δ4 S4 σ4 e4 he4 hs4 d4 => ?_
      have e14 : Ex o1 H1 o4 H4 := (e2.trans e23).trans e4
      have ce := (c.pre e1).pre e14
      exact hb h o4 H4 δ4 σ4 S4 _ _ he4 hs4 d4 ⟨fun o5 H5 δ5 S5 σ5 e5 he5 hs5 d5 => ⟨o5, δ5, S5, e14.trans e5, he5, hs5, d5⟩, ce.rt, ce.nx, fun o5 H5 δ5 S5 σ5 e5 he5 hs5 d5 => ⟨o5, δ5, S5, e14.trans e5, he5, hs5, d5⟩⟩
    · have ei : i = ds.length := by omega
      subst ei
      rw [List.drop_length] at d2
      exact .inl ⟨wk.stop _ o2 H2 e2 (Nat.le_refl _), c.nx o2 H2 δ2 S2 σ2 (e1.trans e2) he2 hs2 d2⟩
def dWhile (cd : DT) (b : DS) : DS := fun E δ S => ∃ W : Nat → XE → Sto → Prop, (∃ m, W m δ S) ∧ ∀ m δ S, W m δ S →
  cd δ S fun x S1 => if x = true then ∃ N : XE → Sto → Prop, (∀ δ' S', N δ' S' → ∃ m', m' < m ∧ W m' δ' S') ∧ b { nx := N, ct := N, bk := E.nx, rt := E.rt } δ S1 else E.nx δ S1
theorem rs_while {tc : TT} {tb : TS} {dc : DT} {db : DS} (hc : RT tc dc) (hb : RS tb db) : RS (tWhile tc tb) (dWhile dc db) := fun h o H δ σ S E D he hs ⟨W, ⟨m0, w0⟩, q⟩ c => by
  refine ⟨fun m σ2 H2 => ∃ o2 δ2 S2, Ex o H o2 H2 ∧ RepE h o2 H2 δ2 σ2 ∧ RepS h o2 H2 S2 ∧ W m δ2 S2, ⟨m0, o, δ, S, Ex.refl, he, hs, w0⟩, ?_⟩
  rintro m σ2 H2 ⟨o2, δ2, S2, e2, he2, hs2, w2⟩
  refine hc h o2 H2 δ2 σ2 S2 _ _ he2 hs2 (q m δ2 S2 w2) fun o3 H3 S3 b e3 s3 d3 => ?_
  cases b with
  | false => exact iteF (c.nx o3 H3 δ2 S3 σ2 (e2.trans e3) (he2.mono e3) s3 (by simpa using d3))
  | true =>
    refine iteT ?_
    obtain ⟨N, n1, d3⟩ : ∃ N : XE → Sto → Prop, (∀ δ' S', N δ' S' → ∃ m', m' < m ∧ W m' δ' S') ∧ db { nx := N, ct := N, bk := E.nx, rt := E.rt } δ2 S3 := by simpa using d3
    have e13 := e2.trans e3
    have ce := c.pre e13
    refine ⟨fun σ4 H4 => ∃ o4 δ4 S4, Ex o H o4 H4 ∧ RepE h o4 H4 δ4 σ4 ∧ RepS h o4 H4 S4 ∧ N δ4 S4, fun σ4 H4 ⟨o4, δ4, S4, e4, he4, hs4, n4⟩ => ?_, ?_⟩
    · obtain ⟨m', hm, w'⟩ := n1 δ4 S4 n4
      exact ⟨m', hm, o4, δ4, S4, e4, he4, hs4, w'⟩
    · exact hb h o3 H3 δ2 σ2 S3 _ _ (he2.mono e3) s3 d3 ⟨fun o5 H5 δ5 S5 σ5 e5 he5 hs5 d5 => ⟨o5, δ5, S5, e13.trans e5, he5, hs5, d5⟩, ce.rt, ce.nx, fun o5 H5 δ5 S5 σ5 e5 he5 hs5 d5 => ⟨o5, δ5, S5, e13.trans e5, he5, hs5, d5⟩⟩
/-! ### comprehensions: the new list is the n-th that is tracked -/
def dNoIf : DT := fun _ S R => R true S
theorem rt_noIf : RT tNoIf dNoIf := fun h o H δ σ S R Q he hs q c => c o H S true Ex.refl hs q
def dCmp (n : Nat) (g : DG) (tt : DT) (te : DE) (fin : Sto → Prop) : List PyData → XE → Sto → Prop
  | [], _, S => fin S
  | d :: ds, τ, S => g (.d d) τ S fun τ1 S1 => tt τ1 S1 fun b S2 => if b = true then te τ1 S2 fun x S3 => asD x fun e => ∃ acc, S3[n]? = some acc ∧ acc.length < 1000 ∧ dCmp n g tt te fin ds τ1 (S3.set n (acc ++ [e])) else dCmp n g tt te fin ds τ1 S2
/-- its list stays tracked -/
def dCompT (caps : List (Option Nat)) (i : DI) (g : DG) (tt : DT) (te : DE) : DE := fun δ S R => i δ S fun ds S1 => dCmp S1.length g tt te (fun S2 => R (.l S1.length) S2) ds (tauX caps δ) (S1 ++ [[]])
/-- its list is data -/
def dComp (caps : List (Option Nat)) (i : DI) (g : DG) (tt : DT) (te : DE) : DE := fun δ S R => i δ S fun ds S1 => dCmp S1.length g tt te (fun S2 => ∃ S0 acc, S2 = S0 ++ [acc] ∧ S0.length = S1.length ∧ R (.d (.list acc)) S0) ds (tauX caps δ) (S1 ++ [[]])
theorem RepS.pop {h o r : List Addr} {H : Hp} {S0 T : Sto} (hs : RepS h (o ++ r) H (S0 ++ T)) (hl : S0.length = o.length) : RepS h o H S0 where
  len := hl
  nd := (List.nodup_append.mp hs.nd).1
  dis := fun a ha => hs.dis a (List.mem_append_left _ ha)
  hal := hs.hal
  cont := fun k a ds e1 e2 => by
    obtain ⟨vs, e3, l⟩ := hs.cont k a ds (get_app e1) (get_app e2)
    exact ⟨vs, e3, l.mono fun b u e => by
      obtain ⟨z1, z2, z3⟩ := vx_iff.mp e
      exact vx_iff.mpr ⟨z1, fun m => z2 (List.mem_append_left _ m), z3⟩⟩
theorem vx_pop {h o r : List Addr} {H : Hp} : Same (vx h (o ++ r) H) (vx h o H) := fun b u e => by
  obtain ⟨z1, z2, z3⟩ := vx_iff.mp e
  exact vx_iff.mpr ⟨z1, fun m => z2 (List.mem_append_left _ m), z3⟩
theorem Ex.pop {o o' r : List Addr} {H H' : Hp} (e : Ex o H (o ++ r) H') : Ex o H o H' := ⟨⟨[], by simp⟩, fun b u hb eb => ⟨hb, (e.kp b u hb eb).2⟩⟩
theorem comp_core {caps : List (Option Nat)} {wi : TI} {g : TG} {tt : TT} {te : TE} {di : DI} {dg : DG} {dtt : DT} {dte : DE} (hi : RI wi di) (hg : RG g dg) (ht : RT tt dtt) (he' : RE te dte)
    {h o : List Addr} {H : Hp} {δ : XE} {σ : St} {S : Sto} {Q : VK} {fin : Nat → Sto → Prop} (he : RepE h o H δ σ) (hs : RepS h o H S) (q : di δ S fun ds S1 => dCmp S1.length dg dtt dte (fin S1.length) ds (tauX caps δ) (S1 ++ [[]]))
    (c : ∀ o1 H1 D o2 H2 S2, Ex o H o1 H1 → H1 D = none → Ex (o1 ++ [D]) (upd H1 D (.lst [])) o2 H2 → RepS h o2 H2 S2 → fin o1.length S2 → Q (.ref D) H2) : tComp caps wi g tt te σ H Q := by
  refine hi h o H δ σ S _ _ he hs q fun o1 H1 S1 ds J e1 s1 wk d1 D hD => ?_
  have eN : Ex o1 H1 (o1 ++ [D]) (upd H1 D (.lst [])) := Ex.new s1 hD
  have sN : RepS h (o1 ++ [D]) (upd H1 D (.lst [])) (S1 ++ [[]]) := s1.new hD (hasL_nil.mpr rfl)
  have hn : S1.length = o1.length := s1.len
  refine ⟨fun i m τ H2 => m = ds.length - i ∧ i ≤ ds.length ∧ ∃ o2 δ2 S2, Ex (o1 ++ [D]) (upd H1 D (.lst [])) o2 H2 ∧ RepE h o2 H2 δ2 τ ∧ RepS h o2 H2 S2 ∧ dCmp S1.length dg dtt dte (fin S1.length) (ds.drop i) δ2 S2, ⟨ds.length, by simp, Nat.zero_le _, _, _, _, Ex.refl, ((he.mono e1).mono eN).tau, sN, d1⟩, ?_⟩
  rintro i m τ H2 ⟨rfl, hi, o2, δ2, S2, e2, he2, hs2, d2⟩
  by_cases hlt : i < ds.length
  · have ed : ds[i]? = some ds[i] := List.getElem?_eq_getElem hlt
    rw [List.drop_eq_getElem_cons hlt] at d2
    refine .inr ⟨wk.go i _ o2 H2 (eN.trans e2) ed, fun x H3 y => ?_⟩
    obtain ⟨s3, hx⟩ := wk.yld i _ o2 H2 x H3 S2 (eN.trans e2) hs2 ed y
    have e23 : Ex o2 H2 o2 H3 := Ex.of_same s3
    refine hg h o2 H3 δ2 τ S2 (.d ds[i]) x _ _ (he2.mono e23) (hs2.same s3) hx d2 fun o4 H4 δ4 S4 τ4 e4 he4 hs4 d4 => ?_
    refine ht h o4 H4 δ4 τ4 S4 _ _ he4 hs4 d4 fun o5 H5 S5 b e5 s5 d5 => ?_
    have e15 := ((e2.trans e23).trans e4).trans e5
    cases b with
    | false => exact iteF ⟨ds.length - (i + 1), by omega, rfl, hlt, o5, δ4, S5, e15, he4.mono e5, s5, by simpa using d5⟩
    | true =>
      refine iteT (he' h o5 H5 δ4 τ4 S5 _ _ (he4.mono e5) s5 (by simpa using d5) fun o6 H6 S6 z v e6 s6 z6 d6 => ?_)
      replace d6 := asD_ex d6
      obtain ⟨e, rfl, acc, ea, hl, d6⟩ := d6
      have e16 := e15.trans e6
      have eD : o6[S1.length]? = some D := by
        obtain ⟨r, rfl⟩ := e16.pre
        rw [hn]
        exact get_app (by rw [List.getElem?_concat_length])
      obtain ⟨vs, ev, l⟩ := s6.cont _ D acc eD ea
      refine ⟨vs, ev, by rw [l.length]; exact small1000 (Nat.le_of_lt hl), ds.length - (i + 1), by omega, rfl, hlt, o6, δ4, _, e16.trans (Ex.upd eD), ((he4.mono e5).mono e6).mono (Ex.upd eD), s6.upd eD (l.append (hasL_cons.mpr ⟨v, [], rfl, z6, hasL_nil.mpr rfl⟩)), d6⟩
  · have ei : i = ds.length := by omega
    subst ei
    rw [List.drop_length] at d2
    exact .inl ⟨wk.stop _ o2 H2 (eN.trans e2) (Nat.le_refl _), c o1 H1 D o2 H2 S2 e1 hD e2 hs2 (hn ▸ d2)⟩
theorem re_compT {caps : List (Option Nat)} {wi : TI} {g : TG} {tt : TT} {te : TE} {di : DI} {dg : DG} {dtt : DT} {dte : DE} (hi : RI wi di) (hg : RG g dg) (ht : RT tt dtt) (he' : RE te dte) : RE (tComp caps wi g tt te) (dCompT caps di dg dtt dte) := fun h o H δ σ S R Q he hs q c => by
  refine comp_core (fin := fun n S2 => R (.l n) S2) hi hg ht he' he hs q fun o1 H1 D o2 H2 S2 e1 hD e2 s2 f => ?_
  have eN : Ex o1 H1 (o1 ++ [D]) (upd H1 D (.lst [])) := ⟨⟨[D], rfl⟩, fun b w hb e => by
    have ne : b ≠ D := ne_of_none e hD
    exact ⟨by simp [hb, ne], by rw [upd_ne ne]; exact e⟩⟩
  refine c o2 H2 S2 (.l o1.length) _ ((e1.trans eN).trans e2) s2 ⟨D, ?_, rfl⟩ f
  obtain ⟨r, rfl⟩ := e2.pre
  exact get_app (by rw [List.getElem?_concat_length])
theorem re_comp {caps : List (Option Nat)} {wi : TI} {g : TG} {tt : TT} {te : TE} {di : DI} {dg : DG} {dtt : DT} {dte : DE} (hi : RI wi di) (hg : RG g dg) (ht : RT tt dtt) (he' : RE te dte) : RE (tComp caps wi g tt te) (dComp caps di dg dtt dte) := fun h o H δ σ S R Q he hs q c => by
  refine comp_core (fin := fun n S2 => ∃ (S0 : Sto) (acc : List PyData), S2 = S0 ++ [acc] ∧ S0.length = n ∧ R (.d (.list acc)) S0) hi hg ht he' he hs q fun o1 H1 D o2 H2 S2 e1 hD e2 s2 ⟨S0, acc, eS, hl, f⟩ => ?_
  subst eS
  have eN : Ex o1 H1 (o1 ++ [D]) (upd H1 D (.lst [])) := ⟨⟨[D], rfl⟩, fun b w hb e => by
    have ne : b ≠ D := ne_of_none e hD
    exact ⟨by simp [hb, ne], by rw [upd_ne ne]; exact e⟩⟩
  have e12 := eN.trans e2
  obtain ⟨r, rfl⟩ := e2.pre
  have er : r = [] := by
    have := s2.len
    simp only [List.length_append, List.length_singleton, hl] at this
    exact List.eq_nil_of_length_eq_zero (by omega)
  subst er
  rw [List.append_nil] at s2 e12
  have s0 : RepS h o1 H2 S0 := s2.pop hl
  refine c o1 H2 S0 (.d (.list acc)) _ (e1.trans (Ex.pop (o' := o1) e12)) s0 ?_ f
  obtain ⟨vs, ev, l⟩ := s2.cont o1.length D acc (by rw [List.getElem?_concat_length]) (by rw [← hl, List.getElem?_concat_length])
  have nD : D ∉ o1 := by
    have := (List.nodup_append.mp s2.nd).2.2
    intro m
    exact this D m D (by simp) rfl
  exact has_list.mpr ⟨D, vs, rfl, vx_iff.mpr ⟨s2.dis D (by simp), nD, ev⟩, l.mono vx_pop⟩
/-! ### a def, at data -/
def fin (n : Nat) (R : RX) : RX := fun y S' => match y with
  | .l k => if k < n then R (.l k) (S'.take n) else ∃ ds, S'[k]? = some ds ∧ (R (.d (.list ds)) (S'.take n) ∨ R (.l n) (S'.take n ++ [ds]))
  | y => R y (S'.take n)
theorem cn_fin {h o : List Addr} {H : Hp} {S : Sto} {R : RX} {Q : VK} (hs : RepS h o H S) (c : Cn h o H R Q) : Cn h o H (fin S.length R) Q := fun o' H' S' y v e s' hy q => by
  obtain ⟨r, rfl⟩ := e.pre
  have eS : S' = S'.take S.length ++ S'.drop S.length := (List.take_append_drop _ _).symm
  have hl : (S'.take S.length).length = o.length := by
    have := s'.len
    rw [List.length_append] at this
    rw [List.length_take, this, hs.len]
    omega
  have s0 : RepS h o H' (S'.take S.length) := by
    rw [eS] at s'
    exact s'.pop hl
  have e0 : Ex o H o H' := Ex.pop (o' := o) e
  cases y with
  | d d => exact c o H' _ (.d d) v e0 s0 (Has.mono vx_pop d v hy) q
  | o w => exact c o H' _ (.o w) v e0 s0 hy q
  | l k =>
    unfold fin at q
    by_cases hk : k < S.length
    · simp only [hk, ↓reduceIte] at q
      obtain ⟨a, ea, rfl⟩ := hy
      exact c o H' _ (.l k) _ e0 s0 ⟨a, by rw [List.getElem?_append_left (by rw [← hs.len]; exact hk)] at ea; exact ea, rfl⟩ q
    · simp only [hk, ↓reduceIte] at q
      obtain ⟨ds, eds, q⟩ := q
      obtain ⟨a, ea, rfl⟩ := hy
      obtain ⟨vs, ev, l⟩ := s'.cont k a ds ea eds
      have na : a ∉ o := fun m => by
        obtain ⟨j, ej⟩ := List.mem_iff_getElem?.mp m
        have hj : j < o.length := (List.getElem?_eq_some_iff.mp ej).1
        have := nodup_get s'.nd (get_app (t := r) ej) ea
        rw [hs.len] at hk
        omega
      have nh : a ∉ h := s'.dis a (List.mem_of_getElem? ea)
      rcases q with q | q
      · exact c o H' _ (.d (.list ds)) _ e0 s0 (has_list.mpr ⟨a, vs, rfl, vx_iff.mpr ⟨nh, na, ev⟩, l.mono vx_pop⟩) q
      · have hn : H a = none := by
          cases eh : H a with
          | none => rfl
          | some u => exact absurd (List.mem_of_getElem? ea) (e.kp a u na eh).1
        have e1 : Ex o H (o ++ [a]) H' := ⟨⟨[a], rfl⟩, fun b u hb eb => ⟨by simp only [List.mem_append, List.mem_singleton, not_or]; exact ⟨hb, ne_of_none eb hn⟩, (e0.kp b u hb eb).2⟩⟩
        have sub : Same (vx h (o ++ r) H') (vx h (o ++ [a]) H') := fun b u eb => by
          obtain ⟨z1, z2, z3⟩ := vx_iff.mp eb
          refine vx_iff.mpr ⟨z1, ?_, z3⟩
          simp only [List.mem_append, List.mem_singleton, not_or]
          exact ⟨fun m => z2 (List.mem_append_left _ m), fun z => z2 (by rw [z]; exact List.mem_of_getElem? ea)⟩
        refine c (o ++ [a]) H' _ (.l S.length) _ e1 ⟨by rw [List.length_append, List.length_append, hl]; rfl, nodup_snoc hs.nd na, fun b hb => ?_, s0.hal, fun j b es q1 q2 => ?_⟩ ⟨a, by rw [hs.len, List.getElem?_concat_length], rfl⟩ q
        · rcases List.mem_append.mp hb with hb | hb
          · exact hs.dis b hb
          · rw [List.mem_singleton.mp hb]; exact nh
        · by_cases hj : j < o.length
          · rw [List.getElem?_append_left hj] at q1
            rw [List.getElem?_append_left (by rw [hl]; exact hj), List.getElem?_take_of_lt (by rw [hs.len]; exact hj)] at q2
            obtain ⟨ws, e3, l3⟩ := s'.cont j b es (get_app q1) q2
            exact ⟨ws, e3, l3.mono sub⟩
          · have hj' : j = o.length := by
              obtain ⟨q, _⟩ := List.getElem?_eq_some_iff.mp q1
              rw [List.length_append, List.length_singleton] at q
              omega
            subst hj'
            rw [List.getElem?_concat_length] at q1
            rw [← hl, List.getElem?_concat_length] at q2
            cases q1
            cases q2
            exact ⟨vs, ev, l.mono sub⟩
def dEnd (n : Nat) (R : RX) : DEnds := { nx := fun _ S' => fin n R (.d .none) S', rt := fin n R }
theorem eok {h o : List Addr} {H : Hp} {S : Sto} {R : RX} {Q : VK} (hs : RepS h o H S) (c : Cn h o H R Q) : EOk h o H (dEnd S.length R) { nx := fun _ H' => Q .non H', rt := Q } :=
  ⟨fun o' H' δ' S' σ' e he hs' q => cn_fin hs c o' H' S' _ _ e hs' xN q, cn_fin hs c, fun _ _ _ _ _ _ _ _ q => q.elim, fun _ _ _ _ _ _ _ _ q => q.elim⟩
section
variable {P : Program} {w : World} {K : PySem.W.Frag} {mg : Str → Option Value} {base : Heap} {x a b c d e : Str} {st : Stmt} {N : List Str} {k : Nat}
theorem Df.d1 {q : P1} (D : Dd K mg x st [a]) (S : FnScope N [a] (defScope st)) (σ0 : V → St) (hs : ∀ v, start N [v] = σ0 v) (n : Nat) (e0 : ∀ v, σ0 v = some v :: List.replicate n none)
    (hbody : ∀ (f : Addr) (cdv : Value) (A : Around) (outer : List Env) (s : Shared) (H : Hp) (E : XK), Room k (A.deeper (envOfC x (defScope st) s.heap.objs.size f cdv)) →
      ∃ t dt, PSs (cxOf CX0 P w K mg base N x (defScope st) f cdv A outer s H E).nox (defBody st) t ∧ RS t dt ∧ ∀ y S R, q y S R → dt (dEnd S.length R) (some y :: List.replicate n none) S) : Df P w K mg base x [a] (k + 1) (sp1 (lf1 q)) := by
  refine Df.of1 D S σ0 hs fun f cdv A outer s H v Q E hr ⟨h, o, S', y, R, hs', hy, hq, c⟩ => ?_
  obtain ⟨t, dt, h1, h2, h3⟩ := hbody f cdv A outer s H E hr
  refine ⟨t, h1, h2 h o H _ _ S' _ _ ⟨?_, ?_⟩ hs' (h3 y S' R hq) (eok hs' c)⟩
  · rw [e0]; simp
  · rw [e0]
    intro i z e
    cases i with
    | zero => cases e; exact ⟨v, rfl, hy⟩
    | succ i => rw [List.getElem?_cons_succ, List.getElem?_replicate] at e; split at e <;> cases e
theorem Df.d2 {q : P2} (D : Dd K mg x st [a, b]) (S : FnScope N [a, b] (defScope st)) (σ0 : V → V → St) (hs : ∀ v u, start N [v, u] = σ0 v u) (n : Nat) (e0 : ∀ v u, σ0 v u = some v :: some u :: List.replicate n none)
    (hbody : ∀ (f : Addr) (cdv : Value) (A : Around) (outer : List Env) (s : Shared) (H : Hp) (E : XK), Room k (A.deeper (envOfC x (defScope st) s.heap.objs.size f cdv)) →
      ∃ t dt, PSs (cxOf CX0 P w K mg base N x (defScope st) f cdv A outer s H E).nox (defBody st) t ∧ RS t dt ∧ ∀ y z S R, q y z S R → dt (dEnd S.length R) (some y :: some z :: List.replicate n none) S) : Df P w K mg base x [a, b] (k + 1) (sp2 (lf2 q)) := by
  refine Df.of2 D S σ0 hs fun f cdv A outer s H v u Q E hr ⟨h, o, S', y, z, R, hs', hy, hz, hq, c⟩ => ?_
  obtain ⟨t, dt, h1, h2, h3⟩ := hbody f cdv A outer s H E hr
  refine ⟨t, h1, h2 h o H _ _ S' _ _ ⟨?_, ?_⟩ hs' (h3 y z S' R hq) (eok hs' c)⟩
  · rw [e0]; simp
  · rw [e0]
    intro i r e
    match i, e with
    | 0, e => cases e; exact ⟨v, rfl, hy⟩
    | 1, e => cases e; exact ⟨u, rfl, hz⟩
    | i + 2, e => rw [List.getElem?_cons_succ, List.getElem?_cons_succ, List.getElem?_replicate] at e; split at e <;> cases e
theorem Df.d3 {q : P3} (D : Dd K mg x st [a, b, c]) (S : FnScope N [a, b, c] (defScope st)) (σ0 : V → V → V → St) (hs : ∀ v u z, start N [v, u, z] = σ0 v u z) (n : Nat) (e0 : ∀ v u z, σ0 v u z = some v :: some u :: some z :: List.replicate n none)
    (hbody : ∀ (f : Addr) (cdv : Value) (A : Around) (outer : List Env) (s : Shared) (H : Hp) (E : XK), Room k (A.deeper (envOfC x (defScope st) s.heap.objs.size f cdv)) →
      ∃ t dt, PSs (cxOf CX0 P w K mg base N x (defScope st) f cdv A outer s H E).nox (defBody st) t ∧ RS t dt ∧ ∀ y z r S R, q y z r S R → dt (dEnd S.length R) (some y :: some z :: some r :: List.replicate n none) S) : Df P w K mg base x [a, b, c] (k + 1) (sp3 (lf3 q)) := by
  refine Df.of3 D S σ0 hs fun f cdv A outer s H v u t0 Q E hr ⟨h, o, S', y, z, r, R, hs', hy, hz, hw, hq, c⟩ => ?_
  obtain ⟨t, dt, h1, h2, h3⟩ := hbody f cdv A outer s H E hr
  refine ⟨t, h1, h2 h o H _ _ S' _ _ ⟨?_, ?_⟩ hs' (h3 y z r S' R hq) (eok hs' c)⟩
  · rw [e0]; simp
  · rw [e0]
    intro i g e
    match i, e with
    | 0, e => cases e; exact ⟨v, rfl, hy⟩
    | 1, e => cases e; exact ⟨u, rfl, hz⟩
    | 2, e => cases e; exact ⟨t0, rfl, hw⟩
    | i + 3, e => rw [List.getElem?_cons_succ, List.getElem?_cons_succ, List.getElem?_cons_succ, List.getElem?_replicate] at e; split at e <;> cases e
theorem Df.imp1 {p p' : V → Hp → VK → Prop} (D : Df P w K mg base x [a] k (sp1 p)) (h : ∀ v H Q, p' v H Q → p v H Q) : Df P w K mg base x [a] k (sp1 p') := by
  obtain ⟨f, fd, F, r⟩ := D.ex
  exact ⟨f, fd, F.imp fun vs H Q E z => by
    obtain ⟨y, rfl, z⟩ := sp1_len vs H Q E z
    exact h _ _ _ z, r⟩
theorem Df.imp2 {p p' : V → V → Hp → VK → Prop} (D : Df P w K mg base x [a, b] k (sp2 p)) (h : ∀ v u H Q, p' v u H Q → p v u H Q) : Df P w K mg base x [a, b] k (sp2 p') := by
  obtain ⟨f, fd, F, r⟩ := D.ex
  exact ⟨f, fd, F.imp fun vs H Q E z => by
    obtain ⟨y, y', rfl, z⟩ := sp2_len vs H Q E z
    exact h _ _ _ _ z, r⟩
end
/-! ### the pen at data -/
def isPen (p : List PyData) : Prop := ∃ l g s : Int, p = [.int l, .int g, .int s] ∧ 0 ≤ l
/-- the pen is the only tracked list -/
def qDraw : P2 := fun x y S R => ∃ p n, x = .l 0 ∧ y = .d (.int n) ∧ S = [p] ∧ isPen p ∧ 0 < n ∧ n.natAbs.log2 < 9000 ∧ ∀ r p', 0 ≤ r → r < n → isPen p' → R (.d (.int r)) [p']
def qNumber : P1 := fun x S R => ∃ p, x = .l 0 ∧ S = [p] ∧ isPen p ∧ ∀ r p', -10 ^ 58 ≤ r → r ≤ 10 ^ 58 → isPen p' → R (.d (.int r)) [p']
def qSpan : P1 := fun x S R => ∃ p, x = .l 0 ∧ S = [p] ∧ isPen p ∧ ∀ lo hi p', lo ≤ hi → -10 ^ 58 ≤ lo → hi ≤ 10 ^ 59 → isPen p' → R (.d (.tuple [.int lo, .int hi])) [p']
def qPenOf : P1 := fun x S R => ∃ n, x = .d (.int n) ∧ S = [] ∧ ∀ p, isPen p → R (.l 0) [p]
section
variable {h : List Addr} {a : Addr} {H H' : Hp} {p : List PyData}
theorem pen_of (hs : RepS h [a] H [p]) (hp : isPen p) : Pen H a := by
  obtain ⟨l, g, s, rfl, h0⟩ := hp
  obtain ⟨vs, e, q⟩ := hs.cont 0 a _ rfl rfl
  have q' : HasL (vx h [a] H) ([l, g, s].map PyData.int) vs := q
  rw [hasL_intsV q'] at e
  exact ⟨l, g, s, e, h0⟩
theorem vx_hid : vx h [a] H = vw h (hid a H) := by
  have e : ∀ l : List Addr, vw (l ++ [a]) H = vw l (hid a H) := by
    intro l
    induction l with
    | nil => rfl
    | cons b r ih => show hid b (vw (r ++ [a]) H) = hid b (vw r (hid a H)); rw [ih]
  exact e h
/-- behind a draw, or behind what leaves the rest alone -/
theorem pen_back (hs : RepS h [a] H [p]) (P : Pen H' a) (s : Same (hid a H) (hid a H')) : Ex [a] H [a] H' ∧ ∃ p', isPen p' ∧ RepS h [a] H' [p'] := by
  have ex : Ex [a] H [a] H' := ⟨⟨[], rfl⟩, fun b u hb eb => by
    have hne : b ≠ a := fun z => hb (by simp [z])
    refine ⟨hb, ?_⟩
    have := s b u ((hid_at hne).trans eb)
    rwa [hid_at hne] at this⟩
  obtain ⟨l, g, s', e, h0⟩ := P.ex
  refine ⟨ex, [.int l, .int g, .int s'], ⟨l, g, s', rfl, h0⟩, rfl, hs.nd, hs.dis, fun b hb => ?_, fun j b ds e1 e2 => ?_⟩
  · obtain ⟨u, eb⟩ := hs.hal b hb
    have hne : b ≠ a := fun z => hs.dis a (by simp) (z ▸ hb)
    exact ⟨u, (ex.kp b _ (by simp [hne]) eb).2⟩
  · cases j with
    | succ j => simp at e1
    | zero =>
      cases e1
      cases e2
      exact ⟨_, e, hasL_ints [l, g, s']⟩
/-- data seen without the pen, seen without the hidden ones, too -/
theorem lf_draw {v u : V} {Q : VK} (z : lf2 qDraw v u H Q) : pDraw v u H Q := by
  obtain ⟨h, o, S, x, y, R, hs, hx, hy, ⟨p, n, rfl, rfl, rfl, hp, h0, hb, q⟩, c⟩ := z
  obtain ⟨a, ea, rfl⟩ := hx
  obtain ⟨a', rfl⟩ : ∃ a', o = [a'] := List.length_eq_one_iff.mp hs.len.symm
  cases ea
  refine ⟨a, n, rfl, hx_int hy, pen_of hs hp, h0, hb, fun r H' r0 r1 P' e' => ?_⟩
  obtain ⟨ex, p', hp', hs'⟩ := pen_back hs P' (Same.of_eq e')
  exact c [a] H' [p'] _ _ ex hs' (xI r) (q r p' r0 r1 hp')
theorem lf_number {v : V} {Q : VK} (z : lf1 qNumber v H Q) : pNumber v H Q := by
  obtain ⟨h, o, S, x, R, hs, hx, ⟨p, rfl, rfl, hp, q⟩, c⟩ := z
  obtain ⟨a, ea, rfl⟩ := hx
  obtain ⟨a', rfl⟩ : ∃ a', o = [a'] := List.length_eq_one_iff.mp hs.len.symm
  cases ea
  refine ⟨a, rfl, pen_of hs hp, fun r H' r0 r1 P' e' => ?_⟩
  obtain ⟨ex, p', hp', hs'⟩ := pen_back hs P' (Same.of_eq e')
  exact c [a] H' [p'] _ _ ex hs' (xI r) (q r p' r0 r1 hp')
theorem trl_of (hs : RepS h [a] H [p]) : ∀ l : List Addr, (∀ b ∈ l, b ∈ h) → TrL l (hid a H)
  | [], _ => trivial
  | b :: r, m => by
    obtain ⟨vs, e⟩ := hs.hal b (m b (by simp))
    have hne : b ≠ a := fun z => hs.dis a (by simp) (z ▸ m b (by simp))
    exact ⟨⟨vs, (hid_at hne).trans e⟩, trl_of hs r fun c hc => m c (by simp [hc])⟩
theorem has_vx (hs : RepS h [a] H [p]) {d : PyData} {v : V} (c : tupD d = true) (q : Has (hid a H) d v) : Has (vx h [a] H) d v := by
  rw [vx_hid]
  exact Has.vwT (trl_of hs h fun _ m => m) d v c q
theorem lf_span {v : V} {Q : VK} (z : lf1 qSpan v H Q) : pSpan v H Q := by
  obtain ⟨h, o, S, x, R, hs, hx, ⟨p, rfl, rfl, hp, q⟩, c⟩ := z
  obtain ⟨a, ea, rfl⟩ := hx
  obtain ⟨a', rfl⟩ : ∃ a', o = [a'] := List.length_eq_one_iff.mp hs.len.symm
  cases ea
  refine ⟨a, rfl, pen_of hs hp, fun lo hi v H' h1 h2 h3 P' s' hv => ?_⟩
  obtain ⟨ex, p', hp', hs'⟩ := pen_back hs P' s'
  exact c [a] H' [p'] (.d _) _ ex hs' (has_vx hs' rfl hv) (q lo hi p' h1 h2 h3 hp')
theorem lf_penOf {v : V} {Q : VK} (z : lf1 qPenOf v H Q) : pPenOf v H Q := by
  obtain ⟨h, o, S, x, R, hs, hx, ⟨n, rfl, rfl, q⟩, c⟩ := z
  have e0 : o = [] := List.eq_nil_of_length_eq_zero hs.len.symm
  subst e0
  refine ⟨n, hx_int hx, fun b H' hb s' P' => ?_⟩
  obtain ⟨l, g, s, e, h0⟩ := P'.ex
  have nh : b ∉ h := (hs.fresh hb).1
  refine c [b] H' [[.int l, .int g, .int s]] (.l 0) _ ⟨⟨[b], rfl⟩, fun b' u _ eb => ⟨by simp [ne_of_none eb hb], s' b' u eb⟩⟩ ⟨rfl, by simp, fun b' hb' => by rw [List.mem_singleton.mp hb']; exact nh, fun b' hb' => ?_, fun j b' ds e1 e2 => ?_⟩ ⟨b, rfl, rfl⟩ (q _ ⟨l, g, s, rfl, h0⟩)
  · obtain ⟨vs, ev⟩ := hs.hal b' hb'
    exact ⟨vs, s' _ _ ev⟩
  · cases j with
    | succ j => simp at e1
    | zero =>
      cases e1
      cases e2
      exact ⟨_, e, hasL_ints [l, g, s]⟩
end
end L2

set_option Elab.async false
set_option linter.all false
set_option maxRecDepth 100000
set_option maxHeartbeats 1000000
/-! MY EXTENSION, seventh part: sum and all; loops and comprehensions by induction; the law's own loop at data. -/
namespace L2
open PySem PySem.Spec PyProof.Rows
def rSum (K : PySem.W.Frag) : List V → Hp → VK → Prop := fun xs H Q => ∃ (p : Addr) (ns : List Int), xs = [.ref p] ∧ SqL K H p (ns.map V.int) ∧ Q (.int ns.sum) H
def rAll (K : PySem.W.Frag) : List V → Hp → VK → Prop := fun xs H Q => ∃ (p : Addr) (bs : List Bool), xs = [.ref p] ∧ SqL K H p (bs.map V.bl) ∧ Q (.bl (bs.all id)) H
theorem bt_sum : bootBuiltins "sum" = some (.builtin "sum") := by decide +kernel
theorem bt_all : bootBuiltins "all" = some (.builtin "all") := by decide +kernel
section
variable {X : Cx}
theorem call_sumQ (hc : X.calm = true) : CallR X (.builtin "sum") (rSum X.K) := by
  intro pins s σ H xs us Q I r h
  obtain ⟨p, ns, rfl, hq, q⟩ := h
  obtain ⟨u, rfl, rx⟩ := vals1 r
  cases (show u = Value.ref p from rx)
  obtain ⟨its, rv, pl, _⟩ := I.list hq
  obtain ⟨ys, e, hns⟩ := ints_at (intsAre_of rv)
  refine sum_intListG (I.ok.hd hc) (by rw [← e]; exact pl.isList) fun h' tk t' hk => ⟨.int ns.sum, H, I.kept (t' := tk) hk, ⟨t', ?_⟩, q⟩
  have es : preSum (numAt ys) ys.size = ns.sum := by
    rw [preSum_eq, hns, List.take_of_length_le (by simp)]
  rw [es]
theorem bools_at : ∀ {bs : List Bool} {us : List Value} {i : Nat} {v : Value}, Vals (bs.map V.bl) us → us[i]? = some v → ∃ b, bs[i]? = some b ∧ v = .bool b
  | [], _, i, v, .nil, e => by simp at e
  | b :: bs, _, 0, v, .cons r _, e => by
    rw [List.getElem?_cons_zero] at e
    cases e
    exact ⟨b, rfl, r⟩
  | b :: bs, _, i + 1, v, .cons _ t, e => by
    obtain ⟨c, e1, e2⟩ := bools_at (i := i) (v := v) t (by simpa using e)
    exact ⟨c, by simpa using e1, e2⟩
theorem all_rng (bs : List Bool) : ((List.range bs.length).all fun i => (bs[i]?).getD true) = bs.all id := by
  rw [Bool.eq_iff_iff, List.all_eq_true, List.all_eq_true]
  constructor
  · intro h b hb
    obtain ⟨i, hi⟩ := List.mem_iff_getElem?.mp hb
    have hl := (List.getElem?_eq_some_iff.mp hi).1
    have := h i (List.mem_range.mpr hl)
    rw [hi] at this
    exact this
  · intro h i hi
    have hl := List.mem_range.mp hi
    rw [List.getElem?_eq_getElem hl]
    exact h _ (List.getElem_mem hl)
theorem call_allQ (hc : X.calm = true) : CallR X (.builtin "all") (rAll X.K) := by
  intro pins s σ H xs us Q I r h
  obtain ⟨p, bs, rfl, hq, q⟩ := h
  obtain ⟨u, rfl, rx⟩ := vals1 r
  cases (show u = Value.ref p from rx)
  obtain ⟨its, rv, pl, _⟩ := I.list hq
  have hl := pl.isList
  have hlt : p < s.heap.objs.size := by
    obtain ⟨_, e, _⟩ := hl
    exact Heap.lt_size e
  refine call_all_walk (x := Value.ref p) (wpAny_pyIter_list hl ?_)
  refine ⟨s.heap.objs.size, [s.heap.objs.size, p], [s.heap.objs.size], its.toArray.size, _, _, fun i => (bs[i]?).getD true, rfl,
    Walks.list (A := X.A.in1) (I.ok.hd hc) _ p (Nat.ne_of_lt hlt) its.toArray, ⟨⟨_, Heap.get?_push_size _ rfl, rfl, rfl⟩, hl.push _⟩, fun i v s' Q' E' hP hQ => ?_, fun h' tk hk => ?_⟩
  · obtain ⟨b, e, rfl⟩ := bools_at (i := i) (v := v) rv (by simpa using hP)
    have hQ' : Q' b s' := by simpa [e] using hQ
    exact wpAny_truthy_bool hQ'
  · have hz : its.toArray.size = bs.length := by
      have := rv.length
      rw [List.length_map] at this
      simp [this]
    rw [hz, all_rng]
    refine ⟨.bl _, H, I.kept (t' := tk) fun b o e => hk b o (fun hm => ?_) (Heap.get?_push_of_some _ e), rfl, q⟩
    rw [List.mem_singleton.mp hm] at e
    exact Nat.lt_irrefl _ (Heap.lt_size e)
end
def dSum : List XV → Sto → RX → Prop := fun xs S R => arg1 xs fun x => ∃ ds, asLs S x = some ds ∧ ∃ ns : List Int, ds = ns.map PyData.int ∧ R (.d (.int ns.sum)) S
theorem rc_sum {K : PySem.W.Frag} : RC (rSum K) dSum := fun h o H S xs vs R Q hs hx q c => by
  obtain ⟨x, rfl, ds, hd, ns, rfl, q1⟩ := arg1_ex q
  obtain ⟨v, rfl, hx1⟩ := hxs1 hx
  obtain ⟨a, ws, rfl, ea, l⟩ := hx_lst hs hd hx1
  rw [hasL_intsV l] at ea
  exact ⟨a, ns, rfl, .of ea, c o H S _ _ Ex.refl hs (xI _) q1⟩
theorem hasL_blsV {H : Hp} : ∀ {ns : List Bool} {vs : List V}, HasL H (ns.map PyData.bool) vs → vs = ns.map V.bl
  | [], vs, h => hasL_nil.mp h
  | n :: ns, vs, h => by
    obtain ⟨v, r, rfl, h1, h2⟩ := hasL_cons.mp h
    rw [has_bool.mp h1, hasL_blsV h2]
    rfl
def dAll : List XV → Sto → RX → Prop := fun xs S R => arg1 xs fun x => ∃ ds, asLs S x = some ds ∧ ∃ ns : List Bool, ds = ns.map PyData.bool ∧ R (.d (.bool (ns.all id))) S
theorem rc_all {K : PySem.W.Frag} : RC (rAll K) dAll := fun h o H S xs vs R Q hs hx q c => by
  obtain ⟨x, rfl, ds, hd, ns, rfl, q1⟩ := arg1_ex q
  obtain ⟨v, rfl, hx1⟩ := hxs1 hx
  obtain ⟨a, ws, rfl, ea, l⟩ := hx_lst hs hd hx1
  rw [hasL_blsV l] at ea
  exact ⟨a, ns, rfl, .of ea, c o H S _ _ Ex.refl hs (xB _) q1⟩

/-! ### readings -/
section
variable {S : Sto} {i : Int} {b : Bool} {z : Str} {ds : List PyData} {d : PyData} {k : Nat} {x y : XV} {R : RX} {c : String} {p : List PyData} {n : Nat} {v : V}
theorem asI_d {K : Int → Prop} : asI (.d (.int i)) K = K i := rfl
theorem asB_d {K : Bool → Prop} : asB (.d (.bool b)) K = K b := rfl
theorem asS_d {K : Str → Prop} : asS (.d (.str z)) K = K z := rfl
theorem asT_d {K : List PyData → Prop} : asT (.d (.tuple ds)) K = K ds := rfl
theorem asD_d {K : PyData → Prop} : asD (.d d) K = K d := rfl
theorem asLs_d : asLs S (.d (.list ds)) = some ds := rfl
theorem asLs_l : asLs S (.l k) = S[k]? := rfl
theorem asQ_d : asQ S (.d (.list ds)) = some ds := rfl
theorem asQ_t : asQ S (.d (.tuple ds)) = some ds := rfl
theorem asQ_l : asQ S (.l k) = S[k]? := rfl
theorem asDat_d : asDat S (.d d) = some d := rfl
theorem asDat_l : asDat S (.l k) = (S[k]?).map .list := rfl
theorem asK_l {K : Nat → List PyData → Prop} : asK S (.l k) K = ∃ p, S[k]? = some p ∧ K k p := rfl
theorem ret0_d : ret0 S R (.d d) [] = R (.d d) S := rfl
theorem ret0_l : ret0 S R (.l 0) [ds] = R (.l S.length) (S ++ [ds]) := rfl
theorem retP_d : retP k S R (.d d) [p] = R (.d d) (S.set k p) := rfl
theorem retP_l : retP k S R (.l 1) [p, ds] = R (.l S.length) (S.set k p ++ [ds]) := rfl
theorem fin_d : fin n R (.d d) S = R (.d d) (S.take n) := rfl
theorem fin_l : fin n R (.l k) S = if k < n then R (.l k) (S.take n) else ∃ ds, S[k]? = some ds ∧ (R (.d (.list ds)) (S.take n) ∨ R (.l n) (S.take n ++ [ds])) := rfl
theorem arg1_x {K : XV → Prop} : arg1 [x] K = K x := rfl
theorem arg2_x {K : XV → XV → Prop} : arg2 [x, y] K = K x y := rfl
theorem asTy_x {K : String → Prop} : asTy (.o (.ty c)) K ↔ K c := ⟨fun ⟨_, e, q⟩ => by cases e; exact q, fun q => ⟨c, rfl, q⟩⟩
theorem asIB_i {K : Int → Prop} : asIB (.d (.int i)) K = K i := rfl
theorem asIB_b {K : Int → Prop} : asIB (.d (.bool b)) K = K (if b then 1 else 0) := rfl
theorem dEnd_nx {δ : XE} : (dEnd n R).nx δ S = fin n R (.d .none) S := rfl
theorem dEnd_rt : (dEnd n R).rt x S = fin n R x S := rfl
theorem datas_nil : datas [] = some [] := rfl
theorem datas_cons {r : List XV} : datas (.d d :: r) = (datas r).map (d :: ·) := rfl
theorem dLoop_nil {g : DG} {B : DS} {E : DEnds} {δ : XE} : dLoop g B [] E δ S = E.nx δ S := rfl
end
theorem atI_0 {α : Type} {a : α} {l : List α} : atI (a :: l) 0 = some a := atI_nat (j := 0) rfl
theorem atI_1 {α : Type} {a b : α} {l : List α} : atI (a :: b :: l) 1 = some b := atI_nat (j := 1) rfl
theorem atI_2 {α : Type} {a b c : α} {l : List α} : atI (a :: b :: c :: l) 2 = some c := atI_nat (j := 2) rfl
theorem atI_3 {α : Type} {a b c d : α} {l : List α} : atI (a :: b :: c :: d :: l) 3 = some d := atI_nat (j := 3) rfl
theorem atI_4 {α : Type} {a b c d e : α} {l : List α} : atI (a :: b :: c :: d :: e :: l) 4 = some e := atI_nat (j := 4) rfl
/-! ### data that can be told alike -/
def Shp (n : Nat) (d : PyData) : Prop := d.canLay0 = true ∧ d.depth ≤ n
theorem shp_int {n : Nat} {i : Int} : Shp n (.int i) := ⟨rfl, Nat.zero_le _⟩
theorem shp_bool {n : Nat} {i : Bool} : Shp n (.bool i) := ⟨rfl, Nat.zero_le _⟩
theorem shp_none {n : Nat} : Shp n .none := ⟨rfl, Nat.zero_le _⟩
theorem shp_all {n : Nat} : ∀ {ds : List PyData}, (∀ d ∈ ds, Shp n d) → PyData.canLayAll0 ds = true ∧ PyData.depthAll ds ≤ n
  | [], _ => ⟨by simp only [PyData.canLayAll0], by simp only [PyData.depthAll]; exact Nat.zero_le _⟩
  | d :: ds, h => by
    obtain ⟨h1, h2⟩ := h d List.mem_cons_self
    obtain ⟨h3, h4⟩ := shp_all (ds := ds) fun e m => h e (List.mem_cons_of_mem _ m)
    simp only [PyData.canLayAll0, PyData.depthAll, h1, h3, Bool.and_true, true_and]
    omega
theorem shp_list {n : Nat} {ds : List PyData} (h : ∀ d ∈ ds, Shp n d) : Shp (n + 1) (.list ds) := by
  obtain ⟨h1, h2⟩ := shp_all h
  exact ⟨by simp only [PyData.canLay0]; exact h1, by simp only [PyData.depth]; omega⟩
theorem shp_tup {n : Nat} {ds : List PyData} (h : ∀ d ∈ ds, Shp n d) : Shp (n + 1) (.tuple ds) := by
  obtain ⟨h1, h2⟩ := shp_all h
  exact ⟨by simp only [PyData.canLay0]; exact h1, by simp only [PyData.depth]; omega⟩
theorem shp_map {α : Type} {n : Nat} {f : α → PyData} {l : List α} (h : ∀ x ∈ l, Shp n (f x)) : ∀ d ∈ l.map f, Shp n d := fun d m => by
  obtain ⟨x, hx, rfl⟩ := List.mem_map.mp m
  exact h x hx
theorem shp_2 {n : Nat} {a b : PyData} (h1 : Shp n a) (h2 : Shp n b) : ∀ d ∈ [a, b], Shp n d := by
  intro d m
  simp only [List.mem_cons, List.not_mem_nil, or_false] at m
  rcases m with rfl | rfl
  · exact h1
  · exact h2
theorem Shp.ok {n : Nat} {d : PyData} (h : Shp n d) (hn : n ≤ 64 := by decide) : SeqAt.shaped d = true := by
  unfold SeqAt.shaped
  rw [h.1, decide_eq_true (Nat.le_trans h.2 hn)]
  rfl
/-! ### induction -/
theorem loop_inv {g : DG} {b : DS} {E : DEnds} : ∀ {ds : List PyData} {δ : XE} {S : Sto} (I : Nat → XE → Sto → Prop), I 0 δ S →
    (∀ i d δ S (N : XE → Sto → Prop), ds[i]? = some d → I i δ S → (∀ δ' S', I (i + 1) δ' S' → N δ' S') → g (.d d) δ S fun δ1 S1 => b { nx := N, ct := N, bk := E.nx, rt := E.rt } δ1 S1) →
    (∀ δ S, I ds.length δ S → E.nx δ S) → dLoop g b ds E δ S
  | [], δ, S, I, h0, _, fin => fin δ S h0
  | d :: ds, δ, S, I, h0, step, fin => by
    show g (.d d) δ S fun δ1 S1 => b _ δ1 S1
    refine step 0 d δ S _ rfl h0 fun δ' S' h1 => ?_
    exact loop_inv (ds := ds) (fun i => I (i + 1)) h1 (fun i e δ S N hi => step (i + 1) e δ S N (by simpa using hi)) fin
theorem set_last {α : Type} {l : List α} {a b : α} {n : Nat} (h : l.length = n) : (l ++ [a]).set n b = l ++ [b] := by
  subst h
  rw [List.set_append_right _ _ (Nat.le_refl _), Nat.sub_self]
  rfl
/-- a comprehension whose elements leave the lists alone -/
theorem cmp_map {n : Nat} {g : DG} {te : DE} {fin : Sto → Prop} (f : PyData → PyData) (P : XE → Prop) {S0 : Sto} (hn : S0.length = n) : ∀ (ds : List PyData) (acc : List PyData) (τ : XE), P τ → acc.length + ds.length ≤ 1000 →
    (∀ d ∈ ds, ∀ τ acc (R : XE → RX), P τ → (∀ τ', P τ' → R τ' (.d (f d)) (S0 ++ [acc])) → g (.d d) τ (S0 ++ [acc]) fun τ1 S1 => te τ1 S1 (R τ1)) →
    fin (S0 ++ [acc ++ ds.map f]) → dCmp n g dNoIf te fin ds τ (S0 ++ [acc])
  | [], acc, τ, _, _, _, h => by
    show fin (S0 ++ [acc])
    rw [List.map_nil, List.append_nil] at h
    exact h
  | d :: ds, acc, τ, hP, hl, el, h => by
    show g (.d d) τ (S0 ++ [acc]) fun τ1 S1 => dNoIf τ1 S1 fun b S2 => if b = true then te τ1 S2 fun x S3 => asD x fun e => ∃ acc, S3[n]? = some acc ∧ acc.length < 1000 ∧ dCmp n g dNoIf te fin ds τ1 (S3.set n (acc ++ [e])) else dCmp n g dNoIf te fin ds τ1 S2
    simp only [dNoIf, ↓reduceIte]
    rw [List.length_cons] at hl
    refine el d List.mem_cons_self τ acc (fun τ1 x S3 => asD x fun e => ∃ acc, S3[n]? = some acc ∧ acc.length < 1000 ∧ dCmp n g dNoIf te fin ds τ1 (S3.set n (acc ++ [e]))) hP fun τ' hP' => ?_
    refine ⟨acc, by rw [← hn, List.getElem?_concat_length], by omega, ?_⟩
    rw [set_last hn]
    refine cmp_map f P hn ds (acc ++ [f d]) τ' hP' (by rw [List.length_append, List.length_singleton]; omega) (fun e m => el e (List.mem_cons_of_mem _ m)) ?_
    rw [List.append_assoc]
    exact h
/-- a comprehension whose elements are kept or not -/
theorem cmp_filter {n : Nat} {g : DG} {tt : DT} {te : DE} {fin : Sto → Prop} (f : PyData → PyData) (p : PyData → Bool) (P : XE → Prop) {S0 : Sto} (hn : S0.length = n) : ∀ (ds : List PyData) (acc : List PyData) (τ : XE), P τ → acc.length + ds.length ≤ 1000 →
    (∀ d ∈ ds, ∀ τ acc (R : XE → Bool → Sto → Prop), P τ → (∀ τ', P τ' → (∀ T : RX, T (.d (f d)) (S0 ++ [acc]) → te τ' (S0 ++ [acc]) T) → R τ' (p d) (S0 ++ [acc])) → g (.d d) τ (S0 ++ [acc]) fun τ1 S1 => tt τ1 S1 (R τ1)) →
    fin (S0 ++ [acc ++ (ds.filter p).map f]) → dCmp n g tt te fin ds τ (S0 ++ [acc])
  | [], acc, τ, _, _, _, h => by
    show fin (S0 ++ [acc])
    rw [List.filter_nil, List.map_nil, List.append_nil] at h
    exact h
  | d :: ds, acc, τ, hP, hl, el, h => by
    show g (.d d) τ (S0 ++ [acc]) fun τ1 S1 => tt τ1 S1 fun b S2 => if b = true then te τ1 S2 fun x S3 => asD x fun e => ∃ acc, S3[n]? = some acc ∧ acc.length < 1000 ∧ dCmp n g tt te fin ds τ1 (S3.set n (acc ++ [e])) else dCmp n g tt te fin ds τ1 S2
    rw [List.length_cons] at hl
    refine el d List.mem_cons_self τ acc (fun τ1 b S2 => if b = true then te τ1 S2 fun x S3 => asD x fun e => ∃ acc, S3[n]? = some acc ∧ acc.length < 1000 ∧ dCmp n g tt te fin ds τ1 (S3.set n (acc ++ [e])) else dCmp n g tt te fin ds τ1 S2) hP fun τ' hP' ev => ?_
    have rest : ∀ acc', acc'.length ≤ acc.length + 1 → fin (S0 ++ [acc' ++ (ds.filter p).map f]) → dCmp n g tt te fin ds τ' (S0 ++ [acc']) := fun acc' hl' q =>
      cmp_filter f p P hn ds acc' τ' hP' (by omega) (fun e m => el e (List.mem_cons_of_mem _ m)) q
    cases hp : p d with
    | false =>
      rw [List.filter_cons_of_neg (by rw [hp]; exact Bool.false_ne_true)] at h
      exact iteF (rest acc (by omega) h)
    | true =>
      rw [List.filter_cons_of_pos hp, List.map_cons] at h
      refine iteT (ev _ ⟨acc, by rw [← hn, List.getElem?_concat_length], by omega, ?_⟩)
      rw [set_last hn]
      exact rest (acc ++ [f d]) (by simp) (by rw [List.append_assoc]; exact h)
/-- .. whose elements draw: the pen, then the list -/
theorem cmp_pen {g : DG} {te : DE} {fin : Sto → Prop} (F : PyData → PyData → Prop) (P : XE → Prop) : ∀ (ds : List PyData) (acc : List PyData) (p : List PyData) (τ : XE), P τ → isPen p → acc.length + ds.length ≤ 1000 →
    (∀ d ∈ ds, ∀ τ p acc (R : XE → RX), P τ → isPen p → (∀ τ' e p', P τ' → isPen p' → F d e → R τ' (.d e) [p', acc]) → g (.d d) τ [p, acc] fun τ1 S1 => te τ1 S1 (R τ1)) →
    (∀ es p', isPen p' → Paired F ds es → fin [p', acc ++ es]) → dCmp 1 g dNoIf te fin ds τ [p, acc]
  | [], acc, p, τ, _, hp, _, _, h => by
    have := h [] p hp .nil
    rw [List.append_nil] at this
    exact this
  | d :: ds, acc, p, τ, hP, hp, hl, el, h => by
    show g (.d d) τ [p, acc] fun τ1 S1 => dNoIf τ1 S1 fun b S2 => if b = true then te τ1 S2 fun x S3 => asD x fun e => ∃ acc, S3[1]? = some acc ∧ acc.length < 1000 ∧ dCmp 1 g dNoIf te fin ds τ1 (S3.set 1 (acc ++ [e])) else dCmp 1 g dNoIf te fin ds τ1 S2
    simp only [dNoIf, ↓reduceIte]
    rw [List.length_cons] at hl
    refine el d List.mem_cons_self τ p acc (fun τ1 x S3 => asD x fun e => ∃ acc, S3[1]? = some acc ∧ acc.length < 1000 ∧ dCmp 1 g dNoIf te fin ds τ1 (S3.set 1 (acc ++ [e]))) hP hp fun τ' e p' hP' hp' hF => ?_
    refine ⟨acc, rfl, by omega, ?_⟩
    refine cmp_pen F P ds (acc ++ [e]) p' τ' hP' hp' (by rw [List.length_append, List.length_singleton]; omega) (fun e m => el e (List.mem_cons_of_mem _ m)) fun es p'' hp'' fs => ?_
    rw [List.append_assoc]
    exact h (e :: es) p'' hp'' (.cons hF fs)
/-! ### the law -/
/-- what stands ahead of the law's loop, and its body: at data, the script carried along -/
theorem rep_nil {H : Hp} : RepS [] [] H [] := ⟨rfl, List.nodup_nil, fun _ h => (nomatch h), fun _ h => (nomatch h), fun _ _ _ e => (by simp at e)⟩
theorem Ex.same_nil {o' : List Addr} {H H' : Hp} (e : Ex [] H o' H') : Same H H' := fun b u q => (e.kp b u (by simp) q).2
theorem cells_d {K : PySem.W.Frag} {a : Addr} {ns : List Int} {N : Int} {j m : Nat} {tb : TS} {db : DS} {D : Ends} {σ : St} {H : Hp} (hb : RS tb db) (h0 : σ[0]? = some (some (.ref a))) (hl : σ.length = m + 1) (hS : SqL K H a (ns.map V.int)) (hlen : ns.length ≤ 63)
    (turn : ∀ n : Int, db { nx := fun δ _ => δ[0]? = some (some (.o (.ref a))) ∧ δ.length = m + 1, ct := fun δ _ => δ[0]? = some (some (.o (.ref a))) ∧ δ.length = m + 1, rt := fun _ _ => False } ((some (.o (.ref a)) :: List.replicate m none).set j (some (.d (.int n)))) [])
    (hj : j ≠ 0) (done : ∀ (σ : St) (H1 : Hp), Same H H1 → D.nx σ H1) :
    tFor (iList K (tOp rCat (tLst (tCons (tC2 (pCell K) (tVar 0) (tC (.int 0))) tNil)) (tSl (rSlL K) (tVar 0) (tPart (tC (.int 1))) (tPart (tC (.int N)))))) (gName j) tb D σ H := by
  refine for_cells (a := a) (ns := ns) (fun σ => σ[0]? = some (some (.ref a)) ∧ σ.length = m + 1) h0 hS hlen ⟨h0, hl⟩ ?_ fun σ H1 _ s => done σ H1 s
  rintro n σ1 H1 H2 ⟨z0, z1⟩ s1 s2
  refine hb [] [] H2 _ _ [] _ _ ⟨by simp [z1], fun i x e => ?_⟩ rep_nil (turn n) ⟨?_, fun _ _ _ _ _ _ _ _ q => q.elim, fun _ _ _ _ _ _ _ _ q => q.elim, ?_⟩
  · rw [List.getElem?_set] at e ⊢
    by_cases hij : j = i
    · rw [if_pos hij] at e ⊢
      by_cases hjl : j < m + 1
      · rw [if_pos (by simpa using hjl)] at e
        rw [if_pos (by rw [z1]; exact hjl)]
        cases e
        exact ⟨.int n, rfl, xI n⟩
      · rw [if_neg (by simpa using hjl)] at e
        cases e
    · rw [if_neg hij] at e ⊢
      cases i with
      | zero =>
        cases e
        exact ⟨.ref a, z0, rfl⟩
      | succ i =>
        rw [List.getElem?_cons_succ, List.getElem?_replicate] at e
        split at e <;> cases e
  · rintro o' H' δ' S' σ' e he hs ⟨q1, q2⟩
    obtain ⟨v, ev, hv⟩ := he.get 0 _ q1
    cases hv
    exact ⟨s2.trans e.same_nil, ev, by rw [← he.len]; exact q2⟩
  · rintro o' H' δ' S' σ' e he hs ⟨q1, q2⟩
    obtain ⟨v, ev, hv⟩ := he.get 0 _ q1
    cases hv
    exact ⟨s2.trans e.same_nil, ev, by rw [← he.len]; exact q2⟩
/-- a statement ahead of the loop -/
theorem pre_d {a : Addr} {m : Nat} {t u : TS} {dt : DS} {D : Ends} {σ : St} {H : Hp} (ht : RS t dt) (h0 : σ[0]? = some (some (.ref a))) (hl : σ.length = m + 1)
    (go : dt { nx := fun δ _ => δ[0]? = some (some (.o (.ref a))) ∧ δ.length = m + 1, rt := fun _ _ => False } (some (.o (.ref a)) :: List.replicate m none) [])
    (next : ∀ (σ : St) (H1 : Hp), σ[0]? = some (some (.ref a)) → σ.length = m + 1 → Same H H1 → u D σ H1) : tSeq t u D σ H := by
  refine ht [] [] H _ _ [] _ _ ⟨by simp [hl], fun i x e => ?_⟩ rep_nil go ⟨?_, fun _ _ _ _ _ _ _ _ q => q.elim, fun _ _ _ _ _ _ _ _ q => q.elim, fun _ _ _ _ _ _ _ _ q => q.elim⟩
  · cases i with
    | zero =>
      cases e
      exact ⟨.ref a, h0, rfl⟩
    | succ i =>
      rw [List.getElem?_cons_succ, List.getElem?_replicate] at e
      split at e <;> cases e
  · rintro o' H' δ' S' σ' e he hs ⟨q1, q2⟩
    obtain ⟨v, ev, hv⟩ := he.get 0 _ q1
    cases hv
    exact next σ' H' ev (by rw [← he.len]; exact q2) e.same_nil
end L2

set_option Elab.async false
set_option linter.all false
set_option maxRecDepth 100000
set_option maxHeartbeats 1000000
/-! MY EXTENSION, eighth part: ranges of any size, any, o[i] op= e. -/
namespace L2
open PySem PySem.Spec PyProof.Rows
theorem turn_long {P : Program} {w : World} {K : PySem.W.Frag} {tg : Expr} (it : Addr) (lo : Int) (n : Nat) : Turn P w K tg (Itr lo n) [it] it (fun i h => IsLongIter h it (lo + (i : Nat) * 1) ((n : Int) - (i : Nat)) 1) where
  mem := by simp
  obj := fun i h st b hb => by
    have e : b = it := by simpa using hb
    subst e
    exact ⟨_, st, fun v z => by
      have z' : Data.fields _ = Data.cell v := z
      cases z'⟩
  keep := fun i h h' st k => k it (by simp) _ st
  item := by
    intro X hP hw hK hc i pins s σ H E I hf st hg
    subst hP hw hK
    obtain ⟨f0, f1, f2, f3, f4, f5⟩ := hf it (by simp)
    have W := Walks.longrange (prog := X.prog) (w := X.w) (I.ok.hd hc) it lo 1 n
    refine W.item i s _ _ hg st fun v h' tk hv st' kk => ?_
    obtain ⟨t, rfl⟩ := hv
    have I1 : Inv X pins σ H { s with heap := h', toks := tk } := I.turned (fun b o hb e => kk b o (by simpa using hb) e) f0 f1 f3 f4 f5
    refine ⟨_, rfl, go_of (s := { s with heap := h', toks := tk }) (n := "longrange_iterator") st' rfl rfl (by decide) ⟨.int (lo + i), H, I1, ⟨t, ?_⟩, ⟨rfl, rfl⟩, st', fun b hb => (hf b hb).1⟩⟩
    rw [Int.mul_one]
  done := by
    intro X hP hw hK hc i pins s σ H E I hf st hg
    subst hP hw hK
    obtain ⟨f0, f1, f2, f3, f4, f5⟩ := hf it (by simp)
    exact wpAny_pyNext_long_end (I.ok.hd hc) st (by have : n ≤ i := hg; omega) fun h' eb => ⟨rfl, I.turned (t' := s.toks) (fun b o hb e => eb b o hb e) f0 f1 f3 f4 f5⟩
  self := fun _ _ _ _ _ st h => wpAny_pyIter_longiter st h
section
variable {X : Cx} {tg : Expr}
/-- a range object just made, of any ints, walked -/
theorem range_itX {pins : List (Addr × Obj)} {σ : St} {H : Hp} {s : Shared} {R : It → Hp → Prop} {E : Value → Shared → Prop} {lo hi : Int} {t u v : Tok} {tk : Nat} (I : Inv X pins σ H s)
    (q : R (Itr lo (hi - lo).toNat) H) : wpAny (model X.prog X.w) X.A (pyIter (.ref s.heap.objs.size)) (PIE X pins σ tg R) E { s with heap := s.heap.push { cls := .type "range", data := .fields #[.int lo t, .int hi u, .int 1 v] }, toks := tk } := by
  have I1 : Inv X pins σ H { s with heap := s.heap.push { cls := .type "range", data := .fields #[.int lo t, .int hi u, .int 1 v] }, toks := tk } := I.kept fun b o e => Heap.get?_push_of_some _ e
  have e1 : lo + ((0 : Nat) : Int) * 1 = lo := by simp
  have e2 : (((hi - lo).toNat : Nat) : Int) - ((0 : Nat) : Int) = Builtin.Range.rangeSize lo hi 1 := by rw [rangeSize_one]; split <;> omega
  cases hsm : Builtin.Range.small lo hi 1 with
  | true =>
    refine wpAny_pyIter_range (IsRange.new ..) hsm ?_
    refine ⟨(s.heap.push { cls := .type "range", data := .fields #[.int lo t, .int hi u, .int 1 v] }).objs.size, [(s.heap.push { cls := .type "range", data := .fields #[.int lo t, .int hi u, .int 1 v] }).objs.size], _, _, H, rfl,
      I1.kept (t' := tk) fun b o e => Heap.get?_push_of_some _ e, turn_range _ lo (hi - lo).toNat, ?_, fun b hb => ?_, q⟩
    · show IsRangeIter _ _ (lo + ((0 : Nat) : Int) * 1) ((((hi - lo).toNat : Nat) : Int) - ((0 : Nat) : Int)) 1
      rw [e1, e2]
      exact Heap.get?_push_size _ rfl
    · have e : b = (s.heap.push { cls := .type "range", data := .fields #[.int lo t, .int hi u, .int 1 v] }).objs.size := by simpa using hb
      subst e
      exact I1.fpOk (Nat.le_refl _) (I1.hok.fresh (Nat.le_refl _))
  | false =>
    refine wpAny_pyIter_longrange (IsRange.new ..) hsm ?_
    refine ⟨(s.heap.push { cls := .type "range", data := .fields #[.int lo t, .int hi u, .int 1 v] }).objs.size, [(s.heap.push { cls := .type "range", data := .fields #[.int lo t, .int hi u, .int 1 v] }).objs.size], _, _, H, rfl,
      I1.kept (t' := tk) fun b o e => Heap.get?_push_of_some _ e, turn_long _ lo (hi - lo).toNat, ?_, fun b hb => ?_, q⟩
    · show IsLongIter _ _ (lo + ((0 : Nat) : Int) * 1) ((((hi - lo).toNat : Nat) : Int) - ((0 : Nat) : Int)) 1
      rw [e1, e2]
      exact Heap.get?_push_size _ rfl
    · have e : b = (s.heap.push { cls := .type "range", data := .fields #[.int lo t, .int hi u, .int 1 v] }).objs.size := by simpa using hb
      subst e
      exact I1.fpOk (Nat.le_refl _) (I1.hok.fresh (Nat.le_refl _))
def iRngX1 (ta : TA) : TI := fun σ H R => ta σ H fun vs H1 => ∃ j : Int, vs = [.int j] ∧ R (Itr 0 j.toNat) H1
def iRngX2 (ta : TA) : TI := fun σ H R => ta σ H fun vs H1 => ∃ i j : Int, vs = [.int i, .int j] ∧ R (Itr i (j - i).toNat) H1
theorem pi_range1X {a : Expr} {ta : TA} {p pos : Pos} (hg : Gl X "range") (hm : X.mg "range" = none) (ha : PA X [a] ta) (hs : starEach [a] X.env = [(false, eval a X.env)] := by rfl) : PI X tg (.Call (.Name "range" p) [a] [] pos) (iRngX1 ta) := by
  intro pins s σ H R I h
  refine Call_ (ld_blt I hg hm boot_range (PyProof.Rows.callWith_type1 (thn (ha pos pins s σ H _ I h) fun us s1 ⟨vs, H1, I1, r1, q1⟩ => ?_) hs rfl))
  obtain ⟨j, e, q⟩ := q1
  subst e
  cases r1 with
  | cons r rr =>
    cases rr
    obtain ⟨t, rfl⟩ := r
    exact call_range_1 (range_itX I1 (by simpa using q))
theorem pi_range2X {a b : Expr} {ta : TA} {p pos : Pos} (hg : Gl X "range") (hm : X.mg "range" = none) (ha : PA X [a, b] ta) (hs : starEach [a, b] X.env = [(false, eval a X.env), (false, eval b X.env)] := by rfl) (hs2 : starEach [b] X.env = [(false, eval b X.env)] := by rfl) :
    PI X tg (.Call (.Name "range" p) [a, b] [] pos) (iRngX2 ta) := by
  intro pins s σ H R I h
  refine Call_ (ld_blt I hg hm boot_range (PyProof.Rows.callWith_type1 (thn (ha pos pins s σ H _ I h) fun us s1 ⟨vs, H1, I1, r1, q1⟩ => ?_) (by rw [hs, hs2]) (by rw [hs2]; rfl)))
  obtain ⟨i, j, e, q⟩ := q1
  subst e
  cases r1 with
  | cons r rr =>
    cases rr with
    | cons r' rr =>
      cases rr
      obtain ⟨t, rfl⟩ := r
      obtain ⟨t', rfl⟩ := r'
      exact call_range_2 (range_itX I1 q)
end
def diRngX1 (a : DA) : DI := fun δ S R => a δ S fun xs S1 => arg1 xs fun x => asI x fun j => R (intsD 0 j.toNat) S1
def diRngX2 (a : DA) : DI := fun δ S R => a δ S fun xs S1 => arg2 xs fun x y => asI x fun i => asI y fun j => R (intsD i (j - i).toNat) S1
theorem ri_rng1X {ta : TA} {da : DA} (ha : RA ta da) : RI (iRngX1 ta) (diRngX1 da) := fun h o H δ σ S R Q he hs q c =>
  ha h o H δ σ S _ _ he hs q fun o1 H1 S1 xs vs e1 s1 x1 d0 => by
    obtain ⟨x, rfl, d2⟩ := arg1_ex d0
    obtain ⟨j, rfl, d1⟩ := asI_ex d2
    obtain ⟨v, rfl, hv⟩ := hxs1 x1
    rw [hx_int hv]
    exact ⟨j, rfl, c o1 H1 S1 _ _ e1 s1 walkX_rng d1⟩
theorem ri_rng2X {ta : TA} {da : DA} (ha : RA ta da) : RI (iRngX2 ta) (diRngX2 da) := fun h o H δ σ S R Q he hs q c =>
  ha h o H δ σ S _ _ he hs q fun o1 H1 S1 xs vs e1 s1 x1 d0 => by
    obtain ⟨x, y, rfl, d2⟩ := arg2_ex d0
    obtain ⟨i, rfl, d3⟩ := asI_ex d2
    obtain ⟨j, rfl, d1⟩ := asI_ex d3
    obtain ⟨v, u, rfl, hv, hu⟩ := hxs2 x1
    rw [hx_int hv, hx_int hu]
    exact ⟨i, j, rfl, c o1 H1 S1 _ _ e1 s1 walkX_rng d1⟩
/-! any -/
def rAny (K : PySem.W.Frag) : List V → Hp → VK → Prop := fun xs H Q => ∃ (p : Addr) (bs : List Bool), xs = [.ref p] ∧ SqL K H p (bs.map V.bl) ∧ Q (.bl (bs.any id)) H
theorem bt_any : bootBuiltins "any" = some (.builtin "any") := by decide +kernel
theorem any_rng (bs : List Bool) : ((List.range bs.length).any fun i => (bs[i]?).getD true) = bs.any id := by
  rw [Bool.eq_iff_iff, List.any_eq_true, List.any_eq_true]
  constructor
  · rintro ⟨i, hi, h⟩
    have hl := List.mem_range.mp hi
    rw [List.getElem?_eq_getElem hl] at h
    exact ⟨_, List.getElem_mem hl, h⟩
  · rintro ⟨b, hb, h⟩
    obtain ⟨i, hi⟩ := List.mem_iff_getElem?.mp hb
    have hl := (List.getElem?_eq_some_iff.mp hi).1
    refine ⟨i, List.mem_range.mpr hl, ?_⟩
    rw [hi]
    exact h
theorem call_anyQ {X : Cx} (hc : X.calm = true) : CallR X (.builtin "any") (rAny X.K) := by
  intro pins s σ H xs us Q I r h
  obtain ⟨p, bs, rfl, hq, q⟩ := h
  obtain ⟨u, rfl, rx⟩ := vals1 r
  cases (show u = Value.ref p from rx)
  obtain ⟨its, rv, pl, _⟩ := I.list hq
  have hl := pl.isList
  have hlt : p < s.heap.objs.size := by
    obtain ⟨_, e, _⟩ := hl
    exact Heap.lt_size e
  refine call_any_walk (x := Value.ref p) (wpAny_pyIter_list hl ?_)
  refine ⟨s.heap.objs.size, [s.heap.objs.size, p], [s.heap.objs.size], its.toArray.size, _, _, fun i => (bs[i]?).getD true, rfl,
    Walks.list (A := X.A.in1) (I.ok.hd hc) _ p (Nat.ne_of_lt hlt) its.toArray, ⟨⟨_, Heap.get?_push_size _ rfl, rfl, rfl⟩, hl.push _⟩, fun i v s' Q' E' hP hQ => ?_, fun h' tk hk => ?_⟩
  · obtain ⟨b, e, rfl⟩ := bools_at (i := i) (v := v) rv (by simpa using hP)
    have hQ' : Q' b s' := by simpa [e] using hQ
    exact wpAny_truthy_bool hQ'
  · have hz : its.toArray.size = bs.length := by
      have := rv.length
      rw [List.length_map] at this
      simp [this]
    rw [hz, any_rng]
    refine ⟨.bl _, H, I.kept (t' := tk) fun b o e => hk b o (fun hm => ?_) (Heap.get?_push_of_some _ e), rfl, q⟩
    rw [List.mem_singleton.mp hm] at e
    exact Nat.lt_irrefl _ (Heap.lt_size e)
def dAny : List XV → Sto → RX → Prop := fun xs S R => arg1 xs fun x => ∃ ds, asLs S x = some ds ∧ ∃ ns : List Bool, ds = ns.map PyData.bool ∧ R (.d (.bool (ns.any id))) S
theorem rc_any {K : PySem.W.Frag} : RC (rAny K) dAny := fun h o H S xs vs R Q hs hx q c => by
  obtain ⟨x, rfl, ds, hd, ns, rfl, q1⟩ := arg1_ex q
  obtain ⟨v, rfl, hx1⟩ := hxs1 hx
  obtain ⟨a, ws, rfl, ea, l⟩ := hx_lst hs hd hx1
  rw [hasL_blsV l] at ea
  exact ⟨a, ns, rfl, .of ea, c o H S _ _ Ex.refl hs (xB _) q1⟩
/-! o[i] += e, a list of ints that is tracked -/
theorem get_list {X : Cx} : PGet X (rIxL X.K) := by
  intro pins s σ H o i ov iv Q I r1 r2 h
  obtain ⟨p, xs, k, z, rfl, rfl, hq, he, q⟩ := h
  cases r1
  obtain ⟨t, rfl⟩ := r2
  obtain ⟨its, r, pl, hz⟩ := I.list hq
  obtain ⟨j, h1, h2, h3, h4, h5⟩ := atI_get he
  obtain ⟨w, ew, rw'⟩ := r.get h2
  have hl := r.length
  have hn := line63
  have done : EP X pins σ Q w s := ⟨z, H, I, rw', q⟩
  by_cases h0 : 0 ≤ k
  · have hj : k.toNat = j := by
      rw [seqIndex_of h0 h5] at h1
      exact Option.some.inj h1
    exact wpAny_getItem_list pl.isList h0 (by omega) (by rw [hj]; simpa using ew) done
  · have hj : (k + (its.toArray.size : Int)).toNat = j := by
      rw [seqIndex_neg (by omega) h4] at h1
      rw [List.size_toArray, ← hl]
      exact Option.some.inj h1
    exact wpAny_getItem_list_neg pl.isList (by omega) (by rw [List.size_toArray] <;> omega) (by omega) (by rw [hj]; simpa using ew) done
def dAugS (f : Int → Int → Int) (a b e : DE) : DS := fun E δ S => a δ S fun x S1 => b δ S1 fun y S2 => ∃ k, x = .l k ∧ asI y fun i => ∃ ds, S2[k]? = some ds ∧ ∃ n, atI ds i = some (.int n) ∧ e δ S2 fun z S3 => asI z fun m => ∃ es, S3[k]? = some es ∧ ∃ j, ixN es.length i = some j ∧ E.nx δ (S3.set k (es.set j (.int (f n m))))
theorem rs_augS {K : PySem.W.Frag} {f : Int → Int → Int} {ta tb te : TE} {da db de : DE} (ha : RE ta da) (hb : RE tb db) (he' : RE te de) : RS (tAugS ta tb te (rIxL K) (ipI f) rSetL) (dAugS f da db de) := fun h o H δ σ S E D he hs q c =>
  ha h o H δ σ S _ _ he hs q fun o1 H1 S1 x v e1 s1 x1 d1 => hb h o1 H1 δ σ S1 _ _ (he.mono e1) s1 d1 fun o2 H2 S2 y u e2 s2 y2 d2 => by
    obtain ⟨k, rfl, d2⟩ := d2
    obtain ⟨i, rfl, ds, eds, n, en, d3⟩ := asI_ex d2
    obtain ⟨a, ea, rfl⟩ := x1.mono e2
    obtain ⟨ws, ew, l⟩ := s2.cont k a ds ea eds
    obtain ⟨v', ev, hv⟩ := l.atI en
    cases has_int.mp hv
    refine ⟨a, ws, i, _, rfl, hx_int y2, .of ew, ev, ?_⟩
    refine he' h o2 H2 δ σ S2 _ _ ((he.mono e1).mono e2) s2 d3 fun o3 H3 S3 z w' e3 s3 z3 d4 => ?_
    obtain ⟨m, rfl, es, ees, j, ej, d5⟩ := asI_ex d4
    have ea3 : o3[k]? = some a := by
      obtain ⟨r, rfl⟩ := e3.pre
      exact get_app ea
    obtain ⟨ws3, ew3, l3⟩ := s3.cont k a es ea3 ees
    refine ⟨n, m, rfl, hx_int z3, a, ws3, i, j, rfl, hx_int y2, ew3, by rw [l3.length]; exact ej, ?_⟩
    exact c.nx o3 _ δ _ σ (((e1.trans e2).trans e3).trans (Ex.upd ea3)) ((((he.mono e1).mono e2).mono e3).mono (Ex.upd ea3)) (s3.upd ea3 (l3.setAt (has_int.mpr rfl))) d5
section
variable {P : Program} {w : World} {K : PySem.W.Frag} {mg : Str → Option Value} {base : Heap} {x a b c d : Str} {st : Stmt} {N : List Str} {k : Nat}
theorem Df.d4 {q : P4} (D : Dd K mg x st [a, b, c, d]) (S : FnScope N [a, b, c, d] (defScope st)) (σ0 : V → V → V → V → St) (hs : ∀ v u z t, start N [v, u, z, t] = σ0 v u z t) (n : Nat) (e0 : ∀ v u z t, σ0 v u z t = some v :: some u :: some z :: some t :: List.replicate n none)
    (hbody : ∀ (f : Addr) (cdv : Value) (A : Around) (outer : List Env) (s : Shared) (H : Hp) (E : XK), Room k (A.deeper (envOfC x (defScope st) s.heap.objs.size f cdv)) →
      ∃ t dt, PSs (cxOf CX0 P w K mg base N x (defScope st) f cdv A outer s H E).nox (defBody st) t ∧ RS t dt ∧ ∀ y z r i S R, q y z r i S R → dt (dEnd S.length R) (some y :: some z :: some r :: some i :: List.replicate n none) S) : Df P w K mg base x [a, b, c, d] (k + 1) (sp4 (lf4 q)) := by
  refine Df.of4 D S σ0 hs fun f cdv A outer s H v u t0 t1 Q E hr ⟨h, o, S', y, z, r, i, R, hs', hy, hz, hw, hi, hq, c⟩ => ?_
  obtain ⟨t, dt, h1, h2, h3⟩ := hbody f cdv A outer s H E hr
  refine ⟨t, h1, h2 h o H _ _ S' _ _ ⟨?_, ?_⟩ hs' (h3 y z r i S' R hq) (eok hs' c)⟩
  · rw [e0]; simp
  · rw [e0]
    intro j g e
    match j, e with
    | 0, e => cases e; exact ⟨v, rfl, hy⟩
    | 1, e => cases e; exact ⟨u, rfl, hz⟩
    | 2, e => cases e; exact ⟨t0, rfl, hw⟩
    | 3, e => cases e; exact ⟨t1, rfl, hi⟩
    | j + 4, e => rw [List.getElem?_cons_succ, List.getElem?_cons_succ, List.getElem?_cons_succ, List.getElem?_cons_succ, List.getElem?_replicate] at e; split at e <;> cases e
end
end L2

set_option Elab.async false
set_option linter.all false
set_option maxRecDepth 100000
set_option maxHeartbeats 4000000
namespace My
open PySem L2
def top (i : Nat) : Stmt := PySem.Challenge.pw_gaugewright_k14_next_worths.main.body.getD i (.Pass ⟨0, 0, 0, 0⟩)
abbrev s_plus : Stmt := top 1
theorem sc_plus : FnScope ["one", "other"] ["one", "other"] (defScope s_plus) := ⟨rfl, rfl, rfl, by decide +kernel, rfl, by decide +kernel, by decide +kernel⟩
abbrev s_multiplied : Stmt := top 2
theorem sc_multiplied : FnScope ["one", "by", "ends"] ["one", "by"] (defScope s_multiplied) := ⟨rfl, rfl, rfl, by decide +kernel, rfl, by decide +kernel, by decide +kernel⟩
abbrev s_size_of : Stmt := top 3
theorem sc_size_of : FnScope ["one"] ["one"] (defScope s_size_of) := ⟨rfl, rfl, rfl, by decide +kernel, rfl, by decide +kernel, by decide +kernel⟩
abbrev s_span_of : Stmt := top 5
theorem sc_span_of : FnScope ["part"] ["part"] (defScope s_span_of) := ⟨rfl, rfl, rfl, by decide +kernel, rfl, by decide +kernel, by decide +kernel⟩
abbrev s_reach : Stmt := top 7
theorem sc_reach : FnScope ["drawing", "gap"] ["drawing", "gap"] (defScope s_reach) := ⟨rfl, rfl, rfl, by decide +kernel, rfl, by decide +kernel, by decide +kernel⟩
abbrev s_reach_of_terms : Stmt := top 8
theorem sc_reach_of_terms : FnScope ["drawing", "terms", "ends", "part", "times"] ["drawing", "terms"] (defScope s_reach_of_terms) := ⟨rfl, rfl, rfl, by decide +kernel, rfl, by decide +kernel, by decide +kernel⟩
abbrev s_upward : Stmt := top 9
theorem sc_upward : FnScope ["drawing", "gap", "number", "ends", "steps", "worth"] ["drawing", "gap", "number"] (defScope s_upward) := ⟨rfl, rfl, rfl, by decide +kernel, rfl, by decide +kernel, by decide +kernel⟩
abbrev s_downward : Stmt := top 10
theorem sc_downward : FnScope ["drawing", "gap", "number", "ends", "steps", "worth"] ["drawing", "gap", "number"] (defScope s_downward) := ⟨rfl, rfl, rfl, by decide +kernel, rfl, by decide +kernel, by decide +kernel⟩
abbrev s_steps_of : Stmt := top 11
theorem sc_steps_of : FnScope ["drawing", "terms", "steps", "part", "times"] ["drawing", "terms"] (defScope s_steps_of) := ⟨rfl, rfl, rfl, by decide +kernel, rfl, by decide +kernel, by decide +kernel⟩
abbrev s_can_rise : Stmt := top 12
theorem sc_can_rise : FnScope ["steps", "rise", "short", "fewest"] ["steps", "rise"] (defScope s_can_rise) := ⟨rfl, rfl, rfl, by decide +kernel, rfl, by decide +kernel, by decide +kernel⟩
abbrev s_law_cell_at : Stmt := top 14
theorem sc_law_cell_at : FnScope ["script", "k"] ["script", "k"] (defScope s_law_cell_at) := ⟨rfl, rfl, rfl, by decide +kernel, rfl, by decide +kernel, by decide +kernel⟩
abbrev s_law_next : Stmt := top 15
theorem sc_law_next : FnScope ["seed"] ["seed"] (defScope s_law_next) := ⟨rfl, rfl, rfl, by decide +kernel, rfl, by decide +kernel, by decide +kernel⟩
abbrev s_law_pen : Stmt := top 16
theorem sc_law_pen : FnScope ["cell", "left"] ["cell"] (defScope s_law_pen) := ⟨rfl, rfl, rfl, by decide +kernel, rfl, by decide +kernel, by decide +kernel⟩
abbrev s_law_draw : Stmt := top 17
theorem sc_law_draw : FnScope ["pen", "many", "found"] ["pen", "many"] (defScope s_law_draw) := ⟨rfl, rfl, rfl, by decide +kernel, rfl, by decide +kernel, by decide +kernel⟩
abbrev s_law_whole : Stmt := top 18
theorem sc_law_whole : FnScope ["found"] ["found"] (defScope s_law_whole) := ⟨rfl, rfl, rfl, by decide +kernel, rfl, by decide +kernel, by decide +kernel⟩
abbrev s_law_number : Stmt := top 19
theorem sc_law_number : FnScope ["pen", "way"] ["pen"] (defScope s_law_number) := ⟨rfl, rfl, rfl, by decide +kernel, rfl, by decide +kernel, by decide +kernel⟩
abbrev s_law_span : Stmt := top 20
theorem sc_law_span : FnScope ["pen", "low", "wide"] ["pen"] (defScope s_law_span) := ⟨rfl, rfl, rfl, by decide +kernel, rfl, by decide +kernel, by decide +kernel⟩
abbrev s_law_names : Stmt := top 21
theorem sc_law_names : FnScope ["pen", "letters", "way", "first", "names", "word", "at"] ["pen"] (defScope s_law_names) := ⟨rfl, rfl, rfl, by decide +kernel, rfl, by decide +kernel, by decide +kernel⟩
abbrev s_law_drawing : Stmt := top 22
theorem sc_law_drawing : FnScope ["pen", "most", "names", "drawing", "k"] ["pen", "most"] (defScope s_law_drawing) := ⟨rfl, rfl, rfl, by decide +kernel, rfl, by decide +kernel, by decide +kernel⟩
abbrev s_law_ends : Stmt := top 23
theorem sc_law_ends : FnScope ["drawing", "terms", "least", "most", "part", "times", "ends"] ["drawing", "terms"] (defScope s_law_ends) := ⟨rfl, rfl, rfl, by decide +kernel, rfl, by decide +kernel, by decide +kernel⟩
abbrev s_law_terms : Stmt := top 24
theorem sc_law_terms : FnScope ["pen", "drawing", "some", "terms", "part"] ["pen", "drawing"] (defScope s_law_terms) := ⟨rfl, rfl, rfl, by decide +kernel, rfl, by decide +kernel, by decide +kernel⟩
abbrev s_law_gap : Stmt := top 25
theorem sc_law_gap : FnScope ["pen", "drawing", "terms", "least", "most", "wide", "low", "high"] ["pen", "drawing"] (defScope s_law_gap) := ⟨rfl, rfl, rfl, by decide +kernel, rfl, by decide +kernel, by decide +kernel⟩
abbrev s_law_set : Stmt := top 26
theorem sc_law_set : FnScope ["pen", "drawing", "one", "name", "low", "high", "some"] ["pen", "drawing"] (defScope s_law_set) := ⟨rfl, rfl, rfl, by decide +kernel, rfl, by decide +kernel, by decide +kernel⟩
abbrev s_law_worth : Stmt := top 27
theorem sc_law_worth : FnScope ["gap", "one", "total", "part", "times"] ["gap", "one"] (defScope s_law_worth) := ⟨rfl, rfl, rfl, by decide +kernel, rfl, by decide +kernel, by decide +kernel⟩
abbrev s_law_rooms : Stmt := top 28
theorem sc_law_rooms : FnScope ["drawing", "terms", "rooms", "part", "times"] ["drawing", "terms"] (defScope s_law_rooms) := ⟨rfl, rfl, rfl, by decide +kernel, rfl, by decide +kernel, by decide +kernel⟩
abbrev s_law_rises : Stmt := top 29
theorem sc_law_rises : FnScope ["rooms", "rise", "first", "threes", "left"] ["rooms", "rise"] (defScope s_law_rises) := ⟨rfl, rfl, rfl, by decide +kernel, rfl, by decide +kernel, by decide +kernel⟩
abbrev s_law_told : Stmt := top 30
theorem sc_law_told : FnScope ["found", "least", "most"] ["found", "least", "most"] (defScope s_law_told) := ⟨rfl, rfl, rfl, by decide +kernel, rfl, by decide +kernel, by decide +kernel⟩
abbrev s_law_up_right : Stmt := top 31
theorem sc_law_up_right : FnScope ["drawing", "gap", "rooms", "number", "least", "most", "found", "first"] ["drawing", "gap", "rooms", "number"] (defScope s_law_up_right) := ⟨rfl, rfl, rfl, by decide +kernel, rfl, by decide +kernel, by decide +kernel⟩
abbrev s_law_down_right : Stmt := top 32
theorem sc_law_down_right : FnScope ["drawing", "gap", "rooms", "number", "least", "most", "found", "last"] ["drawing", "gap", "rooms", "number"] (defScope s_law_down_right) := ⟨rfl, rfl, rfl, by decide +kernel, rfl, by decide +kernel, by decide +kernel⟩
abbrev s_law_numbers : Stmt := top 33
theorem sc_law_numbers : FnScope ["pen", "least", "most", "found", "far"] ["pen", "least", "most"] (defScope s_law_numbers) := ⟨rfl, rfl, rfl, by decide +kernel, rfl, by decide +kernel, by decide +kernel⟩
abbrev s_law : Stmt := top 34
theorem sc_law : FnScope ["script", "cell", "pen", "drawing", "gap", "rooms", "least", "most", "here", "number"] ["script"] (defScope s_law) := ⟨rfl, rfl, rfl, by decide +kernel, rfl, by decide +kernel, by decide +kernel⟩
structure Txt (mg : Str → Option Value) : Prop where
  n_len : mg "len" = none
  n_isinstance : mg "isinstance" = none
  n_max : mg "max" = none
  n_min : mg "min" = none
  n_int : mg "int" = none
  n_bool : mg "bool" = none
  n_tuple : mg "tuple" = none
  n_range : mg "range" = none
  n_abs : mg "abs" = none
  n_any : mg "any" = none
section
variable {P : Program} {w : World} {K : PySem.W.Frag} {mg : Str → Option Value} {base : Heap}
def wholeD : PyData → Bool
  | .int _ => true
  | _ => false
local macro_rules | `(tactic| walk_at "rd_") => `(tactic| (try simp only [tSeq, tAsg, tRet, tIfS, tDrop, tNext, tB, tTest, tNot, tAnd, tOr, tAndV, tOrV, tNotV, tIf, tOp, tUn, tCB, tCons, tNil, tC, tC1, tC2, tC3, tC4, tC5, tTup, tLst, gName, gSub, tPart, tNoPart, tSl, tVar_iff, List.getElem?_cons_zero, List.getElem?_cons_succ, List.set_cons_zero, List.set_cons_succ, rI0_int, rI_int, rU_int, rEq_int, rEq_bl, rNe_int, rNe_bl, ex_bl, ex_int, decide_eq_true_eq, Bool.not_true, Bool.not_false, Bool.false_eq_true, ↓reduceIte, List.length_cons, List.length_nil, decide_true, decide_false, Int.reduceEq, Int.reduceLT, Int.reduceLE, Bool.or_false, Bool.or_true, Bool.and_true, Bool.and_false]))
theorem ok_cell_at (T : Txt mg) (d : Dd K mg "_law_cell_at" s_law_cell_at ["script", "k"]) : Df P w K mg base "_law_cell_at" ["script", "k"] 1 (sp2 (pCell K)) := by
  refine Df.of2 d sc_law_cell_at (fun v u => [some v, some u]) (fun _ _ => rfl) fun f cdv A outer s H v u Q E hr h => ?_
  obtain ⟨a, ns, i, rfl, rfl, hS, h0, q⟩ := h
  refine ⟨_, (pss_cons (ps_if (pt_cmpR op_lt (pv 1) (pe_callB call_lenQ (by rfl) T.n_len bt_len (pa_cons (pv 0) pa_nil)) (nomark _)) (pss_one (ps_ret (pe_ix ix_list (pv 0) (pv 1) (fun _ _ => rfl)))) pss_nil) (pss_one (ps_ret pe_int))), ?_⟩
  walk_at "rd_"
  refine ⟨a, _, rfl, .inl hS, ?_⟩
  walk_at "rd_"
  refine ite2 (fun hi => ?_) (fun _ => q 0)
  obtain ⟨n, e⟩ := atI_int h0 hi
  exact ⟨a, _, i, _, rfl, rfl, hS, e, q n⟩
theorem ok_next (d : Dd K mg "_law_next" s_law_next ["seed"]) : Df P w K mg base "_law_next" ["seed"] 1 (sp1 pNext) := by
  refine Df.of1 d sc_law_next (fun v => [some v]) (fun _ => rfl) fun f cdv A outer s H v Q E hr h => ?_
  obtain ⟨n, rfl, q⟩ := h
  refine ⟨_, (pss_cons (ps_set (i := 0) sc_law_next.nd rfl (Or.inl rfl) (pe_op op_mod (pe_op op_add (pv 0) pe_int) pe_int)) (pss_one (ps_ret (pe_op op_mod (pe_op op_add (pe_op op_add (pe_op op_mulX (pv 0) (pv 0)) (pe_op op_mulX pe_int (pv 0))) pe_int) pe_int)))), ?_⟩
  walk_at "rd_"
  have h1 := Int.emod_nonneg (n + 7919) (show (2147483647 : Int) ≠ 0 by decide)
  have h2 := Int.emod_lt_of_pos (n + 7919) (show (0 : Int) < 2147483647 by decide)
  exact ⟨by decide, mulOkL (by omega) (by omega), mulOkL (by decide) (by decide), by decide, q _ (Int.emod_nonneg _ (by decide))⟩
theorem ok_pen_of (T : Txt mg) (d : Dd K mg "_law_pen" s_law_pen ["cell"]) : Df P w K mg base "_law_pen" ["cell"] 1 (sp1 pPenOf) := by
  refine Df.of1 d sc_law_pen (fun v => [some v, none]) (fun _ => rfl) fun f cdv A outer s H v Q E hr h => ?_
  obtain ⟨n, rfl, q⟩ := h
  refine ⟨_, (pss_cons (ps_set (i := 1) sc_law_pen.nd rfl (Or.inl rfl) (pe_callB (call_max2 rfl) (by rfl) T.n_max bt_max (pa_cons (pv 0) (pa_cons (pe_op op_sub pe_int (pv 0)) pa_nil)))) (pss_one (ps_ret (pe_lst (pa_cons (pv 1) (pa_cons (pe_callTy call_int1 (by rfl) T.n_int bt_int (pa_cons (pe_cmpR op_ge (pv 1) (pe_op op_pow pe_int pe_int) (nomark _)) pa_nil)) (pa_cons (pe_op op_mod (pv 1) pe_int) pa_nil))))))), ?_⟩
  walk_at "rd_"
  refine ⟨_, _, rfl, ?_⟩
  walk_at "rd_"
  refine ⟨⟨by decide, by decide, by decide⟩, .inr ⟨_, rfl, ?_⟩⟩
  walk_at "rd_"
  refine ⟨by decide, by decide, fun p hp => ?_⟩
  refine q p _ hp (Same.laid hp) ⟨_, _, _, upd_same, ?_⟩
  split <;> omega
theorem ok_draw (Dn : Df P w K mg base "_law_next" ["seed"] 1 (sp1 pNext)) (d : Dd K mg "_law_draw" s_law_draw ["pen", "many"]) : Df P w K mg base "_law_draw" ["pen", "many"] 2 (sp2 pDraw) := by
  have D_law_next := Dn
  refine Df.of2 d sc_law_draw (fun v u => [some v, some u, none]) (fun _ _ => rfl) fun f cdv A outer s H v u Q E hr h => ?_
  obtain ⟨a, n, rfl, rfl, hP, hn, hb, q⟩ := h
  obtain ⟨l, g, sd, hp, hl⟩ := hP.ex
  refine ⟨_, (pss_cons (ps_if (pt_cmpR op_eq (pe_ix ix_list (pv 0) pe_int (fun _ _ => rfl)) pe_int (nomark _)) (pss_cons (ps_set (i := 2) sc_law_draw.nd rfl (Or.inl rfl) (pe_op op_mod (pe_ix ix_list (pv 0) pe_int (fun _ _ => rfl)) (pv 1))) (pss_cons (ps_asg (pe_op op_fdivX (pe_ix ix_list (pv 0) pe_int (fun _ _ => rfl)) (pv 1)) (pg_sub (pv 0) pe_int set_list)) (pss_one (ps_ret (pv 2))))) pss_nil) (pss_cons (ps_asg (pe_df1 D_law_next hr (by decide) (pe_op op_add (pe_df1 D_law_next hr (by decide) (pe_ix ix_list (pv 0) pe_int (fun _ _ => rfl))) pe_int)) (pg_sub (pv 0) pe_int set_list)) (pss_one (ps_ret (pe_op op_mod (pe_op op_fdivX (pe_ix ix_list (pv 0) pe_int (fun _ _ => rfl)) pe_int) (pv 1)))))), ?_⟩
  walk_at "rd_"
  refine rIxL_at hp rfl ?_
  walk_at "rd_"
  refine ite2 (fun _ => ?_) (fun _ => ?_)
  · refine rIxL_at hp rfl ?_
    walk_at "rd_"
    refine ⟨hn, rIxL_at hp rfl ?_⟩
    walk_at "rd_"
    refine ⟨⟨hn, hb⟩, rSetL_at hp rfl ?_⟩
    exact q _ _ (Int.emod_nonneg _ (by omega)) (Int.emod_lt_of_pos _ hn) ⟨_, _, _, upd_same, Int.ediv_nonneg hl (by omega)⟩ hid_upd
  · refine rIxL_at hp rfl ?_
    refine ⟨_, rfl, fun m _ => ?_⟩
    walk_at "rd_"
    refine ⟨_, rfl, fun m' h' => ?_⟩
    refine rSetL_at hp rfl ?_
    refine rIxL_at upd_same rfl ?_
    walk_at "rd_"
    exact ⟨⟨by decide, by decide +kernel⟩, hn, q _ _ (Int.emod_nonneg _ (by omega)) (Int.emod_lt_of_pos _ hn) ⟨_, _, _, upd_same, hl⟩ hid_upd⟩
theorem ok_number (Dd' : Df P w K mg base "_law_draw" ["pen", "many"] 2 (sp2 pDraw)) (d : Dd K mg "_law_number" s_law_number ["pen"]) : Df P w K mg base "_law_number" ["pen"] 3 (sp1 pNumber) := by
  have D_law_draw := Dd'
  refine Df.of1 d sc_law_number (fun v => [some v, none]) (fun _ => rfl) fun f cdv A outer s H v Q E hr h => ?_
  obtain ⟨a, rfl, hP, q⟩ := h
  refine ⟨_, (pss_cons (ps_set (i := 1) sc_law_number.nd rfl (Or.inl rfl) (pe_df2 D_law_draw hr (by decide) (pv 0) pe_int)) (pss_cons (ps_if (pt_cmpR op_lt (pv 1) pe_int (nomark _)) (pss_one (ps_ret (pe_op op_sub (pe_df2 D_law_draw hr (by decide) (pv 0) pe_int) pe_int))) pss_nil) (pss_cons (ps_if (pt_cmpR op_lt (pv 1) pe_int (nomark _)) (pss_one (ps_ret (pe_op op_sub (pe_df2 D_law_draw hr (by decide) (pv 0) pe_int) pe_int))) pss_nil) (pss_one (ps_ret (pe_op op_mulX (pe_op op_sub (pe_df2 D_law_draw hr (by decide) (pv 0) (pe_op op_mulX pe_int (pe_op op_pow pe_int pe_int))) (pe_op op_pow pe_int pe_int)) (pe_op op_pow pe_int pe_int))))))), ?_⟩
  walk_at "rd_"
  refine ⟨a, 8, rfl, rfl, hP, by decide, by decide +kernel, fun r H1 r0 r1 P1 e1 => ?_⟩
  walk_at "rd_"
  refine ite2 (fun _ => ?_) (fun _ => ?_)
  · refine ⟨a, 13, rfl, rfl, P1, by decide, by decide +kernel, fun r H1 r0 r1 P1 e2 => ?_⟩
    walk_at "rd_"
    exact q _ _ (by omega) (by omega) P1 (e2.trans e1)
  · refine ite2 (fun _ => ?_) (fun _ => ?_)
    · refine ⟨a, 2001, rfl, rfl, P1, by decide, by decide +kernel, fun r H1 r0 r1 P1 e2 => ?_⟩
      walk_at "rd_"
      exact q _ _ (by omega) (by omega) P1 (e2.trans e1)
    · refine ⟨⟨by decide, by decide, by decide⟩, mulOkL (by decide) (by decide), a, _, rfl, rfl, P1, by decide +kernel, by decide +kernel, fun r H1 r0 r1 P1 e2 => ?_⟩
      walk_at "rd_"
      have k1 : (10 : Int) ^ (30 : Int).toNat = 1000000000000000000000000000000 := by decide +kernel
      have k2 : (10 : Int) ^ (28 : Int).toNat = 10000000000000000000000000000 := by decide +kernel
      rw [k1] at r1 ⊢
      rw [k2]
      refine ⟨⟨by decide, by decide, by decide⟩, ⟨by decide, by decide, by decide⟩, mulOk 128 128 (by omega) (by decide +kernel), q _ _ (by omega) (by omega) P1 (e2.trans e1)⟩
theorem ok_span_of (Dd' : Df P w K mg base "_law_draw" ["pen", "many"] 2 (sp2 pDraw)) (Dm : Df P w K mg base "_law_number" ["pen"] 3 (sp1 pNumber)) (d : Dd K mg "_law_span" s_law_span ["pen"]) : Df P w K mg base "_law_span" ["pen"] 4 (sp1 pSpan) := by
  have D_law_draw := Dd'
  have D_law_number := Dm
  refine Df.of1 d sc_law_span (fun v => [some v, none, none]) (fun _ => rfl) fun f cdv A outer s H v Q E hr h => ?_
  obtain ⟨a, rfl, hP, q⟩ := h
  refine ⟨_, (pss_cons (ps_set (i := 1) sc_law_span.nd rfl (Or.inl rfl) (pe_df1 D_law_number hr (by decide) (pv 0))) (pss_cons (ps_set (i := 2) sc_law_span.nd rfl (Or.inl rfl) (pe_df2 D_law_draw hr (by decide) (pv 0) pe_int)) (pss_cons (ps_if (pt_cmpR op_eq (pe_df2 D_law_draw hr (by decide) (pv 0) pe_int) pe_int (nomark _)) (pss_one (ps_set (i := 2) sc_law_span.nd rfl (Or.inl rfl) (pe_df2 D_law_draw hr (by decide) (pv 0) (pe_op op_pow pe_int pe_int)))) pss_nil) (pss_one (ps_ret (pe_tup (pa_cons (pv 1) (pa_cons (pe_op op_add (pv 1) (pv 2)) pa_nil)))))))), ?_⟩
  walk_at "rd_"
  refine ⟨a, rfl, hP, fun lo H1 l0 l1 P1 e1 => ?_⟩
  refine ⟨a, 5, rfl, rfl, P1, by decide, by decide +kernel, fun wd H2 w0 w1 P2 e2 => ?_⟩
  refine ⟨a, 8, rfl, rfl, P2, by decide, by decide +kernel, fun t H3 t0 t1 P3 e3 => ?_⟩
  have fin : ∀ (wd : Int) (H4 : Hp), 0 ≤ wd → wd < 10 ^ 40 → Pen H4 a → hid a H4 = hid a H → ∀ p, H4 p = none → Q (.ref p) (upd H4 p (.tup [.int lo, .int (lo + wd)])) := by
    intro wd H4 w0 w1 P4 e4 p hp
    have t4 := P4.tr
    refine q lo (lo + wd) _ _ (by omega) l0 (by omega) (P4.same (Same.laid hp)) ((Same.of_eq e4).trans (Same.laid hp).hid) (has_tuple.mpr ⟨p, _, rfl, vw_laid (o := [a]) t4 hp, ?_⟩)
    exact hasL_cons.mpr ⟨_, _, rfl, has_int.mpr rfl, hasL_cons.mpr ⟨_, _, rfl, has_int.mpr rfl, hasL_nil.mpr rfl⟩⟩
  walk_at "rd_"
  refine ite2 (fun _ => ?_) (fun _ => ?_)
  · refine ⟨⟨by decide, by decide, by decide⟩, a, _, rfl, rfl, P3, by decide +kernel, by decide +kernel, fun wd H4 w0 w1 P4 e4 => ?_⟩
    walk_at "rd_"
    exact ⟨by decide, fin wd H4 w0 w1 P4 (((e4.trans e3).trans e2).trans e1)⟩
  · exact ⟨by decide, fin wd H3 w0 (by omega) P3 ((e3.trans e2).trans e1)⟩

def pNames : V → Hp → VK → Prop := fun x H Q => ∃ a, x = .ref a ∧ Pen H a ∧ ∀ (ns : List Str) v H', ns.length = 8 → (∀ y ∈ ns, y.length ≤ 10000) → Pen H' a → Same (hid a H) (hid a H') → Has (hid a H') (.list (ns.map PyData.str)) v → Q v H'
def prtD (p : Str × Int × Int) : PyData := .tuple [.str p.1, .int p.2.1, .int p.2.2]
def drwD (ps : List (Str × Int × Int)) : PyData := .tuple (ps.map prtD)
def Prt (p : Str × Int × Int) : Prop := p.1.length ≤ 10000 ∧ p.2.1 ≤ p.2.2 ∧ -10 ^ 58 ≤ p.2.1 ∧ p.2.2 ≤ 10 ^ 59
theorem tup_prts : ∀ ps : List (Str × Int × Int), tupDs (ps.map prtD) = true
  | [] => rfl
  | p :: ps => by
    show (tupD (prtD p) && tupDs (ps.map prtD)) = true
    rw [tup_prts ps]
    rfl
structure Drw (ps : List (Str × Int × Int)) : Prop where
  l1 : 1 ≤ ps.length
  l8 : ps.length ≤ 8
  all : ∀ p ∈ ps, Prt p
theorem ok_names (T : Txt mg) (D_law_draw : Df P w K mg base "_law_draw" ["pen", "many"] 2 (sp2 pDraw)) (d : Dd K mg "_law_names" s_law_names ["pen"]) : Df P w K mg base "_law_names" ["pen"] 3 (sp1 pNames) := by
  refine Df.of1 d sc_law_names (fun v => [some v, none, none, none, none, none, none]) (fun _ => rfl) fun f cdv A outer s H v Q E hr h => ?_
  obtain ⟨a, rfl, hP, q⟩ := h
  refine ⟨_, (pss_cons (ps_set (i := 1) sc_law_names.nd rfl (Or.inr rfl) pe_str) (pss_cons (ps_set (i := 2) sc_law_names.nd rfl (Or.inl rfl) (pe_df2 D_law_draw hr (by decide) (pv 0) pe_int)) (pss_cons (ps_set (i := 3) sc_law_names.nd rfl (Or.inr rfl) (pe_df2 D_law_draw hr (by decide) (pv 0) pe_int)) (pss_cons (ps_setC (i := 4) (fun _ _ h => h) rfl (compOk_of rfl rfl rfl rfl (N := ["k", "letters", "first"]) (caps := [none, some 1, some 3]) (by show capsOk ["pen", "letters", "way", "first", "names", "word", "at"] (defScope s_law_names).names _ _ _ = true; decide +kernel)) sc_law_names.nd rfl rfl (pi_range1 rfl T.n_range (pa_cons pe_int pa_nil)) (fun _ _ _ _ => (pg_name (i := 0) (by show List.Nodup (["k", "letters", "first"] : List Str); decide) rfl (Or.inl rfl))) (fun _ _ _ _ => pts_nil) (fun _ _ _ _ => (pe_op op_mulS (pe_ix ix_str (pv 1) (pe_op op_mod (pe_op op_add (pv 2) (pe_op op_mulX pe_int (pv 0))) pe_int) (fun _ _ => rfl)) (pe_op op_add pe_int (pe_op op_mod (pe_op op_add (pv 2) (pe_op op_mulX pe_int (pv 0))) pe_int))))) (pss_cons (ps_if (pt_cmpR op_eq (pv 2) pe_int (nomark _)) (pss_cons (ps_set (i := 5) sc_law_names.nd rfl (Or.inr rfl) (pe_bm PySem.F.plainAttrs_str PySem.F.slot_str_join PySem.F.type_str_join mt_join pe_str (pa_cons (pe_comp (fun _ _ h => h) rfl (compOk_of rfl rfl rfl rfl (N := ["k", "letters", "first"]) (caps := [none, some 1, some 3]) (by show capsOk ["pen", "letters", "way", "first", "names", "word", "at"] (defScope s_law_names).names _ _ _ = true; decide +kernel)) (pi_range1 rfl T.n_range (pa_cons pe_int pa_nil)) (fun _ _ _ _ => (pg_name (i := 0) (by show List.Nodup (["k", "letters", "first"] : List Str); decide) rfl (Or.inl rfl))) (fun _ _ _ _ => pts_nil) (fun _ _ _ _ => (pe_ix ix_str (pv 1) (pe_op op_mod (pe_op op_add (pv 2) (pe_op op_mulX pe_int (pv 0))) pe_int) (fun _ _ => rfl)))) pa_nil))) (pss_one (ps_setC (i := 4) (fun _ _ h => h) rfl (compOk_of rfl rfl rfl rfl (N := ["k", "word"]) (caps := [none, some 5]) (by show capsOk ["pen", "letters", "way", "first", "names", "word", "at"] (defScope s_law_names).names _ _ _ = true; decide +kernel)) sc_law_names.nd rfl rfl (pi_range1 rfl T.n_range (pa_cons pe_int pa_nil)) (fun _ _ _ _ => (pg_name (i := 0) (by show List.Nodup (["k", "word"] : List Str); decide) rfl (Or.inl rfl))) (fun _ _ _ _ => pts_nil) (fun _ _ _ _ => (pe_slice sl_str (pv 1) po_none (po_some (pe_op op_add (pv 0) pe_int))))))) pss_nil) (pss_cons (ps_if (pt_cmpR op_eq (pv 2) pe_int (nomark _)) (pss_one (ps_set (i := 4) sc_law_names.nd rfl (Or.inl rfl) (pe_lst (pa_cons pe_str (pa_cons pe_str (pa_cons pe_str (pa_cons pe_str (pa_cons pe_str (pa_cons pe_str (pa_cons pe_str (pa_cons pe_str pa_nil))))))))))) pss_nil) (pss_cons (ps_set (i := 6) sc_law_names.nd rfl (Or.inl rfl) (pe_df2 D_law_draw hr (by decide) (pv 0) pe_int)) (pss_cons (ps_set (i := 4) sc_law_names.nd rfl (Or.inl rfl) (pe_op op_cat (pe_slice sl_list (pv 4) (po_some (pv 6)) po_none) (pe_slice sl_list (pv 4) po_none (po_some (pv 6))))) (pss_cons (ps_if (pt_cmpR op_eq (pe_df2 D_law_draw hr (by decide) (pv 0) pe_int) pe_int (nomark _)) (pss_one (ps_expr (pe_bm0 PySem.F.plainAttrs_list PySem.F.slot_list_reverse PySem.F.type_list_reverse mt_reverse (pv 4)))) pss_nil) (pss_one (ps_ret (pv 4)))))))))))), ?_⟩
  refine ⟨_, rfl, a, 3, rfl, rfl, hP, by decide, by decide +kernel, fun way H1 w0 w1 P1 e1 => ?_⟩
  refine ⟨_, rfl, a, 26, rfl, rfl, P1, by decide, by decide +kernel, fun fst H2 f0 f1 P2 e2 => ?_⟩
  have s2 : Same (hid a H) (hid a H2) := Same.of_eq (e2.trans e1)
  have letl : (Str.ofString "abcdefghijklmnopqrstuvwxyz").length = 26 := by decide
  -- the names, at first
  dsimp only [gName, List.set_cons_zero, List.set_cons_succ]
  refine seq_cut (fun σ' H' => ∃ (ns : List Str) (v : V), σ' = [some (.ref a), some (.str "abcdefghijklmnopqrstuvwxyz"), some (.int way), some (.int fst), some v, none, none] ∧ ns.length = 8 ∧ (∀ y ∈ ns, y.length ≤ 1000) ∧ Pen H' a ∧ Same (hid a H) (hid a H') ∧ Has (hid a H') (.list (ns.map PyData.str)) v) (fun N hN => ?_) ?_
  · refine (gv_compN (o := [a]) (j := 0) (f := fun d => match d with | .int k => .str (PySem.Txt.mul (sgn "abcdefghijklmnopqrstuvwxyz" ((fst + 5 * k) % 26)) (1 + (fst + 3 * k) % 8)) | _ => .none) (src_rng1 (j := 8) (gva_cons gv_int gva_nil) (by decide) (by decide)) P2.tr (by decide)
      (fun τ => ∃ u, τ = [u, some (.str "abcdefghijklmnopqrstuvwxyz"), some (.int fst)]) ?_ (by rintro _ x ⟨u, rfl⟩; exact ⟨_, rfl⟩) ?_ : Gv [a] _ H2 _ _) H2 _ (Same.refl H2) fun v H3 s3 h3 => hN _ _ ⟨(List.range 8).map fun k : Nat => PySem.Txt.mul (sgn "abcdefghijklmnopqrstuvwxyz" ((fst + 5 * (0 + k)) % 26)) (1 + (fst + 3 * (0 + k)) % 8), v, rfl, rfl, ?_, P2.same s3, s2.trans s3.hid, ?_⟩
    · exact ⟨_, rfl⟩
    · rintro dx x _ D H3 m ⟨u, rfl⟩ s3 hD sv hx
      obtain ⟨i, hi⟩ := List.mem_iff_getElem?.mp m
      obtain ⟨i8, rfl⟩ := intsD_get hi
      cases has_int.mp hx
      have i8' : i < 8 := i8
      have b1 := Int.emod_nonneg (fst + 5 * (0 + (i : Int))) (show (26 : Int) ≠ 0 by decide)
      have b2 := Int.emod_lt_of_pos (fst + 5 * (0 + (i : Int))) (show (0 : Int) < 26 by decide)
      have b3 := Int.emod_nonneg (fst + 3 * (0 + (i : Int))) (show (8 : Int) ≠ 0 by decide)
      have b4 := Int.emod_lt_of_pos (fst + 3 * (0 + (i : Int))) (show (0 : Int) < 8 by decide)
      exact gv_mulS (gv_ixS (gv_var (i := 1) rfl (has_str.mpr rfl)) (gv_Ii (gv_I0i (gv_varI (i := 2) rfl) (gv_Ii gv_int (gv_varI (i := 0) rfl) (mulOkL (by decide) (by decide)))) gv_int (by decide)) (by decide) b1 (by rw [letl]; exact b2)) (gv_I0i gv_int (gv_Ii (gv_I0i (gv_varI (i := 2) rfl) (gv_Ii gv_int (gv_varI (i := 0) rfl) (mulOkL (by decide) (by decide)))) gv_int (by decide))) (by rw [sgn_len]; decide) (by omega) (by omega)
    · intro y hy
      obtain ⟨k, hk, rfl⟩ := List.mem_map.mp hy
      have b3 := Int.emod_nonneg (fst + 3 * (0 + (k : Int))) (show (8 : Int) ≠ 0 by decide)
      have b4 := Int.emod_lt_of_pos (fst + 3 * (0 + (k : Int))) (show (0 : Int) < 8 by decide)
      refine Nat.le_trans len_mul ?_
      rw [sgn_len]
      omega
    · rw [List.map_map]
      exact h3
  · rintro _ H3 ⟨ns, v, rfl, hn, hy, P3, s3, h3⟩
    -- way 0
    refine seq_cut (fun σ' H' => ∃ (ns : List Str) (v : V) (u : Option V), σ' = [some (.ref a), some (.str "abcdefghijklmnopqrstuvwxyz"), some (.int way), some (.int fst), some v, u, none] ∧ ns.length = 8 ∧ (∀ y ∈ ns, y.length ≤ 10000) ∧ Pen H' a ∧ Same (hid a H) (hid a H') ∧ Has (hid a H') (.list (ns.map PyData.str)) v) (fun N hN => ?_) ?_
    · refine ((gt_t (o := []) (gv_eqI (gv_varI rfl) gv_int)) : GvT _ H3 _ _) H3 _ (Same.refl H3) fun H4 s4 => ?_
      have P4 := P3.same s4
      refine ite2 (fun _ => ?_) (fun _ => hN _ _ ⟨ns, v, none, rfl, hn, fun y m => Nat.le_trans (hy y m) (by decide), P4, s3.trans s4.hid, h3.mono s4.hid⟩)
      refine ⟨rfl, ?_⟩
      refine (gv_compN (o := [a]) (j := 0) (f := fun d => match d with | .int k => .str (sgn "abcdefghijklmnopqrstuvwxyz" ((fst + 7 * k) % 26)) | _ => .none) (src_rng1 (j := 8) (gva_cons gv_int gva_nil) (by decide) (by decide)) P4.tr (by decide)
        (fun τ => ∃ u, τ = [u, some (.str "abcdefghijklmnopqrstuvwxyz"), some (.int fst)]) ?_ (by rintro _ x ⟨u, rfl⟩; exact ⟨_, rfl⟩) ?_ : Gv [a] _ H4 _ _) H4 _ (Same.refl H4) fun lv H5 s5 h5 => ?_
      · exact ⟨_, rfl⟩
      · rintro dx x _ D H5 m ⟨u, rfl⟩ s5 hD sv hx
        obtain ⟨i, hi⟩ := List.mem_iff_getElem?.mp m
        obtain ⟨i8, rfl⟩ := intsD_get hi
        cases has_int.mp hx
        have b1 := Int.emod_nonneg (fst + 7 * (0 + (i : Int))) (show (26 : Int) ≠ 0 by decide)
        have b2 := Int.emod_lt_of_pos (fst + 7 * (0 + (i : Int))) (show (0 : Int) < 26 by decide)
        exact gv_ixS (gv_var (i := 1) rfl (has_str.mpr rfl)) (gv_Ii (gv_I0i (gv_varI (i := 2) rfl) (gv_Ii gv_int (gv_varI (i := 0) rfl) (mulOkL (by decide) (by decide)))) gv_int (by decide)) (by decide) b1 (by rw [letl]; exact b2)
      obtain ⟨zs, ez, hz⟩ : ∃ zs : List Str, (intsD 0 8).map (fun d => match d with | .int k => .str (sgn "abcdefghijklmnopqrstuvwxyz" ((fst + 7 * k) % 26)) | _ => .none) = zs.map PyData.str ∧ zs.length = 8 ∧ ∀ y ∈ zs, y.length ≤ 1000 :=
        ⟨(List.range 8).map fun k : Nat => sgn "abcdefghijklmnopqrstuvwxyz" ((fst + 7 * (0 + k)) % 26), by rw [List.map_map]; rfl, by simp, fun y m => by obtain ⟨k, _, rfl⟩ := List.mem_map.mp m; rw [sgn_len]; decide⟩
      have h5' : Has (vw [a] H5) (.list (zs.map PyData.str)) lv := by
        have k : Has (vw [a] H5) (.list ((intsD 0 8).map _)) lv := h5
        rw [ez] at k
        exact k
      obtain ⟨p, vs, rfl, ep, lp⟩ := has_list.mp h5'
      cases hasL_strs lp
      refine ⟨_, p, zs, rfl, rfl, .of (vw_same _ _ ep), by decide, by omega, hz.2, ?_⟩
      have P5 := P4.same s5
      have wl : (PySem.Txt.join "" zs).length ≤ 8 * 1016 := hz.1 ▸ len_join (by decide) hz.2
      -- names = [word[:k + 1] ..]
      refine (gv_compN (o := [a]) (j := 0) (f := fun d => match d with | .int k => .str (PySem.Txt.slice (PySem.Txt.join "" zs) none (some (k + 1))) | _ => .none) (src_rng1 (j := 8) (gva_cons gv_int gva_nil) (by decide) (by decide)) P5.tr (by decide)
        (fun τ => ∃ u, τ = [u, some (.str (PySem.Txt.join "" zs))]) ?_ (by rintro _ x ⟨u, rfl⟩; exact ⟨_, rfl⟩) ?_ : Gv [a] _ H5 _ _) H5 _ (Same.refl H5) fun v6 H6 s6 h6 => hN _ _ ⟨(List.range 8).map fun k : Nat => PySem.Txt.slice (PySem.Txt.join "" zs) none (some (0 + k + 1)), v6, _, rfl, rfl, ?_, P5.same s6, ((s3.trans s4.hid).trans s5.hid).trans s6.hid, ?_⟩
      · exact ⟨_, rfl⟩
      · rintro dx x _ D H6 m ⟨u, rfl⟩ s6 hD sv hx
        obtain ⟨i, hi⟩ := List.mem_iff_getElem?.mp m
        obtain ⟨i8, rfl⟩ := intsD_get hi
        cases has_int.mp hx
        exact gv_slS (gv_var (i := 1) rfl (has_str.mpr rfl)) (gv_I0i (gv_varI (i := 0) rfl) gv_int) (Nat.le_trans wl (by decide))
      · intro y hy
        obtain ⟨k, hk, rfl⟩ := List.mem_map.mp hy
        exact Nat.le_trans (PySem.Txt.slice_le _ _ _) (Nat.le_trans wl (by decide))
      · rw [List.map_map]
        exact h6
    · rintro _ H4 ⟨ns, v, u, rfl, hn, hy, P4, s4, h4⟩
      -- way 1
      refine seq_cut (fun σ' H' => ∃ (ns : List Str) (v : V) (u : Option V), σ' = [some (.ref a), some (.str "abcdefghijklmnopqrstuvwxyz"), some (.int way), some (.int fst), some v, u, none] ∧ ns.length = 8 ∧ (∀ y ∈ ns, y.length ≤ 10000) ∧ Pen H' a ∧ Same (hid a H) (hid a H') ∧ Has (hid a H') (.list (ns.map PyData.str)) v) (fun N hN => ?_) ?_
      · refine ((gt_t (o := []) (gv_eqI (gv_varI rfl) gv_int)) : GvT _ H4 _ _) H4 _ (Same.refl H4) fun H5 s5 => ?_
        have P5 := P4.same s5
        refine ite2 (fun _ => ?_) (fun _ => hN _ _ ⟨ns, v, u, rfl, hn, hy, P5, s4.trans s5.hid, h4.mono s5.hid⟩)
        refine ((gv_lst P5.tr (gva_cons gv_str (gva_cons gv_str (gva_cons gv_str (gva_cons gv_str (gva_cons gv_str (gva_cons gv_str (gva_cons gv_str (gva_cons gv_str gva_nil)))))))) (by exact Nat.le_of_ble_eq_true rfl)) : Gv [a] _ H5 _ _) H5 _ (Same.refl H5) fun v6 H6 s6 h6 => hN _ _ ⟨["part", "gap", "cut", "a", "aa", "dear", "b", "keeps"], v6, u, rfl, rfl, ?_, P5.same s6, (s4.trans s5.hid).trans s6.hid, h6⟩
        intro y hy
        simp only [List.mem_cons, List.not_mem_nil, or_false] at hy
        rcases hy with rfl | rfl | rfl | rfl | rfl | rfl | rfl | rfl <;> decide
      · rintro _ H5 ⟨ns, v, u, rfl, hn, hy, P5, s5, h5⟩
        refine ⟨_, rfl, a, 8, rfl, rfl, P5, by decide, by decide +kernel, fun at' H6 a0 a1 P6 e6 => ?_⟩
        have s6 : Same (hid a H) (hid a H6) := s5.trans (Same.of_eq e6)
        have h6 : Has (hid a H6) (.list (ns.map PyData.str)) v := h5.mono (Same.of_eq e6)
        obtain ⟨p, vs, rfl, ep, lp⟩ := has_list.mp h6
        have ep' := hid_same _ _ ep
        have lp' := hasL_strs lp
        subst lp'
        refine ⟨_, rfl, _, rfl, at', rfl, p, _, rfl, .of ep', fun p1 hp1 => ?_⟩
        have d1 := Same.laid (o := .lst (cutV (ns.map V.str) (some at') none)) hp1
        refine ⟨_, rfl, _, rfl, at', rfl, p, _, rfl, .of (d1 _ _ ep'), fun p2 hp2 => ?_⟩
        have d2 := Same.laid (o := .lst (cutV (ns.map V.str) none (some at'))) hp2
        have c1 : cutV (ns.map V.str) (some at') none = (cutL ns (some at') none).map V.str := (cutL_map V.str ns _ _).symm
        have c2 : cutV (ns.map V.str) none (some at') = (cutL ns none (some at')).map V.str := (cutL_map V.str ns _ _).symm
        have ne12 : p1 ≠ p2 := ne_of_none upd_same hp2
        refine ⟨p1, p2, _, _, rfl, rfl, (by rw [upd_ne ne12, upd_same]), upd_same, ?_, fun p3 hp3 => ?_⟩
        · have z1 := cutV_length (ns.map V.str) (some at') none
          have z2 := cutV_length (ns.map V.str) none (some at')
          rw [List.length_map, hn] at z1 z2
          exact Nat.le_trans (Nat.add_le_add z1 z2) (by decide)
        have d3 := Same.laid (o := .lst (cutV (ns.map V.str) (some at') none ++ cutV (ns.map V.str) none (some at'))) hp3
        have d123 := (d1.trans d2).trans d3
        have P7 := P6.same d123
        have s7 := s6.trans d123.hid
        have hm : ∀ y ∈ cutL ns (some at') none ++ cutL ns none (some at'), y.length ≤ 10000 := fun y m => by
          rcases List.mem_append.mp m with m | m
          · exact hy y (cutL_mem m)
          · exact hy y (cutL_mem m)
        have hl : (cutL ns (some at') none ++ cutL ns none (some at')).length = 8 := by rw [cut_two ns a0, hn]
        have ev : cutV (ns.map V.str) (some at') none ++ cutV (ns.map V.str) none (some at') = (cutL ns (some at') none ++ cutL ns none (some at')).map V.str := by rw [c1, c2, List.map_append]
        have np : p3 ≠ a := fun e => by
          obtain ⟨_, _, _, ea, _⟩ := (P6.same (d1.trans d2)).ex
          rw [e, ea] at hp3
          cases hp3
        have f3 : hid a H p3 = none := by
          cases e : hid a H p3 with
          | none => rfl
          | some u0 =>
            have k := (d1.trans d2) _ _ (hid_same _ _ (s6 _ _ e))
            rw [hp3] at k
            cases k
        generalize hH7 : upd (upd (upd H6 p1 (.lst (cutV (ns.map V.str) (some at') none))) p2 (.lst (cutV (ns.map V.str) none (some at')))) p3 (.lst (cutV (ns.map V.str) (some at') none ++ cutV (ns.map V.str) none (some at'))) = H7 at *
        have e7 : H7 p3 = some (.lst ((cutL ns (some at') none ++ cutL ns none (some at')).map V.str)) := by rw [← hH7, upd_same, ev]
        dsimp only [gName, List.set_cons_zero, List.set_cons_succ]
        refine seq_cut (fun σ' H' => ∃ (ns : List Str), (∃ r, σ' = r ∧ r[4]? = some (some (.ref p3))) ∧ ns.length = 8 ∧ (∀ y ∈ ns, y.length ≤ 10000) ∧ Pen H' a ∧ Same (hid a H) (hid a H') ∧ H' p3 = some (.lst (ns.map V.str))) (fun N hN => ?_) ?_
        · refine ⟨_, rfl, a, 2, rfl, rfl, P7, by decide, by decide +kernel, fun r H8 r0 r1 P8 e8 => ?_⟩
          have e3 : H8 p3 = some (.lst ((cutL ns (some at') none ++ cutL ns none (some at')).map V.str)) := by
            have q := congrFun e8 p3
            rw [hid_at np, hid_at np] at q
            rw [q, e7]
          have s8 := s7.trans (Same.of_eq e8)
          dsimp only [tC]
          refine rEq_int.mpr ?_
          refine ⟨_, rfl, ?_⟩
          refine ite2 (fun _ => ?_) (fun _ => hN _ _ ⟨_, ⟨_, rfl, rfl⟩, hl, hm, P8, s8, e3⟩)
          refine ⟨_, rfl, .inl ⟨rfl, _, .of e3⟩, p3, _, rfl, rfl, e3, hN _ _ ⟨(cutL ns (some at') none ++ cutL ns none (some at')).reverse, ⟨_, rfl, rfl⟩, by rw [List.length_reverse]; exact hl, fun y m => hm y (List.mem_reverse.mp m), ?_, ?_, ?_⟩⟩
          · obtain ⟨x1, x2, x3, ea, h0⟩ := P8.ex
            exact ⟨x1, x2, x3, by rw [upd_ne (Ne.symm np)]; exact ea, h0⟩
          · exact s8.hid_upd f3
          · rw [upd_same, List.map_reverse]
        · rintro _ H8 ⟨ns', ⟨_, rfl, e4⟩, hn', hy', P8, s8, e3⟩
          refine ⟨_, e4, q ns' _ H8 hn' hy' P8 s8 (has_list.mpr ⟨p3, _, rfl, (hid_at np).trans e3, strs_hasL⟩)⟩
def pDrawing : V → V → Hp → VK → Prop := fun x y H Q => ∃ a m, x = .ref a ∧ y = .int m ∧ 1 ≤ m ∧ m ≤ 8 ∧ Pen H a ∧ ∀ ps v H', Drw ps → Pen H' a → Same (hid a H) (hid a H') → Has (hid a H') (drwD ps) v → Q v H'
theorem ok_drawing (T : Txt mg) (D_law_draw : Df P w K mg base "_law_draw" ["pen", "many"] 2 (sp2 pDraw)) (D_law_span : Df P w K mg base "_law_span" ["pen"] 4 (sp1 pSpan)) (D_law_names : Df P w K mg base "_law_names" ["pen"] 3 (sp1 pNames))
    (d : Dd K mg "_law_drawing" s_law_drawing ["pen", "most"]) : Df P w K mg base "_law_drawing" ["pen", "most"] 5 (sp2 pDrawing) := by
  refine Df.of2 d sc_law_drawing (fun v u => [some v, some u, none, none, none]) (fun _ _ => rfl) fun f cdv A outer s H v u Q E hr h => ?_
  obtain ⟨a, m, rfl, rfl, m1, m8, hP, q⟩ := h
  refine ⟨_, (pss_cons (ps_set (i := 2) sc_law_drawing.nd rfl (Or.inl rfl) (pe_df1 D_law_names hr (by decide) (pv 0))) (pss_cons (ps_set (i := 3) sc_law_drawing.nd rfl (Or.inl rfl) (pe_lst pa_nil)) (pss_cons (ps_for PassesOwn.never rfl (pi_range1 rfl T.n_range (pa_cons (pe_op op_add pe_int (pe_df2 D_law_draw hr (by decide) (pv 0) (pv 1))) pa_nil)) (pg_name (i := 4) sc_law_drawing.nd rfl (Or.inl rfl)) (pss_one (ps_expr (pe_bm PySem.F.plainAttrs_list PySem.F.slot_list_append PySem.F.type_list_append mt_append (pv 3) (pa_cons (pe_op op_catT (pe_tup (pa_cons (pe_ix ix_list (pv 2) (pv 4) (fun _ _ => rfl)) pa_nil)) (pe_df1 D_law_span hr (by decide) (pv 0))) pa_nil))))) (pss_one (ps_ret (pe_callTy call_tuple_of (by rfl) T.n_tuple bt_tuple (pa_cons (pv 3) pa_nil))))))), ?_⟩
  refine ⟨_, rfl, a, rfl, hP, fun ns nv H1 n8 hy P1 s1 h1 => ?_⟩
  obtain ⟨nq, vs, rfl, eq, lq⟩ := has_list.mp h1
  have lq' := hasL_strs lq
  subst lq'
  refine ⟨by decide, fun p hp => ?_⟩
  have nap : p ≠ a := fun e => by
    obtain ⟨_, _, _, ea, _⟩ := P1.ex
    rw [e, ea] at hp
    cases hp
  have f0 : hid a H p = none := by
    cases e : hid a H p with
    | none => rfl
    | some u0 =>
      have k := hid_same _ _ (s1 _ _ e)
      rw [hp] at k
      cases k
  have nqp : nq ≠ p := ne_of_none (hid_same _ _ eq) hp
  have s2 : Same (hid a H) (hid a (upd H1 p (.lst []))) := s1.hid_upd f0
  have P2 : Pen (upd H1 p (.lst [])) a := P1.same (Same.laid hp)
  refine ⟨_, rfl, _, rfl, a, m, rfl, rfl, P2, by omega, log2_small (by omega) (by omega), fun r H2 r0 r1 P3 e3 => ?_⟩
  refine ⟨1, r, rfl, rfl, 1 + r, rfl, by omega, by omega, ?_⟩
  have e3p : ∀ b, b ≠ a → H2 b = upd H1 p (.lst []) b := fun b hb => by
    have k := congrFun e3 b
    rwa [hid_at hb, hid_at hb] at k
  have naq : nq ≠ a := fun e => by rw [e, hid_self] at eq; cases eq
  refine for_range (lo := 0) (n := (1 + r).toNat) (fun i σ' H' => ∃ (ps : List (Str × Int × Int)) (vs : List V) (u : Option V), σ' = [some (.ref a), some (.int m), some (.ref nq), some (.ref p), u] ∧ ps.length = i ∧ (∀ x ∈ ps, Prt x) ∧ Pen H' a ∧ Same (hid a H) (hid a H') ∧ H' p = some (.lst vs) ∧ HasL H' (ps.map prtD) vs ∧ H' nq = some (.lst (ns.map V.str))) ?_ ?_ ?_
  · exact ⟨[], [], _, rfl, rfl, by simp, P3, s2.trans (Same.of_eq e3), by rw [e3p p nap, upd_same], hasL_nil.mpr rfl, by rw [e3p nq naq, upd_ne nqp]; exact hid_same _ _ eq⟩
  · rintro i _ H3 hi ⟨ps, vs, u, rfl, hl, hps, P4, s4, e4, l4, n4⟩
    have i8 : i < 8 := by omega
    obtain ⟨nm, enm, hnm⟩ : ∃ nm, ns[i]? = some nm ∧ nm ∈ ns := ⟨ns[i], List.getElem?_eq_getElem (by omega), List.getElem_mem _⟩
    refine ⟨_, rfl, .inl ⟨rfl, vs, .of e4⟩, ?_⟩
    refine ⟨_, rfl, _, rfl, nq, _, _, .str nm, rfl, rfl, .of n4, atI_nat' (by rw [List.getElem?_map, enm]; rfl), (by exact Nat.le_of_ble_eq_true rfl), fun p1 hp1 => ?_⟩
    have d1 := Same.laid (o := .tup [.str nm]) hp1
    have nap1 : p1 ≠ a := fun e => by
      obtain ⟨_, _, _, ea, _⟩ := P4.ex
      rw [e, ea] at hp1
      cases hp1
    have np1 : p ≠ p1 := ne_of_none e4 hp1
    have nq1 : nq ≠ p1 := ne_of_none n4 hp1
    refine ⟨_, rfl, a, rfl, P4.same d1, fun lo hi v H4 lh l0 h0 P5 s5 h5 => ?_⟩
    have k5 : ∀ b o, b ≠ a → upd H3 p1 (.tup [.str nm]) b = some o → H4 b = some o := fun b o hb e => hid_same _ _ (s5 b o ((hid_at hb).trans e))
    obtain ⟨sp, vs', rfl, e5, l5⟩ := has_tuple.mp h5
    obtain ⟨v1, r1', rfl, hv1, l6⟩ := hasL_cons.mp l5
    obtain ⟨v2, r2', rfl, hv2, l7⟩ := hasL_cons.mp l6
    cases hasL_nil.mp l7
    cases has_int.mp hv1
    cases has_int.mp hv2
    have e1' : H4 p1 = some (.tup [.str nm]) := k5 p1 _ nap1 upd_same
    refine ⟨p1, sp, _, _, rfl, rfl, .of e1', (.of (hid_same _ _ e5)), by simp, (by exact Nat.le_of_ble_eq_true rfl), fun z => (by cases z), fun _ p2 hp2 => ?_⟩
    have ep : H4 p = some (.lst vs) := k5 p _ nap (by rw [upd_ne np1]; exact e4)
    have eqn : H4 nq = some (.lst (ns.map V.str)) := k5 nq _ naq (by rw [upd_ne nq1]; exact n4)
    have np2 : p ≠ p2 := ne_of_none ep hp2
    have nq2 : nq ≠ p2 := ne_of_none eqn hp2
    have d2 := Same.laid (o := .tup ([.str nm] ++ [.int lo, .int hi])) hp2
    have lv : vs.length = i := by rw [l4.length, List.length_map, hl]
    refine ⟨p, vs, _, rfl, rfl, by rw [upd_ne np2]; exact ep, Nat.lt_of_le_of_lt (by omega) (small1000 (n := 8) (by decide)), ?_⟩
    have s4' : Same (hid a H3) (hid a H4) := (d1.hid).trans s5
    have tq : tupDs (ps.map prtD) = true := tup_prts ps
    have l8 : HasL H4 (ps.map prtD) vs := by
      have k : HasL (vw [a] H3) (ps.map prtD) vs := HasL.vwT (o := [a]) P4.trl _ _ tq l4
      exact HasL.mono (fun b o e => hid_same _ _ (s4' b o e)) _ _ k
    refine ⟨ps ++ [(nm, lo, hi)], vs ++ [.ref p2], _, rfl, by simp [hl], fun x hx => ?_, ?_, ?_, upd_same, ?_, ?_⟩
    · rcases List.mem_append.mp hx with hx | hx
      · exact hps x hx
      · rw [List.mem_singleton.mp hx]
        exact ⟨hy nm hnm, lh, l0, h0⟩
    · obtain ⟨x1, x2, x3, ea, hx0⟩ := (P5.same d2).ex
      exact ⟨x1, x2, x3, by rw [upd_ne (Ne.symm nap)]; exact ea, hx0⟩
    · exact ((s4.trans s4').trans d2.hid).hid_upd f0
    · rw [List.map_append]
      have k1 : HasL (upd (upd H4 p2 (.tup ([.str nm] ++ [.int lo, .int hi]))) p (.lst (vs ++ [.ref p2]))) (ps.map prtD) vs := HasL.updT tq (show upd H4 p2 _ p = some (.lst vs) by rw [upd_ne np2]; exact ep) (l8.mono d2)
      exact k1.append (hasL_cons.mpr ⟨_, [], rfl, has_tuple.mpr ⟨p2, _, rfl, by rw [upd_ne (Ne.symm np2), upd_same]; rfl, hasL_cons.mpr ⟨_, _, rfl, has_str.mpr rfl, hasL_cons.mpr ⟨_, _, rfl, has_int.mpr rfl, hasL_cons.mpr ⟨_, _, rfl, has_int.mpr rfl, hasL_nil.mpr rfl⟩⟩⟩⟩, hasL_nil.mpr rfl⟩)
    · rw [upd_ne nqp, upd_ne nq2]
      exact eqn
  · rintro _ H3 ⟨ps, vs, u, rfl, hl, hps, P4, s4, e4, l4, n4⟩
    refine ⟨_, rfl, p, vs, rfl, .inl ⟨.of e4, fun p3 hp3 => ?_⟩⟩
    have d3 := Same.laid (o := .tup vs) hp3
    refine q ps _ _ ⟨by omega, by omega, hps⟩ (P4.same d3) (s4.trans d3.hid) ?_
    exact Has.vwT (o := [a]) (P4.same d3).trl _ _ (by show tupDs _ = true; exact tup_prts ps) (has_tuple.mpr ⟨p3, vs, rfl, upd_same, l4.mono d3⟩)
def qDrawing : P2 := fun x y S R => ∃ p m, x = .l 0 ∧ y = .d (.int m) ∧ 1 ≤ m ∧ m ≤ 8 ∧ S = [p] ∧ isPen p ∧ ∀ ps p', Drw ps → isPen p' → R (.d (drwD ps)) [p']
theorem lf_drawing {H : Hp} {v u : V} {Q : VK} (z : lf2 qDrawing v u H Q) : pDrawing v u H Q := by
  obtain ⟨h, o, S, x, y, R, hs, hx, hy, ⟨p, m, rfl, rfl, m1, m8, rfl, hp, q⟩, c⟩ := z
  obtain ⟨a, ea, rfl⟩ := hx
  obtain ⟨a', rfl⟩ : ∃ a', o = [a'] := List.length_eq_one_iff.mp hs.len.symm
  cases ea
  refine ⟨a, m, rfl, hx_int hy, m1, m8, pen_of hs hp, fun ps v H' h1 P' s' hv => ?_⟩
  obtain ⟨ex, p', hp', hs'⟩ := pen_back hs P' s'
  exact c [a] H' [p'] (.d _) _ ex hs' (has_vx hs' (by show tupDs _ = true; exact tup_prts ps) hv) (q ps p' h1 hp')
theorem asQ_drw {S : Sto} {ps : List (Str × Int × Int)} : asQ S (.d (drwD ps)) = some (ps.map prtD) := rfl
theorem asT_drw {ps : List (Str × Int × Int)} {K : List PyData → Prop} : asT (.d (drwD ps)) K = K (ps.map prtD) := rfl
--DDX asQ_drw, asT_drw

def tmD (t : Nat × Int) : PyData := .tuple [.int t.1, .int t.2]
def tmsD (ts : List (Nat × Int)) : PyData := .tuple (ts.map tmD)
def gapD (ts : List (Nat × Int)) (lo hi : Int) : PyData := .tuple [tmsD ts, .int lo, .int hi]
def setD (ns : List Int) : PyData := .tuple (ns.map PyData.int)
theorem asQ_tms {S : Sto} {ts : List (Nat × Int)} : asQ S (.d (tmsD ts)) = some (ts.map tmD) := rfl
theorem asT_tms {ts : List (Nat × Int)} {K : List PyData → Prop} : asT (.d (tmsD ts)) K = K (ts.map tmD) := rfl
theorem asT_gap {ts : List (Nat × Int)} {lo hi : Int} {K : List PyData → Prop} : asT (.d (gapD ts lo hi)) K = K [tmsD ts, .int lo, .int hi] := rfl
theorem asT_set {ns : List Int} {K : List PyData → Prop} : asT (.d (setD ns)) K = K (ns.map PyData.int) := rfl
theorem asQ_set {S : Sto} {ns : List Int} : asQ S (.d (setD ns)) = some (ns.map PyData.int) := rfl
theorem asT_tm {t : Nat × Int} {K : List PyData → Prop} : asT (.d (tmD t)) K = K [.int t.1, .int t.2] := rfl
theorem asT_prt {t : Str × Int × Int} {K : List PyData → Prop} : asT (.d (prtD t)) K = K [.str t.1, .int t.2.1, .int t.2.2] := rfl
--DDX asQ_tms, asT_tms, asT_gap, asT_set, asQ_set, asT_tm, asT_prt
/-- terms of a drawing of n parts -/
structure Tms (n : Nat) (ts : List (Nat × Int)) : Prop where
  ne : ts ≠ []
  len : ts.length ≤ n
  ok : ∀ t ∈ ts, t.1 < n ∧ t.2 ≠ 0 ∧ -3 ≤ t.2 ∧ t.2 ≤ 3
  srt : ts.Pairwise fun t u => t.1 < u.1
/-- terms of other origin, for which sums can be told -/
def Tm3 (n : Nat) (ts : List (Nat × Int)) : Prop := ts.length ≤ 100 ∧ ∀ t ∈ ts, t.1 < n ∧ -3 ≤ t.2 ∧ t.2 ≤ 3
def worth (ts : List (Nat × Int)) (ns : List Int) : Int := (ts.map fun t => t.2 * ns.getD t.1 0).sum
theorem ix_in {ds : List PyData} {r : Int} {P : PyData → Prop} (h0 : 0 ≤ r) (h1 : r < ds.length) (hP : ∀ d ∈ ds, P d) : ∃ d, atI ds r = some d ∧ P d := by
  obtain ⟨k, rfl⟩ := Int.eq_ofNat_of_zero_le h0
  have hk : k < ds.length := by omega
  exact ⟨ds[k], atI_nat (List.getElem?_eq_getElem hk), hP _ (List.getElem_mem hk)⟩
theorem ix_map {α : Type} {f : α → PyData} {l : List α} {k : Nat} {x : α} (e : l[k]? = some x) : atI (l.map f) (k : Int) = some (f x) := atI_nat (by rw [List.getElem?_map, e]; rfl)
theorem getD_of {ns : List Int} {k : Nat} (h : k < ns.length) : ns[k]? = some (ns.getD k 0) := by
  rw [List.getElem?_eq_getElem h, List.getD_eq_getElem?_getD, List.getElem?_eq_getElem h]
  rfl
def part (ps : List (Str × Int × Int)) (k : Nat) : Str × Int × Int := ps.getD k ("", 0, 0)
theorem part_of {ps : List (Str × Int × Int)} {k : Nat} (h : k < ps.length) : ps[k]? = some (part ps k) := by
  unfold part
  rw [List.getElem?_eq_getElem h, List.getD_eq_getElem?_getD, List.getElem?_eq_getElem h]
  rfl
theorem part_mem {ps : List (Str × Int × Int)} {k : Nat} (h : k < ps.length) : part ps k ∈ ps := List.mem_of_getElem? (part_of h)
/-- the least and the greatest that a term adds -/
def tLo (ps : List (Str × Int × Int)) (t : Nat × Int) : Int := min (t.2 * (part ps t.1).2.1) (t.2 * (part ps t.1).2.2)
def tHi (ps : List (Str × Int × Int)) (t : Nat × Int) : Int := max (t.2 * (part ps t.1).2.1) (t.2 * (part ps t.1).2.2)
def leastW (ps : List (Str × Int × Int)) (ts : List (Nat × Int)) : Int := (ts.map (tLo ps)).sum
def mostW (ps : List (Str × Int × Int)) (ts : List (Nat × Int)) : Int := (ts.map (tHi ps)).sum
theorem least_le_most (ps : List (Str × Int × Int)) : ∀ ts : List (Nat × Int), leastW ps ts ≤ mostW ps ts
  | [] => by simp [leastW, mostW]
  | t :: ts => by
    have := least_le_most ps ts
    have e : tLo ps t ≤ tHi ps t := by
      unfold tLo tHi
      omega
    simp only [leastW, mostW, List.map_cons, List.sum_cons] at this ⊢
    omega
def qTerms : P2 := fun x y S R => ∃ p ps, x = .l 0 ∧ y = .d (drwD ps) ∧ S = [p] ∧ isPen p ∧ Drw ps ∧ ∀ ts p', Tms ps.length ts → isPen p' → R (.d (tmsD ts)) [p']
def qEnds : P2 := fun x y S R => ∃ ps ts, x = .d (drwD ps) ∧ y = .d (tmsD ts) ∧ S = [] ∧ Tm3 ps.length ts ∧ R (.d (.tuple [.int (leastW ps ts), .int (mostW ps ts)])) []
def qGap : P2 := fun x y S R => ∃ p ps, x = .l 0 ∧ y = .d (drwD ps) ∧ S = [p] ∧ isPen p ∧ Drw ps ∧ ∀ ts lo hi p', Tms ps.length ts → lo ≤ hi → isPen p' → R (.d (gapD ts lo hi)) [p']
theorem Tms.tm3 {n : Nat} {ts : List (Nat × Int)} (h : Tms n ts) (hn : n ≤ 8) : Tm3 n ts := ⟨by have := h.len; omega, fun t m => ⟨(h.ok t m).1, (h.ok t m).2.2⟩⟩
theorem times_list {d : PyData} (m : d ∈ [PyData.list [.int 1, .int (-1), .int 2, .int (-2), .int 3, .int (-3)], .list [.int 1, .int (-1)], .list [.int 2, .int (-2)], .list [.int 3, .int (-3)], .list [.int 2, .int 3, .int (-2), .int (-3)], .list [.int 1, .int 3, .int (-1), .int (-3)]]) :
    ∃ ns : List Int, d = .list (ns.map PyData.int) ∧ 0 < ns.length ∧ ns.length ≤ 6 ∧ ∀ n ∈ ns, n ≠ 0 ∧ -3 ≤ n ∧ n ≤ 3 := by
  simp only [List.mem_cons, List.not_mem_nil, or_false] at m
  rcases m with rfl | rfl | rfl | rfl | rfl | rfl
  · exact ⟨[1, -1, 2, -2, 3, -3], rfl, by decide, by decide, by decide⟩
  · exact ⟨[1, -1], rfl, by decide, by decide, by decide⟩
  · exact ⟨[2, -2], rfl, by decide, by decide, by decide⟩
  · exact ⟨[3, -3], rfl, by decide, by decide, by decide⟩
  · exact ⟨[2, 3, -2, -3], rfl, by decide, by decide, by decide⟩
  · exact ⟨[1, 3, -1, -3], rfl, by decide, by decide, by decide⟩
theorem ix_ints {ns : List Int} {r : Int} (h0 : 0 ≤ r) (h1 : r < ns.length) : ∃ n, n ∈ ns ∧ atI (ns.map PyData.int) r = some (.int n) := by
  obtain ⟨d, e, n, m, rfl⟩ := ix_in (ds := ns.map PyData.int) (P := fun d => ∃ n, n ∈ ns ∧ d = .int n) h0 (by rw [List.length_map]; exact h1) fun d m => by
    obtain ⟨n, m', rfl⟩ := List.mem_map.mp m
    exact ⟨n, m', rfl⟩
  exact ⟨n, m, e⟩
theorem eqv_nil (ds : List PyData) : PyData.eqv (.list ds) (.list []) = decide (ds = []) := by
  cases ds with
  | nil => rfl
  | cons d ds => rfl
theorem shp_tm (t : Nat × Int) : Shp 1 (tmD t) := shp_tup (shp_2 shp_int shp_int)
theorem shaped_tms (ts : List (Nat × Int)) : SeqAt.shaped (.list (ts.map tmD)) = true := (shp_list (shp_map fun t _ => shp_tm t)).ok
local macro_rules | `(tactic| walk_at "dd_") => `(tactic| (try simp only [dSeq, dAsg, dgName, dVar, dC, dO, dOp, dUn, dNil, dCons, dCB, dTup, dLst, dLstT, dB, dNot, dAnd, dOr, dAndV, dOrV, dNotV, dIf, dChain, dI, dI0, dIb, dUI, dEqI, dNeI, dEqB, dNeB, dEqD, dNeD, dIsN, dNotN, dIxT, dIxL, dCat, dCatT, dNoPart, dPart, dSl, dSlL, dSlT, dLen, dIsi, dAbs, dInt1, dI2, dTupOf, dLstOf, dLstOfT, dBM, dBM0, dAppend, dReverse, dExtend, dSum, dAll, dMin, dMax, dF1, dF2, dF3, dF4, dP1, dP2, dP2', dP3, dP3', dP4, asI_d, asB_d, asT_d, asS_d, asL, asLs_d, asLs_l, asQ_d, asQ_t, asQ_l, asD_d, asDat_d, asDat_l, asK_l, ret0_d, ret0_l, retP_d, retP_l, fin_d, fin_l, dEnd_nx, dEnd_rt, arg1_x, arg2_x, asTy_x, asIB_i, asIB_b, dRet, dRetN, dIfS, dDrop, dNext, dBreak, dCont, dFor, diList, diTup, diRng1, diRng2, dgTup, dgCons, hdD_c, atI_0, atI_1, atI_2, atI_3, atI_4, dgNil, dgSet, dComp, dCompT, dNoIf, tauX, datas_nil, datas_cons, List.replicate, List.map_cons, List.map_nil, Option.map_some, Option.bind_some, Option.bind_none, Option.join_some, List.getElem?_cons_zero, List.getElem?_cons_succ, List.set_cons_zero, List.set_cons_succ, List.take_succ_cons, List.take_zero, List.take_nil, List.length_cons, List.length_nil, List.nil_append, List.cons_append, Option.some.injEq, exists_eq_left', exists_eq_left, List.cons.injEq, XV.d.injEq, XV.l.injEq, XV.o.injEq, PyData.int.injEq, PyData.list.injEq, PyData.tuple.injEq, PyData.bool.injEq, and_true, true_and, decide_eq_true_eq, Bool.not_true, Bool.not_false, Bool.false_eq_true, Bool.true_eq_false, not_true_eq_false, not_false_eq_true, ↓reduceIte, decide_true, decide_false, Bool.not_eq_true', noneD, wholeD, decide_eq_false_iff_not, Nat.reduceAdd, Nat.zero_add, Nat.reduceLT, Nat.reduceLeDiff, Int.reduceLT, Int.reduceLE, Int.reduceNeg, Int.reducePow, Int.reduceToNat, Int.reduceEq, Int.reduceAdd, Int.reduceSub, Nat.le_refl, Nat.zero_le, List.length_append, List.length_map, asQ_drw, asT_drw, asQ_tms, asT_tms, asT_gap, asT_set, asQ_set, asT_tm, asT_prt]))
local macro_rules | `(tactic| walk_at "ddl_") => `(tactic| (try simp only [dSeq, dAsg, dgName, dVar, dC, dO, dOp, dUn, dNil, dCons, dCB, dTup, dLst, dLstT, dB, dNot, dAnd, dOr, dAndV, dOrV, dNotV, dIf, dChain, dI, dI0, dIb, dUI, dEqI, dNeI, dEqB, dNeB, dEqD, dNeD, dIsN, dNotN, dIxT, dIxL, dCat, dCatT, dNoPart, dPart, dSl, dSlL, dSlT, dLen, dIsi, dAbs, dInt1, dI2, dTupOf, dLstOf, dLstOfT, dBM, dBM0, dAppend, dReverse, dExtend, dSum, dAll, dMin, dMax, dF1, dF2, dF3, dF4, dP1, dP2, dP2', dP3, dP3', dP4, asI_d, asB_d, asT_d, asS_d, asL, asLs_d, asLs_l, asQ_d, asQ_t, asQ_l, asD_d, asDat_d, asDat_l, asK_l, ret0_d, ret0_l, retP_d, retP_l, fin_d, fin_l, dEnd_nx, dEnd_rt, arg1_x, arg2_x, asTy_x, asIB_i, asIB_b, dRet, dRetN, dIfS, dDrop, dNext, dBreak, dCont, dFor, diList, diTup, diRng1, diRng2, dgTup, dgCons, hdD_c, atI_0, atI_1, atI_2, atI_3, atI_4, dgNil, dgSet, dComp, dCompT, dNoIf, tauX, datas_nil, datas_cons, List.replicate, List.map_cons, List.map_nil, Option.map_some, Option.bind_some, Option.bind_none, Option.join_some, List.getElem?_cons_zero, List.getElem?_cons_succ, List.set_cons_zero, List.set_cons_succ, List.take_succ_cons, List.take_zero, List.take_nil, List.length_cons, List.length_nil, List.nil_append, List.cons_append, Option.some.injEq, exists_eq_left', exists_eq_left, List.cons.injEq, XV.d.injEq, XV.l.injEq, XV.o.injEq, PyData.int.injEq, PyData.list.injEq, PyData.tuple.injEq, PyData.bool.injEq, and_true, true_and, decide_eq_true_eq, Bool.not_true, Bool.not_false, Bool.false_eq_true, Bool.true_eq_false, not_true_eq_false, not_false_eq_true, ↓reduceIte, decide_true, decide_false, Bool.not_eq_true', noneD, wholeD, decide_eq_false_iff_not, Nat.reduceAdd, Nat.zero_add, Nat.reduceLT, Nat.reduceLeDiff, Int.reduceLT, Int.reduceLE, Int.reduceNeg, Int.reducePow, Int.reduceToNat, Int.reduceEq, Int.reduceAdd, Int.reduceSub, Nat.le_refl, Nat.zero_le, List.length_append, List.length_map, asQ_drw, asT_drw, asQ_tms, asT_tms, asT_gap, asT_set, asQ_set, asT_tm, asT_prt, dLoop]))
theorem ok_terms (T : Txt mg) (D_law_draw : Df P w K mg base "_law_draw" ["pen", "many"] 2 (sp2 (lf2 qDraw))) (d : Dd K mg "_law_terms" s_law_terms ["pen", "drawing"]) : Df P w K mg base "_law_terms" ["pen", "drawing"] 3 (sp2 (lf2 qTerms)) := by
  refine Df.d2 d sc_law_terms (fun v u => [some v, some u, none, none, none]) (fun v u => rfl) 3 (fun v u => rfl) fun f cdv A outer s H E hr => ⟨_, _, (pss_cons (ps_set (i := 2) sc_law_terms.nd rfl (Or.inl rfl) (pe_ix ix_list (pe_lst (pa_cons (pe_lst (pa_cons pe_int (pa_cons (pe_un un_neg pe_int) (pa_cons pe_int (pa_cons (pe_un un_neg pe_int) (pa_cons pe_int (pa_cons (pe_un un_neg pe_int) pa_nil))))))) (pa_cons (pe_lst (pa_cons pe_int (pa_cons (pe_un un_neg pe_int) pa_nil))) (pa_cons (pe_lst (pa_cons pe_int (pa_cons (pe_un un_neg pe_int) pa_nil))) (pa_cons (pe_lst (pa_cons pe_int (pa_cons (pe_un un_neg pe_int) pa_nil))) (pa_cons (pe_lst (pa_cons pe_int (pa_cons pe_int (pa_cons (pe_un un_neg pe_int) (pa_cons (pe_un un_neg pe_int) pa_nil))))) (pa_cons (pe_lst (pa_cons pe_int (pa_cons pe_int (pa_cons (pe_un un_neg pe_int) (pa_cons (pe_un un_neg pe_int) pa_nil))))) pa_nil))))))) (pe_df2 D_law_draw hr (by decide) (pv 0) pe_int) (fun _ _ => rfl))) (pss_cons (ps_set (i := 3) sc_law_terms.nd rfl (Or.inl rfl) (pe_lst pa_nil)) (pss_cons (ps_for PassesOwn.never rfl (pi_range1 rfl T.n_range (pa_cons (pe_callB call_lenQ (by rfl) T.n_len bt_len (pa_cons (pv 1) pa_nil)) pa_nil)) (pg_name (i := 4) sc_law_terms.nd rfl (Or.inl rfl)) (pss_one (ps_if (pt_cmpR op_gt (pe_df2 D_law_draw hr (by decide) (pv 0) pe_int) pe_int (nomark _)) (pss_one (ps_expr (pe_bm PySem.F.plainAttrs_list PySem.F.slot_list_append PySem.F.type_list_append mt_append (pv 3) (pa_cons (pe_tup (pa_cons (pv 4) (pa_cons (pe_ix ix_list (pv 2) (pe_df2 D_law_draw hr (by decide) (pv 0) (pe_callB call_lenQ (by rfl) T.n_len bt_len (pa_cons (pv 2) pa_nil))) (fun _ _ => rfl)) pa_nil))) pa_nil)))) pss_nil))) (pss_cons (ps_if (pt_cmpR (op_eqD hr.units) (pv 3) (pe_lst pa_nil) (nomark _)) (pss_one (ps_set (i := 3) sc_law_terms.nd rfl (Or.inl rfl) (pe_lst (pa_cons (pe_tup (pa_cons (pe_df2 D_law_draw hr (by decide) (pv 0) (pe_callB call_lenQ (by rfl) T.n_len bt_len (pa_cons (pv 1) pa_nil))) (pa_cons (pe_ix ix_list (pv 2) (pe_df2 D_law_draw hr (by decide) (pv 0) (pe_callB call_lenQ (by rfl) T.n_len bt_len (pa_cons (pv 2) pa_nil))) (fun _ _ => rfl)) pa_nil))) pa_nil)))) pss_nil) (pss_one (ps_ret (pe_callTy call_tuple_of (by rfl) T.n_tuple bt_tuple (pa_cons (pv 3) pa_nil)))))))), (rs_seq (rs_asg (re_op ro_ixL (re_lst (ra_cons (re_lst (ra_cons re_int (ra_cons (re_un ru_I re_int) (ra_cons re_int (ra_cons (re_un ru_I re_int) (ra_cons re_int (ra_cons (re_un ru_I re_int) ra_nil))))))) (ra_cons (re_lst (ra_cons re_int (ra_cons (re_un ru_I re_int) ra_nil))) (ra_cons (re_lst (ra_cons re_int (ra_cons (re_un ru_I re_int) ra_nil))) (ra_cons (re_lst (ra_cons re_int (ra_cons (re_un ru_I re_int) ra_nil))) (ra_cons (re_lst (ra_cons re_int (ra_cons re_int (ra_cons (re_un ru_I re_int) (ra_cons (re_un ru_I re_int) ra_nil))))) (ra_cons (re_lst (ra_cons re_int (ra_cons re_int (ra_cons (re_un ru_I re_int) (ra_cons (re_un ru_I re_int) ra_nil))))) ra_nil))))))) (re_p2 re_var re_int)) rg_name) (rs_seq (rs_asg (re_lstT ra_nil) rg_name) (rs_seq (rs_for (ri_rng1 (ra_cons (re_cb rc_len (ra_cons re_var ra_nil)) ra_nil)) rg_name (rs_if (rt_t (re_op ro_Ib (re_p2 re_var re_int) re_int)) (rs_drop (re_bm rm_append re_var (ra_cons (re_tup (ra_cons re_var (ra_cons (re_op ro_ixL re_var (re_p2 re_var (re_cb rc_len (ra_cons re_var ra_nil)))) ra_nil))) ra_nil))) rs_next)) (rs_seq (rs_if (rt_t (re_op ro_eqD re_var (re_lst ra_nil))) (rs_asg (re_lstT (ra_cons (re_tup (ra_cons (re_p2 re_var (re_cb rc_len (ra_cons re_var ra_nil))) (ra_cons (re_op ro_ixL re_var (re_p2 re_var (re_cb rc_len (ra_cons re_var ra_nil)))) ra_nil))) ra_nil)) rg_name) rs_next) (rs_ret (re_cb rc_tupOf (ra_cons re_var ra_nil))))))), ?_⟩
  rintro _ _ _ R ⟨p, ps, rfl, rfl, rfl, hp, hd, q⟩
  have h8 := hd.l8
  have h1 := hd.l1
  walk_at "dd_"
  refine ⟨p, 6, rfl, rfl, rfl, hp, by decide, by decide +kernel, fun r p1 r0 r1 hp1 => ?_⟩
  obtain ⟨d, ed, ns, rfl, n0, n6, hns⟩ := ix_in r0 (by exact r1) fun d m => times_list (d := d) m
  walk_at "dd_"
  refine ⟨_, ed, by omega, by omega, ?_⟩
  refine loop_inv (fun i δ S => ∃ (p : List PyData) (ts : List (Nat × Int)) (u : Option XV), S = [p, ts.map tmD] ∧ isPen p ∧ δ = [some (.l 0), some (.d (drwD ps)), some (.d (.list (ns.map PyData.int))), some (.l 1), u] ∧ ts.length ≤ i ∧ (∀ t ∈ ts, t.1 < i ∧ t.2 ≠ 0 ∧ -3 ≤ t.2 ∧ t.2 ≤ 3) ∧ ts.Pairwise fun t u => t.1 < u.1) ⟨p1, [], none, rfl, hp1, rfl, Nat.le_refl _, by simp, .nil⟩ ?_ ?_
  · rintro i d _ _ N hi ⟨p, ts, u, rfl, hp, rfl, hl, ht, hw⟩ hN
    obtain ⟨hi', rfl⟩ := intsD_get hi
    have hi8 : i < ps.length := by simpa using hi'
    walk_at "dd_"
    refine ⟨p, 3, rfl, rfl, rfl, hp, by decide, by decide +kernel, fun r p2 r0 r1 hp2 => ?_⟩
    walk_at "dd_"
    split
    · refine ⟨p2, ns.length, rfl, rfl, rfl, hp2, by omega, log2_small (by omega) (by omega), fun r3 p3 r0 r1 hp3 => ?_⟩
      obtain ⟨n, hn, en⟩ := ix_ints r0 r1
      walk_at "dd_"
      refine ⟨_, en, by omega, hN _ _ ⟨p3, ts ++ [(i, n)], _, by simp [tmD], hp3, rfl, by simp; omega, fun t m => ?_, ?_⟩⟩
      · rcases List.mem_append.mp m with m | m
        · have := ht t m
          exact ⟨by omega, this.2⟩
        · rw [List.mem_singleton.mp m]
          exact ⟨by simp, hns n hn⟩
      · rw [List.pairwise_append]
        exact ⟨hw, by simp, fun t m u m' => by rw [List.mem_singleton.mp m']; exact (ht t m).1⟩
    · exact hN _ _ ⟨p2, ts, _, rfl, hp2, rfl, by omega, fun t m => by have := ht t m; exact ⟨by omega, this.2⟩, hw⟩
  · rintro _ _ ⟨p, ts, u, rfl, hp, rfl, hl, ht, hw⟩
    rw [intsD_length] at hl ht
    have hz : (ps.length : Int).toNat = ps.length := by simp
    walk_at "dd_"
    rw [hz] at hl ht
    refine ⟨shaped_tms ts, rfl, ?_⟩
    rw [eqv_nil]
    walk_at "dd_"
    split
    · refine ⟨p, ps.length, rfl, rfl, rfl, hp, by omega, log2_small (by omega) (by omega), fun r p2 r0 r1 hp2 => ?_⟩
      walk_at "dd_"
      refine ⟨p2, ns.length, rfl, rfl, rfl, hp2, by omega, log2_small (by omega) (by omega), fun r3 p3 r2 r4 hp3 => ?_⟩
      obtain ⟨n, hn, en⟩ := ix_ints r2 r4
      obtain ⟨k, rfl⟩ := Int.eq_ofNat_of_zero_le r0
      walk_at "dd_"
      refine ⟨_, en, ?_⟩
      exact q [(k, n)] p3 ⟨by simp, by simpa using h1, fun t m => by rw [List.mem_singleton.mp m]; exact ⟨by omega, hns n hn⟩, by simp⟩ hp3
    · rename_i hne
      exact q ts p ⟨fun z => hne (by rw [z]; rfl), hl, ht, hw⟩ hp
theorem min_of {a b m : Int} (h1 : m ∈ [a, b]) (h2 : ∀ x, x ∈ [a, b] → m ≤ x) : m = min a b := by
  have ha := h2 a (by simp)
  have hb := h2 b (by simp)
  simp only [List.mem_cons, List.not_mem_nil, or_false] at h1
  omega
theorem max_of {a b m : Int} (h1 : m ∈ [a, b]) (h2 : ∀ x, x ∈ [a, b] → x ≤ m) : m = max a b := by
  have ha := h2 a (by simp)
  have hb := h2 b (by simp)
  simp only [List.mem_cons, List.not_mem_nil, or_false] at h1
  omega
theorem ok_ends (T : Txt mg) (d : Dd K mg "_law_ends" s_law_ends ["drawing", "terms"]) : Df P w K mg base "_law_ends" ["drawing", "terms"] 1 (sp2 (lf2 qEnds)) := by
  refine Df.d2 d sc_law_ends (fun v u => [some v, some u, none, none, none, none, none]) (fun v u => rfl) 5 (fun v u => rfl) fun f cdv A outer s H E hr => ⟨_, _, (pss_cons (ps_set (i := 2) sc_law_ends.nd rfl (Or.inl rfl) pe_int) (pss_cons (ps_set (i := 3) sc_law_ends.nd rfl (Or.inl rfl) pe_int) (pss_cons (ps_for PassesOwn.never rfl (pi_tup (pv 1)) (pg_tup (n := 2) rfl (pgs_cons (pg_name (i := 4) sc_law_ends.nd rfl (Or.inl rfl)) (pgs_cons (pg_name (i := 5) sc_law_ends.nd rfl (Or.inl rfl)) pgs_nil))) (pss_cons (ps_set (i := 6) sc_law_ends.nd rfl (Or.inl rfl) (pe_lst (pa_cons (pe_op op_mulX (pv 5) (pe_ix ix_tup (pe_ix ix_tup (pv 0) (pv 4) (fun _ _ => rfl)) pe_int (fun _ _ => rfl))) (pa_cons (pe_op op_mulX (pv 5) (pe_ix ix_tup (pe_ix ix_tup (pv 0) (pv 4) (fun _ _ => rfl)) pe_int (fun _ _ => rfl))) pa_nil)))) (pss_cons (ps_set (i := 2) sc_law_ends.nd rfl (Or.inl rfl) (pe_op op_add (pv 2) (pe_callB (call_minQ rfl) (by rfl) T.n_min bt_min (pa_cons (pv 6) pa_nil)))) (pss_one (ps_set (i := 3) sc_law_ends.nd rfl (Or.inl rfl) (pe_op op_add (pv 3) (pe_callB (call_maxQ rfl) (by rfl) T.n_max bt_max (pa_cons (pv 6) pa_nil)))))))) (pss_one (ps_ret (pe_tup (pa_cons (pv 2) (pa_cons (pv 3) pa_nil)))))))), (rs_seq (rs_asg re_int rg_name) (rs_seq (rs_asg re_int rg_name) (rs_seq (rs_for (ri_tup re_var) (rg_tup (rgs_cons rg_name (rgs_cons rg_name rgs_nil))) (rs_seq (rs_asg (re_lst (ra_cons (re_op ro_I re_var (re_op ro_ixT (re_op ro_ixT re_var re_var) re_int)) (ra_cons (re_op ro_I re_var (re_op ro_ixT (re_op ro_ixT re_var re_var) re_int)) ra_nil))) rg_name) (rs_seq (rs_asg (re_op ro_I0 re_var (re_cb rc_min (ra_cons re_var ra_nil))) rg_name) (rs_asg (re_op ro_I0 re_var (re_cb rc_max (ra_cons re_var ra_nil))) rg_name)))) (rs_ret (re_tup (ra_cons re_var (ra_cons re_var ra_nil))))))), ?_⟩
  rintro _ _ _ R ⟨ps, ts, rfl, rfl, rfl, h3, q⟩
  walk_at "dd_"
  refine loop_inv (fun i δ S => ∃ (u1 u2 u3 : Option XV), S = [] ∧ δ = [some (.d (drwD ps)), some (.d (tmsD ts)), some (.d (.int (leastW ps (ts.take i)))), some (.d (.int (mostW ps (ts.take i)))), u1, u2, u3]) ⟨_, _, _, rfl, rfl⟩ ?_ ?_
  · rintro i d _ _ N hi ⟨u1, u2, u3, rfl, rfl⟩ hN
    rw [List.getElem?_map] at hi
    obtain ⟨t, ht, rfl⟩ := Option.map_eq_some_iff.mp hi
    have mt := List.mem_of_getElem? ht
    obtain ⟨t1, t2, t3⟩ := h3.2 t mt
    have ep := ix_map (f := prtD) (part_of t1)
    have lk : leastW ps (ts.take (i + 1)) = leastW ps (ts.take i) + tLo ps t := by
      unfold leastW
      rw [List.take_add_one, ht]
      simp
    have mk : mostW ps (ts.take (i + 1)) = mostW ps (ts.take i) + tHi ps t := by
      unfold mostW
      rw [List.take_add_one, ht]
      simp
    walk_at "dd_"
    refine ⟨_, ep, _, rfl, mulOkL (by omega) (by omega), _, ep, _, rfl, mulOkL (by omega) (by omega), [t.2 * (part ps t.1).2.1, t.2 * (part ps t.1).2.2], rfl, by simp, fun m m1 m2 => ⟨[t.2 * (part ps t.1).2.1, t.2 * (part ps t.1).2.2], rfl, by simp, fun m' m3 m4 => ?_⟩⟩
    rw [min_of m1 m2, max_of m3 m4]
    exact hN _ _ ⟨_, _, _, rfl, by rw [lk, mk]; rfl⟩
  · rintro _ _ ⟨u1, u2, u3, rfl, rfl⟩
    rw [List.length_map, List.take_length]
    walk_at "dd_"
    exact q
theorem ok_gap (T : Txt mg) (D_law_draw : Df P w K mg base "_law_draw" ["pen", "many"] 2 (sp2 (lf2 qDraw))) (D_law_terms : Df P w K mg base "_law_terms" ["pen", "drawing"] 3 (sp2 (lf2 qTerms))) (D_law_ends : Df P w K mg base "_law_ends" ["drawing", "terms"] 1 (sp2 (lf2 qEnds)))
    (d : Dd K mg "_law_gap" s_law_gap ["pen", "drawing"]) : Df P w K mg base "_law_gap" ["pen", "drawing"] 4 (sp2 (lf2 qGap)) := by
  refine Df.d2 d sc_law_gap (fun v u => [some v, some u, none, none, none, none, none, none]) (fun v u => rfl) 6 (fun v u => rfl) fun f cdv A outer s H E hr => ⟨_, _, (pss_cons (ps_set (i := 2) sc_law_gap.nd rfl (Or.inl rfl) (pe_df2 D_law_terms hr (by decide) (pv 0) (pv 1))) (pss_cons (ps_asg (pe_df2 D_law_ends hr (by decide) (pv 1) (pv 2)) (pg_tup (n := 2) rfl (pgs_cons (pg_name (i := 3) sc_law_gap.nd rfl (Or.inl rfl)) (pgs_cons (pg_name (i := 4) sc_law_gap.nd rfl (Or.inl rfl)) pgs_nil)))) (pss_cons (ps_set (i := 5) sc_law_gap.nd rfl (Or.inl rfl) (pe_op op_sub (pv 4) (pv 3))) (pss_cons (ps_set (i := 6) sc_law_gap.nd rfl (Or.inl rfl) (pe_op op_add (pv 3) (pe_ix ix_list (pe_lst (pa_cons pe_int (pa_cons pe_int (pa_cons (pe_un un_neg pe_int) (pa_cons (pe_op op_fdivX (pv 5) pe_int) (pa_cons (pe_op op_fdivX (pv 5) pe_int) (pa_cons (pe_op op_add (pv 5) pe_int) (pa_cons (pv 5) (pa_cons (pe_op op_sub (pv 5) pe_int) pa_nil))))))))) (pe_df2 D_law_draw hr (by decide) (pv 0) pe_int) (fun _ _ => rfl)))) (pss_cons (ps_set (i := 7) sc_law_gap.nd rfl (Or.inl rfl) (pe_op op_add (pv 6) (pe_ix ix_list (pe_lst (pa_cons pe_int (pa_cons pe_int (pa_cons pe_int (pa_cons (pe_op op_fdivX (pv 5) pe_int) (pa_cons (pv 5) (pa_cons (pe_op op_add (pv 5) pe_int) pa_nil))))))) (pe_df2 D_law_draw hr (by decide) (pv 0) pe_int) (fun _ _ => rfl)))) (pss_one (ps_ret (pe_tup (pa_cons (pv 2) (pa_cons (pv 6) (pa_cons (pv 7) pa_nil))))))))))), (rs_seq (rs_asg (re_p2 re_var re_var) rg_name) (rs_seq (rs_asg (re_f2 re_var re_var) (rg_tup (rgs_cons rg_name (rgs_cons rg_name rgs_nil)))) (rs_seq (rs_asg (re_op ro_I0 re_var re_var) rg_name) (rs_seq (rs_asg (re_op ro_I0 re_var (re_op ro_ixL (re_lst (ra_cons re_int (ra_cons re_int (ra_cons (re_un ru_I re_int) (ra_cons (re_op ro_I re_var re_int) (ra_cons (re_op ro_I re_var re_int) (ra_cons (re_op ro_I0 re_var re_int) (ra_cons re_var (ra_cons (re_op ro_I0 re_var re_int) ra_nil))))))))) (re_p2 re_var re_int))) rg_name) (rs_seq (rs_asg (re_op ro_I0 re_var (re_op ro_ixL (re_lst (ra_cons re_int (ra_cons re_int (ra_cons re_int (ra_cons (re_op ro_I re_var re_int) (ra_cons re_var (ra_cons (re_op ro_I0 re_var re_int) ra_nil))))))) (re_p2 re_var re_int))) rg_name) (rs_ret (re_tup (ra_cons re_var (ra_cons re_var (ra_cons re_var ra_nil)))))))))), ?_⟩
  rintro _ _ _ R ⟨p, ps, rfl, rfl, rfl, hp, hd, q⟩
  walk_at "dd_"
  refine ⟨p, ps, rfl, rfl, rfl, hp, hd, fun ts p1 ht hp1 => ?_⟩
  walk_at "dd_"
  refine ⟨ps, ts, rfl, rfl, rfl, ht.tm3 hd.l8, ?_⟩
  have lm := least_le_most ps ts
  walk_at "dd_"
  refine ⟨⟨by decide, by decide⟩, ⟨by decide, by decide⟩, p1, 8, rfl, rfl, rfl, hp1, by decide, by decide +kernel, fun r p2 r0 r1 hp2 => ?_⟩
  obtain ⟨d, ed, n, rfl⟩ := ix_in (P := fun d => ∃ n, d = .int n) (ds := [PyData.int 0, PyData.int 1, PyData.int (-1), PyData.int ((mostW ps ts - leastW ps ts) / 2), PyData.int ((mostW ps ts - leastW ps ts) / 3), PyData.int (mostW ps ts - leastW ps ts + 1), PyData.int (mostW ps ts - leastW ps ts), PyData.int (mostW ps ts - leastW ps ts - 1)]) r0 r1 (by simp)
  walk_at "dd_"
  refine ⟨_, ed, ⟨by decide, by decide⟩, p2, 6, rfl, rfl, rfl, hp2, by decide, by decide +kernel, fun r' p3 r2 r3 hp3 => ?_⟩
  obtain ⟨d, ed, n', rfl, h0⟩ := ix_in (P := fun d => ∃ n, d = .int n ∧ 0 ≤ n) (ds := [PyData.int 0, PyData.int 1, PyData.int 2, PyData.int ((mostW ps ts - leastW ps ts) / 2), PyData.int (mostW ps ts - leastW ps ts), PyData.int (mostW ps ts - leastW ps ts + 2)]) r2 r3 (by simp; omega)
  walk_at "dd_"
  exact ⟨_, ed, q ts _ _ p3 ht (by omega) hp3⟩

def qWhole : P1 := fun x S R => ∃ d, x = .d d ∧ S = [] ∧ R (.d (.bool (wholeD d))) []
def qSet : P2 := fun x y S R => ∃ p ps, x = .l 0 ∧ y = .d (drwD ps) ∧ S = [p] ∧ isPen p ∧ Drw ps ∧ ∀ ns p', ns.length = ps.length → (∀ j n, ns[j]? = some n → (part ps j).2.1 ≤ n ∧ n ≤ (part ps j).2.2) → isPen p' → R (.d (setD ns)) [p']
theorem ok_law_whole (T : Txt mg) (d : Dd K mg "_law_whole" s_law_whole ["found"]) : Df P w K mg base "_law_whole" ["found"] 1 (sp1 (lf1 qWhole)) := by
  refine Df.d1 d sc_law_whole (fun v => [some v]) (fun v => rfl) 0 (fun v => rfl) fun f cdv A outer s H E hr => ⟨_, _, (pss_one (ps_ret (pe_and (pe_callB call_isi (by rfl) T.n_isinstance bt_isinstance (pa_cons (pv 0) (pa_cons (pe_bltn rfl T.n_int bt_int (v := .ty "int") rfl) pa_nil))) (pe_one (pe_not (pe_callB call_isi (by rfl) T.n_isinstance bt_isinstance (pa_cons (pv 0) (pa_cons (pe_bltn rfl T.n_bool bt_bool (v := .ty "bool") rfl) pa_nil)))))))), (rs_ret (re_and (re_cb rc_isi (ra_cons re_var (ra_cons re_o ra_nil))) (re_not (re_cb rc_isi (ra_cons re_var (ra_cons re_o ra_nil)))))), ?_⟩
  rintro _ _ R ⟨dd, rfl, rfl, q⟩
  walk_at "dd_"
  refine ⟨by decide, ?_⟩
  rw [isi_int]
  cases dd <;> (walk_at "dd_"; first | exact q | (refine ⟨by decide, ?_⟩; rw [isi_bool]; walk_at "dd_"; exact q))
theorem ok_set (T : Txt mg) (D_law_draw : Df P w K mg base "_law_draw" ["pen", "many"] 2 (sp2 (lf2 qDraw))) (d : Dd K mg "_law_set" s_law_set ["pen", "drawing"]) : Df P w K mg base "_law_set" ["pen", "drawing"] 3 (sp2 (lf2 qSet)) := by
  refine Df.d2 d sc_law_set (fun v u => [some v, some u, none, none, none, none, none]) (fun v u => rfl) 5 (fun v u => rfl) fun f cdv A outer s H E hr => ⟨_, _, (pss_cons (ps_set (i := 2) sc_law_set.nd rfl (Or.inl rfl) (pe_lst pa_nil)) (pss_cons (ps_for PassesOwn.never rfl (pi_tup (pv 1)) (pg_tup (n := 3) rfl (pgs_cons (pg_name (i := 3) sc_law_set.nd rfl (Or.inl rfl)) (pgs_cons (pg_name (i := 4) sc_law_set.nd rfl (Or.inl rfl)) (pgs_cons (pg_name (i := 5) sc_law_set.nd rfl (Or.inl rfl)) pgs_nil)))) (pss_cons (ps_set (i := 6) sc_law_set.nd rfl (Or.inl rfl) (pe_lst (pa_cons (pv 4) (pa_cons (pv 5) (pa_cons (pe_op op_add (pv 4) (pe_op op_fdivX (pe_op op_sub (pv 5) (pv 4)) pe_int)) (pa_cons (pe_callB (call_min2 rfl) (by rfl) T.n_min bt_min (pa_cons (pv 5) (pa_cons (pe_op op_add (pv 4) pe_int) pa_nil))) (pa_cons (pe_callB (call_max2 rfl) (by rfl) T.n_max bt_max (pa_cons (pv 4) (pa_cons (pe_op op_sub (pv 5) pe_int) pa_nil))) pa_nil))))))) (pss_one (ps_expr (pe_bm PySem.F.plainAttrs_list PySem.F.slot_list_append PySem.F.type_list_append mt_append (pv 2) (pa_cons (pe_ix ix_list (pe_op op_cat (pv 6) (pe_lst (pa_cons (pe_op op_add (pv 4) (pe_op op_mod (pe_df2 D_law_draw hr (by decide) (pv 0) (pe_op op_pow pe_int pe_int)) (pe_op op_add (pe_op op_sub (pv 5) (pv 4)) pe_int))) pa_nil))) (pe_df2 D_law_draw hr (by decide) (pv 0) pe_int) (fun _ _ => rfl)) pa_nil)))))) (pss_one (ps_ret (pe_callTy call_tuple_of (by rfl) T.n_tuple bt_tuple (pa_cons (pv 2) pa_nil)))))), (rs_seq (rs_asg (re_lstT ra_nil) rg_name) (rs_seq (rs_for (ri_tup re_var) (rg_tup (rgs_cons rg_name (rgs_cons rg_name (rgs_cons rg_name rgs_nil)))) (rs_seq (rs_asg (re_lst (ra_cons re_var (ra_cons re_var (ra_cons (re_op ro_I0 re_var (re_op ro_I (re_op ro_I0 re_var re_var) re_int)) (ra_cons (re_cb rc_I2 (ra_cons re_var (ra_cons (re_op ro_I0 re_var re_int) ra_nil))) (ra_cons (re_cb rc_I2 (ra_cons re_var (ra_cons (re_op ro_I0 re_var re_int) ra_nil))) ra_nil)))))) rg_name) (rs_drop (re_bm rm_append re_var (ra_cons (re_op ro_ixL (re_op ro_cat re_var (re_lst (ra_cons (re_op ro_I0 re_var (re_op ro_I (re_p2 re_var (re_op ro_I re_int re_int)) (re_op ro_I0 (re_op ro_I0 re_var re_var) re_int))) ra_nil))) (re_p2 re_var re_int)) ra_nil))))) (rs_ret (re_cb rc_tupOf (ra_cons re_var ra_nil))))), ?_⟩
  rintro _ _ _ R ⟨p, ps, rfl, rfl, rfl, hp, hd, q⟩
  walk_at "dd_"
  refine loop_inv (fun i δ S => ∃ (p : List PyData) (ns : List Int) (u1 u2 u3 u4 : Option XV), S = [p, ns.map PyData.int] ∧ isPen p ∧ δ = [some (.l 0), some (.d (drwD ps)), some (.l 1), u1, u2, u3, u4] ∧ ns.length = i ∧ ∀ j n, ns[j]? = some n → (part ps j).2.1 ≤ n ∧ n ≤ (part ps j).2.2) ⟨p, [], _, _, _, _, rfl, hp, rfl, rfl, by simp⟩ ?_ ?_
  · rintro i d _ _ N hi ⟨p, ns, u1, u2, u3, u4, rfl, hp, rfl, hl, hns⟩ hN
    rw [List.getElem?_map] at hi
    obtain ⟨t, ht, rfl⟩ := Option.map_eq_some_iff.mp hi
    have mt := List.mem_of_getElem? ht
    have ok := hd.all t mt
    have il : i < ps.length := (List.getElem?_eq_some_iff.mp ht).1
    have et : part ps i = t := Option.some.inj ((part_of il).symm.trans ht)
    have l8 := hd.l8
    have lo := ok.2.1
    walk_at "dd_"
    refine ⟨⟨by decide, by decide⟩, ⟨by decide, by decide, by decide⟩, p, _, rfl, rfl, rfl, hp, by decide, by decide +kernel, fun r p1 r0 r1 hp1 => ?_⟩
    walk_at "dd_"
    refine ⟨by omega, p1, 6, rfl, rfl, rfl, hp1, by decide, by decide +kernel, fun r' p2 r2 r3 hp2 => ?_⟩
    have b1 := Int.emod_nonneg r (show t.2.2 - t.2.1 + 1 ≠ 0 by omega)
    have b2 := Int.emod_lt_of_pos r (show 0 < t.2.2 - t.2.1 + 1 by omega)
    obtain ⟨d, ed, n, rfl, n0, n1⟩ := ix_in (P := fun d => ∃ n, d = .int n ∧ t.2.1 ≤ n ∧ n ≤ t.2.2) (ds := [PyData.int t.2.1, PyData.int t.2.2, PyData.int (t.2.1 + (t.2.2 - t.2.1) / 2), PyData.int (if t.2.1 + 1 < t.2.2 then t.2.1 + 1 else t.2.2), PyData.int (if t.2.2 - 1 > t.2.1 then t.2.2 - 1 else t.2.1), PyData.int (t.2.1 + r % (t.2.2 - t.2.1 + 1))]) r2 r3 (by
      intro d m
      simp only [List.mem_cons, List.not_mem_nil, or_false] at m
      rcases m with rfl | rfl | rfl | rfl | rfl | rfl
      · exact ⟨_, rfl, by omega, by omega⟩
      · exact ⟨_, rfl, by omega, by omega⟩
      · exact ⟨_, rfl, by omega, by omega⟩
      · exact ⟨_, rfl, by split <;> omega, by split <;> omega⟩
      · exact ⟨_, rfl, by split <;> omega, by split <;> omega⟩
      · exact ⟨_, rfl, by omega, by omega⟩)
    walk_at "dd_"
    refine ⟨_, ed, by omega, hN _ _ ⟨p2, ns ++ [n], _, _, _, _, by simp, hp2, rfl, by simp [hl], fun j m hj => ?_⟩⟩
    by_cases hji : j < ns.length
    · rw [List.getElem?_append_left hji] at hj
      exact hns j m hj
    · have hj2 : j = ns.length := by
        obtain ⟨z, _⟩ := List.getElem?_eq_some_iff.mp hj
        rw [List.length_append, List.length_singleton] at z
        omega
      subst hj2
      rw [List.getElem?_concat_length] at hj
      cases hj
      rw [hl, et]
      exact ⟨n0, n1⟩
  · rintro _ _ ⟨p, ns, u1, u2, u3, u4, rfl, hp, rfl, hl, hns⟩
    rw [List.length_map] at hl
    walk_at "dd_"
    exact q ns p hl hns hp

--DDX diRngX1, diRngX2, dAugS, dAny
def asT_sp' {a b : Int} {K : List PyData → Prop} : asT (.d (spD a b)) K = K [.int a, .int b] := rfl
--DDX asT_sp'
def Ord (ps : List (Str × Int × Int)) : Prop := ∀ p ∈ ps, p.2.1 ≤ p.2.2
theorem Drw.ord {ps : List (Str × Int × Int)} (h : Drw ps) : Ord ps := fun p m => (h.all p m).2.1
/-- by how much the parts with these times can rise -/
def room (ps : List (Str × Int × Int)) (ts : List (Nat × Int)) (k : Nat) : Int := (ts.map fun t => if t.2.natAbs = k then (part ps t.1).2.2 - (part ps t.1).2.1 else 0).sum
def roomD (ps : List (Str × Int × Int)) (ts : List (Nat × Int)) : PyData := .list [.int (room ps ts 0), .int (room ps ts 1), .int (room ps ts 2), .int (room ps ts 3)]
theorem room_nn {ps : List (Str × Int × Int)} (ho : Ord ps) (k : Nat) : ∀ {ts : List (Nat × Int)}, (∀ t ∈ ts, t.1 < ps.length) → 0 ≤ room ps ts k
  | [], _ => by simp [room]
  | t :: ts, h => by
    have ih := room_nn ho k (ts := ts) fun u m => h u (List.mem_cons_of_mem _ m)
    have := ho _ (part_mem (h t List.mem_cons_self))
    simp only [room, List.map_cons, List.sum_cons] at ih ⊢
    split <;> omega
/-- what is summed up by ones, twos and threes -/
def Can (s1 s2 s3 r : Int) : Prop := ∃ a b c, 0 ≤ a ∧ a ≤ s1 ∧ 0 ≤ b ∧ b ≤ s2 ∧ 0 ≤ c ∧ c ≤ s3 ∧ r = a + 2 * b + 3 * c
def few0 (s1 s2 r : Int) : Int := if (r - (s1 + 2 * s2) + 2) / 3 > 0 then (r - (s1 + 2 * s2) + 2) / 3 else 0
def few (s1 s2 r : Int) : Int := if s1 = 0 ∧ (r - few0 s1 s2 r) % 2 = 1 then few0 s1 s2 r + 1 else few0 s1 s2 r
def canB (s1 s2 s3 r : Int) : Bool := decide (few s1 s2 r ≤ if r / 3 < s3 then r / 3 else s3)
theorem can_iff {s1 s2 s3 r : Int} (h1 : 0 ≤ s1) (h2 : 0 ≤ s2) (h3 : 0 ≤ s3) : canB s1 s2 s3 r = true ↔ Can s1 s2 s3 r := by
  unfold canB
  rw [decide_eq_true_eq]
  have e0 : few0 s1 s2 r = max 0 ((r - (s1 + 2 * s2) + 2) / 3) := by unfold few0; split <;> omega
  have em : (if r / 3 < s3 then r / 3 else s3) = min (r / 3) s3 := by split <;> omega
  rw [em]
  constructor
  · intro h
    by_cases hs : s1 = 0
    · have hp : (r - few s1 s2 r) % 2 = 0 ∧ few0 s1 s2 r ≤ few s1 s2 r := by
        unfold few
        split <;> omega
      refine ⟨0, (r - 3 * few s1 s2 r) / 2, few s1 s2 r, by omega, by omega, by omega, by omega, by omega, by omega, by omega⟩
    · have hf : few s1 s2 r = few0 s1 s2 r := by
        unfold few
        rw [if_neg (fun z => hs z.1)]
      rw [hf] at h
      refine ⟨(r - 3 * few0 s1 s2 r) - 2 * min s2 ((r - 3 * few0 s1 s2 r) / 2), min s2 ((r - 3 * few0 s1 s2 r) / 2), few0 s1 s2 r, by omega, by omega, by omega, by omega, by omega, by omega, by omega⟩
  · rintro ⟨a, b, c, ha, ha', hb, hb', hc, hc', e⟩
    unfold few
    split
    · rename_i z
      omega
    · omega
theorem can_top {s1 s2 s3 : Int} (h1 : 0 ≤ s1) (h2 : 0 ≤ s2) (h3 : 0 ≤ s3) : Can s1 s2 s3 (s1 + 2 * s2 + 3 * s3) := ⟨s1, s2, s3, h1, by omega, h2, by omega, h3, by omega, rfl⟩
theorem can_bot {s1 s2 s3 : Int} (h1 : 0 ≤ s1) (h2 : 0 ≤ s2) (h3 : 0 ≤ s3) : Can s1 s2 s3 0 := ⟨0, 0, 0, by omega, h1, by omega, h2, by omega, h3, by omega⟩
/-- of any three in a row one can be, below -/
theorem can_down {s1 s2 s3 r : Int} (h1 : 0 ≤ s1) (h2 : 0 ≤ s2) (h3 : 0 ≤ s3) (r0 : 0 ≤ r) (rt : r ≤ s1 + 2 * s2 + 3 * s3) : ∃ k, 0 ≤ k ∧ k ≤ 2 ∧ k ≤ r ∧ Can s1 s2 s3 (r - k) := by
  by_cases hc : r / 3 ≤ s3
  · exact ⟨r % 3, by omega, by omega, by omega, 0, 0, r / 3, by omega, h1, by omega, h2, by omega, hc, by omega⟩
  · by_cases hs : s1 = 0
    · by_cases he : (r - 3 * s3) % 2 = 0
      · exact ⟨0, by omega, by omega, by omega, 0, (r - 3 * s3) / 2, s3, by omega, h1, by omega, by omega, h3, by omega, by omega⟩
      · exact ⟨1, by omega, by omega, by omega, 0, (r - 3 * s3 - 1) / 2, s3, by omega, h1, by omega, by omega, h3, by omega, by omega⟩
    · exact ⟨0, by omega, by omega, by omega, (r - 3 * s3) - 2 * min s2 ((r - 3 * s3) / 2), min s2 ((r - 3 * s3) / 2), s3, by omega, by omega, by omega, by omega, h3, by omega, by omega⟩
theorem Can.flip {s1 s2 s3 r : Int} (h : Can s1 s2 s3 r) : Can s1 s2 s3 (s1 + 2 * s2 + 3 * s3 - r) := by
  obtain ⟨a, b, c, ha, ha', hb, hb', hc, hc', e⟩ := h
  exact ⟨s1 - a, s2 - b, s3 - c, by omega, by omega, by omega, by omega, by omega, by omega, by omega⟩
theorem can_up {s1 s2 s3 r : Int} (h1 : 0 ≤ s1) (h2 : 0 ≤ s2) (h3 : 0 ≤ s3) (r0 : 0 ≤ r) (rt : r ≤ s1 + 2 * s2 + 3 * s3) : ∃ k, 0 ≤ k ∧ k ≤ 2 ∧ r + k ≤ s1 + 2 * s2 + 3 * s3 ∧ Can s1 s2 s3 (r + k) := by
  obtain ⟨k, k0, k2, kr, hk⟩ := can_down (r := s1 + 2 * s2 + 3 * s3 - r) h1 h2 h3 (by omega) (by omega)
  have := hk.flip
  exact ⟨k, k0, k2, by omega, by rwa [show s1 + 2 * s2 + 3 * s3 - (s1 + 2 * s2 + 3 * s3 - r - k) = r + k by omega] at this⟩
/-- all rises together -/
theorem total_eq {ps : List (Str × Int × Int)} (ho : Ord ps) : ∀ {ts : List (Nat × Int)}, (∀ t ∈ ts, t.1 < ps.length ∧ -3 ≤ t.2 ∧ t.2 ≤ 3) → mostW ps ts - leastW ps ts = room ps ts 1 + 2 * room ps ts 2 + 3 * room ps ts 3
  | [], _ => by simp [room, leastW, mostW]
  | t :: ts, h => by
    have ih := total_eq ho (ts := ts) fun u m => h u (List.mem_cons_of_mem _ m)
    obtain ⟨t1, t2, t3⟩ := h t List.mem_cons_self
    have o := ho _ (part_mem t1)
    simp only [room, leastW, mostW, List.map_cons, List.sum_cons] at ih ⊢
    have e : tHi ps t - tLo ps t = (if t.2.natAbs = 1 then (part ps t.1).2.2 - (part ps t.1).2.1 else 0) + 2 * (if t.2.natAbs = 2 then (part ps t.1).2.2 - (part ps t.1).2.1 else 0) + 3 * (if t.2.natAbs = 3 then (part ps t.1).2.2 - (part ps t.1).2.1 else 0) := by
      unfold tHi tLo
      generalize (part ps t.1).2.1 = lo at o ⊢
      generalize (part ps t.1).2.2 = hi at o ⊢
      have : t.2 = -3 ∨ t.2 = -2 ∨ t.2 = -1 ∨ t.2 = 0 ∨ t.2 = 1 ∨ t.2 = 2 ∨ t.2 = 3 := by omega
      rcases this with e | e | e | e | e | e | e <;> rw [e] <;> simp <;> omega
    omega
/-- a set's worth can be -/
theorem worth_can {ps : List (Str × Int × Int)} {ns : List Int} (hb : ∀ j, j < ps.length → (part ps j).2.1 ≤ ns.getD j 0 ∧ ns.getD j 0 ≤ (part ps j).2.2) : ∀ {ts : List (Nat × Int)}, (∀ t ∈ ts, t.1 < ps.length ∧ -3 ≤ t.2 ∧ t.2 ≤ 3) → Can (room ps ts 1) (room ps ts 2) (room ps ts 3) (worth ts ns - leastW ps ts)
  | [], _ => ⟨0, 0, 0, by simp [room, worth, leastW]⟩
  | t :: ts, h => by
    obtain ⟨a, b, c, ha, ha', hb', hb'', hc, hc', e⟩ := worth_can hb (ts := ts) fun u m => h u (List.mem_cons_of_mem _ m)
    obtain ⟨t1, t2, t3⟩ := h t List.mem_cons_self
    obtain ⟨o1, o2⟩ := hb _ t1
    simp only [room, worth, leastW, List.map_cons, List.sum_cons] at ha' hb'' hc' e ⊢
    have et : ∃ y, t.2 * ns.getD t.1 0 - tLo ps t = t.2.natAbs * y ∧ 0 ≤ y ∧ y ≤ (part ps t.1).2.2 - (part ps t.1).2.1 := by
      unfold tLo
      generalize (part ps t.1).2.1 = lo at o1 o2 ⊢
      generalize (part ps t.1).2.2 = hi at o1 o2 ⊢
      generalize ns.getD t.1 0 = x at o1 o2 ⊢
      by_cases hs : t.2 < 0
      · refine ⟨hi - x, ?_, by omega, by omega⟩
        have : t.2 = -3 ∨ t.2 = -2 ∨ t.2 = -1 := by omega
        rcases this with e | e | e <;> rw [e] <;> simp <;> omega
      · refine ⟨x - lo, ?_, by omega, by omega⟩
        have : t.2 = 0 ∨ t.2 = 1 ∨ t.2 = 2 ∨ t.2 = 3 := by omega
        rcases this with e | e | e | e <;> rw [e] <;> simp <;> omega
    obtain ⟨y, ey, y0, y1⟩ := et
    have : t.2.natAbs = 0 ∨ t.2.natAbs = 1 ∨ t.2.natAbs = 2 ∨ t.2.natAbs = 3 := by omega
    rcases this with z | z | z | z <;> simp only [z, ↓reduceIte, Nat.reduceEqDiff, Int.natCast_zero, Int.natCast_one, reduceCtorEq] at ey ⊢
    · exact ⟨a, b, c, by omega, by first | omega | (simp; omega), by omega, by first | omega | (simp; omega), by omega, by first | omega | (simp; omega), by omega⟩
    · exact ⟨a + y, b, c, by omega, by first | omega | (simp; omega), by omega, by first | omega | (simp; omega), by omega, by first | omega | (simp; omega), by omega⟩
    · exact ⟨a, b + y, c, by omega, by first | omega | (simp; omega), by omega, by first | omega | (simp; omega), by omega, by first | omega | (simp; omega), by omega⟩
    · exact ⟨a, b, c + y, by omega, by first | omega | (simp; omega), by omega, by first | omega | (simp; omega), by omega, by first | omega | (simp; omega), by omega⟩
local macro_rules | `(tactic| walk_at "dd_") => `(tactic| (try simp only [dSeq, dAsg, dgName, dVar, dC, dO, dOp, dUn, dNil, dCons, dCB, dTup, dLst, dLstT, dB, dNot, dAnd, dOr, dAndV, dOrV, dNotV, dIf, dChain, dI, dI0, dIb, dUI, dEqI, dNeI, dEqB, dNeB, dEqD, dNeD, dIsN, dNotN, dIxT, dIxL, dCat, dCatT, dNoPart, dPart, dSl, dSlL, dSlT, dLen, dIsi, dAbs, dInt1, dI2, dTupOf, dLstOf, dLstOfT, dBM, dBM0, dAppend, dReverse, dExtend, dSum, dAll, dMin, dMax, dF1, dF2, dF3, dF4, dP1, dP2, dP2', dP3, dP3', dP4, asI_d, asB_d, asT_d, asS_d, asL, asLs_d, asLs_l, asQ_d, asQ_t, asQ_l, asD_d, asDat_d, asDat_l, asK_l, ret0_d, ret0_l, retP_d, retP_l, fin_d, fin_l, dEnd_nx, dEnd_rt, arg1_x, arg2_x, asTy_x, asIB_i, asIB_b, dRet, dRetN, dIfS, dDrop, dNext, dBreak, dCont, dFor, diList, diTup, diRng1, diRng2, dgTup, dgCons, hdD_c, atI_0, atI_1, atI_2, atI_3, atI_4, dgNil, dgSet, dComp, dCompT, dNoIf, tauX, datas_nil, datas_cons, List.replicate, List.map_cons, List.map_nil, Option.map_some, Option.bind_some, Option.bind_none, Option.join_some, List.getElem?_cons_zero, List.getElem?_cons_succ, List.set_cons_zero, List.set_cons_succ, List.take_succ_cons, List.take_zero, List.take_nil, List.length_cons, List.length_nil, List.nil_append, List.cons_append, Option.some.injEq, exists_eq_left', exists_eq_left, List.cons.injEq, XV.d.injEq, XV.l.injEq, XV.o.injEq, PyData.int.injEq, PyData.list.injEq, PyData.tuple.injEq, PyData.bool.injEq, and_true, true_and, decide_eq_true_eq, Bool.not_true, Bool.not_false, Bool.false_eq_true, Bool.true_eq_false, not_true_eq_false, not_false_eq_true, ↓reduceIte, decide_true, decide_false, Bool.not_eq_true', noneD, wholeD, decide_eq_false_iff_not, Nat.reduceAdd, Nat.zero_add, Nat.reduceLT, Nat.reduceLeDiff, Int.reduceLT, Int.reduceLE, Int.reduceNeg, Int.reducePow, Int.reduceToNat, Int.reduceEq, Int.reduceAdd, Int.reduceSub, Nat.le_refl, Nat.zero_le, List.length_append, List.length_map, asQ_drw, asT_drw, asQ_tms, asT_tms, asT_gap, asT_set, asQ_set, asT_tm, asT_prt, diRngX1, diRngX2, dAugS, dAny, asT_sp']))
local macro_rules | `(tactic| walk_at "ddl_") => `(tactic| (try simp only [dSeq, dAsg, dgName, dVar, dC, dO, dOp, dUn, dNil, dCons, dCB, dTup, dLst, dLstT, dB, dNot, dAnd, dOr, dAndV, dOrV, dNotV, dIf, dChain, dI, dI0, dIb, dUI, dEqI, dNeI, dEqB, dNeB, dEqD, dNeD, dIsN, dNotN, dIxT, dIxL, dCat, dCatT, dNoPart, dPart, dSl, dSlL, dSlT, dLen, dIsi, dAbs, dInt1, dI2, dTupOf, dLstOf, dLstOfT, dBM, dBM0, dAppend, dReverse, dExtend, dSum, dAll, dMin, dMax, dF1, dF2, dF3, dF4, dP1, dP2, dP2', dP3, dP3', dP4, asI_d, asB_d, asT_d, asS_d, asL, asLs_d, asLs_l, asQ_d, asQ_t, asQ_l, asD_d, asDat_d, asDat_l, asK_l, ret0_d, ret0_l, retP_d, retP_l, fin_d, fin_l, dEnd_nx, dEnd_rt, arg1_x, arg2_x, asTy_x, asIB_i, asIB_b, dRet, dRetN, dIfS, dDrop, dNext, dBreak, dCont, dFor, diList, diTup, diRng1, diRng2, dgTup, dgCons, hdD_c, atI_0, atI_1, atI_2, atI_3, atI_4, dgNil, dgSet, dComp, dCompT, dNoIf, tauX, datas_nil, datas_cons, List.replicate, List.map_cons, List.map_nil, Option.map_some, Option.bind_some, Option.bind_none, Option.join_some, List.getElem?_cons_zero, List.getElem?_cons_succ, List.set_cons_zero, List.set_cons_succ, List.take_succ_cons, List.take_zero, List.take_nil, List.length_cons, List.length_nil, List.nil_append, List.cons_append, Option.some.injEq, exists_eq_left', exists_eq_left, List.cons.injEq, XV.d.injEq, XV.l.injEq, XV.o.injEq, PyData.int.injEq, PyData.list.injEq, PyData.tuple.injEq, PyData.bool.injEq, and_true, true_and, decide_eq_true_eq, Bool.not_true, Bool.not_false, Bool.false_eq_true, Bool.true_eq_false, not_true_eq_false, not_false_eq_true, ↓reduceIte, decide_true, decide_false, Bool.not_eq_true', noneD, wholeD, decide_eq_false_iff_not, Nat.reduceAdd, Nat.zero_add, Nat.reduceLT, Nat.reduceLeDiff, Int.reduceLT, Int.reduceLE, Int.reduceNeg, Int.reducePow, Int.reduceToNat, Int.reduceEq, Int.reduceAdd, Int.reduceSub, Nat.le_refl, Nat.zero_le, List.length_append, List.length_map, asQ_drw, asT_drw, asQ_tms, asT_tms, asT_gap, asT_set, asQ_set, asT_tm, asT_prt, diRngX1, diRngX2, dAugS, dAny, asT_sp', dLoop]))
def qPlus : P2 := fun x y S R => ∃ a b c d, x = .d (spD a b) ∧ y = .d (spD c d) ∧ S = [] ∧ R (.d (spD (a + c) (b + d))) []
def qMult : P2 := fun x y S R => ∃ a b n, x = .d (spD a b) ∧ y = .d (.int n) ∧ S = [] ∧ -3 ≤ n ∧ n ≤ 3 ∧ R (.d (spD (min (a * n) (b * n)) (max (a * n) (b * n)))) []
def qSize : P1 := fun x S R => ∃ a b, x = .d (spD a b) ∧ S = [] ∧ R (.d (.int (b - a + 1))) []
def qSpanOf : P1 := fun x S R => ∃ t, x = .d (prtD t) ∧ S = [] ∧ R (.d (spD t.2.1 t.2.2)) []
def qReachT : P2 := fun x y S R => ∃ ps ts, x = .d (drwD ps) ∧ y = .d (tmsD ts) ∧ S = [] ∧ Tm3 ps.length ts ∧ R (.d (spD (leastW ps ts) (mostW ps ts))) []
def qReach : P2 := fun x y S R => ∃ ps ts lo hi, x = .d (drwD ps) ∧ y = .d (gapD ts lo hi) ∧ S = [] ∧ Tm3 ps.length ts ∧ R (.d (spD (leastW ps ts) (mostW ps ts))) []
def qSteps : P2 := fun x y S R => ∃ ps ts, x = .d (drwD ps) ∧ y = .d (tmsD ts) ∧ S = [] ∧ Tm3 ps.length ts ∧ R (.d (roomD ps ts)) []
def qCan : P2 := fun x y S R => ∃ s0 s1 s2 s3 r, x = .d (.list [.int s0, .int s1, .int s2, .int s3]) ∧ y = .d (.int r) ∧ S = [] ∧ R (.d (.bool (canB s1 s2 s3 r))) []
theorem ok_plus (T : Txt mg) (d : Dd K mg "plus" s_plus ["one", "other"]) : Df P w K mg base "plus" ["one", "other"] 1 (sp2 (lf2 qPlus)) := by
  refine Df.d2 d sc_plus (fun v u => [some v, some u]) (fun v u => rfl) 0 (fun v u => rfl) fun f cdv A outer s H E hr => ⟨_, _, (pss_one (ps_ret (pe_tup (pa_cons (pe_op op_add (pe_ix ix_tup (pv 0) pe_int (fun _ _ => rfl)) (pe_ix ix_tup (pv 1) pe_int (fun _ _ => rfl))) (pa_cons (pe_op op_add (pe_ix ix_tup (pv 0) pe_int (fun _ _ => rfl)) (pe_ix ix_tup (pv 1) pe_int (fun _ _ => rfl))) pa_nil))))), (rs_ret (re_tup (ra_cons (re_op ro_I0 (re_op ro_ixT re_var re_int) (re_op ro_ixT re_var re_int)) (ra_cons (re_op ro_I0 (re_op ro_ixT re_var re_int) (re_op ro_ixT re_var re_int)) ra_nil)))), ?_⟩
  rintro _ _ _ R ⟨a, b, c, d, rfl, rfl, rfl, q⟩
  walk_at "dd_"
  exact q
theorem ok_multiplied (T : Txt mg) (d : Dd K mg "multiplied" s_multiplied ["one", "by"]) : Df P w K mg base "multiplied" ["one", "by"] 1 (sp2 (lf2 qMult)) := by
  refine Df.d2 d sc_multiplied (fun v u => [some v, some u, none]) (fun v u => rfl) 1 (fun v u => rfl) fun f cdv A outer s H E hr => ⟨_, _, (pss_cons (ps_set (i := 2) sc_multiplied.nd rfl (Or.inl rfl) (pe_tup (pa_cons (pe_op op_mulX (pe_ix ix_tup (pv 0) pe_int (fun _ _ => rfl)) (pv 1)) (pa_cons (pe_op op_mulX (pe_ix ix_tup (pv 0) pe_int (fun _ _ => rfl)) (pv 1)) pa_nil)))) (pss_one (ps_ret (pe_tup (pa_cons (pe_callB (call_minQ rfl) (by rfl) T.n_min bt_min (pa_cons (pv 2) pa_nil)) (pa_cons (pe_callB (call_maxQ rfl) (by rfl) T.n_max bt_max (pa_cons (pv 2) pa_nil)) pa_nil)))))), (rs_seq (rs_asg (re_tup (ra_cons (re_op ro_I (re_op ro_ixT re_var re_int) re_var) (ra_cons (re_op ro_I (re_op ro_ixT re_var re_int) re_var) ra_nil))) rg_name) (rs_ret (re_tup (ra_cons (re_cb rc_min (ra_cons re_var ra_nil)) (ra_cons (re_cb rc_max (ra_cons re_var ra_nil)) ra_nil))))), ?_⟩
  rintro _ _ _ R ⟨a, b, n, rfl, rfl, rfl, h1, h2, q⟩
  walk_at "dd_"
  refine ⟨mulOkR (by omega) (by omega), mulOkR (by omega) (by omega), [a * n, b * n], rfl, by simp, fun m m1 m2 => ⟨[a * n, b * n], rfl, by simp, fun m' m3 m4 => ?_⟩⟩
  rw [min_of m1 m2, max_of m3 m4]
  exact q
theorem ok_size_of (T : Txt mg) (d : Dd K mg "size_of" s_size_of ["one"]) : Df P w K mg base "size_of" ["one"] 1 (sp1 (lf1 qSize)) := by
  refine Df.d1 d sc_size_of (fun v => [some v]) (fun v => rfl) 0 (fun v => rfl) fun f cdv A outer s H E hr => ⟨_, _, (pss_one (ps_ret (pe_op op_add (pe_op op_sub (pe_ix ix_tup (pv 0) pe_int (fun _ _ => rfl)) (pe_ix ix_tup (pv 0) pe_int (fun _ _ => rfl))) pe_int))), (rs_ret (re_op ro_I0 (re_op ro_I0 (re_op ro_ixT re_var re_int) (re_op ro_ixT re_var re_int)) re_int)), ?_⟩
  rintro _ _ R ⟨a, b, rfl, rfl, q⟩
  walk_at "dd_"
  exact q
theorem ok_span_of_part (T : Txt mg) (d : Dd K mg "span_of" s_span_of ["part"]) : Df P w K mg base "span_of" ["part"] 1 (sp1 (lf1 qSpanOf)) := by
  refine Df.d1 d sc_span_of (fun v => [some v]) (fun v => rfl) 0 (fun v => rfl) fun f cdv A outer s H E hr => ⟨_, _, (pss_one (ps_ret (pe_tup (pa_cons (pe_ix ix_tup (pv 0) pe_int (fun _ _ => rfl)) (pa_cons (pe_ix ix_tup (pv 0) pe_int (fun _ _ => rfl)) pa_nil))))), (rs_ret (re_tup (ra_cons (re_op ro_ixT re_var re_int) (ra_cons (re_op ro_ixT re_var re_int) ra_nil)))), ?_⟩
  rintro _ _ R ⟨t, rfl, rfl, q⟩
  walk_at "dd_"
  exact q
theorem ok_reach_of_terms (T : Txt mg) (D_plus : Df P w K mg base "plus" ["one", "other"] 1 (sp2 (lf2 qPlus))) (D_multiplied : Df P w K mg base "multiplied" ["one", "by"] 1 (sp2 (lf2 qMult))) (D_span_of : Df P w K mg base "span_of" ["part"] 1 (sp1 (lf1 qSpanOf)))
    (d : Dd K mg "reach_of_terms" s_reach_of_terms ["drawing", "terms"]) : Df P w K mg base "reach_of_terms" ["drawing", "terms"] 2 (sp2 (lf2 qReachT)) := by
  refine Df.d2 d sc_reach_of_terms (fun v u => [some v, some u, none, none, none]) (fun v u => rfl) 3 (fun v u => rfl) fun f cdv A outer s H E hr => ⟨_, _, (pss_cons (ps_set (i := 2) sc_reach_of_terms.nd rfl (Or.inl rfl) (pe_tup (pa_cons pe_int (pa_cons pe_int pa_nil)))) (pss_cons (ps_for PassesOwn.never rfl (pi_tup (pv 1)) (pg_tup (n := 2) rfl (pgs_cons (pg_name (i := 3) sc_reach_of_terms.nd rfl (Or.inl rfl)) (pgs_cons (pg_name (i := 4) sc_reach_of_terms.nd rfl (Or.inl rfl)) pgs_nil))) (pss_one (ps_set (i := 2) sc_reach_of_terms.nd rfl (Or.inl rfl) (pe_df2 D_plus hr (by decide) (pv 2) (pe_df2 D_multiplied hr (by decide) (pe_df1 D_span_of hr (by decide) (pe_ix ix_tup (pv 0) (pv 3) (fun _ _ => rfl))) (pv 4)))))) (pss_one (ps_ret (pv 2))))), (rs_seq (rs_asg (re_tup (ra_cons re_int (ra_cons re_int ra_nil))) rg_name) (rs_seq (rs_for (ri_tup re_var) (rg_tup (rgs_cons rg_name (rgs_cons rg_name rgs_nil))) (rs_asg (re_f2 re_var (re_f2 (re_f1 (re_op ro_ixT re_var re_var)) re_var)) rg_name)) (rs_ret re_var))), ?_⟩
  rintro _ _ _ R ⟨ps, ts, rfl, rfl, rfl, h3, q⟩
  walk_at "dd_"
  refine loop_inv (fun i δ S => ∃ (u1 u2 : Option XV), S = [] ∧ δ = [some (.d (drwD ps)), some (.d (tmsD ts)), some (.d (spD (leastW ps (ts.take i)) (mostW ps (ts.take i)))), u1, u2]) ⟨_, _, rfl, rfl⟩ ?_ ?_
  · rintro i d _ _ N hi ⟨u1, u2, rfl, rfl⟩ hN
    rw [List.getElem?_map] at hi
    obtain ⟨t, ht, rfl⟩ := Option.map_eq_some_iff.mp hi
    have mt := List.mem_of_getElem? ht
    obtain ⟨t1, t2, t3⟩ := h3.2 t mt
    have ep := ix_map (f := prtD) (part_of t1)
    have lk : leastW ps (ts.take (i + 1)) = leastW ps (ts.take i) + tLo ps t := by
      unfold leastW
      rw [List.take_add_one, ht]
      simp
    have mk : mostW ps (ts.take (i + 1)) = mostW ps (ts.take i) + tHi ps t := by
      unfold mostW
      rw [List.take_add_one, ht]
      simp
    walk_at "dd_"
    refine ⟨_, ep, _, rfl, rfl, ?_⟩
    walk_at "dd_"
    refine ⟨_, _, _, rfl, rfl, rfl, t2, t3, ?_⟩
    walk_at "dd_"
    refine ⟨_, _, _, _, rfl, rfl, rfl, ?_⟩
    walk_at "dd_"
    refine hN _ _ ⟨some (.d (.int t.1)), some (.d (.int t.2)), rfl, ?_⟩
    rw [lk, mk]
    unfold tLo tHi
    rw [Int.mul_comm t.2, Int.mul_comm t.2]
  · rintro _ _ ⟨u1, u2, rfl, rfl⟩
    rw [List.length_map, List.take_length]
    walk_at "dd_"
    exact q
theorem ok_reach (T : Txt mg) (D_reach_of_terms : Df P w K mg base "reach_of_terms" ["drawing", "terms"] 2 (sp2 (lf2 qReachT))) (d : Dd K mg "reach" s_reach ["drawing", "gap"]) : Df P w K mg base "reach" ["drawing", "gap"] 3 (sp2 (lf2 qReach)) := by
  refine Df.d2 d sc_reach (fun v u => [some v, some u]) (fun v u => rfl) 0 (fun v u => rfl) fun f cdv A outer s H E hr => ⟨_, _, (pss_one (ps_ret (pe_df2 D_reach_of_terms hr (by decide) (pv 0) (pe_ix ix_tup (pv 1) pe_int (fun _ _ => rfl))))), (rs_ret (re_f2 re_var (re_op ro_ixT re_var re_int))), ?_⟩
  rintro _ _ _ R ⟨ps, ts, lo, hi, rfl, rfl, rfl, h3, q⟩
  walk_at "dd_"
  refine ⟨ps, ts, rfl, rfl, rfl, h3, ?_⟩
  walk_at "dd_"
  exact q
theorem room_take {ps : List (Str × Int × Int)} {ts : List (Nat × Int)} {i : Nat} {t : Nat × Int} (ht : ts[i]? = some t) (k : Nat) : room ps (ts.take (i + 1)) k = room ps (ts.take i) k + if t.2.natAbs = k then (part ps t.1).2.2 - (part ps t.1).2.1 else 0 := by
  unfold room
  rw [List.take_add_one, ht]
  simp
theorem ok_steps_of (T : Txt mg) (D_size_of : Df P w K mg base "size_of" ["one"] 1 (sp1 (lf1 qSize))) (D_span_of : Df P w K mg base "span_of" ["part"] 1 (sp1 (lf1 qSpanOf)))
    (d : Dd K mg "steps_of" s_steps_of ["drawing", "terms"]) : Df P w K mg base "steps_of" ["drawing", "terms"] 2 (sp2 (lf2 qSteps)) := by
  refine Df.d2 d sc_steps_of (fun v u => [some v, some u, none, none, none]) (fun v u => rfl) 3 (fun v u => rfl) fun f cdv A outer s H E hr => ⟨_, _, (pss_cons (ps_set (i := 2) sc_steps_of.nd rfl (Or.inl rfl) (pe_lst (pa_cons pe_int (pa_cons pe_int (pa_cons pe_int (pa_cons pe_int pa_nil)))))) (pss_cons (ps_for PassesOwn.never rfl (pi_tup (pv 1)) (pg_tup (n := 2) rfl (pgs_cons (pg_name (i := 3) sc_steps_of.nd rfl (Or.inl rfl)) (pgs_cons (pg_name (i := 4) sc_steps_of.nd rfl (Or.inl rfl)) pgs_nil))) (pss_one (ps_asg (pe_op op_sub (pe_op op_add (pe_ix ix_list (pv 2) (pe_callB call_abs (by rfl) T.n_abs bt_abs (pa_cons (pv 4) pa_nil)) (fun _ _ => rfl)) (pe_df1 D_size_of hr (by decide) (pe_df1 D_span_of hr (by decide) (pe_ix ix_tup (pv 0) (pv 3) (fun _ _ => rfl))))) pe_int) (pg_sub (pv 2) (pe_callB call_abs (by rfl) T.n_abs bt_abs (pa_cons (pv 4) pa_nil)) set_list)))) (pss_one (ps_ret (pv 2))))), (rs_seq (rs_asg (re_lstT (ra_cons re_int (ra_cons re_int (ra_cons re_int (ra_cons re_int ra_nil))))) rg_name) (rs_seq (rs_for (ri_tup re_var) (rg_tup (rgs_cons rg_name (rgs_cons rg_name rgs_nil))) (rs_asg (re_op ro_I0 (re_op ro_I0 (re_op ro_ixL re_var (re_cb rc_abs (ra_cons re_var ra_nil))) (re_f1 (re_f1 (re_op ro_ixT re_var re_var)))) re_int) (rg_set re_var (re_cb rc_abs (ra_cons re_var ra_nil))))) (rs_ret re_var))), ?_⟩
  rintro _ _ _ R ⟨ps, ts, rfl, rfl, rfl, h3, q⟩
  walk_at "dd_"
  refine loop_inv (fun i δ S => ∃ (u1 u2 : Option XV), S = [[.int (room ps (ts.take i) 0), .int (room ps (ts.take i) 1), .int (room ps (ts.take i) 2), .int (room ps (ts.take i) 3)]] ∧ δ = [some (.d (drwD ps)), some (.d (tmsD ts)), some (.l 0), u1, u2]) ⟨_, _, rfl, rfl⟩ ?_ ?_
  · rintro i d _ _ N hi ⟨u1, u2, rfl, rfl⟩ hN
    rw [List.getElem?_map] at hi
    obtain ⟨t, ht, rfl⟩ := Option.map_eq_some_iff.mp hi
    have mt := List.mem_of_getElem? ht
    obtain ⟨t1, t2, t3⟩ := h3.2 t mt
    have ep := ix_map (f := prtD) (part_of t1)
    walk_at "dd_"
    have ea : (if t.2 < 0 then -t.2 else t.2) = (t.2.natAbs : Int) := by split <;> omega
    rw [ea]
    have hN' := fun S' e => hN [some (.d (drwD ps)), some (.d (tmsD ts)), some (.l 0), some (.d (.int t.1)), some (.d (.int t.2))] S' ⟨_, _, e, rfl⟩
    simp only [room_take ht] at hN'
    have : t.2.natAbs = 0 ∨ t.2.natAbs = 1 ∨ t.2.natAbs = 2 ∨ t.2.natAbs = 3 := by omega
    rcases this with z | z | z | z <;> rw [z] at hN' ⊢
    · refine ⟨_, rfl, _, ep, _, rfl, rfl, ?_⟩
      walk_at "dd_"
      refine ⟨_, _, rfl, rfl, ?_⟩
      walk_at "dd_"
      refine ⟨0, rfl, hN' _ ?_⟩
      simp
      omega
    · refine ⟨_, rfl, _, ep, _, rfl, rfl, ?_⟩
      walk_at "dd_"
      refine ⟨_, _, rfl, rfl, ?_⟩
      walk_at "dd_"
      refine ⟨1, rfl, hN' _ ?_⟩
      simp
      omega
    · refine ⟨_, rfl, _, ep, _, rfl, rfl, ?_⟩
      walk_at "dd_"
      refine ⟨_, _, rfl, rfl, ?_⟩
      walk_at "dd_"
      refine ⟨2, rfl, hN' _ ?_⟩
      simp
      omega
    · refine ⟨_, rfl, _, ep, _, rfl, rfl, ?_⟩
      walk_at "dd_"
      refine ⟨_, _, rfl, rfl, ?_⟩
      walk_at "dd_"
      refine ⟨3, rfl, hN' _ ?_⟩
      simp
      omega
  · rintro _ _ ⟨u1, u2, rfl, rfl⟩
    rw [List.length_map, List.take_length]
    walk_at "dd_"
    exact .inl q
theorem ok_can_rise (T : Txt mg) (d : Dd K mg "can_rise" s_can_rise ["steps", "rise"]) : Df P w K mg base "can_rise" ["steps", "rise"] 1 (sp2 (lf2 qCan)) := by
  refine Df.d2 d sc_can_rise (fun v u => [some v, some u, none, none]) (fun v u => rfl) 2 (fun v u => rfl) fun f cdv A outer s H E hr => ⟨_, _, (pss_cons (ps_set (i := 2) sc_can_rise.nd rfl (Or.inl rfl) (pe_op op_add (pe_ix ix_list (pv 0) pe_int (fun _ _ => rfl)) (pe_op op_mulX pe_int (pe_ix ix_list (pv 0) pe_int (fun _ _ => rfl))))) (pss_cons (ps_set (i := 3) sc_can_rise.nd rfl (Or.inl rfl) (pe_callB (call_max2 rfl) (by rfl) T.n_max bt_max (pa_cons pe_int (pa_cons (pe_op op_fdivX (pe_op op_add (pe_op op_sub (pv 1) (pv 2)) pe_int) pe_int) pa_nil)))) (pss_cons (ps_if (PW.pt (pw_and (pt_cmpR op_eq (pe_ix ix_list (pv 0) pe_int (fun _ _ => rfl)) pe_int (nomark _)) (pw_and1 (pt_cmpR op_eq (pe_op op_mod (pe_op op_sub (pv 1) (pv 3)) pe_int) pe_int (nomark _))))) (pss_one (ps_set (i := 3) sc_can_rise.nd rfl (Or.inl rfl) (pe_op op_add (pv 3) pe_int))) pss_nil) (pss_one (ps_ret (pe_cmpR op_le (pv 3) (pe_callB (call_min2 rfl) (by rfl) T.n_min bt_min (pa_cons (pe_ix ix_list (pv 0) pe_int (fun _ _ => rfl)) (pa_cons (pe_op op_fdivX (pv 1) pe_int) pa_nil))) (nomark _))))))), (rs_seq (rs_asg (re_op ro_I0 (re_op ro_ixL re_var re_int) (re_op ro_I re_int (re_op ro_ixL re_var re_int))) rg_name) (rs_seq (rs_asg (re_cb rc_I2 (ra_cons re_int (ra_cons (re_op ro_I (re_op ro_I0 (re_op ro_I0 re_var re_var) re_int) re_int) ra_nil))) rg_name) (rs_seq (rs_if (rt_and (rt_t (re_op ro_eqI (re_op ro_ixL re_var re_int) re_int)) (rt_t (re_op ro_eqI (re_op ro_I (re_op ro_I0 re_var re_var) re_int) re_int))) (rs_asg (re_op ro_I0 re_var re_int) rg_name) rs_next) (rs_ret (re_op ro_Ib re_var (re_cb rc_I2 (ra_cons (re_op ro_ixL re_var re_int) (ra_cons (re_op ro_I re_var re_int) ra_nil)))))))), ?_⟩
  rintro _ _ _ R ⟨s0, s1, s2, s3, r, rfl, rfl, rfl, q⟩
  walk_at "dd_"
  refine ⟨mulOkL (by decide) (by decide), ⟨by decide, by decide⟩, ?_⟩
  unfold canB few few0 at q
  by_cases h1 : s1 = 0
  · by_cases h2 : (r - if (r - (s1 + 2 * s2) + 2) / 3 > 0 then (r - (s1 + 2 * s2) + 2) / 3 else 0) % 2 = 1
    · rw [if_pos ⟨h1, h2⟩] at q
      rw [if_pos h1, if_pos h2]
      exact ⟨⟨by decide, by decide⟩, q⟩
    · rw [if_neg (fun z => h2 z.2)] at q
      rw [if_pos h1, if_neg h2]
      exact ⟨⟨by decide, by decide⟩, q⟩
  · rw [if_neg (fun z => h1 z.1)] at q
    rw [if_neg h1]
    exact ⟨⟨by decide, by decide⟩, q⟩
-- the next worth from n on
structure Up (ps : List (Str × Int × Int)) (ts : List (Nat × Int)) (n w : Int) : Prop where
  ge : n ≤ w
  lo : leastW ps ts ≤ w
  hi : w ≤ mostW ps ts
  can : canB (room ps ts 1) (room ps ts 2) (room ps ts 3) (w - leastW ps ts) = true
  no : ∀ v, n ≤ v → leastW ps ts ≤ v → v < w → canB (room ps ts 1) (room ps ts 2) (room ps ts 3) (v - leastW ps ts) = false
structure Dn (ps : List (Str × Int × Int)) (ts : List (Nat × Int)) (n w : Int) : Prop where
  le : w ≤ n
  lo : leastW ps ts ≤ w
  hi : w ≤ mostW ps ts
  can : canB (room ps ts 1) (room ps ts 2) (room ps ts 3) (w - leastW ps ts) = true
  no : ∀ v, v ≤ n → v ≤ mostW ps ts → w < v → canB (room ps ts 1) (room ps ts 2) (room ps ts 3) (v - leastW ps ts) = false
theorem Tm3.in {n : Nat} {ts : List (Nat × Int)} (h : Tm3 n ts) : ∀ t ∈ ts, t.1 < n := fun t m => (h.2 t m).1
theorem can_most {ps : List (Str × Int × Int)} {ts : List (Nat × Int)} (ho : Ord ps) (h3 : Tm3 ps.length ts) : canB (room ps ts 1) (room ps ts 2) (room ps ts 3) (mostW ps ts - leastW ps ts) = true := by
  have n1 := room_nn ho 1 h3.in
  have n2 := room_nn ho 2 h3.in
  have n3 := room_nn ho 3 h3.in
  rw [can_iff n1 n2 n3, total_eq ho h3.2]
  exact can_top n1 n2 n3
theorem can_least {ps : List (Str × Int × Int)} {ts : List (Nat × Int)} (ho : Ord ps) (h3 : Tm3 ps.length ts) : canB (room ps ts 1) (room ps ts 2) (room ps ts 3) (leastW ps ts - leastW ps ts) = true := by
  have n1 := room_nn ho 1 h3.in
  have n2 := room_nn ho 2 h3.in
  have n3 := room_nn ho 3 h3.in
  rw [can_iff n1 n2 n3, Int.sub_self]
  exact can_bot n1 n2 n3
theorem Up.near {ps : List (Str × Int × Int)} {ts : List (Nat × Int)} {n w : Int} (u : Up ps ts n w) (ho : Ord ps) (h3 : Tm3 ps.length ts) : w ≤ max n (leastW ps ts) + 2 := by
  have n1 := room_nn ho 1 h3.in
  have n2 := room_nn ho 2 h3.in
  have n3 := room_nn ho 3 h3.in
  have tt := total_eq ho h3.2
  have h1 := u.hi
  have h2 := u.ge
  have h4 := u.lo
  obtain ⟨k, k0, k2, kt, hk⟩ := can_up n1 n2 n3 (r := max n (leastW ps ts) - leastW ps ts) (by omega) (by omega)
  by_cases hw : w ≤ max n (leastW ps ts) + k
  · omega
  · have := u.no (max n (leastW ps ts) + k) (by omega) (by omega) (by omega)
    have hc := (can_iff n1 n2 n3).mpr hk
    rw [show max n (leastW ps ts) - leastW ps ts + k = max n (leastW ps ts) + k - leastW ps ts by omega, this] at hc
    cases hc
theorem Dn.near {ps : List (Str × Int × Int)} {ts : List (Nat × Int)} {n w : Int} (u : Dn ps ts n w) (ho : Ord ps) (h3 : Tm3 ps.length ts) : min n (mostW ps ts) - 2 ≤ w := by
  have n1 := room_nn ho 1 h3.in
  have n2 := room_nn ho 2 h3.in
  have n3 := room_nn ho 3 h3.in
  have tt := total_eq ho h3.2
  have h1 := u.hi
  have h2 := u.le
  have h4 := u.lo
  obtain ⟨k, k0, k2, kt, hk⟩ := can_down n1 n2 n3 (r := min n (mostW ps ts) - leastW ps ts) (by omega) (by omega)
  by_cases hw : min n (mostW ps ts) - k ≤ w
  · omega
  · have := u.no (min n (mostW ps ts) - k) (by omega) (by omega) (by omega)
    have hc := (can_iff n1 n2 n3).mpr hk
    rw [show min n (mostW ps ts) - leastW ps ts - k = min n (mostW ps ts) - k - leastW ps ts by omega, this] at hc
    cases hc
def qUp : P3 := fun x y z S R => ∃ ps ts lo hi n, x = .d (drwD ps) ∧ y = .d (gapD ts lo hi) ∧ z = .d (.int n) ∧ S = [] ∧ Tm3 ps.length ts ∧ Ord ps ∧ (mostW ps ts < n → R (.d .none) []) ∧ (n ≤ mostW ps ts → ∀ w, Up ps ts n w → R (.d (.int w)) [])
def qDn : P3 := fun x y z S R => ∃ ps ts lo hi n, x = .d (drwD ps) ∧ y = .d (gapD ts lo hi) ∧ z = .d (.int n) ∧ S = [] ∧ Tm3 ps.length ts ∧ Ord ps ∧ (n < leastW ps ts → R (.d .none) []) ∧ (leastW ps ts ≤ n → ∀ w, Dn ps ts n w → R (.d (.int w)) [])
theorem ok_upward (T : Txt mg) (D_reach : Df P w K mg base "reach" ["drawing", "gap"] 3 (sp2 (lf2 qReach))) (D_steps_of : Df P w K mg base "steps_of" ["drawing", "terms"] 2 (sp2 (lf2 qSteps))) (D_can_rise : Df P w K mg base "can_rise" ["steps", "rise"] 1 (sp2 (lf2 qCan)))
    (d : Dd K mg "upward" s_upward ["drawing", "gap", "number"]) : Df P w K mg base "upward" ["drawing", "gap", "number"] 4 (sp3 (lf3 qUp)) := by
  refine Df.d3 d sc_upward (fun v u z => [some v, some u, some z, none, none, none]) (fun v u z => rfl) 3 (fun v u z => rfl) fun f cdv A outer s H E hr => ⟨_, _, (pss_cons (ps_set (i := 3) sc_upward.nd rfl (Or.inl rfl) (pe_df2 D_reach hr (by decide) (pv 0) (pv 1))) (pss_cons (ps_if (pt_cmpR op_gt (pv 2) (pe_ix ix_tup (pv 3) pe_int (fun _ _ => rfl)) (nomark _)) (pss_one (ps_ret pe_non)) pss_nil) (pss_cons (ps_set (i := 4) sc_upward.nd rfl (Or.inl rfl) (pe_df2 D_steps_of hr (by decide) (pv 0) (pe_ix ix_tup (pv 1) pe_int (fun _ _ => rfl)))) (pss_cons (ps_set (i := 5) sc_upward.nd rfl (Or.inl rfl) (pe_callB (call_max2 rfl) (by rfl) T.n_max bt_max (pa_cons (pv 2) (pa_cons (pe_ix ix_tup (pv 3) pe_int (fun _ _ => rfl)) pa_nil)))) (pss_cons (ps_while PassesOwn.never (pt_not (pt_val (pe_df2 D_can_rise hr (by decide) (pv 4) (pe_op op_sub (pv 5) (pe_ix ix_tup (pv 3) pe_int (fun _ _ => rfl)))))) (pss_one (ps_set (i := 5) sc_upward.nd rfl (Or.inl rfl) (pe_op op_add (pv 5) pe_int)))) (pss_one (ps_ret (pv 5)))))))), (rs_seq (rs_asg (re_f2 re_var re_var) rg_name) (rs_seq (rs_if (rt_t (re_op ro_Ib re_var (re_op ro_ixT re_var re_int))) (rs_ret re_non) rs_next) (rs_seq (rs_asg (re_f2 re_var (re_op ro_ixT re_var re_int)) rg_name) (rs_seq (rs_asg (re_cb rc_I2 (ra_cons re_var (ra_cons (re_op ro_ixT re_var re_int) ra_nil))) rg_name) (rs_seq (rs_while (rt_not (rt_b (re_f2 re_var (re_op ro_I0 re_var (re_op ro_ixT re_var re_int))))) (rs_asg (re_op ro_I0 re_var re_int) rg_name)) (rs_ret re_var)))))), ?_⟩
  rintro _ _ _ _ R ⟨ps, ts, lo, hi, n, rfl, rfl, rfl, rfl, h3, ho, q1, q2⟩
  have lm := least_le_most ps ts
  walk_at "dd_"
  refine ⟨ps, ts, lo, hi, rfl, rfl, rfl, h3, ?_⟩
  walk_at "dd_"
  split
  · rename_i h
    exact q1 h
  · refine ⟨ps, ts, rfl, rfl, rfl, h3, ?_⟩
    have ef : (if leastW ps ts > n then leastW ps ts else n) = max n (leastW ps ts) := by split <;> omega
    walk_at "dd_"
    rw [ef]
    refine ⟨fun m δ S => ∃ v, S = [] ∧ δ = [some (.d (drwD ps)), some (.d (gapD ts lo hi)), some (.d (.int n)), some (.d (spD (leastW ps ts) (mostW ps ts))), some (.d (roomD ps ts)), some (.d (.int v))] ∧ n ≤ v ∧ leastW ps ts ≤ v ∧ v ≤ mostW ps ts ∧ (∀ y, n ≤ y → leastW ps ts ≤ y → y < v → canB (room ps ts 1) (room ps ts 2) (room ps ts 3) (y - leastW ps ts) = false) ∧ m = (mostW ps ts - v).toNat,
      ⟨_, max n (leastW ps ts), rfl, rfl, by omega, by omega, by omega, fun y _ _ _ => by omega, rfl⟩, ?_⟩
    rintro m _ _ ⟨v, rfl, rfl, v1, v2, v3, v4, rfl⟩
    walk_at "dd_"
    refine ⟨_, _, _, _, _, rfl, rfl, rfl, ?_⟩
    walk_at "dd_"
    cases hc : canB (room ps ts 1) (room ps ts 2) (room ps ts 3) (v - leastW ps ts) with
    | true =>
      walk_at "dd_"
      exact q2 (by omega) v ⟨v1, v2, v3, hc, v4⟩
    | false =>
      have hne : v ≠ mostW ps ts := fun z => by
        rw [z, can_most ho h3] at hc
        cases hc
      walk_at "dd_"
      refine ⟨fun δ S => ∃ v', S = [] ∧ δ = [some (.d (drwD ps)), some (.d (gapD ts lo hi)), some (.d (.int n)), some (.d (spD (leastW ps ts) (mostW ps ts))), some (.d (roomD ps ts)), some (.d (.int v'))] ∧ v' = v + 1, fun δ S ⟨v', e1, e2, e3⟩ => ⟨(mostW ps ts - v').toNat, by omega, v', e1, e2, by omega, by omega, by omega, fun y y1 y2 y3 => ?_, rfl⟩, ⟨_, rfl, rfl, rfl⟩⟩
      by_cases hy : y = v
      · rw [hy]; exact hc
      · exact v4 y y1 y2 (by omega)
theorem ok_downward (T : Txt mg) (D_reach : Df P w K mg base "reach" ["drawing", "gap"] 3 (sp2 (lf2 qReach))) (D_steps_of : Df P w K mg base "steps_of" ["drawing", "terms"] 2 (sp2 (lf2 qSteps))) (D_can_rise : Df P w K mg base "can_rise" ["steps", "rise"] 1 (sp2 (lf2 qCan)))
    (d : Dd K mg "downward" s_downward ["drawing", "gap", "number"]) : Df P w K mg base "downward" ["drawing", "gap", "number"] 4 (sp3 (lf3 qDn)) := by
  refine Df.d3 d sc_downward (fun v u z => [some v, some u, some z, none, none, none]) (fun v u z => rfl) 3 (fun v u z => rfl) fun f cdv A outer s H E hr => ⟨_, _, (pss_cons (ps_set (i := 3) sc_downward.nd rfl (Or.inl rfl) (pe_df2 D_reach hr (by decide) (pv 0) (pv 1))) (pss_cons (ps_if (pt_cmpR op_lt (pv 2) (pe_ix ix_tup (pv 3) pe_int (fun _ _ => rfl)) (nomark _)) (pss_one (ps_ret pe_non)) pss_nil) (pss_cons (ps_set (i := 4) sc_downward.nd rfl (Or.inl rfl) (pe_df2 D_steps_of hr (by decide) (pv 0) (pe_ix ix_tup (pv 1) pe_int (fun _ _ => rfl)))) (pss_cons (ps_set (i := 5) sc_downward.nd rfl (Or.inl rfl) (pe_callB (call_min2 rfl) (by rfl) T.n_min bt_min (pa_cons (pv 2) (pa_cons (pe_ix ix_tup (pv 3) pe_int (fun _ _ => rfl)) pa_nil)))) (pss_cons (ps_while PassesOwn.never (pt_not (pt_val (pe_df2 D_can_rise hr (by decide) (pv 4) (pe_op op_sub (pv 5) (pe_ix ix_tup (pv 3) pe_int (fun _ _ => rfl)))))) (pss_one (ps_set (i := 5) sc_downward.nd rfl (Or.inl rfl) (pe_op op_sub (pv 5) pe_int)))) (pss_one (ps_ret (pv 5)))))))), (rs_seq (rs_asg (re_f2 re_var re_var) rg_name) (rs_seq (rs_if (rt_t (re_op ro_Ib re_var (re_op ro_ixT re_var re_int))) (rs_ret re_non) rs_next) (rs_seq (rs_asg (re_f2 re_var (re_op ro_ixT re_var re_int)) rg_name) (rs_seq (rs_asg (re_cb rc_I2 (ra_cons re_var (ra_cons (re_op ro_ixT re_var re_int) ra_nil))) rg_name) (rs_seq (rs_while (rt_not (rt_b (re_f2 re_var (re_op ro_I0 re_var (re_op ro_ixT re_var re_int))))) (rs_asg (re_op ro_I0 re_var re_int) rg_name)) (rs_ret re_var)))))), ?_⟩
  rintro _ _ _ _ R ⟨ps, ts, lo, hi, n, rfl, rfl, rfl, rfl, h3, ho, q1, q2⟩
  have lm := least_le_most ps ts
  walk_at "dd_"
  refine ⟨ps, ts, lo, hi, rfl, rfl, rfl, h3, ?_⟩
  walk_at "dd_"
  split
  · rename_i h
    exact q1 h
  · refine ⟨ps, ts, rfl, rfl, rfl, h3, ?_⟩
    have ef : (if mostW ps ts < n then mostW ps ts else n) = min n (mostW ps ts) := by split <;> omega
    walk_at "dd_"
    rw [ef]
    refine ⟨fun m δ S => ∃ v, S = [] ∧ δ = [some (.d (drwD ps)), some (.d (gapD ts lo hi)), some (.d (.int n)), some (.d (spD (leastW ps ts) (mostW ps ts))), some (.d (roomD ps ts)), some (.d (.int v))] ∧ v ≤ n ∧ leastW ps ts ≤ v ∧ v ≤ mostW ps ts ∧ (∀ y, y ≤ n → y ≤ mostW ps ts → v < y → canB (room ps ts 1) (room ps ts 2) (room ps ts 3) (y - leastW ps ts) = false) ∧ m = (v - leastW ps ts).toNat,
      ⟨_, min n (mostW ps ts), rfl, rfl, by omega, by omega, by omega, fun y _ _ _ => by omega, rfl⟩, ?_⟩
    rintro m _ _ ⟨v, rfl, rfl, v1, v2, v3, v4, rfl⟩
    walk_at "dd_"
    refine ⟨_, _, _, _, _, rfl, rfl, rfl, ?_⟩
    walk_at "dd_"
    cases hc : canB (room ps ts 1) (room ps ts 2) (room ps ts 3) (v - leastW ps ts) with
    | true =>
      walk_at "dd_"
      exact q2 (by omega) v ⟨v1, v2, v3, hc, v4⟩
    | false =>
      have hne : v ≠ leastW ps ts := fun z => by
        rw [z, can_least ho h3] at hc
        cases hc
      walk_at "dd_"
      refine ⟨fun δ S => ∃ v', S = [] ∧ δ = [some (.d (drwD ps)), some (.d (gapD ts lo hi)), some (.d (.int n)), some (.d (spD (leastW ps ts) (mostW ps ts))), some (.d (roomD ps ts)), some (.d (.int v'))] ∧ v' = v - 1, fun δ S ⟨v', e1, e2, e3⟩ => ⟨(v' - leastW ps ts).toNat, by omega, v', e1, e2, by omega, by omega, by omega, fun y y1 y2 y3 => ?_, rfl⟩, ⟨_, rfl, rfl, rfl⟩⟩
      by_cases hy : y = v
      · rw [hy]; exact hc
      · exact v4 y y1 y2 (by omega)

theorem asLs_room {S : Sto} {ps : List (Str × Int × Int)} {ts : List (Nat × Int)} : asLs S (.d (roomD ps ts)) = some [.int (room ps ts 0), .int (room ps ts 1), .int (room ps ts 2), .int (room ps ts 3)] := rfl
def qWorthL : P2 := fun x y S R => ∃ ts lo hi ns, x = .d (gapD ts lo hi) ∧ y = .d (setD ns) ∧ S = [] ∧ Tm3 ns.length ts ∧ R (.d (.int (worth ts ns))) []
def qRises : P2 := fun x y S R => ∃ s0 s1 s2 s3 r, x = .d (.list [.int s0, .int s1, .int s2, .int s3]) ∧ y = .d (.int r) ∧ S = [] ∧ 0 ≤ s1 ∧ 0 ≤ s2 ∧ 0 ≤ s3 ∧ R (.d (.bool (canB s1 s2 s3 r))) []
def qTold : P3 := fun x y z S R => ∃ f l m, x = .d (.int f) ∧ y = .d (.int l) ∧ z = .d (.int m) ∧ S = [] ∧ R (.d (.bool (decide (l ≤ f ∧ f ≤ m)))) []
def qSide : P4 := fun x y z u S R => ∃ ps ts lo hi n, x = .d (drwD ps) ∧ y = .d (gapD ts lo hi) ∧ z = .d (roomD ps ts) ∧ u = .d (.int n) ∧ S = [] ∧ Tm3 ps.length ts ∧ Ord ps ∧ R (.d (.bool true)) []
def qNumbers : P3 := fun x y z S R => ∃ p l m, x = .l 0 ∧ y = .d (.int l) ∧ z = .d (.int m) ∧ S = [p] ∧ isPen p ∧ l ≤ m ∧ m - l < 10 ^ 70 ∧ ∀ (ns : List Int) (p' : List PyData), ns.length ≤ 20 → isPen p' → R (.d (.list (ns.map PyData.int))) [p']
-- what the law's own looking finds
def good (s1 s2 r c : Int) : Prop := 0 ≤ r - 3 * c ∧ (if (r - 3 * c - s1 + 1) / 2 > 0 then (r - 3 * c - s1 + 1) / 2 else 0) ≤ if (r - 3 * c) / 2 < s2 then (r - 3 * c) / 2 else s2
theorem good_can {s1 s2 s3 r c : Int} (h1 : 0 ≤ s1) (h2 : 0 ≤ s2) (h3 : 0 ≤ s3) (c0 : 0 ≤ c) (c3 : c ≤ s3) (g : good s1 s2 r c) : canB s1 s2 s3 r = true := by
  obtain ⟨g1, g2⟩ := g
  rw [can_iff h1 h2 h3]
  have e1 : (if (r - 3 * c - s1 + 1) / 2 > 0 then (r - 3 * c - s1 + 1) / 2 else 0) = max 0 ((r - 3 * c - s1 + 1) / 2) := by split <;> omega
  have e2 : (if (r - 3 * c) / 2 < s2 then (r - 3 * c) / 2 else s2) = min ((r - 3 * c) / 2) s2 := by split <;> omega
  rw [e1, e2] at g2
  exact ⟨r - 3 * c - 2 * max 0 ((r - 3 * c - s1 + 1) / 2), max 0 ((r - 3 * c - s1 + 1) / 2), c, by omega, by omega, by omega, by omega, c0, c3, by omega⟩
theorem can_good {s1 s2 s3 r f : Int} (h1 : 0 ≤ s1) (h2 : 0 ≤ s2) (h3 : 0 ≤ s3) (hf : f = max 0 (0 - (s1 + 2 * s2 - r) / 3)) (h : canB s1 s2 s3 r = true) : f ≤ s3 ∧ (good s1 s2 r f ∨ (f + 1 ≤ s3 ∧ good s1 s2 r (f + 1))) := by
  rw [can_iff h1 h2 h3] at h
  obtain ⟨a, b, c, ha, ha', hb, hb', hc, hc', e⟩ := h
  have e1 : ∀ c, (if (r - 3 * c - s1 + 1) / 2 > 0 then (r - 3 * c - s1 + 1) / 2 else 0) = max 0 ((r - 3 * c - s1 + 1) / 2) := fun c => by split <;> omega
  have e2 : ∀ c, (if (r - 3 * c) / 2 < s2 then (r - 3 * c) / 2 else s2) = min ((r - 3 * c) / 2) s2 := fun c => by split <;> omega
  have hfc : f ≤ c := by omega
  have hf0 : 0 ≤ f := by omega
  have hl : r - 3 * f ≤ s1 + 2 * s2 := by omega
  refine ⟨by omega, ?_⟩
  unfold good
  rw [e1, e2, e1, e2]
  by_cases hg : s1 = 0 ∧ (r - 3 * f) % 2 = 1
  · obtain ⟨g1, g2⟩ := hg
    have hc1 : f + 1 ≤ c := by omega
    exact .inr ⟨by omega, by omega, by omega⟩
  · exact .inl ⟨by omega, by omega⟩
theorem ok_worth (T : Txt mg) (d : Dd K mg "_law_worth" s_law_worth ["gap", "one"]) : Df P w K mg base "_law_worth" ["gap", "one"] 1 (sp2 (lf2 qWorthL)) := by
  refine Df.d2 d sc_law_worth (fun v u => [some v, some u, none, none, none]) (fun v u => rfl) 3 (fun v u => rfl) fun f cdv A outer s H E hr => ⟨_, _, (pss_cons (ps_set (i := 2) sc_law_worth.nd rfl (Or.inl rfl) pe_int) (pss_cons (ps_for PassesOwn.never rfl (pi_tup (pe_ix ix_tup (pv 0) pe_int (fun _ _ => rfl))) (pg_tup (n := 2) rfl (pgs_cons (pg_name (i := 3) sc_law_worth.nd rfl (Or.inl rfl)) (pgs_cons (pg_name (i := 4) sc_law_worth.nd rfl (Or.inl rfl)) pgs_nil))) (pss_one (ps_set (i := 2) sc_law_worth.nd rfl (Or.inl rfl) (pe_op op_add (pv 2) (pe_op op_mulX (pv 4) (pe_ix ix_tup (pv 1) (pv 3) (fun _ _ => rfl))))))) (pss_one (ps_ret (pv 2))))), (rs_seq (rs_asg re_int rg_name) (rs_seq (rs_for (ri_tup (re_op ro_ixT re_var re_int)) (rg_tup (rgs_cons rg_name (rgs_cons rg_name rgs_nil))) (rs_asg (re_op ro_I0 re_var (re_op ro_I re_var (re_op ro_ixT re_var re_var))) rg_name)) (rs_ret re_var))), ?_⟩
  rintro _ _ _ R ⟨ts, lo, hi0, ns, rfl, rfl, rfl, h3, q⟩
  walk_at "dd_"
  refine loop_inv (fun i δ S => ∃ (u1 u2 : Option XV), S = [] ∧ δ = [some (.d (gapD ts lo hi0)), some (.d (setD ns)), some (.d (.int (worth (ts.take i) ns))), u1, u2]) ⟨_, _, rfl, rfl⟩ ?_ ?_
  · rintro i d _ _ N hi ⟨u1, u2, rfl, rfl⟩ hN
    rw [List.getElem?_map] at hi
    obtain ⟨t, ht, rfl⟩ := Option.map_eq_some_iff.mp hi
    have mt := List.mem_of_getElem? ht
    obtain ⟨t1, t2, t3⟩ := h3.2 t mt
    have e := ix_map (f := PyData.int) (getD_of t1)
    have wk : worth (ts.take (i + 1)) ns = worth (ts.take i) ns + t.2 * ns.getD t.1 0 := by
      unfold worth
      rw [List.take_add_one, ht]
      simp
    walk_at "dd_"
    refine ⟨_, e, mulOkL (by omega) (by omega), hN _ _ ⟨some (.d (.int t.1)), some (.d (.int t.2)), rfl, ?_⟩⟩
    rw [wk]
  · rintro _ _ ⟨u1, u2, rfl, rfl⟩
    rw [List.length_map, List.take_length]
    walk_at "dd_"
    exact q
theorem ok_rooms (T : Txt mg) (d : Dd K mg "_law_rooms" s_law_rooms ["drawing", "terms"]) : Df P w K mg base "_law_rooms" ["drawing", "terms"] 1 (sp2 (lf2 qSteps)) := by
  refine Df.d2 d sc_law_rooms (fun v u => [some v, some u, none, none, none]) (fun v u => rfl) 3 (fun v u => rfl) fun f cdv A outer s H E hr => ⟨_, _, (pss_cons (ps_set (i := 2) sc_law_rooms.nd rfl (Or.inl rfl) (pe_lst (pa_cons pe_int (pa_cons pe_int (pa_cons pe_int (pa_cons pe_int pa_nil)))))) (pss_cons (ps_for PassesOwn.never rfl (pi_tup (pv 1)) (pg_tup (n := 2) rfl (pgs_cons (pg_name (i := 3) sc_law_rooms.nd rfl (Or.inl rfl)) (pgs_cons (pg_name (i := 4) sc_law_rooms.nd rfl (Or.inl rfl)) pgs_nil))) (pss_one (ps_augS (pv 2) (pe_callB (call_max2 rfl) (by rfl) T.n_max bt_max (pa_cons (pv 4) (pa_cons (pe_op op_sub pe_int (pv 4)) pa_nil))) get_list (pe_op op_sub (pe_ix ix_tup (pe_ix ix_tup (pv 0) (pv 3) (fun _ _ => rfl)) pe_int (fun _ _ => rfl)) (pe_ix ix_tup (pe_ix ix_tup (pv 0) (pv 3) (fun _ _ => rfl)) pe_int (fun _ _ => rfl))) ip_add set_list))) (pss_one (ps_ret (pv 2))))), (rs_seq (rs_asg (re_lstT (ra_cons re_int (ra_cons re_int (ra_cons re_int (ra_cons re_int ra_nil))))) rg_name) (rs_seq (rs_for (ri_tup re_var) (rg_tup (rgs_cons rg_name (rgs_cons rg_name rgs_nil))) (rs_augS re_var (re_cb rc_I2 (ra_cons re_var (ra_cons (re_op ro_I0 re_int re_var) ra_nil))) (re_op ro_I0 (re_op ro_ixT (re_op ro_ixT re_var re_var) re_int) (re_op ro_ixT (re_op ro_ixT re_var re_var) re_int)))) (rs_ret re_var))), ?_⟩
  rintro _ _ _ R ⟨ps, ts, rfl, rfl, rfl, h3, q⟩
  walk_at "dd_"
  refine loop_inv (fun i δ S => ∃ (u1 u2 : Option XV), S = [[.int (room ps (ts.take i) 0), .int (room ps (ts.take i) 1), .int (room ps (ts.take i) 2), .int (room ps (ts.take i) 3)]] ∧ δ = [some (.d (drwD ps)), some (.d (tmsD ts)), some (.l 0), u1, u2]) ⟨_, _, rfl, rfl⟩ ?_ ?_
  · rintro i d _ _ N hi ⟨u1, u2, rfl, rfl⟩ hN
    rw [List.getElem?_map] at hi
    obtain ⟨t, ht, rfl⟩ := Option.map_eq_some_iff.mp hi
    have mt := List.mem_of_getElem? ht
    obtain ⟨t1, t2, t3⟩ := h3.2 t mt
    have ep := ix_map (f := prtD) (part_of t1)
    walk_at "dd_"
    have ea : (if 0 - t.2 > t.2 then 0 - t.2 else t.2) = (t.2.natAbs : Int) := by split <;> omega
    rw [ea]
    have hN' := fun S' e => hN [some (.d (drwD ps)), some (.d (tmsD ts)), some (.l 0), some (.d (.int t.1)), some (.d (.int t.2))] S' ⟨_, _, e, rfl⟩
    simp only [room_take ht] at hN'
    have : t.2.natAbs = 0 ∨ t.2.natAbs = 1 ∨ t.2.natAbs = 2 ∨ t.2.natAbs = 3 := by omega
    rcases this with z | z | z | z <;> rw [z] at hN' ⊢
    · refine ⟨_, rfl, _, ep, _, rfl, _, ep, _, rfl, ?_⟩
      walk_at "dd_"
      exact ⟨0, rfl, hN' _ (by simp)⟩
    · refine ⟨_, rfl, _, ep, _, rfl, _, ep, _, rfl, ?_⟩
      walk_at "dd_"
      exact ⟨1, rfl, hN' _ (by simp)⟩
    · refine ⟨_, rfl, _, ep, _, rfl, _, ep, _, rfl, ?_⟩
      walk_at "dd_"
      exact ⟨2, rfl, hN' _ (by simp)⟩
    · refine ⟨_, rfl, _, ep, _, rfl, _, ep, _, rfl, ?_⟩
      walk_at "dd_"
      exact ⟨3, rfl, hN' _ (by simp)⟩
  · rintro _ _ ⟨u1, u2, rfl, rfl⟩
    rw [List.length_map, List.take_length]
    walk_at "dd_"
    exact .inl q
theorem ok_rises (T : Txt mg) (d : Dd K mg "_law_rises" s_law_rises ["rooms", "rise"]) : Df P w K mg base "_law_rises" ["rooms", "rise"] 1 (sp2 (lf2 qRises)) := by
  refine Df.d2 d sc_law_rises (fun v u => [some v, some u, none, none, none]) (fun v u => rfl) 3 (fun v u => rfl) fun f cdv A outer s H E hr => ⟨_, _, (pss_cons (ps_set (i := 2) sc_law_rises.nd rfl (Or.inl rfl) (pe_callB (call_max2 rfl) (by rfl) T.n_max bt_max (pa_cons pe_int (pa_cons (pe_op op_sub pe_int (pe_op op_fdivX (pe_op op_sub (pe_op op_add (pe_ix ix_list (pv 0) pe_int (fun _ _ => rfl)) (pe_op op_mulX pe_int (pe_ix ix_list (pv 0) pe_int (fun _ _ => rfl)))) (pv 1)) pe_int)) pa_nil)))) (pss_cons (ps_for PassesOwn.never rfl (pi_range2X rfl T.n_range (pa_cons (pv 2) (pa_cons (pe_callB (call_min2 rfl) (by rfl) T.n_min bt_min (pa_cons (pe_op op_add (pv 2) pe_int) (pa_cons (pe_op op_add (pe_ix ix_list (pv 0) pe_int (fun _ _ => rfl)) pe_int) pa_nil))) pa_nil))) (pg_name (i := 3) sc_law_rises.nd rfl (Or.inl rfl)) (pss_cons (ps_set (i := 4) sc_law_rises.nd rfl (Or.inl rfl) (pe_op op_sub (pv 1) (pe_op op_mulX pe_int (pv 3)))) (pss_one (ps_if (PW.pt (pw_and (pt_cmpR op_ge (pv 4) pe_int (nomark _)) (pw_and1 (pt_cmpR op_le (pe_callB (call_max2 rfl) (by rfl) T.n_max bt_max (pa_cons pe_int (pa_cons (pe_op op_fdivX (pe_op op_add (pe_op op_sub (pv 4) (pe_ix ix_list (pv 0) pe_int (fun _ _ => rfl))) pe_int) pe_int) pa_nil))) (pe_callB (call_min2 rfl) (by rfl) T.n_min bt_min (pa_cons (pe_ix ix_list (pv 0) pe_int (fun _ _ => rfl)) (pa_cons (pe_op op_fdivX (pv 4) pe_int) pa_nil))) (nomark _))))) (pss_one (ps_ret pe_bl)) pss_nil)))) (pss_one (ps_ret pe_bl)))), (rs_seq (rs_asg (re_cb rc_I2 (ra_cons re_int (ra_cons (re_op ro_I0 re_int (re_op ro_I (re_op ro_I0 (re_op ro_I0 (re_op ro_ixL re_var re_int) (re_op ro_I re_int (re_op ro_ixL re_var re_int))) re_var) re_int)) ra_nil))) rg_name) (rs_seq (rs_for (ri_rng2X (ra_cons re_var (ra_cons (re_cb rc_I2 (ra_cons (re_op ro_I0 re_var re_int) (ra_cons (re_op ro_I0 (re_op ro_ixL re_var re_int) re_int) ra_nil))) ra_nil))) rg_name (rs_seq (rs_asg (re_op ro_I0 re_var (re_op ro_I re_int re_var)) rg_name) (rs_if (rt_and (rt_t (re_op ro_Ib re_var re_int)) (rt_t (re_op ro_Ib (re_cb rc_I2 (ra_cons re_int (ra_cons (re_op ro_I (re_op ro_I0 (re_op ro_I0 re_var (re_op ro_ixL re_var re_int)) re_int) re_int) ra_nil))) (re_cb rc_I2 (ra_cons (re_op ro_ixL re_var re_int) (ra_cons (re_op ro_I re_var re_int) ra_nil)))))) (rs_ret re_bl) rs_next))) (rs_ret re_bl))), ?_⟩
  rintro _ _ _ R ⟨s0, s1, s2, s3, r, rfl, rfl, rfl, h1, h2, h3, q⟩
  walk_at "dd_"
  refine ⟨mulOkL (by decide) (by decide), ⟨by decide, by decide⟩, ?_⟩
  have ef : (if 0 - (s1 + 2 * s2 - r) / 3 > 0 then 0 - (s1 + 2 * s2 - r) / 3 else 0) = max 0 (0 - (s1 + 2 * s2 - r) / 3) := by split <;> omega
  rw [ef]
  generalize hf : max 0 (0 - (s1 + 2 * s2 - r) / 3) = f
  have f0 : 0 ≤ f := by omega
  have cg := fun h => can_good h1 h2 h3 hf.symm h
  clear hf ef
  have en : ((if s3 + 1 < f + 2 then s3 + 1 else f + 2) - f).toNat = min 2 (s3 + 1 - f).toNat := by split <;> omega
  rw [en]
  refine loop_inv (fun i δ S => ∃ (u1 u2 : Option XV), S = [] ∧ δ = [some (.d (.list [.int s0, .int s1, .int s2, .int s3])), some (.d (.int r)), some (.d (.int f)), u1, u2] ∧ ∀ j : Nat, j < i → ¬ good s1 s2 r (f + j)) ⟨_, _, rfl, rfl, fun j hj => by omega⟩ ?_ ?_
  · rintro i d _ _ N hi ⟨u1, u2, rfl, rfl, hg⟩ hN
    obtain ⟨hi', rfl⟩ := intsD_get hi
    walk_at "dd_"
    have back : ¬ good s1 s2 r (f + i) → N [some (.d (.list [.int s0, .int s1, .int s2, .int s3])), some (.d (.int r)), some (.d (.int f)), some (.d (.int (f + i))), some (.d (.int (r - 3 * (f + i))))] [] := fun h => hN _ _ ⟨_, _, rfl, rfl, fun j hj => by
      by_cases e : j = i
      · rw [e]; exact h
      · exact hg j (by omega)⟩
    have hit : good s1 s2 r (f + i) → R (.d (.bool true)) [] := fun h => by
      rw [good_can h1 h2 h3 (by omega) (by omega) h] at q
      exact q
    refine ⟨mulOkL (by decide) (by decide), ?_⟩
    split
    · rename_i g1
      refine ⟨⟨by decide, by decide⟩, ⟨by decide, by decide⟩, ?_⟩
      by_cases g2 : (if (r - 3 * (f + i) - s1 + 1) / 2 > 0 then (r - 3 * (f + i) - s1 + 1) / 2 else 0) ≤ if (r - 3 * (f + i)) / 2 < s2 then (r - 3 * (f + i)) / 2 else s2
      · rw [if_pos g2]
        exact hit ⟨g1, g2⟩
      · rw [if_neg g2]
        exact back fun g => g2 g.2
    · rename_i g1
      exact back fun g => g1 g.1
  · rintro _ _ ⟨u1, u2, rfl, rfl, hg⟩
    rw [intsD_length] at hg
    walk_at "dd_"
    cases hc : canB s1 s2 s3 r with
    | false => rw [hc] at q; exact q
    | true =>
      obtain ⟨c1, c2⟩ := cg hc
      rcases c2 with g | ⟨c2, g⟩
      · exact absurd (by simpa using g) (hg 0 (by omega))
      · exact absurd (by simpa using g) (hg 1 (by omega))
theorem ok_told (T : Txt mg) (D_law_whole : Df P w K mg base "_law_whole" ["found"] 1 (sp1 (lf1 qWhole))) (d : Dd K mg "_law_told" s_law_told ["found", "least", "most"]) : Df P w K mg base "_law_told" ["found", "least", "most"] 2 (sp3 (lf3 qTold)) := by
  refine Df.d3 d sc_law_told (fun v u z => [some v, some u, some z]) (fun v u z => rfl) 0 (fun v u z => rfl) fun f cdv A outer s H E hr => ⟨_, _, (pss_one (ps_ret (pe_and (pe_df1 D_law_whole hr (by decide) (pv 0)) (pe_one (pe_chain op_le op_le (pv 1) (pv 0) (pv 2)))))), (rs_ret (re_and (re_f1 re_var) (re_chain ro_Ib ro_Ib re_var re_var re_var))), ?_⟩
  rintro _ _ _ _ R ⟨f, l, m, rfl, rfl, rfl, rfl, q⟩
  walk_at "dd_"
  refine ⟨_, rfl, rfl, ?_⟩
  walk_at "dd_"
  split
  · rename_i h
    simp only [h, true_and] at q
    exact q
  · rename_i h
    simp only [h, false_and, decide_false] at q
    exact q
theorem ok_up_right (T : Txt mg) (D_law_ends : Df P w K mg base "_law_ends" ["drawing", "terms"] 1 (sp2 (lf2 qEnds))) (D_upward : Df P w K mg base "upward" ["drawing", "gap", "number"] 4 (sp3 (lf3 qUp))) (D_law_told : Df P w K mg base "_law_told" ["found", "least", "most"] 2 (sp3 (lf3 qTold)))
    (D_law_rises : Df P w K mg base "_law_rises" ["rooms", "rise"] 1 (sp2 (lf2 qRises))) (d : Dd K mg "_law_up_right" s_law_up_right ["drawing", "gap", "rooms", "number"]) : Df P w K mg base "_law_up_right" ["drawing", "gap", "rooms", "number"] 5 (sp4 (lf4 qSide)) := by
  refine Df.d4 d sc_law_up_right (fun v u z t => [some v, some u, some z, some t, none, none, none, none]) (fun v u z t => rfl) 4 (fun v u z t => rfl) fun f cdv A outer s H E hr => ⟨_, _, (pss_cons (ps_asg (pe_df2 D_law_ends hr (by decide) (pv 0) (pe_ix ix_tup (pv 1) pe_int (fun _ _ => rfl))) (pg_tup (n := 2) rfl (pgs_cons (pg_name (i := 4) sc_law_up_right.nd rfl (Or.inr rfl)) (pgs_cons (pg_name (i := 5) sc_law_up_right.nd rfl (Or.inl rfl)) pgs_nil)))) (pss_cons (ps_set (i := 6) sc_law_up_right.nd rfl (Or.inl rfl) (pe_df3 D_upward hr (by decide) (pv 0) (pv 1) (pv 3))) (pss_cons (ps_if (pt_cmpR op_gt (pv 3) (pv 5) (nomark _)) (pss_one (ps_ret (pe_cmpR op_isNQ (pv 6) pe_non (nomark _)))) pss_nil) (pss_cons (ps_set (i := 7) sc_law_up_right.nd rfl (Or.inl rfl) (pe_callB (call_max2 rfl) (by rfl) T.n_max bt_max (pa_cons (pv 3) (pa_cons (pv 4) pa_nil)))) (pss_cons (ps_if (PW.pt (pw_or (pt_not (pt_val (pe_df3 D_law_told hr (by decide) (pv 6) (pv 7) (pv 5)))) (pw_or (pt_not (pt_val (pe_df2 D_law_rises hr (by decide) (pv 2) (pe_op op_sub (pv 6) (pv 4))))) (pw_or1 (pt_cmpR op_gt (pe_op op_sub (pv 6) (pv 7)) pe_int (nomark _)))))) (pss_one (ps_ret pe_bl)) pss_nil) (pss_one (ps_ret (pe_not (pe_callB (call_anyQ rfl) (by rfl) T.n_any bt_any (pa_cons (pe_comp (fun _ _ h => h) rfl (compOk_of rfl rfl rfl rfl (N := ["one", "rooms", "least"]) (caps := [none, some 2, some 4]) (by show capsOk ["drawing", "gap", "rooms", "number", "least", "most", "found", "first"] (defScope s_law_up_right).names _ _ _ = true; decide +kernel)) (pi_range2X rfl T.n_range (pa_cons (pv 7) (pa_cons (pv 6) pa_nil))) (fun _ _ _ _ => (pg_name (i := 0) (by show List.Nodup (["one", "rooms", "least"] : List Str); decide) rfl (Or.inl rfl))) (fun _ _ _ _ => pts_nil) (fun _ _ _ _ => (pe_df2 D_law_rises hr (by decide) (pv 1) (pe_op op_sub (pv 0) (pv 2))))) pa_nil)))))))))), (rs_seq (rs_asg (re_f2 re_var (re_op ro_ixT re_var re_int)) (rg_tup (rgs_cons rg_name (rgs_cons rg_name rgs_nil)))) (rs_seq (rs_asg (re_f3 re_var re_var re_var) rg_name) (rs_seq (rs_if (rt_t (re_op ro_Ib re_var re_var)) (rs_ret (re_isN re_var)) rs_next) (rs_seq (rs_asg (re_cb rc_I2 (ra_cons re_var (ra_cons re_var ra_nil))) rg_name) (rs_seq (rs_if (rt_or (rt_not (rt_b (re_f3 re_var re_var re_var))) (rt_or (rt_not (rt_b (re_f2 re_var (re_op ro_I0 re_var re_var)))) (rt_t (re_op ro_Ib (re_op ro_I0 re_var re_var) re_int)))) (rs_ret re_bl) rs_next) (rs_ret (re_not (re_cb rc_any (ra_cons (re_comp (ri_rng2X (ra_cons re_var (ra_cons re_var ra_nil))) rg_name rt_noIf (re_f2 re_var (re_op ro_I0 re_var re_var))) ra_nil))))))))), ?_⟩
  rintro _ _ _ _ _ R ⟨ps, ts, lo, hi, n, rfl, rfl, rfl, rfl, rfl, h3, ho, q⟩
  have n1 := room_nn ho 1 h3.in
  have n2 := room_nn ho 2 h3.in
  have n3 := room_nn ho 3 h3.in
  walk_at "dd_"
  refine ⟨ps, ts, rfl, rfl, rfl, h3, ?_⟩
  walk_at "dd_"
  refine ⟨ps, ts, lo, hi, n, rfl, rfl, rfl, rfl, h3, ho, fun h => ?_, fun h w u => ?_⟩
  · walk_at "dd_"
    rw [if_pos h]
    exact q
  · have hn : ¬ mostW ps ts < n := by omega
    have ef : (if leastW ps ts > n then leastW ps ts else n) = max n (leastW ps ts) := by split <;> omega
    walk_at "dd_"
    rw [if_neg hn, ef]
    have nr := u.near ho h3
    refine ⟨_, _, _, rfl, rfl, rfl, rfl, ?_⟩
    have t1 := u.ge
    have t2 := u.lo
    have t3 := u.hi
    rw [decide_eq_true (show max n (leastW ps ts) ≤ w ∧ w ≤ mostW ps ts from ⟨by omega, t3⟩)]
    walk_at "dd_"
    refine ⟨_, _, _, _, _, rfl, rfl, rfl, n1, n2, n3, ?_⟩
    rw [u.can]
    walk_at "dd_"
    rw [if_neg (by omega)]
    refine cmp_map (S0 := []) (fun d => match d with | .int v => .bool (canB (room ps ts 1) (room ps ts 2) (room ps ts 3) (v - leastW ps ts)) | _ => .none) (fun τ => ∃ v, τ = [v, some (.d (roomD ps ts)), some (.d (.int (leastW ps ts)))]) rfl _ [] _ ⟨_, rfl⟩ (by rw [intsD_length]; simp; omega) ?_ ?_
    · rintro d m _ acc R ⟨v, rfl⟩ k
      obtain ⟨i, hi⟩ := List.mem_iff_getElem?.mp m
      obtain ⟨hi', rfl⟩ := intsD_get hi
      walk_at "dd_"
      refine ⟨_, _, _, _, _, rfl, rfl, rfl, n1, n2, n3, ?_⟩
      walk_at "dd_"
      exact k _ ⟨_, rfl⟩
    · refine ⟨[], _, rfl, rfl, ?_⟩
      walk_at "dd_"
      refine ⟨(List.range (w - max n (leastW ps ts)).toNat).map fun k : Nat => canB (room ps ts 1) (room ps ts 2) (room ps ts 3) (max n (leastW ps ts) + k - leastW ps ts), by simp [intsD, Function.comp_def], ?_⟩
      have ea : ((List.range (w - max n (leastW ps ts)).toNat).map fun k : Nat => canB (room ps ts 1) (room ps ts 2) (room ps ts 3) (max n (leastW ps ts) + k - leastW ps ts)).any id = false := by
        rw [List.any_eq_false]
        intro b m
        obtain ⟨k, hk, rfl⟩ := List.mem_map.mp m
        have := List.mem_range.mp hk
        rw [u.no (max n (leastW ps ts) + k) (by omega) (by omega) (by omega)]
        decide
      rw [ea]
      exact q
theorem ok_down_right (T : Txt mg) (D_law_ends : Df P w K mg base "_law_ends" ["drawing", "terms"] 1 (sp2 (lf2 qEnds))) (D_downward : Df P w K mg base "downward" ["drawing", "gap", "number"] 4 (sp3 (lf3 qDn))) (D_law_told : Df P w K mg base "_law_told" ["found", "least", "most"] 2 (sp3 (lf3 qTold)))
    (D_law_rises : Df P w K mg base "_law_rises" ["rooms", "rise"] 1 (sp2 (lf2 qRises))) (d : Dd K mg "_law_down_right" s_law_down_right ["drawing", "gap", "rooms", "number"]) : Df P w K mg base "_law_down_right" ["drawing", "gap", "rooms", "number"] 5 (sp4 (lf4 qSide)) := by
  refine Df.d4 d sc_law_down_right (fun v u z t => [some v, some u, some z, some t, none, none, none, none]) (fun v u z t => rfl) 4 (fun v u z t => rfl) fun f cdv A outer s H E hr => ⟨_, _, (pss_cons (ps_asg (pe_df2 D_law_ends hr (by decide) (pv 0) (pe_ix ix_tup (pv 1) pe_int (fun _ _ => rfl))) (pg_tup (n := 2) rfl (pgs_cons (pg_name (i := 4) sc_law_down_right.nd rfl (Or.inr rfl)) (pgs_cons (pg_name (i := 5) sc_law_down_right.nd rfl (Or.inl rfl)) pgs_nil)))) (pss_cons (ps_set (i := 6) sc_law_down_right.nd rfl (Or.inl rfl) (pe_df3 D_downward hr (by decide) (pv 0) (pv 1) (pv 3))) (pss_cons (ps_if (pt_cmpR op_lt (pv 3) (pv 4) (nomark _)) (pss_one (ps_ret (pe_cmpR op_isNQ (pv 6) pe_non (nomark _)))) pss_nil) (pss_cons (ps_set (i := 7) sc_law_down_right.nd rfl (Or.inl rfl) (pe_callB (call_min2 rfl) (by rfl) T.n_min bt_min (pa_cons (pv 3) (pa_cons (pv 5) pa_nil)))) (pss_cons (ps_if (PW.pt (pw_or (pt_not (pt_val (pe_df3 D_law_told hr (by decide) (pv 6) (pv 4) (pv 7)))) (pw_or (pt_not (pt_val (pe_df2 D_law_rises hr (by decide) (pv 2) (pe_op op_sub (pv 6) (pv 4))))) (pw_or1 (pt_cmpR op_gt (pe_op op_sub (pv 7) (pv 6)) pe_int (nomark _)))))) (pss_one (ps_ret pe_bl)) pss_nil) (pss_one (ps_ret (pe_not (pe_callB (call_anyQ rfl) (by rfl) T.n_any bt_any (pa_cons (pe_comp (fun _ _ h => h) rfl (compOk_of rfl rfl rfl rfl (N := ["one", "rooms", "least"]) (caps := [none, some 2, some 4]) (by show capsOk ["drawing", "gap", "rooms", "number", "least", "most", "found", "last"] (defScope s_law_down_right).names _ _ _ = true; decide +kernel)) (pi_range2X rfl T.n_range (pa_cons (pe_op op_add (pv 6) pe_int) (pa_cons (pe_op op_add (pv 7) pe_int) pa_nil))) (fun _ _ _ _ => (pg_name (i := 0) (by show List.Nodup (["one", "rooms", "least"] : List Str); decide) rfl (Or.inl rfl))) (fun _ _ _ _ => pts_nil) (fun _ _ _ _ => (pe_df2 D_law_rises hr (by decide) (pv 1) (pe_op op_sub (pv 0) (pv 2))))) pa_nil)))))))))), (rs_seq (rs_asg (re_f2 re_var (re_op ro_ixT re_var re_int)) (rg_tup (rgs_cons rg_name (rgs_cons rg_name rgs_nil)))) (rs_seq (rs_asg (re_f3 re_var re_var re_var) rg_name) (rs_seq (rs_if (rt_t (re_op ro_Ib re_var re_var)) (rs_ret (re_isN re_var)) rs_next) (rs_seq (rs_asg (re_cb rc_I2 (ra_cons re_var (ra_cons re_var ra_nil))) rg_name) (rs_seq (rs_if (rt_or (rt_not (rt_b (re_f3 re_var re_var re_var))) (rt_or (rt_not (rt_b (re_f2 re_var (re_op ro_I0 re_var re_var)))) (rt_t (re_op ro_Ib (re_op ro_I0 re_var re_var) re_int)))) (rs_ret re_bl) rs_next) (rs_ret (re_not (re_cb rc_any (ra_cons (re_comp (ri_rng2X (ra_cons (re_op ro_I0 re_var re_int) (ra_cons (re_op ro_I0 re_var re_int) ra_nil))) rg_name rt_noIf (re_f2 re_var (re_op ro_I0 re_var re_var))) ra_nil))))))))), ?_⟩
  rintro _ _ _ _ _ R ⟨ps, ts, lo, hi, n, rfl, rfl, rfl, rfl, rfl, h3, ho, q⟩
  have n1 := room_nn ho 1 h3.in
  have n2 := room_nn ho 2 h3.in
  have n3 := room_nn ho 3 h3.in
  walk_at "dd_"
  refine ⟨ps, ts, rfl, rfl, rfl, h3, ?_⟩
  walk_at "dd_"
  refine ⟨ps, ts, lo, hi, n, rfl, rfl, rfl, rfl, h3, ho, fun h => ?_, fun h w u => ?_⟩
  · walk_at "dd_"
    rw [if_pos h]
    exact q
  · have hn : ¬ n < leastW ps ts := by omega
    have ef : (if mostW ps ts < n then mostW ps ts else n) = min n (mostW ps ts) := by split <;> omega
    walk_at "dd_"
    rw [if_neg hn, ef]
    have nr := u.near ho h3
    refine ⟨_, _, _, rfl, rfl, rfl, rfl, ?_⟩
    have t1 := u.le
    have t2 := u.lo
    have t3 := u.hi
    rw [decide_eq_true (show leastW ps ts ≤ w ∧ w ≤ min n (mostW ps ts) from ⟨t2, by omega⟩)]
    walk_at "dd_"
    refine ⟨_, _, _, _, _, rfl, rfl, rfl, n1, n2, n3, ?_⟩
    rw [u.can]
    walk_at "dd_"
    rw [if_neg (by omega)]
    refine cmp_map (S0 := []) (fun d => match d with | .int v => .bool (canB (room ps ts 1) (room ps ts 2) (room ps ts 3) (v - leastW ps ts)) | _ => .none) (fun τ => ∃ v, τ = [v, some (.d (roomD ps ts)), some (.d (.int (leastW ps ts)))]) rfl _ [] _ ⟨_, rfl⟩ (by rw [intsD_length]; simp; omega) ?_ ?_
    · rintro d m _ acc R ⟨v, rfl⟩ k
      obtain ⟨i, hi⟩ := List.mem_iff_getElem?.mp m
      obtain ⟨hi', rfl⟩ := intsD_get hi
      walk_at "dd_"
      refine ⟨_, _, _, _, _, rfl, rfl, rfl, n1, n2, n3, ?_⟩
      walk_at "dd_"
      exact k _ ⟨_, rfl⟩
    · refine ⟨[], _, rfl, rfl, ?_⟩
      walk_at "dd_"
      refine ⟨(List.range (min n (mostW ps ts) + 1 - (w + 1)).toNat).map fun k : Nat => canB (room ps ts 1) (room ps ts 2) (room ps ts 3) (w + 1 + k - leastW ps ts), by simp [intsD, Function.comp_def], ?_⟩
      have ea : ((List.range (min n (mostW ps ts) + 1 - (w + 1)).toNat).map fun k : Nat => canB (room ps ts 1) (room ps ts 2) (room ps ts 3) (w + 1 + k - leastW ps ts)).any id = false := by
        rw [List.any_eq_false]
        intro b m
        obtain ⟨k, hk, rfl⟩ := List.mem_map.mp m
        have := List.mem_range.mp hk
        rw [u.no (w + 1 + k) (by omega) (by omega) (by omega)]
        decide
      rw [ea]
      exact q
theorem far_of {ps : List (Str × Int × Int)} (hd : Drw ps) : ∀ {ts : List (Nat × Int)}, (∀ t ∈ ts, t.1 < ps.length ∧ -3 ≤ t.2 ∧ t.2 ≤ 3) → -(ts.length * (3 * 10 ^ 59) : Int) ≤ leastW ps ts ∧ mostW ps ts ≤ ts.length * (3 * 10 ^ 59)
  | [], _ => by simp [leastW, mostW]
  | t :: ts, h => by
    obtain ⟨i1, i2⟩ := far_of hd (ts := ts) fun u m => h u (List.mem_cons_of_mem _ m)
    obtain ⟨t1, t2, t3⟩ := h t List.mem_cons_self
    obtain ⟨_, o, o1, o2⟩ := hd.all _ (part_mem t1)
    have : -(3 * 10 ^ 59 : Int) ≤ tLo ps t ∧ tHi ps t ≤ 3 * 10 ^ 59 := by
      unfold tLo tHi
      generalize (part ps t.1).2.1 = lo at o o1 o2 ⊢
      generalize (part ps t.1).2.2 = hi at o o1 o2 ⊢
      have : t.2 = -3 ∨ t.2 = -2 ∨ t.2 = -1 ∨ t.2 = 0 ∨ t.2 = 1 ∨ t.2 = 2 ∨ t.2 = 3 := by omega
      rcases this with e | e | e | e | e | e | e <;> rw [e] <;> omega
    simp only [leastW, mostW, List.map_cons, List.sum_cons, List.length_cons] at i1 i2 ⊢
    omega
theorem ok_numbers (T : Txt mg) (D_law_draw : Df P w K mg base "_law_draw" ["pen", "many"] 2 (sp2 (lf2 qDraw))) (d : Dd K mg "_law_numbers" s_law_numbers ["pen", "least", "most"]) : Df P w K mg base "_law_numbers" ["pen", "least", "most"] 3 (sp3 (lf3 qNumbers)) := by
  refine Df.d3 d sc_law_numbers (fun v u z => [some v, some u, some z, none, none]) (fun v u z => rfl) 2 (fun v u z => rfl) fun f cdv A outer s H E hr => ⟨_, _, (pss_cons (ps_set (i := 3) sc_law_numbers.nd rfl (Or.inl rfl) (pe_op op_cat (pe_comp (fun _ _ h => h) rfl (compOk_of rfl rfl rfl rfl (N := ["k", "least"]) (caps := [none, some 1]) (by show capsOk ["pen", "least", "most", "found", "far"] (defScope s_law_numbers).names _ _ _ = true; decide +kernel)) (pi_range2X rfl T.n_range (pa_cons (pe_un un_neg pe_int) (pa_cons pe_int pa_nil))) (fun _ _ _ _ => (pg_name (i := 0) (by show List.Nodup (["k", "least"] : List Str); decide) rfl (Or.inl rfl))) (fun _ _ _ _ => pts_nil) (fun _ _ _ _ => (pe_op op_add (pv 1) (pv 0)))) (pe_comp (fun _ _ h => h) rfl (compOk_of rfl rfl rfl rfl (N := ["k", "most"]) (caps := [none, some 2]) (by show capsOk ["pen", "least", "most", "found", "far"] (defScope s_law_numbers).names _ _ _ = true; decide +kernel)) (pi_range2X rfl T.n_range (pa_cons (pe_un un_neg pe_int) (pa_cons pe_int pa_nil))) (fun _ _ _ _ => (pg_name (i := 0) (by show List.Nodup (["k", "most"] : List Str); decide) rfl (Or.inl rfl))) (fun _ _ _ _ => pts_nil) (fun _ _ _ _ => (pe_op op_sub (pv 1) (pv 0)))))) (pss_cons (ps_set (i := 3) sc_law_numbers.nd rfl (Or.inl rfl) (pe_op op_cat (pv 3) (pe_comp (fun _ _ h => h) rfl (compOk_of rfl rfl rfl rfl (N := ["turn", "least", "pen", "most"]) (caps := [none, some 1, some 0, some 2]) (by show capsOk ["pen", "least", "most", "found", "far"] (defScope s_law_numbers).names _ _ _ = true; decide +kernel)) (pi_range1X rfl T.n_range (pa_cons pe_int pa_nil)) (fun _ _ _ _ => (pg_name (i := 0) (by show List.Nodup (["turn", "least", "pen", "most"] : List Str); decide) rfl (Or.inl rfl))) (fun _ _ _ _ => pts_nil) (fun _ _ _ _ => (pe_op op_add (pv 1) (pe_df2 D_law_draw hr (by decide) (pv 2) (pe_op op_add (pe_op op_sub (pv 3) (pv 1)) pe_int))))))) (pss_cons (ps_set (i := 4) sc_law_numbers.nd rfl (Or.inl rfl) (pe_op op_mulX (pe_op op_pow pe_int pe_int) (pe_op op_pow pe_int pe_int))) (pss_one (ps_ret (pe_op op_cat (pv 3) (pe_lst (pa_cons (pe_op op_sub (pe_op op_sub (pv 1) pe_int) (pe_df2 D_law_draw hr (by decide) (pv 0) (pv 4))) (pa_cons (pe_op op_add (pe_op op_add (pv 2) pe_int) (pe_df2 D_law_draw hr (by decide) (pv 0) (pv 4))) pa_nil))))))))), (rs_seq (rs_asg (re_op ro_cat (re_comp (ri_rng2X (ra_cons (re_un ru_I re_int) (ra_cons re_int ra_nil))) rg_name rt_noIf (re_op ro_I0 re_var re_var)) (re_comp (ri_rng2X (ra_cons (re_un ru_I re_int) (ra_cons re_int ra_nil))) rg_name rt_noIf (re_op ro_I0 re_var re_var))) rg_name) (rs_seq (rs_asg (re_op ro_cat re_var (re_comp (ri_rng1X (ra_cons re_int ra_nil)) rg_name rt_noIf (re_op ro_I0 re_var (re_p2 re_var (re_op ro_I0 (re_op ro_I0 re_var re_var) re_int))))) rg_name) (rs_seq (rs_asg (re_op ro_I (re_op ro_I re_int re_int) (re_op ro_I re_int re_int)) rg_name) (rs_ret (re_op ro_cat re_var (re_lst (ra_cons (re_op ro_I0 (re_op ro_I0 re_var re_int) (re_p2 re_var re_var)) (ra_cons (re_op ro_I0 (re_op ro_I0 re_var re_int) (re_p2 re_var re_var)) ra_nil)))))))), ?_⟩
  rintro _ _ _ _ R ⟨p, l, m, rfl, rfl, rfl, rfl, hp, lm, far, q⟩
  walk_at "dd_"
  refine cmp_map (S0 := [p]) (fun d => match d with | .int v => .int (l + v) | _ => .none) (fun τ => ∃ v, τ = [v, some (.d (.int l))]) rfl _ [] _ ⟨_, rfl⟩ (by decide) ?_ ?_
  · rintro d mm _ acc R ⟨v, rfl⟩ k
    obtain ⟨i, hi⟩ := List.mem_iff_getElem?.mp mm
    obtain ⟨hi', rfl⟩ := intsD_get hi
    walk_at "dd_"
    exact k _ ⟨_, rfl⟩
  refine ⟨[p], _, rfl, rfl, ?_⟩
  refine cmp_map (S0 := [p]) (fun d => match d with | .int v => .int (m - v) | _ => .none) (fun τ => ∃ v, τ = [v, some (.d (.int m))]) rfl _ [] _ ⟨_, rfl⟩ (by decide) ?_ ?_
  · rintro d mm _ acc R ⟨v, rfl⟩ k
    obtain ⟨i, hi⟩ := List.mem_iff_getElem?.mp mm
    obtain ⟨hi', rfl⟩ := intsD_get hi
    walk_at "dd_"
    exact k _ ⟨_, rfl⟩
  refine ⟨[p], _, rfl, rfl, by simp [intsD], ?_⟩
  refine cmp_pen (fun _ e => ∃ n, e = .int n) (fun τ => ∃ v, τ = [v, some (.d (.int l)), some (.l 0), some (.d (.int m))]) _ [] p _ ⟨_, rfl⟩ hp (by decide) ?_ ?_
  · rintro d mm _ p' acc R ⟨v, rfl⟩ hp' k
    walk_at "dd_"
    have big : (10 : Int) ^ 70 + 1 ≤ 2 ^ 300 := by decide +kernel
    have hlg : (m - l + 1).natAbs.log2 < 300 := log2_small (by omega) (by omega)
    refine ⟨p', _, rfl, rfl, rfl, hp', by omega, by omega, fun r p2 r0 r1 hp2 => ?_⟩
    walk_at "dd_"
    exact k _ _ p2 ⟨_, rfl⟩ hp2 ⟨_, rfl⟩
  intro es p' hp' fs
  obtain ⟨ns, rfl, hl⟩ : ∃ ns : List Int, es = ns.map PyData.int ∧ ns.length = 3 := by
    have g : ∀ {ds es : List PyData}, Paired (fun _ e => ∃ n, e = PyData.int n) ds es → ∃ ns : List Int, es = ns.map PyData.int ∧ ns.length = ds.length := by
      intro ds es f
      induction f with
      | nil => exact ⟨[], rfl, rfl⟩
      | cons h _ ih =>
        obtain ⟨n, rfl⟩ := h
        obtain ⟨ns, rfl, e⟩ := ih
        exact ⟨n :: ns, rfl, by simp [e]⟩
    exact g fs
  refine ⟨[p'], _, rfl, rfl, by simp [hl, intsD], ⟨by decide, by decide, by decide⟩, ⟨by decide, by decide, by decide⟩, mulOk 220 220 (by decide +kernel) (by decide +kernel), _, rfl, ?_⟩
  refine ⟨p', _, rfl, rfl, rfl, hp', by decide +kernel, by decide +kernel, fun r1 p2 _ _ hp2 => ?_⟩
  walk_at "dd_"
  refine ⟨p2, _, rfl, rfl, rfl, hp2, by decide +kernel, by decide +kernel, fun r2 p3 _ _ hp3 => ?_⟩
  walk_at "dd_"
  refine ⟨by simp [hl, intsD], ?_⟩
  have e := q ([l + -1, l + 0, l + 1, l + 2, l + 3, l + 4] ++ [m - -1, m - 0, m - 1, m - 2, m - 3, m - 4] ++ ns ++ [l - 1 - r1, m + 1 + r2]) p3 (by simp [hl]) hp3
  have ei : intsD (-1) 6 = [.int (-1), .int 0, .int 1, .int 2, .int 3, .int 4] := rfl
  rw [ei]
  simpa using e
theorem ok_law {f : Addr} {fd : FuncData} (F : Fun K "law" "law" s_law f fd) (T : Txt mg) (d_plus : Dd K mg "plus" s_plus ["one", "other"]) (d_multiplied : Dd K mg "multiplied" s_multiplied ["one", "by"]) (d_size_of : Dd K mg "size_of" s_size_of ["one"]) (d_span_of : Dd K mg "span_of" s_span_of ["part"]) (d_reach : Dd K mg "reach" s_reach ["drawing", "gap"]) (d_reach_of_terms : Dd K mg "reach_of_terms" s_reach_of_terms ["drawing", "terms"]) (d_upward : Dd K mg "upward" s_upward ["drawing", "gap", "number"]) (d_downward : Dd K mg "downward" s_downward ["drawing", "gap", "number"]) (d_steps_of : Dd K mg "steps_of" s_steps_of ["drawing", "terms"]) (d_can_rise : Dd K mg "can_rise" s_can_rise ["steps", "rise"]) (d_law_cell_at : Dd K mg "_law_cell_at" s_law_cell_at ["script", "k"]) (d_law_next : Dd K mg "_law_next" s_law_next ["seed"]) (d_law_pen : Dd K mg "_law_pen" s_law_pen ["cell"]) (d_law_draw : Dd K mg "_law_draw" s_law_draw ["pen", "many"]) (d_law_whole : Dd K mg "_law_whole" s_law_whole ["found"]) (d_law_number : Dd K mg "_law_number" s_law_number ["pen"]) (d_law_span : Dd K mg "_law_span" s_law_span ["pen"]) (d_law_names : Dd K mg "_law_names" s_law_names ["pen"]) (d_law_drawing : Dd K mg "_law_drawing" s_law_drawing ["pen", "most"]) (d_law_ends : Dd K mg "_law_ends" s_law_ends ["drawing", "terms"]) (d_law_terms : Dd K mg "_law_terms" s_law_terms ["pen", "drawing"]) (d_law_gap : Dd K mg "_law_gap" s_law_gap ["pen", "drawing"]) (d_law_set : Dd K mg "_law_set" s_law_set ["pen", "drawing"]) (d_law_worth : Dd K mg "_law_worth" s_law_worth ["gap", "one"]) (d_law_rooms : Dd K mg "_law_rooms" s_law_rooms ["drawing", "terms"]) (d_law_rises : Dd K mg "_law_rises" s_law_rises ["rooms", "rise"]) (d_law_told : Dd K mg "_law_told" s_law_told ["found", "least", "most"]) (d_law_up_right : Dd K mg "_law_up_right" s_law_up_right ["drawing", "gap", "rooms", "number"]) (d_law_down_right : Dd K mg "_law_down_right" s_law_down_right ["drawing", "gap", "rooms", "number"]) (d_law_numbers : Dd K mg "_law_numbers" s_law_numbers ["pen", "least", "most"]) : FnOk P w K mg base CX0 7 f fd ["script"] (sp1 (pLaw K)) := by
  have D_law_cell_at := ok_cell_at (P := P) (w := w) (base := base) T d_law_cell_at
  have B_law_draw := ok_draw (ok_next (P := P) (w := w) (base := base) d_law_next) d_law_draw
  have B_law_span := ok_span_of B_law_draw (ok_number B_law_draw d_law_number) d_law_span
  have D_law_draw := B_law_draw.imp2 fun _ _ _ _ => lf_draw
  have D_law_pen := (ok_pen_of (P := P) (w := w) (base := base) T d_law_pen).imp1 fun _ _ _ => lf_penOf
  have D_law_drawing := (ok_drawing T B_law_draw B_law_span (ok_names T B_law_draw d_law_names) d_law_drawing).imp2 fun _ _ _ _ => lf_drawing
  have D_law_ends := ok_ends (P := P) (w := w) (base := base) T d_law_ends
  have D_law_gap := ok_gap T D_law_draw (ok_terms T D_law_draw d_law_terms) D_law_ends d_law_gap
  have D_law_set := ok_set T D_law_draw d_law_set
  have D_law_worth := ok_worth (P := P) (w := w) (base := base) T d_law_worth
  have D_law_rooms := ok_rooms (P := P) (w := w) (base := base) T d_law_rooms
  have D_law_rises := ok_rises (P := P) (w := w) (base := base) T d_law_rises
  have D_law_told := ok_told T (ok_law_whole (P := P) (w := w) (base := base) T d_law_whole) d_law_told
  have D_span_of := ok_span_of_part (P := P) (w := w) (base := base) T d_span_of
  have D_reach := ok_reach T (ok_reach_of_terms T (ok_plus (P := P) (w := w) (base := base) T d_plus) (ok_multiplied (P := P) (w := w) (base := base) T d_multiplied) D_span_of d_reach_of_terms) d_reach
  have D_steps_of := ok_steps_of T (ok_size_of (P := P) (w := w) (base := base) T d_size_of) D_span_of d_steps_of
  have D_can_rise := ok_can_rise (P := P) (w := w) (base := base) T d_can_rise
  have D_upward := ok_upward T D_reach D_steps_of D_can_rise d_upward
  have D_downward := ok_downward T D_reach D_steps_of D_can_rise d_downward
  have D_law_up_right := ok_up_right T D_law_ends D_upward D_law_told D_law_rises d_law_up_right
  have D_law_down_right := ok_down_right T D_law_ends D_downward D_law_told D_law_rises d_law_down_right
  have D_law_numbers := ok_numbers T D_law_draw d_law_numbers
  refine F.ok1 sc_law (fun v => [some v, none, none, none, none, none, none, none, none, none]) (fun _ => rfl) fun cdv A outer s H v Q E hr h => ?_
  obtain ⟨a, ns, rfl, hS, hlen, q⟩ := h
  refine ⟨_, (pss_cons (ps_if (pt_cmpR op_notNQ (pe_df3 D_upward hr (by decide) (pe_tup (pa_cons (pe_tup (pa_cons pe_str (pa_cons pe_int (pa_cons pe_int pa_nil)))) pa_nil)) (pe_tup (pa_cons (pe_tup (pa_cons (pe_tup (pa_cons pe_int (pa_cons pe_int pa_nil))) pa_nil)) (pa_cons pe_int (pa_cons pe_int pa_nil)))) pe_int) pe_non (nomark _)) (pss_one (ps_ret pe_bl)) pss_nil) (pss_cons (ps_for PassesOwn.never rfl (pi_list (pe_op op_cat (pe_lst (pa_cons (pe_df2 D_law_cell_at hr (by decide) (pv 0) pe_int) pa_nil)) (pe_slice sl_list (pv 0) (po_some pe_int) (po_some pe_int)))) (pg_name (i := 1) sc_law.nd rfl (Or.inl rfl)) (pss_cons (ps_set (i := 2) sc_law.nd rfl (Or.inl rfl) (pe_df1 D_law_pen hr (by decide) (pv 1))) (pss_cons (ps_set (i := 3) sc_law.nd rfl (Or.inl rfl) (pe_df2 D_law_drawing hr (by decide) (pv 2) pe_int)) (pss_cons (ps_set (i := 4) sc_law.nd rfl (Or.inl rfl) (pe_df2 D_law_gap hr (by decide) (pv 2) (pv 3))) (pss_cons (ps_set (i := 5) sc_law.nd rfl (Or.inl rfl) (pe_df2 D_law_rooms hr (by decide) (pv 3) (pe_ix ix_tup (pv 4) pe_int (fun _ _ => rfl)))) (pss_cons (ps_asg (pe_df2 D_law_ends hr (by decide) (pv 3) (pe_ix ix_tup (pv 4) pe_int (fun _ _ => rfl))) (pg_tup (n := 2) rfl (pgs_cons (pg_name (i := 6) sc_law.nd rfl (Or.inl rfl)) (pgs_cons (pg_name (i := 7) sc_law.nd rfl (Or.inl rfl)) pgs_nil)))) (pss_cons (ps_set (i := 8) sc_law.nd rfl (Or.inl rfl) (pe_df2 D_law_worth hr (by decide) (pv 4) (pe_df2 D_law_set hr (by decide) (pv 2) (pv 3)))) (pss_cons (ps_for PassesOwn.never rfl (pi_list (pe_op op_cat (pe_df3 D_law_numbers hr (by decide) (pv 2) (pv 6) (pv 7)) (pe_lst (pa_cons (pv 8) pa_nil)))) (pg_name (i := 9) sc_law.nd rfl (Or.inl rfl)) (pss_one (ps_if (PW.pt (pw_or (pt_not (pt_val (pe_df4 D_law_up_right hr (by decide) (pv 3) (pv 4) (pv 5) (pv 9)))) (pw_or1 (pt_not (pt_val (pe_df4 D_law_down_right hr (by decide) (pv 3) (pv 4) (pv 5) (pv 9))))))) (pss_one (ps_ret pe_bl)) pss_nil))) (pss_one (ps_if (PW.pt (pw_or (pt_cmpR op_ne (pe_df3 D_upward hr (by decide) (pv 3) (pv 4) (pv 8)) (pv 8) (nomark _)) (pw_or1 (pt_cmpR op_ne (pe_df3 D_downward hr (by decide) (pv 3) (pv 4) (pv 8)) (pv 8) (nomark _))))) (pss_one (ps_ret pe_bl)) pss_nil)))))))))) (pss_one (ps_ret pe_bl)))), ?_⟩
  refine pre_d (a := a) (m := 9) (rs_if (rt_t (re_notN (re_f3 (re_tup (ra_cons (re_tup (ra_cons re_str (ra_cons re_int (ra_cons re_int ra_nil)))) ra_nil)) (re_tup (ra_cons (re_tup (ra_cons (re_tup (ra_cons re_int (ra_cons re_int ra_nil))) ra_nil)) (ra_cons re_int (ra_cons re_int ra_nil)))) re_int))) (rs_ret re_bl) rs_next) rfl rfl ?_ fun σ1 H1 z0 z1 s1 => ?_
  · walk_at "dd_"
    refine ⟨[("a", 0, 0)], [(0, 2)], 0, 0, 1, rfl, rfl, rfl, rfl, ⟨by decide, by simp⟩, fun p m => by simp at m; rw [m]; exact Int.le_refl _, fun _ => ?_, fun h => absurd h (by decide)⟩
    walk_at "dd_"
  · refine cells_d (m := 9) (rs_seq (rs_asg (re_f1 re_var) rg_name) (rs_seq (rs_asg (re_p2 re_var re_int) rg_name) (rs_seq (rs_asg (re_p2 re_var re_var) rg_name) (rs_seq (rs_asg (re_f2 re_var (re_op ro_ixT re_var re_int)) rg_name) (rs_seq (rs_asg (re_f2 re_var (re_op ro_ixT re_var re_int)) (rg_tup (rgs_cons rg_name (rgs_cons rg_name rgs_nil)))) (rs_seq (rs_asg (re_f2 re_var (re_p2 re_var re_var)) rg_name) (rs_seq (rs_for (ri_list (re_op ro_cat (re_p3 re_var re_var re_var) (re_lst (ra_cons re_var ra_nil)))) rg_name (rs_if (rt_or (rt_not (rt_b (re_f4 re_var re_var re_var re_var))) (rt_not (rt_b (re_f4 re_var re_var re_var re_var)))) (rs_ret re_bl) rs_next)) (rs_if (rt_or (rt_t (re_op ro_neI (re_f3 re_var re_var re_var) re_var)) (rt_t (re_op ro_neI (re_f3 re_var re_var re_var) re_var))) (rs_ret re_bl) rs_next)))))))) z0 z1 (s1.seq hS) hlen (fun n => ?_) (by decide) fun _ H2 _ => q H2
    walk_at "dd_"
    refine ⟨n, rfl, rfl, fun p hp => ?_⟩
    walk_at "dd_"
    refine ⟨p, 8, rfl, rfl, by decide, by decide, rfl, hp, fun ps p1 hd hp1 => ?_⟩
    walk_at "dd_"
    refine ⟨p1, ps, rfl, rfl, rfl, hp1, hd, fun ts lo hi p2 ht lh hp2 => ?_⟩
    have h3 := ht.tm3 hd.l8
    have ho := hd.ord
    have lm := least_le_most ps ts
    obtain ⟨b1, b2⟩ := far_of hd h3.2
    have hl := h3.1
    walk_at "dd_"
    refine ⟨ps, ts, rfl, rfl, rfl, h3, ?_⟩
    walk_at "dd_"
    refine ⟨ps, ts, rfl, rfl, rfl, h3, ?_⟩
    walk_at "dd_"
    refine ⟨p2, ps, rfl, rfl, rfl, hp2, hd, fun ns p3 hl hb hp3 => ?_⟩
    have h3n : Tm3 ns.length ts := hl ▸ h3
    walk_at "dd_"
    refine ⟨ts, lo, hi, ns, rfl, rfl, rfl, h3n, ?_⟩
    walk_at "dd_"
    have bw : mostW ps ts - leastW ps ts < 10 ^ 70 := by
      have : (ts.length : Int) ≤ 100 := by omega
      omega
    refine ⟨p3, _, _, rfl, rfl, rfl, rfl, hp3, lm, bw, fun us p4 hu hp4 => ?_⟩
    have n1 := room_nn ho 1 h3.in
    have n2 := room_nn ho 2 h3.in
    have n3 := room_nn ho 3 h3.in
    have hwc : canB (room ps ts 1) (room ps ts 2) (room ps ts 3) (worth ts ns - leastW ps ts) = true := (can_iff n1 n2 n3).mpr (worth_can (fun j hj => hb j _ (getD_of (by omega))) h3.2)
    have hwr : leastW ps ts ≤ worth ts ns ∧ worth ts ns ≤ mostW ps ts := by
      obtain ⟨x, y, z, q1, q2, q3, q4, q5, q6, q7⟩ := (can_iff n1 n2 n3).mp hwc
      have := total_eq ho h3.2
      omega
    walk_at "dd_"
    refine ⟨by omega, ?_⟩
    have eu : us.map PyData.int ++ [.int (worth ts ns)] = (us ++ [worth ts ns]).map PyData.int := by simp
    rw [eu]
    refine loop_inv (fun i δ S => ∃ (u : Option XV), S = [p4] ∧ δ = [some (.o (.ref a)), some (.d (.int n)), some (.l 0), some (.d (drwD ps)), some (.d (gapD ts lo hi)), some (.d (roomD ps ts)), some (.d (.int (leastW ps ts))), some (.d (.int (mostW ps ts))), some (.d (.int (worth ts ns))), u]) ⟨_, rfl, rfl⟩ ?_ ?_
    · rintro i d _ _ N hi' ⟨u, rfl, rfl⟩ hN
      rw [List.getElem?_map] at hi'
      obtain ⟨v, hv, rfl⟩ := Option.map_eq_some_iff.mp hi'
      walk_at "dd_"
      refine ⟨ps, ts, lo, hi, v, rfl, rfl, rfl, rfl, rfl, h3, ho, ?_⟩
      walk_at "dd_"
      refine ⟨ps, ts, lo, hi, v, rfl, rfl, rfl, rfl, rfl, h3, ho, ?_⟩
      walk_at "dd_"
      exact hN _ _ ⟨_, rfl, rfl⟩
    · rintro _ _ ⟨u, rfl, rfl⟩
      walk_at "dd_"
      refine ⟨ps, ts, lo, hi, _, rfl, rfl, rfl, rfl, h3, ho, fun h => absurd h (by omega), fun _ w uw => ?_⟩
      have ew : w = worth ts ns := by
        have g := uw.ge
        by_cases e : w = worth ts ns
        · exact e
        · have := uw.no _ (Int.le_refl _) hwr.1 (by omega)
          rw [hwc] at this
          cases this
      rw [ew]
      walk_at "dd_"
      refine ⟨ps, ts, lo, hi, _, rfl, rfl, rfl, rfl, h3, ho, fun h => absurd h (by omega), fun _ w uw => ?_⟩
      have ew : w = worth ts ns := by
        have g := uw.le
        by_cases e : w = worth ts ns
        · exact e
        · have := uw.no _ (Int.le_refl _) hwr.2 (by omega)
          rw [hwc] at this
          cases this
      rw [ew]
      walk_at "dd_"
end
end My
open PySem PySem.W PyProof.Rows L2
set_option maxRecDepth 100000 in
set_option maxHeartbeats 0 in
theorem PySem.Challenge.cw_gaugewright_k14_next_worths_holds : PySem.Challenge.rw_gaugewright_k14_next_worths.Holds := by
  w_on; o_law; k_head; (case hw => w_witness2)
  k_fill
  refine L2.walk_law (l := PySem.Challenge.rw_gaugewright_k14_next_worths) (k := 7) rfl rfl ⟨rfl, by decide, by decide⟩ (fun w h Y => PySem.W.kIn_of Y) ?F
  case F =>
    intro w mg fa h KX G hmg
    have d_plus : Dd (L2.KOf KX) mg "plus" My.s_plus ["one", "other"] := by
      dsimp only [L2.KOf]
      refine' Dd.mk' KX G ?a ?l ?c ?k ?b
      (case a => k_is); (case l => k_is); (case c => k_is); (case k => k_is); (case b => exact fun _ _ _ _ _ _ us hl => match us, hl with | [_, _], _ => rfl)
    have d_multiplied : Dd (L2.KOf KX) mg "multiplied" My.s_multiplied ["one", "by"] := by
      dsimp only [L2.KOf]
      refine' Dd.mk' KX G ?a ?l ?c ?k ?b
      (case a => k_is); (case l => k_is); (case c => k_is); (case k => k_is); (case b => exact fun _ _ _ _ _ _ us hl => match us, hl with | [_, _], _ => rfl)
    have d_size_of : Dd (L2.KOf KX) mg "size_of" My.s_size_of ["one"] := by
      dsimp only [L2.KOf]
      refine' Dd.mk' KX G ?a ?l ?c ?k ?b
      (case a => k_is); (case l => k_is); (case c => k_is); (case k => k_is); (case b => exact fun _ _ _ _ _ _ us hl => match us, hl with | [_], _ => rfl)
    have d_span_of : Dd (L2.KOf KX) mg "span_of" My.s_span_of ["part"] := by
      dsimp only [L2.KOf]
      refine' Dd.mk' KX G ?a ?l ?c ?k ?b
      (case a => k_is); (case l => k_is); (case c => k_is); (case k => k_is); (case b => exact fun _ _ _ _ _ _ us hl => match us, hl with | [_], _ => rfl)
    have d_reach : Dd (L2.KOf KX) mg "reach" My.s_reach ["drawing", "gap"] := by
      dsimp only [L2.KOf]
      refine' Dd.mk' KX G ?a ?l ?c ?k ?b
      (case a => k_is); (case l => k_is); (case c => k_is); (case k => k_is); (case b => exact fun _ _ _ _ _ _ us hl => match us, hl with | [_, _], _ => rfl)
    have d_reach_of_terms : Dd (L2.KOf KX) mg "reach_of_terms" My.s_reach_of_terms ["drawing", "terms"] := by
      dsimp only [L2.KOf]
      refine' Dd.mk' KX G ?a ?l ?c ?k ?b
      (case a => k_is); (case l => k_is); (case c => k_is); (case k => k_is); (case b => exact fun _ _ _ _ _ _ us hl => match us, hl with | [_, _], _ => rfl)
    have d_upward : Dd (L2.KOf KX) mg "upward" My.s_upward ["drawing", "gap", "number"] := by
      dsimp only [L2.KOf]
      refine' Dd.mk' KX G ?a ?l ?c ?k ?b
      (case a => k_is); (case l => k_is); (case c => k_is); (case k => k_is); (case b => exact fun _ _ _ _ _ _ us hl => match us, hl with | [_, _, _], _ => rfl)
    have d_downward : Dd (L2.KOf KX) mg "downward" My.s_downward ["drawing", "gap", "number"] := by
      dsimp only [L2.KOf]
      refine' Dd.mk' KX G ?a ?l ?c ?k ?b
      (case a => k_is); (case l => k_is); (case c => k_is); (case k => k_is); (case b => exact fun _ _ _ _ _ _ us hl => match us, hl with | [_, _, _], _ => rfl)
    have d_steps_of : Dd (L2.KOf KX) mg "steps_of" My.s_steps_of ["drawing", "terms"] := by
      dsimp only [L2.KOf]
      refine' Dd.mk' KX G ?a ?l ?c ?k ?b
      (case a => k_is); (case l => k_is); (case c => k_is); (case k => k_is); (case b => exact fun _ _ _ _ _ _ us hl => match us, hl with | [_, _], _ => rfl)
    have d_can_rise : Dd (L2.KOf KX) mg "can_rise" My.s_can_rise ["steps", "rise"] := by
      dsimp only [L2.KOf]
      refine' Dd.mk' KX G ?a ?l ?c ?k ?b
      (case a => k_is); (case l => k_is); (case c => k_is); (case k => k_is); (case b => exact fun _ _ _ _ _ _ us hl => match us, hl with | [_, _], _ => rfl)
    have d_law_cell_at : Dd (L2.KOf KX) mg "_law_cell_at" My.s_law_cell_at ["script", "k"] := by
      dsimp only [L2.KOf]
      refine' Dd.mk' KX G ?a ?l ?c ?k ?b
      (case a => k_is); (case l => k_is); (case c => k_is); (case k => k_is); (case b => exact fun _ _ _ _ _ _ us hl => match us, hl with | [_, _], _ => rfl)
    have d_law_next : Dd (L2.KOf KX) mg "_law_next" My.s_law_next ["seed"] := by
      dsimp only [L2.KOf]
      refine' Dd.mk' KX G ?a ?l ?c ?k ?b
      (case a => k_is); (case l => k_is); (case c => k_is); (case k => k_is); (case b => exact fun _ _ _ _ _ _ us hl => match us, hl with | [_], _ => rfl)
    have d_law_pen : Dd (L2.KOf KX) mg "_law_pen" My.s_law_pen ["cell"] := by
      dsimp only [L2.KOf]
      refine' Dd.mk' KX G ?a ?l ?c ?k ?b
      (case a => k_is); (case l => k_is); (case c => k_is); (case k => k_is); (case b => exact fun _ _ _ _ _ _ us hl => match us, hl with | [_], _ => rfl)
    have d_law_draw : Dd (L2.KOf KX) mg "_law_draw" My.s_law_draw ["pen", "many"] := by
      dsimp only [L2.KOf]
      refine' Dd.mk' KX G ?a ?l ?c ?k ?b
      (case a => k_is); (case l => k_is); (case c => k_is); (case k => k_is); (case b => exact fun _ _ _ _ _ _ us hl => match us, hl with | [_, _], _ => rfl)
    have d_law_whole : Dd (L2.KOf KX) mg "_law_whole" My.s_law_whole ["found"] := by
      dsimp only [L2.KOf]
      refine' Dd.mk' KX G ?a ?l ?c ?k ?b
      (case a => k_is); (case l => k_is); (case c => k_is); (case k => k_is); (case b => exact fun _ _ _ _ _ _ us hl => match us, hl with | [_], _ => rfl)
    have d_law_number : Dd (L2.KOf KX) mg "_law_number" My.s_law_number ["pen"] := by
      dsimp only [L2.KOf]
      refine' Dd.mk' KX G ?a ?l ?c ?k ?b
      (case a => k_is); (case l => k_is); (case c => k_is); (case k => k_is); (case b => exact fun _ _ _ _ _ _ us hl => match us, hl with | [_], _ => rfl)
    have d_law_span : Dd (L2.KOf KX) mg "_law_span" My.s_law_span ["pen"] := by
      dsimp only [L2.KOf]
      refine' Dd.mk' KX G ?a ?l ?c ?k ?b
      (case a => k_is); (case l => k_is); (case c => k_is); (case k => k_is); (case b => exact fun _ _ _ _ _ _ us hl => match us, hl with | [_], _ => rfl)
    have d_law_names : Dd (L2.KOf KX) mg "_law_names" My.s_law_names ["pen"] := by
      dsimp only [L2.KOf]
      refine' Dd.mk' KX G ?a ?l ?c ?k ?b
      (case a => k_is); (case l => k_is); (case c => k_is); (case k => k_is); (case b => exact fun _ _ _ _ _ _ us hl => match us, hl with | [_], _ => rfl)
    have d_law_drawing : Dd (L2.KOf KX) mg "_law_drawing" My.s_law_drawing ["pen", "most"] := by
      dsimp only [L2.KOf]
      refine' Dd.mk' KX G ?a ?l ?c ?k ?b
      (case a => k_is); (case l => k_is); (case c => k_is); (case k => k_is); (case b => exact fun _ _ _ _ _ _ us hl => match us, hl with | [_, _], _ => rfl)
    have d_law_ends : Dd (L2.KOf KX) mg "_law_ends" My.s_law_ends ["drawing", "terms"] := by
      dsimp only [L2.KOf]
      refine' Dd.mk' KX G ?a ?l ?c ?k ?b
      (case a => k_is); (case l => k_is); (case c => k_is); (case k => k_is); (case b => exact fun _ _ _ _ _ _ us hl => match us, hl with | [_, _], _ => rfl)
    have d_law_terms : Dd (L2.KOf KX) mg "_law_terms" My.s_law_terms ["pen", "drawing"] := by
      dsimp only [L2.KOf]
      refine' Dd.mk' KX G ?a ?l ?c ?k ?b
      (case a => k_is); (case l => k_is); (case c => k_is); (case k => k_is); (case b => exact fun _ _ _ _ _ _ us hl => match us, hl with | [_, _], _ => rfl)
    have d_law_gap : Dd (L2.KOf KX) mg "_law_gap" My.s_law_gap ["pen", "drawing"] := by
      dsimp only [L2.KOf]
      refine' Dd.mk' KX G ?a ?l ?c ?k ?b
      (case a => k_is); (case l => k_is); (case c => k_is); (case k => k_is); (case b => exact fun _ _ _ _ _ _ us hl => match us, hl with | [_, _], _ => rfl)
    have d_law_set : Dd (L2.KOf KX) mg "_law_set" My.s_law_set ["pen", "drawing"] := by
      dsimp only [L2.KOf]
      refine' Dd.mk' KX G ?a ?l ?c ?k ?b
      (case a => k_is); (case l => k_is); (case c => k_is); (case k => k_is); (case b => exact fun _ _ _ _ _ _ us hl => match us, hl with | [_, _], _ => rfl)
    have d_law_worth : Dd (L2.KOf KX) mg "_law_worth" My.s_law_worth ["gap", "one"] := by
      dsimp only [L2.KOf]
      refine' Dd.mk' KX G ?a ?l ?c ?k ?b
      (case a => k_is); (case l => k_is); (case c => k_is); (case k => k_is); (case b => exact fun _ _ _ _ _ _ us hl => match us, hl with | [_, _], _ => rfl)
    have d_law_rooms : Dd (L2.KOf KX) mg "_law_rooms" My.s_law_rooms ["drawing", "terms"] := by
      dsimp only [L2.KOf]
      refine' Dd.mk' KX G ?a ?l ?c ?k ?b
      (case a => k_is); (case l => k_is); (case c => k_is); (case k => k_is); (case b => exact fun _ _ _ _ _ _ us hl => match us, hl with | [_, _], _ => rfl)
    have d_law_rises : Dd (L2.KOf KX) mg "_law_rises" My.s_law_rises ["rooms", "rise"] := by
      dsimp only [L2.KOf]
      refine' Dd.mk' KX G ?a ?l ?c ?k ?b
      (case a => k_is); (case l => k_is); (case c => k_is); (case k => k_is); (case b => exact fun _ _ _ _ _ _ us hl => match us, hl with | [_, _], _ => rfl)
    have d_law_told : Dd (L2.KOf KX) mg "_law_told" My.s_law_told ["found", "least", "most"] := by
      dsimp only [L2.KOf]
      refine' Dd.mk' KX G ?a ?l ?c ?k ?b
      (case a => k_is); (case l => k_is); (case c => k_is); (case k => k_is); (case b => exact fun _ _ _ _ _ _ us hl => match us, hl with | [_, _, _], _ => rfl)
    have d_law_up_right : Dd (L2.KOf KX) mg "_law_up_right" My.s_law_up_right ["drawing", "gap", "rooms", "number"] := by
      dsimp only [L2.KOf]
      refine' Dd.mk' KX G ?a ?l ?c ?k ?b
      (case a => k_is); (case l => k_is); (case c => k_is); (case k => k_is); (case b => exact fun _ _ _ _ _ _ us hl => match us, hl with | [_, _, _, _], _ => rfl)
    have d_law_down_right : Dd (L2.KOf KX) mg "_law_down_right" My.s_law_down_right ["drawing", "gap", "rooms", "number"] := by
      dsimp only [L2.KOf]
      refine' Dd.mk' KX G ?a ?l ?c ?k ?b
      (case a => k_is); (case l => k_is); (case c => k_is); (case k => k_is); (case b => exact fun _ _ _ _ _ _ us hl => match us, hl with | [_, _, _, _], _ => rfl)
    have d_law_numbers : Dd (L2.KOf KX) mg "_law_numbers" My.s_law_numbers ["pen", "least", "most"] := by
      dsimp only [L2.KOf]
      refine' Dd.mk' KX G ?a ?l ?c ?k ?b
      (case a => k_is); (case l => k_is); (case c => k_is); (case k => k_is); (case b => exact fun _ _ _ _ _ _ us hl => match us, hl with | [_, _, _], _ => rfl)
    have d_law : Dd (L2.KOf KX) mg "law" My.s_law ["script"] := by
      dsimp only [L2.KOf]
      refine' Dd.mk' KX G ?a ?l ?c ?k ?b
      (case a => k_is); (case l => k_is); (case c => k_is); (case k => k_is); (case b => exact fun _ _ _ _ _ _ us hl => match us, hl with | [_], _ => rfl)
    have T : My.Txt mg := by
      refine' ⟨PySem.W.mg_none_of KX G ?z0, PySem.W.mg_none_of KX G ?z1, PySem.W.mg_none_of KX G ?z2, PySem.W.mg_none_of KX G ?z3, PySem.W.mg_none_of KX G ?z4, PySem.W.mg_none_of KX G ?z5, PySem.W.mg_none_of KX G ?z6, PySem.W.mg_none_of KX G ?z7, PySem.W.mg_none_of KX G ?z8, PySem.W.mg_none_of KX G ?z9⟩
      (case z0 => k_is); (case z1 => k_is); (case z2 => k_is); (case z3 => k_is); (case z4 => k_is); (case z5 => k_is); (case z6 => k_is); (case z7 => k_is); (case z8 => k_is); (case z9 => k_is)
    obtain ⟨f, fd, F, hm, _⟩ := d_law.ex
    have e0 := hmg.symm.trans hm
    cases e0
    exact ⟨fd, F.bind1 fun _ _ _ _ _ _ _ => rfl, fun base _ _ => My.ok_law F T d_plus d_multiplied d_size_of d_span_of d_reach d_reach_of_terms d_upward d_downward d_steps_of d_can_rise d_law_cell_at d_law_next d_law_pen d_law_draw d_law_whole d_law_number d_law_span d_law_names d_law_drawing d_law_ends d_law_terms d_law_gap d_law_set d_law_worth d_law_rooms d_law_rises d_law_told d_law_up_right d_law_down_right d_law_numbers⟩
#print axioms PySem.Challenge.cw_gaugewright_k14_next_worths_holds
